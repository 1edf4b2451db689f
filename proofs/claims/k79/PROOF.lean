import PyProof.Rows.All
import Wide.All
import OpenK.AllK
import Wide.FinOn
import Lean
import PyProof.EqAt
import PyProof.EqKinds
import PyProof.TupleCall
import PyProof.ReprRoads
import KE.KSortTup
import KE.KDictList
import KE.KMinKey
import KE.KIntText
import KE.KLam
import KE.KNestM
import PySem.Challenge.RW_panethread_k79_whole_rings_are_pieces
noncomputable section
abbrev Xi:=@PySem.wpAny_bind
abbrev Xj:=@List.getD_eq_getElem?_getD
abbrev Xk:=@List.getElem?_eq_getElem
abbrev Xl:=@PySem.wpAny_pure
abbrev Xm:=@List.getElem?_eq_some_iff
abbrev Xn:=@PySem.Heap.get?_push_of_some
abbrev Xo:=@Nat.le_refl
abbrev Xp:=@PySem.Heap.lt_size
abbrev Xq:=@Bool.false_ne_true
abbrev Xr:=@List.mem_cons
abbrev Xu:=@PySem.Heap.get?_push_size
abbrev Xv:=@List.size_toArray
abbrev Xw:=@List.mem_cons_of_mem
abbrev Xx:=@Bool.and_eq_true
abbrev Xy:=@Nat.lt_of_lt_of_le
abbrev Xz:=@List.mem_of_getElem?
abbrev XD:=@decide_eq_false
abbrev XF:=@decide_eq_true
abbrev XH:=@List.getElem?_map
abbrev XJ:=@List.mem_range
abbrev XM:=@List.getElem?_range
abbrev XN:=@Nat.ne_of_lt
abbrev XQ:=@Nat.le_trans
abbrev XR:=@List.mem_cons_self
abbrev XS:=@PyProof.Rows.callWith_type1
abbrev XX:=@List.getElem?_set_ne
abbrev X4:=@List.length_map
abbrev X5:=@PySem.wpAny_mono
abbrev X6:=@List.append_nil
abbrev X7:=@List.getElem?_append_right
abbrev X8:=@PySem.Heap.get?_update_other
abbrev Yb:=@Array.length_toList
abbrev Yc:=@List.lookup_cons
abbrev Yd:=@List.mem_nil_iff
abbrev Ye:=@Option.some.inj
abbrev Yg:=@List.getElem?_append_left
abbrev Yh:=@List.mem_map
abbrev Yi:=@PySem.wpAny_Call_Name_kw
abbrev Yj:=@List.map_append
abbrev Yk:=@List.getElem?_set_self
abbrev Yl:=@PySem.wpAny_holding
abbrev Ym:=@List.mem_append_right
abbrev Yn:=@List.all_cons
abbrev Yo:=@PySem.PassesOwn.never
abbrev Yp:=@PySem.W.mg_none_of
abbrev Yq:=@PySem.mem_of_lookup
abbrev Yr:=@List.length_append
abbrev Ys:=@PySem.Heap.get?_update_self
abbrev Yt:=@PySem.W.mg_of
abbrev Yu:=@List.map_cons
abbrev Yv:=@List.mem_singleton
abbrev Yw:=@List.getElem?_eq_none
abbrev Yx:=@List.mem_append
abbrev Yy:=@List.length_cons
abbrev Yz:=@Nat.lt_irrefl
abbrev YB:=@PySem.wpAny_newObj_type
abbrev YC:=@List.take_of_length_le
abbrev YD:=@PySem.W.kia_one
abbrev YF:=@List.getElem_mem
abbrev YG:=@Nat.zero_le
abbrev YH:=@List.replicate_succ
abbrev YJ:=@PySem.W.looks_findIn
abbrev YK:=@Nat.lt_of_le_of_lt
abbrev YL:=@Nat.le_add_right
abbrev YM:=@List.take_length
abbrev YQ:=@PySem.wpAny_truthy_bool
abbrev YS:=@PySem.wpAny_loadPart_at
abbrev YT:=@List.take_add_one
abbrev YW:=@List.all_eq_true
abbrev YX:=@PySem.codeAny_call_builtin
abbrev YZ:=@PySem.F.plainAttrs_list
abbrev Y0:=@PySem.wpAny_loadPart
abbrev Y4:=@PySem.Heap.size_push
abbrev Y5:=@PySem.wpAny_of_eq
abbrev Y6:=@PyProof.Rows.slot_tuple_getitem
abbrev Y7:=@PySem.builtinLookup_eq_fast
abbrev Y8:=@beq_iff_eq
abbrev Y9:=@List.length_take
abbrev Za:=@PySem.wpAny_field
abbrev Zb:=@Std.Legacy.Range.forIn_eq_forIn_range'
abbrev Zc:=@Nat.add_sub_cancel_left
abbrev Zd:=@PySem.SeqAt.EqAt.same
abbrev Ze:=@beq_eq_false_iff_ne
abbrev Zf:=@List.length_drop
abbrev Zg:=@PySem.F.plain_max_loop
abbrev Zh:=@PySem.wpAny_call
abbrev Zi:=@PySem.W.callWith_K
abbrev Zj:=@PySem.Obj.data_mapFields
abbrev Zk:=@List.contains_cons
abbrev Zm:=@List.range_add
abbrev Zn:=@PySem.wpAny_passesOwn
abbrev Zo:=@List.flatten_cons
abbrev Zq:=@Nat.le_of_succ_le
abbrev Zr:=@List.mem_iff_getElem
abbrev Zt:=@List.length_range
abbrev Zu:=@List.mem_of_mem_take
abbrev Zv:=@List.map_map
abbrev Zw:=@PySem.wpAny_isSubtype_exc
abbrev Zx:=@Nat.lt_succ_self
abbrev Zy:=@PySem.wpAny_callSpecial?_slot
abbrev Zz:=@PySem.wpAny_getItem_str_slice
abbrev ZC:=@Nat.ne_of_gt
abbrev ZD:=@List.drop_eq_nil_of_le
abbrev ZF:=@List.map_replicate
abbrev ZG:=@List.length_eq_one_iff
abbrev ZJ:=@Bool.eq_iff_iff
abbrev ZK:=@List.find?_cons
abbrev ZL:=@PySem.wpAny_specialOf
abbrev ZM:=@PySem.typeLookup_type
abbrev ZP:=@Nat.min_eq_left
abbrev ZQ:=@PySem.Obj.isFreed_of_fields
abbrev ZR:=@List.append_assoc
abbrev ZS:=@List.ext_getElem?
abbrev ZV:=@List.mem_append_left
abbrev ZW:=@PySem.isSubtype_type
abbrev ZX:=@PySem.wpAny_setField
abbrev ZZ:=@PySem.Around.under_plainId
abbrev Z2:=@PySem.wpAny_tryCatch
abbrev Z3:=@PySem.wpAny_call_entry
abbrev Z4:=@List.cons_append
abbrev Z5:=@Nat.min_eq_right
abbrev Z6:=@List.mem_flatMap
abbrev Z7:=@List.nodup_range
abbrev Z8:=@PySem.wpAny_standAt
abbrev Z9:=@PySem.plainId_quiet
abbrev gV:=@PySem.wpAny_attempt
local macro_rules | `(tactic| trivial) => `(tactic| decide +kernel)
set_option compiler.extract_closed false
set_option Elab.async false
set_option linter.all false
set_option maxRecDepth 100000
namespace L2
@[elab_as_elim] theorem jc {p:List PySem.Value->Prop} (h:∀ a0:PySem.Value,p [a0]) (us:List PySem.Value) (hl:us.length=1):p us:=by
 rcases us with _ | ⟨a0,us0⟩
 ·cases hl
 rcases us0 with _ | ⟨b,us⟩
 ·exact h a0
 ·cases hl
@[elab_as_elim] theorem rD {p:List PySem.Value->Prop} (h:∀ a0 a1:PySem.Value,p [a0,a1]) (us:List PySem.Value) (hl:us.length=2):p us:=by
 rcases us with _ | ⟨a0,us0⟩
 ·cases hl
 rcases us0 with _ | ⟨a1,us1⟩
 ·cases hl
 rcases us1 with _ | ⟨b,us⟩
 ·exact h a0 a1
 ·cases hl
@[elab_as_elim] theorem uE {p:List PySem.Value->Prop} (h:∀ a0 a1 a2:PySem.Value,p [a0,a1,a2]) (us:List PySem.Value) (hl:us.length=3):p us:=by
 rcases us with _ | ⟨a0,us0⟩
 ·cases hl
 rcases us0 with _ | ⟨a1,us1⟩
 ·cases hl
 rcases us1 with _ | ⟨a2,us2⟩
 ·cases hl
 rcases us2 with _ | ⟨b,us⟩
 ·exact h a0 a1 a2
 ·cases hl
@[elab_as_elim] theorem usN4 {p:List PySem.Value->Prop} (h:∀ a0 a1 a2 a3:PySem.Value,p [a0,a1,a2,a3]) (us:List PySem.Value) (hl:us.length=4):p us:=by
 rcases us with _ | ⟨a0,us0⟩
 ·cases hl
 rcases us0 with _ | ⟨a1,us1⟩
 ·cases hl
 rcases us1 with _ | ⟨a2,us2⟩
 ·cases hl
 rcases us2 with _ | ⟨a3,us3⟩
 ·cases hl
 rcases us3 with _ | ⟨b,us⟩
 ·exact h a0 a1 a2 a3
 ·cases hl
@[elab_as_elim] theorem Vg {p:List PySem.Value->Prop} (h:∀ a0 a1 a2 a3 a4:PySem.Value,p [a0,a1,a2,a3,a4]) (us:List PySem.Value) (hl:us.length=5):p us:=by
 rcases us with _ | ⟨a0,us0⟩
 ·cases hl
 rcases us0 with _ | ⟨a1,us1⟩
 ·cases hl
 rcases us1 with _ | ⟨a2,us2⟩
 ·cases hl
 rcases us2 with _ | ⟨a3,us3⟩
 ·cases hl
 rcases us3 with _ | ⟨a4,us4⟩
 ·cases hl
 rcases us4 with _ | ⟨b,us⟩
 ·exact h a0 a1 a2 a3 a4
 ·cases hl
@[elab_as_elim] theorem usN6 {p:List PySem.Value->Prop} (h:∀ a0 a1 a2 a3 a4 a5:PySem.Value,p [a0,a1,a2,a3,a4,a5]) (us:List PySem.Value) (hl:us.length=6):p us:=by
 rcases us with _ | ⟨a0,us0⟩
 ·cases hl
 rcases us0 with _ | ⟨a1,us1⟩
 ·cases hl
 rcases us1 with _ | ⟨a2,us2⟩
 ·cases hl
 rcases us2 with _ | ⟨a3,us3⟩
 ·cases hl
 rcases us3 with _ | ⟨a4,us4⟩
 ·cases hl
 rcases us4 with _ | ⟨a5,us5⟩
 ·cases hl
 rcases us5 with _ | ⟨b,us⟩
 ·exact h a0 a1 a2 a3 a4 a5
 ·cases hl
theorem auto1 (h:True:=by first | exact .inl rfl | exact .inr rfl | assumption):True:=h
theorem auto2 (h:True:=by decide):True:=h
theorem auto3 (h:True:=by intro _;rfl):True:=h
theorem auto4 (h:True:=by rfl):True:=h
theorem auto5 (h:True:=by with_unfolding_all rfl):True:=h
theorem auto6 (h:True:=by trivial):True:=h
theorem auto7 (h:True:=by kernel_rfl):True:=h
open PySem PySem.Spec PyProof.Rows
abbrev Key:=Sum Int Str
def w6:Key->Value->Bool
 | .inl k,v=>Value.isInt k v
 | .inr x,v=>Value.isStrOf x v
def keyH (w:World):Key->Int
 | .inl k=>hashInt k
 | .inr x=>hashStr w x
theorem dY:∀ {k:Key} {v:Value},w6 k v=true->(∃ i t,k=Sum.inl i/\v=Value.int i t)\/(∃ x t,k=Sum.inr x/\v=Value.str x t)
 | .inl i,v,h=>by
  obtain ⟨t,e⟩:=Value.isInt_shape (k:=i) (v:=v) h
  exact .inl ⟨i,t,rfl,e⟩
 | .inr x,v,h=>by
  obtain ⟨t,e⟩:=Value.isStrOf_shape (x:=x) (v:=v) h
  exact .inr ⟨x,t,rfl,e⟩
theorem FW (i:Int) (t:Tok):w6 (.inl i) (.int i t)=true:=by simp [w6,Value.isInt]
theorem FZ (x:Str) (t:Tok):w6 (.inr x) (.str x t)=true:=by simp [w6,Value.isStrOf]
theorem QZ (a b:Int):decide ((Sum.inl a:Key)=Sum.inl b)=(a == b):=by
 by_cases e:a=b
 ·subst e;simp
 ·have h:¬ (Sum.inl a:Key)=Sum.inl b:=fun q=>e (Sum.inl.inj q)
  rw [XD h]
  exact (Ze.mpr e).symm
theorem Q0 (a b:Str):decide ((Sum.inr a:Key)=Sum.inr b)=decide (a=b):=by
 by_cases e:a=b
 ·subst e;simp
 ·have h:¬ (Sum.inr a:Key)=Sum.inr b:=fun q=>e (Sum.inr.inj q)
  rw [XD h,XD e]
theorem Q3 (a:Int) (b:Str):decide ((Sum.inl a:Key)=Sum.inr b)=false:=XD (fun q=>nomatch q)
theorem Q4 (a:Str) (b:Int):decide ((Sum.inr a:Key)=Sum.inl b)=false:=XD (fun q=>nomatch q)
def cu (prog:Program) (w:World):PySem.KeyKind prog w Key where
 is:=w6
 hash:=keyH w
 inj:=fun v a b ha hb=>by
  rcases dY ha with ⟨i,t,rfl,rfl⟩ | ⟨x,t,rfl,rfl⟩
  ·rcases dY hb with ⟨j,u,rfl,e⟩ | ⟨y,u,rfl,e⟩
   ·injection e with e1 _;rw [e1]
   ·exact nomatch e
  ·rcases dY hb with ⟨j,u,rfl,e⟩ | ⟨y,u,rfl,e⟩
   ·exact nomatch e
   ·injection e with e1 _;rw [e1]
 byValue:=fun k v h=>by
  rcases dY h with ⟨i,t,rfl,rfl⟩ | ⟨x,t,rfl,rfl⟩ <;> rfl
 pyHash:=fun hv h=>by
  rcases dY hv with ⟨i,t,rfl,rfl⟩ | ⟨x,t,rfl,rfl⟩
  ·exact wpAny_pyHash_int h
  ·exact wpAny_pyHash_str h
 eqBool:=fun hu hv h=>by
  rcases dY hu with ⟨i,t,rfl,rfl⟩ | ⟨x,t,rfl,rfl⟩
  ·rcases dY hv with ⟨j,u,rfl,rfl⟩ | ⟨y,u,rfl,rfl⟩
   ·rw [QZ] at h;exact wpAny_eqBool_int h
   ·rw [Q3] at h;exact SeqAt.EqAt.int_str i t y u _ _ _ _ h
  ·rcases dY hv with ⟨j,u,rfl,rfl⟩ | ⟨y,u,rfl,rfl⟩
   ·rw [Q4] at h;exact SeqAt.EqAt.str_int x t j u _ _ _ _ h
   ·rw [Q0] at h;exact wpAny_eqBool_str h
 «strs»:=fun k x t v h=>by
  rcases dY h with ⟨i,u,rfl,e⟩ | ⟨y,u,rfl,e⟩
  ·exact nomatch e
  ·injection e with e1 _
   subst e1
   cases v <;> rfl
theorem zG (prog:Program) (w:World) (i:Int) (t:Tok):(cu prog w).is (.inl i) (.int i t)=true:=FW i t
theorem zH (prog:Program) (w:World) (x:Str) (t:Tok):(cu prog w).is (.inr x) (.str x t)=true:=FZ x t
end L2
namespace L2
open PySem PySem.Spec PyProof.Rows
inductive V where
 | non | bl (b:Bool) | int (i:Int) | str (x:Str) | byt (b:Array UInt8) | flt (b:UInt64) | ref (a:Addr) | ty (n:String)
 deriving DecidableEq
def RelV:V->Value->Prop
 | .non,u=>u=Value.none
 | .bl b,u=>u=Value.bool b
 | .int i,u=>∃ t,u=Value.int i t
 | .str x,u=>∃ t,u=Value.str x t
 | .byt b,u=>∃ t,u=Value.bytes b t
 | .flt b,u=>∃ t,u=Value.float b t
 | .ref a,u=>u=Value.ref a
 | .ty n,u=>u=Value.type n
abbrev Vals:List V->List Value->Prop:=Paired RelV
theorem Vals.length {xs:List V} {us:List Value} (r:Vals xs us):xs.length=us.length:=Paired.length r
theorem Vals.get:∀ {xs:List V} {us:List Value} {i:Nat} {x:V},Vals xs us->xs[i]?=some x->∃ u,us[i]?=some u/\RelV x u
 | _,_,_,_,.nil,e=>by simp at e
 | _,_,0,_,.cons r _,e=>by simp at e;subst e;exact ⟨_,rfl,r⟩
 | _,_,i+1,x,.cons _ t,e=>by
  obtain ⟨u,h1,h2⟩:=Vals.get (i:=i) (x:=x) t (by simpa using e)
  exact ⟨u,by simpa using h1,h2⟩
theorem Vals.set {x:V} {u:Value} (r:RelV x u):∀ {xs:List V} {us:List Value} (i:Nat),Vals xs us->Vals (xs.set i x) (us.set i u)
 | _,_,_,.nil=>.nil
 | _,_,0,.cons _ t=>.cons r t
 | _,_,i+1,.cons q t=>.cons q (Vals.set r i t)
theorem Vals.append:∀ {xs ys:List V} {us ws:List Value},Vals xs us->Vals ys ws->Vals (xs ++ ys) (us ++ ws)
 | _,_,_,_,.nil,s=>s
 | _,_,_,_,.cons r t,s=>.cons r (Vals.append t s)
theorem Vals.take:∀ {xs:List V} {us:List Value} (n:Nat),Vals xs us->Vals (xs.take n) (us.take n)
 | _,_,0,_=>.nil
 | _,_,_+1,.nil=>.nil
 | _,_,n+1,.cons r t=>.cons r (Vals.take n t)
theorem Vals.drop:∀ {xs:List V} {us:List Value} (n:Nat),Vals xs us->Vals (xs.drop n) (us.drop n)
 | _,_,0,r=>r
 | _,_,_+1,.nil=>.nil
 | _,_,n+1,.cons _ t=>Vals.drop n t
def RelO:Option V->Option Value->Prop
 | some v,some u=>RelV v u
 | none,none=>True
 | _,_=>False
def KV {κ:Type}:List (κ×V)->List (κ×Value)->Prop:=Paired fun (p:κ×V) (q:κ×Value)=>p.1=q.1/\RelV p.2 q.2
def kV:Key->V
 | .inl i=>.int i
 | .inr x=>.str x
inductive HO where
 /-- a list -/
 | lst (xs:List V)
 /-- a tuple (never changes) -/
 | tup (xs:List V)
 /-- a dict whose keys are ints and texts;one whose keys are tuples of ints and texts (the empty one is both) -/
 | dK (kvs:List (Key×V)) | dT (kvs:List (List Key×V))
 /-- a set of ints:its members,its size -/
 | set (S:Int->Bool) (n:Nat)
 /-- an instance of the class at C,its dict at dx,its attributes -/
 | ins (C dx:Addr) (fs:List (Str×V))
 /-- the dict of the instance at x -/
 | own (x:Addr)
 /-- the dict of an exception -/
 | xd (fs:List (Str×V))
 /-- a bound method,f of x -/
 | met (f x:Addr)
 /-- a range object lo,lo+1,.. below hi -/
 | rng (lo hi:Int)
 /-- a thing that is known to the object (the script;a dict while a loop walks it):read,never written while it is so -/
 | frz (o:Obj) (u:HO)
 /-- a code object's table -/
 | tbl (ps:Array Value)
 /-- any other thing,by what is true of its one object (a def of one's own:SetO a S n:=HO.ext fun h=>..) -/
 | ext (φ:Heap->Prop)
abbrev Hp:=Addr->Option HO
def upd (H:Hp) (a:Addr) (o:HO):Hp:=fun b=>if b=a then some o else H b
theorem aj {H:Hp} {a:Addr} {o:HO}:upd H a o a=some o:=by unfold upd;rw [if_pos rfl]
theorem aD {H:Hp} {a b:Addr} {o:HO} (h:b≠a):upd H a o b=H b:=by unfold upd;rw [if_neg h]
theorem Dy {H:Hp} {a:Addr} {o u:HO}:upd (upd H a o) a u=upd H a u:=by
 funext b;unfold upd;split <;> rfl
theorem Vh {H:Hp} {a b:Addr} {o u:HO} (h:H a=some o) (h':H b=some u) (d:o≠u):a≠b:=by
 intro e;subst e;rw [h] at h';exact d (Ye h')
theorem lu {H:Hp} {a b:Addr} {o:HO} (h:H a=some o) (h':H b=none):a≠b:=by
 intro e;subst e;rw [h] at h';cases h'
section
variable (P:Program) (w:World)
def ObjOk (H:Hp) (h:Heap) (a:Addr):HO->Prop
 | .lst xs=>xs.length<=sizeLine/\∃ (its:List Value) (n:Nat),Vals xs its/\h.get? a=some {cls:=.type "list",data:=.seq its.toArray n}
 | .tup xs=>xs.length<=sizeLine/\∃ its:List Value,Vals xs its/\IsTup h a its.toArray
 | .dK kvs=>kvs.length<=sizeLine/\(a == sysModules)=false/\∃ vs,KV kvs vs/\h.DictOf (cu P w) a vs
 | .dT kvs=>kvs.length<=sizeLine/\(a == sysModules)=false/\∃ xs:List (List Key×Addr×Value),
   Paired (fun (p:List Key×V) (q:List Key×Addr×Value)=>p.1=q.1/\H q.2.1=some (.tup (p.1.map kV))/\RelV p.2 q.2.2) kvs xs/\
   ∃ o es ep,h.get? a=some o/\o.ExactDict/\o.data= .dict es ep/\es.toList=xs.map (entryOfKey (tupleKind (cu P w)))/\(xs.map (·.1)).Nodup
 | .set S n=>h.SetOf (intKind P w) a S n
 | .ins C dx fs=>H dx=some (.own a)/\fs.length<=1000/\dx≠a/\h.get? a=some (PySem.W.instObj C dx)/\
   ∃ mA,h.Ns1 dx mA/\(∀ f,RelO (fs.lookup f) (mA f))/\PySem.Within mA (fs.map (·.1))
 | .own _=>∃ o,h.get? a=some o
 | .xd fs=>∃ mA,h.Ns1 a mA/\∀ f,RelO (fs.lookup f) (mA f)
 | .rng lo hi=>∃ t u v,h.get? a=some {cls:=.type "range",data:=.fields #[.int lo t,.int hi u,.int 1 v]}
 | .frz o u=>h.get? a=some o/\ObjOk H h a u
 | .tbl ps=>h.get? a=some {cls:=.none,data:=.fields ps}
 | .met f x=>h.get? a=some (PySem.W.methodObj (.ref f) (.ref x))
 | .ext φ=>φ h/\(∃ o,h.get? a=some o)/\∀ h1 h2:Heap,φ h1->(∀ o,h1.get? a=some o->h2.get? a=some o)->φ h2
def HOk (H:Hp) (h:Heap):Prop:=∀ a o,H a=some o->ObjOk P w H h a o
end
section
variable {P:Program} {w:World} {H H':Hp} {h h':Heap} {a:Addr} {o:HO}
theorem ObjOk.lt (x:ObjOk P w H h a o):a < h.objs.size:=by
 cases o with
 | lst xs=>obtain ⟨_,_,_,_,e⟩:=x;exact Xp e
 | tup xs=>obtain ⟨_,_,_,p⟩:=x;exact p.lt
 | dK kvs=>obtain ⟨_,_,_,_,o,_,_,e,_⟩:=x;exact Xp e
 | dT kvs=>obtain ⟨_,_,_,_,o,_,_,e,_⟩:=x;exact Xp e
 | set S n=>obtain ⟨o,_,_,_,e,_⟩:=x;exact Xp e
 | ins C dx fs=>obtain ⟨_,_,_,e,_⟩:=x;exact Xp e
 | own y=>obtain ⟨_,e⟩:=x;exact Xp e
 | xd fs=>obtain ⟨_,⟨_,_,_,e,_⟩,_⟩:=x;exact Xp e
 | rng lo hi=>obtain ⟨_,_,_,e⟩:=x;exact Xp e
 | frz ob u=>obtain ⟨e,_⟩:=x;exact Xp e
 | tbl ps=>exact Xp (show h.get? a=some _ from x)
 | met f y=>exact Xp (show h.get? a=some _ from x)
 | ext φ=>obtain ⟨_,⟨_,e⟩,_⟩:=x;exact Xp e
theorem Paired.mapP {α β:Type} {F G:α->β->Prop}:∀ {l₁:List α} {l₂:List β},Paired F l₁ l₂->(∀ a b,F a b->G a b)->Paired G l₁ l₂
 | _,_,.nil,_=>.nil
 | _,_,.cons r t,f=>.cons (f _ _ r) (Paired.mapP t f)
theorem ObjOk.stay (x:ObjOk P w H h a o) (k:∀ b u,(b=a\/H b=some (.own a))->h.get? b=some u->h'.get? b=some u)
  (ho:∀ b,H b=some (.own a)->H' b=some (.own a)) (ht:∀ b xs,H b=some (.tup xs)->H' b=some (.tup xs)):ObjOk P w H' h' a o:=by
 induction o with
 | lst xs=>obtain ⟨z,its,n,r,e⟩:=x;exact ⟨z,its,n,r,k _ _ (.inl rfl) e⟩
 | tup xs=>obtain ⟨z,its,r,ob,e,c⟩:=x;exact ⟨z,its,r,ob,k _ _ (.inl rfl) e,c⟩
 | dK kvs=>obtain ⟨z,y,vs,r,ob,es,ep,e,c⟩:=x;exact ⟨z,y,vs,r,ob,es,ep,k _ _ (.inl rfl) e,c⟩
 | dT kvs=>
  obtain ⟨z,y,xs,r,ob,es,ep,e,c⟩:=x
  exact ⟨z,y,xs,Paired.mapP r fun p q z=>⟨z.1,ht _ _ z.2.1,z.2.2⟩,ob,es,ep,k _ _ (.inl rfl) e,c⟩
 | set S n=>obtain ⟨ob,es,ep,t,e,c⟩:=x;exact ⟨ob,es,ep,t,k _ _ (.inl rfl) e,c⟩
 | ins C dx fs=>
  obtain ⟨d,z,ne,e,mA,⟨od,es,ep,e2,c⟩,r⟩:=x
  exact ⟨ho _ d,z,ne,k _ _ (.inl rfl) e,mA,⟨od,es,ep,k _ _ (.inr d) e2,c⟩,r⟩
 | own y=>obtain ⟨ob,e⟩:=x;exact ⟨ob,k _ _ (.inl rfl) e⟩
 | xd fs=>obtain ⟨mA,⟨od,es,ep,e,c⟩,r⟩:=x;exact ⟨mA,⟨od,es,ep,k _ _ (.inl rfl) e,c⟩,r⟩
 | rng lo hi=>obtain ⟨t,u,v,e⟩:=x;exact ⟨t,u,v,k _ _ (.inl rfl) e⟩
 | frz ob u ih=>obtain ⟨e,q⟩:=x;exact ⟨k _ _ (.inl rfl) e,ih q⟩
 | tbl ps=>
  have e:h.get? a=some {cls:=.none,data:=.fields ps}:=x
  show h'.get? a=some {cls:=.none,data:=.fields ps}
  exact k a _ (.inl rfl) e
 | met f y=>
  have e:h.get? a=some (PySem.W.methodObj (.ref f) (.ref y)):=x
  show h'.get? a=some (PySem.W.methodObj (.ref f) (.ref y))
  exact k a _ (.inl rfl) e
 | ext φ=>obtain ⟨p,⟨o,e⟩,st⟩:=x;exact ⟨st _ _ p fun o q=>k _ _ (.inl rfl) q,⟨o,k _ _ (.inl rfl) e⟩,st⟩
theorem HOk.lt (x:HOk P w H h) (e:H a=some o):a < h.objs.size:=(x a o e).lt
theorem HOk.fresh (x:HOk P w H h) (e:h.objs.size<=a):H a=none:=by
 cases q:H a with
 | none=>rfl
 | some u=>exact absurd (Xy (x.lt q) e) (Yz _)
theorem HOk.kept (x:HOk P w H h) (k:∀ b u,h.get? b=some u->h'.get? b=some u):HOk P w H h':=fun a o e=>
 (x a o e).stay (fun b u _ q=>k b u q) (fun _ q=>q) fun _ _ q=>q
theorem HOk.laid (x:HOk P w H h) (k:∀ b u,h.get? b=some u->h'.get? b=some u) (hp:h.objs.size<=a) (new:ObjOk P w (upd H a o) h' a o):HOk P w (upd H a o) h':=fun b u e=>by
 have hn:=x.fresh hp
 by_cases hb:b=a
 ·subst hb;rw [aj] at e;cases e;exact new
 ·rw [aD hb] at e
  exact (x b u e).stay (fun c v _ q=>k c v q) (fun c q=>by rw [aD (lu q hn)];exact q) fun c xs q=>by rw [aD (lu q hn)];exact q
end
def Rd (H:Hp) (a:Addr) (u:HO):Prop:=H a=some u\/∃ o,H a=some (.frz o u)
theorem Rd.ok {P:Program} {w:World} {H:Hp} {h:Heap} {a:Addr} {u:HO} (r:Rd H a u) (x:HOk P w H h):ObjOk P w H h a u:=by
 rcases r with r | ⟨o,r⟩
 ·exact x a u r
 ·obtain ⟨_,q⟩:=x a _ r
  exact q
def Vi:Option HO->Prop
 | some (.lst _)=>True
 | some (.dK _)=>True
 | some (.dT _)=>True
 | some (.set _ _)=>True
 | some (.ins _ _ _)=>True
 | some (.ext _)=>True
 | _=>False
section
variable {P:Program} {w:World} {H:Hp} {h h':Heap} {x e:Addr} {o':HO}
theorem HOk.write (ok:HOk P w H h) (mu:Vi (H x)) (he:e=x\/H e=some (.own x)) (k:∀ b u,b≠e->h.get? b=some u->h'.get? b=some u) (heo:∃ u,h'.get? e=some u)
  (new:ObjOk P w (upd H x o') h' x o'):HOk P w (upd H x o') h':=fun b u q=>by
 have nown:∀ c y,H c=some (.own y)->c≠x:=fun c y r z=>by subst z;rw [r] at mu;exact mu
 have ntup:∀ c xs,H c=some (.tup xs)->c≠x:=fun c xs r z=>by subst z;rw [r] at mu;exact mu
 by_cases hb:b=x
 ·subst hb;rw [aj] at q;cases q;exact new
 ·rw [aD hb] at q
  by_cases hbe:b=e
  ·have q':H b=some (.own x):=by
    rcases he with z | z
    ·exact absurd (hbe.trans z) hb
    ·rw [hbe];exact z
   rw [q] at q';cases q'
   obtain ⟨v,hv⟩:=heo
   exact ⟨v,by rw [hbe];exact hv⟩
  ·refine (ok b u q).stay (fun c v hc r=>k c v ?_ r) (fun c r=>by rw [aD (nown c b r)];exact r) fun c xs r=>by rw [aD (ntup c xs r)];exact r
   rcases hc with rfl | hc
   ·exact hbe
   ·rintro rfl
    rcases he with z | z
    ·exact nown c b hc z
    ·rw [hc] at z;cases z;exact hb rfl
end
structure Un (fs ex:List Addr) (H H':Hp) (h h':Heap):Prop where
 keep:∀ b o,h.get? b=some o->H b=none->b ∉ fs->b ∉ ex->h'.get? b=some o
 slot:∀ b o,h.get? b=some o->H b=none->b∈fs->b ∉ ex->∃ sl,h'.get? b=some {o with slots:=sl}
 free:∀ b o,h.get? b=some o->H b=none->b ∉ ex->H' b=none
 there:∀ b o,h.get? b=some o->b ∉ ex->∃ o',h'.get? b=some o'
 tups:∀ b xs,H b=some (.tup xs)->H' b=some (.tup xs)
 frzs:∀ b o u,H b=some (.frz o u)->H' b=some (.frz o u)
 tbls:∀ b ps,H b=some (.tbl ps)->∃ more,H' b=some (.tbl (ps ++ more))
section
variable {fs fs' ex ex':List Addr} {H H1 H2:Hp} {h h1 h2 h':Heap} {a x e:Addr} {o:HO}
theorem Un.any (u:Un fs ex H H1 h h1) {b:Addr} {ob:Obj} (q:h.get? b=some ob) (n:H b=none) (hx:b ∉ ex):∃ sl,h1.get? b=some {ob with slots:=sl}:=by
 by_cases hb:b∈fs
 ·exact u.slot b ob q n hb hx
 ·exact ⟨ob.slots,u.keep b ob q n hb hx⟩
theorem Un.kept (k:∀ b u,h.get? b=some u->h'.get? b=some u):Un fs ex H H h h':=
 ⟨fun b ob q _ _ _=>k b ob q,fun b ob q _ _ _=>⟨ob.slots,k b ob q⟩,fun _ _ _ n _=>n,fun b ob q _=>⟨ob,k b ob q⟩,fun _ _ q=>q,fun _ _ _ q=>q,fun _ ps q=>⟨#[],by rw [q];simp⟩⟩
theorem Un.refl:Un fs ex H H h h:=Un.kept fun _ _ q=>q
theorem Un.laid (k:∀ b u,h.get? b=some u->h'.get? b=some u) (hp:h.objs.size<=a) (hn:H a=none):Un fs ex H (upd H a o) h h' where
 keep:=fun b u q _ _ _=>k b u q
 slot:=fun b u q _ _ _=>⟨u.slots,k b u q⟩
 free:=fun b u q n _=>by rw [aD (XN (Xy (Xp q) hp))];exact n
 there:=fun b u q _=>⟨u,k b u q⟩
 tups:=fun b xs q=>by rw [aD (lu q hn)];exact q
 frzs:=fun b u xs q=>by rw [aD (lu q hn)];exact q
 tbls:=fun b ps q=>⟨#[],by rw [aD (lu q hn),q];simp⟩
theorem Un.write (mu:Vi (H x)) (he:e=x\/H e=some (.own x)) (k:∀ b u,b≠e->h.get? b=some u->h'.get? b=some u) (heo:∃ u,h'.get? e=some u):Un fs ex H (upd H x o) h h':=by
 have hx:∀ b,H b=none->b≠x:=fun b n z=>by subst z;rw [n] at mu;exact mu
 have hb:∀ b,H b=none->b≠e:=fun b n z=>by
  subst z
  rcases he with r | r
  ·exact hx b n r
  ·rw [n] at r;cases r
 have hm:∀ b u,H b=some u->¬ Vi (some u)->b≠x:=fun b u q nm z=>by subst z;rw [q] at mu;exact nm mu
 refine ⟨fun b u q n _ _=>k b u (hb b n) q,fun b u q n _ _=>⟨u.slots,k b u (hb b n) q⟩,fun b u q n _=>by rw [aD (hx b n)];exact n,fun b u q _=>?_,
  fun b xs q=>by rw [aD (hm b _ q fun z=>z)];exact q,fun b u xs q=>by rw [aD (hm b _ q fun z=>z)];exact q,fun b ps q=>⟨#[],by rw [aD (hm b _ q fun z=>z),q];simp⟩⟩
 by_cases hbe:b=e
 ·subst hbe;exact heo
 ·exact ⟨u,k b u hbe q⟩
end
def Mf (h:Heap) (H:Hp):List Addr:=(List.range h.objs.size).filter fun a=>(H a).isSome
def yq (h:Heap) (H:Hp):Heap:=PySem.W.hideAll h (Mf h H)
theorem Ga (h:Heap) (H:Hp):(yq h H).objs.size=h.objs.size:=PySem.W.hideAll_size _ _
theorem HW {h:Heap} {H:Hp} {b:Addr} {o:Obj} (e:h.get? b=some o) (n:H b=none):(yq h H).get? b=some o:=
 PySem.W.hideAll_get _ e fun hm=>by
  have q:(H b).isSome=true:=(List.mem_filter.mp hm).2
  rw [n] at q;simp at q
theorem Mi {h:Heap} {H:Hp} {b:Addr} {o:Obj} (e:(yq h H).get? b=some o):h.get? b=some o/\H b=none:=by
 have e':h.get? b=some o:=PySem.W.of_hideAll (Mf h H) e
 refine ⟨e',?_⟩
 cases q:H b with
 | none=>rfl
 | some x=>
  have hm:b∈Mf h H:=List.mem_filter.mpr ⟨XJ.mpr (Xp e'),by simp [q]⟩
  have z:(yq h H).get? b=none:=PySem.W.hideAll_none (Mf h H) hm
  rw [z] at e;cases e
structure Mod (K:W.Frag) (mg:Str->Option Value) (base:Heap):Prop where
 kin:K.In base
 glob:base.Ns mainGlobals mg
 blt:∃ mb,base.Ns builtinsNs mb/\∀ x:Str,x≠"__name__"->mb x=bootBuiltins x
 nolimit:base.NoLimit
 sysm:∃ mm,base.Ns sysModules mm
 bmn:∃ bm ob,mg "__builtins__"=some (.ref bm)/\bm≠builtinsNs/\base.get? bm=some ob/\ob.cls= .type "module"/\ob.dict=some builtinsNs/\ob.data= .plain
structure Cx where
 prog:Program
 w:World
 K:W.Frag
 mg:Str->Option Value
 base:Heap
 A:Around
 N:List Str
 s₀:Shared
 H₀:Hp
 env:Env
 outer:List Env
 stack:List Env
 ex:List Addr
 fn:Str->Bool
 calm:Bool
 pn:List (Addr×Obj)
 xe:Value->Shared->Prop
def frs (l:List Env):List Addr:=l.filterMap (·.frame)
abbrev Cx.fs (X:Cx):List Addr:=frs X.outer
def Vj (sc:Scope) (x:Str):Prop:=sc.names.lookup x=some .local\/sc.names.lookup x=some .cell\/sc.names.lookup x=some .free
def Loc (sc:Scope) (x:Str):Prop:=sc.names.lookup x=some .local\/sc.names.lookup x=some .cell
def Look (env:Env) (h:Heap) (m:Str->Option Value) (x:Str) (u:Value):Prop:=
 (env.kindOf x=some .local/\m x=some u)\/((env.kindOf x=some .cell\/env.kindOf x=some .free)/\∃ c,env.cells.lookup x=some c/\h.IsCell c (some u))
structure Cx.Ok (X:Cx):Prop where
 mod:Mod X.K X.mg X.base
 kind:X.env.scope.kind= .function
 glob:X.env.globals=mainGlobals
 blt:X.env.builtins=builtinsNs
 above:X.s₀.heap.objs.size<=X.env.locals
 inj:∀ x y c,X.env.cells.lookup x=some c->X.env.cells.lookup y=some c->x=y
 has:∀ x,(X.env.kindOf x=some .cell\/X.env.kindOf x=some .free)->∃ c,X.env.cells.lookup x=some c
 cab:∀ x c,X.fn x=true->X.env.cells.lookup x=some c->X.s₀.heap.objs.size<=c
 hd:X.calm=true->X.A.handled=none
 frames:X.A.frames=some X.stack
 stk:X.stack=X.outer\/(X.stack=X.env :: X.outer/\X.env.frame=some X.env.locals)
 exf:∀ b∈X.ex,b≠X.env.locals/\∀ x c,X.env.cells.lookup x=some c->c≠b
 bs:∀ b o,X.base.get? b=some o->X.s₀.heap.get? b=some o/\X.H₀ b=none
 bsz:X.base.objs.size<=X.s₀.heap.objs.size
 noex:∀ b o,X.base.get? b=some o->b ∉ X.ex
 exfs:∀ b∈X.ex,b ∉ X.fs
 funs:X.s₀.heap.FunFrames X.base X.outer
 frf:∀ b∈X.fs,X.H₀ b=none
structure Inv (X:Cx) (pins:List (Addr×Obj)) (U:List (Option V)) (H:Hp) (s:Shared):Prop where
 ok:X.Ok
 os:s.os=X.s₀.os
 bare:AllBare s.gens
 base:Un X.fs X.ex X.H₀ H X.s₀.heap s.heap
 loc:∃ m,s.heap.Ns X.env.locals m/\∀ (i:Nat) (x:Str) (v:V),X.N[i]?=some x->U[i]?=some (some v)->Vj X.env.scope x->∃ u,RelV v u/\Look X.env s.heap m x u
 cell:∀ x c,X.env.cells.lookup x=some c->∃ v,s.heap.IsCell c v
 free:H X.env.locals=none
 freeC:∀ x c,X.env.cells.lookup x=some c->H c=none
 pin:∀ p∈X.pn ++ pins,s.heap.get? p.1=some p.2/\H p.1=none/\p.1≠X.env.locals/\p.1 ∉ X.fs/\∀ v,p.2.data≠.cell v
 hok:HOk X.prog X.w H s.heap
 len:U.length=X.N.length
section
variable {X:Cx} {pins:List (Addr×Obj)} {U:List (Option V)} {H H':Hp} {s:Shared} {h':Heap}
theorem Cx.Ok.nofr (ok:X.Ok) {b:Addr} {o:Obj} (e:X.base.get? b=some o):b ∉ X.fs:=fun hb=>by
 have:=(ok.funs.mem hb).1
 rw [e] at this;cases this
theorem Inv.bs (I:Inv X pins U H s):∀ b o,X.base.get? b=some o->s.heap.get? b=some o/\H b=none:=fun b o e=>
 ⟨I.base.keep b o (I.ok.bs b o e).1 (I.ok.bs b o e).2 (I.ok.nofr e) (I.ok.noex b o e),I.base.free b o (I.ok.bs b o e).1 (I.ok.bs b o e).2 (I.ok.noex b o e)⟩
theorem Inv.bk (I:Inv X pins U H s):∀ b o,X.base.get? b=some o->s.heap.get? b=some o:=fun b o e=>(I.bs b o e).1
theorem Inv.mod (I:Inv X pins U H s):Mod X.K X.mg X.base:=I.ok.mod
theorem Inv.kIn (I:Inv X pins U H s):X.K.In s.heap:=I.ok.mod.kin.keeps I.bk
theorem Inv.lt (I:Inv X pins U H s):X.env.locals < s.heap.objs.size:=let ⟨_,hn,_⟩:=I.loc;hn.lt
theorem Inv.sz (I:Inv X pins U H s):X.s₀.heap.objs.size<=s.heap.objs.size:=XQ I.ok.above (Nat.le_of_lt I.lt)
theorem Inv.nofs (I:Inv X pins U H s) {a:Addr} (h:s.heap.objs.size<=a):a ∉ X.fs:=fun hb=>by
 obtain ⟨_,o,ho,_⟩:=I.ok.funs.mem hb
 exact absurd (Xy (Xp ho) (XQ I.sz h)) (Yz _)
theorem Inv.cne (I:Inv X pins U H s):∀ x c,X.env.cells.lookup x=some c->c≠X.env.locals:=fun x c e z=>by
 obtain ⟨v,o,ho,hd⟩:=I.cell x c e
 obtain ⟨m,⟨o',es,ep,ho',hd',_⟩,_⟩:=I.loc
 rw [z,ho'] at ho;cases ho;rw [hd'] at hd;cases hd
theorem Inv.funs (I:Inv X pins U H s):s.heap.FunFrames X.base X.outer:=by
 have all:∀ (l:List Env),(∀ b∈frs l,b∈X.fs)->X.s₀.heap.FunFrames X.base l->s.heap.FunFrames X.base l:=by
  intro l
  induction l with
  | nil=>intro _ _;trivial
  | cons env r ih=>
   intro hs hl
   obtain ⟨hk,⟨L,o,hf,hn,ho,hd⟩,hr⟩:=hl
   have hL:L∈X.fs:=hs L (by unfold frs;rw [List.filterMap_cons,hf];exact XR)
   obtain ⟨sl,e⟩:=I.base.slot L o ho (I.ok.frf L hL) hL fun z=>I.ok.exfs L z hL
   exact ⟨hk,⟨L,_,hf,hn,e,hd⟩,ih (fun b hb=>hs b (by unfold frs;rw [List.filterMap_cons,hf];exact Xw _ hb)) hr⟩
 exact all X.outer (fun _ hb=>hb) I.ok.funs
theorem Inv.stack (I:Inv X pins U H s):s.heap.FunFrames X.base X.stack:=by
 rcases I.ok.stk with e | ⟨e,hf⟩
 ·rw [e];exact I.funs
 ·rw [e]
  obtain ⟨m,hn,_⟩:=I.loc
  refine .cons (by rw [I.ok.kind];decide) hf hn ?_ I.funs
  exact Heap.get?_none_of_le (XQ I.ok.bsz I.ok.above)
theorem Inv.stkSub (I:Inv X pins U H s):∀ b∈frs X.stack,b∈X.env.locals :: X.fs:=fun b hb=>by
 rcases I.ok.stk with e | ⟨e,hf⟩
 ·rw [e] at hb;exact Xw _ hb
 ·rw [e] at hb
  unfold frs at hb
  rw [List.filterMap_cons,hf] at hb
  exact hb
theorem Inv.stkFree (I:Inv X pins U H s):∀ b∈frs X.stack,H b=none:=fun b hb=>by
 rcases Xr.mp (I.stkSub b hb) with e | hb
 ·rw [e];exact I.free
 ·obtain ⟨_,o,ho,_⟩:=I.ok.funs.mem hb
  exact I.base.free b o ho (I.ok.frf b hb) fun z=>I.ok.exfs b z hb
theorem Inv.step {g':Array GenState} {t':Nat} {d':Drawn} {ch:List Addr} (I:Inv X pins U H s)
  (hch:∀ b∈ch,(b∈X.ex\/X.s₀.heap.objs.size<=b)/\b≠X.env.locals/\(∀ x c,X.env.cells.lookup x=some c->c≠b)/\∀ p∈X.pn ++ pins,p.1≠b)
  (keep:∀ b o,b≠X.env.locals->b ∉ X.fs->b ∉ ch->s.heap.get? b=some o->H b=none->h'.get? b=some o)
  (slot:∀ b o,b≠X.env.locals->b∈X.fs->b ∉ ch->s.heap.get? b=some o->H b=none->∃ sl,h'.get? b=some {o with slots:=sl}) (free:∀ b o,b ∉ ch->s.heap.get? b=some o->H b=none->H' b=none)
  (there:∀ b o,b ∉ ch->s.heap.get? b=some o->∃ o',h'.get? b=some o')
  (tups:∀ b xs,H b=some (.tup xs)->H' b=some (.tup xs)) (frzs:∀ b o u,H b=some (.frz o u)->H' b=some (.frz o u)) (tbls:∀ b ps,H b=some (.tbl ps)->∃ more,H' b=some (.tbl (ps ++ more)))
  (ns:∀ m,s.heap.Ns X.env.locals m->h'.Ns X.env.locals m) (hok:HOk X.prog X.w H' h') (hg:AllBare g'):
  Inv X pins U H' {s with heap:=h',gens:=g',drawn:=d',toks:=t'}:=by
 have neL:∀ b o,X.s₀.heap.get? b=some o->b≠X.env.locals:=fun b o e=>XN (Xy (Xp e) I.ok.above)
 have neC:∀ b o,X.s₀.heap.get? b=some o->b ∉ X.ex->b ∉ ch:=fun b o e hx hb=>by
  rcases (hch b hb).1 with z | z
  ·exact hx z
  ·exact absurd (Xy (Xp e) z) (Yz _)
 have cellK:∀ x c,X.env.cells.lookup x=some c->∀ v,s.heap.IsCell c v->h'.IsCell c v:=fun x c e v ⟨o,ho,hd⟩=>by
  have nch:c ∉ ch:=fun z=>(hch c z).2.2.1 x c e rfl
  by_cases hc:c∈X.fs
  ·obtain ⟨sl,q⟩:=slot c o (I.cne x c e) hc nch ho (I.freeC x c e)
   exact ⟨_,q,hd⟩
  ·exact ⟨o,keep c o (I.cne x c e) hc nch ho (I.freeC x c e),hd⟩
 refine ⟨I.ok,I.os,hg,⟨fun b o e n hb hx=>?_,fun b o e n hb hx=>?_,fun b o e n hx=>?_,fun b o e hx=>?_,fun b xs e=>tups b xs (I.base.tups b xs e),fun b o xs e=>frzs b o xs (I.base.frzs b o xs e),fun b ps e=>?_⟩,?_,fun x c e=>?_,?_,fun x c e=>?_,fun p hp=>?_,hok,I.len⟩
 ·exact keep b o (neL b o e) hb (neC b o e hx) (I.base.keep b o e n hb hx) (I.base.free b o e n hx)
 ·obtain ⟨sl,e1⟩:=I.base.slot b o e n hb hx
  obtain ⟨sl',e2⟩:=slot b _ (neL b o e) hb (neC b o e hx) e1 (I.base.free b o e n hx)
  exact ⟨sl',e2⟩
 ·obtain ⟨o',e1⟩:=I.base.there b o e hx
  exact free b o' (neC b o e hx) e1 (I.base.free b o e n hx)
 ·obtain ⟨o',e1⟩:=I.base.there b o e hx
  exact there b o' (neC b o e hx) e1
 ·obtain ⟨m1,e1⟩:=I.base.tbls b ps e
  obtain ⟨m2,e2⟩:=tbls b _ e1
  exact ⟨m1 ++ m2,by rw [e2,Array.append_assoc]⟩
 ·obtain ⟨m,hn,hl⟩:=I.loc
  refine ⟨m,ns m hn,fun i x v e1 e2 e3=>?_⟩
  obtain ⟨u,r,l⟩:=hl i x v e1 e2 e3
  refine ⟨u,r,?_⟩
  rcases l with l | ⟨k,c,e,z⟩
  ·exact .inl l
  ·exact .inr ⟨k,c,e,cellK x c e _ z⟩
 ·obtain ⟨v,z⟩:=I.cell x c e
  exact ⟨v,cellK x c e v z⟩
 ·obtain ⟨m,⟨o,_,_,ho,_⟩,_⟩:=I.loc
  exact free _ o (fun z=>(hch _ z).2.1 rfl) ho I.free
 ·obtain ⟨v,o,ho,hd⟩:=I.cell x c e
  exact free c o (fun z=>(hch c z).2.2.1 x c e rfl) ho (I.freeC x c e)
 ·obtain ⟨e,n,ne,nf,d⟩:=I.pin p hp
  have nch:p.1 ∉ ch:=fun z=>(hch p.1 z).2.2.2 p hp rfl
  exact ⟨keep p.1 p.2 ne nf nch e n,free p.1 p.2 nch e n,ne,nf,d⟩
theorem Inv.un {t':Nat} (I:Inv X pins U H s) (u:Un X.fs [] H H' s.heap h') (hok:HOk X.prog X.w H' h'):Inv X pins U H' {s with heap:=h',toks:=t'}:=by
 obtain ⟨m,⟨o,es,ep,ho,r⟩,_⟩:=id I.loc
 obtain ⟨sl,hL⟩:=u.any ho I.free (by simp)
 exact I.step (g':=s.gens) (d':=s.drawn) (ch:=[]) (fun _ z=>nomatch z) (fun b o _ hb _ e n=>u.keep b o e n hb (by simp)) (fun b o _ hb _ e n=>u.slot b o e n hb (by simp)) (fun b o _ e n=>u.free b o e n (by simp)) (fun b o _ e=>u.there b o e (by simp)) u.tups u.frzs u.tbls (fun m' hm=>by
  obtain ⟨o',es',ep',ho',r'⟩:=hm
  rw [ho] at ho';cases ho'
  exact ⟨_,es',ep',hL,r'⟩) hok I.bare
theorem Inv.call {g':Array GenState} {t':Nat} {d':Drawn} {ch:List Addr} (I:Inv X pins U H s) (u:Un (frs X.stack) ch H H' s.heap h') (hok:HOk X.prog X.w H' h') (hg:AllBare g')
  (hch:∀ b∈ch,(b∈X.ex\/X.s₀.heap.objs.size<=b)/\b≠X.env.locals/\(∀ x c,X.env.cells.lookup x=some c->c≠b)/\∀ p∈X.pn ++ pins,p.1≠b):
  Inv X pins U H' {s with heap:=h',gens:=g',drawn:=d',toks:=t'}:=by
 obtain ⟨m,⟨o,es,ep,ho,r⟩,_⟩:=id I.loc
 obtain ⟨sl,hL⟩:=u.any ho I.free fun z=>(hch _ z).2.1 rfl
 exact I.step (ch:=ch) hch (fun b o hL hb hc e n=>u.keep b o e n (fun z=>(Xr.mp (I.stkSub b z)).elim hL hb) hc) (fun b o _ _ hc e n=>u.any e n hc) (fun b o hc e n=>u.free b o e n hc) (fun b o hc e=>u.there b o e hc) u.tups u.frzs u.tbls (fun m' hm=>by
  obtain ⟨o',es',ep',ho',r'⟩:=hm
  rw [ho] at ho';cases ho'
  exact ⟨_,es',ep',hL,r'⟩) hok hg
theorem Inv.turned {t':Nat} {it:Addr} (I:Inv X pins U H s) (k:∀ b o,b≠it->s.heap.get? b=some o->h'.get? b=some o) (hn:H it=none) (hL:it≠X.env.locals)
  (h1:it∈X.ex\/X.s₀.heap.objs.size<=it) (h2:∀ x c,X.env.cells.lookup x=some c->c≠it) (h3:∀ p∈X.pn ++ pins,p.1≠it):Inv X pins U H {s with heap:=h',toks:=t'}:=by
 have nit:∀ b u,H b=some u->b≠it:=fun b u e z=>by rw [z,hn] at e;cases e
 refine I.step (g':=s.gens) (d':=s.drawn) (ch:=[it]) (fun b hb=>?_) (fun b o _ _ hc e _=>k b o (fun z=>hc (by simp [z])) e) (fun b o _ _ hc e _=>⟨o.slots,k b o (fun z=>hc (by simp [z])) e⟩) (fun _ _ _ _ n=>n)
  (fun b o hc e=>⟨o,k b o (fun z=>hc (by simp [z])) e⟩) (fun _ _ e=>e) (fun _ _ _ e=>e) (fun b ps e=>⟨#[],by rw [e];simp⟩) (fun m hm=>?_) (fun b u e=>?_) I.bare
 ·have e:b=it:=by simpa using hb
  subst e
  exact ⟨h1,hL,h2,h3⟩
 ·obtain ⟨o,es,ep,ho,r⟩:=hm
  exact ⟨o,es,ep,k _ o (Ne.symm hL) ho,r⟩
 ·refine (I.hok b u e).stay (fun c v hc q=>k c v ?_ q) (fun _ q=>q) fun _ _ q=>q
  rcases hc with z | z
  ·rw [z];exact nit b u e
  ·exact nit c _ z
theorem Inv.tok (I:Inv X pins U H s) (t:Nat):Inv X pins U H {s with toks:=t}:=I.un (h':=s.heap) (t':=t) Un.refl I.hok
theorem Inv.kept {t':Nat} (I:Inv X pins U H s) (k:∀ b u,s.heap.get? b=some u->h'.get? b=some u):Inv X pins U H {s with heap:=h',toks:=t'}:=I.un (Un.kept k) (I.hok.kept k)
theorem Inv.laid {a:Addr} {o:HO} {t':Nat} (I:Inv X pins U H s) (k:∀ b u,s.heap.get? b=some u->h'.get? b=some u) (hp:s.heap.objs.size<=a) (new:ObjOk X.prog X.w (upd H a o) h' a o):
  Inv X pins U (upd H a o) {s with heap:=h',toks:=t'}:=I.un (Un.laid k hp (I.hok.fresh hp)) (I.hok.laid k hp new)
theorem Inv.write {x e:Addr} {o:HO} {t':Nat} (I:Inv X pins U H s) (mu:Vi (H x)) (he:e=x\/H e=some (.own x)) (k:∀ b u,b≠e->s.heap.get? b=some u->h'.get? b=some u) (heo:∃ u,h'.get? e=some u)
  (new:ObjOk X.prog X.w (upd H x o) h' x o):Inv X pins U (upd H x o) {s with heap:=h',toks:=t'}:=I.un (Un.write mu he k heo) (I.hok.write mu he k heo new)
theorem Inv.weak {U':List (Option V)} (I:Inv X pins U H s) (hl:U'.length=U.length) (w:∀ (i:Nat) v,U'[i]?=some (some v)->U[i]?=some (some v)):Inv X pins U' H s:=
 ⟨I.ok,I.os,I.bare,I.base,let ⟨m,hn,hl'⟩:=I.loc;⟨m,hn,fun i x v e1 e2 e3=>hl' i x v e1 (w i v e2) e3⟩,I.cell,I.free,I.freeC,I.pin,I.hok,hl.trans I.len⟩
theorem Inv.pins_of {pins':List (Addr×Obj)} (I:Inv X pins U H s) (h:∀ p∈pins',s.heap.get? p.1=some p.2/\H p.1=none/\p.1≠X.env.locals/\p.1 ∉ X.fs/\∀ v,p.2.data≠.cell v):Inv X pins' U H s:=
 ⟨I.ok,I.os,I.bare,I.base,I.loc,I.cell,I.free,I.freeC,fun p hp=>(Yx.mp hp).elim (fun z=>I.pin p (ZV _ z)) (h p),I.hok,I.len⟩
theorem vh {N:List Str} (hN:N.Nodup) {i j:Nat} {x:Str} (a:N[i]?=some x) (b:N[j]?=some x):i=j:=by
 obtain ⟨h1,e1⟩:=Xm.mp a
 obtain ⟨h2,e2⟩:=Xm.mp b
 exact (List.getElem_inj hN).mp (e1.trans e2.symm)
theorem xf {M:Model} {A:Around} {E:Value->Shared->Prop} {i:Nat} {x:Str} {v:V} {u:Value} {Q:Unit->Shared->Prop} (I:Inv X pins U H s) (hN:X.N.Nodup) (hi:X.N[i]?=some x) (hx:Loc X.env.scope x) (r:RelV v u)
  (h:∀ s',Inv X pins (U.set i (some v)) H s'->(∃ a,Heap.SameBut a s.heap s'.heap/\(a=X.env.locals\/X.env.cells.lookup x=some a))->Q () s') (hf:autoParam (X.fn x=true\/X.env.scope.names.lookup x=some .local) L2.auto1._auto_1):wpAny M A (storeName X.env x u) Q E s:=by
 obtain ⟨m,hn,hl⟩:=id I.loc
 have hcls:(X.env.scope.kind == .class || (X.env.scope.kind == .module && X.env.locals != X.env.globals))=false:=by rw [I.ok.kind];rfl
 have hiU:i < U.length:=by rw [I.len];exact (Xm.mp hi).1
 have cne:=I.cne
 have tracked:∀ {a:Addr} {h':Heap},(∃ o,s.heap.get? a=some o/\H a=none)->Heap.SameBut a s.heap h'->HOk X.prog X.w H h':=fun {a h'} ha hs b ob e=>by
  obtain ⟨_,_,hfree⟩:=ha
  refine (I.hok b ob e).stay (fun c w' hc q=>(hs.2 c ?_).trans q) (fun _ q=>q) fun _ _ q=>q
  rintro rfl
  rcases hc with rfl | hc
  ·rw [hfree] at e;cases e
  ·rw [hfree] at hc;cases hc
 rcases hx with hk | hk
 ·refine wpAny_storeName_local hk hn (fun h' hn' hs=>?_) hcls
  obtain ⟨oL,_,_,hoL,_⟩:=id hn
  refine h _ ⟨I.ok,I.os,I.bare,⟨fun b o e n hb hx=>?_,fun b o e n hb hx=>?_,I.base.free,fun b o e hx=>?_,I.base.tups,I.base.frzs,I.base.tbls⟩,⟨_,hn',fun j y v' e1 e2 e3=>?_⟩,fun y c e=>?_,I.free,I.freeC,fun p hp=>?_,tracked ⟨oL,hoL,I.free⟩ hs,by simpa using I.len⟩ ⟨_,hs,.inl rfl⟩
  ·exact (hs.2 b (XN (Xy (Xp e) I.ok.above))).trans (I.base.keep b o e n hb hx)
  ·obtain ⟨sl,e1⟩:=I.base.slot b o e n hb hx
   exact ⟨sl,(hs.2 b (XN (Xy (Xp e) I.ok.above))).trans e1⟩
  ·obtain ⟨o',e1⟩:=I.base.there b o e hx
   exact ⟨o',(hs.2 b (XN (Xy (Xp e) I.ok.above))).trans e1⟩
  ·by_cases hj:j=i
   ·subst hj
    rw [hi] at e1;cases e1
    rw [Yk hiU] at e2
    cases e2
    exact ⟨u,r,.inl ⟨hk,by simp⟩⟩
   ·rw [XX (Ne.symm hj)] at e2
    obtain ⟨u',r',q⟩:=hl j y v' e1 e2 e3
    refine ⟨u',r',?_⟩
    rcases q with ⟨k,e⟩ | ⟨k,c,e,z⟩
    ·refine .inl ⟨k,?_⟩
     have:y≠x:=fun e=>hj (vh hN e1 (e ▸ hi))
     simp [this,e]
    ·exact .inr ⟨k,c,e,z.sameBut hs (cne y c e)⟩
  ·obtain ⟨w',z⟩:=I.cell y c e
   exact ⟨w',z.sameBut hs (cne y c e)⟩
  ·obtain ⟨e,n,ne,nf,d⟩:=I.pin p hp
   exact ⟨(hs.2 p.1 ne).trans e,n,ne,nf,d⟩
 ·have hfn:X.fn x=true:=by
   rcases hf with z | z
   ·exact z
   ·rw [z] at hk;cases hk
  obtain ⟨c,hc⟩:=I.ok.has x (.inl hk)
  obtain ⟨w',z⟩:=I.cell x c hc
  refine wpAny_storeName_cell I.ok.kind hk hc z (fun h' hc' hs=>?_)
  obtain ⟨oc,hoc,hocd⟩:=id z
  refine h {s with heap:=h'} ⟨I.ok,I.os,I.bare,⟨fun b o e n hb hx=>?_,fun b o e n hb hx=>?_,I.base.free,fun b o e hx=>?_,I.base.tups,I.base.frzs,I.base.tbls⟩,⟨m,hn.sameBut hs (Ne.symm (cne x c hc)),fun j y v' e1 e2 e3=>?_⟩,fun y c' e=>?_,I.free,I.freeC,fun p hp=>?_,tracked ⟨oc,hoc,I.freeC x c hc⟩ hs,by simpa using I.len⟩ ⟨c,hs,.inr hc⟩
  ·exact (hs.2 b (XN (Xy (Xp e) (I.ok.cab x c hfn hc)))).trans (I.base.keep b o e n hb hx)
  ·obtain ⟨sl,e1⟩:=I.base.slot b o e n hb hx
   exact ⟨sl,(hs.2 b (XN (Xy (Xp e) (I.ok.cab x c hfn hc)))).trans e1⟩
  ·obtain ⟨o',e1⟩:=I.base.there b o e hx
   exact ⟨o',(hs.2 b (XN (Xy (Xp e) (I.ok.cab x c hfn hc)))).trans e1⟩
  ·by_cases hj:j=i
   ·subst hj
    rw [hi] at e1;cases e1
    rw [Yk hiU] at e2
    cases e2
    exact ⟨u,r,.inr ⟨.inl hk,c,hc,hc'⟩⟩
   ·rw [XX (Ne.symm hj)] at e2
    obtain ⟨u',r',q⟩:=hl j y v' e1 e2 e3
    refine ⟨u',r',?_⟩
    rcases q with q | ⟨k,c',e,z'⟩
    ·exact .inl q
    ·refine .inr ⟨k,c',e,z'.sameBut hs ?_⟩
     rintro rfl
     exact hj (vh hN e1 (I.ok.inj _ _ _ e hc ▸ hi))
  ·by_cases hcc:c'=c
   ·subst hcc;exact ⟨_,hc'⟩
   ·obtain ⟨w2,z2⟩:=I.cell y c' e
    exact ⟨w2,z2.sameBut hs hcc⟩
  ·obtain ⟨e,n,ne,nf,d⟩:=I.pin p hp
   refine ⟨(hs.2 p.1 ?_).trans e,n,ne,nf,d⟩
   intro q
   rw [q,hoc] at e
   have q':oc=p.2:=Ye e
   exact d w' (by rw [← q'];exact hocd)
theorem oR {M:Model} {A:Around} {E:Value->Shared->Prop} {i:Nat} {x:Str} {v:V} {u:Value} {Q:Unit->Shared->Prop} (I:Inv X pins U H s) (hN:X.N.Nodup) (hi:X.N[i]?=some x) (hx:Loc X.env.scope x) (r:RelV v u)
  (h:∀ s',Inv X pins (U.set i (some v)) H s'->Q () s') (hf:autoParam (X.fn x=true\/X.env.scope.names.lookup x=some .local) L2.auto1._auto_1):wpAny M A (storeName X.env x u) Q E s:=
 xf I hN hi hx r (fun s' I' _=>h s' I') hf
theorem Inv.call' {s':Shared} {ch:List Addr} (I:Inv X pins U H s) (ho:s'.os=s.os) (u:Un (frs X.stack) ch H H' s.heap s'.heap) (hok:HOk X.prog X.w H' s'.heap) (hg:AllBare s'.gens)
  (hch:∀ b∈ch,(b∈X.ex\/X.s₀.heap.objs.size<=b)/\b≠X.env.locals/\(∀ x c,X.env.cells.lookup x=some c->c≠b)/\∀ p∈X.pn ++ pins,p.1≠b):Inv X pins U H' s':=by
 obtain ⟨h',g',d',t',o'⟩:=s'
 have e:o'=s.os:=ho
 subst e
 exact I.call (g':=g') (t':=t') (d':=d') u hok hg hch
end
abbrev XK:=Value->Option Addr->Hp->Prop
abbrev St:=List (Option V)
abbrev VK:=V->Hp->Prop
abbrev TE:=St->Hp->VK->Prop
abbrev TT:=St->Hp->(Bool->Hp->Prop)->Prop
abbrev TA:=St->Hp->(List V->Hp->Prop)->Prop
structure Ends where
 nx:St->Hp->Prop
 rt:VK
 bk:St->Hp->Prop:=fun _ _=>False
 ct:St->Hp->Prop:=fun _ _=>False
abbrev TS:=Ends->St->Hp->Prop
def EP (X:Cx) (pins:List (Addr×Obj)) (U:St) (Q:VK) (u:Value) (s':Shared):Prop:=∃ v H',Inv X pins U H' s'/\RelV v u/\Q v H'
def TP (X:Cx) (pins:List (Addr×Obj)) (U:St) (Q:Bool->Hp->Prop) (b:Bool) (s':Shared):Prop:=∃ H',Inv X pins U H' s'/\Q b H'
def AP (X:Cx) (pins:List (Addr×Obj)) (U:St) (Q:List V->Hp->Prop) (us:List Value) (s':Shared):Prop:=∃ vs H',Inv X pins U H' s'/\Vals vs us/\Q vs H'
def SP (X:Cx) (pins:List (Addr×Obj)) (D:Ends) (f:Flow) (s':Shared):Prop:=
 match f with
 | .next=>∃ U' H',Inv X pins U' H' s'/\D.nx U' H'
 | .brk=>∃ U' H',Inv X pins U' H' s'/\D.bk U' H'
 | .cont=>∃ U' H',Inv X pins U' H' s'/\D.ct U' H'
 | .ret u=>∃ v U' H',Inv X pins U' H' s'/\RelV v u/\D.rt v H'
def PE (X:Cx) (e:Expr) (t:TE):Prop:=
 ∀ (pins:List (Addr×Obj)) (s:Shared) (U:St) (H:Hp) (Q:VK),Inv X pins U H s->t U H Q->wpAny (model X.prog X.w) X.A (eval e X.env) (EP X pins U Q) X.xe s
def PT (X:Cx) (e:Expr) (t:TT):Prop:=
 ∀ (pins:List (Addr×Obj)) (s:Shared) (U:St) (H:Hp) (Q:Bool->Hp->Prop),Inv X pins U H s->t U H Q->wpAny (model X.prog X.w) X.A (isTrue e X.env (eval e X.env)) (TP X pins U Q) X.xe s
def PW (X:Cx) (e:Expr) (t:TT):Prop:=
 ∀ (whole:Sem Value) (pins:List (Addr×Obj)) (s:Shared) (U:St) (H:Hp) (Q:Bool->Hp->Prop),Inv X pins U H s->t U H Q->wpAny (model X.prog X.w) X.A (isTrue e X.env whole) (TP X pins U Q) X.xe s
theorem PW.pt {X:Cx} {e:Expr} {t:TT} (h:PW X e t):PT X e t:=h _
def PA (X:Cx) (es:List Expr) (t:TA):Prop:=
 ∀ (pos:Pos) (pins:List (Addr×Obj)) (s:Shared) (U:St) (H:Hp) (Q:List V->Hp->Prop),Inv X pins U H s->t U H Q->wpAny (model X.prog X.w) X.A (spliced (backTo pos (starEach es X.env))) (AP X pins U Q) X.xe s
def PS (X:Cx) (st:Stmt) (t:TS):Prop:=
 ∀ (pins:List (Addr×Obj)) (s:Shared) (U:St) (H:Hp) (D:Ends),Inv X pins U H s->t D U H->wpAny (model X.prog X.w) X.A (exec st X.env) (SP X pins D) X.xe s
def PSs (X:Cx) (st:List Stmt) (t:TS):Prop:=
 ∀ (pins:List (Addr×Obj)) (s:Shared) (U:St) (H:Hp) (D:Ends),Inv X pins U H s->t D U H->wpAny (model X.prog X.w) X.A (execs st X.env) (SP X pins D) X.xe s
theorem d9 {α:Type} {t:Sem α} {Q Q':α->Shared->Prop} {M:Model} {A:Around} {E:Value->Shared->Prop} {s:Shared} (h:wpAny M A t Q E s) (hQ:∀ a s,Q a s->Q' a s):wpAny M A t Q' E s:=X5 h hQ fun _ _ x=>x
section
variable {X:Cx}
def m8 (i:Nat):TE:=fun U H Q=>∃ v,U[i]?=some (some v)/\Q v H
def tC (v:V):TE:=fun _ H Q=>Q v H
theorem yr {i:Nat} {x:Str} {pos:Pos} (hN:X.N[i]?=some x) (hv:Vj X.env.scope x) (hd:autoParam ((x == ("__debug__":Str))=false) L2.auto2._auto_1) (hcd:autoParam ((x == ("__classdict__":Str))=false) L2.auto2._auto_1):PE X (.Name x pos) (m8 i):=by
 intro pins s U H Q I h
 obtain ⟨v,e,h⟩:=h
 obtain ⟨m,hn,hl⟩:=I.loc
 obtain ⟨u,r,l⟩:=hl i x v hN e hv
 have fin:EP X pins U Q u s:=⟨v,H,I,r,h⟩
 rcases l with ⟨hk,hm⟩ | ⟨hk,c,hc,hcell⟩
 ·exact wpAny_Name (wpAny_loadName_local I.ok.kind hk hn hm fin) hd
 ·rcases hk with hk | hk
  ·exact wpAny_Name (wpAny_loadName_cell I.ok.kind hk hc hcell fin) hd
  ·exact wpAny_Name (wpAny_loadName_free I.ok.kind hk hc hcell fin hcd) hd
theorem Q5 {i j pos}:PE X (.Constant (.int i) j pos) (tC (.int i)):=fun _ _ _ H _ I h=>wpAny_Constant_int ⟨.int i,H,I.tok _,⟨_,rfl⟩,h⟩
theorem Vk {b j pos}:PE X (.Constant (.bool b) j pos) (tC (.bl b)):=fun _ _ _ H _ I h=>Constant_bool ⟨.bl b,H,I,rfl,h⟩
theorem Q6 {x j pos}:PE X (.Constant (.str x) j pos) (tC (.str x)):=fun _ _ _ H _ I h=>Calls.Constant_str ⟨.str x,H,I.tok _,⟨_,rfl⟩,h⟩
def Gl (X:Cx) (x:Str):Prop:=X.env.kindOf x=some .globalImplicit
theorem lQ {E:Value->Shared->Prop} {pins:List (Addr×Obj)} {s:Shared} {U:St} {H:Hp} {x:Str} {u:Value} {pos:Pos} {Q:Value->Shared->Prop} (I:Inv X pins U H s) (hg:Gl X x) (hm:X.mg x=some u) (h:Q u s)
  (hd:autoParam ((x == ("__debug__":Str))=false) L2.auto2._auto_1):wpAny (model X.prog X.w) X.A (eval (.Name x pos) X.env) Q E s:=
 Calls.Name_function_global I.ok.kind hg (Calls.loadGlobal_global (by rw [I.ok.glob];exact I.mod.glob.keeps I.bk) hm h) hd
theorem jd {E:Value->Shared->Prop} {pins:List (Addr×Obj)} {s:Shared} {U:St} {H:Hp} {x:Str} {u:Value} {pos:Pos} {Q:Value->Shared->Prop} (I:Inv X pins U H s) (hg:Gl X x) (hm:X.mg x=none) (hv:bootBuiltins x=some u) (h:Q u s)
  (hn:autoParam (x≠"__name__") L2.auto2._auto_1) (hd:autoParam ((x == ("__debug__":Str))=false) L2.auto2._auto_1):wpAny (model X.prog X.w) X.A (eval (.Name x pos) X.env) Q E s:=by
 obtain ⟨mb,h1,h2⟩:=I.mod.blt
 exact Calls.Name_function_global I.ok.kind hg (Calls.loadGlobal_builtin (by rw [I.ok.glob];exact I.mod.glob.keeps I.bk) hm (by rw [I.ok.blt];exact h1.keeps I.bk) ((h2 x hn).trans hv) h) hd
theorem yt {x:Str} {v:V} {u:Value} {pos:Pos} (hg:Gl X x) (hm:X.mg x=some u) (r:RelV v u) (hd:autoParam ((x == ("__debug__":Str))=false) L2.auto2._auto_1):PE X (.Name x pos) (tC v):=
 fun _ _ _ H _ I h=>lQ I hg hm ⟨v,H,I,r,h⟩ hd
theorem Mj {x:Str} {v:V} {u:Value} {pos:Pos} (hg:Gl X x) (hm:X.mg x=none) (hv:bootBuiltins x=some u) (r:RelV v u) (hn:autoParam (x≠"__name__") L2.auto2._auto_1) (hd:autoParam ((x == ("__debug__":Str))=false) L2.auto2._auto_1):PE X (.Name x pos) (tC v):=
 fun _ _ _ H _ I h=>jd I hg hm hv ⟨v,H,I,r,h⟩ hn hd
variable {a b:Expr} {ta tb:TE} {pos:Pos}
def tB (t:TE):TT:=fun U H Q=>t U H fun x H1=>∃ c,x= .bl c/\Q c H1
theorem Q7 {e:Expr} {t:TE} (h:PE X e t) (he:autoParam (∀ whole,isTrue e X.env whole=(do let v ← whole;standAt e.pos;holding [v] (truthy v))) L2.auto3._auto_1):PT X e (tB t):=by
 intro pins s U H Q I hw
 refine isTrue_plain (d9 (h pins s U H _ I hw) fun v s1 qq0=>?_) (he _)
 obtain ⟨x,H1,I1,r1,q1⟩:=qq0
 obtain ⟨d,rfl,q⟩:=q1
 cases r1
 exact YQ ⟨H1,I1,q⟩
variable {tA tB':TT} {rest:List Expr}
def Ml (t u:TT):TT:=fun U H Q=>t U H fun c H1=>if c=true then u U H1 Q else Q false H1
def tOr (t u:TT):TT:=fun U H Q=>t U H fun c H1=>if c=true then Q true H1 else u U H1 Q
def Q8 (t:TT):TT:=fun U H Q=>t U H fun c H1=>Q (!c) H1
theorem Mm (ha:PT X a tA):PW X (.BoolOp .And [a] pos) tA:=by
 intro wh pins s U H Q I h
 refine isTrue_and (d9 (ha pins s U H Q I h) fun c s1 e=>?_)
 cases c with
 | true=>exact isTrue_and_nil e
 | false=>exact e
theorem Q9 (ha:PT X a tA):PW X (.BoolOp .Or [a] pos) tA:=by
 intro wh pins s U H Q I h
 refine isTrue_or (d9 (ha pins s U H Q I h) fun c s1 e=>?_)
 cases c with
 | false=>exact isTrue_or_nil e
 | true=>exact e
theorem Ra (ha:PT X a tA) (hb:PW X (.BoolOp .And (b :: rest) pos) tB'):PW X (.BoolOp .And (a :: b :: rest) pos) (Ml tA tB'):=by
 intro wh pins s U H Q I h
 refine isTrue_and (d9 (ha pins s U H _ I h) fun c s1 qq0=>?_)
 obtain ⟨H1,I1,q1⟩:=qq0
 cases c with
 | true=>exact hb wh pins s1 U H1 Q I1 q1
 | false=>exact ⟨H1,I1,q1⟩
theorem Vl (ha:PT X a tA) (hb:PW X (.BoolOp .Or (b :: rest) pos) tB'):PW X (.BoolOp .Or (a :: b :: rest) pos) (tOr tA tB'):=by
 intro wh pins s U H Q I h
 refine isTrue_or (d9 (ha pins s U H _ I h) fun c s1 qq0=>?_)
 obtain ⟨H1,I1,q1⟩:=qq0
 cases c with
 | true=>exact ⟨H1,I1,q1⟩
 | false=>exact hb wh pins s1 U H1 Q I1 q1
theorem Rb (ha:PT X a tA):PT X (.UnaryOp .Not a pos) (Q8 tA):=by
 intro pins s U H Q I h
 exact isTrue_not (ha pins s U H (fun c H1=>Q (!c) H1) I h)
def HX (ta tb:TE):TE:=fun U H Q=>ta U H fun x H1=>∃ c,x= .bl c/\if c=true then tb U H1 Q else Q (.bl false) H1
def Rc (ta tb:TE):TE:=fun U H Q=>ta U H fun x H1=>∃ c,x= .bl c/\if c=true then Q (.bl true) H1 else tb U H1 Q
def HY (ta:TE):TE:=fun U H Q=>ta U H fun x H1=>∃ c,x= .bl c/\Q (.bl (!c)) H1
theorem Rf {op} {t:TE} (h:PE X a t):PE X (.BoolOp op [a] pos) t:=fun pins s U H Q I hw=>BoolOp_one (h pins s U H Q I hw)
theorem Rg (ha:PE X a ta) (hb:PE X (.BoolOp .And (b :: rest) pos) tb):PE X (.BoolOp .And (a :: b :: rest) pos) (HX ta tb):=by
 intro pins s U H Q I h
 refine BoolOp_and (d9 (ha pins s U H _ I h) fun v s1 qq0=>?_)
 obtain ⟨x,H1,I1,r1,q1⟩:=qq0
 obtain ⟨c,rfl,q1⟩:=q1
 cases r1
 refine YQ ?_
 cases c with
 | true=>exact hb pins s1 U H1 Q I1 q1
 | false=>exact ⟨.bl false,H1,I1,rfl,q1⟩
theorem Vm (ha:PE X a ta) (hb:PE X (.BoolOp .Or (b :: rest) pos) tb):PE X (.BoolOp .Or (a :: b :: rest) pos) (Rc ta tb):=by
 intro pins s U H Q I h
 refine BoolOp_or (d9 (ha pins s U H _ I h) fun v s1 qq0=>?_)
 obtain ⟨x,H1,I1,r1,q1⟩:=qq0
 obtain ⟨c,rfl,q1⟩:=q1
 cases r1
 refine YQ ?_
 cases c with
 | false=>exact hb pins s1 U H1 Q I1 q1
 | true=>exact ⟨.bl true,H1,I1,rfl,q1⟩
theorem Rh (ha:PE X a ta):PE X (.UnaryOp .Not a pos) (HY ta):=by
 intro pins s U H Q I h
 refine UnaryOp_ (d9 (ha pins s U H _ I h) fun v s1 qq0=>?_)
 obtain ⟨x,H1,I1,r1,q1⟩:=qq0
 obtain ⟨c,rfl,q1⟩:=q1
 cases r1
 exact not_of (YQ ⟨.bl (!c),H1,I1,rfl,q1⟩)
def tIf (t:TT) (ta tb:TE):TE:=fun U H Q=>t U H fun c H1=>if c=true then ta U H1 Q else tb U H1 Q
theorem Ia {c:Expr} (hc:PT X c tA) (ha:PE X a ta) (hb:PE X b tb):PE X (.IfExp c a b pos) (tIf tA ta tb):=by
 intro pins s U H Q I h
 refine wpAny_IfExp (d9 (hc pins s U H _ I h) fun d s1 qq0=>?_)
 obtain ⟨H1,I1,q1⟩:=qq0
 cases d with
 | true=>exact ha pins s1 U H1 Q I1 q1
 | false=>exact hb pins s1 U H1 Q I1 q1
end
def SqL (K:W.Frag) (H:Hp) (a:Addr) (xs:List V):Prop:=
 Rd H a (.lst xs)\/
  ∃ (o:Obj) (its:Array Value) (n:Nat),K.lookup a=some o/\o.cls= .type "list"/\o.dict=none/\o.data= .seq its n/\its.size<=sizeLine/\Vals xs its.toList
def SqT (K:W.Frag) (H:Hp) (a:Addr) (xs:List V):Prop:=
 Rd H a (.tup xs)\/
  ∃ (o:Obj) (its:Array Value) (n:Nat),K.lookup a=some o/\o.cls= .type "tuple"/\o.data= .seq its n/\its.size<=sizeLine/\Vals xs its.toList
def absV:Value->Option V
 | .none=>some .non
 | .bool b=>some (.bl b)
 | .int i _=>some (.int i)
 | .str x _=>some (.str x)
 | .bytes b _=>some (.byt b)
 | .float b _=>some (.flt b)
 | .ref a=>some (.ref a)
 | .type n=>some (.ty n)
 | _=>none
theorem RelV.abs {x:V} {u:Value} (r:RelV x u):absV u=some x:=by
 cases x with
 | non=>cases r;rfl
 | bl _=>cases r;rfl
 | int _=>obtain ⟨t,rfl⟩:=r;rfl
 | str _=>obtain ⟨t,rfl⟩:=r;rfl
 | byt _=>obtain ⟨t,rfl⟩:=r;rfl
 | flt _=>obtain ⟨t,rfl⟩:=r;rfl
 | ref _=>cases r;rfl
 | ty _=>cases r;rfl
theorem RelV.inj {x y:V} {u:Value} (r:RelV x u) (q:RelV y u):x=y:=Ye (r.abs.symm.trans q.abs)
theorem Vals.inj:∀ {xs ys:List V} {us:List Value},Vals xs us->Vals ys us->xs=ys
 | _,_,_,.nil,.nil=>rfl
 | _,_,_,.cons r t,.cons r' t'=>by rw [r.inj r',Vals.inj t t']
section
variable {X:Cx} {pins:List (Addr×Obj)} {U:St} {H:Hp} {s:Shared} {a:Addr} {xs ys:List V}
theorem SqL.of {K:W.Frag} (h:H a=some (.lst xs)):SqL K H a xs:=.inl (.inl h)
theorem SqT.of {K:W.Frag} (h:H a=some (.tup xs)):SqT K H a xs:=.inl (.inl h)
theorem Inv.list (I:Inv X pins U H s) (h:SqL X.K H a xs):∃ its:List Value,Vals xs its/\PlainL s.heap a its.toArray/\xs.length<=sizeLine:=by
 rcases h with h | ⟨o,its,n,hk,hc,hd,hs,hz,r⟩
 ·obtain ⟨z,its,n,r,e⟩:=h.ok I.hok
  exact ⟨its,r,⟨_,n,e,rfl,rfl,rfl⟩,z⟩
 ·refine ⟨its.toList,r,⟨o,n,I.kIn a o hk,hc,hd,by simpa using hs⟩,?_⟩
  have e:=r.length
  simp only [Yb] at e
  omega
theorem Inv.tuple (I:Inv X pins U H s) (h:SqT X.K H a xs):∃ its:List Value,Vals xs its/\IsTup s.heap a its.toArray/\xs.length<=sizeLine:=by
 rcases h with h | ⟨o,its,n,hk,hc,hs,hz,r⟩
 ·obtain ⟨z,its,r,p⟩:=h.ok I.hok
  exact ⟨its,r,p,z⟩
 ·refine ⟨its.toList,r,⟨o,I.kIn a o hk,hc,n,by simpa using hs⟩,?_⟩
  have e:=r.length
  simp only [Yb] at e
  omega
theorem Inv.list_inj (I:Inv X pins U H s) (h:SqL X.K H a xs) (h':SqL X.K H a ys):xs=ys:=by
 obtain ⟨its,r,⟨o,n,e,_,_,d⟩,_⟩:=I.list h
 obtain ⟨its',r',⟨o',n',e',_,_,d'⟩,_⟩:=I.list h'
 rw [e] at e';cases e'
 rw [d] at d'
 injection d' with d1 _
 have:its=its':=by simpa using congrArg Array.toList d1
 subst this
 exact r.inj r'
theorem Inv.tuple_inj (I:Inv X pins U H s) (h:SqT X.K H a xs) (h':SqT X.K H a ys):xs=ys:=by
 obtain ⟨its,r,⟨o,e,_,n,d⟩,_⟩:=I.tuple h
 obtain ⟨its',r',⟨o',e',_,n',d'⟩,_⟩:=I.tuple h'
 rw [e] at e';cases e'
 rw [d] at d'
 injection d' with d1 _
 have:its=its':=by simpa using congrArg Array.toList d1
 subst this
 exact r.inj r'
end
abbrev Cx.wish (X:Cx) (E:Value->Shared->Prop):Cx:={X with xe:=E}
abbrev Cx.nox (X:Cx):Cx:=X.wish fun _ _=>False
theorem Cx.Ok.wish {X:Cx} (ok:X.Ok) (E:Value->Shared->Prop):(X.wish E).Ok:=
 ⟨ok.mod,ok.kind,ok.glob,ok.blt,ok.above,ok.inj,ok.has,ok.cab,ok.hd,ok.frames,ok.stk,ok.exf,ok.bs,ok.bsz,ok.noex,ok.exfs,ok.funs,ok.frf⟩
theorem Cx.Ok.unwish {X:Cx} {E:Value->Shared->Prop} (ok:(X.wish E).Ok):X.Ok:=
 ⟨ok.mod,ok.kind,ok.glob,ok.blt,ok.above,ok.inj,ok.has,ok.cab,ok.hd,ok.frames,ok.stk,ok.exf,ok.bs,ok.bsz,ok.noex,ok.exfs,ok.funs,ok.frf⟩
section
variable {X:Cx} {pins:List (Addr×Obj)} {U:St} {H:Hp} {s:Shared} {E:Value->Shared->Prop}
theorem Inv.wish (I:Inv X pins U H s) (E:Value->Shared->Prop):Inv (X.wish E) pins U H s:=⟨I.ok.wish E,I.os,I.bare,I.base,I.loc,I.cell,I.free,I.freeC,I.pin,I.hok,I.len⟩
theorem Inv.unwish (I:Inv (X.wish E) pins U H s):Inv X pins U H s:=⟨I.ok.unwish,I.os,I.bare,I.base,I.loc,I.cell,I.free,I.freeC,I.pin,I.hok,I.len⟩
theorem SP.unwish {D:Ends} {f:Flow} {s':Shared} (h:SP (X.wish E) pins D f s'):SP X pins D f s':=by
 cases f with
 | next=>obtain ⟨U',H',I,q⟩:=h;exact ⟨U',H',I.unwish,q⟩
 | brk=>obtain ⟨U',H',I,q⟩:=h;exact ⟨U',H',I.unwish,q⟩
 | cont=>obtain ⟨U',H',I,q⟩:=h;exact ⟨U',H',I.unwish,q⟩
 | ret u=>obtain ⟨v,U',H',I,r,q⟩:=h;exact ⟨v,U',H',I.unwish,r,q⟩
theorem PSs.nox {st:List Stmt} {t:TS} (h:PSs X.nox st t):PSs X st t:=fun pins s U H D I hw=>
 X5 (h pins s U H D (I.wish _) hw) (fun _ _ q=>q.unwish) fun _ _ z=>False.elim z
end
section
variable {X:Cx} {st:Stmt} {rest:List Stmt} {t u:TS} {e:Expr} {te:TE} {pos:Pos}
def Ib:TS:=fun D U H=>D.nx U H
def Ie (t u:TS):TS:=fun D U H=>t {D with nx:=u D} U H
theorem Mq:PSs X [] Ib:=fun _ _ U H _ I h=>wpAny_execs_nil ⟨U,H,I,h⟩
theorem Ig (h1:PS X st t) (h2:PSs X rest u):PSs X (st :: rest) (Ie t u):=by
 intro pins s U H D I h
 refine wpAny_execs_cons (d9 (h1 pins s U H {D with nx:=u D} I h) fun f s1 q=>?_)
 cases f with
 | next=>
  obtain ⟨U',H',I',q⟩:=q
  exact h2 pins s1 U' H' D I' q
 | ret v=>exact q
 | brk=>exact q
 | cont=>exact q
theorem Mr (h1:PS X st t):PSs X [st] t:=by
 intro pins s U H D I h
 refine wpAny_execs_cons (d9 (h1 pins s U H D I h) fun f s1 q=>?_)
 cases f with
 | next=>exact wpAny_execs_nil q
 | ret v=>exact q
 | brk=>exact q
 | cont=>exact q
theorem Inv.quiet {pins:List (Addr×Obj)} {U:St} {H:Hp} {s:Shared} (I:Inv X pins U H s):interactive X.env=false:=by simp [interactive,I.ok.kind]
def Dz (te:TE):TS:=fun D U H=>te U H fun _ H1=>D.nx U H1
theorem Ms (he:PE X e te) (hs:autoParam (swapsWith e none pos.line X.env=pure false) L2.auto4._auto_1):PS X (.Expr e pos) (Dz te):=by
 intro pins s U H D I h
 exact wpAny_Expr_any (d9 (he pins s U H _ I h) fun v s1 ⟨x,H1,I1,r1,q1⟩=>⟨U,H1,I1,q1⟩) I.quiet hs
def Ri (te:TE):TS:=fun D U H=>te U H D.rt
theorem Rj (he:PE X e te):PS X (.Return (some e) pos) (Ri te):=by
 intro pins s U H D I h
 exact wpAny_Return_some (d9 (he pins s U H _ I h) fun v s1 ⟨x,H1,I1,r1,q1⟩=>⟨x,U,H1,I1,r1,q1⟩)
def Rk (c:TT) (t u:TS):TS:=fun D U H=>c U H fun b H1=>if b=true then t D U H1 else u D U H1
theorem Vn {c:Expr} {a b:List Stmt} {tc:TT} (hc:PT X c tc) (ha:PSs X a t) (hb:PSs X b u):PS X (.If c a b pos) (Rk tc t u):=by
 intro pins s U H D I h
 refine wpAny_If (d9 (hc pins s U H _ I h) fun d s1 qq0=>?_)
 obtain ⟨H1,I1,q1⟩:=qq0
 cases d with
 | true=>exact ha pins s1 U H1 D I1 q1
 | false=>exact hb pins s1 U H1 D I1 q1
def Ih:TS:=fun _ _ _=>False
theorem Ii:PS X st Ih:=fun _ _ _ _ _ _ h=>h.elim
end
abbrev TG:=V->St->Hp->(St->Hp->Prop)->Prop
abbrev Gb:=List V->St->Hp->(St->Hp->Prop)->Prop
def PG (X:Cx) (target:Expr) (t:TG):Prop:=
 ∀ (pins:List (Addr×Obj)) (s:Shared) (U:St) (H:Hp) (v:V) (u:Value) (Q:St->Hp->Prop),Inv X pins U H s->RelV v u->t v U H Q->
  wpAny (model X.prog X.w) X.A (assign target X.env u) (fun _ s'=>∃ U' H',Inv X pins U' H' s'/\Q U' H') X.xe s
def U6 (X:Cx) (ts:List Expr) (t:Gb):Prop:=
 ∀ (pins:List (Addr×Obj)) (s:Shared) (U:St) (H:Hp) (vs:List V) (us:List Value) (Q:St->Hp->Prop),Inv X pins U H s->Vals vs us->t vs U H Q->
  wpAny (model X.prog X.w) X.A (assignInOrder ((assignEach ts X.env).map (·.2)) us) (fun _ s'=>∃ U' H',Inv X pins U' H' s'/\Q U' H') X.xe s
abbrev BK:=V->V->V->Hp->(Hp->Prop)->Prop
def Mt (X:Cx) (t:BK):Prop:=
 ∀ (pins:List (Addr×Obj)) (s:Shared) (U:St) (H:Hp) (o i v:V) (ov iv u:Value) (Q:Hp->Prop),Inv X pins U H s->RelV o ov->RelV i iv->RelV v u->t o i v H Q->
  wpAny (model X.prog X.w) X.A (setItem ov iv u) (fun _ s'=>∃ H',Inv X pins U H' s'/\Q H') X.xe s
abbrev TIp:=V->V->Hp->VK->Prop
def PIp (X:Cx) (op:Operator) (t:TIp):Prop:=
 ∀ (pins:List (Addr×Obj)) (s:Shared) (U:St) (H:Hp) (x y:V) (v u:Value) (Q:VK),Inv X pins U H s->RelV x v->RelV y u->t x y H Q->
  wpAny (model X.prog X.w) X.A (inplaceOp op v u) (EP X pins U Q) X.xe s
section
variable {X:Cx} {pos:Pos}
def qz (i:Nat):TG:=fun v U H Q=>Q (U.set i (some v)) H
theorem DG {i:Nat} {x:Str} (hN:X.N.Nodup) (hi:X.N[i]?=some x) (hx:Loc X.env.scope x) (hf:autoParam (X.fn x=true\/X.env.scope.names.lookup x=some .local) L2.auto1._auto_1):PG X (.Name x pos) (qz i):=by
 intro pins s U H v u Q I r h
 exact wpAny_assign_Name (oR I hN hi hx r (fun s' I'=>⟨_,H,I',h⟩) hf)
def Rm:Gb:=fun vs U H Q=>vs=[]/\Q U H
def Ij (t:TG) (u:Gb):Gb:=fun vs U H Q=>∃ v r,vs=v :: r/\t v U H fun U' H'=>u r U' H' Q
theorem Mu:U6 X [] Rm:=by
 intro pins s U H vs us Q I r h
 obtain ⟨e,h⟩:=h
 subst e
 cases r
 exact assignInOrder_nil ⟨U,H,I,h⟩
theorem Ik {e:Expr} {es:List Expr} {t:TG} {u:Gb} (h1:PG X e t) (h2:U6 X es u)
  (hs:autoParam ((assignEach (e :: es) X.env).map (·.2)=assign e X.env :: (assignEach es X.env).map (·.2)) L2.auto4._auto_1):U6 X (e :: es) (Ij t u):=by
 intro pins s U H vs us Q I r h
 obtain ⟨v,vr,e1,h⟩:=h
 subst e1
 cases r with
 | cons r rr=>
  rw [hs]
  refine assignInOrder_cons (d9 (h1 pins s U H _ _ _ I r h) fun _ s1 qq0=>?_)
  obtain ⟨σ1,H1,I1,q1⟩:=qq0
  exact h2 pins s1 σ1 H1 _ _ Q I1 rr q1
def Mv (K:W.Frag) (n:Nat) (t:Gb):TG:=fun v U H Q=>∃ a xs,v= .ref a/\SqT K H a xs/\xs.length=n/\t xs U H Q
theorem Rn {es:List Expr} {k:Nat} {t:Gb} {n:Nat} (hc:X.calm=true) (h:U6 X es t)
  (hn:autoParam ((assignEach es X.env).length=n) L2.auto4._auto_1) (hst:autoParam ((assignEach es X.env).findIdx? (·.1)=none) L2.auto4._auto_1):PG X (.Tuple es k pos) (Mv X.K n t):=by
 intro pins s U H v u Q I r hw
 obtain ⟨a,xs,e1,hq,hl,hw⟩:=hw
 subst e1
 cases r
 obtain ⟨its,rv,ht,hz⟩:=I.tuple hq
 refine assign_Tuple_tuple (I.ok.hd hc) ht (by simp [hn,← hl,rv.length]) hst fun h' hx=>?_
 have I1:Inv X pins U H {s with heap:=h'}:=I.kept (t':=s.toks) fun b o e=>hx b o (XN (Xp e)) e
 exact h pins _ U H xs _ Q I1 (by simpa using rv) hw
def Ro (to ti:TE) (t:BK):TG:=fun v U H Q=>to U H fun o H1=>ti U H1 fun i H2=>t o i v H2 fun H3=>Q U H3
theorem Rq {o i:Expr} {to ti:TE} {t:BK} (ho:PE X o to) (hi:PE X i ti) (hs:Mt X t)
  (ha:∀ v,assign (.Subscript o i pos) X.env v=(do
   let ov ← holding [v] (eval o X.env)
   let iv ← holding [v,ov] (eval i X.env)
   standAt pos
   holding [v,ov,iv] (setItem ov iv v)
   release [v,ov,iv] []):=by intro _;rfl):PG X (.Subscript o i pos) (Ro to ti t):=by
 intro pins s U H v u Q I r h
 rw [ha]
 refine Xi (Yl (d9 (ho pins s U H _ I h) fun ov s1 qq0=>?_))
 obtain ⟨x,H1,I1,r1,q1⟩:=qq0
 refine Xi (Yl (d9 (hi pins s1 U H1 _ I1 q1) fun iv s2 qq0=>?_))
 obtain ⟨y,H2,I2,r2,q2⟩:=qq0
 refine Xi (Z8 (Xi (Yl (d9 (hs pins s2 U H2 x y v ov iv u _ I2 r1 r2 r q2) fun _ s3 qq0=>?_))))
 obtain ⟨H3,I3,q3⟩:=qq0
 exact wpAny_release ⟨U,H3,I3,q3⟩
def zJ (te:TE) (g:TG):TS:=fun D U H=>te U H fun x H1=>g x U H1 D.nx
theorem Rr {tg e:Expr} {te:TE} {g:TG} (he:PE X e te) (hg:PG X tg g) (hs:autoParam (swapsWithSole [tg] e pos.line X.env=pure false) L2.auto4._auto_1) (hw:autoParam (swappedStores [tg] e X.env=pure none) L2.auto4._auto_1)
  (h1:autoParam ((assignEach [tg] X.env).map (·.2)=[assign tg X.env]) L2.auto4._auto_1):PS X (.Assign [tg] e pos) (zJ te g):=by
 intro pins s U H D I h
 refine wpAny_Assign_stores (d9 (he pins s U H _ I h) fun v s1 qq0=>?_) hs hw
 obtain ⟨x,H1,I1,r1,q1⟩:=qq0
 rw [h1]
 exact d9 (hg pins s1 U H1 x v _ I1 r1 q1) fun _ s2 q=>q
theorem Il {i:Nat} {x:Str} {e:Expr} {te:TE} {pos':Pos} (hN:X.N.Nodup) (hi:X.N[i]?=some x) (hx:Loc X.env.scope x) (he:PE X e te) (hs:autoParam (swapsWith e (some (.Name x pos')) pos.line X.env=pure false) L2.auto4._auto_1) (hf:autoParam (X.fn x=true\/X.env.scope.names.lookup x=some .local) L2.auto1._auto_1):
  PS X (.Assign [.Name x pos'] e pos) (zJ te (qz i)):=by
 intro pins s U H D I h
 refine wpAny_Assign_Name (d9 (he pins s U H _ I h) fun v s1 qq0=>?_) hs
 obtain ⟨y,H1,I1,r1,q1⟩:=qq0
 exact oR I1 hN hi hx r1 (fun s2 I2=>⟨_,H1,I2,q1⟩) hf
def Rt (i:Nat) (te:TE) (ti:TIp):TS:=fun D U H=>∃ x,U[i]?=some (some x)/\te U H fun y H1=>ti x y H1 fun z H2=>D.nx (U.set i (some z)) H2
theorem Ru {i:Nat} {x:Str} {e:Expr} {te:TE} {op:Operator} {ti:TIp} {pos':Pos} (hN:X.N.Nodup) (hi:X.N[i]?=some x) (hx:Loc X.env.scope x) (he:PE X e te) (ho:PIp X op ti) (hf:autoParam (X.fn x=true\/X.env.scope.names.lookup x=some .local) L2.auto1._auto_1):
  PS X (.AugAssign (.Name x pos') op e pos) (Rt i te ti):=by
 intro pins s U H D I h
 obtain ⟨v,e1,h⟩:=h
 obtain ⟨m,hn,hl⟩:=I.loc
 have vis:Vj X.env.scope x:=by rcases hx with k | k;exact .inl k;exact .inr (.inl k)
 obtain ⟨u,r,l⟩:=hl i x v hi e1 vis
 refine wpAny_AugAssign_Name ?_
 have go:wpAny (model X.prog X.w) X.A (eval e X.env) (fun w s₂=>wpAny (model X.prog X.w) X.A (inplaceOp op u w) (fun r s₃=>wpAny (model X.prog X.w) X.A (storeName X.env x r) (fun _=>SP X pins D .next) X.xe s₃) X.xe s₂) X.xe s:=by
  refine d9 (he pins s U H _ I h) fun w s1 qq0=>?_
  obtain ⟨y,H1,I1,r1,q1⟩:=qq0
  refine d9 (ho pins s1 U H1 v y u w _ I1 r r1 q1) fun z s2 qq0=>?_
  obtain ⟨zv,H2,I2,r2,q2⟩:=qq0
  exact oR I2 hN hi hx r2 (fun s3 I3=>⟨_,H2,I3,q2⟩) hf
 rcases l with ⟨hk,hm⟩ | ⟨hk,c,hc,hcell⟩
 ·exact wpAny_loadName_local I.ok.kind hk hn hm go
 ·rcases hk with hk | hk
  ·exact wpAny_loadName_cell I.ok.kind hk hc hcell go
  ·rcases hx with k | k
   ·have:X.env.scope.names.lookup x=some .free:=hk
    rw [k] at this;cases this
   ·have:X.env.scope.names.lookup x=some .free:=hk
    rw [k] at this;cases this
def BL (c:TT) (tb:TS):TS:=fun D U H=>∃ W:Nat->St->Hp->Prop,(∃ m,W m U H)/\∀ m U H,W m U H->
 c U H fun b H1=>if b=true then ∃ N:St->Hp->Prop,(∀ U' H',N U' H'->∃ m',m' < m/\W m' U' H')/\tb {D with nx:=N,ct:=N,bk:=D.nx} U H1 else D.nx U H1
theorem Im {c:Expr} {body:List Stmt} {tc:TT} {tb:TS} (hp:PassesOwn (model X.prog X.w) X.A X.env X.xe) (hc:PT X c tc) (hb:PSs X body tb):PS X (.While c body [] pos) (BL tc tb):=by
 intro pins s U H D I h
 obtain ⟨W,⟨m0,w0⟩,turn⟩:=h
 refine wpAny_While (codeAny_whileLoop (fun n s'=>∃ U' H',Inv X pins U' H' s'/\W n U' H') ?_ m0 ⟨U,H,I,w0⟩)
 rintro n s1 ⟨σ1,H1,I1,w1⟩
 refine Zn hp (d9 (hc pins s1 σ1 H1 _ I1 (turn n σ1 H1 w1)) fun b s2 qq0=>?_)
 obtain ⟨H2,I2,q2⟩:=qq0
 cases b with
 | true=>
  obtain ⟨N,hN,q2⟩:=q2
  rw [if_pos rfl]
  refine Zn hp (d9 (hb pins s2 σ1 H2 _ I2 q2) fun f s3 q3=>?_)
  cases f with
  | next=>
   obtain ⟨σ3,H3,I3,n3⟩:=q3
   obtain ⟨m',hm,w3⟩:=hN σ3 H3 n3
   exact ⟨m',hm,σ3,H3,I3,w3⟩
  | cont=>
   obtain ⟨σ3,H3,I3,n3⟩:=q3
   obtain ⟨m',hm,w3⟩:=hN σ3 H3 n3
   exact ⟨m',hm,σ3,H3,I3,w3⟩
  | brk=>exact q3
  | ret v=>exact q3
 | false=>
  rw [if_neg Xq]
  exact wpAny_execs_nil ⟨σ1,H2,I2,q2⟩
end
structure It where
 go:Nat->Hp->Prop
 yld:Nat->Hp->V->Hp->Prop
 stop:Nat->Hp->Prop
def mR (X:Cx) (pins:List (Addr×Obj)) (H:Hp) (b:Addr):Prop:=
 H b=none/\b≠X.env.locals/\b ∉ X.fs/\(b∈X.ex\/X.s₀.heap.objs.size<=b)/\(∀ x c,X.env.cells.lookup x=some c->c≠b)/\∀ p∈X.pn ++ pins,p.1≠b
theorem Inv.fpOk {X:Cx} {pins:List (Addr×Obj)} {U:St} {H H':Hp} {s:Shared} {b:Addr} (I:Inv X pins U H s) (hb:s.heap.objs.size<=b) (hn:H' b=none):mR X pins H' b:=by
 refine ⟨hn,ZC (Xy I.lt hb),I.nofs hb,.inr (XQ I.sz hb),fun x c e z=>?_,fun p hp z=>?_⟩
 ·obtain ⟨v,q⟩:=I.cell x c e
  exact absurd (Xy q.lt (by rw [z];exact hb)) (Yz _)
 ·exact absurd (Xy (Xp (I.pin p hp).1) (by rw [z];exact hb)) (Yz _)
structure Turn (P:Program) (w:World) (K:W.Frag) (tg:Expr) (J:It) (fp:List Addr) (it:Addr) (tn:Nat->Heap->Prop):Prop where
 mem:it∈fp
 obj:∀ i h,tn i h->∀ b∈fp,∃ o,h.get? b=some o/\∀ v,o.data≠.cell v
 keep:∀ i h h',tn i h->(∀ b∈fp,∀ o,h.get? b=some o->h'.get? b=some o)->tn i h'
 item:∀ (X:Cx),X.prog=P->X.w=w->X.K=K->X.calm=true->∀ (i:Nat) (pins:List (Addr×Obj)) (s:Shared) (U:St) (H:Hp) (E:Value->Shared->Prop),Inv X pins U H s->(∀ b∈fp,mR X pins H b)->tn i s.heap->J.go i H->
  wpAny (model P w) X.A (pyNext (.ref it)) (fun r s1=>∃ u,r=some u/\
   wpAny (model P w) X.A (letOwnedTupleGo tg (.ref it) u) (fun _ s2=>∃ x H',Inv X pins U H' s2/\RelV x u/\J.yld i H x H'/\tn (i+1) s2.heap/\∀ b∈fp,H' b=none) E s1) E s
 done:∀ (X:Cx),X.prog=P->X.w=w->X.K=K->X.calm=true->∀ (i:Nat) (pins:List (Addr×Obj)) (s:Shared) (U:St) (H:Hp) (E:Value->Shared->Prop),Inv X pins U H s->(∀ b∈fp,mR X pins H b)->tn i s.heap->J.stop i H->
  wpAny (model P w) X.A (pyNext (.ref it)) (fun r s1=>r=none/\Inv X pins U H s1) E s
 self:∀ (A:Around) (i:Nat) (s:Shared) (Q:Value->Shared->Prop) (E:Value->Shared->Prop),tn i s.heap->Q (.ref it) s->wpAny (model P w) A (pyIter (.ref it)) Q E s
abbrev TI:=St->Hp->(It->Hp->Prop)->Prop
def PIE (X:Cx) (pins:List (Addr×Obj)) (U:St) (tg:Expr) (R:It->Hp->Prop) (itv:Value) (s2:Shared):Prop:=
 ∃ (it:Addr) (fp:List Addr) (tn:Nat->Heap->Prop) (J:It) (H':Hp),itv= .ref it/\Inv X pins U H' s2/\Turn X.prog X.w X.K tg J fp it tn/\tn 0 s2.heap/\(∀ b∈fp,mR X pins H' b)/\R J H'
def PI (X:Cx) (tg iter:Expr) (wi:TI):Prop:=
 ∀ (pins:List (Addr×Obj)) (s:Shared) (U:St) (H:Hp) (R:It->Hp->Prop),Inv X pins U H s->wi U H R->
  wpAny (model X.prog X.w) X.A (eval iter X.env) (fun v s1=>wpAny (model X.prog X.w) X.A (pyIter v) (PIE X pins U tg R) X.xe s1) X.xe s
theorem xg {M:Model} {A:Around} {E:Value->Shared->Prop} {s:Shared} {tg:Expr} {it:Addr} {u:Value} {o:Obj} {n:String} {vs:Array Value} {Q:Unit->Shared->Prop} (ho:s.heap.get? it=some o) (hc:o.cls= .type n) (hd:o.data= .fields vs)
  (hn:["enumerate","zip","dict_itemiterator","dict_reverseitemiterator","odict_iterator","itertools.zip_longest","itertools.pairwise"].contains n=false) (hQ:Q () s):wpAny M A (letOwnedTupleGo tg (.ref it) u) Q E s:=by
 unfold letOwnedTupleGo
 cases tg <;> first
  | exact Xl hQ
  | (cases u <;> first
    | exact Xl hQ
    | (refine Xi (wpAny_load ho ?_)
       rw [hc,hd]
       show wpAny M A (if (["enumerate","zip","dict_itemiterator","dict_reverseitemiterator","odict_iterator","itertools.zip_longest","itertools.pairwise"].contains n && vs[0]? == some (rawInt _))=true then _ else _) Q E s
       rw [if_neg (by intro h;rw [hn,Bool.false_and] at h;cases h)]
       exact Xl hQ))
def Mw (K:W.Frag) (a:Addr):It:=
 ⟨fun i H=>∃ xs x,SqL K H a xs/\xs[i]?=some x,fun i H x H'=>H'=H/\∀ xs,SqL K H a xs->xs[i]?=some x,fun i H=>∃ xs,SqL K H a xs/\xs.length<=i⟩
def U9 (K:W.Frag) (a:Addr):It:=
 ⟨fun i H=>∃ xs x,SqT K H a xs/\xs[i]?=some x,fun i H x H'=>H'=H/\∀ xs,SqT K H a xs->xs[i]?=some x,fun i H=>∃ xs,SqT K H a xs/\xs.length<=i⟩
def HR (lo:Int) (n:Nat):It:=⟨fun i _=>i < n,fun i H x H'=>H'=H/\x= .int (lo+i),fun i _=>n<=i⟩
theorem Gd {P:Program} {w:World} {K:W.Frag} {tg:Expr} (a it:Addr):Turn P w K tg (Mw K a) [it] it (fun i h=>h.IsListIter it a i) where
 mem:=by simp
 obj:=fun i h st b hb=>by
  have e:b=it:=by simpa using hb
  subst e
  obtain ⟨o,e,c,d⟩:=st
  exact ⟨o,e,fun v z=>by rw [d] at z;cases z⟩
 keep:=fun i h h' st k=>st.at fun o e=>k it (by simp) o e
 item:=by
  intro X hP hw hK hc i pins s U H E I hf st hg
  subst hP hw hK
  obtain ⟨xs,x,hq,hx⟩:=hg
  obtain ⟨its,rv,p,hz⟩:=I.list hq
  obtain ⟨u,hu,ru⟩:=rv.get hx
  obtain ⟨f0,f1,f2,f3,f4,f5⟩:=hf it (by simp)
  refine wpAny_pyNext_list_item st p.isList (x:=u) (by simpa using hu) fun h' st' sb=>?_
  have I1:Inv X pins U H {s with heap:=h'}:=I.turned (t':=s.toks) (fun b o hb e=>(sb.2 b hb).trans e) f0 f1 f3 f4 f5
  obtain ⟨o,e,c,d⟩:=id st'
  exact ⟨u,rfl,xg (s:={s with heap:=h'}) e c d (by decide) ⟨x,H,I1,ru,⟨rfl,fun ys hy=>by rw [I.list_inj hy hq];exact hx⟩,st',fun b hb=>(hf b hb).1⟩⟩
 done:=by
  intro X hP hw hK hc i pins s U H E I hf st hg
  subst hP hw hK
  obtain ⟨xs,hq,hx⟩:=hg
  obtain ⟨its,rv,p,hz⟩:=I.list hq
  obtain ⟨f0,f1,f2,f3,f4,f5⟩:=hf it (by simp)
  have hl:=rv.length
  exact wpAny_pyNext_list_end (I.ok.hd hc) st p.isList (by simp;omega) fun h' eb=>⟨rfl,I.turned (t':=s.toks) (fun b o hb e=>eb b o hb e) f0 f1 f3 f4 f5⟩
 self:=fun _ _ _ _ _ st h=>wpAny_pyIter_listiter st h
theorem BP {P:Program} {w:World} {K:W.Frag} {tg:Expr} (a it:Addr):Turn P w K tg (U9 K a) [it] it (fun i h=>h.IsTupleIter it a i) where
 mem:=by simp
 obj:=fun i h st b hb=>by
  have e:b=it:=by simpa using hb
  subst e
  obtain ⟨o,e,c,d⟩:=st
  exact ⟨o,e,fun v z=>by rw [d] at z;cases z⟩
 keep:=fun i h h' st k=>st.at fun o e=>k it (by simp) o e
 item:=by
  intro X hP hw hK hc i pins s U H E I hf st hg
  subst hP hw hK
  obtain ⟨xs,x,hq,hx⟩:=hg
  obtain ⟨its,rv,p,hz⟩:=I.tuple hq
  obtain ⟨u,hu,ru⟩:=rv.get hx
  obtain ⟨f0,f1,f2,f3,f4,f5⟩:=hf it (by simp)
  refine wpAny_pyNext_tuple_item st (show s.heap.IsTuple a its.toArray from p) (x:=u) (by simpa using hu) fun h' st' sb=>?_
  have I1:Inv X pins U H {s with heap:=h'}:=I.turned (t':=s.toks) (fun b o hb e=>(sb.2 b hb).trans e) f0 f1 f3 f4 f5
  obtain ⟨o,e,c,d⟩:=id st'
  exact ⟨u,rfl,xg (s:={s with heap:=h'}) e c d (by decide) ⟨x,H,I1,ru,⟨rfl,fun ys hy=>by rw [I.tuple_inj hy hq];exact hx⟩,st',fun b hb=>(hf b hb).1⟩⟩
 done:=by
  intro X hP hw hK hc i pins s U H E I hf st hg
  subst hP hw hK
  obtain ⟨xs,hq,hx⟩:=hg
  obtain ⟨its,rv,p,hz⟩:=I.tuple hq
  obtain ⟨f0,f1,f2,f3,f4,f5⟩:=hf it (by simp)
  have hl:=rv.length
  exact wpAny_pyNext_tuple_end (I.ok.hd hc) st (show s.heap.IsTuple a its.toArray from p) (by simp;omega) fun h' eb=>⟨rfl,I.turned (t':=s.toks) (fun b o hb e=>eb b o hb e) f0 f1 f3 f4 f5⟩
 self:=fun _ _ _ _ _ st h=>wpAny_pyIter_tupleiter st h
theorem BR {P:Program} {w:World} {K:W.Frag} {tg:Expr} (it:Addr) (lo:Int) (n:Nat):Turn P w K tg (HR lo n) [it] it (fun i h=>IsRangeIter h it (lo+(i:Nat)*1) ((n:Int) - (i:Nat)) 1) where
 mem:=by simp
 obj:=fun i h st b hb=>by
  have e:b=it:=by simpa using hb
  subst e
  exact ⟨_,st,fun v z=>by
   have z':Data.fields _=Data.cell v:=z
   cases z'⟩
 keep:=fun i h h' st k=>k it (by simp) _ st
 item:=by
  intro X hP hw hK hc i pins s U H E I hf st hg
  subst hP hw hK
  obtain ⟨f0,f1,f2,f3,f4,f5⟩:=hf it (by simp)
  have W:=Walks.range (prog:=X.prog) (w:=X.w) (I.ok.hd hc) it lo 1 n
  refine W.item i s _ _ hg st fun v h' tk hv st' kk=>?_
  obtain ⟨t,rfl⟩:=hv
  have I1:Inv X pins U H {s with heap:=h',toks:=tk}:=I.turned (fun b o hb e=>kk b o (by simpa using hb) e) f0 f1 f3 f4 f5
  refine ⟨_,rfl,xg (s:={s with heap:=h',toks:=tk}) (n:="range_iterator") st' rfl rfl (by decide) ⟨.int (lo+i),H,I1,⟨t,?_⟩,⟨rfl,rfl⟩,st',fun b hb=>(hf b hb).1⟩⟩
  rw [Int.mul_one]
 done:=by
  intro X hP hw hK hc i pins s U H E I hf st hg
  subst hP hw hK
  obtain ⟨f0,f1,f2,f3,f4,f5⟩:=hf it (by simp)
  exact wpAny_pyNext_range_end (I.ok.hd hc) st (by have:n<=i:=hg;omega) fun h' eb=>⟨rfl,I.turned (t':=s.toks) (fun b o hb e=>eb b o hb e) f0 f1 f3 f4 f5⟩
 self:=fun _ _ _ _ _ st h=>wpAny_pyIter_rangeiter st h
section
variable {X:Cx} {tg:Expr}
theorem zK {pins:List (Addr×Obj)} {U:St} {H:Hp} {s:Shared} {R:It->Hp->Prop} {E:Value->Shared->Prop} {lo hi:Int} {t u v:Tok} {tk:Nat} (I:Inv X pins U H s) (h1: -(2 ^ 62)<=lo) (h2:lo < 2 ^ 62) (h3: -(2 ^ 62)<=hi) (h4:hi < 2 ^ 62)
  (q:R (HR lo (hi - lo).toNat) H):wpAny (model X.prog X.w) X.A (pyIter (.ref s.heap.objs.size)) (PIE X pins U tg R) E {s with heap:=s.heap.push {cls:=.type "range",data:=.fields #[.int lo t,.int hi u,.int 1 v]},toks:=tk}:=by
 refine wpAny_pyIter_range (IsRange.new ..) (small_one h1 h2 h3 h4) ?_
 have I1:Inv X pins U H {s with heap:=s.heap.push {cls:=.type "range",data:=.fields #[.int lo t,.int hi u,.int 1 v]},toks:=tk}:=I.kept fun b o e=>Xn _ e
 refine ⟨(s.heap.push {cls:=.type "range",data:=.fields #[.int lo t,.int hi u,.int 1 v]}).objs.size,[(s.heap.push {cls:=.type "range",data:=.fields #[.int lo t,.int hi u,.int 1 v]}).objs.size],_,_,H,rfl,
  I1.kept (t':=tk) fun b o e=>Xn _ e,BR _ lo (hi - lo).toNat,?_,fun b hb=>?_,q⟩
 ·have e1:lo+((0:Nat):Int)*1=lo:=by simp
  have e2:(((hi - lo).toNat:Nat):Int) - ((0:Nat):Int)=Builtin.Range.rangeSize lo hi 1:=by rw [rangeSize_one];split <;> omega
  show IsRangeIter _ _ (lo+((0:Nat):Int)*1) ((((hi - lo).toNat:Nat):Int) - ((0:Nat):Int)) 1
  rw [e1,e2]
  exact Xu _ rfl
 ·have e:b=(s.heap.push {cls:=.type "range",data:=.fields #[.int lo t,.int hi u,.int 1 v]}).objs.size:=by simpa using hb
  subst e
  exact I1.fpOk (Xo _) (I1.hok.fresh (Xo _))
def Io (ta:TA):TI:=fun U H R=>ta U H fun vs H1=>∃ j:Int,vs=[.int j]/\-(2 ^ 62)<=j/\j < 2 ^ 62/\R (HR 0 j.toNat) H1
def Ip (ta:TA):TI:=fun U H R=>ta U H fun vs H1=>∃ i j:Int,vs=[.int i,.int j]/\(-(2 ^ 62)<=i/\i < 2 ^ 62/\-(2 ^ 62)<=j/\j < 2 ^ 62)/\R (HR i (j - i).toNat) H1
theorem Ge {a:Expr} {ta:TA} {p pos:Pos} (hg:Gl X "range") (hm:X.mg "range"=none) (ha:PA X [a] ta) (hs:autoParam (starEach [a] X.env=[(false,eval a X.env)]) L2.auto4._auto_1):PI X tg (.Call (.Name "range" p) [a] [] pos) (Io ta):=by
 intro pins s U H R I h
 refine Call_ (jd I hg hm boot_range (XS (d9 (ha pos pins s U H _ I h) fun us s1 ⟨vs,H1,I1,r1,q1⟩=>?_) hs rfl))
 obtain ⟨j,e,q1,q2,q⟩:=q1
 subst e
 cases r1 with
 | cons r rr=>
  cases rr
  obtain ⟨t,rfl⟩:=r
  exact call_range_1 (zK I1 (by omega) (by omega) q1 q2 (by simpa using q))
theorem Gf {a b:Expr} {ta:TA} {p pos:Pos} (hg:Gl X "range") (hm:X.mg "range"=none) (ha:PA X [a,b] ta) (hs:autoParam (starEach [a,b] X.env=[(false,eval a X.env),(false,eval b X.env)]) L2.auto4._auto_1) (hs2:autoParam (starEach [b] X.env=[(false,eval b X.env)]) L2.auto4._auto_1):
  PI X tg (.Call (.Name "range" p) [a,b] [] pos) (Ip ta):=by
 intro pins s U H R I h
 refine Call_ (jd I hg hm boot_range (XS (d9 (ha pos pins s U H _ I h) fun us s1 qq0=>?_) (by rw [hs,hs2]) (by rw [hs2];rfl)))
 obtain ⟨vs,H1,I1,r1,q1⟩:=qq0
 obtain ⟨i,j,e,⟨q1,q2,q3,q4⟩,q⟩:=q1
 subst e
 cases r1 with
 | cons r rr=>
  cases rr with
  | cons r' rr=>
   cases rr
   obtain ⟨t,rfl⟩:=r
   obtain ⟨t',rfl⟩:=r'
   exact call_range_2 (zK I1 q1 q2 q3 q4 q)
def Mx (wi:TI) (g:TG) (tb:TS):TS:=fun D U H=>wi U H fun J H1=>∃ W:Nat->Nat->St->Hp->Prop,(∃ m,W 0 m U H1)/\∀ i m U H,W i m U H->
 (J.stop i H/\D.nx U H)\/(J.go i H/\∃ N:St->Hp->Prop,(∀ U' H',N U' H'->∃ m',m' < m/\W (i+1) m' U' H')/\∀ x H',J.yld i H x H'->g x U H' fun σ2 H2=>tb {D with nx:=N,ct:=N,bk:=D.nx} σ2 H2)
def sU (fp:List Addr) (h:Heap):List (Addr×Obj):=fp.filterMap fun b=>(h.get? b).map fun o=>(b,o)
theorem m9 {fp:List Addr} {h:Heap} {b:Addr} {o:Obj} (hb:b∈fp) (e:h.get? b=some o):(b,o)∈sU fp h:=List.mem_filterMap.mpr ⟨b,hb,by rw [e];rfl⟩
theorem Gg {fp:List Addr} {h:Heap} {p:Addr×Obj} (hp:p∈sU fp h):p.1∈fp/\h.get? p.1=some p.2:=by
 obtain ⟨b,hb,e⟩:=List.mem_filterMap.mp hp
 cases q:h.get? b with
 | none=>rw [q] at e;cases e
 | some o=>
  rw [q] at e
  have e':(b,o)=p:=Ye e
  subst e'
  exact ⟨hb,q⟩
theorem Inv.pinned {pins:List (Addr×Obj)} {U:St} {H:Hp} {s:Shared} {fp:List Addr} (I:Inv X pins U H s) (hf:∀ b∈fp,mR X pins H b) (ho:∀ b∈fp,∃ o,s.heap.get? b=some o/\∀ v,o.data≠.cell v):Inv X (pins ++ sU fp s.heap) U H s:=
 I.pins_of fun p hp=>(Yx.mp hp).elim (fun z=>I.pin p (Ym _ z)) fun z=>by
  obtain ⟨hb,e⟩:=Gg z
  obtain ⟨f0,f1,f2,_⟩:=hf p.1 hb
  obtain ⟨o,e',d⟩:=ho p.1 hb
  rw [e] at e';cases e'
  exact ⟨e,f0,f1,f2,d⟩
theorem Inv.unpinned {pins pl:List (Addr×Obj)} {U:St} {H:Hp} {s:Shared} (I:Inv X (pins ++ pl) U H s):Inv X pins U H s:=I.pins_of fun p hp=>I.pin p (Ym _ (ZV _ hp))
theorem Rv {iter:Expr} {body:List Stmt} {wi:TI} {g:TG} {tb:TS} {pos:Pos} (hp:PassesOwn (model X.prog X.w) X.A X.env X.xe) (hc:X.calm=true) (hi:PI X tg iter wi) (hg:PG X tg g) (hb:PSs X body tb)
  (hs:autoParam (∀ x,foldedSetIterable iter X.env x=pure x) L2.auto3._auto_1):PS X (.For tg iter body [] pos) (Mx wi g tb):=by
 intro pins s U H D I h
 refine wpAny_For (d9 (hi pins s U H _ I h) fun v s1 h1=>d9 h1 fun itv s2 h2=>?_) hs
 obtain ⟨it,fp,tn,J,H2,e,I2,T,st2,f2,W,⟨m0,w0⟩,turn⟩:=h2
 subst e
 have stat:∀ {H':Hp},(∀ b∈fp,H' b=none)->∀ b∈fp,mR X pins H' b:=fun hn b hb=>⟨hn b hb,(f2 b hb).2⟩
 refine codeAny_forLoop_any (fun n s'=>∃ i U' H',Inv X pins U' H' s'/\tn i s'.heap/\(∀ b∈fp,H' b=none)/\W i n U' H') ?_ m0 ⟨0,U,H2,I2,st2,fun b hb=>(f2 b hb).1,w0⟩
 rintro n s3 ⟨i,σ3,H3,I3,st3,fr3,w3⟩
 rcases turn i n σ3 H3 w3 with ⟨stop,qn⟩ | ⟨go,N,hN,step⟩
 ·refine Zn hp (d9 (T.done X rfl rfl rfl hc i pins s3 σ3 H3 X.xe I3 (stat fr3) st3 stop) fun r s4 qq0=>?_)
  obtain ⟨hr,I4⟩:=qq0
  subst hr
  exact wpAny_execs_nil ⟨σ3,H3,I4,qn⟩
 ·refine Zn hp (d9 (T.item X rfl rfl rfl hc i pins s3 σ3 H3 X.xe I3 (stat fr3) st3 go) fun r s4 qq0=>?_)
  obtain ⟨u,hr,h4⟩:=qq0
  subst hr
  refine Zn hp (d9 h4 fun _ s5 qq0=>?_)
  obtain ⟨x,H5,I5,r5,y5,st5,fr5⟩:=qq0
  have I5':=I5.pinned (stat fr5) (T.obj _ _ st5)
  refine Zn hp (d9 (hg _ s5 σ3 H5 x u _ I5' r5 (step x H5 y5)) fun _ s6 qq0=>?_)
  obtain ⟨σ6,H6,I6,q6⟩:=qq0
  refine Zn hp (d9 (hb _ s6 σ6 H6 _ I6 q6) fun f s7 q7=>?_)
  have again:∀ {σ7:St} {H7:Hp},Inv X (pins ++ sU fp s5.heap) σ7 H7 s7->N σ7 H7->∃ m,m < n/\∃ i U' H',Inv X pins U' H' s7/\tn i s7.heap/\(∀ b∈fp,H' b=none)/\W i m U' H':=fun {σ7 H7} I7 n7=>by
   obtain ⟨m',hm,w7⟩:=hN σ7 H7 n7
   refine ⟨m',hm,i+1,σ7,H7,I7.unpinned,T.keep _ _ _ st5 fun b hb o e=>(I7.pin (b,o) (Ym _ (Ym _ (m9 hb e)))).1,fun b hb=>?_,w7⟩
   obtain ⟨o,e,d⟩:=T.obj _ _ st5 b hb
   exact (I7.pin (b,o) (Ym _ (Ym _ (m9 hb e)))).2.1
  cases f with
  | next=>obtain ⟨σ7,H7,I7,n7⟩:=q7;exact again I7 n7
  | cont=>obtain ⟨σ7,H7,I7,n7⟩:=q7;exact again I7 n7
  | brk=>obtain ⟨σ7,H7,I7,q7⟩:=q7;exact ⟨σ7,H7,I7.unpinned,q7⟩
  | ret v=>obtain ⟨x7,σ7,H7,I7,r7,q7⟩:=q7;exact ⟨x7,σ7,H7,I7.unpinned,r7,q7⟩
end
theorem vm {K:W.Frag} {a:Addr} {xs:List V} {g:TG} {tb:TS} {D:Ends} {U:St} {H:Hp} (Pv:Nat->St->Hp->Prop) (h0:Pv 0 U H) (hl:∀ i U H,i<=xs.length->Pv i U H->SqL K H a xs)
  (hs:∀ i x U H,xs[i]?=some x->Pv i U H->g x U H fun σ2 H2=>tb {D with nx:=Pv (i+1),ct:=Pv (i+1),bk:=D.nx} σ2 H2) (hd:∀ U H,Pv xs.length U H->D.nx U H):
  ∃ W:Nat->Nat->St->Hp->Prop,(∃ m,W 0 m U H)/\∀ i m U H,W i m U H->
   ((Mw K a).stop i H/\D.nx U H)\/((Mw K a).go i H/\∃ N:St->Hp->Prop,(∀ U' H',N U' H'->∃ m',m' < m/\W (i+1) m' U' H')/\∀ x H',(Mw K a).yld i H x H'->g x U H' fun σ2 H2=>tb {D with nx:=N,ct:=N,bk:=D.nx} σ2 H2):=by
 refine ⟨fun i m U H=>m=xs.length - i/\i<=xs.length/\Pv i U H,⟨xs.length,by simp,YG _,h0⟩,?_⟩
 rintro i m U H ⟨rfl,hi,p⟩
 have q:=hl i U H hi p
 by_cases hlt:i < xs.length
 ·refine .inr ⟨⟨xs,xs[i],q,by simp [hlt]⟩,Pv (i+1),fun U' H' p'=>⟨xs.length - (i+1),by omega,rfl,hlt,p'⟩,fun x H' y=>?_⟩
  obtain ⟨e,y⟩:=y
  subst e
  exact hs i x U _ (y xs q) p
 ·have e:i=xs.length:=by omega
  subst e
  exact .inl ⟨⟨xs,q,Xo _⟩,hd U H p⟩
theorem DK {K:W.Frag} {a:Addr} {xs:List V} {g:TG} {tb:TS} {D:Ends} {U:St} {H:Hp} (Pv:Nat->St->Hp->Prop) (h0:Pv 0 U H) (hl:∀ i U H,i<=xs.length->Pv i U H->SqT K H a xs)
  (hs:∀ i x U H,xs[i]?=some x->Pv i U H->g x U H fun σ2 H2=>tb {D with nx:=Pv (i+1),ct:=Pv (i+1),bk:=D.nx} σ2 H2) (hd:∀ U H,Pv xs.length U H->D.nx U H):
  ∃ W:Nat->Nat->St->Hp->Prop,(∃ m,W 0 m U H)/\∀ i m U H,W i m U H->
   ((U9 K a).stop i H/\D.nx U H)\/((U9 K a).go i H/\∃ N:St->Hp->Prop,(∀ U' H',N U' H'->∃ m',m' < m/\W (i+1) m' U' H')/\∀ x H',(U9 K a).yld i H x H'->g x U H' fun σ2 H2=>tb {D with nx:=N,ct:=N,bk:=D.nx} σ2 H2):=by
 refine ⟨fun i m U H=>m=xs.length - i/\i<=xs.length/\Pv i U H,⟨xs.length,by simp,YG _,h0⟩,?_⟩
 rintro i m U H ⟨rfl,hi,p⟩
 have q:=hl i U H hi p
 by_cases hlt:i < xs.length
 ·refine .inr ⟨⟨xs,xs[i],q,by simp [hlt]⟩,Pv (i+1),fun U' H' p'=>⟨xs.length - (i+1),by omega,rfl,hlt,p'⟩,fun x H' y=>?_⟩
  obtain ⟨e,y⟩:=y
  subst e
  exact hs i x U _ (y xs q) p
 ·have e:i=xs.length:=by omega
  subst e
  exact .inl ⟨⟨xs,q,Xo _⟩,hd U H p⟩
theorem jn {lo:Int} {n:Nat} {g:TG} {tb:TS} {D:Ends} {U:St} {H:Hp} (Pv:Nat->St->Hp->Prop) (h0:Pv 0 U H)
  (hs:∀ i U H,i < n->Pv i U H->g (.int (lo+i)) U H fun σ2 H2=>tb {D with nx:=Pv (i+1),ct:=Pv (i+1),bk:=D.nx} σ2 H2) (hd:∀ U H,Pv n U H->D.nx U H):
  ∃ W:Nat->Nat->St->Hp->Prop,(∃ m,W 0 m U H)/\∀ i m U H,W i m U H->
   ((HR lo n).stop i H/\D.nx U H)\/((HR lo n).go i H/\∃ N:St->Hp->Prop,(∀ U' H',N U' H'->∃ m',m' < m/\W (i+1) m' U' H')/\∀ x H',(HR lo n).yld i H x H'->g x U H' fun σ2 H2=>tb {D with nx:=N,ct:=N,bk:=D.nx} σ2 H2):=by
 refine ⟨fun i m U H=>m=n - i/\i<=n/\Pv i U H,⟨n,by simp,YG _,h0⟩,?_⟩
 rintro i m U H ⟨rfl,hi,p⟩
 by_cases hlt:i < n
 ·refine .inr ⟨hlt,Pv (i+1),fun U' H' p'=>⟨n - (i+1),by omega,rfl,hlt,p'⟩,fun x H' y=>?_⟩
  obtain ⟨e,y⟩:=y
  subst e y
  exact hs i U _ hlt p
 ·have e:i=n:=by omega
  subst e
  exact .inl ⟨Xo _,hd U H p⟩
theorem Ir {c:TT} {tb:TS} {D:Ends} {U:St} {H:Hp} (Pv:St->Hp->Prop) (μ:St->Hp->Nat) (h0:Pv U H)
  (hs:∀ U H,Pv U H->c U H fun b H1=>if b=true then tb {D with nx:=fun U' H'=>Pv U' H'/\μ U' H' < μ U H,ct:=fun U' H'=>Pv U' H'/\μ U' H' < μ U H,bk:=D.nx} U H1 else D.nx U H1)
  (mono:∀ U H Q Q',(∀ b H1,Q b H1->Q' b H1)->c U H Q->c U H Q'):BL c tb D U H:=by
 refine ⟨fun m U H=>m=μ U H/\Pv U H,⟨_,rfl,h0⟩,?_⟩
 rintro m U H ⟨rfl,p⟩
 refine mono U H _ _ (fun b H1 q=>?_) (hs U H p)
 cases b with
 | true=>exact ⟨_,fun U' H' ⟨p',l⟩=>⟨_,l,rfl,p'⟩,q⟩
 | false=>exact q
abbrev R2:=V->V->Hp->VK->Prop
def OpR (X:Cx) (f:Value->Value->Sem Value) (r:R2):Prop:=
 ∀ (pins:List (Addr×Obj)) (s:Shared) (U:St) (H:Hp) (x y:V) (v u:Value) (Q:VK),Inv X pins U H s->RelV x v->RelV y u->r x y H Q->
  wpAny (model X.prog X.w) X.A (f v u) (EP X pins U Q) X.xe s
def W9 (X:Cx) (f:Value->Sem Value) (r:V->Hp->VK->Prop):Prop:=
 ∀ (pins:List (Addr×Obj)) (s:Shared) (U:St) (H:Hp) (x:V) (v:Value) (Q:VK),Inv X pins U H s->RelV x v->r x H Q->
  wpAny (model X.prog X.w) X.A (f v) (EP X pins U Q) X.xe s
def CallR (X:Cx) (f:Value) (r:List V->Hp->VK->Prop):Prop:=
 ∀ (pins:List (Addr×Obj)) (s:Shared) (U:St) (H:Hp) (xs:List V) (us:List Value) (Q:VK),Inv X pins U H s->Vals xs us->r xs H Q->
  wpAny (model X.prog X.w) X.A (call f us) (EP X pins U Q) X.xe s
def Iu (r:R2) (ta tb:TE):TE:=fun U H Q=>ta U H fun x H1=>tb U H1 fun y H2=>r x y H2 Q
def tUn (r:V->Hp->VK->Prop) (ta:TE):TE:=fun U H Q=>ta U H fun x H1=>r x H1 Q
def rI (C:Int->Int->Prop) (g:Int->Int->V):R2:=fun x y H Q=>∃ i j,x= .int i/\y= .int j/\C i j/\Q (g i j) H
def Iv (g:Int->Int->V):R2:=fun x y H Q=>∃ i j,x= .int i/\y= .int j/\Q (g i j) H
def rU (g:Int->V):V->Hp->VK->Prop:=fun x H Q=>∃ i,x= .int i/\Q (g i) H
section
variable {X:Cx} {a b c:Expr} {ta tb tc:TE} {pos:Pos}
theorem Rw (ha:PE X a ta) (hb:PE X b tb) {pins:List (Addr×Obj)} {s:Shared} {U:St} {H:Hp} {R:V->V->Hp->Prop} (I:Inv X pins U H s)
  (h:ta U H fun x H1=>tb U H1 fun y H2=>R x y H2) {Q:Value->Shared->Prop} {f:Value->Value->Sem Value}
  (hf:∀ v u s2 x y H2,Inv X pins U H2 s2->RelV x v->RelV y u->R x y H2->wpAny (model X.prog X.w) X.A (f v u) Q X.xe s2):
  wpAny (model X.prog X.w) X.A (eval a X.env) (fun v s₁=>wpAny (model X.prog X.w) X.A (eval b X.env) (fun u s₂=>wpAny (model X.prog X.w) X.A (f v u) Q X.xe s₂) X.xe s₁) X.xe s:=by
 refine d9 (ha pins s U H _ I h) fun v s1 qq0=>?_
 obtain ⟨x,H1,I1,r1,q1⟩:=qq0
 refine d9 (hb pins s1 U H1 _ I1 q1) fun u s2 qq0=>?_
 obtain ⟨y,H2,I2,r2,q2⟩:=qq0
 exact hf v u s2 x y H2 I2 r1 r2 q2
theorem Vo {op:Operator} {r:R2} (ho:OpR X (binaryOp op) r) (ha:PE X a ta) (hb:PE X b tb):PE X (.BinOp a op b pos) (Iu r ta tb):=by
 intro pins s U H Q I h
 exact wpAny_BinOp (Rw ha hb I h fun v u s2 x y H2 I2 rx ry q=>ho pins s2 U H2 x y v u Q I2 rx ry q)
theorem Vp {op:UnaryOp} {r:V->Hp->VK->Prop} (ho:W9 X (unaryOp op) r) (ha:PE X a ta):PE X (.UnaryOp op a pos) (tUn r ta):=by
 intro pins s U H Q I h
 exact UnaryOp_ (d9 (ha pins s U H _ I h) fun v s1 ⟨x,H1,I1,r1,q1⟩=>ho pins s1 U H1 x v Q I1 r1 q1)
theorem Xa {f:Value->Value->Sem Value} {C:Int->Int->Prop} {g:Int->Int->Int}
  (rule:∀ (i j:Int) (t u:Tok) (s:Shared) (Q:Value->Shared->Prop) (E:Value->Shared->Prop),C i j->Q (.int (g i j) s.toks) {s with toks:=s.toks+1}->wpAny (model X.prog X.w) X.A (f (.int i t) (.int j u)) Q E s):
  OpR X f (rI C fun i j=>.int (g i j)):=by
 intro pins s U H x y v u Q I rx ry h
 obtain ⟨i,j,rfl,rfl,hc,q⟩:=h
 obtain ⟨t,rfl⟩:=rx
 obtain ⟨t',rfl⟩:=ry
 exact rule i j t t' s _ _ hc ⟨.int (g i j),H,I.tok _,⟨_,rfl⟩,q⟩
theorem Rx {f:Value->Value->Sem Value} {g:Int->Int->Int}
  (rule:∀ (i j:Int) (t u:Tok) (s:Shared) (Q:Value->Shared->Prop) (E:Value->Shared->Prop),Q (.int (g i j) s.toks) {s with toks:=s.toks+1}->wpAny (model X.prog X.w) X.A (f (.int i t) (.int j u)) Q E s):
  OpR X f (Iv fun i j=>.int (g i j)):=by
 intro pins s U H x y v u Q I rx ry h
 obtain ⟨i,j,rfl,rfl,q⟩:=h
 obtain ⟨t,rfl⟩:=rx
 obtain ⟨t',rfl⟩:=ry
 exact rule i j t t' s _ _ ⟨.int (g i j),H,I.tok _,⟨_,rfl⟩,q⟩
theorem Mz {f:Value->Value->Sem Value} {g:Int->Int->Bool}
  (rule:∀ (i j:Int) (t u:Tok) (s:Shared) (Q:Value->Shared->Prop) (E:Value->Shared->Prop),Q (.bool (g i j)) s->wpAny (model X.prog X.w) X.A (f (.int i t) (.int j u)) Q E s):
  OpR X f (Iv fun i j=>.bl (g i j)):=by
 intro pins s U H x y v u Q I rx ry h
 obtain ⟨i,j,rfl,rfl,q⟩:=h
 obtain ⟨t,rfl⟩:=rx
 obtain ⟨t',rfl⟩:=ry
 exact rule i j t t' s _ _ ⟨.bl (g i j),H,I,rfl,q⟩
def CDiv (i j:Int):Prop:=0 < j/\j < 1073741824
def CPow (i j:Int):Prop:=0<=j/\j<=1000000/\i.natAbs < 2 ^ 64
def CMul (i j:Int):Prop:=(-(2 ^ 64) < i/\i < 2 ^ 64)\/(-(2 ^ 64) < j/\j < 2 ^ 64)
theorem CMul.ok {i j:Int} (h:CMul i j):IntMulOk i j:=by
 rcases h with ⟨h1,h2⟩ | ⟨h1,h2⟩
 ·exact .of_left (intBits_le_64 h1 h2)
 ·exact .of_right (intBits_le_64 h1 h2)
theorem Ry:OpR X (binaryOp .Add) (Iv fun i j=>.int (i+j)):=Rx fun _ _ _ _ _ _ _ q=>add_int q
theorem ni:OpR X (binaryOp .Sub) (Iv fun i j=>.int (i - j)):=Rx fun _ _ _ _ _ _ _ q=>sub_int q
theorem Rz:OpR X (binaryOp .Mult) (rI CMul fun i j=>.int (i*j)):=Xa fun _ _ _ _ _ _ _ hc q=>mul_int q hc.ok
theorem iB:OpR X (binaryOp .FloorDiv) (rI CDiv fun i j=>.int (i / j)):=Xa fun i j _ _ _ _ _ hc q=>by
 have h1:(0:Int) < j:=hc.1
 have h2:j < 1073741824:=hc.2
 exact floordiv_int (by omega) (by rw [Int.fdiv_eq_ediv_of_nonneg i (by omega)];exact q) (.inl (PyProof.noPylong_small (by omega)))
theorem je:OpR X (binaryOp .Mod) (rI (fun _ j=>0 < j) fun i j=>.int (i % j)):=Xa fun i j _ _ _ _ _ hc q=>by
 have h1:(0:Int) < j:=hc
 exact mod_int' (by omega) (by rw [Int.fmod_eq_emod_of_nonneg i (by omega)];exact q)
theorem RB:OpR X (binaryOp .Pow) (rI CPow fun i j=>.int (i ^ j.toNat)):=Xa fun _ _ _ _ _ _ _ hc q=>pow_int_small hc.1 hc.2.1 hc.2.2 q
theorem MF:OpR X (inplaceOp .Sub) (Iv fun i j=>.int (i - j)):=Rx fun _ _ _ _ _ _ _ q=>isub_int q
theorem unI {f:Value->Sem Value} {g:Int->Int}
  (rule:∀ (i:Int) (t:Tok) (s:Shared) (Q:Value->Shared->Prop) (E:Value->Shared->Prop),Q (.int (g i) s.toks) {s with toks:=s.toks+1}->wpAny (model X.prog X.w) X.A (f (.int i t)) Q E s):
  W9 X f (rU fun i=>.int (g i)):=by
 intro pins s U H x v Q I rx h
 obtain ⟨i,rfl,q⟩:=h
 obtain ⟨t,rfl⟩:=rx
 exact rule i t s _ _ ⟨.int (g i),H,I.tok _,⟨_,rfl⟩,q⟩
theorem RC:W9 X (unaryOp .USub) (rU fun i=>.int (-i)):=unI fun _ _ _ _ _ q=>neg_int q
end
def Vq:V->V->Bool
 | .non,.non=>true | .non,.int _=>true | .int _,.non=>true | .non,.bl _=>true | .bl _,.non=>true | .non,.str _=>true | .str _,.non=>true
 | .int _,.int _=>true | .bl _,.bl _=>true | .str _,.str _=>true | .byt _,.byt _=>true
 | .int _,.str _=>true | .str _,.int _=>true | .bl _,.str _=>true | .str _,.bl _=>true
 | _,_=>false
def rEq:R2:=fun x y H Q=>Vq x y=true/\Q (.bl (decide (x=y))) H
def rNe:R2:=fun x y H Q=>Vq x y=true/\Q (.bl (!decide (x=y))) H
theorem DN {i j:Int}:decide (V.int i=V.int j)=(i == j):=by
 rw [ZJ]
 simp
theorem Iw {i j:Bool}:decide (V.bl i=V.bl j)=(i == j):=by
 rw [ZJ]
 simp
theorem DP {i j:Str}:decide (V.str i=V.str j)=(i == j):=by
 rw [ZJ]
 simp
theorem DQ {i j:Array UInt8}:decide (V.byt i=V.byt j)=(i.toList == j.toList):=by
 rw [ZJ]
 cases i
 cases j
 simp
section
variable {X:Cx} {a b c:Expr} {ta tb tc:TE} {pos:Pos}
theorem bL {pins:List (Addr×Obj)} {U:St} {H:Hp} {s:Shared} {Q:VK} {k k':Bool} (I:Inv X pins U H s) (q:Q (.bl k) H) (e:k=k'):EP X pins U Q (.bool k') s:=by
 subst e
 exact ⟨.bl k,H,I,rfl,q⟩
theorem Vr:OpR X (compareOp .Eq) rEq:=by
 intro pins s U H x y v u Q I rx ry h
 obtain ⟨hs,q⟩:=h
 cases x with
 | non=>
  cases rx
  cases y with
  | non=>cases ry;exact PySem.EqNone.eq_none_none (bL I q (by simp))
  | bl j=>cases ry;exact PySem.EqNone.eq_none_bool (bL I q (by simp))
  | int j=>obtain ⟨t',rfl⟩:=ry;exact PySem.EqNone.eq_none_int (bL I q (by simp))
  | str j=>obtain ⟨t',rfl⟩:=ry;exact PySem.EqNone.eq_none_str (bL I q (by simp))
  | _=>exact absurd (show false=true from hs) Xq
 | bl i=>
  cases rx
  cases y with
  | non=>cases ry;exact PySem.EqNone.eq_bool_none (bL I q (by simp))
  | bl j=>cases ry;exact eq_bool (bL I q Iw)
  | str j=>obtain ⟨t',rfl⟩:=ry;exact PySem.EqMixed.eq_bool_str (bL I q (by simp))
  | _=>exact absurd (show false=true from hs) Xq
 | int i=>
  obtain ⟨t,rfl⟩:=rx
  cases y with
  | non=>cases ry;exact PySem.EqNone.eq_int_none (bL I q (by simp))
  | int j=>obtain ⟨t',rfl⟩:=ry;exact eq_int (bL I q DN)
  | str j=>obtain ⟨t',rfl⟩:=ry;exact PySem.EqMixed.eq_int_str (bL I q (by simp))
  | _=>exact absurd (show false=true from hs) Xq
 | str i=>
  obtain ⟨t,rfl⟩:=rx
  cases y with
  | non=>cases ry;exact PySem.EqNone.eq_str_none (bL I q (by simp))
  | bl j=>cases ry;exact PySem.EqMixed.eq_str_bool (bL I q (by simp))
  | int j=>obtain ⟨t',rfl⟩:=ry;exact PySem.EqMixed.eq_str_int (bL I q (by simp))
  | str j=>obtain ⟨t',rfl⟩:=ry;exact eq_str (bL I q DP)
  | _=>exact absurd (show false=true from hs) Xq
 | byt i=>
  obtain ⟨t,rfl⟩:=rx
  cases y with
  | byt j=>obtain ⟨t',rfl⟩:=ry;exact PySem.W.eq_bytes (bL I q DQ)
  | _=>exact absurd (show false=true from hs) Xq
 | _=>cases y <;> exact absurd (show false=true from hs) Xq
theorem Vs:OpR X (compareOp .NotEq) rNe:=by
 intro pins s U H x y v u Q I rx ry h
 obtain ⟨hs,q⟩:=h
 cases x with
 | non=>
  cases rx
  cases y with
  | non=>cases ry;exact PySem.EqNone.ne_none_none (bL I q (by simp))
  | bl j=>cases ry;exact PySem.EqNone.ne_none_bool (bL I q (by simp))
  | int j=>obtain ⟨t',rfl⟩:=ry;exact PySem.EqNone.ne_none_int (bL I q (by simp))
  | str j=>obtain ⟨t',rfl⟩:=ry;exact PySem.EqNone.ne_none_str (bL I q (by simp))
  | _=>exact absurd (show false=true from hs) Xq
 | bl i=>
  cases rx
  cases y with
  | non=>cases ry;exact PySem.EqNone.ne_bool_none (bL I q (by simp))
  | bl j=>cases ry;exact ne_bool (bL I q (congrArg not Iw))
  | str j=>obtain ⟨t',rfl⟩:=ry;exact PySem.EqMixed.ne_bool_str (bL I q (by simp))
  | _=>exact absurd (show false=true from hs) Xq
 | int i=>
  obtain ⟨t,rfl⟩:=rx
  cases y with
  | non=>cases ry;exact PySem.EqNone.ne_int_none (bL I q (by simp))
  | int j=>obtain ⟨t',rfl⟩:=ry;exact ne_int (bL I q (congrArg not DN))
  | str j=>obtain ⟨t',rfl⟩:=ry;exact PySem.EqMixed.ne_int_str (bL I q (by simp))
  | _=>exact absurd (show false=true from hs) Xq
 | str i=>
  obtain ⟨t,rfl⟩:=rx
  cases y with
  | non=>cases ry;exact PySem.EqNone.ne_str_none (bL I q (by simp))
  | bl j=>cases ry;exact PySem.EqMixed.ne_str_bool (bL I q (by simp))
  | int j=>obtain ⟨t',rfl⟩:=ry;exact PySem.EqMixed.ne_str_int (bL I q (by simp))
  | str j=>obtain ⟨t',rfl⟩:=ry;exact ne_str (bL I q (congrArg not DP))
  | _=>exact absurd (show false=true from hs) Xq
 | byt i=>
  obtain ⟨t,rfl⟩:=rx
  cases y with
  | byt j=>obtain ⟨t',rfl⟩:=ry;exact PySem.W.ne_bytes (bL I q (congrArg not DQ))
  | _=>exact absurd (show false=true from hs) Xq
 | _=>cases y <;> exact absurd (show false=true from hs) Xq
theorem Iz:OpR X (compareOp .Lt) (Iv fun i j=>.bl (decide (i < j))):=Mz fun _ _ _ _ _ _ _ q=>lt_int q
theorem DW:OpR X (compareOp .LtE) (Iv fun i j=>.bl (decide (i<=j))):=Mz fun _ _ _ _ _ _ _ q=>le_int q
theorem t8:OpR X (compareOp .Gt) (Iv fun i j=>.bl (decide (j < i))):=Mz fun _ _ _ _ _ _ _ q=>gt_int q
theorem Qn:OpR X (compareOp .GtE) (Iv fun i j=>.bl (decide (j<=i))):=Mz fun _ _ _ _ _ _ _ q=>ge_int q
theorem Gh:OpR X (compareOp .In) (fun x y H Q=>∃ i j,x= .str i/\y= .str j/\Q (.bl (!(Builtin.Str.occurrences j i 0 j.length 1).isEmpty)) H):=by
 intro pins s U H x y v u Q I rx ry h
 obtain ⟨i,j,rfl,rfl,q⟩:=h
 obtain ⟨t,rfl⟩:=rx
 obtain ⟨t',rfl⟩:=ry
 exact in_str (bL I q rfl)
theorem OpR.or {f:Value->Value->Sem Value} {r r':R2} (h:OpR X f r) (h':OpR X f r'):OpR X f (fun x y H Q=>r x y H Q\/r' x y H Q):=by
 intro pins s U H x y v u Q I rx ry q
 rcases q with q | q
 ·exact h pins s U H x y v u Q I rx ry q
 ·exact h' pins s U H x y v u Q I rx ry q
theorem aW (b:Expr) {op:CmpOp} (h:autoParam (op≠.In) L2.auto2._auto_1) (h2:autoParam (op≠.NotIn) L2.auto2._auto_1):behindInMarks op b=false:=by
 have e1:(op == CmpOp.In)=false:=by cases op <;> first | rfl | exact absurd rfl h
 have e2:(op == CmpOp.NotIn)=false:=by cases op <;> first | rfl | exact absurd rfl h2
 cases b <;> simp [behindInMarks,e1,e2]
theorem MJ {op:CmpOp} {r:R2} (ho:OpR X (compareOp op) r) (ha:PE X a ta) (hb:PE X b tb) (hm:behindInMarks op b=false):PE X (.Compare a [op] [b] pos) (Iu r ta tb):=by
 intro pins s U H Q I h
 exact wpAny_Compare1 (Rw ha hb I h fun v u s2 x y H2 I2 rx ry q=>ho pins s2 U H2 x y v u Q I2 rx ry q) hm
def DX (t:TE):TT:=fun U H Q=>t U H fun x H'=>∃ k,x= .bl k/\Q k H'
theorem MK {op:CmpOp} {r:R2} (ho:OpR X (compareOp op) r) (ha:PE X a ta) (hb:PE X b tb) (hm:behindInMarks op b=false):PT X (.Compare a [op] [b] pos) (DX (Iu r ta tb)):=by
 intro pins s U H Q I h
 refine wpAny_isTrue_Compare1 (d9 (ha pins s U H _ I h) fun v s1 ⟨x,H1,I1,r1,q1⟩=>d9 (hb pins s1 U H1 _ I1 q1) fun u s2 ⟨y,H2,I2,r2,q2⟩=>
  d9 (ho pins s2 U H2 x y v u _ I2 r1 r2 q2) fun c s3 ⟨z,H3,I3,r3,k,e,q3⟩=>?_) hm
 subst e
 cases r3
 exact YQ ⟨H3,I3,q3⟩
def BV (r r':R2) (ta tb tc:TE):TE:=fun U H Q=>ta U H fun x H1=>tb U H1 fun y H2=>r x y H2 fun z H3=>∃ k,z= .bl k/\
 (if k=true then tc U H3 fun w' H4=>r' y w' H4 Q else Q (.bl false) H3)
theorem IK {op op':CmpOp} {r r':R2} (ho:OpR X (compareOp op) r) (ho':OpR X (compareOp op') r') (ha:PE X a ta) (hb:PE X b tb) (hc:PE X c tc)
  (hm:autoParam (lastMarks [op,op'] [b,c]=false) L2.auto5._auto_1):PE X (.Compare a [op,op'] [b,c] pos) (BV r r' ta tb tc):=by
 intro pins s U H Q I h
 refine Compare_chain (d9 (ha pins s U H _ I h) fun v s1 ⟨x,H1,I1,r1,q1⟩=>chain_link (d9 (hb pins s1 U H1 _ I1 q1) fun u s2 ⟨y,H2,I2,r2,q2⟩=>
  d9 (ho pins s2 U H2 x y v u _ I2 r1 r2 q2) fun d s3 ⟨z,H3,I3,r3,k,e,q3⟩=>?_)) hm
 subst e
 cases r3
 refine YQ ?_
 cases k with
 | false=>exact ite_ff ⟨.bl false,H3,I3,rfl,q3⟩
 | true=>exact ite_tt (chain_last (d9 (hc pins s3 U H3 _ I3 q3) fun w' s4 ⟨z',H4,I4,r4,q4⟩=>ho' pins s4 U H4 y z' u w' Q I4 r2 r4 q4))
theorem vo:(sizeLine:Nat) < 2 ^ 63:=by rw [sizeLine_eq];decide
theorem BW:OpR X (binaryOp .Add) (fun x y H Q=>∃ i j,x= .str i/\y= .str j/\i.length+j.length<=sizeLine/\Q (.str (i ++ j)) H):=by
 intro pins s U H x y v u Q I rx ry h
 obtain ⟨i,j,rfl,rfl,hz,q⟩:=h
 obtain ⟨t,rfl⟩:=rx
 obtain ⟨t',rfl⟩:=ry
 exact add_str (fun t' tk=>⟨.str (i ++ j),H,I.tok _,⟨_,rfl⟩,q⟩) hz
theorem vals1 {x:V} {us:List Value} (r:Vals [x] us):∃ u,us=[u]/\RelV x u:=by
 cases r with
 | cons r1 r2=>cases r2;exact ⟨_,rfl,r1⟩
theorem vals2 {x y:V} {us:List Value} (r:Vals [x,y] us):∃ u w',us=[u,w']/\RelV x u/\RelV y w':=by
 cases r with
 | cons r1 r2=>
  cases r2 with
  | cons r3 r4=>cases r4;exact ⟨_,_,rfl,r1,r3⟩
def Vt (K:W.Frag) (x:V) (H:Hp) (n:Nat):Prop:=
 match x with
 | .str y=>y.length<=sizeLine/\n=y.length
 | .byt y=>y.size<=sizeLine/\n=y.size
 | .ref p=>(∃ xs,SqL K H p xs/\n=xs.length)\/∃ xs,SqT K H p xs/\n=xs.length
 | _=>False
theorem IV:CallR X (.builtin "len") (fun xs H Q=>∃ x n,xs=[x]/\Vt X.K x H n/\Q (.int n) H):=by
 intro pins s U H xs us Q I r h
 obtain ⟨x,n,rfl,e,q⟩:=h
 obtain ⟨u,rfl,rx⟩:=vals1 r
 have hl:=vo
 have hs:sizeLine=16777216:=sizeLine_eq
 cases x with
 | str y=>
  obtain ⟨t,rfl⟩:=rx
  obtain ⟨hy,e'⟩:y.length<=sizeLine/\n=y.length:=e
  subst e'
  exact len_str (by omega) ⟨.int _,H,I.tok _,⟨_,rfl⟩,q⟩
 | byt y=>
  obtain ⟨t,rfl⟩:=rx
  obtain ⟨hy,e'⟩:y.size<=sizeLine/\n=y.size:=e
  subst e'
  exact PySem.W.len_bytes (by omega) ⟨.int _,H,I.tok _,⟨_,rfl⟩,q⟩
 | ref p=>
  cases rx
  have e':(∃ xs,SqL X.K H p xs/\n=xs.length)\/∃ xs,SqT X.K H p xs/\n=xs.length:=e
  rcases e' with ⟨xs,hx,e'⟩ | ⟨xs,hx,e'⟩
  ·subst e'
   obtain ⟨its,r',pl,hz⟩:=I.list hx
   have hlen:=r'.length
   exact Calls.call_len_list pl.isList (by simp only [Xv];omega) ⟨.int xs.length,H,I.tok _,⟨_,by simp only [Xv];rw [hlen]⟩,q⟩
  ·subst e'
   obtain ⟨its,r',pl,hz⟩:=I.tuple hx
   have hlen:=r'.length
   exact len_tuple pl (by simp only [Xv];omega) ⟨.int xs.length,H,I.tok _,⟨_,by simp only [Xv];rw [hlen]⟩,q⟩
 | _=>exact (show False from e).elim
end
structure ObjM (h:Heap) (x dx C:Addr) (mA:Str->Option Value):Prop where
 obj:h.get? x=some (PySem.W.instObj C dx)
 ns:h.Ns1 dx mA
 ne:dx≠x
theorem sV {h:Heap} {dx:Addr} {mA:Str->Option Value} (n:h.Ns1 dx mA):∃ od,h.get? dx=some od/\∀ name,PySem.W.lookIn name od=some (mA name):=by
 obtain ⟨o,es,ep,ho,hd,hk,_,hm⟩:=n
 refine ⟨o,ho,fun name=>?_⟩
 have e:=hm name
 unfold nsFind findBy at e
 rw [← Array.find?_toList] at e
 unfold PySem.W.lookIn
 rw [hd]
 dsimp only
 split
 ·rename_i y q
  rw [q] at e
  exact congrArg some e
 ·rename_i q
  rw [q] at e
  have a:es.toList.any (·.refKey)=false:=by
   rw [List.any_eq_false]
   intro y hy
   obtain ⟨z,t,hkey⟩:=hk y (Array.mem_toList_iff.mp hy)
   simp [DictEntry.refKey,hkey]
  have a':¬ es.toList.any (·.refKey)=true:=by rw [a];exact Xq
  rw [if_neg a']
  exact congrArg some e
theorem ObjM.look {h:Heap} {x dx C:Addr} {mA:Str->Option Value} (I:ObjM h x dx C mA):∃ od,PySem.W.InstAt h x (PySem.W.instObj C dx) C (some od)/\∀ name,PySem.W.lookIn name od=some (mA name):=
 let ⟨od,ho,hl⟩:=sV I.ns
 ⟨od,⟨I.obj,rfl,rfl,ho⟩,hl⟩
section
variable {prog:Program} {w:World} {A:Around} {E:Value->Shared->Prop} {s:Shared} {K:W.Frag} {x dx C f:Addr} {mA:Str->Option Value} {name:Str} {v:Value}
theorem MN {expr:Bool} {Q:Value->Shared->Prop} (X:K.In s.heap) (I:ObjM s.heap x dx C mA) (hg:PySem.W.plainGet K C name=true) (hh:PySem.W.hasDictIn K C=true)
  (ha:PySem.W.findIn K (.ref C) name=some none) (hv:mA name=some v) (hv':PySem.W.handedIn v=true) (h:Q v {s with toks:=s.toks+1}):
  wpAny (model prog w) A (getAttr (.ref x) name expr) Q E s:=by
 obtain ⟨od,J,hl⟩:=I.look
 exact PySem.W.get_value X J (PySem.W.plainGet_of hg).1 (PySem.W.findObj_own hh ha rfl (by rw [hl,hv])) hv' h
theorem IW {pl:Sem Bool} {Q:Value×List Value->Shared->Prop} (X:K.In s.heap) (I:ObjM s.heap x dx C mA) (hg:PySem.W.plainGet K C name=true)
  (hf:PySem.W.findIn K (.ref C) name=some (some (.ref f))) (ht:PySem.W.isFn K (.ref f)=true) (hv:mA name=none) (h:Q (.ref f,[.ref x]) s):
  wpAny (model prog w) A (getMethod (.ref x) name pl) Q E s:=by
 obtain ⟨od,J,hl⟩:=I.look
 exact PySem.W.method_fn X J (PySem.W.plainGet_of hg).1 (PySem.W.plainGet_of hg).2 hf (Y8.mp ht) (by show (PySem.W.lookIn name od).map (·.isSome)=some false;rw [hl,hv];rfl) h
theorem MP {ns:List Str} {Q:Unit->Shared->Prop} (X:K.In s.heap) (I:ObjM s.heap x dx C mA)
  (hs:PySem.W.findIn K (.ref C) "__setattr__"=some (some (.builtin "object.__setattr__"))) (hp:PySem.W.plainOver K C=true) (ht:PySem.W.takerIn K C name=some none) (hh:PySem.W.hasDictIn K C=true)
  (hw:PySem.Within mA ns) (hsz:ns.length<=sizeLine)
  (h:∀ h',ObjM h' x dx C (fun y=>if y=name then some v else mA y)->Heap.SameBut dx s.heap h'->Q () {s with heap:=h',toks:=s.toks+2}):
  wpAny (model prog w) A (setAttr (.ref x) name v) Q E s:=by
 obtain ⟨od,J,hl⟩:=I.look
 refine PySem.W.set_plain X J hs (PySem.W.osa_open (s:={s with toks:=s.toks+1}) (r:=none) X J hp ht fun b=>?_)
 obtain ⟨cd,hc,hd'⟩:=PySem.W.any_some hh
 have hx:s.heap.get? x=some ⟨.ref C,some dx,.plain,#[]⟩:=I.obj
 refine Xi (Xl (Xi (Xi (Y0 hx (Xi (PySem.W.Looks.here (s:={s with toks:=s.toks+1}) (PySem.W.looks_clsIn X hc) ?_))))))
 rw [hd']
 refine Xl (a:=some dx) (Xi (Xl (Xi ?_)))
 refine wpAny_nsSet1 (s:={s with toks:=s.toks+1}) I.ns fun h' hn2 hs2=>?_
 obtain ⟨oD,esD,epD,hoD,hdD,hcD⟩:=hn2.count (PySem.Within.cons name v hw)
 refine Xi (wpAny_lookBehind hoD (by rw [hdD];exact pastItsLine_dict (XQ hcD (by rw [Yy];omega))) ?_)
 exact Xl (h _ ⟨(hs2.2 _ (Ne.symm I.ne)).trans I.obj,hn2,I.ne⟩ hs2)
theorem Ja {R:Result->Shared->Prop} {vs:List Value} {kw:List (Str×Value)} (X:K.In s.heap) (hm:PySem.W.makesIn K C=true)
  (hi:PySem.W.findIn K (.ref C) "__init__"=some (some (.ref f))) (hf:PySem.W.typeIn K (.ref f)=some (.type "function"))
  (h:codeAny (model prog w) (A.under (.builtin "type.__call__" ⟨.ref C :: vs,kw⟩)) (.call (.ref f) ⟨.ref (s.heap.objs.size+1) :: vs,kw⟩) (PySem.W.InitBack (s.heap.objs.size+1) R)
   {s with heap:=(s.heap.push PySem.W.emptyDict).push (PySem.W.instObj C s.heap.objs.size)}):
  codeAny (model prog w) A (.call (.ref C) ⟨vs,kw⟩) R s:=by
 obtain ⟨hh,g,d,t,os⟩:=s
 exact PySem.W.make_core (PySem.W.makes_of X hm) (YJ X hi) (fun self=>PySem.W.bind_fn X self hf) (.inl rfl) h
end
def jX (f:Str) (v:V):List (Str×V)->List (Str×V)
 | []=>[(f,v)]
 | (g,x) :: r=>if g=f then (g,v) :: r else (g,x) :: jX f v r
theorem oU (f g:Str) (v:V):∀ fs:List (Str×V),(jX f v fs).lookup g=if g=f then some v else fs.lookup g
 | []=>by
  show List.lookup g [(f,v)]=_
  by_cases h:g=f
  ·have hb:(g == f)=true:=Y8.mpr h
   simp only [List.lookup,hb,if_pos h]
  ·have hb:(g == f)=false:=Ze.mpr h
   simp only [List.lookup,hb,if_neg h]
 | (k,x) :: r=>by
  have ih:=oU f g v r
  rw [show jX f v ((k,x) :: r)=(if k=f then (k,v) :: r else (k,x) :: jX f v r) from rfl]
  by_cases hk:k=f
  ·rw [if_pos hk]
   by_cases h:g=k
   ·have hb:(g == k)=true:=Y8.mpr h
    simp only [List.lookup,hb,if_pos (h.trans hk)]
   ·have hb:(g == k)=false:=Ze.mpr h
    simp only [List.lookup,hb,if_neg (fun e:g=f=>h (e.trans hk.symm))]
  ·rw [if_neg hk]
   by_cases h:g=k
   ·have hb:(g == k)=true:=Y8.mpr h
    simp only [List.lookup,hb,if_neg (fun e:g=f=>hk (h.symm.trans e))]
   ·have hb:(g == k)=false:=Ze.mpr h
    simp only [List.lookup,hb]
    exact ih
theorem sW (f:Str) (v:V):∀ fs:List (Str×V),f∈(jX f v fs).map (·.1)/\∀ g,g∈fs.map (·.1)->g∈(jX f v fs).map (·.1)
 | []=>⟨by simp [jX],fun g h=>by simp at h⟩
 | (k,x) :: r=>by
  obtain ⟨i1,i2⟩:=sW f v r
  rw [show jX f v ((k,x) :: r)=(if k=f then (k,v) :: r else (k,x) :: jX f v r) from rfl]
  by_cases hk:k=f
  ·rw [if_pos hk]
   subst hk
   exact ⟨by simp,fun g h=>by simpa using h⟩
  ·rw [if_neg hk]
   refine ⟨?_,fun g h=>?_⟩
   ·rw [Yu]
    exact Xw _ i1
   ·rw [Yu] at h ⊢
    rcases Xr.mp h with e | e
    ·exact Xr.mpr (.inl e)
    ·exact Xw _ (i2 g e)
theorem ue (f:Str) (v:V):∀ fs:List (Str×V),(jX f v fs).length<=fs.length+1
 | []=>by simp [jX]
 | (k,x) :: r=>by
  have ih:=ue f v r
  rw [show jX f v ((k,x) :: r)=(if k=f then (k,v) :: r else (k,x) :: jX f v r) from rfl]
  by_cases hk:k=f
  ·rw [if_pos hk,Yy,Yy];omega
  ·rw [if_neg hk,Yy,Yy];omega
theorem RelO.some_of {v:V} {o:Option Value} (r:RelO (some v) o):∃ u,o=some u/\RelV v u:=by
 cases o with
 | none=>exact (show False from r).elim
 | some u=>exact ⟨u,rfl,r⟩
theorem RelO.none_of {o:Option Value} (r:RelO none o):o=none:=by
 cases o with
 | none=>rfl
 | some u=>exact (show False from r).elim
theorem xj {v:V} {u:Value} (r:RelV v u):PySem.W.handedIn u=true:=by
 cases v with
 | non=>cases (show u=Value.none from r);rfl
 | bl b=>cases (show u=Value.bool b from r);rfl
 | int i=>obtain ⟨t,e⟩:=(show ∃ t,u=Value.int i t from r);cases e;rfl
 | str x=>obtain ⟨t,e⟩:=(show ∃ t,u=Value.str x t from r);cases e;rfl
 | byt b=>obtain ⟨t,e⟩:=(show ∃ t,u=Value.bytes b t from r);cases e;rfl
 | flt b=>obtain ⟨t,e⟩:=(show ∃ t,u=Value.float b t from r);cases e;rfl
 | ref a=>cases (show u=Value.ref a from r);rfl
 | ty n=>cases (show u=Value.type n from r);rfl
section
variable {P:Program} {w:World} {H H':Hp} {h h':Heap} {a C dx:Addr} {fs fs':List (Str×V)}
theorem p7 (hok:HOk P w H h) (e:H a=some (.ins C dx fs)):∃ mA,ObjM h a dx C mA/\(∀ f,RelO (fs.lookup f) (mA f))/\PySem.Within mA (fs.map (·.1))/\fs.length<=1000/\H dx=some (.own a):=by
 obtain ⟨d,z,ne,ob,mA,n,r,q⟩:=(show ObjOk P w H h a (.ins C dx fs) from hok a _ e)
 exact ⟨mA,⟨ob,n,ne⟩,r,q,z,d⟩
end
structure Cls (K:W.Frag) (C:Addr):Prop where
 pg:PySem.W.plainGet K C Str.empty=true
 hd:PySem.W.hasDictIn K C=true
 po:PySem.W.plainOver K C=true
 sa:PySem.W.findIn K (.ref C) "__setattr__"=some (some (.builtin "object.__setattr__"))
theorem Cls.get {K:W.Frag} {C:Addr} (c:Cls K C) (f:Str):PySem.W.plainGet K C f=true:=c.pg
def NoAttr (K:W.Frag) (C:Addr) (f:Str):Prop:=PySem.W.findIn K (.ref C) f=some none
theorem NoAttr.taker {K:W.Frag} {C:Addr} {f:Str} (n:NoAttr K C f):PySem.W.takerIn K C f=some none:=by
 unfold PySem.W.takerIn
 rw [show PySem.W.findIn K (.ref C) f=some none from n]
 rfl
structure Meth (K:W.Frag) (C:Addr) (m:Str) (f:Addr):Prop where
 at_:PySem.W.findIn K (.ref C) m=some (some (.ref f))
 fn:PySem.W.isFn K (.ref f)=true
 kp:PySem.W.keepIn K (.ref f)=true
section
variable {X:Cx} {pins:List (Addr×Obj)} {U:St} {H:Hp} {s:Shared} {a C dx:Addr} {fs:List (Str×V)} {f:Str} {v:V} {A:Around} {E:Value->Shared->Prop}
theorem BX {b:Bool} {Q:Value->Shared->Prop} (I:Inv X pins U H s) (e:H a=some (.ins C dx fs)) (c:Cls X.K C) (n:NoAttr X.K C f) (l:fs.lookup f=some v)
  (h:∀ u s',Inv X pins U H s'->RelV v u->Q u s'):wpAny (model X.prog X.w) A (getAttr (.ref a) f b) Q E s:=by
 obtain ⟨mA,O,r,_,_,_⟩:=p7 I.hok e
 obtain ⟨u,hu,ru⟩:=RelO.some_of (v:=v) (o:=mA f) (by rw [← l];exact r f)
 exact MN I.kIn O (c.get f) c.hd n hu (xj ru) (h u _ (I.tok _) ru)
theorem BZ {m:Str} {g:Addr} {pl:Sem Bool} {Q:Value×List Value->Shared->Prop} (I:Inv X pins U H s) (e:H a=some (.ins C dx fs)) (c:Cls X.K C) (k:Meth X.K C m g) (l:fs.lookup m=none)
  (h:Q (.ref g,[.ref a]) s):wpAny (model X.prog X.w) A (getMethod (.ref a) m pl) Q E s:=by
 obtain ⟨mA,O,r,_,_,_⟩:=p7 I.hok e
 have hn:mA m=none:=RelO.none_of (by rw [← l];exact r m)
 exact IW I.kIn O (c.get m) k.at_ k.fn hn h
theorem Ca {y:V} {u:Value} {Q:Unit->Shared->Prop} (I:Inv X pins U H s) (e:H a=some (.ins C dx fs)) (c:Cls X.K C) (n:NoAttr X.K C f) (hl:fs.length < 1000) (ry:RelV y u)
  (h:∀ s',Inv X pins U (upd H a (.ins C dx (jX f y fs))) s'->Q () s'):wpAny (model X.prog X.w) A (setAttr (.ref a) f u) Q E s:=by
 obtain ⟨mA,O,r,wi,_,ho⟩:=p7 I.hok e
 have hz:(fs.map (·.1)).length<=sizeLine:=by rw [X4,sizeLine_eq];omega
 refine MP I.kIn O c.sa c.po n.taker c.hd wi hz fun h' O' sb=>h _ ?_
 have hd:∃ o,h'.get? dx=some o:=let ⟨o,_,_,e',_⟩:=O'.ns;⟨o,e'⟩
 refine I.write (x:=a) (e:=dx) (by rw [e];exact True.intro) (.inr ho) (fun b q hb z=>(sb.2 b hb).trans z) hd ?_
 refine ⟨by rw [aD O.ne];exact ho,?_,O.ne,O'.obj,_,O'.ns,fun g=>?_,fun g hg=>?_⟩
 ·have:=ue f y fs;omega
 ·show RelO ((jX f y fs).lookup g) (if g=f then some u else mA g)
  rw [oU]
  by_cases q:g=f
  ·rw [if_pos q,if_pos q];exact ry
  ·rw [if_neg q,if_neg q];exact r g
 ·by_cases q:g=f
  ·rw [q];exact (sW f y fs).1
  ·refine (sW f y fs).2 g (wi g fun z=>hg ?_)
   show (if g=f then some u else mA g)=none
   rw [if_neg q];exact z
theorem Inv.made (I:Inv X pins U H s):Inv X pins U (upd (upd H s.heap.objs.size (.own (s.heap.objs.size+1))) (s.heap.objs.size+1) (.ins C s.heap.objs.size []))
  {s with heap:=(s.heap.push PySem.W.emptyDict).push (PySem.W.instObj C s.heap.objs.size)}:=by
 have e1:(s.heap.push PySem.W.emptyDict).get? s.heap.objs.size=some PySem.W.emptyDict:=Xu s.heap rfl
 have e2:((s.heap.push PySem.W.emptyDict).push (PySem.W.instObj C s.heap.objs.size)).get? (s.heap.objs.size+1)=some (PySem.W.instObj C s.heap.objs.size):=by
  have:=Xu (s.heap.push PySem.W.emptyDict) (o:=PySem.W.instObj C s.heap.objs.size) rfl
  rwa [Y4] at this
 have e3:(s.heap.push PySem.W.emptyDict).Ns s.heap.objs.size (fun _=>none):=⟨PySem.W.emptyDict,#[],_,e1,rfl,(fun e he=>absurd he (by simp)),fun _=>rfl⟩
 have I1:=I.laid (a:=s.heap.objs.size) (o:=.own (s.heap.objs.size+1)) (h':=s.heap.push PySem.W.emptyDict) (t':=s.toks) (fun b u q=>Xn _ q) (Xo _) ⟨_,e1⟩
 refine I1.laid (a:=s.heap.objs.size+1) (o:=.ins C s.heap.objs.size []) (t':=s.toks) (fun b u q=>Xn _ q) (Nat.le_of_eq (Y4 _ _)) ?_
 have ne:s.heap.objs.size≠s.heap.objs.size+1:=XN (Zx _)
 refine ⟨by rw [aD ne,aj],YG _,ne,e2,fun _=>none,(Heap.Ns1.of_empty e3).at fun o q=>Xn _ q,fun _=>True.intro,fun y hy=>absurd rfl hy⟩
theorem DY {prog:Program} {w:World} {env:Env} {e:Expr} {f:Str} {pos:Pos} {s:Shared} {Q:Value->Shared->Prop} (hb:attributeBase e f env (eval e env)=eval e env)
  (h:wpAny (model prog w) A (eval e env) (fun o s₁=>wpAny (model prog w) A (getAttr o f true) Q E s₁) E s):wpAny (model prog w) A (eval (.Attribute e f pos) env) Q E s:=
 Attribute_any_ h (by rw [arm_eval_Attribute,hb])
end
def RD (K:W.Frag) (ta:TE) (f:Str):TE:=fun U H Q=>ta U H fun x H1=>∃ a C dx fs v,x= .ref a/\H1 a=some (.ins C dx fs)/\Cls K C/\NoAttr K C f/\fs.lookup f=some v/\Q v H1
def RJ (K:W.Frag) (ta tv:TE) (f:Str):TS:=fun D U H=>tv U H fun y H1=>ta U H1 fun x H2=>∃ a C dx fs,x= .ref a/\H2 a=some (.ins C dx fs)/\Cls K C/\NoAttr K C f/\fs.length < 1000/\
 D.nx U (upd H2 a (.ins C dx (jX f y fs)))
section
variable {X:Cx} {o e value:Expr} {f:Str} {pos pos' tpos:Pos} {ta tv:TE}
theorem RK (he:PE X e ta) (hb:attributeBase e f X.env (eval e X.env)=eval e X.env):PE X (.Attribute e f pos) (RD X.K ta f):=by
 intro pins s U H Q I h
 refine DY hb (d9 (he pins s U H _ I h) fun u s1 qq0=>?_)
 obtain ⟨x,H1,I1,rx,a,C,dx,fs,v,ex,ea,c,n,l,q⟩:=qq0
 subst ex
 obtain rfl:u=Value.ref a:=rx
 exact BX I1 ea c n l fun u' s2 I2 ru=>⟨v,H1,I2,ru,q⟩
theorem RL (ha:PE X o ta) (hv:PE X value tv) (hs:swapsWith value (some (.Attribute o f pos')) pos.line X.env=pure false):PS X (.Assign [.Attribute o f pos'] value pos) (RJ X.K ta tv f):=by
 intro pins s U H D I h
 refine plainObj_wpAny_Assign_Attribute (d9 (hv pins s U H _ I h) fun u s1 ⟨y,H1,I1,ry,q⟩=>d9 (ha pins s1 U H1 _ I1 q) fun ov s2 qq0=>?_) hs
 obtain ⟨x,H2,I2,rx,a,C,dx,fs,ex,ea,c,n,l,q2⟩:=qq0
 subst ex
 obtain rfl:ov=Value.ref a:=rx
 exact Ca I2 ea c n l ry fun s3 I3=>⟨U,_,I3,q2⟩
end
section
variable {X:Cx} {pins:List (Addr×Obj)} {U:St} {H:Hp} {s:Shared} {A:Around} {E:Value->Shared->Prop} {Q:Value->Shared->Prop} {c:Value} {b:Bool}
inductive TyOf (K:W.Frag) (H:Hp):V->Value->Prop where
 | non:TyOf K H .non (.type "NoneType")
 | bl (x:Bool):TyOf K H (.bl x) (.type "bool")
 | int (i:Int):TyOf K H (.int i) (.type "int")
 | str (x:Str):TyOf K H (.str x) (.type "str")
 | flt (x:UInt64):TyOf K H (.flt x) (.type "float")
 | lst {a:Addr} {xs:List V} (e:H a=some (.lst xs)):TyOf K H (.ref a) (.type "list")
 | frz {a:Addr} {o:Obj} {xs:List V} (e:H a=some (.frz o (.lst xs))):TyOf K H (.ref a) (.type "list")
 | tup {a:Addr} {xs:List V} (e:H a=some (.tup xs)):TyOf K H (.ref a) (.type "tuple")
 | dK {a:Addr} {kvs:List (Key×V)} (e:H a=some (.dK kvs)):TyOf K H (.ref a) (.type "dict")
 | dT {a:Addr} {kvs:List (List Key×V)} (e:H a=some (.dT kvs)):TyOf K H (.ref a) (.type "dict")
 | ins {a C dx:Addr} {fs:List (Str×V)} (e:H a=some (.ins C dx fs)) (cl:Cls K C) (ha:PySem.W.findIn K (.ref C) "__class__"=some (some (.builtin "object.__class__")))
   (hn:PySem.W.specialIn K (.builtin "object.__class__") "__get__"=some (some (.builtin "getset_descriptor.__get__"))) (htk:PySem.W.takesIn K (.builtin "object.__class__")=some true)
   (hm:PySem.W.mroIn K C (.type "object")=some true):TyOf K H (.ref a) (.ref C)
theorem Gi {x:V} {u t:Value} (I:Inv X pins U H s) (rx:RelV x u) (ty:TyOf X.K H x t) (e:PySem.W.kitOne X.K t c=some b) (h:∀ tk,Q (.bool b) {s with toks:=tk}):
  wpAny (model X.prog X.w) A (call (.builtin "isinstance") [u,c]) Q E s:=by
 cases ty with
 | non=>cases (show u=Value.none from rx);exact YD PySem.W.kitx_none I.kIn True.intro e (fun z=>nomatch z) h
 | bl y=>cases (show u=Value.bool y from rx);exact YD PySem.W.kitx_bool I.kIn True.intro e (fun z=>nomatch z) h
 | int i=>obtain ⟨t,q⟩:=(show ∃ t,u=Value.int i t from rx);cases q;exact YD PySem.W.kitx_int I.kIn True.intro e (fun z=>nomatch z) h
 | str y=>obtain ⟨t,q⟩:=(show ∃ t,u=Value.str y t from rx);cases q;exact YD PySem.W.kitx_str I.kIn True.intro e (fun z=>nomatch z) h
 | flt y=>obtain ⟨t,q⟩:=(show ∃ t,u=Value.float y t from rx);cases q;exact YD PySem.W.kitx_float I.kIn True.intro e (fun z=>nomatch z) h
 | @lst a xs ea=>
  cases (show u=Value.ref a from rx)
  obtain ⟨_,_,n,_,h1⟩:=(show ObjOk X.prog X.w H s.heap a (.lst xs) from I.hok a _ ea)
  exact YD PySem.W.kitx_list I.kIn ⟨_,h1,rfl⟩ e (fun z=>nomatch z) h
 | @frz a ob xs ea=>
  cases (show u=Value.ref a from rx)
  obtain ⟨_,_,_,n,_,h1⟩:=(show ObjOk X.prog X.w H s.heap a (.frz ob (.lst xs)) from I.hok a _ ea)
  exact YD PySem.W.kitx_list I.kIn ⟨_,h1,rfl⟩ e (fun z=>nomatch z) h
 | @tup a xs ea=>
  cases (show u=Value.ref a from rx)
  obtain ⟨_,_,_,p⟩:=(show ObjOk X.prog X.w H s.heap a (.tup xs) from I.hok a _ ea)
  obtain ⟨o,h1,h2,_⟩:=p
  exact YD PySem.W.kitx_tuple I.kIn ⟨o,h1,h2⟩ e (fun z=>nomatch z) h
 | @dK a kvs ea=>
  cases (show u=Value.ref a from rx)
  obtain ⟨_,_,vs,_,p⟩:=(show ObjOk X.prog X.w H s.heap a (.dK kvs) from I.hok a _ ea)
  obtain ⟨o,es,ep,h1,h2,_⟩:=p
  exact YD PySem.W.kitx_dict I.kIn ⟨o,h1,h2.1⟩ e (fun z=>nomatch z) h
 | @dT a kvs ea=>
  cases (show u=Value.ref a from rx)
  obtain ⟨_,_,xs,_,o,es,ep,h1,h2,_⟩:=(show ObjOk X.prog X.w H s.heap a (.dT kvs) from I.hok a _ ea)
  exact YD PySem.W.kitx_dict I.kIn ⟨o,h1,h2.1⟩ e (fun z=>nomatch z) h
 | @ins a C dx fs ea cl ha hn htk hm=>
  cases (show u=Value.ref a from rx)
  obtain ⟨mA,O,_⟩:=p7 I.hok ea
  obtain ⟨od,J,_⟩:=O.look
  exact YD (PySem.W.kitx_own (cl.get _) cl.hd ha hn htk hm) I.kIn J e (fun z=>nomatch z) h
end
structure Room (k:Nat) (A:Around):Prop where
 hd:A.handled=none
 dp:A.depth+3*k+5 < recursionLimit
 un:A.units+16*k+200 < cLine
 gd:A.guards=some []
theorem Room.mono {j k:Nat} {A:Around} (r:Room k A) (h:j<=k):Room j A:=⟨r.hd,by have:=r.dp;omega,by have:=r.un;omega,r.gd⟩
theorem Room.deeper {k:Nat} {A:Around} (r:Room (k+1) A) (env:Env):Room k (A.deeper env):=
 ⟨r.hd,by have:=r.dp;show A.depth+1+3*k+5 < _;omega,by have:=r.un;show A.units+3+16*k+200 < _;omega,r.gd⟩
theorem Cd {A:Around} {C:Addr} {us:List Value} {kw:List (Str×Value)}:(A.under (.builtin "type.__call__" ⟨.ref C :: us,kw⟩)).depth=A.depth+1:=by
 first | rfl | simp [Around.under,Code.weight,Code.isCreation,Code.isGuard,Code.isCaller,Code.frames,Code.isFrame,guardIds]
theorem Ce {A:Around} {C:Addr} {us:List Value} {kw:List (Str×Value)}:(A.under (.builtin "type.__call__" ⟨.ref C :: us,kw⟩)).units=A.units+1:=by
 first | rfl | simp [Around.under,Code.cUnits,Code.frames,Code.isFrame]
theorem zL {A:Around} {C:Addr} {us:List Value} {kw:List (Str×Value)}:(A.under (.builtin "type.__call__" ⟨.ref C :: us,kw⟩)).guards=pushGuards [] A.guards:=by
 first | rfl | simp [Around.under,Code.guards,Code.isGuard,guardIds]
theorem Room.make {k:Nat} {A:Around} (r:Room (k+1) A) (C:Addr) (us:List Value) (kw:List (Str×Value)):Room k (A.under (.builtin "type.__call__" ⟨.ref C :: us,kw⟩)):=
 ⟨r.hd,by have:=r.dp;rw [Cd];omega,by have:=r.un;rw [Ce];omega,(zL.trans (by rw [r.gd];rfl))⟩
theorem Room.depth {k:Nat} {A:Around} (r:Room k A):A.depth < recursionLimit:=by have:=r.dp;omega
theorem Room.units {k:Nat} {A:Around} (r:Room k A):A.units+64 < cLine:=by have:=r.un;omega
theorem Room.units0 {k:Nat} {A:Around} (r:Room k A):A.units < cLine:=by have:=r.un;omega
def M6:TA:=fun _ H Q=>Q [] H
def Ea (ta:TE) (tr:TA):TA:=fun U H Q=>ta U H fun x H1=>tr U H1 fun xs H2=>Q (x :: xs) H2
section
variable {X:Cx} {e:Expr} {es:List Expr} {te:TE} {t:TA} {pos:Pos}
theorem RM:PA X [] M6:=fun _ _ _ _ H Q I h=>Calls.spliced_nil ⟨[],H,I,.nil,h⟩
theorem M8 (ha:PE X e te) (hr:PA X es t) (hs:autoParam (starEach (e :: es) X.env=(false,eval e X.env) :: starEach es X.env) L2.auto4._auto_1):PA X (e :: es) (Ea te t):=by
 intro pos pins s U H Q I h
 rw [hs]
 show wpAny _ _ (spliced ((false,eval e X.env) :: backTo pos (starEach es X.env))) _ _ s
 refine Calls.spliced_cons (d9 (ha pins s U H _ I h) fun u s1 qq0=>?_)
 obtain ⟨x,H1,I1,r1,q1⟩:=qq0
 exact d9 (hr pos pins s1 U H1 _ I1 q1) fun us s2 ⟨xs,H2,I2,r2,q2⟩=>⟨x :: xs,H2,I2,.cons r1 r2,q2⟩
def Nb (t:TA):TE:=fun U H Q=>t U H fun xs H1=>xs.length<=sizeLine/\∀ p,H1 p=none->Q (.ref p) (upd H1 p (.tup xs))
def Nf (t:TA):TE:=fun U H Q=>t U H fun xs H1=>xs.length<=sizeLine/\∀ p,H1 p=none->Q (.ref p) (upd H1 p (.lst xs))
theorem RN {x1} (h:PA X es t):PE X (.Tuple es x1 pos) (Nb t):=by
 intro pins s U H Q I hq
 refine wpAny_Tuple_spliced (d9 (h pos pins s U H _ I hq) fun us s1 ⟨xs,H1,I1,r,z,q⟩=>⟨by rw [← r.length];exact z,?_⟩)
 have hf:H1 s1.heap.objs.size=none:=I1.hok.fresh (Xo _)
 refine ⟨.ref s1.heap.objs.size,upd H1 s1.heap.objs.size (.tup xs),I1.laid (t':=s1.toks) (fun b u e=>Xn _ e) (Xo _) ?_,rfl,q _ hf⟩
 exact ⟨z,us,r,⟨_,Xu _ rfl,rfl,_,rfl⟩⟩
theorem RP (h:PA X es t):PE X (.List es pos) (Nf t):=by
 intro pins s U H Q I hq
 refine wpAny_List_spliced (d9 (h pos pins s U H _ I hq) fun us s1 ⟨xs,H1,I1,r,z,q⟩=>⟨by rw [← r.length];exact z,?_⟩)
 have hf:H1 s1.heap.objs.size=none:=I1.hok.fresh (Xo _)
 refine ⟨.ref s1.heap.objs.size,upd H1 s1.heap.objs.size (.lst xs),I1.laid (t':=s1.toks) (fun b u e=>Xn _ e) (Xo _) ?_,rfl,q _ hf⟩
 exact ⟨z,us,0,r,Xu _ rfl⟩
end
abbrev Sp:=List V->Hp->VK->XK->Prop
abbrev Gj:=List Env->Hp->Shared->XK->Value->Shared->Prop
structure Env0 (P:Program) (w:World) (K:W.Frag) (mg:Str->Option Value) (base:Heap) (A:Around) (outer:List Env) (s:Shared) (H:Hp):Prop where
 frames:A.frames=some outer
 mod:Mod K mg base
 bs:∀ b o,base.get? b=some o->s.heap.get? b=some o/\H b=none
 bsz:base.objs.size<=s.heap.objs.size
 funs:s.heap.FunFrames base outer
 frf:∀ b∈frs outer,H b=none
 hok:HOk P w H s.heap
 bare:AllBare s.gens
def CE (outer:List Env) (P:Program) (w:World) (H:Hp) (s:Shared) (Q:VK) (u:Value) (s':Shared):Prop:=
 ∃ v H',s'.os=s.os/\AllBare s'.gens/\Un (frs outer) [] H H' s.heap s'.heap/\HOk P w H' s'.heap/\RelV v u/\Q v H'
def CR (CX:Gj) (outer:List Env) (P:Program) (w:World) (H:Hp) (s:Shared) (Q:VK) (E:XK) (r:Result) (s':Shared):Prop:=
 match r with
 | .ok (.ret u)=>CE outer P w H s Q u s'
 | .ok _=>False
 | .error e=>CX outer H s E e s'
structure FnOk (P:Program) (w:World) (K:W.Frag) (mg:Str->Option Value) (base:Heap) (CX:Gj) (k:Nat) (f:Addr) (fd:FuncData) (ps:List Str) (sp:Sp):Prop where
 len:∀ vs H Q E,sp vs H Q E->vs.length=ps.length
 run:∀ (A:Around) (outer:List Env) (s:Shared) (H:Hp) (args:Args) (us:List Value) (vs:List V) (Q:VK) (E:XK),Room k A->Env0 P w K mg base A outer s H->BindsTo s fd args (ps.zip us)->Vals vs us->sp vs H Q E->
  codeAny (model P w) A (.call (.ref f) args) (CR CX outer P w H s Q E) s
theorem FnOk.mono {P:Program} {w:World} {K:W.Frag} {mg:Str->Option Value} {base:Heap} {CX:Gj} {j k:Nat} {f:Addr} {fd:FuncData} {ps:List Str} {sp:Sp} (F:FnOk P w K mg base CX j f fd ps sp) (h:j<=k):
  FnOk P w K mg base CX k f fd ps sp:=⟨F.len,fun A outer s H args us vs Q E hr=>F.run A outer s H args us vs Q E (hr.mono h)⟩
theorem Env0.make {P:Program} {w:World} {K:W.Frag} {mg:Str->Option Value} {base:Heap} {A:Around} {outer:List Env} {s:Shared} {H:Hp} (e:Env0 P w K mg base A outer s H) (C:Addr) (us:List Value) (kw:List (Str×Value)):
  Env0 P w K mg base (A.under (.builtin "type.__call__" ⟨.ref C :: us,kw⟩)) outer s H:=⟨by first | exact e.frames | (simpa [Around.under,Code.envs,Code.isFrame,pushEnvs] using e.frames),e.mod,e.bs,e.bsz,e.funs,e.frf,e.hok,e.bare⟩
section
variable {X:Cx} {pins:List (Addr×Obj)} {U:St} {H:Hp} {s s':Shared}
theorem Inv.env0 (I:Inv X pins U H s):Env0 X.prog X.w X.K X.mg X.base X.A X.stack s H:=
 ⟨I.ok.frames,I.ok.mod,I.bs,XQ I.ok.bsz I.sz,I.stack,I.stkFree,I.hok,I.bare⟩
theorem Inv.after {Q:VK} {u:Value} (I:Inv X pins U H s) (h:CE X.stack X.prog X.w H s Q u s'):EP X pins U Q u s':=by
 obtain ⟨v,H',os,bare,un,hok,r,q⟩:=h
 obtain ⟨hh,g,d,t,os'⟩:=s'
 obtain rfl:os'=s.os:=os
 exact ⟨v,H',I.call (h':=hh) (g':=g) (d':=d) (t':=t) (ch:=[]) un hok bare (fun b z=>absurd z (by simp)),r,q⟩
end
def xm (sp:Sp) (dvs:List V) (E:XK) (t:TA):TE:=fun U H Q=>t U H fun vs H1=>sp (vs ++ dvs) H1 Q E
def Binds (K:W.Frag) (fd:FuncData) (ps:List Str) (ds:List Value):Prop:=
 ∀ (s:Shared) (us:List Value),K.In s.heap->(us ++ ds).length=ps.length->BindsTo s fd ⟨us,[]⟩ (ps.zip (us ++ ds))
theorem Binds.all {K:W.Frag} {fd:FuncData} {ps:List Str} (h:∀ us:List Value,us.length=ps.length->bindArgs fd ⟨us,[]⟩=pure (ps.zip us)):Binds K fd ps []:=fun s us _ hl=>by
 rw [X6] at hl ⊢
 exact .of_eq (h us hl)
def Cg (CX:Gj) (X:Cx) (E:XK):Prop:=∀ (pins:List (Addr×Obj)) (U:St) (H:Hp) (s:Shared) (e:Value) (s':Shared),Inv X pins U H s->CX X.stack H s E e s'->X.xe e s'
section
variable {X:Cx} {CX:Gj} {k:Nat} {f C:Addr} {fd:FuncData} {ps:List Str} {sp:Sp} {dvs:List V} {ds:List Value} {E:XK} {x m:Str} {p pos apos:Pos} {e o:Expr} {es:List Expr} {ta:TE} {t:TA}
theorem RQ {pins:List (Addr×Obj)} {U:St} {H:Hp} {s:Shared} {Q:VK} {us:List Value} {vs:List V} (F:FnOk X.prog X.w X.K X.mg X.base CX k f fd ps sp) (hr:Room k X.A) (hb:Binds X.K fd ps ds) (hd:Vals dvs ds) (hx:Cg CX X E)
  (I:Inv X pins U H s) (r:Vals vs us) (h:sp (vs ++ dvs) H Q E):wpAny (model X.prog X.w) X.A (call (.ref f) us) (EP X pins U Q) X.xe s:=by
 have r2:Vals (vs ++ dvs) (us ++ ds):=r.append hd
 have hl:(us ++ ds).length=ps.length:=by rw [← r2.length];exact F.len _ _ _ _ h
 refine Zh (codeAny_mono (F.run X.A X.stack s H ⟨us,[]⟩ (us ++ ds) (vs ++ dvs) Q E hr I.env0 (hb s us I.kIn hl) r2 h) fun r s' hq=>?_)
 cases r with
 | error e=>exact hx pins U H s e s' I hq
 | ok fl=>
  cases fl with
  | ret u=>exact I.after hq
  | next=>exact False.elim hq
  | brk=>exact False.elim hq
  | cont=>exact False.elim hq
theorem Ng (F:FnOk X.prog X.w X.K X.mg X.base CX k f fd ps sp) (hr:Room k X.A) (hg:Gl X x) (hm:X.mg x=some (.ref f)) (hk:PySem.W.keepIn X.K (.ref f)=true) (hb:Binds X.K fd ps ds) (hd:Vals dvs ds) (hx:Cg CX X E)
  (ha:PA X (e :: es) t) (hdb:autoParam ((x == ("__debug__":Str))=false) L2.auto2._auto_1) (he:autoParam (starEach (e :: es) X.env=(false,eval e X.env) :: starEach es X.env) L2.auto4._auto_1) (hpl:autoParam ((backTo pos (starEach es X.env)).any (·.1)=false) L2.auto4._auto_1):
  PE X (.Call (.Name x p) (e :: es) [] pos) (xm sp dvs E t):=by
 intro pins s U H Q I h
 refine Yi (lQ I hg hm ?_ hdb)
 refine Zi (h₀:=X.base) I.ok.mod.kin hk (d9 (ha pos pins s U H _ I h) fun us s1 ⟨vs,H1,I1,r,q⟩=>⟨I1.kIn,?_⟩) he hpl
 exact RQ F hr hb hd hx I1 r q
end
structure aF (N P:List Str) (sc:Scope):Prop where
 kind:sc.kind= .function
 co:sc.isCoroutine=false
 gen:sc.isGenerator=false
 nd:N.Nodup
 pre:N.take P.length=P
 par:∀ x∈P,sc.names.lookup x=some .local\/sc.names.lookup x=some .cell
 nofree:∀ y∈sc.names,y.2≠.free
theorem xn {kindOf:Str->Option NameKind} {x:Str}:∀ {binds:List (Str×Value)} {m:Str->Option Value},(∀ v,(x,v) ∉ binds)->bindL kindOf binds m x=m x
 | [],_,_=>rfl
 | (n,v) :: r,m,h=>by
  unfold bindL
  rw [xn fun w hw=>h w (Xw _ hw)]
  split
  ·have:x≠n:=by rintro rfl;exact h v XR
   simp [this]
  ·rfl
theorem xq {kindOf:Str->Option NameKind} {x:Str}:∀ {binds:List (Str×Value)} {m:Str->Option Value},(∀ v,(x,v) ∉ binds)->bindC kindOf binds m x=m x
 | [],_,_=>rfl
 | (n,v) :: r,m,h=>by
  unfold bindC
  rw [xq fun w hw=>h w (Xw _ hw)]
  split
  ·rfl
  ·have:x≠n:=by rintro rfl;exact h v XR
   simp [this]
theorem xr {kindOf:Str->Option NameKind} {x:Str} {v:Value}:∀ {P:List Str} {vs:List Value} {i:Nat} {m:Str->Option Value},P.Nodup->P[i]?=some x->vs[i]?=some v->kindOf x=some .local->
  bindL kindOf (P.zip vs) m x=some v
 | [],_,_,_,_,h,_,_=>by simp at h
 | _ :: _,[],_,_,_,_,h,_=>by simp at h
 | p :: P,w :: vs,0,m,nd,h1,h2,hk=>by
  simp at h1 h2;subst h1;subst h2
  show bindL kindOf ((p,w) :: P.zip vs) m p=_
  unfold bindL
  rw [xn fun v hv=>(List.nodup_cons.mp nd).1 (List.of_mem_zip hv).1,if_pos hk]
  simp
 | p :: P,w :: vs,i+1,m,nd,h1,h2,hk=>by
  show bindL kindOf ((p,w) :: P.zip vs) m x=_
  unfold bindL
  exact xr (i:=i) (List.nodup_cons.mp nd).2 (by simpa using h1) (by simpa using h2) hk
theorem xx {kindOf:Str->Option NameKind} {x:Str} {v:Value}:∀ {P:List Str} {vs:List Value} {i:Nat} {m:Str->Option Value},P.Nodup->P[i]?=some x->vs[i]?=some v->kindOf x≠some .local->
  bindC kindOf (P.zip vs) m x=some v
 | [],_,_,_,_,h,_,_=>by simp at h
 | _ :: _,[],_,_,_,_,h,_=>by simp at h
 | p :: P,w :: vs,0,m,nd,h1,h2,hk=>by
  simp at h1 h2;subst h1;subst h2
  show bindC kindOf ((p,w) :: P.zip vs) m p=_
  unfold bindC
  rw [xq fun v hv=>(List.nodup_cons.mp nd).1 (List.of_mem_zip hv).1,if_neg hk]
  simp
 | p :: P,w :: vs,i+1,m,nd,h1,h2,hk=>by
  show bindC kindOf ((p,w) :: P.zip vs) m x=_
  unfold bindC
  exact xx (i:=i) (List.nodup_cons.mp nd).2 (by simpa using h1) (by simpa using h2) hk
def start (N:List Str) (vs:List V):St:=vs.map some ++ List.replicate (N.length - vs.length) none
def oV (CX:Gj) (P:Program) (w:World) (K:W.Frag) (mg:Str->Option Value) (base:Heap) (N:List Str) (qual:Str) (scope:Scope) (f:Addr) (cd:Value) (A:Around) (outer:List Env) (s:Shared) (H:Hp) (E:XK):Cx where
 prog:=P
 w:=w
 K:=K
 mg:=mg
 base:=base
 A:=A.deeper (envOfC qual scope s.heap.objs.size f cd)
 N:=N
 s₀:=s
 H₀:=H
 env:=envOfC qual scope s.heap.objs.size f cd
 outer:=outer
 stack:=envOfC qual scope s.heap.objs.size f cd :: outer
 ex:=[]
 calm:=true
 fn:=fun _=>true
 pn:=[]
 xe:=fun e s'=>wpAny (model P w) (A.deeper (envOfC qual scope s.heap.objs.size f cd)) (leaving (envOfC qual scope s.heap.objs.size f cd) e) (fun _ s''=>CX outer H s E e s'') (fun e' s''=>CX outer H s E e' s'') s'
theorem zM {sc:Scope} {n:Nat} {x:Str} (h:sc.names.lookup x=some .cell):∃ c,(cellsFrom n sc.names []).lookup x=some c:=by
 have q:=PySem.W.cellsFrom_some sc.names n [] (.inl h)
 exact Option.isSome_iff_exists.mp q
theorem Gk {CX:Gj} {P:Program} {w:World} {K:W.Frag} {mg:Str->Option Value} {base:Heap} {N ps:List Str} {qual:Str} {scope:Scope} {f:Addr} {cd:Value} {A:Around} {outer:List Env} {s s1:Shared} {H:Hp} {E:XK} {us:List Value} {vs:List V}
  (S:aF N ps scope) (hd:A.handled=none) (e0:Env0 P w K mg base A outer s H) (hl:vs.length=ps.length) (r:Vals vs us)
  (x:InCallC s s.heap.objs.size (bindL (envOfC qual scope s.heap.objs.size f cd).kindOf (ps.zip us) fun _=>none) (cellsFrom (s.heap.objs.size+1) scope.names []) (bindC (envOfC qual scope s.heap.objs.size f cd).kindOf (ps.zip us) fun _=>none) s1):
  Inv (oV CX P w K mg base N qual scope f cd A outer s H E) [] (start N vs) H s1:=by
 have hpl:ps.length<=N.length:=by have:=congrArg List.length S.pre;rw [Y9] at this;omega
 obtain ⟨h1,tk,rfl,hk⟩:=x.done
 have noA:∀ b:Addr,b ∉ (oV CX P w K mg base N qual scope f cd A outer s H E).ex:=fun b z=>absurd (show b∈([]:List Addr) from z) (by simp)
 refine ⟨⟨e0.mod,S.kind,rfl,rfl,Xo _,fun y z c h1 h2=>?_,fun y hy=>?_,fun y c _ h=>?_,fun _=>hd,Around.frames_deeper e0.frames,.inr ⟨rfl,rfl⟩,fun b z=>absurd z (noA b),e0.bs,e0.bsz,fun b _ _=>noA b,fun b z=>absurd z (noA b),e0.funs,e0.frf⟩,
  rfl,e0.bare,Un.kept hk,⟨_,x.toInCall.ns,fun i y v h1 h2 h3=>?_⟩,fun y c h=>⟨_,x.cell y c h⟩,e0.hok.fresh (Xo _),fun y c h=>?_,fun p hp=>absurd (show p∈([]:List (Addr×Obj)) from hp) (by simp),e0.hok.kept hk,?_⟩
 ·exact name_of_addr x.apart (Yq h1) (Yq h2)
 ·have hy:scope.names.lookup y=some .cell\/scope.names.lookup y=some .free:=hy
  rcases hy with hy | hy
  ·exact zM hy
  ·exact absurd rfl (S.nofree _ (Yq hy))
 ·exact Nat.le_of_lt (x.above y c (Yq h))
 ·have hi:i < vs.length:=by
   unfold start at h2
   by_cases hi:i < vs.length
   ·exact hi
   ·rw [X7 (by simpa using hi)] at h2
    rw [List.getElem?_replicate] at h2
    split at h2 <;> cases h2
  have ha:vs[i]?=some v:=by
   unfold start at h2
   rw [Yg (by simpa using hi),XH] at h2
   cases e:vs[i]? with
   | none=>rw [e] at h2;cases h2
   | some a=>rw [e] at h2;cases h2;rfl
  obtain ⟨u,hu,rv⟩:=r.get ha
  have hp:ps[i]?=some y:=by
   rw [← S.pre,List.getElem?_take_of_lt (by omega)];exact h1
  have ndP:ps.Nodup:=by rw [← S.pre];exact S.nd.sublist (List.take_sublist _ _)
  refine ⟨u,rv,?_⟩
  rcases S.par y (Xz hp) with k | k
  ·exact .inl ⟨k,xr ndP hp hu k⟩
  ·obtain ⟨c,e⟩:=zM (n:=s.heap.objs.size+1) k
   refine .inr ⟨.inl k,c,e,?_⟩
   have q:=x.cell y c e
   rw [xx ndP hp hu (by show scope.names.lookup y≠_;rw [k];decide)] at q
   exact q
 ·exact e0.hok.fresh (Nat.le_of_lt (x.above y c (Yq h)))
 ·unfold start
  show _=N.length
  rw [Yr,X4,List.length_replicate]
  omega
theorem zN {CX:Gj} {P:Program} {w:World} {K:W.Frag} {mg:Str->Option Value} {base:Heap} {k:Nat} {f:Addr} {name qual:Str} {params:Arguments} {body:List Stmt} {scope:Scope} {dV kV doc pm cdv ct oc:Value} {an od:Option Addr}
  {osl:Array (Option Value)} {N ps:List Str} {sp:Sp} (lk:K.lookup f=some ⟨oc,od,.func (PySem.W.fnOf name qual params body scope dV kV doc pm an cdv ct),osl⟩) (hcd:PySem.W.codeIn K cdv qual=true) (S:aF N ps scope)
  (len:∀ vs H Q E,sp vs H Q E->vs.length=ps.length)
  (hbody:∀ (A:Around) (outer:List Env) (s:Shared) (H:Hp) (vs:List V) (Q:VK) (E:XK),Room k (A.deeper (envOfC qual scope s.heap.objs.size f cdv))->sp vs H Q E->
   ∃ t,PSs (oV CX P w K mg base N qual scope f cdv A outer s H E) body t/\t {nx:=fun _ H'=>Q .non H',rt:=Q} (start N vs) H):
  FnOk P w K mg base CX (k+1) f (PySem.W.fnOf name qual params body scope dV kV doc pm an cdv ct) ps sp:=by
 refine ⟨len,fun A outer s H args us vs Q E hr e0 hb r hsp=>?_⟩
 have hl:=len _ _ _ _ hsp
 have KX:K.In s.heap:=e0.mod.kin.keeps fun b o e=>(e0.bs b o e).1
 have lim:s.heap.NoLimit:=e0.mod.nolimit.keeps fun b o e=>(e0.bs b o e).1
 have hkind:∀ y∈ps.zip us,scope.names.lookup y.1=some .local\/(scope.names.lookup y.1=some .cell/\((cellsFrom (s.heap.objs.size+1) scope.names []).lookup y.1).isSome=true):=fun ⟨n,v⟩ hy=>by
  rcases S.par n (List.of_mem_zip hy).1 with q | q
  ·exact .inl q
  ·exact .inr ⟨q,PySem.W.cellsFrom_some _ _ _ (.inl q)⟩
 refine codeAny_call_function hr.depth (KX _ _ lk) rfl S.co S.gen rfl (PySem.W.codeRec_of KX hcd) (hb _ _ _ _ ?_)
 refine wpAny_newFunctionEnv_cells S.kind hkind fun env he s1 x=>?_
 subst he
 refine ⟨lim.keeps x.toInCall.keep,codeAny_func ?_⟩
 obtain ⟨t,ht,hq⟩:=hbody A outer s H vs Q E (hr.deeper _) hsp
 have I:Inv (oV CX P w K mg base N qual scope f cdv A outer s H E) [] (start N vs) H s1:=Gk S hr.hd e0 hl r x
 refine X5 (ht [] s1 (start N vs) H _ I hq) (fun fl s' hs=>?_) fun e s' hs=>hs
 have fin:∀ {U':St} {H':Hp} {v:V} {u:Value},Inv (oV CX P w K mg base N qual scope f cdv A outer s H E) [] U' H' s'->RelV v u->Q v H'->CE outer P w H s Q u s':=
  fun {U' H' v u} J rv q=>⟨v,H',J.os,J.bare,J.base,J.hok,rv,q⟩
 cases fl with
 | ret u=>
  obtain ⟨v,U',H',J,rv,q⟩:=hs
  exact fin J rv q
 | next=>
  obtain ⟨U',H',J,q⟩:=hs
  exact fin (v:=V.non) (u:=Value.none) J rfl q
 | brk=>
  obtain ⟨_,_,_,q⟩:=hs
  exact False.elim q
 | cont=>
  obtain ⟨_,_,_,q⟩:=hs
  exact False.elim q
section
variable {X:Cx} {x:Str} {p pos:Pos} {e:Expr} {es:List Expr} {t:TA} {id T:String} {r:List V->Hp->VK->Prop}
def RT (r:List V->Hp->VK->Prop) (t:TA):TE:=fun U H Q=>t U H fun vs H1=>r vs H1 Q
theorem Jb (hc:CallR X (.builtin id) r) (hg:Gl X x) (hm:X.mg x=none) (hv:bootBuiltins x=some (.builtin id)) (ha:PA X (e :: es) t) (hn:autoParam (x≠"__name__") L2.auto2._auto_1) (hdb:autoParam ((x == ("__debug__":Str))=false) L2.auto2._auto_1)
  (he:autoParam (starEach (e :: es) X.env=(false,eval e X.env) :: starEach es X.env) L2.auto4._auto_1) (hpl:autoParam ((backTo pos (starEach es X.env)).any (·.1)=false) L2.auto4._auto_1):PE X (.Call (.Name x p) (e :: es) [] pos) (RT r t):=by
 intro pins s U H Q I h
 refine Yi (jd I hg hm hv ?_ hn hdb)
 exact PyProof.Rows.callWith_builtin1 (d9 (ha pos pins s U H _ I h) fun us s1 ⟨vs,H1,I1,r1,q1⟩=>hc pins s1 U H1 vs us Q I1 r1 q1) he hpl
theorem Gm (hc:CallR X (.type T) r) (hg:Gl X x) (hm:X.mg x=none) (hv:bootBuiltins x=some (.type T)) (ha:PA X (e :: es) t) (hn:autoParam (x≠"__name__") L2.auto2._auto_1) (hdb:autoParam ((x == ("__debug__":Str))=false) L2.auto2._auto_1)
  (he:autoParam (starEach (e :: es) X.env=(false,eval e X.env) :: starEach es X.env) L2.auto4._auto_1) (hpl:autoParam ((backTo pos (starEach es X.env)).any (·.1)=false) L2.auto4._auto_1):PE X (.Call (.Name x p) (e :: es) [] pos) (RT r t):=by
 intro pins s U H Q I h
 refine Yi (jd I hg hm hv ?_ hn hdb)
 exact XS (d9 (ha pos pins s U H _ I h) fun us s1 ⟨vs,H1,I1,r1,q1⟩=>hc pins s1 U H1 vs us Q I1 r1 q1) he hpl
end
end L2
namespace HT
open PySem PyProof.Rows
section
open PySem.SeqAt
open PySem.AutoSeq1 (wpAny_loadPart')
open PySem.MeetsSeq PySem.MeetsSeq2 PySem.MeetsSeq3
end
section
variable {prog:Program} {w:World} {A:Around} {E:Value->Shared->Prop} {s:Shared}
def sIx (n d:Nat):Option Int->Nat
 | none=>d
 | some v=>if v < 0 then (v+(n:Int)).toNat else min v.toNat n
theorem sIx_none (n d:Nat):sIx n d none=d:=rfl
theorem sIx_nat (n d k:Nat):sIx n d (some (k:Int))=min k n:=by
 show (if (k:Int) < 0 then ((k:Int)+(n:Int)).toNat else min (k:Int).toNat n)=min k n
 rw [if_neg (by omega),Int.toNat_natCast]
theorem sIx_le (n d:Nat) (hd:d<=n) (o:Option Int):sIx n d o<=n:=by
 cases o with
 | none=>exact hd
 | some v=>
  show (if v < 0 then (v+(n:Int)).toNat else min v.toNat n)<=n
  by_cases hv:v < 0
  ·rw [if_pos hv];omega
  ·rw [if_neg hv];exact Nat.min_le_right _ _
theorem clip_eq (v:Int) (n d:Nat):(if v < 0 then max (v+(n:Int)) 0 else min v (n:Int))=((sIx n d (some v):Nat):Int):=by
 show (if v < 0 then max (v+(n:Int)) 0 else min v (n:Int))=(((if v < 0 then (v+(n:Int)).toNat else min v.toNat n):Nat):Int)
 by_cases hv:v < 0
 ·simp only [if_pos hv];omega
 ·simp only [if_neg hv];omega
theorem Ci (lo hi:Option Int) (n:Nat):Builtin.Slice.sliceAdjust lo hi 1 (n:Int)=(((sIx n 0 lo:Nat):Int),((sIx n n hi:Nat):Int)):=by
 have h1:¬ ((1:Int) < 0):=by omega
 unfold Builtin.Slice.sliceAdjust
 simp only [h1,if_false]
 refine Prod.ext ?_ ?_
 ·cases lo with
  | none=>rfl
  | some v=>exact clip_eq v n 0
 ·cases hi with
  | none=>rfl
  | some v=>exact clip_eq v n n
theorem Cj (i j:Nat):Builtin.Slice.slicePlaces (i:Int) (j:Int) 1=j - i:=by
 unfold Builtin.Slice.slicePlaces
 have h1:(1:Int) > 0:=by omega
 simp only [h1,if_true,Int.ediv_one]
 split <;> omega
theorem vp {v:Value} {o:Option Int} {Q:Option Int->Shared->Prop} (p:IsPart v o) (h:Q o s):wpAny (model prog w) A (Builtin.Slice.slicePartIndex v) Q E s:=by
 cases p with
 | none=>exact slicePart_none h
 | int i t=>exact slicePart_int h
theorem mU {sl:Addr} {vl vu:Value} {lo hi:Option Int} {n:Nat} {Q:Int×Int×Nat->Shared->Prop} (hs:s.heap.IsSliceOf sl vl vu .none) (pl:IsPart vl lo) (pu:IsPart vu hi)
  (h:Q (((sIx n 0 lo:Nat):Int),1,sIx n n hi - sIx n 0 lo) s):wpAny (model prog w) A (Builtin.Slice.sliceApplied (.ref sl) (pure (n:Int))) Q E s:=by
 obtain ⟨os,hos,hcs,hds⟩:=id hs
 unfold Builtin.Slice.sliceApplied Builtin.Slice.sliceFields
 refine Xi (Xi (Za hos hds (x:=vl) rfl (Xi (Za hos hds (x:=vu) rfl (Xi (Za hos hds (x:=.none) rfl (Xl ?_)))))))
 refine Xi (slicePart_none ?_)
 show wpAny _ _ (if ((1:Int) == 0)=true then _ else _) _ _ s
 rw [if_neg (by decide)]
 refine Xi (vp pl (Xi (vp pu (Xi (Xl ?_)))))
 show wpAny _ _ (match Builtin.Slice.sliceAdjust lo hi 1 (n:Int) with | (lo,hi)=>pure (lo,(1:Int),Builtin.Slice.slicePlaces lo hi 1)) _ _ s
 rw [Ci lo hi n]
 show wpAny _ _ (pure (((sIx n 0 lo:Nat):Int),(1:Int),Builtin.Slice.slicePlaces ((sIx n 0 lo:Nat):Int) ((sIx n n hi:Nat):Int) 1)) _ _ s
 rw [Cj]
 exact Xl h
theorem Jc (xs:Array Value) (i k:Nat):((List.range k).filterMap fun (m:Nat)=>xs[((i:Int)+(m:Int)*1).toNat]?).toArray=((xs.toList.drop i).take k).toArray:=by
 have e:(fun (m:Nat)=>xs[((i:Int)+(m:Int)*1).toNat]?)=fun m=>xs[i+m]?:=by
  funext m
  have:((i:Int)+(m:Int)*1).toNat=i+m:=by omega
  rw [this]
 rw [e]
 have:=pick_run xs i k
 rw [List.filterMap_map] at this
 have e2:((fun x=>xs[x]?) ∘ fun x=>i+x)=fun m=>xs[i+m]?:=rfl
 rw [e2] at this
 rw [this]
theorem getItem_tuple_cut {t sl:Addr} {items:Array Value} {vl vu:Value} {lo hi:Option Int} {Q:Value->Shared->Prop} (ht:IsTup s.heap t items) (hs:s.heap.IsSliceOf sl vl vu .none) (pl:IsPart vl lo) (pu:IsPart vu hi)
  (hw:¬ (sIx items.size 0 lo=0/\sIx items.size items.size hi=items.size))
  (h:Q (.ref s.heap.objs.size) {s with heap:=s.heap.push {cls:=.type "tuple",data:=.seq ((items.toList.drop (sIx items.size 0 lo)).take (sIx items.size items.size hi - sIx items.size 0 lo)).toArray}})
  (hsz:items.size<=sizeLine):wpAny (model prog w) A (getItem (.ref t) (.ref sl)) Q E s:=by
 have htake:sizeOk (.seq ((items.toList.drop (sIx items.size 0 lo)).take (sIx items.size items.size hi - sIx items.size 0 lo)).toArray):=by
  show ((items.toList.drop (sIx items.size 0 lo)).take (sIx items.size items.size hi - sIx items.size 0 lo)).toArray.size<=sizeLine
  rw [Xv,Y9,Zf,Yb]
  omega
 have hj:sIx items.size items.size hi<=items.size:=sIx_le _ _ (Xo _) hi
 obtain ⟨os,hos,hcs,hds⟩:=id hs
 have hTs:s.TypeIs (.ref sl) "slice":=⟨os,hos,hcs⟩
 unfold getItem
 try with_reducible refine Yl ?_
 first | refine Xi (Xl ?_) | skip
 refine Xi (wpAny_sequenceKey ht.typeIs (by decide) ?_)
 refine Xi (Zy (name:=Str.ofString "__getitem__") ht.typeIs Y6
  (Z3 Y6 ht.typeIs entry_tuple_getitem ?_ (args_tuple_getitem _ _)))
 show wpAny _ _ (Builtin.Tuple.tupleItemsOf (.ref t) >>=_) _ _ s
 refine Xi (tupleItemsOf_ ht ?_)
 refine Xi (wpAny_typeOf hTs ?_)
 rw [if_pos (by decide)]
 refine Xi (mU hs pl pu ?_)
 have hno:¬ ((((sIx items.size 0 lo:Nat):Int) == 0 && (1:Int) == 1 && (sIx items.size items.size hi - sIx items.size 0 lo) == items.size)=true):=by
  intro q
  rw [Xx,Xx] at q
  have q1:((sIx items.size 0 lo:Nat):Int)=0:=eq_of_beq q.1.1
  have q2:sIx items.size items.size hi - sIx items.size 0 lo=items.size:=eq_of_beq q.2
  exact hw ⟨by omega,by omega⟩
 show wpAny _ _ (if (((sIx items.size 0 lo:Nat):Int) == 0 && (1:Int) == 1 && (sIx items.size items.size hi - sIx items.size 0 lo) == items.size)=true then _ else _) _ _ s
 rw [if_neg hno,Jc]
 first
  | exact Xi (m:=Builtin.Tuple.tupleExact _) (YB (Xl ⟨_,rfl,Xl h⟩) htake)
  | exact Xi (m:=Builtin.Tuple.tupleExact _) (YB (Xi (Xl (Xl ⟨_,rfl,Xl h⟩))) htake)
  | exact Xi (Xi (m:=Builtin.Tuple.tupleExact _) (YB (Xl (Xl ⟨_,rfl,Xl h⟩)) htake))
  | exact Xi (Xi (m:=Builtin.Tuple.tupleExact _) (YB (Xl ⟨_,rfl,Xl h⟩) htake))
end
end HT
namespace L2
open PySem PySem.Spec PyProof.Rows
abbrev TO:=St->Hp->(Option Int->Hp->Prop)->Prop
def PO (X:Cx) (e:Option Expr) (t:TO):Prop:=
 ∀ (pins:List (Addr×Obj)) (s:Shared) (U:St) (H:Hp) (Q:Option Int->Hp->Prop),Inv X pins U H s->t U H Q->
  wpAny (model X.prog X.w) X.A (evalPart e X.env) (fun u s'=>∃ o H',Inv X pins U H' s'/\IsPart u o/\Q o H') X.xe s
def yx:TO:=fun _ H Q=>Q none H
def Jd (t:TE):TO:=fun U H Q=>t U H fun x H1=>∃ i,x= .int i/\Q (some i) H1
theorem intsAre_of {ns:List Int}:∀ {us:List Value},Vals (ns.map V.int) us->IntsAre us ns:=by
 induction ns with
 | nil=>intro us r;rw [List.map_nil] at r;cases r;exact .nil
 | cons n ns ih=>
  intro us r
  rw [Yu] at r
  cases r with
  | cons r1 r2=>
   obtain ⟨t,e⟩:=r1
   subst e
   exact .cons n t (ih r2)
section
variable {X:Cx} {e:Expr} {te:TE} {lo hi:Option Expr} {tl th:TO} {pos p2:Pos}
theorem Nh:PO X none yx:=by
 intro pins s U H Q I h
 rw [evalPart_none]
 exact Xl ⟨none,H,I,.none,h⟩
theorem Ni (h:PE X e te):PO X (some e) (Jd te):=by
 intro pins s U H Q I hw
 rw [evalPart_some]
 refine d9 (h pins s U H _ I hw) fun u s1 qq0=>?_
 obtain ⟨x,H1,I1,r1,q1⟩:=qq0
 obtain ⟨i,rfl,q⟩:=q1
 obtain ⟨t,rfl⟩:=r1
 exact ⟨some i,H1,I1,.int i t,q⟩
def SlR (X:Cx) (r:V->Option Int->Option Int->Hp->VK->Prop):Prop:=
 ∀ (pins:List (Addr×Obj)) (s:Shared) (U:St) (H:Hp) (x:V) (v vl vu:Value) (lo hi:Option Int) (sl:Addr) (Q:VK),Inv X pins U H s->RelV x v->s.heap.IsSliceOf sl vl vu .none->IsPart vl lo->IsPart vu hi->r x lo hi H Q->
  ∃ T id,typeLookup (.type T) "__getitem__"=pure (some (.builtin id))/\s.TypeIs v T/\wpAny (model X.prog X.w) X.A (getItem v (.ref sl)) (EP X pins U Q) X.xe s
theorem SlR.or {r r':V->Option Int->Option Int->Hp->VK->Prop} (h:SlR X r) (h':SlR X r'):SlR X (fun x lo hi H Q=>r x lo hi H Q\/r' x lo hi H Q):=by
 intro pins s U H x v vl vu lo hi sl Q I rx hs pl pu q
 rcases q with q | q
 ·exact h pins s U H x v vl vu lo hi sl Q I rx hs pl pu q
 ·exact h' pins s U H x v vl vu lo hi sl Q I rx hs pl pu q
def tSl (r:V->Option Int->Option Int->Hp->VK->Prop) (te:TE) (tl th:TO):TE:=fun U H Q=>te U H fun x H1=>tl U H1 fun l H2=>th U H2 fun u H3=>r x l u H3 Q
theorem Je {r:V->Option Int->Option Int->Hp->VK->Prop} (hr:SlR X r) (he:PE X e te) (hl:PO X lo tl) (hu:PO X hi th):PE X (.Subscript e (.Slice lo hi none p2) pos) (tSl r te tl th):=by
 intro pins s U H Q I h
 refine Subscript_ (d9 (he pins s U H _ I h) fun v s1 qq0=>?_)
 obtain ⟨x,H1,I1,r1,q1⟩:=qq0
 refine wpAny_Slice (d9 (hl pins s1 U H1 _ I1 q1) fun vl s2 ⟨l,H2,I2,pl,q2⟩=>d9 (hu pins s2 U H2 _ I2 q2) fun vu s3 qq0=>?_)
 obtain ⟨u,H3,I3,pu,q3⟩:=qq0
 rw [evalPart_none]
 refine Xl ?_
 have I4:Inv X pins U H3 {s3 with heap:=s3.heap.push {cls:=.type "slice",data:=.fields #[vl,vu,.none]}}:=I3.kept (t':=s3.toks) fun b ob q=>Xn _ q
 obtain ⟨T,id,hT,ht,hg⟩:=hr pins {s3 with heap:=s3.heap.push {cls:=.type "slice",data:=.fields #[vl,vu,.none]}} U H3 x v vl vu l u s3.heap.objs.size Q I4 r1 (Heap.IsSliceOf.new ..) pl pu q3
 show wpAny (model X.prog X.w) X.A (subscriptTail e (.Slice lo hi none p2) v (.ref s3.heap.objs.size)) (EP X pins U Q) X.xe {s3 with heap:=s3.heap.push {cls:=.type "slice",data:=.fields #[vl,vu,.none]}}
 exact tail_any (ops:=[.ref s3.heap.objs.size,v]) ht hT hg (by with_unfolding_all rfl)
def oW (xs:List V) (lo hi:Option Int):List V:=(xs.drop (HT.sIx xs.length 0 lo)).take (HT.sIx xs.length xs.length hi - HT.sIx xs.length 0 lo)
theorem uf (xs:List V) (lo hi:Option Int):(oW xs lo hi).length<=xs.length:=by
 unfold oW
 rw [Y9,Zf]
 omega
def Vu (K:W.Frag):V->Option Int->Option Int->Hp->VK->Prop:=fun x lo hi H Q=>∃ a xs,x= .ref a/\SqT K H a xs/\
 ¬ (HT.sIx xs.length 0 lo=0/\HT.sIx xs.length xs.length hi=xs.length)/\∀ p,H p=none->Q (.ref p) (upd H p (.tup (oW xs lo hi)))
theorem RV:SlR X (Vu X.K):=by
 intro pins s U H x v vl vu lo hi sl Q I rx hs pl pu h
 obtain ⟨a,xs,rfl,hx,hw,q⟩:=h
 cases rx
 obtain ⟨its,r,ht,hz⟩:=I.tuple hx
 have hlen:its.toArray.size=xs.length:=by rw [Xv];exact r.length.symm
 refine ⟨"tuple",_,PyProof.Rows.slot_tuple_getitem.lookup,ht.typeIs,?_⟩
 refine HT.getItem_tuple_cut ht hs pl pu (by rw [hlen];exact hw) ?_ (by rw [hlen];exact hz)
 rw [hlen]
 refine ⟨.ref s.heap.objs.size,_,I.laid (t':=s.toks) (o:=.tup (oW xs lo hi)) (fun b ob q=>Xn _ q) (Xo _) ?_,rfl,q _ (I.hok.fresh (Xo _))⟩
 exact ⟨XQ (uf xs lo hi) hz,_,(r.drop (HT.sIx xs.length 0 lo)).take (HT.sIx xs.length xs.length hi - HT.sIx xs.length 0 lo),IsTup.new _ _⟩
end
def HS (n:Nat) (i:Int):Option Nat:=if 0<=i then (if i < n then some i.toNat else none) else if -(n:Int)<=i then some (i+n).toNat else none
def zO {α:Type} (xs:List α) (i:Int):Option α:=(HS xs.length i).bind fun j=>xs[j]?
theorem Eb {n:Nat} {i:Int} {j:Nat} (h:HS n i=some j):seqIndex? i n=some j/\j < n/\-(n:Int)<=i/\i < n:=by
 unfold HS at h
 by_cases h0:0<=i
 ·rw [if_pos h0] at h
  by_cases h1:i < n
  ·rw [if_pos h1] at h
   have e:i.toNat=j:=Ye h
   exact ⟨by rw [seqIndex_of h0 h1,e],by omega,by omega,h1⟩
  ·rw [if_neg h1] at h;cases h
 ·rw [if_neg h0] at h
  by_cases h1: -(n:Int)<=i
  ·rw [if_pos h1] at h
   have e:(i+n).toNat=j:=Ye h
   exact ⟨by rw [seqIndex_neg (by omega) h1,e],by omega,h1,by omega⟩
  ·rw [if_neg h1] at h;cases h
theorem yC {α:Type} {xs:List α} {i:Int} {v:α} (h:zO xs i=some v):∃ j,seqIndex? i xs.length=some j/\xs[j]?=some v/\j < xs.length/\-(xs.length:Int)<=i/\i < xs.length:=by
 unfold zO at h
 cases e:HS xs.length i with
 | none=>rw [e] at h;cases h
 | some j=>
  rw [e] at h
  obtain ⟨h1,h2,h3,h4⟩:=Eb e
  exact ⟨j,h1,h,h2,h3,h4⟩
theorem p8 {α:Type} {xs:List α} {j:Nat} {v:α} (h:xs[j]?=some v):zO xs (j:Int)=some v:=by
 have hj:j < xs.length:=(Xm.mp h).1
 have e:HS xs.length (j:Int)=some j:=by
  unfold HS
  rw [if_pos (by omega),if_pos (by omega)];simp
 unfold zO;rw [e];exact h
def Ec (b:Expr):Prop:=∀ o i,subscripted b false o i=operate [o,i] (getItem o i)
def IxR (X:Cx) (r:R2):Prop:=
 ∀ (value slice:Expr) (pins:List (Addr×Obj)) (s:Shared) (U:St) (H:Hp) (x y:V) (v u:Value) (Q:VK),Inv X pins U H s->RelV x v->RelV y u->r x y H Q->
  subscripted slice false v u=operate [v,u] (getItem v u)->wpAny (model X.prog X.w) X.A (subscriptTail value slice v u) (EP X pins U Q) X.xe s
def Qo (X:Cx) (id:String) (r:V->List V->Hp->VK->Prop):Prop:=
 ∀ (pins:List (Addr×Obj)) (s:Shared) (U:St) (H:Hp) (x:V) (xs:List V) (v:Value) (us:List Value) (Q:VK),Inv X pins U H s->RelV x v->Vals xs us->r x xs H Q->
  wpAny (model X.prog X.w) X.A (call (.builtin id) (v :: us)) (EP X pins U Q) X.xe s
section
variable {X:Cx} {a b:Expr} {ta tb:TE} {pos:Pos}
theorem IxR.or {r r':R2} (h:IxR X r) (h':IxR X r'):IxR X (fun x y H Q=>r x y H Q\/r' x y H Q):=by
 intro value slice pins s U H x y v u Q I rx ry q hs
 rcases q with q | q
 ·exact h value slice pins s U H x y v u Q I rx ry q hs
 ·exact h' value slice pins s U H x y v u Q I rx ry q hs
theorem Vv {r:R2} (hr:IxR X r) (ha:PE X a ta) (hb:PE X b tb) (hs:Ec b):PE X (.Subscript a b pos) (Iu r ta tb):=by
 intro pins s U H Q I h
 exact Subscript_ (Rw ha hb I h fun v u s2 x y H2 I2 rx ry q=>hr a b pins s2 U H2 x y v u Q I2 rx ry q (hs _ _))
def Vw (K:W.Frag):R2:=fun x y H Q=>∃ p xs i v,x= .ref p/\y= .int i/\SqL K H p xs/\zO xs i=some v/\Q v H
def Vx (K:W.Frag):R2:=fun x y H Q=>∃ p xs i v,x= .ref p/\y= .int i/\SqT K H p xs/\zO xs i=some v/\Q v H
def Vy:R2:=fun x y H Q=>∃ z i c,x= .str z/\y= .int i/\z.length<=sizeLine/\zO z.cps.toList i=some c/\Q (.str ⟨#[c]⟩) H
theorem Nj:IxR X (Vw X.K):=by
 intro value slice pins s U H x y v u Q I rx ry h hs
 obtain ⟨p,xs,i,z,rfl,rfl,hq,he,q⟩:=h
 cases rx
 obtain ⟨t,rfl⟩:=ry
 obtain ⟨its,r,pl,hz⟩:=I.list hq
 obtain ⟨j,h1,h2,h3,h4,h5⟩:=yC he
 obtain ⟨w,ew,rw'⟩:=r.get h2
 have hl:=r.length
 have hn:=vo
 have fin:EP X pins U Q w s:=⟨z,H,I,rw',q⟩
 by_cases h0:0<=i
 ·have hj:i.toNat=j:=by
   rw [seqIndex_of h0 h5] at h1
   exact Ye h1
  exact item_listR pl.isList h0 (by omega) (by rw [hj];simpa using ew) fin hs
 ·have hj:(i+(its.toArray.size:Int)).toNat=j:=by
   rw [seqIndex_neg (by omega) h4] at h1
   rw [Xv,← hl]
   exact Ye h1
  exact subscriptTail_builtinR (x:=w) pl.isList.typeIs slot_list_getitem.lookup
   (wpAny_getItem_list_neg (Q:=fun r s'=>r=w/\EP X pins U Q r s') pl.isList (by omega) (by rw [Xv] <;> omega) (by omega) (by rw [hj];simpa using ew) ⟨rfl,fin⟩) hs
theorem RW:IxR X (Vx X.K):=by
 intro value slice pins s U H x y v u Q I rx ry h hs
 obtain ⟨p,xs,i,z,rfl,rfl,hq,he,q⟩:=h
 cases rx
 obtain ⟨t,rfl⟩:=ry
 obtain ⟨its,r,pl,hz⟩:=I.tuple hq
 obtain ⟨j,h1,h2,h3,h4,h5⟩:=yC he
 obtain ⟨w,ew,rw'⟩:=r.get h2
 have hl:=r.length
 have hn:=vo
 have fin:EP X pins U Q w s:=⟨z,H,I,rw',q⟩
 exact subscriptTail_builtinR (x:=w) pl.typeIs slot_tuple_getitem.lookup
  (getItem_tuple (j:=j) (Q:=fun r s'=>r=w/\EP X pins U Q r s') pl (by omega) (by omega) (by rw [Xv,← hl];exact h1) (by simpa using ew) ⟨rfl,fin⟩) hs
theorem RX:IxR X Vy:=by
 intro value slice pins s U H x y v u Q I rx ry h hs
 obtain ⟨z,i,c,rfl,rfl,hz,he,q⟩:=h
 obtain ⟨t,rfl⟩:=rx
 obtain ⟨t',rfl⟩:=ry
 obtain ⟨j,h1,h2,h3,h4,h5⟩:=yC he
 have hl:z.cps.toList.length=z.length:=by simp [Str.length]
 rw [hl] at h1 h4 h5
 have hn:=vo
 exact tail_any (typeIs_str s z t) slot_str_getitem.lookup (getItem_str (c:=c) (by
  have e1:decide (i < -(2 ^ 63:Int))=false:=XD (by omega)
  have e2:decide (i>=2 ^ 63)=false:=XD (by omega)
  rw [e1,e2,Bool.or_false]) (by rw [h1];simpa using h2) ⟨.str ⟨#[c]⟩,H,I.tok _,⟨_,rfl⟩,q⟩) hs
def RZ (K:W.Frag):R2:=fun x y H Q=>Vw K x y H Q\/Vx K x y H Q\/Vy x y H Q
theorem R0:IxR X (RZ X.K):=Nj.or (RW.or RX)
theorem Ck (its:List Value) (n j:Nat) (u:Value):Obj.mapSeq (·.setIfInBounds j u) {cls:=.type "list",data:=.seq its.toArray n}={cls:=.type "list",data:=.seq (its.set j u).toArray n}:=by
 simp [Obj.mapSeq]
theorem Inv.lst {pins:List (Addr×Obj)} {U:St} {H:Hp} {s:Shared} {p:Addr} {xs:List V} (I:Inv X pins U H s) (h:H p=some (.lst xs)):
  ∃ (its:List Value) (n:Nat),Vals xs its/\s.heap.get? p=some {cls:=.type "list",data:=.seq its.toArray n}/\xs.length<=sizeLine:=by
 obtain ⟨z,its,n,r,e⟩:=I.hok p _ h
 exact ⟨its,n,r,e,z⟩
theorem Inv.lstUpd {pins:List (Addr×Obj)} {U:St} {H:Hp} {s:Shared} {p:Addr} {xs ys:List V} {its its':List Value} {n n':Nat} {f:Obj->Obj} (I:Inv X pins U H s) (h:H p=some (.lst xs))
  (ho:s.heap.get? p=some {cls:=.type "list",data:=.seq its.toArray n}) (hf:f {cls:=.type "list",data:=.seq its.toArray n}={cls:=.type "list",data:=.seq its'.toArray n'}) (r:Vals ys its') (hz:ys.length<=sizeLine) (t:Nat):
  Inv X pins U (upd H p (.lst ys)) {s with heap:=s.heap.update p f,toks:=t}:=by
 have e:(s.heap.update p f).get? p=some {cls:=.type "list",data:=.seq its'.toArray n'}:=by
  rw [Ys f ho (by rw [hf] <;> rfl),hf]
 refine I.write (x:=p) (e:=p) (by rw [h];trivial) (.inl rfl) (fun b u hb q=>(X8 _ _ (Ne.symm hb)).trans q) ⟨_,e⟩ ?_
 exact ⟨hz,its',n',r,e⟩
def Jf:V->V->V->Hp->(Hp->Prop)->Prop:=fun o i v H Q=>∃ p xs k j,o= .ref p/\i= .int k/\H p=some (.lst xs)/\HS xs.length k=some j/\Q (upd H p (.lst (xs.set j v)))
theorem set_list:Mt X Jf:=by
 intro pins s U H o i v ov iv u Q I ro ri rv h
 obtain ⟨p,xs,k,j,rfl,rfl,hp,hj,q⟩:=h
 cases ro
 obtain ⟨t,rfl⟩:=ri
 obtain ⟨its,n,r,ho,hz⟩:=I.lst hp
 obtain ⟨h1,h2,h3,h4⟩:=Eb hj
 have hl:=r.length
 have hn:=vo
 have I':Inv X pins U (upd H p (.lst (xs.set j v))) {s with heap:=s.heap.update p (Obj.mapSeq (·.setIfInBounds j u))}:=
  I.lstUpd hp ho (Ck its n j u) (r.set rv j) (by rw [List.length_set];exact hz) s.toks
 by_cases h0:0<=k
 ·have hk:k.toNat=j:=by
   rw [seqIndex_of h0 h4] at h1
   exact Ye h1
  exact PySem.W.ki_setAt ho h0 (by omega) (by rw [Xv,← hl];exact h4) (by rw [hk];exact ⟨_,I',q⟩)
 ·have hk:(k+(its.toArray.size:Int)).toNat=j:=by
   rw [seqIndex_neg (by omega) h3] at h1
   rw [Xv,← hl]
   exact Ye h1
  exact PySem.W.ki_setBack ho (by omega) (by rw [Xv,← hl];exact h3) (by omega) (by rw [hk];exact ⟨_,I',q⟩)
theorem yD (lo hi:Option Int) (n:Nat):(sliceBounds lo hi none n).1=((HT.sIx n 0 lo:Nat):Int)/\(sliceBounds lo hi none n).2.1=((HT.sIx n n hi:Nat):Int)/\(sliceBounds lo hi none n).2.2=1:=by
 refine ⟨?_,?_,rfl⟩
 ·cases lo with
  | none=>simp [sliceBounds,HT.sIx]
  | some i=>
   simp only [sliceBounds,HT.sIx,Option.getD_none,show (1:Int) > 0 by decide,if_true]
   by_cases h:i < 0
   ·simp only [h,if_true] <;> omega
   ·simp only [h,if_false] <;> omega
 ·cases hi with
  | none=>simp [sliceBounds,HT.sIx]
  | some i=>
   simp only [sliceBounds,HT.sIx,Option.getD_none,show (1:Int) > 0 by decide,if_true]
   by_cases h:i < 0
   ·simp only [h,if_true] <;> omega
   ·simp only [h,if_false] <;> omega
theorem wG (its:List Value) (lo hi:Option Int):slicePick its.toArray lo hi none=((its.drop (HT.sIx its.length 0 lo)).take (HT.sIx its.length its.length hi - HT.sIx its.length 0 lo)).toArray:=by
 obtain ⟨h1,h2,h3⟩:=yD lo hi its.toArray.size
 unfold slicePick
 rw [h1,h2,h3]
 simp only [sliceRange_one,pick_run,Xv] <;> rfl
def Vz (K:W.Frag):V->Option Int->Option Int->Hp->VK->Prop:=fun x lo hi H Q=>∃ a xs,x= .ref a/\SqL K H a xs/\∀ p,H p=none->Q (.ref p) (upd H p (.lst (oW xs lo hi)))
theorem Nk:SlR X (Vz X.K):=by
 intro pins s U H x v vl vu lo hi sl Q I rx hs pl pu h
 obtain ⟨a,xs,rfl,hx,q⟩:=h
 cases rx
 obtain ⟨its,r,ht,hz⟩:=I.list hx
 have hlen:=r.length
 refine ⟨"list",_,slot_list_getitem.lookup,ht.isList.typeIs,?_⟩
 refine wpAny_getItem_list_slice ht.isList hs pl pu .none (by simp) ?_ (by rw [Xv] <;> omega)
 rw [wG,← hlen]
 refine ⟨.ref s.heap.objs.size,_,I.laid (t':=s.toks) (o:=.lst (oW xs lo hi)) (fun b ob q=>Xn _ q) (Xo _) ?_,rfl,q _ (I.hok.fresh (Xo _))⟩
 exact ⟨XQ (uf xs lo hi) hz,_,0,(r.drop (HT.sIx xs.length 0 lo)).take (HT.sIx xs.length xs.length hi - HT.sIx xs.length 0 lo),Xu _ rfl⟩
def jE:V->Bool
 | .non=>true
 | .bl _=>true
 | .int _=>true
 | .str _=>true
 | _=>false
def Ed:V->V->Bool
 | .non,.non=>true
 | .bl a,.bl b=>a == b
 | .bl a,.int b=>(if a then 1 else 0) == b
 | .int a,.bl b=>a == (if b then 1 else 0)
 | .int a,.int b=>a == b
 | .str a,.str b=>a == b
 | _,_=>false
theorem qK {A:Around} {s:Shared} {y x:V} {u v:Value} (ry:RelV y u) (rx:RelV x v) (fy:jE y=true) (fx:jE x=true):SeqAt.EqAt A s u v (Ed y x):=by
 cases y with
 | non=>
  cases ry
  cases x with
  | non=>cases rx;exact Zd _
  | bl b=>cases rx;exact SeqAt.EqAt.none_bool b
  | int b=>obtain ⟨t,rfl⟩:=rx;exact SeqAt.EqAt.none_int b t
  | str b=>obtain ⟨t,rfl⟩:=rx;exact SeqAt.EqAt.none_str b t
  | _=>exact absurd (show false=true from fx) Xq
 | bl a=>
  cases ry
  cases x with
  | non=>cases rx;exact SeqAt.EqAt.bool_none a
  | bl b=>cases rx;exact SeqAt.EqAt.bool_bool a b
  | int b=>obtain ⟨t,rfl⟩:=rx;exact SeqAt.EqAt.bool_int a b t
  | str b=>obtain ⟨t,rfl⟩:=rx;exact SeqAt.EqAt.bool_str a b t
  | _=>exact absurd (show false=true from fx) Xq
 | int a=>
  obtain ⟨t',rfl⟩:=ry
  cases x with
  | non=>cases rx;exact SeqAt.EqAt.int_none a t'
  | bl b=>cases rx;exact SeqAt.EqAt.int_bool a t' b
  | int b=>obtain ⟨t,rfl⟩:=rx;exact SeqAt.EqAt.int_int a t' b t
  | str b=>obtain ⟨t,rfl⟩:=rx;exact SeqAt.EqAt.int_str a t' b t
  | _=>exact absurd (show false=true from fx) Xq
 | str a=>
  obtain ⟨t',rfl⟩:=ry
  cases x with
  | non=>cases rx;exact SeqAt.EqAt.str_none a t'
  | bl b=>cases rx;exact SeqAt.EqAt.str_bool a t' b
  | int b=>obtain ⟨t,rfl⟩:=rx;exact SeqAt.EqAt.str_int a t' b t
  | str b=>obtain ⟨t,rfl⟩:=rx;exact SeqAt.EqAt.str_str a t' b t
  | _=>exact absurd (show false=true from fx) Xq
 | _=>exact absurd (show false=true from fy) Xq
def Cm (x:V) (u:Value):Bool:=match u with
 | .none=>Ed .non x
 | .bool b=>Ed (.bl b) x
 | .int i _=>Ed (.int i) x
 | .str z _=>Ed (.str z) x
 | _=>false
theorem Jg {x y:V} {u:Value} (r:RelV y u) (f:jE y=true):Cm x u=Ed y x:=by
 cases y with
 | non=>cases r;rfl
 | bl b=>cases r;rfl
 | int i=>obtain ⟨t,rfl⟩:=r;rfl
 | str z=>obtain ⟨t,rfl⟩:=r;rfl
 | _=>exact absurd (show false=true from f) Xq
theorem rE {x:V}:∀ {xs:List V} {us:List Value},Vals xs us->xs.all jE=true->us.any (Cm x)=xs.any fun y=>Ed y x
 | _,_,.nil,_=>rfl
 | y :: xs,u :: us,.cons r t,f=>by
  rw [Yn,Xx] at f
  rw [List.any_cons,List.any_cons,Jg r f.1,rE t f.2]
theorem oX {A:Around} {s:Shared} {x:V} {v:Value} (rx:RelV x v) (fx:jE x=true):∀ {xs:List V} {us:List Value},Vals xs us->xs.all jE=true->∀ u∈us,SeqAt.EqAt A s u v (Cm x u)
 | _,_,.nil,_=>fun u hu=>by cases hu
 | y :: xs,u :: us,.cons r t,f=>fun u' hu=>by
  rw [Yn,Xx] at f
  rcases Xr.mp hu with rfl | hu
  ·rw [Jg r f.1];exact qK r rx f.1 fx
  ·exact oX rx fx t f.2 u' hu
def inV (x:V) (xs:List V):Bool:=xs.any fun y=>Ed y x
def Xb (K:W.Frag) (neg:Bool):R2:=fun x y H Q=>∃ p xs,y= .ref p/\(SqL K H p xs\/SqT K H p xs)/\jE x=true/\xs.all jE=true/\Q (.bl (if neg then !inV x xs else inV x xs)) H
theorem Gn:OpR X (compareOp .In) (Xb X.K false):=by
 intro pins s U H x y v u Q I rx ry h
 obtain ⟨p,xs,rfl,hq,fx,fs,q⟩:=h
 cases ry
 rcases hq with hq | hq
 ·obtain ⟨its,r,pl,hz⟩:=I.list hq
  refine SeqAt.in_listAt (Cm x) pl.isList (fun w hw=>oX rx fx r fs w (by simpa using hw)) ⟨.bl _,H,I,rfl,?_⟩
  rw [show its.toArray.any (Cm x)=its.any (Cm x) by simp,rE r fs]
  exact q
 ·obtain ⟨its,r,pl,hz⟩:=I.tuple hq
  refine SeqAt.in_tupleAt (Cm x) pl (fun w hw=>oX rx fx r fs w (by simpa using hw)) ⟨.bl _,H,I,rfl,?_⟩
  rw [show its.toArray.any (Cm x)=its.any (Cm x) by simp,rE r fs]
  exact q
theorem yE:OpR X (compareOp .NotIn) (Xb X.K true):=by
 intro pins s U H x y v u Q I rx ry h
 obtain ⟨p,xs,rfl,hq,fx,fs,q⟩:=h
 cases ry
 rcases hq with hq | hq
 ·obtain ⟨its,r,pl,hz⟩:=I.list hq
  refine SeqAt.notIn_listAt (Cm x) pl.isList (fun w hw=>oX rx fx r fs w (by simpa using hw)) ⟨.bl _,H,I,rfl,?_⟩
  rw [show its.toArray.any (Cm x)=its.any (Cm x) by simp,rE r fs]
  exact q
 ·obtain ⟨its,r,pl,hz⟩:=I.tuple hq
  refine SeqAt.notIn_tupleAt (Cm x) pl (fun w hw=>oX rx fx r fs w (by simpa using hw)) ⟨.bl _,H,I,rfl,?_⟩
  rw [show its.toArray.any (Cm x)=its.any (Cm x) by simp,rE r fs]
  exact q
theorem yF:OpR X (compareOp .NotIn) (fun x y H Q=>∃ i j,x= .str i/\y= .str j/\Q (.bl (!(!(Builtin.Str.occurrences j i 0 j.length 1).isEmpty))) H):=by
 intro pins s U H x y v u Q I rx ry h
 obtain ⟨i,j,rfl,rfl,q⟩:=h
 obtain ⟨t,rfl⟩:=rx
 obtain ⟨t',rfl⟩:=ry
 exact notIn_str ⟨.bl _,H,I,rfl,q⟩
theorem CallR.or {f:Value} {r r':List V->Hp->VK->Prop} (h:CallR X f r) (h':CallR X f r'):CallR X f (fun xs H Q=>r xs H Q\/r' xs H Q):=by
 intro pins s U H xs us Q I rs q
 rcases q with q | q
 ·exact h pins s U H xs us Q I rs q
 ·exact h' pins s U H xs us Q I rs q
theorem yG:CallR X (.type "list") (fun xs H Q=>∃ p ys,xs=[.ref p]/\(SqL X.K H p ys\/SqT X.K H p ys)/\∀ l,H l=none->Q (.ref l) (upd H l (.lst ys))):=by
 intro pins s U H xs us Q I r h
 obtain ⟨p,ys,rfl,hq,q⟩:=h
 obtain ⟨u,rfl,rx⟩:=vals1 r
 cases rx
 have fin:∀ (its:List Value),Vals ys its->ys.length<=sizeLine->∀ (h':Heap) (c':Nat),(∀ b o',s.heap.get? b=some o'->h'.get? b=some o')->
   h'.get? s.heap.objs.size=some {cls:=.type "list",dict:=none,data:=.seq its.toArray c',slots:=#[]}->EP X pins U Q (.ref s.heap.objs.size) {s with heap:=h'}:=fun its r' hz h' c' kp e=>
  ⟨.ref s.heap.objs.size,_,I.laid (t':=s.toks) kp (Xo _) (show ObjOk X.prog X.w _ h' _ (.lst ys) from ⟨hz,its,c',r',e⟩),rfl,q _ (I.hok.fresh (Xo _))⟩
 rcases hq with hq | hq
 ·obtain ⟨its,r',pl,hz⟩:=I.list hq
  have hlen:=r'.length
  obtain ⟨o,ho,hc,n,hd⟩:=pl.isList
  exact call_list_seq p (.inl rfl) ho hc hd (fun h' c' kp e=>fin its r' hz h' c' kp e) (by simp only [Xv] <;> omega)
 ·obtain ⟨its,r',pl,hz⟩:=I.tuple hq
  have hlen:=r'.length
  obtain ⟨o,ho,hc,n,hd⟩:=pl
  exact call_list_seq p (.inr rfl) ho hc hd (fun h' c' kp e=>fin its r' hz h' c' kp e) (by simp only [Xv] <;> omega)
def VB (K:W.Frag) (T:String) (x:V) (H:Hp):Prop:=match x with
 | .str _=>T="str"
 | .int _=>T="int"
 | .ref p=>(T="list"/\∃ xs,SqL K H p xs)\/(T="tuple"/\∃ o,K.lookup p=some o/\o.cls= .type "tuple"/\o.dict=none)\/
   (T="dict"/\((∃ kvs,H p=some (.dK kvs))\/∃ kvs,H p=some (.dT kvs)))\/(T="set"/\∃ S n,H p=some (.set S n))
 | _=>False
theorem Jh {pins:List (Addr×Obj)} {U:St} {H:Hp} {s:Shared} {T:String} {x:V} {v:Value} (I:Inv X pins U H s) (r:RelV x v) (ty:VB X.K T x H):
  s.TypeIs v T/\∀ a,v= .ref a->∃ ob,s.heap.get? a=some ob/\ob.dict=none:=by
 cases x with
 | str z=>
  obtain ⟨t,rfl⟩:=r
  cases (show T="str" from ty)
  exact ⟨typeIs_str s z t,fun _ e=>nomatch e⟩
 | int i=>
  obtain ⟨t,rfl⟩:=r
  cases (show T="int" from ty)
  exact ⟨typeIs_int s i t,fun _ e=>nomatch e⟩
 | ref p=>
  cases r
  rcases ty with ⟨rfl,xs,hq⟩ | ⟨rfl,o,hk,hc,hd⟩ | ⟨rfl,hk⟩ | ⟨rfl,S,n,hk⟩
  ·obtain ⟨its,_,pl,_⟩:=I.list hq
   refine ⟨pl.isList.typeIs,fun a e=>?_⟩
   cases e
   obtain ⟨o,n,e,c,hd,_⟩:=pl
   exact ⟨o,e,hd⟩
  ·refine ⟨⟨o,I.kIn p o hk,hc⟩,fun a e=>?_⟩
   cases e
   exact ⟨o,I.kIn _ o hk,hd⟩
  ·have z:∃ o,s.heap.get? p=some o/\o.ExactDict:=by
    rcases hk with ⟨kvs,hk⟩ | ⟨kvs,hk⟩
    ·obtain ⟨_,_,_,_,o,_,_,e,ex,_⟩:=I.hok p _ hk
     exact ⟨o,e,ex⟩
    ·obtain ⟨_,_,_,_,o,_,_,e,ex,_⟩:=I.hok p _ hk
     exact ⟨o,e,ex⟩
   obtain ⟨o,e,ex⟩:=z
   refine ⟨⟨o,e,ex.1⟩,fun a e2=>?_⟩
   cases e2
   exact ⟨o,e,ex.2.1⟩
  ·obtain ⟨o,_,_,_,e,ex,_⟩:=I.hok p _ hk
   refine ⟨⟨o,e,ex.1⟩,fun a e2=>?_⟩
   cases e2
   exact ⟨o,e,ex.2.1⟩
 | _=>exact False.elim ty
def Ji (K:W.Frag) (T:String) (r:V->List V->Hp->VK->Prop) (to:TE):TE:=fun U H Q=>to U H fun x H1=>VB K T x H1/\r x [] H1 Q
def VD (K:W.Frag) (T:String) (r:V->List V->Hp->VK->Prop) (to:TE) (t:TA):TE:=fun U H Q=>to U H fun x H1=>VB K T x H1/\t U H1 fun xs H2=>r x xs H2 Q
variable {o e:Expr} {es:List Expr} {to:TE} {t:TA} {name:Str} {apos cpos:Pos} {T id:String} {r:V->List V->Hp->VK->Prop}
theorem R1 (pa:PlainAttrs T) (slot:Slot T name id) (hty:typeOf (.builtin id)=pure (.type "method_descriptor")) (hm:Qo X id r) (ho:PE X o to)
  (hbase:autoParam (attributeBase o name X.env (eval o X.env)=eval o X.env) L2.auto4._auto_1) (hline:autoParam ((apos.endLine == cpos.line)=true) L2.auto4._auto_1):PE X (.Call (.Attribute o name apos) [] [] cpos) (Ji X.K T r to):=by
 intro pins s U H Q I h
 refine wpAny_Call_method0_late hbase hline (d9 (ho pins s U H _ I h) fun v s1 qq0=>?_)
 obtain ⟨x,H1,I1,r1,ty,q1⟩:=qq0
 obtain ⟨h1,h2⟩:=Jh I1 r1 ty
 exact ⟨T,id,pa,slot,hty,h1,h2,Calls.callWith_builtin rfl (PySem.evalArgs_none (hm pins s1 U H1 x [] v [] Q I1 r1 .nil q1))⟩
theorem VF (pa:PlainAttrs T) (slot:Slot T name id) (hty:typeOf (.builtin id)=pure (.type "method_descriptor")) (hm:Qo X id r) (ho:PE X o to) (ha:PA X (e :: es) t)
  (hbase:autoParam (attributeBase o name X.env (eval o X.env)=eval o X.env) L2.auto4._auto_1)
  (hfew:((backTo cpos (starEach (e :: es) X.env)).all (fun x=>!x.1) && (backToKw cpos (keywordEach [] X.env)).all (fun x=>x.1.isSome)
   && decide ((e :: es).length+([]:List Keyword).length+(if ([]:List Keyword).isEmpty then 0 else 1) < 30))=true:=by rfl)
  (hline:autoParam ((apos.endLine == cpos.line)=true) L2.auto4._auto_1) (hs:autoParam (starEach (e :: es) X.env=(false,eval e X.env) :: starEach es X.env) L2.auto4._auto_1) (hplain:autoParam ((backTo cpos (starEach es X.env)).any (·.1)=false) L2.auto4._auto_1):
  PE X (.Call (.Attribute o name apos) (e :: es) [] cpos) (VD X.K T r to t):=by
 intro pins s U H Q I h
 refine wpAny_Call_method_late hbase hfew hline rfl (d9 (ho pins s U H _ I h) fun v s1 qq0=>?_)
 obtain ⟨x,H1,I1,r1,ty,q1⟩:=qq0
 obtain ⟨h1,h2⟩:=Jh I1 r1 ty
 refine ⟨T,id,pa,slot,hty,h1,h2,?_⟩
 have hA:=ha cpos pins s1 U H1 _ I1 q1
 rw [hs] at hA ⊢
 refine Calls.callWith_builtin (by show (false || (backTo cpos (starEach es X.env)).any (·.1))=false;rw [hplain] <;> rfl) (Calls.evalArgs_plain ?_)
 exact d9 hA fun us s2 ⟨vs,H2,I2,r2,q2⟩=>hm pins s2 U H2 x vs v us Q I2 r1 r2 q2
end
def MtM (X:Cx) (id:String) (r:V->List V->Hp->VK->Prop):Prop:=
 ∀ (pins:List (Addr×Obj)) (s:Shared) (U:St) (H:Hp) (x:V) (xs:List V) (v:Value) (us:List Value) (Q:VK),Inv X pins U H s->RelV x v->Vals xs us->r x xs H Q->
  wpAny (model X.prog X.w) X.A (call (.builtin id) (v :: us)) (EP X pins U Q) X.xe s
theorem Vals.one:∀ {x:V} {us:List Value},Vals [x] us->∃ u,us=[u]/\RelV x u
 | _,_,.cons r .nil=>⟨_,rfl,r⟩
theorem Vals.zero:∀ {us:List Value},Vals [] us->us=[]
 | _,.nil=>rfl
theorem Vals.reverse {xs:List V} {us:List Value} (h:Vals xs us):Vals xs.reverse us.reverse:=by
 induction h with
 | nil=>exact .nil
 | cons r t ih=>rw [List.reverse_cons,List.reverse_cons];exact Vals.append ih (.cons r .nil)
theorem Vals.rep {xs:List V} {us:List Value} (h:Vals xs us):∀ k:Nat,Vals (List.replicate k xs).flatten (List.replicate k us).flatten
 | 0=>.nil
 | k+1=>by
  rw [YH,YH,Zo,Zo]
  exact Vals.append h (Vals.rep h k)
theorem foldl_rep (its:List Value):∀ (k:Nat) (acc:List Value),
  List.foldl (fun x1 x2=>x1 ++ x2) acc.toArray (List.replicate k its.toArray)=(acc ++ (List.replicate k its).flatten).toArray
 | 0,acc=>by simp
 | k+1,acc=>by
  have e:acc.toArray ++ its.toArray=(acc ++ its).toArray:=by simp
  have e2:(acc ++ its) ++ (List.replicate k its).flatten=acc ++ (List.replicate (k+1) its).flatten:=by
   rw [YH,Zo,ZR]
  rw [← e2,← foldl_rep its k (acc ++ its),← e,YH,List.foldl_cons]
section
variable {X:Cx} {pins:List (Addr×Obj)} {U:St} {H:Hp} {s:Shared} {l b:Addr} {xs ys zs:List V}
theorem Inv.lset {its its':List Value} {n:Nat} {f:Array Value->Array Value} {t':Nat} (I:Inv X pins U H s) (hH:H l=some (.lst xs))
  (e:s.heap.get? l=some {cls:=.type "list",data:=.seq its.toArray n}) (hf:f its.toArray=its'.toArray) (hv:Vals ys its') (hz:ys.length<=sizeLine):
  Inv X pins U (upd H l (.lst ys)) {s with heap:=s.heap.update l (Obj.mapSeq f),toks:=t'}:=by
 have q:=PySem.IsL.update e f
 rw [hf] at q
 refine I.write (x:=l) (e:=l) (by rw [hH];exact trivial) (.inl rfl) (fun b' u hb hu=>(X8 s.heap (Obj.mapSeq f) (Ne.symm hb)).trans hu) ⟨_,q⟩ ?_
 exact ⟨hz,its',_,hv,q⟩
theorem Inv.lnew {its:List Value} {t':Nat} (I:Inv X pins U H s) (hv:Vals ys its) (hz:ys.length<=sizeLine):
  Inv X pins U (upd H s.heap.objs.size (.lst ys)) {s with heap:=s.heap.push {cls:=.type "list",data:=.seq its.toArray},toks:=t'}:=
 I.laid (fun _ _ q=>Xn _ q) (Xo _) ⟨hz,its,0,hv,Xu _ rfl⟩
theorem Inv.fresh (I:Inv X pins U H s):H s.heap.objs.size=none:=I.hok.fresh (Xo _)
theorem Inv.lstM (I:Inv X pins U H s) (hH:H l=some (.lst xs)):xs.length<=sizeLine/\∃ (its:List Value) (n:Nat),Vals xs its/\xs.length=its.length/\s.heap.get? l=some {cls:=.type "list",data:=.seq its.toArray n}:=by
 obtain ⟨z,its,n,r,e⟩:=I.hok l _ hH
 exact ⟨z,its,n,r,r.length,e⟩
theorem Jj {n:Nat} (h:n<=sizeLine):Builtin.List.listTooLong n=false:=by
 unfold Builtin.List.listTooLong
 exact XD (by omega)
end
section
variable {X:Cx}
def Ef:V->List V->Hp->VK->Prop:=fun x vs H Q=>∃ l xs y,x= .ref l/\vs=[y]/\H l=some (.lst xs)/\xs.length < sizeLine/\Q .non (upd H l (.lst (xs ++ [y])))
theorem sX:MtM X "list.append" Ef:=by
 intro pins s U H x vs v us Q I rx rv h
 obtain ⟨l,xs,y,rfl,rfl,hH,hz,q⟩:=h
 cases rx
 obtain ⟨u,rfl,ru⟩:=rv.one
 obtain ⟨z,its,n,r,hl,e⟩:=I.lstM hH
 refine call_meets F.slot_list_append ⟨_,e,rfl⟩ F.entry_list_append (F.args_list_append_2 _ _) (PySem.list_append l its.toArray n u (by rw [Xv];omega)) ⟨e,?_⟩
 refine ⟨.non,_,I.lset (its':=its ++ [u]) hH e (by simp) (r.append (.cons ru .nil)) ?_,rfl,q⟩
 rw [Yr,List.length_singleton]
 omega
def Sd:V->List V->Hp->VK->Prop:=fun x vs H Q=>∃ l xs,x= .ref l/\vs=[]/\H l=some (.lst xs)/\Q .non (upd H l (.lst []))
theorem zP:MtM X "list.clear" Sd:=by
 intro pins s U H x vs v us Q I rx rv h
 obtain ⟨l,xs,rfl,rfl,hH,q⟩:=h
 cases rx
 have hus:=rv.zero
 subst hus
 obtain ⟨z,its,n,r,hl,e⟩:=I.lstM hH
 refine call_meets F.slot_list_clear ⟨_,e,rfl⟩ F.entry_list_clear (F.args_list_clear_1 _) (AutoSeq1.list_clear_list_0 l its.toArray n (by rw [Xv];omega)) ⟨e,?_⟩
 exact ⟨.non,_,I.lset (its':=[]) (ys:=[]) hH e rfl .nil (YG _),rfl,q⟩
def VG:R2:=fun x y H Q=>∃ l b xs zs,x= .ref l/\y= .ref b/\H l=some (.lst xs)/\H b=some (.lst zs)/\xs.length+zs.length<=sizeLine/\∀ p,H p=none->Q (.ref p) (upd H p (.lst (xs ++ zs)))
theorem Sg:OpR X (binaryOp .Add) VG:=by
 intro pins s U H x y v u Q I rx ry h
 obtain ⟨l,b,xs,zs,rfl,rfl,hH,hB,hz,q⟩:=h
 cases rx
 cases ry
 obtain ⟨z,its,n,r,hl,e⟩:=I.lstM hH
 obtain ⟨z2,its2,n2,r2,hl2,e2⟩:=I.lstM hB
 refine PySem.P.add_list e e2 ?_ (by rw [Xv,Xv];omega)
 have ea:its.toArray ++ its2.toArray=(its ++ its2).toArray:=by simp
 rw [ea]
 exact ⟨.ref _,_,I.lnew (t':=s.toks) (r.append r2) (by rw [Yr];omega),rfl,q _ I.fresh⟩
def VH:R2:=fun x y H Q=>∃ l k xs,x= .ref l/\y= .int k/\H l=some (.lst xs)/\-(2 ^ 63)<=k/\k < 2 ^ 63/\xs.length*k.toNat<=sizeLine/\
 ∀ p,H p=none->Q (.ref p) (upd H p (.lst (List.replicate k.toNat xs).flatten))
theorem len_rep {α:Type} (xs:List α) (k:Nat):(List.replicate k xs).flatten.length=k*xs.length:=by
 induction k with
 | zero=>simp
 | succ k ih=>rw [YH,Zo,Yr,ih,Nat.succ_mul,Nat.add_comm]
theorem Sh:OpR X (binaryOp .Mult) VH:=by
 intro pins s U H x y v u Q I rx ry h
 obtain ⟨l,k,xs,rfl,rfl,hH,h1,h2,hz,q⟩:=h
 cases rx
 obtain ⟨t,rfl⟩:=ry
 obtain ⟨z,its,n,r,hl,e⟩:=I.lstM hH
 have hlen:its.toArray.size*k.toNat<=sizeLine:=by rw [Xv,← hl];exact hz
 have hcap:¬ its.toArray.size*k.toNat > (2 ^ 63 - 1) / 8:=by
  have:(sizeLine:Nat)<=(2 ^ 63 - 1) / 8:=by decide
  omega
 have hfit:¬ (!Builtin.List.listFitsIndex k)=true:=by
  rw [fitsIndex_both h1 h2]
  exact Xq
 have hlong:¬ Builtin.List.listTooLong (its.toArray.size*k.toNat)=true:=by
  rw [Jj hlen]
  exact Xq
 have hnew:List.foldl (fun x1 x2=>x1 ++ x2) #[] (List.replicate (if its.toArray.isEmpty=true then 0 else k.toNat) its.toArray)=(List.replicate k.toNat its).flatten.toArray:=by
  have f0:∀ m:Nat,List.foldl (fun x1 x2=>x1 ++ x2) #[] (List.replicate m its.toArray)=(List.replicate m its).flatten.toArray:=fun m=>by
   have:=foldl_rep its m []
   rw [List.nil_append] at this
   exact this
  rw [f0]
  cases its with
  | nil=>simp
  | cons a r'=>rw [if_neg (by simp)]
 refine wpAny_binaryOp_repeat_ref (T:="list") (U:="int") (by decide) ⟨_,e,rfl⟩ (fun s'=>typeIs_int s' k t) noFill_list_mul F.fills_int_mul F.slot_int_rmul repeat_list F.slot_int_index.lookup
  (call_meets F.slot_int_rmul (typeIs_int s k t) F.entry_int_rmul (F.args_int_rmul_2 _ _) (int___rmul___int_list k t l its.toArray n)
   ⟨e,rfl,⟨_,e,rfl⟩,call_meets F.slot_list_mul ⟨_,e,rfl⟩ F.entry_list_mul (F.args_list_mul_2 _ _) (AutoListH.list___mul___list_int_3 l its.toArray n k t hfit hcap hlong) ⟨e,?_⟩⟩)
 rw [hnew]
 exact ⟨.ref _,_,I.lnew (t':=s.toks) (r.rep k.toNat) (by rw [len_rep,Nat.mul_comm];exact hz),rfl,q _ I.fresh⟩
end
end L2
namespace Att
open PySem PySem.W PySem.Calls PyProof.Rows
theorem uF {P:Params} {h:Heap}:∀ (ns:List Int) (vs:List Value),WellAll P h vs (ns.map WData.int)->IntsAre vs ns:=by
 intro ns
 induction ns with
 | nil=>
  intro vs w
  rw [List.map_nil] at w
  cases w
  exact .nil
 | cons n ns ih=>
  intro vs w
  rw [Yu] at w
  cases w with
  | cons a b=>
   cases a
   exact .cons _ _ (ih _ b)
theorem Gp {l:OpenLaw} {n:Nat} (hn:l.most=some n) {P:Params} {h:Heap} {args:List WData} {vals:List Value}
  (hpre:l.row.toRowW.claim.pre args=true) (hwl:WellAll P h vals args):
  ∃ a vs ns,vals=[Value.ref a]/\args=[WData.list (ns.map WData.int)]/\h.get? a=some {cls:=.type "list",data:=.seq vs.toArray}/\IntsAre vs ns/\ns.length<=n:=by
 have hsh:WShape.hasAll [] args [.list .int]=true:=(pre_splitW hpre).1
 have hc:l.pre.holds [] {args:=args}=true:=(pre_splitW hpre).2
 obtain ⟨d,r,rfl,h1,h2⟩:=hasAllW_cons hsh
 obtain rfl:=hasAllW_nil h2
 obtain ⟨xs,rfl,h3⟩:=hasW_list h1
 obtain ⟨ns,rfl⟩:=items_int h3
 have hlen:ns.length<=n:=by
  unfold OpenLaw.pre at hc
  have h4:(WTm.not (.lt (.lit (.int (n:Int))) (.len (.arg 0)))).holds [] {args:=[.list (ns.map .int)]}=true:=by
   have h4:=(holds_andW hc).1
   rw [hn] at h4
   exact h4
  have h5:=condW_of h4 (w_not (w_lt w_lit (w_len_list (w_arg rfl))))
  rw [X4] at h5
  refine Nat.le_of_not_lt fun q=>?_
  have q':(n:Int) < ((ns.length:Nat):Int):=by omega
  first
   | (rw [XF q'] at h5;exact absurd h5 (by decide))
   | (simp at h5;omega)
 cases hwl with
 | cons w1 w2=>
  cases w2
  cases w1 with
  | list ho hall=>exact ⟨_,_,ns,rfl,rfl,ho,uF ns _ hall,hlen⟩
theorem Gq (l:OpenLaw) (args:List WData):l.row.toRowW.claim.post args (.bool true) args=true:=
 postW_of (r:=l.row.toRowW) (X:=(true == true))
  (show WShape.has [] (.bool true) .bool=true by first | rfl | decide | simp [WShape.has,WShape.arms,WShape.armsAll])
  (show (WTm.eq .res (.lit (.bool true))).value [] {args:=args,res:=some (.bool true),after:=args}=some (.bool (true == true)) from w_eq_bool (w_res rfl) w_lit) rfl
theorem attach_call {l:OpenLaw} {n:Nat} {q:Program} {loose:List Str} {XP:(Str->Option Value)->Heap->Prop} {YP:World->Heap->Prop} {d:DefRec}
  (hn:l.most=some n) (hdf:d.params.defaults=[])
  (call:∀ (w:World) (s₀ s₁:Shared) (mg mb:Str->Option Value) (fa:Addr) (o:Obj) (pm cd doc:Value) (a:Addr) (vs:List Value) (ns:List Int),
   Ground q loose [] XP w s₀ mg mb s₁.heap->YP w s₁.heap->
   s₁.heap.get? fa=some o->o.data= .func (docDef d.name d.params d.body d.scope pm cd doc)->s₁.heap.CodeRec cd d.name->mg d.name=some (.ref fa)->
   s₁.heap.get? a=some {cls:=.type "list",data:=.seq vs.toArray}->IntsAre vs ns->ns.length<=n->s₁.gens= #[]->
   codeAny (model l.prog w) callerA (.call (.ref fa) ⟨[.ref a],[]⟩) (fun r s'=>r= .ok (.ret (.bool true))/\OldK s₁.heap s'.heap/\s'.os=s₁.os/\AllBare s'.gens) s₁):
  WalkO q loose XP YP l.row.toRowW d [] (fun f vs=>PySem.call f vs):=by
 intro w s₀ s₁ mg mb G Y fa o pm cd doc dV kV ho hd hcd hD hmg hg args vals as hpre hlay hrd hwl hlo
 obtain rfl:dV= .none:=Dflts.none hD hdf
 obtain rfl:kV= .none:=Dflts.noKw hD
 obtain ⟨a,vs,ns,rfl,rfl,hobj,hints,hlen⟩:=Gp hn hpre hwl
 refine enter_call (codeAny_mono (call w s₀ s₁ mg mb fa o pm cd doc a vs ns G Y ho (fd_plain hd) hcd hmg hobj hints hlen hg) fun r s' hq=>?_)
 obtain ⟨rfl,h2,h3,h4⟩:=hq
 exact ⟨.inl ⟨.bool true,.bool true,[],rfl,fun _=>rfl,.bool true,Gq l _,fun _=>⟨List.Pairwise.nil,fun _ hm=>(nomatch hm)⟩⟩,h2,h3,h4⟩
end Att
namespace L2
open PySem PySem.Spec PyProof.Rows
theorem xF:∀ {vs:List Value} {ns:List Int},IntsAre vs ns->Vals (ns.map V.int) vs
 | _,_,.nil=>.nil
 | _,_,.cons n t h=>.cons ⟨t,rfl⟩ (xF h)
def Only (H:Hp):Prop:=∀ b,H b=none\/∃ o xs,H b=some (.frz o (.lst xs))
theorem Jk {P:Program} {w:World} {K:W.Frag} {mg mb:Str->Option Value} {CX:Gj} {k:Nat} {fa a:Addr} {fd:FuncData} {x:Str} {sp:Sp} {s₁:Shared} {vs:List Value} {ns:List Int}
  (KX:K.In s₁.heap) (hns:s₁.heap.Ns mainGlobals mg) (hb:s₁.heap.Ns builtinsNs mb) (hbb:∀ x:Str,x≠"__name__"->mb x=bootBuiltins x) (hlim:s₁.heap.NoLimit) (hsm:∃ mm,s₁.heap.Ns sysModules mm) (hbm:∃ bm ob,mg "__builtins__"=some (.ref bm)/\bm≠builtinsNs/\s₁.heap.get? bm=some ob/\ob.cls= .type "module"/\ob.dict=some builtinsNs/\ob.data= .plain) (hg:s₁.gens= #[])
  (ha:s₁.heap.get? a=some {cls:=.type "list",data:=.seq vs.toArray}) (hi:IntsAre vs ns) (hl:ns.length<=sizeLine) (hr:Room k callerA)
  (F:∀ base:Heap,K.In base->base.Ns mainGlobals mg->FnOk P w K mg base CX k fa fd [x] sp) (hbind:∀ (s:Shared) (u:Value),BindsTo s fd ⟨[u],[]⟩ [(x,u)])
  (hsp:∀ H:Hp,Only H->SqL K H a (ns.map V.int)->sp [.ref a] H (fun v _=>v= .bl true) fun _ _ _=>False)
  (hCX:∀ H e s',CX [] H s₁ (fun _ _ _=>False) e s'->False):
  codeAny (model P w) callerA (.call (.ref fa) ⟨[.ref a],[]⟩) (fun r s'=>r= .ok (.ret (.bool true))/\OldK s₁.heap s'.heap/\s'.os=s₁.os/\AllBare s'.gens) s₁:=by
 have rv:=xF hi
 have lenV:=hi.length
 have core:∀ H:Hp,Only H->SqL K H a (ns.map V.int)->HOk P w H s₁.heap->(∀ b,H b≠none->b=a)->(H a≠none->K.lookup a=none)->
   codeAny (model P w) callerA (.call (.ref fa) ⟨[.ref a],[]⟩) (fun r s'=>r= .ok (.ret (.bool true))/\OldK s₁.heap s'.heap/\s'.os=s₁.os/\AllBare s'.gens) s₁:=by
  intro H hO hS hok hA hK
  have base_of:∀ {b:Addr} {o:Obj},s₁.heap.get? b=some o->H b=none->(yq s₁.heap H).get? b=some o:=fun e n=>HW e n
  have noA:∀ {b:Addr} {o:Obj} {es:Array DictEntry} {ep:Nat},s₁.heap.get? b=some o->o.data= .dict es ep->H b=none:=fun {b o es ep} e d=>by
   cases q:H b with
   | none=>rfl
   | some u=>
    have e':b=a:=hA b (by rw [q];simp)
    subst e'
    rw [ha] at e;cases e
    have d':Data.seq vs.toArray _=Data.dict es ep:=d
    cases d'
  have noM:∀ {b:Addr} {o:Obj},s₁.heap.get? b=some o->o.cls= .type "module"->H b=none:=fun {b o} e d=>by
   cases q:H b with
   | none=>rfl
   | some u=>
    have e':b=a:=hA b (by rw [q];simp)
    subst e'
    rw [ha] at e;cases e
    exact absurd (show (Value.type "list":Value)= .type "module" from d) (fun z=>absurd (Value.type.inj z) (by decide))
  have nsK:∀ {b:Addr} {m:Str->Option Value},s₁.heap.Ns b m->(yq s₁.heap H).Ns b m:=fun {b m} ⟨o,es,ep,e,d,r⟩=>⟨o,es,ep,base_of e (noA e d),d,r⟩
  have hKb:K.In (yq s₁.heap H):=fun b o e=>base_of (KX b o e) (by
   cases q:H b with
   | none=>rfl
   | some u=>
    have e':b=a:=hA b (by rw [q];simp)
    subst e'
    rw [hK (by rw [q];simp)] at e;cases e)
  have hM:Mod K mg (yq s₁.heap H):=⟨hKb,nsK hns,⟨mb,nsK hb,hbb⟩,(let ⟨mc,h1,h2⟩:=hlim;⟨mc,nsK h1,h2⟩),(let ⟨mm,h1⟩:=hsm;⟨mm,nsK h1⟩),let ⟨bm,ob,b1,b2,b3,b4,b5⟩:=hbm;⟨bm,ob,b1,b2,base_of b3 (noM b3 b4),b4,b5⟩⟩
  have e0:Env0 P w K mg (yq s₁.heap H) callerA [] s₁ H:=⟨rfl,hM,fun b o e=>Mi e,Nat.le_of_eq (Ga _ _),trivial,fun b hb=>absurd (show b∈([]:List Addr) from hb) (by simp),hok,.of_eq hg⟩
  refine codeAny_mono ((F _ hKb (nsK hns)).run callerA [] s₁ H ⟨[.ref a],[]⟩ [.ref a] [.ref a] _ _ hr e0 (hbind s₁ (.ref a)) (.cons rfl .nil) (hsp H hO hS)) fun r s' h=>?_
  cases r with
  | error e=>exact (hCX H e s' h).elim
  | ok fl=>
   cases fl with
   | next=>exact False.elim h
   | brk=>exact False.elim h
   | cont=>exact False.elim h
   | ret u=>
    obtain ⟨v,H',os,bare,un,hok',r',q⟩:=h
    have q':v= .bl true:=q
    subst q'
    obtain rfl:u=Value.bool true:=r'
    refine ⟨rfl,OldK.of_keep fun b o e=>?_,os,bare⟩
    cases q:H b with
    | none=>exact un.keep b o e q (by intro z;exact absurd (show b∈([]:List Addr) from z) (by simp)) (by simp)
    | some u=>
     rcases hO b with z | ⟨ob,xs,z⟩
     ·rw [q] at z;cases z
     ·have z2:=un.frzs b ob _ z
      obtain ⟨e1,_⟩:=hok b _ z
      obtain ⟨e2,_⟩:=hok' b _ z2
      rw [e] at e1;cases e1
      exact e2
 cases hk:K.lookup a with
 | some o=>
  have e:=KX a o hk
  rw [ha] at e
  cases e
  refine core (fun _=>none) (fun _=>.inl rfl) (.inr ⟨_,vs.toArray,_,hk,rfl,rfl,rfl,by rw [Xv,lenV];exact hl,by simpa using rv⟩) (fun b u z=>by have z':(none:Option HO)=some u:=z;cases z') (fun b z=>absurd rfl z) fun z=>absurd rfl z
 | none=>
  refine core (fun b=>if b=a then some (.frz {cls:=.type "list",data:=.seq vs.toArray} (.lst (ns.map V.int))) else none) (fun b=>?_) (.inl (.inr ⟨{cls:=.type "list",data:=.seq vs.toArray},if_pos rfl⟩)) (fun b u z=>?_) (fun b z=>?_) fun _=>hk
  ·by_cases hb:b=a
   ·exact .inr ⟨_,_,if_pos hb⟩
   ·exact .inl (if_neg hb)
  ·by_cases hb:b=a
   ·have z':=(if_pos hb).symm.trans z
    cases z'
    subst hb
    exact ⟨ha,by rw [X4];exact hl,vs,_,rv,ha⟩
   ·have z':=(if_neg hb).symm.trans z
    cases z'
  ·by_cases hb:b=a
   ·exact hb
   ·exact absurd (if_neg hb) z
abbrev KOf {K:W.Frag} {h:Heap} (_:K.In h):W.Frag:=K
theorem Nm {l:PySem.W.OpenLaw} {n k:Nat} {q:Program} {loose:List Str} {XP:(Str->Option Value)->Heap->Prop} {YP:World->Heap->Prop} {d:DefRec} {K:Params->W.Frag} {CX:World->Gj} {sp:World->Sp} {x:Str}
  (hn:l.most=some n) (hn2:n<=sizeLine) (hdf:d.params.defaults=[]) (hr:Room k callerA)
  (hY:∀ (w:World) (h:Heap),YP w h->(K w.params).In h)
  (F:∀ (w:World) (mg:Str->Option Value) (fa:Addr) (h:Heap),(K w.params).In h->h.Ns mainGlobals mg->mg d.name=some (.ref fa)->
   ∃ fd:FuncData,(∀ (s:Shared) (u:Value),BindsTo s fd ⟨[u],[]⟩ [(x,u)])/\
    ∀ base:Heap,(K w.params).In base->base.Ns mainGlobals mg->FnOk l.prog w (K w.params) mg base (CX w) k fa fd [x] (sp w))
  (hsp:∀ (w:World) (H:Hp) (a:Addr) (ns:List Int),ns.length<=n->Only H->SqL (K w.params) H a (ns.map V.int)->sp w [.ref a] H (fun v _=>v= .bl true) fun _ _ _=>False)
  (hCX:∀ (w:World) (H:Hp) (s:Shared) (e:Value) (s':Shared),CX w [] H s (fun _ _ _=>False) e s'->False) (him:importsNone q=true):
  PySem.W.WalkO q loose XP YP l.row.toRowW d [] (fun f vs=>PySem.call f vs):=by
 refine Att.attach_call hn hdf fun w s₀ s₁ mg mb fa o pm cd doc a vs ns G Y ho hd hcd hmg hobj hints hlen hg=>?_
 have KX:=hY w _ Y
 obtain ⟨fd,hb,hF⟩:=F w mg fa _ KX G.T.g hmg
 exact Jk KX G.T.g G.T.b G.T.builtins G.T.nolimit (let ⟨mm,h1,_⟩:=(G.T.seer him).mods;⟨mm,h1⟩) G.T.bmain hg hobj hints (XQ hlen hn2) hr hF hb (fun H hO hS=>hsp w H a ns hlen hO hS) fun H e s'=>hCX w H s₁ e s'
def dZ (s:Stmt):Arguments:=match s with
 | .FunctionDef _ a _ _ _ _ _ _ _ _=>a
 | _=>{posonlyargs:=[],args:=[],vararg:=none,kwonlyargs:=[],kw_defaults:=[],kwarg:=none,defaults:=[]}
def bI (s:Stmt):List Stmt:=match s with
 | .FunctionDef _ _ b _ _ _ _ _ _ _=>b
 | _=>[]
def aB (s:Stmt):Scope:=match s with
 | .FunctionDef _ _ _ _ _ _ sc _ _ _=>sc
 | _=>{kind:=.function,names:=[],isGenerator:=false,isCoroutine:=false}
abbrev Gr:Gj:=fun _ _ _ _ _ _=>False
abbrev E0:XK:=fun _ _ _=>False
theorem VJ {X:Cx}:Cg Gr X E0:=fun _ _ _ _ _ _ _ h=>h.elim
structure Fun (K:W.Frag) (x qual:Str) (st:Stmt) (f:Addr) (fd:FuncData):Prop where
 ex:∃ (oc:Value) (od:Option Addr) (kV doc pm:Value) (an:Option Addr) (cdv ct:Value) (osl:Array (Option Value)),
  fd=PySem.W.fnOf x qual (dZ st) (bI st) (aB st) .none kV doc pm an cdv ct/\K.lookup f=some ⟨oc,od,.func fd,osl⟩/\PySem.W.codeIn K cdv qual=true
 kp:PySem.W.keepIn K (.ref f)=true
section
variable {P:Program} {w:World} {K:W.Frag} {mg:Str->Option Value} {base:Heap}
theorem Fun.ok {x qual:Str} {st:Stmt} {f:Addr} {fd:FuncData} {N ps:List Str} {k:Nat} {sp:Sp} (F:Fun K x qual st f fd) (S:aF N ps (aB st)) (len:∀ vs H Q E,sp vs H Q E->vs.length=ps.length)
  (hbody:∀ (cdv:Value) (A:Around) (outer:List Env) (s:Shared) (H:Hp) (vs:List V) (Q:VK) (E:XK),Room k (A.deeper (envOfC qual (aB st) s.heap.objs.size f cdv))->sp vs H Q E->
   ∃ t,PSs (oV Gr P w K mg base N qual (aB st) f cdv A outer s H E).nox (bI st) t/\t {nx:=fun _ H'=>Q .non H',rt:=Q} (start N vs) H):FnOk P w K mg base Gr (k+1) f fd ps sp:=by
 obtain ⟨oc,od,kV,doc,pm,an,cdv,ct,osl,rfl,lk,hcd⟩:=F.ex
 refine zN lk hcd S len fun A outer s H vs Q E hr hsp=>?_
 obtain ⟨t,h,q⟩:=hbody cdv A outer s H vs Q E hr hsp
 exact ⟨t,h.nox,q⟩
theorem Fun.binds {x qual:Str} {st:Stmt} {f:Addr} {fd:FuncData} {ps:List Str} (F:Fun K x qual st f fd)
  (h:∀ (kV doc pm:Value) (an:Option Addr) (cdv ct:Value) (us:List Value),us.length=ps.length->bindArgs (PySem.W.fnOf x qual (dZ st) (bI st) (aB st) .none kV doc pm an cdv ct) ⟨us,[]⟩=pure (ps.zip us)):Binds K fd ps []:=by
 obtain ⟨oc,od,kV,doc,pm,an,cdv,ct,osl,rfl,lk,hcd⟩:=F.ex
 exact .all (h kV doc pm an cdv ct)
theorem vq {x qual:Str} {st:Stmt} {f:Addr} {oc:Value} {od an:Option Addr} {osl:Array (Option Value)} {kV doc pm cdv ct:Value} (l:K.lookup f=some ⟨oc,od,.func (PySem.W.fnOf x qual (dZ st) (bI st) (aB st) .none kV doc pm an cdv ct),osl⟩)
  (c:PySem.W.codeIn K cdv qual=true) (k:PySem.W.keepIn K (.ref f)=true):Fun K x qual st f (PySem.W.fnOf x qual (dZ st) (bI st) (aB st) .none kV doc pm an cdv ct):=⟨⟨oc,od,kV,doc,pm,an,cdv,ct,osl,rfl,l,c⟩,k⟩
end
theorem jF {A B:Prop} (h:B):if false=true then A else B:=by
 rw [if_neg Xq]
 exact h
theorem jM {A B:Prop} (h:A):if true=true then A else B:=by
 rw [if_pos rfl]
 exact h
def Same (H H':Hp):Prop:=∀ b o,H b=some o->H' b=some o
theorem Same.refl (H:Hp):Same H H:=fun _ _ h=>h
theorem Same.trans {H H1 H2:Hp} (a:Same H H1) (b:Same H1 H2):Same H H2:=fun c o h=>b c o (a c o h)
theorem Same.seq {K:W.Frag} {H H':Hp} {a:Addr} {xs:List V} (e:Same H H') (h:SqL K H a xs):SqL K H' a xs:=by
 rcases h with (h | ⟨o,h⟩) | h
 ·exact .inl (.inl (e _ _ h))
 ·exact .inl (.inr ⟨o,e _ _ h⟩)
 ·exact .inr h
end L2
set_option maxHeartbeats 4000000
namespace L2
open PySem PySem.Spec PyProof.Rows
def uG (env:Env):List (Str×NameKind)->List (Str×Addr)->List (Str×Addr)
 | [],acc=>acc
 | (n,k) :: r,acc=>uG env r (if k == .free then (match env.cells.lookup n with | some c=>(n,c) :: acc | none=>acc) else acc)
theorem vy {env:Env}:∀ {names:List (Str×NameKind)} {acc:List (Str×Addr)},(∀ x c,(x,c)∈acc->env.cells.lookup x=some c)->∀ x c,(x,c)∈uG env names acc->env.cells.lookup x=some c
 | [],_,h,x,c,m=>h x c m
 | (n,k) :: r,acc,h,x,c,m=>by
  refine vy (names:=r) ?_ x c m
  intro y d hm
  cases hk:(k == NameKind.free) with
  | false=>rw [hk] at hm;exact h y d hm
  | true=>
   rw [hk] at hm
   simp only [if_true] at hm
   cases e:env.cells.lookup n with
   | none=>rw [e] at hm;exact h y d hm
   | some c'=>
    rw [e] at hm
    rcases Xr.mp hm with z | z
    ·cases z;exact e
    ·exact h y d z
theorem zQ {env:Env}:∀ {names:List (Str×NameKind)} {acc:List (Str×Addr)} {p:Str×Addr},p∈acc->p∈uG env names acc
 | [],_,_,h=>h
 | (n,k) :: r,acc,p,h=>by
  refine zQ (names:=r) ?_
  split
  ·split
   ·exact Xw _ h
   ·exact h
  ·exact h
theorem vz {env:Env} {x:Str} {c:Addr} (e:env.cells.lookup x=some c):∀ {names:List (Str×NameKind)} {acc:List (Str×Addr)},(x,NameKind.free)∈names->(x,c)∈uG env names acc
 | [],_,h=>by simp at h
 | (n,k) :: r,acc,h=>by
  rcases Xr.mp h with z | z
  ·cases z
   refine zQ (names:=r) ?_
   rw [e]
   simp
  ·exact vz e (names:=r) z
theorem wH {l:List (Str×Addr)} {x:Str} {c:Addr} (hm:(x,c)∈l) (ha:∀ d,(x,d)∈l->d=c):l.lookup x=some c:=by
 induction l with
 | nil=>simp at hm
 | cons p r ih=>
  obtain ⟨n,d⟩:=p
  by_cases e:x=n
  ·subst e
   have:d=c:=ha d (by simp)
   subst this
   simp [Yc]
  ·have hb:(x == n)=false:=by simpa using e
   rw [Yc,hb]
   refine ih ?_ fun d' h'=>ha d' (Xw _ h')
   rcases Xr.mp hm with z | z
   ·cases z;exact absurd rfl e
   ·exact z
theorem zR {env:Env} {names:List (Str×NameKind)} {x:Str} {c:Addr} (e:env.cells.lookup x=some c) (h:(x,NameKind.free)∈names):(uG env names []).lookup x=some c:=
 wH (vz e h) fun d hd=>by
  have q:=vy (names:=names) (acc:=[]) (env:=env) (by simp) x d hd
  rw [e] at q
  exact (Ye q).symm
theorem Gs {env:Env} {names:List (Str×NameKind)} {x:Str} {c:Addr} (e:(uG env names []).lookup x=some c):env.cells.lookup x=some c:=
 vy (names:=names) (acc:=[]) (env:=env) (by simp) x c (Yq e)
theorem qL {env:Env}:∀ (names:List (Str×NameKind)) (acc:List (Str×Addr)),(∀ x∈names,x.2=NameKind.free->∃ c,env.cells.lookup x.1=some c)->
  (forIn (m:=Sem) names acc fun x r=>match x with
   | (name,kind)=>if (kind == NameKind.free)=true then do let c ← cellOf env name;pure (ForInStep.yield ((name,c) :: r)) else pure (ForInStep.yield r))=pure (uG env names acc)
 | [],acc,_=>rfl
 | (n,k) :: r,acc,h=>by
  rw [List.forIn_cons]
  cases hk:(k == NameKind.free) with
  | false=>
   simp only [hk,Bool.false_eq_true,if_false,pure_bind,uG]
   exact qL r acc fun x hx=>h x (Xw _ hx)
  | true=>
   obtain ⟨c,e⟩:=h (n,k) XR (by simpa using hk)
   simp only [hk,if_true,pure_bind,uG,cellOf,e]
   exact qL r ((n,c) :: acc) fun x hx=>h x (Xw _ hx)
theorem qC {scope:Scope} {env:Env} (h:∀ x∈scope.names,x.2=NameKind.free->∃ c,env.cells.lookup x.1=some c):closureFor scope env=pure (uG env scope.names []):=by
 unfold closureFor
 have:=qL (env:=env) scope.names [] h
 simp only [this,pure_bind]
theorem xG {prog:Program} {w:World} {A:Around} {R:Result->Shared->Prop} {s:Shared} {elt target iter:Expr} {ifs:List Expr} {scope:Scope} {pos:Pos} {it acc:Value} {env:Env} (I:Nat->Shared->Prop)
  (turn:∀ n s,I n s->wpAny (model prog w) A (pyNext it) (fun r s₁=>match r with
   | none=>R (.ok .next) s₁
   | some v=>wpAny (model prog w) A (letOwnedTupleGo target it v) (fun _ s₁'=>wpAny (model prog w) A (assign target env v) (fun _ s₂=>
     wpAny (model prog w) A (forIn ifs true fun c r=>if r=true then do let ok ← isTrue c env (eval c env);pure (ForInStep.yield ok) else pure (ForInStep.yield r)) (fun ok s₃=>
      if ok=true then wpAny (model prog w) A (eval elt env) (fun x s₄=>
       wpAny (model prog w) A (call (.builtin "list.append") [acc,x]) (fun _ s₅=>∃ m,m < n/\I m s₅) (fun _ _=>False) s₄) (fun _ _=>False) s₃
      else ∃ m,m < n/\I m s₃) (fun _ _=>False) s₂) (fun _ _=>False) s₁') (fun _ _=>False) s₁) (fun _ _=>False) s)
  (n:Nat) (h:I n s):
  codeAny (model prog w) A (.compLoop (.ListComp elt [⟨target,iter,ifs,0⟩] scope pos) 0 it acc env) R s:=by
 refine codeAny_loop rfl I (fun n s hI=>?_) n h
 show wpAny _ A ((compTurn (.ListComp elt [⟨target,iter,ifs,0⟩] scope pos) 0 it acc env).onRaise (fun x=>do noteFrame x env;theTreesLotGoes x)) _ _ s
 refine wpAny_noted ?_
 rw [compTurn_list]
 refine Xi (Z8 (Xi (X5 (turn n s hI) (fun r s₁ h₁=>?_) fun _ _ h'=>h'.elim)))
 cases r with
 | none=>exact Xl h₁
 | some v=>
  refine Xi (X5 h₁ (fun _ s₁' h₁'=>?_) fun _ _ h'=>h'.elim)
  refine Xi (X5 h₁' (fun _ s₂ h₂=>Xi (X5 h₂ (fun ok s₃ h₃=>?_) fun _ _ h'=>h'.elim)) fun _ _ h'=>h'.elim)
  cases ok with
  | false=>exact Xl ⟨rfl,h₃⟩
  | true=>
   exact Xi (Xi (X5 h₃ (fun x s₄ h₄=>Xi (X5 h₄ (fun _ s₅ h₅=>Xl (Xl ⟨rfl,h₅⟩)) fun _ _ h'=>h'.elim)) fun _ _ h'=>h'.elim))
theorem eN:∀ (names:List (Str×NameKind)) (n:Nat) (acc:List (Str×Addr)),cellsFrom n names acc=cellsFrom n names [] ++ acc
 | [],_,_=>rfl
 | (x,k) :: r,n,acc=>by
  unfold cellsFrom
  split
  ·rw [eN r (n+1) ((x,n) :: acc),eN r (n+1) [(x,n)],ZR];rfl
  ·exact eN r n acc
theorem rF {α:Type}:∀ {A B:List (Str×α)} {x:Str},(A ++ B).lookup x=(match A.lookup x with | some c=>some c | none=>B.lookup x)
 | [],_,_=>rfl
 | (y,c) :: A,B,x=>by
  rw [Z4,Yc,Yc]
  cases x == y with
  | true=>rfl
  | false=>exact rF (A:=A)
theorem vA:∀ {names:List (Str×NameKind)} {n:Nat} {acc:List (Str×Addr)} {x:Str} {c:Addr},(x,c)∈cellsFrom n names acc->(x,c)∈acc\/(x,NameKind.cell)∈names
 | [],_,_,_,_,h=>.inl h
 | (y,k) :: r,n,acc,x,c,h=>by
  unfold cellsFrom at h
  split at h
  ·rename_i hk
   rcases vA h with z | z
   ·rcases Xr.mp z with z | z
    ·cases z
     have:k= .cell:=by simpa using hk
     rw [this];exact .inr XR
    ·exact .inl z
   ·exact .inr (Xw _ z)
  ·exact (vA h).imp id (Xw _)
theorem rG {α:Type}:∀ {l:List (Str×α)} {x:Str} {c:α},(x,c)∈l->∃ d,l.lookup x=some d
 | (y,d) :: r,x,c,h=>by
  by_cases e:x=y
  ·subst e;exact ⟨d,by simp [Yc]⟩
  ·have hb:(x == y)=false:=by simpa using e
   rw [Yc,hb]
   rcases Xr.mp h with z | z
   ·cases z;exact absurd rfl e
   ·exact rG z
theorem rH:∀ {names:List (Str×NameKind)} {n:Nat} {acc:List (Str×Addr)} {x:Str},(x,NameKind.cell)∈names\/(∃ c,(x,c)∈acc)->∃ c,(x,c)∈cellsFrom n names acc
 | [],_,_,_,h=>h.elim (fun h=>by simp at h) id
 | (y,k) :: r,n,acc,x,h=>by
  unfold cellsFrom
  split
  ·refine rH ?_
   rcases h with h | ⟨c,h⟩
   ·rcases Xr.mp h with z | z
    ·cases z;exact .inr ⟨n,XR⟩
    ·exact .inl z
   ·exact .inr ⟨c,Xw _ h⟩
  ·rename_i hk
   refine rH ?_
   rcases h with h | h
   ·rcases Xr.mp h with z | z
    ·cases z;exact absurd (by decide) hk
    ·exact .inl z
   ·exact .inr h
def Gu (X:Cx) (scope:Scope) (C:Addr):List (Str×Addr):=cellsFrom (C+1) scope.names (uG X.env scope.names [])
section
variable {M:Model} {A:Around} {E:Value->Shared->Prop} {s:Shared}
theorem iM {scope:Scope} {globals:Addr} {cl:List (Str×Addr)} {qual:Str} {env:Env} {Q:Env->Shared->Prop}
  (hQ:∀ h':Heap,h'.Ns s.heap.objs.size (fun _=>none)->(∀ b o,s.heap.get? b=some o->h'.get? b=some o)->CellsOk h' (s.heap.objs.size+1) (cellsFrom (s.heap.objs.size+1) scope.names [])->
   Q (newEnv scope s.heap.objs.size globals (cellsFrom (s.heap.objs.size+1) scope.names cl) qual none .none (some env) builtinsNs) {s with heap:=h',toks:=s.toks+([]:List (Str×Value)).length}):
  wpAny M A (newFunctionEnv scope globals cl [] qual none .none (some env)) Q E s:=by
 simp only [newFunctionEnv,Option.isSome_some,if_true]
 refine Xi (wpAny_alloc ?_)
 refine Xi (wpAny_layCells _ (fun name kind cells=>by cases hkc:kind == NameKind.cell <;> simp [hkc]) _ _ _ _ ?_)
 have ok:=cellsFrom_ok scope.names (s.heap.push {cls:=.type "dict",data:=.dict #[]}) (s.heap.objs.size+1) [] ⟨fun _ _ hm=>(nomatch hm),List.Pairwise.nil⟩ (by rw [Y4];exact Xo _)
 rw [Y4] at ok
 rw [show ({s with heap:=s.heap.push {cls:=.type "dict",data:=.dict #[]}}:Shared).heap.objs.size=s.heap.objs.size+1 from Y4 ..]
 exact Xi (Xl (Xl (hQ _ ((Heap.Ns.new s.heap (.type "dict")).keeps (pushCells_keeps _ _)) (fun b o e=>pushCells_keeps _ _ b o (Xn _ e)) ok)))
end
def qu (X:Cx) (N':List Str) (scope:Scope) (C:Addr) (s₀:Shared) (H₀:Hp) (ex:List Addr):Cx:=
 {X with N:=N',s₀:=s₀,H₀:=H₀,env:=compEnvC scope (Gu X scope C) C X.env,outer:=X.stack,ex:=ex,fn:=fun x=>decide (scope.names.lookup x=some .cell),pn:=[],xe:=fun _ _=>False}
def dN (sub:List (Option Nat)) (U:St):St:=sub.map fun o=>o.bind fun j=>(U[j]?).join
structure ug (N:List Str) (sc:Scope) (N':List Str) (scope:Scope) (sub:List (Option Nat)):Prop where
 kind:scope.kind= .function
 cel:∀ x∈scope.names,x.2= .cell->scope.names.lookup x.1=some .cell
 loc:∀ x∈scope.names,x.2= .local->scope.names.lookup x.1=some .local
 free:∀ x∈scope.names,x.2= .free->sc.names.lookup x.1=some .cell\/sc.names.lookup x.1=some .free
 len:sub.length=N'.length
 at_:∀ (i j:Nat) (x:Str),sub[i]?=some (some j)->N'[i]?=some x->N[j]?=some x/\(x,NameKind.free)∈scope.names/\scope.names.lookup x=some .free
def Jl (N:List Str) (sc:Scope) (N':List Str) (scope:Scope) (sub:List (Option Nat)):Bool:=
 decide (scope.kind= .function) && scope.names.all (fun x=>decide (x.2= .cell->scope.names.lookup x.1=some .cell)) && scope.names.all (fun x=>decide (x.2= .local->scope.names.lookup x.1=some .local)) &&
 scope.names.all (fun x=>decide (x.2= .free->sc.names.lookup x.1=some .cell\/sc.names.lookup x.1=some .free)) && decide (sub.length=N'.length) &&
 (List.range sub.length).all fun i=>match sub[i]?,N'[i]? with
  | some (some j),some x=>decide (N[j]?=some x/\(x,NameKind.free)∈scope.names/\scope.names.lookup x=some .free)
  | _,_=>true
theorem gG {N:List Str} {sc:Scope} {N':List Str} {scope:Scope} {sub:List (Option Nat)} (h:Jl N sc N' scope sub=true):ug N sc N' scope sub:=by
 simp only [Jl,Xx,decide_eq_true_eq,YW] at h
 obtain ⟨⟨⟨⟨⟨h1,h2⟩,h3⟩,h4⟩,h5⟩,h6⟩:=h
 refine ⟨h1,h2,h3,h4,h5,fun i j x e1 e2=>?_⟩
 have hi:i < sub.length:=(Xm.mp e1).1
 have q:=h6 i (XJ.mpr hi)
 rw [e1,e2] at q
 simpa using q
def Jm:TT:=fun _ H Q=>Q true H
def zU (X:Cx) (ifs:List Expr) (t:TT):Prop:=
 ∀ (pins:List (Addr×Obj)) (s:Shared) (U:St) (H:Hp) (Q:Bool->Hp->Prop),Inv X pins U H s->t U H Q->
  wpAny (model X.prog X.w) X.A (forIn ifs true fun c r=>if r=true then do let ok ← isTrue c X.env (eval c X.env);pure (ForInStep.yield ok) else pure (ForInStep.yield r)) (TP X pins U Q) X.xe s
theorem Jo {X:Cx}:zU X [] Jm:=fun _ _ _ H _ I h=>wpAny_tests_nil ⟨H,I,h⟩
def KeepSt (U U':St):Prop:=U'.length=U.length/\∀ (i:Nat) (v:V),U[i]?=some (some v)->U'[i]?=some (some v)
theorem KeepSt.set {U:St} {i:Nat} {v:V} (h:U[i]?=some none):KeepSt U (U.set i (some v)):=by
 refine ⟨by simp,fun j u e=>?_⟩
 by_cases hj:i=j
 ·subst hj;rw [h] at e;cases e
 ·rw [XX hj];exact e
def vB (sub:List (Option Nat)) (wi:TI) (g:TG) (tt:TT) (te:TE):TE:=fun U H Q=>wi U H fun J H1=>∃ W:Nat->Nat->List V->Hp->Prop,(∃ m,W 0 m [] H1)/\∀ i m ys H,W i m ys H->
 (J.stop i H/\ys.length<=sizeLine/\∀ D,H D=none->Q (.ref D) (upd H D (.lst ys)))\/
 (J.go i H/\ys.length < sizeLine/\∃ N:List V->Hp->Prop,(∀ ys' H',N ys' H'->∃ m',m' < m/\W (i+1) m' ys' H')/\
  ∀ x H',J.yld i H x H'->g x (dN sub U) H' fun σ2 H2=>KeepSt (dN sub U) σ2/\tt σ2 H2 fun b H3=>if b=true then te σ2 H3 fun y H4=>N (ys ++ [y]) H4 else N ys H3)
theorem rJ {scope:Scope} {env:Env} {x:Str} (hx:scope.names.lookup x=some .free):(relabel scope env).names.lookup x=some .cell\/(relabel scope env).names.lookup x=some .free:=by
 have:∀ names:List (Str×NameKind),names.lookup x=some .free->
  (names.map fun (n,k)=>if (k == NameKind.free && env.scope.kind == .function && env.kindOf n == some .cell) then (n,NameKind.cell) else (n,k)).lookup x=some .cell\/
  (names.map fun (n,k)=>if (k == NameKind.free && env.scope.kind == .function && env.kindOf n == some .cell) then (n,NameKind.cell) else (n,k)).lookup x=some .free:=by
  intro names
  induction names with
  | nil=>intro h;simp at h
  | cons p r ih=>
   obtain ⟨n,k⟩:=p
   intro h
   by_cases e:x=n
   ·subst e
    have hk:k= .free:=by simpa [Yc] using h
    subst hk
    by_cases hc:((NameKind.free == NameKind.free && env.scope.kind == .function && env.kindOf x == some .cell)=true)
    ·left;simp only [Yu];rw [if_pos hc];simp [Yc]
    ·right;simp only [Yu];rw [if_neg hc];simp [Yc]
   ·have hb:(x == n)=false:=by simpa using e
    rw [Yc,hb] at h
    have q:=ih h
    simp only [Yu]
    split <;> (rw [Yc,hb];exact q)
 exact this scope.names hx
theorem yH {scope:Scope} {env:Env} {x:Str} (h:(relabel scope env).names.lookup x=some .cell\/(relabel scope env).names.lookup x=some .free):(x,NameKind.cell)∈scope.names\/(x,NameKind.free)∈scope.names:=by
 have key:∀ k,(k=NameKind.cell\/k=NameKind.free)->(relabel scope env).names.lookup x=some k->(x,NameKind.cell)∈scope.names\/(x,NameKind.free)∈scope.names:=by
  intro k hk hl
  have hm:=Yq hl
  unfold relabel at hm
  obtain ⟨⟨n,k'⟩,hm1,hm2⟩:=Yh.mp hm
  dsimp only at hm2
  by_cases hc:(k' == NameKind.free && env.scope.kind == .function && env.kindOf n == some .cell)=true
  ·rw [if_pos hc] at hm2
   cases hm2
   simp only [Xx,Y8] at hc
   rw [← hc.1.1];exact .inr hm1
  ·rw [if_neg hc] at hm2
   cases hm2
   rcases hk with hk | hk
   ·subst hk;exact .inl hm1
   ·subst hk;exact .inr hm1
 rcases h with h | h
 ·exact key _ (.inl rfl) h
 ·exact key _ (.inr rfl) h
section
variable {X:Cx} {tg iter elt:Expr} {ifs:List Expr} {scope:Scope} {pos:Pos} {N':List Str} {sub:List (Option Nat)} {wi:TI} {g:TG} {tt:TT} {te:TE}
theorem xH {pins:List (Addr×Obj)} {U:St} {H:Hp} {s:Shared} {fp:List Addr} {D:Addr} {h':Heap} {tk:Nat} {N:List Str} {sc:Scope} (S:ug N sc N' scope sub) (hN:X.N=N) (hsc:X.env.scope=sc) (I:Inv X pins U H s) (hf:∀ b∈fp,mR X pins H b) (hfo:∀ b∈fp,b < s.heap.objs.size)
  (hD:D < s.heap.objs.size) (fD:mR X pins H D) (hns:h'.Ns s.heap.objs.size fun _=>none) (hk:∀ b o,s.heap.get? b=some o->h'.get? b=some o) (hc:CellsOk h' (s.heap.objs.size+1) (cellsFrom (s.heap.objs.size+1) scope.names [])):
  Inv (qu X N' scope s.heap.objs.size s H (D :: fp)) [] (dN sub U) H {s with heap:=h',toks:=tk}:=by
 have hex:∀ b∈D :: fp,mR X pins H b/\b < s.heap.objs.size:=fun b hb=>by
  rcases Xr.mp hb with rfl | z
  ·exact ⟨fD,hD⟩
  ·exact ⟨hf b z,hfo b z⟩
 have spl:∀ {x c},(Gu X scope s.heap.objs.size).lookup x=some c->(h'.IsCell c none/\s.heap.objs.size+1<=c/\(x,c)∈cellsFrom (s.heap.objs.size+1) scope.names [])\/(X.env.cells.lookup x=some c/\∃ o,s.heap.get? c=some o):=fun {x c} h=>by
  unfold Gu at h
  rw [eN,rF] at h
  cases e:(cellsFrom (s.heap.objs.size+1) scope.names []).lookup x with
  | some d=>
   rw [e] at h
   cases h
   have m:=Yq e
   exact .inl ⟨(hc.empty _ _ m).1,(hc.empty _ _ m).2,m⟩
  | none=>
   rw [e] at h
   have z:=Gs h
   obtain ⟨v,o,ho,_⟩:=I.cell x c z
   exact .inr ⟨z,o,ho⟩
 have fre:∀ {x c},(x,NameKind.free)∈scope.names->scope.names.lookup x=some .free->X.env.cells.lookup x=some c->(Gu X scope s.heap.objs.size).lookup x=some c:=fun {x c} h1 h2 h3=>by
  unfold Gu
  rw [eN,rF]
  cases e:(cellsFrom (s.heap.objs.size+1) scope.names []).lookup x with
  | some d=>
   rcases vA (Yq e) with z | z
   ·cases z
   ·have:=S.cel _ z rfl
    rw [h2] at this;cases this
  | none=>exact zR h3 h1
 refine ⟨⟨I.ok.mod,S.kind,I.ok.glob,I.ok.blt,Xo _,fun x y c h1 h2=>?_,fun x hx=>?_,fun x c hx h=>?_,I.ok.hd,I.ok.frames,.inl rfl,fun b hb=>?_,I.bs,XQ I.ok.bsz I.sz,fun b o e hb=>?_,fun b hb=>?_,I.stack,I.stkFree⟩,
  rfl,I.bare,Un.kept hk,⟨_,hns,fun i x v h1 h2 h3=>?_⟩,fun x c h=>?_,I.hok.fresh (Xo _),fun x c h=>?_,fun p hp=>(nomatch hp),I.hok.kept hk,?_⟩
 ·rcases spl h1 with ⟨_,l1,m1⟩ | ⟨z1,o1,q1⟩ <;> rcases spl h2 with ⟨_,l2,m2⟩ | ⟨z2,o2,q2⟩
  ·exact PySem.name_of_addr hc.apart m1 m2
  ·exact absurd (Xy (Xp q2) (Zq l1)) (Yz _)
  ·exact absurd (Xy (Xp q1) (Zq l2)) (Yz _)
  ·exact I.ok.inj x y c z1 z2
 ·rcases yH hx with z | z
  ·obtain ⟨c,m⟩:=rH (n:=s.heap.objs.size+1) (acc:=uG X.env scope.names []) (.inl z)
   exact rG m
  ·obtain ⟨c,e⟩:=I.ok.has x (by have:=S.free _ z rfl;rw [← hsc] at this;exact this)
   show ∃ c,(Gu X scope s.heap.objs.size).lookup x=some c
   unfold Gu
   rw [eN]
   exact rG (c:=c) (Ym _ (vz e z))
 ·have hx':scope.names.lookup x=some .cell:=by simpa [qu] using hx
  rcases spl h with ⟨_,l,_⟩ | ⟨z,o,q⟩
  ·exact Zq l
  ·exfalso
   have m:(x,NameKind.cell)∈scope.names:=Yq hx'
   obtain ⟨d,md⟩:=rH (n:=s.heap.objs.size+1) (acc:=[]) (.inl m)
   obtain ⟨d',e'⟩:=rG md
   have h:(Gu X scope s.heap.objs.size).lookup x=some c:=h
   unfold Gu at h
   rw [eN,rF,e'] at h
   cases h
   exact absurd (Xy (Xp q) (Zq (hc.empty _ _ (Yq e')).2)) (Yz _)
 ·obtain ⟨⟨f0,f1,f2,f3,f4,f5⟩,hlt⟩:=hex b hb
  refine ⟨XN hlt,fun x c h=>?_⟩
  rcases spl h with ⟨_,l,_⟩ | ⟨z,_⟩
  ·exact fun z=>absurd (Xy hlt (Zq (z ▸ l))) (Yz _)
  ·exact f4 x c z
 ·obtain ⟨⟨f0,f1,f2,f3,f4,f5⟩,hlt⟩:=hex b hb
  rcases f3 with z | z
  ·exact I.ok.noex b o e z
  ·exact absurd (Xy (Xp (I.ok.bs b o e).1) z) (Yz _)
 ·obtain ⟨⟨f0,f1,f2,f3,f4,f5⟩,hlt⟩:=hex b hb
  intro z
  rcases Xr.mp (I.stkSub b z) with z | z
  ·exact f1 z
  ·exact f2 z
 ·have hs:∃ j,sub[i]?=some (some j)/\U[j]?=some (some v):=by
   unfold dN at h2
   rw [XH] at h2
   cases e:sub[i]? with
   | none=>rw [e] at h2;cases h2
   | some o=>
    rw [e] at h2
    cases o with
    | none=>cases h2
    | some j=>
     refine ⟨j,rfl,?_⟩
     have h3:(U[j]?).join=some v:=Ye h2
     cases e2:U[j]? with
     | none=>rw [e2] at h3;cases h3
     | some z=>rw [e2] at h3;cases z with
      | none=>cases h3
      | some z=>cases h3;rfl
  obtain ⟨j,e1,e2⟩:=hs
  obtain ⟨g1,g2,g3⟩:=S.at_ i j x e1 h1
  rw [← hN] at g1
  obtain ⟨m,hn,hl⟩:=I.loc
  have hkf:X.env.kindOf x=some .cell\/X.env.kindOf x=some .free:=by have:=S.free _ g2 rfl;rw [← hsc] at this;exact this
  have hvis:Vj X.env.scope x:=by
   rcases hkf with z | z
   ·exact .inr (.inl z)
   ·exact .inr (.inr z)
  obtain ⟨u,r,l⟩:=hl j x v g1 e2 hvis
  refine ⟨u,r,.inr ⟨rJ g3,?_⟩⟩
  rcases l with ⟨k,_⟩ | ⟨_,c,e,o,ho,hd⟩
  ·have k':X.env.kindOf x=some .local:=k
   rcases hkf with z | z <;> (rw [k'] at z;cases z)
  ·exact ⟨c,fre g2 g3 e,o,hk _ _ ho,hd⟩
 ·rcases spl h with ⟨z,_⟩ | ⟨z,_⟩
  ·exact ⟨_,z⟩
  ·obtain ⟨v,o,ho,hd⟩:=I.cell x c z
   exact ⟨v,o,hk _ _ ho,hd⟩
 ·rcases spl h with ⟨_,l,_⟩ | ⟨z,_⟩
  ·exact I.hok.fresh (Zq l)
  ·exact I.freeC x c z
 ·show (dN sub U).length=N'.length
  unfold dN
  rw [X4]
  exact S.len
theorem Eg {N:List Str} {sc:Scope} (S:ug N sc N' scope sub) (hc:X.calm=true) (hN:X.N=N) (hsc:X.env.scope=sc) (hi:PI X tg iter wi)
  (hg:∀ (C:Addr) (s₀:Shared) (H₀:Hp) (ex:List Addr),PG (qu X N' scope C s₀ H₀ ex) tg g)
  (ht:∀ (C:Addr) (s₀:Shared) (H₀:Hp) (ex:List Addr),zU (qu X N' scope C s₀ H₀ ex) ifs tt)
  (he:∀ (C:Addr) (s₀:Shared) (H₀:Hp) (ex:List Addr),PE (qu X N' scope C s₀ H₀ ex) elt te)
  (hs:autoParam (∀ x,foldedSetIterable iter X.env x=pure x) L2.auto3._auto_1):
  PE X (.ListComp elt [⟨tg,iter,ifs,0⟩] scope pos) (vB sub wi g tt te):=by
 intro pins s U H Q I h
 rw [eval_ListComp]
 have hcl:∀ x∈scope.names,x.2=NameKind.free->∃ c,X.env.cells.lookup x.1=some c:=fun x hx hk=>I.ok.has x.1 (by have:=S.free x hx hk;rw [← hsc] at this;exact this)
 refine wpAny_comprehension_free (use:=none) rfl hs (qC hcl) S.kind S.loc ?_
 refine d9 (hi pins s U H _ I h) fun v s1 h1=>d9 h1 fun itv s2 h2=>?_
 obtain ⟨it,fp,tn,J,H2,e,I2,T,st2,f2,W,⟨m0,w0⟩,turn⟩:=h2
 subst e
 refine YB (iM fun h₁ hns₁ hk31 hcl₁=>?_)
 dsimp only at hns₁ hk31 hcl₁ ⊢
 generalize hs3:({s2 with heap:=s2.heap.push {cls:=.type "list",dict:=none,data:=.seq ([]:List Value).toArray}}:Shared)=s3
 have e3:s2.heap.push {cls:=.type "list",dict:=none,data:=.seq ([]:List Value).toArray}=s3.heap:=by rw [← hs3]
 rw [e3] at hns₁ hk31 hcl₁ ⊢
 have hD3:s3.heap.get? s2.heap.objs.size=some {cls:=.type "list",dict:=none,data:=.seq ([]:List Value).toArray}:=by rw [← e3];exact Xu _ rfl
 have I3:Inv X pins U H2 s3:=by
  rw [← hs3]
  exact I2.kept (t':=s2.toks) fun b o e=>Xn _ e
 have k23:∀ b o,s2.heap.get? b=some o->s3.heap.get? b=some o:=fun b o e=>by rw [← e3];exact Xn _ e
 have hsz:s3.heap.objs.size=s2.heap.objs.size+1:=by rw [← e3,Y4]
 have hDn:H2 s2.heap.objs.size=none:=I2.hok.fresh (Xo _)
 have fD:mR X pins H2 s2.heap.objs.size:=I2.fpOk (Xo _) hDn
 have hfo:∀ b∈fp,b < s2.heap.objs.size:=fun b hb=>let ⟨o,e,_⟩:=T.obj _ _ st2 b hb;Xp e
 have hDfp:s2.heap.objs.size ∉ fp:=fun z=>absurd (hfo _ z) (Yz _)
 have I4:=xH (tk:=s3.toks+([]:List (Str×Value)).length) S hN hsc I3 f2 (fun b hb=>by rw [hsz];exact Nat.lt_succ_of_lt (hfo b hb)) (D:=s2.heap.objs.size) (by rw [hsz];exact Zx _) fD hns₁ hk31 hcl₁
 have stat:∀ {H':Hp} {ob:Obj},(∀ b∈fp,H' b=none)->∀ b∈fp,mR (qu X N' scope s3.heap.objs.size s3 H2 (s2.heap.objs.size :: fp)) [(s2.heap.objs.size,ob)] H' b:=fun {H' ob} hn b hb=>by
  obtain ⟨q1,q2⟩:=I4.ok.exf b (Xw _ hb)
  refine ⟨hn b hb,q1,I4.ok.exfs b (Xw _ hb),.inl (Xw _ hb),q2,fun p hp z=>?_⟩
  have hp':p=(s2.heap.objs.size,ob):=by simpa [qu] using hp
  subst hp'
  have z':s2.heap.objs.size=b:=z
  exact hDfp (by rw [z'];exact hb)
 generalize hXC:qu X N' scope s3.heap.objs.size s3 H2 (s2.heap.objs.size :: fp)=XC at I4 stat
 have eP:XC.prog=X.prog:=by rw [← hXC];rfl
 have eW:XC.w=X.w:=by rw [← hXC];rfl
 have eK:XC.K=X.K:=by rw [← hXC];rfl
 have eA:XC.A=X.A:=by rw [← hXC];rfl
 have eE:XC.env=compEnvC scope (Gu X scope s3.heap.objs.size) s3.heap.objs.size X.env:=by rw [← hXC];rfl
 have eC:XC.calm=true:=by rw [← hXC];exact hc
 have eX:XC.xe=fun _ _=>False:=by rw [← hXC];rfl
 have eH:XC.H₀=H2:=by rw [← hXC];rfl
 have eS:XC.s₀=s3:=by rw [← hXC];rfl
 have eF:XC.fs=frs X.stack:=by rw [← hXC];rfl
 have eEx:XC.ex=s2.heap.objs.size :: fp:=by rw [← hXC];rfl
 have ePn:XC.pn=[]:=by rw [← hXC];rfl
 have hgC:PG XC tg g:=by rw [← hXC];exact hg _ _ _ _
 have htC:zU XC ifs tt:=by rw [← hXC];exact ht _ _ _ _
 have heC:PE XC elt te:=by rw [← hXC];exact he _ _ _ _
 have pinD:∀ {U':St} {H':Hp} {s':Shared} {ob:Obj},Inv XC [] U' H' s'->H' s2.heap.objs.size=none->s'.heap.get? s2.heap.objs.size=some ob->(∀ v,ob.data≠.cell v)->Inv XC [(s2.heap.objs.size,ob)] U' H' s':=fun {U' H' s' ob} J hn hg hd=>
  J.pins_of fun p hp=>by
   have hp':p=(s2.heap.objs.size,ob):=by simpa using hp
   subst hp'
   refine ⟨hg,hn,(J.ok.exf _ (by rw [eEx];exact XR)).1,J.ok.exfs _ (by rw [eEx];exact XR),hd⟩
 have loop:codeAny (model X.prog X.w) X.A (.compLoop (.ListComp elt [⟨tg,iter,ifs,0⟩] scope pos) 0 (.ref it) (.ref s2.heap.objs.size) (compEnvC scope (Gu X scope s3.heap.objs.size) s3.heap.objs.size X.env))
   (compPost (model X.prog X.w) X.A X.xe none (EP X pins U Q) (.ref s2.heap.objs.size) s3.heap.objs.size) {s3 with heap:=h₁,toks:=s3.toks+([]:List (Str×Value)).length}:=by
  refine xG (fun n s'=>∃ (i:Nat) (ys:List V) (its:List Value) (nn:Nat) (H':Hp),Inv XC [] (dN sub U) H' s'/\tn i s'.heap/\(∀ b∈fp,H' b=none)/\H' s2.heap.objs.size=none/\
   s'.heap.get? s2.heap.objs.size=some {cls:=.type "list",data:=.seq its.toArray nn}/\Vals ys its/\W i n ys H') ?_ m0
   ⟨0,[],[],_,H2,I4,T.keep _ _ _ st2 fun b _ o e=>hk31 b o (k23 b o e),fun b hb=>(f2 b hb).1,hDn,hk31 _ _ hD3,.nil,w0⟩
  rintro n s4 ⟨i,ys,its,nn,H4,J4,st4,fr4,dn4,dg4,rv4,w4⟩
  have P4:=pinD J4 dn4 dg4 (fun v z=>by cases z)
  rcases turn i n ys H4 w4 with ⟨stop,hyl,qn⟩ | ⟨go,hyl,N,hN,step⟩
  ·have hdone:=T.done XC eP eW eK eC i _ s4 _ H4 (fun _ _=>False) P4 (stat fr4) st4 stop
   rw [eA] at hdone
   refine X5 hdone (fun r s5 ⟨hr,I5⟩=>?_) fun _ _ z=>z
   subst hr
   obtain ⟨m,hn,_⟩:=id I5.loc
   have hCe:XC.env.locals=s3.heap.objs.size:=by rw [eE];rfl
   rw [hCe] at hn
   refine ⟨m,hn,fun h6 hs6=>?_⟩
   have hDg:=(I5.pin (s2.heap.objs.size,_) (by rw [ePn];exact XR)).1
   have hDne:s2.heap.objs.size≠s3.heap.objs.size:=by rw [hsz];exact XN (Zx _)
   have hHC:H4 s3.heap.objs.size=none:=by have:=I5.free;rw [hCe] at this;exact this
   have k56:∀ b o,b≠s3.heap.objs.size->s5.heap.get? b=some o->h6.get? b=some o:=fun b o hb e=>hs6.extBut b o hb e
   have un:=I5.base
   rw [eF,eEx,eH,eS] at un
   have nC:∀ b o,s3.heap.get? b=some o->b≠s3.heap.objs.size:=fun b o e=>XN (Xp e)
   have hok6:HOk X.prog X.w (upd H4 s2.heap.objs.size (.lst ys)) h6:=by
    have h5:=I5.hok
    rw [eP,eW] at h5
    have Mf:∀ b u,H4 b=some u->b≠s3.heap.objs.size:=fun b u e z=>by rw [z,hHC] at e;cases e
    intro b u e
    by_cases hb:b=s2.heap.objs.size
    ·subst hb
     rw [aj] at e;cases e
     exact ⟨hyl,its,nn,rv4,k56 _ _ hDne hDg⟩
    ·rw [aD hb] at e
     have nD:∀ c u,H4 c=some u->c≠s2.heap.objs.size:=fun c u e z=>by rw [z,dn4] at e;cases e
     refine (h5 b u e).stay (fun c v hc' q=>k56 c v ?_ q) (fun c q=>by rw [aD (nD c _ q)];exact q) fun c xs q=>by rw [aD (nD c _ q)];exact q
     rcases hc' with z | z
     ·rw [z];exact Mf b u e
     ·exact Mf c _ z
   have nD2:∀ c u,H4 c=some u->c≠s2.heap.objs.size:=fun c u e z=>by rw [z,dn4] at e;cases e
   have un6:Un (frs X.stack) (s2.heap.objs.size :: fp) H2 (upd H4 s2.heap.objs.size (.lst ys)) s3.heap h6:=
    ⟨fun b o e nn' hb hx=>k56 b o (nC b o e) (un.keep b o e nn' hb hx),fun b o e nn' hb hx=>let ⟨sl,q⟩:=un.slot b o e nn' hb hx;⟨sl,k56 b _ (nC b o e) q⟩,
     fun b o e nn' hx=>by rw [aD (fun z=>hx (by rw [z];exact XR))];exact un.free b o e nn' hx,
     fun b o e hx=>let ⟨o',q⟩:=un.there b o e hx;⟨o',k56 b o' (nC b o e) q⟩,
     fun b xs e=>by have q:=un.tups b xs e;rw [aD (nD2 b _ q)];exact q,
     fun b o u e=>by have q:=un.frzs b o u e;rw [aD (nD2 b _ q)];exact q,
     fun b ps e=>let ⟨more,q⟩:=un.tbls b ps e;⟨more,by rw [aD (nD2 b _ q)];exact q⟩⟩
   have I6:Inv X pins U (upd H4 s2.heap.objs.size (.lst ys)) {s5 with heap:=h6}:=by
    refine I3.call' (s':={s5 with heap:=h6}) (ch:=s2.heap.objs.size :: fp) ?_ un6 hok6 I5.bare fun b hb=>?_
    ·show s5.os=s3.os
     have:=I5.os
     rw [eS] at this
     exact this
    ·have q:mR X pins H2 b:=by
      rcases Xr.mp hb with rfl | z
      ·exact fD
      ·exact f2 b z
     obtain ⟨f0,f1,f2',f3,f4,f5⟩:=q
     exact ⟨f3,f1,f4,f5⟩
   exact ⟨.ref s2.heap.objs.size,_,I6,rfl,qn _ dn4⟩
  ·have hitem:=T.item XC eP eW eK eC i _ s4 _ H4 (fun _ _=>False) P4 (stat fr4) st4 go
   rw [eA] at hitem
   refine X5 hitem (fun r s5 ⟨u,hr,h5⟩=>?_) fun _ _ z=>z
   subst hr
   dsimp only
   refine X5 h5 (fun _ s6 ⟨x,H6,I6,r6,y6,st6,fr6⟩=>?_) fun _ _ z=>z
   have P6:=I6.pinned (stat fr6) (T.obj _ _ st6)
   rw [← eE,← eP,← eW,← eA]
   refine X5 (hgC _ s6 _ H6 x u _ P6 r6 (step x H6 y6)) (fun _ s7 ⟨σ7,H7,I7,kp7,q7⟩=>?_) fun _ _ z=>by rw [eX] at z;exact z
   refine X5 (htC _ s7 σ7 H7 _ I7 q7) (fun ok s8 ⟨H8,I8,q8⟩=>?_) fun _ _ z=>by rw [eX] at z;exact z
   have fin:∀ {H9:Hp} {s9:Shared},Inv XC ([(s2.heap.objs.size,({cls:=.type "list",data:=.seq its.toArray nn}:Obj))] ++ sU fp s6.heap) σ7 H9 s9->Inv XC [] (dN sub U) H9 s9/\tn (i+1) s9.heap/\(∀ b∈fp,H9 b=none)/\H9 s2.heap.objs.size=none/\
     s9.heap.get? s2.heap.objs.size=some {cls:=.type "list",data:=.seq its.toArray nn}:=fun {H9 s9} J=>by
    have pD:=J.pin (s2.heap.objs.size,({cls:=.type "list",data:=.seq its.toArray nn}:Obj)) (by rw [ePn];simp)
    have pF:∀ b∈fp,∀ o,s6.heap.get? b=some o->s9.heap.get? b=some o/\H9 b=none:=fun b hb o e=>by
     have q:=J.pin (b,o) (by rw [ePn];exact Ym _ (Ym _ (m9 hb e)))
     exact ⟨q.1,q.2.1⟩
    refine ⟨?_,T.keep _ _ _ st6 fun b hb o e=>(pF b hb o e).1,fun b hb=>?_,pD.2.1,pD.1⟩
    ·have J0:Inv XC [] σ7 H9 s9:=J.pins_of fun p hp=>nomatch hp
     exact J0.weak kp7.1.symm fun j v e=>kp7.2 j v e
    ·obtain ⟨o,e,_⟩:=T.obj _ _ st6 b hb
     exact (pF b hb o e).2
   cases ok with
   | false=>
    rw [if_neg (by simp)]
    rw [if_neg (by simp)] at q8
    obtain ⟨m',hm,w8⟩:=hN _ _ q8
    obtain ⟨a1,a2,a3,a4,a5⟩:=fin I8
    exact ⟨m',hm,i+1,ys,its,nn,H8,a1,a2,a3,a4,a5,rv4,w8⟩
   | true=>
    rw [if_pos rfl]
    rw [if_pos rfl] at q8
    refine X5 (heC _ s8 σ7 H8 _ I8 q8) (fun xv s9 ⟨y,H9,I9,r9,n9⟩=>?_) fun _ _ z=>by rw [eX] at z;exact z
    obtain ⟨m',hm,w9⟩:=hN _ _ n9
    obtain ⟨a1,a2,a3,a4,a5⟩:=fin I9
    refine wpAny_list_append_plain (items:=its.toArray) ⟨nn,a5⟩ (fun h' ⟨n',hp'⟩ sb=>?_) (by simp;rw [← rv4.length];omega)
    obtain ⟨q1,q2⟩:=I4.ok.exf s2.heap.objs.size (by rw [eEx];exact XR)
    have a1':Inv XC [] (dN sub U) H9 {s9 with heap:=h'}:=a1.turned (t':=s9.toks) (fun b o hb e=>(sb.2 b hb).trans e) a4 q1 (.inl (by rw [eEx];exact XR)) q2 (fun p hp=>by rw [ePn] at hp;exact nomatch hp)
    refine ⟨m',hm,i+1,ys ++ [y],its ++ [xv],n',H9,a1',T.keep _ _ _ a2 fun b hb o e=>(sb.2 b (fun z=>hDfp (by rw [← z];exact hb))).trans e,a3,a4,?_,rv4.append (.cons r9 .nil),w9⟩
    rw [hp']
    simp
 subst hs3
 exact codeAny_compStart_list loop (T.self _ 0 _ _ _ (T.keep _ _ _ st2 fun b _ o e=>hk31 b o (k23 b o e)) loop)
end
abbrev qD (sub:List (Option Nat)) (g:TG) (tt:TT) (te:TE) (U:St) (Q:VK) (J:It) (H1:Hp):Prop:=∃ W:Nat->Nat->List V->Hp->Prop,(∃ m,W 0 m [] H1)/\∀ i m ys H,W i m ys H->
 (J.stop i H/\ys.length<=sizeLine/\∀ D,H D=none->Q (.ref D) (upd H D (.lst ys)))\/
 (J.go i H/\ys.length < sizeLine/\∃ N:List V->Hp->Prop,(∀ ys' H',N ys' H'->∃ m',m' < m/\W (i+1) m' ys' H')/\
  ∀ x H',J.yld i H x H'->g x (dN sub U) H' fun σ2 H2=>KeepSt (dN sub U) σ2/\tt σ2 H2 fun b H3=>if b=true then te σ2 H3 fun y H4=>N (ys ++ [y]) H4 else N ys H3)
theorem yI {sub:List (Option Nat)} {g:TG} {tt:TT} {te:TE} {U:St} {Q:VK} {J:It} {H:Hp} {n:Nat} (Pv:Nat->List V->Hp->Prop) (hn:n<=sizeLine) (h0:Pv 0 [] H) (hl:∀ i ys H,Pv i ys H->ys.length<=i)
  (hgo:∀ i ys H,i < n->Pv i ys H->J.go i H) (hstop:∀ ys H,Pv n ys H->J.stop n H)
  (hs:∀ i ys H x H',i < n->Pv i ys H->J.yld i H x H'->g x (dN sub U) H' fun σ2 H2=>KeepSt (dN sub U) σ2/\tt σ2 H2 fun b H3=>if b=true then te σ2 H3 fun y H4=>Pv (i+1) (ys ++ [y]) H4 else Pv (i+1) ys H3)
  (hd:∀ ys H,Pv n ys H->∀ D,H D=none->Q (.ref D) (upd H D (.lst ys))):qD sub g tt te U Q J H:=by
 refine ⟨fun i m ys H=>m=n - i/\i<=n/\Pv i ys H,⟨n,by simp,YG _,h0⟩,?_⟩
 rintro i m ys H ⟨rfl,hi,p⟩
 have hl':=hl i ys H p
 by_cases hlt:i < n
 ·exact .inr ⟨hgo i ys H hlt p,by omega,fun ys' H'=>Pv (i+1) ys' H',fun ys' H' p'=>⟨n - (i+1),by omega,rfl,hlt,p'⟩,fun x H' y=>hs i ys H x H' hlt p y⟩
 ·have e:i=n:=by omega
  subst e
  exact .inl ⟨hstop ys H p,by omega,hd ys H p⟩
section
variable {κ:Type} [DecidableEq κ]
def jG (kvs:List (κ×V)) (k:κ):Option V:=(kvs.find? fun kv=>decide (kv.1=k)).map (·.2)
def putK (kvs:List (κ×V)) (k:κ) (v:V):List (κ×V):=
 if (kvs.any fun kv=>decide (kv.1=k))=true then kvs.map (fun kv=>if kv.1=k then (kv.1,v) else kv) else kvs ++ [(k,v)]
theorem zV {k:κ}:jG ([]:List (κ×V)) k=none:=rfl
theorem gH {p:κ×V} {r:List (κ×V)} {k:κ} (e:p.1=k):jG (p :: r) k=some p.2:=by simp [jG,ZK,e]
theorem gJ {p:κ×V} {r:List (κ×V)} {k:κ} (e:¬ p.1=k):jG (p :: r) k=jG r k:=by simp [jG,ZK,e]
theorem rK (k:κ):∀ kvs:List (κ×V),(kvs.any fun kv=>decide (kv.1=k))=(jG kvs k).isSome
 | []=>rfl
 | p :: r=>by
  rw [List.any_cons]
  by_cases e:p.1=k
  ·simp only [gH e,XF e,Bool.true_or,Option.isSome_some]
  ·rw [gJ e,XD e,Bool.false_or];exact rK k r
theorem zW (k j:κ) (y:V):∀ kvs:List (κ×V),jG (kvs.map fun kv=>if kv.1=k then (kv.1,y) else kv) j=(jG kvs j).map fun x=>if j=k then y else x
 | []=>rfl
 | p :: r=>by
  have ih:=zW k j y r
  rw [Yu]
  by_cases h:p.1=k
  ·rw [if_pos h]
   by_cases e:p.1=j
   ·rw [gH (p:=(p.1,y)) e,gH e,Option.map_some,if_pos (e.symm.trans h)]
   ·rw [gJ (p:=(p.1,y)) e,gJ e,ih]
  ·rw [if_neg h]
   by_cases e:p.1=j
   ·rw [gH (p:=p) e,gH e,Option.map_some,if_neg (fun z=>h (e.trans z))]
   ·rw [gJ (p:=p) e,gJ e,ih]
theorem xJ (k j:κ) (y:V):∀ kvs:List (κ×V),jG kvs k=none->jG (kvs ++ [(k,y)]) j=if j=k then some y else jG kvs j
 | [],_=>by
  by_cases e:k=j
  ·rw [if_pos e.symm];exact gH (p:=(k,y)) e
  ·rw [if_neg (fun z=>e z.symm)];exact gJ (p:=(k,y)) e
 | p :: r,hn=>by
  rw [Z4]
  have hk:¬ p.1=k:=fun z=>by rw [gH z] at hn;cases hn
  rw [gJ hk] at hn
  have ih:=xJ k j y r hn
  by_cases e:p.1=j
  ·rw [gH e,gH e,if_neg (fun z=>hk (e.trans z))]
  ·rw [gJ e,gJ e,ih]
theorem rM (kvs:List (κ×V)) (k j:κ) (y:V):jG (putK kvs k y) j=if j=k then some y else jG kvs j:=by
 unfold putK
 by_cases a:(kvs.any fun kv=>decide (kv.1=k))=true
 ·rw [if_pos a,zW]
  rw [rK] at a
  by_cases e:j=k
  ·obtain ⟨x,hx⟩:=Option.isSome_iff_exists.mp a
   rw [if_pos e,e,hx,Option.map_some,if_pos rfl]
  ·rw [if_neg e]
   cases jG kvs j with
   | none=>rfl
   | some x=>rw [Option.map_some,if_neg e]
 ·rw [if_neg a]
  refine xJ k j y kvs ?_
  rw [rK] at a
  cases q:jG kvs k with
  | none=>rfl
  | some x=>rw [q] at a;exact (a rfl).elim
theorem jH (kvs:List (κ×V)) (k:κ) (v:V):(putK kvs k v).length<=kvs.length+1:=by
 unfold putK
 split
 ·rw [X4];omega
 ·rw [Yr,Yy,List.length_nil];omega
theorem RelO.isSome_eq {o:Option V} {u:Option Value} (r:RelO o u):o.isSome=u.isSome:=by
 cases o with
 | none=>cases u with
  | none=>rfl
  | some _=>exact (show False from r).elim
 | some _=>cases u with
  | none=>exact (show False from r).elim
  | some _=>rfl
theorem KV.val {kvs:List (κ×V)} {vs:List (κ×Value)} (r:KV kvs vs) (k:κ):RelO (jG kvs k) (valueAt vs k):=by
 unfold KV at r
 induction r with
 | nil=>exact True.intro
 | @cons p q ps qs h t ih=>
  obtain ⟨h1,h2⟩:=h
  by_cases e:p.1=k
  ·have e':q.1=k:=h1.symm.trans e
   have b:valueAt (q :: qs) k=some q.2:=by simp [valueAt,ZK,e']
   rw [gH e,b];exact h2
  ·have e':¬ q.1=k:=fun z=>e (h1.trans z)
   have b:valueAt (q :: qs) k=valueAt qs k:=by simp [valueAt,ZK,e']
   rw [gJ e,b];exact ih
theorem KV.any {kvs:List (κ×V)} {vs:List (κ×Value)} (r:KV kvs vs) (k:κ):(kvs.any fun kv=>decide (kv.1=k))=vs.any fun kv=>decide (kv.1=k):=by
 unfold KV at r
 induction r with
 | nil=>rfl
 | cons h t ih=>rw [List.any_cons,List.any_cons,ih,h.1]
theorem KV.repl {kvs:List (κ×V)} {vs:List (κ×Value)} (r:KV kvs vs) (k:κ) {y:V} {u:Value} (ry:RelV y u):
  KV (kvs.map fun kv=>if kv.1=k then (kv.1,y) else kv) (vs.map fun kv=>if kv.1=k then (kv.1,u) else kv):=by
 unfold KV at r ⊢
 induction r with
 | nil=>exact .nil
 | @cons p q ps qs h t ih=>
  rw [Yu,Yu]
  refine .cons ?_ ih
  obtain ⟨h1,h2⟩:=h
  by_cases e:p.1=k
  ·rw [if_pos e,if_pos (h1.symm.trans e)];exact ⟨h1,ry⟩
  ·rw [if_neg e,if_neg (fun z=>e (h1.trans z))];exact ⟨h1,h2⟩
theorem KV.put {kvs:List (κ×V)} {vs:List (κ×Value)} (r:KV kvs vs) (k:κ) {y:V} {u:Value} (ry:RelV y u):KV (putK kvs k y) (stored vs k u):=by
 unfold putK stored
 rw [r.any k]
 by_cases e:(vs.any fun kv=>decide (kv.1=k))=true
 ·rw [if_pos e,if_pos e];exact r.repl k ry
 ·rw [if_neg e,if_neg e];exact Paired.snoc r ⟨rfl,ry⟩
theorem KV.length {kvs:List (κ×V)} {vs:List (κ×Value)} (r:KV kvs vs):kvs.length=vs.length:=Paired.length r
end
theorem zX {P:Program} {w:World} {k:Key} {u:Value} (r:RelV (kV k) u):(cu P w).is k u=true:=by
 cases k with
 | inl i=>obtain ⟨t,e⟩:=(show ∃ t,u=Value.int i t from r);subst e;exact zG P w i t
 | inr x=>obtain ⟨t,e⟩:=(show ∃ t,u=Value.str x t from r);subst e;exact zH P w x t
theorem xK {P:Program} {w:World}:∀ {ks:List Key} {us:List Value},Vals (ks.map kV) us->ItemsAre (cu P w) ks us
 | [],_,r=>by rw [List.map_nil] at r;cases r;exact .nil
 | k :: ks,_,r=>by
  rw [Yu] at r
  cases r with
  | cons h t=>exact .cons (zX h) (xK t)
abbrev KT (H:Hp):List (List Key×V)->List (List Key×Addr×Value)->Prop:=Paired fun p q=>p.1=q.1/\H q.2.1=some (.tup (p.1.map kV))/\RelV p.2 q.2.2
theorem KT.val {H:Hp} {kvs:List (List Key×V)} {xs:List (List Key×Addr×Value)} (r:KT H kvs xs) (k:List Key):RelO (jG kvs k) ((atKey xs k).map (·.2)):=by
 induction r with
 | nil=>exact True.intro
 | @cons p q ps qs h t ih=>
  obtain ⟨h1,_,h2⟩:=h
  by_cases e:p.1=k
  ·have e':q.1=k:=h1.symm.trans e
   have b:atKey (q :: qs) k=some q.2:=by simp [atKey,ZK,e']
   rw [gH e,b];exact h2
  ·have e':¬ q.1=k:=fun z=>e (h1.trans z)
   have b:atKey (q :: qs) k=atKey qs k:=by simp [atKey,ZK,e']
   rw [gJ e,b];exact ih
theorem KT.repl {H:Hp} {kvs:List (List Key×V)} {xs:List (List Key×Addr×Value)} (r:KT H kvs xs) (k:List Key) {y:V} {u:Value} (ry:RelV y u):
  KT H (kvs.map fun kv=>if kv.1=k then (kv.1,y) else kv) (xs.map (putAt k u)):=by
 induction r with
 | nil=>exact .nil
 | @cons p q ps qs h t ih=>
  rw [Yu,Yu]
  refine .cons ?_ ih
  obtain ⟨h1,h2,h3⟩:=h
  unfold putAt
  by_cases e:p.1=k
  ·rw [if_pos e,if_pos (h1.symm.trans e)];exact ⟨h1,h2,ry⟩
  ·rw [if_neg e,if_neg (fun z=>e (h1.trans z))];exact ⟨h1,h2,h3⟩
theorem KT.put {H:Hp} {kvs:List (List Key×V)} {xs:List (List Key×Addr×Value)} (r:KT H kvs xs) (k:List Key) {b:Addr} {y:V} {u:Value} (hb:H b=some (.tup (k.map kV))) (ry:RelV y u):
  KT H (putK kvs k y) (storedH xs k b u):=by
 have e:(kvs.any fun kv=>decide (kv.1=k))=(atKey xs k).isSome:=by
  rw [rK,(r.val k).isSome_eq,Option.isSome_map]
 unfold putK storedH
 rw [e]
 by_cases q:(atKey xs k).isSome=true
 ·rw [if_pos q,if_pos q];exact r.repl k ry
 ·rw [if_neg q,if_neg q];exact Paired.snoc r ⟨rfl,hb,ry⟩
theorem KT.keeps {H H':Hp} {kvs:List (List Key×V)} {xs:List (List Key×Addr×Value)} (r:KT H kvs xs) (ht:∀ b ys,H b=some (.tup ys)->H' b=some (.tup ys)):KT H' kvs xs:=
 Paired.mapP r fun _ _ z=>⟨z.1,ht _ _ z.2.1,z.2.2⟩
section
variable {P:Program} {w:World} {H:Hp} {h:Heap} {a:Addr}
theorem Qp {u:HO} (ok:HOk P w H h) (e:Rd H a u):ObjOk P w H h a u:=e.ok ok
theorem zY {kvs:List (Key×V)} (ok:HOk P w H h) (e:Rd H a (.dK kvs)):kvs.length<=sizeLine/\(a == sysModules)=false/\∃ vs,KV kvs vs/\h.DictOf (cu P w) a vs:=
 show ObjOk P w H h a (.dK kvs) from Qp ok e
theorem VL {kvs:List (Key×V)} (ok:HOk P w H h) (e:H a=some (.dK kvs)):kvs.length<=sizeLine/\(a == sysModules)=false/\∃ vs,KV kvs vs/\h.DictOf (cu P w) a vs:=zY ok (.inl e)
theorem vC {ks:List Key} (ok:HOk P w H h) (e:H a=some (.tup (ks.map kV))):(tupleKind (cu P w)).is h ks a:=by
 obtain ⟨_,its,r,o,h1,h2,n,h3⟩:=(show ObjOk P w H h a (.tup (ks.map kV)) from ok a _ e)
 exact ⟨o,its.toArray,n,h1,h2,h3,by simpa using xK r⟩
theorem zZ {kvs:List (List Key×V)} (ok:HOk P w H h) (e:Rd H a (.dT kvs)):kvs.length<=sizeLine/\(a == sysModules)=false/\
  ∃ xs,KT H kvs xs/\h.DictOfH (tupleKind (cu P w)) a xs:=by
 obtain ⟨z,y,xs,r,o,es,ep,h1,h2,h3,h4,h5⟩:=(show ObjOk P w H h a (.dT kvs) from Qp ok e)
 refine ⟨z,y,xs,r,o,es,ep,h1,h2,h3,h4,fun x hx=>?_,h5⟩
 have all:∀ {l:List (List Key×V)} {m:List (List Key×Addr×Value)},KT H l m->∀ x∈m,(tupleKind (cu P w)).is h x.1 x.2.1:=by
  intro l m q
  induction q with
  | nil=>intro x hx;exact nomatch hx
  | @cons p q ps qs hq t ih=>
   intro x hx
   rcases Xr.mp hx with e | hx
   ·subst e
    exact vC ok (by rw [← hq.1];exact hq.2.1)
   ·exact ih x hx
 exact all r x hx
theorem VM {kvs:List (List Key×V)} (ok:HOk P w H h) (e:H a=some (.dT kvs)):kvs.length<=sizeLine/\(a == sysModules)=false/\
  ∃ xs,KT H kvs xs/\h.DictOfH (tupleKind (cu P w)) a xs:=zZ ok (.inl e)
end
def DGet (H:Hp) (a:Addr) (y:V) (r:Option V):Prop:=
 (∃ kvs k,Rd H a (.dK kvs)/\y=kV k/\r=jG kvs k)\/∃ kvs k b,Rd H a (.dT kvs)/\y= .ref b/\H b=some (.tup (k.map kV))/\r=jG kvs k
def DPut (H:Hp) (a:Addr) (y v:V) (H':Hp):Prop:=
 (∃ kvs k,H a=some (.dK kvs)/\y=kV k/\kvs.length < sizeLine/\H'=upd H a (.dK (putK kvs k v)))\/
 ∃ kvs k b,H a=some (.dT kvs)/\y= .ref b/\H b=some (.tup (k.map kV))/\kvs.length < sizeLine/\H'=upd H a (.dT (putK kvs k v))
theorem DGet.k {H:Hp} {a:Addr} {kvs:List (Key×V)} {k:Key} (e:H a=some (.dK kvs)):DGet H a (kV k) (jG kvs k):=.inl ⟨kvs,k,.inl e,rfl,rfl⟩
theorem DPut.k {H:Hp} {a:Addr} {kvs:List (Key×V)} {k:Key} {v:V} (e:H a=some (.dK kvs)) (hl:kvs.length < sizeLine):DPut H a (kV k) v (upd H a (.dK (putK kvs k v))):=.inl ⟨kvs,k,e,rfl,hl,rfl⟩
section
variable {X:Cx} {pins:List (Addr×Obj)} {U:St} {H:Hp} {s:Shared} {a:Addr} {y v:V} {u r:Value} {o:Option V} {A:Around} {E:Value->Shared->Prop}
theorem Inv.big (I:Inv X pins U H s):sysModules < s.heap.objs.size:=by
 have h:mainGlobals < s.heap.objs.size:=(I.mod.glob.keeps I.bk).lt
 exact Nat.lt_trans (by decide) h
theorem Gv {Q:Value->Shared->Prop} (hu:A.units+1 < cLine) (I:Inv X pins U H s) (g:DGet H a y (some v)) (ry:RelV y u) (h:∀ w' s',Inv X pins U H s'->RelV v w'->Q w' s'):
  wpAny (model X.prog X.w) A (getItem (.ref a) u) Q E s:=by
 rcases g with ⟨kvs,k,e,ey,l⟩ | ⟨kvs,k,b,e,ey,eb,l⟩
 ·subst ey
  obtain ⟨z,hd,vs,rel,dd⟩:=zY I.hok e
  obtain ⟨w',hw,rw'⟩:=RelO.some_of (v:=v) (o:=valueAt vs k) (by rw [l];exact rel.val k)
  exact wpAny_getItem_of (zX ry) dd.mapOf hw (h w' _ (I.tok _) rw')
 ·subst ey
  cases (show u=Value.ref b from ry)
  obtain ⟨z,hd,xs,rel,dd⟩:=zZ I.hok e
  obtain ⟨w',hw,rw'⟩:=RelO.some_of (v:=v) (o:=(atKey xs k).map (·.2)) (by rw [l];exact rel.val k)
  obtain ⟨p,hp,hp2⟩:=Option.map_eq_some_iff.mp hw
  refine wpAny_getItem_heap (tupleKind_room_in1 hu) (vC I.hok eb) dd hp ?_
  rw [hp2]
  exact h w' _ (I.tok _) rw'
theorem d_in {Q:Value->Shared->Prop} (hu:A.units+1 < cLine) (I:Inv X pins U H s) (g:DGet H a y o) (ry:RelV y u) (h:∀ s',Inv X pins U H s'->Q (.bool o.isSome) s'):
  wpAny (model X.prog X.w) A (compareOp .In u (.ref a)) Q E s:=by
 rcases g with ⟨kvs,k,e,ey,l⟩ | ⟨kvs,k,b,e,ey,eb,l⟩
 ·subst ey
  obtain ⟨z,hd,vs,rel,dd⟩:=zY I.hok e
  refine wpAny_in_of (zX ry) hd dd.mapOf ?_
  rw [← (rel.val k).isSome_eq,← l]
  exact h _ (I.tok _)
 ·subst ey
  cases (show u=Value.ref b from ry)
  obtain ⟨z,hd,xs,rel,dd⟩:=zZ I.hok e
  refine wpAny_in_heap (tupleKind_room_in1 hu) (vC I.hok eb) hd dd ?_
  have q:=(rel.val k).isSome_eq
  rw [Option.isSome_map] at q
  rw [← q,← l]
  exact h _ (I.tok _)
theorem Np {Q:Value->Shared->Prop} (hu:A.units+1 < cLine) (I:Inv X pins U H s) (g:DGet H a y o) (ry:RelV y u) (h:∀ s',Inv X pins U H s'->Q (.bool (!o.isSome)) s'):
  wpAny (model X.prog X.w) A (compareOp .NotIn u (.ref a)) Q E s:=by
 rcases g with ⟨kvs,k,e,ey,l⟩ | ⟨kvs,k,b,e,ey,eb,l⟩
 ·subst ey
  obtain ⟨z,hd,vs,rel,dd⟩:=zY I.hok e
  refine wpAny_notIn_of (zX ry) hd dd.mapOf ?_
  rw [← (rel.val k).isSome_eq,← l]
  exact h _ (I.tok _)
 ·subst ey
  cases (show u=Value.ref b from ry)
  obtain ⟨z,hd,xs,rel,dd⟩:=zZ I.hok e
  refine wpAny_notIn_heap (tupleKind_room_in1 hu) (vC I.hok eb) hd dd ?_
  have q:=(rel.val k).isSome_eq
  rw [Option.isSome_map] at q
  rw [← q,← l]
  exact h _ (I.tok _)
theorem Eh {h':Heap} {t':Nat} {ob:HO} (I:Inv X pins U H s) (mu:Vi (H a)) (hs:Heap.SameBut a s.heap h') (he:∃ q,h'.get? a=some q) (new:ObjOk X.prog X.w (upd H a ob) h' a ob):
  Inv X pins U (upd H a ob) {s with heap:=h',toks:=t'}:=
 I.write (x:=a) (e:=a) mu (.inl rfl) (fun b q hb z=>(hs.2 b hb).trans z) he new
theorem Sq {P:Program} {w:World} {H':Hp} {h':Heap} {kvs:List (Key×V)} {vs:List (Key×Value)} (z:kvs.length<=sizeLine) (hd:(a == sysModules)=false) (rel:KV kvs vs) (dd:h'.DictOf (cu P w) a vs):
  ObjOk P w H' h' a (.dK kvs):=⟨z,hd,vs,rel,dd⟩
theorem Gw {H':Hp} {Q:Unit->Shared->Prop} (hu:A.units+1 < cLine) (I:Inv X pins U H s) (g:DPut H a y v H') (ry:RelV y u) (rv:RelV v r) (h:∀ s',Inv X pins U H' s'->Q () s'):
  wpAny (model X.prog X.w) A (setItem (.ref a) u r) Q E s:=by
 rcases g with ⟨kvs,k,e,ey,l,eH⟩ | ⟨kvs,k,b,e,ey,eb,l,eH⟩
 ·subst ey eH
  obtain ⟨z,hd,vs,rel,dd⟩:=VL I.hok e
  have hz:vs.length<=sizeLine:=by rw [← rel.length];exact z
  have hl:(putK kvs k v).length<=sizeLine:=by have:=jH kvs k v;omega
  refine wpAny_setItem_pairs (hsz:=hz) (zX ry) dd fun h' dd' hs=>h _ ?_
  have he:∃ q,h'.get? a=some q:=let ⟨q,_,_,hq,_⟩:=dd';⟨q,hq⟩
  exact Eh I (by rw [e];exact True.intro) hs he (Sq hl hd (rel.put k rv) dd')
 ·subst ey eH
  cases (show u=Value.ref b from ry)
  obtain ⟨z,hd,xs,rel,dd⟩:=VM I.hok e
  have hz:xs.length<=sizeLine:=by rw [← Paired.length rel];exact z
  have hl:(putK kvs k v).length<=sizeLine:=by have:=jH kvs k v;omega
  refine wpAny_setItem_heap (hsz:=hz) (tupleKind_room_in1 hu) (vC I.hok eb) dd fun h' dd' hs=>h _ ?_
  obtain ⟨q,es,ep,hq,h2,h3,h4,_,h5⟩:=dd'
  refine Eh I (by rw [e];exact True.intro) hs ⟨q,hq⟩ ⟨hl,hd,_,(rel.put k eb rv).keeps fun c ys ec=>?_,q,es,ep,hq,h2,h3,h4,h5⟩
  rw [aD (Vh ec e (fun z=>nomatch z))]
  exact ec
end
def VN (i:Expr):Prop:=∀ ov iv,subscripted i false ov iv=operate [ov,iv] (getItem ov iv)
theorem Nq {prog:Program} {w:World} {A:Around} {E:Value->Shared->Prop} {s:Shared} {env:Env} {value slice:Expr} {pos:Pos} {T id:String} {Q:Value->Shared->Prop}
  (hl:typeLookup (.type T) "__getitem__"=pure (some (.builtin id))) (hs:VN slice)
  (h:wpAny (model prog w) A (eval value env) (fun o s₁=>wpAny (model prog w) A (eval slice env) (fun i s₂=>s₂.TypeIs o T/\wpAny (model prog w) A (getItem o i) Q E s₂) E s₁) E s):
  wpAny (model prog w) A (eval (.Subscript value slice pos) env) Q E s:=by
 refine Subscript_ (X5 h (fun o s₁ h₁=>X5 h₁ (fun i s₂ h₂=>?_) fun _ _ x=>x) fun _ _ x=>x)
 obtain ⟨hT,h₂⟩:=h₂
 unfold subscriptTail
 refine Xi ?_
 rw [getitemInPython_of_ne hT.not_modules]
 refine Xi (ZL hT hl ?_)
 have fin:wpAny (model prog w) A (subscripted slice false o i) (fun r s₃=>wpAny (model prog w) A (letTemporaryGo value o r >>=fun _=>pure r) Q E s₃) E s₂:=by
  rw [hs o i]
  exact wpAny_operating (X5 h₂ (fun r s₃ h₃=>Xi (wpAny_letTemporaryGo (Xl h₃))) fun _ _ x=>x)
 first
  | exact Xl (Xi fin)
  | exact Xi (Xl (Xi fin))
  | exact Xi fin
theorem z6 {X:Cx} {pins:List (Addr×Obj)} {U:St} {H:Hp} {s:Shared} {a:Addr} {y:V} {o:Option V} (I:Inv X pins U H s) (g:DGet H a y o):s.TypeIs (.ref a) "dict":=by
 rcases g with ⟨kvs,k,e,_,_⟩ | ⟨kvs,k,b,e,_,_,_⟩
 ·obtain ⟨_,_,vs,_,dd⟩:=zY I.hok e
  exact dd.typeIs
 ·obtain ⟨_,_,xs,_,dd⟩:=zZ I.hok e
  exact dd.typeIs
def Jp (td ty:TE):TE:=fun U H Q=>td U H fun x H1=>ty U H1 fun y H2=>∃ a v,x= .ref a/\DGet H2 a y (some v)/\Q v H2
section
variable {X:Cx} {o i e value:Expr} {pos pos' tpos:Pos} {td ty tv:TE}
theorem Nr (hu:X.A.units+1 < cLine) (ho:PE X o td) (hi:PE X i ty) (hs:VN i):PE X (.Subscript o i pos) (Jp td ty):=by
 intro pins s U H Q I h
 refine Nq PySem.F.slot_dict_getitem.lookup hs (d9 (ho pins s U H _ I h) fun u s1 ⟨x,H1,I1,rx,q1⟩=>d9 (hi pins s1 U H1 _ I1 q1) fun iv s2 qq0=>?_)
 obtain ⟨y,H2,I2,ry,a,v,ex,g,q2⟩:=qq0
 subst ex
 obtain rfl:u=Value.ref a:=rx
 exact ⟨z6 I2 g,Gv hu I2 g ry fun w' s3 I3 rw'=>⟨v,H2,I3,rw',q2⟩⟩
end
theorem Jq {P:Program} {w:World} {H:Hp} (h:Heap) (hb:sysModules < h.objs.size):ObjOk P w H (h.push {cls:=.type "dict",data:=.dict #[]}) h.objs.size (.dK []):=
 ⟨YG _,Ze.mpr (Ne.symm (XN hb)),[],.nil,Heap.DictOf.new h⟩
def Cp:TE:=fun _ H Q=>∀ p,H p=none->Q (.ref p) (upd H p (.dK []))
section
variable {X:Cx} {pos:Pos}
theorem Jr:PE X (.Dict [] [] pos) Cp:=fun pins s U H Q I h=>
 wpAny_Dict_empty ⟨.ref s.heap.objs.size,_,I.laid (a:=s.heap.objs.size) (o:=.dK []) (t':=s.toks) (fun _ _ q=>Xn _ q) (Xo _) (Jq s.heap I.big),rfl,h _ (I.hok.fresh (Xo _))⟩
end
def Nt (x:Str):It:=⟨fun i _=>i < x.cps.size,fun i H v H'=>H'=H/\∃ c,x.cps[i]?=some c/\v= .str ⟨#[c]⟩,fun i _=>i=x.cps.size⟩
theorem z7 {P:Program} {w:World} {K:W.Frag} {tg:Expr} (it:Addr) (x:Str) (t:Tok) (ty:String)
  (hty:["enumerate","zip","dict_itemiterator","dict_reverseitemiterator","odict_iterator","itertools.zip_longest","itertools.pairwise"].contains ty=false)
  (W:∀ A:Around,A.handled=none->Walks P w A it [it] [it] x.cps.size (SignAt x) fun i h=>h.IsStrIter it ty x t i)
  (hself:∀ (A:Around) (i:Nat) (s:Shared) (Q:Value->Shared->Prop) (E:Value->Shared->Prop),s.heap.IsStrIter it ty x t i->Q (.ref it) s->wpAny (model P w) A (pyIter (.ref it)) Q E s):Turn P w K tg (Nt x) [it] it (fun i h=>h.IsStrIter it ty x t i) where
 mem:=by simp
 obj:=fun i h st b hb=>by
  have e:b=it:=by simpa using hb
  subst e
  obtain ⟨o,e,c,d⟩:=st
  exact ⟨o,e,fun v z=>by rw [d] at z;cases z⟩
 keep:=fun i h h' st k=>by
  obtain ⟨o,e,r⟩:=st
  exact ⟨o,k it (by simp) o e,r⟩
 item:=by
  intro X hP hw hK hc i pins s U H E I hf st hg
  subst hP hw hK
  obtain ⟨f0,f1,f2,f3,f4,f5⟩:=hf it (by simp)
  refine (W X.A (I.ok.hd hc)).item i s _ _ hg st fun v h' tk hv st' kk=>?_
  obtain ⟨c,u,e1,rfl⟩:=hv
  have I1:Inv X pins U H {s with heap:=h',toks:=tk}:=I.turned (fun b o hb e=>kk b o (by simpa using hb) e) f0 f1 f3 f4 f5
  obtain ⟨o,e,cl,d⟩:=id st'
  exact ⟨_,rfl,xg (s:={s with heap:=h',toks:=tk}) e cl d hty ⟨.str ⟨#[c]⟩,H,I1,⟨u,rfl⟩,⟨rfl,c,e1,rfl⟩,st',fun b hb=>(hf b hb).1⟩⟩
 done:=by
  intro X hP hw hK hc i pins s U H E I hf st hg
  subst hP hw hK
  obtain ⟨f0,f1,f2,f3,f4,f5⟩:=hf it (by simp)
  have hg:i=x.cps.size:=hg
  subst hg
  exact (W X.A (I.ok.hd hc)).done s _ _ st fun h' tk kk=>⟨rfl,I.turned (fun b o hb e=>kk b o (by simpa using hb) e) f0 f1 f3 f4 f5⟩
 self:=hself
section
variable {X:Cx}
theorem all_range {bs:List Bool}:(List.range bs.length).all (fun i=>bs.getD i false)=bs.all id:=by
 rw [ZJ]
 simp only [YW,XJ]
 constructor
 ·intro h b hb
  obtain ⟨i,hi,e⟩:=Zr.mp hb
  have:=h i hi
  rw [Xj,Xk hi] at this
  simp only [Option.getD_some] at this
  rw [← e];exact this
 ·intro h i hi
  rw [Xj,Xk hi]
  exact h _ (YF hi)
theorem any_range {bs:List Bool}:(List.range bs.length).any (fun i=>bs.getD i false)=bs.any id:=by
 rw [ZJ]
 simp only [List.any_eq_true,XJ]
 constructor
 ·rintro ⟨i,hi,h⟩
  rw [Xj,Xk hi] at h
  exact ⟨_,YF hi,h⟩
 ·rintro ⟨b,hb,h⟩
  obtain ⟨i,hi,e⟩:=Zr.mp hb
  refine ⟨i,hi,?_⟩
  rw [Xj,Xk hi]
  simp only [Option.getD_some]
  rw [e];exact h
theorem oY:∀ {bs:List Bool} {us:List Value} {i:Nat} {v:Value},Vals (bs.map V.bl) us->us[i]?=some v->v= .bool (bs.getD i false)
 | [],_,i,v,.nil,e=>by simp at e
 | b :: bs,_,0,v,.cons r t,e=>by simp at e;subst e;exact r
 | b :: bs,_,i+1,v,.cons r t,e=>by
  simp at e
  have:=oY (bs:=bs) t e
  simpa using this
def rAll:List V->Hp->VK->Prop:=fun xs H Q=>∃ (p:Addr) (bs:List Bool),xs=[.ref p]/\H p=some (.lst (bs.map V.bl))/\Q (.bl (bs.all id)) H
theorem z8 (hc:X.calm=true):CallR X (.builtin "all") rAll:=by
 intro pins s U H xs us Q I r h
 obtain ⟨p,bs,rfl,hp,q⟩:=h
 obtain ⟨u,rfl,ru⟩:=vals1 r
 cases ru
 obtain ⟨hz,its,n,rv,e⟩:=I.hok p _ hp
 refine call_all_walk (wpAny_pyIter_list (items:=its.toArray) ⟨_,e,rfl,n,rfl⟩ ?_)
 refine ⟨s.heap.objs.size,_,_,_,_,_,fun i=>bs.getD i false,rfl,Walks.list (A:=X.A.in1) (I.ok.hd hc) s.heap.objs.size p (XN (Xp e)) its.toArray,⟨⟨_,Xu _ rfl,rfl,rfl⟩,⟨_,Xn _ e,rfl,n,rfl⟩⟩,?_,fun h' tk hk=>?_⟩
 ·intro i v s' Q' E' hv hq
  have:=oY rv (by simpa using hv)
  subst this
  exact YQ hq
 ·have hl:its.toArray.size=bs.length:=by have:=rv.length;simpa using this.symm
  rw [hl,all_range]
  refine ⟨.bl _,H,?_,rfl,q⟩
  exact I.kept fun b o e=>hk b o (by simp;exact XN (Xp e)) (Xn _ e)
def rAny:List V->Hp->VK->Prop:=fun xs H Q=>∃ (p:Addr) (bs:List Bool),xs=[.ref p]/\H p=some (.lst (bs.map V.bl))/\Q (.bl (bs.any id)) H
theorem Js (hc:X.calm=true):CallR X (.builtin "any") rAny:=by
 intro pins s U H xs us Q I r h
 obtain ⟨p,bs,rfl,hp,q⟩:=h
 obtain ⟨u,rfl,ru⟩:=vals1 r
 cases ru
 obtain ⟨hz,its,n,rv,e⟩:=I.hok p _ hp
 refine call_any_walk (wpAny_pyIter_list (items:=its.toArray) ⟨_,e,rfl,n,rfl⟩ ?_)
 refine ⟨s.heap.objs.size,_,_,_,_,_,fun i=>bs.getD i false,rfl,Walks.list (A:=X.A.in1) (I.ok.hd hc) s.heap.objs.size p (XN (Xp e)) its.toArray,⟨⟨_,Xu _ rfl,rfl,rfl⟩,⟨_,Xn _ e,rfl,n,rfl⟩⟩,?_,fun h' tk hk=>?_⟩
 ·intro i v s' Q' E' hv hq
  have:=oY rv (by simpa using hv)
  subst this
  exact YQ hq
 ·have hl:its.toArray.size=bs.length:=by have:=rv.length;simpa using this.symm
  rw [hl,any_range]
  refine ⟨.bl _,H,?_,rfl,q⟩
  exact I.kept fun b o e=>hk b o (by simp;exact XN (Xp e)) (Xn _ e)
def VP:V->Option Int->Option Int->Hp->VK->Prop:=fun v lo hi H Q=>∃ x,v= .str x/\x.length<=sizeLine/\Q (.str (Txt.slice x lo hi)) H
theorem Ss:SlR X VP:=by
 intro pins s U H x v vl vu lo hi sl Q I rx hs pl pu h
 obtain ⟨z,rfl,hz,q⟩:=h
 obtain ⟨t,rfl⟩:=rx
 refine ⟨"str",_,F.slot_str_getitem.lookup,typeIs_str _ _ _,?_⟩
 have fin:∀ (t' k:Nat),EP X pins U Q (.str (Txt.slice z lo hi) t') {s with toks:=k}:=fun t' k=>⟨.str _,H,I.tok _,⟨_,rfl⟩,q⟩
 have sz:=XQ (Txt.slice_le z lo hi) hz
 obtain ⟨o,ho,hc,hd⟩:=hs
 cases pl with
 | none=>
  cases pu with
  | none=>exact Zz (l:=none) (u:=none) (st:=none) ⟨o,ho,hc,hd⟩ rfl (post_val_or_str ⟨sz,fin⟩)
  | int j tj=>exact Zz (l:=none) (u:=some (j,tj)) (st:=none) ⟨o,ho,hc,hd⟩ rfl (post_val_or_str ⟨sz,fin⟩)
 | int i ti=>
  cases pu with
  | none=>exact Zz (l:=some (i,ti)) (u:=none) (st:=none) ⟨o,ho,hc,hd⟩ rfl (post_val_or_str ⟨sz,fin⟩)
  | int j tj=>exact Zz (l:=some (i,ti)) (u:=some (j,tj)) (st:=none) ⟨o,ho,hc,hd⟩ rfl (post_val_or_str ⟨sz,fin⟩)
def Qq:R2:=fun x y H Q=>∃ i n,x= .str i/\y= .int n/\MulOk i n/\Q (.str (Txt.mul i n)) H
theorem Cq:OpR X (binaryOp .Mult) Qq:=by
 intro pins s U H x y v u Q I rx ry h
 obtain ⟨i,n,rfl,rfl,hk,q⟩:=h
 obtain ⟨t,rfl⟩:=rx
 obtain ⟨t',rfl⟩:=ry
 exact SB.mul hk fun t' k=>⟨.str _,H,I.tok _,⟨_,rfl⟩,q⟩
def sgn (x:Str):List V:=x.cps.toList.map fun c=>V.str ⟨#[c]⟩
theorem Gx {x:Str} {acc:Array Value} (h:ItemsOf (SignAt x) acc x.cps.size):Vals (sgn x) acc.toList:=by
 obtain ⟨h1,h2⟩:=h
 have key:∀ (l:List Nat) (a:List Value),l.length=a.length->(∀ (j:Nat) (v:Value),a[j]?=some v->∃ (c:Nat) (u:Tok),l[j]?=some c/\v=Value.str ⟨#[c]⟩ u)->Vals (l.map fun c=>V.str ⟨#[c]⟩) a:=by
  intro l
  induction l with
  | nil=>intro a hl _;cases a with
   | nil=>exact .nil
   | cons _ _=>simp at hl
  | cons c l ih=>
   intro a hl hh
   cases a with
   | nil=>simp at hl
   | cons v a=>
    obtain ⟨c',u,e1,e2⟩:=hh 0 v (by simp)
    simp at e1;subst e1
    refine .cons ⟨u,e2⟩ (ih a (by simpa using hl) fun j v' e=>?_)
    obtain ⟨c',u,e1,e2⟩:=hh (j+1) v' (by simpa using e)
    exact ⟨c',u,by simpa using e1,e2⟩
 refine key x.cps.toList acc.toList (by simp [h1]) fun j v e=>?_
 obtain ⟨c,u,e1,e2⟩:=h2 j v (by simpa using e)
 exact ⟨c,u,by simpa using e1,e2⟩
theorem z9 (hc:X.calm=true):CallR X (.type "list") (fun xs H Q=>∃ x,xs=[.str x]/\x.cps.size<=sizeLine/\∀ p,H p=none->Q (.ref p) (upd H p (.lst (sgn x)))):=by
 intro pins s U H xs us Q I r h
 obtain ⟨x,rfl,hz,q⟩:=h
 obtain ⟨u,rfl,t,rfl⟩:=vals1 r
 refine call_list_str (I.ok.hd hc) x t (hn:=hz) fun h' tk acc' c' hk hS hacc=>?_
 refine ⟨.ref s.heap.objs.size,_,I.laid (o:=.lst (sgn x)) hk (Xo _) ⟨by simp [sgn];exact hz,acc'.toList,c',Gx hacc,by simpa using hS⟩,rfl,q _ I.fresh⟩
def Su (K:W.Frag):List V->Hp->VK->Prop:=fun xs H Q=>∃ x T t b,xs=[x,.ty T]/\TyOf K H x t/\PySem.W.kitOne K t (.type T)=some b/\Q (.bl b) H
theorem Jt:CallR X (.builtin "isinstance") (Su X.K):=by
 intro pins s U H xs us Q I r h
 obtain ⟨x,T,t,b,rfl,ty,e,q⟩:=h
 obtain ⟨u,v,rfl,ru,rv⟩:=vals2 r
 cases rv
 exact Gi I ru ty e fun tk=>⟨.bl b,H,I.tok _,rfl,q⟩
def Cr:List V->List V->Bool
 | [],[]=>true
 | x :: xs,y :: ys=>Ed x y && Cr xs ys
 | _,_=>false
theorem vD:∀ (xs ys:List V),xs.length=ys.length->(List.range xs.length).all (fun j=>Ed (xs.getD j .non) (ys.getD j .non))=Cr xs ys
 | [],[],_=>rfl
 | x :: xs,y :: ys,h=>by
  have ih:=vD xs ys (by simpa using h)
  rw [Yy,List.range_succ_eq_map,Yn,List.all_map]
  simp only [Cr]
  rw [← ih]
  rfl
 | [],y :: ys,h=>by simp at h
 | x :: xs,[],h=>by simp at h
theorem Aa:∀ {xs ys:List V},xs.length≠ys.length->Cr xs ys=false
 | [],[],h=>absurd rfl h
 | [],y :: ys,_=>rfl
 | x :: xs,[],_=>rfl
 | x :: xs,y :: ys,h=>by simp [Cr,Aa (xs:=xs) (ys:=ys) (by simpa using h)]
def VR (K:W.Frag) (neg:Bool):R2:=fun x y H Q=>∃ a b xs ys,x= .ref a/\y= .ref b/\SqL K H a xs/\SqL K H b ys/\xs.all jE=true/\ys.all jE=true/\Q (.bl (if neg then !Cr xs ys else Cr xs ys)) H
theorem Gy (hu:X.A.units < cLine):OpR X (compareOp .Eq) (VR X.K false):=by
 intro pins s U H x y v u Q I rx ry h
 obtain ⟨a,b,xs,ys,rfl,rfl,ha,hb,fx,fy,q⟩:=h
 cases rx
 cases ry
 obtain ⟨its,r1,p1,z1⟩:=I.list ha
 obtain ⟨jts,r2,p2,z2⟩:=I.list hb
 have l1:its.toArray.size=xs.length:=by simpa using r1.length.symm
 have l2:jts.toArray.size=ys.length:=by simpa using r2.length.symm
 by_cases hl:xs.length=ys.length
 ·refine SeqAt.eq_listAt (e:=fun j=>Ed (xs.getD j .non) (ys.getD j .non)) p1.isList p2.isList (by rw [l1,l2];exact hl) hu (fun j h1 h2=>?_) ?_
  ·have h1':j < xs.length:=by omega
   have h2':j < ys.length:=by omega
   obtain ⟨u1,e1,q1⟩:=r1.get (Xk h1')
   obtain ⟨u2,e2,q2⟩:=r2.get (Xk h2')
   have e1':its.toArray[j]=u1:=by
    have:=Xm.mp e1
    obtain ⟨_,z⟩:=this
    simpa using z
   have e2':jts.toArray[j]=u2:=by
    have:=Xm.mp e2
    obtain ⟨_,z⟩:=this
    simpa using z
   rw [e1',e2']
   have g1:xs.getD j .non=xs[j]:=by rw [Xj,Xk h1'];rfl
   have g2:ys.getD j .non=ys[j]:=by rw [Xj,Xk h2'];rfl
   show SeqAt.EqAt X.A.in1 s u1 u2 (Ed (xs.getD j .non) (ys.getD j .non))
   rw [g1,g2]
   exact qK q1 q2 (YW.mp fx _ (YF h1')) (YW.mp fy _ (YF h2'))
  ·rw [l1,vD xs ys hl]
   exact ⟨.bl _,H,I,rfl,q⟩
 ·refine SeqAt.eq_list_lengthsAt p1.isList p2.isList (by rw [l1,l2];simpa using hl) hu ?_
  rw [if_neg (by simp),Aa hl] at q
  exact ⟨.bl false,H,I,rfl,q⟩
end
def Def (K:W.Frag) (mg:Str->Option Value) (x:Str) (st:Stmt):Prop:=∃ f fd,Fun K x x st f fd/\mg x=some (.ref f)
theorem bA {K:W.Frag} {mg:Str->Option Value} {h:Heap} (X:K.In h) (G:h.Ns mainGlobals mg) {x:Str} {st:Stmt} {f:Addr} {oc:Value} {od an:Option Addr} {osl:Array (Option Value)} {kV doc pm cdv ct:Value}
  (a:PySem.W.nsIn K mainGlobals x=some (some (.ref f)))
  (l:K.lookup f=some ⟨oc,od,.func (PySem.W.fnOf x x (dZ st) (bI st) (aB st) .none kV doc pm an cdv ct),osl⟩)
  (c:PySem.W.codeIn K cdv x=true) (k:PySem.W.keepIn K (.ref f)=true):Def K mg x st:=⟨f,_,vq l c k,Yt X G a⟩
def Has (P:Program) (w:World) (K:W.Frag) (mg:Str->Option Value) (base:Heap) (k:Nat) (x:Str) (ps:List Str) (sp:Sp):Prop:=
 ∃ f fd,mg x=some (.ref f)/\PySem.W.keepIn K (.ref f)=true/\Binds K fd ps []/\FnOk P w K mg base Gr k f fd ps sp
section
variable {P:Program} {w:World} {K:W.Frag} {mg:Str->Option Value} {base:Heap}
theorem Has.mono {j k:Nat} {x:Str} {ps:List Str} {sp:Sp} (h:Has P w K mg base j x ps sp) (hk:j<=k):Has P w K mg base k x ps sp:=
 let ⟨f,fd,a,b,c,d⟩:=h;⟨f,fd,a,b,c,d.mono hk⟩
theorem Sv {x:Str} {st:Stmt} {N ps:List Str} {k:Nat} {sp:Sp} (D:Def K mg x st) (S:aF N ps (aB st))
  (hb:∀ (kV doc pm:Value) (an:Option Addr) (cdv ct:Value) (us:List Value),us.length=ps.length->bindArgs (PySem.W.fnOf x x (dZ st) (bI st) (aB st) .none kV doc pm an cdv ct) ⟨us,[]⟩=pure (ps.zip us))
  (len:∀ vs H Q E,sp vs H Q E->vs.length=ps.length)
  (hbody:∀ (f:Addr) (cdv:Value) (A:Around) (outer:List Env) (s:Shared) (H:Hp) (vs:List V) (Q:VK) (E:XK),Room k (A.deeper (envOfC x (aB st) s.heap.objs.size f cdv))->sp vs H Q E->
   ∃ t,PSs (oV Gr P w K mg base N x (aB st) f cdv A outer s H E).nox (bI st) t/\t {nx:=fun _ H'=>Q .non H',rt:=Q} (start N vs) H):Has P w K mg base (k+1) x ps sp:=by
 obtain ⟨f,fd,F,hm⟩:=D
 exact ⟨f,fd,hm,F.kp,F.binds hb,F.ok S len fun cdv A outer s H vs Q E hr h=>hbody f cdv A outer s H vs Q E hr h⟩
end
section
variable {X:Cx}
theorem Ju {k:Nat} {x:Str} {ps:List Str} {sp:Sp} {p pos:Pos} {e:Expr} {es:List Expr} {t:TA} (F:Has X.prog X.w X.K X.mg X.base k x ps sp) (hr:Room k X.A) (hg:Gl X x)
  (ha:PA X (e :: es) t) (hdb:autoParam ((x == ("__debug__":Str))=false) L2.auto2._auto_1) (he:autoParam (starEach (e :: es) X.env=(false,eval e X.env) :: starEach es X.env) L2.auto4._auto_1) (hpl:autoParam ((backTo pos (starEach es X.env)).any (·.1)=false) L2.auto4._auto_1):
  PE X (.Call (.Name x p) (e :: es) [] pos) (xm sp [] E0 t):=by
 obtain ⟨f,fd,a,b,c,d⟩:=F
 exact Ng d hr hg a b c .nil VJ ha hdb he hpl
def Ab:R2:=fun x y H Q=>(∃ i j,x= .int i/\y= .int j/\Q (.int (i+j)) H)\/(∃ i j,x= .str i/\y= .str j/\i.length+j.length<=sizeLine/\Q (.str (i ++ j)) H)\/VG x y H Q
theorem aN:OpR X (binaryOp .Add) Ab:=Ry.or (BW.or Sg)
def Jv:R2:=fun x y H Q=>(∃ i j,x= .int i/\y= .int j/\CMul i j/\Q (.int (i*j)) H)\/Qq x y H Q\/VH x y H Q
theorem nj:OpR X (binaryOp .Mult) Jv:=Rz.or (Cq.or Sh)
theorem Jw {x:Str} {z:Str} {pos:Pos} (hg:Gl X x) (hm:∃ t,X.mg x=some (.str z t)) (hd:autoParam ((x == ("__debug__":Str))=false) L2.auto2._auto_1):PE X (.Name x pos) (tC (.str z)):=
 let ⟨t,e⟩:=hm;yt hg e ⟨t,rfl⟩ hd
theorem Jx {x:Str} {z:Int} {pos:Pos} (hg:Gl X x) (hm:∃ t,X.mg x=some (.int z t)) (hd:autoParam ((x == ("__debug__":Str))=false) L2.auto2._auto_1):PE X (.Name x pos) (tC (.int z)):=
 let ⟨t,e⟩:=hm;yt hg e ⟨t,rfl⟩ hd
theorem VV {x:Str} {T:String} {pos:Pos} (hg:Gl X x) (hm:X.mg x=none) (hv:bootBuiltins x=some (.type T)) (hn:autoParam (x≠"__name__") L2.auto2._auto_1) (hd:autoParam ((x == ("__debug__":Str))=false) L2.auto2._auto_1):PE X (.Name x pos) (tC (.ty T)):=
 Mj hg hm hv rfl hn hd
def Nu (K:W.Frag):R2:=fun x y H Q=>(∃ i j,x= .str i/\y= .str j/\Q (.bl (!(Builtin.Str.occurrences j i 0 j.length 1).isEmpty)) H)\/Xb K false x y H Q
theorem Sw:OpR X (compareOp .In) (Nu X.K):=Gh.or Gn
def yJ (K:W.Frag):R2:=fun x y H Q=>(∃ i j,x= .str i/\y= .str j/\Q (.bl (!(!(Builtin.Str.occurrences j i 0 j.length 1).isEmpty))) H)\/Xb K true x y H Q
theorem Gz:OpR X (compareOp .NotIn) (yJ X.K):=yF.or yE
def Sy (K:W.Frag):R2:=fun x y H Q=>rEq x y H Q\/VR K false x y H Q
theorem SJ (hu:X.A.units < cLine):OpR X (compareOp .Eq) (Sy X.K):=Vr.or (Gy hu)
def V0 (K:W.Frag):V->Option Int->Option Int->Hp->VK->Prop:=fun x lo hi H Q=>Vz K x lo hi H Q\/Vu K x lo hi H Q\/VP x lo hi H Q
theorem Jy:SlR X (V0 X.K):=Nk.or (RV.or Ss)
def Nv (K:W.Frag) (tl:TE):TI:=fun U H R=>tl U H fun x H1=>(∃ a,x= .ref a/\(∃ xs,SqL K H1 a xs)/\R (Mw K a) H1)\/(∃ a,x= .ref a/\(∃ xs,SqT K H1 a xs)/\R (U9 K a) H1)\/(∃ z,x= .str z/\R (Nt z) H1)
theorem SM {tg l:Expr} {tl:TE} (hl:PE X l tl):PI X tg l (Nv X.K tl):=by
 intro pins s U H R I h
 refine d9 (hl pins s U H _ I h) fun v s1 qq0=>?_
 obtain ⟨x,H1,I1,r1,q1⟩:=qq0
 rcases q1 with ⟨a,rfl,⟨xs,hq⟩,q⟩ | ⟨a,rfl,⟨xs,hq⟩,q⟩ | ⟨z,rfl,q⟩
 ·cases r1
  obtain ⟨its,rv,p,hz⟩:=I1.list hq
  refine wpAny_pyIter_list p.isList ?_
  refine ⟨s1.heap.objs.size,[s1.heap.objs.size],_,_,H1,rfl,I1.kept (t':=s1.toks) fun b o e=>Xn _ e,Gd a _,⟨_,Xu _ rfl,rfl,rfl⟩,fun b hb=>?_,q⟩
  have e:b=s1.heap.objs.size:=by simpa using hb
  subst e
  exact I1.fpOk (Xo _) (I1.hok.fresh (Xo _))
 ·cases r1
  obtain ⟨its,rv,p,hz⟩:=I1.tuple hq
  refine wpAny_pyIter_tuple (show s1.heap.IsTuple a its.toArray from p) ?_
  refine ⟨s1.heap.objs.size,[s1.heap.objs.size],_,_,H1,rfl,I1.kept (t':=s1.toks) fun b o e=>Xn _ e,BP a _,⟨_,Xu _ rfl,rfl,rfl⟩,fun b hb=>?_,q⟩
  have e:b=s1.heap.objs.size:=by simpa using hb
  subst e
  exact I1.fpOk (Xo _) (I1.hok.fresh (Xo _))
 ·obtain ⟨t,rfl⟩:=r1
  have fin:∀ (ty:String) (T:Turn X.prog X.w X.K tg (Nt z) [s1.heap.objs.size] s1.heap.objs.size (fun i h=>h.IsStrIter s1.heap.objs.size ty z t i)) (o:Obj),(s1.heap.push o).IsStrIter s1.heap.objs.size ty z t 0->PIE X pins U tg R (.ref s1.heap.objs.size) {s1 with heap:=s1.heap.push o}:=
   fun ty T o st=>⟨s1.heap.objs.size,[s1.heap.objs.size],_,_,H1,rfl,I1.kept (t':=s1.toks) fun b o e=>Xn _ e,T,st,fun b hb=>by
    have e:b=s1.heap.objs.size:=by simpa using hb
    subst e
    exact I1.fpOk (Xo _) (I1.hok.fresh (Xo _)),q⟩
  cases ha:z.cps.all (· < 128)
  ·exact wpAny_pyIter_wide ha (fin "str_iterator" (z7 _ z t _ (by decide) (fun A' hA=>Walks.strWide hA _ z t) fun A i s Q E st h=>wpAny_pyIter_striter_wide st h) _ ⟨_,Xu _ rfl,rfl,rfl⟩)
  ·exact wpAny_pyIter_ascii ha (fin "str_ascii_iterator" (z7 _ z t _ (by decide) (fun A' hA=>Walks.strAscii hA _ z t) fun A i s Q E st h=>wpAny_pyIter_striter_ascii st h) _ ⟨_,Xu _ rfl,rfl,rfl⟩)
end
section
variable {X:Cx} {K:W.Frag}
theorem Nx (hK:X.K=K):IxR X (RZ K):=hK ▸ R0
theorem Cu (hK:X.K=K):OpR X (compareOp .In) (Nu K):=hK ▸ Sw
theorem GC (hK:X.K=K):OpR X (compareOp .NotIn) (yJ K):=hK ▸ Gz
theorem SN (hK:X.K=K) (hu:X.A.units < cLine):OpR X (compareOp .Eq) (Sy K):=hK ▸ SJ hu
theorem uP (hK:X.K=K):SlR X (V0 K):=hK ▸ Jy
theorem Ny {tg l:Expr} {tl:TE} (hK:X.K=K) (hl:PE X l tl):PI X tg l (Nv K tl):=hK ▸ SM hl
def GD (K:W.Frag):List V->Hp->VK->Prop:=fun xs H Q=>∃ x n,xs=[x]/\Vt K x H n/\Q (.int n) H
theorem aG (hK:X.K=K):CallR X (.builtin "len") (GD K):=hK ▸ IV
theorem iQ (hK:X.K=K):CallR X (.builtin "isinstance") (Su K):=hK ▸ Jt
def Jz (K:W.Frag):List V->Hp->VK->Prop:=fun xs H Q=>(∃ p ys,xs=[.ref p]/\(SqL K H p ys\/SqT K H p ys)/\∀ l,H l=none->Q (.ref l) (upd H l (.lst ys)))\/(∃ x,xs=[.str x]/\x.cps.size<=sizeLine/\∀ p,H p=none->Q (.ref p) (upd H p (.lst (sgn x))))
theorem lw (hK:X.K=K) (hc:X.calm=true):CallR X (.type "list") (Jz K):=hK ▸ yG.or (z9 hc)
variable {o e:Expr} {es:List Expr} {to:TE} {t:TA} {name:Str} {apos cpos:Pos} {T id:String} {r:V->List V->Hp->VK->Prop}
theorem Nz (hK:X.K=K) (pa:PlainAttrs T) (slot:Slot T name id) (hty:typeOf (.builtin id)=pure (.type "method_descriptor")) (hm:Qo X id r) (ho:PE X o to)
  (hbase:autoParam (attributeBase o name X.env (eval o X.env)=eval o X.env) L2.auto4._auto_1) (hline:autoParam ((apos.endLine == cpos.line)=true) L2.auto4._auto_1):PE X (.Call (.Attribute o name apos) [] [] cpos) (Ji K T r to):=by
 subst hK;exact R1 pa slot hty hm ho hbase hline
theorem SQ (hK:X.K=K) (pa:PlainAttrs T) (slot:Slot T name id) (hty:typeOf (.builtin id)=pure (.type "method_descriptor")) (hm:Qo X id r) (ho:PE X o to) (ha:PA X (e :: es) t)
  (hbase:autoParam (attributeBase o name X.env (eval o X.env)=eval o X.env) L2.auto4._auto_1)
  (hfew:((backTo cpos (starEach (e :: es) X.env)).all (fun x=>!x.1) && (backToKw cpos (keywordEach [] X.env)).all (fun x=>x.1.isSome)
   && decide ((e :: es).length+([]:List Keyword).length+(if ([]:List Keyword).isEmpty then 0 else 1) < 30))=true:=by rfl)
  (hline:autoParam ((apos.endLine == cpos.line)=true) L2.auto4._auto_1) (hs:autoParam (starEach (e :: es) X.env=(false,eval e X.env) :: starEach es X.env) L2.auto4._auto_1) (hplain:autoParam ((backTo cpos (starEach es X.env)).any (·.1)=false) L2.auto4._auto_1):
  PE X (.Call (.Attribute o name apos) (e :: es) [] cpos) (VD K T r to t):=by
 subst hK;exact VF pa slot hty hm ho ha hbase hfew hline hs hplain
theorem NB {ts:List Expr} {k:Nat} {gs:Gb} {n:Nat} {pos:Pos} (hK:X.K=K) (hc:X.calm=true) (h:U6 X ts gs)
  (hn:autoParam ((assignEach ts X.env).length=n) L2.auto4._auto_1) (hst:autoParam ((assignEach ts X.env).findIdx? (·.1)=none) L2.auto4._auto_1):PG X (.Tuple ts k pos) (Mv K n gs):=by
 subst hK;exact Rn hc h hn hst
end
section
variable {X:Cx} {sc scope:Scope} {N':List Str} {C:Addr} {s₀:Shared} {H₀:Hp} {ex:List Addr} {x:Str} {pos:Pos}
theorem pvL (i:Nat) (h:sc.names.lookup x=some .local) (hN:autoParam (X.N[i]?=some x) L2.auto4._auto_1) (hsc:autoParam (X.env.scope=sc) L2.auto4._auto_1) (hd:autoParam ((x == ("__debug__":Str))=false) L2.auto6._auto_1) (hcd:autoParam ((x == ("__classdict__":Str))=false) L2.auto6._auto_1):
  PE X (.Name x pos) (m8 i):=yr hN (.inl (by rw [hsc];exact h)) hd hcd
theorem pvC (i:Nat) (h:sc.names.lookup x=some .cell) (hN:autoParam (X.N[i]?=some x) L2.auto4._auto_1) (hsc:autoParam (X.env.scope=sc) L2.auto4._auto_1) (hd:autoParam ((x == ("__debug__":Str))=false) L2.auto6._auto_1) (hcd:autoParam ((x == ("__classdict__":Str))=false) L2.auto6._auto_1):
  PE X (.Name x pos) (m8 i):=yr hN (.inr (.inl (by rw [hsc];exact h))) hd hcd
theorem pvBL (i:Nat) (h:scope.names.lookup x=some .local) (hN:autoParam (N'[i]?=some x) L2.auto4._auto_1) (hd:autoParam ((x == ("__debug__":Str))=false) L2.auto6._auto_1) (hcd:autoParam ((x == ("__classdict__":Str))=false) L2.auto6._auto_1):
  PE (qu X N' scope C s₀ H₀ ex) (.Name x pos) (m8 i):=yr hN (.inl (lookup_relabel_local h)) hd hcd
theorem pvBF (i:Nat) (h:scope.names.lookup x=some .free) (hN:autoParam (N'[i]?=some x) L2.auto4._auto_1) (hd:autoParam ((x == ("__debug__":Str))=false) L2.auto6._auto_1) (hcd:autoParam ((x == ("__classdict__":Str))=false) L2.auto6._auto_1):
  PE (qu X N' scope C s₀ H₀ ex) (.Name x pos) (m8 i):=yr hN (by
   rcases rJ (env:=X.env) h with z | z
   ·exact .inr (.inl z)
   ·exact .inr (.inr z)) hd hcd
theorem jV {env:Env}:∀ {names:List (Str×NameKind)} {x:Str},names.lookup x=some .globalImplicit->
  (names.map fun (n,k)=>if (k == NameKind.free && env.scope.kind == .function && env.kindOf n == some .cell) then (n,NameKind.cell) else (n,k)).lookup x=some .globalImplicit
 | [],_,h=>by simp at h
 | (n,k) :: r,x,h=>by
  have ih:=@jV env r x
  show List.lookup x ((if (k == NameKind.free && env.scope.kind == .function && env.kindOf n == some .cell)=true then (n,NameKind.cell) else (n,k)) :: _)=_
  cases hx:x == n with
  | true=>
   simp only [Yc,hx] at h
   cases h
   simp [Yc,hx]
  | false=>
   simp only [Yc,hx] at h
   by_cases hc:(k == NameKind.free && env.scope.kind == .function && env.kindOf n == some .cell)=true
   ·rw [if_pos hc];simp only [Yc,hx];exact ih h
   ·rw [if_neg hc];simp only [Yc,hx];exact ih h
theorem SX (h:scope.names.lookup x=some .globalImplicit):Gl (qu X N' scope C s₀ H₀ ex) x:=jV h
theorem pgB (i:Nat) (h:scope.names.lookup x=some .local) (hN:N'.Nodup) (hi:autoParam (N'[i]?=some x) L2.auto4._auto_1):PG (qu X N' scope C s₀ H₀ ex) (.Name x pos) (qz i):=
 DG hN hi (.inl (lookup_relabel_local h)) (.inr (lookup_relabel_local h))
end
def lR:Expr->Bool
 | .ListComp ..=>false | .SetComp ..=>false | .DictComp ..=>false | _=>true
theorem Ac {value:Expr} {target:Option Expr} {line:Nat} {env:Env} (h:lR value=true):swapsWith value target line env=pure false:=by
 cases value <;> first | rfl | cases h
def oZ:Expr->Bool
 | .Slice ..=>false | _=>true
theorem pix {b:Expr} (h:oZ b=true):Ec b:=by
 intro o i
 cases b <;> first | rfl | cases h
def sY:Expr->Bool
 | .Set ..=>false | _=>true
theorem JC {e:Expr} {env:Env} (h:sY e=true):∀ x,foldedSetIterable e env x=pure x:=by
 intro x
 cases e <;> first | rfl | cases h
def notStar:Expr->Bool
 | .Starred ..=>false | _=>true
theorem bJ {e:Expr} {es:List Expr} {env:Env} (h:notStar e=true):starEach (e :: es) env=(false,eval e env) :: starEach es env:=by
 cases e <;> first | rfl | cases h
theorem mC {env:Env} {pos:Pos}:∀ {es:List Expr},es.all notStar=true->(backTo pos (starEach es env)).any (·.1)=false
 | [],_=>rfl
 | e :: es,h=>by
  simp only [Yn,Xx] at h
  rw [bJ h.1]
  show (false || (backTo pos (starEach es env)).any (·.1))=false
  rw [mC h.2];rfl
theorem JD {env:Env} {pos:Pos}:∀ {es:List Expr},es.all notStar=true->(backTo pos (starEach es env)).all (fun x=>!x.1)=true
 | [],_=>rfl
 | e :: es,h=>by
  simp only [Yn,Xx] at h
  rw [bJ h.1]
  show (true && (backTo pos (starEach es env)).all (fun x=>!x.1))=true
  rw [JD h.2];rfl
section
variable {X:Cx} {K:W.Frag} {e:Expr} {es:List Expr} {te:TE} {t:TA} {pos p:Pos}
theorem paC (ha:PE X e te) (hr:PA X es t) (h:autoParam (notStar e=true) L2.auto4._auto_1):PA X (e :: es) (Ea te t):=M8 ha hr (bJ h)
theorem V1 {k:Nat} {x:Str} {ps:List Str} {sp:Sp} (F:Has X.prog X.w X.K X.mg X.base k x ps sp) (hr:Room k X.A) (hg:Gl X x) (ha:PA X (e :: es) t) (hdb:(x == ("__debug__":Str))=false) (h:autoParam ((e :: es).all notStar=true) L2.auto4._auto_1):
  PE X (.Call (.Name x p) (e :: es) [] pos) (xm sp [] E0 t):=by
 simp only [Yn,Xx] at h
 exact Ju F hr hg ha hdb (bJ h.1) (mC h.2)
theorem V2 {x:Str} {id:String} {r:List V->Hp->VK->Prop} (hc:CallR X (.builtin id) r) (hg:Gl X x) (hm:X.mg x=none) (hv:bootBuiltins x=some (.builtin id)) (ha:PA X (e :: es) t) (hn:x≠"__name__") (hdb:(x == ("__debug__":Str))=false) (h:autoParam ((e :: es).all notStar=true) L2.auto4._auto_1):
  PE X (.Call (.Name x p) (e :: es) [] pos) (RT r t):=by
 simp only [Yn,Xx] at h
 exact Jb hc hg hm hv ha hn hdb (bJ h.1) (mC h.2)
theorem S9 {x:Str} {T:String} {r:List V->Hp->VK->Prop} (hc:CallR X (.type T) r) (hg:Gl X x) (hm:X.mg x=none) (hv:bootBuiltins x=some (.type T)) (ha:PA X (e :: es) t) (hn:x≠"__name__") (hdb:(x == ("__debug__":Str))=false) (h:autoParam ((e :: es).all notStar=true) L2.auto4._auto_1):
  PE X (.Call (.Name x p) (e :: es) [] pos) (RT r t):=by
 simp only [Yn,Xx] at h
 exact Gm hc hg hm hv ha hn hdb (bJ h.1) (mC h.2)
def nq:Expr->Bool
 | .Call ..=>false | _=>true
theorem Qs {o:Expr} {f:Str} {env:Env} {w:Sem Value} (h:nq o=true):attributeBase o f env w=w:=by
 cases o <;> first | rfl | cases h
theorem V3 {o:Expr} {to:TE} {name:Str} {apos cpos:Pos} {T id:String} {r:V->List V->Hp->VK->Prop} (hK:X.K=K) (pa:PlainAttrs T) (slot:Slot T name id) (hty:typeOf (.builtin id)=pure (.type "method_descriptor")) (hm:Qo X id r) (ho:PE X o to) (ha:PA X (e :: es) t)
  (hbase:autoParam (nq o=true) L2.auto4._auto_1) (hl:autoParam (es.length < 20) L2.auto2._auto_1) (hline:autoParam ((apos.endLine == cpos.line)=true) L2.auto4._auto_1) (h:autoParam ((e :: es).all notStar=true) L2.auto4._auto_1):
  PE X (.Call (.Attribute o name apos) (e :: es) [] cpos) (VD K T r to t):=by
 have hA:=JD (env:=X.env) (pos:=cpos) h
 simp only [Yn,Xx] at h
 refine SQ hK pa slot hty hm ho ha (Qs hbase) ?_ hline (bJ h.1) (mC h.2)
 rw [hA]
 have:(e :: es).length+([]:List Keyword).length+(if ([]:List Keyword).isEmpty then 0 else 1) < 30:=by simp;omega
 rw [XF this];rfl
theorem Tc {o:Expr} {to:TE} {name:Str} {apos cpos:Pos} {T id:String} {r:V->List V->Hp->VK->Prop} (hK:X.K=K) (pa:PlainAttrs T) (slot:Slot T name id) (hty:typeOf (.builtin id)=pure (.type "method_descriptor")) (hm:Qo X id r) (ho:PE X o to)
  (hbase:autoParam (nq o=true) L2.auto4._auto_1) (hline:autoParam ((apos.endLine == cpos.line)=true) L2.auto4._auto_1):PE X (.Call (.Attribute o name apos) [] [] cpos) (Ji K T r to):=
 Nz hK pa slot hty hm ho (Qs hbase) hline
theorem V4 {i:Nat} {x:Str} {pos':Pos} (hN:X.N.Nodup) (hi:X.N[i]?=some x) (hx:Loc X.env.scope x) (he:PE X e te) (hf:X.fn x=true) (h:autoParam (lR e=true) L2.auto4._auto_1):PS X (.Assign [.Name x pos'] e pos) (zJ te (qz i)):=
 Il hN hi hx he (Ac h) (.inl hf)
theorem Td (he:PE X e te) (h:autoParam (lR e=true) L2.auto4._auto_1):PS X (.Expr e pos) (Dz te):=Ms he (Ac h)
theorem ixE {a b:Expr} {ta tb:TE} (hK:X.K=K) (ha:PE X a ta) (hb:PE X b tb) (h:autoParam (oZ b=true) L2.auto4._auto_1):PE X (.Subscript a b pos) (Iu (RZ K) ta tb):=Vv (Nx hK) ha hb (pix h)
theorem V5 {tg iter:Expr} {body:List Stmt} {wi:TI} {g:TG} {tb:TS} (hp:PassesOwn (model X.prog X.w) X.A X.env X.xe) (hc:X.calm=true) (hi:PI X tg iter wi) (hg:PG X tg g) (hb:PSs X body tb) (h:autoParam (sY iter=true) L2.auto4._auto_1):PS X (.For tg iter body [] pos) (Mx wi g tb):=
 Rv hp hc hi hg hb (JC h)
end
section
variable {X:Cx} {tg iter elt:Expr} {ifs:List Expr} {scope:Scope} {pos:Pos} {N':List Str} {sub:List (Option Nat)} {wi:TI} {g:TG} {tt:TT} {te:TE} {N:List Str} {sc:Scope}
theorem V6 (S:ug N sc N' scope sub) (hc:X.calm=true) (hN:X.N=N) (hsc:X.env.scope=sc) (hi:PI X tg iter wi)
  (hg:∀ (C:Addr) (s₀:Shared) (H₀:Hp) (ex:List Addr),PG (qu X N' scope C s₀ H₀ ex) tg g)
  (ht:∀ (C:Addr) (s₀:Shared) (H₀:Hp) (ex:List Addr),zU (qu X N' scope C s₀ H₀ ex) ifs tt)
  (he:∀ (C:Addr) (s₀:Shared) (H₀:Hp) (ex:List Addr),PE (qu X N' scope C s₀ H₀ ex) elt te) (h:autoParam (sY iter=true) L2.auto4._auto_1):
  PE X (.ListComp elt [⟨tg,iter,ifs,0⟩] scope pos) (vB sub wi g tt te):=Eg S hc hN hsc hi hg ht he (JC h)
end
theorem aZ:bootBuiltins "len"=some (.builtin "len"):=by trivial
theorem bx:bootBuiltins "isinstance"=some (.builtin "isinstance"):=by trivial
theorem JF:bootBuiltins "all"=some (.builtin "all"):=by trivial
theorem Te:bootBuiltins "any"=some (.builtin "any"):=by trivial
theorem jf:bootBuiltins "list"=some (.type "list"):=by trivial
theorem JK:bootBuiltins "tuple"=some (.type "tuple"):=by trivial
theorem Tf:bootBuiltins "int"=some (.type "int"):=by trivial
theorem Cv:bootBuiltins "str"=some (.type "str"):=by trivial
theorem yK:bootBuiltins "enumerate"=some (.type "enumerate"):=by trivial
theorem uh:bootBuiltins "reversed"=some (.type "reversed"):=by trivial
theorem Ei:bootBuiltins "bool"=some (.type "bool"):=by trivial
theorem sZ {c A B:Prop} [Decidable c] (h1:c->A) (h2:¬ c->B):if decide c=true then A else B:=by
 by_cases h:c
 ·rw [if_pos (XF h)];exact h1 h
 ·rw [if_neg (by rw [XD h];exact Xq)];exact h2 h
theorem iteB {b:Bool} {A B:Prop} (h1:b=true->A) (h2:b=false->B):if b=true then A else B:=by
 cases b with
 | true=>rw [if_pos rfl];exact h1 rfl
 | false=>rw [if_neg Xq];exact h2 rfl
theorem Ej {α:Type} {xs:List α} {k:Int} {v:α} (h0:0<=k) (h:xs[k.toNat]?=some v):zO xs k=some v:=by
 have e:((k.toNat:Nat):Int)=k:=by omega
 rw [← e]
 exact p8 h
section
variable {U:St} {H:Hp} {D:Ends} {ta tb te tc:TE} {tt tu:TT} {Q:VK} {t u:TS} {g:TG}
theorem lU (h:t {D with nx:=u D} U H):Ie t u D U H:=h
theorem cR (h:D.nx U H):Ib D U H:=h
theorem fV (h:te U H fun x H1=>g x U H1 D.nx):zJ te g D U H:=h
theorem cT {i:Nat} {v:V} {R:St->Hp->Prop} (h:R (U.set i (some v)) H):qz i v U H R:=h
theorem fW {to ti:TE} {ts:BK} {v:V} {R:St->Hp->Prop} (h:to U H fun o H1=>ti U H1 fun i H2=>ts o i v H2 fun H3=>R U H3):Ro to ti ts v U H R:=h
theorem fX (h:te U H D.rt):Ri te D U H:=h
theorem cU (h:te U H fun _ H1=>D.nx U H1):Dz te D U H:=h
theorem jY (h:tt U H fun b H1=>if b=true then t D U H1 else u D U H1):Rk tt t u D U H:=h
theorem cV {R:Bool->Hp->Prop} (h:te U H fun x H1=>∃ k,x= .bl k/\R k H1):DX te U H R:=h
theorem jZ {R:Bool->Hp->Prop} (h:te U H fun x H1=>∃ k,x= .bl k/\R k H1):tB te U H R:=h
theorem fY {R:Bool->Hp->Prop} (h:tt U H fun c H1=>R (!c) H1):Q8 tt U H R:=h
theorem fZ {R:Bool->Hp->Prop} (h:tt U H fun c H1=>if c=true then tu U H1 R else R false H1):Ml tt tu U H R:=h
theorem j0 {R:Bool->Hp->Prop} (h:tt U H fun c H1=>if c=true then R true H1 else tu U H1 R):tOr tt tu U H R:=h
theorem cW (h:ta U H fun x H1=>∃ c,x= .bl c/\if c=true then tb U H1 Q else Q (.bl false) H1):HX ta tb U H Q:=h
theorem f9 (h:ta U H fun x H1=>∃ c,x= .bl c/\if c=true then Q (.bl true) H1 else tb U H1 Q):Rc ta tb U H Q:=h
theorem cX (h:ta U H fun x H1=>∃ c,x= .bl c/\Q (.bl (!c)) H1):HY ta U H Q:=h
theorem gb (h:tt U H fun c H1=>if c=true then ta U H1 Q else tb U H1 Q):tIf tt ta tb U H Q:=h
theorem gf {i:Nat} {v:V} (e:U[i]?=some (some v)) (h:Q v H):m8 i U H Q:=⟨v,e,h⟩
theorem uQ {v:V} (h:Q v H):tC v U H Q:=h
theorem j4 {r:R2} (h:ta U H fun x H1=>tb U H1 fun y H2=>r x y H2 Q):Iu r ta tb U H Q:=h
theorem j5 {r:V->Hp->VK->Prop} (h:ta U H fun x H1=>r x H1 Q):tUn r ta U H Q:=h
theorem j6 {r:List V->Hp->VK->Prop} {a:TA} (h:a U H fun vs H1=>r vs H1 Q):RT r a U H Q:=h
theorem cY {a:TA} {R:List V->Hp->Prop} (h:te U H fun x H1=>a U H1 fun xs H2=>R (x :: xs) H2):Ea te a U H R:=h
theorem gj {R:List V->Hp->Prop} (h:R [] H):M6 U H R:=h
theorem cZ {sp:Sp} {E:XK} {a:TA} (h:a U H fun vs H1=>sp vs H1 Q E):xm sp [] E a U H Q:=by
 unfold xm
 simpa only [X6] using h
theorem xM {a:TA} (h:a U H fun xs H1=>xs.length<=sizeLine/\∀ p,H1 p=none->Q (.ref p) (upd H1 p (.tup xs))):Nb a U H Q:=h
theorem xN {a:TA} (h:a U H fun xs H1=>xs.length<=sizeLine/\∀ p,H1 p=none->Q (.ref p) (upd H1 p (.lst xs))):Nf a U H Q:=h
theorem j7 {K:W.Frag} {T:String} {r:V->List V->Hp->VK->Prop} {a:TA} (h:te U H fun x H1=>VB K T x H1/\a U H1 fun xs H2=>r x xs H2 Q):VD K T r te a U H Q:=h
theorem gk {K:W.Frag} {T:String} {r:V->List V->Hp->VK->Prop} (h:te U H fun x H1=>VB K T x H1/\r x [] H1 Q):Ji K T r te U H Q:=h
theorem j8 {r:V->Option Int->Option Int->Hp->VK->Prop} {tl th:TO} (h:te U H fun x H1=>tl U H1 fun l H2=>th U H2 fun u H3=>r x l u H3 Q):tSl r te tl th U H Q:=h
theorem gn {R:Option Int->Hp->Prop} (h:R none H):yx U H R:=h
theorem c7 {R:Option Int->Hp->Prop} (h:te U H fun x H1=>∃ i,x= .int i/\R (some i) H1):Jd te U H R:=h
theorem dg {R:Bool->Hp->Prop} (h:R true H):Jm U H R:=h
theorem dh {a:TA} {R:It->Hp->Prop} (h:a U H fun vs H1=>∃ j:Int,vs=[.int j]/\-(2 ^ 62)<=j/\j < 2 ^ 62/\R (HR 0 j.toNat) H1):Io a U H R:=h
theorem di {a:TA} {R:It->Hp->Prop} (h:a U H fun vs H1=>∃ i j:Int,vs=[.int i,.int j]/\(-(2 ^ 62)<=i/\i < 2 ^ 62/\-(2 ^ 62)<=j/\j < 2 ^ 62)/\R (HR i (j - i).toNat) H1):Ip a U H R:=h
theorem dj {K:W.Frag} {R:It->Hp->Prop} (h:te U H fun x H1=>(∃ a,x= .ref a/\(∃ xs,SqL K H1 a xs)/\R (Mw K a) H1)\/(∃ a,x= .ref a/\(∃ xs,SqT K H1 a xs)/\R (U9 K a) H1)\/(∃ z,x= .str z/\R (Nt z) H1)):Nv K te U H R:=h
theorem dm {sub:List (Option Nat)} {wi:TI} (h:wi U H fun J H1=>qD sub g tt te U Q J H1):vB sub wi g tt te U H Q:=h
theorem gq {wi:TI} {tbd:TS} (h:wi U H fun J H1=>∃ W:Nat->Nat->St->Hp->Prop,(∃ m,W 0 m U H1)/\∀ i m U H,W i m U H->
 (J.stop i H/\D.nx U H)\/(J.go i H/\∃ N:St->Hp->Prop,(∀ U' H',N U' H'->∃ m',m' < m/\W (i+1) m' U' H')/\∀ x H',J.yld i H x H'->g x U H' fun σ2 H2=>tbd {D with nx:=N,ct:=N,bk:=D.nx} σ2 H2)):Mx wi g tbd D U H:=h
variable {i j:Int} {x y:Str} {f:Int->Int->V} {C:Int->Int->Prop} {K:W.Frag}
theorem j9 (h:Q (f i j) H):Iv f (.int i) (.int j) H Q:=⟨_,_,rfl,rfl,h⟩
theorem uR (c:C i j) (h:Q (f i j) H):rI C f (.int i) (.int j) H Q:=⟨_,_,rfl,rfl,c,h⟩
theorem dq (h:Q (.int (i+j)) H):Ab (.int i) (.int j) H Q:=.inl ⟨_,_,rfl,rfl,h⟩
theorem fP (c:x.length+y.length<=sizeLine) (h:Q (.str (x ++ y)) H):Ab (.str x) (.str y) H Q:=.inr (.inl ⟨_,_,rfl,rfl,c,h⟩)
theorem yL {a b:Addr} {xs ys:List V} (ha:H a=some (.lst xs)) (hb:H b=some (.lst ys)) (c:xs.length+ys.length<=sizeLine) (h:∀ p,H p=none->Q (.ref p) (upd H p (.lst (xs ++ ys)))):Ab (.ref a) (.ref b) H Q:=
 .inr (.inr ⟨a,b,xs,ys,rfl,rfl,ha,hb,c,h⟩)
theorem dB (c:CMul i j) (h:Q (.int (i*j)) H):Jv (.int i) (.int j) H Q:=.inl ⟨_,_,rfl,rfl,c,h⟩
theorem b7 {p:Addr} {xs:List V} {v:V} (s:SqL K H p xs) (e:zO xs i=some v) (h:Q v H):RZ K (.ref p) (.int i) H Q:=.inl ⟨p,xs,i,v,rfl,rfl,s,e,h⟩
theorem Ek {c:Nat} (s:x.length<=sizeLine) (e:zO x.cps.toList i=some c) (h:Q (.str ⟨#[c]⟩) H):RZ K (.str x) (.int i) H Q:=.inr (.inr ⟨x,i,c,rfl,rfl,s,e,h⟩)
theorem cC {p:Addr} {xs:List V} {n:Nat} {v:V} {R:Hp->Prop} (hp:H p=some (.lst xs)) (e:HS xs.length i=some n) (h:R (upd H p (.lst (xs.set n v)))):Jf (.ref p) (.int i) v H R:=⟨p,xs,i,n,rfl,rfl,hp,e,h⟩
theorem fJ (h:Q (.bl (!(Builtin.Str.occurrences y x 0 y.length 1).isEmpty)) H):Nu K (.str x) (.str y) H Q:=.inl ⟨_,_,rfl,rfl,h⟩
theorem kh {b:Bool} {R:Bool->Prop} (h:R b):∃ k,V.bl b= .bl k/\R k:=⟨b,rfl,h⟩
theorem dD {n:Int} {R:Int->Prop} (h:R n):∃ k,V.int n= .int k/\R k:=⟨n,rfl,h⟩
end
theorem Same.upd {H H':Hp} {p:Addr} {o:HO} (s:Same H H') (hn:H' p=none):Same H (upd H' p o):=fun b u e=>by
 have q:=s b u e
 rw [aD (fun z=>by rw [z,hn] at q;cases q)]
 exact q
def Chg (p:Addr) (H H':Hp):Prop:=∀ b o,b≠p->H b=some o->H' b=some o
theorem Chg.refl (p:Addr) (H:Hp):Chg p H H:=fun _ _ _ e=>e
theorem Chg.trans {p:Addr} {H H1 H2:Hp} (a:Chg p H H1) (b:Chg p H1 H2):Chg p H H2:=fun c o n e=>b c o n (a c o n e)
theorem Chg.new {p q:Addr} {H H1:Hp} {o:HO} (a:Chg p H H1) (hn:H1 q=none):Chg p H (upd H1 q o):=fun b u n e=>by
 have z:=a b u n e
 rw [aD (fun k=>by rw [k,hn] at z;cases z)]
 exact z
theorem eV {H:Hp} {q b:Addr} {o u:HO} (hq:H q=none) (hb:H b=some u):upd H q o b=some u:=by
 rw [aD (fun z=>by rw [z,hq] at hb;cases hb)];exact hb
theorem vG (c:Nat):(⟨#[c]⟩:Str).length=1:=by simp [Str.length]
section
variable {H:Hp} {Q:VK} {K:W.Frag}
theorem eO {p:Addr} {xs:List V} (s:SqL K H p xs) (h:Q (.int xs.length) H):GD K [V.ref p] H Q:=⟨_,_,rfl,.inl ⟨_,s,rfl⟩,h⟩
theorem yM {p:Addr} {xs:List V} (s:SqT K H p xs) (h:Q (.int xs.length) H):GD K [V.ref p] H Q:=⟨_,_,rfl,.inr ⟨_,s,rfl⟩,h⟩
theorem cj {z:Str} (s:z.length<=sizeLine) (h:Q (.int z.length) H):GD K [V.str z] H Q:=⟨_,_,rfl,⟨s,rfl⟩,h⟩
theorem kj {i j:Int} {R:Int->Int->Prop} (h:R i j):∃ a b,[V.int i,V.int j]=[.int a,.int b]/\R a b:=⟨_,_,rfl,h⟩
theorem o4 {x:V} {T:String} {t:Value} {b:Bool} (ty:TyOf K H x t) (e:PySem.W.kitOne K t (.type T)=some b) (h:Q (.bl b) H):Su K [x,.ty T] H Q:=⟨x,T,t,b,rfl,ty,e,h⟩
theorem V7 {x:Str} {lo hi:Option Int} (hz:x.length<=sizeLine) (h:Q (.str (Txt.slice x lo hi)) H):V0 K (.str x) lo hi H Q:=.inr (.inr ⟨x,rfl,hz,h⟩)
theorem Ad {p:Addr} {xs:List V} {lo hi:Option Int} (s:SqL K H p xs) (h:∀ q,H q=none->Q (.ref q) (upd H q (.lst (oW xs lo hi)))):V0 K (.ref p) lo hi H Q:=.inl ⟨p,xs,rfl,s,h⟩
end
section
variable {U:St} {H:Hp} {Q:VK}
theorem uT {K:W.Frag} {a:Addr} {xs:List V} (s:SqL K H a xs) (h:∀ p,H p=none->Q (.ref p) (upd H p (.lst xs))):Jz K [.ref a] H Q:=.inl ⟨a,xs,rfl,.inl s,h⟩
end
theorem TyOf.mono {K:W.Frag} {H H':Hp} {v:V} {T:String} (h:TyOf K H v (.type T)) (s:∀ b o,H b=some o->v= .ref b->H' b=some o):TyOf K H' v (.type T):=by
 generalize e:(Value.type T)=t at h
 cases h with
 | non=>exact .non
 | bl x=>exact .bl x
 | int i=>exact .int i
 | str x=>exact .str x
 | flt x=>exact .flt x
 | lst z=>exact .lst (s _ _ z rfl)
 | frz z=>exact .frz (s _ _ z rfl)
 | tup z=>exact .tup (s _ _ z rfl)
 | dK z=>exact .dK (s _ _ z rfl)
 | dT z=>exact .dT (s _ _ z rfl)
 | ins=>cases e
theorem JL {sub:List (Option Nat)} {g:TG} {tt:TT} {te:TE} {U:St} {Q:VK} {H:Hp} {lo:Int} {n:Nat} (Pv:Nat->List V->Hp->Prop) (hn:n<=sizeLine) (h0:Pv 0 [] H) (hl:∀ i ys H,Pv i ys H->ys.length<=i)
  (hs:∀ i ys H,i < n->Pv i ys H->g (.int (lo+i)) (dN sub U) H fun σ2 H2=>KeepSt (dN sub U) σ2/\tt σ2 H2 fun b H3=>if b=true then te σ2 H3 fun y H4=>Pv (i+1) (ys ++ [y]) H4 else Pv (i+1) ys H3)
  (hd:∀ ys H,Pv n ys H->∀ D,H D=none->Q (.ref D) (upd H D (.lst ys))):qD sub g tt te U Q (HR lo n) H:=
 yI (n:=n) Pv hn h0 hl (fun i ys H hi _=>hi) (fun ys H _=>Xo _) (fun i ys H x H' hi p y=>by
  obtain ⟨e1,e2⟩:=y
  subst e1 e2
  exact hs i ys _ hi p) hd
theorem Ae {sub:List (Option Nat)} {g:TG} {tt:TT} {te:TE} {U:St} {Q:VK} {H:Hp} {z:Str} (Pv:Nat->List V->Hp->Prop) (hn:z.cps.size<=sizeLine) (h0:Pv 0 [] H) (hl:∀ i ys H,Pv i ys H->ys.length<=i)
  (hs:∀ i ys H c,z.cps.toList[i]?=some c->Pv i ys H->g (.str ⟨#[c]⟩) (dN sub U) H fun σ2 H2=>KeepSt (dN sub U) σ2/\tt σ2 H2 fun b H3=>if b=true then te σ2 H3 fun y H4=>Pv (i+1) (ys ++ [y]) H4 else Pv (i+1) ys H3)
  (hd:∀ ys H,Pv z.cps.size ys H->∀ D,H D=none->Q (.ref D) (upd H D (.lst ys))):qD sub g tt te U Q (Nt z) H:=
 yI (n:=z.cps.size) Pv hn h0 hl (fun i ys H hi _=>hi) (fun ys H _=>rfl) (fun i ys H x H' hi p y=>by
  obtain ⟨e1,c,e2,e3⟩:=y
  subst e1 e3
  exact hs i ys _ c (by simpa using e2) p) hd
theorem GF {sub:List (Option Nat)} {g:TG} {tt:TT} {te:TE} {U:St} {Q:VK} {H:Hp} {K:W.Frag} {a:Addr} {xs:List V} (Pv:Nat->List V->Hp->Prop) (hn:xs.length<=sizeLine) (h0:Pv 0 [] H) (hl:∀ i ys H,Pv i ys H->ys.length<=i)
  (hq:∀ i ys H,Pv i ys H->SqL K H a xs)
  (hs:∀ i ys H x,xs[i]?=some x->Pv i ys H->g x (dN sub U) H fun σ2 H2=>KeepSt (dN sub U) σ2/\tt σ2 H2 fun b H3=>if b=true then te σ2 H3 fun y H4=>Pv (i+1) (ys ++ [y]) H4 else Pv (i+1) ys H3)
  (hd:∀ ys H,Pv xs.length ys H->∀ D,H D=none->Q (.ref D) (upd H D (.lst ys))):qD sub g tt te U Q (Mw K a) H:=
 yI (n:=xs.length) Pv hn h0 hl (fun i ys H hi p=>⟨xs,xs[i],hq i ys H p,Xk hi⟩) (fun ys H p=>⟨xs,hq _ ys H p,Xo _⟩) (fun i ys H x H' hi p y=>by
  obtain ⟨e1,e2⟩:=y
  subst e1
  exact hs i ys _ x (e2 xs (hq i ys _ p)) p) hd
structure JE (X:Cx) (e:Expr) (t:TE):Prop where
 run:PE X e t
structure JT (X:Cx) (e:Expr) (t:TT):Prop where
 run:PT X e t
structure JW (X:Cx) (e:Expr) (t:TT):Prop where
 run:PW X e t
structure JA (X:Cx) (es:List Expr) (t:TA):Prop where
 run:PA X es t
structure JS (X:Cx) (s:Stmt) (t:TS):Prop where
 run:PS X s t
structure JB (X:Cx) (s:List Stmt) (t:TS):Prop where
 run:PSs X s t
structure JI (X:Cx) (tg iter:Expr) (t:TI):Prop where
 run:PI X tg iter t
structure JG (X:Cx) (tg:Expr) (t:TG):Prop where
 run:PG X tg t
structure Xc (X:Cx) (tg:List Expr) (t:Gb):Prop where
 run:U6 X tg t
structure JO (X:Cx) (e:Option Expr) (t:TO):Prop where
 run:PO X e t
structure Tg (X:Cx) (ifs:List Expr) (t:TT):Prop where
 run:zU X ifs t
section
variable {X:Cx} {K:W.Frag} {sc scope:Scope} {N':List Str} {C:Addr} {s₀:Shared} {H₀:Hp} {ex:List Addr} {x:Str} {pos p p2 pos' apos cpos tpos:Pos} {a b c e o:Expr} {es:List Expr} {ta tb tc te to ti:TE} {t:TA} {tA tB' tt:TT} {rest:List Expr}
theorem Cw (i:Nat) (h:sc.names.lookup x=some .local) (hN:autoParam (X.N[i]?=some x) L2.auto4._auto_1) (hsc:autoParam (X.env.scope=sc) L2.auto4._auto_1) (hd:autoParam ((x == ("__debug__":Str))=false) L2.auto6._auto_1) (hcd:autoParam ((x == ("__classdict__":Str))=false) L2.auto6._auto_1):JE X (.Name x pos) (m8 i):=⟨pvL i h hN hsc hd hcd⟩
theorem j_vC (i:Nat) (h:sc.names.lookup x=some .cell) (hN:autoParam (X.N[i]?=some x) L2.auto4._auto_1) (hsc:autoParam (X.env.scope=sc) L2.auto4._auto_1) (hd:autoParam ((x == ("__debug__":Str))=false) L2.auto6._auto_1) (hcd:autoParam ((x == ("__classdict__":Str))=false) L2.auto6._auto_1):JE X (.Name x pos) (m8 i):=⟨pvC i h hN hsc hd hcd⟩
theorem oK (i:Nat) (h:scope.names.lookup x=some .local) (hN:autoParam (N'[i]?=some x) L2.auto4._auto_1) (hd:autoParam ((x == ("__debug__":Str))=false) L2.auto6._auto_1) (hcd:autoParam ((x == ("__classdict__":Str))=false) L2.auto6._auto_1):JE (qu X N' scope C s₀ H₀ ex) (.Name x pos) (m8 i):=⟨pvBL i h hN hd hcd⟩
theorem vH (i:Nat) (h:scope.names.lookup x=some .free) (hN:autoParam (N'[i]?=some x) L2.auto4._auto_1) (hd:autoParam ((x == ("__debug__":Str))=false) L2.auto6._auto_1) (hcd:autoParam ((x == ("__classdict__":Str))=false) L2.auto6._auto_1):JE (qu X N' scope C s₀ H₀ ex) (.Name x pos) (m8 i):=⟨pvBF i h hN hd hcd⟩
theorem aL {i j}:JE X (.Constant (.int i) j pos) (tC (.int i)):=⟨Q5⟩
theorem mD {i j}:JE X (.Constant (.bool i) j pos) (tC (.bl i)):=⟨Vk⟩
theorem lV {i j}:JE X (.Constant (.str i) j pos) (tC (.str i)):=⟨Q6⟩
theorem vI {z:Str} (hg:Gl X x) (hm:∃ t,X.mg x=some (.str z t)) (hd:(x == ("__debug__":Str))=false):JE X (.Name x pos) (tC (.str z)):=⟨Jw hg hm hd⟩
theorem vJ {z:Int} (hg:Gl X x) (hm:∃ t,X.mg x=some (.int z t)) (hd:(x == ("__debug__":Str))=false):JE X (.Name x pos) (tC (.int z)):=⟨Jx hg hm hd⟩
theorem wI {T:String} (hg:Gl X x) (hm:X.mg x=none) (hv:bootBuiltins x=some (.type T)) (hn:x≠"__name__") (hd:(x == ("__debug__":Str))=false):JE X (.Name x pos) (tC (.ty T)):=⟨VV hg hm hv hn hd⟩
theorem bc {op:Operator} {r:R2} (ho:OpR X (binaryOp op) r) (ha:JE X a ta) (hb:JE X b tb):JE X (.BinOp a op b pos) (Iu r ta tb):=⟨Vo ho ha.run hb.run⟩
theorem j_un {op:UnaryOp} {r:V->Hp->VK->Prop} (ho:W9 X (unaryOp op) r) (ha:JE X a ta):JE X (.UnaryOp op a pos) (tUn r ta):=⟨Vp ho ha.run⟩
theorem o5 {op:CmpOp} {r:R2} (ho:OpR X (compareOp op) r) (ha:JE X a ta) (hb:JE X b tb) (hm:behindInMarks op b=false):JE X (.Compare a [op] [b] pos) (Iu r ta tb):=⟨MJ ho ha.run hb.run hm⟩
theorem bF {op:CmpOp} {r:R2} (ho:OpR X (compareOp op) r) (ha:JE X a ta) (hb:JE X b tb) (hm:behindInMarks op b=false):JT X (.Compare a [op] [b] pos) (DX (Iu r ta tb)):=⟨MK ho ha.run hb.run hm⟩
theorem uU (ha:JT X a tA):JW X (.BoolOp .And [a] pos) tA:=⟨Mm ha.run⟩
theorem jo (ha:JT X a tA):JW X (.BoolOp .Or [a] pos) tA:=⟨Q9 ha.run⟩
theorem yN (ha:JT X a tA) (hb:JW X (.BoolOp .And (b :: rest) pos) tB'):JW X (.BoolOp .And (a :: b :: rest) pos) (Ml tA tB'):=⟨Ra ha.run hb.run⟩
theorem jW (ha:JT X a tA) (hb:JW X (.BoolOp .Or (b :: rest) pos) tB'):JW X (.BoolOp .Or (a :: b :: rest) pos) (tOr tA tB'):=⟨Vl ha.run hb.run⟩
theorem jJ (h:JW X e tt):JT X e tt:=⟨h.run.pt⟩
theorem dR (ha:JT X a tA):JT X (.UnaryOp .Not a pos) (Q8 tA):=⟨Rb ha.run⟩
def plainT:Expr->Bool
 | .BoolOp ..=>false | .UnaryOp ..=>false | .Compare ..=>false | .IfExp ..=>false | _=>true
theorem dF (h:JE X e te) (hp:autoParam (plainT e=true) L2.auto4._auto_1):JT X e (tB te):=⟨Q7 h.run (by
 intro whole
 cases e <;> first | rfl | cases hp)⟩
theorem vK {op} (h:JE X a te):JE X (.BoolOp op [a] pos) te:=⟨Rf h.run⟩
theorem um (ha:JE X a ta) (hb:JE X (.BoolOp .And (b :: rest) pos) tb):JE X (.BoolOp .And (a :: b :: rest) pos) (HX ta tb):=⟨Rg ha.run hb.run⟩
theorem j_or (ha:JE X a ta) (hb:JE X (.BoolOp .Or (b :: rest) pos) tb):JE X (.BoolOp .Or (a :: b :: rest) pos) (Rc ta tb):=⟨Vm ha.run hb.run⟩
theorem JM (ha:JE X a ta):JE X (.UnaryOp .Not a pos) (HY ta):=⟨Rh ha.run⟩
theorem V8 (hc:JT X c tA) (ha:JE X a ta) (hb:JE X b tb):JE X (.IfExp c a b pos) (tIf tA ta tb):=⟨Ia hc.run ha.run hb.run⟩
theorem El {x1} (h:JA X es t):JE X (.Tuple es x1 pos) (Nb t):=⟨RN h.run⟩
theorem lA (h:JA X es t):JE X (.List es pos) (Nf t):=⟨RP h.run⟩
theorem aq:JA X [] M6:=⟨RM⟩
theorem aa (ha:JE X e te) (hr:JA X es t) (h:autoParam (notStar e=true) L2.auto4._auto_1):JA X (e :: es) (Ea te t):=⟨paC ha.run hr.run h⟩
theorem lW:JO X none yx:=⟨Nh⟩
theorem jA (h:JE X e te):JO X (some e) (Jd te):=⟨Ni h.run⟩
theorem km {r:V->Option Int->Option Int->Hp->VK->Prop} {lo hi:Option Expr} {tl th:TO} (hr:SlR X r) (he:JE X e te) (hl:JO X lo tl) (hu:JO X hi th):JE X (.Subscript e (.Slice lo hi none p2) pos) (tSl r te tl th):=⟨Je hr he.run hl.run hu.run⟩
theorem nG (hK:X.K=K) (ha:JE X a ta) (hb:JE X b tb) (h:autoParam (oZ b=true) L2.auto4._auto_1):JE X (.Subscript a b pos) (Iu (RZ K) ta tb):=⟨ixE hK ha.run hb.run h⟩
theorem aK {k:Nat} {ps:List Str} {sp:Sp} (F:Has X.prog X.w X.K X.mg X.base k x ps sp) (hr:Room k X.A) (hg:Gl X x) (ha:JA X (e :: es) t) (hdb:(x == ("__debug__":Str))=false) (h:autoParam ((e :: es).all notStar=true) L2.auto4._auto_1):
  JE X (.Call (.Name x p) (e :: es) [] pos) (xm sp [] E0 t):=⟨V1 F hr hg ha.run hdb h⟩
theorem aH {id:String} {r:List V->Hp->VK->Prop} (hc:CallR X (.builtin id) r) (hg:Gl X x) (hm:X.mg x=none) (hv:bootBuiltins x=some (.builtin id)) (ha:JA X (e :: es) t) (hn:x≠"__name__") (hdb:(x == ("__debug__":Str))=false) (h:autoParam ((e :: es).all notStar=true) L2.auto4._auto_1):
  JE X (.Call (.Name x p) (e :: es) [] pos) (RT r t):=⟨V2 hc hg hm hv ha.run hn hdb h⟩
theorem o6 {T:String} {r:List V->Hp->VK->Prop} (hc:CallR X (.type T) r) (hg:Gl X x) (hm:X.mg x=none) (hv:bootBuiltins x=some (.type T)) (ha:JA X (e :: es) t) (hn:x≠"__name__") (hdb:(x == ("__debug__":Str))=false) (h:autoParam ((e :: es).all notStar=true) L2.auto4._auto_1):
  JE X (.Call (.Name x p) (e :: es) [] pos) (RT r t):=⟨S9 hc hg hm hv ha.run hn hdb h⟩
theorem yO {name:Str} {T id:String} {r:V->List V->Hp->VK->Prop} (hK:X.K=K) (pa:PlainAttrs T) (slot:Slot T name id) (hty:typeOf (.builtin id)=pure (.type "method_descriptor")) (hm:Qo X id r) (ho:JE X o to) (ha:JA X (e :: es) t)
  (hbase:autoParam (nq o=true) L2.auto4._auto_1) (hl:autoParam (es.length < 20) L2.auto2._auto_1) (hline:autoParam ((apos.endLine == cpos.line)=true) L2.auto4._auto_1) (h:autoParam ((e :: es).all notStar=true) L2.auto4._auto_1):JE X (.Call (.Attribute o name apos) (e :: es) [] cpos) (VD K T r to t):=⟨V3 hK pa slot hty hm ho.run ha.run hbase hl hline h⟩
theorem Em {name:Str} {T id:String} {r:V->List V->Hp->VK->Prop} (hK:X.K=K) (pa:PlainAttrs T) (slot:Slot T name id) (hty:typeOf (.builtin id)=pure (.type "method_descriptor")) (hm:Qo X id r) (ho:JE X o to)
  (hbase:autoParam (nq o=true) L2.auto4._auto_1) (hline:autoParam ((apos.endLine == cpos.line)=true) L2.auto4._auto_1):JE X (.Call (.Attribute o name apos) [] [] cpos) (Ji K T r to):=⟨Tc hK pa slot hty hm ho.run hbase hline⟩
theorem jg:Tg X [] Jm:=⟨Jo⟩
variable {tg iter elt:Expr} {ifs:List Expr} {sub:List (Option Nat)} {wi:TI} {g:TG} {N:List Str}
theorem iR {ta:TA} (hg:Gl X "range") (hm:X.mg "range"=none) (ha:JA X [a] ta) (h:autoParam (notStar a=true) L2.auto4._auto_1):JI X tg (.Call (.Name "range" p) [a] [] pos) (Io ta):=⟨Ge hg hm ha.run (bJ h)⟩
theorem GJ {ta:TA} (hg:Gl X "range") (hm:X.mg "range"=none) (ha:JA X [a,b] ta) (h:autoParam (notStar a=true) L2.auto4._auto_1) (h2:autoParam (notStar b=true) L2.auto4._auto_1):JI X tg (.Call (.Name "range" p) [a,b] [] pos) (Ip ta):=⟨Gf hg hm ha.run (by rw [bJ h,bJ h2];rfl) (by rw [bJ h2];rfl)⟩
theorem jh (hK:X.K=K) (hl:JE X e te):JI X tg e (Nv K te):=⟨Ny hK hl.run⟩
theorem d7 {i:Nat} (hN:X.N.Nodup) (hi:X.N[i]?=some x) (hx:Loc X.env.scope x) (hf:X.fn x=true):JG X (.Name x pos) (qz i):=⟨DG hN hi hx (.inl hf)⟩
theorem vL (i:Nat) (h:scope.names.lookup x=some .local) (hN:N'.Nodup) (hi:autoParam (N'[i]?=some x) L2.auto4._auto_1):JG (qu X N' scope C s₀ H₀ ex) (.Name x pos) (qz i):=⟨pgB i h hN hi⟩
theorem En:Xc X [] Rm:=⟨Mu⟩
theorem rN {gs:Gb} (h1:JG X e g) (h2:Xc X es gs) (hs:autoParam ((assignEach (e :: es) X.env).map (·.2)=assign e X.env :: (assignEach es X.env).map (·.2)) L2.auto4._auto_1):Xc X (e :: es) (Ij g gs):=⟨Ik h1.run h2.run hs⟩
theorem JN {ts:List Expr} {k:Nat} {gs:Gb} {n:Nat} (hK:X.K=K) (hc:X.calm=true) (h:Xc X ts gs) (hn:autoParam ((assignEach ts X.env).length=n) L2.auto4._auto_1) (hst:autoParam ((assignEach ts X.env).findIdx? (·.1)=none) L2.auto4._auto_1):JG X (.Tuple ts k pos) (Mv K n gs):=⟨NB hK hc h.run hn hst⟩
theorem mF {ts:BK} (ho:JE X a ta) (hi:JE X b tb) (hs:Mt X ts) (h:autoParam (oZ b=true) L2.auto4._auto_1):JG X (.Subscript a b pos) (Ro ta tb ts):=⟨Rq ho.run hi.run hs (by
 intro v
 cases b <;> first | rfl | cases h)⟩
theorem mG (S:ug N sc N' scope sub) (hc:X.calm=true) (hN:X.N=N) (hsc:X.env.scope=sc) (hi:JI X tg iter wi)
  (hg:∀ (C:Addr) (s₀:Shared) (H₀:Hp) (ex:List Addr),JG (qu X N' scope C s₀ H₀ ex) tg g)
  (ht:∀ (C:Addr) (s₀:Shared) (H₀:Hp) (ex:List Addr),Tg (qu X N' scope C s₀ H₀ ex) ifs tt)
  (he:∀ (C:Addr) (s₀:Shared) (H₀:Hp) (ex:List Addr),JE (qu X N' scope C s₀ H₀ ex) elt te) (h:autoParam (sY iter=true) L2.auto4._auto_1):
  JE X (.ListComp elt [⟨tg,iter,ifs,0⟩] scope pos) (vB sub wi g tt te):=⟨V6 S hc hN hsc hi.run (fun C s₀ H₀ ex=>(hg C s₀ H₀ ex).run) (fun C s₀ H₀ ex=>(ht C s₀ H₀ ex).run) (fun C s₀ H₀ ex=>(he C s₀ H₀ ex).run) h⟩
variable {st:Stmt} {sts:List Stmt} {u v:TS}
theorem aJ {i:Nat} (hN:X.N.Nodup) (hi:X.N[i]?=some x) (hx:Loc X.env.scope x) (he:JE X e te) (hf:X.fn x=true) (h:autoParam (lR e=true) L2.auto4._auto_1):JS X (.Assign [.Name x pos'] e pos) (zJ te (qz i)):=⟨V4 hN hi hx he.run hf h⟩
theorem jB {ts:BK} (he:JE X e te) (hg:JG X (.Subscript a b pos') g) (h:autoParam (lR e=true) L2.auto4._auto_1):JS X (.Assign [.Subscript a b pos'] e pos) (zJ te g):=⟨Rr he.run hg.run (by show swapsWith e (some (.Subscript a b pos')) pos.line X.env=pure false;exact Ac h) (by cases e <;> rfl) rfl⟩
theorem aO (he:JE X e te):JS X (.Return (some e) pos) (Ri te):=⟨Rj he.run⟩
theorem bj (he:JE X e te) (h:autoParam (lR e=true) L2.auto4._auto_1):JS X (.Expr e pos) (Dz te):=⟨Td he.run h⟩
theorem bZ {sa sb:List Stmt} (hc:JT X c tt) (ha:JB X sa u) (hb:JB X sb v):JS X (.If c sa sb pos) (Rk tt u v):=⟨Vn hc.run ha.run hb.run⟩
theorem iC {body:List Stmt} (hp:PassesOwn (model X.prog X.w) X.A X.env X.xe) (hc:X.calm=true) (hi:JI X tg iter wi) (hg:JG X tg g) (hb:JB X body u) (h:autoParam (sY iter=true) L2.auto4._auto_1):JS X (.For tg iter body [] pos) (Mx wi g u):=⟨V5 hp hc hi.run hg.run hb.run h⟩
theorem JP {body:List Stmt} (hp:PassesOwn (model X.prog X.w) X.A X.env X.xe) (hc:JT X c tt) (hb:JB X body u):JS X (.While c body [] pos) (BL tt u):=⟨Im hp hc.run hb.run⟩
theorem ji:JS X st Ih:=⟨Ii⟩
theorem bG:JB X [] Ib:=⟨Mq⟩
theorem aC (h:JS X st u):JB X [st] u:=⟨Mr h.run⟩
theorem aA (h:JS X st u) (h2:JB X sts v):JB X (st :: sts) (Ie u v):=⟨Ig h.run h2.run⟩
end
section
variable {P:Program} {w:World} {K:W.Frag} {mg:Str->Option Value} {base:Heap}
theorem fK {x:Str} {st:Stmt} {N ps:List Str} {k:Nat} {sp:Sp} (D:Def K mg x st) (S:aF N ps (aB st))
  (hb:∀ (kV doc pm:Value) (an:Option Addr) (cdv ct:Value) (us:List Value),us.length=ps.length->bindArgs (PySem.W.fnOf x x (dZ st) (bI st) (aB st) .none kV doc pm an cdv ct) ⟨us,[]⟩=pure (ps.zip us))
  (len:∀ vs H Q E,sp vs H Q E->vs.length=ps.length)
  (hbody:∀ (f:Addr) (cdv:Value) (A:Around) (outer:List Env) (s:Shared) (H:Hp) (vs:List V) (Q:VK) (E:XK),Room k (A.deeper (envOfC x (aB st) s.heap.objs.size f cdv))->sp vs H Q E->
   ∃ t,JB (oV Gr P w K mg base N x (aB st) f cdv A outer s H E).nox (bI st) t/\t {nx:=fun _ H'=>Q .non H',rt:=Q} (start N vs) H):Has P w K mg base (k+1) x ps sp:=
 Sv D S hb len fun f cdv A outer s H vs Q E hr h=>let ⟨t,j,q⟩:=hbody f cdv A outer s H vs Q E hr h;⟨t,j.run,q⟩
theorem okJ {x:Str} {st:Stmt} {N ps:List Str} {k:Nat} {sp:Sp} {f:Addr} {fd:FuncData} (F:Fun K x x st f fd) (S:aF N ps (aB st)) (len:∀ vs H Q E,sp vs H Q E->vs.length=ps.length)
  (hbody:∀ (f:Addr) (cdv:Value) (A:Around) (outer:List Env) (s:Shared) (H:Hp) (vs:List V) (Q:VK) (E:XK),Room k (A.deeper (envOfC x (aB st) s.heap.objs.size f cdv))->sp vs H Q E->
   ∃ t,JB (oV Gr P w K mg base N x (aB st) f cdv A outer s H E).nox (bI st) t/\t {nx:=fun _ H'=>Q .non H',rt:=Q} (start N vs) H):FnOk P w K mg base Gr (k+1) f fd ps sp:=
 F.ok S len fun cdv A outer s H vs Q E hr h=>let ⟨t,j,q⟩:=hbody f cdv A outer s H vs Q E hr h;⟨t,j.run,q⟩
end
theorem o7 {K:W.Frag} {mg:Str->Option Value} {h:Heap} (X:K.In h) (G:h.Ns mainGlobals mg) {x:Str} {v:Value} {f:Tok->Value} (a:PySem.W.nsIn K mainGlobals x=some (some v)) (e:∃ t,v=f t):∃ t,mg x=some (f t):=by
 obtain ⟨t,rfl⟩:=e
 exact ⟨t,Yt X G a⟩
theorem V9 {l:PySem.W.OpenLaw} {q:Program} {loose:List Str} {XP:(Str->Option Value)->Heap->Prop} {YP:World->Heap->Prop} {d:DefRec} {K:Params->W.Frag} {st:Stmt} {k:Nat} {sp:W.Frag->Sp} {x:Str}
  (hn:l.most=some 63) (hdf:d.params.defaults=[]) (hdn:d.name="law") (hk:Room k callerA) (hY:∀ (w:World) (h:Heap),YP w h->(K w.params).In h)
  (hb:∀ (kV doc pm:Value) (an:Option Addr) (cdv ct:Value) (us:List Value),us.length=[x].length->bindArgs (PySem.W.fnOf "law" "law" (dZ st) (bI st) (aB st) .none kV doc pm an cdv ct) ⟨us,[]⟩=pure ([x].zip us))
  (F:∀ (w:World) (mg:Str->Option Value) (h:Heap),(K w.params).In h->h.Ns mainGlobals mg->Def (K w.params) mg "law" st/\∀ (base:Heap) (f:Addr) (fd:FuncData),Fun (K w.params) "law" "law" st f fd->FnOk l.prog w (K w.params) mg base Gr k f fd [x] (sp (K w.params)))
  (hsp:∀ (K:W.Frag) (H:Hp) (a:Addr) (ns:List Int),ns.length<=63->SqL K H a (ns.map V.int)->sp K [.ref a] H (fun v _=>v= .bl true) fun _ _ _=>False) (him:autoParam (importsNone q=true) L2.auto6._auto_1):
  PySem.W.WalkO q loose XP YP l.row.toRowW d [] (fun f vs=>PySem.call f vs):=
 L2.Nm (n:=63) (k:=k) (x:=x) (CX:=fun _=>Gr) (sp:=fun w=>sp (K w.params)) hn (by decide) hdf hk hY (fun w mg fa h X G e=>by
  obtain ⟨⟨f,fd,Fn,hm⟩,ok⟩:=F w mg h X G
  rw [hdn,hm] at e
  have ef:f=fa:=by injection (Ye e)
  subst ef
  refine ⟨fd,fun s u=>?_,fun base _ _=>ok base f fd Fn⟩
  obtain ⟨oc,od,kV,doc,pm,an,cdv,ct,osl,rfl,lk,hcd⟩:=Fn.ex
  exact .of_eq (hb kV doc pm an cdv ct [u] rfl)) (fun w H a ns hl _ hS=>hsp _ H a ns hl hS) (fun _ _ _ _ _ z=>z) him
def Xd (xs:Nat->List V) (n:Nat):It:=⟨fun i _=>i < n,fun i H v H'=>∃ T,H T=none/\v= .ref T/\H'=upd H T (.tup (xs i)),fun i _=>i=n⟩
theorem Th {P:Program} {w:World} {K:W.Frag} {elts:List Expr} {k:Nat} {pos:Pos} {it:Addr} {fp wr:List Addr} {n:Nat} {xs:Nat->List V} {Pt:Nat->Array Value->Prop} {St:Nat->Heap->Prop} {Mid:Nat->Addr->Heap->Prop}
  (W:∀ A:Around,A.handled=none->WalksT P w A it fp wr n Pt St Mid) (hxs:∀ i,(xs i).length<=sizeLine) (hPt:∀ i vals,Pt i vals->Vals (xs i) vals.toList) (hmem:it∈fp)
  (hobj:∀ i h,St i h->∀ b∈fp,∃ o,h.get? b=some o/\∀ v,o.data≠.cell v)
  (hself:∀ (A:Around) (i:Nat) (s:Shared) (Q:Value->Shared->Prop) (E:Value->Shared->Prop),St i s.heap->Q (.ref it) s->wpAny (model P w) A (pyIter (.ref it)) Q E s):
  Turn P w K (.Tuple elts k pos) (Xd xs n) fp it St where
 mem:=hmem
 obj:=hobj
 keep:=fun i h h' st kk=>(W {} rfl).frame i h h' st kk
 item:=by
  intro X hP hw hK hc i pins s U H E I hf st hg
  subst hP hw hK
  have W':=W X.A (I.ok.hd hc)
  refine W'.item i s _ _ hg st fun T vals h' tk hPv hT isT mid kk=>?_
  refine ⟨.ref T,rfl,W'.go elts k pos i T _ _ _ mid fun h'' st'' kk2=>?_⟩
  have hTn:H T=none:=I.hok.fresh hT
  have hTw:T ∉ wr:=W'.apart i T h' mid
  have kall:∀ b o,b ∉ wr->s.heap.get? b=some o->h''.get? b=some o:=fun b o hb e=>kk2 b o hb (kk b o hb e)
  have nT:∀ b o,s.heap.get? b=some o->b≠T:=fun b o e=>XN (Xy (Xp e) hT)
  have nTH:∀ b u,H b=some u->b≠T:=fun b u e z=>by rw [z,hTn] at e;cases e
  have nW:∀ b u,H b=some u->b ∉ wr:=fun b u e hb=>by rw [(hf b (W'.sub b hb)).1] at e;cases e
  have isT':h''.IsTuple T vals:=by
   obtain ⟨o,ho,r⟩:=isT
   exact ⟨o,kk2 T o hTw ho,r⟩
  have hlT:∃ o,h''.get? T=some o:=let ⟨o,ho,_⟩:=isT';⟨o,ho⟩
  have I':Inv X pins U (upd H T (.tup (xs i))) {s with heap:=h'',toks:=tk}:=by
   refine I.step (g':=s.gens) (d':=s.drawn) (ch:=wr) (fun b hb=>?_) (fun b o _ _ hc e _=>kall b o hc e) (fun b o _ _ hc e _=>⟨o.slots,kall b o hc e⟩) (fun b o _ e hn=>by rw [aD (nT b o e)];exact hn)
    (fun b o hc e=>⟨o,kall b o hc e⟩) (fun b ys e=>by rw [aD (nTH b _ e)];exact e) (fun b o u e=>by rw [aD (nTH b _ e)];exact e) (fun b ps e=>⟨#[],by rw [aD (nTH b _ e),e];simp⟩) (fun m hm=>?_) (fun b u e=>?_) I.bare
   ·obtain ⟨f0,f1,f2,f3,f4,f5⟩:=hf b (W'.sub b hb)
    exact ⟨f3,f1,f4,f5⟩
   ·obtain ⟨o,es,ep,ho,r⟩:=hm
    exact ⟨o,es,ep,kall _ o (fun hb=>(hf _ (W'.sub _ hb)).2.1 rfl) ho,r⟩
   ·by_cases hb:b=T
    ·subst hb
     rw [aj] at e;cases e
     obtain ⟨o,ho,hcl,nn,hd⟩:=isT'
     exact ⟨hxs i,vals.toList,hPt i vals hPv,o,ho,hcl,nn,by simpa using hd⟩
    ·rw [aD hb] at e
     refine (I.hok b u e).stay (fun c v hc' q=>kall c v ?_ q) (fun c q=>by rw [aD (nTH c _ q)];exact q) fun c ys q=>by rw [aD (nTH c _ q)];exact q
     rcases hc' with z | z
     ·rw [z];exact nW b u e
     ·exact nW c _ z
  refine ⟨.ref T,upd H T (.tup (xs i)),I',rfl,⟨T,hTn,rfl,rfl⟩,st'',fun b hb=>?_⟩
  obtain ⟨o,e,_⟩:=hobj i _ st b hb
  rw [aD (nT b o e)]
  exact (hf b hb).1
 done:=by
  intro X hP hw hK hc i pins s U H E I hf st hg
  subst hP hw hK
  have W':=W X.A (I.ok.hd hc)
  have hg:i=n:=hg
  subst hg
  refine W'.done s _ _ st fun h' tk kk=>⟨rfl,?_⟩
  have nW:∀ b u,H b=some u->b ∉ wr:=fun b u e hb=>by rw [(hf b (W'.sub b hb)).1] at e;cases e
  refine I.step (g':=s.gens) (d':=s.drawn) (ch:=wr) (fun b hb=>?_) (fun b o _ _ hc e _=>kk b o hc e) (fun b o _ _ hc e _=>⟨o.slots,kk b o hc e⟩) (fun b o _ e hn=>hn)
    (fun b o hc e=>⟨o,kk b o hc e⟩) (fun b ys e=>e) (fun b o u e=>e) (fun b ps e=>⟨#[],by rw [e];simp⟩) (fun m hm=>?_) (fun b u e=>?_) I.bare
  ·obtain ⟨f0,f1,f2,f3,f4,f5⟩:=hf b (W'.sub b hb)
   exact ⟨f3,f1,f4,f5⟩
  ·obtain ⟨o,es,ep,ho,r⟩:=hm
   exact ⟨o,es,ep,kk _ o (fun hb=>(hf _ (W'.sub _ hb)).2.1 rfl) ho,r⟩
  ·refine (I.hok b u e).stay (fun c v hc' q=>kk c v ?_ q) (fun c q=>q) fun c ys q=>q
   rcases hc' with z | z
   ·rw [z];exact nW b u e
   ·exact nW c _ z
 self:=hself
def Af (x:Str) (i:Nat):List V:=[.int i,.str ⟨#[x.cps.getD i 0]⟩]
def Wa (K:W.Frag):R2:=fun x y H Q=>rNe x y H Q\/∃ (a b:Addr) (ns ms:List Int),x= .ref a/\y= .ref b/\SqL K H a (ns.map V.int)/\SqL K H b (ms.map V.int)/\Q (.bl (!decide (ns=ms))) H
theorem Ti {X:Cx} {K:W.Frag} (hK:X.K=K) (hu:X.A.units+64 < cLine):OpR X (compareOp .NotEq) (Wa K):=by
 subst hK
 intro pins s U H x y v u Q I rx ry h
 rcases h with h | ⟨a,b,ns,ms,rfl,rfl,ha,hb,q⟩
 ·exact Vs pins s U H x y v u Q I rx ry h
 ·cases rx
  cases ry
  obtain ⟨its,r1,p1,z1⟩:=I.list ha
  obtain ⟨jts,r2,p2,z2⟩:=I.list hb
  exact PySem.W.ne_intsK p1.isList (intsAre_of r1) p2.isList (intsAre_of r2) hu ⟨.bl _,H,I,rfl,q⟩
section
variable {H:Hp} {Q:VK} {K:W.Frag} {U:St}
theorem cA {n:Nat} {gs:Gb} {p:Addr} {xs:List V} {R:St->Hp->Prop} (s:SqT K H p xs) (hl:xs.length=n) (h:gs xs U H R):Mv K n gs (.ref p) U H R:=⟨p,xs,rfl,s,hl,h⟩
theorem bN {t:TG} {u:Gb} {v:V} {vs:List V} {R:St->Hp->Prop} (h:t v U H fun U' H'=>u vs U' H' R):Ij t u (v :: vs) U H R:=⟨v,vs,rfl,h⟩
theorem dG {R:St->Hp->Prop} (h:R U H):Rm [] U H R:=⟨rfl,h⟩
theorem rO {p:Addr} {xs:List V} {y:V} (hp:H p=some (.lst xs)) (c:xs.length < sizeLine) (h:Q .non (upd H p (.lst (xs ++ [y])))):Ef (.ref p) [y] H Q:=⟨p,xs,y,rfl,rfl,hp,c,h⟩
theorem uV {f:Int->V} {i:Int} (h:Q (f i) H):rU f (.int i) H Q:=⟨i,rfl,h⟩
theorem Cy {a:Addr} {xs:List V} {k:Int} (ha:H a=some (.lst xs)) (h0: -(2 ^ 63)<=k) (h1:k < 2 ^ 63) (hz:xs.length*k.toNat<=sizeLine) (h:∀ p,H p=none->Q (.ref p) (upd H p (.lst (List.replicate k.toNat xs).flatten))):Jv (.ref a) (.int k) H Q:=
 .inr (.inr ⟨a,k,xs,rfl,rfl,ha,h0,h1,hz,h⟩)
theorem NK {z:Str} {g:TG} {tb:TS} {D:Ends} {H:Hp} (Pv:Nat->St->Hp->Prop) (h0:Pv 0 U H)
  (hs:∀ i U H c,z.cps.toList[i]?=some c->Pv i U H->g (.str ⟨#[c]⟩) U H fun σ2 H2=>tb {D with nx:=Pv (i+1),ct:=Pv (i+1),bk:=D.nx} σ2 H2) (hd:∀ U H,Pv z.length U H->D.nx U H):
  ∃ W:Nat->Nat->St->Hp->Prop,(∃ m,W 0 m U H)/\∀ i m U H,W i m U H->
   ((Nt z).stop i H/\D.nx U H)\/((Nt z).go i H/\∃ N:St->Hp->Prop,(∀ U' H',N U' H'->∃ m',m' < m/\W (i+1) m' U' H')/\∀ x H',(Nt z).yld i H x H'->g x U H' fun σ2 H2=>tb {D with nx:=N,ct:=N,bk:=D.nx} σ2 H2):=by
 refine ⟨fun i m U H=>m=z.cps.size - i/\i<=z.cps.size/\Pv i U H,⟨z.cps.size,by simp,YG _,h0⟩,?_⟩
 rintro i m U H ⟨rfl,hi,p⟩
 by_cases hlt:i < z.cps.size
 ·refine .inr ⟨hlt,Pv (i+1),fun U' H' p'=>⟨z.cps.size - (i+1),by omega,rfl,hlt,p'⟩,fun x H' y=>?_⟩
  obtain ⟨e1,c,e2,e3⟩:=y
  subst e1 e3
  exact hs i U _ c (by simpa using e2) p
 ·have e:i=z.cps.size:=by omega
  subst e
  exact .inl ⟨rfl,hd U H p⟩
end
section
variable {X:Cx} {tg iter elt:Expr} {ifs:List Expr} {scope:Scope} {pos:Pos} {N':List Str} {sub:List (Option Nat)} {wi:TI} {g:TG} {tt:TT} {te:TE}
theorem JQ {N:List Str} {sc:Scope} {use:Option (Value->Sem Unit)} {R:Value->Shared->Prop} {p0:Pos} (S:ug N sc N' scope sub) (hc:X.calm=true) (hN:X.N=N) (hsc:X.env.scope=sc) (hi:PI X tg iter wi)
  (hg:∀ (C:Addr) (s₀:Shared) (H₀:Hp) (ex:List Addr),PG (qu X N' scope C s₀ H₀ ex) tg g)
  (ht:∀ (C:Addr) (s₀:Shared) (H₀:Hp) (ex:List Addr),zU (qu X N' scope C s₀ H₀ ex) ifs tt)
  (he:∀ (C:Addr) (s₀:Shared) (H₀:Hp) (ex:List Addr),PE (qu X N' scope C s₀ H₀ ex) elt te)
  (hs:∀ x,foldedSetIterable iter X.env x=pure x) (pins:List (Addr×Obj)) (s:Shared) (U:St) (H:Hp) (Q:VK) (I:Inv X pins U H s) (h:vB sub wi g tt te U H Q)
  (hend:∀ (D C:Addr) (s5:Shared) (H5:Hp) (m:Str->Option Value),Inv X pins U H5 s5->mR X pins H5 C->s5.heap.Ns C m->Q (.ref D) H5->compPost (model X.prog X.w) X.A X.xe use R (.ref D) C (.ok .next) s5):
  wpAny (model X.prog X.w) X.A (comprehension (.ListComp elt [⟨tg,iter,ifs,0⟩] scope pos) scope X.env p0 (newList []) false (eval iter X.env) use) R X.xe s:=by
 have hcl:∀ x∈scope.names,x.2=NameKind.free->∃ c,X.env.cells.lookup x.1=some c:=fun x hx hk=>I.ok.has x.1 (by have:=S.free x hx hk;rw [← hsc] at this;exact this)
 refine wpAny_comprehension_free (use:=use) rfl hs (qC hcl) S.kind S.loc ?_
 refine d9 (hi pins s U H _ I h) fun v s1 h1=>d9 h1 fun itv s2 h2=>?_
 obtain ⟨it,fp,tn,J,H2,e,I2,T,st2,f2,W,⟨m0,w0⟩,turn⟩:=h2
 subst e
 refine YB (iM fun h₁ hns₁ hk31 hcl₁=>?_)
 dsimp only at hns₁ hk31 hcl₁ ⊢
 generalize hs3:({s2 with heap:=s2.heap.push {cls:=.type "list",dict:=none,data:=.seq ([]:List Value).toArray}}:Shared)=s3
 have e3:s2.heap.push {cls:=.type "list",dict:=none,data:=.seq ([]:List Value).toArray}=s3.heap:=by rw [← hs3]
 rw [e3] at hns₁ hk31 hcl₁ ⊢
 have hD3:s3.heap.get? s2.heap.objs.size=some {cls:=.type "list",dict:=none,data:=.seq ([]:List Value).toArray}:=by rw [← e3];exact Xu _ rfl
 have I3:Inv X pins U H2 s3:=by
  rw [← hs3]
  exact I2.kept (t':=s2.toks) fun b o e=>Xn _ e
 have k23:∀ b o,s2.heap.get? b=some o->s3.heap.get? b=some o:=fun b o e=>by rw [← e3];exact Xn _ e
 have hsz:s3.heap.objs.size=s2.heap.objs.size+1:=by rw [← e3,Y4]
 have hDn:H2 s2.heap.objs.size=none:=I2.hok.fresh (Xo _)
 have fD:mR X pins H2 s2.heap.objs.size:=I2.fpOk (Xo _) hDn
 have hfo:∀ b∈fp,b < s2.heap.objs.size:=fun b hb=>let ⟨o,e,_⟩:=T.obj _ _ st2 b hb;Xp e
 have hDfp:s2.heap.objs.size ∉ fp:=fun z=>absurd (hfo _ z) (Yz _)
 have I4:=xH (tk:=s3.toks+([]:List (Str×Value)).length) S hN hsc I3 f2 (fun b hb=>by rw [hsz];exact Nat.lt_succ_of_lt (hfo b hb)) (D:=s2.heap.objs.size) (by rw [hsz];exact Zx _) fD hns₁ hk31 hcl₁
 have stat:∀ {H':Hp} {ob:Obj},(∀ b∈fp,H' b=none)->∀ b∈fp,mR (qu X N' scope s3.heap.objs.size s3 H2 (s2.heap.objs.size :: fp)) [(s2.heap.objs.size,ob)] H' b:=fun {H' ob} hn b hb=>by
  obtain ⟨q1,q2⟩:=I4.ok.exf b (Xw _ hb)
  refine ⟨hn b hb,q1,I4.ok.exfs b (Xw _ hb),.inl (Xw _ hb),q2,fun p hp z=>?_⟩
  have hp':p=(s2.heap.objs.size,ob):=by simpa [qu] using hp
  subst hp'
  have z':s2.heap.objs.size=b:=z
  exact hDfp (by rw [z'];exact hb)
 generalize hXC:qu X N' scope s3.heap.objs.size s3 H2 (s2.heap.objs.size :: fp)=XC at I4 stat
 have eP:XC.prog=X.prog:=by rw [← hXC];rfl
 have eW:XC.w=X.w:=by rw [← hXC];rfl
 have eK:XC.K=X.K:=by rw [← hXC];rfl
 have eA:XC.A=X.A:=by rw [← hXC];rfl
 have eE:XC.env=compEnvC scope (Gu X scope s3.heap.objs.size) s3.heap.objs.size X.env:=by rw [← hXC];rfl
 have eC:XC.calm=true:=by rw [← hXC];exact hc
 have eX:XC.xe=fun _ _=>False:=by rw [← hXC];rfl
 have eH:XC.H₀=H2:=by rw [← hXC];rfl
 have eS:XC.s₀=s3:=by rw [← hXC];rfl
 have eF:XC.fs=frs X.stack:=by rw [← hXC];rfl
 have eEx:XC.ex=s2.heap.objs.size :: fp:=by rw [← hXC];rfl
 have ePn:XC.pn=[]:=by rw [← hXC];rfl
 have hgC:PG XC tg g:=by rw [← hXC];exact hg _ _ _ _
 have htC:zU XC ifs tt:=by rw [← hXC];exact ht _ _ _ _
 have heC:PE XC elt te:=by rw [← hXC];exact he _ _ _ _
 have pinD:∀ {U':St} {H':Hp} {s':Shared} {ob:Obj},Inv XC [] U' H' s'->H' s2.heap.objs.size=none->s'.heap.get? s2.heap.objs.size=some ob->(∀ v,ob.data≠.cell v)->Inv XC [(s2.heap.objs.size,ob)] U' H' s':=fun {U' H' s' ob} J hn hg hd=>
  J.pins_of fun p hp=>by
   have hp':p=(s2.heap.objs.size,ob):=by simpa using hp
   subst hp'
   refine ⟨hg,hn,(J.ok.exf _ (by rw [eEx];exact XR)).1,J.ok.exfs _ (by rw [eEx];exact XR),hd⟩
 have loop:codeAny (model X.prog X.w) X.A (.compLoop (.ListComp elt [⟨tg,iter,ifs,0⟩] scope pos) 0 (.ref it) (.ref s2.heap.objs.size) (compEnvC scope (Gu X scope s3.heap.objs.size) s3.heap.objs.size X.env))
   (compPost (model X.prog X.w) X.A X.xe use R (.ref s2.heap.objs.size) s3.heap.objs.size) {s3 with heap:=h₁,toks:=s3.toks+([]:List (Str×Value)).length}:=by
  refine xG (fun n s'=>∃ (i:Nat) (ys:List V) (its:List Value) (nn:Nat) (H':Hp),Inv XC [] (dN sub U) H' s'/\tn i s'.heap/\(∀ b∈fp,H' b=none)/\H' s2.heap.objs.size=none/\
   s'.heap.get? s2.heap.objs.size=some {cls:=.type "list",data:=.seq its.toArray nn}/\Vals ys its/\W i n ys H') ?_ m0
   ⟨0,[],[],_,H2,I4,T.keep _ _ _ st2 fun b _ o e=>hk31 b o (k23 b o e),fun b hb=>(f2 b hb).1,hDn,hk31 _ _ hD3,.nil,w0⟩
  rintro n s4 ⟨i,ys,its,nn,H4,J4,st4,fr4,dn4,dg4,rv4,w4⟩
  have P4:=pinD J4 dn4 dg4 (fun v z=>by cases z)
  rcases turn i n ys H4 w4 with ⟨stop,hyl,qn⟩ | ⟨go,hyl,N,hN,step⟩
  ·have hdone:=T.done XC eP eW eK eC i _ s4 _ H4 (fun _ _=>False) P4 (stat fr4) st4 stop
   rw [eA] at hdone
   refine X5 hdone (fun r s5 ⟨hr,I5⟩=>?_) fun _ _ z=>z
   subst hr
   obtain ⟨m,hn,_⟩:=id I5.loc
   have hCe:XC.env.locals=s3.heap.objs.size:=by rw [eE];rfl
   rw [hCe] at hn
   have hDg:=(I5.pin (s2.heap.objs.size,_) (by rw [ePn];exact XR)).1
   have hDne:s2.heap.objs.size≠s3.heap.objs.size:=by rw [hsz];exact XN (Zx _)
   have hHC:H4 s3.heap.objs.size=none:=by have:=I5.free;rw [hCe] at this;exact this
   have k56:∀ b o,b≠s3.heap.objs.size->s5.heap.get? b=some o->s5.heap.get? b=some o:=fun b o hb e=>e
   have un:=I5.base
   rw [eF,eEx,eH,eS] at un
   have nC:∀ b o,s3.heap.get? b=some o->b≠s3.heap.objs.size:=fun b o e=>XN (Xp e)
   have hok6:HOk X.prog X.w (upd H4 s2.heap.objs.size (.lst ys)) s5.heap:=by
    have h5:=I5.hok
    rw [eP,eW] at h5
    have Mf:∀ b u,H4 b=some u->b≠s3.heap.objs.size:=fun b u e z=>by rw [z,hHC] at e;cases e
    intro b u e
    by_cases hb:b=s2.heap.objs.size
    ·subst hb
     rw [aj] at e;cases e
     exact ⟨hyl,its,nn,rv4,k56 _ _ hDne hDg⟩
    ·rw [aD hb] at e
     have nD:∀ c u,H4 c=some u->c≠s2.heap.objs.size:=fun c u e z=>by rw [z,dn4] at e;cases e
     refine (h5 b u e).stay (fun c v hc' q=>k56 c v ?_ q) (fun c q=>by rw [aD (nD c _ q)];exact q) fun c xs q=>by rw [aD (nD c _ q)];exact q
     rcases hc' with z | z
     ·rw [z];exact Mf b u e
     ·exact Mf c _ z
   have nD2:∀ c u,H4 c=some u->c≠s2.heap.objs.size:=fun c u e z=>by rw [z,dn4] at e;cases e
   have un6:Un (frs X.stack) (s2.heap.objs.size :: fp) H2 (upd H4 s2.heap.objs.size (.lst ys)) s3.heap s5.heap:=
    ⟨fun b o e nn' hb hx=>k56 b o (nC b o e) (un.keep b o e nn' hb hx),fun b o e nn' hb hx=>let ⟨sl,q⟩:=un.slot b o e nn' hb hx;⟨sl,k56 b _ (nC b o e) q⟩,
     fun b o e nn' hx=>by rw [aD (fun z=>hx (by rw [z];exact XR))];exact un.free b o e nn' hx,
     fun b o e hx=>let ⟨o',q⟩:=un.there b o e hx;⟨o',k56 b o' (nC b o e) q⟩,
     fun b xs e=>by have q:=un.tups b xs e;rw [aD (nD2 b _ q)];exact q,
     fun b o u e=>by have q:=un.frzs b o u e;rw [aD (nD2 b _ q)];exact q,
     fun b ps e=>let ⟨more,q⟩:=un.tbls b ps e;⟨more,by rw [aD (nD2 b _ q)];exact q⟩⟩
   have I6:Inv X pins U (upd H4 s2.heap.objs.size (.lst ys)) s5:=by
    refine I3.call' (s':=s5) (ch:=s2.heap.objs.size :: fp) ?_ un6 hok6 I5.bare fun b hb=>?_
    ·show s5.os=s3.os
     have:=I5.os
     rw [eS] at this
     exact this
    ·have q:mR X pins H2 b:=by
      rcases Xr.mp hb with rfl | z
      ·exact fD
      ·exact f2 b z
     obtain ⟨f0,f1,f2',f3,f4,f5⟩:=q
     exact ⟨f3,f1,f4,f5⟩
   have dC:upd H4 s2.heap.objs.size (.lst ys) s3.heap.objs.size=none:=by rw [aD (Ne.symm hDne)];exact hHC
   exact hend _ _ s5 _ m I6 (I3.fpOk (Xo _) dC) hn (qn _ dn4)
  ·have hitem:=T.item XC eP eW eK eC i _ s4 _ H4 (fun _ _=>False) P4 (stat fr4) st4 go
   rw [eA] at hitem
   refine X5 hitem (fun r s5 ⟨u,hr,h5⟩=>?_) fun _ _ z=>z
   subst hr
   dsimp only
   refine X5 h5 (fun _ s6 ⟨x,H6,I6,r6,y6,st6,fr6⟩=>?_) fun _ _ z=>z
   have P6:=I6.pinned (stat fr6) (T.obj _ _ st6)
   rw [← eE,← eP,← eW,← eA]
   refine X5 (hgC _ s6 _ H6 x u _ P6 r6 (step x H6 y6)) (fun _ s7 ⟨σ7,H7,I7,kp7,q7⟩=>?_) fun _ _ z=>by rw [eX] at z;exact z
   refine X5 (htC _ s7 σ7 H7 _ I7 q7) (fun ok s8 ⟨H8,I8,q8⟩=>?_) fun _ _ z=>by rw [eX] at z;exact z
   have fin:∀ {H9:Hp} {s9:Shared},Inv XC ([(s2.heap.objs.size,({cls:=.type "list",data:=.seq its.toArray nn}:Obj))] ++ sU fp s6.heap) σ7 H9 s9->Inv XC [] (dN sub U) H9 s9/\tn (i+1) s9.heap/\(∀ b∈fp,H9 b=none)/\H9 s2.heap.objs.size=none/\
     s9.heap.get? s2.heap.objs.size=some {cls:=.type "list",data:=.seq its.toArray nn}:=fun {H9 s9} J=>by
    have pD:=J.pin (s2.heap.objs.size,({cls:=.type "list",data:=.seq its.toArray nn}:Obj)) (by rw [ePn];simp)
    have pF:∀ b∈fp,∀ o,s6.heap.get? b=some o->s9.heap.get? b=some o/\H9 b=none:=fun b hb o e=>by
     have q:=J.pin (b,o) (by rw [ePn];exact Ym _ (Ym _ (m9 hb e)))
     exact ⟨q.1,q.2.1⟩
    refine ⟨?_,T.keep _ _ _ st6 fun b hb o e=>(pF b hb o e).1,fun b hb=>?_,pD.2.1,pD.1⟩
    ·have J0:Inv XC [] σ7 H9 s9:=J.pins_of fun p hp=>nomatch hp
     exact J0.weak kp7.1.symm fun j v e=>kp7.2 j v e
    ·obtain ⟨o,e,_⟩:=T.obj _ _ st6 b hb
     exact (pF b hb o e).2
   cases ok with
   | false=>
    rw [if_neg (by simp)]
    rw [if_neg (by simp)] at q8
    obtain ⟨m',hm,w8⟩:=hN _ _ q8
    obtain ⟨a1,a2,a3,a4,a5⟩:=fin I8
    exact ⟨m',hm,i+1,ys,its,nn,H8,a1,a2,a3,a4,a5,rv4,w8⟩
   | true=>
    rw [if_pos rfl]
    rw [if_pos rfl] at q8
    refine X5 (heC _ s8 σ7 H8 _ I8 q8) (fun xv s9 ⟨y,H9,I9,r9,n9⟩=>?_) fun _ _ z=>by rw [eX] at z;exact z
    obtain ⟨m',hm,w9⟩:=hN _ _ n9
    obtain ⟨a1,a2,a3,a4,a5⟩:=fin I9
    refine wpAny_list_append_plain (items:=its.toArray) ⟨nn,a5⟩ (fun h' ⟨n',hp'⟩ sb=>?_) (by simp;rw [← rv4.length];omega)
    obtain ⟨q1,q2⟩:=I4.ok.exf s2.heap.objs.size (by rw [eEx];exact XR)
    have a1':Inv XC [] (dN sub U) H9 {s9 with heap:=h'}:=a1.turned (t':=s9.toks) (fun b o hb e=>(sb.2 b hb).trans e) a4 q1 (.inl (by rw [eEx];exact XR)) q2 (fun p hp=>by rw [ePn] at hp;exact nomatch hp)
    refine ⟨m',hm,i+1,ys ++ [y],its ++ [xv],n',H9,a1',T.keep _ _ _ a2 fun b hb o e=>(sb.2 b (fun z=>hDfp (by rw [← z];exact hb))).trans e,a3,a4,?_,rv4.append (.cons r9 .nil),w9⟩
    rw [hp']
    simp
 subst hs3
 exact codeAny_compStart_list loop (T.self _ 0 _ _ _ (T.keep _ _ _ st2 fun b _ o e=>hk31 b o (k23 b o e)) loop)
theorem Cz {N:List Str} {sc:Scope} {i:Nat} {x:Str} {pos' spos:Pos} (hNd:X.N.Nodup) (hxi:X.N[i]?=some x) (hx:Loc X.env.scope x) (hf:X.fn x=true) (S:ug N sc N' scope sub) (hc:X.calm=true) (hN:X.N=N) (hsc:X.env.scope=sc) (hi:PI X tg iter wi)
  (hg:∀ (C:Addr) (s₀:Shared) (H₀:Hp) (ex:List Addr),PG (qu X N' scope C s₀ H₀ ex) tg g)
  (ht:∀ (C:Addr) (s₀:Shared) (H₀:Hp) (ex:List Addr),zU (qu X N' scope C s₀ H₀ ex) ifs tt)
  (he:∀ (C:Addr) (s₀:Shared) (H₀:Hp) (ex:List Addr),PE (qu X N' scope C s₀ H₀ ex) elt te)
  (hs:∀ x,foldedSetIterable iter X.env x=pure x):PS X (.Assign [.Name x pos'] (.ListComp elt [⟨tg,iter,ifs,0⟩] scope pos) spos) (zJ (vB sub wi g tt te) (qz i)):=by
 intro pins s U H D I h
 have hsw:∃ b,swapsWith (.ListComp elt [⟨tg,iter,ifs,0⟩] scope pos) (some (.Name x pos')) spos.line X.env=pure b:=⟨_,rfl⟩
 obtain ⟨b,hsw⟩:=hsw
 cases b with
 | false=>exact Il hNd hxi hx (Eg S hc hN hsc hi hg ht he hs) hsw (.inl hf) pins s U H D I h
 | true=>
  rw [exec_Assign_Name_used _ _ _ _ hsw]
  refine Xi (Z8 (Xi ?_))
  show wpAny _ X.A (do let _ ← comprehension (.ListComp elt [⟨tg,iter,ifs,0⟩] scope pos) scope X.env _ (newList []) false (eval iter X.env) (some (assign (.Name x pos') X.env))) _ _ s
  refine Xi (X5 (JQ (use:=some (assign (.Name x pos') X.env)) (R:=fun _ s'=>SP X pins D .next s') S hc hN hsc hi hg ht he hs pins s U H _ I h ?_) (fun _ s' hq=>Xl (Xl hq)) fun _ _ e=>e)
  intro Da C s5 H5 m I5 fC hn q
  show wpAny _ X.A (assign (.Name x pos') X.env (.ref Da)) _ _ _
  refine wpAny_assign_Name (xf I5 hNd hxi hx (v:=.ref Da) rfl (fun s6 I6 qq0=>?_) (.inl hf))
  obtain ⟨a,sb,ha⟩:=qq0
  obtain ⟨f0,f1,f2,f3,f4,f5⟩:=fC
  have hCa:C≠a:=fun z=>by
   rcases ha with e | e
   ·exact f1 (z.trans e)
   ·exact f4 x a e z.symm
  exact ⟨m,hn.sameBut sb hCa,fun h' hs'=>⟨_,H5,I6.turned (t':=s6.toks) (fun b o hb e=>hs'.extBut b o hb e) f0 f1 f3 f4 f5,q⟩⟩
end
section
variable {X:Cx} {tg iter elt:Expr} {ifs:List Expr} {scope:Scope} {pos:Pos} {N':List Str} {sub:List (Option Nat)} {wi:TI} {g:TG} {tt:TT} {te:TE} {N:List Str} {sc:Scope}
theorem NP {i:Nat} {x:Str} {pos' spos:Pos} (hNd:X.N.Nodup) (hxi:X.N[i]?=some x) (hx:Loc X.env.scope x) (S:ug N sc N' scope sub) (hc:X.calm=true) (hN:X.N=N) (hsc:X.env.scope=sc) (hi:JI X tg iter wi)
  (hg:∀ (C:Addr) (s₀:Shared) (H₀:Hp) (ex:List Addr),JG (qu X N' scope C s₀ H₀ ex) tg g)
  (ht:∀ (C:Addr) (s₀:Shared) (H₀:Hp) (ex:List Addr),Tg (qu X N' scope C s₀ H₀ ex) ifs tt)
  (he:∀ (C:Addr) (s₀:Shared) (H₀:Hp) (ex:List Addr),JE (qu X N' scope C s₀ H₀ ex) elt te) (hf:X.fn x=true) (h:autoParam (sY iter=true) L2.auto4._auto_1):
  JS X (.Assign [.Name x pos'] (.ListComp elt [⟨tg,iter,ifs,0⟩] scope pos) spos) (zJ (vB sub wi g tt te) (qz i)):=
 ⟨Cz hNd hxi hx hf S hc hN hsc hi.run (fun C s₀ H₀ ex=>(hg C s₀ H₀ ex).run) (fun C s₀ H₀ ex=>(ht C s₀ H₀ ex).run) (fun C s₀ H₀ ex=>(he C s₀ H₀ ex).run) (JC h)⟩
end
section
variable {X:Cx} {pins:List (Addr×Obj)} {U:St} {H:Hp} {s:Shared}
theorem Inv.newtup {wr:List Addr} {T:Addr} {vals:Array Value} {xs:List V} {h'':Heap} {tk:Nat} (I:Inv X pins U H s) (hf:∀ b∈wr,mR X pins H b) (hT:s.heap.objs.size<=T)
  (kall:∀ b o,b ∉ wr->s.heap.get? b=some o->h''.get? b=some o) (isT':h''.IsTuple T vals) (hv:Vals xs vals.toList) (hx:xs.length<=sizeLine):Inv X pins U (upd H T (.tup xs)) {s with heap:=h'',toks:=tk}:=by
 have hTn:H T=none:=I.hok.fresh hT
 have nT:∀ b o,s.heap.get? b=some o->b≠T:=fun b o e=>XN (Xy (Xp e) hT)
 have nTH:∀ b u,H b=some u->b≠T:=fun b u e z=>by rw [z,hTn] at e;cases e
 have nW:∀ b u,H b=some u->b ∉ wr:=fun b u e hb=>by rw [(hf b hb).1] at e;cases e
 refine I.step (g':=s.gens) (d':=s.drawn) (ch:=wr) (fun b hb=>?_) (fun b o _ _ hc e _=>kall b o hc e) (fun b o _ _ hc e _=>⟨o.slots,kall b o hc e⟩) (fun b o _ e hn=>by rw [aD (nT b o e)];exact hn)
  (fun b o hc e=>⟨o,kall b o hc e⟩) (fun b ys e=>by rw [aD (nTH b _ e)];exact e) (fun b o u e=>by rw [aD (nTH b _ e)];exact e) (fun b ps e=>⟨#[],by rw [aD (nTH b _ e),e];simp⟩) (fun m hm=>?_) (fun b u e=>?_) I.bare
 ·obtain ⟨f0,f1,f2,f3,f4,f5⟩:=hf b hb
  exact ⟨f3,f1,f4,f5⟩
 ·obtain ⟨o,es,ep,ho,r⟩:=hm
  exact ⟨o,es,ep,kall _ o (fun hb=>(hf _ hb).2.1 rfl) ho,r⟩
 ·by_cases hb:b=T
  ·subst hb
   rw [aj] at e;cases e
   obtain ⟨o,ho,hcl,nn,hd⟩:=isT'
   exact ⟨hx,vals.toList,hv,o,ho,hcl,nn,by simpa using hd⟩
  ·rw [aD hb] at e
   refine (I.hok b u e).stay (fun c v hc' q=>kall c v ?_ q) (fun c q=>by rw [aD (nTH c _ q)];exact q) fun c ys q=>by rw [aD (nTH c _ q)];exact q
   rcases hc' with z | z
   ·rw [z];exact nW b u e
   ·exact nW c _ z
theorem Inv.only {wr:List Addr} {h':Heap} {tk:Nat} (I:Inv X pins U H s) (hf:∀ b∈wr,mR X pins H b) (kk:∀ b o,b ∉ wr->s.heap.get? b=some o->h'.get? b=some o):Inv X pins U H {s with heap:=h',toks:=tk}:=by
 have nW:∀ b u,H b=some u->b ∉ wr:=fun b u e hb=>by rw [(hf b hb).1] at e;cases e
 refine I.step (g':=s.gens) (d':=s.drawn) (ch:=wr) (fun b hb=>?_) (fun b o _ _ hc e _=>kk b o hc e) (fun b o _ _ hc e _=>⟨o.slots,kk b o hc e⟩) (fun b o _ e hn=>hn)
   (fun b o hc e=>⟨o,kk b o hc e⟩) (fun b ys e=>e) (fun b o u e=>e) (fun b ps e=>⟨#[],by rw [e];simp⟩) (fun m hm=>?_) (fun b u e=>?_) I.bare
 ·obtain ⟨f0,f1,f2,f3,f4,f5⟩:=hf b hb
  exact ⟨f3,f1,f4,f5⟩
 ·obtain ⟨o,es,ep,ho,r⟩:=hm
  exact ⟨o,es,ep,kk _ o (fun hb=>(hf _ hb).2.1 rfl) ho,r⟩
 ·refine (I.hok b u e).stay (fun c v hc' q=>kk c v ?_ q) (fun c q=>q) fun c ys q=>q
  rcases hc' with z | z
  ·rw [z];exact nW b u e
  ·exact nW c _ z
end
def Va (K:W.Frag) (a:Addr):It:=
 ⟨fun i H=>∃ xs x,SqL K H a xs/\xs[i]?=some x,
  fun i H v H'=>∃ T x,H T=none/\v= .ref T/\(∀ xs,SqL K H a xs->xs[i]?=some x)/\H'=upd H T (.tup [.int i,x]),
  fun i H=>∃ xs,SqL K H a xs/\xs.length<=i⟩
theorem CG {P:Program} {w:World} {K:W.Frag} {elts:List Expr} {k:Nat} {pos:Pos} {e it a:Addr} (hne:e≠it):
  Turn P w K (.Tuple elts k pos) (Va K a) [e,it] e (fun i h=>(∃ old,IsEnum h e it i old)/\h.IsListIter it a i) where
 mem:=by simp
 obj:=fun i h st c hc=>by
  obtain ⟨⟨old,he⟩,⟨o1,e1,c1,d1⟩⟩:=st
  simp only [Xr,Yd,or_false] at hc
  rcases hc with rfl | rfl
  ·exact ⟨_,he,fun v z=>by cases z⟩
  ·exact ⟨_,e1,fun v z=>by rw [d1] at z;cases z⟩
 keep:=fun i h h' st kk=>by
  obtain ⟨⟨old,he⟩,h1⟩:=st
  exact ⟨⟨old,kk e (by simp) _ he⟩,h1.at fun o q=>kk it (by simp) o q⟩
 item:=by
  intro X hP hw hK hc i pins s U H E I hf st hg
  subst hP hw hK
  obtain ⟨⟨old,he⟩,h1⟩:=st
  obtain ⟨xs,x,hq,hx⟩:=hg
  obtain ⟨its,rv,p,_⟩:=I.list hq
  obtain ⟨u,hu,ru⟩:=rv.get hx
  refine wpAny_pyNext_enum_item he h1 p.isList (x:=u) (by simpa using hu) hne fun h' a1 a2 a3 a4 hk=>?_
  refine ⟨_,rfl,wpAny_letOwnedTupleGo_enum a1 fun h'' a1' sb=>?_⟩
  have lt:∀ {c o},s.heap.get? c=some o->s.heap.objs.size≠c:=fun e=>ZC (Xp e)
  have lti:s.heap.objs.size≠it:=by obtain ⟨o,q,_⟩:=h1;exact lt q
  have isT:h''.IsTuple s.heap.objs.size #[.int i s.toks,u]:=⟨_,sb.extBut _ _ (lt he) a3,rfl,_,rfl⟩
  have kall:∀ b o,b ∉ [e,it]->s.heap.get? b=some o->h''.get? b=some o:=fun b o hb q=>by
   simp only [Xr,Yd,or_false,not_or] at hb
   exact sb.extBut _ _ hb.1 (hk b o hb.1 hb.2 q)
  have hTn:H s.heap.objs.size=none:=I.hok.fresh (Xo _)
  refine ⟨.ref s.heap.objs.size,_,I.newtup (tk:=s.toks+1) hf (Xo _) kall isT (xs:=[.int i,x]) (.cons ⟨_,rfl⟩ (.cons ru .nil)) (by simp;decide),rfl,⟨_,x,hTn,rfl,fun zs hs=>by rw [I.list_inj hs hq];exact hx,rfl⟩,?_,fun b hb=>?_⟩
  ·exact ⟨⟨_,a1'⟩,a2.extBut sb.extBut (Ne.symm hne)⟩
  ·have:s.heap.objs.size≠b:=by
    simp only [Xr,Yd,or_false] at hb
    rcases hb with rfl | rfl
    ·exact lt he
    ·exact lti
   rw [aD (Ne.symm this)]
   exact (hf b hb).1
 done:=by
  intro X hP hw hK hc i pins s U H E I hf st hg
  subst hP hw hK
  obtain ⟨⟨old,he⟩,h1⟩:=st
  obtain ⟨xs,hq,hx⟩:=hg
  obtain ⟨its,rv,p,_⟩:=I.list hq
  have l1:=rv.length
  refine wpAny_pyNext_enum_end (I.ok.hd hc) he h1 p.isList (by simp;omega) fun h' hk=>⟨rfl,I.only (tk:=s.toks) hf fun b o hb q=>?_⟩
  simp only [Xr,Yd,or_false,not_or] at hb
  exact hk b o hb.2 q
 self:=fun _ _ _ _ _ st h=>let ⟨⟨_,he⟩,_⟩:=st;wpAny_pyIter_enum he h
theorem GK {X:Cx} {elts:List Expr} {k:Nat} {tp:Pos} {pins:List (Addr×Obj)} {U:St} {H1:Hp} {s1:Shared} {x:Str} {t:Tok} {R:It->Hp->Prop} (hc:X.calm=true) (I1:Inv X pins U H1 s1) (q:R (Xd (Af x) x.cps.size) H1):
  wpAny (model X.prog X.w) X.A (call (.type "enumerate") [.str x t]) (fun v s1=>wpAny (model X.prog X.w) X.A (pyIter v) (PIE X pins U (.Tuple elts k tp) R) X.xe s1) X.xe s1:=by
 refine call_enumerate_str fun h' he hit hsz hk=>?_
 have J1:Inv X pins U H1 {s1 with heap:=h'}:=I1.kept (t':=s1.toks) hk
 have ne1:s1.heap.objs.size+1≠s1.heap.objs.size:=Nat.succ_ne_self _
 have nm:s1.heap.objs.size+1 ∉ [s1.heap.objs.size]:=fun z=>ne1 (Yv.mp z)
 have hPt:∀ (i:Nat) (vals:Array Value),(∃ t y,SignAt x i y/\vals= #[.int i t,y])->Vals (Af x i) vals.toList:=by
  rintro i vals ⟨t,y,⟨c,u,e1,rfl⟩,rfl⟩
  refine .cons ⟨t,rfl⟩ (.cons ⟨u,?_⟩ .nil)
  rw [show x.cps.getD i 0=c by simp [Array.getD_eq_getD_getElem?,e1]]
 have fin:∀ (ty:String) (Dr:∀ A:Around,A.handled=none->Draws X.prog X.w A s1.heap.objs.size [s1.heap.objs.size] x.cps.size (SignAt x) fun i h=>h.IsStrIter s1.heap.objs.size ty x t i),h'.IsStrIter s1.heap.objs.size ty x t 0->
   wpAny (model X.prog X.w) X.A (pyIter (.ref (s1.heap.objs.size+1))) (PIE X pins U (.Tuple elts k tp) R) X.xe {s1 with heap:=h'}:=by
  intro ty Dr hit'
  have W:∀ A:Around,A.handled=none->WalksT X.prog X.w A (s1.heap.objs.size+1) [s1.heap.objs.size+1,s1.heap.objs.size] [s1.heap.objs.size+1,s1.heap.objs.size] x.cps.size
    (fun i vals=>∃ t y,SignAt x i y/\vals= #[.int i t,y]) (fun i h=>(∃ old,IsEnum h (s1.heap.objs.size+1) s1.heap.objs.size i old)/\h.IsStrIter s1.heap.objs.size ty x t i)
    (fun i T h=>(∃ y,IsEnumOut h (s1.heap.objs.size+1) s1.heap.objs.size ((i:Int)+1) y T)/\h.IsStrIter s1.heap.objs.size ty x t (i+1)/\T≠s1.heap.objs.size+1/\T≠s1.heap.objs.size):=
   fun A hA=>WalksT.enumerateD (Dr A.in1 hA) (s1.heap.objs.size+1) ne1 nm (by simp)
  have hself:∀ (A:Around) (i:Nat) (s:Shared) (Q:Value->Shared->Prop) (E:Value->Shared->Prop),((∃ old,IsEnum s.heap (s1.heap.objs.size+1) s1.heap.objs.size i old)/\s.heap.IsStrIter s1.heap.objs.size ty x t i)->Q (.ref (s1.heap.objs.size+1)) s->wpAny (model X.prog X.w) A (pyIter (.ref (s1.heap.objs.size+1))) Q E s:=by
   rintro A i s Q E ⟨⟨old,he⟩,_⟩ hQ
   exact wpAny_pyIter_enum he hQ
  refine hself _ 0 _ _ _ ⟨⟨_,he⟩,hit'⟩ ?_
  refine ⟨s1.heap.objs.size+1,[s1.heap.objs.size+1,s1.heap.objs.size],_,_,H1,rfl,J1,Th W (fun i=>by simp [Af];decide) hPt (by simp) ?_ hself,⟨⟨_,he⟩,hit'⟩,fun b hb=>?_,q⟩
  ·rintro i h ⟨⟨old,he⟩,o,ho,hcl,hd⟩ b hb
   rcases Xr.mp hb with rfl | hb
   ·exact ⟨_,he,fun v z=>by cases z⟩
   ·rw [Yv.mp hb]
    exact ⟨o,ho,fun v z=>by rw [hd] at z;cases z⟩
  ·have hb':s1.heap.objs.size<=b:=by
    rcases Xr.mp hb with rfl | hb
    ·exact Nat.le_succ _
    ·rw [Yv.mp hb];exact Xo _
   exact I1.fpOk hb' (I1.hok.fresh hb')
 cases hx:x.cps.all (· < 128)
 ·exact fin "str_iterator" (fun A hA=>Draws.strWide hA _ x t) (by simpa [strIterType,hx] using hit)
 ·exact fin "str_ascii_iterator" (fun A hA=>Draws.strAscii hA _ x t) (by simpa [strIterType,hx] using hit)
def Qt (K:W.Frag) (ta:TA):TI:=fun U H R=>ta U H fun vs H1=>(∃ x:Str,vs=[.str x]/\R (Xd (Af x) x.cps.size) H1)\/∃ a xs,vs=[.ref a]/\SqL K H1 a xs/\R (Va K a) H1
theorem Eo {X:Cx} {K:W.Frag} {a:Expr} {ta:TA} {elts:List Expr} {k:Nat} {tp p pos:Pos} (hK:X.K=K) (hc:X.calm=true) (hg:Gl X "enumerate") (hm:X.mg "enumerate"=none) (ha:JA X [a] ta) (h:autoParam (notStar a=true) L2.auto4._auto_1):
  JI X (.Tuple elts k tp) (.Call (.Name "enumerate" p) [a] [] pos) (Qt K ta):=⟨by
 subst hK
 intro pins s U H R I hq
 refine Call_ (jd I hg hm yK (XS (d9 (ha.run pos pins s U H _ I hq) fun us s1 qq0=>?_) (bJ h) rfl))
 obtain ⟨vs,H1,I1,r1,q1⟩:=qq0
 rcases q1 with ⟨x,e,q⟩ | ⟨l,xs,e,hl,q⟩
 ·subst e
  obtain ⟨u,rfl,t,rfl⟩:=vals1 r1
  exact GK hc I1 q
 ·subst e
  obtain ⟨u,rfl,ru⟩:=vals1 r1
  cases ru
  obtain ⟨its,rv,p1,_⟩:=I1.list hl
  refine call_enumerate_list p1.isList fun h' z1 z2 z3 hk=>?_
  have J1:Inv X pins U H1 {s1 with heap:=h'}:=I1.kept (t':=s1.toks) hk
  refine wpAny_pyIter_enum z1 ?_
  refine ⟨s1.heap.objs.size+1,_,_,_,H1,rfl,J1,CG (Nat.succ_ne_self _),⟨⟨_,z1⟩,z2⟩,fun b hb=>?_,q⟩
  have hb':s1.heap.objs.size<=b:=by
   simp only [Xr,Yd,or_false] at hb
   have key:∀ n c:Nat,(c=n+1\/c=n)->n<=c:=fun n c h=>by omega
   exact key _ _ hb
  exact I1.fpOk hb' (I1.hok.fresh hb')⟩
end L2
namespace L2
open PySem PySem.Spec PyProof.Rows PySem.SeqAt
mutual
def DR (H:Hp):PyData->V->Prop
 | .none,v=>v= .non
 | .bool b,v=>v= .bl b
 | .int n,v=>v= .int n
 | .str x,v=>v= .str x
 | .list ds,v=>∃ a vs,v= .ref a/\H a=some (.lst vs)/\DRs H ds vs
 | .tuple ds,v=>∃ a vs,v= .ref a/\H a=some (.tup vs)/\DRs H ds vs
 | .dict _,_=>False
def DRs (H:Hp):List PyData->List V->Prop
 | [],vs=>vs=[]
 | d :: ds,vs=>∃ v r,vs=v :: r/\DR H d v/\DRs H ds r
end
mutual
theorem DR.reads {P:Program} {w:World} {H:Hp} {h:Heap} (ok:HOk P w H h):∀ (d:PyData) (v:V) (u:Value),DR H d v->RelV v u->∃ as,Reads h u d as
 | .none,_,u,q,r=>by rw [DR] at q;subst q;cases r;exact ⟨_,.none⟩
 | .bool b,_,u,q,r=>by rw [DR] at q;subst q;cases r;exact ⟨_,.bool _⟩
 | .int n,_,u,q,r=>by rw [DR] at q;subst q;obtain ⟨t,rfl⟩:=r;exact ⟨_,.int _ _⟩
 | .str n,_,u,q,r=>by rw [DR] at q;subst q;obtain ⟨t,rfl⟩:=r;exact ⟨_,.str _ _⟩
 | .list ds,v,u,q,r=>by
  rw [DR] at q
  obtain ⟨a,vs,rfl,e,t⟩:=q
  cases r
  obtain ⟨_,its,n,rv,g⟩:=ok a _ e
  obtain ⟨as,ra⟩:=DRs.reads ok ds vs its t rv
  exact ⟨_,.list g rfl rfl (by simpa using ra)⟩
 | .tuple ds,v,u,q,r=>by
  rw [DR] at q
  obtain ⟨a,vs,rfl,e,t⟩:=q
  cases r
  obtain ⟨_,its,rv,g⟩:=ok a _ e
  obtain ⟨as,ra⟩:=DRs.reads ok ds vs its t rv
  obtain ⟨o,ho,hc,n,hd⟩:=g
  exact ⟨_,.tuple ho hc hd (by simpa using ra)⟩
 | .dict _,_,_,q,_=>by rw [DR] at q;exact q.elim
theorem DRs.reads {P:Program} {w:World} {H:Hp} {h:Heap} (ok:HOk P w H h):∀ (ds:List PyData) (vs:List V) (us:List Value),DRs H ds vs->Vals vs us->∃ as,ReadsAll h us ds as
 | [],_,us,q,r=>by rw [DRs] at q;subst q;cases r;exact ⟨_,.nil⟩
 | d :: ds,_,us,q,r=>by
  rw [DRs] at q
  obtain ⟨v,r',rfl,q1,q2⟩:=q
  cases r with
  | cons a b=>
   obtain ⟨as,h1⟩:=DR.reads ok d v _ q1 a
   obtain ⟨bs,h2⟩:=DRs.reads ok ds r' _ q2 b
   exact ⟨_,.cons h1 h2⟩
end
def Wb:R2:=fun x y H Q=>∃ d e,DR H d x/\DR H e y/\shaped d=true/\shaped e=true/\Q (.bl (PyData.eqv d e)) H
def Wc:R2:=fun x y H Q=>∃ d e,DR H d x/\DR H e y/\shaped d=true/\shaped e=true/\Q (.bl (!PyData.eqv d e)) H
section
variable {X:Cx}
theorem Tj (hu:X.A.units+64 < cLine):OpR X (compareOp .Eq) Wb:=by
 intro pins s U H x y v u Q I rx ry h
 obtain ⟨d,e,h1,h2,h3,h4,q⟩:=h
 obtain ⟨as,r1⟩:=DR.reads I.hok d x v h1 rx
 obtain ⟨bs,r2⟩:=DR.reads I.hok e y u h2 ry
 exact eq_dataH r1 r2 h3 h4 hu ⟨.bl _,H,I,rfl,q⟩
theorem Tp (hu:X.A.units+64 < cLine):OpR X (compareOp .NotEq) Wc:=by
 intro pins s U H x y v u Q I rx ry h
 obtain ⟨d,e,h1,h2,h3,h4,q⟩:=h
 obtain ⟨as,r1⟩:=DR.reads I.hok d x v h1 rx
 obtain ⟨bs,r2⟩:=DR.reads I.hok e y u h2 ry
 exact ne_dataH r1 r2 h3 h4 hu ⟨.bl _,H,I,rfl,q⟩
def NQ (K:W.Frag):R2:=fun x y H Q=>Sy K x y H Q\/Wb x y H Q
def NT (K:W.Frag):R2:=fun x y H Q=>Wa K x y H Q\/Wc x y H Q
theorem Tq {K:W.Frag} (hK:X.K=K) (hu:X.A.units+64 < cLine):OpR X (compareOp .Eq) (NQ K):=(SN hK (YK (YL _ _) hu)).or (Tj hu)
theorem CJ {K:W.Frag} (hK:X.K=K) (hu:X.A.units+64 < cLine):OpR X (compareOp .NotEq) (NT K):=(Ti hK hu).or (Tp hu)
end
section
variable {H:Hp} {Q:VK} {K:W.Frag} {U:St}
theorem cF {i j:Int} (h:Q (.bl (decide (V.int i=V.int j))) H):NQ K (.int i) (.int j) H Q:=.inl (.inl ⟨rfl,h⟩)
theorem cG {i j:Str} (h:Q (.bl (decide (V.str i=V.str j))) H):NQ K (.str i) (.str j) H Q:=.inl (.inl ⟨rfl,h⟩)
theorem cH {i j:Int} (h:Q (.bl (!decide (V.int i=V.int j))) H):NT K (.int i) (.int j) H Q:=.inl (.inl ⟨rfl,h⟩)
theorem cI {i j:Str} (h:Q (.bl (!decide (V.str i=V.str j))) H):NT K (.str i) (.str j) H Q:=.inl (.inl ⟨rfl,h⟩)
theorem bO {a:TA} {R:It->Hp->Prop} (h:a U H fun vs H1=>(∃ x:Str,vs=[.str x]/\R (Xd (Af x) x.cps.size) H1)\/∃ a xs,vs=[.ref a]/\SqL K H1 a xs/\R (Va K a) H1):Qt K a U H R:=h
theorem xO {a:Addr} {xs:List V} {g:TG} {tb:TS} {D:Ends} (Pv:Nat->St->Hp->Prop) (h0:Pv 0 U H) (hq:∀ i U H,i<=xs.length->Pv i U H->SqL K H a xs)
  (hs:∀ i U H T x,xs[i]?=some x->Pv i U H->H T=none->g (.ref T) U (upd H T (.tup [.int i,x])) fun σ2 H2=>tb {D with nx:=Pv (i+1),ct:=Pv (i+1),bk:=D.nx} σ2 H2) (hd:∀ U H,Pv xs.length U H->D.nx U H):
  ∃ W:Nat->Nat->St->Hp->Prop,(∃ m,W 0 m U H)/\∀ i m U H,W i m U H->
   ((Va K a).stop i H/\D.nx U H)\/((Va K a).go i H/\∃ N:St->Hp->Prop,(∀ U' H',N U' H'->∃ m',m' < m/\W (i+1) m' U' H')/\∀ x H',(Va K a).yld i H x H'->g x U H' fun σ2 H2=>tb {D with nx:=N,ct:=N,bk:=D.nx} σ2 H2):=by
 refine ⟨fun i m U H=>m=xs.length - i/\i<=xs.length/\Pv i U H,⟨xs.length,by simp,YG _,h0⟩,?_⟩
 rintro i m U H ⟨rfl,hi,p⟩
 have q1:=hq i U H hi p
 by_cases hlt:i < xs.length
 ·refine .inr ⟨⟨xs,xs[i],q1,Xk hlt⟩,Pv (i+1),fun U' H' p'=>⟨xs.length - (i+1),by omega,rfl,hlt,p'⟩,fun x H' y=>?_⟩
  obtain ⟨T,u,hT,e1,e2,e4⟩:=y
  subst e1 e4
  exact hs i U H T u (e2 xs q1) p hT
 ·have e:i=xs.length:=by omega
  subst e
  exact .inl ⟨⟨xs,q1,Xo _⟩,hd U H p⟩
end
end L2
namespace L2
open PySem PySem.Spec PyProof.Rows
theorem JR:typeLookup (.type "list_reverseiterator") "__len__"=pure none:=by rw [ZM,Y7];kernel_rfl
theorem GQ:typeLookup (.type "list_reverseiterator") "__length_hint__"=pure (some (.builtin "list_reverseiterator.__length_hint__")):=by rw [ZM,Y7];kernel_rfl
section
variable {prog:Program} {w:World} {A:Around} {E:Value->Shared->Prop} {s:Shared}
theorem JV {it l:Addr} {i:Int} {Q:Bool->Shared->Prop} (hit:s.heap.IsRevIter it l i) (h:Q false s):wpAny (model prog w) A (Builtin.List.listLengthHint (.ref it)) Q E s:=by
 unfold Builtin.List.listLengthHint
 refine Xi (ZL hit.typeIs JR ?_)
 show wpAny _ _ (specialOf (Value.ref it) (Str.ofString "__length_hint__") >>=_) _ _ _
 refine Xi (ZL hit.typeIs GQ ?_)
 generalize hid:("list_reverseiterator.__length_hint__":String)=id0
 wp_delta
 rw [show splitId id0=some ("list_reverseiterator","__length_hint__") from by subst hid;trivial]
 subst hid
 refine Xi (wpAny_isInstance (T:="list_reverseiterator") (b:=true) hit.typeIs (by rw [ZW];kernel_rfl) ?_)
 refine wpAny_ite_split (fun hab=>absurd hab (by decide)) (fun _=>?_)
 refine wpAny_ite_split (fun _=>?_) (fun hab=>absurd (by trivial) hab)
 refine wpAny_ite_split (fun hab=>absurd hab (by trivial)) (fun _=>?_)
 exact Xl h
theorem JX {it l:Addr} {items:Array Value} {Q:Value->Shared->Prop} (hh:A.handled=none) (hit:s.heap.IsRevIter it l ((items.size:Int) - 1)) (hl:s.heap.IsList l items) (hne:l≠it) (hn:items.size<=sizeLine)
  (hQ:∀ h' tk acc' c',(∀ b o,b≠it->s.heap.get? b=some o->h'.get? b=some o)->h'.get? s.heap.objs.size=some {cls:=.type "list",dict:=none,data:=.seq acc' c',slots:=#[]}->
   ItemsOf (fun i v=>items[items.size - 1 - i]?=some v) acc' items.size->Q (.ref s.heap.objs.size) {s with heap:=h',toks:=tk}):
  wpAny (model prog w) A (call (.type "list") [.ref it]) Q E s:=by
 refine callType_codes (Q₁:=fun obj s₁=>obj= .ref s.heap.objs.size/\s₁={s with heap:=s.heap.push {cls:=.type "list",data:=.seq #[]}}) F.called_list (F.typeCall_list_1 _) F.entry_list_init
  (code_list_new _ ⟨rfl,rfl⟩) fun obj s₁ h₁=>?_
 obtain ⟨rfl,rfl⟩:=h₁
 have iti:it < s.heap.objs.size:=by obtain ⟨o,e,_⟩:=hit;exact Xp e
 have itl:l < s.heap.objs.size:=by obtain ⟨o,e,_⟩:=hl;exact Xp e
 generalize hS0:s.heap.objs.size=S at iti itl hQ
 have hS:(s.heap.push {cls:=.type "list",data:=.seq #[]}).get? S=some {cls:=.type "list",data:=.seq #[]}:=by rw [← hS0];exact Xu _ rfl
 have kp:∀ b o,s.heap.get? b=some o->(s.heap.push {cls:=.type "list",data:=.seq #[]}).get? b=some o:=fun b o e=>Xn _ e
 generalize s.heap.push {cls:=.type "list",data:=.seq #[]}=h1 at hS kp
 have hit1:h1.IsRevIter it l ((items.size:Int) - 1):=hit.at fun o e=>kp it o e
 have hl1:h1.IsList l items:=hl.at fun o e=>kp l o e
 refine ⟨⟨_,hS,rfl⟩,F.args_list_init_2 _ _,?_⟩
 have nSi:S≠it:=ZC iti
 have nSl:S≠l:=ZC itl
 have hSf:S ∉ [it,l]:=by simp [nSi,nSl]
 have W:=(Walks.listRev (prog:=prog) (w:=w) (A:=A.in1.in1) hh it l hne items).toS
 show wpAny _ A.in1.in1 (do let old ← Builtin.List.listItems (.ref S);Builtin.List.listUpdate (.ref S) (fun _=>#[]);letGo old.toList.reverse;Builtin.List.listExtendWith (.ref S) (.ref it) .none) _ _ _
 unfold Builtin.List.listItems
 refine Xi (Xi (wpAny_seqItems hS rfl (Xl ?_)))
 show wpAny _ A.in1.in1 (updateSeq S (fun _=>#[]) >>=fun _=>letGo (#[]:Array Value).toList.reverse >>=fun _=>Builtin.List.listExtendWith (.ref S) (.ref it) .none) _ _ _
 refine Xi (wpAny_updateSeq hS rfl ?_)
 have hS2:=Ys (Obj.mapSeq (fun _=>(#[]:Array Value))) hS rfl
 have k2:∀ b o,b≠S->h1.get? b=some o->(h1.update S (Obj.mapSeq (fun _=>(#[]:Array Value)))).get? b=some o:=fun b o hb e=>(X8 _ _ (Ne.symm hb)).trans e
 generalize h1.update S (Obj.mapSeq (fun _=>(#[]:Array Value)))=h2 at hS2 k2
 have hit2:=hit1.at (h':=h2) fun o e=>k2 it o (Ne.symm nSi) e
 have hl2:=hl1.at (h':=h2) fun o e=>k2 l o (Ne.symm nSl) e
 refine Xi (wpAny_letGo ?_)
 unfold Builtin.List.listExtendWith
 refine Xi (wpAny_typeOf (T:="list_reverseiterator") (Heap.IsRevIter.typeIs (s:={s with heap:=h2}) hit2) ?_)
 have e1:Builtin.List.listSameRef (.ref S) (.ref it)=false:=by simp [Builtin.List.listSameRef,nSi]
 have e2:(Value.type "list_reverseiterator" == Value.type "list")=false:=by decide
 have e3:(Value.type "list_reverseiterator" == Value.type "tuple")=false:=by decide
 simp only [e1,e2,e3,Bool.or_false,Bool.false_eq_true,if_false]
 refine Xi (wpAny_pyIter_revIter (s:={s with heap:=h2}) hit2 ?_)
 refine Xi (Yl (JV (s:={s with heap:=h2}) hit2 ?_))
 refine wpAny_ite_split (fun hab=>absurd hab (by trivial)) (fun _=>?_)
 refine Xl ⟨Z9 F.plain_extend_loop _,?_⟩
 refine codeAny_extend_loopS W hn S hSf .none items.size 0 _ #[] _ rfl (YG _) ⟨YG _,by simpa using hit2,hl2⟩ hS2 (ItemsOf.nil _) fun s' acc' c' hm hS' hacc=>?_
 rw [Moved.eq_with hm]
 refine ⟨rfl,hQ s'.heap s'.toks acc' c' (fun b o hb e=>hm.heap b o (fun hmem=>?_) (k2 b o (fun z=>?_) (kp b o e))) hS' hacc⟩
 ·rcases Xr.mp hmem with e' | hmem
  ·exact absurd (Xp e) (by rw [e',hS0];exact Yz _)
  ·exact hb (Yv.mp hmem)
 ·exact absurd (Xp e) (by rw [z,hS0];exact Yz _)
end
section
variable {X:Cx} {K:W.Frag} {a b c e:Expr} {ta tb tc te:TE} {pos p p2 p3:Pos}
theorem NZ {op op':CmpOp} {r r':R2} (ho:OpR X (compareOp op) r) (ho':OpR X (compareOp op') r') (ha:JE X a ta) (hb:JE X b tb) (hc:JE X c tc) (hm:autoParam (lastMarks [op,op'] [b,c]=false) L2.auto5._auto_1):
  JE X (.Compare a [op,op'] [b,c] pos) (BV r r' ta tb tc):=⟨IK ho ho' ha.run hb.run hc.run hm⟩
theorem arg1 {Q:List Value->Shared->Prop} {E:Value->Shared->Prop} {s:Shared} (hs:notStar e=true) (h:wpAny (model X.prog X.w) X.A (eval e X.env) (fun u s1=>Q [u] s1) E s):wpAny (model X.prog X.w) X.A (spliced (backTo pos (starEach [e] X.env))) Q E s:=by
 rw [bJ hs]
 show wpAny _ _ (spliced ((false,eval e X.env) :: backTo pos (starEach [] X.env))) _ _ s
 exact Calls.spliced_cons (X5 h (fun u s1 q=>Calls.spliced_nil q) fun _ _ z=>z)
def JZ (K:W.Frag) (ta:TE):TE:=fun U H Q=>ta U H fun x H1=>∃ l xs,x= .ref l/\SqL K H1 l xs/\∀ q,H1 q=none->Q (.ref q) (upd H1 q (.lst xs.reverse))
theorem xP (hK:X.K=K) (hc:X.calm=true) (hg:Gl X "list") (hm:X.mg "list"=none) (hg2:Gl X "reversed") (hm2:X.mg "reversed"=none) (ha:JE X a ta) (h:autoParam (notStar a=true) L2.auto4._auto_1):
  JE X (.Call (.Name "list" p) [.Call (.Name "reversed" p2) [a] [] p3] [] pos) (JZ K ta):=⟨by
 subst hK
 intro pins s U H Q I hq
 refine Yi (jd I hg hm jf (XS (arg1 rfl (Yi (jd I hg2 hm2 uh (XS (arg1 h (d9 (ha.run pins s U H _ I hq) fun u s1 qq0=>?_)) (bJ h) rfl)))) rfl rfl))
 obtain ⟨x,H1,I1,rx,l,xs,ex,hx,q⟩:=qq0
 subst ex
 cases rx
 obtain ⟨its,r,ht,hz⟩:=I1.list hx
 have hlen:=r.length
 refine call_reversed_list ht.isList ?_
 have lt:l < s1.heap.objs.size:=by obtain ⟨o,ho,_⟩:=ht.isList;exact Xp ho
 have e0:(s1.heap.push (PySem.revObj l ((its.toArray.size:Int) - 1))).get? s1.heap.objs.size=some (PySem.revObj l ((its.toArray.size:Int) - 1)):=Xu _ rfl
 have k0:∀ b o,s1.heap.get? b=some o->(s1.heap.push (PySem.revObj l ((its.toArray.size:Int) - 1))).get? b=some o:=fun b o q=>Xn _ q
 have s0:(s1.heap.push (PySem.revObj l ((its.toArray.size:Int) - 1))).objs.size=s1.heap.objs.size+1:=Y4 ..
 refine JX (it:=s1.heap.objs.size) (l:=l) (I1.ok.hd hc) ⟨_,e0,rfl,rfl⟩ (ht.isList.at fun o q=>k0 l o q) (XN lt) (by simp;omega) fun h' tk acc' c' hk hS hacc=>?_
 have eacc:acc'.toList=its.reverse:=by
  apply ZS
  intro i
  have a1:acc'.size=its.length:=by have:=hacc.1;simpa using this
  by_cases hi:i < its.length
  ·have hi':i < acc'.size:=by omega
   have a2:=hacc.2 i acc'[i] (Array.getElem?_eq_getElem hi')
   rw [List.getElem?_reverse hi]
   simp at a2
   rw [a2]
   simp [hi']
  ·rw [Yw (by simp;omega),Yw (by simp;omega)]
 have rr:Vals xs.reverse acc'.toList:=by rw [eacc];exact r.reverse
 have k1:∀ b o,s1.heap.get? b=some o->h'.get? b=some o:=fun b o z=>hk b o (XN (Xp z)) (k0 b o z)
 have hle:s1.heap.objs.size<=(s1.heap.push (PySem.revObj l ((its.toArray.size:Int) - 1))).objs.size:=by rw [s0];exact Nat.le_succ _
 refine ⟨.ref _,_,I1.laid (t':=tk) (o:=.lst xs.reverse) k1 hle ⟨by simp;omega,acc'.toList,c',rr,by simpa using hS⟩,rfl,q _ (I1.hok.fresh hle)⟩⟩
end
def GR (h:Heap) (T:Addr):Prop:=∃ oT ts,h.get? T=some oT/\oT.data= .fields ts/\3 < ts.size
def gD (C:Addr) (dd:Option Addr) (vs:Array Value):Obj:={cls:=.ref C,dict:=dd,data:=.fields vs}
def N5 (l:List Env):List Addr:=l.filterMap (·.frame)
section
variable {M:Model} {A:Around} {E:Value->Shared->Prop}
theorem xQ {base:Heap} {env:Env} {outer:List Env} {L x C:Addr} {dd:Option Addr} {vs:Array Value} {hd:Value} {had:Bool} {Q:Unit->Shared->Prop} {s:Shared}
  (fr:A.frames=some (env :: outer)) (ff:s.heap.FunFrames base (env :: outer)) (fL:env.frame=some L) (ex:s.heap.get? x=some (gD C dd vs)) (sz:1 < vs.size) (nx:x ∉ N5 (env :: outer))
  (k:∀ h' T,h'.get? x=some (gD C dd (vs.setIfInBounds 1 (.ref T)))->s.heap.objs.size<=T->GR h' T->(∀ b o,b≠x->b ∉ N5 (env :: outer)->s.heap.get? b=some o->h'.get? b=some o)->
   (∀ b o,b≠x->s.heap.get? b=some o->∃ sl,h'.get? b=some {o with slots:=sl})->Q () {s with heap:=h'}):
  wpAny M A (do let c ← frameOf env;let pl ← entryPlaceOf L had;let t ← EntryCells.newEntry hd c .none (rawInt L) .none pl;setField (.ref x) 1 t) Q E s:=by
 refine Xi (wpAny_frameOf_fun fr ff fL fun g1 so=>?_)
 refine Xi (wpAny_entryPlaceOf fun pl isp=>?_)
 unfold EntryCells.newEntry newFields
 refine Xi (YB ?_ (isp.sizeOk5 _ _ _ _ _))
 have x1:g1.get? x=some (gD C dd vs):=(so.2.1 x nx).trans ex
 have lts:([hd,Value.ref L,.none,rawInt L,.none] ++ (if pl.isEmpty then List.replicate 6 Value.none else pl)).toArray.size > 3:=by
  simp only [Xv,Yr,Yy,List.length_nil];omega
 generalize ([hd,Value.ref L,.none,rawInt L,.none] ++ (if pl.isEmpty then List.replicate 6 Value.none else pl)).toArray=tv at lts
 have x2:(g1.push {cls:=.type "traceback",dict:=none,data:=.fields tv}).get? x=some (gD C dd vs):=Xn _ x1
 have nTx:g1.objs.size≠x:=ZC (Xp x1)
 have t2:(g1.push {cls:=.type "traceback",dict:=none,data:=.fields tv}).get? g1.objs.size=some {cls:=.type "traceback",dict:=none,data:=.fields tv}:=Xu _ rfl
 have o2:∀ b o,g1.get? b=some o->(g1.push {cls:=.type "traceback",dict:=none,data:=.fields tv}).get? b=some o:=fun b o e=>Xn _ e
 refine ZX (vs:=vs) x2 rfl sz ?_
 have e3:=Ys (Obj.mapFields (·.setIfInBounds 1 (Value.ref g1.objs.size))) x2 rfl
 have ot:∀ b,b≠x->((g1.push {cls:=.type "traceback",dict:=none,data:=.fields tv}).update x (Obj.mapFields (·.setIfInBounds 1 (Value.ref g1.objs.size)))).get? b=(g1.push {cls:=.type "traceback",dict:=none,data:=.fields tv}).get? b:=fun b hb=>X8 _ _ (Ne.symm hb)
 refine k _ g1.objs.size e3 (by rw [so.1];exact Xo _) ⟨_,tv,(ot _ nTx).trans t2,rfl,lts⟩ (fun b o hb hf e=>?_) (fun b o hb e=>?_)
 ·rw [ot b hb];exact o2 b o ((so.2.1 b hf).trans e)
 ·obtain ⟨sl,q⟩:=so.2.2 b o e
  exact ⟨sl,by rw [ot b hb];exact o2 b _ q⟩
structure Ep (fs:List Addr) (x C:Addr) (dd:Option Addr) (hd:Option Addr) (h h':Heap) (T:Addr):Prop where
 obj:∃ vs,h'.get? x=some (gD C dd vs)/\vs[1]?=some (.ref T)/\vs[2]?=some .none
 tb:GR h' T
 ne:T≠x
 new:h.objs.size<=T\/hd=some T
 keep:∀ b o,b≠x->some b≠hd->b ∉ fs->h.get? b=some o->h'.get? b=some o
 slot:∀ b o,b≠x->some b≠hd->h.get? b=some o->∃ sl,h'.get? b=some {o with slots:=sl}
 tail:∀ b o,hd=some b->h.get? b=some o->∃ o',h'.get? b=some o'
theorem Wd {base:Heap} {env:Env} {outer:List Env} {L x C:Addr} {dd:Option Addr} {vs:Array Value} {Q:Unit->Shared->Prop} {s:Shared}
  (fr:A.frames=some (env :: outer)) (ff:s.heap.FunFrames base (env :: outer)) (fL:env.frame=some L) (ex:s.heap.get? x=some (gD C dd vs)) (h1:vs[1]?=some .none/\vs[2]?=some .none) (nx:x ∉ N5 (env :: outer))
  (k:∀ h' T,Ep (N5 (env :: outer)) x C dd none s.heap h' T->Q () {s with heap:=h'}):wpAny M A (noteFrame (.ref x) env) Q E s:=by
 unfold noteFrame
 simp only [fL]
 refine Xi (Za ex rfl h1.1 ?_)
 rw [if_neg (by decide)]
 have sz:1 < vs.size:=(Array.getElem?_eq_some_iff.mp h1.1).1
 refine xQ fr ff fL ex sz nx fun h' T a1 a2 a3 a4 a5=>k h' T ⟨⟨_,a1,by simp [sz],by rw [Array.getElem?_setIfInBounds_ne (by decide)];exact h1.2⟩,a3,?_,.inl a2,fun b o hb _ hf e=>a4 b o hb hf e,fun b o hb _ e=>a5 b o hb e,fun b o z=>by cases z⟩
 exact ZC (Xy (Xp ex) a2)
theorem We {base:Heap} {env:Env} {outer:List Env} {L x C T0:Addr} {dd:Option Addr} {vs:Array Value} {Q:Unit->Shared->Prop} {s:Shared}
  (fr:A.frames=some (env :: outer)) (ff:s.heap.FunFrames base (env :: outer)) (fL:env.frame=some L) (ex:s.heap.get? x=some (gD C dd vs)) (h1:vs[1]?=some (.ref T0)/\vs[2]?=some .none) (t0:GR s.heap T0) (ne:T0≠x) (nx:x ∉ N5 (env :: outer)) (nT:T0 ∉ N5 (env :: outer))
  (k:∀ h' T,Ep (N5 (env :: outer)) x C dd (some T0) s.heap h' T->Q () {s with heap:=h'}):wpAny M A (noteFrame (.ref x) env) Q E s:=by
 obtain ⟨oT,ts,g,d,l3⟩:=id t0
 unfold noteFrame
 simp only [fL]
 refine Xi (Za ex rfl h1.1 ?_)
 rw [if_pos (show (Value.ref T0 != Value.none)=true from by simp)]
 refine Xi (Za g d (Array.getElem?_eq_getElem l3) ?_)
 by_cases q:(ts[3] == rawInt L)=true
 ·rw [if_pos q]
  exact Xl (k _ T0 ⟨⟨vs,ex,h1⟩,t0,ne,.inr rfl,fun b o _ _ _ e=>e,fun b o _ _ e=>⟨o.slots,e⟩,fun b o _ e=>⟨o,e⟩⟩)
 ·rw [if_neg q]
  refine Xi (ZX g d l3 ?_)
  have tT:=Ys (Obj.mapFields (·.setIfInBounds 3 Value.none)) g (ZQ (Zj d _))
  have ot:∀ b,b≠T0->(s.heap.update T0 (Obj.mapFields (·.setIfInBounds 3 Value.none))).get? b=s.heap.get? b:=fun b hb=>X8 _ _ (Ne.symm hb)
  have sz:1 < vs.size:=(Array.getElem?_eq_some_iff.mp h1.1).1
  have ff2:(s.heap.update T0 (Obj.mapFields (·.setIfInBounds 3 Value.none))).FunFrames base (env :: outer):=ff.of_keeps fun b o hb hn=>by
   refine ⟨o,(ot b (fun z=>?_)).trans hb,rfl⟩
   rw [z,g] at hb;cases hb;exact hn _ d
  refine xQ (s:={s with heap:=s.heap.update T0 (Obj.mapFields (·.setIfInBounds 3 Value.none))}) fr ff2 fL ((ot x (Ne.symm ne)).trans ex) sz nx fun h' T a1 a2 a3 a4 a5=>k h' T ⟨⟨_,a1,by simp [sz],by rw [Array.getElem?_setIfInBounds_ne (by decide)];exact h1.2⟩,a3,?_,.inl (by rw [Heap.size_update] at a2;exact a2),fun b o hb h0 hf e=>a4 b o hb hf ((ot b (fun z=>h0 (by rw [z]))).trans e),fun b o hb h0 e=>a5 b o hb ((ot b (fun z=>h0 (by rw [z]))).trans e),fun b o hb e=>?_⟩
  ·exact ZC (Xy (Xp ex) (by rw [Heap.size_update] at a2;exact a2))
  ·cases hb
   obtain ⟨sl,z⟩:=a5 T0 _ ne tT
   exact ⟨_,z⟩
theorem Wf {x C T0:Addr} {dd:Option Addr} {vs:Array Value} {Q:Unit->Shared->Prop} {s:Shared} (ex:s.heap.get? x=some (gD C dd vs)) (h1:vs[1]?=some (.ref T0)/\vs[2]?=some .none) (t0:GR s.heap T0) (ne:T0≠x)
  (k:∀ h',Ep [] x C dd (some T0) s.heap h' T0->Q () {s with heap:=h'}):wpAny M A (setFlight (.ref x) none) Q E s:=by
 obtain ⟨oT,ts,g,d,l3⟩:=id t0
 unfold setFlight
 refine Xi (Za ex rfl h1.1 ?_)
 rw [if_pos (show (Value.ref T0 != Value.none)=true from by simp)]
 refine ZX g d l3 (k _ ?_)
 have d2:=Zj d (·.setIfInBounds 3 ((none:Option Addr).elim Value.none fun f=>rawInt f))
 have tT:=Ys (Obj.mapFields (·.setIfInBounds 3 ((none:Option Addr).elim Value.none fun f=>rawInt f))) g (ZQ d2)
 have ot:∀ b,b≠T0->(s.heap.update T0 (Obj.mapFields (·.setIfInBounds 3 ((none:Option Addr).elim Value.none fun f=>rawInt f)))).get? b=s.heap.get? b:=fun b hb=>X8 _ _ (Ne.symm hb)
 exact ⟨⟨vs,(ot x (Ne.symm ne)).trans ex,h1⟩,⟨_,_,tT,d2,by simpa using l3⟩,ne,.inr rfl,fun b o _ h0 _ e=>(ot b (fun z=>h0 (by rw [z]))).trans e,fun b o _ h0 e=>⟨o.slots,(ot b (fun z=>h0 (by rw [z]))).trans e⟩,fun b o hb e=>by cases hb;exact ⟨_,tT⟩⟩
end
def Wg:List Value:=[.type "ValueError",.type "Exception",.type "BaseException",.type "object"]
def Vb (K:W.Frag) (D:Addr):Bool:=match K.lookup D with
 | some ⟨.type "type",_,.cls cd,sl⟩=>(match cd.mro,sl.toList with
  | .ref E :: bm,[_,_,_,_,some (.builtin n),_]=>E == D && n == "ValueError.__new__" && cd.hasDel == false && cd.hasDict && PySem.W.tailIn K Wg bm
  | _,_=>false)
 | _=>false
theorem vM {K:W.Frag} {D:Addr} (q:Vb K D=true):∃ nm qn N bs bm sn sub ab col dd k0 k1 k2 k3 k5,K.lookup D=some (excClassObj nm qn D N bs bm true sn sub ab col dd k0 k1 k2 k3 k5 "ValueError.__new__")/\∀ h,K.In h->OwnTail h Wg bm:=by
 unfold Vb at q
 split at q
 ·rename_i dd cd sl ho
  split at q
  ·rename_i D' bm k0 k1 k2 k3 n k5 hm hs
   simp only [Xx,Y8] at q
   obtain ⟨⟨⟨⟨e1,e2⟩,e3⟩,e4⟩,e5⟩:=q
   subst e1 e2
   obtain ⟨nm,bs,mro,ns,qn,hd,sn,sub,ab,col,del⟩:=cd
   dsimp only at hm e3 e4
   subst hm e3 e4
   have hsl:sl= #[k0,k1,k2,k3,some (.builtin "ValueError.__new__"),k5]:=by
    obtain ⟨l⟩:=sl
    dsimp only at hs
    rw [hs]
   subst hsl
   exact ⟨nm,qn,ns,bs,bm,sn,sub,ab,col,dd,k0,k1,k2,k3,k5,ho,fun h X=>PySem.W.tail_of_in X e5⟩
  ·cases q
 ·cases q
section
variable {prog:Program} {w:World} {A:Around} {K:W.Frag} {D f:Addr} {E:Value->Shared->Prop}
theorem Ag {h:Heap} {g:Array GenState} {d:Drawn} {t:Nat} {os:OsState} {us:List Value} {Q:Fin->Shared->Prop} (X:K.In h) (hx:Vb K D=true)
  (hi:PySem.W.findIn K (.ref D) "__init__"=some (some (.ref f))) (hf:PySem.W.typeIn K (.ref f)=some (.type "function")) (hl:us.length<=sizeLine)
  (k:wpAny (model prog w) A (call (.ref f) (.ref (h.objs.size+1) :: us)) (fun r s'=>r= .none/\Q (.done (.ret (.ref (h.objs.size+1)))) s') E
   ⟨(h.push {cls:=.type "tuple",data:=.seq us.toArray}).push (gD D none #[.ref h.objs.size,.none,.none,.none,.bool false,.none]),g,d,t,os⟩):
  wpAny (model prog w) A (Builtin.«type.__call__» ⟨.ref D :: us,[]⟩) Q E ⟨h,g,d,t,os⟩:=by
 obtain ⟨nm,qn,N,bs,bm,sn,sub,ab,col,dd,k0,k1,k2,k3,k5,lk0,tl⟩:=vM hx
 have T:=tl h X
 have hD:=X _ _ lk0
 have L3:=YJ (M:=model prog w) X hi
 have L4:=PySem.W.bind_fn (M:=model prog w) X (.ref (h.objs.size+1)) hf
 repeat (first | with_reducible refine YS hD ?_ | with_reducible refine wpAny_madeBy_exc hD ?_ | wp_step)
 refine codeAny_call_builtin_code (Code.quiet_builtin _ F.excBase_ValueError.quiet) (wpAny_check_new_subT F.excBase_ValueError T hD (codeAny_exc_new_subT F.excBase_ValueError T hD ?_ hl))
 show wpAny _ _ _ _ _ _
 have keep:∀ b o,h.get? b=some o->((h.push {cls:=.type "tuple",data:=.seq us.toArray}).push (gD D none #[.ref h.objs.size,.none,.none,.none,.bool false,.none])).get? b=some o:=fun b o q=>Xn _ (Xn _ q)
 have gx:((h.push {cls:=.type "tuple",data:=.seq us.toArray}).push (gD D none #[.ref h.objs.size,.none,.none,.none,.bool false,.none])).get? (h.objs.size+1)=some (gD D none #[.ref h.objs.size,.none,.none,.none,.bool false,.none]):=by
  have:=Xu (h.push {cls:=.type "tuple",data:=.seq us.toArray}) (o:=gD D none #[.ref h.objs.size,.none,.none,.none,.bool false,.none]) rfl
  rwa [Y4] at this
 have hD1:=keep _ _ hD
 have M3:=L3.keeps keep
 have M4:=L4.keeps keep
 have cD:(Value.ref D :: bm).contains (.ref D)=true:=by simp
 unfold gD at gx M3 M4 hD1 k
 unfold isInstance
 repeat (first | with_reducible refine YS gx ?_ | (with_reducible refine Zw hD1 ?_;rw [cD]) | wp_step)
 show wpAny _ _ (typeLookup (.ref D) _) _ _ _
 refine M3.at ?_
 refine Yl (Xi (M4.at ?_))
 dsimp only
 refine Xi (X5 k (fun r s' hr=>?_) fun _ _ z=>z)
 obtain ⟨rfl,z⟩:=hr
 wp_walk
 exact z
theorem Tr {s:Shared} {us:List Value} {Q:Value->Shared->Prop} (X:K.In s.heap) (hx:Vb K D=true)
  (hi:PySem.W.findIn K (.ref D) "__init__"=some (some (.ref f))) (hf:PySem.W.typeIn K (.ref f)=some (.type "function")) (hl:us.length<=sizeLine)
  (k:wpAny (model prog w) (A.under (.builtin "type.__call__" ⟨.ref D :: us,[]⟩)) (call (.ref f) (.ref (s.heap.objs.size+1) :: us)) (fun r s'=>r= .none/\Q (.ref (s.heap.objs.size+1)) s') E
   {s with heap:=(s.heap.push {cls:=.type "tuple",data:=.seq us.toArray}).push (gD D none #[.ref s.heap.objs.size,.none,.none,.none,.bool false,.none])}):
  wpAny (model prog w) A (call (.ref D) us) Q E s:=by
 obtain ⟨h,g,d,t,os⟩:=s
 obtain ⟨nm,qn,N,bs,bm,sn,sub,ab,col,dd,k0,k1,k2,k3,k5,lk0,tl⟩:=vM hx
 have hD:=X _ _ lk0
 have f1:=tc_lookup
 have f2:=tc_bind (.ref D)
 have hT:(⟨h,g,d,t,os⟩:Shared).TypeIs (.ref D) "type":=⟨_,hD,rfl⟩
 refine Zh (codeAny_of_tree ?_)
 show wpAny _ _ (callAny (.ref D) _) _ _ _
 repeat (any_goals (first | assumption | with_reducible refine YS hD ?_ | wp_step))
 refine ⟨rfl,codeAny_call_builtin_at (Code.quiet_builtin _ (by trivial)) entry_typeCall (wpAny_check_type_call_sub hD (Ag X hx hi hf hl ?_))⟩
 exact k
end
def tD (x C dx:Addr):HO:=.ext fun h=>∃ vs,h.get? x=some (gD C (some dx) vs)/\vs[2]?=some .none
def lB (x C:Addr):HO:=.ext fun h=>∃ t,h.get? x=some (gD C none #[.ref t,.none,.none,.none,.bool false,.none])
theorem Er {P:Program} {w:World} {H:Hp} {h:Heap} {x C dx:Addr} {vs:Array Value} (e:h.get? x=some (gD C (some dx) vs)) (h2:vs[2]?=some .none):ObjOk P w H h x (tD x C dx):=
 ⟨⟨vs,e,h2⟩,⟨_,e⟩,fun h1 h2 ⟨vs,e,z⟩ k=>⟨vs,k _ e,z⟩⟩
theorem Es {P:Program} {w:World} {H:Hp} {h:Heap} {x C dx:Addr} (ok:HOk P w H h) (e:H x=some (tD x C dx)):∃ vs,h.get? x=some (gD C (some dx) vs)/\vs[2]?=some .none:=(ok _ _ e).1
structure Head (X:Cx) (pins:List (Addr×Obj)) (H:Hp) (x C dx T:Addr) (h:Heap):Prop where
 obj:∃ vs,h.get? x=some (gD C (some dx) vs)/\vs[1]?=some (.ref T)/\vs[2]?=some .none
 tb:GR h T
 fp:mR X pins H T
 tr:H x=some (tD x C dx)
theorem Head.ne {X:Cx} {pins:List (Addr×Obj)} {H:Hp} {x C dx T:Addr} {h:Heap} (a:Head X pins H x C dx T h):T≠x:=fun z=>by
 have:=a.fp.1
 rw [z,a.tr] at this;cases this
def Fly (X:Cx) (pins:List (Addr×Obj)) (H:Hp) (x C dx:Addr) (h:Heap):Prop:=
 H x=some (tD x C dx)/\((∃ vs,h.get? x=some (gD C (some dx) vs)/\vs[1]?=some .none/\vs[2]?=some .none)\/∃ T,Head X pins H x C dx T h)
section
variable {X:Cx} {pins:List (Addr×Obj)} {U:St} {H:Hp} {s:Shared} {x C dx:Addr} {h':Heap} {T:Addr} {hd:Option Addr}
theorem Inv.noted {fs:List Addr} (I:Inv X pins U H s) (hx:H x=some (tD x C dx)) (hh:∀ b,hd=some b->mR X pins H b) (hf:∀ b∈fs,b∈X.env.locals :: X.fs) (N:Ep fs x C (some dx) hd s.heap h' T):Inv X pins U H {s with heap:=h'}:=by
 obtain ⟨m,⟨oL,esL,epL,hoL,rL⟩,_⟩:=id I.loc
 have fsF:∀ b∈fs,H b=none:=fun b hb=>by
  rcases Xr.mp (hf b hb) with e | hb
  ·rw [e];exact I.free
  ·obtain ⟨_,o,ho,_⟩:=I.ok.funs.mem hb
   exact I.base.free b o ho (I.ok.frf b hb) fun z=>I.ok.exfs b z hb
 have nx:∀ b,H b=none->b≠x:=fun b n z=>by rw [z,hx] at n;cases n
 have hdF:∀ b,hd=some b->H b=none:=fun b e=>(hh b e).1
 have mem:∀ b,b ∉ hd.toList->some b≠hd:=fun b nb z=>nb (by rw [← z];simp)
 refine I.step (g':=s.gens) (d':=s.drawn) (t':=s.toks) (ch:=hd.toList) (fun b hb=>?_) (fun b o hL hb hc e n=>?_) (fun b o hL hb hc e n=>?_) (fun _ _ _ _ n=>n) (fun b o hc e=>?_) (fun _ _ e=>e) (fun _ _ _ e=>e) (fun b ps e=>⟨#[],by rw [e];simp⟩) (fun m hm=>?_) (fun b u e=>?_) I.bare
 ·have e:hd=some b:=by cases hd <;> simp_all
  obtain ⟨_,a2,_,a4,a5,a6⟩:=hh b e
  exact ⟨a4,a2,a5,a6⟩
 ·refine N.keep b o (nx b n) (mem b hc) (fun z=>?_) e
  rcases Xr.mp (hf b z) with q | q
  ·exact hL q
  ·exact hb q
 ·exact N.slot b o (nx b n) (mem b hc) e
 ·by_cases q:b=x
  ·obtain ⟨vs,z,_⟩:=N.obj
   exact ⟨_,by rw [q];exact z⟩
  ·obtain ⟨sl,z⟩:=N.slot b o q (mem b hc) e
   exact ⟨_,z⟩
 ·obtain ⟨o,es,ep,ho,r⟩:=hm
  obtain ⟨sl,z⟩:=N.slot _ o (nx _ I.free) (fun q=>(hh _ q.symm).2.1 rfl) ho
  exact ⟨_,es,ep,z,r⟩
 ·by_cases q:b=x
  ·subst q
   rw [hx] at e;cases e
   obtain ⟨vs,z,_,z2⟩:=N.obj
   exact Er z z2
  ·refine (I.hok b u e).stay (fun c v hc z=>?_) (fun _ q=>q) fun _ _ q=>q
   have tc:∃ u,H c=some u:=by
    rcases hc with rfl | hc
    ·exact ⟨_,e⟩
    ·exact ⟨_,hc⟩
   obtain ⟨uc,tc⟩:=tc
   refine N.keep c v (fun zz=>?_) (fun zz=>?_) (fun zz=>?_) z
   ·rcases hc with rfl | hc
    ·exact q zz
    ·rw [zz,hx] at hc;cases hc
   ·rw [hdF c zz.symm] at tc;cases tc
   ·rw [fsF c zz] at tc;cases tc
theorem Ah {A:Around} {E:Value->Shared->Prop} {Q:Unit->Shared->Prop} (I:Inv X pins U H s) (hst:X.stack=X.env :: X.outer) (hfr:X.env.frame=some X.env.locals) (hA:A.frames=some X.stack) (F:Fly X pins H x C dx s.heap)
  (k:∀ h' T,Inv X pins U H {s with heap:=h'}->Head X pins H x C dx T h'->Q () {s with heap:=h'}):wpAny (model X.prog X.w) A (noteFrame (.ref x) X.env) Q E s:=by
 have ff:s.heap.FunFrames X.base (X.env :: X.outer):=hst ▸ I.stack
 have sub:∀ b∈N5 (X.env :: X.outer),b∈X.env.locals :: X.fs:=fun b hb=>I.stkSub b (by rw [hst];exact hb)
 have nf:∀ b u,H b=some u->b ∉ N5 (X.env :: X.outer):=fun b u e z=>by
  rw [I.stkFree b (by rw [hst];exact z)] at e;cases e
 obtain ⟨hx,⟨vs,e,h1⟩ | ⟨T0,hT⟩⟩:=F
 ·refine Wd (hst ▸ hA) ff hfr e h1 (nf x _ hx) fun h' T N=>?_
  have J:=I.noted hx (fun b z=>by cases z) sub N
  refine k h' T J ⟨N.obj,N.tb,?_,hx⟩
  have zT:s.heap.objs.size<=T:=by rcases N.new with z | z;exact z;cases z
  exact I.fpOk zT (I.hok.fresh zT)
 ·obtain ⟨vs,e,h1⟩:=hT.obj
  refine We (hst ▸ hA) ff hfr e h1 hT.tb hT.ne (nf x _ hx) (fun z=>?_) fun h' T N=>?_
  ·rcases Xr.mp (sub T0 z) with q | q
   ·exact hT.fp.2.1 q
   ·exact hT.fp.2.2.1 q
  ·have J:=I.noted hx (fun b z=>by cases z;exact hT.fp) sub N
   refine k h' T J ⟨N.obj,N.tb,?_,hx⟩
   rcases N.new with z | z
   ·exact I.fpOk z (I.hok.fresh z)
   ·cases z;exact hT.fp
theorem rP {A:Around} {E:Value->Shared->Prop} {Q:Unit->Shared->Prop} (I:Inv X pins U H s) (F:Head X pins H x C dx T s.heap)
  (k:∀ h',Inv X pins U H {s with heap:=h'}->Head X pins H x C dx T h'->Q () {s with heap:=h'}):wpAny (model X.prog X.w) A (setFlight (.ref x) none) Q E s:=by
 obtain ⟨vs,e,h1⟩:=F.obj
 refine Wf e h1 F.tb F.ne fun h' N=>?_
 exact k h' (I.noted F.tr (fun b z=>by cases z;exact F.fp) (fun b z=>absurd z (by simp)) N) ⟨N.obj,N.tb,F.fp,F.tr⟩
def GX (P:Program) (w:World):Gj:=fun outer H s E e s'=>∃ x C dx T H',e= .ref x/\s'.os=s.os/\AllBare s'.gens/\Un (frs outer) [] H H' s.heap s'.heap/\HOk P w H' s'.heap/\H' x=some (tD x C dx)/\H' T=none/\s.heap.objs.size<=T/\
 (∃ vs,s'.heap.get? x=some (gD C (some dx) vs)/\vs[1]?=some (.ref T)/\vs[2]?=some .none)/\GR s'.heap T/\E (.ref C) (some x) H'
def XE (X:Cx) (pins:List (Addr×Obj)) (R:St->XK) (e:Value) (s':Shared):Prop:=∃ x C dx U H',e= .ref x/\Inv X pins U H' s'/\Fly X pins H' x C dx s'.heap/\R U (.ref C) (some x) H'
theorem Et {R:St->XK} {e:Value} {s':Shared} (I:Inv X pins U H s) (c:GX X.prog X.w X.stack H s (R U) e s'):XE X pins R e s':=by
 obtain ⟨x,C,dx,T,H',rfl,os,bare,un,hok,tx,tT,zT,ob,tb,r⟩:=c
 obtain ⟨hh,g,d,t,os'⟩:=s'
 obtain rfl:os'=s.os:=os
 have J:=I.call (h':=hh) (g':=g) (d':=d) (t':=t) (ch:=[]) un hok bare (fun b z=>absurd z (by simp))
 exact ⟨x,C,dx,U,H',rfl,J,⟨tx,.inr ⟨T,ob,tb,I.fpOk zT tT,tx⟩⟩,r⟩
def lC (X:Cx) (R:St->XK):Prop:=∀ (pins:List (Addr×Obj)) (e:Value) (s':Shared),XE X pins R e s'->X.xe e s'
end
theorem aX {P:Program} {w:World} {K:W.Frag} {mg:Str->Option Value} {base:Heap} {N:List Str} {qual:Str} {scope:Scope} {f:Addr} {cd:Value} {A:Around} {outer:List Env} {s:Shared} {H:Hp} {E:XK}:
  lC (oV (GX P w) P w K mg base N qual scope f cd A outer s H E) (fun _=>E):=by
 rintro pins e s' ⟨x,C,dx,U,H',he,I,F,r⟩
 subst he
 show wpAny _ _ (leaving _ _) _ _ _
 unfold leaving
 refine Xi (Ah (X:=oV (GX P w) P w K mg base N qual scope f cd A outer s H E) I rfl rfl I.ok.frames F fun h1 T J1 F1=>?_)
 refine rP (X:=oV (GX P w) P w K mg base N qual scope f cd A outer s H E) J1 F1 fun h2 J2 F2=>?_
 refine ⟨x,C,dx,T,H',rfl,J2.os,J2.bare,J2.base,J2.hok,F2.tr,F2.fp.1,?_,F2.obj,F2.tb,r⟩
 rcases F2.fp.2.2.2.1 with z | z
 ·exact absurd (show T∈([]:List Addr) from z) (by simp)
 ·exact z
def mV (d:Addr) (fs:List (Str×V)):HO:=.ext fun h=>∃ mA,h.Ns1 d mA/\∀ f,RelO (fs.lookup f) (mA f)
theorem yP {P:Program} {w:World} {H:Hp} {h:Heap} {d:Addr} {fs:List (Str×V)} {mA:Str->Option Value} (n:h.Ns1 d mA) (r:∀ f,RelO (fs.lookup f) (mA f)):ObjOk P w H h d (mV d fs):=by
 refine ⟨⟨mA,n,r⟩,let ⟨o,_,_,e,_⟩:=n;⟨o,e⟩,fun h1 h2 ⟨m,n,r⟩ k=>⟨m,?_,r⟩⟩
 obtain ⟨o,es,ep,e,q⟩:=n
 exact ⟨o,es,ep,k _ e,q⟩
theorem uW {P:Program} {w:World} {H:Hp} {h:Heap} {d:Addr} {fs:List (Str×V)} (ok:HOk P w H h) (e:H d=some (mV d fs)):∃ mA,h.Ns1 d mA/\∀ f,RelO (fs.lookup f) (mA f):=(ok _ _ e).1
def iD (x C d:Addr):HO:=.ext fun h=>∃ t,h.get? x=some (gD C (some d) #[.ref t,.none,.none,.none,.bool false,.none])
theorem GZ {P:Program} {w:World} {H:Hp} {h:Heap} {x C d t:Addr} (e:h.get? x=some (gD C (some d) #[.ref t,.none,.none,.none,.bool false,.none])):ObjOk P w H h x (iD x C d):=
 ⟨⟨t,e⟩,⟨_,e⟩,fun h1 h2 ⟨t,e⟩ k=>⟨t,k _ e⟩⟩
theorem tE {P:Program} {w:World} {H:Hp} {h:Heap} {x C d:Addr} (ok:HOk P w H h) (e:H x=some (iD x C d)):∃ t,h.get? x=some (gD C (some d) #[.ref t,.none,.none,.none,.bool false,.none]):=(ok _ _ e).1
def ir:List Value->Bool
 | [.type a,.type b,.type c,.type d]=>a == "ValueError" && b == "Exception" && c == "BaseException" && d == "object"
 | .ref _ :: r=>ir r
 | _=>false
theorem uo {l:List Value} (e:ir l=true):(∃ a r,l= .ref a :: r/\ir r=true)\/l=Wg:=by
 unfold ir at e
 split at e
 ·simp only [Xx,Y8] at e
  obtain ⟨⟨⟨rfl,rfl⟩,rfl⟩,rfl⟩:=e
  exact .inr rfl
 ·exact .inl ⟨_,_,rfl,e⟩
 ·cases e
theorem uq (self:Value):∀ (l:List Value),ir l=true->refuseLoop self "__setattr__" l=pure ()
 | [],e=>by cases e
 | v :: r,e=>by
  rcases uo e with ⟨a,r',q,e'⟩ | q
  ·cases q
   rw [refuseLoop_ref]
   exact uq self r e'
  ·rw [q]
   exact F.store_ValueError.passes self
theorem vN:∀ (l:List Value),ir l=true->l.contains (.type "object")=true/\l.contains (.type "BaseException")=true
 | [],e=>by cases e
 | v :: r,e=>by
  rcases uo e with ⟨a,r',q,e'⟩ | q
  ·cases q
   obtain ⟨h1,h2⟩:=vN r e'
   exact ⟨by rw [Zk,h1,Bool.or_true],by rw [Zk,h2,Bool.or_true]⟩
  ·rw [q]
   decide
def Tt (K:W.Frag) (C:Addr):Bool:=Vb K C && (PySem.W.clsIn K C).any (fun cd=>ir cd.mro && cd.hasDict) && PySem.W.findIn K (.ref C) "__setattr__" == some (some (.builtin "object.__setattr__")) &&
 PySem.W.findIn K (.ref C) "__getattribute__" == some (some (.builtin "BaseException.__getattribute__")) && PySem.W.findIn K (.ref C) "__getattr__" == some none
structure XCls (K:W.Frag) (C:Addr):Prop where
 xi:Vb K C=true
 ov:∃ cd,PySem.W.clsIn K C=some cd/\ir cd.mro=true/\cd.hasDict=true
 sa:PySem.W.findIn K (.ref C) "__setattr__"=some (some (.builtin "object.__setattr__"))
 ga:PySem.W.findIn K (.ref C) "__getattribute__"=some (some (.builtin "BaseException.__getattribute__"))
 gh:PySem.W.findIn K (.ref C) "__getattr__"=some none
theorem N7 {K:W.Frag} {C:Addr} (h:Tt K C=true):XCls K C:=by
 unfold Tt at h
 simp only [Xx,Y8] at h
 obtain ⟨⟨⟨⟨h1,h2⟩,h3⟩,h4⟩,h5⟩:=h
 obtain ⟨cd,a,b⟩:=PySem.W.any_some h2
 simp only [Xx] at b
 exact ⟨h1,⟨cd,a,b.1,b.2⟩,h3,h4,h5⟩
theorem N8 {l:List Value} (e:ir l=true):l.isEmpty=false:=by
 cases l with
 | nil=>cases e
 | cons _ _=>rfl
section
variable {prog:Program} {w:World} {A:Around} {s:Shared} {K:W.Frag} {x C:Addr} {R:Result->Shared->Prop}
theorem XCls.mro {c:Value} {b:Bool} (k:XCls K C) (h:∀ cd,PySem.W.clsIn K C=some cd->ir cd.mro=true->cd.mro.contains c=b):PySem.W.mroIn K C c=some b:=by
 obtain ⟨cd,a,o,_⟩:=k.ov
 unfold PySem.W.mroIn
 rw [a,Option.bind_some,if_neg (by rw [N8 o];decide),h cd a o]
theorem XCls.isObj (k:XCls K C):PySem.W.mroIn K C (.type "object")=some true:=k.mro fun cd _ o=>(vN _ o).1
theorem XCls.isExc (k:XCls K C):PySem.W.mroIn K C (.type "BaseException")=some true:=k.mro fun cd _ o=>(vN _ o).2
theorem Qu {ox:Obj} {od:Option Obj} {name:Str} {tk:Tok} {v:Value} (X:K.In s.heap) (I:PySem.W.InstAt s.heap x ox C od) (c:XCls K C) (ht:NoAttr K C name)
  (h:wpAny (model prog w) A.in1 (Builtin.ObjectAttr.storeInOwnDict (.ref x) (.ref C) (.str name tk) name v false)
   (fun fin s'=>match fin with | .done f=>R (.ok f) s' | .again c'=>c'.quiet=true/\codeAny (model prog w) A c' R s') (fun e s'=>R (.error e) s') s):
  codeAny (model prog w) A (.call (.builtin "object.__setattr__") ⟨[.ref x,.str name tk,v],[]⟩) R s:=by
 obtain ⟨cd,hc,ho,_⟩:=c.ov
 have sub:PySem.W.Looks (model prog w) s.heap (isInstance (.ref x) (.type "object")) true:=I.type.andThen (PySem.W.looks_mroIn X c.isObj)
 refine YX F.store_object.slot.plain F.store_object.entry (@PySem.W.check_slot (model prog w) _ _ s "object.__setattr__" "object" "__setattr__" (.ref x) [.str name tk,v] [] _ F.store_object.kind F.store_object.split sub (F.store_object.args (.ref x) (.str name tk) v) ?_)
 have hm:PySem.W.Looks (model prog w) s.heap (mroOf (.ref C)) cd.mro:=(PySem.W.looks_clsIn X hc).andThen .now
 have L3:PySem.W.Looks (model prog w) s.heap (Builtin.ObjectAttr.storeTaker? none) none:=.now
 rw [PySem.W.osa_eq,refuse_eq]
 refine Xi (Xi (I.type.here (Xi (hm.here ?_))))
 rw [uq _ _ ho]
 refine Xl (Xi (I.type.here (Xi ((YJ X ht).here (Xi (L3.here ?_))))))
 exact h
end
theorem J5 {H:Hp} {d x:Addr} {a b c:HO} (n:d≠x):upd (upd (upd H d a) x b) d c=upd (upd H x b) d c:=by
 funext y
 unfold upd
 by_cases h:y=d
 ·simp [h]
 ·simp [h]
section
variable {X:Cx} {pins:List (Addr×Obj)} {U:St} {H:Hp} {s:Shared} {x C d:Addr} {fs:List (Str×V)} {f:Str} {v y:V} {u:Value} {A:Around} {E:Value->Shared->Prop}
theorem Wh {Q:Unit->Shared->Prop} (I:Inv X pins U H s) (e:H x=some (lB x C)) (c:XCls X.K C) (n:NoAttr X.K C f) (ry:RelV y u)
  (h:∀ s' d,H d=none->d≠x->Inv X pins U (upd (upd H x (iD x C d)) d (mV d [(f,y)])) s'->Q () s'):wpAny (model X.prog X.w) A (setAttr (.ref x) f u) Q E s:=by
 obtain ⟨⟨t,hx⟩,-,-⟩:ObjOk X.prog X.w H s.heap x (lB x C):=I.hok x _ e
 obtain ⟨cd,hc,ho,hd⟩:=c.ov
 have J:PySem.W.InstAt s.heap x (gD C none #[.ref t,.none,.none,.none,.bool false,.none]) C none:=⟨hx,rfl,rfl,True.intro⟩
 refine PySem.W.set_plain I.kIn J c.sa (Qu (s:={s with toks:=s.toks+1}) I.kIn J c n ?_)
 refine Xi (Xl (Xi (Xi (Y0 hx (Xi ((PySem.W.looks_clsIn (M:=model X.prog X.w) I.kIn hc).here (s:={s with toks:=s.toks+1}) ?_))))))
 rw [hd]
 have hp:s.heap.objs.size≠x:=ZC (Xp hx)
 have hx1:(s.heap.push {cls:=.type "dict",data:=.dict #[]}).get? x=some (gD C none #[.ref t,.none,.none,.none,.bool false,.none]):=Xn _ hx
 have d1:(s.heap.push {cls:=.type "dict",data:=.dict #[]}).get? s.heap.objs.size=some {cls:=.type "dict",data:=.dict #[]}:=Xu _ rfl
 have n1:∀ {hh:Heap},hh.get? s.heap.objs.size=some {cls:=.type "dict",data:=.dict #[]}->hh.Ns1 s.heap.objs.size (fun _=>none):=fun q=>Heap.Ns1.of_empty ⟨_,#[],_,q,rfl,fun e he=>absurd he (by simp),fun _=>rfl⟩
 have I1:Inv X pins U (upd H s.heap.objs.size (mV s.heap.objs.size [])) {s with heap:=s.heap.push {cls:=.type "dict",data:=.dict #[]},toks:=s.toks+1}:=
  I.laid (t':=s.toks+1) (fun b o q=>Xn _ q) (Xo _) (yP (n1 d1) fun g=>True.intro)
 refine Xi (wpAny_alloc' ?_)
 refine Xi (wpAny_update' hx1 ?_)
 have hx2:=Ys (fun o:Obj=>({o with dict:=some s.heap.objs.size}:Obj)) hx1 rfl
 have ot:∀ b,b≠x->((s.heap.push {cls:=.type "dict",data:=.dict #[]}).update x fun o=>{o with dict:=some s.heap.objs.size}).get? b=(s.heap.push {cls:=.type "dict",data:=.dict #[]}).get? b:=fun b hb=>X8 _ _ (Ne.symm hb)
 have e1:upd H s.heap.objs.size (mV s.heap.objs.size []) x=some (lB x C):=(aD (Ne.symm hp)).trans e
 have I2:Inv X pins U (upd (upd H s.heap.objs.size (mV s.heap.objs.size [])) x (iD x C s.heap.objs.size)) {s with heap:=(s.heap.push {cls:=.type "dict",data:=.dict #[]}).update x fun o=>{o with dict:=some s.heap.objs.size},toks:=s.toks+1}:=
  I1.write (t':=s.toks+1) (x:=x) (e:=x) (by rw [e1];exact True.intro) (.inl rfl) (fun b o hb q=>(ot b hb).trans q) ⟨_,hx2⟩ (GZ hx2)
 refine Xl (Xi (Xl (Xi ?_)))
 refine wpAny_nsSet1 (n1 ((ot _ hp).trans d1)) fun h' hn' hs=>?_
 obtain ⟨oD,esD,epD,hoD,hdD,hcD⟩:=hn'.count (PySem.Within.cons f u PySem.Within.nil)
 refine Xi (wpAny_lookBehind hoD (by rw [hdD];exact pastItsLine_dict (XQ hcD (by rw [Yy,List.length_nil,sizeLine_eq];omega))) ?_)
 refine Xl (h _ s.heap.objs.size (I.hok.fresh (Xo _)) hp ?_)
 rw [← J5 (a:=mV s.heap.objs.size []) hp]
 refine I2.write (x:=s.heap.objs.size) (e:=s.heap.objs.size) (by rw [aD hp,aj];exact True.intro) (.inl rfl) (fun b o hb q=>(hs.2 b hb).trans q) ⟨_,hoD⟩ (yP hn' fun g=>?_)
 by_cases q:g=f
 ·have qb:(g == f)=true:=Y8.mpr q
  simp only [List.lookup,qb,if_pos q]
  exact ry
 ·have qb:(g == f)=false:=Ze.mpr q
  simp only [List.lookup,qb,if_neg q]
  exact True.intro
theorem Oa {h:Heap} {P:Program} {w:World} (ok:HOk P w H h) (e:H x=some (iD x C d)) (e2:H d=some (mV d fs)):d≠x:=fun z=>by
 subst z
 obtain ⟨t,a⟩:=tE ok e
 obtain ⟨mA,⟨o,es,ep,b,q,_⟩,_⟩:=uW ok e2
 rw [a] at b;cases b;cases q
theorem Wi {Q:Unit->Shared->Prop} (I:Inv X pins U H s) (e:H x=some (iD x C d)) (e2:H d=some (mV d fs)) (hl:fs.length < 1000) (c:XCls X.K C) (n:NoAttr X.K C f) (ry:RelV y u)
  (h:∀ s',Inv X pins U (upd H d (mV d (jX f y fs))) s'->Q () s'):wpAny (model X.prog X.w) A (setAttr (.ref x) f u) Q E s:=by
 have ne:=Oa I.hok e e2
 obtain ⟨vs,hx⟩:=tE I.hok e
 obtain ⟨mA,nA,rA⟩:=uW I.hok e2
 obtain ⟨cd,hc,ho,hd⟩:=c.ov
 have J:PySem.W.InstAt s.heap x (gD C (some d) #[.ref vs,.none,.none,.none,.bool false,.none]) C (some (Classical.choose nA)):=⟨hx,rfl,rfl,let ⟨_,_,q,_⟩:=Classical.choose_spec nA;q⟩
 refine PySem.W.set_plain I.kIn J c.sa (Qu (s:={s with toks:=s.toks+1}) I.kIn J c n ?_)
 refine Xi (Xl (Xi (Xi (Y0 hx (Xi ((PySem.W.looks_clsIn (M:=model X.prog X.w) I.kIn hc).here (s:={s with toks:=s.toks+1}) ?_))))))
 rw [hd]
 refine Xl (a:=some d) (Xi (Xl (Xi ?_)))
 refine wpAny_nsSet1 (s:={s with toks:=s.toks+1}) nA fun h' hn' hs=>?_
 have wi:PySem.Within mA (fs.map (·.1)):=fun z hz=>by
  have r:=rA z
  cases q:fs.lookup z with
  | none=>rw [q] at r;exact absurd (RelO.none_of r) hz
  | some a=>exact Yh.mpr ⟨(z,a),Yq q,rfl⟩
 obtain ⟨oD,esD,epD,hoD,hdD,hcD⟩:=hn'.count (PySem.Within.cons f u wi)
 refine Xi (wpAny_lookBehind hoD (by rw [hdD];exact pastItsLine_dict (XQ hcD (by rw [Yy,X4,sizeLine_eq];omega))) ?_)
 refine Xl (h _ ?_)
 refine I.write (x:=d) (e:=d) (by rw [e2];exact True.intro) (.inl rfl) (fun b o hb q=>(hs.2 b hb).trans q) ⟨_,hoD⟩ (yP hn' fun g=>?_)
 rw [oU]
 by_cases q:g=f
 ·rw [if_pos q,if_pos q];exact ry
 ·rw [if_neg q,if_neg q];exact rA g
theorem getx {b:Bool} {Q:Value->Shared->Prop} (I:Inv X pins U H s) (e:H x=some (tD x C d)) (e2:H d=some (mV d fs)) (c:XCls X.K C) (n:NoAttr X.K C f) (l:fs.lookup f=some v)
  (h:∀ u s',Inv X pins U H s'->RelV v u->Q u s'):wpAny (model X.prog X.w) A (getAttr (.ref x) f b) Q E s:=by
 obtain ⟨vs,hx,_⟩:=Es I.hok e
 obtain ⟨mA,nA,rA⟩:=uW I.hok e2
 obtain ⟨cd,hc,ho,hd⟩:=c.ov
 obtain ⟨od,hod,lk⟩:=sV nA
 obtain ⟨u,hu,ru⟩:=RelO.some_of (v:=v) (o:=mA f) (by rw [← l];exact rA f)
 have J:PySem.W.InstAt s.heap x (gD C (some d) vs) C (some od):=⟨hx,rfl,rfl,hod⟩
 have hf:PySem.W.findObj X.K C (some od) f=some (.value u):=PySem.W.findObj_own (by unfold PySem.W.hasDictIn;rw [hc];exact hd) n rfl (by rw [lk,hu])
 have Z:=h u {s with toks:=s.toks+1} (I.tok _) ru
 have KI:=I.kIn
 obtain ⟨hh,g,dr,t,os⟩:=s
 have L0:=J.type (M:=model X.prog X.w)
 have L1:=YJ (M:=model X.prog X.w) KI c.ga
 have L2:=YJ (M:=model X.prog X.w) KI c.gh
 have L3:=PySem.W.looks_find (M:=model X.prog X.w) KI J hf
 have sub:PySem.W.Looks (model X.prog X.w) hh (isInstance (.ref x) (.type "BaseException")) true:=L0.andThen (PySem.W.looks_mroIn KI c.isExc)
 have hb0:(onTheHeap (Value.ref C) && Value.builtin "BaseException.__getattribute__" == Value.builtin "object.__getattribute__")=false:=by
  rw [show (Value.builtin "BaseException.__getattribute__" == Value.builtin "object.__getattribute__")=false from by trivial,Bool.and_false]
 unfold getAttr getAttrBy
 refine Xi (wpAny_mkText (Yl (Xi (L0.at (Xi (L1.at ?_))))))
 dsimp only
 rw [hb0]
 rw [if_neg Xq]
 unfold getAttrByItsOwn hookBefore
 refine Xi ?_
 rw [if_pos (show onTheHeap (Value.ref C)=true from rfl)]
 refine L2.at ?_
 refine Xi (gV (Yl ?_))
 have hb1:(b && onTheHeap (Value.builtin "BaseException.__getattribute__"))=false:=by cases b <;> rfl
 unfold callGetattribute
 rw [hb1,if_neg Xq]
 unfold boundAndCalled
 refine Xi (Y5 (F.attrBase_ValueError.ga.bind (.ref x)) ?_)
 refine Zh (YX F.attrBase_ValueError.ga.plain F.entry_bexc_ga (@PySem.W.check_slot (model X.prog X.w) _ _ ⟨hh,g,dr,t+1,os⟩ "BaseException.__getattribute__" "BaseException" "__getattribute__" (.ref x) [.str f t] [] _ (by trivial) (by trivial) sub (F.args_bexc_ga (.ref x) (.str f t)) ?_))
 refine Xi (Xl (Xi (Xl (Xi (L0.at (Xi (L3.at ?_)))))))
 refine Xl ?_
 show wpAny _ _ (handedOut u) _ _ _
 rw [PySem.W.handedOut_of (xj ru)]
 exact Xl Z
end
def Eu (K:W.Frag) (C:Addr):Bool:=Tt K C && PySem.W.findIn K (.ref C) "__class__" == some (some (.builtin "object.__class__")) && PySem.W.specialIn K (.builtin "object.__class__") "__get__" == some (some (.builtin "getset_descriptor.__get__")) && PySem.W.takesIn K (.builtin "object.__class__") == some true
structure Mg (K:W.Frag) (C:Addr):Prop where
 cls:XCls K C
 ca:PySem.W.findIn K (.ref C) "__class__"=some (some (.builtin "object.__class__"))
 cg:PySem.W.specialIn K (.builtin "object.__class__") "__get__"=some (some (.builtin "getset_descriptor.__get__"))
 ct:PySem.W.takesIn K (.builtin "object.__class__")=some true
theorem J6 {K:W.Frag} {C:Addr} (h:Eu K C=true):Mg K C:=by
 unfold Eu at h
 simp only [Xx,Y8] at h
 exact ⟨N7 h.1.1.1,h.1.1.2,h.1.2,h.2⟩
section
variable {prog:Program} {w:World} {A:Around} {E:Value->Shared->Prop} {s:Shared} {K:W.Frag} {x C:Addr} {ox od:Obj}
theorem G9 {Q:Option Value->Shared->Prop} (c:Mg K C) (KI:K.In s.heap) (J:PySem.W.InstAt s.heap x ox C (some od)) (h:Q (some (.ref C)) {s with toks:=s.toks+1}):wpAny (model prog w) A (getAttr? (.ref x) "__class__") Q E s:=by
 obtain ⟨cd,hc,ho,hd⟩:=c.cls.ov
 have hf:PySem.W.findObj K C (some od) "__class__"=some (.bind (.builtin "getset_descriptor.__get__") (.builtin "object.__class__")):=PySem.W.findObj_data (by rw [hc];rfl) c.ca c.cg c.ct
 obtain ⟨hh,g,dr,t,os⟩:=s
 have L0:=J.type (M:=model prog w)
 have L1:=YJ (M:=model prog w) KI c.cls.ga
 have L2:=YJ (M:=model prog w) KI c.cls.gh
 have L3:=PySem.W.looks_find (M:=model prog w) KI J hf
 have sub:PySem.W.Looks (model prog w) hh (isInstance (.ref x) (.type "BaseException")) true:=L0.andThen (PySem.W.looks_mroIn KI c.cls.isExc)
 have hb0:(onTheHeap (Value.ref C) && Value.builtin "BaseException.__getattribute__" == Value.builtin "object.__getattribute__")=false:=by
  rw [show (Value.builtin "BaseException.__getattribute__" == Value.builtin "object.__getattribute__")=false from by trivial,Bool.and_false]
 unfold getAttr? getAttrBy? getAttrBy
 refine Xi (wpAny_mkText (Xi (gV (Yl (Xi (L0.at (Xi (L1.at ?_))))))))
 dsimp only
 rw [hb0,if_neg Xq]
 unfold getAttrByItsOwn hookBefore
 refine Xi ?_
 rw [if_pos (show onTheHeap (Value.ref C)=true from rfl)]
 refine L2.at ?_
 refine Xi (gV (Yl ?_))
 unfold callGetattribute
 rw [if_neg (show ¬ ((false && onTheHeap (Value.builtin "BaseException.__getattribute__"))=true) from by decide)]
 unfold boundAndCalled
 refine Xi (Y5 (F.attrBase_ValueError.ga.bind (.ref x)) ?_)
 refine Zh (YX F.attrBase_ValueError.ga.plain F.entry_bexc_ga (@PySem.W.check_slot (model prog w) _ _ ⟨hh,g,dr,t+1,os⟩ "BaseException.__getattribute__" "BaseException" "__getattribute__" (.ref x) [.str "__class__" t] [] _ (by trivial) (by trivial) sub (F.args_bexc_ga (.ref x) (.str "__class__" t)) ?_))
 refine Xi (Xl (Xi (Xl (Xi (L0.at (Xi (L3.at ?_)))))))
 show wpAny _ _ (holding [.builtin "object.__class__"] (call (.builtin "getset_descriptor.__get__") [.builtin "object.__class__",.ref x,.ref C]) >>=ret) _ _ _
 refine Xi (Yl (Zh (PySem.W.class_get (s:=⟨hh,g,dr,t+1,os⟩) KI J c.cls.isObj ?_)))
 refine Xl ?_
 show wpAny _ _ (handedOut (.ref C)) _ _ _
 rw [PySem.W.handedOut_of rfl]
 exact Xl (Xl h)
theorem J7 (c:Mg K C):PySem.W.KitX K (.ref x) (.ref C) (fun h=>PySem.W.InstAt h x ox C (some od)) where
 ty:=fun _ _ _ I=>I.type
 it:=fun _ _ X _=>by
  obtain ⟨cd,hc,_⟩:=c.cls.ov
  unfold PySem.W.clsIn at hc
  split at hc
  ·rename_i a1 a2 a3 a4 ho
   intro A1 Q1 E1 s1 k q
   unfold isType loadHead
   exact Xi (Y0 (k _ _ (X _ _ ho)) (Xl q))
  ·cases hc
 ne:=fun h tp dd its n sl X htp=>by
  obtain ⟨cd,hc,_⟩:=c.cls.ov
  refine Bool.eq_false_iff.mpr fun q=>?_
  obtain rfl:C=tp:=Value.ref.inj (Y8.mp q)
  unfold PySem.W.clsIn at hc
  split at hc
  ·rename_i a1 a2 a3 a4 ho
   cases (X _ _ ho).symm.trans htp
  ·cases hc
 ca:=fun X I k=>G9 c X I k
end
def IsX (H:Hp) (x C:Addr) (fs:List (Str×V)):Prop:=∃ d,H x=some (tD x C d)/\H d=some (mV d fs)
def Wj:V->Option Value
 | .ty T=>some (.type T)
 | .ref C=>some (.ref C)
 | _=>none
theorem J8 {v:V} {u c:Value} (e:Wj v=some c) (r:RelV v u):u=c:=by
 cases v <;> first | cases e;exact r | cases e
def Ha:List V->Option (List Value)
 | []=>some []
 | v :: r=>match Wj v,Ha r with
  | some c,some l=>some (c :: l)
  | _,_=>none
theorem Ew:∀ {vs:List V} {us cs:List Value},Ha vs=some cs->Vals vs us->us=cs
 | [],us,cs,e,r=>by cases r;cases e;rfl
 | v :: vs,us,cs,e,r=>by
  cases r with
  | cons r1 r2=>
   unfold Ha at e
   split at e
   ·rename_i c l h1 h2
    cases e
    rw [J8 h1 r1,Ew h2 r2]
   ·cases e
def xR (K:W.Frag):List V->Hp->VK->Prop:=fun xs H Q=>∃ x t b,(TyOf K H x t\/∃ a C fs,x= .ref a/\IsX H a C fs/\Mg K C/\t= .ref C)/\
 ((∃ v c,xs=[x,v]/\Wj v=some c/\PySem.W.kitOne K t c=some b)\/(∃ p vs cs,xs=[x,.ref p]/\H p=some (.tup vs)/\Ha vs=some cs/\PySem.W.kitAny K t cs=some b))/\Q (.bl b) H
section
variable {X:Cx} {pins:List (Addr×Obj)} {U:St} {H:Hp} {s:Shared} {A:Around} {E:Value->Shared->Prop} {Q:Value->Shared->Prop} {c:Value} {b:Bool}
theorem J9 {x:V} {u t:Value} (I:Inv X pins U H s) (rx:RelV x u) (ty:TyOf X.K H x t\/∃ a C fs,x= .ref a/\IsX H a C fs/\Mg X.K C/\t= .ref C):
  ∃ φ:Heap->Prop,PySem.W.KitX X.K u t φ/\φ s.heap/\u≠.builtin "__main__.__loader__#opaque":=by
 rcases ty with ty | ⟨a,C,fs,rfl,⟨d,e1,e2⟩,c,rfl⟩
 ·cases ty with
  | non=>cases (show u=Value.none from rx);exact ⟨_,PySem.W.kitx_none,True.intro,(fun z=>nomatch z)⟩
  | bl y=>cases (show u=Value.bool y from rx);exact ⟨_,PySem.W.kitx_bool,True.intro,(fun z=>nomatch z)⟩
  | int i=>obtain ⟨t,q⟩:=(show ∃ t,u=Value.int i t from rx);cases q;exact ⟨_,PySem.W.kitx_int,True.intro,(fun z=>nomatch z)⟩
  | str y=>obtain ⟨t,q⟩:=(show ∃ t,u=Value.str y t from rx);cases q;exact ⟨_,PySem.W.kitx_str,True.intro,(fun z=>nomatch z)⟩
  | flt y=>obtain ⟨t,q⟩:=(show ∃ t,u=Value.float y t from rx);cases q;exact ⟨_,PySem.W.kitx_float,True.intro,(fun z=>nomatch z)⟩
  | @lst a xs ea=>
   cases (show u=Value.ref a from rx)
   obtain ⟨_,_,n,_,h1⟩:=(show ObjOk X.prog X.w H s.heap a (.lst xs) from I.hok a _ ea)
   exact ⟨_,PySem.W.kitx_list,⟨_,h1,rfl⟩,(fun z=>nomatch z)⟩
  | @frz a ob xs ea=>
   cases (show u=Value.ref a from rx)
   obtain ⟨_,_,_,n,_,h1⟩:=(show ObjOk X.prog X.w H s.heap a (.frz ob (.lst xs)) from I.hok a _ ea)
   exact ⟨_,PySem.W.kitx_list,⟨_,h1,rfl⟩,(fun z=>nomatch z)⟩
  | @tup a xs ea=>
   cases (show u=Value.ref a from rx)
   obtain ⟨_,_,_,p⟩:=(show ObjOk X.prog X.w H s.heap a (.tup xs) from I.hok a _ ea)
   obtain ⟨o,h1,h2,_⟩:=p
   exact ⟨_,PySem.W.kitx_tuple,⟨o,h1,h2⟩,(fun z=>nomatch z)⟩
  | @dK a kvs ea=>
   cases (show u=Value.ref a from rx)
   obtain ⟨_,_,vs,_,p⟩:=(show ObjOk X.prog X.w H s.heap a (.dK kvs) from I.hok a _ ea)
   obtain ⟨o,es,ep,h1,h2,_⟩:=p
   exact ⟨_,PySem.W.kitx_dict,⟨o,h1,h2.1⟩,(fun z=>nomatch z)⟩
  | @dT a kvs ea=>
   cases (show u=Value.ref a from rx)
   obtain ⟨_,_,xs,_,o,es,ep,h1,h2,_⟩:=(show ObjOk X.prog X.w H s.heap a (.dT kvs) from I.hok a _ ea)
   exact ⟨_,PySem.W.kitx_dict,⟨o,h1,h2.1⟩,(fun z=>nomatch z)⟩
  | @ins a C dx fs ea cl ha hn htk hm=>
   cases (show u=Value.ref a from rx)
   obtain ⟨mA,O,_⟩:=p7 I.hok ea
   obtain ⟨od,J,_⟩:=O.look
   exact ⟨_,PySem.W.kitx_own (cl.get _) cl.hd ha hn htk hm,J,(fun z=>nomatch z)⟩
 ·cases (show u=Value.ref a from rx)
  obtain ⟨vs,hx,_⟩:=Es I.hok e1
  obtain ⟨mA,nA,rA⟩:=uW I.hok e2
  obtain ⟨od,hod,lk⟩:=sV nA
  exact ⟨_,J7 (ox:=gD C (some d) vs) (od:=od) c,⟨hx,rfl,rfl,hod⟩,(fun z=>nomatch z)⟩
theorem jq {K:W.Frag} (hK:X.K=K):CallR X (.builtin "isinstance") (xR K):=by
 subst hK
 intro pins s U H xs us Q I r h
 obtain ⟨x,t,b,ty,w,q⟩:=h
 rcases w with ⟨v,c,rfl,ec,e⟩ | ⟨p,vs,cs,rfl,ep,ec,e⟩
 ·obtain ⟨u,u2,rfl,ru,rv⟩:=vals2 r
  obtain rfl:=J8 ec rv
  obtain ⟨φ,Z,hφ,hne⟩:=J9 I ru ty
  exact YD Z I.kIn hφ e hne fun tk=>⟨.bl b,H,I.tok _,rfl,q⟩
 ·obtain ⟨u,u2,rfl,ru,rv⟩:=vals2 r
  cases (show u2=Value.ref p from rv)
  obtain ⟨φ,Z,hφ,hne⟩:=J9 I ru ty
  obtain ⟨_,its,rt,o,h1,h2,n,h3⟩:=(show ObjOk X.prog X.w H s.heap p (.tup vs) from I.hok p _ ep)
  obtain rfl:=Ew ec rt
  obtain ⟨oc,odd,oda,osl⟩:=o
  dsimp only at h2 h3
  subst h2 h3
  exact PySem.W.kia_tup Z I.kIn hφ h1 e hne fun tk=>⟨.bl b,H,I.tok _,rfl,q⟩
end
def HasX (P:Program) (w:World) (K:W.Frag) (mg:Str->Option Value) (base:Heap) (k:Nat) (x:Str) (ps:List Str) (sp:Sp):Prop:=
 ∃ f fd,mg x=some (.ref f)/\PySem.W.keepIn K (.ref f)=true/\Binds K fd ps []/\FnOk P w K mg base (GX P w) k f fd ps sp
theorem HasX.mono {P:Program} {w:World} {K:W.Frag} {mg:Str->Option Value} {base:Heap} {j k:Nat} {x:Str} {ps:List Str} {sp:Sp} (h:HasX P w K mg base j x ps sp) (hk:j<=k):HasX P w K mg base k x ps sp:=
 let ⟨f,fd,a,b,c,d⟩:=h;⟨f,fd,a,b,c,d.mono hk⟩
def CK (sp:Sp) (R:St->XK) (t:TA):TE:=fun U H Q=>t U H fun vs H1=>sp vs H1 Q (R U)
theorem eY {X:Cx} (h:∀ (e:Value) (s:Shared),X.xe e s=False):lC X (fun _ _ _ _=>False):=fun _ _ _ ⟨_,_,_,_,_,_,_,_,z⟩=>z.elim
section
variable {X:Cx} {k:Nat} {f C:Addr} {fd:FuncData} {ps:List Str} {sp:Sp} {R:St->XK} {x:Str} {p pos:Pos} {e:Expr} {es:List Expr} {t:TA} {pins:List (Addr×Obj)} {U:St} {H:Hp} {s:Shared} {Q:VK} {us:List Value} {vs:List V}
theorem uX (F:FnOk X.prog X.w X.K X.mg X.base (GX X.prog X.w) k f fd ps sp) (hr:Room k X.A) (hb:Binds X.K fd ps []) (hx:lC X R) (I:Inv X pins U H s) (r:Vals vs us) (h:sp vs H Q (R U)):
  wpAny (model X.prog X.w) X.A (call (.ref f) us) (EP X pins U Q) X.xe s:=by
 have hl:(us ++ []).length=ps.length:=by rw [X6,← r.length];exact F.len _ _ _ _ h
 have bd:=hb s us I.kIn hl
 rw [X6] at bd
 refine Zh (codeAny_mono (F.run X.A X.stack s H ⟨us,[]⟩ us vs Q (R U) hr I.env0 bd r h) fun rr s' hq=>?_)
 cases rr with
 | error e=>exact hx pins e s' (Et I hq)
 | ok fl=>
  cases fl with
  | ret u=>exact I.after hq
  | next=>exact False.elim hq
  | brk=>exact False.elim hq
  | cont=>exact False.elim hq
theorem Ka (F:HasX X.prog X.w X.K X.mg X.base k x ps sp) (hr:Room k X.A) (hg:Gl X x) (hx:lC X R) (ha:PA X (e :: es) t) (hdb:(x == ("__debug__":Str))=false)
  (he:starEach (e :: es) X.env=(false,eval e X.env) :: starEach es X.env) (hpl:(backTo pos (starEach es X.env)).any (·.1)=false):PE X (.Call (.Name x p) (e :: es) [] pos) (CK sp R t):=by
 obtain ⟨f,fd,a,b,c,d⟩:=F
 intro pins s U H Q I h
 refine Yi (lQ I hg a ?_ hdb)
 refine Zi (h₀:=X.base) I.ok.mod.kin b (d9 (ha pos pins s U H _ I h) fun us s1 ⟨vs,H1,I1,r,q⟩=>⟨I1.kIn,?_⟩) he hpl
 exact uX d hr c hx I1 r q
def Ai (K:W.Frag) (ta tv:TE) (f:Str):TS:=fun D U H=>tv U H fun y H1=>ta U H1 fun x H2=>∃ a C,x= .ref a/\XCls K C/\NoAttr K C f/\
 ((H2 a=some (lB a C)/\∀ d,H2 d=none->d≠a->D.nx U (upd (upd H2 a (iD a C d)) d (mV d [(f,y)])))\/
  (∃ d fs,H2 a=some (iD a C d)/\H2 d=some (mV d fs)/\fs.length < 1000/\D.nx U (upd H2 d (mV d (jX f y fs)))))
theorem Ob {o value:Expr} {ta tv:TE} {fn:Str} {pos':Pos} (ha:PE X o ta) (hv:PE X value tv) (hs:swapsWith value (some (.Attribute o fn pos')) pos.line X.env=pure false):PS X (.Assign [.Attribute o fn pos'] value pos) (Ai X.K ta tv fn):=by
 intro pins s U H D I h
 refine plainObj_wpAny_Assign_Attribute (d9 (hv pins s U H _ I h) fun u s1 ⟨y,H1,I1,ry,q⟩=>d9 (ha pins s1 U H1 _ I1 q) fun ov s2 qq0=>?_) hs
 obtain ⟨x,H2,I2,rx,a,C,ex,c,n,q2⟩:=qq0
 subst ex
 obtain rfl:ov=Value.ref a:=rx
 rcases q2 with ⟨e,q2⟩ | ⟨d,fs,e,e2,hl,q2⟩
 ·exact Wh I2 e c n ry fun s3 d z1 z2 I3=>⟨U,_,I3,q2 d z1 z2⟩
 ·exact Wi I2 e e2 hl c n ry fun s3 I3=>⟨U,_,I3,q2⟩
def Kc (K:W.Frag) (ta:TE) (f:Str):TE:=fun U H Q=>ta U H fun x H1=>∃ a C fs v,x= .ref a/\IsX H1 a C fs/\XCls K C/\NoAttr K C f/\fs.lookup f=some v/\Q v H1
theorem Oc {ta:TE} {fn:Str} (he:PE X e ta) (hb:attributeBase e fn X.env (eval e X.env)=eval e X.env):PE X (.Attribute e fn pos) (Kc X.K ta fn):=by
 intro pins s U H Q I h
 refine DY hb (d9 (he pins s U H _ I h) fun u s1 qq0=>?_)
 obtain ⟨x,H1,I1,rx,a,C,fs,v,ex,⟨d,e1,e2⟩,c,n,l,q⟩:=qq0
 subst ex
 obtain rfl:u=Value.ref a:=rx
 exact getx I1 e1 e2 c n l fun u2 s2 I2 ru=>⟨v,H1,I2,ru,q⟩
def vO (C:Addr) (fl:List Str):Sp:=fun vs H Q E=>∃ x ws,vs= .ref x :: ws/\ws.length=fl.length/\H x=some (lB x C)/\∀ d,H d=none->d≠x->Q .non (upd (upd H x (iD x C d)) d (mV d (fl.zip ws)))
structure Vc (P:Program) (w:World) (K:W.Frag) (mg:Str->Option Value) (base:Heap) (k:Nat) (x:Str) (C:Addr) (fl:List Str):Prop where
 at_:mg x=some (.ref C)
 cl:Mg K C
 kp:PySem.W.keepIn K (.ref C)=true
 na:∀ f∈fl,NoAttr K C f
 run:∃ f fd ps,PySem.W.findIn K (.ref C) "__init__"=some (some (.ref f))/\PySem.W.typeIn K (.ref f)=some (.type "function")/\Binds K fd ps []/\FnOk P w K mg base Gr k f fd ps (vO C fl)
def CN (C:Addr) (fl:List Str) (R:St->XK) (t:TA):TS:=fun _ U H=>t U H fun vs H1=>vs.length=fl.length/\vs.length<=sizeLine/\∀ x H2,Same H1 H2->IsX H2 x C (fl.zip vs)->R U (.ref C) (some x) H2
theorem Tu {Q:Value->Shared->Prop} {E:Value->Shared->Prop} {fl:List Str} (M:Vc X.prog X.w X.K X.mg X.base k x C fl) (hr:Room (k+1) X.A) (I:Inv X pins U H s) (r:Vals vs us) (hl:vs.length=fl.length) (hz:vs.length<=sizeLine)
  (q:∀ a d s',H a=none->H d=none->d≠a->Inv X pins U (upd (upd (upd H a (lB a C)) a (iD a C d)) d (mV d (fl.zip vs))) s'->Q (.ref a) s'):wpAny (model X.prog X.w) X.A (call (.ref C) us) Q E s:=by
 obtain ⟨f,fd,ps,hi,hf,hb,F⟩:=M.run
 refine Tr I.kIn M.cl.cls.xi hi hf (by rw [← r.length];exact hz) ?_
 have I1:Inv X pins U H {s with heap:=s.heap.push {cls:=.type "tuple",data:=.seq us.toArray}}:=I.kept (t':=s.toks) fun b o e=>Xn _ e
 have sz1:(s.heap.push {cls:=.type "tuple",data:=.seq us.toArray}).objs.size=s.heap.objs.size+1:=Y4 _ _
 have hfr:H (s.heap.objs.size+1)=none:=I.hok.fresh (Nat.le_succ _)
 have gx:((s.heap.push {cls:=.type "tuple",data:=.seq us.toArray}).push (gD C none #[.ref s.heap.objs.size,.none,.none,.none,.bool false,.none])).get? (s.heap.objs.size+1)=some (gD C none #[.ref s.heap.objs.size,.none,.none,.none,.bool false,.none]):=by
  rw [← sz1];exact Xu _ rfl
 have I2:Inv X pins U (upd H (s.heap.objs.size+1) (lB (s.heap.objs.size+1) C)) {s with heap:=(s.heap.push {cls:=.type "tuple",data:=.seq us.toArray}).push (gD C none #[.ref s.heap.objs.size,.none,.none,.none,.bool false,.none])}:=
  I1.laid (t':=s.toks) (fun b o e=>Xn _ e) (by show (s.heap.push _).objs.size<=_;rw [sz1];exact Xo _) ⟨⟨_,gx⟩,⟨_,gx⟩,fun h1 h2 ⟨t,z⟩ kk=>⟨t,kk _ z⟩⟩
 have r2:Vals (V.ref (s.heap.objs.size+1) :: vs) (Value.ref (s.heap.objs.size+1) :: us):=.cons rfl r
 have sp0:vO C fl (V.ref (s.heap.objs.size+1) :: vs) (upd H (s.heap.objs.size+1) (lB (s.heap.objs.size+1) C)) (fun v H2=>v= .non/\∃ d,H d=none/\d≠s.heap.objs.size+1/\H2=upd (upd (upd H (s.heap.objs.size+1) (lB (s.heap.objs.size+1) C)) (s.heap.objs.size+1) (iD (s.heap.objs.size+1) C d)) d (mV d (fl.zip vs))) E0:=
  ⟨_,_,rfl,hl,aj,fun d hd ne=>⟨rfl,d,by rw [aD ne] at hd;exact hd,ne,rfl⟩⟩
 have hl2:((Value.ref (s.heap.objs.size+1) :: us) ++ []).length=ps.length:=by rw [X6,← r2.length];exact F.len _ _ _ _ sp0
 have bd:=hb _ (Value.ref (s.heap.objs.size+1) :: us) I2.kIn hl2
 rw [X6] at bd
 refine Zh (codeAny_mono (F.run _ X.stack _ _ ⟨Value.ref (s.heap.objs.size+1) :: us,[]⟩ (Value.ref (s.heap.objs.size+1) :: us) _ _ E0 (hr.make C us []) (I2.env0.make C us []) bd r2 sp0) fun rr s' hq=>?_)
 cases rr with
 | error e=>exact False.elim hq
 | ok fl=>
  cases fl with
  | ret u=>
   obtain ⟨v,H',I3,rv,ev,d,hd,ne,eH⟩:=I2.after hq
   subst ev
   rw [eH] at I3
   exact ⟨rv,q _ d s' hfr hd ne I3⟩
  | next=>exact False.elim hq
  | brk=>exact False.elim hq
  | cont=>exact False.elim hq
theorem thrown {env:Env} {C:Addr} {Q:Flow->Shared->Prop} {m:Sem Value} (hc:X.calm=true) (c:Mg X.K C) (hx:lC X R)
  (h:wpAny (model X.prog X.w) X.A m (fun v s1=>∃ x d H1,v= .ref x/\Inv X pins U H1 s1/\H1 x=some (iD x C d)/\R U (.ref C) (some x) (upd H1 x (tD x C d))) X.xe s):
  wpAny (model X.prog X.w) X.A (raiseStmt env (some m) none) Q X.xe s:=by
 obtain ⟨nm,qn,N,bs,bm,sn,sub,ab,col,dd,k0,k1,k2,k3,k5,lk0,tl⟩:=vM c.cls.xi
 unfold raiseStmt
 refine Xi (d9 h fun v s1 qq0=>?_)
 obtain ⟨x,d,H1,ev,I1,e1,r1⟩:=qq0
 subst ev
 have KI:=I1.kIn
 obtain ⟨t,he⟩:=tE I1.hok e1
 have hh:X.A.handled=none:=I1.ok.hd hc
 have hcB:(Value.ref C :: bm).contains (.type "BaseException")=true:=by
  rw [Zk,(tl _ KI).hasType (show Wg.contains (.type "BaseException")=true from by decide)];rfl
 have fin:X.xe (.ref x) s1:=by
  have I2:Inv X pins U (upd H1 x (tD x C d)) s1:=I1.write (t':=s1.toks) (x:=x) (e:=x) (h':=s1.heap) (by rw [e1];exact True.intro) (.inl rfl) (fun b o _ z=>z) ⟨_,he⟩ (Er he rfl)
  exact hx pins _ s1 ⟨x,C,d,U,_,rfl,I2,⟨aj,.inl ⟨_,he,rfl,rfl⟩⟩,r1⟩
 have hD:=KI _ _ lk0
 obtain ⟨hp,g,dr,tk,os⟩:=s1
 unfold gD at he
 repeat (first | with_reducible refine YS he ?_ | with_reducible refine YS hD ?_ | (with_reducible refine Zw hD ?_;rw [hcB]) | wp_step)
 exact wpAny_raiseNew_none hh fin
end
section
variable {X:Cx} {k:Nat} {C:Addr} {R:St->XK} {x:Str} {p cpos pos:Pos} {e:Expr} {es:List Expr} {t:TA} {fl:List Str}
theorem Aj {H:Hp} {a d:Addr} {vs:List V} (ha:H a=none) (hd:H d=none) (ne:d≠a):Same H (upd (upd (upd (upd H a (lB a C)) a (iD a C d)) d (mV d (fl.zip vs))) a (tD a C d))/\
  IsX (upd (upd (upd (upd H a (lB a C)) a (iD a C d)) d (mV d (fl.zip vs))) a (tD a C d)) a C (fl.zip vs):=by
 refine ⟨fun b o h=>?_,d,aj,by rw [aD ne,aj]⟩
 have na:b≠a:=fun z=>by rw [z,ha] at h;cases h
 have nd:b≠d:=fun z=>by rw [z,hd] at h;cases h
 rw [aD na,aD nd,aD na,aD na]
 exact h
theorem Ke (M:Vc X.prog X.w X.K X.mg X.base k x C fl) (hr:Room (k+1) X.A) (hc:X.calm=true) (hg:Gl X x) (hx:lC X R) (ha:PA X (e :: es) t) (hdb:(x == ("__debug__":Str))=false)
  (he:starEach (e :: es) X.env=(false,eval e X.env) :: starEach es X.env) (hpl:(backTo cpos (starEach es X.env)).any (·.1)=false):PS X (.Raise (some (.Call (.Name x p) (e :: es) [] cpos)) none pos) (CN C fl R t):=by
 intro pins s U H D I h
 rw [arm_exec_Raise]
 refine Xi (Z8 (thrown (pins:=pins) (U:=U) (C:=C) hc M.cl hx (Xi (d9 (Q:=fun v s1=>∃ x d H1,v= .ref x/\Inv X pins U H1 s1/\H1 x=some (iD x C d)/\R U (.ref C) (some x) (upd H1 x (tD x C d))) ?_ fun v s3 h3=>Xi (Z8 (Xl h3))))))
 refine Yi (lQ I hg M.at_ ?_ hdb)
 refine Zi (h₀:=X.base) I.ok.mod.kin M.kp (d9 (ha cpos pins s U H _ I h) fun us s1 ⟨vs,H1,I1,r,hl,hz,q⟩=>⟨I1.kIn,?_⟩) he hpl
 refine Tu M hr I1 r hl hz fun a d s2 z1 z2 ne I2=>⟨a,d,_,rfl,I2,?_,?_⟩
 ·rw [aD (Ne.symm ne),aj]
 ·obtain ⟨w1,w2⟩:=Aj (C:=C) (fl:=fl) (vs:=vs) z1 z2 ne
  exact q a _ w1 w2
end
section
variable {X:Cx} {pins:List (Addr×Obj)} {U U':St} {H:Hp} {s:Shared} {h':Heap}
theorem Inv.reloc {t':Nat} (I:Inv X pins U H s) (hs:Heap.SameBut X.env.locals s.heap h') (len:U'.length=U.length)
  (l:∃ m',h'.Ns X.env.locals m'/\∀ (i:Nat) (x:Str) (v:V),X.N[i]?=some x->U'[i]?=some (some v)->Vj X.env.scope x->∃ u,RelV v u/\Look X.env h' m' x u):Inv X pins U' H {s with heap:=h',toks:=t'}:=by
 have cne:=I.cne
 obtain ⟨mm,⟨oL,_,_,hoL,_⟩,_⟩:=id I.loc
 have away:∀ b o,X.s₀.heap.get? b=some o->b≠X.env.locals:=fun b o e=>XN (Xy (Xp e) I.ok.above)
 refine ⟨I.ok,I.os,I.bare,⟨fun b o e n hb hx=>(hs.2 b (away b o e)).trans (I.base.keep b o e n hb hx),fun b o e n hb hx=>?_,I.base.free,fun b o e hx=>?_,I.base.tups,I.base.frzs,I.base.tbls⟩,l,fun y c e=>?_,I.free,I.freeC,fun q hq=>?_,fun b ob e=>?_,len.trans I.len⟩
 ·obtain ⟨sl,e1⟩:=I.base.slot b o e n hb hx
  exact ⟨sl,(hs.2 b (away b o e)).trans e1⟩
 ·obtain ⟨o2,e1⟩:=I.base.there b o e hx
  exact ⟨o2,(hs.2 b (away b o e)).trans e1⟩
 ·obtain ⟨w2,z⟩:=I.cell y c e
  exact ⟨w2,z.sameBut hs (cne y c e)⟩
 ·obtain ⟨e,n,ne,nf,d⟩:=I.pin q hq
  exact ⟨(hs.2 q.1 ne).trans e,n,ne,nf,d⟩
 ·refine (I.hok b ob e).stay (fun c w2 hc q=>(hs.2 c ?_).trans q) (fun _ q=>q) fun _ _ q=>q
  rintro rfl
  rcases hc with rfl | hc
  ·rw [I.free] at e;cases e
  ·rw [I.free] at hc;cases hc
theorem name_goes {A:Around} {E:Value->Shared->Prop} {i:Nat} {n:Str} {pos:Pos} {Q:Unit->Shared->Prop} (I:Inv X pins U H s) (hN:X.N.Nodup) (hi:X.N[i]?=some n) (hl:X.env.scope.names.lookup n=some .local)
  (h:∀ s',Inv X pins (U.set i none) H s'->Q () s'):wpAny (model X.prog X.w) A (do bindName X.env n .none;unbindBehindTheSuite X.env n pos) Q E s:=by
 have hcls:(X.env.scope.kind == .class || (X.env.scope.kind == .module && X.env.locals != X.env.globals))=false:=by rw [I.ok.kind];rfl
 have hk:X.env.kindOf n=some .local:=hl
 refine Xi (wpAny_bindName (oR (v:=.non) I hN hi (.inl hl) rfl (fun s1 I1=>?_) (.inr hl)))
 obtain ⟨m1,hn1,hl1⟩:=id I1.loc
 have hiU:i < U.length:=by rw [I.len];exact (Xm.mp hi).1
 obtain ⟨u1,ru1,lk1⟩:=hl1 i n .non hi (by rw [Yk hiU]) (.inl hl)
 have m1n:m1 n=some u1:=by
  rcases lk1 with ⟨_,z⟩ | ⟨z | z,_⟩
  ·exact z
  ·rw [hk] at z;cases z
  ·rw [hk] at z;cases z
 unfold unbindBehindTheSuite
 refine wpAny_onRaise ?_
 unfold unbindName
 refine Xi (wpAny_point (Xi ?_))
 unfold deleteName
 simp only [hk,hcls]
 rw [if_neg (by decide)]
 refine Xi (wpAny_nsDel_keeps hn1 fun h2 v2 hn2 hs2=>?_)
 rw [m1n]
 simp only [if_true,Option.isSome_some,Bool.not_true,Bool.false_eq_true,if_false]
 refine Xl (wpAny_point (h _ (I1.reloc (t':=s1.toks) hs2 (by rw [List.length_set,List.length_set]) ⟨_,hn2,fun j y v e1 e2 e3=>?_⟩)))
 have hj:j≠i:=fun z=>by
  subst z
  rw [Yk hiU] at e2;cases e2
 rw [XX (Ne.symm hj)] at e2
 obtain ⟨u,r,q⟩:=hl1 j y v e1 (by rw [XX (Ne.symm hj)];exact e2) e3
 refine ⟨u,r,?_⟩
 rcases q with ⟨k,z⟩ | ⟨k,c,z1,z2⟩
 ·have ny:y≠n:=fun z=>hj (vh hN e1 (z ▸ hi))
  exact .inl ⟨k,by show (if y=n then v2 else m1 y)=some u;rw [if_neg ny];exact z⟩
 ·exact .inr ⟨k,c,z1,z2.sameBut hs2 (I1.cne y c z1)⟩
end
abbrev Cx.sui (X:Cx) (x:Addr):Cx:={X with A:=X.A.mark (some (.ref x)),calm:=false,xe:=fun _ _=>False}
abbrev Cx.bod (X:Cx) (pins:List (Addr×Obj)) (R:St->XK):Cx:={X with pn:=X.pn ++ pins,xe:=XE X pins R}
section
variable {X:Cx} {pins pins':List (Addr×Obj)} {U:St} {H:Hp} {s:Shared} {x C d T:Addr} {R:St->XK} {D:Ends}
theorem Inv.sui (I:Inv X pins U H s) (x:Addr):Inv (X.sui x) pins U H s:=
 ⟨⟨I.ok.mod,I.ok.kind,I.ok.glob,I.ok.blt,I.ok.above,I.ok.inj,I.ok.has,I.ok.cab,fun h=>absurd h Xq,I.ok.frames,I.ok.stk,I.ok.exf,I.ok.bs,I.ok.bsz,I.ok.noex,I.ok.exfs,I.ok.funs,I.ok.frf⟩,I.os,I.bare,I.base,I.loc,I.cell,I.free,I.freeC,I.pin,I.hok,I.len⟩
theorem Inv.unsui (ok:X.Ok) (I:Inv (X.sui x) pins U H s):Inv X pins U H s:=⟨ok,I.os,I.bare,I.base,I.loc,I.cell,I.free,I.freeC,I.pin,I.hok,I.len⟩
theorem Inv.bod (I:Inv X pins U H s) (R:St->XK):Inv (X.bod pins R) [] U H s:=
 ⟨⟨I.ok.mod,I.ok.kind,I.ok.glob,I.ok.blt,I.ok.above,I.ok.inj,I.ok.has,I.ok.cab,I.ok.hd,I.ok.frames,I.ok.stk,I.ok.exf,I.ok.bs,I.ok.bsz,I.ok.noex,I.ok.exfs,I.ok.funs,I.ok.frf⟩,I.os,I.bare,I.base,I.loc,I.cell,I.free,I.freeC,fun p hp=>I.pin p (by simpa using hp),I.hok,I.len⟩
theorem Inv.unbod (I:Inv (X.bod pins R) pins' U H s):Inv X pins U H s:=
 ⟨⟨I.ok.mod,I.ok.kind,I.ok.glob,I.ok.blt,I.ok.above,I.ok.inj,I.ok.has,I.ok.cab,I.ok.hd,I.ok.frames,I.ok.stk,I.ok.exf,I.ok.bs,I.ok.bsz,I.ok.noex,I.ok.exfs,I.ok.funs,I.ok.frf⟩,I.os,I.bare,I.base,I.loc,I.cell,I.free,I.freeC,fun p hp=>I.pin p (ZV _ hp),I.hok,I.len⟩
theorem SP.unbod {f:Flow} (h:SP (X.bod pins R) pins' D f s):SP X pins D f s:=by
 cases f with
 | next=>obtain ⟨U',H',I,q⟩:=h;exact ⟨U',H',I.unbod,q⟩
 | brk=>obtain ⟨U',H',I,q⟩:=h;exact ⟨U',H',I.unbod,q⟩
 | cont=>obtain ⟨U',H',I,q⟩:=h;exact ⟨U',H',I.unbod,q⟩
 | ret u=>obtain ⟨v,U',H',I,r,q⟩:=h;exact ⟨v,U',H',I.unbod,r,q⟩
theorem SP.unsui (ok:X.Ok) {f:Flow} (h:SP (X.sui x) pins D f s):SP X pins D f s:=by
 cases f with
 | next=>obtain ⟨U',H',I,q⟩:=h;exact ⟨U',H',I.unsui ok,q⟩
 | brk=>obtain ⟨U',H',I,q⟩:=h;exact ⟨U',H',I.unsui ok,q⟩
 | cont=>obtain ⟨U',H',I,q⟩:=h;exact ⟨U',H',I.unsui ok,q⟩
 | ret u=>obtain ⟨v,U',H',I,r,q⟩:=h;exact ⟨v,U',H',I.unsui ok,r,q⟩
theorem Ak:lC (X.bod pins R) R:=by
 rintro pins' e s' ⟨x,C,d,U,H',he,I,⟨tx,F⟩,r⟩
 refine ⟨x,C,d,U,H',he,I.unbod,⟨tx,?_⟩,r⟩
 rcases F with F | ⟨T,F⟩
 ·exact .inl F
 ·obtain ⟨a1,a2,a3,a4,a5,a6⟩:=F.fp
  exact .inr ⟨T,F.obj,F.tb,⟨a1,a2,a3,a4,a5,fun p hp=>a6 p (ZV _ hp)⟩,F.tr⟩
theorem xT {A:Around} {E:Value->Shared->Prop} {P:Addr} {b:Bool} {Q:Bool->Shared->Prop} {vs:Array Value} {M:Model} {K:W.Frag} (KI:K.In s.heap) (c:XCls K C) (cP:XCls K P) (e:s.heap.get? x=some (gD C (some d) vs)) (hm:PySem.W.mroIn K C (.ref P)=some b) (h:Q b s):
  wpAny M A (excMatches (.ref x) (.ref P)) Q E s:=by
 obtain ⟨nm,qn,N,bs,bm,sn,sub,ab,col,dd,k0,k1,k2,k3,k5,lk,tl⟩:=vM c.xi
 obtain ⟨nm',qn',N',bs',bm',sn',sub',ab',col',dd',k0',k1',k2',k3',k5',lk',tl'⟩:=vM cP.xi
 have hC:=KI _ _ lk
 have hP:=KI _ _ lk'
 have hPB:(Value.ref P :: bm').contains (.type "BaseException")=true:=by
  rw [Zk,(tl' _ KI).hasType (show Wg.contains (.type "BaseException")=true from by decide)];rfl
 have hCP:(Value.ref C :: bm).contains (.ref P)=b:=by
  unfold PySem.W.mroIn PySem.W.clsIn at hm
  rw [lk] at hm
  exact Ye hm
 have f:=tc_notTuple
 obtain ⟨hp,g,dr,tk,os⟩:=s
 unfold gD at e
 unfold excMatches
 by_cases hh:P=C
 ·subst hh
  have hb:b=true:=by rw [← hCP];simp
  subst hb
  rw [lk] at lk'
  cases lk'
  repeat (first | with_reducible refine YS e ?_ | with_reducible refine YS hC ?_ | (with_reducible refine Zw hC ?_;first | rw [hPB] | rw [hCP]) | wp_step)
  exact h
 ·repeat (first | with_reducible refine YS e ?_ | with_reducible refine YS hP ?_ | (with_reducible refine Zw hP ?_;rw [hPB]) | (with_reducible refine Zw hC ?_;rw [hCP]) | wp_step)
  cases b <;> (wp_walk;exact h)
abbrev TH:=Ends->St->Addr->Addr->Hp->Prop
def PH (X:Cx) (hs:List ExceptHandler) (th:TH):Prop:=∀ (pins:List (Addr×Obj)) (s:Shared) (U:St) (H:Hp) (D:Ends) (x C d T:Addr),Inv X pins U H s->Head X pins H x C d T s.heap->th D U x C H->
 wpAny (model X.prog X.w) X.A (handleBy (.ref x) X.env hs) (SP X pins D) X.xe s
theorem Tv:PH X [] (fun _ _ _ _ _=>False):=fun _ _ _ _ _ _ _ _ _ _ _ h=>h.elim
def Ends.gone (D:Ends) (i:Nat):Ends:={nx:=fun U H=>D.nx (U.set i none) H,rt:=D.rt,bk:=fun U H=>D.bk (U.set i none) H,ct:=fun U H=>D.ct (U.set i none) H}
def hAs (K:W.Frag) (P:Addr) (i:Nat) (ts:TS) (th:TH):TH:=fun D U x C H=>∃ b,XCls K C/\PySem.W.mroIn K C (.ref P)=some b/\if b=true then ts (D.gone i) (U.set i (some (.ref x))) H else th D U x C H
def hNo (K:W.Frag) (P:Addr) (ts:TS) (th:TH):TH:=fun D U x C H=>∃ b,XCls K C/\PySem.W.mroIn K C (.ref P)=some b/\if b=true then ts D U H else th D U x C H
variable {nm n:Str} {P:Addr} {i:Nat} {p pos:Pos} {b0:Stmt} {suite:List Stmt} {ts:TS} {th:TH} {hs:List ExceptHandler}
theorem Wl (hg:Gl X nm) (hm:X.mg nm=some (.ref P)) (cP:XCls X.K P) (hdb:(nm == ("__debug__":Str))=false) (hN:X.N.Nodup) (hi:X.N[i]?=some n) (hl:X.env.scope.names.lookup n=some .local)
  (hsu:∀ x,PSs (X.sui x) (b0 :: suite) ts) (hr:PH X hs th):PH X (.ExceptHandler (some (.Name nm p)) (some n) (b0 :: suite) pos :: hs) (hAs X.K P i ts th):=by
 rintro pins s U H D x C d T I F ⟨b,c,mb,q⟩
 obtain ⟨vs,ex,h1⟩:=F.obj
 refine wpAny_handleBy_cons (codeAny_handlers_test (lQ (I.sui x) hg hm ?_ hdb)) (fun z=>nomatch z)
 refine xT I.kIn c cP ex mb ?_
 cases b with
 | false=>
  rw [if_neg Xq] at q
  exact hr pins s U H D x C d T I F q
 | true=>
  rw [if_pos rfl] at q
  refine codeAny_handlers_suite_as ?_
  refine rP I F fun h2 I2 F2=>?_
  refine oR (X:=X.sui x) (v:=.ref x) (I2.sui x) hN hi (.inl hl) rfl (fun s3 I3=>?_) (.inr hl)
  refine X5 (hsu x pins s3 _ H (D.gone i) I3 q) (fun f s4 w=>?_) fun _ _ z=>False.elim z
  cases f with
  | next=>obtain ⟨U',H',J,r⟩:=w;exact name_goes (J.unsui I.ok) hN hi hl fun s5 I5=>⟨_,H',I5,r⟩
  | brk=>obtain ⟨U',H',J,r⟩:=w;exact name_goes (J.unsui I.ok) hN hi hl fun s5 I5=>⟨_,H',I5,r⟩
  | cont=>obtain ⟨U',H',J,r⟩:=w;exact name_goes (J.unsui I.ok) hN hi hl fun s5 I5=>⟨_,H',I5,r⟩
  | ret u=>obtain ⟨v,U',H',J,rv,r⟩:=w;exact name_goes (J.unsui I.ok) hN hi hl fun s5 I5=>⟨v,_,H',I5,rv,r⟩
theorem Wm (hg:Gl X nm) (hm:X.mg nm=some (.ref P)) (cP:XCls X.K P) (hdb:(nm == ("__debug__":Str))=false) (hsu:∀ x,PSs (X.sui x) (b0 :: suite) ts) (hr:PH X hs th):
  PH X (.ExceptHandler (some (.Name nm p)) none (b0 :: suite) pos :: hs) (hNo X.K P ts th):=by
 rintro pins s U H D x C d T I F ⟨b,c,mb,q⟩
 obtain ⟨vs,ex,h1⟩:=F.obj
 refine wpAny_handleBy_cons (codeAny_handlers_test (lQ (I.sui x) hg hm ?_ hdb)) (fun z=>nomatch z)
 refine xT I.kIn c cP ex mb ?_
 cases b with
 | false=>
  rw [if_neg Xq] at q
  exact hr pins s U H D x C d T I F q
 | true=>
  rw [if_pos rfl] at q
  refine codeAny_handlers_suite ?_
  refine rP I F fun h2 I2 F2=>?_
  exact X5 (hsu x pins _ _ H D (I2.sui x) q) (fun f s4 w=>w.unsui I.ok) fun _ _ z=>False.elim z
def Tw (tb:(St->XK)->TS) (th:TH):TS:=fun D U H=>tb (fun U' c x H'=>∃ C a,c= .ref C/\x=some a/\th D U' a C H') D U H
theorem Tz {body:List Stmt} {h0:ExceptHandler} {tb:(St->XK)->TS} (hst:X.stack=X.env :: X.outer) (hfr:X.env.frame=some X.env.locals) (hb:∀ (pins:List (Addr×Obj)) (R:St->XK),PSs (X.bod pins R) body (tb R)) (hh:PH X (h0 :: hs) th):
  PS X (.Try body (h0 :: hs) [] [] pos) (Tw tb th):=by
 intro pins s U H D I h
 refine wpAny_Try_except (X5 (hb pins _ [] s U H D (I.bod _) h) (fun f s1 q=>?_) fun e s1 q=>?_)
 ·have q':=q.unbod
  cases f with
  | next=>exact wpAny_execs_nil q'
  | brk=>exact q'
  | cont=>exact q'
  | ret u=>exact q'
 ·obtain ⟨x,C,d,U',H',rfl,I1,F1,C',a',eC,ea,r⟩:=q
  cases eC
  cases ea
  refine Ah I1 hst hfr I1.ok.frames F1 fun h2 T I2 F2=>?_
  refine rP I2 F2 fun h3 I3 F3=>?_
  exact hh pins _ U' H' D x C d T I3 F3 r
end
def aM (mg:Str->Option Value) (x:Str):Addr:=match mg x with
 | some (.ref a)=>a
 | _=>0
theorem d8 {mg:Str->Option Value} {x:Str} {C:Addr} (h:mg x=some (.ref C)):aM mg x=C:=by unfold aM;rw [h]
structure Hb (K:W.Frag) (mg:Str->Option Value) (x:Str):Prop where
 at_:mg x=some (.ref (aM mg x))
 cl:Mg K (aM mg x)
theorem Qv {K:W.Frag} {mg:Str->Option Value} {h:Heap} (X:K.In h) (G:h.Ns mainGlobals mg) {x:Str} {C:Addr} (a:PySem.W.nsIn K mainGlobals x=some (some (.ref C))) (b:Eu K C=true):Hb K mg x:=by
 have m:=Yt X G a
 have e:=d8 m
 exact ⟨by rw [e];exact m,by rw [e];exact J6 b⟩
structure oO (K:W.Frag) (mg:Str->Option Value) (x:Str) (fl:List Str) (qual:Str) (st:Stmt):Prop where
 c:Hb K mg x
 kp:PySem.W.keepIn K (.ref (aM mg x))=true
 na:∀ f∈fl,NoAttr K (aM mg x) f
 ini:∃ f fd,PySem.W.findIn K (.ref (aM mg x)) "__init__"=some (some (.ref f))/\PySem.W.typeIn K (.ref f)=some (.type "function")/\Fun K "__init__" qual st f fd
def Kf (K:W.Frag) (C:Addr) (fl:List Str):Bool:=fl.all fun n=>PySem.W.findIn K (.ref C) n == some none
theorem ur {K:W.Frag} {mg:Str->Option Value} {h:Heap} (X:K.In h) (G:h.Ns mainGlobals mg) {x qual:Str} {C f:Addr} {fl:List Str} {st:Stmt} {oc:Value} {od an:Option Addr} {osl:Array (Option Value)} {kV doc pm cdv ct:Value}
  (a:PySem.W.nsIn K mainGlobals x=some (some (.ref C))) (b:Eu K C=true) (kp:PySem.W.keepIn K (.ref C)=true) (na:Kf K C fl=true)
  (i:PySem.W.findIn K (.ref C) "__init__"=some (some (.ref f))) (t:PySem.W.typeIn K (.ref f)=some (.type "function"))
  (l:K.lookup f=some ⟨oc,od,.func (PySem.W.fnOf "__init__" qual (dZ st) (bI st) (aB st) .none kV doc pm an cdv ct),osl⟩) (c:PySem.W.codeIn K cdv qual=true) (k:PySem.W.keepIn K (.ref f)=true):oO K mg x fl qual st:=by
 have m:=Yt X G a
 have e:=d8 m
 refine ⟨Qv X G a b,by rw [e];exact kp,fun n hn=>?_,f,_,by rw [e];exact i,t,vq l c k⟩
 rw [e]
 have:=YW.mp na n hn
 exact Y8.mp this
structure Sub (K:W.Frag) (mg:Str->Option Value) (x y:Str) (b:Bool):Prop where
 mro:PySem.W.mroIn K (aM mg x) (.ref (aM mg y))=some b
 one:PySem.W.kitOne K (.ref (aM mg x)) (.ref (aM mg y))=some b
theorem gK {K:W.Frag} {mg:Str->Option Value} {h:Heap} (X:K.In h) (G:h.Ns mainGlobals mg) {x y:Str} {C P:Addr} {r:Bool} (a:PySem.W.nsIn K mainGlobals x=some (some (.ref C))) (b:PySem.W.nsIn K mainGlobals y=some (some (.ref P)))
  (m:PySem.W.mroIn K C (.ref P)=some r) (o:PySem.W.kitOne K (.ref C) (.ref P)=some r):Sub K mg x y r:=by
 have e:=d8 (Yt X G a)
 have e2:=d8 (Yt X G b)
 exact ⟨by rw [e,e2];exact m,by rw [e,e2];exact o⟩
structure JH (X:Cx) (hs:List ExceptHandler) (th:TH):Prop where
 run:PH X hs th
section
variable {X:Cx} {K:W.Frag} {k:Nat} {x n fn:Str} {ps:List Str} {sp:Sp} {R:St->XK} {p pos cpos pos':Pos} {e o value:Expr} {es:List Expr} {t:TA} {ta tv:TE} {st:Stmt} {u ts:TS} {th:TH} {hs:List ExceptHandler} {i:Nat}
theorem uY (F:HasX X.prog X.w X.K X.mg X.base k x ps sp) (hr:Room k X.A) (hg:Gl X x) (hx:lC X R) (ha:JA X (e :: es) t) (hdb:(x == ("__debug__":Str))=false) (h:autoParam ((e :: es).all notStar=true) L2.auto4._auto_1):
  JE X (.Call (.Name x p) (e :: es) [] pos) (CK sp R t):=by
 have h1:notStar e=true:=by simp only [Yn,Xx] at h;exact h.1
 have h2:es.all notStar=true:=by simp only [Yn,Xx] at h;exact h.2
 exact ⟨Ka F hr hg hx ha.run hdb (bJ h1) (mC h2)⟩
theorem oM {C:Addr} (hg:Gl X x) (hm:X.mg x=some (.ref C)) (hd:(x == ("__debug__":Str))=false):JE X (.Name x pos) (tC (.ref C)):=⟨yt hg hm rfl hd⟩
theorem CP (hK:X.K=K) (he:JE X e ta) (h:autoParam (nq e=true) L2.auto4._auto_1):JE X (.Attribute e fn pos) (Kc K ta fn):=by
 subst hK
 exact ⟨Oc he.run (by cases e <;> first | rfl | cases h)⟩
theorem yQ (hK:X.K=K) (ha:JE X o ta) (hv:JE X value tv) (h:autoParam (lR value=true) L2.auto4._auto_1):JS X (.Assign [.Attribute o fn pos'] value pos) (Ai K ta tv fn):=by
 subst hK
 exact ⟨Ob ha.run hv.run (Ac h)⟩
theorem Al {fl:List Str} (M:Vc X.prog X.w X.K X.mg X.base k x (aM X.mg x) fl) (hr:Room (k+1) X.A) (hc:X.calm=true) (hg:Gl X x) (hx:lC X R) (ha:JA X (e :: es) t) (hdb:(x == ("__debug__":Str))=false) (h:autoParam ((e :: es).all notStar=true) L2.auto4._auto_1):
  JS X (.Raise (some (.Call (.Name x p) (e :: es) [] cpos)) none pos) (CN (aM X.mg x) fl R t):=by
 have h1:notStar e=true:=by simp only [Yn,Xx] at h;exact h.1
 have h2:es.all notStar=true:=by simp only [Yn,Xx] at h;exact h.2
 exact ⟨Ke M hr hc hg hx ha.run hdb (bJ h1) (mC h2)⟩
theorem Kg:JH X [] (fun _ _ _ _ _=>False):=⟨Tv⟩
theorem Qw {b0:Stmt} {suite:List Stmt} (hK:X.K=K) (c:Hb K X.mg x) (hg:Gl X x) (hdb:(x == ("__debug__":Str))=false) (hN:X.N.Nodup) (hi:X.N[i]?=some n) (hl:X.env.scope.names.lookup n=some .local)
  (hsu:∀ x,JB (X.sui x) (b0 :: suite) ts) (hr:JH X hs th):JH X (.ExceptHandler (some (.Name x p)) (some n) (b0 :: suite) pos :: hs) (hAs K (aM X.mg x) i ts th):=by
 subst hK
 exact ⟨Wl hg c.at_ c.cl.cls hdb hN hi hl (fun x=>(hsu x).run) hr.run⟩
theorem Qx {b0:Stmt} {suite:List Stmt} (hK:X.K=K) (c:Hb K X.mg x) (hg:Gl X x) (hdb:(x == ("__debug__":Str))=false)
  (hsu:∀ x,JB (X.sui x) (b0 :: suite) ts) (hr:JH X hs th):JH X (.ExceptHandler (some (.Name x p)) none (b0 :: suite) pos :: hs) (hNo K (aM X.mg x) ts th):=by
 subst hK
 exact ⟨Wm hg c.at_ c.cl.cls hdb (fun x=>(hsu x).run) hr.run⟩
theorem Kh {body:List Stmt} {h0:ExceptHandler} {tb:(St->XK)->TS} (hst:X.stack=X.env :: X.outer) (hfr:X.env.frame=some X.env.locals) (hb:∀ (pins:List (Addr×Obj)) (R:St->XK),JB (X.bod pins R) body (tb R)) (hh:JH X (h0 :: hs) th):
  JS X (.Try body (h0 :: hs) [] [] pos) (Tw tb th):=⟨Tz hst hfr (fun pins R=>(hb pins R).run) hh.run⟩
end
section
variable {P:Program} {w:World} {K:W.Frag} {mg:Str->Option Value} {base:Heap}
theorem Ex {x:Str} {st:Stmt} {N ps:List Str} {k:Nat} {sp:Sp} (D:Def K mg x st) (S:aF N ps (aB st))
  (hb:∀ (kV doc pm:Value) (an:Option Addr) (cdv ct:Value) (us:List Value),us.length=ps.length->bindArgs (PySem.W.fnOf x x (dZ st) (bI st) (aB st) .none kV doc pm an cdv ct) ⟨us,[]⟩=pure (ps.zip us))
  (len:∀ vs H Q E,sp vs H Q E->vs.length=ps.length)
  (hbody:∀ (f:Addr) (cdv:Value) (A:Around) (outer:List Env) (s:Shared) (H:Hp) (vs:List V) (Q:VK) (E:XK),Room k (A.deeper (envOfC x (aB st) s.heap.objs.size f cdv))->sp vs H Q E->
   ∃ t,JB (oV (GX P w) P w K mg base N x (aB st) f cdv A outer s H E) (bI st) t/\t {nx:=fun _ H'=>Q .non H',rt:=Q} (start N vs) H):HasX P w K mg base (k+1) x ps sp:=by
 obtain ⟨f,fd,F,hm⟩:=D
 refine ⟨f,fd,hm,F.kp,F.binds hb,?_⟩
 obtain ⟨oc,od,kV,doc,pm,an,cdv,ct,osl,rfl,lk,hcd⟩:=F.ex
 exact zN lk hcd S len fun A outer s H vs Q E hr h=>let ⟨t,j,q⟩:=hbody f cdv A outer s H vs Q E hr h;⟨t,j.run,q⟩
theorem mkX {x qual:Str} {st:Stmt} {N ps:List Str} {fl:List Str} {k:Nat} (D:oO K mg x fl qual st) (S:aF N ps (aB st))
  (hb:∀ (kV doc pm:Value) (an:Option Addr) (cdv ct:Value) (us:List Value),us.length=ps.length->bindArgs (PySem.W.fnOf "__init__" qual (dZ st) (bI st) (aB st) .none kV doc pm an cdv ct) ⟨us,[]⟩=pure (ps.zip us))
  (hl:ps.length=fl.length+1)
  (hbody:∀ (f:Addr) (cdv:Value) (A:Around) (outer:List Env) (s:Shared) (H:Hp) (vs:List V) (Q:VK) (E:XK),Room k (A.deeper (envOfC qual (aB st) s.heap.objs.size f cdv))->vO (aM mg x) fl vs H Q E->
   ∃ t,JB (oV Gr P w K mg base N qual (aB st) f cdv A outer s H E).nox (bI st) t/\t {nx:=fun _ H'=>Q .non H',rt:=Q} (start N vs) H):Vc P w K mg base (k+1) x (aM mg x) fl:=by
 obtain ⟨f,fd,a,b,F⟩:=D.ini
 refine ⟨D.c.at_,D.c.cl,D.kp,D.na,f,fd,ps,a,b,F.binds hb,F.ok S (fun vs H Q E h=>?_) fun cdv A outer s H vs Q E hr h=>let ⟨t,j,q⟩:=hbody f cdv A outer s H vs Q E hr h;⟨t,j.run,q⟩⟩
 obtain ⟨y,ws,rfl,hw,_⟩:=h
 rw [Yy,hw,hl]
end
def initOf:Stmt->Stmt
 | .ClassDef _ _ _ (s :: _) _ _ _ _ _ _ _=>s
 | s=>s
section
variable {U:St} {H:Hp} {D:Ends} {Q:VK} {sp:Sp} {R:St->XK} {a:TA} {K:W.Frag} {C P:Addr} {fl:List Str} {th:TH} {ts:TS} {i:Nat} {ta:TE} {f:Str}
theorem bQ (h:a U H fun vs H1=>sp vs H1 Q (R U)):CK sp R a U H Q:=h
theorem gr {tb:(St->XK)->TS} (h:tb (fun U' c x H'=>∃ C a,c= .ref C/\x=some a/\th D U' a C H') D U H):Tw tb th D U H:=h
theorem bR (h:a U H fun vs H1=>vs.length=fl.length/\vs.length<=sizeLine/\∀ x H2,Same H1 H2->IsX H2 x C (fl.zip vs)->R U (.ref C) (some x) H2):CN C fl R a D U H:=h
theorem dH (h:ta U H fun x H1=>∃ a C fs v,x= .ref a/\IsX H1 a C fs/\XCls K C/\NoAttr K C f/\fs.lookup f=some v/\Q v H1):Kc K ta f U H Q:=h
theorem Qy {x C:Addr} (c:XCls K C) (m:PySem.W.mroIn K C (.ref P)=some true) (h:ts (D.gone i) (U.set i (some (.ref x))) H):hAs K P i ts th D U x C H:=⟨true,c,m,by rw [if_pos rfl];exact h⟩
theorem TF {x v:V} {t c:Value} {b:Bool} (ty:TyOf K H x t) (e:Wj v=some c) (o:PySem.W.kitOne K t c=some b) (h:Q (.bl b) H):xR K [x,v] H Q:=⟨x,t,b,.inl ty,.inl ⟨v,c,rfl,e,o⟩,h⟩
theorem TJ {x C:Addr} {v:V} {c:Value} {fs:List (Str×V)} {b:Bool} (ex:IsX H x C fs) (cl:Mg K C) (e:Wj v=some c) (o:PySem.W.kitOne K (.ref C) c=some b) (h:Q (.bl b) H):xR K [.ref x,v] H Q:=
 ⟨.ref x,.ref C,b,.inr ⟨x,C,fs,rfl,ex,cl,rfl⟩,.inl ⟨v,c,rfl,e,o⟩,h⟩
theorem Od {x C p:Addr} {vs:List V} {cs:List Value} {fs:List (Str×V)} {b:Bool} (ex:IsX H x C fs) (cl:Mg K C) (hp:H p=some (.tup vs)) (e:Ha vs=some cs) (o:PySem.W.kitAny K (.ref C) cs=some b) (h:Q (.bl b) H):xR K [.ref x,.ref p] H Q:=
 ⟨.ref x,.ref C,b,.inr ⟨x,C,fs,rfl,ex,cl,rfl⟩,.inr ⟨p,vs,cs,rfl,hp,e,o⟩,h⟩
theorem uZ {x:V} {t:Value} {p:Addr} {vs:List V} {cs:List Value} {b:Bool} (ty:TyOf K H x t) (hp:H p=some (.tup vs)) (e:Ha vs=some cs) (o:PySem.W.kitAny K t cs=some b) (h:Q (.bl b) H):xR K [x,.ref p] H Q:=
 ⟨x,t,b,.inl ty,.inr ⟨p,vs,cs,rfl,hp,e,o⟩,h⟩
theorem rd1 {f1 p0 p1:Str} {vs:List V} {E:XK} (c:XCls K C) (n:NoAttr K C f1) (h:vO C [f1] vs H Q E):Ai K (m8 0) (m8 1) f1 {nx:=fun _ H'=>Q .non H',rt:=Q} (start [p0,p1] vs) H:=by
 obtain ⟨x,ws,rfl,hw,hx,q⟩:=h
 match ws,hw with
 | [v],_=>exact ⟨v,rfl,.ref x,rfl,x,C,rfl,c,n,.inl ⟨hx,fun d hd ne=>q d hd ne⟩⟩
theorem rd2 {f1 f2 p0 p1 p2:Str} {vs:List V} {E:XK} (c:XCls K C) (n:NoAttr K C f1) (n2:NoAttr K C f2) (ne:f1≠f2) (h:vO C [f1,f2] vs H Q E):
  Ie (Ai K (m8 0) (m8 1) f1) (Ai K (m8 0) (m8 2) f2) {nx:=fun _ H'=>Q .non H',rt:=Q} (start [p0,p1,p2] vs) H:=by
 obtain ⟨x,ws,rfl,hw,hx,q⟩:=h
 match ws,hw with
 | [v,u],_=>
  refine ⟨v,rfl,.ref x,rfl,x,C,rfl,c,n,.inl ⟨hx,fun d hd nd=>?_⟩⟩
  refine ⟨u,rfl,.ref x,rfl,x,C,rfl,c,n2,.inr ⟨d,[(f1,v)],?_,aj,by show 1 < 1000;decide,?_⟩⟩
  ·rw [aD (Ne.symm nd),aj]
  ·rw [Dy]
   have e:jX f2 u [(f1,v)]=[(f1,v),(f2,u)]:=by
    show (if f1=f2 then _ else _)=_
    rw [if_neg ne]
    rfl
   rw [e]
   exact q d hd nd
end
theorem IsX.same {H H':Hp} {x C:Addr} {fs:List (Str×V)} (h:IsX H x C fs) (s:Same H H'):IsX H' x C fs:=let ⟨d,a,b⟩:=h;⟨d,s _ _ a,s _ _ b⟩
section
variable {X:Cx} {e:Expr} {te:TE} {lo hi:Option Expr} {st:Expr} {tl th ts:TO} {pos p2:Pos}
theorem Ey:JE X (.Dict [] [] pos) Cp:=⟨Jr⟩
end
section
variable {U:St} {H:Hp} {Q:VK} {te:TE}
theorem dI (h:∀ p,H p=none->Q (.ref p) (upd H p (.dK []))):Cp U H Q:=h
end
def Wn (K:W.Frag) (neg:Bool):R2:=fun x y H Q=>∃ a b xs,x= .ref a/\y= .ref b/\SqL K H a xs/\SqL K H b xs/\(∀ v∈xs,jE v=true\/∃ r,v= .ref r)/\Q (.bl (!neg)) H
theorem o8 {v:V} (f:jE v=true):Ed v v=true:=by
 cases v <;> first | (cases f;done) | rfl | (simp [Ed])
section
variable {X:Cx}
theorem TQ (hu:X.A.units < cLine):OpR X (compareOp .Eq) (Wn X.K false):=by
 intro pins s U H x y v u Q I rx ry h
 obtain ⟨a,b,xs,rfl,rfl,ha,hb,fx,q⟩:=h
 cases rx
 cases ry
 obtain ⟨its,r1,p1,z1⟩:=I.list ha
 obtain ⟨jts,r2,p2,z2⟩:=I.list hb
 have l1:its.toArray.size=xs.length:=by simpa using r1.length.symm
 have l2:jts.toArray.size=xs.length:=by simpa using r2.length.symm
 refine SeqAt.eq_listAt (e:=fun _=>true) p1.isList p2.isList (by rw [l1,l2]) hu (fun j h1 h2=>?_) ?_
 ·have hj:j < xs.length:=by omega
  obtain ⟨u1,e1,q1⟩:=r1.get (Xk hj)
  obtain ⟨u2,e2,q2⟩:=r2.get (Xk hj)
  have f1:its.toArray[j]=u1:=by
   obtain ⟨_,z⟩:=Xm.mp e1
   simpa using z
  have f2:jts.toArray[j]=u2:=by
   obtain ⟨_,z⟩:=Xm.mp e2
   simpa using z
  rw [f1,f2]
  rcases fx _ (YF hj) with f | ⟨r,f⟩
  ·rw [← o8 f]
   exact qK q1 q2 f f
  ·rw [f] at q1 q2
   cases (show u1=Value.ref r from q1)
   cases (show u2=Value.ref r from q2)
   exact Zd _
 ·have e:(List.range its.toArray.size).all (fun _=>true)=true:=by simp
  rw [e]
  exact ⟨.bl true,H,I,rfl,q⟩
def Oe (K:W.Frag):R2:=fun x y H Q=>NQ K x y H Q\/Wn K false x y H Q
theorem TV {K:W.Frag} (hK:X.K=K) (hu:X.A.units+64 < cLine):OpR X (compareOp .Eq) (Oe K):=by
 subst hK
 exact (Tq rfl hu).or (TQ (YK (YL _ _) hu))
end
section
variable {H:Hp} {Q:VK} {K:W.Frag}
theorem cJ {i j:Int} (h:Q (.bl (decide (V.int i=V.int j))) H):Oe K (.int i) (.int j) H Q:=.inl (cF h)
theorem cL {i j:Str} (h:Q (.bl (decide (V.str i=V.str j))) H):Oe K (.str i) (.str j) H Q:=.inl (cG h)
end
end L2
namespace L2
open PySem PySem.Spec PyProof.Rows
open AutoSeq1 (wpAny_loadPart')
theorem CQ:isSubtype (.type "dict") (.type "dict")=pure true:=by rw [ZW];kernel_rfl
theorem Hc {prog:Program} {w:World} {A:Around} {E:Value->Shared->Prop} {s:Shared} {Q:Value->Shared->Prop} {a:Addr} {o:Obj} {e:DictEntry} {ep:Nat} {k:Key} (ho:s.heap.get? a=some o) (hc:o.cls= .type "dict") (hd:o.data= .dict #[e] ep)
  (hkey:(cu prog w).is k e.key=true) (hh:e.hash=(cu prog w).hash k) (hsm:(a == sysModules)=false) (hu:A.units < cLine) (h:Q (.bool true) s):wpAny (model prog w) A (compareOp .Eq (.ref a) (.ref a)) Q E s:=by
 show wpAny _ _ (richCompare .Eq (.ref a) (.ref a)) _ _ _
 refine wpAny_richCompare_same_room ⟨o,ho,hc⟩ ⟨o,ho,hc⟩ F.slot_dict_eq (Zh (YX F.slot_dict_eq.plain F.entry_dict_eq (F.slot_dict_eq.check _ _ _ _ _ _ _ _ ⟨o,ho,hc⟩ (F.args_dict_eq_2 _ _) ?_))) hu
 have ko:KeysOf (cu prog w) #[e]:=fun x hx=>by
  simp at hx
  subst hx
  exact ⟨k,hkey,hh⟩
 have f2:=CQ
 obtain ⟨hp,g,d,tk,os⟩:=s
 have hT:(⟨hp,g,d,tk,os⟩:Shared).TypeIs (.ref a) "dict":=⟨_,ho,hc⟩
 unfold Builtin.«dict.__eq__»
 wp_walk using wpAny_loadPart' ho
 have en:∀ (Q:Array DictEntry->Shared->Prop) (E:Value->Shared->Prop),Q #[e] ⟨hp,g,d,tk,os⟩->wpAny (model prog w) A.in1 (dictEntries a) Q E ⟨hp,g,d,tk,os⟩:=fun Q E q=>by
  unfold dictEntries
  refine Xi (Y0 ho ?_)
  simp only [hd]
  exact Xl q
 have eo:∀ (Q:Nat->Shared->Prop) (E:Value->Shared->Prop),Q ep ⟨hp,g,d,tk,os⟩->wpAny (model prog w) A.in1 (dictEpoch a) Q E ⟨hp,g,d,tk,os⟩:=fun Q E q=>by
  unfold dictEpoch
  refine Xi (Y0 ho ?_)
  simp only [hd]
  exact Xl q
 simp only [hd]
 refine Xl ?_
 refine Xi (en _ _ ?_)
 rw [if_neg (by simp)]
 refine Xi (eo _ _ ?_)
 refine Xi ?_
 rw [Zb]
 simp only [Std.Legacy.Range.size,Nat.sub_zero,Nat.add_sub_cancel,Nat.div_one]
 show wpAny _ _ (forIn [0] _ _) _ _ _
 rw [List.forIn_cons]
 refine Xi (Xi (en _ _ ?_))
 show wpAny _ _ (holding [e.key,e.val] _ >>=_) _ _ _
 refine Xi (Yl ?_)
 refine Xi (show wpAny (model prog w) A.in1 (dictFind a e.key e.hash) _ _ _ from ?_)
 rw [hh]
 refine wpAny_dictFind_of hkey ho hd ko ?_
 have fi:(#[e]:Array DictEntry).findIdx? (fun e=>(cu prog w).is k e.key)=some 0:=by simp [hkey]
 rw [fi]
 refine Xi (en _ _ ?_)
 show wpAny _ _ (holding [e.val] (eqBool e.val e.val)) _ _ _
 refine Yl (Zd e.val prog w _ _ ?_)
 rw [if_neg (by simp)]
 refine Xi (eo _ _ ?_)
 rw [if_neg (by simp)]
 refine Xl ?_
 show wpAny _ _ (forIn [] _ _) _ _ _
 rw [List.forIn_nil]
 refine Xl (Xl ?_)
 exact Xl ⟨(fun z=>nomatch z),h⟩
section
variable {X:Cx}
def Qz (K:W.Frag):R2:=fun x y H Q=>∃ a b xs,x= .ref a/\y= .ref b/\SqT K H a xs/\SqT K H b xs/\(∀ v∈xs,jE v=true\/∃ r,v= .ref r)/\Q (.bl true) H
theorem Og (hu:X.A.units < cLine):OpR X (compareOp .Eq) (Qz X.K):=by
 intro pins s U H x y v u Q I rx ry h
 obtain ⟨a,b,xs,rfl,rfl,ha,hb,fx,q⟩:=h
 cases rx
 cases ry
 obtain ⟨its,r1,p1,z1⟩:=I.tuple ha
 obtain ⟨jts,r2,p2,z2⟩:=I.tuple hb
 have l1:its.toArray.size=xs.length:=by simpa using r1.length.symm
 have l2:jts.toArray.size=xs.length:=by simpa using r2.length.symm
 refine SeqAt.eq_tupleAt (e:=fun _=>true) p1 p2 hu (fun j h1 h2=>?_) ?_
 ·have hj:j < xs.length:=by omega
  obtain ⟨u1,e1,q1⟩:=r1.get (Xk hj)
  obtain ⟨u2,e2,q2⟩:=r2.get (Xk hj)
  have f1:its.toArray[j]=u1:=by
   obtain ⟨_,z⟩:=Xm.mp e1
   simpa using z
  have f2:jts.toArray[j]=u2:=by
   obtain ⟨_,z⟩:=Xm.mp e2
   simpa using z
  rw [f1,f2]
  rcases fx _ (YF hj) with f | ⟨r,f⟩
  ·rw [← o8 f]
   exact qK q1 q2 f f
  ·rw [f] at q1 q2
   cases (show u1=Value.ref r from q1)
   cases (show u2=Value.ref r from q2)
   exact Zd _
 ·have e:((List.range (min its.toArray.size jts.toArray.size)).all (fun _=>true) && its.toArray.size == jts.toArray.size)=true:=by rw [l1,l2];simp
  rw [e]
  exact ⟨.bl true,H,I,rfl,q⟩
def QB:R2:=fun x y H Q=>∃ a k v,x= .ref a/\y= .ref a/\H a=some (.dK [(k,v)])/\Q (.bl true) H
theorem Oh (hu:X.A.units < cLine):OpR X (compareOp .Eq) QB:=by
 intro pins s U H x y v u Q I rx ry h
 obtain ⟨a,k,z,rfl,rfl,ha,q⟩:=h
 cases rx
 cases ry
 obtain ⟨_,hsm,vs,kv,o,es,ep,h1,h2,h3,h4,h5,h6⟩:=(show ObjOk X.prog X.w H s.heap a (.dK [(k,z)]) from I.hok a _ ha)
 cases kv with
 | cons a1 a2=>
  cases a2
  obtain ⟨l⟩:=es
  dsimp only at h5
  cases h5 with
  | @cons en _ _ _ p1 p2 p3=>
   cases p3
   obtain ⟨k',b1,b2⟩:=h4 en (by simp)
   exact Hc (e:=en) h1 h2.1 h3 b1 b2 hsm hu ⟨.bl true,H,I,rfl,q⟩
def Oi (K:W.Frag):R2:=fun x y H Q=>Oe K x y H Q\/Qz K x y H Q\/QB x y H Q
theorem jN {K:W.Frag} (hK:X.K=K) (hu:X.A.units+64 < cLine):OpR X (compareOp .Eq) (Oi K):=by
 subst hK
 exact (TV rfl hu).or ((Og (YK (YL _ _) hu)).or (Oh (YK (YL _ _) hu)))
end
section
variable {H:Hp} {Q:VK} {K:W.Frag}
theorem bT {U:St} {r r':R2} {ta tb tc:TE} (h:ta U H fun x H1=>tb U H1 fun y H2=>r x y H2 fun z H3=>∃ k,z= .bl k/\if k=true then tc U H3 fun w H4=>r' y w H4 Q else Q (.bl false) H3):BV r r' ta tb tc U H Q:=h
theorem cM {i j:Int} (h:Q (.bl (decide (V.int i=V.int j))) H):Oi K (.int i) (.int j) H Q:=.inl (cJ h)
theorem cO {i j:Str} (h:Q (.bl (decide (V.str i=V.str j))) H):Oi K (.str i) (.str j) H Q:=.inl (cL h)
end
end L2
namespace L2
open PySem PySem.Spec PyProof.Rows PySem.SeqAt
theorem cps_append (a b:Str):(a ++ b).cps.toList=a.cps.toList ++ b.cps.toList:=by
 show (a.cps ++ b.cps).toList=_
 rw [Array.toList_append]
theorem Oj (lo hi:Option Int) (n:Nat):Builtin.Str.strSliceIndices lo hi 1 n=(List.range (HT.sIx n n hi - HT.sIx n 0 lo)).map fun k=>HT.sIx n 0 lo+k:=by
 have c:∀ (i:Int) (d:Nat),max 0 (min (if i < 0 then i+(n:Int) else i) (n:Int))=((HT.sIx n d (some i):Nat):Int):=by
  intro i d
  rw [← HT.clip_eq]
  split <;> omega
 have key:∀ a b:Nat,(List.range (if (a:Int) < (b:Int) then ((b:Int) - a+1 - 1) / 1 else 0).toNat).map (fun k:Nat=>((a:Int)+1*(k:Int)).toNat)=(List.range (b - a)).map fun k=>a+k:=by
  intro a b
  have e3:(if (a:Int) < (b:Int) then ((b:Int) - a+1 - 1) / 1 else 0).toNat=b - a:=by split <;> omega
  rw [e3]
  refine List.map_congr_left fun k _=>?_
  omega
 unfold Builtin.Str.strSliceIndices sliceRange
 simp only [show (1:Int) > 0 by decide,if_true]
 cases lo with
 | none=>
  cases hi with
  | none=>exact key 0 n
  | some j=>rw [← key,← c j n];rfl
 | some i=>
  cases hi with
  | none=>rw [← key,← c i 0];rfl
  | some j=>rw [← key,← c i 0,← c j n]
theorem QC {α β:Type} {f:α->Option β} {g:α->β}:∀ (l:List α),(∀ k∈l,f k=some (g k))->l.filterMap f=l.map g
 | [],_=>rfl
 | k :: l,h=>by rw [List.filterMap_cons,h k (by simp),Yu,QC l fun j hj=>h j (Xw _ hj)]
theorem Hd (l:List Nat) (a m:Nat) (h:a+m<=l.length):((List.range m).map fun k=>a+k).filterMap (fun i=>l[i]?)=(l.drop a).take m:=by
 rw [List.filterMap_map,QC (g:=fun k=>l.getD (a+k) 0)]
 ·refine ZS fun i=>?_
  rw [XH,List.getElem?_take]
  by_cases hi:i < m
  ·rw [if_pos hi,XM hi,List.getElem?_drop,Xk (by omega)]
   simp [Xk (show a+i < l.length by omega)]
  ·rw [if_neg hi,Yw (by simp;omega)];rfl
 ·intro k hk
  have hk:=XJ.mp hk
  show l[a+k]?=_
  rw [Xj,Xk (by omega)];rfl
theorem xU (z:Str) (lo hi:Option Int):(Txt.slice z lo hi).cps.toList=(z.cps.toList.drop (HT.sIx z.length 0 lo)).take (HT.sIx z.length z.length hi - HT.sIx z.length 0 lo):=by
 have hn:z.cps.toList.length=z.length:=by simp [Str.length]
 have la:=HT.sIx_le z.length 0 (YG _) lo
 have lb:=HT.sIx_le z.length z.length (Xo _) hi
 unfold Txt.slice
 rw [Oj]
 generalize HT.sIx z.length 0 lo=a at la ⊢
 generalize HT.sIx z.length z.length hi=b at lb ⊢
 split
 ·rename_i h
  simp at h
  have ha:a=0:=by
   rcases Nat.eq_zero_or_pos z.length with h0 | h0
   ·omega
   ·omega
  subst ha
  rw [List.drop_zero,YC (by omega)]
 ·show List.filterMap (fun x=>z.cps[x]?) _=_
  have e:(fun x:Nat=>z.cps[x]?)=fun x=>z.cps.toList[x]?:=by funext x;simp
  rw [e]
  by_cases h:a<=b
  ·exact Hd _ a (b - a) (by omega)
  ·rw [show b - a=0 by omega];simp
theorem Am (z:Str) (k:Nat):(Txt.slice z none (some (k:Int))).cps.toList=z.cps.toList.take k:=by
 rw [xU,HT.sIx_none,HT.sIx_nat,List.drop_zero,Nat.sub_zero]
 have hn:z.cps.toList.length=z.length:=by simp [Str.length]
 by_cases h:k<=z.length
 ·rw [ZP h]
 ·rw [Z5 (by omega),YC (by omega),YC (by omega)]
theorem vP (z:Str) (k:Nat):(Txt.slice z (some (k:Int)) none).cps.toList=z.cps.toList.drop k:=by
 rw [xU,HT.sIx_none,HT.sIx_nat]
 have hn:z.cps.toList.length=z.length:=by simp [Str.length]
 by_cases h:k<=z.length
 ·rw [ZP h,YC (by rw [Zf];omega)]
 ·rw [Z5 (by omega),ZD (by omega),ZD (by omega)];simp
theorem ut {xs:List V} {H:Hp} {R:Addr->Prop} (c:Nat.ble xs.length 64=true) (h:∀ p,H p=none->R p):xs.length<=sizeLine/\∀ p,H p=none->R p:=
 ⟨XQ (Nat.le_of_ble_eq_true c) (by decide),h⟩
theorem gA {A B:Prop} (h:A):if (!false)=true then A else B:=(if_pos (show (!false)=true from rfl)).mpr h
theorem gB {A B:Prop} (h:B):if (!true)=true then A else B:=by rw [if_neg (by simp)];exact h
theorem Wo {t u:TS} {D:Ends} {U:St} {H:Hp} (M:St->Hp->Prop) (h1:∀ U H,M U H->u D U H) (h2:∀ N,(∀ U H,M U H->N U H)->t {D with nx:=N} U H):Ie t u D U H:=h2 _ h1
theorem Wq {α:Type} {xs:List α} {n:Nat} {v:α} (h:xs.length=n+1) (e:xs[n]?=some v):zO xs (-1)=some v:=by
 unfold zO HS
 rw [h,if_neg (by omega),if_pos (by omega)]
 show xs[((-1:Int)+((n+1:Nat):Int)).toNat]?=some v
 rw [show ((-1:Int)+((n+1:Nat):Int)).toNat=n by omega];exact e
end L2
namespace L2
open PySem PySem.Spec PyProof.Rows PySem.SeqAt
open AutoSeq1 (wpAny_loadPart')
theorem CV {prog:Program} {w:World} {A:Around} {E:Value->Shared->Prop} {s:Shared} {Q:Value->Shared->Prop} {a:Addr} {o:Obj} {e:DictEntry} {ep:Nat} {k:Key} (ho:s.heap.get? a=some o) (hc:o.cls= .type "dict") (hd:o.data= .dict #[e] ep)
  (hkey:(cu prog w).is k e.key=true) (hh:e.hash=(cu prog w).hash k) (hsm:(a == sysModules)=false) (hu:A.units < cLine) (h:Q (.bool false) s):wpAny (model prog w) A (compareOp .NotEq (.ref a) (.ref a)) Q E s:=by
 show wpAny _ _ (richCompare .NotEq (.ref a) (.ref a)) _ _ _
 refine wpAny_richCompare_same_room ⟨o,ho,hc⟩ ⟨o,ho,hc⟩ F.slot_dict_ne (Zh (YX F.slot_dict_ne.plain F.entry_dict_ne (F.slot_dict_ne.check _ _ _ _ _ _ _ _ ⟨o,ho,hc⟩ (F.args_dict_ne_2 _ _) ?_))) hu
 have ko:KeysOf (cu prog w) #[e]:=fun x hx=>by
  simp at hx
  subst hx
  exact ⟨k,hkey,hh⟩
 have f2:=CQ
 obtain ⟨hp,g,d,tk,os⟩:=s
 have hT:(⟨hp,g,d,tk,os⟩:Shared).TypeIs (.ref a) "dict":=⟨_,ho,hc⟩
 unfold Builtin.«dict.__ne__»
 wp_walk using wpAny_loadPart' ho
 have en:∀ (Q:Array DictEntry->Shared->Prop) (E:Value->Shared->Prop),Q #[e] ⟨hp,g,d,tk,os⟩->wpAny (model prog w) A.in1 (dictEntries a) Q E ⟨hp,g,d,tk,os⟩:=fun Q E q=>by
  unfold dictEntries
  refine Xi (Y0 ho ?_)
  simp only [hd]
  exact Xl q
 have eo:∀ (Q:Nat->Shared->Prop) (E:Value->Shared->Prop),Q ep ⟨hp,g,d,tk,os⟩->wpAny (model prog w) A.in1 (dictEpoch a) Q E ⟨hp,g,d,tk,os⟩:=fun Q E q=>by
  unfold dictEpoch
  refine Xi (Y0 ho ?_)
  simp only [hd]
  exact Xl q
 simp only [hd]
 refine Xl ?_
 refine Xi (en _ _ ?_)
 rw [if_neg (by simp)]
 refine Xi (eo _ _ ?_)
 refine Xi ?_
 rw [Zb]
 simp only [Std.Legacy.Range.size,Nat.sub_zero,Nat.add_sub_cancel,Nat.div_one]
 show wpAny _ _ (forIn [0] _ _) _ _ _
 rw [List.forIn_cons]
 refine Xi (Xi (en _ _ ?_))
 show wpAny _ _ (holding [e.key,e.val] _ >>=_) _ _ _
 refine Xi (Yl ?_)
 refine Xi (show wpAny (model prog w) A.in1 (dictFind a e.key e.hash) _ _ _ from ?_)
 rw [hh]
 refine wpAny_dictFind_of hkey ho hd ko ?_
 have fi:(#[e]:Array DictEntry).findIdx? (fun e=>(cu prog w).is k e.key)=some 0:=by simp [hkey]
 rw [fi]
 refine Xi (en _ _ ?_)
 show wpAny _ _ (holding [e.val] (eqBool e.val e.val)) _ _ _
 refine Yl (Zd e.val prog w _ _ ?_)
 rw [if_neg (by simp)]
 refine Xi (eo _ _ ?_)
 rw [if_neg (by simp)]
 refine Xl ?_
 show wpAny _ _ (forIn [] _ _) _ _ _
 rw [List.forIn_nil]
 refine Xl (Xl ?_)
 exact Xl ⟨(fun z=>nomatch z),h⟩
theorem An {prog:Program} {w:World} {A:Around} {E:Value->Shared->Prop} {s:Shared} {Q:Value->Shared->Prop} {a:Addr} {o:Obj} {ep:Nat} (ho:s.heap.get? a=some o) (hc:o.cls= .type "dict") (hd:o.data= .dict #[] ep)
  (hsm:(a == sysModules)=false) (hu:A.units < cLine) (h:Q (.bool false) s):wpAny (model prog w) A (compareOp .NotEq (.ref a) (.ref a)) Q E s:=by
 show wpAny _ _ (richCompare .NotEq (.ref a) (.ref a)) _ _ _
 refine wpAny_richCompare_same_room ⟨o,ho,hc⟩ ⟨o,ho,hc⟩ F.slot_dict_ne (Zh (YX F.slot_dict_ne.plain F.entry_dict_ne (F.slot_dict_ne.check _ _ _ _ _ _ _ _ ⟨o,ho,hc⟩ (F.args_dict_ne_2 _ _) ?_))) hu
 have f2:=CQ
 obtain ⟨hp,g,d,tk,os⟩:=s
 have hT:(⟨hp,g,d,tk,os⟩:Shared).TypeIs (.ref a) "dict":=⟨_,ho,hc⟩
 unfold Builtin.«dict.__ne__»
 wp_walk using wpAny_loadPart' ho
 have en:∀ (Q:Array DictEntry->Shared->Prop) (E:Value->Shared->Prop),Q #[] ⟨hp,g,d,tk,os⟩->wpAny (model prog w) A.in1 (dictEntries a) Q E ⟨hp,g,d,tk,os⟩:=fun Q E q=>by
  unfold dictEntries
  refine Xi (Y0 ho ?_)
  simp only [hd]
  exact Xl q
 have eo:∀ (Q:Nat->Shared->Prop) (E:Value->Shared->Prop),Q ep ⟨hp,g,d,tk,os⟩->wpAny (model prog w) A.in1 (dictEpoch a) Q E ⟨hp,g,d,tk,os⟩:=fun Q E q=>by
  unfold dictEpoch
  refine Xi (Y0 ho ?_)
  simp only [hd]
  exact Xl q
 simp only [hd]
 refine Xl ?_
 refine Xi (en _ _ ?_)
 rw [if_neg (by simp)]
 refine Xi (eo _ _ ?_)
 refine Xi ?_
 rw [Zb]
 simp only [Std.Legacy.Range.size,Nat.sub_zero,Nat.add_sub_cancel,Nat.div_one]
 show wpAny _ _ (forIn [] _ _) _ _ _
 rw [List.forIn_nil]
 refine Xl (Xl ?_)
 exact Xl ⟨(fun z=>nomatch z),h⟩
def QD:R2:=fun x y H Q=>∃ a kvs,x= .ref a/\y= .ref a/\H a=some (.dK kvs)/\kvs.length<=1/\Q (.bl false) H
section
variable {X:Cx}
theorem Ol (hu:X.A.units < cLine):OpR X (compareOp .NotEq) QD:=by
 intro pins s U H x y v u Q I rx ry h
 obtain ⟨a,kvs,rfl,rfl,ha,hl,q⟩:=h
 cases rx
 cases ry
 obtain ⟨_,hsm,vs,kv,o,es,ep,h1,h2,h3,h4,h5,h6⟩:=(show ObjOk X.prog X.w H s.heap a (.dK kvs) from I.hok a _ ha)
 match kvs,hl with
 | [],_=>
  cases kv
  obtain ⟨l⟩:=es
  dsimp only at h5
  cases h5
  exact An h1 h2.1 h3 hsm hu ⟨.bl false,H,I,rfl,q⟩
 | [(k,z)],_=>
  cases kv with
  | cons a1 a2=>
   cases a2
   obtain ⟨l⟩:=es
   dsimp only at h5
   cases h5 with
   | @cons en _ _ _ p1 p2 p3=>
    cases p3
    obtain ⟨k',b1,b2⟩:=h4 en (by simp)
    exact CV (e:=en) h1 h2.1 h3 b1 b2 hsm hu ⟨.bl false,H,I,rfl,q⟩
def Om (K:W.Frag):R2:=fun x y H Q=>NT K x y H Q\/QD x y H Q
theorem TX {K:W.Frag} (hK:X.K=K) (hu:X.A.units+64 < cLine):OpR X (compareOp .NotEq) (Om K):=(CJ hK hu).or (Ol (YK (YL _ _) hu))
end
section
variable {H:Hp} {Q:VK} {K:W.Frag} {U:St} {D:Ends}
theorem TY {i j:Int} (h:Q (.bl (!decide (V.int i=V.int j))) H):Om K (.int i) (.int j) H Q:=.inl (cH h)
theorem T4 {i j:Str} (h:Q (.bl (!decide (V.str i=V.str j))) H):Om K (.str i) (.str j) H Q:=.inl (cI h)
end
end L2
namespace L2
open PySem PySem.Spec PyProof.Rows
section
variable {X:Cx}
theorem T5 {i:Nat} {x:Str} {e:Expr} {te:TE} {op:Operator} {r:R2} {pos pos':Pos} (hN:X.N.Nodup) (hi:X.N[i]?=some x) (hx:Loc X.env.scope x) (he:JE X e te) (ho:OpR X (inplaceOp op) r) (hf:X.fn x=true):
  JS X (.AugAssign (.Name x pos') op e pos) (Rt i te r):=⟨Ru hN hi hx he.run ho (.inl hf)⟩
end
section
variable {U:St} {H:Hp} {Q:VK} {D:Ends}
theorem xV {i:Nat} {te:TE} {r:R2} {v:V} (e:U[i]?=some (some v)) (h:te U H fun y H1=>r v y H1 fun z H2=>D.nx (U.set i (some z)) H2):Rt i te r D U H:=⟨v,e,h⟩
end
def Wr (K:W.Frag):R2:=fun x y H Q=>Nu K x y H Q\/∃ a o,y= .ref a/\DGet H a x o/\Q (.bl o.isSome) H
def Oo (K:W.Frag):R2:=fun x y H Q=>yJ K x y H Q\/∃ a o,y= .ref a/\DGet H a x o/\Q (.bl (!o.isSome)) H
def oN:BK:=fun o i v H R=>Jf o i v H R\/∃ a H4,o= .ref a/\DPut H a i v H4/\R H4
def vQ (n0:List V->Hp->(Int->Int->Nat->Prop)->Prop) (ta:TA):TE:=fun U H Q=>ta U H fun vs H1=>n0 vs H1 fun lo c n=>∀ q,H1 q=none->Q (.ref q) (upd H1 q (.lst ((List.range n).map fun i:Nat=>V.int (lo+(i:Int)*c))))
def Ws:List V->Hp->(Int->Int->Nat->Prop)->Prop:=fun vs _ R=>∃ n:Nat,vs=[.int n]/\n<=1000000/\R 0 1 n
theorem Hf {lo c:Int} {n:Nat} {acc:Array Value} (h:ItemsOf (fun i v=>∃ t,v= .int (lo+i*c) t) acc n):Vals ((List.range n).map fun i:Nat=>V.int (lo+(i:Int)*c)) acc.toList:=by
 obtain ⟨h1,h2⟩:=h
 have key:∀ (k:Nat) (a:List Value) (b:Nat),a.length=k->(∀ (j:Nat) (v:Value),a[j]?=some v->∃ t,v= .int (lo+((b+j:Nat):Int)*c) t)->Vals ((List.range' b k).map fun i:Nat=>V.int (lo+(i:Int)*c)) a:=by
  intro k
  induction k with
  | zero=>intro a b hl _;cases a with
   | nil=>exact .nil
   | cons _ _=>simp at hl
  | succ k ih=>
   intro a b hl hh
   cases a with
   | nil=>simp at hl
   | cons v a=>
    obtain ⟨t,e⟩:=hh 0 v (by simp)
    rw [List.range'_succ,Yu]
    refine .cons ⟨t,by simpa using e⟩ (ih a (b+1) (by simpa using hl) fun j v' e=>?_)
    obtain ⟨t,e⟩:=hh (j+1) v' (by simpa using e)
    exact ⟨t,by rw [e];congr 3;omega⟩
 rw [List.range_eq_range']
 refine key n acc.toList 0 (by simpa using h1) fun j v e=>?_
 obtain ⟨t,e⟩:=h2 j v (by simpa using e)
 exact ⟨t,by rw [e];congr 3;simp⟩
section
variable {X:Cx}
theorem rQ {pins:List (Addr×Obj)} {U:St} {H1:Hp} {s1:Shared} {Q:VK} {E:Value->Shared->Prop} {lo hi c:Int} {t u v:Tok} {tk n:Nat} (hc:X.calm=true) (I1:Inv X pins U H1 s1) (hs:Builtin.Range.small lo hi c=true) (hn:Builtin.Range.rangeSize lo hi c=(n:Int)) (hl:n<=1000000)
  (q:∀ q,H1 q=none->Q (.ref q) (upd H1 q (.lst ((List.range n).map fun i:Nat=>V.int (lo+(i:Int)*c))))):
  wpAny (model X.prog X.w) X.A (call (.type "list") [.ref s1.heap.objs.size]) (EP X pins U Q) E {s1 with heap:=s1.heap.push {cls:=.type "range",data:=.fields #[.int lo t,.int hi u,.int c v]},toks:=tk}:=by
 have I2:Inv X pins U H1 {s1 with heap:=s1.heap.push {cls:=.type "range",data:=.fields #[.int lo t,.int hi u,.int c v]},toks:=tk}:=I1.kept fun b o e=>Xn _ e
 refine call_list_range (n:=n) (I1.ok.hd hc) (IsRange.new ..) hs hn (by omega) fun h' tk' acc' c' hk hS hacc=>?_
 have hsl:n<=sizeLine:=XQ hl (by decide)
 exact ⟨.ref _,_,I2.laid (t':=tk') (o:=.lst ((List.range n).map fun i:Nat=>V.int (lo+(i:Int)*c))) hk (Xo _) ⟨by simpa using hsl,acc'.toList,c',Hf hacc,by simpa using hS⟩,rfl,q _ I2.fresh⟩
theorem CW {a:Expr} {ta:TA} {p p2 p3 pos:Pos} (hc:X.calm=true) (hg:Gl X "list") (hm:X.mg "list"=none) (hg2:Gl X "range") (hm2:X.mg "range"=none) (ha:JA X [a] ta) (h:autoParam (notStar a=true) L2.auto4._auto_1):
  JE X (.Call (.Name "list" p) [.Call (.Name "range" p2) [a] [] p3] [] pos) (vQ Ws ta):=⟨by
 intro pins s U H Q I hq
 refine Yi (jd I hg hm jf (XS (arg1 rfl (Yi (jd I hg2 hm2 boot_range (XS (d9 (ha.run p3 pins s U H _ I hq) fun us s1 qq0=>?_) (bJ h) rfl)))) rfl rfl))
 obtain ⟨vs,H1,I1,r1,q1⟩:=qq0
 obtain ⟨n,rfl,hn,q⟩:=q1
 obtain ⟨u,rfl,t,rfl⟩:=vals1 r1
 exact call_range_1 (rQ hc I1 (small_one (by omega) (by omega) (by omega) (by omega)) (by rw [rangeSize_one];split <;> omega) hn q)⟩
theorem Kl {K:W.Frag} (hK:X.K=K) (hu:X.A.units+64 < cLine):OpR X (compareOp .In) (Wr K):=(Cu hK).or (by
 intro pins s U H x y v u Q I rx ry h
 obtain ⟨a,o,rfl,g,q⟩:=h
 obtain rfl:u=Value.ref a:=ry
 exact d_in (by omega) I g rx fun s3 I3=>⟨.bl o.isSome,H,I3,rfl,q⟩)
theorem Hg {K:W.Frag} (hK:X.K=K) (hu:X.A.units+64 < cLine):OpR X (compareOp .NotIn) (Oo K):=(GC hK).or (by
 intro pins s U H x y v u Q I rx ry h
 obtain ⟨a,o,rfl,g,q⟩:=h
 obtain rfl:u=Value.ref a:=ry
 exact Np (by omega) I g rx fun s3 I3=>⟨.bl (!o.isSome),H,I3,rfl,q⟩)
theorem jC (hu:X.A.units+64 < cLine):Mt X oN:=by
 intro pins s U H o i v ov iv u Q I ro ri rv h
 rcases h with h | ⟨a,H4,rfl,g,q⟩
 ·exact set_list pins s U H o i v ov iv u Q I ro ri rv h
 ·obtain rfl:ov=Value.ref a:=ro
  exact Gw (by omega) I g ri rv fun s4 I4=>⟨H4,I4,q⟩
end
section
variable {U:St} {H:Hp} {Q:VK} {K:W.Frag}
theorem dU {n0:List V->Hp->(Int->Int->Nat->Prop)->Prop} {ta:TA} (h:ta U H fun vs H1=>n0 vs H1 fun lo c n=>∀ q,H1 q=none->Q (.ref q) (upd H1 q (.lst ((List.range n).map fun i:Nat=>V.int (lo+(i:Int)*c))))):vQ n0 ta U H Q:=h
theorem Oq {n:Nat} {R:Int->Int->Nat->Prop} (hn:n<=1000000) (h:R 0 1 n):Ws [.int n] H R:=⟨n,rfl,hn,h⟩
theorem dW {x y:Str} (h:Q (.bl (!(Builtin.Str.occurrences y x 0 y.length 1).isEmpty)) H):Wr K (.str x) (.str y) H Q:=.inl (fJ h)
theorem kE {p:Addr} {xs:List V} {i:Int} {n:Nat} {v:V} {R:Hp->Prop} (hp:H p=some (.lst xs)) (e:HS xs.length i=some n) (h:R (upd H p (.lst (xs.set n v)))):oN (.ref p) (.int i) v H R:=.inl (cC hp e h)
end
end L2
namespace L2
open PySem PySem.Spec PyProof.Rows
open PySem.Sem (wp)
open PySem.AutoSeq1 (wpAny_loadPart')
end L2
namespace L2
open PySem PySem.Spec PyProof.Rows
end L2
namespace L2
open PySem PySem.Spec PyProof.Rows
open PySem.Sem (wp)
open PySem.AutoSeq1 (wpAny_loadPart')
end L2
namespace L2
open PySem PySem.Spec PyProof.Rows
end L2
namespace L2
open PySem PySem.Spec PyProof.Rows
open PySem.Sem (wp)
end L2
namespace L2
open PySem PySem.Spec PyProof.Rows
end L2
namespace L2
open PySem PySem.Spec PyProof.Rows
open PySem.Sem (wp)
end L2
namespace L2
open PySem PySem.Spec PyProof.Rows
open PySem.Sem (wp)
open AutoSeq1 (wpAny_loadPart')
end L2
namespace L2
open PySem PySem.W PySem.Spec PyProof.Rows
end L2
namespace L2
open PySem PySem.Spec PyProof.Rows
open PySem.Sem (wp)
end L2
namespace L2
open PySem PySem.Spec PyProof.Rows
open PySem.Sem (wp)
open PySem.AutoSeq1 (wpAny_loadPart')
end L2
namespace L2
open PySem PySem.Spec PyProof.Rows
open PySem.Sem (wp)
end L2
namespace L2
open PySem PySem.Spec PyProof.Rows
def Vd (K:W.Frag) (a:Addr) (n:Nat):It:=
 ⟨fun i H=>i < n/\∃ xs,SqL K H a xs/\xs.length=n,
  fun i H v H'=>H'=H/\∀ xs,SqL K H a xs->xs[n - 1 - i]?=some v,
  fun i _=>i=n⟩
theorem Km {P:Program} {w:World} {K:W.Frag} {tg:Expr} {n:Nat} {it a:Addr} (hai:a≠it):
  Turn P w K tg (Vd K a n) [it] it (fun i h=>i<=n/\h.IsRevIter it a ((n:Int) - 1 - (i:Int))) where
 mem:=by simp
 obj:=fun i h st c hc=>by
  obtain ⟨_,⟨o1,e1,c1,d1⟩⟩:=st
  have e:c=it:=by simpa using hc
  subst e
  exact ⟨_,e1,fun v z=>by rw [d1] at z;cases z⟩
 keep:=fun i h h' st kk=>⟨st.1,st.2.at fun o q=>kk it (by simp) o q⟩
 item:=by
  intro X hP hw hK hc i pins s U H E I hf st hg
  subst hP hw hK
  obtain ⟨hi,h1⟩:=st
  obtain ⟨hlt,xs,hq,hlen⟩:=hg
  obtain ⟨its,rv,p,_⟩:=I.list hq
  have l1:=rv.length
  obtain ⟨x,hx⟩:∃ x,xs[n - 1 - i]?=some x:=⟨_,Xk (by omega)⟩
  obtain ⟨u,hu,ru⟩:=rv.get hx
  obtain ⟨f0,f1,f2,f3,f4,f5⟩:=hf it (by simp)
  have e:(n:Int) - 1 - (i:Int)=((n - 1 - i:Nat):Int):=by omega
  rw [e] at h1
  refine wpAny_pyNext_rev_item h1 p.isList (x:=u) (by simpa using hu) fun h' st' sb=>?_
  have I1:Inv X pins U H {s with heap:=h'}:=I.turned (t':=s.toks) (fun b o hb e=>(sb.2 b hb).trans e) f0 f1 f3 f4 f5
  obtain ⟨o,eo,c,d⟩:=id st'
  refine ⟨u,rfl,xg (s:={s with heap:=h'}) eo c d (by decide) ⟨x,H,I1,ru,⟨rfl,fun ys hy=>by rw [I.list_inj hy hq];exact hx⟩,⟨hlt,?_⟩,fun b hb=>(hf b hb).1⟩⟩
  have e2:((n - 1 - i:Nat):Int) - 1=(n:Int) - 1 - ((i+1:Nat):Int):=by omega
  rw [← e2]
  exact st'
 done:=by
  intro X hP hw hK hc i pins s U H E I hf st hg
  subst hP hw hK
  obtain ⟨hi,h1⟩:=st
  have hin:i=n:=hg
  subst hin
  rw [show (i:Int) - 1 - (i:Int)= -1 by omega] at h1
  obtain ⟨f0,f1,f2,f3,f4,f5⟩:=hf it (by simp)
  exact wpAny_pyNext_rev_end (I.ok.hd hc) h1 fun h' eb=>⟨rfl,I.turned (t':=s.toks) (fun b o hb e=>eb b o hb e) f0 f1 f3 f4 f5⟩
 self:=fun _ _ _ _ _ st h=>wpAny_pyIter_revIter st.2 h
def QF (K:W.Frag):R2:=fun x y H Q=>∃ a b xs,x= .ref a/\y= .ref b/\SqT K H a xs/\SqT K H b xs/\(∀ v∈xs,jE v=true\/∃ r,v= .ref r)/\Q (.bl false) H
section
variable {X:Cx}
theorem Ot (hu:X.A.units < cLine):OpR X (compareOp .NotEq) (QF X.K):=by
 intro pins s U H x y v u Q I rx ry h
 obtain ⟨a,b,xs,rfl,rfl,ha,hb,fx,q⟩:=h
 cases rx
 cases ry
 obtain ⟨its,r1,p1,z1⟩:=I.tuple ha
 obtain ⟨jts,r2,p2,z2⟩:=I.tuple hb
 have l1:its.toArray.size=xs.length:=by simpa using r1.length.symm
 have l2:jts.toArray.size=xs.length:=by simpa using r2.length.symm
 refine SeqAt.RcNeAt.tuples (e:=fun _=>true) p1 p2 hu (fun j h1 h2=>?_) X.prog X.w _ _ ?_
 ·have hj:j < xs.length:=by omega
  obtain ⟨u1,e1,q1⟩:=r1.get (Xk hj)
  obtain ⟨u2,e2,q2⟩:=r2.get (Xk hj)
  have f1:its.toArray[j]=u1:=by
   obtain ⟨_,z⟩:=Xm.mp e1
   simpa using z
  have f2:jts.toArray[j]=u2:=by
   obtain ⟨_,z⟩:=Xm.mp e2
   simpa using z
  rw [f1,f2]
  rcases fx _ (YF hj) with f | ⟨r,f⟩
  ·rw [← o8 f]
   exact qK q1 q2 f f
  ·rw [f] at q1 q2
   cases (show u1=Value.ref r from q1)
   cases (show u2=Value.ref r from q2)
   exact Zd _
 ·have e:(!((List.range (min its.toArray.size jts.toArray.size)).all (fun _=>true) && its.toArray.size == jts.toArray.size))=false:=by rw [l1,l2];simp
  rw [e]
  exact ⟨.bl false,H,I,rfl,q⟩
def Ou (K:W.Frag):R2:=fun x y H Q=>Om K x y H Q\/QF K x y H Q
theorem T6 {K:W.Frag} (hK:X.K=K) (hu:X.A.units+64 < cLine):OpR X (compareOp .NotEq) (Ou K):=by
 subst hK
 exact (TX rfl hu).or (Ot (YK (YL _ _) hu))
end
section
variable {K:W.Frag} {H:Hp} {Q:VK}
theorem T7 {i j:Int} (h:Q (.bl (!decide (V.int i=V.int j))) H):Ou K (.int i) (.int j) H Q:=.inl (TY h)
theorem T8 {i j:Str} (h:Q (.bl (!decide (V.str i=V.str j))) H):Ou K (.str i) (.str j) H Q:=.inl (T4 h)
end
structure jO (K:W.Frag) (mg:Str->Option Value) (x:Str):Prop where
 at_:mg x=some (.ref (aM mg x))
 cl:Cls K (aM mg x)
 makes:PySem.W.makesIn K (aM mg x)=true
 kp:PySem.W.keepIn K (.ref (aM mg x))=true
def clsIn (K:W.Frag) (C:Addr):Bool:=PySem.W.plainGet K C Str.empty && PySem.W.hasDictIn K C && PySem.W.plainOver K C
theorem uv {K:W.Frag} {mg:Str->Option Value} {h:Heap} (X:K.In h) (G:h.Ns mainGlobals mg) {x:Str} {C:Addr} (a:PySem.W.nsIn K mainGlobals x=some (some (.ref C))) (b:clsIn K C=true)
  (s:PySem.W.findIn K (.ref C) "__setattr__"=some (some (.builtin "object.__setattr__"))) (m:PySem.W.makesIn K C=true) (k:PySem.W.keepIn K (.ref C)=true):jO K mg x:=by
 have e0:=Yt X G a
 have e:=d8 e0
 unfold clsIn at b
 simp only [Xx] at b
 exact ⟨by rw [e];exact e0,by rw [e];exact ⟨b.1.1,b.1.2,b.2,s⟩,by rw [e];exact m,by rw [e];exact k⟩
structure qw (K:W.Frag) (mg:Str->Option Value) (x m qual:Str) (st:Stmt):Prop where
 ex:∃ f fd,Meth K (aM mg x) m f/\Fun K m qual st f fd
theorem vR {K:W.Frag} {mg:Str->Option Value} {h:Heap} (X:K.In h) (G:h.Ns mainGlobals mg) {x m qual:Str} {C f:Addr} {st:Stmt} {oc:Value} {od an:Option Addr} {osl:Array (Option Value)} {kV doc pm cdv ct:Value}
  (a:PySem.W.nsIn K mainGlobals x=some (some (.ref C))) (i:PySem.W.findIn K (.ref C) m=some (some (.ref f))) (n:PySem.W.isFn K (.ref f)=true)
  (l:K.lookup f=some ⟨oc,od,.func (PySem.W.fnOf m qual (dZ st) (bI st) (aB st) .none kV doc pm an cdv ct),osl⟩) (c:PySem.W.codeIn K cdv qual=true) (k:PySem.W.keepIn K (.ref f)=true):qw K mg x m qual st:=by
 have e:=d8 (Yt X G a)
 exact ⟨f,_,by rw [e];exact ⟨i,n,k⟩,vq l c k⟩
theorem uw {K:W.Frag} {mg:Str->Option Value} {h:Heap} (X:K.In h) (G:h.Ns mainGlobals mg) {x:Str} {C:Addr} {fl:List Str} (a:PySem.W.nsIn K mainGlobals x=some (some (.ref C))) (b:Kf K C fl=true):∀ f∈fl,NoAttr K (aM mg x) f:=fun n hn=>by
 rw [d8 (Yt X G a)]
 have:=YW.mp b n hn
 first | exact of_decide_eq_true this | exact Y8.mp this | simpa using this
def lX (j:Nat):Stmt->Stmt
 | .ClassDef _ _ _ ss _ _ _ _ _ _ _=>ss.getD j (.Pass ⟨0,0,0,0⟩)
 | s=>s
def vU (P:Program) (w:World) (K:W.Frag) (mg:Str->Option Value) (base:Heap) (k:Nat) (x m:Str) (ps:List Str) (sp:Sp):Prop:=
 ∃ f fd,Meth K (aM mg x) m f/\Binds K fd ps []/\FnOk P w K mg base (GX P w) k f fd ps sp
section
variable {P:Program} {w:World} {K:W.Frag} {mg:Str->Option Value} {base:Heap}
theorem CZ {x m qual:Str} {st:Stmt} {N ps:List Str} {k:Nat} {sp:Sp} (D:qw K mg x m qual st) (S:aF N ps (aB st))
  (hb:∀ (kV doc pm:Value) (an:Option Addr) (cdv ct:Value) (us:List Value),us.length=ps.length->bindArgs (PySem.W.fnOf m qual (dZ st) (bI st) (aB st) .none kV doc pm an cdv ct) ⟨us,[]⟩=pure (ps.zip us))
  (len:∀ vs H Q E,sp vs H Q E->vs.length=ps.length)
  (hbody:∀ (f:Addr) (cdv:Value) (A:Around) (outer:List Env) (s:Shared) (H:Hp) (vs:List V) (Q:VK) (E:XK),Room k (A.deeper (envOfC qual (aB st) s.heap.objs.size f cdv))->sp vs H Q E->
   ∃ t,JB (oV (GX P w) P w K mg base N qual (aB st) f cdv A outer s H E) (bI st) t/\t {nx:=fun _ H'=>Q .non H',rt:=Q} (start N vs) H):vU P w K mg base (k+1) x m ps sp:=by
 obtain ⟨f,fd,hm,F⟩:=D.ex
 refine ⟨f,fd,hm,F.binds hb,?_⟩
 obtain ⟨oc,od,kV,doc,pm,an,cdv,ct,osl,rfl,lk,hcd⟩:=F.ex
 exact zN lk hcd S len fun A outer s H vs Q E hr h=>let ⟨t,j,q⟩:=hbody f cdv A outer s H vs Q E hr h;⟨t,j.run,q⟩
end
def Dc (C:Addr) (sp:Sp) (R:St->XK) (t:TA):TE:=fun U H Q=>t U H fun vs H1=>∀ x dx,H1 x=none->H1 dx=none->dx≠x->
 sp (.ref x :: vs) (upd (upd H1 dx (.own x)) x (.ins C dx [])) (fun v H2=>v= .non/\Q (.ref x) H2) (R U)
section
variable {X:Cx} {K:W.Frag} {k:Nat} {f C:Addr} {ps:List Str} {sp:Sp} {R:St->XK} {x m fn:Str} {p pos apos pos':Pos} {e o value:Expr} {es:List Expr} {ta tv:TE} {t:TA} {pins:List (Addr×Obj)} {U:St} {H:Hp} {s:Shared} {Q:VK} {us:List Value} {vs:List V}
theorem Hh (c:jO X.K X.mg x) (F:vU X.prog X.w X.K X.mg X.base k x "__init__" ps sp) (hr:Room (k+1) X.A) (hx:lC X R) (I:Inv X pins U H s) (r:Vals vs us)
  (h:∀ y dx,H y=none->H dx=none->dx≠y->sp (.ref y :: vs) (upd (upd H dx (.own y)) y (.ins (aM X.mg x) dx [])) (fun v H2=>v= .non/\Q (.ref y) H2) (R U)):
  wpAny (model X.prog X.w) X.A (call (.ref (aM X.mg x)) us) (EP X pins U Q) X.xe s:=by
 obtain ⟨f,fd,hm,hb,F⟩:=F
 have hq:=h (s.heap.objs.size+1) s.heap.objs.size (I.hok.fresh (Nat.le_succ _)) (I.hok.fresh (Xo _)) (XN (Zx _))
 have I2:=Inv.made (C:=aM X.mg x) I
 have r2:Vals (V.ref (s.heap.objs.size+1) :: vs) (Value.ref (s.heap.objs.size+1) :: us):=.cons rfl r
 have hl:((Value.ref (s.heap.objs.size+1) :: us) ++ []).length=ps.length:=by
  have e:=r2.length
  rw [F.len _ _ _ _ hq] at e
  rw [X6]
  exact e.symm
 have bd:=hb _ (Value.ref (s.heap.objs.size+1) :: us) I2.kIn hl
 rw [X6] at bd
 refine Zh (Ja (f:=f) I.kIn c.makes hm.at_ (Y8.mp hm.fn) (codeAny_mono (F.run _ X.stack _ _ ⟨Value.ref (s.heap.objs.size+1) :: us,[]⟩ (Value.ref (s.heap.objs.size+1) :: us) _ _ (R U) (hr.make (aM X.mg x) us [])
  (I2.env0.make (aM X.mg x) us []) bd r2 hq) fun r s' hq'=>?_))
 cases r with
 | error e=>exact hx pins e s' (Et I2 hq')
 | ok fl=>
  cases fl with
  | ret u=>
   obtain ⟨v,H',I3,rv,ev,q3⟩:=I2.after hq'
   subst ev
   exact ⟨rv,⟨V.ref (s.heap.objs.size+1),H',I3,rfl,q3⟩⟩
  | next=>exact False.elim hq'
  | brk=>exact False.elim hq'
  | cont=>exact False.elim hq'
theorem fu (c:jO X.K X.mg x) (F:vU X.prog X.w X.K X.mg X.base k x "__init__" ps sp) (hr:Room (k+1) X.A) (hg:Gl X x) (hx:lC X R) (ha:JA X (e :: es) t) (hdb:(x == ("__debug__":Str))=false) (h:autoParam ((e :: es).all notStar=true) L2.auto4._auto_1):
  JE X (.Call (.Name x p) (e :: es) [] pos) (Dc (aM X.mg x) sp R t):=⟨by
 have h1:notStar e=true:=by simp only [Yn,Xx] at h;exact h.1
 have h2:es.all notStar=true:=by simp only [Yn,Xx] at h;exact h.2
 intro pins s U H Q I h
 refine Yi (lQ I hg c.at_ ?_ hdb)
 refine Zi (h₀:=X.base) I.ok.mod.kin c.kp (d9 (ha.run pos pins s U H _ I h) fun us s1 ⟨vs,H1,I1,r,q⟩=>⟨I1.kIn,?_⟩) (bJ h1) (mC h2)
 exact Hh c F hr hx I1 r q⟩
theorem xW (hK:X.K=K) (he:JE X e ta) (h:autoParam (nq e=true) L2.auto4._auto_1):JE X (.Attribute e fn pos) (RD K ta fn):=by
 subst hK
 exact ⟨RK he.run (by cases e <;> first | rfl | cases h)⟩
theorem jr (hK:X.K=K) (ha:JE X o ta) (hv:JE X value tv) (h:autoParam (lR value=true) L2.auto4._auto_1):JS X (.Assign [.Attribute o fn pos'] value pos) (RJ K ta tv fn):=by
 subst hK
 exact ⟨RL ha.run hv.run (Ac h)⟩
end
section
variable {U:St} {H:Hp} {D:Ends} {Q:VK} {sp:Sp} {R:St->XK} {a:TA} {K:W.Frag} {C:Addr} {ta tv:TE} {f m:Str}
theorem bU (h:a U H fun vs H1=>∀ x dx,H1 x=none->H1 dx=none->dx≠x->sp (.ref x :: vs) (upd (upd H1 dx (.own x)) x (.ins C dx [])) (fun v H2=>v= .non/\Q (.ref x) H2) (R U)):Dc C sp R a U H Q:=h
theorem gC (h:ta U H fun x H1=>∃ a C dx fs v,x= .ref a/\H1 a=some (.ins C dx fs)/\Cls K C/\NoAttr K C f/\fs.lookup f=some v/\Q v H1):RD K ta f U H Q:=h
theorem dJ (h:tv U H fun y H1=>ta U H1 fun x H2=>∃ a C dx fs,x= .ref a/\H2 a=some (.ins C dx fs)/\Cls K C/\NoAttr K C f/\fs.length < 1000/\D.nx U (upd H2 a (.ins C dx (jX f y fs)))):RJ K ta tv f D U H:=h
end
section
variable {X:Cx} {mg:Str->Option Value} {o:Expr} {ta:TE} {t:TA} {x m:Str} {ps:List Str} {sp:Sp} {k:Nat} {R:St->XK} {e:Expr} {es:List Expr} {pos apos:Pos}
theorem Ao {p:Pos} (hmg:X.mg=mg) (c:jO X.K X.mg x) (F:vU X.prog X.w X.K X.mg X.base k x "__init__" ps sp) (hr:Room (k+1) X.A) (hg:Gl X x) (hx:lC X R) (ha:JA X (e :: es) t) (hdb:(x == ("__debug__":Str))=false) (h:autoParam ((e :: es).all notStar=true) L2.auto4._auto_1):
  JE X (.Call (.Name x p) (e :: es) [] pos) (Dc (aM mg x) sp R t):=by
 subst hmg
 exact fu c F hr hg hx ha hdb h
end
section
variable {U:St} {H:Hp} {Q:VK}
def T9 (o:HO) (n:Nat) (H:Hp) (Q:VK):Prop:=n<=sizeLine/\∀ p,H p=none->Q (.ref p) (upd H p o)
theorem fQ {a:TA} (h:a U H fun xs H1=>T9 (.lst xs) xs.length H1 Q):Nf a U H Q:=h
theorem fU {a:TA} (h:a U H fun xs H1=>T9 (.tup xs) xs.length H1 Q):Nb a U H Q:=h
theorem iG {o:HO} {n:Nat} (c:Nat.ble n 64=true) (h:∀ p H',H p=none->Same H H'->H' p=some o->Q (.ref p) H'):T9 o n H Q:=
 ⟨XQ (Nat.le_of_ble_eq_true c) (by decide),fun p np=>h p _ np ((Same.refl H).upd np) aj⟩
end
section
variable {sub:List (Option Nat)} {g:TG} {tt:TT} {te:TE} {U:St} {Q:VK} {H:Hp} {K:W.Frag} {a:Addr} {xs:List V} {lo:Int} {n:Nat} {z:Str}
theorem Hi (Pv:Nat->List V->Hp->Prop) (hn:n<=sizeLine) (h0:Pv 0 [] H) (hl:∀ i ys H,Pv i ys H->ys.length<=i)
  (hs:∀ i ys H,i < n->Pv i ys H->g (.int (lo+i)) (dN sub U) H fun σ2 H2=>KeepSt (dN sub U) σ2/\tt σ2 H2 fun b H3=>if b=true then te σ2 H3 fun y H4=>Pv (i+1) (ys ++ [y]) H4 else Pv (i+1) ys H3)
  (hd:∀ ys H D H',Pv n ys H->H D=none->Same H H'->H' D=some (.lst ys)->Q (.ref D) H'):qD sub g tt te U Q (HR lo n) H:=
 JL Pv hn h0 hl hs fun ys H p D nD=>hd ys H D _ p nD ((Same.refl H).upd nD) aj
theorem lD (Pv:Nat->List V->Hp->Prop) (hn:xs.length<=sizeLine) (h0:Pv 0 [] H) (hl:∀ i ys H,Pv i ys H->ys.length<=i) (hq:∀ i ys H,Pv i ys H->SqL K H a xs)
  (hs:∀ i ys H x,xs[i]?=some x->Pv i ys H->g x (dN sub U) H fun σ2 H2=>KeepSt (dN sub U) σ2/\tt σ2 H2 fun b H3=>if b=true then te σ2 H3 fun y H4=>Pv (i+1) (ys ++ [y]) H4 else Pv (i+1) ys H3)
  (hd:∀ ys H D H',Pv xs.length ys H->H D=none->Same H H'->H' D=some (.lst ys)->Q (.ref D) H'):qD sub g tt te U Q (Mw K a) H:=
 GF Pv hn h0 hl hq hs fun ys H p D nD=>hd ys H D _ p nD ((Same.refl H).upd nD) aj
theorem tG (Pv:Nat->List V->Hp->Prop) (hn:z.cps.size<=sizeLine) (h0:Pv 0 [] H) (hl:∀ i ys H,Pv i ys H->ys.length<=i)
  (hs:∀ i ys H c,z.cps.toList[i]?=some c->Pv i ys H->g (.str ⟨#[c]⟩) (dN sub U) H fun σ2 H2=>KeepSt (dN sub U) σ2/\tt σ2 H2 fun b H3=>if b=true then te σ2 H3 fun y H4=>Pv (i+1) (ys ++ [y]) H4 else Pv (i+1) ys H3)
  (hd:∀ ys H D H',Pv z.cps.size ys H->H D=none->Same H H'->H' D=some (.lst ys)->Q (.ref D) H'):qD sub g tt te U Q (Nt z) H:=
 Ae Pv hn h0 hl hs fun ys H p D nD=>hd ys H D _ p nD ((Same.refl H).upd nD) aj
theorem qd {f:Nat->V} {i:Nat} {y:V} (h:y=f i):(List.range i).map f ++ [y]=(List.range (i+1)).map f:=by rw [h,List.range_succ,Yj];rfl
theorem tH (f:Nat->V) (hn:n<=sizeLine)
  (hs:∀ i,i < n->g (.int (lo+i)) (dN sub U) H fun σ2 H2=>KeepSt (dN sub U) σ2/\tt σ2 H2 fun b H3=>if b=true then te σ2 H3 fun y H4=>H4=H/\(List.range i).map f ++ [y]=(List.range (i+1)).map f else H3=H/\(List.range i).map f=(List.range (i+1)).map f)
  (hd:∀ D H',H D=none->Same H H'->H' D=some (.lst ((List.range n).map f))->Q (.ref D) H'):qD sub g tt te U Q (HR lo n) H:=by
 refine Hi (fun i ys H'=>H'=H/\ys=(List.range i).map f) hn ⟨rfl,rfl⟩ ?_ ?_ ?_
 ·rintro i ys H' ⟨_,rfl⟩
  simp
 ·rintro i ys H' hi ⟨rfl,rfl⟩
  exact hs i hi
 ·rintro ys H1 D H' ⟨rfl,rfl⟩ nD s e
  exact hd D H' nD s e
theorem Dd (f:Nat->V) (hn:xs.length<=sizeLine) (hq:SqL K H a xs)
  (hs:∀ i x,xs[i]?=some x->g x (dN sub U) H fun σ2 H2=>KeepSt (dN sub U) σ2/\tt σ2 H2 fun b H3=>if b=true then te σ2 H3 fun y H4=>H4=H/\(List.range i).map f ++ [y]=(List.range (i+1)).map f else H3=H/\(List.range i).map f=(List.range (i+1)).map f)
  (hd:∀ D H',H D=none->Same H H'->H' D=some (.lst ((List.range xs.length).map f))->Q (.ref D) H'):qD sub g tt te U Q (Mw K a) H:=by
 refine lD (xs:=xs) (fun i ys H'=>H'=H/\ys=(List.range i).map f) hn ⟨rfl,rfl⟩ ?_ ?_ ?_ ?_
 ·rintro i ys H' ⟨_,rfl⟩
  simp
 ·rintro i ys H' ⟨rfl,_⟩
  exact hq
 ·rintro i ys H' x hx ⟨rfl,rfl⟩
  exact hs i x hx
 ·rintro ys H1 D H' ⟨rfl,rfl⟩ nD s e
  exact hd D H' nD s e
end
end L2
set_option maxHeartbeats 8000000
namespace L2
open PySem PySem.Spec PyProof.Rows
end L2
namespace L2
open PySem PySem.W PySem.Spec PyProof.Rows
end L2
namespace L2
open PySem PySem.Spec PyProof.Rows
theorem xX:Manifest.owners.lookup (String.ofList ['d','e','s','r','e','v','e','r'].reverse)=some Manifest.sig_reversed:=by kernel_rfl
theorem iu:Slot "reversed" "__next__" "reversed.__next__":=
 .of (owner:="reversed") (n:="__next__") (by rw [ZM,Y7];kernel_rfl) (by trivial) (by trivial) (by trivial)
  (by first | exact .inl (by trivial) | exact .inr (by trivial)) (by rw [ZW];kernel_rfl)
theorem o9:entryFor table "reversed.__next__"=some Builtin.«reversed.__next__»:=entryFor_of_tree (by kernel_rfl)
theorem qF (a:Value):argsOk "reversed.__next__" ⟨[a],[]⟩:=by
 unfold argsOk;rw [signature?_of (id:="reversed.__next__") (n:=['_','_','t','x','e','n','_','_']) (o:=['d','e','s','r','e','v','e','r']) (by kernel_rfl) xX];kernel_rfl
theorem qG:Slot "reversed" "__iter__" "reversed.__iter__":=
 .of (owner:="reversed") (n:="__iter__") (by rw [ZM,Y7];kernel_rfl) (by trivial) (by trivial) (by trivial)
  (by first | exact .inl (by trivial) | exact .inr (by trivial)) (by rw [ZW];kernel_rfl)
theorem wJ (a:Value):argsOk "reversed.__iter__" ⟨[a],[]⟩:=by
 unfold argsOk;rw [signature?_of (id:="reversed.__iter__") (n:=['_','_','r','e','t','i','_','_']) (o:=['d','e','s','r','e','v','e','r']) (by kernel_rfl) xX];kernel_rfl
theorem vV:entryFor table "reversed.__iter__"=some Builtin.«dict_keyiterator.__iter__»:=
 entryFor_alias (id':="dict_keyiterator.__iter__") (by kernel_rfl) (by first | rfl | trivial | (unfold String.splitOn;simp+decide [String.splitOnAux])) (by trivial) (by kernel_rfl)
theorem tK:typeLookup (.type "tuple") "__reversed__"=pure none:=by rw [ZM,Y7];kernel_rfl
theorem sub_tuple_dict:isSubtype (.type "tuple") (.type "dict")=pure false:=by rw [ZW];kernel_rfl
theorem wK:Slot "reversed" "__init__" "object.__init__":=
 .of (owner:="object") (n:="__init__") (by rw [ZM,Y7];kernel_rfl) (by trivial) (by trivial) (by trivial)
  (by first | exact .inl (by trivial) | exact .inr (by trivial)) (by rw [ZW];kernel_rfl)
theorem qM:TypeCalled "reversed" "reversed.__new__" "object.__init__":=
 ⟨by trivial,F.create_reversed,⟨_,_,F.mro_reversed⟩,F.made_reversed,F.plain_reversed_new,F.sub_reversed_self,wK⟩
section
variable {prog:Program} {w:World} {A:Around} {E:Value->Shared->Prop} {s:Shared}
def qN (l:Addr) (i:Int):Obj:={cls:=.type "reversed",data:=.fields #[.ref l,rawInt i]}
def IsRvd (h:Heap) (a l:Addr) (i:Int):Prop:=∃ o,h.get? a=some o/\o.cls= .type "reversed"/\o.data= .fields #[.ref l,rawInt i]
theorem IsRvd.typeIs {a l:Addr} {i:Int} (x:IsRvd s.heap a l i):s.TypeIs (.ref a) "reversed":=let ⟨o,ho,hc,_⟩:=x;⟨o,ho,hc⟩
theorem IsRvd.at {h h':Heap} {a l:Addr} {i:Int} (x:IsRvd h a l i) (e:∀ o,h.get? a=some o->h'.get? a=some o):IsRvd h' a l i:=let ⟨o,ho,r⟩:=x;⟨o,e _ ho,r⟩
theorem Ko {l:Addr} {items:Array Value} {Q₁:Value->Shared->Prop} (hl:IsTup s.heap l items) (hz:items.size < 2 ^ 62)
  (h:∀ k,Q₁ (.ref s.heap.objs.size) {s with heap:=s.heap.push (qN l ((items.size:Int) - 1)),toks:=k}):
  codeAny (model prog w) A (.call (.builtin "reversed.__new__") ⟨[.type "reversed",.ref l],[]⟩) (wants Q₁ E) s:=by
 refine codeAny_of_tree ?_
 show wpAny _ A.in1 (do checkBuiltinCall "reversed.__new__" ⟨[.type "reversed",.ref l],[]⟩;again (.builtin "reversed.__new__" ⟨[.type "reversed",.ref l],[]⟩)) _ _ s
 refine Xi (Y5 (F.newCall_reversed_1 _) (Xl ⟨Z9 F.plain_reversed_new _,codeAny_builtin F.entry_reversed_new ?_⟩))
 rw [ZZ F.plain_reversed_new _]
 unfold Builtin.«reversed.__new__»
 refine Xi (Y5 (newClass_reversed _) ?_)
 try dsimp only
 refine Xi (Y5 (a:=()) (by first | rfl | kernel_rfl) ?_)
 refine Xi (Y5 (a:=()) (by first | rfl | kernel_rfl) ?_)
 try dsimp only
 refine Xi (ZL hl.typeIs tK ?_)
 try dsimp only
 refine Xi ?_
 refine Xi (wpAny_isInstance hl.typeIs sub_tuple_dict ?_)
 rw [if_neg (by decide)]
 refine Xi (ZL hl.typeIs F.slot_tuple_getitem.lookup ?_)
 dsimp only
 rw [if_pos (by trivial)]
 refine Xl ?_
 rw [if_neg (by decide)]
 refine Xi (len_tuple hl (by omega) ?_)
 refine Xi (Y5 (a:=some ((items.size:Nat):Int)) rfl ?_)
 dsimp only
 refine Xi ?_
 unfold Builtin.SmallTypes.newRecord
 refine YB ?_
 exact Xl (h _)
theorem Kp {l:Addr} {items:Array Value} {Q:Value->Shared->Prop} (hl:IsTup s.heap l items) (hz:items.size < 2 ^ 62)
  (h:∀ k,Q (.ref s.heap.objs.size) {s with heap:=s.heap.push (qN l ((items.size:Int) - 1)),toks:=k}):wpAny (model prog w) A (call (.type "reversed") [.ref l]) Q E s:=by
 refine callType_codes qM (F.typeCall_reversed_1 _) F.entry_object_init (Ko (Q₁:=fun obj s₁=>obj= .ref s.heap.objs.size/\∃ k,s₁={s with heap:=s.heap.push (qN l ((items.size:Int) - 1)),toks:=k}) hl hz fun k=>⟨rfl,k,rfl⟩) ?_
 rintro obj s₁ ⟨rfl,k,rfl⟩
 have hT:Shared.TypeIs {s with heap:=s.heap.push (qN l ((items.size:Int) - 1)),toks:=k} (.ref s.heap.objs.size) "reversed":=⟨_,Xu _ rfl,rfl⟩
 exact ⟨hT,F.args_object_init_2 _ _,(object_init_meets qM.init.lookup qM.made (by decide)) prog w A.in1 _ _ ⟨hT,rfl,h k⟩⟩
theorem Kq {it l:Addr} {i:Nat} {items:Array Value} {x:Value} {Q:Option Value->Shared->Prop} (hit:IsRvd s.heap it l (i:Int)) (hl:IsTup s.heap l items) (hx:items[i]?=some x) (hz:items.size < 2 ^ 62)
  (hQ:∀ h' k,IsRvd h' it l ((i:Int) - 1)->Heap.SameBut it s.heap h'->Q (some x) {s with heap:=h',toks:=k}):wpAny (model prog w) A (pyNext (.ref it)) Q E s:=by
 obtain ⟨o,ho,hc,hd⟩:=id hit
 have hi:i < items.size:=(Array.getElem?_eq_some_iff.mp hx).1
 unfold pyNext
 refine Xi (gV (Zy (name:=Str.ofString "__next__") hit.typeIs iu
  (Z3 iu hit.typeIs o9 ?_ (qF _))))
 unfold Builtin.«reversed.__next__»
 refine Xi (Y5 (a:=(Value.ref it,[])) rfl ?_)
 try dsimp only
 refine Xi (Za ho hd (x:=.ref l) rfl ?_)
 refine Xi (Za ho hd (x:=rawInt (i:Int)) rfl ?_)
 show wpAny _ _ (if (i:Int) < 0 then _ else _) _ _ s
 rw [if_neg (by omega)]
 refine Xi (ZL hl.typeIs F.slot_tuple_getitem.lookup ?_)
 rw [if_neg (by decide)]
 refine Xi (wpAny_mkInt ?_)
 refine Xi (gV (getItem_tuple (j:=i) hl (by omega) (by omega) ?_ hx ?_))
 ·unfold seqIndex?
  simp
  omega
 dsimp only
 refine Xi (Za (s:={s with toks:=s.toks+1}) ho hd (x:=rawInt (i:Int)) rfl ?_)
 refine Xi (ZX (s:={s with toks:=s.toks+1}) ho hd (by simp) ?_)
 refine Xl ⟨x,rfl,Xl (hQ _ _ ?_ (Heap.SameBut.update ..))⟩
 exact ⟨_,Ys _ ho (ZQ (Zj hd _)),(Obj.cls_mapFields ..).trans hc,by
  rw [Zj hd];simp⟩
theorem Ov {it l:Addr} {Q:Option Value->Shared->Prop} (hh:A.handled=none) (hit:IsRvd s.heap it l (-1))
  (hQ:∀ h',Heap.ExtBut it s.heap h'->Q none {s with heap:=h'}):wpAny (model prog w) A (pyNext (.ref it)) Q E s:=by
 obtain ⟨o,ho,hc,hd⟩:=id hit
 unfold pyNext
 refine Xi (gV (Zy (name:=Str.ofString "__next__") hit.typeIs iu
  (Z3 iu hit.typeIs o9 ?_ (qF _))))
 unfold Builtin.«reversed.__next__»
 refine Xi (Y5 (a:=(Value.ref it,[])) rfl ?_)
 try dsimp only
 refine Xi (Za ho hd (x:=.ref l) rfl ?_)
 refine Xi (Za ho hd (x:=rawInt (-1)) rfl ?_)
 show wpAny _ _ (if (-1:Int) < 0 then _ else _) _ _ s
 rw [if_pos (by decide)]
 refine Xi (wpAny_rule ?_)
 refine Xi ?_
 refine Xi (ZX ho hd (by simp) ?_)
 have sb1:Heap.SameBut it s.heap (s.heap.update it (Obj.mapFields (·.setIfInBounds 1 (rawInt (-1))))):=Heap.SameBut.update ..
 have ho2:=Ys (Obj.mapFields (·.setIfInBounds 1 (rawInt (-1)))) ho (ZQ (Zj hd _))
 refine ZX ho2 (Zj hd _) (by simp) ?_
 have sb2:Heap.SameBut it (s.heap.update it (Obj.mapFields (·.setIfInBounds 1 (rawInt (-1))))) ((s.heap.update it (Obj.mapFields (·.setIfInBounds 1 (rawInt (-1))))).update it (Obj.mapFields (·.setIfInBounds 0 .none))):=Heap.SameBut.update ..
 have eb:Heap.ExtBut it s.heap ((s.heap.update it (Obj.mapFields (·.setIfInBounds 1 (rawInt (-1))))).update it (Obj.mapFields (·.setIfInBounds 0 .none))):=sb1.extBut.trans sb2.extBut
 show wpAny _ _ _ _ _ {s with heap:=((s.heap.update it (Obj.mapFields (·.setIfInBounds 1 (rawInt (-1))))).update it (Obj.mapFields (·.setIfInBounds 0 .none)))}
 generalize ((s.heap.update it (Obj.mapFields (·.setIfInBounds 1 (rawInt (-1))))).update it (Obj.mapFields (·.setIfInBounds 0 .none)))=h2 at eb ⊢
 refine Xi ?_
 show wpAny _ _ (newExc (.type "StopIteration") [] >>=_) _ _ _
 refine Xi ?_
 simp only [newExc,newTuple]
 refine Xi (YB ?_ (by size_fits))
 refine Xi (m:=firstArgMember _ _) (Y5 (a:=Value.none) (by first | rfl | (simp only [firstArgMember];rfl)) ?_)
 refine YB ?_ (by size_fits)
 simp only [raiseNew]
 refine Xi (wpAny_handled ?_)
 first | rw [show A.in1.handled=none from hh] | rw [hh]
 refine Xi (Xl (wpAny_throw ?_))
 refine Xi (wpAny_isInstance (T:="StopIteration") (b:=true) ⟨_,Xu _ rfl,rfl⟩ isSubtype_stop ?_)
 exact Xl (hQ _ ((eb.push _).push _))
theorem Aq {it l:Addr} {i:Int} {Q:Value->Shared->Prop} (hit:IsRvd s.heap it l i) (h:Q (.ref it) s):wpAny (model prog w) A (pyIter (.ref it)) Q E s:=by
 refine wpAny_pyIter_slot hit.typeIs qG (Z3 qG hit.typeIs vV ?_ (wJ _))
 show wpAny _ _ (ret (.ref it)) _ _ s
 exact Xl ⟨_,rfl,"reversed",_,hit.typeIs,iu.lookup,h⟩
end
def Ve (K:W.Frag) (a:Addr) (n:Nat):It:=
 ⟨fun i H=>i < n/\n < 2 ^ 62/\∃ xs,SqT K H a xs/\xs.length=n,
  fun i H v H'=>H'=H/\∀ xs,SqT K H a xs->xs[n - 1 - i]?=some v,
  fun i _=>i=n⟩
theorem Kr {P:Program} {w:World} {K:W.Frag} {tg:Expr} {n:Nat} {it a:Addr} (hai:a≠it):
  Turn P w K tg (Ve K a n) [it] it (fun i h=>i<=n/\IsRvd h it a ((n:Int) - 1 - (i:Int))) where
 mem:=by simp
 obj:=fun i h st c hc=>by
  obtain ⟨_,⟨o1,e1,c1,d1⟩⟩:=st
  have e:c=it:=by simpa using hc
  subst e
  exact ⟨_,e1,fun v z=>by rw [d1] at z;cases z⟩
 keep:=fun i h h' st kk=>⟨st.1,st.2.at fun o q=>kk it (by simp) o q⟩
 item:=by
  intro X hP hw hK hc i pins s U H E I hf st hg
  subst hP hw hK
  obtain ⟨hi,h1⟩:=st
  obtain ⟨hlt,h62,xs,hq,hlen⟩:=hg
  obtain ⟨its,rv,p,_⟩:=I.tuple hq
  have l1:=rv.length
  obtain ⟨x,hx⟩:∃ x,xs[n - 1 - i]?=some x:=⟨_,Xk (by omega)⟩
  obtain ⟨u,hu,ru⟩:=rv.get hx
  obtain ⟨f0,f1,f2,f3,f4,f5⟩:=hf it (by simp)
  have e:(n:Int) - 1 - (i:Int)=((n - 1 - i:Nat):Int):=by omega
  rw [e] at h1
  refine Kq h1 p (x:=u) (by simpa using hu) (by simp;omega) fun h' k st' sb=>?_
  have I1:Inv X pins U H {s with heap:=h',toks:=k}:=I.turned (t':=k) (fun b o hb e=>(sb.2 b hb).trans e) f0 f1 f3 f4 f5
  obtain ⟨o,eo,c,d⟩:=id st'
  refine ⟨u,rfl,xg (s:={s with heap:=h',toks:=k}) eo c d (by decide) ⟨x,H,I1,ru,⟨rfl,fun ys hy=>by rw [I.tuple_inj hy hq];exact hx⟩,⟨hlt,?_⟩,fun b hb=>(hf b hb).1⟩⟩
  have e2:((n - 1 - i:Nat):Int) - 1=(n:Int) - 1 - ((i+1:Nat):Int):=by omega
  rw [← e2]
  exact st'
 done:=by
  intro X hP hw hK hc i pins s U H E I hf st hg
  subst hP hw hK
  obtain ⟨hi,h1⟩:=st
  have hin:i=n:=hg
  subst hin
  rw [show (i:Int) - 1 - (i:Int)= -1 by omega] at h1
  obtain ⟨f0,f1,f2,f3,f4,f5⟩:=hf it (by simp)
  exact Ov (I.ok.hd hc) h1 fun h' eb=>⟨rfl,I.turned (t':=s.toks) (fun b o hb e=>eb b o hb e) f0 f1 f3 f4 f5⟩
 self:=fun _ _ _ _ _ st h=>Aq st.2 h
def QG (K:W.Frag) (ta:TE):TI:=fun U H R=>ta U H fun x H1=>(∃ l xs,x= .ref l/\SqL K H1 l xs/\R (Vd K l xs.length) H1)\/∃ l xs,x= .ref l/\SqT K H1 l xs/\xs.length < 2 ^ 62/\R (Ve K l xs.length) H1
theorem Ow {X:Cx} {K:W.Frag} {a tg:Expr} {ta:TE} {p pos:Pos} (hK:X.K=K) (hg:Gl X "reversed") (hm:X.mg "reversed"=none) (ha:JE X a ta) (h:autoParam (notStar a=true) L2.auto4._auto_1):
  JI X tg (.Call (.Name "reversed" p) [a] [] pos) (QG K ta):=⟨by
 subst hK
 intro pins s U H R I hq
 refine Call_ (jd I hg hm uh (XS (arg1 h (d9 (ha.run pins s U H _ I hq) fun u s1 qq0=>?_)) (bJ h) rfl))
 obtain ⟨x,H1,I1,rx,hx⟩:=qq0
 rcases hx with ⟨l,xs,ex,hx,q⟩ | ⟨l,xs,ex,hx,h62,q⟩
 ·subst ex
  cases rx
  obtain ⟨its,rv,ht,hz⟩:=I1.list hx
  have hlen:=rv.length
  have lt:l < s1.heap.objs.size:=by obtain ⟨o,ho,_⟩:=ht.isList;exact Xp ho
  refine call_reversed_list ht.isList ?_
  have e0:(s1.heap.push (PySem.revObj l ((its.toArray.size:Int) - 1))).get? s1.heap.objs.size=some (PySem.revObj l ((its.toArray.size:Int) - 1)):=Xu _ rfl
  have z2:(s1.heap.push (PySem.revObj l ((its.toArray.size:Int) - 1))).IsRevIter s1.heap.objs.size l ((xs.length:Int) - 1 - ((0:Nat):Int)):=⟨_,e0,rfl,by
   show Data.fields #[.ref l,rawInt ((its.toArray.size:Int) - 1)]=_
   rw [show ((its.toArray.size:Int) - 1)=(xs.length:Int) - 1 - ((0:Nat):Int) by rw [Xv];omega]⟩
  refine wpAny_pyIter_revIter z2 ?_
  refine ⟨s1.heap.objs.size,[s1.heap.objs.size],_,_,H1,rfl,I1.kept (t':=s1.toks) fun b o q=>Xn _ q,Km (n:=xs.length) (XN lt),⟨YG _,z2⟩,fun b hb=>?_,q⟩
  have e:b=s1.heap.objs.size:=by simpa using hb
  subst e
  exact I1.fpOk (Xo _) (I1.hok.fresh (Xo _))
 ·subst ex
  cases rx
  obtain ⟨its,rv,ht,hz⟩:=I1.tuple hx
  have hlen:=rv.length
  have lt:l < s1.heap.objs.size:=by obtain ⟨o,ho,_⟩:=id ht;exact Xp ho
  refine Kp ht (by simp;omega) fun k=>?_
  have e0:(s1.heap.push (qN l ((its.toArray.size:Int) - 1))).get? s1.heap.objs.size=some (qN l ((its.toArray.size:Int) - 1)):=Xu _ rfl
  have z2:IsRvd (s1.heap.push (qN l ((its.toArray.size:Int) - 1))) s1.heap.objs.size l ((xs.length:Int) - 1 - ((0:Nat):Int)):=⟨_,e0,rfl,by
   show Data.fields #[.ref l,rawInt ((its.toArray.size:Int) - 1)]=_
   rw [show ((its.toArray.size:Int) - 1)=(xs.length:Int) - 1 - ((0:Nat):Int) by rw [Xv];omega]⟩
  refine Aq z2 ?_
  refine ⟨s1.heap.objs.size,[s1.heap.objs.size],_,_,H1,rfl,I1.kept (t':=k) fun b o q=>Xn _ q,Kr (n:=xs.length) (XN lt),⟨YG _,z2⟩,fun b hb=>?_,q⟩
  have e:b=s1.heap.objs.size:=by simpa using hb
  subst e
  exact I1.fpOk (Xo _) (I1.hok.fresh (Xo _))⟩
section
variable {K:W.Frag} {U:St} {H:Hp}
theorem Ks {ta:TE} {R:It->Hp->Prop} (h:ta U H fun x H1=>(∃ l xs,x= .ref l/\SqL K H1 l xs/\R (Vd K l xs.length) H1)\/∃ l xs,x= .ref l/\SqT K H1 l xs/\xs.length < 2 ^ 62/\R (Ve K l xs.length) H1):QG K ta U H R:=h
theorem Ox {a:Addr} {xs:List V} {g:TG} {tb:TS} {D:Ends} (Pv:Nat->St->Hp->Prop) (h0:Pv 0 U H) (hl:∀ i U H,i<=xs.length->Pv i U H->SqL K H a xs)
  (hs:∀ i x U H,i < xs.length->xs[xs.length - 1 - i]?=some x->Pv i U H->g x U H fun σ2 H2=>tb {D with nx:=Pv (i+1),ct:=Pv (i+1),bk:=D.nx} σ2 H2) (hd:∀ U H,Pv xs.length U H->D.nx U H):
  ∃ W:Nat->Nat->St->Hp->Prop,(∃ m,W 0 m U H)/\∀ i m U H,W i m U H->
   ((Vd K a xs.length).stop i H/\D.nx U H)\/((Vd K a xs.length).go i H/\∃ N:St->Hp->Prop,(∀ U' H',N U' H'->∃ m',m' < m/\W (i+1) m' U' H')/\∀ x H',(Vd K a xs.length).yld i H x H'->g x U H' fun σ2 H2=>tb {D with nx:=N,ct:=N,bk:=D.nx} σ2 H2):=by
 refine ⟨fun i m U H=>m=xs.length - i/\i<=xs.length/\Pv i U H,⟨xs.length,by simp,YG _,h0⟩,?_⟩
 rintro i m U H ⟨rfl,hi,p⟩
 have hq:=hl i U H hi p
 by_cases hlt:i < xs.length
 ·refine .inr ⟨⟨hlt,xs,hq,rfl⟩,Pv (i+1),fun U' H' h=>⟨xs.length - (i+1),by omega,rfl,by omega,h⟩,fun x H' y=>?_⟩
  obtain ⟨rfl,hy⟩:=y
  exact hs i x U _ hlt (hy xs hq) p
 ·obtain rfl:i=xs.length:=by omega
  exact .inl ⟨rfl,hd U H p⟩
theorem Oz {a:Addr} {xs:List V} {g:TG} {tb:TS} {D:Ends} (h62:xs.length < 2 ^ 62) (Pv:Nat->St->Hp->Prop) (h0:Pv 0 U H) (hl:∀ i U H,i<=xs.length->Pv i U H->SqT K H a xs)
  (hs:∀ i x U H,i < xs.length->xs[xs.length - 1 - i]?=some x->Pv i U H->g x U H fun σ2 H2=>tb {D with nx:=Pv (i+1),ct:=Pv (i+1),bk:=D.nx} σ2 H2) (hd:∀ U H,Pv xs.length U H->D.nx U H):
  ∃ W:Nat->Nat->St->Hp->Prop,(∃ m,W 0 m U H)/\∀ i m U H,W i m U H->
   ((Ve K a xs.length).stop i H/\D.nx U H)\/((Ve K a xs.length).go i H/\∃ N:St->Hp->Prop,(∀ U' H',N U' H'->∃ m',m' < m/\W (i+1) m' U' H')/\∀ x H',(Ve K a xs.length).yld i H x H'->g x U H' fun σ2 H2=>tb {D with nx:=N,ct:=N,bk:=D.nx} σ2 H2):=by
 refine ⟨fun i m U H=>m=xs.length - i/\i<=xs.length/\Pv i U H,⟨xs.length,by simp,YG _,h0⟩,?_⟩
 rintro i m U H ⟨rfl,hi,p⟩
 have hq:=hl i U H hi p
 by_cases hlt:i < xs.length
 ·refine .inr ⟨⟨hlt,h62,xs,hq,rfl⟩,Pv (i+1),fun U' H' h=>⟨xs.length - (i+1),by omega,rfl,by omega,h⟩,fun x H' y=>?_⟩
  obtain ⟨rfl,hy⟩:=y
  exact hs i x U _ hlt (hy xs hq) p
 ·obtain rfl:i=xs.length:=by omega
  exact .inl ⟨rfl,hd U H p⟩
end
end L2
namespace L2
open PySem PySem.W PySem.Spec PyProof.Rows
end L2
namespace L2
open PySem PySem.Spec PyProof.Rows
end L2
namespace HT
open PySem PySem.Spec PyProof.Rows
section
variable {prog:Program} {w:World} {A:Around} {E:Value->Shared->Prop} {s:Shared}
theorem getItem_tuple_whole {t sl:Addr} {items:Array Value} {vl vu:Value} {lo hi:Option Int} {Q:Value->Shared->Prop} (ht:IsTup s.heap t items) (hs:s.heap.IsSliceOf sl vl vu .none) (pl:IsPart vl lo) (pu:IsPart vu hi)
  (hw:sIx items.size 0 lo=0/\sIx items.size items.size hi=items.size) (h:Q (.ref t) s):wpAny (model prog w) A (getItem (.ref t) (.ref sl)) Q E s:=by
 obtain ⟨os,hos,hcs,hds⟩:=id hs
 have hTs:s.TypeIs (.ref sl) "slice":=⟨os,hos,hcs⟩
 unfold getItem
 try with_reducible refine Yl ?_
 first | refine Xi (Xl ?_) | skip
 refine Xi (wpAny_sequenceKey ht.typeIs (by decide) ?_)
 refine Xi (Zy (name:=Str.ofString "__getitem__") ht.typeIs Y6
  (Z3 Y6 ht.typeIs entry_tuple_getitem ?_ (args_tuple_getitem _ _)))
 show wpAny _ _ (Builtin.Tuple.tupleItemsOf (.ref t) >>=_) _ _ s
 refine Xi (tupleItemsOf_ ht ?_)
 refine Xi (wpAny_typeOf hTs ?_)
 rw [if_pos (by decide)]
 refine Xi (mU hs pl pu ?_)
 have hyes:((((sIx items.size 0 lo:Nat):Int) == 0 && (1:Int) == 1 && (sIx items.size items.size hi - sIx items.size 0 lo) == items.size)=true):=by
  rw [hw.1,hw.2];simp
 show wpAny _ _ (if (((sIx items.size 0 lo:Nat):Int) == 0 && (1:Int) == 1 && (sIx items.size items.size hi - sIx items.size 0 lo) == items.size)=true then _ else _) _ _ s
 rw [if_pos hyes]
 unfold Builtin.Tuple.tupleIsExact
 refine Xi (Xi (wpAny_typeOf ht.typeIs (Xl ?_)))
 rw [if_pos (by decide)]
 exact Xi (wpAny_rule (Xl ⟨_,rfl,Xl h⟩))
end
end HT
namespace L2
open PySem PySem.Spec PyProof.Rows
section
variable {X:Cx}
def Wt (K:W.Frag):V->Option Int->Option Int->Hp->VK->Prop:=fun x lo hi H Q=>∃ a xs,x= .ref a/\SqT K H a xs/\(HT.sIx xs.length 0 lo=0/\HT.sIx xs.length xs.length hi=xs.length)/\Q (.ref a) H
theorem OD:SlR X (Wt X.K):=by
 intro pins s U H x v vl vu lo hi sl Q I rx hs pl pu h
 obtain ⟨a,xs,rfl,hx,hw,q⟩:=h
 cases rx
 obtain ⟨its,r,ht,hz⟩:=I.tuple hx
 have hlen:its.toArray.size=xs.length:=by rw [Xv];exact r.length.symm
 refine ⟨"tuple",_,PyProof.Rows.slot_tuple_getitem.lookup,ht.typeIs,?_⟩
 exact HT.getItem_tuple_whole ht hs pl pu (by rw [hlen];exact hw) ⟨.ref a,H,I,rfl,q⟩
def Wu (K:W.Frag):V->Option Int->Option Int->Hp->VK->Prop:=fun x lo hi H Q=>V0 K x lo hi H Q\/Wt K x lo hi H Q
theorem rR {K:W.Frag} (hK:X.K=K):SlR X (Wu K):=by
 subst hK
 exact Jy.or OD
end
section
variable {H:Hp} {Q:VK} {K:W.Frag} {p:Addr} {xs:List V} {lo hi:Option Int}
theorem yR {x:Str} (hz:x.length<=sizeLine) (h:Q (.str (Txt.slice x lo hi)) H):Wu K (.str x) lo hi H Q:=.inl (V7 hz h)
end
theorem vW {xs:List V} {k:Nat}:oW xs (some (k:Int)) none=xs.drop k:=by
 unfold oW
 rw [HT.sIx_none,HT.sIx_nat]
 by_cases h:k<=xs.length
 ·rw [ZP h,YC (by rw [Zf];omega)]
 ·rw [Z5 (by omega),ZD (by omega),ZD (by omega)];simp
theorem Ar {xs:List V} {k:Nat}:oW xs none (some (k:Int))=xs.take k:=by
 unfold oW
 rw [HT.sIx_none,HT.sIx_nat,List.drop_zero,Nat.sub_zero]
 by_cases h:k<=xs.length
 ·rw [ZP h]
 ·rw [Z5 (by omega),YC (by omega),YC (by omega)]
section
variable {X:Cx} {K:W.Frag} {a b e f o:Expr} {ta tb tc:TE} {pos apos cpos:Pos} {H:Hp} {Q:VK} {U:St}
theorem Ua (hu:X.A.units+64 < cLine) (ha:JE X a ta) (hb:JE X b tb) (h:autoParam (oZ b=true) L2.auto4._auto_1):JE X (.Subscript a b pos) (Jp ta tb):=⟨Nr (by omega) ha.run hb.run (pix h)⟩
theorem Ku (h:ta U H fun x H1=>tb U H1 fun y H2=>∃ a v,x= .ref a/\DGet H2 a y (some v)/\Q v H2):Jp ta tb U H Q:=h
end
structure lY (K:W.Frag) (mg:Str->Option Value) (xs:List Str) (m qual:Str) (st:Stmt):Prop where
 ex:∃ f fd,(∀ x∈xs,Meth K (aM mg x) m f)/\Fun K m qual st f fd
def Av (P:Program) (w:World) (K:W.Frag) (mg:Str->Option Value) (base:Heap) (k:Nat) (xs:List Str) (m:Str) (ps:List Str) (sp:Sp):Prop:=
 ∃ f fd,(∀ x∈xs,Meth K (aM mg x) m f)/\Binds K fd ps []/\FnOk P w K mg base (GX P w) k f fd ps sp
section
variable {P:Program} {w:World} {K:W.Frag} {mg:Str->Option Value} {base:Heap}
theorem Hj {xs:List Str} {m qual:Str} {st:Stmt} {N ps:List Str} {k:Nat} {sp:Sp} (D:lY K mg xs m qual st) (S:aF N ps (aB st))
  (hb:∀ (kV doc pm:Value) (an:Option Addr) (cdv ct:Value) (us:List Value),us.length=ps.length->bindArgs (PySem.W.fnOf m qual (dZ st) (bI st) (aB st) .none kV doc pm an cdv ct) ⟨us,[]⟩=pure (ps.zip us))
  (len:∀ vs H Q E,sp vs H Q E->vs.length=ps.length)
  (hbody:∀ (f:Addr) (cdv:Value) (A:Around) (outer:List Env) (s:Shared) (H:Hp) (vs:List V) (Q:VK) (E:XK),Room k (A.deeper (envOfC qual (aB st) s.heap.objs.size f cdv))->sp vs H Q E->
   ∃ t,JB (oV (GX P w) P w K mg base N qual (aB st) f cdv A outer s H E) (bI st) t/\t {nx:=fun _ H'=>Q .non H',rt:=Q} (start N vs) H):Av P w K mg base (k+1) xs m ps sp:=by
 obtain ⟨f,fd,hm,F⟩:=D.ex
 refine ⟨f,fd,hm,F.binds hb,?_⟩
 obtain ⟨oc,od,kV,doc,pm,an,cdv,ct,osl,rfl,lk,hcd⟩:=F.ex
 exact zN lk hcd S len fun A outer s H vs Q E hr h=>let ⟨t,j,q⟩:=hbody f cdv A outer s H vs Q E hr h;⟨t,j.run,q⟩
end
def Kv (mg:Str->Option Value) (xs:List Str) (m:Str) (sp:Sp) (R:St->XK) (ta:TE) (t:TA):TE:=fun U H Q=>ta U H fun x H1=>∃ a y dx fs,x= .ref a/\y∈xs/\H1 a=some (.ins (aM mg y) dx fs)/\fs.lookup m=none/\t U H1 fun vs H2=>sp (x :: vs) H2 Q (R U)
def QH (sp:Sp) (R:St->XK) (t:TA):TE:=fun U H Q=>t U H fun vs H1=>sp vs H1 Q (R U)
def Xe (K:W.Frag) (mg:Str->Option Value) (xs:List Str):Prop:=∀ x∈xs,Cls K (aM mg x)
structure Ez (K:W.Frag) (mg:Str->Option Value) (x m qual:Str) (st:Stmt):Prop where
 at_:mg x=some (.ref (aM mg x))
 sp:PySem.W.specialIn K (.ref (aM mg x)) "__getattribute__"=some (some (.builtin "type.__getattribute__"))
 rd:PySem.W.readsIn K (aM mg x) (.type "type")=true
 ex:∃ f fd,PySem.W.findCls K (.ref (aM mg x)) (.type "type") m=some (.val (.ref f))/\PySem.W.keepIn K (.ref f)=true/\Fun K m qual st f fd
theorem Wv {K:W.Frag} {mg:Str->Option Value} {h:Heap} (X:K.In h) (G:h.Ns mainGlobals mg) {x m qual:Str} {C f:Addr} {st:Stmt} {oc:Value} {od an:Option Addr} {osl:Array (Option Value)} {kV doc pm cdv ct:Value}
  (a:PySem.W.nsIn K mainGlobals x=some (some (.ref C))) (s:PySem.W.specialIn K (.ref C) "__getattribute__"=some (some (.builtin "type.__getattribute__"))) (r:PySem.W.readsIn K C (.type "type")=true)
  (i:PySem.W.findCls K (.ref C) (.type "type") m=some (.val (.ref f)))
  (l:K.lookup f=some ⟨oc,od,.func (PySem.W.fnOf m qual (dZ st) (bI st) (aB st) .none kV doc pm an cdv ct),osl⟩) (c:PySem.W.codeIn K cdv qual=true) (k:PySem.W.keepIn K (.ref f)=true):Ez K mg x m qual st:=by
 have e0:=Yt X G a
 have e:=d8 e0
 exact ⟨by rw [e];exact e0,by rw [e];exact s,by rw [e];exact r,f,_,by rw [e];exact i,k,vq l c k⟩
def Ub (P:Program) (w:World) (K:W.Frag) (mg:Str->Option Value) (base:Heap) (k:Nat) (x m:Str) (ps:List Str) (sp:Sp):Prop:=
 mg x=some (.ref (aM mg x))/\PySem.W.specialIn K (.ref (aM mg x)) "__getattribute__"=some (some (.builtin "type.__getattribute__"))/\PySem.W.readsIn K (aM mg x) (.type "type")=true/\
 ∃ f fd,PySem.W.findCls K (.ref (aM mg x)) (.type "type") m=some (.val (.ref f))/\PySem.W.keepIn K (.ref f)=true/\Binds K fd ps []/\FnOk P w K mg base (GX P w) k f fd ps sp
section
variable {P:Program} {w:World} {K:W.Frag} {mg:Str->Option Value} {base:Heap}
theorem hasC {x m qual:Str} {st:Stmt} {N ps:List Str} {k:Nat} {sp:Sp} (D:Ez K mg x m qual st) (S:aF N ps (aB st))
  (hb:∀ (kV doc pm:Value) (an:Option Addr) (cdv ct:Value) (us:List Value),us.length=ps.length->bindArgs (PySem.W.fnOf m qual (dZ st) (bI st) (aB st) .none kV doc pm an cdv ct) ⟨us,[]⟩=pure (ps.zip us))
  (len:∀ vs H Q E,sp vs H Q E->vs.length=ps.length)
  (hbody:∀ (f:Addr) (cdv:Value) (A:Around) (outer:List Env) (s:Shared) (H:Hp) (vs:List V) (Q:VK) (E:XK),Room k (A.deeper (envOfC qual (aB st) s.heap.objs.size f cdv))->sp vs H Q E->
   ∃ t,JB (oV (GX P w) P w K mg base N qual (aB st) f cdv A outer s H E) (bI st) t/\t {nx:=fun _ H'=>Q .non H',rt:=Q} (start N vs) H):Ub P w K mg base (k+1) x m ps sp:=by
 obtain ⟨f,fd,hm,kp,F⟩:=D.ex
 refine ⟨D.at_,D.sp,D.rd,f,fd,hm,kp,F.binds hb,?_⟩
 obtain ⟨oc,od,kV,doc,pm,an,cdv,ct,osl,rfl,lk,hcd⟩:=F.ex
 exact zN lk hcd S len fun A outer s H vs Q E hr h=>let ⟨t,j,q⟩:=hbody f cdv A outer s H vs Q E hr h;⟨t,j.run,q⟩
end
section
variable {X:Cx} {K:W.Frag} {k:Nat} {f C:Addr} {ps xs:List Str} {sp:Sp} {R:St->XK} {x m fn:Str} {p pos apos pos':Pos} {e o value:Expr} {es:List Expr} {ta tv:TE} {t:TA} {pins:List (Addr×Obj)} {U:St} {H:Hp} {s:Shared} {Q:VK} {us:List Value} {vs:List V} {mg:Str->Option Value}
theorem aV {pl:Sem Bool} (hmg:X.mg=mg) (he:JE X o ta) (c:Xe X.K X.mg xs) (F:Av X.prog X.w X.K X.mg X.base k xs m ps sp) (hr:Room k X.A) (hx:lC X R)
  (ht:eval (.Call (.Attribute o m apos) [] [] pos) X.env=(do
   let ov ← eval o X.env
   standAt apos.atName
   let (f,first) ← holding [ov] (getMethod ov m pl)
   callWith pos f first (backTo pos (starEach [] X.env)) (backToKw pos (keywordEach [] X.env))):=by rfl):
  JE X (.Call (.Attribute o m apos) [] [] pos) (Kv mg xs m sp R ta M6):=⟨by
 subst hmg
 obtain ⟨f,fd,hm,hb,F⟩:=F
 intro pins s U H Q I h
 refine PySem.W.methodCall_KW (pl:=pl) (d9 (he.run pins s U H _ I h) fun u s1 qq0=>?_) ht
 obtain ⟨x,H1,I1,rx,a,y,dx,fs,ex,hy,ea,l,q⟩:=qq0
 subst ex
 obtain rfl:u=Value.ref a:=rx
 refine BZ I1 ea (c y hy) (hm y hy) l ?_
 exact PySem.W.callWith_K0 (first:=[.ref a]) I1.kIn (hm y hy).kp (uX (us:=[.ref a]) (vs:=[.ref a]) F hr hb hx I1 (.cons rfl .nil) q)⟩
theorem vX {pl:Sem Bool} (F:Ub X.prog X.w X.K X.mg X.base k x m ps sp) (hr:Room k X.A) (hg:Gl X x) (hx:lC X R) (ha:JA X (e :: es) t) (hdb:(x == ("__debug__":Str))=false)
  (hs:autoParam ((e :: es).all notStar=true) L2.auto4._auto_1)
  (ht:eval (.Call (.Attribute (.Name x p) m apos) (e :: es) [] pos) X.env=(do
   let ov ← eval (.Name x p) X.env
   standAt apos.atName
   let (f,first) ← holding [ov] (getMethod ov m pl)
   callWith pos f first (backTo pos (starEach (e :: es) X.env)) (backToKw pos (keywordEach [] X.env))):=by rfl):
  JE X (.Call (.Attribute (.Name x p) m apos) (e :: es) [] pos) (QH sp R t):=⟨by
 have h1:notStar e=true:=by simp only [Yn,Xx] at hs;exact hs.1
 have h2:es.all notStar=true:=by simp only [Yn,Xx] at hs;exact hs.2
 obtain ⟨at_,sg,rd,f,fd,fc,kp,hb,F⟩:=F
 intro pins s U H Q I h
 refine PySem.W.methodCall_KW (pl:=pl) (lQ I hg at_ ?_ hdb) ht
 refine PySem.W.method_cls I.kIn sg (PySem.W.cls_value I.kIn rd fc rfl ?_)
 have I1:=I.tok (s.toks+1)
 refine Zi (first:=[]) (h₀:=X.base) I.ok.mod.kin kp (d9 (ha.run pos pins _ U H _ I1 h) fun us s2 ⟨vs,H2,I2,r,q2⟩=>⟨I2.kIn,?_⟩) (bJ h1) (mC h2)
 exact uX F hr hb hx I2 r q2⟩
end
section
variable {U:St} {H:Hp} {D:Ends} {Q:VK} {sp:Sp} {R:St->XK} {a:TA} {K:W.Frag} {xs:List Str} {mg:Str->Option Value} {ta tv:TE} {f m:Str}
theorem bV (h:ta U H fun x H1=>∃ b y dx fs,x= .ref b/\y∈xs/\H1 b=some (.ins (aM mg y) dx fs)/\fs.lookup m=none/\a U H1 fun vs H2=>sp (x :: vs) H2 Q (R U)):Kv mg xs m sp R ta a U H Q:=h
theorem dM (h:a U H fun vs H1=>sp vs H1 Q (R U)):QH sp R a U H Q:=h
end
def Ww (xs:Array Value) (c:Nat):Obj:={cls:=.type "list",dict:=none,data:=.seq xs c,slots:=#[]}
section
variable {prog:Program} {w:World} {A:Around} {R:Result->Shared->Prop} {I S:Addr} {fp wr:List Addr} {n:Nat} {P:Nat->Value->Prop} {St:Nat->Heap->Prop} {d:Value} {bt:Nat->Nat->Bool}
abbrev mdl (I S:Addr) (d:Value):Code:=.builtin "max.loop" ⟨[.ref I,.none,.ref S],[(Str.ofString "default",d)]⟩
theorem OJ (W:Walks prog w A.in1 I fp wr n P St) (hcmp:CmpOf prog w A.in1 .Gt P bt) (hSf:S ∉ fp):∀ (k j:Nat) (s:Shared) (v:Value) (c:Nat),j+k+1=n->St (j+1) s.heap->P (argBest bt j) v->s.heap.get? S=some (Ww #[v,v] c)->
  (∀ v h' tk,P (argBest bt (n - 1)) v->(∀ b o,b ∉ wr->b≠S->s.heap.get? b=some o->h'.get? b=some o)->R (.ok (.ret v)) {s with heap:=h',toks:=tk})->codeAny (model prog w) A (mdl I S d) R s:=by
 have hSw:S ∉ wr:=fun h=>hSf (W.sub _ h)
 have nm:(toString "max" ++ toString ".loop":String)="max.loop":=by decide
 intro k
 induction k with
 | zero=>
  intro j s v c e hst hv hS hR
  refine codeAny_builtin F.entry_max_loop ?_
  rw [ZZ Zg _]
  show wpAny _ A.in1 (seqItems? (.ref S) >>=_) _ _ s
  refine Xi (wpAny_seqItems hS rfl ?_)
  show wpAny _ A.in1 (tryCatch (pyNext (.ref I)) _ >>=_) _ _ s
  have e':j+1=n:=e
  refine Xi (Z2 (W.done s _ _ (e' ▸ hst) fun h' tk kp=>?_))
  refine Xi (m:=updateSeq S fun _=>#[]) ?_
  refine wpAny_updateSeq (kp S _ hSw hS) rfl (Xi (wpAny_letGo (Xl (hR v _ tk ?_ fun b o n1 n2 q=>?_))))
  ·rw [← e'];exact hv
  ·exact (X8 _ _ (Ne.symm n2)).trans (kp b o n1 q)
 | succ k ih=>
  intro j s v c e hst hv hS hR
  refine codeAny_builtin F.entry_max_loop ?_
  rw [ZZ Zg _]
  show wpAny _ A.in1 (seqItems? (.ref S) >>=_) _ _ s
  refine Xi (wpAny_seqItems hS rfl ?_)
  show wpAny _ A.in1 (tryCatch (pyNext (.ref I)) _ >>=_) _ _ s
  refine Xi (Z2 (W.item (j+1) s _ _ (by omega) hst fun u h' tk hu hst' kp=>?_))
  have hS':=kp S _ hSw hS
  show wpAny _ A.in1 (tryCatch (holding [u,u] (richCompare .Gt u v >>=_)) _ >>=_) _ _ _
  refine Xi (Z2 (Yl (Xi (hcmp (j+1) (argBest bt j) u v _ _ _ hu hv ?_))))
  refine Xi (Yl (YQ (Xi (wpAny_letGo (Xl ?_)))))
  have eb:argBest bt (j+1)=if bt (j+1) (argBest bt j) then j+1 else argBest bt j:=rfl
  cases hb:bt (j+1) (argBest bt j) with
  | true=>
   rw [hb,if_pos rfl] at eb
   rw [if_pos rfl]
   refine Xi (wpAny_updateSeq hS' rfl (Xi (wpAny_letGo ?_)))
   rw [nm]
   refine Xl ⟨Z9 Zg _,ih (j+1) _ u _ (by omega) (W.frame _ _ _ hst' fun b hf o q=>?_) (by rw [eb];exact hu) (Ys _ hS' rfl) fun v' h2 tk2 hv' k2=>hR v' h2 tk2 hv' fun b o n1 n2 q=>?_⟩
   ·exact (X8 _ _ (fun z:S=b=>hSf (z ▸ hf))).trans q
   ·exact k2 b o n1 n2 ((X8 _ _ (Ne.symm n2)).trans (kp b o n1 q))
  | false=>
   rw [hb,if_neg (by decide)] at eb
   rw [if_neg (by decide)]
   refine Xi (wpAny_letGo ?_)
   rw [nm]
   exact Xl ⟨Z9 Zg _,ih (j+1) _ v c (by omega) hst' (by rw [eb];exact hv) hS' fun v' h2 tk2 hv' k2=>hR v' h2 tk2 hv' fun b o n1 n2 q=>k2 b o n1 n2 (kp b o n1 q)⟩
theorem De (W:Walks prog w A.in1 I fp wr n P St) (hcmp:CmpOf prog w A.in1 .Gt P bt) (hSf:S ∉ fp) {s:Shared} {c:Nat} (hst:St 0 s.heap) (hS:s.heap.get? S=some (Ww #[] c))
  (h0:n=0->∀ h' tk,(∀ b o,b ∉ wr->b≠S->s.heap.get? b=some o->h'.get? b=some o)->R (.ok (.ret d)) {s with heap:=h',toks:=tk})
  (hR:0 < n->∀ v h' tk,P (argBest bt (n - 1)) v->(∀ b o,b ∉ wr->b≠S->s.heap.get? b=some o->h'.get? b=some o)->R (.ok (.ret v)) {s with heap:=h',toks:=tk}):codeAny (model prog w) A (mdl I S d) R s:=by
 have hSw:S ∉ wr:=fun h=>hSf (W.sub _ h)
 have nm:(toString "max" ++ toString ".loop":String)="max.loop":=by decide
 refine codeAny_builtin F.entry_max_loop ?_
 rw [ZZ Zg _]
 show wpAny _ A.in1 (seqItems? (.ref S) >>=_) _ _ s
 refine Xi (wpAny_seqItems hS rfl ?_)
 show wpAny _ A.in1 (tryCatch (pyNext (.ref I)) _ >>=_) _ _ s
 by_cases hn:n=0
 ·refine Xi (Z2 (W.done s _ _ (hn ▸ hst) fun h' tk kp=>?_))
  show wpAny _ A.in1 (rule _ >>=_) _ _ _
  exact Xi (wpAny_rule (Xl (h0 hn h' tk fun b o n1 _ q=>kp b o n1 q)))
 ·refine Xi (Z2 (W.item 0 s _ _ (by omega) hst fun u h' tk hu hst' kp=>?_))
  have hS':=kp S _ hSw hS
  show wpAny _ A.in1 (updateSeq S (fun _=>#[u,u]) >>=_) _ _ _
  refine Xi (wpAny_updateSeq hS' rfl ?_)
  rw [nm]
  refine Xl ⟨Z9 Zg _,OJ W hcmp hSf (n - 1) 0 _ u _ (by omega) (W.frame _ _ _ hst' fun b hf o q=>?_) hu (Ys _ hS' rfl) fun v' h2 tk2 hv' k2=>hR (by omega) v' h2 tk2 hv' fun b o n1 n2 q=>?_⟩
  ·exact (X8 _ _ (fun z:S=b=>hSf (z ▸ hf))).trans q
  ·exact k2 b o n1 n2 ((X8 _ _ (Ne.symm n2)).trans (kp b o n1 q))
theorem Hk (a v:Value):argsOk "max" ⟨[a],[(Str.ofString "default",v)]⟩:=by unfold argsOk;kernel_rfl
theorem Hl {E:Value->Shared->Prop} {s:Shared} {x:Value} {Q:Value->Shared->Prop} (h:wpAny (model prog w) A.in1 (pyIter x) (fun it s₂=>∃ I fp wr n P St bt,it= .ref I/\Walks prog w A.in1 I fp wr n P St/\St 0 s₂.heap/\(∀ b∈fp,b < s₂.heap.objs.size)/\CmpOf prog w A.in1 .Gt P bt/\
   (n=0->∀ h' tk,(∀ b o,b ∉ wr->s₂.heap.get? b=some o->h'.get? b=some o)->Q d {s₂ with heap:=h',toks:=tk})/\
   (0 < n->∀ v h' tk,P (argBest bt (n - 1)) v->(∀ b o,b ∉ wr->s₂.heap.get? b=some o->h'.get? b=some o)->Q v {s₂ with heap:=h',toks:=tk})) E s):
  wpAny (model prog w) A (call (.builtin "max") [x] [(Str.ofString "default",d)]) Q E s:=by
 have nm:(toString "max" ++ toString ".loop":String)="max.loop":=by decide
 refine kmk_tree F.kind_max F.plain_max F.entry_max (Hk _ _) ?_
 show wpAny _ A.in1 (Builtin.Builtins.bindParams "max" ["key","default"] 0 ⟨[],[(Str.ofString "default",d)]⟩ >>=_) _ _ s
 refine Xi (Y5 (show Builtin.Builtins.bindParams "max" ["key","default"] 0 ⟨[],[(Str.ofString "default",d)]⟩=pure [none,some d] from rfl) ?_)
 refine Xi (Xl ?_)
 refine Xi (X5 h (fun it s₂ h₂=>?_) fun _ _ e=>e)
 obtain ⟨I,fp,wr,n,P,St,bt,rfl,W,hst,hfp,hcmp,q0,q1⟩:=h₂
 refine Xi (YB ?_)
 have hSf:s₂.heap.objs.size ∉ fp:=fun hm=>Yz _ (hfp _ hm)
 rw [nm]
 have lt:∀ {b o},s₂.heap.get? b=some o->b≠s₂.heap.objs.size:=fun e=>XN (Xp e)
 exact Xl ⟨Z9 Zg _,De W hcmp hSf (W.frame _ _ _ hst fun b _ o e=>Xn _ e) (Xu _ rfl)
  (fun hn h' tk kp=>q0 hn h' tk fun b o n1 e=>kp b o n1 (lt e) (Xn _ e)) (fun hn v h' tk hv kp=>q1 hn v h' tk hv fun b o n1 e=>kp b o n1 (lt e) (Xn _ e))⟩
end
def Kw:V->V->Hp->VK->Prop:=fun x y H Q=>∃ (p:Addr) (ns:List Int),x= .ref p/\H p=some (.lst (ns.map V.int))/\(ns=[]->Q y H)/\∀ M,M∈ns->(∀ a∈ns,a<=M)->Q (.int M) H
def QJ (ta td:TE):TE:=fun U H Q=>ta U H fun x H1=>td U H1 fun y H2=>Kw x y H2 Q
section
variable {X:Cx} {pins:List (Addr×Obj)} {U:St} {H:Hp} {s:Shared} {Q:VK} {x:Str} {p pos kpos:Pos} {e dv:Expr} {ta td:TE}
theorem Ky {u ud:Value} {v y:V} (hc:X.calm=true) (I:Inv X pins U H s) (rv:RelV v u) (ry:RelV y ud) (h:Kw v y H Q):
  wpAny (model X.prog X.w) X.A (call (.builtin "max") [u] [(Str.ofString "default",ud)]) (EP X pins U Q) X.xe s:=by
 obtain ⟨p,ns,rfl,hp,q0,q1⟩:=h
 obtain rfl:u= .ref p:=rv
 obtain ⟨hz,its,n,rv,g⟩:=I.hok p _ hp
 have hi:IntsAre its ns:=intsAre_of rv
 have hl:=rv.length
 obtain ⟨ys,ey⟩:=hi.allInts.items
 have hn:=hi.numsOf
 have hL:s.heap.IsList p (intItems ys):=⟨_,g,rfl,n,by rw [← ey]⟩
 have en:ys.toList.map (·.1)=ns:=by rw [← nums_intItems,← ey,← hn]
 have el:ys.size=ns.length:=by rw [← en];simp
 have ez:(intItems ys).size=ys.size:=by simp [intItems]
 refine Hl (iter_intList hL fun s₂ e st hfp hlI=>?_)
 subst e
 refine ⟨_,_,_,_,_,_,_,rfl,Walks.list (A:=X.A.in1) (I.ok.hd hc) _ p hlI (intItems ys),st,hfp,CmpOf.ints_gt (numAt ys) (fun _ _=>intItems_at),fun h0 h' tk hk=>?_,fun h0 v h' tk hP hk=>?_⟩
 ·exact ⟨y,H,I.kept (old_kept hk),ry,q0 (List.eq_nil_of_length_eq_zero (by omega))⟩
 ·have hP':(intItems ys)[argBest (fun i j=>decide (numAt ys i > numAt ys j)) (ys.size - 1)]?=some v:=by rw [← ez];exact hP
  obtain ⟨t,rfl⟩:=intItems_at hP'
  obtain ⟨h1,h2⟩:=argBest_gt (numAt ys) (ys.size - 1)
  refine ⟨.int _,H,I.kept (old_kept hk),⟨t,rfl⟩,q1 _ ?_ fun a ha=>?_⟩
  ·rw [← en,numAt_eq];exact getD_mem (by rw [X4,Yb];omega)
  ·rw [← en] at ha
   obtain ⟨j,hj,rfl⟩:=mem_getD ha
   rw [X4,Yb] at hj
   rw [← numAt_eq];exact h2 j (by omega)
theorem Kz (hc:X.calm=true) (hg:Gl X "max") (hm:X.mg "max"=none) (ha:JE X e ta) (hd:JE X dv td) (h:autoParam (notStar e=true) L2.auto4._auto_1):
  JE X (.Call (.Name "max" p) [e] [⟨some "default",dv,kpos⟩] pos) (QJ ta td):=⟨by
 intro pins s U H Q I hq
 refine Yi (jd I hg hm (show bootBuiltins "max"=some (.builtin "max") from by trivial) ?_)
 refine PyProof.Rows.callWith_kw (arg1 h (d9 (ha.run pins s U H _ I hq) fun u s1 qq0=>?_)) (by rw [bJ h];rfl) (by rw [bJ h];rfl)
 obtain ⟨v,H1,I1,rv,q1⟩:=qq0
 refine wpAny_evalAll_cons (Xi (d9 (hd.run pins s1 U H1 _ I1 q1) fun ud s2 ⟨y,H2,I2,ry,q2⟩=>Xi (Z8 (Xl (wpAny_evalAll_nil ?_)))))
 exact Ky hc I2 rv ry q2⟩
end
section
variable {U:St} {H:Hp} {Q:VK} {ta td:TE}
theorem bW (h:ta U H fun x H1=>td U H1 fun y H2=>Kw x y H2 Q):QJ ta td U H Q:=h
end
structure ITxt (K:W.Frag) (mg:Str->Option Value) (x:Str):Prop where
 ha:PySem.W.findIn K (.ref (aM mg x)) "__class__"=some (some (.builtin "object.__class__"))
 hn:PySem.W.specialIn K (.builtin "object.__class__") "__get__"=some (some (.builtin "getset_descriptor.__get__"))
 htk:PySem.W.takesIn K (.builtin "object.__class__")=some true
 hm:PySem.W.mroIn K (aM mg x) (.type "object")=some true
theorem Aw {K:W.Frag} {mg:Str->Option Value} {h:Heap} (X:K.In h) (G:h.Ns mainGlobals mg) {x:Str} {C:Addr} (a:PySem.W.nsIn K mainGlobals x=some (some (.ref C)))
  (b:PySem.W.findIn K (.ref C) "__class__"=some (some (.builtin "object.__class__"))) (c:PySem.W.specialIn K (.builtin "object.__class__") "__get__"=some (some (.builtin "getset_descriptor.__get__")))
  (d:PySem.W.takesIn K (.builtin "object.__class__")=some true) (e:PySem.W.mroIn K C (.type "object")=some true):ITxt K mg x:=by
 have q:=d8 (Yt X G a)
 exact ⟨by rw [q];exact b,c,d,by rw [q];exact e⟩
theorem ITxt.ty {K:W.Frag} {mg:Str->Option Value} {x:Str} (i:ITxt K mg x) (cl:Cls K (aM mg x)) {H:Hp} {a dx:Addr} {fs:List (Str×V)} (h:H a=some (.ins (aM mg x) dx fs)):TyOf K H (.ref a) (.ref (aM mg x)):=.ins h cl i.ha i.hn i.htk i.hm
theorem lE {K:W.Frag} {mg:Str->Option Value} {h:Heap} (X:K.In h) (G:h.Ns mainGlobals mg) {x:Str} {C:Addr} {t:Value} {r:Option Bool} (a:PySem.W.nsIn K mainGlobals x=some (some (.ref C))) (o:PySem.W.kitOne K t (.ref C)=r):PySem.W.kitOne K t (.ref (aM mg x))=r:=by
 rw [d8 (Yt X G a)];exact o
def Wx:List V->Hp->(Int->Int->Nat->Prop)->Prop:=fun vs _ R=>∃ (lo:Int) (n:Nat),vs=[.int lo,.int (lo+n)]/\0<=lo/\lo<=1000000/\n<=1000000/\R lo 1 n
section
variable {X:Cx}
theorem vY {a b:Expr} {ta:TA} {p p2 p3 pos:Pos} (hc:X.calm=true) (hg:Gl X "list") (hm:X.mg "list"=none) (hg2:Gl X "range") (hm2:X.mg "range"=none) (ha:JA X [a,b] ta) (h:autoParam (notStar a=true) L2.auto4._auto_1) (h2:autoParam (notStar b=true) L2.auto4._auto_1):
  JE X (.Call (.Name "list" p) [.Call (.Name "range" p2) [a,b] [] p3] [] pos) (vQ Wx ta):=⟨by
 intro pins s U H Q I hq
 refine Yi (jd I hg hm jf (XS (arg1 rfl (Yi (jd I hg2 hm2 boot_range (XS (d9 (ha.run p3 pins s U H _ I hq) fun us s1 qq0=>?_) (bJ h) (by rw [bJ h2];rfl))))) rfl rfl))
 obtain ⟨vs,H1,I1,r1,q1⟩:=qq0
 obtain ⟨lo,n,rfl,h0,h1,hn,q⟩:=q1
 obtain ⟨u,w',rfl,⟨t,rfl⟩,⟨t',rfl⟩⟩:=vals2 r1
 exact call_range_2 (rQ hc I1 (small_one (by omega) (by omega) (by omega) (by omega)) (by rw [rangeSize_one];split <;> omega) hn q)⟩
end
section
variable {H:Hp}
theorem EY {lo hi:Int} {n:Nat} {R:Int->Int->Nat->Prop} (e:hi=lo+n) (h0:0<=lo) (h1:lo<=1000000) (hn:n<=1000000) (h:R lo 1 n):Wx [.int lo,.int hi] H R:=⟨lo,n,by rw [e],h0,h1,hn,h⟩
end
def QK (K:W.Frag):R2:=fun x y H Q=>∃ a b xs,x= .ref a/\y= .ref b/\SqL K H a xs/\SqL K H b xs/\(∀ v∈xs,jE v=true\/∃ r,v= .ref r)/\Q (.bl false) H
section
variable {X:Cx}
theorem O1 (hu:X.A.units < cLine):OpR X (compareOp .NotEq) (QK X.K):=by
 intro pins s U H x y v u Q I rx ry h
 obtain ⟨a,b,xs,rfl,rfl,ha,hb,fx,q⟩:=h
 cases rx
 cases ry
 obtain ⟨its,r1,p1,z1⟩:=I.list ha
 obtain ⟨jts,r2,p2,z2⟩:=I.list hb
 have l1:its.toArray.size=xs.length:=by simpa using r1.length.symm
 have l2:jts.toArray.size=xs.length:=by simpa using r2.length.symm
 refine SeqAt.RcNeAt.lists (e:=fun _=>true) p1.isList p2.isList (by rw [l1,l2]) hu (fun j h1 h2=>?_) X.prog X.w _ _ ?_
 ·have hj:j < xs.length:=by omega
  obtain ⟨u1,e1,q1⟩:=r1.get (Xk hj)
  obtain ⟨u2,e2,q2⟩:=r2.get (Xk hj)
  have f1:its.toArray[j]=u1:=by
   obtain ⟨_,z⟩:=Xm.mp e1
   simpa using z
  have f2:jts.toArray[j]=u2:=by
   obtain ⟨_,z⟩:=Xm.mp e2
   simpa using z
  rw [f1,f2]
  rcases fx _ (YF hj) with f | ⟨r,f⟩
  ·rw [← o8 f]
   exact qK q1 q2 f f
  ·rw [f] at q1 q2
   cases (show u1=Value.ref r from q1)
   cases (show u2=Value.ref r from q2)
   exact Zd _
 ·have e:(!((List.range its.toArray.size).all (fun _=>true)))=false:=by simp
  rw [e]
  exact ⟨.bl false,H,I,rfl,q⟩
def Wy (K:W.Frag) (r:Bool):R2:=fun x y H Q=>∃ a b xs ys,x= .ref a/\y= .ref b/\SqL K H a xs/\SqL K H b ys/\xs.length≠ys.length/\Q (.bl r) H
theorem O2 (hu:X.A.units < cLine):OpR X (compareOp .NotEq) (Wy X.K true):=by
 intro pins s U H x y v u Q I rx ry h
 obtain ⟨a,b,xs,ys,rfl,rfl,ha,hb,ne,q⟩:=h
 cases rx
 cases ry
 obtain ⟨its,r1,p1,z1⟩:=I.list ha
 obtain ⟨jts,r2,p2,z2⟩:=I.list hb
 have l1:its.toArray.size=xs.length:=by simpa using r1.length.symm
 have l2:jts.toArray.size=ys.length:=by simpa using r2.length.symm
 exact SeqAt.RcNeAt.lists_lengths p1.isList p2.isList (by rw [l1,l2];simpa using ne) hu X.prog X.w _ _ ⟨.bl true,H,I,rfl,q⟩
def Uc (K:W.Frag):R2:=fun x y H Q=>Ou K x y H Q\/QK K x y H Q\/Wy K true x y H Q
theorem nH {K:W.Frag} (hK:X.K=K) (hu:X.A.units+64 < cLine):OpR X (compareOp .NotEq) (Uc K):=by
 subst hK
 exact (T6 rfl hu).or ((O1 (YK (YL _ _) hu)).or (O2 (YK (YL _ _) hu)))
end
section
variable {K:W.Frag} {H:Hp} {Q:VK}
theorem yS {i j:Int} (h:Q (.bl (!decide (V.int i=V.int j))) H):Uc K (.int i) (.int j) H Q:=.inl (T7 h)
theorem yU {i j:Str} (h:Q (.bl (!decide (V.str i=V.str j))) H):Uc K (.str i) (.str j) H Q:=.inl (T8 h)
end
end L2
namespace L2
open PySem PySem.Spec PyProof.Rows
open PySem.Sem (wp)
open AutoSeq1 (wpAny_loadPart')
end L2
namespace L2
open PySem PySem.Spec PyProof.Rows
def Fb:V->List V->Hp->VK->Prop:=fun x vs H Q=>∃ l xs i y,x= .ref l/\vs=[.int (i:Nat),y]/\H l=some (.lst xs)/\i<=xs.length/\xs.length<=100000/\Q .non (upd H l (.lst (xs.take i ++ y :: xs.drop i)))
section
variable {X:Cx}
theorem Hn:MtM X "list.insert" Fb:=by
 intro pins s U H x vs v us Q I rx rv h
 obtain ⟨l,xs,i,y,rfl,rfl,hH,hi,hz,q⟩:=h
 have hs:200000<=sizeLine:=Nat.le_of_ble_eq_true rfl
 cases rx
 obtain ⟨u1,u2,rfl,ru1,ru2⟩:∃ u1 u2,us=[u1,u2]/\RelV (.int (i:Nat)) u1/\RelV y u2:=by
  cases rv with
  | cons a b=>
   cases b with
   | cons c d=>
    cases d
    exact ⟨_,_,rfl,a,c⟩
 obtain ⟨t,rfl⟩:=ru1
 obtain ⟨z,its,n,r,hl,e⟩:=I.lstM hH
 have hf:Builtin.List.listFitsIndex (i:Int)=true:=fitsIndex_both (by omega) (by omega)
 have hsz:its.toArray.size<=sizeLine:=by rw [Xv];omega
 obtain ⟨j,hj⟩:∃ j:Int,j=(i:Int):=⟨_,rfl⟩
 rw [← hj] at hf ⊢
 have hc0:¬(!Builtin.List.listFitsIndex j)=true:=by rw [hf];decide
 have hM:=AutoSeq1.list_insert_list_int_val_1 l its.toArray n j t u2 hc0 hsz
 refine call_meets F.slot_list_insert ⟨_,e,rfl⟩ F.entry_list_insert (F.args_list_insert_3 _ _ _) hM ⟨e,?_⟩
 clear hM
 refine ⟨.non,_,I.lset (its':=its.take i ++ u2 :: its.drop i) hH e ?_ ?_ ?_,rfl,q⟩
 ·have h0:¬ (j < 0):=by omega
  have h1:j.toNat=i:=by omega
  simp only [if_neg h0,h1,Xv]
  rw [ZP (by omega)]
  apply Array.ext'
  simp
  exact YC (by rw [Zf];omega)
 ·exact (r.take i).append (.cons ru2 (r.drop i))
 ·rw [Yr,Yy,Y9,Zf]
  omega
end
section
variable {H:Hp} {Q:VK}
theorem KC {l:Addr} {xs:List V} {i:Nat} {y:V} (hl:H l=some (.lst xs)) (hi:i<=xs.length) (hz:xs.length<=100000) (h:Q .non (upd H l (.lst (xs.take i ++ y :: xs.drop i)))):Fb (.ref l) [.int (i:Nat),y] H Q:=⟨l,xs,i,y,rfl,rfl,hl,hi,hz,h⟩
end
section
open PySem.SeqAt PySem.MeetsSeq PySem.MeetsSeq2 PySem.MeetsSeq3
open PySem.AutoSeq1 (wpAny_loadPart')
end
section
variable {X:Cx} {x:Str} {pos:Pos} {sc:Scope}
theorem ao (i:Nat) (h:autoParam (X.env.scope.names.lookup x=some .local) L2.auto7._auto_1) (hN:autoParam (X.N[i]?=some x) L2.auto4._auto_1) (hd:autoParam ((x == ("__debug__":Str))=false) L2.auto6._auto_1) (hcd:autoParam ((x == ("__classdict__":Str))=false) L2.auto6._auto_1):JE X (.Name x pos) (m8 i):=Cw i h hN rfl hd hcd
theorem lZ (i:Nat) (h:autoParam (X.env.scope.names.lookup x=some .cell) L2.auto7._auto_1) (hN:autoParam (X.N[i]?=some x) L2.auto4._auto_1) (hd:autoParam ((x == ("__debug__":Str))=false) L2.auto6._auto_1) (hcd:autoParam ((x == ("__classdict__":Str))=false) L2.auto6._auto_1):JE X (.Name x pos) (m8 i):=j_vC i h hN rfl hd hcd
theorem aR (h:autoParam (X.env.scope.names.lookup x=some .globalImplicit) L2.auto7._auto_1):Gl X x:=h
theorem eQ (h:autoParam (sc.names.lookup x=some .local) L2.auto7._auto_1):Loc sc x:=.inl h
theorem Vf (h:autoParam (sc.names.lookup x=some .cell) L2.auto7._auto_1):Loc sc x:=.inr h
end
theorem tL {K:W.Frag} {mg:Str->Option Value} {h:Heap} (X:K.In h) (G:h.Ns mainGlobals mg) {x1 x2 x3 x4 x5 m qual:Str} {C1 C2 C3 C4 C5 f:Addr} {st:Stmt} {oc:Value} {od an:Option Addr} {osl:Array (Option Value)} {kV doc pm cdv ct:Value}
  (a1:PySem.W.nsIn K mainGlobals x1=some (some (.ref C1))) (a2:PySem.W.nsIn K mainGlobals x2=some (some (.ref C2))) (a3:PySem.W.nsIn K mainGlobals x3=some (some (.ref C3))) (a4:PySem.W.nsIn K mainGlobals x4=some (some (.ref C4))) (a5:PySem.W.nsIn K mainGlobals x5=some (some (.ref C5)))
  (i1:PySem.W.findIn K (.ref C1) m=some (some (.ref f))) (i2:PySem.W.findIn K (.ref C2) m=some (some (.ref f))) (i3:PySem.W.findIn K (.ref C3) m=some (some (.ref f))) (i4:PySem.W.findIn K (.ref C4) m=some (some (.ref f))) (i5:PySem.W.findIn K (.ref C5) m=some (some (.ref f)))
  (n:PySem.W.isFn K (.ref f)=true)
  (l:K.lookup f=some ⟨oc,od,.func (PySem.W.fnOf m qual (dZ st) (bI st) (aB st) .none kV doc pm an cdv ct),osl⟩) (c:PySem.W.codeIn K cdv qual=true) (k:PySem.W.keepIn K (.ref f)=true):lY K mg [x1,x2,x3,x4,x5] m qual st:=by
 have e1:=d8 (Yt X G a1)
 have e2:=d8 (Yt X G a2)
 have e3:=d8 (Yt X G a3)
 have e4:=d8 (Yt X G a4)
 have e5:=d8 (Yt X G a5)
 refine ⟨f,_,fun x hx=>?_,vq l c k⟩
 simp only [Xr,Yd,or_false] at hx
 rcases hx with rfl | rfl | rfl | rfl | rfl
 ·rw [e1];exact ⟨i1,n,k⟩
 ·rw [e2];exact ⟨i2,n,k⟩
 ·rw [e3];exact ⟨i3,n,k⟩
 ·rw [e4];exact ⟨i4,n,k⟩
 ·rw [e5];exact ⟨i5,n,k⟩
theorem O3 {K:W.Frag} {mg:Str->Option Value} {x1 x2 x3 x4 x5:Str} (h1:jO K mg x1) (h2:jO K mg x2) (h3:jO K mg x3) (h4:jO K mg x4) (h5:jO K mg x5):Xe K mg [x1,x2,x3,x4,x5]:=fun x hx=>by
 simp only [Xr,Yd,or_false] at hx
 rcases hx with rfl | rfl | rfl | rfl | rfl
 ·exact h1.cl
 ·exact h2.cl
 ·exact h3.cl
 ·exact h4.cl
 ·exact h5.cl
section
open PySem.SeqAt PySem.MeetsSeq PySem.MeetsSeq2 PySem.MeetsSeq3
open PySem.AutoSeq1 (wpAny_loadPart')
end
structure OEq (K:W.Frag) (C:Addr):Prop where
 e:PySem.W.findIn K (.ref C) "__eq__"=some (some (.builtin "object.__eq__"))
 m:PySem.W.mroIn K C (.type "object")=some true
section
variable {prog:Program} {w:World} {A:Around} {E:Value->Shared->Prop} {s:Shared} {K:W.Frag} {x C:Addr}
theorem KD {ox:Obj} {od:Option Obj} {Q:Value->Shared->Prop} (X:K.In s.heap) (I:PySem.W.InstAt s.heap x ox C od) (c:OEq K C) (hu:A.units < cLine) (q:Q (.bool true) s):
  wpAny (model prog w) A (compareOp .Eq (.ref x) (.ref x)) Q E s:=by
 show wpAny _ _ (richCompare .Eq (.ref x) (.ref x)) _ _ _
 have sub:PySem.W.Looks (model prog w) s.heap (isInstance (.ref x) (.type "object")) true:=I.type.andThen (PySem.W.looks_mroIn X c.m)
 have call1:∀ {A:Around} {Q:Value->Shared->Prop},Q (.bool true) s->wpAny (model prog w) A (call (.builtin "object.__eq__") [.ref x,.ref x]) Q E s:=fun {A Q} q=>
  Zh (YX F.slot_object_eq.plain F.entry_object_eq (@PySem.W.check_slot (model prog w) _ _ s "object.__eq__" "object" "__eq__" (.ref x) [.ref x] [] _ (by trivial) (by trivial) sub (F.args_object_eq_2 _ _)
   (Xi (Y5 (show slotArgs "__eq__" 1 ⟨[.ref x,.ref x],[]⟩=pure (.ref x,[.ref x]) from rfl) (Xi (wpAny_isSame_ref_self (Xl q)))))))
 unfold richCompare
 refine Yl (Xi (wpAny_cRoomFor hu ?_))
 show wpAny _ _ (typeOf (.ref x) >>=_) _ _ _
 refine Xi (I.type.here (Xi (I.type.here ?_)))
 rw [if_neg (by simp)]
 refine Xi (Xl ?_)
 show wpAny _ _ (tryCompare (.ref x) (Str.ofString "__eq__") (.ref x) >>=_) _ _ _
 refine Xi ?_
 have fin:wpAny (model prog w) A (callSpecialIfBound? (.ref x) (Str.ofString "__eq__") [.ref x]) (fun r s'=>r=some (.bool true)/\Q (.bool true) s') E s:=by
  unfold callSpecialIfBound? bindSpecialIfBound? specialOf
  refine Yl (Xi (Xi (Xi (I.type.here ((YJ X c.e).here ?_)))))
  have hb:∀ {E:Value->Shared->Prop} {R:Option (Value×List Value)->Shared->Prop},R (some (.builtin "object.__eq__",[.ref x])) s->wpAny (model prog w) A (bindSpecial (.builtin "object.__eq__") (.ref x) >>=fun l=>pure (some l)) R E s:=fun r=>Xi (Y5 (F.slot_object_eq.bind (.ref x)) (Xl r))
  have go:wpAny (model prog w) A (call (.builtin "object.__eq__") ([.ref x] ++ [.ref x]) >>=fun v=>pure (some v)) (fun r s'=>r=some (.bool true)/\Q (.bool true) s') E s:=Xi (call1 (Xl ⟨rfl,q⟩))
  refine Xi (wpAny_askSetting ?_)
  split
  ·exact hb go
  ·exact Z2 (hb go)
 unfold tryCompare
 refine Xi (X5 fin (fun r s' ⟨e,q'⟩=>?_) fun _ _ h=>h)
 subst e
 exact Xl (Xl q')
end
def Wz (K:W.Frag):R2:=fun x y H Q=>(∃ a C dx fs,x= .ref a/\y= .ref a/\H a=some (.ins C dx fs)/\OEq K C/\Q (.bl true) H)\/
 ∃ a b xs,x= .ref a/\y= .ref b/\SqL K H a xs/\SqL K H b xs/\(∀ v∈xs,jE v=true\/∃ r,v= .ref r)/\Q (.bl true) H
section
variable {X:Cx}
theorem KH (hu:X.A.units < cLine):OpR X (compareOp .Eq) (Wz X.K):=by
 intro pins s U H x y v u Q I rx ry h
 rcases h with ⟨a,C,dx,fs,rfl,rfl,ha,c,q⟩ | ⟨a,b,xs,rfl,rfl,ha,hb,fx,q⟩
 ·cases rx
  cases ry
  obtain ⟨mA,J,_⟩:=p7 I.hok ha
  obtain ⟨od,J2,_⟩:=J.look
  exact KD I.kIn J2 c hu ⟨.bl true,H,I,rfl,q⟩
 ·cases rx
  cases ry
  obtain ⟨its,r1,p1,z1⟩:=I.list ha
  obtain ⟨jts,r2,p2,z2⟩:=I.list hb
  have l1:its.toArray.size=xs.length:=by simpa using r1.length.symm
  have l2:jts.toArray.size=xs.length:=by simpa using r2.length.symm
  refine SeqAt.eq_listAt (e:=fun _=>true) p1.isList p2.isList (by rw [l1,l2]) hu (fun j h1 h2=>?_) ?_
  ·have hj:j < xs.length:=by omega
   obtain ⟨u1,e1,q1⟩:=r1.get (Xk hj)
   obtain ⟨u2,e2,q2⟩:=r2.get (Xk hj)
   have f1:its.toArray[j]=u1:=by
    obtain ⟨_,z⟩:=Xm.mp e1
    simpa using z
   have f2:jts.toArray[j]=u2:=by
    obtain ⟨_,z⟩:=Xm.mp e2
    simpa using z
   rw [f1,f2]
   rcases fx _ (YF hj) with f | ⟨r,f⟩
   ·rw [← o8 f]
    exact qK q1 q2 f f
   ·rw [f] at q1 q2
    cases (show u1=Value.ref r from q1)
    cases (show u2=Value.ref r from q2)
    exact Zd _
  ·have e:((List.range its.toArray.size).all (fun _=>true))=true:=by simp
   rw [e]
   exact ⟨.bl true,H,I,rfl,q⟩
def Ud (K:W.Frag):R2:=fun x y H Q=>Oi K x y H Q\/Wz K x y H Q
theorem pq {K:W.Frag} (hK:X.K=K) (hu:X.A.units+64 < cLine):OpR X (compareOp .Eq) (Ud K):=by
 subst hK
 exact (jN rfl hu).or (KH (YK (YL _ _) hu))
end
section
variable {K:W.Frag} {H:Hp} {Q:VK}
theorem tM {i j:Int} (h:Q (.bl (decide (V.int i=V.int j))) H):Ud K (.int i) (.int j) H Q:=.inl (cM h)
theorem tO {i j:Str} (h:Q (.bl (decide (V.str i=V.str j))) H):Ud K (.str i) (.str j) H Q:=.inl (cO h)
end
theorem Def.at_ {K:W.Frag} {mg:Str->Option Value} {x:Str} {st:Stmt} (d:Def K mg x st):mg x=some (.ref (aM mg x)):=by
 obtain ⟨f,_,_,h⟩:=d
 rw [d8 h];exact h
def WD (P:Program) (w:World) (K:W.Frag) (mg:Str->Option Value) (base:Heap) (k:Nat) (xs:List Str) (ps:List Str) (sp:Str->Sp):Prop:=∀ x∈xs,HasX P w K mg base k x ps (sp x)
def KJ (mg:Str->Option Value) (xs:List Str) (sp:Str->Sp) (R:St->XK) (tv:TE) (t:TA):TE:=fun U H Q=>tv U H fun u H0=>∃ x,x∈xs/\u= .ref (aM mg x)/\t U H0 fun vs H1=>sp x vs H1 Q (R U)
section
variable {X:Cx} {mg:Str->Option Value} {k:Nat} {xs ps:List Str} {sp:Str->Sp} {R:St->XK} {x:Str} {p pos:Pos} {e:Expr} {es:List Expr} {t:TA} {tv:TE}
theorem KN (hmg:X.mg=mg) (hv:JE X (.Name x p) tv) (F:WD X.prog X.w X.K X.mg X.base k xs ps sp) (hr:Room k X.A) (hx:lC X R) (ha:JA X (e :: es) t) (h:autoParam ((e :: es).all notStar=true) L2.auto4._auto_1):
  JE X (.Call (.Name x p) (e :: es) [] pos) (KJ mg xs sp R tv t):=by
 have h1:notStar e=true:=by simp only [Yn,Xx] at h;exact h.1
 have h2:es.all notStar=true:=by simp only [Yn,Xx] at h;exact h.2
 subst hmg
 refine ⟨?_⟩
 intro pins s U H Q I hq
 refine Yi (d9 (hv.run pins s U H _ I hq) fun u s0 qq0=>?_)
 obtain ⟨v,H0,I0,rv,y,hy,ev,q0⟩:=qq0
 obtain ⟨f,fd,a,b,c,d⟩:=F y hy
 rw [d8 a] at ev
 subst ev
 cases rv
 refine Zi (h₀:=X.base) I.ok.mod.kin b (d9 (ha.run pos pins s0 U H0 _ I0 q0) fun us s1 ⟨vs,H1,I1,r,q⟩=>⟨I1.kIn,?_⟩) (bJ h1) (mC h2)
 exact uX d hr c hx I1 r q
end
section
variable {mg:Str->Option Value} {xs:List Str} {sp:Str->Sp} {R:St->XK} {tv:TE} {t:TA} {U:St} {H:Hp} {Q:VK}
theorem bY (h:tv U H fun u H0=>∃ x,x∈xs/\u= .ref (aM mg x)/\t U H0 fun vs H1=>sp x vs H1 Q (R U)):KJ mg xs sp R tv t U H Q:=h
end
end L2
namespace My
open PySem L2
local macro_rules | `(tactic| walk_at "p") => `(tactic| first | exact aW _ | with_unfolding_all rfl)
local macro_rules | `(tactic| walk_at "0") => `(tactic| (first | refine j4 ?_ | refine jM ?_ | refine jF ?_ | refine gA ?_ | refine gB ?_ | (refine' gf ?hz0 ?_; (case hz0 => with_unfolding_all rfl)) | refine uQ ?_ | refine j9 ?_ | refine dq ?_ | refine cY ?_ | refine gj ?_ | refine fV ?_ | refine cT ?_ | refine fX ?_ | refine cR ?_ | refine jY ?_ | refine cV ?_ | refine kh ?_ | refine j6 ?_ | refine cZ ?_ | refine jZ ?_ | refine fY ?_ | refine fZ ?_ | refine j0 ?_ | refine cW ?_ | refine f9 ?_ | refine cX ?_ | refine gb ?_ | refine fW ?_ | refine cU ?_ | refine j5 ?_ | refine xM ?_ | refine xN ?_ | refine j7 ?_ | refine gk ?_ | refine j8 ?_ | refine gn ?_ | refine c7 ?_ | refine dg ?_ | refine dh ?_ | refine di ?_ | refine dj ?_ | refine dm ?_ | refine gq ?_ | refine uV ?_ | refine bN ?_ | refine dG ?_ | (refine' cA (SqT.of ?hz0) ?hz1 ?_; (case hz0 => first | assumption | exact aj); (case hz1 => rfl)) | refine bQ ?_ | refine bT ?_ | refine gr ?_ | refine bR ?_ | refine dH ?_ | refine dI ?_ | refine cJ ?_ | refine cL ?_ | refine cM ?_ | refine cO ?_ | refine kj ?_ | refine cF ?_ | refine cG ?_ | refine cH ?_ | refine cI ?_ | refine bO ?_ | refine fJ ?_ | refine dD ?_ | (refine' uR ?hz0 ?_; (case hz0 => with_unfolding_all first | assumption | omega | (dsimp only <;> omega) | exact ⟨by omega, by omega⟩ | exact .inl ⟨by omega, by omega⟩ | exact .inr ⟨by omega, by omega⟩ | exact ⟨by decide, by decide, by decide⟩)) | (refine' dB ?hz0 ?_; (case hz0 => with_unfolding_all first | assumption | omega | (dsimp only <;> omega) | exact ⟨by omega, by omega⟩ | exact .inl ⟨by omega, by omega⟩ | exact .inr ⟨by omega, by omega⟩ | exact ⟨by decide, by decide, by decide⟩)) | (refine' b7 (SqL.of ?hz0) ?hz1 ?_; (case hz0 => first | assumption | exact aj); (case hz1 => with_unfolding_all rfl)) | (refine' cC ?hz0 ?hz1 ?_; (case hz0 => first | assumption | exact aj); (case hz1 => with_unfolding_all rfl)) | refine bU ?_ | refine gC ?_ | refine dJ ?_ | refine bY ?_ | refine bV ?_ | refine dM ?_ | refine bW ?_ | refine dW ?_ | refine dU ?_))
local macro_rules | `(tactic| walk_at "1") => `(tactic| (first | refine j4 ?_ | refine jM ?_ | refine jF ?_ | refine gA ?_ | refine gB ?_ | (refine' gf ?hz0 ?_; (case hz0 => with_unfolding_all rfl)) | refine uQ ?_ | refine j9 ?_ | refine dq ?_ | refine cY ?_ | refine gj ?_ | refine fV ?_ | refine cT ?_ | refine fX ?_ | refine cR ?_ | refine jY ?_ | refine cV ?_ | refine kh ?_ | refine j6 ?_ | refine cZ ?_ | refine jZ ?_ | refine fY ?_ | refine fZ ?_ | refine j0 ?_ | refine cW ?_ | refine f9 ?_ | refine cX ?_ | refine gb ?_ | refine fW ?_ | refine cU ?_ | refine j5 ?_ | refine xM ?_ | refine xN ?_ | refine j7 ?_ | refine gk ?_ | refine j8 ?_ | refine gn ?_ | refine c7 ?_ | refine dg ?_ | refine dh ?_ | refine di ?_ | refine dj ?_ | refine dm ?_ | refine gq ?_ | refine uV ?_ | refine bN ?_ | refine dG ?_ | (refine' cA (SqT.of ?hz0) ?hz1 ?_; (case hz0 => first | assumption | exact aj); (case hz1 => rfl)) | refine bQ ?_ | refine bT ?_ | refine gr ?_ | refine bR ?_ | refine dH ?_ | refine dI ?_ | refine cJ ?_ | refine cL ?_ | refine cM ?_ | refine cO ?_ | refine kj ?_ | refine cF ?_ | refine cG ?_ | refine cH ?_ | refine cI ?_ | refine bO ?_ | refine fJ ?_ | refine dD ?_ | (refine' uR ?hz0 ?_; (case hz0 => with_unfolding_all first | assumption | omega | (dsimp only <;> omega) | exact ⟨by omega, by omega⟩ | exact .inl ⟨by omega, by omega⟩ | exact .inr ⟨by omega, by omega⟩ | exact ⟨by decide, by decide, by decide⟩)) | (refine' dB ?hz0 ?_; (case hz0 => with_unfolding_all first | assumption | omega | (dsimp only <;> omega) | exact ⟨by omega, by omega⟩ | exact .inl ⟨by omega, by omega⟩ | exact .inr ⟨by omega, by omega⟩ | exact ⟨by decide, by decide, by decide⟩)) | (refine' b7 (SqL.of ?hz0) ?hz1 ?_; (case hz0 => first | assumption | exact aj); (case hz1 => with_unfolding_all rfl)) | (refine' cC ?hz0 ?hz1 ?_; (case hz0 => first | assumption | exact aj); (case hz1 => with_unfolding_all rfl)) | refine bU ?_ | refine gC ?_ | refine dJ ?_ | refine bY ?_ | refine bV ?_ | refine dM ?_ | refine bW ?_ | (refine' xV ?hz0 ?_; (case hz0 => with_unfolding_all rfl)) | refine dW ?_ | refine dU ?_))
local macro_rules | `(tactic| walk_at "2") => `(tactic| (first | refine j4 ?_ | refine jM ?_ | refine jF ?_ | refine gA ?_ | refine gB ?_ | (refine' gf ?hz0 ?_; (case hz0 => with_unfolding_all rfl)) | refine uQ ?_ | refine j9 ?_ | refine dq ?_ | refine cY ?_ | refine gj ?_ | refine fV ?_ | refine cT ?_ | refine fX ?_ | refine cR ?_ | refine jY ?_ | refine cV ?_ | refine kh ?_ | refine j6 ?_ | refine cZ ?_ | refine jZ ?_ | refine fY ?_ | refine fZ ?_ | refine j0 ?_ | refine cW ?_ | refine f9 ?_ | refine cX ?_ | refine gb ?_ | refine fW ?_ | refine cU ?_ | refine j5 ?_ | refine xM ?_ | refine xN ?_ | refine j7 ?_ | refine gk ?_ | refine j8 ?_ | refine gn ?_ | refine c7 ?_ | refine dg ?_ | refine dh ?_ | refine di ?_ | refine dj ?_ | refine dm ?_ | refine gq ?_ | refine uV ?_ | refine bN ?_ | refine dG ?_ | (refine' cA (SqT.of ?hz0) ?hz1 ?_; (case hz0 => first | assumption | exact aj); (case hz1 => rfl)) | refine bQ ?_ | refine bT ?_ | refine gr ?_ | refine bR ?_ | refine dH ?_ | refine dI ?_ | refine cJ ?_ | refine cL ?_ | refine cM ?_ | refine cO ?_ | refine kj ?_ | refine cF ?_ | refine cG ?_ | refine cH ?_ | refine cI ?_ | refine bO ?_ | refine fJ ?_ | refine dD ?_ | (refine' uR ?hz0 ?_; (case hz0 => with_unfolding_all first | assumption | omega | (dsimp only <;> omega) | exact ⟨by omega, by omega⟩ | exact .inl ⟨by omega, by omega⟩ | exact .inr ⟨by omega, by omega⟩ | exact ⟨by decide, by decide, by decide⟩)) | (refine' dB ?hz0 ?_; (case hz0 => with_unfolding_all first | assumption | omega | (dsimp only <;> omega) | exact ⟨by omega, by omega⟩ | exact .inl ⟨by omega, by omega⟩ | exact .inr ⟨by omega, by omega⟩ | exact ⟨by decide, by decide, by decide⟩)) | (refine' b7 (SqL.of ?hz0) ?hz1 ?_; (case hz0 => first | assumption | exact aj); (case hz1 => with_unfolding_all rfl)) | (refine' cC ?hz0 ?hz1 ?_; (case hz0 => first | assumption | exact aj); (case hz1 => with_unfolding_all rfl)) | refine bU ?_ | refine gC ?_ | refine dJ ?_ | refine bY ?_ | refine bV ?_ | refine dM ?_ | refine bW ?_))
local macro_rules | `(tactic| walk_at "3") => `(tactic| (first | refine j4 ?_ | refine jM ?_ | refine jF ?_ | refine gA ?_ | refine gB ?_ | (refine' gf ?hz0 ?_; (case hz0 => with_unfolding_all rfl)) | refine uQ ?_ | refine j9 ?_ | refine dq ?_ | refine cY ?_ | refine gj ?_ | refine fV ?_ | refine cT ?_ | refine fX ?_ | refine cR ?_ | refine jY ?_ | refine cV ?_ | refine kh ?_ | refine j6 ?_ | refine cZ ?_ | refine jZ ?_ | refine fY ?_ | refine fZ ?_ | refine j0 ?_ | refine cW ?_ | refine f9 ?_ | refine cX ?_ | refine gb ?_ | refine fW ?_ | refine cU ?_ | refine j5 ?_ | refine fU ?_ | refine fQ ?_ | refine j7 ?_ | refine gk ?_ | refine j8 ?_ | refine gn ?_ | refine c7 ?_ | refine dg ?_ | refine dh ?_ | refine di ?_ | refine dj ?_ | refine dm ?_ | refine gq ?_ | refine uV ?_ | refine bN ?_ | refine dG ?_ | (refine' cA (SqT.of ?hz0) ?hz1 ?_; (case hz0 => first | assumption | exact aj); (case hz1 => rfl)) | refine bQ ?_ | refine bT ?_ | refine gr ?_ | refine bR ?_ | refine dH ?_ | refine dI ?_ | refine cJ ?_ | refine cL ?_ | refine cM ?_ | refine cO ?_ | refine kj ?_ | refine cF ?_ | refine cG ?_ | refine cH ?_ | refine cI ?_ | refine bO ?_ | refine fJ ?_ | refine dD ?_ | (refine' uR ?hz0 ?_; (case hz0 => with_unfolding_all first | assumption | omega | (dsimp only <;> omega) | exact ⟨by omega, by omega⟩ | exact .inl ⟨by omega, by omega⟩ | exact .inr ⟨by omega, by omega⟩ | exact ⟨by decide, by decide, by decide⟩)) | (refine' dB ?hz0 ?_; (case hz0 => with_unfolding_all first | assumption | omega | (dsimp only <;> omega) | exact ⟨by omega, by omega⟩ | exact .inl ⟨by omega, by omega⟩ | exact .inr ⟨by omega, by omega⟩ | exact ⟨by decide, by decide, by decide⟩)) | (refine' b7 (SqL.of ?hz0) ?hz1 ?_; (case hz0 => first | assumption | exact aj); (case hz1 => with_unfolding_all rfl)) | (refine' cC ?hz0 ?hz1 ?_; (case hz0 => first | assumption | exact aj); (case hz1 => with_unfolding_all rfl)) | refine bU ?_ | refine gC ?_ | refine dJ ?_ | refine bY ?_ | refine bV ?_ | refine dM ?_ | refine bW ?_ | refine dW ?_ | refine dU ?_))
local macro_rules | `(tactic| walk_at "4") => `(tactic| (first | refine j4 ?_ | refine jM ?_ | refine jF ?_ | refine gA ?_ | refine gB ?_ | (refine' gf ?hz0 ?_; (case hz0 => with_unfolding_all rfl)) | refine uQ ?_ | refine j9 ?_ | refine dq ?_ | refine cY ?_ | refine gj ?_ | refine fV ?_ | refine cT ?_ | refine fX ?_ | refine cR ?_ | refine jY ?_ | refine cV ?_ | refine kh ?_ | refine j6 ?_ | refine cZ ?_ | refine jZ ?_ | refine fY ?_ | refine fZ ?_ | refine j0 ?_ | refine cW ?_ | refine f9 ?_ | refine cX ?_ | refine gb ?_ | refine fW ?_ | refine cU ?_ | refine j5 ?_ | refine fU ?_ | refine fQ ?_ | refine j7 ?_ | refine gk ?_ | refine j8 ?_ | refine gn ?_ | refine c7 ?_ | refine dg ?_ | refine dh ?_ | refine di ?_ | refine dj ?_ | refine dm ?_ | refine gq ?_ | refine uV ?_ | refine bN ?_ | refine dG ?_ | (refine' cA (SqT.of ?hz0) ?hz1 ?_; (case hz0 => first | assumption | exact aj); (case hz1 => rfl)) | refine bQ ?_ | refine bT ?_ | refine gr ?_ | refine bR ?_ | refine dH ?_ | refine dI ?_ | refine cJ ?_ | refine cL ?_ | refine cM ?_ | refine cO ?_ | refine kj ?_ | refine cF ?_ | refine cG ?_ | refine cH ?_ | refine cI ?_ | refine bO ?_ | refine fJ ?_ | refine dD ?_ | (refine' uR ?hz0 ?_; (case hz0 => with_unfolding_all first | assumption | omega | (dsimp only <;> omega) | exact ⟨by omega, by omega⟩ | exact .inl ⟨by omega, by omega⟩ | exact .inr ⟨by omega, by omega⟩ | exact ⟨by decide, by decide, by decide⟩)) | (refine' dB ?hz0 ?_; (case hz0 => with_unfolding_all first | assumption | omega | (dsimp only <;> omega) | exact ⟨by omega, by omega⟩ | exact .inl ⟨by omega, by omega⟩ | exact .inr ⟨by omega, by omega⟩ | exact ⟨by decide, by decide, by decide⟩)) | (refine' b7 (SqL.of ?hz0) ?hz1 ?_; (case hz0 => first | assumption | exact aj); (case hz1 => with_unfolding_all rfl)) | (refine' cC ?hz0 ?hz1 ?_; (case hz0 => first | assumption | exact aj); (case hz1 => with_unfolding_all rfl)) | refine bU ?_ | refine gC ?_ | refine dJ ?_ | refine Ku ?_ | refine bY ?_ | refine bV ?_ | refine dM ?_ | refine bW ?_ | refine dW ?_ | refine dU ?_))
local macro_rules | `(tactic| walk_at "5") => `(tactic| (first | refine j4 ?_ | refine jM ?_ | refine jF ?_ | refine gA ?_ | refine gB ?_ | (refine' gf ?hz0 ?_; (case hz0 => with_unfolding_all rfl)) | refine uQ ?_ | refine j9 ?_ | refine dq ?_ | refine cY ?_ | refine gj ?_ | refine fV ?_ | refine cT ?_ | refine fX ?_ | refine cR ?_ | refine jY ?_ | refine cV ?_ | refine kh ?_ | refine j6 ?_ | refine cZ ?_ | refine jZ ?_ | refine fY ?_ | refine fZ ?_ | refine j0 ?_ | refine cW ?_ | refine f9 ?_ | refine cX ?_ | refine gb ?_ | refine fW ?_ | refine cU ?_ | refine j5 ?_ | refine fU ?_ | refine fQ ?_ | refine j7 ?_ | refine gk ?_ | refine j8 ?_ | refine gn ?_ | refine c7 ?_ | refine dg ?_ | refine dh ?_ | refine di ?_ | refine dj ?_ | refine dm ?_ | refine gq ?_ | refine uV ?_ | refine bN ?_ | refine dG ?_ | (refine' cA (SqT.of ?hz0) ?hz1 ?_; (case hz0 => first | assumption | exact aj); (case hz1 => rfl)) | refine bQ ?_ | refine bT ?_ | refine gr ?_ | refine bR ?_ | refine dH ?_ | refine dI ?_ | refine cJ ?_ | refine cL ?_ | refine cM ?_ | refine cO ?_ | refine kj ?_ | refine cF ?_ | refine cG ?_ | refine cH ?_ | refine cI ?_ | refine bO ?_ | refine fJ ?_ | refine dD ?_ | (refine' uR ?hz0 ?_; (case hz0 => with_unfolding_all first | assumption | omega | (dsimp only <;> omega) | exact ⟨by omega, by omega⟩ | exact .inl ⟨by omega, by omega⟩ | exact .inr ⟨by omega, by omega⟩ | exact ⟨by decide, by decide, by decide⟩)) | (refine' dB ?hz0 ?_; (case hz0 => with_unfolding_all first | assumption | omega | (dsimp only <;> omega) | exact ⟨by omega, by omega⟩ | exact .inl ⟨by omega, by omega⟩ | exact .inr ⟨by omega, by omega⟩ | exact ⟨by decide, by decide, by decide⟩)) | (refine' b7 (SqL.of ?hz0) ?hz1 ?_; (case hz0 => first | assumption | exact aj); (case hz1 => with_unfolding_all rfl)) | (refine' cC ?hz0 ?hz1 ?_; (case hz0 => first | assumption | exact aj); (case hz1 => with_unfolding_all rfl)) | refine bU ?_ | refine gC ?_ | refine dJ ?_ | refine bY ?_ | refine bV ?_ | refine dM ?_ | refine bW ?_ | refine dW ?_ | refine dU ?_ | refine Ks ?_))
local macro_rules | `(tactic| walk_at "6") => `(tactic| (first | refine j4 ?_ | refine jM ?_ | refine jF ?_ | refine gA ?_ | refine gB ?_ | (refine' gf ?hz0 ?_; (case hz0 => with_unfolding_all rfl)) | refine uQ ?_ | refine j9 ?_ | refine dq ?_ | refine cY ?_ | refine gj ?_ | refine fV ?_ | refine cT ?_ | refine fX ?_ | refine cR ?_ | refine jY ?_ | refine cV ?_ | refine kh ?_ | refine j6 ?_ | refine cZ ?_ | refine jZ ?_ | refine fY ?_ | refine fZ ?_ | refine j0 ?_ | refine cW ?_ | refine f9 ?_ | refine cX ?_ | refine gb ?_ | refine fW ?_ | refine cU ?_ | refine j5 ?_ | refine fU ?_ | refine fQ ?_ | refine j7 ?_ | refine gk ?_ | refine j8 ?_ | refine gn ?_ | refine c7 ?_ | refine dg ?_ | refine dh ?_ | refine di ?_ | refine dj ?_ | refine dm ?_ | refine gq ?_ | refine uV ?_ | refine bN ?_ | refine dG ?_ | (refine' cA (SqT.of ?hz0) ?hz1 ?_; (case hz0 => first | assumption | exact aj); (case hz1 => rfl)) | refine bQ ?_ | refine bT ?_ | refine gr ?_ | refine bR ?_ | refine dH ?_ | refine dI ?_ | refine cJ ?_ | refine cL ?_ | refine cM ?_ | refine cO ?_ | refine kj ?_ | refine cF ?_ | refine cG ?_ | refine cH ?_ | refine cI ?_ | refine bO ?_ | refine fJ ?_ | refine dD ?_ | (refine' uR ?hz0 ?_; (case hz0 => with_unfolding_all first | assumption | omega | (dsimp only <;> omega) | exact ⟨by omega, by omega⟩ | exact .inl ⟨by omega, by omega⟩ | exact .inr ⟨by omega, by omega⟩ | exact ⟨by decide, by decide, by decide⟩)) | (refine' dB ?hz0 ?_; (case hz0 => with_unfolding_all first | assumption | omega | (dsimp only <;> omega) | exact ⟨by omega, by omega⟩ | exact .inl ⟨by omega, by omega⟩ | exact .inr ⟨by omega, by omega⟩ | exact ⟨by decide, by decide, by decide⟩)) | (refine' b7 (SqL.of ?hz0) ?hz1 ?_; (case hz0 => first | assumption | exact aj); (case hz1 => with_unfolding_all rfl)) | (refine' cC ?hz0 ?hz1 ?_; (case hz0 => first | assumption | exact aj); (case hz1 => with_unfolding_all rfl)) | refine bU ?_ | refine gC ?_ | refine dJ ?_ | refine bY ?_ | refine bV ?_ | refine dM ?_ | refine bW ?_ | (refine' xV ?hz0 ?_; (case hz0 => with_unfolding_all rfl)) | refine dW ?_ | refine dU ?_))
local macro_rules | `(tactic| walk_at "7") => `(tactic| (first | refine j4 ?_ | refine jM ?_ | refine jF ?_ | refine gA ?_ | refine gB ?_ | (refine' gf ?hz0 ?_; (case hz0 => with_unfolding_all rfl)) | refine uQ ?_ | refine j9 ?_ | refine dq ?_ | refine cY ?_ | refine gj ?_ | refine fV ?_ | refine cT ?_ | refine fX ?_ | refine cR ?_ | refine jY ?_ | refine cV ?_ | refine kh ?_ | refine j6 ?_ | refine cZ ?_ | refine jZ ?_ | refine fY ?_ | refine fZ ?_ | refine j0 ?_ | refine cW ?_ | refine f9 ?_ | refine cX ?_ | refine gb ?_ | refine fW ?_ | refine cU ?_ | refine j5 ?_ | refine fU ?_ | refine fQ ?_ | refine j7 ?_ | refine gk ?_ | refine j8 ?_ | refine gn ?_ | refine c7 ?_ | refine dg ?_ | refine dh ?_ | refine di ?_ | refine dj ?_ | refine dm ?_ | refine gq ?_ | refine uV ?_ | refine bN ?_ | refine dG ?_ | (refine' cA (SqT.of ?hz0) ?hz1 ?_; (case hz0 => first | assumption | exact aj); (case hz1 => rfl)) | refine bQ ?_ | refine bT ?_ | refine gr ?_ | refine bR ?_ | refine dH ?_ | refine dI ?_ | refine cJ ?_ | refine cL ?_ | refine cM ?_ | refine cO ?_ | refine kj ?_ | refine cF ?_ | refine cG ?_ | refine cH ?_ | refine cI ?_ | refine bO ?_ | refine fJ ?_ | refine dD ?_ | (refine' uR ?hz0 ?_; (case hz0 => with_unfolding_all first | assumption | omega | (dsimp only <;> omega) | exact ⟨by omega, by omega⟩ | exact .inl ⟨by omega, by omega⟩ | exact .inr ⟨by omega, by omega⟩ | exact ⟨by decide, by decide, by decide⟩)) | (refine' dB ?hz0 ?_; (case hz0 => with_unfolding_all first | assumption | omega | (dsimp only <;> omega) | exact ⟨by omega, by omega⟩ | exact .inl ⟨by omega, by omega⟩ | exact .inr ⟨by omega, by omega⟩ | exact ⟨by decide, by decide, by decide⟩)) | (refine' b7 (SqL.of ?hz0) ?hz1 ?_; (case hz0 => first | assumption | exact aj); (case hz1 => with_unfolding_all rfl)) | (refine' cC ?hz0 ?hz1 ?_; (case hz0 => first | assumption | exact aj); (case hz1 => with_unfolding_all rfl)) | refine bU ?_ | refine gC ?_ | refine dJ ?_ | refine bY ?_ | refine bV ?_ | refine dM ?_ | refine bW ?_ | refine tM ?_ | refine tO ?_ | (refine' xV ?hz0 ?_; (case hz0 => with_unfolding_all rfl)) | refine dW ?_ | refine dU ?_ | refine yS ?_ | refine yU ?_))
local macro_rules | `(tactic| walk_at "8") => `(tactic| (first | refine j4 ?_ | refine jM ?_ | refine jF ?_ | refine gA ?_ | refine gB ?_ | (refine' gf ?hz0 ?_; (case hz0 => with_unfolding_all rfl)) | refine uQ ?_ | refine j9 ?_ | refine dq ?_ | refine cY ?_ | refine gj ?_ | refine fV ?_ | refine cT ?_ | refine fX ?_ | refine cR ?_ | refine jY ?_ | refine cV ?_ | refine kh ?_ | refine j6 ?_ | refine cZ ?_ | refine jZ ?_ | refine fY ?_ | refine fZ ?_ | refine j0 ?_ | refine cW ?_ | refine f9 ?_ | refine cX ?_ | refine gb ?_ | refine fW ?_ | refine cU ?_ | refine j5 ?_ | refine fU ?_ | refine fQ ?_ | refine j7 ?_ | refine gk ?_ | refine j8 ?_ | refine gn ?_ | refine c7 ?_ | refine dg ?_ | refine dh ?_ | refine di ?_ | refine dj ?_ | refine dm ?_ | refine gq ?_ | refine uV ?_ | refine bN ?_ | refine dG ?_ | (refine' cA (SqT.of ?hz0) ?hz1 ?_; (case hz0 => first | assumption | exact aj); (case hz1 => rfl)) | refine bQ ?_ | refine bT ?_ | refine gr ?_ | refine bR ?_ | refine dH ?_ | refine dI ?_ | refine cJ ?_ | refine cL ?_ | refine cM ?_ | refine cO ?_ | refine kj ?_ | refine cF ?_ | refine cG ?_ | refine cH ?_ | refine cI ?_ | refine bO ?_ | refine fJ ?_ | refine dD ?_ | (refine' uR ?hz0 ?_; (case hz0 => with_unfolding_all first | assumption | omega | (dsimp only <;> omega) | exact ⟨by omega, by omega⟩ | exact .inl ⟨by omega, by omega⟩ | exact .inr ⟨by omega, by omega⟩ | exact ⟨by decide, by decide, by decide⟩)) | (refine' dB ?hz0 ?_; (case hz0 => with_unfolding_all first | assumption | omega | (dsimp only <;> omega) | exact ⟨by omega, by omega⟩ | exact .inl ⟨by omega, by omega⟩ | exact .inr ⟨by omega, by omega⟩ | exact ⟨by decide, by decide, by decide⟩)) | (refine' b7 (SqL.of ?hz0) ?hz1 ?_; (case hz0 => first | assumption | exact aj); (case hz1 => with_unfolding_all rfl)) | (refine' cC ?hz0 ?hz1 ?_; (case hz0 => first | assumption | exact aj); (case hz1 => with_unfolding_all rfl)) | refine bU ?_ | refine gC ?_ | refine dJ ?_ | refine bY ?_ | refine bV ?_ | refine dM ?_ | refine bW ?_ | refine tM ?_ | refine tO ?_ | refine dW ?_ | refine dU ?_))
local macro_rules | `(tactic| walk_at "9") => `(tactic| (first | refine j4 ?_ | refine jM ?_ | refine jF ?_ | refine gA ?_ | refine gB ?_ | (refine' gf ?hz0 ?_; (case hz0 => with_unfolding_all rfl)) | refine uQ ?_ | refine j9 ?_ | refine dq ?_ | refine cY ?_ | refine gj ?_ | refine fV ?_ | refine cT ?_ | refine fX ?_ | refine cR ?_ | refine jY ?_ | refine cV ?_ | refine kh ?_ | refine j6 ?_ | refine cZ ?_ | refine jZ ?_ | refine fY ?_ | refine fZ ?_ | refine j0 ?_ | refine cW ?_ | refine f9 ?_ | refine cX ?_ | refine gb ?_ | refine fW ?_ | refine cU ?_ | refine j5 ?_ | refine fU ?_ | refine fQ ?_ | refine j7 ?_ | refine gk ?_ | refine j8 ?_ | refine gn ?_ | refine c7 ?_ | refine dg ?_ | refine dh ?_ | refine di ?_ | refine dj ?_ | refine dm ?_ | refine gq ?_ | refine uV ?_ | refine bN ?_ | refine dG ?_ | (refine' cA (SqT.of ?hz0) ?hz1 ?_; (case hz0 => first | assumption | exact aj); (case hz1 => rfl)) | refine bQ ?_ | refine bT ?_ | refine gr ?_ | refine bR ?_ | refine dH ?_ | refine dI ?_ | refine cJ ?_ | refine cL ?_ | refine cM ?_ | refine cO ?_ | refine kj ?_ | refine cF ?_ | refine cG ?_ | refine cH ?_ | refine cI ?_ | refine bO ?_ | refine fJ ?_ | refine dD ?_ | (refine' uR ?hz0 ?_; (case hz0 => with_unfolding_all first | assumption | omega | (dsimp only <;> omega) | exact ⟨by omega, by omega⟩ | exact .inl ⟨by omega, by omega⟩ | exact .inr ⟨by omega, by omega⟩ | exact ⟨by decide, by decide, by decide⟩)) | (refine' dB ?hz0 ?_; (case hz0 => with_unfolding_all first | assumption | omega | (dsimp only <;> omega) | exact ⟨by omega, by omega⟩ | exact .inl ⟨by omega, by omega⟩ | exact .inr ⟨by omega, by omega⟩ | exact ⟨by decide, by decide, by decide⟩)) | (refine' b7 (SqL.of ?hz0) ?hz1 ?_; (case hz0 => first | assumption | exact aj); (case hz1 => with_unfolding_all rfl)) | (refine' cC ?hz0 ?hz1 ?_; (case hz0 => first | assumption | exact aj); (case hz1 => with_unfolding_all rfl)) | refine bU ?_ | refine gC ?_ | refine dJ ?_ | refine bY ?_ | refine bV ?_ | refine dM ?_ | refine bW ?_ | refine tM ?_ | refine tO ?_ | refine dW ?_ | refine dU ?_ | refine yS ?_ | refine yU ?_))
abbrev Ue (d:Stmt) (x:Str):Prop:=(aB d).names.lookup x=some NameKind.local
def nI (cs:List Nat):List Int:=cs.map fun i:Nat=>(i:Int)
def qx (E:List Nat) (p:Nat):Bool:=decide (E.getD p 0 < E.getD (p+1) 0)
def aP (E:List Nat) (p:Nat):List Nat:=if qx E p=true then (E.set p (E.getD (p+1) 0)).set (p+1) (E.getD p 0) else E
def bD (E:List Nat) (ps:List Nat):List Nat:=ps.foldl aP E
theorem mW (E ps:List Nat) (p:Nat):bD E (ps ++ [p])=aP (bD E ps) p:=by unfold bD;rw [List.foldl_append];rfl
theorem qe (E:List Nat) (p:Nat):(aP E p).length=E.length:=by unfold aP;split <;> simp
theorem jK (E ps:List Nat):(bD E ps).length=E.length:=by
 induction ps generalizing E with
 | nil=>rfl
 | cons p ps ih=>exact (ih (aP E p)).trans (qe E p)
theorem xY {E:List Nat} {p:Nat} (h:p+1 < E.length):E=E.take p ++ E.getD p 0 :: E.getD (p+1) 0 :: E.drop (p+2)/\(E.set p (E.getD (p+1) 0)).set (p+1) (E.getD p 0)=E.take p ++ E.getD (p+1) 0 :: E.getD p 0 :: E.drop (p+2):=by
 have e1:E.getD p 0=E[p]:=by rw [Xj,Xk (by omega)];rfl
 have e2:E.getD (p+1) 0=E[p+1]:=by rw [Xj,Xk h];rfl
 have f:E=E.take p ++ E.getD p 0 :: E.getD (p+1) 0 :: E.drop (p+2):=by
  rw [e1,e2]
  conv=>lhs;rw [← List.take_append_drop p E]
  rw [List.drop_eq_getElem_cons (by omega),List.drop_eq_getElem_cons h]
 refine ⟨f,?_⟩
 generalize E.getD p 0=a at f ⊢
 generalize E.getD (p+1) 0=b at f ⊢
 have lt:(E.take p).length=p:=by rw [Y9];omega
 conv=>lhs;rw [f]
 rw [List.set_append_right _ _ (by omega),lt,Nat.sub_self,List.set_cons_zero,List.set_append_right _ _ (by omega),lt,show p+1 - p=1 by omega]
 rfl
theorem qO {E:List Nat} {p:Nat} (h:p+1 < E.length):(aP E p).Perm E:=by
 unfold aP
 split
 ·obtain ⟨f1,f2⟩:=xY h
  rw [f2]
  conv=>rhs;rw [f1]
  exact (List.Perm.swap _ _ _).append_left _
 ·exact List.Perm.refl _
theorem qg {ps:List Nat}:∀ {E:List Nat},(∀ p∈ps,p+1 < E.length)->(bD E ps).Perm E:=by
 induction ps with
 | nil=>intro E _;exact List.Perm.refl _
 | cons p ps ih=>
  intro E h
  have h1:=qO (h p (by simp))
  exact (ih (E:=aP E p) fun q hq=>by rw [qe];exact h q (Xw _ hq)).trans h1
def KQ (E:List Nat) (ps:List Nat) (i:Nat):List Nat:=(List.range i).filter fun j=>qx (bD E (ps.take j)) (ps.getD j 0)
theorem Ax (E ps:List Nat) (i:Nat):KQ E ps (i+1)=KQ E ps i ++ (if qx (bD E (ps.take i)) (ps.getD i 0)=true then [i] else []):=by
 unfold KQ
 rw [List.range_succ,List.filter_append]
 congr 1
 by_cases h:qx (bD E (ps.take i)) (ps.getD i 0)=true
 ·rw [if_pos h,List.filter_cons_of_pos (p:=fun j=>qx (bD E (ps.take j)) (ps.getD j 0)) h];rfl
 ·rw [if_neg h,List.filter_cons_of_neg (p:=fun j=>qx (bD E (ps.take j)) (ps.getD j 0)) h];rfl
theorem O4 (E ps:List Nat) (i:Nat):(KQ E ps i).length<=i:=XQ (List.length_filter_le _ _) (by simp)
theorem tQ {ps:List Nat} {i:Nat} (h:i < ps.length):ps.take (i+1)=ps.take i ++ [ps.getD i 0]:=by
 rw [YT,Xj,Xk h];rfl
def qP (n:Nat):List (Nat×Nat):=(List.range n).flatMap fun x=>(List.range' (x+1) (n - (x+1))).map fun y=>(x,y)
def cr (t:List Nat):Nat:=(qP t.length).countP fun p=>decide (t.getD p.2 0 < t.getD p.1 0)
theorem qQ {n:Nat} {p:Nat×Nat}:p∈qP n↔p.1 < p.2/\p.2 < n:=by
 unfold qP
 simp only [Z6,Yh,XJ,List.mem_range']
 constructor
 ·rintro ⟨x,hx,y,⟨i,hi,rfl⟩,rfl⟩
  exact ⟨by show x < x+1+1*i;omega,by show x+1+1*i < n;omega⟩
 ·rintro ⟨h1,h2⟩
  exact ⟨p.1,by omega,p.2,⟨p.2 - (p.1+1),by omega,by omega⟩,rfl⟩
theorem yV (n:Nat):(qP n).Nodup:=by
 unfold qP List.Nodup
 rw [List.pairwise_flatMap]
 refine ⟨fun x _=>?_,?_⟩
 ·rw [List.pairwise_map]
  exact (List.nodup_range' (s:=x+1) (n:=n - (x+1))).imp fun h e=>h (by injection e)
 ·refine List.nodup_range.imp fun {x y} h p hp q hq e=>?_
  obtain ⟨_,_,rfl⟩:=Yh.mp hp
  obtain ⟨_,_,rfl⟩:=Yh.mp hq
  injection e with e1 e2
  exact h e1
theorem xZ {α:Type} {P Q:α->Bool} {a:α}:∀ {l:List α},l.Nodup->a∈l->(∀ b∈l,b≠a->P b=Q b)->P a=false->Q a=true->l.countP Q=l.countP P+1
 | [],_,h,_,_,_=>by cases h
 | b :: l,hn,h,he,hP,hQ=>by
  obtain ⟨hb,hn'⟩:=List.nodup_cons.mp hn
  by_cases hab:b=a
  ·subst hab
   rw [List.countP_cons_of_pos hQ,List.countP_cons_of_neg (by rw [hP];simp)]
   congr 1
   exact List.countP_congr fun c hc=>by rw [he c (Xw _ hc) (fun z=>hb (z ▸ hc))]
  ·have ih:=xZ hn' ((Xr.mp h).resolve_left fun z=>hab z.symm) (fun c hc=>he c (Xw _ hc)) hP hQ
   have e:=he b (by simp) hab
   cases hq:Q b with
   | true=>rw [List.countP_cons_of_pos hq,List.countP_cons_of_pos (by rw [e,hq]),ih]
   | false=>rw [List.countP_cons_of_neg (by rw [hq];simp),List.countP_cons_of_neg (by rw [e,hq];simp),ih]
def inv (E:List Nat):List Nat:=(List.range E.length).map fun x=>E.idxOf x
theorem bK (E:List Nat):(inv E).length=E.length:=by simp [inv]
theorem jP {E:List Nat} {x:Nat} (h:x < E.length):(inv E).getD x 0=E.idxOf x:=by
 unfold inv
 rw [Xj,XH,XM h];rfl
theorem gM {E:List Nat} (hn:E.Nodup) {i x:Nat} (h:E[i]?=some x):E.idxOf x=i:=by
 obtain ⟨hi,rfl⟩:=Xm.mp h
 exact hn.idxOf_getElem i hi
theorem O5 {E:List Nat} {n p:Nat} (hE:E.Perm (List.range n)) (hp:p+1 < n) (hw:qx E p=true):cr (inv (aP E p))=cr (inv E)+1:=by
 have hl:E.length=n:=by rw [hE.length_eq];simp
 have nd:E.Nodup:=hE.nodup_iff.mpr Z7
 have hlt:∀ x∈E,x < n:=fun x hx=>XJ.mp (hE.mem_iff.mp hx)
 have hin:∀ x,x < n->x∈E:=fun x hx=>hE.mem_iff.mpr (XJ.mpr hx)
 obtain ⟨a,ha⟩:∃ a,E[p]?=some a:=⟨_,Xk (by omega)⟩
 obtain ⟨b,hb⟩:∃ b,E[p+1]?=some b:=⟨_,Xk (by omega)⟩
 have da:E.getD p 0=a:=by rw [Xj,ha];rfl
 have db:E.getD (p+1) 0=b:=by rw [Xj,hb];rfl
 have hab:a < b:=by
  unfold qx at hw
  rw [da,db] at hw
  exact of_decide_eq_true hw
 have eF:aP E p=(E.set p b).set (p+1) a:=by unfold aP;rw [if_pos hw,da,db]
 have fp:=qO (E:=E) (p:=p) (by omega)
 have nF:(aP E p).Nodup:=fp.nodup_iff.mpr nd
 have lF:(aP E p).length=n:=by rw [qe];exact hl
 have gF:∀ i,(aP E p)[i]?=if i=p+1 then some a else if i=p then some b else E[i]?:=fun i=>by
  rw [eF]
  by_cases h1:i=p+1
  ·subst h1
   rw [if_pos rfl,Yk (by simp;omega)]
  ·rw [if_neg h1,XX (fun z=>h1 z.symm)]
   by_cases h2:i=p
   ·subst h2
    rw [if_pos rfl,Yk (by omega)]
   ·rw [if_neg h2,XX (fun z=>h2 z.symm)]
 have ia:E.idxOf a=p:=gM nd ha
 have ib:E.idxOf b=p+1:=gM nd hb
 have ja:(aP E p).idxOf a=p+1:=gM nF (by rw [gF,if_pos rfl])
 have jb:(aP E p).idxOf b=p:=gM nF (by rw [gF,if_neg (by omega),if_pos rfl])
 have other:∀ x,x < n->x≠a->x≠b->(aP E p).idxOf x=E.idxOf x/\E.idxOf x≠p/\E.idxOf x≠p+1:=fun x hx h1 h2=>by
  obtain ⟨i,hi,e⟩:=Zr.mp (hin x hx)
  have ei:E[i]?=some x:=by rw [Xk hi,e]
  have n1:i≠p:=fun z=>h1 (by subst z;rw [ha] at ei;exact (Ye ei).symm)
  have n2:i≠p+1:=fun z=>h2 (by subst z;rw [hb] at ei;exact (Ye ei).symm)
  rw [gM nd ei]
  exact ⟨gM nF (by rw [gF,if_neg n2,if_neg n1,ei]),n1,n2⟩
 have han:a < n:=hlt a (Xz ha)
 have hbn:b < n:=hlt b (Xz hb)
 unfold cr
 rw [bK,bK,lF,hl]
 refine xZ (a:=(a,b)) (yV n) (qQ.mpr ⟨hab,hbn⟩) ?_ ?_ ?_
 ·rintro ⟨x,y⟩ hxy hne
  obtain ⟨h1,h2⟩:=qQ.mp hxy
  dsimp only at h1 h2 ⊢
  have hx:x < n:=by omega
  rw [jP (by omega),jP (by omega),jP (by omega),jP (by omega)]
  congr 1
  rw [eq_iff_iff]
  by_cases xa:x=a
  ·subst xa
   have yb:y≠b:=fun z=>hne (by rw [z])
   obtain ⟨o1,o2,o3⟩:=other y h2 (by omega) yb
   rw [o1,ia,ja];omega
  ·by_cases xb:x=b
   ·subst xb
    obtain ⟨o1,o2,o3⟩:=other y h2 (by omega) (by omega)
    rw [o1,ib,jb];omega
   ·obtain ⟨q1,q2,q3⟩:=other x hx xa xb
    by_cases ya:y=a
    ·subst ya
     rw [q1,ia,ja];omega
    ·by_cases yb:y=b
     ·subst yb
      rw [q1,ib,jb];omega
     ·obtain ⟨o1,_,_⟩:=other y h2 ya yb
      rw [q1,o1]
 ·dsimp only
  rw [jP (by omega),jP (by omega),ia,ib]
  exact XD (by omega)
 ·dsimp only
  rw [jP (by omega),jP (by omega),ja,jb]
  exact XF (by omega)
theorem KR (n:Nat):cr (inv (List.range n))=0:=by
 unfold cr
 rw [List.countP_eq_zero]
 rintro ⟨x,y⟩ h
 rw [bK,Zt] at h
 obtain ⟨h1,h2⟩:=qQ.mp h
 dsimp only at h1 h2 ⊢
 have e:∀ z,z < n->(List.range n).idxOf z=z:=fun z hz=>gM Z7 (XM hz)
 rw [jP (by simpa using h2),jP (by simp;omega),e y h2,e x (by omega)]
 simp;omega
theorem KY {n:Nat} {ps:List Nat} (hp:∀ p∈ps,p+1 < n):∀ i,i<=ps.length->cr (inv (bD (List.range n) (ps.take i)))=(KQ (List.range n) ps i).length
 | 0,_=>by rw [List.take_zero];exact KR n
 | i+1,h=>by
  have ih:=KY hp i (by omega)
  have hmem:ps.getD i 0∈ps:=by rw [Xj,Xk (by omega)];exact YF _
  have hpm:(bD (List.range n) (ps.take i)).Perm (List.range n):=qg fun q hq=>by simpa using hp q (Zu hq)
  rw [tQ (by omega),mW,Ax]
  by_cases hw:qx (bD (List.range n) (ps.take i)) (ps.getD i 0)=true
  ·rw [O5 hpm (hp _ hmem) hw,ih,if_pos hw];simp
  ·rw [if_neg hw,X6,← ih]
   unfold aP
   rw [if_neg hw]
structure Prm (t:List Nat):Prop where
 le:t.length<=96
 pm:t.Perm (List.range t.length)
theorem Prm.nd {t:List Nat} (h:Prm t):t.Nodup:=h.pm.nodup_iff.mpr Z7
theorem Prm.lt {t:List Nat} (h:Prm t) {x:Nat} (hx:x∈t):x < t.length:=XJ.mp (h.pm.mem_iff.mp hx)
theorem Prm.mem {t:List Nat} (h:Prm t) {x:Nat} (hx:x < t.length):x∈t:=h.pm.mem_iff.mpr (XJ.mpr hx)
theorem Ho {n:Nat} (h:n<=96):Prm (List.range n):=⟨by simpa using h,by simp⟩
theorem Fd {n:Nat} {ps:List Nat} (h:n<=96) (hp:∀ p∈ps,p+1 < n):Prm (bD (List.range n) ps):=by
 have hl:(bD (List.range n) ps).length=n:=by rw [jK];simp
 refine ⟨by omega,?_⟩
 rw [hl]
 exact qg fun p hp'=>by simpa using hp p hp'
theorem qR {t r:List Nat} (hP:Prm t) (hl:r.length=t.length) (h:∀ (i x:Nat),t[i]?=some x->r[x]?=some i):r=inv t:=by
 refine ZS fun x=>?_
 by_cases hx:x < t.length
 ·obtain ⟨i,hi,e⟩:=Zr.mp (hP.mem hx)
  have ei:t[i]?=some x:=by rw [Xk hi,e]
  rw [h i x ei]
  unfold inv
  rw [XH,XM hx]
  show some i=some (t.idxOf x)
  rw [gM hP.nd ei]
 ·rw [Yw (by omega),Yw (by rw [bK];omega)]
theorem mj {E:List Nat} (h:Prm E):Prm (inv E):=by
 have hl:=bK E
 refine ⟨by rw [hl];exact h.le,?_⟩
 rw [hl]
 have nd:(inv E).Nodup:=by
  unfold inv
  unfold List.Nodup
  rw [List.pairwise_map]
  refine List.nodup_range.imp_of_mem fun {x y} hx hy ne e=>ne ?_
  have key:∀ z,z∈List.range E.length->E.getD (E.idxOf z) 0=z:=fun z hz=>by
   have hi:E.idxOf z < E.length:=List.idxOf_lt_length_iff.mpr (h.mem (XJ.mp hz))
   rw [Xj,Xk hi]
   exact List.getElem_idxOf hi
  rw [← key x hx,← key y hy,e]
 refine (List.perm_ext_iff_of_nodup nd Z7).mpr fun x=>?_
 rw [XJ]
 constructor
 ·intro hx
  unfold inv at hx
  obtain ⟨y,hy,rfl⟩:=Yh.mp hx
  exact List.idxOf_lt_length_iff.mpr (h.mem (XJ.mp hy))
 ·intro hx
  unfold inv
  refine Yh.mpr ⟨E[x],XJ.mpr (h.lt (YF hx)),?_⟩
  exact gM h.nd (Xk hx)
theorem qi {t:List Nat} (h:Prm t):inv (inv t)=t:=by
 refine (qR (mj h) (by rw [bK]) fun i x e=>?_).symm
 have hi:i < t.length:=by have:=(Xm.mp e).1;rwa [bK] at this
 have e2:(inv t)[i]?=some (t.idxOf i):=by unfold inv;rw [XH,XM hi];rfl
 rw [e] at e2
 cases e2
 have hx:t.idxOf i < t.length:=List.idxOf_lt_length_iff.mpr (h.mem hi)
 rw [Xk hx]
 exact congrArg some (List.getElem_idxOf hx)
def wF (B:List Nat) (p:Nat):List Nat:=(B.set p (B.getD (p+1) 0)).set (p+1) (B.getD p 0)
theorem nJ (B:List Nat) (p:Nat):(wF B p).length=B.length:=by unfold wF;simp
theorem getD_some {B:List Nat} {i:Nat} (h:i < B.length):B[i]?=some (B.getD i 0):=by rw [Xj,Xk h];rfl
theorem iH {B:List Nat} {p:Nat} (h:p+1 < B.length) (i:Nat):(wF B p).getD i 0=if i=p+1 then B.getD p 0 else if i=p then B.getD (p+1) 0 else B.getD i 0:=by
 unfold wF
 rw [Xj]
 by_cases h1:i=p+1
 ·subst h1
  rw [if_pos rfl,Yk (by simp;omega)];rfl
 ·rw [if_neg h1,XX (fun z=>h1 z.symm)]
  by_cases h2:i=p
  ·subst h2
   rw [if_pos rfl,Yk (by omega)];rfl
  ·rw [if_neg h2,XX (fun z=>h2 z.symm),← Xj]
theorem vZ {A B:List Nat} (hl:A.length=B.length) (h:∀ i,i < A.length->A.getD i 0=B.getD i 0):A=B:=by
 refine ZS fun i=>?_
 by_cases hi:i < A.length
 ·rw [getD_some hi,getD_some (by omega),h i hi]
 ·rw [Yw (by omega),Yw (by omega)]
theorem O6 {B:List Nat} {p:Nat} (h:p+1 < B.length):wF (wF B p) p=B:=by
 refine vZ (by rw [nJ,nJ]) fun i _=>?_
 rw [iH (by rw [nJ];exact h),iH h,iH h,iH h]
 by_cases h1:i=p+1
 ·subst h1;simp
 ·by_cases h2:i=p
  ·subst h2;simp
  ·simp [h1,h2]
theorem v4 {B:List Nat} {p:Nat} (h:qx B p=true):aP B p=wF B p:=by unfold aP wF;rw [if_pos h]
def inn:Nat->List Nat->List Nat->List Nat×List Nat
 | 0,B,u=>(B,u)
 | p+1,B,u=>if B.getD (p+1) 0 < B.getD p 0 then inn p (wF B p) (u ++ [p]) else (B,u)
def tR (B:List Nat):Nat->List Nat×List Nat
 | 0=>(B,[])
 | k+1=>inn (k+1) (tR B k).1 (tR B k).2
def Wk:List Nat->List Nat->Prop
 | _,[]=>True
 | B,p :: us=>qx B p=true/\Wk (aP B p) us
theorem QL:∀ {us B:List Nat} {j:Nat},Wk B us->j < us.length->qx (bD B (us.take j)) (us.getD j 0)=true
 | p :: us,B,0,h,_=>h.1
 | p :: us,B,j+1,h,hj=>QL (us:=us) (B:=aP B p) (j:=j) h.2 (by simpa using hj)
theorem Ug {B us:List Nat} (h:Wk B us):KQ B us us.length=List.range us.length:=by
 unfold KQ
 rw [List.filter_eq_self]
 intro j hj
 exact QL h (XJ.mp hj)
structure Sx (B0:List Nat) (n:Nat) (B u:List Nat):Prop where
 len:B.length=n
 pm:B.Perm (List.range n)
 lt:∀ p∈u,p+1 < n
 back:bD B u.reverse=B0
 wk:Wk B u.reverse
 link:∀ i,i < n->B.getD i 0=B0.getD ((bD (List.range n) u).getD i 0) 0
theorem QM {n:Nat} {u:List Nat} (h:∀ p∈u,p+1 < n):(bD (List.range n) u).Perm (List.range n):=qg fun p hp=>by simpa using h p hp
theorem yW {G:List Nat} {n i j:Nat} (h:G.Perm (List.range n)) (hi:i < n) (hj:j < n) (e:G.getD i 0=G.getD j 0):i=j:=by
 have nd:G.Nodup:=h.nodup_iff.mpr Z7
 have hl:G.length=n:=by rw [h.length_eq];simp
 have h1:=gM nd (getD_some (B:=G) (i:=i) (by omega))
 have h2:=gM nd (getD_some (B:=G) (i:=j) (by omega))
 rw [e] at h1
 omega
theorem KZ {G:List Nat} {n i:Nat} (h:G.Perm (List.range n)) (hi:i < n):G.getD i 0 < n:=by
 have hl:G.length=n:=by rw [h.length_eq];simp
 exact XJ.mp (h.mem_iff.mp (Xz (getD_some (by omega))))
theorem K1 {B0:List Nat} {n m:Nat} (hm:m < n):∀ (p:Nat) (B u:List Nat),p<=m->Sx B0 n B u->(∀ i j,i < j->j<=m->j≠p->B.getD i 0 < B.getD j 0)->
  (bD (List.range n) u).getD p 0=m->(∀ i,i<=m->(bD (List.range n) u).getD i 0<=m)->(∀ i,m < i->i < n->(bD (List.range n) u).getD i 0=i)->
  Sx B0 n (inn p B u).1 (inn p B u).2/\(∀ i j,i < j->j<=m->(inn p B u).1.getD i 0 < (inn p B u).1.getD j 0)/\(∀ i,i<=m->(bD (List.range n) (inn p B u).2).getD i 0<=m)/\(∀ i,m < i->i < n->(bD (List.range n) (inn p B u).2).getD i 0=i)
 | 0,B,u,_,S,srt,_,gle,gid=>⟨S,fun i j h1 h2=>srt i j h1 h2 (by omega),gle,gid⟩
 | p+1,B,u,hp,S,srt,gm,gle,gid=>by
  have hB:=S.len
  have hG:=QM S.lt
  have lG:(bD (List.range n) u).length=n:=by rw [hG.length_eq];simp
  unfold inn
  by_cases hc:B.getD (p+1) 0 < B.getD p 0
  ·rw [if_pos hc]
   have hp1:p+1 < B.length:=by omega
   have w1:qx (wF B p) p=true:=by
    unfold qx
    rw [iH hp1,iH hp1,if_neg (by omega),if_pos rfl,if_pos rfl]
    exact XF hc
   have w2:qx (bD (List.range n) u) p=true:=by
    unfold qx
    rw [gm]
    refine XF ?_
    have h1:=gle p (by omega)
    have h2:(bD (List.range n) u).getD p 0≠m:=fun z=>by
     have:=yW hG (i:=p) (j:=p+1) (by omega) (by omega) (by rw [z,gm])
     omega
    omega
   have eG:bD (List.range n) (u ++ [p])=wF (bD (List.range n) u) p:=by rw [mW,v4 w2]
   have bk:aP (wF B p) p=B:=by rw [v4 w1,O6 hp1]
   have S':Sx B0 n (wF B p) (u ++ [p]):=by
    refine ⟨by rw [nJ];exact hB,?_,?_,?_,?_,?_⟩
    ·have:=qO (E:=wF B p) (p:=p) (by rw [nJ];exact hp1)
     rw [bk] at this
     exact this.symm.trans S.pm
    ·intro q hq
     rcases Yx.mp hq with h | h
     ·exact S.lt q h
     ·rw [Yv.mp h];omega
    ·rw [List.reverse_append]
     show bD (aP (wF B p) p) u.reverse=B0
     rw [bk];exact S.back
    ·rw [List.reverse_append]
     show qx (wF B p) p=true/\Wk (aP (wF B p) p) u.reverse
     rw [bk];exact ⟨w1,S.wk⟩
    ·intro i hi
     rw [eG,iH hp1,iH (by omega)]
     by_cases h1:i=p+1
     ·rw [if_pos h1,if_pos h1];exact S.link p (by omega)
     ·rw [if_neg h1,if_neg h1]
      by_cases h2:i=p
      ·rw [if_pos h2,if_pos h2];exact S.link (p+1) (by omega)
      ·rw [if_neg h2,if_neg h2];exact S.link i hi
   refine K1 hm p (wF B p) (u ++ [p]) (by omega) S' (fun i j h1 h2 h3=>?_) ?_ (fun i hi=>?_) fun i h1 h2=>?_
   ·rw [iH hp1,iH hp1]
    by_cases j1:j=p+1
    ·subst j1
     rw [if_neg (show ¬ i=p+1 by omega),if_pos rfl]
     by_cases i2:i=p
     ·rw [if_pos i2];exact hc
     ·rw [if_neg i2];exact srt i p (by omega) (by omega) (by omega)
    ·rw [if_neg j1,if_neg h3]
     by_cases i1:i=p+1
     ·rw [if_pos i1];exact srt p j (by omega) h2 j1
     ·rw [if_neg i1]
      by_cases i2:i=p
      ·rw [if_pos i2];exact srt (p+1) j (by omega) h2 j1
      ·rw [if_neg i2];exact srt i j h1 h2 j1
   ·rw [eG,iH (by omega),if_neg (by omega),if_pos rfl];exact gm
   ·rw [eG,iH (by omega)]
    by_cases i1:i=p+1
    ·rw [if_pos i1];exact gle p (by omega)
    ·rw [if_neg i1]
     by_cases i2:i=p
     ·rw [if_pos i2];exact gle (p+1) hp
     ·rw [if_neg i2];exact gle i hi
   ·rw [eG,iH (by omega),if_neg (by omega),if_neg (by omega)];exact gid i h1 h2
  ·rw [if_neg hc]
   refine ⟨S,fun i j h1 h2=>?_,gle,gid⟩
   show B.getD i 0 < B.getD j 0
   by_cases hj:j=p+1
   ·subst hj
    have hne:B.getD p 0≠B.getD (p+1) 0:=fun z=>by
     have:=yW S.pm (i:=p) (j:=p+1) (by omega) (by omega) z
     omega
    by_cases hi:i=p
    ·subst hi;omega
    ·have:=srt i p (by omega) (by omega) (by omega)
     omega
   ·exact srt i j h1 h2 hj
theorem K3 {B0:List Nat} {n:Nat} (hB:B0.Perm (List.range n)):∀ k,k < n->Sx B0 n (tR B0 k).1 (tR B0 k).2/\(∀ i j,i < j->j<=k->(tR B0 k).1.getD i 0 < (tR B0 k).1.getD j 0)/\(∀ i,i<=k->(bD (List.range n) (tR B0 k).2).getD i 0<=k)/\(∀ i,k < i->i < n->(bD (List.range n) (tR B0 k).2).getD i 0=i)
 | 0,h=>by
  have hl:B0.length=n:=by rw [hB.length_eq];simp
  have hr:∀ i,i < n->(List.range n).getD i 0=i:=fun i hi=>by rw [Xj,XM hi];rfl
  refine ⟨⟨hl,hB,(fun p hp=>by cases hp),rfl,trivial,fun i hi=>?_⟩,(fun i j h1 h2=>by omega),fun i hi=>?_,fun i _ hi=>hr i hi⟩
  ·show B0.getD i 0=B0.getD ((List.range n).getD i 0) 0
   rw [hr i hi]
  ·have:i=0:=by omega
   subst this
   show (List.range n).getD 0 0<=0
   rw [hr 0 h]
   exact Xo _
 | k+1,h=>by
  obtain ⟨S,srt,gle,gid⟩:=K3 hB k (by omega)
  show Sx B0 n (inn (k+1) (tR B0 k).1 (tR B0 k).2).1 (inn (k+1) (tR B0 k).1 (tR B0 k).2).2/\_
  refine K1 h (k+1) _ _ (Xo _) S (fun i j h1 h2 h3=>srt i j h1 (by omega)) (gid (k+1) (by omega) h) (fun i hi=>?_) fun i h1 h2=>gid i (by omega) h2
  by_cases e:i=k+1
  ·subst e;rw [gid (k+1) (by omega) h];exact Xo _
  ·have:=gle i (by omega);omega
theorem yX {B:List Nat} {n:Nat} (hl:B.length=n) (hlt:∀ i,i < n->B.getD i 0 < n) (h:∀ i j,i < j->j < n->B.getD i 0 < B.getD j 0):B=List.range n:=by
 have mono:∀ d i,i+d < n->B.getD i 0+d<=B.getD (i+d) 0:=fun d=>by
  induction d with
  | zero=>intro i _;exact Xo _
  | succ d ih=>
   intro i hi
   have h1:=ih i (by omega)
   have h2:=h (i+d) (i+(d+1)) (by omega) hi
   omega
 refine vZ (by rw [hl];simp) fun i hi=>?_
 rw [hl] at hi
 rw [show (List.range n).getD i 0=i by rw [Xj,XM hi];rfl]
 have h1:=mono i 0 (by omega)
 have h2:=mono (n - 1 - i) i (by omega)
 have h3:=hlt (i+(n - 1 - i)) (by omega)
 rw [Nat.zero_add] at h1
 omega
def Hq (t:List Nat):List Nat:=(tR (inv t) (t.length - 1)).2
structure Und (t u:List Nat):Prop where
 lt:∀ p∈u,p+1 < t.length
 back:bD (List.range t.length) u.reverse=inv t
 wk:KQ (List.range t.length) u.reverse u.reverse.length=List.range u.reverse.length
 fw:bD (List.range t.length) u=t
theorem Df {t:List Nat} (h:Prm t):Und t (Hq t):=by
 have hP:=mj h
 have hl:=bK t
 by_cases h0:t.length=0
 ·have e:t=[]:=List.length_eq_zero_iff.mp h0
  subst e
  exact ⟨(fun p hp=>by cases hp),rfl,rfl,rfl⟩
 ·have pm:(inv t).Perm (List.range t.length):=by have:=hP.pm;rwa [hl] at this
  obtain ⟨S,srt,_,_⟩:=K3 pm (t.length - 1) (by omega)
  have e:(tR (inv t) (t.length - 1)).1=List.range t.length:=yX S.len (fun i hi=>KZ S.pm hi) fun i j h1 h2=>srt i j h1 (by omega)
  have bk:=S.back
  have wk:=S.wk
  have lk:=S.link
  rw [e] at bk wk lk
  refine ⟨S.lt,bk,Ug wk,?_⟩
  have hG:=QM S.lt
  have lG:(bD (List.range t.length) (tR (inv t) (t.length - 1)).2).length=t.length:=by rw [hG.length_eq];simp
  refine (qR (t:=inv t) hP (by rw [hl];exact lG) fun i x ex=>?_).trans (qi h)
  have hi:i < t.length:=by have:=(Xm.mp ex).1;omega
  have dx:(inv t).getD i 0=x:=by rw [Xj,ex];rfl
  have hx:x < t.length:=by rw [← dx];exact KZ pm hi
  have l1:=lk x hx
  rw [show (List.range t.length).getD x 0=x by rw [Xj,XM hx];rfl,← dx] at l1
  have gx:=KZ hG hx
  have:=yW pm hi gx (by rw [← dx];exact l1)
  exact (getD_some (B:=bD (List.range t.length) (tR (inv t) (t.length - 1)).2) (by rw [lG];exact hx)).trans (congrArg some this.symm)
theorem pairs_len {n:Nat} (h:n<=96):(qP n).length<=6000:=by
 have key:∀ n,n < 97->((List.range n).map fun x=>n - (x+1)).sum<=6000:=by trivial
 unfold qP
 rw [List.length_flatMap]
 have:=key n (by omega)
 simpa using this
theorem WF {t:List Nat} (h:t.length<=96):cr t<=6000:=XQ List.countP_le_length (pairs_len h)
theorem O7 {t:List Nat} (h:Prm t):(Hq t).reverse.length=cr t:=by
 have U:=Df h
 have hp:∀ p∈(Hq t).reverse,p+1 < t.length:=fun p hp=>U.lt p (List.mem_reverse.mp hp)
 have e:=KY hp (Hq t).reverse.length (Xo _)
 rw [YM,U.back,qi h,U.wk,Zt] at e
 exact e.symm
def cN (p x:Nat):Nat:=if p<=x then 1 else 0
def N:List Nat->Nat->Nat->Nat
 | [],_,_=>0
 | _ :: _,_,0=>0
 | x :: B,p,q+1=>cN p x+N B p q
theorem pA (B:List Nat) (p:Nat):N B p 0=0:=by cases B <;> rfl
theorem Ay:∀ (L M:List Nat) (p q:Nat),N (L ++ M) p q=N L p q+N M p (q - L.length)
 | [],M,p,q=>by simp [N]
 | x :: L,M,p,0=>by simp [N,pA]
 | x :: L,M,p,q+1=>by
  rw [Z4]
  show cN p x+N (L ++ M) p q=cN p x+N L p q+N M p (q+1 - (L.length+1))
  rw [Ay L M p q,show q+1 - (L.length+1)=q - L.length by omega];omega
theorem yZ:∀ (L:List Nat) (p q:Nat),L.length<=q->N L p q=N L p L.length
 | [],p,q,_=>rfl
 | x :: L,p,0,h=>by simp at h
 | x :: L,p,q+1,h=>by
  show cN p x+N L p q=cN p x+N L p L.length
  rw [yZ L p q (by simpa using h)]
theorem v5:∀ {B:List Nat} {p q:Nat},q < B.length->N B p (q+1)=N B p q+cN p (B.getD q 0)
 | x :: B,p,0,_=>by
  show cN p x+N B p 0=0+cN p x
  rw [pA];omega
 | x :: B,p,q+1,h=>by
  show cN p x+N B p (q+1)=cN p x+N B p q+cN p ((x :: B).getD (q+1) 0)
  rw [v5 (B:=B) (q:=q) (by simpa using h)]
  simp;omega
theorem WK {A B:List Nat} {n:Nat} (ha:A.length=n) (hb:B.length=n) (la:∀ x∈A,x < n) (lb:∀ x∈B,x < n) (h:∀ p q,p<=n->q<=n->N A p q=N B p q):A=B:=by
 refine vZ (by omega) fun i hi=>?_
 have key:∀ p,p<=n->cN p (A.getD i 0)=cN p (B.getD i 0):=fun p hp=>by
  have h1:=h p (i+1) hp (by omega)
  rw [v5 (by omega),v5 (by omega),h p i hp (by omega)] at h1
  omega
 have ma:=la _ (Xz (getD_some (B:=A) (i:=i) (by omega)))
 have mb:=lb _ (Xz (getD_some (B:=B) (i:=i) (by omega)))
 have k1:=key (A.getD i 0) (by omega)
 have k2:=key (B.getD i 0) (by omega)
 unfold cN at k1 k2
 rw [if_pos (Xo _)] at k1
 rw [if_pos (Xo (B.getD i 0))] at k2
 split at k1
 ·split at k2
  ·omega
  ·cases k2
 ·cases k1
theorem K4 {B:List Nat} {i:Nat} (h:i+1 < B.length) (p q:Nat):N (aP B i) p q=if q=i+1 then min (N B p i+1) (N B p (i+2)) else N B p q:=by
 obtain ⟨f1,f2⟩:=xY h
 have e:aP B i=B.take i ++ max (B.getD i 0) (B.getD (i+1) 0) :: min (B.getD i 0) (B.getD (i+1) 0) :: B.drop (i+2):=by
  unfold aP
  split
  ·rename_i hw
   have hw':B.getD i 0 < B.getD (i+1) 0:=of_decide_eq_true hw
   rw [f2,Nat.max_eq_right (by omega),ZP (by omega)]
  ·rename_i hw
   have hw':¬ B.getD i 0 < B.getD (i+1) 0:=fun z=>hw (XF z)
   rw [Nat.max_eq_left (by omega),Z5 (by omega)]
   exact f1
 have lL:(B.take i).length=i:=by rw [Y9];omega
 generalize B.getD i 0=a at f1 e
 generalize B.getD (i+1) 0=b at f1 e
 generalize B.take i=L at f1 e lL
 generalize B.drop (i+2)=R at f1 e
 rw [e,f1,Ay,Ay,Ay,Ay,lL]
 have hc:cN p (max a b)+cN p (min a b)=cN p a+cN p b:=by unfold cN;split <;> split <;> split <;> split <;> omega
 have hm:cN p (max a b)=min 1 (cN p a+cN p b):=by unfold cN;split <;> split <;> split <;> omega
 by_cases h1:q=i+1
 ·subst h1
  rw [if_pos rfl,show i+1 - i=1 by omega,show i - i=0 by omega,show i+2 - i=2 by omega,yZ L p (i+1) (by omega),yZ L p i (by omega),yZ L p (i+2) (by omega),pA]
  show N L p L.length+(cN p (max a b)+N (min a b :: R) p 0)=min (N L p L.length+0+1) (N L p L.length+(cN p a+(cN p b+N R p 0)))
  rw [pA,pA,hm];omega
 ·rw [if_neg h1]
  congr 1
  by_cases h2:q<=i
  ·rw [show q - i=0 by omega,pA,pA]
  ·obtain ⟨k,hk⟩:∃ k,q - i=k+2:=⟨q - i - 2,by omega⟩
   rw [hk]
   show cN p (max a b)+(cN p (min a b)+N R p k)=cN p a+(cN p b+N R p k)
   omega
theorem za (n p:Nat):∀ q,q<=n->N (List.range n) p q=q - p
 | 0,_=>by rw [pA];omega
 | q+1,h=>by
  rw [v5 (by simp;omega),za n p q (by omega),show (List.range n).getD q 0=q by rw [Xj,XM (by omega)];rfl]
  unfold cN
  split <;> omega
theorem Dg {B:List Nat} {p:Nat} {m:Nat}:∀ d,m+d<=B.length->N B p m<=N B p (m+d)/\N B p (m+d)<=N B p m+d
 | 0,_=>⟨Xo _,Xo _⟩
 | d+1,h=>by
  have:=Dg (B:=B) (p:=p) (m:=m) d (by omega)
  have e:=v5 (B:=B) (p:=p) (q:=m+d) (by omega)
  have:cN p (B.getD (m+d) 0)<=1:=by unfold cN;split <;> omega
  rw [show m+(d+1)=m+d+1 by omega,e]
  omega
theorem Uh {B:List Nat} {p q m:Nat} (hq:q<=B.length) (hm:m<=B.length):N B p q<=N B p m+(q - m):=by
 by_cases h:m<=q
 ·have:=(Dg (B:=B) (p:=p) (m:=m) (q - m) (by omega)).2
  rw [show m+(q - m)=q by omega] at this
  exact this
 ·have:=(Dg (B:=B) (p:=p) (m:=q) (m - q) (by omega)).1
  rw [show q+(m - q)=m by omega] at this
  omega
def Mp (n:Nat) (A B C:List Nat):Prop:=∀ p q,p<=n->q<=n->(∀ m,m<=n->N A p q<=N B p m+N C m q)/\∃ m,m<=n/\N A p q=N B p m+N C m q
theorem O8 {E:List Nat} {n:Nat} (hl:E.length=n):Mp n E E (List.range n):=fun p q hp hq=>by
 refine ⟨fun m hm=>?_,q,hq,?_⟩
 ·rw [za n m q hq]
  exact Uh (by omega) (by omega)
 ·rw [za n q q hq];omega
theorem Dh {E:List Nat} {n:Nat} {s:List Nat} (hl:E.length=n) (hs:∀ p∈s,p+1 < n):∀ k,k<=s.length->Mp n (bD E (s.take k)) E (bD (List.range n) (s.take k))
 | 0,_=>by rw [List.take_zero];exact O8 hl
 | k+1,hk=>by
  have ih:=Dh hl hs k (by omega)
  have hi:s.getD k 0+1 < n:=hs _ (Xz (getD_some (by omega)))
  rw [tQ (by omega),mW,mW]
  have l1:(bD E (s.take k)).length=n:=by rw [jK];exact hl
  have l2:(bD (List.range n) (s.take k)).length=n:=by rw [jK];simp
  generalize bD E (s.take k)=F at ih l1
  generalize bD (List.range n) (s.take k)=D at ih l2
  generalize s.getD k 0=i at hi
  intro p q hp hq
  rw [K4 (by omega)]
  have st:∀ m,N (aP D i) m q=if q=i+1 then min (N D m i+1) (N D m (i+2)) else N D m q:=fun m=>K4 (by omega) m q
  by_cases h1:q=i+1
  ·subst h1
   rw [if_pos rfl]
   obtain ⟨a1,m1,b1,c1⟩:=ih p i hp (by omega)
   obtain ⟨a2,m2,b2,c2⟩:=ih p (i+2) hp (by omega)
   refine ⟨fun m hm=>?_,?_⟩
   ·rw [st m,if_pos rfl]
    have:=a1 m hm
    have:=a2 m hm
    omega
   ·by_cases hc:N F p i+1<=N F p (i+2)
    ·refine ⟨m1,b1,?_⟩
     rw [st m1,if_pos rfl]
     have:=a2 m1 b1
     omega
    ·refine ⟨m2,b2,?_⟩
     rw [st m2,if_pos rfl]
     have:=a1 m2 b2
     omega
  ·rw [if_neg h1]
   obtain ⟨a1,m1,b1,c1⟩:=ih p q hp hq
   refine ⟨fun m hm=>?_,m1,b1,?_⟩
   ·rw [st m,if_neg h1];exact a1 m hm
   ·rw [st m1,if_neg h1];exact c1
theorem QQ {n:Nat} {A A' B C:List Nat} (h:Mp n A B C) (h':Mp n A' B C) {p q:Nat} (hp:p<=n) (hq:q<=n):N A p q<=N A' p q:=by
 obtain ⟨m,hm,e⟩:=(h' p q hp hq).2
 rw [e]
 exact (h p q hp hq).1 m hm
structure Pn (n:Nat) (A:List Nat):Prop where
 len:A.length=n
 lt:∀ x∈A,x < n
theorem Prm.pn {t:List Nat} {n:Nat} (h:Prm t) (hn:t.length=n):Pn n t:=⟨hn,fun x hx=>by rw [← hn];exact h.lt hx⟩
theorem Hr {n:Nat} {A A' B C:List Nat} (a:Pn n A) (a':Pn n A') (h:Mp n A B C) (h':Mp n A' B C):A=A':=
 WK a.len a'.len a.lt a'.lt fun p q hp hq=>Nat.le_antisymm (QQ h h' hp hq) (QQ h' h hp hq)
def lay (x y:List Nat):List Nat:=inv (bD (inv x) (Hq y).reverse)
structure Two (n:Nat) (x y:List Nat):Prop where
 px:Prm x
 py:Prm y
 lx:x.length=n
 ly:y.length=n
theorem Two.lt {n:Nat} {x y:List Nat} (h:Two n x y):∀ p∈(Hq y).reverse,p+1 < n:=fun p hp=>by
 have:=(Df h.py).lt p (List.mem_reverse.mp hp)
 rw [h.ly] at this
 exact this
theorem K5 {E ps:List Nat} (h:Prm E) (hp:∀ p∈ps,p+1 < E.length):Prm (bD E ps):=by
 have hl:=jK E ps
 refine ⟨by rw [hl];exact h.le,?_⟩
 rw [hl]
 exact (qg hp).trans h.pm
theorem Two.run {n:Nat} {x y:List Nat} (h:Two n x y):Prm (bD (inv x) (Hq y).reverse)/\(bD (inv x) (Hq y).reverse).length=n:=
 ⟨K5 (mj h.px) fun p hp=>by rw [bK,h.lx];exact h.lt p hp,by rw [jK,bK,h.lx]⟩
theorem Two.lay {n:Nat} {x y:List Nat} (h:Two n x y):Prm (lay x y)/\(lay x y).length=n/\Mp n (inv (lay x y)) (inv x) (inv y):=by
 obtain ⟨hP,hl⟩:=h.run
 unfold My.lay
 refine ⟨mj hP,by rw [bK];exact hl,?_⟩
 rw [qi hP]
 have:=Dh (E:=inv x) (n:=n) (s:=(Hq y).reverse) (by rw [bK,h.lx]) h.lt (Hq y).reverse.length (Xo _)
 rw [YM] at this
 have e:=(Df h.py).back
 rw [h.ly] at e
 rw [e] at this
 exact this
theorem Hs (n:Nat) (h:n<=96):inv (List.range n)=List.range n:=
 (qR (Ho h) rfl fun i x e=>by
  obtain ⟨hi,e⟩:=Xm.mp e
  rw [List.getElem_range] at e
  rw [← e,XM (by simpa using hi)]).symm
def rs (m:Nat) (e:Nat->Nat->Bool) (far i:Nat):List Nat:=(List.range far).flatMap fun j=>if e i j=true then [] else [m - 1 - i+j]
def al (m far:Nat) (e:Nat->Nat->Bool) (n:Nat):List Nat:=(List.range n).flatMap fun i=>rs m e far i
def Dn (n:Nat) (ps:List Nat):List Nat:=bD (List.range n) ps
theorem jD (E a b:List Nat):bD E (a ++ b)=bD (bD E a) b:=by unfold bD;rw [List.foldl_append]
theorem pB {n:Nat} {ps:List Nat} (h:n<=96) (hp:∀ p∈ps,p+1 < n):Prm (Dn n ps):=Fd h hp
theorem nM (n:Nat) (ps:List Nat):(Dn n ps).length=n:=by unfold Dn;rw [jK];simp
theorem WL {n:Nat} {a b:List Nat} (hb:∀ p∈b,p+1 < n):Mp n (Dn n (a ++ b)) (Dn n a) (Dn n b):=by
 have:=Dh (E:=Dn n a) (n:=n) (s:=b) (nM n a) hb b.length (Xo _)
 rw [YM] at this
 unfold Dn at this ⊢
 rw [jD]
 exact this
theorem gO {α β:Type} {f g:α->List β}:∀ {l:List α},(∀ x∈l,f x=g x)->l.flatMap f=l.flatMap g
 | [],_=>rfl
 | x :: l,h=>by rw [List.flatMap_cons,List.flatMap_cons,h x (by simp),gO fun y hy=>h y (by simp [hy])]
theorem zb {m far n:Nat} {e:Nat->Nat->Bool} {p:Nat} (hp:p∈al m far e n):∃ i j,i < n/\j < far/\p=m - 1 - i+j:=by
 unfold al rs at hp
 obtain ⟨i,hi,h⟩:=Z6.mp hp
 obtain ⟨j,hj,h⟩:=Z6.mp h
 refine ⟨i,j,XJ.mp hi,XJ.mp hj,?_⟩
 split at h
 ·cases h
 ·exact Yv.mp h
theorem mX {m far:Nat} {e:Nat->Nat->Bool}:∀ p∈al m far e m,p+1 < m+far:=fun p hp=>by
 obtain ⟨i,j,hi,hj,rfl⟩:=zb hp
 omega
theorem K6 {A E B:List Nat} {k p:Nat} (h:p+1 < E.length):aP (A ++ (E.map (k+ ·) ++ B)) (A.length+p)=A ++ ((aP E p).map (k+ ·) ++ B):=by
 have g:∀ i,i < E.length->(A ++ (E.map (k+ ·) ++ B)).getD (A.length+i) 0=k+E.getD i 0:=fun i hi=>by
  rw [Xj,X7 (by omega),Zc,Yg (by simpa using hi),XH,getD_some hi];rfl
 have w:qx (A ++ (E.map (k+ ·) ++ B)) (A.length+p)=qx E p:=by
  unfold qx
  rw [g p (by omega),Nat.add_assoc,g (p+1) h]
  exact decide_eq_decide.mpr (by omega)
 unfold aP
 rw [w]
 split
 ·rw [g p (by omega),Nat.add_assoc,g (p+1) h]
  have st:∀ (M:List Nat) (x i:Nat),i < M.length->(A ++ (M ++ B)).set (A.length+i) x=A ++ (M.set i x ++ B):=fun M x i hi=>by
   rw [List.set_append_right _ _ (by omega),Zc,List.set_append_left _ _ hi]
  rw [st _ _ p (by rw [X4];omega),st _ _ (p+1) (by rw [List.length_set,X4];omega),List.map_set,List.map_set]
 ·rfl
theorem zc {A B:List Nat} {k:Nat}:∀ {ps E:List Nat},(∀ p∈ps,p+1 < E.length)->bD (A ++ (E.map (k+ ·) ++ B)) (ps.map (A.length+ ·))=A ++ ((bD E ps).map (k+ ·) ++ B)
 | [],_,_=>rfl
 | p :: ps,E,h=>by
  show bD (aP _ (A.length+p)) (ps.map (A.length+ ·))=_
  rw [K6 (h p (by simp))]
  exact zc (ps:=ps) (E:=aP E p) fun q hq=>by rw [qe];exact h q (by simp [hq])
theorem K7 {k n:Nat} {ps:List Nat} (h:∀ p∈ps,p+1 < n):Dn (k+n) (ps.map (k+ ·))=List.range k ++ (Dn n ps).map (k+ ·):=by
 have:=zc (A:=List.range k) (B:=[]) (k:=k) (ps:=ps) (E:=List.range n) (fun p hp=>by simpa using h p hp)
 rw [X6,X6,Zt,← Zm] at this
 exact this
theorem Fe {n r:Nat} {ps:List Nat} (h:∀ p∈ps,p+1 < n):Dn (n+r) ps=Dn n ps ++ (List.range r).map (n+ ·):=by
 have:=zc (A:=[]) (B:=(List.range r).map (n+ ·)) (k:=0) (ps:=ps) (E:=List.range n) (fun p hp=>by simpa using h p hp)
 have z:∀ l:List Nat,l.map (0+ ·)=l:=fun l=>by simp
 simp only [List.nil_append,List.length_nil,z] at this
 unfold Dn
 rw [Zm]
 exact this
theorem Ff {k:Nat} {G:List Nat} (hG:Prm G) (hk:k+G.length<=96):inv (List.range k ++ G.map (k+ ·))=List.range k ++ (inv G).map (k+ ·):=by
 have pm:Prm (List.range k ++ G.map (k+ ·)):=by
  have hl:(List.range k ++ G.map (k+ ·)).length=k+G.length:=by simp
  refine ⟨by omega,?_⟩
  rw [hl,Zm]
  exact List.Perm.append_left _ (hG.pm.map _)
 refine (qR pm (by simp [bK]) fun i x e=>?_).symm
 by_cases hi:i < k
 ·rw [Yg (by simpa using hi),XM hi] at e
  obtain rfl:i=x:=Ye e
  rw [Yg (by simpa using hi),XM hi]
 ·rw [X7 (by simp;omega),Zt,XH] at e
  obtain ⟨y,hy,rfl⟩:=Option.map_eq_some_iff.mp e
  have yl:y < G.length:=hG.lt (Xz hy)
  rw [X7 (by simp),Zt,Zc,XH,getD_some (by rw [bK];exact yl),jP yl,gM hG.nd hy]
  show some (k+(i - k))=some i
  rw [Nat.add_sub_cancel' (by omega)]
theorem Az {r:Nat} {G:List Nat} (hG:Prm G) (hk:G.length+r<=96):inv (G ++ (List.range r).map (G.length+ ·))=inv G ++ (List.range r).map (G.length+ ·):=by
 have pm:Prm (G ++ (List.range r).map (G.length+ ·)):=by
  have hl:(G ++ (List.range r).map (G.length+ ·)).length=G.length+r:=by simp
  refine ⟨by omega,?_⟩
  rw [hl,Zm]
  exact hG.pm.append_right _
 refine (qR pm (by simp [bK]) fun i x e=>?_).symm
 by_cases hi:i < G.length
 ·rw [Yg hi] at e
  have yl:x < G.length:=hG.lt (Xz e)
  rw [Yg (by rw [bK];exact yl),getD_some (by rw [bK];exact yl),jP yl,gM hG.nd e]
 ·rw [X7 (by omega),XH] at e
  obtain ⟨y,hy,rfl⟩:=Option.map_eq_some_iff.mp e
  obtain ⟨h1,h2⟩:=Xm.mp hy
  rw [List.getElem_range] at h2
  rw [Zt] at h1
  subst h2
  rw [X7 (by rw [bK];omega),bK,Zc,XH,XM h1]
  show some (G.length+(i - G.length))=some i
  rw [Nat.add_sub_cancel' (by omega)]
theorem step_get {E:List Nat} {q i:Nat} (h:i < q\/q+1 < i):(aP E q).getD i 0=E.getD i 0:=by
 unfold aP
 split
 ·rw [Xj,XX (by omega),XX (by omega),← Xj]
 ·rfl
theorem Ba {E:List Nat} {q p:Nat} (h:p+2<=q\/q+2<=p):qx (aP E q) p=qx E p:=by
 unfold qx
 rw [step_get (by omega),step_get (by omega)]
theorem Ht {E:List Nat} {p q:Nat} (h:q+2<=p):aP (aP E q) p=aP (aP E p) q:=by
 have a:=Ba (E:=E) (q:=q) (p:=p) (.inr h)
 have b:=Ba (E:=E) (q:=p) (p:=q) (.inl h)
 have g1:=step_get (E:=E) (q:=q) (i:=p) (by omega)
 have g2:=step_get (E:=E) (q:=q) (i:=p+1) (by omega)
 have g3:=step_get (E:=E) (q:=p) (i:=q) (by omega)
 have g4:=step_get (E:=E) (q:=p) (i:=q+1) (by omega)
 rw [show aP (aP E q) p=if qx (aP E q) p=true then ((aP E q).set p ((aP E q).getD (p+1) 0)).set (p+1) ((aP E q).getD p 0) else aP E q from rfl,
  show aP (aP E p) q=if qx (aP E p) q=true then ((aP E p).set q ((aP E p).getD (q+1) 0)).set (q+1) ((aP E p).getD q 0) else aP E p from rfl,a,b,g1,g2,g3,g4]
 unfold aP
 by_cases h1:qx E p=true <;> by_cases h2:qx E q=true
 ·rw [if_pos h1,if_pos h2,if_pos h2,if_pos h1]
  rw [List.set_comm (E.getD q 0) (E.getD (p+1) 0) (by omega),List.set_comm (E.getD (q+1) 0) (E.getD (p+1) 0) (by omega),List.set_comm (E.getD q 0) (E.getD p 0) (by omega),List.set_comm (E.getD (q+1) 0) (E.getD p 0) (by omega)]
 ·rw [if_pos h1,if_neg h2,if_neg h2,if_pos h1]
 ·rw [if_neg h1,if_pos h2,if_pos h2,if_neg h1]
 ·rw [if_neg h1,if_neg h2,if_neg h2,if_neg h1]
theorem Fg:∀ {R E:List Nat} {q:Nat},(∀ p∈R,q+2<=p)->bD (aP E q) R=aP (bD E R) q
 | [],_,_,_=>rfl
 | p :: R,E,q,h=>by
  show bD (aP (aP E q) p) R=aP (bD (aP E p) R) q
  rw [Ht (h p (by simp))]
  exact Fg fun z hz=>h z (by simp [hz])
theorem Bb:∀ {L R E:List Nat},(∀ p∈R,∀ q∈L,q+2<=p)->bD (bD E R) L=bD (bD E L) R
 | [],_,_,_=>rfl
 | q :: L,R,E,h=>by
  show bD (aP (bD E R) q) L=bD (bD (aP E q) L) R
  rw [← Fg fun p hp=>h p hp q (by simp)]
  exact Bb fun p hp z hz=>h p hp z (by simp [hz])
def LN (m far:Nat) (e:Nat->Nat->Bool):List Nat:=inv (Dn (m+far) (al m far e m))
theorem gP (m far:Nat) (e:Nat->Nat->Bool):(LN m far e).length=m+far:=by unfold LN;rw [bK,nM]
theorem v6 {m far:Nat} {e:Nat->Nat->Bool} (h:m+far<=96):Prm (LN m far e):=mj (pB h mX)
theorem Pa (mu ml far:Nat) (e:Nat->Nat->Bool):al (mu+ml) far e (mu+ml)=(al mu far e mu).map (ml+ ·) ++ al ml far (fun i j=>e (mu+i) j) ml:=by
 unfold al
 rw [Zm,List.flatMap_append,List.flatMap_map,List.map_flatMap]
 congr 1
 ·refine gO fun i hi=>?_
  have hi:=XJ.mp hi
  unfold rs
  rw [List.map_flatMap]
  refine gO fun j hj=>?_
  split
  ·rfl
  ·show [mu+ml - 1 - i+j]=[ml+(mu - 1 - i+j)];congr 1;omega
 ·refine gO fun i hi=>?_
  have hi:=XJ.mp hi
  unfold rs
  refine gO fun j hj=>?_
  show (if e (mu+i) j=true then [] else [mu+ml - 1 - (mu+i)+j])=_
  rw [show mu+ml - 1 - (mu+i)+j=ml - 1 - i+j by omega]
theorem yc {n:Nat} {a b:List Nat} (h:n<=96) (ha:∀ p∈a,p+1 < n) (hb:∀ p∈b,p+1 < n):lay (inv (Dn n a)) (inv (Dn n b))=inv (Dn n (a ++ b)):=by
 have pa:=pB h ha
 have pb:=pB h hb
 have pab:Prm (Dn n (a ++ b)):=pB h fun p hp=>(Yx.mp hp).elim (ha p) (hb p)
 have T:Two n (inv (Dn n a)) (inv (Dn n b)):=⟨mj pa,mj pb,by rw [bK,nM],by rw [bK,nM]⟩
 obtain ⟨p1,l1,m1⟩:=T.lay
 rw [qi pa,qi pb] at m1
 have e:=Hr ((mj p1).pn (by rw [bK];exact l1)) (pab.pn (nM _ _)) m1 (WL hb)
 rw [← e,qi p1]
theorem K8 {mu ml far:Nat} {e:Nat->Nat->Bool} (h:mu+ml+far<=96):
  lay (List.range ml ++ (LN mu far e).map (ml+ ·)) (LN ml far (fun i j=>e (mu+i) j) ++ (List.range mu).map (ml+far+ ·))=LN (mu+ml) far e:=by
 have p1:=pB (n:=mu+far) (by omega) (mX (m:=mu) (far:=far) (e:=e))
 have p2:=pB (n:=ml+far) (by omega) (mX (m:=ml) (far:=far) (e:=fun i j=>e (mu+i) j))
 have l2:=nM (ml+far) (al ml far (fun i j=>e (mu+i) j) ml)
 have e1:List.range ml ++ (LN mu far e).map (ml+ ·)=inv (Dn (mu+ml+far) ((al mu far e mu).map (ml+ ·))):=by
  rw [show mu+ml+far=ml+(mu+far) by omega,K7 mX,Ff p1 (by rw [nM];omega)];rfl
 have e2:LN ml far (fun i j=>e (mu+i) j) ++ (List.range mu).map (ml+far+ ·)=inv (Dn (mu+ml+far) (al ml far (fun i j=>e (mu+i) j) ml)):=by
  have:=Az (r:=mu) p2 (by rw [l2];omega)
  rw [l2] at this
  rw [show mu+ml+far=(ml+far)+mu by omega,Fe mX,this];rfl
 rw [e1,e2,yc h,← Pa]
 ·rfl
 ·intro p hp
  obtain ⟨q,hq,rfl⟩:=Yh.mp hp
  have:=mX q hq
  omega
 ·intro p hp
  have:=mX p hp
  omega
theorem Hu (m fl fr:Nat) (e:Nat->Nat->Bool) (i:Nat):rs m e (fl+fr) i=rs m e fl i ++ (rs m (fun i j=>e i (fl+j)) fr i).map (fl+ ·):=by
 unfold rs
 rw [Zm,List.flatMap_append,List.flatMap_map,List.map_flatMap]
 congr 1
 refine gO fun j hj=>?_
 show (if e i (fl+j)=true then [] else [m - 1 - i+(fl+j)])=_
 split
 ·rfl
 ·show [m - 1 - i+(fl+j)]=[fl+(m - 1 - i+j)];congr 1;omega
theorem u0 (m far:Nat) (e:Nat->Nat->Bool) (n:Nat):al m far e (n+1)=al m far e n ++ rs m e far n:=by
 unfold al
 rw [List.range_succ,List.flatMap_append]
 simp
theorem yd {m fl fr:Nat} {e:Nat->Nat->Bool} (E:List Nat):∀ n,n<=m->bD E (al m (fl+fr) e n)=bD E (al m fl e n ++ (al m fr (fun i j=>e i (fl+j)) n).map (fl+ ·))
 | 0,_=>rfl
 | n+1,h=>by
  rw [u0,u0,u0,Hu,jD,yd E n (by omega),Yj,jD,jD,jD,jD,jD]
  refine congrArg (fun z=>bD z _) (Bb fun p hp q hq=>?_)
  obtain ⟨p',hp',rfl⟩:=Yh.mp hp
  obtain ⟨i,j,hi,hj,rfl⟩:=zb hp'
  unfold rs at hq
  obtain ⟨j',hj',hq⟩:=Z6.mp hq
  have hj':=XJ.mp hj'
  split at hq
  ·cases hq
  ·rw [Yv.mp hq];omega
theorem Di {m fl fr:Nat} {e:Nat->Nat->Bool} (h:m+(fl+fr)<=96):
  lay (LN m fl e ++ (List.range fr).map (m+fl+ ·)) (List.range fl ++ (LN m fr (fun i j=>e i (fl+j))).map (fl+ ·))=LN m (fl+fr) e:=by
 have p1:=pB (n:=m+fr) (by omega) (mX (m:=m) (far:=fr) (e:=fun i j=>e i (fl+j)))
 have p2:=pB (n:=m+fl) (by omega) (mX (m:=m) (far:=fl) (e:=e))
 have l2:=nM (m+fl) (al m fl e m)
 have e1:List.range fl ++ (LN m fr (fun i j=>e i (fl+j))).map (fl+ ·)=inv (Dn (m+(fl+fr)) ((al m fr (fun i j=>e i (fl+j)) m).map (fl+ ·))):=by
  rw [show m+(fl+fr)=fl+(m+fr) by omega,K7 mX,Ff p1 (by rw [nM];omega)];rfl
 have e2:LN m fl e ++ (List.range fr).map (m+fl+ ·)=inv (Dn (m+(fl+fr)) (al m fl e m)):=by
  have:=Az (r:=fr) p2 (by rw [l2];omega)
  rw [l2] at this
  rw [show m+(fl+fr)=(m+fl)+fr by omega,Fe mX,this];rfl
 rw [e1,e2,yc h]
 ·unfold LN Dn
  rw [yd _ m (Xo _)]
 ·intro p hp
  have:=mX p hp
  omega
 ·intro p hp
  obtain ⟨q,hq,rfl⟩:=Yh.mp hp
  have:=mX q hq
  omega
def top (i:Nat):Stmt:=PySem.Challenge.pw_panethread_k79_whole_rings_are_pieces.main.body.getD i (.Pass ⟨0,0,0,0⟩)
abbrev pC:Stmt:=top 17
abbrev pG:Stmt:=top 18
abbrev pI:Stmt:=top 19
abbrev tU:Stmt:=top 20
abbrev nO:Stmt:=top 21
abbrev pJ:Stmt:=top 22
abbrev rT:Stmt:=top 24
abbrev nP:Stmt:=top 25
abbrev qT:Stmt:=top 26
abbrev pK:Stmt:=top 27
abbrev nQ:Stmt:=top 28
abbrev nR:Stmt:=top 30
abbrev lH:Stmt:=top 31
abbrev qU:Stmt:=top 32
abbrev qW:Stmt:=top 33
abbrev rW:Stmt:=top 34
abbrev qX:Stmt:=top 40
abbrev qY:Stmt:=top 41
abbrev nU:Stmt:=top 42
abbrev Dj:Stmt:=top 43
abbrev mH:Stmt:=top 46
abbrev pL:Stmt:=top 47
abbrev nY:Stmt:=top 48
abbrev kI:Stmt:=top 49
abbrev jj:Stmt:=top 50
abbrev nZ:Stmt:=top 55
abbrev qZ:Stmt:=top 56
abbrev lJ:Stmt:=top 57
abbrev mJ:Stmt:=top 61
abbrev pM:Stmt:=top 62
abbrev n6:Stmt:=top 63
abbrev tV:Stmt:=top 64
abbrev pN:Stmt:=top 65
abbrev mq:Stmt:=top 66
abbrev jL:Stmt:=top 67
abbrev q9:Stmt:=top 68
abbrev kJ:Stmt:=top 69
abbrev rm:Stmt:=top 70
abbrev n8:Stmt:=top 71
abbrev fB:Stmt:=top 72
abbrev Bc:Stmt:=top 73
abbrev jt:Stmt:=lX 0 (top 36)
abbrev jQ:Stmt:=lX 0 (top 38)
abbrev gU:Stmt:=lX 0 (top 45)
abbrev oh:Stmt:=lX 1 (top 45)
abbrev pO:Stmt:=lX 2 (top 45)
abbrev oA:Stmt:=lX 3 (top 45)
abbrev mK:Stmt:=lX 4 (top 45)
abbrev mL:Stmt:=lX 5 (top 45)
abbrev lK:Stmt:=lX 6 (top 45)
abbrev ju:Stmt:=lX 0 (top 51)
abbrev lM:Stmt:=lX 0 (top 52)
abbrev jR:Stmt:=lX 0 (top 53)
abbrev jk:Stmt:=lX 0 (top 54)
abbrev jT:Stmt:=lX 0 (top 59)
abbrev Fi:Stmt:=initOf (top 3)
abbrev ye:Stmt:=initOf (top 4)
abbrev v7:Stmt:=initOf (top 5)
abbrev yf:Stmt:=initOf (top 6)
abbrev ux:Stmt:=initOf (top 7)
abbrev yg:Stmt:=initOf (top 8)
abbrev mY:Stmt:=initOf (top 9)
abbrev mZ:Stmt:=initOf (top 10)
local macro_rules | `(tactic| walk_at "s") => `(tactic| (with_reducible repeat (first | refine lU ?_ | walk_at "0")))
local macro_rules | `(tactic| walk_at "n") => `(tactic| (with_reducible repeat (walk_at "0")))
structure Txt (K:W.Frag) (mg:Str->Option Value):Prop where
 b_all:mg "all"=none
 b_any:mg "any"=none
 b_bool:mg "bool"=none
 b_enumerate:mg "enumerate"=none
 b_int:mg "int"=none
 b_isinstance:mg "isinstance"=none
 b_len:mg "len"=none
 b_list:mg "list"=none
 b_max:mg "max"=none
 b_range:mg "range"=none
 b_reversed:mg "reversed"=none
 b_str:mg "str"=none
 b_tuple:mg "tuple"=none
 c_LETTERS:∃ t,mg "LETTERS"=some (.str "abcdefghijklmnopqrstuvwxyz" t)
 c_MOST_LETTERS:∃ t,mg "MOST_LETTERS"=some (.int 24 t)
 c_MOST_LINES:∃ t,mg "MOST_LINES"=some (.int 96 t)
 c_MOST_SIGNS:∃ t,mg "MOST_SIGNS"=some (.int 48 t)
 c_POINT:∃ t,mg "POINT"=some (.str "." t)
 d_is_number:Def K mg "is_number" pC
 d_is_within:Def K mg "is_within" pG
 d_is_letter:Def K mg "is_letter" pI
 d_is_sign:Def K mg "is_sign" tU
 d_need_place:Def K mg "need_place" nO
 d_need_sign:Def K mg "need_sign" pJ
 d_is_row:Def K mg "is_row" rT
 d_is_plain:Def K mg "is_plain" nP
 d_need_row:Def K mg "need_row" qT
 d_need_rows:Def K mg "need_rows" pK
 d_need_plain:Def K mg "need_plain" nQ
 d_is_turning:Def K mg "is_turning" nR
 d_need_turning:Def K mg "need_turning" lH
 d_straight:Def K mg "straight" qU
 d_opposite:Def K mg "opposite" qW
 d_counts:Def K mg "counts" rW
 d_do_steps:Def K mg "do_steps" qX
 d_steps_of:Def K mg "steps_of" qY
 d_need_alike:Def K mg "need_alike" nU
 d_laid:Def K mg "laid" Dj
 d_need_pieces:Def K mg "need_pieces" mH
 d_need_same:Def K mg "need_same" pL
 d_need_short:Def K mg "need_short" nY
 d_lines_over:Def K mg "lines_over" kI
 d_lines_beside:Def K mg "lines_beside" jj
 d_all_beside:Def K mg "all_beside" nZ
 d_all_over:Def K mg "all_over" qZ
 d_balanced:Def K mg "balanced" lJ
 d_law_cell_at:Def K mg "_law_cell_at" mJ
 d_law_great:Def K mg "_law_great" pM
 d_law_letter:Def K mg "_law_letter" n6
 d_law_row:Def K mg "_law_row" tV
 d_law_round:Def K mg "_law_round" pN
 d_law_lines:Def K mg "_law_lines" mq
 d_law_right:Def K mg "_law_right" jL
 d_law_ring:Def K mg "_law_ring" q9
 d_law_unlike:Def K mg "_law_unlike" kJ
 d_law_over:Def K mg "_law_over" rm
 d_law_beside:Def K mg "_law_beside" n8
 d_law_beside_right:Def K mg "_law_beside_right" fB
 d_law:Def K mg "law" Bc
 x_PaneError:Hb K mg "PaneError"
 x_NoRow:oO K mg "NoRow" ["found"] "NoRow.__init__" Fi
 x_NoPlain:oO K mg "NoPlain" ["found"] "NoPlain.__init__" ye
 x_NoLetter:oO K mg "NoLetter" ["found"] "NoLetter.__init__" v7
 x_NoPlace:oO K mg "NoPlace" ["found"] "NoPlace.__init__" yf
 x_NoTurning:oO K mg "NoTurning" ["found"] "NoTurning.__init__" ux
 x_NoPiece:oO K mg "NoPiece" ["found"] "NoPiece.__init__" yg
 x_Unlike:oO K mg "Unlike" ["one","other"] "Unlike.__init__" mY
 x_TooLong:oO K mg "TooLong" ["found"] "TooLong.__init__" mZ
 o_Tally:jO K mg "Tally"
 n_Tally:∀ f∈(["held_ends","held_counts"]:List Str),NoAttr K (aM mg "Tally") f
 o_Asks:jO K mg "Asks"
 n_Asks:∀ f∈(["held_tally","held_many","held_far"]:List Str),NoAttr K (aM mg "Asks") f
 o_Piece:jO K mg "Piece"
 n_Piece:∀ f∈(["held_side","held_top","held_kind","held_lines","held_parts","held_height"]:List Str),NoAttr K (aM mg "Piece") f
 o_Blank:jO K mg "Blank"
 n_Blank:∀ f∈(["held_side","held_top","held_kind","held_lines","held_parts","held_height"]:List Str),NoAttr K (aM mg "Blank") f
 o_One:jO K mg "One"
 n_One:∀ f∈(["held_side","held_top","held_kind","held_lines","held_parts","held_height"]:List Str),NoAttr K (aM mg "One") f
 o_Over:jO K mg "Over"
 n_Over:∀ f∈(["held_side","held_top","held_kind","held_lines","held_parts","held_height"]:List Str),NoAttr K (aM mg "Over") f
 o_Beside:jO K mg "Beside"
 n_Beside:∀ f∈(["held_side","held_top","held_kind","held_lines","held_parts","held_height"]:List Str),NoAttr K (aM mg "Beside") f
 o_Ring:jO K mg "Ring"
 n_Ring:∀ f∈(["held_side","held_top","held_kind","held_lines","held_parts","held_height","held_row","held_asks"]:List Str),NoAttr K (aM mg "Ring") f
 os_Piece:Xe K mg ["Blank","One","Over","Beside","Ring"]
 t_Blank:ITxt K mg "Blank"
 t_One:ITxt K mg "One"
 t_Over:ITxt K mg "Over"
 t_Beside:ITxt K mg "Beside"
 t_Ring:ITxt K mg "Ring"
 u_Blank_Piece:Sub K mg "Blank" "Piece" true
 u_One_Piece:Sub K mg "One" "Piece" true
 u_Over_Piece:Sub K mg "Over" "Piece" true
 u_Beside_Piece:Sub K mg "Beside" "Piece" true
 u_Ring_Piece:Sub K mg "Ring" "Piece" true
 u_Ring_Blank:Sub K mg "Ring" "Blank" false
 u_Ring_One:Sub K mg "Ring" "One" false
 u_Ring_Over:Sub K mg "Ring" "Over" false
 u_Ring_Beside:Sub K mg "Ring" "Beside" false
 w_Piece_str:PySem.W.kitOne K (.type "str") (.ref (aM mg "Piece"))=some false
 w_Piece_int:PySem.W.kitOne K (.type "int") (.ref (aM mg "Piece"))=some false
 w_Piece_list:PySem.W.kitOne K (.type "list") (.ref (aM mg "Piece"))=some false
 w_Piece_tuple:PySem.W.kitOne K (.type "tuple") (.ref (aM mg "Piece"))=some false
 w_Piece_NoneType:PySem.W.kitOne K (.type "NoneType") (.ref (aM mg "Piece"))=some false
 w_Piece_bool:PySem.W.kitOne K (.type "bool") (.ref (aM mg "Piece"))=some false
 w_Piece_dict:PySem.W.kitOne K (.type "dict") (.ref (aM mg "Piece"))=some false
 m_Piece___init__:Ez K mg "Piece" "__init__" "Piece.__init__" gU
 m_Piece_side:lY K mg ["Blank","One","Over","Beside","Ring"] "side" "Piece.side" oh
 m_Piece_top:lY K mg ["Blank","One","Over","Beside","Ring"] "top" "Piece.top" pO
 m_Piece_kind:lY K mg ["Blank","One","Over","Beside","Ring"] "kind" "Piece.kind" oA
 m_Piece_lines:lY K mg ["Blank","One","Over","Beside","Ring"] "lines" "Piece.lines" mK
 m_Piece_parts:lY K mg ["Blank","One","Over","Beside","Ring"] "parts" "Piece.parts" mL
 m_Piece_height:lY K mg ["Blank","One","Over","Beside","Ring"] "height" "Piece.height" lK
 m_Tally___init__:qw K mg "Tally" "__init__" "Tally.__init__" jt
 m_Asks___init__:qw K mg "Asks" "__init__" "Asks.__init__" jQ
 m_Blank___init__:qw K mg "Blank" "__init__" "Blank.__init__" ju
 m_One___init__:qw K mg "One" "__init__" "One.__init__" lM
 m_Over___init__:qw K mg "Over" "__init__" "Over.__init__" jR
 m_Beside___init__:qw K mg "Beside" "__init__" "Beside.__init__" jk
 m_Ring___init__:qw K mg "Ring" "__init__" "Ring.__init__" jT
 u_Unlike_PaneError:Sub K mg "Unlike" "PaneError" true
 u_Unlike_NoPiece:Sub K mg "Unlike" "NoPiece" false
 u_Unlike_Unlike:Sub K mg "Unlike" "Unlike" true
 u_Unlike_TooLong:Sub K mg "Unlike" "TooLong" false
 u_TooLong_PaneError:Sub K mg "TooLong" "PaneError" true
 u_TooLong_NoPiece:Sub K mg "TooLong" "NoPiece" false
 u_TooLong_Unlike:Sub K mg "TooLong" "Unlike" false
 u_TooLong_TooLong:Sub K mg "TooLong" "TooLong" true
def Kd (K:W.Frag) (H:Hp) (v:V):Prop:=(∃ n,v= .int n)\/(∃ b,v= .bl b)\/∃ T,TyOf K H v (.type T)/\PySem.W.kitOne K (.type T) (.type "int")=some false
theorem Kd.same {K:W.Frag} {H H':Hp} {v:V} (h:Kd K H v) (s:Same H H'):Kd K H' v:=by
 rcases h with h | h | ⟨T,a,c⟩
 ·exact .inl h
 ·exact .inr (.inl h)
 ·exact .inr (.inr ⟨T,a.mono fun b o e _=>s b o e,c⟩)
def WM:V->Bool
 | .int _=>true
 | _=>false
def inB (v:V) (lo hi:Int):Bool:=match v with
 | .int n=>decide (lo<=n) && decide (n<=hi)
 | _=>false
section
variable {P:Program} {w:World} {K:W.Frag} {mg:Str->Option Value} {base:Heap}
theorem pP:Ue mY "self":=by trivial
theorem wL:Ue mY "one":=by trivial
theorem uH:Ue mY "other":=by trivial
theorem uI:Ue mZ "self":=by trivial
theorem tW:Ue mZ "found":=by trivial
theorem Same.put {H H':Hp} {p:Addr} {o:HO} (s:Same H H') (hn:H p=none):Same H (upd H' p o):=fun b u e=>by
 rw [aD (fun z=>by rw [z,hn] at e;cases e)]
 exact s b u e
theorem Same.back {H H':Hp} {p:Addr} (s:Same H H') (h:H' p=none):H p=none:=by
 cases e:H p with
 | none=>rfl
 | some o=>rw [s _ _ e] at h;cases h
theorem Ui {H:Hp} {v:V} {T:String} (h:TyOf K H v (.type T)) (k:PySem.W.kitOne K (.type T) (.type "int")=some false):WM v=false/\∀ lo hi,inB v lo hi=false:=by
 cases v with
 | int z=>
  cases h
  have:PySem.W.kitOne K (.type "int") (.type "int")=some true:=rfl
  rw [this] at k;cases k
 | _=>exact ⟨rfl,fun _ _=>rfl⟩
theorem Dk:aF ["self","one","other"] ["self","one","other"] (aB mY):=⟨rfl,rfl,rfl,by trivial,rfl,by trivial,by trivial⟩
theorem Hv (T:Txt K mg):Vc P w K mg base 1 "Unlike" (aM mg "Unlike") ["one","other"]:=mkX T.x_Unlike Dk (fun _ _ _ _ _ _ us hl=>L2.uE (fun _ _ _=>rfl) us hl) rfl fun f cdv A outer s H vs Q E hr h=>⟨_,(aA (yQ (K:=K) rfl (Cw 0 pP) (Cw 1 wL)) (aC (yQ (K:=K) rfl (Cw 0 pP) (Cw 2 uH)))),rd2 T.x_Unlike.c.cl.cls (T.x_Unlike.na _ (by simp)) (T.x_Unlike.na _ (by simp)) (by decide) h⟩
theorem Bd:aF ["self","found"] ["self","found"] (aB mZ):=⟨rfl,rfl,rfl,by trivial,rfl,by trivial,by trivial⟩
theorem Dl (T:Txt K mg):Vc P w K mg base 1 "TooLong" (aM mg "TooLong") ["found"]:=mkX T.x_TooLong Bd (fun _ _ _ _ _ _ us hl=>L2.rD (fun _ _=>rfl) us hl) rfl fun f cdv A outer s H vs Q E hr h=>⟨_,(aC (yQ (K:=K) rfl (Cw 0 uI) (Cw 1 tW))),rd1 T.x_TooLong.c.cl.cls (T.x_TooLong.na _ (by simp)) h⟩
def K9 (K:W.Frag):Sp:=fun vs H Q _=>∃ v:V,vs=[v]/\Kd K H v/\Q (.bl (WM v)) H
theorem zf:aF ["thing"] ["thing"] (aB pC):=⟨rfl,rfl,rfl,by trivial,rfl,by trivial,by trivial⟩
theorem pQ (T:Txt K mg):Has P w K mg base 1 "is_number" ["thing"] (K9 K):=by
 refine fK T.d_is_number zf (fun _ _ _ _ _ _ us hl=>L2.jc (fun _=>rfl) us hl) ?_ fun f cdv A outer s H vs Q E hr h=>?_
 ·rintro vs H Q E ⟨v,rfl,_⟩;rfl
 obtain ⟨v,rfl,hT,q⟩:=h
 have hu:=hr.units0
 have hu64:=hr.units
 refine ⟨_,(aC (aO (um (aH (iQ (K:=K) rfl) aR T.b_isinstance bx (aa (ao 0) (aa (wI aR T.b_int Tf (by trivial) (by trivial)) aq)) (by trivial) (by trivial)) (vK (JM (aH (iQ (K:=K) rfl) aR T.b_isinstance bx (aa (ao 0) (aa (wI aR T.b_bool Ei (by trivial) (by trivial)) aq)) (by trivial) (by trivial))))))),?_⟩
 walk_at "s"
 rcases hT with ⟨n,rfl⟩ | ⟨b,rfl⟩ | ⟨T',hty,hk⟩
 ·refine o4 (.int _) rfl ?_
  walk_at "s"
  refine o4 (.int _) rfl ?_
  walk_at "s"
  exact q
 ·refine o4 (.bl _) (b:=true) (by rfl) ?_
  walk_at "s"
  refine o4 (.bl _) (b:=true) (by rfl) ?_
  walk_at "s"
  exact q
 ·refine o4 hty hk ?_
  walk_at "s"
  rw [(Ui hty hk).1] at q
  exact q
def La (K:W.Frag):Sp:=fun vs H Q _=>∃ (v:V) (lo hi:Int),vs=[v,.int lo,.int hi]/\Kd K H v/\Q (.bl (inB v lo hi)) H
theorem zg:aF ["thing","low","high"] ["thing","low","high"] (aB pG):=⟨rfl,rfl,rfl,by trivial,rfl,by trivial,by trivial⟩
theorem iT (T:Txt K mg):Has P w K mg base 2 "is_within" ["thing","low","high"] (La K):=by
 have pQ:=pQ (P:=P) (w:=w) (base:=base) T
 refine fK T.d_is_within zg (fun _ _ _ _ _ _ us hl=>L2.uE (fun _ _ _=>rfl) us hl) ?_ fun f cdv A outer s H vs Q E hr h=>?_
 ·rintro vs H Q E ⟨v,lo,hi,rfl,_⟩;rfl
 obtain ⟨v,lo,hi,rfl,hT,q⟩:=h
 have hu:=hr.units0
 have hu64:=hr.units
 refine ⟨_,(aC (aO (um (aK pQ (hr.mono (by decide)) aR (aa (ao 0) aq) (by trivial)) (vK (NZ DW DW (ao 1) (ao 0) (ao 2)))))),?_⟩
 walk_at "s"
 refine ⟨v,rfl,hT,?_⟩
 walk_at "s"
 cases v with
 | int n=>
  show if true=true then _ else _
  walk_at "s"
  show if decide (lo<=n)=true then _ else _
  unfold inB at q
  dsimp only at q
  by_cases h:lo<=n
  ·rw [XF h] at q ⊢
   rw [Bool.true_and] at q
   walk_at "s"
   exact q
  ·rw [XD h] at q ⊢
   rw [Bool.false_and] at q
   walk_at "s"
   exact q
 | _=>exact q
def Fj (K:W.Frag) (mg:Str->Option Value):Sp:=fun vs H Q E=>∃ (v:V) (lo hi:Int),vs=[v,.int lo,.int hi]/\Kd K H v/\inB v lo hi=true/\Q .non H
theorem wM:aF ["thing","low","high"] ["thing","low","high"] (aB nO):=⟨rfl,rfl,rfl,by trivial,rfl,by trivial,by trivial⟩
theorem gW (T:Txt K mg):Has P w K mg base 3 "need_place" ["thing","low","high"] (Fj K mg):=by
 have iT:=iT (P:=P) (w:=w) (base:=base) T
 refine fK T.d_need_place wM (fun _ _ _ _ _ _ us hl=>L2.uE (fun _ _ _=>rfl) us hl) ?_ fun f cdv A outer s H vs Q E hr h=>?_
 ·rintro vs H Q E ⟨v,lo,hi,rfl,_⟩;rfl
 obtain ⟨v,lo,hi,rfl,hT,hb,q⟩:=h
 have hu:=hr.units0
 have hu64:=hr.units
 refine ⟨_,(aC (bZ (dR (dF (aK iT (hr.mono (by decide)) aR (aa (ao 0) (aa (ao 1) (aa (ao 2) aq))) (by trivial)))) (aC ji) bG)),?_⟩
 walk_at "s"
 refine ⟨v,lo,hi,rfl,hT,?_⟩
 walk_at "s"
 rw [hb]
 walk_at "s"
 exact q
theorem Lb (i j:Int):decide (V.int i=V.int j)=decide (i=j):=decide_eq_decide.mpr ⟨fun h=>V.int.inj h,fun h=>by rw [h]⟩
theorem aY (t:List Nat):((nI t).map V.int).length=t.length:=by unfold nI;rw [X4,X4]
theorem WN {t:List Nat} {k i:Nat} (h:t[k]?=some i):((nI t).map V.int)[k]?=some (.int (i:Int)):=by unfold nI;rw [XH,XH,h];rfl
theorem v8 {t:List Nat} {k:Nat} {v:V} (h:((nI t).map V.int)[k]?=some v):∃ i,t[k]?=some i/\v= .int (i:Int):=by
 unfold nI at h
 rw [XH,XH] at h
 cases e:t[k]? with
 | none=>rw [e] at h;cases h
 | some y=>rw [e] at h;exact ⟨y,rfl,(Ye h).symm⟩
theorem rY {t:List Nat} {k:Nat} {j:Int} (hk:k < t.length) (hj:j=(k:Int)):zO ((nI t).map V.int) j=some (.int ((t.getD k 0:Nat):Int)):=by
 subst hj
 refine p8 (WN ?_)
 rw [Xj,Xk hk];rfl
theorem oE (t:List Nat) (k x:Nat):((nI t).map V.int).set k (.int (x:Int))=(nI (t.set k x)).map V.int:=by unfold nI;rw [List.map_set,List.map_set]
theorem u6 (t:List Nat) (x:Nat):(nI t).map V.int ++ [.int (x:Int)]=(nI (t ++ [x])).map V.int:=by unfold nI;rw [Yj,Yj];rfl
theorem rZ {n p:Nat} {j:Int} (hj:j=(p:Int)) (h:p < n):HS n j=some p:=by
 subst hj
 unfold HS
 rw [if_pos (by omega),if_pos (by omega)]
 simp
theorem Be {H:Hp} {Q:VK} {E:XK} {n lo hi:Int} (h1:lo<=n) (h2:n<=hi) (h:Q .non H):Fj K mg [.int n,.int lo,.int hi] H Q E:=
 ⟨_,_,_,rfl,.inl ⟨_,rfl⟩,by unfold inB;simp;omega,h⟩
def Tn (H:Hp) (a:Addr) (t:List Nat):Prop:=H a=some (.lst ((nI t).map V.int))\/H a=some (.tup ((nI t).map V.int))
theorem Tn.same {H H':Hp} {a:Addr} {t:List Nat} (h:Tn H a t) (s:Same H H'):Tn H' a t:=h.imp (s _ _) (s _ _)
def Pb (us:List V):Bool:=decide (us.length<=96) && (us.all fun u=>inB u 0 ((us.length:Int) - 1)) && decide us.Nodup
theorem Fl {us:List V} (h:96 < us.length):Pb us=false:=by unfold Pb;rw [XD (by omega)];rfl
theorem Ld {us:List V} {u:V} (h:u∈us) (hb:inB u 0 ((us.length:Int) - 1)=false):Pb us=false:=by
 unfold Pb
 have:(us.all fun u=>inB u 0 ((us.length:Int) - 1))=false:=List.all_eq_false.mpr ⟨u,h,by rw [hb];simp⟩
 rw [this,Bool.and_false,Bool.false_and]
theorem Le {us:List V} {k:Nat} {u:V} (h:us[k]?=some u) (hm:u∈us.take k):Pb us=false:=by
 have:¬ us.Nodup:=fun nd=>by
  obtain ⟨i,hi,e⟩:=Zr.mp hm
  obtain ⟨hk,e2⟩:=Xm.mp h
  rw [Y9] at hi
  rw [List.getElem_take] at e
  exact List.pairwise_iff_getElem.mp nd i k (by omega) hk (by omega) (e.trans e2.symm)
 unfold Pb
 rw [XD this,Bool.and_false]
theorem Lf {us:List V} (h:us.length<=96) (hin:∀ u∈us,inB u 0 ((us.length:Int) - 1)=true) (hnd:us.Nodup):Pb us=true:=by
 unfold Pb
 rw [XF h,XF hnd,YW.mpr hin];rfl
theorem v9 {us:List V} {v:V} (h:us.Nodup) (hm:v ∉ us):(us ++ [v]).Nodup:=by
 refine List.nodup_append.mpr ⟨h,by simp,fun a ha b hb=>?_⟩
 rw [Yv.mp hb]
 exact fun z=>hm (z ▸ ha)
theorem Fo {v:V} {h:Int} (hb:inB v 0 h=true):∃ i:Nat,v= .int (i:Int)/\(i:Int)<=h:=by
 cases v with
 | int n=>
  unfold inB at hb
  simp at hb
  exact ⟨n.toNat,by rw [Int.toNat_of_nonneg hb.1],by omega⟩
 | _=>cases hb
def TnK (K:W.Frag) (H:Hp) (v:V) (b:Bool):Prop:=(∃ a us,v= .ref a/\(H a=some (.lst us)\/H a=some (.tup us))/\us.length<=10000/\(∀ u∈us,Kd K H u)/\b=Pb us)\/
 ∃ T,TyOf K H v (.type T)/\PySem.W.kitAny K (.type T) [.type "list",.type "tuple"]=some false/\b=false
theorem Pg {H:Hp} {a:Addr} {t:List Nat} (h:Tn H a t) (hP:Prm t):TnK K H (.ref a) true:=by
 have hle:=hP.le
 refine .inl ⟨a,_,rfl,h,by rw [aY];omega,fun u hu=>?_,?_⟩
 ·obtain ⟨x,_,rfl⟩:=Yh.mp hu
  exact .inl ⟨x,rfl⟩
 ·refine (Lf (by rw [aY];exact hle) (fun u hu=>?_) ?_).symm
  ·obtain ⟨x,hx,rfl⟩:=Yh.mp hu
   unfold nI at hx
   obtain ⟨y,hy,rfl⟩:=Yh.mp hx
   have:=hP.lt hy
   rw [aY]
   unfold inB
   simp;omega
  ·unfold nI List.Nodup
   rw [Zv,List.pairwise_map]
   exact hP.nd.imp fun {x y} h z=>h (by have e:((x:Nat):Int)=((y:Nat):Int):=V.int.inj z;omega)
def Uj (K:W.Frag):Sp:=fun vs H Q _=>∃ (v:V) (b:Bool),vs=[v]/\TnK K H v b/\∀ H',Same H H'->Q (.bl b) H'
theorem mO:aF ["thing","seen","end"] ["thing"] (aB nR):=⟨rfl,rfl,rfl,by trivial,rfl,by trivial,by trivial⟩
theorem oF (T:Txt K mg):Has P w K mg base 3 "is_turning" ["thing"] (Uj K):=by
 have iT:=iT (P:=P) (w:=w) (base:=base) T
 refine fK T.d_is_turning mO (fun _ _ _ _ _ _ us hl=>L2.jc (fun _=>rfl) us hl) ?_ fun f cdv A outer s H vs Q E hr h=>?_
 ·rintro vs H Q E ⟨v,bb,rfl,_⟩;rfl
 obtain ⟨v,bb,rfl,h,q⟩:=h
 have hu:=hr.units0
 have hu64:=hr.units
 refine ⟨_,(aA (bZ (jJ (jW (dR (dF (aH (jq (K:=K) rfl) aR T.b_isinstance bx (aa (ao 0) (aa (El (aa (wI aR T.b_list jf (by trivial) (by trivial)) (aa (wI aR T.b_tuple JK (by trivial) (by trivial)) aq))) aq)) (by trivial) (by trivial)))) (jo (bF t8 (aH (aG (K:=K) rfl) aR T.b_len aZ (aa (ao 0) aq) (by trivial) (by trivial)) (vJ aR T.c_MOST_LINES (by trivial)) (by walk_at "p"))))) (aC (aO mD)) bG) (aA (aJ (i:=1) mO.nd rfl eQ Ey rfl) (aA (iC Yo rfl (jh (K:=K) rfl (ao 0)) (d7 (i:=2) mO.nd rfl eQ rfl) (aA (bZ (jJ (jW (dR (dF (aK iT (hr.mono (by decide)) aR (aa (ao 2) (aa aL (aa (bc ni (aH (aG (K:=K) rfl) aR T.b_len aZ (aa (ao 0) aq) (by trivial) (by trivial)) aL) aq))) (by trivial)))) (jo (bF (Kl (K:=K) rfl hu64) (ao 2) (ao 1) (by walk_at "p"))))) (aC (aO mD)) bG) (aC (jB (ts:=oN) mD (mF (ao 1) (ao 2) (jC hu64)))))) (aC (aO mD))))),?_⟩
 walk_at "s"
 have hs:20000<=sizeLine:=by decide
 rcases h with ⟨a,us,rfl,ha,hlen,hkd,rfl⟩ | ⟨T',hty,hk,rfl⟩
 ·rcases ha with ha | ha
  ·skip
   refine ut rfl fun p np=>?_
   walk_at "s"
   have ha1:upd H p (.tup [.ty "list",.ty "tuple"]) a=some (.lst us):=eV np ha
   refine uZ (.lst ha1) aj rfl (b:=true) (by rfl) ?_
   walk_at "s"
   refine eO (SqL.of ha1) ?_
   walk_at "s"
   by_cases h96:96 < us.length
   ·rw [XF (show (96:Int) < (us.length:Int) by omega)]
    rw [Fl h96] at q
    walk_at "s"
    exact q _ ((Same.refl H).upd np)
   rw [XD (show ¬ (96:Int) < (us.length:Int) by omega)]
   walk_at "s"
   intro d nd
   have S1:Same H (upd (upd H p (.tup [.ty "list",.ty "tuple"])) d (.dK [])):=((Same.refl H).upd np).upd nd
   have hd0:upd (upd H p (.tup [.ty "list",.ty "tuple"])) d (.dK []) d=some (.dK []):=aj
   have nd':H d=none:=Same.back ((Same.refl H).upd np) nd
   generalize upd (upd H p (.tup [.ty "list",.ty "tuple"])) d (.dK [])=H1 at S1 hd0 ⊢
   walk_at "s"
   refine .inl ⟨a,rfl,⟨_,SqL.of (S1 _ _ ha)⟩,?_⟩
   refine vm (xs:=us) (fun k U H'=>∃ (kvs:List (Key×V)) (x2:Option V),U=[some (.ref a),some (.ref d),x2]/\Same H H'/\H' d=some (.dK kvs)/\kvs.length<=k/\(∀ n:Nat,jG kvs (Sum.inl (n:Int))=if V.int (n:Int)∈us.take k then some (.bl true) else none)/\(∀ u∈us.take k,inB u 0 ((us.length:Int) - 1)=true)/\(us.take k).Nodup)
    ⟨[],_,rfl,S1,hd0,by simp,fun n=>by simp [zV],by simp,by simp⟩ (fun i U H' _ h=>?_) ?_ ?_
   ·obtain ⟨_,_,_,s,_⟩:=h
    exact SqL.of (s _ _ ha)
   ·rintro k v U H' hk ⟨kvs,x2,rfl,s,hd,hkl,hv,hin,hnd⟩
    have hkt:k < us.length:=(Xm.mp hk).1
    have hmem:=Xz hk
    walk_at "s"
    refine eO (SqL.of (s _ _ ha)) ?_
    walk_at "s"
    refine ⟨_,_,_,rfl,(hkd v hmem).same s,?_⟩
    walk_at "s"
    cases hb:inB v 0 ((us.length:Int) - 1) with
    | false=>
     rw [Ld hmem hb] at q
     walk_at "s"
     exact q _ s
    | true=>
     obtain ⟨i,rfl,hi⟩:=Fo hb
     walk_at "s"
     refine .inr ⟨d,_,rfl,DGet.k (k:=Sum.inl (i:Int)) hd,?_⟩
     rw [hv i]
     by_cases hm:V.int (i:Int)∈us.take k
     ·rw [if_pos hm,show (some (V.bl true)).isSome=true from rfl]
      rw [Le hk hm] at q
      walk_at "s"
      exact q _ s
     ·rw [if_neg hm,show (none:Option V).isSome=false from rfl]
      walk_at "s"
      refine .inr ⟨d,_,rfl,DPut.k (k:=Sum.inl (i:Int)) hd (by omega),?_⟩
      have tk:us.take (k+1)=us.take k ++ [V.int (i:Int)]:=by rw [YT,hk];rfl
      refine ⟨_,_,rfl,Same.put s nd',aj,XQ (jH _ _ _) (by omega),fun n=>?_,fun u hu=>?_,?_⟩
      ·rw [rM,hv n,tk]
       by_cases hn:n=i
       ·subst hn;simp
       ·rw [if_neg (fun z=>hn (by have:=Sum.inl.inj z;omega))]
        have hne:¬ V.int (n:Int)=V.int (i:Int):=fun z=>hn (by have:=V.int.inj z;omega)
        simp [hne]
      ·rw [tk] at hu
       rcases Yx.mp hu with h | h
       ·exact hin u h
       ·rw [Yv.mp h];exact hb
      ·rw [tk]
       exact v9 hnd hm
   ·rintro U H' ⟨kvs,x2,rfl,s,hd,_,_,hin,hnd⟩
    rw [YM] at hin hnd
    rw [Lf (by omega) hin hnd] at q
    walk_at "s"
    exact q _ s
  ·skip
   refine ut rfl fun p np=>?_
   walk_at "s"
   have ha1:upd H p (.tup [.ty "list",.ty "tuple"]) a=some (.tup us):=eV np ha
   refine uZ (.tup ha1) aj rfl (b:=true) (by rfl) ?_
   walk_at "s"
   refine yM (SqT.of ha1) ?_
   walk_at "s"
   by_cases h96:96 < us.length
   ·rw [XF (show (96:Int) < (us.length:Int) by omega)]
    rw [Fl h96] at q
    walk_at "s"
    exact q _ ((Same.refl H).upd np)
   rw [XD (show ¬ (96:Int) < (us.length:Int) by omega)]
   walk_at "s"
   intro d nd
   have S1:Same H (upd (upd H p (.tup [.ty "list",.ty "tuple"])) d (.dK [])):=((Same.refl H).upd np).upd nd
   have hd0:upd (upd H p (.tup [.ty "list",.ty "tuple"])) d (.dK []) d=some (.dK []):=aj
   have nd':H d=none:=Same.back ((Same.refl H).upd np) nd
   generalize upd (upd H p (.tup [.ty "list",.ty "tuple"])) d (.dK [])=H1 at S1 hd0 ⊢
   walk_at "s"
   refine .inr (.inl ⟨a,rfl,⟨_,SqT.of (S1 _ _ ha)⟩,?_⟩)
   refine DK (xs:=us) (fun k U H'=>∃ (kvs:List (Key×V)) (x2:Option V),U=[some (.ref a),some (.ref d),x2]/\Same H H'/\H' d=some (.dK kvs)/\kvs.length<=k/\(∀ n:Nat,jG kvs (Sum.inl (n:Int))=if V.int (n:Int)∈us.take k then some (.bl true) else none)/\(∀ u∈us.take k,inB u 0 ((us.length:Int) - 1)=true)/\(us.take k).Nodup)
    ⟨[],_,rfl,S1,hd0,by simp,fun n=>by simp [zV],by simp,by simp⟩ (fun i U H' _ h=>?_) ?_ ?_
   ·obtain ⟨_,_,_,s,_⟩:=h
    exact SqT.of (s _ _ ha)
   ·rintro k v U H' hk ⟨kvs,x2,rfl,s,hd,hkl,hv,hin,hnd⟩
    have hkt:k < us.length:=(Xm.mp hk).1
    have hmem:=Xz hk
    walk_at "s"
    refine yM (SqT.of (s _ _ ha)) ?_
    walk_at "s"
    refine ⟨_,_,_,rfl,(hkd v hmem).same s,?_⟩
    walk_at "s"
    cases hb:inB v 0 ((us.length:Int) - 1) with
    | false=>
     rw [Ld hmem hb] at q
     walk_at "s"
     exact q _ s
    | true=>
     obtain ⟨i,rfl,hi⟩:=Fo hb
     walk_at "s"
     refine .inr ⟨d,_,rfl,DGet.k (k:=Sum.inl (i:Int)) hd,?_⟩
     rw [hv i]
     by_cases hm:V.int (i:Int)∈us.take k
     ·rw [if_pos hm,show (some (V.bl true)).isSome=true from rfl]
      rw [Le hk hm] at q
      walk_at "s"
      exact q _ s
     ·rw [if_neg hm,show (none:Option V).isSome=false from rfl]
      walk_at "s"
      refine .inr ⟨d,_,rfl,DPut.k (k:=Sum.inl (i:Int)) hd (by omega),?_⟩
      have tk:us.take (k+1)=us.take k ++ [V.int (i:Int)]:=by rw [YT,hk];rfl
      refine ⟨_,_,rfl,Same.put s nd',aj,XQ (jH _ _ _) (by omega),fun n=>?_,fun u hu=>?_,?_⟩
      ·rw [rM,hv n,tk]
       by_cases hn:n=i
       ·subst hn;simp
       ·rw [if_neg (fun z=>hn (by have:=Sum.inl.inj z;omega))]
        have hne:¬ V.int (n:Int)=V.int (i:Int):=fun z=>hn (by have:=V.int.inj z;omega)
        simp [hne]
      ·rw [tk] at hu
       rcases Yx.mp hu with h | h
       ·exact hin u h
       ·rw [Yv.mp h];exact hb
      ·rw [tk]
       exact v9 hnd hm
   ·rintro U H' ⟨kvs,x2,rfl,s,hd,_,_,hin,hnd⟩
    rw [YM] at hin hnd
    rw [Lf (by omega) hin hnd] at q
    walk_at "s"
    exact q _ s
 ·refine ut rfl fun p np=>?_
  walk_at "s"
  refine uZ (hty.mono fun b o e _=>eV np e) aj rfl hk ?_
  walk_at "s"
  exact q _ ((Same.refl H).upd np)
def Ph (K:W.Frag):Sp:=fun vs H Q _=>∃ (a:Addr) (t:List Nat),vs=[.ref a]/\Tn H a t/\Prm t/\∀ H',Same H H'->Q .non H'
theorem uJ:aF ["thing"] ["thing"] (aB lH):=⟨rfl,rfl,rfl,by trivial,rfl,by trivial,by trivial⟩
theorem bB (T:Txt K mg):Has P w K mg base 4 "need_turning" ["thing"] (Ph K):=by
 have oF:=oF (P:=P) (w:=w) (base:=base) T
 refine fK T.d_need_turning uJ (fun _ _ _ _ _ _ us hl=>L2.jc (fun _=>rfl) us hl) ?_ fun f cdv A outer s H vs Q E hr h=>?_
 ·rintro vs H Q E ⟨a,t,rfl,_⟩;rfl
 obtain ⟨a,t,rfl,ha,hP,q⟩:=h
 have hu:=hr.units0
 have hu64:=hr.units
 refine ⟨_,(aC (bZ (dR (dF (aK oF (hr.mono (by decide)) aR (aa (ao 0) aq) (by trivial)))) (aC ji) bG)),?_⟩
 walk_at "s"
 refine ⟨.ref a,true,rfl,Pg ha hP,fun H1 S1=>?_⟩
 walk_at "s"
 walk_at "s"
 exact q H1 S1
theorem Uk (n:Nat):((List.range n).map fun i:Nat=>V.int (0+(i:Int)*1))=(nI (List.range n)).map V.int:=by
 unfold nI
 rw [Zv]
 refine List.map_congr_left fun x _=>?_
 show V.int (0+(x:Int)*1)=V.int (x:Int)
 congr 1;omega
def Do:Sp:=fun vs H Q _=>∃ n:Nat,vs=[.int n]/\n<=96/\∀ q H',H q=none->Same H H'->H' q=some (.lst ((nI (List.range n)).map V.int))->Q (.ref q) H'
theorem Bf:aF ["many"] ["many"] (aB qU):=⟨rfl,rfl,rfl,by trivial,rfl,by trivial,by trivial⟩
theorem fG (T:Txt K mg):Has P w K mg base 4 "straight" ["many"] Do:=by
 have gW:=gW (P:=P) (w:=w) (base:=base) T
 refine fK T.d_straight Bf (fun _ _ _ _ _ _ us hl=>L2.jc (fun _=>rfl) us hl) ?_ fun f cdv A outer s H vs Q E hr h=>?_
 ·rintro vs H Q E ⟨n,rfl,_⟩;rfl
 obtain ⟨n,rfl,hn,q⟩:=h
 have hu:=hr.units0
 have hu64:=hr.units
 refine ⟨_,(aA (bj (aK gW (hr.mono (by decide)) aR (aa (ao 0) (aa aL (aa (vJ aR T.c_MOST_LINES (by trivial)) aq))) (by trivial))) (aC (aO (CW rfl aR T.b_list aR T.b_range (aa (ao 0) aq))))),?_⟩
 walk_at "s"
 refine Be (by omega) (by omega) ?_
 walk_at "s"
 refine Oq (n:=n) (by omega) ?_
 walk_at "s"
 intro p np
 rw [Uk]
 exact q p _ np ((Same.refl H).upd np) aj
def WP:Sp:=fun vs H Q _=>∃ (a:Addr) (t:List Nat),vs=[.ref a]/\H a=some (.lst ((nI t).map V.int))/\Prm t/\∀ q H',H q=none->Same H H'->H' q=some (.lst ((nI (inv t)).map V.int))->Q (.ref q) H'
theorem my:aF ["turning","begins","begin","end"] ["turning"] (aB qW):=⟨rfl,rfl,rfl,by trivial,rfl,by trivial,by trivial⟩
theorem iI (T:Txt K mg):Has P w K mg base 5 "opposite" ["turning"] WP:=by
 have bB:=bB (P:=P) (w:=w) (base:=base) T
 refine fK T.d_opposite my (fun _ _ _ _ _ _ us hl=>L2.jc (fun _=>rfl) us hl) ?_ fun f cdv A outer s H vs Q E hr h=>?_
 ·rintro vs H Q E ⟨a,t,rfl,_⟩;rfl
 obtain ⟨a,t,rfl,ha,hP,q⟩:=h
 have hu:=hr.units0
 have hu64:=hr.units
 refine ⟨_,(aA (bj (aK bB (hr.mono (by decide)) aR (aa (ao 0) aq) (by trivial))) (aA (aJ (i:=1) my.nd rfl eQ (bc nj (lA (aa aL aq)) (aH (aG (K:=K) rfl) aR T.b_len aZ (aa (ao 0) aq) (by trivial) (by trivial))) rfl) (aA (iC Yo rfl (Eo (K:=K) rfl rfl aR T.b_enumerate (aa (ao 0) aq)) (JN (K:=K) rfl rfl (rN (d7 (i:=2) my.nd rfl eQ rfl) (rN (d7 (i:=3) my.nd rfl eQ rfl) En))) (aC (jB (ts:=oN) (ao 2) (mF (ao 1) (ao 3) (jC hu64))))) (aC (aO (ao 1)))))),?_⟩
 walk_at "s"
 have hs:20000<=sizeLine:=by decide
 have hle:=hP.le
 refine ⟨_,t,rfl,.inl ha,hP,fun H1 S1=>?_⟩
 walk_at "s"
 ·skip
  refine ut rfl fun p np=>?_
  walk_at "s"
  refine eO (SqL.of (eV np (S1 _ _ ha))) ?_
  walk_at "s"
  rw [aY]
  refine Cy (k:=(t.length:Int)) aj (by omega) (by omega) (by simp;omega) fun b nb=>?_
  walk_at "s"
  have S2:Same H (upd (upd H1 p (.lst [.int 0])) b (.lst (List.replicate ((t.length:Int)).toNat [V.int 0]).flatten)):=(S1.upd np).upd nb
  have nb0:H b=none:=Same.back (S1.upd np) nb
  have hb0:upd (upd H1 p (.lst [.int 0])) b (.lst (List.replicate ((t.length:Int)).toNat [V.int 0]).flatten) b=some (.lst ((nI (List.replicate t.length 0)).map V.int)):=by
   rw [aj]
   congr 2
   unfold nI
   rw [ZF,ZF,show ((t.length:Int)).toNat=t.length by omega]
   generalize t.length=n
   induction n with
   | zero=>rfl
   | succ n ih=>rw [YH,Zo,ih,YH];rfl
  generalize upd (upd H1 p (.lst [.int 0])) b (.lst (List.replicate ((t.length:Int)).toNat [V.int 0]).flatten)=H2 at S2 hb0 ⊢
  refine .inr ⟨a,_,rfl,SqL.of (S2 _ _ ha),?_⟩
  refine xO (K:=K) (xs:=(nI t).map V.int) (fun k U H'=>∃ (r:List Nat) (x2 x3:Option V),U=[some (.ref a),some (.ref b),x2,x3]/\Same H H'/\H' b=some (.lst ((nI r).map V.int))/\r.length=t.length/\∀ (i x:Nat),i < k->t[i]?=some x->r[x]?=some i)
   ⟨List.replicate t.length 0,_,_,rfl,S2,hb0,by simp,fun i x h=>by omega⟩ (fun i U H' _ h=>?_) ?_ ?_
  ·obtain ⟨_,_,_,_,s,_⟩:=h
   exact SqL.of (s _ _ ha)
  ·rintro k U H' T v hk ⟨r,x2,x3,rfl,s,hb,hrl,hr⟩ nT
   obtain ⟨i,hi,rfl⟩:=v8 hk
   have hit:=hP.lt (Xz hi)
   refine cA (SqT.of aj) rfl ?_
   walk_at "s"
   refine kE (eV nT hb) (rZ (p:=i) rfl (by rw [aY];omega)) ?_
   walk_at "s"
   rw [oE]
   refine ⟨r.set i k,_,_,rfl,Same.put (s.upd nT) nb0,aj,by simp;omega,fun j x hj e=>?_⟩
   by_cases hjk:j=k
   ·subst hjk
    rw [hi] at e
    cases e
    rw [Yk (by omega)]
   ·have hx:x≠i:=fun z=>hjk (by
     subst z
     have h1:=gM hP.nd e
     have h2:=gM hP.nd hi
     omega)
    rw [XX (fun z=>hx z.symm)]
    exact hr j x (by omega) e
  ·rintro U H' ⟨r,x2,x3,rfl,s,hb,hrl,hr⟩
   walk_at "s"
   rw [aY] at hr
   have e:=qR hP hrl fun i x h=>hr i x (Xm.mp h).1 h
   rw [e] at hb
   exact q b _ nb0 s hb
end
local macro_rules | `(tactic| walk_at "s") => `(tactic| (with_reducible repeat (first | refine lU ?_ | walk_at "1")))
local macro_rules | `(tactic| walk_at "n") => `(tactic| (with_reducible repeat (walk_at "1")))
section
variable {P:Program} {w:World} {K:W.Frag} {mg:Str->Option Value} {base:Heap}
def spDo (K:W.Frag):Sp:=fun vs H Q _=>∃ (bg st:Addr) (E ps:List Nat),vs=[.ref bg,.ref st]/\H bg=some (.lst ((nI E).map V.int))/\H st=some (.lst ((nI ps).map V.int))/\bg≠st/\(∀ p∈ps,p+1 < E.length)/\ps.length<=6000/\
 ∀ q H',H q=none->Chg bg H H'->H' bg=some (.lst ((nI (bD E ps)).map V.int))->H' q=some (.lst ((nI (KQ E ps ps.length)).map V.int))->Q (.ref q) H'
theorem iU:aF ["begins","steps","working","place","step","lesser","greater"] ["begins","steps"] (aB qX):=⟨rfl,rfl,rfl,by trivial,rfl,by trivial,by trivial⟩
theorem rn (T:Txt K mg):Has P w K mg base 1 "do_steps" ["begins","steps"] (spDo K):=by
 refine fK T.d_do_steps iU (fun _ _ _ _ _ _ us hl=>L2.rD (fun _ _=>rfl) us hl) ?_ fun f cdv A outer s H vs Q E hr h=>?_
 ·rintro vs H Q E ⟨bg,st,E,ps,rfl,_⟩;rfl
 obtain ⟨bg,st,E,ps,rfl,hb,hst,hne,hp,hpl,q⟩:=h
 have hu:=hr.units0
 have hu64:=hr.units
 refine ⟨_,(aA (aJ (i:=2) iU.nd rfl eQ (lA aq) rfl) (aA (iC Yo rfl (Eo (K:=K) rfl rfl aR T.b_enumerate (aa (ao 1) aq)) (JN (K:=K) rfl rfl (rN (d7 (i:=3) iU.nd rfl eQ rfl) (rN (d7 (i:=4) iU.nd rfl eQ rfl) En))) (aA (aJ (i:=5) iU.nd rfl eQ (nG (K:=K) rfl (ao 0) (ao 4)) rfl) (aA (aJ (i:=6) iU.nd rfl eQ (nG (K:=K) rfl (ao 0) (bc aN (ao 4) aL)) rfl) (aC (bZ (bF Iz (ao 5) (ao 6) (by walk_at "p")) (aA (jB (ts:=oN) (ao 6) (mF (ao 0) (ao 4) (jC hu64))) (aA (jB (ts:=oN) (ao 5) (mF (ao 0) (bc aN (ao 4) aL) (jC hu64))) (aC (bj (yO (K:=K) rfl YZ PySem.F.slot_list_append PySem.F.type_list_append sX (ao 2) (aa (ao 3) aq)))))) bG))))) (aC (aO (ao 2))))),?_⟩
 walk_at "s"
 have hs:20000<=sizeLine:=by decide
 refine ut rfl fun wk nwk=>?_
 walk_at "s"
 have wb:wk≠bg:=fun z=>by rw [z,hb] at nwk;cases nwk
 have ws:wk≠st:=fun z=>by rw [z,hst] at nwk;cases nwk
 refine .inr ⟨st,_,rfl,SqL.of (eV nwk hst),?_⟩
 refine xO (K:=K) (xs:=(nI ps).map V.int) (fun k U H'=>∃ (x3 x4 x5 x6:Option V),U=[some (.ref bg),some (.ref st),some (.ref wk),x3,x4,x5,x6]/\Chg bg H H'/\H' st=some (.lst ((nI ps).map V.int))/\H' bg=some (.lst ((nI (bD E (ps.take k))).map V.int))/\H' wk=some (.lst ((nI (KQ E ps k)).map V.int)))
  ⟨_,_,_,_,rfl,(Chg.refl bg H).new nwk,eV nwk hst,eV nwk hb,aj⟩ (fun i U H' _ h=>?_) ?_ ?_
 ·obtain ⟨_,_,_,_,_,_,h,_⟩:=h
  exact SqL.of h
 ·rintro k U H' T v hk ⟨x3,x4,x5,x6,rfl,c,hst',hb',hw'⟩ nT
  obtain ⟨p,hpk,rfl⟩:=v8 hk
  have hkl:k < ps.length:=(Xm.mp hpk).1
  have hpd:ps.getD k 0=p:=by rw [Xj,hpk];rfl
  have hpE:p+1 < (bD E (ps.take k)).length:=by rw [jK];exact hp p (Xz hpk)
  have tk:ps.take (k+1)=ps.take k ++ [p]:=by rw [tQ hkl,hpd]
  have wsu:=Ax E ps k
  rw [hpd] at wsu
  have wl:=O4 E ps k
  have c1:Chg bg H (upd H' T (.tup [.int k,.int p])):=c.new nT
  have hT:upd H' T (.tup [.int k,.int p]) T=some (.tup [.int k,.int p]):=aj
  have hst1:=eV nT (o:=.tup [.int k,.int p]) hst'
  have hb1:=eV nT (o:=.tup [.int k,.int p]) hb'
  have hw1:=eV nT (o:=.tup [.int k,.int p]) hw'
  generalize upd H' T (.tup [.int k,.int p])=H1 at c1 hT hst1 hb1 hw1 ⊢
  have eR:bD E (ps.take (k+1))=aP (bD E (ps.take k)) p:=by rw [tk,mW]
  generalize bD E (ps.take k)=F at hpE hb1 eR wsu
  refine cA (SqT.of hT) rfl ?_
  walk_at "s"
  refine b7 (SqL.of hb1) (rY (k:=p) (by omega) rfl) ?_
  walk_at "s"
  refine b7 (SqL.of hb1) (rY (k:=p+1) (by omega) (by omega)) ?_
  walk_at "s"
  have ew:qx F p=decide (((F.getD p 0:Nat):Int) < ((F.getD (p+1) 0:Nat):Int)):=by unfold qx;exact decide_eq_decide.mpr (by omega)
  rw [← ew]
  refine iteB (fun hw=>?_) (fun hw=>?_)
  ·rw [if_pos hw] at wsu
   walk_at "s"
   refine kE hb1 (rZ (p:=p) rfl (by rw [aY];omega)) ?_
   walk_at "s"
   rw [oE]
   refine kE aj (rZ (p:=p+1) (by omega) (by rw [aY];simp;omega)) ?_
   walk_at "s"
   rw [oE,Dy]
   have hw2:upd H1 bg (.lst ((nI ((F.set p (F.getD (p+1) 0)).set (p+1) (F.getD p 0))).map V.int)) wk=some (.lst ((nI (KQ E ps k)).map V.int)):=by rw [aD wb];exact hw1
   refine ⟨.inl ⟨rfl,_,SqL.of hw2⟩,?_⟩
   walk_at "s"
   refine rO hw2 (by rw [aY];omega) ?_
   walk_at "s"
   rw [u6]
   refine ⟨_,_,_,_,rfl,?_,?_,?_,?_⟩
   ·intro b o nb e
    have nw:b≠wk:=fun z=>by rw [z,nwk] at e;cases e
    rw [aD nw,aD nb]
    exact c1 b o nb e
   ·rw [aD (Ne.symm ws),aD (Ne.symm hne)];exact hst1
   ·rw [aD (Ne.symm wb),aj,eR]
    unfold aP
    rw [if_pos hw]
   ·rw [aj,wsu]
  ·rw [if_neg (by rw [hw];simp),X6] at wsu
   walk_at "s"
   refine ⟨_,_,_,_,rfl,c1,hst1,?_,?_⟩
   ·rw [hb1,eR]
    unfold aP
    rw [if_neg (by rw [hw];simp)]
   ·rw [hw1,wsu]
 ·rintro U H' ⟨x3,x4,x5,x6,rfl,c,hst',hb',hw'⟩
  rw [aY] at hb' hw'
  rw [YM] at hb'
  walk_at "s"
  exact q wk H' nwk c hb' hw'
def MR (r:R2):Prop:=∀ x y H Q Q',(∀ v H1,Q v H1->Q' v H1)->r x y H Q->r x y H Q'
def ME (te:TE):Prop:=∀ U H Q Q',(∀ v H1,Q v H1->Q' v H1)->te U H Q->te U H Q'
def MT (te:TT):Prop:=∀ U H Q Q',(∀ v H1,Q v H1->Q' v H1)->te U H Q->te U H Q'
theorem QR (g:Int->Int->V):MR (Iv g):=by
 rintro x y H Q Q' h ⟨i,j,e1,e2,q⟩
 exact ⟨i,j,e1,e2,h _ _ q⟩
theorem QS:MR (RZ K):=by
 rintro x y H Q Q' h (⟨p,xs,i,v,a,b,c,d,q⟩ | ⟨p,xs,i,v,a,b,c,d,q⟩ | ⟨z,i,c,a,b,d,e,q⟩)
 ·exact .inl ⟨p,xs,i,v,a,b,c,d,h _ _ q⟩
 ·exact .inr (.inl ⟨p,xs,i,v,a,b,c,d,h _ _ q⟩)
 ·exact .inr (.inr ⟨z,i,c,a,b,d,e,h _ _ q⟩)
theorem Pj:MR Ab:=by
 rintro x y H Q Q' h (⟨i,j,a,b,q⟩ | ⟨i,j,a,b,c,q⟩ | ⟨p,q',xs,ys,a,b,c,d,e,q⟩)
 ·exact .inl ⟨i,j,a,b,h _ _ q⟩
 ·exact .inr (.inl ⟨i,j,a,b,c,h _ _ q⟩)
 ·exact .inr (.inr ⟨p,q',xs,ys,a,b,c,d,e,fun r hr=>h _ _ (q r hr)⟩)
theorem wg (i:Nat):ME (m8 i):=by
 rintro U H Q Q' h ⟨v,e,q⟩
 exact ⟨v,e,h _ _ q⟩
theorem WQ (v:V):ME (tC v):=fun U H Q Q' h q=>h _ _ q
theorem Bg {r:R2} {ta tb:TE} (hr:MR r) (ha:ME ta) (hb:ME tb):ME (Iu r ta tb):=fun U H Q Q' h q=>ha U H _ _ (fun x H1 q1=>hb U H1 _ _ (fun y H2 q2=>hr _ _ _ _ _ h q2) q1) q
theorem Fp {te:TE} (h:ME te):MT (DX te):=fun U H Q Q' hq q=>h U H _ _ (fun x H1 ⟨k,e,q1⟩=>⟨k,e,hq _ _ q1⟩) q
theorem Ul {t u:TT} (h:MT t) (h2:MT u):MT (Ml t u):=fun U H Q Q' hq q=>h U H _ _ (fun c H1 q1=>by
 cases c with
 | true=>rw [if_pos rfl] at q1 ⊢;exact h2 _ _ _ _ hq q1
 | false=>rw [if_neg Xq] at q1 ⊢;exact hq _ _ q1) q
def mu4 (U:St) (_:Hp):Nat:=match U[4]? with
 | some (some (V.int z))=>(z+1).toNat
 | _=>0
theorem uy:∀ (p:Nat) (B u:List Nat),(inn p B u).1.length=B.length
 | 0,_,_=>rfl
 | p+1,B,u=>by
  unfold inn
  split
  ·rw [uy p,nJ]
  ·rfl
theorem uz:∀ (p:Nat) (B u:List Nat),(inn p B u).2.length<=u.length+p
 | 0,_,_=>Xo _
 | p+1,B,u=>by
  unfold inn
  split
  ·have:=uz p (wF B p) (u ++ [p])
   rw [Yr,List.length_singleton] at this
   omega
  ·exact YL _ _
theorem uA (B:List Nat):∀ k,(tR B k).1.length=B.length
 | 0=>rfl
 | k+1=>(uy _ _ _).trans (uA B k)
theorem uB (B:List Nat):∀ k,k<=96->(tR B k).2.length<=96*k
 | 0,_=>Xo _
 | k+1,h=>by
  have h1:=uz (k+1) (tR B k).1 (tR B k).2
  have h2:=uB B k (by omega)
  show (inn (k+1) (tR B k).1 (tR B k).2).2.length<=_
  omega
def Hw:Sp:=fun vs H Q _=>∃ (a:Addr) (t:List Nat),vs=[.ref a]/\H a=some (.lst ((nI t).map V.int))/\Prm t/\∀ q H',H q=none->Same H H'->H' q=some (.lst ((nI (Hq t).reverse).map V.int))->Q (.ref q) H'
theorem gQ:aF ["turning","begins","undone","place","step","greater"] ["turning"] (aB qY):=⟨rfl,rfl,rfl,by trivial,rfl,by trivial,by trivial⟩
theorem rB (T:Txt K mg):Has P w K mg base 6 "steps_of" ["turning"] Hw:=by
 have iI:=iI (P:=P) (w:=w) (base:=base) T
 refine fK T.d_steps_of gQ (fun _ _ _ _ _ _ us hl=>L2.jc (fun _=>rfl) us hl) ?_ fun f cdv A outer s H vs Q E hr h=>?_
 ·rintro vs H Q E ⟨a,t,rfl,_⟩;rfl
 obtain ⟨a,t,rfl,hT,hP,q⟩:=h
 have hu:=hr.units0
 have hu64:=hr.units
 refine ⟨_,(aA (aJ (i:=1) gQ.nd rfl eQ (aK iI (hr.mono (by decide)) aR (aa (ao 0) aq) (by trivial)) rfl) (aA (aJ (i:=2) gQ.nd rfl eQ (lA aq) rfl) (aA (iC Yo rfl (GJ aR T.b_range (aa aL (aa (aH (aG (K:=K) rfl) aR T.b_len aZ (aa (ao 1) aq) (by trivial) (by trivial)) aq))) (d7 (i:=3) gQ.nd rfl eQ rfl) (aA (aJ (i:=4) gQ.nd rfl eQ (bc ni (ao 3) aL) rfl) (aC (JP Yo (jJ (yN (bF Qn (ao 4) aL (by walk_at "p")) (uU (bF t8 (nG (K:=K) rfl (ao 1) (ao 4)) (nG (K:=K) rfl (ao 1) (bc aN (ao 4) aL)) (by walk_at "p"))))) (aA (aJ (i:=5) gQ.nd rfl eQ (nG (K:=K) rfl (ao 1) (ao 4)) rfl) (aA (jB (ts:=oN) (nG (K:=K) rfl (ao 1) (bc aN (ao 4) aL)) (mF (ao 1) (ao 4) (jC hu64))) (aA (jB (ts:=oN) (ao 5) (mF (ao 1) (bc aN (ao 4) aL) (jC hu64))) (aA (bj (yO (K:=K) rfl YZ PySem.F.slot_list_append PySem.F.type_list_append sX (ao 2) (aa (ao 4) aq))) (aC (T5 (i:=4) gQ.nd rfl eQ aL MF rfl)))))))))) (aC (aO (xP (K:=K) rfl rfl aR T.b_list aR T.b_reversed (ao 2))))))),?_⟩
 walk_at "s"
 have hs:20000<=sizeLine:=by decide
 have hle:=hP.le
 have il:=bK t
 refine ⟨a,t,rfl,hT,hP,fun b H1 nb S1 hb=>?_⟩
 walk_at "s"
 refine ut rfl fun ud nud=>?_
 walk_at "s"
 have nud0:=Same.back S1 nud
 have bu:b≠ud:=fun z=>by rw [z,nud] at hb;cases hb
 refine eO (SqL.of (eV nud hb)) ?_
 walk_at "s"
 rw [aY]
 refine ⟨⟨by omega,by omega,by omega,by omega⟩,?_⟩
 rw [show (((inv t).length:Int) - 1).toNat=t.length - 1 by omega]
 refine jn (n:=t.length - 1) (fun k U H'=>∃ (x3 x4 x5:Option V),U=[some (.ref a),some (.ref b),some (.ref ud),x3,x4,x5]/\Same H H'/\H' b=some (.lst ((nI (tR (inv t) k).1).map V.int))/\H' ud=some (.lst ((nI (tR (inv t) k).2).map V.int)))
  ⟨_,_,_,rfl,S1.upd nud,eV nud hb,aj⟩ ?_ ?_
 ·rintro k U H' hk ⟨x3,x4,x5,rfl,s,hb1,hu1⟩
  walk_at "s"
  have ol:=uA (inv t) k
  have ul:=uB (inv t) k (by omega)
  refine Ir (fun U H'=>∃ (p:Nat) (B u:List Nat) (x5:Option V),U=[some (.ref a),some (.ref b),some (.ref ud),some (.int (1+(k:Int))),some (.int ((p:Int) - 1)),x5]/\Same H H'/\H' b=some (.lst ((nI B).map V.int))/\H' ud=some (.lst ((nI u).map V.int))/\p<=k+1/\B.length=t.length/\u.length+p<=96*k+k+1/\inn p B u=tR (inv t) (k+1)) mu4
   ⟨k+1,_,_,x5,by rw [show (((k+1:Nat):Int) - 1)=1+(k:Int) - 1 by omega];rfl,s,hb1,hu1,Xo _,by omega,by omega,rfl⟩ ?_ ?_
  ·rintro U H' ⟨p,B,u,x5,rfl,s,hb2,hu2,hp,hB,hul,hin⟩
   walk_at "s"
   cases p with
   | zero=>
    rw [XD (by omega)]
    walk_at "s"
    exact ⟨_,_,_,rfl,s,by rw [← hin];exact hb2,by rw [← hin];exact hu2⟩
   | succ p=>
    rw [show (((p+1:Nat):Int) - 1)=(p:Int) by omega,XF (show (0:Int)<=(p:Int) by omega)]
    walk_at "s"
    refine b7 (SqL.of hb2) (rY (k:=p) (by omega) rfl) ?_
    walk_at "s"
    refine b7 (SqL.of hb2) (rY (k:=p+1) (by omega) (by omega)) ?_
    walk_at "s"
    refine sZ (fun hc=>?_) (fun hc=>?_)
    ·have hin2:inn p (wF B p) (u ++ [p])=tR (inv t) (k+1):=by
      rw [← hin]
      conv=>rhs;unfold inn
      rw [if_pos (by omega)]
     walk_at "s"
     refine b7 (SqL.of hb2) (rY (k:=p) (by omega) rfl) ?_
     walk_at "s"
     refine b7 (SqL.of hb2) (rY (k:=p+1) (by omega) (by omega)) ?_
     walk_at "s"
     refine kE hb2 (rZ (p:=p) rfl (by rw [aY];omega)) ?_
     walk_at "s"
     rw [oE]
     refine kE aj (rZ (p:=p+1) (by omega) (by rw [aY];simp;omega)) ?_
     walk_at "s"
     rw [oE]
     have s3:Same H (upd (upd H' b (.lst ((nI (B.set p (B.getD (p+1) 0))).map V.int))) b (.lst ((nI ((B.set p (B.getD (p+1) 0)).set (p+1) (B.getD p 0))).map V.int))):=Same.put (Same.put s nb) nb
     have hb3:upd (upd H' b (.lst ((nI (B.set p (B.getD (p+1) 0))).map V.int))) b (.lst ((nI ((B.set p (B.getD (p+1) 0)).set (p+1) (B.getD p 0))).map V.int)) b=some (.lst ((nI (wF B p)).map V.int)):=aj
     have hu3:upd (upd H' b (.lst ((nI (B.set p (B.getD (p+1) 0))).map V.int))) b (.lst ((nI ((B.set p (B.getD (p+1) 0)).set (p+1) (B.getD p 0))).map V.int)) ud=some (.lst ((nI u).map V.int)):=by rw [aD (Ne.symm bu),aD (Ne.symm bu)];exact hu2
     generalize upd (upd H' b (.lst ((nI (B.set p (B.getD (p+1) 0))).map V.int))) b (.lst ((nI ((B.set p (B.getD (p+1) 0)).set (p+1) (B.getD p 0))).map V.int))=H3 at s3 hb3 hu3 ⊢
     refine ⟨.inl ⟨rfl,_,SqL.of hu3⟩,?_⟩
     walk_at "s"
     refine rO hu3 (by rw [aY];omega) ?_
     walk_at "s"
     rw [u6]
     refine ⟨⟨p,wF B p,u ++ [p],_,rfl,Same.put s3 nud0,by rw [aD bu];exact hb3,aj,by omega,by rw [nJ];exact hB,by simp;omega,hin2⟩,?_⟩
     show ((p:Int) - 1+1).toNat < ((p:Int)+1).toNat
     omega
    ·have hin2:(B,u)=tR (inv t) (k+1):=by
      rw [← hin]
      conv=>rhs;unfold inn
      rw [if_neg (by omega)]
     walk_at "s"
     exact ⟨_,_,_,rfl,s,by rw [← hin2];exact hb2,by rw [← hin2];exact hu2⟩
  ·exact Ul (Fp (Bg (QR _) (wg _) (WQ _))) (Fp (Bg (QR _) (Bg QS (wg _) (wg _)) (Bg QS (wg _) (Bg Pj (wg _) (WQ _)))))
 ·rintro U H' ⟨x3,x4,x5,rfl,s,hb1,hu1⟩
  walk_at "s"
  refine ⟨_,rfl,_,_,rfl,SqL.of hu1,fun r nr=>?_⟩
  refine q r _ (Same.back s nr) (s.upd nr) ?_
  rw [aj]
  unfold nI Hq
  rw [List.map_reverse,List.map_reverse]
def Pk (K:W.Frag):Sp:=fun vs H Q _=>∃ a b x y,vs=[.ref a,.ref b]/\H a=some (.lst ((nI x).map V.int))/\H b=some (.lst ((nI y).map V.int))/\Prm x/\Prm y/\x.length=y.length/\∀ H',Same H H'->Q .non H'
theorem wN:aF ["one","other"] ["one","other"] (aB nU):=⟨rfl,rfl,rfl,by trivial,rfl,by trivial,by trivial⟩
theorem oG (T:Txt K mg):Has P w K mg base 5 "need_alike" ["one","other"] (Pk K):=by
 have bB:=bB (P:=P) (w:=w) (base:=base) T
 refine fK T.d_need_alike wN (fun _ _ _ _ _ _ us hl=>L2.rD (fun _ _=>rfl) us hl) ?_ fun f cdv A outer s H vs Q E hr h=>?_
 ·rintro vs H Q E ⟨a,b,x,y,rfl,_⟩;rfl
 obtain ⟨a,b,x,y,rfl,ha,hb,px,py,he,q⟩:=h
 have hu:=hr.units0
 have hu64:=hr.units
 refine ⟨_,(aA (bj (aK bB (hr.mono (by decide)) aR (aa (ao 0) aq) (by trivial))) (aA (bj (aK bB (hr.mono (by decide)) aR (aa (ao 1) aq) (by trivial))) (aC (bZ (bF (CJ (K:=K) rfl hu64) (aH (aG (K:=K) rfl) aR T.b_len aZ (aa (ao 0) aq) (by trivial) (by trivial)) (aH (aG (K:=K) rfl) aR T.b_len aZ (aa (ao 1) aq) (by trivial) (by trivial)) (by walk_at "p")) (aC ji) bG)))),?_⟩
 walk_at "s"
 refine ⟨a,x,rfl,.inl ha,px,fun H1 S1=>?_⟩
 walk_at "s"
 refine ⟨b,y,rfl,.inl (S1 _ _ hb),py,fun H2 S2=>?_⟩
 walk_at "s"
 have U2:=S1.trans S2
 refine eO (SqL.of (U2 _ _ ha)) ?_
 walk_at "s"
 refine eO (SqL.of (U2 _ _ hb)) ?_
 walk_at "s"
 rw [aY,aY,Lb,XF (show (x.length:Int)=(y.length:Int) by omega)]
 walk_at "s"
 exact q _ U2
def Um (K:W.Frag):Sp:=fun vs H Q _=>∃ a b x y n,vs=[.ref a,.ref b]/\H a=some (.lst ((nI x).map V.int))/\H b=some (.lst ((nI y).map V.int))/\Two n x y/\∀ q H',H q=none->Same H H'->H' q=some (.lst ((nI (lay x y)).map V.int))->Q (.ref q) H'
theorem Fq:aF ["one","other","begins"] ["one","other"] (aB Dj):=⟨rfl,rfl,rfl,by trivial,rfl,by trivial,by trivial⟩
theorem tX (T:Txt K mg):Has P w K mg base 7 "laid" ["one","other"] (Um K):=by
 have oG:=oG (P:=P) (w:=w) (base:=base) T
 have iI:=iI (P:=P) (w:=w) (base:=base) T
 have rn:=rn (P:=P) (w:=w) (base:=base) T
 have rB:=rB (P:=P) (w:=w) (base:=base) T
 refine fK T.d_laid Fq (fun _ _ _ _ _ _ us hl=>L2.rD (fun _ _=>rfl) us hl) ?_ fun f cdv A outer s H vs Q E hr h=>?_
 ·rintro vs H Q E ⟨a,b,x,y,n,rfl,_⟩;rfl
 obtain ⟨a,b,x,y,n,rfl,ha,hb,h2,q⟩:=h
 have hu:=hr.units0
 have hu64:=hr.units
 refine ⟨_,(aA (bj (aK oG (hr.mono (by decide)) aR (aa (ao 0) (aa (ao 1) aq)) (by trivial))) (aA (aJ (i:=2) Fq.nd rfl eQ (aK iI (hr.mono (by decide)) aR (aa (ao 0) aq) (by trivial)) rfl) (aA (bj (aK rn (hr.mono (by decide)) aR (aa (ao 2) (aa (aK rB (hr.mono (by decide)) aR (aa (ao 1) aq) (by trivial)) aq)) (by trivial))) (aC (aO (aK iI (hr.mono (by decide)) aR (aa (ao 2) aq) (by trivial))))))),?_⟩
 walk_at "s"
 have cl:=WF h2.py.le
 refine ⟨a,b,x,y,rfl,ha,hb,h2.px,h2.py,by rw [h2.lx,h2.ly],fun H1 S1=>?_⟩
 walk_at "s"
 refine ⟨a,x,rfl,S1 _ _ ha,h2.px,fun bg H2 nb S2 hb2=>?_⟩
 walk_at "s"
 refine ⟨b,y,rfl,(S1.trans S2) _ _ hb,h2.py,fun st H3 nst S3 hst=>?_⟩
 walk_at "s"
 have nb0:=Same.back S1 nb
 have hne:bg≠st:=fun z=>by rw [z] at hb2;rw [hb2] at nst;cases nst
 refine ⟨bg,st,inv x,(Hq y).reverse,rfl,S3 _ _ hb2,hst,hne,(fun p hp=>by rw [bK,h2.lx];exact h2.lt p hp),(by rw [O7 h2.py];exact cl),fun wk H4 nwk C4 hb4 hw4=>?_⟩
 walk_at "s"
 have S4:Same H H4:=fun c o e=>C4 c o (fun z=>by rw [z,nb0] at e;cases e) (S3 _ _ (S2 _ _ (S1 _ _ e)))
 refine ⟨bg,_,rfl,hb4,h2.run.1,fun r H5 nr S5 hr=>?_⟩
 exact q r H5 (Same.back S4 nr) (S4.trans S5) hr
end
local macro_rules | `(tactic| walk_at "s") => `(tactic| (with_reducible repeat (first | refine lU ?_ | walk_at "2")))
local macro_rules | `(tactic| walk_at "n") => `(tactic| (with_reducible repeat (walk_at "2")))
section
variable {P:Program} {w:World} {K:W.Frag} {mg:Str->Option Value} {base:Heap}
theorem Bh:(["sign"]:List Str).Nodup:=by trivial
def tY:Str:=Str.ofString "abcdefghijklmnopqrstuvwxyz"
def GOOD:List Nat:=(tY ++ Str.ofString ".").cps.toList
def Row (z:Str):Prop:=z.length<=48/\∀ c∈z.cps.toList,c∈GOOD
def uK (l:Str) (c:Nat):Bool:=(Builtin.Str.occurrences l ⟨#[c]⟩ 0 l.length 1).isEmpty
theorem Pq:∀ c∈GOOD,uK (tY ++ Str.ofString ".") c=false:=by trivial
def Pr:Sp:=fun vs H Q _=>∃ z:Str,vs=[.str z]/\Row z/\∀ H',Same H H'->Q (.bl true) H'
def Uo:Sp:=fun vs H Q _=>∃ z:Str,vs=[.str z]/\Row z/\∀ H',Same H H'->Q .non H'
def Pu:Sp:=fun vs H Q _=>∃ z y:Str,vs=[.str z,.str y]/\Row z/\Row y/\∀ H',Same H H'->Q .non H'
theorem Hy:aF ["thing"] ["thing"] (aB rT):=⟨rfl,rfl,rfl,by trivial,rfl,by trivial,by trivial⟩
theorem wj (T:Txt K mg):Has P w K mg base 1 "is_row" ["thing"] Pr:=by
 refine fK T.d_is_row Hy (fun _ _ _ _ _ _ us hl=>L2.jc (fun _=>rfl) us hl) ?_ fun f cdv A outer s H vs Q E hr h=>?_
 ·rintro vs H Q E ⟨p,rfl,_⟩;rfl
 obtain ⟨z,rfl,⟨hz,hg⟩,q⟩:=h
 have hu:=hr.units0
 have hu64:=hr.units
 refine ⟨_,(aA (bZ (jJ (jW (dR (dF (aH (iQ (K:=K) rfl) aR T.b_isinstance bx (aa (ao 0) (aa (wI aR T.b_str Cv (by trivial) (by trivial)) aq)) (by trivial) (by trivial)))) (jo (bF t8 (aH (aG (K:=K) rfl) aR T.b_len aZ (aa (ao 0) aq) (by trivial) (by trivial)) (vJ aR T.c_MOST_SIGNS (by trivial)) (by walk_at "p"))))) (aC (aO mD)) bG) (aC (aO (aH (z8 rfl) aR T.b_all JF (aa (mG (sub:=[none]) (gG (N:=["thing"]) (sc:=aB rT) (N':=["sign"]) (by trivial)) rfl rfl rfl (jh (K:=K) rfl (ao 0)) (fun C s₀ H₀ ex=>(vL 0 (by trivial) Bh)) (fun C s₀ H₀ ex=>jg) (fun C s₀ H₀ ex=>(o5 (Cu (K:=K) rfl) (oK 0 (by trivial)) (bc aN (vI (SX (by trivial)) T.c_LETTERS (by trivial)) (vI (SX (by trivial)) T.c_POINT (by trivial))) (by walk_at "p")))) aq) (by trivial) (by trivial))))),?_⟩
 walk_at "s"
 have hz1:z.length<=sizeLine:=XQ hz (by decide)
 refine o4 (.str z) rfl ?_
 walk_at "s"
 try with_reducible refine jF ?_
 walk_at "s"
 refine cj hz1 ?_
 walk_at "s"
 refine sZ (fun h1=>?_) (fun h1=>?_)
 ·omega
 walk_at "s"
 refine .inr (.inr ⟨z,rfl,?_⟩)
 refine Ae (fun i us H'=>H'=H/\us=((z.cps.toList.take i).map fun c=>!uK (tY ++ Str.ofString ".") c).map V.bl) hz1 ⟨rfl,rfl⟩ ?_ ?_ ?_
 ·rintro i us H' ⟨rfl,rfl⟩
  simp;omega
 ·rintro i us H' c hc ⟨rfl,rfl⟩
  walk_at "s"
  refine ⟨KeepSt.set rfl,?_⟩
  walk_at "s"
  try with_reducible refine jM ?_
  walk_at "s"
  refine fP (XQ (show (Str.ofString "abcdefghijklmnopqrstuvwxyz").length+(Str.ofString ".").length<=1000 by trivial) (by decide)) ?_
  walk_at "s"
  refine ⟨rfl,?_⟩
  rw [YT,hc]
  simp [tY,uK]
 ·rintro us H' ⟨rfl,rfl⟩ D hD
  walk_at "s"
  refine ⟨D,_,rfl,aj,?_⟩
  have e2:(List.map (fun c=>!uK (tY ++ Str.ofString ".") c) (z.cps.toList.take z.cps.size)).all id=true:=by
   rw [List.all_map,YW]
   intro c hc
   have:=Pq c (hg c (Zu hc))
   simp [this]
  rw [e2]
  exact q _ ((Same.refl H').upd hD)
theorem Bj:aF ["thing"] ["thing"] (aB qT):=⟨rfl,rfl,rfl,by trivial,rfl,by trivial,by trivial⟩
theorem oH (T:Txt K mg):Has P w K mg base 2 "need_row" ["thing"] Uo:=by
 have wj:=wj (P:=P) (w:=w) (base:=base) T
 refine fK T.d_need_row Bj (fun _ _ _ _ _ _ us hl=>L2.jc (fun _=>rfl) us hl) ?_ fun f cdv A outer s H vs Q E hr h=>?_
 ·rintro vs H Q E ⟨p,rfl,_⟩;rfl
 obtain ⟨z,rfl,hz,q⟩:=h
 refine ⟨_,(aC (bZ (dR (dF (aK wj (hr.mono (by decide)) aR (aa (ao 0) aq) (by trivial)))) (aC ji) bG)),?_⟩
 walk_at "s"
 refine ⟨z,rfl,hz,fun H1 S1=>?_⟩
 walk_at "s"
 try with_reducible refine jF ?_
 walk_at "s"
 exact q _ S1
theorem zj:aF ["side","top"] ["side","top"] (aB pK):=⟨rfl,rfl,rfl,by trivial,rfl,by trivial,by trivial⟩
theorem iV (T:Txt K mg):Has P w K mg base 3 "need_rows" ["side","top"] Pu:=by
 have oH:=oH (P:=P) (w:=w) (base:=base) T
 refine fK T.d_need_rows zj (fun _ _ _ _ _ _ us hl=>L2.rD (fun _ _=>rfl) us hl) ?_ fun f cdv A outer s H vs Q E hr h=>?_
 ·rintro vs H Q E ⟨p,y,rfl,_⟩;rfl
 obtain ⟨z,y,rfl,hz,hy,q⟩:=h
 refine ⟨_,(aA (bj (aK oH (hr.mono (by decide)) aR (aa (ao 0) aq) (by trivial))) (aC (bj (aK oH (hr.mono (by decide)) aR (aa (ao 1) aq) (by trivial))))),?_⟩
 walk_at "s"
 refine ⟨z,rfl,hz,fun H1 S1=>?_⟩
 walk_at "s"
 refine ⟨y,rfl,hy,fun H2 S2=>?_⟩
 exact q _ (S1.trans S2)
def Hz:Sp:=fun vs H Q _=>∃ c:Nat,vs=[.str ⟨#[c]⟩]/\Q (.bl (!uK tY c)) H
theorem Lg:∀ c∈GOOD,uK tY c=true->c=46:=by trivial
theorem zm:aF ["thing"] ["thing"] (aB pI):=⟨rfl,rfl,rfl,by trivial,rfl,by trivial,by trivial⟩
theorem pR (T:Txt K mg):Has P w K mg base 1 "is_letter" ["thing"] Hz:=by
 refine fK T.d_is_letter zm (fun _ _ _ _ _ _ us hl=>L2.jc (fun _=>rfl) us hl) ?_ fun f cdv A outer s H vs Q E hr h=>?_
 ·rintro vs H Q E ⟨c,rfl,_⟩;rfl
 obtain ⟨c,rfl,q⟩:=h
 have hu:=hr.units0
 have hu64:=hr.units
 refine ⟨_,(aC (aO (um (aH (iQ (K:=K) rfl) aR T.b_isinstance bx (aa (ao 0) (aa (wI aR T.b_str Cv (by trivial) (by trivial)) aq)) (by trivial) (by trivial)) (um (o5 (jN (K:=K) rfl hu64) (aH (aG (K:=K) rfl) aR T.b_len aZ (aa (ao 0) aq) (by trivial) (by trivial)) aL (by walk_at "p")) (vK (o5 (Cu (K:=K) rfl) (ao 0) (vI aR T.c_LETTERS (by trivial)) (by walk_at "p"))))))),?_⟩
 walk_at "s"
 refine o4 (.str _) rfl ?_
 walk_at "s"
 refine cj (by rw [vG];decide) ?_
 walk_at "s"
 rw [vG,show decide (V.int ((1:Nat):Int)=V.int 1)=true from rfl]
 walk_at "s"
 exact q
def Px:Sp:=fun vs H Q _=>∃ c:Nat,vs=[.str ⟨#[c]⟩]/\c∈GOOD/\Q (.bl true) H
theorem Dp:aF ["thing"] ["thing"] (aB tU):=⟨rfl,rfl,rfl,by trivial,rfl,by trivial,by trivial⟩
theorem tZ (T:Txt K mg):Has P w K mg base 2 "is_sign" ["thing"] Px:=by
 have pR:=pR (P:=P) (w:=w) (base:=base) T
 refine fK T.d_is_sign Dp (fun _ _ _ _ _ _ us hl=>L2.jc (fun _=>rfl) us hl) ?_ fun f cdv A outer s H vs Q E hr h=>?_
 ·rintro vs H Q E ⟨c,rfl,_⟩;rfl
 obtain ⟨c,rfl,hc,q⟩:=h
 have hu:=hr.units0
 have hu64:=hr.units
 refine ⟨_,(aC (aO (j_or (aK pR (hr.mono (by decide)) aR (aa (ao 0) aq) (by trivial)) (vK (o5 (jN (K:=K) rfl hu64) (ao 0) (vI aR T.c_POINT (by trivial)) (by walk_at "p")))))),?_⟩
 walk_at "s"
 refine ⟨c,rfl,?_⟩
 walk_at "s"
 cases hb:uK tY c with
 | false=>
  show if true=true then _ else _
  walk_at "s"
  exact q
 | true=>
  obtain rfl:=Lg c hc hb
  show if false=true then _ else _
  walk_at "s"
  rw [show decide (V.str ⟨#[46]⟩=V.str (Str.ofString "."))=true by trivial]
  exact q
def Dq:Sp:=fun vs H Q _=>∃ c:Nat,vs=[.str ⟨#[c]⟩]/\c∈GOOD/\Q .non H
theorem zp:aF ["thing"] ["thing"] (aB pJ):=⟨rfl,rfl,rfl,by trivial,rfl,by trivial,by trivial⟩
theorem mz (T:Txt K mg):Has P w K mg base 3 "need_sign" ["thing"] Dq:=by
 have tZ:=tZ (P:=P) (w:=w) (base:=base) T
 refine fK T.d_need_sign zp (fun _ _ _ _ _ _ us hl=>L2.jc (fun _=>rfl) us hl) ?_ fun f cdv A outer s H vs Q E hr h=>?_
 ·rintro vs H Q E ⟨c,rfl,_⟩;rfl
 obtain ⟨c,rfl,hc,q⟩:=h
 have hu:=hr.units0
 have hu64:=hr.units
 refine ⟨_,(aC (bZ (dR (dF (aK tZ (hr.mono (by decide)) aR (aa (ao 0) aq) (by trivial)))) (aC ji) bG)),?_⟩
 walk_at "s"
 refine ⟨c,rfl,hc,?_⟩
 walk_at "s"
 walk_at "s"
 exact q
end
local macro_rules | `(tactic| walk_at "s") => `(tactic| (with_reducible repeat (first | refine lU ?_ | walk_at "3")))
local macro_rules | `(tactic| walk_at "n") => `(tactic| (with_reducible repeat (walk_at "3")))
section
variable {P:Program} {w:World} {K:W.Frag} {mg:Str->Option Value} {base:Heap}
def Hx (p:Addr) (H:Hp):Hp:=fun b=>if b=p then none else H b
theorem Ft (p:Addr) (H:Hp):Same (Hx p H) H:=fun b o e=>by
 unfold Hx at e
 split at e
 ·cases e
 ·exact e
theorem yh {p b:Addr} {H:Hp} {o:HO} (h:H b=some o) (n:b≠p):Hx p H b=some o:=by unfold Hx;rw [if_neg n];exact h
theorem Up {p:Addr} {H:Hp} {o:HO}:Hx p (upd H p o)=Hx p H:=by
 funext b
 unfold Hx
 by_cases h:b=p
 ·rw [if_pos h,if_pos h]
 ·rw [if_neg h,if_neg h,aD h]
def Bk:List Str:=["Blank","One","Over","Beside","Ring"]
def Bl (side top kind:Str) (al ap:Addr) (h:Nat):List (Str×V):=[("held_side",.str side),("held_top",.str top),("held_kind",.str kind),("held_lines",.ref al),("held_parts",.ref ap),("held_height",.int (h:Int))]
def RestOk (r:List (Str×V)):Prop:=r=[]\/∃ v w:V,r=([("held_row",v),("held_asks",w)]:List (Str×V))
theorem RestOk.m {r:List (Str×V)} (o:RestOk r) {side top kind:Str} {al ap:Addr} {h:Nat} {m:Str} (g:(["held_side","held_top","held_kind","held_lines","held_parts","held_height","held_row","held_asks"]:List Str).contains m=false):(Bl side top kind al ap h ++ r).lookup m=none:=by
 simp only [Zk,Bool.or_eq_false_iff] at g
 obtain ⟨h1,h2,h3,h4,h5,h6,h7,h8,_⟩:=g
 unfold Bl
 rcases o with rfl | ⟨v,w,rfl⟩ <;> simp only [Z4,List.nil_append,Yc,h1,h2,h3,h4,h5,h6,h7,h8,List.lookup_nil]
def Pc (mg:Str->Option Value) (H:Hp) (x:Addr) (y side top kind:Str) (L:List Nat) (ps:List V) (h:Nat):Prop:=y∈Bk/\∃ dx al ap r,RestOk r/\H x=some (.ins (aM mg y) dx (Bl side top kind al ap h ++ r))/\H al=some (.lst ((nI L).map V.int))/\H ap=some (.lst ps)
theorem Pc.same {H H':Hp} {x:Addr} {y side top kind:Str} {L:List Nat} {ps:List V} {h:Nat} (p:Pc mg H x y side top kind L ps h) (s:Same H H'):Pc mg H' x y side top kind L ps h:=by
 obtain ⟨hy,dx,al,ap,r,o,a,b,c⟩:=p
 exact ⟨hy,dx,al,ap,r,o,s _ _ a,s _ _ b,s _ _ c⟩
theorem Fv {H H':Hp} {x dx al ap:Addr} {y side top kind:Str} {L:List Nat} {ps:List V} {h:Nat} (hy:y∈Bk) {r:List (Str×V)} (o:RestOk r) (hx:H' x=some (.ins (aM mg y) dx (Bl side top kind al ap h ++ r))) (hal:H' al=some (.lst ((nI L).map V.int))) (hap:H' ap=some (.lst ps)) (na:H al=none) (np:H ap=none):
  Pc mg H' x y side top kind L ps h/\∀ m u,H m=some u->m≠x->Pc mg (Hx m H') x y side top kind L ps h:=
 ⟨⟨hy,dx,al,ap,r,o,hx,hal,hap⟩,fun m u hm nm=>⟨hy,dx,al,ap,r,o,yh hx (Ne.symm nm),yh hal (fun z=>by rw [z,hm] at na;cases na),yh hap (fun z=>by rw [z,hm] at np;cases np)⟩⟩
theorem Uq (T:Txt K mg) {y:Str} (hy:y∈Bk):∀ f∈(["held_side","held_top","held_kind","held_lines","held_parts","held_height"]:List Str),NoAttr K (aM mg y) f:=by
 unfold Bk at hy
 simp only [Xr,Yd,or_false] at hy
 rcases hy with rfl | rfl | rfl | rfl | rfl
 ·exact T.n_Blank
 ·exact T.n_One
 ·exact T.n_Over
 ·exact T.n_Beside
 ·exact fun f hf=>T.n_Ring f (by simp only [Xr,Yd,or_false] at hf ⊢;rcases hf with h | h | h | h | h | h <;> simp [h])
def Py (mg:Str->Option Value):Sp:=fun vs H Q _=>∃ x y side top kind L ps h,vs=[.ref x]/\Pc mg H x y side top kind L ps h/\Q (.str side) H
theorem wO:aF ["self"] ["self"] (aB oh):=⟨rfl,rfl,rfl,by trivial,rfl,by trivial,by trivial⟩
theorem bh (T:Txt K mg):Av P w K mg base 1 ["Blank","One","Over","Beside","Ring"] "side" ["self"] (Py mg):=by
 refine Hj T.m_Piece_side wO (fun _ _ _ _ _ _ us hl=>L2.jc (fun _=>rfl) us hl) ?_ fun f cdv A outer s H vs Q E hr h=>?_
 ·rintro vs H Q E ⟨x,y,side,top,kind,L,ps,h,rfl,_⟩;rfl
 obtain ⟨x,y,side,top,kind,L,ps,h,rfl,⟨hy,dx,al,ap,r,orr,hx,_,_⟩,q⟩:=h
 have hu:=hr.units0
 have hu64:=hr.units
 refine ⟨_,(aC (aO (xW (K:=K) rfl (ao 0)))),?_⟩
 walk_at "s"
 refine ⟨x,_,dx,_,_,rfl,hx,T.os_Piece y hy,Uq T hy _ (by simp),rfl,?_⟩
 walk_at "s"
 exact q
def Ur (mg:Str->Option Value):Sp:=fun vs H Q _=>∃ x y side top kind L ps h,vs=[.ref x]/\Pc mg H x y side top kind L ps h/\Q (.str top) H
theorem zq:aF ["self"] ["self"] (aB pO):=⟨rfl,rfl,rfl,by trivial,rfl,by trivial,by trivial⟩
theorem bM (T:Txt K mg):Av P w K mg base 1 ["Blank","One","Over","Beside","Ring"] "top" ["self"] (Ur mg):=by
 refine Hj T.m_Piece_top zq (fun _ _ _ _ _ _ us hl=>L2.jc (fun _=>rfl) us hl) ?_ fun f cdv A outer s H vs Q E hr h=>?_
 ·rintro vs H Q E ⟨x,y,side,top,kind,L,ps,h,rfl,_⟩;rfl
 obtain ⟨x,y,side,top,kind,L,ps,h,rfl,⟨hy,dx,al,ap,r,orr,hx,_,_⟩,q⟩:=h
 have hu:=hr.units0
 have hu64:=hr.units
 refine ⟨_,(aC (aO (xW (K:=K) rfl (ao 0)))),?_⟩
 walk_at "s"
 refine ⟨x,_,dx,_,_,rfl,hx,T.os_Piece y hy,Uq T hy _ (by simp),rfl,?_⟩
 walk_at "s"
 exact q
def HD (mg:Str->Option Value):Sp:=fun vs H Q _=>∃ x y side top kind L ps h,vs=[.ref x]/\Pc mg H x y side top kind L ps h/\Q (.int (h:Int)) H
theorem uL:aF ["self"] ["self"] (aB lK):=⟨rfl,rfl,rfl,by trivial,rfl,by trivial,by trivial⟩
theorem dO (T:Txt K mg):Av P w K mg base 1 ["Blank","One","Over","Beside","Ring"] "height" ["self"] (HD mg):=by
 refine Hj T.m_Piece_height uL (fun _ _ _ _ _ _ us hl=>L2.jc (fun _=>rfl) us hl) ?_ fun f cdv A outer s H vs Q E hr h=>?_
 ·rintro vs H Q E ⟨x,y,side,top,kind,L,ps,h,rfl,_⟩;rfl
 obtain ⟨x,y,side,top,kind,L,ps,h,rfl,⟨hy,dx,al,ap,r,orr,hx,_,_⟩,q⟩:=h
 have hu:=hr.units0
 have hu64:=hr.units
 refine ⟨_,(aC (aO (xW (K:=K) rfl (ao 0)))),?_⟩
 walk_at "s"
 refine ⟨x,_,dx,_,_,rfl,hx,T.os_Piece y hy,Uq T hy _ (by simp),rfl,?_⟩
 walk_at "s"
 exact q
def Lh (mg:Str->Option Value):Sp:=fun vs H Q _=>∃ x y side top kind L ps h,vs=[.ref x]/\Pc mg H x y side top kind L ps h/\∀ q H',H q=none->Same H H'->H' q=some (.lst ((nI L).map V.int))->Q (.ref q) H'
theorem wu:aF ["self"] ["self"] (aB mK):=⟨rfl,rfl,rfl,by trivial,rfl,by trivial,by trivial⟩
theorem aU (T:Txt K mg):Av P w K mg base 1 ["Blank","One","Over","Beside","Ring"] "lines" ["self"] (Lh mg):=by
 refine Hj T.m_Piece_lines wu (fun _ _ _ _ _ _ us hl=>L2.jc (fun _=>rfl) us hl) ?_ fun f cdv A outer s H vs Q E hr h=>?_
 ·rintro vs H Q E ⟨x,y,side,top,kind,L,ps,h,rfl,_⟩;rfl
 obtain ⟨x,y,side,top,kind,L,ps,h,rfl,⟨hy,dx,al,ap,r,orr,hx,hal,_⟩,q⟩:=h
 have hu:=hr.units0
 have hu64:=hr.units
 refine ⟨_,(aC (aO (o6 (lw (K:=K) rfl rfl) aR T.b_list jf (aa (xW (K:=K) rfl (ao 0)) aq) (by trivial) (by trivial)))),?_⟩
 walk_at "s"
 refine ⟨x,_,dx,_,_,rfl,hx,T.os_Piece y hy,Uq T hy _ (by simp),rfl,?_⟩
 walk_at "s"
 refine uT (SqL.of hal) fun l nl=>?_
 walk_at "s"
 exact q l _ nl ((Same.refl H).upd nl) aj
def Pz (mg:Str->Option Value):Sp:=fun vs H Q _=>∃ x y side top kind L ps h,vs=[.ref x]/\Pc mg H x y side top kind L ps h/\Q (.str kind) H
theorem wQ:aF ["self"] ["self"] (aB oA):=⟨rfl,rfl,rfl,by trivial,rfl,by trivial,by trivial⟩
theorem gY (T:Txt K mg):Av P w K mg base 1 ["Blank","One","Over","Beside","Ring"] "kind" ["self"] (Pz mg):=by
 refine Hj T.m_Piece_kind wQ (fun _ _ _ _ _ _ us hl=>L2.jc (fun _=>rfl) us hl) ?_ fun f cdv A outer s H vs Q E hr h=>?_
 ·rintro vs H Q E ⟨x,y,side,top,kind,L,ps,h,rfl,_⟩;rfl
 obtain ⟨x,y,side,top,kind,L,ps,h,rfl,⟨hy,dx,al,ap,r,orr,hx,_,_⟩,q⟩:=h
 have hu:=hr.units0
 have hu64:=hr.units
 refine ⟨_,(aC (aO (xW (K:=K) rfl (ao 0)))),?_⟩
 walk_at "s"
 refine ⟨x,_,dx,_,_,rfl,hx,T.os_Piece y hy,Uq T hy _ (by simp),rfl,?_⟩
 walk_at "s"
 exact q
def Li (mg:Str->Option Value):Sp:=fun vs H Q _=>∃ x y side top kind L ps h,vs=[.ref x]/\Pc mg H x y side top kind L ps h/\∀ q H',H q=none->Same H H'->H' q=some (.lst ps)->Q (.ref q) H'
theorem ww:aF ["self"] ["self"] (aB mL):=⟨rfl,rfl,rfl,by trivial,rfl,by trivial,by trivial⟩
theorem eU (T:Txt K mg):Av P w K mg base 1 ["Blank","One","Over","Beside","Ring"] "parts" ["self"] (Li mg):=by
 refine Hj T.m_Piece_parts ww (fun _ _ _ _ _ _ us hl=>L2.jc (fun _=>rfl) us hl) ?_ fun f cdv A outer s H vs Q E hr h=>?_
 ·rintro vs H Q E ⟨x,y,side,top,kind,L,ps,h,rfl,_⟩;rfl
 obtain ⟨x,y,side,top,kind,L,ps,h,rfl,⟨hy,dx,al,ap,r,orr,hx,_,hap⟩,q⟩:=h
 have hu:=hr.units0
 have hu64:=hr.units
 refine ⟨_,(aC (aO (o6 (lw (K:=K) rfl rfl) aR T.b_list jf (aa (xW (K:=K) rfl (ao 0)) aq) (by trivial) (by trivial)))),?_⟩
 walk_at "s"
 refine ⟨x,_,dx,_,_,rfl,hx,T.os_Piece y hy,Uq T hy _ (by simp),rfl,?_⟩
 walk_at "s"
 refine uT (SqL.of hap) fun l nl=>?_
 walk_at "s"
 exact q l _ nl ((Same.refl H).upd nl) aj
theorem qy:(["part"]:List Str).Nodup:=by trivial
theorem Chg.same {x:Addr} {H H1 H2:Hp} (c:Chg x H H1) (s:Same H1 H2):Chg x H H2:=fun b o n e=>s _ _ (c b o n e)
theorem Chg.put {x:Addr} {H H1:Hp} {o:HO} (c:Chg x H H1):Chg x H (upd H1 x o):=fun b u n e=>by rw [aD n];exact c b u n e
theorem jl {f:Str} {y:V}:∀ {fs:List (Str×V)},(fs.map (·.1)).contains f=false->jX f y fs=fs ++ [(f,y)]
 | [],_=>rfl
 | (g,z) :: fs,h=>by
  simp only [Yu,Zk,Bool.or_eq_false_iff] at h
  have hne:¬ g=f:=fun e=>by rw [e] at h;simp at h
  have ih:=jl (y:=y) (fs:=fs) h.2
  unfold jX
  simp [hne,ih]
theorem m5 {H:Hp} {x C dx:Addr} {fs:List (Str×V)} {f:Str} {y:V} (hf:(fs.map (·.1)).contains f=false):∃ H',upd H x (.ins C dx (jX f y fs))=H'/\H' x=some (.ins C dx (fs ++ [(f,y)]))/\Chg x H H':=
 ⟨_,rfl,by rw [aj,jl hf],Chg.put (Chg.refl x H)⟩
def PsH (mg:Str->Option Value) (H:Hp) (ps:List V) (hs:List Nat):Prop:=ps.length=hs.length/\∀ (i:Nat) (v:V) (h:Nat),ps[i]?=some v->hs[i]?=some h->∃ q y s t k L qs,v= .ref q/\Pc mg H q y s t k L qs h
theorem PsH.chg {H H':Hp} {x C dx:Addr} {ps:List V} {hs:List Nat} (p:PsH mg H ps hs) (hx:H x=some (.ins C dx [])) (c:Chg x H H'):PsH mg H' ps hs:=⟨p.1,fun i v h e1 e2=>by
 obtain ⟨q,y,s,t,k,L,qs,rfl,hy,ex,al,ap,r,o,h1,h2,h3⟩:=p.2 i v h e1 e2
 refine ⟨q,y,s,t,k,L,qs,rfl,hy,ex,al,ap,r,o,c _ _ ?_ h1,c _ _ ?_ h2,c _ _ ?_ h3⟩
 ·intro z;rw [z,hx] at h1;have:=congrArg (fun o:Option HO=>match o with | some (.ins _ _ fs)=>fs.length | _=>0) h1;simp [Bl] at this
 ·intro z;rw [z,hx] at h2;cases h2
 ·intro z;rw [z,hx] at h3;cases h3⟩
def t6 (hs:List Nat) (h:Nat):Prop:=(hs=[]/\h=0)\/((∃ a∈hs,h=a+1)/\∀ a∈hs,a+1<=h)
def zr (mg:Str->Option Value):Sp:=fun vs H Q _=>∃ (x dx l p:Addr) (y side top kind:Str) (L:List Nat) (ps:List V) (hs:List Nat),vs=[.ref x,.str side,.str top,.str kind,.ref l,.ref p]/\y∈Bk/\H x=some (.ins (aM mg y) dx [])/\H l=some (.lst ((nI L).map V.int))/\H p=some (.lst ps)/\ps.length<=1000/\PsH mg H ps hs/\
 ∀ h H' al ap,t6 hs h->Chg x H H'->H' x=some (.ins (aM mg y) dx (Bl side top kind al ap h))->H' al=some (.lst ((nI L).map V.int))->H' ap=some (.lst ps)->H al=none->H ap=none->Q .non H'
theorem sr:aF ["self","side","top","kind","lines","parts"] ["self","side","top","kind","lines","parts"] (aB gU):=⟨rfl,rfl,rfl,by trivial,rfl,by trivial,by trivial⟩
theorem aQ (T:Txt K mg):Ub P w K mg base 2 "Piece" "__init__" ["self","side","top","kind","lines","parts"] (zr mg):=by
 have dO:=dO (P:=P) (w:=w) (base:=base) T
 refine hasC T.m_Piece___init__ sr (fun _ _ _ _ _ _ us hl=>L2.usN6 (fun _ _ _ _ _ _=>rfl) us hl) ?_ fun f cdv A outer s H vs Q E hr h=>?_
 ·rintro vs H Q E ⟨x,dx,l,p,y,side,top,kind,L,ps,hs,rfl,_⟩;rfl
 obtain ⟨x,dx,l,p,y,side,top,kind,L,ps,hs,rfl,hy,hx,hl,hp,hpl,hH,q⟩:=h
 have hu:=hr.units0
 have hu64:=hr.units
 refine ⟨_,(aA (jr (K:=K) rfl (ao 0) (ao 1)) (aA (jr (K:=K) rfl (ao 0) (ao 2)) (aA (jr (K:=K) rfl (ao 0) (ao 3)) (aA (jr (K:=K) rfl (ao 0) (o6 (lw (K:=K) rfl rfl) aR T.b_list jf (aa (ao 4) aq) (by trivial) (by trivial))) (aA (jr (K:=K) rfl (ao 0) (o6 (lw (K:=K) rfl rfl) aR T.b_list jf (aa (ao 5) aq) (by trivial) (by trivial))) (aC (jr (K:=K) rfl (ao 0) (Kz rfl aR T.b_max (mG (sub:=[none]) (gG (N:=["self","side","top","kind","lines","parts"]) (sc:=aB gU) (N':=["part"]) (by trivial)) rfl rfl rfl (jh (K:=K) rfl (ao 5)) (fun C s₀ H₀ ex=>(vL 0 (by trivial) qy)) (fun C s₀ H₀ ex=>jg) (fun C s₀ H₀ ex=>(bc aN (aV (mg:=mg) rfl (oK 0 (by trivial)) T.os_Piece dO (hr.mono (by decide)) (eY fun _ _=>rfl)) aL))) aL)))))))),?_⟩
 walk_at "s"
 have hz:20000<=sizeLine:=by decide
 have cl:=T.os_Piece y hy
 have na:=Uq T hy
 have lx:∀ {G:Hp} {C ex:Addr} {fs:List (Str×V)} {a:Addr} {us:List V},G x=some (.ins C ex fs)->G a=some (.lst us)->a≠x:=fun h1 h2 z=>by rw [z,h1] at h2;cases h2
 refine ⟨x,_,dx,_,rfl,hx,cl,na _ (by simp),by simp,?_⟩
 walk_at "s"
 obtain ⟨H1,e1,hx1,M1⟩:=m5 (H:=H) (x:=x) (C:=aM mg y) (dx:=dx) (fs:=[]) (f:="held_side") (y:=.str side) rfl
 rw [e1]
 walk_at "s"
 refine ⟨x,_,dx,_,rfl,hx1,cl,na _ (by simp),by simp,?_⟩
 walk_at "s"
 obtain ⟨H2,e2,hx2,M2⟩:=m5 (H:=H1) (x:=x) (C:=aM mg y) (dx:=dx) (fs:=[] ++ [(Str.ofString "held_side",V.str side)]) (f:="held_top") (y:=.str top) (by show (["held_side"]:List Str).contains "held_top"=false;trivial)
 rw [e2]
 walk_at "s"
 refine ⟨x,_,dx,_,rfl,hx2,cl,na _ (by simp),by simp,?_⟩
 walk_at "s"
 obtain ⟨H3,e3,hx3,M3⟩:=m5 (H:=H2) (x:=x) (C:=aM mg y) (dx:=dx) (fs:=[] ++ [(Str.ofString "held_side",V.str side)] ++ [(Str.ofString "held_top",V.str top)]) (f:="held_kind") (y:=.str kind) (by show (["held_side","held_top"]:List Str).contains "held_kind"=false;trivial)
 rw [e3]
 have C3:=(M1.trans M2).trans M3
 have hl3:=C3 l _ (lx hx hl) hl
 walk_at "s"
 refine uT (SqL.of hl3) fun al nal=>?_
 walk_at "s"
 have S4:=(Same.refl H3).upd nal (o:=.lst ((nI L).map V.int))
 have hal:=aj (H:=H3) (a:=al) (o:=.lst ((nI L).map V.int))
 generalize upd H3 al (.lst ((nI L).map V.int))=H4 at S4 hal ⊢
 walk_at "s"
 refine ⟨x,_,dx,_,rfl,S4 _ _ hx3,cl,na _ (by simp),by simp,?_⟩
 walk_at "s"
 obtain ⟨H5,e5,hx5,M5⟩:=m5 (H:=H4) (x:=x) (C:=aM mg y) (dx:=dx) (fs:=[] ++ [(Str.ofString "held_side",V.str side)] ++ [(Str.ofString "held_top",V.str top)] ++ [(Str.ofString "held_kind",V.str kind)]) (f:="held_lines") (y:=.ref al) (by show (["held_side","held_top","held_kind"]:List Str).contains "held_lines"=false;trivial)
 rw [e5]
 have C5:=(Chg.same C3 S4).trans M5
 have hp5:=C5 p _ (lx hx hp) hp
 have hal5:=M5 al _ (lx (S4 _ _ hx3) hal) hal
 walk_at "s"
 refine uT (SqL.of hp5) fun ap nap=>?_
 walk_at "s"
 have S6:=(Same.refl H5).upd nap (o:=.lst ps)
 have hap:=aj (H:=H5) (a:=ap) (o:=.lst ps)
 generalize upd H5 ap (.lst ps)=H6 at S6 hap ⊢
 walk_at "s"
 refine ⟨x,_,dx,_,rfl,S6 _ _ hx5,cl,na _ (by simp),by simp,?_⟩
 walk_at "s"
 obtain ⟨H7,e7,hx7,M7⟩:=m5 (H:=H6) (x:=x) (C:=aM mg y) (dx:=dx) (fs:=[] ++ [(Str.ofString "held_side",V.str side)] ++ [(Str.ofString "held_top",V.str top)] ++ [(Str.ofString "held_kind",V.str kind)] ++ [(Str.ofString "held_lines",V.ref al)]) (f:="held_parts") (y:=.ref ap) (by show (["held_side","held_top","held_kind","held_lines"]:List Str).contains "held_parts"=false;trivial)
 rw [e7]
 have C7:=(Chg.same C5 S6).trans M7
 have hp7:=C7 p _ (lx hx hp) hp
 have hal7:=M7 al _ (lx (S6 _ _ hx5) (S6 _ _ hal5)) (S6 _ _ hal5)
 have hap7:=M7 ap _ (lx (S6 _ _ hx5) hap) hap
 have hH7:=hH.chg hx C7
 walk_at "s"
 refine .inl ⟨p,rfl,⟨_,SqL.of hp7⟩,?_⟩
 have hul:=hH.1
 refine lD (xs:=ps) (fun i zs G=>G=H7/\zs=(nI ((hs.take i).map (· +1))).map V.int) (by omega) ⟨rfl,rfl⟩ ?_ ?_ ?_ ?_
 ·rintro i zs G ⟨_,rfl⟩
  rw [aY];simp;omega
 ·rintro i zs G ⟨rfl,_⟩
  exact SqL.of hp7
 ·rintro i zs G v hv ⟨rfl,rfl⟩
  have hi:i < hs.length:=by rw [← hul];exact (Xm.mp hv).1
  obtain ⟨hh,eh⟩:∃ hh,hs[i]?=some hh:=⟨_,Xk hi⟩
  obtain ⟨r,y',s',t',k',L',qs,rfl,hP⟩:=hH7.2 i v hh hv eh
  obtain ⟨hy',ex,al',ap',rr,orr,h1,_,_⟩:=id hP
  walk_at "s"
  refine ⟨KeepSt.set rfl,?_⟩
  walk_at "s"
  refine ⟨r,y',ex,_,rfl,hy',h1,orr.m (by trivial),?_⟩
  walk_at "s"
  refine ⟨r,y',s',t',k',L',qs,hh,rfl,hP,?_⟩
  walk_at "s"
  refine ⟨rfl,?_⟩
  rw [YT,eh,Yj,show ((hh:Int)+1)=((hh+1:Nat):Int) by omega,u6]
  rfl
 ·rintro zs G D H8 ⟨rfl,rfl⟩ nD S8 hD
  rw [hul,YM] at hD
  try walk_at "s"
  have C8:=Chg.same C7 S8
  have hx8:=S8 _ _ hx7
  have key:∀ h:Nat,t6 hs h->Q .non (upd H8 x (.ins (aM mg y) dx (jX (Str.ofString "held_height") (.int (h:Int)) ([] ++ [(Str.ofString "held_side",V.str side)] ++ [(Str.ofString "held_top",V.str top)] ++ [(Str.ofString "held_kind",V.str kind)] ++ [(Str.ofString "held_lines",V.ref al)] ++ [(Str.ofString "held_parts",V.ref ap)])))):=fun h hh=>by
   obtain ⟨H9,e9,hx9,M9⟩:=m5 (H:=H8) (x:=x) (C:=aM mg y) (dx:=dx) (fs:=([] ++ [(Str.ofString "held_side",V.str side)] ++ [(Str.ofString "held_top",V.str top)] ++ [(Str.ofString "held_kind",V.str kind)] ++ [(Str.ofString "held_lines",V.ref al)] ++ [(Str.ofString "held_parts",V.ref ap)])) (f:=Str.ofString "held_height") (y:=.int (h:Int)) (by show (["held_side","held_top","held_kind","held_lines","held_parts"]:List Str).contains "held_height"=false;trivial)
   rw [e9]
   have hal9:=M9 al _ (lx hx8 (S8 _ _ hal7)) (S8 _ _ hal7)
   have hap9:=M9 ap _ (lx hx8 (S8 _ _ hap7)) (S8 _ _ hap7)
   have none_:∀ {a:Addr} {G:Hp} {us:List V},Chg x H G->G a=none->H9 a=some (.lst us)->H a=none:=fun {a G us} c n e9=>by
    cases e:H a with
    | none=>rfl
    | some o=>
     have hax:a≠x:=lx hx9 e9
     rw [c a o hax e] at n;cases n
   exact q h H9 al ap hh (C8.trans M9) hx9 hal9 hap9 (none_ C3 nal hal9) (none_ C5 nap hap9)
  refine ⟨D,_,rfl,hD,fun e=>?_,fun M hM hmx=>?_⟩
  ·have e0:hs=[]:=by
    cases hs with
    | nil=>rfl
    | cons a b=>cases e
   walk_at "s"
   exact ⟨x,_,dx,_,rfl,hx8,cl,na _ (by simp),by simp,key 0 (.inl ⟨e0,rfl⟩)⟩
  ·unfold nI at hM hmx
   obtain ⟨a',ha',rfl⟩:=Yh.mp hM
   obtain ⟨a,ha,rfl⟩:=Yh.mp ha'
   walk_at "s"
   refine ⟨x,_,dx,_,rfl,hx8,cl,na _ (by simp),by simp,key (a+1) (.inr ⟨⟨a,ha,rfl⟩,fun b hb=>?_⟩)⟩
   have:=hmx ((b+1:Nat):Int) (Yh.mpr ⟨b+1,Yh.mpr ⟨b,hb,rfl⟩,rfl⟩)
   omega
theorem uM:(["end","low"]:List Str).Nodup:=by trivial
theorem pcT (T:Txt K mg) {y:Str} (hy:y∈Bk):ITxt K mg y/\Sub K mg y "Piece" true:=by
 unfold Bk at hy
 simp only [Xr,Yd,or_false] at hy
 rcases hy with rfl | rfl | rfl | rfl | rfl
 ·exact ⟨T.t_Blank,T.u_Blank_Piece⟩
 ·exact ⟨T.t_One,T.u_One_Piece⟩
 ·exact ⟨T.t_Over,T.u_Over_Piece⟩
 ·exact ⟨T.t_Beside,T.u_Beside_Piece⟩
 ·exact ⟨T.t_Ring,T.u_Ring_Piece⟩
def IsP (mg:Str->Option Value) (H:Hp) (v:V):Prop:=∃ x y s t k L ps h,v= .ref x/\Pc mg H x y s t k L ps h
theorem zu (T:Txt K mg) {H:Hp} {v:V} {Q:VK} (h:IsP mg H v) (q:Q (.bl true) H):xR K [v,.ref (aM mg "Piece")] H Q:=by
 obtain ⟨x,y,s,t,k,L,ps,n,rfl,hy,dx,al,ap,r,o,hx,_,_⟩:=h
 exact TF ((pcT T hy).1.ty (T.os_Piece y hy) hx) rfl (pcT T hy).2.one q
def HF (mg:Str->Option Value):Sp:=fun vs H Q _=>∃ u v,vs=[u,v]/\IsP mg H u/\IsP mg H v/\∀ H',Same H H'->Q .non H'
theorem IsP.same {H H':Hp} {v:V} (h:IsP mg H v) (s:Same H H'):IsP mg H' v:=by
 obtain ⟨x,y,a,b,c,L,ps,n,rfl,h⟩:=h
 exact ⟨x,y,a,b,c,L,ps,n,rfl,h.same s⟩
theorem pU:aF ["one","other","thing"] ["one","other"] (aB mH):=⟨rfl,rfl,rfl,by trivial,rfl,by trivial,by trivial⟩
theorem fO (T:Txt K mg):Has P w K mg base 3 "need_pieces" ["one","other"] (HF mg):=by
 refine fK T.d_need_pieces pU (fun _ _ _ _ _ _ us hl=>L2.rD (fun _ _=>rfl) us hl) ?_ fun f cdv A outer s H vs Q E hr h=>?_
 ·rintro vs H Q E ⟨u,v,rfl,_⟩;rfl
 obtain ⟨u,v,rfl,hu1,hv1,q⟩:=h
 have hu:=hr.units0
 have hu64:=hr.units
 refine ⟨_,(aC (iC Yo rfl (jh (K:=K) rfl (El (aa (ao 0) (aa (ao 1) aq)))) (d7 (i:=2) pU.nd rfl eQ rfl) (aC (bZ (dR (dF (aH (jq (K:=K) rfl) aR T.b_isinstance bx (aa (ao 2) (aa (oM aR T.o_Piece.at_ (by trivial)) aq)) (by trivial) (by trivial)))) (aC ji) bG)))),?_⟩
 walk_at "s"
 refine iG rfl fun t H1 nt S1 ht=>?_
 walk_at "s"
 refine .inr (.inl ⟨t,rfl,⟨_,SqT.of ht⟩,?_⟩)
 refine DK (xs:=[u,v]) (fun i U G=>Same H1 G/\∃ x2,U=[some u,some v,x2]) ⟨Same.refl H1,_,rfl⟩ (fun i U G _ h=>SqT.of (h.1 _ _ ht)) ?_ ?_
 ·rintro i w U G hw ⟨s,x2,rfl⟩
  have hP:IsP mg G w:=by
   have:=Xz hw
   simp only [Xr,Yd,or_false] at this
   rcases this with rfl | rfl
   ·exact hu1.same (S1.trans s)
   ·exact hv1.same (S1.trans s)
  walk_at "s"
  refine zu T hP ?_
  walk_at "s"
  exact ⟨s,_,rfl⟩
 ·rintro U G ⟨s,x2,rfl⟩
  exact q G (S1.trans s)
def XUn (mg:Str->Option Value) (H:Hp) (E:XK) (a b:Str):Prop:=∀ e H',Same H H'->IsX H' e (aM mg "Unlike") [("one",.str a),("other",.str b)]->E (.ref (aM mg "Unlike")) (some e) H'
def XTl (mg:Str->Option Value) (H:Hp) (E:XK) (n:Nat):Prop:=∀ e H',Same H H'->IsX H' e (aM mg "TooLong") [("found",.int (n:Int))]->E (.ref (aM mg "TooLong")) (some e) H'
def Ds (mg:Str->Option Value):Sp:=fun vs H Q E=>∃ a b:Str,vs=[.str a,.str b]/\(a=b->Q .non H)/\(a≠b->XUn mg H E a b)
theorem zx:aF ["one","other"] ["one","other"] (aB pL):=⟨rfl,rfl,rfl,by trivial,rfl,by trivial,by trivial⟩
theorem iW (T:Txt K mg):HasX P w K mg base 3 "need_same" ["one","other"] (Ds mg):=by
 refine Ex T.d_need_same zx (fun _ _ _ _ _ _ us hl=>L2.rD (fun _ _=>rfl) us hl) ?_ fun f cdv A outer s H vs Q E hr h=>?_
 ·rintro vs H Q E ⟨a,b,rfl,_⟩;rfl
 obtain ⟨a,b,rfl,q1,q2⟩:=h
 have hu:=hr.units0
 have hu64:=hr.units
 refine ⟨_,(aC (bZ (bF (CJ (K:=K) rfl hu64) (ao 0) (ao 1) (by walk_at "p")) (aC (Al (Hv (P:=P) (w:=w) (base:=base) T) (hr.mono (by decide)) rfl aR aX (aa (ao 0) (aa (ao 1) aq)) (by trivial))) bG)),?_⟩
 walk_at "s"
 by_cases e:a=b
 ·rw [show (!decide (V.str a=V.str b))=false by simp [e]]
  walk_at "s"
  exact q1 e
 ·rw [show (!decide (V.str a=V.str b))=true by simp [e]]
  walk_at "s"
  exact ⟨rfl,(show 2<=sizeLine by decide),fun x H2 S2 X2=>q2 e x H2 S2 X2⟩
def Bm (mg:Str->Option Value):Sp:=fun vs H Q E=>∃ z:Str,vs=[.str z]/\z.length<=5000/\(z.length<=48->Q .non H)/\(¬ z.length<=48->XTl mg H E z.length)
theorem wR:aF ["row"] ["row"] (aB nY):=⟨rfl,rfl,rfl,by trivial,rfl,by trivial,by trivial⟩
theorem gZ (T:Txt K mg):HasX P w K mg base 3 "need_short" ["row"] (Bm mg):=by
 refine Ex T.d_need_short wR (fun _ _ _ _ _ _ us hl=>L2.jc (fun _=>rfl) us hl) ?_ fun f cdv A outer s H vs Q E hr h=>?_
 ·rintro vs H Q E ⟨z,rfl,_⟩;rfl
 obtain ⟨z,rfl,hz,q1,q2⟩:=h
 have hu:=hr.units0
 have hu64:=hr.units
 refine ⟨_,(aC (bZ (bF t8 (aH (aG (K:=K) rfl) aR T.b_len aZ (aa (ao 0) aq) (by trivial) (by trivial)) (vJ aR T.c_MOST_SIGNS (by trivial)) (by walk_at "p")) (aC (Al (Dl (P:=P) (w:=w) (base:=base) T) (hr.mono (by decide)) rfl aR aX (aa (aH (aG (K:=K) rfl) aR T.b_len aZ (aa (ao 0) aq) (by trivial) (by trivial)) aq) (by trivial))) bG)),?_⟩
 walk_at "s"
 refine cj (XQ hz (by decide)) ?_
 walk_at "s"
 by_cases e:z.length<=48
 ·rw [XD (show ¬ (48:Int) < (z.length:Int) by omega)]
  walk_at "s"
  exact q1 e
 ·rw [XF (show (48:Int) < (z.length:Int) by omega)]
  walk_at "s"
  refine cj (XQ hz (by decide)) ?_
  walk_at "s"
  exact ⟨rfl,(show 1<=sizeLine by decide),fun x H2 S2 X2=>q2 e x H2 S2 X2⟩
theorem zy (a b:List Nat):(nI a).map V.int ++ (nI b).map V.int=(nI (a ++ b)).map V.int:=by unfold nI;rw [Yj,Yj]
theorem iY {m far:Nat} {e:Nat->Nat->Bool}:((nI (LN m far e)).map V.int).length=m+far:=by rw [aY,gP]
theorem Fw {k:Nat} {G:List Nat} (hG:Prm G) (hk:k+G.length<=96):Prm (List.range k ++ G.map (k+ ·)):=by
 have hl:(List.range k ++ G.map (k+ ·)).length=k+G.length:=by simp
 refine ⟨by omega,?_⟩
 rw [hl,Zm]
 exact List.Perm.append_left _ (hG.pm.map _)
theorem Bo {r n:Nat} {G:List Nat} (hG:Prm G) (hn:G.length=n) (hk:n+r<=96):Prm (G ++ (List.range r).map (n+ ·)):=by
 subst hn
 have hl:(G ++ (List.range r).map (G.length+ ·)).length=G.length+r:=by simp
 refine ⟨by omega,?_⟩
 rw [hl,Zm]
 exact hG.pm.append_right _
theorem Bp (lo:Int) (k n:Nat) (e:lo=(k:Int)):((List.range n).map fun i:Nat=>V.int (lo+(i:Int)*1))=(nI ((List.range n).map (k+ ·))).map V.int:=by
 subst e
 unfold nI
 rw [Zv,Zv]
 refine List.map_congr_left fun x _=>?_
 show V.int ((k:Int)+(x:Int)*1)=V.int ((k+x:Nat):Int)
 congr 1;omega
def PB (K:W.Frag):Sp:=fun vs H Q _=>∃ (u l:Addr) (mu ml far:Nat) (e:Nat->Nat->Bool),vs=[.ref u,.ref l,.int far]/\mu+ml+far<=96/\H u=some (.lst ((nI (LN mu far e)).map V.int))/\H l=some (.lst ((nI (LN ml far fun i j=>e (mu+i) j)).map V.int))/\
 ∀ q H',H q=none->Same H H'->H' q=some (.lst ((nI (LN (mu+ml) far e)).map V.int))->Q (.ref q) H'
theorem iw:aF ["upper","lower","far","high","low","one","other"] ["upper","lower","far"] (aB kI):=⟨rfl,rfl,rfl,by trivial,rfl,by trivial,by trivial⟩
theorem oJ (T:Txt K mg):Has P w K mg base 8 "lines_over" ["upper","lower","far"] (PB K):=by
 have fG:=fG (P:=P) (w:=w) (base:=base) T
 have tX:=tX (P:=P) (w:=w) (base:=base) T
 refine fK T.d_lines_over iw (fun _ _ _ _ _ _ us hl=>L2.uE (fun _ _ _=>rfl) us hl) ?_ fun f cdv A outer s H vs Q E hr h=>?_
 ·rintro vs H Q E ⟨u,l,mu,ml,far,e,rfl,_⟩;rfl
 obtain ⟨u,l,mu,ml,far,e,rfl,hn,hu1,hl,q⟩:=h
 have hu:=hr.units0
 have hu64:=hr.units
 refine ⟨_,(aA (aJ (i:=3) iw.nd rfl eQ (bc ni (aH (aG (K:=K) rfl) aR T.b_len aZ (aa (ao 0) aq) (by trivial) (by trivial)) (ao 2)) rfl) (aA (aJ (i:=4) iw.nd rfl Vf (bc ni (aH (aG (K:=K) rfl) aR T.b_len aZ (aa (ao 1) aq) (by trivial) (by trivial)) (ao 2)) rfl) (aA (aJ (i:=5) iw.nd rfl eQ (bc aN (aK fG (hr.mono (by decide)) aR (aa (lZ 4) aq) (by trivial)) (mG (sub:=[none,some 4]) (gG (N:=["upper","lower","far","high","low","one","other"]) (sc:=aB kI) (N':=["end","low"]) (by trivial)) rfl rfl rfl (jh (K:=K) rfl (ao 0)) (fun C s₀ H₀ ex=>(vL 0 (by trivial) uM)) (fun C s₀ H₀ ex=>jg) (fun C s₀ H₀ ex=>(bc aN (vH 1 (by trivial)) (oK 0 (by trivial)))))) rfl) (aA (aJ (i:=6) iw.nd rfl eQ (bc aN (ao 1) (vY rfl aR T.b_list aR T.b_range (aa (bc aN (lZ 4) (ao 2)) (aa (bc aN (bc aN (lZ 4) (ao 2)) (ao 3)) aq)))) rfl) (aC (aO (aK tX (hr.mono (by decide)) aR (aa (ao 5) (aa (ao 6) aq)) (by trivial)))))))),?_⟩
 walk_at "s"
 have hz:20000<=sizeLine:=by decide
 refine eO (SqL.of hu1) ?_
 walk_at "s"
 rw [iY]
 walk_at "s"
 refine eO (SqL.of hl) ?_
 walk_at "s"
 rw [iY,show ((mu+far:Nat):Int) - (far:Int)=(mu:Int) by omega,show ((ml+far:Nat):Int) - (far:Int)=(ml:Int) by omega]
 walk_at "s"
 refine ⟨ml,rfl,by omega,fun a H1 na S1 ha=>?_⟩
 walk_at "s"
 refine .inl ⟨u,rfl,⟨_,SqL.of (S1 _ _ hu1)⟩,?_⟩
 refine lD (xs:=(nI (LN mu far e)).map V.int) (fun i zs G=>G=H1/\zs=(nI (((LN mu far e).take i).map (ml+ ·))).map V.int) (by rw [iY];omega) ⟨rfl,rfl⟩ ?_ ?_ ?_ ?_
 ·rintro i zs G ⟨_,rfl⟩
  rw [aY];simp;omega
 ·rintro i zs G ⟨rfl,_⟩
  exact SqL.of (S1 _ _ hu1)
 ·rintro i zs G v hv ⟨rfl,rfl⟩
  obtain ⟨a',ea,rfl⟩:=v8 hv
  walk_at "s"
  refine ⟨KeepSt.set rfl,?_⟩
  walk_at "s"
  refine ⟨rfl,?_⟩
  rw [YT,ea,Yj,show ((ml:Int)+(a':Int))=((ml+a':Nat):Int) by omega]
  unfold nI
  rw [Yj,Yj]
  rfl
 rintro zs G D H2 ⟨rfl,rfl⟩ nD S2 hD
 rw [iY,← gP mu far e,YM] at hD
 try walk_at "s"
 refine yL (S2 _ _ ha) hD (by rw [aY,aY];simp [gP];omega) fun o1 no1=>?_
 walk_at "s"
 rw [zy]
 have S3:=(Same.refl H2).upd no1 (o:=.lst ((nI (List.range ml ++ (LN mu far e).map (ml+ ·))).map V.int))
 have ho1:=aj (H:=H2) (a:=o1) (o:=.lst ((nI (List.range ml ++ (LN mu far e).map (ml+ ·))).map V.int))
 generalize upd H2 o1 (.lst ((nI (List.range ml ++ (LN mu far e).map (ml+ ·))).map V.int))=H3 at S3 ho1 ⊢
 have U3:=S1.trans (S2.trans S3)
 walk_at "s"
 refine EY (n:=mu) (by omega) (by omega) (by omega) (by omega) fun r nr=>?_
 walk_at "s"
 rw [Bp _ (ml+far) mu (by omega)] at ⊢
 have S4:=(Same.refl H3).upd nr (o:=.lst ((nI ((List.range mu).map (ml+far+ ·))).map V.int))
 have hr4:=aj (H:=H3) (a:=r) (o:=.lst ((nI ((List.range mu).map (ml+far+ ·))).map V.int))
 generalize upd H3 r (.lst ((nI ((List.range mu).map (ml+far+ ·))).map V.int))=H4 at S4 hr4 ⊢
 walk_at "s"
 refine yL (S4 _ _ (U3 _ _ hl)) hr4 (by rw [aY,aY];simp [gP];omega) fun o2 no2=>?_
 walk_at "s"
 rw [zy]
 have S5:=(Same.refl H4).upd no2 (o:=.lst ((nI (LN ml far (fun i j=>e (mu+i) j) ++ (List.range mu).map (ml+far+ ·))).map V.int))
 have ho2:=aj (H:=H4) (a:=o2) (o:=.lst ((nI (LN ml far (fun i j=>e (mu+i) j) ++ (List.range mu).map (ml+far+ ·))).map V.int))
 generalize upd H4 o2 (.lst ((nI (LN ml far (fun i j=>e (mu+i) j) ++ (List.range mu).map (ml+far+ ·))).map V.int))=H5 at S5 ho2 ⊢
 have U5:=U3.trans (S4.trans S5)
 walk_at "s"
 refine ⟨o1,o2,_,_,mu+ml+far,rfl,(S4.trans S5) _ _ ho1,ho2,⟨Fw (v6 (by omega)) (by rw [gP];omega),Bo (v6 (by omega)) (gP _ _ _) (by omega),by simp [gP];omega,by simp [gP];omega⟩,fun r' H6 nr' S6 hr'=>?_⟩
 rw [K8 hn] at hr'
 exact q r' H6 (Same.back U5 nr') (U5.trans S6) hr'
theorem sy:(["end","near"]:List Str).Nodup:=by trivial
def HH (K:W.Frag):Sp:=fun vs H Q _=>∃ (l r:Addr) (m fl fr:Nat) (e:Nat->Nat->Bool),vs=[.ref l,.ref r,.int m]/\m+(fl+fr)<=96/\H l=some (.lst ((nI (LN m fl e)).map V.int))/\H r=some (.lst ((nI (LN m fr fun i j=>e i (fl+j))).map V.int))/\
 ∀ q H',H q=none->Same H H'->H' q=some (.lst ((nI (LN m (fl+fr) e)).map V.int))->Q (.ref q) H'
theorem fM:aF ["left","right","many","near","far","one","other"] ["left","right","many"] (aB jj):=⟨rfl,rfl,rfl,by trivial,rfl,by trivial,by trivial⟩
theorem eZ (T:Txt K mg):Has P w K mg base 8 "lines_beside" ["left","right","many"] (HH K):=by
 have fG:=fG (P:=P) (w:=w) (base:=base) T
 have tX:=tX (P:=P) (w:=w) (base:=base) T
 refine fK T.d_lines_beside fM (fun _ _ _ _ _ _ us hl=>L2.uE (fun _ _ _=>rfl) us hl) ?_ fun f cdv A outer s H vs Q E hr h=>?_
 ·rintro vs H Q E ⟨l,r,m,fl,fr,e,rfl,_⟩;rfl
 obtain ⟨l,r,m,fl,fr,e,rfl,hn,hl,hr1,q⟩:=h
 have hu:=hr.units0
 have hu64:=hr.units
 refine ⟨_,(aA (aJ (i:=3) fM.nd rfl Vf (bc ni (aH (aG (K:=K) rfl) aR T.b_len aZ (aa (ao 0) aq) (by trivial) (by trivial)) (ao 2)) rfl) (aA (aJ (i:=4) fM.nd rfl eQ (bc ni (aH (aG (K:=K) rfl) aR T.b_len aZ (aa (ao 1) aq) (by trivial) (by trivial)) (ao 2)) rfl) (aA (aJ (i:=5) fM.nd rfl eQ (bc aN (ao 0) (vY rfl aR T.b_list aR T.b_range (aa (bc aN (ao 2) (lZ 3)) (aa (bc aN (bc aN (ao 2) (lZ 3)) (ao 4)) aq)))) rfl) (aA (aJ (i:=6) fM.nd rfl eQ (bc aN (aK fG (hr.mono (by decide)) aR (aa (lZ 3) aq) (by trivial)) (mG (sub:=[none,some 3]) (gG (N:=["left","right","many","near","far","one","other"]) (sc:=aB jj) (N':=["end","near"]) (by trivial)) rfl rfl rfl (jh (K:=K) rfl (ao 1)) (fun C s₀ H₀ ex=>(vL 0 (by trivial) sy)) (fun C s₀ H₀ ex=>jg) (fun C s₀ H₀ ex=>(bc aN (vH 1 (by trivial)) (oK 0 (by trivial)))))) rfl) (aC (aO (aK tX (hr.mono (by decide)) aR (aa (ao 5) (aa (ao 6) aq)) (by trivial)))))))),?_⟩
 walk_at "s"
 have hz:20000<=sizeLine:=by decide
 refine eO (SqL.of hl) ?_
 walk_at "s"
 rw [iY]
 walk_at "s"
 refine eO (SqL.of hr1) ?_
 walk_at "s"
 rw [iY,show ((m+fl:Nat):Int) - (m:Int)=(fl:Int) by omega,show ((m+fr:Nat):Int) - (m:Int)=(fr:Int) by omega]
 walk_at "s"
 refine EY (n:=fr) (by omega) (by omega) (by omega) (by omega) fun p np=>?_
 walk_at "s"
 rw [Bp _ (m+fl) fr (by omega)]
 have S1:=(Same.refl H).upd np (o:=.lst ((nI ((List.range fr).map (m+fl+ ·))).map V.int))
 have hp1:=aj (H:=H) (a:=p) (o:=.lst ((nI ((List.range fr).map (m+fl+ ·))).map V.int))
 generalize upd H p (.lst ((nI ((List.range fr).map (m+fl+ ·))).map V.int))=H1 at S1 hp1 ⊢
 walk_at "s"
 refine yL (S1 _ _ hl) hp1 (by rw [aY,aY];simp [gP];omega) fun o1 no1=>?_
 walk_at "s"
 rw [zy]
 have S2:=(Same.refl H1).upd no1 (o:=.lst ((nI (LN m fl e ++ (List.range fr).map (m+fl+ ·))).map V.int))
 have ho1:=aj (H:=H1) (a:=o1) (o:=.lst ((nI (LN m fl e ++ (List.range fr).map (m+fl+ ·))).map V.int))
 generalize upd H1 o1 (.lst ((nI (LN m fl e ++ (List.range fr).map (m+fl+ ·))).map V.int))=H2 at S2 ho1 ⊢
 walk_at "s"
 refine ⟨fl,rfl,by omega,fun a H3 na S3 ha=>?_⟩
 walk_at "s"
 have U3:=S1.trans (S2.trans S3)
 refine .inl ⟨r,rfl,⟨_,SqL.of (U3 _ _ hr1)⟩,?_⟩
 refine lD (xs:=(nI (LN m fr fun i j=>e i (fl+j))).map V.int) (fun i zs G=>G=H3/\zs=(nI (((LN m fr fun i j=>e i (fl+j)).take i).map (fl+ ·))).map V.int) (by rw [iY];omega) ⟨rfl,rfl⟩ ?_ ?_ ?_ ?_
 ·rintro i zs G ⟨_,rfl⟩
  rw [aY];simp;omega
 ·rintro i zs G ⟨rfl,_⟩
  exact SqL.of (U3 _ _ hr1)
 ·rintro i zs G v hv ⟨rfl,rfl⟩
  obtain ⟨a',ea,rfl⟩:=v8 hv
  walk_at "s"
  refine ⟨KeepSt.set rfl,?_⟩
  walk_at "s"
  refine ⟨rfl,?_⟩
  rw [YT,ea,Yj,show ((fl:Int)+(a':Int))=((fl+a':Nat):Int) by omega]
  unfold nI
  rw [Yj,Yj]
  rfl
 rintro zs G D H4 ⟨rfl,rfl⟩ nD S4 hD
 rw [iY,← gP m fr (fun i j=>e i (fl+j)),YM] at hD
 try walk_at "s"
 refine yL (S4 _ _ ha) hD (by rw [aY,aY];simp [gP];omega) fun o2 no2=>?_
 walk_at "s"
 rw [zy]
 have S5:=(Same.refl H4).upd no2 (o:=.lst ((nI (List.range fl ++ (LN m fr fun i j=>e i (fl+j)).map (fl+ ·))).map V.int))
 have ho2:=aj (H:=H4) (a:=o2) (o:=.lst ((nI (List.range fl ++ (LN m fr fun i j=>e i (fl+j)).map (fl+ ·))).map V.int))
 generalize upd H4 o2 (.lst ((nI (List.range fl ++ (LN m fr fun i j=>e i (fl+j)).map (fl+ ·))).map V.int))=H5 at S5 ho2 ⊢
 have U5:=U3.trans (S4.trans S5)
 walk_at "s"
 refine ⟨o1,o2,_,_,m+(fl+fr),rfl,(S3.trans (S4.trans S5)) _ _ ho1,ho2,⟨Bo (v6 (by omega)) (gP _ _ _) (by omega),Fw (v6 (by omega)) (by rw [gP];omega),by simp [gP];omega,by simp [gP];omega⟩,fun r' H6 nr' S6 hr'=>?_⟩
 rw [Di hn] at hr'
 exact q r' H6 (Same.back U5 nr') (U5.trans S6) hr'
def sE (side top:Str) (i j:Nat):Bool:=decide (side.cps.getD i 0=top.cps.getD j 0)
theorem Lj {m far:Nat} {e e':Nat->Nat->Bool} (h:∀ i j,i < m->j < far->e i j=e' i j):al m far e m=al m far e' m:=by
 unfold al rs
 refine gO fun i hi=>gO fun j hj=>?_
 rw [h i j (XJ.mp hi) (XJ.mp hj)]
theorem m6 {m far:Nat} {e e':Nat->Nat->Bool} (h:∀ i j,i < m->j < far->e i j=e' i j):LN m far e=LN m far e':=by unfold LN;rw [Lj h]
theorem Lk {m far:Nat} {e:Nat->Nat->Bool} (h:m=0\/far=0) (hn:m+far<=96):LN m far e=List.range (m+far):=by
 have:al m far e m=[]:=by
  unfold al rs
  rcases h with rfl | rfl
  ·rfl
  ·simp
 unfold LN
 rw [this]
 exact Hs _ hn
theorem Ln (e:Nat->Nat->Bool):LN 1 1 e=if e 0 0=true then [0,1] else [1,0]:=by
 have:al 1 1 e 1=if e 0 0=true then [] else [0]:=by
  unfold al rs
  simp
 unfold LN
 rw [this]
 cases e 0 0 <;> trivial
structure PG (mg:Str->Option Value) (H:Hp) (x:Addr) (y side top kind:Str) (ps:List V) (h:Nat):Prop where
 pc:Pc mg H x y side top kind (LN side.cps.size top.cps.size (sE side top)) ps h
 rs:Row side
 rt:Row top
theorem PG.same {H H':Hp} {x:Addr} {y side top kind:Str} {ps:List V} {h:Nat} (p:PG mg H x y side top kind ps h) (s:Same H H'):PG mg H' x y side top kind ps h:=⟨p.pc.same s,p.rs,p.rt⟩
theorem u9 {H:Hp}:PsH mg H [] []:=⟨rfl,fun i v h e=>by cases e⟩
theorem Dt {h:Nat} (k:t6 [] h):h=0:=by
 rcases k with ⟨_,e⟩ | ⟨⟨a,ha,_⟩,_⟩
 ·exact e
 ·cases ha
def Fx (mg:Str->Option Value):Sp:=fun vs H Q _=>∃ (x dx:Addr) (side top:Str),vs=[.ref x,.str side,.str top]/\H x=some (.ins (aM mg "Blank") dx [])/\Row side/\Row top/\(side.cps.size=0\/top.cps.size=0)/\
 ∀ H',Chg x H H'->PG mg H' x "Blank" side top (Str.ofString "blank") [] 0->(∀ m o,H m=some o->m≠x->PG mg (Hx m H') x "Blank" side top (Str.ofString "blank") [] 0)->Q .non H'
theorem sH:aF ["self","side","top"] ["self","side","top"] (aB ju):=⟨rfl,rfl,rfl,by trivial,rfl,by trivial,by trivial⟩
theorem jw (T:Txt K mg):vU P w K mg base 5 "Blank" "__init__" ["self","side","top"] (Fx mg):=by
 have iV:=iV (P:=P) (w:=w) (base:=base) T
 have aQ:=aQ (P:=P) (w:=w) (base:=base) T
 have fG:=fG (P:=P) (w:=w) (base:=base) T
 refine CZ T.m_Blank___init__ sH (fun _ _ _ _ _ _ us hl=>L2.uE (fun _ _ _=>rfl) us hl) ?_ fun f cdv A outer s H vs Q E hr h=>?_
 ·rintro vs H Q E ⟨x,dx,side,top,rfl,_⟩;rfl
 obtain ⟨x,dx,side,top,rfl,hx,rs,rt,he,q⟩:=h
 have hu:=hr.units0
 have hu64:=hr.units
 refine ⟨_,(aA (bj (aK iV (hr.mono (by decide)) aR (aa (ao 1) (aa (ao 2) aq)) (by trivial))) (aA (bZ (jJ (yN (bF t8 (aH (aG (K:=K) rfl) aR T.b_len aZ (aa (ao 1) aq) (by trivial) (by trivial)) aL (by walk_at "p")) (uU (bF t8 (aH (aG (K:=K) rfl) aR T.b_len aZ (aa (ao 2) aq) (by trivial) (by trivial)) aL (by walk_at "p"))))) (aC ji) bG) (aC (bj (vX aQ (hr.mono (by decide)) aR aX (aa (ao 0) (aa (ao 1) (aa (ao 2) (aa lV (aa (aK fG (hr.mono (by decide)) aR (aa (bc aN (aH (aG (K:=K) rfl) aR T.b_len aZ (aa (ao 1) aq) (by trivial) (by trivial)) (aH (aG (K:=K) rfl) aR T.b_len aZ (aa (ao 2) aq) (by trivial) (by trivial))) aq) (by trivial)) (aa (lA aq) aq)))))) (by trivial)))))),?_⟩
 walk_at "s"
 have lz:side.length<=sizeLine:=XQ rs.1 (by decide)
 have ly:top.length<=sizeLine:=XQ rt.1 (by decide)
 have es:side.length=side.cps.size:=rfl
 have et:top.length=top.cps.size:=rfl
 have h1:=rs.1
 have h2:=rt.1
 refine ⟨side,top,rfl,rs,rt,fun H1 S1=>?_⟩
 walk_at "s"
 refine cj lz ?_
 walk_at "s"
 have fin:∀ (l p:Addr) (H2:Hp) (Q':VK),(∀ G,Q .non G->Q' .non G)->Same H1 H2->H2 l=some (.lst ((nI (List.range (side.cps.size+top.cps.size))).map V.int))->H2 p=some (.lst [])->zr mg [.ref x,.str side,.str top,.str (Str.ofString "blank"),.ref l,.ref p] H2 Q' E:=fun l p H2 Q' hQ S2 hl hp=>by
  have U:=S1.trans S2
  refine ⟨x,dx,l,p,"Blank",side,top,_,_,[],[],rfl,by unfold Bk;simp,U _ _ hx,hl,hp,by simp,u9,fun h H3 al3 ap3 hh C3 hx3 hl3 hp3 nl3 np3=>?_⟩
  obtain rfl:=Dt hh
  obtain ⟨P3,N3⟩:=Fv (y:="Blank") (by unfold Bk;simp) (.inl rfl) (hx3.trans (by rw [X6])) hl3 hp3 nl3 np3
  rw [← Lk (e:=sE side top) he (by omega)] at P3 N3
  exact hQ _ (q H3 (fun b o n e=>C3 b o n (U _ _ e)) ⟨P3,rs,rt⟩ fun m o hm nm=>⟨N3 m o (U _ _ hm) nm,rs,rt⟩)
 by_cases h0:side.cps.size=0
 ·rw [XD (show ¬ (0:Int) < (side.length:Int) by omega)]
  walk_at "s"
  refine cj lz ?_
  walk_at "s"
  refine cj ly ?_
  walk_at "s"
  refine ⟨side.cps.size+top.cps.size,by rw [es,et];congr 2,by omega,fun l H2 nl S2 hl=>?_⟩
  walk_at "s"
  refine iG rfl fun p H3 np S3 hp=>?_
  walk_at "s"
  exact fin l p H3 _ (fun G z=>z) (S2.trans S3) (S3 _ _ hl) hp
 ·rw [XF (show (0:Int) < (side.length:Int) by omega)]
  walk_at "s"
  refine cj ly ?_
  walk_at "s"
  rw [XD (show ¬ (0:Int) < (top.length:Int) by omega)]
  walk_at "s"
  refine cj lz ?_
  walk_at "s"
  refine cj ly ?_
  walk_at "s"
  refine ⟨side.cps.size+top.cps.size,by rw [es,et];congr 2,by omega,fun l H2 nl S2 hl=>?_⟩
  walk_at "s"
  refine iG rfl fun p H3 np S3 hp=>?_
  walk_at "s"
  exact fin l p H3 _ (fun G z=>z) (S2.trans S3) (S3 _ _ hl) hp
def QT (mg:Str->Option Value):Sp:=fun vs H Q _=>∃ (x dx:Addr) (c d:Nat),vs=[.ref x,.str ⟨#[c]⟩,.str ⟨#[d]⟩]/\H x=some (.ins (aM mg "One") dx [])/\c∈GOOD/\d∈GOOD/\
 ∀ H',Chg x H H'->PG mg H' x "One" ⟨#[c]⟩ ⟨#[d]⟩ (Str.ofString "one") [] 0->(∀ m o,H m=some o->m≠x->PG mg (Hx m H') x "One" ⟨#[c]⟩ ⟨#[d]⟩ (Str.ofString "one") [] 0)->Q .non H'
theorem vd {c:Nat} (h:c∈GOOD):Row ⟨#[c]⟩:=⟨by rw [vG];decide,fun d hd=>by simp at hd;rw [hd];exact h⟩
theorem Lp (a b:Nat):decide (V.str ⟨#[a]⟩=V.str ⟨#[b]⟩)=decide (a=b):=by
 refine decide_eq_decide.mpr ⟨fun h=>?_,fun h=>by rw [h]⟩
 have:=Str.mk.inj (V.str.inj h)
 simpa using this
theorem uN:aF ["self","letter","sign"] ["self","letter","sign"] (aB lM):=⟨rfl,rfl,rfl,by trivial,rfl,by trivial,by trivial⟩
theorem lN (T:Txt K mg):vU P w K mg base 4 "One" "__init__" ["self","letter","sign"] (QT mg):=by
 have mz:=mz (P:=P) (w:=w) (base:=base) T
 have aQ:=aQ (P:=P) (w:=w) (base:=base) T
 refine CZ T.m_One___init__ uN (fun _ _ _ _ _ _ us hl=>L2.uE (fun _ _ _=>rfl) us hl) ?_ fun f cdv A outer s H vs Q E hr h=>?_
 ·rintro vs H Q E ⟨x,dx,c,d,rfl,_⟩;rfl
 obtain ⟨x,dx,c,d,rfl,hx,hc,hd,q⟩:=h
 have hu:=hr.units0
 have hu64:=hr.units
 refine ⟨_,(aA (bj (aK mz (hr.mono (by decide)) aR (aa (ao 1) aq) (by trivial))) (aA (bj (aK mz (hr.mono (by decide)) aR (aa (ao 2) aq) (by trivial))) (aC (bj (vX aQ (hr.mono (by decide)) aR aX (aa (ao 0) (aa (ao 1) (aa (ao 2) (aa lV (aa (V8 (bF (jN (K:=K) rfl hu64) (ao 1) (ao 2) (by walk_at "p")) (lA (aa aL (aa aL aq))) (lA (aa aL (aa aL aq)))) (aa (lA aq) aq)))))) (by trivial)))))),?_⟩
 walk_at "s"
 refine ⟨c,rfl,hc,?_⟩
 walk_at "s"
 refine ⟨d,rfl,hd,?_⟩
 walk_at "s"
 have fin:∀ (l p:Addr) (H2:Hp) (Q':VK),(∀ G,Q .non G->Q' .non G)->Same H H2->H2 l=some (.lst ((nI (LN 1 1 (sE ⟨#[c]⟩ ⟨#[d]⟩))).map V.int))->H2 p=some (.lst [])->zr mg [.ref x,.str ⟨#[c]⟩,.str ⟨#[d]⟩,.str (Str.ofString "one"),.ref l,.ref p] H2 Q' E:=fun l p H2 Q' hQ U hl hp=>by
  refine ⟨x,dx,l,p,"One",_,_,_,_,[],[],rfl,by unfold Bk;simp,U _ _ hx,hl,hp,by simp,u9,fun h H3 al3 ap3 hh C3 hx3 hl3 hp3 nl3 np3=>?_⟩
  obtain rfl:=Dt hh
  obtain ⟨P3,N3⟩:=Fv (y:="One") (by unfold Bk;simp) (.inl rfl) (hx3.trans (by rw [X6])) hl3 hp3 nl3 np3
  exact hQ _ (q H3 (fun b o n e=>C3 b o n (U _ _ e)) ⟨P3,vd hc,vd hd⟩ fun m o hm nm=>⟨N3 m o (U _ _ hm) nm,vd hc,vd hd⟩)
 rw [Lp]
 have eE:sE ⟨#[c]⟩ ⟨#[d]⟩ 0 0=decide (c=d):=rfl
 by_cases h:c=d
 ·rw [XF h]
  walk_at "s"
  refine iG rfl fun l H2 nl S2 hl=>?_
  walk_at "s"
  refine iG rfl fun p H3 np S3 hp=>?_
  walk_at "s"
  refine fin l p H3 _ (fun G z=>z) (S2.trans S3) ?_ hp
  rw [Ln,eE,XF h,if_pos rfl]
  exact S3 _ _ hl
 ·rw [XD h]
  walk_at "s"
  refine iG rfl fun l H2 nl S2 hl=>?_
  walk_at "s"
  refine iG rfl fun p H3 np S3 hp=>?_
  walk_at "s"
  refine fin l p H3 _ (fun G z=>z) (S2.trans S3) ?_ hp
  rw [Ln,eE,XD h,if_neg (by decide)]
  exact S3 _ _ hl
theorem jm (a b:Str):(a ++ b).cps.toList=a.cps.toList ++ b.cps.toList:=by
 show (a.cps ++ b.cps).toList=_
 simp
theorem iy (a b:Str):(a ++ b).cps.size=a.cps.size+b.cps.size:=by
 rw [← Yb,jm,Yr,Yb,Yb]
theorem getD_list (z:Str) (i:Nat):z.cps.getD i 0=z.cps.toList.getD i 0:=by
 rw [Xj,Array.getElem?_toList,Array.getD_eq_getD_getElem?]
theorem Du {a b:Str} {i:Nat} (h:i < a.cps.size):(a ++ b).cps.getD i 0=a.cps.getD i 0:=by
 rw [getD_list,getD_list,jm,Xj,Yg (by simpa using h),Xj]
theorem Dv {a b:Str} {i:Nat}:(a ++ b).cps.getD (a.cps.size+i) 0=b.cps.getD i 0:=by
 rw [getD_list,getD_list,jm,Xj,X7 (by simp),Yb,Zc,Xj]
theorem qj {a b:Str} (ha:Row a) (hb:Row b) (h:(a ++ b).length<=48):Row (a ++ b):=⟨h,fun c hc=>by
 rw [jm] at hc
 exact (Yx.mp hc).elim (ha.2 c) (hb.2 c)⟩
theorem PG.isP {H:Hp} {x:Addr} {y side top kind:Str} {ps:List V} {h:Nat} (p:PG mg H x y side top kind ps h):IsP mg H (.ref x):=⟨x,y,side,top,kind,_,ps,h,rfl,p.pc⟩
theorem ql {H:Hp} {u l:Addr} {y s t k y' s' t' k':Str} {ps ps':List V} {h h':Nat} (p:PG mg H u y s t k ps h) (p':PG mg H l y' s' t' k' ps' h'):PsH mg H [.ref u,.ref l] [h,h']:=⟨rfl,fun i v n e1 e2=>by
 match i,e1,e2 with
 | 0,e1,e2=>cases e1;cases e2;exact ⟨u,y,s,t,k,_,ps,rfl,p.pc⟩
 | 1,e1,e2=>cases e1;cases e2;exact ⟨l,y',s',t',k',_,ps',rfl,p'.pc⟩
 | i+2,e1,e2=>cases e1⟩
def Fy (mg:Str->Option Value):Sp:=fun vs H Q E=>∃ (x dx u l:Addr) (yu yl su sl tu tl ku kl:Str) (pu pl:List V) (hu hl:Nat),vs=[.ref x,.ref u,.ref l]/\H x=some (.ins (aM mg "Over") dx [])/\PG mg H u yu su tu ku pu hu/\PG mg H l yl sl tl kl pl hl/\
 (tu≠tl->XUn mg H E tu tl)/\(tu=tl->¬ (su ++ sl).length<=48->XTl mg H E (su ++ sl).length)/\
 (tu=tl->(su ++ sl).length<=48->∀ h H',t6 [hu,hl] h->Chg x H H'->PG mg H' x "Over" (su ++ sl) tu (Str.ofString "over") [.ref u,.ref l] h->(∀ m o,H m=some o->m≠x->PG mg (Hx m H') x "Over" (su ++ sl) tu (Str.ofString "over") [.ref u,.ref l] h)->Q .non H')
theorem jx:aF ["self","upper","lower","side","lines"] ["self","upper","lower"] (aB jR):=⟨rfl,rfl,rfl,by trivial,rfl,by trivial,by trivial⟩
theorem bH (T:Txt K mg):vU P w K mg base 9 "Over" "__init__" ["self","upper","lower"] (Fy mg):=by
 have fO:=fO (P:=P) (w:=w) (base:=base) T
 have iW:=iW (P:=P) (w:=w) (base:=base) T
 have bM:=bM (P:=P) (w:=w) (base:=base) T
 have bh:=bh (P:=P) (w:=w) (base:=base) T
 have gZ:=gZ (P:=P) (w:=w) (base:=base) T
 have oJ:=oJ (P:=P) (w:=w) (base:=base) T
 have aU:=aU (P:=P) (w:=w) (base:=base) T
 have aQ:=aQ (P:=P) (w:=w) (base:=base) T
 refine CZ T.m_Over___init__ jx (fun _ _ _ _ _ _ us hl=>L2.uE (fun _ _ _=>rfl) us hl) ?_ fun f cdv A outer s H vs Q E hr h=>?_
 ·rintro vs H Q E ⟨x,dx,u,l,yu,yl,su,sl,top,tl,ku,kl,pu,pl,nu,nl,rfl,_⟩;rfl
 obtain ⟨x,dx,u,l,yu,yl,su,sl,top,tl,ku,kl,pu,pl,nu,nl,rfl,hx,gu,gl,q1,q2,q⟩:=h
 have hu:=hr.units0
 have hu64:=hr.units
 refine ⟨_,(aA (bj (aK fO (hr.mono (by decide)) aR (aa (ao 1) (aa (ao 2) aq)) (by trivial))) (aA (bj (uY iW (hr.mono (by decide)) aR aX (aa (aV (mg:=mg) rfl (ao 1) T.os_Piece bM (hr.mono (by decide)) aX) (aa (aV (mg:=mg) rfl (ao 2) T.os_Piece bM (hr.mono (by decide)) aX) aq)) (by trivial))) (aA (aJ (i:=3) jx.nd rfl eQ (bc aN (aV (mg:=mg) rfl (ao 1) T.os_Piece bh (hr.mono (by decide)) aX) (aV (mg:=mg) rfl (ao 2) T.os_Piece bh (hr.mono (by decide)) aX)) rfl) (aA (bj (uY gZ (hr.mono (by decide)) aR aX (aa (ao 3) aq) (by trivial))) (aA (aJ (i:=4) jx.nd rfl eQ (aK oJ (hr.mono (by decide)) aR (aa (aV (mg:=mg) rfl (ao 1) T.os_Piece aU (hr.mono (by decide)) aX) (aa (aV (mg:=mg) rfl (ao 2) T.os_Piece aU (hr.mono (by decide)) aX) (aa (aH (aG (K:=K) rfl) aR T.b_len aZ (aa (aV (mg:=mg) rfl (ao 1) T.os_Piece bM (hr.mono (by decide)) aX) aq) (by trivial) (by trivial)) aq))) (by trivial)) rfl) (aC (bj (vX aQ (hr.mono (by decide)) aR aX (aa (ao 0) (aa (ao 3) (aa (aV (mg:=mg) rfl (ao 1) T.os_Piece bM (hr.mono (by decide)) aX) (aa lV (aa (ao 4) (aa (lA (aa (ao 1) (aa (ao 2) aq))) aq)))))) (by trivial))))))))),?_⟩
 walk_at "s"
 have hz:20000<=sizeLine:=by decide
 have h2:top.length<=48:=gu.rt.1
 have h3:su.length<=48:=gu.rs.1
 have h4:sl.length<=48:=gl.rs.1
 have ly:top.length<=sizeLine:=by omega
 have et:top.length=top.cps.size:=rfl
 have es:(su ++ sl).length=(su ++ sl).cps.size:=rfl
 have ec:=iy su sl
 have el:(su ++ sl).length=su.length+sl.length:=iy su sl
 refine ⟨_,_,rfl,gu.isP,gl.isP,fun H1 S1=>?_⟩
 walk_at "s"
 have gu1:=gu.same S1
 have gl1:=gl.same S1
 obtain ⟨hyu,du,au,bu,ru0,ou,xu,_,_⟩:=id gu1.pc
 obtain ⟨hyl,dl,al',bl,rl0,ol,xl,_,_⟩:=id gl1.pc
 refine ⟨u,yu,du,_,rfl,hyu,xu,ou.m (by trivial),?_⟩
 walk_at "s"
 refine ⟨u,yu,_,_,_,_,_,_,rfl,gu1.pc,?_⟩
 walk_at "s"
 refine ⟨l,yl,dl,_,rfl,hyl,xl,ol.m (by trivial),?_⟩
 walk_at "s"
 refine ⟨l,yl,_,_,_,_,_,_,rfl,gl1.pc,?_⟩
 walk_at "s"
 refine ⟨top,tl,rfl,fun et'=>?_,fun ne e G s X=>q1 ne e G (S1.trans s) X⟩
 walk_at "s"
 obtain rfl:=et'
 walk_at "s"
 refine ⟨u,yu,du,_,rfl,hyu,xu,ou.m (by trivial),?_⟩
 walk_at "s"
 refine ⟨u,yu,_,_,_,_,_,_,rfl,gu1.pc,?_⟩
 walk_at "s"
 refine ⟨l,yl,dl,_,rfl,hyl,xl,ol.m (by trivial),?_⟩
 walk_at "s"
 refine ⟨l,yl,_,_,_,_,_,_,rfl,gl1.pc,?_⟩
 walk_at "s"
 refine fP (by omega) ?_
 walk_at "s"
 refine ⟨su ++ sl,rfl,by omega,fun hlen=>?_,fun hn e G s X=>q2 rfl hn e G (S1.trans s) X⟩
 walk_at "s"
 refine ⟨u,yu,du,_,rfl,hyu,xu,ou.m (by trivial),?_⟩
 walk_at "s"
 refine ⟨u,yu,_,_,_,_,_,_,rfl,gu1.pc,fun ru H2 nru S2 hru=>?_⟩
 walk_at "s"
 refine ⟨l,yl,dl,_,rfl,hyl,S2 _ _ xl,ol.m (by trivial),?_⟩
 walk_at "s"
 refine ⟨l,yl,_,_,_,_,_,_,rfl,gl1.pc.same S2,fun rl H3 nrl S3 hrl=>?_⟩
 walk_at "s"
 have U3:=S2.trans S3
 refine ⟨u,yu,du,_,rfl,hyu,U3 _ _ xu,ou.m (by trivial),?_⟩
 walk_at "s"
 refine ⟨u,yu,_,_,_,_,_,_,rfl,gu1.pc.same U3,?_⟩
 walk_at "s"
 refine cj ly ?_
 walk_at "s"
 refine ⟨ru,rl,su.cps.size,sl.cps.size,top.cps.size,sE (su ++ sl) top,rfl,by omega,?_,?_,fun rr H4 nrr S4 hrr=>?_⟩
 walk_at "s"
 ·rw [m6 (e':=sE su top) fun i j hi hj=>by unfold sE;rw [Du hi]]
  exact S3 _ _ hru
 ·rw [m6 (e':=sE sl top) fun i j hi hj=>by unfold sE;rw [Dv]]
  exact hrl
 have U4:=U3.trans S4
 walk_at "s"
 refine ⟨u,yu,du,_,rfl,hyu,U4 _ _ xu,ou.m (by trivial),?_⟩
 walk_at "s"
 refine ⟨u,yu,_,_,_,_,_,_,rfl,gu1.pc.same U4,?_⟩
 walk_at "s"
 refine iG rfl fun pp H5 npp S5 hpp=>?_
 walk_at "s"
 have U5:=S1.trans (U4.trans S5)
 refine ⟨x,dx,rr,pp,"Over",su ++ sl,top,_,_,_,[nu,nl],rfl,by unfold Bk;simp,U5 _ _ hx,S5 _ _ hrr,hpp,by simp,ql (gu.same U5) (gl.same U5),fun h H6 al6 ap6 hh C6 hx6 hl6 hp6 nl6 np6=>?_⟩
 obtain ⟨P6,N6⟩:=Fv (y:="Over") (by unfold Bk;simp) (.inl rfl) (hx6.trans (by rw [X6])) hl6 hp6 nl6 np6
 rw [← ec] at P6 N6
 exact q rfl hlen h H6 hh (fun b o n e=>C6 b o n (U5 _ _ e)) ⟨P6,qj gu.rs gl.rs hlen,gu.rt⟩ fun m o hm nm=>⟨N6 m o (U5 _ _ hm) nm,qj gu.rs gl.rs hlen,gu.rt⟩
def yj (mg:Str->Option Value):Sp:=fun vs H Q E=>∃ (x dx u l:Addr) (yu yl su sl tu tl ku kl:Str) (pu pl:List V) (hu hl:Nat),vs=[.ref x,.ref u,.ref l]/\H x=some (.ins (aM mg "Beside") dx [])/\PG mg H u yu su tu ku pu hu/\PG mg H l yl sl tl kl pl hl/\
 (su≠sl->XUn mg H E su sl)/\(su=sl->¬ (tu ++ tl).length<=48->XTl mg H E (tu ++ tl).length)/\
 (su=sl->(tu ++ tl).length<=48->∀ h H',t6 [hu,hl] h->Chg x H H'->PG mg H' x "Beside" su (tu ++ tl) (Str.ofString "beside") [.ref u,.ref l] h->(∀ m o,H m=some o->m≠x->PG mg (Hx m H') x "Beside" su (tu ++ tl) (Str.ofString "beside") [.ref u,.ref l] h)->Q .non H')
theorem iJ:aF ["self","left","right","top","lines"] ["self","left","right"] (aB jk):=⟨rfl,rfl,rfl,by trivial,rfl,by trivial,by trivial⟩
theorem bC (T:Txt K mg):vU P w K mg base 9 "Beside" "__init__" ["self","left","right"] (yj mg):=by
 have fO:=fO (P:=P) (w:=w) (base:=base) T
 have iW:=iW (P:=P) (w:=w) (base:=base) T
 have bh:=bh (P:=P) (w:=w) (base:=base) T
 have bM:=bM (P:=P) (w:=w) (base:=base) T
 have gZ:=gZ (P:=P) (w:=w) (base:=base) T
 have eZ:=eZ (P:=P) (w:=w) (base:=base) T
 have aU:=aU (P:=P) (w:=w) (base:=base) T
 have aQ:=aQ (P:=P) (w:=w) (base:=base) T
 refine CZ T.m_Beside___init__ iJ (fun _ _ _ _ _ _ us hl=>L2.uE (fun _ _ _=>rfl) us hl) ?_ fun f cdv A outer s H vs Q E hr h=>?_
 ·rintro vs H Q E ⟨x,dx,u,l,yu,yl,side,sl,tu,tl,ku,kl,pu,pl,nu,nl,rfl,_⟩;rfl
 obtain ⟨x,dx,u,l,yu,yl,side,sl,tu,tl,ku,kl,pu,pl,nu,nl,rfl,hx,gu,gl,q1,q2,q⟩:=h
 have hu:=hr.units0
 have hu64:=hr.units
 refine ⟨_,(aA (bj (aK fO (hr.mono (by decide)) aR (aa (ao 1) (aa (ao 2) aq)) (by trivial))) (aA (bj (uY iW (hr.mono (by decide)) aR aX (aa (aV (mg:=mg) rfl (ao 1) T.os_Piece bh (hr.mono (by decide)) aX) (aa (aV (mg:=mg) rfl (ao 2) T.os_Piece bh (hr.mono (by decide)) aX) aq)) (by trivial))) (aA (aJ (i:=3) iJ.nd rfl eQ (bc aN (aV (mg:=mg) rfl (ao 1) T.os_Piece bM (hr.mono (by decide)) aX) (aV (mg:=mg) rfl (ao 2) T.os_Piece bM (hr.mono (by decide)) aX)) rfl) (aA (bj (uY gZ (hr.mono (by decide)) aR aX (aa (ao 3) aq) (by trivial))) (aA (aJ (i:=4) iJ.nd rfl eQ (aK eZ (hr.mono (by decide)) aR (aa (aV (mg:=mg) rfl (ao 1) T.os_Piece aU (hr.mono (by decide)) aX) (aa (aV (mg:=mg) rfl (ao 2) T.os_Piece aU (hr.mono (by decide)) aX) (aa (aH (aG (K:=K) rfl) aR T.b_len aZ (aa (aV (mg:=mg) rfl (ao 1) T.os_Piece bh (hr.mono (by decide)) aX) aq) (by trivial) (by trivial)) aq))) (by trivial)) rfl) (aC (bj (vX aQ (hr.mono (by decide)) aR aX (aa (ao 0) (aa (aV (mg:=mg) rfl (ao 1) T.os_Piece bh (hr.mono (by decide)) aX) (aa (ao 3) (aa lV (aa (ao 4) (aa (lA (aa (ao 1) (aa (ao 2) aq))) aq)))))) (by trivial))))))))),?_⟩
 walk_at "s"
 have hz:20000<=sizeLine:=by decide
 have h2:side.length<=48:=gu.rs.1
 have h3:tu.length<=48:=gu.rt.1
 have h4:tl.length<=48:=gl.rt.1
 have ly:side.length<=sizeLine:=by omega
 have et:side.length=side.cps.size:=rfl
 have es:(tu ++ tl).length=(tu ++ tl).cps.size:=rfl
 have ec:=iy tu tl
 have el:(tu ++ tl).length=tu.length+tl.length:=iy tu tl
 refine ⟨_,_,rfl,gu.isP,gl.isP,fun H1 S1=>?_⟩
 walk_at "s"
 have gu1:=gu.same S1
 have gl1:=gl.same S1
 obtain ⟨hyu,du,au,bu,ru0,ou,xu,_,_⟩:=id gu1.pc
 obtain ⟨hyl,dl,al',bl,rl0,ol,xl,_,_⟩:=id gl1.pc
 refine ⟨u,yu,du,_,rfl,hyu,xu,ou.m (by trivial),?_⟩
 walk_at "s"
 refine ⟨u,yu,_,_,_,_,_,_,rfl,gu1.pc,?_⟩
 walk_at "s"
 refine ⟨l,yl,dl,_,rfl,hyl,xl,ol.m (by trivial),?_⟩
 walk_at "s"
 refine ⟨l,yl,_,_,_,_,_,_,rfl,gl1.pc,?_⟩
 walk_at "s"
 refine ⟨side,sl,rfl,fun et'=>?_,fun ne e G s X=>q1 ne e G (S1.trans s) X⟩
 walk_at "s"
 obtain rfl:=et'
 walk_at "s"
 refine ⟨u,yu,du,_,rfl,hyu,xu,ou.m (by trivial),?_⟩
 walk_at "s"
 refine ⟨u,yu,_,_,_,_,_,_,rfl,gu1.pc,?_⟩
 walk_at "s"
 refine ⟨l,yl,dl,_,rfl,hyl,xl,ol.m (by trivial),?_⟩
 walk_at "s"
 refine ⟨l,yl,_,_,_,_,_,_,rfl,gl1.pc,?_⟩
 walk_at "s"
 refine fP (by omega) ?_
 walk_at "s"
 refine ⟨tu ++ tl,rfl,by omega,fun hlen=>?_,fun hn e G s X=>q2 rfl hn e G (S1.trans s) X⟩
 walk_at "s"
 refine ⟨u,yu,du,_,rfl,hyu,xu,ou.m (by trivial),?_⟩
 walk_at "s"
 refine ⟨u,yu,_,_,_,_,_,_,rfl,gu1.pc,fun ru H2 nru S2 hru=>?_⟩
 walk_at "s"
 refine ⟨l,yl,dl,_,rfl,hyl,S2 _ _ xl,ol.m (by trivial),?_⟩
 walk_at "s"
 refine ⟨l,yl,_,_,_,_,_,_,rfl,gl1.pc.same S2,fun rl H3 nrl S3 hrl=>?_⟩
 walk_at "s"
 have U3:=S2.trans S3
 refine ⟨u,yu,du,_,rfl,hyu,U3 _ _ xu,ou.m (by trivial),?_⟩
 walk_at "s"
 refine ⟨u,yu,_,_,_,_,_,_,rfl,gu1.pc.same U3,?_⟩
 walk_at "s"
 refine cj ly ?_
 walk_at "s"
 refine ⟨ru,rl,side.cps.size,tu.cps.size,tl.cps.size,sE side (tu ++ tl),rfl,by omega,?_,?_,fun rr H4 nrr S4 hrr=>?_⟩
 walk_at "s"
 ·rw [m6 (e':=sE side tu) fun i j hi hj=>by unfold sE;rw [Du hj]]
  exact S3 _ _ hru
 ·rw [m6 (e':=sE side tl) fun i j hi hj=>by unfold sE;rw [Dv]]
  exact hrl
 have U4:=U3.trans S4
 walk_at "s"
 refine ⟨u,yu,du,_,rfl,hyu,U4 _ _ xu,ou.m (by trivial),?_⟩
 walk_at "s"
 refine ⟨u,yu,_,_,_,_,_,_,rfl,gu1.pc.same U4,?_⟩
 walk_at "s"
 refine iG rfl fun pp H5 npp S5 hpp=>?_
 walk_at "s"
 have U5:=S1.trans (U4.trans S5)
 refine ⟨x,dx,rr,pp,"Beside",side,tu ++ tl,_,_,_,[nu,nl],rfl,by unfold Bk;simp,U5 _ _ hx,S5 _ _ hrr,hpp,by simp,ql (gu.same U5) (gl.same U5),fun h H6 al6 ap6 hh C6 hx6 hl6 hp6 nl6 np6=>?_⟩
 obtain ⟨P6,N6⟩:=Fv (y:="Beside") (by unfold Bk;simp) (.inl rfl) (hx6.trans (by rw [X6])) hl6 hp6 nl6 np6
 rw [← ec] at P6 N6
 exact q rfl hlen h H6 hh (fun b o n e=>C6 b o n (U5 _ _ e)) ⟨P6,gu.rs,qj gu.rt gl.rt hlen⟩ fun m o hm nm=>⟨N6 m o (U5 _ _ hm) nm,gu.rs,qj gu.rt gl.rt hlen⟩
def Us (m:Nat) (e:Nat->Nat->Bool) (i j:Nat):List Nat:=(List.range j).flatMap fun j=>if e i j=true then [] else [m - 1 - i+j]
def stE (m far:Nat) (e:Nat->Nat->Bool) (i j:Nat):List Nat:=bD (List.range (m+far)) (al m far e i ++ Us m e i j)
theorem Bq (m far:Nat) (e:Nat->Nat->Bool) (i j:Nat):stE m far e i (j+1)=if e i j=true then stE m far e i j else aP (stE m far e i j) (m - 1 - i+j):=by
 unfold stE Us
 rw [List.range_succ,List.flatMap_append,← ZR,jD]
 simp only [List.flatMap_cons,List.flatMap_nil,X6]
 split
 ·rfl
 ·rfl
theorem Fz (m far:Nat) (e:Nat->Nat->Bool) (i:Nat):stE m far e (i+1) 0=stE m far e i far:=by
 unfold stE Us
 rw [u0]
 simp only [List.range_zero,List.flatMap_nil,X6]
 rfl
theorem PJ (m far:Nat) (e:Nat->Nat->Bool):stE m far e m 0=Dn (m+far) (al m far e m):=by
 unfold stE Us Dn
 simp
theorem Lq (m far:Nat) (e:Nat->Nat->Bool):stE m far e 0 0=List.range (m+far):=rfl
theorem zA {m i j p:Nat} {e:Nat->Nat->Bool} (h:p∈Us m e i j):∃ k,k < j/\p=m - 1 - i+k:=by
 unfold Us at h
 obtain ⟨k,hk,h⟩:=Z6.mp h
 refine ⟨k,XJ.mp hk,?_⟩
 split at h
 ·cases h
 ·exact Yv.mp h
theorem FJ {m far i j:Nat} {e:Nat->Nat->Bool} (hn:m+far<=96) (hi:i < m/\j<=far\/i<=m/\j=0):Prm (stE m far e i j):=by
 refine Fd hn fun p hp=>?_
 rcases Yx.mp hp with h | h
 ·obtain ⟨a,b,ha,hb,rfl⟩:=zb h
  omega
 ·obtain ⟨k,hk,rfl⟩:=zA h
  omega
theorem FN (m far:Nat) (e:Nat->Nat->Bool) (i j:Nat):(stE m far e i j).length=m+far:=by unfold stE;rw [jK];simp
theorem run_get {E ps:List Nat} {q:Nat} (h:∀ p∈ps,q < p):(bD E ps).getD q 0=E.getD q 0:=by
 induction ps generalizing E with
 | nil=>rfl
 | cons p ps ih=>
  show (bD (aP E p) ps).getD q 0=_
  rw [ih fun x hx=>h x (by simp [hx]),step_get (.inl (h p (by simp)))]
theorem PK {m far i j q:Nat} {e:Nat->Nat->Bool} (hi:i < m) (hq:q < m - 1 - i\/(q=m - 1 - i/\j=0)):(stE m far e i j).getD q 0=q:=by
 have hr:(List.range (m+far)).getD q 0=q:=by
  rw [Xj,XM (by omega)];rfl
 unfold stE
 rw [run_get,hr]
 intro p hp
 rcases Yx.mp hp with h | h
 ·obtain ⟨a,b,ha,hb,rfl⟩:=zb h
  omega
 ·obtain ⟨k,hk,rfl⟩:=zA h
  omega
structure Ut (m far:Nat) (e:Nat->Nat->Bool) (i j:Nat) (x:Nat) (F:List Nat):Prop where
 len:F.length=far
 ln:x=(stE m far e i j).getD (m - 1 - i+j) 0
 lo:∀ k,k < j->F.getD k 0=(stE m far e i j).getD (m - 1 - i+k) 0
 hi:∀ k,j<=k->k < far->F.getD k 0=(stE m far e i j).getD (m - i+k) 0
theorem HJ {m far:Nat} {e:Nat->Nat->Bool} {F:List Nat} {i:Nat} (hi:i < m) (hl:F.length=far) (hF:∀ k,k < far->F.getD k 0=(stE m far e i 0).getD (m - i+k) 0):Ut m far e i 0 (m - 1 - i) F:=
 ⟨hl,by rw [Nat.add_zero,PK hi (.inr ⟨rfl,rfl⟩)],fun k hk=>absurd hk (Nat.not_lt_zero _),fun k _ hk=>hF k hk⟩
theorem PL {E:List Nat} {p:Nat} (h:p+1 < E.length) (hw:qx E p=true):(aP E p).getD p 0=E.getD (p+1) 0/\(aP E p).getD (p+1) 0=E.getD p 0:=by
 rw [v4 hw]
 refine ⟨?_,?_⟩
 ·rw [iH h,if_neg (by omega),if_pos rfl]
 ·rw [iH h,if_pos rfl]
theorem Lr {m far:Nat} {e:Nat->Nat->Bool} {i j x:Nat} {F:List Nat} (hn:m+far<=96) (hi:i < m) (hj:j < far) (w:Ut m far e i j x F) (h:e i j=true\/F.getD j 0 < x):Ut m far e i (j+1) (F.getD j 0) (F.set j x):=by
 have eE:stE m far e i (j+1)=stE m far e i j:=by
  rw [Bq]
  split
  ·rfl
  ·rename_i hne
   have hlt:F.getD j 0 < x:=h.resolve_left hne
   unfold aP
   rw [if_neg]
   unfold qx
   have h1:=w.ln
   have h2:=w.hi j (Xo _) hj
   rw [show m - 1 - i+j+1=m - i+j by omega]
   simp only [decide_eq_true_eq]
   omega
 refine ⟨by rw [List.length_set];exact w.len,?_,fun k hk=>?_,fun k hk hk2=>?_⟩
 ·rw [eE,w.hi j (Xo _) hj,show m - 1 - i+(j+1)=m - i+j by omega]
 ·rw [eE]
  by_cases e1:k=j
  ·subst e1
   rw [Xj,Yk (by rw [w.len];exact hj)]
   exact w.ln
  ·rw [Xj,XX (fun z=>e1 z.symm),← Xj]
   exact w.lo k (by omega)
 ·rw [eE,Xj,XX (by omega),← Xj]
  exact w.hi k (by omega) hk2
theorem Ls {m far:Nat} {e:Nat->Nat->Bool} {i j x:Nat} {F:List Nat} (hn:m+far<=96) (hi:i < m) (hj:j < far) (w:Ut m far e i j x F) (h:e i j=false) (h2:¬ F.getD j 0 < x):Ut m far e i (j+1) x F:=by
 have hP:=FJ (e:=e) hn (.inl ⟨hi,Nat.le_of_lt hj⟩)
 have hl:=FN m far e i j
 have h3:=w.ln
 have h4:=w.hi j (Xo _) hj
 have hne:x≠F.getD j 0:=fun z=>by
  rw [h3,h4] at z
  have:=yW (n:=m+far) (by have:=hP.pm;rw [hl] at this;exact this) (by omega) (by omega) z
  omega
 have hw:qx (stE m far e i j) (m - 1 - i+j)=true:=by
  unfold qx
  rw [show m - 1 - i+j+1=m - i+j by omega]
  simp only [decide_eq_true_eq]
  omega
 have eE:stE m far e i (j+1)=aP (stE m far e i j) (m - 1 - i+j):=by rw [Bq,h];rfl
 obtain ⟨s1,s2⟩:=PL (by rw [hl];omega) hw
 refine ⟨w.len,?_,fun k hk=>?_,fun k hk hk2=>?_⟩
 ·rw [eE,show m - 1 - i+(j+1)=m - 1 - i+j+1 by omega,s2];exact h3
 ·rw [eE]
  by_cases e1:k=j
  ·subst e1
   rw [s1,show m - 1 - i+k+1=m - i+k by omega];exact h4
  ·rw [step_get (.inl (by omega))]
   exact w.lo k (by omega)
 ·rw [eE,step_get (.inr (by omega))]
  exact w.hi k (by omega) hk2
def TK (y kind:Str):Prop:=(y="Blank"/\kind=Str.ofString "blank")\/(y="One"/\kind=Str.ofString "one")\/(y="Over"/\kind=Str.ofString "over")\/(y="Beside"/\kind=Str.ofString "beside")\/(y="Ring"/\kind=Str.ofString "ring")
theorem wy {H H2:Hp} {x dx:Addr} {o1 o2:HO} (nx:H x=none) (nd:H dx=none) (c:Chg x (upd (upd H dx o1) x o2) H2):Same H H2:=fun b o e=>by
 have h1:b≠x:=fun z=>by rw [z,nx] at e;cases e
 have h2:b≠dx:=fun z=>by rw [z,nd] at e;cases e
 exact c b o h1 (by rw [aD h1,aD h2];exact e)
theorem Br {H:Hp} {x dx m:Addr} {o o1 o2:HO} (nx:H x=none) (nd:H dx=none) (hm:H m=some o):upd (upd H dx o1) x o2 m=some o/\m≠x:=by
 have h1:m≠x:=fun z=>by rw [z,nx] at hm;cases hm
 have h2:m≠dx:=fun z=>by rw [z,nd] at hm;cases hm
 exact ⟨by rw [aD h1,aD h2];exact hm,h1⟩
theorem uO {H:Hp} {x dx:Addr} {o1 o2:HO} (nx:H x=none) (nd:H dx=none):Same H (upd (upd H dx o1) x o2):=fun b o e=>(Br nx nd e).1
theorem PsH.same {H H':Hp} {ps:List V} {hs:List Nat} (p:PsH mg H ps hs) (c:Same H H'):PsH mg H' ps hs:=⟨p.1,fun i v h e1 e2=>by
 obtain ⟨q,y,s,t,k,L,qs,rfl,z⟩:=p.2 i v h e1 e2
 exact ⟨q,y,s,t,k,L,qs,rfl,z.same c⟩⟩
def GP1 (mg:Str->Option Value) (H:Hp) (x:Addr) (side top:Str) (h:Nat):Prop:=∃ (y kind:Str) (ps:List V) (hs:List Nat),PG mg H x y side top kind ps h/\TK y kind/\PsH mg H ps hs/\t6 hs h/\((ps=[]/\(kind=Str.ofString "blank"\/kind=Str.ofString "one"))\/ps.length=2)
theorem GP1.same {H H':Hp} {x:Addr} {side top:Str} {h:Nat} (p:GP1 mg H x side top h) (c:Same H H'):GP1 mg H' x side top h:=by
 obtain ⟨y,k,ps,hs,a,b,d,e,f⟩:=p
 exact ⟨y,k,ps,hs,a.same c,b,d.same c,e,f⟩
theorem GP1.rs {H:Hp} {x:Addr} {side top:Str} {h:Nat} (p:GP1 mg H x side top h):Row side/\Row top:=by
 obtain ⟨y,k,ps,hs,a,_⟩:=p
 exact ⟨a.rs,a.rt⟩
theorem GP1.blank {H:Hp} {x:Addr} {side top:Str} (p:PG mg H x "Blank" side top (Str.ofString "blank") [] 0):GP1 mg H x side top 0:=⟨_,_,_,[],p,.inl ⟨rfl,rfl⟩,u9,.inl ⟨rfl,rfl⟩,.inl ⟨rfl,.inl rfl⟩⟩
theorem GP1.one {H:Hp} {x:Addr} {side top:Str} (p:PG mg H x "One" side top (Str.ofString "one") [] 0):GP1 mg H x side top 0:=⟨_,_,_,[],p,.inr (.inl ⟨rfl,rfl⟩),u9,.inl ⟨rfl,rfl⟩,.inl ⟨rfl,.inr rfl⟩⟩
theorem GP1.two {H:Hp} {x u l:Addr} {y kind side top s1 t1 s2 t2:Str} {h hu hl:Nat} (tk:TK y kind) (p:PG mg H x y side top kind [.ref u,.ref l] h) (hh:t6 [hu,hl] h) (gu:GP1 mg H u s1 t1 hu) (gl:GP1 mg H l s2 t2 hl):GP1 mg H x side top h:=by
 obtain ⟨_,_,_,_,a,_⟩:=gu
 obtain ⟨_,_,_,_,b,_⟩:=gl
 exact ⟨y,kind,_,[hu,hl],p,tk,ql a b,hh,.inr rfl⟩
def Hm (H0 H:Hp):Hp:=fun b=>match H0 b with
 | some _=>none
 | none=>H b
theorem ym {H0 H:Hp} {b:Addr} {o:HO} (h:Hm H0 H b=some o):H0 b=none/\H b=some o:=by
 unfold Hm at h
 split at h
 ·cases h
 ·exact ⟨by assumption,h⟩
theorem uC {H0 H:Hp} {b:Addr} {o:HO} (h:H b=some o) (n:H0 b=none):Hm H0 H b=some o:=by unfold Hm;rw [n];exact h
theorem PN {H0 H:Hp}:Same (Hm H0 H) H:=fun b o e=>(ym e).2
theorem WR {H0 H H':Hp} (c:Same H H'):Same (Hm H0 H) (Hm H0 H'):=fun b o e=>uC (c _ _ (ym e).2) (ym e).1
theorem Uu {H0 H H':Hp} {n:Addr} {o:HO} (hn:H0 n=some o) (c:Chg n H H'):Same (Hm H0 H) (Hm H0 H'):=fun b u e=>uC (c b u (fun z=>by have:=(ym e).1;rw [z,hn] at this;cases this) (ym e).2) (ym e).1
def Dm (H0 H:Hp):Prop:=∀ m o,H0 m=some o->∃ o',H m=some o'
theorem Dm.of {H0 H:Hp} (s:Same H0 H):Dm H0 H:=fun m o e=>⟨o,s _ _ e⟩
theorem Dm.same {H0 H H':Hp} (d:Dm H0 H) (s:Same H H'):Dm H0 H':=fun m o e=>let ⟨o',e'⟩:=d m o e;⟨o',s _ _ e'⟩
theorem PG.hm {H0 H:Hp} {x:Addr} {y side top kind:Str} {ps:List V} {h:Nat} (p:PG mg H x y side top kind ps h) (N:∀ m o,H0 m=some o->PG mg (Hx m H) x y side top kind ps h):PG mg (Hm H0 H) x y side top kind ps h:=by
 obtain ⟨⟨hy,dx,al,ap,r,orr,a,b,c⟩,rs,rt⟩:=p
 have key:∀ m o,H0 m=some o->x≠m/\al≠m/\ap≠m:=fun m o hm=>by
  obtain ⟨⟨_,dx',al',ap',r',orr',a',b',c'⟩,_,_⟩:=N m o hm
  have e:=Ft m H _ _ a'
  rw [a] at e
  simp only [Option.some.injEq,HO.ins.injEq,Bl,Z4,List.cons.injEq,Prod.mk.injEq,V.ref.injEq,true_and,and_true] at e
  obtain ⟨_,rfl,rfl,_⟩:=e
  have nn:∀ {b:Addr} {o:HO},Hx m H b=some o->b≠m:=fun {b o} hb z=>by rw [z] at hb;unfold Hx at hb;rw [if_pos rfl] at hb;cases hb
  exact ⟨nn a',nn b',nn c'⟩
 have out:∀ b,(∀ m o,H0 m=some o->b≠m)->H0 b=none:=fun b hb=>by
  cases h:H0 b with
  | none=>rfl
  | some o=>exact absurd rfl (hb b o h)
 exact ⟨⟨hy,dx,al,ap,r,orr,uC a (out x fun m o hm=>(key m o hm).1),uC b (out al fun m o hm=>(key m o hm).2.1),uC c (out ap fun m o hm=>(key m o hm).2.2)⟩,rs,rt⟩
def GP (mg:Str->Option Value) (H0 H:Hp) (x:Addr) (side top:Str) (h:Nat):Prop:=GP1 mg (Hm H0 H) x side top h
theorem GP.g {H0 H:Hp} {x:Addr} {side top:Str} {h:Nat} (p:GP mg H0 H x side top h):GP1 mg H x side top h:=GP1.same p PN
theorem GP.same {H0 H H':Hp} {x:Addr} {side top:Str} {h:Nat} (p:GP mg H0 H x side top h) (c:Same H H'):GP mg H0 H' x side top h:=GP1.same p (WR c)
theorem GP.chg {H0 H H':Hp} {n x:Addr} {o:HO} {side top:Str} {h:Nat} (p:GP mg H0 H x side top h) (hn:H0 n=some o) (c:Chg n H H'):GP mg H0 H' x side top h:=GP1.same p (Uu hn c)
theorem PP {H:Hp} {a m:Addr} {o:HO} (hm:H m=some o) (n:H a=none):a≠m:=fun z=>by rw [z,hm] at n;cases n
theorem Bs {H0 H:Hp} {side top:Str} {R:Addr->Hp->Prop} {E:XK} (S0:Dm H0 H) (rs:Row side) (rt:Row top) (he:side.cps.size=0\/top.cps.size=0) (q:∀ x H',Same H H'->PG mg H' x "Blank" side top (Str.ofString "blank") [] 0->GP mg H0 H' x side top 0->R x H') (x dx:Addr) (nx:H x=none) (nd:H dx=none) (_:dx≠x):
  Fx mg [.ref x,.str side,.str top] (upd (upd H dx (.own x)) x (.ins (aM mg "Blank") dx [])) (fun v H2=>v= .non/\R x H2) E:=
 ⟨x,dx,side,top,rfl,aj,rs,rt,he,fun H2 C P2 N2=>⟨rfl,q x H2 (wy nx nd C) P2 (GP1.blank (P2.hm fun m o hm=>let ⟨o',e⟩:=S0 m o hm;N2 m o' (Br nx nd e).1 (PP e nx).symm))⟩⟩
theorem Uv {H0 H:Hp} {c d:Nat} {R:Addr->Hp->Prop} {E:XK} (S0:Dm H0 H) (hc:c∈GOOD) (hd:d∈GOOD) (q:∀ x H',Same H H'->PG mg H' x "One" ⟨#[c]⟩ ⟨#[d]⟩ (Str.ofString "one") [] 0->GP mg H0 H' x ⟨#[c]⟩ ⟨#[d]⟩ 0->R x H') (x dx:Addr) (nx:H x=none) (nd:H dx=none) (_:dx≠x):
  QT mg [.ref x,.str ⟨#[c]⟩,.str ⟨#[d]⟩] (upd (upd H dx (.own x)) x (.ins (aM mg "One") dx [])) (fun v H2=>v= .non/\R x H2) E:=
 ⟨x,dx,c,d,rfl,aj,hc,hd,fun H2 C P2 N2=>⟨rfl,q x H2 (wy nx nd C) P2 (GP1.one (P2.hm fun m o hm=>let ⟨o',e⟩:=S0 m o hm;N2 m o' (Br nx nd e).1 (PP e nx).symm))⟩⟩
theorem sI {H0 H:Hp} {u l:Addr} {su sl top:Str} {hu hl:Nat} {R:Addr->Hp->Prop} {E:XK} (S0:Dm H0 H) (gu:GP mg H0 H u su top hu) (gl:GP mg H0 H l sl top hl) (hlen:(su ++ sl).length<=48) (q:∀ x h H',Same H H'->t6 [hu,hl] h->PG mg H' x "Over" (su ++ sl) top (Str.ofString "over") [.ref u,.ref l] h->GP mg H0 H' x (su ++ sl) top h->R x H') (x dx:Addr) (nx:H x=none) (nd:H dx=none) (_:dx≠x):
  Fy mg [.ref x,.ref u,.ref l] (upd (upd H dx (.own x)) x (.ins (aM mg "Over") dx [])) (fun v H2=>v= .non/\R x H2) E:=by
 obtain ⟨_,_,_,_,a,_⟩:=id gu.g
 obtain ⟨_,_,_,_,b,_⟩:=id gl.g
 refine ⟨x,dx,u,l,_,_,su,sl,top,top,_,_,_,_,hu,hl,rfl,aj,a.same (uO nx nd),b.same (uO nx nd),fun n=>absurd rfl n,fun _ n=>absurd hlen n,fun _ _ h H2 hh C P2 N2=>⟨rfl,?_⟩⟩
 have S:=wy nx nd C
 have tk:TK "Over" (Str.ofString "over"):=.inr (.inr (.inl ⟨rfl,rfl⟩))
 exact q x h H2 S hh P2 (GP1.two tk (P2.hm fun m o hm=>let ⟨o',e⟩:=S0 m o hm;N2 m o' (Br nx nd e).1 (PP e nx).symm) hh (gu.same S) (gl.same S))
theorem yo {H0 H:Hp} {u l:Addr} {side tu tl:Str} {hu hl:Nat} {R:Addr->Hp->Prop} {E:XK} (S0:Dm H0 H) (gu:GP mg H0 H u side tu hu) (gl:GP mg H0 H l side tl hl) (hlen:(tu ++ tl).length<=48) (q:∀ x h H',Same H H'->t6 [hu,hl] h->PG mg H' x "Beside" side (tu ++ tl) (Str.ofString "beside") [.ref u,.ref l] h->GP mg H0 H' x side (tu ++ tl) h->R x H') (x dx:Addr) (nx:H x=none) (nd:H dx=none) (_:dx≠x):
  yj mg [.ref x,.ref u,.ref l] (upd (upd H dx (.own x)) x (.ins (aM mg "Beside") dx [])) (fun v H2=>v= .non/\R x H2) E:=by
 obtain ⟨_,_,_,_,a,_⟩:=id gu.g
 obtain ⟨_,_,_,_,b,_⟩:=id gl.g
 refine ⟨x,dx,u,l,_,_,side,side,tu,tl,_,_,_,_,hu,hl,rfl,aj,a.same (uO nx nd),b.same (uO nx nd),fun n=>absurd rfl n,fun _ n=>absurd hlen n,fun _ _ h H2 hh C P2 N2=>⟨rfl,?_⟩⟩
 have S:=wy nx nd C
 have tk:TK "Beside" (Str.ofString "beside"):=.inr (.inr (.inr (.inl ⟨rfl,rfl⟩)))
 exact q x h H2 S hh P2 (GP1.two tk (P2.hm fun m o hm=>let ⟨o',e⟩:=S0 m o hm;N2 m o' (Br nx nd e).1 (PP e nx).symm) hh (gu.same S) (gl.same S))
theorem QV {a b h n:Nat} (k:t6 [a,b] h) (ha:a<=n) (hb:b<=n):h<=n+1:=by
 rcases k with ⟨e,_⟩ | ⟨⟨c,hc,e⟩,_⟩
 ·cases e
 ·simp only [Xr,Yd,or_false] at hc
  rcases hc with rfl | rfl <;> omega
theorem qm {a b:Str} (h:a.cps.toList=b.cps.toList):a=b:=by
 cases a;cases b;congr;exact Array.ext' h
def kO:List Str->Str
 | []=>Str.ofString ""
 | s :: ss=>s ++ kO ss
theorem vf:(Str.ofString "").cps.toList=[]:=by trivial
theorem FP (s:Str):s ++ Str.ofString ""=s:=qm (by rw [jm,vf,X6])
theorem PQ (s:Str):Str.ofString "" ++ s=s:=qm (by rw [jm,vf,List.nil_append])
theorem HN (a b c:Str):a ++ b ++ c=a ++ (b ++ c):=qm (by rw [jm,jm,jm,jm,ZR])
theorem Bt:∀ (a b:List Str),kO (a ++ b)=kO a ++ kO b
 | [],b=>(PQ _).symm
 | s :: a,b=>by show s ++ kO (a ++ b)=s ++ kO a ++ kO b;rw [Bt a b,HN]
def qH (z:Str):List Str:=z.cps.toList.map fun c=>⟨#[c]⟩
theorem qp (z:Str):kO (qH z)=z:=by
 refine qm ?_
 unfold qH
 induction z.cps.toList with
 | nil=>exact vf
 | cons c l ih=>show (⟨#[c]⟩ ++ kO _:Str).cps.toList=_;rw [jm,ih];rfl
theorem len_cat (a b:Str):(a ++ b).length=a.length+b.length:=iy a b
def Lw (K:W.Frag) (mg:Str->Option Value) (d:Nat):Sp:=fun vs H Q _=>∃ (p:Addr) (xs:List Addr) (side:Str) (ts:List Str) (h0:Nat) (H0:Hp),vs=[.ref p]/\Dm H0 H/\H p=some (.lst (xs.map V.ref))/\xs.length=ts.length/\0 < xs.length/\xs.length<=2 ^ d/\(kO ts).length<=48/\(∀ (i:Nat) (x:Addr) (t:Str),xs[i]?=some x->ts[i]?=some t->∃ h,h<=h0/\GP mg H0 H x side t h)/\
 ∀ x h H',Same H H'->h<=h0+d->GP mg H0 H' x side (kO ts) h->Q (.ref x) H'
def WT (K:W.Frag) (mg:Str->Option Value):Nat->Sp
 | 0=>fun _ _ _ _=>False
 | d+1=>Lw K mg d
def Lx (K:W.Frag) (mg:Str->Option Value) (d:Nat):Sp:=fun vs H Q _=>∃ (p:Addr) (xs:List Addr) (top:Str) (ts:List Str) (h0:Nat) (H0:Hp),vs=[.ref p]/\Dm H0 H/\H p=some (.lst (xs.map V.ref))/\xs.length=ts.length/\0 < xs.length/\xs.length<=2 ^ d/\(kO ts).length<=48/\(∀ (i:Nat) (x:Addr) (t:Str),xs[i]?=some x->ts[i]?=some t->∃ h,h<=h0/\GP mg H0 H x t top h)/\
 ∀ x h H',Same H H'->h<=h0+d->GP mg H0 H' x (kO ts) top h->Q (.ref x) H'
def WW (K:W.Frag) (mg:Str->Option Value):Nat->Sp
 | 0=>fun _ _ _ _=>False
 | d+1=>Lx K mg d
theorem yp {ts:List Str} {c:Nat} (h:(kO ts).length<=48):kO ts=kO (ts.take c) ++ kO (ts.drop c)/\(kO (ts.take c)).length+(kO (ts.drop c)).length<=48:=by
 have e:kO ts=kO (ts.take c) ++ kO (ts.drop c):=by rw [← Bt,List.take_append_drop]
 refine ⟨e,?_⟩
 rw [e,len_cat] at h
 exact h
theorem half {n d:Nat} (h:n<=2 ^ (d+1)):n / 2<=2 ^ d/\n - n / 2<=2 ^ d:=by
 rw [Nat.pow_succ] at h
 omega
theorem mQ:aF ["pieces","cut"] ["pieces"] (aB nZ):=⟨rfl,rfl,rfl,by trivial,rfl,by trivial,by trivial⟩
theorem wU (T:Txt K mg):Has P w K mg base 1 "all_beside" ["pieces"] (fun _ _ _ _=>False):=fK (k:=0) T.d_all_beside mQ (fun _ _ _ _ _ _ us hl=>L2.jc (fun _=>rfl) us hl) (fun _ _ _ _ h=>h.elim) (fun _ _ _ _ _ _ _ _ _ _ h=>h.elim)
theorem qI (T:Txt K mg) (d:Nat) (g8:Has P w K mg base (10+d) "all_beside" ["pieces"] (WT K mg d)):Has P w K mg base (10+d+1) "all_beside" ["pieces"] (Lw K mg d):=by
 have bC:=bC (P:=P) (w:=w) (base:=base) T
 refine fK T.d_all_beside mQ (fun _ _ _ _ _ _ us hl=>L2.jc (fun _=>rfl) us hl) ?_ fun f cdv A outer s H vs Q E hr h=>?_
 ·rintro vs H Q E ⟨p,xs,side,ts,h0,H0,rfl,_⟩;rfl
 obtain ⟨p,xs,side,ts,h0,H0,rfl,hS0,hp,hl,h1,h2,hlen,hG,q⟩:=h
 have hu:=hr.units0
 have hu64:=hr.units
 refine ⟨_,(aA (bZ (bF (jN (K:=K) rfl hu64) (aH (aG (K:=K) rfl) aR T.b_len aZ (aa (ao 0) aq) (by trivial) (by trivial)) aL (by walk_at "p")) (aC (aO (nG (K:=K) rfl (ao 0) aL))) bG) (aA (aJ (i:=1) mQ.nd rfl eQ (bc iB (aH (aG (K:=K) rfl) aR T.b_len aZ (aa (ao 0) aq) (by trivial) (by trivial)) aL) rfl) (aC (aO (fu T.o_Beside bC (hr.mono (by omega)) aR (eY fun _ _=>rfl) (aa (aK g8 (hr.mono (by omega)) aR (aa (km (uP (K:=K) rfl) (ao 0) lW (jA (ao 1))) aq) (by trivial)) (aa (aK g8 (hr.mono (by omega)) aR (aa (km (uP (K:=K) rfl) (ao 0) (jA (ao 1)) lW) aq) (by trivial)) aq)) (by trivial)))))),?_⟩
 walk_at "s"
 have hz:20000<=sizeLine:=by decide
 refine eO (SqL.of hp) ?_
 walk_at "s"
 rw [X4]
 by_cases e1:xs.length=1
 ·rw [XF (show V.int (xs.length:Int)=V.int 1 by rw [e1];rfl)]
  obtain ⟨x,rfl⟩:=ZG.mp e1
  obtain ⟨t,rfl⟩:=ZG.mp (hl.symm.trans e1)
  obtain ⟨h,hh,g⟩:=hG 0 x t rfl rfl
  have hp':H p=some (.lst [.ref x]):=hp
  walk_at "s"
  refine q x h H (Same.refl H) (by omega) ?_
  rw [show kO [t]=t from FP t]
  exact g
 ·rw [XD (show ¬ V.int (xs.length:Int)=V.int 1 from fun z=>e1 (by have:=V.int.inj z;omega))]
  obtain ⟨e,rfl⟩:∃ e,d=e+1:=by
   cases d with
   | zero=>simp at h2;omega
   | succ e=>exact ⟨e,rfl⟩
  obtain ⟨k1,k2⟩:=half h2
  walk_at "s"
  refine eO (SqL.of hp) ?_
  walk_at "s"
  rw [X4,show ((xs.length:Nat):Int) / 2=((xs.length / 2:Nat):Int) by omega]
  generalize hc:xs.length / 2=c at k1 k2 ⊢
  obtain ⟨c1,c2⟩:=yp (c:=c) hlen
  walk_at "s"
  refine Ad (SqL.of hp) fun p1 np1=>?_
  walk_at "s"
  rw [Ar,← List.map_take]
  have S1:=(Same.refl H).upd np1 (o:=.lst ((xs.take c).map V.ref))
  have hp1:=aj (H:=H) (a:=p1) (o:=.lst ((xs.take c).map V.ref))
  generalize upd H p1 (.lst ((xs.take c).map V.ref))=H1 at S1 hp1 ⊢
  walk_at "s"
  refine ⟨p1,xs.take c,side,ts.take c,h0,H0,rfl,hS0.same S1,hp1,by simp;omega,by simp;omega,by simp;omega,by omega,(fun i x t ex et=>?_),fun x1 g1 H2 S2 l1 G1=>?_⟩
  walk_at "s"
  ·obtain ⟨ei,ex'⟩:i < c/\xs[i]?=some x:=by
    rw [List.getElem?_take] at ex
    split at ex
    ·exact ⟨by assumption,ex⟩
    ·cases ex
   rw [List.getElem?_take_of_lt ei] at et
   obtain ⟨h,hh,g⟩:=hG i x t ex' et
   exact ⟨h,hh,g.same S1⟩
  have U2:=S1.trans S2
  try walk_at "s"
  refine Ad (SqL.of (U2 _ _ hp)) fun p2 np2=>?_
  walk_at "s"
  rw [vW,← List.map_drop]
  have S3:=(Same.refl H2).upd np2 (o:=.lst ((xs.drop c).map V.ref))
  have hp3:=aj (H:=H2) (a:=p2) (o:=.lst ((xs.drop c).map V.ref))
  generalize upd H2 p2 (.lst ((xs.drop c).map V.ref))=H3 at S3 hp3 ⊢
  walk_at "s"
  refine ⟨p2,xs.drop c,side,ts.drop c,h0,H0,rfl,hS0.same (U2.trans S3),hp3,by simp;omega,by simp;omega,by simp;omega,by omega,(fun i x t ex et=>?_),fun x2 g2 H4 S4 l2 G2=>?_⟩
  walk_at "s"
  ·rw [List.getElem?_drop] at ex et
   obtain ⟨h,hh,g⟩:=hG _ x t ex et
   exact ⟨h,hh,g.same (U2.trans S3)⟩
  try walk_at "s"
  refine yo (hS0.same (U2.trans (S3.trans S4))) (G1.same (S3.trans S4)) G2 (by rw [len_cat];omega) fun x h H5 S5 hh _ g=>?_
  refine q x h H5 (U2.trans (S3.trans (S4.trans S5))) (by have:=QV hh l1 l2;omega) ?_
  rw [c1]
  exact g
theorem pW:aF ["pieces","cut"] ["pieces"] (aB qZ):=⟨rfl,rfl,rfl,by trivial,rfl,by trivial,by trivial⟩
theorem Bu (T:Txt K mg):Has P w K mg base 1 "all_over" ["pieces"] (fun _ _ _ _=>False):=fK (k:=0) T.d_all_over pW (fun _ _ _ _ _ _ us hl=>L2.jc (fun _=>rfl) us hl) (fun _ _ _ _ h=>h.elim) (fun _ _ _ _ _ _ _ _ _ _ h=>h.elim)
theorem uD (T:Txt K mg) (d:Nat) (jy:Has P w K mg base (10+d) "all_over" ["pieces"] (WW K mg d)):Has P w K mg base (10+d+1) "all_over" ["pieces"] (Lx K mg d):=by
 have bH:=bH (P:=P) (w:=w) (base:=base) T
 refine fK T.d_all_over pW (fun _ _ _ _ _ _ us hl=>L2.jc (fun _=>rfl) us hl) ?_ fun f cdv A outer s H vs Q E hr h=>?_
 ·rintro vs H Q E ⟨p,xs,top,ts,h0,H0,rfl,_⟩;rfl
 obtain ⟨p,xs,top,ts,h0,H0,rfl,hS0,hp,hl,h1,h2,hlen,hG,q⟩:=h
 have hu:=hr.units0
 have hu64:=hr.units
 refine ⟨_,(aA (bZ (bF (jN (K:=K) rfl hu64) (aH (aG (K:=K) rfl) aR T.b_len aZ (aa (ao 0) aq) (by trivial) (by trivial)) aL (by walk_at "p")) (aC (aO (nG (K:=K) rfl (ao 0) aL))) bG) (aA (aJ (i:=1) pW.nd rfl eQ (bc iB (aH (aG (K:=K) rfl) aR T.b_len aZ (aa (ao 0) aq) (by trivial) (by trivial)) aL) rfl) (aC (aO (fu T.o_Over bH (hr.mono (by omega)) aR (eY fun _ _=>rfl) (aa (aK jy (hr.mono (by omega)) aR (aa (km (uP (K:=K) rfl) (ao 0) lW (jA (ao 1))) aq) (by trivial)) (aa (aK jy (hr.mono (by omega)) aR (aa (km (uP (K:=K) rfl) (ao 0) (jA (ao 1)) lW) aq) (by trivial)) aq)) (by trivial)))))),?_⟩
 walk_at "s"
 have hz:20000<=sizeLine:=by decide
 refine eO (SqL.of hp) ?_
 walk_at "s"
 rw [X4]
 by_cases e1:xs.length=1
 ·rw [XF (show V.int (xs.length:Int)=V.int 1 by rw [e1];rfl)]
  obtain ⟨x,rfl⟩:=ZG.mp e1
  obtain ⟨t,rfl⟩:=ZG.mp (hl.symm.trans e1)
  obtain ⟨h,hh,g⟩:=hG 0 x t rfl rfl
  have hp':H p=some (.lst [.ref x]):=hp
  walk_at "s"
  refine q x h H (Same.refl H) (by omega) ?_
  rw [show kO [t]=t from FP t]
  exact g
 ·rw [XD (show ¬ V.int (xs.length:Int)=V.int 1 from fun z=>e1 (by have:=V.int.inj z;omega))]
  obtain ⟨e,rfl⟩:∃ e,d=e+1:=by
   cases d with
   | zero=>simp at h2;omega
   | succ e=>exact ⟨e,rfl⟩
  obtain ⟨k1,k2⟩:=half h2
  walk_at "s"
  refine eO (SqL.of hp) ?_
  walk_at "s"
  rw [X4,show ((xs.length:Nat):Int) / 2=((xs.length / 2:Nat):Int) by omega]
  generalize hc:xs.length / 2=c at k1 k2 ⊢
  obtain ⟨c1,c2⟩:=yp (c:=c) hlen
  walk_at "s"
  refine Ad (SqL.of hp) fun p1 np1=>?_
  walk_at "s"
  rw [Ar,← List.map_take]
  have S1:=(Same.refl H).upd np1 (o:=.lst ((xs.take c).map V.ref))
  have hp1:=aj (H:=H) (a:=p1) (o:=.lst ((xs.take c).map V.ref))
  generalize upd H p1 (.lst ((xs.take c).map V.ref))=H1 at S1 hp1 ⊢
  walk_at "s"
  refine ⟨p1,xs.take c,top,ts.take c,h0,H0,rfl,hS0.same S1,hp1,by simp;omega,by simp;omega,by simp;omega,by omega,(fun i x t ex et=>?_),fun x1 g1 H2 S2 l1 G1=>?_⟩
  walk_at "s"
  ·obtain ⟨ei,ex'⟩:i < c/\xs[i]?=some x:=by
    rw [List.getElem?_take] at ex
    split at ex
    ·exact ⟨by assumption,ex⟩
    ·cases ex
   rw [List.getElem?_take_of_lt ei] at et
   obtain ⟨h,hh,g⟩:=hG i x t ex' et
   exact ⟨h,hh,g.same S1⟩
  have U2:=S1.trans S2
  try walk_at "s"
  refine Ad (SqL.of (U2 _ _ hp)) fun p2 np2=>?_
  walk_at "s"
  rw [vW,← List.map_drop]
  have S3:=(Same.refl H2).upd np2 (o:=.lst ((xs.drop c).map V.ref))
  have hp3:=aj (H:=H2) (a:=p2) (o:=.lst ((xs.drop c).map V.ref))
  generalize upd H2 p2 (.lst ((xs.drop c).map V.ref))=H3 at S3 hp3 ⊢
  walk_at "s"
  refine ⟨p2,xs.drop c,top,ts.drop c,h0,H0,rfl,hS0.same (U2.trans S3),hp3,by simp;omega,by simp;omega,by simp;omega,by omega,(fun i x t ex et=>?_),fun x2 g2 H4 S4 l2 G2=>?_⟩
  walk_at "s"
  ·rw [List.getElem?_drop] at ex et
   obtain ⟨h,hh,g⟩:=hG _ x t ex et
   exact ⟨h,hh,g.same (U2.trans S3)⟩
  try walk_at "s"
  refine sI (hS0.same (U2.trans (S3.trans S4))) (G1.same (S3.trans S4)) G2 (by rw [len_cat];omega) fun x h H5 S5 hh _ g=>?_
  refine q x h H5 (U2.trans (S3.trans (S4.trans S5))) (by have:=QV hh l1 l2;omega) ?_
  rw [c1]
  exact g
theorem HQ (T:Txt K mg):∀ d:Nat,Has P w K mg base (11+d) "all_beside" ["pieces"] (Lw K mg d):=fun d=>by
 have key:∀ d:Nat,Has P w K mg base (11 - 1+d+1) "all_beside" ["pieces"] (Lw K mg d):=fun d=>by
  induction d with
  | zero=>exact qI T 0 ((wU T).mono (by decide))
  | succ d ih=>exact qI T (d+1) (ih.mono (by omega))
 exact (key d).mono (by omega)
theorem PX (T:Txt K mg):∀ d:Nat,Has P w K mg base (11+d) "all_over" ["pieces"] (Lx K mg d):=fun d=>by
 have key:∀ d:Nat,Has P w K mg base (11 - 1+d+1) "all_over" ["pieces"] (Lx K mg d):=fun d=>by
  induction d with
  | zero=>exact uD T 0 ((Bu T).mono (by decide))
  | succ d ih=>exact uD T (d+1) (ih.mono (by omega))
 exact (key d).mono (by omega)
theorem g8 (T:Txt K mg):Has P w K mg base (11+6) "all_beside" ["pieces"] (Lw K mg 6):=HQ T 6
theorem jy (T:Txt K mg):Has P w K mg base (11+6) "all_over" ["pieces"] (Lx K mg 6):=PX T 6
theorem qt {z:Str}:z=Str.ofString ""↔z.cps.size=0:=⟨fun h=>by rw [h];trivial,fun h=>qm (by rw [vf];exact List.eq_nil_of_length_eq_zero (by simpa using h))⟩
end
local macro_rules | `(tactic| walk_at "s") => `(tactic| (with_reducible repeat (first | refine lU ?_ | walk_at "4")))
local macro_rules | `(tactic| walk_at "n") => `(tactic| (with_reducible repeat (walk_at "4")))
section
variable {P:Program} {w:World} {K:W.Frag} {mg:Str->Option Value} {base:Heap}
theorem wV:(["sign","bands"]:List Str).Nodup:=by trivial
theorem wW:(["other","sign"]:List Str).Nodup:=by trivial
theorem Pc.off {H:Hp} {x d:Addr} {y side top kind:Str} {L:List Nat} {ps:List V} {h:Nat} {kvs:List (Key×V)} (p:Pc mg H x y side top kind L ps h) (hd:H d=some (.dK kvs)):Pc mg (Hx d H) x y side top kind L ps h:=by
 obtain ⟨hy,dx,al,ap,r,o,a,b,c⟩:=p
 exact ⟨hy,dx,al,ap,r,o,yh a (fun z=>by rw [z,hd] at a;cases a),yh b (fun z=>by rw [z,hd] at b;cases b),yh c (fun z=>by rw [z,hd] at c;cases c)⟩
theorem GP1.off {H:Hp} {x d:Addr} {side top:Str} {h:Nat} {kvs:List (Key×V)} (p:GP1 mg H x side top h) (hd:H d=some (.dK kvs)):GP1 mg (Hx d H) x side top h:=by
 obtain ⟨y,k,ps,hs,a,b,c,e,f⟩:=p
 exact ⟨y,k,ps,hs,⟨a.pc.off hd,a.rs,a.rt⟩,b,⟨c.1,fun i v n e1 e2=>by
  obtain ⟨q,y',s',t',k',L,qs,rfl,z⟩:=c.2 i v n e1 e2
  exact ⟨q,y',s',t',k',L,qs,rfl,z.off hd⟩⟩,e,f⟩
theorem GP1.put {H:Hp} {x d:Addr} {side top:Str} {h:Nat} {kvs:List (Key×V)} {o:HO} (p:GP1 mg H x side top h) (hd:H d=some (.dK kvs)):GP1 mg (upd H d o) x side top h:=(p.off hd).same (by rw [← Up (o:=o)];exact Ft d _)
theorem Uw {H0 H:Hp} {d:Addr} {o:HO} (n:H0 d=none):Hm H0 (upd H d o)=upd (Hm H0 H) d o:=by
 funext b
 by_cases h2:b=d
 ·rw [h2,aj];exact uC aj n
 ·rw [aD h2];unfold Hm;rw [aD h2]
theorem GP.put {H0 H:Hp} {x d:Addr} {side top:Str} {h:Nat} {kvs:List (Key×V)} {o:HO} (p:GP mg H0 H x side top h) (hd:H d=some (.dK kvs)) (n0:H0 d=none):GP mg H0 (upd H d o) x side top h:=by
 unfold GP
 rw [Uw n0]
 exact GP1.put p (uC hd n0)
def WX (mg:Str->Option Value):Sp:=fun vs H Q _=>∃ (side top:Str),vs=[.str side,.str top]/\Row side/\Row top/\∀ x h H',Same H H'->h<=12->GP mg H H' x side top h->Q (.ref x) H'
theorem Bv (z:Str):(qH z).length=z.cps.size:=by unfold qH;simp
theorem FQ {z:Str} {i c:Nat} (h:z.cps.toList[i]?=some c):(qH z)[i]?=some ⟨#[c]⟩:=by unfold qH;rw [XH,h];rfl
theorem pX:aF ["side","top","bands","sign"] ["side","top"] (aB lJ):=⟨rfl,rfl,rfl,by trivial,rfl,by trivial,by trivial⟩
theorem iK (T:Txt K mg):Has P w K mg base 18 "balanced" ["side","top"] (WX mg):=by
 have iV:=iV (P:=P) (w:=w) (base:=base) T
 have jw:=jw (P:=P) (w:=w) (base:=base) T
 have g8:=g8 (P:=P) (w:=w) (base:=base) T
 have lN:=lN (P:=P) (w:=w) (base:=base) T
 have jy:=jy (P:=P) (w:=w) (base:=base) T
 refine fK T.d_balanced pX (fun _ _ _ _ _ _ us hl=>L2.rD (fun _ _=>rfl) us hl) ?_ fun f cdv A outer s H vs Q E hr h=>?_
 ·rintro vs H Q E ⟨side,top,rfl,_⟩;rfl
 obtain ⟨side,top,rfl,rs,rt,q⟩:=h
 have hu:=hr.units0
 have hu64:=hr.units
 refine ⟨_,(aA (bj (aK iV (hr.mono (by decide)) aR (aa (ao 0) (aa (ao 1) aq)) (by trivial))) (aA (bZ (jJ (jW (bF (jN (K:=K) rfl hu64) (ao 0) lV (by walk_at "p")) (jo (bF (jN (K:=K) rfl hu64) (ao 1) lV (by walk_at "p"))))) (aC (aO (fu T.o_Blank jw (hr.mono (by decide)) aR (eY fun _ _=>rfl) (aa (ao 0) (aa (ao 1) aq)) (by trivial)))) bG) (aA (aJ (i:=2) pX.nd rfl Vf Ey rfl) (aA (iC Yo rfl (jh (K:=K) rfl (ao 0)) (d7 (i:=3) pX.nd rfl Vf rfl) (aC (bZ (bF (Hg (K:=K) rfl hu64) (lZ 3) (lZ 2) (by walk_at "p")) (aC (jB (ts:=oN) (aK g8 (hr.mono (by decide)) aR (aa (mG (sub:=[none,some 3]) (gG (N:=["side","top","bands","sign"]) (sc:=aB lJ) (N':=["other","sign"]) (by trivial)) rfl rfl rfl (jh (K:=K) rfl (ao 1)) (fun C s₀ H₀ ex=>(vL 0 (by trivial) wW)) (fun C s₀ H₀ ex=>jg) (fun C s₀ H₀ ex=>(Ao (mg:=mg) rfl T.o_One lN (hr.mono (by decide)) (SX (by trivial)) (eY fun _ _=>rfl) (aa (vH 1 (by trivial)) (aa (oK 0 (by trivial)) aq)) (by trivial)))) aq) (by trivial)) (mF (lZ 2) (lZ 3) (jC hu64)))) bG))) (aC (aO (aK jy (hr.mono (by decide)) aR (aa (mG (sub:=[none,some 2]) (gG (N:=["side","top","bands","sign"]) (sc:=aB lJ) (N':=["sign","bands"]) (by trivial)) rfl rfl rfl (jh (K:=K) rfl (ao 0)) (fun C s₀ H₀ ex=>(vL 0 (by trivial) wV)) (fun C s₀ H₀ ex=>jg) (fun C s₀ H₀ ex=>(Ua hu64 (vH 1 (by trivial)) (oK 0 (by trivial))))) aq) (by trivial)))))))),?_⟩
 walk_at "s"
 have hz:20000<=sizeLine:=by decide
 have l1:=rs.1
 have l2:=rt.1
 have el1:side.length=side.cps.size:=rfl
 have el2:top.length=top.cps.size:=rfl
 refine ⟨side,top,rfl,rs,rt,fun H1 S1=>?_⟩
 walk_at "s"
 by_cases h0:side.cps.size=0
 ·rw [XF (show V.str side=V.str (Str.ofString "") by rw [qt.mpr h0])]
  show if true=true then _ else _
  walk_at "s"
  refine Bs (.of S1) rs rt (.inl h0) fun x H2 S2 p2 g2=>?_
  exact q x 0 H2 (S1.trans S2) (by omega) g2
 rw [XD (show ¬ V.str side=V.str (Str.ofString "") from fun z=>h0 (qt.mp (V.str.inj z)))]
 show if false=true then _ else _
 walk_at "s"
 by_cases h1:top.cps.size=0
 ·rw [XF (show V.str top=V.str (Str.ofString "") by rw [qt.mpr h1])]
  walk_at "s"
  refine Bs (.of S1) rs rt (.inr h1) fun x H2 S2 p2 g2=>?_
  exact q x 0 H2 (S1.trans S2) (by omega) g2
 rw [XD (show ¬ V.str top=V.str (Str.ofString "") from fun z=>h1 (qt.mp (V.str.inj z)))]
 walk_at "s"
 intro d nd
 have nd0:=Same.back S1 nd
 have S2:=S1.trans ((Same.refl H1).upd nd (o:=.dK []))
 have hd2:=aj (H:=H1) (a:=d) (o:=.dK [])
 generalize upd H1 d (.dK [])=H2 at S2 hd2 ⊢
 walk_at "s"
 refine .inr (.inr ⟨side,rfl,?_⟩)
 refine NK (fun i U G=>Same H G/\(∃ kvs,G d=some (.dK kvs)/\kvs.length<=i/\(∀ c v,jG kvs (Sum.inr ⟨#[c]⟩)=some v->∃ x h,v= .ref x/\h<=6/\GP mg H G x ⟨#[c]⟩ top h)/\(∀ j c,j < i->side.cps.toList[j]?=some c->∃ v,jG kvs (Sum.inr ⟨#[c]⟩)=some v))/\∃ x3,U=[some (.str side),some (.str top),some (.ref d),x3]) ⟨S2,⟨[],hd2,Xo _,(fun c v h=>by cases h),fun j c h=>absurd h (Nat.not_lt_zero _)⟩,_,rfl⟩ ?_ ?_
 ·rintro i U G c hc ⟨s,⟨kvs,hd,hkl,hg,hk⟩,x3,rfl⟩
  have hi:i < side.cps.size:=by simpa using (Xm.mp hc).1
  have hcg:c∈GOOD:=rs.2 c (Xz hc)
  walk_at "s"
  refine .inr ⟨d,_,rfl,DGet.k (k:=Sum.inr ⟨#[c]⟩) hd,?_⟩
  cases hv:jG kvs (Sum.inr ⟨#[c]⟩) with
  | some v=>
   rw [show (!(some v).isSome)=false from rfl]
   walk_at "s"
   refine ⟨s,⟨kvs,hd,by omega,hg,fun j c' hj hc'=>?_⟩,_,rfl⟩
   by_cases hji:j < i
   ·exact hk j c' hji hc'
   ·obtain rfl:j=i:=by omega
    rw [hc] at hc'
    cases hc'
    exact ⟨v,hv⟩
  | none=>
   rw [show (!(none:Option V).isSome)=true from rfl]
   walk_at "s"
   refine .inr (.inr ⟨top,rfl,?_⟩)
   refine tG (fun i zs J=>Same G J/\∃ xs:List Addr,zs=xs.map V.ref/\xs.length=i/\∀ (j:Nat) (x:Addr) (t:Str),xs[j]?=some x->(qH top)[j]?=some t->∃ h,h<=0/\GP mg H J x ⟨#[c]⟩ t h) (by omega) ⟨Same.refl G,[],rfl,rfl,fun j x t e=>by cases e⟩ ?_ ?_ ?_
   ·rintro i zs J ⟨_,xs,rfl,e,_⟩
    rw [X4];omega
   ·rintro i zs J t ht ⟨sJ,xs,rfl,e,hx⟩
    walk_at "s"
    refine ⟨KeepSt.set rfl,?_⟩
    walk_at "s"
    refine Uv (.of (s.trans sJ)) hcg (rt.2 t (Xz ht)) fun x J2 T2 p2 g2=>?_
    refine ⟨sJ.trans T2,xs ++ [x],by rw [Yj];rfl,by simp;omega,fun j x' t' e1 e2=>?_⟩
    by_cases hj:j < xs.length
    ·rw [Yg hj] at e1
     obtain ⟨h,h1,h2⟩:=hx j x' t' e1 e2
     exact ⟨h,h1,h2.same T2⟩
    ·have hj2:j < xs.length+1:=by have:=(Xm.mp e1).1;simpa using this
     obtain rfl:j=xs.length:=by omega
     rw [X7 (by omega),Nat.sub_self] at e1
     cases e1
     subst e
     rw [FQ ht] at e2
     cases e2
     exact ⟨0,Xo _,g2⟩
   rintro zs J D J2 ⟨sJ,xs,rfl,e,hx⟩ nD T2 hD
   try walk_at "s"
   refine ⟨D,xs,⟨#[c]⟩,qH top,0,H,rfl,.of (s.trans (sJ.trans T2)),hD,by rw [Bv];exact e,by omega,XQ (by omega:xs.length<=48) (by decide),by rw [qp];exact l2,(fun j x t e1 e2=>by
    obtain ⟨h,h1,h2⟩:=hx j x t e1 e2
    exact ⟨h,h1,h2.same T2⟩),fun x h J3 T3 hh g3=>?_⟩
   rw [qp] at g3
   have W3:=sJ.trans (T2.trans T3)
   have hd3:=W3 _ _ hd
   try walk_at "s"
   refine .inr ⟨d,_,rfl,DPut.k (k:=Sum.inr ⟨#[c]⟩) hd3 (by omega),?_⟩
   try walk_at "s"
   have lk:=jH kvs (Sum.inr ⟨#[c]⟩:Key) (V.ref x)
   refine ⟨Same.put (s.trans W3) nd0,⟨_,aj,by omega,(fun c' v hv'=>?_),fun j c' hj hc'=>?_⟩,_,rfl⟩
   ·rw [rM] at hv'
    split at hv'
    ·rename_i e1
     cases hv'
     have:=Sum.inr.inj e1
     rw [this]
     exact ⟨x,h,rfl,by omega,g3.put hd3 nd0⟩
    ·obtain ⟨x',h',e1,e2,e3⟩:=hg c' v hv'
     exact ⟨x',h',e1,e2,(e3.same W3).put hd3 nd0⟩
   ·rw [rM]
    split
    ·exact ⟨_,rfl⟩
    ·rename_i e1
     by_cases hji:j < i
     ·exact hk j c' hji hc'
     ·obtain rfl:j=i:=by omega
      rw [hc] at hc'
      cases hc'
      exact absurd rfl e1
 ·rintro U G ⟨s,⟨kvs,hd,hkl,hg,hk⟩,x3,rfl⟩
  walk_at "s"
  refine .inr (.inr ⟨side,rfl,?_⟩)
  refine tG (fun i zs J=>J=G/\∃ xs:List Addr,zs=xs.map V.ref/\xs.length=i/\∀ (j:Nat) (x:Addr) (t:Str),xs[j]?=some x->(qH side)[j]?=some t->∃ h,h<=6/\GP mg H J x t top h) (by omega) ⟨rfl,[],rfl,rfl,fun j x t e=>by cases e⟩ ?_ ?_ ?_
  ·rintro i zs J ⟨_,xs,rfl,e,_⟩
   rw [X4];omega
  ·rintro i zs J c hc ⟨rfl,xs,rfl,e,hx⟩
   have hi:i < side.cps.size:=by simpa using (Xm.mp hc).1
   obtain ⟨v,hv⟩:=hk i c (by show i < side.cps.size;exact hi) hc
   obtain ⟨x,h,rfl,h6,g⟩:=hg c v hv
   have hgt:=DGet.k (k:=Sum.inr ⟨#[c]⟩) hd
   rw [hv] at hgt
   walk_at "s"
   refine ⟨KeepSt.set rfl,?_⟩
   walk_at "s"
   refine ⟨d,_,rfl,hgt,?_⟩
   refine ⟨rfl,xs ++ [x],by rw [Yj];rfl,by simp;omega,fun j x' t' e1 e2=>?_⟩
   by_cases hj:j < xs.length
   ·rw [Yg hj] at e1
    exact hx j x' t' e1 e2
   ·have hj2:j < xs.length+1:=by have:=(Xm.mp e1).1;simpa using this
    obtain rfl:j=xs.length:=by omega
    rw [X7 (by omega),Nat.sub_self] at e1
    cases e1
    subst e
    rw [FQ hc] at e2
    cases e2
    exact ⟨h,h6,g⟩
  rintro zs J D J2 ⟨rfl,xs,rfl,e,hx⟩ nD T2 hD
  try walk_at "s"
  refine ⟨D,xs,top,qH side,6,H,rfl,.of (s.trans T2),hD,by rw [Bv];exact e,by omega,XQ (by omega:xs.length<=48) (by decide),by rw [qp];exact l1,(fun j x t e1 e2=>by
   obtain ⟨h,h1,h2⟩:=hx j x t e1 e2
   exact ⟨h,h1,h2.same T2⟩),fun x h J3 T3 hh g3=>?_⟩
  rw [qp] at g3
  exact q x h J3 (s.trans (T2.trans T3)) (by omega) g3
end
local macro_rules | `(tactic| walk_at "s") => `(tactic| (with_reducible repeat (first | refine lU ?_ | walk_at "5")))
local macro_rules | `(tactic| walk_at "n") => `(tactic| (with_reducible repeat (walk_at "5")))
section
variable {P:Program} {w:World} {K:W.Frag} {mg:Str->Option Value} {base:Heap}
theorem Bw:(["end","behind","line_end"]:List Str).Nodup:=by trivial
def Mh (t:List Nat) (b e:Nat):Nat:=(t.drop b).countP fun x=>decide (x < e)
def zB (t:List Nat) (b:Nat):List Int:=(List.range (t.length+1)).map fun e=>((Mh t b e:Nat):Int)
theorem Ly {t:List Nat} {b e:Nat} {j:Int} (hj:j=(e:Int)) (h:e<=t.length):zO ((zB t b).map V.int) j=some (.int ((Mh t b e:Nat):Int)):=by
 subst hj
 refine p8 ?_
 unfold zB
 rw [XH,XH,XM (by omega)];rfl
theorem Bx {t:List Nat} {b x:Nat} (h:t[b]?=some x) (e:Nat):Mh t b e=Mh t (b+1) e+if x < e then 1 else 0:=by
 obtain ⟨hb,hx⟩:=Xm.mp h
 unfold Mh
 rw [List.drop_eq_getElem_cons hb,List.countP_cons,hx]
 by_cases c:x < e
 ·rw [if_pos (by simpa using c),if_pos c]
 ·rw [if_neg (by simpa using c),if_neg c]
theorem P0 (t:List Nat) (e:Nat):Mh t t.length e=0:=by unfold Mh;rw [List.drop_length];rfl
def CT (H:Hp) (rs:List V) (n:Nat) (f:Nat->List Int):Prop:=rs.length=n/\∀ k,k < n->∃ a,rs[k]?=some (.ref a)/\H a=some (.lst ((f k).map V.int))
theorem CT.same {H H':Hp} {rs:List V} {n:Nat} {f:Nat->List Int} (h:CT H rs n f) (s:Same H H'):CT H' rs n f:=⟨h.1,fun k hk=>by
 obtain ⟨a,e,ha⟩:=h.2 k hk
 exact ⟨a,e,s _ _ ha⟩⟩
theorem CT.push {H:Hp} {rs:List V} {n:Nat} {f:Nat->List Int} {a:Addr} (h:CT H rs n f) (ha:H a=some (.lst ((f n).map V.int))):CT H (rs ++ [.ref a]) (n+1) f:=⟨by rw [Yr,h.1];rfl,fun k hk=>by
 by_cases e:k=n
 ·subst e
  exact ⟨a,by rw [X7 (by rw [h.1];exact Xo _),h.1,Nat.sub_self];rfl,ha⟩
 ·obtain ⟨b,e1,hb⟩:=h.2 k (by omega)
  exact ⟨b,by rw [Yg (by rw [h.1];omega)];exact e1,hb⟩⟩
theorem CT.rev {H:Hp} {rs:List V} {n:Nat} {f:Nat->List Int} (h:CT H rs n f):CT H rs.reverse n fun k=>f (n - 1 - k):=⟨by rw [List.length_reverse];exact h.1,fun k hk=>by
 obtain ⟨a,e,ha⟩:=h.2 (n - 1 - k) (by omega)
 exact ⟨a,by rw [List.getElem?_reverse (by rw [h.1];exact hk),h.1];exact e,ha⟩⟩
def Lz:Sp:=fun vs H Q _=>∃ (a:Addr) (t:List Nat),vs=[.ref a]/\Tn H a t/\Prm t/\∀ q rs H',H q=none->Same H H'->H' q=some (.lst rs)->CT H' rs (t.length+1) (zB t)->(∀ r,V.ref r∈rs->H r=none)->Q (.ref q) H'
theorem m7:aF ["turning","many","table","line_end","behind"] ["turning"] (aB rW):=⟨rfl,rfl,rfl,by trivial,rfl,by trivial,by trivial⟩
theorem wz (T:Txt K mg):Has P w K mg base 5 "counts" ["turning"] Lz:=by
 have bB:=bB (P:=P) (w:=w) (base:=base) T
 refine fK T.d_counts m7 (fun _ _ _ _ _ _ us hl=>L2.jc (fun _=>rfl) us hl) ?_ fun f cdv A outer s H vs Q E hr h=>?_
 ·rintro vs H Q E ⟨a,t,rfl,_⟩;rfl
 obtain ⟨a,t,rfl,ha,hP,q⟩:=h
 have hu:=hr.units0
 have hu64:=hr.units
 refine ⟨_,(aA (bj (aK bB (hr.mono (by decide)) aR (aa (ao 0) aq) (by trivial))) (aA (aJ (i:=1) m7.nd rfl eQ (aH (aG (K:=K) rfl) aR T.b_len aZ (aa (ao 0) aq) (by trivial) (by trivial)) rfl) (aA (aJ (i:=2) m7.nd rfl eQ (lA (aa (bc nj (lA (aa aL aq)) (bc aN (ao 1) aL)) aq)) rfl) (aA (iC Yo rfl (Ow (K:=K) rfl aR T.b_reversed (ao 0)) (d7 (i:=3) m7.nd rfl Vf rfl) (aA (aJ (i:=4) m7.nd rfl Vf (nG (K:=K) rfl (ao 2) (j_un RC aL)) rfl) (aC (bj (yO (K:=K) rfl YZ PySem.F.slot_list_append PySem.F.type_list_append sX (ao 2) (aa (mG (sub:=[none,some 4,some 3]) (gG (N:=["turning","many","table","line_end","behind"]) (sc:=aB rW) (N':=["end","behind","line_end"]) (by trivial)) rfl rfl rfl (iR aR T.b_range (aa (bc aN (ao 1) aL) aq)) (fun C s₀ H₀ ex=>(vL 0 (by trivial) Bw)) (fun C s₀ H₀ ex=>jg) (fun C s₀ H₀ ex=>(bc aN (nG (K:=K) rfl (vH 1 (by trivial)) (oK 0 (by trivial))) (V8 (bF Iz (vH 2 (by trivial)) (oK 0 (by trivial)) (by walk_at "p")) aL aL)))) aq)))))) (aC (aO (xP (K:=K) rfl rfl aR T.b_list aR T.b_reversed (ao 2)))))))),?_⟩
 walk_at "s"
 have hsz:20000<=sizeLine:=by decide
 have hle:=hP.le
 refine ⟨a,t,rfl,ha,hP,fun H1 S1=>?_⟩
 walk_at "s"
 have hlen:∀ (n:Nat),n=t.length->n=t.length:=fun _ h=>h
 have step:∀ (R:V->Hp->Prop),R (.int (t.length:Int)) H1->GD K [.ref a] H1 R:=fun R hR=>by
  rcases ha.same S1 with h | h
  ·refine eO (SqL.of h) ?_
   rw [aY];exact hR
  ·refine yM (SqT.of h) ?_
   rw [aY];exact hR
 refine step _ ?_
 walk_at "s"
 refine iG rfl fun p0 H2 _ S2 f2=>?_
 walk_at "s"
 refine Cy f2 (by omega) (by omega) (by simp;omega) fun p1 np1=>?_
 have S3:=(Same.refl H2).upd np1 (o:=.lst (List.replicate ((t.length:Int)+1).toNat [V.int 0]).flatten)
 have f3:=aj (H:=H2) (a:=p1) (o:=.lst (List.replicate ((t.length:Int)+1).toNat [V.int 0]).flatten)
 generalize upd H2 p1 (.lst (List.replicate ((t.length:Int)+1).toNat [V.int 0]).flatten)=H3 at S3 f3 ⊢
 have f3':H3 p1=some (.lst ((zB t (t.length - 0)).map V.int)):=by
  rw [f3,show ((t.length:Int)+1).toNat=t.length+1 by omega]
  congr 2
  unfold zB
  rw [Zv]
  have:∀ n,(List.replicate n [V.int 0]).flatten=(List.range n).map fun _=>V.int 0:=fun n=>by
   induction n with
   | zero=>rfl
   | succ n ih=>rw [List.replicate_succ',List.flatten_append,ih,List.range_succ,Yj];rfl
  rw [this]
  refine List.map_congr_left fun e _=>?_
  show V.int 0=V.int ((Mh t (t.length - 0) e:Nat):Int)
  rw [Nat.sub_zero,P0];rfl
 walk_at "s"
 refine iG rfl fun tb H4 ntb S4 f4=>?_
 walk_at "s"
 have U4:=S1.trans (S2.trans (S3.trans S4))
 have ntb0:H tb=none:=by
  have:=Same.back (S1.trans (S2.trans S3)) ntb
  exact this
 have C4:CT H4 [.ref p1] (0+1) fun k=>zB t (t.length - k):=⟨rfl,fun k hk=>by
  obtain rfl:k=0:=by omega
  exact ⟨p1,rfl,S4 _ _ f3'⟩⟩
 have N4:∀ r,V.ref r∈[V.ref p1]->H r=none:=fun r hr=>by
  simp only [Xr,Yd,or_false] at hr
  cases hr
  exact Same.back (S1.trans S2) np1
 rcases ha with ha | ha
 ·refine .inl ⟨a,_,rfl,SqL.of (U4 _ _ ha),?_⟩
  refine Ox (xs:=(nI t).map V.int) (fun i U G=>Same H G/\(∃ rs,G tb=some (.lst rs)/\(CT G rs (i+1) fun k=>zB t (t.length - k))/\∀ r,V.ref r∈rs->H r=none)/\∃ x3 x4,U=[some (.ref a),some (.int (t.length:Int)),some (.ref tb),x3,x4])
   ⟨U4,⟨_,f4,C4,N4⟩,_,_,rfl⟩ (fun i U G _ h=>SqL.of (h.1 _ _ ha)) ?_ ?_
  ·rintro i x U G hi hx ⟨sG,⟨rs,htb,hC,hN⟩,x3,x4,rfl⟩
   rw [aY] at hi
   rw [aY] at hx
   obtain ⟨le,hle2,rfl⟩:=v8 hx
   obtain ⟨pb,epb,hpb⟩:=hC.2 i (by omega)
   have hrl:rs.length=i+1:=hC.1
   walk_at "s"
   refine b7 (SqL.of htb) (Wq (n:=i) hrl epb) ?_
   walk_at "s"
   refine ⟨.inl ⟨rfl,_,SqL.of htb⟩,?_⟩
   walk_at "s"
   refine ⟨_,rfl,by omega,by omega,?_⟩
   rw [show ((t.length:Int)+1).toNat=t.length+1 by omega]
   refine tH (n:=t.length+1) (fun e=>.int ((Mh t (t.length - (i+1)) e:Nat):Int)) (by omega) ?_ ?_
   ·intro e he
    have ec:=Bx (t:=t) (b:=t.length - (i+1)) (x:=le) (by rw [show t.length - (i+1)=t.length - 1 - i by omega];exact hle2) e
    rw [show t.length - (i+1)+1=t.length - i by omega] at ec
    rw [Int.zero_add]
    walk_at "s"
    refine ⟨KeepSt.set rfl,?_⟩
    walk_at "s"
    refine b7 (SqL.of hpb) (Ly rfl (by omega)) ?_
    walk_at "s"
    refine sZ (fun h=>?_) (fun h=>?_)
    ·walk_at "s"
     exact ⟨rfl,qd (by rw [ec,if_pos (by omega)];rfl)⟩
    ·walk_at "s"
     exact ⟨rfl,qd (by rw [ec,if_neg (by omega)];rfl)⟩
   ·intro nw G2 nnw s2 hnw
    walk_at "s"
    refine rO (s2 _ _ htb) (by omega) ?_
    walk_at "s"
    have hnw':G2 nw=some (.lst ((zB t (t.length - (i+1))).map V.int)):=by
     rw [hnw]
     unfold zB
     rw [Zv];rfl
    have hne:∀ {b:Addr} {xs:List V},G2 b=some (.lst xs)->True:=fun _=>trivial
    have C2:=(hC.same s2).push hnw'
    refine ⟨Same.put (sG.trans s2) ntb0,⟨_,aj,⟨C2.1,fun k hk=>?_⟩,fun r hr=>(Yx.mp hr).elim (hN r) fun hr=>by
     simp only [Xr,Yd,or_false] at hr
     cases hr
     exact Same.back sG nnw⟩,_,_,rfl⟩
    obtain ⟨b,e1,hb⟩:=C2.2 k hk
    refine ⟨b,e1,?_⟩
    rw [aD (fun z=>?_)]
    ·exact hb
    ·rw [z,s2 _ _ htb] at hb
     have e0:rs=(zB t (t.length - k)).map V.int:=by injection hb with hb;injection hb
     obtain ⟨a0,ea0,_⟩:=hC.2 0 (by omega)
     rw [e0,XH] at ea0
     cases hq:(zB t (t.length - k))[0]? with
     | none=>rw [hq] at ea0;cases ea0
     | some v=>rw [hq] at ea0;cases ea0
  ·rintro U G ⟨sG,⟨rs,htb,hC,hN⟩,x3,x4,rfl⟩
   rw [aY] at hC
   walk_at "s"
   refine ⟨_,rfl,tb,rs,rfl,SqL.of htb,fun qq nqq=>?_⟩
   have s5:=(Same.refl G).upd nqq (o:=.lst rs.reverse)
   refine q qq rs.reverse _ (Same.back sG nqq) (sG.trans s5) aj ?_ fun r hr=>hN r (List.mem_reverse.mp hr)
   have:=hC.rev.same s5
   refine ⟨this.1,fun k hk=>?_⟩
   obtain ⟨b,e1,hb⟩:=this.2 k hk
   refine ⟨b,e1,?_⟩
   rw [hb]
   show some (HO.lst (List.map V.int (zB t (t.length - (t.length+1 - 1 - k)))))=_
   rw [show t.length - (t.length+1 - 1 - k)=k by omega]
 ·refine .inr ⟨a,_,rfl,SqT.of (U4 _ _ ha),by rw [aY];omega,?_⟩
  refine Oz (xs:=(nI t).map V.int) (by rw [aY];omega) (fun i U G=>Same H G/\(∃ rs,G tb=some (.lst rs)/\(CT G rs (i+1) fun k=>zB t (t.length - k))/\∀ r,V.ref r∈rs->H r=none)/\∃ x3 x4,U=[some (.ref a),some (.int (t.length:Int)),some (.ref tb),x3,x4])
   ⟨U4,⟨_,f4,C4,N4⟩,_,_,rfl⟩ (fun i U G _ h=>SqT.of (h.1 _ _ ha)) ?_ ?_
  ·rintro i x U G hi hx ⟨sG,⟨rs,htb,hC,hN⟩,x3,x4,rfl⟩
   rw [aY] at hi
   rw [aY] at hx
   obtain ⟨le,hle2,rfl⟩:=v8 hx
   obtain ⟨pb,epb,hpb⟩:=hC.2 i (by omega)
   have hrl:rs.length=i+1:=hC.1
   walk_at "s"
   refine b7 (SqL.of htb) (Wq (n:=i) hrl epb) ?_
   walk_at "s"
   refine ⟨.inl ⟨rfl,_,SqL.of htb⟩,?_⟩
   walk_at "s"
   refine ⟨_,rfl,by omega,by omega,?_⟩
   rw [show ((t.length:Int)+1).toNat=t.length+1 by omega]
   refine tH (n:=t.length+1) (fun e=>.int ((Mh t (t.length - (i+1)) e:Nat):Int)) (by omega) ?_ ?_
   ·intro e he
    have ec:=Bx (t:=t) (b:=t.length - (i+1)) (x:=le) (by rw [show t.length - (i+1)=t.length - 1 - i by omega];exact hle2) e
    rw [show t.length - (i+1)+1=t.length - i by omega] at ec
    rw [Int.zero_add]
    walk_at "s"
    refine ⟨KeepSt.set rfl,?_⟩
    walk_at "s"
    refine b7 (SqL.of hpb) (Ly rfl (by omega)) ?_
    walk_at "s"
    refine sZ (fun h=>?_) (fun h=>?_)
    ·walk_at "s"
     exact ⟨rfl,qd (by rw [ec,if_pos (by omega)];rfl)⟩
    ·walk_at "s"
     exact ⟨rfl,qd (by rw [ec,if_neg (by omega)];rfl)⟩
   ·intro nw G2 nnw s2 hnw
    walk_at "s"
    refine rO (s2 _ _ htb) (by omega) ?_
    walk_at "s"
    have hnw':G2 nw=some (.lst ((zB t (t.length - (i+1))).map V.int)):=by
     rw [hnw]
     unfold zB
     rw [Zv];rfl
    have hne:∀ {b:Addr} {xs:List V},G2 b=some (.lst xs)->True:=fun _=>trivial
    have C2:=(hC.same s2).push hnw'
    refine ⟨Same.put (sG.trans s2) ntb0,⟨_,aj,⟨C2.1,fun k hk=>?_⟩,fun r hr=>(Yx.mp hr).elim (hN r) fun hr=>by
     simp only [Xr,Yd,or_false] at hr
     cases hr
     exact Same.back sG nnw⟩,_,_,rfl⟩
    obtain ⟨b,e1,hb⟩:=C2.2 k hk
    refine ⟨b,e1,?_⟩
    rw [aD (fun z=>?_)]
    ·exact hb
    ·rw [z,s2 _ _ htb] at hb
     have e0:rs=(zB t (t.length - k)).map V.int:=by injection hb with hb;injection hb
     obtain ⟨a0,ea0,_⟩:=hC.2 0 (by omega)
     rw [e0,XH] at ea0
     cases hq:(zB t (t.length - k))[0]? with
     | none=>rw [hq] at ea0;cases ea0
     | some v=>rw [hq] at ea0;cases ea0
  ·rintro U G ⟨sG,⟨rs,htb,hC,hN⟩,x3,x4,rfl⟩
   rw [aY] at hC
   walk_at "s"
   refine ⟨_,rfl,tb,rs,rfl,SqL.of htb,fun qq nqq=>?_⟩
   have s5:=(Same.refl G).upd nqq (o:=.lst rs.reverse)
   refine q qq rs.reverse _ (Same.back sG nqq) (sG.trans s5) aj ?_ fun r hr=>hN r (List.mem_reverse.mp hr)
   have:=hC.rev.same s5
   refine ⟨this.1,fun k hk=>?_⟩
   obtain ⟨b,e1,hb⟩:=this.2 k hk
   refine ⟨b,e1,?_⟩
   rw [hb]
   show some (HO.lst (List.map V.int (zB t (t.length - (t.length+1 - 1 - k)))))=_
   rw [show t.length - (t.length+1 - 1 - k)=k by omega]
end
local macro_rules | `(tactic| walk_at "s") => `(tactic| (with_reducible repeat (first | refine lU ?_ | walk_at "3")))
local macro_rules | `(tactic| walk_at "n") => `(tactic| (with_reducible repeat (walk_at "3")))
section
variable {P:Program} {w:World} {K:W.Frag} {mg:Str->Option Value} {base:Heap}
def tyF (ae ac:Addr):List (Str×V):=[("held_ends",.ref ae),("held_counts",.ref ac)]
structure TyO (H:Hp) (t:List Nat) (ae ac:Addr) (rs:List V):Prop where
 ends:H ae=some (.lst ((nI t).map V.int))
 cnts:H ac=some (.lst rs)
 rows:CT H rs (t.length+1) (zB t)
def TyD (mg:Str->Option Value) (D:Addr->Prop) (H:Hp) (x:Addr) (t:List Nat):Prop:=Prm t/\∃ dx ae ac rs,H x=some (.ins (aM mg "Tally") dx (tyF ae ac))/\TyO H t ae ac rs/\¬ D x/\¬ D ae/\¬ D ac/\∀ r,V.ref r∈rs->¬ D r
theorem TyD.sub {H:Hp} {D D':Addr->Prop} {x:Addr} {t:List Nat} (h:TyD mg D H x t) (s:∀ g,D' g->D g):TyD mg D' H x t:=by
 obtain ⟨hP,dx,ae,ac,rs,hx,hO,n1,n2,n3,n4⟩:=h
 exact ⟨hP,dx,ae,ac,rs,hx,hO,fun z=>n1 (s _ z),fun z=>n2 (s _ z),fun z=>n3 (s _ z),fun r hr z=>n4 r hr (s _ z)⟩
theorem Xf {D:Addr->Prop} {x g:Addr} (h:¬ D x) (hg:D g):x≠g:=fun z=>h (by rw [z];exact hg)
theorem TyD.put {H:Hp} {D:Addr->Prop} {g x:Addr} {t:List Nat} {o:HO} (h:TyD mg D H x t) (hg:D g):TyD mg D (upd H g o) x t:=by
 obtain ⟨hP,dx,ae,ac,rs,hx,hO,n1,n2,n3,n4⟩:=h
 refine ⟨hP,dx,ae,ac,rs,by rw [aD (Xf n1 hg)];exact hx,⟨by rw [aD (Xf n2 hg)];exact hO.ends,by rw [aD (Xf n3 hg)];exact hO.cnts,hO.rows.1,fun k hk=>?_⟩,n1,n2,n3,n4⟩
 obtain ⟨b,e,hb⟩:=hO.rows.2 k hk
 exact ⟨b,e,by rw [aD (Xf (n4 b (Xz e)) hg)];exact hb⟩
def Qa (mg:Str->Option Value):Sp:=fun vs H Q _=>∃ (x dx a:Addr) (t:List Nat),vs=[.ref x,.ref a]/\H x=some (.ins (aM mg "Tally") dx [])/\Tn H a t/\Prm t/\∀ H',Chg x H H'->TyD mg (fun g=>g≠x/\∃ o,H g=some o) H' x t->Q .non H'
theorem sO:aF ["self","turning"] ["self","turning"] (aB jt):=⟨rfl,rfl,rfl,by trivial,rfl,by trivial,by trivial⟩
theorem jz (T:Txt K mg):vU P w K mg base 6 "Tally" "__init__" ["self","turning"] (Qa mg):=by
 have bB:=bB (P:=P) (w:=w) (base:=base) T
 have wz:=wz (P:=P) (w:=w) (base:=base) T
 refine CZ T.m_Tally___init__ sO (fun _ _ _ _ _ _ us hl=>L2.rD (fun _ _=>rfl) us hl) ?_ fun f cdv A outer s H vs Q E hr h=>?_
 ·rintro vs H Q E ⟨x,dx,a,t,rfl,_⟩;rfl
 obtain ⟨x,dx,a,t,rfl,hx,ha,hP,q⟩:=h
 have hu:=hr.units0
 have hu64:=hr.units
 refine ⟨_,(aA (bj (aK bB (hr.mono (by decide)) aR (aa (ao 1) aq) (by trivial))) (aA (jr (K:=K) rfl (ao 0) (o6 (lw (K:=K) rfl rfl) aR T.b_list jf (aa (ao 1) aq) (by trivial) (by trivial))) (aC (jr (K:=K) rfl (ao 0) (aK wz (hr.mono (by decide)) aR (aa (ao 1) aq) (by trivial)))))),?_⟩
 walk_at "s"
 have hsz:20000<=sizeLine:=by decide
 have cl:=T.o_Tally.cl
 have na:=T.n_Tally
 refine ⟨a,t,rfl,ha,hP,fun H1 S1=>?_⟩
 walk_at "s"
 refine .inl ⟨a,(nI t).map V.int,rfl,(ha.same S1).imp SqL.of SqT.of,fun ae nae=>?_⟩
 have S2:=(Same.refl H1).upd nae (o:=.lst ((nI t).map V.int))
 have f2:=aj (H:=H1) (a:=ae) (o:=.lst ((nI t).map V.int))
 generalize upd H1 ae (.lst ((nI t).map V.int))=H2 at S2 f2 ⊢
 have U2:=S1.trans S2
 have hx2:=U2 _ _ hx
 have nx:∀ {G:Hp} {b:Addr} {fs:List (Str×V)} {us:List V},G x=some (.ins (aM mg "Tally") dx fs)->(G b=some (.lst us)\/G b=some (.tup us))->b≠x:=fun {G b fs us} h1 h2 z=>by
  rw [z,h1] at h2
  rcases h2 with h2 | h2 <;> cases h2
 walk_at "s"
 refine ⟨x,_,dx,_,rfl,hx2,cl,na _ (by simp),by simp,?_⟩
 walk_at "s"
 rw [jl (by show ([]:List Str).contains "held_ends"=false;trivial)]
 have hx3:=aj (H:=H2) (a:=x) (o:=.ins (aM mg "Tally") dx (([]:List (Str×V)) ++ ([("held_ends",.ref ae)]:List (Str×V))))
 have C3:Chg x H2 (upd H2 x (.ins (aM mg "Tally") dx (([]:List (Str×V)) ++ ([("held_ends",.ref ae)]:List (Str×V))))):=Chg.put (Chg.refl x H2)
 generalize upd H2 x (.ins (aM mg "Tally") dx (([]:List (Str×V)) ++ ([("held_ends",.ref ae)]:List (Str×V))))=H3 at hx3 C3 ⊢
 replace hx3:H3 x=some (.ins (aM mg "Tally") dx ([("held_ends",.ref ae)]:List (Str×V))):=hx3
 have ha2:=ha.same U2
 have ha3:Tn H3 a t:=by
  have nxa:=nx hx2 ha2
  rcases ha2 with h | h
  ·exact .inl (C3 _ _ nxa h)
  ·exact .inr (C3 _ _ nxa h)
 have f3:=C3 _ _ (nx hx2 (.inl f2)) f2
 walk_at "s"
 refine ⟨a,t,rfl,ha3,hP,fun ac rs H4 nac S4 hac hrs hfr=>?_⟩
 walk_at "s"
 have hx4:=S4 _ _ hx3
 refine ⟨x,_,dx,_,rfl,hx4,cl,na _ (by simp),by simp,?_⟩
 walk_at "s"
 rw [jl (by show (["held_ends"]:List Str).contains "held_counts"=false;trivial)]
 have hx5:=aj (H:=H4) (a:=x) (o:=.ins (aM mg "Tally") dx (([("held_ends",.ref ae)]:List (Str×V)) ++ ([("held_counts",.ref ac)]:List (Str×V))))
 have C5:Chg x H4 (upd H4 x (.ins (aM mg "Tally") dx (([("held_ends",.ref ae)]:List (Str×V)) ++ ([("held_counts",.ref ac)]:List (Str×V))))):=Chg.put (Chg.refl x H4)
 generalize upd H4 x (.ins (aM mg "Tally") dx (([("held_ends",.ref ae)]:List (Str×V)) ++ ([("held_counts",.ref ac)]:List (Str×V))))=H5 at hx5 C5 ⊢
 have hO5:TyO H5 t ae ac rs:=by
  refine ⟨?_,?_,hrs.1,fun k hk=>?_⟩
  ·exact C5 _ _ (nx hx4 (.inl (S4 _ _ f3))) (S4 _ _ f3)
  ·exact C5 _ _ (nx hx4 (.inl hac)) hac
  ·obtain ⟨b,e,hb⟩:=hrs.2 k hk
   exact ⟨b,e,C5 _ _ (nx hx4 (.inl hb)) hb⟩
 refine q H5 ?_ ⟨hP,dx,ae,ac,rs,hx5,hO5,fun z=>z.1 rfl,?_,?_,fun r hr z=>?_⟩
 ·intro b o nb e
  exact C5 b o nb (S4 _ _ (C3 b o nb (U2 _ _ e)))
 ·rintro ⟨ng,o,hg⟩
  rw [S1 _ _ hg] at nae;cases nae
 ·rintro ⟨ng,o,hg⟩
  rw [C3 _ o ng (U2 _ _ hg)] at nac;cases nac
 ·obtain ⟨ng,o,hg⟩:=z
  have:=hfr r hr
  rw [C3 _ o ng (U2 _ _ hg)] at this;cases this
theorem made {H1 H2:Hp} {x dx:Addr} {o o':HO} (nx:H1 x=none) (ndx:H1 dx=none) (c:Chg x (upd (upd H1 dx o) x o') H2):Same H1 H2:=fun b u e=>by
 have n1:b≠x:=fun z=>by rw [z,nx] at e;cases e
 have n2:b≠dx:=fun z=>by rw [z,ndx] at e;cases e
 exact c b u n1 (by rw [aD n1,aD n2];exact e)
theorem Qc {H1:Hp} {x dx g:Addr} {o o' u:HO} (nx:H1 x=none) (ndx:H1 dx=none) (e:H1 g=some u):upd (upd H1 dx o) x o' g=some u/\g≠x:=by
 have n1:g≠x:=fun z=>by rw [z,nx] at e;cases e
 have n2:g≠dx:=fun z=>by rw [z,ndx] at e;cases e
 exact ⟨by rw [aD n1,aD n2];exact e,n1⟩
theorem Xg {H1:Hp} {x g:Addr} {u:HO} (nx:H1 x=none) (e:H1 g=some u):g≠x:=fun z=>by rw [z,nx] at e;cases e
def akF (ty:Addr) (m f:Nat):List (Str×V):=[("held_tally",.ref ty),("held_many",.int (m:Int)),("held_far",.int (f:Int))]
def AkD (mg:Str->Option Value) (D:Addr->Prop) (H:Hp) (x:Addr) (t:List Nat) (m f:Nat):Prop:=m+f=t.length/\∃ dx ty,H x=some (.ins (aM mg "Asks") dx (akF ty m f))/\TyD mg D H ty t/\¬ D x
def Qd (mg:Str->Option Value):Sp:=fun vs H Q _=>∃ (x dx a:Addr) (t:List Nat) (m f:Nat),vs=[.ref x,.ref a,.int m]/\H x=some (.ins (aM mg "Asks") dx [])/\Tn H a t/\Prm t/\m+f=t.length/\∀ H',Chg x H H'->AkD mg (fun g=>g≠x/\∃ o,H g=some o) H' x t m f->Q .non H'
theorem t7:aF ["self","lines","many"] ["self","lines","many"] (aB jQ):=⟨rfl,rfl,rfl,by trivial,rfl,by trivial,by trivial⟩
theorem jU (T:Txt K mg):vU P w K mg base 8 "Asks" "__init__" ["self","lines","many"] (Qd mg):=by
 have jz:=jz (P:=P) (w:=w) (base:=base) T
 have gW:=gW (P:=P) (w:=w) (base:=base) T
 refine CZ T.m_Asks___init__ t7 (fun _ _ _ _ _ _ us hl=>L2.uE (fun _ _ _=>rfl) us hl) ?_ fun f cdv A outer s H vs Q E hr h=>?_
 ·rintro vs H Q E ⟨x,dx,a,t,m,f',rfl,_⟩;rfl
 obtain ⟨x,dx,a,t,m,f',rfl,hx,ha,hP,hmf,q⟩:=h
 have hu:=hr.units0
 have hu64:=hr.units
 refine ⟨_,(aA (jr (K:=K) rfl (ao 0) (fu T.o_Tally jz (hr.mono (by decide)) aR aX (aa (ao 1) aq) (by trivial))) (aA (bj (aK gW (hr.mono (by decide)) aR (aa (ao 2) (aa aL (aa (aH (aG (K:=K) rfl) aR T.b_len aZ (aa (ao 1) aq) (by trivial) (by trivial)) aq))) (by trivial))) (aA (jr (K:=K) rfl (ao 0) (ao 2)) (aC (jr (K:=K) rfl (ao 0) (bc ni (aH (aG (K:=K) rfl) aR T.b_len aZ (aa (ao 1) aq) (by trivial) (by trivial)) (ao 2))))))),?_⟩
 walk_at "s"
 have hsz:20000<=sizeLine:=by decide
 have cl:=T.o_Asks.cl
 have na:=T.n_Asks
 intro ty dty nty ndty ne
 have hat:Tn (upd (upd H dty (.own ty)) ty (.ins (aM mg "Tally") dty [])) a t:=ha.imp (fun h=>(Qc nty ndty h).1) (fun h=>(Qc nty ndty h).1)
 refine ⟨ty,dty,a,t,rfl,aj,hat,hP,fun H1 c1 hT1=>⟨rfl,?_⟩⟩
 walk_at "s"
 have S1:=made nty ndty c1
 replace hT1:=hT1.sub (D':=fun g=>∃ o,H g=some o) (fun g hg=>by
  obtain ⟨o,hg⟩:=hg
  exact ⟨Xg nty hg,o,(Qc nty ndty hg).1⟩)
 clear c1
 have hx1:=S1 _ _ hx
 have ax:a≠x:=fun z=>by
  rcases ha with h | h <;> rw [z,hx] at h <;> cases h
 refine ⟨x,_,dx,_,rfl,hx1,cl,na _ (by simp),by simp,?_⟩
 walk_at "s"
 rw [jl (by show ([]:List Str).contains "held_tally"=false;trivial)]
 have hx2:=aj (H:=H1) (a:=x) (o:=.ins (aM mg "Asks") dx (([]:List (Str×V)) ++ ([("held_tally",.ref ty)]:List (Str×V))))
 have C2:Chg x H (upd H1 x (.ins (aM mg "Asks") dx (([]:List (Str×V)) ++ ([("held_tally",.ref ty)]:List (Str×V))))):=Chg.put (fun b o n e=>S1 _ _ e)
 have hT2:=hT1.put (g:=x) (o:=.ins (aM mg "Asks") dx (([]:List (Str×V)) ++ ([("held_tally",.ref ty)]:List (Str×V)))) ⟨_,hx⟩
 generalize upd H1 x (.ins (aM mg "Asks") dx (([]:List (Str×V)) ++ ([("held_tally",.ref ty)]:List (Str×V))))=H2 at hx2 C2 hT2 ⊢
 replace hx2:H2 x=some (.ins (aM mg "Asks") dx ([("held_tally",.ref ty)]:List (Str×V))):=hx2
 have ha2:Tn H2 a t:=ha.imp (C2 _ _ ax) (C2 _ _ ax)
 have len:∀ (G:Hp) (R:V->Hp->Prop),Tn G a t->R (.int (t.length:Int)) G->GD K [.ref a] G R:=fun G R hG hR=>by
  rcases hG with h | h
  ·refine eO (SqL.of h) ?_
   rw [aY];exact hR
  ·refine yM (SqT.of h) ?_
   rw [aY];exact hR
 walk_at "s"
 refine len _ _ ha2 ?_
 walk_at "s"
 refine Be (by omega) (by omega) ?_
 walk_at "s"
 refine ⟨x,_,dx,_,rfl,hx2,cl,na _ (by simp),by simp,?_⟩
 walk_at "s"
 rw [jl (by show (["held_tally"]:List Str).contains "held_many"=false;trivial)]
 have hx3:=aj (H:=H2) (a:=x) (o:=.ins (aM mg "Asks") dx (([("held_tally",.ref ty)]:List (Str×V)) ++ ([("held_many",.int (m:Int))]:List (Str×V))))
 have C3:Chg x H (upd H2 x (.ins (aM mg "Asks") dx (([("held_tally",.ref ty)]:List (Str×V)) ++ ([("held_many",.int (m:Int))]:List (Str×V))))):=Chg.put C2
 have hT3:=hT2.put (g:=x) (o:=.ins (aM mg "Asks") dx (([("held_tally",.ref ty)]:List (Str×V)) ++ ([("held_many",.int (m:Int))]:List (Str×V)))) ⟨_,hx⟩
 generalize upd H2 x (.ins (aM mg "Asks") dx (([("held_tally",.ref ty)]:List (Str×V)) ++ ([("held_many",.int (m:Int))]:List (Str×V))))=H3 at hx3 C3 hT3 ⊢
 replace hx3:H3 x=some (.ins (aM mg "Asks") dx ([("held_tally",.ref ty),("held_many",.int (m:Int))]:List (Str×V))):=hx3
 have ha3:Tn H3 a t:=ha.imp (C3 _ _ ax) (C3 _ _ ax)
 walk_at "s"
 refine len _ _ ha3 ?_
 walk_at "s"
 refine ⟨x,_,dx,_,rfl,hx3,cl,na _ (by simp),by simp,?_⟩
 walk_at "s"
 rw [jl (by show (["held_tally","held_many"]:List Str).contains "held_far"=false;trivial),show (t.length:Int) - (m:Int)=(f':Int) by omega]
 exact q _ (Chg.put C3) ⟨hmf,dx,ty,aj,(hT3.put ⟨_,hx⟩).sub (fun g hg=>hg.2),fun z=>z.1 rfl⟩
theorem wX:(["sign"]:List Str).Nodup:=by trivial
def Pln (z:Str):Prop:=z.length<=24/\∀ c∈z.cps.toList,97<=c/\c < 123
theorem Qe:∀ k∈List.range 26,uK tY (97+k)=false/\(97+k)∈GOOD:=by trivial
theorem Pln.ok {z:Str} (h:Pln z) {c:Nat} (hc:c∈z.cps.toList):uK tY c=false/\c∈GOOD:=by
 have:=h.2 c hc
 have k:=Qe (c - 97) (XJ.mpr (by omega))
 rw [show 97+(c - 97)=c by omega] at k
 exact k
theorem Pln.row {z:Str} (h:Pln z):Row z:=⟨by have:=h.1;omega,fun c hc=>(h.ok hc).2⟩
def Ux:Sp:=fun vs H Q _=>∃ z:Str,vs=[.str z]/\Pln z/\∀ H',Same H H'->Q (.bl true) H'
theorem By:aF ["thing"] ["thing"] (aB nP):=⟨rfl,rfl,rfl,by trivial,rfl,by trivial,by trivial⟩
theorem rC (T:Txt K mg):Has P w K mg base 1 "is_plain" ["thing"] Ux:=by
 refine fK T.d_is_plain By (fun _ _ _ _ _ _ us hl=>L2.jc (fun _=>rfl) us hl) ?_ fun f cdv A outer s H vs Q E hr h=>?_
 ·rintro vs H Q E ⟨z,rfl,_⟩;rfl
 obtain ⟨z,rfl,hp,q⟩:=h
 have hu:=hr.units0
 have hu64:=hr.units
 refine ⟨_,(aA (bZ (jJ (jW (dR (dF (aH (iQ (K:=K) rfl) aR T.b_isinstance bx (aa (ao 0) (aa (wI aR T.b_str Cv (by trivial) (by trivial)) aq)) (by trivial) (by trivial)))) (jo (bF t8 (aH (aG (K:=K) rfl) aR T.b_len aZ (aa (ao 0) aq) (by trivial) (by trivial)) (vJ aR T.c_MOST_LETTERS (by trivial)) (by walk_at "p"))))) (aC (aO mD)) bG) (aC (aO (aH (z8 rfl) aR T.b_all JF (aa (mG (sub:=[none]) (gG (N:=["thing"]) (sc:=aB nP) (N':=["sign"]) (by trivial)) rfl rfl rfl (jh (K:=K) rfl (ao 0)) (fun C s₀ H₀ ex=>(vL 0 (by trivial) wX)) (fun C s₀ H₀ ex=>jg) (fun C s₀ H₀ ex=>(o5 (Kl (K:=K) rfl hu64) (oK 0 (by trivial)) (vI (SX (by trivial)) T.c_LETTERS (by trivial)) (by walk_at "p")))) aq) (by trivial) (by trivial))))),?_⟩
 walk_at "s"
 have hl:=hp.1
 have hz1:z.length<=sizeLine:=XQ hl (by decide)
 refine o4 (.str z) rfl ?_
 walk_at "s"
 refine cj hz1 ?_
 walk_at "s"
 rw [XD (show ¬ (24:Int) < (z.length:Int) by omega)]
 walk_at "s"
 refine .inr (.inr ⟨z,rfl,?_⟩)
 refine tG (fun i us G=>G=H/\us=((z.cps.toList.take i).map fun c=>!uK tY c).map V.bl) hz1 ⟨rfl,rfl⟩ ?_ ?_ ?_
 ·rintro i us G ⟨rfl,rfl⟩
  simp;omega
 ·rintro i us G c hc ⟨rfl,rfl⟩
  walk_at "s"
  refine ⟨KeepSt.set rfl,?_⟩
  walk_at "s"
  refine ⟨rfl,?_⟩
  rw [YT,hc]
  simp [tY,uK]
 ·rintro us G D H' ⟨rfl,rfl⟩ nD S hD
  try walk_at "s"
  refine ⟨D,_,rfl,hD,?_⟩
  have e2:(List.map (fun c=>!uK tY c) (z.cps.toList.take z.cps.size)).all id=true:=by
   rw [List.all_map,YW]
   intro c hc
   have:=(hp.ok (Zu hc)).1
   simp [this]
  rw [e2]
  exact q _ S
def Uy:Sp:=fun vs H Q _=>∃ z:Str,vs=[.str z]/\Pln z/\∀ H',Same H H'->Q .non H'
theorem wY:aF ["thing"] ["thing"] (aB nQ):=⟨rfl,rfl,rfl,by trivial,rfl,by trivial,by trivial⟩
theorem kW (T:Txt K mg):Has P w K mg base 3 "need_plain" ["thing"] Uy:=by
 have rC:=rC (P:=P) (w:=w) (base:=base) T
 refine fK T.d_need_plain wY (fun _ _ _ _ _ _ us hl=>L2.jc (fun _=>rfl) us hl) ?_ fun f cdv A outer s H vs Q E hr h=>?_
 ·rintro vs H Q E ⟨z,rfl,_⟩;rfl
 obtain ⟨z,rfl,hp,q⟩:=h
 have hu:=hr.units0
 have hu64:=hr.units
 refine ⟨_,(aC (bZ (dR (dF (aK rC (hr.mono (by decide)) aR (aa (ao 0) aq) (by trivial)))) (aC ji) bG)),?_⟩
 walk_at "s"
 refine ⟨z,rfl,hp,fun H' S=>?_⟩
 walk_at "s"
 exact q H' S
structure RG (mg:Str->Option Value) (H:Hp) (x:Addr) (side row:Str) (u l:Addr) (hu hl h:Nat):Prop where
 pg:PG mg H x "Ring" side (row ++ row) (Str.ofString "ring") [.ref u,.ref l] h
 ht:t6 [hu,hl] h
 gu:GP1 mg H u side row hu
 gl:GP1 mg H l side row hl
theorem RG.same {H H':Hp} {x u l:Addr} {side row:Str} {hu hl h:Nat} (r:RG mg H x side row u l hu hl h) (s:Same H H'):RG mg H' x side row u l hu hl h:=⟨r.pg.same s,r.ht,r.gu.same s,r.gl.same s⟩
theorem RG.gp {H:Hp} {x u l:Addr} {side row:Str} {hu hl h:Nat} (r:RG mg H x side row u l hu hl h):GP1 mg H x side (row ++ row) h:=GP1.two (.inr (.inr (.inr (.inr ⟨rfl,rfl⟩)))) r.pg r.ht r.gu r.gl
def QW (mg:Str->Option Value):Sp:=fun vs H Q _=>∃ (x dx:Addr) (side row:Str),vs=[.ref x,.str side,.str row]/\H x=some (.ins (aM mg "Ring") dx [])/\Pln side/\Pln row/\row.cps.size≠0/\∀ H' u l hu hl h,Chg x H H'->RG mg H' x side row u l hu hl h->Q .non H'
theorem ie:aF ["self","side","row","left","right","lines"] ["self","side","row"] (aB jT):=⟨rfl,rfl,rfl,by trivial,rfl,by trivial,by trivial⟩
theorem dX (T:Txt K mg):vU P w K mg base 19 "Ring" "__init__" ["self","side","row"] (QW mg):=by
 have kW:=kW (P:=P) (w:=w) (base:=base) T
 have iK:=iK (P:=P) (w:=w) (base:=base) T
 have eZ:=eZ (P:=P) (w:=w) (base:=base) T
 have aU:=aU (P:=P) (w:=w) (base:=base) T
 have aQ:=aQ (P:=P) (w:=w) (base:=base) T
 have jU:=jU (P:=P) (w:=w) (base:=base) T
 refine CZ T.m_Ring___init__ ie (fun _ _ _ _ _ _ us hl=>L2.uE (fun _ _ _=>rfl) us hl) ?_ fun f cdv A outer s H vs Q E hr h=>?_
 ·rintro vs H Q E ⟨x,dx,side,row,rfl,_⟩;rfl
 obtain ⟨x,dx,side,row,rfl,hx,hs,hr',h0,q⟩:=h
 have hu:=hr.units0
 have hu64:=hr.units
 refine ⟨_,(aA (bj (aK kW (hr.mono (by decide)) aR (aa (ao 1) aq) (by trivial))) (aA (bj (aK kW (hr.mono (by decide)) aR (aa (ao 2) aq) (by trivial))) (aA (bZ (bF (jN (K:=K) rfl hu64) (ao 2) lV (by walk_at "p")) (aC ji) bG) (aA (aJ (i:=3) ie.nd rfl eQ (aK iK (hr.mono (by decide)) aR (aa (ao 1) (aa (ao 2) aq)) (by trivial)) rfl) (aA (aJ (i:=4) ie.nd rfl eQ (aK iK (hr.mono (by decide)) aR (aa (ao 1) (aa (ao 2) aq)) (by trivial)) rfl) (aA (aJ (i:=5) ie.nd rfl eQ (aK eZ (hr.mono (by decide)) aR (aa (aV (mg:=mg) rfl (ao 3) T.os_Piece aU (hr.mono (by decide)) aX) (aa (aV (mg:=mg) rfl (ao 4) T.os_Piece aU (hr.mono (by decide)) aX) (aa (aH (aG (K:=K) rfl) aR T.b_len aZ (aa (ao 1) aq) (by trivial) (by trivial)) aq))) (by trivial)) rfl) (aA (bj (vX aQ (hr.mono (by decide)) aR aX (aa (ao 0) (aa (ao 1) (aa (bc aN (ao 2) (ao 2)) (aa lV (aa (ao 5) (aa (lA (aa (ao 3) (aa (ao 4) aq))) aq)))))) (by trivial))) (aA (jr (K:=K) rfl (ao 0) (ao 2)) (aC (jr (K:=K) rfl (ao 0) (fu T.o_Asks jU (hr.mono (by decide)) aR aX (aa (ao 5) (aa (aH (aG (K:=K) rfl) aR T.b_len aZ (aa (ao 1) aq) (by trivial) (by trivial)) aq)) (by trivial)))))))))))),?_⟩
 walk_at "s"
 have hz:20000<=sizeLine:=by decide
 have l1:side.length<=24:=hs.1
 have l2:row.length<=24:=hr'.1
 have e1:side.length=side.cps.size:=rfl
 have e2:row.length=row.cps.size:=rfl
 have ec:=iy row row
 have el:(row ++ row).length=row.length+row.length:=iy row row
 refine ⟨side,rfl,hs,fun H1 S1=>?_⟩
 walk_at "s"
 refine ⟨row,rfl,hr',fun H2 S2=>?_⟩
 walk_at "s"
 rw [XD (show ¬ V.str row=V.str (Str.ofString "") from fun z=>h0 (qt.mp (V.str.inj z)))]
 walk_at "s"
 refine ⟨side,row,rfl,hs.row,hr'.row,fun u nu H3 S3 hnu gu=>?_⟩
 walk_at "s"
 refine ⟨side,row,rfl,hs.row,hr'.row,fun l nl H4 S4 hnl gl=>?_⟩
 walk_at "s"
 obtain ⟨yu,ku,pu,hu0,gu0,_⟩:=gu.g
 obtain ⟨yl,kl,pl,hl0,gl0,_⟩:=gl.g
 have gu1:=gu0.same S4
 have gl1:=gl0
 obtain ⟨hyu,du,au,bu,ru0,ou,xu,_,_⟩:=id gu1.pc
 obtain ⟨hyl,dl,al',bl,rl0,ol,xl,_,_⟩:=id gl1.pc
 refine ⟨u,yu,du,_,rfl,hyu,xu,ou.m (by trivial),?_⟩
 walk_at "s"
 refine ⟨u,yu,_,_,_,_,_,_,rfl,gu1.pc,fun ru H5 nru S5 hru=>?_⟩
 walk_at "s"
 refine ⟨l,yl,dl,_,rfl,hyl,S5 _ _ xl,ol.m (by trivial),?_⟩
 walk_at "s"
 refine ⟨l,yl,_,_,_,_,_,_,rfl,gl1.pc.same S5,fun rl H6 nrl S6 hrl=>?_⟩
 walk_at "s"
 refine cj (by omega) ?_
 walk_at "s"
 refine ⟨ru,rl,side.cps.size,row.cps.size,row.cps.size,sE side (row ++ row),rfl,by omega,?_,?_,fun rr H7 nrr S7 hrr=>?_⟩
 walk_at "s"
 ·rw [m6 (e':=sE side row) fun i j hi hj=>by unfold sE;rw [Du hj]]
  exact S6 _ _ hru
 ·rw [m6 (e':=sE side row) fun i j hi hj=>by unfold sE;rw [Dv]]
  exact hrl
 have U7:=S1.trans (S2.trans (S3.trans (S4.trans (S5.trans (S6.trans S7)))))
 walk_at "s"
 refine fP (by omega) ?_
 walk_at "s"
 refine iG rfl fun pp H8 npp S8 hpp=>?_
 walk_at "s"
 have U8:=U7.trans S8
 have W8:=S5.trans (S6.trans (S7.trans S8))
 refine ⟨x,dx,rr,pp,"Ring",side,row ++ row,_,_,_,[nu,nl],rfl,by unfold Bk;simp,U8 _ _ hx,S8 _ _ hrr,hpp,by simp,ql (gu1.same W8) (gl1.same W8),fun h H9 al ap hh C9 hx9 hal9 hap9 nal nap=>?_⟩
 walk_at "s"
 have rrx:rr≠x:=fun z=>by rw [z,U7 _ _ hx] at hrr;cases hrr
 have hrr9:=C9 _ _ rrx (S8 _ _ hrr)
 have alx:al≠x:=fun z=>by rw [z,hx9] at hal9;cases hal9
 have apx:ap≠x:=fun z=>by rw [z,hx9] at hap9;cases hap9
 have C9':Chg x H H9:=fun b o n e=>C9 b o n (U8 _ _ e)
 refine ⟨x,_,dx,_,rfl,hx9,T.o_Ring.cl,T.n_Ring _ (by simp),by simp [Bl],?_⟩
 walk_at "s"
 rw [jl (by show (["held_side","held_top","held_kind","held_lines","held_parts","held_height"]:List Str).contains "held_row"=false;trivial)]
 have hxA:=aj (H:=H9) (a:=x) (o:=.ins (aM mg "Ring") dx (Bl side (row ++ row) (Str.ofString "ring") al ap h ++ ([("held_row",.str row)]:List (Str×V))))
 have CA:Chg x H (upd H9 x (.ins (aM mg "Ring") dx (Bl side (row ++ row) (Str.ofString "ring") al ap h ++ ([("held_row",.str row)]:List (Str×V))))):=Chg.put C9'
 have hrrA:upd H9 x (.ins (aM mg "Ring") dx (Bl side (row ++ row) (Str.ofString "ring") al ap h ++ ([("held_row",.str row)]:List (Str×V)))) rr=some (.lst ((nI (LN side.cps.size (row.cps.size+row.cps.size) (sE side (row ++ row)))).map V.int)):=by rw [aD rrx];exact hrr9
 have CA8:Chg x H8 (upd H9 x (.ins (aM mg "Ring") dx (Bl side (row ++ row) (Str.ofString "ring") al ap h ++ ([("held_row",.str row)]:List (Str×V))))):=Chg.put C9
 have halA:upd H9 x (.ins (aM mg "Ring") dx (Bl side (row ++ row) (Str.ofString "ring") al ap h ++ ([("held_row",.str row)]:List (Str×V)))) al=some (.lst ((nI (LN side.cps.size (row.cps.size+row.cps.size) (sE side (row ++ row)))).map V.int)):=by rw [aD alx];exact hal9
 have hapA:upd H9 x (.ins (aM mg "Ring") dx (Bl side (row ++ row) (Str.ofString "ring") al ap h ++ ([("held_row",.str row)]:List (Str×V)))) ap=some (.lst [.ref u,.ref l]):=by rw [aD apx];exact hap9
 clear hx9 hal9 hap9 hrr9 C9 C9'
 generalize upd H9 x (.ins (aM mg "Ring") dx (Bl side (row ++ row) (Str.ofString "ring") al ap h ++ ([("held_row",.str row)]:List (Str×V))))=HA at hxA CA hrrA CA8 halA hapA ⊢
 walk_at "s"
 refine cj (by omega) ?_
 walk_at "s"
 intro ak dak nak ndak ne
 have lr:(LN side.cps.size (row.cps.size+row.cps.size) (sE side (row ++ row))).length=side.cps.size+(row.cps.size+row.cps.size):=gP _ _ _
 refine ⟨ak,dak,rr,LN side.cps.size (row.cps.size+row.cps.size) (sE side (row ++ row)),side.cps.size,row.cps.size+row.cps.size,rfl,aj,.inl (Qc nak ndak hrrA).1,v6 (by omega),by rw [lr],fun HB cB hN=>⟨rfl,?_⟩⟩
 walk_at "s"
 have SB:=made nak ndak cB
 refine ⟨x,_,dx,_,rfl,SB _ _ hxA,T.o_Ring.cl,T.n_Ring _ (by simp),by simp [Bl],?_⟩
 walk_at "s"
 rw [jl (by show (["held_side","held_top","held_kind","held_lines","held_parts","held_height","held_row"]:List Str).contains "held_asks"=false;trivial)]
 have CF:Chg x H8 (upd HB x (.ins (aM mg "Ring") dx (Bl side (row ++ row) (Str.ofString "ring") al ap h ++ ([("held_row",.str row)]:List (Str×V)) ++ ([("held_asks",.ref ak)]:List (Str×V))))):=Chg.put fun b o n e=>SB _ _ (CA8 b o n e)
 have lrow:(row ++ row).length<=48:=by omega
 refine q _ u l nu nl h (Chg.put fun b o n e=>SB _ _ (CA b o n e)) ⟨⟨⟨by unfold Bk;simp,dx,al,ap,[("held_row",.str row),("held_asks",.ref ak)],.inr ⟨_,_,rfl⟩,?_,?_,?_⟩,hs.row,qj hr'.row hr'.row lrow⟩,hh,?_,?_⟩
 ·rw [aj,ZR];rfl
 ·rw [aD alx,ec];exact SB _ _ halA
 ·rw [aD apx];exact SB _ _ hapA
 ·exact ((gu.same (S4.trans W8)).chg (S1.trans S2 _ _ hx) CF).g
 ·exact ((gl.same W8).chg (S1.trans (S2.trans S3) _ _ hx) CF).g
theorem vg {H:Hp} {side row:Str} {R:Addr->Hp->Prop} {E:XK} (hs:Pln side) (hr:Pln row) (h0:row.cps.size≠0) (q:∀ x u l hu hl h H',Same H H'->RG mg H' x side row u l hu hl h->R x H') (x dx:Addr) (nx:H x=none) (nd:H dx=none) (_:dx≠x):
  QW mg [.ref x,.str side,.str row] (upd (upd H dx (.own x)) x (.ins (aM mg "Ring") dx [])) (fun v H2=>v= .non/\R x H2) E:=
 ⟨x,dx,side,row,rfl,aj,hs,hr,h0,fun H2 u l hu hl h C r=>⟨rfl,q x u l hu hl h H2 (wy nx nd C) r⟩⟩
end
local macro_rules | `(tactic| walk_at "s") => `(tactic| (with_reducible repeat (first | refine lU ?_ | walk_at "6")))
local macro_rules | `(tactic| walk_at "n") => `(tactic| (with_reducible repeat (walk_at "6")))
section
variable {P:Program} {w:World} {K:W.Frag} {mg:Str->Option Value} {base:Heap}
def Uz (K:W.Frag):Sp:=fun vs H Q _=>∃ (a:Addr) (ns:List Int) (k:Int),vs=[.ref a,.int k]/\SqL K H a (ns.map V.int)/\0<=k/\∀ n,Q (.int n) H
theorem wA:aF ["_law_script","_law_k"] ["_law_script","_law_k"] (aB mJ):=⟨rfl,rfl,rfl,by trivial,rfl,by trivial,by trivial⟩
theorem iz (T:Txt K mg):Has P w K mg base 1 "_law_cell_at" ["_law_script","_law_k"] (Uz K):=by
 refine fK T.d_law_cell_at wA (fun _ _ _ _ _ _ us hl=>L2.rD (fun _ _=>rfl) us hl) ?_ fun f cdv A outer s H vs Q E hr h=>?_
 ·rintro vs H Q E ⟨a,ns,k,rfl,_⟩;rfl
 obtain ⟨a,ns,k,rfl,hS,h0,q⟩:=h
 have hu:=hr.units0
 have hu64:=hr.units
 refine ⟨_,(aA (bZ (bF Iz (ao 1) (aH (aG (K:=K) rfl) aR T.b_len aZ (aa (ao 0) aq) (by trivial) (by trivial)) (by walk_at "p")) (aC (aO (nG (K:=K) rfl (ao 0) (ao 1)))) bG) (aC (aO aL))),?_⟩
 walk_at "s"
 refine eO hS ?_
 walk_at "s"
 refine sZ (fun hk=>?_) (fun hk=>?_)
 ·rw [X4] at hk
  walk_at "s"
  refine b7 hS (Ej (v:=.int (ns.getD k.toNat 0)) h0 ?_) (q _)
  rw [XH,Xj,Xk (by omega)];rfl
 ·walk_at "s"
  exact q _
def Xh (n:Nat):Nat:=(Str.ofString "abcdefghijklmnopqrstuvwxyz").cps.toList.getD n 0
theorem WY:∀ n∈List.range 26,97<=Xh n/\Xh n < 123:=by trivial
def W0:Sp:=fun vs H Q _=>∃ n:Int,vs=[.int n]/\∀ c,97<=c->c < 123->Q (.str ⟨#[c]⟩) H
theorem wZ:aF ["_law_number"] ["_law_number"] (aB n6):=⟨rfl,rfl,rfl,by trivial,rfl,by trivial,by trivial⟩
theorem cz (T:Txt K mg):Has P w K mg base 1 "_law_letter" ["_law_number"] W0:=by
 refine fK T.d_law_letter wZ (fun _ _ _ _ _ _ us hl=>L2.jc (fun _=>rfl) us hl) ?_ fun f cdv A outer s H vs Q E hr h=>?_
 ·rintro vs H Q E ⟨n,rfl,_⟩;rfl
 obtain ⟨n,rfl,q⟩:=h
 have hu:=hr.units0
 have hu64:=hr.units
 refine ⟨_,(aC (aO (nG (K:=K) rfl lV (bc je (ao 0) aL)))),?_⟩
 walk_at "s"
 have hl:(Str.ofString "abcdefghijklmnopqrstuvwxyz").cps.toList.length=26:=by trivial
 have hk:=WY (n % 26).toNat (XJ.mpr (by omega))
 refine Ek (c:=Xh (n % 26).toNat) (by trivial) ?_ (q _ hk.1 hk.2)
 refine Ej (by omega) ?_
 have hi:(n % 26).toNat < (Str.ofString "abcdefghijklmnopqrstuvwxyz").cps.toList.length:=by rw [hl];omega
 unfold Xh
 rw [Xj,Xk hi];rfl
def Qf:Sp:=fun vs H Q _=>∃ n:Int,vs=[.int n]/\∀ m:Int,Q (.int m) H
theorem ig:aF ["_law_cell","_law_found","_law_number","_law_k"] ["_law_cell"] (aB pM):=⟨rfl,rfl,rfl,by trivial,rfl,by trivial,by trivial⟩
theorem pY (T:Txt K mg):Has P w K mg base 1 "_law_great" ["_law_cell"] Qf:=by
 refine fK T.d_law_great ig (fun _ _ _ _ _ _ us hl=>L2.jc (fun _=>rfl) us hl) ?_ fun f cdv A outer s H vs Q E hr h=>?_
 ·rintro vs H Q E ⟨n,rfl,_⟩;rfl
 obtain ⟨n,rfl,q⟩:=h
 have hu:=hr.units0
 have hu64:=hr.units
 refine ⟨_,(aA (bZ (bF Qn (ao 0) (bc RB aL aL) (by walk_at "p")) (aC (aO (ao 0))) bG) (aA (aJ (i:=1) ig.nd rfl eQ aL rfl) (aA (aJ (i:=2) ig.nd rfl eQ (bc aN (bc je (ao 0) aL) aL) rfl) (aA (iC Yo rfl (iR aR T.b_range (aa aL aq)) (d7 (i:=3) ig.nd rfl eQ rfl) (aA (aJ (i:=2) ig.nd rfl eQ (bc je (bc aN (bc aN (bc nj (ao 2) (ao 2)) (bc nj aL (ao 2))) (ao 3)) aL) rfl) (aC (aJ (i:=1) ig.nd rfl eQ (bc aN (bc nj (ao 1) aL) (bc je (bc nj (ao 2) aL) aL)) rfl)))) (aC (aO (ao 1))))))),?_⟩
 walk_at "s"
 refine sZ (fun h1=>?_) (fun h1=>?_)
 ·walk_at "s"
  exact q _
 ·walk_at "s"
  refine ⟨8,rfl,by decide,by decide,?_⟩
  refine jn (lo:=0) (n:=8) (fun k U H'=>∃ (f m:Int) (x:Option V),H'=H/\0<=m/\m < 2147500000/\U=[some (.int n),some (.int f),some (.int m),x]) ⟨0,n % 2147483647+12345,none,rfl,by omega,by omega,rfl⟩ ?_ ?_
  ·rintro i U H' hi ⟨f,m,x,rfl,h1,h2,rfl⟩
   walk_at "s"
   refine ⟨_,_,_,rfl,?_,?_,rfl⟩
   ·omega
   ·omega
  ·rintro U H' ⟨f,m,x,rfl,h1,h2,rfl⟩
   walk_at "s"
   exact q _
theorem Pln.nil:Pln (Str.ofString ""):=⟨by trivial,fun c hc=>by revert c;trivial⟩
theorem Pln.push {z:Str} {c:Nat} (h:∀ c∈z.cps.toList,97<=c/\c < 123) (h1:97<=c) (h2:c < 123):∀ d∈(z ++ (⟨#[c]⟩:Str)).cps.toList,97<=d/\d < 123:=fun d hd=>by
 rw [cps_append] at hd
 rcases Yx.mp hd with g | g
 ·exact h d g
 ·simp at g;subst g;exact ⟨h1,h2⟩
theorem Qg (d:Int) (h0:0<=d) (h1:d < 6):∃ w:Int,zO ([.int 1,.int 2,.int 2,.int 3,.int 4,.int 26]:List V) d=some (.int w)/\0 < w/\w<=26:=by
 obtain ⟨n,rfl⟩:∃ n:Nat,d=n:=⟨d.toNat,by omega⟩
 have hn:n=0\/n=1\/n=2\/n=3\/n=4\/n=5:=by omega
 rcases hn with rfl | rfl | rfl | rfl | rfl | rfl
 ·exact ⟨1,rfl,by decide,by decide⟩
 ·exact ⟨2,rfl,by decide,by decide⟩
 ·exact ⟨2,rfl,by decide,by decide⟩
 ·exact ⟨3,rfl,by decide,by decide⟩
 ·exact ⟨4,rfl,by decide,by decide⟩
 ·exact ⟨26,rfl,by decide,by decide⟩
def UG:Sp:=fun vs H Q _=>∃ (n:Int),vs=[.int n,.int 24]/\∀ z H',Same H H'->Pln z->Q (.str z) H'
theorem cQ:aF ["_law_cell","_law_most","_law_number","_law_many","_law_wide","_law_first","_law_row_here","_law_k"] ["_law_cell","_law_most"] (aB tV):=⟨rfl,rfl,rfl,by trivial,rfl,by trivial,by trivial⟩
theorem lq (T:Txt K mg):Has P w K mg base 2 "_law_row" ["_law_cell","_law_most"] UG:=by
 have pY:=pY (P:=P) (w:=w) (base:=base) T
 have cz:=cz (P:=P) (w:=w) (base:=base) T
 refine fK T.d_law_row cQ (fun _ _ _ _ _ _ us hl=>L2.rD (fun _ _=>rfl) us hl) ?_ fun f cdv A outer s H vs Q E hr h=>?_
 ·rintro vs H Q E ⟨n,rfl,_⟩;rfl
 obtain ⟨n,rfl,q⟩:=h
 have hu:=hr.units0
 have hu64:=hr.units
 refine ⟨_,(aA (aJ (i:=2) cQ.nd rfl eQ (aK pY (hr.mono (by decide)) aR (aa (ao 0) aq) (by trivial)) rfl) (aA (aJ (i:=3) cQ.nd rfl eQ (bc je (ao 2) aL) rfl) (aA (bZ (bF (jN (K:=K) rfl hu64) (bc je (bc iB (ao 2) aL) aL) aL (by walk_at "p")) (aC (aJ (i:=3) cQ.nd rfl eQ (bc je (bc iB (ao 2) aL) (bc aN (ao 1) aL)) rfl)) bG) (aA (aJ (i:=2) cQ.nd rfl eQ (bc iB (ao 2) aL) rfl) (aA (aJ (i:=4) cQ.nd rfl eQ (nG (K:=K) rfl (lA (aa aL (aa aL (aa aL (aa aL (aa aL (aa aL aq))))))) (bc je (ao 2) aL)) rfl) (aA (aJ (i:=5) cQ.nd rfl eQ (bc iB (ao 2) aL) rfl) (aA (aJ (i:=2) cQ.nd rfl eQ (bc iB (ao 5) aL) rfl) (aA (aJ (i:=6) cQ.nd rfl eQ lV rfl) (aA (iC Yo rfl (iR aR T.b_range (aa (ao 3) aq)) (d7 (i:=7) cQ.nd rfl eQ rfl) (aA (aJ (i:=6) cQ.nd rfl eQ (bc aN (ao 6) (aK cz (hr.mono (by decide)) aR (aa (bc aN (bc je (ao 5) aL) (bc je (ao 2) (ao 4))) aq) (by trivial))) rfl) (aC (aJ (i:=2) cQ.nd rfl eQ (bc iB (ao 2) (ao 4)) rfl)))) (aC (aO (ao 6)))))))))))),?_⟩
 walk_at "n"
 with_reducible refine lU ?_
 walk_at "n"
 refine ⟨_,rfl,fun m=>?_⟩
 walk_at "n"
 with_reducible refine lU ?_
 walk_at "n"
 with_reducible refine Wo (fun U H1=>∃ k:Nat,k<=24/\H1=H/\U=[some (.int n),some (.int 24),some (.int m),some (.int k),none,none,none,none]) ?_ ?_
 rotate_left
 ·intro N hN
  walk_at "n"
  refine sZ (fun h3=>?_) (fun h3=>?_)
  ·walk_at "n"
   exact hN _ _ ⟨(m / 72 % 25).toNat,by omega,rfl,by rw [Int.toNat_of_nonneg (by omega)];rfl⟩
  ·walk_at "n"
   exact hN _ _ ⟨(m % 9).toNat,by omega,rfl,by rw [Int.toNat_of_nonneg (by omega)];rfl⟩
 ·rintro U H1 ⟨k,hk,rfl,rfl⟩
  walk_at "s"
  refine iG rfl fun p2 H2 n2 S2 h2=>?_
  walk_at "s"
  obtain ⟨w,ew,hw0,hw1⟩:=Qg (m / 1800 % 6) (by omega) (by omega)
  refine b7 (SqL.of h2) ew ?_
  walk_at "s"
  refine ⟨k,rfl,by omega,by omega,?_⟩
  refine jn (lo:=0) (n:=k) (fun i U H'=>∃ (z:Str) (j f:Int) (x:Option V),H'=H2/\(∀ c∈z.cps.toList,97<=c/\c < 123)/\z.length=i/\U=[some (.int n),some (.int 24),some (.int j),some (.int k),some (.int w),some (.int f),some (.str z),x]) ⟨_,_,_,_,rfl,Pln.nil.2,by trivial,rfl⟩ ?_ ?_
  ·rintro i U H' hi ⟨z,j,f,x,rfl,hR,hl,rfl⟩
   have s1000:1000<=sizeLine:=by decide
   walk_at "s"
   refine ⟨_,rfl,fun c hc1 hc2=>?_⟩
   walk_at "s"
   refine fP (by rw [vG];omega) ?_
   walk_at "s"
   refine ⟨_,_,_,_,rfl,Pln.push hR hc1 hc2,?_,rfl⟩
   have:=iy z ⟨#[c]⟩
   show (z ++ (⟨#[c]⟩:Str)).cps.size=i+1
   rw [this,show z.cps.size=z.length from rfl,hl];rfl
  ·rintro U H' ⟨z,j,f,x,rfl,hR,hl,rfl⟩
   walk_at "s"
   exact q z H' S2 ⟨by omega,hR⟩
theorem Pln.one {c:Nat} (h1:97<=c) (h2:c < 123):Pln ⟨#[c]⟩:=⟨by rw [vG];omega,fun d hd=>by simp at hd;subst hd;exact ⟨h1,h2⟩⟩
def Qh:Sp:=fun vs H Q _=>∃ (n:Int),vs=[.int n]/\∀ z H',Same H H'->Pln z->z.cps.size≠0->Q (.str z) H'
theorem sS:aF ["_law_cell","_law_row_here"] ["_law_cell"] (aB pN):=⟨rfl,rfl,rfl,by trivial,rfl,by trivial,by trivial⟩
theorem pZ (T:Txt K mg):Has P w K mg base 3 "_law_round" ["_law_cell"] Qh:=by
 have lq:=lq (P:=P) (w:=w) (base:=base) T
 have cz:=cz (P:=P) (w:=w) (base:=base) T
 refine fK T.d_law_round sS (fun _ _ _ _ _ _ us hl=>L2.jc (fun _=>rfl) us hl) ?_ fun f cdv A outer s H vs Q E hr h=>?_
 ·rintro vs H Q E ⟨n,rfl,_⟩;rfl
 obtain ⟨n,rfl,q⟩:=h
 have hu:=hr.units0
 have hu64:=hr.units
 refine ⟨_,(aA (aJ (i:=1) sS.nd rfl eQ (aK lq (hr.mono (by decide)) aR (aa (ao 0) (aa aL aq)) (by trivial)) rfl) (aA (bZ (bF (jN (K:=K) rfl hu64) (ao 1) lV (by walk_at "p")) (aC (aO (aK cz (hr.mono (by decide)) aR (aa (ao 0) aq) (by trivial)))) bG) (aC (aO (ao 1))))),?_⟩
 walk_at "s"
 refine ⟨n,rfl,fun z H1 S1 hz=>?_⟩
 walk_at "s"
 refine sZ (fun h=>?_) (fun h=>?_)
 ·walk_at "s"
  refine ⟨_,rfl,fun c h1 h2=>?_⟩
  walk_at "s"
  exact q _ H1 S1 (Pln.one h1 h2) (by show 1≠0;decide)
 ·walk_at "s"
  exact q z H1 S1 hz fun e=>h (by rw [qt.mpr e])
end
local macro_rules | `(tactic| walk_at "s") => `(tactic| (with_reducible repeat (first | refine lU ?_ | walk_at "3")))
local macro_rules | `(tactic| walk_at "n") => `(tactic| (with_reducible repeat (walk_at "3")))
section
variable {P:Program} {w:World} {K:W.Frag} {mg:Str->Option Value} {base:Heap}
theorem wB:(["_law_j","_law_side"]:List Str).Nodup:=by trivial
theorem UJ {E ps:List Nat} {q:Nat} (h:∀ p∈ps,p+1 < q):(bD E ps).getD q 0=E.getD q 0:=by
 induction ps generalizing E with
 | nil=>rfl
 | cons p ps ih=>
  show (bD (aP E p) ps).getD q 0=_
  rw [ih fun x hx=>h x (by simp [hx]),step_get (.inr (h p (by simp)))]
theorem LC {m far i j q:Nat} {e:Nat->Nat->Bool} (hi:i < m) (hj:j<=far) (hq:m - 1 - i+far < q):(stE m far e i j).getD q 0=(stE m far e i 0).getD q 0:=by
 have:stE m far e i j=bD (stE m far e i 0) (Us m e i j):=by
  unfold stE
  rw [jD,jD]
  rfl
 rw [this,UJ]
 intro p hp
 obtain ⟨k,hk,rfl⟩:=zA hp
 omega
theorem UL {R:List Nat} {x k:Nat}:(x :: R).getD (k+1) 0=R.getD k 0:=by rw [Xj,List.getElem?_cons_succ,Xj]
theorem UT (t:List Nat) (x:Nat):V.int (x:Int) :: (nI t).map V.int=(nI (x :: t)).map V.int:=rfl
def LK (K:W.Frag):Sp:=fun vs H Q _=>∃ (side top:Str),vs=[.str side,.str top]/\side.length<=48/\top.length<=48/\∀ q H',H q=none->Same H H'->H' q=some (.lst ((nI (LN side.cps.size top.cps.size (sE side top))).map V.int))->Q (.ref q) H'
theorem b8:aF ["_law_side","_law_top","_law_downs","_law_rights","_law_i","_law_across","_law_j","_law_above","_law_found","_law_k"] ["_law_side","_law_top"] (aB mq):=⟨rfl,rfl,rfl,by trivial,rfl,by trivial,by trivial⟩
theorem iZ (T:Txt K mg):Has P w K mg base 1 "_law_lines" ["_law_side","_law_top"] (LK K):=by
 refine fK T.d_law_lines b8 (fun _ _ _ _ _ _ us hl=>L2.rD (fun _ _=>rfl) us hl) ?_ fun f cdv A outer s H vs Q E hr h=>?_
 ·rintro vs H Q E ⟨side,top,rfl,_⟩;rfl
 obtain ⟨side,top,rfl,hs,ht,q⟩:=h
 have hu:=hr.units0
 have hu64:=hr.units
 refine ⟨_,(aA (NP (i:=2) b8.nd rfl eQ (sub:=[none,some 0]) (gG (N:=["_law_side","_law_top","_law_downs","_law_rights","_law_i","_law_across","_law_j","_law_above","_law_found","_law_k"]) (sc:=aB mq) (N':=["_law_j","_law_side"]) (by trivial)) rfl rfl rfl (iR aR T.b_range (aa (aH (aG (K:=K) rfl) aR T.b_len aZ (aa (ao 1) aq) (by trivial) (by trivial)) aq)) (fun C s₀ H₀ ex=>(vL 0 (by trivial) wB)) (fun C s₀ H₀ ex=>jg) (fun C s₀ H₀ ex=>(bc aN (aH (aG (K:=K) rfl) (SX (by trivial)) T.b_len aZ (aa (vH 1 (by trivial)) aq) (by trivial) (by trivial)) (oK 0 (by trivial)))) rfl) (aA (aJ (i:=3) b8.nd rfl eQ (lA aq) rfl) (aA (iC Yo rfl (iR aR T.b_range (aa (aH (aG (K:=K) rfl) aR T.b_len aZ (aa (lZ 0) aq) (by trivial) (by trivial)) aq)) (d7 (i:=4) b8.nd rfl eQ rfl) (aA (aJ (i:=5) b8.nd rfl eQ (bc ni (bc ni (aH (aG (K:=K) rfl) aR T.b_len aZ (aa (lZ 0) aq) (by trivial) (by trivial)) aL) (ao 4)) rfl) (aA (iC Yo rfl (iR aR T.b_range (aa (aH (aG (K:=K) rfl) aR T.b_len aZ (aa (ao 1) aq) (by trivial) (by trivial)) aq)) (d7 (i:=6) b8.nd rfl eQ rfl) (aA (aJ (i:=7) b8.nd rfl eQ (nG (K:=K) rfl (ao 2) (ao 6)) rfl) (aC (bZ (jJ (jW (bF (jN (K:=K) rfl hu64) (nG (K:=K) rfl (lZ 0) (ao 4)) (nG (K:=K) rfl (ao 1) (ao 6)) (by walk_at "p")) (jo (bF t8 (ao 5) (ao 7) (by walk_at "p"))))) (aA (jB (ts:=oN) (ao 5) (mF (ao 2) (ao 6) (jC hu64))) (aC (aJ (i:=5) b8.nd rfl eQ (ao 7) rfl))) bG)))) (aC (bj (yO (K:=K) rfl YZ PySem.F.slot_list_insert PySem.F.type_list_insert Hn (ao 3) (aa aL (aa (ao 5) aq)))))))) (aA (aJ (i:=8) b8.nd rfl eQ (bc nj (lA (aa aL aq)) (bc aN (aH (aG (K:=K) rfl) aR T.b_len aZ (aa (lZ 0) aq) (by trivial) (by trivial)) (aH (aG (K:=K) rfl) aR T.b_len aZ (aa (ao 1) aq) (by trivial) (by trivial)))) rfl) (aA (iC Yo rfl (iR aR T.b_range (aa (aH (aG (K:=K) rfl) aR T.b_len aZ (aa (ao 2) aq) (by trivial) (by trivial)) aq)) (d7 (i:=9) b8.nd rfl eQ rfl) (aC (jB (ts:=oN) (ao 9) (mF (ao 8) (nG (K:=K) rfl (ao 2) (ao 9)) (jC hu64))))) (aA (iC Yo rfl (iR aR T.b_range (aa (aH (aG (K:=K) rfl) aR T.b_len aZ (aa (ao 3) aq) (by trivial) (by trivial)) aq)) (d7 (i:=9) b8.nd rfl eQ rfl) (aC (jB (ts:=oN) (bc aN (aH (aG (K:=K) rfl) aR T.b_len aZ (aa (ao 1) aq) (by trivial) (by trivial)) (ao 9)) (mF (ao 8) (nG (K:=K) rfl (ao 3) (ao 9)) (jC hu64))))) (aC (aO (ao 8))))))))),?_⟩
 walk_at "s"
 have hz:20000<=sizeLine:=by decide
 have lz:side.length<=sizeLine:=by omega
 have ly:top.length<=sizeLine:=by omega
 have em:side.length=side.cps.size:=rfl
 have ef:top.length=top.cps.size:=rfl
 rw [em] at hs
 rw [ef] at ht
 generalize hm:side.cps.size=m at hs em ⊢
 generalize hf:top.cps.size=far at ht ef ⊢
 refine cj ly ?_
 walk_at "s"
 rw [ef]
 refine ⟨_,rfl,by omega,by omega,?_⟩
 rw [show ((far:Nat):Int).toNat=far by omega]
 refine tH (fun k=>V.int ((m+k:Nat):Int)) (by omega) (fun i hi=>?_) fun f0 H1 nf S1 hf1=>?_
 ·walk_at "s"
  refine ⟨KeepSt.set rfl,?_⟩
  walk_at "s"
  refine cj lz ?_
  walk_at "s"
  rw [em]
  exact ⟨rfl,qd (by congr 1;omega)⟩
 have hf2:H1 f0=some (.lst ((nI ((List.range far).map (m+ ·))).map V.int)):=by
  rw [hf1]
  unfold nI
  rw [Zv,Zv]
  rfl
 try walk_at "s"
 refine ut rfl fun g0 ng=>?_
 walk_at "s"
 have S2:=S1.trans ((Same.refl H1).upd ng (o:=.lst []))
 have hf3:=eV ng hf2 (o:=.lst [])
 have hd3:=aj (H:=H1) (a:=g0) (o:=.lst [])
 have df:g0≠f0:=fun z=>by rw [z,hf2] at ng;cases ng
 have nd0:=Same.back S1 ng
 generalize upd H1 g0 (.lst [])=H2 at S2 hf3 hd3 ⊢
 generalize hee:sE side top=e
 walk_at "s"
 refine cj lz ?_
 walk_at "s"
 rw [em]
 refine ⟨_,rfl,by omega,by omega,?_⟩
 rw [show ((m:Nat):Int).toNat=m by omega]
 refine jn (n:=m) (fun i U G=>Same H G/\(∃ F R,G f0=some (.lst ((nI F).map V.int))/\F.length=far/\(∀ k,k < far->F.getD k 0=(stE m far e i 0).getD (m - i+k) 0)/\G g0=some (.lst ((nI R).map V.int))/\R.length=i/\∀ k,k < i->R.getD k 0=(stE m far e i 0).getD (m - i+far+k) 0)/\∃ x4 x5 x6 x7 x8 x9,U=[some (.str side),some (.str top),some (.ref f0),some (.ref g0),x4,x5,x6,x7,x8,x9])
  ⟨S2,⟨_,[],hf3,by simp,fun k hk=>?_,hd3,rfl,fun i' h=>absurd h (Nat.not_lt_zero _)⟩,_,_,_,_,_,_,rfl⟩ ?_ ?_
 ·rw [Lq,Xj,XH,XM hk,Xj,XM (by omega)]
  show m+k=m - 0+k
  omega
 ·rintro i U G hi ⟨s,⟨F,R,hF,hFl,hFk,hD,hRl,hRk⟩,x4,x5,x6,x7,x8,x9,rfl⟩
  rw [Int.zero_add]
  walk_at "s"
  refine cj lz ?_
  walk_at "s"
  rw [em]
  walk_at "s"
  refine cj ly ?_
  walk_at "s"
  rw [ef,show (m:Int) - 1 - (i:Int)=((m - 1 - i:Nat):Int) by omega]
  refine ⟨_,rfl,by omega,by omega,?_⟩
  rw [show ((far:Nat):Int).toNat=far by omega]
  refine jn (n:=far) (fun j U G=>Same H G/\G g0=some (.lst ((nI R).map V.int))/\∃ F x x6 x7 x8 x9,G f0=some (.lst ((nI F).map V.int))/\Ut m far e i j x F/\U=[some (.str side),some (.str top),some (.ref f0),some (.ref g0),some (.int (i:Int)),some (.int (x:Int)),x6,x7,x8,x9])
   ⟨s,hD,F,m - 1 - i,_,_,_,_,hF,HJ hi hFl hFk,rfl⟩ ?_ ?_
  ·rintro j U G2 hj ⟨s2,hD2,F2,x,y6,y7,y8,y9,hF2,w,rfl⟩
   rw [Int.zero_add]
   have hsi:zO side.cps.toList (i:Int)=some (side.cps.getD i 0):=p8 (by
    have:i < side.cps.size:=by omega
    simp [Array.getD,this])
   have htj:zO top.cps.toList (j:Int)=some (top.cps.getD j 0):=p8 (by
    have:j < top.cps.size:=by omega
    simp [Array.getD,this])
   have wl:=w.len
   walk_at "s"
   refine b7 (SqL.of hF2) (rY (k:=j) (by omega) rfl) ?_
   walk_at "s"
   refine Ek lz hsi ?_
   walk_at "s"
   refine Ek ly htj ?_
   walk_at "s"
   have eE:decide (V.str ⟨#[side.cps.getD i 0]⟩=V.str ⟨#[top.cps.getD j 0]⟩)=e i j:=by rw [Lp,← hee];rfl
   rw [eE]
   have stay:(e i j=true\/F2.getD j 0 < x)->Same H (upd G2 f0 (.lst ((nI (F2.set j x)).map V.int)))/\upd G2 f0 (.lst ((nI (F2.set j x)).map V.int)) g0=some (.lst ((nI R).map V.int))/\Ut m far e i (j+1) (F2.getD j 0) (F2.set j x):=fun h=>⟨Same.put s2 nf,by rw [aD df];exact hD2,Lr (by omega) hi hj w h⟩
   cases ee:e i j with
   | true=>
    obtain ⟨a1,a2,a3⟩:=stay (.inl ee)
    show if true=true then _ else _
    walk_at "s"
    refine kE hF2 (rZ (p:=j) rfl (by rw [aY];omega)) ?_
    walk_at "s"
    rw [oE]
    walk_at "s"
    exact ⟨a1,a2,_,_,_,_,_,_,aj,a3,rfl⟩
   | false=>
    show if false=true then _ else _
    walk_at "s"
    by_cases hlt:F2.getD j 0 < x
    ·obtain ⟨a1,a2,a3⟩:=stay (.inr hlt)
     rw [XF (show ((F2.getD j 0:Nat):Int) < (x:Int) by omega)]
     walk_at "s"
     refine kE hF2 (rZ (p:=j) rfl (by rw [aY];omega)) ?_
     walk_at "s"
     rw [oE]
     walk_at "s"
     exact ⟨a1,a2,_,_,_,_,_,_,aj,a3,rfl⟩
    ·rw [XD (show ¬ ((F2.getD j 0:Nat):Int) < (x:Int) by omega)]
     walk_at "s"
     exact ⟨s2,hD2,_,_,_,_,_,_,hF2,Ls (by omega) hi hj w ee hlt,rfl⟩
  ·rintro U G2 ⟨s2,hD2,F2,x,y6,y7,y8,y9,hF2,w,rfl⟩
   walk_at "s"
   refine ⟨.inl ⟨rfl,_,SqL.of hD2⟩,?_⟩
   walk_at "s"
   refine KC (i:=0) hD2 (YG _) (by rw [aY];omega) ?_
   walk_at "s"
   rw [List.take_zero,List.drop_zero,List.nil_append,UT]
   refine ⟨Same.put s2 nd0,⟨F2,x :: R,by rw [aD (Ne.symm df)];exact hF2,w.len,fun k hk=>?_,aj,by simp;omega,fun k hk=>?_⟩,_,_,_,_,_,_,rfl⟩
   ·rw [Fz,w.lo k hk,show m - (i+1)+k=m - 1 - i+k by omega]
   ·rw [Fz]
    cases k with
    | zero=>
     rw [show m - (i+1)+far+0=m - 1 - i+far by omega,← w.ln]
     rfl
    | succ k=>
     rw [UL,hRk k (by omega),LC hi (Xo _) (by omega),show m - (i+1)+far+(k+1)=m - i+far+k by omega]
 ·rintro U G ⟨s,⟨F,R,hF,hFl,hFk,hD,hRl,hRk⟩,x4,x5,x6,x7,x8,x9,rfl⟩
  walk_at "s"
  refine ut rfl fun z0 nz=>?_
  walk_at "s"
  refine cj lz ?_
  walk_at "s"
  rw [em]
  refine cj ly ?_
  walk_at "s"
  rw [ef,show (m:Int)+(far:Int)=((m+far:Nat):Int) by omega]
  walk_at "s"
  refine Cy (k:=((m+far:Nat):Int)) aj (by omega) (by omega) (by simp;omega) fun b nb=>?_
  walk_at "s"
  have S3:Same G (upd (upd G z0 (.lst [.int 0])) b (.lst (List.replicate ((m+far:Nat):Int).toNat [V.int 0]).flatten)):=((Same.refl G).upd nz).upd nb
  have nb0:H b=none:=Same.back (s.upd nz) nb
  have hb0:upd (upd G z0 (.lst [.int 0])) b (.lst (List.replicate ((m+far:Nat):Int).toNat [V.int 0]).flatten) b=some (.lst ((nI (List.replicate (m+far) 0)).map V.int)):=by
   rw [aj]
   congr 2
   unfold nI
   rw [ZF,ZF,show (((m+far:Nat):Int)).toNat=m+far by omega]
   generalize m+far=n
   induction n with
   | zero=>rfl
   | succ n ih=>rw [YH,Zo,ih,YH];rfl
  have bf:f0≠b:=Xg nb (eV nz hF)
  have bg:g0≠b:=Xg nb (eV nz hD)
  generalize upd (upd G z0 (.lst [.int 0])) b (.lst (List.replicate ((m+far:Nat):Int).toNat [V.int 0]).flatten)=G3 at S3 hb0 ⊢
  have hF3:=S3 _ _ hF
  have hD3:=S3 _ _ hD
  have s3:=s.trans S3
  clear hF hD S3 s
  have hP:=FJ (e:=e) (m:=m) (far:=far) (i:=m) (j:=0) (by omega) (.inr ⟨Xo m,rfl⟩)
  have hl:=FN m far e m 0
  have hE:LN m far e=inv (stE m far e m 0):=by unfold LN;rw [PJ]
  generalize stE m far e m 0=W at hFk hRk hP hl hE
  have put:∀ {Z:List Nat} {n:Nat},(∀ p x,p < n->W[p]?=some x->Z[x]?=some p)->Z.length=m+far->n < m+far->∀ {x:Nat},W[n]?=some x->x < m+far/\(Z.set x n).length=m+far/\∀ p y,p < n+1->W[p]?=some y->(Z.set x n)[y]?=some p:=fun {Z n} hZ hZl hn x hx=>by
   have xl:x < m+far:=by have:=hP.lt (Xz hx);omega
   refine ⟨xl,by simp [hZl],fun p y hp hy=>?_⟩
   by_cases e1:p=n
   ·subst e1
    rw [hx] at hy;cases hy
    rw [Yk (by omega)]
   ·have ne:x≠y:=fun z=>e1 (by
     subst z
     have h1:=gM hP.nd hx
     have h2:=gM hP.nd hy
     omega)
    rw [XX ne]
    exact hZ p y (by omega) hy
  have atW:∀ p,p < m+far->W[p]?=some (W.getD p 0):=fun p hp=>by rw [Xj,Xk (by omega)];rfl
  walk_at "s"
  refine eO (SqL.of hF3) ?_
  walk_at "s"
  rw [aY,hFl]
  refine ⟨_,rfl,by omega,by omega,?_⟩
  rw [show ((far:Nat):Int).toNat=far by omega]
  refine jn (n:=far) (fun j U G=>Same H G/\G f0=some (.lst ((nI F).map V.int))/\G g0=some (.lst ((nI R).map V.int))/\(∃ Z,G b=some (.lst ((nI Z).map V.int))/\Z.length=m+far/\∀ p x,p < j->W[p]?=some x->Z[x]?=some p)/\∃ x9,U=[some (.str side),some (.str top),some (.ref f0),some (.ref g0),x4,x5,x6,x7,some (.ref b),x9])
   ⟨s3,hF3,hD3,⟨_,hb0,by simp,fun p x h=>absurd h (Nat.not_lt_zero _)⟩,_,rfl⟩ ?_ ?_
  ·rintro j U G2 hj ⟨s2,hF2,hD2,⟨Z,hb2,hZl,hZ⟩,y9,rfl⟩
   rw [Int.zero_add]
   have ej:F.getD j 0=W.getD j 0:=by rw [hFk j hj,Nat.sub_self,Nat.zero_add]
   obtain ⟨p1,p2,p3⟩:=put hZ hZl (by omega) (atW j (by omega))
   walk_at "s"
   refine b7 (SqL.of hF2) (rY (k:=j) (by omega) rfl) ?_
   walk_at "s"
   rw [ej]
   refine kE hb2 (rZ (p:=W.getD j 0) rfl (by rw [aY];omega)) ?_
   walk_at "s"
   rw [oE]
   exact ⟨Same.put s2 nb0,by rw [aD bf];exact hF2,by rw [aD bg];exact hD2,⟨_,aj,p2,p3⟩,_,rfl⟩
  ·rintro U G2 ⟨s2,hF2,hD2,⟨Z,hb2,hZl,hZ⟩,y9,rfl⟩
   walk_at "s"
   refine eO (SqL.of hD2) ?_
   walk_at "s"
   rw [aY,hRl]
   refine ⟨_,rfl,by omega,by omega,?_⟩
   rw [show ((m:Nat):Int).toNat=m by omega]
   refine jn (n:=m) (fun j U G=>Same H G/\G g0=some (.lst ((nI R).map V.int))/\(∃ Z,G b=some (.lst ((nI Z).map V.int))/\Z.length=m+far/\∀ p x,p < far+j->W[p]?=some x->Z[x]?=some p)/\∃ x9,U=[some (.str side),some (.str top),some (.ref f0),some (.ref g0),x4,x5,x6,x7,some (.ref b),x9])
    ⟨s2,hD2,⟨_,hb2,hZl,fun p x h=>hZ p x (by omega)⟩,_,rfl⟩ ?_ ?_
   ·rintro j U G4 hj ⟨s4,hD4,⟨Z,hb4,hZl,hZ⟩,y9,rfl⟩
    rw [Int.zero_add]
    have ej:R.getD j 0=W.getD (far+j) 0:=by rw [hRk j hj,Nat.sub_self,Nat.zero_add]
    obtain ⟨p1,p2,p3⟩:=put hZ hZl (by omega) (atW (far+j) (by omega))
    walk_at "s"
    refine cj ly ?_
    walk_at "s"
    rw [ef,show (far:Int)+(j:Int)=((far+j:Nat):Int) by omega]
    walk_at "s"
    refine b7 (SqL.of hD4) (rY (k:=j) (by omega) rfl) ?_
    walk_at "s"
    rw [ej]
    refine kE hb4 (rZ (p:=W.getD (far+j) 0) rfl (by rw [aY];omega)) ?_
    walk_at "s"
    rw [oE]
    exact ⟨Same.put s4 nb0,by rw [aD bg];exact hD4,⟨_,aj,p2,p3⟩,_,rfl⟩
   ·rintro U G4 ⟨s4,hD4,⟨Z,hb4,hZl,hZ⟩,y9,rfl⟩
    walk_at "s"
    have e:=qR hP (hZl.trans hl.symm) fun i x h=>hZ i x (by have:=(Xm.mp h).1;omega) h
    refine q b G4 nb0 s4 ?_
    rw [hee,hm,hf,hE,← e]
    exact hb4
end
local macro_rules | `(tactic| walk_at "s") => `(tactic| (with_reducible repeat (first | refine lU ?_ | walk_at "7")))
local macro_rules | `(tactic| walk_at "n") => `(tactic| (with_reducible repeat (walk_at "7")))
section
variable {P:Program} {w:World} {K:W.Frag} {mg:Str->Option Value} {base:Heap}
theorem wC:(["_law_part"]:List Str).Nodup:=by trivial
theorem wD:(["_law_one"]:List Str).Nodup:=by trivial
theorem UV {n:Nat}:(List.range n).map (fun _=>V.bl false)=(List.replicate n false).map V.bl:=by
 rw [ZF]
 refine ZS fun i=>?_
 by_cases h:i < n
 ·rw [XH,XM h,List.getElem?_replicate,if_pos h];rfl
 ·rw [Yw (by simp;omega),Yw (by simp;omega)]
theorem FT (t:List Nat):∀ v∈(nI t).map V.int,jE v=true\/∃ r,v= .ref r:=fun v hv=>by
 obtain ⟨n,_,rfl⟩:=Yh.mp hv
 exact .inl rfl
theorem W2 {hs:List Nat} {h:Nat} (k:t6 hs h):(hs=[]->(h:Int)=0)/\∀ M:Int,M∈(nI (hs.map (· +1)))->(∀ a∈(nI (hs.map (· +1))),a<=M)->M=(h:Int):=by
 refine ⟨fun e=>?_,fun M hM hm=>?_⟩
 ·subst e
  rw [Dt k];rfl
 ·unfold nI at hM hm
  obtain ⟨a',ha',rfl⟩:=Yh.mp hM
  obtain ⟨a,ha,rfl⟩:=Yh.mp ha'
  rcases k with ⟨rfl,_⟩ | ⟨⟨b,hb,e⟩,hall⟩
  ·cases ha
  ·have h1:=hall a ha
   have h2:=hm ((b+1:Nat):Int) (Yh.mpr ⟨b+1,Yh.mpr ⟨b,hb,rfl⟩,rfl⟩)
   omega
def Qi (mg:Str->Option Value):Sp:=fun vs H Q _=>∃ (x:Addr) (y side top kind:Str) (ps:List V) (hs:List Nat) (h:Nat),vs=[.ref x,.str side,.str top,.str kind]/\PG mg H x y side top kind ps h/\PsH mg H ps hs/\t6 hs h/\ps.length<=100/\∀ H',Same H H'->Q (.bl true) H'
theorem kY:aF ["_law_piece","_law_side","_law_top","_law_kind","_law_due","_law_found","_law_high"] ["_law_piece","_law_side","_law_top","_law_kind"] (aB jL):=⟨rfl,rfl,rfl,by trivial,rfl,by trivial,by trivial⟩
theorem gR (T:Txt K mg):Has P w K mg base 2 "_law_right" ["_law_piece","_law_side","_law_top","_law_kind"] (Qi mg):=by
 have bh:=bh (P:=P) (w:=w) (base:=base) T
 have bM:=bM (P:=P) (w:=w) (base:=base) T
 have gY:=gY (P:=P) (w:=w) (base:=base) T
 have iZ:=iZ (P:=P) (w:=w) (base:=base) T
 have aU:=aU (P:=P) (w:=w) (base:=base) T
 have dO:=dO (P:=P) (w:=w) (base:=base) T
 have eU:=eU (P:=P) (w:=w) (base:=base) T
 refine fK T.d_law_right kY (fun _ _ _ _ _ _ us hl=>L2.usN4 (fun _ _ _ _=>rfl) us hl) ?_ fun f cdv A outer s H vs Q E hr h=>?_
 ·rintro vs H Q E ⟨x,y,side,top,kind,ps,hs,h,rfl,_⟩;rfl
 obtain ⟨x,y,side,top,kind,ps,hs,h,rfl,g,pH,hk,hpl,q⟩:=h
 have hu:=hr.units0
 have hu64:=hr.units
 refine ⟨_,(aA (bZ (jJ (jW (dR (dF (aH (jq (K:=K) rfl) aR T.b_isinstance bx (aa (ao 0) (aa (oM aR T.o_Piece.at_ (by trivial)) aq)) (by trivial) (by trivial)))) (jW (bF (nH (K:=K) rfl hu64) (aV (mg:=mg) rfl (ao 0) T.os_Piece bh (hr.mono (by decide)) (eY fun _ _=>rfl)) (ao 1) (by walk_at "p")) (jW (bF (nH (K:=K) rfl hu64) (aV (mg:=mg) rfl (ao 0) T.os_Piece bM (hr.mono (by decide)) (eY fun _ _=>rfl)) (ao 2) (by walk_at "p")) (jo (bF (nH (K:=K) rfl hu64) (aV (mg:=mg) rfl (ao 0) T.os_Piece gY (hr.mono (by decide)) (eY fun _ _=>rfl)) (ao 3) (by walk_at "p"))))))) (aC (aO mD)) bG) (aA (aJ (i:=4) kY.nd rfl eQ (aK iZ (hr.mono (by decide)) aR (aa (ao 1) (aa (ao 2) aq)) (by trivial)) rfl) (aA (aJ (i:=5) kY.nd rfl eQ (aV (mg:=mg) rfl (ao 0) T.os_Piece aU (hr.mono (by decide)) (eY fun _ _=>rfl)) rfl) (aA (bZ (jJ (jW (dR (dF (aH (iQ (K:=K) rfl) aR T.b_isinstance bx (aa (ao 5) (aa (wI aR T.b_list jf (by trivial) (by trivial)) aq)) (by trivial) (by trivial)))) (jW (bF (nH (K:=K) rfl hu64) (ao 5) (ao 4) (by walk_at "p")) (jo (dF (aH (Js rfl) aR T.b_any Te (aa (mG (sub:=[none]) (gG (N:=["_law_piece","_law_side","_law_top","_law_kind","_law_due","_law_found","_law_high"]) (sc:=aB jL) (N':=["_law_one"]) (by trivial)) rfl rfl rfl (jh (K:=K) rfl (ao 5)) (fun C s₀ H₀ ex=>(vL 0 (by trivial) wD)) (fun C s₀ H₀ ex=>jg) (fun C s₀ H₀ ex=>(aH (iQ (K:=K) rfl) (SX (by trivial)) T.b_isinstance bx (aa (oK 0 (by trivial)) (aa (wI (SX (by trivial)) T.b_bool Ei (by trivial) (by trivial)) aq)) (by trivial) (by trivial)))) aq) (by trivial) (by trivial))))))) (aC (aO mD)) bG) (aA (bj (Em (K:=K) rfl YZ PySem.F.slot_list_clear PySem.F.type_list_clear zP (ao 5))) (aA (aJ (i:=6) kY.nd rfl eQ (Kz rfl aR T.b_max (mG (sub:=[none]) (gG (N:=["_law_piece","_law_side","_law_top","_law_kind","_law_due","_law_found","_law_high"]) (sc:=aB jL) (N':=["_law_part"]) (by trivial)) rfl rfl rfl (jh (K:=K) rfl (aV (mg:=mg) rfl (ao 0) T.os_Piece eU (hr.mono (by decide)) (eY fun _ _=>rfl))) (fun C s₀ H₀ ex=>(vL 0 (by trivial) wC)) (fun C s₀ H₀ ex=>jg) (fun C s₀ H₀ ex=>(bc aN (aV (mg:=mg) rfl (oK 0 (by trivial)) T.os_Piece dO (hr.mono (by decide)) (eY fun _ _=>rfl)) aL))) aL) rfl) (aC (aO (um (o5 (pq (K:=K) rfl hu64) (aV (mg:=mg) rfl (ao 0) T.os_Piece dO (hr.mono (by decide)) (eY fun _ _=>rfl)) (ao 6) (by walk_at "p")) (vK (o5 (pq (K:=K) rfl hu64) (aV (mg:=mg) rfl (ao 0) T.os_Piece aU (hr.mono (by decide)) (eY fun _ _=>rfl)) (ao 4) (by walk_at "p")))))))))))),?_⟩
 walk_at "s"
 have hz:20000<=sizeLine:=by decide
 have l1:side.length<=48:=g.rs.1
 have l2:top.length<=48:=g.rt.1
 obtain ⟨hy,dx,al,ap,r,orr,hx,hal,hap⟩:=id g.pc
 refine zu T ⟨x,y,side,top,kind,_,ps,h,rfl,g.pc⟩ ?_
 walk_at "s"
 refine ⟨x,y,dx,_,rfl,hy,hx,orr.m (by trivial),?_⟩
 walk_at "s"
 refine ⟨x,y,_,_,_,_,_,_,rfl,g.pc,?_⟩
 walk_at "s"
 rw [show (!decide (V.str side=V.str side))=false by simp]
 walk_at "s"
 refine ⟨x,y,dx,_,rfl,hy,hx,orr.m (by trivial),?_⟩
 walk_at "s"
 refine ⟨x,y,_,_,_,_,_,_,rfl,g.pc,?_⟩
 walk_at "s"
 rw [show (!decide (V.str top=V.str top))=false by simp]
 walk_at "s"
 refine ⟨x,y,dx,_,rfl,hy,hx,orr.m (by trivial),?_⟩
 walk_at "s"
 refine ⟨x,y,_,_,_,_,_,_,rfl,g.pc,?_⟩
 walk_at "s"
 rw [show (!decide (V.str kind=V.str kind))=false by simp]
 walk_at "s"
 refine ⟨side,top,rfl,l1,l2,fun d H1 nd S1 hd=>?_⟩
 walk_at "s"
 refine ⟨x,y,dx,_,rfl,hy,S1 _ _ hx,orr.m (by trivial),?_⟩
 walk_at "s"
 refine ⟨x,y,_,_,_,_,_,_,rfl,g.pc.same S1,fun f H2 nf S2 hf=>?_⟩
 walk_at "s"
 refine o4 (.lst hf) (b:=true) (by rfl) ?_
 walk_at "s"
 have hd2:=S2 _ _ hd
 have lL:(LN side.cps.size top.cps.size (sE side top)).length<=96:=by rw [gP];have e1:side.length=side.cps.size:=rfl;have e2:top.length=top.cps.size:=rfl;omega
 refine .inr (.inl ⟨f,d,_,rfl,rfl,SqL.of hf,SqL.of hd2,FT _,?_⟩)
 walk_at "s"
 refine .inl ⟨f,rfl,⟨_,SqL.of hf⟩,?_⟩
 refine Dd (xs:=(nI (LN side.cps.size top.cps.size (sE side top))).map V.int) (fun i=>.bl false) (by rw [aY];omega) (SqL.of hf) ?_ ?_
 ·intro i v hv
  obtain ⟨n,_,rfl⟩:=v8 hv
  walk_at "s"
  refine ⟨KeepSt.set rfl,?_⟩
  walk_at "s"
  refine o4 (.int _) (b:=false) (by rfl) ?_
  walk_at "s"
  exact ⟨rfl,qd rfl⟩
 intro D H3 nD S3 hD
 try walk_at "s"
 rw [aY,UV] at hD
 refine ⟨D,_,rfl,hD,?_⟩
 rw [show (List.replicate (LN side.cps.size top.cps.size (sE side top)).length false).any id=false by simp]
 walk_at "s"
 have U2:=S1.trans S2
 have nf0:H f=none:=Same.back S1 nf
 refine ⟨.inl ⟨rfl,_,SqL.of (S3 _ _ hf)⟩,?_⟩
 walk_at "s"
 refine ⟨f,_,rfl,rfl,S3 _ _ hf,?_⟩
 have S4:Same H (upd H3 f (.lst [])):=Same.put (U2.trans S3) nf0
 have df:d≠f:=Xg nf hd
 have hd4:upd H3 f (.lst []) d=some (.lst ((nI (LN side.cps.size top.cps.size (sE side top))).map V.int)):=by rw [aD df];exact S3 _ _ hd2
 generalize upd H3 f (.lst [])=H4 at S4 hd4 ⊢
 walk_at "s"
 refine ⟨x,y,dx,_,rfl,hy,S4 _ _ hx,orr.m (by trivial),?_⟩
 walk_at "s"
 refine ⟨x,y,_,_,_,_,_,_,rfl,g.pc.same S4,fun p H5 np S5 hp=>?_⟩
 walk_at "s"
 have pH5:=(pH.same S4).same S5
 refine .inl ⟨p,rfl,⟨_,SqL.of hp⟩,?_⟩
 have hul:=pH.1
 refine lD (xs:=ps) (fun i zs G=>G=H5/\zs=(nI ((hs.take i).map (· +1))).map V.int) (by omega) ⟨rfl,rfl⟩ ?_ ?_ ?_ ?_
 ·rintro i zs G ⟨_,rfl⟩
  rw [aY];simp;omega
 ·rintro i zs G ⟨rfl,_⟩
  exact SqL.of hp
 ·rintro i zs G v hv ⟨rfl,rfl⟩
  have hi:i < hs.length:=by rw [← hul];exact (Xm.mp hv).1
  obtain ⟨hh,eh⟩:∃ hh,hs[i]?=some hh:=⟨_,Xk hi⟩
  obtain ⟨r',y',s',t',k',L',qs,rfl,hP⟩:=pH5.2 i v hh hv eh
  obtain ⟨hy',ex,al',ap',rr,oo,h1,_,_⟩:=id hP
  walk_at "s"
  refine ⟨KeepSt.set rfl,?_⟩
  walk_at "s"
  refine ⟨r',y',ex,_,rfl,hy',h1,oo.m (by trivial),?_⟩
  walk_at "s"
  refine ⟨r',y',s',t',k',L',qs,hh,rfl,hP,?_⟩
  walk_at "s"
  refine ⟨rfl,?_⟩
  rw [YT,eh,Yj,show ((hh:Int)+1)=((hh+1:Nat):Int) by omega,u6]
  rfl
 rintro zs G D2 H6 ⟨rfl,rfl⟩ nD2 S6 hD2
 rw [hul,YM] at hD2
 try walk_at "s"
 have S6':=S4.trans (S5.trans S6)
 have hd6:=(S5.trans S6) _ _ hd4
 obtain ⟨k0,k1⟩:=W2 hk
 refine ⟨D2,_,rfl,hD2,fun e=>?_,fun M hM hmx=>?_⟩
 ·have e0:hs=[]:=by
   cases hs with
   | nil=>rfl
   | cons a b=>cases e
  walk_at "s"
  refine ⟨x,y,dx,_,rfl,hy,S6' _ _ hx,orr.m (by trivial),?_⟩
  walk_at "s"
  refine ⟨x,y,_,_,_,_,_,_,rfl,g.pc.same S6',?_⟩
  walk_at "s"
  rw [XF (show V.int (h:Int)=V.int 0 by rw [k0 e0])]
  walk_at "s"
  refine ⟨x,y,dx,_,rfl,hy,S6' _ _ hx,orr.m (by trivial),?_⟩
  walk_at "s"
  refine ⟨x,y,_,_,_,_,_,_,rfl,g.pc.same S6',fun f2 H7 nf2 S7 hf2=>?_⟩
  walk_at "s"
  exact .inr (.inr ⟨f2,d,_,rfl,rfl,SqL.of hf2,SqL.of (S7 _ _ hd6),FT _,q _ (S6'.trans S7)⟩)
 ·obtain rfl:=k1 M hM hmx
  walk_at "s"
  refine ⟨x,y,dx,_,rfl,hy,S6' _ _ hx,orr.m (by trivial),?_⟩
  walk_at "s"
  refine ⟨x,y,_,_,_,_,_,_,rfl,g.pc.same S6',?_⟩
  walk_at "s"
  rw [XF rfl]
  walk_at "s"
  refine ⟨x,y,dx,_,rfl,hy,S6' _ _ hx,orr.m (by trivial),?_⟩
  walk_at "s"
  refine ⟨x,y,_,_,_,_,_,_,rfl,g.pc.same S6',fun f2 H7 nf2 S7 hf2=>?_⟩
  walk_at "s"
  exact .inr (.inr ⟨f2,d,_,rfl,rfl,SqL.of hf2,SqL.of (S7 _ _ hd6),FT _,q _ (S6'.trans S7)⟩)
def UW (mg:Str->Option Value):Sp:=fun vs H Q _=>∃ (x u l:Addr) (side row:Str) (hu hl h:Nat),vs=[.ref x,.str side,.str row]/\RG mg H x side row u l hu hl h/\row.length<=24/\∀ H',Same H H'->Q (.bl true) H'
theorem p6:aF ["_law_ring_here","_law_side","_law_row_here","_law_parts","_law_part"] ["_law_ring_here","_law_side","_law_row_here"] (aB q9):=⟨rfl,rfl,rfl,by trivial,rfl,by trivial,by trivial⟩
theorem lO (T:Txt K mg):Has P w K mg base 3 "_law_ring" ["_law_ring_here","_law_side","_law_row_here"] (UW mg):=by
 have gR:=gR (P:=P) (w:=w) (base:=base) T
 have eU:=eU (P:=P) (w:=w) (base:=base) T
 have gY:=gY (P:=P) (w:=w) (base:=base) T
 refine fK T.d_law_ring p6 (fun _ _ _ _ _ _ us hl=>L2.uE (fun _ _ _=>rfl) us hl) ?_ fun f cdv A outer s H vs Q E hr h=>?_
 ·rintro vs H Q E ⟨x,u,l,side,row,hu',hl,h,rfl,_⟩;rfl
 obtain ⟨x,u,l,side,row,hu',hl,h,rfl,R,l2,q⟩:=h
 have hu:=hr.units0
 have hu64:=hr.units
 refine ⟨_,(aA (bZ (jJ (jW (dR (dF (aK gR (hr.mono (by decide)) aR (aa (ao 0) (aa (ao 1) (aa (bc aN (ao 2) (ao 2)) (aa lV aq)))) (by trivial)))) (jo (dF (aH (jq (K:=K) rfl) aR T.b_isinstance bx (aa (ao 0) (aa (El (aa (oM aR T.o_Over.at_ (by trivial)) (aa (oM aR T.o_Beside.at_ (by trivial)) (aa (oM aR T.o_Blank.at_ (by trivial)) (aa (oM aR T.o_One.at_ (by trivial)) aq))))) aq)) (by trivial) (by trivial)))))) (aC (aO mD)) bG) (aA (aJ (i:=3) p6.nd rfl eQ (aV (mg:=mg) rfl (ao 0) T.os_Piece eU (hr.mono (by decide)) (eY fun _ _=>rfl)) rfl) (aA (bZ (jJ (jW (dR (dF (aH (iQ (K:=K) rfl) aR T.b_isinstance bx (aa (ao 3) (aa (wI aR T.b_list jf (by trivial) (by trivial)) aq)) (by trivial) (by trivial)))) (jo (bF (nH (K:=K) rfl hu64) (aH (aG (K:=K) rfl) aR T.b_len aZ (aa (ao 3) aq) (by trivial) (by trivial)) aL (by walk_at "p"))))) (aC (aO mD)) bG) (aA (iC Yo rfl (jh (K:=K) rfl (ao 3)) (d7 (i:=4) p6.nd rfl eQ rfl) (aC (bZ (jJ (jW (dR (dF (aH (jq (K:=K) rfl) aR T.b_isinstance bx (aa (ao 4) (aa (oM aR T.o_Piece.at_ (by trivial)) aq)) (by trivial) (by trivial)))) (jo (dR (dF (aK gR (hr.mono (by decide)) aR (aa (ao 4) (aa (ao 1) (aa (ao 2) (aa (aV (mg:=mg) rfl (ao 4) T.os_Piece gY (hr.mono (by decide)) (eY fun _ _=>rfl)) aq)))) (by trivial))))))) (aC (aO mD)) bG))) (aA (bj (Em (K:=K) rfl YZ PySem.F.slot_list_clear PySem.F.type_list_clear zP (ao 3))) (aC (aO (o5 (pq (K:=K) rfl hu64) (aH (aG (K:=K) rfl) aR T.b_len aZ (aa (aV (mg:=mg) rfl (ao 0) T.os_Piece eU (hr.mono (by decide)) (eY fun _ _=>rfl)) aq) (by trivial) (by trivial)) aL (by walk_at "p"))))))))),?_⟩
 walk_at "s"
 have hz:20000<=sizeLine:=by decide
 obtain ⟨hy,dx,al,ap,r,orr,hx,hal,hap⟩:=id R.pg.pc
 obtain ⟨y1,k1,ps1,hs1,g1,tk1,pH1,ht1,pl1⟩:=id R.gu
 obtain ⟨y2,k2,ps2,hs2,g2,tk2,pH2,ht2,pl2⟩:=id R.gl
 refine fP (by omega) ?_
 walk_at "s"
 refine ⟨x,"Ring",side,row ++ row,_,_,[hu',hl],h,rfl,R.pg,ql g1 g2,R.ht,by simp,fun H1 S1=>?_⟩
 walk_at "s"
 refine iG rfl fun cp H2 ncp S2 hcp=>?_
 walk_at "s"
 have U2:=S1.trans S2
 refine uZ (T.t_Ring.ty T.o_Ring.cl (U2 _ _ hx)) hcp rfl (b:=false) (by simp only [PySem.W.kitAny,T.u_Ring_Over.one,T.u_Ring_Beside.one,T.u_Ring_Blank.one,T.u_Ring_One.one]) ?_
 walk_at "s"
 refine ⟨x,"Ring",dx,_,rfl,hy,U2 _ _ hx,orr.m (by trivial),?_⟩
 walk_at "s"
 refine ⟨x,"Ring",_,_,_,_,_,_,rfl,R.pg.pc.same U2,fun p H3 np S3 hp=>?_⟩
 walk_at "s"
 have U3:=U2.trans S3
 refine o4 (.lst hp) (b:=true) (by rfl) ?_
 walk_at "s"
 refine eO (SqL.of hp) ?_
 walk_at "s"
 rw [show (!decide (V.int ([V.ref u,V.ref l].length:Int)=V.int 2))=false from rfl]
 walk_at "s"
 refine .inl ⟨p,rfl,⟨_,SqL.of hp⟩,?_⟩
 have R3:=R.same U3
 have hG:∀ v∈[V.ref u,V.ref l],∃ z hh,v= .ref z/\GP1 mg H3 z side row hh:=fun v hv=>by
  simp only [Xr,Yd,or_false] at hv
  rcases hv with rfl | rfl
  ·exact ⟨_,_,rfl,R3.gu⟩
  ·exact ⟨_,_,rfl,R3.gl⟩
 refine vm (xs:=[V.ref u,V.ref l]) (fun k U G=>Same H3 G/\∃ x4,U=[some (.ref x),some (.str side),some (.str row),some (.ref p),x4])
  ⟨Same.refl H3,_,rfl⟩ (fun i U G _ h=>SqL.of (h.1 _ _ hp)) ?_ ?_
 ·rintro k v U G hv ⟨s,x4,rfl⟩
  obtain ⟨z,hh,rfl,g⟩:=hG v (Xz hv)
  obtain ⟨y,kd,ps,hs,gz,tk,pH,ht,pl⟩:=g.same s
  obtain ⟨hyz,dz,az,bz,rz,oz,hz',_,_⟩:=id gz.pc
  walk_at "s"
  refine zu T ⟨z,y,side,row,kd,_,ps,hh,rfl,gz.pc⟩ ?_
  walk_at "s"
  refine ⟨z,y,dz,_,rfl,hyz,hz',oz.m (by trivial),?_⟩
  walk_at "s"
  refine ⟨z,y,_,_,_,_,_,_,rfl,gz.pc,?_⟩
  walk_at "s"
  refine ⟨z,y,side,row,kd,ps,hs,hh,rfl,gz,pH,ht,by rcases pl with ⟨e,_⟩ | e <;> simp [e],fun G' s'=>?_⟩
  walk_at "s"
  exact ⟨s.trans s',_,rfl⟩
 rintro U G ⟨s,x4,rfl⟩
 walk_at "s"
 refine ⟨.inl ⟨rfl,_,SqL.of (s _ _ hp)⟩,?_⟩
 walk_at "s"
 refine ⟨p,_,rfl,rfl,s _ _ hp,?_⟩
 have S4:Same H (upd G p (.lst [])):=Same.put (U3.trans s) (Same.back U2 np)
 generalize upd G p (.lst [])=H4 at S4 ⊢
 walk_at "s"
 refine ⟨x,"Ring",dx,_,rfl,hy,S4 _ _ hx,orr.m (by trivial),?_⟩
 walk_at "s"
 refine ⟨x,"Ring",_,_,_,_,_,_,rfl,R.pg.pc.same S4,fun p2 H5 np2 S5 hp2=>?_⟩
 walk_at "s"
 refine eO (SqL.of hp2) ?_
 walk_at "s"
 rw [XF (show V.int ([V.ref u,V.ref l].length:Int)=V.int 2 from rfl)]
 exact q _ (S4.trans S5)
end
local macro_rules | `(tactic| walk_at "s") => `(tactic| (with_reducible repeat (first | refine lU ?_ | walk_at "8")))
local macro_rules | `(tactic| walk_at "n") => `(tactic| (with_reducible repeat (walk_at "8")))
section
variable {P:Program} {w:World} {K:W.Frag} {mg:Str->Option Value} {base:Heap}
theorem kz00:Ue kJ "e":=by trivial
theorem kz01:Ue fB "e":=by trivial
def Qj (mg:Str->Option Value) (x:Str):Sp:=fun vs H Q E=>∃ (u l:Addr) (yu yl su sl tu tl ku kl:Str) (pu pl:List V) (hu hl:Nat),vs=[.ref u,.ref l]/\PG mg H u yu su tu ku pu hu/\PG mg H l yl sl tl kl pl hl/\((x="_law_over"/\tu≠tl/\XUn mg H E tu tl)\/(x="_law_beside"/\su≠sl/\XUn mg H E su sl))
def W4 (mg:Str->Option Value):Sp:=Qj mg "_law_over"
def W5 (mg:Str->Option Value):Sp:=Qj mg "_law_beside"
theorem XUn.up {H:Hp} {x dx:Addr} {o1 o2:HO} {E:XK} {a b:Str} (h:XUn mg H E a b) (nx:H x=none) (nd:H dx=none):XUn mg (upd (upd H dx o1) x o2) E a b:=fun e G s X=>h e G ((uO nx nd).trans s) X
theorem BJ:aF ["_law_one","_law_other"] ["_law_one","_law_other"] (aB rm):=⟨rfl,rfl,rfl,by trivial,rfl,by trivial,by trivial⟩
theorem Dw (T:Txt K mg):HasX P w K mg base 11 "_law_over" ["_law_one","_law_other"] (W4 mg):=by
 have bH:=bH (P:=P) (w:=w) (base:=base) T
 refine Ex T.d_law_over BJ (fun _ _ _ _ _ _ us hl=>L2.rD (fun _ _=>rfl) us hl) ?_ fun f cdv A outer s H vs Q E hr h=>?_
 ·rintro vs H Q E ⟨u,l,yu,yl,su,sl,tu,tl,ku,kl,pu,pl,hu',hl,rfl,_⟩;rfl
 obtain ⟨u,l,yu,yl,su,sl,tu,tl,ku,kl,pu,pl,hu',hl,rfl,gu,gl,hc⟩:=h
 have hu:=hr.units0
 have hu64:=hr.units
 refine ⟨_,(aC (aO (fu T.o_Over bH (hr.mono (by decide)) aR aX (aa (ao 0) (aa (ao 1) aq)) (by trivial)))),?_⟩
 walk_at "s"
 rcases hc with ⟨_,ne,hE⟩ | ⟨h,_⟩
 ·intro x dx nx nd nn
  refine ⟨x,dx,u,l,_,_,su,sl,tu,tl,_,_,_,_,hu',hl,rfl,aj,gu.same (uO nx nd),gl.same (uO nx nd),fun _=>hE.up nx nd,fun e=>absurd e ne,fun e=>absurd e ne⟩
 ·exact absurd h (by trivial)
theorem w5:aF ["_law_one","_law_other"] ["_law_one","_law_other"] (aB n8):=⟨rfl,rfl,rfl,by trivial,rfl,by trivial,by trivial⟩
theorem zE (T:Txt K mg):HasX P w K mg base 11 "_law_beside" ["_law_one","_law_other"] (W5 mg):=by
 have bC:=bC (P:=P) (w:=w) (base:=base) T
 refine Ex T.d_law_beside w5 (fun _ _ _ _ _ _ us hl=>L2.rD (fun _ _=>rfl) us hl) ?_ fun f cdv A outer s H vs Q E hr h=>?_
 ·rintro vs H Q E ⟨u,l,yu,yl,su,sl,tu,tl,ku,kl,pu,pl,hu',hl,rfl,_⟩;rfl
 obtain ⟨u,l,yu,yl,su,sl,tu,tl,ku,kl,pu,pl,hu',hl,rfl,gu,gl,hc⟩:=h
 have hu:=hr.units0
 have hu64:=hr.units
 refine ⟨_,(aC (aO (fu T.o_Beside bC (hr.mono (by decide)) aR aX (aa (ao 0) (aa (ao 1) aq)) (by trivial)))),?_⟩
 walk_at "s"
 rcases hc with ⟨h,_⟩ | ⟨_,ne,hE⟩
 ·exact absurd h (by trivial)
 ·intro x dx nx nd nn
  refine ⟨x,dx,u,l,_,_,su,sl,tu,tl,_,_,_,_,hu',hl,rfl,aj,gu.same (uO nx nd),gl.same (uO nx nd),fun _=>hE.up nx nd,fun e=>absurd e ne,fun e=>absurd e ne⟩
theorem Qk (T:Txt K mg):WD P w K mg base 30 ["_law_over","_law_beside"] ["_law_one","_law_other"] (Qj mg):=fun x hx=>by
 simp only [Xr,Yd,or_false] at hx
 rcases hx with rfl | rfl
 ·exact (Dw T).mono (by decide)
 ·exact (zE T).mono (by decide)
def W6 (mg:Str->Option Value):Sp:=fun vs H Q _=>∃ (x:Str) (u l:Addr) (yu yl su sl tu tl ku kl a b:Str) (pu pl:List V) (hu hl:Nat),vs=[.ref (aM mg x),.ref u,.ref l,.str a,.str b]/\PG mg H u yu su tu ku pu hu/\PG mg H l yl sl tl kl pl hl/\
 ((x="_law_over"/\tu≠tl/\a=tu/\b=tl)\/(x="_law_beside"/\su≠sl/\a=su/\b=sl))/\∀ H',Same H H'->Q (.bl true) H'
theorem qJ:aF ["_law_deed","_law_one","_law_other","_law_left","_law_right_here","e"] ["_law_deed","_law_one","_law_other","_law_left","_law_right_here"] (aB kJ):=⟨rfl,rfl,rfl,by trivial,rfl,by trivial,by trivial⟩
theorem kZ (T:Txt K mg):Has P w K mg base 41 "_law_unlike" ["_law_deed","_law_one","_law_other","_law_left","_law_right_here"] (W6 mg):=by
 refine fK T.d_law_unlike qJ (fun _ _ _ _ _ _ us hl=>L2.Vg (fun _ _ _ _ _=>rfl) us hl) ?_ fun f cdv A outer s H vs Q E hr h=>?_
 ·rintro vs H Q E ⟨x,u,l,yu,yl,su,sl,tu,tl,ku,kl,a,b,pu,pl,hu',hl,rfl,_⟩;rfl
 obtain ⟨x,u,l,yu,yl,su,sl,tu,tl,ku,kl,a,b,pu,pl,hu',hl,rfl,gu,gl,hc,q⟩:=h
 have hu:=hr.units0
 have hu64:=hr.units
 refine ⟨_,(aA (Kh rfl rfl (fun pins R=>(aC (bj (KN (mg:=mg) rfl (ao 0) (Qk (P:=P) (w:=w) (base:=base) T) (hr.mono (by decide)) Ak (aa (ao 1) (aa (ao 2) aq)))))) (Qw (K:=K) (i:=5) rfl T.x_Unlike.c aR (by trivial) qJ.nd rfl kz00 (fun x=>(aC (aO (um (o5 (pq (K:=K) rfl hu64) (CP (K:=K) rfl (ao 5)) (ao 3) (by walk_at "p")) (um (o5 (pq (K:=K) rfl hu64) (CP (K:=K) rfl (ao 5)) (ao 4) (by walk_at "p")) (vK (JM (aH (jq (K:=K) rfl) aR T.b_isinstance bx (aa (ao 5) (aa (El (aa (oM aR T.x_TooLong.c.at_ (by trivial)) (aa (oM aR T.x_NoPiece.c.at_ (by trivial)) aq))) aq)) (by trivial) (by trivial))))))))) (Qx (K:=K) rfl T.x_PaneError aR (by trivial) (fun x=>(aC (aO mD))) Kg))) (aC (aO mD))),?_⟩
 walk_at "s"
 refine ⟨x,by rcases hc with ⟨rfl,_⟩ | ⟨rfl,_⟩ <;> simp,rfl,?_⟩
 walk_at "s"
 have key:∀ (Q':VK) (E':XK),XUn mg H E' a b->Qj mg x [.ref u,.ref l] H Q' E':=fun Q' E' h=>by
  refine ⟨u,l,yu,yl,su,sl,tu,tl,ku,kl,pu,pl,hu',hl,rfl,gu,gl,?_⟩
  rcases hc with ⟨rfl,n,rfl,rfl⟩ | ⟨rfl,n,rfl,rfl⟩
  ·exact .inl ⟨rfl,n,h⟩
  ·exact .inr ⟨rfl,n,h⟩
 refine key _ _ ?_
 intro e H2 S2 X2
 refine ⟨_,e,rfl,rfl,?_⟩
 refine Qy T.x_Unlike.c.cl.cls T.u_Unlike_Unlike.mro ?_
 walk_at "s"
 refine ⟨e,_,_,_,rfl,X2,T.x_Unlike.c.cl.cls,T.x_Unlike.na _ (by simp),rfl,?_⟩
 walk_at "s"
 rw [XF rfl]
 walk_at "s"
 refine ⟨e,_,_,_,rfl,X2,T.x_Unlike.c.cl.cls,T.x_Unlike.na _ (by simp),rfl,?_⟩
 walk_at "s"
 rw [XF rfl]
 walk_at "s"
 refine iG rfl fun cp H3 ncp S3 hcp=>?_
 walk_at "s"
 have X3:=X2.same S3
 refine Od X3 T.x_Unlike.c.cl hcp rfl (b:=false) (by simp only [PySem.W.kitAny,T.u_Unlike_TooLong.one,T.u_Unlike_NoPiece.one]) ?_
 walk_at "s"
 exact q _ (S2.trans S3)
theorem GP.of1 {H:Hp} {x:Addr} {side top:Str} {h:Nat} (g:GP1 mg H x side top h):GP mg (fun _=>none) H x side top h:=g.same fun b o e=>uC e rfl
def W7 (mg:Str->Option Value):Sp:=fun vs H Q _=>∃ (x y:Addr) (side top there:Str) (hx hy:Nat),vs=[.ref x,.ref y,.str side,.str top,.str there]/\GP1 mg H x side top hx/\GP1 mg H y side there hy/\∀ H',Same H H'->Q (.bl true) H'
theorem ik:aF ["_law_ring_here","_law_other","_law_side","_law_top","_law_there","_law_many","e"] ["_law_ring_here","_law_other","_law_side","_law_top","_law_there"] (aB fB):=⟨rfl,rfl,rfl,by trivial,rfl,by trivial,by trivial⟩
theorem fH (T:Txt K mg):Has P w K mg base 11 "_law_beside_right" ["_law_ring_here","_law_other","_law_side","_law_top","_law_there"] (W7 mg):=by
 have gR:=gR (P:=P) (w:=w) (base:=base) T
 have bC:=bC (P:=P) (w:=w) (base:=base) T
 refine fK T.d_law_beside_right ik (fun _ _ _ _ _ _ us hl=>L2.Vg (fun _ _ _ _ _=>rfl) us hl) ?_ fun f cdv A outer s H vs Q E hr h=>?_
 ·rintro vs H Q E ⟨x,y,side,top,there,hx,hy,rfl,_⟩;rfl
 obtain ⟨x,y,side,top,there,hx,hy,rfl,gx,gy,q⟩:=h
 have hu:=hr.units0
 have hu64:=hr.units
 refine ⟨_,(aA (aJ (i:=5) ik.nd rfl eQ (bc aN (aH (aG (K:=K) rfl) aR T.b_len aZ (aa (ao 3) aq) (by trivial) (by trivial)) (aH (aG (K:=K) rfl) aR T.b_len aZ (aa (ao 4) aq) (by trivial) (by trivial))) rfl) (aA (bZ (bF DW (ao 5) aL (by walk_at "p")) (aC (aO (aK gR (hr.mono (by decide)) aR (aa (fu T.o_Beside bC (hr.mono (by decide)) aR (eY fun _ _=>rfl) (aa (ao 0) (aa (ao 1) aq)) (by trivial)) (aa (ao 2) (aa (bc aN (ao 3) (ao 4)) (aa lV aq)))) (by trivial)))) bG) (aA (Kh rfl rfl (fun pins R=>(aC (bj (Ao (mg:=mg) rfl T.o_Beside bC (hr.mono (by decide)) aR Ak (aa (ao 0) (aa (ao 1) aq)) (by trivial))))) (Qw (K:=K) (i:=6) rfl T.x_TooLong.c aR (by trivial) ik.nd rfl kz01 (fun x=>(aC (aO (um (o5 (pq (K:=K) rfl hu64) (CP (K:=K) rfl (ao 6)) (ao 5) (by walk_at "p")) (vK (JM (aH (jq (K:=K) rfl) aR T.b_isinstance bx (aa (ao 6) (aa (oM aR T.x_Unlike.c.at_ (by trivial)) aq)) (by trivial) (by trivial)))))))) (Qx (K:=K) rfl T.x_PaneError aR (by trivial) (fun x=>(aC (aO mD))) Kg))) (aC (aO mD))))),?_⟩
 walk_at "s"
 have hz:20000<=sizeLine:=by decide
 have l1:top.length<=48:=gx.rs.2.1
 have l2:there.length<=48:=gy.rs.2.1
 have el:(top ++ there).length=top.length+there.length:=iy top there
 refine cj (by omega) ?_
 walk_at "s"
 refine cj (by omega) ?_
 walk_at "s"
 refine sZ (fun h1=>?_) (fun h1=>?_)
 ·walk_at "s"
  refine yo (H0:=fun _=>none) (fun m o e=>by cases e) (GP.of1 gx) (GP.of1 gy) (by omega) fun z h H2 S2 hh P2 G2=>?_
  obtain ⟨yz,kz,pz,hz',g2,tk,pH,ht,pl⟩:=G2.g
  walk_at "s"
  refine fP (by omega) ?_
  walk_at "s"
  refine ⟨z,"Beside",side,top ++ there,_,_,[hx,hy],h,rfl,P2,?_,hh,by simp,fun H3 S3=>?_⟩
  walk_at "s"
  ·obtain ⟨_,_,_,_,a,_⟩:=gx.same S2
   obtain ⟨_,_,_,_,b,_⟩:=gy.same S2
   exact ql a b
  ·exact q _ (S2.trans S3)
 ·walk_at "s"
  intro z dz nz ndz ne
  obtain ⟨_,_,_,_,a,_⟩:=id gx
  obtain ⟨_,_,_,_,b,_⟩:=id gy
  refine ⟨z,dz,x,y,_,_,side,side,top,there,_,_,_,_,hx,hy,rfl,aj,a.same (uO nz ndz),b.same (uO nz ndz),fun n=>absurd rfl n,fun _ _=>?_,fun _ n=>absurd n (by omega)⟩
  intro e H2 S1 X2
  have S2:=(uO nz ndz).trans S1
  refine ⟨_,e,rfl,rfl,?_⟩
  refine Qy T.x_TooLong.c.cl.cls T.u_TooLong_TooLong.mro ?_
  walk_at "s"
  refine ⟨e,_,_,_,rfl,X2,T.x_TooLong.c.cl.cls,T.x_TooLong.na _ (by simp),rfl,?_⟩
  walk_at "s"
  rw [XF (by rw [el];rfl)]
  walk_at "s"
  refine TJ X2 T.x_TooLong.c.cl rfl T.u_TooLong_Unlike.one ?_
  walk_at "s"
  exact q _ S2
end
local macro_rules | `(tactic| walk_at "s") => `(tactic| (with_reducible repeat (first | refine lU ?_ | walk_at "9")))
local macro_rules | `(tactic| walk_at "n") => `(tactic| (with_reducible repeat (walk_at "9")))
section
variable {P:Program} {w:World} {K:W.Frag} {mg:Str->Option Value} {base:Heap}
theorem Pln.sub {y z:Str} (h:Pln z) (hl:y.length<=24) (hm:∀ c∈y.cps.toList,c∈z.cps.toList):Pln y:=⟨hl,fun c hc=>h.2 c (hm c hc)⟩
theorem zF (z:Str) (k:Nat):(Txt.slice z none (some (k:Int))).length=min k z.length:=by
 have h:=congrArg List.length (Am z k)
 rw [Y9] at h
 have e1:(Txt.slice z none (some (k:Int))).cps.toList.length=(Txt.slice z none (some (k:Int))).length:=Yb
 have e2:z.cps.toList.length=z.length:=Yb
 rw [e1,e2] at h;exact h
theorem LQ (z:Str) (k:Nat):(Txt.slice z (some (k:Int)) none).length=z.length - k:=by
 have h:=congrArg List.length (vP z k)
 rw [Zf] at h
 have e1:(Txt.slice z (some (k:Int)) none).cps.toList.length=(Txt.slice z (some (k:Int)) none).length:=Yb
 have e2:z.cps.toList.length=z.length:=Yb
 rw [e1,e2] at h;exact h
theorem LR {z:Str} {k:Nat} {c:Nat} (h:c∈(Txt.slice z none (some (k:Int))).cps.toList):c∈z.cps.toList:=by
 rw [Am] at h;exact Zu h
theorem Ma {z:Str} {k:Nat} {c:Nat} (h:c∈(Txt.slice z (some (k:Int)) none).cps.toList):c∈z.cps.toList:=by
 rw [vP] at h;exact List.mem_of_mem_drop h
theorem lg (y z:Str):(y ++ z).length=y.length+z.length:=iy y z
theorem Ql {y z:Str} {c:Nat} (h:c∈(y ++ z).cps.toList):c∈y.cps.toList\/c∈z.cps.toList:=by
 rw [cps_append] at h;exact Yx.mp h
theorem Qm {xs:List V} {lo hi:Option Int} {v:V} (h:v∈oW xs lo hi):v∈xs:=by
 unfold oW at h
 exact List.mem_of_mem_drop (Zu h)
theorem Pln.to {z:Str} (h:Pln z) {k:Nat}:Pln (Txt.slice z none (some (k:Int))):=h.sub (by have:=zF z k;have:=h.1;omega) fun c hc=>LR hc
def row2 (z:Str):Str:=z ++ z
theorem dbl {a b:Str} (h:row2 a=row2 b):a=b:=by
 have e:=congrArg (fun z:Str=>z.cps.toList) h
 unfold row2 at e
 simp only [cps_append] at e
 have l:=congrArg List.length e
 rw [Yr,Yr] at l
 exact qm (List.append_inj e (by omega)).1
def QX (K:W.Frag):Sp:=fun vs H Q _=>∃ (a:Addr) (ns:List Int),vs=[.ref a]/\SqL K H a (ns.map V.int)/\∀ H',Q (.bl true) H'
theorem fj:aF ["_law_script","_law_row_here","_law_side","_law_ring_here","_law_whole","_law_there","_law_cell","_law_more","_law_piece","_law_short","_law_other","_law_twofold","_law_briefly","_law_wider"] ["_law_script"] (aB Bc):=⟨rfl,rfl,rfl,by trivial,rfl,by trivial,by trivial⟩
theorem U0 (T:Txt K mg) {f0:Addr} {fd0:FuncData} (F0:Fun K "law" "law" Bc f0 fd0):FnOk P w K mg base Gr 42 f0 fd0 ["_law_script"] (QX K):=by
 have pZ:=pZ (P:=P) (w:=w) (base:=base) T
 have iz:=iz (P:=P) (w:=w) (base:=base) T
 have lq:=lq (P:=P) (w:=w) (base:=base) T
 have dX:=dX (P:=P) (w:=w) (base:=base) T
 have lO:=lO (P:=P) (w:=w) (base:=base) T
 have cz:=cz (P:=P) (w:=w) (base:=base) T
 have iK:=iK (P:=P) (w:=w) (base:=base) T
 have bH:=bH (P:=P) (w:=w) (base:=base) T
 have aU:=aU (P:=P) (w:=w) (base:=base) T
 have iZ:=iZ (P:=P) (w:=w) (base:=base) T
 have bh:=bh (P:=P) (w:=w) (base:=base) T
 have fH:=fH (P:=P) (w:=w) (base:=base) T
 have kZ:=kZ (P:=P) (w:=w) (base:=base) T
 refine okJ F0 fj ?_ fun f cdv A outer s H vs Q E hr h=>?_
 ·rintro vs H Q E ⟨a,ns,rfl,_⟩;rfl
 obtain ⟨a,ns,rfl,hS,q⟩:=h
 have hu:=hr.units0
 have hu64:=hr.units
 refine ⟨_,(aA (aJ (i:=1) fj.nd rfl eQ (aK pZ (hr.mono (by decide)) aR (aa (aK iz (hr.mono (by decide)) aR (aa (ao 0) (aa aL aq)) (by trivial)) aq) (by trivial)) rfl) (aA (aJ (i:=2) fj.nd rfl eQ (aK lq (hr.mono (by decide)) aR (aa (aK iz (hr.mono (by decide)) aR (aa (ao 0) (aa aL aq)) (by trivial)) (aa aL aq)) (by trivial)) rfl) (aA (aJ (i:=3) fj.nd rfl eQ (fu T.o_Ring dX (hr.mono (by decide)) aR (eY fun _ _=>rfl) (aa (ao 2) (aa (ao 1) aq)) (by trivial)) rfl) (aA (bZ (dR (dF (aK lO (hr.mono (by decide)) aR (aa (ao 3) (aa (ao 2) (aa (ao 1) aq))) (by trivial)))) (aC (aO mD)) bG) (aA (aJ (i:=4) fj.nd rfl eQ (ao 3) rfl) (aA (aJ (i:=5) fj.nd rfl eQ (ao 2) rfl) (aA (iC Yo rfl (jh (K:=K) rfl (km (rR (K:=K) rfl) (ao 0) (jA aL) (jA aL))) (d7 (i:=6) fj.nd rfl eQ rfl) (aA (aJ (i:=7) fj.nd rfl eQ (bc aN (bc aN (aK cz (hr.mono (by decide)) aR (aa (bc iB (ao 6) aL) aq) (by trivial)) (aK cz (hr.mono (by decide)) aR (aa (bc iB (ao 6) aL) aq) (by trivial))) (nG (K:=K) rfl (ao 1) aL)) rfl) (aA (aJ (i:=7) fj.nd rfl eQ (km (rR (K:=K) rfl) (ao 7) lW (jA (bc aN aL (bc je (bc iB (ao 6) aL) aL)))) rfl) (aC (bZ (bF DW (bc aN (aH (aG (K:=K) rfl) aR T.b_len aZ (aa (ao 5) aq) (by trivial) (by trivial)) (aH (aG (K:=K) rfl) aR T.b_len aZ (aa (ao 7) aq) (by trivial) (by trivial))) aL (by walk_at "p")) (aA (aJ (i:=8) fj.nd rfl eQ (fu T.o_Ring dX (hr.mono (by decide)) aR (eY fun _ _=>rfl) (aa (ao 7) (aa (ao 1) aq)) (by trivial)) rfl) (aA (bZ (bF (pq (K:=K) rfl hu64) (bc je (ao 6) aL) aL (by walk_at "p")) (aC (aJ (i:=8) fj.nd rfl eQ (aK iK (hr.mono (by decide)) aR (aa (ao 7) (aa (bc aN (ao 1) (ao 1)) aq)) (by trivial)) rfl)) bG) (aC (bZ (bF (pq (K:=K) rfl hu64) (bc je (bc iB (ao 6) aL) aL) aL (by walk_at "p")) (aA (aJ (i:=4) fj.nd rfl eQ (fu T.o_Over bH (hr.mono (by decide)) aR (eY fun _ _=>rfl) (aa (ao 8) (aa (ao 4) aq)) (by trivial)) rfl) (aC (aJ (i:=5) fj.nd rfl eQ (bc aN (ao 7) (ao 5)) rfl))) (aA (aJ (i:=4) fj.nd rfl eQ (fu T.o_Over bH (hr.mono (by decide)) aR (eY fun _ _=>rfl) (aa (ao 4) (aa (ao 8) aq)) (by trivial)) rfl) (aC (aJ (i:=5) fj.nd rfl eQ (bc aN (ao 5) (ao 7)) rfl))))))) bG))))) (aA (bZ (jJ (jW (bF (nH (K:=K) rfl hu64) (aV (mg:=mg) rfl (ao 4) T.os_Piece aU (hr.mono (by decide)) (eY fun _ _=>rfl)) (aK iZ (hr.mono (by decide)) aR (aa (ao 5) (aa (bc aN (ao 1) (ao 1)) aq)) (by trivial)) (by walk_at "p")) (jo (bF (nH (K:=K) rfl hu64) (aV (mg:=mg) rfl (ao 4) T.os_Piece bh (hr.mono (by decide)) (eY fun _ _=>rfl)) (ao 5) (by walk_at "p"))))) (aC (aO mD)) bG) (aA (aJ (i:=9) fj.nd rfl eQ (km (rR (K:=K) rfl) (ao 1) lW (jA (bc aN aL (bc je (aK iz (hr.mono (by decide)) aR (aa (ao 0) (aa aL aq)) (by trivial)) aL)))) rfl) (aA (aJ (i:=10) fj.nd rfl eQ (fu T.o_Ring dX (hr.mono (by decide)) aR (eY fun _ _=>rfl) (aa (ao 2) (aa (ao 9) aq)) (by trivial)) rfl) (aA (aJ (i:=11) fj.nd rfl eQ (bc aN (ao 1) (ao 1)) rfl) (aA (aJ (i:=12) fj.nd rfl eQ (bc aN (ao 9) (ao 9)) rfl) (aA (bZ (jJ (jW (dR (dF (aK fH (hr.mono (by decide)) aR (aa (ao 3) (aa (ao 10) (aa (ao 2) (aa (ao 11) (aa (ao 12) aq))))) (by trivial)))) (jo (dR (dF (aK lO (hr.mono (by decide)) aR (aa (ao 10) (aa (ao 2) (aa (ao 9) aq))) (by trivial))))))) (aC (aO mD)) bG) (aA (bZ (dR (dF (aK fH (hr.mono (by decide)) aR (aa (ao 10) (aa (ao 3) (aa (ao 2) (aa (ao 12) (aa (ao 11) aq))))) (by trivial)))) (aC (aO mD)) bG) (aA (aJ (i:=13) fj.nd rfl eQ (fu T.o_Ring dX (hr.mono (by decide)) aR (eY fun _ _=>rfl) (aa (km (rR (K:=K) rfl) (bc aN (km (rR (K:=K) rfl) (ao 2) (jA aL) lW) lV) lW (jA aL)) (aa (ao 1) aq)) (by trivial)) rfl) (aA (bZ (jJ (yN (bF (nH (K:=K) rfl hu64) (aV (mg:=mg) rfl (ao 13) T.os_Piece bh (hr.mono (by decide)) (eY fun _ _=>rfl)) (ao 2) (by walk_at "p")) (uU (dR (dF (aK kZ (hr.mono (by decide)) aR (aa (oM aR T.d_law_beside.at_ (by trivial)) (aa (ao 13) (aa (ao 3) (aa (aV (mg:=mg) rfl (ao 13) T.os_Piece bh (hr.mono (by decide)) (eY fun _ _=>rfl)) (aa (ao 2) aq))))) (by trivial))))))) (aC (aO mD)) bG) (aA (bZ (jJ (yN (bF (nH (K:=K) rfl hu64) (ao 9) (ao 1) (by walk_at "p")) (uU (dR (dF (aK kZ (hr.mono (by decide)) aR (aa (oM aR T.d_law_over.at_ (by trivial)) (aa (ao 3) (aa (ao 10) (aa (ao 11) (aa (ao 12) aq))))) (by trivial))))))) (aC (aO mD)) bG) (aC (aO (aK lO (hr.mono (by decide)) aR (aa (ao 3) (aa (ao 2) (aa (ao 1) aq))) (by trivial))))))))))))))))))))),?_⟩
 walk_at "s"
 have hz:20000<=sizeLine:=by decide
 refine ⟨a,ns,0,rfl,hS,by omega,fun c0=>?_⟩
 walk_at "s"
 refine ⟨c0,rfl,fun row H1 S1 hr' h0=>?_⟩
 walk_at "s"
 refine ⟨a,ns,1,rfl,S1.seq hS,by omega,fun c1=>?_⟩
 walk_at "s"
 refine ⟨c1,rfl,fun side H2 S2 hs=>?_⟩
 walk_at "s"
 have a1:side.length<=24:=hs.1
 have a2:row.length<=24:=hr'.1
 have e2:row.length=row.cps.size:=rfl
 have err:(row ++ row).length=row.length+row.length:=lg row row
 refine vg hs hr' h0 fun x u l nu nl nh H3 S3 R=>?_
 walk_at "s"
 refine ⟨x,u,l,side,row,nu,nl,nh,rfl,R,a2,fun H4 S4=>?_⟩
 walk_at "s"
 have R4:=R.same S4
 have hS4:=(S1.trans (S2.trans (S3.trans S4))).seq hS
 clear R S1 S2 S3 S4 hS
 refine .inl (Ad hS4 fun sl nsl=>?_)
 have S5:=(Same.refl H4).upd nsl (o:=.lst (oW (ns.map V.int) (some 2) (some 12)))
 have hsl:=aj (H:=H4) (a:=sl) (o:=.lst (oW (ns.map V.int) (some 2) (some 12)))
 generalize upd H4 sl (.lst (oW (ns.map V.int) (some 2) (some 12)))=H5 at S5 hsl ⊢
 have R5:=R4.same S5
 have hS5:=S5.seq hS4
 clear R4 hS4 S5
 refine .inl ⟨sl,rfl,⟨_,SqL.of hsl⟩,?_⟩
 refine vm (xs:=oW (ns.map V.int) (some 2) (some 12)) (fun k U G=>Same H5 G/\∃ w t hw x6 x7 x8,GP1 mg G w t (row ++ row) hw/\U=[some (.ref a),some (.str row),some (.str side),some (.ref x),some (.ref w),some (.str t),x6,x7,x8,none,none,none,none,none])
  ⟨Same.refl H5,x,side,nh,_,_,_,R5.gp,rfl⟩ (fun i U G _ h=>SqL.of (h.1 _ _ hsl)) ?_ ?_
 ·rintro k v U G hv ⟨s,w,t,hw,x6,x7,x8,gw,rfl⟩
  obtain ⟨c,_,rfl⟩:=Yh.mp (Qm (Xz hv))
  walk_at "s"
  refine ⟨_,rfl,fun c1 d1 d2=>?_⟩
  walk_at "s"
  refine ⟨_,rfl,fun c2 d3 d4=>?_⟩
  walk_at "s"
  refine fP (by rw [vG,vG];omega) ?_
  walk_at "s"
  obtain ⟨r0,er0⟩:∃ r0,row.cps.toList[0]?=some r0:=⟨_,Xk (by rw [Yb];omega)⟩
  have hr0:=hr'.2 r0 (Xz er0)
  refine Ek (by omega) (p8 (j:=0) er0) ?_
  walk_at "s"
  have m2:∀ d∈((⟨#[c1]⟩:Str) ++ (⟨#[c2]⟩:Str)).cps.toList,97<=d/\d < 123:=Pln.push (fun d hd=>by simp at hd;subst hd;exact ⟨d1,d2⟩) d3 d4
  have m3:∀ d∈((⟨#[c1]⟩:Str) ++ (⟨#[c2]⟩:Str) ++ (⟨#[r0]⟩:Str)).cps.toList,97<=d/\d < 123:=Pln.push m2 hr0.1 hr0.2
  have n2:=lg (⟨#[c1]⟩:Str) (⟨#[c2]⟩:Str)
  have n3:=lg ((⟨#[c1]⟩:Str) ++ (⟨#[c2]⟩:Str)) (⟨#[r0]⟩:Str)
  rw [vG,vG] at n2
  rw [vG] at n3
  refine fP (by rw [vG];omega) ?_
  walk_at "s"
  generalize (⟨#[c1]⟩:Str) ++ (⟨#[c2]⟩:Str) ++ (⟨#[r0]⟩:Str)=mo at m3 n3 ⊢
  obtain ⟨d,hd,hd1⟩:∃ d:Nat,1+c / 4 % 3=(d:Int)/\d<=3:=⟨(1+c / 4 % 3).toNat,by omega,by omega⟩
  rw [hd]
  refine yR (by omega) ?_
  walk_at "s"
  have hm:Pln (Txt.slice mo none (some (d:Int))):=(show Pln mo from ⟨by omega,m3⟩).to
  have lm:=zF mo d
  generalize Txt.slice mo none (some (d:Int))=more at hm lm ⊢
  have lt:=gw.rs.1.1
  refine cj (by omega) ?_
  walk_at "s"
  refine cj (by omega) ?_
  walk_at "s"
  refine sZ (fun h1=>?_) (fun h1=>?_)
  ·walk_at "s"
   refine vg hm hr' h0 fun p pu pl mu ml mh G1 s1 Rp=>?_
   walk_at "s"
   refine sZ (fun h2=>?_) (fun h2=>?_)
   ·walk_at "s"
    refine fP (by omega) ?_
    walk_at "s"
    refine ⟨more,row ++ row,rfl,hm.row,qj hr'.row hr'.row (by omega),fun p2 ph G2 s2 _ g2=>?_⟩
    walk_at "s"
    have gp:=g2.g
    have sp:=s.trans (s1.trans s2)
    have gw:=gw.same (s1.trans s2)
    refine sZ (fun h3=>?_) (fun h3=>?_)
    ·walk_at "s"
     refine sI (H0:=fun _=>none) (fun m o e=>by cases e) (GP.of1 gp) (GP.of1 gw) (by rw [lg];omega) fun z hz5 G5 S5 _ _ g5=>?_
     walk_at "s"
     refine fP (by omega) ?_
     walk_at "s"
     exact ⟨sp.trans S5,z,_,hz5,_,_,_,g5.g,rfl⟩
    ·walk_at "s"
     refine sI (H0:=fun _=>none) (fun m o e=>by cases e) (GP.of1 gw) (GP.of1 gp) (by rw [lg];omega) fun z hz5 G5 S5 _ _ g5=>?_
     walk_at "s"
     refine fP (by omega) ?_
     walk_at "s"
     exact ⟨sp.trans S5,z,_,hz5,_,_,_,g5.g,rfl⟩
   ·walk_at "s"
    have gp:=Rp.gp
    have sp:=s.trans s1
    have gw:=gw.same s1
    refine sZ (fun h3=>?_) (fun h3=>?_)
    ·walk_at "s"
     refine sI (H0:=fun _=>none) (fun m o e=>by cases e) (GP.of1 gp) (GP.of1 gw) (by rw [lg];omega) fun z hz5 G5 S5 _ _ g5=>?_
     walk_at "s"
     refine fP (by omega) ?_
     walk_at "s"
     exact ⟨sp.trans S5,z,_,hz5,_,_,_,g5.g,rfl⟩
    ·walk_at "s"
     refine sI (H0:=fun _=>none) (fun m o e=>by cases e) (GP.of1 gw) (GP.of1 gp) (by rw [lg];omega) fun z hz5 G5 S5 _ _ g5=>?_
     walk_at "s"
     refine fP (by omega) ?_
     walk_at "s"
     exact ⟨sp.trans S5,z,_,hz5,_,_,_,g5.g,rfl⟩
  ·walk_at "s"
   exact ⟨s,w,t,hw,_,_,_,gw,rfl⟩
 rintro U G ⟨s,w,t,hw,x6,x7,x8,gw,rfl⟩
 have R6:=R5.same s
 have hS6:=s.seq hS5
 clear R5 hS5 hsl s
 obtain ⟨yw,kw,pw,hsw,g,tkw,pHw,htw,plw⟩:=id gw
 obtain ⟨hyw,dw,aw,bw,rw',ow,hxw,_,_⟩:=id g.pc
 have lt:=gw.rs.1.1
 walk_at "s"
 refine ⟨w,yw,dw,_,rfl,hyw,hxw,ow.m (by trivial),?_⟩
 walk_at "s"
 refine ⟨w,yw,_,_,_,_,_,_,rfl,g.pc,fun f G1 nf s1 hf=>?_⟩
 walk_at "s"
 refine fP (by omega) ?_
 walk_at "s"
 refine ⟨t,row ++ row,rfl,lt,by omega,fun d G2 nd s2 hd=>?_⟩
 walk_at "s"
 refine .inr (.inl ⟨f,d,_,rfl,rfl,SqL.of (s2 _ _ hf),SqL.of hd,FT _,?_⟩)
 have u2:=s1.trans s2
 walk_at "s"
 refine ⟨w,yw,dw,_,rfl,hyw,u2 _ _ hxw,ow.m (by trivial),?_⟩
 walk_at "s"
 refine ⟨w,yw,_,_,_,_,_,_,rfl,g.pc.same u2,?_⟩
 walk_at "s"
 rw [show (!decide (V.str t=V.str t))=false by simp]
 walk_at "s"
 have R7:=R6.same u2
 clear g gw pHw hxw R6 hf hd
 refine ⟨a,ns,2,rfl,u2.seq hS6,by omega,fun c2=>?_⟩
 walk_at "s"
 obtain ⟨d2,hd2,hd3,hd4⟩:∃ d:Nat,1+c2 % 3=(d:Int)/\1<=d/\d<=3:=⟨(1+c2 % 3).toNat,by omega,by omega,by omega⟩
 rw [hd2]
 refine yR (by omega) ?_
 walk_at "s"
 have hsh:Pln (Txt.slice row none (some (d2:Int))):=hr'.to
 have lsh:=zF row d2
 generalize Txt.slice row none (some (d2:Int))=short at hsh lsh ⊢
 have es:short.length=short.cps.size:=rfl
 have lss:=lg short short
 refine vg hs hsh (by omega) fun o ou ol nu2 nl2 nh2 G3 s3 O=>?_
 walk_at "s"
 have R8:=R7.same s3
 refine fP (by omega) ?_
 walk_at "s"
 refine fP (by omega) ?_
 walk_at "s"
 refine ⟨x,o,side,row ++ row,short ++ short,_,_,rfl,R8.gp,O.gp,fun G4 s4=>?_⟩
 walk_at "s"
 refine ⟨o,ou,ol,side,short,nu2,nl2,nh2,rfl,O.same s4,by omega,fun G5 s5=>?_⟩
 walk_at "s"
 have u5:=s4.trans s5
 refine ⟨o,x,side,short ++ short,row ++ row,_,_,rfl,(O.same u5).gp,(R8.same u5).gp,fun G6 s6=>?_⟩
 walk_at "s"
 have R9:=R8.same (u5.trans s6)
 have O9:=O.same (u5.trans s6)
 clear R7 R8 O s3 s4 s5 s6 u5
 have f1:=LQ side 1
 have f2:∀ b∈(Txt.slice side (some ((1:Nat):Int)) none).cps.toList,b∈side.cps.toList:=fun b hb=>Ma hb
 rw [show ((1:Nat):Int)=1 from rfl] at f1 f2
 refine yR (by omega) ?_
 walk_at "s"
 generalize Txt.slice side (some 1) none=sd at f1 f2 ⊢
 have lab:(Str.ofString "ab").length=2:=by trivial
 have f3:=lg sd (Str.ofString "ab")
 have cab:∀ c∈(Str.ofString "ab").cps.toList,97<=c/\c < 123:=by trivial
 have f4:∀ c∈(sd ++ Str.ofString "ab").cps.toList,97<=c/\c < 123:=fun c hc=>(Ql hc).elim (fun h=>hs.2 c (f2 c h)) (fun h=>cab c h)
 refine fP (by omega) ?_
 walk_at "s"
 generalize sd ++ Str.ofString "ab"=se at f3 f4 ⊢
 have f5:=zF se 24
 have f6:∀ c∈(Txt.slice se none (some ((24:Nat):Int))).cps.toList,c∈se.cps.toList:=fun c hc=>LR hc
 rw [show ((24:Nat):Int)=24 from rfl] at f5 f6
 refine yR (by omega) ?_
 walk_at "s"
 have hwd:Pln (Txt.slice se none (some 24)):=⟨by omega,fun c hc=>f4 c (f6 c hc)⟩
 generalize Txt.slice se none (some 24)=wd at hwd ⊢
 refine vg hwd hr' h0 fun y yu yl nu3 nl3 nh3 G7 s7 Y=>?_
 walk_at "s"
 have R9:=R9.same s7
 have O9:=O9.same s7
 obtain ⟨hyy,dy,ay,by',ry,oy,hyx,_,_⟩:=id Y.pg.pc
 refine ⟨y,"Ring",dy,_,rfl,hyy,hyx,oy.m (by trivial),?_⟩
 walk_at "s"
 refine ⟨y,"Ring",_,_,_,_,_,_,rfl,Y.pg.pc,?_⟩
 walk_at "s"
 by_cases e3:wd=side
 ·rw [show (!decide (V.str wd=V.str side))=false by simp [e3]]
  walk_at "s"
  by_cases e4:short=row
  ·rw [show (!decide (V.str short=V.str row))=false by simp [e4]]
   walk_at "s"
   refine ⟨x,u,l,side,row,nu,nl,nh,rfl,R9.same (Same.refl G7),a2,fun Z1 z1=>?_⟩
   walk_at "s"
   exact q _
  ·rw [show (!decide (V.str short=V.str row))=true by simp [e4]]
   walk_at "s"
   refine ⟨"_law_over",x,o,"Ring","Ring",side,side,row ++ row,short ++ short,_,_,_,_,_,_,_,_,rfl,(R9.same (Same.refl G7)).pg,(O9.same (Same.refl G7)).pg,.inl ⟨rfl,fun z=>e4 (dbl z).symm,rfl,rfl⟩,fun Z0 z0=>?_⟩
   walk_at "s"
   refine ⟨x,u,l,side,row,nu,nl,nh,rfl,R9.same ((Same.refl G7).trans z0),a2,fun Z1 z1=>?_⟩
   walk_at "s"
   exact q _
 ·rw [show (!decide (V.str wd=V.str side))=true by simp [e3]]
  walk_at "s"
  refine ⟨y,"Ring",dy,_,rfl,hyy,hyx,oy.m (by trivial),?_⟩
  walk_at "s"
  refine ⟨y,"Ring",_,_,_,_,_,_,rfl,Y.pg.pc,?_⟩
  walk_at "s"
  refine ⟨"_law_beside",y,x,"Ring","Ring",wd,side,row ++ row,row ++ row,_,_,_,_,_,_,_,_,rfl,Y.pg,R9.pg,.inr ⟨rfl,e3,rfl,rfl⟩,fun G8 s8=>?_⟩
  walk_at "s"
  by_cases e4:short=row
  ·rw [show (!decide (V.str short=V.str row))=false by simp [e4]]
   walk_at "s"
   refine ⟨x,u,l,side,row,nu,nl,nh,rfl,R9.same s8,a2,fun Z1 z1=>?_⟩
   walk_at "s"
   exact q _
  ·rw [show (!decide (V.str short=V.str row))=true by simp [e4]]
   walk_at "s"
   refine ⟨"_law_over",x,o,"Ring","Ring",side,side,row ++ row,short ++ short,_,_,_,_,_,_,_,_,rfl,(R9.same s8).pg,(O9.same s8).pg,.inl ⟨rfl,fun z=>e4 (dbl z).symm,rfl,rfl⟩,fun Z0 z0=>?_⟩
   walk_at "s"
   refine ⟨x,u,l,side,row,nu,nl,nh,rfl,R9.same (s8.trans z0),a2,fun Z1 z1=>?_⟩
   walk_at "s"
   exact q _
end
end My
namespace PySem.W.Fast
def tw12322782686327887371:=0
def tw9453465737385208530:=0
def tw5441121212784771577:=0
def tw3109723456976833581:=0
def tw3139514199753052732:=0
def tw2132325098124845328:=0
def tw4796329161859764555:=0
def tw8374542459775570757:=0
def tw181803637619446703:=0
def tw3287173703069386451:=0
def tw5559359768369590513:=0
def tw4758017684590958216:=0
def tw9696476241584973505:=0
def tw164218886538680652:=0
def tw11872624168404632118:=0
def tw14400106903220183152:=0
def tw9061037549153182875:=0
def tw5983396506055584359:=0
def tw7860588631132510345:=0
def tw3763307570299892367:=0
def tw7703839190510095962:=0
def tw15507438630614846405:=0
def tw9162788088310761637:=0
def tw4002875652910473258:=0
def tw14648557749280957783:=0
def tw537057424168477215:=0
def tw18086236042356773061:=0
def tw3697085424611636896:=0
def tw7555690443604734950:=0
def tw7673558158987194961:=0
def tw15921675564349965222:=0
def tw11729534153447326568:=0
def tw2260908566770265328:=0
def tw8788701271740014016:=0
def tw13383468638584157835:=0
def tw8472358286280102311:=0
def tw15615527766737367098:=0
def tw14447810169621862425:=0
def tw8620652720343133944:=0
def tw14766094373801769816:=0
def tw6421822455041368373:=0
def tw10977845008108586717:=0
def tw15914956507874004009:=0
def tw2199462010506403638:=0
def tw487285406956605082:=0
def tw4099834343176099002:=0
def tw5832426942180989390:=0
def tw13287048333127554237:=0
def tw7653682292115705662:=0
def tw2639547567738189543:=0
def tw7777046526216522462:=0
def tw1848270652854169437:=0
def tw10988742918103570019:=0
def tw1795904947152363142:=0
def tw4808959729045888219:=0
def tw11120587753166826921:=0
def tw9043351520072562493:=0
def tw13014598846397543679:=0
def tw17085405849508961585:=0
def tw13634533461743963981:=0
def tw4417166340155226646:=0
def tw11943914468983959980:=0
def tw13748800266820815668:=0
def tw16751364952203411922:=0
def tw746813742668251:=0
def tw7932976159865466874:=0
def tw733442484069430347:=0
def tw17423289481663880539:=0
def tw4707709047682478931:=0
def tw6375195113450060647:=0
def tw6080893586833228254:=0
def tw9755307881664570073:=0
def tw1636079518203841727:=0
def tw5330645240926941159:=0
def tw11177737919325153554:=0
def tw15115994264839380874:=0
def tw12153360758729351923:=0
def tw8807145184331029145:=0
def tw6893341788342474173:=0
def tw10102552137717160222:=0
def tw8527628010707918639:=0
def tw17397170135287363420:=0
def tw7696479010051743952:=0
def tw15008892577679977014:=0
def tw11955651597113207195:=0
def tw14930108814204359961:=0
def tw17798066402353405275:=0
def tw9463102521517331948:=0
def tw16429378086417671803:=0
def tw4600643397183214118:=0
def tw6906203025667078698:=0
def tw2589779794622540184:=0
def tw4018679847508033881:=0
def tw6489493213061140800:=0
def tw3113465319444201366:=0
def tw14244560963017200828:=0
def tw5753473929552251316:=0
def tw5193487631438341384:=0
def tw2893023350560327004:=0
def tw9691075453790269306:=0
def tw1515216673582036049:=0
def tw7415877745276691922:=0
def tw8322903834984680816:=0
def tw3445040221572997670:=0
def tw7909626194400103753:=0
def tw10491366720366911898:=0
def tw15965962456375943526:=0
def tw13861338365999231536:=0
def tw9221627602744024236:=0
def tw4953424692928143491:=0
def tw9834329626202079572:=0
def tw4683144708677317147:=0
def tw15626875868838797152:=0
def tw2031758157857929032:=0
def tw4891397098887560410:=0
def tw7700208236039943487:=0
def tw18207121799813958980:=0
def tw1779843914137594550:=0
def tw10634782095933547128:=0
def tw8040909515398717833:=0
def tw80641576119968311:=0
def tw12478393834449364177:=0
def tw4927310003468611921:=0
def tw4117361130141830293:=0
def tw2415640786188039093:=0
def tw9362249187457943534:=0
def tw18276893813108790752:=0
def tw6786475701038188143:=0
def tw15579771352302885660:=0
def tw2918364859328690456:=0
def tw15942840020348216319:=0
def tw17829112773173565845:=0
def tw4411372766189742264:=0
def tw18028153086289863859:=0
def tw7939138835740816829:=0
def tw10103680707125002164:=0
def tw14333986305187848360:=0
def tw2510214853176722895:=0
def tw16282372166032067401:=0
def tw4242310824758081244:=0
def tw3556429736614666120:=0
def tw7814909974607098620:=0
def tw12476683862658642930:=0
def tw15116870878764230970:=0
def tw13163952327770991072:=0
def tw7800803689483347361:=0
def tw15275989968062576900:=0
def tw16828511163617322416:=0
def tw14984435330503575836:=0
def tw13364582460515511198:=0
def tw7286076325224057091:=0
def tw16633768114453317648:=0
def tw16538596285693130231:=0
def tw2069661992584903927:=0
def tw17071773706939505795:=0
def tw14641905467652400250:=0
def tw12486177154701214074:=0
def tw9332711205134019541:=0
def tw3158322159108239889:=0
def tw10330689698840625106:=0
def tw6556601993429425746:=0
def tw7468648203850416774:=0
def tw5241264595051957374:=0
def tw10978985335118346898:=0
def tw677562378366362933:=0
def tw1850501821677108223:=0
def tw3135625623150661994:=0
def tw1824939972745903697:=0
def tw9335467194231958028:=0
def tw6318573077944106492:=0
def tw14893702005779491971:=0
def tw9432749024429214360:=0
def tw9664908806826427395:=0
def tw6610201990154527452:=0
def tw2420399695436527684:=0
def tw17470897418994910241:=0
def tw11973362429607714902:=0
def tw9957284180514549735:=0
def tw52932045888318170:=0
def tw6384408593741536652:=0
def tw5855949037906284129:=0
def tw14613284265614991606:=0
def tw14016983591970102067:=0
def tw13903770820930315815:=0
def tw2677095294049844646:=0
def tw16623538049042633759:=0
def tw15700638289156012856:=0
def tw11030527909857836987:=0
def tw8902914774363415038:=0
def tw5971641342495479101:=0
def tw16172812576133707464:=0
def tw14707806422355041410:=0
def tw2864697119936908904:=0
def tw13205080230851229875:=0
def tw8995221815097588177:=0
def tw5910631573700723632:=0
def tw17439006639954272688:=0
def tw7230136557180258993:=0
def tw11035636466761758251:=0
def tw10827565278271841408:=0
def tw3592919991371820223:=0
def tw18319791164645882177:=0
def tw14920394169983154310:=0
def tw15234924780558497058:=0
def tw12262796215772671723:=0
def tw8599202339565727500:=0
def tw11004761377737735310:=0
def tw10859735449261821166:=0
def tw3135266127769088492:=0
def tw8224636088566544796:=0
def tw18073464484539041585:=0
def tw6910681683941928873:=0
def tw18080157856941748699:=0
def tw6894669892530745404:=0
def tw9617569928696670366:=0
def tw10212038690596889730:=0
def tw7100609201570169656:=0
def tw12797791833475174526:=0
def tw12551936864042998971:=0
def tw10854672832442542834:=0
def tw7755635590201582607:=0
def tw1820843582663974287:=0
def tw15013295641276409652:=0
def tw3793951371964468836:=0
def tw13878942276275453360:=0
def tw12712763531226811607:=0
def tw8576576183105911459:=0
def tw17026449777502189721:=0
def tw6420165356580547433:=0
def tw2173439406287169372:=0
def tw12168520970054206011:=0
def tw11530281036959850517:=0
def tw15868676572957319340:=0
def tw14303242389924737715:=0
def tw4252795471070509184:=0
def tw7990558860075581350:=0
def tw6536393798061309389:=0
def tw3174987346326693960:=0
def tw4024292882371997844:=0
def tw13906384693705531103:=0
def tw784645278850996997:=0
def tw9180753249937590311:=0
def tw5089900383791730219:=0
def tw11083896950997465231:=0
def tw5906039145658319998:=0
def tw5078626575513381375:=0
def tw11448328796196332967:=0
def tw573357497029281316:=0
def tw17402809603402426730:=0
def tw11519218021709274535:=0
def tw8179922127919518185:=0
def tw17083291508576446077:=0
def tw300355675845231905:=0
def tw15247192607576761068:=0
def tw14217801016924073937:=0
def tw7560788890646460695:=0
def tw10068634688533471781:=0
def tw11706853579314965552:=0
def tw10745200435179760909:=0
def tw14948748144370714846:=0
def tw517340585963782062:=0
def tw28297503729759357:=0
def tw4203772166518154307:=0
def tw12192320729336049640:=0
def tw11381144835948325717:=0
def tw5824976587318379111:=0
def tw15350217840806658760:=0
def tw5697151112333064866:=0
def tw9369836202558627411:=0
def tw5058687768808998255:=0
def tw477286442991466467:=0
def tw4263108515916005843:=0
def tw18343231008284796588:=0
def tw16751309613684237827:=0
def tw1493764570983799284:=0
def tw14242402209741437654:=0
def tw14104417103226882610:=0
def tw12546110561016770318:=0
def tw11226284816131721578:=0
def tw10017747833280417911:=0
def tw18046986888944342674:=0
def tw13484347605347919364:=0
def tw14765293397757893480:=0
def tw5753357646159657565:=0
end PySem.W.Fast
open PySem PySem.W PyProof.Rows
set_option maxRecDepth 100000 in
set_option maxHeartbeats 0 in
theorem PySem.Challenge.cw_panethread_k79_whole_rings_are_pieces_holds : PySem.Challenge.rw_panethread_k79_whole_rings_are_pieces.Holds := by
 w_on;o_law;k_head;(case hw=>w_witness2)
 k_fill
 refine L2.V9 (l:=PySem.Challenge.rw_panethread_k79_whole_rings_are_pieces) (st:=My.Bc) (k:=42) (x:="_law_script") (sp:=My.QX) rfl rfl rfl ⟨rfl,by decide,by decide,rfl⟩ (fun w h Y=>PySem.W.kIn_of Y) (fun _ _ _ _ _ _ us hl=>L2.jc (fun _=>rfl) us hl) ?F (fun K H a ns hl hS=>⟨a,ns,rfl,hS,fun _=>rfl⟩)
 case F=>
  intro w mg h KX G
  have b_all:mg "all"=none:=by
   refine' Yp KX G ?a
   (case a=>k_is)
  have b_any:mg "any"=none:=by
   refine' Yp KX G ?a
   (case a=>k_is)
  have b_bool:mg "bool"=none:=by
   refine' Yp KX G ?a
   (case a=>k_is)
  have b_enumerate:mg "enumerate"=none:=by
   refine' Yp KX G ?a
   (case a=>k_is)
  have b_int:mg "int"=none:=by
   refine' Yp KX G ?a
   (case a=>k_is)
  have b_isinstance:mg "isinstance"=none:=by
   refine' Yp KX G ?a
   (case a=>k_is)
  have b_len:mg "len"=none:=by
   refine' Yp KX G ?a
   (case a=>k_is)
  have b_list:mg "list"=none:=by
   refine' Yp KX G ?a
   (case a=>k_is)
  have b_max:mg "max"=none:=by
   refine' Yp KX G ?a
   (case a=>k_is)
  have b_range:mg "range"=none:=by
   refine' Yp KX G ?a
   (case a=>k_is)
  have b_reversed:mg "reversed"=none:=by
   refine' Yp KX G ?a
   (case a=>k_is)
  have b_str:mg "str"=none:=by
   refine' Yp KX G ?a
   (case a=>k_is)
  have b_tuple:mg "tuple"=none:=by
   refine' Yp KX G ?a
   (case a=>k_is)
  have c_LETTERS:∃ t,mg "LETTERS"=some (.str "abcdefghijklmnopqrstuvwxyz" t):=by
   refine' L2.o7 KX G ?a ?h
   (case a=>k_is);(case h=>exact ⟨_,by with_unfolding_all rfl⟩)
  have c_MOST_LETTERS:∃ t,mg "MOST_LETTERS"=some (.int 24 t):=by
   refine' L2.o7 KX G ?a ?h
   (case a=>k_is);(case h=>exact ⟨_,by with_unfolding_all rfl⟩)
  have c_MOST_LINES:∃ t,mg "MOST_LINES"=some (.int 96 t):=by
   refine' L2.o7 KX G ?a ?h
   (case a=>k_is);(case h=>exact ⟨_,by with_unfolding_all rfl⟩)
  have c_MOST_SIGNS:∃ t,mg "MOST_SIGNS"=some (.int 48 t):=by
   refine' L2.o7 KX G ?a ?h
   (case a=>k_is);(case h=>exact ⟨_,by with_unfolding_all rfl⟩)
  have c_POINT:∃ t,mg "POINT"=some (.str "." t):=by
   refine' L2.o7 KX G ?a ?h
   (case a=>k_is);(case h=>exact ⟨_,by with_unfolding_all rfl⟩)
  have d_is_number:L2.Def (L2.KOf KX) mg "is_number" My.pC:=by
   dsimp only [L2.KOf]
   refine' L2.bA KX G ?a ?l ?c ?k
   (case a=>k_is);(case l=>k_is);(case c=>k_is);(case k=>k_is)
  have d_is_within:L2.Def (L2.KOf KX) mg "is_within" My.pG:=by
   dsimp only [L2.KOf]
   refine' L2.bA KX G ?a ?l ?c ?k
   (case a=>k_is);(case l=>k_is);(case c=>k_is);(case k=>k_is)
  have d_is_letter:L2.Def (L2.KOf KX) mg "is_letter" My.pI:=by
   dsimp only [L2.KOf]
   refine' L2.bA KX G ?a ?l ?c ?k
   (case a=>k_is);(case l=>k_is);(case c=>k_is);(case k=>k_is)
  have d_is_sign:L2.Def (L2.KOf KX) mg "is_sign" My.tU:=by
   dsimp only [L2.KOf]
   refine' L2.bA KX G ?a ?l ?c ?k
   (case a=>k_is);(case l=>k_is);(case c=>k_is);(case k=>k_is)
  have d_need_place:L2.Def (L2.KOf KX) mg "need_place" My.nO:=by
   dsimp only [L2.KOf]
   refine' L2.bA KX G ?a ?l ?c ?k
   (case a=>k_is);(case l=>k_is);(case c=>k_is);(case k=>k_is)
  have d_need_sign:L2.Def (L2.KOf KX) mg "need_sign" My.pJ:=by
   dsimp only [L2.KOf]
   refine' L2.bA KX G ?a ?l ?c ?k
   (case a=>k_is);(case l=>k_is);(case c=>k_is);(case k=>k_is)
  have d_is_row:L2.Def (L2.KOf KX) mg "is_row" My.rT:=by
   dsimp only [L2.KOf]
   refine' L2.bA KX G ?a ?l ?c ?k
   (case a=>k_is);(case l=>k_is);(case c=>k_is);(case k=>k_is)
  have d_is_plain:L2.Def (L2.KOf KX) mg "is_plain" My.nP:=by
   dsimp only [L2.KOf]
   refine' L2.bA KX G ?a ?l ?c ?k
   (case a=>k_is);(case l=>k_is);(case c=>k_is);(case k=>k_is)
  have d_need_row:L2.Def (L2.KOf KX) mg "need_row" My.qT:=by
   dsimp only [L2.KOf]
   refine' L2.bA KX G ?a ?l ?c ?k
   (case a=>k_is);(case l=>k_is);(case c=>k_is);(case k=>k_is)
  have d_need_rows:L2.Def (L2.KOf KX) mg "need_rows" My.pK:=by
   dsimp only [L2.KOf]
   refine' L2.bA KX G ?a ?l ?c ?k
   (case a=>k_is);(case l=>k_is);(case c=>k_is);(case k=>k_is)
  have d_need_plain:L2.Def (L2.KOf KX) mg "need_plain" My.nQ:=by
   dsimp only [L2.KOf]
   refine' L2.bA KX G ?a ?l ?c ?k
   (case a=>k_is);(case l=>k_is);(case c=>k_is);(case k=>k_is)
  have d_is_turning:L2.Def (L2.KOf KX) mg "is_turning" My.nR:=by
   dsimp only [L2.KOf]
   refine' L2.bA KX G ?a ?l ?c ?k
   (case a=>k_is);(case l=>k_is);(case c=>k_is);(case k=>k_is)
  have d_need_turning:L2.Def (L2.KOf KX) mg "need_turning" My.lH:=by
   dsimp only [L2.KOf]
   refine' L2.bA KX G ?a ?l ?c ?k
   (case a=>k_is);(case l=>k_is);(case c=>k_is);(case k=>k_is)
  have d_straight:L2.Def (L2.KOf KX) mg "straight" My.qU:=by
   dsimp only [L2.KOf]
   refine' L2.bA KX G ?a ?l ?c ?k
   (case a=>k_is);(case l=>k_is);(case c=>k_is);(case k=>k_is)
  have d_opposite:L2.Def (L2.KOf KX) mg "opposite" My.qW:=by
   dsimp only [L2.KOf]
   refine' L2.bA KX G ?a ?l ?c ?k
   (case a=>k_is);(case l=>k_is);(case c=>k_is);(case k=>k_is)
  have d_counts:L2.Def (L2.KOf KX) mg "counts" My.rW:=by
   dsimp only [L2.KOf]
   refine' L2.bA KX G ?a ?l ?c ?k
   (case a=>k_is);(case l=>k_is);(case c=>k_is);(case k=>k_is)
  have d_do_steps:L2.Def (L2.KOf KX) mg "do_steps" My.qX:=by
   dsimp only [L2.KOf]
   refine' L2.bA KX G ?a ?l ?c ?k
   (case a=>k_is);(case l=>k_is);(case c=>k_is);(case k=>k_is)
  have d_steps_of:L2.Def (L2.KOf KX) mg "steps_of" My.qY:=by
   dsimp only [L2.KOf]
   refine' L2.bA KX G ?a ?l ?c ?k
   (case a=>k_is);(case l=>k_is);(case c=>k_is);(case k=>k_is)
  have d_need_alike:L2.Def (L2.KOf KX) mg "need_alike" My.nU:=by
   dsimp only [L2.KOf]
   refine' L2.bA KX G ?a ?l ?c ?k
   (case a=>k_is);(case l=>k_is);(case c=>k_is);(case k=>k_is)
  have d_laid:L2.Def (L2.KOf KX) mg "laid" My.Dj:=by
   dsimp only [L2.KOf]
   refine' L2.bA KX G ?a ?l ?c ?k
   (case a=>k_is);(case l=>k_is);(case c=>k_is);(case k=>k_is)
  have d_need_pieces:L2.Def (L2.KOf KX) mg "need_pieces" My.mH:=by
   dsimp only [L2.KOf]
   refine' L2.bA KX G ?a ?l ?c ?k
   (case a=>k_is);(case l=>k_is);(case c=>k_is);(case k=>k_is)
  have d_need_same:L2.Def (L2.KOf KX) mg "need_same" My.pL:=by
   dsimp only [L2.KOf]
   refine' L2.bA KX G ?a ?l ?c ?k
   (case a=>k_is);(case l=>k_is);(case c=>k_is);(case k=>k_is)
  have d_need_short:L2.Def (L2.KOf KX) mg "need_short" My.nY:=by
   dsimp only [L2.KOf]
   refine' L2.bA KX G ?a ?l ?c ?k
   (case a=>k_is);(case l=>k_is);(case c=>k_is);(case k=>k_is)
  have d_lines_over:L2.Def (L2.KOf KX) mg "lines_over" My.kI:=by
   dsimp only [L2.KOf]
   refine' L2.bA KX G ?a ?l ?c ?k
   (case a=>k_is);(case l=>k_is);(case c=>k_is);(case k=>k_is)
  have d_lines_beside:L2.Def (L2.KOf KX) mg "lines_beside" My.jj:=by
   dsimp only [L2.KOf]
   refine' L2.bA KX G ?a ?l ?c ?k
   (case a=>k_is);(case l=>k_is);(case c=>k_is);(case k=>k_is)
  have d_all_beside:L2.Def (L2.KOf KX) mg "all_beside" My.nZ:=by
   dsimp only [L2.KOf]
   refine' L2.bA KX G ?a ?l ?c ?k
   (case a=>k_is);(case l=>k_is);(case c=>k_is);(case k=>k_is)
  have d_all_over:L2.Def (L2.KOf KX) mg "all_over" My.qZ:=by
   dsimp only [L2.KOf]
   refine' L2.bA KX G ?a ?l ?c ?k
   (case a=>k_is);(case l=>k_is);(case c=>k_is);(case k=>k_is)
  have d_balanced:L2.Def (L2.KOf KX) mg "balanced" My.lJ:=by
   dsimp only [L2.KOf]
   refine' L2.bA KX G ?a ?l ?c ?k
   (case a=>k_is);(case l=>k_is);(case c=>k_is);(case k=>k_is)
  have d_law_cell_at:L2.Def (L2.KOf KX) mg "_law_cell_at" My.mJ:=by
   dsimp only [L2.KOf]
   refine' L2.bA KX G ?a ?l ?c ?k
   (case a=>k_is);(case l=>k_is);(case c=>k_is);(case k=>k_is)
  have d_law_great:L2.Def (L2.KOf KX) mg "_law_great" My.pM:=by
   dsimp only [L2.KOf]
   refine' L2.bA KX G ?a ?l ?c ?k
   (case a=>k_is);(case l=>k_is);(case c=>k_is);(case k=>k_is)
  have d_law_letter:L2.Def (L2.KOf KX) mg "_law_letter" My.n6:=by
   dsimp only [L2.KOf]
   refine' L2.bA KX G ?a ?l ?c ?k
   (case a=>k_is);(case l=>k_is);(case c=>k_is);(case k=>k_is)
  have d_law_row:L2.Def (L2.KOf KX) mg "_law_row" My.tV:=by
   dsimp only [L2.KOf]
   refine' L2.bA KX G ?a ?l ?c ?k
   (case a=>k_is);(case l=>k_is);(case c=>k_is);(case k=>k_is)
  have d_law_round:L2.Def (L2.KOf KX) mg "_law_round" My.pN:=by
   dsimp only [L2.KOf]
   refine' L2.bA KX G ?a ?l ?c ?k
   (case a=>k_is);(case l=>k_is);(case c=>k_is);(case k=>k_is)
  have d_law_lines:L2.Def (L2.KOf KX) mg "_law_lines" My.mq:=by
   dsimp only [L2.KOf]
   refine' L2.bA KX G ?a ?l ?c ?k
   (case a=>k_is);(case l=>k_is);(case c=>k_is);(case k=>k_is)
  have d_law_right:L2.Def (L2.KOf KX) mg "_law_right" My.jL:=by
   dsimp only [L2.KOf]
   refine' L2.bA KX G ?a ?l ?c ?k
   (case a=>k_is);(case l=>k_is);(case c=>k_is);(case k=>k_is)
  have d_law_ring:L2.Def (L2.KOf KX) mg "_law_ring" My.q9:=by
   dsimp only [L2.KOf]
   refine' L2.bA KX G ?a ?l ?c ?k
   (case a=>k_is);(case l=>k_is);(case c=>k_is);(case k=>k_is)
  have d_law_unlike:L2.Def (L2.KOf KX) mg "_law_unlike" My.kJ:=by
   dsimp only [L2.KOf]
   refine' L2.bA KX G ?a ?l ?c ?k
   (case a=>k_is);(case l=>k_is);(case c=>k_is);(case k=>k_is)
  have d_law_over:L2.Def (L2.KOf KX) mg "_law_over" My.rm:=by
   dsimp only [L2.KOf]
   refine' L2.bA KX G ?a ?l ?c ?k
   (case a=>k_is);(case l=>k_is);(case c=>k_is);(case k=>k_is)
  have d_law_beside:L2.Def (L2.KOf KX) mg "_law_beside" My.n8:=by
   dsimp only [L2.KOf]
   refine' L2.bA KX G ?a ?l ?c ?k
   (case a=>k_is);(case l=>k_is);(case c=>k_is);(case k=>k_is)
  have d_law_beside_right:L2.Def (L2.KOf KX) mg "_law_beside_right" My.fB:=by
   dsimp only [L2.KOf]
   refine' L2.bA KX G ?a ?l ?c ?k
   (case a=>k_is);(case l=>k_is);(case c=>k_is);(case k=>k_is)
  have d_law:L2.Def (L2.KOf KX) mg "law" My.Bc:=by
   dsimp only [L2.KOf]
   refine' L2.bA KX G ?a ?l ?c ?k
   (case a=>k_is);(case l=>k_is);(case c=>k_is);(case k=>k_is)
  have x_PaneError:L2.Hb (L2.KOf KX) mg "PaneError":=by
   dsimp only [L2.KOf]
   refine' L2.Qv KX G ?a ?b
   (case a=>k_is);(case b=>kernel_rfl)
  have x_NoRow:L2.oO (L2.KOf KX) mg "NoRow" ["found"] "NoRow.__init__" My.Fi:=by
   dsimp only [L2.KOf]
   refine' L2.ur KX G ?a ?b ?kp ?na ?i ?t ?l ?c ?k
   (case a=>k_is);(case b=>kernel_rfl);(case kp=>k_is);(case na=>kernel_rfl);(case i=>k_is);(case t=>k_is);(case l=>k_is);(case c=>k_is);(case k=>k_is)
  have x_NoPlain:L2.oO (L2.KOf KX) mg "NoPlain" ["found"] "NoPlain.__init__" My.ye:=by
   dsimp only [L2.KOf]
   refine' L2.ur KX G ?a ?b ?kp ?na ?i ?t ?l ?c ?k
   (case a=>k_is);(case b=>kernel_rfl);(case kp=>k_is);(case na=>kernel_rfl);(case i=>k_is);(case t=>k_is);(case l=>k_is);(case c=>k_is);(case k=>k_is)
  have x_NoLetter:L2.oO (L2.KOf KX) mg "NoLetter" ["found"] "NoLetter.__init__" My.v7:=by
   dsimp only [L2.KOf]
   refine' L2.ur KX G ?a ?b ?kp ?na ?i ?t ?l ?c ?k
   (case a=>k_is);(case b=>kernel_rfl);(case kp=>k_is);(case na=>kernel_rfl);(case i=>k_is);(case t=>k_is);(case l=>k_is);(case c=>k_is);(case k=>k_is)
  have x_NoPlace:L2.oO (L2.KOf KX) mg "NoPlace" ["found"] "NoPlace.__init__" My.yf:=by
   dsimp only [L2.KOf]
   refine' L2.ur KX G ?a ?b ?kp ?na ?i ?t ?l ?c ?k
   (case a=>k_is);(case b=>kernel_rfl);(case kp=>k_is);(case na=>kernel_rfl);(case i=>k_is);(case t=>k_is);(case l=>k_is);(case c=>k_is);(case k=>k_is)
  have x_NoTurning:L2.oO (L2.KOf KX) mg "NoTurning" ["found"] "NoTurning.__init__" My.ux:=by
   dsimp only [L2.KOf]
   refine' L2.ur KX G ?a ?b ?kp ?na ?i ?t ?l ?c ?k
   (case a=>k_is);(case b=>kernel_rfl);(case kp=>k_is);(case na=>kernel_rfl);(case i=>k_is);(case t=>k_is);(case l=>k_is);(case c=>k_is);(case k=>k_is)
  have x_NoPiece:L2.oO (L2.KOf KX) mg "NoPiece" ["found"] "NoPiece.__init__" My.yg:=by
   dsimp only [L2.KOf]
   refine' L2.ur KX G ?a ?b ?kp ?na ?i ?t ?l ?c ?k
   (case a=>k_is);(case b=>kernel_rfl);(case kp=>k_is);(case na=>kernel_rfl);(case i=>k_is);(case t=>k_is);(case l=>k_is);(case c=>k_is);(case k=>k_is)
  have x_Unlike:L2.oO (L2.KOf KX) mg "Unlike" ["one","other"] "Unlike.__init__" My.mY:=by
   dsimp only [L2.KOf]
   refine' L2.ur KX G ?a ?b ?kp ?na ?i ?t ?l ?c ?k
   (case a=>k_is);(case b=>kernel_rfl);(case kp=>k_is);(case na=>kernel_rfl);(case i=>k_is);(case t=>k_is);(case l=>k_is);(case c=>k_is);(case k=>k_is)
  have x_TooLong:L2.oO (L2.KOf KX) mg "TooLong" ["found"] "TooLong.__init__" My.mZ:=by
   dsimp only [L2.KOf]
   refine' L2.ur KX G ?a ?b ?kp ?na ?i ?t ?l ?c ?k
   (case a=>k_is);(case b=>kernel_rfl);(case kp=>k_is);(case na=>kernel_rfl);(case i=>k_is);(case t=>k_is);(case l=>k_is);(case c=>k_is);(case k=>k_is)
  have o_Tally:L2.jO (L2.KOf KX) mg "Tally":=by
   dsimp only [L2.KOf]
   refine' L2.uv KX G ?a ?b ?s ?m ?k
   (case a=>k_is);(case b=>kernel_rfl);(case s=>k_is);(case m=>first | k_is | kernel_rfl);(case k=>k_is)
  have n_Tally:∀ f∈(["held_ends","held_counts"]:List Str),L2.NoAttr (L2.KOf KX) (L2.aM mg "Tally") f:=by
   dsimp only [L2.KOf]
   refine' L2.uw KX G ?a ?b
   (case a=>k_is);(case b=>kernel_rfl)
  have o_Asks:L2.jO (L2.KOf KX) mg "Asks":=by
   dsimp only [L2.KOf]
   refine' L2.uv KX G ?a ?b ?s ?m ?k
   (case a=>k_is);(case b=>kernel_rfl);(case s=>k_is);(case m=>first | k_is | kernel_rfl);(case k=>k_is)
  have n_Asks:∀ f∈(["held_tally","held_many","held_far"]:List Str),L2.NoAttr (L2.KOf KX) (L2.aM mg "Asks") f:=by
   dsimp only [L2.KOf]
   refine' L2.uw KX G ?a ?b
   (case a=>k_is);(case b=>kernel_rfl)
  have o_Piece:L2.jO (L2.KOf KX) mg "Piece":=by
   dsimp only [L2.KOf]
   refine' L2.uv KX G ?a ?b ?s ?m ?k
   (case a=>k_is);(case b=>kernel_rfl);(case s=>k_is);(case m=>first | k_is | kernel_rfl);(case k=>k_is)
  have n_Piece:∀ f∈(["held_side","held_top","held_kind","held_lines","held_parts","held_height"]:List Str),L2.NoAttr (L2.KOf KX) (L2.aM mg "Piece") f:=by
   dsimp only [L2.KOf]
   refine' L2.uw KX G ?a ?b
   (case a=>k_is);(case b=>kernel_rfl)
  have o_Blank:L2.jO (L2.KOf KX) mg "Blank":=by
   dsimp only [L2.KOf]
   refine' L2.uv KX G ?a ?b ?s ?m ?k
   (case a=>k_is);(case b=>kernel_rfl);(case s=>k_is);(case m=>first | k_is | kernel_rfl);(case k=>k_is)
  have n_Blank:∀ f∈(["held_side","held_top","held_kind","held_lines","held_parts","held_height"]:List Str),L2.NoAttr (L2.KOf KX) (L2.aM mg "Blank") f:=by
   dsimp only [L2.KOf]
   refine' L2.uw KX G ?a ?b
   (case a=>k_is);(case b=>kernel_rfl)
  have o_One:L2.jO (L2.KOf KX) mg "One":=by
   dsimp only [L2.KOf]
   refine' L2.uv KX G ?a ?b ?s ?m ?k
   (case a=>k_is);(case b=>kernel_rfl);(case s=>k_is);(case m=>first | k_is | kernel_rfl);(case k=>k_is)
  have n_One:∀ f∈(["held_side","held_top","held_kind","held_lines","held_parts","held_height"]:List Str),L2.NoAttr (L2.KOf KX) (L2.aM mg "One") f:=by
   dsimp only [L2.KOf]
   refine' L2.uw KX G ?a ?b
   (case a=>k_is);(case b=>kernel_rfl)
  have o_Over:L2.jO (L2.KOf KX) mg "Over":=by
   dsimp only [L2.KOf]
   refine' L2.uv KX G ?a ?b ?s ?m ?k
   (case a=>k_is);(case b=>kernel_rfl);(case s=>k_is);(case m=>first | k_is | kernel_rfl);(case k=>k_is)
  have n_Over:∀ f∈(["held_side","held_top","held_kind","held_lines","held_parts","held_height"]:List Str),L2.NoAttr (L2.KOf KX) (L2.aM mg "Over") f:=by
   dsimp only [L2.KOf]
   refine' L2.uw KX G ?a ?b
   (case a=>k_is);(case b=>kernel_rfl)
  have o_Beside:L2.jO (L2.KOf KX) mg "Beside":=by
   dsimp only [L2.KOf]
   refine' L2.uv KX G ?a ?b ?s ?m ?k
   (case a=>k_is);(case b=>kernel_rfl);(case s=>k_is);(case m=>first | k_is | kernel_rfl);(case k=>k_is)
  have n_Beside:∀ f∈(["held_side","held_top","held_kind","held_lines","held_parts","held_height"]:List Str),L2.NoAttr (L2.KOf KX) (L2.aM mg "Beside") f:=by
   dsimp only [L2.KOf]
   refine' L2.uw KX G ?a ?b
   (case a=>k_is);(case b=>kernel_rfl)
  have o_Ring:L2.jO (L2.KOf KX) mg "Ring":=by
   dsimp only [L2.KOf]
   refine' L2.uv KX G ?a ?b ?s ?m ?k
   (case a=>k_is);(case b=>kernel_rfl);(case s=>k_is);(case m=>first | k_is | kernel_rfl);(case k=>k_is)
  have n_Ring:∀ f∈(["held_side","held_top","held_kind","held_lines","held_parts","held_height","held_row","held_asks"]:List Str),L2.NoAttr (L2.KOf KX) (L2.aM mg "Ring") f:=by
   dsimp only [L2.KOf]
   refine' L2.uw KX G ?a ?b
   (case a=>k_is);(case b=>kernel_rfl)
  have os_Piece:L2.Xe (L2.KOf KX) mg ["Blank","One","Over","Beside","Ring"]:=L2.O3 o_Blank o_One o_Over o_Beside o_Ring
  have t_Blank:L2.ITxt (L2.KOf KX) mg "Blank":=by
   dsimp only [L2.KOf]
   refine' L2.Aw KX G ?a ?b ?c ?d ?e
   (case a=>k_is);(case b=>k_is);(case c=>first | k_is | kernel_rfl);(case d=>first | k_is | kernel_rfl);(case e=>first | k_is | kernel_rfl)
  have t_One:L2.ITxt (L2.KOf KX) mg "One":=by
   dsimp only [L2.KOf]
   refine' L2.Aw KX G ?a ?b ?c ?d ?e
   (case a=>k_is);(case b=>k_is);(case c=>first | k_is | kernel_rfl);(case d=>first | k_is | kernel_rfl);(case e=>first | k_is | kernel_rfl)
  have t_Over:L2.ITxt (L2.KOf KX) mg "Over":=by
   dsimp only [L2.KOf]
   refine' L2.Aw KX G ?a ?b ?c ?d ?e
   (case a=>k_is);(case b=>k_is);(case c=>first | k_is | kernel_rfl);(case d=>first | k_is | kernel_rfl);(case e=>first | k_is | kernel_rfl)
  have t_Beside:L2.ITxt (L2.KOf KX) mg "Beside":=by
   dsimp only [L2.KOf]
   refine' L2.Aw KX G ?a ?b ?c ?d ?e
   (case a=>k_is);(case b=>k_is);(case c=>first | k_is | kernel_rfl);(case d=>first | k_is | kernel_rfl);(case e=>first | k_is | kernel_rfl)
  have t_Ring:L2.ITxt (L2.KOf KX) mg "Ring":=by
   dsimp only [L2.KOf]
   refine' L2.Aw KX G ?a ?b ?c ?d ?e
   (case a=>k_is);(case b=>k_is);(case c=>first | k_is | kernel_rfl);(case d=>first | k_is | kernel_rfl);(case e=>first | k_is | kernel_rfl)
  have u_Blank_Piece:L2.Sub (L2.KOf KX) mg "Blank" "Piece" true:=by
   dsimp only [L2.KOf]
   refine' L2.gK KX G ?a ?b ?m ?o
   (case a=>k_is);(case b=>k_is);(case m=>k_is);(case o=>kernel_rfl)
  have u_One_Piece:L2.Sub (L2.KOf KX) mg "One" "Piece" true:=by
   dsimp only [L2.KOf]
   refine' L2.gK KX G ?a ?b ?m ?o
   (case a=>k_is);(case b=>k_is);(case m=>k_is);(case o=>kernel_rfl)
  have u_Over_Piece:L2.Sub (L2.KOf KX) mg "Over" "Piece" true:=by
   dsimp only [L2.KOf]
   refine' L2.gK KX G ?a ?b ?m ?o
   (case a=>k_is);(case b=>k_is);(case m=>k_is);(case o=>kernel_rfl)
  have u_Beside_Piece:L2.Sub (L2.KOf KX) mg "Beside" "Piece" true:=by
   dsimp only [L2.KOf]
   refine' L2.gK KX G ?a ?b ?m ?o
   (case a=>k_is);(case b=>k_is);(case m=>k_is);(case o=>kernel_rfl)
  have u_Ring_Piece:L2.Sub (L2.KOf KX) mg "Ring" "Piece" true:=by
   dsimp only [L2.KOf]
   refine' L2.gK KX G ?a ?b ?m ?o
   (case a=>k_is);(case b=>k_is);(case m=>k_is);(case o=>kernel_rfl)
  have u_Ring_Blank:L2.Sub (L2.KOf KX) mg "Ring" "Blank" false:=by
   dsimp only [L2.KOf]
   refine' L2.gK KX G ?a ?b ?m ?o
   (case a=>k_is);(case b=>k_is);(case m=>k_is);(case o=>kernel_rfl)
  have u_Ring_One:L2.Sub (L2.KOf KX) mg "Ring" "One" false:=by
   dsimp only [L2.KOf]
   refine' L2.gK KX G ?a ?b ?m ?o
   (case a=>k_is);(case b=>k_is);(case m=>k_is);(case o=>kernel_rfl)
  have u_Ring_Over:L2.Sub (L2.KOf KX) mg "Ring" "Over" false:=by
   dsimp only [L2.KOf]
   refine' L2.gK KX G ?a ?b ?m ?o
   (case a=>k_is);(case b=>k_is);(case m=>k_is);(case o=>kernel_rfl)
  have u_Ring_Beside:L2.Sub (L2.KOf KX) mg "Ring" "Beside" false:=by
   dsimp only [L2.KOf]
   refine' L2.gK KX G ?a ?b ?m ?o
   (case a=>k_is);(case b=>k_is);(case m=>k_is);(case o=>kernel_rfl)
  have w_Piece_str:PySem.W.kitOne (L2.KOf KX) (.type "str") (.ref (L2.aM mg "Piece"))=some false:=by
   dsimp only [L2.KOf]
   refine' L2.lE KX G ?a ?o
   (case a=>k_is);(case o=>kernel_rfl)
  have w_Piece_int:PySem.W.kitOne (L2.KOf KX) (.type "int") (.ref (L2.aM mg "Piece"))=some false:=by
   dsimp only [L2.KOf]
   refine' L2.lE KX G ?a ?o
   (case a=>k_is);(case o=>kernel_rfl)
  have w_Piece_list:PySem.W.kitOne (L2.KOf KX) (.type "list") (.ref (L2.aM mg "Piece"))=some false:=by
   dsimp only [L2.KOf]
   refine' L2.lE KX G ?a ?o
   (case a=>k_is);(case o=>kernel_rfl)
  have w_Piece_tuple:PySem.W.kitOne (L2.KOf KX) (.type "tuple") (.ref (L2.aM mg "Piece"))=some false:=by
   dsimp only [L2.KOf]
   refine' L2.lE KX G ?a ?o
   (case a=>k_is);(case o=>kernel_rfl)
  have w_Piece_NoneType:PySem.W.kitOne (L2.KOf KX) (.type "NoneType") (.ref (L2.aM mg "Piece"))=some false:=by
   dsimp only [L2.KOf]
   refine' L2.lE KX G ?a ?o
   (case a=>k_is);(case o=>kernel_rfl)
  have w_Piece_bool:PySem.W.kitOne (L2.KOf KX) (.type "bool") (.ref (L2.aM mg "Piece"))=some false:=by
   dsimp only [L2.KOf]
   refine' L2.lE KX G ?a ?o
   (case a=>k_is);(case o=>kernel_rfl)
  have w_Piece_dict:PySem.W.kitOne (L2.KOf KX) (.type "dict") (.ref (L2.aM mg "Piece"))=some false:=by
   dsimp only [L2.KOf]
   refine' L2.lE KX G ?a ?o
   (case a=>k_is);(case o=>kernel_rfl)
  have m_Piece___init__:L2.Ez (L2.KOf KX) mg "Piece" "__init__" "Piece.__init__" My.gU:=by
   dsimp only [L2.KOf]
   refine' L2.Wv KX G ?a ?s ?r ?i ?l ?c ?k
   (case a=>k_is);(case s=>first | k_is | kernel_rfl);(case r=>kernel_rfl);(case i=>first | k_is | kernel_rfl);(case l=>k_is);(case c=>k_is);(case k=>k_is)
  have m_Piece_side:L2.lY (L2.KOf KX) mg ["Blank","One","Over","Beside","Ring"] "side" "Piece.side" My.oh:=by
   dsimp only [L2.KOf]
   refine' L2.tL KX G ?a1 ?a2 ?a3 ?a4 ?a5 ?i1 ?i2 ?i3 ?i4 ?i5 ?n ?l ?c ?k
   (case a1=>k_is);(case a2=>k_is);(case a3=>k_is);(case a4=>k_is);(case a5=>k_is);(case i1=>k_is);(case i2=>k_is);(case i3=>k_is);(case i4=>k_is);(case i5=>k_is);(case n=>first | k_is | kernel_rfl);(case l=>k_is);(case c=>k_is);(case k=>k_is)
  have m_Piece_top:L2.lY (L2.KOf KX) mg ["Blank","One","Over","Beside","Ring"] "top" "Piece.top" My.pO:=by
   dsimp only [L2.KOf]
   refine' L2.tL KX G ?a1 ?a2 ?a3 ?a4 ?a5 ?i1 ?i2 ?i3 ?i4 ?i5 ?n ?l ?c ?k
   (case a1=>k_is);(case a2=>k_is);(case a3=>k_is);(case a4=>k_is);(case a5=>k_is);(case i1=>k_is);(case i2=>k_is);(case i3=>k_is);(case i4=>k_is);(case i5=>k_is);(case n=>first | k_is | kernel_rfl);(case l=>k_is);(case c=>k_is);(case k=>k_is)
  have m_Piece_kind:L2.lY (L2.KOf KX) mg ["Blank","One","Over","Beside","Ring"] "kind" "Piece.kind" My.oA:=by
   dsimp only [L2.KOf]
   refine' L2.tL KX G ?a1 ?a2 ?a3 ?a4 ?a5 ?i1 ?i2 ?i3 ?i4 ?i5 ?n ?l ?c ?k
   (case a1=>k_is);(case a2=>k_is);(case a3=>k_is);(case a4=>k_is);(case a5=>k_is);(case i1=>k_is);(case i2=>k_is);(case i3=>k_is);(case i4=>k_is);(case i5=>k_is);(case n=>first | k_is | kernel_rfl);(case l=>k_is);(case c=>k_is);(case k=>k_is)
  have m_Piece_lines:L2.lY (L2.KOf KX) mg ["Blank","One","Over","Beside","Ring"] "lines" "Piece.lines" My.mK:=by
   dsimp only [L2.KOf]
   refine' L2.tL KX G ?a1 ?a2 ?a3 ?a4 ?a5 ?i1 ?i2 ?i3 ?i4 ?i5 ?n ?l ?c ?k
   (case a1=>k_is);(case a2=>k_is);(case a3=>k_is);(case a4=>k_is);(case a5=>k_is);(case i1=>k_is);(case i2=>k_is);(case i3=>k_is);(case i4=>k_is);(case i5=>k_is);(case n=>first | k_is | kernel_rfl);(case l=>k_is);(case c=>k_is);(case k=>k_is)
  have m_Piece_parts:L2.lY (L2.KOf KX) mg ["Blank","One","Over","Beside","Ring"] "parts" "Piece.parts" My.mL:=by
   dsimp only [L2.KOf]
   refine' L2.tL KX G ?a1 ?a2 ?a3 ?a4 ?a5 ?i1 ?i2 ?i3 ?i4 ?i5 ?n ?l ?c ?k
   (case a1=>k_is);(case a2=>k_is);(case a3=>k_is);(case a4=>k_is);(case a5=>k_is);(case i1=>k_is);(case i2=>k_is);(case i3=>k_is);(case i4=>k_is);(case i5=>k_is);(case n=>first | k_is | kernel_rfl);(case l=>k_is);(case c=>k_is);(case k=>k_is)
  have m_Piece_height:L2.lY (L2.KOf KX) mg ["Blank","One","Over","Beside","Ring"] "height" "Piece.height" My.lK:=by
   dsimp only [L2.KOf]
   refine' L2.tL KX G ?a1 ?a2 ?a3 ?a4 ?a5 ?i1 ?i2 ?i3 ?i4 ?i5 ?n ?l ?c ?k
   (case a1=>k_is);(case a2=>k_is);(case a3=>k_is);(case a4=>k_is);(case a5=>k_is);(case i1=>k_is);(case i2=>k_is);(case i3=>k_is);(case i4=>k_is);(case i5=>k_is);(case n=>first | k_is | kernel_rfl);(case l=>k_is);(case c=>k_is);(case k=>k_is)
  have m_Tally___init__:L2.qw (L2.KOf KX) mg "Tally" "__init__" "Tally.__init__" My.jt:=by
   dsimp only [L2.KOf]
   refine' L2.vR KX G ?a ?i ?n ?l ?c ?k
   (case a=>k_is);(case i=>k_is);(case n=>first | k_is | kernel_rfl);(case l=>k_is);(case c=>k_is);(case k=>k_is)
  have m_Asks___init__:L2.qw (L2.KOf KX) mg "Asks" "__init__" "Asks.__init__" My.jQ:=by
   dsimp only [L2.KOf]
   refine' L2.vR KX G ?a ?i ?n ?l ?c ?k
   (case a=>k_is);(case i=>k_is);(case n=>first | k_is | kernel_rfl);(case l=>k_is);(case c=>k_is);(case k=>k_is)
  have m_Blank___init__:L2.qw (L2.KOf KX) mg "Blank" "__init__" "Blank.__init__" My.ju:=by
   dsimp only [L2.KOf]
   refine' L2.vR KX G ?a ?i ?n ?l ?c ?k
   (case a=>k_is);(case i=>k_is);(case n=>first | k_is | kernel_rfl);(case l=>k_is);(case c=>k_is);(case k=>k_is)
  have m_One___init__:L2.qw (L2.KOf KX) mg "One" "__init__" "One.__init__" My.lM:=by
   dsimp only [L2.KOf]
   refine' L2.vR KX G ?a ?i ?n ?l ?c ?k
   (case a=>k_is);(case i=>k_is);(case n=>first | k_is | kernel_rfl);(case l=>k_is);(case c=>k_is);(case k=>k_is)
  have m_Over___init__:L2.qw (L2.KOf KX) mg "Over" "__init__" "Over.__init__" My.jR:=by
   dsimp only [L2.KOf]
   refine' L2.vR KX G ?a ?i ?n ?l ?c ?k
   (case a=>k_is);(case i=>k_is);(case n=>first | k_is | kernel_rfl);(case l=>k_is);(case c=>k_is);(case k=>k_is)
  have m_Beside___init__:L2.qw (L2.KOf KX) mg "Beside" "__init__" "Beside.__init__" My.jk:=by
   dsimp only [L2.KOf]
   refine' L2.vR KX G ?a ?i ?n ?l ?c ?k
   (case a=>k_is);(case i=>k_is);(case n=>first | k_is | kernel_rfl);(case l=>k_is);(case c=>k_is);(case k=>k_is)
  have m_Ring___init__:L2.qw (L2.KOf KX) mg "Ring" "__init__" "Ring.__init__" My.jT:=by
   dsimp only [L2.KOf]
   refine' L2.vR KX G ?a ?i ?n ?l ?c ?k
   (case a=>k_is);(case i=>k_is);(case n=>first | k_is | kernel_rfl);(case l=>k_is);(case c=>k_is);(case k=>k_is)
  have u_Unlike_PaneError:L2.Sub (L2.KOf KX) mg "Unlike" "PaneError" true:=by
   dsimp only [L2.KOf]
   refine' L2.gK KX G ?a ?b ?m ?o
   (case a=>k_is);(case b=>k_is);(case m=>k_is);(case o=>kernel_rfl)
  have u_Unlike_NoPiece:L2.Sub (L2.KOf KX) mg "Unlike" "NoPiece" false:=by
   dsimp only [L2.KOf]
   refine' L2.gK KX G ?a ?b ?m ?o
   (case a=>k_is);(case b=>k_is);(case m=>k_is);(case o=>kernel_rfl)
  have u_Unlike_Unlike:L2.Sub (L2.KOf KX) mg "Unlike" "Unlike" true:=by
   dsimp only [L2.KOf]
   refine' L2.gK KX G ?a ?b ?m ?o
   (case a=>k_is);(case b=>k_is);(case m=>k_is);(case o=>kernel_rfl)
  have u_Unlike_TooLong:L2.Sub (L2.KOf KX) mg "Unlike" "TooLong" false:=by
   dsimp only [L2.KOf]
   refine' L2.gK KX G ?a ?b ?m ?o
   (case a=>k_is);(case b=>k_is);(case m=>k_is);(case o=>kernel_rfl)
  have u_TooLong_PaneError:L2.Sub (L2.KOf KX) mg "TooLong" "PaneError" true:=by
   dsimp only [L2.KOf]
   refine' L2.gK KX G ?a ?b ?m ?o
   (case a=>k_is);(case b=>k_is);(case m=>k_is);(case o=>kernel_rfl)
  have u_TooLong_NoPiece:L2.Sub (L2.KOf KX) mg "TooLong" "NoPiece" false:=by
   dsimp only [L2.KOf]
   refine' L2.gK KX G ?a ?b ?m ?o
   (case a=>k_is);(case b=>k_is);(case m=>k_is);(case o=>kernel_rfl)
  have u_TooLong_Unlike:L2.Sub (L2.KOf KX) mg "TooLong" "Unlike" false:=by
   dsimp only [L2.KOf]
   refine' L2.gK KX G ?a ?b ?m ?o
   (case a=>k_is);(case b=>k_is);(case m=>k_is);(case o=>kernel_rfl)
  have u_TooLong_TooLong:L2.Sub (L2.KOf KX) mg "TooLong" "TooLong" true:=by
   dsimp only [L2.KOf]
   refine' L2.gK KX G ?a ?b ?m ?o
   (case a=>k_is);(case b=>k_is);(case m=>k_is);(case o=>kernel_rfl)
  exact ⟨d_law,fun base f fd F=>My.U0 ⟨b_all,b_any,b_bool,b_enumerate,b_int,b_isinstance,b_len,b_list,b_max,b_range,b_reversed,b_str,b_tuple,c_LETTERS,c_MOST_LETTERS,c_MOST_LINES,c_MOST_SIGNS,c_POINT,d_is_number,d_is_within,d_is_letter,d_is_sign,d_need_place,d_need_sign,d_is_row,d_is_plain,d_need_row,d_need_rows,d_need_plain,d_is_turning,d_need_turning,d_straight,d_opposite,d_counts,d_do_steps,d_steps_of,d_need_alike,d_laid,d_need_pieces,d_need_same,d_need_short,d_lines_over,d_lines_beside,d_all_beside,d_all_over,d_balanced,d_law_cell_at,d_law_great,d_law_letter,d_law_row,d_law_round,d_law_lines,d_law_right,d_law_ring,d_law_unlike,d_law_over,d_law_beside,d_law_beside_right,d_law,x_PaneError,x_NoRow,x_NoPlain,x_NoLetter,x_NoPlace,x_NoTurning,x_NoPiece,x_Unlike,x_TooLong,o_Tally,n_Tally,o_Asks,n_Asks,o_Piece,n_Piece,o_Blank,n_Blank,o_One,n_One,o_Over,n_Over,o_Beside,n_Beside,o_Ring,n_Ring,os_Piece,t_Blank,t_One,t_Over,t_Beside,t_Ring,u_Blank_Piece,u_One_Piece,u_Over_Piece,u_Beside_Piece,u_Ring_Piece,u_Ring_Blank,u_Ring_One,u_Ring_Over,u_Ring_Beside,w_Piece_str,w_Piece_int,w_Piece_list,w_Piece_tuple,w_Piece_NoneType,w_Piece_bool,w_Piece_dict,m_Piece___init__,m_Piece_side,m_Piece_top,m_Piece_kind,m_Piece_lines,m_Piece_parts,m_Piece_height,m_Tally___init__,m_Asks___init__,m_Blank___init__,m_One___init__,m_Over___init__,m_Beside___init__,m_Ring___init__,u_Unlike_PaneError,u_Unlike_NoPiece,u_Unlike_Unlike,u_Unlike_TooLong,u_TooLong_PaneError,u_TooLong_NoPiece,u_TooLong_Unlike,u_TooLong_TooLong⟩ F⟩
