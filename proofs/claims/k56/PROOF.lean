import PyProof.Rows.All
import Wide.All
import OpenK.AllK
import Wide.FinOn
import Lean
import PyProof.EqAt
import PyProof.EqKinds
import PyProof.TupleCall
import PyProof.ReprRoads
import KE.KSortTup
import KE.KDictList
import KE.KMinKey
import KE.KIntText
import KE.KLam
import KE.KNestM
import PySem.Challenge.RW_panethread_k56_rows_by_deeds
noncomputable section
abbrev Xj:=@PySem.wpAny_bind
abbrev Xk:=@List.getElem?_eq_getElem
abbrev Xl:=@List.getD_eq_getElem?_getD
abbrev Xm:=@PySem.Heap.get?_push_of_some
abbrev Xn:=@List.getElem?_eq_some_iff
abbrev Xo:=@PySem.wpAny_pure
abbrev Xp:=@Nat.le_refl
abbrev Xq:=@decide_eq_true
abbrev Xr:=@PySem.Heap.lt_size
abbrev Xu:=@List.length_map
abbrev Xv:=@Nat.le_trans
abbrev Xw:=@List.getElem?_map
abbrev Xx:=@Array.length_toList
abbrev Xy:=@PySem.Heap.get?_push_size
abbrev Xz:=@Bool.false_ne_true
abbrev XD:=@List.mem_cons
abbrev XF:=@decide_eq_false
abbrev XH:=@List.map_append
abbrev XJ:=@List.mem_range
abbrev XM:=@List.size_toArray
abbrev XN:=@Nat.lt_of_lt_of_le
abbrev XQ:=@Bool.and_eq_true
abbrev XR:=@List.mem_cons_of_mem
abbrev XS:=@Option.some.inj
abbrev XX:=@PyProof.Rows.callWith_type1
abbrev X3:=@List.mem_of_getElem?
abbrev X4:=@List.getElem?_range
abbrev X5:=@List.getElem?_append_right
abbrev X6:=@PySem.F.slot_list_append
abbrev X7:=@PySem.F.type_list_append
abbrev X8:=@List.getElem?_append_left
abbrev Yb:=@PySem.F.plainAttrs_list
abbrev Yc:=@List.length_append
abbrev Yd:=@List.getElem?_set_ne
abbrev Ye:=@List.length_drop
abbrev Yg:=@List.lookup_cons
abbrev Yh:=@Nat.ne_of_lt
abbrev Yi:=@List.length_take
abbrev Yj:=@List.mem_nil_iff
abbrev Yk:=@List.map_cons
abbrev Yl:=@PySem.Heap.get?_update_other
abbrev Ym:=@List.take_of_length_le
abbrev Yn:=@List.mem_singleton
abbrev Yo:=@List.drop_eq_nil_of_le
abbrev Yp:=@PySem.W.mg_none_of
abbrev Yq:=@PySem.wpAny_holding
abbrev Yr:=@List.mem_map
abbrev Ys:=@Nat.add_le_add
abbrev Yt:=@List.mem_cons_self
abbrev Yu:=@List.length_cons
abbrev Yv:=@PySem.wpAny_Call_Name_kw
abbrev Yw:=@List.getElem?_set_self
abbrev Yx:=@PySem.mem_of_lookup
abbrev Yy:=@Int.toNat_of_nonneg
abbrev Yz:=@List.mem_append
abbrev YB:=@PySem.PassesOwn.never
abbrev YC:=@List.mem_append_right
abbrev YD:=@List.all_cons
abbrev YF:=@List.replicate_succ
abbrev YG:=@List.append_nil
abbrev YH:=@List.getElem_mem
abbrev YJ:=@List.append_assoc
abbrev YK:=@Nat.zero_le
abbrev YL:=@PySem.wpAny_field
abbrev YM:=@PySem.Heap.get?_update_self
abbrev YQ:=@List.getElem?_eq_none
abbrev YS:=@PySem.wpAny_mono
abbrev YT:=@PySem.Heap.size_push
abbrev YW:=@PySem.W.kia_one
abbrev YX:=@List.range_succ
abbrev YZ:=@Nat.lt_irrefl
abbrev Y0:=@List.take_length
abbrev Y4:=@List.flatten_cons
abbrev Y5:=@PySem.wpAny_callSpecial?_slot
abbrev Y6:=@List.length_eq_zero_iff
abbrev Y7:=@PySem.wpAny_truthy_bool
abbrev Y8:=@PySem.wpAny_newObj_type
abbrev Y9:=@PySem.wpAny_loadPart_at
abbrev Za:=@Nat.le_of_eq
abbrev Zb:=@List.length_nil
abbrev Zc:=@PySem.W.looks_findIn
abbrev Zd:=@Nat.ne_of_gt
abbrev Ze:=@PySem.wpAny_seqItems
abbrev Zf:=@List.take_add_one
abbrev Zg:=@PyProof.Rows.slot_tuple_getitem
abbrev Zh:=@beq_iff_eq
abbrev Zi:=@List.all_eq_true
abbrev Zj:=@List.contains_cons
abbrev Zk:=@Int.emod_lt_of_pos
abbrev Zm:=@List.mem_of_mem_take
abbrev Zn:=@Nat.add_sub_cancel_left
abbrev Zo:=@Nat.not_lt_zero
abbrev Zq:=@beq_eq_false_iff_ne
abbrev Zr:=@PySem.W.mg_of
abbrev Zt:=@PySem.wpAny_call_entry
abbrev Zu:=@PySem.F.plain_max_loop
abbrev Zv:=@List.range_add
abbrev Zw:=@List.Perm.append_left
abbrev Zx:=@PySem.wpAny_passesOwn
abbrev Zy:=@Int.emod_nonneg
abbrev Zz:=@List.mem_append_left
abbrev ZC:=@Nat.le_of_succ_le
abbrev ZD:=@List.length_range
abbrev ZF:=@List.getElem?_take_of_lt
abbrev ZG:=@PySem.wpAny_isSubtype_exc
abbrev ZJ:=@PySem.wpAny_getItem_str_slice
abbrev ZK:=@List.nodup_range
abbrev ZL:=@List.take_append_of_le_length
abbrev ZM:=@List.drop_append_of_le_length
abbrev ZP:=@PySem.W.callWith_K
abbrev ZQ:=@Bool.false_eq_true
abbrev ZR:=@PySem.wpAny_setField_rec
abbrev ZS:=@Option.map_eq_some_iff
abbrev ZV:=@List.find?_cons
abbrev ZW:=@PySem.wpAny_standAt
abbrev ZX:=@PySem.wpAny_pyIter_enum
abbrev ZZ:=@List.ext_getElem?
abbrev Z0:=@of_decide_eq_true
abbrev Z1:=@PySem.wpAny_loadPart
abbrev Z2:=@PySem.wpAny_call
abbrev Z3:=@List.mem_iff_getElem
abbrev Z4:=@PySem.wpAny_pyIter_revIter
abbrev Z5:=@PySem.codeAny_call_builtin
abbrev Z6:=@Bool.or_eq_false_iff
abbrev Z7:=@List.mem_of_mem_drop
abbrev Z8:=@Nat.lt_succ_self
abbrev Z9:=@Nat.le_add_right
abbrev gV:=@Nat.min_eq_right
abbrev Aaa:=@List.drop_append
abbrev Aab:=@PySem.wpAny_attempt
local macro_rules | `(tactic| trivial) => `(tactic| decide +kernel)
set_option compiler.extract_closed false
set_option Elab.async false
set_option linter.all false
set_option maxRecDepth 100000
namespace L2
@[elab_as_elim] theorem nY {p:List PySem.Value->Prop} (h:∀ a0:PySem.Value,p [a0]) (us:List PySem.Value) (hl:us.length=1):p us:=by
 rcases us with _ | ⟨a0,us0⟩
 ·cases hl
 rcases us0 with _ | ⟨b,us⟩
 ·exact h a0
 ·cases hl
@[elab_as_elim] theorem nP {p:List PySem.Value->Prop} (h:∀ a0 a1:PySem.Value,p [a0,a1]) (us:List PySem.Value) (hl:us.length=2):p us:=by
 rcases us with _ | ⟨a0,us0⟩
 ·cases hl
 rcases us0 with _ | ⟨a1,us1⟩
 ·cases hl
 rcases us1 with _ | ⟨b,us⟩
 ·exact h a0 a1
 ·cases hl
@[elab_as_elim] theorem pZ {p:List PySem.Value->Prop} (h:∀ a0 a1 a2:PySem.Value,p [a0,a1,a2]) (us:List PySem.Value) (hl:us.length=3):p us:=by
 rcases us with _ | ⟨a0,us0⟩
 ·cases hl
 rcases us0 with _ | ⟨a1,us1⟩
 ·cases hl
 rcases us1 with _ | ⟨a2,us2⟩
 ·cases hl
 rcases us2 with _ | ⟨b,us⟩
 ·exact h a0 a1 a2
 ·cases hl
@[elab_as_elim] theorem yg {p:List PySem.Value->Prop} (h:∀ a0 a1 a2 a3:PySem.Value,p [a0,a1,a2,a3]) (us:List PySem.Value) (hl:us.length=4):p us:=by
 rcases us with _ | ⟨a0,us0⟩
 ·cases hl
 rcases us0 with _ | ⟨a1,us1⟩
 ·cases hl
 rcases us1 with _ | ⟨a2,us2⟩
 ·cases hl
 rcases us2 with _ | ⟨a3,us3⟩
 ·cases hl
 rcases us3 with _ | ⟨b,us⟩
 ·exact h a0 a1 a2 a3
 ·cases hl
theorem auto1 (h:True:=by first | exact .inl rfl | exact .inr rfl | assumption):True:=h
theorem auto2 (h:True:=by decide):True:=h
theorem auto3 (h:True:=by intro _;rfl):True:=h
theorem auto4 (h:True:=by rfl):True:=h
theorem auto5 (h:True:=by with_unfolding_all rfl):True:=h
theorem auto6 (h:True:=by trivial):True:=h
theorem auto7 (h:True:=by kernel_rfl):True:=h
open PySem PySem.Spec PyProof.Rows
abbrev Key:=Sum Int Str
def xj:Key->Value->Bool
 | .inl k,v=>Value.isInt k v
 | .inr x,v=>Value.isStrOf x v
def keyH (w:World):Key->Int
 | .inl k=>hashInt k
 | .inr x=>hashStr w x
theorem d8:∀ {k:Key} {v:Value},xj k v=true->(∃ i t,k=Sum.inl i/\v=Value.int i t)\/(∃ x t,k=Sum.inr x/\v=Value.str x t)
 | .inl i,v,h=>by
  obtain ⟨t,e⟩:=Value.isInt_shape (k:=i) (v:=v) h
  exact .inl ⟨i,t,rfl,e⟩
 | .inr x,v,h=>by
  obtain ⟨t,e⟩:=Value.isStrOf_shape (x:=x) (v:=v) h
  exact .inr ⟨x,t,rfl,e⟩
theorem Fp (i:Int) (t:Tok):xj (.inl i) (.int i t)=true:=by simp [xj,Value.isInt]
theorem Fq (x:Str) (t:Tok):xj (.inr x) (.str x t)=true:=by simp [xj,Value.isStrOf]
theorem QX (a b:Int):decide ((Sum.inl a:Key)=Sum.inl b)=(a == b):=by
 by_cases e:a=b
 ·subst e;simp
 ·have h:¬ (Sum.inl a:Key)=Sum.inl b:=fun q=>e (Sum.inl.inj q)
  rw [XF h]
  exact (Zq.mpr e).symm
theorem QZ (a b:Str):decide ((Sum.inr a:Key)=Sum.inr b)=decide (a=b):=by
 by_cases e:a=b
 ·subst e;simp
 ·have h:¬ (Sum.inr a:Key)=Sum.inr b:=fun q=>e (Sum.inr.inj q)
  rw [XF h,XF e]
theorem Q0 (a:Int) (b:Str):decide ((Sum.inl a:Key)=Sum.inr b)=false:=XF (fun q=>nomatch q)
theorem Q3 (a:Str) (b:Int):decide ((Sum.inr a:Key)=Sum.inl b)=false:=XF (fun q=>nomatch q)
def cX (prog:Program) (w:World):PySem.KeyKind prog w Key where
 is:=xj
 hash:=keyH w
 inj:=fun v a b ha hb=>by
  rcases d8 ha with ⟨i,t,rfl,rfl⟩ | ⟨x,t,rfl,rfl⟩
  ·rcases d8 hb with ⟨j,u,rfl,e⟩ | ⟨y,u,rfl,e⟩
   ·injection e with e1 _;rw [e1]
   ·exact nomatch e
  ·rcases d8 hb with ⟨j,u,rfl,e⟩ | ⟨y,u,rfl,e⟩
   ·exact nomatch e
   ·injection e with e1 _;rw [e1]
 byValue:=fun k v h=>by
  rcases d8 h with ⟨i,t,rfl,rfl⟩ | ⟨x,t,rfl,rfl⟩ <;> rfl
 pyHash:=fun hv h=>by
  rcases d8 hv with ⟨i,t,rfl,rfl⟩ | ⟨x,t,rfl,rfl⟩
  ·exact wpAny_pyHash_int h
  ·exact wpAny_pyHash_str h
 eqBool:=fun hu hv h=>by
  rcases d8 hu with ⟨i,t,rfl,rfl⟩ | ⟨x,t,rfl,rfl⟩
  ·rcases d8 hv with ⟨j,u,rfl,rfl⟩ | ⟨y,u,rfl,rfl⟩
   ·rw [QX] at h;exact wpAny_eqBool_int h
   ·rw [Q0] at h;exact SeqAt.EqAt.int_str i t y u _ _ _ _ h
  ·rcases d8 hv with ⟨j,u,rfl,rfl⟩ | ⟨y,u,rfl,rfl⟩
   ·rw [Q3] at h;exact SeqAt.EqAt.str_int x t j u _ _ _ _ h
   ·rw [QZ] at h;exact wpAny_eqBool_str h
 «strs»:=fun k x t v h=>by
  rcases d8 h with ⟨i,u,rfl,e⟩ | ⟨y,u,rfl,e⟩
  ·exact nomatch e
  ·injection e with e1 _
   subst e1
   cases v <;> rfl
theorem zA (prog:Program) (w:World) (i:Int) (t:Tok):(cX prog w).is (.inl i) (.int i t)=true:=Fp i t
theorem zB (prog:Program) (w:World) (x:Str) (t:Tok):(cX prog w).is (.inr x) (.str x t)=true:=Fq x t
end L2
namespace L2
open PySem PySem.Spec PyProof.Rows
inductive V where
 | non | bl (b:Bool) | int (i:Int) | str (x:Str) | byt (b:Array UInt8) | flt (b:UInt64) | ref (a:Addr) | ty (n:String)
 deriving DecidableEq
def RelV:V->Value->Prop
 | .non,u=>u=Value.none
 | .bl b,u=>u=Value.bool b
 | .int i,u=>∃ t,u=Value.int i t
 | .str x,u=>∃ t,u=Value.str x t
 | .byt b,u=>∃ t,u=Value.bytes b t
 | .flt b,u=>∃ t,u=Value.float b t
 | .ref a,u=>u=Value.ref a
 | .ty n,u=>u=Value.type n
abbrev Vals:List V->List Value->Prop:=Paired RelV
theorem Vals.length {xs:List V} {us:List Value} (r:Vals xs us):xs.length=us.length:=Paired.length r
theorem Vals.get:∀ {xs:List V} {us:List Value} {i:Nat} {x:V},Vals xs us->xs[i]?=some x->∃ u,us[i]?=some u/\RelV x u
 | _,_,_,_,.nil,e=>by simp at e
 | _,_,0,_,.cons r _,e=>by simp at e;subst e;exact ⟨_,rfl,r⟩
 | _,_,i+1,x,.cons _ t,e=>by
  obtain ⟨u,h1,h2⟩:=Vals.get (i:=i) (x:=x) t (by simpa using e)
  exact ⟨u,by simpa using h1,h2⟩
theorem Vals.set {x:V} {u:Value} (r:RelV x u):∀ {xs:List V} {us:List Value} (i:Nat),Vals xs us->Vals (xs.set i x) (us.set i u)
 | _,_,_,.nil=>.nil
 | _,_,0,.cons _ t=>.cons r t
 | _,_,i+1,.cons q t=>.cons q (Vals.set r i t)
theorem Vals.append:∀ {xs ys:List V} {us ws:List Value},Vals xs us->Vals ys ws->Vals (xs ++ ys) (us ++ ws)
 | _,_,_,_,.nil,s=>s
 | _,_,_,_,.cons r t,s=>.cons r (Vals.append t s)
theorem Vals.take:∀ {xs:List V} {us:List Value} (n:Nat),Vals xs us->Vals (xs.take n) (us.take n)
 | _,_,0,_=>.nil
 | _,_,_+1,.nil=>.nil
 | _,_,n+1,.cons r t=>.cons r (Vals.take n t)
theorem Vals.drop:∀ {xs:List V} {us:List Value} (n:Nat),Vals xs us->Vals (xs.drop n) (us.drop n)
 | _,_,0,r=>r
 | _,_,_+1,.nil=>.nil
 | _,_,n+1,.cons _ t=>Vals.drop n t
def RelO:Option V->Option Value->Prop
 | some v,some u=>RelV v u
 | none,none=>True
 | _,_=>False
def KV {κ:Type}:List (κ×V)->List (κ×Value)->Prop:=Paired fun (p:κ×V) (q:κ×Value)=>p.1=q.1/\RelV p.2 q.2
def kV:Key->V
 | .inl i=>.int i
 | .inr x=>.str x
inductive HO where
 /-- a list -/
 | lst (xs:List V)
 /-- a tuple (never changes) -/
 | tup (xs:List V)
 /-- a dict whose keys are ints and texts;one whose keys are tuples of ints and texts (the empty one is both) -/
 | dK (kvs:List (Key×V)) | dT (kvs:List (List Key×V))
 /-- a set of ints:its members,its size -/
 | set (S:Int->Bool) (n:Nat)
 /-- an instance of the class at C,its dict at dx,its attributes -/
 | ins (C dx:Addr) (fs:List (Str×V))
 /-- the dict of the instance at x -/
 | own (x:Addr)
 /-- the dict of an exception -/
 | xd (fs:List (Str×V))
 /-- a bound method,f of x -/
 | met (f x:Addr)
 /-- a range object lo,lo+1,.. below hi -/
 | rng (lo hi:Int)
 /-- a thing that is known to the object (the script;a dict while a loop walks it):read,never written while it is so -/
 | frz (o:Obj) (u:HO)
 /-- a code object's table -/
 | tbl (ps:Array Value)
 /-- any other thing,by what is true of its one object (a def of one's own:SetO a S n:=HO.ext fun h=>..) -/
 | ext (φ:Heap->Prop)
abbrev Hp:=Addr->Option HO
def upd (H:Hp) (a:Addr) (o:HO):Hp:=fun b=>if b=a then some o else H b
theorem aj {H:Hp} {a:Addr} {o:HO}:upd H a o a=some o:=by unfold upd;rw [if_pos rfl]
theorem aC {H:Hp} {a b:Addr} {o:HO} (h:b≠a):upd H a o b=H b:=by unfold upd;rw [if_neg h]
theorem Mf {H:Hp} {a:Addr} {o u:HO}:upd (upd H a o) a u=upd H a u:=by
 funext b;unfold upd;split <;> rfl
theorem Va {H:Hp} {a b:Addr} {o u:HO} (h:H a=some o) (h':H b=some u) (d:o≠u):a≠b:=by
 intro e;subst e;rw [h] at h';exact d (XS h')
theorem jR {H:Hp} {a b:Addr} {o:HO} (h:H a=some o) (h':H b=none):a≠b:=by
 intro e;subst e;rw [h] at h';cases h'
section
variable (P:Program) (w:World)
def ObjOk (H:Hp) (h:Heap) (a:Addr):HO->Prop
 | .lst xs=>xs.length<=sizeLine/\∃ (its:List Value) (n:Nat),Vals xs its/\h.get? a=some {cls:=.type "list",data:=.seq its.toArray n}
 | .tup xs=>xs.length<=sizeLine/\∃ its:List Value,Vals xs its/\IsTup h a its.toArray
 | .dK kvs=>kvs.length<=sizeLine/\(a == sysModules)=false/\∃ vs,KV kvs vs/\h.DictOf (cX P w) a vs
 | .dT kvs=>kvs.length<=sizeLine/\(a == sysModules)=false/\∃ xs:List (List Key×Addr×Value),
   Paired (fun (p:List Key×V) (q:List Key×Addr×Value)=>p.1=q.1/\H q.2.1=some (.tup (p.1.map kV))/\RelV p.2 q.2.2) kvs xs/\
   ∃ o es ep,h.get? a=some o/\o.ExactDict/\o.data= .dict es ep/\es.toList=xs.map (entryOfKey (tupleKind (cX P w)))/\(xs.map (·.1)).Nodup
 | .set S n=>h.SetOf (intKind P w) a S n
 | .ins C dx fs=>H dx=some (.own a)/\fs.length<=1000/\dx≠a/\h.get? a=some (PySem.W.instObj C dx)/\
   ∃ mA,h.Ns1 dx mA/\(∀ f,RelO (fs.lookup f) (mA f))/\PySem.Within mA (fs.map (·.1))
 | .own _=>∃ o,h.get? a=some o
 | .xd fs=>∃ mA,h.Ns1 a mA/\∀ f,RelO (fs.lookup f) (mA f)
 | .rng lo hi=>∃ t u v,h.get? a=some {cls:=.type "range",data:=.fields #[.int lo t,.int hi u,.int 1 v]}
 | .frz o u=>h.get? a=some o/\ObjOk H h a u
 | .tbl ps=>h.get? a=some {cls:=.none,data:=.fields ps}
 | .met f x=>h.get? a=some (PySem.W.methodObj (.ref f) (.ref x))
 | .ext φ=>φ h/\(∃ o,h.get? a=some o)/\∀ h1 h2:Heap,φ h1->(∀ o,h1.get? a=some o->h2.get? a=some o)->φ h2
def HOk (H:Hp) (h:Heap):Prop:=∀ a o,H a=some o->ObjOk P w H h a o
end
section
variable {P:Program} {w:World} {H H':Hp} {h h':Heap} {a:Addr} {o:HO}
theorem ObjOk.lt (x:ObjOk P w H h a o):a < h.objs.size:=by
 cases o with
 | lst xs=>obtain ⟨_,_,_,_,e⟩:=x;exact Xr e
 | tup xs=>obtain ⟨_,_,_,p⟩:=x;exact p.lt
 | dK kvs=>obtain ⟨_,_,_,_,o,_,_,e,_⟩:=x;exact Xr e
 | dT kvs=>obtain ⟨_,_,_,_,o,_,_,e,_⟩:=x;exact Xr e
 | set S n=>obtain ⟨o,_,_,_,e,_⟩:=x;exact Xr e
 | ins C dx fs=>obtain ⟨_,_,_,e,_⟩:=x;exact Xr e
 | own y=>obtain ⟨_,e⟩:=x;exact Xr e
 | xd fs=>obtain ⟨_,⟨_,_,_,e,_⟩,_⟩:=x;exact Xr e
 | rng lo hi=>obtain ⟨_,_,_,e⟩:=x;exact Xr e
 | frz ob u=>obtain ⟨e,_⟩:=x;exact Xr e
 | tbl ps=>exact Xr (show h.get? a=some _ from x)
 | met f y=>exact Xr (show h.get? a=some _ from x)
 | ext φ=>obtain ⟨_,⟨_,e⟩,_⟩:=x;exact Xr e
theorem Paired.mapP {α β:Type} {F G:α->β->Prop}:∀ {l₁:List α} {l₂:List β},Paired F l₁ l₂->(∀ a b,F a b->G a b)->Paired G l₁ l₂
 | _,_,.nil,_=>.nil
 | _,_,.cons r t,f=>.cons (f _ _ r) (Paired.mapP t f)
theorem ObjOk.stay (x:ObjOk P w H h a o) (k:∀ b u,(b=a\/H b=some (.own a))->h.get? b=some u->h'.get? b=some u)
  (ho:∀ b,H b=some (.own a)->H' b=some (.own a)) (ht:∀ b xs,H b=some (.tup xs)->H' b=some (.tup xs)):ObjOk P w H' h' a o:=by
 induction o with
 | lst xs=>obtain ⟨z,its,n,r,e⟩:=x;exact ⟨z,its,n,r,k _ _ (.inl rfl) e⟩
 | tup xs=>obtain ⟨z,its,r,ob,e,c⟩:=x;exact ⟨z,its,r,ob,k _ _ (.inl rfl) e,c⟩
 | dK kvs=>obtain ⟨z,y,vs,r,ob,es,ep,e,c⟩:=x;exact ⟨z,y,vs,r,ob,es,ep,k _ _ (.inl rfl) e,c⟩
 | dT kvs=>
  obtain ⟨z,y,xs,r,ob,es,ep,e,c⟩:=x
  exact ⟨z,y,xs,Paired.mapP r fun p q z=>⟨z.1,ht _ _ z.2.1,z.2.2⟩,ob,es,ep,k _ _ (.inl rfl) e,c⟩
 | set S n=>obtain ⟨ob,es,ep,t,e,c⟩:=x;exact ⟨ob,es,ep,t,k _ _ (.inl rfl) e,c⟩
 | ins C dx fs=>
  obtain ⟨d,z,ne,e,mA,⟨od,es,ep,e2,c⟩,r⟩:=x
  exact ⟨ho _ d,z,ne,k _ _ (.inl rfl) e,mA,⟨od,es,ep,k _ _ (.inr d) e2,c⟩,r⟩
 | own y=>obtain ⟨ob,e⟩:=x;exact ⟨ob,k _ _ (.inl rfl) e⟩
 | xd fs=>obtain ⟨mA,⟨od,es,ep,e,c⟩,r⟩:=x;exact ⟨mA,⟨od,es,ep,k _ _ (.inl rfl) e,c⟩,r⟩
 | rng lo hi=>obtain ⟨t,u,v,e⟩:=x;exact ⟨t,u,v,k _ _ (.inl rfl) e⟩
 | frz ob u ih=>obtain ⟨e,q⟩:=x;exact ⟨k _ _ (.inl rfl) e,ih q⟩
 | tbl ps=>
  have e:h.get? a=some {cls:=.none,data:=.fields ps}:=x
  show h'.get? a=some {cls:=.none,data:=.fields ps}
  exact k a _ (.inl rfl) e
 | met f y=>
  have e:h.get? a=some (PySem.W.methodObj (.ref f) (.ref y)):=x
  show h'.get? a=some (PySem.W.methodObj (.ref f) (.ref y))
  exact k a _ (.inl rfl) e
 | ext φ=>obtain ⟨p,⟨o,e⟩,st⟩:=x;exact ⟨st _ _ p fun o q=>k _ _ (.inl rfl) q,⟨o,k _ _ (.inl rfl) e⟩,st⟩
theorem HOk.lt (x:HOk P w H h) (e:H a=some o):a < h.objs.size:=(x a o e).lt
theorem HOk.fresh (x:HOk P w H h) (e:h.objs.size<=a):H a=none:=by
 cases q:H a with
 | none=>rfl
 | some u=>exact absurd (XN (x.lt q) e) (YZ _)
theorem HOk.kept (x:HOk P w H h) (k:∀ b u,h.get? b=some u->h'.get? b=some u):HOk P w H h':=fun a o e=>
 (x a o e).stay (fun b u _ q=>k b u q) (fun _ q=>q) fun _ _ q=>q
theorem HOk.laid (x:HOk P w H h) (k:∀ b u,h.get? b=some u->h'.get? b=some u) (hp:h.objs.size<=a) (new:ObjOk P w (upd H a o) h' a o):HOk P w (upd H a o) h':=fun b u e=>by
 have hn:=x.fresh hp
 by_cases hb:b=a
 ·subst hb;rw [aj] at e;cases e;exact new
 ·rw [aC hb] at e
  exact (x b u e).stay (fun c v _ q=>k c v q) (fun c q=>by rw [aC (jR q hn)];exact q) fun c xs q=>by rw [aC (jR q hn)];exact q
end
def Rd (H:Hp) (a:Addr) (u:HO):Prop:=H a=some u\/∃ o,H a=some (.frz o u)
theorem Rd.ok {P:Program} {w:World} {H:Hp} {h:Heap} {a:Addr} {u:HO} (r:Rd H a u) (x:HOk P w H h):ObjOk P w H h a u:=by
 rcases r with r | ⟨o,r⟩
 ·exact x a u r
 ·obtain ⟨_,q⟩:=x a _ r
  exact q
def Vb:Option HO->Prop
 | some (.lst _)=>True
 | some (.dK _)=>True
 | some (.dT _)=>True
 | some (.set _ _)=>True
 | some (.ins _ _ _)=>True
 | some (.ext _)=>True
 | _=>False
section
variable {P:Program} {w:World} {H:Hp} {h h':Heap} {x e:Addr} {o':HO}
theorem HOk.write (ok:HOk P w H h) (mu:Vb (H x)) (he:e=x\/H e=some (.own x)) (k:∀ b u,b≠e->h.get? b=some u->h'.get? b=some u) (heo:∃ u,h'.get? e=some u)
  (new:ObjOk P w (upd H x o') h' x o'):HOk P w (upd H x o') h':=fun b u q=>by
 have nown:∀ c y,H c=some (.own y)->c≠x:=fun c y r z=>by subst z;rw [r] at mu;exact mu
 have ntup:∀ c xs,H c=some (.tup xs)->c≠x:=fun c xs r z=>by subst z;rw [r] at mu;exact mu
 by_cases hb:b=x
 ·subst hb;rw [aj] at q;cases q;exact new
 ·rw [aC hb] at q
  by_cases hbe:b=e
  ·have q':H b=some (.own x):=by
    rcases he with z | z
    ·exact absurd (hbe.trans z) hb
    ·rw [hbe];exact z
   rw [q] at q';cases q'
   obtain ⟨v,hv⟩:=heo
   exact ⟨v,by rw [hbe];exact hv⟩
  ·refine (ok b u q).stay (fun c v hc r=>k c v ?_ r) (fun c r=>by rw [aC (nown c b r)];exact r) fun c xs r=>by rw [aC (ntup c xs r)];exact r
   rcases hc with rfl | hc
   ·exact hbe
   ·rintro rfl
    rcases he with z | z
    ·exact nown c b hc z
    ·rw [hc] at z;cases z;exact hb rfl
end
structure Un (fs ex:List Addr) (H H':Hp) (h h':Heap):Prop where
 keep:∀ b o,h.get? b=some o->H b=none->b ∉ fs->b ∉ ex->h'.get? b=some o
 slot:∀ b o,h.get? b=some o->H b=none->b∈fs->b ∉ ex->∃ sl,h'.get? b=some {o with slots:=sl}
 free:∀ b o,h.get? b=some o->H b=none->b ∉ ex->H' b=none
 there:∀ b o,h.get? b=some o->b ∉ ex->∃ o',h'.get? b=some o'
 tups:∀ b xs,H b=some (.tup xs)->H' b=some (.tup xs)
 frzs:∀ b o u,H b=some (.frz o u)->H' b=some (.frz o u)
 tbls:∀ b ps,H b=some (.tbl ps)->∃ more,H' b=some (.tbl (ps ++ more))
section
variable {fs fs' ex ex':List Addr} {H H1 H2:Hp} {h h1 h2 h':Heap} {a x e:Addr} {o:HO}
theorem Un.any (u:Un fs ex H H1 h h1) {b:Addr} {ob:Obj} (q:h.get? b=some ob) (n:H b=none) (hx:b ∉ ex):∃ sl,h1.get? b=some {ob with slots:=sl}:=by
 by_cases hb:b∈fs
 ·exact u.slot b ob q n hb hx
 ·exact ⟨ob.slots,u.keep b ob q n hb hx⟩
theorem Un.kept (k:∀ b u,h.get? b=some u->h'.get? b=some u):Un fs ex H H h h':=
 ⟨fun b ob q _ _ _=>k b ob q,fun b ob q _ _ _=>⟨ob.slots,k b ob q⟩,fun _ _ _ n _=>n,fun b ob q _=>⟨ob,k b ob q⟩,fun _ _ q=>q,fun _ _ _ q=>q,fun _ ps q=>⟨#[],by rw [q];simp⟩⟩
theorem Un.refl:Un fs ex H H h h:=Un.kept fun _ _ q=>q
theorem Un.laid (k:∀ b u,h.get? b=some u->h'.get? b=some u) (hp:h.objs.size<=a) (hn:H a=none):Un fs ex H (upd H a o) h h' where
 keep:=fun b u q _ _ _=>k b u q
 slot:=fun b u q _ _ _=>⟨u.slots,k b u q⟩
 free:=fun b u q n _=>by rw [aC (Yh (XN (Xr q) hp))];exact n
 there:=fun b u q _=>⟨u,k b u q⟩
 tups:=fun b xs q=>by rw [aC (jR q hn)];exact q
 frzs:=fun b u xs q=>by rw [aC (jR q hn)];exact q
 tbls:=fun b ps q=>⟨#[],by rw [aC (jR q hn),q];simp⟩
theorem Un.write (mu:Vb (H x)) (he:e=x\/H e=some (.own x)) (k:∀ b u,b≠e->h.get? b=some u->h'.get? b=some u) (heo:∃ u,h'.get? e=some u):Un fs ex H (upd H x o) h h':=by
 have hx:∀ b,H b=none->b≠x:=fun b n z=>by subst z;rw [n] at mu;exact mu
 have hb:∀ b,H b=none->b≠e:=fun b n z=>by
  subst z
  rcases he with r | r
  ·exact hx b n r
  ·rw [n] at r;cases r
 have hm:∀ b u,H b=some u->¬ Vb (some u)->b≠x:=fun b u q nm z=>by subst z;rw [q] at mu;exact nm mu
 refine ⟨fun b u q n _ _=>k b u (hb b n) q,fun b u q n _ _=>⟨u.slots,k b u (hb b n) q⟩,fun b u q n _=>by rw [aC (hx b n)];exact n,fun b u q _=>?_,
  fun b xs q=>by rw [aC (hm b _ q fun z=>z)];exact q,fun b u xs q=>by rw [aC (hm b _ q fun z=>z)];exact q,fun b ps q=>⟨#[],by rw [aC (hm b _ q fun z=>z),q];simp⟩⟩
 by_cases hbe:b=e
 ·subst hbe;exact heo
 ·exact ⟨u,k b u hbe q⟩
end
def Q4 (h:Heap) (H:Hp):List Addr:=(List.range h.objs.size).filter fun a=>(H a).isSome
def yh (h:Heap) (H:Hp):Heap:=PySem.W.hideAll h (Q4 h H)
theorem Ft (h:Heap) (H:Hp):(yh h H).objs.size=h.objs.size:=PySem.W.hideAll_size _ _
theorem Ht {h:Heap} {H:Hp} {b:Addr} {o:Obj} (e:h.get? b=some o) (n:H b=none):(yh h H).get? b=some o:=
 PySem.W.hideAll_get _ e fun hm=>by
  have q:(H b).isSome=true:=(List.mem_filter.mp hm).2
  rw [n] at q;simp at q
theorem Mg {h:Heap} {H:Hp} {b:Addr} {o:Obj} (e:(yh h H).get? b=some o):h.get? b=some o/\H b=none:=by
 have e':h.get? b=some o:=PySem.W.of_hideAll (Q4 h H) e
 refine ⟨e',?_⟩
 cases q:H b with
 | none=>rfl
 | some x=>
  have hm:b∈Q4 h H:=List.mem_filter.mpr ⟨XJ.mpr (Xr e'),by simp [q]⟩
  have z:(yh h H).get? b=none:=PySem.W.hideAll_none (Q4 h H) hm
  rw [z] at e;cases e
structure Mod (K:W.Frag) (mg:Str->Option Value) (base:Heap):Prop where
 kin:K.In base
 glob:base.Ns mainGlobals mg
 blt:∃ mb,base.Ns builtinsNs mb/\∀ x:Str,x≠"__name__"->mb x=bootBuiltins x
 nolimit:base.NoLimit
 sysm:∃ mm,base.Ns sysModules mm
 bmn:∃ bm ob,mg "__builtins__"=some (.ref bm)/\bm≠builtinsNs/\base.get? bm=some ob/\ob.cls= .type "module"/\ob.dict=some builtinsNs/\ob.data= .plain
structure Cx where
 prog:Program
 w:World
 K:W.Frag
 mg:Str->Option Value
 base:Heap
 A:Around
 N:List Str
 s₀:Shared
 H₀:Hp
 env:Env
 outer:List Env
 stack:List Env
 ex:List Addr
 fn:Str->Bool
 calm:Bool
 pn:List (Addr×Obj)
 xe:Value->Shared->Prop
def frs (l:List Env):List Addr:=l.filterMap (·.frame)
abbrev Cx.fs (X:Cx):List Addr:=frs X.outer
def Vc (sc:Scope) (x:Str):Prop:=sc.names.lookup x=some .local\/sc.names.lookup x=some .cell\/sc.names.lookup x=some .free
def Loc (sc:Scope) (x:Str):Prop:=sc.names.lookup x=some .local\/sc.names.lookup x=some .cell
def Look (env:Env) (h:Heap) (m:Str->Option Value) (x:Str) (u:Value):Prop:=
 (env.kindOf x=some .local/\m x=some u)\/((env.kindOf x=some .cell\/env.kindOf x=some .free)/\∃ c,env.cells.lookup x=some c/\h.IsCell c (some u))
structure Cx.Ok (X:Cx):Prop where
 mod:Mod X.K X.mg X.base
 kind:X.env.scope.kind= .function
 glob:X.env.globals=mainGlobals
 blt:X.env.builtins=builtinsNs
 above:X.s₀.heap.objs.size<=X.env.locals
 inj:∀ x y c,X.env.cells.lookup x=some c->X.env.cells.lookup y=some c->x=y
 has:∀ x,(X.env.kindOf x=some .cell\/X.env.kindOf x=some .free)->∃ c,X.env.cells.lookup x=some c
 cab:∀ x c,X.fn x=true->X.env.cells.lookup x=some c->X.s₀.heap.objs.size<=c
 hd:X.calm=true->X.A.handled=none
 frames:X.A.frames=some X.stack
 stk:X.stack=X.outer\/(X.stack=X.env :: X.outer/\X.env.frame=some X.env.locals)
 exf:∀ b∈X.ex,b≠X.env.locals/\∀ x c,X.env.cells.lookup x=some c->c≠b
 bs:∀ b o,X.base.get? b=some o->X.s₀.heap.get? b=some o/\X.H₀ b=none
 bsz:X.base.objs.size<=X.s₀.heap.objs.size
 noex:∀ b o,X.base.get? b=some o->b ∉ X.ex
 exfs:∀ b∈X.ex,b ∉ X.fs
 funs:X.s₀.heap.FunFrames X.base X.outer
 frf:∀ b∈X.fs,X.H₀ b=none
structure Inv (X:Cx) (pins:List (Addr×Obj)) (U:List (Option V)) (H:Hp) (s:Shared):Prop where
 ok:X.Ok
 os:s.os=X.s₀.os
 bare:AllBare s.gens
 base:Un X.fs X.ex X.H₀ H X.s₀.heap s.heap
 loc:∃ m,s.heap.Ns X.env.locals m/\∀ (i:Nat) (x:Str) (v:V),X.N[i]?=some x->U[i]?=some (some v)->Vc X.env.scope x->∃ u,RelV v u/\Look X.env s.heap m x u
 cell:∀ x c,X.env.cells.lookup x=some c->∃ v,s.heap.IsCell c v
 free:H X.env.locals=none
 freeC:∀ x c,X.env.cells.lookup x=some c->H c=none
 pin:∀ p∈X.pn ++ pins,s.heap.get? p.1=some p.2/\H p.1=none/\p.1≠X.env.locals/\p.1 ∉ X.fs/\∀ v,p.2.data≠.cell v
 hok:HOk X.prog X.w H s.heap
 len:U.length=X.N.length
section
variable {X:Cx} {pins:List (Addr×Obj)} {U:List (Option V)} {H H':Hp} {s:Shared} {h':Heap}
theorem Cx.Ok.nofr (ok:X.Ok) {b:Addr} {o:Obj} (e:X.base.get? b=some o):b ∉ X.fs:=fun hb=>by
 have:=(ok.funs.mem hb).1
 rw [e] at this;cases this
theorem Inv.bs (I:Inv X pins U H s):∀ b o,X.base.get? b=some o->s.heap.get? b=some o/\H b=none:=fun b o e=>
 ⟨I.base.keep b o (I.ok.bs b o e).1 (I.ok.bs b o e).2 (I.ok.nofr e) (I.ok.noex b o e),I.base.free b o (I.ok.bs b o e).1 (I.ok.bs b o e).2 (I.ok.noex b o e)⟩
theorem Inv.bk (I:Inv X pins U H s):∀ b o,X.base.get? b=some o->s.heap.get? b=some o:=fun b o e=>(I.bs b o e).1
theorem Inv.mod (I:Inv X pins U H s):Mod X.K X.mg X.base:=I.ok.mod
theorem Inv.kIn (I:Inv X pins U H s):X.K.In s.heap:=I.ok.mod.kin.keeps I.bk
theorem Inv.lt (I:Inv X pins U H s):X.env.locals < s.heap.objs.size:=let ⟨_,hn,_⟩:=I.loc;hn.lt
theorem Inv.sz (I:Inv X pins U H s):X.s₀.heap.objs.size<=s.heap.objs.size:=Xv I.ok.above (Nat.le_of_lt I.lt)
theorem Inv.nofs (I:Inv X pins U H s) {a:Addr} (h:s.heap.objs.size<=a):a ∉ X.fs:=fun hb=>by
 obtain ⟨_,o,ho,_⟩:=I.ok.funs.mem hb
 exact absurd (XN (Xr ho) (Xv I.sz h)) (YZ _)
theorem Inv.cne (I:Inv X pins U H s):∀ x c,X.env.cells.lookup x=some c->c≠X.env.locals:=fun x c e z=>by
 obtain ⟨v,o,ho,hd⟩:=I.cell x c e
 obtain ⟨m,⟨o',es,ep,ho',hd',_⟩,_⟩:=I.loc
 rw [z,ho'] at ho;cases ho;rw [hd'] at hd;cases hd
theorem Inv.funs (I:Inv X pins U H s):s.heap.FunFrames X.base X.outer:=by
 have all:∀ (l:List Env),(∀ b∈frs l,b∈X.fs)->X.s₀.heap.FunFrames X.base l->s.heap.FunFrames X.base l:=by
  intro l
  induction l with
  | nil=>intro _ _;trivial
  | cons env r ih=>
   intro hs hl
   obtain ⟨hk,⟨L,o,hf,hn,ho,hd⟩,hr⟩:=hl
   have hL:L∈X.fs:=hs L (by unfold frs;rw [List.filterMap_cons,hf];exact Yt)
   obtain ⟨sl,e⟩:=I.base.slot L o ho (I.ok.frf L hL) hL fun z=>I.ok.exfs L z hL
   exact ⟨hk,⟨L,_,hf,hn,e,hd⟩,ih (fun b hb=>hs b (by unfold frs;rw [List.filterMap_cons,hf];exact XR _ hb)) hr⟩
 exact all X.outer (fun _ hb=>hb) I.ok.funs
theorem Inv.stack (I:Inv X pins U H s):s.heap.FunFrames X.base X.stack:=by
 rcases I.ok.stk with e | ⟨e,hf⟩
 ·rw [e];exact I.funs
 ·rw [e]
  obtain ⟨m,hn,_⟩:=I.loc
  refine .cons (by rw [I.ok.kind];decide) hf hn ?_ I.funs
  exact Heap.get?_none_of_le (Xv I.ok.bsz I.ok.above)
theorem Inv.stkSub (I:Inv X pins U H s):∀ b∈frs X.stack,b∈X.env.locals :: X.fs:=fun b hb=>by
 rcases I.ok.stk with e | ⟨e,hf⟩
 ·rw [e] at hb;exact XR _ hb
 ·rw [e] at hb
  unfold frs at hb
  rw [List.filterMap_cons,hf] at hb
  exact hb
theorem Inv.stkFree (I:Inv X pins U H s):∀ b∈frs X.stack,H b=none:=fun b hb=>by
 rcases XD.mp (I.stkSub b hb) with e | hb
 ·rw [e];exact I.free
 ·obtain ⟨_,o,ho,_⟩:=I.ok.funs.mem hb
  exact I.base.free b o ho (I.ok.frf b hb) fun z=>I.ok.exfs b z hb
theorem Inv.step {g':Array GenState} {t':Nat} {d':Drawn} {ch:List Addr} (I:Inv X pins U H s)
  (hch:∀ b∈ch,(b∈X.ex\/X.s₀.heap.objs.size<=b)/\b≠X.env.locals/\(∀ x c,X.env.cells.lookup x=some c->c≠b)/\∀ p∈X.pn ++ pins,p.1≠b)
  (keep:∀ b o,b≠X.env.locals->b ∉ X.fs->b ∉ ch->s.heap.get? b=some o->H b=none->h'.get? b=some o)
  (slot:∀ b o,b≠X.env.locals->b∈X.fs->b ∉ ch->s.heap.get? b=some o->H b=none->∃ sl,h'.get? b=some {o with slots:=sl}) (free:∀ b o,b ∉ ch->s.heap.get? b=some o->H b=none->H' b=none)
  (there:∀ b o,b ∉ ch->s.heap.get? b=some o->∃ o',h'.get? b=some o')
  (tups:∀ b xs,H b=some (.tup xs)->H' b=some (.tup xs)) (frzs:∀ b o u,H b=some (.frz o u)->H' b=some (.frz o u)) (tbls:∀ b ps,H b=some (.tbl ps)->∃ more,H' b=some (.tbl (ps ++ more)))
  (ns:∀ m,s.heap.Ns X.env.locals m->h'.Ns X.env.locals m) (hok:HOk X.prog X.w H' h') (hg:AllBare g'):
  Inv X pins U H' {s with heap:=h',gens:=g',drawn:=d',toks:=t'}:=by
 have neL:∀ b o,X.s₀.heap.get? b=some o->b≠X.env.locals:=fun b o e=>Yh (XN (Xr e) I.ok.above)
 have neC:∀ b o,X.s₀.heap.get? b=some o->b ∉ X.ex->b ∉ ch:=fun b o e hx hb=>by
  rcases (hch b hb).1 with z | z
  ·exact hx z
  ·exact absurd (XN (Xr e) z) (YZ _)
 have cellK:∀ x c,X.env.cells.lookup x=some c->∀ v,s.heap.IsCell c v->h'.IsCell c v:=fun x c e v ⟨o,ho,hd⟩=>by
  have nch:c ∉ ch:=fun z=>(hch c z).2.2.1 x c e rfl
  by_cases hc:c∈X.fs
  ·obtain ⟨sl,q⟩:=slot c o (I.cne x c e) hc nch ho (I.freeC x c e)
   exact ⟨_,q,hd⟩
  ·exact ⟨o,keep c o (I.cne x c e) hc nch ho (I.freeC x c e),hd⟩
 refine ⟨I.ok,I.os,hg,⟨fun b o e n hb hx=>?_,fun b o e n hb hx=>?_,fun b o e n hx=>?_,fun b o e hx=>?_,fun b xs e=>tups b xs (I.base.tups b xs e),fun b o xs e=>frzs b o xs (I.base.frzs b o xs e),fun b ps e=>?_⟩,?_,fun x c e=>?_,?_,fun x c e=>?_,fun p hp=>?_,hok,I.len⟩
 ·exact keep b o (neL b o e) hb (neC b o e hx) (I.base.keep b o e n hb hx) (I.base.free b o e n hx)
 ·obtain ⟨sl,e1⟩:=I.base.slot b o e n hb hx
  obtain ⟨sl',e2⟩:=slot b _ (neL b o e) hb (neC b o e hx) e1 (I.base.free b o e n hx)
  exact ⟨sl',e2⟩
 ·obtain ⟨o',e1⟩:=I.base.there b o e hx
  exact free b o' (neC b o e hx) e1 (I.base.free b o e n hx)
 ·obtain ⟨o',e1⟩:=I.base.there b o e hx
  exact there b o' (neC b o e hx) e1
 ·obtain ⟨m1,e1⟩:=I.base.tbls b ps e
  obtain ⟨m2,e2⟩:=tbls b _ e1
  exact ⟨m1 ++ m2,by rw [e2,Array.append_assoc]⟩
 ·obtain ⟨m,hn,hl⟩:=I.loc
  refine ⟨m,ns m hn,fun i x v e1 e2 e3=>?_⟩
  obtain ⟨u,r,l⟩:=hl i x v e1 e2 e3
  refine ⟨u,r,?_⟩
  rcases l with l | ⟨k,c,e,z⟩
  ·exact .inl l
  ·exact .inr ⟨k,c,e,cellK x c e _ z⟩
 ·obtain ⟨v,z⟩:=I.cell x c e
  exact ⟨v,cellK x c e v z⟩
 ·obtain ⟨m,⟨o,_,_,ho,_⟩,_⟩:=I.loc
  exact free _ o (fun z=>(hch _ z).2.1 rfl) ho I.free
 ·obtain ⟨v,o,ho,hd⟩:=I.cell x c e
  exact free c o (fun z=>(hch c z).2.2.1 x c e rfl) ho (I.freeC x c e)
 ·obtain ⟨e,n,ne,nf,d⟩:=I.pin p hp
  have nch:p.1 ∉ ch:=fun z=>(hch p.1 z).2.2.2 p hp rfl
  exact ⟨keep p.1 p.2 ne nf nch e n,free p.1 p.2 nch e n,ne,nf,d⟩
theorem Inv.un {t':Nat} (I:Inv X pins U H s) (u:Un X.fs [] H H' s.heap h') (hok:HOk X.prog X.w H' h'):Inv X pins U H' {s with heap:=h',toks:=t'}:=by
 obtain ⟨m,⟨o,es,ep,ho,r⟩,_⟩:=id I.loc
 obtain ⟨sl,hL⟩:=u.any ho I.free (by simp)
 exact I.step (g':=s.gens) (d':=s.drawn) (ch:=[]) (fun _ z=>nomatch z) (fun b o _ hb _ e n=>u.keep b o e n hb (by simp)) (fun b o _ hb _ e n=>u.slot b o e n hb (by simp)) (fun b o _ e n=>u.free b o e n (by simp)) (fun b o _ e=>u.there b o e (by simp)) u.tups u.frzs u.tbls (fun m' hm=>by
  obtain ⟨o',es',ep',ho',r'⟩:=hm
  rw [ho] at ho';cases ho'
  exact ⟨_,es',ep',hL,r'⟩) hok I.bare
theorem Inv.call {g':Array GenState} {t':Nat} {d':Drawn} {ch:List Addr} (I:Inv X pins U H s) (u:Un (frs X.stack) ch H H' s.heap h') (hok:HOk X.prog X.w H' h') (hg:AllBare g')
  (hch:∀ b∈ch,(b∈X.ex\/X.s₀.heap.objs.size<=b)/\b≠X.env.locals/\(∀ x c,X.env.cells.lookup x=some c->c≠b)/\∀ p∈X.pn ++ pins,p.1≠b):
  Inv X pins U H' {s with heap:=h',gens:=g',drawn:=d',toks:=t'}:=by
 obtain ⟨m,⟨o,es,ep,ho,r⟩,_⟩:=id I.loc
 obtain ⟨sl,hL⟩:=u.any ho I.free fun z=>(hch _ z).2.1 rfl
 exact I.step (ch:=ch) hch (fun b o hL hb hc e n=>u.keep b o e n (fun z=>(XD.mp (I.stkSub b z)).elim hL hb) hc) (fun b o _ _ hc e n=>u.any e n hc) (fun b o hc e n=>u.free b o e n hc) (fun b o hc e=>u.there b o e hc) u.tups u.frzs u.tbls (fun m' hm=>by
  obtain ⟨o',es',ep',ho',r'⟩:=hm
  rw [ho] at ho';cases ho'
  exact ⟨_,es',ep',hL,r'⟩) hok hg
theorem Inv.turned {t':Nat} {it:Addr} (I:Inv X pins U H s) (k:∀ b o,b≠it->s.heap.get? b=some o->h'.get? b=some o) (hn:H it=none) (hL:it≠X.env.locals)
  (h1:it∈X.ex\/X.s₀.heap.objs.size<=it) (h2:∀ x c,X.env.cells.lookup x=some c->c≠it) (h3:∀ p∈X.pn ++ pins,p.1≠it):Inv X pins U H {s with heap:=h',toks:=t'}:=by
 have nit:∀ b u,H b=some u->b≠it:=fun b u e z=>by rw [z,hn] at e;cases e
 refine I.step (g':=s.gens) (d':=s.drawn) (ch:=[it]) (fun b hb=>?_) (fun b o _ _ hc e _=>k b o (fun z=>hc (by simp [z])) e) (fun b o _ _ hc e _=>⟨o.slots,k b o (fun z=>hc (by simp [z])) e⟩) (fun _ _ _ _ n=>n)
  (fun b o hc e=>⟨o,k b o (fun z=>hc (by simp [z])) e⟩) (fun _ _ e=>e) (fun _ _ _ e=>e) (fun b ps e=>⟨#[],by rw [e];simp⟩) (fun m hm=>?_) (fun b u e=>?_) I.bare
 ·have e:b=it:=by simpa using hb
  subst e
  exact ⟨h1,hL,h2,h3⟩
 ·obtain ⟨o,es,ep,ho,r⟩:=hm
  exact ⟨o,es,ep,k _ o (Ne.symm hL) ho,r⟩
 ·refine (I.hok b u e).stay (fun c v hc q=>k c v ?_ q) (fun _ q=>q) fun _ _ q=>q
  rcases hc with z | z
  ·rw [z];exact nit b u e
  ·exact nit c _ z
theorem Inv.tok (I:Inv X pins U H s) (t:Nat):Inv X pins U H {s with toks:=t}:=I.un (h':=s.heap) (t':=t) Un.refl I.hok
theorem Inv.kept {t':Nat} (I:Inv X pins U H s) (k:∀ b u,s.heap.get? b=some u->h'.get? b=some u):Inv X pins U H {s with heap:=h',toks:=t'}:=I.un (Un.kept k) (I.hok.kept k)
theorem Inv.laid {a:Addr} {o:HO} {t':Nat} (I:Inv X pins U H s) (k:∀ b u,s.heap.get? b=some u->h'.get? b=some u) (hp:s.heap.objs.size<=a) (new:ObjOk X.prog X.w (upd H a o) h' a o):
  Inv X pins U (upd H a o) {s with heap:=h',toks:=t'}:=I.un (Un.laid k hp (I.hok.fresh hp)) (I.hok.laid k hp new)
theorem Inv.write {x e:Addr} {o:HO} {t':Nat} (I:Inv X pins U H s) (mu:Vb (H x)) (he:e=x\/H e=some (.own x)) (k:∀ b u,b≠e->s.heap.get? b=some u->h'.get? b=some u) (heo:∃ u,h'.get? e=some u)
  (new:ObjOk X.prog X.w (upd H x o) h' x o):Inv X pins U (upd H x o) {s with heap:=h',toks:=t'}:=I.un (Un.write mu he k heo) (I.hok.write mu he k heo new)
theorem Inv.weak {U':List (Option V)} (I:Inv X pins U H s) (hl:U'.length=U.length) (w:∀ (i:Nat) v,U'[i]?=some (some v)->U[i]?=some (some v)):Inv X pins U' H s:=
 ⟨I.ok,I.os,I.bare,I.base,let ⟨m,hn,hl'⟩:=I.loc;⟨m,hn,fun i x v e1 e2 e3=>hl' i x v e1 (w i v e2) e3⟩,I.cell,I.free,I.freeC,I.pin,I.hok,hl.trans I.len⟩
theorem Inv.pins_of {pins':List (Addr×Obj)} (I:Inv X pins U H s) (h:∀ p∈pins',s.heap.get? p.1=some p.2/\H p.1=none/\p.1≠X.env.locals/\p.1 ∉ X.fs/\∀ v,p.2.data≠.cell v):Inv X pins' U H s:=
 ⟨I.ok,I.os,I.bare,I.base,I.loc,I.cell,I.free,I.freeC,fun p hp=>(Yz.mp hp).elim (fun z=>I.pin p (Zz _ z)) (h p),I.hok,I.len⟩
theorem vh {N:List Str} (hN:N.Nodup) {i j:Nat} {x:Str} (a:N[i]?=some x) (b:N[j]?=some x):i=j:=by
 obtain ⟨h1,e1⟩:=Xn.mp a
 obtain ⟨h2,e2⟩:=Xn.mp b
 exact (List.getElem_inj hN).mp (e1.trans e2.symm)
theorem xm {M:Model} {A:Around} {E:Value->Shared->Prop} {i:Nat} {x:Str} {v:V} {u:Value} {Q:Unit->Shared->Prop} (I:Inv X pins U H s) (hN:X.N.Nodup) (hi:X.N[i]?=some x) (hx:Loc X.env.scope x) (r:RelV v u)
  (h:∀ s',Inv X pins (U.set i (some v)) H s'->(∃ a,Heap.SameBut a s.heap s'.heap/\(a=X.env.locals\/X.env.cells.lookup x=some a))->Q () s') (hf:autoParam (X.fn x=true\/X.env.scope.names.lookup x=some .local) L2.auto1._auto_1):wpAny M A (storeName X.env x u) Q E s:=by
 obtain ⟨m,hn,hl⟩:=id I.loc
 have hcls:(X.env.scope.kind == .class || (X.env.scope.kind == .module && X.env.locals != X.env.globals))=false:=by rw [I.ok.kind];rfl
 have hiU:i < U.length:=by rw [I.len];exact (Xn.mp hi).1
 have cne:=I.cne
 have tracked:∀ {a:Addr} {h':Heap},(∃ o,s.heap.get? a=some o/\H a=none)->Heap.SameBut a s.heap h'->HOk X.prog X.w H h':=fun {a h'} ha hs b ob e=>by
  obtain ⟨_,_,hfree⟩:=ha
  refine (I.hok b ob e).stay (fun c w' hc q=>(hs.2 c ?_).trans q) (fun _ q=>q) fun _ _ q=>q
  rintro rfl
  rcases hc with rfl | hc
  ·rw [hfree] at e;cases e
  ·rw [hfree] at hc;cases hc
 rcases hx with hk | hk
 ·refine wpAny_storeName_local hk hn (fun h' hn' hs=>?_) hcls
  obtain ⟨oL,_,_,hoL,_⟩:=id hn
  refine h _ ⟨I.ok,I.os,I.bare,⟨fun b o e n hb hx=>?_,fun b o e n hb hx=>?_,I.base.free,fun b o e hx=>?_,I.base.tups,I.base.frzs,I.base.tbls⟩,⟨_,hn',fun j y v' e1 e2 e3=>?_⟩,fun y c e=>?_,I.free,I.freeC,fun p hp=>?_,tracked ⟨oL,hoL,I.free⟩ hs,by simpa using I.len⟩ ⟨_,hs,.inl rfl⟩
  ·exact (hs.2 b (Yh (XN (Xr e) I.ok.above))).trans (I.base.keep b o e n hb hx)
  ·obtain ⟨sl,e1⟩:=I.base.slot b o e n hb hx
   exact ⟨sl,(hs.2 b (Yh (XN (Xr e) I.ok.above))).trans e1⟩
  ·obtain ⟨o',e1⟩:=I.base.there b o e hx
   exact ⟨o',(hs.2 b (Yh (XN (Xr e) I.ok.above))).trans e1⟩
  ·by_cases hj:j=i
   ·subst hj
    rw [hi] at e1;cases e1
    rw [Yw hiU] at e2
    cases e2
    exact ⟨u,r,.inl ⟨hk,by simp⟩⟩
   ·rw [Yd (Ne.symm hj)] at e2
    obtain ⟨u',r',q⟩:=hl j y v' e1 e2 e3
    refine ⟨u',r',?_⟩
    rcases q with ⟨k,e⟩ | ⟨k,c,e,z⟩
    ·refine .inl ⟨k,?_⟩
     have:y≠x:=fun e=>hj (vh hN e1 (e ▸ hi))
     simp [this,e]
    ·exact .inr ⟨k,c,e,z.sameBut hs (cne y c e)⟩
  ·obtain ⟨w',z⟩:=I.cell y c e
   exact ⟨w',z.sameBut hs (cne y c e)⟩
  ·obtain ⟨e,n,ne,nf,d⟩:=I.pin p hp
   exact ⟨(hs.2 p.1 ne).trans e,n,ne,nf,d⟩
 ·have hfn:X.fn x=true:=by
   rcases hf with z | z
   ·exact z
   ·rw [z] at hk;cases hk
  obtain ⟨c,hc⟩:=I.ok.has x (.inl hk)
  obtain ⟨w',z⟩:=I.cell x c hc
  refine wpAny_storeName_cell I.ok.kind hk hc z (fun h' hc' hs=>?_)
  obtain ⟨oc,hoc,hocd⟩:=id z
  refine h {s with heap:=h'} ⟨I.ok,I.os,I.bare,⟨fun b o e n hb hx=>?_,fun b o e n hb hx=>?_,I.base.free,fun b o e hx=>?_,I.base.tups,I.base.frzs,I.base.tbls⟩,⟨m,hn.sameBut hs (Ne.symm (cne x c hc)),fun j y v' e1 e2 e3=>?_⟩,fun y c' e=>?_,I.free,I.freeC,fun p hp=>?_,tracked ⟨oc,hoc,I.freeC x c hc⟩ hs,by simpa using I.len⟩ ⟨c,hs,.inr hc⟩
  ·exact (hs.2 b (Yh (XN (Xr e) (I.ok.cab x c hfn hc)))).trans (I.base.keep b o e n hb hx)
  ·obtain ⟨sl,e1⟩:=I.base.slot b o e n hb hx
   exact ⟨sl,(hs.2 b (Yh (XN (Xr e) (I.ok.cab x c hfn hc)))).trans e1⟩
  ·obtain ⟨o',e1⟩:=I.base.there b o e hx
   exact ⟨o',(hs.2 b (Yh (XN (Xr e) (I.ok.cab x c hfn hc)))).trans e1⟩
  ·by_cases hj:j=i
   ·subst hj
    rw [hi] at e1;cases e1
    rw [Yw hiU] at e2
    cases e2
    exact ⟨u,r,.inr ⟨.inl hk,c,hc,hc'⟩⟩
   ·rw [Yd (Ne.symm hj)] at e2
    obtain ⟨u',r',q⟩:=hl j y v' e1 e2 e3
    refine ⟨u',r',?_⟩
    rcases q with q | ⟨k,c',e,z'⟩
    ·exact .inl q
    ·refine .inr ⟨k,c',e,z'.sameBut hs ?_⟩
     rintro rfl
     exact hj (vh hN e1 (I.ok.inj _ _ _ e hc ▸ hi))
  ·by_cases hcc:c'=c
   ·subst hcc;exact ⟨_,hc'⟩
   ·obtain ⟨w2,z2⟩:=I.cell y c' e
    exact ⟨w2,z2.sameBut hs hcc⟩
  ·obtain ⟨e,n,ne,nf,d⟩:=I.pin p hp
   refine ⟨(hs.2 p.1 ?_).trans e,n,ne,nf,d⟩
   intro q
   rw [q,hoc] at e
   have q':oc=p.2:=XS e
   exact d w' (by rw [← q'];exact hocd)
theorem nZ {M:Model} {A:Around} {E:Value->Shared->Prop} {i:Nat} {x:Str} {v:V} {u:Value} {Q:Unit->Shared->Prop} (I:Inv X pins U H s) (hN:X.N.Nodup) (hi:X.N[i]?=some x) (hx:Loc X.env.scope x) (r:RelV v u)
  (h:∀ s',Inv X pins (U.set i (some v)) H s'->Q () s') (hf:autoParam (X.fn x=true\/X.env.scope.names.lookup x=some .local) L2.auto1._auto_1):wpAny M A (storeName X.env x u) Q E s:=
 xm I hN hi hx r (fun s' I' _=>h s' I') hf
theorem Inv.call' {s':Shared} {ch:List Addr} (I:Inv X pins U H s) (ho:s'.os=s.os) (u:Un (frs X.stack) ch H H' s.heap s'.heap) (hok:HOk X.prog X.w H' s'.heap) (hg:AllBare s'.gens)
  (hch:∀ b∈ch,(b∈X.ex\/X.s₀.heap.objs.size<=b)/\b≠X.env.locals/\(∀ x c,X.env.cells.lookup x=some c->c≠b)/\∀ p∈X.pn ++ pins,p.1≠b):Inv X pins U H' s':=by
 obtain ⟨h',g',d',t',o'⟩:=s'
 have e:o'=s.os:=ho
 subst e
 exact I.call (g':=g') (t':=t') (d':=d') u hok hg hch
end
abbrev XK:=Value->Option Addr->Hp->Prop
abbrev St:=List (Option V)
abbrev VK:=V->Hp->Prop
abbrev TE:=St->Hp->VK->Prop
abbrev TT:=St->Hp->(Bool->Hp->Prop)->Prop
abbrev TA:=St->Hp->(List V->Hp->Prop)->Prop
structure Ends where
 nx:St->Hp->Prop
 rt:VK
 bk:St->Hp->Prop:=fun _ _=>False
 ct:St->Hp->Prop:=fun _ _=>False
abbrev TS:=Ends->St->Hp->Prop
def EP (X:Cx) (pins:List (Addr×Obj)) (U:St) (Q:VK) (u:Value) (s':Shared):Prop:=∃ v H',Inv X pins U H' s'/\RelV v u/\Q v H'
def TP (X:Cx) (pins:List (Addr×Obj)) (U:St) (Q:Bool->Hp->Prop) (b:Bool) (s':Shared):Prop:=∃ H',Inv X pins U H' s'/\Q b H'
def AP (X:Cx) (pins:List (Addr×Obj)) (U:St) (Q:List V->Hp->Prop) (us:List Value) (s':Shared):Prop:=∃ vs H',Inv X pins U H' s'/\Vals vs us/\Q vs H'
def SP (X:Cx) (pins:List (Addr×Obj)) (D:Ends) (f:Flow) (s':Shared):Prop:=
 match f with
 | .next=>∃ U' H',Inv X pins U' H' s'/\D.nx U' H'
 | .brk=>∃ U' H',Inv X pins U' H' s'/\D.bk U' H'
 | .cont=>∃ U' H',Inv X pins U' H' s'/\D.ct U' H'
 | .ret u=>∃ v U' H',Inv X pins U' H' s'/\RelV v u/\D.rt v H'
def PE (X:Cx) (e:Expr) (t:TE):Prop:=
 ∀ (pins:List (Addr×Obj)) (s:Shared) (U:St) (H:Hp) (Q:VK),Inv X pins U H s->t U H Q->wpAny (model X.prog X.w) X.A (eval e X.env) (EP X pins U Q) X.xe s
def PT (X:Cx) (e:Expr) (t:TT):Prop:=
 ∀ (pins:List (Addr×Obj)) (s:Shared) (U:St) (H:Hp) (Q:Bool->Hp->Prop),Inv X pins U H s->t U H Q->wpAny (model X.prog X.w) X.A (isTrue e X.env (eval e X.env)) (TP X pins U Q) X.xe s
def PW (X:Cx) (e:Expr) (t:TT):Prop:=
 ∀ (whole:Sem Value) (pins:List (Addr×Obj)) (s:Shared) (U:St) (H:Hp) (Q:Bool->Hp->Prop),Inv X pins U H s->t U H Q->wpAny (model X.prog X.w) X.A (isTrue e X.env whole) (TP X pins U Q) X.xe s
theorem PW.pt {X:Cx} {e:Expr} {t:TT} (h:PW X e t):PT X e t:=h _
def PA (X:Cx) (es:List Expr) (t:TA):Prop:=
 ∀ (pos:Pos) (pins:List (Addr×Obj)) (s:Shared) (U:St) (H:Hp) (Q:List V->Hp->Prop),Inv X pins U H s->t U H Q->wpAny (model X.prog X.w) X.A (spliced (backTo pos (starEach es X.env))) (AP X pins U Q) X.xe s
def PS (X:Cx) (st:Stmt) (t:TS):Prop:=
 ∀ (pins:List (Addr×Obj)) (s:Shared) (U:St) (H:Hp) (D:Ends),Inv X pins U H s->t D U H->wpAny (model X.prog X.w) X.A (exec st X.env) (SP X pins D) X.xe s
def PSs (X:Cx) (st:List Stmt) (t:TS):Prop:=
 ∀ (pins:List (Addr×Obj)) (s:Shared) (U:St) (H:Hp) (D:Ends),Inv X pins U H s->t D U H->wpAny (model X.prog X.w) X.A (execs st X.env) (SP X pins D) X.xe s
theorem eQ {α:Type} {t:Sem α} {Q Q':α->Shared->Prop} {M:Model} {A:Around} {E:Value->Shared->Prop} {s:Shared} (h:wpAny M A t Q E s) (hQ:∀ a s,Q a s->Q' a s):wpAny M A t Q' E s:=YS h hQ fun _ _ x=>x
section
variable {X:Cx}
def qi (i:Nat):TE:=fun U H Q=>∃ v,U[i]?=some (some v)/\Q v H
def tC (v:V):TE:=fun _ H Q=>Q v H
theorem yj {i:Nat} {x:Str} {pos:Pos} (hN:X.N[i]?=some x) (hv:Vc X.env.scope x) (hd:autoParam ((x == ("__debug__":Str))=false) L2.auto2._auto_1) (hcd:autoParam ((x == ("__classdict__":Str))=false) L2.auto2._auto_1):PE X (.Name x pos) (qi i):=by
 intro pins s U H Q I h
 obtain ⟨v,e,h⟩:=h
 obtain ⟨m,hn,hl⟩:=I.loc
 obtain ⟨u,r,l⟩:=hl i x v hN e hv
 have fin:EP X pins U Q u s:=⟨v,H,I,r,h⟩
 rcases l with ⟨hk,hm⟩ | ⟨hk,c,hc,hcell⟩
 ·exact wpAny_Name (wpAny_loadName_local I.ok.kind hk hn hm fin) hd
 ·rcases hk with hk | hk
  ·exact wpAny_Name (wpAny_loadName_cell I.ok.kind hk hc hcell fin) hd
  ·exact wpAny_Name (wpAny_loadName_free I.ok.kind hk hc hcell fin hcd) hd
theorem Q5 {i j pos}:PE X (.Constant (.int i) j pos) (tC (.int i)):=fun _ _ _ H _ I h=>wpAny_Constant_int ⟨.int i,H,I.tok _,⟨_,rfl⟩,h⟩
theorem Vd {b j pos}:PE X (.Constant (.bool b) j pos) (tC (.bl b)):=fun _ _ _ H _ I h=>Constant_bool ⟨.bl b,H,I,rfl,h⟩
theorem Q6 {j pos}:PE X (.Constant .none j pos) (tC .non):=fun _ _ _ H _ I h=>Constant_none ⟨.non,H,I,rfl,h⟩
theorem Q7 {x j pos}:PE X (.Constant (.str x) j pos) (tC (.str x)):=fun _ _ _ H _ I h=>Calls.Constant_str ⟨.str x,H,I.tok _,⟨_,rfl⟩,h⟩
def Gl (X:Cx) (x:Str):Prop:=X.env.kindOf x=some .globalImplicit
theorem pA {E:Value->Shared->Prop} {pins:List (Addr×Obj)} {s:Shared} {U:St} {H:Hp} {x:Str} {u:Value} {pos:Pos} {Q:Value->Shared->Prop} (I:Inv X pins U H s) (hg:Gl X x) (hm:X.mg x=some u) (h:Q u s)
  (hd:autoParam ((x == ("__debug__":Str))=false) L2.auto2._auto_1):wpAny (model X.prog X.w) X.A (eval (.Name x pos) X.env) Q E s:=
 Calls.Name_function_global I.ok.kind hg (Calls.loadGlobal_global (by rw [I.ok.glob];exact I.mod.glob.keeps I.bk) hm h) hd
theorem gY {E:Value->Shared->Prop} {pins:List (Addr×Obj)} {s:Shared} {U:St} {H:Hp} {x:Str} {u:Value} {pos:Pos} {Q:Value->Shared->Prop} (I:Inv X pins U H s) (hg:Gl X x) (hm:X.mg x=none) (hv:bootBuiltins x=some u) (h:Q u s)
  (hn:autoParam (x≠"__name__") L2.auto2._auto_1) (hd:autoParam ((x == ("__debug__":Str))=false) L2.auto2._auto_1):wpAny (model X.prog X.w) X.A (eval (.Name x pos) X.env) Q E s:=by
 obtain ⟨mb,h1,h2⟩:=I.mod.blt
 exact Calls.Name_function_global I.ok.kind hg (Calls.loadGlobal_builtin (by rw [I.ok.glob];exact I.mod.glob.keeps I.bk) hm (by rw [I.ok.blt];exact h1.keeps I.bk) ((h2 x hn).trans hv) h) hd
theorem Do {x:Str} {v:V} {u:Value} {pos:Pos} (hg:Gl X x) (hm:X.mg x=some u) (r:RelV v u) (hd:autoParam ((x == ("__debug__":Str))=false) L2.auto2._auto_1):PE X (.Name x pos) (tC v):=
 fun _ _ _ H _ I h=>pA I hg hm ⟨v,H,I,r,h⟩ hd
theorem Mh {x:Str} {v:V} {u:Value} {pos:Pos} (hg:Gl X x) (hm:X.mg x=none) (hv:bootBuiltins x=some u) (r:RelV v u) (hn:autoParam (x≠"__name__") L2.auto2._auto_1) (hd:autoParam ((x == ("__debug__":Str))=false) L2.auto2._auto_1):PE X (.Name x pos) (tC v):=
 fun _ _ _ H _ I h=>gY I hg hm hv ⟨v,H,I,r,h⟩ hn hd
variable {a b:Expr} {ta tb:TE} {pos:Pos}
def tB (t:TE):TT:=fun U H Q=>t U H fun x H1=>∃ c,x= .bl c/\Q c H1
theorem Q8 {e:Expr} {t:TE} (h:PE X e t) (he:autoParam (∀ whole,isTrue e X.env whole=(do let v ← whole;standAt e.pos;holding [v] (truthy v))) L2.auto3._auto_1):PT X e (tB t):=by
 intro pins s U H Q I hw
 refine isTrue_plain (eQ (h pins s U H _ I hw) fun v s1 qq0=>?_) (he _)
 obtain ⟨x,H1,I1,r1,q1⟩:=qq0
 obtain ⟨d,rfl,q⟩:=q1
 cases r1
 exact Y7 ⟨H1,I1,q⟩
variable {tA tB':TT} {rest:List Expr}
def Mi (t u:TT):TT:=fun U H Q=>t U H fun c H1=>if c=true then u U H1 Q else Q false H1
def tOr (t u:TT):TT:=fun U H Q=>t U H fun c H1=>if c=true then Q true H1 else u U H1 Q
def Q9 (t:TT):TT:=fun U H Q=>t U H fun c H1=>Q (!c) H1
theorem Mj (ha:PT X a tA):PW X (.BoolOp .And [a] pos) tA:=by
 intro wh pins s U H Q I h
 refine isTrue_and (eQ (ha pins s U H Q I h) fun c s1 e=>?_)
 cases c with
 | true=>exact isTrue_and_nil e
 | false=>exact e
theorem Ra (ha:PT X a tA):PW X (.BoolOp .Or [a] pos) tA:=by
 intro wh pins s U H Q I h
 refine isTrue_or (eQ (ha pins s U H Q I h) fun c s1 e=>?_)
 cases c with
 | false=>exact isTrue_or_nil e
 | true=>exact e
theorem Rb (ha:PT X a tA) (hb:PW X (.BoolOp .And (b :: rest) pos) tB'):PW X (.BoolOp .And (a :: b :: rest) pos) (Mi tA tB'):=by
 intro wh pins s U H Q I h
 refine isTrue_and (eQ (ha pins s U H _ I h) fun c s1 qq0=>?_)
 obtain ⟨H1,I1,q1⟩:=qq0
 cases c with
 | true=>exact hb wh pins s1 U H1 Q I1 q1
 | false=>exact ⟨H1,I1,q1⟩
theorem Ve (ha:PT X a tA) (hb:PW X (.BoolOp .Or (b :: rest) pos) tB'):PW X (.BoolOp .Or (a :: b :: rest) pos) (tOr tA tB'):=by
 intro wh pins s U H Q I h
 refine isTrue_or (eQ (ha pins s U H _ I h) fun c s1 qq0=>?_)
 obtain ⟨H1,I1,q1⟩:=qq0
 cases c with
 | true=>exact ⟨H1,I1,q1⟩
 | false=>exact hb wh pins s1 U H1 Q I1 q1
theorem Rc (ha:PT X a tA):PT X (.UnaryOp .Not a pos) (Q9 tA):=by
 intro pins s U H Q I h
 exact isTrue_not (ha pins s U H (fun c H1=>Q (!c) H1) I h)
def Hu (ta tb:TE):TE:=fun U H Q=>ta U H fun x H1=>∃ c,x= .bl c/\if c=true then tb U H1 Q else Q (.bl false) H1
def Rf (ta tb:TE):TE:=fun U H Q=>ta U H fun x H1=>∃ c,x= .bl c/\if c=true then Q (.bl true) H1 else tb U H1 Q
def Hv (ta:TE):TE:=fun U H Q=>ta U H fun x H1=>∃ c,x= .bl c/\Q (.bl (!c)) H1
theorem Rg {op} {t:TE} (h:PE X a t):PE X (.BoolOp op [a] pos) t:=fun pins s U H Q I hw=>BoolOp_one (h pins s U H Q I hw)
theorem Rh (ha:PE X a ta) (hb:PE X (.BoolOp .And (b :: rest) pos) tb):PE X (.BoolOp .And (a :: b :: rest) pos) (Hu ta tb):=by
 intro pins s U H Q I h
 refine BoolOp_and (eQ (ha pins s U H _ I h) fun v s1 qq0=>?_)
 obtain ⟨x,H1,I1,r1,q1⟩:=qq0
 obtain ⟨c,rfl,q1⟩:=q1
 cases r1
 refine Y7 ?_
 cases c with
 | true=>exact hb pins s1 U H1 Q I1 q1
 | false=>exact ⟨.bl false,H1,I1,rfl,q1⟩
theorem Vf (ha:PE X a ta) (hb:PE X (.BoolOp .Or (b :: rest) pos) tb):PE X (.BoolOp .Or (a :: b :: rest) pos) (Rf ta tb):=by
 intro pins s U H Q I h
 refine BoolOp_or (eQ (ha pins s U H _ I h) fun v s1 qq0=>?_)
 obtain ⟨x,H1,I1,r1,q1⟩:=qq0
 obtain ⟨c,rfl,q1⟩:=q1
 cases r1
 refine Y7 ?_
 cases c with
 | false=>exact hb pins s1 U H1 Q I1 q1
 | true=>exact ⟨.bl true,H1,I1,rfl,q1⟩
theorem Ri (ha:PE X a ta):PE X (.UnaryOp .Not a pos) (Hv ta):=by
 intro pins s U H Q I h
 refine UnaryOp_ (eQ (ha pins s U H _ I h) fun v s1 qq0=>?_)
 obtain ⟨x,H1,I1,r1,q1⟩:=qq0
 obtain ⟨c,rfl,q1⟩:=q1
 cases r1
 exact not_of (Y7 ⟨.bl (!c),H1,I1,rfl,q1⟩)
def tIf (t:TT) (ta tb:TE):TE:=fun U H Q=>t U H fun c H1=>if c=true then ta U H1 Q else tb U H1 Q
theorem Hw {c:Expr} (hc:PT X c tA) (ha:PE X a ta) (hb:PE X b tb):PE X (.IfExp c a b pos) (tIf tA ta tb):=by
 intro pins s U H Q I h
 refine wpAny_IfExp (eQ (hc pins s U H _ I h) fun d s1 qq0=>?_)
 obtain ⟨H1,I1,q1⟩:=qq0
 cases d with
 | true=>exact ha pins s1 U H1 Q I1 q1
 | false=>exact hb pins s1 U H1 Q I1 q1
end
def SqL (K:W.Frag) (H:Hp) (a:Addr) (xs:List V):Prop:=
 Rd H a (.lst xs)\/
  ∃ (o:Obj) (its:Array Value) (n:Nat),K.lookup a=some o/\o.cls= .type "list"/\o.dict=none/\o.data= .seq its n/\its.size<=sizeLine/\Vals xs its.toList
def SqT (K:W.Frag) (H:Hp) (a:Addr) (xs:List V):Prop:=
 Rd H a (.tup xs)\/
  ∃ (o:Obj) (its:Array Value) (n:Nat),K.lookup a=some o/\o.cls= .type "tuple"/\o.data= .seq its n/\its.size<=sizeLine/\Vals xs its.toList
def absV:Value->Option V
 | .none=>some .non
 | .bool b=>some (.bl b)
 | .int i _=>some (.int i)
 | .str x _=>some (.str x)
 | .bytes b _=>some (.byt b)
 | .float b _=>some (.flt b)
 | .ref a=>some (.ref a)
 | .type n=>some (.ty n)
 | _=>none
theorem RelV.abs {x:V} {u:Value} (r:RelV x u):absV u=some x:=by
 cases x with
 | non=>cases r;rfl
 | bl _=>cases r;rfl
 | int _=>obtain ⟨t,rfl⟩:=r;rfl
 | str _=>obtain ⟨t,rfl⟩:=r;rfl
 | byt _=>obtain ⟨t,rfl⟩:=r;rfl
 | flt _=>obtain ⟨t,rfl⟩:=r;rfl
 | ref _=>cases r;rfl
 | ty _=>cases r;rfl
theorem RelV.inj {x y:V} {u:Value} (r:RelV x u) (q:RelV y u):x=y:=XS (r.abs.symm.trans q.abs)
theorem Vals.inj:∀ {xs ys:List V} {us:List Value},Vals xs us->Vals ys us->xs=ys
 | _,_,_,.nil,.nil=>rfl
 | _,_,_,.cons r t,.cons r' t'=>by rw [r.inj r',Vals.inj t t']
section
variable {X:Cx} {pins:List (Addr×Obj)} {U:St} {H:Hp} {s:Shared} {a:Addr} {xs ys:List V}
theorem SqL.of {K:W.Frag} (h:H a=some (.lst xs)):SqL K H a xs:=.inl (.inl h)
theorem SqT.of {K:W.Frag} (h:H a=some (.tup xs)):SqT K H a xs:=.inl (.inl h)
theorem Inv.list (I:Inv X pins U H s) (h:SqL X.K H a xs):∃ its:List Value,Vals xs its/\PlainL s.heap a its.toArray/\xs.length<=sizeLine:=by
 rcases h with h | ⟨o,its,n,hk,hc,hd,hs,hz,r⟩
 ·obtain ⟨z,its,n,r,e⟩:=h.ok I.hok
  exact ⟨its,r,⟨_,n,e,rfl,rfl,rfl⟩,z⟩
 ·refine ⟨its.toList,r,⟨o,n,I.kIn a o hk,hc,hd,by simpa using hs⟩,?_⟩
  have e:=r.length
  simp only [Xx] at e
  omega
theorem Inv.tuple (I:Inv X pins U H s) (h:SqT X.K H a xs):∃ its:List Value,Vals xs its/\IsTup s.heap a its.toArray/\xs.length<=sizeLine:=by
 rcases h with h | ⟨o,its,n,hk,hc,hs,hz,r⟩
 ·obtain ⟨z,its,r,p⟩:=h.ok I.hok
  exact ⟨its,r,p,z⟩
 ·refine ⟨its.toList,r,⟨o,I.kIn a o hk,hc,n,by simpa using hs⟩,?_⟩
  have e:=r.length
  simp only [Xx] at e
  omega
theorem Inv.list_inj (I:Inv X pins U H s) (h:SqL X.K H a xs) (h':SqL X.K H a ys):xs=ys:=by
 obtain ⟨its,r,⟨o,n,e,_,_,d⟩,_⟩:=I.list h
 obtain ⟨its',r',⟨o',n',e',_,_,d'⟩,_⟩:=I.list h'
 rw [e] at e';cases e'
 rw [d] at d'
 injection d' with d1 _
 have:its=its':=by simpa using congrArg Array.toList d1
 subst this
 exact r.inj r'
theorem Inv.tuple_inj (I:Inv X pins U H s) (h:SqT X.K H a xs) (h':SqT X.K H a ys):xs=ys:=by
 obtain ⟨its,r,⟨o,e,_,n,d⟩,_⟩:=I.tuple h
 obtain ⟨its',r',⟨o',e',_,n',d'⟩,_⟩:=I.tuple h'
 rw [e] at e';cases e'
 rw [d] at d'
 injection d' with d1 _
 have:its=its':=by simpa using congrArg Array.toList d1
 subst this
 exact r.inj r'
end
abbrev Cx.wish (X:Cx) (E:Value->Shared->Prop):Cx:={X with xe:=E}
abbrev Cx.nox (X:Cx):Cx:=X.wish fun _ _=>False
theorem Cx.Ok.wish {X:Cx} (ok:X.Ok) (E:Value->Shared->Prop):(X.wish E).Ok:=
 ⟨ok.mod,ok.kind,ok.glob,ok.blt,ok.above,ok.inj,ok.has,ok.cab,ok.hd,ok.frames,ok.stk,ok.exf,ok.bs,ok.bsz,ok.noex,ok.exfs,ok.funs,ok.frf⟩
theorem Cx.Ok.unwish {X:Cx} {E:Value->Shared->Prop} (ok:(X.wish E).Ok):X.Ok:=
 ⟨ok.mod,ok.kind,ok.glob,ok.blt,ok.above,ok.inj,ok.has,ok.cab,ok.hd,ok.frames,ok.stk,ok.exf,ok.bs,ok.bsz,ok.noex,ok.exfs,ok.funs,ok.frf⟩
section
variable {X:Cx} {pins:List (Addr×Obj)} {U:St} {H:Hp} {s:Shared} {E:Value->Shared->Prop}
theorem Inv.wish (I:Inv X pins U H s) (E:Value->Shared->Prop):Inv (X.wish E) pins U H s:=⟨I.ok.wish E,I.os,I.bare,I.base,I.loc,I.cell,I.free,I.freeC,I.pin,I.hok,I.len⟩
theorem Inv.unwish (I:Inv (X.wish E) pins U H s):Inv X pins U H s:=⟨I.ok.unwish,I.os,I.bare,I.base,I.loc,I.cell,I.free,I.freeC,I.pin,I.hok,I.len⟩
theorem SP.unwish {D:Ends} {f:Flow} {s':Shared} (h:SP (X.wish E) pins D f s'):SP X pins D f s':=by
 cases f with
 | next=>obtain ⟨U',H',I,q⟩:=h;exact ⟨U',H',I.unwish,q⟩
 | brk=>obtain ⟨U',H',I,q⟩:=h;exact ⟨U',H',I.unwish,q⟩
 | cont=>obtain ⟨U',H',I,q⟩:=h;exact ⟨U',H',I.unwish,q⟩
 | ret u=>obtain ⟨v,U',H',I,r,q⟩:=h;exact ⟨v,U',H',I.unwish,r,q⟩
theorem PSs.nox {st:List Stmt} {t:TS} (h:PSs X.nox st t):PSs X st t:=fun pins s U H D I hw=>
 YS (h pins s U H D (I.wish _) hw) (fun _ _ q=>q.unwish) fun _ _ z=>False.elim z
end
section
variable {X:Cx} {st:Stmt} {rest:List Stmt} {t u:TS} {e:Expr} {te:TE} {pos:Pos}
def Hx:TS:=fun D U H=>D.nx U H
def Rj (t u:TS):TS:=fun D U H=>t {D with nx:=u D} U H
theorem Ml:PSs X [] Hx:=fun _ _ U H _ I h=>wpAny_execs_nil ⟨U,H,I,h⟩
theorem Hy (h1:PS X st t) (h2:PSs X rest u):PSs X (st :: rest) (Rj t u):=by
 intro pins s U H D I h
 refine wpAny_execs_cons (eQ (h1 pins s U H {D with nx:=u D} I h) fun f s1 q=>?_)
 cases f with
 | next=>
  obtain ⟨U',H',I',q⟩:=q
  exact h2 pins s1 U' H' D I' q
 | ret v=>exact q
 | brk=>exact q
 | cont=>exact q
theorem Mm (h1:PS X st t):PSs X [st] t:=by
 intro pins s U H D I h
 refine wpAny_execs_cons (eQ (h1 pins s U H D I h) fun f s1 q=>?_)
 cases f with
 | next=>exact wpAny_execs_nil q
 | ret v=>exact q
 | brk=>exact q
 | cont=>exact q
theorem Inv.quiet {pins:List (Addr×Obj)} {U:St} {H:Hp} {s:Shared} (I:Inv X pins U H s):interactive X.env=false:=by simp [interactive,I.ok.kind]
def Dp (te:TE):TS:=fun D U H=>te U H fun _ H1=>D.nx U H1
theorem Mq (he:PE X e te) (hs:autoParam (swapsWith e none pos.line X.env=pure false) L2.auto4._auto_1):PS X (.Expr e pos) (Dp te):=by
 intro pins s U H D I h
 exact wpAny_Expr_any (eQ (he pins s U H _ I h) fun v s1 ⟨x,H1,I1,r1,q1⟩=>⟨U,H1,I1,q1⟩) I.quiet hs
def Rk (te:TE):TS:=fun D U H=>te U H D.rt
theorem Rm (he:PE X e te):PS X (.Return (some e) pos) (Rk te):=by
 intro pins s U H D I h
 exact wpAny_Return_some (eQ (he pins s U H _ I h) fun v s1 ⟨x,H1,I1,r1,q1⟩=>⟨x,U,H1,I1,r1,q1⟩)
def Rn (c:TT) (t u:TS):TS:=fun D U H=>c U H fun b H1=>if b=true then t D U H1 else u D U H1
theorem Vg {c:Expr} {a b:List Stmt} {tc:TT} (hc:PT X c tc) (ha:PSs X a t) (hb:PSs X b u):PS X (.If c a b pos) (Rn tc t u):=by
 intro pins s U H D I h
 refine wpAny_If (eQ (hc pins s U H _ I h) fun d s1 qq0=>?_)
 obtain ⟨H1,I1,q1⟩:=qq0
 cases d with
 | true=>exact ha pins s1 U H1 D I1 q1
 | false=>exact hb pins s1 U H1 D I1 q1
def Hz:TS:=fun _ _ _=>False
theorem HB:PS X st Hz:=fun _ _ _ _ _ _ h=>h.elim
end
abbrev TG:=V->St->Hp->(St->Hp->Prop)->Prop
abbrev Bq:=List V->St->Hp->(St->Hp->Prop)->Prop
def PG (X:Cx) (target:Expr) (t:TG):Prop:=
 ∀ (pins:List (Addr×Obj)) (s:Shared) (U:St) (H:Hp) (v:V) (u:Value) (Q:St->Hp->Prop),Inv X pins U H s->RelV v u->t v U H Q->
  wpAny (model X.prog X.w) X.A (assign target X.env u) (fun _ s'=>∃ U' H',Inv X pins U' H' s'/\Q U' H') X.xe s
def UT (X:Cx) (ts:List Expr) (t:Bq):Prop:=
 ∀ (pins:List (Addr×Obj)) (s:Shared) (U:St) (H:Hp) (vs:List V) (us:List Value) (Q:St->Hp->Prop),Inv X pins U H s->Vals vs us->t vs U H Q->
  wpAny (model X.prog X.w) X.A (assignInOrder ((assignEach ts X.env).map (·.2)) us) (fun _ s'=>∃ U' H',Inv X pins U' H' s'/\Q U' H') X.xe s
abbrev Br:=V->V->V->Hp->(Hp->Prop)->Prop
def Mr (X:Cx) (t:Br):Prop:=
 ∀ (pins:List (Addr×Obj)) (s:Shared) (U:St) (H:Hp) (o i v:V) (ov iv u:Value) (Q:Hp->Prop),Inv X pins U H s->RelV o ov->RelV i iv->RelV v u->t o i v H Q->
  wpAny (model X.prog X.w) X.A (setItem ov iv u) (fun _ s'=>∃ H',Inv X pins U H' s'/\Q H') X.xe s
abbrev TIp:=V->V->Hp->VK->Prop
def PIp (X:Cx) (op:Operator) (t:TIp):Prop:=
 ∀ (pins:List (Addr×Obj)) (s:Shared) (U:St) (H:Hp) (x y:V) (v u:Value) (Q:VK),Inv X pins U H s->RelV x v->RelV y u->t x y H Q->
  wpAny (model X.prog X.w) X.A (inplaceOp op v u) (EP X pins U Q) X.xe s
section
variable {X:Cx} {pos:Pos}
def qd (i:Nat):TG:=fun v U H Q=>Q (U.set i (some v)) H
theorem Dq {i:Nat} {x:Str} (hN:X.N.Nodup) (hi:X.N[i]?=some x) (hx:Loc X.env.scope x) (hf:autoParam (X.fn x=true\/X.env.scope.names.lookup x=some .local) L2.auto1._auto_1):PG X (.Name x pos) (qd i):=by
 intro pins s U H v u Q I r h
 exact wpAny_assign_Name (nZ I hN hi hx r (fun s' I'=>⟨_,H,I',h⟩) hf)
def Ro:Bq:=fun vs U H Q=>vs=[]/\Q U H
def HD (t:TG) (u:Bq):Bq:=fun vs U H Q=>∃ v r,vs=v :: r/\t v U H fun U' H'=>u r U' H' Q
theorem Ms:UT X [] Ro:=by
 intro pins s U H vs us Q I r h
 obtain ⟨e,h⟩:=h
 subst e
 cases r
 exact assignInOrder_nil ⟨U,H,I,h⟩
theorem HF {e:Expr} {es:List Expr} {t:TG} {u:Bq} (h1:PG X e t) (h2:UT X es u)
  (hs:autoParam ((assignEach (e :: es) X.env).map (·.2)=assign e X.env :: (assignEach es X.env).map (·.2)) L2.auto4._auto_1):UT X (e :: es) (HD t u):=by
 intro pins s U H vs us Q I r h
 obtain ⟨v,vr,e1,h⟩:=h
 subst e1
 cases r with
 | cons r rr=>
  rw [hs]
  refine assignInOrder_cons (eQ (h1 pins s U H _ _ _ I r h) fun _ s1 qq0=>?_)
  obtain ⟨σ1,H1,I1,q1⟩:=qq0
  exact h2 pins s1 σ1 H1 _ _ Q I1 rr q1
def Mt (K:W.Frag) (n:Nat) (t:Bq):TG:=fun v U H Q=>∃ a xs,v= .ref a/\SqT K H a xs/\xs.length=n/\t xs U H Q
theorem HH {es:List Expr} {k:Nat} {t:Bq} {n:Nat} (hc:X.calm=true) (h:UT X es t)
  (hn:autoParam ((assignEach es X.env).length=n) L2.auto4._auto_1) (hst:autoParam ((assignEach es X.env).findIdx? (·.1)=none) L2.auto4._auto_1):PG X (.Tuple es k pos) (Mt X.K n t):=by
 intro pins s U H v u Q I r hw
 obtain ⟨a,xs,e1,hq,hl,hw⟩:=hw
 subst e1
 cases r
 obtain ⟨its,rv,ht,hz⟩:=I.tuple hq
 refine assign_Tuple_tuple (I.ok.hd hc) ht (by simp [hn,← hl,rv.length]) hst fun h' hx=>?_
 have I1:Inv X pins U H {s with heap:=h'}:=I.kept (t':=s.toks) fun b o e=>hx b o (Yh (Xr e)) e
 exact h pins _ U H xs _ Q I1 (by simpa using rv) hw
def Rp (to ti:TE) (t:Br):TG:=fun v U H Q=>to U H fun o H1=>ti U H1 fun i H2=>t o i v H2 fun H3=>Q U H3
theorem Rq {o i:Expr} {to ti:TE} {t:Br} (ho:PE X o to) (hi:PE X i ti) (hs:Mr X t)
  (ha:∀ v,assign (.Subscript o i pos) X.env v=(do
   let ov ← holding [v] (eval o X.env)
   let iv ← holding [v,ov] (eval i X.env)
   standAt pos
   holding [v,ov,iv] (setItem ov iv v)
   release [v,ov,iv] []):=by intro _;rfl):PG X (.Subscript o i pos) (Rp to ti t):=by
 intro pins s U H v u Q I r h
 rw [ha]
 refine Xj (Yq (eQ (ho pins s U H _ I h) fun ov s1 qq0=>?_))
 obtain ⟨x,H1,I1,r1,q1⟩:=qq0
 refine Xj (Yq (eQ (hi pins s1 U H1 _ I1 q1) fun iv s2 qq0=>?_))
 obtain ⟨y,H2,I2,r2,q2⟩:=qq0
 refine Xj (ZW (Xj (Yq (eQ (hs pins s2 U H2 x y v ov iv u _ I2 r1 r2 r q2) fun _ s3 qq0=>?_))))
 obtain ⟨H3,I3,q3⟩:=qq0
 exact wpAny_release ⟨U,H3,I3,q3⟩
def ym (te:TE) (g:TG):TS:=fun D U H=>te U H fun x H1=>g x U H1 D.nx
theorem HJ {tg e:Expr} {te:TE} {g:TG} (he:PE X e te) (hg:PG X tg g) (hs:autoParam (swapsWithSole [tg] e pos.line X.env=pure false) L2.auto4._auto_1) (hw:autoParam (swappedStores [tg] e X.env=pure none) L2.auto4._auto_1)
  (h1:autoParam ((assignEach [tg] X.env).map (·.2)=[assign tg X.env]) L2.auto4._auto_1):PS X (.Assign [tg] e pos) (ym te g):=by
 intro pins s U H D I h
 refine wpAny_Assign_stores (eQ (he pins s U H _ I h) fun v s1 qq0=>?_) hs hw
 obtain ⟨x,H1,I1,r1,q1⟩:=qq0
 rw [h1]
 exact eQ (hg pins s1 U H1 x v _ I1 r1 q1) fun _ s2 q=>q
theorem HN {i:Nat} {x:Str} {e:Expr} {te:TE} {pos':Pos} (hN:X.N.Nodup) (hi:X.N[i]?=some x) (hx:Loc X.env.scope x) (he:PE X e te) (hs:autoParam (swapsWith e (some (.Name x pos')) pos.line X.env=pure false) L2.auto4._auto_1) (hf:autoParam (X.fn x=true\/X.env.scope.names.lookup x=some .local) L2.auto1._auto_1):
  PS X (.Assign [.Name x pos'] e pos) (ym te (qd i)):=by
 intro pins s U H D I h
 refine wpAny_Assign_Name (eQ (he pins s U H _ I h) fun v s1 qq0=>?_) hs
 obtain ⟨y,H1,I1,r1,q1⟩:=qq0
 exact nZ I1 hN hi hx r1 (fun s2 I2=>⟨_,H1,I2,q1⟩) hf
def Rr (i:Nat) (te:TE) (ti:TIp):TS:=fun D U H=>∃ x,U[i]?=some (some x)/\te U H fun y H1=>ti x y H1 fun z H2=>D.nx (U.set i (some z)) H2
theorem Rt {i:Nat} {x:Str} {e:Expr} {te:TE} {op:Operator} {ti:TIp} {pos':Pos} (hN:X.N.Nodup) (hi:X.N[i]?=some x) (hx:Loc X.env.scope x) (he:PE X e te) (ho:PIp X op ti) (hf:autoParam (X.fn x=true\/X.env.scope.names.lookup x=some .local) L2.auto1._auto_1):
  PS X (.AugAssign (.Name x pos') op e pos) (Rr i te ti):=by
 intro pins s U H D I h
 obtain ⟨v,e1,h⟩:=h
 obtain ⟨m,hn,hl⟩:=I.loc
 have vis:Vc X.env.scope x:=by rcases hx with k | k;exact .inl k;exact .inr (.inl k)
 obtain ⟨u,r,l⟩:=hl i x v hi e1 vis
 refine wpAny_AugAssign_Name ?_
 have go:wpAny (model X.prog X.w) X.A (eval e X.env) (fun w s₂=>wpAny (model X.prog X.w) X.A (inplaceOp op u w) (fun r s₃=>wpAny (model X.prog X.w) X.A (storeName X.env x r) (fun _=>SP X pins D .next) X.xe s₃) X.xe s₂) X.xe s:=by
  refine eQ (he pins s U H _ I h) fun w s1 qq0=>?_
  obtain ⟨y,H1,I1,r1,q1⟩:=qq0
  refine eQ (ho pins s1 U H1 v y u w _ I1 r r1 q1) fun z s2 qq0=>?_
  obtain ⟨zv,H2,I2,r2,q2⟩:=qq0
  exact nZ I2 hN hi hx r2 (fun s3 I3=>⟨_,H2,I3,q2⟩) hf
 rcases l with ⟨hk,hm⟩ | ⟨hk,c,hc,hcell⟩
 ·exact wpAny_loadName_local I.ok.kind hk hn hm go
 ·rcases hk with hk | hk
  ·exact wpAny_loadName_cell I.ok.kind hk hc hcell go
  ·rcases hx with k | k
   ·have:X.env.scope.names.lookup x=some .free:=hk
    rw [k] at this;cases this
   ·have:X.env.scope.names.lookup x=some .free:=hk
    rw [k] at this;cases this
def Bs (c:TT) (tb:TS):TS:=fun D U H=>∃ W:Nat->St->Hp->Prop,(∃ m,W m U H)/\∀ m U H,W m U H->
 c U H fun b H1=>if b=true then ∃ N:St->Hp->Prop,(∀ U' H',N U' H'->∃ m',m' < m/\W m' U' H')/\tb {D with nx:=N,ct:=N,bk:=D.nx} U H1 else D.nx U H1
theorem HQ {c:Expr} {body:List Stmt} {tc:TT} {tb:TS} (hp:PassesOwn (model X.prog X.w) X.A X.env X.xe) (hc:PT X c tc) (hb:PSs X body tb):PS X (.While c body [] pos) (Bs tc tb):=by
 intro pins s U H D I h
 obtain ⟨W,⟨m0,w0⟩,turn⟩:=h
 refine wpAny_While (codeAny_whileLoop (fun n s'=>∃ U' H',Inv X pins U' H' s'/\W n U' H') ?_ m0 ⟨U,H,I,w0⟩)
 rintro n s1 ⟨σ1,H1,I1,w1⟩
 refine Zx hp (eQ (hc pins s1 σ1 H1 _ I1 (turn n σ1 H1 w1)) fun b s2 qq0=>?_)
 obtain ⟨H2,I2,q2⟩:=qq0
 cases b with
 | true=>
  obtain ⟨N,hN,q2⟩:=q2
  rw [if_pos rfl]
  refine Zx hp (eQ (hb pins s2 σ1 H2 _ I2 q2) fun f s3 q3=>?_)
  cases f with
  | next=>
   obtain ⟨σ3,H3,I3,n3⟩:=q3
   obtain ⟨m',hm,w3⟩:=hN σ3 H3 n3
   exact ⟨m',hm,σ3,H3,I3,w3⟩
  | cont=>
   obtain ⟨σ3,H3,I3,n3⟩:=q3
   obtain ⟨m',hm,w3⟩:=hN σ3 H3 n3
   exact ⟨m',hm,σ3,H3,I3,w3⟩
  | brk=>exact q3
  | ret v=>exact q3
 | false=>
  rw [if_neg Xz]
  exact wpAny_execs_nil ⟨σ1,H2,I2,q2⟩
end
structure It where
 go:Nat->Hp->Prop
 yld:Nat->Hp->V->Hp->Prop
 stop:Nat->Hp->Prop
def n6 (X:Cx) (pins:List (Addr×Obj)) (H:Hp) (b:Addr):Prop:=
 H b=none/\b≠X.env.locals/\b ∉ X.fs/\(b∈X.ex\/X.s₀.heap.objs.size<=b)/\(∀ x c,X.env.cells.lookup x=some c->c≠b)/\∀ p∈X.pn ++ pins,p.1≠b
theorem Inv.fpOk {X:Cx} {pins:List (Addr×Obj)} {U:St} {H H':Hp} {s:Shared} {b:Addr} (I:Inv X pins U H s) (hb:s.heap.objs.size<=b) (hn:H' b=none):n6 X pins H' b:=by
 refine ⟨hn,Zd (XN I.lt hb),I.nofs hb,.inr (Xv I.sz hb),fun x c e z=>?_,fun p hp z=>?_⟩
 ·obtain ⟨v,q⟩:=I.cell x c e
  exact absurd (XN q.lt (by rw [z];exact hb)) (YZ _)
 ·exact absurd (XN (Xr (I.pin p hp).1) (by rw [z];exact hb)) (YZ _)
structure Turn (P:Program) (w:World) (K:W.Frag) (tg:Expr) (J:It) (fp:List Addr) (it:Addr) (tn:Nat->Heap->Prop):Prop where
 mem:it∈fp
 obj:∀ i h,tn i h->∀ b∈fp,∃ o,h.get? b=some o/\∀ v,o.data≠.cell v
 keep:∀ i h h',tn i h->(∀ b∈fp,∀ o,h.get? b=some o->h'.get? b=some o)->tn i h'
 item:∀ (X:Cx),X.prog=P->X.w=w->X.K=K->X.calm=true->∀ (i:Nat) (pins:List (Addr×Obj)) (s:Shared) (U:St) (H:Hp) (E:Value->Shared->Prop),Inv X pins U H s->(∀ b∈fp,n6 X pins H b)->tn i s.heap->J.go i H->
  wpAny (model P w) X.A (pyNext (.ref it)) (fun r s1=>∃ u,r=some u/\
   wpAny (model P w) X.A (letOwnedTupleGo tg (.ref it) u) (fun _ s2=>∃ x H',Inv X pins U H' s2/\RelV x u/\J.yld i H x H'/\tn (i+1) s2.heap/\∀ b∈fp,H' b=none) E s1) E s
 done:∀ (X:Cx),X.prog=P->X.w=w->X.K=K->X.calm=true->∀ (i:Nat) (pins:List (Addr×Obj)) (s:Shared) (U:St) (H:Hp) (E:Value->Shared->Prop),Inv X pins U H s->(∀ b∈fp,n6 X pins H b)->tn i s.heap->J.stop i H->
  wpAny (model P w) X.A (pyNext (.ref it)) (fun r s1=>r=none/\Inv X pins U H s1) E s
 self:∀ (A:Around) (i:Nat) (s:Shared) (Q:Value->Shared->Prop) (E:Value->Shared->Prop),tn i s.heap->Q (.ref it) s->wpAny (model P w) A (pyIter (.ref it)) Q E s
abbrev TI:=St->Hp->(It->Hp->Prop)->Prop
def PIE (X:Cx) (pins:List (Addr×Obj)) (U:St) (tg:Expr) (R:It->Hp->Prop) (itv:Value) (s2:Shared):Prop:=
 ∃ (it:Addr) (fp:List Addr) (tn:Nat->Heap->Prop) (J:It) (H':Hp),itv= .ref it/\Inv X pins U H' s2/\Turn X.prog X.w X.K tg J fp it tn/\tn 0 s2.heap/\(∀ b∈fp,n6 X pins H' b)/\R J H'
def PI (X:Cx) (tg iter:Expr) (wi:TI):Prop:=
 ∀ (pins:List (Addr×Obj)) (s:Shared) (U:St) (H:Hp) (R:It->Hp->Prop),Inv X pins U H s->wi U H R->
  wpAny (model X.prog X.w) X.A (eval iter X.env) (fun v s1=>wpAny (model X.prog X.w) X.A (pyIter v) (PIE X pins U tg R) X.xe s1) X.xe s
theorem Ds {M:Model} {A:Around} {E:Value->Shared->Prop} {s:Shared} {tg:Expr} {it:Addr} {u:Value} {o:Obj} {n:String} {vs:Array Value} {Q:Unit->Shared->Prop} (ho:s.heap.get? it=some o) (hc:o.cls= .type n) (hd:o.data= .fields vs)
  (hn:["enumerate","zip","dict_itemiterator","dict_reverseitemiterator","odict_iterator","itertools.zip_longest","itertools.pairwise"].contains n=false) (hQ:Q () s):wpAny M A (letOwnedTupleGo tg (.ref it) u) Q E s:=by
 unfold letOwnedTupleGo
 cases tg <;> first
  | exact Xo hQ
  | (cases u <;> first
    | exact Xo hQ
    | (refine Xj (wpAny_load ho ?_)
       rw [hc,hd]
       show wpAny M A (if (["enumerate","zip","dict_itemiterator","dict_reverseitemiterator","odict_iterator","itertools.zip_longest","itertools.pairwise"].contains n && vs[0]? == some (rawInt _))=true then _ else _) Q E s
       rw [if_neg (by intro h;rw [hn,Bool.false_and] at h;cases h)]
       exact Xo hQ))
def Qm (K:W.Frag) (a:Addr):It:=
 ⟨fun i H=>∃ xs x,SqL K H a xs/\xs[i]?=some x,fun i H x H'=>H'=H/\∀ xs,SqL K H a xs->xs[i]?=some x,fun i H=>∃ xs,SqL K H a xs/\xs.length<=i⟩
def Qn (K:W.Frag) (a:Addr):It:=
 ⟨fun i H=>∃ xs x,SqT K H a xs/\xs[i]?=some x,fun i H x H'=>H'=H/\∀ xs,SqT K H a xs->xs[i]?=some x,fun i H=>∃ xs,SqT K H a xs/\xs.length<=i⟩
def HR (lo:Int) (n:Nat):It:=⟨fun i _=>i < n,fun i H x H'=>H'=H/\x= .int (lo+i),fun i _=>n<=i⟩
theorem Fv {P:Program} {w:World} {K:W.Frag} {tg:Expr} (a it:Addr):Turn P w K tg (Qm K a) [it] it (fun i h=>h.IsListIter it a i) where
 mem:=by simp
 obj:=fun i h st b hb=>by
  have e:b=it:=by simpa using hb
  subst e
  obtain ⟨o,e,c,d⟩:=st
  exact ⟨o,e,fun v z=>by rw [d] at z;cases z⟩
 keep:=fun i h h' st k=>st.at fun o e=>k it (by simp) o e
 item:=by
  intro X hP hw hK hc i pins s U H E I hf st hg
  subst hP hw hK
  obtain ⟨xs,x,hq,hx⟩:=hg
  obtain ⟨its,rv,p,hz⟩:=I.list hq
  obtain ⟨u,hu,ru⟩:=rv.get hx
  obtain ⟨f0,f1,f2,f3,f4,f5⟩:=hf it (by simp)
  refine wpAny_pyNext_list_item st p.isList (x:=u) (by simpa using hu) fun h' st' sb=>?_
  have I1:Inv X pins U H {s with heap:=h'}:=I.turned (t':=s.toks) (fun b o hb e=>(sb.2 b hb).trans e) f0 f1 f3 f4 f5
  obtain ⟨o,e,c,d⟩:=id st'
  exact ⟨u,rfl,Ds (s:={s with heap:=h'}) e c d (by decide) ⟨x,H,I1,ru,⟨rfl,fun ys hy=>by rw [I.list_inj hy hq];exact hx⟩,st',fun b hb=>(hf b hb).1⟩⟩
 done:=by
  intro X hP hw hK hc i pins s U H E I hf st hg
  subst hP hw hK
  obtain ⟨xs,hq,hx⟩:=hg
  obtain ⟨its,rv,p,hz⟩:=I.list hq
  obtain ⟨f0,f1,f2,f3,f4,f5⟩:=hf it (by simp)
  have hl:=rv.length
  exact wpAny_pyNext_list_end (I.ok.hd hc) st p.isList (by simp;omega) fun h' eb=>⟨rfl,I.turned (t':=s.toks) (fun b o hb e=>eb b o hb e) f0 f1 f3 f4 f5⟩
 self:=fun _ _ _ _ _ st h=>wpAny_pyIter_listiter st h
theorem Bt {P:Program} {w:World} {K:W.Frag} {tg:Expr} (a it:Addr):Turn P w K tg (Qn K a) [it] it (fun i h=>h.IsTupleIter it a i) where
 mem:=by simp
 obj:=fun i h st b hb=>by
  have e:b=it:=by simpa using hb
  subst e
  obtain ⟨o,e,c,d⟩:=st
  exact ⟨o,e,fun v z=>by rw [d] at z;cases z⟩
 keep:=fun i h h' st k=>st.at fun o e=>k it (by simp) o e
 item:=by
  intro X hP hw hK hc i pins s U H E I hf st hg
  subst hP hw hK
  obtain ⟨xs,x,hq,hx⟩:=hg
  obtain ⟨its,rv,p,hz⟩:=I.tuple hq
  obtain ⟨u,hu,ru⟩:=rv.get hx
  obtain ⟨f0,f1,f2,f3,f4,f5⟩:=hf it (by simp)
  refine wpAny_pyNext_tuple_item st (show s.heap.IsTuple a its.toArray from p) (x:=u) (by simpa using hu) fun h' st' sb=>?_
  have I1:Inv X pins U H {s with heap:=h'}:=I.turned (t':=s.toks) (fun b o hb e=>(sb.2 b hb).trans e) f0 f1 f3 f4 f5
  obtain ⟨o,e,c,d⟩:=id st'
  exact ⟨u,rfl,Ds (s:={s with heap:=h'}) e c d (by decide) ⟨x,H,I1,ru,⟨rfl,fun ys hy=>by rw [I.tuple_inj hy hq];exact hx⟩,st',fun b hb=>(hf b hb).1⟩⟩
 done:=by
  intro X hP hw hK hc i pins s U H E I hf st hg
  subst hP hw hK
  obtain ⟨xs,hq,hx⟩:=hg
  obtain ⟨its,rv,p,hz⟩:=I.tuple hq
  obtain ⟨f0,f1,f2,f3,f4,f5⟩:=hf it (by simp)
  have hl:=rv.length
  exact wpAny_pyNext_tuple_end (I.ok.hd hc) st (show s.heap.IsTuple a its.toArray from p) (by simp;omega) fun h' eb=>⟨rfl,I.turned (t':=s.toks) (fun b o hb e=>eb b o hb e) f0 f1 f3 f4 f5⟩
 self:=fun _ _ _ _ _ st h=>wpAny_pyIter_tupleiter st h
theorem Bu {P:Program} {w:World} {K:W.Frag} {tg:Expr} (it:Addr) (lo:Int) (n:Nat):Turn P w K tg (HR lo n) [it] it (fun i h=>IsRangeIter h it (lo+(i:Nat)*1) ((n:Int) - (i:Nat)) 1) where
 mem:=by simp
 obj:=fun i h st b hb=>by
  have e:b=it:=by simpa using hb
  subst e
  exact ⟨_,st,fun v z=>by
   have z':Data.fields _=Data.cell v:=z
   cases z'⟩
 keep:=fun i h h' st k=>k it (by simp) _ st
 item:=by
  intro X hP hw hK hc i pins s U H E I hf st hg
  subst hP hw hK
  obtain ⟨f0,f1,f2,f3,f4,f5⟩:=hf it (by simp)
  have W:=Walks.range (prog:=X.prog) (w:=X.w) (I.ok.hd hc) it lo 1 n
  refine W.item i s _ _ hg st fun v h' tk hv st' kk=>?_
  obtain ⟨t,rfl⟩:=hv
  have I1:Inv X pins U H {s with heap:=h',toks:=tk}:=I.turned (fun b o hb e=>kk b o (by simpa using hb) e) f0 f1 f3 f4 f5
  refine ⟨_,rfl,Ds (s:={s with heap:=h',toks:=tk}) (n:="range_iterator") st' rfl rfl (by decide) ⟨.int (lo+i),H,I1,⟨t,?_⟩,⟨rfl,rfl⟩,st',fun b hb=>(hf b hb).1⟩⟩
  rw [Int.mul_one]
 done:=by
  intro X hP hw hK hc i pins s U H E I hf st hg
  subst hP hw hK
  obtain ⟨f0,f1,f2,f3,f4,f5⟩:=hf it (by simp)
  exact wpAny_pyNext_range_end (I.ok.hd hc) st (by have:n<=i:=hg;omega) fun h' eb=>⟨rfl,I.turned (t':=s.toks) (fun b o hb e=>eb b o hb e) f0 f1 f3 f4 f5⟩
 self:=fun _ _ _ _ _ st h=>wpAny_pyIter_rangeiter st h
section
variable {X:Cx} {tg:Expr}
theorem zE {pins:List (Addr×Obj)} {U:St} {H:Hp} {s:Shared} {R:It->Hp->Prop} {E:Value->Shared->Prop} {lo hi:Int} {t u v:Tok} {tk:Nat} (I:Inv X pins U H s) (h1: -(2 ^ 62)<=lo) (h2:lo < 2 ^ 62) (h3: -(2 ^ 62)<=hi) (h4:hi < 2 ^ 62)
  (q:R (HR lo (hi - lo).toNat) H):wpAny (model X.prog X.w) X.A (pyIter (.ref s.heap.objs.size)) (PIE X pins U tg R) E {s with heap:=s.heap.push {cls:=.type "range",data:=.fields #[.int lo t,.int hi u,.int 1 v]},toks:=tk}:=by
 refine wpAny_pyIter_range (IsRange.new ..) (small_one h1 h2 h3 h4) ?_
 have I1:Inv X pins U H {s with heap:=s.heap.push {cls:=.type "range",data:=.fields #[.int lo t,.int hi u,.int 1 v]},toks:=tk}:=I.kept fun b o e=>Xm _ e
 refine ⟨(s.heap.push {cls:=.type "range",data:=.fields #[.int lo t,.int hi u,.int 1 v]}).objs.size,[(s.heap.push {cls:=.type "range",data:=.fields #[.int lo t,.int hi u,.int 1 v]}).objs.size],_,_,H,rfl,
  I1.kept (t':=tk) fun b o e=>Xm _ e,Bu _ lo (hi - lo).toNat,?_,fun b hb=>?_,q⟩
 ·have e1:lo+((0:Nat):Int)*1=lo:=by simp
  have e2:(((hi - lo).toNat:Nat):Int) - ((0:Nat):Int)=Builtin.Range.rangeSize lo hi 1:=by rw [rangeSize_one];split <;> omega
  show IsRangeIter _ _ (lo+((0:Nat):Int)*1) ((((hi - lo).toNat:Nat):Int) - ((0:Nat):Int)) 1
  rw [e1,e2]
  exact Xy _ rfl
 ·have e:b=(s.heap.push {cls:=.type "range",data:=.fields #[.int lo t,.int hi u,.int 1 v]}).objs.size:=by simpa using hb
  subst e
  exact I1.fpOk (Xp _) (I1.hok.fresh (Xp _))
def HS (ta:TA):TI:=fun U H R=>ta U H fun vs H1=>∃ j:Int,vs=[.int j]/\-(2 ^ 62)<=j/\j < 2 ^ 62/\R (HR 0 j.toNat) H1
def HW (ta:TA):TI:=fun U H R=>ta U H fun vs H1=>∃ i j:Int,vs=[.int i,.int j]/\(-(2 ^ 62)<=i/\i < 2 ^ 62/\-(2 ^ 62)<=j/\j < 2 ^ 62)/\R (HR i (j - i).toNat) H1
theorem Fw {a:Expr} {ta:TA} {p pos:Pos} (hg:Gl X "range") (hm:X.mg "range"=none) (ha:PA X [a] ta) (hs:autoParam (starEach [a] X.env=[(false,eval a X.env)]) L2.auto4._auto_1):PI X tg (.Call (.Name "range" p) [a] [] pos) (HS ta):=by
 intro pins s U H R I h
 refine Call_ (gY I hg hm boot_range (XX (eQ (ha pos pins s U H _ I h) fun us s1 ⟨vs,H1,I1,r1,q1⟩=>?_) hs rfl))
 obtain ⟨j,e,q1,q2,q⟩:=q1
 subst e
 cases r1 with
 | cons r rr=>
  cases rr
  obtain ⟨t,rfl⟩:=r
  exact call_range_1 (zE I1 (by omega) (by omega) q1 q2 (by simpa using q))
theorem Fx {a b:Expr} {ta:TA} {p pos:Pos} (hg:Gl X "range") (hm:X.mg "range"=none) (ha:PA X [a,b] ta) (hs:autoParam (starEach [a,b] X.env=[(false,eval a X.env),(false,eval b X.env)]) L2.auto4._auto_1) (hs2:autoParam (starEach [b] X.env=[(false,eval b X.env)]) L2.auto4._auto_1):
  PI X tg (.Call (.Name "range" p) [a,b] [] pos) (HW ta):=by
 intro pins s U H R I h
 refine Call_ (gY I hg hm boot_range (XX (eQ (ha pos pins s U H _ I h) fun us s1 qq0=>?_) (by rw [hs,hs2]) (by rw [hs2];rfl)))
 obtain ⟨vs,H1,I1,r1,q1⟩:=qq0
 obtain ⟨i,j,e,⟨q1,q2,q3,q4⟩,q⟩:=q1
 subst e
 cases r1 with
 | cons r rr=>
  cases rr with
  | cons r' rr=>
   cases rr
   obtain ⟨t,rfl⟩:=r
   obtain ⟨t',rfl⟩:=r'
   exact call_range_2 (zE I1 q1 q2 q3 q4 q)
def Mu (wi:TI) (g:TG) (tb:TS):TS:=fun D U H=>wi U H fun J H1=>∃ W:Nat->Nat->St->Hp->Prop,(∃ m,W 0 m U H1)/\∀ i m U H,W i m U H->
 (J.stop i H/\D.nx U H)\/(J.go i H/\∃ N:St->Hp->Prop,(∀ U' H',N U' H'->∃ m',m' < m/\W (i+1) m' U' H')/\∀ x H',J.yld i H x H'->g x U H' fun σ2 H2=>tb {D with nx:=N,ct:=N,bk:=D.nx} σ2 H2)
def vm (fp:List Addr) (h:Heap):List (Addr×Obj):=fp.filterMap fun b=>(h.get? b).map fun o=>(b,o)
theorem qj {fp:List Addr} {h:Heap} {b:Addr} {o:Obj} (hb:b∈fp) (e:h.get? b=some o):(b,o)∈vm fp h:=List.mem_filterMap.mpr ⟨b,hb,by rw [e];rfl⟩
theorem Fy {fp:List Addr} {h:Heap} {p:Addr×Obj} (hp:p∈vm fp h):p.1∈fp/\h.get? p.1=some p.2:=by
 obtain ⟨b,hb,e⟩:=List.mem_filterMap.mp hp
 cases q:h.get? b with
 | none=>rw [q] at e;cases e
 | some o=>
  rw [q] at e
  have e':(b,o)=p:=XS e
  subst e'
  exact ⟨hb,q⟩
theorem Inv.pinned {pins:List (Addr×Obj)} {U:St} {H:Hp} {s:Shared} {fp:List Addr} (I:Inv X pins U H s) (hf:∀ b∈fp,n6 X pins H b) (ho:∀ b∈fp,∃ o,s.heap.get? b=some o/\∀ v,o.data≠.cell v):Inv X (pins ++ vm fp s.heap) U H s:=
 I.pins_of fun p hp=>(Yz.mp hp).elim (fun z=>I.pin p (YC _ z)) fun z=>by
  obtain ⟨hb,e⟩:=Fy z
  obtain ⟨f0,f1,f2,_⟩:=hf p.1 hb
  obtain ⟨o,e',d⟩:=ho p.1 hb
  rw [e] at e';cases e'
  exact ⟨e,f0,f1,f2,d⟩
theorem Inv.unpinned {pins pl:List (Addr×Obj)} {U:St} {H:Hp} {s:Shared} (I:Inv X (pins ++ pl) U H s):Inv X pins U H s:=I.pins_of fun p hp=>I.pin p (YC _ (Zz _ hp))
theorem Ru {iter:Expr} {body:List Stmt} {wi:TI} {g:TG} {tb:TS} {pos:Pos} (hp:PassesOwn (model X.prog X.w) X.A X.env X.xe) (hc:X.calm=true) (hi:PI X tg iter wi) (hg:PG X tg g) (hb:PSs X body tb)
  (hs:autoParam (∀ x,foldedSetIterable iter X.env x=pure x) L2.auto3._auto_1):PS X (.For tg iter body [] pos) (Mu wi g tb):=by
 intro pins s U H D I h
 refine wpAny_For (eQ (hi pins s U H _ I h) fun v s1 h1=>eQ h1 fun itv s2 h2=>?_) hs
 obtain ⟨it,fp,tn,J,H2,e,I2,T,st2,f2,W,⟨m0,w0⟩,turn⟩:=h2
 subst e
 have stat:∀ {H':Hp},(∀ b∈fp,H' b=none)->∀ b∈fp,n6 X pins H' b:=fun hn b hb=>⟨hn b hb,(f2 b hb).2⟩
 refine codeAny_forLoop_any (fun n s'=>∃ i U' H',Inv X pins U' H' s'/\tn i s'.heap/\(∀ b∈fp,H' b=none)/\W i n U' H') ?_ m0 ⟨0,U,H2,I2,st2,fun b hb=>(f2 b hb).1,w0⟩
 rintro n s3 ⟨i,σ3,H3,I3,st3,fr3,w3⟩
 rcases turn i n σ3 H3 w3 with ⟨stop,qn⟩ | ⟨go,N,hN,step⟩
 ·refine Zx hp (eQ (T.done X rfl rfl rfl hc i pins s3 σ3 H3 X.xe I3 (stat fr3) st3 stop) fun r s4 qq0=>?_)
  obtain ⟨hr,I4⟩:=qq0
  subst hr
  exact wpAny_execs_nil ⟨σ3,H3,I4,qn⟩
 ·refine Zx hp (eQ (T.item X rfl rfl rfl hc i pins s3 σ3 H3 X.xe I3 (stat fr3) st3 go) fun r s4 qq0=>?_)
  obtain ⟨u,hr,h4⟩:=qq0
  subst hr
  refine Zx hp (eQ h4 fun _ s5 qq0=>?_)
  obtain ⟨x,H5,I5,r5,y5,st5,fr5⟩:=qq0
  have I5':=I5.pinned (stat fr5) (T.obj _ _ st5)
  refine Zx hp (eQ (hg _ s5 σ3 H5 x u _ I5' r5 (step x H5 y5)) fun _ s6 qq0=>?_)
  obtain ⟨σ6,H6,I6,q6⟩:=qq0
  refine Zx hp (eQ (hb _ s6 σ6 H6 _ I6 q6) fun f s7 q7=>?_)
  have again:∀ {σ7:St} {H7:Hp},Inv X (pins ++ vm fp s5.heap) σ7 H7 s7->N σ7 H7->∃ m,m < n/\∃ i U' H',Inv X pins U' H' s7/\tn i s7.heap/\(∀ b∈fp,H' b=none)/\W i m U' H':=fun {σ7 H7} I7 n7=>by
   obtain ⟨m',hm,w7⟩:=hN σ7 H7 n7
   refine ⟨m',hm,i+1,σ7,H7,I7.unpinned,T.keep _ _ _ st5 fun b hb o e=>(I7.pin (b,o) (YC _ (YC _ (qj hb e)))).1,fun b hb=>?_,w7⟩
   obtain ⟨o,e,d⟩:=T.obj _ _ st5 b hb
   exact (I7.pin (b,o) (YC _ (YC _ (qj hb e)))).2.1
  cases f with
  | next=>obtain ⟨σ7,H7,I7,n7⟩:=q7;exact again I7 n7
  | cont=>obtain ⟨σ7,H7,I7,n7⟩:=q7;exact again I7 n7
  | brk=>obtain ⟨σ7,H7,I7,q7⟩:=q7;exact ⟨σ7,H7,I7.unpinned,q7⟩
  | ret v=>obtain ⟨x7,σ7,H7,I7,r7,q7⟩:=q7;exact ⟨x7,σ7,H7,I7.unpinned,r7,q7⟩
end
theorem zF {K:W.Frag} {a:Addr} {xs:List V} {g:TG} {tb:TS} {D:Ends} {U:St} {H:Hp} (Pv:Nat->St->Hp->Prop) (h0:Pv 0 U H) (hl:∀ i U H,i<=xs.length->Pv i U H->SqL K H a xs)
  (hs:∀ i x U H,xs[i]?=some x->Pv i U H->g x U H fun σ2 H2=>tb {D with nx:=Pv (i+1),ct:=Pv (i+1),bk:=D.nx} σ2 H2) (hd:∀ U H,Pv xs.length U H->D.nx U H):
  ∃ W:Nat->Nat->St->Hp->Prop,(∃ m,W 0 m U H)/\∀ i m U H,W i m U H->
   ((Qm K a).stop i H/\D.nx U H)\/((Qm K a).go i H/\∃ N:St->Hp->Prop,(∀ U' H',N U' H'->∃ m',m' < m/\W (i+1) m' U' H')/\∀ x H',(Qm K a).yld i H x H'->g x U H' fun σ2 H2=>tb {D with nx:=N,ct:=N,bk:=D.nx} σ2 H2):=by
 refine ⟨fun i m U H=>m=xs.length - i/\i<=xs.length/\Pv i U H,⟨xs.length,by simp,YK _,h0⟩,?_⟩
 rintro i m U H ⟨rfl,hi,p⟩
 have q:=hl i U H hi p
 by_cases hlt:i < xs.length
 ·refine .inr ⟨⟨xs,xs[i],q,by simp [hlt]⟩,Pv (i+1),fun U' H' p'=>⟨xs.length - (i+1),by omega,rfl,hlt,p'⟩,fun x H' y=>?_⟩
  obtain ⟨e,y⟩:=y
  subst e
  exact hs i x U _ (y xs q) p
 ·have e:i=xs.length:=by omega
  subst e
  exact .inl ⟨⟨xs,q,Xp _⟩,hd U H p⟩
theorem Mv {K:W.Frag} {a:Addr} {xs:List V} {g:TG} {tb:TS} {D:Ends} {U:St} {H:Hp} (Pv:Nat->St->Hp->Prop) (h0:Pv 0 U H) (hl:∀ i U H,i<=xs.length->Pv i U H->SqT K H a xs)
  (hs:∀ i x U H,xs[i]?=some x->Pv i U H->g x U H fun σ2 H2=>tb {D with nx:=Pv (i+1),ct:=Pv (i+1),bk:=D.nx} σ2 H2) (hd:∀ U H,Pv xs.length U H->D.nx U H):
  ∃ W:Nat->Nat->St->Hp->Prop,(∃ m,W 0 m U H)/\∀ i m U H,W i m U H->
   ((Qn K a).stop i H/\D.nx U H)\/((Qn K a).go i H/\∃ N:St->Hp->Prop,(∀ U' H',N U' H'->∃ m',m' < m/\W (i+1) m' U' H')/\∀ x H',(Qn K a).yld i H x H'->g x U H' fun σ2 H2=>tb {D with nx:=N,ct:=N,bk:=D.nx} σ2 H2):=by
 refine ⟨fun i m U H=>m=xs.length - i/\i<=xs.length/\Pv i U H,⟨xs.length,by simp,YK _,h0⟩,?_⟩
 rintro i m U H ⟨rfl,hi,p⟩
 have q:=hl i U H hi p
 by_cases hlt:i < xs.length
 ·refine .inr ⟨⟨xs,xs[i],q,by simp [hlt]⟩,Pv (i+1),fun U' H' p'=>⟨xs.length - (i+1),by omega,rfl,hlt,p'⟩,fun x H' y=>?_⟩
  obtain ⟨e,y⟩:=y
  subst e
  exact hs i x U _ (y xs q) p
 ·have e:i=xs.length:=by omega
  subst e
  exact .inl ⟨⟨xs,q,Xp _⟩,hd U H p⟩
theorem xn {lo:Int} {n:Nat} {g:TG} {tb:TS} {D:Ends} {U:St} {H:Hp} (Pv:Nat->St->Hp->Prop) (h0:Pv 0 U H)
  (hs:∀ i U H,i < n->Pv i U H->g (.int (lo+i)) U H fun σ2 H2=>tb {D with nx:=Pv (i+1),ct:=Pv (i+1),bk:=D.nx} σ2 H2) (hd:∀ U H,Pv n U H->D.nx U H):
  ∃ W:Nat->Nat->St->Hp->Prop,(∃ m,W 0 m U H)/\∀ i m U H,W i m U H->
   ((HR lo n).stop i H/\D.nx U H)\/((HR lo n).go i H/\∃ N:St->Hp->Prop,(∀ U' H',N U' H'->∃ m',m' < m/\W (i+1) m' U' H')/\∀ x H',(HR lo n).yld i H x H'->g x U H' fun σ2 H2=>tb {D with nx:=N,ct:=N,bk:=D.nx} σ2 H2):=by
 refine ⟨fun i m U H=>m=n - i/\i<=n/\Pv i U H,⟨n,by simp,YK _,h0⟩,?_⟩
 rintro i m U H ⟨rfl,hi,p⟩
 by_cases hlt:i < n
 ·refine .inr ⟨hlt,Pv (i+1),fun U' H' p'=>⟨n - (i+1),by omega,rfl,hlt,p'⟩,fun x H' y=>?_⟩
  obtain ⟨e,y⟩:=y
  subst e y
  exact hs i U _ hlt p
 ·have e:i=n:=by omega
  subst e
  exact .inl ⟨Xp _,hd U H p⟩
theorem HX {c:TT} {tb:TS} {D:Ends} {U:St} {H:Hp} (Pv:St->Hp->Prop) (μ:St->Hp->Nat) (h0:Pv U H)
  (hs:∀ U H,Pv U H->c U H fun b H1=>if b=true then tb {D with nx:=fun U' H'=>Pv U' H'/\μ U' H' < μ U H,ct:=fun U' H'=>Pv U' H'/\μ U' H' < μ U H,bk:=D.nx} U H1 else D.nx U H1)
  (mono:∀ U H Q Q',(∀ b H1,Q b H1->Q' b H1)->c U H Q->c U H Q'):Bs c tb D U H:=by
 refine ⟨fun m U H=>m=μ U H/\Pv U H,⟨_,rfl,h0⟩,?_⟩
 rintro m U H ⟨rfl,p⟩
 refine mono U H _ _ (fun b H1 q=>?_) (hs U H p)
 cases b with
 | true=>exact ⟨_,fun U' H' ⟨p',l⟩=>⟨_,l,rfl,p'⟩,q⟩
 | false=>exact q
abbrev R2:=V->V->Hp->VK->Prop
def OpR (X:Cx) (f:Value->Value->Sem Value) (r:R2):Prop:=
 ∀ (pins:List (Addr×Obj)) (s:Shared) (U:St) (H:Hp) (x y:V) (v u:Value) (Q:VK),Inv X pins U H s->RelV x v->RelV y u->r x y H Q->
  wpAny (model X.prog X.w) X.A (f v u) (EP X pins U Q) X.xe s
def CallR (X:Cx) (f:Value) (r:List V->Hp->VK->Prop):Prop:=
 ∀ (pins:List (Addr×Obj)) (s:Shared) (U:St) (H:Hp) (xs:List V) (us:List Value) (Q:VK),Inv X pins U H s->Vals xs us->r xs H Q->
  wpAny (model X.prog X.w) X.A (call f us) (EP X pins U Q) X.xe s
def TruR (X:Cx) (r:V->Hp->(Bool->Hp->Prop)->Prop):Prop:=
 ∀ (pins:List (Addr×Obj)) (s:Shared) (U:St) (H:Hp) (x:V) (v:Value) (Q:Bool->Hp->Prop),Inv X pins U H s->RelV x v->r x H Q->
  wpAny (model X.prog X.w) X.A (truthy v) (TP X pins U Q) X.xe s
def HY (r:R2) (ta tb:TE):TE:=fun U H Q=>ta U H fun x H1=>tb U H1 fun y H2=>r x y H2 Q
def rI (C:Int->Int->Prop) (g:Int->Int->V):R2:=fun x y H Q=>∃ i j,x= .int i/\y= .int j/\C i j/\Q (g i j) H
def Ia (g:Int->Int->V):R2:=fun x y H Q=>∃ i j,x= .int i/\y= .int j/\Q (g i j) H
section
variable {X:Cx} {a b c:Expr} {ta tb tc:TE} {pos:Pos}
theorem Rv (ha:PE X a ta) (hb:PE X b tb) {pins:List (Addr×Obj)} {s:Shared} {U:St} {H:Hp} {R:V->V->Hp->Prop} (I:Inv X pins U H s)
  (h:ta U H fun x H1=>tb U H1 fun y H2=>R x y H2) {Q:Value->Shared->Prop} {f:Value->Value->Sem Value}
  (hf:∀ v u s2 x y H2,Inv X pins U H2 s2->RelV x v->RelV y u->R x y H2->wpAny (model X.prog X.w) X.A (f v u) Q X.xe s2):
  wpAny (model X.prog X.w) X.A (eval a X.env) (fun v s₁=>wpAny (model X.prog X.w) X.A (eval b X.env) (fun u s₂=>wpAny (model X.prog X.w) X.A (f v u) Q X.xe s₂) X.xe s₁) X.xe s:=by
 refine eQ (ha pins s U H _ I h) fun v s1 qq0=>?_
 obtain ⟨x,H1,I1,r1,q1⟩:=qq0
 refine eQ (hb pins s1 U H1 _ I1 q1) fun u s2 qq0=>?_
 obtain ⟨y,H2,I2,r2,q2⟩:=qq0
 exact hf v u s2 x y H2 I2 r1 r2 q2
theorem Vh {op:Operator} {r:R2} (ho:OpR X (binaryOp op) r) (ha:PE X a ta) (hb:PE X b tb):PE X (.BinOp a op b pos) (HY r ta tb):=by
 intro pins s U H Q I h
 exact wpAny_BinOp (Rv ha hb I h fun v u s2 x y H2 I2 rx ry q=>ho pins s2 U H2 x y v u Q I2 rx ry q)
theorem Vi {f:Value->Value->Sem Value} {C:Int->Int->Prop} {g:Int->Int->Int}
  (rule:∀ (i j:Int) (t u:Tok) (s:Shared) (Q:Value->Shared->Prop) (E:Value->Shared->Prop),C i j->Q (.int (g i j) s.toks) {s with toks:=s.toks+1}->wpAny (model X.prog X.w) X.A (f (.int i t) (.int j u)) Q E s):
  OpR X f (rI C fun i j=>.int (g i j)):=by
 intro pins s U H x y v u Q I rx ry h
 obtain ⟨i,j,rfl,rfl,hc,q⟩:=h
 obtain ⟨t,rfl⟩:=rx
 obtain ⟨t',rfl⟩:=ry
 exact rule i j t t' s _ _ hc ⟨.int (g i j),H,I.tok _,⟨_,rfl⟩,q⟩
theorem Rw {f:Value->Value->Sem Value} {g:Int->Int->Int}
  (rule:∀ (i j:Int) (t u:Tok) (s:Shared) (Q:Value->Shared->Prop) (E:Value->Shared->Prop),Q (.int (g i j) s.toks) {s with toks:=s.toks+1}->wpAny (model X.prog X.w) X.A (f (.int i t) (.int j u)) Q E s):
  OpR X f (Ia fun i j=>.int (g i j)):=by
 intro pins s U H x y v u Q I rx ry h
 obtain ⟨i,j,rfl,rfl,q⟩:=h
 obtain ⟨t,rfl⟩:=rx
 obtain ⟨t',rfl⟩:=ry
 exact rule i j t t' s _ _ ⟨.int (g i j),H,I.tok _,⟨_,rfl⟩,q⟩
theorem Mw {f:Value->Value->Sem Value} {g:Int->Int->Bool}
  (rule:∀ (i j:Int) (t u:Tok) (s:Shared) (Q:Value->Shared->Prop) (E:Value->Shared->Prop),Q (.bool (g i j)) s->wpAny (model X.prog X.w) X.A (f (.int i t) (.int j u)) Q E s):
  OpR X f (Ia fun i j=>.bl (g i j)):=by
 intro pins s U H x y v u Q I rx ry h
 obtain ⟨i,j,rfl,rfl,q⟩:=h
 obtain ⟨t,rfl⟩:=rx
 obtain ⟨t',rfl⟩:=ry
 exact rule i j t t' s _ _ ⟨.bl (g i j),H,I,rfl,q⟩
def CDiv (i j:Int):Prop:=0 < j/\j < 1073741824
def CPow (i j:Int):Prop:=0<=j/\j<=1000000/\i.natAbs < 2 ^ 64
def CMul (i j:Int):Prop:=(-(2 ^ 64) < i/\i < 2 ^ 64)\/(-(2 ^ 64) < j/\j < 2 ^ 64)
theorem CMul.ok {i j:Int} (h:CMul i j):IntMulOk i j:=by
 rcases h with ⟨h1,h2⟩ | ⟨h1,h2⟩
 ·exact .of_left (intBits_le_64 h1 h2)
 ·exact .of_right (intBits_le_64 h1 h2)
theorem Rx:OpR X (binaryOp .Add) (Ia fun i j=>.int (i+j)):=Rw fun _ _ _ _ _ _ _ q=>add_int q
theorem jj:OpR X (binaryOp .Sub) (Ia fun i j=>.int (i - j)):=Rw fun _ _ _ _ _ _ _ q=>sub_int q
theorem Ry:OpR X (binaryOp .Mult) (rI CMul fun i j=>.int (i*j)):=Vi fun _ _ _ _ _ _ _ hc q=>mul_int q hc.ok
theorem Mx:OpR X (binaryOp .FloorDiv) (rI CDiv fun i j=>.int (i / j)):=Vi fun i j _ _ _ _ _ hc q=>by
 have h1:(0:Int) < j:=hc.1
 have h2:j < 1073741824:=hc.2
 exact floordiv_int (by omega) (by rw [Int.fdiv_eq_ediv_of_nonneg i (by omega)];exact q) (.inl (PyProof.noPylong_small (by omega)))
theorem sY:OpR X (binaryOp .Mod) (rI (fun _ j=>0 < j) fun i j=>.int (i % j)):=Vi fun i j _ _ _ _ _ hc q=>by
 have h1:(0:Int) < j:=hc
 exact mod_int' (by omega) (by rw [Int.fmod_eq_emod_of_nonneg i (by omega)];exact q)
theorem Ib:OpR X (binaryOp .Pow) (rI CPow fun i j=>.int (i ^ j.toNat)):=Vi fun _ _ _ _ _ _ _ hc q=>pow_int_small hc.1 hc.2.1 hc.2.2 q
theorem Mz:OpR X (inplaceOp .Sub) (Ia fun i j=>.int (i - j)):=Rw fun _ _ _ _ _ _ _ q=>isub_int q
end
def Vj:V->V->Bool
 | .non,.non=>true | .non,.int _=>true | .int _,.non=>true | .non,.bl _=>true | .bl _,.non=>true | .non,.str _=>true | .str _,.non=>true
 | .int _,.int _=>true | .bl _,.bl _=>true | .str _,.str _=>true | .byt _,.byt _=>true
 | .int _,.str _=>true | .str _,.int _=>true | .bl _,.str _=>true | .str _,.bl _=>true
 | _,_=>false
def rEq:R2:=fun x y H Q=>Vj x y=true/\Q (.bl (decide (x=y))) H
def rNe:R2:=fun x y H Q=>Vj x y=true/\Q (.bl (!decide (x=y))) H
theorem Dt {i j:Int}:decide (V.int i=V.int j)=(i == j):=by
 rw [Bool.eq_iff_iff]
 simp
theorem Ie {i j:Bool}:decide (V.bl i=V.bl j)=(i == j):=by
 rw [Bool.eq_iff_iff]
 simp
theorem Du {i j:Str}:decide (V.str i=V.str j)=(i == j):=by
 rw [Bool.eq_iff_iff]
 simp
theorem Dv {i j:Array UInt8}:decide (V.byt i=V.byt j)=(i.toList == j.toList):=by
 rw [Bool.eq_iff_iff]
 cases i
 cases j
 simp
section
variable {X:Cx} {a b c:Expr} {ta tb tc:TE} {pos:Pos}
theorem bF {pins:List (Addr×Obj)} {U:St} {H:Hp} {s:Shared} {Q:VK} {k k':Bool} (I:Inv X pins U H s) (q:Q (.bl k) H) (e:k=k'):EP X pins U Q (.bool k') s:=by
 subst e
 exact ⟨.bl k,H,I,rfl,q⟩
theorem Vk:OpR X (compareOp .Eq) rEq:=by
 intro pins s U H x y v u Q I rx ry h
 obtain ⟨hs,q⟩:=h
 cases x with
 | non=>
  cases rx
  cases y with
  | non=>cases ry;exact PySem.EqNone.eq_none_none (bF I q (by simp))
  | bl j=>cases ry;exact PySem.EqNone.eq_none_bool (bF I q (by simp))
  | int j=>obtain ⟨t',rfl⟩:=ry;exact PySem.EqNone.eq_none_int (bF I q (by simp))
  | str j=>obtain ⟨t',rfl⟩:=ry;exact PySem.EqNone.eq_none_str (bF I q (by simp))
  | _=>exact absurd (show false=true from hs) Xz
 | bl i=>
  cases rx
  cases y with
  | non=>cases ry;exact PySem.EqNone.eq_bool_none (bF I q (by simp))
  | bl j=>cases ry;exact eq_bool (bF I q Ie)
  | str j=>obtain ⟨t',rfl⟩:=ry;exact PySem.EqMixed.eq_bool_str (bF I q (by simp))
  | _=>exact absurd (show false=true from hs) Xz
 | int i=>
  obtain ⟨t,rfl⟩:=rx
  cases y with
  | non=>cases ry;exact PySem.EqNone.eq_int_none (bF I q (by simp))
  | int j=>obtain ⟨t',rfl⟩:=ry;exact eq_int (bF I q Dt)
  | str j=>obtain ⟨t',rfl⟩:=ry;exact PySem.EqMixed.eq_int_str (bF I q (by simp))
  | _=>exact absurd (show false=true from hs) Xz
 | str i=>
  obtain ⟨t,rfl⟩:=rx
  cases y with
  | non=>cases ry;exact PySem.EqNone.eq_str_none (bF I q (by simp))
  | bl j=>cases ry;exact PySem.EqMixed.eq_str_bool (bF I q (by simp))
  | int j=>obtain ⟨t',rfl⟩:=ry;exact PySem.EqMixed.eq_str_int (bF I q (by simp))
  | str j=>obtain ⟨t',rfl⟩:=ry;exact eq_str (bF I q Du)
  | _=>exact absurd (show false=true from hs) Xz
 | byt i=>
  obtain ⟨t,rfl⟩:=rx
  cases y with
  | byt j=>obtain ⟨t',rfl⟩:=ry;exact PySem.W.eq_bytes (bF I q Dv)
  | _=>exact absurd (show false=true from hs) Xz
 | _=>cases y <;> exact absurd (show false=true from hs) Xz
theorem Vl:OpR X (compareOp .NotEq) rNe:=by
 intro pins s U H x y v u Q I rx ry h
 obtain ⟨hs,q⟩:=h
 cases x with
 | non=>
  cases rx
  cases y with
  | non=>cases ry;exact PySem.EqNone.ne_none_none (bF I q (by simp))
  | bl j=>cases ry;exact PySem.EqNone.ne_none_bool (bF I q (by simp))
  | int j=>obtain ⟨t',rfl⟩:=ry;exact PySem.EqNone.ne_none_int (bF I q (by simp))
  | str j=>obtain ⟨t',rfl⟩:=ry;exact PySem.EqNone.ne_none_str (bF I q (by simp))
  | _=>exact absurd (show false=true from hs) Xz
 | bl i=>
  cases rx
  cases y with
  | non=>cases ry;exact PySem.EqNone.ne_bool_none (bF I q (by simp))
  | bl j=>cases ry;exact ne_bool (bF I q (congrArg not Ie))
  | str j=>obtain ⟨t',rfl⟩:=ry;exact PySem.EqMixed.ne_bool_str (bF I q (by simp))
  | _=>exact absurd (show false=true from hs) Xz
 | int i=>
  obtain ⟨t,rfl⟩:=rx
  cases y with
  | non=>cases ry;exact PySem.EqNone.ne_int_none (bF I q (by simp))
  | int j=>obtain ⟨t',rfl⟩:=ry;exact ne_int (bF I q (congrArg not Dt))
  | str j=>obtain ⟨t',rfl⟩:=ry;exact PySem.EqMixed.ne_int_str (bF I q (by simp))
  | _=>exact absurd (show false=true from hs) Xz
 | str i=>
  obtain ⟨t,rfl⟩:=rx
  cases y with
  | non=>cases ry;exact PySem.EqNone.ne_str_none (bF I q (by simp))
  | bl j=>cases ry;exact PySem.EqMixed.ne_str_bool (bF I q (by simp))
  | int j=>obtain ⟨t',rfl⟩:=ry;exact PySem.EqMixed.ne_str_int (bF I q (by simp))
  | str j=>obtain ⟨t',rfl⟩:=ry;exact ne_str (bF I q (congrArg not Du))
  | _=>exact absurd (show false=true from hs) Xz
 | byt i=>
  obtain ⟨t,rfl⟩:=rx
  cases y with
  | byt j=>obtain ⟨t',rfl⟩:=ry;exact PySem.W.ne_bytes (bF I q (congrArg not Dv))
  | _=>exact absurd (show false=true from hs) Xz
 | _=>cases y <;> exact absurd (show false=true from hs) Xz
theorem rE:OpR X (compareOp .Lt) (Ia fun i j=>.bl (decide (i < j))):=Mw fun _ _ _ _ _ _ _ q=>lt_int q
theorem Ig:OpR X (compareOp .LtE) (Ia fun i j=>.bl (decide (i<=j))):=Mw fun _ _ _ _ _ _ _ q=>le_int q
theorem vo:OpR X (compareOp .Gt) (Ia fun i j=>.bl (decide (j < i))):=Mw fun _ _ _ _ _ _ _ q=>gt_int q
theorem xq:OpR X (compareOp .GtE) (Ia fun i j=>.bl (decide (j<=i))):=Mw fun _ _ _ _ _ _ _ q=>ge_int q
theorem Fz:OpR X (compareOp .In) (fun x y H Q=>∃ i j,x= .str i/\y= .str j/\Q (.bl (!(Builtin.Str.occurrences j i 0 j.length 1).isEmpty)) H):=by
 intro pins s U H x y v u Q I rx ry h
 obtain ⟨i,j,rfl,rfl,q⟩:=h
 obtain ⟨t,rfl⟩:=rx
 obtain ⟨t',rfl⟩:=ry
 exact in_str (bF I q rfl)
theorem Rz:OpR X (compareOp .Is) (fun x y H Q=>y= .non/\Q (.bl (decide (x= .non))) H):=by
 intro pins s U H x y v u Q I rx ry h
 obtain ⟨rfl,q⟩:=h
 cases ry
 refine is_none_gen (bF I q ?_)
 cases x <;> first
  | (cases rx;rfl)
  | (obtain ⟨t,rfl⟩:=rx;rfl)
theorem OpR.or {f:Value->Value->Sem Value} {r r':R2} (h:OpR X f r) (h':OpR X f r'):OpR X f (fun x y H Q=>r x y H Q\/r' x y H Q):=by
 intro pins s U H x y v u Q I rx ry q
 rcases q with q | q
 ·exact h pins s U H x y v u Q I rx ry q
 ·exact h' pins s U H x y v u Q I rx ry q
theorem aV (b:Expr) {op:CmpOp} (h:autoParam (op≠.In) L2.auto2._auto_1) (h2:autoParam (op≠.NotIn) L2.auto2._auto_1):behindInMarks op b=false:=by
 have e1:(op == CmpOp.In)=false:=by cases op <;> first | rfl | exact absurd rfl h
 have e2:(op == CmpOp.NotIn)=false:=by cases op <;> first | rfl | exact absurd rfl h2
 cases b <;> simp [behindInMarks,e1,e2]
theorem MF {op:CmpOp} {r:R2} (ho:OpR X (compareOp op) r) (ha:PE X a ta) (hb:PE X b tb) (hm:behindInMarks op b=false):PE X (.Compare a [op] [b] pos) (HY r ta tb):=by
 intro pins s U H Q I h
 exact wpAny_Compare1 (Rv ha hb I h fun v u s2 x y H2 I2 rx ry q=>ho pins s2 U H2 x y v u Q I2 rx ry q) hm
def Dw (t:TE):TT:=fun U H Q=>t U H fun x H'=>∃ k,x= .bl k/\Q k H'
theorem MJ {op:CmpOp} {r:R2} (ho:OpR X (compareOp op) r) (ha:PE X a ta) (hb:PE X b tb) (hm:behindInMarks op b=false):PT X (.Compare a [op] [b] pos) (Dw (HY r ta tb)):=by
 intro pins s U H Q I h
 refine wpAny_isTrue_Compare1 (eQ (ha pins s U H _ I h) fun v s1 ⟨x,H1,I1,r1,q1⟩=>eQ (hb pins s1 U H1 _ I1 q1) fun u s2 ⟨y,H2,I2,r2,q2⟩=>
  eQ (ho pins s2 U H2 x y v u _ I2 r1 r2 q2) fun c s3 ⟨z,H3,I3,r3,k,e,q3⟩=>?_) hm
 subst e
 cases r3
 exact Y7 ⟨H3,I3,q3⟩
def Bv (r r':R2) (ta tb tc:TE):TE:=fun U H Q=>ta U H fun x H1=>tb U H1 fun y H2=>r x y H2 fun z H3=>∃ k,z= .bl k/\
 (if k=true then tc U H3 fun w' H4=>r' y w' H4 Q else Q (.bl false) H3)
theorem Ih {op op':CmpOp} {r r':R2} (ho:OpR X (compareOp op) r) (ho':OpR X (compareOp op') r') (ha:PE X a ta) (hb:PE X b tb) (hc:PE X c tc)
  (hm:autoParam (lastMarks [op,op'] [b,c]=false) L2.auto5._auto_1):PE X (.Compare a [op,op'] [b,c] pos) (Bv r r' ta tb tc):=by
 intro pins s U H Q I h
 refine Compare_chain (eQ (ha pins s U H _ I h) fun v s1 ⟨x,H1,I1,r1,q1⟩=>chain_link (eQ (hb pins s1 U H1 _ I1 q1) fun u s2 ⟨y,H2,I2,r2,q2⟩=>
  eQ (ho pins s2 U H2 x y v u _ I2 r1 r2 q2) fun d s3 ⟨z,H3,I3,r3,k,e,q3⟩=>?_)) hm
 subst e
 cases r3
 refine Y7 ?_
 cases k with
 | false=>exact ite_ff ⟨.bl false,H3,I3,rfl,q3⟩
 | true=>exact ite_tt (chain_last (eQ (hc pins s3 U H3 _ I3 q3) fun w' s4 ⟨z',H4,I4,r4,q4⟩=>ho' pins s4 U H4 y z' u w' Q I4 r2 r4 q4))
def Ii (K:W.Frag) (x:V) (H:Hp) (k:Bool):Prop:=
 match x with
 | .non=>k=false
 | .bl b=>k=b
 | .int i=>k=(i != 0)
 | .str y=>y.length<=sizeLine/\k=((y.length:Int) != 0)
 | .byt y=>y.size<=sizeLine/\k=((y.size:Int) != 0)
 | .ref p=>(∃ xs,SqL K H p xs/\k=!xs.isEmpty)\/(∃ xs,SqT K H p xs/\k=!xs.isEmpty)\/∃ kvs,H p=some (.dK kvs)/\k=!kvs.isEmpty
 | _=>False
theorem Bw {κ:Type} {kvs:List (κ×V)} {vs:List (κ×Value)} (r:KV kvs vs):(!vs.isEmpty)=!kvs.isEmpty:=by
 cases r <;> rfl
theorem vp {xs:List V} {its:List Value} (r:Vals xs its):(!its.toArray.isEmpty)=!xs.isEmpty:=by
 cases r <;> simp
theorem sZ:(sizeLine:Nat) < 2 ^ 63:=by rw [sizeLine_eq];decide
theorem RB:TruR X (fun x H Q=>∃ k,Ii X.K x H k/\Q k H):=by
 intro pins s U H x v Q I rx h
 obtain ⟨k,e,q⟩:=h
 have hl:=sZ
 have hs:sizeLine=16777216:=sizeLine_eq
 cases x with
 | non=>
  cases rx
  have e':k=false:=e
  subst e'
  exact truthy_none ⟨H,I,q⟩
 | bl b=>
  cases rx
  have e':k=b:=e
  subst e'
  exact Y7 ⟨H,I,q⟩
 | int i=>
  obtain ⟨t,rfl⟩:=rx
  have e':k=(i != 0):=e
  subst e'
  exact PySem.P.truthy_int ⟨H,I,q⟩
 | str y=>
  obtain ⟨t,rfl⟩:=rx
  obtain ⟨hy,e'⟩:y.length<=sizeLine/\k=((y.length:Int) != 0):=e
  subst e'
  exact PySem.P.truthy_str (by omega) ⟨H,I.tok _,q⟩
 | byt y=>
  obtain ⟨t,rfl⟩:=rx
  obtain ⟨hy,e'⟩:y.size<=sizeLine/\k=((y.size:Int) != 0):=e
  subst e'
  exact PySem.W.truthy_bytes (by omega) ⟨H,I.tok _,q⟩
 | ref p=>
  cases rx
  have e':(∃ xs,SqL X.K H p xs/\k=!xs.isEmpty)\/(∃ xs,SqT X.K H p xs/\k=!xs.isEmpty)\/∃ kvs,H p=some (.dK kvs)/\k=!kvs.isEmpty:=e
  rcases e' with ⟨xs,hx,e'⟩ | ⟨xs,hx,e'⟩ | ⟨kvs,hx,e'⟩
  ·subst e'
   obtain ⟨its,r,pl,hz⟩:=I.list hx
   have hlen:=r.length
   exact wpAny_truthy_list pl.isList (by simp only [XM];omega) ⟨H,I.tok _,by rw [vp r];exact q⟩
  ·subst e'
   obtain ⟨its,r,pl,hz⟩:=I.tuple hx
   have hlen:=r.length
   exact truthy_tuple pl (by simp only [XM];omega) ⟨H,I.tok _,by rw [vp r];exact q⟩
  ·subst e'
   obtain ⟨hz,hS,vs,r,m⟩:kvs.length<=sizeLine/\(p == sysModules)=false/\∃ vs,KV kvs vs/\s.heap.DictOf (cX X.prog X.w) p vs:=I.hok p _ hx
   have hlen:kvs.length=vs.length:=Paired.length r
   exact wpAny_truthy_dict hS m (by omega) ⟨H,I.tok _,by rw [Bw r];exact q⟩
 | _=>exact (show False from e).elim
theorem Ij (ha:PE X a ta) (he:∀ whole,isTrue a X.env whole=(do let v ← whole;standAt a.pos;holding [v] (truthy v))):
  PT X a (fun U H Q=>ta U H fun x H'=>∃ k,Ii X.K x H' k/\Q k H'):=by
 intro pins s U H Q I h
 exact isTrue_plain (eQ (ha pins s U H _ I h) fun v s1 ⟨x,H1,I1,r1,q1⟩=>RB pins s1 U H1 x v Q I1 r1 q1) (he _)
theorem Bx:OpR X (binaryOp .Add) (fun x y H Q=>∃ i j,x= .str i/\y= .str j/\i.length+j.length<=sizeLine/\Q (.str (i ++ j)) H):=by
 intro pins s U H x y v u Q I rx ry h
 obtain ⟨i,j,rfl,rfl,hz,q⟩:=h
 obtain ⟨t,rfl⟩:=rx
 obtain ⟨t',rfl⟩:=ry
 exact add_str (fun t' tk=>⟨.str (i ++ j),H,I.tok _,⟨_,rfl⟩,q⟩) hz
theorem vals1 {x:V} {us:List Value} (r:Vals [x] us):∃ u,us=[u]/\RelV x u:=by
 cases r with
 | cons r1 r2=>cases r2;exact ⟨_,rfl,r1⟩
theorem vals2 {x y:V} {us:List Value} (r:Vals [x,y] us):∃ u w',us=[u,w']/\RelV x u/\RelV y w':=by
 cases r with
 | cons r1 r2=>
  cases r2 with
  | cons r3 r4=>cases r4;exact ⟨_,_,rfl,r1,r3⟩
theorem FJ (hc:X.calm=true):CallR X (.builtin "min") (fun xs H Q=>∃ i j,xs=[.int i,.int j]/\Q (.int (if j < i then j else i)) H):=by
 intro pins s U H xs us Q I r h
 obtain ⟨i,j,rfl,q⟩:=h
 obtain ⟨u,w',rfl,⟨t,rfl⟩,⟨t',rfl⟩⟩:=vals2 r
 refine min_two_ints (I.ok.hd hc) fun h' tk k=>⟨_,H,I.kept k,?_,q⟩
 by_cases hj:j < i
 ·rw [if_pos hj,if_pos hj];exact ⟨_,rfl⟩
 ·rw [if_neg hj,if_neg hj];exact ⟨_,rfl⟩
def Vm (K:W.Frag) (x:V) (H:Hp) (n:Nat):Prop:=
 match x with
 | .str y=>y.length<=sizeLine/\n=y.length
 | .byt y=>y.size<=sizeLine/\n=y.size
 | .ref p=>(∃ xs,SqL K H p xs/\n=xs.length)\/∃ xs,SqT K H p xs/\n=xs.length
 | _=>False
theorem Ik:CallR X (.builtin "len") (fun xs H Q=>∃ x n,xs=[x]/\Vm X.K x H n/\Q (.int n) H):=by
 intro pins s U H xs us Q I r h
 obtain ⟨x,n,rfl,e,q⟩:=h
 obtain ⟨u,rfl,rx⟩:=vals1 r
 have hl:=sZ
 have hs:sizeLine=16777216:=sizeLine_eq
 cases x with
 | str y=>
  obtain ⟨t,rfl⟩:=rx
  obtain ⟨hy,e'⟩:y.length<=sizeLine/\n=y.length:=e
  subst e'
  exact len_str (by omega) ⟨.int _,H,I.tok _,⟨_,rfl⟩,q⟩
 | byt y=>
  obtain ⟨t,rfl⟩:=rx
  obtain ⟨hy,e'⟩:y.size<=sizeLine/\n=y.size:=e
  subst e'
  exact PySem.W.len_bytes (by omega) ⟨.int _,H,I.tok _,⟨_,rfl⟩,q⟩
 | ref p=>
  cases rx
  have e':(∃ xs,SqL X.K H p xs/\n=xs.length)\/∃ xs,SqT X.K H p xs/\n=xs.length:=e
  rcases e' with ⟨xs,hx,e'⟩ | ⟨xs,hx,e'⟩
  ·subst e'
   obtain ⟨its,r',pl,hz⟩:=I.list hx
   have hlen:=r'.length
   exact Calls.call_len_list pl.isList (by simp only [XM];omega) ⟨.int xs.length,H,I.tok _,⟨_,by simp only [XM];rw [hlen]⟩,q⟩
  ·subst e'
   obtain ⟨its,r',pl,hz⟩:=I.tuple hx
   have hlen:=r'.length
   exact len_tuple pl (by simp only [XM];omega) ⟨.int xs.length,H,I.tok _,⟨_,by simp only [XM];rw [hlen]⟩,q⟩
 | _=>exact (show False from e).elim
end
structure ObjM (h:Heap) (x dx C:Addr) (mA:Str->Option Value):Prop where
 obj:h.get? x=some (PySem.W.instObj C dx)
 ns:h.Ns1 dx mA
 ne:dx≠x
theorem tD {h:Heap} {dx:Addr} {mA:Str->Option Value} (n:h.Ns1 dx mA):∃ od,h.get? dx=some od/\∀ name,PySem.W.lookIn name od=some (mA name):=by
 obtain ⟨o,es,ep,ho,hd,hk,_,hm⟩:=n
 refine ⟨o,ho,fun name=>?_⟩
 have e:=hm name
 unfold nsFind findBy at e
 rw [← Array.find?_toList] at e
 unfold PySem.W.lookIn
 rw [hd]
 dsimp only
 split
 ·rename_i y q
  rw [q] at e
  exact congrArg some e
 ·rename_i q
  rw [q] at e
  have a:es.toList.any (·.refKey)=false:=by
   rw [List.any_eq_false]
   intro y hy
   obtain ⟨z,t,hkey⟩:=hk y (Array.mem_toList_iff.mp hy)
   simp [DictEntry.refKey,hkey]
  have a':¬ es.toList.any (·.refKey)=true:=by rw [a];exact Xz
  rw [if_neg a']
  exact congrArg some e
theorem ObjM.look {h:Heap} {x dx C:Addr} {mA:Str->Option Value} (I:ObjM h x dx C mA):∃ od,PySem.W.InstAt h x (PySem.W.instObj C dx) C (some od)/\∀ name,PySem.W.lookIn name od=some (mA name):=
 let ⟨od,ho,hl⟩:=tD I.ns
 ⟨od,⟨I.obj,rfl,rfl,ho⟩,hl⟩
section
variable {prog:Program} {w:World} {A:Around} {E:Value->Shared->Prop} {s:Shared} {K:W.Frag} {x dx C f:Addr} {mA:Str->Option Value} {name:Str} {v:Value}
theorem MK {expr:Bool} {Q:Value->Shared->Prop} (X:K.In s.heap) (I:ObjM s.heap x dx C mA) (hg:PySem.W.plainGet K C name=true) (hh:PySem.W.hasDictIn K C=true)
  (ha:PySem.W.findIn K (.ref C) name=some none) (hv:mA name=some v) (hv':PySem.W.handedIn v=true) (h:Q v {s with toks:=s.toks+1}):
  wpAny (model prog w) A (getAttr (.ref x) name expr) Q E s:=by
 obtain ⟨od,J,hl⟩:=I.look
 exact PySem.W.get_value X J (PySem.W.plainGet_of hg).1 (PySem.W.findObj_own hh ha rfl (by rw [hl,hv])) hv' h
theorem Il {pl:Sem Bool} {Q:Value×List Value->Shared->Prop} (X:K.In s.heap) (I:ObjM s.heap x dx C mA) (hg:PySem.W.plainGet K C name=true)
  (hf:PySem.W.findIn K (.ref C) name=some (some (.ref f))) (ht:PySem.W.isFn K (.ref f)=true) (hv:mA name=none) (h:Q (.ref f,[.ref x]) s):
  wpAny (model prog w) A (getMethod (.ref x) name pl) Q E s:=by
 obtain ⟨od,J,hl⟩:=I.look
 exact PySem.W.method_fn X J (PySem.W.plainGet_of hg).1 (PySem.W.plainGet_of hg).2 hf (Zh.mp ht) (by show (PySem.W.lookIn name od).map (·.isSome)=some false;rw [hl,hv];rfl) h
theorem MN {ns:List Str} {Q:Unit->Shared->Prop} (X:K.In s.heap) (I:ObjM s.heap x dx C mA)
  (hs:PySem.W.findIn K (.ref C) "__setattr__"=some (some (.builtin "object.__setattr__"))) (hp:PySem.W.plainOver K C=true) (ht:PySem.W.takerIn K C name=some none) (hh:PySem.W.hasDictIn K C=true)
  (hw:PySem.Within mA ns) (hsz:ns.length<=sizeLine)
  (h:∀ h',ObjM h' x dx C (fun y=>if y=name then some v else mA y)->Heap.SameBut dx s.heap h'->Q () {s with heap:=h',toks:=s.toks+2}):
  wpAny (model prog w) A (setAttr (.ref x) name v) Q E s:=by
 obtain ⟨od,J,hl⟩:=I.look
 refine PySem.W.set_plain X J hs (PySem.W.osa_open (s:={s with toks:=s.toks+1}) (r:=none) X J hp ht fun b=>?_)
 obtain ⟨cd,hc,hd'⟩:=PySem.W.any_some hh
 have hx:s.heap.get? x=some ⟨.ref C,some dx,.plain,#[]⟩:=I.obj
 refine Xj (Xo (Xj (Xj (Z1 hx (Xj (PySem.W.Looks.here (s:={s with toks:=s.toks+1}) (PySem.W.looks_clsIn X hc) ?_))))))
 rw [hd']
 refine Xo (a:=some dx) (Xj (Xo (Xj ?_)))
 refine wpAny_nsSet1 (s:={s with toks:=s.toks+1}) I.ns fun h' hn2 hs2=>?_
 obtain ⟨oD,esD,epD,hoD,hdD,hcD⟩:=hn2.count (PySem.Within.cons name v hw)
 refine Xj (wpAny_lookBehind hoD (by rw [hdD];exact pastItsLine_dict (Xv hcD (by rw [Yu];omega))) ?_)
 exact Xo (h _ ⟨(hs2.2 _ (Ne.symm I.ne)).trans I.obj,hn2,I.ne⟩ hs2)
theorem Im {R:Result->Shared->Prop} {vs:List Value} {kw:List (Str×Value)} (X:K.In s.heap) (hm:PySem.W.makesIn K C=true)
  (hi:PySem.W.findIn K (.ref C) "__init__"=some (some (.ref f))) (hf:PySem.W.typeIn K (.ref f)=some (.type "function"))
  (h:codeAny (model prog w) (A.under (.builtin "type.__call__" ⟨.ref C :: vs,kw⟩)) (.call (.ref f) ⟨.ref (s.heap.objs.size+1) :: vs,kw⟩) (PySem.W.InitBack (s.heap.objs.size+1) R)
   {s with heap:=(s.heap.push PySem.W.emptyDict).push (PySem.W.instObj C s.heap.objs.size)}):
  codeAny (model prog w) A (.call (.ref C) ⟨vs,kw⟩) R s:=by
 obtain ⟨hh,g,d,t,os⟩:=s
 exact PySem.W.make_core (PySem.W.makes_of X hm) (Zc X hi) (fun self=>PySem.W.bind_fn X self hf) (.inl rfl) h
end
def cu (f:Str) (v:V):List (Str×V)->List (Str×V)
 | []=>[(f,v)]
 | (g,x) :: r=>if g=f then (g,v) :: r else (g,x) :: cu f v r
theorem n8 (f g:Str) (v:V):∀ fs:List (Str×V),(cu f v fs).lookup g=if g=f then some v else fs.lookup g
 | []=>by
  show List.lookup g [(f,v)]=_
  by_cases h:g=f
  ·have hb:(g == f)=true:=Zh.mpr h
   simp only [List.lookup,hb,if_pos h]
  ·have hb:(g == f)=false:=Zq.mpr h
   simp only [List.lookup,hb,if_neg h]
 | (k,x) :: r=>by
  have ih:=n8 f g v r
  rw [show cu f v ((k,x) :: r)=(if k=f then (k,v) :: r else (k,x) :: cu f v r) from rfl]
  by_cases hk:k=f
  ·rw [if_pos hk]
   by_cases h:g=k
   ·have hb:(g == k)=true:=Zh.mpr h
    simp only [List.lookup,hb,if_pos (h.trans hk)]
   ·have hb:(g == k)=false:=Zq.mpr h
    simp only [List.lookup,hb,if_neg (fun e:g=f=>h (e.trans hk.symm))]
  ·rw [if_neg hk]
   by_cases h:g=k
   ·have hb:(g == k)=true:=Zh.mpr h
    simp only [List.lookup,hb,if_neg (fun e:g=f=>hk (h.symm.trans e))]
   ·have hb:(g == k)=false:=Zq.mpr h
    simp only [List.lookup,hb]
    exact ih
theorem tE (f:Str) (v:V):∀ fs:List (Str×V),f∈(cu f v fs).map (·.1)/\∀ g,g∈fs.map (·.1)->g∈(cu f v fs).map (·.1)
 | []=>⟨by simp [cu],fun g h=>by simp at h⟩
 | (k,x) :: r=>by
  obtain ⟨i1,i2⟩:=tE f v r
  rw [show cu f v ((k,x) :: r)=(if k=f then (k,v) :: r else (k,x) :: cu f v r) from rfl]
  by_cases hk:k=f
  ·rw [if_pos hk]
   subst hk
   exact ⟨by simp,fun g h=>by simpa using h⟩
  ·rw [if_neg hk]
   refine ⟨?_,fun g h=>?_⟩
   ·rw [Yk]
    exact XR _ i1
   ·rw [Yk] at h ⊢
    rcases XD.mp h with e | e
    ·exact XD.mpr (.inl e)
    ·exact XR _ (i2 g e)
theorem ut (f:Str) (v:V):∀ fs:List (Str×V),(cu f v fs).length<=fs.length+1
 | []=>by simp [cu]
 | (k,x) :: r=>by
  have ih:=ut f v r
  rw [show cu f v ((k,x) :: r)=(if k=f then (k,v) :: r else (k,x) :: cu f v r) from rfl]
  by_cases hk:k=f
  ·rw [if_pos hk,Yu,Yu];omega
  ·rw [if_neg hk,Yu,Yu];omega
theorem RelO.some_of {v:V} {o:Option Value} (r:RelO (some v) o):∃ u,o=some u/\RelV v u:=by
 cases o with
 | none=>exact (show False from r).elim
 | some u=>exact ⟨u,rfl,r⟩
theorem RelO.none_of {o:Option Value} (r:RelO none o):o=none:=by
 cases o with
 | none=>rfl
 | some u=>exact (show False from r).elim
theorem xr {v:V} {u:Value} (r:RelV v u):PySem.W.handedIn u=true:=by
 cases v with
 | non=>cases (show u=Value.none from r);rfl
 | bl b=>cases (show u=Value.bool b from r);rfl
 | int i=>obtain ⟨t,e⟩:=(show ∃ t,u=Value.int i t from r);cases e;rfl
 | str x=>obtain ⟨t,e⟩:=(show ∃ t,u=Value.str x t from r);cases e;rfl
 | byt b=>obtain ⟨t,e⟩:=(show ∃ t,u=Value.bytes b t from r);cases e;rfl
 | flt b=>obtain ⟨t,e⟩:=(show ∃ t,u=Value.float b t from r);cases e;rfl
 | ref a=>cases (show u=Value.ref a from r);rfl
 | ty n=>cases (show u=Value.type n from r);rfl
section
variable {P:Program} {w:World} {H H':Hp} {h h':Heap} {a C dx:Addr} {fs fs':List (Str×V)}
theorem rF (hok:HOk P w H h) (e:H a=some (.ins C dx fs)):∃ mA,ObjM h a dx C mA/\(∀ f,RelO (fs.lookup f) (mA f))/\PySem.Within mA (fs.map (·.1))/\fs.length<=1000/\H dx=some (.own a):=by
 obtain ⟨d,z,ne,ob,mA,n,r,q⟩:=(show ObjOk P w H h a (.ins C dx fs) from hok a _ e)
 exact ⟨mA,⟨ob,n,ne⟩,r,q,z,d⟩
end
structure Cls (K:W.Frag) (C:Addr):Prop where
 pg:PySem.W.plainGet K C Str.empty=true
 hd:PySem.W.hasDictIn K C=true
 po:PySem.W.plainOver K C=true
 sa:PySem.W.findIn K (.ref C) "__setattr__"=some (some (.builtin "object.__setattr__"))
theorem Cls.get {K:W.Frag} {C:Addr} (c:Cls K C) (f:Str):PySem.W.plainGet K C f=true:=c.pg
def NoAttr (K:W.Frag) (C:Addr) (f:Str):Prop:=PySem.W.findIn K (.ref C) f=some none
theorem NoAttr.taker {K:W.Frag} {C:Addr} {f:Str} (n:NoAttr K C f):PySem.W.takerIn K C f=some none:=by
 unfold PySem.W.takerIn
 rw [show PySem.W.findIn K (.ref C) f=some none from n]
 rfl
structure Meth (K:W.Frag) (C:Addr) (m:Str) (f:Addr):Prop where
 at_:PySem.W.findIn K (.ref C) m=some (some (.ref f))
 fn:PySem.W.isFn K (.ref f)=true
 kp:PySem.W.keepIn K (.ref f)=true
section
variable {X:Cx} {pins:List (Addr×Obj)} {U:St} {H:Hp} {s:Shared} {a C dx:Addr} {fs:List (Str×V)} {f:Str} {v:V} {A:Around} {E:Value->Shared->Prop}
theorem vq {b:Bool} {Q:Value->Shared->Prop} (I:Inv X pins U H s) (e:H a=some (.ins C dx fs)) (c:Cls X.K C) (n:NoAttr X.K C f) (l:fs.lookup f=some v)
  (h:∀ u s',Inv X pins U H s'->RelV v u->Q u s'):wpAny (model X.prog X.w) A (getAttr (.ref a) f b) Q E s:=by
 obtain ⟨mA,O,r,_,_,_⟩:=rF I.hok e
 obtain ⟨u,hu,ru⟩:=RelO.some_of (v:=v) (o:=mA f) (by rw [← l];exact r f)
 exact MK I.kIn O (c.get f) c.hd n hu (xr ru) (h u _ (I.tok _) ru)
theorem vy {m:Str} {g:Addr} {pl:Sem Bool} {Q:Value×List Value->Shared->Prop} (I:Inv X pins U H s) (e:H a=some (.ins C dx fs)) (c:Cls X.K C) (k:Meth X.K C m g) (l:fs.lookup m=none)
  (h:Q (.ref g,[.ref a]) s):wpAny (model X.prog X.w) A (getMethod (.ref a) m pl) Q E s:=by
 obtain ⟨mA,O,r,_,_,_⟩:=rF I.hok e
 have hn:mA m=none:=RelO.none_of (by rw [← l];exact r m)
 exact Il I.kIn O (c.get m) k.at_ k.fn hn h
theorem vz {y:V} {u:Value} {Q:Unit->Shared->Prop} (I:Inv X pins U H s) (e:H a=some (.ins C dx fs)) (c:Cls X.K C) (n:NoAttr X.K C f) (hl:fs.length < 1000) (ry:RelV y u)
  (h:∀ s',Inv X pins U (upd H a (.ins C dx (cu f y fs))) s'->Q () s'):wpAny (model X.prog X.w) A (setAttr (.ref a) f u) Q E s:=by
 obtain ⟨mA,O,r,wi,_,ho⟩:=rF I.hok e
 have hz:(fs.map (·.1)).length<=sizeLine:=by rw [Xu,sizeLine_eq];omega
 refine MN I.kIn O c.sa c.po n.taker c.hd wi hz fun h' O' sb=>h _ ?_
 have hd:∃ o,h'.get? dx=some o:=let ⟨o,_,_,e',_⟩:=O'.ns;⟨o,e'⟩
 refine I.write (x:=a) (e:=dx) (by rw [e];exact True.intro) (.inr ho) (fun b q hb z=>(sb.2 b hb).trans z) hd ?_
 refine ⟨by rw [aC O.ne];exact ho,?_,O.ne,O'.obj,_,O'.ns,fun g=>?_,fun g hg=>?_⟩
 ·have:=ut f y fs;omega
 ·show RelO ((cu f y fs).lookup g) (if g=f then some u else mA g)
  rw [n8]
  by_cases q:g=f
  ·rw [if_pos q,if_pos q];exact ry
  ·rw [if_neg q,if_neg q];exact r g
 ·by_cases q:g=f
  ·rw [q];exact (tE f y fs).1
  ·refine (tE f y fs).2 g (wi g fun z=>hg ?_)
   show (if g=f then some u else mA g)=none
   rw [if_neg q];exact z
theorem Inv.made (I:Inv X pins U H s):Inv X pins U (upd (upd H s.heap.objs.size (.own (s.heap.objs.size+1))) (s.heap.objs.size+1) (.ins C s.heap.objs.size []))
  {s with heap:=(s.heap.push PySem.W.emptyDict).push (PySem.W.instObj C s.heap.objs.size)}:=by
 have e1:(s.heap.push PySem.W.emptyDict).get? s.heap.objs.size=some PySem.W.emptyDict:=Xy s.heap rfl
 have e2:((s.heap.push PySem.W.emptyDict).push (PySem.W.instObj C s.heap.objs.size)).get? (s.heap.objs.size+1)=some (PySem.W.instObj C s.heap.objs.size):=by
  have:=Xy (s.heap.push PySem.W.emptyDict) (o:=PySem.W.instObj C s.heap.objs.size) rfl
  rwa [YT] at this
 have e3:(s.heap.push PySem.W.emptyDict).Ns s.heap.objs.size (fun _=>none):=⟨PySem.W.emptyDict,#[],_,e1,rfl,(fun e he=>absurd he (by simp)),fun _=>rfl⟩
 have I1:=I.laid (a:=s.heap.objs.size) (o:=.own (s.heap.objs.size+1)) (h':=s.heap.push PySem.W.emptyDict) (t':=s.toks) (fun b u q=>Xm _ q) (Xp _) ⟨_,e1⟩
 refine I1.laid (a:=s.heap.objs.size+1) (o:=.ins C s.heap.objs.size []) (t':=s.toks) (fun b u q=>Xm _ q) (Za (YT _ _)) ?_
 have ne:s.heap.objs.size≠s.heap.objs.size+1:=Yh (Z8 _)
 refine ⟨by rw [aC ne,aj],YK _,ne,e2,fun _=>none,(Heap.Ns1.of_empty e3).at fun o q=>Xm _ q,fun _=>True.intro,fun y hy=>absurd rfl hy⟩
theorem Dy {prog:Program} {w:World} {env:Env} {e:Expr} {f:Str} {pos:Pos} {s:Shared} {Q:Value->Shared->Prop} (hb:attributeBase e f env (eval e env)=eval e env)
  (h:wpAny (model prog w) A (eval e env) (fun o s₁=>wpAny (model prog w) A (getAttr o f true) Q E s₁) E s):wpAny (model prog w) A (eval (.Attribute e f pos) env) Q E s:=
 Attribute_any_ h (by rw [arm_eval_Attribute,hb])
end
def RC (K:W.Frag) (ta:TE) (f:Str):TE:=fun U H Q=>ta U H fun x H1=>∃ a C dx fs v,x= .ref a/\H1 a=some (.ins C dx fs)/\Cls K C/\NoAttr K C f/\fs.lookup f=some v/\Q v H1
def RD (K:W.Frag) (ta tv:TE) (f:Str):TS:=fun D U H=>tv U H fun y H1=>ta U H1 fun x H2=>∃ a C dx fs,x= .ref a/\H2 a=some (.ins C dx fs)/\Cls K C/\NoAttr K C f/\fs.length < 1000/\
 D.nx U (upd H2 a (.ins C dx (cu f y fs)))
def RG (X:Cx) (op:Operator) (rd:V->V->Hp->VK->Prop):Prop:=
 ∀ (pins:List (Addr×Obj)) (s:Shared) (U:St) (H:Hp) (x y:V) (u v:Value) (Q:VK),Inv X pins U H s->RelV x u->RelV y v->rd x y H Q->wpAny (model X.prog X.w) X.A (inplaceOp op u v) (EP X pins U Q) X.xe s
def yo (K:W.Frag) (ta tv:TE) (rd:V->V->Hp->VK->Prop) (f:Str):TS:=fun D U H=>ta U H fun x H1=>∃ a C dx fs v,x= .ref a/\H1 a=some (.ins C dx fs)/\Cls K C/\NoAttr K C f/\fs.lookup f=some v/\
 tv U H1 fun y H2=>rd v y H2 fun z H3=>∃ dx' fs',H3 a=some (.ins C dx' fs')/\fs'.length < 1000/\D.nx U (upd H3 a (.ins C dx' (cu f z fs')))
section
variable {X:Cx} {o e value:Expr} {f:Str} {pos pos' tpos:Pos} {ta tv:TE}
theorem RJ (he:PE X e ta) (hb:attributeBase e f X.env (eval e X.env)=eval e X.env):PE X (.Attribute e f pos) (RC X.K ta f):=by
 intro pins s U H Q I h
 refine Dy hb (eQ (he pins s U H _ I h) fun u s1 qq0=>?_)
 obtain ⟨x,H1,I1,rx,a,C,dx,fs,v,ex,ea,c,n,l,q⟩:=qq0
 subst ex
 obtain rfl:u=Value.ref a:=rx
 exact vq I1 ea c n l fun u' s2 I2 ru=>⟨v,H1,I2,ru,q⟩
theorem RK (ha:PE X o ta) (hv:PE X value tv) (hs:swapsWith value (some (.Attribute o f pos')) pos.line X.env=pure false):PS X (.Assign [.Attribute o f pos'] value pos) (RD X.K ta tv f):=by
 intro pins s U H D I h
 refine plainObj_wpAny_Assign_Attribute (eQ (hv pins s U H _ I h) fun u s1 ⟨y,H1,I1,ry,q⟩=>eQ (ha pins s1 U H1 _ I1 q) fun ov s2 qq0=>?_) hs
 obtain ⟨x,H2,I2,rx,a,C,dx,fs,ex,ea,c,n,l,q2⟩:=qq0
 subst ex
 obtain rfl:ov=Value.ref a:=rx
 exact vz I2 ea c n l ry fun s3 I3=>⟨U,_,I3,q2⟩
theorem FN {op:Operator} {rd:V->V->Hp->VK->Prop} (ha:PE X o ta) (hv:PE X value tv) (hop:RG X op rd):PS X (.AugAssign (.Attribute o f tpos) op value pos) (yo X.K ta tv rd f):=by
 intro pins s U H D I h
 refine wpAny_AugAssign_AttributeAny (eQ (ha pins s U H _ I h) fun ov s1 qq0=>?_)
 obtain ⟨x,H1,I1,rx,a,C,dx,fs,v,ex,ea,c,n,l,q⟩:=qq0
 subst ex
 obtain rfl:ov=Value.ref a:=rx
 refine vq I1 ea c n l fun u s2 I2 ru=>eQ (hv pins s2 U H1 _ I2 q) fun w3 s3 ⟨y,H2,I3,ry,q3⟩=>eQ (hop pins s3 U H2 v y u w3 _ I3 ru ry q3) fun w4 s4 qq0=>?_
 obtain ⟨z,H3,I4,rz,dx',fs',ea',l',q4⟩:=qq0
 exact vz I4 ea' c n l' rz fun s5 I5=>⟨U,_,I5,q4⟩
def rAdd:V->V->Hp->VK->Prop:=fun x y H Q=>∃ i j,x= .int i/\y= .int j/\Q (.int (i+j)) H
theorem RL:RG X .Add rAdd:=by
 rintro pins s U H x y u v Q I rx ry ⟨i,j,rfl,rfl,q⟩
 obtain ⟨t,rfl⟩:=(show ∃ t,u=Value.int i t from rx)
 obtain ⟨t',rfl⟩:=(show ∃ t',v=Value.int j t' from ry)
 exact PyProof.Rows.iadd_int ⟨.int (i+j),H,I.tok _,⟨_,rfl⟩,q⟩
end
section
variable {X:Cx} {pins:List (Addr×Obj)} {U:St} {H:Hp} {s:Shared} {A:Around} {E:Value->Shared->Prop} {Q:Value->Shared->Prop} {c:Value} {b:Bool}
inductive TyOf (K:W.Frag) (H:Hp):V->Value->Prop where
 | non:TyOf K H .non (.type "NoneType")
 | bl (x:Bool):TyOf K H (.bl x) (.type "bool")
 | int (i:Int):TyOf K H (.int i) (.type "int")
 | str (x:Str):TyOf K H (.str x) (.type "str")
 | flt (x:UInt64):TyOf K H (.flt x) (.type "float")
 | lst {a:Addr} {xs:List V} (e:H a=some (.lst xs)):TyOf K H (.ref a) (.type "list")
 | frz {a:Addr} {o:Obj} {xs:List V} (e:H a=some (.frz o (.lst xs))):TyOf K H (.ref a) (.type "list")
 | tup {a:Addr} {xs:List V} (e:H a=some (.tup xs)):TyOf K H (.ref a) (.type "tuple")
 | dK {a:Addr} {kvs:List (Key×V)} (e:H a=some (.dK kvs)):TyOf K H (.ref a) (.type "dict")
 | dT {a:Addr} {kvs:List (List Key×V)} (e:H a=some (.dT kvs)):TyOf K H (.ref a) (.type "dict")
 | ins {a C dx:Addr} {fs:List (Str×V)} (e:H a=some (.ins C dx fs)) (cl:Cls K C) (ha:PySem.W.findIn K (.ref C) "__class__"=some (some (.builtin "object.__class__")))
   (hn:PySem.W.specialIn K (.builtin "object.__class__") "__get__"=some (some (.builtin "getset_descriptor.__get__"))) (htk:PySem.W.takesIn K (.builtin "object.__class__")=some true)
   (hm:PySem.W.mroIn K C (.type "object")=some true):TyOf K H (.ref a) (.ref C)
theorem FP {x:V} {u t:Value} (I:Inv X pins U H s) (rx:RelV x u) (ty:TyOf X.K H x t) (e:PySem.W.kitOne X.K t c=some b) (h:∀ tk,Q (.bool b) {s with toks:=tk}):
  wpAny (model X.prog X.w) A (call (.builtin "isinstance") [u,c]) Q E s:=by
 cases ty with
 | non=>cases (show u=Value.none from rx);exact YW PySem.W.kitx_none I.kIn True.intro e (fun z=>nomatch z) h
 | bl y=>cases (show u=Value.bool y from rx);exact YW PySem.W.kitx_bool I.kIn True.intro e (fun z=>nomatch z) h
 | int i=>obtain ⟨t,q⟩:=(show ∃ t,u=Value.int i t from rx);cases q;exact YW PySem.W.kitx_int I.kIn True.intro e (fun z=>nomatch z) h
 | str y=>obtain ⟨t,q⟩:=(show ∃ t,u=Value.str y t from rx);cases q;exact YW PySem.W.kitx_str I.kIn True.intro e (fun z=>nomatch z) h
 | flt y=>obtain ⟨t,q⟩:=(show ∃ t,u=Value.float y t from rx);cases q;exact YW PySem.W.kitx_float I.kIn True.intro e (fun z=>nomatch z) h
 | @lst a xs ea=>
  cases (show u=Value.ref a from rx)
  obtain ⟨_,_,n,_,h1⟩:=(show ObjOk X.prog X.w H s.heap a (.lst xs) from I.hok a _ ea)
  exact YW PySem.W.kitx_list I.kIn ⟨_,h1,rfl⟩ e (fun z=>nomatch z) h
 | @frz a ob xs ea=>
  cases (show u=Value.ref a from rx)
  obtain ⟨_,_,_,n,_,h1⟩:=(show ObjOk X.prog X.w H s.heap a (.frz ob (.lst xs)) from I.hok a _ ea)
  exact YW PySem.W.kitx_list I.kIn ⟨_,h1,rfl⟩ e (fun z=>nomatch z) h
 | @tup a xs ea=>
  cases (show u=Value.ref a from rx)
  obtain ⟨_,_,_,p⟩:=(show ObjOk X.prog X.w H s.heap a (.tup xs) from I.hok a _ ea)
  obtain ⟨o,h1,h2,_⟩:=p
  exact YW PySem.W.kitx_tuple I.kIn ⟨o,h1,h2⟩ e (fun z=>nomatch z) h
 | @dK a kvs ea=>
  cases (show u=Value.ref a from rx)
  obtain ⟨_,_,vs,_,p⟩:=(show ObjOk X.prog X.w H s.heap a (.dK kvs) from I.hok a _ ea)
  obtain ⟨o,es,ep,h1,h2,_⟩:=p
  exact YW PySem.W.kitx_dict I.kIn ⟨o,h1,h2.1⟩ e (fun z=>nomatch z) h
 | @dT a kvs ea=>
  cases (show u=Value.ref a from rx)
  obtain ⟨_,_,xs,_,o,es,ep,h1,h2,_⟩:=(show ObjOk X.prog X.w H s.heap a (.dT kvs) from I.hok a _ ea)
  exact YW PySem.W.kitx_dict I.kIn ⟨o,h1,h2.1⟩ e (fun z=>nomatch z) h
 | @ins a C dx fs ea cl ha hn htk hm=>
  cases (show u=Value.ref a from rx)
  obtain ⟨mA,O,_⟩:=rF I.hok ea
  obtain ⟨od,J,_⟩:=O.look
  exact YW (PySem.W.kitx_own (cl.get _) cl.hd ha hn htk hm) I.kIn J e (fun z=>nomatch z) h
end
structure Room (k:Nat) (A:Around):Prop where
 hd:A.handled=none
 dp:A.depth+3*k+5 < recursionLimit
 un:A.units+16*k+200 < cLine
 gd:A.guards=some []
theorem Room.mono {j k:Nat} {A:Around} (r:Room k A) (h:j<=k):Room j A:=⟨r.hd,by have:=r.dp;omega,by have:=r.un;omega,r.gd⟩
theorem Room.deeper {k:Nat} {A:Around} (r:Room (k+1) A) (env:Env):Room k (A.deeper env):=
 ⟨r.hd,by have:=r.dp;show A.depth+1+3*k+5 < _;omega,by have:=r.un;show A.units+3+16*k+200 < _;omega,r.gd⟩
theorem By {A:Around} {C:Addr} {us:List Value} {kw:List (Str×Value)}:(A.under (.builtin "type.__call__" ⟨.ref C :: us,kw⟩)).depth=A.depth+1:=by
 first | rfl | simp [Around.under,Code.weight,Code.isCreation,Code.isGuard,Code.isCaller,Code.frames,Code.isFrame,guardIds]
theorem BJ {A:Around} {C:Addr} {us:List Value} {kw:List (Str×Value)}:(A.under (.builtin "type.__call__" ⟨.ref C :: us,kw⟩)).units=A.units+1:=by
 first | rfl | simp [Around.under,Code.cUnits,Code.frames,Code.isFrame]
theorem zG {A:Around} {C:Addr} {us:List Value} {kw:List (Str×Value)}:(A.under (.builtin "type.__call__" ⟨.ref C :: us,kw⟩)).guards=pushGuards [] A.guards:=by
 first | rfl | simp [Around.under,Code.guards,Code.isGuard,guardIds]
theorem Room.make {k:Nat} {A:Around} (r:Room (k+1) A) (C:Addr) (us:List Value) (kw:List (Str×Value)):Room k (A.under (.builtin "type.__call__" ⟨.ref C :: us,kw⟩)):=
 ⟨r.hd,by have:=r.dp;rw [By];omega,by have:=r.un;rw [BJ];omega,(zG.trans (by rw [r.gd];rfl))⟩
theorem Room.depth {k:Nat} {A:Around} (r:Room k A):A.depth < recursionLimit:=by have:=r.dp;omega
theorem Room.units {k:Nat} {A:Around} (r:Room k A):A.units+64 < cLine:=by have:=r.un;omega
theorem Room.units0 {k:Nat} {A:Around} (r:Room k A):A.units < cLine:=by have:=r.un;omega
def MP:TA:=fun _ H Q=>Q [] H
def Dz (ta:TE) (tr:TA):TA:=fun U H Q=>ta U H fun x H1=>tr U H1 fun xs H2=>Q (x :: xs) H2
section
variable {X:Cx} {e:Expr} {es:List Expr} {te:TE} {t:TA} {pos:Pos}
theorem RM:PA X [] MP:=fun _ _ _ _ H Q I h=>Calls.spliced_nil ⟨[],H,I,.nil,h⟩
theorem M9 (ha:PE X e te) (hr:PA X es t) (hs:autoParam (starEach (e :: es) X.env=(false,eval e X.env) :: starEach es X.env) L2.auto4._auto_1):PA X (e :: es) (Dz te t):=by
 intro pos pins s U H Q I h
 rw [hs]
 show wpAny _ _ (spliced ((false,eval e X.env) :: backTo pos (starEach es X.env))) _ _ s
 refine Calls.spliced_cons (eQ (ha pins s U H _ I h) fun u s1 qq0=>?_)
 obtain ⟨x,H1,I1,r1,q1⟩:=qq0
 exact eQ (hr pos pins s1 U H1 _ I1 q1) fun us s2 ⟨xs,H2,I2,r2,q2⟩=>⟨x :: xs,H2,I2,.cons r1 r2,q2⟩
def Nb (t:TA):TE:=fun U H Q=>t U H fun xs H1=>xs.length<=sizeLine/\∀ p,H1 p=none->Q (.ref p) (upd H1 p (.tup xs))
def Nf (t:TA):TE:=fun U H Q=>t U H fun xs H1=>xs.length<=sizeLine/\∀ p,H1 p=none->Q (.ref p) (upd H1 p (.lst xs))
theorem RN {x1} (h:PA X es t):PE X (.Tuple es x1 pos) (Nb t):=by
 intro pins s U H Q I hq
 refine wpAny_Tuple_spliced (eQ (h pos pins s U H _ I hq) fun us s1 ⟨xs,H1,I1,r,z,q⟩=>⟨by rw [← r.length];exact z,?_⟩)
 have hf:H1 s1.heap.objs.size=none:=I1.hok.fresh (Xp _)
 refine ⟨.ref s1.heap.objs.size,upd H1 s1.heap.objs.size (.tup xs),I1.laid (t':=s1.toks) (fun b u e=>Xm _ e) (Xp _) ?_,rfl,q _ hf⟩
 exact ⟨z,us,r,⟨_,Xy _ rfl,rfl,_,rfl⟩⟩
theorem RP (h:PA X es t):PE X (.List es pos) (Nf t):=by
 intro pins s U H Q I hq
 refine wpAny_List_spliced (eQ (h pos pins s U H _ I hq) fun us s1 ⟨xs,H1,I1,r,z,q⟩=>⟨by rw [← r.length];exact z,?_⟩)
 have hf:H1 s1.heap.objs.size=none:=I1.hok.fresh (Xp _)
 refine ⟨.ref s1.heap.objs.size,upd H1 s1.heap.objs.size (.lst xs),I1.laid (t':=s1.toks) (fun b u e=>Xm _ e) (Xp _) ?_,rfl,q _ hf⟩
 exact ⟨z,us,0,r,Xy _ rfl⟩
end
abbrev Sp:=List V->Hp->VK->XK->Prop
abbrev FQ:=List Env->Hp->Shared->XK->Value->Shared->Prop
structure Env0 (P:Program) (w:World) (K:W.Frag) (mg:Str->Option Value) (base:Heap) (A:Around) (outer:List Env) (s:Shared) (H:Hp):Prop where
 frames:A.frames=some outer
 mod:Mod K mg base
 bs:∀ b o,base.get? b=some o->s.heap.get? b=some o/\H b=none
 bsz:base.objs.size<=s.heap.objs.size
 funs:s.heap.FunFrames base outer
 frf:∀ b∈frs outer,H b=none
 hok:HOk P w H s.heap
 bare:AllBare s.gens
def CE (outer:List Env) (P:Program) (w:World) (H:Hp) (s:Shared) (Q:VK) (u:Value) (s':Shared):Prop:=
 ∃ v H',s'.os=s.os/\AllBare s'.gens/\Un (frs outer) [] H H' s.heap s'.heap/\HOk P w H' s'.heap/\RelV v u/\Q v H'
def CR (CX:FQ) (outer:List Env) (P:Program) (w:World) (H:Hp) (s:Shared) (Q:VK) (E:XK) (r:Result) (s':Shared):Prop:=
 match r with
 | .ok (.ret u)=>CE outer P w H s Q u s'
 | .ok _=>False
 | .error e=>CX outer H s E e s'
structure FnOk (P:Program) (w:World) (K:W.Frag) (mg:Str->Option Value) (base:Heap) (CX:FQ) (k:Nat) (f:Addr) (fd:FuncData) (ps:List Str) (sp:Sp):Prop where
 len:∀ vs H Q E,sp vs H Q E->vs.length=ps.length
 run:∀ (A:Around) (outer:List Env) (s:Shared) (H:Hp) (args:Args) (us:List Value) (vs:List V) (Q:VK) (E:XK),Room k A->Env0 P w K mg base A outer s H->BindsTo s fd args (ps.zip us)->Vals vs us->sp vs H Q E->
  codeAny (model P w) A (.call (.ref f) args) (CR CX outer P w H s Q E) s
theorem FnOk.mono {P:Program} {w:World} {K:W.Frag} {mg:Str->Option Value} {base:Heap} {CX:FQ} {j k:Nat} {f:Addr} {fd:FuncData} {ps:List Str} {sp:Sp} (F:FnOk P w K mg base CX j f fd ps sp) (h:j<=k):
  FnOk P w K mg base CX k f fd ps sp:=⟨F.len,fun A outer s H args us vs Q E hr=>F.run A outer s H args us vs Q E (hr.mono h)⟩
theorem Env0.make {P:Program} {w:World} {K:W.Frag} {mg:Str->Option Value} {base:Heap} {A:Around} {outer:List Env} {s:Shared} {H:Hp} (e:Env0 P w K mg base A outer s H) (C:Addr) (us:List Value) (kw:List (Str×Value)):
  Env0 P w K mg base (A.under (.builtin "type.__call__" ⟨.ref C :: us,kw⟩)) outer s H:=⟨by first | exact e.frames | (simpa [Around.under,Code.envs,Code.isFrame,pushEnvs] using e.frames),e.mod,e.bs,e.bsz,e.funs,e.frf,e.hok,e.bare⟩
section
variable {X:Cx} {pins:List (Addr×Obj)} {U:St} {H:Hp} {s s':Shared}
theorem Inv.env0 (I:Inv X pins U H s):Env0 X.prog X.w X.K X.mg X.base X.A X.stack s H:=
 ⟨I.ok.frames,I.ok.mod,I.bs,Xv I.ok.bsz I.sz,I.stack,I.stkFree,I.hok,I.bare⟩
theorem Inv.after {Q:VK} {u:Value} (I:Inv X pins U H s) (h:CE X.stack X.prog X.w H s Q u s'):EP X pins U Q u s':=by
 obtain ⟨v,H',os,bare,un,hok,r,q⟩:=h
 obtain ⟨hh,g,d,t,os'⟩:=s'
 obtain rfl:os'=s.os:=os
 exact ⟨v,H',I.call (h':=hh) (g':=g) (d':=d) (t':=t) (ch:=[]) un hok bare (fun b z=>absurd z (by simp)),r,q⟩
end
def xu (sp:Sp) (dvs:List V) (E:XK) (t:TA):TE:=fun U H Q=>t U H fun vs H1=>sp (vs ++ dvs) H1 Q E
def Binds (K:W.Frag) (fd:FuncData) (ps:List Str) (ds:List Value):Prop:=
 ∀ (s:Shared) (us:List Value),K.In s.heap->(us ++ ds).length=ps.length->BindsTo s fd ⟨us,[]⟩ (ps.zip (us ++ ds))
theorem Binds.all {K:W.Frag} {fd:FuncData} {ps:List Str} (h:∀ us:List Value,us.length=ps.length->bindArgs fd ⟨us,[]⟩=pure (ps.zip us)):Binds K fd ps []:=fun s us _ hl=>by
 rw [YG] at hl ⊢
 exact .of_eq (h us hl)
def BK (CX:FQ) (X:Cx) (E:XK):Prop:=∀ (pins:List (Addr×Obj)) (U:St) (H:Hp) (s:Shared) (e:Value) (s':Shared),Inv X pins U H s->CX X.stack H s E e s'->X.xe e s'
section
variable {X:Cx} {CX:FQ} {k:Nat} {f C:Addr} {fd:FuncData} {ps:List Str} {sp:Sp} {dvs:List V} {ds:List Value} {E:XK} {x m:Str} {p pos apos:Pos} {e o:Expr} {es:List Expr} {ta:TE} {t:TA}
theorem RQ {pins:List (Addr×Obj)} {U:St} {H:Hp} {s:Shared} {Q:VK} {us:List Value} {vs:List V} (F:FnOk X.prog X.w X.K X.mg X.base CX k f fd ps sp) (hr:Room k X.A) (hb:Binds X.K fd ps ds) (hd:Vals dvs ds) (hx:BK CX X E)
  (I:Inv X pins U H s) (r:Vals vs us) (h:sp (vs ++ dvs) H Q E):wpAny (model X.prog X.w) X.A (call (.ref f) us) (EP X pins U Q) X.xe s:=by
 have r2:Vals (vs ++ dvs) (us ++ ds):=r.append hd
 have hl:(us ++ ds).length=ps.length:=by rw [← r2.length];exact F.len _ _ _ _ h
 refine Z2 (codeAny_mono (F.run X.A X.stack s H ⟨us,[]⟩ (us ++ ds) (vs ++ dvs) Q E hr I.env0 (hb s us I.kIn hl) r2 h) fun r s' hq=>?_)
 cases r with
 | error e=>exact hx pins U H s e s' I hq
 | ok fl=>
  cases fl with
  | ret u=>exact I.after hq
  | next=>exact False.elim hq
  | brk=>exact False.elim hq
  | cont=>exact False.elim hq
theorem Ng (F:FnOk X.prog X.w X.K X.mg X.base CX k f fd ps sp) (hr:Room k X.A) (hg:Gl X x) (hm:X.mg x=some (.ref f)) (hk:PySem.W.keepIn X.K (.ref f)=true) (hb:Binds X.K fd ps ds) (hd:Vals dvs ds) (hx:BK CX X E)
  (ha:PA X (e :: es) t) (hdb:autoParam ((x == ("__debug__":Str))=false) L2.auto2._auto_1) (he:autoParam (starEach (e :: es) X.env=(false,eval e X.env) :: starEach es X.env) L2.auto4._auto_1) (hpl:autoParam ((backTo pos (starEach es X.env)).any (·.1)=false) L2.auto4._auto_1):
  PE X (.Call (.Name x p) (e :: es) [] pos) (xu sp dvs E t):=by
 intro pins s U H Q I h
 refine Yv (pA I hg hm ?_ hdb)
 refine ZP (h₀:=X.base) I.ok.mod.kin hk (eQ (ha pos pins s U H _ I h) fun us s1 ⟨vs,H1,I1,r,q⟩=>⟨I1.kIn,?_⟩) he hpl
 exact RQ F hr hb hd hx I1 r q
end
structure aD (N P:List Str) (sc:Scope):Prop where
 kind:sc.kind= .function
 co:sc.isCoroutine=false
 gen:sc.isGenerator=false
 nd:N.Nodup
 pre:N.take P.length=P
 par:∀ x∈P,sc.names.lookup x=some .local\/sc.names.lookup x=some .cell
 nofree:∀ y∈sc.names,y.2≠.free
theorem xx {kindOf:Str->Option NameKind} {x:Str}:∀ {binds:List (Str×Value)} {m:Str->Option Value},(∀ v,(x,v) ∉ binds)->bindL kindOf binds m x=m x
 | [],_,_=>rfl
 | (n,v) :: r,m,h=>by
  unfold bindL
  rw [xx fun w hw=>h w (XR _ hw)]
  split
  ·have:x≠n:=by rintro rfl;exact h v Yt
   simp [this]
  ·rfl
theorem xF {kindOf:Str->Option NameKind} {x:Str}:∀ {binds:List (Str×Value)} {m:Str->Option Value},(∀ v,(x,v) ∉ binds)->bindC kindOf binds m x=m x
 | [],_,_=>rfl
 | (n,v) :: r,m,h=>by
  unfold bindC
  rw [xF fun w hw=>h w (XR _ hw)]
  split
  ·rfl
  ·have:x≠n:=by rintro rfl;exact h v Yt
   simp [this]
theorem xG {kindOf:Str->Option NameKind} {x:Str} {v:Value}:∀ {P:List Str} {vs:List Value} {i:Nat} {m:Str->Option Value},P.Nodup->P[i]?=some x->vs[i]?=some v->kindOf x=some .local->
  bindL kindOf (P.zip vs) m x=some v
 | [],_,_,_,_,h,_,_=>by simp at h
 | _ :: _,[],_,_,_,_,h,_=>by simp at h
 | p :: P,w :: vs,0,m,nd,h1,h2,hk=>by
  simp at h1 h2;subst h1;subst h2
  show bindL kindOf ((p,w) :: P.zip vs) m p=_
  unfold bindL
  rw [xx fun v hv=>(List.nodup_cons.mp nd).1 (List.of_mem_zip hv).1,if_pos hk]
  simp
 | p :: P,w :: vs,i+1,m,nd,h1,h2,hk=>by
  show bindL kindOf ((p,w) :: P.zip vs) m x=_
  unfold bindL
  exact xG (i:=i) (List.nodup_cons.mp nd).2 (by simpa using h1) (by simpa using h2) hk
theorem xH {kindOf:Str->Option NameKind} {x:Str} {v:Value}:∀ {P:List Str} {vs:List Value} {i:Nat} {m:Str->Option Value},P.Nodup->P[i]?=some x->vs[i]?=some v->kindOf x≠some .local->
  bindC kindOf (P.zip vs) m x=some v
 | [],_,_,_,_,h,_,_=>by simp at h
 | _ :: _,[],_,_,_,_,h,_=>by simp at h
 | p :: P,w :: vs,0,m,nd,h1,h2,hk=>by
  simp at h1 h2;subst h1;subst h2
  show bindC kindOf ((p,w) :: P.zip vs) m p=_
  unfold bindC
  rw [xF fun v hv=>(List.nodup_cons.mp nd).1 (List.of_mem_zip hv).1,if_neg hk]
  simp
 | p :: P,w :: vs,i+1,m,nd,h1,h2,hk=>by
  show bindC kindOf ((p,w) :: P.zip vs) m x=_
  unfold bindC
  exact xH (i:=i) (List.nodup_cons.mp nd).2 (by simpa using h1) (by simpa using h2) hk
def start (N:List Str) (vs:List V):St:=vs.map some ++ List.replicate (N.length - vs.length) none
def ql (CX:FQ) (P:Program) (w:World) (K:W.Frag) (mg:Str->Option Value) (base:Heap) (N:List Str) (qual:Str) (scope:Scope) (f:Addr) (cd:Value) (A:Around) (outer:List Env) (s:Shared) (H:Hp) (E:XK):Cx where
 prog:=P
 w:=w
 K:=K
 mg:=mg
 base:=base
 A:=A.deeper (envOfC qual scope s.heap.objs.size f cd)
 N:=N
 s₀:=s
 H₀:=H
 env:=envOfC qual scope s.heap.objs.size f cd
 outer:=outer
 stack:=envOfC qual scope s.heap.objs.size f cd :: outer
 ex:=[]
 calm:=true
 fn:=fun _=>true
 pn:=[]
 xe:=fun e s'=>wpAny (model P w) (A.deeper (envOfC qual scope s.heap.objs.size f cd)) (leaving (envOfC qual scope s.heap.objs.size f cd) e) (fun _ s''=>CX outer H s E e s'') (fun e' s''=>CX outer H s E e' s'') s'
theorem zH {sc:Scope} {n:Nat} {x:Str} (h:sc.names.lookup x=some .cell):∃ c,(cellsFrom n sc.names []).lookup x=some c:=by
 have q:=PySem.W.cellsFrom_some sc.names n [] (.inl h)
 exact Option.isSome_iff_exists.mp q
theorem FT {CX:FQ} {P:Program} {w:World} {K:W.Frag} {mg:Str->Option Value} {base:Heap} {N ps:List Str} {qual:Str} {scope:Scope} {f:Addr} {cd:Value} {A:Around} {outer:List Env} {s s1:Shared} {H:Hp} {E:XK} {us:List Value} {vs:List V}
  (S:aD N ps scope) (hd:A.handled=none) (e0:Env0 P w K mg base A outer s H) (hl:vs.length=ps.length) (r:Vals vs us)
  (x:InCallC s s.heap.objs.size (bindL (envOfC qual scope s.heap.objs.size f cd).kindOf (ps.zip us) fun _=>none) (cellsFrom (s.heap.objs.size+1) scope.names []) (bindC (envOfC qual scope s.heap.objs.size f cd).kindOf (ps.zip us) fun _=>none) s1):
  Inv (ql CX P w K mg base N qual scope f cd A outer s H E) [] (start N vs) H s1:=by
 have hpl:ps.length<=N.length:=by have:=congrArg List.length S.pre;rw [Yi] at this;omega
 obtain ⟨h1,tk,rfl,hk⟩:=x.done
 have noA:∀ b:Addr,b ∉ (ql CX P w K mg base N qual scope f cd A outer s H E).ex:=fun b z=>absurd (show b∈([]:List Addr) from z) (by simp)
 refine ⟨⟨e0.mod,S.kind,rfl,rfl,Xp _,fun y z c h1 h2=>?_,fun y hy=>?_,fun y c _ h=>?_,fun _=>hd,Around.frames_deeper e0.frames,.inr ⟨rfl,rfl⟩,fun b z=>absurd z (noA b),e0.bs,e0.bsz,fun b _ _=>noA b,fun b z=>absurd z (noA b),e0.funs,e0.frf⟩,
  rfl,e0.bare,Un.kept hk,⟨_,x.toInCall.ns,fun i y v h1 h2 h3=>?_⟩,fun y c h=>⟨_,x.cell y c h⟩,e0.hok.fresh (Xp _),fun y c h=>?_,fun p hp=>absurd (show p∈([]:List (Addr×Obj)) from hp) (by simp),e0.hok.kept hk,?_⟩
 ·exact name_of_addr x.apart (Yx h1) (Yx h2)
 ·have hy:scope.names.lookup y=some .cell\/scope.names.lookup y=some .free:=hy
  rcases hy with hy | hy
  ·exact zH hy
  ·exact absurd rfl (S.nofree _ (Yx hy))
 ·exact Nat.le_of_lt (x.above y c (Yx h))
 ·have hi:i < vs.length:=by
   unfold start at h2
   by_cases hi:i < vs.length
   ·exact hi
   ·rw [X5 (by simpa using hi)] at h2
    rw [List.getElem?_replicate] at h2
    split at h2 <;> cases h2
  have ha:vs[i]?=some v:=by
   unfold start at h2
   rw [X8 (by simpa using hi),Xw] at h2
   cases e:vs[i]? with
   | none=>rw [e] at h2;cases h2
   | some a=>rw [e] at h2;cases h2;rfl
  obtain ⟨u,hu,rv⟩:=r.get ha
  have hp:ps[i]?=some y:=by
   rw [← S.pre,ZF (by omega)];exact h1
  have ndP:ps.Nodup:=by rw [← S.pre];exact S.nd.sublist (List.take_sublist _ _)
  refine ⟨u,rv,?_⟩
  rcases S.par y (X3 hp) with k | k
  ·exact .inl ⟨k,xG ndP hp hu k⟩
  ·obtain ⟨c,e⟩:=zH (n:=s.heap.objs.size+1) k
   refine .inr ⟨.inl k,c,e,?_⟩
   have q:=x.cell y c e
   rw [xH ndP hp hu (by show scope.names.lookup y≠_;rw [k];decide)] at q
   exact q
 ·exact e0.hok.fresh (Nat.le_of_lt (x.above y c (Yx h)))
 ·unfold start
  show _=N.length
  rw [Yc,Xu,List.length_replicate]
  omega
theorem Io {CX:FQ} {P:Program} {w:World} {K:W.Frag} {mg:Str->Option Value} {base:Heap} {k:Nat} {f:Addr} {name qual:Str} {params:Arguments} {body:List Stmt} {scope:Scope} {dV kV doc pm cdv ct oc:Value} {an od:Option Addr}
  {osl:Array (Option Value)} {N ps:List Str} {sp:Sp} (lk:K.lookup f=some ⟨oc,od,.func (PySem.W.fnOf name qual params body scope dV kV doc pm an cdv ct),osl⟩) (hcd:PySem.W.codeIn K cdv qual=true) (S:aD N ps scope)
  (len:∀ vs H Q E,sp vs H Q E->vs.length=ps.length)
  (hbody:∀ (A:Around) (outer:List Env) (s:Shared) (H:Hp) (vs:List V) (Q:VK) (E:XK),Room k (A.deeper (envOfC qual scope s.heap.objs.size f cdv))->sp vs H Q E->
   ∃ t,PSs (ql CX P w K mg base N qual scope f cdv A outer s H E) body t/\t {nx:=fun _ H'=>Q .non H',rt:=Q} (start N vs) H):
  FnOk P w K mg base CX (k+1) f (PySem.W.fnOf name qual params body scope dV kV doc pm an cdv ct) ps sp:=by
 refine ⟨len,fun A outer s H args us vs Q E hr e0 hb r hsp=>?_⟩
 have hl:=len _ _ _ _ hsp
 have KX:K.In s.heap:=e0.mod.kin.keeps fun b o e=>(e0.bs b o e).1
 have lim:s.heap.NoLimit:=e0.mod.nolimit.keeps fun b o e=>(e0.bs b o e).1
 have hkind:∀ y∈ps.zip us,scope.names.lookup y.1=some .local\/(scope.names.lookup y.1=some .cell/\((cellsFrom (s.heap.objs.size+1) scope.names []).lookup y.1).isSome=true):=fun ⟨n,v⟩ hy=>by
  rcases S.par n (List.of_mem_zip hy).1 with q | q
  ·exact .inl q
  ·exact .inr ⟨q,PySem.W.cellsFrom_some _ _ _ (.inl q)⟩
 refine codeAny_call_function hr.depth (KX _ _ lk) rfl S.co S.gen rfl (PySem.W.codeRec_of KX hcd) (hb _ _ _ _ ?_)
 refine wpAny_newFunctionEnv_cells S.kind hkind fun env he s1 x=>?_
 subst he
 refine ⟨lim.keeps x.toInCall.keep,codeAny_func ?_⟩
 obtain ⟨t,ht,hq⟩:=hbody A outer s H vs Q E (hr.deeper _) hsp
 have I:Inv (ql CX P w K mg base N qual scope f cdv A outer s H E) [] (start N vs) H s1:=FT S hr.hd e0 hl r x
 refine YS (ht [] s1 (start N vs) H _ I hq) (fun fl s' hs=>?_) fun e s' hs=>hs
 have fin:∀ {U':St} {H':Hp} {v:V} {u:Value},Inv (ql CX P w K mg base N qual scope f cdv A outer s H E) [] U' H' s'->RelV v u->Q v H'->CE outer P w H s Q u s':=
  fun {U' H' v u} J rv q=>⟨v,H',J.os,J.bare,J.base,J.hok,rv,q⟩
 cases fl with
 | ret u=>
  obtain ⟨v,U',H',J,rv,q⟩:=hs
  exact fin J rv q
 | next=>
  obtain ⟨U',H',J,q⟩:=hs
  exact fin (v:=V.non) (u:=Value.none) J rfl q
 | brk=>
  obtain ⟨_,_,_,q⟩:=hs
  exact False.elim q
 | cont=>
  obtain ⟨_,_,_,q⟩:=hs
  exact False.elim q
section
variable {X:Cx} {x:Str} {p pos:Pos} {e:Expr} {es:List Expr} {t:TA} {id T:String} {r:List V->Hp->VK->Prop}
def RV (r:List V->Hp->VK->Prop) (t:TA):TE:=fun U H Q=>t U H fun vs H1=>r vs H1 Q
theorem Ip (hc:CallR X (.builtin id) r) (hg:Gl X x) (hm:X.mg x=none) (hv:bootBuiltins x=some (.builtin id)) (ha:PA X (e :: es) t) (hn:autoParam (x≠"__name__") L2.auto2._auto_1) (hdb:autoParam ((x == ("__debug__":Str))=false) L2.auto2._auto_1)
  (he:autoParam (starEach (e :: es) X.env=(false,eval e X.env) :: starEach es X.env) L2.auto4._auto_1) (hpl:autoParam ((backTo pos (starEach es X.env)).any (·.1)=false) L2.auto4._auto_1):PE X (.Call (.Name x p) (e :: es) [] pos) (RV r t):=by
 intro pins s U H Q I h
 refine Yv (gY I hg hm hv ?_ hn hdb)
 exact PyProof.Rows.callWith_builtin1 (eQ (ha pos pins s U H _ I h) fun us s1 ⟨vs,H1,I1,r1,q1⟩=>hc pins s1 U H1 vs us Q I1 r1 q1) he hpl
theorem FW (hc:CallR X (.type T) r) (hg:Gl X x) (hm:X.mg x=none) (hv:bootBuiltins x=some (.type T)) (ha:PA X (e :: es) t) (hn:autoParam (x≠"__name__") L2.auto2._auto_1) (hdb:autoParam ((x == ("__debug__":Str))=false) L2.auto2._auto_1)
  (he:autoParam (starEach (e :: es) X.env=(false,eval e X.env) :: starEach es X.env) L2.auto4._auto_1) (hpl:autoParam ((backTo pos (starEach es X.env)).any (·.1)=false) L2.auto4._auto_1):PE X (.Call (.Name x p) (e :: es) [] pos) (RV r t):=by
 intro pins s U H Q I h
 refine Yv (gY I hg hm hv ?_ hn hdb)
 exact XX (eQ (ha pos pins s U H _ I h) fun us s1 ⟨vs,H1,I1,r1,q1⟩=>hc pins s1 U H1 vs us Q I1 r1 q1) he hpl
end
end L2
namespace HT
open PySem PyProof.Rows
section
open PySem.SeqAt
open PySem.AutoSeq1 (wpAny_loadPart')
open PySem.MeetsSeq PySem.MeetsSeq2 PySem.MeetsSeq3
end
section
variable {prog:Program} {w:World} {A:Around} {E:Value->Shared->Prop} {s:Shared}
def sIx (n d:Nat):Option Int->Nat
 | none=>d
 | some v=>if v < 0 then (v+(n:Int)).toNat else min v.toNat n
theorem sIx_none (n d:Nat):sIx n d none=d:=rfl
theorem sIx_nat (n d k:Nat):sIx n d (some (k:Int))=min k n:=by
 show (if (k:Int) < 0 then ((k:Int)+(n:Int)).toNat else min (k:Int).toNat n)=min k n
 rw [if_neg (by omega),Int.toNat_natCast]
theorem sIx_le (n d:Nat) (hd:d<=n) (o:Option Int):sIx n d o<=n:=by
 cases o with
 | none=>exact hd
 | some v=>
  show (if v < 0 then (v+(n:Int)).toNat else min v.toNat n)<=n
  by_cases hv:v < 0
  ·rw [if_pos hv];omega
  ·rw [if_neg hv];exact Nat.min_le_right _ _
theorem clip_eq (v:Int) (n d:Nat):(if v < 0 then max (v+(n:Int)) 0 else min v (n:Int))=((sIx n d (some v):Nat):Int):=by
 show (if v < 0 then max (v+(n:Int)) 0 else min v (n:Int))=(((if v < 0 then (v+(n:Int)).toNat else min v.toNat n):Nat):Int)
 by_cases hv:v < 0
 ·simp only [if_pos hv];omega
 ·simp only [if_neg hv];omega
theorem BL (lo hi:Option Int) (n:Nat):Builtin.Slice.sliceAdjust lo hi 1 (n:Int)=(((sIx n 0 lo:Nat):Int),((sIx n n hi:Nat):Int)):=by
 have h1:¬ ((1:Int) < 0):=by omega
 unfold Builtin.Slice.sliceAdjust
 simp only [h1,if_false]
 refine Prod.ext ?_ ?_
 ·cases lo with
  | none=>rfl
  | some v=>exact clip_eq v n 0
 ·cases hi with
  | none=>rfl
  | some v=>exact clip_eq v n n
theorem BP (i j:Nat):Builtin.Slice.slicePlaces (i:Int) (j:Int) 1=j - i:=by
 unfold Builtin.Slice.slicePlaces
 have h1:(1:Int) > 0:=by omega
 simp only [h1,if_true,Int.ediv_one]
 split <;> omega
theorem vA {v:Value} {o:Option Int} {Q:Option Int->Shared->Prop} (p:IsPart v o) (h:Q o s):wpAny (model prog w) A (Builtin.Slice.slicePartIndex v) Q E s:=by
 cases p with
 | none=>exact slicePart_none h
 | int i t=>exact slicePart_int h
theorem mC {sl:Addr} {vl vu:Value} {lo hi:Option Int} {n:Nat} {Q:Int×Int×Nat->Shared->Prop} (hs:s.heap.IsSliceOf sl vl vu .none) (pl:IsPart vl lo) (pu:IsPart vu hi)
  (h:Q (((sIx n 0 lo:Nat):Int),1,sIx n n hi - sIx n 0 lo) s):wpAny (model prog w) A (Builtin.Slice.sliceApplied (.ref sl) (pure (n:Int))) Q E s:=by
 obtain ⟨os,hos,hcs,hds⟩:=id hs
 unfold Builtin.Slice.sliceApplied Builtin.Slice.sliceFields
 refine Xj (Xj (YL hos hds (x:=vl) rfl (Xj (YL hos hds (x:=vu) rfl (Xj (YL hos hds (x:=.none) rfl (Xo ?_)))))))
 refine Xj (slicePart_none ?_)
 show wpAny _ _ (if ((1:Int) == 0)=true then _ else _) _ _ s
 rw [if_neg (by decide)]
 refine Xj (vA pl (Xj (vA pu (Xj (Xo ?_)))))
 show wpAny _ _ (match Builtin.Slice.sliceAdjust lo hi 1 (n:Int) with | (lo,hi)=>pure (lo,(1:Int),Builtin.Slice.slicePlaces lo hi 1)) _ _ s
 rw [BL lo hi n]
 show wpAny _ _ (pure (((sIx n 0 lo:Nat):Int),(1:Int),Builtin.Slice.slicePlaces ((sIx n 0 lo:Nat):Int) ((sIx n n hi:Nat):Int) 1)) _ _ s
 rw [BP]
 exact Xo h
theorem Ir (xs:Array Value) (i k:Nat):((List.range k).filterMap fun (m:Nat)=>xs[((i:Int)+(m:Int)*1).toNat]?).toArray=((xs.toList.drop i).take k).toArray:=by
 have e:(fun (m:Nat)=>xs[((i:Int)+(m:Int)*1).toNat]?)=fun m=>xs[i+m]?:=by
  funext m
  have:((i:Int)+(m:Int)*1).toNat=i+m:=by omega
  rw [this]
 rw [e]
 have:=pick_run xs i k
 rw [List.filterMap_map] at this
 have e2:((fun x=>xs[x]?) ∘ fun x=>i+x)=fun m=>xs[i+m]?:=rfl
 rw [e2] at this
 rw [this]
theorem getItem_tuple_cut {t sl:Addr} {items:Array Value} {vl vu:Value} {lo hi:Option Int} {Q:Value->Shared->Prop} (ht:IsTup s.heap t items) (hs:s.heap.IsSliceOf sl vl vu .none) (pl:IsPart vl lo) (pu:IsPart vu hi)
  (hw:¬ (sIx items.size 0 lo=0/\sIx items.size items.size hi=items.size))
  (h:Q (.ref s.heap.objs.size) {s with heap:=s.heap.push {cls:=.type "tuple",data:=.seq ((items.toList.drop (sIx items.size 0 lo)).take (sIx items.size items.size hi - sIx items.size 0 lo)).toArray}})
  (hsz:items.size<=sizeLine):wpAny (model prog w) A (getItem (.ref t) (.ref sl)) Q E s:=by
 have htake:sizeOk (.seq ((items.toList.drop (sIx items.size 0 lo)).take (sIx items.size items.size hi - sIx items.size 0 lo)).toArray):=by
  show ((items.toList.drop (sIx items.size 0 lo)).take (sIx items.size items.size hi - sIx items.size 0 lo)).toArray.size<=sizeLine
  rw [XM,Yi,Ye,Xx]
  omega
 have hj:sIx items.size items.size hi<=items.size:=sIx_le _ _ (Xp _) hi
 obtain ⟨os,hos,hcs,hds⟩:=id hs
 have hTs:s.TypeIs (.ref sl) "slice":=⟨os,hos,hcs⟩
 unfold getItem
 try with_reducible refine Yq ?_
 first | refine Xj (Xo ?_) | skip
 refine Xj (wpAny_sequenceKey ht.typeIs (by decide) ?_)
 refine Xj (Y5 (name:=Str.ofString "__getitem__") ht.typeIs Zg
  (Zt Zg ht.typeIs entry_tuple_getitem ?_ (args_tuple_getitem _ _)))
 show wpAny _ _ (Builtin.Tuple.tupleItemsOf (.ref t) >>=_) _ _ s
 refine Xj (tupleItemsOf_ ht ?_)
 refine Xj (wpAny_typeOf hTs ?_)
 rw [if_pos (by decide)]
 refine Xj (mC hs pl pu ?_)
 have hno:¬ ((((sIx items.size 0 lo:Nat):Int) == 0 && (1:Int) == 1 && (sIx items.size items.size hi - sIx items.size 0 lo) == items.size)=true):=by
  intro q
  rw [XQ,XQ] at q
  have q1:((sIx items.size 0 lo:Nat):Int)=0:=eq_of_beq q.1.1
  have q2:sIx items.size items.size hi - sIx items.size 0 lo=items.size:=eq_of_beq q.2
  exact hw ⟨by omega,by omega⟩
 show wpAny _ _ (if (((sIx items.size 0 lo:Nat):Int) == 0 && (1:Int) == 1 && (sIx items.size items.size hi - sIx items.size 0 lo) == items.size)=true then _ else _) _ _ s
 rw [if_neg hno,Ir]
 first
  | exact Xj (m:=Builtin.Tuple.tupleExact _) (Y8 (Xo ⟨_,rfl,Xo h⟩) htake)
  | exact Xj (m:=Builtin.Tuple.tupleExact _) (Y8 (Xj (Xo (Xo ⟨_,rfl,Xo h⟩))) htake)
  | exact Xj (Xj (m:=Builtin.Tuple.tupleExact _) (Y8 (Xo (Xo ⟨_,rfl,Xo h⟩)) htake))
  | exact Xj (Xj (m:=Builtin.Tuple.tupleExact _) (Y8 (Xo ⟨_,rfl,Xo h⟩) htake))
end
end HT
namespace L2
open PySem PySem.Spec PyProof.Rows
abbrev TO:=St->Hp->(Option Int->Hp->Prop)->Prop
def PO (X:Cx) (e:Option Expr) (t:TO):Prop:=
 ∀ (pins:List (Addr×Obj)) (s:Shared) (U:St) (H:Hp) (Q:Option Int->Hp->Prop),Inv X pins U H s->t U H Q->
  wpAny (model X.prog X.w) X.A (evalPart e X.env) (fun u s'=>∃ o H',Inv X pins U H' s'/\IsPart u o/\Q o H') X.xe s
def yp:TO:=fun _ H Q=>Q none H
def Iu (t:TE):TO:=fun U H Q=>t U H fun x H1=>∃ i,x= .int i/\Q (some i) H1
theorem intsAre_of {ns:List Int}:∀ {us:List Value},Vals (ns.map V.int) us->IntsAre us ns:=by
 induction ns with
 | nil=>intro us r;rw [List.map_nil] at r;cases r;exact .nil
 | cons n ns ih=>
  intro us r
  rw [Yk] at r
  cases r with
  | cons r1 r2=>
   obtain ⟨t,e⟩:=r1
   subst e
   exact .cons n t (ih r2)
section
variable {X:Cx} {e:Expr} {te:TE} {lo hi:Option Expr} {tl th:TO} {pos p2:Pos}
theorem Nh:PO X none yp:=by
 intro pins s U H Q I h
 rw [evalPart_none]
 exact Xo ⟨none,H,I,.none,h⟩
theorem Ni (h:PE X e te):PO X (some e) (Iu te):=by
 intro pins s U H Q I hw
 rw [evalPart_some]
 refine eQ (h pins s U H _ I hw) fun u s1 qq0=>?_
 obtain ⟨x,H1,I1,r1,q1⟩:=qq0
 obtain ⟨i,rfl,q⟩:=q1
 obtain ⟨t,rfl⟩:=r1
 exact ⟨some i,H1,I1,.int i t,q⟩
def SlR (X:Cx) (r:V->Option Int->Option Int->Hp->VK->Prop):Prop:=
 ∀ (pins:List (Addr×Obj)) (s:Shared) (U:St) (H:Hp) (x:V) (v vl vu:Value) (lo hi:Option Int) (sl:Addr) (Q:VK),Inv X pins U H s->RelV x v->s.heap.IsSliceOf sl vl vu .none->IsPart vl lo->IsPart vu hi->r x lo hi H Q->
  ∃ T id,typeLookup (.type T) "__getitem__"=pure (some (.builtin id))/\s.TypeIs v T/\wpAny (model X.prog X.w) X.A (getItem v (.ref sl)) (EP X pins U Q) X.xe s
theorem SlR.or {r r':V->Option Int->Option Int->Hp->VK->Prop} (h:SlR X r) (h':SlR X r'):SlR X (fun x lo hi H Q=>r x lo hi H Q\/r' x lo hi H Q):=by
 intro pins s U H x v vl vu lo hi sl Q I rx hs pl pu q
 rcases q with q | q
 ·exact h pins s U H x v vl vu lo hi sl Q I rx hs pl pu q
 ·exact h' pins s U H x v vl vu lo hi sl Q I rx hs pl pu q
def tSl (r:V->Option Int->Option Int->Hp->VK->Prop) (te:TE) (tl th:TO):TE:=fun U H Q=>te U H fun x H1=>tl U H1 fun l H2=>th U H2 fun u H3=>r x l u H3 Q
theorem Iv {r:V->Option Int->Option Int->Hp->VK->Prop} (hr:SlR X r) (he:PE X e te) (hl:PO X lo tl) (hu:PO X hi th):PE X (.Subscript e (.Slice lo hi none p2) pos) (tSl r te tl th):=by
 intro pins s U H Q I h
 refine Subscript_ (eQ (he pins s U H _ I h) fun v s1 qq0=>?_)
 obtain ⟨x,H1,I1,r1,q1⟩:=qq0
 refine wpAny_Slice (eQ (hl pins s1 U H1 _ I1 q1) fun vl s2 ⟨l,H2,I2,pl,q2⟩=>eQ (hu pins s2 U H2 _ I2 q2) fun vu s3 qq0=>?_)
 obtain ⟨u,H3,I3,pu,q3⟩:=qq0
 rw [evalPart_none]
 refine Xo ?_
 have I4:Inv X pins U H3 {s3 with heap:=s3.heap.push {cls:=.type "slice",data:=.fields #[vl,vu,.none]}}:=I3.kept (t':=s3.toks) fun b ob q=>Xm _ q
 obtain ⟨T,id,hT,ht,hg⟩:=hr pins {s3 with heap:=s3.heap.push {cls:=.type "slice",data:=.fields #[vl,vu,.none]}} U H3 x v vl vu l u s3.heap.objs.size Q I4 r1 (Heap.IsSliceOf.new ..) pl pu q3
 show wpAny (model X.prog X.w) X.A (subscriptTail e (.Slice lo hi none p2) v (.ref s3.heap.objs.size)) (EP X pins U Q) X.xe {s3 with heap:=s3.heap.push {cls:=.type "slice",data:=.fields #[vl,vu,.none]}}
 exact tail_any (ops:=[.ref s3.heap.objs.size,v]) ht hT hg (by with_unfolding_all rfl)
def oh (xs:List V) (lo hi:Option Int):List V:=(xs.drop (HT.sIx xs.length 0 lo)).take (HT.sIx xs.length xs.length hi - HT.sIx xs.length 0 lo)
theorem uv (xs:List V) (lo hi:Option Int):(oh xs lo hi).length<=xs.length:=by
 unfold oh
 rw [Yi,Ye]
 omega
def Vn (K:W.Frag):V->Option Int->Option Int->Hp->VK->Prop:=fun x lo hi H Q=>∃ a xs,x= .ref a/\SqT K H a xs/\
 ¬ (HT.sIx xs.length 0 lo=0/\HT.sIx xs.length xs.length hi=xs.length)/\∀ p,H p=none->Q (.ref p) (upd H p (.tup (oh xs lo hi)))
theorem RW:SlR X (Vn X.K):=by
 intro pins s U H x v vl vu lo hi sl Q I rx hs pl pu h
 obtain ⟨a,xs,rfl,hx,hw,q⟩:=h
 cases rx
 obtain ⟨its,r,ht,hz⟩:=I.tuple hx
 have hlen:its.toArray.size=xs.length:=by rw [XM];exact r.length.symm
 refine ⟨"tuple",_,PyProof.Rows.slot_tuple_getitem.lookup,ht.typeIs,?_⟩
 refine HT.getItem_tuple_cut ht hs pl pu (by rw [hlen];exact hw) ?_ (by rw [hlen];exact hz)
 rw [hlen]
 refine ⟨.ref s.heap.objs.size,_,I.laid (t':=s.toks) (o:=.tup (oh xs lo hi)) (fun b ob q=>Xm _ q) (Xp _) ?_,rfl,q _ (I.hok.fresh (Xp _))⟩
 exact ⟨Xv (uv xs lo hi) hz,_,(r.drop (HT.sIx xs.length 0 lo)).take (HT.sIx xs.length xs.length hi - HT.sIx xs.length 0 lo),IsTup.new _ _⟩
end
def FZ (n:Nat) (i:Int):Option Nat:=if 0<=i then (if i < n then some i.toNat else none) else if -(n:Int)<=i then some (i+n).toNat else none
def Hr {α:Type} (xs:List α) (i:Int):Option α:=(FZ xs.length i).bind fun j=>xs[j]?
theorem DG {n:Nat} {i:Int} {j:Nat} (h:FZ n i=some j):seqIndex? i n=some j/\j < n/\-(n:Int)<=i/\i < n:=by
 unfold FZ at h
 by_cases h0:0<=i
 ·rw [if_pos h0] at h
  by_cases h1:i < n
  ·rw [if_pos h1] at h
   have e:i.toNat=j:=XS h
   exact ⟨by rw [seqIndex_of h0 h1,e],by omega,by omega,h1⟩
  ·rw [if_neg h1] at h;cases h
 ·rw [if_neg h0] at h
  by_cases h1: -(n:Int)<=i
  ·rw [if_pos h1] at h
   have e:(i+n).toNat=j:=XS h
   exact ⟨by rw [seqIndex_neg (by omega) h1,e],by omega,h1,by omega⟩
  ·rw [if_neg h1] at h;cases h
theorem yq {α:Type} {xs:List α} {i:Int} {v:α} (h:Hr xs i=some v):∃ j,seqIndex? i xs.length=some j/\xs[j]?=some v/\j < xs.length/\-(xs.length:Int)<=i/\i < xs.length:=by
 unfold Hr at h
 cases e:FZ xs.length i with
 | none=>rw [e] at h;cases h
 | some j=>
  rw [e] at h
  obtain ⟨h1,h2,h3,h4⟩:=DG e
  exact ⟨j,h1,h,h2,h3,h4⟩
theorem cH {α:Type} {xs:List α} {j:Nat} {v:α} (h:xs[j]?=some v):Hr xs (j:Int)=some v:=by
 have hj:j < xs.length:=(Xn.mp h).1
 have e:FZ xs.length (j:Int)=some j:=by
  unfold FZ
  rw [if_pos (by omega),if_pos (by omega)];simp
 unfold Hr;rw [e];exact h
def DK (b:Expr):Prop:=∀ o i,subscripted b false o i=operate [o,i] (getItem o i)
def IxR (X:Cx) (r:R2):Prop:=
 ∀ (value slice:Expr) (pins:List (Addr×Obj)) (s:Shared) (U:St) (H:Hp) (x y:V) (v u:Value) (Q:VK),Inv X pins U H s->RelV x v->RelV y u->r x y H Q->
  subscripted slice false v u=operate [v,u] (getItem v u)->wpAny (model X.prog X.w) X.A (subscriptTail value slice v u) (EP X pins U Q) X.xe s
def Vo (X:Cx) (id:String) (r:V->List V->Hp->VK->Prop):Prop:=
 ∀ (pins:List (Addr×Obj)) (s:Shared) (U:St) (H:Hp) (x:V) (xs:List V) (v:Value) (us:List Value) (Q:VK),Inv X pins U H s->RelV x v->Vals xs us->r x xs H Q->
  wpAny (model X.prog X.w) X.A (call (.builtin id) (v :: us)) (EP X pins U Q) X.xe s
section
variable {X:Cx} {a b:Expr} {ta tb:TE} {pos:Pos}
theorem IxR.or {r r':R2} (h:IxR X r) (h':IxR X r'):IxR X (fun x y H Q=>r x y H Q\/r' x y H Q):=by
 intro value slice pins s U H x y v u Q I rx ry q hs
 rcases q with q | q
 ·exact h value slice pins s U H x y v u Q I rx ry q hs
 ·exact h' value slice pins s U H x y v u Q I rx ry q hs
theorem Vp {r:R2} (hr:IxR X r) (ha:PE X a ta) (hb:PE X b tb) (hs:DK b):PE X (.Subscript a b pos) (HY r ta tb):=by
 intro pins s U H Q I h
 exact Subscript_ (Rv ha hb I h fun v u s2 x y H2 I2 rx ry q=>hr a b pins s2 U H2 x y v u Q I2 rx ry q (hs _ _))
def Vq (K:W.Frag):R2:=fun x y H Q=>∃ p xs i v,x= .ref p/\y= .int i/\SqL K H p xs/\Hr xs i=some v/\Q v H
def Vr (K:W.Frag):R2:=fun x y H Q=>∃ p xs i v,x= .ref p/\y= .int i/\SqT K H p xs/\Hr xs i=some v/\Q v H
def Vs:R2:=fun x y H Q=>∃ z i c,x= .str z/\y= .int i/\z.length<=sizeLine/\Hr z.cps.toList i=some c/\Q (.str ⟨#[c]⟩) H
theorem Nj:IxR X (Vq X.K):=by
 intro value slice pins s U H x y v u Q I rx ry h hs
 obtain ⟨p,xs,i,z,rfl,rfl,hq,he,q⟩:=h
 cases rx
 obtain ⟨t,rfl⟩:=ry
 obtain ⟨its,r,pl,hz⟩:=I.list hq
 obtain ⟨j,h1,h2,h3,h4,h5⟩:=yq he
 obtain ⟨w,ew,rw'⟩:=r.get h2
 have hl:=r.length
 have hn:=sZ
 have fin:EP X pins U Q w s:=⟨z,H,I,rw',q⟩
 by_cases h0:0<=i
 ·have hj:i.toNat=j:=by
   rw [seqIndex_of h0 h5] at h1
   exact XS h1
  exact item_listR pl.isList h0 (by omega) (by rw [hj];simpa using ew) fin hs
 ·have hj:(i+(its.toArray.size:Int)).toNat=j:=by
   rw [seqIndex_neg (by omega) h4] at h1
   rw [XM,← hl]
   exact XS h1
  exact subscriptTail_builtinR (x:=w) pl.isList.typeIs slot_list_getitem.lookup
   (wpAny_getItem_list_neg (Q:=fun r s'=>r=w/\EP X pins U Q r s') pl.isList (by omega) (by rw [XM] <;> omega) (by omega) (by rw [hj];simpa using ew) ⟨rfl,fin⟩) hs
theorem RX:IxR X (Vr X.K):=by
 intro value slice pins s U H x y v u Q I rx ry h hs
 obtain ⟨p,xs,i,z,rfl,rfl,hq,he,q⟩:=h
 cases rx
 obtain ⟨t,rfl⟩:=ry
 obtain ⟨its,r,pl,hz⟩:=I.tuple hq
 obtain ⟨j,h1,h2,h3,h4,h5⟩:=yq he
 obtain ⟨w,ew,rw'⟩:=r.get h2
 have hl:=r.length
 have hn:=sZ
 have fin:EP X pins U Q w s:=⟨z,H,I,rw',q⟩
 exact subscriptTail_builtinR (x:=w) pl.typeIs slot_tuple_getitem.lookup
  (getItem_tuple (j:=j) (Q:=fun r s'=>r=w/\EP X pins U Q r s') pl (by omega) (by omega) (by rw [XM,← hl];exact h1) (by simpa using ew) ⟨rfl,fin⟩) hs
theorem RZ:IxR X Vs:=by
 intro value slice pins s U H x y v u Q I rx ry h hs
 obtain ⟨z,i,c,rfl,rfl,hz,he,q⟩:=h
 obtain ⟨t,rfl⟩:=rx
 obtain ⟨t',rfl⟩:=ry
 obtain ⟨j,h1,h2,h3,h4,h5⟩:=yq he
 have hl:z.cps.toList.length=z.length:=by simp [Str.length]
 rw [hl] at h1 h4 h5
 have hn:=sZ
 exact tail_any (typeIs_str s z t) slot_str_getitem.lookup (getItem_str (c:=c) (by
  have e1:decide (i < -(2 ^ 63:Int))=false:=XF (by omega)
  have e2:decide (i>=2 ^ 63)=false:=XF (by omega)
  rw [e1,e2,Bool.or_false]) (by rw [h1];simpa using h2) ⟨.str ⟨#[c]⟩,H,I.tok _,⟨_,rfl⟩,q⟩) hs
def Qo (K:W.Frag):R2:=fun x y H Q=>Vq K x y H Q\/Vr K x y H Q\/Vs x y H Q
theorem R0:IxR X (Qo X.K):=Nj.or (RX.or RZ)
theorem BR (its:List Value) (n j:Nat) (u:Value):Obj.mapSeq (·.setIfInBounds j u) {cls:=.type "list",data:=.seq its.toArray n}={cls:=.type "list",data:=.seq (its.set j u).toArray n}:=by
 simp [Obj.mapSeq]
theorem Inv.lst {pins:List (Addr×Obj)} {U:St} {H:Hp} {s:Shared} {p:Addr} {xs:List V} (I:Inv X pins U H s) (h:H p=some (.lst xs)):
  ∃ (its:List Value) (n:Nat),Vals xs its/\s.heap.get? p=some {cls:=.type "list",data:=.seq its.toArray n}/\xs.length<=sizeLine:=by
 obtain ⟨z,its,n,r,e⟩:=I.hok p _ h
 exact ⟨its,n,r,e,z⟩
theorem Inv.lstUpd {pins:List (Addr×Obj)} {U:St} {H:Hp} {s:Shared} {p:Addr} {xs ys:List V} {its its':List Value} {n n':Nat} {f:Obj->Obj} (I:Inv X pins U H s) (h:H p=some (.lst xs))
  (ho:s.heap.get? p=some {cls:=.type "list",data:=.seq its.toArray n}) (hf:f {cls:=.type "list",data:=.seq its.toArray n}={cls:=.type "list",data:=.seq its'.toArray n'}) (r:Vals ys its') (hz:ys.length<=sizeLine) (t:Nat):
  Inv X pins U (upd H p (.lst ys)) {s with heap:=s.heap.update p f,toks:=t}:=by
 have e:(s.heap.update p f).get? p=some {cls:=.type "list",data:=.seq its'.toArray n'}:=by
  rw [YM f ho (by rw [hf] <;> rfl),hf]
 refine I.write (x:=p) (e:=p) (by rw [h];trivial) (.inl rfl) (fun b u hb q=>(Yl _ _ (Ne.symm hb)).trans q) ⟨_,e⟩ ?_
 exact ⟨hz,its',n',r,e⟩
def uw:V->V->V->Hp->(Hp->Prop)->Prop:=fun o i v H Q=>∃ p xs k j,o= .ref p/\i= .int k/\H p=some (.lst xs)/\FZ xs.length k=some j/\Q (upd H p (.lst (xs.set j v)))
theorem set_list:Mr X uw:=by
 intro pins s U H o i v ov iv u Q I ro ri rv h
 obtain ⟨p,xs,k,j,rfl,rfl,hp,hj,q⟩:=h
 cases ro
 obtain ⟨t,rfl⟩:=ri
 obtain ⟨its,n,r,ho,hz⟩:=I.lst hp
 obtain ⟨h1,h2,h3,h4⟩:=DG hj
 have hl:=r.length
 have hn:=sZ
 have I':Inv X pins U (upd H p (.lst (xs.set j v))) {s with heap:=s.heap.update p (Obj.mapSeq (·.setIfInBounds j u))}:=
  I.lstUpd hp ho (BR its n j u) (r.set rv j) (by rw [List.length_set];exact hz) s.toks
 by_cases h0:0<=k
 ·have hk:k.toNat=j:=by
   rw [seqIndex_of h0 h4] at h1
   exact XS h1
  exact PySem.W.ki_setAt ho h0 (by omega) (by rw [XM,← hl];exact h4) (by rw [hk];exact ⟨_,I',q⟩)
 ·have hk:(k+(its.toArray.size:Int)).toNat=j:=by
   rw [seqIndex_neg (by omega) h3] at h1
   rw [XM,← hl]
   exact XS h1
  exact PySem.W.ki_setBack ho (by omega) (by rw [XM,← hl];exact h3) (by omega) (by rw [hk];exact ⟨_,I',q⟩)
theorem yr (lo hi:Option Int) (n:Nat):(sliceBounds lo hi none n).1=((HT.sIx n 0 lo:Nat):Int)/\(sliceBounds lo hi none n).2.1=((HT.sIx n n hi:Nat):Int)/\(sliceBounds lo hi none n).2.2=1:=by
 refine ⟨?_,?_,rfl⟩
 ·cases lo with
  | none=>simp [sliceBounds,HT.sIx]
  | some i=>
   simp only [sliceBounds,HT.sIx,Option.getD_none,show (1:Int) > 0 by decide,if_true]
   by_cases h:i < 0
   ·simp only [h,if_true] <;> omega
   ·simp only [h,if_false] <;> omega
 ·cases hi with
  | none=>simp [sliceBounds,HT.sIx]
  | some i=>
   simp only [sliceBounds,HT.sIx,Option.getD_none,show (1:Int) > 0 by decide,if_true]
   by_cases h:i < 0
   ·simp only [h,if_true] <;> omega
   ·simp only [h,if_false] <;> omega
theorem wW (its:List Value) (lo hi:Option Int):slicePick its.toArray lo hi none=((its.drop (HT.sIx its.length 0 lo)).take (HT.sIx its.length its.length hi - HT.sIx its.length 0 lo)).toArray:=by
 obtain ⟨h1,h2,h3⟩:=yr lo hi its.toArray.size
 unfold slicePick
 rw [h1,h2,h3]
 simp only [sliceRange_one,pick_run,XM] <;> rfl
def Vt (K:W.Frag):V->Option Int->Option Int->Hp->VK->Prop:=fun x lo hi H Q=>∃ a xs,x= .ref a/\SqL K H a xs/\∀ p,H p=none->Q (.ref p) (upd H p (.lst (oh xs lo hi)))
theorem Nk:SlR X (Vt X.K):=by
 intro pins s U H x v vl vu lo hi sl Q I rx hs pl pu h
 obtain ⟨a,xs,rfl,hx,q⟩:=h
 cases rx
 obtain ⟨its,r,ht,hz⟩:=I.list hx
 have hlen:=r.length
 refine ⟨"list",_,slot_list_getitem.lookup,ht.isList.typeIs,?_⟩
 refine wpAny_getItem_list_slice ht.isList hs pl pu .none (by simp) ?_ (by rw [XM] <;> omega)
 rw [wW,← hlen]
 refine ⟨.ref s.heap.objs.size,_,I.laid (t':=s.toks) (o:=.lst (oh xs lo hi)) (fun b ob q=>Xm _ q) (Xp _) ?_,rfl,q _ (I.hok.fresh (Xp _))⟩
 exact ⟨Xv (uv xs lo hi) hz,_,0,(r.drop (HT.sIx xs.length 0 lo)).take (HT.sIx xs.length xs.length hi - HT.sIx xs.length 0 lo),Xy _ rfl⟩
def kY:V->Bool
 | .non=>true
 | .bl _=>true
 | .int _=>true
 | .str _=>true
 | _=>false
def DN:V->V->Bool
 | .non,.non=>true
 | .bl a,.bl b=>a == b
 | .bl a,.int b=>(if a then 1 else 0) == b
 | .int a,.bl b=>a == (if b then 1 else 0)
 | .int a,.int b=>a == b
 | .str a,.str b=>a == b
 | _,_=>false
theorem yt {A:Around} {s:Shared} {y x:V} {u v:Value} (ry:RelV y u) (rx:RelV x v) (fy:kY y=true) (fx:kY x=true):SeqAt.EqAt A s u v (DN y x):=by
 cases y with
 | non=>
  cases ry
  cases x with
  | non=>cases rx;exact SeqAt.EqAt.same _
  | bl b=>cases rx;exact SeqAt.EqAt.none_bool b
  | int b=>obtain ⟨t,rfl⟩:=rx;exact SeqAt.EqAt.none_int b t
  | str b=>obtain ⟨t,rfl⟩:=rx;exact SeqAt.EqAt.none_str b t
  | _=>exact absurd (show false=true from fx) Xz
 | bl a=>
  cases ry
  cases x with
  | non=>cases rx;exact SeqAt.EqAt.bool_none a
  | bl b=>cases rx;exact SeqAt.EqAt.bool_bool a b
  | int b=>obtain ⟨t,rfl⟩:=rx;exact SeqAt.EqAt.bool_int a b t
  | str b=>obtain ⟨t,rfl⟩:=rx;exact SeqAt.EqAt.bool_str a b t
  | _=>exact absurd (show false=true from fx) Xz
 | int a=>
  obtain ⟨t',rfl⟩:=ry
  cases x with
  | non=>cases rx;exact SeqAt.EqAt.int_none a t'
  | bl b=>cases rx;exact SeqAt.EqAt.int_bool a t' b
  | int b=>obtain ⟨t,rfl⟩:=rx;exact SeqAt.EqAt.int_int a t' b t
  | str b=>obtain ⟨t,rfl⟩:=rx;exact SeqAt.EqAt.int_str a t' b t
  | _=>exact absurd (show false=true from fx) Xz
 | str a=>
  obtain ⟨t',rfl⟩:=ry
  cases x with
  | non=>cases rx;exact SeqAt.EqAt.str_none a t'
  | bl b=>cases rx;exact SeqAt.EqAt.str_bool a t' b
  | int b=>obtain ⟨t,rfl⟩:=rx;exact SeqAt.EqAt.str_int a t' b t
  | str b=>obtain ⟨t,rfl⟩:=rx;exact SeqAt.EqAt.str_str a t' b t
  | _=>exact absurd (show false=true from fx) Xz
 | _=>exact absurd (show false=true from fy) Xz
def Nm (x:V) (u:Value):Bool:=match u with
 | .none=>DN .non x
 | .bool b=>DN (.bl b) x
 | .int i _=>DN (.int i) x
 | .str z _=>DN (.str z) x
 | _=>false
theorem Iw {x y:V} {u:Value} (r:RelV y u) (f:kY y=true):Nm x u=DN y x:=by
 cases y with
 | non=>cases r;rfl
 | bl b=>cases r;rfl
 | int i=>obtain ⟨t,rfl⟩:=r;rfl
 | str z=>obtain ⟨t,rfl⟩:=r;rfl
 | _=>exact absurd (show false=true from f) Xz
theorem yu {x:V}:∀ {xs:List V} {us:List Value},Vals xs us->xs.all kY=true->us.any (Nm x)=xs.any fun y=>DN y x
 | _,_,.nil,_=>rfl
 | y :: xs,u :: us,.cons r t,f=>by
  rw [YD,XQ] at f
  rw [List.any_cons,List.any_cons,Iw r f.1,yu t f.2]
theorem vB {A:Around} {s:Shared} {x:V} {v:Value} (rx:RelV x v) (fx:kY x=true):∀ {xs:List V} {us:List Value},Vals xs us->xs.all kY=true->∀ u∈us,SeqAt.EqAt A s u v (Nm x u)
 | _,_,.nil,_=>fun u hu=>by cases hu
 | y :: xs,u :: us,.cons r t,f=>fun u' hu=>by
  rw [YD,XQ] at f
  rcases XD.mp hu with rfl | hu
  ·rw [Iw r f.1];exact yt r rx f.1 fx
  ·exact vB rx fx t f.2 u' hu
def inV (x:V) (xs:List V):Bool:=xs.any fun y=>DN y x
def rIn (K:W.Frag) (neg:Bool):R2:=fun x y H Q=>∃ p xs,y= .ref p/\(SqL K H p xs\/SqT K H p xs)/\kY x=true/\xs.all kY=true/\Q (.bl (if neg then !inV x xs else inV x xs)) H
theorem Ga:OpR X (compareOp .In) (rIn X.K false):=by
 intro pins s U H x y v u Q I rx ry h
 obtain ⟨p,xs,rfl,hq,fx,fs,q⟩:=h
 cases ry
 rcases hq with hq | hq
 ·obtain ⟨its,r,pl,hz⟩:=I.list hq
  refine SeqAt.in_listAt (Nm x) pl.isList (fun w hw=>vB rx fx r fs w (by simpa using hw)) ⟨.bl _,H,I,rfl,?_⟩
  rw [show its.toArray.any (Nm x)=its.any (Nm x) by simp,yu r fs]
  exact q
 ·obtain ⟨its,r,pl,hz⟩:=I.tuple hq
  refine SeqAt.in_tupleAt (Nm x) pl (fun w hw=>vB rx fx r fs w (by simpa using hw)) ⟨.bl _,H,I,rfl,?_⟩
  rw [show its.toArray.any (Nm x)=its.any (Nm x) by simp,yu r fs]
  exact q
theorem CallR.or {f:Value} {r r':List V->Hp->VK->Prop} (h:CallR X f r) (h':CallR X f r'):CallR X f (fun xs H Q=>r xs H Q\/r' xs H Q):=by
 intro pins s U H xs us Q I rs q
 rcases q with q | q
 ·exact h pins s U H xs us Q I rs q
 ·exact h' pins s U H xs us Q I rs q
theorem yw:CallR X (.type "list") (fun xs H Q=>∃ p ys,xs=[.ref p]/\(SqL X.K H p ys\/SqT X.K H p ys)/\∀ l,H l=none->Q (.ref l) (upd H l (.lst ys))):=by
 intro pins s U H xs us Q I r h
 obtain ⟨p,ys,rfl,hq,q⟩:=h
 obtain ⟨u,rfl,rx⟩:=vals1 r
 cases rx
 have fin:∀ (its:List Value),Vals ys its->ys.length<=sizeLine->∀ (h':Heap) (c':Nat),(∀ b o',s.heap.get? b=some o'->h'.get? b=some o')->
   h'.get? s.heap.objs.size=some {cls:=.type "list",dict:=none,data:=.seq its.toArray c',slots:=#[]}->EP X pins U Q (.ref s.heap.objs.size) {s with heap:=h'}:=fun its r' hz h' c' kp e=>
  ⟨.ref s.heap.objs.size,_,I.laid (t':=s.toks) kp (Xp _) (show ObjOk X.prog X.w _ h' _ (.lst ys) from ⟨hz,its,c',r',e⟩),rfl,q _ (I.hok.fresh (Xp _))⟩
 rcases hq with hq | hq
 ·obtain ⟨its,r',pl,hz⟩:=I.list hq
  have hlen:=r'.length
  obtain ⟨o,ho,hc,n,hd⟩:=pl.isList
  exact call_list_seq p (.inl rfl) ho hc hd (fun h' c' kp e=>fin its r' hz h' c' kp e) (by simp only [XM] <;> omega)
 ·obtain ⟨its,r',pl,hz⟩:=I.tuple hq
  have hlen:=r'.length
  obtain ⟨o,ho,hc,n,hd⟩:=pl
  exact call_list_seq p (.inr rfl) ho hc hd (fun h' c' kp e=>fin its r' hz h' c' kp e) (by simp only [XM] <;> omega)
def tyV (K:W.Frag) (T:String) (x:V) (H:Hp):Prop:=match x with
 | .str _=>T="str"
 | .int _=>T="int"
 | .ref p=>(T="list"/\∃ xs,SqL K H p xs)\/(T="tuple"/\∃ o,K.lookup p=some o/\o.cls= .type "tuple"/\o.dict=none)\/
   (T="dict"/\((∃ kvs,H p=some (.dK kvs))\/∃ kvs,H p=some (.dT kvs)))\/(T="set"/\∃ S n,H p=some (.set S n))
 | _=>False
theorem R1 {pins:List (Addr×Obj)} {U:St} {H:Hp} {s:Shared} {T:String} {x:V} {v:Value} (I:Inv X pins U H s) (r:RelV x v) (ty:tyV X.K T x H):
  s.TypeIs v T/\∀ a,v= .ref a->∃ ob,s.heap.get? a=some ob/\ob.dict=none:=by
 cases x with
 | str z=>
  obtain ⟨t,rfl⟩:=r
  cases (show T="str" from ty)
  exact ⟨typeIs_str s z t,fun _ e=>nomatch e⟩
 | int i=>
  obtain ⟨t,rfl⟩:=r
  cases (show T="int" from ty)
  exact ⟨typeIs_int s i t,fun _ e=>nomatch e⟩
 | ref p=>
  cases r
  rcases ty with ⟨rfl,xs,hq⟩ | ⟨rfl,o,hk,hc,hd⟩ | ⟨rfl,hk⟩ | ⟨rfl,S,n,hk⟩
  ·obtain ⟨its,_,pl,_⟩:=I.list hq
   refine ⟨pl.isList.typeIs,fun a e=>?_⟩
   cases e
   obtain ⟨o,n,e,c,hd,_⟩:=pl
   exact ⟨o,e,hd⟩
  ·refine ⟨⟨o,I.kIn p o hk,hc⟩,fun a e=>?_⟩
   cases e
   exact ⟨o,I.kIn _ o hk,hd⟩
  ·have z:∃ o,s.heap.get? p=some o/\o.ExactDict:=by
    rcases hk with ⟨kvs,hk⟩ | ⟨kvs,hk⟩
    ·obtain ⟨_,_,_,_,o,_,_,e,ex,_⟩:=I.hok p _ hk
     exact ⟨o,e,ex⟩
    ·obtain ⟨_,_,_,_,o,_,_,e,ex,_⟩:=I.hok p _ hk
     exact ⟨o,e,ex⟩
   obtain ⟨o,e,ex⟩:=z
   refine ⟨⟨o,e,ex.1⟩,fun a e2=>?_⟩
   cases e2
   exact ⟨o,e,ex.2.1⟩
  ·obtain ⟨o,_,_,_,e,ex,_⟩:=I.hok p _ hk
   refine ⟨⟨o,e,ex.1⟩,fun a e2=>?_⟩
   cases e2
   exact ⟨o,e,ex.2.1⟩
 | _=>exact False.elim ty
def Vu (K:W.Frag) (T:String) (r:V->List V->Hp->VK->Prop) (to:TE) (t:TA):TE:=fun U H Q=>to U H fun x H1=>tyV K T x H1/\t U H1 fun xs H2=>r x xs H2 Q
variable {o e:Expr} {es:List Expr} {to:TE} {t:TA} {name:Str} {apos cpos:Pos} {T id:String} {r:V->List V->Hp->VK->Prop}
theorem Vv (pa:PlainAttrs T) (slot:Slot T name id) (hty:typeOf (.builtin id)=pure (.type "method_descriptor")) (hm:Vo X id r) (ho:PE X o to) (ha:PA X (e :: es) t)
  (hbase:autoParam (attributeBase o name X.env (eval o X.env)=eval o X.env) L2.auto4._auto_1)
  (hfew:((backTo cpos (starEach (e :: es) X.env)).all (fun x=>!x.1) && (backToKw cpos (keywordEach [] X.env)).all (fun x=>x.1.isSome)
   && decide ((e :: es).length+([]:List Keyword).length+(if ([]:List Keyword).isEmpty then 0 else 1) < 30))=true:=by rfl)
  (hline:autoParam ((apos.endLine == cpos.line)=true) L2.auto4._auto_1) (hs:autoParam (starEach (e :: es) X.env=(false,eval e X.env) :: starEach es X.env) L2.auto4._auto_1) (hplain:autoParam ((backTo cpos (starEach es X.env)).any (·.1)=false) L2.auto4._auto_1):
  PE X (.Call (.Attribute o name apos) (e :: es) [] cpos) (Vu X.K T r to t):=by
 intro pins s U H Q I h
 refine wpAny_Call_method_late hbase hfew hline rfl (eQ (ho pins s U H _ I h) fun v s1 qq0=>?_)
 obtain ⟨x,H1,I1,r1,ty,q1⟩:=qq0
 obtain ⟨h1,h2⟩:=R1 I1 r1 ty
 refine ⟨T,id,pa,slot,hty,h1,h2,?_⟩
 have hA:=ha cpos pins s1 U H1 _ I1 q1
 rw [hs] at hA ⊢
 refine Calls.callWith_builtin (by show (false || (backTo cpos (starEach es X.env)).any (·.1))=false;rw [hplain] <;> rfl) (Calls.evalArgs_plain ?_)
 exact eQ hA fun us s2 ⟨vs,H2,I2,r2,q2⟩=>hm pins s2 U H2 x vs v us Q I2 r1 r2 q2
end
def MtM (X:Cx) (id:String) (r:V->List V->Hp->VK->Prop):Prop:=
 ∀ (pins:List (Addr×Obj)) (s:Shared) (U:St) (H:Hp) (x:V) (xs:List V) (v:Value) (us:List Value) (Q:VK),Inv X pins U H s->RelV x v->Vals xs us->r x xs H Q->
  wpAny (model X.prog X.w) X.A (call (.builtin id) (v :: us)) (EP X pins U Q) X.xe s
theorem Vals.one:∀ {x:V} {us:List Value},Vals [x] us->∃ u,us=[u]/\RelV x u
 | _,_,.cons r .nil=>⟨_,rfl,r⟩
theorem Vals.reverse {xs:List V} {us:List Value} (h:Vals xs us):Vals xs.reverse us.reverse:=by
 induction h with
 | nil=>exact .nil
 | cons r t ih=>rw [List.reverse_cons,List.reverse_cons];exact Vals.append ih (.cons r .nil)
theorem Vals.rep {xs:List V} {us:List Value} (h:Vals xs us):∀ k:Nat,Vals (List.replicate k xs).flatten (List.replicate k us).flatten
 | 0=>.nil
 | k+1=>by
  rw [YF,YF,Y4,Y4]
  exact Vals.append h (Vals.rep h k)
theorem foldl_rep (its:List Value):∀ (k:Nat) (acc:List Value),
  List.foldl (fun x1 x2=>x1 ++ x2) acc.toArray (List.replicate k its.toArray)=(acc ++ (List.replicate k its).flatten).toArray
 | 0,acc=>by simp
 | k+1,acc=>by
  have e:acc.toArray ++ its.toArray=(acc ++ its).toArray:=by simp
  have e2:(acc ++ its) ++ (List.replicate k its).flatten=acc ++ (List.replicate (k+1) its).flatten:=by
   rw [YF,Y4,YJ]
  rw [← e2,← foldl_rep its k (acc ++ its),← e,YF,List.foldl_cons]
section
variable {X:Cx} {pins:List (Addr×Obj)} {U:St} {H:Hp} {s:Shared} {l b:Addr} {xs ys zs:List V}
theorem Inv.lset {its its':List Value} {n:Nat} {f:Array Value->Array Value} {t':Nat} (I:Inv X pins U H s) (hH:H l=some (.lst xs))
  (e:s.heap.get? l=some {cls:=.type "list",data:=.seq its.toArray n}) (hf:f its.toArray=its'.toArray) (hv:Vals ys its') (hz:ys.length<=sizeLine):
  Inv X pins U (upd H l (.lst ys)) {s with heap:=s.heap.update l (Obj.mapSeq f),toks:=t'}:=by
 have q:=PySem.IsL.update e f
 rw [hf] at q
 refine I.write (x:=l) (e:=l) (by rw [hH];exact trivial) (.inl rfl) (fun b' u hb hu=>(Yl s.heap (Obj.mapSeq f) (Ne.symm hb)).trans hu) ⟨_,q⟩ ?_
 exact ⟨hz,its',_,hv,q⟩
theorem Inv.lnew {its:List Value} {t':Nat} (I:Inv X pins U H s) (hv:Vals ys its) (hz:ys.length<=sizeLine):
  Inv X pins U (upd H s.heap.objs.size (.lst ys)) {s with heap:=s.heap.push {cls:=.type "list",data:=.seq its.toArray},toks:=t'}:=
 I.laid (fun _ _ q=>Xm _ q) (Xp _) ⟨hz,its,0,hv,Xy _ rfl⟩
theorem Inv.fresh (I:Inv X pins U H s):H s.heap.objs.size=none:=I.hok.fresh (Xp _)
theorem Inv.lstM (I:Inv X pins U H s) (hH:H l=some (.lst xs)):xs.length<=sizeLine/\∃ (its:List Value) (n:Nat),Vals xs its/\xs.length=its.length/\s.heap.get? l=some {cls:=.type "list",data:=.seq its.toArray n}:=by
 obtain ⟨z,its,n,r,e⟩:=I.hok l _ hH
 exact ⟨z,its,n,r,r.length,e⟩
theorem Iz {n:Nat} (h:n<=sizeLine):Builtin.List.listTooLong n=false:=by
 unfold Builtin.List.listTooLong
 exact XF (by omega)
end
section
variable {X:Cx}
def DP:V->List V->Hp->VK->Prop:=fun x vs H Q=>∃ l xs y,x= .ref l/\vs=[y]/\H l=some (.lst xs)/\xs.length < sizeLine/\Q .non (upd H l (.lst (xs ++ [y])))
theorem b7:MtM X "list.append" DP:=by
 intro pins s U H x vs v us Q I rx rv h
 obtain ⟨l,xs,y,rfl,rfl,hH,hz,q⟩:=h
 cases rx
 obtain ⟨u,rfl,ru⟩:=rv.one
 obtain ⟨z,its,n,r,hl,e⟩:=I.lstM hH
 refine call_meets F.slot_list_append ⟨_,e,rfl⟩ F.entry_list_append (F.args_list_append_2 _ _) (PySem.list_append l its.toArray n u (by rw [XM];omega)) ⟨e,?_⟩
 refine ⟨.non,_,I.lset (its':=its ++ [u]) hH e (by simp) (r.append (.cons ru .nil)) ?_,rfl,q⟩
 rw [Yc,List.length_singleton]
 omega
def Vw:R2:=fun x y H Q=>∃ l b xs zs,x= .ref l/\y= .ref b/\H l=some (.lst xs)/\H b=some (.lst zs)/\xs.length+zs.length<=sizeLine/\∀ p,H p=none->Q (.ref p) (upd H p (.lst (xs ++ zs)))
theorem R3:OpR X (binaryOp .Add) Vw:=by
 intro pins s U H x y v u Q I rx ry h
 obtain ⟨l,b,xs,zs,rfl,rfl,hH,hB,hz,q⟩:=h
 cases rx
 cases ry
 obtain ⟨z,its,n,r,hl,e⟩:=I.lstM hH
 obtain ⟨z2,its2,n2,r2,hl2,e2⟩:=I.lstM hB
 refine PySem.P.add_list e e2 ?_ (by rw [XM,XM];omega)
 have ea:its.toArray ++ its2.toArray=(its ++ its2).toArray:=by simp
 rw [ea]
 exact ⟨.ref _,_,I.lnew (t':=s.toks) (r.append r2) (by rw [Yc];omega),rfl,q _ I.fresh⟩
def Vx:R2:=fun x y H Q=>∃ l k xs,x= .ref l/\y= .int k/\H l=some (.lst xs)/\-(2 ^ 63)<=k/\k < 2 ^ 63/\xs.length*k.toNat<=sizeLine/\
 ∀ p,H p=none->Q (.ref p) (upd H p (.lst (List.replicate k.toNat xs).flatten))
theorem len_rep {α:Type} (xs:List α) (k:Nat):(List.replicate k xs).flatten.length=k*xs.length:=by
 induction k with
 | zero=>simp
 | succ k ih=>rw [YF,Y4,Yc,ih,Nat.succ_mul,Nat.add_comm]
theorem R5:OpR X (binaryOp .Mult) Vx:=by
 intro pins s U H x y v u Q I rx ry h
 obtain ⟨l,k,xs,rfl,rfl,hH,h1,h2,hz,q⟩:=h
 cases rx
 obtain ⟨t,rfl⟩:=ry
 obtain ⟨z,its,n,r,hl,e⟩:=I.lstM hH
 have hlen:its.toArray.size*k.toNat<=sizeLine:=by rw [XM,← hl];exact hz
 have hcap:¬ its.toArray.size*k.toNat > (2 ^ 63 - 1) / 8:=by
  have:(sizeLine:Nat)<=(2 ^ 63 - 1) / 8:=by decide
  omega
 have hfit:¬ (!Builtin.List.listFitsIndex k)=true:=by
  rw [fitsIndex_both h1 h2]
  exact Xz
 have hlong:¬ Builtin.List.listTooLong (its.toArray.size*k.toNat)=true:=by
  rw [Iz hlen]
  exact Xz
 have hnew:List.foldl (fun x1 x2=>x1 ++ x2) #[] (List.replicate (if its.toArray.isEmpty=true then 0 else k.toNat) its.toArray)=(List.replicate k.toNat its).flatten.toArray:=by
  have f0:∀ m:Nat,List.foldl (fun x1 x2=>x1 ++ x2) #[] (List.replicate m its.toArray)=(List.replicate m its).flatten.toArray:=fun m=>by
   have:=foldl_rep its m []
   rw [List.nil_append] at this
   exact this
  rw [f0]
  cases its with
  | nil=>simp
  | cons a r'=>rw [if_neg (by simp)]
 refine wpAny_binaryOp_repeat_ref (T:="list") (U:="int") (by decide) ⟨_,e,rfl⟩ (fun s'=>typeIs_int s' k t) noFill_list_mul F.fills_int_mul F.slot_int_rmul repeat_list F.slot_int_index.lookup
  (call_meets F.slot_int_rmul (typeIs_int s k t) F.entry_int_rmul (F.args_int_rmul_2 _ _) (int___rmul___int_list k t l its.toArray n)
   ⟨e,rfl,⟨_,e,rfl⟩,call_meets F.slot_list_mul ⟨_,e,rfl⟩ F.entry_list_mul (F.args_list_mul_2 _ _) (AutoListH.list___mul___list_int_3 l its.toArray n k t hfit hcap hlong) ⟨e,?_⟩⟩)
 rw [hnew]
 exact ⟨.ref _,_,I.lnew (t':=s.toks) (r.rep k.toNat) (by rw [len_rep,Nat.mul_comm];exact hz),rfl,q _ I.fresh⟩
end
end L2
namespace Att
open PySem PySem.W PySem.Calls PyProof.Rows
theorem uN {P:Params} {h:Heap}:∀ (ns:List Int) (vs:List Value),WellAll P h vs (ns.map WData.int)->IntsAre vs ns:=by
 intro ns
 induction ns with
 | nil=>
  intro vs w
  rw [List.map_nil] at w
  cases w
  exact .nil
 | cons n ns ih=>
  intro vs w
  rw [Yk] at w
  cases w with
  | cons a b=>
   cases a
   exact .cons _ _ (ih _ b)
theorem Gb {l:OpenLaw} {n:Nat} (hn:l.most=some n) {P:Params} {h:Heap} {args:List WData} {vals:List Value}
  (hpre:l.row.toRowW.claim.pre args=true) (hwl:WellAll P h vals args):
  ∃ a vs ns,vals=[Value.ref a]/\args=[WData.list (ns.map WData.int)]/\h.get? a=some {cls:=.type "list",data:=.seq vs.toArray}/\IntsAre vs ns/\ns.length<=n:=by
 have hsh:WShape.hasAll [] args [.list .int]=true:=(pre_splitW hpre).1
 have hc:l.pre.holds [] {args:=args}=true:=(pre_splitW hpre).2
 obtain ⟨d,r,rfl,h1,h2⟩:=hasAllW_cons hsh
 obtain rfl:=hasAllW_nil h2
 obtain ⟨xs,rfl,h3⟩:=hasW_list h1
 obtain ⟨ns,rfl⟩:=items_int h3
 have hlen:ns.length<=n:=by
  unfold OpenLaw.pre at hc
  have h4:(WTm.not (.lt (.lit (.int (n:Int))) (.len (.arg 0)))).holds [] {args:=[.list (ns.map .int)]}=true:=by
   have h4:=(holds_andW hc).1
   rw [hn] at h4
   exact h4
  have h5:=condW_of h4 (w_not (w_lt w_lit (w_len_list (w_arg rfl))))
  rw [Xu] at h5
  refine Nat.le_of_not_lt fun q=>?_
  have q':(n:Int) < ((ns.length:Nat):Int):=by omega
  first
   | (rw [Xq q'] at h5;exact absurd h5 (by decide))
   | (simp at h5;omega)
 cases hwl with
 | cons w1 w2=>
  cases w2
  cases w1 with
  | list ho hall=>exact ⟨_,_,ns,rfl,rfl,ho,uN ns _ hall,hlen⟩
theorem Ge (l:OpenLaw) (args:List WData):l.row.toRowW.claim.post args (.bool true) args=true:=
 postW_of (r:=l.row.toRowW) (X:=(true == true))
  (show WShape.has [] (.bool true) .bool=true by first | rfl | decide | simp [WShape.has,WShape.arms,WShape.armsAll])
  (show (WTm.eq .res (.lit (.bool true))).value [] {args:=args,res:=some (.bool true),after:=args}=some (.bool (true == true)) from w_eq_bool (w_res rfl) w_lit) rfl
theorem attach_call {l:OpenLaw} {n:Nat} {q:Program} {loose:List Str} {XP:(Str->Option Value)->Heap->Prop} {YP:World->Heap->Prop} {d:DefRec}
  (hn:l.most=some n) (hdf:d.params.defaults=[])
  (call:∀ (w:World) (s₀ s₁:Shared) (mg mb:Str->Option Value) (fa:Addr) (o:Obj) (pm cd doc:Value) (a:Addr) (vs:List Value) (ns:List Int),
   Ground q loose [] XP w s₀ mg mb s₁.heap->YP w s₁.heap->
   s₁.heap.get? fa=some o->o.data= .func (docDef d.name d.params d.body d.scope pm cd doc)->s₁.heap.CodeRec cd d.name->mg d.name=some (.ref fa)->
   s₁.heap.get? a=some {cls:=.type "list",data:=.seq vs.toArray}->IntsAre vs ns->ns.length<=n->s₁.gens= #[]->
   codeAny (model l.prog w) callerA (.call (.ref fa) ⟨[.ref a],[]⟩) (fun r s'=>r= .ok (.ret (.bool true))/\OldK s₁.heap s'.heap/\s'.os=s₁.os/\AllBare s'.gens) s₁):
  WalkO q loose XP YP l.row.toRowW d [] (fun f vs=>PySem.call f vs):=by
 intro w s₀ s₁ mg mb G Y fa o pm cd doc dV kV ho hd hcd hD hmg hg args vals as hpre hlay hrd hwl hlo
 obtain rfl:dV= .none:=Dflts.none hD hdf
 obtain rfl:kV= .none:=Dflts.noKw hD
 obtain ⟨a,vs,ns,rfl,rfl,hobj,hints,hlen⟩:=Gb hn hpre hwl
 refine enter_call (codeAny_mono (call w s₀ s₁ mg mb fa o pm cd doc a vs ns G Y ho (fd_plain hd) hcd hmg hobj hints hlen hg) fun r s' hq=>?_)
 obtain ⟨rfl,h2,h3,h4⟩:=hq
 exact ⟨.inl ⟨.bool true,.bool true,[],rfl,fun _=>rfl,.bool true,Ge l _,fun _=>⟨List.Pairwise.nil,fun _ hm=>(nomatch hm)⟩⟩,h2,h3,h4⟩
end Att
namespace L2
open PySem PySem.Spec PyProof.Rows
theorem xJ:∀ {vs:List Value} {ns:List Int},IntsAre vs ns->Vals (ns.map V.int) vs
 | _,_,.nil=>.nil
 | _,_,.cons n t h=>.cons ⟨t,rfl⟩ (xJ h)
def Only (H:Hp):Prop:=∀ b,H b=none\/∃ o xs,H b=some (.frz o (.lst xs))
theorem IK {P:Program} {w:World} {K:W.Frag} {mg mb:Str->Option Value} {CX:FQ} {k:Nat} {fa a:Addr} {fd:FuncData} {x:Str} {sp:Sp} {s₁:Shared} {vs:List Value} {ns:List Int}
  (KX:K.In s₁.heap) (hns:s₁.heap.Ns mainGlobals mg) (hb:s₁.heap.Ns builtinsNs mb) (hbb:∀ x:Str,x≠"__name__"->mb x=bootBuiltins x) (hlim:s₁.heap.NoLimit) (hsm:∃ mm,s₁.heap.Ns sysModules mm) (hbm:∃ bm ob,mg "__builtins__"=some (.ref bm)/\bm≠builtinsNs/\s₁.heap.get? bm=some ob/\ob.cls= .type "module"/\ob.dict=some builtinsNs/\ob.data= .plain) (hg:s₁.gens= #[])
  (ha:s₁.heap.get? a=some {cls:=.type "list",data:=.seq vs.toArray}) (hi:IntsAre vs ns) (hl:ns.length<=sizeLine) (hr:Room k callerA)
  (F:∀ base:Heap,K.In base->base.Ns mainGlobals mg->FnOk P w K mg base CX k fa fd [x] sp) (hbind:∀ (s:Shared) (u:Value),BindsTo s fd ⟨[u],[]⟩ [(x,u)])
  (hsp:∀ H:Hp,Only H->SqL K H a (ns.map V.int)->sp [.ref a] H (fun v _=>v= .bl true) fun _ _ _=>False)
  (hCX:∀ H e s',CX [] H s₁ (fun _ _ _=>False) e s'->False):
  codeAny (model P w) callerA (.call (.ref fa) ⟨[.ref a],[]⟩) (fun r s'=>r= .ok (.ret (.bool true))/\OldK s₁.heap s'.heap/\s'.os=s₁.os/\AllBare s'.gens) s₁:=by
 have rv:=xJ hi
 have lenV:=hi.length
 have core:∀ H:Hp,Only H->SqL K H a (ns.map V.int)->HOk P w H s₁.heap->(∀ b,H b≠none->b=a)->(H a≠none->K.lookup a=none)->
   codeAny (model P w) callerA (.call (.ref fa) ⟨[.ref a],[]⟩) (fun r s'=>r= .ok (.ret (.bool true))/\OldK s₁.heap s'.heap/\s'.os=s₁.os/\AllBare s'.gens) s₁:=by
  intro H hO hS hok hA hK
  have base_of:∀ {b:Addr} {o:Obj},s₁.heap.get? b=some o->H b=none->(yh s₁.heap H).get? b=some o:=fun e n=>Ht e n
  have noA:∀ {b:Addr} {o:Obj} {es:Array DictEntry} {ep:Nat},s₁.heap.get? b=some o->o.data= .dict es ep->H b=none:=fun {b o es ep} e d=>by
   cases q:H b with
   | none=>rfl
   | some u=>
    have e':b=a:=hA b (by rw [q];simp)
    subst e'
    rw [ha] at e;cases e
    have d':Data.seq vs.toArray _=Data.dict es ep:=d
    cases d'
  have noM:∀ {b:Addr} {o:Obj},s₁.heap.get? b=some o->o.cls= .type "module"->H b=none:=fun {b o} e d=>by
   cases q:H b with
   | none=>rfl
   | some u=>
    have e':b=a:=hA b (by rw [q];simp)
    subst e'
    rw [ha] at e;cases e
    exact absurd (show (Value.type "list":Value)= .type "module" from d) (fun z=>absurd (Value.type.inj z) (by decide))
  have nsK:∀ {b:Addr} {m:Str->Option Value},s₁.heap.Ns b m->(yh s₁.heap H).Ns b m:=fun {b m} ⟨o,es,ep,e,d,r⟩=>⟨o,es,ep,base_of e (noA e d),d,r⟩
  have hKb:K.In (yh s₁.heap H):=fun b o e=>base_of (KX b o e) (by
   cases q:H b with
   | none=>rfl
   | some u=>
    have e':b=a:=hA b (by rw [q];simp)
    subst e'
    rw [hK (by rw [q];simp)] at e;cases e)
  have hM:Mod K mg (yh s₁.heap H):=⟨hKb,nsK hns,⟨mb,nsK hb,hbb⟩,(let ⟨mc,h1,h2⟩:=hlim;⟨mc,nsK h1,h2⟩),(let ⟨mm,h1⟩:=hsm;⟨mm,nsK h1⟩),let ⟨bm,ob,b1,b2,b3,b4,b5⟩:=hbm;⟨bm,ob,b1,b2,base_of b3 (noM b3 b4),b4,b5⟩⟩
  have e0:Env0 P w K mg (yh s₁.heap H) callerA [] s₁ H:=⟨rfl,hM,fun b o e=>Mg e,Za (Ft _ _),trivial,fun b hb=>absurd (show b∈([]:List Addr) from hb) (by simp),hok,.of_eq hg⟩
  refine codeAny_mono ((F _ hKb (nsK hns)).run callerA [] s₁ H ⟨[.ref a],[]⟩ [.ref a] [.ref a] _ _ hr e0 (hbind s₁ (.ref a)) (.cons rfl .nil) (hsp H hO hS)) fun r s' h=>?_
  cases r with
  | error e=>exact (hCX H e s' h).elim
  | ok fl=>
   cases fl with
   | next=>exact False.elim h
   | brk=>exact False.elim h
   | cont=>exact False.elim h
   | ret u=>
    obtain ⟨v,H',os,bare,un,hok',r',q⟩:=h
    have q':v= .bl true:=q
    subst q'
    obtain rfl:u=Value.bool true:=r'
    refine ⟨rfl,OldK.of_keep fun b o e=>?_,os,bare⟩
    cases q:H b with
    | none=>exact un.keep b o e q (by intro z;exact absurd (show b∈([]:List Addr) from z) (by simp)) (by simp)
    | some u=>
     rcases hO b with z | ⟨ob,xs,z⟩
     ·rw [q] at z;cases z
     ·have z2:=un.frzs b ob _ z
      obtain ⟨e1,_⟩:=hok b _ z
      obtain ⟨e2,_⟩:=hok' b _ z2
      rw [e] at e1;cases e1
      exact e2
 cases hk:K.lookup a with
 | some o=>
  have e:=KX a o hk
  rw [ha] at e
  cases e
  refine core (fun _=>none) (fun _=>.inl rfl) (.inr ⟨_,vs.toArray,_,hk,rfl,rfl,rfl,by rw [XM,lenV];exact hl,by simpa using rv⟩) (fun b u z=>by have z':(none:Option HO)=some u:=z;cases z') (fun b z=>absurd rfl z) fun z=>absurd rfl z
 | none=>
  refine core (fun b=>if b=a then some (.frz {cls:=.type "list",data:=.seq vs.toArray} (.lst (ns.map V.int))) else none) (fun b=>?_) (.inl (.inr ⟨{cls:=.type "list",data:=.seq vs.toArray},if_pos rfl⟩)) (fun b u z=>?_) (fun b z=>?_) fun _=>hk
  ·by_cases hb:b=a
   ·exact .inr ⟨_,_,if_pos hb⟩
   ·exact .inl (if_neg hb)
  ·by_cases hb:b=a
   ·have z':=(if_pos hb).symm.trans z
    cases z'
    subst hb
    exact ⟨ha,by rw [Xu];exact hl,vs,_,rv,ha⟩
   ·have z':=(if_neg hb).symm.trans z
    cases z'
  ·by_cases hb:b=a
   ·exact hb
   ·exact absurd (if_neg hb) z
abbrev KOf {K:W.Frag} {h:Heap} (_:K.In h):W.Frag:=K
theorem Np {l:PySem.W.OpenLaw} {n k:Nat} {q:Program} {loose:List Str} {XP:(Str->Option Value)->Heap->Prop} {YP:World->Heap->Prop} {d:DefRec} {K:Params->W.Frag} {CX:World->FQ} {sp:World->Sp} {x:Str}
  (hn:l.most=some n) (hn2:n<=sizeLine) (hdf:d.params.defaults=[]) (hr:Room k callerA)
  (hY:∀ (w:World) (h:Heap),YP w h->(K w.params).In h)
  (F:∀ (w:World) (mg:Str->Option Value) (fa:Addr) (h:Heap),(K w.params).In h->h.Ns mainGlobals mg->mg d.name=some (.ref fa)->
   ∃ fd:FuncData,(∀ (s:Shared) (u:Value),BindsTo s fd ⟨[u],[]⟩ [(x,u)])/\
    ∀ base:Heap,(K w.params).In base->base.Ns mainGlobals mg->FnOk l.prog w (K w.params) mg base (CX w) k fa fd [x] (sp w))
  (hsp:∀ (w:World) (H:Hp) (a:Addr) (ns:List Int),ns.length<=n->Only H->SqL (K w.params) H a (ns.map V.int)->sp w [.ref a] H (fun v _=>v= .bl true) fun _ _ _=>False)
  (hCX:∀ (w:World) (H:Hp) (s:Shared) (e:Value) (s':Shared),CX w [] H s (fun _ _ _=>False) e s'->False) (him:importsNone q=true):
  PySem.W.WalkO q loose XP YP l.row.toRowW d [] (fun f vs=>PySem.call f vs):=by
 refine Att.attach_call hn hdf fun w s₀ s₁ mg mb fa o pm cd doc a vs ns G Y ho hd hcd hmg hobj hints hlen hg=>?_
 have KX:=hY w _ Y
 obtain ⟨fd,hb,hF⟩:=F w mg fa _ KX G.T.g hmg
 exact IK KX G.T.g G.T.b G.T.builtins G.T.nolimit (let ⟨mm,h1,_⟩:=(G.T.seer him).mods;⟨mm,h1⟩) G.T.bmain hg hobj hints (Xv hlen hn2) hr hF hb (fun H hO hS=>hsp w H a ns hlen hO hS) fun H e s'=>hCX w H s₁ e s'
def f9 (s:Stmt):Arguments:=match s with
 | .FunctionDef _ a _ _ _ _ _ _ _ _=>a
 | _=>{posonlyargs:=[],args:=[],vararg:=none,kwonlyargs:=[],kw_defaults:=[],kwarg:=none,defaults:=[]}
def b8 (s:Stmt):List Stmt:=match s with
 | .FunctionDef _ _ b _ _ _ _ _ _ _=>b
 | _=>[]
def az (s:Stmt):Scope:=match s with
 | .FunctionDef _ _ _ _ _ _ sc _ _ _=>sc
 | _=>{kind:=.function,names:=[],isGenerator:=false,isCoroutine:=false}
abbrev Gf:FQ:=fun _ _ _ _ _ _=>False
abbrev E0:XK:=fun _ _ _=>False
theorem Vy {X:Cx}:BK Gf X E0:=fun _ _ _ _ _ _ _ h=>h.elim
structure Fun (K:W.Frag) (x qual:Str) (st:Stmt) (f:Addr) (fd:FuncData):Prop where
 ex:∃ (oc:Value) (od:Option Addr) (kV doc pm:Value) (an:Option Addr) (cdv ct:Value) (osl:Array (Option Value)),
  fd=PySem.W.fnOf x qual (f9 st) (b8 st) (az st) .none kV doc pm an cdv ct/\K.lookup f=some ⟨oc,od,.func fd,osl⟩/\PySem.W.codeIn K cdv qual=true
 kp:PySem.W.keepIn K (.ref f)=true
section
variable {P:Program} {w:World} {K:W.Frag} {mg:Str->Option Value} {base:Heap}
theorem Fun.ok {x qual:Str} {st:Stmt} {f:Addr} {fd:FuncData} {N ps:List Str} {k:Nat} {sp:Sp} (F:Fun K x qual st f fd) (S:aD N ps (az st)) (len:∀ vs H Q E,sp vs H Q E->vs.length=ps.length)
  (hbody:∀ (cdv:Value) (A:Around) (outer:List Env) (s:Shared) (H:Hp) (vs:List V) (Q:VK) (E:XK),Room k (A.deeper (envOfC qual (az st) s.heap.objs.size f cdv))->sp vs H Q E->
   ∃ t,PSs (ql Gf P w K mg base N qual (az st) f cdv A outer s H E).nox (b8 st) t/\t {nx:=fun _ H'=>Q .non H',rt:=Q} (start N vs) H):FnOk P w K mg base Gf (k+1) f fd ps sp:=by
 obtain ⟨oc,od,kV,doc,pm,an,cdv,ct,osl,rfl,lk,hcd⟩:=F.ex
 refine Io lk hcd S len fun A outer s H vs Q E hr hsp=>?_
 obtain ⟨t,h,q⟩:=hbody cdv A outer s H vs Q E hr hsp
 exact ⟨t,h.nox,q⟩
theorem Fun.binds {x qual:Str} {st:Stmt} {f:Addr} {fd:FuncData} {ps:List Str} (F:Fun K x qual st f fd)
  (h:∀ (kV doc pm:Value) (an:Option Addr) (cdv ct:Value) (us:List Value),us.length=ps.length->bindArgs (PySem.W.fnOf x qual (f9 st) (b8 st) (az st) .none kV doc pm an cdv ct) ⟨us,[]⟩=pure (ps.zip us)):Binds K fd ps []:=by
 obtain ⟨oc,od,kV,doc,pm,an,cdv,ct,osl,rfl,lk,hcd⟩:=F.ex
 exact .all (h kV doc pm an cdv ct)
theorem BV {x qual:Str} {st:Stmt} {f:Addr} {oc:Value} {od an:Option Addr} {osl:Array (Option Value)} {kV doc pm cdv ct:Value} (l:K.lookup f=some ⟨oc,od,.func (PySem.W.fnOf x qual (f9 st) (b8 st) (az st) .none kV doc pm an cdv ct),osl⟩)
  (c:PySem.W.codeIn K cdv qual=true) (k:PySem.W.keepIn K (.ref f)=true):Fun K x qual st f (PySem.W.fnOf x qual (f9 st) (b8 st) (az st) .none kV doc pm an cdv ct):=⟨⟨oc,od,kV,doc,pm,an,cdv,ct,osl,rfl,l,c⟩,k⟩
end
theorem jL {A B:Prop} (h:B):if false=true then A else B:=by
 rw [if_neg Xz]
 exact h
theorem jT {A B:Prop} (h:A):if true=true then A else B:=by
 rw [if_pos rfl]
 exact h
def Same (H H':Hp):Prop:=∀ b o,H b=some o->H' b=some o
theorem Same.refl (H:Hp):Same H H:=fun _ _ h=>h
theorem Same.trans {H H1 H2:Hp} (a:Same H H1) (b:Same H1 H2):Same H H2:=fun c o h=>b c o (a c o h)
theorem Same.free {H H':Hp} (e:Same H H') {l:Addr} (h:H' l=Option.none):H l=Option.none:=by
 cases q:H l with
 | none=>rfl
 | some o=>
  rw [e l o q] at h
  cases h
theorem Same.seq {K:W.Frag} {H H':Hp} {a:Addr} {xs:List V} (e:Same H H') (h:SqL K H a xs):SqL K H' a xs:=by
 rcases h with (h | ⟨o,h⟩) | h
 ·exact .inl (.inl (e _ _ h))
 ·exact .inl (.inr ⟨o,e _ _ h⟩)
 ·exact .inr h
end L2
set_option maxHeartbeats 4000000
namespace L2
open PySem PySem.Spec PyProof.Rows
def uO (env:Env):List (Str×NameKind)->List (Str×Addr)->List (Str×Addr)
 | [],acc=>acc
 | (n,k) :: r,acc=>uO env r (if k == .free then (match env.cells.lookup n with | some c=>(n,c) :: acc | none=>acc) else acc)
theorem vC {env:Env}:∀ {names:List (Str×NameKind)} {acc:List (Str×Addr)},(∀ x c,(x,c)∈acc->env.cells.lookup x=some c)->∀ x c,(x,c)∈uO env names acc->env.cells.lookup x=some c
 | [],_,h,x,c,m=>h x c m
 | (n,k) :: r,acc,h,x,c,m=>by
  refine vC (names:=r) ?_ x c m
  intro y d hm
  cases hk:(k == NameKind.free) with
  | false=>rw [hk] at hm;exact h y d hm
  | true=>
   rw [hk] at hm
   simp only [if_true] at hm
   cases e:env.cells.lookup n with
   | none=>rw [e] at hm;exact h y d hm
   | some c'=>
    rw [e] at hm
    rcases XD.mp hm with z | z
    ·cases z;exact e
    ·exact h y d z
theorem zJ {env:Env}:∀ {names:List (Str×NameKind)} {acc:List (Str×Addr)} {p:Str×Addr},p∈acc->p∈uO env names acc
 | [],_,_,h=>h
 | (n,k) :: r,acc,p,h=>by
  refine zJ (names:=r) ?_
  split
  ·split
   ·exact XR _ h
   ·exact h
  ·exact h
theorem vD {env:Env} {x:Str} {c:Addr} (e:env.cells.lookup x=some c):∀ {names:List (Str×NameKind)} {acc:List (Str×Addr)},(x,NameKind.free)∈names->(x,c)∈uO env names acc
 | [],_,h=>by simp at h
 | (n,k) :: r,acc,h=>by
  rcases XD.mp h with z | z
  ·cases z
   refine zJ (names:=r) ?_
   rw [e]
   simp
  ·exact vD e (names:=r) z
theorem wX {l:List (Str×Addr)} {x:Str} {c:Addr} (hm:(x,c)∈l) (ha:∀ d,(x,d)∈l->d=c):l.lookup x=some c:=by
 induction l with
 | nil=>simp at hm
 | cons p r ih=>
  obtain ⟨n,d⟩:=p
  by_cases e:x=n
  ·subst e
   have:d=c:=ha d (by simp)
   subst this
   simp [Yg]
  ·have hb:(x == n)=false:=by simpa using e
   rw [Yg,hb]
   refine ih ?_ fun d' h'=>ha d' (XR _ h')
   rcases XD.mp hm with z | z
   ·cases z;exact absurd rfl e
   ·exact z
theorem zK {env:Env} {names:List (Str×NameKind)} {x:Str} {c:Addr} (e:env.cells.lookup x=some c) (h:(x,NameKind.free)∈names):(uO env names []).lookup x=some c:=
 wX (vD e h) fun d hd=>by
  have q:=vC (names:=names) (acc:=[]) (env:=env) (by simp) x d hd
  rw [e] at q
  exact (XS q).symm
theorem Gg {env:Env} {names:List (Str×NameKind)} {x:Str} {c:Addr} (e:(uO env names []).lookup x=some c):env.cells.lookup x=some c:=
 vC (names:=names) (acc:=[]) (env:=env) (by simp) x c (Yx e)
theorem qm {env:Env}:∀ (names:List (Str×NameKind)) (acc:List (Str×Addr)),(∀ x∈names,x.2=NameKind.free->∃ c,env.cells.lookup x.1=some c)->
  (forIn (m:=Sem) names acc fun x r=>match x with
   | (name,kind)=>if (kind == NameKind.free)=true then do let c ← cellOf env name;pure (ForInStep.yield ((name,c) :: r)) else pure (ForInStep.yield r))=pure (uO env names acc)
 | [],acc,_=>rfl
 | (n,k) :: r,acc,h=>by
  rw [List.forIn_cons]
  cases hk:(k == NameKind.free) with
  | false=>
   simp only [hk,ZQ,if_false,pure_bind,uO]
   exact qm r acc fun x hx=>h x (XR _ hx)
  | true=>
   obtain ⟨c,e⟩:=h (n,k) Yt (by simpa using hk)
   simp only [hk,if_true,pure_bind,uO,cellOf,e]
   exact qm r ((n,c) :: acc) fun x hx=>h x (XR _ hx)
theorem wY {scope:Scope} {env:Env} (h:∀ x∈scope.names,x.2=NameKind.free->∃ c,env.cells.lookup x.1=some c):closureFor scope env=pure (uO env scope.names []):=by
 unfold closureFor
 have:=qm (env:=env) scope.names [] h
 simp only [this,pure_bind]
theorem Gh {prog:Program} {w:World} {A:Around} {R:Result->Shared->Prop} {s:Shared} {elt target iter:Expr} {ifs:List Expr} {scope:Scope} {pos:Pos} {it acc:Value} {env:Env} (I:Nat->Shared->Prop)
  (turn:∀ n s,I n s->wpAny (model prog w) A (pyNext it) (fun r s₁=>match r with
   | none=>R (.ok .next) s₁
   | some v=>wpAny (model prog w) A (letOwnedTupleGo target it v) (fun _ s₁'=>wpAny (model prog w) A (assign target env v) (fun _ s₂=>
     wpAny (model prog w) A (forIn ifs true fun c r=>if r=true then do let ok ← isTrue c env (eval c env);pure (ForInStep.yield ok) else pure (ForInStep.yield r)) (fun ok s₃=>
      if ok=true then wpAny (model prog w) A (eval elt env) (fun x s₄=>
       wpAny (model prog w) A (call (.builtin "list.append") [acc,x]) (fun _ s₅=>∃ m,m < n/\I m s₅) (fun _ _=>False) s₄) (fun _ _=>False) s₃
      else ∃ m,m < n/\I m s₃) (fun _ _=>False) s₂) (fun _ _=>False) s₁') (fun _ _=>False) s₁) (fun _ _=>False) s)
  (n:Nat) (h:I n s):
  codeAny (model prog w) A (.compLoop (.ListComp elt [⟨target,iter,ifs,0⟩] scope pos) 0 it acc env) R s:=by
 refine codeAny_loop rfl I (fun n s hI=>?_) n h
 show wpAny _ A ((compTurn (.ListComp elt [⟨target,iter,ifs,0⟩] scope pos) 0 it acc env).onRaise (fun x=>do noteFrame x env;theTreesLotGoes x)) _ _ s
 refine wpAny_noted ?_
 rw [compTurn_list]
 refine Xj (ZW (Xj (YS (turn n s hI) (fun r s₁ h₁=>?_) fun _ _ h'=>h'.elim)))
 cases r with
 | none=>exact Xo h₁
 | some v=>
  refine Xj (YS h₁ (fun _ s₁' h₁'=>?_) fun _ _ h'=>h'.elim)
  refine Xj (YS h₁' (fun _ s₂ h₂=>Xj (YS h₂ (fun ok s₃ h₃=>?_) fun _ _ h'=>h'.elim)) fun _ _ h'=>h'.elim)
  cases ok with
  | false=>exact Xo ⟨rfl,h₃⟩
  | true=>
   exact Xj (Xj (YS h₃ (fun x s₄ h₄=>Xj (YS h₄ (fun _ s₅ h₅=>Xo (Xo ⟨rfl,h₅⟩)) fun _ _ h'=>h'.elim)) fun _ _ h'=>h'.elim))
theorem eO:∀ (names:List (Str×NameKind)) (n:Nat) (acc:List (Str×Addr)),cellsFrom n names acc=cellsFrom n names [] ++ acc
 | [],_,_=>rfl
 | (x,k) :: r,n,acc=>by
  unfold cellsFrom
  split
  ·rw [eO r (n+1) ((x,n) :: acc),eO r (n+1) [(x,n)],YJ];rfl
  ·exact eO r n acc
theorem rG {α:Type}:∀ {A B:List (Str×α)} {x:Str},(A ++ B).lookup x=(match A.lookup x with | some c=>some c | none=>B.lookup x)
 | [],_,_=>rfl
 | (y,c) :: A,B,x=>by
  rw [List.cons_append,Yg,Yg]
  cases x == y with
  | true=>rfl
  | false=>exact rG (A:=A)
theorem vG:∀ {names:List (Str×NameKind)} {n:Nat} {acc:List (Str×Addr)} {x:Str} {c:Addr},(x,c)∈cellsFrom n names acc->(x,c)∈acc\/(x,NameKind.cell)∈names
 | [],_,_,_,_,h=>.inl h
 | (y,k) :: r,n,acc,x,c,h=>by
  unfold cellsFrom at h
  split at h
  ·rename_i hk
   rcases vG h with z | z
   ·rcases XD.mp z with z | z
    ·cases z
     have:k= .cell:=by simpa using hk
     rw [this];exact .inr Yt
    ·exact .inl z
   ·exact .inr (XR _ z)
  ·exact (vG h).imp id (XR _)
theorem rH {α:Type}:∀ {l:List (Str×α)} {x:Str} {c:α},(x,c)∈l->∃ d,l.lookup x=some d
 | (y,d) :: r,x,c,h=>by
  by_cases e:x=y
  ·subst e;exact ⟨d,by simp [Yg]⟩
  ·have hb:(x == y)=false:=by simpa using e
   rw [Yg,hb]
   rcases XD.mp h with z | z
   ·cases z;exact absurd rfl e
   ·exact rH z
theorem rJ:∀ {names:List (Str×NameKind)} {n:Nat} {acc:List (Str×Addr)} {x:Str},(x,NameKind.cell)∈names\/(∃ c,(x,c)∈acc)->∃ c,(x,c)∈cellsFrom n names acc
 | [],_,_,_,h=>h.elim (fun h=>by simp at h) id
 | (y,k) :: r,n,acc,x,h=>by
  unfold cellsFrom
  split
  ·refine rJ ?_
   rcases h with h | ⟨c,h⟩
   ·rcases XD.mp h with z | z
    ·cases z;exact .inr ⟨n,Yt⟩
    ·exact .inl z
   ·exact .inr ⟨c,XR _ h⟩
  ·rename_i hk
   refine rJ ?_
   rcases h with h | h
   ·rcases XD.mp h with z | z
    ·cases z;exact absurd (by decide) hk
    ·exact .inl z
   ·exact .inr h
def IV (X:Cx) (scope:Scope) (C:Addr):List (Str×Addr):=cellsFrom (C+1) scope.names (uO X.env scope.names [])
section
variable {M:Model} {A:Around} {E:Value->Shared->Prop} {s:Shared}
theorem mD {scope:Scope} {globals:Addr} {cl:List (Str×Addr)} {qual:Str} {env:Env} {Q:Env->Shared->Prop}
  (hQ:∀ h':Heap,h'.Ns s.heap.objs.size (fun _=>none)->(∀ b o,s.heap.get? b=some o->h'.get? b=some o)->CellsOk h' (s.heap.objs.size+1) (cellsFrom (s.heap.objs.size+1) scope.names [])->
   Q (newEnv scope s.heap.objs.size globals (cellsFrom (s.heap.objs.size+1) scope.names cl) qual none .none (some env) builtinsNs) {s with heap:=h',toks:=s.toks+([]:List (Str×Value)).length}):
  wpAny M A (newFunctionEnv scope globals cl [] qual none .none (some env)) Q E s:=by
 simp only [newFunctionEnv,Option.isSome_some,if_true]
 refine Xj (wpAny_alloc ?_)
 refine Xj (wpAny_layCells _ (fun name kind cells=>by cases hkc:kind == NameKind.cell <;> simp [hkc]) _ _ _ _ ?_)
 have ok:=cellsFrom_ok scope.names (s.heap.push {cls:=.type "dict",data:=.dict #[]}) (s.heap.objs.size+1) [] ⟨fun _ _ hm=>(nomatch hm),List.Pairwise.nil⟩ (by rw [YT];exact Xp _)
 rw [YT] at ok
 rw [show ({s with heap:=s.heap.push {cls:=.type "dict",data:=.dict #[]}}:Shared).heap.objs.size=s.heap.objs.size+1 from YT ..]
 exact Xj (Xo (Xo (hQ _ ((Heap.Ns.new s.heap (.type "dict")).keeps (pushCells_keeps _ _)) (fun b o e=>pushCells_keeps _ _ b o (Xm _ e)) ok)))
end
def rD (X:Cx) (N':List Str) (scope:Scope) (C:Addr) (s₀:Shared) (H₀:Hp) (ex:List Addr):Cx:=
 {X with N:=N',s₀:=s₀,H₀:=H₀,env:=compEnvC scope (IV X scope C) C X.env,outer:=X.stack,ex:=ex,fn:=fun x=>decide (scope.names.lookup x=some .cell),pn:=[],xe:=fun _ _=>False}
def eY (sub:List (Option Nat)) (U:St):St:=sub.map fun o=>o.bind fun j=>(U[j]?).join
structure ux (N:List Str) (sc:Scope) (N':List Str) (scope:Scope) (sub:List (Option Nat)):Prop where
 kind:scope.kind= .function
 cel:∀ x∈scope.names,x.2= .cell->scope.names.lookup x.1=some .cell
 loc:∀ x∈scope.names,x.2= .local->scope.names.lookup x.1=some .local
 free:∀ x∈scope.names,x.2= .free->sc.names.lookup x.1=some .cell\/sc.names.lookup x.1=some .free
 len:sub.length=N'.length
 at_:∀ (i j:Nat) (x:Str),sub[i]?=some (some j)->N'[i]?=some x->N[j]?=some x/\(x,NameKind.free)∈scope.names/\scope.names.lookup x=some .free
def IW (N:List Str) (sc:Scope) (N':List Str) (scope:Scope) (sub:List (Option Nat)):Bool:=
 decide (scope.kind= .function) && scope.names.all (fun x=>decide (x.2= .cell->scope.names.lookup x.1=some .cell)) && scope.names.all (fun x=>decide (x.2= .local->scope.names.lookup x.1=some .local)) &&
 scope.names.all (fun x=>decide (x.2= .free->sc.names.lookup x.1=some .cell\/sc.names.lookup x.1=some .free)) && decide (sub.length=N'.length) &&
 (List.range sub.length).all fun i=>match sub[i]?,N'[i]? with
  | some (some j),some x=>decide (N[j]?=some x/\(x,NameKind.free)∈scope.names/\scope.names.lookup x=some .free)
  | _,_=>true
theorem jB {N:List Str} {sc:Scope} {N':List Str} {scope:Scope} {sub:List (Option Nat)} (h:IW N sc N' scope sub=true):ux N sc N' scope sub:=by
 simp only [IW,XQ,decide_eq_true_eq,Zi] at h
 obtain ⟨⟨⟨⟨⟨h1,h2⟩,h3⟩,h4⟩,h5⟩,h6⟩:=h
 refine ⟨h1,h2,h3,h4,h5,fun i j x e1 e2=>?_⟩
 have hi:i < sub.length:=(Xn.mp e1).1
 have q:=h6 i (XJ.mpr hi)
 rw [e1,e2] at q
 simpa using q
def Ja:TT:=fun _ H Q=>Q true H
def BW (X:Cx) (ifs:List Expr) (t:TT):Prop:=
 ∀ (pins:List (Addr×Obj)) (s:Shared) (U:St) (H:Hp) (Q:Bool->Hp->Prop),Inv X pins U H s->t U H Q->
  wpAny (model X.prog X.w) X.A (forIn ifs true fun c r=>if r=true then do let ok ← isTrue c X.env (eval c X.env);pure (ForInStep.yield ok) else pure (ForInStep.yield r)) (TP X pins U Q) X.xe s
theorem Jb {X:Cx}:BW X [] Ja:=fun _ _ _ H _ I h=>wpAny_tests_nil ⟨H,I,h⟩
def KeepSt (U U':St):Prop:=U'.length=U.length/\∀ (i:Nat) (v:V),U[i]?=some (some v)->U'[i]?=some (some v)
theorem KeepSt.set {U:St} {i:Nat} {v:V} (h:U[i]?=some none):KeepSt U (U.set i (some v)):=by
 refine ⟨by simp,fun j u e=>?_⟩
 by_cases hj:i=j
 ·subst hj;rw [h] at e;cases e
 ·rw [Yd hj];exact e
def vH (sub:List (Option Nat)) (wi:TI) (g:TG) (tt:TT) (te:TE):TE:=fun U H Q=>wi U H fun J H1=>∃ W:Nat->Nat->List V->Hp->Prop,(∃ m,W 0 m [] H1)/\∀ i m ys H,W i m ys H->
 (J.stop i H/\ys.length<=sizeLine/\∀ D,H D=none->Q (.ref D) (upd H D (.lst ys)))\/
 (J.go i H/\ys.length < sizeLine/\∃ N:List V->Hp->Prop,(∀ ys' H',N ys' H'->∃ m',m' < m/\W (i+1) m' ys' H')/\
  ∀ x H',J.yld i H x H'->g x (eY sub U) H' fun σ2 H2=>KeepSt (eY sub U) σ2/\tt σ2 H2 fun b H3=>if b=true then te σ2 H3 fun y H4=>N (ys ++ [y]) H4 else N ys H3)
theorem rK {scope:Scope} {env:Env} {x:Str} (hx:scope.names.lookup x=some .free):(relabel scope env).names.lookup x=some .cell\/(relabel scope env).names.lookup x=some .free:=by
 have:∀ names:List (Str×NameKind),names.lookup x=some .free->
  (names.map fun (n,k)=>if (k == NameKind.free && env.scope.kind == .function && env.kindOf n == some .cell) then (n,NameKind.cell) else (n,k)).lookup x=some .cell\/
  (names.map fun (n,k)=>if (k == NameKind.free && env.scope.kind == .function && env.kindOf n == some .cell) then (n,NameKind.cell) else (n,k)).lookup x=some .free:=by
  intro names
  induction names with
  | nil=>intro h;simp at h
  | cons p r ih=>
   obtain ⟨n,k⟩:=p
   intro h
   by_cases e:x=n
   ·subst e
    have hk:k= .free:=by simpa [Yg] using h
    subst hk
    by_cases hc:((NameKind.free == NameKind.free && env.scope.kind == .function && env.kindOf x == some .cell)=true)
    ·left;simp only [Yk];rw [if_pos hc];simp [Yg]
    ·right;simp only [Yk];rw [if_neg hc];simp [Yg]
   ·have hb:(x == n)=false:=by simpa using e
    rw [Yg,hb] at h
    have q:=ih h
    simp only [Yk]
    split <;> (rw [Yg,hb];exact q)
 exact this scope.names hx
theorem yx {scope:Scope} {env:Env} {x:Str} (h:(relabel scope env).names.lookup x=some .cell\/(relabel scope env).names.lookup x=some .free):(x,NameKind.cell)∈scope.names\/(x,NameKind.free)∈scope.names:=by
 have key:∀ k,(k=NameKind.cell\/k=NameKind.free)->(relabel scope env).names.lookup x=some k->(x,NameKind.cell)∈scope.names\/(x,NameKind.free)∈scope.names:=by
  intro k hk hl
  have hm:=Yx hl
  unfold relabel at hm
  obtain ⟨⟨n,k'⟩,hm1,hm2⟩:=Yr.mp hm
  dsimp only at hm2
  by_cases hc:(k' == NameKind.free && env.scope.kind == .function && env.kindOf n == some .cell)=true
  ·rw [if_pos hc] at hm2
   cases hm2
   simp only [XQ,Zh] at hc
   rw [← hc.1.1];exact .inr hm1
  ·rw [if_neg hc] at hm2
   cases hm2
   rcases hk with hk | hk
   ·subst hk;exact .inl hm1
   ·subst hk;exact .inr hm1
 rcases h with h | h
 ·exact key _ (.inl rfl) h
 ·exact key _ (.inr rfl) h
section
variable {X:Cx} {tg iter elt:Expr} {ifs:List Expr} {scope:Scope} {pos:Pos} {N':List Str} {sub:List (Option Nat)} {wi:TI} {g:TG} {tt:TT} {te:TE}
theorem Gi {pins:List (Addr×Obj)} {U:St} {H:Hp} {s:Shared} {fp:List Addr} {D:Addr} {h':Heap} {tk:Nat} {N:List Str} {sc:Scope} (S:ux N sc N' scope sub) (hN:X.N=N) (hsc:X.env.scope=sc) (I:Inv X pins U H s) (hf:∀ b∈fp,n6 X pins H b) (hfo:∀ b∈fp,b < s.heap.objs.size)
  (hD:D < s.heap.objs.size) (fD:n6 X pins H D) (hns:h'.Ns s.heap.objs.size fun _=>none) (hk:∀ b o,s.heap.get? b=some o->h'.get? b=some o) (hc:CellsOk h' (s.heap.objs.size+1) (cellsFrom (s.heap.objs.size+1) scope.names [])):
  Inv (rD X N' scope s.heap.objs.size s H (D :: fp)) [] (eY sub U) H {s with heap:=h',toks:=tk}:=by
 have hex:∀ b∈D :: fp,n6 X pins H b/\b < s.heap.objs.size:=fun b hb=>by
  rcases XD.mp hb with rfl | z
  ·exact ⟨fD,hD⟩
  ·exact ⟨hf b z,hfo b z⟩
 have spl:∀ {x c},(IV X scope s.heap.objs.size).lookup x=some c->(h'.IsCell c none/\s.heap.objs.size+1<=c/\(x,c)∈cellsFrom (s.heap.objs.size+1) scope.names [])\/(X.env.cells.lookup x=some c/\∃ o,s.heap.get? c=some o):=fun {x c} h=>by
  unfold IV at h
  rw [eO,rG] at h
  cases e:(cellsFrom (s.heap.objs.size+1) scope.names []).lookup x with
  | some d=>
   rw [e] at h
   cases h
   have m:=Yx e
   exact .inl ⟨(hc.empty _ _ m).1,(hc.empty _ _ m).2,m⟩
  | none=>
   rw [e] at h
   have z:=Gg h
   obtain ⟨v,o,ho,_⟩:=I.cell x c z
   exact .inr ⟨z,o,ho⟩
 have fre:∀ {x c},(x,NameKind.free)∈scope.names->scope.names.lookup x=some .free->X.env.cells.lookup x=some c->(IV X scope s.heap.objs.size).lookup x=some c:=fun {x c} h1 h2 h3=>by
  unfold IV
  rw [eO,rG]
  cases e:(cellsFrom (s.heap.objs.size+1) scope.names []).lookup x with
  | some d=>
   rcases vG (Yx e) with z | z
   ·cases z
   ·have:=S.cel _ z rfl
    rw [h2] at this;cases this
  | none=>exact zK h3 h1
 refine ⟨⟨I.ok.mod,S.kind,I.ok.glob,I.ok.blt,Xp _,fun x y c h1 h2=>?_,fun x hx=>?_,fun x c hx h=>?_,I.ok.hd,I.ok.frames,.inl rfl,fun b hb=>?_,I.bs,Xv I.ok.bsz I.sz,fun b o e hb=>?_,fun b hb=>?_,I.stack,I.stkFree⟩,
  rfl,I.bare,Un.kept hk,⟨_,hns,fun i x v h1 h2 h3=>?_⟩,fun x c h=>?_,I.hok.fresh (Xp _),fun x c h=>?_,fun p hp=>(nomatch hp),I.hok.kept hk,?_⟩
 ·rcases spl h1 with ⟨_,l1,m1⟩ | ⟨z1,o1,q1⟩ <;> rcases spl h2 with ⟨_,l2,m2⟩ | ⟨z2,o2,q2⟩
  ·exact PySem.name_of_addr hc.apart m1 m2
  ·exact absurd (XN (Xr q2) (ZC l1)) (YZ _)
  ·exact absurd (XN (Xr q1) (ZC l2)) (YZ _)
  ·exact I.ok.inj x y c z1 z2
 ·rcases yx hx with z | z
  ·obtain ⟨c,m⟩:=rJ (n:=s.heap.objs.size+1) (acc:=uO X.env scope.names []) (.inl z)
   exact rH m
  ·obtain ⟨c,e⟩:=I.ok.has x (by have:=S.free _ z rfl;rw [← hsc] at this;exact this)
   show ∃ c,(IV X scope s.heap.objs.size).lookup x=some c
   unfold IV
   rw [eO]
   exact rH (c:=c) (YC _ (vD e z))
 ·have hx':scope.names.lookup x=some .cell:=by simpa [rD] using hx
  rcases spl h with ⟨_,l,_⟩ | ⟨z,o,q⟩
  ·exact ZC l
  ·exfalso
   have m:(x,NameKind.cell)∈scope.names:=Yx hx'
   obtain ⟨d,md⟩:=rJ (n:=s.heap.objs.size+1) (acc:=[]) (.inl m)
   obtain ⟨d',e'⟩:=rH md
   have h:(IV X scope s.heap.objs.size).lookup x=some c:=h
   unfold IV at h
   rw [eO,rG,e'] at h
   cases h
   exact absurd (XN (Xr q) (ZC (hc.empty _ _ (Yx e')).2)) (YZ _)
 ·obtain ⟨⟨f0,f1,f2,f3,f4,f5⟩,hlt⟩:=hex b hb
  refine ⟨Yh hlt,fun x c h=>?_⟩
  rcases spl h with ⟨_,l,_⟩ | ⟨z,_⟩
  ·exact fun z=>absurd (XN hlt (ZC (z ▸ l))) (YZ _)
  ·exact f4 x c z
 ·obtain ⟨⟨f0,f1,f2,f3,f4,f5⟩,hlt⟩:=hex b hb
  rcases f3 with z | z
  ·exact I.ok.noex b o e z
  ·exact absurd (XN (Xr (I.ok.bs b o e).1) z) (YZ _)
 ·obtain ⟨⟨f0,f1,f2,f3,f4,f5⟩,hlt⟩:=hex b hb
  intro z
  rcases XD.mp (I.stkSub b z) with z | z
  ·exact f1 z
  ·exact f2 z
 ·have hs:∃ j,sub[i]?=some (some j)/\U[j]?=some (some v):=by
   unfold eY at h2
   rw [Xw] at h2
   cases e:sub[i]? with
   | none=>rw [e] at h2;cases h2
   | some o=>
    rw [e] at h2
    cases o with
    | none=>cases h2
    | some j=>
     refine ⟨j,rfl,?_⟩
     have h3:(U[j]?).join=some v:=XS h2
     cases e2:U[j]? with
     | none=>rw [e2] at h3;cases h3
     | some z=>rw [e2] at h3;cases z with
      | none=>cases h3
      | some z=>cases h3;rfl
  obtain ⟨j,e1,e2⟩:=hs
  obtain ⟨g1,g2,g3⟩:=S.at_ i j x e1 h1
  rw [← hN] at g1
  obtain ⟨m,hn,hl⟩:=I.loc
  have hkf:X.env.kindOf x=some .cell\/X.env.kindOf x=some .free:=by have:=S.free _ g2 rfl;rw [← hsc] at this;exact this
  have hvis:Vc X.env.scope x:=by
   rcases hkf with z | z
   ·exact .inr (.inl z)
   ·exact .inr (.inr z)
  obtain ⟨u,r,l⟩:=hl j x v g1 e2 hvis
  refine ⟨u,r,.inr ⟨rK g3,?_⟩⟩
  rcases l with ⟨k,_⟩ | ⟨_,c,e,o,ho,hd⟩
  ·have k':X.env.kindOf x=some .local:=k
   rcases hkf with z | z <;> (rw [k'] at z;cases z)
  ·exact ⟨c,fre g2 g3 e,o,hk _ _ ho,hd⟩
 ·rcases spl h with ⟨z,_⟩ | ⟨z,_⟩
  ·exact ⟨_,z⟩
  ·obtain ⟨v,o,ho,hd⟩:=I.cell x c z
   exact ⟨v,o,hk _ _ ho,hd⟩
 ·rcases spl h with ⟨_,l,_⟩ | ⟨z,_⟩
  ·exact I.hok.fresh (ZC l)
  ·exact I.freeC x c z
 ·show (eY sub U).length=N'.length
  unfold eY
  rw [Xu]
  exact S.len
theorem zL {N:List Str} {sc:Scope} {use:Option (Value->Sem Unit)} {R:Value->Shared->Prop} {p0:Pos} (S:ux N sc N' scope sub) (hc:X.calm=true) (hN:X.N=N) (hsc:X.env.scope=sc) (hi:PI X tg iter wi)
  (hg:∀ (C:Addr) (s₀:Shared) (H₀:Hp) (ex:List Addr),PG (rD X N' scope C s₀ H₀ ex) tg g)
  (ht:∀ (C:Addr) (s₀:Shared) (H₀:Hp) (ex:List Addr),BW (rD X N' scope C s₀ H₀ ex) ifs tt)
  (he:∀ (C:Addr) (s₀:Shared) (H₀:Hp) (ex:List Addr),PE (rD X N' scope C s₀ H₀ ex) elt te)
  (hs:∀ x,foldedSetIterable iter X.env x=pure x) (pins:List (Addr×Obj)) (s:Shared) (U:St) (H:Hp) (Q:VK) (I:Inv X pins U H s) (h:vH sub wi g tt te U H Q)
  (hend:∀ (D C:Addr) (s5:Shared) (H5:Hp) (m:Str->Option Value),Inv X pins U H5 s5->n6 X pins H5 C->s5.heap.Ns C m->Q (.ref D) H5->compPost (model X.prog X.w) X.A X.xe use R (.ref D) C (.ok .next) s5):
  wpAny (model X.prog X.w) X.A (comprehension (.ListComp elt [⟨tg,iter,ifs,0⟩] scope pos) scope X.env p0 (newList []) false (eval iter X.env) use) R X.xe s:=by
 have hcl:∀ x∈scope.names,x.2=NameKind.free->∃ c,X.env.cells.lookup x.1=some c:=fun x hx hk=>I.ok.has x.1 (by have:=S.free x hx hk;rw [← hsc] at this;exact this)
 refine wpAny_comprehension_free (use:=use) rfl hs (wY hcl) S.kind S.loc ?_
 refine eQ (hi pins s U H _ I h) fun v s1 h1=>eQ h1 fun itv s2 h2=>?_
 obtain ⟨it,fp,tn,J,H2,e,I2,T,st2,f2,W,⟨m0,w0⟩,turn⟩:=h2
 subst e
 refine Y8 (mD fun h₁ hns₁ hk31 hcl₁=>?_)
 dsimp only at hns₁ hk31 hcl₁ ⊢
 generalize hs3:({s2 with heap:=s2.heap.push {cls:=.type "list",dict:=none,data:=.seq ([]:List Value).toArray}}:Shared)=s3
 have e3:s2.heap.push {cls:=.type "list",dict:=none,data:=.seq ([]:List Value).toArray}=s3.heap:=by rw [← hs3]
 rw [e3] at hns₁ hk31 hcl₁ ⊢
 have hD3:s3.heap.get? s2.heap.objs.size=some {cls:=.type "list",dict:=none,data:=.seq ([]:List Value).toArray}:=by rw [← e3];exact Xy _ rfl
 have I3:Inv X pins U H2 s3:=by
  rw [← hs3]
  exact I2.kept (t':=s2.toks) fun b o e=>Xm _ e
 have k23:∀ b o,s2.heap.get? b=some o->s3.heap.get? b=some o:=fun b o e=>by rw [← e3];exact Xm _ e
 have hsz:s3.heap.objs.size=s2.heap.objs.size+1:=by rw [← e3,YT]
 have hDn:H2 s2.heap.objs.size=none:=I2.hok.fresh (Xp _)
 have fD:n6 X pins H2 s2.heap.objs.size:=I2.fpOk (Xp _) hDn
 have hfo:∀ b∈fp,b < s2.heap.objs.size:=fun b hb=>let ⟨o,e,_⟩:=T.obj _ _ st2 b hb;Xr e
 have hDfp:s2.heap.objs.size ∉ fp:=fun z=>absurd (hfo _ z) (YZ _)
 have I4:=Gi (tk:=s3.toks+([]:List (Str×Value)).length) S hN hsc I3 f2 (fun b hb=>by rw [hsz];exact Nat.lt_succ_of_lt (hfo b hb)) (D:=s2.heap.objs.size) (by rw [hsz];exact Z8 _) fD hns₁ hk31 hcl₁
 have stat:∀ {H':Hp} {ob:Obj},(∀ b∈fp,H' b=none)->∀ b∈fp,n6 (rD X N' scope s3.heap.objs.size s3 H2 (s2.heap.objs.size :: fp)) [(s2.heap.objs.size,ob)] H' b:=fun {H' ob} hn b hb=>by
  obtain ⟨q1,q2⟩:=I4.ok.exf b (XR _ hb)
  refine ⟨hn b hb,q1,I4.ok.exfs b (XR _ hb),.inl (XR _ hb),q2,fun p hp z=>?_⟩
  have hp':p=(s2.heap.objs.size,ob):=by simpa [rD] using hp
  subst hp'
  have z':s2.heap.objs.size=b:=z
  exact hDfp (by rw [z'];exact hb)
 generalize hXC:rD X N' scope s3.heap.objs.size s3 H2 (s2.heap.objs.size :: fp)=XC at I4 stat
 have eP:XC.prog=X.prog:=by rw [← hXC];rfl
 have eW:XC.w=X.w:=by rw [← hXC];rfl
 have eK:XC.K=X.K:=by rw [← hXC];rfl
 have eA:XC.A=X.A:=by rw [← hXC];rfl
 have eE:XC.env=compEnvC scope (IV X scope s3.heap.objs.size) s3.heap.objs.size X.env:=by rw [← hXC];rfl
 have eC:XC.calm=true:=by rw [← hXC];exact hc
 have eX:XC.xe=fun _ _=>False:=by rw [← hXC];rfl
 have eH:XC.H₀=H2:=by rw [← hXC];rfl
 have eS:XC.s₀=s3:=by rw [← hXC];rfl
 have eF:XC.fs=frs X.stack:=by rw [← hXC];rfl
 have eEx:XC.ex=s2.heap.objs.size :: fp:=by rw [← hXC];rfl
 have ePn:XC.pn=[]:=by rw [← hXC];rfl
 have hgC:PG XC tg g:=by rw [← hXC];exact hg _ _ _ _
 have htC:BW XC ifs tt:=by rw [← hXC];exact ht _ _ _ _
 have heC:PE XC elt te:=by rw [← hXC];exact he _ _ _ _
 have pinD:∀ {U':St} {H':Hp} {s':Shared} {ob:Obj},Inv XC [] U' H' s'->H' s2.heap.objs.size=none->s'.heap.get? s2.heap.objs.size=some ob->(∀ v,ob.data≠.cell v)->Inv XC [(s2.heap.objs.size,ob)] U' H' s':=fun {U' H' s' ob} J hn hg hd=>
  J.pins_of fun p hp=>by
   have hp':p=(s2.heap.objs.size,ob):=by simpa using hp
   subst hp'
   refine ⟨hg,hn,(J.ok.exf _ (by rw [eEx];exact Yt)).1,J.ok.exfs _ (by rw [eEx];exact Yt),hd⟩
 have loop:codeAny (model X.prog X.w) X.A (.compLoop (.ListComp elt [⟨tg,iter,ifs,0⟩] scope pos) 0 (.ref it) (.ref s2.heap.objs.size) (compEnvC scope (IV X scope s3.heap.objs.size) s3.heap.objs.size X.env))
   (compPost (model X.prog X.w) X.A X.xe use R (.ref s2.heap.objs.size) s3.heap.objs.size) {s3 with heap:=h₁,toks:=s3.toks+([]:List (Str×Value)).length}:=by
  refine Gh (fun n s'=>∃ (i:Nat) (ys:List V) (its:List Value) (nn:Nat) (H':Hp),Inv XC [] (eY sub U) H' s'/\tn i s'.heap/\(∀ b∈fp,H' b=none)/\H' s2.heap.objs.size=none/\
   s'.heap.get? s2.heap.objs.size=some {cls:=.type "list",data:=.seq its.toArray nn}/\Vals ys its/\W i n ys H') ?_ m0
   ⟨0,[],[],_,H2,I4,T.keep _ _ _ st2 fun b _ o e=>hk31 b o (k23 b o e),fun b hb=>(f2 b hb).1,hDn,hk31 _ _ hD3,.nil,w0⟩
  rintro n s4 ⟨i,ys,its,nn,H4,J4,st4,fr4,dn4,dg4,rv4,w4⟩
  have P4:=pinD J4 dn4 dg4 (fun v z=>by cases z)
  rcases turn i n ys H4 w4 with ⟨stop,hyl,qn⟩ | ⟨go,hyl,N,hN,step⟩
  ·have hdone:=T.done XC eP eW eK eC i _ s4 _ H4 (fun _ _=>False) P4 (stat fr4) st4 stop
   rw [eA] at hdone
   refine YS hdone (fun r s5 ⟨hr,I5⟩=>?_) fun _ _ z=>z
   subst hr
   obtain ⟨m,hn,_⟩:=id I5.loc
   have hCe:XC.env.locals=s3.heap.objs.size:=by rw [eE];rfl
   rw [hCe] at hn
   have hDg:=(I5.pin (s2.heap.objs.size,_) (by rw [ePn];exact Yt)).1
   have hDne:s2.heap.objs.size≠s3.heap.objs.size:=by rw [hsz];exact Yh (Z8 _)
   have hHC:H4 s3.heap.objs.size=none:=by have:=I5.free;rw [hCe] at this;exact this
   have k56:∀ b o,b≠s3.heap.objs.size->s5.heap.get? b=some o->s5.heap.get? b=some o:=fun b o hb e=>e
   have un:=I5.base
   rw [eF,eEx,eH,eS] at un
   have nC:∀ b o,s3.heap.get? b=some o->b≠s3.heap.objs.size:=fun b o e=>Yh (Xr e)
   have hok6:HOk X.prog X.w (upd H4 s2.heap.objs.size (.lst ys)) s5.heap:=by
    have h5:=I5.hok
    rw [eP,eW] at h5
    have Q4:∀ b u,H4 b=some u->b≠s3.heap.objs.size:=fun b u e z=>by rw [z,hHC] at e;cases e
    intro b u e
    by_cases hb:b=s2.heap.objs.size
    ·subst hb
     rw [aj] at e;cases e
     exact ⟨hyl,its,nn,rv4,k56 _ _ hDne hDg⟩
    ·rw [aC hb] at e
     have nD:∀ c u,H4 c=some u->c≠s2.heap.objs.size:=fun c u e z=>by rw [z,dn4] at e;cases e
     refine (h5 b u e).stay (fun c v hc' q=>k56 c v ?_ q) (fun c q=>by rw [aC (nD c _ q)];exact q) fun c xs q=>by rw [aC (nD c _ q)];exact q
     rcases hc' with z | z
     ·rw [z];exact Q4 b u e
     ·exact Q4 c _ z
   have nD2:∀ c u,H4 c=some u->c≠s2.heap.objs.size:=fun c u e z=>by rw [z,dn4] at e;cases e
   have un6:Un (frs X.stack) (s2.heap.objs.size :: fp) H2 (upd H4 s2.heap.objs.size (.lst ys)) s3.heap s5.heap:=
    ⟨fun b o e nn' hb hx=>k56 b o (nC b o e) (un.keep b o e nn' hb hx),fun b o e nn' hb hx=>let ⟨sl,q⟩:=un.slot b o e nn' hb hx;⟨sl,k56 b _ (nC b o e) q⟩,
     fun b o e nn' hx=>by rw [aC (fun z=>hx (by rw [z];exact Yt))];exact un.free b o e nn' hx,
     fun b o e hx=>let ⟨o',q⟩:=un.there b o e hx;⟨o',k56 b o' (nC b o e) q⟩,
     fun b xs e=>by have q:=un.tups b xs e;rw [aC (nD2 b _ q)];exact q,
     fun b o u e=>by have q:=un.frzs b o u e;rw [aC (nD2 b _ q)];exact q,
     fun b ps e=>let ⟨more,q⟩:=un.tbls b ps e;⟨more,by rw [aC (nD2 b _ q)];exact q⟩⟩
   have I6:Inv X pins U (upd H4 s2.heap.objs.size (.lst ys)) s5:=by
    refine I3.call' (s':=s5) (ch:=s2.heap.objs.size :: fp) ?_ un6 hok6 I5.bare fun b hb=>?_
    ·show s5.os=s3.os
     have:=I5.os
     rw [eS] at this
     exact this
    ·have q:n6 X pins H2 b:=by
      rcases XD.mp hb with rfl | z
      ·exact fD
      ·exact f2 b z
     obtain ⟨f0,f1,f2',f3,f4,f5⟩:=q
     exact ⟨f3,f1,f4,f5⟩
   have dC:upd H4 s2.heap.objs.size (.lst ys) s3.heap.objs.size=none:=by rw [aC (Ne.symm hDne)];exact hHC
   exact hend _ _ s5 _ m I6 (I3.fpOk (Xp _) dC) hn (qn _ dn4)
  ·have hitem:=T.item XC eP eW eK eC i _ s4 _ H4 (fun _ _=>False) P4 (stat fr4) st4 go
   rw [eA] at hitem
   refine YS hitem (fun r s5 ⟨u,hr,h5⟩=>?_) fun _ _ z=>z
   subst hr
   dsimp only
   refine YS h5 (fun _ s6 ⟨x,H6,I6,r6,y6,st6,fr6⟩=>?_) fun _ _ z=>z
   have P6:=I6.pinned (stat fr6) (T.obj _ _ st6)
   rw [← eE,← eP,← eW,← eA]
   refine YS (hgC _ s6 _ H6 x u _ P6 r6 (step x H6 y6)) (fun _ s7 ⟨σ7,H7,I7,kp7,q7⟩=>?_) fun _ _ z=>by rw [eX] at z;exact z
   refine YS (htC _ s7 σ7 H7 _ I7 q7) (fun ok s8 ⟨H8,I8,q8⟩=>?_) fun _ _ z=>by rw [eX] at z;exact z
   have fin:∀ {H9:Hp} {s9:Shared},Inv XC ([(s2.heap.objs.size,({cls:=.type "list",data:=.seq its.toArray nn}:Obj))] ++ vm fp s6.heap) σ7 H9 s9->Inv XC [] (eY sub U) H9 s9/\tn (i+1) s9.heap/\(∀ b∈fp,H9 b=none)/\H9 s2.heap.objs.size=none/\
     s9.heap.get? s2.heap.objs.size=some {cls:=.type "list",data:=.seq its.toArray nn}:=fun {H9 s9} J=>by
    have pD:=J.pin (s2.heap.objs.size,({cls:=.type "list",data:=.seq its.toArray nn}:Obj)) (by rw [ePn];simp)
    have pF:∀ b∈fp,∀ o,s6.heap.get? b=some o->s9.heap.get? b=some o/\H9 b=none:=fun b hb o e=>by
     have q:=J.pin (b,o) (by rw [ePn];exact YC _ (YC _ (qj hb e)))
     exact ⟨q.1,q.2.1⟩
    refine ⟨?_,T.keep _ _ _ st6 fun b hb o e=>(pF b hb o e).1,fun b hb=>?_,pD.2.1,pD.1⟩
    ·have J0:Inv XC [] σ7 H9 s9:=J.pins_of fun p hp=>nomatch hp
     exact J0.weak kp7.1.symm fun j v e=>kp7.2 j v e
    ·obtain ⟨o,e,_⟩:=T.obj _ _ st6 b hb
     exact (pF b hb o e).2
   cases ok with
   | false=>
    rw [if_neg (by simp)]
    rw [if_neg (by simp)] at q8
    obtain ⟨m',hm,w8⟩:=hN _ _ q8
    obtain ⟨a1,a2,a3,a4,a5⟩:=fin I8
    exact ⟨m',hm,i+1,ys,its,nn,H8,a1,a2,a3,a4,a5,rv4,w8⟩
   | true=>
    rw [if_pos rfl]
    rw [if_pos rfl] at q8
    refine YS (heC _ s8 σ7 H8 _ I8 q8) (fun xv s9 ⟨y,H9,I9,r9,n9⟩=>?_) fun _ _ z=>by rw [eX] at z;exact z
    obtain ⟨m',hm,w9⟩:=hN _ _ n9
    obtain ⟨a1,a2,a3,a4,a5⟩:=fin I9
    refine wpAny_list_append_plain (items:=its.toArray) ⟨nn,a5⟩ (fun h' ⟨n',hp'⟩ sb=>?_) (by simp;rw [← rv4.length];omega)
    obtain ⟨q1,q2⟩:=I4.ok.exf s2.heap.objs.size (by rw [eEx];exact Yt)
    have a1':Inv XC [] (eY sub U) H9 {s9 with heap:=h'}:=a1.turned (t':=s9.toks) (fun b o hb e=>(sb.2 b hb).trans e) a4 q1 (.inl (by rw [eEx];exact Yt)) q2 (fun p hp=>by rw [ePn] at hp;exact nomatch hp)
    refine ⟨m',hm,i+1,ys ++ [y],its ++ [xv],n',H9,a1',T.keep _ _ _ a2 fun b hb o e=>(sb.2 b (fun z=>hDfp (by rw [← z];exact hb))).trans e,a3,a4,?_,rv4.append (.cons r9 .nil),w9⟩
    rw [hp']
    simp
 subst hs3
 exact codeAny_compStart_list loop (T.self _ 0 _ _ _ (T.keep _ _ _ st2 fun b _ o e=>hk31 b o (k23 b o e)) loop)
theorem DQ {N:List Str} {sc:Scope} (S:ux N sc N' scope sub) (hc:X.calm=true) (hN:X.N=N) (hsc:X.env.scope=sc) (hi:PI X tg iter wi)
  (hg:∀ (C:Addr) (s₀:Shared) (H₀:Hp) (ex:List Addr),PG (rD X N' scope C s₀ H₀ ex) tg g)
  (ht:∀ (C:Addr) (s₀:Shared) (H₀:Hp) (ex:List Addr),BW (rD X N' scope C s₀ H₀ ex) ifs tt)
  (he:∀ (C:Addr) (s₀:Shared) (H₀:Hp) (ex:List Addr),PE (rD X N' scope C s₀ H₀ ex) elt te)
  (hs:autoParam (∀ x,foldedSetIterable iter X.env x=pure x) L2.auto3._auto_1):
  PE X (.ListComp elt [⟨tg,iter,ifs,0⟩] scope pos) (vH sub wi g tt te):=by
 intro pins s U H Q I h
 rw [eval_ListComp]
 refine zL (use:=none) S hc hN hsc hi hg ht he hs pins s U H Q I h fun D C s5 H5 m I5 fC hn q=>?_
 obtain ⟨f0,f1,f2,f3,f4,f5⟩:=fC
 exact ⟨m,hn,fun h' hs'=>⟨.ref D,H5,I5.turned (t':=s5.toks) (fun b o hb e=>hs'.extBut b o hb e) f0 f1 f3 f4 f5,rfl,q⟩⟩
end
abbrev rM (sub:List (Option Nat)) (g:TG) (tt:TT) (te:TE) (U:St) (Q:VK) (J:It) (H1:Hp):Prop:=∃ W:Nat->Nat->List V->Hp->Prop,(∃ m,W 0 m [] H1)/\∀ i m ys H,W i m ys H->
 (J.stop i H/\ys.length<=sizeLine/\∀ D,H D=none->Q (.ref D) (upd H D (.lst ys)))\/
 (J.go i H/\ys.length < sizeLine/\∃ N:List V->Hp->Prop,(∀ ys' H',N ys' H'->∃ m',m' < m/\W (i+1) m' ys' H')/\
  ∀ x H',J.yld i H x H'->g x (eY sub U) H' fun σ2 H2=>KeepSt (eY sub U) σ2/\tt σ2 H2 fun b H3=>if b=true then te σ2 H3 fun y H4=>N (ys ++ [y]) H4 else N ys H3)
theorem uZ {sub:List (Option Nat)} {g:TG} {tt:TT} {te:TE} {U:St} {Q:VK} {J:It} {H:Hp} {n:Nat} (Pv:Nat->List V->Hp->Prop) (hn:n<=sizeLine) (h0:Pv 0 [] H) (hl:∀ i ys H,Pv i ys H->ys.length<=i)
  (hgo:∀ i ys H,i < n->Pv i ys H->J.go i H) (hstop:∀ ys H,Pv n ys H->J.stop n H)
  (hs:∀ i ys H x H',i < n->Pv i ys H->J.yld i H x H'->g x (eY sub U) H' fun σ2 H2=>KeepSt (eY sub U) σ2/\tt σ2 H2 fun b H3=>if b=true then te σ2 H3 fun y H4=>Pv (i+1) (ys ++ [y]) H4 else Pv (i+1) ys H3)
  (hd:∀ ys H,Pv n ys H->∀ D,H D=none->Q (.ref D) (upd H D (.lst ys))):rM sub g tt te U Q J H:=by
 refine ⟨fun i m ys H=>m=n - i/\i<=n/\Pv i ys H,⟨n,by simp,YK _,h0⟩,?_⟩
 rintro i m ys H ⟨rfl,hi,p⟩
 have hl':=hl i ys H p
 by_cases hlt:i < n
 ·exact .inr ⟨hgo i ys H hlt p,by omega,fun ys' H'=>Pv (i+1) ys' H',fun ys' H' p'=>⟨n - (i+1),by omega,rfl,hlt,p'⟩,fun x H' y=>hs i ys H x H' hlt p y⟩
 ·have e:i=n:=by omega
  subst e
  exact .inl ⟨hstop ys H p,by omega,hd ys H p⟩
section
variable {κ:Type} [DecidableEq κ]
def jU (kvs:List (κ×V)) (k:κ):Option V:=(kvs.find? fun kv=>decide (kv.1=k)).map (·.2)
def putK (kvs:List (κ×V)) (k:κ) (v:V):List (κ×V):=
 if (kvs.any fun kv=>decide (kv.1=k))=true then kvs.map (fun kv=>if kv.1=k then (kv.1,v) else kv) else kvs ++ [(k,v)]
theorem zM {k:κ}:jU ([]:List (κ×V)) k=none:=rfl
theorem fV {p:κ×V} {r:List (κ×V)} {k:κ} (e:p.1=k):jU (p :: r) k=some p.2:=by simp [jU,ZV,e]
theorem fW {p:κ×V} {r:List (κ×V)} {k:κ} (e:¬ p.1=k):jU (p :: r) k=jU r k:=by simp [jU,ZV,e]
theorem rN (k:κ):∀ kvs:List (κ×V),(kvs.any fun kv=>decide (kv.1=k))=(jU kvs k).isSome
 | []=>rfl
 | p :: r=>by
  rw [List.any_cons]
  by_cases e:p.1=k
  ·simp only [fV e,Xq e,Bool.true_or,Option.isSome_some]
  ·rw [fW e,XF e,Bool.false_or];exact rN k r
theorem zN (k j:κ) (y:V):∀ kvs:List (κ×V),jU (kvs.map fun kv=>if kv.1=k then (kv.1,y) else kv) j=(jU kvs j).map fun x=>if j=k then y else x
 | []=>rfl
 | p :: r=>by
  have ih:=zN k j y r
  rw [Yk]
  by_cases h:p.1=k
  ·rw [if_pos h]
   by_cases e:p.1=j
   ·rw [fV (p:=(p.1,y)) e,fV e,Option.map_some,if_pos (e.symm.trans h)]
   ·rw [fW (p:=(p.1,y)) e,fW e,ih]
  ·rw [if_neg h]
   by_cases e:p.1=j
   ·rw [fV (p:=p) e,fV e,Option.map_some,if_neg (fun z=>h (e.trans z))]
   ·rw [fW (p:=p) e,fW e,ih]
theorem xK (k j:κ) (y:V):∀ kvs:List (κ×V),jU kvs k=none->jU (kvs ++ [(k,y)]) j=if j=k then some y else jU kvs j
 | [],_=>by
  by_cases e:k=j
  ·rw [if_pos e.symm];exact fV (p:=(k,y)) e
  ·rw [if_neg (fun z=>e z.symm)];exact fW (p:=(k,y)) e
 | p :: r,hn=>by
  rw [List.cons_append]
  have hk:¬ p.1=k:=fun z=>by rw [fV z] at hn;cases hn
  rw [fW hk] at hn
  have ih:=xK k j y r hn
  by_cases e:p.1=j
  ·rw [fV e,fV e,if_neg (fun z=>hk (e.trans z))]
  ·rw [fW e,fW e,ih]
theorem zO (kvs:List (κ×V)) (k j:κ) (y:V):jU (putK kvs k y) j=if j=k then some y else jU kvs j:=by
 unfold putK
 by_cases a:(kvs.any fun kv=>decide (kv.1=k))=true
 ·rw [if_pos a,zN]
  rw [rN] at a
  by_cases e:j=k
  ·obtain ⟨x,hx⟩:=Option.isSome_iff_exists.mp a
   rw [if_pos e,e,hx,Option.map_some,if_pos rfl]
  ·rw [if_neg e]
   cases jU kvs j with
   | none=>rfl
   | some x=>rw [Option.map_some,if_neg e]
 ·rw [if_neg a]
  refine xK k j y kvs ?_
  rw [rN] at a
  cases q:jU kvs k with
  | none=>rfl
  | some x=>rw [q] at a;exact (a rfl).elim
theorem kZ (kvs:List (κ×V)) (k:κ) (v:V):(putK kvs k v).length<=kvs.length+1:=by
 unfold putK
 split
 ·rw [Xu];omega
 ·rw [Yc,Yu,Zb];omega
theorem RelO.isSome_eq {o:Option V} {u:Option Value} (r:RelO o u):o.isSome=u.isSome:=by
 cases o with
 | none=>cases u with
  | none=>rfl
  | some _=>exact (show False from r).elim
 | some _=>cases u with
  | none=>exact (show False from r).elim
  | some _=>rfl
theorem KV.val {kvs:List (κ×V)} {vs:List (κ×Value)} (r:KV kvs vs) (k:κ):RelO (jU kvs k) (valueAt vs k):=by
 unfold KV at r
 induction r with
 | nil=>exact True.intro
 | @cons p q ps qs h t ih=>
  obtain ⟨h1,h2⟩:=h
  by_cases e:p.1=k
  ·have e':q.1=k:=h1.symm.trans e
   have b:valueAt (q :: qs) k=some q.2:=by simp [valueAt,ZV,e']
   rw [fV e,b];exact h2
  ·have e':¬ q.1=k:=fun z=>e (h1.trans z)
   have b:valueAt (q :: qs) k=valueAt qs k:=by simp [valueAt,ZV,e']
   rw [fW e,b];exact ih
theorem KV.any {kvs:List (κ×V)} {vs:List (κ×Value)} (r:KV kvs vs) (k:κ):(kvs.any fun kv=>decide (kv.1=k))=vs.any fun kv=>decide (kv.1=k):=by
 unfold KV at r
 induction r with
 | nil=>rfl
 | cons h t ih=>rw [List.any_cons,List.any_cons,ih,h.1]
theorem KV.repl {kvs:List (κ×V)} {vs:List (κ×Value)} (r:KV kvs vs) (k:κ) {y:V} {u:Value} (ry:RelV y u):
  KV (kvs.map fun kv=>if kv.1=k then (kv.1,y) else kv) (vs.map fun kv=>if kv.1=k then (kv.1,u) else kv):=by
 unfold KV at r ⊢
 induction r with
 | nil=>exact .nil
 | @cons p q ps qs h t ih=>
  rw [Yk,Yk]
  refine .cons ?_ ih
  obtain ⟨h1,h2⟩:=h
  by_cases e:p.1=k
  ·rw [if_pos e,if_pos (h1.symm.trans e)];exact ⟨h1,ry⟩
  ·rw [if_neg e,if_neg (fun z=>e (h1.trans z))];exact ⟨h1,h2⟩
theorem KV.put {kvs:List (κ×V)} {vs:List (κ×Value)} (r:KV kvs vs) (k:κ) {y:V} {u:Value} (ry:RelV y u):KV (putK kvs k y) (stored vs k u):=by
 unfold putK stored
 rw [r.any k]
 by_cases e:(vs.any fun kv=>decide (kv.1=k))=true
 ·rw [if_pos e,if_pos e];exact r.repl k ry
 ·rw [if_neg e,if_neg e];exact Paired.snoc r ⟨rfl,ry⟩
theorem KV.length {kvs:List (κ×V)} {vs:List (κ×Value)} (r:KV kvs vs):kvs.length=vs.length:=Paired.length r
end
theorem Jc {P:Program} {w:World} {k:Key} {u:Value} (r:RelV (kV k) u):(cX P w).is k u=true:=by
 cases k with
 | inl i=>obtain ⟨t,e⟩:=(show ∃ t,u=Value.int i t from r);subst e;exact zA P w i t
 | inr x=>obtain ⟨t,e⟩:=(show ∃ t,u=Value.str x t from r);subst e;exact zB P w x t
theorem xM {P:Program} {w:World}:∀ {ks:List Key} {us:List Value},Vals (ks.map kV) us->ItemsAre (cX P w) ks us
 | [],_,r=>by rw [List.map_nil] at r;cases r;exact .nil
 | k :: ks,_,r=>by
  rw [Yk] at r
  cases r with
  | cons h t=>exact .cons (Jc h) (xM t)
abbrev KT (H:Hp):List (List Key×V)->List (List Key×Addr×Value)->Prop:=Paired fun p q=>p.1=q.1/\H q.2.1=some (.tup (p.1.map kV))/\RelV p.2 q.2.2
theorem KT.val {H:Hp} {kvs:List (List Key×V)} {xs:List (List Key×Addr×Value)} (r:KT H kvs xs) (k:List Key):RelO (jU kvs k) ((atKey xs k).map (·.2)):=by
 induction r with
 | nil=>exact True.intro
 | @cons p q ps qs h t ih=>
  obtain ⟨h1,_,h2⟩:=h
  by_cases e:p.1=k
  ·have e':q.1=k:=h1.symm.trans e
   have b:atKey (q :: qs) k=some q.2:=by simp [atKey,ZV,e']
   rw [fV e,b];exact h2
  ·have e':¬ q.1=k:=fun z=>e (h1.trans z)
   have b:atKey (q :: qs) k=atKey qs k:=by simp [atKey,ZV,e']
   rw [fW e,b];exact ih
theorem KT.repl {H:Hp} {kvs:List (List Key×V)} {xs:List (List Key×Addr×Value)} (r:KT H kvs xs) (k:List Key) {y:V} {u:Value} (ry:RelV y u):
  KT H (kvs.map fun kv=>if kv.1=k then (kv.1,y) else kv) (xs.map (putAt k u)):=by
 induction r with
 | nil=>exact .nil
 | @cons p q ps qs h t ih=>
  rw [Yk,Yk]
  refine .cons ?_ ih
  obtain ⟨h1,h2,h3⟩:=h
  unfold putAt
  by_cases e:p.1=k
  ·rw [if_pos e,if_pos (h1.symm.trans e)];exact ⟨h1,h2,ry⟩
  ·rw [if_neg e,if_neg (fun z=>e (h1.trans z))];exact ⟨h1,h2,h3⟩
theorem KT.put {H:Hp} {kvs:List (List Key×V)} {xs:List (List Key×Addr×Value)} (r:KT H kvs xs) (k:List Key) {b:Addr} {y:V} {u:Value} (hb:H b=some (.tup (k.map kV))) (ry:RelV y u):
  KT H (putK kvs k y) (storedH xs k b u):=by
 have e:(kvs.any fun kv=>decide (kv.1=k))=(atKey xs k).isSome:=by
  rw [rN,(r.val k).isSome_eq,Option.isSome_map]
 unfold putK storedH
 rw [e]
 by_cases q:(atKey xs k).isSome=true
 ·rw [if_pos q,if_pos q];exact r.repl k ry
 ·rw [if_neg q,if_neg q];exact Paired.snoc r ⟨rfl,hb,ry⟩
theorem KT.keeps {H H':Hp} {kvs:List (List Key×V)} {xs:List (List Key×Addr×Value)} (r:KT H kvs xs) (ht:∀ b ys,H b=some (.tup ys)->H' b=some (.tup ys)):KT H' kvs xs:=
 Paired.mapP r fun _ _ z=>⟨z.1,ht _ _ z.2.1,z.2.2⟩
section
variable {P:Program} {w:World} {H:Hp} {h:Heap} {a:Addr}
theorem Qp {u:HO} (ok:HOk P w H h) (e:Rd H a u):ObjOk P w H h a u:=e.ok ok
theorem Qq {kvs:List (Key×V)} (ok:HOk P w H h) (e:Rd H a (.dK kvs)):kvs.length<=sizeLine/\(a == sysModules)=false/\∃ vs,KV kvs vs/\h.DictOf (cX P w) a vs:=
 show ObjOk P w H h a (.dK kvs) from Qp ok e
theorem Vz {kvs:List (Key×V)} (ok:HOk P w H h) (e:H a=some (.dK kvs)):kvs.length<=sizeLine/\(a == sysModules)=false/\∃ vs,KV kvs vs/\h.DictOf (cX P w) a vs:=Qq ok (.inl e)
theorem BX {ks:List Key} (ok:HOk P w H h) (e:H a=some (.tup (ks.map kV))):(tupleKind (cX P w)).is h ks a:=by
 obtain ⟨_,its,r,o,h1,h2,n,h3⟩:=(show ObjOk P w H h a (.tup (ks.map kV)) from ok a _ e)
 exact ⟨o,its.toArray,n,h1,h2,h3,by simpa using xM r⟩
theorem Qs {kvs:List (List Key×V)} (ok:HOk P w H h) (e:Rd H a (.dT kvs)):kvs.length<=sizeLine/\(a == sysModules)=false/\
  ∃ xs,KT H kvs xs/\h.DictOfH (tupleKind (cX P w)) a xs:=by
 obtain ⟨z,y,xs,r,o,es,ep,h1,h2,h3,h4,h5⟩:=(show ObjOk P w H h a (.dT kvs) from Qp ok e)
 refine ⟨z,y,xs,r,o,es,ep,h1,h2,h3,h4,fun x hx=>?_,h5⟩
 have all:∀ {l:List (List Key×V)} {m:List (List Key×Addr×Value)},KT H l m->∀ x∈m,(tupleKind (cX P w)).is h x.1 x.2.1:=by
  intro l m q
  induction q with
  | nil=>intro x hx;exact nomatch hx
  | @cons p q ps qs hq t ih=>
   intro x hx
   rcases XD.mp hx with e | hx
   ·subst e
    exact BX ok (by rw [← hq.1];exact hq.2.1)
   ·exact ih x hx
 exact all r x hx
theorem VB {kvs:List (List Key×V)} (ok:HOk P w H h) (e:H a=some (.dT kvs)):kvs.length<=sizeLine/\(a == sysModules)=false/\
  ∃ xs,KT H kvs xs/\h.DictOfH (tupleKind (cX P w)) a xs:=Qs ok (.inl e)
end
def DGet (H:Hp) (a:Addr) (y:V) (r:Option V):Prop:=
 (∃ kvs k,Rd H a (.dK kvs)/\y=kV k/\r=jU kvs k)\/∃ kvs k b,Rd H a (.dT kvs)/\y= .ref b/\H b=some (.tup (k.map kV))/\r=jU kvs k
def DPut (H:Hp) (a:Addr) (y v:V) (H':Hp):Prop:=
 (∃ kvs k,H a=some (.dK kvs)/\y=kV k/\kvs.length < sizeLine/\H'=upd H a (.dK (putK kvs k v)))\/
 ∃ kvs k b,H a=some (.dT kvs)/\y= .ref b/\H b=some (.tup (k.map kV))/\kvs.length < sizeLine/\H'=upd H a (.dT (putK kvs k v))
theorem DGet.k {H:Hp} {a:Addr} {kvs:List (Key×V)} {k:Key} (e:H a=some (.dK kvs)):DGet H a (kV k) (jU kvs k):=.inl ⟨kvs,k,.inl e,rfl,rfl⟩
theorem DPut.k {H:Hp} {a:Addr} {kvs:List (Key×V)} {k:Key} {v:V} (e:H a=some (.dK kvs)) (hl:kvs.length < sizeLine):DPut H a (kV k) v (upd H a (.dK (putK kvs k v))):=.inl ⟨kvs,k,e,rfl,hl,rfl⟩
section
variable {X:Cx} {pins:List (Addr×Obj)} {U:St} {H:Hp} {s:Shared} {a:Addr} {y v:V} {u r:Value} {o:Option V} {A:Around} {E:Value->Shared->Prop}
theorem Inv.big (I:Inv X pins U H s):sysModules < s.heap.objs.size:=by
 have h:mainGlobals < s.heap.objs.size:=(I.mod.glob.keeps I.bk).lt
 exact Nat.lt_trans (by decide) h
theorem d_in {Q:Value->Shared->Prop} (hu:A.units+1 < cLine) (I:Inv X pins U H s) (g:DGet H a y o) (ry:RelV y u) (h:∀ s',Inv X pins U H s'->Q (.bool o.isSome) s'):
  wpAny (model X.prog X.w) A (compareOp .In u (.ref a)) Q E s:=by
 rcases g with ⟨kvs,k,e,ey,l⟩ | ⟨kvs,k,b,e,ey,eb,l⟩
 ·subst ey
  obtain ⟨z,hd,vs,rel,dd⟩:=Qq I.hok e
  refine wpAny_in_of (Jc ry) hd dd.mapOf ?_
  rw [← (rel.val k).isSome_eq,← l]
  exact h _ (I.tok _)
 ·subst ey
  cases (show u=Value.ref b from ry)
  obtain ⟨z,hd,xs,rel,dd⟩:=Qs I.hok e
  refine wpAny_in_heap (tupleKind_room_in1 hu) (BX I.hok eb) hd dd ?_
  have q:=(rel.val k).isSome_eq
  rw [Option.isSome_map] at q
  rw [← q,← l]
  exact h _ (I.tok _)
theorem DW {h':Heap} {t':Nat} {ob:HO} (I:Inv X pins U H s) (mu:Vb (H a)) (hs:Heap.SameBut a s.heap h') (he:∃ q,h'.get? a=some q) (new:ObjOk X.prog X.w (upd H a ob) h' a ob):
  Inv X pins U (upd H a ob) {s with heap:=h',toks:=t'}:=
 I.write (x:=a) (e:=a) mu (.inl rfl) (fun b q hb z=>(hs.2 b hb).trans z) he new
theorem R6 {P:Program} {w:World} {H':Hp} {h':Heap} {kvs:List (Key×V)} {vs:List (Key×Value)} (z:kvs.length<=sizeLine) (hd:(a == sysModules)=false) (rel:KV kvs vs) (dd:h'.DictOf (cX P w) a vs):
  ObjOk P w H' h' a (.dK kvs):=⟨z,hd,vs,rel,dd⟩
theorem Gj {H':Hp} {Q:Unit->Shared->Prop} (hu:A.units+1 < cLine) (I:Inv X pins U H s) (g:DPut H a y v H') (ry:RelV y u) (rv:RelV v r) (h:∀ s',Inv X pins U H' s'->Q () s'):
  wpAny (model X.prog X.w) A (setItem (.ref a) u r) Q E s:=by
 rcases g with ⟨kvs,k,e,ey,l,eH⟩ | ⟨kvs,k,b,e,ey,eb,l,eH⟩
 ·subst ey eH
  obtain ⟨z,hd,vs,rel,dd⟩:=Vz I.hok e
  have hz:vs.length<=sizeLine:=by rw [← rel.length];exact z
  have hl:(putK kvs k v).length<=sizeLine:=by have:=kZ kvs k v;omega
  refine wpAny_setItem_pairs (hsz:=hz) (Jc ry) dd fun h' dd' hs=>h _ ?_
  have he:∃ q,h'.get? a=some q:=let ⟨q,_,_,hq,_⟩:=dd';⟨q,hq⟩
  exact DW I (by rw [e];exact True.intro) hs he (R6 hl hd (rel.put k rv) dd')
 ·subst ey eH
  cases (show u=Value.ref b from ry)
  obtain ⟨z,hd,xs,rel,dd⟩:=VB I.hok e
  have hz:xs.length<=sizeLine:=by rw [← Paired.length rel];exact z
  have hl:(putK kvs k v).length<=sizeLine:=by have:=kZ kvs k v;omega
  refine wpAny_setItem_heap (hsz:=hz) (tupleKind_room_in1 hu) (BX I.hok eb) dd fun h' dd' hs=>h _ ?_
  obtain ⟨q,es,ep,hq,h2,h3,h4,_,h5⟩:=dd'
  refine DW I (by rw [e];exact True.intro) hs ⟨q,hq⟩ ⟨hl,hd,_,(rel.put k eb rv).keeps fun c ys ec=>?_,q,es,ep,hq,h2,h3,h4,h5⟩
  rw [aC (Va ec e (fun z=>nomatch z))]
  exact ec
end
theorem Jd {P:Program} {w:World} {H:Hp} (h:Heap) (hb:sysModules < h.objs.size):ObjOk P w H (h.push {cls:=.type "dict",data:=.dict #[]}) h.objs.size (.dK []):=
 ⟨YK _,Zq.mpr (Ne.symm (Yh hb)),[],.nil,Heap.DictOf.new h⟩
def BZ:TE:=fun _ H Q=>∀ p,H p=none->Q (.ref p) (upd H p (.dK []))
section
variable {X:Cx} {pos:Pos}
theorem Je:PE X (.Dict [] [] pos) BZ:=fun pins s U H Q I h=>
 wpAny_Dict_empty ⟨.ref s.heap.objs.size,_,I.laid (a:=s.heap.objs.size) (o:=.dK []) (t':=s.toks) (fun _ _ q=>Xm _ q) (Xp _) (Jd s.heap I.big),rfl,h _ (I.hok.fresh (Xp _))⟩
end
def VD (x:Str):It:=⟨fun i _=>i < x.cps.size,fun i H v H'=>H'=H/\∃ c,x.cps[i]?=some c/\v= .str ⟨#[c]⟩,fun i _=>i=x.cps.size⟩
theorem zP {P:Program} {w:World} {K:W.Frag} {tg:Expr} (it:Addr) (x:Str) (t:Tok) (ty:String)
  (hty:["enumerate","zip","dict_itemiterator","dict_reverseitemiterator","odict_iterator","itertools.zip_longest","itertools.pairwise"].contains ty=false)
  (W:∀ A:Around,A.handled=none->Walks P w A it [it] [it] x.cps.size (SignAt x) fun i h=>h.IsStrIter it ty x t i)
  (hself:∀ (A:Around) (i:Nat) (s:Shared) (Q:Value->Shared->Prop) (E:Value->Shared->Prop),s.heap.IsStrIter it ty x t i->Q (.ref it) s->wpAny (model P w) A (pyIter (.ref it)) Q E s):Turn P w K tg (VD x) [it] it (fun i h=>h.IsStrIter it ty x t i) where
 mem:=by simp
 obj:=fun i h st b hb=>by
  have e:b=it:=by simpa using hb
  subst e
  obtain ⟨o,e,c,d⟩:=st
  exact ⟨o,e,fun v z=>by rw [d] at z;cases z⟩
 keep:=fun i h h' st k=>by
  obtain ⟨o,e,r⟩:=st
  exact ⟨o,k it (by simp) o e,r⟩
 item:=by
  intro X hP hw hK hc i pins s U H E I hf st hg
  subst hP hw hK
  obtain ⟨f0,f1,f2,f3,f4,f5⟩:=hf it (by simp)
  refine (W X.A (I.ok.hd hc)).item i s _ _ hg st fun v h' tk hv st' kk=>?_
  obtain ⟨c,u,e1,rfl⟩:=hv
  have I1:Inv X pins U H {s with heap:=h',toks:=tk}:=I.turned (fun b o hb e=>kk b o (by simpa using hb) e) f0 f1 f3 f4 f5
  obtain ⟨o,e,cl,d⟩:=id st'
  exact ⟨_,rfl,Ds (s:={s with heap:=h',toks:=tk}) e cl d hty ⟨.str ⟨#[c]⟩,H,I1,⟨u,rfl⟩,⟨rfl,c,e1,rfl⟩,st',fun b hb=>(hf b hb).1⟩⟩
 done:=by
  intro X hP hw hK hc i pins s U H E I hf st hg
  subst hP hw hK
  obtain ⟨f0,f1,f2,f3,f4,f5⟩:=hf it (by simp)
  have hg:i=x.cps.size:=hg
  subst hg
  exact (W X.A (I.ok.hd hc)).done s _ _ st fun h' tk kk=>⟨rfl,I.turned (fun b o hb e=>kk b o (by simpa using hb) e) f0 f1 f3 f4 f5⟩
 self:=hself
section
variable {X:Cx}
theorem all_range {bs:List Bool}:(List.range bs.length).all (fun i=>bs.getD i false)=bs.all id:=by
 rw [Bool.eq_iff_iff]
 simp only [Zi,XJ]
 constructor
 ·intro h b hb
  obtain ⟨i,hi,e⟩:=Z3.mp hb
  have:=h i hi
  rw [Xl,Xk hi] at this
  simp only [Option.getD_some] at this
  rw [← e];exact this
 ·intro h i hi
  rw [Xl,Xk hi]
  exact h _ (YH hi)
theorem uy:∀ {bs:List Bool} {us:List Value} {i:Nat} {v:Value},Vals (bs.map V.bl) us->us[i]?=some v->v= .bool (bs.getD i false)
 | [],_,i,v,.nil,e=>by simp at e
 | b :: bs,_,0,v,.cons r t,e=>by simp at e;subst e;exact r
 | b :: bs,_,i+1,v,.cons r t,e=>by
  simp at e
  have:=uy (bs:=bs) t e
  simpa using this
def rAll:List V->Hp->VK->Prop:=fun xs H Q=>∃ (p:Addr) (bs:List Bool),xs=[.ref p]/\H p=some (.lst (bs.map V.bl))/\Q (.bl (bs.all id)) H
theorem Jf (hc:X.calm=true):CallR X (.builtin "all") rAll:=by
 intro pins s U H xs us Q I r h
 obtain ⟨p,bs,rfl,hp,q⟩:=h
 obtain ⟨u,rfl,ru⟩:=vals1 r
 cases ru
 obtain ⟨hz,its,n,rv,e⟩:=I.hok p _ hp
 refine call_all_walk (wpAny_pyIter_list (items:=its.toArray) ⟨_,e,rfl,n,rfl⟩ ?_)
 refine ⟨s.heap.objs.size,_,_,_,_,_,fun i=>bs.getD i false,rfl,Walks.list (A:=X.A.in1) (I.ok.hd hc) s.heap.objs.size p (Yh (Xr e)) its.toArray,⟨⟨_,Xy _ rfl,rfl,rfl⟩,⟨_,Xm _ e,rfl,n,rfl⟩⟩,?_,fun h' tk hk=>?_⟩
 ·intro i v s' Q' E' hv hq
  have:=uy rv (by simpa using hv)
  subst this
  exact Y7 hq
 ·have hl:its.toArray.size=bs.length:=by have:=rv.length;simpa using this.symm
  rw [hl,all_range]
  refine ⟨.bl _,H,?_,rfl,q⟩
  exact I.kept fun b o e=>hk b o (by simp;exact Yh (Xr e)) (Xm _ e)
theorem vI:∀ {ys:List Str} {us:List Value},Vals (ys.map V.str) us->StrsAre us ys
 | [],_,.nil=>.nil
 | y :: ys,_,.cons r t=>by
  obtain ⟨k,e⟩:=(show ∃ t,_=Value.str y t from r)
  subst e
  exact .cons y k (vI t)
def rJoin:V->List V->Hp->VK->Prop:=fun x xs H Q=>∃ (sep:Str) (p:Addr) (ys:List Str),x= .str sep/\xs=[.ref p]/\H p=some (.lst (ys.map V.str))/\(ys.map (·.length)).sum+ys.length*sep.length<=16777216/\Q (.str (Txt.join sep ys)) H
theorem DX:Vo X "str.join" rJoin:=by
 intro pins s U H x xs v us Q I rx r h
 obtain ⟨sep,p,ys,rfl,rfl,hp,hz,q⟩:=h
 obtain ⟨u,rfl,ru⟩:=vals1 r
 cases ru
 obtain ⟨t,rfl⟩:=rx
 obtain ⟨hz',its,n,rv,e⟩:=I.hok p _ hp
 exact join_list (items:=its.toArray) ⟨_,e,rfl,n,rfl⟩ (by simpa using vI rv) hz fun t' k=>⟨.str _,H,I.tok _,⟨_,rfl⟩,q⟩
def VF:V->Option Int->Option Int->Hp->VK->Prop:=fun v lo hi H Q=>∃ x,v= .str x/\x.length<=sizeLine/\Q (.str (Txt.slice x lo hi)) H
theorem R7:SlR X VF:=by
 intro pins s U H x v vl vu lo hi sl Q I rx hs pl pu h
 obtain ⟨z,rfl,hz,q⟩:=h
 obtain ⟨t,rfl⟩:=rx
 refine ⟨"str",_,F.slot_str_getitem.lookup,typeIs_str _ _ _,?_⟩
 have fin:∀ (t' k:Nat),EP X pins U Q (.str (Txt.slice z lo hi) t') {s with toks:=k}:=fun t' k=>⟨.str _,H,I.tok _,⟨_,rfl⟩,q⟩
 have sz:=Xv (Txt.slice_le z lo hi) hz
 obtain ⟨o,ho,hc,hd⟩:=hs
 cases pl with
 | none=>
  cases pu with
  | none=>exact ZJ (l:=none) (u:=none) (st:=none) ⟨o,ho,hc,hd⟩ rfl (post_val_or_str ⟨sz,fin⟩)
  | int j tj=>exact ZJ (l:=none) (u:=some (j,tj)) (st:=none) ⟨o,ho,hc,hd⟩ rfl (post_val_or_str ⟨sz,fin⟩)
 | int i ti=>
  cases pu with
  | none=>exact ZJ (l:=some (i,ti)) (u:=none) (st:=none) ⟨o,ho,hc,hd⟩ rfl (post_val_or_str ⟨sz,fin⟩)
  | int j tj=>exact ZJ (l:=some (i,ti)) (u:=some (j,tj)) (st:=none) ⟨o,ho,hc,hd⟩ rfl (post_val_or_str ⟨sz,fin⟩)
def Qt:R2:=fun x y H Q=>∃ i n,x= .str i/\y= .int n/\MulOk i n/\Q (.str (Txt.mul i n)) H
theorem Ca:OpR X (binaryOp .Mult) Qt:=by
 intro pins s U H x y v u Q I rx ry h
 obtain ⟨i,n,rfl,rfl,hk,q⟩:=h
 obtain ⟨t,rfl⟩:=rx
 obtain ⟨t',rfl⟩:=ry
 exact SB.mul hk fun t' k=>⟨.str _,H,I.tok _,⟨_,rfl⟩,q⟩
def sgn (x:Str):List V:=x.cps.toList.map fun c=>V.str ⟨#[c]⟩
theorem Gk {x:Str} {acc:Array Value} (h:ItemsOf (SignAt x) acc x.cps.size):Vals (sgn x) acc.toList:=by
 obtain ⟨h1,h2⟩:=h
 have key:∀ (l:List Nat) (a:List Value),l.length=a.length->(∀ (j:Nat) (v:Value),a[j]?=some v->∃ (c:Nat) (u:Tok),l[j]?=some c/\v=Value.str ⟨#[c]⟩ u)->Vals (l.map fun c=>V.str ⟨#[c]⟩) a:=by
  intro l
  induction l with
  | nil=>intro a hl _;cases a with
   | nil=>exact .nil
   | cons _ _=>simp at hl
  | cons c l ih=>
   intro a hl hh
   cases a with
   | nil=>simp at hl
   | cons v a=>
    obtain ⟨c',u,e1,e2⟩:=hh 0 v (by simp)
    simp at e1;subst e1
    refine .cons ⟨u,e2⟩ (ih a (by simpa using hl) fun j v' e=>?_)
    obtain ⟨c',u,e1,e2⟩:=hh (j+1) v' (by simpa using e)
    exact ⟨c',u,by simpa using e1,e2⟩
 refine key x.cps.toList acc.toList (by simp [h1]) fun j v e=>?_
 obtain ⟨c,u,e1,e2⟩:=h2 j v (by simpa using e)
 exact ⟨c,u,by simpa using e1,e2⟩
theorem zQ (hc:X.calm=true):CallR X (.type "list") (fun xs H Q=>∃ x,xs=[.str x]/\x.cps.size<=sizeLine/\∀ p,H p=none->Q (.ref p) (upd H p (.lst (sgn x)))):=by
 intro pins s U H xs us Q I r h
 obtain ⟨x,rfl,hz,q⟩:=h
 obtain ⟨u,rfl,t,rfl⟩:=vals1 r
 refine call_list_str (I.ok.hd hc) x t (hn:=hz) fun h' tk acc' c' hk hS hacc=>?_
 refine ⟨.ref s.heap.objs.size,_,I.laid (o:=.lst (sgn x)) hk (Xp _) ⟨by simp [sgn];exact hz,acc'.toList,c',Gk hacc,by simpa using hS⟩,rfl,q _ I.fresh⟩
def R8 (K:W.Frag):List V->Hp->VK->Prop:=fun xs H Q=>∃ x T t b,xs=[x,.ty T]/\TyOf K H x t/\PySem.W.kitOne K t (.type T)=some b/\Q (.bl b) H
theorem Jg:CallR X (.builtin "isinstance") (R8 X.K):=by
 intro pins s U H xs us Q I r h
 obtain ⟨x,T,t,b,rfl,ty,e,q⟩:=h
 obtain ⟨u,v,rfl,ru,rv⟩:=vals2 r
 cases rv
 exact FP I ru ty e fun tk=>⟨.bl b,H,I.tok _,rfl,q⟩
def Cd:List V->List V->Bool
 | [],[]=>true
 | x :: xs,y :: ys=>DN x y && Cd xs ys
 | _,_=>false
theorem vJ:∀ (xs ys:List V),xs.length=ys.length->(List.range xs.length).all (fun j=>DN (xs.getD j .non) (ys.getD j .non))=Cd xs ys
 | [],[],_=>rfl
 | x :: xs,y :: ys,h=>by
  have ih:=vJ xs ys (by simpa using h)
  rw [Yu,List.range_succ_eq_map,YD,List.all_map]
  simp only [Cd]
  rw [← ih]
  rfl
 | [],y :: ys,h=>by simp at h
 | x :: xs,[],h=>by simp at h
theorem zR:∀ {xs ys:List V},xs.length≠ys.length->Cd xs ys=false
 | [],[],h=>absurd rfl h
 | [],y :: ys,_=>rfl
 | x :: xs,[],_=>rfl
 | x :: xs,y :: ys,h=>by simp [Cd,zR (xs:=xs) (ys:=ys) (by simpa using h)]
def VG (K:W.Frag) (neg:Bool):R2:=fun x y H Q=>∃ a b xs ys,x= .ref a/\y= .ref b/\SqL K H a xs/\SqL K H b ys/\xs.all kY=true/\ys.all kY=true/\Q (.bl (if neg then !Cd xs ys else Cd xs ys)) H
theorem Gm (hu:X.A.units < cLine):OpR X (compareOp .Eq) (VG X.K false):=by
 intro pins s U H x y v u Q I rx ry h
 obtain ⟨a,b,xs,ys,rfl,rfl,ha,hb,fx,fy,q⟩:=h
 cases rx
 cases ry
 obtain ⟨its,r1,p1,z1⟩:=I.list ha
 obtain ⟨jts,r2,p2,z2⟩:=I.list hb
 have l1:its.toArray.size=xs.length:=by simpa using r1.length.symm
 have l2:jts.toArray.size=ys.length:=by simpa using r2.length.symm
 by_cases hl:xs.length=ys.length
 ·refine SeqAt.eq_listAt (e:=fun j=>DN (xs.getD j .non) (ys.getD j .non)) p1.isList p2.isList (by rw [l1,l2];exact hl) hu (fun j h1 h2=>?_) ?_
  ·have h1':j < xs.length:=by omega
   have h2':j < ys.length:=by omega
   obtain ⟨u1,e1,q1⟩:=r1.get (Xk h1')
   obtain ⟨u2,e2,q2⟩:=r2.get (Xk h2')
   have e1':its.toArray[j]=u1:=by
    have:=Xn.mp e1
    obtain ⟨_,z⟩:=this
    simpa using z
   have e2':jts.toArray[j]=u2:=by
    have:=Xn.mp e2
    obtain ⟨_,z⟩:=this
    simpa using z
   rw [e1',e2']
   have g1:xs.getD j .non=xs[j]:=by rw [Xl,Xk h1'];rfl
   have g2:ys.getD j .non=ys[j]:=by rw [Xl,Xk h2'];rfl
   show SeqAt.EqAt X.A.in1 s u1 u2 (DN (xs.getD j .non) (ys.getD j .non))
   rw [g1,g2]
   exact yt q1 q2 (Zi.mp fx _ (YH h1')) (Zi.mp fy _ (YH h2'))
  ·rw [l1,vJ xs ys hl]
   exact ⟨.bl _,H,I,rfl,q⟩
 ·refine SeqAt.eq_list_lengthsAt p1.isList p2.isList (by rw [l1,l2];simpa using hl) hu ?_
  rw [if_neg (by simp),zR hl] at q
  exact ⟨.bl false,H,I,rfl,q⟩
end
def fQ (K:W.Frag) (mg:Str->Option Value) (x:Str) (st:Stmt):Prop:=∃ f fd,Fun K x x st f fd/\mg x=some (.ref f)
theorem bw {K:W.Frag} {mg:Str->Option Value} {h:Heap} (X:K.In h) (G:h.Ns mainGlobals mg) {x:Str} {st:Stmt} {f:Addr} {oc:Value} {od an:Option Addr} {osl:Array (Option Value)} {kV doc pm cdv ct:Value}
  (a:PySem.W.nsIn K mainGlobals x=some (some (.ref f)))
  (l:K.lookup f=some ⟨oc,od,.func (PySem.W.fnOf x x (f9 st) (b8 st) (az st) .none kV doc pm an cdv ct),osl⟩)
  (c:PySem.W.codeIn K cdv x=true) (k:PySem.W.keepIn K (.ref f)=true):fQ K mg x st:=⟨f,_,BV l c k,Zr X G a⟩
def nQ (P:Program) (w:World) (K:W.Frag) (mg:Str->Option Value) (base:Heap) (k:Nat) (x:Str) (ps:List Str) (sp:Sp):Prop:=
 ∃ f fd,mg x=some (.ref f)/\PySem.W.keepIn K (.ref f)=true/\Binds K fd ps []/\FnOk P w K mg base Gf k f fd ps sp
section
variable {P:Program} {w:World} {K:W.Frag} {mg:Str->Option Value} {base:Heap}
theorem R9 {x:Str} {st:Stmt} {N ps:List Str} {k:Nat} {sp:Sp} (D:fQ K mg x st) (S:aD N ps (az st))
  (hb:∀ (kV doc pm:Value) (an:Option Addr) (cdv ct:Value) (us:List Value),us.length=ps.length->bindArgs (PySem.W.fnOf x x (f9 st) (b8 st) (az st) .none kV doc pm an cdv ct) ⟨us,[]⟩=pure (ps.zip us))
  (len:∀ vs H Q E,sp vs H Q E->vs.length=ps.length)
  (hbody:∀ (f:Addr) (cdv:Value) (A:Around) (outer:List Env) (s:Shared) (H:Hp) (vs:List V) (Q:VK) (E:XK),Room k (A.deeper (envOfC x (az st) s.heap.objs.size f cdv))->sp vs H Q E->
   ∃ t,PSs (ql Gf P w K mg base N x (az st) f cdv A outer s H E).nox (b8 st) t/\t {nx:=fun _ H'=>Q .non H',rt:=Q} (start N vs) H):nQ P w K mg base (k+1) x ps sp:=by
 obtain ⟨f,fd,F,hm⟩:=D
 exact ⟨f,fd,hm,F.kp,F.binds hb,F.ok S len fun cdv A outer s H vs Q E hr h=>hbody f cdv A outer s H vs Q E hr h⟩
end
section
variable {X:Cx}
theorem Jh {k:Nat} {x:Str} {ps:List Str} {sp:Sp} {p pos:Pos} {e:Expr} {es:List Expr} {t:TA} (F:nQ X.prog X.w X.K X.mg X.base k x ps sp) (hr:Room k X.A) (hg:Gl X x)
  (ha:PA X (e :: es) t) (hdb:autoParam ((x == ("__debug__":Str))=false) L2.auto2._auto_1) (he:autoParam (starEach (e :: es) X.env=(false,eval e X.env) :: starEach es X.env) L2.auto4._auto_1) (hpl:autoParam ((backTo pos (starEach es X.env)).any (·.1)=false) L2.auto4._auto_1):
  PE X (.Call (.Name x p) (e :: es) [] pos) (xu sp [] E0 t):=by
 obtain ⟨f,fd,a,b,c,d⟩:=F
 exact Ng d hr hg a b c .nil Vy ha hdb he hpl
def zU:R2:=fun x y H Q=>(∃ i j,x= .int i/\y= .int j/\Q (.int (i+j)) H)\/(∃ i j,x= .str i/\y= .str j/\i.length+j.length<=sizeLine/\Q (.str (i ++ j)) H)\/Vw x y H Q
theorem aN:OpR X (binaryOp .Add) zU:=Rx.or (Bx.or R3)
def Ji:R2:=fun x y H Q=>(∃ i j,x= .int i/\y= .int j/\CMul i j/\Q (.int (i*j)) H)\/Qt x y H Q\/Vx x y H Q
theorem lg:OpR X (binaryOp .Mult) Ji:=Ry.or (Ca.or R5)
theorem Jj {x:Str} {z:Str} {pos:Pos} (hg:Gl X x) (hm:∃ t,X.mg x=some (.str z t)) (hd:autoParam ((x == ("__debug__":Str))=false) L2.auto2._auto_1):PE X (.Name x pos) (tC (.str z)):=
 let ⟨t,e⟩:=hm;Do hg e ⟨t,rfl⟩ hd
theorem Jk {x:Str} {z:Int} {pos:Pos} (hg:Gl X x) (hm:∃ t,X.mg x=some (.int z t)) (hd:autoParam ((x == ("__debug__":Str))=false) L2.auto2._auto_1):PE X (.Name x pos) (tC (.int z)):=
 let ⟨t,e⟩:=hm;Do hg e ⟨t,rfl⟩ hd
theorem VH {x:Str} {T:String} {pos:Pos} (hg:Gl X x) (hm:X.mg x=none) (hv:bootBuiltins x=some (.type T)) (hn:autoParam (x≠"__name__") L2.auto2._auto_1) (hd:autoParam ((x == ("__debug__":Str))=false) L2.auto2._auto_1):PE X (.Name x pos) (tC (.ty T)):=
 Mh hg hm hv rfl hn hd
def Nq (K:W.Frag):R2:=fun x y H Q=>(∃ i j,x= .str i/\y= .str j/\Q (.bl (!(Builtin.Str.occurrences j i 0 j.length 1).isEmpty)) H)\/rIn K false x y H Q
theorem Sd:OpR X (compareOp .In) (Nq X.K):=Fz.or Ga
def Sg (K:W.Frag):R2:=fun x y H Q=>rEq x y H Q\/VG K false x y H Q
theorem Sh (hu:X.A.units < cLine):OpR X (compareOp .Eq) (Sg X.K):=Vk.or (Gm hu)
def Xd (K:W.Frag):V->Option Int->Option Int->Hp->VK->Prop:=fun x lo hi H Q=>Vt K x lo hi H Q\/Vn K x lo hi H Q\/VF x lo hi H Q
theorem Sq:SlR X (Xd X.K):=Nk.or (RW.or R7)
def Nr (K:W.Frag) (tl:TE):TI:=fun U H R=>tl U H fun x H1=>(∃ a,x= .ref a/\(∃ xs,SqL K H1 a xs)/\R (Qm K a) H1)\/(∃ a,x= .ref a/\(∃ xs,SqT K H1 a xs)/\R (Qn K a) H1)\/(∃ z,x= .str z/\R (VD z) H1)
theorem Ss {tg l:Expr} {tl:TE} (hl:PE X l tl):PI X tg l (Nr X.K tl):=by
 intro pins s U H R I h
 refine eQ (hl pins s U H _ I h) fun v s1 qq0=>?_
 obtain ⟨x,H1,I1,r1,q1⟩:=qq0
 rcases q1 with ⟨a,rfl,⟨xs,hq⟩,q⟩ | ⟨a,rfl,⟨xs,hq⟩,q⟩ | ⟨z,rfl,q⟩
 ·cases r1
  obtain ⟨its,rv,p,hz⟩:=I1.list hq
  refine wpAny_pyIter_list p.isList ?_
  refine ⟨s1.heap.objs.size,[s1.heap.objs.size],_,_,H1,rfl,I1.kept (t':=s1.toks) fun b o e=>Xm _ e,Fv a _,⟨_,Xy _ rfl,rfl,rfl⟩,fun b hb=>?_,q⟩
  have e:b=s1.heap.objs.size:=by simpa using hb
  subst e
  exact I1.fpOk (Xp _) (I1.hok.fresh (Xp _))
 ·cases r1
  obtain ⟨its,rv,p,hz⟩:=I1.tuple hq
  refine wpAny_pyIter_tuple (show s1.heap.IsTuple a its.toArray from p) ?_
  refine ⟨s1.heap.objs.size,[s1.heap.objs.size],_,_,H1,rfl,I1.kept (t':=s1.toks) fun b o e=>Xm _ e,Bt a _,⟨_,Xy _ rfl,rfl,rfl⟩,fun b hb=>?_,q⟩
  have e:b=s1.heap.objs.size:=by simpa using hb
  subst e
  exact I1.fpOk (Xp _) (I1.hok.fresh (Xp _))
 ·obtain ⟨t,rfl⟩:=r1
  have fin:∀ (ty:String) (T:Turn X.prog X.w X.K tg (VD z) [s1.heap.objs.size] s1.heap.objs.size (fun i h=>h.IsStrIter s1.heap.objs.size ty z t i)) (o:Obj),(s1.heap.push o).IsStrIter s1.heap.objs.size ty z t 0->PIE X pins U tg R (.ref s1.heap.objs.size) {s1 with heap:=s1.heap.push o}:=
   fun ty T o st=>⟨s1.heap.objs.size,[s1.heap.objs.size],_,_,H1,rfl,I1.kept (t':=s1.toks) fun b o e=>Xm _ e,T,st,fun b hb=>by
    have e:b=s1.heap.objs.size:=by simpa using hb
    subst e
    exact I1.fpOk (Xp _) (I1.hok.fresh (Xp _)),q⟩
  cases ha:z.cps.all (· < 128)
  ·exact wpAny_pyIter_wide ha (fin "str_iterator" (zP _ z t _ (by decide) (fun A' hA=>Walks.strWide hA _ z t) fun A i s Q E st h=>wpAny_pyIter_striter_wide st h) _ ⟨_,Xy _ rfl,rfl,rfl⟩)
  ·exact wpAny_pyIter_ascii ha (fin "str_ascii_iterator" (zP _ z t _ (by decide) (fun A' hA=>Walks.strAscii hA _ z t) fun A i s Q E st h=>wpAny_pyIter_striter_ascii st h) _ ⟨_,Xy _ rfl,rfl,rfl⟩)
end
section
variable {X:Cx} {K:W.Frag}
theorem Nt (hK:X.K=K):IxR X (Qo K):=hK ▸ R0
theorem Ce (hK:X.K=K):OpR X (compareOp .In) (Nq K):=hK ▸ Sd
theorem Su (hK:X.K=K) (hu:X.A.units < cLine):OpR X (compareOp .Eq) (Sg K):=hK ▸ Sh hu
theorem Nu {tg l:Expr} {tl:TE} (hK:X.K=K) (hl:PE X l tl):PI X tg l (Nr K tl):=hK ▸ Ss hl
def Nv (K:W.Frag):List V->Hp->VK->Prop:=fun xs H Q=>∃ x n,xs=[x]/\Vm K x H n/\Q (.int n) H
theorem aK (hK:X.K=K):CallR X (.builtin "len") (Nv K):=hK ▸ Ik
theorem jk (hK:X.K=K):CallR X (.builtin "isinstance") (R8 K):=hK ▸ Jg
def Jl (K:W.Frag):List V->Hp->VK->Prop:=fun xs H Q=>(∃ p ys,xs=[.ref p]/\(SqL K H p ys\/SqT K H p ys)/\∀ l,H l=none->Q (.ref l) (upd H l (.lst ys)))\/(∃ x,xs=[.str x]/\x.cps.size<=sizeLine/\∀ p,H p=none->Q (.ref p) (upd H p (.lst (sgn x))))
theorem Cg (hK:X.K=K) (hc:X.calm=true):CallR X (.type "list") (Jl K):=hK ▸ yw.or (zQ hc)
variable {o e:Expr} {es:List Expr} {to:TE} {t:TA} {name:Str} {apos cpos:Pos} {T id:String} {r:V->List V->Hp->VK->Prop}
theorem Sv (hK:X.K=K) (pa:PlainAttrs T) (slot:Slot T name id) (hty:typeOf (.builtin id)=pure (.type "method_descriptor")) (hm:Vo X id r) (ho:PE X o to) (ha:PA X (e :: es) t)
  (hbase:autoParam (attributeBase o name X.env (eval o X.env)=eval o X.env) L2.auto4._auto_1)
  (hfew:((backTo cpos (starEach (e :: es) X.env)).all (fun x=>!x.1) && (backToKw cpos (keywordEach [] X.env)).all (fun x=>x.1.isSome)
   && decide ((e :: es).length+([]:List Keyword).length+(if ([]:List Keyword).isEmpty then 0 else 1) < 30))=true:=by rfl)
  (hline:autoParam ((apos.endLine == cpos.line)=true) L2.auto4._auto_1) (hs:autoParam (starEach (e :: es) X.env=(false,eval e X.env) :: starEach es X.env) L2.auto4._auto_1) (hplain:autoParam ((backTo cpos (starEach es X.env)).any (·.1)=false) L2.auto4._auto_1):
  PE X (.Call (.Attribute o name apos) (e :: es) [] cpos) (Vu K T r to t):=by
 subst hK;exact Vv pa slot hty hm ho ha hbase hfew hline hs hplain
theorem Nx {ts:List Expr} {k:Nat} {gs:Bq} {n:Nat} {pos:Pos} (hK:X.K=K) (hc:X.calm=true) (h:UT X ts gs)
  (hn:autoParam ((assignEach ts X.env).length=n) L2.auto4._auto_1) (hst:autoParam ((assignEach ts X.env).findIdx? (·.1)=none) L2.auto4._auto_1):PG X (.Tuple ts k pos) (Mt K n gs):=by
 subst hK;exact HH hc h hn hst
end
section
variable {X:Cx} {sc scope:Scope} {N':List Str} {C:Addr} {s₀:Shared} {H₀:Hp} {ex:List Addr} {x:Str} {pos:Pos}
theorem pvL (i:Nat) (h:sc.names.lookup x=some .local) (hN:autoParam (X.N[i]?=some x) L2.auto4._auto_1) (hsc:autoParam (X.env.scope=sc) L2.auto4._auto_1) (hd:autoParam ((x == ("__debug__":Str))=false) L2.auto6._auto_1) (hcd:autoParam ((x == ("__classdict__":Str))=false) L2.auto6._auto_1):
  PE X (.Name x pos) (qi i):=yj hN (.inl (by rw [hsc];exact h)) hd hcd
theorem pvC (i:Nat) (h:sc.names.lookup x=some .cell) (hN:autoParam (X.N[i]?=some x) L2.auto4._auto_1) (hsc:autoParam (X.env.scope=sc) L2.auto4._auto_1) (hd:autoParam ((x == ("__debug__":Str))=false) L2.auto6._auto_1) (hcd:autoParam ((x == ("__classdict__":Str))=false) L2.auto6._auto_1):
  PE X (.Name x pos) (qi i):=yj hN (.inr (.inl (by rw [hsc];exact h))) hd hcd
theorem pvBL (i:Nat) (h:scope.names.lookup x=some .local) (hN:autoParam (N'[i]?=some x) L2.auto4._auto_1) (hd:autoParam ((x == ("__debug__":Str))=false) L2.auto6._auto_1) (hcd:autoParam ((x == ("__classdict__":Str))=false) L2.auto6._auto_1):
  PE (rD X N' scope C s₀ H₀ ex) (.Name x pos) (qi i):=yj hN (.inl (lookup_relabel_local h)) hd hcd
theorem pvBF (i:Nat) (h:scope.names.lookup x=some .free) (hN:autoParam (N'[i]?=some x) L2.auto4._auto_1) (hd:autoParam ((x == ("__debug__":Str))=false) L2.auto6._auto_1) (hcd:autoParam ((x == ("__classdict__":Str))=false) L2.auto6._auto_1):
  PE (rD X N' scope C s₀ H₀ ex) (.Name x pos) (qi i):=yj hN (by
   rcases rK (env:=X.env) h with z | z
   ·exact .inr (.inl z)
   ·exact .inr (.inr z)) hd hcd
theorem jH {env:Env}:∀ {names:List (Str×NameKind)} {x:Str},names.lookup x=some .globalImplicit->
  (names.map fun (n,k)=>if (k == NameKind.free && env.scope.kind == .function && env.kindOf n == some .cell) then (n,NameKind.cell) else (n,k)).lookup x=some .globalImplicit
 | [],_,h=>by simp at h
 | (n,k) :: r,x,h=>by
  have ih:=@jH env r x
  show List.lookup x ((if (k == NameKind.free && env.scope.kind == .function && env.kindOf n == some .cell)=true then (n,NameKind.cell) else (n,k)) :: _)=_
  cases hx:x == n with
  | true=>
   simp only [Yg,hx] at h
   cases h
   simp [Yg,hx]
  | false=>
   simp only [Yg,hx] at h
   by_cases hc:(k == NameKind.free && env.scope.kind == .function && env.kindOf n == some .cell)=true
   ·rw [if_pos hc];simp only [Yg,hx];exact ih h
   ·rw [if_neg hc];simp only [Yg,hx];exact ih h
theorem glB (h:scope.names.lookup x=some .globalImplicit):Gl (rD X N' scope C s₀ H₀ ex) x:=jH h
theorem pgB (i:Nat) (h:scope.names.lookup x=some .local) (hN:N'.Nodup) (hi:autoParam (N'[i]?=some x) L2.auto4._auto_1):PG (rD X N' scope C s₀ H₀ ex) (.Name x pos) (qd i):=
 Dq hN hi (.inl (lookup_relabel_local h)) (.inr (lookup_relabel_local h))
end
def jM:Expr->Bool
 | .ListComp ..=>false | .SetComp ..=>false | .DictComp ..=>false | _=>true
theorem xN {value:Expr} {target:Option Expr} {line:Nat} {env:Env} (h:jM value=true):swapsWith value target line env=pure false:=by
 cases value <;> first | rfl | cases h
def rO:Expr->Bool
 | .Slice ..=>false | _=>true
theorem pix {b:Expr} (h:rO b=true):DK b:=by
 intro o i
 cases b <;> first | rfl | cases h
def tG:Expr->Bool
 | .Set ..=>false | _=>true
theorem Jm {e:Expr} {env:Env} (h:tG e=true):∀ x,foldedSetIterable e env x=pure x:=by
 intro x
 cases e <;> first | rfl | cases h
def notStar:Expr->Bool
 | .Starred ..=>false | _=>true
theorem bC {e:Expr} {es:List Expr} {env:Env} (h:notStar e=true):starEach (e :: es) env=(false,eval e env) :: starEach es env:=by
 cases e <;> first | rfl | cases h
theorem mO {env:Env} {pos:Pos}:∀ {es:List Expr},es.all notStar=true->(backTo pos (starEach es env)).any (·.1)=false
 | [],_=>rfl
 | e :: es,h=>by
  simp only [YD,XQ] at h
  rw [bC h.1]
  show (false || (backTo pos (starEach es env)).any (·.1))=false
  rw [mO h.2];rfl
theorem Jo {env:Env} {pos:Pos}:∀ {es:List Expr},es.all notStar=true->(backTo pos (starEach es env)).all (fun x=>!x.1)=true
 | [],_=>rfl
 | e :: es,h=>by
  simp only [YD,XQ] at h
  rw [bC h.1]
  show (true && (backTo pos (starEach es env)).all (fun x=>!x.1))=true
  rw [Jo h.2];rfl
section
variable {X:Cx} {K:W.Frag} {e:Expr} {es:List Expr} {te:TE} {t:TA} {pos p:Pos}
theorem paC (ha:PE X e te) (hr:PA X es t) (h:autoParam (notStar e=true) L2.auto4._auto_1):PA X (e :: es) (Dz te t):=M9 ha hr (bC h)
theorem VJ {k:Nat} {x:Str} {ps:List Str} {sp:Sp} (F:nQ X.prog X.w X.K X.mg X.base k x ps sp) (hr:Room k X.A) (hg:Gl X x) (ha:PA X (e :: es) t) (hdb:(x == ("__debug__":Str))=false) (h:autoParam ((e :: es).all notStar=true) L2.auto4._auto_1):
  PE X (.Call (.Name x p) (e :: es) [] pos) (xu sp [] E0 t):=by
 simp only [YD,XQ] at h
 exact Jh F hr hg ha hdb (bC h.1) (mO h.2)
theorem VL {x:Str} {id:String} {r:List V->Hp->VK->Prop} (hc:CallR X (.builtin id) r) (hg:Gl X x) (hm:X.mg x=none) (hv:bootBuiltins x=some (.builtin id)) (ha:PA X (e :: es) t) (hn:x≠"__name__") (hdb:(x == ("__debug__":Str))=false) (h:autoParam ((e :: es).all notStar=true) L2.auto4._auto_1):
  PE X (.Call (.Name x p) (e :: es) [] pos) (RV r t):=by
 simp only [YD,XQ] at h
 exact Ip hc hg hm hv ha hn hdb (bC h.1) (mO h.2)
theorem Sw {x:Str} {T:String} {r:List V->Hp->VK->Prop} (hc:CallR X (.type T) r) (hg:Gl X x) (hm:X.mg x=none) (hv:bootBuiltins x=some (.type T)) (ha:PA X (e :: es) t) (hn:x≠"__name__") (hdb:(x == ("__debug__":Str))=false) (h:autoParam ((e :: es).all notStar=true) L2.auto4._auto_1):
  PE X (.Call (.Name x p) (e :: es) [] pos) (RV r t):=by
 simp only [YD,XQ] at h
 exact FW hc hg hm hv ha hn hdb (bC h.1) (mO h.2)
def rP:Expr->Bool
 | .Call ..=>false | _=>true
theorem VM {o:Expr} {f:Str} {env:Env} {w:Sem Value} (h:rP o=true):attributeBase o f env w=w:=by
 cases o <;> first | rfl | cases h
theorem VN {o:Expr} {to:TE} {name:Str} {apos cpos:Pos} {T id:String} {r:V->List V->Hp->VK->Prop} (hK:X.K=K) (pa:PlainAttrs T) (slot:Slot T name id) (hty:typeOf (.builtin id)=pure (.type "method_descriptor")) (hm:Vo X id r) (ho:PE X o to) (ha:PA X (e :: es) t)
  (hbase:autoParam (rP o=true) L2.auto4._auto_1) (hl:autoParam (es.length < 20) L2.auto2._auto_1) (hline:autoParam ((apos.endLine == cpos.line)=true) L2.auto4._auto_1) (h:autoParam ((e :: es).all notStar=true) L2.auto4._auto_1):
  PE X (.Call (.Attribute o name apos) (e :: es) [] cpos) (Vu K T r to t):=by
 have hA:=Jo (env:=X.env) (pos:=cpos) h
 simp only [YD,XQ] at h
 refine Sv hK pa slot hty hm ho ha (VM hbase) ?_ hline (bC h.1) (mO h.2)
 rw [hA]
 have:(e :: es).length+([]:List Keyword).length+(if ([]:List Keyword).isEmpty then 0 else 1) < 30:=by simp;omega
 rw [Xq this];rfl
theorem VP {i:Nat} {x:Str} {pos':Pos} (hN:X.N.Nodup) (hi:X.N[i]?=some x) (hx:Loc X.env.scope x) (he:PE X e te) (hf:X.fn x=true) (h:autoParam (jM e=true) L2.auto4._auto_1):PS X (.Assign [.Name x pos'] e pos) (ym te (qd i)):=
 HN hN hi hx he (xN h) (.inl hf)
theorem Sy (he:PE X e te) (h:autoParam (jM e=true) L2.auto4._auto_1):PS X (.Expr e pos) (Dp te):=Mq he (xN h)
theorem ixE {a b:Expr} {ta tb:TE} (hK:X.K=K) (ha:PE X a ta) (hb:PE X b tb) (h:autoParam (rO b=true) L2.auto4._auto_1):PE X (.Subscript a b pos) (HY (Qo K) ta tb):=Vp (Nt hK) ha hb (pix h)
theorem VR {tg iter:Expr} {body:List Stmt} {wi:TI} {g:TG} {tb:TS} (hp:PassesOwn (model X.prog X.w) X.A X.env X.xe) (hc:X.calm=true) (hi:PI X tg iter wi) (hg:PG X tg g) (hb:PSs X body tb) (h:autoParam (tG iter=true) L2.auto4._auto_1):PS X (.For tg iter body [] pos) (Mu wi g tb):=
 Ru hp hc hi hg hb (Jm h)
end
section
variable {X:Cx} {tg iter elt:Expr} {ifs:List Expr} {scope:Scope} {pos:Pos} {N':List Str} {sub:List (Option Nat)} {wi:TI} {g:TG} {tt:TT} {te:TE} {N:List Str} {sc:Scope}
theorem VV (S:ux N sc N' scope sub) (hc:X.calm=true) (hN:X.N=N) (hsc:X.env.scope=sc) (hi:PI X tg iter wi)
  (hg:∀ (C:Addr) (s₀:Shared) (H₀:Hp) (ex:List Addr),PG (rD X N' scope C s₀ H₀ ex) tg g)
  (ht:∀ (C:Addr) (s₀:Shared) (H₀:Hp) (ex:List Addr),BW (rD X N' scope C s₀ H₀ ex) ifs tt)
  (he:∀ (C:Addr) (s₀:Shared) (H₀:Hp) (ex:List Addr),PE (rD X N' scope C s₀ H₀ ex) elt te) (h:autoParam (tG iter=true) L2.auto4._auto_1):
  PE X (.ListComp elt [⟨tg,iter,ifs,0⟩] scope pos) (vH sub wi g tt te):=DQ S hc hN hsc hi hg ht he (Jm h)
end
theorem bj:bootBuiltins "len"=some (.builtin "len"):=by trivial
theorem SJ:bootBuiltins "min"=some (.builtin "min"):=by trivial
theorem cL:bootBuiltins "isinstance"=some (.builtin "isinstance"):=by trivial
theorem SM:bootBuiltins "all"=some (.builtin "all"):=by trivial
theorem SN:bootBuiltins "sum"=some (.builtin "sum"):=by trivial
theorem rQ:bootBuiltins "list"=some (.type "list"):=by trivial
theorem Jp:bootBuiltins "tuple"=some (.type "tuple"):=by trivial
theorem SQ:bootBuiltins "int"=some (.type "int"):=by trivial
theorem vK:bootBuiltins "str"=some (.type "str"):=by trivial
theorem rR:bootBuiltins "enumerate"=some (.type "enumerate"):=by trivial
theorem SX:bootBuiltins "zip"=some (.type "zip"):=by trivial
theorem uz:bootBuiltins "reversed"=some (.type "reversed"):=by trivial
theorem Ny:bootBuiltins "bool"=some (.type "bool"):=by trivial
theorem uP {c A B:Prop} [Decidable c] (h1:c->A) (h2:¬ c->B):if decide c=true then A else B:=by
 by_cases h:c
 ·rw [if_pos (Xq h)];exact h1 h
 ·rw [if_neg (by rw [XF h];exact Xz)];exact h2 h
theorem iteB {b:Bool} {A B:Prop} (h1:b=true->A) (h2:b=false->B):if b=true then A else B:=by
 cases b with
 | true=>rw [if_pos rfl];exact h1 rfl
 | false=>rw [if_neg Xz];exact h2 rfl
section
variable {U:St} {H:Hp} {D:Ends} {ta tb te tc:TE} {tt tu:TT} {Q:VK} {t u:TS} {g:TG}
theorem ou (h:t {D with nx:=u D} U H):Rj t u D U H:=h
theorem cY (h:D.nx U H):Hx D U H:=h
theorem gk (h:te U H fun x H1=>g x U H1 D.nx):ym te g D U H:=h
theorem cZ {i:Nat} {v:V} {R:St->Hp->Prop} (h:R (U.set i (some v)) H):qd i v U H R:=h
theorem gn {to ti:TE} {ts:Br} {v:V} {R:St->Hp->Prop} (h:to U H fun o H1=>ti U H1 fun i H2=>ts o i v H2 fun H3=>R U H3):Rp to ti ts v U H R:=h
theorem gq (h:te U H D.rt):Rk te D U H:=h
theorem c7 (h:te U H fun _ H1=>D.nx U H1):Dp te D U H:=h
theorem j7 (h:tt U H fun b H1=>if b=true then t D U H1 else u D U H1):Rn tt t u D U H:=h
theorem dg {R:Bool->Hp->Prop} (h:te U H fun x H1=>∃ k,x= .bl k/\R k H1):Dw te U H R:=h
theorem j8 {R:Bool->Hp->Prop} (h:te U H fun x H1=>∃ k,x= .bl k/\R k H1):tB te U H R:=h
theorem gr {R:Bool->Hp->Prop} (h:tt U H fun c H1=>R (!c) H1):Q9 tt U H R:=h
theorem gw {R:Bool->Hp->Prop} (h:tt U H fun c H1=>if c=true then tu U H1 R else R false H1):Mi tt tu U H R:=h
theorem j9 {R:Bool->Hp->Prop} (h:tt U H fun c H1=>if c=true then R true H1 else tu U H1 R):tOr tt tu U H R:=h
theorem dh (h:ta U H fun x H1=>∃ c,x= .bl c/\if c=true then tb U H1 Q else Q (.bl false) H1):Hu ta tb U H Q:=h
theorem gB (h:ta U H fun x H1=>∃ c,x= .bl c/\if c=true then Q (.bl true) H1 else tb U H1 Q):Rf ta tb U H Q:=h
theorem di (h:ta U H fun x H1=>∃ c,x= .bl c/\Q (.bl (!c)) H1):Hv ta U H Q:=h
theorem gC (h:tt U H fun c H1=>if c=true then ta U H1 Q else tb U H1 Q):tIf tt ta tb U H Q:=h
theorem gG {i:Nat} {v:V} (e:U[i]?=some (some v)) (h:Q v H):qi i U H Q:=⟨v,e,h⟩
theorem wR {v:V} (h:Q v H):tC v U H Q:=h
theorem kh {r:R2} (h:ta U H fun x H1=>tb U H1 fun y H2=>r x y H2 Q):HY r ta tb U H Q:=h
theorem kj {r:List V->Hp->VK->Prop} {a:TA} (h:a U H fun vs H1=>r vs H1 Q):RV r a U H Q:=h
theorem dj {a:TA} {R:List V->Hp->Prop} (h:te U H fun x H1=>a U H1 fun xs H2=>R (x :: xs) H2):Dz te a U H R:=h
theorem gH {R:List V->Hp->Prop} (h:R [] H):MP U H R:=h
theorem dm {sp:Sp} {E:XK} {a:TA} (h:a U H fun vs H1=>sp vs H1 Q E):xu sp [] E a U H Q:=by
 unfold xu
 simpa only [YG] using h
theorem lq {a:TA} (h:a U H fun xs H1=>xs.length<=sizeLine/\∀ p,H1 p=none->Q (.ref p) (upd H1 p (.tup xs))):Nb a U H Q:=h
theorem lw {a:TA} (h:a U H fun xs H1=>xs.length<=sizeLine/\∀ p,H1 p=none->Q (.ref p) (upd H1 p (.lst xs))):Nf a U H Q:=h
theorem km {K:W.Frag} {T:String} {r:V->List V->Hp->VK->Prop} {a:TA} (h:te U H fun x H1=>tyV K T x H1/\a U H1 fun xs H2=>r x xs H2 Q):Vu K T r te a U H Q:=h
theorem kE {r:V->Option Int->Option Int->Hp->VK->Prop} {tl th:TO} (h:te U H fun x H1=>tl U H1 fun l H2=>th U H2 fun u H3=>r x l u H3 Q):tSl r te tl th U H Q:=h
theorem gJ {R:Option Int->Hp->Prop} (h:R none H):yp U H R:=h
theorem dq {R:Option Int->Hp->Prop} (h:te U H fun x H1=>∃ i,x= .int i/\R (some i) H1):Iu te U H R:=h
theorem dw {R:Bool->Hp->Prop} (h:R true H):Ja U H R:=h
theorem dz {a:TA} {R:It->Hp->Prop} (h:a U H fun vs H1=>∃ j:Int,vs=[.int j]/\-(2 ^ 62)<=j/\j < 2 ^ 62/\R (HR 0 j.toNat) H1):HS a U H R:=h
theorem dD {a:TA} {R:It->Hp->Prop} (h:a U H fun vs H1=>∃ i j:Int,vs=[.int i,.int j]/\(-(2 ^ 62)<=i/\i < 2 ^ 62/\-(2 ^ 62)<=j/\j < 2 ^ 62)/\R (HR i (j - i).toNat) H1):HW a U H R:=h
theorem dF {K:W.Frag} {R:It->Hp->Prop} (h:te U H fun x H1=>(∃ a,x= .ref a/\(∃ xs,SqL K H1 a xs)/\R (Qm K a) H1)\/(∃ a,x= .ref a/\(∃ xs,SqT K H1 a xs)/\R (Qn K a) H1)\/(∃ z,x= .str z/\R (VD z) H1)):Nr K te U H R:=h
theorem dG {sub:List (Option Nat)} {wi:TI} (h:wi U H fun J H1=>rM sub g tt te U Q J H1):vH sub wi g tt te U H Q:=h
theorem gK {wi:TI} {tbd:TS} (h:wi U H fun J H1=>∃ W:Nat->Nat->St->Hp->Prop,(∃ m,W 0 m U H1)/\∀ i m U H,W i m U H->
 (J.stop i H/\D.nx U H)\/(J.go i H/\∃ N:St->Hp->Prop,(∀ U' H',N U' H'->∃ m',m' < m/\W (i+1) m' U' H')/\∀ x H',J.yld i H x H'->g x U H' fun σ2 H2=>tbd {D with nx:=N,ct:=N,bk:=D.nx} σ2 H2)):Mu wi g tbd D U H:=h
variable {i j:Int} {x y:Str} {f:Int->Int->V} {C:Int->Int->Prop} {K:W.Frag}
theorem kI (h:Q (f i j) H):Ia f (.int i) (.int j) H Q:=⟨_,_,rfl,rfl,h⟩
theorem wU (c:C i j) (h:Q (f i j) H):rI C f (.int i) (.int j) H Q:=⟨_,_,rfl,rfl,c,h⟩
theorem dH (h:Q (.int (i+j)) H):zU (.int i) (.int j) H Q:=.inl ⟨_,_,rfl,rfl,h⟩
theorem jc (c:x.length+y.length<=sizeLine) (h:Q (.str (x ++ y)) H):zU (.str x) (.str y) H Q:=.inr (.inl ⟨_,_,rfl,rfl,c,h⟩)
theorem yz {a b:Addr} {xs ys:List V} (ha:H a=some (.lst xs)) (hb:H b=some (.lst ys)) (c:xs.length+ys.length<=sizeLine) (h:∀ p,H p=none->Q (.ref p) (upd H p (.lst (xs ++ ys)))):zU (.ref a) (.ref b) H Q:=
 .inr (.inr ⟨a,b,xs,ys,rfl,rfl,ha,hb,c,h⟩)
theorem dI (c:CMul i j) (h:Q (.int (i*j)) H):Ji (.int i) (.int j) H Q:=.inl ⟨_,_,rfl,rfl,c,h⟩
theorem bG {p:Addr} {xs:List V} {v:V} (s:SqL K H p xs) (e:Hr xs i=some v) (h:Q v H):Qo K (.ref p) (.int i) H Q:=.inl ⟨p,xs,i,v,rfl,rfl,s,e,h⟩
theorem fK {p:Addr} {xs:List V} {v:V} (s:SqT K H p xs) (e:Hr xs i=some v) (h:Q v H):Qo K (.ref p) (.int i) H Q:=.inr (.inl ⟨p,xs,i,v,rfl,rfl,s,e,h⟩)
theorem zV {c:Nat} (s:x.length<=sizeLine) (e:Hr x.cps.toList i=some c) (h:Q (.str ⟨#[c]⟩) H):Qo K (.str x) (.int i) H Q:=.inr (.inr ⟨x,i,c,rfl,rfl,s,e,h⟩)
theorem cz {p:Addr} {xs:List V} {n:Nat} {v:V} {R:Hp->Prop} (hp:H p=some (.lst xs)) (e:FZ xs.length i=some n) (h:R (upd H p (.lst (xs.set n v)))):uw (.ref p) (.int i) v H R:=⟨p,xs,i,n,rfl,rfl,hp,e,h⟩
theorem gM (h:Q (.bl (!(Builtin.Str.occurrences y x 0 y.length 1).isEmpty)) H):Nq K (.str x) (.str y) H Q:=.inl ⟨_,_,rfl,rfl,h⟩
theorem kJ {b:Bool} {R:Bool->Prop} (h:R b):∃ k,V.bl b= .bl k/\R k:=⟨b,rfl,h⟩
theorem dJ {n:Int} {R:Int->Prop} (h:R n):∃ k,V.int n= .int k/\R k:=⟨n,rfl,h⟩
end
theorem Same.upd {H H':Hp} {p:Addr} {o:HO} (s:Same H H') (hn:H' p=none):Same H (upd H' p o):=fun b u e=>by
 have q:=s b u e
 rw [aC (fun z=>by rw [z,hn] at q;cases q)]
 exact q
def Chg (p:Addr) (H H':Hp):Prop:=∀ b o,b≠p->H b=some o->H' b=some o
theorem Chg.refl (p:Addr) (H:Hp):Chg p H H:=fun _ _ _ e=>e
theorem Chg.trans {p:Addr} {H H1 H2:Hp} (a:Chg p H H1) (b:Chg p H1 H2):Chg p H H2:=fun c o n e=>b c o n (a c o n e)
theorem Chg.new {p q:Addr} {H H1:Hp} {o:HO} (a:Chg p H H1) (hn:H1 q=none):Chg p H (upd H1 q o):=fun b u n e=>by
 have z:=a b u n e
 rw [aC (fun k=>by rw [k,hn] at z;cases z)]
 exact z
theorem aP {H:Hp} {q b:Addr} {o u:HO} (hq:H q=none) (hb:H b=some u):upd H q o b=some u:=by
 rw [aC (fun z=>by rw [z,hq] at hb;cases hb)];exact hb
theorem Ci (sep:Str) (ys:List Str):Txt.join sep ys=Str.join sep ys:=by
 show Builtin.Str.glued sep ys=Str.join sep ys
 exact PySem.StrLaws.glued_eq_join sep ys
theorem vL (ys:List Str):(Txt.join (Str.ofString "") ys).cps.toList=(ys.map fun y=>y.cps.toList).flatten:=by
 rw [Ci]
 have e0:(Str.ofString "").cps= #[]:=by trivial
 have key:∀ ys:List Str,(Str.join (Str.ofString "") ys).cps.toList=(ys.map fun y=>y.cps.toList).flatten:=by
  intro ys
  induction ys with
  | nil=>rfl
  | cons y r ih=>
   cases r with
   | nil=>simp [Str.join]
   | cons z r=>
    show ((y ++ Str.ofString "") ++ Str.join (Str.ofString "") (z :: r)).cps.toList=_
    rw [Str.cps_append,Str.cps_append,e0]
    simp only [Array.append_empty,Array.toList_append,ih,Yk,Y4]
 exact key ys
theorem DY (x:Str):x.length=x.cps.toList.length:=by simp [Str.length]
theorem Jq {ys:List Str} (h:∀ y∈ys,y.length=1):(Txt.join (Str.ofString "") ys).length=ys.length:=by
 rw [DY,vL]
 induction ys with
 | nil=>rfl
 | cons y r ih=>
  have h1:=h y (by simp)
  rw [DY] at h1
  simp only [Yk,Y4,Yc,Yu,h1]
  rw [ih fun z hz=>h z (by simp [hz])]
  omega
theorem vM {ys:List Str} (h:∀ y∈ys,y.length=1):(ys.map (·.length)).sum=ys.length:=by
 induction ys with
 | nil=>rfl
 | cons y r ih=>
  simp only [Yk,List.sum_cons,Yu,h y (by simp),ih fun z hz=>h z (by simp [hz])]
  omega
theorem rT (c:Nat):(⟨#[c]⟩:Str).length=1:=by simp [Str.length]
section
variable {H:Hp} {Q:VK} {K:W.Frag}
theorem gZ {p:Addr} {xs:List V} (s:SqL K H p xs) (h:Q (.int xs.length) H):Nv K [V.ref p] H Q:=⟨_,_,rfl,.inl ⟨_,s,rfl⟩,h⟩
theorem Jr {p:Addr} {xs:List V} (s:SqT K H p xs) (h:Q (.int xs.length) H):Nv K [V.ref p] H Q:=⟨_,_,rfl,.inr ⟨_,s,rfl⟩,h⟩
theorem cI {z:Str} (s:z.length<=sizeLine) (h:Q (.int z.length) H):Nv K [V.str z] H Q:=⟨_,_,rfl,⟨s,rfl⟩,h⟩
theorem kO {i j:Int} {R:Int->Int->Prop} (h:R i j):∃ a b,[V.int i,V.int j]=[.int a,.int b]/\R a b:=⟨_,_,rfl,h⟩
theorem oA {x:V} {T:String} {t:Value} {b:Bool} (ty:TyOf K H x t) (e:PySem.W.kitOne K t (.type T)=some b) (h:Q (.bl b) H):R8 K [x,.ty T] H Q:=⟨x,T,t,b,rfl,ty,e,h⟩
theorem Cj {sep:Str} {p:Addr} {ys:List Str} (hp:H p=some (.lst (ys.map V.str))) (hz:(ys.map (·.length)).sum+ys.length*sep.length<=16777216) (h:Q (.str (Txt.join sep ys)) H):rJoin (.str sep) [.ref p] H Q:=⟨sep,p,ys,rfl,rfl,hp,hz,h⟩
theorem V0 {x:Str} {lo hi:Option Int} (hz:x.length<=sizeLine) (h:Q (.str (Txt.slice x lo hi)) H):Xd K (.str x) lo hi H Q:=.inr (.inr ⟨x,rfl,hz,h⟩)
theorem Qu {p:Addr} {xs:List V} {lo hi:Option Int} (s:SqL K H p xs) (h:∀ q,H q=none->Q (.ref q) (upd H q (.lst (oh xs lo hi)))):Xd K (.ref p) lo hi H Q:=.inl ⟨p,xs,rfl,s,h⟩
end
section
variable {U:St} {H:Hp} {Q:VK}
theorem Nz {K:W.Frag} {a:Addr} {xs:List V} (s:SqL K H a xs) (h:∀ p,H p=none->Q (.ref p) (upd H p (.lst xs))):Jl K [.ref a] H Q:=.inl ⟨a,xs,rfl,.inl s,h⟩
end
theorem TyOf.mono {K:W.Frag} {H H':Hp} {v:V} {T:String} (h:TyOf K H v (.type T)) (s:∀ b o,H b=some o->v= .ref b->H' b=some o):TyOf K H' v (.type T):=by
 generalize e:(Value.type T)=t at h
 cases h with
 | non=>exact .non
 | bl x=>exact .bl x
 | int i=>exact .int i
 | str x=>exact .str x
 | flt x=>exact .flt x
 | lst z=>exact .lst (s _ _ z rfl)
 | frz z=>exact .frz (s _ _ z rfl)
 | tup z=>exact .tup (s _ _ z rfl)
 | dK z=>exact .dK (s _ _ z rfl)
 | dT z=>exact .dT (s _ _ z rfl)
 | ins=>cases e
theorem vN {sub:List (Option Nat)} {g:TG} {tt:TT} {te:TE} {U:St} {Q:VK} {H:Hp} {lo:Int} {n:Nat} (Pv:Nat->List V->Hp->Prop) (hn:n<=sizeLine) (h0:Pv 0 [] H) (hl:∀ i ys H,Pv i ys H->ys.length<=i)
  (hs:∀ i ys H,i < n->Pv i ys H->g (.int (lo+i)) (eY sub U) H fun σ2 H2=>KeepSt (eY sub U) σ2/\tt σ2 H2 fun b H3=>if b=true then te σ2 H3 fun y H4=>Pv (i+1) (ys ++ [y]) H4 else Pv (i+1) ys H3)
  (hd:∀ ys H,Pv n ys H->∀ D,H D=none->Q (.ref D) (upd H D (.lst ys))):rM sub g tt te U Q (HR lo n) H:=
 uZ (n:=n) Pv hn h0 hl (fun i ys H hi _=>hi) (fun ys H _=>Xp _) (fun i ys H x H' hi p y=>by
  obtain ⟨e1,e2⟩:=y
  subst e1 e2
  exact hs i ys _ hi p) hd
theorem Js {sub:List (Option Nat)} {g:TG} {tt:TT} {te:TE} {U:St} {Q:VK} {H:Hp} {z:Str} (Pv:Nat->List V->Hp->Prop) (hn:z.cps.size<=sizeLine) (h0:Pv 0 [] H) (hl:∀ i ys H,Pv i ys H->ys.length<=i)
  (hs:∀ i ys H c,z.cps.toList[i]?=some c->Pv i ys H->g (.str ⟨#[c]⟩) (eY sub U) H fun σ2 H2=>KeepSt (eY sub U) σ2/\tt σ2 H2 fun b H3=>if b=true then te σ2 H3 fun y H4=>Pv (i+1) (ys ++ [y]) H4 else Pv (i+1) ys H3)
  (hd:∀ ys H,Pv z.cps.size ys H->∀ D,H D=none->Q (.ref D) (upd H D (.lst ys))):rM sub g tt te U Q (VD z) H:=
 uZ (n:=z.cps.size) Pv hn h0 hl (fun i ys H hi _=>hi) (fun ys H _=>rfl) (fun i ys H x H' hi p y=>by
  obtain ⟨e1,c,e2,e3⟩:=y
  subst e1 e3
  exact hs i ys _ c (by simpa using e2) p) hd
theorem Gn {sub:List (Option Nat)} {g:TG} {tt:TT} {te:TE} {U:St} {Q:VK} {H:Hp} {K:W.Frag} {a:Addr} {xs:List V} (Pv:Nat->List V->Hp->Prop) (hn:xs.length<=sizeLine) (h0:Pv 0 [] H) (hl:∀ i ys H,Pv i ys H->ys.length<=i)
  (hq:∀ i ys H,Pv i ys H->SqL K H a xs)
  (hs:∀ i ys H x,xs[i]?=some x->Pv i ys H->g x (eY sub U) H fun σ2 H2=>KeepSt (eY sub U) σ2/\tt σ2 H2 fun b H3=>if b=true then te σ2 H3 fun y H4=>Pv (i+1) (ys ++ [y]) H4 else Pv (i+1) ys H3)
  (hd:∀ ys H,Pv xs.length ys H->∀ D,H D=none->Q (.ref D) (upd H D (.lst ys))):rM sub g tt te U Q (Qm K a) H:=
 uZ (n:=xs.length) Pv hn h0 hl (fun i ys H hi p=>⟨xs,xs[i],hq i ys H p,Xk hi⟩) (fun ys H p=>⟨xs,hq _ ys H p,Xp _⟩) (fun i ys H x H' hi p y=>by
  obtain ⟨e1,e2⟩:=y
  subst e1
  exact hs i ys _ x (e2 xs (hq i ys _ p)) p) hd
structure JE (X:Cx) (e:Expr) (t:TE):Prop where
 run:PE X e t
structure JT (X:Cx) (e:Expr) (t:TT):Prop where
 run:PT X e t
structure JW (X:Cx) (e:Expr) (t:TT):Prop where
 run:PW X e t
structure JA (X:Cx) (es:List Expr) (t:TA):Prop where
 run:PA X es t
structure JS (X:Cx) (s:Stmt) (t:TS):Prop where
 run:PS X s t
structure JB (X:Cx) (s:List Stmt) (t:TS):Prop where
 run:PSs X s t
structure JI (X:Cx) (tg iter:Expr) (t:TI):Prop where
 run:PI X tg iter t
structure JG (X:Cx) (tg:Expr) (t:TG):Prop where
 run:PG X tg t
structure V1 (X:Cx) (tg:List Expr) (t:Bq):Prop where
 run:UT X tg t
structure JO (X:Cx) (e:Option Expr) (t:TO):Prop where
 run:PO X e t
structure Tc (X:Cx) (ifs:List Expr) (t:TT):Prop where
 run:BW X ifs t
section
variable {X:Cx} {K:W.Frag} {sc scope:Scope} {N':List Str} {C:Addr} {s₀:Shared} {H₀:Hp} {ex:List Addr} {x:Str} {pos p p2 pos' apos cpos tpos:Pos} {a b c e o:Expr} {es:List Expr} {ta tb tc te to ti:TE} {t:TA} {tA tB' tt:TT} {rest:List Expr}
theorem Jt (i:Nat) (h:sc.names.lookup x=some .local) (hN:autoParam (X.N[i]?=some x) L2.auto4._auto_1) (hsc:autoParam (X.env.scope=sc) L2.auto4._auto_1) (hd:autoParam ((x == ("__debug__":Str))=false) L2.auto6._auto_1) (hcd:autoParam ((x == ("__classdict__":Str))=false) L2.auto6._auto_1):JE X (.Name x pos) (qi i):=⟨pvL i h hN hsc hd hcd⟩
theorem j_vC (i:Nat) (h:sc.names.lookup x=some .cell) (hN:autoParam (X.N[i]?=some x) L2.auto4._auto_1) (hsc:autoParam (X.env.scope=sc) L2.auto4._auto_1) (hd:autoParam ((x == ("__debug__":Str))=false) L2.auto6._auto_1) (hcd:autoParam ((x == ("__classdict__":Str))=false) L2.auto6._auto_1):JE X (.Name x pos) (qi i):=⟨pvC i h hN hsc hd hcd⟩
theorem vO (i:Nat) (h:scope.names.lookup x=some .local) (hN:autoParam (N'[i]?=some x) L2.auto4._auto_1) (hd:autoParam ((x == ("__debug__":Str))=false) L2.auto6._auto_1) (hcd:autoParam ((x == ("__classdict__":Str))=false) L2.auto6._auto_1):JE (rD X N' scope C s₀ H₀ ex) (.Name x pos) (qi i):=⟨pvBL i h hN hd hcd⟩
theorem xO (i:Nat) (h:scope.names.lookup x=some .free) (hN:autoParam (N'[i]?=some x) L2.auto4._auto_1) (hd:autoParam ((x == ("__debug__":Str))=false) L2.auto6._auto_1) (hcd:autoParam ((x == ("__classdict__":Str))=false) L2.auto6._auto_1):JE (rD X N' scope C s₀ H₀ ex) (.Name x pos) (qi i):=⟨pvBF i h hN hd hcd⟩
theorem aB {i j}:JE X (.Constant (.int i) j pos) (tC (.int i)):=⟨Q5⟩
theorem yC {i j}:JE X (.Constant (.bool i) j pos) (tC (.bl i)):=⟨Vd⟩
theorem vP {j}:JE X (.Constant .none j pos) (tC .non):=⟨Q6⟩
theorem xP {i j}:JE X (.Constant (.str i) j pos) (tC (.str i)):=⟨Q7⟩
theorem qp {z:Str} (hg:Gl X x) (hm:∃ t,X.mg x=some (.str z t)) (hd:(x == ("__debug__":Str))=false):JE X (.Name x pos) (tC (.str z)):=⟨Jj hg hm hd⟩
theorem yD {z:Int} (hg:Gl X x) (hm:∃ t,X.mg x=some (.int z t)) (hd:(x == ("__debug__":Str))=false):JE X (.Name x pos) (tC (.int z)):=⟨Jk hg hm hd⟩
theorem yE {T:String} (hg:Gl X x) (hm:X.mg x=none) (hv:bootBuiltins x=some (.type T)) (hn:x≠"__name__") (hd:(x == ("__debug__":Str))=false):JE X (.Name x pos) (tC (.ty T)):=⟨VH hg hm hv hn hd⟩
theorem bf {op:Operator} {r:R2} (ho:OpR X (binaryOp op) r) (ha:JE X a ta) (hb:JE X b tb):JE X (.BinOp a op b pos) (HY r ta tb):=⟨Vh ho ha.run hb.run⟩
theorem lA {op:CmpOp} {r:R2} (ho:OpR X (compareOp op) r) (ha:JE X a ta) (hb:JE X b tb) (hm:behindInMarks op b=false):JE X (.Compare a [op] [b] pos) (HY r ta tb):=⟨MF ho ha.run hb.run hm⟩
theorem bB {op:CmpOp} {r:R2} (ho:OpR X (compareOp op) r) (ha:JE X a ta) (hb:JE X b tb) (hm:behindInMarks op b=false):JT X (.Compare a [op] [b] pos) (Dw (HY r ta tb)):=⟨MJ ho ha.run hb.run hm⟩
theorem Ea (ha:JT X a tA):JW X (.BoolOp .And [a] pos) tA:=⟨Mj ha.run⟩
theorem tH (ha:JT X a tA):JW X (.BoolOp .Or [a] pos) tA:=⟨Ra ha.run⟩
theorem Ju (ha:JT X a tA) (hb:JW X (.BoolOp .And (b :: rest) pos) tB'):JW X (.BoolOp .And (a :: b :: rest) pos) (Mi tA tB'):=⟨Rb ha.run hb.run⟩
theorem xQ (ha:JT X a tA) (hb:JW X (.BoolOp .Or (b :: rest) pos) tB'):JW X (.BoolOp .Or (a :: b :: rest) pos) (tOr tA tB'):=⟨Ve ha.run hb.run⟩
theorem uA (h:JW X e tt):JT X e tt:=⟨h.run.pt⟩
theorem iC (ha:JT X a tA):JT X (.UnaryOp .Not a pos) (Q9 tA):=⟨Rc ha.run⟩
def plainT:Expr->Bool
 | .BoolOp ..=>false | .UnaryOp ..=>false | .Compare ..=>false | .IfExp ..=>false | _=>true
theorem jE (h:JE X e te) (hp:autoParam (plainT e=true) L2.auto4._auto_1):JT X e (tB te):=⟨Q8 h.run (by
 intro whole
 cases e <;> first | rfl | cases hp)⟩
theorem rU {op} (h:JE X a te):JE X (.BoolOp op [a] pos) te:=⟨Rg h.run⟩
theorem oE (ha:JE X a ta) (hb:JE X (.BoolOp .And (b :: rest) pos) tb):JE X (.BoolOp .And (a :: b :: rest) pos) (Hu ta tb):=⟨Rh ha.run hb.run⟩
theorem j_or (ha:JE X a ta) (hb:JE X (.BoolOp .Or (b :: rest) pos) tb):JE X (.BoolOp .Or (a :: b :: rest) pos) (Rf ta tb):=⟨Vf ha.run hb.run⟩
theorem V2 (ha:JE X a ta):JE X (.UnaryOp .Not a pos) (Hv ta):=⟨Ri ha.run⟩
theorem NB (hc:JT X c tA) (ha:JE X a ta) (hb:JE X b tb):JE X (.IfExp c a b pos) (tIf tA ta tb):=⟨Hw hc.run ha.run hb.run⟩
theorem uB {x1} (h:JA X es t):JE X (.Tuple es x1 pos) (Nb t):=⟨RN h.run⟩
theorem fM (h:JA X es t):JE X (.List es pos) (Nf t):=⟨RP h.run⟩
theorem ao:JA X [] MP:=⟨RM⟩
theorem aa (ha:JE X e te) (hr:JA X es t) (h:autoParam (notStar e=true) L2.auto4._auto_1):JA X (e :: es) (Dz te t):=⟨paC ha.run hr.run h⟩
theorem gb:JO X none yp:=⟨Nh⟩
theorem fB (h:JE X e te):JO X (some e) (Iu te):=⟨Ni h.run⟩
theorem fO {r:V->Option Int->Option Int->Hp->VK->Prop} {lo hi:Option Expr} {tl th:TO} (hr:SlR X r) (he:JE X e te) (hl:JO X lo tl) (hu:JO X hi th):JE X (.Subscript e (.Slice lo hi none p2) pos) (tSl r te tl th):=⟨Iv hr he.run hl.run hu.run⟩
theorem bx (hK:X.K=K) (ha:JE X a ta) (hb:JE X b tb) (h:autoParam (rO b=true) L2.auto4._auto_1):JE X (.Subscript a b pos) (HY (Qo K) ta tb):=⟨ixE hK ha.run hb.run h⟩
theorem aO {k:Nat} {ps:List Str} {sp:Sp} (F:nQ X.prog X.w X.K X.mg X.base k x ps sp) (hr:Room k X.A) (hg:Gl X x) (ha:JA X (e :: es) t) (hdb:(x == ("__debug__":Str))=false) (h:autoParam ((e :: es).all notStar=true) L2.auto4._auto_1):
  JE X (.Call (.Name x p) (e :: es) [] pos) (xu sp [] E0 t):=⟨VJ F hr hg ha.run hdb h⟩
theorem aL {id:String} {r:List V->Hp->VK->Prop} (hc:CallR X (.builtin id) r) (hg:Gl X x) (hm:X.mg x=none) (hv:bootBuiltins x=some (.builtin id)) (ha:JA X (e :: es) t) (hn:x≠"__name__") (hdb:(x == ("__debug__":Str))=false) (h:autoParam ((e :: es).all notStar=true) L2.auto4._auto_1):
  JE X (.Call (.Name x p) (e :: es) [] pos) (RV r t):=⟨VL hc hg hm hv ha.run hn hdb h⟩
theorem Jv {T:String} {r:List V->Hp->VK->Prop} (hc:CallR X (.type T) r) (hg:Gl X x) (hm:X.mg x=none) (hv:bootBuiltins x=some (.type T)) (ha:JA X (e :: es) t) (hn:x≠"__name__") (hdb:(x == ("__debug__":Str))=false) (h:autoParam ((e :: es).all notStar=true) L2.auto4._auto_1):
  JE X (.Call (.Name x p) (e :: es) [] pos) (RV r t):=⟨Sw hc hg hm hv ha.run hn hdb h⟩
theorem ie {name:Str} {T id:String} {r:V->List V->Hp->VK->Prop} (hK:X.K=K) (pa:PlainAttrs T) (slot:Slot T name id) (hty:typeOf (.builtin id)=pure (.type "method_descriptor")) (hm:Vo X id r) (ho:JE X o to) (ha:JA X (e :: es) t)
  (hbase:autoParam (rP o=true) L2.auto4._auto_1) (hl:autoParam (es.length < 20) L2.auto2._auto_1) (hline:autoParam ((apos.endLine == cpos.line)=true) L2.auto4._auto_1) (h:autoParam ((e :: es).all notStar=true) L2.auto4._auto_1):JE X (.Call (.Attribute o name apos) (e :: es) [] cpos) (Vu K T r to t):=⟨VN hK pa slot hty hm ho.run ha.run hbase hl hline h⟩
theorem lB:Tc X [] Ja:=⟨Jb⟩
variable {tg iter elt:Expr} {ifs:List Expr} {sub:List (Option Nat)} {wi:TI} {g:TG} {N:List Str}
theorem pB {ta:TA} (hg:Gl X "range") (hm:X.mg "range"=none) (ha:JA X [a] ta) (h:autoParam (notStar a=true) L2.auto4._auto_1):JI X tg (.Call (.Name "range" p) [a] [] pos) (HS ta):=⟨Fw hg hm ha.run (bC h)⟩
theorem Gp {ta:TA} (hg:Gl X "range") (hm:X.mg "range"=none) (ha:JA X [a,b] ta) (h:autoParam (notStar a=true) L2.auto4._auto_1) (h2:autoParam (notStar b=true) L2.auto4._auto_1):JI X tg (.Call (.Name "range" p) [a,b] [] pos) (HW ta):=⟨Fx hg hm ha.run (by rw [bC h,bC h2];rfl) (by rw [bC h2];rfl)⟩
theorem qt (hK:X.K=K) (hl:JE X e te):JI X tg e (Nr K te):=⟨Nu hK hl.run⟩
theorem aZ {i:Nat} (hN:X.N.Nodup) (hi:X.N[i]?=some x) (hx:Loc X.env.scope x) (hf:X.fn x=true):JG X (.Name x pos) (qd i):=⟨Dq hN hi hx (.inl hf)⟩
theorem zW (i:Nat) (h:scope.names.lookup x=some .local) (hN:N'.Nodup) (hi:autoParam (N'[i]?=some x) L2.auto4._auto_1):JG (rD X N' scope C s₀ H₀ ex) (.Name x pos) (qd i):=⟨pgB i h hN hi⟩
theorem iz:V1 X [] Ro:=⟨Ms⟩
theorem aX {gs:Bq} (h1:JG X e g) (h2:V1 X es gs) (hs:autoParam ((assignEach (e :: es) X.env).map (·.2)=assign e X.env :: (assignEach es X.env).map (·.2)) L2.auto4._auto_1):V1 X (e :: es) (HD g gs):=⟨HF h1.run h2.run hs⟩
theorem lQ {ts:List Expr} {k:Nat} {gs:Bq} {n:Nat} (hK:X.K=K) (hc:X.calm=true) (h:V1 X ts gs) (hn:autoParam ((assignEach ts X.env).length=n) L2.auto4._auto_1) (hst:autoParam ((assignEach ts X.env).findIdx? (·.1)=none) L2.auto4._auto_1):JG X (.Tuple ts k pos) (Mt K n gs):=⟨Nx hK hc h.run hn hst⟩
theorem jV {ts:Br} (ho:JE X a ta) (hi:JE X b tb) (hs:Mr X ts) (h:autoParam (rO b=true) L2.auto4._auto_1):JG X (.Subscript a b pos) (Rp ta tb ts):=⟨Rq ho.run hi.run hs (by
 intro v
 cases b <;> first | rfl | cases h)⟩
theorem qu (S:ux N sc N' scope sub) (hc:X.calm=true) (hN:X.N=N) (hsc:X.env.scope=sc) (hi:JI X tg iter wi)
  (hg:∀ (C:Addr) (s₀:Shared) (H₀:Hp) (ex:List Addr),JG (rD X N' scope C s₀ H₀ ex) tg g)
  (ht:∀ (C:Addr) (s₀:Shared) (H₀:Hp) (ex:List Addr),Tc (rD X N' scope C s₀ H₀ ex) ifs tt)
  (he:∀ (C:Addr) (s₀:Shared) (H₀:Hp) (ex:List Addr),JE (rD X N' scope C s₀ H₀ ex) elt te) (h:autoParam (tG iter=true) L2.auto4._auto_1):
  JE X (.ListComp elt [⟨tg,iter,ifs,0⟩] scope pos) (vH sub wi g tt te):=⟨VV S hc hN hsc hi.run (fun C s₀ H₀ ex=>(hg C s₀ H₀ ex).run) (fun C s₀ H₀ ex=>(ht C s₀ H₀ ex).run) (fun C s₀ H₀ ex=>(he C s₀ H₀ ex).run) h⟩
variable {st:Stmt} {sts:List Stmt} {u v:TS}
theorem aH {i:Nat} (hN:X.N.Nodup) (hi:X.N[i]?=some x) (hx:Loc X.env.scope x) (he:JE X e te) (hf:X.fn x=true) (h:autoParam (jM e=true) L2.auto4._auto_1):JS X (.Assign [.Name x pos'] e pos) (ym te (qd i)):=⟨VP hN hi hx he.run hf h⟩
theorem jd {ts:Br} (he:JE X e te) (hg:JG X (.Subscript a b pos') g) (h:autoParam (jM e=true) L2.auto4._auto_1):JS X (.Assign [.Subscript a b pos'] e pos) (ym te g):=⟨HJ he.run hg.run (by show swapsWith e (some (.Subscript a b pos')) pos.line X.env=pure false;exact xN h) (by cases e <;> rfl) rfl⟩
theorem aJ (he:JE X e te):JS X (.Return (some e) pos) (Rk te):=⟨Rm he.run⟩
theorem bh (he:JE X e te) (h:autoParam (jM e=true) L2.auto4._auto_1):JS X (.Expr e pos) (Dp te):=⟨Sy he.run h⟩
theorem bZ {sa sb:List Stmt} (hc:JT X c tt) (ha:JB X sa u) (hb:JB X sb v):JS X (.If c sa sb pos) (Rn tt u v):=⟨Vg hc.run ha.run hb.run⟩
theorem je {body:List Stmt} (hp:PassesOwn (model X.prog X.w) X.A X.env X.xe) (hc:X.calm=true) (hi:JI X tg iter wi) (hg:JG X tg g) (hb:JB X body u) (h:autoParam (tG iter=true) L2.auto4._auto_1):JS X (.For tg iter body [] pos) (Mu wi g u):=⟨VR hp hc hi.run hg.run hb.run h⟩
theorem Jw {body:List Stmt} (hp:PassesOwn (model X.prog X.w) X.A X.env X.xe) (hc:JT X c tt) (hb:JB X body u):JS X (.While c body [] pos) (Bs tt u):=⟨HQ hp hc.run hb.run⟩
theorem rW:JS X st Hz:=⟨HB⟩
theorem bJ:JB X [] Hx:=⟨Ml⟩
theorem aA (h:JS X st u):JB X [st] u:=⟨Mm h.run⟩
theorem aq (h:JS X st u) (h2:JB X sts v):JB X (st :: sts) (Rj u v):=⟨Hy h.run h2.run⟩
end
section
variable {P:Program} {w:World} {K:W.Frag} {mg:Str->Option Value} {base:Heap}
theorem ir {x:Str} {st:Stmt} {N ps:List Str} {k:Nat} {sp:Sp} (D:fQ K mg x st) (S:aD N ps (az st))
  (hb:∀ (kV doc pm:Value) (an:Option Addr) (cdv ct:Value) (us:List Value),us.length=ps.length->bindArgs (PySem.W.fnOf x x (f9 st) (b8 st) (az st) .none kV doc pm an cdv ct) ⟨us,[]⟩=pure (ps.zip us))
  (len:∀ vs H Q E,sp vs H Q E->vs.length=ps.length)
  (hbody:∀ (f:Addr) (cdv:Value) (A:Around) (outer:List Env) (s:Shared) (H:Hp) (vs:List V) (Q:VK) (E:XK),Room k (A.deeper (envOfC x (az st) s.heap.objs.size f cdv))->sp vs H Q E->
   ∃ t,JB (ql Gf P w K mg base N x (az st) f cdv A outer s H E).nox (b8 st) t/\t {nx:=fun _ H'=>Q .non H',rt:=Q} (start N vs) H):nQ P w K mg base (k+1) x ps sp:=
 R9 D S hb len fun f cdv A outer s H vs Q E hr h=>let ⟨t,j,q⟩:=hbody f cdv A outer s H vs Q E hr h;⟨t,j.run,q⟩
theorem okJ {x:Str} {st:Stmt} {N ps:List Str} {k:Nat} {sp:Sp} {f:Addr} {fd:FuncData} (F:Fun K x x st f fd) (S:aD N ps (az st)) (len:∀ vs H Q E,sp vs H Q E->vs.length=ps.length)
  (hbody:∀ (f:Addr) (cdv:Value) (A:Around) (outer:List Env) (s:Shared) (H:Hp) (vs:List V) (Q:VK) (E:XK),Room k (A.deeper (envOfC x (az st) s.heap.objs.size f cdv))->sp vs H Q E->
   ∃ t,JB (ql Gf P w K mg base N x (az st) f cdv A outer s H E).nox (b8 st) t/\t {nx:=fun _ H'=>Q .non H',rt:=Q} (start N vs) H):FnOk P w K mg base Gf (k+1) f fd ps sp:=
 F.ok S len fun cdv A outer s H vs Q E hr h=>let ⟨t,j,q⟩:=hbody f cdv A outer s H vs Q E hr h;⟨t,j.run,q⟩
end
theorem mF {K:W.Frag} {mg:Str->Option Value} {h:Heap} (X:K.In h) (G:h.Ns mainGlobals mg) {x:Str} {v:Value} {f:Tok->Value} (a:PySem.W.nsIn K mainGlobals x=some (some v)) (e:∃ t,v=f t):∃ t,mg x=some (f t):=by
 obtain ⟨t,rfl⟩:=e
 exact ⟨t,Zr X G a⟩
theorem V3 {l:PySem.W.OpenLaw} {q:Program} {loose:List Str} {XP:(Str->Option Value)->Heap->Prop} {YP:World->Heap->Prop} {d:DefRec} {K:Params->W.Frag} {st:Stmt} {k:Nat} {sp:W.Frag->Sp} {x:Str}
  (hn:l.most=some 63) (hdf:d.params.defaults=[]) (hdn:d.name="law") (hk:Room k callerA) (hY:∀ (w:World) (h:Heap),YP w h->(K w.params).In h)
  (hb:∀ (kV doc pm:Value) (an:Option Addr) (cdv ct:Value) (us:List Value),us.length=[x].length->bindArgs (PySem.W.fnOf "law" "law" (f9 st) (b8 st) (az st) .none kV doc pm an cdv ct) ⟨us,[]⟩=pure ([x].zip us))
  (F:∀ (w:World) (mg:Str->Option Value) (h:Heap),(K w.params).In h->h.Ns mainGlobals mg->fQ (K w.params) mg "law" st/\∀ (base:Heap) (f:Addr) (fd:FuncData),Fun (K w.params) "law" "law" st f fd->FnOk l.prog w (K w.params) mg base Gf k f fd [x] (sp (K w.params)))
  (hsp:∀ (K:W.Frag) (H:Hp) (a:Addr) (ns:List Int),ns.length<=63->SqL K H a (ns.map V.int)->sp K [.ref a] H (fun v _=>v= .bl true) fun _ _ _=>False) (him:autoParam (importsNone q=true) L2.auto6._auto_1):
  PySem.W.WalkO q loose XP YP l.row.toRowW d [] (fun f vs=>PySem.call f vs):=
 L2.Np (n:=63) (k:=k) (x:=x) (CX:=fun _=>Gf) (sp:=fun w=>sp (K w.params)) hn (by decide) hdf hk hY (fun w mg fa h X G e=>by
  obtain ⟨⟨f,fd,Fn,hm⟩,ok⟩:=F w mg h X G
  rw [hdn,hm] at e
  have ef:f=fa:=by injection (XS e)
  subst ef
  refine ⟨fd,fun s u=>?_,fun base _ _=>ok base f fd Fn⟩
  obtain ⟨oc,od,kV,doc,pm,an,cdv,ct,osl,rfl,lk,hcd⟩:=Fn.ex
  exact .of_eq (hb kV doc pm an cdv ct [u] rfl)) (fun w H a ns hl _ hS=>hsp _ H a ns hl hS) (fun _ _ _ _ _ z=>z) him
def Td (xs:Nat->List V) (n:Nat):It:=⟨fun i _=>i < n,fun i H v H'=>∃ T,H T=none/\v= .ref T/\H'=upd H T (.tup (xs i)),fun i _=>i=n⟩
theorem Te {P:Program} {w:World} {K:W.Frag} {elts:List Expr} {k:Nat} {pos:Pos} {it:Addr} {fp wr:List Addr} {n:Nat} {xs:Nat->List V} {Pt:Nat->Array Value->Prop} {St:Nat->Heap->Prop} {Mid:Nat->Addr->Heap->Prop}
  (W:∀ A:Around,A.handled=none->WalksT P w A it fp wr n Pt St Mid) (hxs:∀ i,(xs i).length<=sizeLine) (hPt:∀ i vals,Pt i vals->Vals (xs i) vals.toList) (hmem:it∈fp)
  (hobj:∀ i h,St i h->∀ b∈fp,∃ o,h.get? b=some o/\∀ v,o.data≠.cell v)
  (hself:∀ (A:Around) (i:Nat) (s:Shared) (Q:Value->Shared->Prop) (E:Value->Shared->Prop),St i s.heap->Q (.ref it) s->wpAny (model P w) A (pyIter (.ref it)) Q E s):
  Turn P w K (.Tuple elts k pos) (Td xs n) fp it St where
 mem:=hmem
 obj:=hobj
 keep:=fun i h h' st kk=>(W {} rfl).frame i h h' st kk
 item:=by
  intro X hP hw hK hc i pins s U H E I hf st hg
  subst hP hw hK
  have W':=W X.A (I.ok.hd hc)
  refine W'.item i s _ _ hg st fun T vals h' tk hPv hT isT mid kk=>?_
  refine ⟨.ref T,rfl,W'.go elts k pos i T _ _ _ mid fun h'' st'' kk2=>?_⟩
  have hTn:H T=none:=I.hok.fresh hT
  have hTw:T ∉ wr:=W'.apart i T h' mid
  have kall:∀ b o,b ∉ wr->s.heap.get? b=some o->h''.get? b=some o:=fun b o hb e=>kk2 b o hb (kk b o hb e)
  have nT:∀ b o,s.heap.get? b=some o->b≠T:=fun b o e=>Yh (XN (Xr e) hT)
  have nTH:∀ b u,H b=some u->b≠T:=fun b u e z=>by rw [z,hTn] at e;cases e
  have nW:∀ b u,H b=some u->b ∉ wr:=fun b u e hb=>by rw [(hf b (W'.sub b hb)).1] at e;cases e
  have isT':h''.IsTuple T vals:=by
   obtain ⟨o,ho,r⟩:=isT
   exact ⟨o,kk2 T o hTw ho,r⟩
  have hlT:∃ o,h''.get? T=some o:=let ⟨o,ho,_⟩:=isT';⟨o,ho⟩
  have I':Inv X pins U (upd H T (.tup (xs i))) {s with heap:=h'',toks:=tk}:=by
   refine I.step (g':=s.gens) (d':=s.drawn) (ch:=wr) (fun b hb=>?_) (fun b o _ _ hc e _=>kall b o hc e) (fun b o _ _ hc e _=>⟨o.slots,kall b o hc e⟩) (fun b o _ e hn=>by rw [aC (nT b o e)];exact hn)
    (fun b o hc e=>⟨o,kall b o hc e⟩) (fun b ys e=>by rw [aC (nTH b _ e)];exact e) (fun b o u e=>by rw [aC (nTH b _ e)];exact e) (fun b ps e=>⟨#[],by rw [aC (nTH b _ e),e];simp⟩) (fun m hm=>?_) (fun b u e=>?_) I.bare
   ·obtain ⟨f0,f1,f2,f3,f4,f5⟩:=hf b (W'.sub b hb)
    exact ⟨f3,f1,f4,f5⟩
   ·obtain ⟨o,es,ep,ho,r⟩:=hm
    exact ⟨o,es,ep,kall _ o (fun hb=>(hf _ (W'.sub _ hb)).2.1 rfl) ho,r⟩
   ·by_cases hb:b=T
    ·subst hb
     rw [aj] at e;cases e
     obtain ⟨o,ho,hcl,nn,hd⟩:=isT'
     exact ⟨hxs i,vals.toList,hPt i vals hPv,o,ho,hcl,nn,by simpa using hd⟩
    ·rw [aC hb] at e
     refine (I.hok b u e).stay (fun c v hc' q=>kall c v ?_ q) (fun c q=>by rw [aC (nTH c _ q)];exact q) fun c ys q=>by rw [aC (nTH c _ q)];exact q
     rcases hc' with z | z
     ·rw [z];exact nW b u e
     ·exact nW c _ z
  refine ⟨.ref T,upd H T (.tup (xs i)),I',rfl,⟨T,hTn,rfl,rfl⟩,st'',fun b hb=>?_⟩
  obtain ⟨o,e,_⟩:=hobj i _ st b hb
  rw [aC (nT b o e)]
  exact (hf b hb).1
 done:=by
  intro X hP hw hK hc i pins s U H E I hf st hg
  subst hP hw hK
  have W':=W X.A (I.ok.hd hc)
  have hg:i=n:=hg
  subst hg
  refine W'.done s _ _ st fun h' tk kk=>⟨rfl,?_⟩
  have nW:∀ b u,H b=some u->b ∉ wr:=fun b u e hb=>by rw [(hf b (W'.sub b hb)).1] at e;cases e
  refine I.step (g':=s.gens) (d':=s.drawn) (ch:=wr) (fun b hb=>?_) (fun b o _ _ hc e _=>kk b o hc e) (fun b o _ _ hc e _=>⟨o.slots,kk b o hc e⟩) (fun b o _ e hn=>hn)
    (fun b o hc e=>⟨o,kk b o hc e⟩) (fun b ys e=>e) (fun b o u e=>e) (fun b ps e=>⟨#[],by rw [e];simp⟩) (fun m hm=>?_) (fun b u e=>?_) I.bare
  ·obtain ⟨f0,f1,f2,f3,f4,f5⟩:=hf b (W'.sub b hb)
   exact ⟨f3,f1,f4,f5⟩
  ·obtain ⟨o,es,ep,ho,r⟩:=hm
   exact ⟨o,es,ep,kk _ o (fun hb=>(hf _ (W'.sub _ hb)).2.1 rfl) ho,r⟩
  ·refine (I.hok b u e).stay (fun c v hc' q=>kk c v ?_ q) (fun c q=>q) fun c ys q=>q
   rcases hc' with z | z
   ·rw [z];exact nW b u e
   ·exact nW c _ z
 self:=hself
def nM (x:Str) (i:Nat):List V:=[.int i,.str ⟨#[x.cps.getD i 0]⟩]
section
variable {prog:Program} {w:World} {A:Around} {E:Value->Shared->Prop} {s:Shared}
theorem vQ {it l:Addr} {items:Array Value} (hne:l≠it):∀ (n i:Nat) (s:Shared) (Q:List Value->Shared->Prop),s.heap.IsListIter it l i->s.heap.IsList l items->i+n<=items.size->
  (∀ h',h'.IsListIter it l (i+n)->Heap.SameBut it s.heap h'->Q ((items.toList.drop i).take n) {s with heap:=h'})->wpAny (model prog w) A (draw (.ref it) n) Q E s
 | 0,i,s,Q,hit,_,_,hQ=>by
  show wpAny _ _ (pure []) Q E s
  exact Xo (by simpa using hQ s.heap hit (Heap.SameBut.refl ..))
 | n+1,i,s,Q,hit,ht,hle,hQ=>by
  have hlt:i < items.size:=by omega
  show wpAny _ _ (pyNext (.ref it) >>=_) Q E s
  refine Xj (wpAny_pyNext_list_item hit ht (x:=items[i]) (by simp [hlt]) fun h₁ hit₁ hs₁=>?_)
  refine Xj (Yq (vQ hne n (i+1) _ _ hit₁ (ht.extBut hs₁.extBut hne) (by omega) fun h₂ hit₂ hs₂=>Xo ?_))
  have hd:items.toList.drop i=items[i] :: items.toList.drop (i+1):=by simp [List.drop_eq_getElem_cons,hlt]
  have:=hQ h₂ (by rw [show i+(n+1)=i+1+n by omega];exact hit₂) (hs₁.trans hs₂)
  rw [hd,List.take_succ_cons] at this
  exact this
theorem rY {l:Addr} {items:Array Value} {Q:List Value->Shared->Prop} (hh:A.handled=none) (ht:s.heap.IsList l items)
  (hQ:∀ h',Heap.ExtBut s.heap.objs.size s.heap h'->Q items.toList {s with heap:=h'}):wpAny (model prog w) A (unpackItems (.ref l) items.size none) Q E s:=by
 have hlt:l≠s.heap.objs.size:=by obtain ⟨o,ho,_⟩:=ht;exact Yh (Xr ho)
 unfold unpackItems
 refine Xj ?_
 ·unfold notIterableAtAll
  refine Xj (wpAny_specialOf ht.typeIs slot_list_iter.lookup ?_)
  refine Xo ?_
  simp only [ZQ,if_false]
  refine Xj (Yq (wpAny_pyIter_list ht ?_))
  refine Xj (Yq (vQ hlt items.size 0 _ _ ⟨_,Xy _ rfl,rfl,rfl⟩ (let ⟨o,ho,r⟩:=ht;⟨o,Xm _ ho,r⟩) (by omega) fun h₁ hit₁ hs₁=>?_))
  have hall:List.take items.size (List.drop 0 items.toList)=items.toList:=by
   rw [List.drop_zero];exact Ym (by simp)
  rw [hall]
  rw [if_neg (by simp)]
  have ht₁:h₁.IsList l items:=by
   have:(s.heap.push {cls:=.type "list_iterator",data:=.fields #[.ref l,.int 0 0]}).IsList l items:=let ⟨o,ho,r⟩:=ht;⟨o,Xm _ ho,r⟩
   exact this.extBut hs₁.extBut hlt
  refine Xj (Yq (wpAny_pyNext_list_end hh hit₁ ht₁ (by simp) fun h₂ he₂=>?_))
  simp only [Option.isSome_none,ZQ,if_false]
  refine Xo (hQ h₂ fun b o hb e=>he₂ b o hb (hs₁.extBut b o hb (Xm _ e)))
theorem qw {env:Env} {elts:List Expr} {x1} {pos:Pos} {l:Addr} {items:Array Value} {Q:Unit->Shared->Prop} (hh:A.handled=none) (ht:s.heap.IsList l items)
  (hn:(assignEach elts env).length=items.size) (hstar:(assignEach elts env).findIdx? (·.1)=none)
  (h:∀ h',Heap.ExtBut s.heap.objs.size s.heap h'->wpAny (model prog w) A (assignInOrder ((assignEach elts env).map (·.2)) items.toList) Q E {s with heap:=h'}):
  wpAny (model prog w) A (assign (.Tuple elts x1 pos) env (.ref l)) Q E s:=by
 rw [assign_Tuple]
 refine Xj (ZW ?_)
 unfold unpack
 rw [hn,hstar]
 exact Xj (Yq (rY hh ht h))
end
def V4 (K:W.Frag) (n:Nat) (t:Bq):TG:=fun v U H Q=>∃ a xs,v= .ref a/\(SqT K H a xs\/SqL K H a xs)/\xs.length=n/\t xs U H Q
theorem Eb {X:Cx} {K:W.Frag} {ts:List Expr} {k:Nat} {gs:Bq} {n:Nat} {pos:Pos} (hK:X.K=K) (hc:X.calm=true) (h:V1 X ts gs) (hn:autoParam ((assignEach ts X.env).length=n) L2.auto4._auto_1) (hst:autoParam ((assignEach ts X.env).findIdx? (·.1)=none) L2.auto4._auto_1):JG X (.Tuple ts k pos) (V4 K n gs):=⟨by
 subst hK
 intro pins s U H v u Q I r hw
 obtain ⟨a,xs,e1,hq,hl,hw⟩:=hw
 subst e1
 cases r
 rcases hq with hq | hq
 ·exact (HH hc h.run hn hst) pins s U H (.ref a) (.ref a) Q I (show RelV (.ref a) (Value.ref a) from rfl) ⟨a,xs,rfl,hq,hl,hw⟩
 ·obtain ⟨its,rv,ht,hz⟩:=I.list hq
  refine qw (I.ok.hd hc) ht.isList (by simp [hn,← hl,rv.length]) hst fun h' hx=>?_
  have I1:Inv X pins U H {s with heap:=h'}:=I.kept (t':=s.toks) fun b o e=>hx b o (Yh (Xr e)) e
  exact h.run pins _ U H xs _ Q I1 (by simpa using rv) hw⟩
theorem Ec {X:Cx} {ts:List Expr} {k:Nat} {e:Expr} {te:TE} {g:TG} {pos pos':Pos} (he:JE X e te) (hg:JG X (.Tuple ts k pos') g) (h:autoParam (jM e=true) L2.auto4._auto_1) (h2:autoParam ((match e with | .Tuple ..=>false | _=>true)=true) L2.auto4._auto_1):JS X (.Assign [.Tuple ts k pos'] e pos) (ym te g):=
 ⟨HJ he.run hg.run (by show swapsWith e (some (.Tuple ts k pos')) pos.line X.env=pure false;exact xN h) (by cases e <;> first | rfl | cases h2) rfl⟩
def V5 (K:W.Frag):R2:=fun x y H Q=>rNe x y H Q\/∃ (a b:Addr) (ns ms:List Int),x= .ref a/\y= .ref b/\SqL K H a (ns.map V.int)/\SqL K H b (ms.map V.int)/\Q (.bl (!decide (ns=ms))) H
theorem Tf {X:Cx} {K:W.Frag} (hK:X.K=K) (hu:X.A.units+64 < cLine):OpR X (compareOp .NotEq) (V5 K):=by
 subst hK
 intro pins s U H x y v u Q I rx ry h
 rcases h with h | ⟨a,b,ns,ms,rfl,rfl,ha,hb,q⟩
 ·exact Vl pins s U H x y v u Q I rx ry h
 ·cases rx
  cases ry
  obtain ⟨its,r1,p1,z1⟩:=I.list ha
  obtain ⟨jts,r2,p2,z2⟩:=I.list hb
  exact PySem.W.ne_intsK p1.isList (intsAre_of r1) p2.isList (intsAre_of r2) hu ⟨.bl _,H,I,rfl,q⟩
section
variable {H:Hp} {Q:VK} {K:W.Frag} {U:St}
theorem bH {n:Nat} {gs:Bq} {p:Addr} {xs:List V} {R:St->Hp->Prop} (s:SqT K H p xs) (hl:xs.length=n) (h:gs xs U H R):Mt K n gs (.ref p) U H R:=⟨p,xs,rfl,s,hl,h⟩
theorem bN {t:TG} {u:Bq} {v:V} {vs:List V} {R:St->Hp->Prop} (h:t v U H fun U' H'=>u vs U' H' R):HD t u (v :: vs) U H R:=⟨v,vs,rfl,h⟩
theorem dM {R:St->Hp->Prop} (h:R U H):Ro [] U H R:=⟨rfl,h⟩
theorem cF {p:Addr} {xs:List V} {y:V} (hp:H p=some (.lst xs)) (c:xs.length < sizeLine) (h:Q .non (upd H p (.lst (xs ++ [y])))):DP (.ref p) [y] H Q:=⟨p,xs,y,rfl,rfl,hp,c,h⟩
theorem Jx {xs:Nat->List V} {n:Nat} {g:TG} {tb:TS} {D:Ends} {H:Hp} (Pv:Nat->St->Hp->Prop) (h0:Pv 0 U H)
  (hs:∀ i U H T,i < n->Pv i U H->H T=none->g (.ref T) U (upd H T (.tup (xs i))) fun σ2 H2=>tb {D with nx:=Pv (i+1),ct:=Pv (i+1),bk:=D.nx} σ2 H2) (hd:∀ U H,Pv n U H->D.nx U H):
  ∃ W:Nat->Nat->St->Hp->Prop,(∃ m,W 0 m U H)/\∀ i m U H,W i m U H->
   ((Td xs n).stop i H/\D.nx U H)\/((Td xs n).go i H/\∃ N:St->Hp->Prop,(∀ U' H',N U' H'->∃ m',m' < m/\W (i+1) m' U' H')/\∀ x H',(Td xs n).yld i H x H'->g x U H' fun σ2 H2=>tb {D with nx:=N,ct:=N,bk:=D.nx} σ2 H2):=by
 refine ⟨fun i m U H=>m=n - i/\i<=n/\Pv i U H,⟨n,by simp,YK _,h0⟩,?_⟩
 rintro i m U H ⟨rfl,hi,p⟩
 by_cases hlt:i < n
 ·refine .inr ⟨hlt,Pv (i+1),fun U' H' p'=>⟨n - (i+1),by omega,rfl,hlt,p'⟩,fun x H' y=>?_⟩
  obtain ⟨T,hT,e1,e2⟩:=y
  subst e1 e2
  exact hs i U H T hlt p hT
 ·have e:i=n:=by omega
  subst e
  exact .inl ⟨rfl,hd U H p⟩
theorem yF {a:Addr} {xs:List V} {k:Int} (ha:H a=some (.lst xs)) (h0: -(2 ^ 63)<=k) (h1:k < 2 ^ 63) (hz:xs.length*k.toNat<=sizeLine) (h:∀ p,H p=none->Q (.ref p) (upd H p (.lst (List.replicate k.toNat xs).flatten))):Ji (.ref a) (.int k) H Q:=
 .inr (.inr ⟨a,k,xs,rfl,rfl,ha,h0,h1,hz,h⟩)
end
section
variable {X:Cx} {tg iter elt:Expr} {ifs:List Expr} {scope:Scope} {pos:Pos} {N':List Str} {sub:List (Option Nat)} {wi:TI} {g:TG} {tt:TT} {te:TE}
theorem Ck {N:List Str} {sc:Scope} {i:Nat} {x:Str} {pos' spos:Pos} (hNd:X.N.Nodup) (hxi:X.N[i]?=some x) (hx:Loc X.env.scope x) (hf:X.fn x=true) (S:ux N sc N' scope sub) (hc:X.calm=true) (hN:X.N=N) (hsc:X.env.scope=sc) (hi:PI X tg iter wi)
  (hg:∀ (C:Addr) (s₀:Shared) (H₀:Hp) (ex:List Addr),PG (rD X N' scope C s₀ H₀ ex) tg g)
  (ht:∀ (C:Addr) (s₀:Shared) (H₀:Hp) (ex:List Addr),BW (rD X N' scope C s₀ H₀ ex) ifs tt)
  (he:∀ (C:Addr) (s₀:Shared) (H₀:Hp) (ex:List Addr),PE (rD X N' scope C s₀ H₀ ex) elt te)
  (hs:∀ x,foldedSetIterable iter X.env x=pure x):PS X (.Assign [.Name x pos'] (.ListComp elt [⟨tg,iter,ifs,0⟩] scope pos) spos) (ym (vH sub wi g tt te) (qd i)):=by
 intro pins s U H D I h
 have hsw:∃ b,swapsWith (.ListComp elt [⟨tg,iter,ifs,0⟩] scope pos) (some (.Name x pos')) spos.line X.env=pure b:=⟨_,rfl⟩
 obtain ⟨b,hsw⟩:=hsw
 cases b with
 | false=>exact HN hNd hxi hx (DQ S hc hN hsc hi hg ht he hs) hsw (.inl hf) pins s U H D I h
 | true=>
  rw [exec_Assign_Name_used _ _ _ _ hsw]
  refine Xj (ZW (Xj ?_))
  show wpAny _ X.A (do let _ ← comprehension (.ListComp elt [⟨tg,iter,ifs,0⟩] scope pos) scope X.env _ (newList []) false (eval iter X.env) (some (assign (.Name x pos') X.env))) _ _ s
  refine Xj (YS (zL (use:=some (assign (.Name x pos') X.env)) (R:=fun _ s'=>SP X pins D .next s') S hc hN hsc hi hg ht he hs pins s U H _ I h ?_) (fun _ s' hq=>Xo (Xo hq)) fun _ _ e=>e)
  intro Da C s5 H5 m I5 fC hn q
  show wpAny _ X.A (assign (.Name x pos') X.env (.ref Da)) _ _ _
  refine wpAny_assign_Name (xm I5 hNd hxi hx (v:=.ref Da) rfl (fun s6 I6 qq0=>?_) (.inl hf))
  obtain ⟨a,sb,ha⟩:=qq0
  obtain ⟨f0,f1,f2,f3,f4,f5⟩:=fC
  have hCa:C≠a:=fun z=>by
   rcases ha with e | e
   ·exact f1 (z.trans e)
   ·exact f4 x a e z.symm
  exact ⟨m,hn.sameBut sb hCa,fun h' hs'=>⟨_,H5,I6.turned (t':=s6.toks) (fun b o hb e=>hs'.extBut b o hb e) f0 f1 f3 f4 f5,q⟩⟩
end
section
variable {X:Cx} {tg iter elt:Expr} {ifs:List Expr} {scope:Scope} {pos:Pos} {N':List Str} {sub:List (Option Nat)} {wi:TI} {g:TG} {tt:TT} {te:TE} {N:List Str} {sc:Scope}
theorem NK {i:Nat} {x:Str} {pos' spos:Pos} (hNd:X.N.Nodup) (hxi:X.N[i]?=some x) (hx:Loc X.env.scope x) (S:ux N sc N' scope sub) (hc:X.calm=true) (hN:X.N=N) (hsc:X.env.scope=sc) (hi:JI X tg iter wi)
  (hg:∀ (C:Addr) (s₀:Shared) (H₀:Hp) (ex:List Addr),JG (rD X N' scope C s₀ H₀ ex) tg g)
  (ht:∀ (C:Addr) (s₀:Shared) (H₀:Hp) (ex:List Addr),Tc (rD X N' scope C s₀ H₀ ex) ifs tt)
  (he:∀ (C:Addr) (s₀:Shared) (H₀:Hp) (ex:List Addr),JE (rD X N' scope C s₀ H₀ ex) elt te) (hf:X.fn x=true) (h:autoParam (tG iter=true) L2.auto4._auto_1):
  JS X (.Assign [.Name x pos'] (.ListComp elt [⟨tg,iter,ifs,0⟩] scope pos) spos) (ym (vH sub wi g tt te) (qd i)):=
 ⟨Ck hNd hxi hx hf S hc hN hsc hi.run (fun C s₀ H₀ ex=>(hg C s₀ H₀ ex).run) (fun C s₀ H₀ ex=>(ht C s₀ H₀ ex).run) (fun C s₀ H₀ ex=>(he C s₀ H₀ ex).run) (Jm h)⟩
end
section
variable {X:Cx} {pins:List (Addr×Obj)} {U:St} {H:Hp} {s:Shared}
theorem Inv.newtup {wr:List Addr} {T:Addr} {vals:Array Value} {xs:List V} {h'':Heap} {tk:Nat} (I:Inv X pins U H s) (hf:∀ b∈wr,n6 X pins H b) (hT:s.heap.objs.size<=T)
  (kall:∀ b o,b ∉ wr->s.heap.get? b=some o->h''.get? b=some o) (isT':h''.IsTuple T vals) (hv:Vals xs vals.toList) (hx:xs.length<=sizeLine):Inv X pins U (upd H T (.tup xs)) {s with heap:=h'',toks:=tk}:=by
 have hTn:H T=none:=I.hok.fresh hT
 have nT:∀ b o,s.heap.get? b=some o->b≠T:=fun b o e=>Yh (XN (Xr e) hT)
 have nTH:∀ b u,H b=some u->b≠T:=fun b u e z=>by rw [z,hTn] at e;cases e
 have nW:∀ b u,H b=some u->b ∉ wr:=fun b u e hb=>by rw [(hf b hb).1] at e;cases e
 refine I.step (g':=s.gens) (d':=s.drawn) (ch:=wr) (fun b hb=>?_) (fun b o _ _ hc e _=>kall b o hc e) (fun b o _ _ hc e _=>⟨o.slots,kall b o hc e⟩) (fun b o _ e hn=>by rw [aC (nT b o e)];exact hn)
  (fun b o hc e=>⟨o,kall b o hc e⟩) (fun b ys e=>by rw [aC (nTH b _ e)];exact e) (fun b o u e=>by rw [aC (nTH b _ e)];exact e) (fun b ps e=>⟨#[],by rw [aC (nTH b _ e),e];simp⟩) (fun m hm=>?_) (fun b u e=>?_) I.bare
 ·obtain ⟨f0,f1,f2,f3,f4,f5⟩:=hf b hb
  exact ⟨f3,f1,f4,f5⟩
 ·obtain ⟨o,es,ep,ho,r⟩:=hm
  exact ⟨o,es,ep,kall _ o (fun hb=>(hf _ hb).2.1 rfl) ho,r⟩
 ·by_cases hb:b=T
  ·subst hb
   rw [aj] at e;cases e
   obtain ⟨o,ho,hcl,nn,hd⟩:=isT'
   exact ⟨hx,vals.toList,hv,o,ho,hcl,nn,by simpa using hd⟩
  ·rw [aC hb] at e
   refine (I.hok b u e).stay (fun c v hc' q=>kall c v ?_ q) (fun c q=>by rw [aC (nTH c _ q)];exact q) fun c ys q=>by rw [aC (nTH c _ q)];exact q
   rcases hc' with z | z
   ·rw [z];exact nW b u e
   ·exact nW c _ z
theorem Inv.only {wr:List Addr} {h':Heap} {tk:Nat} (I:Inv X pins U H s) (hf:∀ b∈wr,n6 X pins H b) (kk:∀ b o,b ∉ wr->s.heap.get? b=some o->h'.get? b=some o):Inv X pins U H {s with heap:=h',toks:=tk}:=by
 have nW:∀ b u,H b=some u->b ∉ wr:=fun b u e hb=>by rw [(hf b hb).1] at e;cases e
 refine I.step (g':=s.gens) (d':=s.drawn) (ch:=wr) (fun b hb=>?_) (fun b o _ _ hc e _=>kk b o hc e) (fun b o _ _ hc e _=>⟨o.slots,kk b o hc e⟩) (fun b o _ e hn=>hn)
   (fun b o hc e=>⟨o,kk b o hc e⟩) (fun b ys e=>e) (fun b o u e=>e) (fun b ps e=>⟨#[],by rw [e];simp⟩) (fun m hm=>?_) (fun b u e=>?_) I.bare
 ·obtain ⟨f0,f1,f2,f3,f4,f5⟩:=hf b hb
  exact ⟨f3,f1,f4,f5⟩
 ·obtain ⟨o,es,ep,ho,r⟩:=hm
  exact ⟨o,es,ep,kk _ o (fun hb=>(hf _ hb).2.1 rfl) ho,r⟩
 ·refine (I.hok b u e).stay (fun c v hc' q=>kk c v ?_ q) (fun c q=>q) fun c ys q=>q
  rcases hc' with z | z
  ·rw [z];exact nW b u e
  ·exact nW c _ z
end
def UV (K:W.Frag) (a:Addr):It:=
 ⟨fun i H=>∃ xs x,SqL K H a xs/\xs[i]?=some x,
  fun i H v H'=>∃ T x,H T=none/\v= .ref T/\(∀ xs,SqL K H a xs->xs[i]?=some x)/\H'=upd H T (.tup [.int i,x]),
  fun i H=>∃ xs,SqL K H a xs/\xs.length<=i⟩
theorem Cm {P:Program} {w:World} {K:W.Frag} {elts:List Expr} {k:Nat} {pos:Pos} {e it a:Addr} (hne:e≠it):
  Turn P w K (.Tuple elts k pos) (UV K a) [e,it] e (fun i h=>(∃ old,IsEnum h e it i old)/\h.IsListIter it a i) where
 mem:=by simp
 obj:=fun i h st c hc=>by
  obtain ⟨⟨old,he⟩,⟨o1,e1,c1,d1⟩⟩:=st
  simp only [XD,Yj,or_false] at hc
  rcases hc with rfl | rfl
  ·exact ⟨_,he,fun v z=>by cases z⟩
  ·exact ⟨_,e1,fun v z=>by rw [d1] at z;cases z⟩
 keep:=fun i h h' st kk=>by
  obtain ⟨⟨old,he⟩,h1⟩:=st
  exact ⟨⟨old,kk e (by simp) _ he⟩,h1.at fun o q=>kk it (by simp) o q⟩
 item:=by
  intro X hP hw hK hc i pins s U H E I hf st hg
  subst hP hw hK
  obtain ⟨⟨old,he⟩,h1⟩:=st
  obtain ⟨xs,x,hq,hx⟩:=hg
  obtain ⟨its,rv,p,_⟩:=I.list hq
  obtain ⟨u,hu,ru⟩:=rv.get hx
  refine wpAny_pyNext_enum_item he h1 p.isList (x:=u) (by simpa using hu) hne fun h' a1 a2 a3 a4 hk=>?_
  refine ⟨_,rfl,wpAny_letOwnedTupleGo_enum a1 fun h'' a1' sb=>?_⟩
  have lt:∀ {c o},s.heap.get? c=some o->s.heap.objs.size≠c:=fun e=>Zd (Xr e)
  have lti:s.heap.objs.size≠it:=by obtain ⟨o,q,_⟩:=h1;exact lt q
  have isT:h''.IsTuple s.heap.objs.size #[.int i s.toks,u]:=⟨_,sb.extBut _ _ (lt he) a3,rfl,_,rfl⟩
  have kall:∀ b o,b ∉ [e,it]->s.heap.get? b=some o->h''.get? b=some o:=fun b o hb q=>by
   simp only [XD,Yj,or_false,not_or] at hb
   exact sb.extBut _ _ hb.1 (hk b o hb.1 hb.2 q)
  have hTn:H s.heap.objs.size=none:=I.hok.fresh (Xp _)
  refine ⟨.ref s.heap.objs.size,_,I.newtup (tk:=s.toks+1) hf (Xp _) kall isT (xs:=[.int i,x]) (.cons ⟨_,rfl⟩ (.cons ru .nil)) (by simp;decide),rfl,⟨_,x,hTn,rfl,fun zs hs=>by rw [I.list_inj hs hq];exact hx,rfl⟩,?_,fun b hb=>?_⟩
  ·exact ⟨⟨_,a1'⟩,a2.extBut sb.extBut (Ne.symm hne)⟩
  ·have:s.heap.objs.size≠b:=by
    simp only [XD,Yj,or_false] at hb
    rcases hb with rfl | rfl
    ·exact lt he
    ·exact lti
   rw [aC (Ne.symm this)]
   exact (hf b hb).1
 done:=by
  intro X hP hw hK hc i pins s U H E I hf st hg
  subst hP hw hK
  obtain ⟨⟨old,he⟩,h1⟩:=st
  obtain ⟨xs,hq,hx⟩:=hg
  obtain ⟨its,rv,p,_⟩:=I.list hq
  have l1:=rv.length
  refine wpAny_pyNext_enum_end (I.ok.hd hc) he h1 p.isList (by simp;omega) fun h' hk=>⟨rfl,I.only (tk:=s.toks) hf fun b o hb q=>?_⟩
  simp only [XD,Yj,or_false,not_or] at hb
  exact hk b o hb.2 q
 self:=fun _ _ _ _ _ st h=>let ⟨⟨_,he⟩,_⟩:=st;ZX he h
theorem Gq {X:Cx} {elts:List Expr} {k:Nat} {tp:Pos} {pins:List (Addr×Obj)} {U:St} {H1:Hp} {s1:Shared} {x:Str} {t:Tok} {R:It->Hp->Prop} (hc:X.calm=true) (I1:Inv X pins U H1 s1) (q:R (Td (nM x) x.cps.size) H1):
  wpAny (model X.prog X.w) X.A (call (.type "enumerate") [.str x t]) (fun v s1=>wpAny (model X.prog X.w) X.A (pyIter v) (PIE X pins U (.Tuple elts k tp) R) X.xe s1) X.xe s1:=by
 refine call_enumerate_str fun h' he hit hsz hk=>?_
 have J1:Inv X pins U H1 {s1 with heap:=h'}:=I1.kept (t':=s1.toks) hk
 have ne1:s1.heap.objs.size+1≠s1.heap.objs.size:=Nat.succ_ne_self _
 have nm:s1.heap.objs.size+1 ∉ [s1.heap.objs.size]:=fun z=>ne1 (Yn.mp z)
 have hPt:∀ (i:Nat) (vals:Array Value),(∃ t y,SignAt x i y/\vals= #[.int i t,y])->Vals (nM x i) vals.toList:=by
  rintro i vals ⟨t,y,⟨c,u,e1,rfl⟩,rfl⟩
  refine .cons ⟨t,rfl⟩ (.cons ⟨u,?_⟩ .nil)
  rw [show x.cps.getD i 0=c by simp [Array.getD_eq_getD_getElem?,e1]]
 have fin:∀ (ty:String) (Dr:∀ A:Around,A.handled=none->Draws X.prog X.w A s1.heap.objs.size [s1.heap.objs.size] x.cps.size (SignAt x) fun i h=>h.IsStrIter s1.heap.objs.size ty x t i),h'.IsStrIter s1.heap.objs.size ty x t 0->
   wpAny (model X.prog X.w) X.A (pyIter (.ref (s1.heap.objs.size+1))) (PIE X pins U (.Tuple elts k tp) R) X.xe {s1 with heap:=h'}:=by
  intro ty Dr hit'
  have W:∀ A:Around,A.handled=none->WalksT X.prog X.w A (s1.heap.objs.size+1) [s1.heap.objs.size+1,s1.heap.objs.size] [s1.heap.objs.size+1,s1.heap.objs.size] x.cps.size
    (fun i vals=>∃ t y,SignAt x i y/\vals= #[.int i t,y]) (fun i h=>(∃ old,IsEnum h (s1.heap.objs.size+1) s1.heap.objs.size i old)/\h.IsStrIter s1.heap.objs.size ty x t i)
    (fun i T h=>(∃ y,IsEnumOut h (s1.heap.objs.size+1) s1.heap.objs.size ((i:Int)+1) y T)/\h.IsStrIter s1.heap.objs.size ty x t (i+1)/\T≠s1.heap.objs.size+1/\T≠s1.heap.objs.size):=
   fun A hA=>WalksT.enumerateD (Dr A.in1 hA) (s1.heap.objs.size+1) ne1 nm (by simp)
  have hself:∀ (A:Around) (i:Nat) (s:Shared) (Q:Value->Shared->Prop) (E:Value->Shared->Prop),((∃ old,IsEnum s.heap (s1.heap.objs.size+1) s1.heap.objs.size i old)/\s.heap.IsStrIter s1.heap.objs.size ty x t i)->Q (.ref (s1.heap.objs.size+1)) s->wpAny (model X.prog X.w) A (pyIter (.ref (s1.heap.objs.size+1))) Q E s:=by
   rintro A i s Q E ⟨⟨old,he⟩,_⟩ hQ
   exact ZX he hQ
  refine hself _ 0 _ _ _ ⟨⟨_,he⟩,hit'⟩ ?_
  refine ⟨s1.heap.objs.size+1,[s1.heap.objs.size+1,s1.heap.objs.size],_,_,H1,rfl,J1,Te W (fun i=>by simp [nM];decide) hPt (by simp) ?_ hself,⟨⟨_,he⟩,hit'⟩,fun b hb=>?_,q⟩
  ·rintro i h ⟨⟨old,he⟩,o,ho,hcl,hd⟩ b hb
   rcases XD.mp hb with rfl | hb
   ·exact ⟨_,he,fun v z=>by cases z⟩
   ·rw [Yn.mp hb]
    exact ⟨o,ho,fun v z=>by rw [hd] at z;cases z⟩
  ·have hb':s1.heap.objs.size<=b:=by
    rcases XD.mp hb with rfl | hb
    ·exact Nat.le_succ _
    ·rw [Yn.mp hb];exact Xp _
   exact I1.fpOk hb' (I1.hok.fresh hb')
 cases hx:x.cps.all (· < 128)
 ·exact fin "str_iterator" (fun A hA=>Draws.strWide hA _ x t) (by simpa [strIterType,hx] using hit)
 ·exact fin "str_ascii_iterator" (fun A hA=>Draws.strAscii hA _ x t) (by simpa [strIterType,hx] using hit)
def Qv (K:W.Frag) (ta:TA):TI:=fun U H R=>ta U H fun vs H1=>(∃ x:Str,vs=[.str x]/\R (Td (nM x) x.cps.size) H1)\/∃ a xs,vs=[.ref a]/\SqL K H1 a xs/\R (UV K a) H1
theorem lC {X:Cx} {K:W.Frag} {a:Expr} {ta:TA} {elts:List Expr} {k:Nat} {tp p pos:Pos} (hK:X.K=K) (hc:X.calm=true) (hg:Gl X "enumerate") (hm:X.mg "enumerate"=none) (ha:JA X [a] ta) (h:autoParam (notStar a=true) L2.auto4._auto_1):
  JI X (.Tuple elts k tp) (.Call (.Name "enumerate" p) [a] [] pos) (Qv K ta):=⟨by
 subst hK
 intro pins s U H R I hq
 refine Call_ (gY I hg hm rR (XX (eQ (ha.run pos pins s U H _ I hq) fun us s1 qq0=>?_) (bC h) rfl))
 obtain ⟨vs,H1,I1,r1,q1⟩:=qq0
 rcases q1 with ⟨x,e,q⟩ | ⟨l,xs,e,hl,q⟩
 ·subst e
  obtain ⟨u,rfl,t,rfl⟩:=vals1 r1
  exact Gq hc I1 q
 ·subst e
  obtain ⟨u,rfl,ru⟩:=vals1 r1
  cases ru
  obtain ⟨its,rv,p1,_⟩:=I1.list hl
  refine call_enumerate_list p1.isList fun h' z1 z2 z3 hk=>?_
  have J1:Inv X pins U H1 {s1 with heap:=h'}:=I1.kept (t':=s1.toks) hk
  refine ZX z1 ?_
  refine ⟨s1.heap.objs.size+1,_,_,_,H1,rfl,J1,Cm (Nat.succ_ne_self _),⟨⟨_,z1⟩,z2⟩,fun b hb=>?_,q⟩
  have hb':s1.heap.objs.size<=b:=by
   simp only [XD,Yj,or_false] at hb
   have key:∀ n c:Nat,(c=n+1\/c=n)->n<=c:=fun n c h=>by omega
   exact key _ _ hb
  exact I1.fpOk hb' (I1.hok.fresh hb')⟩
end L2
namespace L2
open PySem PySem.Spec PyProof.Rows PySem.SeqAt
mutual
def DR (H:Hp):PyData->V->Prop
 | .none,v=>v= .non
 | .bool b,v=>v= .bl b
 | .int n,v=>v= .int n
 | .str x,v=>v= .str x
 | .list ds,v=>∃ a vs,v= .ref a/\H a=some (.lst vs)/\DRs H ds vs
 | .tuple ds,v=>∃ a vs,v= .ref a/\H a=some (.tup vs)/\DRs H ds vs
 | .dict _,_=>False
def DRs (H:Hp):List PyData->List V->Prop
 | [],vs=>vs=[]
 | d :: ds,vs=>∃ v r,vs=v :: r/\DR H d v/\DRs H ds r
end
mutual
theorem DR.reads {P:Program} {w:World} {H:Hp} {h:Heap} (ok:HOk P w H h):∀ (d:PyData) (v:V) (u:Value),DR H d v->RelV v u->∃ as,Reads h u d as
 | .none,_,u,q,r=>by rw [DR] at q;subst q;cases r;exact ⟨_,.none⟩
 | .bool b,_,u,q,r=>by rw [DR] at q;subst q;cases r;exact ⟨_,.bool _⟩
 | .int n,_,u,q,r=>by rw [DR] at q;subst q;obtain ⟨t,rfl⟩:=r;exact ⟨_,.int _ _⟩
 | .str n,_,u,q,r=>by rw [DR] at q;subst q;obtain ⟨t,rfl⟩:=r;exact ⟨_,.str _ _⟩
 | .list ds,v,u,q,r=>by
  rw [DR] at q
  obtain ⟨a,vs,rfl,e,t⟩:=q
  cases r
  obtain ⟨_,its,n,rv,g⟩:=ok a _ e
  obtain ⟨as,ra⟩:=DRs.reads ok ds vs its t rv
  exact ⟨_,.list g rfl rfl (by simpa using ra)⟩
 | .tuple ds,v,u,q,r=>by
  rw [DR] at q
  obtain ⟨a,vs,rfl,e,t⟩:=q
  cases r
  obtain ⟨_,its,rv,g⟩:=ok a _ e
  obtain ⟨as,ra⟩:=DRs.reads ok ds vs its t rv
  obtain ⟨o,ho,hc,n,hd⟩:=g
  exact ⟨_,.tuple ho hc hd (by simpa using ra)⟩
 | .dict _,_,_,q,_=>by rw [DR] at q;exact q.elim
theorem DRs.reads {P:Program} {w:World} {H:Hp} {h:Heap} (ok:HOk P w H h):∀ (ds:List PyData) (vs:List V) (us:List Value),DRs H ds vs->Vals vs us->∃ as,ReadsAll h us ds as
 | [],_,us,q,r=>by rw [DRs] at q;subst q;cases r;exact ⟨_,.nil⟩
 | d :: ds,_,us,q,r=>by
  rw [DRs] at q
  obtain ⟨v,r',rfl,q1,q2⟩:=q
  cases r with
  | cons a b=>
   obtain ⟨as,h1⟩:=DR.reads ok d v _ q1 a
   obtain ⟨bs,h2⟩:=DRs.reads ok ds r' _ q2 b
   exact ⟨_,.cons h1 h2⟩
end
def V6:R2:=fun x y H Q=>∃ d e,DR H d x/\DR H e y/\shaped d=true/\shaped e=true/\Q (.bl (PyData.eqv d e)) H
def V7:R2:=fun x y H Q=>∃ d e,DR H d x/\DR H e y/\shaped d=true/\shaped e=true/\Q (.bl (!PyData.eqv d e)) H
section
variable {X:Cx}
theorem Tg (hu:X.A.units+64 < cLine):OpR X (compareOp .Eq) V6:=by
 intro pins s U H x y v u Q I rx ry h
 obtain ⟨d,e,h1,h2,h3,h4,q⟩:=h
 obtain ⟨as,r1⟩:=DR.reads I.hok d x v h1 rx
 obtain ⟨bs,r2⟩:=DR.reads I.hok e y u h2 ry
 exact eq_dataH r1 r2 h3 h4 hu ⟨.bl _,H,I,rfl,q⟩
theorem Th (hu:X.A.units+64 < cLine):OpR X (compareOp .NotEq) V7:=by
 intro pins s U H x y v u Q I rx ry h
 obtain ⟨d,e,h1,h2,h3,h4,q⟩:=h
 obtain ⟨as,r1⟩:=DR.reads I.hok d x v h1 rx
 obtain ⟨bs,r2⟩:=DR.reads I.hok e y u h2 ry
 exact ne_dataH r1 r2 h3 h4 hu ⟨.bl _,H,I,rfl,q⟩
def NP (K:W.Frag):R2:=fun x y H Q=>Sg K x y H Q\/V6 x y H Q
def V8 (K:W.Frag):R2:=fun x y H Q=>V5 K x y H Q\/V7 x y H Q
theorem Cp {K:W.Frag} (hK:X.K=K) (hu:X.A.units+64 < cLine):OpR X (compareOp .Eq) (NP K):=(Su hK (Nat.lt_of_le_of_lt (Z9 _ _) hu)).or (Tg hu)
theorem Ti {K:W.Frag} (hK:X.K=K) (hu:X.A.units+64 < cLine):OpR X (compareOp .NotEq) (V8 K):=(Tf hK hu).or (Th hu)
end
section
variable {H:Hp} {Q:VK} {K:W.Frag} {U:St}
theorem cR {i j:Int} (h:Q (.bl (decide (V.int i=V.int j))) H):NP K (.int i) (.int j) H Q:=.inl (.inl ⟨rfl,h⟩)
theorem cT {i j:Str} (h:Q (.bl (decide (V.str i=V.str j))) H):NP K (.str i) (.str j) H Q:=.inl (.inl ⟨rfl,h⟩)
theorem dN {i j:Int} (h:Q (.bl (!decide (V.int i=V.int j))) H):V8 K (.int i) (.int j) H Q:=.inl (.inl ⟨rfl,h⟩)
theorem bO {a:TA} {R:It->Hp->Prop} (h:a U H fun vs H1=>(∃ x:Str,vs=[.str x]/\R (Td (nM x) x.cps.size) H1)\/∃ a xs,vs=[.ref a]/\SqL K H1 a xs/\R (UV K a) H1):Qv K a U H R:=h
theorem jP {a:Addr} {xs:List V} {g:TG} {tb:TS} {D:Ends} (Pv:Nat->St->Hp->Prop) (h0:Pv 0 U H) (hq:∀ i U H,i<=xs.length->Pv i U H->SqL K H a xs)
  (hs:∀ i U H T x,xs[i]?=some x->Pv i U H->H T=none->g (.ref T) U (upd H T (.tup [.int i,x])) fun σ2 H2=>tb {D with nx:=Pv (i+1),ct:=Pv (i+1),bk:=D.nx} σ2 H2) (hd:∀ U H,Pv xs.length U H->D.nx U H):
  ∃ W:Nat->Nat->St->Hp->Prop,(∃ m,W 0 m U H)/\∀ i m U H,W i m U H->
   ((UV K a).stop i H/\D.nx U H)\/((UV K a).go i H/\∃ N:St->Hp->Prop,(∀ U' H',N U' H'->∃ m',m' < m/\W (i+1) m' U' H')/\∀ x H',(UV K a).yld i H x H'->g x U H' fun σ2 H2=>tb {D with nx:=N,ct:=N,bk:=D.nx} σ2 H2):=by
 refine ⟨fun i m U H=>m=xs.length - i/\i<=xs.length/\Pv i U H,⟨xs.length,by simp,YK _,h0⟩,?_⟩
 rintro i m U H ⟨rfl,hi,p⟩
 have q1:=hq i U H hi p
 by_cases hlt:i < xs.length
 ·refine .inr ⟨⟨xs,xs[i],q1,Xk hlt⟩,Pv (i+1),fun U' H' p'=>⟨xs.length - (i+1),by omega,rfl,hlt,p'⟩,fun x H' y=>?_⟩
  obtain ⟨T,u,hT,e1,e2,e4⟩:=y
  subst e1 e4
  exact hs i U H T u (e2 xs q1) p hT
 ·have e:i=xs.length:=by omega
  subst e
  exact .inl ⟨⟨xs,q1,Xp _⟩,hd U H p⟩
end
end L2
namespace L2
open PySem PySem.Spec PyProof.Rows
theorem Jy:typeLookup (.type "list_reverseiterator") "__len__"=pure none:=by rw [typeLookup_type,builtinLookup_eq_fast];kernel_rfl
theorem Gr:typeLookup (.type "list_reverseiterator") "__length_hint__"=pure (some (.builtin "list_reverseiterator.__length_hint__")):=by rw [typeLookup_type,builtinLookup_eq_fast];kernel_rfl
section
variable {prog:Program} {w:World} {A:Around} {E:Value->Shared->Prop} {s:Shared}
theorem Jz {it l:Addr} {i:Int} {Q:Bool->Shared->Prop} (hit:s.heap.IsRevIter it l i) (h:Q false s):wpAny (model prog w) A (Builtin.List.listLengthHint (.ref it)) Q E s:=by
 unfold Builtin.List.listLengthHint
 refine Xj (wpAny_specialOf hit.typeIs Jy ?_)
 show wpAny _ _ (specialOf (Value.ref it) (Str.ofString "__length_hint__") >>=_) _ _ _
 refine Xj (wpAny_specialOf hit.typeIs Gr ?_)
 generalize hid:("list_reverseiterator.__length_hint__":String)=id0
 wp_delta
 rw [show splitId id0=some ("list_reverseiterator","__length_hint__") from by subst hid;trivial]
 subst hid
 refine Xj (wpAny_isInstance (T:="list_reverseiterator") (b:=true) hit.typeIs (by rw [isSubtype_type];kernel_rfl) ?_)
 refine wpAny_ite_split (fun hab=>absurd hab (by decide)) (fun _=>?_)
 refine wpAny_ite_split (fun _=>?_) (fun hab=>absurd (by trivial) hab)
 refine wpAny_ite_split (fun hab=>absurd hab (by trivial)) (fun _=>?_)
 exact Xo h
theorem JC {it l:Addr} {items:Array Value} {Q:Value->Shared->Prop} (hh:A.handled=none) (hit:s.heap.IsRevIter it l ((items.size:Int) - 1)) (hl:s.heap.IsList l items) (hne:l≠it) (hn:items.size<=sizeLine)
  (hQ:∀ h' tk acc' c',(∀ b o,b≠it->s.heap.get? b=some o->h'.get? b=some o)->h'.get? s.heap.objs.size=some {cls:=.type "list",dict:=none,data:=.seq acc' c',slots:=#[]}->
   ItemsOf (fun i v=>items[items.size - 1 - i]?=some v) acc' items.size->Q (.ref s.heap.objs.size) {s with heap:=h',toks:=tk}):
  wpAny (model prog w) A (call (.type "list") [.ref it]) Q E s:=by
 refine callType_codes (Q₁:=fun obj s₁=>obj= .ref s.heap.objs.size/\s₁={s with heap:=s.heap.push {cls:=.type "list",data:=.seq #[]}}) F.called_list (F.typeCall_list_1 _) F.entry_list_init
  (code_list_new _ ⟨rfl,rfl⟩) fun obj s₁ h₁=>?_
 obtain ⟨rfl,rfl⟩:=h₁
 have iti:it < s.heap.objs.size:=by obtain ⟨o,e,_⟩:=hit;exact Xr e
 have itl:l < s.heap.objs.size:=by obtain ⟨o,e,_⟩:=hl;exact Xr e
 generalize hS0:s.heap.objs.size=S at iti itl hQ
 have hS:(s.heap.push {cls:=.type "list",data:=.seq #[]}).get? S=some {cls:=.type "list",data:=.seq #[]}:=by rw [← hS0];exact Xy _ rfl
 have kp:∀ b o,s.heap.get? b=some o->(s.heap.push {cls:=.type "list",data:=.seq #[]}).get? b=some o:=fun b o e=>Xm _ e
 generalize s.heap.push {cls:=.type "list",data:=.seq #[]}=h1 at hS kp
 have hit1:h1.IsRevIter it l ((items.size:Int) - 1):=hit.at fun o e=>kp it o e
 have hl1:h1.IsList l items:=hl.at fun o e=>kp l o e
 refine ⟨⟨_,hS,rfl⟩,F.args_list_init_2 _ _,?_⟩
 have nSi:S≠it:=Zd iti
 have nSl:S≠l:=Zd itl
 have hSf:S ∉ [it,l]:=by simp [nSi,nSl]
 have W:=(Walks.listRev (prog:=prog) (w:=w) (A:=A.in1.in1) hh it l hne items).toS
 show wpAny _ A.in1.in1 (do let old ← Builtin.List.listItems (.ref S);Builtin.List.listUpdate (.ref S) (fun _=>#[]);letGo old.toList.reverse;Builtin.List.listExtendWith (.ref S) (.ref it) .none) _ _ _
 unfold Builtin.List.listItems
 refine Xj (Xj (Ze hS rfl (Xo ?_)))
 show wpAny _ A.in1.in1 (updateSeq S (fun _=>#[]) >>=fun _=>letGo (#[]:Array Value).toList.reverse >>=fun _=>Builtin.List.listExtendWith (.ref S) (.ref it) .none) _ _ _
 refine Xj (wpAny_updateSeq hS rfl ?_)
 have hS2:=YM (Obj.mapSeq (fun _=>(#[]:Array Value))) hS rfl
 have k2:∀ b o,b≠S->h1.get? b=some o->(h1.update S (Obj.mapSeq (fun _=>(#[]:Array Value)))).get? b=some o:=fun b o hb e=>(Yl _ _ (Ne.symm hb)).trans e
 generalize h1.update S (Obj.mapSeq (fun _=>(#[]:Array Value)))=h2 at hS2 k2
 have hit2:=hit1.at (h':=h2) fun o e=>k2 it o (Ne.symm nSi) e
 have hl2:=hl1.at (h':=h2) fun o e=>k2 l o (Ne.symm nSl) e
 refine Xj (wpAny_letGo ?_)
 unfold Builtin.List.listExtendWith
 refine Xj (wpAny_typeOf (T:="list_reverseiterator") (Heap.IsRevIter.typeIs (s:={s with heap:=h2}) hit2) ?_)
 have e1:Builtin.List.listSameRef (.ref S) (.ref it)=false:=by simp [Builtin.List.listSameRef,nSi]
 have e2:(Value.type "list_reverseiterator" == Value.type "list")=false:=by decide
 have e3:(Value.type "list_reverseiterator" == Value.type "tuple")=false:=by decide
 simp only [e1,e2,e3,Bool.or_false,ZQ,if_false]
 refine Xj (Z4 (s:={s with heap:=h2}) hit2 ?_)
 refine Xj (Yq (Jz (s:={s with heap:=h2}) hit2 ?_))
 refine wpAny_ite_split (fun hab=>absurd hab (by trivial)) (fun _=>?_)
 refine Xo ⟨plainId_quiet F.plain_extend_loop _,?_⟩
 refine codeAny_extend_loopS W hn S hSf .none items.size 0 _ #[] _ rfl (YK _) ⟨YK _,by simpa using hit2,hl2⟩ hS2 (ItemsOf.nil _) fun s' acc' c' hm hS' hacc=>?_
 rw [Moved.eq_with hm]
 refine ⟨rfl,hQ s'.heap s'.toks acc' c' (fun b o hb e=>hm.heap b o (fun hmem=>?_) (k2 b o (fun z=>?_) (kp b o e))) hS' hacc⟩
 ·rcases XD.mp hmem with e' | hmem
  ·exact absurd (Xr e) (by rw [e',hS0];exact YZ _)
  ·exact hb (Yn.mp hmem)
 ·exact absurd (Xr e) (by rw [z,hS0];exact YZ _)
end
section
variable {X:Cx} {K:W.Frag} {a b c e:Expr} {ta tb tc te:TE} {pos p p2 p3:Pos}
theorem NQ {op op':CmpOp} {r r':R2} (ho:OpR X (compareOp op) r) (ho':OpR X (compareOp op') r') (ha:JE X a ta) (hb:JE X b tb) (hc:JE X c tc) (hm:autoParam (lastMarks [op,op'] [b,c]=false) L2.auto5._auto_1):
  JE X (.Compare a [op,op'] [b,c] pos) (Bv r r' ta tb tc):=⟨Ih ho ho' ha.run hb.run hc.run hm⟩
theorem arg1 {Q:List Value->Shared->Prop} {E:Value->Shared->Prop} {s:Shared} (hs:notStar e=true) (h:wpAny (model X.prog X.w) X.A (eval e X.env) (fun u s1=>Q [u] s1) E s):wpAny (model X.prog X.w) X.A (spliced (backTo pos (starEach [e] X.env))) Q E s:=by
 rw [bC hs]
 show wpAny _ _ (spliced ((false,eval e X.env) :: backTo pos (starEach [] X.env))) _ _ s
 exact Calls.spliced_cons (YS h (fun u s1 q=>Calls.spliced_nil q) fun _ _ z=>z)
def JD (K:W.Frag) (ta:TE):TE:=fun U H Q=>ta U H fun x H1=>∃ l xs,x= .ref l/\SqL K H1 l xs/\∀ q,H1 q=none->Q (.ref q) (upd H1 q (.lst xs.reverse))
theorem Gs (hK:X.K=K) (hc:X.calm=true) (hg:Gl X "list") (hm:X.mg "list"=none) (hg2:Gl X "reversed") (hm2:X.mg "reversed"=none) (ha:JE X a ta) (h:autoParam (notStar a=true) L2.auto4._auto_1):
  JE X (.Call (.Name "list" p) [.Call (.Name "reversed" p2) [a] [] p3] [] pos) (JD K ta):=⟨by
 subst hK
 intro pins s U H Q I hq
 refine Yv (gY I hg hm rQ (XX (arg1 rfl (Yv (gY I hg2 hm2 uz (XX (arg1 h (eQ (ha.run pins s U H _ I hq) fun u s1 qq0=>?_)) (bC h) rfl)))) rfl rfl))
 obtain ⟨x,H1,I1,rx,l,xs,ex,hx,q⟩:=qq0
 subst ex
 cases rx
 obtain ⟨its,r,ht,hz⟩:=I1.list hx
 have hlen:=r.length
 refine call_reversed_list ht.isList ?_
 have lt:l < s1.heap.objs.size:=by obtain ⟨o,ho,_⟩:=ht.isList;exact Xr ho
 have e0:(s1.heap.push (PySem.revObj l ((its.toArray.size:Int) - 1))).get? s1.heap.objs.size=some (PySem.revObj l ((its.toArray.size:Int) - 1)):=Xy _ rfl
 have k0:∀ b o,s1.heap.get? b=some o->(s1.heap.push (PySem.revObj l ((its.toArray.size:Int) - 1))).get? b=some o:=fun b o q=>Xm _ q
 have s0:(s1.heap.push (PySem.revObj l ((its.toArray.size:Int) - 1))).objs.size=s1.heap.objs.size+1:=YT ..
 refine JC (it:=s1.heap.objs.size) (l:=l) (I1.ok.hd hc) ⟨_,e0,rfl,rfl⟩ (ht.isList.at fun o q=>k0 l o q) (Yh lt) (by simp;omega) fun h' tk acc' c' hk hS hacc=>?_
 have eacc:acc'.toList=its.reverse:=by
  apply ZZ
  intro i
  have a1:acc'.size=its.length:=by have:=hacc.1;simpa using this
  by_cases hi:i < its.length
  ·have hi':i < acc'.size:=by omega
   have a2:=hacc.2 i acc'[i] (Array.getElem?_eq_getElem hi')
   rw [List.getElem?_reverse hi]
   simp at a2
   rw [a2]
   simp [hi']
  ·rw [YQ (by simp;omega),YQ (by simp;omega)]
 have rr:Vals xs.reverse acc'.toList:=by rw [eacc];exact r.reverse
 have k1:∀ b o,s1.heap.get? b=some o->h'.get? b=some o:=fun b o z=>hk b o (Yh (Xr z)) (k0 b o z)
 have hle:s1.heap.objs.size<=(s1.heap.push (PySem.revObj l ((its.toArray.size:Int) - 1))).objs.size:=by rw [s0];exact Nat.le_succ _
 refine ⟨.ref _,_,I1.laid (t':=tk) (o:=.lst xs.reverse) k1 hle ⟨by simp;omega,acc'.toList,c',rr,by simpa using hS⟩,rfl,q _ (I1.hok.fresh hle)⟩⟩
end
def Gu (h:Heap) (T:Addr):Prop:=∃ oT ts,h.get? T=some oT/\oT.data= .fields ts/\3 < ts.size
def fU (C:Addr) (dd:Option Addr) (vs:Array Value):Obj:={cls:=.ref C,dict:=dd,data:=.fields vs}
def NT (l:List Env):List Addr:=l.filterMap (·.frame)
section
variable {M:Model} {A:Around} {E:Value->Shared->Prop}
theorem xR {base:Heap} {env:Env} {outer:List Env} {L x C:Addr} {dd:Option Addr} {vs:Array Value} {hd:Value} {had:Bool} {Q:Unit->Shared->Prop} {s:Shared}
  (fr:A.frames=some (env :: outer)) (ff:s.heap.FunFrames base (env :: outer)) (fL:env.frame=some L) (ex:s.heap.get? x=some (fU C dd vs)) (sz:1 < vs.size) (nx:x ∉ NT (env :: outer))
  (k:∀ h' T,h'.get? x=some (fU C dd (vs.setIfInBounds 1 (.ref T)))->s.heap.objs.size<=T->Gu h' T->(∀ b o,b≠x->b ∉ NT (env :: outer)->s.heap.get? b=some o->h'.get? b=some o)->
   (∀ b o,b≠x->s.heap.get? b=some o->∃ sl,h'.get? b=some {o with slots:=sl})->Q () {s with heap:=h'}):
  wpAny M A (do let c ← frameOf env;let pl ← entryPlaceOf L had;let t ← EntryCells.newEntry hd c .none (rawInt L) .none pl;setField (.ref x) 1 t) Q E s:=by
 refine Xj (wpAny_frameOf_fun fr ff fL fun g1 so=>?_)
 refine Xj (wpAny_entryPlaceOf fun pl isp=>?_)
 unfold EntryCells.newEntry newFields
 refine Xj (Y8 ?_ (isp.sizeOk5 _ _ _ _ _))
 have x1:g1.get? x=some (fU C dd vs):=(so.2.1 x nx).trans ex
 have lts:([hd,Value.ref L,.none,rawInt L,.none] ++ (if pl.isEmpty then List.replicate 6 Value.none else pl)).toArray.size > 3:=by
  simp only [XM,Yc,Yu,Zb];omega
 generalize ([hd,Value.ref L,.none,rawInt L,.none] ++ (if pl.isEmpty then List.replicate 6 Value.none else pl)).toArray=tv at lts
 have x2:(g1.push {cls:=.type "traceback",dict:=none,data:=.fields tv}).get? x=some (fU C dd vs):=Xm _ x1
 have nTx:g1.objs.size≠x:=Zd (Xr x1)
 have t2:(g1.push {cls:=.type "traceback",dict:=none,data:=.fields tv}).get? g1.objs.size=some {cls:=.type "traceback",dict:=none,data:=.fields tv}:=Xy _ rfl
 have o2:∀ b o,g1.get? b=some o->(g1.push {cls:=.type "traceback",dict:=none,data:=.fields tv}).get? b=some o:=fun b o e=>Xm _ e
 refine wpAny_setField (vs:=vs) x2 rfl sz ?_
 have e3:=YM (Obj.mapFields (·.setIfInBounds 1 (Value.ref g1.objs.size))) x2 rfl
 have ot:∀ b,b≠x->((g1.push {cls:=.type "traceback",dict:=none,data:=.fields tv}).update x (Obj.mapFields (·.setIfInBounds 1 (Value.ref g1.objs.size)))).get? b=(g1.push {cls:=.type "traceback",dict:=none,data:=.fields tv}).get? b:=fun b hb=>Yl _ _ (Ne.symm hb)
 refine k _ g1.objs.size e3 (by rw [so.1];exact Xp _) ⟨_,tv,(ot _ nTx).trans t2,rfl,lts⟩ (fun b o hb hf e=>?_) (fun b o hb e=>?_)
 ·rw [ot b hb];exact o2 b o ((so.2.1 b hf).trans e)
 ·obtain ⟨sl,q⟩:=so.2.2 b o e
  exact ⟨sl,by rw [ot b hb];exact o2 b _ q⟩
structure Ed (fs:List Addr) (x C:Addr) (dd:Option Addr) (hd:Option Addr) (h h':Heap) (T:Addr):Prop where
 obj:∃ vs,h'.get? x=some (fU C dd vs)/\vs[1]?=some (.ref T)/\vs[2]?=some .none
 tb:Gu h' T
 ne:T≠x
 new:h.objs.size<=T\/hd=some T
 keep:∀ b o,b≠x->some b≠hd->b ∉ fs->h.get? b=some o->h'.get? b=some o
 slot:∀ b o,b≠x->some b≠hd->h.get? b=some o->∃ sl,h'.get? b=some {o with slots:=sl}
 tail:∀ b o,hd=some b->h.get? b=some o->∃ o',h'.get? b=some o'
theorem Wa {base:Heap} {env:Env} {outer:List Env} {L x C:Addr} {dd:Option Addr} {vs:Array Value} {Q:Unit->Shared->Prop} {s:Shared}
  (fr:A.frames=some (env :: outer)) (ff:s.heap.FunFrames base (env :: outer)) (fL:env.frame=some L) (ex:s.heap.get? x=some (fU C dd vs)) (h1:vs[1]?=some .none/\vs[2]?=some .none) (nx:x ∉ NT (env :: outer))
  (k:∀ h' T,Ed (NT (env :: outer)) x C dd none s.heap h' T->Q () {s with heap:=h'}):wpAny M A (noteFrame (.ref x) env) Q E s:=by
 unfold noteFrame
 simp only [fL]
 refine Xj (YL ex rfl h1.1 ?_)
 rw [if_neg (by decide)]
 have sz:1 < vs.size:=(Array.getElem?_eq_some_iff.mp h1.1).1
 refine xR fr ff fL ex sz nx fun h' T a1 a2 a3 a4 a5=>k h' T ⟨⟨_,a1,by simp [sz],by rw [Array.getElem?_setIfInBounds_ne (by decide)];exact h1.2⟩,a3,?_,.inl a2,fun b o hb _ hf e=>a4 b o hb hf e,fun b o hb _ e=>a5 b o hb e,fun b o z=>by cases z⟩
 exact Zd (XN (Xr ex) a2)
theorem Wb {base:Heap} {env:Env} {outer:List Env} {L x C T0:Addr} {dd:Option Addr} {vs:Array Value} {Q:Unit->Shared->Prop} {s:Shared}
  (fr:A.frames=some (env :: outer)) (ff:s.heap.FunFrames base (env :: outer)) (fL:env.frame=some L) (ex:s.heap.get? x=some (fU C dd vs)) (h1:vs[1]?=some (.ref T0)/\vs[2]?=some .none) (t0:Gu s.heap T0) (ne:T0≠x) (nx:x ∉ NT (env :: outer)) (nT:T0 ∉ NT (env :: outer))
  (k:∀ h' T,Ed (NT (env :: outer)) x C dd (some T0) s.heap h' T->Q () {s with heap:=h'}):wpAny M A (noteFrame (.ref x) env) Q E s:=by
 obtain ⟨oT,ts,g,d,l3⟩:=id t0
 unfold noteFrame
 simp only [fL]
 refine Xj (YL ex rfl h1.1 ?_)
 rw [if_pos (show (Value.ref T0 != Value.none)=true from by simp)]
 refine Xj (YL g d (Array.getElem?_eq_getElem l3) ?_)
 by_cases q:(ts[3] == rawInt L)=true
 ·rw [if_pos q]
  exact Xo (k _ T0 ⟨⟨vs,ex,h1⟩,t0,ne,.inr rfl,fun b o _ _ _ e=>e,fun b o _ _ e=>⟨o.slots,e⟩,fun b o _ e=>⟨o,e⟩⟩)
 ·rw [if_neg q]
  refine Xj (wpAny_setField g d l3 ?_)
  have tT:=YM (Obj.mapFields (·.setIfInBounds 3 Value.none)) g (Obj.isFreed_of_fields (Obj.data_mapFields d _))
  have ot:∀ b,b≠T0->(s.heap.update T0 (Obj.mapFields (·.setIfInBounds 3 Value.none))).get? b=s.heap.get? b:=fun b hb=>Yl _ _ (Ne.symm hb)
  have sz:1 < vs.size:=(Array.getElem?_eq_some_iff.mp h1.1).1
  have ff2:(s.heap.update T0 (Obj.mapFields (·.setIfInBounds 3 Value.none))).FunFrames base (env :: outer):=ff.of_keeps fun b o hb hn=>by
   refine ⟨o,(ot b (fun z=>?_)).trans hb,rfl⟩
   rw [z,g] at hb;cases hb;exact hn _ d
  refine xR (s:={s with heap:=s.heap.update T0 (Obj.mapFields (·.setIfInBounds 3 Value.none))}) fr ff2 fL ((ot x (Ne.symm ne)).trans ex) sz nx fun h' T a1 a2 a3 a4 a5=>k h' T ⟨⟨_,a1,by simp [sz],by rw [Array.getElem?_setIfInBounds_ne (by decide)];exact h1.2⟩,a3,?_,.inl (by rw [Heap.size_update] at a2;exact a2),fun b o hb h0 hf e=>a4 b o hb hf ((ot b (fun z=>h0 (by rw [z]))).trans e),fun b o hb h0 e=>a5 b o hb ((ot b (fun z=>h0 (by rw [z]))).trans e),fun b o hb e=>?_⟩
  ·exact Zd (XN (Xr ex) (by rw [Heap.size_update] at a2;exact a2))
  ·cases hb
   obtain ⟨sl,z⟩:=a5 T0 _ ne tT
   exact ⟨_,z⟩
theorem Wc {x C T0:Addr} {dd:Option Addr} {vs:Array Value} {Q:Unit->Shared->Prop} {s:Shared} (ex:s.heap.get? x=some (fU C dd vs)) (h1:vs[1]?=some (.ref T0)/\vs[2]?=some .none) (t0:Gu s.heap T0) (ne:T0≠x)
  (k:∀ h',Ed [] x C dd (some T0) s.heap h' T0->Q () {s with heap:=h'}):wpAny M A (setFlight (.ref x) none) Q E s:=by
 obtain ⟨oT,ts,g,d,l3⟩:=id t0
 unfold setFlight
 refine Xj (YL ex rfl h1.1 ?_)
 rw [if_pos (show (Value.ref T0 != Value.none)=true from by simp)]
 refine wpAny_setField g d l3 (k _ ?_)
 have d2:=Obj.data_mapFields d (·.setIfInBounds 3 ((none:Option Addr).elim Value.none fun f=>rawInt f))
 have tT:=YM (Obj.mapFields (·.setIfInBounds 3 ((none:Option Addr).elim Value.none fun f=>rawInt f))) g (Obj.isFreed_of_fields d2)
 have ot:∀ b,b≠T0->(s.heap.update T0 (Obj.mapFields (·.setIfInBounds 3 ((none:Option Addr).elim Value.none fun f=>rawInt f)))).get? b=s.heap.get? b:=fun b hb=>Yl _ _ (Ne.symm hb)
 exact ⟨⟨vs,(ot x (Ne.symm ne)).trans ex,h1⟩,⟨_,_,tT,d2,by simpa using l3⟩,ne,.inr rfl,fun b o _ h0 _ e=>(ot b (fun z=>h0 (by rw [z]))).trans e,fun b o _ h0 e=>⟨o.slots,(ot b (fun z=>h0 (by rw [z]))).trans e⟩,fun b o hb e=>by cases hb;exact ⟨_,tT⟩⟩
end
def Wd:List Value:=[.type "ValueError",.type "Exception",.type "BaseException",.type "object"]
def UW (K:W.Frag) (D:Addr):Bool:=match K.lookup D with
 | some ⟨.type "type",_,.cls cd,sl⟩=>(match cd.mro,sl.toList with
  | .ref E :: bm,[_,_,_,_,some (.builtin n),_]=>E == D && n == "ValueError.__new__" && cd.hasDel == false && cd.hasDict && PySem.W.tailIn K Wd bm
  | _,_=>false)
 | _=>false
theorem vR {K:W.Frag} {D:Addr} (q:UW K D=true):∃ nm qn N bs bm sn sub ab col dd k0 k1 k2 k3 k5,K.lookup D=some (excClassObj nm qn D N bs bm true sn sub ab col dd k0 k1 k2 k3 k5 "ValueError.__new__")/\∀ h,K.In h->OwnTail h Wd bm:=by
 unfold UW at q
 split at q
 ·rename_i dd cd sl ho
  split at q
  ·rename_i D' bm k0 k1 k2 k3 n k5 hm hs
   simp only [XQ,Zh] at q
   obtain ⟨⟨⟨⟨e1,e2⟩,e3⟩,e4⟩,e5⟩:=q
   subst e1 e2
   obtain ⟨nm,bs,mro,ns,qn,hd,sn,sub,ab,col,del⟩:=cd
   dsimp only at hm e3 e4
   subst hm e3 e4
   have hsl:sl= #[k0,k1,k2,k3,some (.builtin "ValueError.__new__"),k5]:=by
    obtain ⟨l⟩:=sl
    dsimp only at hs
    rw [hs]
   subst hsl
   exact ⟨nm,qn,ns,bs,bm,sn,sub,ab,col,dd,k0,k1,k2,k3,k5,ho,fun h X=>PySem.W.tail_of_in X e5⟩
  ·cases q
 ·cases q
section
variable {prog:Program} {w:World} {A:Around} {K:W.Frag} {D f:Addr} {E:Value->Shared->Prop}
theorem zX {h:Heap} {g:Array GenState} {d:Drawn} {t:Nat} {os:OsState} {us:List Value} {Q:Fin->Shared->Prop} (X:K.In h) (hx:UW K D=true)
  (hi:PySem.W.findIn K (.ref D) "__init__"=some (some (.ref f))) (hf:PySem.W.typeIn K (.ref f)=some (.type "function")) (hl:us.length<=sizeLine)
  (k:wpAny (model prog w) A (call (.ref f) (.ref (h.objs.size+1) :: us)) (fun r s'=>r= .none/\Q (.done (.ret (.ref (h.objs.size+1)))) s') E
   ⟨(h.push {cls:=.type "tuple",data:=.seq us.toArray}).push (fU D none #[.ref h.objs.size,.none,.none,.none,.bool false,.none]),g,d,t,os⟩):
  wpAny (model prog w) A (Builtin.«type.__call__» ⟨.ref D :: us,[]⟩) Q E ⟨h,g,d,t,os⟩:=by
 obtain ⟨nm,qn,N,bs,bm,sn,sub,ab,col,dd,k0,k1,k2,k3,k5,lk0,tl⟩:=vR hx
 have T:=tl h X
 have hD:=X _ _ lk0
 have L3:=Zc (M:=model prog w) X hi
 have L4:=PySem.W.bind_fn (M:=model prog w) X (.ref (h.objs.size+1)) hf
 repeat (first | with_reducible refine Y9 hD ?_ | with_reducible refine wpAny_madeBy_exc hD ?_ | wp_step)
 refine codeAny_call_builtin_code (Code.quiet_builtin _ F.excBase_ValueError.quiet) (wpAny_check_new_subT F.excBase_ValueError T hD (codeAny_exc_new_subT F.excBase_ValueError T hD ?_ hl))
 show wpAny _ _ _ _ _ _
 have keep:∀ b o,h.get? b=some o->((h.push {cls:=.type "tuple",data:=.seq us.toArray}).push (fU D none #[.ref h.objs.size,.none,.none,.none,.bool false,.none])).get? b=some o:=fun b o q=>Xm _ (Xm _ q)
 have gx:((h.push {cls:=.type "tuple",data:=.seq us.toArray}).push (fU D none #[.ref h.objs.size,.none,.none,.none,.bool false,.none])).get? (h.objs.size+1)=some (fU D none #[.ref h.objs.size,.none,.none,.none,.bool false,.none]):=by
  have:=Xy (h.push {cls:=.type "tuple",data:=.seq us.toArray}) (o:=fU D none #[.ref h.objs.size,.none,.none,.none,.bool false,.none]) rfl
  rwa [YT] at this
 have hD1:=keep _ _ hD
 have M3:=L3.keeps keep
 have M4:=L4.keeps keep
 have cD:(Value.ref D :: bm).contains (.ref D)=true:=by simp
 unfold fU at gx M3 M4 hD1 k
 unfold isInstance
 repeat (first | with_reducible refine Y9 gx ?_ | (with_reducible refine ZG hD1 ?_;rw [cD]) | wp_step)
 show wpAny _ _ (typeLookup (.ref D) _) _ _ _
 refine M3.at ?_
 refine Yq (Xj (M4.at ?_))
 dsimp only
 refine Xj (YS k (fun r s' hr=>?_) fun _ _ z=>z)
 obtain ⟨rfl,z⟩:=hr
 wp_walk
 exact z
theorem Tj {s:Shared} {us:List Value} {Q:Value->Shared->Prop} (X:K.In s.heap) (hx:UW K D=true)
  (hi:PySem.W.findIn K (.ref D) "__init__"=some (some (.ref f))) (hf:PySem.W.typeIn K (.ref f)=some (.type "function")) (hl:us.length<=sizeLine)
  (k:wpAny (model prog w) (A.under (.builtin "type.__call__" ⟨.ref D :: us,[]⟩)) (call (.ref f) (.ref (s.heap.objs.size+1) :: us)) (fun r s'=>r= .none/\Q (.ref (s.heap.objs.size+1)) s') E
   {s with heap:=(s.heap.push {cls:=.type "tuple",data:=.seq us.toArray}).push (fU D none #[.ref s.heap.objs.size,.none,.none,.none,.bool false,.none])}):
  wpAny (model prog w) A (call (.ref D) us) Q E s:=by
 obtain ⟨h,g,d,t,os⟩:=s
 obtain ⟨nm,qn,N,bs,bm,sn,sub,ab,col,dd,k0,k1,k2,k3,k5,lk0,tl⟩:=vR hx
 have hD:=X _ _ lk0
 have f1:=tc_lookup
 have f2:=tc_bind (.ref D)
 have hT:(⟨h,g,d,t,os⟩:Shared).TypeIs (.ref D) "type":=⟨_,hD,rfl⟩
 refine Z2 (codeAny_of_tree ?_)
 show wpAny _ _ (callAny (.ref D) _) _ _ _
 repeat (any_goals (first | assumption | with_reducible refine Y9 hD ?_ | wp_step))
 refine ⟨rfl,codeAny_call_builtin_at (Code.quiet_builtin _ (by trivial)) entry_typeCall (wpAny_check_type_call_sub hD (zX X hx hi hf hl ?_))⟩
 exact k
end
def tK (x C dx:Addr):HO:=.ext fun h=>∃ vs,h.get? x=some (fU C (some dx) vs)/\vs[2]?=some .none
def jW (x C:Addr):HO:=.ext fun h=>∃ t,h.get? x=some (fU C none #[.ref t,.none,.none,.none,.bool false,.none])
theorem Ef {P:Program} {w:World} {H:Hp} {h:Heap} {x C dx:Addr} {vs:Array Value} (e:h.get? x=some (fU C (some dx) vs)) (h2:vs[2]?=some .none):ObjOk P w H h x (tK x C dx):=
 ⟨⟨vs,e,h2⟩,⟨_,e⟩,fun h1 h2 ⟨vs,e,z⟩ k=>⟨vs,k _ e,z⟩⟩
theorem Eg {P:Program} {w:World} {H:Hp} {h:Heap} {x C dx:Addr} (ok:HOk P w H h) (e:H x=some (tK x C dx)):∃ vs,h.get? x=some (fU C (some dx) vs)/\vs[2]?=some .none:=(ok _ _ e).1
structure Head (X:Cx) (pins:List (Addr×Obj)) (H:Hp) (x C dx T:Addr) (h:Heap):Prop where
 obj:∃ vs,h.get? x=some (fU C (some dx) vs)/\vs[1]?=some (.ref T)/\vs[2]?=some .none
 tb:Gu h T
 fp:n6 X pins H T
 tr:H x=some (tK x C dx)
theorem Head.ne {X:Cx} {pins:List (Addr×Obj)} {H:Hp} {x C dx T:Addr} {h:Heap} (a:Head X pins H x C dx T h):T≠x:=fun z=>by
 have:=a.fp.1
 rw [z,a.tr] at this;cases this
def Fly (X:Cx) (pins:List (Addr×Obj)) (H:Hp) (x C dx:Addr) (h:Heap):Prop:=
 H x=some (tK x C dx)/\((∃ vs,h.get? x=some (fU C (some dx) vs)/\vs[1]?=some .none/\vs[2]?=some .none)\/∃ T,Head X pins H x C dx T h)
section
variable {X:Cx} {pins:List (Addr×Obj)} {U:St} {H:Hp} {s:Shared} {x C dx:Addr} {h':Heap} {T:Addr} {hd:Option Addr}
theorem Inv.noted {fs:List Addr} (I:Inv X pins U H s) (hx:H x=some (tK x C dx)) (hh:∀ b,hd=some b->n6 X pins H b) (hf:∀ b∈fs,b∈X.env.locals :: X.fs) (N:Ed fs x C (some dx) hd s.heap h' T):Inv X pins U H {s with heap:=h'}:=by
 obtain ⟨m,⟨oL,esL,epL,hoL,rL⟩,_⟩:=id I.loc
 have fsF:∀ b∈fs,H b=none:=fun b hb=>by
  rcases XD.mp (hf b hb) with e | hb
  ·rw [e];exact I.free
  ·obtain ⟨_,o,ho,_⟩:=I.ok.funs.mem hb
   exact I.base.free b o ho (I.ok.frf b hb) fun z=>I.ok.exfs b z hb
 have nx:∀ b,H b=none->b≠x:=fun b n z=>by rw [z,hx] at n;cases n
 have hdF:∀ b,hd=some b->H b=none:=fun b e=>(hh b e).1
 have mem:∀ b,b ∉ hd.toList->some b≠hd:=fun b nb z=>nb (by rw [← z];simp)
 refine I.step (g':=s.gens) (d':=s.drawn) (t':=s.toks) (ch:=hd.toList) (fun b hb=>?_) (fun b o hL hb hc e n=>?_) (fun b o hL hb hc e n=>?_) (fun _ _ _ _ n=>n) (fun b o hc e=>?_) (fun _ _ e=>e) (fun _ _ _ e=>e) (fun b ps e=>⟨#[],by rw [e];simp⟩) (fun m hm=>?_) (fun b u e=>?_) I.bare
 ·have e:hd=some b:=by cases hd <;> simp_all
  obtain ⟨_,a2,_,a4,a5,a6⟩:=hh b e
  exact ⟨a4,a2,a5,a6⟩
 ·refine N.keep b o (nx b n) (mem b hc) (fun z=>?_) e
  rcases XD.mp (hf b z) with q | q
  ·exact hL q
  ·exact hb q
 ·exact N.slot b o (nx b n) (mem b hc) e
 ·by_cases q:b=x
  ·obtain ⟨vs,z,_⟩:=N.obj
   exact ⟨_,by rw [q];exact z⟩
  ·obtain ⟨sl,z⟩:=N.slot b o q (mem b hc) e
   exact ⟨_,z⟩
 ·obtain ⟨o,es,ep,ho,r⟩:=hm
  obtain ⟨sl,z⟩:=N.slot _ o (nx _ I.free) (fun q=>(hh _ q.symm).2.1 rfl) ho
  exact ⟨_,es,ep,z,r⟩
 ·by_cases q:b=x
  ·subst q
   rw [hx] at e;cases e
   obtain ⟨vs,z,_,z2⟩:=N.obj
   exact Ef z z2
  ·refine (I.hok b u e).stay (fun c v hc z=>?_) (fun _ q=>q) fun _ _ q=>q
   have tc:∃ u,H c=some u:=by
    rcases hc with rfl | hc
    ·exact ⟨_,e⟩
    ·exact ⟨_,hc⟩
   obtain ⟨uc,tc⟩:=tc
   refine N.keep c v (fun zz=>?_) (fun zz=>?_) (fun zz=>?_) z
   ·rcases hc with rfl | hc
    ·exact q zz
    ·rw [zz,hx] at hc;cases hc
   ·rw [hdF c zz.symm] at tc;cases tc
   ·rw [fsF c zz] at tc;cases tc
theorem zY {A:Around} {E:Value->Shared->Prop} {Q:Unit->Shared->Prop} (I:Inv X pins U H s) (hst:X.stack=X.env :: X.outer) (hfr:X.env.frame=some X.env.locals) (hA:A.frames=some X.stack) (F:Fly X pins H x C dx s.heap)
  (k:∀ h' T,Inv X pins U H {s with heap:=h'}->Head X pins H x C dx T h'->Q () {s with heap:=h'}):wpAny (model X.prog X.w) A (noteFrame (.ref x) X.env) Q E s:=by
 have ff:s.heap.FunFrames X.base (X.env :: X.outer):=hst ▸ I.stack
 have sub:∀ b∈NT (X.env :: X.outer),b∈X.env.locals :: X.fs:=fun b hb=>I.stkSub b (by rw [hst];exact hb)
 have nf:∀ b u,H b=some u->b ∉ NT (X.env :: X.outer):=fun b u e z=>by
  rw [I.stkFree b (by rw [hst];exact z)] at e;cases e
 obtain ⟨hx,⟨vs,e,h1⟩ | ⟨T0,hT⟩⟩:=F
 ·refine Wa (hst ▸ hA) ff hfr e h1 (nf x _ hx) fun h' T N=>?_
  have J:=I.noted hx (fun b z=>by cases z) sub N
  refine k h' T J ⟨N.obj,N.tb,?_,hx⟩
  have zT:s.heap.objs.size<=T:=by rcases N.new with z | z;exact z;cases z
  exact I.fpOk zT (I.hok.fresh zT)
 ·obtain ⟨vs,e,h1⟩:=hT.obj
  refine Wb (hst ▸ hA) ff hfr e h1 hT.tb hT.ne (nf x _ hx) (fun z=>?_) fun h' T N=>?_
  ·rcases XD.mp (sub T0 z) with q | q
   ·exact hT.fp.2.1 q
   ·exact hT.fp.2.2.1 q
  ·have J:=I.noted hx (fun b z=>by cases z;exact hT.fp) sub N
   refine k h' T J ⟨N.obj,N.tb,?_,hx⟩
   rcases N.new with z | z
   ·exact I.fpOk z (I.hok.fresh z)
   ·cases z;exact hT.fp
theorem vU {A:Around} {E:Value->Shared->Prop} {Q:Unit->Shared->Prop} (I:Inv X pins U H s) (F:Head X pins H x C dx T s.heap)
  (k:∀ h',Inv X pins U H {s with heap:=h'}->Head X pins H x C dx T h'->Q () {s with heap:=h'}):wpAny (model X.prog X.w) A (setFlight (.ref x) none) Q E s:=by
 obtain ⟨vs,e,h1⟩:=F.obj
 refine Wc e h1 F.tb F.ne fun h' N=>?_
 exact k h' (I.noted F.tr (fun b z=>by cases z;exact F.fp) (fun b z=>absurd z (by simp)) N) ⟨N.obj,N.tb,F.fp,F.tr⟩
def NZ (P:Program) (w:World):FQ:=fun outer H s E e s'=>∃ x C dx T H',e= .ref x/\s'.os=s.os/\AllBare s'.gens/\Un (frs outer) [] H H' s.heap s'.heap/\HOk P w H' s'.heap/\H' x=some (tK x C dx)/\H' T=none/\s.heap.objs.size<=T/\
 (∃ vs,s'.heap.get? x=some (fU C (some dx) vs)/\vs[1]?=some (.ref T)/\vs[2]?=some .none)/\Gu s'.heap T/\E (.ref C) (some x) H'
def XE (X:Cx) (pins:List (Addr×Obj)) (R:St->XK) (e:Value) (s':Shared):Prop:=∃ x C dx U H',e= .ref x/\Inv X pins U H' s'/\Fly X pins H' x C dx s'.heap/\R U (.ref C) (some x) H'
theorem Eh {R:St->XK} {e:Value} {s':Shared} (I:Inv X pins U H s) (c:NZ X.prog X.w X.stack H s (R U) e s'):XE X pins R e s':=by
 obtain ⟨x,C,dx,T,H',rfl,os,bare,un,hok,tx,tT,zT,ob,tb,r⟩:=c
 obtain ⟨hh,g,d,t,os'⟩:=s'
 obtain rfl:os'=s.os:=os
 have J:=I.call (h':=hh) (g':=g) (d':=d) (t':=t) (ch:=[]) un hok bare (fun b z=>absurd z (by simp))
 exact ⟨x,C,dx,U,H',rfl,J,⟨tx,.inr ⟨T,ob,tb,I.fpOk zT tT,tx⟩⟩,r⟩
def lD (X:Cx) (R:St->XK):Prop:=∀ (pins:List (Addr×Obj)) (e:Value) (s':Shared),XE X pins R e s'->X.xe e s'
end
theorem aG {P:Program} {w:World} {K:W.Frag} {mg:Str->Option Value} {base:Heap} {N:List Str} {qual:Str} {scope:Scope} {f:Addr} {cd:Value} {A:Around} {outer:List Env} {s:Shared} {H:Hp} {E:XK}:
  lD (ql (NZ P w) P w K mg base N qual scope f cd A outer s H E) (fun _=>E):=by
 rintro pins e s' ⟨x,C,dx,U,H',he,I,F,r⟩
 subst he
 show wpAny _ _ (leaving _ _) _ _ _
 unfold leaving
 refine Xj (zY (X:=ql (NZ P w) P w K mg base N qual scope f cd A outer s H E) I rfl rfl I.ok.frames F fun h1 T J1 F1=>?_)
 refine vU (X:=ql (NZ P w) P w K mg base N qual scope f cd A outer s H E) J1 F1 fun h2 J2 F2=>?_
 refine ⟨x,C,dx,T,H',rfl,J2.os,J2.bare,J2.base,J2.hok,F2.tr,F2.fp.1,?_,F2.obj,F2.tb,r⟩
 rcases F2.fp.2.2.2.1 with z | z
 ·exact absurd (show T∈([]:List Addr) from z) (by simp)
 ·exact z
def mG (d:Addr) (fs:List (Str×V)):HO:=.ext fun h=>∃ mA,h.Ns1 d mA/\∀ f,RelO (fs.lookup f) (mA f)
theorem yG {P:Program} {w:World} {H:Hp} {h:Heap} {d:Addr} {fs:List (Str×V)} {mA:Str->Option Value} (n:h.Ns1 d mA) (r:∀ f,RelO (fs.lookup f) (mA f)):ObjOk P w H h d (mG d fs):=by
 refine ⟨⟨mA,n,r⟩,let ⟨o,_,_,e,_⟩:=n;⟨o,e⟩,fun h1 h2 ⟨m,n,r⟩ k=>⟨m,?_,r⟩⟩
 obtain ⟨o,es,ep,e,q⟩:=n
 exact ⟨o,es,ep,k _ e,q⟩
theorem u0 {P:Program} {w:World} {H:Hp} {h:Heap} {d:Addr} {fs:List (Str×V)} (ok:HOk P w H h) (e:H d=some (mG d fs)):∃ mA,h.Ns1 d mA/\∀ f,RelO (fs.lookup f) (mA f):=(ok _ _ e).1
def iD (x C d:Addr):HO:=.ext fun h=>∃ t,h.get? x=some (fU C (some d) #[.ref t,.none,.none,.none,.bool false,.none])
theorem Gv {P:Program} {w:World} {H:Hp} {h:Heap} {x C d t:Addr} (e:h.get? x=some (fU C (some d) #[.ref t,.none,.none,.none,.bool false,.none])):ObjOk P w H h x (iD x C d):=
 ⟨⟨t,e⟩,⟨_,e⟩,fun h1 h2 ⟨t,e⟩ k=>⟨t,k _ e⟩⟩
theorem tL {P:Program} {w:World} {H:Hp} {h:Heap} {x C d:Addr} (ok:HOk P w H h) (e:H x=some (iD x C d)):∃ t,h.get? x=some (fU C (some d) #[.ref t,.none,.none,.none,.bool false,.none]):=(ok _ _ e).1
def iu:List Value->Bool
 | [.type a,.type b,.type c,.type d]=>a == "ValueError" && b == "Exception" && c == "BaseException" && d == "object"
 | .ref _ :: r=>iu r
 | _=>false
theorem uC {l:List Value} (e:iu l=true):(∃ a r,l= .ref a :: r/\iu r=true)\/l=Wd:=by
 unfold iu at e
 split at e
 ·simp only [XQ,Zh] at e
  obtain ⟨⟨⟨rfl,rfl⟩,rfl⟩,rfl⟩:=e
  exact .inr rfl
 ·exact .inl ⟨_,_,rfl,e⟩
 ·cases e
theorem uD (self:Value):∀ (l:List Value),iu l=true->refuseLoop self "__setattr__" l=pure ()
 | [],e=>by cases e
 | v :: r,e=>by
  rcases uC e with ⟨a,r',q,e'⟩ | q
  ·cases q
   rw [refuseLoop_ref]
   exact uD self r e'
  ·rw [q]
   exact F.store_ValueError.passes self
theorem vV:∀ (l:List Value),iu l=true->l.contains (.type "object")=true/\l.contains (.type "BaseException")=true
 | [],e=>by cases e
 | v :: r,e=>by
  rcases uC e with ⟨a,r',q,e'⟩ | q
  ·cases q
   obtain ⟨h1,h2⟩:=vV r e'
   exact ⟨by rw [Zj,h1,Bool.or_true],by rw [Zj,h2,Bool.or_true]⟩
  ·rw [q]
   decide
def Tp (K:W.Frag) (C:Addr):Bool:=UW K C && (PySem.W.clsIn K C).any (fun cd=>iu cd.mro && cd.hasDict) && PySem.W.findIn K (.ref C) "__setattr__" == some (some (.builtin "object.__setattr__")) &&
 PySem.W.findIn K (.ref C) "__getattribute__" == some (some (.builtin "BaseException.__getattribute__")) && PySem.W.findIn K (.ref C) "__getattr__" == some none
structure XCls (K:W.Frag) (C:Addr):Prop where
 xi:UW K C=true
 ov:∃ cd,PySem.W.clsIn K C=some cd/\iu cd.mro=true/\cd.hasDict=true
 sa:PySem.W.findIn K (.ref C) "__setattr__"=some (some (.builtin "object.__setattr__"))
 ga:PySem.W.findIn K (.ref C) "__getattribute__"=some (some (.builtin "BaseException.__getattribute__"))
 gh:PySem.W.findIn K (.ref C) "__getattr__"=some none
theorem N5 {K:W.Frag} {C:Addr} (h:Tp K C=true):XCls K C:=by
 unfold Tp at h
 simp only [XQ,Zh] at h
 obtain ⟨⟨⟨⟨h1,h2⟩,h3⟩,h4⟩,h5⟩:=h
 obtain ⟨cd,a,b⟩:=PySem.W.any_some h2
 simp only [XQ] at b
 exact ⟨h1,⟨cd,a,b.1,b.2⟩,h3,h4,h5⟩
theorem N6 {l:List Value} (e:iu l=true):l.isEmpty=false:=by
 cases l with
 | nil=>cases e
 | cons _ _=>rfl
section
variable {prog:Program} {w:World} {A:Around} {s:Shared} {K:W.Frag} {x C:Addr} {R:Result->Shared->Prop}
theorem XCls.mro {c:Value} {b:Bool} (k:XCls K C) (h:∀ cd,PySem.W.clsIn K C=some cd->iu cd.mro=true->cd.mro.contains c=b):PySem.W.mroIn K C c=some b:=by
 obtain ⟨cd,a,o,_⟩:=k.ov
 unfold PySem.W.mroIn
 rw [a,Option.bind_some,if_neg (by rw [N6 o];decide),h cd a o]
theorem XCls.isObj (k:XCls K C):PySem.W.mroIn K C (.type "object")=some true:=k.mro fun cd _ o=>(vV _ o).1
theorem XCls.isExc (k:XCls K C):PySem.W.mroIn K C (.type "BaseException")=some true:=k.mro fun cd _ o=>(vV _ o).2
theorem Qw {ox:Obj} {od:Option Obj} {name:Str} {tk:Tok} {v:Value} (X:K.In s.heap) (I:PySem.W.InstAt s.heap x ox C od) (c:XCls K C) (ht:NoAttr K C name)
  (h:wpAny (model prog w) A.in1 (Builtin.ObjectAttr.storeInOwnDict (.ref x) (.ref C) (.str name tk) name v false)
   (fun fin s'=>match fin with | .done f=>R (.ok f) s' | .again c'=>c'.quiet=true/\codeAny (model prog w) A c' R s') (fun e s'=>R (.error e) s') s):
  codeAny (model prog w) A (.call (.builtin "object.__setattr__") ⟨[.ref x,.str name tk,v],[]⟩) R s:=by
 obtain ⟨cd,hc,ho,_⟩:=c.ov
 have sub:PySem.W.Looks (model prog w) s.heap (isInstance (.ref x) (.type "object")) true:=I.type.andThen (PySem.W.looks_mroIn X c.isObj)
 refine Z5 F.store_object.slot.plain F.store_object.entry (@PySem.W.check_slot (model prog w) _ _ s "object.__setattr__" "object" "__setattr__" (.ref x) [.str name tk,v] [] _ F.store_object.kind F.store_object.split sub (F.store_object.args (.ref x) (.str name tk) v) ?_)
 have hm:PySem.W.Looks (model prog w) s.heap (mroOf (.ref C)) cd.mro:=(PySem.W.looks_clsIn X hc).andThen .now
 have L3:PySem.W.Looks (model prog w) s.heap (Builtin.ObjectAttr.storeTaker? none) none:=.now
 rw [PySem.W.osa_eq,refuse_eq]
 refine Xj (Xj (I.type.here (Xj (hm.here ?_))))
 rw [uD _ _ ho]
 refine Xo (Xj (I.type.here (Xj ((Zc X ht).here (Xj (L3.here ?_))))))
 exact h
end
theorem JF {H:Hp} {d x:Addr} {a b c:HO} (n:d≠x):upd (upd (upd H d a) x b) d c=upd (upd H x b) d c:=by
 funext y
 unfold upd
 by_cases h:y=d
 ·simp [h]
 ·simp [h]
section
variable {X:Cx} {pins:List (Addr×Obj)} {U:St} {H:Hp} {s:Shared} {x C d:Addr} {fs:List (Str×V)} {f:Str} {v y:V} {u:Value} {A:Around} {E:Value->Shared->Prop}
theorem We {Q:Unit->Shared->Prop} (I:Inv X pins U H s) (e:H x=some (jW x C)) (c:XCls X.K C) (n:NoAttr X.K C f) (ry:RelV y u)
  (h:∀ s' d,H d=none->d≠x->Inv X pins U (upd (upd H x (iD x C d)) d (mG d [(f,y)])) s'->Q () s'):wpAny (model X.prog X.w) A (setAttr (.ref x) f u) Q E s:=by
 obtain ⟨⟨t,hx⟩,-,-⟩:ObjOk X.prog X.w H s.heap x (jW x C):=I.hok x _ e
 obtain ⟨cd,hc,ho,hd⟩:=c.ov
 have J:PySem.W.InstAt s.heap x (fU C none #[.ref t,.none,.none,.none,.bool false,.none]) C none:=⟨hx,rfl,rfl,True.intro⟩
 refine PySem.W.set_plain I.kIn J c.sa (Qw (s:={s with toks:=s.toks+1}) I.kIn J c n ?_)
 refine Xj (Xo (Xj (Xj (Z1 hx (Xj ((PySem.W.looks_clsIn (M:=model X.prog X.w) I.kIn hc).here (s:={s with toks:=s.toks+1}) ?_))))))
 rw [hd]
 have hp:s.heap.objs.size≠x:=Zd (Xr hx)
 have hx1:(s.heap.push {cls:=.type "dict",data:=.dict #[]}).get? x=some (fU C none #[.ref t,.none,.none,.none,.bool false,.none]):=Xm _ hx
 have d1:(s.heap.push {cls:=.type "dict",data:=.dict #[]}).get? s.heap.objs.size=some {cls:=.type "dict",data:=.dict #[]}:=Xy _ rfl
 have n1:∀ {hh:Heap},hh.get? s.heap.objs.size=some {cls:=.type "dict",data:=.dict #[]}->hh.Ns1 s.heap.objs.size (fun _=>none):=fun q=>Heap.Ns1.of_empty ⟨_,#[],_,q,rfl,fun e he=>absurd he (by simp),fun _=>rfl⟩
 have I1:Inv X pins U (upd H s.heap.objs.size (mG s.heap.objs.size [])) {s with heap:=s.heap.push {cls:=.type "dict",data:=.dict #[]},toks:=s.toks+1}:=
  I.laid (t':=s.toks+1) (fun b o q=>Xm _ q) (Xp _) (yG (n1 d1) fun g=>True.intro)
 refine Xj (wpAny_alloc' ?_)
 refine Xj (wpAny_update' hx1 ?_)
 have hx2:=YM (fun o:Obj=>({o with dict:=some s.heap.objs.size}:Obj)) hx1 rfl
 have ot:∀ b,b≠x->((s.heap.push {cls:=.type "dict",data:=.dict #[]}).update x fun o=>{o with dict:=some s.heap.objs.size}).get? b=(s.heap.push {cls:=.type "dict",data:=.dict #[]}).get? b:=fun b hb=>Yl _ _ (Ne.symm hb)
 have e1:upd H s.heap.objs.size (mG s.heap.objs.size []) x=some (jW x C):=(aC (Ne.symm hp)).trans e
 have I2:Inv X pins U (upd (upd H s.heap.objs.size (mG s.heap.objs.size [])) x (iD x C s.heap.objs.size)) {s with heap:=(s.heap.push {cls:=.type "dict",data:=.dict #[]}).update x fun o=>{o with dict:=some s.heap.objs.size},toks:=s.toks+1}:=
  I1.write (t':=s.toks+1) (x:=x) (e:=x) (by rw [e1];exact True.intro) (.inl rfl) (fun b o hb q=>(ot b hb).trans q) ⟨_,hx2⟩ (Gv hx2)
 refine Xo (Xj (Xo (Xj ?_)))
 refine wpAny_nsSet1 (n1 ((ot _ hp).trans d1)) fun h' hn' hs=>?_
 obtain ⟨oD,esD,epD,hoD,hdD,hcD⟩:=hn'.count (PySem.Within.cons f u PySem.Within.nil)
 refine Xj (wpAny_lookBehind hoD (by rw [hdD];exact pastItsLine_dict (Xv hcD (by rw [Yu,Zb,sizeLine_eq];omega))) ?_)
 refine Xo (h _ s.heap.objs.size (I.hok.fresh (Xp _)) hp ?_)
 rw [← JF (a:=mG s.heap.objs.size []) hp]
 refine I2.write (x:=s.heap.objs.size) (e:=s.heap.objs.size) (by rw [aC hp,aj];exact True.intro) (.inl rfl) (fun b o hb q=>(hs.2 b hb).trans q) ⟨_,hoD⟩ (yG hn' fun g=>?_)
 by_cases q:g=f
 ·have qb:(g == f)=true:=Zh.mpr q
  simp only [List.lookup,qb,if_pos q]
  exact ry
 ·have qb:(g == f)=false:=Zq.mpr q
  simp only [List.lookup,qb,if_neg q]
  exact True.intro
theorem N7 {h:Heap} {P:Program} {w:World} (ok:HOk P w H h) (e:H x=some (iD x C d)) (e2:H d=some (mG d fs)):d≠x:=fun z=>by
 subst z
 obtain ⟨t,a⟩:=tL ok e
 obtain ⟨mA,⟨o,es,ep,b,q,_⟩,_⟩:=u0 ok e2
 rw [a] at b;cases b;cases q
theorem Wf {Q:Unit->Shared->Prop} (I:Inv X pins U H s) (e:H x=some (iD x C d)) (e2:H d=some (mG d fs)) (hl:fs.length < 1000) (c:XCls X.K C) (n:NoAttr X.K C f) (ry:RelV y u)
  (h:∀ s',Inv X pins U (upd H d (mG d (cu f y fs))) s'->Q () s'):wpAny (model X.prog X.w) A (setAttr (.ref x) f u) Q E s:=by
 have ne:=N7 I.hok e e2
 obtain ⟨vs,hx⟩:=tL I.hok e
 obtain ⟨mA,nA,rA⟩:=u0 I.hok e2
 obtain ⟨cd,hc,ho,hd⟩:=c.ov
 have J:PySem.W.InstAt s.heap x (fU C (some d) #[.ref vs,.none,.none,.none,.bool false,.none]) C (some (Classical.choose nA)):=⟨hx,rfl,rfl,let ⟨_,_,q,_⟩:=Classical.choose_spec nA;q⟩
 refine PySem.W.set_plain I.kIn J c.sa (Qw (s:={s with toks:=s.toks+1}) I.kIn J c n ?_)
 refine Xj (Xo (Xj (Xj (Z1 hx (Xj ((PySem.W.looks_clsIn (M:=model X.prog X.w) I.kIn hc).here (s:={s with toks:=s.toks+1}) ?_))))))
 rw [hd]
 refine Xo (a:=some d) (Xj (Xo (Xj ?_)))
 refine wpAny_nsSet1 (s:={s with toks:=s.toks+1}) nA fun h' hn' hs=>?_
 have wi:PySem.Within mA (fs.map (·.1)):=fun z hz=>by
  have r:=rA z
  cases q:fs.lookup z with
  | none=>rw [q] at r;exact absurd (RelO.none_of r) hz
  | some a=>exact Yr.mpr ⟨(z,a),Yx q,rfl⟩
 obtain ⟨oD,esD,epD,hoD,hdD,hcD⟩:=hn'.count (PySem.Within.cons f u wi)
 refine Xj (wpAny_lookBehind hoD (by rw [hdD];exact pastItsLine_dict (Xv hcD (by rw [Yu,Xu,sizeLine_eq];omega))) ?_)
 refine Xo (h _ ?_)
 refine I.write (x:=d) (e:=d) (by rw [e2];exact True.intro) (.inl rfl) (fun b o hb q=>(hs.2 b hb).trans q) ⟨_,hoD⟩ (yG hn' fun g=>?_)
 rw [n8]
 by_cases q:g=f
 ·rw [if_pos q,if_pos q];exact ry
 ·rw [if_neg q,if_neg q];exact rA g
theorem getx {b:Bool} {Q:Value->Shared->Prop} (I:Inv X pins U H s) (e:H x=some (tK x C d)) (e2:H d=some (mG d fs)) (c:XCls X.K C) (n:NoAttr X.K C f) (l:fs.lookup f=some v)
  (h:∀ u s',Inv X pins U H s'->RelV v u->Q u s'):wpAny (model X.prog X.w) A (getAttr (.ref x) f b) Q E s:=by
 obtain ⟨vs,hx,_⟩:=Eg I.hok e
 obtain ⟨mA,nA,rA⟩:=u0 I.hok e2
 obtain ⟨cd,hc,ho,hd⟩:=c.ov
 obtain ⟨od,hod,lk⟩:=tD nA
 obtain ⟨u,hu,ru⟩:=RelO.some_of (v:=v) (o:=mA f) (by rw [← l];exact rA f)
 have J:PySem.W.InstAt s.heap x (fU C (some d) vs) C (some od):=⟨hx,rfl,rfl,hod⟩
 have hf:PySem.W.findObj X.K C (some od) f=some (.value u):=PySem.W.findObj_own (by unfold PySem.W.hasDictIn;rw [hc];exact hd) n rfl (by rw [lk,hu])
 have Z:=h u {s with toks:=s.toks+1} (I.tok _) ru
 have KI:=I.kIn
 obtain ⟨hh,g,dr,t,os⟩:=s
 have L0:=J.type (M:=model X.prog X.w)
 have L1:=Zc (M:=model X.prog X.w) KI c.ga
 have L2:=Zc (M:=model X.prog X.w) KI c.gh
 have L3:=PySem.W.looks_find (M:=model X.prog X.w) KI J hf
 have sub:PySem.W.Looks (model X.prog X.w) hh (isInstance (.ref x) (.type "BaseException")) true:=L0.andThen (PySem.W.looks_mroIn KI c.isExc)
 have hb0:(onTheHeap (Value.ref C) && Value.builtin "BaseException.__getattribute__" == Value.builtin "object.__getattribute__")=false:=by
  rw [show (Value.builtin "BaseException.__getattribute__" == Value.builtin "object.__getattribute__")=false from by trivial,Bool.and_false]
 unfold getAttr getAttrBy
 refine Xj (wpAny_mkText (Yq (Xj (L0.at (Xj (L1.at ?_))))))
 dsimp only
 rw [hb0]
 rw [if_neg Xz]
 unfold getAttrByItsOwn hookBefore
 refine Xj ?_
 rw [if_pos (show onTheHeap (Value.ref C)=true from rfl)]
 refine L2.at ?_
 refine Xj (Aab (Yq ?_))
 have hb1:(b && onTheHeap (Value.builtin "BaseException.__getattribute__"))=false:=by cases b <;> rfl
 unfold callGetattribute
 rw [hb1,if_neg Xz]
 unfold boundAndCalled
 refine Xj (wpAny_of_eq (F.attrBase_ValueError.ga.bind (.ref x)) ?_)
 refine Z2 (Z5 F.attrBase_ValueError.ga.plain F.entry_bexc_ga (@PySem.W.check_slot (model X.prog X.w) _ _ ⟨hh,g,dr,t+1,os⟩ "BaseException.__getattribute__" "BaseException" "__getattribute__" (.ref x) [.str f t] [] _ (by trivial) (by trivial) sub (F.args_bexc_ga (.ref x) (.str f t)) ?_))
 refine Xj (Xo (Xj (Xo (Xj (L0.at (Xj (L3.at ?_)))))))
 refine Xo ?_
 show wpAny _ _ (handedOut u) _ _ _
 rw [PySem.W.handedOut_of (xr ru)]
 exact Xo Z
end
def Ei (K:W.Frag) (C:Addr):Bool:=Tp K C && PySem.W.findIn K (.ref C) "__class__" == some (some (.builtin "object.__class__")) && PySem.W.specialIn K (.builtin "object.__class__") "__get__" == some (some (.builtin "getset_descriptor.__get__")) && PySem.W.takesIn K (.builtin "object.__class__") == some true
structure Qx (K:W.Frag) (C:Addr):Prop where
 cls:XCls K C
 ca:PySem.W.findIn K (.ref C) "__class__"=some (some (.builtin "object.__class__"))
 cg:PySem.W.specialIn K (.builtin "object.__class__") "__get__"=some (some (.builtin "getset_descriptor.__get__"))
 ct:PySem.W.takesIn K (.builtin "object.__class__")=some true
theorem JK {K:W.Frag} {C:Addr} (h:Ei K C=true):Qx K C:=by
 unfold Ei at h
 simp only [XQ,Zh] at h
 exact ⟨N5 h.1.1.1,h.1.1.2,h.1.2,h.2⟩
section
variable {prog:Program} {w:World} {A:Around} {E:Value->Shared->Prop} {s:Shared} {K:W.Frag} {x C:Addr} {ox od:Obj}
theorem Gw {Q:Option Value->Shared->Prop} (c:Qx K C) (KI:K.In s.heap) (J:PySem.W.InstAt s.heap x ox C (some od)) (h:Q (some (.ref C)) {s with toks:=s.toks+1}):wpAny (model prog w) A (getAttr? (.ref x) "__class__") Q E s:=by
 obtain ⟨cd,hc,ho,hd⟩:=c.cls.ov
 have hf:PySem.W.findObj K C (some od) "__class__"=some (.bind (.builtin "getset_descriptor.__get__") (.builtin "object.__class__")):=PySem.W.findObj_data (by rw [hc];rfl) c.ca c.cg c.ct
 obtain ⟨hh,g,dr,t,os⟩:=s
 have L0:=J.type (M:=model prog w)
 have L1:=Zc (M:=model prog w) KI c.cls.ga
 have L2:=Zc (M:=model prog w) KI c.cls.gh
 have L3:=PySem.W.looks_find (M:=model prog w) KI J hf
 have sub:PySem.W.Looks (model prog w) hh (isInstance (.ref x) (.type "BaseException")) true:=L0.andThen (PySem.W.looks_mroIn KI c.cls.isExc)
 have hb0:(onTheHeap (Value.ref C) && Value.builtin "BaseException.__getattribute__" == Value.builtin "object.__getattribute__")=false:=by
  rw [show (Value.builtin "BaseException.__getattribute__" == Value.builtin "object.__getattribute__")=false from by trivial,Bool.and_false]
 unfold getAttr? getAttrBy? getAttrBy
 refine Xj (wpAny_mkText (Xj (Aab (Yq (Xj (L0.at (Xj (L1.at ?_))))))))
 dsimp only
 rw [hb0,if_neg Xz]
 unfold getAttrByItsOwn hookBefore
 refine Xj ?_
 rw [if_pos (show onTheHeap (Value.ref C)=true from rfl)]
 refine L2.at ?_
 refine Xj (Aab (Yq ?_))
 unfold callGetattribute
 rw [if_neg (show ¬ ((false && onTheHeap (Value.builtin "BaseException.__getattribute__"))=true) from by decide)]
 unfold boundAndCalled
 refine Xj (wpAny_of_eq (F.attrBase_ValueError.ga.bind (.ref x)) ?_)
 refine Z2 (Z5 F.attrBase_ValueError.ga.plain F.entry_bexc_ga (@PySem.W.check_slot (model prog w) _ _ ⟨hh,g,dr,t+1,os⟩ "BaseException.__getattribute__" "BaseException" "__getattribute__" (.ref x) [.str "__class__" t] [] _ (by trivial) (by trivial) sub (F.args_bexc_ga (.ref x) (.str "__class__" t)) ?_))
 refine Xj (Xo (Xj (Xo (Xj (L0.at (Xj (L3.at ?_)))))))
 show wpAny _ _ (holding [.builtin "object.__class__"] (call (.builtin "getset_descriptor.__get__") [.builtin "object.__class__",.ref x,.ref C]) >>=ret) _ _ _
 refine Xj (Yq (Z2 (PySem.W.class_get (s:=⟨hh,g,dr,t+1,os⟩) KI J c.cls.isObj ?_)))
 refine Xo ?_
 show wpAny _ _ (handedOut (.ref C)) _ _ _
 rw [PySem.W.handedOut_of rfl]
 exact Xo (Xo h)
theorem JL (c:Qx K C):PySem.W.KitX K (.ref x) (.ref C) (fun h=>PySem.W.InstAt h x ox C (some od)) where
 ty:=fun _ _ _ I=>I.type
 it:=fun _ _ X _=>by
  obtain ⟨cd,hc,_⟩:=c.cls.ov
  unfold PySem.W.clsIn at hc
  split at hc
  ·rename_i a1 a2 a3 a4 ho
   intro A1 Q1 E1 s1 k q
   unfold isType loadHead
   exact Xj (Z1 (k _ _ (X _ _ ho)) (Xo q))
  ·cases hc
 ne:=fun h tp dd its n sl X htp=>by
  obtain ⟨cd,hc,_⟩:=c.cls.ov
  refine Bool.eq_false_iff.mpr fun q=>?_
  obtain rfl:C=tp:=Value.ref.inj (Zh.mp q)
  unfold PySem.W.clsIn at hc
  split at hc
  ·rename_i a1 a2 a3 a4 ho
   cases (X _ _ ho).symm.trans htp
  ·cases hc
 ca:=fun X I k=>Gw c X I k
end
def Ma (H:Hp) (x C:Addr) (fs:List (Str×V)):Prop:=∃ d,H x=some (tK x C d)/\H d=some (mG d fs)
def clV:V->Option Value
 | .ty T=>some (.type T)
 | .ref C=>some (.ref C)
 | _=>none
theorem JM {v:V} {u c:Value} (e:clV v=some c) (r:RelV v u):u=c:=by
 cases v <;> first | cases e;exact r | cases e
def JN:List V->Option (List Value)
 | []=>some []
 | v :: r=>match clV v,JN r with
  | some c,some l=>some (c :: l)
  | _,_=>none
theorem Ej:∀ {vs:List V} {us cs:List Value},JN vs=some cs->Vals vs us->us=cs
 | [],us,cs,e,r=>by cases r;cases e;rfl
 | v :: vs,us,cs,e,r=>by
  cases r with
  | cons r1 r2=>
   unfold JN at e
   split at e
   ·rename_i c l h1 h2
    cases e
    rw [JM h1 r1,Ej h2 r2]
   ·cases e
def Qy (K:W.Frag):List V->Hp->VK->Prop:=fun xs H Q=>∃ x t b,(TyOf K H x t\/∃ a C fs,x= .ref a/\Ma H a C fs/\Qx K C/\t= .ref C)/\
 ((∃ v c,xs=[x,v]/\clV v=some c/\PySem.W.kitOne K t c=some b)\/(∃ p vs cs,xs=[x,.ref p]/\H p=some (.tup vs)/\JN vs=some cs/\PySem.W.kitAny K t cs=some b))/\Q (.bl b) H
section
variable {X:Cx} {pins:List (Addr×Obj)} {U:St} {H:Hp} {s:Shared} {A:Around} {E:Value->Shared->Prop} {Q:Value->Shared->Prop} {c:Value} {b:Bool}
theorem JP {x:V} {u t:Value} (I:Inv X pins U H s) (rx:RelV x u) (ty:TyOf X.K H x t\/∃ a C fs,x= .ref a/\Ma H a C fs/\Qx X.K C/\t= .ref C):
  ∃ φ:Heap->Prop,PySem.W.KitX X.K u t φ/\φ s.heap/\u≠.builtin "__main__.__loader__#opaque":=by
 rcases ty with ty | ⟨a,C,fs,rfl,⟨d,e1,e2⟩,c,rfl⟩
 ·cases ty with
  | non=>cases (show u=Value.none from rx);exact ⟨_,PySem.W.kitx_none,True.intro,(fun z=>nomatch z)⟩
  | bl y=>cases (show u=Value.bool y from rx);exact ⟨_,PySem.W.kitx_bool,True.intro,(fun z=>nomatch z)⟩
  | int i=>obtain ⟨t,q⟩:=(show ∃ t,u=Value.int i t from rx);cases q;exact ⟨_,PySem.W.kitx_int,True.intro,(fun z=>nomatch z)⟩
  | str y=>obtain ⟨t,q⟩:=(show ∃ t,u=Value.str y t from rx);cases q;exact ⟨_,PySem.W.kitx_str,True.intro,(fun z=>nomatch z)⟩
  | flt y=>obtain ⟨t,q⟩:=(show ∃ t,u=Value.float y t from rx);cases q;exact ⟨_,PySem.W.kitx_float,True.intro,(fun z=>nomatch z)⟩
  | @lst a xs ea=>
   cases (show u=Value.ref a from rx)
   obtain ⟨_,_,n,_,h1⟩:=(show ObjOk X.prog X.w H s.heap a (.lst xs) from I.hok a _ ea)
   exact ⟨_,PySem.W.kitx_list,⟨_,h1,rfl⟩,(fun z=>nomatch z)⟩
  | @frz a ob xs ea=>
   cases (show u=Value.ref a from rx)
   obtain ⟨_,_,_,n,_,h1⟩:=(show ObjOk X.prog X.w H s.heap a (.frz ob (.lst xs)) from I.hok a _ ea)
   exact ⟨_,PySem.W.kitx_list,⟨_,h1,rfl⟩,(fun z=>nomatch z)⟩
  | @tup a xs ea=>
   cases (show u=Value.ref a from rx)
   obtain ⟨_,_,_,p⟩:=(show ObjOk X.prog X.w H s.heap a (.tup xs) from I.hok a _ ea)
   obtain ⟨o,h1,h2,_⟩:=p
   exact ⟨_,PySem.W.kitx_tuple,⟨o,h1,h2⟩,(fun z=>nomatch z)⟩
  | @dK a kvs ea=>
   cases (show u=Value.ref a from rx)
   obtain ⟨_,_,vs,_,p⟩:=(show ObjOk X.prog X.w H s.heap a (.dK kvs) from I.hok a _ ea)
   obtain ⟨o,es,ep,h1,h2,_⟩:=p
   exact ⟨_,PySem.W.kitx_dict,⟨o,h1,h2.1⟩,(fun z=>nomatch z)⟩
  | @dT a kvs ea=>
   cases (show u=Value.ref a from rx)
   obtain ⟨_,_,xs,_,o,es,ep,h1,h2,_⟩:=(show ObjOk X.prog X.w H s.heap a (.dT kvs) from I.hok a _ ea)
   exact ⟨_,PySem.W.kitx_dict,⟨o,h1,h2.1⟩,(fun z=>nomatch z)⟩
  | @ins a C dx fs ea cl ha hn htk hm=>
   cases (show u=Value.ref a from rx)
   obtain ⟨mA,O,_⟩:=rF I.hok ea
   obtain ⟨od,J,_⟩:=O.look
   exact ⟨_,PySem.W.kitx_own (cl.get _) cl.hd ha hn htk hm,J,(fun z=>nomatch z)⟩
 ·cases (show u=Value.ref a from rx)
  obtain ⟨vs,hx,_⟩:=Eg I.hok e1
  obtain ⟨mA,nA,rA⟩:=u0 I.hok e2
  obtain ⟨od,hod,lk⟩:=tD nA
  exact ⟨_,JL (ox:=fU C (some d) vs) (od:=od) c,⟨hx,rfl,rfl,hod⟩,(fun z=>nomatch z)⟩
theorem Gx {K:W.Frag} (hK:X.K=K):CallR X (.builtin "isinstance") (Qy K):=by
 subst hK
 intro pins s U H xs us Q I r h
 obtain ⟨x,t,b,ty,w,q⟩:=h
 rcases w with ⟨v,c,rfl,ec,e⟩ | ⟨p,vs,cs,rfl,ep,ec,e⟩
 ·obtain ⟨u,u2,rfl,ru,rv⟩:=vals2 r
  obtain rfl:=JM ec rv
  obtain ⟨φ,Z,hφ,hne⟩:=JP I ru ty
  exact YW Z I.kIn hφ e hne fun tk=>⟨.bl b,H,I.tok _,rfl,q⟩
 ·obtain ⟨u,u2,rfl,ru,rv⟩:=vals2 r
  cases (show u2=Value.ref p from rv)
  obtain ⟨φ,Z,hφ,hne⟩:=JP I ru ty
  obtain ⟨_,its,rt,o,h1,h2,n,h3⟩:=(show ObjOk X.prog X.w H s.heap p (.tup vs) from I.hok p _ ep)
  obtain rfl:=Ej ec rt
  obtain ⟨oc,odd,oda,osl⟩:=o
  dsimp only at h2 h3
  subst h2 h3
  exact PySem.W.kia_tup Z I.kIn hφ h1 e hne fun tk=>⟨.bl b,H,I.tok _,rfl,q⟩
end
def N8 (P:Program) (w:World) (K:W.Frag) (mg:Str->Option Value) (base:Heap) (k:Nat) (x:Str) (ps:List Str) (sp:Sp):Prop:=
 ∃ f fd,mg x=some (.ref f)/\PySem.W.keepIn K (.ref f)=true/\Binds K fd ps []/\FnOk P w K mg base (NZ P w) k f fd ps sp
def Cq (sp:Sp) (R:St->XK) (t:TA):TE:=fun U H Q=>t U H fun vs H1=>sp vs H1 Q (R U)
theorem xT {X:Cx} (h:∀ (e:Value) (s:Shared),X.xe e s=False):lD X (fun _ _ _ _=>False):=fun _ _ _ ⟨_,_,_,_,_,_,_,_,z⟩=>z.elim
section
variable {X:Cx} {k:Nat} {f C:Addr} {fd:FuncData} {ps:List Str} {sp:Sp} {R:St->XK} {x:Str} {p pos:Pos} {e:Expr} {es:List Expr} {t:TA} {pins:List (Addr×Obj)} {U:St} {H:Hp} {s:Shared} {Q:VK} {us:List Value} {vs:List V}
theorem yH (F:FnOk X.prog X.w X.K X.mg X.base (NZ X.prog X.w) k f fd ps sp) (hr:Room k X.A) (hb:Binds X.K fd ps []) (hx:lD X R) (I:Inv X pins U H s) (r:Vals vs us) (h:sp vs H Q (R U)):
  wpAny (model X.prog X.w) X.A (call (.ref f) us) (EP X pins U Q) X.xe s:=by
 have hl:(us ++ []).length=ps.length:=by rw [YG,← r.length];exact F.len _ _ _ _ h
 have bd:=hb s us I.kIn hl
 rw [YG] at bd
 refine Z2 (codeAny_mono (F.run X.A X.stack s H ⟨us,[]⟩ us vs Q (R U) hr I.env0 bd r h) fun rr s' hq=>?_)
 cases rr with
 | error e=>exact hx pins e s' (Eh I hq)
 | ok fl=>
  cases fl with
  | ret u=>exact I.after hq
  | next=>exact False.elim hq
  | brk=>exact False.elim hq
  | cont=>exact False.elim hq
theorem JQ (F:N8 X.prog X.w X.K X.mg X.base k x ps sp) (hr:Room k X.A) (hg:Gl X x) (hx:lD X R) (ha:PA X (e :: es) t) (hdb:(x == ("__debug__":Str))=false)
  (he:starEach (e :: es) X.env=(false,eval e X.env) :: starEach es X.env) (hpl:(backTo pos (starEach es X.env)).any (·.1)=false):PE X (.Call (.Name x p) (e :: es) [] pos) (Cq sp R t):=by
 obtain ⟨f,fd,a,b,c,d⟩:=F
 intro pins s U H Q I h
 refine Yv (pA I hg a ?_ hdb)
 refine ZP (h₀:=X.base) I.ok.mod.kin b (eQ (ha pos pins s U H _ I h) fun us s1 ⟨vs,H1,I1,r,q⟩=>⟨I1.kIn,?_⟩) he hpl
 exact yH d hr c hx I1 r q
def JR (K:W.Frag) (ta tv:TE) (f:Str):TS:=fun D U H=>tv U H fun y H1=>ta U H1 fun x H2=>∃ a C,x= .ref a/\XCls K C/\NoAttr K C f/\
 ((H2 a=some (jW a C)/\∀ d,H2 d=none->d≠a->D.nx U (upd (upd H2 a (iD a C d)) d (mG d [(f,y)])))\/
  (∃ d fs,H2 a=some (iD a C d)/\H2 d=some (mG d fs)/\fs.length < 1000/\D.nx U (upd H2 d (mG d (cu f y fs)))))
theorem Oa {o value:Expr} {ta tv:TE} {fn:Str} {pos':Pos} (ha:PE X o ta) (hv:PE X value tv) (hs:swapsWith value (some (.Attribute o fn pos')) pos.line X.env=pure false):PS X (.Assign [.Attribute o fn pos'] value pos) (JR X.K ta tv fn):=by
 intro pins s U H D I h
 refine plainObj_wpAny_Assign_Attribute (eQ (hv pins s U H _ I h) fun u s1 ⟨y,H1,I1,ry,q⟩=>eQ (ha pins s1 U H1 _ I1 q) fun ov s2 qq0=>?_) hs
 obtain ⟨x,H2,I2,rx,a,C,ex,c,n,q2⟩:=qq0
 subst ex
 obtain rfl:ov=Value.ref a:=rx
 rcases q2 with ⟨e,q2⟩ | ⟨d,fs,e,e2,hl,q2⟩
 ·exact We I2 e c n ry fun s3 d z1 z2 I3=>⟨U,_,I3,q2 d z1 z2⟩
 ·exact Wf I2 e e2 hl c n ry fun s3 I3=>⟨U,_,I3,q2⟩
def JV (K:W.Frag) (ta:TE) (f:Str):TE:=fun U H Q=>ta U H fun x H1=>∃ a C fs v,x= .ref a/\Ma H1 a C fs/\XCls K C/\NoAttr K C f/\fs.lookup f=some v/\Q v H1
theorem Ob {ta:TE} {fn:Str} (he:PE X e ta) (hb:attributeBase e fn X.env (eval e X.env)=eval e X.env):PE X (.Attribute e fn pos) (JV X.K ta fn):=by
 intro pins s U H Q I h
 refine Dy hb (eQ (he pins s U H _ I h) fun u s1 qq0=>?_)
 obtain ⟨x,H1,I1,rx,a,C,fs,v,ex,⟨d,e1,e2⟩,c,n,l,q⟩:=qq0
 subst ex
 obtain rfl:u=Value.ref a:=rx
 exact getx I1 e1 e2 c n l fun u2 s2 I2 ru=>⟨v,H1,I2,ru,q⟩
def yI (C:Addr) (fl:List Str):Sp:=fun vs H Q E=>∃ x ws,vs= .ref x :: ws/\ws.length=fl.length/\H x=some (jW x C)/\∀ d,H d=none->d≠x->Q .non (upd (upd H x (iD x C d)) d (mG d (fl.zip ws)))
structure U0 (P:Program) (w:World) (K:W.Frag) (mg:Str->Option Value) (base:Heap) (k:Nat) (x:Str) (C:Addr) (fl:List Str):Prop where
 at_:mg x=some (.ref C)
 cl:Qx K C
 kp:PySem.W.keepIn K (.ref C)=true
 na:∀ f∈fl,NoAttr K C f
 run:∃ f fd ps,PySem.W.findIn K (.ref C) "__init__"=some (some (.ref f))/\PySem.W.typeIn K (.ref f)=some (.type "function")/\Binds K fd ps []/\FnOk P w K mg base Gf k f fd ps (yI C fl)
def Cr (C:Addr) (fl:List Str) (R:St->XK) (t:TA):TS:=fun _ U H=>t U H fun vs H1=>vs.length=fl.length/\vs.length<=sizeLine/\∀ x H2,Same H1 H2->Ma H2 x C (fl.zip vs)->R U (.ref C) (some x) H2
theorem Tq {Q:Value->Shared->Prop} {E:Value->Shared->Prop} {fl:List Str} (M:U0 X.prog X.w X.K X.mg X.base k x C fl) (hr:Room (k+1) X.A) (I:Inv X pins U H s) (r:Vals vs us) (hl:vs.length=fl.length) (hz:vs.length<=sizeLine)
  (q:∀ a d s',H a=none->H d=none->d≠a->Inv X pins U (upd (upd (upd H a (jW a C)) a (iD a C d)) d (mG d (fl.zip vs))) s'->Q (.ref a) s'):wpAny (model X.prog X.w) X.A (call (.ref C) us) Q E s:=by
 obtain ⟨f,fd,ps,hi,hf,hb,F⟩:=M.run
 refine Tj I.kIn M.cl.cls.xi hi hf (by rw [← r.length];exact hz) ?_
 have I1:Inv X pins U H {s with heap:=s.heap.push {cls:=.type "tuple",data:=.seq us.toArray}}:=I.kept (t':=s.toks) fun b o e=>Xm _ e
 have sz1:(s.heap.push {cls:=.type "tuple",data:=.seq us.toArray}).objs.size=s.heap.objs.size+1:=YT _ _
 have hfr:H (s.heap.objs.size+1)=none:=I.hok.fresh (Nat.le_succ _)
 have gx:((s.heap.push {cls:=.type "tuple",data:=.seq us.toArray}).push (fU C none #[.ref s.heap.objs.size,.none,.none,.none,.bool false,.none])).get? (s.heap.objs.size+1)=some (fU C none #[.ref s.heap.objs.size,.none,.none,.none,.bool false,.none]):=by
  rw [← sz1];exact Xy _ rfl
 have I2:Inv X pins U (upd H (s.heap.objs.size+1) (jW (s.heap.objs.size+1) C)) {s with heap:=(s.heap.push {cls:=.type "tuple",data:=.seq us.toArray}).push (fU C none #[.ref s.heap.objs.size,.none,.none,.none,.bool false,.none])}:=
  I1.laid (t':=s.toks) (fun b o e=>Xm _ e) (by show (s.heap.push _).objs.size<=_;rw [sz1];exact Xp _) ⟨⟨_,gx⟩,⟨_,gx⟩,fun h1 h2 ⟨t,z⟩ kk=>⟨t,kk _ z⟩⟩
 have r2:Vals (V.ref (s.heap.objs.size+1) :: vs) (Value.ref (s.heap.objs.size+1) :: us):=.cons rfl r
 have sp0:yI C fl (V.ref (s.heap.objs.size+1) :: vs) (upd H (s.heap.objs.size+1) (jW (s.heap.objs.size+1) C)) (fun v H2=>v= .non/\∃ d,H d=none/\d≠s.heap.objs.size+1/\H2=upd (upd (upd H (s.heap.objs.size+1) (jW (s.heap.objs.size+1) C)) (s.heap.objs.size+1) (iD (s.heap.objs.size+1) C d)) d (mG d (fl.zip vs))) E0:=
  ⟨_,_,rfl,hl,aj,fun d hd ne=>⟨rfl,d,by rw [aC ne] at hd;exact hd,ne,rfl⟩⟩
 have hl2:((Value.ref (s.heap.objs.size+1) :: us) ++ []).length=ps.length:=by rw [YG,← r2.length];exact F.len _ _ _ _ sp0
 have bd:=hb _ (Value.ref (s.heap.objs.size+1) :: us) I2.kIn hl2
 rw [YG] at bd
 refine Z2 (codeAny_mono (F.run _ X.stack _ _ ⟨Value.ref (s.heap.objs.size+1) :: us,[]⟩ (Value.ref (s.heap.objs.size+1) :: us) _ _ E0 (hr.make C us []) (I2.env0.make C us []) bd r2 sp0) fun rr s' hq=>?_)
 cases rr with
 | error e=>exact False.elim hq
 | ok fl=>
  cases fl with
  | ret u=>
   obtain ⟨v,H',I3,rv,ev,d,hd,ne,eH⟩:=I2.after hq
   subst ev
   rw [eH] at I3
   exact ⟨rv,q _ d s' hfr hd ne I3⟩
  | next=>exact False.elim hq
  | brk=>exact False.elim hq
  | cont=>exact False.elim hq
theorem thrown {env:Env} {C:Addr} {Q:Flow->Shared->Prop} {m:Sem Value} (hc:X.calm=true) (c:Qx X.K C) (hx:lD X R)
  (h:wpAny (model X.prog X.w) X.A m (fun v s1=>∃ x d H1,v= .ref x/\Inv X pins U H1 s1/\H1 x=some (iD x C d)/\R U (.ref C) (some x) (upd H1 x (tK x C d))) X.xe s):
  wpAny (model X.prog X.w) X.A (raiseStmt env (some m) none) Q X.xe s:=by
 obtain ⟨nm,qn,N,bs,bm,sn,sub,ab,col,dd,k0,k1,k2,k3,k5,lk0,tl⟩:=vR c.cls.xi
 unfold raiseStmt
 refine Xj (eQ h fun v s1 qq0=>?_)
 obtain ⟨x,d,H1,ev,I1,e1,r1⟩:=qq0
 subst ev
 have KI:=I1.kIn
 obtain ⟨t,he⟩:=tL I1.hok e1
 have hh:X.A.handled=none:=I1.ok.hd hc
 have hcB:(Value.ref C :: bm).contains (.type "BaseException")=true:=by
  rw [Zj,(tl _ KI).hasType (show Wd.contains (.type "BaseException")=true from by decide)];rfl
 have fin:X.xe (.ref x) s1:=by
  have I2:Inv X pins U (upd H1 x (tK x C d)) s1:=I1.write (t':=s1.toks) (x:=x) (e:=x) (h':=s1.heap) (by rw [e1];exact True.intro) (.inl rfl) (fun b o _ z=>z) ⟨_,he⟩ (Ef he rfl)
  exact hx pins _ s1 ⟨x,C,d,U,_,rfl,I2,⟨aj,.inl ⟨_,he,rfl,rfl⟩⟩,r1⟩
 have hD:=KI _ _ lk0
 obtain ⟨hp,g,dr,tk,os⟩:=s1
 unfold fU at he
 repeat (first | with_reducible refine Y9 he ?_ | with_reducible refine Y9 hD ?_ | (with_reducible refine ZG hD ?_;rw [hcB]) | wp_step)
 exact wpAny_raiseNew_none hh fin
end
section
variable {X:Cx} {k:Nat} {C:Addr} {R:St->XK} {x:Str} {p cpos pos:Pos} {e:Expr} {es:List Expr} {t:TA} {fl:List Str}
theorem zZ {H:Hp} {a d:Addr} {vs:List V} (ha:H a=none) (hd:H d=none) (ne:d≠a):Same H (upd (upd (upd (upd H a (jW a C)) a (iD a C d)) d (mG d (fl.zip vs))) a (tK a C d))/\
  Ma (upd (upd (upd (upd H a (jW a C)) a (iD a C d)) d (mG d (fl.zip vs))) a (tK a C d)) a C (fl.zip vs):=by
 refine ⟨fun b o h=>?_,d,aj,by rw [aC ne,aj]⟩
 have na:b≠a:=fun z=>by rw [z,ha] at h;cases h
 have nd:b≠d:=fun z=>by rw [z,hd] at h;cases h
 rw [aC na,aC nd,aC na,aC na]
 exact h
theorem JX (M:U0 X.prog X.w X.K X.mg X.base k x C fl) (hr:Room (k+1) X.A) (hc:X.calm=true) (hg:Gl X x) (hx:lD X R) (ha:PA X (e :: es) t) (hdb:(x == ("__debug__":Str))=false)
  (he:starEach (e :: es) X.env=(false,eval e X.env) :: starEach es X.env) (hpl:(backTo cpos (starEach es X.env)).any (·.1)=false):PS X (.Raise (some (.Call (.Name x p) (e :: es) [] cpos)) none pos) (Cr C fl R t):=by
 intro pins s U H D I h
 rw [arm_exec_Raise]
 refine Xj (ZW (thrown (pins:=pins) (U:=U) (C:=C) hc M.cl hx (Xj (eQ (Q:=fun v s1=>∃ x d H1,v= .ref x/\Inv X pins U H1 s1/\H1 x=some (iD x C d)/\R U (.ref C) (some x) (upd H1 x (tK x C d))) ?_ fun v s3 h3=>Xj (ZW (Xo h3))))))
 refine Yv (pA I hg M.at_ ?_ hdb)
 refine ZP (h₀:=X.base) I.ok.mod.kin M.kp (eQ (ha cpos pins s U H _ I h) fun us s1 ⟨vs,H1,I1,r,hl,hz,q⟩=>⟨I1.kIn,?_⟩) he hpl
 refine Tq M hr I1 r hl hz fun a d s2 z1 z2 ne I2=>⟨a,d,_,rfl,I2,?_,?_⟩
 ·rw [aC (Ne.symm ne),aj]
 ·obtain ⟨w1,w2⟩:=zZ (C:=C) (fl:=fl) (vs:=vs) z1 z2 ne
  exact q a _ w1 w2
end
section
variable {X:Cx} {pins:List (Addr×Obj)} {U U':St} {H:Hp} {s:Shared} {h':Heap}
theorem Inv.reloc {t':Nat} (I:Inv X pins U H s) (hs:Heap.SameBut X.env.locals s.heap h') (len:U'.length=U.length)
  (l:∃ m',h'.Ns X.env.locals m'/\∀ (i:Nat) (x:Str) (v:V),X.N[i]?=some x->U'[i]?=some (some v)->Vc X.env.scope x->∃ u,RelV v u/\Look X.env h' m' x u):Inv X pins U' H {s with heap:=h',toks:=t'}:=by
 have cne:=I.cne
 obtain ⟨mm,⟨oL,_,_,hoL,_⟩,_⟩:=id I.loc
 have away:∀ b o,X.s₀.heap.get? b=some o->b≠X.env.locals:=fun b o e=>Yh (XN (Xr e) I.ok.above)
 refine ⟨I.ok,I.os,I.bare,⟨fun b o e n hb hx=>(hs.2 b (away b o e)).trans (I.base.keep b o e n hb hx),fun b o e n hb hx=>?_,I.base.free,fun b o e hx=>?_,I.base.tups,I.base.frzs,I.base.tbls⟩,l,fun y c e=>?_,I.free,I.freeC,fun q hq=>?_,fun b ob e=>?_,len.trans I.len⟩
 ·obtain ⟨sl,e1⟩:=I.base.slot b o e n hb hx
  exact ⟨sl,(hs.2 b (away b o e)).trans e1⟩
 ·obtain ⟨o2,e1⟩:=I.base.there b o e hx
  exact ⟨o2,(hs.2 b (away b o e)).trans e1⟩
 ·obtain ⟨w2,z⟩:=I.cell y c e
  exact ⟨w2,z.sameBut hs (cne y c e)⟩
 ·obtain ⟨e,n,ne,nf,d⟩:=I.pin q hq
  exact ⟨(hs.2 q.1 ne).trans e,n,ne,nf,d⟩
 ·refine (I.hok b ob e).stay (fun c w2 hc q=>(hs.2 c ?_).trans q) (fun _ q=>q) fun _ _ q=>q
  rintro rfl
  rcases hc with rfl | hc
  ·rw [I.free] at e;cases e
  ·rw [I.free] at hc;cases hc
theorem name_goes {A:Around} {E:Value->Shared->Prop} {i:Nat} {n:Str} {pos:Pos} {Q:Unit->Shared->Prop} (I:Inv X pins U H s) (hN:X.N.Nodup) (hi:X.N[i]?=some n) (hl:X.env.scope.names.lookup n=some .local)
  (h:∀ s',Inv X pins (U.set i none) H s'->Q () s'):wpAny (model X.prog X.w) A (do bindName X.env n .none;unbindBehindTheSuite X.env n pos) Q E s:=by
 have hcls:(X.env.scope.kind == .class || (X.env.scope.kind == .module && X.env.locals != X.env.globals))=false:=by rw [I.ok.kind];rfl
 have hk:X.env.kindOf n=some .local:=hl
 refine Xj (wpAny_bindName (nZ (v:=.non) I hN hi (.inl hl) rfl (fun s1 I1=>?_) (.inr hl)))
 obtain ⟨m1,hn1,hl1⟩:=id I1.loc
 have hiU:i < U.length:=by rw [I.len];exact (Xn.mp hi).1
 obtain ⟨u1,ru1,lk1⟩:=hl1 i n .non hi (by rw [Yw hiU]) (.inl hl)
 have m1n:m1 n=some u1:=by
  rcases lk1 with ⟨_,z⟩ | ⟨z | z,_⟩
  ·exact z
  ·rw [hk] at z;cases z
  ·rw [hk] at z;cases z
 unfold unbindBehindTheSuite
 refine wpAny_onRaise ?_
 unfold unbindName
 refine Xj (wpAny_point (Xj ?_))
 unfold deleteName
 simp only [hk,hcls]
 rw [if_neg (by decide)]
 refine Xj (wpAny_nsDel_keeps hn1 fun h2 v2 hn2 hs2=>?_)
 rw [m1n]
 simp only [if_true,Option.isSome_some,Bool.not_true,ZQ,if_false]
 refine Xo (wpAny_point (h _ (I1.reloc (t':=s1.toks) hs2 (by rw [List.length_set,List.length_set]) ⟨_,hn2,fun j y v e1 e2 e3=>?_⟩)))
 have hj:j≠i:=fun z=>by
  subst z
  rw [Yw hiU] at e2;cases e2
 rw [Yd (Ne.symm hj)] at e2
 obtain ⟨u,r,q⟩:=hl1 j y v e1 (by rw [Yd (Ne.symm hj)];exact e2) e3
 refine ⟨u,r,?_⟩
 rcases q with ⟨k,z⟩ | ⟨k,c,z1,z2⟩
 ·have ny:y≠n:=fun z=>hj (vh hN e1 (z ▸ hi))
  exact .inl ⟨k,by show (if y=n then v2 else m1 y)=some u;rw [if_neg ny];exact z⟩
 ·exact .inr ⟨k,c,z1,z2.sameBut hs2 (I1.cne y c z1)⟩
end
abbrev Cx.sui (X:Cx) (x:Addr):Cx:={X with A:=X.A.mark (some (.ref x)),calm:=false,xe:=fun _ _=>False}
abbrev Cx.bod (X:Cx) (pins:List (Addr×Obj)) (R:St->XK):Cx:={X with pn:=X.pn ++ pins,xe:=XE X pins R}
section
variable {X:Cx} {pins pins':List (Addr×Obj)} {U:St} {H:Hp} {s:Shared} {x C d T:Addr} {R:St->XK} {D:Ends}
theorem Inv.sui (I:Inv X pins U H s) (x:Addr):Inv (X.sui x) pins U H s:=
 ⟨⟨I.ok.mod,I.ok.kind,I.ok.glob,I.ok.blt,I.ok.above,I.ok.inj,I.ok.has,I.ok.cab,fun h=>absurd h Xz,I.ok.frames,I.ok.stk,I.ok.exf,I.ok.bs,I.ok.bsz,I.ok.noex,I.ok.exfs,I.ok.funs,I.ok.frf⟩,I.os,I.bare,I.base,I.loc,I.cell,I.free,I.freeC,I.pin,I.hok,I.len⟩
theorem Inv.unsui (ok:X.Ok) (I:Inv (X.sui x) pins U H s):Inv X pins U H s:=⟨ok,I.os,I.bare,I.base,I.loc,I.cell,I.free,I.freeC,I.pin,I.hok,I.len⟩
theorem Inv.bod (I:Inv X pins U H s) (R:St->XK):Inv (X.bod pins R) [] U H s:=
 ⟨⟨I.ok.mod,I.ok.kind,I.ok.glob,I.ok.blt,I.ok.above,I.ok.inj,I.ok.has,I.ok.cab,I.ok.hd,I.ok.frames,I.ok.stk,I.ok.exf,I.ok.bs,I.ok.bsz,I.ok.noex,I.ok.exfs,I.ok.funs,I.ok.frf⟩,I.os,I.bare,I.base,I.loc,I.cell,I.free,I.freeC,fun p hp=>I.pin p (by simpa using hp),I.hok,I.len⟩
theorem Inv.unbod (I:Inv (X.bod pins R) pins' U H s):Inv X pins U H s:=
 ⟨⟨I.ok.mod,I.ok.kind,I.ok.glob,I.ok.blt,I.ok.above,I.ok.inj,I.ok.has,I.ok.cab,I.ok.hd,I.ok.frames,I.ok.stk,I.ok.exf,I.ok.bs,I.ok.bsz,I.ok.noex,I.ok.exfs,I.ok.funs,I.ok.frf⟩,I.os,I.bare,I.base,I.loc,I.cell,I.free,I.freeC,fun p hp=>I.pin p (Zz _ hp),I.hok,I.len⟩
theorem SP.unbod {f:Flow} (h:SP (X.bod pins R) pins' D f s):SP X pins D f s:=by
 cases f with
 | next=>obtain ⟨U',H',I,q⟩:=h;exact ⟨U',H',I.unbod,q⟩
 | brk=>obtain ⟨U',H',I,q⟩:=h;exact ⟨U',H',I.unbod,q⟩
 | cont=>obtain ⟨U',H',I,q⟩:=h;exact ⟨U',H',I.unbod,q⟩
 | ret u=>obtain ⟨v,U',H',I,r,q⟩:=h;exact ⟨v,U',H',I.unbod,r,q⟩
theorem vW:lD (X.bod pins R) R:=by
 rintro pins' e s' ⟨x,C,d,U,H',he,I,⟨tx,F⟩,r⟩
 refine ⟨x,C,d,U,H',he,I.unbod,⟨tx,?_⟩,r⟩
 rcases F with F | ⟨T,F⟩
 ·exact .inl F
 ·obtain ⟨a1,a2,a3,a4,a5,a6⟩:=F.fp
  exact .inr ⟨T,F.obj,F.tb,⟨a1,a2,a3,a4,a5,fun p hp=>a6 p (Zz _ hp)⟩,F.tr⟩
theorem Gy {A:Around} {E:Value->Shared->Prop} {P:Addr} {b:Bool} {Q:Bool->Shared->Prop} {vs:Array Value} {M:Model} {K:W.Frag} (KI:K.In s.heap) (c:XCls K C) (cP:XCls K P) (e:s.heap.get? x=some (fU C (some d) vs)) (hm:PySem.W.mroIn K C (.ref P)=some b) (h:Q b s):
  wpAny M A (excMatches (.ref x) (.ref P)) Q E s:=by
 obtain ⟨nm,qn,N,bs,bm,sn,sub,ab,col,dd,k0,k1,k2,k3,k5,lk,tl⟩:=vR c.xi
 obtain ⟨nm',qn',N',bs',bm',sn',sub',ab',col',dd',k0',k1',k2',k3',k5',lk',tl'⟩:=vR cP.xi
 have hC:=KI _ _ lk
 have hP:=KI _ _ lk'
 have hPB:(Value.ref P :: bm').contains (.type "BaseException")=true:=by
  rw [Zj,(tl' _ KI).hasType (show Wd.contains (.type "BaseException")=true from by decide)];rfl
 have hCP:(Value.ref C :: bm).contains (.ref P)=b:=by
  unfold PySem.W.mroIn PySem.W.clsIn at hm
  rw [lk] at hm
  exact XS hm
 have f:=tc_notTuple
 obtain ⟨hp,g,dr,tk,os⟩:=s
 unfold fU at e
 unfold excMatches
 by_cases hh:P=C
 ·subst hh
  have hb:b=true:=by rw [← hCP];simp
  subst hb
  rw [lk] at lk'
  cases lk'
  repeat (first | with_reducible refine Y9 e ?_ | with_reducible refine Y9 hC ?_ | (with_reducible refine ZG hC ?_;first | rw [hPB] | rw [hCP]) | wp_step)
  exact h
 ·repeat (first | with_reducible refine Y9 e ?_ | with_reducible refine Y9 hP ?_ | (with_reducible refine ZG hP ?_;rw [hPB]) | (with_reducible refine ZG hC ?_;rw [hCP]) | wp_step)
  cases b <;> (wp_walk;exact h)
abbrev TH:=Ends->St->Addr->Addr->Hp->Prop
def PH (X:Cx) (hs:List ExceptHandler) (th:TH):Prop:=∀ (pins:List (Addr×Obj)) (s:Shared) (U:St) (H:Hp) (D:Ends) (x C d T:Addr),Inv X pins U H s->Head X pins H x C d T s.heap->th D U x C H->
 wpAny (model X.prog X.w) X.A (handleBy (.ref x) X.env hs) (SP X pins D) X.xe s
theorem Tt:PH X [] (fun _ _ _ _ _=>False):=fun _ _ _ _ _ _ _ _ _ _ _ h=>h.elim
def Ends.gone (D:Ends) (i:Nat):Ends:={nx:=fun U H=>D.nx (U.set i none) H,rt:=D.rt,bk:=fun U H=>D.bk (U.set i none) H,ct:=fun U H=>D.ct (U.set i none) H}
def hAs (K:W.Frag) (P:Addr) (i:Nat) (ts:TS) (th:TH):TH:=fun D U x C H=>∃ b,XCls K C/\PySem.W.mroIn K C (.ref P)=some b/\if b=true then ts (D.gone i) (U.set i (some (.ref x))) H else th D U x C H
variable {nm n:Str} {P:Addr} {i:Nat} {p pos:Pos} {b0:Stmt} {suite:List Stmt} {ts:TS} {th:TH} {hs:List ExceptHandler}
theorem Wg (hg:Gl X nm) (hm:X.mg nm=some (.ref P)) (cP:XCls X.K P) (hdb:(nm == ("__debug__":Str))=false) (hN:X.N.Nodup) (hi:X.N[i]?=some n) (hl:X.env.scope.names.lookup n=some .local)
  (hsu:∀ x,PSs (X.sui x) (b0 :: suite) ts) (hr:PH X hs th):PH X (.ExceptHandler (some (.Name nm p)) (some n) (b0 :: suite) pos :: hs) (hAs X.K P i ts th):=by
 rintro pins s U H D x C d T I F ⟨b,c,mb,q⟩
 obtain ⟨vs,ex,h1⟩:=F.obj
 refine wpAny_handleBy_cons (codeAny_handlers_test (pA (I.sui x) hg hm ?_ hdb)) (fun z=>nomatch z)
 refine Gy I.kIn c cP ex mb ?_
 cases b with
 | false=>
  rw [if_neg Xz] at q
  exact hr pins s U H D x C d T I F q
 | true=>
  rw [if_pos rfl] at q
  refine codeAny_handlers_suite_as ?_
  refine vU I F fun h2 I2 F2=>?_
  refine nZ (X:=X.sui x) (v:=.ref x) (I2.sui x) hN hi (.inl hl) rfl (fun s3 I3=>?_) (.inr hl)
  refine YS (hsu x pins s3 _ H (D.gone i) I3 q) (fun f s4 w=>?_) fun _ _ z=>False.elim z
  cases f with
  | next=>obtain ⟨U',H',J,r⟩:=w;exact name_goes (J.unsui I.ok) hN hi hl fun s5 I5=>⟨_,H',I5,r⟩
  | brk=>obtain ⟨U',H',J,r⟩:=w;exact name_goes (J.unsui I.ok) hN hi hl fun s5 I5=>⟨_,H',I5,r⟩
  | cont=>obtain ⟨U',H',J,r⟩:=w;exact name_goes (J.unsui I.ok) hN hi hl fun s5 I5=>⟨_,H',I5,r⟩
  | ret u=>obtain ⟨v,U',H',J,rv,r⟩:=w;exact name_goes (J.unsui I.ok) hN hi hl fun s5 I5=>⟨v,_,H',I5,rv,r⟩
def Tu (tb:(St->XK)->TS) (th:TH):TS:=fun D U H=>tb (fun U' c x H'=>∃ C a,c= .ref C/\x=some a/\th D U' a C H') D U H
theorem Tv {body:List Stmt} {h0:ExceptHandler} {tb:(St->XK)->TS} (hst:X.stack=X.env :: X.outer) (hfr:X.env.frame=some X.env.locals) (hb:∀ (pins:List (Addr×Obj)) (R:St->XK),PSs (X.bod pins R) body (tb R)) (hh:PH X (h0 :: hs) th):
  PS X (.Try body (h0 :: hs) [] [] pos) (Tu tb th):=by
 intro pins s U H D I h
 refine wpAny_Try_except (YS (hb pins _ [] s U H D (I.bod _) h) (fun f s1 q=>?_) fun e s1 q=>?_)
 ·have q':=q.unbod
  cases f with
  | next=>exact wpAny_execs_nil q'
  | brk=>exact q'
  | cont=>exact q'
  | ret u=>exact q'
 ·obtain ⟨x,C,d,U',H',rfl,I1,F1,C',a',eC,ea,r⟩:=q
  cases eC
  cases ea
  refine zY I1 hst hfr I1.ok.frames F1 fun h2 T I2 F2=>?_
  refine vU I2 F2 fun h3 I3 F3=>?_
  exact hh pins _ U' H' D x C d T I3 F3 r
end
def aM (mg:Str->Option Value) (x:Str):Addr:=match mg x with
 | some (.ref a)=>a
 | _=>0
theorem mQ {mg:Str->Option Value} {x:Str} {C:Addr} (h:mg x=some (.ref C)):aM mg x=C:=by unfold aM;rw [h]
structure Tw (K:W.Frag) (mg:Str->Option Value) (x:Str):Prop where
 at_:mg x=some (.ref (aM mg x))
 cl:Qx K (aM mg x)
theorem Wh {K:W.Frag} {mg:Str->Option Value} {h:Heap} (X:K.In h) (G:h.Ns mainGlobals mg) {x:Str} {C:Addr} (a:PySem.W.nsIn K mainGlobals x=some (some (.ref C))) (b:Ei K C=true):Tw K mg x:=by
 have m:=Zr X G a
 have e:=mQ m
 exact ⟨by rw [e];exact m,by rw [e];exact JK b⟩
structure p6 (K:W.Frag) (mg:Str->Option Value) (x:Str) (fl:List Str) (qual:Str) (st:Stmt):Prop where
 c:Tw K mg x
 kp:PySem.W.keepIn K (.ref (aM mg x))=true
 na:∀ f∈fl,NoAttr K (aM mg x) f
 ini:∃ f fd,PySem.W.findIn K (.ref (aM mg x)) "__init__"=some (some (.ref f))/\PySem.W.typeIn K (.ref f)=some (.type "function")/\Fun K "__init__" qual st f fd
def JZ (K:W.Frag) (C:Addr) (fl:List Str):Bool:=fl.all fun n=>PySem.W.findIn K (.ref C) n == some none
theorem vX {K:W.Frag} {mg:Str->Option Value} {h:Heap} (X:K.In h) (G:h.Ns mainGlobals mg) {x qual:Str} {C f:Addr} {fl:List Str} {st:Stmt} {oc:Value} {od an:Option Addr} {osl:Array (Option Value)} {kV doc pm cdv ct:Value}
  (a:PySem.W.nsIn K mainGlobals x=some (some (.ref C))) (b:Ei K C=true) (kp:PySem.W.keepIn K (.ref C)=true) (na:JZ K C fl=true)
  (i:PySem.W.findIn K (.ref C) "__init__"=some (some (.ref f))) (t:PySem.W.typeIn K (.ref f)=some (.type "function"))
  (l:K.lookup f=some ⟨oc,od,.func (PySem.W.fnOf "__init__" qual (f9 st) (b8 st) (az st) .none kV doc pm an cdv ct),osl⟩) (c:PySem.W.codeIn K cdv qual=true) (k:PySem.W.keepIn K (.ref f)=true):p6 K mg x fl qual st:=by
 have m:=Zr X G a
 have e:=mQ m
 refine ⟨Wh X G a b,by rw [e];exact kp,fun n hn=>?_,f,_,by rw [e];exact i,t,BV l c k⟩
 rw [e]
 have:=Zi.mp na n hn
 exact Zh.mp this
structure Sub (K:W.Frag) (mg:Str->Option Value) (x y:Str) (b:Bool):Prop where
 mro:PySem.W.mroIn K (aM mg x) (.ref (aM mg y))=some b
 one:PySem.W.kitOne K (.ref (aM mg x)) (.ref (aM mg y))=some b
theorem yJ {K:W.Frag} {mg:Str->Option Value} {h:Heap} (X:K.In h) (G:h.Ns mainGlobals mg) {x y:Str} {C P:Addr} {r:Bool} (a:PySem.W.nsIn K mainGlobals x=some (some (.ref C))) (b:PySem.W.nsIn K mainGlobals y=some (some (.ref P)))
  (m:PySem.W.mroIn K C (.ref P)=some r) (o:PySem.W.kitOne K (.ref C) (.ref P)=some r):Sub K mg x y r:=by
 have e:=mQ (Zr X G a)
 have e2:=mQ (Zr X G b)
 exact ⟨by rw [e,e2];exact m,by rw [e,e2];exact o⟩
structure JH (X:Cx) (hs:List ExceptHandler) (th:TH):Prop where
 run:PH X hs th
section
variable {X:Cx} {K:W.Frag} {k:Nat} {x n fn:Str} {ps:List Str} {sp:Sp} {R:St->XK} {p pos cpos pos':Pos} {e o value:Expr} {es:List Expr} {t:TA} {ta tv:TE} {st:Stmt} {u ts:TS} {th:TH} {hs:List ExceptHandler} {i:Nat}
theorem u5 (F:N8 X.prog X.w X.K X.mg X.base k x ps sp) (hr:Room k X.A) (hg:Gl X x) (hx:lD X R) (ha:JA X (e :: es) t) (hdb:(x == ("__debug__":Str))=false) (h:autoParam ((e :: es).all notStar=true) L2.auto4._auto_1):
  JE X (.Call (.Name x p) (e :: es) [] pos) (Cq sp R t):=by
 have h1:notStar e=true:=by simp only [YD,XQ] at h;exact h.1
 have h2:es.all notStar=true:=by simp only [YD,XQ] at h;exact h.2
 exact ⟨JQ F hr hg hx ha.run hdb (bC h1) (mO h2)⟩
theorem J3 (hK:X.K=K) (he:JE X e ta) (h:autoParam (rP e=true) L2.auto4._auto_1):JE X (.Attribute e fn pos) (JV K ta fn):=by
 subst hK
 exact ⟨Ob he.run (by cases e <;> first | rfl | cases h)⟩
theorem Ek (hK:X.K=K) (ha:JE X o ta) (hv:JE X value tv) (h:autoParam (jM value=true) L2.auto4._auto_1):JS X (.Assign [.Attribute o fn pos'] value pos) (JR K ta tv fn):=by
 subst hK
 exact ⟨Oa ha.run hv.run (xN h)⟩
theorem z9 {fl:List Str} (M:U0 X.prog X.w X.K X.mg X.base k x (aM X.mg x) fl) (hr:Room (k+1) X.A) (hc:X.calm=true) (hg:Gl X x) (hx:lD X R) (ha:JA X (e :: es) t) (hdb:(x == ("__debug__":Str))=false) (h:autoParam ((e :: es).all notStar=true) L2.auto4._auto_1):
  JS X (.Raise (some (.Call (.Name x p) (e :: es) [] cpos)) none pos) (Cr (aM X.mg x) fl R t):=by
 have h1:notStar e=true:=by simp only [YD,XQ] at h;exact h.1
 have h2:es.all notStar=true:=by simp only [YD,XQ] at h;exact h.2
 exact ⟨JX M hr hc hg hx ha.run hdb (bC h1) (mO h2)⟩
theorem J5:JH X [] (fun _ _ _ _ _=>False):=⟨Tt⟩
theorem Qz {b0:Stmt} {suite:List Stmt} (hK:X.K=K) (c:Tw K X.mg x) (hg:Gl X x) (hdb:(x == ("__debug__":Str))=false) (hN:X.N.Nodup) (hi:X.N[i]?=some n) (hl:X.env.scope.names.lookup n=some .local)
  (hsu:∀ x,JB (X.sui x) (b0 :: suite) ts) (hr:JH X hs th):JH X (.ExceptHandler (some (.Name x p)) (some n) (b0 :: suite) pos :: hs) (hAs K (aM X.mg x) i ts th):=by
 subst hK
 exact ⟨Wg hg c.at_ c.cl.cls hdb hN hi hl (fun x=>(hsu x).run) hr.run⟩
theorem J6 {body:List Stmt} {h0:ExceptHandler} {tb:(St->XK)->TS} (hst:X.stack=X.env :: X.outer) (hfr:X.env.frame=some X.env.locals) (hb:∀ (pins:List (Addr×Obj)) (R:St->XK),JB (X.bod pins R) body (tb R)) (hh:JH X (h0 :: hs) th):
  JS X (.Try body (h0 :: hs) [] [] pos) (Tu tb th):=⟨Tv hst hfr (fun pins R=>(hb pins R).run) hh.run⟩
end
section
variable {P:Program} {w:World} {K:W.Frag} {mg:Str->Option Value} {base:Heap}
theorem Wi {x:Str} {st:Stmt} {N ps:List Str} {k:Nat} {sp:Sp} (D:fQ K mg x st) (S:aD N ps (az st))
  (hb:∀ (kV doc pm:Value) (an:Option Addr) (cdv ct:Value) (us:List Value),us.length=ps.length->bindArgs (PySem.W.fnOf x x (f9 st) (b8 st) (az st) .none kV doc pm an cdv ct) ⟨us,[]⟩=pure (ps.zip us))
  (len:∀ vs H Q E,sp vs H Q E->vs.length=ps.length)
  (hbody:∀ (f:Addr) (cdv:Value) (A:Around) (outer:List Env) (s:Shared) (H:Hp) (vs:List V) (Q:VK) (E:XK),Room k (A.deeper (envOfC x (az st) s.heap.objs.size f cdv))->sp vs H Q E->
   ∃ t,JB (ql (NZ P w) P w K mg base N x (az st) f cdv A outer s H E) (b8 st) t/\t {nx:=fun _ H'=>Q .non H',rt:=Q} (start N vs) H):N8 P w K mg base (k+1) x ps sp:=by
 obtain ⟨f,fd,F,hm⟩:=D
 refine ⟨f,fd,hm,F.kp,F.binds hb,?_⟩
 obtain ⟨oc,od,kV,doc,pm,an,cdv,ct,osl,rfl,lk,hcd⟩:=F.ex
 exact Io lk hcd S len fun A outer s H vs Q E hr h=>let ⟨t,j,q⟩:=hbody f cdv A outer s H vs Q E hr h;⟨t,j.run,q⟩
theorem mkX {x qual:Str} {st:Stmt} {N ps:List Str} {fl:List Str} {k:Nat} (D:p6 K mg x fl qual st) (S:aD N ps (az st))
  (hb:∀ (kV doc pm:Value) (an:Option Addr) (cdv ct:Value) (us:List Value),us.length=ps.length->bindArgs (PySem.W.fnOf "__init__" qual (f9 st) (b8 st) (az st) .none kV doc pm an cdv ct) ⟨us,[]⟩=pure (ps.zip us))
  (hl:ps.length=fl.length+1)
  (hbody:∀ (f:Addr) (cdv:Value) (A:Around) (outer:List Env) (s:Shared) (H:Hp) (vs:List V) (Q:VK) (E:XK),Room k (A.deeper (envOfC qual (az st) s.heap.objs.size f cdv))->yI (aM mg x) fl vs H Q E->
   ∃ t,JB (ql Gf P w K mg base N qual (az st) f cdv A outer s H E).nox (b8 st) t/\t {nx:=fun _ H'=>Q .non H',rt:=Q} (start N vs) H):U0 P w K mg base (k+1) x (aM mg x) fl:=by
 obtain ⟨f,fd,a,b,F⟩:=D.ini
 refine ⟨D.c.at_,D.c.cl,D.kp,D.na,f,fd,ps,a,b,F.binds hb,F.ok S (fun vs H Q E h=>?_) fun cdv A outer s H vs Q E hr h=>let ⟨t,j,q⟩:=hbody f cdv A outer s H vs Q E hr h;⟨t,j.run,q⟩⟩
 obtain ⟨y,ws,rfl,hw,_⟩:=h
 rw [Yu,hw,hl]
end
def initOf:Stmt->Stmt
 | .ClassDef _ _ _ (s :: _) _ _ _ _ _ _ _=>s
 | s=>s
section
variable {U:St} {H:Hp} {D:Ends} {Q:VK} {sp:Sp} {R:St->XK} {a:TA} {K:W.Frag} {C P:Addr} {fl:List Str} {th:TH} {ts:TS} {i:Nat} {ta:TE} {f:Str}
theorem bQ (h:a U H fun vs H1=>sp vs H1 Q (R U)):Cq sp R a U H Q:=h
theorem gO {tb:(St->XK)->TS} (h:tb (fun U' c x H'=>∃ C a,c= .ref C/\x=some a/\th D U' a C H') D U H):Tu tb th D U H:=h
theorem bR (h:a U H fun vs H1=>vs.length=fl.length/\vs.length<=sizeLine/\∀ x H2,Same H1 H2->Ma H2 x C (fl.zip vs)->R U (.ref C) (some x) H2):Cr C fl R a D U H:=h
theorem dO (h:ta U H fun x H1=>∃ a C fs v,x= .ref a/\Ma H1 a C fs/\XCls K C/\NoAttr K C f/\fs.lookup f=some v/\Q v H1):JV K ta f U H Q:=h
theorem J7 {x C:Addr} (c:XCls K C) (m:PySem.W.mroIn K C (.ref P)=some true) (h:ts (D.gone i) (U.set i (some (.ref x))) H):hAs K P i ts th D U x C H:=⟨true,c,m,by rw [if_pos rfl];exact h⟩
theorem yK {x:V} {t:Value} {p:Addr} {vs:List V} {cs:List Value} {b:Bool} (ty:TyOf K H x t) (hp:H p=some (.tup vs)) (e:JN vs=some cs) (o:PySem.W.kitAny K t cs=some b) (h:Q (.bl b) H):Qy K [x,.ref p] H Q:=
 ⟨x,t,b,.inl ty,.inr ⟨p,vs,cs,rfl,hp,e,o⟩,h⟩
theorem rd1 {f1 p0 p1:Str} {vs:List V} {E:XK} (c:XCls K C) (n:NoAttr K C f1) (h:yI C [f1] vs H Q E):JR K (qi 0) (qi 1) f1 {nx:=fun _ H'=>Q .non H',rt:=Q} (start [p0,p1] vs) H:=by
 obtain ⟨x,ws,rfl,hw,hx,q⟩:=h
 match ws,hw with
 | [v],_=>exact ⟨v,rfl,.ref x,rfl,x,C,rfl,c,n,.inl ⟨hx,fun d hd ne=>q d hd ne⟩⟩
end
section
variable {X:Cx} {e:Expr} {te:TE} {lo hi:Option Expr} {st:Expr} {tl th ts:TO} {pos p2:Pos}
theorem Oc:JE X (.Dict [] [] pos) BZ:=⟨Je⟩
end
section
variable {U:St} {H:Hp} {Q:VK} {te:TE}
theorem dR (h:∀ p,H p=none->Q (.ref p) (upd H p (.dK []))):BZ U H Q:=h
end
def Wj (K:W.Frag) (neg:Bool):R2:=fun x y H Q=>∃ a b xs,x= .ref a/\y= .ref b/\SqL K H a xs/\SqL K H b xs/\(∀ v∈xs,kY v=true\/∃ r,v= .ref r)/\Q (.bl (!neg)) H
theorem Aa {v:V} (f:kY v=true):DN v v=true:=by
 cases v <;> first | (cases f;done) | rfl | (simp [DN])
section
variable {X:Cx}
theorem Tz (hu:X.A.units < cLine):OpR X (compareOp .Eq) (Wj X.K false):=by
 intro pins s U H x y v u Q I rx ry h
 obtain ⟨a,b,xs,rfl,rfl,ha,hb,fx,q⟩:=h
 cases rx
 cases ry
 obtain ⟨its,r1,p1,z1⟩:=I.list ha
 obtain ⟨jts,r2,p2,z2⟩:=I.list hb
 have l1:its.toArray.size=xs.length:=by simpa using r1.length.symm
 have l2:jts.toArray.size=xs.length:=by simpa using r2.length.symm
 refine SeqAt.eq_listAt (e:=fun _=>true) p1.isList p2.isList (by rw [l1,l2]) hu (fun j h1 h2=>?_) ?_
 ·have hj:j < xs.length:=by omega
  obtain ⟨u1,e1,q1⟩:=r1.get (Xk hj)
  obtain ⟨u2,e2,q2⟩:=r2.get (Xk hj)
  have f1:its.toArray[j]=u1:=by
   obtain ⟨_,z⟩:=Xn.mp e1
   simpa using z
  have f2:jts.toArray[j]=u2:=by
   obtain ⟨_,z⟩:=Xn.mp e2
   simpa using z
  rw [f1,f2]
  rcases fx _ (YH hj) with f | ⟨r,f⟩
  ·rw [← Aa f]
   exact yt q1 q2 f f
  ·rw [f] at q1 q2
   cases (show u1=Value.ref r from q1)
   cases (show u2=Value.ref r from q2)
   exact SeqAt.EqAt.same _
 ·have e:(List.range its.toArray.size).all (fun _=>true)=true:=by simp
  rw [e]
  exact ⟨.bl true,H,I,rfl,q⟩
def J8 (K:W.Frag):R2:=fun x y H Q=>NP K x y H Q\/Wj K false x y H Q
theorem TF {K:W.Frag} (hK:X.K=K) (hu:X.A.units+64 < cLine):OpR X (compareOp .Eq) (J8 K):=by
 subst hK
 exact (Cp rfl hu).or (Tz (Nat.lt_of_le_of_lt (Z9 _ _) hu))
end
section
variable {H:Hp} {Q:VK} {K:W.Frag}
theorem cU {i j:Int} (h:Q (.bl (decide (V.int i=V.int j))) H):J8 K (.int i) (.int j) H Q:=.inl (cR h)
theorem cV {i j:Str} (h:Q (.bl (decide (V.str i=V.str j))) H):J8 K (.str i) (.str j) H Q:=.inl (cT h)
theorem TJ {a b:Addr} {xs:List V} (h1:SqL K H a xs) (h2:SqL K H b xs) (f:∀ v∈xs,kY v=true\/∃ r,v= .ref r) (h:Q (.bl true) H):J8 K (.ref a) (.ref b) H Q:=.inr ⟨a,b,xs,rfl,rfl,h1,h2,f,h⟩
end
end L2
namespace L2
open PySem PySem.Spec PyProof.Rows
open AutoSeq1 (wpAny_loadPart')
theorem TQ:isSubtype (.type "dict") (.type "dict")=pure true:=by rw [isSubtype_type];kernel_rfl
theorem Gz {prog:Program} {w:World} {A:Around} {E:Value->Shared->Prop} {s:Shared} {Q:Value->Shared->Prop} {a:Addr} {o:Obj} {e:DictEntry} {ep:Nat} {k:Key} (ho:s.heap.get? a=some o) (hc:o.cls= .type "dict") (hd:o.data= .dict #[e] ep)
  (hkey:(cX prog w).is k e.key=true) (hh:e.hash=(cX prog w).hash k) (hsm:(a == sysModules)=false) (hu:A.units < cLine) (h:Q (.bool true) s):wpAny (model prog w) A (compareOp .Eq (.ref a) (.ref a)) Q E s:=by
 show wpAny _ _ (richCompare .Eq (.ref a) (.ref a)) _ _ _
 refine wpAny_richCompare_same_room ⟨o,ho,hc⟩ ⟨o,ho,hc⟩ F.slot_dict_eq (Z2 (Z5 F.slot_dict_eq.plain F.entry_dict_eq (F.slot_dict_eq.check _ _ _ _ _ _ _ _ ⟨o,ho,hc⟩ (F.args_dict_eq_2 _ _) ?_))) hu
 have ko:KeysOf (cX prog w) #[e]:=fun x hx=>by
  simp at hx
  subst hx
  exact ⟨k,hkey,hh⟩
 have f2:=TQ
 obtain ⟨hp,g,d,tk,os⟩:=s
 have hT:(⟨hp,g,d,tk,os⟩:Shared).TypeIs (.ref a) "dict":=⟨_,ho,hc⟩
 unfold Builtin.«dict.__eq__»
 wp_walk using wpAny_loadPart' ho
 have en:∀ (Q:Array DictEntry->Shared->Prop) (E:Value->Shared->Prop),Q #[e] ⟨hp,g,d,tk,os⟩->wpAny (model prog w) A.in1 (dictEntries a) Q E ⟨hp,g,d,tk,os⟩:=fun Q E q=>by
  unfold dictEntries
  refine Xj (Z1 ho ?_)
  simp only [hd]
  exact Xo q
 have eo:∀ (Q:Nat->Shared->Prop) (E:Value->Shared->Prop),Q ep ⟨hp,g,d,tk,os⟩->wpAny (model prog w) A.in1 (dictEpoch a) Q E ⟨hp,g,d,tk,os⟩:=fun Q E q=>by
  unfold dictEpoch
  refine Xj (Z1 ho ?_)
  simp only [hd]
  exact Xo q
 simp only [hd]
 refine Xo ?_
 refine Xj (en _ _ ?_)
 rw [if_neg (by simp)]
 refine Xj (eo _ _ ?_)
 refine Xj ?_
 rw [Std.Legacy.Range.forIn_eq_forIn_range']
 simp only [Std.Legacy.Range.size,Nat.sub_zero,Nat.add_sub_cancel,Nat.div_one]
 show wpAny _ _ (forIn [0] _ _) _ _ _
 rw [List.forIn_cons]
 refine Xj (Xj (en _ _ ?_))
 show wpAny _ _ (holding [e.key,e.val] _ >>=_) _ _ _
 refine Xj (Yq ?_)
 refine Xj (show wpAny (model prog w) A.in1 (dictFind a e.key e.hash) _ _ _ from ?_)
 rw [hh]
 refine wpAny_dictFind_of hkey ho hd ko ?_
 have fi:(#[e]:Array DictEntry).findIdx? (fun e=>(cX prog w).is k e.key)=some 0:=by simp [hkey]
 rw [fi]
 refine Xj (en _ _ ?_)
 show wpAny _ _ (holding [e.val] (eqBool e.val e.val)) _ _ _
 refine Yq (SeqAt.EqAt.same e.val prog w _ _ ?_)
 rw [if_neg (by simp)]
 refine Xj (eo _ _ ?_)
 rw [if_neg (by simp)]
 refine Xo ?_
 show wpAny _ _ (forIn [] _ _) _ _ _
 rw [List.forIn_nil]
 refine Xo (Xo ?_)
 exact Xo ⟨(fun z=>nomatch z),h⟩
def Wl:R2:=fun x y H Q=>(y= .non/\Q (.bl (decide (x= .non))) H)\/∃ a b,x= .bl a/\y= .bl b/\Q (.bl (a == b)) H
section
variable {X:Cx}
theorem vY:OpR X (compareOp .Is) Wl:=Rz.or (by
 intro pins s U H x y v u Q I rx ry h
 obtain ⟨a,b,rfl,rfl,q⟩:=h
 cases rx
 cases ry
 exact is_bool ⟨.bl _,H,I,rfl,q⟩)
def QB (K:W.Frag):R2:=fun x y H Q=>∃ a b xs,x= .ref a/\y= .ref b/\SqT K H a xs/\SqT K H b xs/\(∀ v∈xs,kY v=true\/∃ r,v= .ref r)/\Q (.bl true) H
theorem Od (hu:X.A.units < cLine):OpR X (compareOp .Eq) (QB X.K):=by
 intro pins s U H x y v u Q I rx ry h
 obtain ⟨a,b,xs,rfl,rfl,ha,hb,fx,q⟩:=h
 cases rx
 cases ry
 obtain ⟨its,r1,p1,z1⟩:=I.tuple ha
 obtain ⟨jts,r2,p2,z2⟩:=I.tuple hb
 have l1:its.toArray.size=xs.length:=by simpa using r1.length.symm
 have l2:jts.toArray.size=xs.length:=by simpa using r2.length.symm
 refine SeqAt.eq_tupleAt (e:=fun _=>true) p1 p2 hu (fun j h1 h2=>?_) ?_
 ·have hj:j < xs.length:=by omega
  obtain ⟨u1,e1,q1⟩:=r1.get (Xk hj)
  obtain ⟨u2,e2,q2⟩:=r2.get (Xk hj)
  have f1:its.toArray[j]=u1:=by
   obtain ⟨_,z⟩:=Xn.mp e1
   simpa using z
  have f2:jts.toArray[j]=u2:=by
   obtain ⟨_,z⟩:=Xn.mp e2
   simpa using z
  rw [f1,f2]
  rcases fx _ (YH hj) with f | ⟨r,f⟩
  ·rw [← Aa f]
   exact yt q1 q2 f f
  ·rw [f] at q1 q2
   cases (show u1=Value.ref r from q1)
   cases (show u2=Value.ref r from q2)
   exact SeqAt.EqAt.same _
 ·have e:((List.range (min its.toArray.size jts.toArray.size)).all (fun _=>true) && its.toArray.size == jts.toArray.size)=true:=by rw [l1,l2];simp
  rw [e]
  exact ⟨.bl true,H,I,rfl,q⟩
def QC:R2:=fun x y H Q=>∃ a k v,x= .ref a/\y= .ref a/\H a=some (.dK [(k,v)])/\Q (.bl true) H
theorem Oe (hu:X.A.units < cLine):OpR X (compareOp .Eq) QC:=by
 intro pins s U H x y v u Q I rx ry h
 obtain ⟨a,k,z,rfl,rfl,ha,q⟩:=h
 cases rx
 cases ry
 obtain ⟨_,hsm,vs,kv,o,es,ep,h1,h2,h3,h4,h5,h6⟩:=(show ObjOk X.prog X.w H s.heap a (.dK [(k,z)]) from I.hok a _ ha)
 cases kv with
 | cons a1 a2=>
  cases a2
  obtain ⟨l⟩:=es
  dsimp only at h5
  cases h5 with
  | @cons en _ _ _ p1 p2 p3=>
   cases p3
   obtain ⟨k',b1,b2⟩:=h4 en (by simp)
   exact Gz (e:=en) h1 h2.1 h3 b1 b2 hsm hu ⟨.bl true,H,I,rfl,q⟩
def TV (K:W.Frag):R2:=fun x y H Q=>J8 K x y H Q\/QB K x y H Q\/QC x y H Q
theorem jl {K:W.Frag} (hK:X.K=K) (hu:X.A.units+64 < cLine):OpR X (compareOp .Eq) (TV K):=by
 subst hK
 exact (TF rfl hu).or ((Od (Nat.lt_of_le_of_lt (Z9 _ _) hu)).or (Oe (Nat.lt_of_le_of_lt (Z9 _ _) hu)))
end
theorem J9 {sub:List (Option Nat)} {g:TG} {tt:TT} {te:TE} {U:St} {Q:VK} {H:Hp} {K:W.Frag} {a:Addr} {xs:List V} (Pv:Nat->List V->Hp->Prop) (hn:xs.length<=sizeLine) (h0:Pv 0 [] H) (hl:∀ i ys H,Pv i ys H->ys.length<=i)
  (hq:∀ i ys H,Pv i ys H->SqT K H a xs)
  (hs:∀ i ys H x,xs[i]?=some x->Pv i ys H->g x (eY sub U) H fun σ2 H2=>KeepSt (eY sub U) σ2/\tt σ2 H2 fun b H3=>if b=true then te σ2 H3 fun y H4=>Pv (i+1) (ys ++ [y]) H4 else Pv (i+1) ys H3)
  (hd:∀ ys H,Pv xs.length ys H->∀ D,H D=none->Q (.ref D) (upd H D (.lst ys))):rM sub g tt te U Q (Qn K a) H:=
 uZ (n:=xs.length) Pv hn h0 hl (fun i ys H hi p=>⟨xs,xs[i],hq i ys H p,Xk hi⟩) (fun ys H p=>⟨xs,hq _ ys H p,Xp _⟩) (fun i ys H x H' hi p y=>by
  obtain ⟨rfl,e2⟩:=y
  exact hs i ys _ x (e2 xs (hq i ys _ p)) p) hd
section
variable {H:Hp} {Q:VK} {K:W.Frag}
theorem bT {U:St} {r r':R2} {ta tb tc:TE} (h:ta U H fun x H1=>tb U H1 fun y H2=>r x y H2 fun z H3=>∃ k,z= .bl k/\if k=true then tc U H3 fun w H4=>r' y w H4 Q else Q (.bl false) H3):Bv r r' ta tb tc U H Q:=h
theorem gP {x:V} (h:Q (.bl (decide (x= .non))) H):Wl x .non H Q:=.inl ⟨rfl,h⟩
theorem dU {i j:Int} (h:Q (.bl (decide (V.int i=V.int j))) H):TV K (.int i) (.int j) H Q:=.inl (cU h)
theorem dW {i j:Str} (h:Q (.bl (decide (V.str i=V.str j))) H):TV K (.str i) (.str j) H Q:=.inl (cV h)
end
end L2
namespace L2
open PySem PySem.Spec PyProof.Rows PySem.SeqAt
theorem Og (lo hi:Option Int) (n:Nat):Builtin.Str.strSliceIndices lo hi 1 n=(List.range (HT.sIx n n hi - HT.sIx n 0 lo)).map fun k=>HT.sIx n 0 lo+k:=by
 have c:∀ (i:Int) (d:Nat),max 0 (min (if i < 0 then i+(n:Int) else i) (n:Int))=((HT.sIx n d (some i):Nat):Int):=by
  intro i d
  rw [← HT.clip_eq]
  split <;> omega
 have key:∀ a b:Nat,(List.range (if (a:Int) < (b:Int) then ((b:Int) - a+1 - 1) / 1 else 0).toNat).map (fun k:Nat=>((a:Int)+1*(k:Int)).toNat)=(List.range (b - a)).map fun k=>a+k:=by
  intro a b
  have e3:(if (a:Int) < (b:Int) then ((b:Int) - a+1 - 1) / 1 else 0).toNat=b - a:=by split <;> omega
  rw [e3]
  refine List.map_congr_left fun k _=>?_
  omega
 unfold Builtin.Str.strSliceIndices sliceRange
 simp only [show (1:Int) > 0 by decide,if_true]
 cases lo with
 | none=>
  cases hi with
  | none=>exact key 0 n
  | some j=>rw [← key,← c j n];rfl
 | some i=>
  cases hi with
  | none=>rw [← key,← c i 0];rfl
  | some j=>rw [← key,← c i 0,← c j n]
theorem QD {α β:Type} {f:α->Option β} {g:α->β}:∀ (l:List α),(∀ k∈l,f k=some (g k))->l.filterMap f=l.map g
 | [],_=>rfl
 | k :: l,h=>by rw [List.filterMap_cons,h k (by simp),Yk,QD l fun j hj=>h j (XR _ hj)]
theorem GC (l:List Nat) (a m:Nat) (h:a+m<=l.length):((List.range m).map fun k=>a+k).filterMap (fun i=>l[i]?)=(l.drop a).take m:=by
 rw [List.filterMap_map,QD (g:=fun k=>l.getD (a+k) 0)]
 ·refine ZZ fun i=>?_
  rw [Xw,List.getElem?_take]
  by_cases hi:i < m
  ·rw [if_pos hi,X4 hi,List.getElem?_drop,Xk (by omega)]
   simp [Xk (show a+i < l.length by omega)]
  ·rw [if_neg hi,YQ (by simp;omega)];rfl
 ·intro k hk
  have hk:=XJ.mp hk
  show l[a+k]?=_
  rw [Xl,Xk (by omega)];rfl
theorem pC (z:Str) (lo hi:Option Int):(Txt.slice z lo hi).cps.toList=(z.cps.toList.drop (HT.sIx z.length 0 lo)).take (HT.sIx z.length z.length hi - HT.sIx z.length 0 lo):=by
 have hn:z.cps.toList.length=z.length:=by simp [Str.length]
 have la:=HT.sIx_le z.length 0 (YK _) lo
 have lb:=HT.sIx_le z.length z.length (Xp _) hi
 unfold Txt.slice
 rw [Og]
 generalize HT.sIx z.length 0 lo=a at la ⊢
 generalize HT.sIx z.length z.length hi=b at lb ⊢
 split
 ·rename_i h
  simp at h
  have ha:a=0:=by
   rcases Nat.eq_zero_or_pos z.length with h0 | h0
   ·omega
   ·omega
  subst ha
  rw [List.drop_zero,Ym (by omega)]
 ·show List.filterMap (fun x=>z.cps[x]?) _=_
  have e:(fun x:Nat=>z.cps[x]?)=fun x=>z.cps.toList[x]?:=by funext x;simp
  rw [e]
  by_cases h:a<=b
  ·exact GC _ a (b - a) (by omega)
  ·rw [show b - a=0 by omega];simp
theorem vZ (z:Str) (k:Nat):(Txt.slice z none (some (k:Int))).cps.toList=z.cps.toList.take k:=by
 rw [pC,HT.sIx_none,HT.sIx_nat,List.drop_zero,Nat.sub_zero]
 have hn:z.cps.toList.length=z.length:=by simp [Str.length]
 by_cases h:k<=z.length
 ·rw [Nat.min_eq_left h]
 ·rw [gV (by omega),Ym (by omega),Ym (by omega)]
theorem Ab (z:Str) {i:Int} {k:Nat} (h:i=(k:Int)):(Txt.slice z (some i) none).cps.toList=z.cps.toList.drop k:=by
 subst h
 rw [pC,HT.sIx_none,HT.sIx_nat]
 have hn:z.cps.toList.length=z.length:=by simp [Str.length]
 by_cases h:k<=z.length
 ·rw [Nat.min_eq_left h,Ym (by rw [Ye];omega)]
 ·rw [gV (by omega),Yo (by omega),Yo (by omega)];simp
theorem v4 (z:Str) (k:Nat):(Txt.slice z (some (k:Int)) none).cps.toList=z.cps.toList.drop k:=by
 rw [pC,HT.sIx_none,HT.sIx_nat]
 have hn:z.cps.toList.length=z.length:=by simp [Str.length]
 by_cases h:k<=z.length
 ·rw [Nat.min_eq_left h,Ym (by rw [Ye];omega)]
 ·rw [gV (by omega),Yo (by omega),Yo (by omega)];simp
theorem ji {xs:List V} {H:Hp} {R:Addr->Prop} (c:Nat.ble xs.length 64=true) (h:∀ p,H p=none->R p):xs.length<=sizeLine/\∀ p,H p=none->R p:=
 ⟨Xv (Nat.le_of_ble_eq_true c) (by decide),h⟩
theorem gQ {A B:Prop} (h:A):if (!false)=true then A else B:=(if_pos (show (!false)=true from rfl)).mpr h
theorem gU {A B:Prop} (h:B):if (!true)=true then A else B:=by rw [if_neg (by simp)];exact h
end L2
namespace L2
open PySem PySem.Spec PyProof.Rows PySem.SeqAt
open AutoSeq1 (wpAny_loadPart')
end L2
namespace L2
open PySem PySem.Spec PyProof.Rows
def Wm:List V->Hp->VK->Prop:=fun xs H Q=>∃ (p:Addr) (ns:List Int),xs=[.ref p]/\H p=some (.lst (ns.map V.int))/\Q (.int ns.sum) H
section
variable {X:Cx}
theorem GD (hc:X.calm=true):CallR X (.builtin "sum") Wm:=by
 intro pins s U H xs us Q I r h
 obtain ⟨p,ns,rfl,hp,q⟩:=h
 obtain ⟨u,rfl,ru⟩:=vals1 r
 cases ru
 obtain ⟨hz,its,n,rv,g⟩:=I.hok p _ hp
 have hi:IntsAre its ns:=intsAre_of rv
 obtain ⟨ys,ey⟩:=hi.allInts.items
 have hL:s.heap.IsList p (intItems ys):=⟨_,g,rfl,n,by rw [← ey]⟩
 have en:ys.toList.map (·.1)=ns:=by rw [← nums_intItems,← ey,← hi.numsOf]
 refine sum_intListG (I.ok.hd hc) hL fun h' tk t' hk=>⟨.int ns.sum,H,I.kept hk,⟨t',?_⟩,q⟩
 rw [preSum_eq,Ym (by simp),en]
theorem TX {i:Nat} {x:Str} {e:Expr} {te:TE} {op:Operator} {r:R2} {pos pos':Pos} (hN:X.N.Nodup) (hi:X.N[i]?=some x) (hx:Loc X.env.scope x) (he:JE X e te) (ho:OpR X (inplaceOp op) r) (hf:X.fn x=true):
  JS X (.AugAssign (.Name x pos') op e pos) (Rr i te r):=⟨Rt hN hi hx he.run ho (.inl hf)⟩
end
section
variable {U:St} {H:Hp} {Q:VK} {D:Ends}
theorem uE {i:Nat} {te:TE} {r:R2} {v:V} (e:U[i]?=some (some v)) (h:te U H fun y H1=>r v y H1 fun z H2=>D.nx (U.set i (some z)) H2):Rr i te r D U H:=⟨v,e,h⟩
theorem Wn {p:Addr} {ns:List Int} (hp:H p=some (.lst (ns.map V.int))) (h:Q (.int ns.sum) H):Wm [.ref p] H Q:=⟨p,ns,rfl,hp,h⟩
end
def rInD (K:W.Frag):R2:=fun x y H Q=>Nq K x y H Q\/∃ a o,y= .ref a/\DGet H a x o/\Q (.bl o.isSome) H
def uF:Br:=fun o i v H R=>uw o i v H R\/∃ a H4,o= .ref a/\DPut H a i v H4/\R H4
def v5 (n0:List V->Hp->(Int->Int->Nat->Prop)->Prop) (ta:TA):TE:=fun U H Q=>ta U H fun vs H1=>n0 vs H1 fun lo c n=>∀ q,H1 q=none->Q (.ref q) (upd H1 q (.lst ((List.range n).map fun i:Nat=>V.int (lo+(i:Int)*c))))
def Wo:List V->Hp->(Int->Int->Nat->Prop)->Prop:=fun vs _ R=>∃ n:Nat,vs=[.int n]/\n<=1000000/\R 0 1 n
theorem GF {lo c:Int} {n:Nat} {acc:Array Value} (h:ItemsOf (fun i v=>∃ t,v= .int (lo+i*c) t) acc n):Vals ((List.range n).map fun i:Nat=>V.int (lo+(i:Int)*c)) acc.toList:=by
 obtain ⟨h1,h2⟩:=h
 have key:∀ (k:Nat) (a:List Value) (b:Nat),a.length=k->(∀ (j:Nat) (v:Value),a[j]?=some v->∃ t,v= .int (lo+((b+j:Nat):Int)*c) t)->Vals ((List.range' b k).map fun i:Nat=>V.int (lo+(i:Int)*c)) a:=by
  intro k
  induction k with
  | zero=>intro a b hl _;cases a with
   | nil=>exact .nil
   | cons _ _=>simp at hl
  | succ k ih=>
   intro a b hl hh
   cases a with
   | nil=>simp at hl
   | cons v a=>
    obtain ⟨t,e⟩:=hh 0 v (by simp)
    rw [List.range'_succ,Yk]
    refine .cons ⟨t,by simpa using e⟩ (ih a (b+1) (by simpa using hl) fun j v' e=>?_)
    obtain ⟨t,e⟩:=hh (j+1) v' (by simpa using e)
    exact ⟨t,by rw [e];congr 3;omega⟩
 rw [List.range_eq_range']
 refine key n acc.toList 0 (by simpa using h1) fun j v e=>?_
 obtain ⟨t,e⟩:=h2 j v (by simpa using e)
 exact ⟨t,by rw [e];congr 3;simp⟩
section
variable {X:Cx}
theorem rZ {pins:List (Addr×Obj)} {U:St} {H1:Hp} {s1:Shared} {Q:VK} {E:Value->Shared->Prop} {lo hi c:Int} {t u v:Tok} {tk n:Nat} (hc:X.calm=true) (I1:Inv X pins U H1 s1) (hs:Builtin.Range.small lo hi c=true) (hn:Builtin.Range.rangeSize lo hi c=(n:Int)) (hl:n<=1000000)
  (q:∀ q,H1 q=none->Q (.ref q) (upd H1 q (.lst ((List.range n).map fun i:Nat=>V.int (lo+(i:Int)*c))))):
  wpAny (model X.prog X.w) X.A (call (.type "list") [.ref s1.heap.objs.size]) (EP X pins U Q) E {s1 with heap:=s1.heap.push {cls:=.type "range",data:=.fields #[.int lo t,.int hi u,.int c v]},toks:=tk}:=by
 have I2:Inv X pins U H1 {s1 with heap:=s1.heap.push {cls:=.type "range",data:=.fields #[.int lo t,.int hi u,.int c v]},toks:=tk}:=I1.kept fun b o e=>Xm _ e
 refine call_list_range (n:=n) (I1.ok.hd hc) (IsRange.new ..) hs hn (by omega) fun h' tk' acc' c' hk hS hacc=>?_
 have hsl:n<=sizeLine:=Xv hl (by decide)
 exact ⟨.ref _,_,I2.laid (t':=tk') (o:=.lst ((List.range n).map fun i:Nat=>V.int (lo+(i:Int)*c))) hk (Xp _) ⟨by simpa using hsl,acc'.toList,c',GF hacc,by simpa using hS⟩,rfl,q _ I2.fresh⟩
theorem Cu {a:Expr} {ta:TA} {p p2 p3 pos:Pos} (hc:X.calm=true) (hg:Gl X "list") (hm:X.mg "list"=none) (hg2:Gl X "range") (hm2:X.mg "range"=none) (ha:JA X [a] ta) (h:autoParam (notStar a=true) L2.auto4._auto_1):
  JE X (.Call (.Name "list" p) [.Call (.Name "range" p2) [a] [] p3] [] pos) (v5 Wo ta):=⟨by
 intro pins s U H Q I hq
 refine Yv (gY I hg hm rQ (XX (arg1 rfl (Yv (gY I hg2 hm2 boot_range (XX (eQ (ha.run p3 pins s U H _ I hq) fun us s1 qq0=>?_) (bC h) rfl)))) rfl rfl))
 obtain ⟨vs,H1,I1,r1,q1⟩:=qq0
 obtain ⟨n,rfl,hn,q⟩:=q1
 obtain ⟨u,rfl,t,rfl⟩:=vals1 r1
 exact call_range_1 (rZ hc I1 (small_one (by omega) (by omega) (by omega) (by omega)) (by rw [rangeSize_one];split <;> omega) hn q)⟩
theorem TY {K:W.Frag} (hK:X.K=K) (hu:X.A.units+64 < cLine):OpR X (compareOp .In) (rInD K):=(Ce hK).or (by
 intro pins s U H x y v u Q I rx ry h
 obtain ⟨a,o,rfl,g,q⟩:=h
 obtain rfl:u=Value.ref a:=ry
 exact d_in (by omega) I g rx fun s3 I3=>⟨.bl o.isSome,H,I3,rfl,q⟩)
theorem pG (hu:X.A.units+64 < cLine):Mr X uF:=by
 intro pins s U H o i v ov iv u Q I ro ri rv h
 rcases h with h | ⟨a,H4,rfl,g,q⟩
 ·exact set_list pins s U H o i v ov iv u Q I ro ri rv h
 ·obtain rfl:ov=Value.ref a:=ro
  exact Gj (by omega) I g ri rv fun s4 I4=>⟨H4,I4,q⟩
end
section
variable {U:St} {H:Hp} {Q:VK} {K:W.Frag}
theorem lU {n0:List V->Hp->(Int->Int->Nat->Prop)->Prop} {ta:TA} (h:ta U H fun vs H1=>n0 vs H1 fun lo c n=>∀ q,H1 q=none->Q (.ref q) (upd H1 q (.lst ((List.range n).map fun i:Nat=>V.int (lo+(i:Int)*c))))):v5 n0 ta U H Q:=h
theorem Oh {n:Nat} {R:Int->Int->Nat->Prop} (hn:n<=1000000) (h:R 0 1 n):Wo [.int n] H R:=⟨n,rfl,hn,h⟩
theorem sr {p:Addr} {xs:List V} {i:Int} {n:Nat} {v:V} {R:Hp->Prop} (hp:H p=some (.lst xs)) (e:FZ xs.length i=some n) (h:R (upd H p (.lst (xs.set n v)))):uF (.ref p) (.int i) v H R:=.inl (cz hp e h)
end
def Wq (i j:Int):Prop:=0 < j/\j < 1606938044258990275541962092341162602522202993782792835301376
section
variable {X:Cx}
theorem v6:OpR X (binaryOp .FloorDiv) (rI Wq fun i j=>.int (i / j)):=Vi fun i j _ _ _ _ _ hc q=>by
 have h1:(0:Int) < j:=hc.1
 have h2:=hc.2
 refine floordiv_int (by omega) (by rw [Int.fdiv_eq_ediv_of_nonneg i (by omega)];exact q) (.inl (PyProof.noPylong_of_log2 ?_))
 have h3:j.natAbs.log2 < 200:=(Nat.log2_lt (by omega)).mpr (by omega)
 omega
end
end L2
namespace L2
open PySem PySem.Spec PyProof.Rows
open PySem.Sem (wp)
open PySem.AutoSeq1 (wpAny_loadPart')
end L2
namespace L2
open PySem PySem.Spec PyProof.Rows
end L2
namespace L2
open PySem PySem.Spec PyProof.Rows
open PySem.Sem (wp)
open PySem.AutoSeq1 (wpAny_loadPart')
section
variable {prog:Program} {w:World} {A:Around} {E:Value->Shared->Prop} {s:Shared}
theorem uQ {it l:Addr} {i:Nat} {items:Array Value} {x:Value} {Q:Value->Shared->Prop} (hit:s.heap.IsRevIter it l (i:Int)) (hl:s.heap.IsList l items) (hx:items[i]?=some x)
  (hQ:∀ h',h'.IsRevIter it l ((i:Int) - 1)->Heap.SameBut it s.heap h'->Q x {s with heap:=h'}):wpAny (model prog w) A (Builtin.SmallTypes.nextOf (.ref it)) Q E s:=by
 obtain ⟨o,ho,hc,hd⟩:=id hit
 obtain ⟨ol,hol,_,nl,hdl⟩:=hl
 unfold Builtin.SmallTypes.nextOf
 refine Xj (Y5 (name:=Str.ofString "__next__") hit.typeIs F.slot_lri_next
  (Zt F.slot_lri_next hit.typeIs F.entry_lri_next ?_ (F.args_lri_next_1 _)))
 unfold Builtin.«list_reverseiterator.__next__»
 refine Xj (wpAny_of_eq (a:=(Value.ref it,[])) rfl ?_)
 try dsimp only
 refine Xj (YL ho hd (x:=rawInt (i:Int)) rfl ?_)
 show wpAny _ _ (if (i:Int) < 0 then _ else _) _ _ s
 rw [if_neg (by omega)]
 show wpAny _ _ (field (.ref it) 0 >>=_) _ _ s
 refine Xj (YL ho hd (x:=.ref l) rfl ?_)
 show wpAny _ _ (seqItems? (.ref l) >>=_) _ _ s
 refine Xj (Ze hol hdl ?_)
 simp only [Int.toNat_natCast,hx]
 refine Xj (wpAny_setField ho hd (by simp) ?_)
 first
 | refine Xo ⟨x,rfl,Xo (hQ _ ?_ (Heap.SameBut.update ..))⟩
 | refine Xj (Xo (Xo ⟨x,rfl,Xo (hQ _ ?_ (Heap.SameBut.update ..))⟩))
 exact ⟨_,YM _ ho (Obj.isFreed_of_fields (Obj.data_mapFields hd _)),(Obj.cls_mapFields ..).trans hc,by
  rw [Obj.data_mapFields hd];simp⟩
theorem oF {it l:Addr} {Q:Value->Shared->Prop} (hh:A.handled=none) (hit:s.heap.IsRevIter it l (-1))
  (hE:∀ h' e,Heap.ExtBut it s.heap h'->(∃ o,h'.get? e=some o/\o.cls= .type "StopIteration")->E (.ref e) {s with heap:=h'}):wpAny (model prog w) A (Builtin.SmallTypes.nextOf (.ref it)) Q E s:=by
 obtain ⟨o,ho,hc,hd⟩:=id hit
 unfold Builtin.SmallTypes.nextOf
 refine Xj (Y5 (name:=Str.ofString "__next__") hit.typeIs F.slot_lri_next
  (Zt F.slot_lri_next hit.typeIs F.entry_lri_next ?_ (F.args_lri_next_1 _)))
 unfold Builtin.«list_reverseiterator.__next__»
 refine Xj (wpAny_of_eq (a:=(Value.ref it,[])) rfl ?_)
 try dsimp only
 refine Xj (YL ho hd (x:=rawInt (-1)) rfl ?_)
 show wpAny _ _ (if (-1:Int) < 0 then _ else _) _ _ s
 rw [if_pos (by decide)]
 refine Xj (wpAny_rule ?_)
 first
 | show wpAny _ _ (newExc (.type "StopIteration") [] >>=_) _ _ _
 | (refine Xj ?_;show wpAny _ _ (newExc (.type "StopIteration") [] >>=_) _ _ _)
 refine Xj ?_
 simp only [newExc,newTuple]
 refine Xj (Y8 ?_ (by size_fits))
 refine Xj (m:=firstArgMember _ _) (wpAny_of_eq (a:=Value.none) (by first | rfl | (simp only [firstArgMember];rfl)) ?_)
 refine Y8 ?_ (by size_fits)
 simp only [raiseNew]
 refine Xj (wpAny_handled ?_)
 first | rw [show A.in1.handled=none from hh] | rw [hh]
 refine Xj (Xo (wpAny_throw ?_))
 exact hE _ _ (((Heap.ExtBut.refl _ _).push _).push _) ⟨_,Xy _ rfl,rfl⟩
end
theorem oG (it l:Addr) (i:Int) (dct:Option Addr) (sl:Array (Option Value)):
  Meets (Builtin.«enumerate.__new__» ⟨[.type "enumerate",.ref it],[]⟩) (fun _ R s=>s.heap.get? it=some {cls:=.type "list_reverseiterator",dict:=dct,data:=.fields #[.ref l,rawInt i],slots:=sl}/\
   R (.ok (.ret (.ref s.heap.objs.size)))
    {s with heap:=s.heap.push {cls:=.type "enumerate",data:=.fields #[.none,.bool false,.ref it,rawInt 0,.none,.none]}}):=
 .of_wp fun prog w A R s h=>by
  obtain ⟨hp,g,d,tk,os⟩:=s;obtain ⟨hl,h⟩:=h
  have hsub:=sub_enumerate
  have hL:Heap.IsRevIter (Shared.heap ⟨hp,g,d,tk,os⟩) it l i:=⟨_,hl,rfl,rfl⟩
  wp_walk using wpAny_loadPart' hl
  refine wpAny_stack_any fun st=>Xo ?_
  split
  ·rename_i c _ _ _ _ _
   cases (c == Value.type "enumerate")
   ·wp_walk using wpAny_loadPart' hl,Z4 hL
    exact ⟨_,rfl,h⟩
   ·wp_walk using wpAny_loadPart' hl,Z4 hL
    exact ⟨_,rfl,h⟩
  ·wp_walk using wpAny_loadPart' hl,Z4 hL
   exact ⟨_,rfl,h⟩
end L2
namespace L2
open PySem PySem.Spec PyProof.Rows
section
variable {prog:Program} {w:World} {A:Around} {E:Value->Shared->Prop} {s:Shared}
theorem qx {it l:Addr} {i:Int} {Q:Value->Shared->Prop} (hL:s.heap.IsRevIter it l i)
  (h:∀ h',IsEnum h' s.heap.objs.size it 0 .none->(∀ b o,s.heap.get? b=some o->h'.get? b=some o)->Q (.ref s.heap.objs.size) {s with heap:=h'}):
  wpAny (model prog w) A (call (.type "enumerate") [.ref it]) Q E s:=by
 obtain ⟨⟨c,dct,dt,sl⟩,hl,hc,hd⟩:=hL
 replace hc:c= .type "list_reverseiterator":=hc
 replace hd:dt= .fields #[.ref l,rawInt i]:=hd
 subst hc hd
 refine callType_new F.called_enumerate (by decide) (F.typeCall_enumerate_1 _) (F.newCall_enumerate_1 _) (fun obj=>F.args_object_init_2 obj _) F.entry_enumerate_new
  (oG it l i dct sl) ⟨hl,?_⟩
 show _/\_
 have he:IsEnum (s.heap.push {cls:=.type "enumerate",data:=.fields #[.none,.bool false,.ref it,rawInt 0,.none,.none]}) s.heap.objs.size it 0 .none:=Xy _ rfl
 exact ⟨⟨_,he,rfl⟩,h _ he fun b o x=>Xm _ x⟩
end
theorem GJ {prog:Program} {w:World} {A:Around} (hh:A.handled=none) (it l:Addr) (hne:l≠it) (items:Array Value):
  Draws prog w A it [it,l] items.size (fun i v=>items[items.size - 1 - i]?=some v) (fun i h=>i<=items.size/\h.IsRevIter it l ((items.size:Int) - 1 - (i:Int))/\h.IsList l items) where
 live:=fun _ _ st=>let ⟨o,ho,_⟩:=st.2.1;⟨o,ho⟩
 frame:=fun _ _ _ x hk=>⟨x.1,x.2.1.at fun o e=>hk it (by simp) o e,x.2.2.at fun o e=>hk l (by simp) o e⟩
 item:=fun i s Q E hi x hQ=>by
  have e:(items.size:Int) - 1 - (i:Int)=((items.size - 1 - i:Nat):Int):=by omega
  have hit:=x.2.1
  rw [e] at hit
  have hx:items[items.size - 1 - i]?=some (items[items.size - 1 - i]'(by omega)):=Array.getElem?_eq_getElem (by omega)
  refine uQ hit x.2.2 hx fun h' hit' hs'=>?_
  have e2:((items.size - 1 - i:Nat):Int) - 1=(items.size:Int) - 1 - ((i+1:Nat):Int):=by omega
  rw [e2] at hit'
  exact hQ _ h' s.toks hx ⟨hi,hit',x.2.2.at fun o eo=>(hs'.2 l hne).trans eo⟩ hs'
 done:=fun s Q E x hE=>by
  have e:(items.size:Int) - 1 - (items.size:Int)= -1:=by omega
  have hit:=x.2.1
  rw [e] at hit
  exact oF hh hit hE
def GK (K:W.Frag) (a:Addr) (n:Nat):It:=
 ⟨fun i H=>i < n/\∃ xs,SqL K H a xs/\xs.length=n,
  fun i H v H'=>∃ T x,H T=none/\v= .ref T/\(∀ xs,SqL K H a xs->xs[n - 1 - i]?=some x)/\H'=upd H T (.tup [.int i,x]),
  fun i _=>i=n⟩
theorem Cv {P:Program} {w:World} {K:W.Frag} {elts:List Expr} {k n:Nat} {pos:Pos} {e it a:Addr} (hne:e≠it) (hea:e≠a) (hai:a≠it):
  Turn P w K (.Tuple elts k pos) (GK K a n) [e,it] e (fun i h=>(∃ old,IsEnum h e it i old)/\i<=n/\h.IsRevIter it a ((n:Int) - 1 - (i:Int))) where
 mem:=by simp
 obj:=fun i h st c hc=>by
  obtain ⟨⟨old,he⟩,_,⟨o1,e1,c1,d1⟩⟩:=st
  simp only [XD,Yj,or_false] at hc
  rcases hc with rfl | rfl
  ·exact ⟨_,he,fun v z=>by cases z⟩
  ·exact ⟨_,e1,fun v z=>by rw [d1] at z;cases z⟩
 keep:=fun i h h' st kk=>by
  obtain ⟨⟨old,he⟩,hi,h1⟩:=st
  exact ⟨⟨old,kk e (by simp) _ he⟩,hi,h1.at fun o q=>kk it (by simp) o q⟩
 item:=by
  intro X hP hw hK hc i pins s U H E I hf st hg
  subst hP hw hK
  obtain ⟨⟨old,he⟩,hi,h1⟩:=st
  obtain ⟨hlt,xs,hq,hlen⟩:=hg
  obtain ⟨its,rv,p,_⟩:=I.list hq
  have l1:=rv.length
  have sz:its.toArray.size=n:=by rw [XM];omega
  obtain ⟨x,hx⟩:∃ x,xs[n - 1 - i]?=some x:=⟨_,Xk (by omega)⟩
  obtain ⟨u,hu,ru⟩:=rv.get hx
  have h1':s.heap.IsRevIter it a ((its.toArray.size:Int) - 1 - (i:Int)):=by rw [sz];exact h1
  refine wpAny_pyNext_enum_itemD (GJ (A:=X.A.in1) (I.ok.hd hc) it a hai its.toArray) he ⟨by omega,h1',p.isList⟩ (by omega) hne (by simp [hne,hea]) fun x' h' tk hx' a1 a2 a3 a4 hk=>?_
  have ex:x'=u:=by
   have h2:its[its.length - 1 - i]?=some x':=by simpa using hx'
   rw [show its.length - 1 - i=n - 1 - i by omega,hu] at h2
   exact (XS h2).symm
  subst ex
  refine ⟨_,rfl,wpAny_letOwnedTupleGo_enum a1 fun h'' a1' sb=>?_⟩
  have lt:∀ {c o},s.heap.get? c=some o->s.heap.objs.size≠c:=fun e=>Zd (Xr e)
  have lti:s.heap.objs.size≠it:=by obtain ⟨o,q,_⟩:=h1;exact lt q
  have isT:h''.IsTuple s.heap.objs.size #[.int i tk,x']:=⟨_,sb.extBut _ _ (lt he) a3,rfl,_,rfl⟩
  have kall:∀ b o,b ∉ [e,it]->s.heap.get? b=some o->h''.get? b=some o:=fun b o hb q=>by
   simp only [XD,Yj,or_false,not_or] at hb
   exact sb.extBut _ _ hb.1 (hk b o hb.1 hb.2 q)
  have hTn:H s.heap.objs.size=none:=I.hok.fresh (Xp _)
  refine ⟨.ref s.heap.objs.size,_,I.newtup (tk:=tk+1) hf (Xp _) kall isT (xs:=[.int i,x]) (.cons ⟨_,rfl⟩ (.cons ru .nil)) (by simp;decide),rfl,⟨_,x,hTn,rfl,fun zs hs=>by rw [I.list_inj hs hq];exact hx,rfl⟩,?_,fun b hb=>?_⟩
  ·refine ⟨⟨_,a1'⟩,hlt,?_⟩
   have:=a2.2.1
   rw [sz] at this
   exact this.at fun o q=>sb.extBut _ _ (Ne.symm hne) q
  ·have:s.heap.objs.size≠b:=by
    simp only [XD,Yj,or_false] at hb
    rcases hb with rfl | rfl
    ·exact lt he
    ·exact lti
   rw [aC (Ne.symm this)]
   exact (hf b hb).1
 done:=by
  intro X hP hw hK hc i pins s U H E I hf st hg
  subst hP hw hK
  obtain ⟨⟨old,he⟩,hi,h1⟩:=st
  have hin:i=n:=hg
  subst hin
  rw [show (i:Int) - 1 - (i:Int)= -1 by omega] at h1
  have ht:s.TypeIs (.ref e) "enumerate":=⟨_,he,rfl⟩
  unfold pyNext
  refine Xj (Aab (Y5 (name:=Str.ofString "__next__") ht F.slot_enumerate_next
   (Zt F.slot_enumerate_next ht F.entry_enumerate_next ?_ (F.args_enumerate_next_1 _))))
  show wpAny _ _ (field (.ref e) 2 >>=_) _ _ _
  refine Xj (YL he rfl (x:=.ref it) rfl ?_)
  refine Xj (oF (A:=X.A.in1) (I.ok.hd hc) h1 fun h' x he' hx'=>?_)
  obtain ⟨o,ho,hc'⟩:=hx'
  refine Xj (wpAny_isInstance (T:="StopIteration") (b:=true) ⟨o,ho,hc'⟩ isSubtype_stop ?_)
  refine Xo ⟨rfl,I.only (tk:=s.toks) hf fun b o hb q=>?_⟩
  simp only [XD,Yj,or_false,not_or] at hb
  exact he' b o hb.2 q
 self:=fun _ _ _ _ _ st h=>let ⟨⟨_,he⟩,_⟩:=st;ZX he h
def Ac (K:W.Frag) (ta:TE):TI:=fun U H R=>ta U H fun x H1=>∃ l xs,x= .ref l/\SqL K H1 l xs/\R (GK K l xs.length) H1
theorem Cw {X:Cx} {K:W.Frag} {a:Expr} {ta:TE} {elts:List Expr} {k:Nat} {tp p p2 p3 pos:Pos} (hK:X.K=K) (hg:Gl X "enumerate") (hm:X.mg "enumerate"=none) (hg2:Gl X "reversed") (hm2:X.mg "reversed"=none) (ha:JE X a ta) (h:autoParam (notStar a=true) L2.auto4._auto_1):
  JI X (.Tuple elts k tp) (.Call (.Name "enumerate" p) [.Call (.Name "reversed" p2) [a] [] p3] [] pos) (Ac K ta):=⟨by
 subst hK
 intro pins s U H R I hq
 refine Call_ (gY I hg hm rR (XX (arg1 rfl (Yv (gY I hg2 hm2 uz (XX (arg1 h (eQ (ha.run pins s U H _ I hq) fun u s1 qq0=>?_)) (bC h) rfl)))) rfl rfl))
 obtain ⟨x,H1,I1,rx,l,xs,ex,hx,q⟩:=qq0
 subst ex
 cases rx
 obtain ⟨its,rv,ht,hz⟩:=I1.list hx
 have hlen:=rv.length
 have lt:l < s1.heap.objs.size:=by obtain ⟨o,ho,_⟩:=ht.isList;exact Xr ho
 refine call_reversed_list ht.isList ?_
 have e0:(s1.heap.push (PySem.revObj l ((its.toArray.size:Int) - 1))).get? s1.heap.objs.size=some (PySem.revObj l ((its.toArray.size:Int) - 1)):=Xy _ rfl
 have s0:(s1.heap.push (PySem.revObj l ((its.toArray.size:Int) - 1))).objs.size=s1.heap.objs.size+1:=YT ..
 have k0:∀ b o,s1.heap.get? b=some o->(s1.heap.push (PySem.revObj l ((its.toArray.size:Int) - 1))).get? b=some o:=fun b o q=>Xm _ q
 refine qx (it:=s1.heap.objs.size) (l:=l) (i:=(its.toArray.size:Int) - 1) ⟨_,e0,rfl,rfl⟩ fun h' z1 hk=>?_
 have z1':IsEnum h' (s1.heap.objs.size+1) s1.heap.objs.size 0 .none:=by rw [← s0];exact z1
 have z2:h'.IsRevIter s1.heap.objs.size l ((xs.length:Int) - 1 - ((0:Nat):Int)):=⟨_,hk _ _ e0,rfl,by
  show Data.fields #[.ref l,rawInt ((its.toArray.size:Int) - 1)]=_
  rw [show ((its.toArray.size:Int) - 1)=(xs.length:Int) - 1 - ((0:Nat):Int) by rw [XM];omega]⟩
 have J1:Inv X pins U H1 {s1 with heap:=h'}:=I1.kept (t':=s1.toks) fun b o q=>hk b o (k0 b o q)
 rw [s0]
 refine ZX z1' ?_
 have key2:∀ n l:Nat,l < n->n+1≠l/\l≠n:=fun n l h=>⟨by omega,by omega⟩
 refine ⟨s1.heap.objs.size+1,_,_,_,H1,rfl,J1,Cv (n:=xs.length) (Nat.succ_ne_self _) (key2 _ _ lt).1 (key2 _ _ lt).2,⟨⟨_,z1'⟩,YK _,z2⟩,fun b hb=>?_,q⟩
 have hb':s1.heap.objs.size<=b:=by
  simp only [XD,Yj,or_false] at hb
  have key:∀ n c:Nat,(c=n+1\/c=n)->n<=c:=fun n c h=>by omega
  exact key _ _ hb
 exact I1.fpOk hb' (I1.hok.fresh hb')⟩
section
variable {K:W.Frag} {U:St} {H:Hp}
theorem jQ {ta:TE} {R:It->Hp->Prop} (h:ta U H fun x H1=>∃ l xs,x= .ref l/\SqL K H1 l xs/\R (GK K l xs.length) H1):Ac K ta U H R:=h
theorem GP {a:Addr} {xs:List V} {g:TG} {tb:TS} {D:Ends} (Pv:Nat->St->Hp->Prop) (h0:Pv 0 U H) (hq:∀ i U H,i<=xs.length->Pv i U H->SqL K H a xs)
  (hs:∀ i U H T x,i < xs.length->xs[xs.length - 1 - i]?=some x->Pv i U H->H T=none->g (.ref T) U (upd H T (.tup [.int i,x])) fun σ2 H2=>tb {D with nx:=Pv (i+1),ct:=Pv (i+1),bk:=D.nx} σ2 H2) (hd:∀ U H,Pv xs.length U H->D.nx U H):
  ∃ W:Nat->Nat->St->Hp->Prop,(∃ m,W 0 m U H)/\∀ i m U H,W i m U H->
   ((GK K a xs.length).stop i H/\D.nx U H)\/((GK K a xs.length).go i H/\∃ N:St->Hp->Prop,(∀ U' H',N U' H'->∃ m',m' < m/\W (i+1) m' U' H')/\∀ x H',(GK K a xs.length).yld i H x H'->g x U H' fun σ2 H2=>tb {D with nx:=N,ct:=N,bk:=D.nx} σ2 H2):=by
 refine ⟨fun i m U H=>m=xs.length - i/\i<=xs.length/\Pv i U H,⟨xs.length,by simp,YK _,h0⟩,?_⟩
 rintro i m U H ⟨rfl,hi,p⟩
 have q1:=hq i U H hi p
 by_cases hlt:i < xs.length
 ·refine .inr ⟨⟨hlt,xs,q1,rfl⟩,Pv (i+1),fun U' H' p'=>⟨xs.length - (i+1),by omega,rfl,hlt,p'⟩,fun x H' y=>?_⟩
  obtain ⟨T,u,hT,e1,e2,e4⟩:=y
  subst e1 e4
  exact hs i U H T u hlt (e2 xs q1) p hT
 ·have e:i=xs.length:=by omega
  subst e
  exact .inl ⟨rfl,hd U H p⟩
end
end L2
namespace L2
open PySem PySem.Spec PyProof.Rows
open PySem.Sem (wp)
end L2
namespace L2
open PySem PySem.Spec PyProof.Rows
end L2
namespace L2
open PySem PySem.Spec PyProof.Rows
open PySem.Sem (wp)
structure v7 (z TI TO i1 i2:Addr) (fp1 fp2:List Addr):Prop where
 TIz:TI≠z
 TOz:TO≠z
 i1z:i1≠z
 i2z:i2≠z
 TITO:TI≠TO
 TIi1:TI≠i1
 TIi2:TI≠i2
 TOi1:TO≠i1
 TOi2:TO≠i2
 i12:i1≠i2
 f1:∀ b∈fp1,b≠z/\b≠TO/\b≠i2
 f2:∀ b∈fp2,b≠z/\b≠TO/\b≠i1
section
variable {prog:Program} {w:World} {A:Around} {E:Value->Shared->Prop} {s:Shared} {z TI TO i1 i2:Addr} {fp1 fp2:List Addr} {n1 n2 k1 k2:Nat} {P1 P2:Nat->Value->Prop} {St1 St2:Nat->Heap->Prop} {a b:Value}
theorem GQ {Q:Value->Shared->Prop} (D1:Draws prog w A i1 fp1 n1 P1 St1) (D2:Draws prog w A i2 fp2 n2 P2 St2) (D:v7 z TI TO i1 i2 fp1 fp2)
  (hz:IsZip s.heap z TI TO .none) (hTI:IsPair s.heap TI (.ref i1) (.ref i2)) (hTO:IsPair s.heap TO a b) (s1:St1 k1 s.heap) (s2:St2 k2 s.heap) (l1:k1 < n1) (l2:k2 < n2)
  (hQ:∀ x y h' tk,P1 k1 x->P2 k2 y->IsZip h' z TI TO (rawInt s.heap.objs.size)->IsPair h' TO x y->St1 (k1+1) h'->St2 (k2+1) h'->IsPair h' s.heap.objs.size x y->
   (∀ c o,c≠z->c≠TO->c≠i1->c≠i2->s.heap.get? c=some o->h'.get? c=some o)->Q (.ref s.heap.objs.size) {s with heap:=h',toks:=tk}):
  wpAny (model prog w) A (Builtin.«zip.__next__» ⟨[.ref z],[]⟩) (fun fin s'=>∃ v,fin= .done (.ret v)/\Q v s') E s:=by
 have sb:∀ {x:Addr} {h h':Heap},Heap.SameBut x h h'->∀ c o,c≠x->h.get? c=some o->h'.get? c=some o:=fun g c o n e=>g.extBut _ _ n e
 show wpAny _ _ (field (.ref z) 2 >>=_) _ _ _
 refine Xj (YL hz rfl (x:=.bool false) rfl ?_)
 show wpAny _ _ (field (.ref z) 3 >>=_) _ _ _
 refine Xj (YL hz rfl (x:=.ref TI) rfl (Xj (Ze hTI rfl ?_)))
 show wpAny _ _ (Builtin.SmallTypes.ownedTupleIsFree (.ref z) >>=_) _ _ _
 unfold Builtin.SmallTypes.ownedTupleIsFree
 refine Xj (Xj (YL hz rfl (x:=.none) rfl (Xo ?_)))
 simp only [if_true]
 refine Xj (wpAny_rule (Xj (YL hz rfl (x:=.ref TO) rfl ?_)))
 refine Xj (ZR hz (by simp) fun g1 y1 e1=>?_)
 replace y1:IsZip g1 z TI TO .ellipsis:=y1
 refine Xj ?_
 simp only [List.zipIdx_cons,List.zipIdx_nil,List.forIn_cons,List.forIn_nil]
 refine Xj (Xj (wpAny_onRaise ?_))
 show wpAny _ _ (Builtin.SmallTypes.nextOf (.ref i1) >>=_) _ _ _
 have t1:St1 k1 g1:=D1.frame _ _ _ s1 fun c hc o e=>sb e1 c o (D.f1 c hc).1 e
 have t2:St2 k2 g1:=D2.frame _ _ _ s2 fun c hc o e=>sb e1 c o (D.f2 c hc).1 e
 refine Xj (D1.item k1 _ _ _ l1 t1 fun x g2 tk px u1 e2=>Xo ?_)
 have p2:IsPair g2 TO a b:=sb e2 _ _ D.TOi1 (sb e1 _ _ D.TOz hTO)
 refine Xj (Ze p2 rfl (Xj (wpAny_updateSeq_pair p2 fun g3 p3 e3=>?_)))
 replace p3:IsPair g3 TO x b:=p3
 refine Xj (wpAny_letGo (Xo ?_))
 refine Xj (Xj (wpAny_onRaise ?_))
 show wpAny _ _ (Builtin.SmallTypes.nextOf (.ref i2) >>=_) _ _ _
 have t3:St2 k2 g3:=D2.frame _ _ _ t2 fun c hc o e=>sb e3 c o (D.f2 c hc).2.1 (sb e2 c o (D.f2 c hc).2.2 e)
 refine Xj (D2.item k2 _ _ _ l2 t3 fun y g4 tk2 py u2 e4=>Xo ?_)
 have p4:IsPair g4 TO x b:=sb e4 _ _ D.TOi2 p3
 refine Xj (Ze p4 rfl (Xj (wpAny_updateSeq_pair p4 fun g5 p5 e5=>?_)))
 replace p5:IsPair g5 TO x y:=p5
 refine Xj (wpAny_letGo (Xo (Xo ?_)))
 refine Xj (Ze p5 rfl (Xj (wpAny_newTuple ?_)))
 have sz:g5.objs.size=s.heap.objs.size:=by rw [e5.1,e4.1,e3.1,e2.1,e1.1]
 have z5:IsZip g5 z TI TO .ellipsis:=sb e5 _ _ D.TOz.symm (sb e4 _ _ D.i2z.symm (sb e3 _ _ D.TOz.symm (sb e2 _ _ D.i1z.symm y1)))
 have k5:∀ c o,c≠z->c≠TO->c≠i1->c≠i2->s.heap.get? c=some o->g5.get? c=some o:=fun c o c1 c2 c3 c4 e=>
  sb e5 _ _ c2 (sb e4 _ _ c4 (sb e3 _ _ c2 (sb e2 _ _ c3 (sb e1 _ _ c1 e))))
 have v1:St1 (k1+1) g5:=D1.frame _ _ _ u1 fun c hc o e=>sb e5 c o (D.f1 c hc).2.1 (sb e4 c o (D.f1 c hc).2.2 (sb e3 c o (D.f1 c hc).2.1 e))
 have v2:St2 (k2+1) g5:=D2.frame _ _ _ u2 fun c hc o e=>sb e5 c o (D.f2 c hc).2.1 e
 have zlt:z < g5.objs.size:=Xr z5
 show wpAny _ _ (Builtin.SmallTypes.ownedTupleHandOut (.ref z) (.ref g5.objs.size) >>=_) _ _ _
 unfold Builtin.SmallTypes.ownedTupleHandOut
 have z6:IsZip (g5.push {cls:=.type "tuple",data:=.seq #[x,y]}) z TI TO .ellipsis:=Xm _ z5
 refine Xj (Xj (ZR z6 (by simp) fun g7 z7 e7=>?_))
 replace z7:IsZip g7 z TI TO (rawInt g5.objs.size):=z7
 refine ZR z7 (by simp) fun g8 z8 e8=>?_
 replace z8:IsZip g8 z TI TO (rawInt g5.objs.size):=z8
 have up:∀ c o,c≠z->g5.get? c=some o->g8.get? c=some o:=fun c o c1 e=>sb e8 _ _ c1 (sb e7 _ _ c1 (Xm _ e))
 have pT:IsPair g8 g5.objs.size x y:=sb e8 _ _ (Zd zlt) (sb e7 _ _ (Zd zlt) (Xy _ rfl))
 rw [sz] at z8 pT
 refine Xo ⟨_,rfl,?_⟩
 show Q (.ref g5.objs.size) _
 rw [sz]
 exact hQ x y g8 _ px py z8 (up _ _ D.TOz p5) (D1.frame _ _ _ v1 fun c hc o e=>up c o (D.f1 c hc).1 e) (D2.frame _ _ _ v2 fun c hc o e=>up c o (D.f2 c hc).1 e) pT fun c o c1 c2 c3 c4 e=>up c o c1 (k5 c o c1 c2 c3 c4 e)
theorem Ka {Q:Fin->Shared->Prop} (D1:Draws prog w A i1 fp1 n1 P1 St1) (D:v7 z TI TO i1 i2 fp1 fp2)
  (hz:IsZip s.heap z TI TO .none) (hTI:IsPair s.heap TI (.ref i1) (.ref i2)) (s1:St1 n1 s.heap)
  (hE:∀ h' e,(∀ c o,c≠z->c≠i1->s.heap.get? c=some o->h'.get? c=some o)->(∃ o,h'.get? e=some o/\o.cls= .type "StopIteration")->E (.ref e) {s with heap:=h'}):
  wpAny (model prog w) A (Builtin.«zip.__next__» ⟨[.ref z],[]⟩) Q E s:=by
 have sb:∀ {x:Addr} {h h':Heap},Heap.SameBut x h h'->∀ c o,c≠x->h.get? c=some o->h'.get? c=some o:=fun g c o n e=>g.extBut _ _ n e
 show wpAny _ _ (field (.ref z) 2 >>=_) _ _ _
 refine Xj (YL hz rfl (x:=.bool false) rfl ?_)
 show wpAny _ _ (field (.ref z) 3 >>=_) _ _ _
 refine Xj (YL hz rfl (x:=.ref TI) rfl (Xj (Ze hTI rfl ?_)))
 show wpAny _ _ (Builtin.SmallTypes.ownedTupleIsFree (.ref z) >>=_) _ _ _
 unfold Builtin.SmallTypes.ownedTupleIsFree
 refine Xj (Xj (YL hz rfl (x:=.none) rfl (Xo ?_)))
 simp only [if_true]
 refine Xj (wpAny_rule (Xj (YL hz rfl (x:=.ref TO) rfl ?_)))
 refine Xj (ZR hz (by simp) fun g1 y1 e1=>?_)
 replace y1:IsZip g1 z TI TO .ellipsis:=y1
 refine Xj ?_
 simp only [List.zipIdx_cons,List.zipIdx_nil,List.forIn_cons,List.forIn_nil]
 refine Xj (Xj (wpAny_onRaise ?_))
 show wpAny _ _ (Builtin.SmallTypes.nextOf (.ref i1) >>=_) _ _ _
 have t1:St1 n1 g1:=D1.frame _ _ _ s1 fun c hc o e=>sb e1 c o (D.f1 c hc).1 e
 refine Xj (D1.done _ _ _ t1 fun g2 e e2 he=>?_)
 obtain ⟨oe,hoe,hce⟩:=he
 have y2:IsZip g2 z TI TO .ellipsis:=e2 _ _ D.i1z.symm y1
 have hez:e≠z:=fun x=>by subst x;rw [y2] at hoe;cases hoe;simp at hce
 exact ZR y2 (by simp) fun g3 _ e3=>hE g3 e (fun c o c1 c3 x=>sb e3 _ _ c1 (e2 _ _ c3 (sb e1 _ _ c1 x))) ⟨oe,sb e3 _ _ hez hoe,hce⟩
end
abbrev Xe (h:Heap) (x:Str) (t:Tok):Heap:=h.push {cls:=.type (strIterType x),data:=.fields #[.str x t,.int 0 0]}
abbrev Xf (h:Heap) (x:Str) (t:Tok) (l:Addr):Heap:=(Xe h x t).push {cls:=.type "list_iterator",data:=.fields #[.ref l,.int 0 0]}
abbrev Xg (h:Heap) (x:Str) (t:Tok) (l:Addr):Heap:=(Xf h x t l).push {cls:=.type "tuple",data:=.seq #[.ref h.objs.size,.ref (Xe h x t).objs.size]}
abbrev Xh (h:Heap) (x:Str) (t:Tok) (l:Addr):Heap:=(Xg h x t l).push {cls:=.type "tuple",data:=.seq #[.none,.none]}
abbrev U4 (h:Heap) (x:Str) (t:Tok) (l:Addr):Heap:=(Xh h x t l).push {cls:=.type "zip",data:=.fields #[.none,.bool false,.bool false,.ref (Xf h x t l).objs.size,.ref (Xg h x t l).objs.size]}
theorem uR (x:Str) (t:Tok) (l2:Addr) (ys:Array Value):
  Meets (Builtin.«zip.__new__» ⟨[.type "zip",.str x t,.ref l2],[]⟩) (fun _ R s=>s.heap.IsList l2 ys/\R (.ok (.ret (.ref (Xh s.heap x t l2).objs.size))) {s with heap:=U4 s.heap x t l2}):=
 .of_wp fun prog w A R s h=>by
  obtain ⟨hp,g,d,tk,os⟩:=s;obtain ⟨hl2,h⟩:=h
  have hsub:=sub_zip
  have hL2:Heap.IsList (Shared.heap ⟨hp.push {cls:=.type (strIterType x),data:=.fields #[.str x t,.int 0 0]},g,d,tk,os⟩) l2 ys:=Heap.IsList.push hl2 _
  wp_walk using wpAny_pyIter_strU,wpAny_pyIter_list hL2
  exact ⟨_,rfl,h⟩
theorem Cy {prog:Program} {w:World} {A:Around} {E:Value->Shared->Prop} {s:Shared} {x:Str} {t:Tok} {l:Addr} {ys:Array Value} {Q:Value->Shared->Prop} (hl:s.heap.IsList l ys)
  (h:∀ h',IsZip h' (s.heap.objs.size+4) (s.heap.objs.size+2) (s.heap.objs.size+3) .none->IsPair h' (s.heap.objs.size+2) (.ref s.heap.objs.size) (.ref (s.heap.objs.size+1))->
   IsPair h' (s.heap.objs.size+3) .none .none->h'.IsStrIter s.heap.objs.size (strIterType x) x t 0->h'.IsListIter (s.heap.objs.size+1) l 0->
   (∀ c o,s.heap.get? c=some o->h'.get? c=some o)->Q (.ref (s.heap.objs.size+4)) {s with heap:=h'}):
  wpAny (model prog w) A (call (.type "zip") [.str x t,.ref l]) Q E s:=by
 refine callType_new F.called_zip (by decide) (F.typeCall_zip_2 _ _) (F.newCall_zip_2 _ _) (fun obj=>F.args_object_init_3 obj _ _) F.entry_zip_new (uR x t l ys) ⟨hl,?_⟩
 have a1:(Xe s.heap x t).objs.size=s.heap.objs.size+1:=YT ..
 have a2:(Xf s.heap x t l).objs.size=s.heap.objs.size+2:=by rw [YT,a1]
 have a3:(Xg s.heap x t l).objs.size=s.heap.objs.size+3:=by rw [YT,a2]
 have a4:(Xh s.heap x t l).objs.size=s.heap.objs.size+4:=by rw [YT,a3]
 have pu:∀ {g:Heap} {o u:Obj} {c:Addr},g.get? c=some u->(g.push o).get? c=some u:=fun e=>Xm _ e
 have g5:(U4 s.heap x t l).get? (Xh s.heap x t l).objs.size=some _:=Xy _ rfl
 have g4:(U4 s.heap x t l).get? (Xg s.heap x t l).objs.size=some _:=pu (Xy _ rfl)
 have g3:(U4 s.heap x t l).get? (Xf s.heap x t l).objs.size=some _:=pu (pu (Xy _ rfl))
 have g2:(U4 s.heap x t l).get? (Xe s.heap x t).objs.size=some _:=pu (pu (pu (Xy _ rfl)))
 have g1:(U4 s.heap x t l).get? s.heap.objs.size=some _:=pu (pu (pu (pu (Xy _ rfl))))
 show _/\_
 rw [a2,a3,a4] at g5
 rw [a1,a2] at g3
 rw [a3] at g4
 rw [a1] at g2
 rw [a4]
 exact ⟨⟨_,g5,rfl⟩,h _ g5 g3 g4 ⟨_,g1,rfl,rfl⟩ ⟨_,g2,rfl,rfl⟩ fun c o e=>pu (pu (pu (pu (pu e))))⟩
def GR (K:W.Frag) (x:Str) (b:Addr):It:=
 ⟨fun i H=>i < x.cps.size/\∃ ys y,SqL K H b ys/\ys[i]?=some y,
  fun i H v H'=>∃ T y,H T=none/\v= .ref T/\(∀ ys,SqL K H b ys->ys[i]?=some y)/\H'=upd H T (.tup [.str ⟨#[x.cps.getD i 0]⟩,y]),
  fun i _=>i=x.cps.size⟩
theorem v8 {P:Program} {w:World} {K:W.Frag} {elts:List Expr} {k:Nat} {pos:Pos} {z TI TO i1 i2 b:Addr} {x:Str} {t:Tok} {ty:String} (D:v7 z TI TO i1 i2 [i1] [i2,b]) (hb2:b≠i2)
  (Dr:∀ A:Around,A.handled=none->Draws P w A i1 [i1] x.cps.size (fun i v=>∃ c u,x.cps[i]?=some c/\v= .str ⟨#[c]⟩ u) (fun i h=>h.IsStrIter i1 ty x t i)):
  Turn P w K (.Tuple elts k pos) (GR K x b) [z,TI,TO,i1,i2] z (fun i h=>IsZip h z TI TO .none/\IsPair h TI (.ref i1) (.ref i2)/\(∃ c d,IsPair h TO c d)/\h.IsStrIter i1 ty x t i/\h.IsListIter i2 b i) where
 mem:=by simp
 obj:=fun i h st c hc=>by
  obtain ⟨hz,hTI,⟨_,_,hTO⟩,⟨o1,e1,_,d1⟩,⟨o2,e2,_,d2⟩⟩:=st
  simp only [XD,Yj,or_false] at hc
  rcases hc with rfl | rfl | rfl | rfl | rfl
  ·exact ⟨_,hz,nofun⟩
  ·exact ⟨_,hTI,nofun⟩
  ·exact ⟨_,hTO,nofun⟩
  ·exact ⟨_,e1,fun v z=>by rw [d1] at z;cases z⟩
  ·exact ⟨_,e2,fun v z=>by rw [d2] at z;cases z⟩
 keep:=fun i h h' st kk=>by
  obtain ⟨hz,hTI,⟨_,_,hTO⟩,⟨o1,e1,r1⟩,h2⟩:=st
  exact ⟨kk z (by simp) _ hz,kk TI (by simp) _ hTI,⟨_,_,kk TO (by simp) _ hTO⟩,⟨o1,kk i1 (by simp) _ e1,r1⟩,h2.at fun o e=>kk i2 (by simp) o e⟩
 item:=by
  intro X hP hw hK hc i pins s U H E I hf st hg
  subst hP hw hK
  obtain ⟨hz,hTI,⟨c,d,hTO⟩,h1,h2⟩:=st
  obtain ⟨hlt,ys,y,hq,hy⟩:=hg
  obtain ⟨its,rv,p,_⟩:=I.list hq
  obtain ⟨u,hu,ru⟩:=rv.get hy
  have hlt2:i < its.toArray.size:=by
   have:=(Xn.mp hu).1
   simpa using this
  have hT:s.TypeIs (.ref z) "zip":=⟨_,hz,rfl⟩
  have hh:X.A.in1.handled=none:=I.ok.hd hc
  unfold pyNext
  refine Xj (Aab (Y5 (name:=Str.ofString "__next__") hT F.slot_zip_next (Zt F.slot_zip_next hT F.entry_zip_next
   (GQ (Dr X.A.in1 hh) (Draws.list hh i2 b hb2 its.toArray) D hz hTI hTO h1 ⟨h2,p.isList⟩ hlt hlt2 fun a1 a2 h' tk px py b1 b2 b3 b4 b5 hk=>Xo ?_) (F.args_zip_next_1 _))))
  obtain ⟨ch,tu,hch,rfl⟩:=px
  have eu:a2=u:=by
   have h2:its[i]?=some a2:=by simpa using py
   rw [hu] at h2
   exact (XS h2).symm
  subst eu
  refine ⟨_,rfl,wpAny_letOwnedTupleGo_zip b1 fun h'' b1' sb=>?_⟩
  have lt:∀ {c o},s.heap.get? c=some o->s.heap.objs.size≠c:=fun e=>Zd (Xr e)
  have isT:h''.IsTuple s.heap.objs.size #[.str ⟨#[ch]⟩ tu,a2]:=⟨_,sb.extBut _ _ (lt hz) b5,rfl,_,rfl⟩
  have kall:∀ b o,b ∉ [z,TI,TO,i1,i2]->s.heap.get? b=some o->h''.get? b=some o:=fun b o hb e=>by
   simp only [XD,Yj,or_false,not_or] at hb
   exact sb.extBut _ _ hb.1 (hk b o hb.1 hb.2.2.1 hb.2.2.2.1 hb.2.2.2.2 e)
  have hTn:H s.heap.objs.size=none:=I.hok.fresh (Xp _)
  have ech:x.cps.getD i 0=ch:=by simp [Array.getD_eq_getD_getElem?,hch]
  refine ⟨.ref s.heap.objs.size,_,I.newtup (tk:=tk) hf (Xp _) kall isT (xs:=[.str ⟨#[x.cps.getD i 0]⟩,y]) (.cons ⟨tu,by rw [ech]⟩ (.cons ru .nil)) (by simp;decide),rfl,⟨_,y,hTn,rfl,fun zs hs=>by rw [I.list_inj hs hq];exact hy,rfl⟩,?_,fun b hb=>?_⟩
  ·obtain ⟨o1,e1,r1⟩:=b3
   exact ⟨b1',sb.extBut _ _ D.TIz (hk _ _ D.TIz D.TITO D.TIi1 D.TIi2 hTI),⟨_,_,sb.extBut _ _ D.TOz b2⟩,⟨o1,sb.extBut _ _ D.i1z e1,r1⟩,b4.1.extBut sb.extBut D.i2z⟩
  ·have:s.heap.objs.size≠b:=by
    simp only [XD,Yj,or_false] at hb
    rcases hb with rfl | rfl | rfl | rfl | rfl
    ·exact lt hz
    ·exact lt hTI
    ·exact lt hTO
    ·obtain ⟨o,e,_⟩:=h1;exact lt e
    ·obtain ⟨o,e,_⟩:=h2;exact lt e
   rw [aC (Ne.symm this)]
   exact (hf b hb).1
 done:=by
  intro X hP hw hK hc i pins s U H E I hf st hg
  subst hP hw hK
  obtain ⟨hz,hTI,⟨c,d,hTO⟩,h1,h2⟩:=st
  have hin:i=x.cps.size:=hg
  subst hin
  have hT:s.TypeIs (.ref z) "zip":=⟨_,hz,rfl⟩
  have hh:X.A.in1.handled=none:=I.ok.hd hc
  unfold pyNext
  refine Xj (Aab (Y5 (name:=Str.ofString "__next__") hT F.slot_zip_next (Zt F.slot_zip_next hT F.entry_zip_next
   (Ka (Dr X.A.in1 hh) D hz hTI h1 fun h' e hk he=>?_) (F.args_zip_next_1 _))))
  obtain ⟨o,ho,hcl⟩:=he
  refine Xj (wpAny_isInstance (T:="StopIteration") (b:=true) ⟨o,ho,hcl⟩ isSubtype_stop ?_)
  refine Xo ⟨rfl,I.only (tk:=s.toks) hf fun b o hb e=>?_⟩
  simp only [XD,Yj,or_false,not_or] at hb
  exact hk b o hb.1 hb.2.2.2.1 e
 self:=fun _ _ _ _ _ st h=>wpAny_pyIter_zip st.1 h
def Kc (K:W.Frag) (ta:TA):TI:=fun U H R=>ta U H fun vs H1=>∃ x b ys,vs=[.str x,.ref b]/\SqL K H1 b ys/\R (GR K x b) H1
theorem Ke {X:Cx} {K:W.Frag} {a b:Expr} {ta:TA} {elts:List Expr} {k:Nat} {tp p pos:Pos} (hc:X.calm=true) (hK:X.K=K) (hg:Gl X "zip") (hm:X.mg "zip"=none) (ha:JA X [a,b] ta) (h:autoParam (notStar a=true) L2.auto4._auto_1) (h2:autoParam (notStar b=true) L2.auto4._auto_1):
  JI X (.Tuple elts k tp) (.Call (.Name "zip" p) [a,b] [] pos) (Kc K ta):=⟨by
 subst hK
 intro pins s U H R I hq
 refine Call_ (gY I hg hm SX (XX (eQ (ha.run pos pins s U H _ I hq) fun us s1 qq0=>?_) (bC h) (by rw [bC h2];rfl)))
 obtain ⟨vs,H1,I1,r1,q1⟩:=qq0
 obtain ⟨x,l,ys,e,hl,q⟩:=q1
 subst e
 obtain ⟨u,u2,rfl,e1,e2⟩:∃ u u2,us=[u,u2]/\RelV (.str x) u/\RelV (.ref l) u2:=by
  cases r1 with
  | cons x r=>cases r with
   | cons y r=>cases r with
    | nil=>exact ⟨_,_,rfl,x,y⟩
 obtain ⟨t,rfl⟩:=e1
 cases e2
 obtain ⟨its,rv,p1,_⟩:=I1.list hl
 have lt1:l < s1.heap.objs.size:=by obtain ⟨o,ho,_⟩:=p1.isList;exact Xr ho
 refine Cy p1.isList fun h' z1 z2 z3 z4 z5 hk=>?_
 have J1:Inv X pins U H1 {s1 with heap:=h'}:=I1.kept (t':=s1.toks) hk
 have D:v7 (s1.heap.objs.size+4) (s1.heap.objs.size+2) (s1.heap.objs.size+3) s1.heap.objs.size (s1.heap.objs.size+1) [s1.heap.objs.size] [s1.heap.objs.size+1,l]:=by
  have key:∀ n b:Nat,b < n->v7 (n+4) (n+2) (n+3) n (n+1) [n] [n+1,b]:=fun n b h2=>by
   have k1:∀ c:Nat,c=n->c≠n+4/\c≠n+3/\c≠n+1:=fun c hc=>by omega
   have k2:∀ c:Nat,(c=n+1\/c=b)->c≠n+4/\c≠n+3/\c≠n:=fun c hc=>by omega
   refine ⟨?_,?_,?_,?_,?_,?_,?_,?_,?_,?_,fun c hc=>k1 c (Yn.mp hc),fun c hc=>k2 c (by simpa only [XD,Yj,or_false] using hc)⟩
   all_goals (show (_:Nat)≠_;omega)
  exact key _ _ lt1
 have nb:l≠s1.heap.objs.size+1:=Yh (Nat.lt_succ_of_lt lt1)
 refine wpAny_pyIter_zip z1 ?_
 have fpk:∀ b∈[s1.heap.objs.size+4,s1.heap.objs.size+2,s1.heap.objs.size+3,s1.heap.objs.size,s1.heap.objs.size+1],s1.heap.objs.size<=b:=by
  intro b hb
  simp only [XD,Yj,or_false] at hb
  have key:∀ n c:Nat,(c=n+4\/c=n+2\/c=n+3\/c=n\/c=n+1)->n<=c:=fun n c h=>by omega
  exact key _ _ hb
 cases hx:x.cps.all (· < 128)
 ·exact ⟨s1.heap.objs.size+4,_,_,_,H1,rfl,J1,v8 (ty:="str_iterator") (x:=x) (t:=t) D nb (fun A hA=>Draws.strWide hA _ x t),⟨z1,z2,⟨_,_,z3⟩,by simpa [strIterType,hx] using z4,z5⟩,fun b hb=>I1.fpOk (fpk b hb) (I1.hok.fresh (fpk b hb)),q⟩
 ·exact ⟨s1.heap.objs.size+4,_,_,_,H1,rfl,J1,v8 (ty:="str_ascii_iterator") (x:=x) (t:=t) D nb (fun A hA=>Draws.strAscii hA _ x t),⟨z1,z2,⟨_,_,z3⟩,by simpa [strIterType,hx] using z4,z5⟩,fun b hb=>I1.fpOk (fpk b hb) (I1.hok.fresh (fpk b hb)),q⟩⟩
section
variable {U:St} {H:Hp} {K:W.Frag}
theorem pH {a:TA} {R:It->Hp->Prop} (h:a U H fun vs H1=>∃ x b ys,vs=[.str x,.ref b]/\SqL K H1 b ys/\R (GR K x b) H1):Kc K a U H R:=h
theorem GX {x:Str} {b:Addr} {ys:List V} {g:TG} {tb:TS} {D:Ends} (Pv:Nat->St->Hp->Prop) (hl:x.cps.size=ys.length) (h0:Pv 0 U H) (hq:∀ i U H,i<=ys.length->Pv i U H->SqL K H b ys)
  (hs:∀ i U H T y,ys[i]?=some y->Pv i U H->H T=none->g (.ref T) U (upd H T (.tup [.str ⟨#[x.cps.getD i 0]⟩,y])) fun σ2 H2=>tb {D with nx:=Pv (i+1),ct:=Pv (i+1),bk:=D.nx} σ2 H2) (hd:∀ U H,Pv ys.length U H->D.nx U H):
  ∃ W:Nat->Nat->St->Hp->Prop,(∃ m,W 0 m U H)/\∀ i m U H,W i m U H->
   ((GR K x b).stop i H/\D.nx U H)\/((GR K x b).go i H/\∃ N:St->Hp->Prop,(∀ U' H',N U' H'->∃ m',m' < m/\W (i+1) m' U' H')/\∀ z H',(GR K x b).yld i H z H'->g z U H' fun σ2 H2=>tb {D with nx:=N,ct:=N,bk:=D.nx} σ2 H2):=by
 refine ⟨fun i m U H=>m=ys.length - i/\i<=ys.length/\Pv i U H,⟨ys.length,by simp,YK _,h0⟩,?_⟩
 rintro i m U H ⟨rfl,hi,p⟩
 have q1:=hq i U H hi p
 by_cases hlt:i < ys.length
 ·refine .inr ⟨⟨by omega,ys,ys[i],q1,Xk hlt⟩,Pv (i+1),fun U' H' p'=>⟨ys.length - (i+1),by omega,rfl,hlt,p'⟩,fun z H' y=>?_⟩
  obtain ⟨T,u,hT,e1,e2,e4⟩:=y
  subst e1 e4
  exact hs i U H T u (e2 ys q1) p hT
 ·have e:i=ys.length:=by omega
  subst e
  exact .inl ⟨hl.symm,hd U H p⟩
end
end L2
namespace L2
open PySem PySem.Spec PyProof.Rows
open PySem.Sem (wp)
open AutoSeq1 (wpAny_loadPart')
end L2
namespace L2
open PySem PySem.W PySem.Spec PyProof.Rows
end L2
namespace L2
open PySem PySem.Spec PyProof.Rows
open PySem.Sem (wp)
end L2
namespace L2
open PySem PySem.Spec PyProof.Rows
open PySem.Sem (wp)
open PySem.AutoSeq1 (wpAny_loadPart')
end L2
namespace L2
open PySem PySem.Spec PyProof.Rows
open PySem.Sem (wp)
end L2
namespace L2
open PySem PySem.Spec PyProof.Rows
structure uT (K:W.Frag) (mg:Str->Option Value) (x:Str):Prop where
 at_:mg x=some (.ref (aM mg x))
 cl:Cls K (aM mg x)
 makes:PySem.W.makesIn K (aM mg x)=true
 kp:PySem.W.keepIn K (.ref (aM mg x))=true
def clsIn (K:W.Frag) (C:Addr):Bool:=PySem.W.plainGet K C Str.empty && PySem.W.hasDictIn K C && PySem.W.plainOver K C
theorem Kf {K:W.Frag} {mg:Str->Option Value} {h:Heap} (X:K.In h) (G:h.Ns mainGlobals mg) {x:Str} {C:Addr} (a:PySem.W.nsIn K mainGlobals x=some (some (.ref C))) (b:clsIn K C=true)
  (s:PySem.W.findIn K (.ref C) "__setattr__"=some (some (.builtin "object.__setattr__"))) (m:PySem.W.makesIn K C=true) (k:PySem.W.keepIn K (.ref C)=true):uT K mg x:=by
 have e0:=Zr X G a
 have e:=mQ e0
 unfold clsIn at b
 simp only [XQ] at b
 exact ⟨by rw [e];exact e0,by rw [e];exact ⟨b.1.1,b.1.2,b.2,s⟩,by rw [e];exact m,by rw [e];exact k⟩
structure eU (K:W.Frag) (mg:Str->Option Value) (x m qual:Str) (st:Stmt):Prop where
 ex:∃ f fd,Meth K (aM mg x) m f/\Fun K m qual st f fd
theorem iR {K:W.Frag} {mg:Str->Option Value} {h:Heap} (X:K.In h) (G:h.Ns mainGlobals mg) {x m qual:Str} {C f:Addr} {st:Stmt} {oc:Value} {od an:Option Addr} {osl:Array (Option Value)} {kV doc pm cdv ct:Value}
  (a:PySem.W.nsIn K mainGlobals x=some (some (.ref C))) (i:PySem.W.findIn K (.ref C) m=some (some (.ref f))) (n:PySem.W.isFn K (.ref f)=true)
  (l:K.lookup f=some ⟨oc,od,.func (PySem.W.fnOf m qual (f9 st) (b8 st) (az st) .none kV doc pm an cdv ct),osl⟩) (c:PySem.W.codeIn K cdv qual=true) (k:PySem.W.keepIn K (.ref f)=true):eU K mg x m qual st:=by
 have e:=mQ (Zr X G a)
 exact ⟨f,_,by rw [e];exact ⟨i,n,k⟩,BV l c k⟩
theorem Kg {K:W.Frag} {mg:Str->Option Value} {h:Heap} (X:K.In h) (G:h.Ns mainGlobals mg) {x:Str} {C:Addr} {fl:List Str} (a:PySem.W.nsIn K mainGlobals x=some (some (.ref C))) (b:JZ K C fl=true):∀ f∈fl,NoAttr K (aM mg x) f:=fun n hn=>by
 rw [mQ (Zr X G a)]
 have:=Zi.mp b n hn
 first | exact Z0 this | exact Zh.mp this | simpa using this
def iT (j:Nat):Stmt->Stmt
 | .ClassDef _ _ _ ss _ _ _ _ _ _ _=>ss.getD j (.Pass ⟨0,0,0,0⟩)
 | s=>s
def HasM (P:Program) (w:World) (K:W.Frag) (mg:Str->Option Value) (base:Heap) (k:Nat) (x m:Str) (ps:List Str) (sp:Sp):Prop:=
 ∃ f fd,Meth K (aM mg x) m f/\Binds K fd ps []/\FnOk P w K mg base (NZ P w) k f fd ps sp
section
variable {P:Program} {w:World} {K:W.Frag} {mg:Str->Option Value} {base:Heap}
theorem jN {x m qual:Str} {st:Stmt} {N ps:List Str} {k:Nat} {sp:Sp} (D:eU K mg x m qual st) (S:aD N ps (az st))
  (hb:∀ (kV doc pm:Value) (an:Option Addr) (cdv ct:Value) (us:List Value),us.length=ps.length->bindArgs (PySem.W.fnOf m qual (f9 st) (b8 st) (az st) .none kV doc pm an cdv ct) ⟨us,[]⟩=pure (ps.zip us))
  (len:∀ vs H Q E,sp vs H Q E->vs.length=ps.length)
  (hbody:∀ (f:Addr) (cdv:Value) (A:Around) (outer:List Env) (s:Shared) (H:Hp) (vs:List V) (Q:VK) (E:XK),Room k (A.deeper (envOfC qual (az st) s.heap.objs.size f cdv))->sp vs H Q E->
   ∃ t,JB (ql (NZ P w) P w K mg base N qual (az st) f cdv A outer s H E) (b8 st) t/\t {nx:=fun _ H'=>Q .non H',rt:=Q} (start N vs) H):HasM P w K mg base (k+1) x m ps sp:=by
 obtain ⟨f,fd,hm,F⟩:=D.ex
 refine ⟨f,fd,hm,F.binds hb,?_⟩
 obtain ⟨oc,od,kV,doc,pm,an,cdv,ct,osl,rfl,lk,hcd⟩:=F.ex
 exact Io lk hcd S len fun A outer s H vs Q E hr h=>let ⟨t,j,q⟩:=hbody f cdv A outer s H vs Q E hr h;⟨t,j.run,q⟩
theorem HasM.mono {j k:Nat} {x m:Str} {ps:List Str} {sp:Sp} (h:HasM P w K mg base j x m ps sp) (hk:j<=k):HasM P w K mg base k x m ps sp:=
 let ⟨f,fd,a,c,d⟩:=h;⟨f,fd,a,c,d.mono hk⟩
end
def yL (C:Addr) (m:Str) (sp:Sp) (R:St->XK) (ta:TE) (t:TA):TE:=fun U H Q=>ta U H fun x H1=>∃ a dx fs,x= .ref a/\H1 a=some (.ins C dx fs)/\fs.lookup m=none/\t U H1 fun vs H2=>sp (x :: vs) H2 Q (R U)
def Kh (C:Addr) (sp:Sp) (R:St->XK) (t:TA):TE:=fun U H Q=>t U H fun vs H1=>∀ x dx,H1 x=none->H1 dx=none->dx≠x->
 sp (.ref x :: vs) (upd (upd H1 dx (.own x)) x (.ins C dx [])) (fun v H2=>v= .non/\Q (.ref x) H2) (R U)
section
variable {X:Cx} {K:W.Frag} {k:Nat} {f C:Addr} {ps:List Str} {sp:Sp} {R:St->XK} {x m fn:Str} {p pos apos pos':Pos} {e o value:Expr} {es:List Expr} {ta tv:TE} {t:TA} {pins:List (Addr×Obj)} {U:St} {H:Hp} {s:Shared} {Q:VK} {us:List Value} {vs:List V}
theorem aQ {pl:Sem Bool} (he:JE X o ta) (c:uT X.K X.mg x) (F:HasM X.prog X.w X.K X.mg X.base k x m ps sp) (hr:Room k X.A) (hx:lD X R) (ha:JA X (e :: es) t)
  (hs:autoParam ((e :: es).all notStar=true) L2.auto4._auto_1)
  (ht:eval (.Call (.Attribute o m apos) (e :: es) [] pos) X.env=(do
   let ov ← eval o X.env
   standAt apos.atName
   let (f,first) ← holding [ov] (getMethod ov m pl)
   callWith pos f first (backTo pos (starEach (e :: es) X.env)) (backToKw pos (keywordEach [] X.env))):=by rfl):
  JE X (.Call (.Attribute o m apos) (e :: es) [] pos) (yL (aM X.mg x) m sp R ta t):=⟨by
 have h1:notStar e=true:=by simp only [YD,XQ] at hs;exact hs.1
 have h2:es.all notStar=true:=by simp only [YD,XQ] at hs;exact hs.2
 obtain ⟨f,fd,hm,hb,F⟩:=F
 intro pins s U H Q I h
 refine PySem.W.methodCall_KW (pl:=pl) (eQ (he.run pins s U H _ I h) fun u s1 qq0=>?_) ht
 obtain ⟨x,H1,I1,rx,a,dx,fs,ex,ea,l,q⟩:=qq0
 subst ex
 obtain rfl:u=Value.ref a:=rx
 refine vy I1 ea c.cl hm l ?_
 refine ZP (first:=[.ref a]) (h₀:=X.base) I.ok.mod.kin hm.kp (eQ (ha.run pos pins s1 U H1 _ I1 q) fun us s2 ⟨vs,H2,I2,r,q2⟩=>⟨I2.kIn,?_⟩) (bC h1) (mO h2)
 exact yH (us:=.ref a :: us) (vs:=.ref a :: vs) F hr hb hx I2 (.cons rfl r) q2⟩
theorem oH {pl:Sem Bool} (he:JE X o ta) (c:uT X.K X.mg x) (F:HasM X.prog X.w X.K X.mg X.base k x m ps sp) (hr:Room k X.A) (hx:lD X R)
  (ht:eval (.Call (.Attribute o m apos) [] [] pos) X.env=(do
   let ov ← eval o X.env
   standAt apos.atName
   let (f,first) ← holding [ov] (getMethod ov m pl)
   callWith pos f first (backTo pos (starEach [] X.env)) (backToKw pos (keywordEach [] X.env))):=by rfl):
  JE X (.Call (.Attribute o m apos) [] [] pos) (yL (aM X.mg x) m sp R ta MP):=⟨by
 obtain ⟨f,fd,hm,hb,F⟩:=F
 intro pins s U H Q I h
 refine PySem.W.methodCall_KW (pl:=pl) (eQ (he.run pins s U H _ I h) fun u s1 qq0=>?_) ht
 obtain ⟨x,H1,I1,rx,a,dx,fs,ex,ea,l,q⟩:=qq0
 subst ex
 obtain rfl:u=Value.ref a:=rx
 refine vy I1 ea c.cl hm l ?_
 exact PySem.W.callWith_K0 (first:=[.ref a]) I1.kIn hm.kp (yH (us:=[.ref a]) (vs:=[.ref a]) F hr hb hx I1 (.cons rfl .nil) q)⟩
theorem GZ (c:uT X.K X.mg x) (F:HasM X.prog X.w X.K X.mg X.base k x "__init__" ps sp) (hr:Room (k+1) X.A) (hx:lD X R) (I:Inv X pins U H s) (r:Vals vs us)
  (h:∀ y dx,H y=none->H dx=none->dx≠y->sp (.ref y :: vs) (upd (upd H dx (.own y)) y (.ins (aM X.mg x) dx [])) (fun v H2=>v= .non/\Q (.ref y) H2) (R U)):
  wpAny (model X.prog X.w) X.A (call (.ref (aM X.mg x)) us) (EP X pins U Q) X.xe s:=by
 obtain ⟨f,fd,hm,hb,F⟩:=F
 have hq:=h (s.heap.objs.size+1) s.heap.objs.size (I.hok.fresh (Nat.le_succ _)) (I.hok.fresh (Xp _)) (Yh (Z8 _))
 have I2:=Inv.made (C:=aM X.mg x) I
 have r2:Vals (V.ref (s.heap.objs.size+1) :: vs) (Value.ref (s.heap.objs.size+1) :: us):=.cons rfl r
 have hl:((Value.ref (s.heap.objs.size+1) :: us) ++ []).length=ps.length:=by
  have e:=r2.length
  rw [F.len _ _ _ _ hq] at e
  rw [YG]
  exact e.symm
 have bd:=hb _ (Value.ref (s.heap.objs.size+1) :: us) I2.kIn hl
 rw [YG] at bd
 refine Z2 (Im (f:=f) I.kIn c.makes hm.at_ (Zh.mp hm.fn) (codeAny_mono (F.run _ X.stack _ _ ⟨Value.ref (s.heap.objs.size+1) :: us,[]⟩ (Value.ref (s.heap.objs.size+1) :: us) _ _ (R U) (hr.make (aM X.mg x) us [])
  (I2.env0.make (aM X.mg x) us []) bd r2 hq) fun r s' hq'=>?_))
 cases r with
 | error e=>exact hx pins e s' (Eh I2 hq')
 | ok fl=>
  cases fl with
  | ret u=>
   obtain ⟨v,H',I3,rv,ev,q3⟩:=I2.after hq'
   subst ev
   exact ⟨rv,⟨V.ref (s.heap.objs.size+1),H',I3,rfl,q3⟩⟩
  | next=>exact False.elim hq'
  | brk=>exact False.elim hq'
  | cont=>exact False.elim hq'
theorem su (c:uT X.K X.mg x) (F:HasM X.prog X.w X.K X.mg X.base k x "__init__" ps sp) (hr:Room (k+1) X.A) (hg:Gl X x) (hx:lD X R) (ha:JA X (e :: es) t) (hdb:(x == ("__debug__":Str))=false) (h:autoParam ((e :: es).all notStar=true) L2.auto4._auto_1):
  JE X (.Call (.Name x p) (e :: es) [] pos) (Kh (aM X.mg x) sp R t):=⟨by
 have h1:notStar e=true:=by simp only [YD,XQ] at h;exact h.1
 have h2:es.all notStar=true:=by simp only [YD,XQ] at h;exact h.2
 intro pins s U H Q I h
 refine Yv (pA I hg c.at_ ?_ hdb)
 refine ZP (h₀:=X.base) I.ok.mod.kin c.kp (eQ (ha.run pos pins s U H _ I h) fun us s1 ⟨vs,H1,I1,r,q⟩=>⟨I1.kIn,?_⟩) (bC h1) (mO h2)
 exact GZ c F hr hx I1 r q⟩
theorem aW (hK:X.K=K) (he:JE X e ta) (h:autoParam (rP e=true) L2.auto4._auto_1):JE X (.Attribute e fn pos) (RC K ta fn):=by
 subst hK
 exact ⟨RJ he.run (by cases e <;> first | rfl | cases h)⟩
theorem bM (hK:X.K=K) (ha:JE X o ta) (hv:JE X value tv) (h:autoParam (jM value=true) L2.auto4._auto_1):JS X (.Assign [.Attribute o fn pos'] value pos) (RD K ta tv fn):=by
 subst hK
 exact ⟨RK ha.run hv.run (xN h)⟩
end
section
variable {U:St} {H:Hp} {D:Ends} {Q:VK} {sp:Sp} {R:St->XK} {a:TA} {K:W.Frag} {C:Addr} {ta tv:TE} {f m:Str}
theorem bU (h:ta U H fun x H1=>∃ b dx fs,x= .ref b/\H1 b=some (.ins C dx fs)/\fs.lookup m=none/\a U H1 fun vs H2=>sp (x :: vs) H2 Q (R U)):yL C m sp R ta a U H Q:=h
theorem bV (h:a U H fun vs H1=>∀ x dx,H1 x=none->H1 dx=none->dx≠x->sp (.ref x :: vs) (upd (upd H1 dx (.own x)) x (.ins C dx [])) (fun v H2=>v= .non/\Q (.ref x) H2) (R U)):Kh C sp R a U H Q:=h
theorem gW (h:ta U H fun x H1=>∃ a C dx fs v,x= .ref a/\H1 a=some (.ins C dx fs)/\Cls K C/\NoAttr K C f/\fs.lookup f=some v/\Q v H1):RC K ta f U H Q:=h
theorem dX (h:tv U H fun y H1=>ta U H1 fun x H2=>∃ a C dx fs,x= .ref a/\H2 a=some (.ins C dx fs)/\Cls K C/\NoAttr K C f/\fs.length < 1000/\D.nx U (upd H2 a (.ins C dx (cu f y fs)))):RD K ta tv f D U H:=h
end
section
variable {X:Cx} {mg:Str->Option Value} {o:Expr} {ta:TE} {t:TA} {x m:Str} {ps:List Str} {sp:Sp} {k:Nat} {R:St->XK} {e:Expr} {es:List Expr} {pos apos:Pos}
theorem v9 {pl:Sem Bool} (hmg:X.mg=mg) (he:JE X o ta) (c:uT X.K X.mg x) (F:HasM X.prog X.w X.K X.mg X.base k x m ps sp) (hr:Room k X.A) (hx:lD X R) (ha:JA X (e :: es) t)
  (hs:autoParam ((e :: es).all notStar=true) L2.auto4._auto_1)
  (ht:eval (.Call (.Attribute o m apos) (e :: es) [] pos) X.env=(do
   let ov ← eval o X.env
   standAt apos.atName
   let (f,first) ← holding [ov] (getMethod ov m pl)
   callWith pos f first (backTo pos (starEach (e :: es) X.env)) (backToKw pos (keywordEach [] X.env))):=by rfl):
  JE X (.Call (.Attribute o m apos) (e :: es) [] pos) (yL (aM mg x) m sp R ta t):=by
 subst hmg
 exact aQ he c F hr hx ha hs ht
end
section
variable {U:St} {H:Hp} {Q:VK}
def T3 (o:HO) (n:Nat) (H:Hp) (Q:VK):Prop:=n<=sizeLine/\∀ p,H p=none->Q (.ref p) (upd H p o)
theorem oJ {a:TA} (h:a U H fun xs H1=>T3 (.lst xs) xs.length H1 Q):Nf a U H Q:=h
theorem oK {a:TA} (h:a U H fun xs H1=>T3 (.tup xs) xs.length H1 Q):Nb a U H Q:=h
theorem fX {o:HO} {n:Nat} (c:Nat.ble n 64=true) (h:∀ p H',H p=none->Same H H'->H' p=some o->Q (.ref p) H'):T3 o n H Q:=
 ⟨Xv (Nat.le_of_ble_eq_true c) (by decide),fun p np=>h p _ np ((Same.refl H).upd np) aj⟩
end
section
variable {sub:List (Option Nat)} {g:TG} {tt:TT} {te:TE} {U:St} {Q:VK} {H:Hp} {K:W.Frag} {a:Addr} {xs:List V} {lo:Int} {n:Nat} {z:Str}
theorem G5 (Pv:Nat->List V->Hp->Prop) (hn:n<=sizeLine) (h0:Pv 0 [] H) (hl:∀ i ys H,Pv i ys H->ys.length<=i)
  (hs:∀ i ys H,i < n->Pv i ys H->g (.int (lo+i)) (eY sub U) H fun σ2 H2=>KeepSt (eY sub U) σ2/\tt σ2 H2 fun b H3=>if b=true then te σ2 H3 fun y H4=>Pv (i+1) (ys ++ [y]) H4 else Pv (i+1) ys H3)
  (hd:∀ ys H D H',Pv n ys H->H D=none->Same H H'->H' D=some (.lst ys)->Q (.ref D) H'):rM sub g tt te U Q (HR lo n) H:=
 vN Pv hn h0 hl hs fun ys H p D nD=>hd ys H D _ p nD ((Same.refl H).upd nD) aj
theorem qy (Pv:Nat->List V->Hp->Prop) (hn:xs.length<=sizeLine) (h0:Pv 0 [] H) (hl:∀ i ys H,Pv i ys H->ys.length<=i) (hq:∀ i ys H,Pv i ys H->SqL K H a xs)
  (hs:∀ i ys H x,xs[i]?=some x->Pv i ys H->g x (eY sub U) H fun σ2 H2=>KeepSt (eY sub U) σ2/\tt σ2 H2 fun b H3=>if b=true then te σ2 H3 fun y H4=>Pv (i+1) (ys ++ [y]) H4 else Pv (i+1) ys H3)
  (hd:∀ ys H D H',Pv xs.length ys H->H D=none->Same H H'->H' D=some (.lst ys)->Q (.ref D) H'):rM sub g tt te U Q (Qm K a) H:=
 Gn Pv hn h0 hl hq hs fun ys H p D nD=>hd ys H D _ p nD ((Same.refl H).upd nD) aj
theorem tM (Pv:Nat->List V->Hp->Prop) (hn:xs.length<=sizeLine) (h0:Pv 0 [] H) (hl:∀ i ys H,Pv i ys H->ys.length<=i) (hq:∀ i ys H,Pv i ys H->SqT K H a xs)
  (hs:∀ i ys H x,xs[i]?=some x->Pv i ys H->g x (eY sub U) H fun σ2 H2=>KeepSt (eY sub U) σ2/\tt σ2 H2 fun b H3=>if b=true then te σ2 H3 fun y H4=>Pv (i+1) (ys ++ [y]) H4 else Pv (i+1) ys H3)
  (hd:∀ ys H D H',Pv xs.length ys H->H D=none->Same H H'->H' D=some (.lst ys)->Q (.ref D) H'):rM sub g tt te U Q (Qn K a) H:=
 J9 Pv hn h0 hl hq hs fun ys H p D nD=>hd ys H D _ p nD ((Same.refl H).upd nD) aj
end
end L2
set_option maxHeartbeats 8000000
namespace L2
open PySem PySem.Spec PyProof.Rows
end L2
namespace L2
open PySem PySem.W PySem.Spec PyProof.Rows
end L2
namespace L2
open PySem PySem.Spec PyProof.Rows
end L2
namespace L2
open PySem PySem.W PySem.Spec PyProof.Rows
end L2
namespace L2
open PySem PySem.Spec PyProof.Rows
def QF:List V->Hp->VK->Prop:=fun xs H Q=>(∃ i j,xs=[.int i,.int j]/\Q (.int (if j < i then j else i)) H)\/(∃ i j k,xs=[.int i,.int j,.int k]/\∀ M,(M=i\/M=j\/M=k)->M<=i->M<=j->M<=k->Q (.int M) H)\/
 ∃ (p:Addr) (ns:List Int),xs=[.ref p]/\H p=some (.lst (ns.map V.int))/\ns≠[]/\∀ M,M∈ns->(∀ a∈ns,M<=a)->Q (.int M) H
section
variable {X:Cx}
theorem vals3 {v1 v2 v3:V} {us:List Value} (r:Vals [v1,v2,v3] us):∃ u1 u2 u3,us=[u1,u2,u3]/\RelV v1 u1/\RelV v2 u2/\RelV v3 u3:=by
 cases r with
 | cons a r=>cases r with
  | cons b r=>cases r with
   | cons c r=>
    cases r
    exact ⟨_,_,_,rfl,a,b,c⟩
theorem G6 (hc:X.calm=true):CallR X (.builtin "min") QF:=by
 intro pins s U H xs us Q I r h
 rcases h with h | ⟨i,j,k,rfl,q⟩ | ⟨p,ns,rfl,hp,hne,q⟩
 ·exact FJ hc pins s U H xs us Q I r h
 ·obtain ⟨u1,u2,u3,rfl,⟨t1,rfl⟩,⟨t2,rfl⟩,⟨t3,rfl⟩⟩:=vals3 r
  refine min_three_ints (I.ok.hd hc) fun h' tk hk=>?_
  have key:∀ (M:Int) (t:Tok),(M=i\/M=j\/M=k)->M<=i->M<=j->M<=k->EP X pins U Q (.int M t) {s with heap:=h',toks:=tk}:=fun M t h0 h1 h2 h3=>⟨.int M,H,I.kept hk,⟨t,rfl⟩,q M h0 h1 h2 h3⟩
  by_cases hba:j < i <;> by_cases hc1:k < j <;> by_cases hc2:k < i <;> simp only [hba,hc1,hc2,if_true,if_false] <;> exact key _ _ (by omega) (by omega) (by omega) (by omega)
 ·obtain ⟨u,rfl,ru⟩:=vals1 r
  cases ru
  obtain ⟨hz,its,n,rv,g⟩:=I.hok p _ hp
  have hi:IntsAre its ns:=intsAre_of rv
  have hl:=rv.length
  obtain ⟨ys,ey⟩:=hi.allInts.items
  have hn:=hi.numsOf
  have hsz:0 < ys.size:=by
   have e1:=congrArg Array.size ey
   have:0 < ns.length:=List.length_pos_iff.mpr hne
   rw [Xu] at hl
   simp [intItems] at e1
   omega
  have hL:s.heap.IsList p (intItems ys):=⟨_,g,rfl,n,by rw [← ey]⟩
  have en:ys.toList.map (·.1)=ns:=by rw [← nums_intItems,← ey,← hn]
  refine min_intList (I.ok.hd hc) hL hsz fun v h' tk hv hk=>?_
  obtain ⟨t,rfl⟩:=intItems_at hv
  obtain ⟨h1,h2⟩:=argBest_lt (numAt ys) (ys.size - 1)
  refine ⟨.int _,H,I.kept hk,⟨t,rfl⟩,q _ ?_ fun a ha=>?_⟩
  ·rw [← en,numAt_eq];exact getD_mem (by rw [Xu,Xx];omega)
  ·rw [← en] at ha
   obtain ⟨j,hj,rfl⟩:=mem_getD ha
   rw [Xu,Xx] at hj
   rw [← numAt_eq];exact h2 j (by omega)
end
section
variable {H:Hp} {Q:VK}
theorem u6 {i j:Int} (h:Q (.int (if j < i then j else i)) H):QF [.int i,.int j] H Q:=.inl ⟨_,_,rfl,h⟩
end
end L2
namespace HT
open PySem PySem.Spec PyProof.Rows
section
variable {prog:Program} {w:World} {A:Around} {E:Value->Shared->Prop} {s:Shared}
theorem getItem_tuple_whole {t sl:Addr} {items:Array Value} {vl vu:Value} {lo hi:Option Int} {Q:Value->Shared->Prop} (ht:IsTup s.heap t items) (hs:s.heap.IsSliceOf sl vl vu .none) (pl:IsPart vl lo) (pu:IsPart vu hi)
  (hw:sIx items.size 0 lo=0/\sIx items.size items.size hi=items.size) (h:Q (.ref t) s):wpAny (model prog w) A (getItem (.ref t) (.ref sl)) Q E s:=by
 obtain ⟨os,hos,hcs,hds⟩:=id hs
 have hTs:s.TypeIs (.ref sl) "slice":=⟨os,hos,hcs⟩
 unfold getItem
 try with_reducible refine Yq ?_
 first | refine Xj (Xo ?_) | skip
 refine Xj (wpAny_sequenceKey ht.typeIs (by decide) ?_)
 refine Xj (Y5 (name:=Str.ofString "__getitem__") ht.typeIs Zg
  (Zt Zg ht.typeIs entry_tuple_getitem ?_ (args_tuple_getitem _ _)))
 show wpAny _ _ (Builtin.Tuple.tupleItemsOf (.ref t) >>=_) _ _ s
 refine Xj (tupleItemsOf_ ht ?_)
 refine Xj (wpAny_typeOf hTs ?_)
 rw [if_pos (by decide)]
 refine Xj (mC hs pl pu ?_)
 have hyes:((((sIx items.size 0 lo:Nat):Int) == 0 && (1:Int) == 1 && (sIx items.size items.size hi - sIx items.size 0 lo) == items.size)=true):=by
  rw [hw.1,hw.2];simp
 show wpAny _ _ (if (((sIx items.size 0 lo:Nat):Int) == 0 && (1:Int) == 1 && (sIx items.size items.size hi - sIx items.size 0 lo) == items.size)=true then _ else _) _ _ s
 rw [if_pos hyes]
 unfold Builtin.Tuple.tupleIsExact
 refine Xj (Xj (wpAny_typeOf ht.typeIs (Xo ?_)))
 rw [if_pos (by decide)]
 exact Xj (wpAny_rule (Xo ⟨_,rfl,Xo h⟩))
end
end HT
namespace L2
open PySem PySem.Spec PyProof.Rows
section
variable {X:Cx}
def Wr (K:W.Frag):V->Option Int->Option Int->Hp->VK->Prop:=fun x lo hi H Q=>∃ a xs,x= .ref a/\SqT K H a xs/\(HT.sIx xs.length 0 lo=0/\HT.sIx xs.length xs.length hi=xs.length)/\Q (.ref a) H
theorem Oi:SlR X (Wr X.K):=by
 intro pins s U H x v vl vu lo hi sl Q I rx hs pl pu h
 obtain ⟨a,xs,rfl,hx,hw,q⟩:=h
 cases rx
 obtain ⟨its,r,ht,hz⟩:=I.tuple hx
 have hlen:its.toArray.size=xs.length:=by rw [XM];exact r.length.symm
 refine ⟨"tuple",_,PyProof.Rows.slot_tuple_getitem.lookup,ht.typeIs,?_⟩
 exact HT.getItem_tuple_whole ht hs pl pu (by rw [hlen];exact hw) ⟨.ref a,H,I,rfl,q⟩
def T5 (K:W.Frag):V->Option Int->Option Int->Hp->VK->Prop:=fun x lo hi H Q=>Xd K x lo hi H Q\/Wr K x lo hi H Q
theorem fP {K:W.Frag} (hK:X.K=K):SlR X (T5 K):=by
 subst hK
 exact Sq.or Oi
end
section
variable {H:Hp} {Q:VK} {K:W.Frag} {p:Addr} {xs:List V} {lo hi:Option Int}
theorem ig {x:Str} (hz:x.length<=sizeLine) (h:Q (.str (Txt.slice x lo hi)) H):T5 K (.str x) lo hi H Q:=.inl (V0 hz h)
theorem Kl (hp:H p=some (.lst xs)) (h:∀ q H',H q=none->Same H H'->H' q=some (.lst (oh xs lo hi))->Q (.ref q) H'):T5 K (.ref p) lo hi H Q:=.inl (Qu (SqL.of hp) fun q nq=>h q _ nq ((Same.refl H).upd nq) aj)
end
theorem wg {xs:List V} {k:Nat}:oh xs (some (k:Int)) none=xs.drop k:=by
 unfold oh
 rw [HT.sIx_none,HT.sIx_nat]
 by_cases h:k<=xs.length
 ·rw [Nat.min_eq_left h,Ym (by rw [Ye];omega)]
 ·rw [gV (by omega),Yo (by omega),Yo (by omega)];simp
def Ws (xs:Array Value) (c:Nat):Obj:={cls:=.type "list",dict:=none,data:=.seq xs c,slots:=#[]}
section
variable {prog:Program} {w:World} {A:Around} {R:Result->Shared->Prop} {I S:Addr} {fp wr:List Addr} {n:Nat} {P:Nat->Value->Prop} {St:Nat->Heap->Prop} {d:Value} {bt:Nat->Nat->Bool}
abbrev mdl (I S:Addr) (d:Value):Code:=.builtin "max.loop" ⟨[.ref I,.none,.ref S],[(Str.ofString "default",d)]⟩
theorem Oj (W:Walks prog w A.in1 I fp wr n P St) (hcmp:CmpOf prog w A.in1 .Gt P bt) (hSf:S ∉ fp):∀ (k j:Nat) (s:Shared) (v:Value) (c:Nat),j+k+1=n->St (j+1) s.heap->P (argBest bt j) v->s.heap.get? S=some (Ws #[v,v] c)->
  (∀ v h' tk,P (argBest bt (n - 1)) v->(∀ b o,b ∉ wr->b≠S->s.heap.get? b=some o->h'.get? b=some o)->R (.ok (.ret v)) {s with heap:=h',toks:=tk})->codeAny (model prog w) A (mdl I S d) R s:=by
 have hSw:S ∉ wr:=fun h=>hSf (W.sub _ h)
 have nm:(toString "max" ++ toString ".loop":String)="max.loop":=by decide
 intro k
 induction k with
 | zero=>
  intro j s v c e hst hv hS hR
  refine codeAny_builtin F.entry_max_loop ?_
  rw [Around.under_plainId Zu _]
  show wpAny _ A.in1 (seqItems? (.ref S) >>=_) _ _ s
  refine Xj (Ze hS rfl ?_)
  show wpAny _ A.in1 (tryCatch (pyNext (.ref I)) _ >>=_) _ _ s
  have e':j+1=n:=e
  refine Xj (wpAny_tryCatch (W.done s _ _ (e' ▸ hst) fun h' tk kp=>?_))
  refine Xj (m:=updateSeq S fun _=>#[]) ?_
  refine wpAny_updateSeq (kp S _ hSw hS) rfl (Xj (wpAny_letGo (Xo (hR v _ tk ?_ fun b o n1 n2 q=>?_))))
  ·rw [← e'];exact hv
  ·exact (Yl _ _ (Ne.symm n2)).trans (kp b o n1 q)
 | succ k ih=>
  intro j s v c e hst hv hS hR
  refine codeAny_builtin F.entry_max_loop ?_
  rw [Around.under_plainId Zu _]
  show wpAny _ A.in1 (seqItems? (.ref S) >>=_) _ _ s
  refine Xj (Ze hS rfl ?_)
  show wpAny _ A.in1 (tryCatch (pyNext (.ref I)) _ >>=_) _ _ s
  refine Xj (wpAny_tryCatch (W.item (j+1) s _ _ (by omega) hst fun u h' tk hu hst' kp=>?_))
  have hS':=kp S _ hSw hS
  show wpAny _ A.in1 (tryCatch (holding [u,u] (richCompare .Gt u v >>=_)) _ >>=_) _ _ _
  refine Xj (wpAny_tryCatch (Yq (Xj (hcmp (j+1) (argBest bt j) u v _ _ _ hu hv ?_))))
  refine Xj (Yq (Y7 (Xj (wpAny_letGo (Xo ?_)))))
  have eb:argBest bt (j+1)=if bt (j+1) (argBest bt j) then j+1 else argBest bt j:=rfl
  cases hb:bt (j+1) (argBest bt j) with
  | true=>
   rw [hb,if_pos rfl] at eb
   rw [if_pos rfl]
   refine Xj (wpAny_updateSeq hS' rfl (Xj (wpAny_letGo ?_)))
   rw [nm]
   refine Xo ⟨plainId_quiet Zu _,ih (j+1) _ u _ (by omega) (W.frame _ _ _ hst' fun b hf o q=>?_) (by rw [eb];exact hu) (YM _ hS' rfl) fun v' h2 tk2 hv' k2=>hR v' h2 tk2 hv' fun b o n1 n2 q=>?_⟩
   ·exact (Yl _ _ (fun z:S=b=>hSf (z ▸ hf))).trans q
   ·exact k2 b o n1 n2 ((Yl _ _ (Ne.symm n2)).trans (kp b o n1 q))
  | false=>
   rw [hb,if_neg (by decide)] at eb
   rw [if_neg (by decide)]
   refine Xj (wpAny_letGo ?_)
   rw [nm]
   exact Xo ⟨plainId_quiet Zu _,ih (j+1) _ v c (by omega) hst' (by rw [eb];exact hv) hS' fun v' h2 tk2 hv' k2=>hR v' h2 tk2 hv' fun b o n1 n2 q=>k2 b o n1 n2 (kp b o n1 q)⟩
theorem Cz (W:Walks prog w A.in1 I fp wr n P St) (hcmp:CmpOf prog w A.in1 .Gt P bt) (hSf:S ∉ fp) {s:Shared} {c:Nat} (hst:St 0 s.heap) (hS:s.heap.get? S=some (Ws #[] c))
  (h0:n=0->∀ h' tk,(∀ b o,b ∉ wr->b≠S->s.heap.get? b=some o->h'.get? b=some o)->R (.ok (.ret d)) {s with heap:=h',toks:=tk})
  (hR:0 < n->∀ v h' tk,P (argBest bt (n - 1)) v->(∀ b o,b ∉ wr->b≠S->s.heap.get? b=some o->h'.get? b=some o)->R (.ok (.ret v)) {s with heap:=h',toks:=tk}):codeAny (model prog w) A (mdl I S d) R s:=by
 have hSw:S ∉ wr:=fun h=>hSf (W.sub _ h)
 have nm:(toString "max" ++ toString ".loop":String)="max.loop":=by decide
 refine codeAny_builtin F.entry_max_loop ?_
 rw [Around.under_plainId Zu _]
 show wpAny _ A.in1 (seqItems? (.ref S) >>=_) _ _ s
 refine Xj (Ze hS rfl ?_)
 show wpAny _ A.in1 (tryCatch (pyNext (.ref I)) _ >>=_) _ _ s
 by_cases hn:n=0
 ·refine Xj (wpAny_tryCatch (W.done s _ _ (hn ▸ hst) fun h' tk kp=>?_))
  show wpAny _ A.in1 (rule _ >>=_) _ _ _
  exact Xj (wpAny_rule (Xo (h0 hn h' tk fun b o n1 _ q=>kp b o n1 q)))
 ·refine Xj (wpAny_tryCatch (W.item 0 s _ _ (by omega) hst fun u h' tk hu hst' kp=>?_))
  have hS':=kp S _ hSw hS
  show wpAny _ A.in1 (updateSeq S (fun _=>#[u,u]) >>=_) _ _ _
  refine Xj (wpAny_updateSeq hS' rfl ?_)
  rw [nm]
  refine Xo ⟨plainId_quiet Zu _,Oj W hcmp hSf (n - 1) 0 _ u _ (by omega) (W.frame _ _ _ hst' fun b hf o q=>?_) hu (YM _ hS' rfl) fun v' h2 tk2 hv' k2=>hR (by omega) v' h2 tk2 hv' fun b o n1 n2 q=>?_⟩
  ·exact (Yl _ _ (fun z:S=b=>hSf (z ▸ hf))).trans q
  ·exact k2 b o n1 n2 ((Yl _ _ (Ne.symm n2)).trans (kp b o n1 q))
theorem G7 (a v:Value):argsOk "max" ⟨[a],[(Str.ofString "default",v)]⟩:=by unfold argsOk;kernel_rfl
theorem G8 {E:Value->Shared->Prop} {s:Shared} {x:Value} {Q:Value->Shared->Prop} (h:wpAny (model prog w) A.in1 (pyIter x) (fun it s₂=>∃ I fp wr n P St bt,it= .ref I/\Walks prog w A.in1 I fp wr n P St/\St 0 s₂.heap/\(∀ b∈fp,b < s₂.heap.objs.size)/\CmpOf prog w A.in1 .Gt P bt/\
   (n=0->∀ h' tk,(∀ b o,b ∉ wr->s₂.heap.get? b=some o->h'.get? b=some o)->Q d {s₂ with heap:=h',toks:=tk})/\
   (0 < n->∀ v h' tk,P (argBest bt (n - 1)) v->(∀ b o,b ∉ wr->s₂.heap.get? b=some o->h'.get? b=some o)->Q v {s₂ with heap:=h',toks:=tk})) E s):
  wpAny (model prog w) A (call (.builtin "max") [x] [(Str.ofString "default",d)]) Q E s:=by
 have nm:(toString "max" ++ toString ".loop":String)="max.loop":=by decide
 refine kmk_tree F.kind_max F.plain_max F.entry_max (G7 _ _) ?_
 show wpAny _ A.in1 (Builtin.Builtins.bindParams "max" ["key","default"] 0 ⟨[],[(Str.ofString "default",d)]⟩ >>=_) _ _ s
 refine Xj (wpAny_of_eq (show Builtin.Builtins.bindParams "max" ["key","default"] 0 ⟨[],[(Str.ofString "default",d)]⟩=pure [none,some d] from rfl) ?_)
 refine Xj (Xo ?_)
 refine Xj (YS h (fun it s₂ h₂=>?_) fun _ _ e=>e)
 obtain ⟨I,fp,wr,n,P,St,bt,rfl,W,hst,hfp,hcmp,q0,q1⟩:=h₂
 refine Xj (Y8 ?_)
 have hSf:s₂.heap.objs.size ∉ fp:=fun hm=>YZ _ (hfp _ hm)
 rw [nm]
 have lt:∀ {b o},s₂.heap.get? b=some o->b≠s₂.heap.objs.size:=fun e=>Yh (Xr e)
 exact Xo ⟨plainId_quiet Zu _,Cz W hcmp hSf (W.frame _ _ _ hst fun b _ o e=>Xm _ e) (Xy _ rfl)
  (fun hn h' tk kp=>q0 hn h' tk fun b o n1 e=>kp b o n1 (lt e) (Xm _ e)) (fun hn v h' tk hv kp=>q1 hn v h' tk hv fun b o n1 e=>kp b o n1 (lt e) (Xm _ e))⟩
end
def Ko:V->V->Hp->VK->Prop:=fun x y H Q=>∃ (p:Addr) (ns:List Int),x= .ref p/\H p=some (.lst (ns.map V.int))/\(ns=[]->Q y H)/\∀ M,M∈ns->(∀ a∈ns,a<=M)->Q (.int M) H
def QG (ta td:TE):TE:=fun U H Q=>ta U H fun x H1=>td U H1 fun y H2=>Ko x y H2 Q
section
variable {X:Cx} {pins:List (Addr×Obj)} {U:St} {H:Hp} {s:Shared} {Q:VK} {x:Str} {p pos kpos:Pos} {e dv:Expr} {ta td:TE}
theorem Kq {u ud:Value} {v y:V} (hc:X.calm=true) (I:Inv X pins U H s) (rv:RelV v u) (ry:RelV y ud) (h:Ko v y H Q):
  wpAny (model X.prog X.w) X.A (call (.builtin "max") [u] [(Str.ofString "default",ud)]) (EP X pins U Q) X.xe s:=by
 obtain ⟨p,ns,rfl,hp,q0,q1⟩:=h
 obtain rfl:u= .ref p:=rv
 obtain ⟨hz,its,n,rv,g⟩:=I.hok p _ hp
 have hi:IntsAre its ns:=intsAre_of rv
 have hl:=rv.length
 obtain ⟨ys,ey⟩:=hi.allInts.items
 have hn:=hi.numsOf
 have hL:s.heap.IsList p (intItems ys):=⟨_,g,rfl,n,by rw [← ey]⟩
 have en:ys.toList.map (·.1)=ns:=by rw [← nums_intItems,← ey,← hn]
 have el:ys.size=ns.length:=by rw [← en];simp
 have ez:(intItems ys).size=ys.size:=by simp [intItems]
 refine G8 (iter_intList hL fun s₂ e st hfp hlI=>?_)
 subst e
 refine ⟨_,_,_,_,_,_,_,rfl,Walks.list (A:=X.A.in1) (I.ok.hd hc) _ p hlI (intItems ys),st,hfp,CmpOf.ints_gt (numAt ys) (fun _ _=>intItems_at),fun h0 h' tk hk=>?_,fun h0 v h' tk hP hk=>?_⟩
 ·exact ⟨y,H,I.kept (old_kept hk),ry,q0 (List.eq_nil_of_length_eq_zero (by omega))⟩
 ·have hP':(intItems ys)[argBest (fun i j=>decide (numAt ys i > numAt ys j)) (ys.size - 1)]?=some v:=by rw [← ez];exact hP
  obtain ⟨t,rfl⟩:=intItems_at hP'
  obtain ⟨h1,h2⟩:=argBest_gt (numAt ys) (ys.size - 1)
  refine ⟨.int _,H,I.kept (old_kept hk),⟨t,rfl⟩,q1 _ ?_ fun a ha=>?_⟩
  ·rw [← en,numAt_eq];exact getD_mem (by rw [Xu,Xx];omega)
  ·rw [← en] at ha
   obtain ⟨j,hj,rfl⟩:=mem_getD ha
   rw [Xu,Xx] at hj
   rw [← numAt_eq];exact h2 j (by omega)
theorem T6 (hc:X.calm=true) (hg:Gl X "max") (hm:X.mg "max"=none) (ha:JE X e ta) (hd:JE X dv td) (h:autoParam (notStar e=true) L2.auto4._auto_1):
  JE X (.Call (.Name "max" p) [e] [⟨some "default",dv,kpos⟩] pos) (QG ta td):=⟨by
 intro pins s U H Q I hq
 refine Yv (gY I hg hm (show bootBuiltins "max"=some (.builtin "max") from by trivial) ?_)
 refine PyProof.Rows.callWith_kw (arg1 h (eQ (ha.run pins s U H _ I hq) fun u s1 qq0=>?_)) (by rw [bC h];rfl) (by rw [bC h];rfl)
 obtain ⟨v,H1,I1,rv,q1⟩:=qq0
 refine wpAny_evalAll_cons (Xj (eQ (hd.run pins s1 U H1 _ I1 q1) fun ud s2 ⟨y,H2,I2,ry,q2⟩=>Xj (ZW (Xo (wpAny_evalAll_nil ?_)))))
 exact Kq hc I2 rv ry q2⟩
end
section
variable {U:St} {H:Hp} {Q:VK} {ta td:TE}
theorem pI (h:ta U H fun x H1=>td U H1 fun y H2=>Ko x y H2 Q):QG ta td U H Q:=h
end
def Wt:List V->Hp->(Int->Int->Nat->Prop)->Prop:=fun vs _ R=>∃ (lo:Int) (n:Nat),vs=[.int lo,.int (lo+n)]/\0<=lo/\lo<=1000000/\n<=1000000/\R lo 1 n
section
variable {X:Cx}
theorem CG {a b:Expr} {ta:TA} {p p2 p3 pos:Pos} (hc:X.calm=true) (hg:Gl X "list") (hm:X.mg "list"=none) (hg2:Gl X "range") (hm2:X.mg "range"=none) (ha:JA X [a,b] ta) (h:autoParam (notStar a=true) L2.auto4._auto_1) (h2:autoParam (notStar b=true) L2.auto4._auto_1):
  JE X (.Call (.Name "list" p) [.Call (.Name "range" p2) [a,b] [] p3] [] pos) (v5 Wt ta):=⟨by
 intro pins s U H Q I hq
 refine Yv (gY I hg hm rQ (XX (arg1 rfl (Yv (gY I hg2 hm2 boot_range (XX (eQ (ha.run p3 pins s U H _ I hq) fun us s1 qq0=>?_) (bC h) (by rw [bC h2];rfl))))) rfl rfl))
 obtain ⟨vs,H1,I1,r1,q1⟩:=qq0
 obtain ⟨lo,n,rfl,h0,h1,hn,q⟩:=q1
 obtain ⟨u,w',rfl,⟨t,rfl⟩,⟨t',rfl⟩⟩:=vals2 r1
 exact call_range_2 (rZ hc I1 (small_one (by omega) (by omega) (by omega) (by omega)) (by rw [rangeSize_one];split <;> omega) hn q)⟩
end
section
variable {H:Hp}
theorem Ol {lo hi:Int} {n:Nat} {R:Int->Int->Nat->Prop} (e:hi=lo+n) (h0:0<=lo) (h1:lo<=1000000) (hn:n<=1000000) (h:R lo 1 n):Wt [.int lo,.int hi] H R:=⟨lo,n,by rw [e],h0,h1,hn,h⟩
end
end L2
namespace L2
open PySem PySem.Spec PyProof.Rows
open PySem.Sem (wp)
open AutoSeq1 (wpAny_loadPart')
end L2
namespace L2
open PySem PySem.Spec PyProof.Rows
section
open PySem.SeqAt PySem.MeetsSeq PySem.MeetsSeq2 PySem.MeetsSeq3
open PySem.AutoSeq1 (wpAny_loadPart')
end
section
variable {X:Cx} {x:Str} {pos:Pos} {sc:Scope}
theorem ak (i:Nat) (h:autoParam (X.env.scope.names.lookup x=some .local) L2.auto7._auto_1) (hN:autoParam (X.N[i]?=some x) L2.auto4._auto_1) (hd:autoParam ((x == ("__debug__":Str))=false) L2.auto6._auto_1) (hcd:autoParam ((x == ("__classdict__":Str))=false) L2.auto6._auto_1):JE X (.Name x pos) (qi i):=Jt i h hN rfl hd hcd
theorem El (i:Nat) (h:autoParam (X.env.scope.names.lookup x=some .cell) L2.auto7._auto_1) (hN:autoParam (X.N[i]?=some x) L2.auto4._auto_1) (hd:autoParam ((x == ("__debug__":Str))=false) L2.auto6._auto_1) (hcd:autoParam ((x == ("__classdict__":Str))=false) L2.auto6._auto_1):JE X (.Name x pos) (qi i):=j_vC i h hN rfl hd hcd
theorem bc (h:autoParam (X.env.scope.names.lookup x=some .globalImplicit) L2.auto7._auto_1):Gl X x:=h
theorem cG (h:autoParam (sc.names.lookup x=some .local) L2.auto7._auto_1):Loc sc x:=.inl h
theorem Xi (h:autoParam (sc.names.lookup x=some .cell) L2.auto7._auto_1):Loc sc x:=.inr h
end
section
open PySem.SeqAt PySem.MeetsSeq PySem.MeetsSeq2 PySem.MeetsSeq3
open PySem.AutoSeq1 (wpAny_loadPart')
end
def Wu (K:W.Frag) (te:TE):TT:=fun U H Q=>te U H fun x H'=>∃ k,Ii K x H' k/\Q k H'
section
variable {X:Cx} {K:W.Frag} {e o value:Expr} {te ta tv:TE} {f:Str} {pos tpos:Pos} {op:Operator} {rd:V->V->Hp->VK->Prop}
theorem yM (hK:X.K=K) (h:JE X e te) (hp:autoParam (plainT e=true) L2.auto4._auto_1):JT X e (Wu K te):=by
 subst hK
 exact ⟨Ij h.run (by
  intro whole
  cases e <;> first | rfl | cases hp)⟩
theorem Om (hK:X.K=K) (hop:RG X op rd) (ha:JE X o ta) (hv:JE X value tv):JS X (.AugAssign (.Attribute o f tpos) op value pos) (yo K ta tv rd f):=by
 subst hK
 exact ⟨FN ha.run hv.run hop⟩
end
section
variable {U:St} {H:Hp} {Q:VK} {D:Ends} {K:W.Frag} {ta tv te:TE} {f:Str} {rd:V->V->Hp->VK->Prop}
theorem xU {R:Bool->Hp->Prop} (h:te U H fun x H1=>∃ k,Ii K x H1 k/\R k H1):Wu K te U H R:=h
theorem oM {R:Bool->Prop} {p:Addr} {xs:List V} {b:Bool} (hp:SqT K H p xs) (e:(!xs.isEmpty)=b) (h:R b):∃ k,Ii K (.ref p) H k/\R k:=⟨_,.inr (.inl ⟨xs,hp,e.symm⟩),h⟩
theorem tO (h:ta U H fun x H1=>∃ a C dx fs v,x= .ref a/\H1 a=some (.ins C dx fs)/\Cls K C/\NoAttr K C f/\fs.lookup f=some v/\
 tv U H1 fun y H2=>rd v y H2 fun z H3=>∃ dx' fs',H3 a=some (.ins C dx' fs')/\fs'.length < 1000/\D.nx U (upd H3 a (.ins C dx' (cu f z fs')))):yo K ta tv rd f D U H:=h
end
end L2
namespace My
open PySem L2
local macro_rules | `(tactic| walk_at "p") => `(tactic| first | exact aV _ | with_unfolding_all rfl)
local macro_rules | `(tactic| walk_at "0") => `(tactic| (first | refine kh ?_ | refine jT ?_ | refine jL ?_ | refine gQ ?_ | refine gU ?_ | (refine' gG ?hz0 ?_; (case hz0 => with_unfolding_all rfl)) | refine wR ?_ | refine kI ?_ | refine dH ?_ | refine dj ?_ | refine gH ?_ | refine gk ?_ | refine cZ ?_ | refine gq ?_ | refine cY ?_ | refine j7 ?_ | refine dg ?_ | refine kJ ?_ | refine kj ?_ | refine dm ?_ | refine j8 ?_ | refine gr ?_ | refine gw ?_ | refine j9 ?_ | refine dh ?_ | refine gB ?_ | refine di ?_ | refine gC ?_ | refine gn ?_ | refine c7 ?_ | refine lq ?_ | refine lw ?_ | refine km ?_ | refine kE ?_ | refine gJ ?_ | refine dq ?_ | refine dw ?_ | refine dz ?_ | refine dD ?_ | refine dF ?_ | refine dG ?_ | refine gK ?_ | refine bN ?_ | refine dM ?_ | (refine' bH (SqT.of ?hz0) ?hz1 ?_; (case hz0 => first | assumption | exact aj); (case hz1 => rfl)) | refine bQ ?_ | refine bT ?_ | refine gO ?_ | refine bR ?_ | refine dO ?_ | refine dR ?_ | refine cU ?_ | refine cV ?_ | refine dU ?_ | refine dW ?_ | refine gP ?_ | refine kO ?_ | refine cR ?_ | refine cT ?_ | refine dN ?_ | refine bO ?_ | refine gM ?_ | refine dJ ?_ | (refine' wU ?hz0 ?_; (case hz0 => with_unfolding_all first | assumption | omega | (dsimp only <;> omega) | exact ⟨by omega, by omega⟩ | exact .inl ⟨by omega, by omega⟩ | exact .inr ⟨by omega, by omega⟩ | exact ⟨by decide, by decide, by decide⟩)) | (refine' dI ?hz0 ?_; (case hz0 => with_unfolding_all first | assumption | omega | (dsimp only <;> omega) | exact ⟨by omega, by omega⟩ | exact .inl ⟨by omega, by omega⟩ | exact .inr ⟨by omega, by omega⟩ | exact ⟨by decide, by decide, by decide⟩)) | (refine' bG (SqL.of ?hz0) ?hz1 ?_; (case hz0 => first | assumption | exact aj); (case hz1 => with_unfolding_all rfl)) | (refine' fK (SqT.of ?hz0) ?hz1 ?_; (case hz0 => first | assumption | exact aj); (case hz1 => with_unfolding_all rfl)) | (refine' cz ?hz0 ?hz1 ?_; (case hz0 => first | assumption | exact aj); (case hz1 => with_unfolding_all rfl)) | refine bU ?_ | refine bV ?_ | refine gW ?_ | refine dX ?_ | refine lU ?_))
local macro_rules | `(tactic| walk_at "1") => `(tactic| (first | refine kh ?_ | refine jT ?_ | refine jL ?_ | refine gQ ?_ | refine gU ?_ | (refine' gG ?hz0 ?_; (case hz0 => with_unfolding_all rfl)) | refine wR ?_ | refine kI ?_ | refine dH ?_ | refine dj ?_ | refine gH ?_ | refine gk ?_ | refine cZ ?_ | refine gq ?_ | refine cY ?_ | refine j7 ?_ | refine dg ?_ | refine kJ ?_ | refine kj ?_ | refine dm ?_ | refine j8 ?_ | refine gr ?_ | refine gw ?_ | refine j9 ?_ | refine dh ?_ | refine gB ?_ | refine di ?_ | refine gC ?_ | refine gn ?_ | refine c7 ?_ | refine lq ?_ | refine lw ?_ | refine km ?_ | refine kE ?_ | refine gJ ?_ | refine dq ?_ | refine dw ?_ | refine dz ?_ | refine dD ?_ | refine dF ?_ | refine dG ?_ | refine gK ?_ | refine bN ?_ | refine dM ?_ | (refine' bH (SqT.of ?hz0) ?hz1 ?_; (case hz0 => first | assumption | exact aj); (case hz1 => rfl)) | refine bQ ?_ | refine bT ?_ | refine gO ?_ | refine bR ?_ | refine dO ?_ | refine dR ?_ | refine cU ?_ | refine cV ?_ | refine dU ?_ | refine dW ?_ | refine gP ?_ | refine kO ?_ | refine cR ?_ | refine cT ?_ | refine dN ?_ | refine bO ?_ | refine gM ?_ | refine dJ ?_ | (refine' wU ?hz0 ?_; (case hz0 => with_unfolding_all first | assumption | omega | (dsimp only <;> omega) | exact ⟨by omega, by omega⟩ | exact .inl ⟨by omega, by omega⟩ | exact .inr ⟨by omega, by omega⟩ | exact ⟨by decide, by decide, by decide⟩)) | (refine' dI ?hz0 ?_; (case hz0 => with_unfolding_all first | assumption | omega | (dsimp only <;> omega) | exact ⟨by omega, by omega⟩ | exact .inl ⟨by omega, by omega⟩ | exact .inr ⟨by omega, by omega⟩ | exact ⟨by decide, by decide, by decide⟩)) | (refine' bG (SqL.of ?hz0) ?hz1 ?_; (case hz0 => first | assumption | exact aj); (case hz1 => with_unfolding_all rfl)) | (refine' fK (SqT.of ?hz0) ?hz1 ?_; (case hz0 => first | assumption | exact aj); (case hz1 => with_unfolding_all rfl)) | (refine' cz ?hz0 ?hz1 ?_; (case hz0 => first | assumption | exact aj); (case hz1 => with_unfolding_all rfl)) | refine bU ?_ | refine bV ?_ | refine gW ?_ | refine dX ?_ | (refine' uE ?hz0 ?_; (case hz0 => with_unfolding_all rfl)) | refine lU ?_))
local macro_rules | `(tactic| walk_at "2") => `(tactic| (first | refine kh ?_ | refine jT ?_ | refine jL ?_ | refine gQ ?_ | refine gU ?_ | (refine' gG ?hz0 ?_; (case hz0 => with_unfolding_all rfl)) | refine wR ?_ | refine kI ?_ | refine dH ?_ | refine dj ?_ | refine gH ?_ | refine gk ?_ | refine cZ ?_ | refine gq ?_ | refine cY ?_ | refine j7 ?_ | refine dg ?_ | refine kJ ?_ | refine kj ?_ | refine dm ?_ | refine j8 ?_ | refine gr ?_ | refine gw ?_ | refine j9 ?_ | refine dh ?_ | refine gB ?_ | refine di ?_ | refine gC ?_ | refine gn ?_ | refine c7 ?_ | refine lq ?_ | refine lw ?_ | refine km ?_ | refine kE ?_ | refine gJ ?_ | refine dq ?_ | refine dw ?_ | refine dz ?_ | refine dD ?_ | refine dF ?_ | refine dG ?_ | refine gK ?_ | refine bN ?_ | refine dM ?_ | (refine' bH (SqT.of ?hz0) ?hz1 ?_; (case hz0 => first | assumption | exact aj); (case hz1 => rfl)) | refine bQ ?_ | refine bT ?_ | refine gO ?_ | refine bR ?_ | refine dO ?_ | refine dR ?_ | refine cU ?_ | refine cV ?_ | refine dU ?_ | refine dW ?_ | refine gP ?_ | refine kO ?_ | refine cR ?_ | refine cT ?_ | refine dN ?_ | refine bO ?_ | refine gM ?_ | refine dJ ?_ | (refine' wU ?hz0 ?_; (case hz0 => with_unfolding_all first | assumption | omega | (dsimp only <;> omega) | exact ⟨by omega, by omega⟩ | exact .inl ⟨by omega, by omega⟩ | exact .inr ⟨by omega, by omega⟩ | exact ⟨by decide, by decide, by decide⟩)) | (refine' dI ?hz0 ?_; (case hz0 => with_unfolding_all first | assumption | omega | (dsimp only <;> omega) | exact ⟨by omega, by omega⟩ | exact .inl ⟨by omega, by omega⟩ | exact .inr ⟨by omega, by omega⟩ | exact ⟨by decide, by decide, by decide⟩)) | (refine' bG (SqL.of ?hz0) ?hz1 ?_; (case hz0 => first | assumption | exact aj); (case hz1 => with_unfolding_all rfl)) | (refine' fK (SqT.of ?hz0) ?hz1 ?_; (case hz0 => first | assumption | exact aj); (case hz1 => with_unfolding_all rfl)) | (refine' cz ?hz0 ?hz1 ?_; (case hz0 => first | assumption | exact aj); (case hz1 => with_unfolding_all rfl)) | refine bU ?_ | refine bV ?_ | refine gW ?_ | refine dX ?_))
local macro_rules | `(tactic| walk_at "3") => `(tactic| (first | refine kh ?_ | refine jT ?_ | refine jL ?_ | refine gQ ?_ | refine gU ?_ | (refine' gG ?hz0 ?_; (case hz0 => with_unfolding_all rfl)) | refine wR ?_ | refine kI ?_ | refine dH ?_ | refine dj ?_ | refine gH ?_ | refine gk ?_ | refine cZ ?_ | refine gq ?_ | refine cY ?_ | refine j7 ?_ | refine dg ?_ | refine kJ ?_ | refine kj ?_ | refine dm ?_ | refine j8 ?_ | refine gr ?_ | refine gw ?_ | refine j9 ?_ | refine dh ?_ | refine gB ?_ | refine di ?_ | refine gC ?_ | refine gn ?_ | refine c7 ?_ | refine lq ?_ | refine lw ?_ | refine km ?_ | refine kE ?_ | refine gJ ?_ | refine dq ?_ | refine dw ?_ | refine dz ?_ | refine dD ?_ | refine dF ?_ | refine dG ?_ | refine gK ?_ | refine bN ?_ | refine dM ?_ | (refine' bH (SqT.of ?hz0) ?hz1 ?_; (case hz0 => first | assumption | exact aj); (case hz1 => rfl)) | refine bQ ?_ | refine bT ?_ | refine gO ?_ | refine bR ?_ | refine dO ?_ | refine dR ?_ | refine cU ?_ | refine cV ?_ | refine dU ?_ | refine dW ?_ | refine gP ?_ | refine kO ?_ | refine cR ?_ | refine cT ?_ | refine dN ?_ | refine bO ?_ | refine gM ?_ | refine dJ ?_ | (refine' wU ?hz0 ?_; (case hz0 => with_unfolding_all first | assumption | omega | (dsimp only <;> omega) | exact ⟨by omega, by omega⟩ | exact .inl ⟨by omega, by omega⟩ | exact .inr ⟨by omega, by omega⟩ | exact ⟨by decide, by decide, by decide⟩)) | (refine' dI ?hz0 ?_; (case hz0 => with_unfolding_all first | assumption | omega | (dsimp only <;> omega) | exact ⟨by omega, by omega⟩ | exact .inl ⟨by omega, by omega⟩ | exact .inr ⟨by omega, by omega⟩ | exact ⟨by decide, by decide, by decide⟩)) | (refine' bG (SqL.of ?hz0) ?hz1 ?_; (case hz0 => first | assumption | exact aj); (case hz1 => with_unfolding_all rfl)) | (refine' fK (SqT.of ?hz0) ?hz1 ?_; (case hz0 => first | assumption | exact aj); (case hz1 => with_unfolding_all rfl)) | (refine' cz ?hz0 ?hz1 ?_; (case hz0 => first | assumption | exact aj); (case hz1 => with_unfolding_all rfl)) | refine bU ?_ | refine bV ?_ | refine gW ?_ | refine dX ?_ | refine pH ?_ | refine jQ ?_))
local macro_rules | `(tactic| walk_at "4") => `(tactic| (first | refine kh ?_ | refine jT ?_ | refine jL ?_ | refine gQ ?_ | refine gU ?_ | (refine' gG ?hz0 ?_; (case hz0 => with_unfolding_all rfl)) | refine wR ?_ | refine kI ?_ | refine dH ?_ | refine dj ?_ | refine gH ?_ | refine gk ?_ | refine cZ ?_ | refine gq ?_ | refine cY ?_ | refine j7 ?_ | refine dg ?_ | refine kJ ?_ | refine kj ?_ | refine dm ?_ | refine j8 ?_ | refine gr ?_ | refine gw ?_ | refine j9 ?_ | refine dh ?_ | refine gB ?_ | refine di ?_ | refine gC ?_ | refine gn ?_ | refine c7 ?_ | refine oK ?_ | refine oJ ?_ | refine km ?_ | refine kE ?_ | refine gJ ?_ | refine dq ?_ | refine dw ?_ | refine dz ?_ | refine dD ?_ | refine dF ?_ | refine dG ?_ | refine gK ?_ | refine bN ?_ | refine dM ?_ | (refine' bH (SqT.of ?hz0) ?hz1 ?_; (case hz0 => first | assumption | exact aj); (case hz1 => rfl)) | refine bQ ?_ | refine bT ?_ | refine gO ?_ | refine bR ?_ | refine dO ?_ | refine dR ?_ | refine cU ?_ | refine cV ?_ | refine dU ?_ | refine dW ?_ | refine gP ?_ | refine kO ?_ | refine cR ?_ | refine cT ?_ | refine dN ?_ | refine bO ?_ | refine gM ?_ | refine dJ ?_ | (refine' wU ?hz0 ?_; (case hz0 => with_unfolding_all first | assumption | omega | (dsimp only <;> omega) | exact ⟨by omega, by omega⟩ | exact .inl ⟨by omega, by omega⟩ | exact .inr ⟨by omega, by omega⟩ | exact ⟨by decide, by decide, by decide⟩)) | (refine' dI ?hz0 ?_; (case hz0 => with_unfolding_all first | assumption | omega | (dsimp only <;> omega) | exact ⟨by omega, by omega⟩ | exact .inl ⟨by omega, by omega⟩ | exact .inr ⟨by omega, by omega⟩ | exact ⟨by decide, by decide, by decide⟩)) | (refine' bG (SqL.of ?hz0) ?hz1 ?_; (case hz0 => first | assumption | exact aj); (case hz1 => with_unfolding_all rfl)) | (refine' fK (SqT.of ?hz0) ?hz1 ?_; (case hz0 => first | assumption | exact aj); (case hz1 => with_unfolding_all rfl)) | (refine' cz ?hz0 ?hz1 ?_; (case hz0 => first | assumption | exact aj); (case hz1 => with_unfolding_all rfl)) | refine bU ?_ | refine bV ?_ | refine gW ?_ | refine dX ?_ | refine lU ?_))
local macro_rules | `(tactic| walk_at "5") => `(tactic| (first | refine kh ?_ | refine jT ?_ | refine jL ?_ | refine gQ ?_ | refine gU ?_ | (refine' gG ?hz0 ?_; (case hz0 => with_unfolding_all rfl)) | refine wR ?_ | refine kI ?_ | refine dH ?_ | refine dj ?_ | refine gH ?_ | refine gk ?_ | refine cZ ?_ | refine gq ?_ | refine cY ?_ | refine j7 ?_ | refine dg ?_ | refine kJ ?_ | refine kj ?_ | refine dm ?_ | refine j8 ?_ | refine gr ?_ | refine gw ?_ | refine j9 ?_ | refine dh ?_ | refine gB ?_ | refine di ?_ | refine gC ?_ | refine gn ?_ | refine c7 ?_ | refine oK ?_ | refine oJ ?_ | refine km ?_ | refine kE ?_ | refine gJ ?_ | refine dq ?_ | refine dw ?_ | refine dz ?_ | refine dD ?_ | refine dF ?_ | refine dG ?_ | refine gK ?_ | refine bN ?_ | refine dM ?_ | (refine' bH (SqT.of ?hz0) ?hz1 ?_; (case hz0 => first | assumption | exact aj); (case hz1 => rfl)) | refine bQ ?_ | refine bT ?_ | refine gO ?_ | refine bR ?_ | refine dO ?_ | refine dR ?_ | refine cU ?_ | refine cV ?_ | refine dU ?_ | refine dW ?_ | refine gP ?_ | refine kO ?_ | refine cR ?_ | refine cT ?_ | refine dN ?_ | refine bO ?_ | refine gM ?_ | refine dJ ?_ | (refine' wU ?hz0 ?_; (case hz0 => with_unfolding_all first | assumption | omega | (dsimp only <;> omega) | exact ⟨by omega, by omega⟩ | exact .inl ⟨by omega, by omega⟩ | exact .inr ⟨by omega, by omega⟩ | exact ⟨by decide, by decide, by decide⟩)) | (refine' dI ?hz0 ?_; (case hz0 => with_unfolding_all first | assumption | omega | (dsimp only <;> omega) | exact ⟨by omega, by omega⟩ | exact .inl ⟨by omega, by omega⟩ | exact .inr ⟨by omega, by omega⟩ | exact ⟨by decide, by decide, by decide⟩)) | (refine' bG (SqL.of ?hz0) ?hz1 ?_; (case hz0 => first | assumption | exact aj); (case hz1 => with_unfolding_all rfl)) | (refine' fK (SqT.of ?hz0) ?hz1 ?_; (case hz0 => first | assumption | exact aj); (case hz1 => with_unfolding_all rfl)) | (refine' cz ?hz0 ?hz1 ?_; (case hz0 => first | assumption | exact aj); (case hz1 => with_unfolding_all rfl)) | refine bU ?_ | refine bV ?_ | refine gW ?_ | refine dX ?_ | refine xU ?_ | refine tO ?_ | refine pI ?_ | (refine' uE ?hz0 ?_; (case hz0 => with_unfolding_all rfl)) | refine lU ?_))
local macro_rules | `(tactic| walk_at "6") => `(tactic| (first | refine kh ?_ | refine jT ?_ | refine jL ?_ | refine gQ ?_ | refine gU ?_ | (refine' gG ?hz0 ?_; (case hz0 => with_unfolding_all rfl)) | refine wR ?_ | refine kI ?_ | refine dH ?_ | refine dj ?_ | refine gH ?_ | refine gk ?_ | refine cZ ?_ | refine gq ?_ | refine cY ?_ | refine j7 ?_ | refine dg ?_ | refine kJ ?_ | refine kj ?_ | refine dm ?_ | refine j8 ?_ | refine gr ?_ | refine gw ?_ | refine j9 ?_ | refine dh ?_ | refine gB ?_ | refine di ?_ | refine gC ?_ | refine gn ?_ | refine c7 ?_ | refine oK ?_ | refine oJ ?_ | refine km ?_ | refine kE ?_ | refine gJ ?_ | refine dq ?_ | refine dw ?_ | refine dz ?_ | refine dD ?_ | refine dF ?_ | refine dG ?_ | refine gK ?_ | refine bN ?_ | refine dM ?_ | (refine' bH (SqT.of ?hz0) ?hz1 ?_; (case hz0 => first | assumption | exact aj); (case hz1 => rfl)) | refine bQ ?_ | refine bT ?_ | refine gO ?_ | refine bR ?_ | refine dO ?_ | refine dR ?_ | refine cU ?_ | refine cV ?_ | refine dU ?_ | refine dW ?_ | refine gP ?_ | refine kO ?_ | refine cR ?_ | refine cT ?_ | refine dN ?_ | refine bO ?_ | refine gM ?_ | refine dJ ?_ | (refine' wU ?hz0 ?_; (case hz0 => with_unfolding_all first | assumption | omega | (dsimp only <;> omega) | exact ⟨by omega, by omega⟩ | exact .inl ⟨by omega, by omega⟩ | exact .inr ⟨by omega, by omega⟩ | exact ⟨by decide, by decide, by decide⟩)) | (refine' dI ?hz0 ?_; (case hz0 => with_unfolding_all first | assumption | omega | (dsimp only <;> omega) | exact ⟨by omega, by omega⟩ | exact .inl ⟨by omega, by omega⟩ | exact .inr ⟨by omega, by omega⟩ | exact ⟨by decide, by decide, by decide⟩)) | (refine' bG (SqL.of ?hz0) ?hz1 ?_; (case hz0 => first | assumption | exact aj); (case hz1 => with_unfolding_all rfl)) | (refine' fK (SqT.of ?hz0) ?hz1 ?_; (case hz0 => first | assumption | exact aj); (case hz1 => with_unfolding_all rfl)) | (refine' cz ?hz0 ?hz1 ?_; (case hz0 => first | assumption | exact aj); (case hz1 => with_unfolding_all rfl)) | refine bU ?_ | refine bV ?_ | refine gW ?_ | refine dX ?_ | refine xU ?_ | refine tO ?_ | refine pI ?_ | (refine' uE ?hz0 ?_; (case hz0 => with_unfolding_all rfl)) | refine u6 ?_ | refine lU ?_))
local macro_rules | `(tactic| walk_at "7") => `(tactic| (first | refine kh ?_ | refine jT ?_ | refine jL ?_ | refine gQ ?_ | refine gU ?_ | (refine' gG ?hz0 ?_; (case hz0 => with_unfolding_all rfl)) | refine wR ?_ | refine kI ?_ | refine dH ?_ | refine dj ?_ | refine gH ?_ | refine gk ?_ | refine cZ ?_ | refine gq ?_ | refine cY ?_ | refine j7 ?_ | refine dg ?_ | refine kJ ?_ | refine kj ?_ | refine dm ?_ | refine j8 ?_ | refine gr ?_ | refine gw ?_ | refine j9 ?_ | refine dh ?_ | refine gB ?_ | refine di ?_ | refine gC ?_ | refine gn ?_ | refine c7 ?_ | refine oK ?_ | refine oJ ?_ | refine km ?_ | refine kE ?_ | refine gJ ?_ | refine dq ?_ | refine dw ?_ | refine dz ?_ | refine dD ?_ | refine dF ?_ | refine dG ?_ | refine gK ?_ | refine bN ?_ | refine dM ?_ | (refine' bH (SqT.of ?hz0) ?hz1 ?_; (case hz0 => first | assumption | exact aj); (case hz1 => rfl)) | refine bQ ?_ | refine bT ?_ | refine gO ?_ | refine bR ?_ | refine dO ?_ | refine dR ?_ | refine cU ?_ | refine cV ?_ | refine dU ?_ | refine dW ?_ | refine gP ?_ | refine kO ?_ | refine cR ?_ | refine cT ?_ | refine dN ?_ | refine bO ?_ | refine gM ?_ | refine dJ ?_ | (refine' wU ?hz0 ?_; (case hz0 => with_unfolding_all first | assumption | omega | (dsimp only <;> omega) | exact ⟨by omega, by omega⟩ | exact .inl ⟨by omega, by omega⟩ | exact .inr ⟨by omega, by omega⟩ | exact ⟨by decide, by decide, by decide⟩)) | (refine' dI ?hz0 ?_; (case hz0 => with_unfolding_all first | assumption | omega | (dsimp only <;> omega) | exact ⟨by omega, by omega⟩ | exact .inl ⟨by omega, by omega⟩ | exact .inr ⟨by omega, by omega⟩ | exact ⟨by decide, by decide, by decide⟩)) | (refine' bG (SqL.of ?hz0) ?hz1 ?_; (case hz0 => first | assumption | exact aj); (case hz1 => with_unfolding_all rfl)) | (refine' fK (SqT.of ?hz0) ?hz1 ?_; (case hz0 => first | assumption | exact aj); (case hz1 => with_unfolding_all rfl)) | (refine' cz ?hz0 ?hz1 ?_; (case hz0 => first | assumption | exact aj); (case hz1 => with_unfolding_all rfl)) | refine bU ?_ | refine bV ?_ | refine gW ?_ | refine dX ?_ | refine xU ?_ | refine tO ?_ | refine pI ?_ | (refine' uE ?hz0 ?_; (case hz0 => with_unfolding_all rfl)) | refine u6 ?_))
abbrev U7 (d:Stmt) (x:Str):Prop:=(az d).names.lookup x=some NameKind.local
def nI (cs:List Nat):List Int:=cs.map fun i:Nat=>(i:Int)
def uG (E:List Nat) (p:Nat):Bool:=decide (E.getD p 0 < E.getD (p+1) 0)
def bA (E:List Nat) (p:Nat):List Nat:=if uG E p=true then (E.set p (E.getD (p+1) 0)).set (p+1) (E.getD p 0) else E
def bK (E:List Nat) (ps:List Nat):List Nat:=ps.foldl bA E
theorem mH (E ps:List Nat) (p:Nat):bK E (ps ++ [p])=bA (bK E ps) p:=by unfold bK;rw [List.foldl_append];rfl
theorem pJ (E:List Nat) (p:Nat):(bA E p).length=E.length:=by unfold bA;split <;> simp
theorem jC (E ps:List Nat):(bK E ps).length=E.length:=by
 induction ps generalizing E with
 | nil=>rfl
 | cons p ps ih=>exact (ih (bA E p)).trans (pJ E p)
theorem xV {E:List Nat} {p:Nat} (h:p+1 < E.length):E=E.take p ++ E.getD p 0 :: E.getD (p+1) 0 :: E.drop (p+2)/\(E.set p (E.getD (p+1) 0)).set (p+1) (E.getD p 0)=E.take p ++ E.getD (p+1) 0 :: E.getD p 0 :: E.drop (p+2):=by
 have e1:E.getD p 0=E[p]:=by rw [Xl,Xk (by omega)];rfl
 have e2:E.getD (p+1) 0=E[p+1]:=by rw [Xl,Xk h];rfl
 have f:E=E.take p ++ E.getD p 0 :: E.getD (p+1) 0 :: E.drop (p+2):=by
  rw [e1,e2]
  conv=>lhs;rw [← List.take_append_drop p E]
  rw [List.drop_eq_getElem_cons (by omega),List.drop_eq_getElem_cons h]
 refine ⟨f,?_⟩
 generalize E.getD p 0=a at f ⊢
 generalize E.getD (p+1) 0=b at f ⊢
 have lt:(E.take p).length=p:=by rw [Yi];omega
 conv=>lhs;rw [f]
 rw [List.set_append_right _ _ (by omega),lt,Nat.sub_self,List.set_cons_zero,List.set_append_right _ _ (by omega),lt,show p+1 - p=1 by omega]
 rfl
theorem qz {E:List Nat} {p:Nat} (h:p+1 < E.length):(bA E p).Perm E:=by
 unfold bA
 split
 ·obtain ⟨f1,f2⟩:=xV h
  rw [f2]
  conv=>rhs;rw [f1]
  exact (List.Perm.swap _ _ _).append_left _
 ·exact List.Perm.refl _
theorem pK {ps:List Nat}:∀ {E:List Nat},(∀ p∈ps,p+1 < E.length)->(bK E ps).Perm E:=by
 induction ps with
 | nil=>intro E _;exact List.Perm.refl _
 | cons p ps ih=>
  intro E h
  have h1:=qz (h p (by simp))
  exact (ih (E:=bA E p) fun q hq=>by rw [pJ];exact h q (XR _ hq)).trans h1
def Kr (E:List Nat) (ps:List Nat) (i:Nat):List Nat:=(List.range i).filter fun j=>uG (bK E (ps.take j)) (ps.getD j 0)
theorem Ad (E ps:List Nat) (i:Nat):Kr E ps (i+1)=Kr E ps i ++ (if uG (bK E (ps.take i)) (ps.getD i 0)=true then [i] else []):=by
 unfold Kr
 rw [YX,List.filter_append]
 congr 1
 by_cases h:uG (bK E (ps.take i)) (ps.getD i 0)=true
 ·rw [if_pos h,List.filter_cons_of_pos (p:=fun j=>uG (bK E (ps.take j)) (ps.getD j 0)) h];rfl
 ·rw [if_neg h,List.filter_cons_of_neg (p:=fun j=>uG (bK E (ps.take j)) (ps.getD j 0)) h];rfl
theorem Oo (E ps:List Nat) (i:Nat):(Kr E ps i).length<=i:=Xv (List.length_filter_le _ _) (by simp)
theorem tQ {ps:List Nat} {i:Nat} (h:i < ps.length):ps.take (i+1)=ps.take i ++ [ps.getD i 0]:=by
 rw [Zf,Xl,Xk h];rfl
def qC (n:Nat):List (Nat×Nat):=(List.range n).flatMap fun x=>(List.range' (x+1) (n - (x+1))).map fun y=>(x,y)
def cr (t:List Nat):Nat:=(qC t.length).countP fun p=>decide (t.getD p.2 0 < t.getD p.1 0)
theorem qD {n:Nat} {p:Nat×Nat}:p∈qC n↔p.1 < p.2/\p.2 < n:=by
 unfold qC
 simp only [List.mem_flatMap,Yr,XJ,List.mem_range']
 constructor
 ·rintro ⟨x,hx,y,⟨i,hi,rfl⟩,rfl⟩
  exact ⟨by show x < x+1+1*i;omega,by show x+1+1*i < n;omega⟩
 ·rintro ⟨h1,h2⟩
  exact ⟨p.1,by omega,p.2,⟨p.2 - (p.1+1),by omega,by omega⟩,rfl⟩
theorem yN (n:Nat):(qC n).Nodup:=by
 unfold qC List.Nodup
 rw [List.pairwise_flatMap]
 refine ⟨fun x _=>?_,?_⟩
 ·rw [List.pairwise_map]
  exact (List.nodup_range' (s:=x+1) (n:=n - (x+1))).imp fun h e=>h (by injection e)
 ·refine List.nodup_range.imp fun {x y} h p hp q hq e=>?_
  obtain ⟨_,_,rfl⟩:=Yr.mp hp
  obtain ⟨_,_,rfl⟩:=Yr.mp hq
  injection e with e1 e2
  exact h e1
theorem xW {α:Type} {P Q:α->Bool} {a:α}:∀ {l:List α},l.Nodup->a∈l->(∀ b∈l,b≠a->P b=Q b)->P a=false->Q a=true->l.countP Q=l.countP P+1
 | [],_,h,_,_,_=>by cases h
 | b :: l,hn,h,he,hP,hQ=>by
  obtain ⟨hb,hn'⟩:=List.nodup_cons.mp hn
  by_cases hab:b=a
  ·subst hab
   rw [List.countP_cons_of_pos hQ,List.countP_cons_of_neg (by rw [hP];simp)]
   congr 1
   exact List.countP_congr fun c hc=>by rw [he c (XR _ hc) (fun z=>hb (z ▸ hc))]
  ·have ih:=xW hn' ((XD.mp h).resolve_left fun z=>hab z.symm) (fun c hc=>he c (XR _ hc)) hP hQ
   have e:=he b (by simp) hab
   cases hq:Q b with
   | true=>rw [List.countP_cons_of_pos hq,List.countP_cons_of_pos (by rw [e,hq]),ih]
   | false=>rw [List.countP_cons_of_neg (by rw [hq];simp),List.countP_cons_of_neg (by rw [e,hq];simp),ih]
def inv (E:List Nat):List Nat:=(List.range E.length).map fun x=>E.idxOf x
theorem bz (E:List Nat):(inv E).length=E.length:=by simp [inv]
theorem jm {E:List Nat} {x:Nat} (h:x < E.length):(inv E).getD x 0=E.idxOf x:=by
 unfold inv
 rw [Xl,Xw,X4 h];rfl
theorem ik {E:List Nat} (hn:E.Nodup) {i x:Nat} (h:E[i]?=some x):E.idxOf x=i:=by
 obtain ⟨hi,rfl⟩:=Xn.mp h
 exact hn.idxOf_getElem i hi
theorem Oq {E:List Nat} {n p:Nat} (hE:E.Perm (List.range n)) (hp:p+1 < n) (hw:uG E p=true):cr (inv (bA E p))=cr (inv E)+1:=by
 have hl:E.length=n:=by rw [hE.length_eq];simp
 have nd:E.Nodup:=hE.nodup_iff.mpr ZK
 have hlt:∀ x∈E,x < n:=fun x hx=>XJ.mp (hE.mem_iff.mp hx)
 have hin:∀ x,x < n->x∈E:=fun x hx=>hE.mem_iff.mpr (XJ.mpr hx)
 obtain ⟨a,ha⟩:∃ a,E[p]?=some a:=⟨_,Xk (by omega)⟩
 obtain ⟨b,hb⟩:∃ b,E[p+1]?=some b:=⟨_,Xk (by omega)⟩
 have da:E.getD p 0=a:=by rw [Xl,ha];rfl
 have db:E.getD (p+1) 0=b:=by rw [Xl,hb];rfl
 have hab:a < b:=by
  unfold uG at hw
  rw [da,db] at hw
  exact Z0 hw
 have eF:bA E p=(E.set p b).set (p+1) a:=by unfold bA;rw [if_pos hw,da,db]
 have fp:=qz (E:=E) (p:=p) (by omega)
 have nF:(bA E p).Nodup:=fp.nodup_iff.mpr nd
 have lF:(bA E p).length=n:=by rw [pJ];exact hl
 have gF:∀ i,(bA E p)[i]?=if i=p+1 then some a else if i=p then some b else E[i]?:=fun i=>by
  rw [eF]
  by_cases h1:i=p+1
  ·subst h1
   rw [if_pos rfl,Yw (by simp;omega)]
  ·rw [if_neg h1,Yd (fun z=>h1 z.symm)]
   by_cases h2:i=p
   ·subst h2
    rw [if_pos rfl,Yw (by omega)]
   ·rw [if_neg h2,Yd (fun z=>h2 z.symm)]
 have ia:E.idxOf a=p:=ik nd ha
 have ib:E.idxOf b=p+1:=ik nd hb
 have ja:(bA E p).idxOf a=p+1:=ik nF (by rw [gF,if_pos rfl])
 have jb:(bA E p).idxOf b=p:=ik nF (by rw [gF,if_neg (by omega),if_pos rfl])
 have other:∀ x,x < n->x≠a->x≠b->(bA E p).idxOf x=E.idxOf x/\E.idxOf x≠p/\E.idxOf x≠p+1:=fun x hx h1 h2=>by
  obtain ⟨i,hi,e⟩:=Z3.mp (hin x hx)
  have ei:E[i]?=some x:=by rw [Xk hi,e]
  have n1:i≠p:=fun z=>h1 (by subst z;rw [ha] at ei;exact (XS ei).symm)
  have n2:i≠p+1:=fun z=>h2 (by subst z;rw [hb] at ei;exact (XS ei).symm)
  rw [ik nd ei]
  exact ⟨ik nF (by rw [gF,if_neg n2,if_neg n1,ei]),n1,n2⟩
 have han:a < n:=hlt a (X3 ha)
 have hbn:b < n:=hlt b (X3 hb)
 unfold cr
 rw [bz,bz,lF,hl]
 refine xW (a:=(a,b)) (yN n) (qD.mpr ⟨hab,hbn⟩) ?_ ?_ ?_
 ·rintro ⟨x,y⟩ hxy hne
  obtain ⟨h1,h2⟩:=qD.mp hxy
  dsimp only at h1 h2 ⊢
  have hx:x < n:=by omega
  rw [jm (by omega),jm (by omega),jm (by omega),jm (by omega)]
  congr 1
  rw [eq_iff_iff]
  by_cases xa:x=a
  ·subst xa
   have yb:y≠b:=fun z=>hne (by rw [z])
   obtain ⟨o1,o2,o3⟩:=other y h2 (by omega) yb
   rw [o1,ia,ja];omega
  ·by_cases xb:x=b
   ·subst xb
    obtain ⟨o1,o2,o3⟩:=other y h2 (by omega) (by omega)
    rw [o1,ib,jb];omega
   ·obtain ⟨q1,q2,q3⟩:=other x hx xa xb
    by_cases ya:y=a
    ·subst ya
     rw [q1,ia,ja];omega
    ·by_cases yb:y=b
     ·subst yb
      rw [q1,ib,jb];omega
     ·obtain ⟨o1,_,_⟩:=other y h2 ya yb
      rw [q1,o1]
 ·dsimp only
  rw [jm (by omega),jm (by omega),ia,ib]
  exact XF (by omega)
 ·dsimp only
  rw [jm (by omega),jm (by omega),ja,jb]
  exact Xq (by omega)
theorem Ks (n:Nat):cr (inv (List.range n))=0:=by
 unfold cr
 rw [List.countP_eq_zero]
 rintro ⟨x,y⟩ h
 rw [bz,ZD] at h
 obtain ⟨h1,h2⟩:=qD.mp h
 dsimp only at h1 h2 ⊢
 have e:∀ z,z < n->(List.range n).idxOf z=z:=fun z hz=>ik ZK (X4 hz)
 rw [jm (by simpa using h2),jm (by simp;omega),e y h2,e x (by omega)]
 simp;omega
theorem Ku {n:Nat} {ps:List Nat} (hp:∀ p∈ps,p+1 < n):∀ i,i<=ps.length->cr (inv (bK (List.range n) (ps.take i)))=(Kr (List.range n) ps i).length
 | 0,_=>by rw [List.take_zero];exact Ks n
 | i+1,h=>by
  have ih:=Ku hp i (by omega)
  have hmem:ps.getD i 0∈ps:=by rw [Xl,Xk (by omega)];exact YH _
  have hpm:(bK (List.range n) (ps.take i)).Perm (List.range n):=pK fun q hq=>by simpa using hp q (Zm hq)
  rw [tQ (by omega),mH,Ad]
  by_cases hw:uG (bK (List.range n) (ps.take i)) (ps.getD i 0)=true
  ·rw [Oq hpm (hp _ hmem) hw,ih,if_pos hw];simp
  ·rw [if_neg hw,YG,← ih]
   unfold bA
   rw [if_neg hw]
structure Prm (t:List Nat):Prop where
 le:t.length<=96
 pm:t.Perm (List.range t.length)
theorem Prm.nd {t:List Nat} (h:Prm t):t.Nodup:=h.pm.nodup_iff.mpr ZK
theorem Prm.lt {t:List Nat} (h:Prm t) {x:Nat} (hx:x∈t):x < t.length:=XJ.mp (h.pm.mem_iff.mp hx)
theorem Prm.mem {t:List Nat} (h:Prm t) {x:Nat} (hx:x < t.length):x∈t:=h.pm.mem_iff.mpr (XJ.mpr hx)
theorem Em {n:Nat} {ps:List Nat} (h:n<=96) (hp:∀ p∈ps,p+1 < n):Prm (bK (List.range n) ps):=by
 have hl:(bK (List.range n) ps).length=n:=by rw [jC];simp
 refine ⟨by omega,?_⟩
 rw [hl]
 exact pK fun p hp'=>by simpa using hp p hp'
theorem wj {t r:List Nat} (hP:Prm t) (hl:r.length=t.length) (h:∀ (i x:Nat),t[i]?=some x->r[x]?=some i):r=inv t:=by
 refine ZZ fun x=>?_
 by_cases hx:x < t.length
 ·obtain ⟨i,hi,e⟩:=Z3.mp (hP.mem hx)
  have ei:t[i]?=some x:=by rw [Xk hi,e]
  rw [h i x ei]
  unfold inv
  rw [Xw,X4 hx]
  show some i=some (t.idxOf x)
  rw [ik hP.nd ei]
 ·rw [YQ (by omega),YQ (by rw [bz];omega)]
theorem lE {E:List Nat} (h:Prm E):Prm (inv E):=by
 have hl:=bz E
 refine ⟨by rw [hl];exact h.le,?_⟩
 rw [hl]
 have nd:(inv E).Nodup:=by
  unfold inv
  unfold List.Nodup
  rw [List.pairwise_map]
  refine List.nodup_range.imp_of_mem fun {x y} hx hy ne e=>ne ?_
  have key:∀ z,z∈List.range E.length->E.getD (E.idxOf z) 0=z:=fun z hz=>by
   have hi:E.idxOf z < E.length:=List.idxOf_lt_length_iff.mpr (h.mem (XJ.mp hz))
   rw [Xl,Xk hi]
   exact List.getElem_idxOf hi
  rw [← key x hx,← key y hy,e]
 refine (List.perm_ext_iff_of_nodup nd ZK).mpr fun x=>?_
 rw [XJ]
 constructor
 ·intro hx
  unfold inv at hx
  obtain ⟨y,hy,rfl⟩:=Yr.mp hx
  exact List.idxOf_lt_length_iff.mpr (h.mem (XJ.mp hy))
 ·intro hx
  unfold inv
  refine Yr.mpr ⟨E[x],XJ.mpr (h.lt (YH hx)),?_⟩
  exact ik h.nd (Xk hx)
theorem pL {t:List Nat} (h:Prm t):inv (inv t)=t:=by
 refine (wj (lE h) (by rw [bz]) fun i x e=>?_).symm
 have hi:i < t.length:=by have:=(Xn.mp e).1;rwa [bz] at this
 have e2:(inv t)[i]?=some (t.idxOf i):=by unfold inv;rw [Xw,X4 hi];rfl
 rw [e] at e2
 cases e2
 have hx:t.idxOf i < t.length:=List.idxOf_lt_length_iff.mpr (h.mem hi)
 rw [Xk hx]
 exact congrArg some (List.getElem_idxOf hx)
def wV (B:List Nat) (p:Nat):List Nat:=(B.set p (B.getD (p+1) 0)).set (p+1) (B.getD p 0)
theorem mR (B:List Nat) (p:Nat):(wV B p).length=B.length:=by unfold wV;simp
theorem getD_some {B:List Nat} {i:Nat} (h:i < B.length):B[i]?=some (B.getD i 0):=by rw [Xl,Xk h];rfl
theorem iG {B:List Nat} {p:Nat} (h:p+1 < B.length) (i:Nat):(wV B p).getD i 0=if i=p+1 then B.getD p 0 else if i=p then B.getD (p+1) 0 else B.getD i 0:=by
 unfold wV
 rw [Xl]
 by_cases h1:i=p+1
 ·subst h1
  rw [if_pos rfl,Yw (by simp;omega)];rfl
 ·rw [if_neg h1,Yd (fun z=>h1 z.symm)]
  by_cases h2:i=p
  ·subst h2
   rw [if_pos rfl,Yw (by omega)];rfl
  ·rw [if_neg h2,Yd (fun z=>h2 z.symm),← Xl]
theorem wu {A B:List Nat} (hl:A.length=B.length) (h:∀ i,i < A.length->A.getD i 0=B.getD i 0):A=B:=by
 refine ZZ fun i=>?_
 by_cases hi:i < A.length
 ·rw [getD_some hi,getD_some (by omega),h i hi]
 ·rw [YQ (by omega),YQ (by omega)]
theorem Ot {B:List Nat} {p:Nat} (h:p+1 < B.length):wV (wV B p) p=B:=by
 refine wu (by rw [mR,mR]) fun i _=>?_
 rw [iG (by rw [mR];exact h),iG h,iG h,iG h]
 by_cases h1:i=p+1
 ·subst h1;simp
 ·by_cases h2:i=p
  ·subst h2;simp
  ·simp [h1,h2]
theorem ww {B:List Nat} {p:Nat} (h:uG B p=true):bA B p=wV B p:=by unfold bA wV;rw [if_pos h]
def inn:Nat->List Nat->List Nat->List Nat×List Nat
 | 0,B,u=>(B,u)
 | p+1,B,u=>if B.getD (p+1) 0 < B.getD p 0 then inn p (wV B p) (u ++ [p]) else (B,u)
def tU (B:List Nat):Nat->List Nat×List Nat
 | 0=>(B,[])
 | k+1=>inn (k+1) (tU B k).1 (tU B k).2
def Wk:List Nat->List Nat->Prop
 | _,[]=>True
 | B,p :: us=>uG B p=true/\Wk (bA B p) us
theorem QH:∀ {us B:List Nat} {j:Nat},Wk B us->j < us.length->uG (bK B (us.take j)) (us.getD j 0)=true
 | p :: us,B,0,h,_=>h.1
 | p :: us,B,j+1,h,hj=>QH (us:=us) (B:=bA B p) (j:=j) h.2 (by simpa using hj)
theorem T7 {B us:List Nat} (h:Wk B us):Kr B us us.length=List.range us.length:=by
 unfold Kr
 rw [List.filter_eq_self]
 intro j hj
 exact QH h (XJ.mp hj)
structure Sx (B0:List Nat) (n:Nat) (B u:List Nat):Prop where
 len:B.length=n
 pm:B.Perm (List.range n)
 lt:∀ p∈u,p+1 < n
 back:bK B u.reverse=B0
 wk:Wk B u.reverse
 link:∀ i,i < n->B.getD i 0=B0.getD ((bK (List.range n) u).getD i 0) 0
theorem QJ {n:Nat} {u:List Nat} (h:∀ p∈u,p+1 < n):(bK (List.range n) u).Perm (List.range n):=pK fun p hp=>by simpa using h p hp
theorem yO {G:List Nat} {n i j:Nat} (h:G.Perm (List.range n)) (hi:i < n) (hj:j < n) (e:G.getD i 0=G.getD j 0):i=j:=by
 have nd:G.Nodup:=h.nodup_iff.mpr ZK
 have hl:G.length=n:=by rw [h.length_eq];simp
 have h1:=ik nd (getD_some (B:=G) (i:=i) (by omega))
 have h2:=ik nd (getD_some (B:=G) (i:=j) (by omega))
 rw [e] at h1
 omega
theorem Kv {G:List Nat} {n i:Nat} (h:G.Perm (List.range n)) (hi:i < n):G.getD i 0 < n:=by
 have hl:G.length=n:=by rw [h.length_eq];simp
 exact XJ.mp (h.mem_iff.mp (X3 (getD_some (by omega))))
theorem Kw {B0:List Nat} {n m:Nat} (hm:m < n):∀ (p:Nat) (B u:List Nat),p<=m->Sx B0 n B u->(∀ i j,i < j->j<=m->j≠p->B.getD i 0 < B.getD j 0)->
  (bK (List.range n) u).getD p 0=m->(∀ i,i<=m->(bK (List.range n) u).getD i 0<=m)->(∀ i,m < i->i < n->(bK (List.range n) u).getD i 0=i)->
  Sx B0 n (inn p B u).1 (inn p B u).2/\(∀ i j,i < j->j<=m->(inn p B u).1.getD i 0 < (inn p B u).1.getD j 0)/\(∀ i,i<=m->(bK (List.range n) (inn p B u).2).getD i 0<=m)/\(∀ i,m < i->i < n->(bK (List.range n) (inn p B u).2).getD i 0=i)
 | 0,B,u,_,S,srt,_,gle,gid=>⟨S,fun i j h1 h2=>srt i j h1 h2 (by omega),gle,gid⟩
 | p+1,B,u,hp,S,srt,gm,gle,gid=>by
  have hB:=S.len
  have hG:=QJ S.lt
  have lG:(bK (List.range n) u).length=n:=by rw [hG.length_eq];simp
  unfold inn
  by_cases hc:B.getD (p+1) 0 < B.getD p 0
  ·rw [if_pos hc]
   have hp1:p+1 < B.length:=by omega
   have w1:uG (wV B p) p=true:=by
    unfold uG
    rw [iG hp1,iG hp1,if_neg (by omega),if_pos rfl,if_pos rfl]
    exact Xq hc
   have w2:uG (bK (List.range n) u) p=true:=by
    unfold uG
    rw [gm]
    refine Xq ?_
    have h1:=gle p (by omega)
    have h2:(bK (List.range n) u).getD p 0≠m:=fun z=>by
     have:=yO hG (i:=p) (j:=p+1) (by omega) (by omega) (by rw [z,gm])
     omega
    omega
   have eG:bK (List.range n) (u ++ [p])=wV (bK (List.range n) u) p:=by rw [mH,ww w2]
   have bk:bA (wV B p) p=B:=by rw [ww w1,Ot hp1]
   have S':Sx B0 n (wV B p) (u ++ [p]):=by
    refine ⟨by rw [mR];exact hB,?_,?_,?_,?_,?_⟩
    ·have:=qz (E:=wV B p) (p:=p) (by rw [mR];exact hp1)
     rw [bk] at this
     exact this.symm.trans S.pm
    ·intro q hq
     rcases Yz.mp hq with h | h
     ·exact S.lt q h
     ·rw [Yn.mp h];omega
    ·rw [List.reverse_append]
     show bK (bA (wV B p) p) u.reverse=B0
     rw [bk];exact S.back
    ·rw [List.reverse_append]
     show uG (wV B p) p=true/\Wk (bA (wV B p) p) u.reverse
     rw [bk];exact ⟨w1,S.wk⟩
    ·intro i hi
     rw [eG,iG hp1,iG (by omega)]
     by_cases h1:i=p+1
     ·rw [if_pos h1,if_pos h1];exact S.link p (by omega)
     ·rw [if_neg h1,if_neg h1]
      by_cases h2:i=p
      ·rw [if_pos h2,if_pos h2];exact S.link (p+1) (by omega)
      ·rw [if_neg h2,if_neg h2];exact S.link i hi
   refine Kw hm p (wV B p) (u ++ [p]) (by omega) S' (fun i j h1 h2 h3=>?_) ?_ (fun i hi=>?_) fun i h1 h2=>?_
   ·rw [iG hp1,iG hp1]
    by_cases j1:j=p+1
    ·subst j1
     rw [if_neg (show ¬ i=p+1 by omega),if_pos rfl]
     by_cases i2:i=p
     ·rw [if_pos i2];exact hc
     ·rw [if_neg i2];exact srt i p (by omega) (by omega) (by omega)
    ·rw [if_neg j1,if_neg h3]
     by_cases i1:i=p+1
     ·rw [if_pos i1];exact srt p j (by omega) h2 j1
     ·rw [if_neg i1]
      by_cases i2:i=p
      ·rw [if_pos i2];exact srt (p+1) j (by omega) h2 j1
      ·rw [if_neg i2];exact srt i j h1 h2 j1
   ·rw [eG,iG (by omega),if_neg (by omega),if_pos rfl];exact gm
   ·rw [eG,iG (by omega)]
    by_cases i1:i=p+1
    ·rw [if_pos i1];exact gle p (by omega)
    ·rw [if_neg i1]
     by_cases i2:i=p
     ·rw [if_pos i2];exact gle (p+1) hp
     ·rw [if_neg i2];exact gle i hi
   ·rw [eG,iG (by omega),if_neg (by omega),if_neg (by omega)];exact gid i h1 h2
  ·rw [if_neg hc]
   refine ⟨S,fun i j h1 h2=>?_,gle,gid⟩
   show B.getD i 0 < B.getD j 0
   by_cases hj:j=p+1
   ·subst hj
    have hne:B.getD p 0≠B.getD (p+1) 0:=fun z=>by
     have:=yO S.pm (i:=p) (j:=p+1) (by omega) (by omega) z
     omega
    by_cases hi:i=p
    ·subst hi;omega
    ·have:=srt i p (by omega) (by omega) (by omega)
     omega
   ·exact srt i j h1 h2 hj
theorem Ky {B0:List Nat} {n:Nat} (hB:B0.Perm (List.range n)):∀ k,k < n->Sx B0 n (tU B0 k).1 (tU B0 k).2/\(∀ i j,i < j->j<=k->(tU B0 k).1.getD i 0 < (tU B0 k).1.getD j 0)/\(∀ i,i<=k->(bK (List.range n) (tU B0 k).2).getD i 0<=k)/\(∀ i,k < i->i < n->(bK (List.range n) (tU B0 k).2).getD i 0=i)
 | 0,h=>by
  have hl:B0.length=n:=by rw [hB.length_eq];simp
  have hr:∀ i,i < n->(List.range n).getD i 0=i:=fun i hi=>by rw [Xl,X4 hi];rfl
  refine ⟨⟨hl,hB,(fun p hp=>by cases hp),rfl,trivial,fun i hi=>?_⟩,(fun i j h1 h2=>by omega),fun i hi=>?_,fun i _ hi=>hr i hi⟩
  ·show B0.getD i 0=B0.getD ((List.range n).getD i 0) 0
   rw [hr i hi]
  ·have:i=0:=by omega
   subst this
   show (List.range n).getD 0 0<=0
   rw [hr 0 h]
   exact Xp _
 | k+1,h=>by
  obtain ⟨S,srt,gle,gid⟩:=Ky hB k (by omega)
  show Sx B0 n (inn (k+1) (tU B0 k).1 (tU B0 k).2).1 (inn (k+1) (tU B0 k).1 (tU B0 k).2).2/\_
  refine Kw h (k+1) _ _ (Xp _) S (fun i j h1 h2 h3=>srt i j h1 (by omega)) (gid (k+1) (by omega) h) (fun i hi=>?_) fun i h1 h2=>gid i (by omega) h2
  by_cases e:i=k+1
  ·subst e;rw [gid (k+1) (by omega) h];exact Xp _
  ·have:=gle i (by omega);omega
theorem yP {B:List Nat} {n:Nat} (hl:B.length=n) (hlt:∀ i,i < n->B.getD i 0 < n) (h:∀ i j,i < j->j < n->B.getD i 0 < B.getD j 0):B=List.range n:=by
 have mono:∀ d i,i+d < n->B.getD i 0+d<=B.getD (i+d) 0:=fun d=>by
  induction d with
  | zero=>intro i _;exact Xp _
  | succ d ih=>
   intro i hi
   have h1:=ih i (by omega)
   have h2:=h (i+d) (i+(d+1)) (by omega) hi
   omega
 refine wu (by rw [hl];simp) fun i hi=>?_
 rw [hl] at hi
 rw [show (List.range n).getD i 0=i by rw [Xl,X4 hi];rfl]
 have h1:=mono i 0 (by omega)
 have h2:=mono (n - 1 - i) i (by omega)
 have h3:=hlt (i+(n - 1 - i)) (by omega)
 rw [Nat.zero_add] at h1
 omega
def G9 (t:List Nat):List Nat:=(tU (inv t) (t.length - 1)).2
structure Und (t u:List Nat):Prop where
 lt:∀ p∈u,p+1 < t.length
 back:bK (List.range t.length) u.reverse=inv t
 wk:Kr (List.range t.length) u.reverse u.reverse.length=List.range u.reverse.length
 fw:bK (List.range t.length) u=t
theorem CJ {t:List Nat} (h:Prm t):Und t (G9 t):=by
 have hP:=lE h
 have hl:=bz t
 by_cases h0:t.length=0
 ·have e:t=[]:=Y6.mp h0
  subst e
  exact ⟨(fun p hp=>by cases hp),rfl,rfl,rfl⟩
 ·have pm:(inv t).Perm (List.range t.length):=by have:=hP.pm;rwa [hl] at this
  obtain ⟨S,srt,_,_⟩:=Ky pm (t.length - 1) (by omega)
  have e:(tU (inv t) (t.length - 1)).1=List.range t.length:=yP S.len (fun i hi=>Kv S.pm hi) fun i j h1 h2=>srt i j h1 (by omega)
  have bk:=S.back
  have wk:=S.wk
  have lk:=S.link
  rw [e] at bk wk lk
  refine ⟨S.lt,bk,T7 wk,?_⟩
  have hG:=QJ S.lt
  have lG:(bK (List.range t.length) (tU (inv t) (t.length - 1)).2).length=t.length:=by rw [hG.length_eq];simp
  refine (wj (t:=inv t) hP (by rw [hl];exact lG) fun i x ex=>?_).trans (pL h)
  have hi:i < t.length:=by have:=(Xn.mp ex).1;omega
  have dx:(inv t).getD i 0=x:=by rw [Xl,ex];rfl
  have hx:x < t.length:=by rw [← dx];exact Kv pm hi
  have l1:=lk x hx
  rw [show (List.range t.length).getD x 0=x by rw [Xl,X4 hx];rfl,← dx] at l1
  have gx:=Kv hG hx
  have:=yO pm hi gx (by rw [← dx];exact l1)
  exact (getD_some (B:=bK (List.range t.length) (tU (inv t) (t.length - 1)).2) (by rw [lG];exact hx)).trans (congrArg some this.symm)
theorem pairs_len {n:Nat} (h:n<=96):(qC n).length<=6000:=by
 have key:∀ n,n < 97->((List.range n).map fun x=>n - (x+1)).sum<=6000:=by trivial
 unfold qC
 rw [List.length_flatMap]
 have:=key n (by omega)
 simpa using this
theorem Wv {t:List Nat} (h:t.length<=96):cr t<=6000:=Xv List.countP_le_length (pairs_len h)
theorem Ou {t:List Nat} (h:Prm t):(G9 t).reverse.length=cr t:=by
 have U:=CJ h
 have hp:∀ p∈(G9 t).reverse,p+1 < t.length:=fun p hp=>U.lt p (List.mem_reverse.mp hp)
 have e:=Ku hp (G9 t).reverse.length (Xp _)
 rw [Y0,U.back,pL h,U.wk,ZD] at e
 exact e.symm
def cN (p x:Nat):Nat:=if p<=x then 1 else 0
def N:List Nat->Nat->Nat->Nat
 | [],_,_=>0
 | _ :: _,_,0=>0
 | x :: B,p,q+1=>cN p x+N B p q
theorem oN (B:List Nat) (p:Nat):N B p 0=0:=by cases B <;> rfl
theorem Ae:∀ (L M:List Nat) (p q:Nat),N (L ++ M) p q=N L p q+N M p (q - L.length)
 | [],M,p,q=>by simp [N]
 | x :: L,M,p,0=>by simp [N,oN]
 | x :: L,M,p,q+1=>by
  rw [List.cons_append]
  show cN p x+N (L ++ M) p q=cN p x+N L p q+N M p (q+1 - (L.length+1))
  rw [Ae L M p q,show q+1 - (L.length+1)=q - L.length by omega];omega
theorem yQ:∀ (L:List Nat) (p q:Nat),L.length<=q->N L p q=N L p L.length
 | [],p,q,_=>rfl
 | x :: L,p,0,h=>by simp at h
 | x :: L,p,q+1,h=>by
  show cN p x+N L p q=cN p x+N L p L.length
  rw [yQ L p q (by simpa using h)]
theorem wy:∀ {B:List Nat} {p q:Nat},q < B.length->N B p (q+1)=N B p q+cN p (B.getD q 0)
 | x :: B,p,0,_=>by
  show cN p x+N B p 0=0+cN p x
  rw [oN];omega
 | x :: B,p,q+1,h=>by
  show cN p x+N B p (q+1)=cN p x+N B p q+cN p ((x :: B).getD (q+1) 0)
  rw [wy (B:=B) (q:=q) (by simpa using h)]
  simp;omega
theorem Ww {A B:List Nat} {n:Nat} (ha:A.length=n) (hb:B.length=n) (la:∀ x∈A,x < n) (lb:∀ x∈B,x < n) (h:∀ p q,p<=n->q<=n->N A p q=N B p q):A=B:=by
 refine wu (by omega) fun i hi=>?_
 have key:∀ p,p<=n->cN p (A.getD i 0)=cN p (B.getD i 0):=fun p hp=>by
  have h1:=h p (i+1) hp (by omega)
  rw [wy (by omega),wy (by omega),h p i hp (by omega)] at h1
  omega
 have ma:=la _ (X3 (getD_some (B:=A) (i:=i) (by omega)))
 have mb:=lb _ (X3 (getD_some (B:=B) (i:=i) (by omega)))
 have k1:=key (A.getD i 0) (by omega)
 have k2:=key (B.getD i 0) (by omega)
 unfold cN at k1 k2
 rw [if_pos (Xp _)] at k1
 rw [if_pos (Xp (B.getD i 0))] at k2
 split at k1
 ·split at k2
  ·omega
  ·cases k2
 ·cases k1
theorem Kz {B:List Nat} {i:Nat} (h:i+1 < B.length) (p q:Nat):N (bA B i) p q=if q=i+1 then min (N B p i+1) (N B p (i+2)) else N B p q:=by
 obtain ⟨f1,f2⟩:=xV h
 have e:bA B i=B.take i ++ max (B.getD i 0) (B.getD (i+1) 0) :: min (B.getD i 0) (B.getD (i+1) 0) :: B.drop (i+2):=by
  unfold bA
  split
  ·rename_i hw
   have hw':B.getD i 0 < B.getD (i+1) 0:=Z0 hw
   rw [f2,Nat.max_eq_right (by omega),Nat.min_eq_left (by omega)]
  ·rename_i hw
   have hw':¬ B.getD i 0 < B.getD (i+1) 0:=fun z=>hw (Xq z)
   rw [Nat.max_eq_left (by omega),gV (by omega)]
   exact f1
 have lL:(B.take i).length=i:=by rw [Yi];omega
 generalize B.getD i 0=a at f1 e
 generalize B.getD (i+1) 0=b at f1 e
 generalize B.take i=L at f1 e lL
 generalize B.drop (i+2)=R at f1 e
 rw [e,f1,Ae,Ae,Ae,Ae,lL]
 have hc:cN p (max a b)+cN p (min a b)=cN p a+cN p b:=by unfold cN;split <;> split <;> split <;> split <;> omega
 have hm:cN p (max a b)=min 1 (cN p a+cN p b):=by unfold cN;split <;> split <;> split <;> omega
 by_cases h1:q=i+1
 ·subst h1
  rw [if_pos rfl,show i+1 - i=1 by omega,show i - i=0 by omega,show i+2 - i=2 by omega,yQ L p (i+1) (by omega),yQ L p i (by omega),yQ L p (i+2) (by omega),oN]
  show N L p L.length+(cN p (max a b)+N (min a b :: R) p 0)=min (N L p L.length+0+1) (N L p L.length+(cN p a+(cN p b+N R p 0)))
  rw [oN,oN,hm];omega
 ·rw [if_neg h1]
  congr 1
  by_cases h2:q<=i
  ·rw [show q - i=0 by omega,oN,oN]
  ·obtain ⟨k,hk⟩:∃ k,q - i=k+2:=⟨q - i - 2,by omega⟩
   rw [hk]
   show cN p (max a b)+(cN p (min a b)+N R p k)=cN p a+(cN p b+N R p k)
   omega
theorem yR (n p:Nat):∀ q,q<=n->N (List.range n) p q=q - p
 | 0,_=>by rw [oN];omega
 | q+1,h=>by
  rw [wy (by simp;omega),yR n p q (by omega),show (List.range n).getD q 0=q by rw [Xl,X4 (by omega)];rfl]
  unfold cN
  split <;> omega
theorem CK {B:List Nat} {p:Nat} {m:Nat}:∀ d,m+d<=B.length->N B p m<=N B p (m+d)/\N B p (m+d)<=N B p m+d
 | 0,_=>⟨Xp _,Xp _⟩
 | d+1,h=>by
  have:=CK (B:=B) (p:=p) (m:=m) d (by omega)
  have e:=wy (B:=B) (p:=p) (q:=m+d) (by omega)
  have:cN p (B.getD (m+d) 0)<=1:=by unfold cN;split <;> omega
  rw [show m+(d+1)=m+d+1 by omega,e]
  omega
theorem T8 {B:List Nat} {p q m:Nat} (hq:q<=B.length) (hm:m<=B.length):N B p q<=N B p m+(q - m):=by
 by_cases h:m<=q
 ·have:=(CK (B:=B) (p:=p) (m:=m) (q - m) (by omega)).2
  rw [show m+(q - m)=q by omega] at this
  exact this
 ·have:=(CK (B:=B) (p:=p) (m:=q) (m - q) (by omega)).1
  rw [show q+(m - q)=m by omega] at this
  omega
def Mp (n:Nat) (A B C:List Nat):Prop:=∀ p q,p<=n->q<=n->(∀ m,m<=n->N A p q<=N B p m+N C m q)/\∃ m,m<=n/\N A p q=N B p m+N C m q
theorem Ov {E:List Nat} {n:Nat} (hl:E.length=n):Mp n E E (List.range n):=fun p q hp hq=>by
 refine ⟨fun m hm=>?_,q,hq,?_⟩
 ·rw [yR n m q hq]
  exact T8 (by omega) (by omega)
 ·rw [yR n q q hq];omega
theorem CN {E:List Nat} {n:Nat} {s:List Nat} (hl:E.length=n) (hs:∀ p∈s,p+1 < n):∀ k,k<=s.length->Mp n (bK E (s.take k)) E (bK (List.range n) (s.take k))
 | 0,_=>by rw [List.take_zero];exact Ov hl
 | k+1,hk=>by
  have ih:=CN hl hs k (by omega)
  have hi:s.getD k 0+1 < n:=hs _ (X3 (getD_some (by omega)))
  rw [tQ (by omega),mH,mH]
  have l1:(bK E (s.take k)).length=n:=by rw [jC];exact hl
  have l2:(bK (List.range n) (s.take k)).length=n:=by rw [jC];simp
  generalize bK E (s.take k)=F at ih l1
  generalize bK (List.range n) (s.take k)=D at ih l2
  generalize s.getD k 0=i at hi
  intro p q hp hq
  rw [Kz (by omega)]
  have st:∀ m,N (bA D i) m q=if q=i+1 then min (N D m i+1) (N D m (i+2)) else N D m q:=fun m=>Kz (by omega) m q
  by_cases h1:q=i+1
  ·subst h1
   rw [if_pos rfl]
   obtain ⟨a1,m1,b1,c1⟩:=ih p i hp (by omega)
   obtain ⟨a2,m2,b2,c2⟩:=ih p (i+2) hp (by omega)
   refine ⟨fun m hm=>?_,?_⟩
   ·rw [st m,if_pos rfl]
    have:=a1 m hm
    have:=a2 m hm
    omega
   ·by_cases hc:N F p i+1<=N F p (i+2)
    ·refine ⟨m1,b1,?_⟩
     rw [st m1,if_pos rfl]
     have:=a2 m1 b1
     omega
    ·refine ⟨m2,b2,?_⟩
     rw [st m2,if_pos rfl]
     have:=a1 m2 b2
     omega
  ·rw [if_neg h1]
   obtain ⟨a1,m1,b1,c1⟩:=ih p q hp hq
   refine ⟨fun m hm=>?_,m1,b1,?_⟩
   ·rw [st m,if_neg h1];exact a1 m hm
   ·rw [st m1,if_neg h1];exact c1
theorem QK {n:Nat} {A A' B C:List Nat} (h:Mp n A B C) (h':Mp n A' B C) {p q:Nat} (hp:p<=n) (hq:q<=n):N A p q<=N A' p q:=by
 obtain ⟨m,hm,e⟩:=(h' p q hp hq).2
 rw [e]
 exact (h p q hp hq).1 m hm
structure Pn (n:Nat) (A:List Nat):Prop where
 len:A.length=n
 lt:∀ x∈A,x < n
theorem Prm.pn {t:List Nat} {n:Nat} (h:Prm t) (hn:t.length=n):Pn n t:=⟨hn,fun x hx=>by rw [← hn];exact h.lt hx⟩
theorem Ha {n:Nat} {A A' B C:List Nat} (a:Pn n A) (a':Pn n A') (h:Mp n A B C) (h':Mp n A' B C):A=A':=
 Ww a.len a'.len a.lt a'.lt fun p q hp hq=>Nat.le_antisymm (QK h h' hp hq) (QK h' h hp hq)
theorem En {t:List Nat} (h:Prm t) {i:Nat} (hi:i < t.length):(inv t).getD (t.getD i 0) 0=i:=by
 have hx:=h.lt (X3 (getD_some hi))
 rw [jm hx]
 exact ik h.nd (getD_some hi)
def lay (x y:List Nat):List Nat:=inv (bK (inv x) (G9 y).reverse)
structure Two (n:Nat) (x y:List Nat):Prop where
 px:Prm x
 py:Prm y
 lx:x.length=n
 ly:y.length=n
theorem Two.lt {n:Nat} {x y:List Nat} (h:Two n x y):∀ p∈(G9 y).reverse,p+1 < n:=fun p hp=>by
 have:=(CJ h.py).lt p (List.mem_reverse.mp hp)
 rw [h.ly] at this
 exact this
theorem KC {E ps:List Nat} (h:Prm E) (hp:∀ p∈ps,p+1 < E.length):Prm (bK E ps):=by
 have hl:=jC E ps
 refine ⟨by rw [hl];exact h.le,?_⟩
 rw [hl]
 exact (pK hp).trans h.pm
theorem Two.run {n:Nat} {x y:List Nat} (h:Two n x y):Prm (bK (inv x) (G9 y).reverse)/\(bK (inv x) (G9 y).reverse).length=n:=
 ⟨KC (lE h.px) fun p hp=>by rw [bz,h.lx];exact h.lt p hp,by rw [jC,bz,h.lx]⟩
theorem Two.lay {n:Nat} {x y:List Nat} (h:Two n x y):Prm (lay x y)/\(lay x y).length=n/\Mp n (inv (lay x y)) (inv x) (inv y):=by
 obtain ⟨hP,hl⟩:=h.run
 unfold My.lay
 refine ⟨lE hP,by rw [bz];exact hl,?_⟩
 rw [pL hP]
 have:=CN (E:=inv x) (n:=n) (s:=(G9 y).reverse) (by rw [bz,h.lx]) h.lt (G9 y).reverse.length (Xp _)
 rw [Y0] at this
 have e:=(CJ h.py).back
 rw [h.ly] at e
 rw [e] at this
 exact this
def rs (m:Nat) (e:Nat->Nat->Bool) (far i:Nat):List Nat:=(List.range far).flatMap fun j=>if e i j=true then [] else [m - 1 - i+j]
def al (m far:Nat) (e:Nat->Nat->Bool) (n:Nat):List Nat:=(List.range n).flatMap fun i=>rs m e far i
def Dn (n:Nat) (ps:List Nat):List Nat:=bK (List.range n) ps
theorem Eo (E a b:List Nat):bK E (a ++ b)=bK (bK E a) b:=by unfold bK;rw [List.foldl_append]
theorem tV {n:Nat} {ps:List Nat} (h:n<=96) (hp:∀ p∈ps,p+1 < n):Prm (Dn n ps):=Em h hp
theorem qF (n:Nat) (ps:List Nat):(Dn n ps).length=n:=by unfold Dn;rw [jC];simp
theorem Wx {n:Nat} {a b:List Nat} (hb:∀ p∈b,p+1 < n):Mp n (Dn n (a ++ b)) (Dn n a) (Dn n b):=by
 have:=CN (E:=Dn n a) (n:=n) (s:=b) (qF n a) hb b.length (Xp _)
 rw [Y0] at this
 unfold Dn at this ⊢
 rw [Eo]
 exact this
theorem iH {α β:Type} {f g:α->List β}:∀ {l:List α},(∀ x∈l,f x=g x)->l.flatMap f=l.flatMap g
 | [],_=>rfl
 | x :: l,h=>by rw [List.flatMap_cons,List.flatMap_cons,h x (by simp),iH fun y hy=>h y (by simp [hy])]
theorem CP {m far n:Nat} {e:Nat->Nat->Bool} {p:Nat} (hp:p∈al m far e n):∃ i j,i < n/\j < far/\p=m - 1 - i+j:=by
 unfold al rs at hp
 obtain ⟨i,hi,h⟩:=List.mem_flatMap.mp hp
 obtain ⟨j,hj,h⟩:=List.mem_flatMap.mp h
 refine ⟨i,j,XJ.mp hi,XJ.mp hj,?_⟩
 split at h
 ·cases h
 ·exact Yn.mp h
theorem wz {m far:Nat} {e:Nat->Nat->Bool}:∀ p∈al m far e m,p+1 < m+far:=fun p hp=>by
 obtain ⟨i,j,hi,hj,rfl⟩:=CP hp
 omega
theorem KD {A E B:List Nat} {k p:Nat} (h:p+1 < E.length):bA (A ++ (E.map (k+ ·) ++ B)) (A.length+p)=A ++ ((bA E p).map (k+ ·) ++ B):=by
 have g:∀ i,i < E.length->(A ++ (E.map (k+ ·) ++ B)).getD (A.length+i) 0=k+E.getD i 0:=fun i hi=>by
  rw [Xl,X5 (by omega),Zn,X8 (by simpa using hi),Xw,getD_some hi];rfl
 have w:uG (A ++ (E.map (k+ ·) ++ B)) (A.length+p)=uG E p:=by
  unfold uG
  rw [g p (by omega),Nat.add_assoc,g (p+1) h]
  exact decide_eq_decide.mpr (by omega)
 unfold bA
 rw [w]
 split
 ·rw [g p (by omega),Nat.add_assoc,g (p+1) h]
  have st:∀ (M:List Nat) (x i:Nat),i < M.length->(A ++ (M ++ B)).set (A.length+i) x=A ++ (M.set i x ++ B):=fun M x i hi=>by
   rw [List.set_append_right _ _ (by omega),Zn,List.set_append_left _ _ hi]
  rw [st _ _ p (by rw [Xu];omega),st _ _ (p+1) (by rw [List.length_set,Xu];omega),List.map_set,List.map_set]
 ·rfl
theorem yS {A B:List Nat} {k:Nat}:∀ {ps E:List Nat},(∀ p∈ps,p+1 < E.length)->bK (A ++ (E.map (k+ ·) ++ B)) (ps.map (A.length+ ·))=A ++ ((bK E ps).map (k+ ·) ++ B)
 | [],_,_=>rfl
 | p :: ps,E,h=>by
  show bK (bA _ (A.length+p)) (ps.map (A.length+ ·))=_
  rw [KD (h p (by simp))]
  exact yS (ps:=ps) (E:=bA E p) fun q hq=>by rw [pJ];exact h q (by simp [hq])
theorem T9 {k n:Nat} {ps:List Nat} (h:∀ p∈ps,p+1 < n):Dn (k+n) (ps.map (k+ ·))=List.range k ++ (Dn n ps).map (k+ ·):=by
 have:=yS (A:=List.range k) (B:=[]) (k:=k) (ps:=ps) (E:=List.range n) (fun p hp=>by simpa using h p hp)
 rw [YG,YG,ZD,← Zv] at this
 exact this
theorem Ow {n r:Nat} {ps:List Nat} (h:∀ p∈ps,p+1 < n):Dn (n+r) ps=Dn n ps ++ (List.range r).map (n+ ·):=by
 have:=yS (A:=[]) (B:=(List.range r).map (n+ ·)) (k:=0) (ps:=ps) (E:=List.range n) (fun p hp=>by simpa using h p hp)
 have z:∀ l:List Nat,l.map (0+ ·)=l:=fun l=>by simp
 simp only [List.nil_append,Zb,z] at this
 unfold Dn
 rw [Zv]
 exact this
theorem Ox {k:Nat} {G:List Nat} (hG:Prm G) (hk:k+G.length<=96):inv (List.range k ++ G.map (k+ ·))=List.range k ++ (inv G).map (k+ ·):=by
 have pm:Prm (List.range k ++ G.map (k+ ·)):=by
  have hl:(List.range k ++ G.map (k+ ·)).length=k+G.length:=by simp
  refine ⟨by omega,?_⟩
  rw [hl,Zv]
  exact Zw _ (hG.pm.map _)
 refine (wj pm (by simp [bz]) fun i x e=>?_).symm
 by_cases hi:i < k
 ·rw [X8 (by simpa using hi),X4 hi] at e
  obtain rfl:i=x:=XS e
  rw [X8 (by simpa using hi),X4 hi]
 ·rw [X5 (by simp;omega),ZD,Xw] at e
  obtain ⟨y,hy,rfl⟩:=ZS.mp e
  have yl:y < G.length:=hG.lt (X3 hy)
  rw [X5 (by simp),ZD,Zn,Xw,getD_some (by rw [bz];exact yl),jm yl,ik hG.nd hy]
  show some (k+(i - k))=some i
  rw [Nat.add_sub_cancel' (by omega)]
theorem KH {r:Nat} {G:List Nat} (hG:Prm G) (hk:G.length+r<=96):inv (G ++ (List.range r).map (G.length+ ·))=inv G ++ (List.range r).map (G.length+ ·):=by
 have pm:Prm (G ++ (List.range r).map (G.length+ ·)):=by
  have hl:(G ++ (List.range r).map (G.length+ ·)).length=G.length+r:=by simp
  refine ⟨by omega,?_⟩
  rw [hl,Zv]
  exact hG.pm.append_right _
 refine (wj pm (by simp [bz]) fun i x e=>?_).symm
 by_cases hi:i < G.length
 ·rw [X8 hi] at e
  have yl:x < G.length:=hG.lt (X3 e)
  rw [X8 (by rw [bz];exact yl),getD_some (by rw [bz];exact yl),jm yl,ik hG.nd e]
 ·rw [X5 (by omega),Xw] at e
  obtain ⟨y,hy,rfl⟩:=ZS.mp e
  obtain ⟨h1,h2⟩:=Xn.mp hy
  rw [List.getElem_range] at h2
  rw [ZD] at h1
  subst h2
  rw [X5 (by rw [bz];omega),bz,Zn,Xw,X4 h1]
  show some (G.length+(i - G.length))=some i
  rw [Nat.add_sub_cancel' (by omega)]
theorem step_get {E:List Nat} {q i:Nat} (h:i < q\/q+1 < i):(bA E q).getD i 0=E.getD i 0:=by
 unfold bA
 split
 ·rw [Xl,Yd (by omega),Yd (by omega),← Xl]
 ·rfl
def LN (m far:Nat) (e:Nat->Nat->Bool):List Nat:=inv (Dn (m+far) (al m far e m))
theorem mU (m far:Nat) (e:Nat->Nat->Bool):(LN m far e).length=m+far:=by unfold LN;rw [bz,qF]
theorem KJ {m far:Nat} {e:Nat->Nat->Bool} (h:m+far<=96):Prm (LN m far e):=lE (tV h wz)
theorem Oz (mu ml far:Nat) (e:Nat->Nat->Bool):al (mu+ml) far e (mu+ml)=(al mu far e mu).map (ml+ ·) ++ al ml far (fun i j=>e (mu+i) j) ml:=by
 unfold al
 rw [Zv,List.flatMap_append,List.flatMap_map,List.map_flatMap]
 congr 1
 ·refine iH fun i hi=>?_
  have hi:=XJ.mp hi
  unfold rs
  rw [List.map_flatMap]
  refine iH fun j hj=>?_
  split
  ·rfl
  ·show [mu+ml - 1 - i+j]=[ml+(mu - 1 - i+j)];congr 1;omega
 ·refine iH fun i hi=>?_
  have hi:=XJ.mp hi
  unfold rs
  refine iH fun j hj=>?_
  show (if e (mu+i) j=true then [] else [mu+ml - 1 - (mu+i)+j])=_
  rw [show mu+ml - 1 - (mu+i)+j=ml - 1 - i+j by omega]
theorem Hb {n:Nat} {a b:List Nat} (h:n<=96) (ha:∀ p∈a,p+1 < n) (hb:∀ p∈b,p+1 < n):lay (inv (Dn n a)) (inv (Dn n b))=inv (Dn n (a ++ b)):=by
 have pa:=tV h ha
 have pb:=tV h hb
 have pab:Prm (Dn n (a ++ b)):=tV h fun p hp=>(Yz.mp hp).elim (ha p) (hb p)
 have T:Two n (inv (Dn n a)) (inv (Dn n b)):=⟨lE pa,lE pb,by rw [bz,qF],by rw [bz,qF]⟩
 obtain ⟨p1,l1,m1⟩:=T.lay
 rw [pL pa,pL pb] at m1
 have e:=Ha ((lE p1).pn (by rw [bz];exact l1)) (pab.pn (qF _ _)) m1 (Wx hb)
 rw [← e,pL p1]
theorem KN {mu ml far:Nat} {e:Nat->Nat->Bool} (h:mu+ml+far<=96):
  lay (List.range ml ++ (LN mu far e).map (ml+ ·)) (LN ml far (fun i j=>e (mu+i) j) ++ (List.range mu).map (ml+far+ ·))=LN (mu+ml) far e:=by
 have p1:=tV (n:=mu+far) (by omega) (wz (m:=mu) (far:=far) (e:=e))
 have p2:=tV (n:=ml+far) (by omega) (wz (m:=ml) (far:=far) (e:=fun i j=>e (mu+i) j))
 have l2:=qF (ml+far) (al ml far (fun i j=>e (mu+i) j) ml)
 have e1:List.range ml ++ (LN mu far e).map (ml+ ·)=inv (Dn (mu+ml+far) ((al mu far e mu).map (ml+ ·))):=by
  rw [show mu+ml+far=ml+(mu+far) by omega,T9 wz,Ox p1 (by rw [qF];omega)];rfl
 have e2:LN ml far (fun i j=>e (mu+i) j) ++ (List.range mu).map (ml+far+ ·)=inv (Dn (mu+ml+far) (al ml far (fun i j=>e (mu+i) j) ml)):=by
  have:=KH (r:=mu) p2 (by rw [l2];omega)
  rw [l2] at this
  rw [show mu+ml+far=(ml+far)+mu by omega,Ow wz,this];rfl
 rw [e1,e2,Hb h,← Oz]
 ·rfl
 ·intro p hp
  obtain ⟨q,hq,rfl⟩:=Yr.mp hp
  have:=wz q hq
  omega
 ·intro p hp
  have:=wz p hp
  omega
theorem OD (m far:Nat) (e:Nat->Nat->Bool) (n:Nat):al m far e (n+1)=al m far e n ++ rs m e far n:=by
 unfold al
 rw [YX,List.flatMap_append]
 simp
def top (i:Nat):Stmt:=PySem.Challenge.pw_panethread_k56_rows_by_deeds.main.body.getD i (.Pass ⟨0,0,0,0⟩)
abbrev oO:Stmt:=top 15
abbrev oR:Stmt:=top 16
abbrev oU:Stmt:=top 17
abbrev tW:Stmt:=top 18
abbrev mV:Stmt:=top 20
abbrev oV:Stmt:=top 22
abbrev sy:Stmt:=top 24
abbrev qG:Stmt:=top 25
abbrev oW:Stmt:=top 26
abbrev jz:Stmt:=top 30
abbrev jX:Stmt:=top 31
abbrev qH:Stmt:=top 32
abbrev qI:Stmt:=top 33
abbrev tX:Stmt:=top 34
abbrev mW:Stmt:=top 35
abbrev pM:Stmt:=top 36
abbrev mX:Stmt:=top 39
abbrev jY:Stmt:=top 40
abbrev qJ:Stmt:=top 41
abbrev qK:Stmt:=top 42
abbrev qL:Stmt:=top 44
abbrev qM:Stmt:=top 45
abbrev mY:Stmt:=top 46
abbrev CQ:Stmt:=top 47
abbrev jO:Stmt:=top 49
abbrev qN:Stmt:=top 56
abbrev oX:Stmt:=top 57
abbrev lH:Stmt:=top 58
abbrev pN:Stmt:=top 59
abbrev pO:Stmt:=top 60
abbrev pP:Stmt:=top 61
abbrev qO:Stmt:=top 62
abbrev mZ:Stmt:=top 63
abbrev Af:Stmt:=top 64
abbrev jn:Stmt:=iT 0 (top 37)
abbrev lV:Stmt:=iT 3 (top 37)
abbrev fG:Stmt:=iT 0 (top 51)
abbrev jF:Stmt:=iT 0 (top 54)
abbrev oY:Stmt:=iT 1 (top 54)
abbrev qP:Stmt:=iT 2 (top 54)
abbrev jf:Stmt:=iT 11 (top 54)
abbrev jg:Stmt:=iT 12 (top 54)
abbrev lW:Stmt:=iT 13 (top 54)
abbrev m5:Stmt:=iT 14 (top 54)
abbrev lX:Stmt:=iT 15 (top 54)
abbrev iI:Stmt:=iT 16 (top 54)
abbrev jo:Stmt:=iT 17 (top 54)
abbrev jG:Stmt:=iT 18 (top 54)
abbrev jZ:Stmt:=iT 19 (top 54)
abbrev iJ:Stmt:=iT 20 (top 54)
abbrev qQ:Stmt:=iT 21 (top 54)
abbrev oZ:Stmt:=iT 22 (top 54)
abbrev lY:Stmt:=iT 23 (top 54)
abbrev m6:Stmt:=iT 24 (top 54)
abbrev Ep:Stmt:=initOf (top 3)
abbrev wB:Stmt:=initOf (top 4)
abbrev mJ:Stmt:=initOf (top 5)
abbrev Ag:Stmt:=initOf (top 6)
abbrev uH:Stmt:=initOf (top 7)
abbrev Ah:Stmt:=initOf (top 8)
abbrev mK:Stmt:=initOf (top 9)
local macro_rules | `(tactic| walk_at "s") => `(tactic| (with_reducible repeat (first | refine ou ?_ | walk_at "0")))
local macro_rules | `(tactic| walk_at "n") => `(tactic| (with_reducible repeat (walk_at "0")))
structure Txt (K:W.Frag) (mg:Str->Option Value):Prop where
 b_all:mg "all"=none
 b_bool:mg "bool"=none
 b_enumerate:mg "enumerate"=none
 b_int:mg "int"=none
 b_isinstance:mg "isinstance"=none
 b_len:mg "len"=none
 b_list:mg "list"=none
 b_max:mg "max"=none
 b_min:mg "min"=none
 b_range:mg "range"=none
 b_reversed:mg "reversed"=none
 b_str:mg "str"=none
 b_sum:mg "sum"=none
 b_tuple:mg "tuple"=none
 b_zip:mg "zip"=none
 c_CROSS:∃ t,mg "CROSS"=some (.str "x" t)
 c_LETTERS:∃ t,mg "LETTERS"=some (.str "abcdefghijklmnopqrstuvwxyz" t)
 c_MOST_LINES:∃ t,mg "MOST_LINES"=some (.int 96 t)
 c_MOST_SIGNS:∃ t,mg "MOST_SIGNS"=some (.int 48 t)
 c_POINT:∃ t,mg "POINT"=some (.str "." t)
 c_TOUCH:∃ t,mg "TOUCH"=some (.str "o" t)
 d_is_number:fQ K mg "is_number" oO
 d_is_within:fQ K mg "is_within" oR
 d_is_letter:fQ K mg "is_letter" oU
 d_is_sign:fQ K mg "is_sign" tW
 d_need_place:fQ K mg "need_place" mV
 d_need_sign:fQ K mg "need_sign" oV
 d_is_row:fQ K mg "is_row" sy
 d_need_row:fQ K mg "need_row" qG
 d_need_rows:fQ K mg "need_rows" oW
 d_lines_above:fQ K mg "lines_above" jz
 d_signs_of_row:fQ K mg "signs_of_row" jX
 d_over_row:fQ K mg "over_row" qH
 d_cells_of:fQ K mg "cells_of" qI
 d_ends_of:fQ K mg "ends_of" tX
 d_over_cells:fQ K mg "over_cells" mW
 d_ways_of:fQ K mg "ways_of" pM
 d_is_turning:fQ K mg "is_turning" mX
 d_need_turning:fQ K mg "need_turning" jY
 d_straight:fQ K mg "straight" qJ
 d_opposite:fQ K mg "opposite" qK
 d_do_steps:fQ K mg "do_steps" qL
 d_steps_of:fQ K mg "steps_of" qM
 d_need_alike:fQ K mg "need_alike" mY
 d_laid:fQ K mg "laid" CQ
 d_lines_over:fQ K mg "lines_over" jO
 d_law_cell:fQ K mg "_law_cell" qN
 d_law_drawn:fQ K mg "_law_drawn" oX
 d_law_signs:fQ K mg "_law_signs" lH
 d_law_row:fQ K mg "_law_row" pN
 d_law_put:fQ K mg "_law_put" pO
 d_law_out:fQ K mg "_law_out" pP
 d_law_done:fQ K mg "_law_done" qO
 d_law_stands:fQ K mg "_law_stands" mZ
 d_law:fQ K mg "law" Af
 x_NoRow:p6 K mg "NoRow" ["found"] "NoRow.__init__" Ep
 x_NoLetter:p6 K mg "NoLetter" ["found"] "NoLetter.__init__" wB
 x_NoPlace:p6 K mg "NoPlace" ["found"] "NoPlace.__init__" mJ
 x_NoSpan:p6 K mg "NoSpan" ["begin","end"] "NoSpan.__init__" Ag
 x_NoTurning:p6 K mg "NoTurning" ["found"] "NoTurning.__init__" uH
 x_Unlike:p6 K mg "Unlike" ["one","other"] "Unlike.__init__" Ah
 x_TooLong:p6 K mg "TooLong" ["found"] "TooLong.__init__" mK
 o_Board:uT K mg "Board"
 n_Board:∀ f∈(["held_side","held_top","held_cells","held_coming","held_lines","held_ways"]:List Str),NoAttr K (aM mg "Board") f
 o_Node:uT K mg "Node"
 n_Node:∀ f∈(["mark","held_lines","halves","many","tall"]:List Str),NoAttr K (aM mg "Node") f
 o_Kept:uT K mg "Kept"
 n_Kept:∀ f∈(["held_side","held_top","last_mark","mark_before","held_root"]:List Str),NoAttr K (aM mg "Kept") f
 m_Board___init__:eU K mg "Board" "__init__" "Board.__init__" jn
 m_Board_lines:eU K mg "Board" "lines" "Board.lines" lV
 m_Node___init__:eU K mg "Node" "__init__" "Node.__init__" fG
 m_Kept___init__:eU K mg "Kept" "__init__" "Kept.__init__" jF
 m_Kept_side:eU K mg "Kept" "side" "Kept.side" oY
 m_Kept_top:eU K mg "Kept" "top" "Kept.top" qP
 m_Kept_fresh_mark:eU K mg "Kept" "fresh_mark" "Kept.fresh_mark" jf
 m_Kept_strip_node:eU K mg "Kept" "strip_node" "Kept.strip_node" jg
 m_Kept_joined:eU K mg "Kept" "joined" "Kept.joined" lW
 m_Kept_built:eU K mg "Kept" "built" "Kept.built" m5
 m_Kept_evened:eU K mg "Kept" "evened" "Kept.evened" lX
 m_Kept_evened_down:eU K mg "Kept" "evened_down" "Kept.evened_down" iI
 m_Kept_evened_up:eU K mg "Kept" "evened_up" "Kept.evened_up" jo
 m_Kept_with_put:eU K mg "Kept" "with_put" "Kept.with_put" jG
 m_Kept_without:eU K mg "Kept" "without" "Kept.without" jZ
 m_Kept_with_change:eU K mg "Kept" "with_change" "Kept.with_change" iJ
 m_Kept_put:eU K mg "Kept" "put" "Kept.put" qQ
 m_Kept_drop:eU K mg "Kept" "drop" "Kept.drop" oZ
 m_Kept_change:eU K mg "Kept" "change" "Kept.change" lY
 m_Kept_retop:eU K mg "Kept" "retop" "Kept.retop" m6
 u_NoPlace_NoPlace:Sub K mg "NoPlace" "NoPlace" true
 u_NoPlace_TooLong:Sub K mg "NoPlace" "TooLong" false
 u_TooLong_NoPlace:Sub K mg "TooLong" "NoPlace" false
 u_TooLong_TooLong:Sub K mg "TooLong" "TooLong" true
def Kd (K:W.Frag) (H:Hp) (v:V):Prop:=(∃ n,v= .int n)\/(∃ b,v= .bl b)\/∃ T,TyOf K H v (.type T)/\PySem.W.kitOne K (.type T) (.type "int")=some false
theorem Kd.same {K:W.Frag} {H H':Hp} {v:V} (h:Kd K H v) (s:Same H H'):Kd K H' v:=by
 rcases h with h | h | ⟨T,a,c⟩
 ·exact .inl h
 ·exact .inr (.inl h)
 ·exact .inr (.inr ⟨T,a.mono fun b o e _=>s b o e,c⟩)
def Wy:V->Bool
 | .int _=>true
 | _=>false
def inB (v:V) (lo hi:Int):Bool:=match v with
 | .int n=>decide (lo<=n) && decide (n<=hi)
 | _=>false
section
variable {P:Program} {w:World} {K:W.Frag} {mg:Str->Option Value} {base:Heap}
theorem uU:U7 mJ "self":=by trivial
theorem tY:U7 mJ "found":=by trivial
theorem Same.put {H H':Hp} {p:Addr} {o:HO} (s:Same H H') (hn:H p=none):Same H (upd H' p o):=fun b u e=>by
 rw [aC (fun z=>by rw [z,hn] at e;cases e)]
 exact s b u e
theorem Same.back {H H':Hp} {p:Addr} (s:Same H H') (h:H' p=none):H p=none:=by
 cases e:H p with
 | none=>rfl
 | some o=>rw [s _ _ e] at h;cases h
theorem Ua {H:Hp} {v:V} {T:String} (h:TyOf K H v (.type T)) (k:PySem.W.kitOne K (.type T) (.type "int")=some false):Wy v=false/\∀ lo hi,inB v lo hi=false:=by
 cases v with
 | int z=>
  cases h
  have:PySem.W.kitOne K (.type "int") (.type "int")=some true:=rfl
  rw [this] at k;cases k
 | _=>exact ⟨rfl,fun _ _=>rfl⟩
theorem Ai:aD ["self","found"] ["self","found"] (az mJ):=⟨rfl,rfl,rfl,by trivial,rfl,by trivial,by trivial⟩
theorem CT (T:Txt K mg):U0 P w K mg base 1 "NoPlace" (aM mg "NoPlace") ["found"]:=mkX T.x_NoPlace Ai (fun _ _ _ _ _ _ us hl=>L2.nP (fun _ _=>rfl) us hl) rfl fun f cdv A outer s H vs Q E hr h=>⟨_,(aA (Ek (K:=K) rfl (Jt 0 uU) (Jt 1 tY))),rd1 T.x_NoPlace.c.cl.cls (T.x_NoPlace.na _ (by simp)) h⟩
def KQ (K:W.Frag):Sp:=fun vs H Q _=>∃ v:V,vs=[v]/\Kd K H v/\Q (.bl (Wy v)) H
theorem yU:aD ["thing"] ["thing"] (az oO):=⟨rfl,rfl,rfl,by trivial,rfl,by trivial,by trivial⟩
theorem o4 (T:Txt K mg):nQ P w K mg base 1 "is_number" ["thing"] (KQ K):=by
 refine ir T.d_is_number yU (fun _ _ _ _ _ _ us hl=>L2.nY (fun _=>rfl) us hl) ?_ fun f cdv A outer s H vs Q E hr h=>?_
 ·rintro vs H Q E ⟨v,rfl,_⟩;rfl
 obtain ⟨v,rfl,hT,q⟩:=h
 have hu:=hr.units0
 have hu64:=hr.units
 refine ⟨_,(aA (aJ (oE (aL (jk (K:=K) rfl) bc T.b_isinstance cL (aa (ak 0) (aa (yE bc T.b_int SQ (by trivial) (by trivial)) ao)) (by trivial) (by trivial)) (rU (V2 (aL (jk (K:=K) rfl) bc T.b_isinstance cL (aa (ak 0) (aa (yE bc T.b_bool Ny (by trivial) (by trivial)) ao)) (by trivial) (by trivial))))))),?_⟩
 walk_at "s"
 rcases hT with ⟨n,rfl⟩ | ⟨b,rfl⟩ | ⟨T',hty,hk⟩
 ·refine oA (.int _) rfl ?_
  walk_at "s"
  refine oA (.int _) rfl ?_
  walk_at "s"
  exact q
 ·refine oA (.bl _) (b:=true) (by rfl) ?_
  walk_at "s"
  refine oA (.bl _) (b:=true) (by rfl) ?_
  walk_at "s"
  exact q
 ·refine oA hty hk ?_
  walk_at "s"
  rw [(Ua hty hk).1] at q
  exact q
def KR (K:W.Frag):Sp:=fun vs H Q _=>∃ (v:V) (lo hi:Int),vs=[v,.int lo,.int hi]/\Kd K H v/\Q (.bl (inB v lo hi)) H
theorem yV:aD ["thing","low","high"] ["thing","low","high"] (az oR):=⟨rfl,rfl,rfl,by trivial,rfl,by trivial,by trivial⟩
theorem iU (T:Txt K mg):nQ P w K mg base 2 "is_within" ["thing","low","high"] (KR K):=by
 have o4:=o4 (P:=P) (w:=w) (base:=base) T
 refine ir T.d_is_within yV (fun _ _ _ _ _ _ us hl=>L2.pZ (fun _ _ _=>rfl) us hl) ?_ fun f cdv A outer s H vs Q E hr h=>?_
 ·rintro vs H Q E ⟨v,lo,hi,rfl,_⟩;rfl
 obtain ⟨v,lo,hi,rfl,hT,q⟩:=h
 have hu:=hr.units0
 have hu64:=hr.units
 refine ⟨_,(aA (aJ (oE (aO o4 (hr.mono (by decide)) bc (aa (ak 0) ao) (by trivial)) (rU (NQ Ig Ig (ak 1) (ak 0) (ak 2)))))),?_⟩
 walk_at "s"
 refine ⟨v,rfl,hT,?_⟩
 walk_at "s"
 cases v with
 | int n=>
  show if true=true then _ else _
  walk_at "s"
  show if decide (lo<=n)=true then _ else _
  unfold inB at q
  dsimp only at q
  by_cases h:lo<=n
  ·rw [Xq h] at q ⊢
   rw [Bool.true_and] at q
   walk_at "s"
   exact q
  ·rw [XF h] at q ⊢
   rw [Bool.false_and] at q
   walk_at "s"
   exact q
 | _=>exact q
def Er (K:W.Frag) (mg:Str->Option Value):Sp:=fun vs H Q E=>∃ (v:V) (lo hi:Int),vs=[v,.int lo,.int hi]/\Kd K H v/\(inB v lo hi=true->Q .non H)/\
 (inB v lo hi=false->∀ e H',Same H H'->Ma H' e (aM mg "NoPlace") [("found",v)]->E (.ref (aM mg "NoPlace")) (some e) H')
theorem wZ:aD ["thing","low","high"] ["thing","low","high"] (az mV):=⟨rfl,rfl,rfl,by trivial,rfl,by trivial,by trivial⟩
theorem bI (T:Txt K mg):N8 P w K mg base 3 "need_place" ["thing","low","high"] (Er K mg):=by
 have iU:=iU (P:=P) (w:=w) (base:=base) T
 refine Wi T.d_need_place wZ (fun _ _ _ _ _ _ us hl=>L2.pZ (fun _ _ _=>rfl) us hl) ?_ fun f cdv A outer s H vs Q E hr h=>?_
 ·rintro vs H Q E ⟨v,lo,hi,rfl,_⟩;rfl
 obtain ⟨v,lo,hi,rfl,hT,q1,q2⟩:=h
 have hu:=hr.units0
 have hu64:=hr.units
 refine ⟨_,(aA (bZ (iC (jE (aO iU (hr.mono (by decide)) bc (aa (ak 0) (aa (ak 1) (aa (ak 2) ao))) (by trivial)))) (aA (z9 (CT (P:=P) (w:=w) (base:=base) T) (hr.mono (by decide)) rfl bc aG (aa (ak 0) ao) (by trivial))) bJ)),?_⟩
 walk_at "s"
 refine ⟨v,lo,hi,rfl,hT,?_⟩
 walk_at "s"
 cases hb:inB v lo hi with
 | true=>
  walk_at "s"
  exact q1 hb
 | false=>
  walk_at "s"
  exact ⟨rfl,(show 1<=sizeLine by decide),fun x H2 S2 X2=>q2 hb x H2 S2 X2⟩
theorem KY (i j:Int):decide (V.int i=V.int j)=decide (i=j):=decide_eq_decide.mpr ⟨fun h=>V.int.inj h,fun h=>by rw [h]⟩
theorem cB (t:List Nat):((nI t).map V.int).length=t.length:=by unfold nI;rw [Xu,Xu]
theorem Wz {t:List Nat} {k i:Nat} (h:t[k]?=some i):((nI t).map V.int)[k]?=some (.int (i:Int)):=by unfold nI;rw [Xw,Xw,h];rfl
theorem KZ {t:List Nat} {k:Nat} {v:V} (h:((nI t).map V.int)[k]?=some v):∃ i,t[k]?=some i/\v= .int (i:Int):=by
 unfold nI at h
 rw [Xw,Xw] at h
 cases e:t[k]? with
 | none=>rw [e] at h;cases h
 | some y=>rw [e] at h;exact ⟨y,rfl,(XS h).symm⟩
theorem xX {t:List Nat} {k:Nat} {j:Int} (hk:k < t.length) (hj:j=(k:Int)):Hr ((nI t).map V.int) j=some (.int ((t.getD k 0:Nat):Int)):=by
 subst hj
 refine cH (Wz ?_)
 rw [Xl,Xk hk];rfl
theorem wC (t:List Nat) (k x:Nat):((nI t).map V.int).set k (.int (x:Int))=(nI (t.set k x)).map V.int:=by unfold nI;rw [List.map_set,List.map_set]
theorem sE (t:List Nat) (x:Nat):(nI t).map V.int ++ [.int (x:Int)]=(nI (t ++ [x])).map V.int:=by unfold nI;rw [XH,XH];rfl
theorem Aj {n p:Nat} {j:Int} (hj:j=(p:Int)) (h:p < n):FZ n j=some p:=by
 subst hj
 unfold FZ
 rw [if_pos (by omega),if_pos (by omega)]
 simp
theorem Ak {H:Hp} {Q:VK} {E:XK} {n lo hi:Int} (h1:lo<=n) (h2:n<=hi) (h:Q .non H):Er K mg [.int n,.int lo,.int hi] H Q E:=
 ⟨_,_,_,rfl,.inl ⟨_,rfl⟩,fun _=>h,fun hb=>by unfold inB at hb;simp at hb;omega⟩
def Tn (H:Hp) (a:Addr) (t:List Nat):Prop:=H a=some (.lst ((nI t).map V.int))\/H a=some (.tup ((nI t).map V.int))
def OJ (us:List V):Bool:=decide (us.length<=96) && (us.all fun u=>inB u 0 ((us.length:Int) - 1)) && decide us.Nodup
theorem Es {us:List V} (h:96 < us.length):OJ us=false:=by unfold OJ;rw [XF (by omega)];rfl
theorem K5 {us:List V} {u:V} (h:u∈us) (hb:inB u 0 ((us.length:Int) - 1)=false):OJ us=false:=by
 unfold OJ
 have:(us.all fun u=>inB u 0 ((us.length:Int) - 1))=false:=List.all_eq_false.mpr ⟨u,h,by rw [hb];simp⟩
 rw [this,Bool.and_false,Bool.false_and]
theorem K7 {us:List V} {k:Nat} {u:V} (h:us[k]?=some u) (hm:u∈us.take k):OJ us=false:=by
 have:¬ us.Nodup:=fun nd=>by
  obtain ⟨i,hi,e⟩:=Z3.mp hm
  obtain ⟨hk,e2⟩:=Xn.mp h
  rw [Yi] at hi
  rw [List.getElem_take] at e
  exact List.pairwise_iff_getElem.mp nd i k (by omega) hk (by omega) (e.trans e2.symm)
 unfold OJ
 rw [XF this,Bool.and_false]
theorem K8 {us:List V} (h:us.length<=96) (hin:∀ u∈us,inB u 0 ((us.length:Int) - 1)=true) (hnd:us.Nodup):OJ us=true:=by
 unfold OJ
 rw [Xq h,Xq hnd,Zi.mpr hin];rfl
theorem wD {us:List V} {v:V} (h:us.Nodup) (hm:v ∉ us):(us ++ [v]).Nodup:=by
 refine List.nodup_append.mpr ⟨h,by simp,fun a ha b hb=>?_⟩
 rw [Yn.mp hb]
 exact fun z=>hm (z ▸ ha)
theorem Et {v:V} {h:Int} (hb:inB v 0 h=true):∃ i:Nat,v= .int (i:Int)/\(i:Int)<=h:=by
 cases v with
 | int n=>
  unfold inB at hb
  simp at hb
  exact ⟨n.toNat,by rw [Yy hb.1],by omega⟩
 | _=>cases hb
def TnK (K:W.Frag) (H:Hp) (v:V) (b:Bool):Prop:=(∃ a us,v= .ref a/\(H a=some (.lst us)\/H a=some (.tup us))/\us.length<=10000/\(∀ u∈us,Kd K H u)/\b=OJ us)\/
 ∃ T,TyOf K H v (.type T)/\PySem.W.kitAny K (.type T) [.type "list",.type "tuple"]=some false/\b=false
theorem O1 {H:Hp} {a:Addr} {t:List Nat} (h:Tn H a t) (hP:Prm t):TnK K H (.ref a) true:=by
 have hle:=hP.le
 refine .inl ⟨a,_,rfl,h,by rw [cB];omega,fun u hu=>?_,?_⟩
 ·obtain ⟨x,_,rfl⟩:=Yr.mp hu
  exact .inl ⟨x,rfl⟩
 ·refine (K8 (by rw [cB];exact hle) (fun u hu=>?_) ?_).symm
  ·obtain ⟨x,hx,rfl⟩:=Yr.mp hu
   unfold nI at hx
   obtain ⟨y,hy,rfl⟩:=Yr.mp hx
   have:=hP.lt hy
   rw [cB]
   unfold inB
   simp;omega
  ·unfold nI List.Nodup
   rw [List.map_map,List.pairwise_map]
   exact hP.nd.imp fun {x y} h z=>h (by have e:((x:Nat):Int)=((y:Nat):Int):=V.int.inj z;omega)
def Ub (K:W.Frag):Sp:=fun vs H Q _=>∃ (v:V) (b:Bool),vs=[v]/\TnK K H v b/\∀ H',Same H H'->Q (.bl b) H'
theorem lZ:aD ["thing","seen","end"] ["thing"] (az mX):=⟨rfl,rfl,rfl,by trivial,rfl,by trivial,by trivial⟩
theorem m7 (T:Txt K mg):nQ P w K mg base 3 "is_turning" ["thing"] (Ub K):=by
 have iU:=iU (P:=P) (w:=w) (base:=base) T
 refine ir T.d_is_turning lZ (fun _ _ _ _ _ _ us hl=>L2.nY (fun _=>rfl) us hl) ?_ fun f cdv A outer s H vs Q E hr h=>?_
 ·rintro vs H Q E ⟨v,bb,rfl,_⟩;rfl
 obtain ⟨v,bb,rfl,h,q⟩:=h
 have hu:=hr.units0
 have hu64:=hr.units
 refine ⟨_,(aq (bZ (uA (xQ (iC (jE (aL (Gx (K:=K) rfl) bc T.b_isinstance cL (aa (ak 0) (aa (uB (aa (yE bc T.b_list rQ (by trivial) (by trivial)) (aa (yE bc T.b_tuple Jp (by trivial) (by trivial)) ao))) ao)) (by trivial) (by trivial)))) (tH (bB vo (aL (aK (K:=K) rfl) bc T.b_len bj (aa (ak 0) ao) (by trivial) (by trivial)) (yD bc T.c_MOST_LINES (by trivial)) (by walk_at "p"))))) (aA (aJ yC)) bJ) (aq (aH (i:=1) lZ.nd rfl cG Oc rfl) (aq (je YB rfl (qt (K:=K) rfl (ak 0)) (aZ (i:=2) lZ.nd rfl cG rfl) (aq (bZ (uA (xQ (iC (jE (aO iU (hr.mono (by decide)) bc (aa (ak 2) (aa aB (aa (bf jj (aL (aK (K:=K) rfl) bc T.b_len bj (aa (ak 0) ao) (by trivial) (by trivial)) aB) ao))) (by trivial)))) (tH (bB (TY (K:=K) rfl hu64) (ak 2) (ak 1) (by walk_at "p"))))) (aA (aJ yC)) bJ) (aA (jd (ts:=uF) yC (jV (ak 1) (ak 2) (pG hu64)))))) (aA (aJ yC))))),?_⟩
 walk_at "s"
 have hs:20000<=sizeLine:=by decide
 rcases h with ⟨a,us,rfl,ha,hlen,hkd,rfl⟩ | ⟨T',hty,hk,rfl⟩
 ·rcases ha with ha | ha
  ·skip
   refine ji rfl fun p np=>?_
   walk_at "s"
   have ha1:upd H p (.tup [.ty "list",.ty "tuple"]) a=some (.lst us):=aP np ha
   refine yK (.lst ha1) aj rfl (b:=true) (by rfl) ?_
   walk_at "s"
   refine gZ (SqL.of ha1) ?_
   walk_at "s"
   by_cases h96:96 < us.length
   ·rw [Xq (show (96:Int) < (us.length:Int) by omega)]
    rw [Es h96] at q
    walk_at "s"
    exact q _ ((Same.refl H).upd np)
   rw [XF (show ¬ (96:Int) < (us.length:Int) by omega)]
   walk_at "s"
   intro d nd
   have S1:Same H (upd (upd H p (.tup [.ty "list",.ty "tuple"])) d (.dK [])):=((Same.refl H).upd np).upd nd
   have hd0:upd (upd H p (.tup [.ty "list",.ty "tuple"])) d (.dK []) d=some (.dK []):=aj
   have nd':H d=none:=Same.back ((Same.refl H).upd np) nd
   generalize upd (upd H p (.tup [.ty "list",.ty "tuple"])) d (.dK [])=H1 at S1 hd0 ⊢
   walk_at "s"
   refine .inl ⟨a,rfl,⟨_,SqL.of (S1 _ _ ha)⟩,?_⟩
   refine zF (xs:=us) (fun k U H'=>∃ (kvs:List (Key×V)) (x2:Option V),U=[some (.ref a),some (.ref d),x2]/\Same H H'/\H' d=some (.dK kvs)/\kvs.length<=k/\(∀ n:Nat,jU kvs (Sum.inl (n:Int))=if V.int (n:Int)∈us.take k then some (.bl true) else none)/\(∀ u∈us.take k,inB u 0 ((us.length:Int) - 1)=true)/\(us.take k).Nodup)
    ⟨[],_,rfl,S1,hd0,by simp,fun n=>by simp [zM],by simp,by simp⟩ (fun i U H' _ h=>?_) ?_ ?_
   ·obtain ⟨_,_,_,s,_⟩:=h
    exact SqL.of (s _ _ ha)
   ·rintro k v U H' hk ⟨kvs,x2,rfl,s,hd,hkl,hv,hin,hnd⟩
    have hkt:k < us.length:=(Xn.mp hk).1
    have hmem:=X3 hk
    walk_at "s"
    refine gZ (SqL.of (s _ _ ha)) ?_
    walk_at "s"
    refine ⟨_,_,_,rfl,(hkd v hmem).same s,?_⟩
    walk_at "s"
    cases hb:inB v 0 ((us.length:Int) - 1) with
    | false=>
     rw [K5 hmem hb] at q
     walk_at "s"
     exact q _ s
    | true=>
     obtain ⟨i,rfl,hi⟩:=Et hb
     walk_at "s"
     refine .inr ⟨d,_,rfl,DGet.k (k:=Sum.inl (i:Int)) hd,?_⟩
     rw [hv i]
     by_cases hm:V.int (i:Int)∈us.take k
     ·rw [if_pos hm,show (some (V.bl true)).isSome=true from rfl]
      rw [K7 hk hm] at q
      walk_at "s"
      exact q _ s
     ·rw [if_neg hm,show (none:Option V).isSome=false from rfl]
      walk_at "s"
      refine .inr ⟨d,_,rfl,DPut.k (k:=Sum.inl (i:Int)) hd (by omega),?_⟩
      have tk:us.take (k+1)=us.take k ++ [V.int (i:Int)]:=by rw [Zf,hk];rfl
      refine ⟨_,_,rfl,Same.put s nd',aj,Xv (kZ _ _ _) (by omega),fun n=>?_,fun u hu=>?_,?_⟩
      ·rw [zO,hv n,tk]
       by_cases hn:n=i
       ·subst hn;simp
       ·rw [if_neg (fun z=>hn (by have:=Sum.inl.inj z;omega))]
        have hne:¬ V.int (n:Int)=V.int (i:Int):=fun z=>hn (by have:=V.int.inj z;omega)
        simp [hne]
      ·rw [tk] at hu
       rcases Yz.mp hu with h | h
       ·exact hin u h
       ·rw [Yn.mp h];exact hb
      ·rw [tk]
       exact wD hnd hm
   ·rintro U H' ⟨kvs,x2,rfl,s,hd,_,_,hin,hnd⟩
    rw [Y0] at hin hnd
    rw [K8 (by omega) hin hnd] at q
    walk_at "s"
    exact q _ s
  ·skip
   refine ji rfl fun p np=>?_
   walk_at "s"
   have ha1:upd H p (.tup [.ty "list",.ty "tuple"]) a=some (.tup us):=aP np ha
   refine yK (.tup ha1) aj rfl (b:=true) (by rfl) ?_
   walk_at "s"
   refine Jr (SqT.of ha1) ?_
   walk_at "s"
   by_cases h96:96 < us.length
   ·rw [Xq (show (96:Int) < (us.length:Int) by omega)]
    rw [Es h96] at q
    walk_at "s"
    exact q _ ((Same.refl H).upd np)
   rw [XF (show ¬ (96:Int) < (us.length:Int) by omega)]
   walk_at "s"
   intro d nd
   have S1:Same H (upd (upd H p (.tup [.ty "list",.ty "tuple"])) d (.dK [])):=((Same.refl H).upd np).upd nd
   have hd0:upd (upd H p (.tup [.ty "list",.ty "tuple"])) d (.dK []) d=some (.dK []):=aj
   have nd':H d=none:=Same.back ((Same.refl H).upd np) nd
   generalize upd (upd H p (.tup [.ty "list",.ty "tuple"])) d (.dK [])=H1 at S1 hd0 ⊢
   walk_at "s"
   refine .inr (.inl ⟨a,rfl,⟨_,SqT.of (S1 _ _ ha)⟩,?_⟩)
   refine Mv (xs:=us) (fun k U H'=>∃ (kvs:List (Key×V)) (x2:Option V),U=[some (.ref a),some (.ref d),x2]/\Same H H'/\H' d=some (.dK kvs)/\kvs.length<=k/\(∀ n:Nat,jU kvs (Sum.inl (n:Int))=if V.int (n:Int)∈us.take k then some (.bl true) else none)/\(∀ u∈us.take k,inB u 0 ((us.length:Int) - 1)=true)/\(us.take k).Nodup)
    ⟨[],_,rfl,S1,hd0,by simp,fun n=>by simp [zM],by simp,by simp⟩ (fun i U H' _ h=>?_) ?_ ?_
   ·obtain ⟨_,_,_,s,_⟩:=h
    exact SqT.of (s _ _ ha)
   ·rintro k v U H' hk ⟨kvs,x2,rfl,s,hd,hkl,hv,hin,hnd⟩
    have hkt:k < us.length:=(Xn.mp hk).1
    have hmem:=X3 hk
    walk_at "s"
    refine Jr (SqT.of (s _ _ ha)) ?_
    walk_at "s"
    refine ⟨_,_,_,rfl,(hkd v hmem).same s,?_⟩
    walk_at "s"
    cases hb:inB v 0 ((us.length:Int) - 1) with
    | false=>
     rw [K5 hmem hb] at q
     walk_at "s"
     exact q _ s
    | true=>
     obtain ⟨i,rfl,hi⟩:=Et hb
     walk_at "s"
     refine .inr ⟨d,_,rfl,DGet.k (k:=Sum.inl (i:Int)) hd,?_⟩
     rw [hv i]
     by_cases hm:V.int (i:Int)∈us.take k
     ·rw [if_pos hm,show (some (V.bl true)).isSome=true from rfl]
      rw [K7 hk hm] at q
      walk_at "s"
      exact q _ s
     ·rw [if_neg hm,show (none:Option V).isSome=false from rfl]
      walk_at "s"
      refine .inr ⟨d,_,rfl,DPut.k (k:=Sum.inl (i:Int)) hd (by omega),?_⟩
      have tk:us.take (k+1)=us.take k ++ [V.int (i:Int)]:=by rw [Zf,hk];rfl
      refine ⟨_,_,rfl,Same.put s nd',aj,Xv (kZ _ _ _) (by omega),fun n=>?_,fun u hu=>?_,?_⟩
      ·rw [zO,hv n,tk]
       by_cases hn:n=i
       ·subst hn;simp
       ·rw [if_neg (fun z=>hn (by have:=Sum.inl.inj z;omega))]
        have hne:¬ V.int (n:Int)=V.int (i:Int):=fun z=>hn (by have:=V.int.inj z;omega)
        simp [hne]
      ·rw [tk] at hu
       rcases Yz.mp hu with h | h
       ·exact hin u h
       ·rw [Yn.mp h];exact hb
      ·rw [tk]
       exact wD hnd hm
   ·rintro U H' ⟨kvs,x2,rfl,s,hd,_,_,hin,hnd⟩
    rw [Y0] at hin hnd
    rw [K8 (by omega) hin hnd] at q
    walk_at "s"
    exact q _ s
 ·refine ji rfl fun p np=>?_
  walk_at "s"
  refine yK (hty.mono fun b o e _=>aP np e) aj rfl hk ?_
  walk_at "s"
  exact q _ ((Same.refl H).upd np)
def O2 (K:W.Frag):Sp:=fun vs H Q _=>∃ (a:Addr) (t:List Nat),vs=[.ref a]/\Tn H a t/\Prm t/\∀ H',Same H H'->Q .non H'
theorem uV:aD ["thing"] ["thing"] (az jY):=⟨rfl,rfl,rfl,by trivial,rfl,by trivial,by trivial⟩
theorem cW (T:Txt K mg):nQ P w K mg base 4 "need_turning" ["thing"] (O2 K):=by
 have m7:=m7 (P:=P) (w:=w) (base:=base) T
 refine ir T.d_need_turning uV (fun _ _ _ _ _ _ us hl=>L2.nY (fun _=>rfl) us hl) ?_ fun f cdv A outer s H vs Q E hr h=>?_
 ·rintro vs H Q E ⟨a,t,rfl,_⟩;rfl
 obtain ⟨a,t,rfl,ha,hP,q⟩:=h
 have hu:=hr.units0
 have hu64:=hr.units
 refine ⟨_,(aA (bZ (iC (jE (aO m7 (hr.mono (by decide)) bc (aa (ak 0) ao) (by trivial)))) (aA rW) bJ)),?_⟩
 walk_at "s"
 refine ⟨.ref a,true,rfl,O1 ha hP,fun H1 S1=>?_⟩
 walk_at "s"
 walk_at "s"
 exact q H1 S1
theorem Uc (n:Nat):((List.range n).map fun i:Nat=>V.int (0+(i:Int)*1))=(nI (List.range n)).map V.int:=by
 unfold nI
 rw [List.map_map]
 refine List.map_congr_left fun x _=>?_
 show V.int (0+(x:Int)*1)=V.int (x:Int)
 congr 1;omega
def CV:Sp:=fun vs H Q _=>∃ n:Nat,vs=[.int n]/\n<=96/\∀ q H',H q=none->Same H H'->H' q=some (.lst ((nI (List.range n)).map V.int))->Q (.ref q) H'
theorem Al:aD ["many"] ["many"] (az qJ):=⟨rfl,rfl,rfl,by trivial,rfl,by trivial,by trivial⟩
theorem qR (T:Txt K mg):nQ P w K mg base 4 "straight" ["many"] CV:=by
 have bI:=bI (P:=P) (w:=w) (base:=base) T
 refine ir T.d_straight Al (fun _ _ _ _ _ _ us hl=>L2.nY (fun _=>rfl) us hl) ?_ fun f cdv A outer s H vs Q E hr h=>?_
 ·rintro vs H Q E ⟨n,rfl,_⟩;rfl
 obtain ⟨n,rfl,hn,q⟩:=h
 have hu:=hr.units0
 have hu64:=hr.units
 refine ⟨_,(aq (bh (u5 bI (hr.mono (by decide)) bc (xT fun _ _=>rfl) (aa (ak 0) (aa aB (aa (yD bc T.c_MOST_LINES (by trivial)) ao))) (by trivial))) (aA (aJ (Cu rfl bc T.b_list bc T.b_range (aa (ak 0) ao))))),?_⟩
 walk_at "s"
 refine Ak (by omega) (by omega) ?_
 walk_at "s"
 refine Oh (n:=n) (by omega) ?_
 walk_at "s"
 intro p np
 rw [Uc]
 exact q p _ np ((Same.refl H).upd np) aj
def WD:Sp:=fun vs H Q _=>∃ (a:Addr) (t:List Nat),vs=[.ref a]/\H a=some (.lst ((nI t).map V.int))/\Prm t/\∀ q H',H q=none->Same H H'->H' q=some (.lst ((nI (inv t)).map V.int))->Q (.ref q) H'
theorem lJ:aD ["turning","begins","begin","end"] ["turning"] (az qK):=⟨rfl,rfl,rfl,by trivial,rfl,by trivial,by trivial⟩
theorem iK (T:Txt K mg):nQ P w K mg base 5 "opposite" ["turning"] WD:=by
 have cW:=cW (P:=P) (w:=w) (base:=base) T
 refine ir T.d_opposite lJ (fun _ _ _ _ _ _ us hl=>L2.nY (fun _=>rfl) us hl) ?_ fun f cdv A outer s H vs Q E hr h=>?_
 ·rintro vs H Q E ⟨a,t,rfl,_⟩;rfl
 obtain ⟨a,t,rfl,ha,hP,q⟩:=h
 have hu:=hr.units0
 have hu64:=hr.units
 refine ⟨_,(aq (bh (aO cW (hr.mono (by decide)) bc (aa (ak 0) ao) (by trivial))) (aq (aH (i:=1) lJ.nd rfl cG (bf lg (fM (aa aB ao)) (aL (aK (K:=K) rfl) bc T.b_len bj (aa (ak 0) ao) (by trivial) (by trivial))) rfl) (aq (je YB rfl (lC (K:=K) rfl rfl bc T.b_enumerate (aa (ak 0) ao)) (lQ (K:=K) rfl rfl (aX (aZ (i:=2) lJ.nd rfl cG rfl) (aX (aZ (i:=3) lJ.nd rfl cG rfl) iz))) (aA (jd (ts:=uF) (ak 2) (jV (ak 1) (ak 3) (pG hu64))))) (aA (aJ (ak 1)))))),?_⟩
 walk_at "s"
 have hs:20000<=sizeLine:=by decide
 have hle:=hP.le
 refine ⟨_,t,rfl,.inl ha,hP,fun H1 S1=>?_⟩
 walk_at "s"
 ·skip
  refine ji rfl fun p np=>?_
  walk_at "s"
  refine gZ (SqL.of (aP np (S1 _ _ ha))) ?_
  walk_at "s"
  rw [cB]
  refine yF (k:=(t.length:Int)) aj (by omega) (by omega) (by simp;omega) fun b nb=>?_
  walk_at "s"
  have S2:Same H (upd (upd H1 p (.lst [.int 0])) b (.lst (List.replicate ((t.length:Int)).toNat [V.int 0]).flatten)):=(S1.upd np).upd nb
  have nb0:H b=none:=Same.back (S1.upd np) nb
  have hb0:upd (upd H1 p (.lst [.int 0])) b (.lst (List.replicate ((t.length:Int)).toNat [V.int 0]).flatten) b=some (.lst ((nI (List.replicate t.length 0)).map V.int)):=by
   rw [aj]
   congr 2
   unfold nI
   rw [List.map_replicate,List.map_replicate,show ((t.length:Int)).toNat=t.length by omega]
   generalize t.length=n
   induction n with
   | zero=>rfl
   | succ n ih=>rw [YF,Y4,ih,YF];rfl
  generalize upd (upd H1 p (.lst [.int 0])) b (.lst (List.replicate ((t.length:Int)).toNat [V.int 0]).flatten)=H2 at S2 hb0 ⊢
  refine .inr ⟨a,_,rfl,SqL.of (S2 _ _ ha),?_⟩
  refine jP (K:=K) (xs:=(nI t).map V.int) (fun k U H'=>∃ (r:List Nat) (x2 x3:Option V),U=[some (.ref a),some (.ref b),x2,x3]/\Same H H'/\H' b=some (.lst ((nI r).map V.int))/\r.length=t.length/\∀ (i x:Nat),i < k->t[i]?=some x->r[x]?=some i)
   ⟨List.replicate t.length 0,_,_,rfl,S2,hb0,by simp,fun i x h=>by omega⟩ (fun i U H' _ h=>?_) ?_ ?_
  ·obtain ⟨_,_,_,_,s,_⟩:=h
   exact SqL.of (s _ _ ha)
  ·rintro k U H' T v hk ⟨r,x2,x3,rfl,s,hb,hrl,hr⟩ nT
   obtain ⟨i,hi,rfl⟩:=KZ hk
   have hit:=hP.lt (X3 hi)
   refine bH (SqT.of aj) rfl ?_
   walk_at "s"
   refine sr (aP nT hb) (Aj (p:=i) rfl (by rw [cB];omega)) ?_
   walk_at "s"
   rw [wC]
   refine ⟨r.set i k,_,_,rfl,Same.put (s.upd nT) nb0,aj,by simp;omega,fun j x hj e=>?_⟩
   by_cases hjk:j=k
   ·subst hjk
    rw [hi] at e
    cases e
    rw [Yw (by omega)]
   ·have hx:x≠i:=fun z=>hjk (by
     subst z
     have h1:=ik hP.nd e
     have h2:=ik hP.nd hi
     omega)
    rw [Yd (fun z=>hx z.symm)]
    exact hr j x (by omega) e
  ·rintro U H' ⟨r,x2,x3,rfl,s,hb,hrl,hr⟩
   walk_at "s"
   rw [cB] at hr
   have e:=wj hP hrl fun i x h=>hr i x (Xn.mp h).1 h
   rw [e] at hb
   exact q b _ nb0 s hb
end
local macro_rules | `(tactic| walk_at "s") => `(tactic| (with_reducible repeat (first | refine ou ?_ | walk_at "1")))
local macro_rules | `(tactic| walk_at "n") => `(tactic| (with_reducible repeat (walk_at "1")))
section
variable {P:Program} {w:World} {K:W.Frag} {mg:Str->Option Value} {base:Heap}
def spDo (K:W.Frag):Sp:=fun vs H Q _=>∃ (bg st:Addr) (E ps:List Nat),vs=[.ref bg,.ref st]/\H bg=some (.lst ((nI E).map V.int))/\H st=some (.lst ((nI ps).map V.int))/\bg≠st/\(∀ p∈ps,p+1 < E.length)/\ps.length<=6000/\
 ∀ q H',H q=none->Chg bg H H'->H' bg=some (.lst ((nI (bK E ps)).map V.int))->H' q=some (.lst ((nI (Kr E ps ps.length)).map V.int))->Q (.ref q) H'
theorem iV:aD ["begins","steps","working","place","step","lesser","greater"] ["begins","steps"] (az qL):=⟨rfl,rfl,rfl,by trivial,rfl,by trivial,by trivial⟩
theorem qT (T:Txt K mg):nQ P w K mg base 1 "do_steps" ["begins","steps"] (spDo K):=by
 refine ir T.d_do_steps iV (fun _ _ _ _ _ _ us hl=>L2.nP (fun _ _=>rfl) us hl) ?_ fun f cdv A outer s H vs Q E hr h=>?_
 ·rintro vs H Q E ⟨bg,st,E,ps,rfl,_⟩;rfl
 obtain ⟨bg,st,E,ps,rfl,hb,hst,hne,hp,hpl,q⟩:=h
 have hu:=hr.units0
 have hu64:=hr.units
 refine ⟨_,(aq (aH (i:=2) iV.nd rfl cG (fM ao) rfl) (aq (je YB rfl (lC (K:=K) rfl rfl bc T.b_enumerate (aa (ak 1) ao)) (lQ (K:=K) rfl rfl (aX (aZ (i:=3) iV.nd rfl cG rfl) (aX (aZ (i:=4) iV.nd rfl cG rfl) iz))) (aq (aH (i:=5) iV.nd rfl cG (bx (K:=K) rfl (ak 0) (ak 4)) rfl) (aq (aH (i:=6) iV.nd rfl cG (bx (K:=K) rfl (ak 0) (bf aN (ak 4) aB)) rfl) (aA (bZ (bB rE (ak 5) (ak 6) (by walk_at "p")) (aq (jd (ts:=uF) (ak 6) (jV (ak 0) (ak 4) (pG hu64))) (aq (jd (ts:=uF) (ak 5) (jV (ak 0) (bf aN (ak 4) aB) (pG hu64))) (aA (bh (ie (K:=K) rfl Yb X6 X7 b7 (ak 2) (aa (ak 3) ao)))))) bJ))))) (aA (aJ (ak 2))))),?_⟩
 walk_at "s"
 have hs:20000<=sizeLine:=by decide
 refine ji rfl fun wk nwk=>?_
 walk_at "s"
 have wb:wk≠bg:=fun z=>by rw [z,hb] at nwk;cases nwk
 have ws:wk≠st:=fun z=>by rw [z,hst] at nwk;cases nwk
 refine .inr ⟨st,_,rfl,SqL.of (aP nwk hst),?_⟩
 refine jP (K:=K) (xs:=(nI ps).map V.int) (fun k U H'=>∃ (x3 x4 x5 x6:Option V),U=[some (.ref bg),some (.ref st),some (.ref wk),x3,x4,x5,x6]/\Chg bg H H'/\H' st=some (.lst ((nI ps).map V.int))/\H' bg=some (.lst ((nI (bK E (ps.take k))).map V.int))/\H' wk=some (.lst ((nI (Kr E ps k)).map V.int)))
  ⟨_,_,_,_,rfl,(Chg.refl bg H).new nwk,aP nwk hst,aP nwk hb,aj⟩ (fun i U H' _ h=>?_) ?_ ?_
 ·obtain ⟨_,_,_,_,_,_,h,_⟩:=h
  exact SqL.of h
 ·rintro k U H' T v hk ⟨x3,x4,x5,x6,rfl,c,hst',hb',hw'⟩ nT
  obtain ⟨p,hpk,rfl⟩:=KZ hk
  have hkl:k < ps.length:=(Xn.mp hpk).1
  have hpd:ps.getD k 0=p:=by rw [Xl,hpk];rfl
  have hpE:p+1 < (bK E (ps.take k)).length:=by rw [jC];exact hp p (X3 hpk)
  have tk:ps.take (k+1)=ps.take k ++ [p]:=by rw [tQ hkl,hpd]
  have wsu:=Ad E ps k
  rw [hpd] at wsu
  have wl:=Oo E ps k
  have c1:Chg bg H (upd H' T (.tup [.int k,.int p])):=c.new nT
  have hT:upd H' T (.tup [.int k,.int p]) T=some (.tup [.int k,.int p]):=aj
  have hst1:=aP nT (o:=.tup [.int k,.int p]) hst'
  have hb1:=aP nT (o:=.tup [.int k,.int p]) hb'
  have hw1:=aP nT (o:=.tup [.int k,.int p]) hw'
  generalize upd H' T (.tup [.int k,.int p])=H1 at c1 hT hst1 hb1 hw1 ⊢
  have eR:bK E (ps.take (k+1))=bA (bK E (ps.take k)) p:=by rw [tk,mH]
  generalize bK E (ps.take k)=F at hpE hb1 eR wsu
  refine bH (SqT.of hT) rfl ?_
  walk_at "s"
  refine bG (SqL.of hb1) (xX (k:=p) (by omega) rfl) ?_
  walk_at "s"
  refine bG (SqL.of hb1) (xX (k:=p+1) (by omega) (by omega)) ?_
  walk_at "s"
  have ew:uG F p=decide (((F.getD p 0:Nat):Int) < ((F.getD (p+1) 0:Nat):Int)):=by unfold uG;exact decide_eq_decide.mpr (by omega)
  rw [← ew]
  refine iteB (fun hw=>?_) (fun hw=>?_)
  ·rw [if_pos hw] at wsu
   walk_at "s"
   refine sr hb1 (Aj (p:=p) rfl (by rw [cB];omega)) ?_
   walk_at "s"
   rw [wC]
   refine sr aj (Aj (p:=p+1) (by omega) (by rw [cB];simp;omega)) ?_
   walk_at "s"
   rw [wC,Mf]
   have hw2:upd H1 bg (.lst ((nI ((F.set p (F.getD (p+1) 0)).set (p+1) (F.getD p 0))).map V.int)) wk=some (.lst ((nI (Kr E ps k)).map V.int)):=by rw [aC wb];exact hw1
   refine ⟨.inl ⟨rfl,_,SqL.of hw2⟩,?_⟩
   walk_at "s"
   refine cF hw2 (by rw [cB];omega) ?_
   walk_at "s"
   rw [sE]
   refine ⟨_,_,_,_,rfl,?_,?_,?_,?_⟩
   ·intro b o nb e
    have nw:b≠wk:=fun z=>by rw [z,nwk] at e;cases e
    rw [aC nw,aC nb]
    exact c1 b o nb e
   ·rw [aC (Ne.symm ws),aC (Ne.symm hne)];exact hst1
   ·rw [aC (Ne.symm wb),aj,eR]
    unfold bA
    rw [if_pos hw]
   ·rw [aj,wsu]
  ·rw [if_neg (by rw [hw];simp),YG] at wsu
   walk_at "s"
   refine ⟨_,_,_,_,rfl,c1,hst1,?_,?_⟩
   ·rw [hb1,eR]
    unfold bA
    rw [if_neg (by rw [hw];simp)]
   ·rw [hw1,wsu]
 ·rintro U H' ⟨x3,x4,x5,x6,rfl,c,hst',hb',hw'⟩
  rw [cB] at hb' hw'
  rw [Y0] at hb'
  walk_at "s"
  exact q wk H' nwk c hb' hw'
def MR (r:R2):Prop:=∀ x y H Q Q',(∀ v H1,Q v H1->Q' v H1)->r x y H Q->r x y H Q'
def ME (te:TE):Prop:=∀ U H Q Q',(∀ v H1,Q v H1->Q' v H1)->te U H Q->te U H Q'
def MT (te:TT):Prop:=∀ U H Q Q',(∀ v H1,Q v H1->Q' v H1)->te U H Q->te U H Q'
theorem QL (g:Int->Int->V):MR (Ia g):=by
 rintro x y H Q Q' h ⟨i,j,e1,e2,q⟩
 exact ⟨i,j,e1,e2,h _ _ q⟩
theorem QM:MR (Qo K):=by
 rintro x y H Q Q' h (⟨p,xs,i,v,a,b,c,d,q⟩ | ⟨p,xs,i,v,a,b,c,d,q⟩ | ⟨z,i,c,a,b,d,e,q⟩)
 ·exact .inl ⟨p,xs,i,v,a,b,c,d,h _ _ q⟩
 ·exact .inr (.inl ⟨p,xs,i,v,a,b,c,d,h _ _ q⟩)
 ·exact .inr (.inr ⟨z,i,c,a,b,d,e,h _ _ q⟩)
theorem O3:MR zU:=by
 rintro x y H Q Q' h (⟨i,j,a,b,q⟩ | ⟨i,j,a,b,c,q⟩ | ⟨p,q',xs,ys,a,b,c,d,e,q⟩)
 ·exact .inl ⟨i,j,a,b,h _ _ q⟩
 ·exact .inr (.inl ⟨i,j,a,b,c,h _ _ q⟩)
 ·exact .inr (.inr ⟨p,q',xs,ys,a,b,c,d,e,fun r hr=>h _ _ (q r hr)⟩)
theorem wF (i:Nat):ME (qi i):=by
 rintro U H Q Q' h ⟨v,e,q⟩
 exact ⟨v,e,h _ _ q⟩
theorem WF (v:V):ME (tC v):=fun U H Q Q' h q=>h _ _ q
theorem Am {r:R2} {ta tb:TE} (hr:MR r) (ha:ME ta) (hb:ME tb):ME (HY r ta tb):=fun U H Q Q' h q=>ha U H _ _ (fun x H1 q1=>hb U H1 _ _ (fun y H2 q2=>hr _ _ _ _ _ h q2) q1) q
theorem Eu {te:TE} (h:ME te):MT (Dw te):=fun U H Q Q' hq q=>h U H _ _ (fun x H1 ⟨k,e,q1⟩=>⟨k,e,hq _ _ q1⟩) q
theorem Ud {t u:TT} (h:MT t) (h2:MT u):MT (Mi t u):=fun U H Q Q' hq q=>h U H _ _ (fun c H1 q1=>by
 cases c with
 | true=>rw [if_pos rfl] at q1 ⊢;exact h2 _ _ _ _ hq q1
 | false=>rw [if_neg Xz] at q1 ⊢;exact hq _ _ q1) q
def mu4 (U:St) (_:Hp):Nat:=match U[4]? with
 | some (some (V.int z))=>(z+1).toNat
 | _=>0
theorem uI:∀ (p:Nat) (B u:List Nat),(inn p B u).1.length=B.length
 | 0,_,_=>rfl
 | p+1,B,u=>by
  unfold inn
  split
  ·rw [uI p,mR]
  ·rfl
theorem uJ:∀ (p:Nat) (B u:List Nat),(inn p B u).2.length<=u.length+p
 | 0,_,_=>Xp _
 | p+1,B,u=>by
  unfold inn
  split
  ·have:=uJ p (wV B p) (u ++ [p])
   rw [Yc,List.length_singleton] at this
   omega
  ·exact Z9 _ _
theorem uK (B:List Nat):∀ k,(tU B k).1.length=B.length
 | 0=>rfl
 | k+1=>(uI _ _ _).trans (uK B k)
theorem uL (B:List Nat):∀ k,k<=96->(tU B k).2.length<=96*k
 | 0,_=>Xp _
 | k+1,h=>by
  have h1:=uJ (k+1) (tU B k).1 (tU B k).2
  have h2:=uL B k (by omega)
  show (inn (k+1) (tU B k).1 (tU B k).2).2.length<=_
  omega
def Hc:Sp:=fun vs H Q _=>∃ (a:Addr) (t:List Nat),vs=[.ref a]/\H a=some (.lst ((nI t).map V.int))/\Prm t/\∀ q H',H q=none->Same H H'->H' q=some (.lst ((nI (G9 t).reverse).map V.int))->Q (.ref q) H'
theorem fY:aD ["turning","begins","undone","place","step","greater"] ["turning"] (az qM):=⟨rfl,rfl,rfl,by trivial,rfl,by trivial,by trivial⟩
theorem qU (T:Txt K mg):nQ P w K mg base 6 "steps_of" ["turning"] Hc:=by
 have iK:=iK (P:=P) (w:=w) (base:=base) T
 refine ir T.d_steps_of fY (fun _ _ _ _ _ _ us hl=>L2.nY (fun _=>rfl) us hl) ?_ fun f cdv A outer s H vs Q E hr h=>?_
 ·rintro vs H Q E ⟨a,t,rfl,_⟩;rfl
 obtain ⟨a,t,rfl,hT,hP,q⟩:=h
 have hu:=hr.units0
 have hu64:=hr.units
 refine ⟨_,(aq (aH (i:=1) fY.nd rfl cG (aO iK (hr.mono (by decide)) bc (aa (ak 0) ao) (by trivial)) rfl) (aq (aH (i:=2) fY.nd rfl cG (fM ao) rfl) (aq (je YB rfl (Gp bc T.b_range (aa aB (aa (aL (aK (K:=K) rfl) bc T.b_len bj (aa (ak 1) ao) (by trivial) (by trivial)) ao))) (aZ (i:=3) fY.nd rfl cG rfl) (aq (aH (i:=4) fY.nd rfl cG (bf jj (ak 3) aB) rfl) (aA (Jw YB (uA (Ju (bB xq (ak 4) aB (by walk_at "p")) (Ea (bB vo (bx (K:=K) rfl (ak 1) (ak 4)) (bx (K:=K) rfl (ak 1) (bf aN (ak 4) aB)) (by walk_at "p"))))) (aq (aH (i:=5) fY.nd rfl cG (bx (K:=K) rfl (ak 1) (ak 4)) rfl) (aq (jd (ts:=uF) (bx (K:=K) rfl (ak 1) (bf aN (ak 4) aB)) (jV (ak 1) (ak 4) (pG hu64))) (aq (jd (ts:=uF) (ak 5) (jV (ak 1) (bf aN (ak 4) aB) (pG hu64))) (aq (bh (ie (K:=K) rfl Yb X6 X7 b7 (ak 2) (aa (ak 4) ao))) (aA (TX (i:=4) fY.nd rfl cG aB Mz rfl)))))))))) (aA (aJ (Gs (K:=K) rfl rfl bc T.b_list bc T.b_reversed (ak 2))))))),?_⟩
 walk_at "s"
 have hs:20000<=sizeLine:=by decide
 have hle:=hP.le
 have il:=bz t
 refine ⟨a,t,rfl,hT,hP,fun b H1 nb S1 hb=>?_⟩
 walk_at "s"
 refine ji rfl fun ud nud=>?_
 walk_at "s"
 have nud0:=Same.back S1 nud
 have bu:b≠ud:=fun z=>by rw [z,nud] at hb;cases hb
 refine gZ (SqL.of (aP nud hb)) ?_
 walk_at "s"
 rw [cB]
 refine ⟨⟨by omega,by omega,by omega,by omega⟩,?_⟩
 rw [show (((inv t).length:Int) - 1).toNat=t.length - 1 by omega]
 refine xn (n:=t.length - 1) (fun k U H'=>∃ (x3 x4 x5:Option V),U=[some (.ref a),some (.ref b),some (.ref ud),x3,x4,x5]/\Same H H'/\H' b=some (.lst ((nI (tU (inv t) k).1).map V.int))/\H' ud=some (.lst ((nI (tU (inv t) k).2).map V.int)))
  ⟨_,_,_,rfl,S1.upd nud,aP nud hb,aj⟩ ?_ ?_
 ·rintro k U H' hk ⟨x3,x4,x5,rfl,s,hb1,hu1⟩
  walk_at "s"
  have ol:=uK (inv t) k
  have ul:=uL (inv t) k (by omega)
  refine HX (fun U H'=>∃ (p:Nat) (B u:List Nat) (x5:Option V),U=[some (.ref a),some (.ref b),some (.ref ud),some (.int (1+(k:Int))),some (.int ((p:Int) - 1)),x5]/\Same H H'/\H' b=some (.lst ((nI B).map V.int))/\H' ud=some (.lst ((nI u).map V.int))/\p<=k+1/\B.length=t.length/\u.length+p<=96*k+k+1/\inn p B u=tU (inv t) (k+1)) mu4
   ⟨k+1,_,_,x5,by rw [show (((k+1:Nat):Int) - 1)=1+(k:Int) - 1 by omega];rfl,s,hb1,hu1,Xp _,by omega,by omega,rfl⟩ ?_ ?_
  ·rintro U H' ⟨p,B,u,x5,rfl,s,hb2,hu2,hp,hB,hul,hin⟩
   walk_at "s"
   cases p with
   | zero=>
    rw [XF (by omega)]
    walk_at "s"
    exact ⟨_,_,_,rfl,s,by rw [← hin];exact hb2,by rw [← hin];exact hu2⟩
   | succ p=>
    rw [show (((p+1:Nat):Int) - 1)=(p:Int) by omega,Xq (show (0:Int)<=(p:Int) by omega)]
    walk_at "s"
    refine bG (SqL.of hb2) (xX (k:=p) (by omega) rfl) ?_
    walk_at "s"
    refine bG (SqL.of hb2) (xX (k:=p+1) (by omega) (by omega)) ?_
    walk_at "s"
    refine uP (fun hc=>?_) (fun hc=>?_)
    ·have hin2:inn p (wV B p) (u ++ [p])=tU (inv t) (k+1):=by
      rw [← hin]
      conv=>rhs;unfold inn
      rw [if_pos (by omega)]
     walk_at "s"
     refine bG (SqL.of hb2) (xX (k:=p) (by omega) rfl) ?_
     walk_at "s"
     refine bG (SqL.of hb2) (xX (k:=p+1) (by omega) (by omega)) ?_
     walk_at "s"
     refine sr hb2 (Aj (p:=p) rfl (by rw [cB];omega)) ?_
     walk_at "s"
     rw [wC]
     refine sr aj (Aj (p:=p+1) (by omega) (by rw [cB];simp;omega)) ?_
     walk_at "s"
     rw [wC]
     have s3:Same H (upd (upd H' b (.lst ((nI (B.set p (B.getD (p+1) 0))).map V.int))) b (.lst ((nI ((B.set p (B.getD (p+1) 0)).set (p+1) (B.getD p 0))).map V.int))):=Same.put (Same.put s nb) nb
     have hb3:upd (upd H' b (.lst ((nI (B.set p (B.getD (p+1) 0))).map V.int))) b (.lst ((nI ((B.set p (B.getD (p+1) 0)).set (p+1) (B.getD p 0))).map V.int)) b=some (.lst ((nI (wV B p)).map V.int)):=aj
     have hu3:upd (upd H' b (.lst ((nI (B.set p (B.getD (p+1) 0))).map V.int))) b (.lst ((nI ((B.set p (B.getD (p+1) 0)).set (p+1) (B.getD p 0))).map V.int)) ud=some (.lst ((nI u).map V.int)):=by rw [aC (Ne.symm bu),aC (Ne.symm bu)];exact hu2
     generalize upd (upd H' b (.lst ((nI (B.set p (B.getD (p+1) 0))).map V.int))) b (.lst ((nI ((B.set p (B.getD (p+1) 0)).set (p+1) (B.getD p 0))).map V.int))=H3 at s3 hb3 hu3 ⊢
     refine ⟨.inl ⟨rfl,_,SqL.of hu3⟩,?_⟩
     walk_at "s"
     refine cF hu3 (by rw [cB];omega) ?_
     walk_at "s"
     rw [sE]
     refine ⟨⟨p,wV B p,u ++ [p],_,rfl,Same.put s3 nud0,by rw [aC bu];exact hb3,aj,by omega,by rw [mR];exact hB,by simp;omega,hin2⟩,?_⟩
     show ((p:Int) - 1+1).toNat < ((p:Int)+1).toNat
     omega
    ·have hin2:(B,u)=tU (inv t) (k+1):=by
      rw [← hin]
      conv=>rhs;unfold inn
      rw [if_neg (by omega)]
     walk_at "s"
     exact ⟨_,_,_,rfl,s,by rw [← hin2];exact hb2,by rw [← hin2];exact hu2⟩
  ·exact Ud (Eu (Am (QL _) (wF _) (WF _))) (Eu (Am (QL _) (Am QM (wF _) (wF _)) (Am QM (wF _) (Am O3 (wF _) (WF _)))))
 ·rintro U H' ⟨x3,x4,x5,rfl,s,hb1,hu1⟩
  walk_at "s"
  refine ⟨_,rfl,_,_,rfl,SqL.of hu1,fun r nr=>?_⟩
  refine q r _ (Same.back s nr) (s.upd nr) ?_
  rw [aj]
  unfold nI G9
  rw [List.map_reverse,List.map_reverse]
def O4 (K:W.Frag):Sp:=fun vs H Q _=>∃ a b x y,vs=[.ref a,.ref b]/\H a=some (.lst ((nI x).map V.int))/\H b=some (.lst ((nI y).map V.int))/\Prm x/\Prm y/\x.length=y.length/\∀ H',Same H H'->Q .non H'
theorem w5:aD ["one","other"] ["one","other"] (az mY):=⟨rfl,rfl,rfl,by trivial,rfl,by trivial,by trivial⟩
theorem m8 (T:Txt K mg):nQ P w K mg base 5 "need_alike" ["one","other"] (O4 K):=by
 have cW:=cW (P:=P) (w:=w) (base:=base) T
 refine ir T.d_need_alike w5 (fun _ _ _ _ _ _ us hl=>L2.nP (fun _ _=>rfl) us hl) ?_ fun f cdv A outer s H vs Q E hr h=>?_
 ·rintro vs H Q E ⟨a,b,x,y,rfl,_⟩;rfl
 obtain ⟨a,b,x,y,rfl,ha,hb,px,py,he,q⟩:=h
 have hu:=hr.units0
 have hu64:=hr.units
 refine ⟨_,(aq (bh (aO cW (hr.mono (by decide)) bc (aa (ak 0) ao) (by trivial))) (aq (bh (aO cW (hr.mono (by decide)) bc (aa (ak 1) ao) (by trivial))) (aA (bZ (bB (Ti (K:=K) rfl hu64) (aL (aK (K:=K) rfl) bc T.b_len bj (aa (ak 0) ao) (by trivial) (by trivial)) (aL (aK (K:=K) rfl) bc T.b_len bj (aa (ak 1) ao) (by trivial) (by trivial)) (by walk_at "p")) (aA rW) bJ)))),?_⟩
 walk_at "s"
 refine ⟨a,x,rfl,.inl ha,px,fun H1 S1=>?_⟩
 walk_at "s"
 refine ⟨b,y,rfl,.inl (S1 _ _ hb),py,fun H2 S2=>?_⟩
 walk_at "s"
 have U2:=S1.trans S2
 refine gZ (SqL.of (U2 _ _ ha)) ?_
 walk_at "s"
 refine gZ (SqL.of (U2 _ _ hb)) ?_
 walk_at "s"
 rw [cB,cB,KY,Xq (show (x.length:Int)=(y.length:Int) by omega)]
 walk_at "s"
 exact q _ U2
def Ue (K:W.Frag):Sp:=fun vs H Q _=>∃ a b x y n,vs=[.ref a,.ref b]/\H a=some (.lst ((nI x).map V.int))/\H b=some (.lst ((nI y).map V.int))/\Two n x y/\∀ q H',H q=none->Same H H'->H' q=some (.lst ((nI (lay x y)).map V.int))->Q (.ref q) H'
theorem Ew:aD ["one","other","begins"] ["one","other"] (az CQ):=⟨rfl,rfl,rfl,by trivial,rfl,by trivial,by trivial⟩
theorem CW (T:Txt K mg):nQ P w K mg base 7 "laid" ["one","other"] (Ue K):=by
 have m8:=m8 (P:=P) (w:=w) (base:=base) T
 have iK:=iK (P:=P) (w:=w) (base:=base) T
 have qT:=qT (P:=P) (w:=w) (base:=base) T
 have qU:=qU (P:=P) (w:=w) (base:=base) T
 refine ir T.d_laid Ew (fun _ _ _ _ _ _ us hl=>L2.nP (fun _ _=>rfl) us hl) ?_ fun f cdv A outer s H vs Q E hr h=>?_
 ·rintro vs H Q E ⟨a,b,x,y,n,rfl,_⟩;rfl
 obtain ⟨a,b,x,y,n,rfl,ha,hb,h2,q⟩:=h
 have hu:=hr.units0
 have hu64:=hr.units
 refine ⟨_,(aq (bh (aO m8 (hr.mono (by decide)) bc (aa (ak 0) (aa (ak 1) ao)) (by trivial))) (aq (aH (i:=2) Ew.nd rfl cG (aO iK (hr.mono (by decide)) bc (aa (ak 0) ao) (by trivial)) rfl) (aq (bh (aO qT (hr.mono (by decide)) bc (aa (ak 2) (aa (aO qU (hr.mono (by decide)) bc (aa (ak 1) ao) (by trivial)) ao)) (by trivial))) (aA (aJ (aO iK (hr.mono (by decide)) bc (aa (ak 2) ao) (by trivial))))))),?_⟩
 walk_at "s"
 have cl:=Wv h2.py.le
 refine ⟨a,b,x,y,rfl,ha,hb,h2.px,h2.py,by rw [h2.lx,h2.ly],fun H1 S1=>?_⟩
 walk_at "s"
 refine ⟨a,x,rfl,S1 _ _ ha,h2.px,fun bg H2 nb S2 hb2=>?_⟩
 walk_at "s"
 refine ⟨b,y,rfl,(S1.trans S2) _ _ hb,h2.py,fun st H3 nst S3 hst=>?_⟩
 walk_at "s"
 have nb0:=Same.back S1 nb
 have hne:bg≠st:=fun z=>by rw [z] at hb2;rw [hb2] at nst;cases nst
 refine ⟨bg,st,inv x,(G9 y).reverse,rfl,S3 _ _ hb2,hst,hne,(fun p hp=>by rw [bz,h2.lx];exact h2.lt p hp),(by rw [Ou h2.py];exact cl),fun wk H4 nwk C4 hb4 hw4=>?_⟩
 walk_at "s"
 have S4:Same H H4:=fun c o e=>C4 c o (fun z=>by rw [z,nb0] at e;cases e) (S3 _ _ (S2 _ _ (S1 _ _ e)))
 refine ⟨bg,_,rfl,hb4,h2.run.1,fun r H5 nr S5 hr=>?_⟩
 exact q r H5 (Same.back S4 nr) (S4.trans S5) hr
end
local macro_rules | `(tactic| walk_at "s") => `(tactic| (with_reducible repeat (first | refine ou ?_ | walk_at "2")))
local macro_rules | `(tactic| walk_at "n") => `(tactic| (with_reducible repeat (walk_at "2")))
section
variable {P:Program} {w:World} {K:W.Frag} {mg:Str->Option Value} {base:Heap}
theorem An:(["sign"]:List Str).Nodup:=by trivial
def Ao:Str:=Str.ofString "abcdefghijklmnopqrstuvwxyz"
def GOOD:List Nat:=(Ao ++ Str.ofString ".").cps.toList
def Row (z:Str):Prop:=z.length<=48/\∀ c∈z.cps.toList,c∈GOOD
def CZ (l:Str) (c:Nat):Bool:=(Builtin.Str.occurrences l ⟨#[c]⟩ 0 l.length 1).isEmpty
theorem O5:∀ c∈GOOD,CZ (Ao ++ Str.ofString ".") c=false:=by trivial
def O6:Sp:=fun vs H Q _=>∃ z:Str,vs=[.str z]/\Row z/\∀ H',Same H H'->Q (.bl true) H'
def Ug:Sp:=fun vs H Q _=>∃ z:Str,vs=[.str z]/\Row z/\∀ H',Same H H'->Q .non H'
def O7:Sp:=fun vs H Q _=>∃ z y:Str,vs=[.str z,.str y]/\Row z/\Row y/\∀ H',Same H H'->Q .non H'
theorem Hd:aD ["thing"] ["thing"] (az sy):=⟨rfl,rfl,rfl,by trivial,rfl,by trivial,by trivial⟩
theorem wG (T:Txt K mg):nQ P w K mg base 1 "is_row" ["thing"] O6:=by
 refine ir T.d_is_row Hd (fun _ _ _ _ _ _ us hl=>L2.nY (fun _=>rfl) us hl) ?_ fun f cdv A outer s H vs Q E hr h=>?_
 ·rintro vs H Q E ⟨p,rfl,_⟩;rfl
 obtain ⟨z,rfl,⟨hz,hg⟩,q⟩:=h
 have hu:=hr.units0
 have hu64:=hr.units
 refine ⟨_,(aq (bZ (uA (xQ (iC (jE (aL (jk (K:=K) rfl) bc T.b_isinstance cL (aa (ak 0) (aa (yE bc T.b_str vK (by trivial) (by trivial)) ao)) (by trivial) (by trivial)))) (tH (bB vo (aL (aK (K:=K) rfl) bc T.b_len bj (aa (ak 0) ao) (by trivial) (by trivial)) (yD bc T.c_MOST_SIGNS (by trivial)) (by walk_at "p"))))) (aA (aJ yC)) bJ) (aA (aJ (aL (Jf rfl) bc T.b_all SM (aa (qu (sub:=[none]) (jB (N:=["thing"]) (sc:=az sy) (N':=["sign"]) (by trivial)) rfl rfl rfl (qt (K:=K) rfl (ak 0)) (fun C s₀ H₀ ex=>(zW 0 (by trivial) An)) (fun C s₀ H₀ ex=>lB) (fun C s₀ H₀ ex=>(lA (Ce (K:=K) rfl) (vO 0 (by trivial)) (bf aN (qp (glB (by trivial)) T.c_LETTERS (by trivial)) (qp (glB (by trivial)) T.c_POINT (by trivial))) (by walk_at "p")))) ao) (by trivial) (by trivial))))),?_⟩
 walk_at "s"
 have hz1:z.length<=sizeLine:=Xv hz (by decide)
 refine oA (.str z) rfl ?_
 walk_at "s"
 try with_reducible refine jL ?_
 walk_at "s"
 refine cI hz1 ?_
 walk_at "s"
 refine uP (fun h1=>?_) (fun h1=>?_)
 ·omega
 walk_at "s"
 refine .inr (.inr ⟨z,rfl,?_⟩)
 refine Js (fun i us H'=>H'=H/\us=((z.cps.toList.take i).map fun c=>!CZ (Ao ++ Str.ofString ".") c).map V.bl) hz1 ⟨rfl,rfl⟩ ?_ ?_ ?_
 ·rintro i us H' ⟨rfl,rfl⟩
  simp;omega
 ·rintro i us H' c hc ⟨rfl,rfl⟩
  walk_at "s"
  refine ⟨KeepSt.set rfl,?_⟩
  walk_at "s"
  try with_reducible refine jT ?_
  walk_at "s"
  refine jc (Xv (show (Str.ofString "abcdefghijklmnopqrstuvwxyz").length+(Str.ofString ".").length<=1000 by trivial) (by decide)) ?_
  walk_at "s"
  refine ⟨rfl,?_⟩
  rw [Zf,hc]
  simp [Ao,CZ]
 ·rintro us H' ⟨rfl,rfl⟩ D hD
  walk_at "s"
  refine ⟨D,_,rfl,aj,?_⟩
  have e2:(List.map (fun c=>!CZ (Ao ++ Str.ofString ".") c) (z.cps.toList.take z.cps.size)).all id=true:=by
   rw [List.all_map,Zi]
   intro c hc
   have:=O5 c (hg c (Zm hc))
   simp [this]
  rw [e2]
  exact q _ ((Same.refl H').upd hD)
theorem Aq:aD ["thing"] ["thing"] (az qG):=⟨rfl,rfl,rfl,by trivial,rfl,by trivial,by trivial⟩
theorem iM (T:Txt K mg):nQ P w K mg base 2 "need_row" ["thing"] Ug:=by
 have wG:=wG (P:=P) (w:=w) (base:=base) T
 refine ir T.d_need_row Aq (fun _ _ _ _ _ _ us hl=>L2.nY (fun _=>rfl) us hl) ?_ fun f cdv A outer s H vs Q E hr h=>?_
 ·rintro vs H Q E ⟨p,rfl,_⟩;rfl
 obtain ⟨z,rfl,hz,q⟩:=h
 refine ⟨_,(aA (bZ (iC (jE (aO wG (hr.mono (by decide)) bc (aa (ak 0) ao) (by trivial)))) (aA rW) bJ)),?_⟩
 walk_at "s"
 refine ⟨z,rfl,hz,fun H1 S1=>?_⟩
 walk_at "s"
 try with_reducible refine jL ?_
 walk_at "s"
 exact q _ S1
theorem yW:aD ["side","top"] ["side","top"] (az oW):=⟨rfl,rfl,rfl,by trivial,rfl,by trivial,by trivial⟩
theorem iW (T:Txt K mg):nQ P w K mg base 3 "need_rows" ["side","top"] O7:=by
 have iM:=iM (P:=P) (w:=w) (base:=base) T
 refine ir T.d_need_rows yW (fun _ _ _ _ _ _ us hl=>L2.nP (fun _ _=>rfl) us hl) ?_ fun f cdv A outer s H vs Q E hr h=>?_
 ·rintro vs H Q E ⟨p,y,rfl,_⟩;rfl
 obtain ⟨z,y,rfl,hz,hy,q⟩:=h
 refine ⟨_,(aq (bh (aO iM (hr.mono (by decide)) bc (aa (ak 0) ao) (by trivial))) (aA (bh (aO iM (hr.mono (by decide)) bc (aa (ak 1) ao) (by trivial))))),?_⟩
 walk_at "s"
 refine ⟨z,rfl,hz,fun H1 S1=>?_⟩
 walk_at "s"
 refine ⟨y,rfl,hy,fun H2 S2=>?_⟩
 exact q _ (S1.trans S2)
def Hf:Sp:=fun vs H Q _=>∃ c:Nat,vs=[.str ⟨#[c]⟩]/\Q (.bl (!CZ Ao c)) H
theorem K9:∀ c∈GOOD,CZ Ao c=true->c=46:=by trivial
theorem yX:aD ["thing"] ["thing"] (az oU):=⟨rfl,rfl,rfl,by trivial,rfl,by trivial,by trivial⟩
theorem o5 (T:Txt K mg):nQ P w K mg base 1 "is_letter" ["thing"] Hf:=by
 refine ir T.d_is_letter yX (fun _ _ _ _ _ _ us hl=>L2.nY (fun _=>rfl) us hl) ?_ fun f cdv A outer s H vs Q E hr h=>?_
 ·rintro vs H Q E ⟨c,rfl,_⟩;rfl
 obtain ⟨c,rfl,q⟩:=h
 have hu:=hr.units0
 have hu64:=hr.units
 refine ⟨_,(aA (aJ (oE (aL (jk (K:=K) rfl) bc T.b_isinstance cL (aa (ak 0) (aa (yE bc T.b_str vK (by trivial) (by trivial)) ao)) (by trivial) (by trivial)) (oE (lA (jl (K:=K) rfl hu64) (aL (aK (K:=K) rfl) bc T.b_len bj (aa (ak 0) ao) (by trivial) (by trivial)) aB (by walk_at "p")) (rU (lA (Ce (K:=K) rfl) (ak 0) (qp bc T.c_LETTERS (by trivial)) (by walk_at "p"))))))),?_⟩
 walk_at "s"
 refine oA (.str _) rfl ?_
 walk_at "s"
 refine cI (by rw [rT];decide) ?_
 walk_at "s"
 rw [rT,show decide (V.int ((1:Nat):Int)=V.int 1)=true from rfl]
 walk_at "s"
 exact q
def O8:Sp:=fun vs H Q _=>∃ c:Nat,vs=[.str ⟨#[c]⟩]/\c∈GOOD/\Q (.bl true) H
theorem Dc:aD ["thing"] ["thing"] (az tW):=⟨rfl,rfl,rfl,by trivial,rfl,by trivial,by trivial⟩
theorem tZ (T:Txt K mg):nQ P w K mg base 2 "is_sign" ["thing"] O8:=by
 have o5:=o5 (P:=P) (w:=w) (base:=base) T
 refine ir T.d_is_sign Dc (fun _ _ _ _ _ _ us hl=>L2.nY (fun _=>rfl) us hl) ?_ fun f cdv A outer s H vs Q E hr h=>?_
 ·rintro vs H Q E ⟨c,rfl,_⟩;rfl
 obtain ⟨c,rfl,hc,q⟩:=h
 have hu:=hr.units0
 have hu64:=hr.units
 refine ⟨_,(aA (aJ (j_or (aO o5 (hr.mono (by decide)) bc (aa (ak 0) ao) (by trivial)) (rU (lA (jl (K:=K) rfl hu64) (ak 0) (qp bc T.c_POINT (by trivial)) (by walk_at "p")))))),?_⟩
 walk_at "s"
 refine ⟨c,rfl,?_⟩
 walk_at "s"
 cases hb:CZ Ao c with
 | false=>
  show if true=true then _ else _
  walk_at "s"
  exact q
 | true=>
  obtain rfl:=K9 c hc hb
  show if false=true then _ else _
  walk_at "s"
  rw [show decide (V.str ⟨#[46]⟩=V.str (Str.ofString "."))=true by trivial]
  exact q
def Dd:Sp:=fun vs H Q _=>∃ c:Nat,vs=[.str ⟨#[c]⟩]/\c∈GOOD/\Q .non H
theorem yZ:aD ["thing"] ["thing"] (az oV):=⟨rfl,rfl,rfl,by trivial,rfl,by trivial,by trivial⟩
theorem iY (T:Txt K mg):nQ P w K mg base 3 "need_sign" ["thing"] Dd:=by
 have tZ:=tZ (P:=P) (w:=w) (base:=base) T
 refine ir T.d_need_sign yZ (fun _ _ _ _ _ _ us hl=>L2.nY (fun _=>rfl) us hl) ?_ fun f cdv A outer s H vs Q E hr h=>?_
 ·rintro vs H Q E ⟨c,rfl,_⟩;rfl
 obtain ⟨c,rfl,hc,q⟩:=h
 have hu:=hr.units0
 have hu64:=hr.units
 refine ⟨_,(aA (bZ (iC (jE (aO tZ (hr.mono (by decide)) bc (aa (ak 0) ao) (by trivial)))) (aA rW) bJ)),?_⟩
 walk_at "s"
 refine ⟨c,rfl,hc,?_⟩
 walk_at "s"
 walk_at "s"
 exact q
end
local macro_rules | `(tactic| walk_at "s") => `(tactic| (with_reducible repeat (first | refine ou ?_ | walk_at "3")))
local macro_rules | `(tactic| walk_at "n") => `(tactic| (with_reducible repeat (walk_at "3")))
mutual
def gA (m:Nat) (C:Nat->Nat->Bool) (i:Nat):Nat->Nat
 | 0=>m - 1 - i
 | j+1=>if C i j=true then gD m C j i else gA m C i j
termination_by j=>i+j
def gD (m:Nat) (C:Nat->Nat->Bool) (j:Nat):Nat->Nat
 | 0=>m+j
 | i+1=>if C i j=true then gA m C i j else gD m C j i
termination_by i=>i+j
end
section
variable {m:Nat} {C:Nat->Nat->Bool}
theorem jA (i:Nat):gA m C i 0=m - 1 - i:=by rw [gA]
theorem lK (i j:Nat):gA m C i (j+1)=if C i j=true then gD m C j i else gA m C i j:=by rw [gA]
theorem jh (j:Nat):gD m C j 0=m+j:=by rw [gD]
theorem lM (i j:Nat):gD m C j (i+1)=if C i j=true then gA m C i j else gD m C j i:=by rw [gD]
theorem Ar (i far:Nat):∀ j,j<=far->((List.range j).map (fun l=>gD m C l (i+1)) ++ gA m C i j :: (List.range' j (far - j)).map (fun l=>gD m C l i)).Perm (gA m C i 0 :: (List.range far).map (fun l=>gD m C l i))
 | 0,_=>by rw [List.range_eq_range' (n:=far)];exact List.Perm.refl _
 | j+1,h=>by
  refine List.Perm.trans ?_ (Ar i far j (by omega))
  rw [YX,XH,YJ,show far - j=(far - (j+1))+1 by omega,List.range'_succ,Yk]
  refine Zw _ ?_
  show (gD m C j (i+1) :: gA m C i (j+1) :: _).Perm _
  rw [lK,lM]
  by_cases hc:C i j=true
  ·rw [if_pos hc,if_pos hc];exact List.Perm.refl _
  ·rw [if_neg hc,if_neg hc]
   exact List.Perm.swap _ _ _
theorem row_end (i far:Nat):((List.range far).map (fun l=>gD m C l (i+1)) ++ [gA m C i far]).Perm ((m - 1 - i) :: (List.range far).map (fun l=>gD m C l i)):=by
 have h:=Ar (m:=m) (C:=C) i far far (Xp _)
 rw [Nat.sub_self,jA] at h
 exact h
theorem Av (far:Nat):∀ i,((List.range i).map (fun k=>gA m C k far) ++ (List.range far).map (fun l=>gD m C l i)).Perm ((List.range i).map (fun k=>m - 1 - k) ++ (List.range far).map (fun l=>m+l))
 | 0=>by
  simp only [List.range_zero,List.map_nil,List.nil_append,jh]
  exact List.Perm.refl _
 | i+1=>by
  have ih:=Av far i
  rw [YX,XH,XH,YJ,YJ]
  refine List.Perm.trans (Zw _ (List.perm_append_comm.trans (row_end i far))) ?_
  show ((List.range i).map _ ++ ([m - 1 - i] ++ _)).Perm _
  refine List.Perm.trans (List.perm_append_comm_assoc _ _ _) ?_
  refine List.Perm.trans ?_ (List.perm_append_comm_assoc _ _ _)
  exact Zw _ ih
theorem t6 (far:Nat):((List.range m).map (fun k=>gA m C k far) ++ (List.range far).map (fun l=>gD m C l m)).Perm (List.range (m+far)):=by
 refine (Av far m).trans ?_
 rw [Zv]
 refine List.Perm.append_right _ ?_
 have e:(List.range m).map (fun k=>m - 1 - k)=(List.range m).reverse:=by
  refine List.ext_getElem (by simp) fun i h1 h2=>?_
  simp
 rw [e]
 exact List.reverse_perm _
end
def jq (z:Nat->Bool) (ab:List Int) (left:Int):Nat->List Int×Int
 | 0=>([],left)
 | j+1=>if z j=true then ((jq z ab left j).1 ++ [(jq z ab left j).2],ab.getD j 0) else ((jq z ab left j).1 ++ [ab.getD j 0],(jq z ab left j).2)
theorem Aw (z:Nat->Bool) (ab:List Int) (left:Int):∀ j,(jq z ab left j).1.length=j
 | 0=>rfl
 | j+1=>by
  have ih:=Aw z ab left j
  rw [jq]
  split <;> simp [ih]
def t7 (m:Nat) (C:Nat->Nat->Bool) (far i:Nat):List Int:=(List.range far).map fun l=>((gD m C l i:Nat):Int)
def Hg (m:Nat) (C:Nat->Nat->Bool) (far i:Nat):List Int:=(List.range i).map fun k=>((gA m C k far:Nat):Int)
theorem De {m:Nat} {C:Nat->Nat->Bool} {far i j:Nat} (h:j < far):(t7 m C far i).getD j 0=((gD m C j i:Nat):Int):=by
 unfold t7
 rw [Xl,Xw,X4 h];rfl
theorem Uh {m:Nat} {C:Nat->Nat->Bool} {far i j:Nat} (h:j < i):(Hg m C far i)[j]?=some ((gA m C j far:Nat):Int):=by
 unfold Hg
 rw [Xw,X4 h];rfl
theorem O9 {m:Nat} {C:Nat->Nat->Bool} {far i j:Nat} (h:j < far):(t7 m C far i)[j]?=some ((gD m C j i:Nat):Int):=by
 unfold t7
 rw [Xw,X4 h];rfl
theorem za {m:Nat} {C:Nat->Nat->Bool} {far i:Nat}:∀ j,j<=far->jq (C i) (t7 m C far i) ((gA m C i 0:Nat):Int) j=(t7 m C j (i+1),((gA m C i j:Nat):Int))
 | 0,_=>rfl
 | j+1,h=>by
  have ih:=za (m:=m) (C:=C) (far:=far) (i:=i) j (by omega)
  rw [jq,ih,De (by omega),lK]
  have e:t7 m C (j+1) (i+1)=t7 m C j (i+1) ++ [((gD m C j (i+1):Nat):Int)]:=by unfold t7;rw [YX,XH];rfl
  rw [e,lM]
  by_cases hc:C i j=true
  ·rw [if_pos hc,if_pos hc,if_pos hc]
  ·rw [if_neg hc,if_neg hc,if_neg hc]
theorem Ax {m:Nat} {C:Nat->Nat->Bool} {far:Nat}:(∀ i,i < m->gA m C i far < m+far)/\∀ j,j < far->gD m C j m < m+far:=by
 have p:=t6 (m:=m) (C:=C) far
 refine ⟨fun i hi=>?_,fun j hj=>?_⟩
 ·exact XJ.mp (p.mem_iff.mp (Zz _ (Yr.mpr ⟨i,XJ.mpr hi,rfl⟩)))
 ·exact XJ.mp (p.mem_iff.mp (YC _ (Yr.mpr ⟨j,XJ.mpr hj,rfl⟩)))
theorem wH {m:Nat} {C:Nat->Nat->Bool} {far:Nat}:((List.range m).map (fun k=>gA m C k far) ++ (List.range far).map (fun l=>gD m C l m)).Nodup:=
 (t6 (m:=m) (C:=C) far).nodup_iff.mpr ZK
theorem WK {m:Nat} {C:Nat->Nat->Bool} {far i k:Nat} (hi:i < m) (hk:k < m) (h:i≠k):gA m C i far≠gA m C k far:=by
 have n:=(List.nodup_append.mp (wH (m:=m) (C:=C) (far:=far))).1
 have key:=List.pairwise_iff_getElem.mp n
 intro z
 rcases Nat.lt_or_gt_of_ne h with l | l
 ·exact key i k (by simpa using hi) (by simpa using hk) l (by simpa using z)
 ·exact key k i (by simpa using hk) (by simpa using hi) l (by simpa using z.symm)
theorem WL {m:Nat} {C:Nat->Nat->Bool} {far i k:Nat} (hi:i < far) (hk:k < far) (h:i≠k):gD m C i m≠gD m C k m:=by
 have n:=(List.nodup_append.mp (wH (m:=m) (C:=C) (far:=far))).2.1
 have key:=List.pairwise_iff_getElem.mp n
 intro z
 rcases Nat.lt_or_gt_of_ne h with l | l
 ·exact key i k (by simpa using hi) (by simpa using hk) l (by simpa using z)
 ·exact key k i (by simpa using hk) (by simpa using hi) l (by simpa using z.symm)
theorem WM {m:Nat} {C:Nat->Nat->Bool} {far i j:Nat} (hi:i < m) (hj:j < far):gA m C i far≠gD m C j m:=
 (List.nodup_append.mp (wH (m:=m) (C:=C) (far:=far))).2.2 _ (Yr.mpr ⟨i,XJ.mpr hi,rfl⟩) _ (Yr.mpr ⟨j,XJ.mpr hj,rfl⟩)
def IsEnds (m:Nat) (C:Nat->Nat->Bool) (far:Nat) (R:List Int):Prop:=R.length=m+far/\(∀ j,j < far->R[gD m C j m]?=some (j:Int))/\∀ i,i < m->R[gA m C i far]?=some (((far+(m - 1 - i):Nat)):Int)
theorem IsEnds.eq {m:Nat} {C:Nat->Nat->Bool} {far:Nat} {R R':List Int} (h:IsEnds m C far R) (h':IsEnds m C far R'):R=R':=by
 refine ZZ fun k=>?_
 by_cases hk:k < m+far
 ·have hm:=(t6 (m:=m) (C:=C) far).mem_iff.mpr (XJ.mpr hk)
  rcases Yz.mp hm with hm | hm
  ·obtain ⟨i,hi,rfl⟩:=Yr.mp hm
   rw [h.2.2 i (XJ.mp hi),h'.2.2 i (XJ.mp hi)]
  ·obtain ⟨i,hi,rfl⟩:=Yr.mp hm
   rw [h.2.1 i (XJ.mp hi),h'.2.1 i (XJ.mp hi)]
 ·rw [YQ (by rw [h.1];omega),YQ (by rw [h'.1];omega)]
def GoodS (ys:List Str):Prop:=∀ y∈ys,∃ c,y=⟨#[c]⟩/\c∈GOOD
theorem GoodS.ones {ys:List Str} (h:GoodS ys):∀ y∈ys,y.length=1:=fun y hy=>by
 obtain ⟨c,rfl,_⟩:=h y hy
 exact rT c
theorem La {zs:List Str} (h:GoodS zs) (hl:zs.length<=48):Row (Txt.join (Str.ofString "") zs):=by
 refine ⟨by rw [Jq h.ones];exact hl,fun c hc=>?_⟩
 rw [vL] at hc
 obtain ⟨l,hl1,hl2⟩:=List.mem_flatten.mp hc
 obtain ⟨y,hy,e⟩:=Yr.mp hl1
 obtain ⟨d,rfl,hd⟩:=h y hy
 subst e
 simp at hl2
 subst hl2
 exact hd
theorem over {H H':Hp} {r:Addr} {o:HO} (s:Same H H') (hn:H r=none):Same H (upd H' r o):=fun b u e=>by
 rw [aC (fun z=>by rw [z,hn] at e;cases e)];exact s b u e
section
variable {P:Program} {w:World} {K:W.Frag} {mg:Str->Option Value} {base:Heap}
theorem t8:(["column","many"]:List Str).Nodup:=by trivial
def Pa:Sp:=fun vs H Q _=>∃ m f:Nat,vs=[.int m,.int f]/\m<=48/\f<=48/\∀ D,H D=none->Q (.ref D) (upd H D (.lst (((List.range f).map fun l=>((m+l:Nat):Int)).map V.int)))
theorem wI:aD ["many","far"] ["many","far"] (az jz):=⟨rfl,rfl,rfl,by trivial,rfl,by trivial,by trivial⟩
theorem fJ (T:Txt K mg):nQ P w K mg base 1 "lines_above" ["many","far"] Pa:=by
 refine ir T.d_lines_above wI (fun _ _ _ _ _ _ us hl=>L2.nP (fun _ _=>rfl) us hl) ?_ fun f cdv A outer s H vs Q E hr h=>?_
 ·rintro vs H Q E ⟨m,f,rfl,_⟩;rfl
 obtain ⟨m,f,rfl,hm,hf,q⟩:=h
 have hu:=hr.units0
 have hu64:=hr.units
 refine ⟨_,(aA (aJ (qu (sub:=[none,some 0]) (jB (N:=["many","far"]) (sc:=az jz) (N':=["column","many"]) (by trivial)) rfl rfl rfl (pB bc T.b_range (aa (ak 1) ao)) (fun C s₀ H₀ ex=>(zW 0 (by trivial) t8)) (fun C s₀ H₀ ex=>lB) (fun C s₀ H₀ ex=>(bf aN (xO 1 (by trivial)) (vO 0 (by trivial))))))),?_⟩
 walk_at "s"
 refine ⟨_,rfl,by omega,by omega,?_⟩
 refine vN (n:=f) (fun i ys H'=>H'=H/\ys=((List.range i).map fun l=>((m+l:Nat):Int)).map V.int) (Xv hf (by decide)) ⟨rfl,rfl⟩ ?_ ?_ ?_
 ·rintro i ys H' ⟨_,rfl⟩
  simp
 ·rintro i ys H' hi ⟨rfl,rfl⟩
  walk_at "s"
  refine ⟨KeepSt.set rfl,?_⟩
  walk_at "s"
  refine ⟨rfl,?_⟩
  rw [YX,XH,XH]
  simp
 ·rintro ys H' ⟨rfl,rfl⟩ D hD
  walk_at "s"
  exact q D hD
def PrI (H:Hp):List V->List (Int×Int)->Prop
 | [],[]=>True
 | v :: vs,(x,y) :: L=>(∃ p,v= .ref p/\H p=some (.tup [.int x,.int y]))/\PrI H vs L
 | _,_=>False
theorem PrI.imp {H H':Hp} (h:∀ p us,H p=some (.tup us)->H' p=some (.tup us)):∀ {ws:List V} {L:List (Int×Int)},PrI H ws L->PrI H' ws L
 | [],[],_=>trivial
 | v :: vs,(x,y) :: L,⟨⟨p,e,hp⟩,r⟩=>⟨⟨p,e,h _ _ hp⟩,PrI.imp h r⟩
 | [],_ :: _,z=>z.elim
 | _ :: _,[],z=>z.elim
theorem PrI.same {H H':Hp} {ws:List V} {L:List (Int×Int)} (h:PrI H ws L) (s:Same H H'):PrI H' ws L:=h.imp fun p us e=>s _ _ e
theorem PrI.upd {H:Hp} {ws us:List V} {L:List (Int×Int)} {f:Addr} {o:HO} (h:PrI H ws L) (hf:H f=some (.lst us)):PrI (upd H f o) ws L:=h.imp fun p vs e=>by rw [aC (fun z=>by rw [z,hf] at e;cases e)];exact e
theorem PrI.push {H:Hp} {p:Addr} {x y:Int} (hp:H p=some (.tup [.int x,.int y])):∀ {ws:List V} {L:List (Int×Int)},PrI H ws L->PrI H (ws ++ [.ref p]) (L ++ [(x,y)])
 | [],[],_=>⟨⟨p,rfl,hp⟩,trivial⟩
 | v :: vs,(x,y) :: L,⟨a,r⟩=>⟨a,PrI.push hp r⟩
 | [],_ :: _,z=>z.elim
 | _ :: _,[],z=>z.elim
theorem PrI.len {H:Hp}:∀ {ws:List V} {L:List (Int×Int)},PrI H ws L->ws.length=L.length
 | [],[],_=>rfl
 | v :: vs,(x,y) :: L,⟨_,r⟩=>congrArg (· +1) (PrI.len r)
 | [],_ :: _,z=>z.elim
 | _ :: _,[],z=>z.elim
theorem PrI.get {H:Hp}:∀ {ws:List V} {L:List (Int×Int)} {k:Nat} {q:Int×Int},PrI H ws L->L[k]?=some q->∃ r,ws[k]?=some (.ref r)/\H r=some (.tup [.int q.1,.int q.2])
 | v :: vs,(x,y) :: L,0,q,⟨⟨p,e,hp⟩,_⟩,h=>by
  have h':(x,y)=q:=by simpa using h
  subst h'
  exact ⟨p,by rw [e];rfl,hp⟩
 | v :: vs,(x,y) :: L,k+1,q,⟨_,r⟩,h=>by
  obtain ⟨a,h1,h2⟩:=PrI.get (k:=k) r (by simpa using h)
  exact ⟨a,by simpa using h1,h2⟩
 | [],[],k,q,_,h=>by simp at h
 | [],_ :: _,_,_,z,_=>z.elim
 | _ :: _,[],_,_,z,_=>z.elim
def Ay (z:Nat->Bool) (ab:List Int) (left:Int) (n:Nat):List (Int×Int):=(List.range n).map fun j=>((jq z ab left j).2,ab.getD j 0)
theorem Hh (z:Nat->Bool) (ab:List Int) (left:Int) (n:Nat):Ay z ab left (n+1)=Ay z ab left n ++ [((jq z ab left n).2,ab.getD n 0)]:=by unfold Ay;rw [YX,XH];rfl
def wK (z:Str) (j:Nat):Bool:=decide ((⟨#[z.cps.getD j 0]⟩:Str)=Str.ofString "o")
def Ui:Sp:=fun vs H Q _=>∃ (z:Str) (left:Int) (a:Addr) (ab:List Int),vs=[.str z,.int left,.ref a]/\H a=some (.lst (ab.map V.int))/\z.cps.size=ab.length/\ab.length<=48/\
 ∀ t c b H',H b=none->H c=none->Same H H'->H' t=some (.tup [.ref c,.ref b,.int (jq (wK z) ab left ab.length).2])->H' b=some (.lst ((jq (wK z) ab left ab.length).1.map V.int))->(∃ cs,H' c=some (.lst cs)/\PrI H' cs (Ay (wK z) ab left ab.length))->Q (.ref t) H'
theorem iZ:aD ["signs","left","above","coming","below","sign","line"] ["signs","left","above"] (az qH):=⟨rfl,rfl,rfl,by trivial,rfl,by trivial,by trivial⟩
theorem jr (T:Txt K mg):nQ P w K mg base 1 "over_row" ["signs","left","above"] Ui:=by
 refine ir T.d_over_row iZ (fun _ _ _ _ _ _ us hl=>L2.pZ (fun _ _ _=>rfl) us hl) ?_ fun f cdv A outer s H vs Q E hr h=>?_
 ·rintro vs H Q E ⟨z,left,a,ab,rfl,_⟩;rfl
 obtain ⟨z,left,a,ab,rfl,ha,hz,hl,q⟩:=h
 have hu:=hr.units0
 have hu64:=hr.units
 refine ⟨_,(aq (aH (i:=3) iZ.nd rfl cG (fM ao) rfl) (aq (aH (i:=4) iZ.nd rfl cG (fM ao) rfl) (aq (je YB rfl (Ke (K:=K) rfl rfl bc T.b_zip (aa (ak 0) (aa (ak 2) ao))) (lQ (K:=K) rfl rfl (aX (aZ (i:=5) iZ.nd rfl cG rfl) (aX (aZ (i:=6) iZ.nd rfl cG rfl) iz))) (aq (bh (ie (K:=K) rfl Yb X6 X7 b7 (ak 3) (aa (uB (aa (ak 1) (aa (ak 6) ao))) ao))) (aA (bZ (bB (Cp (K:=K) rfl hu64) (ak 5) (qp bc T.c_TOUCH (by trivial)) (by walk_at "p")) (aq (bh (ie (K:=K) rfl Yb X6 X7 b7 (ak 4) (aa (ak 1) ao))) (aA (aH (i:=1) iZ.nd rfl cG (ak 6) rfl))) (aA (bh (ie (K:=K) rfl Yb X6 X7 b7 (ak 4) (aa (ak 6) ao)))))))) (aA (aJ (uB (aa (ak 3) (aa (ak 4) (aa (ak 1) ao))))))))),?_⟩
 walk_at "s"
 refine ji rfl fun C nC=>?_
 walk_at "s"
 refine ji rfl fun B nB=>?_
 have nBH:H B=none:=((Same.refl H).upd nC).free nB
 have nCB:C≠B:=fun z=>by rw [z,aj] at nB;cases nB
 have e0:upd (upd H C (.lst [])) B (.lst []) C=some (.lst []):=by rw [aC nCB];exact aj
 have S0:Same H (upd (upd H C (.lst [])) B (.lst [])):=((Same.refl H).upd nC).upd nB
 walk_at "s"
 refine ⟨z,a,ab.map V.int,rfl,SqL.of (S0 _ _ ha),?_⟩
 refine GX (ys:=ab.map V.int) (fun j U H'=>Same H H'/\(∃ cs,H' C=some (.lst cs)/\cs.length=j/\PrI H' cs (Ay (wK z) ab left j))/\H' B=some (.lst ((jq (wK z) ab left j).1.map V.int))/\
   ∃ x5 x6,U=[some (.str z),some (.int (jq (wK z) ab left j).2),some (.ref a),some (.ref C),some (.ref B),x5,x6])
  (by rw [Xu];exact hz) ⟨S0,⟨[],e0,rfl,trivial⟩,aj,none,none,rfl⟩ (fun i U H' _ h=>SqL.of (h.1 _ _ ha)) ?_ ?_
 ·rintro j U H1 T0 y hy ⟨S1,⟨cs,hC,hcs,hW⟩,hB,x5,x6,rfl⟩ nT
  obtain ⟨n,hn,rfl⟩:∃ n,ab[j]?=some n/\y=V.int n:=by
   rw [Xw] at hy
   cases e:ab[j]? with
   | none=>rw [e] at hy;cases hy
   | some n=>rw [e] at hy;exact ⟨n,rfl,(XS hy).symm⟩
  have hj:j < ab.length:=(Xn.mp hn).1
  have en:ab.getD j 0=n:=by rw [Xl,hn];rfl
  refine bH (xs:=[.str ⟨#[z.cps.getD j 0]⟩,.int n]) (SqT.of aj) rfl ?_
  have hC2:=aP nT hC (o:=.tup [.str ⟨#[z.cps.getD j 0]⟩,.int n])
  have hB2:=aP nT hB (o:=.tup [.str ⟨#[z.cps.getD j 0]⟩,.int n])
  have hW2:=hW.same ((Same.refl H1).upd nT (o:=.tup [.str ⟨#[z.cps.getD j 0]⟩,.int n]))
  have S2:=S1.upd nT (o:=.tup [.str ⟨#[z.cps.getD j 0]⟩,.int n])
  generalize upd H1 T0 (.tup [.str ⟨#[z.cps.getD j 0]⟩,.int n])=H2 at hC2 hB2 S2 hW2 ⊢
  have hs:100<=sizeLine:=by decide
  walk_at "s"
  refine ⟨.inl ⟨rfl,_,SqL.of hC2⟩,?_⟩
  walk_at "s"
  refine ji rfl fun p np=>?_
  have hC3:=aP np hC2 (o:=.tup [.int (jq (wK z) ab left j).2,.int n])
  have hB3:=aP np hB2 (o:=.tup [.int (jq (wK z) ab left j).2,.int n])
  have S3:=S2.upd np (o:=.tup [.int (jq (wK z) ab left j).2,.int n])
  have hW3:PrI (upd H2 p (.tup [.int (jq (wK z) ab left j).2,.int n])) (cs ++ [.ref p]) (Ay (wK z) ab left (j+1)):=by
   rw [Hh,en]
   exact (hW2.same ((Same.refl H2).upd np)).push aj
  generalize upd H2 p (.tup [.int (jq (wK z) ab left j).2,.int n])=H3 at hC3 hB3 S3 hW3 ⊢
  walk_at "s"
  refine cF hC3 (by omega) ?_
  have S4:=over (o:=.lst (cs ++ [.ref p])) S3 nC
  have hC4:upd H3 C (.lst (cs ++ [.ref p])) C=some (.lst (cs ++ [.ref p])):=aj
  have hB4:upd H3 C (.lst (cs ++ [.ref p])) B=some (.lst ((jq (wK z) ab left j).1.map V.int)):=by rw [aC nCB.symm];exact hB3
  have hW4:=hW3.upd hC3 (o:=.lst (cs ++ [.ref p]))
  generalize upd H3 C (.lst (cs ++ [.ref p]))=H4 at hC4 hB4 S4 hW4 ⊢
  have hlB:((jq (wK z) ab left j).1.map V.int).length < sizeLine:=by rw [Xu,Aw];omega
  walk_at "s"
  refine uP (fun hk=>?_) (fun hk=>?_)
  ·have hk':wK z j=true:=Xq (V.str.inj hk)
   walk_at "s"
   refine ⟨.inl ⟨rfl,_,SqL.of hB4⟩,?_⟩
   walk_at "s"
   refine cF hB4 hlB ?_
   walk_at "s"
   refine ⟨over S4 nBH,⟨cs ++ [.ref p],by rw [aC nCB];exact hC4,by simp [hcs],hW4.upd hB4⟩,?_,some (.str ⟨#[z.cps.getD j 0]⟩),some (.int n),?_⟩
   ·rw [aj,jq,if_pos hk',XH];rfl
   ·rw [jq,if_pos hk',en];rfl
  ·have hk':¬ wK z j=true:=fun h=>hk (congrArg V.str (Z0 h))
   walk_at "s"
   refine ⟨.inl ⟨rfl,_,SqL.of hB4⟩,?_⟩
   walk_at "s"
   refine cF hB4 hlB ?_
   refine ⟨over S4 nBH,⟨cs ++ [.ref p],by rw [aC nCB];exact hC4,by simp [hcs],hW4.upd hB4⟩,?_,some (.str ⟨#[z.cps.getD j 0]⟩),some (.int n),?_⟩
   ·rw [aj,jq,if_neg hk',en,XH];rfl
   ·rw [jq,if_neg hk'];rfl
 ·rintro U H1 ⟨S1,⟨cs,hC,hcs,hW⟩,hB,x5,x6,rfl⟩
  rw [Xu] at hB hW
  walk_at "s"
  refine ji rfl fun p np=>?_
  walk_at "s"
  rw [Xu]
  exact q p C B _ nBH nC (S1.upd np) aj (aP np hB) ⟨cs,aP np hC,hW.same ((Same.refl H1).upd np)⟩
def Uj:Sp:=fun vs H Q _=>∃ (m far:Nat) (C:Nat->Nat->Bool) (b r:Addr),vs=[.ref b,.ref r]/\m<=48/\far<=48/\H b=some (.lst ((t7 m C far m).map V.int))/\H r=some (.lst ((Hg m C far m).map V.int))/\
 ∀ e R H',H e=none->Same H H'->IsEnds m C far R->H' e=some (.lst (R.map V.int))->Q (.ref e) H'
theorem QQ {n k:Nat} (h:k < n):FZ n (k:Int)=some k:=by
 unfold FZ
 rw [if_pos (by omega),if_pos (by omega)];rfl
theorem Uk (n:Nat):(List.replicate n [V.int 0]).flatten=(List.replicate n (0:Int)).map V.int:=by
 induction n with
 | zero=>rfl
 | succ n ih=>rw [YF,Y4,ih,YF];rfl
theorem jt:aD ["below","right","ends","column","line","place"] ["below","right"] (az tX):=⟨rfl,rfl,rfl,by trivial,rfl,by trivial,by trivial⟩
theorem ue (T:Txt K mg):nQ P w K mg base 1 "ends_of" ["below","right"] Uj:=by
 refine ir T.d_ends_of jt (fun _ _ _ _ _ _ us hl=>L2.nP (fun _ _=>rfl) us hl) ?_ fun f cdv A outer s H vs Q E hr h=>?_
 ·rintro vs H Q E ⟨m,far,C,b,r,rfl,_⟩;rfl
 obtain ⟨m,far,C,b,r,rfl,hm,hf,hb,hr',q⟩:=h
 have hu:=hr.units0
 have hu64:=hr.units
 refine ⟨_,(aq (aH (i:=2) jt.nd rfl cG (bf lg (fM (aa aB ao)) (bf aN (aL (aK (K:=K) rfl) bc T.b_len bj (aa (ak 0) ao) (by trivial) (by trivial)) (aL (aK (K:=K) rfl) bc T.b_len bj (aa (ak 1) ao) (by trivial) (by trivial)))) rfl) (aq (je YB rfl (lC (K:=K) rfl rfl bc T.b_enumerate (aa (ak 0) ao)) (lQ (K:=K) rfl rfl (aX (aZ (i:=3) jt.nd rfl cG rfl) (aX (aZ (i:=4) jt.nd rfl cG rfl) iz))) (aA (jd (ts:=uw) (ak 3) (jV (ak 2) (ak 4) set_list)))) (aq (je YB rfl (Cw (K:=K) rfl bc T.b_enumerate bc T.b_reversed (ak 1)) (lQ (K:=K) rfl rfl (aX (aZ (i:=5) jt.nd rfl cG rfl) (aX (aZ (i:=4) jt.nd rfl cG rfl) iz))) (aA (jd (ts:=uw) (bf aN (aL (aK (K:=K) rfl) bc T.b_len bj (aa (ak 0) ao) (by trivial) (by trivial)) (ak 5)) (jV (ak 2) (ak 4) set_list)))) (aA (aJ (ak 2)))))),?_⟩
 walk_at "s"
 have hs:1000<=sizeLine:=by decide
 have lb:((t7 m C far m).map V.int).length=far:=by simp [t7]
 have lr:((Hg m C far m).map V.int).length=m:=by simp [Hg]
 refine ⟨by decide,fun z nz=>?_⟩
 walk_at "s"
 refine gZ (SqL.of (aP nz hb)) ?_
 rw [lb]
 walk_at "s"
 refine gZ (SqL.of (aP nz hr')) ?_
 rw [lr]
 walk_at "s"
 have eN:((far:Int)+(m:Int)).toNat=m+far:=by omega
 refine yF aj (by omega) (by omega) (by rw [eN];simp;omega) fun e ne=>?_
 rw [eN,Uk]
 have neH:H e=none:=((Same.refl H).upd nz).free ne
 have S0:=((Same.refl H).upd (o:=.lst [.int 0]) nz).upd (o:=.lst ((List.replicate (m+far) (0:Int)).map V.int)) ne
 have e0:=aj (H:=upd H z (.lst [.int 0])) (a:=e) (o:=.lst ((List.replicate (m+far) (0:Int)).map V.int))
 generalize upd (upd H z (.lst [.int 0])) e (.lst ((List.replicate (m+far) (0:Int)).map V.int))=H1 at S0 e0 ⊢
 have nbe:b≠e:=fun z=>by rw [z,neH] at hb;cases hb
 have nre:r≠e:=fun z=>by rw [z,neH] at hr';cases hr'
 walk_at "s"
 refine .inr ⟨b,_,rfl,SqL.of (S0 _ _ hb),?_⟩
 refine jP (xs:=(t7 m C far m).map V.int) (fun j U H'=>Same H H'/\(∃ R:List Int,H' e=some (.lst (R.map V.int))/\R.length=m+far/\∀ l,l < j->R[gD m C l m]?=some (l:Int))/\∃ x3 x4 x5,U=[some (.ref b),some (.ref r),some (.ref e),x3,x4,x5])
  ⟨S0,⟨_,e0,by simp,fun l hl=>absurd hl (by omega)⟩,none,none,none,rfl⟩ (fun i U H' _ h=>SqL.of (h.1 _ _ hb)) ?_ ?_
 ·rintro j U H2 T0 x hx ⟨S2,⟨R,hR,lR,gR⟩,x3,x4,x5,rfl⟩ nT
  have hj:j < far:=by
   have:=(Xn.mp hx).1
   rw [lb] at this;exact this
  obtain rfl:x=V.int ((gD m C j m:Nat):Int):=by
   rw [Xw,O9 hj] at hx
   exact (XS hx).symm
  have hlt:=Ax (m:=m) (C:=C) (far:=far) |>.2 j hj
  refine bH (xs:=[.int j,.int ((gD m C j m:Nat):Int)]) (SqT.of aj) rfl ?_
  have hR2:=aP nT hR (o:=.tup [.int j,.int ((gD m C j m:Nat):Int)])
  have S3:=S2.upd nT (o:=.tup [.int j,.int ((gD m C j m:Nat):Int)])
  generalize upd H2 T0 (.tup [.int j,.int ((gD m C j m:Nat):Int)])=H3 at hR2 S3 ⊢
  walk_at "s"
  refine cz hR2 (QQ (by rw [Xu,lR];exact hlt)) ?_
  rw [← List.map_set]
  refine ⟨over S3 neH,⟨R.set (gD m C j m) j,aj,by simp [lR],fun l hl=>?_⟩,some (.int j),some (.int ((gD m C j m:Nat):Int)),x5,rfl⟩
  by_cases hlj:l=j
  ·subst hlj
   rw [Yw (by omega)]
  ·rw [Yd (WL (m:=m) (C:=C) (far:=far) hj (by omega) (fun z=>hlj z.symm))]
   exact gR l (by omega)
 ·rintro U H2 ⟨S2,⟨R,hR,lR,gR⟩,x3,x4,x5,rfl⟩
  rw [lb] at gR
  walk_at "s"
  refine ⟨r,(Hg m C far m).map V.int,rfl,SqL.of (S2 _ _ hr'),?_⟩
  refine GP (xs:=(Hg m C far m).map V.int) (fun j U H'=>Same H H'/\(∃ R:List Int,H' e=some (.lst (R.map V.int))/\R.length=m+far/\(∀ l,l < far->R[gD m C l m]?=some (l:Int))/\∀ l,l < j->R[gA m C (m - 1 - l) far]?=some ((far+l:Nat):Int))/\∃ x3 x4 x5,U=[some (.ref b),some (.ref r),some (.ref e),x3,x4,x5])
   ⟨S2,⟨R,hR,lR,gR,fun l hl=>absurd hl (by omega)⟩,_,_,_,rfl⟩ (fun i U H' _ h=>SqL.of (h.1 _ _ hr')) ?_ ?_
  ·rintro j U H3 T0 x hj hx ⟨S3,⟨R,hR,lR,gR,aR⟩,x3,x4,x5,rfl⟩ nT
   rw [lr] at hj hx
   obtain rfl:x=V.int ((gA m C (m - 1 - j) far:Nat):Int):=by
    rw [Xw,Uh (by omega)] at hx
    exact (XS hx).symm
   have hlt:=Ax (m:=m) (C:=C) (far:=far) |>.1 (m - 1 - j) (by omega)
   refine bH (xs:=[.int j,.int ((gA m C (m - 1 - j) far:Nat):Int)]) (SqT.of aj) rfl ?_
   have hR2:=aP nT hR (o:=.tup [.int j,.int ((gA m C (m - 1 - j) far:Nat):Int)])
   have S4:=S3.upd nT (o:=.tup [.int j,.int ((gA m C (m - 1 - j) far:Nat):Int)])
   generalize upd H3 T0 (.tup [.int j,.int ((gA m C (m - 1 - j) far:Nat):Int)])=H4 at hR2 S4 ⊢
   walk_at "s"
   refine gZ (SqL.of (S4 _ _ hb)) ?_
   rw [lb]
   walk_at "s"
   refine cz hR2 (QQ (by rw [Xu,lR];exact hlt)) ?_
   rw [← List.map_set]
   refine ⟨over S4 neH,⟨R.set (gA m C (m - 1 - j) far) ((far:Int)+j),aj,by simp [lR],fun l hl=>?_,fun l hl=>?_⟩,x3,some (.int ((gA m C (m - 1 - j) far:Nat):Int)),some (.int j),rfl⟩
   ·rw [Yd (WM (m:=m) (C:=C) (far:=far) (by omega) hl)]
    exact gR l hl
   ·by_cases hlj:l=j
    ·subst hlj
     rw [Yw (by omega)]
     congr 1
    ·rw [Yd (WK (m:=m) (C:=C) (far:=far) (by omega) (by omega) (by omega))]
     exact aR l (by omega)
  ·rintro U H3 ⟨S3,⟨R,hR,lR,gR,aR⟩,x3,x4,x5,rfl⟩
   rw [lr] at aR
   walk_at "s"
   refine q e R H3 neH S3 ⟨lR,gR,fun i hi=>?_⟩ hR
   have:=aR (m - 1 - i) (by omega)
   rw [show m - 1 - (m - 1 - i)=i by omega] at this
   exact this
def cC (rows:List Str) (i:Nat):Nat->Bool:=wK (rows.getD i ⟨#[]⟩)
def Az (m:Nat) (C:Nat->Nat->Bool) (far i:Nat):List (Int×Int):=(List.range far).map fun j=>(((gA m C i j:Nat):Int),((gD m C j i:Nat):Int))
def Cmg (H:Hp) (P:Addr->Prop) (m:Nat) (C:Nat->Nat->Bool) (far:Nat) (cs:List V) (n:Nat):Prop:=cs.length=n/\∀ i,i < n->∃ c ws,cs[i]?=some (.ref c)/\P c/\H c=some (.lst ws)/\PrI H ws (Az m C far i)
theorem Cmg.imp {H H':Hp} {P P':Addr->Prop} {m:Nat} {C:Nat->Nat->Bool} {far:Nat} {cs:List V} {n:Nat} (h:Cmg H P m C far cs n) (ht:∀ p us,H p=some (.tup us)->H' p=some (.tup us)) (hl:∀ c ws,P c->H c=some (.lst ws)->H' c=some (.lst ws)) (hp:∀ c,P c->P' c):Cmg H' P' m C far cs n:=
 ⟨h.1,fun i hi=>by
  obtain ⟨c,ws,e1,e2,e3,e4⟩:=h.2 i hi
  exact ⟨c,ws,e1,hp c e2,hl c ws e2 e3,e4.imp ht⟩⟩
theorem Cmg.same {H H':Hp} {P:Addr->Prop} {m:Nat} {C:Nat->Nat->Bool} {far:Nat} {cs:List V} {n:Nat} (h:Cmg H P m C far cs n) (s:Same H H'):Cmg H' P m C far cs n:=h.imp (fun p us e=>s _ _ e) (fun c ws _ e=>s _ _ e) fun _ z=>z
theorem Cmg.push {H:Hp} {P:Addr->Prop} {m:Nat} {C:Nat->Nat->Bool} {far:Nat} {cs:List V} {n:Nat} {c:Addr} {ws:List V} (h:Cmg H P m C far cs n) (hP:P c) (hc:H c=some (.lst ws)) (hw:PrI H ws (Az m C far n)):Cmg H P m C far (cs ++ [.ref c]) (n+1):=by
 refine ⟨by rw [Yc,h.1];rfl,fun i hi=>?_⟩
 by_cases e:i=n
 ·subst e
  exact ⟨c,ws,by rw [X5 (by rw [h.1];exact Xp _),h.1,Nat.sub_self];rfl,hP,hc,hw⟩
 ·obtain ⟨d,us,e1,e2⟩:=h.2 i (by omega)
  exact ⟨d,us,by rw [X8 (by rw [h.1];omega)];exact e1,e2⟩
theorem Cmg.upd {H:Hp} {P:Addr->Prop} {m:Nat} {C:Nat->Nat->Bool} {far:Nat} {cs us:List V} {n:Nat} {f:Addr} {o:HO} (h:Cmg H P m C far cs n) (hf:H f=some (.lst us)) (hP:∀ c,P c->c≠f):Cmg (upd H f o) P m C far cs n:=
 h.imp (fun p vs e=>by rw [aC (fun z=>by rw [z,hf] at e;cases e)];exact e) (fun c ws pc e=>by rw [aC (hP c pc)];exact e) fun _ z=>z
def Pb:Sp:=fun vs H Q _=>∃ (m far:Nat) (rows:List Str) (c:Addr),vs=[.int m,.int far,.ref c]/\H c=some (.lst (rows.map V.str))/\rows.length=m/\m<=48/\far<=48/\(∀ z∈rows,z.cps.size=far)/\
 ∀ t cm e R H',H e=none->Same H H'->H' t=some (.tup [.ref cm,.ref e])->IsEnds m (cC rows) far R->H' e=some (.lst (R.map V.int))->(∃ cs,H' cm=some (.lst cs)/\Cmg H' (fun _=>True) m (cC rows) far cs m)->Q (.ref t) H'
theorem Ul {m:Nat} {C:Nat->Nat->Bool} {far i:Nat}:Ay (C i) (t7 m C far i) ((gA m C i 0:Nat):Int) far=Az m C far i:=by
 unfold Ay Az
 refine List.map_congr_left fun j hj=>?_
 have hj':=XJ.mp hj
 rw [za j (by omega),De hj']
theorem Lb {m:Nat} {C:Nat->Nat->Bool} {far:Nat}:t7 m C far 0=(List.range far).map fun l=>((m+l:Nat):Int):=by
 unfold t7
 simp only [jh]
theorem u9 {m:Nat} {C:Nat->Nat->Bool} {far i:Nat}:(t7 m C far i).length=far:=by simp [t7]
theorem Pg {m:Nat} {C:Nat->Nat->Bool} {far i:Nat}:(Hg m C far i).length=i:=by simp [Hg]
theorem cM:aD ["many","far","cells","above","coming","right","row","signs","gone"] ["many","far","cells"] (az mW):=⟨rfl,rfl,rfl,by trivial,rfl,by trivial,by trivial⟩
theorem m9 (T:Txt K mg):nQ P w K mg base 2 "over_cells" ["many","far","cells"] Pb:=by
 have fJ:=fJ (P:=P) (w:=w) (base:=base) T
 have jr:=jr (P:=P) (w:=w) (base:=base) T
 have ue:=ue (P:=P) (w:=w) (base:=base) T
 refine ir T.d_over_cells cM (fun _ _ _ _ _ _ us hl=>L2.pZ (fun _ _ _=>rfl) us hl) ?_ fun f cdv A outer s H vs Q E hr h=>?_
 ·rintro vs H Q E ⟨m,far,rows,c,rfl,_⟩;rfl
 obtain ⟨m,far,rows,c,rfl,hc,hr',hm,hf,hz,q⟩:=h
 have hu:=hr.units0
 have hu64:=hr.units
 refine ⟨_,(aq (aH (i:=3) cM.nd rfl cG (aO fJ (hr.mono (by decide)) bc (aa (ak 0) (aa (ak 1) ao)) (by trivial)) rfl) (aq (aH (i:=4) cM.nd rfl cG (fM ao) rfl) (aq (aH (i:=5) cM.nd rfl cG (fM ao) rfl) (aq (je YB rfl (lC (K:=K) rfl rfl bc T.b_enumerate (aa (ak 2) ao)) (lQ (K:=K) rfl rfl (aX (aZ (i:=6) cM.nd rfl cG rfl) (aX (aZ (i:=7) cM.nd rfl cG rfl) iz))) (aq (aH (i:=8) cM.nd rfl cG (aO jr (hr.mono (by decide)) bc (aa (ak 7) (aa (bf jj (bf jj (ak 0) aB) (ak 6)) (aa (ak 3) ao))) (by trivial)) rfl) (aq (bh (ie (K:=K) rfl Yb X6 X7 b7 (ak 4) (aa (bx (K:=K) rfl (ak 8) aB) ao))) (aq (aH (i:=3) cM.nd rfl cG (bx (K:=K) rfl (ak 8) aB) rfl) (aA (bh (ie (K:=K) rfl Yb X6 X7 b7 (ak 5) (aa (bx (K:=K) rfl (ak 8) aB) ao)))))))) (aA (aJ (uB (aa (ak 4) (aa (aO ue (hr.mono (by decide)) bc (aa (ak 3) (aa (ak 5) ao)) (by trivial)) ao))))))))),?_⟩
 walk_at "s"
 have hs:1000<=sizeLine:=by decide
 refine ⟨m,far,rfl,hm,hf,fun A0 nA=>?_⟩
 rw [← Lb (C:=cC rows)]
 have SA:=(Same.refl H).upd nA (o:=.lst ((t7 m (cC rows) far 0).map V.int))
 have eA:=aj (H:=H) (a:=A0) (o:=.lst ((t7 m (cC rows) far 0).map V.int))
 generalize upd H A0 (.lst ((t7 m (cC rows) far 0).map V.int))=H1 at SA eA ⊢
 walk_at "s"
 refine ji rfl fun CM nC=>?_
 have SC:=SA.upd nC (o:=.lst [])
 have eC:=aj (H:=H1) (a:=CM) (o:=.lst [])
 have eA2:=aP nC eA (o:=.lst [])
 have nCH:=SA.free nC
 generalize upd H1 CM (.lst [])=H2 at SC eC eA2 ⊢
 walk_at "s"
 refine ji rfl fun RT nR=>?_
 have SR:=SC.upd nR (o:=.lst [])
 have eR:=aj (H:=H2) (a:=RT) (o:=.lst [])
 have eA3:=aP nR eA2 (o:=.lst [])
 have eC3:=aP nR eC (o:=.lst [])
 have nRH:=SC.free nR
 have nCR:CM≠RT:=fun z=>by rw [z,nR] at eC;cases eC
 generalize upd H2 RT (.lst [])=H3 at SR eR eA3 eC3 ⊢
 walk_at "s"
 refine .inr ⟨c,_,rfl,SqL.of (SR _ _ hc),?_⟩
 refine jP (xs:=rows.map V.str) (fun i U H'=>Same H H'/\(∃ cs,H' CM=some (.lst cs)/\cs.length=i/\Cmg H' (fun c=>c≠CM/\c≠RT) m (cC rows) far cs i)/\H' RT=some (.lst ((Hg m (cC rows) far i).map V.int))/\
   ∃ a x6 x7 x8,H' a=some (.lst ((t7 m (cC rows) far i).map V.int))/\a≠CM/\a≠RT/\U=[some (.int m),some (.int far),some (.ref c),some (.ref a),some (.ref CM),some (.ref RT),x6,x7,x8])
  ⟨SR,⟨[],eC3,rfl,rfl,fun i hi=>absurd hi (Zo _)⟩,eR,A0,none,none,none,eA3,(fun z=>by rw [z,nC] at eA;cases eA),(fun z=>by rw [z,nR] at eA2;cases eA2),rfl⟩ (fun i U H' _ h=>SqL.of (h.1 _ _ hc)) ?_ ?_
 ·rintro i U H4 T0 x hx ⟨S4,⟨cs,hC,hcs,hG⟩,hR,a,x6,x7,x8,ha,nac,nar,rfl⟩ nT
  have hi:i < rows.length:=by
   have:=(Xn.mp hx).1
   simpa using this
  obtain ⟨z,hzi,rfl⟩:∃ z,rows[i]?=some z/\x=V.str z:=by
   rw [Xw] at hx
   cases e:rows[i]? with
   | none=>rw [e] at hx;cases hx
   | some n=>rw [e] at hx;exact ⟨n,rfl,(XS hx).symm⟩
  have ez:rows.getD i ⟨#[]⟩=z:=by rw [Xl,hzi];rfl
  refine bH (xs:=[.int i,.str z]) (SqT.of aj) rfl ?_
  have hC5:=aP nT hC (o:=.tup [.int i,.str z])
  have hR5:=aP nT hR (o:=.tup [.int i,.str z])
  have ha5:=aP nT ha (o:=.tup [.int i,.str z])
  have S5:=S4.upd nT (o:=.tup [.int i,.str z])
  have hG5:=hG.same ((Same.refl H4).upd nT (o:=.tup [.int i,.str z]))
  generalize upd H4 T0 (.tup [.int i,.str z])=H5 at hC5 hR5 ha5 S5 hG5 ⊢
  walk_at "s"
  rw [show ((m:Int) - 1 - (i:Int))=((gA m (cC rows) i 0:Nat):Int) by rw [jA];omega]
  refine ⟨z,_,a,_,rfl,ha5,by rw [u9];exact hz z (X3 hzi),by rw [u9];exact hf,fun t c1 b H6 nb nc1 S6 ht hb hcc=>?_⟩
  have eC':wK z=cC rows i:=by unfold cC;rw [ez]
  rw [eC',u9,za far (Xp _)] at ht hb
  rw [eC',u9,Ul] at hcc
  obtain ⟨ws,hc1,hws⟩:=hcc
  have nc1C:c1≠CM:=fun z=>by rw [z,hC5] at nc1;cases nc1
  have nc1R:c1≠RT:=fun z=>by rw [z,hR5] at nc1;cases nc1
  have hG6:=(hG5.same S6).push ⟨nc1C,nc1R⟩ hc1 hws
  have hC6:=S6 _ _ hC5
  have hR6:=S6 _ _ hR5
  have nbC:b≠CM:=fun z=>by rw [z,hC5] at nb;cases nb
  have nbR:b≠RT:=fun z=>by rw [z,hR5] at nb;cases nb
  have tC:t≠CM:=fun z=>by rw [z,hC6] at ht;cases ht
  have tR:t≠RT:=fun z=>by rw [z,hR6] at ht;cases ht
  walk_at "s"
  refine ⟨.inl ⟨rfl,_,SqL.of hC6⟩,?_⟩
  walk_at "s"
  refine cF hC6 (by omega) ?_
  have S7:=over (o:=.lst (cs ++ [.ref c1])) (S5.trans S6) nCH
  have hC7:=aj (H:=H6) (a:=CM) (o:=.lst (cs ++ [.ref c1]))
  have hR7:upd H6 CM (.lst (cs ++ [.ref c1])) RT=_:=(aC nCR.symm).trans hR6
  have ht7:upd H6 CM (.lst (cs ++ [.ref c1])) t=_:=(aC tC).trans ht
  have hb7:upd H6 CM (.lst (cs ++ [.ref c1])) b=_:=(aC nbC).trans hb
  have hG7:=hG6.upd hC6 (o:=.lst (cs ++ [.ref c1])) fun c hc=>hc.1
  generalize upd H6 CM (.lst (cs ++ [.ref c1]))=H7 at S7 hC7 hR7 ht7 hb7 hG7 ⊢
  clear ht hb
  walk_at "s"
  refine ⟨.inl ⟨rfl,_,SqL.of hR7⟩,?_⟩
  walk_at "s"
  refine cF hR7 (by rw [Xu,Pg];omega) ?_
  refine ⟨over S7 nRH,⟨cs ++ [.ref c1],(aC nCR).trans hC7,by simp [hcs],hG7.upd hR7 fun c hc=>hc.2⟩,?_,b,some (.int i),some (.str z),some (.ref t),(aC nbR).trans hb7,nbC,nbR,rfl⟩
  rw [aj]
  have e:Hg m (cC rows) far (i+1)=Hg m (cC rows) far i ++ [((gA m (cC rows) i far:Nat):Int)]:=by unfold Hg;rw [YX,XH];rfl
  rw [e,XH];rfl
 ·rintro U H4 ⟨S4,⟨cs,hC,hcs,hG⟩,hR,a,x6,x7,x8,ha,nac,nar,rfl⟩
  rw [Xu,hr'] at hR ha hG
  walk_at "s"
  refine ⟨m,far,cC rows,a,RT,rfl,hm,hf,ha,hR,fun e R H5 ne S5 hE hR5=>?_⟩
  walk_at "s"
  refine ji rfl fun t nt=>?_
  walk_at "s"
  exact q t CM e R _ (S4.free ne) ((S4.trans S5).upd nt) aj hE (aP nt hR5) ⟨cs,aP nt (S5 _ _ hC),(hG.same (S5.upd nt)).imp (fun _ _ z=>z) (fun _ _ _ z=>z) fun _ _=>trivial⟩
def Df (c:Nat) (top:Str) (ab:List Int) (left:Int):Nat->Int
 | 0=>left
 | j+1=>if (decide (c=top.cps.getD j 0) || decide (ab.getD j 0 < Df c top ab left j))=true then ab.getD j 0 else Df c top ab left j
def w6 (c:Nat) (top:Str) (ab:List Int) (left:Int) (j:Nat):Bool:=decide (c=top.cps.getD j 0) || decide (ab.getD j 0 < Df c top ab left j)
def WN (b:Bool):Str:=if b=true then Str.ofString "o" else Str.ofString "x"
def xY (c:Nat) (top:Str) (ab:List Int) (left:Int) (j:Nat):List Str:=(List.range j).map fun k=>WN (w6 c top ab left k)
theorem Ld {c:Nat} {top:Str} {ab:List Int} {left:Int} {j:Nat}:∀ y∈xY c top ab left j,y.length=1:=fun y hy=>by
 obtain ⟨k,_,rfl⟩:=Yr.mp hy
 unfold WN
 split <;> trivial
def Ph:Sp:=fun vs H Q _=>∃ (c:Nat) (top:Str) (left:Int) (a:Addr) (ab:List Int),vs=[.str ⟨#[c]⟩,.str top,.int left,.ref a]/\H a=some (.lst (ab.map V.int))/\top.cps.size=ab.length/\ab.length<=48/\
 ∀ H',Same H H'->Q (.str (Txt.join (Str.ofString "") (xY c top ab left ab.length))) H'
theorem fH:aD ["sign","top","left","above","signs","column","other"] ["sign","top","left","above"] (az jX):=⟨rfl,rfl,rfl,by trivial,rfl,by trivial,by trivial⟩
theorem j0 (T:Txt K mg):nQ P w K mg base 1 "signs_of_row" ["sign","top","left","above"] Ph:=by
 refine ir T.d_signs_of_row fH (fun _ _ _ _ _ _ us hl=>L2.yg (fun _ _ _ _=>rfl) us hl) ?_ fun f cdv A outer s H vs Q E hr h=>?_
 ·rintro vs H Q E ⟨c,top,left,a,ab,rfl,_⟩;rfl
 obtain ⟨c,top,left,a,ab,rfl,ha,hz,hl,q⟩:=h
 have hu:=hr.units0
 have hu64:=hr.units
 refine ⟨_,(aq (aH (i:=4) fH.nd rfl cG (fM ao) rfl) (aq (je YB rfl (lC (K:=K) rfl rfl bc T.b_enumerate (aa (ak 1) ao)) (lQ (K:=K) rfl rfl (aX (aZ (i:=5) fH.nd rfl cG rfl) (aX (aZ (i:=6) fH.nd rfl cG rfl) iz))) (aA (bZ (uA (xQ (bB (Cp (K:=K) rfl hu64) (ak 0) (ak 6) (by walk_at "p")) (tH (bB vo (ak 2) (bx (K:=K) rfl (ak 3) (ak 5)) (by walk_at "p"))))) (aq (bh (ie (K:=K) rfl Yb X6 X7 b7 (ak 4) (aa (qp bc T.c_TOUCH (by trivial)) ao))) (aA (aH (i:=2) fH.nd rfl cG (bx (K:=K) rfl (ak 3) (ak 5)) rfl))) (aA (bh (ie (K:=K) rfl Yb X6 X7 b7 (ak 4) (aa (qp bc T.c_CROSS (by trivial)) ao))))))) (aA (aJ (ie (K:=K) rfl PySem.F.plainAttrs_str PySem.F.slot_str_join PySem.F.type_str_join DX xP (aa (ak 4) ao)))))),?_⟩
 walk_at "s"
 have hs:20000<=sizeLine:=by decide
 refine ji rfl fun S0 nS=>?_
 have e0:=aj (H:=H) (a:=S0) (o:=.lst [])
 have Sm:=(Same.refl H).upd nS (o:=.lst [])
 generalize upd H S0 (.lst [])=H1 at e0 Sm ⊢
 walk_at "s"
 refine .inl ⟨top,rfl,?_⟩
 refine Jx (fun j U H'=>Same H H'/\H' S0=some (.lst ((xY c top ab left j).map V.str))/\∃ x5 x6,U=[some (.str ⟨#[c]⟩),some (.str top),some (.int (Df c top ab left j)),some (.ref a),some (.ref S0),x5,x6])
  ⟨Sm,e0,none,none,rfl⟩ ?_ ?_
 ·rintro j U H2 T0 hj ⟨S2,hS,x5,x6,rfl⟩ nT
  have hj':j < ab.length:=by rw [← hz];exact hj
  refine bH (xs:=[.int j,.str ⟨#[top.cps.getD j 0]⟩]) (SqT.of aj) rfl ?_
  have hS3:=aP nT hS (o:=.tup (nM top j))
  have S3:=S2.upd nT (o:=.tup (nM top j))
  generalize upd H2 T0 (.tup (nM top j))=H3 at hS3 S3 ⊢
  have ha3:=S3 _ _ ha
  have hix:Hr (ab.map V.int) (j:Int)=some (.int (ab.getD j 0)):=by
   refine cH ?_
   rw [Xw,Xl,Xk hj'];rfl
  walk_at "s"
  have hlS:((xY c top ab left j).map V.str).length < sizeLine:=by unfold xY;simp;omega
  have step:(xY c top ab left (j+1)).map V.str=(xY c top ab left j).map V.str ++ [.str (WN (w6 c top ab left j))]:=by unfold xY;rw [YX,XH,XH];rfl
  have stepT:w6 c top ab left j=true->Df c top ab left (j+1)=ab.getD j 0:=fun h=>by rw [Df];exact if_pos h
  have stepF:w6 c top ab left j=false->Df c top ab left (j+1)=Df c top ab left j:=fun h=>by rw [Df];exact if_neg (fun z=>by unfold w6 at h;rw [h] at z;cases z)
  refine uP (fun hk=>?_) (fun hk=>?_)
  ·have ec:c=top.cps.getD j 0:=by
    have:=Str.mk.inj (V.str.inj hk)
    simpa using this
   have hB:w6 c top ab left j=true:=by unfold w6;rw [Xq ec];rfl
   walk_at "s"
   refine ⟨.inl ⟨rfl,_,SqL.of hS3⟩,?_⟩
   walk_at "s"
   refine cF hS3 hlS ?_
   have S4:=over (o:=.lst ((xY c top ab left j).map V.str ++ [.str (Str.ofString "o")])) S3 nS
   have hS4:=aj (H:=H3) (a:=S0) (o:=.lst ((xY c top ab left j).map V.str ++ [.str (Str.ofString "o")]))
   generalize upd H3 S0 (.lst ((xY c top ab left j).map V.str ++ [.str (Str.ofString "o")]))=H4 at S4 hS4 ⊢
   have ha4:=S4 _ _ ha
   walk_at "s"
   refine bG (SqL.of ha4) hix ?_
   walk_at "s"
   exact ⟨S4,by rw [hS4,step,hB];rfl,some (.int j),some (.str ⟨#[top.cps.getD j 0]⟩),by rw [stepT hB];rfl⟩
  ·have ec:¬ c=top.cps.getD j 0:=fun z=>hk (by rw [z])
   walk_at "s"
   refine bG (SqL.of ha3) hix ?_
   walk_at "s"
   refine uP (fun hg=>?_) (fun hg=>?_)
   ·have hB:w6 c top ab left j=true:=by unfold w6;rw [XF ec,Bool.false_or];exact Xq (by omega)
    walk_at "s"
    refine ⟨.inl ⟨rfl,_,SqL.of hS3⟩,?_⟩
    walk_at "s"
    refine cF hS3 hlS ?_
    have S4:=over (o:=.lst ((xY c top ab left j).map V.str ++ [.str (Str.ofString "o")])) S3 nS
    have hS4:=aj (H:=H3) (a:=S0) (o:=.lst ((xY c top ab left j).map V.str ++ [.str (Str.ofString "o")]))
    generalize upd H3 S0 (.lst ((xY c top ab left j).map V.str ++ [.str (Str.ofString "o")]))=H4 at S4 hS4 ⊢
    have ha4:=S4 _ _ ha
    walk_at "s"
    refine bG (SqL.of ha4) hix ?_
    walk_at "s"
    exact ⟨S4,by rw [hS4,step,hB];rfl,some (.int j),some (.str ⟨#[top.cps.getD j 0]⟩),by rw [stepT hB];rfl⟩
   ·have hB:w6 c top ab left j=false:=by unfold w6;rw [XF ec,Bool.false_or];exact XF (by omega)
    walk_at "s"
    refine ⟨.inl ⟨rfl,_,SqL.of hS3⟩,?_⟩
    walk_at "s"
    refine cF hS3 hlS ?_
    have S4:=over (o:=.lst ((xY c top ab left j).map V.str ++ [.str (Str.ofString "x")])) S3 nS
    have hS4:=aj (H:=H3) (a:=S0) (o:=.lst ((xY c top ab left j).map V.str ++ [.str (Str.ofString "x")]))
    generalize upd H3 S0 (.lst ((xY c top ab left j).map V.str ++ [.str (Str.ofString "x")]))=H4 at S4 hS4 ⊢
    exact ⟨S4,by rw [hS4,step,hB];rfl,some (.int j),some (.str ⟨#[top.cps.getD j 0]⟩),by rw [stepF hB];rfl⟩
 ·rintro U H2 ⟨S2,hS,x5,x6,rfl⟩
  rw [hz] at hS
  walk_at "s"
  refine ⟨rfl,?_⟩
  walk_at "s"
  have hs1:=vM (Ld (c:=c) (top:=top) (ab:=ab) (left:=left) (j:=ab.length))
  have e0:(Str.ofString "").length=0:=by trivial
  refine Cj hS (by rw [hs1,e0];unfold xY;simp;omega) ?_
  exact q _ S2
end
local macro_rules | `(tactic| walk_at "s") => `(tactic| (with_reducible repeat (first | refine ou ?_ | walk_at "3")))
local macro_rules | `(tactic| walk_at "n") => `(tactic| (with_reducible repeat (walk_at "3")))
section
variable {P:Program} {w:World} {K:W.Frag} {mg:Str->Option Value} {base:Heap}
def Le (c:Nat) (top:Str) (ab:List Int) (left:Int) (j:Nat):Int:=if w6 c top ab left j=true then Df c top ab left j else ab.getD j 0
def Pj (c:Nat) (top:Str) (ab:List Int) (left:Int) (n:Nat):List Int:=(List.range n).map (Le c top ab left)
theorem Pk {c:Nat} {top:Str} {ab:List Int} {left:Int} {n:Nat}:(Pj c top ab left n).length=n:=by simp [Pj]
theorem Lf (c:Nat) (top:Str) (ab:List Int) (left:Int) (j:Nat):Df c top ab left (j+1)=if w6 c top ab left j=true then ab.getD j 0 else Df c top ab left j:=rfl
def WP (b:Bool):Nat:=if b=true then 111 else 120
theorem Um (b:Bool):(WN b).cps.toList=[WP b]:=by cases b <;> trivial
def Ba (c:Nat) (top:Str) (ab:List Int) (left:Int) (n:Nat):Str:=⟨((List.range n).map fun k=>WP (w6 c top ab left k)).toArray⟩
theorem Pq {a b:Str} (h:a.cps.toList=b.cps.toList):a=b:=by
 cases a;cases b
 exact congrArg Str.mk (Array.toList_inj.mp h)
theorem xZ {α β:Type} (f:α->β):∀ l:List α,(l.map fun k=>[f k]).flatten=l.map f
 | []=>rfl
 | a :: l=>by rw [Yk,Y4,xZ f l];rfl
theorem Hi {c:Nat} {top:Str} {ab:List Int} {left:Int} {n:Nat}:Txt.join (Str.ofString "") (xY c top ab left n)=Ba c top ab left n:=by
 apply Pq
 rw [vL]
 unfold xY Ba
 rw [List.map_map]
 have:((fun y:Str=>y.cps.toList) ∘ fun k=>WN (w6 c top ab left k))=fun k=>[WP (w6 c top ab left k)]:=by
  funext k;exact Um _
 rw [this,xZ]
theorem yc {c:Nat} {top:Str} {ab:List Int} {left:Int} {n:Nat}:(Ba c top ab left n).cps.size=n:=by simp [Ba]
theorem Ex {c:Nat} {top:Str} {ab:List Int} {left:Int} {n j:Nat} (h:j < n):(Ba c top ab left n).cps.getD j 0=WP (w6 c top ab left j):=by
 unfold Ba
 simp [Array.getD,h]
theorem Lg {z:Str} {j:Nat} {b:Bool} (h:z.cps.getD j 0=WP b):wK z j=b:=by
 unfold wK
 rw [h]
 cases b <;> trivial
theorem zb {z:Str} {c:Nat} {top:Str} {ab:List Int} {left:Int} {n:Nat} (hz:∀ j,j < n->wK z j=w6 c top ab left j):∀ j,j<=n->jq (wK z) ab left j=(Pj c top ab left j,Df c top ab left j)
 | 0,_=>rfl
 | j+1,h=>by
  have ih:=zb hz j (by omega)
  have e:Pj c top ab left (j+1)=Pj c top ab left j ++ [Le c top ab left j]:=by unfold Pj;rw [YX,XH];rfl
  rw [jq,ih,hz j (by omega),e,Lf]
  unfold Le
  by_cases hc:w6 c top ab left j=true
  ·rw [if_pos hc,if_pos hc,if_pos hc]
  ·rw [if_neg hc,if_neg hc,if_neg hc]
def yd (m:Nat) (side top:Str):Nat->List Int
 | 0=>(List.range top.cps.size).map fun l=>((m+l:Nat):Int)
 | i+1=>Pj (side.cps.getD i 0) top (yd m side top i) ((m:Int) - 1 - i) top.cps.size
theorem pQ {m:Nat} {side top:Str}:∀ i,(yd m side top i).length=top.cps.size
 | 0=>by simp [yd]
 | i+1=>by rw [yd,Pk]
def Lh (m:Nat) (side top:Str) (i:Nat):Str:=Ba (side.cps.getD i 0) top (yd m side top i) ((m:Int) - 1 - i) top.cps.size
def Dg (m:Nat) (side top:Str) (n:Nat):List Str:=(List.range n).map (Lh m side top)
def mj (side top:Str):List Str:=Dg side.cps.size side top side.cps.size
theorem Li (m:Nat) (side top:Str) (n:Nat):Dg m side top (n+1)=Dg m side top n ++ [Lh m side top n]:=by unfold Dg;rw [YX,XH];rfl
theorem Ey (m:Nat) (side top:Str) (n:Nat):(Dg m side top n).length=n:=by simp [Dg]
def Pu:Sp:=fun vs H Q _=>∃ (side top:Str),vs=[.str side,.str top]/\side.cps.size<=48/\top.cps.size<=48/\
 ∀ D H',H D=none->Same H H'->H' D=some (.lst ((mj side top).map V.str))->Q (.ref D) H'
theorem fu:aD ["side","top","above","cells","row","sign","left","signs"] ["side","top"] (az qI):=⟨rfl,rfl,rfl,by trivial,rfl,by trivial,by trivial⟩
theorem qW (T:Txt K mg):nQ P w K mg base 2 "cells_of" ["side","top"] Pu:=by
 have fJ:=fJ (P:=P) (w:=w) (base:=base) T
 have j0:=j0 (P:=P) (w:=w) (base:=base) T
 have jr:=jr (P:=P) (w:=w) (base:=base) T
 refine ir T.d_cells_of fu (fun _ _ _ _ _ _ us hl=>L2.nP (fun _ _=>rfl) us hl) ?_ fun f cdv A outer s H vs Q E hr h=>?_
 ·rintro vs H Q E ⟨side,top,rfl,_⟩;rfl
 obtain ⟨side,top,rfl,hs,ht,q⟩:=h
 have hu:=hr.units0
 have hu64:=hr.units
 refine ⟨_,(aq (aH (i:=2) fu.nd rfl cG (aO fJ (hr.mono (by decide)) bc (aa (aL (aK (K:=K) rfl) bc T.b_len bj (aa (ak 0) ao) (by trivial) (by trivial)) (aa (aL (aK (K:=K) rfl) bc T.b_len bj (aa (ak 1) ao) (by trivial) (by trivial)) ao)) (by trivial)) rfl) (aq (aH (i:=3) fu.nd rfl cG (fM ao) rfl) (aq (je YB rfl (lC (K:=K) rfl rfl bc T.b_enumerate (aa (ak 0) ao)) (lQ (K:=K) rfl rfl (aX (aZ (i:=4) fu.nd rfl cG rfl) (aX (aZ (i:=5) fu.nd rfl cG rfl) iz))) (aq (aH (i:=6) fu.nd rfl cG (bf jj (bf jj (aL (aK (K:=K) rfl) bc T.b_len bj (aa (ak 0) ao) (by trivial) (by trivial)) aB) (ak 4)) rfl) (aq (aH (i:=7) fu.nd rfl cG (aO j0 (hr.mono (by decide)) bc (aa (ak 5) (aa (ak 1) (aa (ak 6) (aa (ak 2) ao)))) (by trivial)) rfl) (aq (bh (ie (K:=K) rfl Yb X6 X7 b7 (ak 3) (aa (ak 7) ao))) (aA (aH (i:=2) fu.nd rfl cG (bx (K:=K) rfl (aO jr (hr.mono (by decide)) bc (aa (ak 7) (aa (ak 6) (aa (ak 2) ao))) (by trivial)) aB) rfl)))))) (aA (aJ (ak 3)))))),?_⟩
 walk_at "s"
 have hz:1000<=sizeLine:=by decide
 have lz:side.length<=sizeLine:=Xv hs (by decide)
 have ly:top.length<=sizeLine:=Xv ht (by decide)
 refine cI lz ?_
 walk_at "s"
 refine cI ly ?_
 walk_at "s"
 refine ⟨side.cps.size,top.cps.size,rfl,hs,ht,fun A0 nA=>?_⟩
 have e0:((List.range top.cps.size).map fun l=>((side.cps.size+l:Nat):Int))=yd side.cps.size side top 0:=rfl
 rw [e0]
 have SA:=(Same.refl H).upd nA (o:=.lst ((yd side.cps.size side top 0).map V.int))
 have eA:=aj (H:=H) (a:=A0) (o:=.lst ((yd side.cps.size side top 0).map V.int))
 generalize upd H A0 (.lst ((yd side.cps.size side top 0).map V.int))=H1 at SA eA ⊢
 walk_at "s"
 refine ji rfl fun D nD=>?_
 have SD:=SA.upd nD (o:=.lst [])
 have eD:=aj (H:=H1) (a:=D) (o:=.lst [])
 have eA2:=aP nD eA (o:=.lst [])
 have nDH:=SA.free nD
 have nAD:A0≠D:=fun z=>by rw [z,nD] at eA;cases eA
 generalize upd H1 D (.lst [])=H2 at SD eD eA2 ⊢
 walk_at "s"
 refine .inl ⟨side,rfl,?_⟩
 refine Jx (fun i U H'=>Same H H'/\H' D=some (.lst ((Dg side.cps.size side top i).map V.str))/\∃ a x4 x5 x6 x7,H' a=some (.lst ((yd side.cps.size side top i).map V.int))/\a≠D/\U=[some (.str side),some (.str top),some (.ref a),some (.ref D),x4,x5,x6,x7])
  ⟨SD,eD,A0,none,none,none,none,eA2,nAD,rfl⟩ ?_ ?_
 ·rintro i U H3 T0 hi ⟨S3,hD,a,x4,x5,x6,x7,ha,nad,rfl⟩ nT
  have hi':i < side.cps.size:=hi
  refine bH (xs:=[.int i,.str ⟨#[side.cps.getD i 0]⟩]) (SqT.of aj) rfl ?_
  have hD4:=aP nT hD (o:=.tup (nM side i))
  have ha4:=aP nT ha (o:=.tup (nM side i))
  have S4:=S3.upd nT (o:=.tup (nM side i))
  generalize upd H3 T0 (.tup (nM side i))=H4 at hD4 ha4 S4 ⊢
  walk_at "s"
  refine cI lz ?_
  walk_at "s"
  refine ⟨_,top,_,a,_,rfl,ha4,(pQ i).symm,by rw [pQ];exact ht,fun H5 S5=>?_⟩
  rw [Hi,pQ]
  have hD5:=S5 _ _ hD4
  have ha5:=S5 _ _ ha4
  walk_at "s"
  refine ⟨.inl ⟨rfl,_,SqL.of hD5⟩,?_⟩
  walk_at "s"
  refine cF hD5 (by rw [Xu,Ey];omega) ?_
  have e1:(Dg side.cps.size side top i).map V.str ++ [.str (Ba (side.cps.getD i 0) top (yd side.cps.size side top i) ((side.length:Int) - 1 - i) top.cps.size)]=(Dg side.cps.size side top (i+1)).map V.str:=by rw [Li,XH];rfl
  rw [e1]
  have S6:=over (o:=.lst ((Dg side.cps.size side top (i+1)).map V.str)) (S4.trans S5) nDH
  have hD6:=aj (H:=H5) (a:=D) (o:=.lst ((Dg side.cps.size side top (i+1)).map V.str))
  have ha6:upd H5 D (.lst ((Dg side.cps.size side top (i+1)).map V.str)) a=_:=(aC nad).trans ha5
  generalize upd H5 D (.lst ((Dg side.cps.size side top (i+1)).map V.str))=H6 at S6 hD6 ha6 ⊢
  walk_at "s"
  refine ⟨_,_,a,_,rfl,ha6,by rw [yc,pQ],by rw [pQ];exact ht,fun t c1 b H7 nb _ S7 ht' hb _=>?_⟩
  rw [pQ,zb (n:=top.cps.size) (fun j hj=>Lg (Ex hj)) _ (Xp _)] at ht' hb
  have hD7:=S7 _ _ hD6
  have nbD:b≠D:=fun z=>by rw [z,hD6] at nb;cases nb
  walk_at "s"
  exact ⟨S6.trans S7,hD7,b,_,_,_,_,hb,nbD,rfl⟩
 ·rintro U H3 ⟨S3,hD,a,x4,x5,x6,x7,ha,nad,rfl⟩
  walk_at "s"
  exact q D H3 nDH S3 hD
def CB (side top:Str):Nat->Nat->Bool:=cC (mj side top)
theorem Hj {side top:Str} {i:Nat} (h:i < side.cps.size):(mj side top).getD i ⟨#[]⟩=Lh side.cps.size side top i:=by
 unfold mj Dg
 rw [Xl,Xw,X4 h];rfl
theorem Dh {side top:Str} {i:Nat} (h:i < side.cps.size):CB side top i=wK (Lh side.cps.size side top i):=by unfold CB cC;rw [Hj h]
theorem QR {side top:Str} {i j:Nat} (h:i < side.cps.size) (hj:j < top.cps.size):CB side top i j=w6 (side.cps.getD i 0) top (yd side.cps.size side top i) ((side.cps.size:Int) - 1 - i) j:=by
 rw [Dh h]
 exact Lg (Ex hj)
theorem ag {side top:Str}:∀ i,i<=side.cps.size->yd side.cps.size side top i=t7 side.cps.size (CB side top) top.cps.size i/\
  (i < side.cps.size->∀ j,j<=top.cps.size->Df (side.cps.getD i 0) top (yd side.cps.size side top i) ((side.cps.size:Int) - 1 - i) j=((gA side.cps.size (CB side top) i j:Nat):Int)/\Pj (side.cps.getD i 0) top (yd side.cps.size side top i) ((side.cps.size:Int) - 1 - i) j=t7 side.cps.size (CB side top) j (i+1))
 | 0,h=>⟨by rw [Lb];rfl,fun hi j hj=>ag_step (by rw [Lb];rfl) hi hj⟩
 | i+1,h=>by
  have ih:=(ag (side:=side) (top:=top) i (by omega)).2 (by omega) top.cps.size (Xp _)
  have e:yd side.cps.size side top (i+1)=t7 side.cps.size (CB side top) top.cps.size (i+1):=ih.2
  exact ⟨e,fun hi j hj=>ag_step e hi hj⟩
where
 ag_step {side top:Str} {i j:Nat} (e:yd side.cps.size side top i=t7 side.cps.size (CB side top) top.cps.size i) (hi:i < side.cps.size) (hj:j<=top.cps.size):
   Df (side.cps.getD i 0) top (yd side.cps.size side top i) ((side.cps.size:Int) - 1 - i) j=((gA side.cps.size (CB side top) i j:Nat):Int)/\Pj (side.cps.getD i 0) top (yd side.cps.size side top i) ((side.cps.size:Int) - 1 - i) j=t7 side.cps.size (CB side top) j (i+1):=by
  have h1:=zb (z:=Lh side.cps.size side top i) (c:=side.cps.getD i 0) (top:=top) (ab:=yd side.cps.size side top i) (left:=(side.cps.size:Int) - 1 - i) (n:=top.cps.size) (fun l hl=>by rw [← Dh hi];exact QR hi hl) j hj
  have h2:=za (m:=side.cps.size) (C:=CB side top) (far:=top.cps.size) (i:=i) j hj
  rw [← Dh hi] at h1
  rw [← e,show ((gA side.cps.size (CB side top) i 0:Nat):Int)=(side.cps.size:Int) - 1 - i by rw [jA];omega,h1] at h2
  exact ⟨congrArg Prod.snd h2,congrArg Prod.fst h2⟩
theorem Px {side top:Str} {i j:Nat} (hi:i < side.cps.size) (hj:j < top.cps.size):CB side top i j=(decide (side.cps.getD i 0=top.cps.getD j 0) || decide (gD side.cps.size (CB side top) j i < gA side.cps.size (CB side top) i j)):=by
 rw [QR hi hj]
 unfold w6
 rw [((ag i (by omega)).2 hi j (by omega)).1,(ag i (by omega)).1,De hj]
 congr 1
 exact decide_eq_decide.mpr (by omega)
end
local macro_rules | `(tactic| walk_at "s") => `(tactic| (with_reducible repeat (first | refine ou ?_ | walk_at "3")))
local macro_rules | `(tactic| walk_at "n") => `(tactic| (with_reducible repeat (walk_at "3")))
section
variable {P:Program} {w:World} {K:W.Frag} {mg:Str->Option Value} {base:Heap}
theorem zc:(["line"]:List Str).Nodup:=by trivial
theorem WQ {m:Nat} {C:Nat->Nat->Bool} {far:Nat}:∀ n i j,i+j<=n->i < m->j < far->gA m C i j < m+far/\gD m C j i < m+far
 | n,0,0,_,hi,hj=>by rw [jA,jh];omega
 | 0,0,j+1,h,_,_=>absurd h (by omega)
 | 0,i+1,j,h,_,_=>absurd h (by omega)
 | n+1,0,j+1,h,hi,hj=>by
  have ih:=WQ (m:=m) (C:=C) (far:=far) n 0 j (by omega) hi (by omega)
  refine ⟨?_,by rw [jh];omega⟩
  rw [lK];split
  ·exact ih.2
  ·exact ih.1
 | n+1,i+1,0,h,hi,hj=>by
  have ih:=WQ (m:=m) (C:=C) (far:=far) n i 0 (by omega) (by omega) hj
  refine ⟨by rw [jA];omega,?_⟩
  rw [lM];split
  ·exact ih.1
  ·exact ih.2
 | n+1,i+1,j+1,h,hi,hj=>by
  have h1:=WQ (m:=m) (C:=C) (far:=far) n (i+1) j (by omega) hi (by omega)
  have h2:=WQ (m:=m) (C:=C) (far:=far) n i (j+1) (by omega) (by omega) hj
  refine ⟨?_,?_⟩
  ·rw [lK];split
   ·exact h1.2
   ·exact h1.1
  ·rw [lM];split
   ·exact h2.1
   ·exact h2.2
def stp (w:Nat->List (Int×Int)) (l:Nat) (q:Int×Int):Nat->List (Int×Int):=fun k=>if k=l then w k ++ [q] else w k
def Py (m:Nat) (C:Nat->Nat->Bool) (i:Nat) (w0:Nat->List (Int×Int)):Nat->Nat->List (Int×Int)
 | 0=>w0
 | j+1=>stp (stp (Py m C i w0 j) (gA m C i j) ((i:Int),(j:Int))) (gD m C j i) ((i:Int),(j:Int))
def Hs (m:Nat) (C:Nat->Nat->Bool) (far:Nat):Nat->Nat->List (Int×Int)
 | 0=>fun _=>[]
 | i+1=>Py m C i (Hs m C far i) far
theorem zf (w:Nat->List (Int×Int)) (l:Nat) (q:Int×Int) (k:Nat):(stp w l q k).length<=(w k).length+1:=by
 unfold stp;split <;> simp
theorem zg {m:Nat} {C:Nat->Nat->Bool} {i:Nat} {w0:Nat->List (Int×Int)} (k:Nat):∀ j,(Py m C i w0 j k).length<=(w0 k).length+2*j
 | 0=>by simp [Py]
 | j+1=>by
  have ih:=zg (m:=m) (C:=C) (i:=i) (w0:=w0) k j
  have h1:=zf (stp (Py m C i w0 j) (gA m C i j) ((i:Int),(j:Int))) (gD m C j i) ((i:Int),(j:Int)) k
  have h2:=zf (Py m C i w0 j) (gA m C i j) ((i:Int),(j:Int)) k
  show (stp _ _ _ k).length<=_
  omega
theorem Ez {m:Nat} {C:Nat->Nat->Bool} {far:Nat} (k:Nat):∀ i,(Hs m C far i k).length<=2*(i*far)
 | 0=>by simp [Hs]
 | i+1=>by
  have ih:=Ez (m:=m) (C:=C) (far:=far) k i
  have h1:=zg (m:=m) (C:=C) (i:=i) (w0:=Hs m C far i) k far
  show (Py m C i (Hs m C far i) far k).length<=_
  have e:(i+1)*far=i*far+far:=Nat.succ_mul i far
  omega
def Wys (H:Hp) (Pd:Addr->Prop) (refs:List V) (n:Nat) (w:Nat->List (Int×Int)):Prop:=refs.length=n/\(∀ l,l < n->∃ p ws,refs[l]?=some (.ref p)/\Pd p/\H p=some (.lst ws)/\PrI H ws (w l))/\
 ∀ (l k:Nat) (p:Addr),l≠k->refs[l]?=some (.ref p)->refs[k]?≠some (.ref p)
theorem Wys.imp {H H':Hp} {Pd Pd':Addr->Prop} {refs:List V} {n:Nat} {w:Nat->List (Int×Int)} (h:Wys H Pd refs n w) (ht:∀ p us,H p=some (.tup us)->H' p=some (.tup us)) (hl:∀ c ws,Pd c->H c=some (.lst ws)->H' c=some (.lst ws)) (hp:∀ c,Pd c->Pd' c):Wys H' Pd' refs n w:=
 ⟨h.1,fun l hl'=>by
  obtain ⟨p,ws,e1,e2,e3,e4⟩:=h.2.1 l hl'
  exact ⟨p,ws,e1,hp p e2,hl p ws e2 e3,e4.imp ht⟩,h.2.2⟩
theorem Wys.same {H H':Hp} {Pd:Addr->Prop} {refs:List V} {n:Nat} {w:Nat->List (Int×Int)} (h:Wys H Pd refs n w) (s:Same H H'):Wys H' Pd refs n w:=h.imp (fun p us e=>s _ _ e) (fun c ws _ e=>s _ _ e) fun _ z=>z
theorem Wys.new {H:Hp} {Pd:Addr->Prop} {refs:List V} {n:Nat} {w:Nat->List (Int×Int)} {p:Addr} (h:Wys H Pd refs n w) (hn:H p=none) (hP:Pd p) (hw:w n=[]):Wys (upd H p (.lst [])) Pd (refs ++ [.ref p]) (n+1) w:=by
 have s:Same H (upd H p (.lst [])):=(Same.refl H).upd hn
 obtain ⟨h1,h2,h3⟩:=h
 have ne:∀ l:Nat,refs[l]?≠some (V.ref p):=fun l e=>by
  have hl:l < n:=by rw [← h1];exact (Xn.mp e).1
  obtain ⟨p',ws,e1,_,e3,_⟩:=h2 l hl
  rw [e] at e1
  cases e1
  rw [hn] at e3;cases e3
 refine ⟨by rw [Yc,h1];rfl,fun l hl=>?_,fun l k q hlk e1 e2=>?_⟩
 ·by_cases e:l=n
  ·subst e
   exact ⟨p,[],by rw [X5 (by omega),h1,Nat.sub_self];rfl,hP,aj,by rw [hw];trivial⟩
  ·obtain ⟨p',ws,e1,e2,e3,e4⟩:=h2 l (by omega)
   exact ⟨p',ws,by rw [X8 (by omega)];exact e1,e2,s _ _ e3,e4.same s⟩
 ·by_cases hl:l < refs.length
  ·rw [X8 hl] at e1
   by_cases hk:k < refs.length
   ·rw [X8 hk] at e2
    exact h3 l k q hlk e1 e2
   ·rw [X5 (by omega)] at e2
    have:k - refs.length=0:=by
     have:=(Xn.mp e2).1
     simp at this;omega
    rw [this] at e2
    cases e2
    exact ne l e1
  ·rw [X5 (by omega)] at e1
   have:l - refs.length=0:=by
    have:=(Xn.mp e1).1
    simp at this;omega
   rw [this] at e1
   cases e1
   by_cases hk:k < refs.length
   ·rw [X8 hk] at e2
    exact ne k e2
   ·have:=(Xn.mp e2).1
    simp at this;omega
theorem Wys.app {H:Hp} {Pd:Addr->Prop} {refs ws:List V} {n l:Nat} {w:Nat->List (Int×Int)} {p q:Addr} {x y:Int} (h:Wys H Pd refs n w) (hl:l < n) (hp:refs[l]?=some (.ref p)) (hw:H p=some (.lst ws)) (hq:H q=some (.tup [.int x,.int y])):
  Wys (upd H p (.lst (ws ++ [.ref q]))) Pd refs n (stp w l (x,y)):=by
 obtain ⟨h1,h2,h3⟩:=h
 have ht:∀ r us,H r=some (.tup us)->upd H p (.lst (ws ++ [.ref q])) r=some (.tup us):=fun r us e=>by rw [aC (fun z=>by rw [z,hw] at e;cases e)];exact e
 refine ⟨h1,fun k hk=>?_,h3⟩
 obtain ⟨p',us,e1,e2,e3,e4⟩:=h2 k hk
 by_cases e:k=l
 ·subst e
  rw [hp] at e1
  cases e1
  rw [hw] at e3
  cases e3
  refine ⟨p,_,hp,e2,aj,?_⟩
  unfold stp
  rw [if_pos rfl]
  exact PrI.push (ht _ _ hq) (e4.imp ht)
 ·have ne:p'≠p:=fun z=>by subst z;exact h3 k l p' e e1 hp
  refine ⟨p',us,e1,e2,by rw [aC ne];exact e3,?_⟩
  unfold stp
  rw [if_neg e]
  exact e4.imp ht
theorem Pz {m:Nat} {C:Nat->Nat->Bool} {far i j:Nat} (h:j < far):(Az m C far i)[j]?=some (((gA m C i j:Nat):Int),((gD m C j i:Nat):Int)):=by
 unfold Az
 rw [Xw,X4 h];rfl
theorem Lj {m:Nat} {C:Nat->Nat->Bool} {far i:Nat}:(Az m C far i).length=far:=by simp [Az]
def Uo:Sp:=fun vs H Q _=>∃ (m far:Nat) (C:Nat->Nat->Bool) (cm:Addr) (cs:List V),vs=[.int ((m:Int)+(far:Int)),.ref cm]/\m<=48/\far<=48/\H cm=some (.lst cs)/\Cmg H (fun _=>True) m C far cs m/\
 ∀ aw refs H',H aw=none->Same H H'->H' aw=some (.lst refs)->Wys H' (fun p=>H p=none) refs (m+far) (Hs m C far m)->Q (.ref aw) H'
theorem ju:aD ["many","coming","ways","row","pairs","column","pair"] ["many","coming"] (az pM):=⟨rfl,rfl,rfl,by trivial,rfl,by trivial,by trivial⟩
theorem uf (T:Txt K mg):nQ P w K mg base 1 "ways_of" ["many","coming"] Uo:=by
 refine ir T.d_ways_of ju (fun _ _ _ _ _ _ us hl=>L2.nP (fun _ _=>rfl) us hl) ?_ fun f cdv A outer s H vs Q E hr h=>?_
 ·rintro vs H Q E ⟨m,far,C,cm,cs,rfl,_⟩;rfl
 obtain ⟨m,far,C,cm,cs,rfl,hm,hf,hcm,hG,q⟩:=h
 have hu:=hr.units0
 have hu64:=hr.units
 refine ⟨_,(aq (NK (i:=2) ju.nd rfl cG (sub:=[none]) (jB (N:=["many","coming","ways","row","pairs","column","pair"]) (sc:=az pM) (N':=["line"]) (by trivial)) rfl rfl rfl (pB bc T.b_range (aa (ak 0) ao)) (fun C s₀ H₀ ex=>(zW 0 (by trivial) zc)) (fun C s₀ H₀ ex=>lB) (fun C s₀ H₀ ex=>(fM ao)) rfl) (aq (je YB rfl (lC (K:=K) rfl rfl bc T.b_enumerate (aa (ak 1) ao)) (lQ (K:=K) rfl rfl (aX (aZ (i:=3) ju.nd rfl cG rfl) (aX (aZ (i:=4) ju.nd rfl cG rfl) iz))) (aA (je YB rfl (lC (K:=K) rfl rfl bc T.b_enumerate (aa (ak 4) ao)) (lQ (K:=K) rfl rfl (aX (aZ (i:=5) ju.nd rfl cG rfl) (aX (aZ (i:=6) ju.nd rfl cG rfl) iz))) (aq (bh (ie (K:=K) rfl Yb X6 X7 b7 (bx (K:=K) rfl (ak 2) (bx (K:=K) rfl (ak 6) aB)) (aa (uB (aa (ak 3) (aa (ak 5) ao))) ao))) (aA (bh (ie (K:=K) rfl Yb X6 X7 b7 (bx (K:=K) rfl (ak 2) (bx (K:=K) rfl (ak 6) aB)) (aa (uB (aa (ak 3) (aa (ak 5) ao))) ao)))))))) (aA (aJ (ak 2))))),?_⟩
 walk_at "s"
 have hs:20000<=sizeLine:=by decide
 refine ⟨_,rfl,by omega,by omega,?_⟩
 rw [show ((m:Int)+(far:Int)).toNat=m+far by omega]
 refine vN (n:=m+far) (fun i ys H'=>Same H H'/\Wys H' (fun p=>H p=none) ys i (fun _=>[])) (by omega) ⟨Same.refl H,rfl,(fun l hl=>absurd hl (Zo _)),fun l k p _ e=>by simp at e⟩ ?_ ?_ ?_
 ·rintro i ys H' ⟨_,h⟩
  exact Za h.1
 ·rintro i ys H' hi ⟨s,h⟩
  walk_at "s"
  refine ⟨KeepSt.set rfl,?_⟩
  walk_at "s"
  refine ji rfl fun p np=>?_
  walk_at "s"
  exact ⟨s.upd np,h.new np (Same.back s np) rfl⟩
 ·rintro refs H1 ⟨s1,hW⟩ aw naw
  have naw0:=Same.back s1 naw
  have s2:=s1.upd naw (o:=.lst refs)
  have haw:=aj (H:=H1) (a:=aw) (o:=.lst refs)
  have hW2:Wys (upd H1 aw (.lst refs)) (fun p=>H p=none/\p≠aw) refs (m+far) (Hs m C far 0):=by
   obtain ⟨w1,w2,w3⟩:=hW
   refine ⟨w1,fun l hl=>?_,w3⟩
   obtain ⟨p,ws,e1,e2,e3,e4⟩:=w2 l hl
   exact ⟨p,ws,e1,⟨e2,fun z=>by rw [z,naw] at e3;cases e3⟩,aP naw e3,e4.same ((Same.refl H1).upd naw)⟩
  generalize upd H1 aw (.lst refs)=H2 at s2 haw hW2 ⊢
  walk_at "s"
  refine .inr ⟨cm,_,rfl,SqL.of (s2 _ _ hcm),?_⟩
  refine jP (xs:=cs) (fun i U H'=>Same H H'/\H' aw=some (.lst refs)/\Wys H' (fun p=>H p=none/\p≠aw) refs (m+far) (Hs m C far i)/\∃ x3 x4 x5 x6,U=[some (.int ((m:Int)+(far:Int))),some (.ref cm),some (.ref aw),x3,x4,x5,x6])
   ⟨s2,haw,hW2,_,_,_,_,rfl⟩ (fun i U H' _ h=>SqL.of (h.1 _ _ hcm)) ?_ ?_
  ·rintro i U H3 T0 x hx ⟨S3,h3,W3,x3,x4,x5,x6,rfl⟩ nT
   have hi:i < m:=by
    have:=(Xn.mp hx).1
    rw [hG.1] at this;exact this
   obtain ⟨c,ws,e1,_,hc,hws⟩:=hG.2 i hi
   rw [hx] at e1
   cases e1
   have wl:=hws.len
   rw [Lj] at wl
   refine bH (xs:=[.int i,.ref c]) (SqT.of aj) rfl ?_
   have S4:=S3.upd nT (o:=.tup [.int i,.ref c])
   have h4:=aP nT h3 (o:=.tup [.int i,.ref c])
   have W4:=W3.same ((Same.refl H3).upd nT (o:=.tup [.int i,.ref c]))
   generalize upd H3 T0 (.tup [.int i,.ref c])=H4 at S4 h4 W4 ⊢
   walk_at "s"
   refine .inr ⟨c,_,rfl,SqL.of (S4 _ _ hc),?_⟩
   refine jP (xs:=ws) (fun j U H'=>Same H H'/\H' aw=some (.lst refs)/\Wys H' (fun p=>H p=none/\p≠aw) refs (m+far) (Py m C i (Hs m C far i) j)/\∃ x5 x6,U=[some (.int ((m:Int)+(far:Int))),some (.ref cm),some (.ref aw),some (.int i),some (.ref c),x5,x6])
    ⟨S4,h4,W4,_,_,rfl⟩ (fun i U H' _ h=>SqL.of (h.1 _ _ hc)) ?_ ?_
   ·rintro j U H5 T1 y hy ⟨S5,h5,W5,x5,x6,rfl⟩ nT1
    have hj:j < far:=by
     have:=(Xn.mp hy).1
     omega
    obtain ⟨r,e2,hr'⟩:=hws.get (Pz (m:=m) (C:=C) (i:=i) hj)
    rw [hy] at e2
    cases e2
    obtain ⟨l1,l2⟩:=WQ (m:=m) (C:=C) (far:=far) (i+j) i j (Xp _) hi hj
    have wA:=Ez (m:=m) (C:=C) (far:=far)
    have wJ:=zg (m:=m) (C:=C) (i:=i) (w0:=Hs m C far i)
    have him:i*far<=48*48:=Nat.mul_le_mul (by omega) hf
    refine bH (xs:=[.int j,.ref r]) (SqT.of aj) rfl ?_
    have S6:=S5.upd nT1 (o:=.tup [.int j,.ref r])
    have h6:=aP nT1 h5 (o:=.tup [.int j,.ref r])
    have W6:=W5.same ((Same.refl H5).upd nT1 (o:=.tup [.int j,.ref r]))
    generalize upd H5 T1 (.tup [.int j,.ref r])=H6 at S6 h6 W6 ⊢
    obtain ⟨p,us,r1,⟨pn,pa⟩,hp,hpu⟩:=W6.2.1 _ l1
    have ul:=hpu.len
    have:=wA (gA m C i j) i
    have:=wJ (gA m C i j) j
    walk_at "s"
    refine fK (SqT.of (S6 _ _ hr')) rfl ?_
    walk_at "s"
    refine bG (SqL.of h6) (cH r1) ?_
    walk_at "s"
    refine ⟨.inl ⟨rfl,_,SqL.of hp⟩,?_⟩
    walk_at "s"
    refine ji rfl fun q1 nq1=>?_
    walk_at "s"
    have S7:=S6.upd nq1 (o:=.tup [.int i,.int j])
    have h7:=aP nq1 h6 (o:=.tup [.int i,.int j])
    have W7:=W6.same ((Same.refl H6).upd nq1 (o:=.tup [.int i,.int j]))
    have hp7:=aP nq1 hp (o:=.tup [.int i,.int j])
    have hq7:=aj (H:=H6) (a:=q1) (o:=.tup [.int i,.int j])
    generalize upd H6 q1 (.tup [.int i,.int j])=H7 at S7 h7 W7 hp7 hq7 ⊢
    refine cF hp7 (by omega) ?_
    walk_at "s"
    have S8:=Same.put (o:=.lst (us ++ [.ref q1])) S7 pn
    have h8:upd H7 p (.lst (us ++ [.ref q1])) aw=_:=(aC (Ne.symm pa)).trans h7
    have W8:=W7.app l1 r1 hp7 hq7
    generalize upd H7 p (.lst (us ++ [.ref q1]))=H8 at S8 h8 W8 ⊢
    obtain ⟨p',us',r2,⟨pn',pa'⟩,hp',hpu'⟩:=W8.2.1 _ l2
    have ul':=hpu'.len
    have:=zf (Py m C i (Hs m C far i) j) (gA m C i j) ((i:Int),(j:Int)) (gD m C j i)
    have:=wA (gD m C j i) i
    have:=wJ (gD m C j i) j
    walk_at "s"
    refine fK (SqT.of (S8 _ _ hr')) rfl ?_
    walk_at "s"
    refine bG (SqL.of h8) (cH r2) ?_
    walk_at "s"
    refine ⟨.inl ⟨rfl,_,SqL.of hp'⟩,?_⟩
    walk_at "s"
    refine ji rfl fun q2 nq2=>?_
    walk_at "s"
    have S9:=S8.upd nq2 (o:=.tup [.int i,.int j])
    have h9:=aP nq2 h8 (o:=.tup [.int i,.int j])
    have W9:=W8.same ((Same.refl H8).upd nq2 (o:=.tup [.int i,.int j]))
    have hp9:=aP nq2 hp' (o:=.tup [.int i,.int j])
    have hq9:=aj (H:=H8) (a:=q2) (o:=.tup [.int i,.int j])
    generalize upd H8 q2 (.tup [.int i,.int j])=H9 at S9 h9 W9 hp9 hq9 ⊢
    refine cF hp9 (by omega) ?_
    walk_at "s"
    exact ⟨Same.put S9 pn',(aC (Ne.symm pa')).trans h9,W9.app l2 r2 hp9 hq9,_,_,rfl⟩
   ·rintro U H5 ⟨S5,h5,W5,x5,x6,rfl⟩
    rw [wl] at W5
    exact ⟨S5,h5,W5,_,_,_,_,rfl⟩
  ·rintro U H3 ⟨S3,h3,W3,x3,x4,x5,x6,rfl⟩
   rw [hG.1] at W3
   walk_at "s"
   exact q aw refs H3 naw0 S3 h3 (W3.imp (fun _ _ z=>z) (fun _ _ _ z=>z) fun c z=>z.1)
abbrev mS (z:Str):Nat:=z.cps.size
structure BdO (H:Hp) (side top:Str) (ac am al aw:Addr):Prop where
 cells:H ac=some (.lst ((mj side top).map V.str))
 com:∃ cs,H am=some (.lst cs)/\Cmg H (fun _=>True) (mS side) (CB side top) (mS top) cs (mS side)
 lines:∃ R,H al=some (.lst (R.map V.int))/\IsEnds (mS side) (CB side top) (mS top) R
 ways:∃ refs,H aw=some (.lst refs)/\Wys H (fun _=>True) refs (mS side+mS top) (Hs (mS side) (CB side top) (mS top) (mS side))
def bdF (side top:Str) (ac am al aw:Addr):List (Str×V):=[("held_side",.str side),("held_top",.str top),("held_cells",.ref ac),("held_coming",.ref am),("held_lines",.ref al),("held_ways",.ref aw)]
def Bd (mg:Str->Option Value) (H:Hp) (b:Addr) (side top:Str):Prop:=Row side/\Row top/\∃ dx ac am al aw,H b=some (.ins (aM mg "Board") dx (bdF side top ac am al aw))/\BdO H side top ac am al aw
theorem Di (side top:Str):(mj side top).length=side.cps.size:=Ey _ _ _ _
theorem Bb {side top:Str}:∀ z∈mj side top,z.cps.size=top.cps.size:=fun z hz=>by
 unfold mj Dg at hz
 obtain ⟨i,_,rfl⟩:=Yr.mp hz
 exact yc
def PJ (mg:Str->Option Value):Sp:=fun vs H Q _=>∃ (x dx:Addr) (side top:Str),vs=[.ref x,.str side,.str top]/\H x=some (.ins (aM mg "Board") dx [])/\Row side/\Row top/\∀ H',Chg x H H'->Bd mg H' x side top->Q .non H'
theorem Chg.same {x:Addr} {H H1 H2:Hp} (c:Chg x H H1) (s:Same H1 H2):Chg x H H2:=fun b o n e=>s _ _ (c b o n e)
theorem Chg.put {x:Addr} {H H1:Hp} {o:HO} (c:Chg x H H1):Chg x H (upd H1 x o):=fun b u n e=>by rw [aC n];exact c b u n e
theorem jD {f:Str} {y:V}:∀ {fs:List (Str×V)},(fs.map (·.1)).contains f=false->cu f y fs=fs ++ [(f,y)]
 | [],_=>rfl
 | (g,z) :: fs,h=>by
  simp only [Yk,Zj,Z6] at h
  have hne:¬ g=f:=fun e=>by rw [e] at h;simp at h
  have ih:=jD (y:=y) (fs:=fs) h.2
  unfold cu
  simp [hne,ih]
theorem lN:aD ["self","side","top","gone"] ["self","side","top"] (az jn):=⟨rfl,rfl,rfl,by trivial,rfl,by trivial,by trivial⟩
theorem jw (T:Txt K mg):HasM P w K mg base 5 "Board" "__init__" ["self","side","top"] (PJ mg):=by
 have iW:=iW (P:=P) (w:=w) (base:=base) T
 have qW:=qW (P:=P) (w:=w) (base:=base) T
 have m9:=m9 (P:=P) (w:=w) (base:=base) T
 have uf:=uf (P:=P) (w:=w) (base:=base) T
 refine jN T.m_Board___init__ lN (fun _ _ _ _ _ _ us hl=>L2.pZ (fun _ _ _=>rfl) us hl) ?_ fun f cdv A outer s H vs Q E hr h=>?_
 ·rintro vs H Q E ⟨x,dx,side,top,rfl,_⟩;rfl
 obtain ⟨x,dx,side,top,rfl,hx,hs,ht,q'⟩:=h
 have hu:=hr.units0
 have hu64:=hr.units
 refine ⟨_,(aq (bh (aO iW (hr.mono (by decide)) bc (aa (ak 1) (aa (ak 2) ao)) (by trivial))) (aq (bM (K:=K) rfl (ak 0) (ak 1)) (aq (bM (K:=K) rfl (ak 0) (ak 2)) (aq (bM (K:=K) rfl (ak 0) (aO qW (hr.mono (by decide)) bc (aa (ak 1) (aa (ak 2) ao)) (by trivial))) (aq (aH (i:=3) lN.nd rfl cG (aO m9 (hr.mono (by decide)) bc (aa (aL (aK (K:=K) rfl) bc T.b_len bj (aa (ak 1) ao) (by trivial) (by trivial)) (aa (aL (aK (K:=K) rfl) bc T.b_len bj (aa (ak 2) ao) (by trivial) (by trivial)) (aa (aW (K:=K) rfl (ak 0)) ao))) (by trivial)) rfl) (aq (bM (K:=K) rfl (ak 0) (bx (K:=K) rfl (ak 3) aB)) (aq (bM (K:=K) rfl (ak 0) (bx (K:=K) rfl (ak 3) aB)) (aA (bM (K:=K) rfl (ak 0) (aO uf (hr.mono (by decide)) bc (aa (bf aN (aL (aK (K:=K) rfl) bc T.b_len bj (aa (ak 1) ao) (by trivial) (by trivial)) (aL (aK (K:=K) rfl) bc T.b_len bj (aa (ak 2) ao) (by trivial) (by trivial))) (aa (bx (K:=K) rfl (ak 3) aB) ao)) (by trivial))))))))))),?_⟩
 walk_at "s"
 refine ⟨side,top,rfl,hs,ht,fun H1 S1=>?_⟩
 have cl:=T.o_Board.cl
 have na:=T.n_Board
 have lz:side.length<=sizeLine:=Xv hs.1 (by decide)
 have ly:top.length<=sizeLine:=Xv ht.1 (by decide)
 have hx1:=S1 _ _ hx
 have C1:Chg x H H1:=fun b o _ e=>S1 _ _ e
 walk_at "s"
 refine ⟨x,_,dx,_,rfl,hx1,cl,na _ (by simp),by simp,?_⟩
 walk_at "s"
 rw [jD (by show ([]:List Str).contains "held_side"=false;trivial)]
 have hx2:=aj (H:=H1) (a:=x) (o:=.ins (aM mg "Board") dx (([]:List (Str×V)) ++ ([("held_side",.str side)]:List (Str×V))))
 have C2:=Chg.put (o:=.ins (aM mg "Board") dx (([]:List (Str×V)) ++ ([("held_side",.str side)]:List (Str×V)))) C1
 generalize hG2:upd H1 x (.ins (aM mg "Board") dx (([]:List (Str×V)) ++ ([("held_side",.str side)]:List (Str×V))))=H2 at hx2 C2 ⊢
 replace hx2:H2 x=some (.ins (aM mg "Board") dx ([("held_side",.str side)]:List (Str×V))):=hx2
 walk_at "s"
 refine ⟨x,_,dx,_,rfl,hx2,cl,na _ (by simp),by simp,?_⟩
 walk_at "s"
 rw [jD (by show (["held_side"]:List Str).contains "held_top"=false;trivial)]
 have hx3:=aj (H:=H2) (a:=x) (o:=.ins (aM mg "Board") dx (([("held_side",.str side)]:List (Str×V)) ++ ([("held_top",.str top)]:List (Str×V))))
 have C3:=Chg.put (o:=.ins (aM mg "Board") dx (([("held_side",.str side)]:List (Str×V)) ++ ([("held_top",.str top)]:List (Str×V)))) C2
 generalize hG3:upd H2 x (.ins (aM mg "Board") dx (([("held_side",.str side)]:List (Str×V)) ++ ([("held_top",.str top)]:List (Str×V))))=H3 at hx3 C3 ⊢
 replace hx3:H3 x=some (.ins (aM mg "Board") dx ([("held_side",.str side),("held_top",.str top)]:List (Str×V))):=hx3
 walk_at "s"
 refine ⟨side,top,rfl,hs.1,ht.1,fun ac H4 nac S4 hac=>?_⟩
 walk_at "s"
 have hx4:=S4 _ _ hx3
 have C4:=Chg.same C3 S4
 refine ⟨x,_,dx,_,rfl,hx4,cl,na _ (by simp),by simp,?_⟩
 walk_at "s"
 rw [jD (by show (["held_side","held_top"]:List Str).contains "held_cells"=false;trivial)]
 have hx5:=aj (H:=H4) (a:=x) (o:=.ins (aM mg "Board") dx (([("held_side",.str side),("held_top",.str top)]:List (Str×V)) ++ ([("held_cells",.ref ac)]:List (Str×V))))
 have C5:=Chg.put (o:=.ins (aM mg "Board") dx (([("held_side",.str side),("held_top",.str top)]:List (Str×V)) ++ ([("held_cells",.ref ac)]:List (Str×V)))) C4
 generalize hG5:upd H4 x (.ins (aM mg "Board") dx (([("held_side",.str side),("held_top",.str top)]:List (Str×V)) ++ ([("held_cells",.ref ac)]:List (Str×V))))=H5 at hx5 C5 ⊢
 replace hx5:H5 x=some (.ins (aM mg "Board") dx ([("held_side",.str side),("held_top",.str top),("held_cells",.ref ac)]:List (Str×V))):=hx5
 have nx4:∀ {a:Addr} {us:List V},H4 a=some (.lst us)->a≠x:=fun {a us} h z=>by rw [z,hx4] at h;cases h
 have hac5:H5 ac=some (.lst ((mj side top).map V.str)):=by rw [← hG5,aC (nx4 hac)];exact hac
 walk_at "s"
 refine cI lz ?_
 walk_at "s"
 refine cI ly ?_
 walk_at "s"
 refine ⟨x,_,dx,_,_,rfl,hx5,cl,na _ (by simp),rfl,?_⟩
 walk_at "s"
 refine ⟨mS side,mS top,mj side top,ac,rfl,hac5,Di side top,hs.1,ht.1,Bb,fun t am al R H6 nal S6 ht6 hE hal hcm=>?_⟩
 walk_at "s"
 obtain ⟨cs,hcm,hG⟩:=hcm
 have hx6:=S6 _ _ hx5
 have C6:=Chg.same C5 S6
 refine ⟨x,_,dx,_,rfl,hx6,cl,na _ (by simp),by simp,?_⟩
 walk_at "s"
 rw [jD (by show (["held_side","held_top","held_cells"]:List Str).contains "held_coming"=false;trivial)]
 have hx7:=aj (H:=H6) (a:=x) (o:=.ins (aM mg "Board") dx (([("held_side",.str side),("held_top",.str top),("held_cells",.ref ac)]:List (Str×V)) ++ ([("held_coming",.ref am)]:List (Str×V))))
 have C7:=Chg.put (o:=.ins (aM mg "Board") dx (([("held_side",.str side),("held_top",.str top),("held_cells",.ref ac)]:List (Str×V)) ++ ([("held_coming",.ref am)]:List (Str×V)))) C6
 generalize hG7:upd H6 x (.ins (aM mg "Board") dx (([("held_side",.str side),("held_top",.str top),("held_cells",.ref ac)]:List (Str×V)) ++ ([("held_coming",.ref am)]:List (Str×V))))=H7 at hx7 C7 ⊢
 replace hx7:H7 x=some (.ins (aM mg "Board") dx ([("held_side",.str side),("held_top",.str top),("held_cells",.ref ac),("held_coming",.ref am)]:List (Str×V))):=hx7
 have M7:Chg x H6 H7:=by rw [← hG7];exact Chg.put (Chg.refl x H6)
 have nt:t≠x:=fun z=>by rw [z,hx6] at ht6;cases ht6
 have ht7:=M7 t _ nt ht6
 walk_at "s"
 refine ⟨x,_,dx,_,rfl,hx7,cl,na _ (by simp),by simp,?_⟩
 walk_at "s"
 rw [jD (by show (["held_side","held_top","held_cells","held_coming"]:List Str).contains "held_lines"=false;trivial)]
 have hx8:=aj (H:=H7) (a:=x) (o:=.ins (aM mg "Board") dx (([("held_side",.str side),("held_top",.str top),("held_cells",.ref ac),("held_coming",.ref am)]:List (Str×V)) ++ ([("held_lines",.ref al)]:List (Str×V))))
 have C8:=Chg.put (o:=.ins (aM mg "Board") dx (([("held_side",.str side),("held_top",.str top),("held_cells",.ref ac),("held_coming",.ref am)]:List (Str×V)) ++ ([("held_lines",.ref al)]:List (Str×V)))) C7
 generalize hG8:upd H7 x (.ins (aM mg "Board") dx (([("held_side",.str side),("held_top",.str top),("held_cells",.ref ac),("held_coming",.ref am)]:List (Str×V)) ++ ([("held_lines",.ref al)]:List (Str×V))))=H8 at hx8 C8 ⊢
 replace hx8:H8 x=some (.ins (aM mg "Board") dx ([("held_side",.str side),("held_top",.str top),("held_cells",.ref ac),("held_coming",.ref am),("held_lines",.ref al)]:List (Str×V))):=hx8
 have M8:Chg x H6 H8:=M7.trans (by rw [← hG8];exact Chg.put (Chg.refl x H7))
 have nx6:∀ {a:Addr} {us:List V},H6 a=some (.lst us)->a≠x:=fun {a us} h z=>by rw [z,hx6] at h;cases h
 have nxt6:∀ {a:Addr} {us:List V},H6 a=some (.tup us)->a≠x:=fun {a us} h z=>by rw [z,hx6] at h;cases h
 have ht8:=M8 t _ nt ht6
 have hcm8:=M8 am _ (nx6 hcm) hcm
 have hG8':Cmg H8 (fun _=>True) (mS side) (CB side top) (mS top) cs (mS side):=hG.imp (fun p us e=>M8 p _ (nxt6 e) e) (fun c ws _ e=>M8 c _ (nx6 e) e) fun _ z=>z
 have hal8:=M8 al _ (nx6 hal) hal
 have hac8:=M8 ac _ (nx6 (S6 _ _ hac5)) (S6 _ _ hac5)
 walk_at "s"
 refine cI lz ?_
 walk_at "s"
 refine cI ly ?_
 walk_at "s"
 refine ⟨mS side,mS top,CB side top,am,cs,rfl,hs.1,ht.1,hcm8,hG8',fun aw refs H9 naw S9 haw hW=>?_⟩
 walk_at "s"
 have hx9:=S9 _ _ hx8
 have C9:=Chg.same C8 S9
 have nx9:∀ {a:Addr} {us:List V},H9 a=some (.lst us)->a≠x:=fun {a us} h z=>by rw [z,hx9] at h;cases h
 have nxt9:∀ {a:Addr} {us:List V},H9 a=some (.tup us)->a≠x:=fun {a us} h z=>by rw [z,hx9] at h;cases h
 refine ⟨x,_,dx,_,rfl,hx9,cl,na _ (by simp),by simp,?_⟩
 walk_at "s"
 rw [jD (by show (["held_side","held_top","held_cells","held_coming","held_lines"]:List Str).contains "held_ways"=false;trivial)]
 have hx10:=aj (H:=H9) (a:=x) (o:=.ins (aM mg "Board") dx (([("held_side",.str side),("held_top",.str top),("held_cells",.ref ac),("held_coming",.ref am),("held_lines",.ref al)]:List (Str×V)) ++ ([("held_ways",.ref aw)]:List (Str×V))))
 have C10:=Chg.put (o:=.ins (aM mg "Board") dx (([("held_side",.str side),("held_top",.str top),("held_cells",.ref ac),("held_coming",.ref am),("held_lines",.ref al)]:List (Str×V)) ++ ([("held_ways",.ref aw)]:List (Str×V)))) C9
 generalize hG10:upd H9 x (.ins (aM mg "Board") dx (([("held_side",.str side),("held_top",.str top),("held_cells",.ref ac),("held_coming",.ref am),("held_lines",.ref al)]:List (Str×V)) ++ ([("held_ways",.ref aw)]:List (Str×V))))=H10 at hx10 C10 ⊢
 replace hx10:H10 x=some (.ins (aM mg "Board") dx ([("held_side",.str side),("held_top",.str top),("held_cells",.ref ac),("held_coming",.ref am),("held_lines",.ref al),("held_ways",.ref aw)]:List (Str×V))):=hx10
 have M10:Chg x H9 H10:=by rw [← hG10];exact Chg.put (Chg.refl x H9)
 refine q' H10 C10 ⟨hs,ht,dx,ac,am,al,aw,hx10,M10 ac _ (nx9 (S9 _ _ hac8)) (S9 _ _ hac8),⟨cs,M10 am _ (nx9 (S9 _ _ hcm8)) (S9 _ _ hcm8),(hG8'.same S9).imp (fun p us e=>M10 p _ (nxt9 e) e) (fun c ws _ e=>M10 c _ (nx9 e) e) fun _ z=>z⟩,⟨R,M10 al _ (nx9 (S9 _ _ hal8)) (S9 _ _ hal8),hE⟩,refs,M10 aw _ (nx9 haw) haw,hW.imp (fun p us e=>M10 p _ (nxt9 e) e) (fun c ws _ e=>M10 c _ (nx9 e) e) fun _ _=>trivial⟩
theorem bdM {side top:Str} {ac am al aw:Addr} {m:Str} (h:(["held_side","held_top","held_cells","held_coming","held_lines","held_ways"]:List Str).contains m=false):(bdF side top ac am al aw).lookup m=none:=by
 unfold bdF
 simp only [Zj,Z6] at h
 obtain ⟨h1,h2,h3,h4,h5,h6,_⟩:=h
 simp only [Yg,h1,h2,h3,h4,h5,h6,List.lookup_nil]
def PK (mg:Str->Option Value):Sp:=fun vs H Q _=>∃ (b:Addr) (side top:Str),vs=[.ref b]/\Bd mg H b side top/\∀ q R H',H q=none->Same H H'->IsEnds (mS side) (CB side top) (mS top) R->H' q=some (.lst (R.map V.int))->Q (.ref q) H'
theorem wL:aD ["self"] ["self"] (az lV):=⟨rfl,rfl,rfl,by trivial,rfl,by trivial,by trivial⟩
theorem mq (T:Txt K mg):HasM P w K mg base 1 "Board" "lines" ["self"] (PK mg):=by
 refine jN T.m_Board_lines wL (fun _ _ _ _ _ _ us hl=>L2.nY (fun _=>rfl) us hl) ?_ fun f cdv A outer s H vs Q E hr h=>?_
 ·rintro vs H Q E ⟨b,side,top,rfl,_⟩;rfl
 obtain ⟨b,side,top,rfl,⟨hs,ht,dx,ac,am,al,aw,hb,hO⟩,q⟩:=h
 have hu:=hr.units0
 have hu64:=hr.units
 refine ⟨_,(aA (aJ (Jv (Cg (K:=K) rfl rfl) bc T.b_list rQ (aa (aW (K:=K) rfl (ak 0)) ao) (by trivial) (by trivial)))),?_⟩
 walk_at "s"
 obtain ⟨R,hR,hE⟩:=hO.lines
 refine ⟨b,_,dx,_,_,rfl,hb,T.o_Board.cl,T.n_Board _ (by simp),rfl,?_⟩
 walk_at "s"
 refine Nz (SqL.of hR) fun l nl=>?_
 walk_at "s"
 exact q l R _ nl ((Same.refl H).upd nl) hE aj
end
local macro_rules | `(tactic| walk_at "s") => `(tactic| (with_reducible repeat (first | refine ou ?_ | walk_at "4")))
local macro_rules | `(tactic| walk_at "n") => `(tactic| (with_reducible repeat (walk_at "4")))
section
variable {P:Program} {w:World} {K:W.Frag} {mg:Str->Option Value} {base:Heap}
theorem uW:(["end","low"]:List Str).Nodup:=by trivial
theorem Lk (a b:List Nat):(nI a).map V.int ++ (nI b).map V.int=(nI (a ++ b)).map V.int:=by unfold nI;rw [XH,XH]
theorem pR {m far:Nat} {e:Nat->Nat->Bool}:((nI (LN m far e)).map V.int).length=m+far:=by rw [cB,mU]
theorem PL {k:Nat} {G:List Nat} (hG:Prm G) (hk:k+G.length<=96):Prm (List.range k ++ G.map (k+ ·)):=by
 have hl:(List.range k ++ G.map (k+ ·)).length=k+G.length:=by simp
 refine ⟨by omega,?_⟩
 rw [hl,Zv]
 exact Zw _ (hG.pm.map _)
theorem Ln {r n:Nat} {G:List Nat} (hG:Prm G) (hn:G.length=n) (hk:n+r<=96):Prm (G ++ (List.range r).map (n+ ·)):=by
 subst hn
 have hl:(G ++ (List.range r).map (G.length+ ·)).length=G.length+r:=by simp
 refine ⟨by omega,?_⟩
 rw [hl,Zv]
 exact hG.pm.append_right _
theorem Lp (lo:Int) (k n:Nat) (e:lo=(k:Int)):((List.range n).map fun i:Nat=>V.int (lo+(i:Int)*1))=(nI ((List.range n).map (k+ ·))).map V.int:=by
 subst e
 unfold nI
 rw [List.map_map,List.map_map]
 refine List.map_congr_left fun x _=>?_
 show V.int ((k:Int)+(x:Int)*1)=V.int ((k+x:Nat):Int)
 congr 1;omega
def PN (K:W.Frag):Sp:=fun vs H Q _=>∃ (u l:Addr) (mu ml far:Nat) (e:Nat->Nat->Bool),vs=[.ref u,.ref l,.int far]/\mu+ml+far<=96/\H u=some (.lst ((nI (LN mu far e)).map V.int))/\H l=some (.lst ((nI (LN ml far fun i j=>e (mu+i) j)).map V.int))/\
 ∀ q H',H q=none->Same H H'->H' q=some (.lst ((nI (LN (mu+ml) far e)).map V.int))->Q (.ref q) H'
theorem iw:aD ["upper","lower","far","high","low","one","other"] ["upper","lower","far"] (az jO):=⟨rfl,rfl,rfl,by trivial,rfl,by trivial,by trivial⟩
theorem ni (T:Txt K mg):nQ P w K mg base 8 "lines_over" ["upper","lower","far"] (PN K):=by
 have qR:=qR (P:=P) (w:=w) (base:=base) T
 have CW:=CW (P:=P) (w:=w) (base:=base) T
 refine ir T.d_lines_over iw (fun _ _ _ _ _ _ us hl=>L2.pZ (fun _ _ _=>rfl) us hl) ?_ fun f cdv A outer s H vs Q E hr h=>?_
 ·rintro vs H Q E ⟨u,l,mu,ml,far,e,rfl,_⟩;rfl
 obtain ⟨u,l,mu,ml,far,e,rfl,hn,hu1,hl,q⟩:=h
 have hu:=hr.units0
 have hu64:=hr.units
 refine ⟨_,(aq (aH (i:=3) iw.nd rfl cG (bf jj (aL (aK (K:=K) rfl) bc T.b_len bj (aa (ak 0) ao) (by trivial) (by trivial)) (ak 2)) rfl) (aq (aH (i:=4) iw.nd rfl Xi (bf jj (aL (aK (K:=K) rfl) bc T.b_len bj (aa (ak 1) ao) (by trivial) (by trivial)) (ak 2)) rfl) (aq (aH (i:=5) iw.nd rfl cG (bf aN (aO qR (hr.mono (by decide)) bc (aa (El 4) ao) (by trivial)) (qu (sub:=[none,some 4]) (jB (N:=["upper","lower","far","high","low","one","other"]) (sc:=az jO) (N':=["end","low"]) (by trivial)) rfl rfl rfl (qt (K:=K) rfl (ak 0)) (fun C s₀ H₀ ex=>(zW 0 (by trivial) uW)) (fun C s₀ H₀ ex=>lB) (fun C s₀ H₀ ex=>(bf aN (xO 1 (by trivial)) (vO 0 (by trivial)))))) rfl) (aq (aH (i:=6) iw.nd rfl cG (bf aN (ak 1) (CG rfl bc T.b_list bc T.b_range (aa (bf aN (El 4) (ak 2)) (aa (bf aN (bf aN (El 4) (ak 2)) (ak 3)) ao)))) rfl) (aA (aJ (aO CW (hr.mono (by decide)) bc (aa (ak 5) (aa (ak 6) ao)) (by trivial)))))))),?_⟩
 walk_at "s"
 have hz:20000<=sizeLine:=by decide
 refine gZ (SqL.of hu1) ?_
 walk_at "s"
 rw [pR]
 walk_at "s"
 refine gZ (SqL.of hl) ?_
 walk_at "s"
 rw [pR,show ((mu+far:Nat):Int) - (far:Int)=(mu:Int) by omega,show ((ml+far:Nat):Int) - (far:Int)=(ml:Int) by omega]
 walk_at "s"
 refine ⟨ml,rfl,by omega,fun a H1 na S1 ha=>?_⟩
 walk_at "s"
 refine .inl ⟨u,rfl,⟨_,SqL.of (S1 _ _ hu1)⟩,?_⟩
 refine qy (xs:=(nI (LN mu far e)).map V.int) (fun i zs G=>G=H1/\zs=(nI (((LN mu far e).take i).map (ml+ ·))).map V.int) (by rw [pR];omega) ⟨rfl,rfl⟩ ?_ ?_ ?_ ?_
 ·rintro i zs G ⟨_,rfl⟩
  rw [cB];simp;omega
 ·rintro i zs G ⟨rfl,_⟩
  exact SqL.of (S1 _ _ hu1)
 ·rintro i zs G v hv ⟨rfl,rfl⟩
  obtain ⟨a',ea,rfl⟩:=KZ hv
  walk_at "s"
  refine ⟨KeepSt.set rfl,?_⟩
  walk_at "s"
  refine ⟨rfl,?_⟩
  rw [Zf,ea,XH,show ((ml:Int)+(a':Int))=((ml+a':Nat):Int) by omega]
  unfold nI
  rw [XH,XH]
  rfl
 rintro zs G D H2 ⟨rfl,rfl⟩ nD S2 hD
 rw [pR,← mU mu far e,Y0] at hD
 try walk_at "s"
 refine yz (S2 _ _ ha) hD (by rw [cB,cB];simp [mU];omega) fun o1 no1=>?_
 walk_at "s"
 rw [Lk]
 have S3:=(Same.refl H2).upd no1 (o:=.lst ((nI (List.range ml ++ (LN mu far e).map (ml+ ·))).map V.int))
 have ho1:=aj (H:=H2) (a:=o1) (o:=.lst ((nI (List.range ml ++ (LN mu far e).map (ml+ ·))).map V.int))
 generalize upd H2 o1 (.lst ((nI (List.range ml ++ (LN mu far e).map (ml+ ·))).map V.int))=H3 at S3 ho1 ⊢
 have U3:=S1.trans (S2.trans S3)
 walk_at "s"
 refine Ol (n:=mu) (by omega) (by omega) (by omega) (by omega) fun r nr=>?_
 walk_at "s"
 rw [Lp _ (ml+far) mu (by omega)] at ⊢
 have S4:=(Same.refl H3).upd nr (o:=.lst ((nI ((List.range mu).map (ml+far+ ·))).map V.int))
 have hr4:=aj (H:=H3) (a:=r) (o:=.lst ((nI ((List.range mu).map (ml+far+ ·))).map V.int))
 generalize upd H3 r (.lst ((nI ((List.range mu).map (ml+far+ ·))).map V.int))=H4 at S4 hr4 ⊢
 walk_at "s"
 refine yz (S4 _ _ (U3 _ _ hl)) hr4 (by rw [cB,cB];simp [mU];omega) fun o2 no2=>?_
 walk_at "s"
 rw [Lk]
 have S5:=(Same.refl H4).upd no2 (o:=.lst ((nI (LN ml far (fun i j=>e (mu+i) j) ++ (List.range mu).map (ml+far+ ·))).map V.int))
 have ho2:=aj (H:=H4) (a:=o2) (o:=.lst ((nI (LN ml far (fun i j=>e (mu+i) j) ++ (List.range mu).map (ml+far+ ·))).map V.int))
 generalize upd H4 o2 (.lst ((nI (LN ml far (fun i j=>e (mu+i) j) ++ (List.range mu).map (ml+far+ ·))).map V.int))=H5 at S5 ho2 ⊢
 have U5:=U3.trans (S4.trans S5)
 walk_at "s"
 refine ⟨o1,o2,_,_,mu+ml+far,rfl,(S4.trans S5) _ _ ho1,ho2,⟨PL (KJ (by omega)) (by rw [mU];omega),Ln (KJ (by omega)) (mU _ _ _) (by omega),by simp [mU];omega,by simp [mU];omega⟩,fun r' H6 nr' S6 hr'=>?_⟩
 rw [KN hn] at hr'
 exact q r' H6 (Same.back U5 nr') (U5.trans S6) hr'
def U9 (m:Nat) (e:Nat->Nat->Bool) (i j:Nat):List Nat:=(List.range j).flatMap fun j=>if e i j=true then [] else [m - 1 - i+j]
def stE (m far:Nat) (e:Nat->Nat->Bool) (i j:Nat):List Nat:=bK (List.range (m+far)) (al m far e i ++ U9 m e i j)
theorem Bc (m far:Nat) (e:Nat->Nat->Bool) (i j:Nat):stE m far e i (j+1)=if e i j=true then stE m far e i j else bA (stE m far e i j) (m - 1 - i+j):=by
 unfold stE U9
 rw [YX,List.flatMap_append,← YJ,Eo]
 simp only [List.flatMap_cons,List.flatMap_nil,YG]
 split
 ·rfl
 ·rfl
theorem EY (m far:Nat) (e:Nat->Nat->Bool) (i:Nat):stE m far e (i+1) 0=stE m far e i far:=by
 unfold stE U9
 rw [OD]
 simp only [List.range_zero,List.flatMap_nil,YG]
 rfl
theorem Fb (m far:Nat) (e:Nat->Nat->Bool):stE m far e m 0=Dn (m+far) (al m far e m):=by
 unfold stE U9 Dn
 simp
theorem Lq (m far:Nat) (e:Nat->Nat->Bool):stE m far e 0 0=List.range (m+far):=rfl
theorem Fd {m i j p:Nat} {e:Nat->Nat->Bool} (h:p∈U9 m e i j):∃ k,k < j/\p=m - 1 - i+k:=by
 unfold U9 at h
 obtain ⟨k,hk,h⟩:=List.mem_flatMap.mp h
 refine ⟨k,XJ.mp hk,?_⟩
 split at h
 ·cases h
 ·exact Yn.mp h
theorem zj {m far i j:Nat} {e:Nat->Nat->Bool} (hn:m+far<=96) (hi:i < m/\j<=far\/i<=m/\j=0):Prm (stE m far e i j):=by
 refine Em hn fun p hp=>?_
 rcases Yz.mp hp with h | h
 ·obtain ⟨a,b,ha,hb,rfl⟩:=CP h
  omega
 ·obtain ⟨k,hk,rfl⟩:=Fd h
  omega
theorem zm (m far:Nat) (e:Nat->Nat->Bool) (i j:Nat):(stE m far e i j).length=m+far:=by unfold stE;rw [jC];simp
theorem run_get {E ps:List Nat} {q:Nat} (h:∀ p∈ps,q < p):(bK E ps).getD q 0=E.getD q 0:=by
 induction ps generalizing E with
 | nil=>rfl
 | cons p ps ih=>
  show (bK (bA E p) ps).getD q 0=_
  rw [ih fun x hx=>h x (by simp [hx]),step_get (.inl (h p (by simp)))]
theorem zp {m far i j q:Nat} {e:Nat->Nat->Bool} (hi:i < m) (hq:q < m - 1 - i\/(q=m - 1 - i/\j=0)):(stE m far e i j).getD q 0=q:=by
 have hr:(List.range (m+far)).getD q 0=q:=by
  rw [Xl,X4 (by omega)];rfl
 unfold stE
 rw [run_get,hr]
 intro p hp
 rcases Yz.mp hp with h | h
 ·obtain ⟨a,b,ha,hb,rfl⟩:=CP h
  omega
 ·obtain ⟨k,hk,rfl⟩:=Fd h
  omega
theorem PP {E:List Nat} {p:Nat} (h:p+1 < E.length) (hw:uG E p=true):(bA E p).getD p 0=E.getD (p+1) 0/\(bA E p).getD (p+1) 0=E.getD p 0:=by
 rw [ww hw]
 refine ⟨?_,?_⟩
 ·rw [iG h,if_neg (by omega),if_pos rfl]
 ·rw [iG h,if_pos rfl]
end
local macro_rules | `(tactic| walk_at "s") => `(tactic| (with_reducible repeat (first | refine ou ?_ | walk_at "2")))
local macro_rules | `(tactic| walk_at "n") => `(tactic| (with_reducible repeat (walk_at "2")))
section
variable {P:Program} {w:World} {K:W.Frag} {mg:Str->Option Value} {base:Heap}
def Rule (m far:Nat) (e:Nat->Nat->Bool) (C:Nat->Nat->Bool):Prop:=∀ i j,i < m->j < far->C i j=(e i j || decide (gD m C j i < gA m C i j))
def cA (m far:Nat) (e:Nat->Nat->Bool) (i j:Nat):Bool:=e i j || decide ((stE m far e i j).getD (m - i+j) 0 < (stE m far e i j).getD (m - 1 - i+j) 0)
structure Gd (m far:Nat) (e:Nat->Nat->Bool) (i j:Nat):Prop where
 ln:gA m (cA m far e) i j=(stE m far e i j).getD (m - 1 - i+j) 0
 lo:∀ k,k < j->gD m (cA m far e) k (i+1)=(stE m far e i j).getD (m - 1 - i+k) 0
 hi:∀ k,j<=k->k < far->gD m (cA m far e) k i=(stE m far e i j).getD (m - i+k) 0
theorem PQ {m far:Nat} {e:Nat->Nat->Bool} {i j:Nat} (hn:m+far<=96) (hi:i < m) (hj:j < far) (w:Gd m far e i j):Gd m far e i (j+1):=by
 have hP:=zj (e:=e) hn (.inl ⟨hi,Nat.le_of_lt hj⟩)
 have hl:=zm m far e i j
 have h2:=w.hi j (Xp _) hj
 by_cases hc:cA m far e i j=true
 ·have eE:stE m far e i (j+1)=stE m far e i j:=by
   rw [Bc]
   split
   ·rfl
   ·rename_i hne
    unfold cA at hc
    have hlt:=Z0 ((Bool.or_eq_true _ _ ▸ hc).resolve_left hne)
    unfold bA
    rw [if_neg]
    unfold uG
    rw [show m - 1 - i+j+1=m - i+j by omega]
    simp only [decide_eq_true_eq]
    omega
  refine ⟨?_,fun k hk=>?_,fun k hk hk2=>?_⟩
  ·rw [lK,if_pos hc,eE,h2,show m - 1 - i+(j+1)=m - i+j by omega]
  ·rw [eE]
   by_cases e1:k=j
   ·subst e1
    rw [lM,if_pos hc];exact w.ln
   ·exact w.lo k (by omega)
  ·rw [eE];exact w.hi k (by omega) hk2
 ·have hcF:cA m far e i j=false:=by simpa using hc
  unfold cA at hcF
  obtain ⟨h3,h4⟩:=Z6.mp hcF
  have h4:=of_decide_eq_false h4
  have hne:(stE m far e i j).getD (m - 1 - i+j) 0≠(stE m far e i j).getD (m - i+j) 0:=fun z=>by
   have:=yO (n:=m+far) (by have:=hP.pm;rw [hl] at this;exact this) (by omega) (by omega) z
   omega
  have hw:uG (stE m far e i j) (m - 1 - i+j)=true:=by
   unfold uG
   rw [show m - 1 - i+j+1=m - i+j by omega]
   simp only [decide_eq_true_eq]
   omega
  have eE:stE m far e i (j+1)=bA (stE m far e i j) (m - 1 - i+j):=by rw [Bc,h3];rfl
  obtain ⟨s1,s2⟩:=PP (by rw [hl];omega) hw
  refine ⟨?_,fun k hk=>?_,fun k hk hk2=>?_⟩
  ·rw [lK,if_neg hc,eE,show m - 1 - i+(j+1)=m - 1 - i+j+1 by omega,s2];exact w.ln
  ·rw [eE]
   by_cases e1:k=j
   ·subst e1
    rw [lM,if_neg hc,s1,show m - 1 - i+k+1=m - i+k by omega];exact h2
   ·rw [step_get (.inl (by omega))]
    exact w.lo k (by omega)
  ·rw [eE,step_get (.inr (by omega))]
   exact w.hi k (by omega) hk2
theorem vd {m far:Nat} {e:Nat->Nat->Bool} {i:Nat} (hn:m+far<=96) (hi:i < m) (h:Gd m far e i 0):∀ j,j<=far->Gd m far e i j
 | 0,_=>h
 | j+1,hj=>PQ hn hi (by omega) (vd hn hi h j (by omega))
theorem zq {m far:Nat} {e:Nat->Nat->Bool} (hn:m+far<=96):∀ i,i<=m->∀ k,k < far->gD m (cA m far e) k i=(stE m far e i 0).getD (m - i+k) 0
 | 0,_,k,hk=>by
  rw [jh,Lq,Xl,X4 (by omega)];rfl
 | i+1,hi,k,hk=>by
  have ih:=zq (e:=e) hn i (by omega)
  have g0:Gd m far e i 0:=⟨by rw [jA,Nat.add_zero,zp (by omega) (.inr ⟨rfl,rfl⟩)],fun k hk=>absurd hk (Zo _),fun k _ hk=>ih k hk⟩
  rw [(vd hn (by omega) g0 far (Xp _)).lo k hk,EY,show m - (i+1)+k=m - 1 - i+k by omega]
theorem Fe {m far:Nat} {e:Nat->Nat->Bool} (hn:m+far<=96):Rule m far e (cA m far e):=fun i j hi hj=>by
 have g0:Gd m far e i 0:=⟨by rw [jA,Nat.add_zero,zp hi (.inr ⟨rfl,rfl⟩)],fun k hk=>absurd hk (Zo _),fun k _ hk=>zq hn i (by omega) k hk⟩
 have g:=vd hn hi g0 j (by omega)
 rw [g.hi j (Xp _) hj,g.ln]
 rfl
theorem WR {m far:Nat} {e:Nat->Nat->Bool} (hn:m+far<=96) {p:Nat} (hp:p < far):(LN m far e)[gD m (cA m far e) p m]?=some p:=by
 have hP:=zj (m:=m) (far:=far) (e:=e) hn (.inr ⟨Xp m,rfl⟩)
 have hl:=zm m far e m 0
 rw [zq hn m (Xp _) p hp,Nat.sub_self,Nat.zero_add]
 unfold LN
 rw [← Fb]
 have hx:=hP.lt (X3 (getD_some (B:=stE m far e m 0) (i:=p) (by omega)))
 rw [getD_some (by rw [bz];exact hx),En hP (by omega)]
def eT (cs:List Nat) (top:Str) (i j:Nat):Bool:=decide (cs.getD i 0=top.cps.getD j 0)
theorem Lr {m far:Nat} {e e':Nat->Nat->Bool} (h:∀ i j,i < m->j < far->e i j=e' i j):al m far e m=al m far e' m:=by
 unfold al rs
 refine iH fun i hi=>iH fun j hj=>?_
 rw [h i j (XJ.mp hi) (XJ.mp hj)]
theorem Be {m far:Nat} {e e':Nat->Nat->Bool} (h:∀ i j,i < m->j < far->e i j=e' i j):LN m far e=LN m far e':=by unfold LN;rw [Lr h]
theorem PX {far:Nat} {e:Nat->Nat->Bool} (hn:1+far<=96):(LN 1 far e)[gA 1 (cA 1 far e) 0 far]?=some far:=by
 have hP:=zj (m:=1) (far:=far) (e:=e) hn (.inr ⟨Xp 1,rfl⟩)
 have hl:=zm 1 far e 1 0
 have g0:Gd 1 far e 0 0:=⟨by rw [jA,Nat.add_zero,zp (by omega) (.inr ⟨rfl,rfl⟩)],fun k hk=>absurd hk (Zo _),fun k _ hk=>zq hn 0 (by omega) k hk⟩
 have g:=vd hn (by omega) g0 far (Xp _)
 rw [g.ln,← EY,show 1 - 1 - 0+far=far by omega]
 unfold LN
 rw [← Fb]
 have hx:=hP.lt (X3 (getD_some (B:=stE 1 far e 1 0) (i:=far) (by omega)))
 rw [getD_some (by rw [bz];exact hx),En hP (by omega)]
theorem zr {far:Nat} {e C C':Nat->Nat->Bool} (h:Rule 1 far e C) (h':Rule 1 far e C'):∀ j,j<=far->gA 1 C 0 j=gA 1 C' 0 j/\∀ k,k < j->C 0 k=C' 0 k
 | 0,_=>⟨by rw [jA,jA],fun k hk=>absurd hk (Zo _)⟩
 | j+1,hj=>by
  obtain ⟨i1,i2⟩:=zr h h' j (by omega)
  have e1:C 0 j=C' 0 j:=by rw [h 0 j (by omega) (by omega),h' 0 j (by omega) (by omega),i1,jh,jh]
  refine ⟨by rw [lK,lK,e1,i1,jh,jh],fun k hk=>?_⟩
  by_cases e2:k=j
  ·rw [e2];exact e1
  ·exact i2 k (by omega)
theorem P0 {far:Nat} {e C:Nat->Nat->Bool} {R:List Int} (hn:1+far<=96) (hC:Rule 1 far e C) (h:IsEnds 1 C far R):R=nI (LN 1 far e):=by
 obtain ⟨u1,u2⟩:=zr hC (Fe hn) far (Xp _)
 refine IsEnds.eq h ⟨by unfold nI;rw [Xu,mU],fun j hj=>?_,fun i hi=>?_⟩
 ·have e1:gD 1 C j 1=gD 1 (cA 1 far e) j 1:=by
   obtain ⟨v1,_⟩:=zr hC (Fe hn) j (by omega)
   rw [lM,lM,u2 j hj,v1,jh,jh]
  unfold nI
  rw [e1,Xw,WR hn hj];rfl
 ·obtain rfl:i=0:=by omega
  unfold nI
  rw [u1,Xw,PX hn];rfl
inductive Tr where
 | lf (c:Nat)
 | nd (u l:Tr)
def Tr.codes:Tr->List Nat
 | .lf c=>[c]
 | .nd u l=>u.codes ++ l.codes
def Tr.many:Tr->Nat
 | .lf _=>1
 | .nd u l=>u.many+l.many
def Tr.tall:Tr->Nat
 | .lf _=>0
 | .nd u l=>max (u.tall+1) (l.tall+1)
def Tr.kids:Tr->List Tr
 | .lf _=>[]
 | .nd u l=>[u,l]
theorem bD:∀ t:Tr,t.codes.length=t.many
 | .lf _=>rfl
 | .nd u l=>by rw [Tr.codes,Yc,bD u,bD l,Tr.many]
theorem wM:∀ t:Tr,1<=t.many
 | .lf _=>Xp 1
 | .nd u l=>by have:=wM u;rw [Tr.many];omega
theorem sG:∀ t:Tr,t.tall < t.many
 | .lf _=>Z8 0
 | .nd u l=>by
  have h1:=sG u
  have h2:=sG l
  have h3:=wM u
  have h4:=wM l
  rw [Tr.tall,Tr.many]
  omega
def QS (a b l:Tr):Tr:=if b.tall<=a.tall then .nd a (.nd b l) else match b with
 | .nd b1 b2=>.nd (.nd a b1) (.nd b2 l)
 | .lf c=>.nd a (.nd (.lf c) l)
def QT (u a b:Tr):Tr:=if a.tall<=b.tall then .nd (.nd u a) b else match a with
 | .nd a1 a2=>.nd (.nd u a1) (.nd a2 b)
 | .lf c=>.nd (.nd u (.lf c)) b
def ev (u l:Tr):Tr:=if l.tall+1 < u.tall then (match u with | .nd a b=>QS a b l | .lf c=>.nd (.lf c) l) else if u.tall+1 < l.tall then (match l with | .nd a b=>QT u a b | .lf c=>.nd u (.lf c)) else .nd u l
theorem Hk (a b l:Tr):(QS a b l).codes=a.codes ++ (b.codes ++ l.codes):=by
 unfold QS
 split
 ·rfl
 ·cases b with
  | lf c=>rfl
  | nd b1 b2=>simp only [Tr.codes,YJ]
theorem Hl (u a b:Tr):(QT u a b).codes=u.codes ++ (a.codes ++ b.codes):=by
 unfold QT
 split
 ·simp only [Tr.codes,YJ]
 ·cases a with
  | lf c=>simp only [Tr.codes,YJ]
  | nd b1 b2=>simp only [Tr.codes,YJ]
theorem sH (u l:Tr):(ev u l).codes=u.codes ++ l.codes:=by
 unfold ev
 split
 ·cases u with
  | lf c=>rfl
  | nd a b=>show (QS a b l).codes=_;rw [Hk,Tr.codes,YJ]
 ·split
  ·cases l with
   | lf c=>rfl
   | nd a b=>show (QT u a b).codes=_;rw [Hl,Tr.codes]
  ·rfl
def wp (c:Nat):Tr->Nat->Tr
 | .lf d,p=>if p=0 then .nd (.lf c) (.lf d) else .nd (.lf d) (.lf c)
 | .nd u l,p=>if p<=u.many then ev (wp c u p) l else ev u (wp c l (p - u.many))
def wo:Tr->Nat->Option Tr
 | .lf _,_=>none
 | .nd u l,p=>if p < u.many then (match wo u p with | none=>some l | some r=>some (ev r l)) else (match wo l (p - u.many) with | none=>some u | some r=>some (ev u r))
def wc (c:Nat):Tr->Nat->Tr
 | .lf _,_=>.lf c
 | .nd u l,p=>if p < u.many then .nd (wc c u p) l else .nd u (wc c l (p - u.many))
def bt:Nat->List Nat->Tr
 | 0,cs=>.lf (cs.headD 0)
 | d+1,cs=>if cs.length<=1 then .lf (cs.headD 0) else .nd (bt d (cs.take (cs.length / 2))) (bt d (cs.drop (cs.length / 2)))
theorem sI (c:Nat):∀ (t:Tr) (p:Nat),p<=t.many->(wp c t p).codes=t.codes.take p ++ c :: t.codes.drop p
 | .lf d,p,h=>by
  unfold wp
  split
  ·rename_i e;subst e;rfl
  ·rename_i e
   obtain rfl:p=1:=by have:(Tr.lf d).many=1:=rfl;omega
   rfl
 | .nd u l,p,h=>by
  rw [Tr.many] at h
  unfold wp
  have lu:=bD u
  split
  ·rename_i e
   rw [sH,sI c u p e,Tr.codes,ZL (by omega),ZM (by omega)]
   simp
  ·rename_i e
   rw [sH,sI c l _ (by omega),Tr.codes,List.take_append,Aaa,Ym (by omega:u.codes.length<=p),Yo (by omega:u.codes.length<=p),lu]
   simp
theorem sJ:∀ (t:Tr) (p:Nat),p < t.many->(wo t p=none/\t.many=1)\/∃ r,wo t p=some r/\r.codes=t.codes.take p ++ t.codes.drop (p+1)
 | .lf d,p,h=>.inl ⟨rfl,rfl⟩
 | .nd u l,p,h=>by
  rw [Tr.many] at h
  right
  unfold wo
  have lu:=bD u
  have ll:=bD l
  split
  ·rename_i e
   rcases sJ u p e with ⟨e1,e2⟩ | ⟨r,e1,e2⟩
   ·rw [e1]
    refine ⟨l,rfl,?_⟩
    obtain rfl:p=0:=by omega
    rw [Tr.codes,Aaa,Yo (by omega),show 0+1 - u.codes.length=0 by omega]
    rfl
   ·rw [e1]
    refine ⟨_,rfl,?_⟩
    rw [sH,e2,Tr.codes,ZL (by omega),ZM (by omega),YJ]
  ·rename_i e
   rcases sJ l (p - u.many) (by omega) with ⟨e1,e2⟩ | ⟨r,e1,e2⟩
   ·rw [e1]
    refine ⟨u,rfl,?_⟩
    rw [Tr.codes,List.take_append,Aaa,Ym (by omega:u.codes.length<=p),Yo (by omega:u.codes.length<=p+1),Yo (by omega),show p - u.codes.length=0 by omega]
    simp
   ·rw [e1]
    refine ⟨_,rfl,?_⟩
    rw [sH,e2,Tr.codes,List.take_append,Aaa,Ym (by omega:u.codes.length<=p),Yo (by omega:u.codes.length<=p+1),lu,show p+1 - u.many=p - u.many+1 by omega]
    simp
theorem sO (c:Nat):∀ (t:Tr) (p:Nat),p < t.many->(wc c t p).codes=t.codes.take p ++ c :: t.codes.drop (p+1)
 | .lf d,p,h=>by
  obtain rfl:p=0:=by have:(Tr.lf d).many=1:=rfl;omega
  rfl
 | .nd u l,p,h=>by
  rw [Tr.many] at h
  unfold wc
  have lu:=bD u
  split
  ·rename_i e
   rw [Tr.codes,sO c u p e,Tr.codes,ZL (by omega),ZM (by omega)]
   simp
  ·rename_i e
   rw [Tr.codes,sO c l _ (by omega),Tr.codes,List.take_append,Aaa,Ym (by omega:u.codes.length<=p),Yo (by omega:u.codes.length<=p+1),lu,show p+1 - u.many=p - u.many+1 by omega]
   simp
theorem sS:∀ (d:Nat) (cs:List Nat),cs≠[]->cs.length<=2 ^ d->(bt d cs).codes=cs
 | 0,[],h,_=>absurd rfl h
 | 0,[c],_,_=>rfl
 | 0,_ :: _ :: _,_,h=>by simp at h
 | d+1,cs,h,hl=>by
  have hp:0 < cs.length:=by cases cs with
   | nil=>exact absurd rfl h
   | cons a b=>simp
  rw [Nat.pow_succ] at hl
  unfold bt
  split
  ·cases cs with
   | nil=>exact absurd rfl h
   | cons a b=>cases b with
    | nil=>rfl
    | cons b cs=>simp at*
  ·rw [Tr.codes,sS d _ (fun z=>by have:=congrArg List.length z;rw [Yi,Zb] at this;omega) (by rw [Yi];omega),sS d _ (fun z=>by have:=congrArg List.length z;rw [Ye,Zb] at this;omega) (by rw [Ye];omega),List.take_append_drop]
end
local macro_rules | `(tactic| walk_at "s") => `(tactic| (with_reducible repeat (first | refine ou ?_ | walk_at "5")))
local macro_rules | `(tactic| walk_at "n") => `(tactic| (with_reducible repeat (walk_at "5")))
section
variable {P:Program} {w:World} {K:W.Frag} {mg:Str->Option Value} {base:Heap}
theorem qX:(["half"]:List Str).Nodup:=by trivial
theorem qY:(["half"]:List Str).Nodup:=by trivial
theorem iy {H:Hp} {x C dx:Addr} {fs:List (Str×V)} {f:Str} {y:V} (hf:(fs.map (·.1)).contains f=false):∃ H',upd H x (.ins C dx (cu f y fs))=H'/\H' x=some (.ins C dx (fs ++ [(f,y)]))/\Chg x H H':=
 ⟨_,rfl,by rw [aj,jD hf],Chg.put (Chg.refl x H)⟩
def ndF (k:Int) (al ah:Addr) (m h:Nat):List (Str×V):=[("mark",.int k),("held_lines",.ref al),("halves",.ref ah),("many",.int (m:Int)),("tall",.int (h:Int))]
def NdO (mg:Str->Option Value) (top:Str) (t:Tr) (H:Hp) (x:Addr) (hs:List V):Prop:=∃ dx k al ah,H x=some (.ins (aM mg "Node") dx (ndF k al ah t.many t.tall))/\H al=some (.lst ((nI (LN t.many top.cps.size (eT t.codes top))).map V.int))/\H ah=some (.tup hs)
def Nd (mg:Str->Option Value) (top:Str):Tr->Hp->Addr->Prop
 | .lf c,H,x=>NdO mg top (.lf c) H x []
 | .nd u l,H,x=>∃ y z,NdO mg top (.nd u l) H x [.ref y,.ref z]/\Nd mg top u H y/\Nd mg top l H z
def NO (o:HO):Prop:=(∃ C dx k al ah m h,o= .ins C dx (ndF k al ah m h))\/(∃ L:List Nat,o= .lst ((nI L).map V.int))\/∃ hs,o= .tup hs
def Kn (H H':Hp):Prop:=∀ b o,NO o->H b=some o->H' b=some o
theorem Kn.trans {H H1 H2:Hp} (a:Kn H H1) (b:Kn H1 H2):Kn H H2:=fun x o n e=>b x o n (a x o n e)
theorem Kn.same {H H':Hp} (s:Same H H'):Kn H H':=fun b o _ e=>s b o e
theorem Kn.chg {H H':Hp} {x:Addr} {o:HO} (hx:H x=some o) (n:¬ NO o) (c:Chg x H H'):Kn H H':=fun b u nu e=>c b u (fun z=>by rw [z,hx] at e;cases e;exact n nu) e
theorem NdO.kn {H H':Hp} {top:Str} {t:Tr} {x:Addr} {hs:List V} (h:NdO mg top t H x hs) (k:Kn H H'):NdO mg top t H' x hs:=by
 obtain ⟨dx,n,al,ah,h1,h2,h3⟩:=h
 exact ⟨dx,n,al,ah,k _ _ (.inl ⟨_,_,_,_,_,_,_,rfl⟩) h1,k _ _ (.inr (.inl ⟨_,rfl⟩)) h2,k _ _ (.inr (.inr ⟨_,rfl⟩)) h3⟩
theorem Nd.kn {H H':Hp} {top:Str} (k:Kn H H'):∀ {t:Tr} {x:Addr},Nd mg top t H x->Nd mg top t H' x
 | .lf c,x,h=>NdO.kn h k
 | .nd u l,x,h=>by
  obtain ⟨y,z,h1,h2,h3⟩:=h
  exact ⟨y,z,h1.kn k,h2.kn k,h3.kn k⟩
def HsK (mg:Str->Option Value) (top:Str) (H:Hp) (hs:List V) (ts:List Tr):Prop:=hs.length=ts.length/\∀ (i:Nat) (v:V),hs[i]?=some v->∃ y u,ts[i]?=some u/\v= .ref y/\Nd mg top u H y
theorem HsK.kn {H H':Hp} {top:Str} {hs:List V} {ts:List Tr} (h:HsK mg top H hs ts) (k:Kn H H'):HsK mg top H' hs ts:=⟨h.1,fun i v e=>by
 obtain ⟨y,u,e1,e2,e3⟩:=h.2 i v e
 exact ⟨y,u,e1,e2,e3.kn k⟩⟩
theorem Nd.of {top:Str} {H:Hp} {x:Addr}:∀ {t:Tr},Nd mg top t H x->∃ hs,NdO mg top t H x hs/\HsK mg top H hs t.kids
 | .lf c,h=>⟨[],h,rfl,fun i v e=>by cases e⟩
 | .nd u l,h=>by
  obtain ⟨y,z,h1,h2,h3⟩:=h
  refine ⟨_,h1,rfl,fun i v e=>?_⟩
  match i,e with
  | 0,e=>cases e;exact ⟨y,u,rfl,rfl,h2⟩
  | 1,e=>cases e;exact ⟨z,l,rfl,rfl,h3⟩
  | i+2,e=>cases e
theorem Nd.mk {top:Str} {H:Hp} {x:Addr} {hs:List V}:∀ {t:Tr},NdO mg top t H x hs->HsK mg top H hs t.kids->Nd mg top t H x
 | .lf c,h,k=>by
  obtain rfl:=Y6.mp k.1
  exact h
 | .nd u l,h,k=>by
  match hs,k,h with
  | [a,b],k,h=>
   obtain ⟨y,u',e1,rfl,n1⟩:=k.2 0 a rfl
   obtain ⟨z,l',e2,rfl,n2⟩:=k.2 1 b rfl
   cases e1;cases e2
   exact ⟨y,z,h,n1,n2⟩
  | [],k,h=>cases k.1
  | [a],k,h=>cases k.1
  | a :: b :: c :: d,k,h=>cases k.1
theorem nG {C dx:Addr} {fs:List (Str×V)} (h:fs.length≠5):¬ NO (.ins C dx fs):=by
 rintro (⟨_,_,_,_,_,_,_,e⟩ | ⟨_,e⟩ | ⟨_,e⟩)
 ·cases e;exact h rfl
 ·cases e
 ·cases e
theorem Hm:∀ t:Tr,t.kids≠[]->((nI (t.kids.map Tr.many)).sum:Int)=(t.many:Int)
 | .lf c,h=>absurd rfl h
 | .nd u l,_=>by
  show ((u.many:Int)+((l.many:Int)+0))=((u.many+l.many:Nat):Int)
  omega
theorem wN:∀ {t:Tr},t.kids=[]->t.many=1/\t.tall=0
 | .lf c,_=>⟨rfl,rfl⟩
 | .nd u l,h=>by cases h
theorem ye:∀ {t:Tr} {M:Int},M∈nI (t.kids.map fun u=>u.tall+1)->(∀ a∈nI (t.kids.map fun u=>u.tall+1),a<=M)->M=(t.tall:Int)
 | .lf c,M,h,_=>by cases h
 | .nd u l,M,h,k=>by
  unfold nI Tr.kids at h k
  simp only [Yk,List.map_nil,XD,Yj,or_false] at h k
  have h1:=k _ (.inl rfl)
  have h2:=k _ (.inr rfl)
  show M=((max (u.tall+1) (l.tall+1):Nat):Int)
  rcases h with rfl | rfl <;> omega
def Up (mg:Str->Option Value):Sp:=fun vs H Q _=>∃ (x dx al ah:Addr) (k:Int) (top:Str) (t:Tr) (hs:List V),vs=[.ref x,.int k,.ref al,.ref ah]/\H x=some (.ins (aM mg "Node") dx [])/\H al=some (.lst ((nI (LN t.many top.cps.size (eT t.codes top))).map V.int))/\H ah=some (.tup hs)/\HsK mg top H hs t.kids/\
 ∀ H',Chg x H H'->Nd mg top t H' x->Q .non H'
theorem ug:aD ["self","mark","lines","halves"] ["self","mark","lines","halves"] (az fG):=⟨rfl,rfl,rfl,by trivial,rfl,by trivial,by trivial⟩
theorem dY (T:Txt K mg):HasM P w K mg base 1 "Node" "__init__" ["self","mark","lines","halves"] (Up mg):=by
 refine jN T.m_Node___init__ ug (fun _ _ _ _ _ _ us hl=>L2.yg (fun _ _ _ _=>rfl) us hl) ?_ fun f cdv A outer s H vs Q E hr h=>?_
 ·rintro vs H Q E ⟨x,dx,al,ah,k,top,t,hs,rfl,_⟩;rfl
 obtain ⟨x,dx,al,ah,k,top,t,hs,rfl,hx,hl,hh,hK,q⟩:=h
 have hu:=hr.units0
 have hu64:=hr.units
 refine ⟨_,(aq (bM (K:=K) rfl (ak 0) (ak 1)) (aq (bM (K:=K) rfl (ak 0) (ak 2)) (aq (bM (K:=K) rfl (ak 0) (ak 3)) (aq (bM (K:=K) rfl (ak 0) (NB (yM (K:=K) rfl (ak 3)) (aL (GD rfl) bc T.b_sum SN (aa (qu (sub:=[none]) (jB (N:=["self","mark","lines","halves"]) (sc:=az fG) (N':=["half"]) (by trivial)) rfl rfl rfl (qt (K:=K) rfl (ak 3)) (fun C s₀ H₀ ex=>(zW 0 (by trivial) qY)) (fun C s₀ H₀ ex=>lB) (fun C s₀ H₀ ex=>(aW (K:=K) rfl (vO 0 (by trivial))))) ao) (by trivial) (by trivial)) aB)) (aA (bM (K:=K) rfl (ak 0) (T6 rfl bc T.b_max (qu (sub:=[none]) (jB (N:=["self","mark","lines","halves"]) (sc:=az fG) (N':=["half"]) (by trivial)) rfl rfl rfl (qt (K:=K) rfl (ak 3)) (fun C s₀ H₀ ex=>(zW 0 (by trivial) qX)) (fun C s₀ H₀ ex=>lB) (fun C s₀ H₀ ex=>(bf aN (aW (K:=K) rfl (vO 0 (by trivial))) aB))) aB))))))),?_⟩
 walk_at "s"
 have hz:20000<=sizeLine:=by decide
 have cl:=T.o_Node.cl
 have na:=T.n_Node
 have hs2:hs.length<=2:=by
  rw [hK.1]
  cases t with
  | lf c=>exact YK 2
  | nd u l=>exact Xp 2
 have lx:∀ {G:Hp} {C ex:Addr} {fs:List (Str×V)} {a:Addr} {us:List V},G x=some (.ins C ex fs)->G a=some (.lst us)->a≠x:=fun h1 h2 z=>by rw [z,h1] at h2;cases h2
 have tx:∀ {G:Hp} {C ex:Addr} {fs:List (Str×V)} {a:Addr} {us:List V},G x=some (.ins C ex fs)->G a=some (.tup us)->a≠x:=fun h1 h2 z=>by rw [z,h1] at h2;cases h2
 refine ⟨x,_,dx,_,rfl,hx,cl,na _ (by simp),by simp,?_⟩
 walk_at "s"
 obtain ⟨H1,e1,hx1,M1⟩:=iy (H:=H) (x:=x) (C:=aM mg "Node") (dx:=dx) (fs:=[]) (f:="mark") (y:=.int k) rfl
 rw [e1]
 walk_at "s"
 refine ⟨x,_,dx,_,rfl,hx1,cl,na _ (by simp),by simp,?_⟩
 walk_at "s"
 obtain ⟨H2,e2,hx2,M2⟩:=iy (H:=H1) (x:=x) (C:=aM mg "Node") (dx:=dx) (fs:=[] ++ [(Str.ofString "mark",V.int k)]) (f:="held_lines") (y:=.ref al) (by show (["mark"]:List Str).contains "held_lines"=false;trivial)
 rw [e2]
 walk_at "s"
 refine ⟨x,_,dx,_,rfl,hx2,cl,na _ (by simp),by simp,?_⟩
 walk_at "s"
 obtain ⟨H3,e3,hx3,M3⟩:=iy (H:=H2) (x:=x) (C:=aM mg "Node") (dx:=dx) (fs:=[] ++ [(Str.ofString "mark",V.int k)] ++ [(Str.ofString "held_lines",V.ref al)]) (f:="halves") (y:=.ref ah) (by show (["mark","held_lines"]:List Str).contains "halves"=false;trivial)
 rw [e3]
 have C3:=(M1.trans M2).trans M3
 clear M1 M2 M3 hx1 hx2 e1 e2 e3
 have K3:=Kn.chg hx (nG (by decide)) C3
 have hl3:=K3 _ _ (.inr (.inl ⟨_,rfl⟩)) hl
 have hh3:=K3 _ _ (.inr (.inr ⟨_,rfl⟩)) hh
 have hK3:=hK.kn K3
 have fin:∀ (H4:Hp),Chg x H3 H4->H4 x=some (.ins (aM mg "Node") dx ([] ++ [(Str.ofString "mark",V.int k)] ++ [(Str.ofString "held_lines",V.ref al)] ++ [(Str.ofString "halves",V.ref ah)] ++ [(Str.ofString "many",V.int (t.many:Int))]))->∀ (D:Addr) (H5:Hp),Same H4 H5->
   Q .non (upd H5 x (.ins (aM mg "Node") dx (cu (Str.ofString "tall") (.int (t.tall:Int)) ([] ++ [(Str.ofString "mark",V.int k)] ++ [(Str.ofString "held_lines",V.ref al)] ++ [(Str.ofString "halves",V.ref ah)] ++ [(Str.ofString "many",V.int (t.many:Int))])))):=fun H4 c4 hx4 D H5 S5=>by
  obtain ⟨H6,e6,hx6,M6⟩:=iy (H:=H5) (x:=x) (C:=aM mg "Node") (dx:=dx) (fs:=[] ++ [(Str.ofString "mark",V.int k)] ++ [(Str.ofString "held_lines",V.ref al)] ++ [(Str.ofString "halves",V.ref ah)] ++ [(Str.ofString "many",V.int (t.many:Int))]) (f:=Str.ofString "tall") (y:=.int (t.tall:Int)) (by show (["mark","held_lines","halves","many"]:List Str).contains "tall"=false;trivial)
  rw [e6]
  have C6:=(Chg.same (C3.trans c4) S5).trans M6
  have K6:=Kn.chg hx (nG (by decide)) C6
  exact q H6 C6 (Nd.mk ⟨dx,k,al,ah,hx6,K6 _ _ (.inr (.inl ⟨_,rfl⟩)) hl,K6 _ _ (.inr (.inr ⟨_,rfl⟩)) hh⟩ (hK.kn K6))
 cases hb:hs.isEmpty with
 | true=>
  refine oM (b:=false) (SqT.of hh3) (by rw [hb];rfl) ?_
  walk_at "s"
  have hk:t.kids=[]:=Y6.mp (by rw [← hK.1,List.isEmpty_iff.mp hb];rfl)
  refine ⟨x,_,dx,_,rfl,hx3,cl,na _ (by simp),by simp,?_⟩
  walk_at "s"
  obtain ⟨H4,e4,hx4,c4⟩:=iy (H:=H3) (x:=x) (C:=aM mg "Node") (dx:=dx) (fs:=[] ++ [(Str.ofString "mark",V.int k)] ++ [(Str.ofString "held_lines",V.ref al)] ++ [(Str.ofString "halves",V.ref ah)]) (f:=Str.ofString "many") (y:=.int 1) (by show (["mark","held_lines","halves"]:List Str).contains "many"=false;trivial)
  rw [e4]
  rw [show V.int 1=V.int (t.many:Int) by rw [(wN hk).1];rfl] at hx4
  have K4:=Kn.chg hx3 (nG (by show (3:Nat)≠5;decide)) c4
  have hh4:=K4 _ _ (.inr (.inr ⟨_,rfl⟩)) hh3
  have hK4:=hK3.kn K4
  walk_at "s"
  refine .inr (.inl ⟨ah,rfl,⟨_,SqT.of hh4⟩,?_⟩)
  refine tM (xs:=hs) (fun i zs G=>G=H4/\zs=(nI ((t.kids.take i).map fun u=>u.tall+1)).map V.int) (by omega) ⟨rfl,rfl⟩ ?_ ?_ ?_ ?_
  ·rintro i zs G ⟨_,rfl⟩
   rw [cB];simp;omega
  ·rintro i zs G ⟨rfl,_⟩
   exact SqT.of hh4
  ·rintro i zs G v hv ⟨rfl,rfl⟩
   obtain ⟨y,u,eu,rfl,hN⟩:=hK4.2 i v hv
   obtain ⟨gs,⟨dy,k',al',ah',hy,_,_⟩,_⟩:=hN.of
   walk_at "s"
   refine ⟨KeepSt.set rfl,?_⟩
   walk_at "s"
   refine ⟨y,_,dy,_,_,rfl,hy,cl,na _ (by simp),rfl,?_⟩
   walk_at "s"
   refine ⟨rfl,?_⟩
   rw [Zf,eu,XH,show ((u.tall:Int)+1)=((u.tall+1:Nat):Int) by omega,sE]
   rfl
  rintro zs G D H9 ⟨rfl,rfl⟩ nD S9 hD
  rw [hK4.1,Y0] at hD
  try walk_at "s"
  have hx9:=S9 _ _ hx4
  refine ⟨D,_,rfl,hD,fun e=>?_,fun M hM hmx=>?_⟩
  ·have e0:t.kids=[]:=by
    cases hq:t.kids with
    | nil=>rfl
    | cons a b=>rw [hq] at e;cases e
   walk_at "s"
   refine ⟨x,_,dx,_,rfl,hx9,cl,na _ (by simp),by simp,?_⟩
   have:=fin _ c4 hx4 D H9 S9
   rw [(wN e0).2] at this
   exact this
  ·walk_at "s"
   refine ⟨x,_,dx,_,rfl,hx9,cl,na _ (by simp),by simp,?_⟩
   rw [ye hM hmx]
   exact fin _ c4 hx4 D H9 S9
 | false=>
  refine oM (b:=true) (SqT.of hh3) (by rw [hb];rfl) ?_
  walk_at "s"
  refine .inr (.inl ⟨ah,rfl,⟨_,SqT.of hh3⟩,?_⟩)
  refine tM (xs:=hs) (fun i zs G=>G=H3/\zs=(nI ((t.kids.take i).map Tr.many)).map V.int) (by omega) ⟨rfl,rfl⟩ ?_ ?_ ?_ ?_
  ·rintro i zs G ⟨_,rfl⟩
   rw [cB];simp;omega
  ·rintro i zs G ⟨rfl,_⟩
   exact SqT.of hh3
  ·rintro i zs G v hv ⟨rfl,rfl⟩
   obtain ⟨y,u,eu,rfl,hN⟩:=hK3.2 i v hv
   obtain ⟨gs,⟨dy,k',al',ah',hy,_,_⟩,_⟩:=hN.of
   walk_at "s"
   refine ⟨KeepSt.set rfl,?_⟩
   walk_at "s"
   refine ⟨y,_,dy,_,_,rfl,hy,cl,na _ (by simp),rfl,?_⟩
   walk_at "s"
   refine ⟨rfl,?_⟩
   rw [Zf,eu,XH,sE]
   rfl
  rintro zs G D H8 ⟨rfl,rfl⟩ nD S8 hD
  rw [hK3.1,Y0] at hD
  try walk_at "s"
  refine Wn hD ?_
  walk_at "s"
  rw [Hm t fun z=>by rw [z] at hK3;rw [Y6.mp hK3.1] at hb;cases hb]
  have hx8:=S8 _ _ hx3
  refine ⟨x,_,dx,_,rfl,hx8,cl,na _ (by simp),by simp,?_⟩
  walk_at "s"
  obtain ⟨H4,e4,hx4,M4⟩:=iy (H:=H8) (x:=x) (C:=aM mg "Node") (dx:=dx) (fs:=[] ++ [(Str.ofString "mark",V.int k)] ++ [(Str.ofString "held_lines",V.ref al)] ++ [(Str.ofString "halves",V.ref ah)]) (f:=Str.ofString "many") (y:=.int (t.many:Int)) (by show (["mark","held_lines","halves"]:List Str).contains "many"=false;trivial)
  rw [e4]
  have c4:=(Chg.same (Chg.refl x _) S8).trans M4
  have K4:=Kn.chg hx3 (nG (by show (3:Nat)≠5;decide)) c4
  have hh4:=K4 _ _ (.inr (.inr ⟨_,rfl⟩)) hh3
  have hK4:=hK3.kn K4
  walk_at "s"
  refine .inr (.inl ⟨ah,rfl,⟨_,SqT.of hh4⟩,?_⟩)
  refine tM (xs:=hs) (fun i zs G=>G=H4/\zs=(nI ((t.kids.take i).map fun u=>u.tall+1)).map V.int) (by omega) ⟨rfl,rfl⟩ ?_ ?_ ?_ ?_
  ·rintro i zs G ⟨_,rfl⟩
   rw [cB];simp;omega
  ·rintro i zs G ⟨rfl,_⟩
   exact SqT.of hh4
  ·rintro i zs G v hv ⟨rfl,rfl⟩
   obtain ⟨y,u,eu,rfl,hN⟩:=hK4.2 i v hv
   obtain ⟨gs,⟨dy,k',al',ah',hy,_,_⟩,_⟩:=hN.of
   walk_at "s"
   refine ⟨KeepSt.set rfl,?_⟩
   walk_at "s"
   refine ⟨y,_,dy,_,_,rfl,hy,cl,na _ (by simp),rfl,?_⟩
   walk_at "s"
   refine ⟨rfl,?_⟩
   rw [Zf,eu,XH,show ((u.tall:Int)+1)=((u.tall+1:Nat):Int) by omega,sE]
   rfl
  rintro zs G D H9 ⟨rfl,rfl⟩ nD S9 hD
  rw [hK4.1,Y0] at hD
  try walk_at "s"
  have hx9:=S9 _ _ hx4
  refine ⟨D,_,rfl,hD,fun e=>?_,fun M hM hmx=>?_⟩
  ·have e0:t.kids=[]:=by
    cases hq:t.kids with
    | nil=>rfl
    | cons a b=>rw [hq] at e;cases e
   walk_at "s"
   refine ⟨x,_,dx,_,rfl,hx9,cl,na _ (by simp),by simp,?_⟩
   have:=fin _ c4 hx4 D H9 S9
   rw [(wN e0).2] at this
   exact this
  ·walk_at "s"
   refine ⟨x,_,dx,_,rfl,hx9,cl,na _ (by simp),by simp,?_⟩
   rw [ye hM hmx]
   exact fin _ c4 hx4 D H9 S9
theorem made {H1 H2:Hp} {x dx:Addr} {o o':HO} (nx:H1 x=none) (ndx:H1 dx=none) (c:Chg x (upd (upd H1 dx o) x o') H2):Same H1 H2:=fun b u e=>by
 have n1:b≠x:=fun z=>by rw [z,nx] at e;cases e
 have n2:b≠dx:=fun z=>by rw [z,ndx] at e;cases e
 exact c b u n1 (by rw [aC n1,aC n2];exact e)
theorem WT {H1:Hp} {x dx g:Addr} {o o' u:HO} (nx:H1 x=none) (ndx:H1 dx=none) (e:H1 g=some u):upd (upd H1 dx o) x o' g=some u/\g≠x:=by
 have n1:g≠x:=fun z=>by rw [z,nx] at e;cases e
 have n2:g≠dx:=fun z=>by rw [z,ndx] at e;cases e
 exact ⟨by rw [aC n1,aC n2];exact e,n1⟩
theorem Qa {c:Nat} (h:c∈GOOD):Row ⟨#[c]⟩:=⟨by rw [rT];decide,fun d hd=>by simp at hd;rw [hd];exact h⟩
def cO (side top:Str) (k b:Int) (rest:List (Str×V)):List (Str×V):=("held_side",.str side) :: ("held_top",.str top) :: ("last_mark",.int k) :: ("mark_before",.int b) :: rest
def Hn (rest:List (Str×V)):Prop:=rest=[]\/∃ v,rest=[(("held_root":Str),v)]
def Km (mg:Str->Option Value) (x dx:Addr) (side top:Str) (b:Int) (rest:List (Str×V)) (H:Hp):Prop:=∃ k,H x=some (.ins (aM mg "Kept") dx (cO side top k b rest))
theorem Km.same {x dx:Addr} {side top:Str} {b:Int} {rest:List (Str×V)} {H H':Hp} (h:Km mg x dx side top b rest H) (s:Same H H'):Km mg x dx side top b rest H':=let ⟨k,e⟩:=h;⟨k,s _ _ e⟩
def hoK:HO->Str
 | .ins _ _ ((f,_) :: _)=>f
 | _=>""
theorem bW {C dx:Addr} {side top:Str} {k b:Int} {rest:List (Str×V)}:¬ NO (.ins C dx (cO side top k b rest)):=by
 rintro (⟨_,_,_,_,_,_,_,e⟩ | ⟨_,e⟩ | ⟨_,e⟩)
 ·unfold cO ndF at e
  have:=congrArg hoK e
  revert this
  show ("held_side":Str)=("mark":Str)->False
  exact of_decide_eq_false (by trivial)
 ·cases e
 ·cases e
theorem Km.kn {x dx:Addr} {side top:Str} {b:Int} {rest:List (Str×V)} {H H':Hp} (h:Km mg x dx side top b rest H) (c:Chg x H H'):Kn H H':=let ⟨_,e⟩:=h;Kn.chg e bW c
theorem aY {side top:Str} {k b:Int} {rest:List (Str×V)} {m:Str} (hr:Hn rest) (h:(["held_side","held_top","last_mark","mark_before","held_root"]:List Str).contains m=false):(cO side top k b rest).lookup m=none:=by
 simp only [Zj,Z6] at h
 obtain ⟨h1,h2,h3,h4,h5,_⟩:=h
 unfold cO
 simp only [Yg,h1,h2,h3,h4]
 rcases hr with rfl | ⟨v,rfl⟩
 ·rfl
 ·simp only [Yg,h5,List.lookup_nil]
theorem Qc {side top:Str} {k b z:Int} {rest:List (Str×V)}:cu "last_mark" (.int z) (cO side top k b rest)=cO side top z b rest:=by
 unfold cO
 rw [cu,if_neg (by trivial),cu,if_neg (by trivial),cu,if_pos rfl]
theorem Uq {side top:Str} {k b:Int} {rest:List (Str×V)} (hr:Hn rest):(cO side top k b rest).length < 1000:=by
 rcases hr with rfl | ⟨v,rfl⟩
 ·exact (by decide:4 < 1000)
 ·exact (by decide:5 < 1000)
def Qd (mg:Str->Option Value):Sp:=fun vs H Q _=>∃ (x dx:Addr) (side top:Str) (b:Int) (rest:List (Str×V)),vs=[.ref x]/\Hn rest/\Km mg x dx side top b rest H/\∀ k H',Chg x H H'->Km mg x dx side top b rest H'->Q (.int k) H'
theorem qZ:aD ["self"] ["self"] (az jf):=⟨rfl,rfl,rfl,by trivial,rfl,by trivial,by trivial⟩
theorem cj (T:Txt K mg):HasM P w K mg base 1 "Kept" "fresh_mark" ["self"] (Qd mg):=by
 refine jN T.m_Kept_fresh_mark qZ (fun _ _ _ _ _ _ us hl=>L2.nY (fun _=>rfl) us hl) ?_ fun f cdv A outer s H vs Q E hr h=>?_
 ·rintro vs H Q E ⟨x,dx,side,top,b,rest,rfl,_⟩;rfl
 obtain ⟨x,dx,side,top,b,rest,rfl,hr',⟨k,hx⟩,q⟩:=h
 have hu:=hr.units0
 have hu64:=hr.units
 refine ⟨_,(aq (Om (K:=K) rfl RL (ak 0) aB) (aA (aJ (aW (K:=K) rfl (ak 0))))),?_⟩
 walk_at "s"
 have cl:=T.o_Kept.cl
 have na:=T.n_Kept
 refine ⟨x,_,dx,_,_,rfl,hx,cl,na _ (by simp),rfl,?_⟩
 walk_at "s"
 refine ⟨k,1,rfl,rfl,dx,_,hx,Uq hr',?_⟩
 walk_at "s"
 rw [Qc]
 have hx1:=aj (H:=H) (a:=x) (o:=.ins (aM mg "Kept") dx (cO side top (k+1) b rest))
 have C1:Chg x H (upd H x (.ins (aM mg "Kept") dx (cO side top (k+1) b rest))):=Chg.put (Chg.refl x H)
 generalize upd H x (.ins (aM mg "Kept") dx (cO side top (k+1) b rest))=H1 at hx1 C1 ⊢
 walk_at "s"
 refine ⟨x,_,dx,_,_,rfl,hx1,cl,na _ (by simp),rfl,?_⟩
 walk_at "s"
 exact q _ H1 C1 ⟨_,hx1⟩
theorem Ur {c:Nat} {top:Str} {R:List Int} (ht:top.cps.size<=48) (h:IsEnds (mS ⟨#[c]⟩) (CB ⟨#[c]⟩ top) (mS top) R):R=nI (LN (Tr.lf c).many top.cps.size (eT (Tr.lf c).codes top)):=
 P0 (e:=eT [c] top) (by omega) (fun i j hi hj=>by
  have:=Px (side:=⟨#[c]⟩) (top:=top) (i:=i) (j:=j) hi hj
  rw [this]
  obtain rfl:i=0:=by omega
  rfl) h
def Qe (mg:Str->Option Value):Sp:=fun vs H Q _=>∃ (x dx:Addr) (side top:Str) (b:Int) (rest:List (Str×V)) (c:Nat),vs=[.ref x,.str ⟨#[c]⟩]/\Hn rest/\Km mg x dx side top b rest H/\c∈GOOD/\Row top/\
 ∀ y H',Chg x H H'->Km mg x dx side top b rest H'->Nd mg top (.lf c) H' y->Q (.ref y) H'
theorem q9:aD ["self","sign"] ["self","sign"] (az jg):=⟨rfl,rfl,rfl,by trivial,rfl,by trivial,by trivial⟩
theorem aU (T:Txt K mg):HasM P w K mg base 7 "Kept" "strip_node" ["self","sign"] (Qe mg):=by
 have dY:=dY (P:=P) (w:=w) (base:=base) T
 have cj:=cj (P:=P) (w:=w) (base:=base) T
 have mq:=mq (P:=P) (w:=w) (base:=base) T
 have jw:=jw (P:=P) (w:=w) (base:=base) T
 refine jN T.m_Kept_strip_node q9 (fun _ _ _ _ _ _ us hl=>L2.nP (fun _ _=>rfl) us hl) ?_ fun f cdv A outer s H vs Q E hr h=>?_
 ·rintro vs H Q E ⟨x,dx,side,top,b,rest,c,rfl,_⟩;rfl
 obtain ⟨x,dx,side,top,b,rest,c,rfl,hr',hK,hc,ht,q⟩:=h
 have hu:=hr.units0
 have hu64:=hr.units
 refine ⟨_,(aA (aJ (su T.o_Node dY (hr.mono (by decide)) bc aG (aa (oH (ak 0) T.o_Kept cj (hr.mono (by decide)) aG) (aa (oH (su T.o_Board jw (hr.mono (by decide)) bc aG (aa (ak 1) (aa (aW (K:=K) rfl (ak 0)) ao)) (by trivial)) T.o_Board mq (hr.mono (by decide)) aG) (aa (uB ao) ao))) (by trivial)))),?_⟩
 walk_at "s"
 obtain ⟨k0,hx⟩:=id hK
 have nf:∀ {z:Int},(cO side top z b rest).lookup (Str.ofString "fresh_mark")=none:=aY hr' (by trivial)
 refine ⟨x,dx,_,rfl,hx,nf,?_⟩
 walk_at "s"
 refine ⟨x,dx,side,top,b,rest,rfl,hr',hK,fun k H1 C1 K1=>?_⟩
 walk_at "s"
 obtain ⟨k1,hx1⟩:=id K1
 refine ⟨x,_,dx,_,_,rfl,hx1,T.o_Kept.cl,T.n_Kept _ (by simp),rfl,?_⟩
 walk_at "s"
 rintro xb db nb ndb nxb
 refine ⟨xb,db,⟨#[c]⟩,top,rfl,aj,Qa hc,ht,fun H2 C2 hB=>⟨rfl,?_⟩⟩
 have S2:=made nb ndb C2
 walk_at "s"
 obtain ⟨_,_,dB,ac,am,al,aw,hBx,_⟩:=id hB
 refine ⟨xb,dB,_,rfl,hBx,bdM (by trivial),?_⟩
 walk_at "s"
 refine ⟨xb,⟨#[c]⟩,top,rfl,hB,fun al R H3 nal S3 hE hal=>?_⟩
 walk_at "s"
 rw [Ur ht.1 hE] at hal
 refine fX rfl fun ah H4 nah S4 hah=>?_
 walk_at "s"
 rintro y dy ny ndy nyd
 have S24:=S2.trans (S3.trans S4)
 have so:Same H4 (upd (upd H4 dy (.own y)) y (.ins (aM mg "Node") dy [])):=fun b o e=>(WT ny ndy e).1
 refine ⟨y,dy,al,ah,k,top,.lf c,[],rfl,aj,so _ _ (S4 _ _ hal),so _ _ hah,⟨rfl,fun i v e=>by cases e⟩,fun H5 C5 hN=>⟨rfl,?_⟩⟩
 have S5:=made ny ndy C5
 exact q y H5 (Chg.same C1 (S24.trans S5)) (K1.same (S24.trans S5)) hN
theorem WW {u l:List Nat} {top:Str}:∀ i j,i < u.length->j < top.cps.size->eT u top i j=eT (u ++ l) top i j:=fun i j hi _=>by
 unfold eT
 rw [Xl,Xl (l:=u ++ l),X8 hi]
theorem Us {u l:List Nat} {top:Str}:∀ i j,i < l.length->j < top.cps.size->eT l top i j=eT (u ++ l) top (u.length+i) j:=fun i j hi _=>by
 unfold eT
 rw [Xl,Xl (l:=u ++ l),X5 (by omega),Zn]
def Ls (mg:Str->Option Value):Sp:=fun vs H Q _=>∃ (x dx:Addr) (side top:Str) (b:Int) (rest:List (Str×V)) (u l:Addr) (tu tl:Tr),vs=[.ref x,.ref u,.ref l]/\Hn rest/\Km mg x dx side top b rest H/\Row top/\Nd mg top tu H u/\Nd mg top tl H l/\tu.many+tl.many<=48/\
 ∀ y H',Chg x H H'->Km mg x dx side top b rest H'->Nd mg top (.nd tu tl) H' y->Q (.ref y) H'
theorem o6:aD ["self","upper","lower","lines"] ["self","upper","lower"] (az lW):=⟨rfl,rfl,rfl,by trivial,rfl,by trivial,by trivial⟩
theorem aF (T:Txt K mg):HasM P w K mg base 9 "Kept" "joined" ["self","upper","lower"] (Ls mg):=by
 have ni:=ni (P:=P) (w:=w) (base:=base) T
 have dY:=dY (P:=P) (w:=w) (base:=base) T
 have cj:=cj (P:=P) (w:=w) (base:=base) T
 refine jN T.m_Kept_joined o6 (fun _ _ _ _ _ _ us hl=>L2.pZ (fun _ _ _=>rfl) us hl) ?_ fun f cdv A outer s H vs Q E hr h=>?_
 ·rintro vs H Q E ⟨x,dx,side,top,b,rest,u,l,tu,tl,rfl,_⟩;rfl
 obtain ⟨x,dx,side,top,b,rest,u,l,tu,tl,rfl,hr',hK,ht,hu1,hl1,hm,q⟩:=h
 have hu:=hr.units0
 have hu64:=hr.units
 refine ⟨_,(aq (aH (i:=3) o6.nd rfl cG (aO ni (hr.mono (by decide)) bc (aa (aW (K:=K) rfl (ak 1)) (aa (aW (K:=K) rfl (ak 2)) (aa (aL (aK (K:=K) rfl) bc T.b_len bj (aa (aW (K:=K) rfl (ak 0)) ao) (by trivial) (by trivial)) ao))) (by trivial)) rfl) (aA (aJ (su T.o_Node dY (hr.mono (by decide)) bc aG (aa (oH (ak 0) T.o_Kept cj (hr.mono (by decide)) aG) (aa (ak 3) (aa (uB (aa (ak 1) (aa (ak 2) ao))) ao))) (by trivial))))),?_⟩
 walk_at "s"
 have lt:=ht.1
 have lt':top.length=top.cps.size:=rfl
 have ly:top.length<=sizeLine:=Xv ht.1 (by decide)
 have nf:∀ {z:Int},(cO side top z b rest).lookup (Str.ofString "fresh_mark")=none:=aY hr' (by trivial)
 obtain ⟨k0,hx⟩:=id hK
 obtain ⟨us,⟨du,ku,au,aut,h1,h2,h3⟩,_⟩:=hu1.of
 obtain ⟨ls,⟨dl,kl,al,alt,g1,g2,g3⟩,_⟩:=hl1.of
 rw [Be (WW (l:=tl.codes) (top:=top) |> fun h i j hi hj=>h i j (by rw [bD];exact hi) hj)] at h2
 rw [Be (Us (u:=tu.codes) (top:=top) |> fun h i j hi hj=>h i j (by rw [bD];exact hi) hj)] at g2
 rw [bD] at g2
 refine ⟨u,_,du,_,_,rfl,h1,T.o_Node.cl,T.n_Node _ (by simp),rfl,?_⟩
 walk_at "s"
 refine ⟨l,_,dl,_,_,rfl,g1,T.o_Node.cl,T.n_Node _ (by simp),rfl,?_⟩
 walk_at "s"
 refine ⟨x,_,dx,_,_,rfl,hx,T.o_Kept.cl,T.n_Kept _ (by simp),rfl,?_⟩
 walk_at "s"
 refine cI ly ?_
 walk_at "s"
 refine ⟨au,al,tu.many,tl.many,top.cps.size,eT (tu.codes ++ tl.codes) top,rfl,by omega,h2,g2,fun a H1 na S1 ha=>?_⟩
 walk_at "s"
 refine ⟨x,dx,_,rfl,S1 _ _ hx,nf,?_⟩
 walk_at "s"
 refine ⟨x,dx,side,top,b,rest,rfl,hr',hK.same S1,fun k H2 C2 K2=>?_⟩
 walk_at "s"
 refine fX rfl fun ah H3 nah S3 hah=>?_
 walk_at "s"
 rintro y dy ny ndy nyd
 have so:Same H3 (upd (upd H3 dy (.own y)) y (.ins (aM mg "Node") dy [])):=fun b o e=>(WT ny ndy e).1
 have k3:Kn H H3:=(Kn.same S1).trans (((hK.same S1).kn C2).trans (Kn.same S3))
 have ha3:=(((hK.same S1).kn C2).trans (Kn.same S3)) _ _ (.inr (.inl ⟨_,rfl⟩)) ha
 refine ⟨y,dy,a,ah,k,top,.nd tu tl,[.ref u,.ref l],rfl,aj,so _ _ ha3,so _ _ hah,⟨rfl,fun i v e=>?_⟩,fun H5 C5 hN=>⟨rfl,?_⟩⟩
 ·match i,e with
  | 0,e=>cases e;exact ⟨u,tu,rfl,rfl,hu1.kn (k3.trans (Kn.same so))⟩
  | 1,e=>cases e;exact ⟨l,tl,rfl,rfl,hl1.kn (k3.trans (Kn.same so))⟩
  | i+2,e=>cases e
 have S5:=made ny ndy C5
 exact q y H5 (Chg.same ((Chg.same (Chg.refl x _) S1).trans C2) (S3.trans S5)) (K2.same (S3.trans S5)) hN
def WX (mg:Str->Option Value):Sp:=fun vs H Q _=>∃ (x dx:Addr) (side top:Str) (b:Int) (rest:List (Str×V)) (ah p n l:Addr) (tp tn tl:Tr),vs=[.ref x,.ref ah,.ref l]/\Hn rest/\Km mg x dx side top b rest H/\Row top/\H ah=some (.tup [.ref p,.ref n])/\Nd mg top tp H p/\Nd mg top tn H n/\Nd mg top tl H l/\tp.many+tn.many+tl.many<=48/\
 ∀ y H',Chg x H H'->Km mg x dx side top b rest H'->Nd mg top (QS tp tn tl) H' y->Q (.ref y) H'
theorem jJ:aD ["self","halves","lower","near"] ["self","halves","lower"] (az iI):=⟨rfl,rfl,rfl,by trivial,rfl,by trivial,by trivial⟩
theorem iQ (T:Txt K mg):HasM P w K mg base 10 "Kept" "evened_down" ["self","halves","lower"] (WX mg):=by
 have aF:=aF (P:=P) (w:=w) (base:=base) T
 refine jN T.m_Kept_evened_down jJ (fun _ _ _ _ _ _ us hl=>L2.pZ (fun _ _ _=>rfl) us hl) ?_ fun f cdv A outer s H vs Q E hr h=>?_
 ·rintro vs H Q E ⟨x,dx,side,top,b,rest,ah,p,n,l,tp,tn,tl,rfl,_⟩;rfl
 obtain ⟨x,dx,side,top,b,rest,ah,p,n,l,tp,tn,tl,rfl,hr',hK,ht,hah,hp,hn,hl,hm,q⟩:=h
 have hu:=hr.units0
 have hu64:=hr.units
 refine ⟨_,(aq (aH (i:=3) jJ.nd rfl cG (bx (K:=K) rfl (ak 1) aB) rfl) (aq (bZ (bB xq (aW (K:=K) rfl (bx (K:=K) rfl (ak 1) aB)) (aW (K:=K) rfl (ak 3)) (by walk_at "p")) (aA (aJ (aQ (ak 0) T.o_Kept aF (hr.mono (by decide)) aG (aa (bx (K:=K) rfl (ak 1) aB) (aa (aQ (ak 0) T.o_Kept aF (hr.mono (by decide)) aG (aa (ak 3) (aa (ak 2) ao))) ao))))) bJ) (aA (aJ (aQ (ak 0) T.o_Kept aF (hr.mono (by decide)) aG (aa (aQ (ak 0) T.o_Kept aF (hr.mono (by decide)) aG (aa (bx (K:=K) rfl (ak 1) aB) (aa (bx (K:=K) rfl (aW (K:=K) rfl (ak 3)) aB) ao))) (aa (aQ (ak 0) T.o_Kept aF (hr.mono (by decide)) aG (aa (bx (K:=K) rfl (aW (K:=K) rfl (ak 3)) aB) (aa (ak 2) ao))) ao))))))),?_⟩
 walk_at "s"
 have nj:∀ {z:Int},(cO side top z b rest).lookup (Str.ofString "joined")=none:=aY hr' (by trivial)
 obtain ⟨k0,hx⟩:=id hK
 obtain ⟨ps,⟨dp,kp,ap,apt,p1,p2,p3⟩,_⟩:=hp.of
 obtain ⟨ns,⟨dn,kn,an,ant,n1,n2,n3⟩,hKn⟩:=hn.of
 have clN:=T.o_Node.cl
 have naN:=T.n_Node
 refine ⟨p,_,dp,_,_,rfl,p1,clN,naN _ (by simp),rfl,?_⟩
 walk_at "s"
 refine ⟨n,_,dn,_,_,rfl,n1,clN,naN _ (by simp),rfl,?_⟩
 walk_at "s"
 by_cases hc:tn.tall<=tp.tall
 ·rw [Xq (show (tn.tall:Int)<=(tp.tall:Int) by omega)]
  walk_at "s"
  have e1:QS tp tn tl= .nd tp (.nd tn tl):=if_pos hc
  rw [e1] at q
  refine ⟨x,dx,_,rfl,hx,nj,?_⟩
  walk_at "s"
  refine ⟨x,dx,_,rfl,hx,nj,?_⟩
  walk_at "s"
  refine ⟨x,dx,side,top,b,rest,n,l,tn,tl,rfl,hr',hK,ht,hn,hl,by omega,fun y H1 C1 K1 hy=>?_⟩
  walk_at "s"
  refine ⟨x,dx,side,top,b,rest,p,y,tp,.nd tn tl,rfl,hr',K1,ht,hp.kn (hK.kn C1),hy,by rw [Tr.many];omega,fun z H2 C2 K2 hz=>?_⟩
  walk_at "s"
  exact q z H2 (C1.trans C2) K2 hz
 ·rw [XF (show ¬ (tn.tall:Int)<=(tp.tall:Int) by omega)]
  walk_at "s"
  match tn,hc,hn,hKn,hm,q with
  | .lf c,hc,_,_,_,_=>exact absurd (YK _) hc
  | .nd tn1 tn2,hc,hn,_,hm,q=>
   have e1:QS tp (.nd tn1 tn2) tl= .nd (.nd tp tn1) (.nd tn2 tl):=if_neg hc
   rw [e1] at q
   rw [Tr.many] at hm
   obtain ⟨m1,m2,⟨dn,kn,an,ant,n1,n2,n3⟩,hm1,hm2⟩:=hn
   refine ⟨x,dx,_,rfl,hx,nj,?_⟩
   walk_at "s"
   refine ⟨x,dx,_,rfl,hx,nj,?_⟩
   walk_at "s"
   refine ⟨n,_,dn,_,_,rfl,n1,clN,naN _ (by simp),rfl,?_⟩
   walk_at "s"
   refine ⟨x,dx,side,top,b,rest,p,m1,tp,tn1,rfl,hr',hK,ht,hp,hm1,by omega,fun y H1 C1 K1 hy=>?_⟩
   walk_at "s"
   have k1:=hK.kn C1
   obtain ⟨k0',hx1⟩:=id K1
   have n1':=k1 _ _ (.inl ⟨_,_,_,_,_,_,_,rfl⟩) n1
   have n3':=k1 _ _ (.inr (.inr ⟨_,rfl⟩)) n3
   refine ⟨x,dx,_,rfl,hx1,nj,?_⟩
   walk_at "s"
   refine ⟨n,_,dn,_,_,rfl,n1',clN,naN _ (by simp),rfl,?_⟩
   walk_at "s"
   refine ⟨x,dx,side,top,b,rest,m2,l,tn2,tl,rfl,hr',K1,ht,hm2.kn k1,hl.kn k1,by omega,fun z H2 C2 K2 hz=>?_⟩
   walk_at "s"
   refine ⟨x,dx,side,top,b,rest,y,z,.nd tp tn1,.nd tn2 tl,rfl,hr',K2,ht,hy.kn (K1.kn C2),hz,by rw [Tr.many,Tr.many];omega,fun w' H3 C3 K3 hw=>?_⟩
   walk_at "s"
   exact q w' H3 ((C1.trans C2).trans C3) K3 hw
def WY (mg:Str->Option Value):Sp:=fun vs H Q _=>∃ (x dx:Addr) (side top:Str) (b:Int) (rest:List (Str×V)) (ah u n p:Addr) (tu tn tp:Tr),vs=[.ref x,.ref u,.ref ah]/\Hn rest/\Km mg x dx side top b rest H/\Row top/\H ah=some (.tup [.ref n,.ref p])/\Nd mg top tu H u/\Nd mg top tn H n/\Nd mg top tp H p/\tu.many+tn.many+tp.many<=48/\
 ∀ y H',Chg x H H'->Km mg x dx side top b rest H'->Nd mg top (QT tu tn tp) H' y->Q (.ref y) H'
theorem lO:aD ["self","upper","halves","near"] ["self","upper","halves"] (az jo):=⟨rfl,rfl,rfl,by trivial,rfl,by trivial,by trivial⟩
theorem jx (T:Txt K mg):HasM P w K mg base 10 "Kept" "evened_up" ["self","upper","halves"] (WY mg):=by
 have aF:=aF (P:=P) (w:=w) (base:=base) T
 refine jN T.m_Kept_evened_up lO (fun _ _ _ _ _ _ us hl=>L2.pZ (fun _ _ _=>rfl) us hl) ?_ fun f cdv A outer s H vs Q E hr h=>?_
 ·rintro vs H Q E ⟨x,dx,side,top,b,rest,ah,u,n,p,tu,tn,tp,rfl,_⟩;rfl
 obtain ⟨x,dx,side,top,b,rest,ah,u,n,p,tu,tn,tp,rfl,hr',hK,ht,hah,hu1,hn,hp,hm,q⟩:=h
 have hu:=hr.units0
 have hu64:=hr.units
 refine ⟨_,(aq (aH (i:=3) lO.nd rfl cG (bx (K:=K) rfl (ak 2) aB) rfl) (aq (bZ (bB xq (aW (K:=K) rfl (bx (K:=K) rfl (ak 2) aB)) (aW (K:=K) rfl (ak 3)) (by walk_at "p")) (aA (aJ (aQ (ak 0) T.o_Kept aF (hr.mono (by decide)) aG (aa (aQ (ak 0) T.o_Kept aF (hr.mono (by decide)) aG (aa (ak 1) (aa (ak 3) ao))) (aa (bx (K:=K) rfl (ak 2) aB) ao))))) bJ) (aA (aJ (aQ (ak 0) T.o_Kept aF (hr.mono (by decide)) aG (aa (aQ (ak 0) T.o_Kept aF (hr.mono (by decide)) aG (aa (ak 1) (aa (bx (K:=K) rfl (aW (K:=K) rfl (ak 3)) aB) ao))) (aa (aQ (ak 0) T.o_Kept aF (hr.mono (by decide)) aG (aa (bx (K:=K) rfl (aW (K:=K) rfl (ak 3)) aB) (aa (bx (K:=K) rfl (ak 2) aB) ao))) ao))))))),?_⟩
 walk_at "s"
 have nj:∀ {z:Int},(cO side top z b rest).lookup (Str.ofString "joined")=none:=aY hr' (by trivial)
 obtain ⟨k0,hx⟩:=id hK
 obtain ⟨ps,⟨dp,kp,ap,apt,p1,p2,p3⟩,_⟩:=hp.of
 obtain ⟨ns,⟨dn,kn,an,ant,n1,n2,n3⟩,hKn⟩:=hn.of
 have clN:=T.o_Node.cl
 have naN:=T.n_Node
 refine ⟨p,_,dp,_,_,rfl,p1,clN,naN _ (by simp),rfl,?_⟩
 walk_at "s"
 refine ⟨n,_,dn,_,_,rfl,n1,clN,naN _ (by simp),rfl,?_⟩
 walk_at "s"
 by_cases hc:tn.tall<=tp.tall
 ·rw [Xq (show (tn.tall:Int)<=(tp.tall:Int) by omega)]
  walk_at "s"
  have e1:QT tu tn tp= .nd (.nd tu tn) tp:=if_pos hc
  rw [e1] at q
  refine ⟨x,dx,_,rfl,hx,nj,?_⟩
  walk_at "s"
  refine ⟨x,dx,_,rfl,hx,nj,?_⟩
  walk_at "s"
  refine ⟨x,dx,side,top,b,rest,u,n,tu,tn,rfl,hr',hK,ht,hu1,hn,by omega,fun y H1 C1 K1 hy=>?_⟩
  walk_at "s"
  have hah1:=hK.kn C1 _ _ (.inr (.inr ⟨_,rfl⟩)) hah
  walk_at "s"
  refine ⟨x,dx,side,top,b,rest,y,p,.nd tu tn,tp,rfl,hr',K1,ht,hy,hp.kn (hK.kn C1),by rw [Tr.many];omega,fun z H2 C2 K2 hz=>?_⟩
  walk_at "s"
  exact q z H2 (C1.trans C2) K2 hz
 ·rw [XF (show ¬ (tn.tall:Int)<=(tp.tall:Int) by omega)]
  walk_at "s"
  match tn,hc,hn,hKn,hm,q with
  | .lf c,hc,_,_,_,_=>exact absurd (YK _) hc
  | .nd tn1 tn2,hc,hn,_,hm,q=>
   have e1:QT tu (.nd tn1 tn2) tp= .nd (.nd tu tn1) (.nd tn2 tp):=if_neg hc
   rw [e1] at q
   rw [Tr.many] at hm
   obtain ⟨m1,m2,⟨dn,kn,an,ant,n1,n2,n3⟩,hm1,hm2⟩:=hn
   refine ⟨x,dx,_,rfl,hx,nj,?_⟩
   walk_at "s"
   refine ⟨x,dx,_,rfl,hx,nj,?_⟩
   walk_at "s"
   refine ⟨n,_,dn,_,_,rfl,n1,clN,naN _ (by simp),rfl,?_⟩
   walk_at "s"
   refine ⟨x,dx,side,top,b,rest,u,m1,tu,tn1,rfl,hr',hK,ht,hu1,hm1,by omega,fun y H1 C1 K1 hy=>?_⟩
   walk_at "s"
   have k1:=hK.kn C1
   obtain ⟨k0',hx1⟩:=id K1
   have n1':=k1 _ _ (.inl ⟨_,_,_,_,_,_,_,rfl⟩) n1
   have n3':=k1 _ _ (.inr (.inr ⟨_,rfl⟩)) n3
   have hah1:=k1 _ _ (.inr (.inr ⟨_,rfl⟩)) hah
   refine ⟨x,dx,_,rfl,hx1,nj,?_⟩
   walk_at "s"
   refine ⟨n,_,dn,_,_,rfl,n1',clN,naN _ (by simp),rfl,?_⟩
   walk_at "s"
   refine ⟨x,dx,side,top,b,rest,m2,p,tn2,tp,rfl,hr',K1,ht,hm2.kn k1,hp.kn k1,by omega,fun z H2 C2 K2 hz=>?_⟩
   walk_at "s"
   refine ⟨x,dx,side,top,b,rest,y,z,.nd tu tn1,.nd tn2 tp,rfl,hr',K2,ht,hy.kn (K1.kn C2),hz,by rw [Tr.many,Tr.many];omega,fun w' H3 C3 K3 hw=>?_⟩
   walk_at "s"
   exact q w' H3 ((C1.trans C2).trans C3) K3 hw
def spEv (mg:Str->Option Value):Sp:=fun vs H Q _=>∃ (x dx:Addr) (side top:Str) (b:Int) (rest:List (Str×V)) (u l:Addr) (tu tl:Tr),vs=[.ref x,.ref u,.ref l]/\Hn rest/\Km mg x dx side top b rest H/\Row top/\Nd mg top tu H u/\Nd mg top tl H l/\tu.many+tl.many<=48/\
 ∀ y H',Chg x H H'->Km mg x dx side top b rest H'->Nd mg top (ev tu tl) H' y->Q (.ref y) H'
theorem wO:aD ["self","upper","lower"] ["self","upper","lower"] (az lX):=⟨rfl,rfl,rfl,by trivial,rfl,by trivial,by trivial⟩
theorem cQ (T:Txt K mg):HasM P w K mg base 11 "Kept" "evened" ["self","upper","lower"] (spEv mg):=by
 have iQ:=iQ (P:=P) (w:=w) (base:=base) T
 have jx:=jx (P:=P) (w:=w) (base:=base) T
 have aF:=aF (P:=P) (w:=w) (base:=base) T
 refine jN T.m_Kept_evened wO (fun _ _ _ _ _ _ us hl=>L2.pZ (fun _ _ _=>rfl) us hl) ?_ fun f cdv A outer s H vs Q E hr h=>?_
 ·rintro vs H Q E ⟨x,dx,side,top,b,rest,u,l,tu,tl,rfl,_⟩;rfl
 obtain ⟨x,dx,side,top,b,rest,u,l,tu,tl,rfl,hr',hK,ht,hu1,hl,hm,q⟩:=h
 have hu:=hr.units0
 have hu64:=hr.units
 refine ⟨_,(aq (bZ (bB vo (aW (K:=K) rfl (ak 1)) (bf aN (aW (K:=K) rfl (ak 2)) aB) (by walk_at "p")) (aA (aJ (aQ (ak 0) T.o_Kept iQ (hr.mono (by decide)) aG (aa (aW (K:=K) rfl (ak 1)) (aa (ak 2) ao))))) bJ) (aq (bZ (bB vo (aW (K:=K) rfl (ak 2)) (bf aN (aW (K:=K) rfl (ak 1)) aB) (by walk_at "p")) (aA (aJ (aQ (ak 0) T.o_Kept jx (hr.mono (by decide)) aG (aa (ak 1) (aa (aW (K:=K) rfl (ak 2)) ao))))) bJ) (aA (aJ (aQ (ak 0) T.o_Kept aF (hr.mono (by decide)) aG (aa (ak 1) (aa (ak 2) ao))))))),?_⟩
 walk_at "s"
 have nj:∀ {z:Int},(cO side top z b rest).lookup (Str.ofString "joined")=none:=aY hr' (by trivial)
 have nD:∀ {z:Int},(cO side top z b rest).lookup (Str.ofString "evened_down")=none:=aY hr' (by trivial)
 have nU:∀ {z:Int},(cO side top z b rest).lookup (Str.ofString "evened_up")=none:=aY hr' (by trivial)
 obtain ⟨k0,hx⟩:=id hK
 obtain ⟨us,⟨du,ku,au,aut,u1,u2,u3⟩,_⟩:=hu1.of
 obtain ⟨ls,⟨dl,kl,al,alt,l1,l2,l3⟩,_⟩:=hl.of
 have clN:=T.o_Node.cl
 have naN:=T.n_Node
 refine ⟨u,_,du,_,_,rfl,u1,clN,naN _ (by simp),rfl,?_⟩
 walk_at "s"
 refine ⟨l,_,dl,_,_,rfl,l1,clN,naN _ (by simp),rfl,?_⟩
 walk_at "s"
 by_cases hc:tl.tall+1 < tu.tall
 ·rw [Xq (show (tl.tall:Int)+1 < (tu.tall:Int) by omega)]
  walk_at "s"
  match tu,hc,hu1,hm,q with
  | .lf c,hc,_,_,_=>exact absurd hc (Zo _)
  | .nd ta tb,hc,hu1,hm,q=>
   have e1:ev (.nd ta tb) tl=QS ta tb tl:=if_pos hc
   rw [e1] at q
   rw [Tr.many] at hm
   obtain ⟨m1,m2,⟨du,ku,au,aut,u1,u2,u3⟩,hm1,hm2⟩:=hu1
   refine ⟨x,dx,_,rfl,hx,nD,?_⟩
   walk_at "s"
   refine ⟨u,_,du,_,_,rfl,u1,clN,naN _ (by simp),rfl,?_⟩
   walk_at "s"
   exact ⟨x,dx,side,top,b,rest,aut,m1,m2,l,ta,tb,tl,rfl,hr',hK,ht,u3,hm1,hm2,hl,by omega,q⟩
 ·rw [XF (show ¬ (tl.tall:Int)+1 < (tu.tall:Int) by omega)]
  walk_at "s"
  refine ⟨l,_,dl,_,_,rfl,l1,clN,naN _ (by simp),rfl,?_⟩
  walk_at "s"
  refine ⟨u,_,du,_,_,rfl,u1,clN,naN _ (by simp),rfl,?_⟩
  walk_at "s"
  by_cases hd:tu.tall+1 < tl.tall
  ·rw [Xq (show (tu.tall:Int)+1 < (tl.tall:Int) by omega)]
   walk_at "s"
   match tl,hc,hd,hl,hm,q with
   | .lf c,_,hd,_,_,_=>exact absurd hd (Zo _)
   | .nd ta tb,hc,hd,hl,hm,q=>
    have e1:ev tu (.nd ta tb)=QT tu ta tb:=(if_neg hc).trans (if_pos hd)
    rw [e1] at q
    rw [Tr.many] at hm
    obtain ⟨m1,m2,⟨dl,kl,al,alt,l1,l2,l3⟩,hm1,hm2⟩:=hl
    refine ⟨x,dx,_,rfl,hx,nU,?_⟩
    walk_at "s"
    refine ⟨l,_,dl,_,_,rfl,l1,clN,naN _ (by simp),rfl,?_⟩
    walk_at "s"
    exact ⟨x,dx,side,top,b,rest,alt,u,m1,m2,tu,ta,tb,rfl,hr',hK,ht,l3,hu1,hm1,hm2,by omega,q⟩
  ·rw [XF (show ¬ (tu.tall:Int)+1 < (tl.tall:Int) by omega)]
   walk_at "s"
   have e1:ev tu tl= .nd tu tl:=(if_neg hc).trans (if_neg hd)
   rw [e1] at q
   refine ⟨x,dx,_,rfl,hx,nj,?_⟩
   walk_at "s"
   exact ⟨x,dx,side,top,b,rest,u,l,tu,tl,rfl,hr',hK,ht,hu1,hl,hm,q⟩
theorem Ff {z y:Str} (h:Row z) (hl:y.cps.size<=z.cps.size) (hm:∀ c∈y.cps.toList,c∈z.cps.toList):Row y:=⟨Xv hl h.1,fun c hc=>h.2 c (hm c hc)⟩
theorem Qf {z:Str} (h:z.cps.size=1):∃ c,z=⟨#[c]⟩/\z.cps.toList=[c]:=by
 obtain ⟨⟨l⟩⟩:=z
 match l,h with
 | [c],_=>exact ⟨c,rfl,rfl⟩
def sU (mg:Str->Option Value) (d:Nat):Sp:=fun vs H Q _=>∃ (x dx:Addr) (side top:Str) (b:Int) (rest:List (Str×V)) (z:Str),vs=[.ref x,.str z]/\Hn rest/\Km mg x dx side top b rest H/\Row top/\Row z/\z.cps.size<=2 ^ d/\(z.cps.size=0->Q .non H)/\
 ∀ y H',0 < z.cps.size->Chg x H H'->Km mg x dx side top b rest H'->Nd mg top (bt d z.cps.toList) H' y->Q (.ref y) H'
def Lw (mg:Str->Option Value):Nat->Sp
 | 0=>fun _ _ _ _=>False
 | d+1=>sU mg d
theorem my:aD ["self","side","cut"] ["self","side"] (az m5):=⟨rfl,rfl,rfl,by trivial,rfl,by trivial,by trivial⟩
theorem xf (T:Txt K mg):HasM P w K mg base 1 "Kept" "built" ["self","side"] (fun _ _ _ _=>False):=jN (k:=0) T.m_Kept_built my (fun _ _ _ _ _ _ us hl=>L2.nP (fun _ _=>rfl) us hl) (fun _ _ _ _ h=>h.elim) (fun _ _ _ _ _ _ _ _ _ _ h=>h.elim)
theorem qe (T:Txt K mg) (d:Nat) (cJ:HasM P w K mg base (9+d) "Kept" "built" ["self","side"] (Lw mg d)):HasM P w K mg base (9+d+1) "Kept" "built" ["self","side"] (sU mg d):=by
 have aU:=aU (P:=P) (w:=w) (base:=base) T
 have aF:=aF (P:=P) (w:=w) (base:=base) T
 refine jN T.m_Kept_built my (fun _ _ _ _ _ _ us hl=>L2.nP (fun _ _=>rfl) us hl) ?_ fun f cdv A outer s H vs Q E hr h=>?_
 ·rintro vs H Q E ⟨x,dx,side,top,b,rest,z,rfl,_⟩;rfl
 obtain ⟨x,dx,side,top,b,rest,z,rfl,hr',hK,ht,hz,hd,q0,q⟩:=h
 have hu:=hr.units0
 have hu64:=hr.units
 refine ⟨_,(aq (bZ (bB (jl (K:=K) rfl hu64) (ak 1) xP (by walk_at "p")) (aA (aJ vP)) bJ) (aq (bZ (bB (jl (K:=K) rfl hu64) (aL (aK (K:=K) rfl) bc T.b_len bj (aa (ak 1) ao) (by trivial) (by trivial)) aB (by walk_at "p")) (aA (aJ (aQ (ak 0) T.o_Kept aU (hr.mono (by omega)) aG (aa (ak 1) ao)))) bJ) (aq (aH (i:=2) my.nd rfl cG (bf Mx (aL (aK (K:=K) rfl) bc T.b_len bj (aa (ak 1) ao) (by trivial) (by trivial)) aB) rfl) (aA (aJ (aQ (ak 0) T.o_Kept aF (hr.mono (by omega)) aG (aa (aQ (ak 0) T.o_Kept cJ (hr.mono (by omega)) aG (aa (fO (fP (K:=K) rfl) (ak 1) gb (fB (ak 2))) ao)) (aa (aQ (ak 0) T.o_Kept cJ (hr.mono (by omega)) aG (aa (fO (fP (K:=K) rfl) (ak 1) (fB (ak 2)) gb) ao)) ao)))))))),?_⟩
 walk_at "s"
 have nj:∀ {z:Int},(cO side top z b rest).lookup (Str.ofString "joined")=none:=aY hr' (by trivial)
 have nb:∀ {z:Int},(cO side top z b rest).lookup (Str.ofString "built")=none:=aY hr' (by trivial)
 have ns:∀ {z:Int},(cO side top z b rest).lookup (Str.ofString "strip_node")=none:=aY hr' (by trivial)
 have lz:z.length<=sizeLine:=Xv hz.1 (by decide)
 have lz':z.length=z.cps.size:=rfl
 have z48:=hz.1
 obtain ⟨k0,hx⟩:=id hK
 by_cases h0:z.cps.size=0
 ·obtain rfl:z=Str.ofString "":=by
   obtain ⟨⟨l⟩⟩:=z
   obtain rfl:l=[]:=Y6.mp h0
   rfl
  rw [Xq (rfl:V.str (Str.ofString "")=V.str (Str.ofString ""))]
  walk_at "s"
  exact q0 h0
 rw [XF (show ¬ V.str z=V.str (Str.ofString "") from fun e=>h0 (by rw [V.str.inj e];rfl))]
 walk_at "s"
 refine cI lz ?_
 walk_at "s"
 by_cases h1:z.cps.size=1
 ·rw [Xq (show V.int (z.length:Int)=V.int 1 by rw [lz',h1];rfl)]
  walk_at "s"
  obtain ⟨c,rfl,ec⟩:=Qf h1
  refine ⟨x,dx,_,rfl,hx,ns,?_⟩
  walk_at "s"
  refine ⟨x,dx,side,top,b,rest,c,rfl,hr',hK,hz.2 c (by rw [ec];exact Yn.mpr rfl),ht,fun y H1 C1 K1 hN=>q y H1 (by omega) C1 K1 ?_⟩
  rw [ec]
  cases d with
  | zero=>exact hN
  | succ d=>exact hN
 ·rw [XF (show ¬ V.int (z.length:Int)=V.int 1 from fun e=>by have:=V.int.inj e;omega)]
  obtain ⟨e,rfl⟩:∃ e,d=e+1:=by
   cases d with
   | zero=>rw [Nat.pow_zero] at hd;omega
   | succ e=>exact ⟨e,rfl⟩
  walk_at "s"
  refine cI lz ?_
  walk_at "s"
  rw [show ((z.length:Nat):Int) / 2=((z.length / 2:Nat):Int) by omega]
  rw [Nat.pow_succ] at hd
  walk_at "s"
  refine ⟨x,dx,_,rfl,hx,nj,?_⟩
  walk_at "s"
  refine ⟨x,dx,_,rfl,hx,nb,?_⟩
  walk_at "s"
  refine ig lz ?_
  walk_at "s"
  have t1:=vZ z (z.length / 2)
  have t2:=v4 z (z.length / 2)
  have s1:(Txt.slice z none (some ((z.length / 2:Nat):Int))).cps.size=z.length / 2:=by rw [← Xx,t1,Yi,Xx];omega
  have s2:(Txt.slice z (some ((z.length / 2:Nat):Int)) none).cps.size=z.length - z.length / 2:=by rw [← Xx,t2,Ye,Xx];rfl
  refine ⟨x,dx,side,top,b,rest,_,rfl,hr',hK,ht,Ff hz (by omega) (fun c hc=>by rw [t1] at hc;exact Zm hc),by omega,fun e=>by omega,fun y H1 _ C1 K1 hy=>?_⟩
  walk_at "s"
  obtain ⟨k0',hx1⟩:=id K1
  refine ⟨x,dx,_,rfl,hx1,nb,?_⟩
  walk_at "s"
  refine ig lz ?_
  walk_at "s"
  refine ⟨x,dx,side,top,b,rest,_,rfl,hr',K1,ht,Ff hz (by omega) (fun c hc=>by rw [t2] at hc;exact Z7 hc),by omega,fun e=>by omega,fun y2 H2 _ C2 K2 hy2=>?_⟩
  walk_at "s"
  have bl:∀ {y:Str},0 < y.cps.size->y.cps.size<=2 ^ e->(bt e y.cps.toList).many=y.cps.size:=fun {y} h0 h=>by
   rw [← bD,sS e _ (fun z0=>by have:=congrArg List.length z0;rw [Xx,Zb] at this;omega) (by rw [Xx];exact h),Xx]
  have c1:=bl (y:=Txt.slice z none (some ((z.length / 2:Nat):Int))) (by omega) (by omega)
  have c2:=bl (y:=Txt.slice z (some ((z.length / 2:Nat):Int)) none) (by omega) (by omega)
  refine ⟨x,dx,side,top,b,rest,y,y2,_,_,rfl,hr',K2,ht,hy.kn (K1.kn C2),hy2,by omega,fun w' H3 C3 K3 hw=>q w' H3 (by omega) ((C1.trans C2).trans C3) K3 ?_⟩
  rw [t1,t2] at hw
  have eb:bt (e+1) z.cps.toList= .nd (bt e (z.cps.toList.take (z.length / 2))) (bt e (z.cps.toList.drop (z.length / 2))):=by
   show (if z.cps.toList.length<=1 then _ else _)=_
   rw [if_neg (by rw [Xx];omega),Xx]
   rfl
  rw [eb]
  exact hw
theorem Lx (T:Txt K mg):∀ d:Nat,HasM P w K mg base (10+d) "Kept" "built" ["self","side"] (sU mg d):=fun d=>by
 have key:∀ d:Nat,HasM P w K mg base (10 - 1+d+1) "Kept" "built" ["self","side"] (sU mg d):=fun d=>by
  induction d with
  | zero=>exact qe T 0 ((xf T).mono (by decide))
  | succ d ih=>exact qe T (d+1) (ih.mono (by omega))
 exact (key d).mono (by omega)
theorem cJ (T:Txt K mg):HasM P w K mg base (10+6) "Kept" "built" ["self","side"] (sU mg 6):=Lx T 6
theorem Fg {c:Nat} {t:Tr} {p:Nat} (h:p<=t.many):(wp c t p).many=t.many+1:=by
 have:=bD t
 rw [← bD,sI c t p h,Yc,Yu,Yi,Ye];omega
theorem Fi {c:Nat} {t:Tr} {p:Nat} (h:p < t.many):(wc c t p).many=t.many:=by
 have:=bD t
 rw [← bD,sO c t p h,Yc,Yu,Yi,Ye];omega
theorem Fj {t r:Tr} {p:Nat} (h:p < t.many) (e:wo t p=some r):r.many+1=t.many:=by
 have:=bD t
 rcases sJ t p h with ⟨e1,_⟩ | ⟨r',e1,e2⟩
 ·rw [e] at e1;cases e1
 ·rw [e] at e1;cases e1
  rw [← bD r,e2,Yc,Yi,Ye];omega
def Ly (mg:Str->Option Value) (d:Nat):Sp:=fun vs H Q _=>∃ (x dx:Addr) (side top:Str) (b:Int) (rest:List (Str×V)) (n:Addr) (t:Tr) (p c:Nat),vs=[.ref x,.ref n,.int (p:Int),.str ⟨#[c]⟩]/\Hn rest/\Km mg x dx side top b rest H/\Row top/\c∈GOOD/\Nd mg top t H n/\t.tall<=d/\p<=t.many/\t.many < 48/\
 ∀ y H',Chg x H H'->Km mg x dx side top b rest H'->Nd mg top (wp c t p) H' y->Q (.ref y) H'
def W0 (mg:Str->Option Value):Nat->Sp
 | 0=>fun _ _ _ _=>False
 | d+1=>Ly mg d
theorem eZ:aD ["self","node","place","sign","fresh","upper","lower"] ["self","node","place","sign"] (az jG):=⟨rfl,rfl,rfl,by trivial,rfl,by trivial,by trivial⟩
theorem uh (T:Txt K mg):HasM P w K mg base 1 "Kept" "with_put" ["self","node","place","sign"] (fun _ _ _ _=>False):=jN (k:=0) T.m_Kept_with_put eZ (fun _ _ _ _ _ _ us hl=>L2.yg (fun _ _ _ _=>rfl) us hl) (fun _ _ _ _ h=>h.elim) (fun _ _ _ _ _ _ _ _ _ _ h=>h.elim)
theorem mL (T:Txt K mg) (d:Nat) (dZ:HasM P w K mg base (11+d) "Kept" "with_put" ["self","node","place","sign"] (W0 mg d)):HasM P w K mg base (11+d+1) "Kept" "with_put" ["self","node","place","sign"] (Ly mg d):=by
 have aU:=aU (P:=P) (w:=w) (base:=base) T
 have aF:=aF (P:=P) (w:=w) (base:=base) T
 have cQ:=cQ (P:=P) (w:=w) (base:=base) T
 refine jN T.m_Kept_with_put eZ (fun _ _ _ _ _ _ us hl=>L2.yg (fun _ _ _ _=>rfl) us hl) ?_ fun f cdv A outer s H vs Q E hr h=>?_
 ·rintro vs H Q E ⟨x,dx,side,top,b,rest,n,t,p,c,rfl,_⟩;rfl
 obtain ⟨x,dx,side,top,b,rest,n,t,p,c,rfl,hr',hK,ht,hc,hn,hd,hp,hm,q⟩:=h
 have hu:=hr.units0
 have hu64:=hr.units
 refine ⟨_,(aq (bZ (iC (yM (K:=K) rfl (aW (K:=K) rfl (ak 1)))) (aq (aH (i:=4) eZ.nd rfl cG (aQ (ak 0) T.o_Kept aU (hr.mono (by omega)) aG (aa (ak 3) ao)) rfl) (aA (aJ (NB (bB (jl (K:=K) rfl hu64) (ak 2) aB (by walk_at "p")) (aQ (ak 0) T.o_Kept aF (hr.mono (by omega)) aG (aa (ak 4) (aa (ak 1) ao))) (aQ (ak 0) T.o_Kept aF (hr.mono (by omega)) aG (aa (ak 1) (aa (ak 4) ao))))))) bJ) (aq (aH (i:=5) eZ.nd rfl cG (bx (K:=K) rfl (aW (K:=K) rfl (ak 1)) aB) rfl) (aq (aH (i:=6) eZ.nd rfl cG (bx (K:=K) rfl (aW (K:=K) rfl (ak 1)) aB) rfl) (aq (bZ (bB Ig (ak 2) (aW (K:=K) rfl (ak 5)) (by walk_at "p")) (aA (aJ (aQ (ak 0) T.o_Kept cQ (hr.mono (by omega)) aG (aa (aQ (ak 0) T.o_Kept dZ (hr.mono (by omega)) aG (aa (ak 5) (aa (ak 2) (aa (ak 3) ao)))) (aa (ak 6) ao))))) bJ) (aA (aJ (aQ (ak 0) T.o_Kept cQ (hr.mono (by omega)) aG (aa (ak 5) (aa (aQ (ak 0) T.o_Kept dZ (hr.mono (by omega)) aG (aa (ak 6) (aa (bf jj (ak 2) (aW (K:=K) rfl (ak 5))) (aa (ak 3) ao)))) ao))))))))),?_⟩
 walk_at "s"
 have nj:∀ {z:Int},(cO side top z b rest).lookup (Str.ofString "joined")=none:=aY hr' (by trivial)
 have nw:∀ {z:Int},(cO side top z b rest).lookup (Str.ofString "with_put")=none:=aY hr' (by trivial)
 have ne:∀ {z:Int},(cO side top z b rest).lookup (Str.ofString "evened")=none:=aY hr' (by trivial)
 have ns:∀ {z:Int},(cO side top z b rest).lookup (Str.ofString "strip_node")=none:=aY hr' (by trivial)
 have clN:=T.o_Node.cl
 have naN:=T.n_Node
 obtain ⟨k0,hx⟩:=id hK
 match t,hn,hd,hp,hm,q with
 | .lf e,hn,hd,hp,hm,q=>
  obtain ⟨dn,kn,an,ant,n1,n2,n3⟩:=id hn
  refine ⟨n,_,dn,_,_,rfl,n1,clN,naN _ (by simp),rfl,?_⟩
  walk_at "s"
  refine oM (b:=false) (SqT.of n3) rfl ?_
  walk_at "s"
  refine ⟨x,dx,_,rfl,hx,ns,?_⟩
  walk_at "s"
  refine ⟨x,dx,side,top,b,rest,c,rfl,hr',hK,hc,ht,fun y H1 C1 K1 hy=>?_⟩
  walk_at "s"
  have hn1:=hn.kn (hK.kn C1)
  obtain ⟨k0',hx1⟩:=id K1
  by_cases h0:p=0
  ·subst h0
   rw [Xq (show V.int ((0:Nat):Int)=V.int 0 from rfl)]
   walk_at "s"
   refine ⟨x,dx,_,rfl,hx1,nj,?_⟩
   walk_at "s"
   exact ⟨x,dx,side,top,b,rest,y,n,.lf c,.lf e,rfl,hr',K1,ht,hy,hn1,(by show 2<=48;decide),fun y2 H2 C2 K2 h2=>q y2 H2 (C1.trans C2) K2 h2⟩
  ·rw [XF (show ¬ V.int (p:Int)=V.int 0 from fun z=>h0 (by have:=V.int.inj z;omega))]
   walk_at "s"
   refine ⟨x,dx,_,rfl,hx1,nj,?_⟩
   walk_at "s"
   have e1:wp c (.lf e) p= .nd (.lf e) (.lf c):=if_neg h0
   rw [e1] at q
   exact ⟨x,dx,side,top,b,rest,n,y,.lf e,.lf c,rfl,hr',K1,ht,hn1,hy,(by show 2<=48;decide),fun y2 H2 C2 K2 h2=>q y2 H2 (C1.trans C2) K2 h2⟩
 | .nd u l,hn,hd,hp,hm,q=>
  rw [Tr.many] at hp hm
  rw [Tr.tall] at hd
  obtain ⟨e,rfl⟩:∃ e,d=e+1:=⟨d - 1,by omega⟩
  obtain ⟨m1,m2,⟨dn,kn,an,ant,n1,n2,n3⟩,hm1,hm2⟩:=id hn
  obtain ⟨us,⟨du,ku,au,aut,u1,u2,u3⟩,_⟩:=hm1.of
  refine ⟨n,_,dn,_,_,rfl,n1,clN,naN _ (by simp),rfl,?_⟩
  walk_at "s"
  refine oM (b:=true) (SqT.of n3) rfl ?_
  walk_at "s"
  refine ⟨n,_,dn,_,_,rfl,n1,clN,naN _ (by simp),rfl,?_⟩
  walk_at "s"
  refine ⟨n,_,dn,_,_,rfl,n1,clN,naN _ (by simp),rfl,?_⟩
  walk_at "s"
  refine ⟨m1,_,du,_,_,rfl,u1,clN,naN _ (by simp),rfl,?_⟩
  walk_at "s"
  by_cases hc2:p<=u.many
  ·rw [Xq (show (p:Int)<=(u.many:Int) by omega)]
   walk_at "s"
   have e1:wp c (.nd u l) p=ev (wp c u p) l:=if_pos hc2
   rw [e1] at q
   refine ⟨x,dx,_,rfl,hx,ne,?_⟩
   walk_at "s"
   refine ⟨x,dx,_,rfl,hx,nw,?_⟩
   walk_at "s"
   refine ⟨x,dx,side,top,b,rest,m1,u,p,c,rfl,hr',hK,ht,hc,hm1,by omega,hc2,by omega,fun y H1 C1 K1 hy=>?_⟩
   walk_at "s"
   refine ⟨x,dx,side,top,b,rest,y,m2,_,l,rfl,hr',K1,ht,hy,hm2.kn (hK.kn C1),by rw [Fg hc2];omega,fun y2 H2 C2 K2 h2=>q y2 H2 (C1.trans C2) K2 h2⟩
  ·rw [XF (show ¬ (p:Int)<=(u.many:Int) by omega)]
   walk_at "s"
   have e1:wp c (.nd u l) p=ev u (wp c l (p - u.many)):=if_neg hc2
   rw [e1] at q
   refine ⟨x,dx,_,rfl,hx,ne,?_⟩
   walk_at "s"
   refine ⟨x,dx,_,rfl,hx,nw,?_⟩
   walk_at "s"
   refine ⟨m1,_,du,_,_,rfl,u1,clN,naN _ (by simp),rfl,?_⟩
   walk_at "s"
   rw [show (p:Int) - (u.many:Int)=((p - u.many:Nat):Int) by omega]
   refine ⟨x,dx,side,top,b,rest,m2,l,p - u.many,c,rfl,hr',hK,ht,hc,hm2,by omega,by omega,by omega,fun y H1 C1 K1 hy=>?_⟩
   walk_at "s"
   refine ⟨x,dx,side,top,b,rest,m1,y,u,_,rfl,hr',K1,ht,hm1.kn (hK.kn C1),hy,by rw [Fg (by omega)];omega,fun y2 H2 C2 K2 h2=>q y2 H2 (C1.trans C2) K2 h2⟩
theorem Ut (T:Txt K mg):∀ d:Nat,HasM P w K mg base (12+d) "Kept" "with_put" ["self","node","place","sign"] (Ly mg d):=fun d=>by
 have key:∀ d:Nat,HasM P w K mg base (12 - 1+d+1) "Kept" "with_put" ["self","node","place","sign"] (Ly mg d):=fun d=>by
  induction d with
  | zero=>exact mL T 0 ((uh T).mono (by decide))
  | succ d ih=>exact mL T (d+1) (ih.mono (by omega))
 exact (key d).mono (by omega)
theorem dZ (T:Txt K mg):HasM P w K mg base (12+48) "Kept" "with_put" ["self","node","place","sign"] (Ly mg 48):=Ut T 48
def Lz (mg:Str->Option Value) (d:Nat):Sp:=fun vs H Q _=>∃ (x dx:Addr) (side top:Str) (b:Int) (rest:List (Str×V)) (n:Addr) (t:Tr) (p c:Nat),vs=[.ref x,.ref n,.int (p:Int),.str ⟨#[c]⟩]/\Hn rest/\Km mg x dx side top b rest H/\Row top/\c∈GOOD/\Nd mg top t H n/\t.tall<=d/\p < t.many/\t.many<=48/\
 ∀ y H',Chg x H H'->Km mg x dx side top b rest H'->Nd mg top (wc c t p) H' y->Q (.ref y) H'
def W2 (mg:Str->Option Value):Nat->Sp
 | 0=>fun _ _ _ _=>False
 | d+1=>Lz mg d
theorem eV:aD ["self","node","place","sign","upper","lower"] ["self","node","place","sign"] (az iJ):=⟨rfl,rfl,rfl,by trivial,rfl,by trivial,by trivial⟩
theorem p7 (T:Txt K mg):HasM P w K mg base 1 "Kept" "with_change" ["self","node","place","sign"] (fun _ _ _ _=>False):=jN (k:=0) T.m_Kept_with_change eV (fun _ _ _ _ _ _ us hl=>L2.yg (fun _ _ _ _=>rfl) us hl) (fun _ _ _ _ h=>h.elim) (fun _ _ _ _ _ _ _ _ _ _ h=>h.elim)
theorem jK (T:Txt K mg) (d:Nat) (bY:HasM P w K mg base (9+d) "Kept" "with_change" ["self","node","place","sign"] (W2 mg d)):HasM P w K mg base (9+d+1) "Kept" "with_change" ["self","node","place","sign"] (Lz mg d):=by
 have aU:=aU (P:=P) (w:=w) (base:=base) T
 have aF:=aF (P:=P) (w:=w) (base:=base) T
 refine jN T.m_Kept_with_change eV (fun _ _ _ _ _ _ us hl=>L2.yg (fun _ _ _ _=>rfl) us hl) ?_ fun f cdv A outer s H vs Q E hr h=>?_
 ·rintro vs H Q E ⟨x,dx,side,top,b,rest,n,t,p,c,rfl,_⟩;rfl
 obtain ⟨x,dx,side,top,b,rest,n,t,p,c,rfl,hr',hK,ht,hc,hn,hd,hp,hm,q⟩:=h
 have hu:=hr.units0
 have hu64:=hr.units
 refine ⟨_,(aq (bZ (iC (yM (K:=K) rfl (aW (K:=K) rfl (ak 1)))) (aA (aJ (aQ (ak 0) T.o_Kept aU (hr.mono (by omega)) aG (aa (ak 3) ao)))) bJ) (aq (aH (i:=4) eV.nd rfl cG (bx (K:=K) rfl (aW (K:=K) rfl (ak 1)) aB) rfl) (aq (aH (i:=5) eV.nd rfl cG (bx (K:=K) rfl (aW (K:=K) rfl (ak 1)) aB) rfl) (aq (bZ (bB rE (ak 2) (aW (K:=K) rfl (ak 4)) (by walk_at "p")) (aA (aJ (aQ (ak 0) T.o_Kept aF (hr.mono (by omega)) aG (aa (aQ (ak 0) T.o_Kept bY (hr.mono (by omega)) aG (aa (ak 4) (aa (ak 2) (aa (ak 3) ao)))) (aa (ak 5) ao))))) bJ) (aA (aJ (aQ (ak 0) T.o_Kept aF (hr.mono (by omega)) aG (aa (ak 4) (aa (aQ (ak 0) T.o_Kept bY (hr.mono (by omega)) aG (aa (ak 5) (aa (bf jj (ak 2) (aW (K:=K) rfl (ak 4))) (aa (ak 3) ao)))) ao))))))))),?_⟩
 walk_at "s"
 have nj:∀ {z:Int},(cO side top z b rest).lookup (Str.ofString "joined")=none:=aY hr' (by trivial)
 have nw:∀ {z:Int},(cO side top z b rest).lookup (Str.ofString "with_change")=none:=aY hr' (by trivial)
 have ns:∀ {z:Int},(cO side top z b rest).lookup (Str.ofString "strip_node")=none:=aY hr' (by trivial)
 have clN:=T.o_Node.cl
 have naN:=T.n_Node
 obtain ⟨k0,hx⟩:=id hK
 match t,hn,hd,hp,hm,q with
 | .lf e,hn,hd,hp,hm,q=>
  obtain ⟨dn,kn,an,ant,n1,n2,n3⟩:=id hn
  refine ⟨n,_,dn,_,_,rfl,n1,clN,naN _ (by simp),rfl,?_⟩
  walk_at "s"
  refine oM (b:=false) (SqT.of n3) rfl ?_
  walk_at "s"
  refine ⟨x,dx,_,rfl,hx,ns,?_⟩
  walk_at "s"
  exact ⟨x,dx,side,top,b,rest,c,rfl,hr',hK,hc,ht,q⟩
 | .nd u l,hn,hd,hp,hm,q=>
  rw [Tr.many] at hp hm
  rw [Tr.tall] at hd
  obtain ⟨e,rfl⟩:∃ e,d=e+1:=⟨d - 1,by omega⟩
  obtain ⟨m1,m2,⟨dn,kn,an,ant,n1,n2,n3⟩,hm1,hm2⟩:=id hn
  obtain ⟨us,⟨du,ku,au,aut,u1,u2,u3⟩,_⟩:=hm1.of
  refine ⟨n,_,dn,_,_,rfl,n1,clN,naN _ (by simp),rfl,?_⟩
  walk_at "s"
  refine oM (b:=true) (SqT.of n3) rfl ?_
  walk_at "s"
  refine ⟨n,_,dn,_,_,rfl,n1,clN,naN _ (by simp),rfl,?_⟩
  walk_at "s"
  refine ⟨n,_,dn,_,_,rfl,n1,clN,naN _ (by simp),rfl,?_⟩
  walk_at "s"
  refine ⟨m1,_,du,_,_,rfl,u1,clN,naN _ (by simp),rfl,?_⟩
  walk_at "s"
  by_cases hc2:p < u.many
  ·rw [Xq (show (p:Int) < (u.many:Int) by omega)]
   walk_at "s"
   have e1:wc c (.nd u l) p= .nd (wc c u p) l:=if_pos hc2
   rw [e1] at q
   refine ⟨x,dx,_,rfl,hx,nj,?_⟩
   walk_at "s"
   refine ⟨x,dx,_,rfl,hx,nw,?_⟩
   walk_at "s"
   refine ⟨x,dx,side,top,b,rest,m1,u,p,c,rfl,hr',hK,ht,hc,hm1,by omega,hc2,by omega,fun y H1 C1 K1 hy=>?_⟩
   walk_at "s"
   refine ⟨x,dx,side,top,b,rest,y,m2,_,l,rfl,hr',K1,ht,hy,hm2.kn (hK.kn C1),by rw [Fi hc2];omega,fun y2 H2 C2 K2 h2=>q y2 H2 (C1.trans C2) K2 h2⟩
  ·rw [XF (show ¬ (p:Int) < (u.many:Int) by omega)]
   walk_at "s"
   have e1:wc c (.nd u l) p= .nd u (wc c l (p - u.many)):=if_neg hc2
   rw [e1] at q
   refine ⟨x,dx,_,rfl,hx,nj,?_⟩
   walk_at "s"
   refine ⟨x,dx,_,rfl,hx,nw,?_⟩
   walk_at "s"
   refine ⟨m1,_,du,_,_,rfl,u1,clN,naN _ (by simp),rfl,?_⟩
   walk_at "s"
   rw [show (p:Int) - (u.many:Int)=((p - u.many:Nat):Int) by omega]
   refine ⟨x,dx,side,top,b,rest,m2,l,p - u.many,c,rfl,hr',hK,ht,hc,hm2,by omega,by omega,by omega,fun y H1 C1 K1 hy=>?_⟩
   walk_at "s"
   refine ⟨x,dx,side,top,b,rest,m1,y,u,_,rfl,hr',K1,ht,hm1.kn (hK.kn C1),hy,by rw [Fi (by omega)];omega,fun y2 H2 C2 K2 h2=>q y2 H2 (C1.trans C2) K2 h2⟩
theorem Ho (T:Txt K mg):∀ d:Nat,HasM P w K mg base (10+d) "Kept" "with_change" ["self","node","place","sign"] (Lz mg d):=fun d=>by
 have key:∀ d:Nat,HasM P w K mg base (10 - 1+d+1) "Kept" "with_change" ["self","node","place","sign"] (Lz mg d):=fun d=>by
  induction d with
  | zero=>exact jK T 0 ((p7 T).mono (by decide))
  | succ d ih=>exact jK T (d+1) (ih.mono (by omega))
 exact (key d).mono (by omega)
theorem bY (T:Txt K mg):HasM P w K mg base (10+48) "Kept" "with_change" ["self","node","place","sign"] (Lz mg 48):=Ho T 48
def NdO' (mg:Str->Option Value) (top:Str) (H:Hp) (v:V):Option Tr->Prop
 | none=>v= .non
 | some t=>∃ y,v= .ref y/\Nd mg top t H y
def LC (mg:Str->Option Value) (d:Nat):Sp:=fun vs H Q _=>∃ (x dx:Addr) (side top:Str) (b:Int) (rest:List (Str×V)) (n:Addr) (t:Tr) (p:Nat),vs=[.ref x,.ref n,.int (p:Int)]/\Hn rest/\Km mg x dx side top b rest H/\Row top/\Nd mg top t H n/\t.tall<=d/\p < t.many/\t.many<=48/\
 ∀ v H',Chg x H H'->Km mg x dx side top b rest H'->NdO' mg top H' v (wo t p)->Q v H'
def Xa (mg:Str->Option Value):Nat->Sp
 | 0=>fun _ _ _ _=>False
 | d+1=>LC mg d
theorem d7:aD ["self","node","place","upper","lower","rest"] ["self","node","place"] (az jZ):=⟨rfl,rfl,rfl,by trivial,rfl,by trivial,by trivial⟩
theorem uX (T:Txt K mg):HasM P w K mg base 1 "Kept" "without" ["self","node","place"] (fun _ _ _ _=>False):=jN (k:=0) T.m_Kept_without d7 (fun _ _ _ _ _ _ us hl=>L2.pZ (fun _ _ _=>rfl) us hl) (fun _ _ _ _ h=>h.elim) (fun _ _ _ _ _ _ _ _ _ _ h=>h.elim)
theorem nO (T:Txt K mg) (d:Nat) (fc:HasM P w K mg base (11+d) "Kept" "without" ["self","node","place"] (Xa mg d)):HasM P w K mg base (11+d+1) "Kept" "without" ["self","node","place"] (LC mg d):=by
 have cQ:=cQ (P:=P) (w:=w) (base:=base) T
 refine jN T.m_Kept_without d7 (fun _ _ _ _ _ _ us hl=>L2.pZ (fun _ _ _=>rfl) us hl) ?_ fun f cdv A outer s H vs Q E hr h=>?_
 ·rintro vs H Q E ⟨x,dx,side,top,b,rest,n,t,p,rfl,_⟩;rfl
 obtain ⟨x,dx,side,top,b,rest,n,t,p,rfl,hr',hK,ht,hn,hd,hp,hm,q⟩:=h
 have hu:=hr.units0
 have hu64:=hr.units
 refine ⟨_,(aq (bZ (iC (yM (K:=K) rfl (aW (K:=K) rfl (ak 1)))) (aA (aJ vP)) bJ) (aq (aH (i:=3) d7.nd rfl cG (bx (K:=K) rfl (aW (K:=K) rfl (ak 1)) aB) rfl) (aq (aH (i:=4) d7.nd rfl cG (bx (K:=K) rfl (aW (K:=K) rfl (ak 1)) aB) rfl) (aq (bZ (bB rE (ak 2) (aW (K:=K) rfl (ak 3)) (by walk_at "p")) (aq (aH (i:=5) d7.nd rfl cG (aQ (ak 0) T.o_Kept fc (hr.mono (by omega)) aG (aa (ak 3) (aa (ak 2) ao))) rfl) (aA (aJ (NB (bB vY (ak 5) vP (by walk_at "p")) (ak 4) (aQ (ak 0) T.o_Kept cQ (hr.mono (by omega)) aG (aa (ak 5) (aa (ak 4) ao))))))) bJ) (aq (aH (i:=5) d7.nd rfl cG (aQ (ak 0) T.o_Kept fc (hr.mono (by omega)) aG (aa (ak 4) (aa (bf jj (ak 2) (aW (K:=K) rfl (ak 3))) ao))) rfl) (aA (aJ (NB (bB vY (ak 5) vP (by walk_at "p")) (ak 3) (aQ (ak 0) T.o_Kept cQ (hr.mono (by omega)) aG (aa (ak 3) (aa (ak 5) ao))))))))))),?_⟩
 walk_at "s"
 have nw:∀ {z:Int},(cO side top z b rest).lookup (Str.ofString "without")=none:=aY hr' (by trivial)
 have ne:∀ {z:Int},(cO side top z b rest).lookup (Str.ofString "evened")=none:=aY hr' (by trivial)
 have clN:=T.o_Node.cl
 have naN:=T.n_Node
 obtain ⟨k0,hx⟩:=id hK
 match t,hn,hd,hp,hm,q with
 | .lf e,hn,hd,hp,hm,q=>
  obtain ⟨dn,kn,an,ant,n1,n2,n3⟩:=id hn
  refine ⟨n,_,dn,_,_,rfl,n1,clN,naN _ (by simp),rfl,?_⟩
  walk_at "s"
  refine oM (b:=false) (SqT.of n3) rfl ?_
  walk_at "s"
  exact q .non H (Chg.refl x H) hK rfl
 | .nd u l,hn,hd,hp,hm,q=>
  rw [Tr.many] at hp hm
  rw [Tr.tall] at hd
  obtain ⟨e,rfl⟩:∃ e,d=e+1:=⟨d - 1,by omega⟩
  obtain ⟨m1,m2,⟨dn,kn,an,ant,n1,n2,n3⟩,hm1,hm2⟩:=id hn
  obtain ⟨us,⟨du,ku,au,aut,u1,u2,u3⟩,_⟩:=hm1.of
  refine ⟨n,_,dn,_,_,rfl,n1,clN,naN _ (by simp),rfl,?_⟩
  walk_at "s"
  refine oM (b:=true) (SqT.of n3) rfl ?_
  walk_at "s"
  refine ⟨n,_,dn,_,_,rfl,n1,clN,naN _ (by simp),rfl,?_⟩
  walk_at "s"
  refine ⟨n,_,dn,_,_,rfl,n1,clN,naN _ (by simp),rfl,?_⟩
  walk_at "s"
  refine ⟨m1,_,du,_,_,rfl,u1,clN,naN _ (by simp),rfl,?_⟩
  walk_at "s"
  by_cases hc2:p < u.many
  ·rw [Xq (show (p:Int) < (u.many:Int) by omega)]
   walk_at "s"
   have e1:wo (.nd u l) p=(match wo u p with | none=>some l | some r=>some (ev r l)):=if_pos hc2
   rw [e1] at q
   refine ⟨x,dx,_,rfl,hx,nw,?_⟩
   walk_at "s"
   refine ⟨x,dx,side,top,b,rest,m1,u,p,rfl,hr',hK,ht,hm1,by omega,hc2,by omega,fun v H1 C1 K1 hv=>?_⟩
   walk_at "s"
   cases ew:wo u p with
   | none=>
    rw [ew] at q hv
    obtain rfl:v= .non:=hv
    try walk_at "s"
    rw [Xq (rfl:V.non=V.non)]
    walk_at "s"
    exact q _ H1 C1 K1 ⟨m2,rfl,hm2.kn (hK.kn C1)⟩
   | some r=>
    rw [ew] at q hv
    obtain ⟨y,rfl,hy⟩:=hv
    obtain ⟨k0',hx1⟩:=id K1
    try walk_at "s"
    rw [XF (show ¬ V.ref y=V.non from fun z=>by cases z)]
    walk_at "s"
    refine ⟨x,dx,_,rfl,hx1,ne,?_⟩
    walk_at "s"
    have:=Fj hc2 ew
    exact ⟨x,dx,side,top,b,rest,y,m2,r,l,rfl,hr',K1,ht,hy,hm2.kn (hK.kn C1),by omega,fun y2 H2 C2 K2 h2=>q _ H2 (C1.trans C2) K2 ⟨y2,rfl,h2⟩⟩
  ·rw [XF (show ¬ (p:Int) < (u.many:Int) by omega)]
   walk_at "s"
   have e1:wo (.nd u l) p=(match wo l (p - u.many) with | none=>some u | some r=>some (ev u r)):=if_neg hc2
   rw [e1] at q
   refine ⟨x,dx,_,rfl,hx,nw,?_⟩
   walk_at "s"
   refine ⟨m1,_,du,_,_,rfl,u1,clN,naN _ (by simp),rfl,?_⟩
   walk_at "s"
   rw [show (p:Int) - (u.many:Int)=((p - u.many:Nat):Int) by omega]
   refine ⟨x,dx,side,top,b,rest,m2,l,p - u.many,rfl,hr',hK,ht,hm2,by omega,by omega,by omega,fun v H1 C1 K1 hv=>?_⟩
   walk_at "s"
   cases ew:wo l (p - u.many) with
   | none=>
    rw [ew] at q hv
    obtain rfl:v= .non:=hv
    try walk_at "s"
    rw [Xq (rfl:V.non=V.non)]
    walk_at "s"
    exact q _ H1 C1 K1 ⟨m1,rfl,hm1.kn (hK.kn C1)⟩
   | some r=>
    rw [ew] at q hv
    obtain ⟨y,rfl,hy⟩:=hv
    obtain ⟨k0',hx1⟩:=id K1
    try walk_at "s"
    rw [XF (show ¬ V.ref y=V.non from fun z=>by cases z)]
    walk_at "s"
    refine ⟨x,dx,_,rfl,hx1,ne,?_⟩
    walk_at "s"
    have:=Fj (by omega) ew
    exact ⟨x,dx,side,top,b,rest,m1,y,u,r,rfl,hr',K1,ht,hm1.kn (hK.kn C1),hy,by omega,fun y2 H2 C2 K2 h2=>q _ H2 (C1.trans C2) K2 ⟨y2,rfl,h2⟩⟩
theorem Dj (T:Txt K mg):∀ d:Nat,HasM P w K mg base (12+d) "Kept" "without" ["self","node","place"] (LC mg d):=fun d=>by
 have key:∀ d:Nat,HasM P w K mg base (12 - 1+d+1) "Kept" "without" ["self","node","place"] (LC mg d):=fun d=>by
  induction d with
  | zero=>exact nO T 0 ((uX T).mono (by decide))
  | succ d ih=>exact nO T (d+1) (ih.mono (by omega))
 exact (key d).mono (by omega)
theorem fc (T:Txt K mg):HasM P w K mg base (12+48) "Kept" "without" ["self","node","place"] (LC mg 48):=Dj T 48
def RootV (mg:Str->Option Value) (top:Str) (cs:List Nat) (v:V) (H:Hp):Prop:=(cs=[]/\v= .non)\/∃ y t,v= .ref y/\t.codes=cs/\Nd mg top t H y
theorem RootV.kn {top:Str} {cs:List Nat} {v:V} {H H':Hp} (h:RootV mg top cs v H) (k:Kn H H'):RootV mg top cs v H':=by
 rcases h with h | ⟨y,t,e,ec,hn⟩
 ·exact .inl h
 ·exact .inr ⟨y,t,e,ec,hn.kn k⟩
abbrev kW (v:V):List (Str×V):=[(("held_root":Str),v)]
theorem Bf (v:V):Hn (kW v):=.inr ⟨v,rfl⟩
def Kp (mg:Str->Option Value) (H:Hp) (x:Addr) (side top:Str):Prop:=Row side/\Row top/\∃ dx b v,Km mg x dx side top b (kW v) H/\RootV mg top side.cps.toList v H
theorem pU {side top:Str} {k b z:Int} {rest:List (Str×V)}:cu "mark_before" (.int z) (cO side top k b rest)=cO side top k z rest:=by
 unfold cO
 rw [cu,if_neg (by trivial),cu,if_neg (by trivial),cu,if_neg (by trivial),cu,if_pos rfl]
theorem pW {side top:Str} {k b:Int} {v v':V}:cu "held_root" v' (cO side top k b (kW v))=cO side top k b (kW v'):=by
 unfold cO kW
 rw [cu,if_neg (by trivial),cu,if_neg (by trivial),cu,if_neg (by trivial),cu,if_neg (by trivial),cu,if_pos rfl]
theorem Bg {side top:Str} {k b:Int} {v':V}:cu "held_root" v' (cO side top k b [])=cO side top k b (kW v'):=by
 unfold cO kW
 rw [cu,if_neg (by trivial),cu,if_neg (by trivial),cu,if_neg (by trivial),cu,if_neg (by trivial),cu]
theorem vf {side side' top:Str} {k b:Int} {rest:List (Str×V)}:cu "held_side" (.str side') (cO side top k b rest)=cO side' top k b rest:=by
 unfold cO
 rw [cu,if_pos rfl]
theorem Uu {side top top':Str} {k b:Int} {rest:List (Str×V)}:cu "held_top" (.str top') (cO side top k b rest)=cO side top' k b rest:=by
 unfold cO
 rw [cu,if_neg (by trivial),cu,if_pos rfl]
theorem Chg.upd {x:Addr} {H:Hp} {o:HO}:Chg x H (upd H x o):=Chg.put (Chg.refl x H)
theorem Fl {top:Str} {z:Str} {H:Hp} {y:Addr} (hz:z.cps.size<=48) (h0:0 < z.cps.size) (h:Nd mg top (bt 6 z.cps.toList) H y):RootV mg top z.cps.toList (.ref y) H:=
 .inr ⟨y,_,rfl,sS 6 _ (fun e=>by have:=congrArg List.length e;rw [Xx,Zb] at this;omega) (by rw [Xx];omega),h⟩
theorem nil_of {z:Str} (h:z.cps.size=0):z.cps.toList=[]:=Y6.mp (by rw [Xx];exact h)
def Qg (mg:Str->Option Value):Sp:=fun vs H Q _=>∃ (x:Addr) (side top:Str),vs=[.ref x]/\Kp mg H x side top/\Q (.str side) H
theorem zu:aD ["self"] ["self"] (az oY):=⟨rfl,rfl,rfl,by trivial,rfl,by trivial,by trivial⟩
theorem o7 (T:Txt K mg):HasM P w K mg base 1 "Kept" "side" ["self"] (Qg mg):=by
 refine jN T.m_Kept_side zu (fun _ _ _ _ _ _ us hl=>L2.nY (fun _=>rfl) us hl) ?_ fun f cdv A outer s H vs Q E hr h=>?_
 ·rintro vs H Q E ⟨x,side,top,rfl,_⟩;rfl
 obtain ⟨x,side,top,rfl,⟨_,_,dx,b,v,⟨k,hx⟩,_⟩,q⟩:=h
 have hu:=hr.units0
 have hu64:=hr.units
 refine ⟨_,(aA (aJ (aW (K:=K) rfl (ak 0)))),?_⟩
 walk_at "s"
 refine ⟨x,_,dx,_,_,rfl,hx,T.o_Kept.cl,T.n_Kept _ (by simp),rfl,?_⟩
 walk_at "s"
 exact q
def Uv (mg:Str->Option Value):Sp:=fun vs H Q _=>∃ (x:Addr) (side top:Str),vs=[.ref x]/\Kp mg H x side top/\Q (.str top) H
theorem Bh:aD ["self"] ["self"] (az qP):=⟨rfl,rfl,rfl,by trivial,rfl,by trivial,by trivial⟩
theorem rm (T:Txt K mg):HasM P w K mg base 1 "Kept" "top" ["self"] (Uv mg):=by
 refine jN T.m_Kept_top Bh (fun _ _ _ _ _ _ us hl=>L2.nY (fun _=>rfl) us hl) ?_ fun f cdv A outer s H vs Q E hr h=>?_
 ·rintro vs H Q E ⟨x,side,top,rfl,_⟩;rfl
 obtain ⟨x,side,top,rfl,⟨_,_,dx,b,v,⟨k,hx⟩,_⟩,q⟩:=h
 have hu:=hr.units0
 have hu64:=hr.units
 refine ⟨_,(aA (aJ (aW (K:=K) rfl (ak 0)))),?_⟩
 walk_at "s"
 refine ⟨x,_,dx,_,_,rfl,hx,T.o_Kept.cl,T.n_Kept _ (by simp),rfl,?_⟩
 walk_at "s"
 exact q
def Qh (mg:Str->Option Value):Sp:=fun vs H Q _=>∃ (x dx:Addr) (side top:Str),vs=[.ref x,.str side,.str top]/\H x=some (.ins (aM mg "Kept") dx [])/\Row side/\Row top/\∀ H',Chg x H H'->Kp mg H' x side top->Q .non H'
theorem um:aD ["self","side","top"] ["self","side","top"] (az jF):=⟨rfl,rfl,rfl,by trivial,rfl,by trivial,by trivial⟩
theorem iB (T:Txt K mg):HasM P w K mg base 17 "Kept" "__init__" ["self","side","top"] (Qh mg):=by
 have iW:=iW (P:=P) (w:=w) (base:=base) T
 have cJ:=cJ (P:=P) (w:=w) (base:=base) T
 refine jN T.m_Kept___init__ um (fun _ _ _ _ _ _ us hl=>L2.pZ (fun _ _ _=>rfl) us hl) ?_ fun f cdv A outer s H vs Q E hr h=>?_
 ·rintro vs H Q E ⟨x,dx,side,top,rfl,_⟩;rfl
 obtain ⟨x,dx,side,top,rfl,hx,hs,ht,q⟩:=h
 have hu:=hr.units0
 have hu64:=hr.units
 refine ⟨_,(aq (bh (aO iW (hr.mono (by decide)) bc (aa (ak 1) (aa (ak 2) ao)) (by trivial))) (aq (bM (K:=K) rfl (ak 0) (ak 1)) (aq (bM (K:=K) rfl (ak 0) (ak 2)) (aq (bM (K:=K) rfl (ak 0) aB) (aq (bM (K:=K) rfl (ak 0) aB) (aA (bM (K:=K) rfl (ak 0) (aQ (ak 0) T.o_Kept cJ (hr.mono (by decide)) aG (aa (ak 1) ao))))))))),?_⟩
 walk_at "s"
 refine ⟨side,top,rfl,hs,ht,fun H1 S1=>?_⟩
 have cl:=T.o_Kept.cl
 have na:=T.n_Kept
 have hx1:=S1 _ _ hx
 have C1:Chg x H H1:=fun b o _ e=>S1 _ _ e
 walk_at "s"
 refine ⟨x,_,dx,_,rfl,hx1,cl,na _ (by simp),by simp,?_⟩
 walk_at "s"
 obtain ⟨H2,e2,hx2,M2⟩:=iy (H:=H1) (x:=x) (C:=aM mg "Kept") (dx:=dx) (fs:=[]) (f:="held_side") (y:=.str side) rfl
 rw [e2]
 walk_at "s"
 refine ⟨x,_,dx,_,rfl,hx2,cl,na _ (by simp),by simp,?_⟩
 walk_at "s"
 obtain ⟨H3,e3,hx3,M3⟩:=iy (H:=H2) (x:=x) (C:=aM mg "Kept") (dx:=dx) (fs:=[] ++ [(Str.ofString "held_side",V.str side)]) (f:="held_top") (y:=.str top) (by show (["held_side"]:List Str).contains "held_top"=false;trivial)
 rw [e3]
 walk_at "s"
 refine ⟨x,_,dx,_,rfl,hx3,cl,na _ (by simp),by simp,?_⟩
 walk_at "s"
 obtain ⟨H4,e4,hx4,M4⟩:=iy (H:=H3) (x:=x) (C:=aM mg "Kept") (dx:=dx) (fs:=[] ++ [(Str.ofString "held_side",V.str side)] ++ [(Str.ofString "held_top",V.str top)]) (f:="last_mark") (y:=.int 0) (by show (["held_side","held_top"]:List Str).contains "last_mark"=false;trivial)
 rw [e4]
 walk_at "s"
 refine ⟨x,_,dx,_,rfl,hx4,cl,na _ (by simp),by simp,?_⟩
 walk_at "s"
 obtain ⟨H5,e5,hx5,M5⟩:=iy (H:=H4) (x:=x) (C:=aM mg "Kept") (dx:=dx) (fs:=[] ++ [(Str.ofString "held_side",V.str side)] ++ [(Str.ofString "held_top",V.str top)] ++ [(Str.ofString "last_mark",V.int 0)]) (f:="mark_before") (y:=.int 0) (by show (["held_side","held_top","last_mark"]:List Str).contains "mark_before"=false;trivial)
 rw [e5]
 have C5:=(((C1.trans M2).trans M3).trans M4).trans M5
 clear e2 e3 e4 e5 hx2 hx3 hx4 M2 M3 M4 M5 C1
 replace hx5:H5 x=some (.ins (aM mg "Kept") dx (cO side top 0 0 [])):=hx5
 walk_at "s"
 have nb:(cO side top 0 0 []).lookup (Str.ofString "built")=none:=aY (.inl rfl) (by trivial)
 refine ⟨x,dx,_,rfl,hx5,nb,?_⟩
 walk_at "s"
 refine ⟨x,dx,side,top,0,[],side,rfl,.inl rfl,⟨0,hx5⟩,ht,hs,Xv hs.1 (by decide),fun h0=>?_,fun y H6 h0 C6 K6 hN=>?_⟩
 ·walk_at "s"
  refine ⟨x,_,dx,_,rfl,hx5,cl,na _ (by simp),by simp [cO],?_⟩
  walk_at "s"
  rw [Bg]
  exact q _ (C5.trans Chg.upd) ⟨hs,ht,dx,0,.non,⟨0,aj⟩,.inl ⟨nil_of h0,rfl⟩⟩
 ·obtain ⟨k6,hx6⟩:=id K6
  walk_at "s"
  refine ⟨x,_,dx,_,rfl,hx6,cl,na _ (by simp),by simp [cO],?_⟩
  walk_at "s"
  rw [Bg]
  exact q _ ((C5.trans C6).trans Chg.upd) ⟨hs,ht,dx,0,.ref y,⟨k6,aj⟩,Fl hs.1 h0 (hN.kn (Kn.chg hx6 bW Chg.upd))⟩
def Qi (mg:Str->Option Value):Sp:=fun vs H Q _=>∃ (x:Addr) (side top top':Str),vs=[.ref x,.str top']/\Kp mg H x side top/\Row top'/\∀ H',Chg x H H'->Kp mg H' x side top'->Q .non H'
theorem xg:aD ["self","top"] ["self","top"] (az m6):=⟨rfl,rfl,rfl,by trivial,rfl,by trivial,by trivial⟩
theorem nH (T:Txt K mg):HasM P w K mg base 17 "Kept" "retop" ["self","top"] (Qi mg):=by
 have iM:=iM (P:=P) (w:=w) (base:=base) T
 have cJ:=cJ (P:=P) (w:=w) (base:=base) T
 refine jN T.m_Kept_retop xg (fun _ _ _ _ _ _ us hl=>L2.nP (fun _ _=>rfl) us hl) ?_ fun f cdv A outer s H vs Q E hr h=>?_
 ·rintro vs H Q E ⟨x,side,top,top',rfl,_⟩;rfl
 obtain ⟨x,side,top,top',rfl,⟨hs,ht,dx,b,v,⟨k,hx⟩,hR⟩,ht',q⟩:=h
 have hu:=hr.units0
 have hu64:=hr.units
 refine ⟨_,(aq (bh (aO iM (hr.mono (by decide)) bc (aa (ak 1) ao) (by trivial))) (aq (bM (K:=K) rfl (ak 0) (aW (K:=K) rfl (ak 0))) (aq (bM (K:=K) rfl (ak 0) (ak 1)) (aA (bM (K:=K) rfl (ak 0) (aQ (ak 0) T.o_Kept cJ (hr.mono (by decide)) aG (aa (aW (K:=K) rfl (ak 0)) ao))))))),?_⟩
 walk_at "s"
 have cl:=T.o_Kept.cl
 have na:=T.n_Kept
 refine ⟨top',rfl,ht',fun H1 S1=>?_⟩
 walk_at "s"
 have hx1:=S1 _ _ hx
 refine ⟨x,_,dx,_,_,rfl,hx1,cl,na _ (by simp),rfl,?_⟩
 walk_at "s"
 refine ⟨x,_,dx,_,rfl,hx1,cl,na _ (by simp),by simp [cO],?_⟩
 walk_at "s"
 rw [pU]
 have hx2:=aj (H:=H1) (a:=x) (o:=.ins (aM mg "Kept") dx (cO side top k k (kW v)))
 have C2:Chg x H1 (upd H1 x (.ins (aM mg "Kept") dx (cO side top k k (kW v)))):=Chg.upd
 generalize upd H1 x (.ins (aM mg "Kept") dx (cO side top k k (kW v)))=H2 at hx2 C2 ⊢
 walk_at "s"
 refine ⟨x,_,dx,_,rfl,hx2,cl,na _ (by simp),by simp [cO],?_⟩
 walk_at "s"
 rw [Uu]
 have hx3:=aj (H:=H2) (a:=x) (o:=.ins (aM mg "Kept") dx (cO side top' k k (kW v)))
 have C3:Chg x H2 (upd H2 x (.ins (aM mg "Kept") dx (cO side top' k k (kW v)))):=Chg.upd
 generalize upd H2 x (.ins (aM mg "Kept") dx (cO side top' k k (kW v)))=H3 at hx3 C3 ⊢
 have U:=Chg.same (Chg.refl x H) S1 |>.trans (C2.trans C3)
 clear C2 C3
 walk_at "s"
 have nb:(cO side top' k k (kW v)).lookup (Str.ofString "built")=none:=aY (Bf v) (by trivial)
 refine ⟨x,dx,_,rfl,hx3,nb,?_⟩
 walk_at "s"
 refine ⟨x,_,dx,_,_,rfl,hx3,cl,na _ (by simp),rfl,?_⟩
 walk_at "s"
 refine ⟨x,dx,side,top',k,kW v,side,rfl,Bf v,⟨k,hx3⟩,ht',hs,Xv hs.1 (by decide),fun h0=>?_,fun y H6 h0 C6 K6 hN=>?_⟩
 ·walk_at "s"
  refine ⟨x,_,dx,_,rfl,hx3,cl,na _ (by simp),by simp [cO],?_⟩
  walk_at "s"
  rw [pW]
  exact q _ (U.trans Chg.upd) ⟨hs,ht',dx,k,.non,⟨k,aj⟩,.inl ⟨nil_of h0,rfl⟩⟩
 ·obtain ⟨k6,hx6⟩:=id K6
  walk_at "s"
  refine ⟨x,_,dx,_,rfl,hx6,cl,na _ (by simp),by simp [cO],?_⟩
  walk_at "s"
  rw [pW]
  exact q _ ((U.trans C6).trans Chg.upd) ⟨hs,ht',dx,k,.ref y,⟨k6,aj⟩,Fl hs.1 h0 (hN.kn (Kn.chg hx6 bW Chg.upd))⟩
theorem uY:U7 mK "self":=by trivial
theorem uo:U7 mK "found":=by trivial
def XT (mg:Str->Option Value) (C:Str) (n:Int) (H:Hp) (E:XK):Prop:=∀ e H',Same H H'->Ma H' e (aM mg C) [("found",.int n)]->E (.ref (aM mg C)) (some e) H'
def Dk (side:Str) (p:Nat) (mid:Str):Str:=Txt.slice side none (some (p:Int)) ++ mid ++ Txt.slice side (some (p:Int)) none
def rn (side:Str) (p:Nat) (mid:Str):Str:=Txt.slice side none (some (p:Int)) ++ mid ++ Txt.slice side (some (p+1:Int)) none
theorem vg (a b:Str):(a ++ b).cps.toList=a.cps.toList ++ b.cps.toList:=by show (a.cps ++ b.cps).toList=_;simp
theorem sV (side:Str) (p:Nat) (c:Nat):(Dk side p ⟨#[c]⟩).cps.toList=side.cps.toList.take p ++ c :: side.cps.toList.drop p:=by
 unfold Dk
 rw [vg,vg,vZ,v4]
 simp
theorem sW (side:Str) (p:Nat) (mid:Str):(rn side p mid).cps.toList=side.cps.toList.take p ++ (mid.cps.toList ++ side.cps.toList.drop (p+1)):=by
 unfold rn
 rw [vg,vg,vZ,Ab (k:=p+1) _ (by omega)]
 simp
theorem Bj {z:Str} (h:z.cps.toList.length<=48) (g:∀ c∈z.cps.toList,c∈GOOD):Row z:=⟨by show z.cps.size<=48;rw [← Xx];exact h,g⟩
theorem Bk {side:Str} {p c:Nat} (hs:Row side) (h:side.cps.size < 48) (hp:p<=side.cps.size) (hc:c∈GOOD):Row (Dk side p ⟨#[c]⟩):=by
 have hl:side.cps.toList.length=side.cps.size:=Xx
 refine Bj (by rw [sV,Yc,Yu,Yi,Ye];omega) fun d hd=>?_
 rw [sV] at hd
 rcases Yz.mp hd with h1 | h1
 ·exact hs.2 d (Zm h1)
 ·rcases XD.mp h1 with rfl | h2
  ·exact hc
  ·exact hs.2 d (Z7 h2)
theorem Bl {side mid:Str} {p:Nat} (hs:Row side) (hp:p < side.cps.size) (hm:mid.cps.size<=1) (hc:∀ c∈mid.cps.toList,c∈GOOD):Row (rn side p mid):=by
 have hl:side.cps.toList.length=side.cps.size:=Xx
 have hl2:mid.cps.toList.length=mid.cps.size:=Xx
 have:=hs.1
 have e:side.length=side.cps.size:=rfl
 refine Bj (by rw [sW,Yc,Yc,Yi,Ye];omega) fun d hd=>?_
 rw [sW] at hd
 rcases Yz.mp hd with h1 | h1
 ·exact hs.2 d (Zm h1)
 ·rcases Yz.mp h1 with h2 | h2
  ·exact hc d h2
  ·exact hs.2 d (Z7 h2)
theorem uq {top:Str} {side:Str} {H:Hp} {y:Addr} {t:Tr} (h:t.codes=side.cps.toList) (hn:Nd mg top t H y):t.many=side.cps.size:=by rw [← bD,h,Xx]
theorem pX (a b:Str):(a ++ b).length=a.length+b.length:=by show (a.cps ++ b.cps).size=_;simp;rfl
theorem fj (z:Str) (lo hi:Option Int):(Txt.slice z lo hi).length<=z.length:=by
 have e:(Txt.slice z lo hi).cps.toList.length=(Txt.slice z lo hi).length:=Xx
 have e2:z.cps.toList.length=z.length:=Xx
 rw [← e,pC,Yi,Ye,e2];omega
theorem Bm:aD ["self","found"] ["self","found"] (az mK):=⟨rfl,rfl,rfl,by trivial,rfl,by trivial,by trivial⟩
theorem Dl (T:Txt K mg):U0 P w K mg base 1 "TooLong" (aM mg "TooLong") ["found"]:=mkX T.x_TooLong Bm (fun _ _ _ _ _ _ us hl=>L2.nP (fun _ _=>rfl) us hl) rfl fun f cdv A outer s H vs Q E hr h=>⟨_,(aA (Ek (K:=K) rfl (Jt 0 uY) (Jt 1 uo))),rd1 T.x_TooLong.c.cl.cls (T.x_TooLong.na _ (by simp)) h⟩
def Uw (mg:Str->Option Value):Sp:=fun vs H Q E=>∃ (x:Addr) (side top:Str) (p c:Nat),vs=[.ref x,.int (p:Int),.str ⟨#[c]⟩]/\Kp mg H x side top/\p<=side.cps.size/\c∈GOOD/\(side.cps.size=48->XT mg "TooLong" 49 H E)/\
 (side.cps.size < 48->∀ H',Chg x H H'->Kp mg H' x (Dk side p ⟨#[c]⟩) top->Q .non H')
theorem Bo:aD ["self","place","sign"] ["self","place","sign"] (az qQ):=⟨rfl,rfl,rfl,by trivial,rfl,by trivial,by trivial⟩
theorem rB (T:Txt K mg):HasM P w K mg base 61 "Kept" "put" ["self","place","sign"] (Uw mg):=by
 have bI:=bI (P:=P) (w:=w) (base:=base) T
 have iY:=iY (P:=P) (w:=w) (base:=base) T
 have aU:=aU (P:=P) (w:=w) (base:=base) T
 have dZ:=dZ (P:=P) (w:=w) (base:=base) T
 refine jN T.m_Kept_put Bo (fun _ _ _ _ _ _ us hl=>L2.pZ (fun _ _ _=>rfl) us hl) ?_ fun f cdv A outer s H vs Q E hr h=>?_
 ·rintro vs H Q E ⟨x,side,top,p,c,rfl,_⟩;rfl
 obtain ⟨x,side,top,p,c,rfl,⟨hs,ht,dx,b,v,⟨k,hx⟩,hR⟩,hp,hc,q0,q⟩:=h
 have hu:=hr.units0
 have hu64:=hr.units
 refine ⟨_,(aq (bh (u5 bI (hr.mono (by decide)) bc aG (aa (ak 1) (aa aB (aa (aL (aK (K:=K) rfl) bc T.b_len bj (aa (aW (K:=K) rfl (ak 0)) ao) (by trivial) (by trivial)) ao))) (by trivial))) (aq (bh (aO iY (hr.mono (by decide)) bc (aa (ak 2) ao) (by trivial))) (aq (bZ (bB xq (aL (aK (K:=K) rfl) bc T.b_len bj (aa (aW (K:=K) rfl (ak 0)) ao) (by trivial) (by trivial)) (yD bc T.c_MOST_SIGNS (by trivial)) (by walk_at "p")) (aA (z9 (Dl (P:=P) (w:=w) (base:=base) T) (hr.mono (by decide)) rfl bc aG (aa (bf aN (aL (aK (K:=K) rfl) bc T.b_len bj (aa (aW (K:=K) rfl (ak 0)) ao) (by trivial) (by trivial)) aB) ao) (by trivial))) bJ) (aq (bM (K:=K) rfl (ak 0) (aW (K:=K) rfl (ak 0))) (aq (bZ (bB vY (aW (K:=K) rfl (ak 0)) vP (by walk_at "p")) (aA (bM (K:=K) rfl (ak 0) (aQ (ak 0) T.o_Kept aU (hr.mono (by decide)) aG (aa (ak 2) ao)))) (aA (bM (K:=K) rfl (ak 0) (aQ (ak 0) T.o_Kept dZ (hr.mono (by decide)) aG (aa (aW (K:=K) rfl (ak 0)) (aa (ak 1) (aa (ak 2) ao))))))) (aA (bM (K:=K) rfl (ak 0) (bf aN (bf aN (fO (fP (K:=K) rfl) (aW (K:=K) rfl (ak 0)) gb (fB (ak 1))) (ak 2)) (fO (fP (K:=K) rfl) (aW (K:=K) rfl (ak 0)) (fB (ak 1)) gb))))))))),?_⟩
 walk_at "s"
 have cl:=T.o_Kept.cl
 have na:=T.n_Kept
 have lz:side.length<=sizeLine:=Xv hs.1 (by decide)
 have l48:=hs.1
 have hz:20000<=sizeLine:=by decide
 have le:side.length=side.cps.size:=rfl
 refine ⟨x,_,dx,_,_,rfl,hx,cl,na _ (by simp),rfl,?_⟩
 walk_at "s"
 refine cI lz ?_
 walk_at "s"
 refine Ak (by omega) (by omega) ?_
 walk_at "s"
 refine ⟨c,rfl,hc,?_⟩
 walk_at "s"
 refine ⟨x,_,dx,_,_,rfl,hx,cl,na _ (by simp),rfl,?_⟩
 walk_at "s"
 refine cI lz ?_
 walk_at "s"
 by_cases hf:side.cps.size=48
 ·rw [Xq (show (48:Int)<=(side.length:Int) by omega)]
  walk_at "s"
  refine ⟨x,_,dx,_,_,rfl,hx,cl,na _ (by simp),rfl,?_⟩
  walk_at "s"
  refine cI lz ?_
  walk_at "s"
  rw [show (side.length:Int)+1=49 by omega]
  try walk_at "s"
  exact ⟨rfl,(show 1<=sizeLine by decide),fun e H2 S2 X2=>q0 hf e H2 S2 X2⟩
 rw [XF (show ¬ (48:Int)<=(side.length:Int) by omega)]
 replace q:=q (by omega)
 walk_at "s"
 refine ⟨x,_,dx,_,_,rfl,hx,cl,na _ (by simp),rfl,?_⟩
 walk_at "s"
 refine ⟨x,_,dx,_,rfl,hx,cl,na _ (by simp),by simp [cO],?_⟩
 walk_at "s"
 rw [pU]
 have hx2:=aj (H:=H) (a:=x) (o:=.ins (aM mg "Kept") dx (cO side top k k (kW v)))
 have C2:Chg x H (upd H x (.ins (aM mg "Kept") dx (cO side top k k (kW v)))):=Chg.upd
 have R2:=hR.kn (Kn.chg hx bW C2)
 generalize upd H x (.ins (aM mg "Kept") dx (cO side top k k (kW v)))=H2 at hx2 C2 R2 ⊢
 try walk_at "s"
 refine ⟨x,_,dx,_,_,rfl,hx2,cl,na _ (by simp),rfl,?_⟩
 walk_at "s"
 rcases R2 with ⟨e0,rfl⟩ | ⟨n,t,rfl,et,hN⟩
 ·rw [Xq (rfl:V.non=V.non)]
  have ns:(cO side top k k (kW .non)).lookup (Str.ofString "strip_node")=none:=aY (Bf _) (by trivial)
  walk_at "s"
  refine ⟨x,dx,_,rfl,hx2,ns,?_⟩
  walk_at "s"
  refine ⟨x,dx,side,top,k,kW .non,c,rfl,Bf _,⟨k,hx2⟩,hc,ht,fun y H3 C3 K3 hy=>?_⟩
  walk_at "s"
  obtain ⟨k3,hx3⟩:=id K3
  refine ⟨x,_,dx,_,rfl,hx3,cl,na _ (by simp),by simp [cO],?_⟩
  walk_at "s"
  rw [pW]
  have hx4:=aj (H:=H3) (a:=x) (o:=.ins (aM mg "Kept") dx (cO side top k3 k (kW (.ref y))))
  have C4:Chg x H3 (upd H3 x (.ins (aM mg "Kept") dx (cO side top k3 k (kW (.ref y))))):=Chg.upd
  have N4:=hy.kn (Kn.chg hx3 bW C4)
  generalize upd H3 x (.ins (aM mg "Kept") dx (cO side top k3 k (kW (.ref y))))=H4 at hx4 C4 N4 ⊢
  try walk_at "s"
  refine ⟨x,_,dx,_,_,rfl,hx4,cl,na _ (by simp),rfl,?_⟩
  walk_at "s"
  refine ig lz ?_
  walk_at "s"
  refine jc (Xv (Ys (fj _ _ _) (Za (rT c))) (by omega)) ?_
  walk_at "s"
  refine ⟨x,_,dx,_,_,rfl,hx4,cl,na _ (by simp),rfl,?_⟩
  walk_at "s"
  refine ig lz ?_
  walk_at "s"
  refine jc (by rw [pX];exact Xv (Ys (Ys (fj _ _ _) (Za (rT c))) (fj _ _ _)) (by omega)) ?_
  walk_at "s"
  refine ⟨x,_,dx,_,rfl,hx4,cl,na _ (by simp),by simp [cO],?_⟩
  walk_at "s"
  rw [vf]
  exact q _ (((C2.trans C3).trans C4).trans Chg.upd) ⟨Bk hs (by omega) hp hc,ht,dx,k,.ref y,⟨k3,aj⟩,.inr ⟨y,_,rfl,by rw [sV,e0];simp [Tr.codes],N4.kn (Kn.chg hx4 bW Chg.upd)⟩⟩
 ·rw [XF (show ¬ V.ref n=V.non from fun z=>by cases z)]
  have nw:(cO side top k k (kW (.ref n))).lookup (Str.ofString "with_put")=none:=aY (Bf _) (by trivial)
  have tm:=uq et hN
  have tt:=sG t
  walk_at "s"
  refine ⟨x,dx,_,rfl,hx2,nw,?_⟩
  walk_at "s"
  refine ⟨x,_,dx,_,_,rfl,hx2,cl,na _ (by simp),rfl,?_⟩
  walk_at "s"
  refine ⟨x,dx,side,top,k,kW (.ref n),n,t,p,c,rfl,Bf _,⟨k,hx2⟩,ht,hc,hN,by omega,by omega,by omega,fun y H3 C3 K3 hy=>?_⟩
  walk_at "s"
  obtain ⟨k3,hx3⟩:=id K3
  refine ⟨x,_,dx,_,rfl,hx3,cl,na _ (by simp),by simp [cO],?_⟩
  walk_at "s"
  rw [pW]
  have hx4:=aj (H:=H3) (a:=x) (o:=.ins (aM mg "Kept") dx (cO side top k3 k (kW (.ref y))))
  have C4:Chg x H3 (upd H3 x (.ins (aM mg "Kept") dx (cO side top k3 k (kW (.ref y))))):=Chg.upd
  have N4:=hy.kn (Kn.chg hx3 bW C4)
  generalize upd H3 x (.ins (aM mg "Kept") dx (cO side top k3 k (kW (.ref y))))=H4 at hx4 C4 N4 ⊢
  try walk_at "s"
  refine ⟨x,_,dx,_,_,rfl,hx4,cl,na _ (by simp),rfl,?_⟩
  walk_at "s"
  refine ig lz ?_
  walk_at "s"
  refine jc (Xv (Ys (fj _ _ _) (Za (rT c))) (by omega)) ?_
  walk_at "s"
  refine ⟨x,_,dx,_,_,rfl,hx4,cl,na _ (by simp),rfl,?_⟩
  walk_at "s"
  refine ig lz ?_
  walk_at "s"
  refine jc (by rw [pX];exact Xv (Ys (Ys (fj _ _ _) (Za (rT c))) (fj _ _ _)) (by omega)) ?_
  walk_at "s"
  refine ⟨x,_,dx,_,rfl,hx4,cl,na _ (by simp),by simp [cO],?_⟩
  walk_at "s"
  rw [vf]
  exact q _ (((C2.trans C3).trans C4).trans Chg.upd) ⟨Bk hs (by omega) hp hc,ht,dx,k,.ref y,⟨k3,aj⟩,.inr ⟨y,_,rfl,by rw [sV,sI c t p (by omega),et],N4.kn (Kn.chg hx4 bW Chg.upd)⟩⟩
theorem Qj (side:Str) (p:Nat):Txt.slice side none (some (p:Int)) ++ Txt.slice side (some (p+1:Int)) none=rn side p ⟨#[]⟩:=by
 unfold rn
 congr 1
theorem Ux (side:Str) (p:Nat):(rn side p ⟨#[]⟩).cps.toList=side.cps.toList.take p ++ side.cps.toList.drop (p+1):=by rw [sW];rfl
def Qk (mg:Str->Option Value):Sp:=fun vs H Q E=>∃ (x:Addr) (side top:Str) (p:Nat),vs=[.ref x,.int (p:Int)]/\Kp mg H x side top/\p<=side.cps.size/\(p=side.cps.size->XT mg "NoPlace" p H E)/\
 (∀ c H',side.cps.toList[p]?=some c->Chg x H H'->Kp mg H' x (rn side p ⟨#[]⟩) top->Q (.str ⟨#[c]⟩) H')
theorem sX:aD ["self","place","gone"] ["self","place"] (az oZ):=⟨rfl,rfl,rfl,by trivial,rfl,by trivial,by trivial⟩
theorem o8 (T:Txt K mg):HasM P w K mg base 61 "Kept" "drop" ["self","place"] (Qk mg):=by
 have bI:=bI (P:=P) (w:=w) (base:=base) T
 have fc:=fc (P:=P) (w:=w) (base:=base) T
 refine jN T.m_Kept_drop sX (fun _ _ _ _ _ _ us hl=>L2.nP (fun _ _=>rfl) us hl) ?_ fun f cdv A outer s H vs Q E hr h=>?_
 ·rintro vs H Q E ⟨x,side,top,p,rfl,_⟩;rfl
 obtain ⟨x,side,top,p,rfl,⟨hs,ht,dx,b,v,⟨k,hx⟩,hR⟩,hp,q0,q⟩:=h
 have hu:=hr.units0
 have hu64:=hr.units
 refine ⟨_,(aq (bh (u5 bI (hr.mono (by decide)) bc aG (aa (ak 1) (aa aB (aa (bf jj (aL (aK (K:=K) rfl) bc T.b_len bj (aa (aW (K:=K) rfl (ak 0)) ao) (by trivial) (by trivial)) aB) ao))) (by trivial))) (aq (bM (K:=K) rfl (ak 0) (aW (K:=K) rfl (ak 0))) (aq (bM (K:=K) rfl (ak 0) (aQ (ak 0) T.o_Kept fc (hr.mono (by decide)) aG (aa (aW (K:=K) rfl (ak 0)) (aa (ak 1) ao)))) (aq (aH (i:=2) sX.nd rfl cG (bx (K:=K) rfl (aW (K:=K) rfl (ak 0)) (ak 1)) rfl) (aq (bM (K:=K) rfl (ak 0) (bf aN (fO (fP (K:=K) rfl) (aW (K:=K) rfl (ak 0)) gb (fB (ak 1))) (fO (fP (K:=K) rfl) (aW (K:=K) rfl (ak 0)) (fB (bf aN (ak 1) aB)) gb))) (aA (aJ (ak 2)))))))),?_⟩
 walk_at "s"
 have cl:=T.o_Kept.cl
 have na:=T.n_Kept
 have lz:side.length<=sizeLine:=Xv hs.1 (by decide)
 have l48:=hs.1
 have hz:20000<=sizeLine:=by decide
 have le:side.length=side.cps.size:=rfl
 have ll:side.cps.toList.length=side.cps.size:=Xx
 refine ⟨x,_,dx,_,_,rfl,hx,cl,na _ (by simp),rfl,?_⟩
 walk_at "s"
 refine cI lz ?_
 walk_at "s"
 refine ⟨_,_,_,rfl,.inl ⟨_,rfl⟩,fun hb=>?_,fun hb e H2 S2 X2=>q0 (by unfold inB at hb;simp at hb;omega) e H2 S2 X2⟩
 walk_at "s"
 have hp1:p < side.cps.size:=by unfold inB at hb;simp at hb;omega
 clear q0 hb
 obtain ⟨c,ec⟩:∃ c,side.cps.toList[p]?=some c:=⟨_,Xk (by omega)⟩
 replace q:=fun H'=>q c H' ec
 refine ⟨x,_,dx,_,_,rfl,hx,cl,na _ (by simp),rfl,?_⟩
 walk_at "s"
 refine ⟨x,_,dx,_,rfl,hx,cl,na _ (by simp),by simp [cO],?_⟩
 walk_at "s"
 rw [pU]
 have hx2:=aj (H:=H) (a:=x) (o:=.ins (aM mg "Kept") dx (cO side top k k (kW v)))
 have C2:Chg x H (upd H x (.ins (aM mg "Kept") dx (cO side top k k (kW v)))):=Chg.upd
 have R2:=hR.kn (Kn.chg hx bW C2)
 generalize upd H x (.ins (aM mg "Kept") dx (cO side top k k (kW v)))=H2 at hx2 C2 R2 ⊢
 try walk_at "s"
 rcases R2 with ⟨e0,_⟩ | ⟨n,t,rfl,et,hN⟩
 ·rw [e0,Zb] at ll;omega
 have nw:(cO side top k k (kW (.ref n))).lookup (Str.ofString "without")=none:=aY (Bf _) (by trivial)
 have tm:=uq et hN
 have tt:=sG t
 refine ⟨x,dx,_,rfl,hx2,nw,?_⟩
 walk_at "s"
 refine ⟨x,_,dx,_,_,rfl,hx2,cl,na _ (by simp),rfl,?_⟩
 walk_at "s"
 refine ⟨x,dx,side,top,k,kW (.ref n),n,t,p,rfl,Bf _,⟨k,hx2⟩,ht,hN,by omega,by omega,by omega,fun v3 H3 C3 K3 hv=>?_⟩
 walk_at "s"
 obtain ⟨k3,hx3⟩:=id K3
 refine ⟨x,_,dx,_,rfl,hx3,cl,na _ (by simp),by simp [cO],?_⟩
 walk_at "s"
 rw [pW]
 have hx4:=aj (H:=H3) (a:=x) (o:=.ins (aM mg "Kept") dx (cO side top k3 k (kW v3)))
 have C4:Chg x H3 (upd H3 x (.ins (aM mg "Kept") dx (cO side top k3 k (kW v3)))):=Chg.upd
 have R4:RootV mg top (rn side p ⟨#[]⟩).cps.toList v3 (upd H3 x (.ins (aM mg "Kept") dx (cO side top k3 k (kW v3)))):=by
  rw [Ux,← et]
  rcases sJ t p (by omega) with ⟨e1,e2⟩ | ⟨r,e1,e2⟩
  ·rw [e1] at hv
   refine .inl ⟨?_,hv⟩
   have h1:=bD t
   exact Y6.mp (by rw [Yc,Yi,Ye];omega)
  ·rw [e1] at hv
   obtain ⟨y,rfl,hy⟩:=hv
   exact .inr ⟨y,r,rfl,e2,hy.kn (Kn.chg hx3 bW Chg.upd)⟩
 generalize upd H3 x (.ins (aM mg "Kept") dx (cO side top k3 k (kW v3)))=H4 at hx4 C4 R4 ⊢
 try walk_at "s"
 refine ⟨x,_,dx,_,_,rfl,hx4,cl,na _ (by simp),rfl,?_⟩
 walk_at "s"
 refine zV lz (cH ec) ?_
 walk_at "s"
 refine ⟨x,_,dx,_,_,rfl,hx4,cl,na _ (by simp),rfl,?_⟩
 walk_at "s"
 refine ig lz ?_
 walk_at "s"
 refine ⟨x,_,dx,_,_,rfl,hx4,cl,na _ (by simp),rfl,?_⟩
 walk_at "s"
 refine ig lz ?_
 walk_at "s"
 refine jc (Xv (Ys (fj _ _ _) (fj _ _ _)) (by omega)) ?_
 walk_at "s"
 refine ⟨x,_,dx,_,rfl,hx4,cl,na _ (by simp),by simp [cO],?_⟩
 walk_at "s"
 rw [vf,Qj]
 try walk_at "s"
 exact q _ (((C2.trans C3).trans C4).trans Chg.upd) ⟨Bl hs hp1 (YK _) (fun d hd=>by cases hd),ht,dx,k,v3,⟨k3,aj⟩,R4.kn (Kn.chg hx4 bW Chg.upd)⟩
def Hq (mg:Str->Option Value):Sp:=fun vs H Q E=>∃ (x:Addr) (side top:Str) (p c:Nat),vs=[.ref x,.int (p:Int),.str ⟨#[c]⟩]/\Kp mg H x side top/\c∈GOOD/\p<=side.cps.size/\(p=side.cps.size->XT mg "NoPlace" p H E)/\
 (∀ d H',side.cps.toList[p]?=some d->Chg x H H'->Kp mg H' x (rn side p ⟨#[c]⟩) top->Q (.str ⟨#[d]⟩) H')
theorem o9:aD ["self","place","sign","gone"] ["self","place","sign"] (az lY):=⟨rfl,rfl,rfl,by trivial,rfl,by trivial,by trivial⟩
theorem mz (T:Txt K mg):HasM P w K mg base 59 "Kept" "change" ["self","place","sign"] (Hq mg):=by
 have bI:=bI (P:=P) (w:=w) (base:=base) T
 have iY:=iY (P:=P) (w:=w) (base:=base) T
 have bY:=bY (P:=P) (w:=w) (base:=base) T
 refine jN T.m_Kept_change o9 (fun _ _ _ _ _ _ us hl=>L2.pZ (fun _ _ _=>rfl) us hl) ?_ fun f cdv A outer s H vs Q E hr h=>?_
 ·rintro vs H Q E ⟨x,side,top,p,c,rfl,_⟩;rfl
 obtain ⟨x,side,top,p,c,rfl,⟨hs,ht,dx,b,v,⟨k,hx⟩,hR⟩,hc,hp,q0,q⟩:=h
 have hu:=hr.units0
 have hu64:=hr.units
 refine ⟨_,(aq (bh (u5 bI (hr.mono (by decide)) bc aG (aa (ak 1) (aa aB (aa (bf jj (aL (aK (K:=K) rfl) bc T.b_len bj (aa (aW (K:=K) rfl (ak 0)) ao) (by trivial) (by trivial)) aB) ao))) (by trivial))) (aq (bh (aO iY (hr.mono (by decide)) bc (aa (ak 2) ao) (by trivial))) (aq (bM (K:=K) rfl (ak 0) (aW (K:=K) rfl (ak 0))) (aq (bM (K:=K) rfl (ak 0) (aQ (ak 0) T.o_Kept bY (hr.mono (by decide)) aG (aa (aW (K:=K) rfl (ak 0)) (aa (ak 1) (aa (ak 2) ao))))) (aq (aH (i:=3) o9.nd rfl cG (bx (K:=K) rfl (aW (K:=K) rfl (ak 0)) (ak 1)) rfl) (aq (bM (K:=K) rfl (ak 0) (bf aN (bf aN (fO (fP (K:=K) rfl) (aW (K:=K) rfl (ak 0)) gb (fB (ak 1))) (ak 2)) (fO (fP (K:=K) rfl) (aW (K:=K) rfl (ak 0)) (fB (bf aN (ak 1) aB)) gb))) (aA (aJ (ak 3))))))))),?_⟩
 walk_at "s"
 have cl:=T.o_Kept.cl
 have na:=T.n_Kept
 have lz:side.length<=sizeLine:=Xv hs.1 (by decide)
 have l48:=hs.1
 have hz:20000<=sizeLine:=by decide
 have le:side.length=side.cps.size:=rfl
 have ll:side.cps.toList.length=side.cps.size:=Xx
 refine ⟨x,_,dx,_,_,rfl,hx,cl,na _ (by simp),rfl,?_⟩
 walk_at "s"
 refine cI lz ?_
 walk_at "s"
 refine ⟨_,_,_,rfl,.inl ⟨_,rfl⟩,fun hb=>?_,fun hb e H2 S2 X2=>q0 (by unfold inB at hb;simp at hb;omega) e H2 S2 X2⟩
 walk_at "s"
 have hp1:p < side.cps.size:=by unfold inB at hb;simp at hb;omega
 clear q0 hb
 obtain ⟨d,ec⟩:∃ d,side.cps.toList[p]?=some d:=⟨_,Xk (by omega)⟩
 replace q:=fun H'=>q d H' ec
 refine ⟨c,rfl,hc,?_⟩
 walk_at "s"
 refine ⟨x,_,dx,_,_,rfl,hx,cl,na _ (by simp),rfl,?_⟩
 walk_at "s"
 refine ⟨x,_,dx,_,rfl,hx,cl,na _ (by simp),by simp [cO],?_⟩
 walk_at "s"
 rw [pU]
 have hx2:=aj (H:=H) (a:=x) (o:=.ins (aM mg "Kept") dx (cO side top k k (kW v)))
 have C2:Chg x H (upd H x (.ins (aM mg "Kept") dx (cO side top k k (kW v)))):=Chg.upd
 have R2:=hR.kn (Kn.chg hx bW C2)
 generalize upd H x (.ins (aM mg "Kept") dx (cO side top k k (kW v)))=H2 at hx2 C2 R2 ⊢
 try walk_at "s"
 rcases R2 with ⟨e0,_⟩ | ⟨n,t,rfl,et,hN⟩
 ·rw [e0,Zb] at ll;omega
 have nw:(cO side top k k (kW (.ref n))).lookup (Str.ofString "with_change")=none:=aY (Bf _) (by trivial)
 have tm:=uq et hN
 have tt:=sG t
 refine ⟨x,dx,_,rfl,hx2,nw,?_⟩
 walk_at "s"
 refine ⟨x,_,dx,_,_,rfl,hx2,cl,na _ (by simp),rfl,?_⟩
 walk_at "s"
 refine ⟨x,dx,side,top,k,kW (.ref n),n,t,p,c,rfl,Bf _,⟨k,hx2⟩,ht,hc,hN,by omega,by omega,by omega,fun y H3 C3 K3 hy=>?_⟩
 walk_at "s"
 obtain ⟨k3,hx3⟩:=id K3
 refine ⟨x,_,dx,_,rfl,hx3,cl,na _ (by simp),by simp [cO],?_⟩
 walk_at "s"
 rw [pW]
 have hx4:=aj (H:=H3) (a:=x) (o:=.ins (aM mg "Kept") dx (cO side top k3 k (kW (.ref y))))
 have C4:Chg x H3 (upd H3 x (.ins (aM mg "Kept") dx (cO side top k3 k (kW (.ref y))))):=Chg.upd
 have N4:=hy.kn (Kn.chg hx3 bW C4)
 generalize upd H3 x (.ins (aM mg "Kept") dx (cO side top k3 k (kW (.ref y))))=H4 at hx4 C4 N4 ⊢
 try walk_at "s"
 refine ⟨x,_,dx,_,_,rfl,hx4,cl,na _ (by simp),rfl,?_⟩
 walk_at "s"
 refine zV lz (cH ec) ?_
 walk_at "s"
 refine ⟨x,_,dx,_,_,rfl,hx4,cl,na _ (by simp),rfl,?_⟩
 walk_at "s"
 refine ig lz ?_
 walk_at "s"
 refine jc (Xv (Ys (fj _ _ _) (Za (rT c))) (by omega)) ?_
 walk_at "s"
 refine ⟨x,_,dx,_,_,rfl,hx4,cl,na _ (by simp),rfl,?_⟩
 walk_at "s"
 refine ig lz ?_
 walk_at "s"
 refine jc (by rw [pX];exact Xv (Ys (Ys (fj _ _ _) (Za (rT c))) (fj _ _ _)) (by omega)) ?_
 walk_at "s"
 refine ⟨x,_,dx,_,rfl,hx4,cl,na _ (by simp),by simp [cO],?_⟩
 walk_at "s"
 rw [vf]
 try walk_at "s"
 exact q _ (((C2.trans C3).trans C4).trans Chg.upd) ⟨Bl hs hp1 (Za (rT c)) (fun e he=>by simp at he;rw [he];exact hc),ht,dx,k,.ref y,⟨k3,aj⟩,.inr ⟨y,_,rfl,by rw [sW,sO c t p (by omega),et];rfl,N4.kn (Kn.chg hx4 bW Chg.upd)⟩⟩
end
local macro_rules | `(tactic| walk_at "s") => `(tactic| (with_reducible repeat (first | refine ou ?_ | walk_at "6")))
local macro_rules | `(tactic| walk_at "n") => `(tactic| (with_reducible repeat (walk_at "6")))
section
variable {P:Program} {w:World} {K:W.Frag} {mg:Str->Option Value} {base:Heap}
theorem wQ:(["_law_k","_law_some","_law_start","_law_step"]:List Str).Nodup:=by trivial
theorem zx:(["_law_k","_law_signs_here"]:List Str).Nodup:=by trivial
def Ql (K:W.Frag):Sp:=fun vs H Q _=>∃ (a:Addr) (ns:List Int) (k:Nat),vs=[.ref a,.int k]/\SqL K H a (ns.map V.int)/\∀ n,Q (.int n) H
theorem Bp:aD ["_law_script","_law_k"] ["_law_script","_law_k"] (az qN):=⟨rfl,rfl,rfl,by trivial,rfl,by trivial,by trivial⟩
theorem j4 (T:Txt K mg):nQ P w K mg base 1 "_law_cell" ["_law_script","_law_k"] (Ql K):=by
 refine ir T.d_law_cell Bp (fun _ _ _ _ _ _ us hl=>L2.nP (fun _ _=>rfl) us hl) ?_ fun f cdv A outer s H vs Q E hr h=>?_
 ·rintro vs H Q E ⟨a,ns,k,rfl,_⟩;rfl
 obtain ⟨a,ns,k,rfl,hS,q⟩:=h
 have hu:=hr.units0
 have hu64:=hr.units
 refine ⟨_,(aq (bZ (bB rE (ak 1) (aL (aK (K:=K) rfl) bc T.b_len bj (aa (ak 0) ao) (by trivial) (by trivial)) (by walk_at "p")) (aA (aJ (bx (K:=K) rfl (ak 0) (ak 1)))) bJ) (aA (aJ aB))),?_⟩
 walk_at "s"
 refine gZ hS ?_
 walk_at "s"
 rw [Xu]
 refine uP (fun h=>?_) (fun h=>?_)
 ·have hk:k < ns.length:=by omega
  walk_at "s"
  refine bG hS (cH (show (ns.map V.int)[k]?=some (.int ns[k]) by rw [Xw,Xk hk];rfl)) ?_
  walk_at "s"
  exact q _
 ·walk_at "s"
  exact q _
def Fits (ms bs:List Int):Prop:=ms.length=bs.length/\∀ (i:Nat) (m b:Int),ms[i]?=some m->bs[i]?=some b->0<=m/\m < b
theorem Fits.push {ms bs:List Int} {k:Nat} {m b:Int} (h:Fits ms (bs.take k)) (hb:bs[k]?=some b) (h0:0<=m) (h1:m < b):Fits (ms ++ [m]) (bs.take (k+1)):=by
 have hk:k < bs.length:=(Xn.mp hb).1
 have hl:ms.length=k:=by rw [h.1,Yi];omega
 refine ⟨by simp;omega,fun i m' b' e1 e2=>?_⟩
 by_cases hi:i < k
 ·rw [X8 (by omega)] at e1
  rw [ZF (by omega)] at e2
  exact h.2 i m' b' e1 (by rw [ZF hi];exact e2)
 ·have hi2:i < k+1:=by have:=(Xn.mp e1).1;simp at this;omega
  obtain rfl:i=k:=by omega
  rw [X5 (by omega),hl,Nat.sub_self] at e1
  rw [ZF (by omega),hb] at e2
  cases e1;cases e2
  exact ⟨h0,h1⟩
def LK (K:W.Frag):Sp:=fun vs H Q _=>∃ (n:Int) (b:Addr) (bs:List Int),vs=[.int n,.ref b]/\H b=some (.lst (bs.map V.int))/\bs.length<=1000/\(∀ x∈bs,0 < x/\x < 1073741824)/\
 ∀ (q:Addr) (ms:List Int) (H':Hp),H q=none->Same H H'->H' q=some (.lst (ms.map V.int))->Fits ms bs->Q (.ref q) H'
theorem d9:aD ["_law_cell_here","_law_menus","_law_found","_law_left","_law_number","_law_k"] ["_law_cell_here","_law_menus"] (az oX):=⟨rfl,rfl,rfl,by trivial,rfl,by trivial,by trivial⟩
theorem bL (T:Txt K mg):nQ P w K mg base 1 "_law_drawn" ["_law_cell_here","_law_menus"] (LK K):=by
 refine ir T.d_law_drawn d9 (fun _ _ _ _ _ _ us hl=>L2.nP (fun _ _=>rfl) us hl) ?_ fun f cdv A outer s H vs Q E hr h=>?_
 ·rintro vs H Q E ⟨n,b,bs,rfl,_⟩;rfl
 obtain ⟨n,b,bs,rfl,hb,hlen,hbs,q⟩:=h
 have hu:=hr.units0
 have hu64:=hr.units
 refine ⟨_,(aq (aH (i:=2) d9.nd rfl cG (fM ao) rfl) (aq (aH (i:=3) d9.nd rfl cG (ak 0) rfl) (aq (aH (i:=4) d9.nd rfl cG (bf aN (bf sY (ak 0) aB) aB) rfl) (aq (je YB rfl (pB bc T.b_range (aa (aL (aK (K:=K) rfl) bc T.b_len bj (aa (ak 1) ao) (by trivial) (by trivial)) ao)) (aZ (i:=5) d9.nd rfl cG rfl) (aq (aH (i:=4) d9.nd rfl cG (bf sY (bf aN (bf aN (bf lg (ak 4) (ak 4)) (bf lg aB (ak 4))) (ak 5)) aB) rfl) (aq (aH (i:=4) d9.nd rfl cG (bf sY (bf aN (bf aN (bf lg (ak 4) aB) (bf lg aB (ak 5))) aB) aB) rfl) (aA (bZ (uA (Ju (bB xq (ak 0) (bf Ib aB aB) (by walk_at "p")) (Ea (bB vo (ak 3) aB (by walk_at "p"))))) (aq (bh (ie (K:=K) rfl Yb X6 X7 b7 (ak 2) (aa (bf sY (ak 3) (bx (K:=K) rfl (ak 1) (ak 5))) ao))) (aA (aH (i:=3) d9.nd rfl cG (bf v6 (ak 3) (bx (K:=K) rfl (ak 1) (ak 5))) rfl))) (aA (bh (ie (K:=K) rfl Yb X6 X7 b7 (ak 2) (aa (bf sY (bf v6 (ak 4) aB) (bx (K:=K) rfl (ak 1) (ak 5))) ao))))))))) (aA (aJ (ak 2))))))),?_⟩
 walk_at "s"
 have hs:20000<=sizeLine:=by decide
 refine fX rfl fun f H1 nf S1 hf=>?_
 walk_at "s"
 have hm0:=Zy n (show (2147483629:Int)≠0 by omega)
 have hm1:=Zk n (show (0:Int) < 2147483629 by omega)
 refine gZ (SqL.of (S1 _ _ hb)) ?_
 walk_at "s"
 rw [Xu]
 refine ⟨_,rfl,by omega,by omega,?_⟩
 rw [show ((bs.length:Int)).toNat=bs.length by omega]
 refine xn (n:=bs.length) (fun k U G=>∃ (l N:Int) (ms:List Int) (x5:Option V),U=[some (.int n),some (.ref b),some (.ref f),some (.int l),some (.int N),x5]/\0<=N/\N < 2147600000/\Same H G/\G f=some (.lst (ms.map V.int))/\Fits ms (bs.take k)) ⟨n,_,[],_,rfl,by omega,by omega,S1,hf,rfl,fun i m b e=>by simp at e⟩ ?_ ?_
 ·rintro k U G hk ⟨l,N,ms,x5,rfl,hN0,hN1,s,hfG,hF⟩
  rw [Int.zero_add]
  have hbb:=Xk hk
  obtain ⟨p0,p1⟩:=hbs bs[k] (YH hk)
  have hbV:(bs.map V.int)[k]?=some (.int bs[k]):=by rw [Xw,hbb];rfl
  have hml:ms.length<=1000:=by rw [hF.1,Yi];omega
  walk_at "s"
  obtain ⟨M,eM⟩:∃ M,(N*N+48271*N+(k:Int)) % 2147483647=M:=⟨_,rfl⟩
  have hM0:0<=M:=by rw [← eM];exact Zy _ (by omega)
  have hM1:M < 2147483647:=by rw [← eM];exact Zk _ (by omega)
  rw [eM]
  clear eM
  walk_at "s"
  obtain ⟨M2,eM2⟩:∃ M2,(M*69621+11*(k:Int)+5) % 2147483629=M2:=⟨_,rfl⟩
  have hM20:0<=M2:=by rw [← eM2];exact Zy _ (by omega)
  have hM21:M2 < 2147483629:=by rw [← eM2];exact Zk _ (by omega)
  rw [eM2]
  clear eM2
  have B1:∀ (m:Int) (x5:Option V) (l':Int),0<=m->m < bs[k]->∃ (l N:Int) (ms':List Int) (x5':Option V),[some (.int n),some (.ref b),some (.ref f),some (.int l'),some (.int M2),x5]=[some (.int n),some (.ref b),some (.ref f),some (.int l),some (.int N),x5']/\0<=N/\N < 2147600000/\Same H (upd G f (.lst (ms.map V.int ++ [V.int m])))/\upd G f (.lst (ms.map V.int ++ [V.int m])) f=some (.lst (ms'.map V.int))/\Fits ms' (bs.take (k+1)):=fun m x5 l' h0 h1=>
   ⟨l',M2,ms ++ [m],x5,rfl,hM20,by omega,Same.put s nf,by rw [XH];exact aj,hF.push hbb h0 h1⟩
  refine uP (fun h=>?_) (fun h=>?_)
  ·clear h
   walk_at "s"
   refine uP (fun h=>?_) (fun h=>?_)
   ·walk_at "s"
    refine ⟨.inl ⟨rfl,_,SqL.of hfG⟩,?_⟩
    walk_at "s"
    refine bG (SqL.of (s _ _ hb)) (cH hbV) ?_
    walk_at "s"
    refine cF hfG (by rw [Xu];omega) ?_
    walk_at "s"
    refine bG (SqL.of ((Same.put s nf) _ _ hb)) (cH hbV) ?_
    walk_at "s"
    exact B1 _ _ _ (Zy _ (by omega)) (Zk _ p0)
   ·walk_at "s"
    refine ⟨.inl ⟨rfl,_,SqL.of hfG⟩,?_⟩
    walk_at "s"
    refine bG (SqL.of (s _ _ hb)) (cH hbV) ?_
    walk_at "s"
    refine cF hfG (by rw [Xu];omega) ?_
    walk_at "s"
    exact B1 _ _ _ (Zy _ (by omega)) (Zk _ p0)
  ·clear h
   walk_at "s"
   refine ⟨.inl ⟨rfl,_,SqL.of hfG⟩,?_⟩
   walk_at "s"
   refine bG (SqL.of (s _ _ hb)) (cH hbV) ?_
   walk_at "s"
   refine cF hfG (by rw [Xu];omega) ?_
   walk_at "s"
   exact B1 _ _ _ (Zy _ (by omega)) (Zk _ p0)
 ·rintro U G ⟨l,N,ms,x5,rfl,_,_,s,hfG,hF⟩
  walk_at "s"
  rw [Y0] at hF
  exact q f ms G nf s hfG hF
theorem QV {ms:List Int} {x y z:Int} (h:Fits ms [x,y,z]):∃ a b c:Nat,ms=[(a:Int),(b:Int),(c:Int)]/\(a:Int) < x/\(b:Int) < y/\(c:Int) < z:=by
 obtain ⟨hl,h⟩:=h
 match ms,hl with
 | [a,b,c],_=>
  have h0:=h 0 a x rfl rfl
  have h1:=h 1 b y rfl rfl
  have h2:=h 2 c z rfl rfl
  refine ⟨a.toNat,b.toNat,c.toNat,?_,by omega,by omega,by omega⟩
  rw [Yy h0.1,Yy h1.1,Yy h2.1]
def SIGNS:Str:=Str.ofString "abcdefghijklmnopqrstuvwxyz."
theorem Dm {i:Nat} (h:i < 27):∃ c,SIGNS.cps.toList[i]?=some c/\c∈GOOD:=by
 have hl:SIGNS.cps.toList.length=27:=by trivial
 have ha:∀ c∈SIGNS.cps.toList,c∈GOOD:=by trivial
 exact ⟨_,Xk (by omega),ha _ (YH (by omega))⟩
def LQ (K:W.Frag):Sp:=fun vs H Q _=>∃ n:Int,vs=[.int n]/\∀ (q:Addr) (ys:List Str) (H':Hp),H q=none->Same H H'->H' q=some (.lst (ys.map V.str))->ys≠[]->ys.length<=27->GoodS ys->Q (.ref q) H'
theorem gf:aD ["_law_cell_here","_law_some","_law_start","_law_step","_law_many"] ["_law_cell_here"] (az lH):=⟨rfl,rfl,rfl,by trivial,rfl,by trivial,by trivial⟩
theorem ph (T:Txt K mg):nQ P w K mg base 2 "_law_signs" ["_law_cell_here"] (LQ K):=by
 have bL:=bL (P:=P) (w:=w) (base:=base) T
 refine ir T.d_law_signs gf (fun _ _ _ _ _ _ us hl=>L2.nY (fun _=>rfl) us hl) ?_ fun f cdv A outer s H vs Q E hr h=>?_
 ·rintro vs H Q E ⟨n,rfl,_⟩;rfl
 obtain ⟨n,rfl,q⟩:=h
 have hu:=hr.units0
 have hu64:=hr.units
 refine ⟨_,(aq (aH (i:=1) gf.nd rfl Xi xP rfl) (aq (Ec (aO bL (hr.mono (by decide)) bc (aa (ak 0) (aa (fM (aa aB (aa aB (aa aB ao)))) ao)) (by trivial)) (Eb (K:=K) rfl rfl (aX (aZ (i:=2) gf.nd rfl Xi rfl) (aX (aZ (i:=3) gf.nd rfl Xi rfl) (aX (aZ (i:=4) gf.nd rfl cG rfl) iz))))) (aq (aH (i:=4) gf.nd rfl cG (bx (K:=K) rfl (fM (aa aB (aa aB (aa aB (aa aB (aa aB (aa aB ao))))))) (ak 4)) rfl) (aA (aJ (qu (sub:=[none,some 1,some 2,some 3]) (jB (N:=["_law_cell_here","_law_some","_law_start","_law_step","_law_many"]) (sc:=az lH) (N':=["_law_k","_law_some","_law_start","_law_step"]) (by trivial)) rfl rfl rfl (pB bc T.b_range (aa (ak 4) ao)) (fun C s₀ H₀ ex=>(zW 0 (by trivial) wQ)) (fun C s₀ H₀ ex=>lB) (fun C s₀ H₀ ex=>(bx (K:=K) rfl (xO 1 (by trivial)) (bf sY (bf aN (xO 2 (by trivial)) (bf lg (bf aN (xO 3 (by trivial)) aB) (vO 0 (by trivial)))) aB))))))))),?_⟩
 walk_at "s"
 have hs:20000<=sizeLine:=by decide
 refine fX rfl fun b H1 nb S1 hb=>?_
 walk_at "s"
 refine ⟨n,b,[27,26,6],rfl,hb,by decide,by decide,fun r ms H2 nr S2 hr2 hF=>?_⟩
 walk_at "s"
 obtain ⟨u,v,m,rfl,b1,b2,b3⟩:=QV hF
 refine ⟨r,[.int u,.int v,.int m],rfl,.inr (SqL.of hr2),rfl,?_⟩
 walk_at "s"
 refine fX rfl fun p H3 np S3 hp=>?_
 walk_at "s"
 obtain ⟨e,ee,e1,e2⟩:∃ e:Nat,([1,2,2,3,4,27]:List Nat)[m]?=some e/\1<=e/\e<=27:=by
  have hb:∀ e∈([1,2,2,3,4,27]:List Nat),1<=e/\e<=27:=by decide
  have hm:m < ([1,2,2,3,4,27]:List Nat).length:=by show m < 6;omega
  exact ⟨_,Xk hm,hb _ (YH hm)⟩
 refine bG (SqL.of hp) (cH (show ((([1,2,2,3,4,27]:List Nat).map fun e:Nat=>V.int (e:Int)))[m]?=some (.int (e:Int)) by rw [Xw,ee];rfl)) ?_
 walk_at "s"
 refine ⟨_,rfl,by omega,by omega,?_⟩
 rw [show ((e:Int)).toNat=e by omega]
 refine G5 (n:=e) (fun i ys G=>G=H3/\∃ zs:List Str,ys=zs.map V.str/\zs.length=i/\GoodS zs) (by omega) ⟨rfl,[],rfl,rfl,fun y hy=>by cases hy⟩ ?_ ?_ ?_
 ·rintro i ys G ⟨_,zs,rfl,hl,_⟩
  rw [Xu];omega
 ·rintro i ys G hi ⟨rfl,zs,rfl,hl,hg⟩
  rw [Int.zero_add]
  walk_at "s"
  refine ⟨KeepSt.set rfl,?_⟩
  walk_at "s"
  have g0:(0:Int)<=((u:Int)+((v:Int)+1)*(i:Int)) % 27:=Zy _ (by omega)
  have g1:=Zk ((u:Int)+((v:Int)+1)*(i:Int)) (show (0:Int) < 27 by omega)
  generalize ((u:Int)+((v:Int)+1)*(i:Int)) % 27=g at g0 g1 ⊢
  obtain ⟨g,rfl⟩:∃ k:Nat,g=(k:Int):=⟨g.toNat,(Yy g0).symm⟩
  obtain ⟨c,ec,hc⟩:=Dm (i:=g) (by omega)
  refine zV (by trivial) (cH ec) ⟨rfl,zs ++ [⟨#[c]⟩],by rw [XH];rfl,by simp [hl],fun y hy=>?_⟩
  rcases Yz.mp hy with h1 | h1
  ·exact hg y h1
  ·exact ⟨c,Yn.mp h1,hc⟩
 ·rintro ys G D H4 ⟨eG,zs,rfl,hl,hg⟩ nD S4 hD
  have S13:Same H G:=by rw [eG];exact S1.trans (S2.trans ‹Same H2 H3›)
  exact q D zs H4 (Same.back S13 nD) (S13.trans S4) hD (fun z=>by rw [z] at hl;simp at hl;omega) (by omega) hg
theorem yf {ms:List Int} {x y z L:Int} {n:Nat} (h:Fits ms ([x,y,z] ++ List.replicate n L)):ms.length=n+3/\∀ (i:Nat) (m:Int),(ms.drop 3)[i]?=some m->∃ k:Nat,m=(k:Int)/\(k:Int) < L:=by
 have hl:=h.1
 simp at hl
 refine ⟨by omega,fun i m e=>?_⟩
 rw [List.getElem?_drop] at e
 have hi:=(Xn.mp e).1
 obtain ⟨h0,h1⟩:=h.2 (3+i) m L e (by rw [X5 (by simp),List.getElem?_replicate];simp;omega)
 exact ⟨m.toNat,(Yy h0).symm,by rw [Yy h0];exact h1⟩
theorem Fo (n:Nat) (v:V):(List.replicate n [v]).flatten=List.replicate n v:=by
 induction n with
 | zero=>rfl
 | succ n ih=>rw [YF,Y4,ih,YF];rfl
def Uy (K:W.Frag):Sp:=fun vs H Q _=>∃ (n:Int) (a:Addr) (ys:List Str) (most:Nat),vs=[.int n,.ref a,.int (most:Int)]/\H a=some (.lst (ys.map V.str))/\ys≠[]/\ys.length<=27/\GoodS ys/\most<=48/\∀ (z:Str) (H':Hp),Same H H'->Row z->Q (.str z) H'
theorem j5:aD ["_law_cell_here","_law_signs_here","_law_most","_law_heads","_law_size","_law_draws"] ["_law_cell_here","_law_signs_here","_law_most"] (az pN):=⟨rfl,rfl,rfl,by trivial,rfl,by trivial,by trivial⟩
theorem jy (T:Txt K mg):nQ P w K mg base 2 "_law_row" ["_law_cell_here","_law_signs_here","_law_most"] (Uy K):=by
 have bL:=bL (P:=P) (w:=w) (base:=base) T
 refine ir T.d_law_row j5 (fun _ _ _ _ _ _ us hl=>L2.pZ (fun _ _ _=>rfl) us hl) ?_ fun f cdv A outer s H vs Q E hr h=>?_
 ·rintro vs H Q E ⟨n,a,ys,most,rfl,_⟩;rfl
 obtain ⟨n,a,ys,most,rfl,ha,hne,hl,hg,hm,q⟩:=h
 have hu:=hr.units0
 have hu64:=hr.units
 refine ⟨_,(aq (aH (i:=3) j5.nd rfl cG (aO bL (hr.mono (by decide)) bc (aa (ak 0) (aa (fM (aa aB (aa aB (aa (bf aN (ak 2) aB) ao)))) ao)) (by trivial)) rfl) (aq (aH (i:=4) j5.nd rfl cG (aL (G6 rfl) bc T.b_min SJ (aa (bx (K:=K) rfl (ak 3) aB) (aa (ak 2) ao)) (by trivial) (by trivial)) rfl) (aq (bZ (bB (jl (K:=K) rfl hu64) (bx (K:=K) rfl (ak 3) aB) aB (by walk_at "p")) (aA (aH (i:=4) j5.nd rfl cG (bx (K:=K) rfl (ak 3) aB) rfl)) bJ) (aq (aH (i:=5) j5.nd rfl cG (aO bL (hr.mono (by decide)) bc (aa (ak 0) (aa (bf aN (fM (aa aB (aa aB (aa (bf aN (ak 2) aB) ao)))) (bf lg (fM (aa (aL (aK (K:=K) rfl) bc T.b_len bj (aa (El 1) ao) (by trivial) (by trivial)) ao)) (ak 4))) ao)) (by trivial)) rfl) (aA (aJ (ie (K:=K) rfl PySem.F.plainAttrs_str PySem.F.slot_str_join PySem.F.type_str_join DX xP (aa (qu (sub:=[none,some 1]) (jB (N:=["_law_cell_here","_law_signs_here","_law_most","_law_heads","_law_size","_law_draws"]) (sc:=az pN) (N':=["_law_k","_law_signs_here"]) (by trivial)) rfl rfl rfl (qt (K:=K) rfl (fO (fP (K:=K) rfl) (ak 5) (fB aB) gb)) (fun C s₀ H₀ ex=>(zW 0 (by trivial) zx)) (fun C s₀ H₀ ex=>lB) (fun C s₀ H₀ ex=>(bx (K:=K) rfl (xO 1 (by trivial)) (vO 0 (by trivial))))) ao)))))))),?_⟩
 walk_at "s"
 have hs:20000<=sizeLine:=by decide
 have hy1:0 < ys.length:=by
  cases ys with
  | nil=>exact absurd rfl hne
  | cons a b=>simp
 refine fX rfl fun b H1 nb S1 hb=>?_
 walk_at "s"
 refine ⟨n,b,[8,9,(most:Int)+1],rfl,hb,by show 3<=1000;decide,by intro x hx;simp at hx;omega,fun r ms H2 nr S2 hr2 hF=>?_⟩
 walk_at "s"
 obtain ⟨u,v,m,rfl,b1,b2,b3⟩:=QV hF
 replace hr2:H2 r=some (.lst [.int u,.int v,.int m]):=hr2
 have U2:=S1.trans S2
 have ha2:=U2 _ _ ha
 try walk_at "s"
 rw [show (if (most:Int) < (v:Int) then (most:Int) else (v:Int))=((if most < v then most else v:Nat):Int) by split <;> split <;> omega]
 obtain ⟨sz,esz,hsz⟩:∃ sz:Nat,(if most < v then most else v)=sz/\sz<=48:=⟨_,rfl,by split <;> omega⟩
 rw [esz]
 clear esz
 walk_at "s"
 cases hd:decide (V.int (u:Int)=V.int 7) with
 | true=>
  walk_at "s"
  refine fX rfl fun b2 H3 nb2 S3 hb2=>?_
  walk_at "s"
  refine gZ (SqL.of (S3 _ _ ha2)) ?_
  walk_at "s"
  rw [Xu]
  refine fX rfl fun b3 H4 nb3 S4 hb3=>?_
  walk_at "s"
  refine yF hb3 (by omega) (by omega) (Xv (show [V.int (ys.length:Int)].length*((m:Int)).toNat<=1000 by simp;omega) (by decide)) fun b4 nb4=>?_
  walk_at "s"
  rw [show ((m:Int)).toNat=m by omega,Fo]
  have S5:=(Same.refl H4).upd nb4 (o:=.lst (List.replicate m (V.int (ys.length:Int))))
  have hb4:=aj (H:=H4) (a:=b4) (o:=.lst (List.replicate m (V.int (ys.length:Int))))
  generalize upd H4 b4 (.lst (List.replicate m (V.int (ys.length:Int))))=H5 at S5 hb4 ⊢
  have S45:=S4.trans S5
  walk_at "s"
  refine yz (S45 _ _ hb2) hb4 (by simp;omega) fun b6 nb6=>?_
  walk_at "s"
  have e6:([.int 8,.int 9,.int ((most:Int)+1)] ++ List.replicate m (V.int (ys.length:Int)):List V)=(([8,9,(most:Int)+1] ++ List.replicate m (ys.length:Int)):List Int).map V.int:=by rw [XH,List.map_replicate];rfl
  rw [e6]
  have S6:=(Same.refl H5).upd nb6 (o:=.lst ((([8,9,(most:Int)+1] ++ List.replicate m (ys.length:Int)):List Int).map V.int))
  have hb6:=aj (H:=H5) (a:=b6) (o:=.lst ((([8,9,(most:Int)+1] ++ List.replicate m (ys.length:Int)):List Int).map V.int))
  generalize upd H5 b6 (.lst ((([8,9,(most:Int)+1] ++ List.replicate m (ys.length:Int)):List Int).map V.int))=H6 at S6 hb6 ⊢
  have U6:=S3.trans (S45.trans S6)
  walk_at "s"
  refine ⟨n,b6,_,rfl,hb6,by simp;omega,by intro x hx;simp at hx;omega,fun d ds H7 nd S7 hd7 hF7=>?_⟩
  walk_at "s"
  obtain ⟨fl,fd⟩:=yf hF7
  have ha7:=S7 _ _ (U6 _ _ ha2)
  refine ⟨rfl,?_⟩
  walk_at "s"
  refine Kl hd7 fun p8 H8 np8 S8 hp8=>?_
  walk_at "s"
  rw [show ((3:Int))=((3:Nat):Int) from rfl,wg,← List.map_drop] at hp8
  refine .inl ⟨p8,rfl,⟨_,SqL.of hp8⟩,?_⟩
  refine qy (xs:=(ds.drop 3).map V.int) (fun i us G=>G=H8/\∃ zs:List Str,us=zs.map V.str/\zs.length=i/\GoodS zs) (by rw [Xu,Ye];omega) ⟨rfl,[],rfl,rfl,fun y hy=>by cases hy⟩ ?_ ?_ ?_ ?_
  ·rintro i us G ⟨_,zs,rfl,hl8,_⟩
   rw [Xu];omega
  ·rintro i us G ⟨rfl,_⟩
   exact SqL.of hp8
  ·rintro i us G x hx ⟨rfl,zs,rfl,hl8,hg8⟩
   rw [Xw] at hx
   obtain ⟨mm,em,rfl⟩:=ZS.mp hx
   obtain ⟨kk,rfl,hk⟩:=fd i mm em
   have hk':kk < ys.length:=by omega
   walk_at "s"
   refine ⟨KeepSt.set rfl,?_⟩
   walk_at "s"
   refine bG (SqL.of (S8 _ _ ha7)) (cH (show (ys.map V.str)[kk]?=some (.str ys[kk]) by rw [Xw,Xk hk'];rfl)) ?_
   walk_at "s"
   refine ⟨rfl,zs ++ [ys[kk]],by rw [XH];rfl,by simp [hl8],fun y hy=>?_⟩
   rcases Yz.mp hy with h1 | h1
   ·exact hg8 y h1
   ·rw [Yn.mp h1];exact hg _ (YH hk')
  rintro us G D H9 ⟨eG,zs,rfl,hl9,hg9⟩ nD S9 hD
  try walk_at "s"
  have hz9:zs.length<=48:=by rw [hl9,Xu,Ye];omega
  have S89:Same H8 H9:=by rw [eG] at S9;exact S9
  refine Cj hD (by rw [vM hg9.ones];show zs.length+zs.length*0<=_;omega) ?_
  walk_at "s"
  exact q _ H9 (U2.trans (U6.trans (S7.trans (S8.trans S89)))) (La hg9 hz9)
 | false=>
  walk_at "s"
  refine fX rfl fun b2 H3 nb2 S3 hb2=>?_
  walk_at "s"
  refine gZ (SqL.of (S3 _ _ ha2)) ?_
  walk_at "s"
  rw [Xu]
  refine fX rfl fun b3 H4 nb3 S4 hb3=>?_
  walk_at "s"
  refine yF hb3 (by omega) (by omega) (Xv (show [V.int (ys.length:Int)].length*((sz:Int)).toNat<=1000 by simp;omega) (by decide)) fun b4 nb4=>?_
  walk_at "s"
  rw [show ((sz:Int)).toNat=sz by omega,Fo]
  have S5:=(Same.refl H4).upd nb4 (o:=.lst (List.replicate sz (V.int (ys.length:Int))))
  have hb4:=aj (H:=H4) (a:=b4) (o:=.lst (List.replicate sz (V.int (ys.length:Int))))
  generalize upd H4 b4 (.lst (List.replicate sz (V.int (ys.length:Int))))=H5 at S5 hb4 ⊢
  have S45:=S4.trans S5
  walk_at "s"
  refine yz (S45 _ _ hb2) hb4 (by simp;omega) fun b6 nb6=>?_
  walk_at "s"
  have e6:([.int 8,.int 9,.int ((most:Int)+1)] ++ List.replicate sz (V.int (ys.length:Int)):List V)=(([8,9,(most:Int)+1] ++ List.replicate sz (ys.length:Int)):List Int).map V.int:=by rw [XH,List.map_replicate];rfl
  rw [e6]
  have S6:=(Same.refl H5).upd nb6 (o:=.lst ((([8,9,(most:Int)+1] ++ List.replicate sz (ys.length:Int)):List Int).map V.int))
  have hb6:=aj (H:=H5) (a:=b6) (o:=.lst ((([8,9,(most:Int)+1] ++ List.replicate sz (ys.length:Int)):List Int).map V.int))
  generalize upd H5 b6 (.lst ((([8,9,(most:Int)+1] ++ List.replicate sz (ys.length:Int)):List Int).map V.int))=H6 at S6 hb6 ⊢
  have U6:=S3.trans (S45.trans S6)
  walk_at "s"
  refine ⟨n,b6,_,rfl,hb6,by simp;omega,by intro x hx;simp at hx;omega,fun d ds H7 nd S7 hd7 hF7=>?_⟩
  walk_at "s"
  obtain ⟨fl,fd⟩:=yf hF7
  have ha7:=S7 _ _ (U6 _ _ ha2)
  refine ⟨rfl,?_⟩
  walk_at "s"
  refine Kl hd7 fun p8 H8 np8 S8 hp8=>?_
  walk_at "s"
  rw [show ((3:Int))=((3:Nat):Int) from rfl,wg,← List.map_drop] at hp8
  refine .inl ⟨p8,rfl,⟨_,SqL.of hp8⟩,?_⟩
  refine qy (xs:=(ds.drop 3).map V.int) (fun i us G=>G=H8/\∃ zs:List Str,us=zs.map V.str/\zs.length=i/\GoodS zs) (by rw [Xu,Ye];omega) ⟨rfl,[],rfl,rfl,fun y hy=>by cases hy⟩ ?_ ?_ ?_ ?_
  ·rintro i us G ⟨_,zs,rfl,hl8,_⟩
   rw [Xu];omega
  ·rintro i us G ⟨rfl,_⟩
   exact SqL.of hp8
  ·rintro i us G x hx ⟨rfl,zs,rfl,hl8,hg8⟩
   rw [Xw] at hx
   obtain ⟨mm,em,rfl⟩:=ZS.mp hx
   obtain ⟨kk,rfl,hk⟩:=fd i mm em
   have hk':kk < ys.length:=by omega
   walk_at "s"
   refine ⟨KeepSt.set rfl,?_⟩
   walk_at "s"
   refine bG (SqL.of (S8 _ _ ha7)) (cH (show (ys.map V.str)[kk]?=some (.str ys[kk]) by rw [Xw,Xk hk'];rfl)) ?_
   walk_at "s"
   refine ⟨rfl,zs ++ [ys[kk]],by rw [XH];rfl,by simp [hl8],fun y hy=>?_⟩
   rcases Yz.mp hy with h1 | h1
   ·exact hg8 y h1
   ·rw [Yn.mp h1];exact hg _ (YH hk')
  rintro us G D H9 ⟨eG,zs,rfl,hl9,hg9⟩ nD S9 hD
  try walk_at "s"
  have hz9:zs.length<=48:=by rw [hl9,Xu,Ye];omega
  have S89:Same H8 H9:=by rw [eG] at S9;exact S9
  refine Cj hD (by rw [vM hg9.ones];show zs.length+zs.length*0<=_;omega) ?_
  walk_at "s"
  exact q _ H9 (U2.trans (U6.trans (S7.trans (S8.trans S89)))) (La hg9 hz9)
end
local macro_rules | `(tactic| walk_at "s") => `(tactic| (with_reducible repeat (first | refine ou ?_ | walk_at "7")))
local macro_rules | `(tactic| walk_at "n") => `(tactic| (with_reducible repeat (walk_at "7")))
section
variable {P:Program} {w:World} {K:W.Frag} {mg:Str->Option Value} {base:Heap}
theorem kz00:U7 pO "e":=by trivial
theorem kz01:U7 pP "e":=by trivial
def Tw2 (x r:Addr) (H H':Hp):Prop:=∀ b o,b≠x->b≠r->H b=some o->H' b=some o
theorem Tw2.of_same {x r:Addr} {H H':Hp} (s:Same H H'):Tw2 x r H H':=fun b o _ _ e=>s b o e
theorem Tw2.trans {x r:Addr} {H H1 H2:Hp} (a:Tw2 x r H H1) (b:Tw2 x r H1 H2):Tw2 x r H H2:=fun c o n1 n2 e=>b c o n1 n2 (a c o n1 n2 e)
theorem Tw2.chg {x r:Addr} {H H':Hp} (c:Chg x H H'):Tw2 x r H H':=fun b o n _ e=>c b o n e
theorem Tw2.put {x r:Addr} {H:Hp} {o:HO}:Tw2 x r H (upd H r o):=fun b u _ n e=>by rw [aC n];exact e
theorem uM {a b:Str}:¬ NO (.lst [.str a,.str b]):=by
 rintro (⟨_,_,_,_,_,_,_,e⟩ | ⟨L,e⟩ | ⟨_,e⟩)
 ·cases e
 ·unfold nI at e
  rw [List.map_map] at e
  match L,e with
  | [],e=>cases e
  | a :: L,e=>cases e
 ·cases e
theorem Kp.row {H:Hp} {x:Addr} {side top:Str} (h:Kp mg H x side top):Row side/\Row top:=⟨h.1,h.2.1⟩
theorem Kp.ne {H:Hp} {x r:Addr} {side top:Str} {us:List V} (h:Kp mg H x side top) (hr:H r=some (.lst us)):r≠x:=by
 obtain ⟨_,_,dx,b,v,⟨k,hx⟩,_⟩:=h
 intro z;rw [z,hx] at hr;cases hr
theorem Kp.same {H H':Hp} {x:Addr} {side top:Str} (h:Kp mg H x side top) (s:Same H H'):Kp mg H' x side top:=by
 obtain ⟨hs,ht,dx,b,v,hK,hR⟩:=h
 exact ⟨hs,ht,dx,b,v,hK.same s,hR.kn (Kn.same s)⟩
theorem Kp.put {H:Hp} {x r:Addr} {side top:Str} {a b:Str} {o:HO} (h:Kp mg H x side top) (hr:H r=some (.lst [.str a,.str b])):Kp mg (upd H r o) x side top:=by
 have ne:=h.ne hr
 obtain ⟨hs,ht,dx,b,v,⟨k,hx⟩,hR⟩:=h
 exact ⟨hs,ht,dx,b,v,⟨k,by rw [aC (Ne.symm ne)];exact hx⟩,hR.kn (Kn.chg hr uM Chg.upd)⟩
theorem Kp.two {H H':Hp} {x r y:Addr} {side top side' top' a b:Str} (h:Kp mg H y side top) (hx:Kp mg H x side' top') (hr:H r=some (.lst [.str a,.str b])) (ne:y≠x) (t:Tw2 x r H H'):Kp mg H' y side top:=by
 have ner:=h.ne hr
 obtain ⟨_,_,dx',b',v',⟨k',hx'⟩,_⟩:=hx
 obtain ⟨hs,ht,dx,b,v,⟨k,hy⟩,hR⟩:=h
 refine ⟨hs,ht,dx,b,v,⟨k,t _ _ ne (Ne.symm ner) hy⟩,hR.kn fun c o n e=>t c o (fun z=>?_) (fun z=>?_) e⟩
 ·rw [z,hx'] at e;cases e;exact bW n
 ·rw [z,hr] at e;cases e;exact uM n
def Pr (mg:Str->Option Value) (H:Hp) (x r:Addr) (side top:Str):Prop:=Kp mg H x side top/\H r=some (.lst [.str side,.str top])
theorem Pr.same {H H':Hp} {x r:Addr} {side top:Str} (h:Pr mg H x r side top) (s:Same H H'):Pr mg H' x r side top:=⟨h.1.same s,s _ _ h.2⟩
def Uz (mg:Str->Option Value):Sp:=fun vs H Q _=>∃ (x r:Addr) (side top:Str) (p c:Nat),vs=[.ref x,.ref r,.int (p:Int),.str ⟨#[c]⟩]/\Pr mg H x r side top/\p<=side.cps.size/\c∈GOOD/\∀ side' H',Tw2 x r H H'->Pr mg H' x r side' top->Q (.bl true) H'
theorem nJ:aD ["_law_kept","_law_rows","_law_place","_law_sign","_law_side","_law_told","e"] ["_law_kept","_law_rows","_law_place","_law_sign"] (az pO):=⟨rfl,rfl,rfl,by trivial,rfl,by trivial,by trivial⟩
theorem ur (T:Txt K mg):nQ P w K mg base 62 "_law_put" ["_law_kept","_law_rows","_law_place","_law_sign"] (Uz mg):=by
 have rB:=rB (P:=P) (w:=w) (base:=base) T
 refine ir T.d_law_put nJ (fun _ _ _ _ _ _ us hl=>L2.yg (fun _ _ _ _=>rfl) us hl) ?_ fun f cdv A outer s H vs Q E hr h=>?_
 ·rintro vs H Q E ⟨x,r,side,top,p,c,rfl,_⟩;rfl
 obtain ⟨x,r,side,top,p,c,rfl,⟨hP,hr2⟩,hp,hc,q⟩:=h
 have hu:=hr.units0
 have hu64:=hr.units
 refine ⟨_,(aq (aH (i:=4) nJ.nd rfl cG (bx (K:=K) rfl (ak 1) aB) rfl) (aq (J6 rfl rfl (fun pins R=>(aA (aH (i:=5) nJ.nd rfl cG (v9 (mg:=mg) rfl (ak 0) T.o_Kept rB (hr.mono (by decide)) vW (aa (ak 2) (aa (ak 3) ao))) rfl))) (Qz (K:=K) (i:=6) rfl T.x_TooLong.c bc (by trivial) nJ.nd rfl kz00 (fun x=>(aA (aJ (oE (lA (jl (K:=K) rfl hu64) (aL (aK (K:=K) rfl) bc T.b_len bj (aa (ak 4) ao) (by trivial) (by trivial)) aB (by walk_at "p")) (rU (lA (jl (K:=K) rfl hu64) (J3 (K:=K) rfl (ak 6)) aB (by walk_at "p"))))))) J5)) (aq (jd (ts:=uw) (bf aN (bf aN (fO (fP (K:=K) rfl) (ak 4) gb (fB (ak 2))) (ak 3)) (fO (fP (K:=K) rfl) (ak 4) (fB (ak 2)) gb)) (jV (ak 1) aB set_list)) (aA (aJ (oE (lA rE (aL (aK (K:=K) rfl) bc T.b_len bj (aa (ak 4) ao) (by trivial) (by trivial)) aB (by walk_at "p")) (rU (lA vY (ak 5) vP (by walk_at "p"))))))))),?_⟩
 walk_at "s"
 have hz:20000<=sizeLine:=by decide
 have rs:=hP.row.1
 have lz:side.length<=sizeLine:=Xv rs.1 (by decide)
 have l48:=rs.1
 have le:side.length=side.cps.size:=rfl
 have nr:=hP.ne hr2
 walk_at "s"
 obtain ⟨_,_,dx,b,v,⟨k,hx⟩,_⟩:=id hP
 refine ⟨x,dx,_,rfl,hx,aY (Bf _) (by trivial),?_⟩
 walk_at "s"
 refine ⟨x,side,top,p,c,rfl,hP,hp,hc,?_,?_⟩
 ·intro h48 e H2 S2 X2
  refine ⟨_,e,rfl,rfl,?_⟩
  refine J7 T.x_TooLong.c.cl.cls T.u_TooLong_TooLong.mro ?_
  walk_at "s"
  refine cI lz ?_
  walk_at "s"
  rw [Xq (show V.int (side.length:Int)=V.int 48 by rw [le,h48];rfl)]
  walk_at "s"
  refine ⟨e,_,_,_,rfl,X2,T.x_TooLong.c.cl.cls,T.x_TooLong.na _ (by simp),rfl,?_⟩
  walk_at "s"
  try rw [Xq (rfl:V.int 49=V.int 49)]
  try walk_at "s"
  exact q side H2 (Tw2.of_same S2) ⟨hP.same S2,S2 _ _ hr2⟩
 ·intro h48 H2 C2 hP2
  have hr3:=C2 _ _ nr hr2
  try walk_at "s"
  refine ig lz ?_
  walk_at "s"
  refine jc (Xv (Ys (fj _ _ _) (Za (rT c))) (by omega)) ?_
  walk_at "s"
  refine ig lz ?_
  walk_at "s"
  refine jc (by rw [pX];exact Xv (Ys (Ys (fj _ _ _) (Za (rT c))) (fj _ _ _)) (by omega)) ?_
  walk_at "s"
  have T4:=(Tw2.chg (r:=r) C2).trans (Tw2.put (x:=x) (r:=r) (H:=H2) (o:=.lst [.str (Dk side p ⟨#[c]⟩),.str top]))
  have hP4:=hP2.put (o:=.lst [.str (Dk side p ⟨#[c]⟩),.str top]) hr3
  have hr4:=aj (H:=H2) (a:=r) (o:=.lst [.str (Dk side p ⟨#[c]⟩),.str top])
  refine cI lz ?_
  walk_at "s"
  rw [Xq (show (side.length:Int) < 48 by omega)]
  walk_at "s"
  try rw [Xq (rfl:V.non=V.non)]
  exact q _ _ T4 ⟨hP4,hr4⟩
def UG (mg:Str->Option Value):Sp:=fun vs H Q _=>∃ (x r:Addr) (side top mid:Str) (p:Nat),vs=[.ref x,.ref r,.int (p:Int),.str mid]/\Pr mg H x r side top/\p<=side.cps.size/\(mid=⟨#[]⟩\/∃ c∈GOOD,mid=⟨#[c]⟩)/\∀ side' H',Tw2 x r H H'->Pr mg H' x r side' top->Q (.bl true) H'
theorem j6:aD ["_law_kept","_law_rows","_law_place","_law_sign","_law_side","_law_told","e"] ["_law_kept","_law_rows","_law_place","_law_sign"] (az pP):=⟨rfl,rfl,rfl,by trivial,rfl,by trivial,by trivial⟩
theorem pY (T:Txt K mg):nQ P w K mg base 62 "_law_out" ["_law_kept","_law_rows","_law_place","_law_sign"] (UG mg):=by
 have o8:=o8 (P:=P) (w:=w) (base:=base) T
 have mz:=mz (P:=P) (w:=w) (base:=base) T
 refine ir T.d_law_out j6 (fun _ _ _ _ _ _ us hl=>L2.yg (fun _ _ _ _=>rfl) us hl) ?_ fun f cdv A outer s H vs Q E hr h=>?_
 ·rintro vs H Q E ⟨x,r,side,top,mid,p,rfl,_⟩;rfl
 obtain ⟨x,r,side,top,mid,p,rfl,⟨hP,hr2⟩,hp,hc,q⟩:=h
 have hu:=hr.units0
 have hu64:=hr.units
 refine ⟨_,(aq (aH (i:=4) j6.nd rfl cG (bx (K:=K) rfl (ak 1) aB) rfl) (aq (J6 rfl rfl (fun pins R=>(aA (bZ (bB (jl (K:=K) rfl hu64) (ak 3) xP (by walk_at "p")) (aA (aH (i:=5) j6.nd rfl cG (v9 (mg:=mg) rfl (ak 0) T.o_Kept o8 (hr.mono (by decide)) vW (aa (ak 2) ao)) rfl)) (aA (aH (i:=5) j6.nd rfl cG (v9 (mg:=mg) rfl (ak 0) T.o_Kept mz (hr.mono (by decide)) vW (aa (ak 2) (aa (ak 3) ao))) rfl))))) (Qz (K:=K) (i:=6) rfl T.x_NoPlace.c bc (by trivial) j6.nd rfl kz01 (fun x=>(aA (aJ (oE (lA (jl (K:=K) rfl hu64) (ak 2) (aL (aK (K:=K) rfl) bc T.b_len bj (aa (ak 4) ao) (by trivial) (by trivial)) (by walk_at "p")) (rU (lA (jl (K:=K) rfl hu64) (J3 (K:=K) rfl (ak 6)) (ak 2) (by walk_at "p"))))))) J5)) (aq (jd (ts:=uw) (bf aN (bf aN (fO (fP (K:=K) rfl) (ak 4) gb (fB (ak 2))) (ak 3)) (fO (fP (K:=K) rfl) (ak 4) (fB (bf aN (ak 2) aB)) gb)) (jV (ak 1) aB set_list)) (aA (aJ (oE (lA rE (ak 2) (aL (aK (K:=K) rfl) bc T.b_len bj (aa (ak 4) ao) (by trivial) (by trivial)) (by walk_at "p")) (oE (aL (jk (K:=K) rfl) bc T.b_isinstance cL (aa (ak 5) (aa (yE bc T.b_str vK (by trivial) (by trivial)) ao)) (by trivial) (by trivial)) (rU (lA (jl (K:=K) rfl hu64) (ak 5) (bx (K:=K) rfl (ak 4) (ak 2)) (by walk_at "p")))))))))),?_⟩
 walk_at "s"
 have hz:20000<=sizeLine:=by decide
 have rs:=hP.row.1
 have lz:side.length<=sizeLine:=Xv rs.1 (by decide)
 have l48:=rs.1
 have le:side.length=side.cps.size:=rfl
 have nr:=hP.ne hr2
 have lm:mid.length<=1:=by
  rcases hc with rfl | ⟨c,_,rfl⟩
  ·exact YK 1
  ·exact Za (rT c)
 walk_at "s"
 obtain ⟨_,_,dx,b,v,⟨k,hx⟩,_⟩:=id hP
 have bad:∀ (e:Addr) (H2:Hp),p=side.cps.size->Same H H2->Ma H2 e (aM mg "NoPlace") [("found",.int (p:Int))]->Pr mg H2 x r side top:=fun e H2 _ S2 _=>⟨hP.same S2,S2 _ _ hr2⟩
 rcases hc with rfl | ⟨c,hc,rfl⟩
 ·rw [show decide (V.str ⟨#[]⟩=V.str (Str.ofString ""))=true by trivial]
  walk_at "s"
  refine ⟨x,dx,_,rfl,hx,aY (Bf _) (by trivial),?_⟩
  walk_at "s"
  refine ⟨x,side,top,p,rfl,hP,hp,?_,?_⟩
  ·intro h48 e H2 S2 X2
   refine ⟨_,e,rfl,rfl,?_⟩
   refine J7 T.x_NoPlace.c.cl.cls T.u_NoPlace_NoPlace.mro ?_
   walk_at "s"
   refine cI lz ?_
   walk_at "s"
   rw [Xq (show V.int (p:Int)=V.int (side.length:Int) by rw [le,h48])]
   walk_at "s"
   refine ⟨e,_,_,_,rfl,X2,T.x_NoPlace.c.cl.cls,T.x_NoPlace.na _ (by simp),rfl,?_⟩
   walk_at "s"
   try rw [Xq (rfl:V.int (p:Int)=V.int (p:Int))]
   try walk_at "s"
   exact q side H2 (Tw2.of_same S2) ⟨hP.same S2,S2 _ _ hr2⟩
  ·intro d H2 ed C2 hP2
   have hr3:=C2 _ _ nr hr2
   have hp1:p < side.cps.size:=by have:=(Xn.mp ed).1;rw [Xx] at this;exact this
   try walk_at "s"
   refine ig lz ?_
   walk_at "s"
   refine jc (Xv (Ys (fj _ _ _) lm) (by omega)) ?_
   walk_at "s"
   refine ig lz ?_
   walk_at "s"
   refine jc (by rw [pX];exact Xv (Ys (Ys (fj _ _ _) lm) (fj _ _ _)) (by omega)) ?_
   walk_at "s"
   have T4:=(Tw2.chg (r:=r) C2).trans (Tw2.put (x:=x) (r:=r) (H:=H2) (o:=.lst [.str (rn side p ⟨#[]⟩),.str top]))
   have hP4:=hP2.put (o:=.lst [.str (rn side p ⟨#[]⟩),.str top]) hr3
   have hr4:=aj (H:=H2) (a:=r) (o:=.lst [.str (rn side p ⟨#[]⟩),.str top])
   refine cI lz ?_
   walk_at "s"
   rw [Xq (show (p:Int) < (side.length:Int) by omega)]
   walk_at "s"
   refine oA (.str _) rfl ?_
   walk_at "s"
   refine zV lz (cH ed) ?_
   walk_at "s"
   try rw [Xq (rfl:V.str ⟨#[d]⟩=V.str ⟨#[d]⟩)]
   try walk_at "s"
   exact q _ _ T4 ⟨hP4,hr4⟩
 ·rw [XF (show ¬ V.str ⟨#[c]⟩=V.str (Str.ofString "") from fun z=>by have:=congrArg (fun v=>match v with | V.str y=>y.cps.size | _=>0) z;revert this;show (1:Nat)=0->False;decide)]
  walk_at "s"
  refine ⟨x,dx,_,rfl,hx,aY (Bf _) (by trivial),?_⟩
  walk_at "s"
  refine ⟨x,side,top,p,c,rfl,hP,hc,hp,?_,?_⟩
  ·intro h48 e H2 S2 X2
   refine ⟨_,e,rfl,rfl,?_⟩
   refine J7 T.x_NoPlace.c.cl.cls T.u_NoPlace_NoPlace.mro ?_
   walk_at "s"
   refine cI lz ?_
   walk_at "s"
   rw [Xq (show V.int (p:Int)=V.int (side.length:Int) by rw [le,h48])]
   walk_at "s"
   refine ⟨e,_,_,_,rfl,X2,T.x_NoPlace.c.cl.cls,T.x_NoPlace.na _ (by simp),rfl,?_⟩
   walk_at "s"
   try rw [Xq (rfl:V.int (p:Int)=V.int (p:Int))]
   try walk_at "s"
   exact q side H2 (Tw2.of_same S2) ⟨hP.same S2,S2 _ _ hr2⟩
  ·intro d H2 ed C2 hP2
   have hr3:=C2 _ _ nr hr2
   have hp1:p < side.cps.size:=by have:=(Xn.mp ed).1;rw [Xx] at this;exact this
   try walk_at "s"
   refine ig lz ?_
   walk_at "s"
   refine jc (Xv (Ys (fj _ _ _) lm) (by omega)) ?_
   walk_at "s"
   refine ig lz ?_
   walk_at "s"
   refine jc (by rw [pX];exact Xv (Ys (Ys (fj _ _ _) lm) (fj _ _ _)) (by omega)) ?_
   walk_at "s"
   have T4:=(Tw2.chg (r:=r) C2).trans (Tw2.put (x:=x) (r:=r) (H:=H2) (o:=.lst [.str (rn side p ⟨#[c]⟩),.str top]))
   have hP4:=hP2.put (o:=.lst [.str (rn side p ⟨#[c]⟩),.str top]) hr3
   have hr4:=aj (H:=H2) (a:=r) (o:=.lst [.str (rn side p ⟨#[c]⟩),.str top])
   refine cI lz ?_
   walk_at "s"
   rw [Xq (show (p:Int) < (side.length:Int) by omega)]
   walk_at "s"
   refine oA (.str _) rfl ?_
   walk_at "s"
   refine zV lz (cH ed) ?_
   walk_at "s"
   try rw [Xq (rfl:V.str ⟨#[d]⟩=V.str ⟨#[d]⟩)]
   try walk_at "s"
   exact q _ _ T4 ⟨hP4,hr4⟩
theorem Xb {ms:List Int} {x y z v:Int} (h:Fits ms [x,y,z,v]):∃ a b c d:Nat,ms=[(a:Int),(b:Int),(c:Int),(d:Int)]/\(a:Int) < x/\(b:Int) < y/\(c:Int) < z/\(d:Int) < v:=by
 obtain ⟨h1,h2⟩:=h
 match ms,h1 with
 | [a,b,c,d],_=>
  obtain ⟨a0,a1⟩:=h2 0 a x rfl rfl
  obtain ⟨b0,b1⟩:=h2 1 b y rfl rfl
  obtain ⟨c0,c1⟩:=h2 2 c z rfl rfl
  obtain ⟨d0,d1⟩:=h2 3 d v rfl rfl
  exact ⟨a.toNat,b.toNat,c.toNat,d.toNat,by rw [Yy a0,Yy b0,Yy c0,Yy d0],by omega,by omega,by omega,by omega⟩
def LR (mg:Str->Option Value):Sp:=fun vs H Q _=>∃ (x r:Addr) (side top:Str),vs=[.ref x,.ref r]/\Pr mg H x r side top/\∀ H',Same H H'->Q (.bl true) H'
theorem qg:aD ["_law_kept","_law_rows","_law_found"] ["_law_kept","_law_rows"] (az mZ):=⟨rfl,rfl,rfl,by trivial,rfl,by trivial,by trivial⟩
theorem gj (T:Txt K mg):nQ P w K mg base 2 "_law_stands" ["_law_kept","_law_rows"] (LR mg):=by
 have o7:=o7 (P:=P) (w:=w) (base:=base) T
 have rm:=rm (P:=P) (w:=w) (base:=base) T
 refine ir T.d_law_stands qg (fun _ _ _ _ _ _ us hl=>L2.nP (fun _ _=>rfl) us hl) ?_ fun f cdv A outer s H vs Q E hr h=>?_
 ·rintro vs H Q E ⟨x,r,side,top,rfl,_⟩;rfl
 obtain ⟨x,r,side,top,rfl,⟨hP,hr2⟩,q⟩:=h
 have hu:=hr.units0
 have hu64:=hr.units
 refine ⟨_,(aq (aH (i:=2) qg.nd rfl cG (fM (aa (oH (ak 0) T.o_Kept o7 (hr.mono (by decide)) (xT fun _ _=>rfl)) (aa (oH (ak 0) T.o_Kept rm (hr.mono (by decide)) (xT fun _ _=>rfl)) ao))) rfl) (aA (aJ (oE (aL (jk (K:=K) rfl) bc T.b_isinstance cL (aa (bx (K:=K) rfl (ak 2) aB) (aa (yE bc T.b_str vK (by trivial) (by trivial)) ao)) (by trivial) (by trivial)) (oE (aL (jk (K:=K) rfl) bc T.b_isinstance cL (aa (bx (K:=K) rfl (ak 2) aB) (aa (yE bc T.b_str vK (by trivial) (by trivial)) ao)) (by trivial) (by trivial)) (rU (lA (jl (K:=K) rfl hu64) (ak 2) (ak 1) (by walk_at "p")))))))),?_⟩
 walk_at "s"
 obtain ⟨_,_,dx,b,v,⟨k,hx⟩,_⟩:=id hP
 refine ⟨x,dx,_,rfl,hx,aY (Bf _) (by trivial),?_⟩
 walk_at "s"
 refine ⟨x,side,top,rfl,hP,?_⟩
 walk_at "s"
 refine ⟨x,dx,_,rfl,hx,aY (Bf _) (by trivial),?_⟩
 walk_at "s"
 refine ⟨x,side,top,rfl,hP,?_⟩
 walk_at "s"
 refine fX rfl fun f H1 nf S1 hf=>?_
 walk_at "s"
 have hr3:=S1 _ _ hr2
 refine oA (.str _) rfl ?_
 walk_at "s"
 refine oA (.str _) rfl ?_
 walk_at "s"
 refine .inl (TJ (SqL.of hf) (SqL.of hr3) (fun v hv=>?_) ?_)
 ·simp only [XD,Yj,or_false] at hv
  rcases hv with rfl | rfl <;> exact .inl rfl
 try walk_at "s"
 exact q H1 S1
def UJ (mg:Str->Option Value):Sp:=fun vs H Q _=>∃ (x r g:Addr) (n:Int) (side top:Str) (ys:List Str),vs=[.ref x,.ref r,.int n,.ref g]/\Pr mg H x r side top/\H g=some (.lst (ys.map V.str))/\ys≠[]/\ys.length<=27/\GoodS ys/\∀ side' top' H',Tw2 x r H H'->Pr mg H' x r side' top'->Q (.bl true) H'
theorem fZ:aD ["_law_kept","_law_rows","_law_cell_here","_law_signs_here","_law_at","_law_word","_law_place","_law_sign","_law_rest"] ["_law_kept","_law_rows","_law_cell_here","_law_signs_here"] (az qO):=⟨rfl,rfl,rfl,by trivial,rfl,by trivial,by trivial⟩
theorem rC (T:Txt K mg):nQ P w K mg base 63 "_law_done" ["_law_kept","_law_rows","_law_cell_here","_law_signs_here"] (UJ mg):=by
 have bL:=bL (P:=P) (w:=w) (base:=base) T
 have ur:=ur (P:=P) (w:=w) (base:=base) T
 have pY:=pY (P:=P) (w:=w) (base:=base) T
 have jy:=jy (P:=P) (w:=w) (base:=base) T
 have nH:=nH (P:=P) (w:=w) (base:=base) T
 refine ir T.d_law_done fZ (fun _ _ _ _ _ _ us hl=>L2.yg (fun _ _ _ _=>rfl) us hl) ?_ fun f cdv A outer s H vs Q E hr h=>?_
 ·rintro vs H Q E ⟨x,r,g,n,side,top,ys,rfl,_⟩;rfl
 obtain ⟨x,r,g,n,side,top,ys,rfl,⟨hP,hr2⟩,hg,hne,hl,hG,q⟩:=h
 have hu:=hr.units0
 have hu64:=hr.units
 refine ⟨_,(aq (Ec (aO bL (hr.mono (by decide)) bc (aa (ak 2) (aa (fM (aa aB (aa aB (aa (bf aN aB (aL (aK (K:=K) rfl) bc T.b_len bj (aa (bx (K:=K) rfl (ak 1) aB) ao) (by trivial) (by trivial))) (aa (aL (aK (K:=K) rfl) bc T.b_len bj (aa (ak 3) ao) (by trivial) (by trivial)) ao))))) ao)) (by trivial)) (Eb (K:=K) rfl rfl (aX (aZ (i:=4) fZ.nd rfl cG rfl) (aX (aZ (i:=5) fZ.nd rfl cG rfl) (aX (aZ (i:=6) fZ.nd rfl cG rfl) (aX (aZ (i:=7) fZ.nd rfl cG rfl) iz)))))) (aq (bZ (bB rE (ak 5) aB (by walk_at "p")) (aA (aJ (aO ur (hr.mono (by decide)) bc (aa (ak 0) (aa (ak 1) (aa (ak 6) (aa (bx (K:=K) rfl (ak 3) (ak 7)) ao)))) (by trivial)))) bJ) (aq (bZ (bB rE (ak 5) aB (by walk_at "p")) (aA (aJ (aO pY (hr.mono (by decide)) bc (aa (ak 0) (aa (ak 1) (aa (ak 6) (aa xP ao)))) (by trivial)))) bJ) (aq (bZ (bB rE (ak 5) aB (by walk_at "p")) (aA (aJ (aO pY (hr.mono (by decide)) bc (aa (ak 0) (aa (ak 1) (aa (ak 6) (aa (bx (K:=K) rfl (ak 3) (ak 7)) ao)))) (by trivial)))) bJ) (aq (aH (i:=8) fZ.nd rfl cG (bf aN (ak 2) aB) rfl) (aq (bZ (bB xq (ak 2) (bf Ib aB aB) (by walk_at "p")) (aA (aH (i:=8) fZ.nd rfl cG (bf v6 (ak 2) aB) rfl)) bJ) (aq (jd (ts:=uw) (aO jy (hr.mono (by decide)) bc (aa (ak 8) (aa (ak 3) (aa aB ao))) (by trivial)) (jV (ak 1) aB set_list)) (aA (aJ (lA vY (aQ (ak 0) T.o_Kept nH (hr.mono (by decide)) (xT fun _ _=>rfl) (aa (bx (K:=K) rfl (ak 1) aB) ao)) vP (by walk_at "p"))))))))))),?_⟩
 walk_at "s"
 have hz:20000<=sizeLine:=by decide
 have rs:=hP.row.1
 have lz:side.length<=sizeLine:=Xv rs.1 (by decide)
 have l48:=rs.1
 have le:side.length=side.cps.size:=rfl
 have hy1:0 < ys.length:=by
  cases ys with
  | nil=>exact absurd rfl hne
  | cons a b=>simp
 try walk_at "s"
 refine cI lz ?_
 walk_at "s"
 refine gZ (SqL.of hg) ?_
 walk_at "s"
 rw [Xu]
 refine fX rfl fun b H1 nb S1 hb=>?_
 walk_at "s"
 refine ⟨n,b,[2,9,1+(side.length:Int),(ys.length:Int)],rfl,hb,by show 4<=1000;decide,by intro x hx;simp at hx;omega,fun d ms H2 nd S2 hd2 hF=>?_⟩
 walk_at "s"
 obtain ⟨a,u,p,s1,rfl,b1,b2,b3,b4⟩:=Xb hF
 have U:=S1.trans S2
 have hP2:=hP.same U
 have hr3:=U _ _ hr2
 have hg2:=U _ _ hg
 refine ⟨d,[.int a,.int u,.int p,.int s1],rfl,.inr (SqL.of hd2),rfl,?_⟩
 walk_at "s"
 have hs1:s1 < ys.length:=by omega
 obtain ⟨c,ec,hc⟩:=hG ys[s1] (YH hs1)
 have eg:(ys.map V.str)[s1]?=some (.str ⟨#[c]⟩):=by rw [Xw,Xk hs1,ec];rfl
 have T2:Tw2 x r H H2:=Tw2.of_same U
 refine uP (fun _=>?_) (fun _=>?_)
 ·walk_at "s"
  refine bG (SqL.of hg2) (cH eg) ?_
  walk_at "s"
  exact ⟨x,r,side,top,p,c,rfl,⟨hP2,hr3⟩,by omega,hc,fun side' H' T P=>q side' top H' (T2.trans T) P⟩
 walk_at "s"
 refine uP (fun _=>?_) (fun _=>?_)
 ·walk_at "s"
  exact ⟨x,r,side,top,⟨#[]⟩,p,rfl,⟨hP2,hr3⟩,by omega,.inl rfl,fun side' H' T P=>q side' top H' (T2.trans T) P⟩
 walk_at "s"
 refine uP (fun _=>?_) (fun _=>?_)
 ·walk_at "s"
  refine bG (SqL.of hg2) (cH eg) ?_
  walk_at "s"
  exact ⟨x,r,side,top,⟨#[c]⟩,p,rfl,⟨hP2,hr3⟩,by omega,.inr ⟨c,hc,rfl⟩,fun side' H' T P=>q side' top H' (T2.trans T) P⟩
 walk_at "s"
 refine uP (fun _=>?_) (fun _=>?_)
 ·walk_at "s"
  refine ⟨_,g,ys,8,rfl,hg2,hne,hl,hG,by decide,fun z H3 S3 hz2=>?_⟩
  walk_at "s"
  have hx3:=(hP2.same S3)
  have hr4:=S3 _ _ hr3
  have hP4:=hx3.put (o:=.lst [.str side,.str z]) hr4
  have hr5:=aj (H:=H3) (a:=r) (o:=.lst [.str side,.str z])
  have T4:Tw2 x r H (upd H3 r (.lst [.str side,.str z])):=(Tw2.of_same (U.trans S3)).trans Tw2.put
  obtain ⟨_,_,dx,b',v,⟨k,hx⟩,_⟩:=id hP4
  try walk_at "s"
  refine ⟨x,dx,_,rfl,hx,aY (Bf _) (by trivial),?_⟩
  walk_at "s"
  refine ⟨x,side,top,z,rfl,hP4,hz2,fun H5 C5 P5=>?_⟩
  walk_at "s"
  try rw [Xq (rfl:V.non=V.non)]
  try walk_at "s"
  exact q side z H5 (T4.trans (Tw2.chg C5)) ⟨P5,C5 _ _ (hP4.ne hr5) hr5⟩
 ·walk_at "s"
  refine ⟨_,g,ys,8,rfl,hg2,hne,hl,hG,by decide,fun z H3 S3 hz2=>?_⟩
  walk_at "s"
  have hx3:=(hP2.same S3)
  have hr4:=S3 _ _ hr3
  have hP4:=hx3.put (o:=.lst [.str side,.str z]) hr4
  have hr5:=aj (H:=H3) (a:=r) (o:=.lst [.str side,.str z])
  have T4:Tw2 x r H (upd H3 r (.lst [.str side,.str z])):=(Tw2.of_same (U.trans S3)).trans Tw2.put
  obtain ⟨_,_,dx,b',v,⟨k,hx⟩,_⟩:=id hP4
  try walk_at "s"
  refine ⟨x,dx,_,rfl,hx,aY (Bf _) (by trivial),?_⟩
  walk_at "s"
  refine ⟨x,side,top,z,rfl,hP4,hz2,fun H5 C5 P5=>?_⟩
  walk_at "s"
  try rw [Xq (rfl:V.non=V.non)]
  try walk_at "s"
  exact q side z H5 (T4.trans (Tw2.chg C5)) ⟨P5,C5 _ _ (hP4.ne hr5) hr5⟩
theorem zy {xs:List V} {lo hi:Option Int} {v:V} (h:v∈oh xs lo hi):v∈xs:=by
 unfold oh at h
 exact Z7 (Zm h)
theorem Xc {ms:List Int} {x:Int} (h:Fits ms [x]):∃ a:Nat,ms=[(a:Int)]/\(a:Int) < x:=by
 obtain ⟨h1,h2⟩:=h
 match ms,h1 with
 | [a],_=>
  obtain ⟨a0,a1⟩:=h2 0 a x rfl rfl
  exact ⟨a.toNat,by rw [Yy a0],by omega⟩
def QW (K:W.Frag):Sp:=fun vs H Q _=>∃ (a:Addr) (ns:List Int),vs=[.ref a]/\SqL K H a (ns.map V.int)/\∀ H',Q (.bl true) H'
theorem pq:aD ["_law_script","_law_signs_here","_law_side","_law_top","_law_houses","_law_rows","_law_cell_here","_law_at"] ["_law_script"] (az Af):=⟨rfl,rfl,rfl,by trivial,rfl,by trivial,by trivial⟩
theorem UL (T:Txt K mg) {f0:Addr} {fd0:FuncData} (F0:Fun K "law" "law" Af f0 fd0):FnOk P w K mg base Gf 64 f0 fd0 ["_law_script"] (QW K):=by
 have ph:=ph (P:=P) (w:=w) (base:=base) T
 have j4:=j4 (P:=P) (w:=w) (base:=base) T
 have jy:=jy (P:=P) (w:=w) (base:=base) T
 have iB:=iB (P:=P) (w:=w) (base:=base) T
 have gj:=gj (P:=P) (w:=w) (base:=base) T
 have bL:=bL (P:=P) (w:=w) (base:=base) T
 have rC:=rC (P:=P) (w:=w) (base:=base) T
 refine okJ F0 pq ?_ fun f cdv A outer s H vs Q E hr h=>?_
 ·rintro vs H Q E ⟨a,ns,rfl,_⟩;rfl
 obtain ⟨a,ns,rfl,hS,q⟩:=h
 have hu:=hr.units0
 have hu64:=hr.units
 refine ⟨_,(aq (aH (i:=1) pq.nd rfl cG (aO ph (hr.mono (by decide)) bc (aa (aO j4 (hr.mono (by decide)) bc (aa (ak 0) (aa aB ao)) (by trivial)) ao) (by trivial)) rfl) (aq (aH (i:=2) pq.nd rfl cG (aO jy (hr.mono (by decide)) bc (aa (aO j4 (hr.mono (by decide)) bc (aa (ak 0) (aa aB ao)) (by trivial)) (aa (ak 1) (aa aB ao))) (by trivial)) rfl) (aq (aH (i:=3) pq.nd rfl cG (aO jy (hr.mono (by decide)) bc (aa (aO j4 (hr.mono (by decide)) bc (aa (ak 0) (aa aB ao)) (by trivial)) (aa (ak 1) (aa aB ao))) (by trivial)) rfl) (aq (aH (i:=4) pq.nd rfl cG (fM (aa (su T.o_Kept iB (hr.mono (by decide)) bc (xT fun _ _=>rfl) (aa (ak 2) (aa (ak 3) ao)) (by trivial)) (aa (su T.o_Kept iB (hr.mono (by decide)) bc (xT fun _ _=>rfl) (aa (ak 3) (aa (ak 2) ao)) (by trivial)) ao))) rfl) (aq (aH (i:=5) pq.nd rfl cG (fM (aa (fM (aa (ak 2) (aa (ak 3) ao))) (aa (fM (aa (ak 3) (aa (ak 2) ao))) ao))) rfl) (aq (bZ (uA (xQ (iC (jE (aO gj (hr.mono (by decide)) bc (aa (bx (K:=K) rfl (ak 4) aB) (aa (bx (K:=K) rfl (ak 5) aB) ao)) (by trivial)))) (tH (iC (jE (aO gj (hr.mono (by decide)) bc (aa (bx (K:=K) rfl (ak 4) aB) (aa (bx (K:=K) rfl (ak 5) aB) ao)) (by trivial))))))) (aA (aJ yC)) bJ) (aq (je YB rfl (qt (K:=K) rfl (fO (fP (K:=K) rfl) (ak 0) (fB aB) (fB aB))) (aZ (i:=6) pq.nd rfl cG rfl) (aq (aH (i:=7) pq.nd rfl cG (bx (K:=K) rfl (aO bL (hr.mono (by decide)) bc (aa (ak 6) (aa (fM (aa aB ao)) ao)) (by trivial)) aB) rfl) (aq (bZ (iC (jE (aO rC (hr.mono (by decide)) bc (aa (bx (K:=K) rfl (ak 4) (ak 7)) (aa (bx (K:=K) rfl (ak 5) (ak 7)) (aa (ak 6) (aa (ak 1) ao)))) (by trivial)))) (aA (aJ yC)) bJ) (aA (bZ (uA (xQ (iC (jE (aO gj (hr.mono (by decide)) bc (aa (bx (K:=K) rfl (ak 4) aB) (aa (bx (K:=K) rfl (ak 5) aB) ao)) (by trivial)))) (tH (iC (jE (aO gj (hr.mono (by decide)) bc (aa (bx (K:=K) rfl (ak 4) aB) (aa (bx (K:=K) rfl (ak 5) aB) ao)) (by trivial))))))) (aA (aJ yC)) bJ))))) (aA (aJ yC))))))))),?_⟩
 walk_at "s"
 have hz:20000<=sizeLine:=by decide
 refine ⟨a,ns,0,rfl,hS,fun n0=>?_⟩
 walk_at "s"
 refine ⟨n0,rfl,fun g ys H1 ng S1 hg hne hl hG=>?_⟩
 walk_at "s"
 refine ⟨a,ns,1,rfl,S1.seq hS,fun n1=>?_⟩
 walk_at "s"
 refine ⟨n1,g,ys,48,rfl,hg,hne,hl,hG,by decide,fun side H2 S2 hs=>?_⟩
 walk_at "s"
 refine ⟨a,ns,2,rfl,(S1.trans S2).seq hS,fun n2=>?_⟩
 walk_at "s"
 refine ⟨n2,g,ys,12,rfl,S2 _ _ hg,hne,hl,hG,by decide,fun top H3 S3 ht=>?_⟩
 walk_at "s"
 rintro x dx nx nd nxd
 refine ⟨x,dx,side,top,rfl,aj,hs,ht,fun H4 C4 hP=>⟨rfl,?_⟩⟩
 have S4:=made nx nd C4
 walk_at "s"
 rintro y dy ny ndy nyd
 refine ⟨y,dy,top,side,rfl,aj,ht,hs,fun H5 C5 hR=>⟨rfl,?_⟩⟩
 have S5:=made ny ndy C5
 have nyx:y≠x:=fun z=>by
  obtain ⟨_,_,d',b',v',⟨k',e⟩,_⟩:=hP
  rw [← z,ny] at e;cases e
 walk_at "s"
 refine fX rfl fun hh H6 nh S6 hhh=>?_
 walk_at "s"
 refine fX rfl fun r1 H7 n1' S7 hr1=>?_
 walk_at "s"
 refine fX rfl fun r2 H8 n2' S8 hr2=>?_
 walk_at "s"
 refine fX rfl fun rr H9 nr S9 hrr=>?_
 walk_at "s"
 have U8:=S6.trans (S7.trans (S8.trans S9))
 have P1:Pr mg H9 x r1 side top:=⟨(hP.same S5).same U8,(S8.trans S9) _ _ hr1⟩
 have P2:Pr mg H9 y r2 top side:=⟨hR.same U8,S9 _ _ hr2⟩
 have U:=S1.trans (S2.trans (S3.trans (S4.trans (S5.trans U8))))
 have V9:=S2.trans (S3.trans (S4.trans (S5.trans U8)))
 have hg9:=V9 _ _ hg
 have hh9:=(S7.trans (S8.trans S9)) _ _ hhh
 have hS9:=U.seq hS
 have d12:r1≠r2:=fun z=>by rw [← z,hr1] at n2';cases n2'
 have gr1:g≠r1:=fun z=>by rw [← z,(S2.trans (S3.trans (S4.trans (S5.trans S6)))) _ _ hg] at n1';cases n1'
 have gr2:g≠r2:=fun z=>by rw [← z,(S2.trans (S3.trans (S4.trans (S5.trans (S6.trans S7))))) _ _ hg] at n2';cases n2'
 clear n2' n1' nr nh S6 S7 S8 S9 hr1 hr2 V9 U8 hP hR S4 S5 C4 C5
 try walk_at "s"
 refine ⟨x,r1,side,top,rfl,P1,fun H10 S10=>?_⟩
 have hh10:=S10 _ _ hh9
 have hrr10:=S10 _ _ hrr
 walk_at "s"
 refine ⟨y,r2,top,side,rfl,P2.same S10,fun H11 S11=>?_⟩
 have T11:=S10.trans S11
 have hS11:=T11.seq hS9
 walk_at "s"
 refine .inl (Qu hS11 fun sl nsl=>?_)
 have S12:=(Same.refl H11).upd nsl (o:=.lst (oh (ns.map V.int) (some 3) (some 27)))
 have hsl:=aj (H:=H11) (a:=sl) (o:=.lst (oh (ns.map V.int) (some 3) (some 27)))
 generalize upd H11 sl (.lst (oh (ns.map V.int) (some 3) (some 27)))=H12 at S12 hsl ⊢
 walk_at "s"
 refine .inl ⟨sl,rfl,⟨_,SqL.of hsl⟩,?_⟩
 have T12:=T11.trans S12
 refine zF (xs:=oh (ns.map V.int) (some 3) (some 27)) (fun k U G=>∃ s1 t1 s2 t2 x6 x7,U=[some (.ref a),some (.ref g),some (.str side),some (.str top),some (.ref hh),some (.ref rr),x6,x7]/\Pr mg G x r1 s1 t1/\Pr mg G y r2 s2 t2/\G sl=some (.lst (oh (ns.map V.int) (some 3) (some 27)))/\G g=some (.lst (ys.map V.str))/\G hh=some (.lst [.ref x,.ref y])/\G rr=some (.lst [.ref r1,.ref r2]))
  ⟨_,_,_,_,_,_,rfl,P1.same T12,P2.same T12,hsl,T12 _ _ hg9,T12 _ _ hh9,T12 _ _ hrr⟩ (fun i U G _ h=>by obtain ⟨_,_,_,_,_,_,_,_,_,h,_⟩:=h;exact SqL.of h) ?_ ?_
 ·rintro k v U G hv ⟨s1,t1,s2,t2,x6,x7,rfl,PA,PB,slG,hgG,hhG,rrG⟩
  obtain ⟨c,_,rfl⟩:=Yr.mp (zy (X3 hv))
  walk_at "s"
  refine fX rfl fun b G1 nb S13 hb=>?_
  walk_at "s"
  refine ⟨c,b,[2],rfl,hb,by decide,by decide,fun d ms G2 nd2 S14 hd hF=>?_⟩
  walk_at "s"
  obtain ⟨m,rfl,hm⟩:=Xc hF
  have U14:=S13.trans S14
  have V14:=U14
  have hh14:=V14 _ _ hhG
  have rr14:=V14 _ _ rrG
  replace hd:G2 d=some (.lst [.int (m:Int)]):=hd
  match m,hm with
  | 0,_=>
   walk_at "s"
   refine ⟨x,r1,g,c,s1,t1,ys,rfl,PA.same U14,V14 _ _ hgG,hne,hl,hG,fun sn tn G2 T A=>?_⟩
   walk_at "s"
   have P14:=PA.same U14
   have R14:=PB.same U14
   have B:Pr mg G2 y r2 s2 t2:=⟨R14.1.two P14.1 P14.2 nyx T,T _ _ (P14.1.ne R14.2) (Ne.symm d12) R14.2⟩
   have kp:∀ {b:Addr} {us:List V},(∀ z∈us,∀ w:Str,z≠.str w)->G b=some (.lst us)->G2 b=some (.lst us):=fun {b us} nz e=>T _ _ (P14.1.ne (V14 _ _ e)) (fun z=>by
    have e2:=P14.2
    rw [← z,V14 _ _ e] at e2
    have e3:=HO.lst.inj (XS e2)
    exact nz (.str s1) (by rw [e3];exact Yt ..) _ rfl) (V14 _ _ e)
   have hh2:=kp (fun z hz w e=>by rw [e] at hz;simp at hz) hhG
   have rr2:=kp (fun z hz w e=>by rw [e] at hz;simp at hz) rrG
   have sl2:=kp (fun z hz w e=>by
    obtain ⟨_,_,e4⟩:=Yr.mp (zy hz)
    rw [e] at e4;cases e4) slG
   have g2:=T _ _ (P14.1.ne (V14 _ _ hgG)) gr1 (V14 _ _ hgG)
   walk_at "s"
   refine ⟨x,r1,_,_,rfl,A,fun G3 S3=>?_⟩
   have hh3:=S3 _ _ hh2
   have rr3:=S3 _ _ rr2
   walk_at "s"
   refine ⟨y,r2,_,_,rfl,B.same S3,fun G4 S4=>?_⟩
   have S34:=S3.trans S4
   try walk_at "s"
   exact ⟨_,_,_,_,_,_,rfl,A.same S34,B.same S34,S34 _ _ sl2,S34 _ _ g2,S34 _ _ hh2,S34 _ _ rr2⟩
  | 1,_=>
   walk_at "s"
   refine ⟨y,r2,g,c,s2,t2,ys,rfl,PB.same U14,V14 _ _ hgG,hne,hl,hG,fun sn tn G2 T A=>?_⟩
   walk_at "s"
   have P14:=PB.same U14
   have R14:=PA.same U14
   have B:Pr mg G2 x r1 s1 t1:=⟨R14.1.two P14.1 P14.2 (Ne.symm nyx) T,T _ _ (P14.1.ne R14.2) d12 R14.2⟩
   have kp:∀ {b:Addr} {us:List V},(∀ z∈us,∀ w:Str,z≠.str w)->G b=some (.lst us)->G2 b=some (.lst us):=fun {b us} nz e=>T _ _ (P14.1.ne (V14 _ _ e)) (fun z=>by
    have e2:=P14.2
    rw [← z,V14 _ _ e] at e2
    have e3:=HO.lst.inj (XS e2)
    exact nz (.str s2) (by rw [e3];exact Yt ..) _ rfl) (V14 _ _ e)
   have hh2:=kp (fun z hz w e=>by rw [e] at hz;simp at hz) hhG
   have rr2:=kp (fun z hz w e=>by rw [e] at hz;simp at hz) rrG
   have sl2:=kp (fun z hz w e=>by
    obtain ⟨_,_,e4⟩:=Yr.mp (zy hz)
    rw [e] at e4;cases e4) slG
   have g2:=T _ _ (P14.1.ne (V14 _ _ hgG)) gr2 (V14 _ _ hgG)
   walk_at "s"
   refine ⟨x,r1,_,_,rfl,B,fun G3 S3=>?_⟩
   have hh3:=S3 _ _ hh2
   have rr3:=S3 _ _ rr2
   walk_at "s"
   refine ⟨y,r2,_,_,rfl,A.same S3,fun G4 S4=>?_⟩
   have S34:=S3.trans S4
   try walk_at "s"
   exact ⟨_,_,_,_,_,_,rfl,B.same S34,A.same S34,S34 _ _ sl2,S34 _ _ g2,S34 _ _ hh2,S34 _ _ rr2⟩
  | m+2,hm=>omega
 ·rintro U G ⟨s1,t1,s2,t2,x6,x7,rfl,_⟩
  try walk_at "s"
  exact q G
end
end My
namespace PySem.W.Fast
def tw12327943494092074994:=0
def tw9623028083564354198:=0
def tw13329776896611296782:=0
def tw14606786790382560682:=0
def tw7582059344945298272:=0
def tw10432549565572461052:=0
def tw8783180222950669847:=0
def tw3583999555073158473:=0
def tw16953767130922426355:=0
def tw8540636493649508741:=0
def tw13110608757026173145:=0
def tw15916919584885512372:=0
def tw11152654955436793178:=0
def tw15547982596936895781:=0
def tw650327763573734338:=0
def tw11883698363690019098:=0
def tw845734830882628232:=0
def tw14746546537421416184:=0
def tw7821937747906713568:=0
def tw9892478018716884915:=0
def tw4613181132086683186:=0
def tw3697458480036957867:=0
def tw9749408070632258498:=0
def tw1731530806400078556:=0
def tw6547240010644916437:=0
def tw9805153484533632519:=0
def tw5038780139609378391:=0
def tw5467762271739151274:=0
def tw10327496198209663701:=0
def tw4294619945243533882:=0
def tw16689723854510423362:=0
def tw8068081984759535944:=0
def tw7143825761297023119:=0
def tw7444098238776319783:=0
def tw9726129470954128203:=0
def tw2602644745869385817:=0
def tw18418488664208268337:=0
def tw15254652922181875885:=0
def tw16957499793761967889:=0
def tw5695752845558712986:=0
def tw11557173711761335001:=0
def tw8575895608303255286:=0
def tw4382797675272038660:=0
def tw17215389813240800829:=0
def tw9912332961489017639:=0
def tw8035844965627813283:=0
def tw12795613234995375978:=0
def tw11873375135768852553:=0
def tw1549122896329835970:=0
def tw15006327936065369483:=0
def tw11971761468413157436:=0
def tw8071982469931534230:=0
def tw4295840567913013026:=0
def tw4521707114144317696:=0
def tw7419894622485484257:=0
def tw5295240359947248128:=0
def tw17984594981223679848:=0
def tw6643447923853993987:=0
def tw16328908377892422492:=0
def tw7311371236478278717:=0
def tw15223926993973458282:=0
def tw8066089117628803217:=0
def tw17939534865476423787:=0
def tw15664881067752038380:=0
def tw6720716889197755570:=0
def tw15488884901941099484:=0
def tw531012161075863264:=0
def tw4486836769201876414:=0
def tw15757937754269079718:=0
def tw17890826430720338688:=0
def tw16911329885429674493:=0
def tw2356456087922906357:=0
def tw3841923746021143850:=0
def tw16790027204422941906:=0
def tw13138611601322863292:=0
def tw14733241800348542329:=0
def tw9704098959817293984:=0
def tw9008351022078014284:=0
def tw862248631229033243:=0
def tw1248154559296953447:=0
def tw8951820904506292122:=0
def tw17065528748839854818:=0
def tw6283587010140777705:=0
def tw14718833824683184400:=0
def tw3208819734299896746:=0
def tw8140958167618212464:=0
def tw11740740612843041754:=0
def tw8771931928400178567:=0
def tw14356403927315682286:=0
def tw3589741123072867422:=0
def tw11777338210318888812:=0
def tw14456901854566259848:=0
def tw17686573305569692444:=0
def tw12936286884517359361:=0
def tw11062471328647128798:=0
def tw6161815478044609103:=0
def tw16894998996474812976:=0
def tw3560308646326862072:=0
def tw6021927203287122920:=0
def tw3039124272798586963:=0
def tw5950247878669883761:=0
def tw17790036626341313684:=0
def tw17508828224682232067:=0
def tw8808186173242598275:=0
def tw15813088306088051776:=0
def tw5509176016412763368:=0
def tw16744493562548203322:=0
def tw6000584150568196322:=0
def tw10391447951681531182:=0
def tw5786139976555566043:=0
def tw11273972112284340277:=0
def tw4584815757779572880:=0
def tw3477150162939756781:=0
def tw12943461771006975877:=0
def tw7497810477831298110:=0
def tw8174571307926526814:=0
def tw16309532550618644651:=0
def tw12013445642524359754:=0
def tw11832015090392591184:=0
def tw9975630753459314527:=0
def tw8031447282984246693:=0
def tw7229296994298861870:=0
def tw10530087717111059625:=0
def tw7989914391486726625:=0
def tw384067738017245335:=0
def tw14898157966267778795:=0
def tw6344894182525046181:=0
def tw16556844517559455668:=0
def tw4146709896404308009:=0
def tw12230177184404580363:=0
def tw11209636596705962677:=0
def tw7723349081339731048:=0
def tw15412637129211286383:=0
def tw7868012937415994759:=0
def tw2370100231082895345:=0
def tw5779065309136508382:=0
def tw1928619505265755605:=0
def tw4097249267295414345:=0
def tw15805721358315495142:=0
def tw9475079086991616897:=0
def tw13228726921074584495:=0
def tw2172823265171573530:=0
def tw5912921757382149023:=0
def tw12302418128791487287:=0
def tw7754086137105267109:=0
def tw855579144913942640:=0
def tw4449776970427807306:=0
def tw5928457808575648876:=0
def tw3211099127823036745:=0
def tw8509529816453237593:=0
def tw11235506058576544759:=0
def tw12727426633472708771:=0
def tw538430546529843368:=0
def tw12283237855109938499:=0
def tw15242841773270526798:=0
def tw1503740952271938026:=0
def tw7260787955513374182:=0
def tw5434168927405602885:=0
def tw15662745164582639028:=0
def tw14737918408751700694:=0
def tw11037753448269493446:=0
def tw18418533767125744545:=0
def tw2463979356097704934:=0
def tw9678362716905884506:=0
def tw11041999718574926466:=0
def tw17046124588535868766:=0
def tw5830617196934582482:=0
def tw13600650747679922708:=0
def tw13272662346354678380:=0
def tw9577009490781263043:=0
def tw1628315313135151704:=0
def tw595778171544452643:=0
def tw17348753152141684464:=0
def tw2948878274240447554:=0
def tw4766080410483411105:=0
def tw8166358805149479271:=0
def tw14650285202380352152:=0
def tw5747616273037644024:=0
def tw10667544185910304601:=0
def tw13625900295931730403:=0
def tw9988656333970868495:=0
def tw18042436377928289782:=0
def tw10565713864145160422:=0
def tw12626517186089349259:=0
def tw17507605598084443168:=0
def tw16839470450741193140:=0
def tw13697649869536364652:=0
def tw8742533795346435061:=0
def tw5879080017645345822:=0
def tw1652663152150062739:=0
def tw12190270051393949071:=0
def tw17491347378795170646:=0
def tw16058524218181175952:=0
def tw13885508812258494211:=0
def tw18220038517142800526:=0
def tw5350917539619703065:=0
def tw12398782600740996883:=0
def tw7682133323901596030:=0
def tw15415993541021433369:=0
def tw13500972808937196921:=0
def tw16609903371015896343:=0
def tw15836896786326483631:=0
def tw8055729440690922227:=0
def tw6227039628779208428:=0
def tw13090432051917115562:=0
def tw11252912016204981385:=0
def tw8610657912068189276:=0
def tw17998480816234011502:=0
def tw17729142746371756253:=0
def tw8181263994158729141:=0
def tw6731675658538390437:=0
def tw9919987118450288337:=0
def tw17807944953778505121:=0
def tw16474089873007571739:=0
def tw15705581454559998627:=0
def tw13600049292430484791:=0
def tw6105145745785223553:=0
def tw1970352170645464493:=0
def tw15713924371649057818:=0
def tw14469436535030758818:=0
def tw14289130699176015615:=0
def tw7065171744782440380:=0
def tw10262515366391710204:=0
def tw6372636259267718436:=0
def tw3516374402106088886:=0
def tw14605157592215925442:=0
def tw11528721410577409011:=0
def tw5346290039412972686:=0
def tw4268816540098237769:=0
def tw1402960196916764868:=0
def tw9866334950139519958:=0
def tw16163214383467672997:=0
def tw17508941746172715201:=0
def tw13007959556853303080:=0
def tw9635757315210406692:=0
def tw6982426575014824452:=0
def tw2317220353080332879:=0
def tw10121258393877345277:=0
def tw12741564771958938531:=0
def tw10338447395438269404:=0
def tw1475682841460352595:=0
def tw3574456002186435751:=0
def tw10667885970576256498:=0
def tw3419867406496014415:=0
def tw1946989417689951714:=0
def tw13951093640361166821:=0
def tw6539797184700142060:=0
def tw5481581428884020660:=0
def tw318630089266930685:=0
def tw9992710082307860536:=0
def tw5013593967358779158:=0
def tw40249044993647445:=0
def tw3670594853820544944:=0
def tw16460246523109705694:=0
def tw15063710952081673652:=0
def tw13611538244472936424:=0
def tw6042194819841529764:=0
def tw16932232797257553604:=0
def tw13723525581035526286:=0
def tw11573994691834331496:=0
def tw10867136707501245456:=0
def tw6867590973033920433:=0
def tw10485579510794382664:=0
def tw4993512761343785206:=0
def tw13180595003038707221:=0
def tw6662913708705142937:=0
def tw2253995644198198651:=0
def tw12397321855257291536:=0
def tw519672737795201418:=0
def tw3328827488658429216:=0
def tw1992056079895362251:=0
def tw17270896245280204451:=0
def tw15786862871395532269:=0
def tw17995905881203366301:=0
def tw17712754153504174379:=0
def tw5383144320123697453:=0
def tw7114899084947479606:=0
def tw4160975441296497033:=0
def tw10225122366512227139:=0
def tw11341635357504282864:=0
def tw9919915091731631830:=0
def tw11232128031622417567:=0
def tw14823949369196420477:=0
def tw16518133818281915954:=0
def tw11328193201060671693:=0
def tw3881843820712180386:=0
def tw14792075678334286335:=0
def tw10380046744238074320:=0
def tw6317118617745485036:=0
def tw6007504534643150360:=0
def tw5053806251240123605:=0
def tw16160453407292035229:=0
def tw5360931438348479435:=0
def tw11934972908107470668:=0
def tw12302255630526233357:=0
def tw11782900160205110683:=0
def tw10007128966439620143:=0
def tw13903862249036971162:=0
def tw16573223349262376747:=0
def tw7730847007821976307:=0
def tw17310335249707992609:=0
def tw7658009062752292815:=0
def tw17714273517248091386:=0
def tw8046382168117672162:=0
def tw17038610527909219055:=0
def tw1929337881237124274:=0
def tw11378029327426232273:=0
def tw7942253127358499291:=0
def tw18422454407280028984:=0
def tw16664151673766187813:=0
def tw14047935420362242609:=0
def tw7090636827431282068:=0
def tw17790820908024433640:=0
def tw4332060450925677451:=0
def tw15603620098401594474:=0
def tw807755585149153536:=0
def tw5245116696801637853:=0
def tw11183339246471556853:=0
def tw11652979966938784383:=0
def tw11402148940490213695:=0
def tw1758275182935918337:=0
def tw18265746376395472955:=0
def tw6869893969289608481:=0
def tw15750282520163586487:=0
def tw4787407733358500647:=0
def tw12491307862787486057:=0
def tw3063508756928984460:=0
def tw17878187299845964483:=0
def tw16608315794098101279:=0
def tw16184563521186121427:=0
def tw10712266181718922302:=0
def tw9937455077163529875:=0
def tw4713622723461622682:=0
def tw18334406036351838693:=0
def tw7321538209152752440:=0
def tw15570655083525966669:=0
def tw17220164183591257907:=0
def tw1256450457932929923:=0
end PySem.W.Fast
open PySem PySem.W PyProof.Rows
set_option maxRecDepth 100000 in
set_option maxHeartbeats 0 in
theorem PySem.Challenge.cw_panethread_k56_rows_by_deeds_holds : PySem.Challenge.rw_panethread_k56_rows_by_deeds.Holds := by
 w_on;o_law;k_head;(case hw=>w_witness2)
 k_fill
 refine L2.V3 (l:=PySem.Challenge.rw_panethread_k56_rows_by_deeds) (st:=My.Af) (k:=64) (x:="_law_script") (sp:=My.QW) rfl rfl rfl ⟨rfl,by decide,by decide,rfl⟩ (fun w h Y=>PySem.W.kIn_of Y) (fun _ _ _ _ _ _ us hl=>L2.nY (fun _=>rfl) us hl) ?F (fun K H a ns hl hS=>⟨a,ns,rfl,hS,fun _=>rfl⟩)
 case F=>
  intro w mg h KX G
  have b_all:mg "all"=none:=by
   refine' Yp KX G ?a
   (case a=>k_is)
  have b_bool:mg "bool"=none:=by
   refine' Yp KX G ?a
   (case a=>k_is)
  have b_enumerate:mg "enumerate"=none:=by
   refine' Yp KX G ?a
   (case a=>k_is)
  have b_int:mg "int"=none:=by
   refine' Yp KX G ?a
   (case a=>k_is)
  have b_isinstance:mg "isinstance"=none:=by
   refine' Yp KX G ?a
   (case a=>k_is)
  have b_len:mg "len"=none:=by
   refine' Yp KX G ?a
   (case a=>k_is)
  have b_list:mg "list"=none:=by
   refine' Yp KX G ?a
   (case a=>k_is)
  have b_max:mg "max"=none:=by
   refine' Yp KX G ?a
   (case a=>k_is)
  have b_min:mg "min"=none:=by
   refine' Yp KX G ?a
   (case a=>k_is)
  have b_range:mg "range"=none:=by
   refine' Yp KX G ?a
   (case a=>k_is)
  have b_reversed:mg "reversed"=none:=by
   refine' Yp KX G ?a
   (case a=>k_is)
  have b_str:mg "str"=none:=by
   refine' Yp KX G ?a
   (case a=>k_is)
  have b_sum:mg "sum"=none:=by
   refine' Yp KX G ?a
   (case a=>k_is)
  have b_tuple:mg "tuple"=none:=by
   refine' Yp KX G ?a
   (case a=>k_is)
  have b_zip:mg "zip"=none:=by
   refine' Yp KX G ?a
   (case a=>k_is)
  have c_CROSS:∃ t,mg "CROSS"=some (.str "x" t):=by
   refine' L2.mF KX G ?a ?h
   (case a=>k_is);(case h=>exact ⟨_,by with_unfolding_all rfl⟩)
  have c_LETTERS:∃ t,mg "LETTERS"=some (.str "abcdefghijklmnopqrstuvwxyz" t):=by
   refine' L2.mF KX G ?a ?h
   (case a=>k_is);(case h=>exact ⟨_,by with_unfolding_all rfl⟩)
  have c_MOST_LINES:∃ t,mg "MOST_LINES"=some (.int 96 t):=by
   refine' L2.mF KX G ?a ?h
   (case a=>k_is);(case h=>exact ⟨_,by with_unfolding_all rfl⟩)
  have c_MOST_SIGNS:∃ t,mg "MOST_SIGNS"=some (.int 48 t):=by
   refine' L2.mF KX G ?a ?h
   (case a=>k_is);(case h=>exact ⟨_,by with_unfolding_all rfl⟩)
  have c_POINT:∃ t,mg "POINT"=some (.str "." t):=by
   refine' L2.mF KX G ?a ?h
   (case a=>k_is);(case h=>exact ⟨_,by with_unfolding_all rfl⟩)
  have c_TOUCH:∃ t,mg "TOUCH"=some (.str "o" t):=by
   refine' L2.mF KX G ?a ?h
   (case a=>k_is);(case h=>exact ⟨_,by with_unfolding_all rfl⟩)
  have d_is_number:L2.fQ (L2.KOf KX) mg "is_number" My.oO:=by
   dsimp only [L2.KOf]
   refine' L2.bw KX G ?a ?l ?c ?k
   (case a=>k_is);(case l=>k_is);(case c=>k_is);(case k=>k_is)
  have d_is_within:L2.fQ (L2.KOf KX) mg "is_within" My.oR:=by
   dsimp only [L2.KOf]
   refine' L2.bw KX G ?a ?l ?c ?k
   (case a=>k_is);(case l=>k_is);(case c=>k_is);(case k=>k_is)
  have d_is_letter:L2.fQ (L2.KOf KX) mg "is_letter" My.oU:=by
   dsimp only [L2.KOf]
   refine' L2.bw KX G ?a ?l ?c ?k
   (case a=>k_is);(case l=>k_is);(case c=>k_is);(case k=>k_is)
  have d_is_sign:L2.fQ (L2.KOf KX) mg "is_sign" My.tW:=by
   dsimp only [L2.KOf]
   refine' L2.bw KX G ?a ?l ?c ?k
   (case a=>k_is);(case l=>k_is);(case c=>k_is);(case k=>k_is)
  have d_need_place:L2.fQ (L2.KOf KX) mg "need_place" My.mV:=by
   dsimp only [L2.KOf]
   refine' L2.bw KX G ?a ?l ?c ?k
   (case a=>k_is);(case l=>k_is);(case c=>k_is);(case k=>k_is)
  have d_need_sign:L2.fQ (L2.KOf KX) mg "need_sign" My.oV:=by
   dsimp only [L2.KOf]
   refine' L2.bw KX G ?a ?l ?c ?k
   (case a=>k_is);(case l=>k_is);(case c=>k_is);(case k=>k_is)
  have d_is_row:L2.fQ (L2.KOf KX) mg "is_row" My.sy:=by
   dsimp only [L2.KOf]
   refine' L2.bw KX G ?a ?l ?c ?k
   (case a=>k_is);(case l=>k_is);(case c=>k_is);(case k=>k_is)
  have d_need_row:L2.fQ (L2.KOf KX) mg "need_row" My.qG:=by
   dsimp only [L2.KOf]
   refine' L2.bw KX G ?a ?l ?c ?k
   (case a=>k_is);(case l=>k_is);(case c=>k_is);(case k=>k_is)
  have d_need_rows:L2.fQ (L2.KOf KX) mg "need_rows" My.oW:=by
   dsimp only [L2.KOf]
   refine' L2.bw KX G ?a ?l ?c ?k
   (case a=>k_is);(case l=>k_is);(case c=>k_is);(case k=>k_is)
  have d_lines_above:L2.fQ (L2.KOf KX) mg "lines_above" My.jz:=by
   dsimp only [L2.KOf]
   refine' L2.bw KX G ?a ?l ?c ?k
   (case a=>k_is);(case l=>k_is);(case c=>k_is);(case k=>k_is)
  have d_signs_of_row:L2.fQ (L2.KOf KX) mg "signs_of_row" My.jX:=by
   dsimp only [L2.KOf]
   refine' L2.bw KX G ?a ?l ?c ?k
   (case a=>k_is);(case l=>k_is);(case c=>k_is);(case k=>k_is)
  have d_over_row:L2.fQ (L2.KOf KX) mg "over_row" My.qH:=by
   dsimp only [L2.KOf]
   refine' L2.bw KX G ?a ?l ?c ?k
   (case a=>k_is);(case l=>k_is);(case c=>k_is);(case k=>k_is)
  have d_cells_of:L2.fQ (L2.KOf KX) mg "cells_of" My.qI:=by
   dsimp only [L2.KOf]
   refine' L2.bw KX G ?a ?l ?c ?k
   (case a=>k_is);(case l=>k_is);(case c=>k_is);(case k=>k_is)
  have d_ends_of:L2.fQ (L2.KOf KX) mg "ends_of" My.tX:=by
   dsimp only [L2.KOf]
   refine' L2.bw KX G ?a ?l ?c ?k
   (case a=>k_is);(case l=>k_is);(case c=>k_is);(case k=>k_is)
  have d_over_cells:L2.fQ (L2.KOf KX) mg "over_cells" My.mW:=by
   dsimp only [L2.KOf]
   refine' L2.bw KX G ?a ?l ?c ?k
   (case a=>k_is);(case l=>k_is);(case c=>k_is);(case k=>k_is)
  have d_ways_of:L2.fQ (L2.KOf KX) mg "ways_of" My.pM:=by
   dsimp only [L2.KOf]
   refine' L2.bw KX G ?a ?l ?c ?k
   (case a=>k_is);(case l=>k_is);(case c=>k_is);(case k=>k_is)
  have d_is_turning:L2.fQ (L2.KOf KX) mg "is_turning" My.mX:=by
   dsimp only [L2.KOf]
   refine' L2.bw KX G ?a ?l ?c ?k
   (case a=>k_is);(case l=>k_is);(case c=>k_is);(case k=>k_is)
  have d_need_turning:L2.fQ (L2.KOf KX) mg "need_turning" My.jY:=by
   dsimp only [L2.KOf]
   refine' L2.bw KX G ?a ?l ?c ?k
   (case a=>k_is);(case l=>k_is);(case c=>k_is);(case k=>k_is)
  have d_straight:L2.fQ (L2.KOf KX) mg "straight" My.qJ:=by
   dsimp only [L2.KOf]
   refine' L2.bw KX G ?a ?l ?c ?k
   (case a=>k_is);(case l=>k_is);(case c=>k_is);(case k=>k_is)
  have d_opposite:L2.fQ (L2.KOf KX) mg "opposite" My.qK:=by
   dsimp only [L2.KOf]
   refine' L2.bw KX G ?a ?l ?c ?k
   (case a=>k_is);(case l=>k_is);(case c=>k_is);(case k=>k_is)
  have d_do_steps:L2.fQ (L2.KOf KX) mg "do_steps" My.qL:=by
   dsimp only [L2.KOf]
   refine' L2.bw KX G ?a ?l ?c ?k
   (case a=>k_is);(case l=>k_is);(case c=>k_is);(case k=>k_is)
  have d_steps_of:L2.fQ (L2.KOf KX) mg "steps_of" My.qM:=by
   dsimp only [L2.KOf]
   refine' L2.bw KX G ?a ?l ?c ?k
   (case a=>k_is);(case l=>k_is);(case c=>k_is);(case k=>k_is)
  have d_need_alike:L2.fQ (L2.KOf KX) mg "need_alike" My.mY:=by
   dsimp only [L2.KOf]
   refine' L2.bw KX G ?a ?l ?c ?k
   (case a=>k_is);(case l=>k_is);(case c=>k_is);(case k=>k_is)
  have d_laid:L2.fQ (L2.KOf KX) mg "laid" My.CQ:=by
   dsimp only [L2.KOf]
   refine' L2.bw KX G ?a ?l ?c ?k
   (case a=>k_is);(case l=>k_is);(case c=>k_is);(case k=>k_is)
  have d_lines_over:L2.fQ (L2.KOf KX) mg "lines_over" My.jO:=by
   dsimp only [L2.KOf]
   refine' L2.bw KX G ?a ?l ?c ?k
   (case a=>k_is);(case l=>k_is);(case c=>k_is);(case k=>k_is)
  have d_law_cell:L2.fQ (L2.KOf KX) mg "_law_cell" My.qN:=by
   dsimp only [L2.KOf]
   refine' L2.bw KX G ?a ?l ?c ?k
   (case a=>k_is);(case l=>k_is);(case c=>k_is);(case k=>k_is)
  have d_law_drawn:L2.fQ (L2.KOf KX) mg "_law_drawn" My.oX:=by
   dsimp only [L2.KOf]
   refine' L2.bw KX G ?a ?l ?c ?k
   (case a=>k_is);(case l=>k_is);(case c=>k_is);(case k=>k_is)
  have d_law_signs:L2.fQ (L2.KOf KX) mg "_law_signs" My.lH:=by
   dsimp only [L2.KOf]
   refine' L2.bw KX G ?a ?l ?c ?k
   (case a=>k_is);(case l=>k_is);(case c=>k_is);(case k=>k_is)
  have d_law_row:L2.fQ (L2.KOf KX) mg "_law_row" My.pN:=by
   dsimp only [L2.KOf]
   refine' L2.bw KX G ?a ?l ?c ?k
   (case a=>k_is);(case l=>k_is);(case c=>k_is);(case k=>k_is)
  have d_law_put:L2.fQ (L2.KOf KX) mg "_law_put" My.pO:=by
   dsimp only [L2.KOf]
   refine' L2.bw KX G ?a ?l ?c ?k
   (case a=>k_is);(case l=>k_is);(case c=>k_is);(case k=>k_is)
  have d_law_out:L2.fQ (L2.KOf KX) mg "_law_out" My.pP:=by
   dsimp only [L2.KOf]
   refine' L2.bw KX G ?a ?l ?c ?k
   (case a=>k_is);(case l=>k_is);(case c=>k_is);(case k=>k_is)
  have d_law_done:L2.fQ (L2.KOf KX) mg "_law_done" My.qO:=by
   dsimp only [L2.KOf]
   refine' L2.bw KX G ?a ?l ?c ?k
   (case a=>k_is);(case l=>k_is);(case c=>k_is);(case k=>k_is)
  have d_law_stands:L2.fQ (L2.KOf KX) mg "_law_stands" My.mZ:=by
   dsimp only [L2.KOf]
   refine' L2.bw KX G ?a ?l ?c ?k
   (case a=>k_is);(case l=>k_is);(case c=>k_is);(case k=>k_is)
  have d_law:L2.fQ (L2.KOf KX) mg "law" My.Af:=by
   dsimp only [L2.KOf]
   refine' L2.bw KX G ?a ?l ?c ?k
   (case a=>k_is);(case l=>k_is);(case c=>k_is);(case k=>k_is)
  have x_NoRow:L2.p6 (L2.KOf KX) mg "NoRow" ["found"] "NoRow.__init__" My.Ep:=by
   dsimp only [L2.KOf]
   refine' L2.vX KX G ?a ?b ?kp ?na ?i ?t ?l ?c ?k
   (case a=>k_is);(case b=>kernel_rfl);(case kp=>k_is);(case na=>kernel_rfl);(case i=>k_is);(case t=>k_is);(case l=>k_is);(case c=>k_is);(case k=>k_is)
  have x_NoLetter:L2.p6 (L2.KOf KX) mg "NoLetter" ["found"] "NoLetter.__init__" My.wB:=by
   dsimp only [L2.KOf]
   refine' L2.vX KX G ?a ?b ?kp ?na ?i ?t ?l ?c ?k
   (case a=>k_is);(case b=>kernel_rfl);(case kp=>k_is);(case na=>kernel_rfl);(case i=>k_is);(case t=>k_is);(case l=>k_is);(case c=>k_is);(case k=>k_is)
  have x_NoPlace:L2.p6 (L2.KOf KX) mg "NoPlace" ["found"] "NoPlace.__init__" My.mJ:=by
   dsimp only [L2.KOf]
   refine' L2.vX KX G ?a ?b ?kp ?na ?i ?t ?l ?c ?k
   (case a=>k_is);(case b=>kernel_rfl);(case kp=>k_is);(case na=>kernel_rfl);(case i=>k_is);(case t=>k_is);(case l=>k_is);(case c=>k_is);(case k=>k_is)
  have x_NoSpan:L2.p6 (L2.KOf KX) mg "NoSpan" ["begin","end"] "NoSpan.__init__" My.Ag:=by
   dsimp only [L2.KOf]
   refine' L2.vX KX G ?a ?b ?kp ?na ?i ?t ?l ?c ?k
   (case a=>k_is);(case b=>kernel_rfl);(case kp=>k_is);(case na=>kernel_rfl);(case i=>k_is);(case t=>k_is);(case l=>k_is);(case c=>k_is);(case k=>k_is)
  have x_NoTurning:L2.p6 (L2.KOf KX) mg "NoTurning" ["found"] "NoTurning.__init__" My.uH:=by
   dsimp only [L2.KOf]
   refine' L2.vX KX G ?a ?b ?kp ?na ?i ?t ?l ?c ?k
   (case a=>k_is);(case b=>kernel_rfl);(case kp=>k_is);(case na=>kernel_rfl);(case i=>k_is);(case t=>k_is);(case l=>k_is);(case c=>k_is);(case k=>k_is)
  have x_Unlike:L2.p6 (L2.KOf KX) mg "Unlike" ["one","other"] "Unlike.__init__" My.Ah:=by
   dsimp only [L2.KOf]
   refine' L2.vX KX G ?a ?b ?kp ?na ?i ?t ?l ?c ?k
   (case a=>k_is);(case b=>kernel_rfl);(case kp=>k_is);(case na=>kernel_rfl);(case i=>k_is);(case t=>k_is);(case l=>k_is);(case c=>k_is);(case k=>k_is)
  have x_TooLong:L2.p6 (L2.KOf KX) mg "TooLong" ["found"] "TooLong.__init__" My.mK:=by
   dsimp only [L2.KOf]
   refine' L2.vX KX G ?a ?b ?kp ?na ?i ?t ?l ?c ?k
   (case a=>k_is);(case b=>kernel_rfl);(case kp=>k_is);(case na=>kernel_rfl);(case i=>k_is);(case t=>k_is);(case l=>k_is);(case c=>k_is);(case k=>k_is)
  have o_Board:L2.uT (L2.KOf KX) mg "Board":=by
   dsimp only [L2.KOf]
   refine' L2.Kf KX G ?a ?b ?s ?m ?k
   (case a=>k_is);(case b=>kernel_rfl);(case s=>k_is);(case m=>first | k_is | kernel_rfl);(case k=>k_is)
  have n_Board:∀ f∈(["held_side","held_top","held_cells","held_coming","held_lines","held_ways"]:List Str),L2.NoAttr (L2.KOf KX) (L2.aM mg "Board") f:=by
   dsimp only [L2.KOf]
   refine' L2.Kg KX G ?a ?b
   (case a=>k_is);(case b=>kernel_rfl)
  have o_Node:L2.uT (L2.KOf KX) mg "Node":=by
   dsimp only [L2.KOf]
   refine' L2.Kf KX G ?a ?b ?s ?m ?k
   (case a=>k_is);(case b=>kernel_rfl);(case s=>k_is);(case m=>first | k_is | kernel_rfl);(case k=>k_is)
  have n_Node:∀ f∈(["mark","held_lines","halves","many","tall"]:List Str),L2.NoAttr (L2.KOf KX) (L2.aM mg "Node") f:=by
   dsimp only [L2.KOf]
   refine' L2.Kg KX G ?a ?b
   (case a=>k_is);(case b=>kernel_rfl)
  have o_Kept:L2.uT (L2.KOf KX) mg "Kept":=by
   dsimp only [L2.KOf]
   refine' L2.Kf KX G ?a ?b ?s ?m ?k
   (case a=>k_is);(case b=>kernel_rfl);(case s=>k_is);(case m=>first | k_is | kernel_rfl);(case k=>k_is)
  have n_Kept:∀ f∈(["held_side","held_top","last_mark","mark_before","held_root"]:List Str),L2.NoAttr (L2.KOf KX) (L2.aM mg "Kept") f:=by
   dsimp only [L2.KOf]
   refine' L2.Kg KX G ?a ?b
   (case a=>k_is);(case b=>kernel_rfl)
  have m_Board___init__:L2.eU (L2.KOf KX) mg "Board" "__init__" "Board.__init__" My.jn:=by
   dsimp only [L2.KOf]
   refine' L2.iR KX G ?a ?i ?n ?l ?c ?k
   (case a=>k_is);(case i=>k_is);(case n=>first | k_is | kernel_rfl);(case l=>k_is);(case c=>k_is);(case k=>k_is)
  have m_Board_lines:L2.eU (L2.KOf KX) mg "Board" "lines" "Board.lines" My.lV:=by
   dsimp only [L2.KOf]
   refine' L2.iR KX G ?a ?i ?n ?l ?c ?k
   (case a=>k_is);(case i=>k_is);(case n=>first | k_is | kernel_rfl);(case l=>k_is);(case c=>k_is);(case k=>k_is)
  have m_Node___init__:L2.eU (L2.KOf KX) mg "Node" "__init__" "Node.__init__" My.fG:=by
   dsimp only [L2.KOf]
   refine' L2.iR KX G ?a ?i ?n ?l ?c ?k
   (case a=>k_is);(case i=>k_is);(case n=>first | k_is | kernel_rfl);(case l=>k_is);(case c=>k_is);(case k=>k_is)
  have m_Kept___init__:L2.eU (L2.KOf KX) mg "Kept" "__init__" "Kept.__init__" My.jF:=by
   dsimp only [L2.KOf]
   refine' L2.iR KX G ?a ?i ?n ?l ?c ?k
   (case a=>k_is);(case i=>k_is);(case n=>first | k_is | kernel_rfl);(case l=>k_is);(case c=>k_is);(case k=>k_is)
  have m_Kept_side:L2.eU (L2.KOf KX) mg "Kept" "side" "Kept.side" My.oY:=by
   dsimp only [L2.KOf]
   refine' L2.iR KX G ?a ?i ?n ?l ?c ?k
   (case a=>k_is);(case i=>k_is);(case n=>first | k_is | kernel_rfl);(case l=>k_is);(case c=>k_is);(case k=>k_is)
  have m_Kept_top:L2.eU (L2.KOf KX) mg "Kept" "top" "Kept.top" My.qP:=by
   dsimp only [L2.KOf]
   refine' L2.iR KX G ?a ?i ?n ?l ?c ?k
   (case a=>k_is);(case i=>k_is);(case n=>first | k_is | kernel_rfl);(case l=>k_is);(case c=>k_is);(case k=>k_is)
  have m_Kept_fresh_mark:L2.eU (L2.KOf KX) mg "Kept" "fresh_mark" "Kept.fresh_mark" My.jf:=by
   dsimp only [L2.KOf]
   refine' L2.iR KX G ?a ?i ?n ?l ?c ?k
   (case a=>k_is);(case i=>k_is);(case n=>first | k_is | kernel_rfl);(case l=>k_is);(case c=>k_is);(case k=>k_is)
  have m_Kept_strip_node:L2.eU (L2.KOf KX) mg "Kept" "strip_node" "Kept.strip_node" My.jg:=by
   dsimp only [L2.KOf]
   refine' L2.iR KX G ?a ?i ?n ?l ?c ?k
   (case a=>k_is);(case i=>k_is);(case n=>first | k_is | kernel_rfl);(case l=>k_is);(case c=>k_is);(case k=>k_is)
  have m_Kept_joined:L2.eU (L2.KOf KX) mg "Kept" "joined" "Kept.joined" My.lW:=by
   dsimp only [L2.KOf]
   refine' L2.iR KX G ?a ?i ?n ?l ?c ?k
   (case a=>k_is);(case i=>k_is);(case n=>first | k_is | kernel_rfl);(case l=>k_is);(case c=>k_is);(case k=>k_is)
  have m_Kept_built:L2.eU (L2.KOf KX) mg "Kept" "built" "Kept.built" My.m5:=by
   dsimp only [L2.KOf]
   refine' L2.iR KX G ?a ?i ?n ?l ?c ?k
   (case a=>k_is);(case i=>k_is);(case n=>first | k_is | kernel_rfl);(case l=>k_is);(case c=>k_is);(case k=>k_is)
  have m_Kept_evened:L2.eU (L2.KOf KX) mg "Kept" "evened" "Kept.evened" My.lX:=by
   dsimp only [L2.KOf]
   refine' L2.iR KX G ?a ?i ?n ?l ?c ?k
   (case a=>k_is);(case i=>k_is);(case n=>first | k_is | kernel_rfl);(case l=>k_is);(case c=>k_is);(case k=>k_is)
  have m_Kept_evened_down:L2.eU (L2.KOf KX) mg "Kept" "evened_down" "Kept.evened_down" My.iI:=by
   dsimp only [L2.KOf]
   refine' L2.iR KX G ?a ?i ?n ?l ?c ?k
   (case a=>k_is);(case i=>k_is);(case n=>first | k_is | kernel_rfl);(case l=>k_is);(case c=>k_is);(case k=>k_is)
  have m_Kept_evened_up:L2.eU (L2.KOf KX) mg "Kept" "evened_up" "Kept.evened_up" My.jo:=by
   dsimp only [L2.KOf]
   refine' L2.iR KX G ?a ?i ?n ?l ?c ?k
   (case a=>k_is);(case i=>k_is);(case n=>first | k_is | kernel_rfl);(case l=>k_is);(case c=>k_is);(case k=>k_is)
  have m_Kept_with_put:L2.eU (L2.KOf KX) mg "Kept" "with_put" "Kept.with_put" My.jG:=by
   dsimp only [L2.KOf]
   refine' L2.iR KX G ?a ?i ?n ?l ?c ?k
   (case a=>k_is);(case i=>k_is);(case n=>first | k_is | kernel_rfl);(case l=>k_is);(case c=>k_is);(case k=>k_is)
  have m_Kept_without:L2.eU (L2.KOf KX) mg "Kept" "without" "Kept.without" My.jZ:=by
   dsimp only [L2.KOf]
   refine' L2.iR KX G ?a ?i ?n ?l ?c ?k
   (case a=>k_is);(case i=>k_is);(case n=>first | k_is | kernel_rfl);(case l=>k_is);(case c=>k_is);(case k=>k_is)
  have m_Kept_with_change:L2.eU (L2.KOf KX) mg "Kept" "with_change" "Kept.with_change" My.iJ:=by
   dsimp only [L2.KOf]
   refine' L2.iR KX G ?a ?i ?n ?l ?c ?k
   (case a=>k_is);(case i=>k_is);(case n=>first | k_is | kernel_rfl);(case l=>k_is);(case c=>k_is);(case k=>k_is)
  have m_Kept_put:L2.eU (L2.KOf KX) mg "Kept" "put" "Kept.put" My.qQ:=by
   dsimp only [L2.KOf]
   refine' L2.iR KX G ?a ?i ?n ?l ?c ?k
   (case a=>k_is);(case i=>k_is);(case n=>first | k_is | kernel_rfl);(case l=>k_is);(case c=>k_is);(case k=>k_is)
  have m_Kept_drop:L2.eU (L2.KOf KX) mg "Kept" "drop" "Kept.drop" My.oZ:=by
   dsimp only [L2.KOf]
   refine' L2.iR KX G ?a ?i ?n ?l ?c ?k
   (case a=>k_is);(case i=>k_is);(case n=>first | k_is | kernel_rfl);(case l=>k_is);(case c=>k_is);(case k=>k_is)
  have m_Kept_change:L2.eU (L2.KOf KX) mg "Kept" "change" "Kept.change" My.lY:=by
   dsimp only [L2.KOf]
   refine' L2.iR KX G ?a ?i ?n ?l ?c ?k
   (case a=>k_is);(case i=>k_is);(case n=>first | k_is | kernel_rfl);(case l=>k_is);(case c=>k_is);(case k=>k_is)
  have m_Kept_retop:L2.eU (L2.KOf KX) mg "Kept" "retop" "Kept.retop" My.m6:=by
   dsimp only [L2.KOf]
   refine' L2.iR KX G ?a ?i ?n ?l ?c ?k
   (case a=>k_is);(case i=>k_is);(case n=>first | k_is | kernel_rfl);(case l=>k_is);(case c=>k_is);(case k=>k_is)
  have u_NoPlace_NoPlace:L2.Sub (L2.KOf KX) mg "NoPlace" "NoPlace" true:=by
   dsimp only [L2.KOf]
   refine' L2.yJ KX G ?a ?b ?m ?o
   (case a=>k_is);(case b=>k_is);(case m=>k_is);(case o=>kernel_rfl)
  have u_NoPlace_TooLong:L2.Sub (L2.KOf KX) mg "NoPlace" "TooLong" false:=by
   dsimp only [L2.KOf]
   refine' L2.yJ KX G ?a ?b ?m ?o
   (case a=>k_is);(case b=>k_is);(case m=>k_is);(case o=>kernel_rfl)
  have u_TooLong_NoPlace:L2.Sub (L2.KOf KX) mg "TooLong" "NoPlace" false:=by
   dsimp only [L2.KOf]
   refine' L2.yJ KX G ?a ?b ?m ?o
   (case a=>k_is);(case b=>k_is);(case m=>k_is);(case o=>kernel_rfl)
  have u_TooLong_TooLong:L2.Sub (L2.KOf KX) mg "TooLong" "TooLong" true:=by
   dsimp only [L2.KOf]
   refine' L2.yJ KX G ?a ?b ?m ?o
   (case a=>k_is);(case b=>k_is);(case m=>k_is);(case o=>kernel_rfl)
  exact ⟨d_law,fun base f fd F=>My.UL ⟨b_all,b_bool,b_enumerate,b_int,b_isinstance,b_len,b_list,b_max,b_min,b_range,b_reversed,b_str,b_sum,b_tuple,b_zip,c_CROSS,c_LETTERS,c_MOST_LINES,c_MOST_SIGNS,c_POINT,c_TOUCH,d_is_number,d_is_within,d_is_letter,d_is_sign,d_need_place,d_need_sign,d_is_row,d_need_row,d_need_rows,d_lines_above,d_signs_of_row,d_over_row,d_cells_of,d_ends_of,d_over_cells,d_ways_of,d_is_turning,d_need_turning,d_straight,d_opposite,d_do_steps,d_steps_of,d_need_alike,d_laid,d_lines_over,d_law_cell,d_law_drawn,d_law_signs,d_law_row,d_law_put,d_law_out,d_law_done,d_law_stands,d_law,x_NoRow,x_NoLetter,x_NoPlace,x_NoSpan,x_NoTurning,x_Unlike,x_TooLong,o_Board,n_Board,o_Node,n_Node,o_Kept,n_Kept,m_Board___init__,m_Board_lines,m_Node___init__,m_Kept___init__,m_Kept_side,m_Kept_top,m_Kept_fresh_mark,m_Kept_strip_node,m_Kept_joined,m_Kept_built,m_Kept_evened,m_Kept_evened_down,m_Kept_evened_up,m_Kept_with_put,m_Kept_without,m_Kept_with_change,m_Kept_put,m_Kept_drop,m_Kept_change,m_Kept_retop,u_NoPlace_NoPlace,u_NoPlace_TooLong,u_TooLong_NoPlace,u_TooLong_TooLong⟩ F⟩
