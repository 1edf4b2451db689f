import PyProof.Rows.All
import Wide.All
import OpenK.AllK
import Wide.FinOn
import Lean
import PyProof.EqAt
import PyProof.EqKinds
import PyProof.TupleCall
import PyProof.ReprRoads
import KE.KSortTup
import KE.KDictList
import KE.KMinKey
import KE.KIntText
import KE.KLam
import KE.KNestM
import PySem.Challenge.RW_panethread_k64_costs_of_stretches
noncomputable section
abbrev XJ:=@PySem.wpAny_bind
abbrev XM:=@List.getElem?_eq_some_iff
abbrev XN:=@PySem.Heap.get?_push_of_some
abbrev XQ:=@Nat.le_refl
abbrev XR:=@List.getElem?_eq_getElem
abbrev XS:=@PySem.wpAny_pure
abbrev XX:=@List.getElem?_map
abbrev X4:=@PySem.Heap.get?_push_size
abbrev X5:=@PySem.Heap.lt_size
abbrev X6:=@List.getD_eq_getElem?_getD
abbrev X7:=@List.mem_cons
abbrev X8:=@List.length_map
abbrev Yb:=@Bool.false_ne_true
abbrev Yc:=@List.size_toArray
abbrev Yd:=@Nat.lt_of_lt_of_le
abbrev Ye:=@List.getElem?_append_left
abbrev Yg:=@Bool.and_eq_true
abbrev Yh:=@PySem.F.plainAttrs_list
abbrev Yi:=@List.mem_cons_of_mem
abbrev Yj:=@decide_eq_true
abbrev Yk:=@List.map_append
abbrev Yl:=@decide_eq_false
abbrev Ym:=@Option.some.inj
abbrev Yn:=@List.getElem?_append_right
abbrev Yo:=@PySem.F.slot_list_append
abbrev Yp:=@PySem.F.type_list_append
abbrev Yq:=@List.mem_nil_iff
abbrev Yr:=@List.lookup_cons
abbrev Ys:=@List.map_cons
abbrev Yt:=@List.getElem?_range
abbrev Yu:=@PyProof.Rows.callWith_type1
abbrev Yv:=@Array.length_toList
abbrev Yw:=@List.mem_cons_self
abbrev Yx:=@PySem.PassesOwn.never
abbrev Yy:=@Nat.ne_of_lt
abbrev Yz:=@Nat.le_trans
abbrev YB:=@PySem.Heap.get?_update_other
abbrev YC:=@List.mem_range
abbrev YD:=@List.mem_singleton
abbrev YF:=@PySem.W.mg_none_of
abbrev YG:=@List.mem_of_getElem?
abbrev YH:=@List.mem_append_right
abbrev YJ:=@List.range_succ
abbrev YK:=@PySem.wpAny_mono
abbrev YL:=@PySem.wpAny_field
abbrev YM:=@PySem.Heap.get?_update_self
abbrev YQ:=@List.all_cons
abbrev YS:=@PySem.mem_of_lookup
abbrev YT:=@Nat.zero_le
abbrev YW:=@PySem.Heap.size_push
abbrev YX:=@PySem.wpAny_Call_Name_kw
abbrev YZ:=@List.mem_map
abbrev Y0:=@PySem.wpAny_callSpecial?_slot
abbrev Y4:=@decide_eq_false_iff_not
abbrev Y5:=@List.length_cons
abbrev Y6:=@PySem.wpAny_newObj_type
abbrev Y7:=@PySem.wpAny_holding
abbrev Y8:=@Array.getD_eq_getD_getElem?
abbrev Y9:=@beq_eq_false_iff_ne
abbrev Za:=@List.length_append
abbrev Zb:=@List.mem_append
abbrev Zc:=@PySem.W.kia_one
abbrev Zd:=@Nat.lt_irrefl
abbrev Ze:=@PySem.wpAny_truthy_bool
abbrev Zf:=@List.getElem?_set_ne
abbrev Zg:=@List.contains_cons
abbrev Zh:=@PySem.wpAny_call_entry
abbrev Zi:=@List.all_eq_true
abbrev Zj:=@List.take_of_length_le
abbrev Zk:=@PySem.wpAny_loadPart_at
abbrev Zm:=@Nat.sub_self
abbrev Zn:=@PySem.Obj.data_mapFields
abbrev Zo:=@PySem.W.looks_findIn
abbrev Zq:=@PySem.wpAny_of_eq
abbrev Zr:=@List.getElem?_set_self
abbrev Zt:=@Nat.ne_of_gt
abbrev Zu:=@List.flatten_cons
abbrev Zv:=@PySem.wpAny_seqItems
abbrev Zw:=@List.replicate_succ
abbrev Zx:=@List.map_congr_left
abbrev Zy:=@List.append_nil
abbrev Zz:=@Nat.not_lt_zero
abbrev ZC:=@PyProof.Rows.slot_tuple_getitem
abbrev ZD:=@PySem.builtinLookup_eq_fast
abbrev ZF:=@beq_iff_eq
abbrev ZG:=@PySem.W.mg_of
abbrev ZJ:=@List.map_map
abbrev ZK:=@PySem.wpAny_pyIter_revIter
abbrev ZL:=@PySem.wpAny_attempt
abbrev ZM:=@PySem.F.plain_min_loop
abbrev ZP:=@PySem.W.callWith_K
abbrev ZQ:=@Array.getElem?_toList
abbrev ZR:=@List.getElem?_eq_none
abbrev ZS:=@PySem.Obj.isFreed_of_fields
abbrev ZV:=@Array.getElem?_eq_getElem
abbrev ZW:=@List.pairwise_iff_getElem
abbrev ZX:=@List.mem_append_left
abbrev ZZ:=@Nat.le_of_succ_le
abbrev Z0:=@Bool.or_eq_false_iff
abbrev Z1:=@PySem.wpAny_isSubtype_exc
abbrev Z2:=@PySem.Heap.SameBut.update
abbrev Z3:=@Nat.lt_succ_self
abbrev Z4:=@PySem.wpAny_getItem_str_slice
abbrev Z5:=@PySem.wpAny_setField
abbrev Z6:=@Bool.false_eq_true
abbrev Z7:=@PySem.wpAny_setField_rec
abbrev Z8:=@Option.map_eq_some_iff
abbrev Z9:=@List.find?_cons
abbrev gV:=@PySem.typeLookup_type
abbrev Aaa:=@List.append_assoc
abbrev Aab:=@decide_eq_true_eq
abbrev Aac:=@PySem.wpAny_pyIter_enum
abbrev Aad:=@List.nodup_append
abbrev Aae:=@List.take_add_one
abbrev Aaf:=@PySem.wpAny_loadPart
abbrev Aag:=@PySem.wpAny_call
abbrev Aah:=@List.mem_iff_getElem
abbrev Aai:=@PySem.isSubtype_type
abbrev Aaj:=@PySem.codeAny_call_builtin
abbrev Aak:=@PySem.Around.under_plainId
abbrev Aal:=@List.length_take
abbrev Aam:=@List.getElem_mem
abbrev Aan:=@PySem.wpAny_isInstance
abbrev Aao:=@Nat.zero_add
abbrev Aap:=@List.any_cons
abbrev Aaq:=@PySem.plainId_quiet
abbrev Aar:=@Bool.true_and
local macro_rules | `(tactic| trivial) => `(tactic| decide +kernel)
set_option compiler.extract_closed false
set_option Elab.async false
set_option linter.all false
set_option maxRecDepth 100000
namespace L2
@[elab_as_elim] theorem oW {p:List PySem.Value->Prop} (h:∀ a0:PySem.Value,p [a0]) (us:List PySem.Value) (hl:us.length=1):p us:=by
 rcases us with _ | ⟨a0,us0⟩
 ·cases hl
 rcases us0 with _ | ⟨b,us⟩
 ·exact h a0
 ·cases hl
@[elab_as_elim] theorem my {p:List PySem.Value->Prop} (h:∀ a0 a1:PySem.Value,p [a0,a1]) (us:List PySem.Value) (hl:us.length=2):p us:=by
 rcases us with _ | ⟨a0,us0⟩
 ·cases hl
 rcases us0 with _ | ⟨a1,us1⟩
 ·cases hl
 rcases us1 with _ | ⟨b,us⟩
 ·exact h a0 a1
 ·cases hl
@[elab_as_elim] theorem oX {p:List PySem.Value->Prop} (h:∀ a0 a1 a2:PySem.Value,p [a0,a1,a2]) (us:List PySem.Value) (hl:us.length=3):p us:=by
 rcases us with _ | ⟨a0,us0⟩
 ·cases hl
 rcases us0 with _ | ⟨a1,us1⟩
 ·cases hl
 rcases us1 with _ | ⟨a2,us2⟩
 ·cases hl
 rcases us2 with _ | ⟨b,us⟩
 ·exact h a0 a1 a2
 ·cases hl
@[elab_as_elim] theorem Ms {p:List PySem.Value->Prop} (h:∀ a0 a1 a2 a3:PySem.Value,p [a0,a1,a2,a3]) (us:List PySem.Value) (hl:us.length=4):p us:=by
 rcases us with _ | ⟨a0,us0⟩
 ·cases hl
 rcases us0 with _ | ⟨a1,us1⟩
 ·cases hl
 rcases us1 with _ | ⟨a2,us2⟩
 ·cases hl
 rcases us2 with _ | ⟨a3,us3⟩
 ·cases hl
 rcases us3 with _ | ⟨b,us⟩
 ·exact h a0 a1 a2 a3
 ·cases hl
@[elab_as_elim] theorem usN5 {p:List PySem.Value->Prop} (h:∀ a0 a1 a2 a3 a4:PySem.Value,p [a0,a1,a2,a3,a4]) (us:List PySem.Value) (hl:us.length=5):p us:=by
 rcases us with _ | ⟨a0,us0⟩
 ·cases hl
 rcases us0 with _ | ⟨a1,us1⟩
 ·cases hl
 rcases us1 with _ | ⟨a2,us2⟩
 ·cases hl
 rcases us2 with _ | ⟨a3,us3⟩
 ·cases hl
 rcases us3 with _ | ⟨a4,us4⟩
 ·cases hl
 rcases us4 with _ | ⟨b,us⟩
 ·exact h a0 a1 a2 a3 a4
 ·cases hl
theorem auto1 (h:True:=by first | exact .inl rfl | exact .inr rfl | assumption):True:=h
theorem auto2 (h:True:=by decide):True:=h
theorem auto3 (h:True:=by intro _;rfl):True:=h
theorem auto4 (h:True:=by rfl):True:=h
theorem auto5 (h:True:=by with_unfolding_all rfl):True:=h
theorem auto6 (h:True:=by trivial):True:=h
theorem auto7 (h:True:=by kernel_rfl):True:=h
open PySem PySem.Spec PyProof.Rows
abbrev Key:=Sum Int Str
def w5:Key->Value->Bool
 | .inl k,v=>Value.isInt k v
 | .inr x,v=>Value.isStrOf x v
def keyH (w:World):Key->Int
 | .inl k=>hashInt k
 | .inr x=>hashStr w x
theorem dN:∀ {k:Key} {v:Value},w5 k v=true->(∃ i t,k=Sum.inl i/\v=Value.int i t)\/(∃ x t,k=Sum.inr x/\v=Value.str x t)
 | .inl i,v,h=>by
  obtain ⟨t,e⟩:=Value.isInt_shape (k:=i) (v:=v) h
  exact .inl ⟨i,t,rfl,e⟩
 | .inr x,v,h=>by
  obtain ⟨t,e⟩:=Value.isStrOf_shape (x:=x) (v:=v) h
  exact .inr ⟨x,t,rfl,e⟩
theorem Gf (i:Int) (t:Tok):w5 (.inl i) (.int i t)=true:=by simp [w5,Value.isInt]
theorem Gg (x:Str) (t:Tok):w5 (.inr x) (.str x t)=true:=by simp [w5,Value.isStrOf]
theorem Rg (a b:Int):decide ((Sum.inl a:Key)=Sum.inl b)=(a == b):=by
 by_cases e:a=b
 ·subst e;simp
 ·have h:¬ (Sum.inl a:Key)=Sum.inl b:=fun q=>e (Sum.inl.inj q)
  rw [Yl h]
  exact (Y9.mpr e).symm
theorem Rh (a b:Str):decide ((Sum.inr a:Key)=Sum.inr b)=decide (a=b):=by
 by_cases e:a=b
 ·subst e;simp
 ·have h:¬ (Sum.inr a:Key)=Sum.inr b:=fun q=>e (Sum.inr.inj q)
  rw [Yl h,Yl e]
theorem Ri (a:Int) (b:Str):decide ((Sum.inl a:Key)=Sum.inr b)=false:=Yl (fun q=>nomatch q)
theorem Rj (a:Str) (b:Int):decide ((Sum.inr a:Key)=Sum.inl b)=false:=Yl (fun q=>nomatch q)
def fG (prog:Program) (w:World):PySem.KeyKind prog w Key where
 is:=w5
 hash:=keyH w
 inj:=fun v a b ha hb=>by
  rcases dN ha with ⟨i,t,rfl,rfl⟩ | ⟨x,t,rfl,rfl⟩
  ·rcases dN hb with ⟨j,u,rfl,e⟩ | ⟨y,u,rfl,e⟩
   ·injection e with e1 _;rw [e1]
   ·exact nomatch e
  ·rcases dN hb with ⟨j,u,rfl,e⟩ | ⟨y,u,rfl,e⟩
   ·exact nomatch e
   ·injection e with e1 _;rw [e1]
 byValue:=fun k v h=>by
  rcases dN h with ⟨i,t,rfl,rfl⟩ | ⟨x,t,rfl,rfl⟩ <;> rfl
 pyHash:=fun hv h=>by
  rcases dN hv with ⟨i,t,rfl,rfl⟩ | ⟨x,t,rfl,rfl⟩
  ·exact wpAny_pyHash_int h
  ·exact wpAny_pyHash_str h
 eqBool:=fun hu hv h=>by
  rcases dN hu with ⟨i,t,rfl,rfl⟩ | ⟨x,t,rfl,rfl⟩
  ·rcases dN hv with ⟨j,u,rfl,rfl⟩ | ⟨y,u,rfl,rfl⟩
   ·rw [Rg] at h;exact wpAny_eqBool_int h
   ·rw [Ri] at h;exact SeqAt.EqAt.int_str i t y u _ _ _ _ h
  ·rcases dN hv with ⟨j,u,rfl,rfl⟩ | ⟨y,u,rfl,rfl⟩
   ·rw [Rj] at h;exact SeqAt.EqAt.str_int x t j u _ _ _ _ h
   ·rw [Rh] at h;exact wpAny_eqBool_str h
 «strs»:=fun k x t v h=>by
  rcases dN h with ⟨i,u,rfl,e⟩ | ⟨y,u,rfl,e⟩
  ·exact nomatch e
  ·injection e with e1 _
   subst e1
   cases v <;> rfl
theorem zA (prog:Program) (w:World) (i:Int) (t:Tok):(fG prog w).is (.inl i) (.int i t)=true:=Gf i t
theorem zB (prog:Program) (w:World) (x:Str) (t:Tok):(fG prog w).is (.inr x) (.str x t)=true:=Gg x t
end L2
namespace L2
open PySem PySem.Spec PyProof.Rows
inductive V where
 | non | bl (b:Bool) | int (i:Int) | str (x:Str) | byt (b:Array UInt8) | flt (b:UInt64) | ref (a:Addr) | ty (n:String)
 deriving DecidableEq
def RelV:V->Value->Prop
 | .non,u=>u=Value.none
 | .bl b,u=>u=Value.bool b
 | .int i,u=>∃ t,u=Value.int i t
 | .str x,u=>∃ t,u=Value.str x t
 | .byt b,u=>∃ t,u=Value.bytes b t
 | .flt b,u=>∃ t,u=Value.float b t
 | .ref a,u=>u=Value.ref a
 | .ty n,u=>u=Value.type n
abbrev Vals:List V->List Value->Prop:=Paired RelV
theorem Vals.length {xs:List V} {us:List Value} (r:Vals xs us):xs.length=us.length:=Paired.length r
theorem Vals.get:∀ {xs:List V} {us:List Value} {i:Nat} {x:V},Vals xs us->xs[i]?=some x->∃ u,us[i]?=some u/\RelV x u
 | _,_,_,_,.nil,e=>by simp at e
 | _,_,0,_,.cons r _,e=>by simp at e;subst e;exact ⟨_,rfl,r⟩
 | _,_,i+1,x,.cons _ t,e=>by
  obtain ⟨u,h1,h2⟩:=Vals.get (i:=i) (x:=x) t (by simpa using e)
  exact ⟨u,by simpa using h1,h2⟩
theorem Vals.set {x:V} {u:Value} (r:RelV x u):∀ {xs:List V} {us:List Value} (i:Nat),Vals xs us->Vals (xs.set i x) (us.set i u)
 | _,_,_,.nil=>.nil
 | _,_,0,.cons _ t=>.cons r t
 | _,_,i+1,.cons q t=>.cons q (Vals.set r i t)
theorem Vals.append:∀ {xs ys:List V} {us ws:List Value},Vals xs us->Vals ys ws->Vals (xs ++ ys) (us ++ ws)
 | _,_,_,_,.nil,s=>s
 | _,_,_,_,.cons r t,s=>.cons r (Vals.append t s)
theorem Vals.take:∀ {xs:List V} {us:List Value} (n:Nat),Vals xs us->Vals (xs.take n) (us.take n)
 | _,_,0,_=>.nil
 | _,_,_+1,.nil=>.nil
 | _,_,n+1,.cons r t=>.cons r (Vals.take n t)
theorem Vals.drop:∀ {xs:List V} {us:List Value} (n:Nat),Vals xs us->Vals (xs.drop n) (us.drop n)
 | _,_,0,r=>r
 | _,_,_+1,.nil=>.nil
 | _,_,n+1,.cons _ t=>Vals.drop n t
def RelO:Option V->Option Value->Prop
 | some v,some u=>RelV v u
 | none,none=>True
 | _,_=>False
def KV {κ:Type}:List (κ×V)->List (κ×Value)->Prop:=Paired fun (p:κ×V) (q:κ×Value)=>p.1=q.1/\RelV p.2 q.2
def kV:Key->V
 | .inl i=>.int i
 | .inr x=>.str x
inductive HO where
 /-- a list -/
 | lst (xs:List V)
 /-- a tuple (never changes) -/
 | tup (xs:List V)
 /-- a dict whose keys are ints and texts;one whose keys are tuples of ints and texts (the empty one is both) -/
 | dK (kvs:List (Key×V)) | dT (kvs:List (List Key×V))
 /-- a set of ints:its members,its size -/
 | set (S:Int->Bool) (n:Nat)
 /-- an instance of the class at C,its dict at dx,its attributes -/
 | ins (C dx:Addr) (fs:List (Str×V))
 /-- the dict of the instance at x -/
 | own (x:Addr)
 /-- the dict of an exception -/
 | xd (fs:List (Str×V))
 /-- a bound method,f of x -/
 | met (f x:Addr)
 /-- a range object lo,lo+1,.. below hi -/
 | rng (lo hi:Int)
 /-- a thing that is known to the object (the script;a dict while a loop walks it):read,never written while it is so -/
 | frz (o:Obj) (u:HO)
 /-- a code object's table -/
 | tbl (ps:Array Value)
 /-- any other thing,by what is true of its one object (a def of one's own:SetO a S n:=HO.ext fun h=>..) -/
 | ext (φ:Heap->Prop)
abbrev Hp:=Addr->Option HO
def upd (H:Hp) (a:Addr) (o:HO):Hp:=fun b=>if b=a then some o else H b
theorem aj {H:Hp} {a:Addr} {o:HO}:upd H a o a=some o:=by unfold upd;rw [if_pos rfl]
theorem aD {H:Hp} {a b:Addr} {o:HO} (h:b≠a):upd H a o b=H b:=by unfold upd;rw [if_neg h]
theorem Mt {H:Hp} {a:Addr} {o u:HO}:upd (upd H a o) a u=upd H a u:=by
 funext b;unfold upd;split <;> rfl
theorem Vt {H:Hp} {a b:Addr} {o u:HO} (h:H a=some o) (h':H b=some u) (d:o≠u):a≠b:=by
 intro e;subst e;rw [h] at h';exact d (Ym h')
theorem kY {H:Hp} {a b:Addr} {o:HO} (h:H a=some o) (h':H b=none):a≠b:=by
 intro e;subst e;rw [h] at h';cases h'
section
variable (P:Program) (w:World)
def ObjOk (H:Hp) (h:Heap) (a:Addr):HO->Prop
 | .lst xs=>xs.length<=sizeLine/\∃ (its:List Value) (n:Nat),Vals xs its/\h.get? a=some {cls:=.type "list",data:=.seq its.toArray n}
 | .tup xs=>xs.length<=sizeLine/\∃ its:List Value,Vals xs its/\IsTup h a its.toArray
 | .dK kvs=>kvs.length<=sizeLine/\(a == sysModules)=false/\∃ vs,KV kvs vs/\h.DictOf (fG P w) a vs
 | .dT kvs=>kvs.length<=sizeLine/\(a == sysModules)=false/\∃ xs:List (List Key×Addr×Value),
   Paired (fun (p:List Key×V) (q:List Key×Addr×Value)=>p.1=q.1/\H q.2.1=some (.tup (p.1.map kV))/\RelV p.2 q.2.2) kvs xs/\
   ∃ o es ep,h.get? a=some o/\o.ExactDict/\o.data= .dict es ep/\es.toList=xs.map (entryOfKey (tupleKind (fG P w)))/\(xs.map (·.1)).Nodup
 | .set S n=>h.SetOf (intKind P w) a S n
 | .ins C dx fs=>H dx=some (.own a)/\fs.length<=1000/\dx≠a/\h.get? a=some (PySem.W.instObj C dx)/\
   ∃ mA,h.Ns1 dx mA/\(∀ f,RelO (fs.lookup f) (mA f))/\PySem.Within mA (fs.map (·.1))
 | .own _=>∃ o,h.get? a=some o
 | .xd fs=>∃ mA,h.Ns1 a mA/\∀ f,RelO (fs.lookup f) (mA f)
 | .rng lo hi=>∃ t u v,h.get? a=some {cls:=.type "range",data:=.fields #[.int lo t,.int hi u,.int 1 v]}
 | .frz o u=>h.get? a=some o/\ObjOk H h a u
 | .tbl ps=>h.get? a=some {cls:=.none,data:=.fields ps}
 | .met f x=>h.get? a=some (PySem.W.methodObj (.ref f) (.ref x))
 | .ext φ=>φ h/\(∃ o,h.get? a=some o)/\∀ h1 h2:Heap,φ h1->(∀ o,h1.get? a=some o->h2.get? a=some o)->φ h2
def HOk (H:Hp) (h:Heap):Prop:=∀ a o,H a=some o->ObjOk P w H h a o
end
section
variable {P:Program} {w:World} {H H':Hp} {h h':Heap} {a:Addr} {o:HO}
theorem ObjOk.lt (x:ObjOk P w H h a o):a < h.objs.size:=by
 cases o with
 | lst xs=>obtain ⟨_,_,_,_,e⟩:=x;exact X5 e
 | tup xs=>obtain ⟨_,_,_,p⟩:=x;exact p.lt
 | dK kvs=>obtain ⟨_,_,_,_,o,_,_,e,_⟩:=x;exact X5 e
 | dT kvs=>obtain ⟨_,_,_,_,o,_,_,e,_⟩:=x;exact X5 e
 | set S n=>obtain ⟨o,_,_,_,e,_⟩:=x;exact X5 e
 | ins C dx fs=>obtain ⟨_,_,_,e,_⟩:=x;exact X5 e
 | own y=>obtain ⟨_,e⟩:=x;exact X5 e
 | xd fs=>obtain ⟨_,⟨_,_,_,e,_⟩,_⟩:=x;exact X5 e
 | rng lo hi=>obtain ⟨_,_,_,e⟩:=x;exact X5 e
 | frz ob u=>obtain ⟨e,_⟩:=x;exact X5 e
 | tbl ps=>exact X5 (show h.get? a=some _ from x)
 | met f y=>exact X5 (show h.get? a=some _ from x)
 | ext φ=>obtain ⟨_,⟨_,e⟩,_⟩:=x;exact X5 e
theorem Paired.mapP {α β:Type} {F G:α->β->Prop}:∀ {l₁:List α} {l₂:List β},Paired F l₁ l₂->(∀ a b,F a b->G a b)->Paired G l₁ l₂
 | _,_,.nil,_=>.nil
 | _,_,.cons r t,f=>.cons (f _ _ r) (Paired.mapP t f)
theorem ObjOk.stay (x:ObjOk P w H h a o) (k:∀ b u,(b=a\/H b=some (.own a))->h.get? b=some u->h'.get? b=some u)
  (ho:∀ b,H b=some (.own a)->H' b=some (.own a)) (ht:∀ b xs,H b=some (.tup xs)->H' b=some (.tup xs)):ObjOk P w H' h' a o:=by
 induction o with
 | lst xs=>obtain ⟨z,its,n,r,e⟩:=x;exact ⟨z,its,n,r,k _ _ (.inl rfl) e⟩
 | tup xs=>obtain ⟨z,its,r,ob,e,c⟩:=x;exact ⟨z,its,r,ob,k _ _ (.inl rfl) e,c⟩
 | dK kvs=>obtain ⟨z,y,vs,r,ob,es,ep,e,c⟩:=x;exact ⟨z,y,vs,r,ob,es,ep,k _ _ (.inl rfl) e,c⟩
 | dT kvs=>
  obtain ⟨z,y,xs,r,ob,es,ep,e,c⟩:=x
  exact ⟨z,y,xs,Paired.mapP r fun p q z=>⟨z.1,ht _ _ z.2.1,z.2.2⟩,ob,es,ep,k _ _ (.inl rfl) e,c⟩
 | set S n=>obtain ⟨ob,es,ep,t,e,c⟩:=x;exact ⟨ob,es,ep,t,k _ _ (.inl rfl) e,c⟩
 | ins C dx fs=>
  obtain ⟨d,z,ne,e,mA,⟨od,es,ep,e2,c⟩,r⟩:=x
  exact ⟨ho _ d,z,ne,k _ _ (.inl rfl) e,mA,⟨od,es,ep,k _ _ (.inr d) e2,c⟩,r⟩
 | own y=>obtain ⟨ob,e⟩:=x;exact ⟨ob,k _ _ (.inl rfl) e⟩
 | xd fs=>obtain ⟨mA,⟨od,es,ep,e,c⟩,r⟩:=x;exact ⟨mA,⟨od,es,ep,k _ _ (.inl rfl) e,c⟩,r⟩
 | rng lo hi=>obtain ⟨t,u,v,e⟩:=x;exact ⟨t,u,v,k _ _ (.inl rfl) e⟩
 | frz ob u ih=>obtain ⟨e,q⟩:=x;exact ⟨k _ _ (.inl rfl) e,ih q⟩
 | tbl ps=>
  have e:h.get? a=some {cls:=.none,data:=.fields ps}:=x
  show h'.get? a=some {cls:=.none,data:=.fields ps}
  exact k a _ (.inl rfl) e
 | met f y=>
  have e:h.get? a=some (PySem.W.methodObj (.ref f) (.ref y)):=x
  show h'.get? a=some (PySem.W.methodObj (.ref f) (.ref y))
  exact k a _ (.inl rfl) e
 | ext φ=>obtain ⟨p,⟨o,e⟩,st⟩:=x;exact ⟨st _ _ p fun o q=>k _ _ (.inl rfl) q,⟨o,k _ _ (.inl rfl) e⟩,st⟩
theorem HOk.lt (x:HOk P w H h) (e:H a=some o):a < h.objs.size:=(x a o e).lt
theorem HOk.fresh (x:HOk P w H h) (e:h.objs.size<=a):H a=none:=by
 cases q:H a with
 | none=>rfl
 | some u=>exact absurd (Yd (x.lt q) e) (Zd _)
theorem HOk.kept (x:HOk P w H h) (k:∀ b u,h.get? b=some u->h'.get? b=some u):HOk P w H h':=fun a o e=>
 (x a o e).stay (fun b u _ q=>k b u q) (fun _ q=>q) fun _ _ q=>q
theorem HOk.laid (x:HOk P w H h) (k:∀ b u,h.get? b=some u->h'.get? b=some u) (hp:h.objs.size<=a) (new:ObjOk P w (upd H a o) h' a o):HOk P w (upd H a o) h':=fun b u e=>by
 have hn:=x.fresh hp
 by_cases hb:b=a
 ·subst hb;rw [aj] at e;cases e;exact new
 ·rw [aD hb] at e
  exact (x b u e).stay (fun c v _ q=>k c v q) (fun c q=>by rw [aD (kY q hn)];exact q) fun c xs q=>by rw [aD (kY q hn)];exact q
end
def Rd (H:Hp) (a:Addr) (u:HO):Prop:=H a=some u\/∃ o,H a=some (.frz o u)
theorem Rd.ok {P:Program} {w:World} {H:Hp} {h:Heap} {a:Addr} {u:HO} (r:Rd H a u) (x:HOk P w H h):ObjOk P w H h a u:=by
 rcases r with r | ⟨o,r⟩
 ·exact x a u r
 ·obtain ⟨_,q⟩:=x a _ r
  exact q
def Vu:Option HO->Prop
 | some (.lst _)=>True
 | some (.dK _)=>True
 | some (.dT _)=>True
 | some (.set _ _)=>True
 | some (.ins _ _ _)=>True
 | some (.ext _)=>True
 | _=>False
section
variable {P:Program} {w:World} {H:Hp} {h h':Heap} {x e:Addr} {o':HO}
theorem HOk.write (ok:HOk P w H h) (mu:Vu (H x)) (he:e=x\/H e=some (.own x)) (k:∀ b u,b≠e->h.get? b=some u->h'.get? b=some u) (heo:∃ u,h'.get? e=some u)
  (new:ObjOk P w (upd H x o') h' x o'):HOk P w (upd H x o') h':=fun b u q=>by
 have nown:∀ c y,H c=some (.own y)->c≠x:=fun c y r z=>by subst z;rw [r] at mu;exact mu
 have ntup:∀ c xs,H c=some (.tup xs)->c≠x:=fun c xs r z=>by subst z;rw [r] at mu;exact mu
 by_cases hb:b=x
 ·subst hb;rw [aj] at q;cases q;exact new
 ·rw [aD hb] at q
  by_cases hbe:b=e
  ·have q':H b=some (.own x):=by
    rcases he with z | z
    ·exact absurd (hbe.trans z) hb
    ·rw [hbe];exact z
   rw [q] at q';cases q'
   obtain ⟨v,hv⟩:=heo
   exact ⟨v,by rw [hbe];exact hv⟩
  ·refine (ok b u q).stay (fun c v hc r=>k c v ?_ r) (fun c r=>by rw [aD (nown c b r)];exact r) fun c xs r=>by rw [aD (ntup c xs r)];exact r
   rcases hc with rfl | hc
   ·exact hbe
   ·rintro rfl
    rcases he with z | z
    ·exact nown c b hc z
    ·rw [hc] at z;cases z;exact hb rfl
end
structure Un (fs ex:List Addr) (H H':Hp) (h h':Heap):Prop where
 keep:∀ b o,h.get? b=some o->H b=none->b ∉ fs->b ∉ ex->h'.get? b=some o
 slot:∀ b o,h.get? b=some o->H b=none->b∈fs->b ∉ ex->∃ sl,h'.get? b=some {o with slots:=sl}
 free:∀ b o,h.get? b=some o->H b=none->b ∉ ex->H' b=none
 there:∀ b o,h.get? b=some o->b ∉ ex->∃ o',h'.get? b=some o'
 tups:∀ b xs,H b=some (.tup xs)->H' b=some (.tup xs)
 frzs:∀ b o u,H b=some (.frz o u)->H' b=some (.frz o u)
 tbls:∀ b ps,H b=some (.tbl ps)->∃ more,H' b=some (.tbl (ps ++ more))
section
variable {fs fs' ex ex':List Addr} {H H1 H2:Hp} {h h1 h2 h':Heap} {a x e:Addr} {o:HO}
theorem Un.any (u:Un fs ex H H1 h h1) {b:Addr} {ob:Obj} (q:h.get? b=some ob) (n:H b=none) (hx:b ∉ ex):∃ sl,h1.get? b=some {ob with slots:=sl}:=by
 by_cases hb:b∈fs
 ·exact u.slot b ob q n hb hx
 ·exact ⟨ob.slots,u.keep b ob q n hb hx⟩
theorem Un.kept (k:∀ b u,h.get? b=some u->h'.get? b=some u):Un fs ex H H h h':=
 ⟨fun b ob q _ _ _=>k b ob q,fun b ob q _ _ _=>⟨ob.slots,k b ob q⟩,fun _ _ _ n _=>n,fun b ob q _=>⟨ob,k b ob q⟩,fun _ _ q=>q,fun _ _ _ q=>q,fun _ ps q=>⟨#[],by rw [q];simp⟩⟩
theorem Un.refl:Un fs ex H H h h:=Un.kept fun _ _ q=>q
theorem Un.laid (k:∀ b u,h.get? b=some u->h'.get? b=some u) (hp:h.objs.size<=a) (hn:H a=none):Un fs ex H (upd H a o) h h' where
 keep:=fun b u q _ _ _=>k b u q
 slot:=fun b u q _ _ _=>⟨u.slots,k b u q⟩
 free:=fun b u q n _=>by rw [aD (Yy (Yd (X5 q) hp))];exact n
 there:=fun b u q _=>⟨u,k b u q⟩
 tups:=fun b xs q=>by rw [aD (kY q hn)];exact q
 frzs:=fun b u xs q=>by rw [aD (kY q hn)];exact q
 tbls:=fun b ps q=>⟨#[],by rw [aD (kY q hn),q];simp⟩
theorem Un.write (mu:Vu (H x)) (he:e=x\/H e=some (.own x)) (k:∀ b u,b≠e->h.get? b=some u->h'.get? b=some u) (heo:∃ u,h'.get? e=some u):Un fs ex H (upd H x o) h h':=by
 have hx:∀ b,H b=none->b≠x:=fun b n z=>by subst z;rw [n] at mu;exact mu
 have hb:∀ b,H b=none->b≠e:=fun b n z=>by
  subst z
  rcases he with r | r
  ·exact hx b n r
  ·rw [n] at r;cases r
 have hm:∀ b u,H b=some u->¬ Vu (some u)->b≠x:=fun b u q nm z=>by subst z;rw [q] at mu;exact nm mu
 refine ⟨fun b u q n _ _=>k b u (hb b n) q,fun b u q n _ _=>⟨u.slots,k b u (hb b n) q⟩,fun b u q n _=>by rw [aD (hx b n)];exact n,fun b u q _=>?_,
  fun b xs q=>by rw [aD (hm b _ q fun z=>z)];exact q,fun b u xs q=>by rw [aD (hm b _ q fun z=>z)];exact q,fun b ps q=>⟨#[],by rw [aD (hm b _ q fun z=>z),q];simp⟩⟩
 by_cases hbe:b=e
 ·subst hbe;exact heo
 ·exact ⟨u,k b u hbe q⟩
end
def Mm (h:Heap) (H:Hp):List Addr:=(List.range h.objs.size).filter fun a=>(H a).isSome
def ye (h:Heap) (H:Hp):Heap:=PySem.W.hideAll h (Mm h H)
theorem Gh (h:Heap) (H:Hp):(ye h H).objs.size=h.objs.size:=PySem.W.hideAll_size _ _
theorem Ig {h:Heap} {H:Hp} {b:Addr} {o:Obj} (e:h.get? b=some o) (n:H b=none):(ye h H).get? b=some o:=
 PySem.W.hideAll_get _ e fun hm=>by
  have q:(H b).isSome=true:=(List.mem_filter.mp hm).2
  rw [n] at q;simp at q
theorem Mu {h:Heap} {H:Hp} {b:Addr} {o:Obj} (e:(ye h H).get? b=some o):h.get? b=some o/\H b=none:=by
 have e':h.get? b=some o:=PySem.W.of_hideAll (Mm h H) e
 refine ⟨e',?_⟩
 cases q:H b with
 | none=>rfl
 | some x=>
  have hm:b∈Mm h H:=List.mem_filter.mpr ⟨YC.mpr (X5 e'),by simp [q]⟩
  have z:(ye h H).get? b=none:=PySem.W.hideAll_none (Mm h H) hm
  rw [z] at e;cases e
structure Mod (K:W.Frag) (mg:Str->Option Value) (base:Heap):Prop where
 kin:K.In base
 glob:base.Ns mainGlobals mg
 blt:∃ mb,base.Ns builtinsNs mb/\∀ x:Str,x≠"__name__"->mb x=bootBuiltins x
 nolimit:base.NoLimit
 sysm:∃ mm,base.Ns sysModules mm
 bmn:∃ bm ob,mg "__builtins__"=some (.ref bm)/\bm≠builtinsNs/\base.get? bm=some ob/\ob.cls= .type "module"/\ob.dict=some builtinsNs/\ob.data= .plain
structure Cx where
 prog:Program
 w:World
 K:W.Frag
 mg:Str->Option Value
 base:Heap
 A:Around
 N:List Str
 s₀:Shared
 H₀:Hp
 env:Env
 outer:List Env
 stack:List Env
 ex:List Addr
 fn:Str->Bool
 calm:Bool
 pn:List (Addr×Obj)
 xe:Value->Shared->Prop
def frs (l:List Env):List Addr:=l.filterMap (·.frame)
abbrev Cx.fs (X:Cx):List Addr:=frs X.outer
def Xn (sc:Scope) (x:Str):Prop:=sc.names.lookup x=some .local\/sc.names.lookup x=some .cell\/sc.names.lookup x=some .free
def Loc (sc:Scope) (x:Str):Prop:=sc.names.lookup x=some .local\/sc.names.lookup x=some .cell
def Look (env:Env) (h:Heap) (m:Str->Option Value) (x:Str) (u:Value):Prop:=
 (env.kindOf x=some .local/\m x=some u)\/((env.kindOf x=some .cell\/env.kindOf x=some .free)/\∃ c,env.cells.lookup x=some c/\h.IsCell c (some u))
structure Cx.Ok (X:Cx):Prop where
 mod:Mod X.K X.mg X.base
 kind:X.env.scope.kind= .function
 glob:X.env.globals=mainGlobals
 blt:X.env.builtins=builtinsNs
 above:X.s₀.heap.objs.size<=X.env.locals
 inj:∀ x y c,X.env.cells.lookup x=some c->X.env.cells.lookup y=some c->x=y
 has:∀ x,(X.env.kindOf x=some .cell\/X.env.kindOf x=some .free)->∃ c,X.env.cells.lookup x=some c
 cab:∀ x c,X.fn x=true->X.env.cells.lookup x=some c->X.s₀.heap.objs.size<=c
 hd:X.calm=true->X.A.handled=none
 frames:X.A.frames=some X.stack
 stk:X.stack=X.outer\/(X.stack=X.env :: X.outer/\X.env.frame=some X.env.locals)
 exf:∀ b∈X.ex,b≠X.env.locals/\∀ x c,X.env.cells.lookup x=some c->c≠b
 bs:∀ b o,X.base.get? b=some o->X.s₀.heap.get? b=some o/\X.H₀ b=none
 bsz:X.base.objs.size<=X.s₀.heap.objs.size
 noex:∀ b o,X.base.get? b=some o->b ∉ X.ex
 exfs:∀ b∈X.ex,b ∉ X.fs
 funs:X.s₀.heap.FunFrames X.base X.outer
 frf:∀ b∈X.fs,X.H₀ b=none
structure Inv (X:Cx) (pins:List (Addr×Obj)) (U:List (Option V)) (H:Hp) (s:Shared):Prop where
 ok:X.Ok
 os:s.os=X.s₀.os
 bare:AllBare s.gens
 base:Un X.fs X.ex X.H₀ H X.s₀.heap s.heap
 loc:∃ m,s.heap.Ns X.env.locals m/\∀ (i:Nat) (x:Str) (v:V),X.N[i]?=some x->U[i]?=some (some v)->Xn X.env.scope x->∃ u,RelV v u/\Look X.env s.heap m x u
 cell:∀ x c,X.env.cells.lookup x=some c->∃ v,s.heap.IsCell c v
 free:H X.env.locals=none
 freeC:∀ x c,X.env.cells.lookup x=some c->H c=none
 pin:∀ p∈X.pn ++ pins,s.heap.get? p.1=some p.2/\H p.1=none/\p.1≠X.env.locals/\p.1 ∉ X.fs/\∀ v,p.2.data≠.cell v
 hok:HOk X.prog X.w H s.heap
 len:U.length=X.N.length
section
variable {X:Cx} {pins:List (Addr×Obj)} {U:List (Option V)} {H H':Hp} {s:Shared} {h':Heap}
theorem Cx.Ok.nofr (ok:X.Ok) {b:Addr} {o:Obj} (e:X.base.get? b=some o):b ∉ X.fs:=fun hb=>by
 have:=(ok.funs.mem hb).1
 rw [e] at this;cases this
theorem Inv.bs (I:Inv X pins U H s):∀ b o,X.base.get? b=some o->s.heap.get? b=some o/\H b=none:=fun b o e=>
 ⟨I.base.keep b o (I.ok.bs b o e).1 (I.ok.bs b o e).2 (I.ok.nofr e) (I.ok.noex b o e),I.base.free b o (I.ok.bs b o e).1 (I.ok.bs b o e).2 (I.ok.noex b o e)⟩
theorem Inv.bk (I:Inv X pins U H s):∀ b o,X.base.get? b=some o->s.heap.get? b=some o:=fun b o e=>(I.bs b o e).1
theorem Inv.mod (I:Inv X pins U H s):Mod X.K X.mg X.base:=I.ok.mod
theorem Inv.kIn (I:Inv X pins U H s):X.K.In s.heap:=I.ok.mod.kin.keeps I.bk
theorem Inv.lt (I:Inv X pins U H s):X.env.locals < s.heap.objs.size:=let ⟨_,hn,_⟩:=I.loc;hn.lt
theorem Inv.sz (I:Inv X pins U H s):X.s₀.heap.objs.size<=s.heap.objs.size:=Yz I.ok.above (Nat.le_of_lt I.lt)
theorem Inv.nofs (I:Inv X pins U H s) {a:Addr} (h:s.heap.objs.size<=a):a ∉ X.fs:=fun hb=>by
 obtain ⟨_,o,ho,_⟩:=I.ok.funs.mem hb
 exact absurd (Yd (X5 ho) (Yz I.sz h)) (Zd _)
theorem Inv.cne (I:Inv X pins U H s):∀ x c,X.env.cells.lookup x=some c->c≠X.env.locals:=fun x c e z=>by
 obtain ⟨v,o,ho,hd⟩:=I.cell x c e
 obtain ⟨m,⟨o',es,ep,ho',hd',_⟩,_⟩:=I.loc
 rw [z,ho'] at ho;cases ho;rw [hd'] at hd;cases hd
theorem Inv.funs (I:Inv X pins U H s):s.heap.FunFrames X.base X.outer:=by
 have all:∀ (l:List Env),(∀ b∈frs l,b∈X.fs)->X.s₀.heap.FunFrames X.base l->s.heap.FunFrames X.base l:=by
  intro l
  induction l with
  | nil=>intro _ _;trivial
  | cons env r ih=>
   intro hs hl
   obtain ⟨hk,⟨L,o,hf,hn,ho,hd⟩,hr⟩:=hl
   have hL:L∈X.fs:=hs L (by unfold frs;rw [List.filterMap_cons,hf];exact Yw)
   obtain ⟨sl,e⟩:=I.base.slot L o ho (I.ok.frf L hL) hL fun z=>I.ok.exfs L z hL
   exact ⟨hk,⟨L,_,hf,hn,e,hd⟩,ih (fun b hb=>hs b (by unfold frs;rw [List.filterMap_cons,hf];exact Yi _ hb)) hr⟩
 exact all X.outer (fun _ hb=>hb) I.ok.funs
theorem Inv.stack (I:Inv X pins U H s):s.heap.FunFrames X.base X.stack:=by
 rcases I.ok.stk with e | ⟨e,hf⟩
 ·rw [e];exact I.funs
 ·rw [e]
  obtain ⟨m,hn,_⟩:=I.loc
  refine .cons (by rw [I.ok.kind];decide) hf hn ?_ I.funs
  exact Heap.get?_none_of_le (Yz I.ok.bsz I.ok.above)
theorem Inv.stkSub (I:Inv X pins U H s):∀ b∈frs X.stack,b∈X.env.locals :: X.fs:=fun b hb=>by
 rcases I.ok.stk with e | ⟨e,hf⟩
 ·rw [e] at hb;exact Yi _ hb
 ·rw [e] at hb
  unfold frs at hb
  rw [List.filterMap_cons,hf] at hb
  exact hb
theorem Inv.stkFree (I:Inv X pins U H s):∀ b∈frs X.stack,H b=none:=fun b hb=>by
 rcases X7.mp (I.stkSub b hb) with e | hb
 ·rw [e];exact I.free
 ·obtain ⟨_,o,ho,_⟩:=I.ok.funs.mem hb
  exact I.base.free b o ho (I.ok.frf b hb) fun z=>I.ok.exfs b z hb
theorem Inv.step {g':Array GenState} {t':Nat} {d':Drawn} {ch:List Addr} (I:Inv X pins U H s)
  (hch:∀ b∈ch,(b∈X.ex\/X.s₀.heap.objs.size<=b)/\b≠X.env.locals/\(∀ x c,X.env.cells.lookup x=some c->c≠b)/\∀ p∈X.pn ++ pins,p.1≠b)
  (keep:∀ b o,b≠X.env.locals->b ∉ X.fs->b ∉ ch->s.heap.get? b=some o->H b=none->h'.get? b=some o)
  (slot:∀ b o,b≠X.env.locals->b∈X.fs->b ∉ ch->s.heap.get? b=some o->H b=none->∃ sl,h'.get? b=some {o with slots:=sl}) (free:∀ b o,b ∉ ch->s.heap.get? b=some o->H b=none->H' b=none)
  (there:∀ b o,b ∉ ch->s.heap.get? b=some o->∃ o',h'.get? b=some o')
  (tups:∀ b xs,H b=some (.tup xs)->H' b=some (.tup xs)) (frzs:∀ b o u,H b=some (.frz o u)->H' b=some (.frz o u)) (tbls:∀ b ps,H b=some (.tbl ps)->∃ more,H' b=some (.tbl (ps ++ more)))
  (ns:∀ m,s.heap.Ns X.env.locals m->h'.Ns X.env.locals m) (hok:HOk X.prog X.w H' h') (hg:AllBare g'):
  Inv X pins U H' {s with heap:=h',gens:=g',drawn:=d',toks:=t'}:=by
 have neL:∀ b o,X.s₀.heap.get? b=some o->b≠X.env.locals:=fun b o e=>Yy (Yd (X5 e) I.ok.above)
 have neC:∀ b o,X.s₀.heap.get? b=some o->b ∉ X.ex->b ∉ ch:=fun b o e hx hb=>by
  rcases (hch b hb).1 with z | z
  ·exact hx z
  ·exact absurd (Yd (X5 e) z) (Zd _)
 have cellK:∀ x c,X.env.cells.lookup x=some c->∀ v,s.heap.IsCell c v->h'.IsCell c v:=fun x c e v ⟨o,ho,hd⟩=>by
  have nch:c ∉ ch:=fun z=>(hch c z).2.2.1 x c e rfl
  by_cases hc:c∈X.fs
  ·obtain ⟨sl,q⟩:=slot c o (I.cne x c e) hc nch ho (I.freeC x c e)
   exact ⟨_,q,hd⟩
  ·exact ⟨o,keep c o (I.cne x c e) hc nch ho (I.freeC x c e),hd⟩
 refine ⟨I.ok,I.os,hg,⟨fun b o e n hb hx=>?_,fun b o e n hb hx=>?_,fun b o e n hx=>?_,fun b o e hx=>?_,fun b xs e=>tups b xs (I.base.tups b xs e),fun b o xs e=>frzs b o xs (I.base.frzs b o xs e),fun b ps e=>?_⟩,?_,fun x c e=>?_,?_,fun x c e=>?_,fun p hp=>?_,hok,I.len⟩
 ·exact keep b o (neL b o e) hb (neC b o e hx) (I.base.keep b o e n hb hx) (I.base.free b o e n hx)
 ·obtain ⟨sl,e1⟩:=I.base.slot b o e n hb hx
  obtain ⟨sl',e2⟩:=slot b _ (neL b o e) hb (neC b o e hx) e1 (I.base.free b o e n hx)
  exact ⟨sl',e2⟩
 ·obtain ⟨o',e1⟩:=I.base.there b o e hx
  exact free b o' (neC b o e hx) e1 (I.base.free b o e n hx)
 ·obtain ⟨o',e1⟩:=I.base.there b o e hx
  exact there b o' (neC b o e hx) e1
 ·obtain ⟨m1,e1⟩:=I.base.tbls b ps e
  obtain ⟨m2,e2⟩:=tbls b _ e1
  exact ⟨m1 ++ m2,by rw [e2,Array.append_assoc]⟩
 ·obtain ⟨m,hn,hl⟩:=I.loc
  refine ⟨m,ns m hn,fun i x v e1 e2 e3=>?_⟩
  obtain ⟨u,r,l⟩:=hl i x v e1 e2 e3
  refine ⟨u,r,?_⟩
  rcases l with l | ⟨k,c,e,z⟩
  ·exact .inl l
  ·exact .inr ⟨k,c,e,cellK x c e _ z⟩
 ·obtain ⟨v,z⟩:=I.cell x c e
  exact ⟨v,cellK x c e v z⟩
 ·obtain ⟨m,⟨o,_,_,ho,_⟩,_⟩:=I.loc
  exact free _ o (fun z=>(hch _ z).2.1 rfl) ho I.free
 ·obtain ⟨v,o,ho,hd⟩:=I.cell x c e
  exact free c o (fun z=>(hch c z).2.2.1 x c e rfl) ho (I.freeC x c e)
 ·obtain ⟨e,n,ne,nf,d⟩:=I.pin p hp
  have nch:p.1 ∉ ch:=fun z=>(hch p.1 z).2.2.2 p hp rfl
  exact ⟨keep p.1 p.2 ne nf nch e n,free p.1 p.2 nch e n,ne,nf,d⟩
theorem Inv.un {t':Nat} (I:Inv X pins U H s) (u:Un X.fs [] H H' s.heap h') (hok:HOk X.prog X.w H' h'):Inv X pins U H' {s with heap:=h',toks:=t'}:=by
 obtain ⟨m,⟨o,es,ep,ho,r⟩,_⟩:=id I.loc
 obtain ⟨sl,hL⟩:=u.any ho I.free (by simp)
 exact I.step (g':=s.gens) (d':=s.drawn) (ch:=[]) (fun _ z=>nomatch z) (fun b o _ hb _ e n=>u.keep b o e n hb (by simp)) (fun b o _ hb _ e n=>u.slot b o e n hb (by simp)) (fun b o _ e n=>u.free b o e n (by simp)) (fun b o _ e=>u.there b o e (by simp)) u.tups u.frzs u.tbls (fun m' hm=>by
  obtain ⟨o',es',ep',ho',r'⟩:=hm
  rw [ho] at ho';cases ho'
  exact ⟨_,es',ep',hL,r'⟩) hok I.bare
theorem Inv.call {g':Array GenState} {t':Nat} {d':Drawn} {ch:List Addr} (I:Inv X pins U H s) (u:Un (frs X.stack) ch H H' s.heap h') (hok:HOk X.prog X.w H' h') (hg:AllBare g')
  (hch:∀ b∈ch,(b∈X.ex\/X.s₀.heap.objs.size<=b)/\b≠X.env.locals/\(∀ x c,X.env.cells.lookup x=some c->c≠b)/\∀ p∈X.pn ++ pins,p.1≠b):
  Inv X pins U H' {s with heap:=h',gens:=g',drawn:=d',toks:=t'}:=by
 obtain ⟨m,⟨o,es,ep,ho,r⟩,_⟩:=id I.loc
 obtain ⟨sl,hL⟩:=u.any ho I.free fun z=>(hch _ z).2.1 rfl
 exact I.step (ch:=ch) hch (fun b o hL hb hc e n=>u.keep b o e n (fun z=>(X7.mp (I.stkSub b z)).elim hL hb) hc) (fun b o _ _ hc e n=>u.any e n hc) (fun b o hc e n=>u.free b o e n hc) (fun b o hc e=>u.there b o e hc) u.tups u.frzs u.tbls (fun m' hm=>by
  obtain ⟨o',es',ep',ho',r'⟩:=hm
  rw [ho] at ho';cases ho'
  exact ⟨_,es',ep',hL,r'⟩) hok hg
theorem Inv.turned {t':Nat} {it:Addr} (I:Inv X pins U H s) (k:∀ b o,b≠it->s.heap.get? b=some o->h'.get? b=some o) (hn:H it=none) (hL:it≠X.env.locals)
  (h1:it∈X.ex\/X.s₀.heap.objs.size<=it) (h2:∀ x c,X.env.cells.lookup x=some c->c≠it) (h3:∀ p∈X.pn ++ pins,p.1≠it):Inv X pins U H {s with heap:=h',toks:=t'}:=by
 have nit:∀ b u,H b=some u->b≠it:=fun b u e z=>by rw [z,hn] at e;cases e
 refine I.step (g':=s.gens) (d':=s.drawn) (ch:=[it]) (fun b hb=>?_) (fun b o _ _ hc e _=>k b o (fun z=>hc (by simp [z])) e) (fun b o _ _ hc e _=>⟨o.slots,k b o (fun z=>hc (by simp [z])) e⟩) (fun _ _ _ _ n=>n)
  (fun b o hc e=>⟨o,k b o (fun z=>hc (by simp [z])) e⟩) (fun _ _ e=>e) (fun _ _ _ e=>e) (fun b ps e=>⟨#[],by rw [e];simp⟩) (fun m hm=>?_) (fun b u e=>?_) I.bare
 ·have e:b=it:=by simpa using hb
  subst e
  exact ⟨h1,hL,h2,h3⟩
 ·obtain ⟨o,es,ep,ho,r⟩:=hm
  exact ⟨o,es,ep,k _ o (Ne.symm hL) ho,r⟩
 ·refine (I.hok b u e).stay (fun c v hc q=>k c v ?_ q) (fun _ q=>q) fun _ _ q=>q
  rcases hc with z | z
  ·rw [z];exact nit b u e
  ·exact nit c _ z
theorem Inv.tok (I:Inv X pins U H s) (t:Nat):Inv X pins U H {s with toks:=t}:=I.un (h':=s.heap) (t':=t) Un.refl I.hok
theorem Inv.kept {t':Nat} (I:Inv X pins U H s) (k:∀ b u,s.heap.get? b=some u->h'.get? b=some u):Inv X pins U H {s with heap:=h',toks:=t'}:=I.un (Un.kept k) (I.hok.kept k)
theorem Inv.laid {a:Addr} {o:HO} {t':Nat} (I:Inv X pins U H s) (k:∀ b u,s.heap.get? b=some u->h'.get? b=some u) (hp:s.heap.objs.size<=a) (new:ObjOk X.prog X.w (upd H a o) h' a o):
  Inv X pins U (upd H a o) {s with heap:=h',toks:=t'}:=I.un (Un.laid k hp (I.hok.fresh hp)) (I.hok.laid k hp new)
theorem Inv.write {x e:Addr} {o:HO} {t':Nat} (I:Inv X pins U H s) (mu:Vu (H x)) (he:e=x\/H e=some (.own x)) (k:∀ b u,b≠e->s.heap.get? b=some u->h'.get? b=some u) (heo:∃ u,h'.get? e=some u)
  (new:ObjOk X.prog X.w (upd H x o) h' x o):Inv X pins U (upd H x o) {s with heap:=h',toks:=t'}:=I.un (Un.write mu he k heo) (I.hok.write mu he k heo new)
theorem Inv.weak {U':List (Option V)} (I:Inv X pins U H s) (hl:U'.length=U.length) (w:∀ (i:Nat) v,U'[i]?=some (some v)->U[i]?=some (some v)):Inv X pins U' H s:=
 ⟨I.ok,I.os,I.bare,I.base,let ⟨m,hn,hl'⟩:=I.loc;⟨m,hn,fun i x v e1 e2 e3=>hl' i x v e1 (w i v e2) e3⟩,I.cell,I.free,I.freeC,I.pin,I.hok,hl.trans I.len⟩
theorem Inv.pins_of {pins':List (Addr×Obj)} (I:Inv X pins U H s) (h:∀ p∈pins',s.heap.get? p.1=some p.2/\H p.1=none/\p.1≠X.env.locals/\p.1 ∉ X.fs/\∀ v,p.2.data≠.cell v):Inv X pins' U H s:=
 ⟨I.ok,I.os,I.bare,I.base,I.loc,I.cell,I.free,I.freeC,fun p hp=>(Zb.mp hp).elim (fun z=>I.pin p (ZX _ z)) (h p),I.hok,I.len⟩
theorem vg {N:List Str} (hN:N.Nodup) {i j:Nat} {x:Str} (a:N[i]?=some x) (b:N[j]?=some x):i=j:=by
 obtain ⟨h1,e1⟩:=XM.mp a
 obtain ⟨h2,e2⟩:=XM.mp b
 exact (List.getElem_inj hN).mp (e1.trans e2.symm)
theorem w6 {M:Model} {A:Around} {E:Value->Shared->Prop} {i:Nat} {x:Str} {v:V} {u:Value} {Q:Unit->Shared->Prop} (I:Inv X pins U H s) (hN:X.N.Nodup) (hi:X.N[i]?=some x) (hx:Loc X.env.scope x) (r:RelV v u)
  (h:∀ s',Inv X pins (U.set i (some v)) H s'->(∃ a,Heap.SameBut a s.heap s'.heap/\(a=X.env.locals\/X.env.cells.lookup x=some a))->Q () s') (hf:autoParam (X.fn x=true\/X.env.scope.names.lookup x=some .local) L2.auto1._auto_1):wpAny M A (storeName X.env x u) Q E s:=by
 obtain ⟨m,hn,hl⟩:=id I.loc
 have hcls:(X.env.scope.kind == .class || (X.env.scope.kind == .module && X.env.locals != X.env.globals))=false:=by rw [I.ok.kind];rfl
 have hiU:i < U.length:=by rw [I.len];exact (XM.mp hi).1
 have cne:=I.cne
 have tracked:∀ {a:Addr} {h':Heap},(∃ o,s.heap.get? a=some o/\H a=none)->Heap.SameBut a s.heap h'->HOk X.prog X.w H h':=fun {a h'} ha hs b ob e=>by
  obtain ⟨_,_,hfree⟩:=ha
  refine (I.hok b ob e).stay (fun c w' hc q=>(hs.2 c ?_).trans q) (fun _ q=>q) fun _ _ q=>q
  rintro rfl
  rcases hc with rfl | hc
  ·rw [hfree] at e;cases e
  ·rw [hfree] at hc;cases hc
 rcases hx with hk | hk
 ·refine wpAny_storeName_local hk hn (fun h' hn' hs=>?_) hcls
  obtain ⟨oL,_,_,hoL,_⟩:=id hn
  refine h _ ⟨I.ok,I.os,I.bare,⟨fun b o e n hb hx=>?_,fun b o e n hb hx=>?_,I.base.free,fun b o e hx=>?_,I.base.tups,I.base.frzs,I.base.tbls⟩,⟨_,hn',fun j y v' e1 e2 e3=>?_⟩,fun y c e=>?_,I.free,I.freeC,fun p hp=>?_,tracked ⟨oL,hoL,I.free⟩ hs,by simpa using I.len⟩ ⟨_,hs,.inl rfl⟩
  ·exact (hs.2 b (Yy (Yd (X5 e) I.ok.above))).trans (I.base.keep b o e n hb hx)
  ·obtain ⟨sl,e1⟩:=I.base.slot b o e n hb hx
   exact ⟨sl,(hs.2 b (Yy (Yd (X5 e) I.ok.above))).trans e1⟩
  ·obtain ⟨o',e1⟩:=I.base.there b o e hx
   exact ⟨o',(hs.2 b (Yy (Yd (X5 e) I.ok.above))).trans e1⟩
  ·by_cases hj:j=i
   ·subst hj
    rw [hi] at e1;cases e1
    rw [Zr hiU] at e2
    cases e2
    exact ⟨u,r,.inl ⟨hk,by simp⟩⟩
   ·rw [Zf (Ne.symm hj)] at e2
    obtain ⟨u',r',q⟩:=hl j y v' e1 e2 e3
    refine ⟨u',r',?_⟩
    rcases q with ⟨k,e⟩ | ⟨k,c,e,z⟩
    ·refine .inl ⟨k,?_⟩
     have:y≠x:=fun e=>hj (vg hN e1 (e ▸ hi))
     simp [this,e]
    ·exact .inr ⟨k,c,e,z.sameBut hs (cne y c e)⟩
  ·obtain ⟨w',z⟩:=I.cell y c e
   exact ⟨w',z.sameBut hs (cne y c e)⟩
  ·obtain ⟨e,n,ne,nf,d⟩:=I.pin p hp
   exact ⟨(hs.2 p.1 ne).trans e,n,ne,nf,d⟩
 ·have hfn:X.fn x=true:=by
   rcases hf with z | z
   ·exact z
   ·rw [z] at hk;cases hk
  obtain ⟨c,hc⟩:=I.ok.has x (.inl hk)
  obtain ⟨w',z⟩:=I.cell x c hc
  refine wpAny_storeName_cell I.ok.kind hk hc z (fun h' hc' hs=>?_)
  obtain ⟨oc,hoc,hocd⟩:=id z
  refine h {s with heap:=h'} ⟨I.ok,I.os,I.bare,⟨fun b o e n hb hx=>?_,fun b o e n hb hx=>?_,I.base.free,fun b o e hx=>?_,I.base.tups,I.base.frzs,I.base.tbls⟩,⟨m,hn.sameBut hs (Ne.symm (cne x c hc)),fun j y v' e1 e2 e3=>?_⟩,fun y c' e=>?_,I.free,I.freeC,fun p hp=>?_,tracked ⟨oc,hoc,I.freeC x c hc⟩ hs,by simpa using I.len⟩ ⟨c,hs,.inr hc⟩
  ·exact (hs.2 b (Yy (Yd (X5 e) (I.ok.cab x c hfn hc)))).trans (I.base.keep b o e n hb hx)
  ·obtain ⟨sl,e1⟩:=I.base.slot b o e n hb hx
   exact ⟨sl,(hs.2 b (Yy (Yd (X5 e) (I.ok.cab x c hfn hc)))).trans e1⟩
  ·obtain ⟨o',e1⟩:=I.base.there b o e hx
   exact ⟨o',(hs.2 b (Yy (Yd (X5 e) (I.ok.cab x c hfn hc)))).trans e1⟩
  ·by_cases hj:j=i
   ·subst hj
    rw [hi] at e1;cases e1
    rw [Zr hiU] at e2
    cases e2
    exact ⟨u,r,.inr ⟨.inl hk,c,hc,hc'⟩⟩
   ·rw [Zf (Ne.symm hj)] at e2
    obtain ⟨u',r',q⟩:=hl j y v' e1 e2 e3
    refine ⟨u',r',?_⟩
    rcases q with q | ⟨k,c',e,z'⟩
    ·exact .inl q
    ·refine .inr ⟨k,c',e,z'.sameBut hs ?_⟩
     rintro rfl
     exact hj (vg hN e1 (I.ok.inj _ _ _ e hc ▸ hi))
  ·by_cases hcc:c'=c
   ·subst hcc;exact ⟨_,hc'⟩
   ·obtain ⟨w2,z2⟩:=I.cell y c' e
    exact ⟨w2,z2.sameBut hs hcc⟩
  ·obtain ⟨e,n,ne,nf,d⟩:=I.pin p hp
   refine ⟨(hs.2 p.1 ?_).trans e,n,ne,nf,d⟩
   intro q
   rw [q,hoc] at e
   have q':oc=p.2:=Ym e
   exact d w' (by rw [← q'];exact hocd)
theorem rC {M:Model} {A:Around} {E:Value->Shared->Prop} {i:Nat} {x:Str} {v:V} {u:Value} {Q:Unit->Shared->Prop} (I:Inv X pins U H s) (hN:X.N.Nodup) (hi:X.N[i]?=some x) (hx:Loc X.env.scope x) (r:RelV v u)
  (h:∀ s',Inv X pins (U.set i (some v)) H s'->Q () s') (hf:autoParam (X.fn x=true\/X.env.scope.names.lookup x=some .local) L2.auto1._auto_1):wpAny M A (storeName X.env x u) Q E s:=
 w6 I hN hi hx r (fun s' I' _=>h s' I') hf
theorem Inv.call' {s':Shared} {ch:List Addr} (I:Inv X pins U H s) (ho:s'.os=s.os) (u:Un (frs X.stack) ch H H' s.heap s'.heap) (hok:HOk X.prog X.w H' s'.heap) (hg:AllBare s'.gens)
  (hch:∀ b∈ch,(b∈X.ex\/X.s₀.heap.objs.size<=b)/\b≠X.env.locals/\(∀ x c,X.env.cells.lookup x=some c->c≠b)/\∀ p∈X.pn ++ pins,p.1≠b):Inv X pins U H' s':=by
 obtain ⟨h',g',d',t',o'⟩:=s'
 have e:o'=s.os:=ho
 subst e
 exact I.call (g':=g') (t':=t') (d':=d') u hok hg hch
end
abbrev XK:=Value->Option Addr->Hp->Prop
abbrev St:=List (Option V)
abbrev VK:=V->Hp->Prop
abbrev TE:=St->Hp->VK->Prop
abbrev TT:=St->Hp->(Bool->Hp->Prop)->Prop
abbrev TA:=St->Hp->(List V->Hp->Prop)->Prop
structure Ends where
 nx:St->Hp->Prop
 rt:VK
 bk:St->Hp->Prop:=fun _ _=>False
 ct:St->Hp->Prop:=fun _ _=>False
abbrev TS:=Ends->St->Hp->Prop
def EP (X:Cx) (pins:List (Addr×Obj)) (U:St) (Q:VK) (u:Value) (s':Shared):Prop:=∃ v H',Inv X pins U H' s'/\RelV v u/\Q v H'
def TP (X:Cx) (pins:List (Addr×Obj)) (U:St) (Q:Bool->Hp->Prop) (b:Bool) (s':Shared):Prop:=∃ H',Inv X pins U H' s'/\Q b H'
def AP (X:Cx) (pins:List (Addr×Obj)) (U:St) (Q:List V->Hp->Prop) (us:List Value) (s':Shared):Prop:=∃ vs H',Inv X pins U H' s'/\Vals vs us/\Q vs H'
def SP (X:Cx) (pins:List (Addr×Obj)) (D:Ends) (f:Flow) (s':Shared):Prop:=
 match f with
 | .next=>∃ U' H',Inv X pins U' H' s'/\D.nx U' H'
 | .brk=>∃ U' H',Inv X pins U' H' s'/\D.bk U' H'
 | .cont=>∃ U' H',Inv X pins U' H' s'/\D.ct U' H'
 | .ret u=>∃ v U' H',Inv X pins U' H' s'/\RelV v u/\D.rt v H'
def PE (X:Cx) (e:Expr) (t:TE):Prop:=
 ∀ (pins:List (Addr×Obj)) (s:Shared) (U:St) (H:Hp) (Q:VK),Inv X pins U H s->t U H Q->wpAny (model X.prog X.w) X.A (eval e X.env) (EP X pins U Q) X.xe s
def PT (X:Cx) (e:Expr) (t:TT):Prop:=
 ∀ (pins:List (Addr×Obj)) (s:Shared) (U:St) (H:Hp) (Q:Bool->Hp->Prop),Inv X pins U H s->t U H Q->wpAny (model X.prog X.w) X.A (isTrue e X.env (eval e X.env)) (TP X pins U Q) X.xe s
def PW (X:Cx) (e:Expr) (t:TT):Prop:=
 ∀ (whole:Sem Value) (pins:List (Addr×Obj)) (s:Shared) (U:St) (H:Hp) (Q:Bool->Hp->Prop),Inv X pins U H s->t U H Q->wpAny (model X.prog X.w) X.A (isTrue e X.env whole) (TP X pins U Q) X.xe s
theorem PW.pt {X:Cx} {e:Expr} {t:TT} (h:PW X e t):PT X e t:=h _
def PA (X:Cx) (es:List Expr) (t:TA):Prop:=
 ∀ (pos:Pos) (pins:List (Addr×Obj)) (s:Shared) (U:St) (H:Hp) (Q:List V->Hp->Prop),Inv X pins U H s->t U H Q->wpAny (model X.prog X.w) X.A (spliced (backTo pos (starEach es X.env))) (AP X pins U Q) X.xe s
def PS (X:Cx) (st:Stmt) (t:TS):Prop:=
 ∀ (pins:List (Addr×Obj)) (s:Shared) (U:St) (H:Hp) (D:Ends),Inv X pins U H s->t D U H->wpAny (model X.prog X.w) X.A (exec st X.env) (SP X pins D) X.xe s
def PSs (X:Cx) (st:List Stmt) (t:TS):Prop:=
 ∀ (pins:List (Addr×Obj)) (s:Shared) (U:St) (H:Hp) (D:Ends),Inv X pins U H s->t D U H->wpAny (model X.prog X.w) X.A (execs st X.env) (SP X pins D) X.xe s
theorem fU {α:Type} {t:Sem α} {Q Q':α->Shared->Prop} {M:Model} {A:Around} {E:Value->Shared->Prop} {s:Shared} (h:wpAny M A t Q E s) (hQ:∀ a s,Q a s->Q' a s):wpAny M A t Q' E s:=YK h hQ fun _ _ x=>x
section
variable {X:Cx}
def oY (i:Nat):TE:=fun U H Q=>∃ v,U[i]?=some (some v)/\Q v H
def tC (v:V):TE:=fun _ H Q=>Q v H
theorem yf {i:Nat} {x:Str} {pos:Pos} (hN:X.N[i]?=some x) (hv:Xn X.env.scope x) (hd:autoParam ((x == ("__debug__":Str))=false) L2.auto2._auto_1) (hcd:autoParam ((x == ("__classdict__":Str))=false) L2.auto2._auto_1):PE X (.Name x pos) (oY i):=by
 intro pins s U H Q I h
 obtain ⟨v,e,h⟩:=h
 obtain ⟨m,hn,hl⟩:=I.loc
 obtain ⟨u,r,l⟩:=hl i x v hN e hv
 have fin:EP X pins U Q u s:=⟨v,H,I,r,h⟩
 rcases l with ⟨hk,hm⟩ | ⟨hk,c,hc,hcell⟩
 ·exact wpAny_Name (wpAny_loadName_local I.ok.kind hk hn hm fin) hd
 ·rcases hk with hk | hk
  ·exact wpAny_Name (wpAny_loadName_cell I.ok.kind hk hc hcell fin) hd
  ·exact wpAny_Name (wpAny_loadName_free I.ok.kind hk hc hcell fin hcd) hd
theorem Rk {i j pos}:PE X (.Constant (.int i) j pos) (tC (.int i)):=fun _ _ _ H _ I h=>wpAny_Constant_int ⟨.int i,H,I.tok _,⟨_,rfl⟩,h⟩
theorem Vv {b j pos}:PE X (.Constant (.bool b) j pos) (tC (.bl b)):=fun _ _ _ H _ I h=>Constant_bool ⟨.bl b,H,I,rfl,h⟩
theorem Rm {j pos}:PE X (.Constant .none j pos) (tC .non):=fun _ _ _ H _ I h=>Constant_none ⟨.non,H,I,rfl,h⟩
theorem Rn {x j pos}:PE X (.Constant (.str x) j pos) (tC (.str x)):=fun _ _ _ H _ I h=>Calls.Constant_str ⟨.str x,H,I.tok _,⟨_,rfl⟩,h⟩
def Gl (X:Cx) (x:Str):Prop:=X.env.kindOf x=some .globalImplicit
theorem nG {E:Value->Shared->Prop} {pins:List (Addr×Obj)} {s:Shared} {U:St} {H:Hp} {x:Str} {u:Value} {pos:Pos} {Q:Value->Shared->Prop} (I:Inv X pins U H s) (hg:Gl X x) (hm:X.mg x=some u) (h:Q u s)
  (hd:autoParam ((x == ("__debug__":Str))=false) L2.auto2._auto_1):wpAny (model X.prog X.w) X.A (eval (.Name x pos) X.env) Q E s:=
 Calls.Name_function_global I.ok.kind hg (Calls.loadGlobal_global (by rw [I.ok.glob];exact I.mod.glob.keeps I.bk) hm h) hd
theorem jj {E:Value->Shared->Prop} {pins:List (Addr×Obj)} {s:Shared} {U:St} {H:Hp} {x:Str} {u:Value} {pos:Pos} {Q:Value->Shared->Prop} (I:Inv X pins U H s) (hg:Gl X x) (hm:X.mg x=none) (hv:bootBuiltins x=some u) (h:Q u s)
  (hn:autoParam (x≠"__name__") L2.auto2._auto_1) (hd:autoParam ((x == ("__debug__":Str))=false) L2.auto2._auto_1):wpAny (model X.prog X.w) X.A (eval (.Name x pos) X.env) Q E s:=by
 obtain ⟨mb,h1,h2⟩:=I.mod.blt
 exact Calls.Name_function_global I.ok.kind hg (Calls.loadGlobal_builtin (by rw [I.ok.glob];exact I.mod.glob.keeps I.bk) hm (by rw [I.ok.blt];exact h1.keeps I.bk) ((h2 x hn).trans hv) h) hd
theorem yg {x:Str} {v:V} {u:Value} {pos:Pos} (hg:Gl X x) (hm:X.mg x=some u) (r:RelV v u) (hd:autoParam ((x == ("__debug__":Str))=false) L2.auto2._auto_1):PE X (.Name x pos) (tC v):=
 fun _ _ _ H _ I h=>nG I hg hm ⟨v,H,I,r,h⟩ hd
theorem Mv {x:Str} {v:V} {u:Value} {pos:Pos} (hg:Gl X x) (hm:X.mg x=none) (hv:bootBuiltins x=some u) (r:RelV v u) (hn:autoParam (x≠"__name__") L2.auto2._auto_1) (hd:autoParam ((x == ("__debug__":Str))=false) L2.auto2._auto_1):PE X (.Name x pos) (tC v):=
 fun _ _ _ H _ I h=>jj I hg hm hv ⟨v,H,I,r,h⟩ hn hd
variable {a b:Expr} {ta tb:TE} {pos:Pos}
def tB (t:TE):TT:=fun U H Q=>t U H fun x H1=>∃ c,x= .bl c/\Q c H1
theorem Ro {e:Expr} {t:TE} (h:PE X e t) (he:autoParam (∀ whole,isTrue e X.env whole=(do let v ← whole;standAt e.pos;holding [v] (truthy v))) L2.auto3._auto_1):PT X e (tB t):=by
 intro pins s U H Q I hw
 refine isTrue_plain (fU (h pins s U H _ I hw) fun v s1 qq0=>?_) (he _)
 obtain ⟨x,H1,I1,r1,q1⟩:=qq0
 obtain ⟨d,rfl,q⟩:=q1
 cases r1
 exact Ze ⟨H1,I1,q⟩
variable {tA tB':TT} {rest:List Expr}
def Rp (t u:TT):TT:=fun U H Q=>t U H fun c H1=>if c=true then u U H1 Q else Q false H1
def tOr (t u:TT):TT:=fun U H Q=>t U H fun c H1=>if c=true then Q true H1 else u U H1 Q
def Rq (t:TT):TT:=fun U H Q=>t U H fun c H1=>Q (!c) H1
theorem Mw (ha:PT X a tA):PW X (.BoolOp .And [a] pos) tA:=by
 intro wh pins s U H Q I h
 refine isTrue_and (fU (ha pins s U H Q I h) fun c s1 e=>?_)
 cases c with
 | true=>exact isTrue_and_nil e
 | false=>exact e
theorem Rr (ha:PT X a tA):PW X (.BoolOp .Or [a] pos) tA:=by
 intro wh pins s U H Q I h
 refine isTrue_or (fU (ha pins s U H Q I h) fun c s1 e=>?_)
 cases c with
 | false=>exact isTrue_or_nil e
 | true=>exact e
theorem Rt (ha:PT X a tA) (hb:PW X (.BoolOp .And (b :: rest) pos) tB'):PW X (.BoolOp .And (a :: b :: rest) pos) (Rp tA tB'):=by
 intro wh pins s U H Q I h
 refine isTrue_and (fU (ha pins s U H _ I h) fun c s1 qq0=>?_)
 obtain ⟨H1,I1,q1⟩:=qq0
 cases c with
 | true=>exact hb wh pins s1 U H1 Q I1 q1
 | false=>exact ⟨H1,I1,q1⟩
theorem Vw (ha:PT X a tA) (hb:PW X (.BoolOp .Or (b :: rest) pos) tB'):PW X (.BoolOp .Or (a :: b :: rest) pos) (tOr tA tB'):=by
 intro wh pins s U H Q I h
 refine isTrue_or (fU (ha pins s U H _ I h) fun c s1 qq0=>?_)
 obtain ⟨H1,I1,q1⟩:=qq0
 cases c with
 | true=>exact ⟨H1,I1,q1⟩
 | false=>exact hb wh pins s1 U H1 Q I1 q1
theorem Ru (ha:PT X a tA):PT X (.UnaryOp .Not a pos) (Rq tA):=by
 intro pins s U H Q I h
 exact isTrue_not (ha pins s U H (fun c H1=>Q (!c) H1) I h)
def Ih (ta tb:TE):TE:=fun U H Q=>ta U H fun x H1=>∃ c,x= .bl c/\if c=true then tb U H1 Q else Q (.bl false) H1
def Ii (ta:TE):TE:=fun U H Q=>ta U H fun x H1=>∃ c,x= .bl c/\Q (.bl (!c)) H1
theorem Rv {op} {t:TE} (h:PE X a t):PE X (.BoolOp op [a] pos) t:=fun pins s U H Q I hw=>BoolOp_one (h pins s U H Q I hw)
theorem Rw (ha:PE X a ta) (hb:PE X (.BoolOp .And (b :: rest) pos) tb):PE X (.BoolOp .And (a :: b :: rest) pos) (Ih ta tb):=by
 intro pins s U H Q I h
 refine BoolOp_and (fU (ha pins s U H _ I h) fun v s1 qq0=>?_)
 obtain ⟨x,H1,I1,r1,q1⟩:=qq0
 obtain ⟨c,rfl,q1⟩:=q1
 cases r1
 refine Ze ?_
 cases c with
 | true=>exact hb pins s1 U H1 Q I1 q1
 | false=>exact ⟨.bl false,H1,I1,rfl,q1⟩
theorem Rx (ha:PE X a ta):PE X (.UnaryOp .Not a pos) (Ii ta):=by
 intro pins s U H Q I h
 refine UnaryOp_ (fU (ha pins s U H _ I h) fun v s1 qq0=>?_)
 obtain ⟨x,H1,I1,r1,q1⟩:=qq0
 obtain ⟨c,rfl,q1⟩:=q1
 cases r1
 exact not_of (Ze ⟨.bl (!c),H1,I1,rfl,q1⟩)
def tIf (t:TT) (ta tb:TE):TE:=fun U H Q=>t U H fun c H1=>if c=true then ta U H1 Q else tb U H1 Q
theorem Ij {c:Expr} (hc:PT X c tA) (ha:PE X a ta) (hb:PE X b tb):PE X (.IfExp c a b pos) (tIf tA ta tb):=by
 intro pins s U H Q I h
 refine wpAny_IfExp (fU (hc pins s U H _ I h) fun d s1 qq0=>?_)
 obtain ⟨H1,I1,q1⟩:=qq0
 cases d with
 | true=>exact ha pins s1 U H1 Q I1 q1
 | false=>exact hb pins s1 U H1 Q I1 q1
end
def SqL (K:W.Frag) (H:Hp) (a:Addr) (xs:List V):Prop:=
 Rd H a (.lst xs)\/
  ∃ (o:Obj) (its:Array Value) (n:Nat),K.lookup a=some o/\o.cls= .type "list"/\o.dict=none/\o.data= .seq its n/\its.size<=sizeLine/\Vals xs its.toList
def SqT (K:W.Frag) (H:Hp) (a:Addr) (xs:List V):Prop:=
 Rd H a (.tup xs)\/
  ∃ (o:Obj) (its:Array Value) (n:Nat),K.lookup a=some o/\o.cls= .type "tuple"/\o.data= .seq its n/\its.size<=sizeLine/\Vals xs its.toList
def absV:Value->Option V
 | .none=>some .non
 | .bool b=>some (.bl b)
 | .int i _=>some (.int i)
 | .str x _=>some (.str x)
 | .bytes b _=>some (.byt b)
 | .float b _=>some (.flt b)
 | .ref a=>some (.ref a)
 | .type n=>some (.ty n)
 | _=>none
theorem RelV.abs {x:V} {u:Value} (r:RelV x u):absV u=some x:=by
 cases x with
 | non=>cases r;rfl
 | bl _=>cases r;rfl
 | int _=>obtain ⟨t,rfl⟩:=r;rfl
 | str _=>obtain ⟨t,rfl⟩:=r;rfl
 | byt _=>obtain ⟨t,rfl⟩:=r;rfl
 | flt _=>obtain ⟨t,rfl⟩:=r;rfl
 | ref _=>cases r;rfl
 | ty _=>cases r;rfl
theorem RelV.inj {x y:V} {u:Value} (r:RelV x u) (q:RelV y u):x=y:=Ym (r.abs.symm.trans q.abs)
theorem Vals.inj:∀ {xs ys:List V} {us:List Value},Vals xs us->Vals ys us->xs=ys
 | _,_,_,.nil,.nil=>rfl
 | _,_,_,.cons r t,.cons r' t'=>by rw [r.inj r',Vals.inj t t']
section
variable {X:Cx} {pins:List (Addr×Obj)} {U:St} {H:Hp} {s:Shared} {a:Addr} {xs ys:List V}
theorem SqL.of {K:W.Frag} (h:H a=some (.lst xs)):SqL K H a xs:=.inl (.inl h)
theorem SqT.of {K:W.Frag} (h:H a=some (.tup xs)):SqT K H a xs:=.inl (.inl h)
theorem Inv.list (I:Inv X pins U H s) (h:SqL X.K H a xs):∃ its:List Value,Vals xs its/\PlainL s.heap a its.toArray/\xs.length<=sizeLine:=by
 rcases h with h | ⟨o,its,n,hk,hc,hd,hs,hz,r⟩
 ·obtain ⟨z,its,n,r,e⟩:=h.ok I.hok
  exact ⟨its,r,⟨_,n,e,rfl,rfl,rfl⟩,z⟩
 ·refine ⟨its.toList,r,⟨o,n,I.kIn a o hk,hc,hd,by simpa using hs⟩,?_⟩
  have e:=r.length
  simp only [Yv] at e
  omega
theorem Inv.tuple (I:Inv X pins U H s) (h:SqT X.K H a xs):∃ its:List Value,Vals xs its/\IsTup s.heap a its.toArray/\xs.length<=sizeLine:=by
 rcases h with h | ⟨o,its,n,hk,hc,hs,hz,r⟩
 ·obtain ⟨z,its,r,p⟩:=h.ok I.hok
  exact ⟨its,r,p,z⟩
 ·refine ⟨its.toList,r,⟨o,I.kIn a o hk,hc,n,by simpa using hs⟩,?_⟩
  have e:=r.length
  simp only [Yv] at e
  omega
theorem Inv.list_inj (I:Inv X pins U H s) (h:SqL X.K H a xs) (h':SqL X.K H a ys):xs=ys:=by
 obtain ⟨its,r,⟨o,n,e,_,_,d⟩,_⟩:=I.list h
 obtain ⟨its',r',⟨o',n',e',_,_,d'⟩,_⟩:=I.list h'
 rw [e] at e';cases e'
 rw [d] at d'
 injection d' with d1 _
 have:its=its':=by simpa using congrArg Array.toList d1
 subst this
 exact r.inj r'
theorem Inv.tuple_inj (I:Inv X pins U H s) (h:SqT X.K H a xs) (h':SqT X.K H a ys):xs=ys:=by
 obtain ⟨its,r,⟨o,e,_,n,d⟩,_⟩:=I.tuple h
 obtain ⟨its',r',⟨o',e',_,n',d'⟩,_⟩:=I.tuple h'
 rw [e] at e';cases e'
 rw [d] at d'
 injection d' with d1 _
 have:its=its':=by simpa using congrArg Array.toList d1
 subst this
 exact r.inj r'
end
abbrev Cx.wish (X:Cx) (E:Value->Shared->Prop):Cx:={X with xe:=E}
abbrev Cx.nox (X:Cx):Cx:=X.wish fun _ _=>False
theorem Cx.Ok.wish {X:Cx} (ok:X.Ok) (E:Value->Shared->Prop):(X.wish E).Ok:=
 ⟨ok.mod,ok.kind,ok.glob,ok.blt,ok.above,ok.inj,ok.has,ok.cab,ok.hd,ok.frames,ok.stk,ok.exf,ok.bs,ok.bsz,ok.noex,ok.exfs,ok.funs,ok.frf⟩
theorem Cx.Ok.unwish {X:Cx} {E:Value->Shared->Prop} (ok:(X.wish E).Ok):X.Ok:=
 ⟨ok.mod,ok.kind,ok.glob,ok.blt,ok.above,ok.inj,ok.has,ok.cab,ok.hd,ok.frames,ok.stk,ok.exf,ok.bs,ok.bsz,ok.noex,ok.exfs,ok.funs,ok.frf⟩
section
variable {X:Cx} {pins:List (Addr×Obj)} {U:St} {H:Hp} {s:Shared} {E:Value->Shared->Prop}
theorem Inv.wish (I:Inv X pins U H s) (E:Value->Shared->Prop):Inv (X.wish E) pins U H s:=⟨I.ok.wish E,I.os,I.bare,I.base,I.loc,I.cell,I.free,I.freeC,I.pin,I.hok,I.len⟩
theorem Inv.unwish (I:Inv (X.wish E) pins U H s):Inv X pins U H s:=⟨I.ok.unwish,I.os,I.bare,I.base,I.loc,I.cell,I.free,I.freeC,I.pin,I.hok,I.len⟩
theorem SP.unwish {D:Ends} {f:Flow} {s':Shared} (h:SP (X.wish E) pins D f s'):SP X pins D f s':=by
 cases f with
 | next=>obtain ⟨U',H',I,q⟩:=h;exact ⟨U',H',I.unwish,q⟩
 | brk=>obtain ⟨U',H',I,q⟩:=h;exact ⟨U',H',I.unwish,q⟩
 | cont=>obtain ⟨U',H',I,q⟩:=h;exact ⟨U',H',I.unwish,q⟩
 | ret u=>obtain ⟨v,U',H',I,r,q⟩:=h;exact ⟨v,U',H',I.unwish,r,q⟩
theorem PSs.nox {st:List Stmt} {t:TS} (h:PSs X.nox st t):PSs X st t:=fun pins s U H D I hw=>
 YK (h pins s U H D (I.wish _) hw) (fun _ _ q=>q.unwish) fun _ _ z=>False.elim z
end
section
variable {X:Cx} {st:Stmt} {rest:List Stmt} {t u:TS} {e:Expr} {te:TE} {pos:Pos}
def Ik:TS:=fun D U H=>D.nx U H
def Il (t u:TS):TS:=fun D U H=>t {D with nx:=u D} U H
theorem Mx:PSs X [] Ik:=fun _ _ U H _ I h=>wpAny_execs_nil ⟨U,H,I,h⟩
theorem Im (h1:PS X st t) (h2:PSs X rest u):PSs X (st :: rest) (Il t u):=by
 intro pins s U H D I h
 refine wpAny_execs_cons (fU (h1 pins s U H {D with nx:=u D} I h) fun f s1 q=>?_)
 cases f with
 | next=>
  obtain ⟨U',H',I',q⟩:=q
  exact h2 pins s1 U' H' D I' q
 | ret v=>exact q
 | brk=>exact q
 | cont=>exact q
theorem Mz (h1:PS X st t):PSs X [st] t:=by
 intro pins s U H D I h
 refine wpAny_execs_cons (fU (h1 pins s U H D I h) fun f s1 q=>?_)
 cases f with
 | next=>exact wpAny_execs_nil q
 | ret v=>exact q
 | brk=>exact q
 | cont=>exact q
theorem Inv.quiet {pins:List (Addr×Obj)} {U:St} {H:Hp} {s:Shared} (I:Inv X pins U H s):interactive X.env=false:=by simp [interactive,I.ok.kind]
def DG (te:TE):TS:=fun D U H=>te U H fun _ H1=>D.nx U H1
theorem MF (he:PE X e te) (hs:autoParam (swapsWith e none pos.line X.env=pure false) L2.auto4._auto_1):PS X (.Expr e pos) (DG te):=by
 intro pins s U H D I h
 exact wpAny_Expr_any (fU (he pins s U H _ I h) fun v s1 ⟨x,H1,I1,r1,q1⟩=>⟨U,H1,I1,q1⟩) I.quiet hs
def Ry (te:TE):TS:=fun D U H=>te U H D.rt
theorem Rz (he:PE X e te):PS X (.Return (some e) pos) (Ry te):=by
 intro pins s U H D I h
 exact wpAny_Return_some (fU (he pins s U H _ I h) fun v s1 ⟨x,H1,I1,r1,q1⟩=>⟨x,U,H1,I1,r1,q1⟩)
def RC (c:TT) (t u:TS):TS:=fun D U H=>c U H fun b H1=>if b=true then t D U H1 else u D U H1
theorem Vx {c:Expr} {a b:List Stmt} {tc:TT} (hc:PT X c tc) (ha:PSs X a t) (hb:PSs X b u):PS X (.If c a b pos) (RC tc t u):=by
 intro pins s U H D I h
 refine wpAny_If (fU (hc pins s U H _ I h) fun d s1 qq0=>?_)
 obtain ⟨H1,I1,q1⟩:=qq0
 cases d with
 | true=>exact ha pins s1 U H1 D I1 q1
 | false=>exact hb pins s1 U H1 D I1 q1
def Io:TS:=fun _ _ _=>False
theorem Ip:PS X st Io:=fun _ _ _ _ _ _ h=>h.elim
end
abbrev TG:=V->St->Hp->(St->Hp->Prop)->Prop
abbrev Gi:=List V->St->Hp->(St->Hp->Prop)->Prop
def PG (X:Cx) (target:Expr) (t:TG):Prop:=
 ∀ (pins:List (Addr×Obj)) (s:Shared) (U:St) (H:Hp) (v:V) (u:Value) (Q:St->Hp->Prop),Inv X pins U H s->RelV v u->t v U H Q->
  wpAny (model X.prog X.w) X.A (assign target X.env u) (fun _ s'=>∃ U' H',Inv X pins U' H' s'/\Q U' H') X.xe s
def Vk (X:Cx) (ts:List Expr) (t:Gi):Prop:=
 ∀ (pins:List (Addr×Obj)) (s:Shared) (U:St) (H:Hp) (vs:List V) (us:List Value) (Q:St->Hp->Prop),Inv X pins U H s->Vals vs us->t vs U H Q->
  wpAny (model X.prog X.w) X.A (assignInOrder ((assignEach ts X.env).map (·.2)) us) (fun _ s'=>∃ U' H',Inv X pins U' H' s'/\Q U' H') X.xe s
abbrev Bu:=V->V->V->Hp->(Hp->Prop)->Prop
def MJ (X:Cx) (t:Bu):Prop:=
 ∀ (pins:List (Addr×Obj)) (s:Shared) (U:St) (H:Hp) (o i v:V) (ov iv u:Value) (Q:Hp->Prop),Inv X pins U H s->RelV o ov->RelV i iv->RelV v u->t o i v H Q->
  wpAny (model X.prog X.w) X.A (setItem ov iv u) (fun _ s'=>∃ H',Inv X pins U H' s'/\Q H') X.xe s
section
variable {X:Cx} {pos:Pos}
def o4 (i:Nat):TG:=fun v U H Q=>Q (U.set i (some v)) H
theorem yh {i:Nat} {x:Str} (hN:X.N.Nodup) (hi:X.N[i]?=some x) (hx:Loc X.env.scope x) (hf:autoParam (X.fn x=true\/X.env.scope.names.lookup x=some .local) L2.auto1._auto_1):PG X (.Name x pos) (o4 i):=by
 intro pins s U H v u Q I r h
 exact wpAny_assign_Name (rC I hN hi hx r (fun s' I'=>⟨_,H,I',h⟩) hf)
def RG:Gi:=fun vs U H Q=>vs=[]/\Q U H
def Ir (t:TG) (u:Gi):Gi:=fun vs U H Q=>∃ v r,vs=v :: r/\t v U H fun U' H'=>u r U' H' Q
theorem MK:Vk X [] RG:=by
 intro pins s U H vs us Q I r h
 obtain ⟨e,h⟩:=h
 subst e
 cases r
 exact assignInOrder_nil ⟨U,H,I,h⟩
theorem Iu {e:Expr} {es:List Expr} {t:TG} {u:Gi} (h1:PG X e t) (h2:Vk X es u)
  (hs:autoParam ((assignEach (e :: es) X.env).map (·.2)=assign e X.env :: (assignEach es X.env).map (·.2)) L2.auto4._auto_1):Vk X (e :: es) (Ir t u):=by
 intro pins s U H vs us Q I r h
 obtain ⟨v,vr,e1,h⟩:=h
 subst e1
 cases r with
 | cons r rr=>
  rw [hs]
  refine assignInOrder_cons (fU (h1 pins s U H _ _ _ I r h) fun _ s1 qq0=>?_)
  obtain ⟨σ1,H1,I1,q1⟩:=qq0
  exact h2 pins s1 σ1 H1 _ _ Q I1 rr q1
def MN (K:W.Frag) (n:Nat) (t:Gi):TG:=fun v U H Q=>∃ a xs,v= .ref a/\SqT K H a xs/\xs.length=n/\t xs U H Q
theorem RJ {es:List Expr} {k:Nat} {t:Gi} {n:Nat} (hc:X.calm=true) (h:Vk X es t)
  (hn:autoParam ((assignEach es X.env).length=n) L2.auto4._auto_1) (hst:autoParam ((assignEach es X.env).findIdx? (·.1)=none) L2.auto4._auto_1):PG X (.Tuple es k pos) (MN X.K n t):=by
 intro pins s U H v u Q I r hw
 obtain ⟨a,xs,e1,hq,hl,hw⟩:=hw
 subst e1
 cases r
 obtain ⟨its,rv,ht,hz⟩:=I.tuple hq
 refine assign_Tuple_tuple (I.ok.hd hc) ht (by simp [hn,← hl,rv.length]) hst fun h' hx=>?_
 have I1:Inv X pins U H {s with heap:=h'}:=I.kept (t':=s.toks) fun b o e=>hx b o (Yy (X5 e)) e
 exact h pins _ U H xs _ Q I1 (by simpa using rv) hw
def RK (to ti:TE) (t:Bu):TG:=fun v U H Q=>to U H fun o H1=>ti U H1 fun i H2=>t o i v H2 fun H3=>Q U H3
theorem RL {o i:Expr} {to ti:TE} {t:Bu} (ho:PE X o to) (hi:PE X i ti) (hs:MJ X t)
  (ha:∀ v,assign (.Subscript o i pos) X.env v=(do
   let ov ← holding [v] (eval o X.env)
   let iv ← holding [v,ov] (eval i X.env)
   standAt pos
   holding [v,ov,iv] (setItem ov iv v)
   release [v,ov,iv] []):=by intro _;rfl):PG X (.Subscript o i pos) (RK to ti t):=by
 intro pins s U H v u Q I r h
 rw [ha]
 refine XJ (Y7 (fU (ho pins s U H _ I h) fun ov s1 qq0=>?_))
 obtain ⟨x,H1,I1,r1,q1⟩:=qq0
 refine XJ (Y7 (fU (hi pins s1 U H1 _ I1 q1) fun iv s2 qq0=>?_))
 obtain ⟨y,H2,I2,r2,q2⟩:=qq0
 refine XJ (wpAny_standAt (XJ (Y7 (fU (hs pins s2 U H2 x y v ov iv u _ I2 r1 r2 r q2) fun _ s3 qq0=>?_))))
 obtain ⟨H3,I3,q3⟩:=qq0
 exact wpAny_release ⟨U,H3,I3,q3⟩
def zE (te:TE) (g:TG):TS:=fun D U H=>te U H fun x H1=>g x U H1 D.nx
theorem RM {tg e:Expr} {te:TE} {g:TG} (he:PE X e te) (hg:PG X tg g) (hs:autoParam (swapsWithSole [tg] e pos.line X.env=pure false) L2.auto4._auto_1) (hw:autoParam (swappedStores [tg] e X.env=pure none) L2.auto4._auto_1)
  (h1:autoParam ((assignEach [tg] X.env).map (·.2)=[assign tg X.env]) L2.auto4._auto_1):PS X (.Assign [tg] e pos) (zE te g):=by
 intro pins s U H D I h
 refine wpAny_Assign_stores (fU (he pins s U H _ I h) fun v s1 qq0=>?_) hs hw
 obtain ⟨x,H1,I1,r1,q1⟩:=qq0
 rw [h1]
 exact fU (hg pins s1 U H1 x v _ I1 r1 q1) fun _ s2 q=>q
theorem Iv {i:Nat} {x:Str} {e:Expr} {te:TE} {pos':Pos} (hN:X.N.Nodup) (hi:X.N[i]?=some x) (hx:Loc X.env.scope x) (he:PE X e te) (hs:autoParam (swapsWith e (some (.Name x pos')) pos.line X.env=pure false) L2.auto4._auto_1) (hf:autoParam (X.fn x=true\/X.env.scope.names.lookup x=some .local) L2.auto1._auto_1):
  PS X (.Assign [.Name x pos'] e pos) (zE te (o4 i)):=by
 intro pins s U H D I h
 refine wpAny_Assign_Name (fU (he pins s U H _ I h) fun v s1 qq0=>?_) hs
 obtain ⟨y,H1,I1,r1,q1⟩:=qq0
 exact rC I1 hN hi hx r1 (fun s2 I2=>⟨_,H1,I2,q1⟩) hf
end
structure It where
 go:Nat->Hp->Prop
 yld:Nat->Hp->V->Hp->Prop
 stop:Nat->Hp->Prop
def mR (X:Cx) (pins:List (Addr×Obj)) (H:Hp) (b:Addr):Prop:=
 H b=none/\b≠X.env.locals/\b ∉ X.fs/\(b∈X.ex\/X.s₀.heap.objs.size<=b)/\(∀ x c,X.env.cells.lookup x=some c->c≠b)/\∀ p∈X.pn ++ pins,p.1≠b
theorem Inv.fpOk {X:Cx} {pins:List (Addr×Obj)} {U:St} {H H':Hp} {s:Shared} {b:Addr} (I:Inv X pins U H s) (hb:s.heap.objs.size<=b) (hn:H' b=none):mR X pins H' b:=by
 refine ⟨hn,Zt (Yd I.lt hb),I.nofs hb,.inr (Yz I.sz hb),fun x c e z=>?_,fun p hp z=>?_⟩
 ·obtain ⟨v,q⟩:=I.cell x c e
  exact absurd (Yd q.lt (by rw [z];exact hb)) (Zd _)
 ·exact absurd (Yd (X5 (I.pin p hp).1) (by rw [z];exact hb)) (Zd _)
structure Turn (P:Program) (w:World) (K:W.Frag) (tg:Expr) (J:It) (fp:List Addr) (it:Addr) (tn:Nat->Heap->Prop):Prop where
 mem:it∈fp
 obj:∀ i h,tn i h->∀ b∈fp,∃ o,h.get? b=some o/\∀ v,o.data≠.cell v
 keep:∀ i h h',tn i h->(∀ b∈fp,∀ o,h.get? b=some o->h'.get? b=some o)->tn i h'
 item:∀ (X:Cx),X.prog=P->X.w=w->X.K=K->X.calm=true->∀ (i:Nat) (pins:List (Addr×Obj)) (s:Shared) (U:St) (H:Hp) (E:Value->Shared->Prop),Inv X pins U H s->(∀ b∈fp,mR X pins H b)->tn i s.heap->J.go i H->
  wpAny (model P w) X.A (pyNext (.ref it)) (fun r s1=>∃ u,r=some u/\
   wpAny (model P w) X.A (letOwnedTupleGo tg (.ref it) u) (fun _ s2=>∃ x H',Inv X pins U H' s2/\RelV x u/\J.yld i H x H'/\tn (i+1) s2.heap/\∀ b∈fp,H' b=none) E s1) E s
 done:∀ (X:Cx),X.prog=P->X.w=w->X.K=K->X.calm=true->∀ (i:Nat) (pins:List (Addr×Obj)) (s:Shared) (U:St) (H:Hp) (E:Value->Shared->Prop),Inv X pins U H s->(∀ b∈fp,mR X pins H b)->tn i s.heap->J.stop i H->
  wpAny (model P w) X.A (pyNext (.ref it)) (fun r s1=>r=none/\Inv X pins U H s1) E s
 self:∀ (A:Around) (i:Nat) (s:Shared) (Q:Value->Shared->Prop) (E:Value->Shared->Prop),tn i s.heap->Q (.ref it) s->wpAny (model P w) A (pyIter (.ref it)) Q E s
abbrev TI:=St->Hp->(It->Hp->Prop)->Prop
def PIE (X:Cx) (pins:List (Addr×Obj)) (U:St) (tg:Expr) (R:It->Hp->Prop) (itv:Value) (s2:Shared):Prop:=
 ∃ (it:Addr) (fp:List Addr) (tn:Nat->Heap->Prop) (J:It) (H':Hp),itv= .ref it/\Inv X pins U H' s2/\Turn X.prog X.w X.K tg J fp it tn/\tn 0 s2.heap/\(∀ b∈fp,mR X pins H' b)/\R J H'
def PI (X:Cx) (tg iter:Expr) (wi:TI):Prop:=
 ∀ (pins:List (Addr×Obj)) (s:Shared) (U:St) (H:Hp) (R:It->Hp->Prop),Inv X pins U H s->wi U H R->
  wpAny (model X.prog X.w) X.A (eval iter X.env) (fun v s1=>wpAny (model X.prog X.w) X.A (pyIter v) (PIE X pins U tg R) X.xe s1) X.xe s
theorem xf {M:Model} {A:Around} {E:Value->Shared->Prop} {s:Shared} {tg:Expr} {it:Addr} {u:Value} {o:Obj} {n:String} {vs:Array Value} {Q:Unit->Shared->Prop} (ho:s.heap.get? it=some o) (hc:o.cls= .type n) (hd:o.data= .fields vs)
  (hn:["enumerate","zip","dict_itemiterator","dict_reverseitemiterator","odict_iterator","itertools.zip_longest","itertools.pairwise"].contains n=false) (hQ:Q () s):wpAny M A (letOwnedTupleGo tg (.ref it) u) Q E s:=by
 unfold letOwnedTupleGo
 cases tg <;> first
  | exact XS hQ
  | (cases u <;> first
    | exact XS hQ
    | (refine XJ (wpAny_load ho ?_)
       rw [hc,hd]
       show wpAny M A (if (["enumerate","zip","dict_itemiterator","dict_reverseitemiterator","odict_iterator","itertools.zip_longest","itertools.pairwise"].contains n && vs[0]? == some (rawInt _))=true then _ else _) Q E s
       rw [if_neg (by intro h;rw [hn,Bool.false_and] at h;cases h)]
       exact XS hQ))
def Vl (K:W.Frag) (a:Addr):It:=
 ⟨fun i H=>∃ xs x,SqL K H a xs/\xs[i]?=some x,fun i H x H'=>H'=H/\∀ xs,SqL K H a xs->xs[i]?=some x,fun i H=>∃ xs,SqL K H a xs/\xs.length<=i⟩
def Vm (K:W.Frag) (a:Addr):It:=
 ⟨fun i H=>∃ xs x,SqT K H a xs/\xs[i]?=some x,fun i H x H'=>H'=H/\∀ xs,SqT K H a xs->xs[i]?=some x,fun i H=>∃ xs,SqT K H a xs/\xs.length<=i⟩
def Ia (lo:Int) (n:Nat):It:=⟨fun i _=>i < n,fun i H x H'=>H'=H/\x= .int (lo+i),fun i _=>n<=i⟩
theorem Gj {P:Program} {w:World} {K:W.Frag} {tg:Expr} (a it:Addr):Turn P w K tg (Vl K a) [it] it (fun i h=>h.IsListIter it a i) where
 mem:=by simp
 obj:=fun i h st b hb=>by
  have e:b=it:=by simpa using hb
  subst e
  obtain ⟨o,e,c,d⟩:=st
  exact ⟨o,e,fun v z=>by rw [d] at z;cases z⟩
 keep:=fun i h h' st k=>st.at fun o e=>k it (by simp) o e
 item:=by
  intro X hP hw hK hc i pins s U H E I hf st hg
  subst hP hw hK
  obtain ⟨xs,x,hq,hx⟩:=hg
  obtain ⟨its,rv,p,hz⟩:=I.list hq
  obtain ⟨u,hu,ru⟩:=rv.get hx
  obtain ⟨f0,f1,f2,f3,f4,f5⟩:=hf it (by simp)
  refine wpAny_pyNext_list_item st p.isList (x:=u) (by simpa using hu) fun h' st' sb=>?_
  have I1:Inv X pins U H {s with heap:=h'}:=I.turned (t':=s.toks) (fun b o hb e=>(sb.2 b hb).trans e) f0 f1 f3 f4 f5
  obtain ⟨o,e,c,d⟩:=id st'
  exact ⟨u,rfl,xf (s:={s with heap:=h'}) e c d (by decide) ⟨x,H,I1,ru,⟨rfl,fun ys hy=>by rw [I.list_inj hy hq];exact hx⟩,st',fun b hb=>(hf b hb).1⟩⟩
 done:=by
  intro X hP hw hK hc i pins s U H E I hf st hg
  subst hP hw hK
  obtain ⟨xs,hq,hx⟩:=hg
  obtain ⟨its,rv,p,hz⟩:=I.list hq
  obtain ⟨f0,f1,f2,f3,f4,f5⟩:=hf it (by simp)
  have hl:=rv.length
  exact wpAny_pyNext_list_end (I.ok.hd hc) st p.isList (by simp;omega) fun h' eb=>⟨rfl,I.turned (t':=s.toks) (fun b o hb e=>eb b o hb e) f0 f1 f3 f4 f5⟩
 self:=fun _ _ _ _ _ st h=>wpAny_pyIter_listiter st h
theorem Bv {P:Program} {w:World} {K:W.Frag} {tg:Expr} (a it:Addr):Turn P w K tg (Vm K a) [it] it (fun i h=>h.IsTupleIter it a i) where
 mem:=by simp
 obj:=fun i h st b hb=>by
  have e:b=it:=by simpa using hb
  subst e
  obtain ⟨o,e,c,d⟩:=st
  exact ⟨o,e,fun v z=>by rw [d] at z;cases z⟩
 keep:=fun i h h' st k=>st.at fun o e=>k it (by simp) o e
 item:=by
  intro X hP hw hK hc i pins s U H E I hf st hg
  subst hP hw hK
  obtain ⟨xs,x,hq,hx⟩:=hg
  obtain ⟨its,rv,p,hz⟩:=I.tuple hq
  obtain ⟨u,hu,ru⟩:=rv.get hx
  obtain ⟨f0,f1,f2,f3,f4,f5⟩:=hf it (by simp)
  refine wpAny_pyNext_tuple_item st (show s.heap.IsTuple a its.toArray from p) (x:=u) (by simpa using hu) fun h' st' sb=>?_
  have I1:Inv X pins U H {s with heap:=h'}:=I.turned (t':=s.toks) (fun b o hb e=>(sb.2 b hb).trans e) f0 f1 f3 f4 f5
  obtain ⟨o,e,c,d⟩:=id st'
  exact ⟨u,rfl,xf (s:={s with heap:=h'}) e c d (by decide) ⟨x,H,I1,ru,⟨rfl,fun ys hy=>by rw [I.tuple_inj hy hq];exact hx⟩,st',fun b hb=>(hf b hb).1⟩⟩
 done:=by
  intro X hP hw hK hc i pins s U H E I hf st hg
  subst hP hw hK
  obtain ⟨xs,hq,hx⟩:=hg
  obtain ⟨its,rv,p,hz⟩:=I.tuple hq
  obtain ⟨f0,f1,f2,f3,f4,f5⟩:=hf it (by simp)
  have hl:=rv.length
  exact wpAny_pyNext_tuple_end (I.ok.hd hc) st (show s.heap.IsTuple a its.toArray from p) (by simp;omega) fun h' eb=>⟨rfl,I.turned (t':=s.toks) (fun b o hb e=>eb b o hb e) f0 f1 f3 f4 f5⟩
 self:=fun _ _ _ _ _ st h=>wpAny_pyIter_tupleiter st h
theorem Bw {P:Program} {w:World} {K:W.Frag} {tg:Expr} (it:Addr) (lo:Int) (n:Nat):Turn P w K tg (Ia lo n) [it] it (fun i h=>IsRangeIter h it (lo+(i:Nat)*1) ((n:Int) - (i:Nat)) 1) where
 mem:=by simp
 obj:=fun i h st b hb=>by
  have e:b=it:=by simpa using hb
  subst e
  exact ⟨_,st,fun v z=>by
   have z':Data.fields _=Data.cell v:=z
   cases z'⟩
 keep:=fun i h h' st k=>k it (by simp) _ st
 item:=by
  intro X hP hw hK hc i pins s U H E I hf st hg
  subst hP hw hK
  obtain ⟨f0,f1,f2,f3,f4,f5⟩:=hf it (by simp)
  have W:=Walks.range (prog:=X.prog) (w:=X.w) (I.ok.hd hc) it lo 1 n
  refine W.item i s _ _ hg st fun v h' tk hv st' kk=>?_
  obtain ⟨t,rfl⟩:=hv
  have I1:Inv X pins U H {s with heap:=h',toks:=tk}:=I.turned (fun b o hb e=>kk b o (by simpa using hb) e) f0 f1 f3 f4 f5
  refine ⟨_,rfl,xf (s:={s with heap:=h',toks:=tk}) (n:="range_iterator") st' rfl rfl (by decide) ⟨.int (lo+i),H,I1,⟨t,?_⟩,⟨rfl,rfl⟩,st',fun b hb=>(hf b hb).1⟩⟩
  rw [Int.mul_one]
 done:=by
  intro X hP hw hK hc i pins s U H E I hf st hg
  subst hP hw hK
  obtain ⟨f0,f1,f2,f3,f4,f5⟩:=hf it (by simp)
  exact wpAny_pyNext_range_end (I.ok.hd hc) st (by have:n<=i:=hg;omega) fun h' eb=>⟨rfl,I.turned (t':=s.toks) (fun b o hb e=>eb b o hb e) f0 f1 f3 f4 f5⟩
 self:=fun _ _ _ _ _ st h=>wpAny_pyIter_rangeiter st h
section
variable {X:Cx} {tg:Expr}
theorem zF {pins:List (Addr×Obj)} {U:St} {H:Hp} {s:Shared} {R:It->Hp->Prop} {E:Value->Shared->Prop} {lo hi:Int} {t u v:Tok} {tk:Nat} (I:Inv X pins U H s) (h1: -(2 ^ 62)<=lo) (h2:lo < 2 ^ 62) (h3: -(2 ^ 62)<=hi) (h4:hi < 2 ^ 62)
  (q:R (Ia lo (hi - lo).toNat) H):wpAny (model X.prog X.w) X.A (pyIter (.ref s.heap.objs.size)) (PIE X pins U tg R) E {s with heap:=s.heap.push {cls:=.type "range",data:=.fields #[.int lo t,.int hi u,.int 1 v]},toks:=tk}:=by
 refine wpAny_pyIter_range (IsRange.new ..) (small_one h1 h2 h3 h4) ?_
 have I1:Inv X pins U H {s with heap:=s.heap.push {cls:=.type "range",data:=.fields #[.int lo t,.int hi u,.int 1 v]},toks:=tk}:=I.kept fun b o e=>XN _ e
 refine ⟨(s.heap.push {cls:=.type "range",data:=.fields #[.int lo t,.int hi u,.int 1 v]}).objs.size,[(s.heap.push {cls:=.type "range",data:=.fields #[.int lo t,.int hi u,.int 1 v]}).objs.size],_,_,H,rfl,
  I1.kept (t':=tk) fun b o e=>XN _ e,Bw _ lo (hi - lo).toNat,?_,fun b hb=>?_,q⟩
 ·have e1:lo+((0:Nat):Int)*1=lo:=by simp
  have e2:(((hi - lo).toNat:Nat):Int) - ((0:Nat):Int)=Builtin.Range.rangeSize lo hi 1:=by rw [rangeSize_one];split <;> omega
  show IsRangeIter _ _ (lo+((0:Nat):Int)*1) ((((hi - lo).toNat:Nat):Int) - ((0:Nat):Int)) 1
  rw [e1,e2]
  exact X4 _ rfl
 ·have e:b=(s.heap.push {cls:=.type "range",data:=.fields #[.int lo t,.int hi u,.int 1 v]}).objs.size:=by simpa using hb
  subst e
  exact I1.fpOk (XQ _) (I1.hok.fresh (XQ _))
def Iw (ta:TA):TI:=fun U H R=>ta U H fun vs H1=>∃ j:Int,vs=[.int j]/\-(2 ^ 62)<=j/\j < 2 ^ 62/\R (Ia 0 j.toNat) H1
def Iz (ta:TA):TI:=fun U H R=>ta U H fun vs H1=>∃ i j:Int,vs=[.int i,.int j]/\(-(2 ^ 62)<=i/\i < 2 ^ 62/\-(2 ^ 62)<=j/\j < 2 ^ 62)/\R (Ia i (j - i).toNat) H1
theorem Gk {a:Expr} {ta:TA} {p pos:Pos} (hg:Gl X "range") (hm:X.mg "range"=none) (ha:PA X [a] ta) (hs:autoParam (starEach [a] X.env=[(false,eval a X.env)]) L2.auto4._auto_1):PI X tg (.Call (.Name "range" p) [a] [] pos) (Iw ta):=by
 intro pins s U H R I h
 refine Call_ (jj I hg hm boot_range (Yu (fU (ha pos pins s U H _ I h) fun us s1 ⟨vs,H1,I1,r1,q1⟩=>?_) hs rfl))
 obtain ⟨j,e,q1,q2,q⟩:=q1
 subst e
 cases r1 with
 | cons r rr=>
  cases rr
  obtain ⟨t,rfl⟩:=r
  exact call_range_1 (zF I1 (by omega) (by omega) q1 q2 (by simpa using q))
theorem Gm {a b:Expr} {ta:TA} {p pos:Pos} (hg:Gl X "range") (hm:X.mg "range"=none) (ha:PA X [a,b] ta) (hs:autoParam (starEach [a,b] X.env=[(false,eval a X.env),(false,eval b X.env)]) L2.auto4._auto_1) (hs2:autoParam (starEach [b] X.env=[(false,eval b X.env)]) L2.auto4._auto_1):
  PI X tg (.Call (.Name "range" p) [a,b] [] pos) (Iz ta):=by
 intro pins s U H R I h
 refine Call_ (jj I hg hm boot_range (Yu (fU (ha pos pins s U H _ I h) fun us s1 qq0=>?_) (by rw [hs,hs2]) (by rw [hs2];rfl)))
 obtain ⟨vs,H1,I1,r1,q1⟩:=qq0
 obtain ⟨i,j,e,⟨q1,q2,q3,q4⟩,q⟩:=q1
 subst e
 cases r1 with
 | cons r rr=>
  cases rr with
  | cons r' rr=>
   cases rr
   obtain ⟨t,rfl⟩:=r
   obtain ⟨t',rfl⟩:=r'
   exact call_range_2 (zF I1 q1 q2 q3 q4 q)
def MP (wi:TI) (g:TG) (tb:TS):TS:=fun D U H=>wi U H fun J H1=>∃ W:Nat->Nat->St->Hp->Prop,(∃ m,W 0 m U H1)/\∀ i m U H,W i m U H->
 (J.stop i H/\D.nx U H)\/(J.go i H/\∃ N:St->Hp->Prop,(∀ U' H',N U' H'->∃ m',m' < m/\W (i+1) m' U' H')/\∀ x H',J.yld i H x H'->g x U H' fun σ2 H2=>tb {D with nx:=N,ct:=N,bk:=D.nx} σ2 H2)
def sH (fp:List Addr) (h:Heap):List (Addr×Obj):=fp.filterMap fun b=>(h.get? b).map fun o=>(b,o)
theorem nH {fp:List Addr} {h:Heap} {b:Addr} {o:Obj} (hb:b∈fp) (e:h.get? b=some o):(b,o)∈sH fp h:=List.mem_filterMap.mpr ⟨b,hb,by rw [e];rfl⟩
theorem Gn {fp:List Addr} {h:Heap} {p:Addr×Obj} (hp:p∈sH fp h):p.1∈fp/\h.get? p.1=some p.2:=by
 obtain ⟨b,hb,e⟩:=List.mem_filterMap.mp hp
 cases q:h.get? b with
 | none=>rw [q] at e;cases e
 | some o=>
  rw [q] at e
  have e':(b,o)=p:=Ym e
  subst e'
  exact ⟨hb,q⟩
theorem Inv.pinned {pins:List (Addr×Obj)} {U:St} {H:Hp} {s:Shared} {fp:List Addr} (I:Inv X pins U H s) (hf:∀ b∈fp,mR X pins H b) (ho:∀ b∈fp,∃ o,s.heap.get? b=some o/\∀ v,o.data≠.cell v):Inv X (pins ++ sH fp s.heap) U H s:=
 I.pins_of fun p hp=>(Zb.mp hp).elim (fun z=>I.pin p (YH _ z)) fun z=>by
  obtain ⟨hb,e⟩:=Gn z
  obtain ⟨f0,f1,f2,_⟩:=hf p.1 hb
  obtain ⟨o,e',d⟩:=ho p.1 hb
  rw [e] at e';cases e'
  exact ⟨e,f0,f1,f2,d⟩
theorem Inv.unpinned {pins pl:List (Addr×Obj)} {U:St} {H:Hp} {s:Shared} (I:Inv X (pins ++ pl) U H s):Inv X pins U H s:=I.pins_of fun p hp=>I.pin p (YH _ (ZX _ hp))
theorem RN {iter:Expr} {body:List Stmt} {wi:TI} {g:TG} {tb:TS} {pos:Pos} (hp:PassesOwn (model X.prog X.w) X.A X.env X.xe) (hc:X.calm=true) (hi:PI X tg iter wi) (hg:PG X tg g) (hb:PSs X body tb)
  (hs:autoParam (∀ x,foldedSetIterable iter X.env x=pure x) L2.auto3._auto_1):PS X (.For tg iter body [] pos) (MP wi g tb):=by
 intro pins s U H D I h
 refine wpAny_For (fU (hi pins s U H _ I h) fun v s1 h1=>fU h1 fun itv s2 h2=>?_) hs
 obtain ⟨it,fp,tn,J,H2,e,I2,T,st2,f2,W,⟨m0,w0⟩,turn⟩:=h2
 subst e
 have stat:∀ {H':Hp},(∀ b∈fp,H' b=none)->∀ b∈fp,mR X pins H' b:=fun hn b hb=>⟨hn b hb,(f2 b hb).2⟩
 refine codeAny_forLoop_any (fun n s'=>∃ i U' H',Inv X pins U' H' s'/\tn i s'.heap/\(∀ b∈fp,H' b=none)/\W i n U' H') ?_ m0 ⟨0,U,H2,I2,st2,fun b hb=>(f2 b hb).1,w0⟩
 rintro n s3 ⟨i,σ3,H3,I3,st3,fr3,w3⟩
 rcases turn i n σ3 H3 w3 with ⟨stop,qn⟩ | ⟨go,N,hN,step⟩
 ·refine wpAny_passesOwn hp (fU (T.done X rfl rfl rfl hc i pins s3 σ3 H3 X.xe I3 (stat fr3) st3 stop) fun r s4 qq0=>?_)
  obtain ⟨hr,I4⟩:=qq0
  subst hr
  exact wpAny_execs_nil ⟨σ3,H3,I4,qn⟩
 ·refine wpAny_passesOwn hp (fU (T.item X rfl rfl rfl hc i pins s3 σ3 H3 X.xe I3 (stat fr3) st3 go) fun r s4 qq0=>?_)
  obtain ⟨u,hr,h4⟩:=qq0
  subst hr
  refine wpAny_passesOwn hp (fU h4 fun _ s5 qq0=>?_)
  obtain ⟨x,H5,I5,r5,y5,st5,fr5⟩:=qq0
  have I5':=I5.pinned (stat fr5) (T.obj _ _ st5)
  refine wpAny_passesOwn hp (fU (hg _ s5 σ3 H5 x u _ I5' r5 (step x H5 y5)) fun _ s6 qq0=>?_)
  obtain ⟨σ6,H6,I6,q6⟩:=qq0
  refine wpAny_passesOwn hp (fU (hb _ s6 σ6 H6 _ I6 q6) fun f s7 q7=>?_)
  have again:∀ {σ7:St} {H7:Hp},Inv X (pins ++ sH fp s5.heap) σ7 H7 s7->N σ7 H7->∃ m,m < n/\∃ i U' H',Inv X pins U' H' s7/\tn i s7.heap/\(∀ b∈fp,H' b=none)/\W i m U' H':=fun {σ7 H7} I7 n7=>by
   obtain ⟨m',hm,w7⟩:=hN σ7 H7 n7
   refine ⟨m',hm,i+1,σ7,H7,I7.unpinned,T.keep _ _ _ st5 fun b hb o e=>(I7.pin (b,o) (YH _ (YH _ (nH hb e)))).1,fun b hb=>?_,w7⟩
   obtain ⟨o,e,d⟩:=T.obj _ _ st5 b hb
   exact (I7.pin (b,o) (YH _ (YH _ (nH hb e)))).2.1
  cases f with
  | next=>obtain ⟨σ7,H7,I7,n7⟩:=q7;exact again I7 n7
  | cont=>obtain ⟨σ7,H7,I7,n7⟩:=q7;exact again I7 n7
  | brk=>obtain ⟨σ7,H7,I7,q7⟩:=q7;exact ⟨σ7,H7,I7.unpinned,q7⟩
  | ret v=>obtain ⟨x7,σ7,H7,I7,r7,q7⟩:=q7;exact ⟨x7,σ7,H7,I7.unpinned,r7,q7⟩
end
theorem mU {K:W.Frag} {a:Addr} {xs:List V} {g:TG} {tb:TS} {D:Ends} {U:St} {H:Hp} (Pv:Nat->St->Hp->Prop) (h0:Pv 0 U H) (hl:∀ i U H,i<=xs.length->Pv i U H->SqL K H a xs)
  (hs:∀ i x U H,xs[i]?=some x->Pv i U H->g x U H fun σ2 H2=>tb {D with nx:=Pv (i+1),ct:=Pv (i+1),bk:=D.nx} σ2 H2) (hd:∀ U H,Pv xs.length U H->D.nx U H):
  ∃ W:Nat->Nat->St->Hp->Prop,(∃ m,W 0 m U H)/\∀ i m U H,W i m U H->
   ((Vl K a).stop i H/\D.nx U H)\/((Vl K a).go i H/\∃ N:St->Hp->Prop,(∀ U' H',N U' H'->∃ m',m' < m/\W (i+1) m' U' H')/\∀ x H',(Vl K a).yld i H x H'->g x U H' fun σ2 H2=>tb {D with nx:=N,ct:=N,bk:=D.nx} σ2 H2):=by
 refine ⟨fun i m U H=>m=xs.length - i/\i<=xs.length/\Pv i U H,⟨xs.length,by simp,YT _,h0⟩,?_⟩
 rintro i m U H ⟨rfl,hi,p⟩
 have q:=hl i U H hi p
 by_cases hlt:i < xs.length
 ·refine .inr ⟨⟨xs,xs[i],q,by simp [hlt]⟩,Pv (i+1),fun U' H' p'=>⟨xs.length - (i+1),by omega,rfl,hlt,p'⟩,fun x H' y=>?_⟩
  obtain ⟨e,y⟩:=y
  subst e
  exact hs i x U _ (y xs q) p
 ·have e:i=xs.length:=by omega
  subst e
  exact .inl ⟨⟨xs,q,XQ _⟩,hd U H p⟩
theorem MT {K:W.Frag} {a:Addr} {xs:List V} {g:TG} {tb:TS} {D:Ends} {U:St} {H:Hp} (Pv:Nat->St->Hp->Prop) (h0:Pv 0 U H) (hl:∀ i U H,i<=xs.length->Pv i U H->SqT K H a xs)
  (hs:∀ i x U H,xs[i]?=some x->Pv i U H->g x U H fun σ2 H2=>tb {D with nx:=Pv (i+1),ct:=Pv (i+1),bk:=D.nx} σ2 H2) (hd:∀ U H,Pv xs.length U H->D.nx U H):
  ∃ W:Nat->Nat->St->Hp->Prop,(∃ m,W 0 m U H)/\∀ i m U H,W i m U H->
   ((Vm K a).stop i H/\D.nx U H)\/((Vm K a).go i H/\∃ N:St->Hp->Prop,(∀ U' H',N U' H'->∃ m',m' < m/\W (i+1) m' U' H')/\∀ x H',(Vm K a).yld i H x H'->g x U H' fun σ2 H2=>tb {D with nx:=N,ct:=N,bk:=D.nx} σ2 H2):=by
 refine ⟨fun i m U H=>m=xs.length - i/\i<=xs.length/\Pv i U H,⟨xs.length,by simp,YT _,h0⟩,?_⟩
 rintro i m U H ⟨rfl,hi,p⟩
 have q:=hl i U H hi p
 by_cases hlt:i < xs.length
 ·refine .inr ⟨⟨xs,xs[i],q,by simp [hlt]⟩,Pv (i+1),fun U' H' p'=>⟨xs.length - (i+1),by omega,rfl,hlt,p'⟩,fun x H' y=>?_⟩
  obtain ⟨e,y⟩:=y
  subst e
  exact hs i x U _ (y xs q) p
 ·have e:i=xs.length:=by omega
  subst e
  exact .inl ⟨⟨xs,q,XQ _⟩,hd U H p⟩
theorem p7 {lo:Int} {n:Nat} {g:TG} {tb:TS} {D:Ends} {U:St} {H:Hp} (Pv:Nat->St->Hp->Prop) (h0:Pv 0 U H)
  (hs:∀ i U H,i < n->Pv i U H->g (.int (lo+i)) U H fun σ2 H2=>tb {D with nx:=Pv (i+1),ct:=Pv (i+1),bk:=D.nx} σ2 H2) (hd:∀ U H,Pv n U H->D.nx U H):
  ∃ W:Nat->Nat->St->Hp->Prop,(∃ m,W 0 m U H)/\∀ i m U H,W i m U H->
   ((Ia lo n).stop i H/\D.nx U H)\/((Ia lo n).go i H/\∃ N:St->Hp->Prop,(∀ U' H',N U' H'->∃ m',m' < m/\W (i+1) m' U' H')/\∀ x H',(Ia lo n).yld i H x H'->g x U H' fun σ2 H2=>tb {D with nx:=N,ct:=N,bk:=D.nx} σ2 H2):=by
 refine ⟨fun i m U H=>m=n - i/\i<=n/\Pv i U H,⟨n,by simp,YT _,h0⟩,?_⟩
 rintro i m U H ⟨rfl,hi,p⟩
 by_cases hlt:i < n
 ·refine .inr ⟨hlt,Pv (i+1),fun U' H' p'=>⟨n - (i+1),by omega,rfl,hlt,p'⟩,fun x H' y=>?_⟩
  obtain ⟨e,y⟩:=y
  subst e y
  exact hs i U _ hlt p
 ·have e:i=n:=by omega
  subst e
  exact .inl ⟨XQ _,hd U H p⟩
abbrev R2:=V->V->Hp->VK->Prop
def OpR (X:Cx) (f:Value->Value->Sem Value) (r:R2):Prop:=
 ∀ (pins:List (Addr×Obj)) (s:Shared) (U:St) (H:Hp) (x y:V) (v u:Value) (Q:VK),Inv X pins U H s->RelV x v->RelV y u->r x y H Q->
  wpAny (model X.prog X.w) X.A (f v u) (EP X pins U Q) X.xe s
def Xo (X:Cx) (f:Value->Sem Value) (r:V->Hp->VK->Prop):Prop:=
 ∀ (pins:List (Addr×Obj)) (s:Shared) (U:St) (H:Hp) (x:V) (v:Value) (Q:VK),Inv X pins U H s->RelV x v->r x H Q->
  wpAny (model X.prog X.w) X.A (f v) (EP X pins U Q) X.xe s
def CallR (X:Cx) (f:Value) (r:List V->Hp->VK->Prop):Prop:=
 ∀ (pins:List (Addr×Obj)) (s:Shared) (U:St) (H:Hp) (xs:List V) (us:List Value) (Q:VK),Inv X pins U H s->Vals xs us->r xs H Q->
  wpAny (model X.prog X.w) X.A (call f us) (EP X pins U Q) X.xe s
def Mp (r:R2) (ta tb:TE):TE:=fun U H Q=>ta U H fun x H1=>tb U H1 fun y H2=>r x y H2 Q
def tUn (r:V->Hp->VK->Prop) (ta:TE):TE:=fun U H Q=>ta U H fun x H1=>r x H1 Q
def rI (C:Int->Int->Prop) (g:Int->Int->V):R2:=fun x y H Q=>∃ i j,x= .int i/\y= .int j/\C i j/\Q (g i j) H
def M9 (g:Int->Int->V):R2:=fun x y H Q=>∃ i j,x= .int i/\y= .int j/\Q (g i j) H
def rU (g:Int->V):V->Hp->VK->Prop:=fun x H Q=>∃ i,x= .int i/\Q (g i) H
section
variable {X:Cx} {a b c:Expr} {ta tb tc:TE} {pos:Pos}
theorem RP (ha:PE X a ta) (hb:PE X b tb) {pins:List (Addr×Obj)} {s:Shared} {U:St} {H:Hp} {R:V->V->Hp->Prop} (I:Inv X pins U H s)
  (h:ta U H fun x H1=>tb U H1 fun y H2=>R x y H2) {Q:Value->Shared->Prop} {f:Value->Value->Sem Value}
  (hf:∀ v u s2 x y H2,Inv X pins U H2 s2->RelV x v->RelV y u->R x y H2->wpAny (model X.prog X.w) X.A (f v u) Q X.xe s2):
  wpAny (model X.prog X.w) X.A (eval a X.env) (fun v s₁=>wpAny (model X.prog X.w) X.A (eval b X.env) (fun u s₂=>wpAny (model X.prog X.w) X.A (f v u) Q X.xe s₂) X.xe s₁) X.xe s:=by
 refine fU (ha pins s U H _ I h) fun v s1 qq0=>?_
 obtain ⟨x,H1,I1,r1,q1⟩:=qq0
 refine fU (hb pins s1 U H1 _ I1 q1) fun u s2 qq0=>?_
 obtain ⟨y,H2,I2,r2,q2⟩:=qq0
 exact hf v u s2 x y H2 I2 r1 r2 q2
theorem Vy {op:Operator} {r:R2} (ho:OpR X (binaryOp op) r) (ha:PE X a ta) (hb:PE X b tb):PE X (.BinOp a op b pos) (Mp r ta tb):=by
 intro pins s U H Q I h
 exact wpAny_BinOp (RP ha hb I h fun v u s2 x y H2 I2 rx ry q=>ho pins s2 U H2 x y v u Q I2 rx ry q)
theorem Vz {op:UnaryOp} {r:V->Hp->VK->Prop} (ho:Xo X (unaryOp op) r) (ha:PE X a ta):PE X (.UnaryOp op a pos) (tUn r ta):=by
 intro pins s U H Q I h
 exact UnaryOp_ (fU (ha pins s U H _ I h) fun v s1 ⟨x,H1,I1,r1,q1⟩=>ho pins s1 U H1 x v Q I1 r1 q1)
theorem Xp {f:Value->Value->Sem Value} {C:Int->Int->Prop} {g:Int->Int->Int}
  (rule:∀ (i j:Int) (t u:Tok) (s:Shared) (Q:Value->Shared->Prop) (E:Value->Shared->Prop),C i j->Q (.int (g i j) s.toks) {s with toks:=s.toks+1}->wpAny (model X.prog X.w) X.A (f (.int i t) (.int j u)) Q E s):
  OpR X f (rI C fun i j=>.int (g i j)):=by
 intro pins s U H x y v u Q I rx ry h
 obtain ⟨i,j,rfl,rfl,hc,q⟩:=h
 obtain ⟨t,rfl⟩:=rx
 obtain ⟨t',rfl⟩:=ry
 exact rule i j t t' s _ _ hc ⟨.int (g i j),H,I.tok _,⟨_,rfl⟩,q⟩
theorem VB {f:Value->Value->Sem Value} {g:Int->Int->Int}
  (rule:∀ (i j:Int) (t u:Tok) (s:Shared) (Q:Value->Shared->Prop) (E:Value->Shared->Prop),Q (.int (g i j) s.toks) {s with toks:=s.toks+1}->wpAny (model X.prog X.w) X.A (f (.int i t) (.int j u)) Q E s):
  OpR X f (M9 fun i j=>.int (g i j)):=by
 intro pins s U H x y v u Q I rx ry h
 obtain ⟨i,j,rfl,rfl,q⟩:=h
 obtain ⟨t,rfl⟩:=rx
 obtain ⟨t',rfl⟩:=ry
 exact rule i j t t' s _ _ ⟨.int (g i j),H,I.tok _,⟨_,rfl⟩,q⟩
theorem Nb {f:Value->Value->Sem Value} {g:Int->Int->Bool}
  (rule:∀ (i j:Int) (t u:Tok) (s:Shared) (Q:Value->Shared->Prop) (E:Value->Shared->Prop),Q (.bool (g i j)) s->wpAny (model X.prog X.w) X.A (f (.int i t) (.int j u)) Q E s):
  OpR X f (M9 fun i j=>.bl (g i j)):=by
 intro pins s U H x y v u Q I rx ry h
 obtain ⟨i,j,rfl,rfl,q⟩:=h
 obtain ⟨t,rfl⟩:=rx
 obtain ⟨t',rfl⟩:=ry
 exact rule i j t t' s _ _ ⟨.bl (g i j),H,I,rfl,q⟩
def CDiv (i j:Int):Prop:=0 < j/\j < 1073741824
def CPow (i j:Int):Prop:=0<=j/\j<=1000000/\i.natAbs < 2 ^ 64
def CMul (i j:Int):Prop:=(-(2 ^ 64) < i/\i < 2 ^ 64)\/(-(2 ^ 64) < j/\j < 2 ^ 64)
theorem CMul.ok {i j:Int} (h:CMul i j):IntMulOk i j:=by
 rcases h with ⟨h1,h2⟩ | ⟨h1,h2⟩
 ·exact .of_left (intBits_le_64 h1 h2)
 ·exact .of_right (intBits_le_64 h1 h2)
theorem RQ:OpR X (binaryOp .Add) (M9 fun i j=>.int (i+j)):=VB fun _ _ _ _ _ _ _ q=>add_int q
theorem fY:OpR X (binaryOp .Sub) (M9 fun i j=>.int (i - j)):=VB fun _ _ _ _ _ _ _ q=>sub_int q
theorem RV:OpR X (binaryOp .Mult) (rI CMul fun i j=>.int (i*j)):=Xp fun _ _ _ _ _ _ _ hc q=>mul_int q hc.ok
theorem lQ:OpR X (binaryOp .FloorDiv) (rI CDiv fun i j=>.int (i / j)):=Xp fun i j _ _ _ _ _ hc q=>by
 have h1:(0:Int) < j:=hc.1
 have h2:j < 1073741824:=hc.2
 exact floordiv_int (by omega) (by rw [Int.fdiv_eq_ediv_of_nonneg i (by omega)];exact q) (.inl (PyProof.noPylong_small (by omega)))
theorem jB:OpR X (binaryOp .Mod) (rI (fun _ j=>0 < j) fun i j=>.int (i % j)):=Xp fun i j _ _ _ _ _ hc q=>by
 have h1:(0:Int) < j:=hc
 exact mod_int' (by omega) (by rw [Int.fmod_eq_emod_of_nonneg i (by omega)];exact q)
theorem RW:OpR X (binaryOp .Pow) (rI CPow fun i j=>.int (i ^ j.toNat)):=Xp fun _ _ _ _ _ _ _ hc q=>pow_int_small hc.1 hc.2.1 hc.2.2 q
theorem unI {f:Value->Sem Value} {g:Int->Int}
  (rule:∀ (i:Int) (t:Tok) (s:Shared) (Q:Value->Shared->Prop) (E:Value->Shared->Prop),Q (.int (g i) s.toks) {s with toks:=s.toks+1}->wpAny (model X.prog X.w) X.A (f (.int i t)) Q E s):
  Xo X f (rU fun i=>.int (g i)):=by
 intro pins s U H x v Q I rx h
 obtain ⟨i,rfl,q⟩:=h
 obtain ⟨t,rfl⟩:=rx
 exact rule i t s _ _ ⟨.int (g i),H,I.tok _,⟨_,rfl⟩,q⟩
theorem sI:Xo X (unaryOp .USub) (rU fun i=>.int (-i)):=unI fun _ _ _ _ _ q=>neg_int q
end
def VD:V->V->Bool
 | .non,.non=>true | .non,.int _=>true | .int _,.non=>true | .non,.bl _=>true | .bl _,.non=>true | .non,.str _=>true | .str _,.non=>true
 | .int _,.int _=>true | .bl _,.bl _=>true | .str _,.str _=>true | .byt _,.byt _=>true
 | .int _,.str _=>true | .str _,.int _=>true | .bl _,.str _=>true | .str _,.bl _=>true
 | _,_=>false
def rEq:R2:=fun x y H Q=>VD x y=true/\Q (.bl (decide (x=y))) H
def rNe:R2:=fun x y H Q=>VD x y=true/\Q (.bl (!decide (x=y))) H
theorem DK {i j:Int}:decide (V.int i=V.int j)=(i == j):=by
 rw [Bool.eq_iff_iff]
 simp
theorem IK {i j:Bool}:decide (V.bl i=V.bl j)=(i == j):=by
 rw [Bool.eq_iff_iff]
 simp
theorem DN {i j:Str}:decide (V.str i=V.str j)=(i == j):=by
 rw [Bool.eq_iff_iff]
 simp
theorem DP {i j:Array UInt8}:decide (V.byt i=V.byt j)=(i.toList == j.toList):=by
 rw [Bool.eq_iff_iff]
 cases i
 cases j
 simp
section
variable {X:Cx} {a b c:Expr} {ta tb tc:TE} {pos:Pos}
theorem bL {pins:List (Addr×Obj)} {U:St} {H:Hp} {s:Shared} {Q:VK} {k k':Bool} (I:Inv X pins U H s) (q:Q (.bl k) H) (e:k=k'):EP X pins U Q (.bool k') s:=by
 subst e
 exact ⟨.bl k,H,I,rfl,q⟩
theorem VF:OpR X (compareOp .Eq) rEq:=by
 intro pins s U H x y v u Q I rx ry h
 obtain ⟨hs,q⟩:=h
 cases x with
 | non=>
  cases rx
  cases y with
  | non=>cases ry;exact PySem.EqNone.eq_none_none (bL I q (by simp))
  | bl j=>cases ry;exact PySem.EqNone.eq_none_bool (bL I q (by simp))
  | int j=>obtain ⟨t',rfl⟩:=ry;exact PySem.EqNone.eq_none_int (bL I q (by simp))
  | str j=>obtain ⟨t',rfl⟩:=ry;exact PySem.EqNone.eq_none_str (bL I q (by simp))
  | _=>exact absurd (show false=true from hs) Yb
 | bl i=>
  cases rx
  cases y with
  | non=>cases ry;exact PySem.EqNone.eq_bool_none (bL I q (by simp))
  | bl j=>cases ry;exact eq_bool (bL I q IK)
  | str j=>obtain ⟨t',rfl⟩:=ry;exact PySem.EqMixed.eq_bool_str (bL I q (by simp))
  | _=>exact absurd (show false=true from hs) Yb
 | int i=>
  obtain ⟨t,rfl⟩:=rx
  cases y with
  | non=>cases ry;exact PySem.EqNone.eq_int_none (bL I q (by simp))
  | int j=>obtain ⟨t',rfl⟩:=ry;exact eq_int (bL I q DK)
  | str j=>obtain ⟨t',rfl⟩:=ry;exact PySem.EqMixed.eq_int_str (bL I q (by simp))
  | _=>exact absurd (show false=true from hs) Yb
 | str i=>
  obtain ⟨t,rfl⟩:=rx
  cases y with
  | non=>cases ry;exact PySem.EqNone.eq_str_none (bL I q (by simp))
  | bl j=>cases ry;exact PySem.EqMixed.eq_str_bool (bL I q (by simp))
  | int j=>obtain ⟨t',rfl⟩:=ry;exact PySem.EqMixed.eq_str_int (bL I q (by simp))
  | str j=>obtain ⟨t',rfl⟩:=ry;exact eq_str (bL I q DN)
  | _=>exact absurd (show false=true from hs) Yb
 | byt i=>
  obtain ⟨t,rfl⟩:=rx
  cases y with
  | byt j=>obtain ⟨t',rfl⟩:=ry;exact PySem.W.eq_bytes (bL I q DP)
  | _=>exact absurd (show false=true from hs) Yb
 | _=>cases y <;> exact absurd (show false=true from hs) Yb
theorem VG:OpR X (compareOp .NotEq) rNe:=by
 intro pins s U H x y v u Q I rx ry h
 obtain ⟨hs,q⟩:=h
 cases x with
 | non=>
  cases rx
  cases y with
  | non=>cases ry;exact PySem.EqNone.ne_none_none (bL I q (by simp))
  | bl j=>cases ry;exact PySem.EqNone.ne_none_bool (bL I q (by simp))
  | int j=>obtain ⟨t',rfl⟩:=ry;exact PySem.EqNone.ne_none_int (bL I q (by simp))
  | str j=>obtain ⟨t',rfl⟩:=ry;exact PySem.EqNone.ne_none_str (bL I q (by simp))
  | _=>exact absurd (show false=true from hs) Yb
 | bl i=>
  cases rx
  cases y with
  | non=>cases ry;exact PySem.EqNone.ne_bool_none (bL I q (by simp))
  | bl j=>cases ry;exact ne_bool (bL I q (congrArg not IK))
  | str j=>obtain ⟨t',rfl⟩:=ry;exact PySem.EqMixed.ne_bool_str (bL I q (by simp))
  | _=>exact absurd (show false=true from hs) Yb
 | int i=>
  obtain ⟨t,rfl⟩:=rx
  cases y with
  | non=>cases ry;exact PySem.EqNone.ne_int_none (bL I q (by simp))
  | int j=>obtain ⟨t',rfl⟩:=ry;exact ne_int (bL I q (congrArg not DK))
  | str j=>obtain ⟨t',rfl⟩:=ry;exact PySem.EqMixed.ne_int_str (bL I q (by simp))
  | _=>exact absurd (show false=true from hs) Yb
 | str i=>
  obtain ⟨t,rfl⟩:=rx
  cases y with
  | non=>cases ry;exact PySem.EqNone.ne_str_none (bL I q (by simp))
  | bl j=>cases ry;exact PySem.EqMixed.ne_str_bool (bL I q (by simp))
  | int j=>obtain ⟨t',rfl⟩:=ry;exact PySem.EqMixed.ne_str_int (bL I q (by simp))
  | str j=>obtain ⟨t',rfl⟩:=ry;exact ne_str (bL I q (congrArg not DN))
  | _=>exact absurd (show false=true from hs) Yb
 | byt i=>
  obtain ⟨t,rfl⟩:=rx
  cases y with
  | byt j=>obtain ⟨t',rfl⟩:=ry;exact PySem.W.ne_bytes (bL I q (congrArg not DP))
  | _=>exact absurd (show false=true from hs) Yb
 | _=>cases y <;> exact absurd (show false=true from hs) Yb
theorem IV:OpR X (compareOp .Lt) (M9 fun i j=>.bl (decide (i < j))):=Nb fun _ _ _ _ _ _ _ q=>lt_int q
theorem DQ:OpR X (compareOp .LtE) (M9 fun i j=>.bl (decide (i<=j))):=Nb fun _ _ _ _ _ _ _ q=>le_int q
theorem DW:OpR X (compareOp .Gt) (M9 fun i j=>.bl (decide (j < i))):=Nb fun _ _ _ _ _ _ _ q=>gt_int q
theorem VH:OpR X (compareOp .GtE) (M9 fun i j=>.bl (decide (j<=i))):=Nb fun _ _ _ _ _ _ _ q=>ge_int q
theorem Gp:OpR X (compareOp .In) (fun x y H Q=>∃ i j,x= .str i/\y= .str j/\Q (.bl (!(Builtin.Str.occurrences j i 0 j.length 1).isEmpty)) H):=by
 intro pins s U H x y v u Q I rx ry h
 obtain ⟨i,j,rfl,rfl,q⟩:=h
 obtain ⟨t,rfl⟩:=rx
 obtain ⟨t',rfl⟩:=ry
 exact in_str (bL I q rfl)
theorem RX:OpR X (compareOp .Is) (fun x y H Q=>y= .non/\Q (.bl (decide (x= .non))) H):=by
 intro pins s U H x y v u Q I rx ry h
 obtain ⟨rfl,q⟩:=h
 cases ry
 refine is_none_gen (bL I q ?_)
 cases x <;> first
  | (cases rx;rfl)
  | (obtain ⟨t,rfl⟩:=rx;rfl)
theorem Nf:OpR X (compareOp .IsNot) (fun x y H Q=>y= .non/\Q (.bl (!decide (x= .non))) H):=by
 intro pins s U H x y v u Q I rx ry h
 obtain ⟨rfl,q⟩:=h
 cases ry
 refine isnot_none_gen (bL I q ?_)
 cases x <;> first
  | (cases rx;rfl)
  | (obtain ⟨t,rfl⟩:=rx;rfl)
theorem OpR.or {f:Value->Value->Sem Value} {r r':R2} (h:OpR X f r) (h':OpR X f r'):OpR X f (fun x y H Q=>r x y H Q\/r' x y H Q):=by
 intro pins s U H x y v u Q I rx ry q
 rcases q with q | q
 ·exact h pins s U H x y v u Q I rx ry q
 ·exact h' pins s U H x y v u Q I rx ry q
theorem bT (b:Expr) {op:CmpOp} (h:autoParam (op≠.In) L2.auto2._auto_1) (h2:autoParam (op≠.NotIn) L2.auto2._auto_1):behindInMarks op b=false:=by
 have e1:(op == CmpOp.In)=false:=by cases op <;> first | rfl | exact absurd rfl h
 have e2:(op == CmpOp.NotIn)=false:=by cases op <;> first | rfl | exact absurd rfl h2
 cases b <;> simp [behindInMarks,e1,e2]
theorem Ng {op:CmpOp} {r:R2} (ho:OpR X (compareOp op) r) (ha:PE X a ta) (hb:PE X b tb) (hm:behindInMarks op b=false):PE X (.Compare a [op] [b] pos) (Mp r ta tb):=by
 intro pins s U H Q I h
 exact wpAny_Compare1 (RP ha hb I h fun v u s2 x y H2 I2 rx ry q=>ho pins s2 U H2 x y v u Q I2 rx ry q) hm
def DX (t:TE):TT:=fun U H Q=>t U H fun x H'=>∃ k,x= .bl k/\Q k H'
theorem Nh {op:CmpOp} {r:R2} (ho:OpR X (compareOp op) r) (ha:PE X a ta) (hb:PE X b tb) (hm:behindInMarks op b=false):PT X (.Compare a [op] [b] pos) (DX (Mp r ta tb)):=by
 intro pins s U H Q I h
 refine wpAny_isTrue_Compare1 (fU (ha pins s U H _ I h) fun v s1 ⟨x,H1,I1,r1,q1⟩=>fU (hb pins s1 U H1 _ I1 q1) fun u s2 ⟨y,H2,I2,r2,q2⟩=>
  fU (ho pins s2 U H2 x y v u _ I2 r1 r2 q2) fun c s3 ⟨z,H3,I3,r3,k,e,q3⟩=>?_) hm
 subst e
 cases r3
 exact Ze ⟨H3,I3,q3⟩
def Bx (r r':R2) (ta tb tc:TE):TE:=fun U H Q=>ta U H fun x H1=>tb U H1 fun y H2=>r x y H2 fun z H3=>∃ k,z= .bl k/\
 (if k=true then tc U H3 fun w' H4=>r' y w' H4 Q else Q (.bl false) H3)
theorem IW {op op':CmpOp} {r r':R2} (ho:OpR X (compareOp op) r) (ho':OpR X (compareOp op') r') (ha:PE X a ta) (hb:PE X b tb) (hc:PE X c tc)
  (hm:autoParam (lastMarks [op,op'] [b,c]=false) L2.auto5._auto_1):PE X (.Compare a [op,op'] [b,c] pos) (Bx r r' ta tb tc):=by
 intro pins s U H Q I h
 refine Compare_chain (fU (ha pins s U H _ I h) fun v s1 ⟨x,H1,I1,r1,q1⟩=>chain_link (fU (hb pins s1 U H1 _ I1 q1) fun u s2 ⟨y,H2,I2,r2,q2⟩=>
  fU (ho pins s2 U H2 x y v u _ I2 r1 r2 q2) fun d s3 ⟨z,H3,I3,r3,k,e,q3⟩=>?_)) hm
 subst e
 cases r3
 refine Ze ?_
 cases k with
 | false=>exact ite_ff ⟨.bl false,H3,I3,rfl,q3⟩
 | true=>exact ite_tt (chain_last (fU (hc pins s3 U H3 _ I3 q3) fun w' s4 ⟨z',H4,I4,r4,q4⟩=>ho' pins s4 U H4 y z' u w' Q I4 r2 r4 q4))
theorem vh:(sizeLine:Nat) < 2 ^ 63:=by rw [sizeLine_eq];decide
theorem By:OpR X (binaryOp .Add) (fun x y H Q=>∃ i j,x= .str i/\y= .str j/\i.length+j.length<=sizeLine/\Q (.str (i ++ j)) H):=by
 intro pins s U H x y v u Q I rx ry h
 obtain ⟨i,j,rfl,rfl,hz,q⟩:=h
 obtain ⟨t,rfl⟩:=rx
 obtain ⟨t',rfl⟩:=ry
 exact add_str (fun t' tk=>⟨.str (i ++ j),H,I.tok _,⟨_,rfl⟩,q⟩) hz
theorem vals1 {x:V} {us:List Value} (r:Vals [x] us):∃ u,us=[u]/\RelV x u:=by
 cases r with
 | cons r1 r2=>cases r2;exact ⟨_,rfl,r1⟩
theorem vals2 {x y:V} {us:List Value} (r:Vals [x,y] us):∃ u w',us=[u,w']/\RelV x u/\RelV y w':=by
 cases r with
 | cons r1 r2=>
  cases r2 with
  | cons r3 r4=>cases r4;exact ⟨_,_,rfl,r1,r3⟩
theorem sO (hc:X.calm=true):CallR X (.builtin "max") (fun xs H Q=>∃ i j,xs=[.int i,.int j]/\Q (.int (if j > i then j else i)) H):=by
 intro pins s U H xs us Q I r h
 obtain ⟨i,j,rfl,q⟩:=h
 obtain ⟨u,w',rfl,⟨t,rfl⟩,⟨t',rfl⟩⟩:=vals2 r
 refine max_two_ints (I.ok.hd hc) fun h' tk k=>⟨_,H,I.kept k,?_,q⟩
 by_cases hj:j > i
 ·rw [if_pos hj,if_pos hj];exact ⟨_,rfl⟩
 ·rw [if_neg hj,if_neg hj];exact ⟨_,rfl⟩
theorem Gq (hc:X.calm=true):CallR X (.builtin "min") (fun xs H Q=>∃ i j,xs=[.int i,.int j]/\Q (.int (if j < i then j else i)) H):=by
 intro pins s U H xs us Q I r h
 obtain ⟨i,j,rfl,q⟩:=h
 obtain ⟨u,w',rfl,⟨t,rfl⟩,⟨t',rfl⟩⟩:=vals2 r
 refine min_two_ints (I.ok.hd hc) fun h' tk k=>⟨_,H,I.kept k,?_,q⟩
 by_cases hj:j < i
 ·rw [if_pos hj,if_pos hj];exact ⟨_,rfl⟩
 ·rw [if_neg hj,if_neg hj];exact ⟨_,rfl⟩
theorem Gr:CallR X (.type "int") (fun xs H Q=>(∃ i,xs=[.int i]/\Q (.int i) H)\/∃ k,xs=[.bl k]/\Q (.int (if k then 1 else 0)) H):=by
 intro pins s U H xs us Q I r h
 rcases h with ⟨i,rfl,q⟩ | ⟨k,rfl,q⟩
 ·obtain ⟨u,rfl,t,rfl⟩:=vals1 r
  exact call_int_int ⟨.int i,H,I,⟨_,rfl⟩,q⟩
 ·obtain ⟨u,rfl,r1⟩:=vals1 r
  cases r1
  exact call_int_bool ⟨.int (if k then 1 else 0),H,I.tok _,⟨_,rfl⟩,q⟩
def VJ (K:W.Frag) (x:V) (H:Hp) (n:Nat):Prop:=
 match x with
 | .str y=>y.length<=sizeLine/\n=y.length
 | .byt y=>y.size<=sizeLine/\n=y.size
 | .ref p=>(∃ xs,SqL K H p xs/\n=xs.length)\/∃ xs,SqT K H p xs/\n=xs.length
 | _=>False
theorem Ja:CallR X (.builtin "len") (fun xs H Q=>∃ x n,xs=[x]/\VJ X.K x H n/\Q (.int n) H):=by
 intro pins s U H xs us Q I r h
 obtain ⟨x,n,rfl,e,q⟩:=h
 obtain ⟨u,rfl,rx⟩:=vals1 r
 have hl:=vh
 have hs:sizeLine=16777216:=sizeLine_eq
 cases x with
 | str y=>
  obtain ⟨t,rfl⟩:=rx
  obtain ⟨hy,e'⟩:y.length<=sizeLine/\n=y.length:=e
  subst e'
  exact len_str (by omega) ⟨.int _,H,I.tok _,⟨_,rfl⟩,q⟩
 | byt y=>
  obtain ⟨t,rfl⟩:=rx
  obtain ⟨hy,e'⟩:y.size<=sizeLine/\n=y.size:=e
  subst e'
  exact PySem.W.len_bytes (by omega) ⟨.int _,H,I.tok _,⟨_,rfl⟩,q⟩
 | ref p=>
  cases rx
  have e':(∃ xs,SqL X.K H p xs/\n=xs.length)\/∃ xs,SqT X.K H p xs/\n=xs.length:=e
  rcases e' with ⟨xs,hx,e'⟩ | ⟨xs,hx,e'⟩
  ·subst e'
   obtain ⟨its,r',pl,hz⟩:=I.list hx
   have hlen:=r'.length
   exact Calls.call_len_list pl.isList (by simp only [Yc];omega) ⟨.int xs.length,H,I.tok _,⟨_,by simp only [Yc];rw [hlen]⟩,q⟩
  ·subst e'
   obtain ⟨its,r',pl,hz⟩:=I.tuple hx
   have hlen:=r'.length
   exact len_tuple pl (by simp only [Yc];omega) ⟨.int xs.length,H,I.tok _,⟨_,by simp only [Yc];rw [hlen]⟩,q⟩
 | _=>exact (show False from e).elim
end
structure ObjM (h:Heap) (x dx C:Addr) (mA:Str->Option Value):Prop where
 obj:h.get? x=some (PySem.W.instObj C dx)
 ns:h.Ns1 dx mA
 ne:dx≠x
theorem sS {h:Heap} {dx:Addr} {mA:Str->Option Value} (n:h.Ns1 dx mA):∃ od,h.get? dx=some od/\∀ name,PySem.W.lookIn name od=some (mA name):=by
 obtain ⟨o,es,ep,ho,hd,hk,_,hm⟩:=n
 refine ⟨o,ho,fun name=>?_⟩
 have e:=hm name
 unfold nsFind findBy at e
 rw [← Array.find?_toList] at e
 unfold PySem.W.lookIn
 rw [hd]
 dsimp only
 split
 ·rename_i y q
  rw [q] at e
  exact congrArg some e
 ·rename_i q
  rw [q] at e
  have a:es.toList.any (·.refKey)=false:=by
   rw [List.any_eq_false]
   intro y hy
   obtain ⟨z,t,hkey⟩:=hk y (Array.mem_toList_iff.mp hy)
   simp [DictEntry.refKey,hkey]
  have a':¬ es.toList.any (·.refKey)=true:=by rw [a];exact Yb
  rw [if_neg a']
  exact congrArg some e
theorem ObjM.look {h:Heap} {x dx C:Addr} {mA:Str->Option Value} (I:ObjM h x dx C mA):∃ od,PySem.W.InstAt h x (PySem.W.instObj C dx) C (some od)/\∀ name,PySem.W.lookIn name od=some (mA name):=
 let ⟨od,ho,hl⟩:=sS I.ns
 ⟨od,⟨I.obj,rfl,rfl,ho⟩,hl⟩
section
variable {prog:Program} {w:World} {A:Around} {E:Value->Shared->Prop} {s:Shared} {K:W.Frag} {x dx C f:Addr} {mA:Str->Option Value} {name:Str} {v:Value}
theorem Ni {expr:Bool} {Q:Value->Shared->Prop} (X:K.In s.heap) (I:ObjM s.heap x dx C mA) (hg:PySem.W.plainGet K C name=true) (hh:PySem.W.hasDictIn K C=true)
  (ha:PySem.W.findIn K (.ref C) name=some none) (hv:mA name=some v) (hv':PySem.W.handedIn v=true) (h:Q v {s with toks:=s.toks+1}):
  wpAny (model prog w) A (getAttr (.ref x) name expr) Q E s:=by
 obtain ⟨od,J,hl⟩:=I.look
 exact PySem.W.get_value X J (PySem.W.plainGet_of hg).1 (PySem.W.findObj_own hh ha rfl (by rw [hl,hv])) hv' h
theorem Jb {pl:Sem Bool} {Q:Value×List Value->Shared->Prop} (X:K.In s.heap) (I:ObjM s.heap x dx C mA) (hg:PySem.W.plainGet K C name=true)
  (hf:PySem.W.findIn K (.ref C) name=some (some (.ref f))) (ht:PySem.W.isFn K (.ref f)=true) (hv:mA name=none) (h:Q (.ref f,[.ref x]) s):
  wpAny (model prog w) A (getMethod (.ref x) name pl) Q E s:=by
 obtain ⟨od,J,hl⟩:=I.look
 exact PySem.W.method_fn X J (PySem.W.plainGet_of hg).1 (PySem.W.plainGet_of hg).2 hf (ZF.mp ht) (by show (PySem.W.lookIn name od).map (·.isSome)=some false;rw [hl,hv];rfl) h
theorem Nj {ns:List Str} {Q:Unit->Shared->Prop} (X:K.In s.heap) (I:ObjM s.heap x dx C mA)
  (hs:PySem.W.findIn K (.ref C) "__setattr__"=some (some (.builtin "object.__setattr__"))) (hp:PySem.W.plainOver K C=true) (ht:PySem.W.takerIn K C name=some none) (hh:PySem.W.hasDictIn K C=true)
  (hw:PySem.Within mA ns) (hsz:ns.length<=sizeLine)
  (h:∀ h',ObjM h' x dx C (fun y=>if y=name then some v else mA y)->Heap.SameBut dx s.heap h'->Q () {s with heap:=h',toks:=s.toks+2}):
  wpAny (model prog w) A (setAttr (.ref x) name v) Q E s:=by
 obtain ⟨od,J,hl⟩:=I.look
 refine PySem.W.set_plain X J hs (PySem.W.osa_open (s:={s with toks:=s.toks+1}) (r:=none) X J hp ht fun b=>?_)
 obtain ⟨cd,hc,hd'⟩:=PySem.W.any_some hh
 have hx:s.heap.get? x=some ⟨.ref C,some dx,.plain,#[]⟩:=I.obj
 refine XJ (XS (XJ (XJ (Aaf hx (XJ (PySem.W.Looks.here (s:={s with toks:=s.toks+1}) (PySem.W.looks_clsIn X hc) ?_))))))
 rw [hd']
 refine XS (a:=some dx) (XJ (XS (XJ ?_)))
 refine wpAny_nsSet1 (s:={s with toks:=s.toks+1}) I.ns fun h' hn2 hs2=>?_
 obtain ⟨oD,esD,epD,hoD,hdD,hcD⟩:=hn2.count (PySem.Within.cons name v hw)
 refine XJ (wpAny_lookBehind hoD (by rw [hdD];exact pastItsLine_dict (Yz hcD (by rw [Y5];omega))) ?_)
 exact XS (h _ ⟨(hs2.2 _ (Ne.symm I.ne)).trans I.obj,hn2,I.ne⟩ hs2)
theorem Jc {R:Result->Shared->Prop} {vs:List Value} {kw:List (Str×Value)} (X:K.In s.heap) (hm:PySem.W.makesIn K C=true)
  (hi:PySem.W.findIn K (.ref C) "__init__"=some (some (.ref f))) (hf:PySem.W.typeIn K (.ref f)=some (.type "function"))
  (h:codeAny (model prog w) (A.under (.builtin "type.__call__" ⟨.ref C :: vs,kw⟩)) (.call (.ref f) ⟨.ref (s.heap.objs.size+1) :: vs,kw⟩) (PySem.W.InitBack (s.heap.objs.size+1) R)
   {s with heap:=(s.heap.push PySem.W.emptyDict).push (PySem.W.instObj C s.heap.objs.size)}):
  codeAny (model prog w) A (.call (.ref C) ⟨vs,kw⟩) R s:=by
 obtain ⟨hh,g,d,t,os⟩:=s
 exact PySem.W.make_core (PySem.W.makes_of X hm) (Zo X hi) (fun self=>PySem.W.bind_fn X self hf) (.inl rfl) h
end
def lO (f:Str) (v:V):List (Str×V)->List (Str×V)
 | []=>[(f,v)]
 | (g,x) :: r=>if g=f then (g,v) :: r else (g,x) :: lO f v r
theorem o5 (f g:Str) (v:V):∀ fs:List (Str×V),(lO f v fs).lookup g=if g=f then some v else fs.lookup g
 | []=>by
  show List.lookup g [(f,v)]=_
  by_cases h:g=f
  ·have hb:(g == f)=true:=ZF.mpr h
   simp only [List.lookup,hb,if_pos h]
  ·have hb:(g == f)=false:=Y9.mpr h
   simp only [List.lookup,hb,if_neg h]
 | (k,x) :: r=>by
  have ih:=o5 f g v r
  rw [show lO f v ((k,x) :: r)=(if k=f then (k,v) :: r else (k,x) :: lO f v r) from rfl]
  by_cases hk:k=f
  ·rw [if_pos hk]
   by_cases h:g=k
   ·have hb:(g == k)=true:=ZF.mpr h
    simp only [List.lookup,hb,if_pos (h.trans hk)]
   ·have hb:(g == k)=false:=Y9.mpr h
    simp only [List.lookup,hb,if_neg (fun e:g=f=>h (e.trans hk.symm))]
  ·rw [if_neg hk]
   by_cases h:g=k
   ·have hb:(g == k)=true:=ZF.mpr h
    simp only [List.lookup,hb,if_neg (fun e:g=f=>hk (h.symm.trans e))]
   ·have hb:(g == k)=false:=Y9.mpr h
    simp only [List.lookup,hb]
    exact ih
theorem sU (f:Str) (v:V):∀ fs:List (Str×V),f∈(lO f v fs).map (·.1)/\∀ g,g∈fs.map (·.1)->g∈(lO f v fs).map (·.1)
 | []=>⟨by simp [lO],fun g h=>by simp at h⟩
 | (k,x) :: r=>by
  obtain ⟨i1,i2⟩:=sU f v r
  rw [show lO f v ((k,x) :: r)=(if k=f then (k,v) :: r else (k,x) :: lO f v r) from rfl]
  by_cases hk:k=f
  ·rw [if_pos hk]
   subst hk
   exact ⟨by simp,fun g h=>by simpa using h⟩
  ·rw [if_neg hk]
   refine ⟨?_,fun g h=>?_⟩
   ·rw [Ys]
    exact Yi _ i1
   ·rw [Ys] at h ⊢
    rcases X7.mp h with e | e
    ·exact X7.mpr (.inl e)
    ·exact Yi _ (i2 g e)
theorem ut (f:Str) (v:V):∀ fs:List (Str×V),(lO f v fs).length<=fs.length+1
 | []=>by simp [lO]
 | (k,x) :: r=>by
  have ih:=ut f v r
  rw [show lO f v ((k,x) :: r)=(if k=f then (k,v) :: r else (k,x) :: lO f v r) from rfl]
  by_cases hk:k=f
  ·rw [if_pos hk,Y5,Y5];omega
  ·rw [if_neg hk,Y5,Y5];omega
theorem RelO.some_of {v:V} {o:Option Value} (r:RelO (some v) o):∃ u,o=some u/\RelV v u:=by
 cases o with
 | none=>exact (show False from r).elim
 | some u=>exact ⟨u,rfl,r⟩
theorem RelO.none_of {o:Option Value} (r:RelO none o):o=none:=by
 cases o with
 | none=>rfl
 | some u=>exact (show False from r).elim
theorem xg {v:V} {u:Value} (r:RelV v u):PySem.W.handedIn u=true:=by
 cases v with
 | non=>cases (show u=Value.none from r);rfl
 | bl b=>cases (show u=Value.bool b from r);rfl
 | int i=>obtain ⟨t,e⟩:=(show ∃ t,u=Value.int i t from r);cases e;rfl
 | str x=>obtain ⟨t,e⟩:=(show ∃ t,u=Value.str x t from r);cases e;rfl
 | byt b=>obtain ⟨t,e⟩:=(show ∃ t,u=Value.bytes b t from r);cases e;rfl
 | flt b=>obtain ⟨t,e⟩:=(show ∃ t,u=Value.float b t from r);cases e;rfl
 | ref a=>cases (show u=Value.ref a from r);rfl
 | ty n=>cases (show u=Value.type n from r);rfl
section
variable {P:Program} {w:World} {H H':Hp} {h h':Heap} {a C dx:Addr} {fs fs':List (Str×V)}
theorem rD (hok:HOk P w H h) (e:H a=some (.ins C dx fs)):∃ mA,ObjM h a dx C mA/\(∀ f,RelO (fs.lookup f) (mA f))/\PySem.Within mA (fs.map (·.1))/\fs.length<=1000/\H dx=some (.own a):=by
 obtain ⟨d,z,ne,ob,mA,n,r,q⟩:=(show ObjOk P w H h a (.ins C dx fs) from hok a _ e)
 exact ⟨mA,⟨ob,n,ne⟩,r,q,z,d⟩
end
structure Cls (K:W.Frag) (C:Addr):Prop where
 pg:PySem.W.plainGet K C Str.empty=true
 hd:PySem.W.hasDictIn K C=true
 po:PySem.W.plainOver K C=true
 sa:PySem.W.findIn K (.ref C) "__setattr__"=some (some (.builtin "object.__setattr__"))
theorem Cls.get {K:W.Frag} {C:Addr} (c:Cls K C) (f:Str):PySem.W.plainGet K C f=true:=c.pg
def NoAttr (K:W.Frag) (C:Addr) (f:Str):Prop:=PySem.W.findIn K (.ref C) f=some none
theorem NoAttr.taker {K:W.Frag} {C:Addr} {f:Str} (n:NoAttr K C f):PySem.W.takerIn K C f=some none:=by
 unfold PySem.W.takerIn
 rw [show PySem.W.findIn K (.ref C) f=some none from n]
 rfl
structure Meth (K:W.Frag) (C:Addr) (m:Str) (f:Addr):Prop where
 at_:PySem.W.findIn K (.ref C) m=some (some (.ref f))
 fn:PySem.W.isFn K (.ref f)=true
 kp:PySem.W.keepIn K (.ref f)=true
section
variable {X:Cx} {pins:List (Addr×Obj)} {U:St} {H:Hp} {s:Shared} {a C dx:Addr} {fs:List (Str×V)} {f:Str} {v:V} {A:Around} {E:Value->Shared->Prop}
theorem BJ {b:Bool} {Q:Value->Shared->Prop} (I:Inv X pins U H s) (e:H a=some (.ins C dx fs)) (c:Cls X.K C) (n:NoAttr X.K C f) (l:fs.lookup f=some v)
  (h:∀ u s',Inv X pins U H s'->RelV v u->Q u s'):wpAny (model X.prog X.w) A (getAttr (.ref a) f b) Q E s:=by
 obtain ⟨mA,O,r,_,_,_⟩:=rD I.hok e
 obtain ⟨u,hu,ru⟩:=RelO.some_of (v:=v) (o:=mA f) (by rw [← l];exact r f)
 exact Ni I.kIn O (c.get f) c.hd n hu (xg ru) (h u _ (I.tok _) ru)
theorem vm {m:Str} {g:Addr} {pl:Sem Bool} {Q:Value×List Value->Shared->Prop} (I:Inv X pins U H s) (e:H a=some (.ins C dx fs)) (c:Cls X.K C) (k:Meth X.K C m g) (l:fs.lookup m=none)
  (h:Q (.ref g,[.ref a]) s):wpAny (model X.prog X.w) A (getMethod (.ref a) m pl) Q E s:=by
 obtain ⟨mA,O,r,_,_,_⟩:=rD I.hok e
 have hn:mA m=none:=RelO.none_of (by rw [← l];exact r m)
 exact Jb I.kIn O (c.get m) k.at_ k.fn hn h
theorem BK {y:V} {u:Value} {Q:Unit->Shared->Prop} (I:Inv X pins U H s) (e:H a=some (.ins C dx fs)) (c:Cls X.K C) (n:NoAttr X.K C f) (hl:fs.length < 1000) (ry:RelV y u)
  (h:∀ s',Inv X pins U (upd H a (.ins C dx (lO f y fs))) s'->Q () s'):wpAny (model X.prog X.w) A (setAttr (.ref a) f u) Q E s:=by
 obtain ⟨mA,O,r,wi,_,ho⟩:=rD I.hok e
 have hz:(fs.map (·.1)).length<=sizeLine:=by rw [X8,sizeLine_eq];omega
 refine Nj I.kIn O c.sa c.po n.taker c.hd wi hz fun h' O' sb=>h _ ?_
 have hd:∃ o,h'.get? dx=some o:=let ⟨o,_,_,e',_⟩:=O'.ns;⟨o,e'⟩
 refine I.write (x:=a) (e:=dx) (by rw [e];exact True.intro) (.inr ho) (fun b q hb z=>(sb.2 b hb).trans z) hd ?_
 refine ⟨by rw [aD O.ne];exact ho,?_,O.ne,O'.obj,_,O'.ns,fun g=>?_,fun g hg=>?_⟩
 ·have:=ut f y fs;omega
 ·show RelO ((lO f y fs).lookup g) (if g=f then some u else mA g)
  rw [o5]
  by_cases q:g=f
  ·rw [if_pos q,if_pos q];exact ry
  ·rw [if_neg q,if_neg q];exact r g
 ·by_cases q:g=f
  ·rw [q];exact (sU f y fs).1
  ·refine (sU f y fs).2 g (wi g fun z=>hg ?_)
   show (if g=f then some u else mA g)=none
   rw [if_neg q];exact z
theorem Inv.made (I:Inv X pins U H s):Inv X pins U (upd (upd H s.heap.objs.size (.own (s.heap.objs.size+1))) (s.heap.objs.size+1) (.ins C s.heap.objs.size []))
  {s with heap:=(s.heap.push PySem.W.emptyDict).push (PySem.W.instObj C s.heap.objs.size)}:=by
 have e1:(s.heap.push PySem.W.emptyDict).get? s.heap.objs.size=some PySem.W.emptyDict:=X4 s.heap rfl
 have e2:((s.heap.push PySem.W.emptyDict).push (PySem.W.instObj C s.heap.objs.size)).get? (s.heap.objs.size+1)=some (PySem.W.instObj C s.heap.objs.size):=by
  have:=X4 (s.heap.push PySem.W.emptyDict) (o:=PySem.W.instObj C s.heap.objs.size) rfl
  rwa [YW] at this
 have e3:(s.heap.push PySem.W.emptyDict).Ns s.heap.objs.size (fun _=>none):=⟨PySem.W.emptyDict,#[],_,e1,rfl,(fun e he=>absurd he (by simp)),fun _=>rfl⟩
 have I1:=I.laid (a:=s.heap.objs.size) (o:=.own (s.heap.objs.size+1)) (h':=s.heap.push PySem.W.emptyDict) (t':=s.toks) (fun b u q=>XN _ q) (XQ _) ⟨_,e1⟩
 refine I1.laid (a:=s.heap.objs.size+1) (o:=.ins C s.heap.objs.size []) (t':=s.toks) (fun b u q=>XN _ q) (Nat.le_of_eq (YW _ _)) ?_
 have ne:s.heap.objs.size≠s.heap.objs.size+1:=Yy (Z3 _)
 refine ⟨by rw [aD ne,aj],YT _,ne,e2,fun _=>none,(Heap.Ns1.of_empty e3).at fun o q=>XN _ q,fun _=>True.intro,fun y hy=>absurd rfl hy⟩
theorem DY {prog:Program} {w:World} {env:Env} {e:Expr} {f:Str} {pos:Pos} {s:Shared} {Q:Value->Shared->Prop} (hb:attributeBase e f env (eval e env)=eval e env)
  (h:wpAny (model prog w) A (eval e env) (fun o s₁=>wpAny (model prog w) A (getAttr o f true) Q E s₁) E s):wpAny (model prog w) A (eval (.Attribute e f pos) env) Q E s:=
 Attribute_any_ h (by rw [arm_eval_Attribute,hb])
end
def RZ (K:W.Frag) (ta:TE) (f:Str):TE:=fun U H Q=>ta U H fun x H1=>∃ a C dx fs v,x= .ref a/\H1 a=some (.ins C dx fs)/\Cls K C/\NoAttr K C f/\fs.lookup f=some v/\Q v H1
def R0 (K:W.Frag) (ta tv:TE) (f:Str):TS:=fun D U H=>tv U H fun y H1=>ta U H1 fun x H2=>∃ a C dx fs,x= .ref a/\H2 a=some (.ins C dx fs)/\Cls K C/\NoAttr K C f/\fs.length < 1000/\
 D.nx U (upd H2 a (.ins C dx (lO f y fs)))
section
variable {X:Cx} {o e value:Expr} {f:Str} {pos pos' tpos:Pos} {ta tv:TE}
theorem R1 (he:PE X e ta) (hb:attributeBase e f X.env (eval e X.env)=eval e X.env):PE X (.Attribute e f pos) (RZ X.K ta f):=by
 intro pins s U H Q I h
 refine DY hb (fU (he pins s U H _ I h) fun u s1 qq0=>?_)
 obtain ⟨x,H1,I1,rx,a,C,dx,fs,v,ex,ea,c,n,l,q⟩:=qq0
 subst ex
 obtain rfl:u=Value.ref a:=rx
 exact BJ I1 ea c n l fun u' s2 I2 ru=>⟨v,H1,I2,ru,q⟩
theorem R3 (ha:PE X o ta) (hv:PE X value tv) (hs:swapsWith value (some (.Attribute o f pos')) pos.line X.env=pure false):PS X (.Assign [.Attribute o f pos'] value pos) (R0 X.K ta tv f):=by
 intro pins s U H D I h
 refine plainObj_wpAny_Assign_Attribute (fU (hv pins s U H _ I h) fun u s1 ⟨y,H1,I1,ry,q⟩=>fU (ha pins s1 U H1 _ I1 q) fun ov s2 qq0=>?_) hs
 obtain ⟨x,H2,I2,rx,a,C,dx,fs,ex,ea,c,n,l,q2⟩:=qq0
 subst ex
 obtain rfl:ov=Value.ref a:=rx
 exact BK I2 ea c n l ry fun s3 I3=>⟨U,_,I3,q2⟩
end
section
variable {X:Cx} {pins:List (Addr×Obj)} {U:St} {H:Hp} {s:Shared} {A:Around} {E:Value->Shared->Prop} {Q:Value->Shared->Prop} {c:Value} {b:Bool}
inductive TyOf (K:W.Frag) (H:Hp):V->Value->Prop where
 | non:TyOf K H .non (.type "NoneType")
 | bl (x:Bool):TyOf K H (.bl x) (.type "bool")
 | int (i:Int):TyOf K H (.int i) (.type "int")
 | str (x:Str):TyOf K H (.str x) (.type "str")
 | flt (x:UInt64):TyOf K H (.flt x) (.type "float")
 | lst {a:Addr} {xs:List V} (e:H a=some (.lst xs)):TyOf K H (.ref a) (.type "list")
 | frz {a:Addr} {o:Obj} {xs:List V} (e:H a=some (.frz o (.lst xs))):TyOf K H (.ref a) (.type "list")
 | tup {a:Addr} {xs:List V} (e:H a=some (.tup xs)):TyOf K H (.ref a) (.type "tuple")
 | dK {a:Addr} {kvs:List (Key×V)} (e:H a=some (.dK kvs)):TyOf K H (.ref a) (.type "dict")
 | dT {a:Addr} {kvs:List (List Key×V)} (e:H a=some (.dT kvs)):TyOf K H (.ref a) (.type "dict")
 | ins {a C dx:Addr} {fs:List (Str×V)} (e:H a=some (.ins C dx fs)) (cl:Cls K C) (ha:PySem.W.findIn K (.ref C) "__class__"=some (some (.builtin "object.__class__")))
   (hn:PySem.W.specialIn K (.builtin "object.__class__") "__get__"=some (some (.builtin "getset_descriptor.__get__"))) (htk:PySem.W.takesIn K (.builtin "object.__class__")=some true)
   (hm:PySem.W.mroIn K C (.type "object")=some true):TyOf K H (.ref a) (.ref C)
theorem Gs {x:V} {u t:Value} (I:Inv X pins U H s) (rx:RelV x u) (ty:TyOf X.K H x t) (e:PySem.W.kitOne X.K t c=some b) (h:∀ tk,Q (.bool b) {s with toks:=tk}):
  wpAny (model X.prog X.w) A (call (.builtin "isinstance") [u,c]) Q E s:=by
 cases ty with
 | non=>cases (show u=Value.none from rx);exact Zc PySem.W.kitx_none I.kIn True.intro e (fun z=>nomatch z) h
 | bl y=>cases (show u=Value.bool y from rx);exact Zc PySem.W.kitx_bool I.kIn True.intro e (fun z=>nomatch z) h
 | int i=>obtain ⟨t,q⟩:=(show ∃ t,u=Value.int i t from rx);cases q;exact Zc PySem.W.kitx_int I.kIn True.intro e (fun z=>nomatch z) h
 | str y=>obtain ⟨t,q⟩:=(show ∃ t,u=Value.str y t from rx);cases q;exact Zc PySem.W.kitx_str I.kIn True.intro e (fun z=>nomatch z) h
 | flt y=>obtain ⟨t,q⟩:=(show ∃ t,u=Value.float y t from rx);cases q;exact Zc PySem.W.kitx_float I.kIn True.intro e (fun z=>nomatch z) h
 | @lst a xs ea=>
  cases (show u=Value.ref a from rx)
  obtain ⟨_,_,n,_,h1⟩:=(show ObjOk X.prog X.w H s.heap a (.lst xs) from I.hok a _ ea)
  exact Zc PySem.W.kitx_list I.kIn ⟨_,h1,rfl⟩ e (fun z=>nomatch z) h
 | @frz a ob xs ea=>
  cases (show u=Value.ref a from rx)
  obtain ⟨_,_,_,n,_,h1⟩:=(show ObjOk X.prog X.w H s.heap a (.frz ob (.lst xs)) from I.hok a _ ea)
  exact Zc PySem.W.kitx_list I.kIn ⟨_,h1,rfl⟩ e (fun z=>nomatch z) h
 | @tup a xs ea=>
  cases (show u=Value.ref a from rx)
  obtain ⟨_,_,_,p⟩:=(show ObjOk X.prog X.w H s.heap a (.tup xs) from I.hok a _ ea)
  obtain ⟨o,h1,h2,_⟩:=p
  exact Zc PySem.W.kitx_tuple I.kIn ⟨o,h1,h2⟩ e (fun z=>nomatch z) h
 | @dK a kvs ea=>
  cases (show u=Value.ref a from rx)
  obtain ⟨_,_,vs,_,p⟩:=(show ObjOk X.prog X.w H s.heap a (.dK kvs) from I.hok a _ ea)
  obtain ⟨o,es,ep,h1,h2,_⟩:=p
  exact Zc PySem.W.kitx_dict I.kIn ⟨o,h1,h2.1⟩ e (fun z=>nomatch z) h
 | @dT a kvs ea=>
  cases (show u=Value.ref a from rx)
  obtain ⟨_,_,xs,_,o,es,ep,h1,h2,_⟩:=(show ObjOk X.prog X.w H s.heap a (.dT kvs) from I.hok a _ ea)
  exact Zc PySem.W.kitx_dict I.kIn ⟨o,h1,h2.1⟩ e (fun z=>nomatch z) h
 | @ins a C dx fs ea cl ha hn htk hm=>
  cases (show u=Value.ref a from rx)
  obtain ⟨mA,O,_⟩:=rD I.hok ea
  obtain ⟨od,J,_⟩:=O.look
  exact Zc (PySem.W.kitx_own (cl.get _) cl.hd ha hn htk hm) I.kIn J e (fun z=>nomatch z) h
end
structure Room (k:Nat) (A:Around):Prop where
 hd:A.handled=none
 dp:A.depth+3*k+5 < recursionLimit
 un:A.units+16*k+200 < cLine
 gd:A.guards=some []
theorem Room.mono {j k:Nat} {A:Around} (r:Room k A) (h:j<=k):Room j A:=⟨r.hd,by have:=r.dp;omega,by have:=r.un;omega,r.gd⟩
theorem Room.deeper {k:Nat} {A:Around} (r:Room (k+1) A) (env:Env):Room k (A.deeper env):=
 ⟨r.hd,by have:=r.dp;show A.depth+1+3*k+5 < _;omega,by have:=r.un;show A.units+3+16*k+200 < _;omega,r.gd⟩
theorem BL {A:Around} {C:Addr} {us:List Value} {kw:List (Str×Value)}:(A.under (.builtin "type.__call__" ⟨.ref C :: us,kw⟩)).depth=A.depth+1:=by
 first | rfl | simp [Around.under,Code.weight,Code.isCreation,Code.isGuard,Code.isCaller,Code.frames,Code.isFrame,guardIds]
theorem BP {A:Around} {C:Addr} {us:List Value} {kw:List (Str×Value)}:(A.under (.builtin "type.__call__" ⟨.ref C :: us,kw⟩)).units=A.units+1:=by
 first | rfl | simp [Around.under,Code.cUnits,Code.frames,Code.isFrame]
theorem zG {A:Around} {C:Addr} {us:List Value} {kw:List (Str×Value)}:(A.under (.builtin "type.__call__" ⟨.ref C :: us,kw⟩)).guards=pushGuards [] A.guards:=by
 first | rfl | simp [Around.under,Code.guards,Code.isGuard,guardIds]
theorem Room.make {k:Nat} {A:Around} (r:Room (k+1) A) (C:Addr) (us:List Value) (kw:List (Str×Value)):Room k (A.under (.builtin "type.__call__" ⟨.ref C :: us,kw⟩)):=
 ⟨r.hd,by have:=r.dp;rw [BL];omega,by have:=r.un;rw [BP];omega,(zG.trans (by rw [r.gd];rfl))⟩
theorem Room.depth {k:Nat} {A:Around} (r:Room k A):A.depth < recursionLimit:=by have:=r.dp;omega
theorem Room.units {k:Nat} {A:Around} (r:Room k A):A.units+64 < cLine:=by have:=r.un;omega
theorem Room.units0 {k:Nat} {A:Around} (r:Room k A):A.units < cLine:=by have:=r.un;omega
def Nk:TA:=fun _ H Q=>Q [] H
def Ea (ta:TE) (tr:TA):TA:=fun U H Q=>ta U H fun x H1=>tr U H1 fun xs H2=>Q (x :: xs) H2
section
variable {X:Cx} {e:Expr} {es:List Expr} {te:TE} {t:TA} {pos:Pos}
theorem R4:PA X [] Nk:=fun _ _ _ _ H Q I h=>Calls.spliced_nil ⟨[],H,I,.nil,h⟩
theorem Nm (ha:PE X e te) (hr:PA X es t) (hs:autoParam (starEach (e :: es) X.env=(false,eval e X.env) :: starEach es X.env) L2.auto4._auto_1):PA X (e :: es) (Ea te t):=by
 intro pos pins s U H Q I h
 rw [hs]
 show wpAny _ _ (spliced ((false,eval e X.env) :: backTo pos (starEach es X.env))) _ _ s
 refine Calls.spliced_cons (fU (ha pins s U H _ I h) fun u s1 qq0=>?_)
 obtain ⟨x,H1,I1,r1,q1⟩:=qq0
 exact fU (hr pos pins s1 U H1 _ I1 q1) fun us s2 ⟨xs,H2,I2,r2,q2⟩=>⟨x :: xs,H2,I2,.cons r1 r2,q2⟩
def Np (t:TA):TE:=fun U H Q=>t U H fun xs H1=>xs.length<=sizeLine/\∀ p,H1 p=none->Q (.ref p) (upd H1 p (.tup xs))
def Nq (t:TA):TE:=fun U H Q=>t U H fun xs H1=>xs.length<=sizeLine/\∀ p,H1 p=none->Q (.ref p) (upd H1 p (.lst xs))
theorem R5 {x1} (h:PA X es t):PE X (.Tuple es x1 pos) (Np t):=by
 intro pins s U H Q I hq
 refine wpAny_Tuple_spliced (fU (h pos pins s U H _ I hq) fun us s1 ⟨xs,H1,I1,r,z,q⟩=>⟨by rw [← r.length];exact z,?_⟩)
 have hf:H1 s1.heap.objs.size=none:=I1.hok.fresh (XQ _)
 refine ⟨.ref s1.heap.objs.size,upd H1 s1.heap.objs.size (.tup xs),I1.laid (t':=s1.toks) (fun b u e=>XN _ e) (XQ _) ?_,rfl,q _ hf⟩
 exact ⟨z,us,r,⟨_,X4 _ rfl,rfl,_,rfl⟩⟩
theorem R6 (h:PA X es t):PE X (.List es pos) (Nq t):=by
 intro pins s U H Q I hq
 refine wpAny_List_spliced (fU (h pos pins s U H _ I hq) fun us s1 ⟨xs,H1,I1,r,z,q⟩=>⟨by rw [← r.length];exact z,?_⟩)
 have hf:H1 s1.heap.objs.size=none:=I1.hok.fresh (XQ _)
 refine ⟨.ref s1.heap.objs.size,upd H1 s1.heap.objs.size (.lst xs),I1.laid (t':=s1.toks) (fun b u e=>XN _ e) (XQ _) ?_,rfl,q _ hf⟩
 exact ⟨z,us,0,r,X4 _ rfl⟩
end
abbrev Sp:=List V->Hp->VK->XK->Prop
abbrev Gu:=List Env->Hp->Shared->XK->Value->Shared->Prop
structure Env0 (P:Program) (w:World) (K:W.Frag) (mg:Str->Option Value) (base:Heap) (A:Around) (outer:List Env) (s:Shared) (H:Hp):Prop where
 frames:A.frames=some outer
 mod:Mod K mg base
 bs:∀ b o,base.get? b=some o->s.heap.get? b=some o/\H b=none
 bsz:base.objs.size<=s.heap.objs.size
 funs:s.heap.FunFrames base outer
 frf:∀ b∈frs outer,H b=none
 hok:HOk P w H s.heap
 bare:AllBare s.gens
def CE (outer:List Env) (P:Program) (w:World) (H:Hp) (s:Shared) (Q:VK) (u:Value) (s':Shared):Prop:=
 ∃ v H',s'.os=s.os/\AllBare s'.gens/\Un (frs outer) [] H H' s.heap s'.heap/\HOk P w H' s'.heap/\RelV v u/\Q v H'
def CR (CX:Gu) (outer:List Env) (P:Program) (w:World) (H:Hp) (s:Shared) (Q:VK) (E:XK) (r:Result) (s':Shared):Prop:=
 match r with
 | .ok (.ret u)=>CE outer P w H s Q u s'
 | .ok _=>False
 | .error e=>CX outer H s E e s'
structure FnOk (P:Program) (w:World) (K:W.Frag) (mg:Str->Option Value) (base:Heap) (CX:Gu) (k:Nat) (f:Addr) (fd:FuncData) (ps:List Str) (sp:Sp):Prop where
 len:∀ vs H Q E,sp vs H Q E->vs.length=ps.length
 run:∀ (A:Around) (outer:List Env) (s:Shared) (H:Hp) (args:Args) (us:List Value) (vs:List V) (Q:VK) (E:XK),Room k A->Env0 P w K mg base A outer s H->BindsTo s fd args (ps.zip us)->Vals vs us->sp vs H Q E->
  codeAny (model P w) A (.call (.ref f) args) (CR CX outer P w H s Q E) s
theorem FnOk.mono {P:Program} {w:World} {K:W.Frag} {mg:Str->Option Value} {base:Heap} {CX:Gu} {j k:Nat} {f:Addr} {fd:FuncData} {ps:List Str} {sp:Sp} (F:FnOk P w K mg base CX j f fd ps sp) (h:j<=k):
  FnOk P w K mg base CX k f fd ps sp:=⟨F.len,fun A outer s H args us vs Q E hr=>F.run A outer s H args us vs Q E (hr.mono h)⟩
theorem Env0.make {P:Program} {w:World} {K:W.Frag} {mg:Str->Option Value} {base:Heap} {A:Around} {outer:List Env} {s:Shared} {H:Hp} (e:Env0 P w K mg base A outer s H) (C:Addr) (us:List Value) (kw:List (Str×Value)):
  Env0 P w K mg base (A.under (.builtin "type.__call__" ⟨.ref C :: us,kw⟩)) outer s H:=⟨by first | exact e.frames | (simpa [Around.under,Code.envs,Code.isFrame,pushEnvs] using e.frames),e.mod,e.bs,e.bsz,e.funs,e.frf,e.hok,e.bare⟩
section
variable {X:Cx} {pins:List (Addr×Obj)} {U:St} {H:Hp} {s s':Shared}
theorem Inv.env0 (I:Inv X pins U H s):Env0 X.prog X.w X.K X.mg X.base X.A X.stack s H:=
 ⟨I.ok.frames,I.ok.mod,I.bs,Yz I.ok.bsz I.sz,I.stack,I.stkFree,I.hok,I.bare⟩
theorem Inv.after {Q:VK} {u:Value} (I:Inv X pins U H s) (h:CE X.stack X.prog X.w H s Q u s'):EP X pins U Q u s':=by
 obtain ⟨v,H',os,bare,un,hok,r,q⟩:=h
 obtain ⟨hh,g,d,t,os'⟩:=s'
 obtain rfl:os'=s.os:=os
 exact ⟨v,H',I.call (h':=hh) (g':=g) (d':=d) (t':=t) (ch:=[]) un hok bare (fun b z=>absurd z (by simp)),r,q⟩
end
def xj (sp:Sp) (dvs:List V) (E:XK) (t:TA):TE:=fun U H Q=>t U H fun vs H1=>sp (vs ++ dvs) H1 Q E
def Binds (K:W.Frag) (fd:FuncData) (ps:List Str) (ds:List Value):Prop:=
 ∀ (s:Shared) (us:List Value),K.In s.heap->(us ++ ds).length=ps.length->BindsTo s fd ⟨us,[]⟩ (ps.zip (us ++ ds))
theorem Binds.all {K:W.Frag} {fd:FuncData} {ps:List Str} (h:∀ us:List Value,us.length=ps.length->bindArgs fd ⟨us,[]⟩=pure (ps.zip us)):Binds K fd ps []:=fun s us _ hl=>by
 rw [Zy] at hl ⊢
 exact .of_eq (h us hl)
def BR (CX:Gu) (X:Cx) (E:XK):Prop:=∀ (pins:List (Addr×Obj)) (U:St) (H:Hp) (s:Shared) (e:Value) (s':Shared),Inv X pins U H s->CX X.stack H s E e s'->X.xe e s'
section
variable {X:Cx} {CX:Gu} {k:Nat} {f C:Addr} {fd:FuncData} {ps:List Str} {sp:Sp} {dvs:List V} {ds:List Value} {E:XK} {x m:Str} {p pos apos:Pos} {e o:Expr} {es:List Expr} {ta:TE} {t:TA}
theorem R7 {pins:List (Addr×Obj)} {U:St} {H:Hp} {s:Shared} {Q:VK} {us:List Value} {vs:List V} (F:FnOk X.prog X.w X.K X.mg X.base CX k f fd ps sp) (hr:Room k X.A) (hb:Binds X.K fd ps ds) (hd:Vals dvs ds) (hx:BR CX X E)
  (I:Inv X pins U H s) (r:Vals vs us) (h:sp (vs ++ dvs) H Q E):wpAny (model X.prog X.w) X.A (call (.ref f) us) (EP X pins U Q) X.xe s:=by
 have r2:Vals (vs ++ dvs) (us ++ ds):=r.append hd
 have hl:(us ++ ds).length=ps.length:=by rw [← r2.length];exact F.len _ _ _ _ h
 refine Aag (codeAny_mono (F.run X.A X.stack s H ⟨us,[]⟩ (us ++ ds) (vs ++ dvs) Q E hr I.env0 (hb s us I.kIn hl) r2 h) fun r s' hq=>?_)
 cases r with
 | error e=>exact hx pins U H s e s' I hq
 | ok fl=>
  cases fl with
  | ret u=>exact I.after hq
  | next=>exact False.elim hq
  | brk=>exact False.elim hq
  | cont=>exact False.elim hq
theorem Nr (F:FnOk X.prog X.w X.K X.mg X.base CX k f fd ps sp) (hr:Room k X.A) (hg:Gl X x) (hm:X.mg x=some (.ref f)) (hk:PySem.W.keepIn X.K (.ref f)=true) (hb:Binds X.K fd ps ds) (hd:Vals dvs ds) (hx:BR CX X E)
  (ha:PA X (e :: es) t) (hdb:autoParam ((x == ("__debug__":Str))=false) L2.auto2._auto_1) (he:autoParam (starEach (e :: es) X.env=(false,eval e X.env) :: starEach es X.env) L2.auto4._auto_1) (hpl:autoParam ((backTo pos (starEach es X.env)).any (·.1)=false) L2.auto4._auto_1):
  PE X (.Call (.Name x p) (e :: es) [] pos) (xj sp dvs E t):=by
 intro pins s U H Q I h
 refine YX (nG I hg hm ?_ hdb)
 refine ZP (h₀:=X.base) I.ok.mod.kin hk (fU (ha pos pins s U H _ I h) fun us s1 ⟨vs,H1,I1,r,q⟩=>⟨I1.kIn,?_⟩) he hpl
 exact R7 F hr hb hd hx I1 r q
end
structure aG (N P:List Str) (sc:Scope):Prop where
 kind:sc.kind= .function
 co:sc.isCoroutine=false
 gen:sc.isGenerator=false
 nd:N.Nodup
 pre:N.take P.length=P
 par:∀ x∈P,sc.names.lookup x=some .local\/sc.names.lookup x=some .cell
 nofree:∀ y∈sc.names,y.2≠.free
theorem xm {kindOf:Str->Option NameKind} {x:Str}:∀ {binds:List (Str×Value)} {m:Str->Option Value},(∀ v,(x,v) ∉ binds)->bindL kindOf binds m x=m x
 | [],_,_=>rfl
 | (n,v) :: r,m,h=>by
  unfold bindL
  rw [xm fun w hw=>h w (Yi _ hw)]
  split
  ·have:x≠n:=by rintro rfl;exact h v Yw
   simp [this]
  ·rfl
theorem xn {kindOf:Str->Option NameKind} {x:Str}:∀ {binds:List (Str×Value)} {m:Str->Option Value},(∀ v,(x,v) ∉ binds)->bindC kindOf binds m x=m x
 | [],_,_=>rfl
 | (n,v) :: r,m,h=>by
  unfold bindC
  rw [xn fun w hw=>h w (Yi _ hw)]
  split
  ·rfl
  ·have:x≠n:=by rintro rfl;exact h v Yw
   simp [this]
theorem xq {kindOf:Str->Option NameKind} {x:Str} {v:Value}:∀ {P:List Str} {vs:List Value} {i:Nat} {m:Str->Option Value},P.Nodup->P[i]?=some x->vs[i]?=some v->kindOf x=some .local->
  bindL kindOf (P.zip vs) m x=some v
 | [],_,_,_,_,h,_,_=>by simp at h
 | _ :: _,[],_,_,_,_,h,_=>by simp at h
 | p :: P,w :: vs,0,m,nd,h1,h2,hk=>by
  simp at h1 h2;subst h1;subst h2
  show bindL kindOf ((p,w) :: P.zip vs) m p=_
  unfold bindL
  rw [xm fun v hv=>(List.nodup_cons.mp nd).1 (List.of_mem_zip hv).1,if_pos hk]
  simp
 | p :: P,w :: vs,i+1,m,nd,h1,h2,hk=>by
  show bindL kindOf ((p,w) :: P.zip vs) m x=_
  unfold bindL
  exact xq (i:=i) (List.nodup_cons.mp nd).2 (by simpa using h1) (by simpa using h2) hk
theorem xr {kindOf:Str->Option NameKind} {x:Str} {v:Value}:∀ {P:List Str} {vs:List Value} {i:Nat} {m:Str->Option Value},P.Nodup->P[i]?=some x->vs[i]?=some v->kindOf x≠some .local->
  bindC kindOf (P.zip vs) m x=some v
 | [],_,_,_,_,h,_,_=>by simp at h
 | _ :: _,[],_,_,_,_,h,_=>by simp at h
 | p :: P,w :: vs,0,m,nd,h1,h2,hk=>by
  simp at h1 h2;subst h1;subst h2
  show bindC kindOf ((p,w) :: P.zip vs) m p=_
  unfold bindC
  rw [xn fun v hv=>(List.nodup_cons.mp nd).1 (List.of_mem_zip hv).1,if_neg hk]
  simp
 | p :: P,w :: vs,i+1,m,nd,h1,h2,hk=>by
  show bindC kindOf ((p,w) :: P.zip vs) m x=_
  unfold bindC
  exact xr (i:=i) (List.nodup_cons.mp nd).2 (by simpa using h1) (by simpa using h2) hk
def start (N:List Str) (vs:List V):St:=vs.map some ++ List.replicate (N.length - vs.length) none
def qF (CX:Gu) (P:Program) (w:World) (K:W.Frag) (mg:Str->Option Value) (base:Heap) (N:List Str) (qual:Str) (scope:Scope) (f:Addr) (cd:Value) (A:Around) (outer:List Env) (s:Shared) (H:Hp) (E:XK):Cx where
 prog:=P
 w:=w
 K:=K
 mg:=mg
 base:=base
 A:=A.deeper (envOfC qual scope s.heap.objs.size f cd)
 N:=N
 s₀:=s
 H₀:=H
 env:=envOfC qual scope s.heap.objs.size f cd
 outer:=outer
 stack:=envOfC qual scope s.heap.objs.size f cd :: outer
 ex:=[]
 calm:=true
 fn:=fun _=>true
 pn:=[]
 xe:=fun e s'=>wpAny (model P w) (A.deeper (envOfC qual scope s.heap.objs.size f cd)) (leaving (envOfC qual scope s.heap.objs.size f cd) e) (fun _ s''=>CX outer H s E e s'') (fun e' s''=>CX outer H s E e' s'') s'
theorem zH {sc:Scope} {n:Nat} {x:Str} (h:sc.names.lookup x=some .cell):∃ c,(cellsFrom n sc.names []).lookup x=some c:=by
 have q:=PySem.W.cellsFrom_some sc.names n [] (.inl h)
 exact Option.isSome_iff_exists.mp q
theorem Gv {CX:Gu} {P:Program} {w:World} {K:W.Frag} {mg:Str->Option Value} {base:Heap} {N ps:List Str} {qual:Str} {scope:Scope} {f:Addr} {cd:Value} {A:Around} {outer:List Env} {s s1:Shared} {H:Hp} {E:XK} {us:List Value} {vs:List V}
  (S:aG N ps scope) (hd:A.handled=none) (e0:Env0 P w K mg base A outer s H) (hl:vs.length=ps.length) (r:Vals vs us)
  (x:InCallC s s.heap.objs.size (bindL (envOfC qual scope s.heap.objs.size f cd).kindOf (ps.zip us) fun _=>none) (cellsFrom (s.heap.objs.size+1) scope.names []) (bindC (envOfC qual scope s.heap.objs.size f cd).kindOf (ps.zip us) fun _=>none) s1):
  Inv (qF CX P w K mg base N qual scope f cd A outer s H E) [] (start N vs) H s1:=by
 have hpl:ps.length<=N.length:=by have:=congrArg List.length S.pre;rw [Aal] at this;omega
 obtain ⟨h1,tk,rfl,hk⟩:=x.done
 have noA:∀ b:Addr,b ∉ (qF CX P w K mg base N qual scope f cd A outer s H E).ex:=fun b z=>absurd (show b∈([]:List Addr) from z) (by simp)
 refine ⟨⟨e0.mod,S.kind,rfl,rfl,XQ _,fun y z c h1 h2=>?_,fun y hy=>?_,fun y c _ h=>?_,fun _=>hd,Around.frames_deeper e0.frames,.inr ⟨rfl,rfl⟩,fun b z=>absurd z (noA b),e0.bs,e0.bsz,fun b _ _=>noA b,fun b z=>absurd z (noA b),e0.funs,e0.frf⟩,
  rfl,e0.bare,Un.kept hk,⟨_,x.toInCall.ns,fun i y v h1 h2 h3=>?_⟩,fun y c h=>⟨_,x.cell y c h⟩,e0.hok.fresh (XQ _),fun y c h=>?_,fun p hp=>absurd (show p∈([]:List (Addr×Obj)) from hp) (by simp),e0.hok.kept hk,?_⟩
 ·exact name_of_addr x.apart (YS h1) (YS h2)
 ·have hy:scope.names.lookup y=some .cell\/scope.names.lookup y=some .free:=hy
  rcases hy with hy | hy
  ·exact zH hy
  ·exact absurd rfl (S.nofree _ (YS hy))
 ·exact Nat.le_of_lt (x.above y c (YS h))
 ·have hi:i < vs.length:=by
   unfold start at h2
   by_cases hi:i < vs.length
   ·exact hi
   ·rw [Yn (by simpa using hi)] at h2
    rw [List.getElem?_replicate] at h2
    split at h2 <;> cases h2
  have ha:vs[i]?=some v:=by
   unfold start at h2
   rw [Ye (by simpa using hi),XX] at h2
   cases e:vs[i]? with
   | none=>rw [e] at h2;cases h2
   | some a=>rw [e] at h2;cases h2;rfl
  obtain ⟨u,hu,rv⟩:=r.get ha
  have hp:ps[i]?=some y:=by
   rw [← S.pre,List.getElem?_take_of_lt (by omega)];exact h1
  have ndP:ps.Nodup:=by rw [← S.pre];exact S.nd.sublist (List.take_sublist _ _)
  refine ⟨u,rv,?_⟩
  rcases S.par y (YG hp) with k | k
  ·exact .inl ⟨k,xq ndP hp hu k⟩
  ·obtain ⟨c,e⟩:=zH (n:=s.heap.objs.size+1) k
   refine .inr ⟨.inl k,c,e,?_⟩
   have q:=x.cell y c e
   rw [xr ndP hp hu (by show scope.names.lookup y≠_;rw [k];decide)] at q
   exact q
 ·exact e0.hok.fresh (Nat.le_of_lt (x.above y c (YS h)))
 ·unfold start
  show _=N.length
  rw [Za,X8,List.length_replicate]
  omega
theorem Jd {CX:Gu} {P:Program} {w:World} {K:W.Frag} {mg:Str->Option Value} {base:Heap} {k:Nat} {f:Addr} {name qual:Str} {params:Arguments} {body:List Stmt} {scope:Scope} {dV kV doc pm cdv ct oc:Value} {an od:Option Addr}
  {osl:Array (Option Value)} {N ps:List Str} {sp:Sp} (lk:K.lookup f=some ⟨oc,od,.func (PySem.W.fnOf name qual params body scope dV kV doc pm an cdv ct),osl⟩) (hcd:PySem.W.codeIn K cdv qual=true) (S:aG N ps scope)
  (len:∀ vs H Q E,sp vs H Q E->vs.length=ps.length)
  (hbody:∀ (A:Around) (outer:List Env) (s:Shared) (H:Hp) (vs:List V) (Q:VK) (E:XK),Room k (A.deeper (envOfC qual scope s.heap.objs.size f cdv))->sp vs H Q E->
   ∃ t,PSs (qF CX P w K mg base N qual scope f cdv A outer s H E) body t/\t {nx:=fun _ H'=>Q .non H',rt:=Q} (start N vs) H):
  FnOk P w K mg base CX (k+1) f (PySem.W.fnOf name qual params body scope dV kV doc pm an cdv ct) ps sp:=by
 refine ⟨len,fun A outer s H args us vs Q E hr e0 hb r hsp=>?_⟩
 have hl:=len _ _ _ _ hsp
 have KX:K.In s.heap:=e0.mod.kin.keeps fun b o e=>(e0.bs b o e).1
 have lim:s.heap.NoLimit:=e0.mod.nolimit.keeps fun b o e=>(e0.bs b o e).1
 have hkind:∀ y∈ps.zip us,scope.names.lookup y.1=some .local\/(scope.names.lookup y.1=some .cell/\((cellsFrom (s.heap.objs.size+1) scope.names []).lookup y.1).isSome=true):=fun ⟨n,v⟩ hy=>by
  rcases S.par n (List.of_mem_zip hy).1 with q | q
  ·exact .inl q
  ·exact .inr ⟨q,PySem.W.cellsFrom_some _ _ _ (.inl q)⟩
 refine codeAny_call_function hr.depth (KX _ _ lk) rfl S.co S.gen rfl (PySem.W.codeRec_of KX hcd) (hb _ _ _ _ ?_)
 refine wpAny_newFunctionEnv_cells S.kind hkind fun env he s1 x=>?_
 subst he
 refine ⟨lim.keeps x.toInCall.keep,codeAny_func ?_⟩
 obtain ⟨t,ht,hq⟩:=hbody A outer s H vs Q E (hr.deeper _) hsp
 have I:Inv (qF CX P w K mg base N qual scope f cdv A outer s H E) [] (start N vs) H s1:=Gv S hr.hd e0 hl r x
 refine YK (ht [] s1 (start N vs) H _ I hq) (fun fl s' hs=>?_) fun e s' hs=>hs
 have fin:∀ {U':St} {H':Hp} {v:V} {u:Value},Inv (qF CX P w K mg base N qual scope f cdv A outer s H E) [] U' H' s'->RelV v u->Q v H'->CE outer P w H s Q u s':=
  fun {U' H' v u} J rv q=>⟨v,H',J.os,J.bare,J.base,J.hok,rv,q⟩
 cases fl with
 | ret u=>
  obtain ⟨v,U',H',J,rv,q⟩:=hs
  exact fin J rv q
 | next=>
  obtain ⟨U',H',J,q⟩:=hs
  exact fin (v:=V.non) (u:=Value.none) J rfl q
 | brk=>
  obtain ⟨_,_,_,q⟩:=hs
  exact False.elim q
 | cont=>
  obtain ⟨_,_,_,q⟩:=hs
  exact False.elim q
section
variable {X:Cx} {x:Str} {p pos:Pos} {e:Expr} {es:List Expr} {t:TA} {id T:String} {r:List V->Hp->VK->Prop}
def R8 (r:List V->Hp->VK->Prop) (t:TA):TE:=fun U H Q=>t U H fun vs H1=>r vs H1 Q
theorem Je (hc:CallR X (.builtin id) r) (hg:Gl X x) (hm:X.mg x=none) (hv:bootBuiltins x=some (.builtin id)) (ha:PA X (e :: es) t) (hn:autoParam (x≠"__name__") L2.auto2._auto_1) (hdb:autoParam ((x == ("__debug__":Str))=false) L2.auto2._auto_1)
  (he:autoParam (starEach (e :: es) X.env=(false,eval e X.env) :: starEach es X.env) L2.auto4._auto_1) (hpl:autoParam ((backTo pos (starEach es X.env)).any (·.1)=false) L2.auto4._auto_1):PE X (.Call (.Name x p) (e :: es) [] pos) (R8 r t):=by
 intro pins s U H Q I h
 refine YX (jj I hg hm hv ?_ hn hdb)
 exact PyProof.Rows.callWith_builtin1 (fU (ha pos pins s U H _ I h) fun us s1 ⟨vs,H1,I1,r1,q1⟩=>hc pins s1 U H1 vs us Q I1 r1 q1) he hpl
theorem Gw (hc:CallR X (.type T) r) (hg:Gl X x) (hm:X.mg x=none) (hv:bootBuiltins x=some (.type T)) (ha:PA X (e :: es) t) (hn:autoParam (x≠"__name__") L2.auto2._auto_1) (hdb:autoParam ((x == ("__debug__":Str))=false) L2.auto2._auto_1)
  (he:autoParam (starEach (e :: es) X.env=(false,eval e X.env) :: starEach es X.env) L2.auto4._auto_1) (hpl:autoParam ((backTo pos (starEach es X.env)).any (·.1)=false) L2.auto4._auto_1):PE X (.Call (.Name x p) (e :: es) [] pos) (R8 r t):=by
 intro pins s U H Q I h
 refine YX (jj I hg hm hv ?_ hn hdb)
 exact Yu (fU (ha pos pins s U H _ I h) fun us s1 ⟨vs,H1,I1,r1,q1⟩=>hc pins s1 U H1 vs us Q I1 r1 q1) he hpl
end
end L2
namespace HT
open PySem PyProof.Rows
section
open PySem.SeqAt
open PySem.AutoSeq1 (wpAny_loadPart')
open PySem.MeetsSeq PySem.MeetsSeq2 PySem.MeetsSeq3
end
section
variable {prog:Program} {w:World} {A:Around} {E:Value->Shared->Prop} {s:Shared}
def sIx (n d:Nat):Option Int->Nat
 | none=>d
 | some v=>if v < 0 then (v+(n:Int)).toNat else min v.toNat n
theorem sIx_none (n d:Nat):sIx n d none=d:=rfl
theorem sIx_nat (n d k:Nat):sIx n d (some (k:Int))=min k n:=by
 show (if (k:Int) < 0 then ((k:Int)+(n:Int)).toNat else min (k:Int).toNat n)=min k n
 rw [if_neg (by omega),Int.toNat_natCast]
theorem sIx_le (n d:Nat) (hd:d<=n) (o:Option Int):sIx n d o<=n:=by
 cases o with
 | none=>exact hd
 | some v=>
  show (if v < 0 then (v+(n:Int)).toNat else min v.toNat n)<=n
  by_cases hv:v < 0
  ·rw [if_pos hv];omega
  ·rw [if_neg hv];exact Nat.min_le_right _ _
theorem clip_eq (v:Int) (n d:Nat):(if v < 0 then max (v+(n:Int)) 0 else min v (n:Int))=((sIx n d (some v):Nat):Int):=by
 show (if v < 0 then max (v+(n:Int)) 0 else min v (n:Int))=(((if v < 0 then (v+(n:Int)).toNat else min v.toNat n):Nat):Int)
 by_cases hv:v < 0
 ·simp only [if_pos hv];omega
 ·simp only [if_neg hv];omega
theorem BV (lo hi:Option Int) (n:Nat):Builtin.Slice.sliceAdjust lo hi 1 (n:Int)=(((sIx n 0 lo:Nat):Int),((sIx n n hi:Nat):Int)):=by
 have h1:¬ ((1:Int) < 0):=by omega
 unfold Builtin.Slice.sliceAdjust
 simp only [h1,if_false]
 refine Prod.ext ?_ ?_
 ·cases lo with
  | none=>rfl
  | some v=>exact clip_eq v n 0
 ·cases hi with
  | none=>rfl
  | some v=>exact clip_eq v n n
theorem BW (i j:Nat):Builtin.Slice.slicePlaces (i:Int) (j:Int) 1=j - i:=by
 unfold Builtin.Slice.slicePlaces
 have h1:(1:Int) > 0:=by omega
 simp only [h1,if_true,Int.ediv_one]
 split <;> omega
theorem vo {v:Value} {o:Option Int} {Q:Option Int->Shared->Prop} (p:IsPart v o) (h:Q o s):wpAny (model prog w) A (Builtin.Slice.slicePartIndex v) Q E s:=by
 cases p with
 | none=>exact slicePart_none h
 | int i t=>exact slicePart_int h
theorem mV {sl:Addr} {vl vu:Value} {lo hi:Option Int} {n:Nat} {Q:Int×Int×Nat->Shared->Prop} (hs:s.heap.IsSliceOf sl vl vu .none) (pl:IsPart vl lo) (pu:IsPart vu hi)
  (h:Q (((sIx n 0 lo:Nat):Int),1,sIx n n hi - sIx n 0 lo) s):wpAny (model prog w) A (Builtin.Slice.sliceApplied (.ref sl) (pure (n:Int))) Q E s:=by
 obtain ⟨os,hos,hcs,hds⟩:=id hs
 unfold Builtin.Slice.sliceApplied Builtin.Slice.sliceFields
 refine XJ (XJ (YL hos hds (x:=vl) rfl (XJ (YL hos hds (x:=vu) rfl (XJ (YL hos hds (x:=.none) rfl (XS ?_)))))))
 refine XJ (slicePart_none ?_)
 show wpAny _ _ (if ((1:Int) == 0)=true then _ else _) _ _ s
 rw [if_neg (by decide)]
 refine XJ (vo pl (XJ (vo pu (XJ (XS ?_)))))
 show wpAny _ _ (match Builtin.Slice.sliceAdjust lo hi 1 (n:Int) with | (lo,hi)=>pure (lo,(1:Int),Builtin.Slice.slicePlaces lo hi 1)) _ _ s
 rw [BV lo hi n]
 show wpAny _ _ (pure (((sIx n 0 lo:Nat):Int),(1:Int),Builtin.Slice.slicePlaces ((sIx n 0 lo:Nat):Int) ((sIx n n hi:Nat):Int) 1)) _ _ s
 rw [BW]
 exact XS h
theorem Jf (xs:Array Value) (i k:Nat):((List.range k).filterMap fun (m:Nat)=>xs[((i:Int)+(m:Int)*1).toNat]?).toArray=((xs.toList.drop i).take k).toArray:=by
 have e:(fun (m:Nat)=>xs[((i:Int)+(m:Int)*1).toNat]?)=fun m=>xs[i+m]?:=by
  funext m
  have:((i:Int)+(m:Int)*1).toNat=i+m:=by omega
  rw [this]
 rw [e]
 have:=pick_run xs i k
 rw [List.filterMap_map] at this
 have e2:((fun x=>xs[x]?) ∘ fun x=>i+x)=fun m=>xs[i+m]?:=rfl
 rw [e2] at this
 rw [this]
theorem getItem_tuple_cut {t sl:Addr} {items:Array Value} {vl vu:Value} {lo hi:Option Int} {Q:Value->Shared->Prop} (ht:IsTup s.heap t items) (hs:s.heap.IsSliceOf sl vl vu .none) (pl:IsPart vl lo) (pu:IsPart vu hi)
  (hw:¬ (sIx items.size 0 lo=0/\sIx items.size items.size hi=items.size))
  (h:Q (.ref s.heap.objs.size) {s with heap:=s.heap.push {cls:=.type "tuple",data:=.seq ((items.toList.drop (sIx items.size 0 lo)).take (sIx items.size items.size hi - sIx items.size 0 lo)).toArray}})
  (hsz:items.size<=sizeLine):wpAny (model prog w) A (getItem (.ref t) (.ref sl)) Q E s:=by
 have htake:sizeOk (.seq ((items.toList.drop (sIx items.size 0 lo)).take (sIx items.size items.size hi - sIx items.size 0 lo)).toArray):=by
  show ((items.toList.drop (sIx items.size 0 lo)).take (sIx items.size items.size hi - sIx items.size 0 lo)).toArray.size<=sizeLine
  rw [Yc,Aal,List.length_drop,Yv]
  omega
 have hj:sIx items.size items.size hi<=items.size:=sIx_le _ _ (XQ _) hi
 obtain ⟨os,hos,hcs,hds⟩:=id hs
 have hTs:s.TypeIs (.ref sl) "slice":=⟨os,hos,hcs⟩
 unfold getItem
 try with_reducible refine Y7 ?_
 first | refine XJ (XS ?_) | skip
 refine XJ (wpAny_sequenceKey ht.typeIs (by decide) ?_)
 refine XJ (Y0 (name:=Str.ofString "__getitem__") ht.typeIs ZC
  (Zh ZC ht.typeIs entry_tuple_getitem ?_ (args_tuple_getitem _ _)))
 show wpAny _ _ (Builtin.Tuple.tupleItemsOf (.ref t) >>=_) _ _ s
 refine XJ (tupleItemsOf_ ht ?_)
 refine XJ (wpAny_typeOf hTs ?_)
 rw [if_pos (by decide)]
 refine XJ (mV hs pl pu ?_)
 have hno:¬ ((((sIx items.size 0 lo:Nat):Int) == 0 && (1:Int) == 1 && (sIx items.size items.size hi - sIx items.size 0 lo) == items.size)=true):=by
  intro q
  rw [Yg,Yg] at q
  have q1:((sIx items.size 0 lo:Nat):Int)=0:=eq_of_beq q.1.1
  have q2:sIx items.size items.size hi - sIx items.size 0 lo=items.size:=eq_of_beq q.2
  exact hw ⟨by omega,by omega⟩
 show wpAny _ _ (if (((sIx items.size 0 lo:Nat):Int) == 0 && (1:Int) == 1 && (sIx items.size items.size hi - sIx items.size 0 lo) == items.size)=true then _ else _) _ _ s
 rw [if_neg hno,Jf]
 first
  | exact XJ (m:=Builtin.Tuple.tupleExact _) (Y6 (XS ⟨_,rfl,XS h⟩) htake)
  | exact XJ (m:=Builtin.Tuple.tupleExact _) (Y6 (XJ (XS (XS ⟨_,rfl,XS h⟩))) htake)
  | exact XJ (XJ (m:=Builtin.Tuple.tupleExact _) (Y6 (XS (XS ⟨_,rfl,XS h⟩)) htake))
  | exact XJ (XJ (m:=Builtin.Tuple.tupleExact _) (Y6 (XS ⟨_,rfl,XS h⟩) htake))
end
end HT
namespace L2
open PySem PySem.Spec PyProof.Rows
abbrev TO:=St->Hp->(Option Int->Hp->Prop)->Prop
def PO (X:Cx) (e:Option Expr) (t:TO):Prop:=
 ∀ (pins:List (Addr×Obj)) (s:Shared) (U:St) (H:Hp) (Q:Option Int->Hp->Prop),Inv X pins U H s->t U H Q->
  wpAny (model X.prog X.w) X.A (evalPart e X.env) (fun u s'=>∃ o H',Inv X pins U H' s'/\IsPart u o/\Q o H') X.xe s
def yj:TO:=fun _ H Q=>Q none H
def Jg (t:TE):TO:=fun U H Q=>t U H fun x H1=>∃ i,x= .int i/\Q (some i) H1
theorem intsAre_of {ns:List Int}:∀ {us:List Value},Vals (ns.map V.int) us->IntsAre us ns:=by
 induction ns with
 | nil=>intro us r;rw [List.map_nil] at r;cases r;exact .nil
 | cons n ns ih=>
  intro us r
  rw [Ys] at r
  cases r with
  | cons r1 r2=>
   obtain ⟨t,e⟩:=r1
   subst e
   exact .cons n t (ih r2)
section
variable {X:Cx} {e:Expr} {te:TE} {lo hi:Option Expr} {tl th:TO} {pos p2:Pos}
theorem Nt:PO X none yj:=by
 intro pins s U H Q I h
 rw [evalPart_none]
 exact XS ⟨none,H,I,.none,h⟩
theorem Nu (h:PE X e te):PO X (some e) (Jg te):=by
 intro pins s U H Q I hw
 rw [evalPart_some]
 refine fU (h pins s U H _ I hw) fun u s1 qq0=>?_
 obtain ⟨x,H1,I1,r1,q1⟩:=qq0
 obtain ⟨i,rfl,q⟩:=q1
 obtain ⟨t,rfl⟩:=r1
 exact ⟨some i,H1,I1,.int i t,q⟩
def SlR (X:Cx) (r:V->Option Int->Option Int->Hp->VK->Prop):Prop:=
 ∀ (pins:List (Addr×Obj)) (s:Shared) (U:St) (H:Hp) (x:V) (v vl vu:Value) (lo hi:Option Int) (sl:Addr) (Q:VK),Inv X pins U H s->RelV x v->s.heap.IsSliceOf sl vl vu .none->IsPart vl lo->IsPart vu hi->r x lo hi H Q->
  ∃ T id,typeLookup (.type T) "__getitem__"=pure (some (.builtin id))/\s.TypeIs v T/\wpAny (model X.prog X.w) X.A (getItem v (.ref sl)) (EP X pins U Q) X.xe s
theorem SlR.or {r r':V->Option Int->Option Int->Hp->VK->Prop} (h:SlR X r) (h':SlR X r'):SlR X (fun x lo hi H Q=>r x lo hi H Q\/r' x lo hi H Q):=by
 intro pins s U H x v vl vu lo hi sl Q I rx hs pl pu q
 rcases q with q | q
 ·exact h pins s U H x v vl vu lo hi sl Q I rx hs pl pu q
 ·exact h' pins s U H x v vl vu lo hi sl Q I rx hs pl pu q
def tSl (r:V->Option Int->Option Int->Hp->VK->Prop) (te:TE) (tl th:TO):TE:=fun U H Q=>te U H fun x H1=>tl U H1 fun l H2=>th U H2 fun u H3=>r x l u H3 Q
theorem Jh {r:V->Option Int->Option Int->Hp->VK->Prop} (hr:SlR X r) (he:PE X e te) (hl:PO X lo tl) (hu:PO X hi th):PE X (.Subscript e (.Slice lo hi none p2) pos) (tSl r te tl th):=by
 intro pins s U H Q I h
 refine Subscript_ (fU (he pins s U H _ I h) fun v s1 qq0=>?_)
 obtain ⟨x,H1,I1,r1,q1⟩:=qq0
 refine wpAny_Slice (fU (hl pins s1 U H1 _ I1 q1) fun vl s2 ⟨l,H2,I2,pl,q2⟩=>fU (hu pins s2 U H2 _ I2 q2) fun vu s3 qq0=>?_)
 obtain ⟨u,H3,I3,pu,q3⟩:=qq0
 rw [evalPart_none]
 refine XS ?_
 have I4:Inv X pins U H3 {s3 with heap:=s3.heap.push {cls:=.type "slice",data:=.fields #[vl,vu,.none]}}:=I3.kept (t':=s3.toks) fun b ob q=>XN _ q
 obtain ⟨T,id,hT,ht,hg⟩:=hr pins {s3 with heap:=s3.heap.push {cls:=.type "slice",data:=.fields #[vl,vu,.none]}} U H3 x v vl vu l u s3.heap.objs.size Q I4 r1 (Heap.IsSliceOf.new ..) pl pu q3
 show wpAny (model X.prog X.w) X.A (subscriptTail e (.Slice lo hi none p2) v (.ref s3.heap.objs.size)) (EP X pins U Q) X.xe {s3 with heap:=s3.heap.push {cls:=.type "slice",data:=.fields #[vl,vu,.none]}}
 exact tail_any (ops:=[.ref s3.heap.objs.size,v]) ht hT hg (by with_unfolding_all rfl)
def sV (xs:List V) (lo hi:Option Int):List V:=(xs.drop (HT.sIx xs.length 0 lo)).take (HT.sIx xs.length xs.length hi - HT.sIx xs.length 0 lo)
theorem uv (xs:List V) (lo hi:Option Int):(sV xs lo hi).length<=xs.length:=by
 unfold sV
 rw [Aal,List.length_drop]
 omega
def VL (K:W.Frag):V->Option Int->Option Int->Hp->VK->Prop:=fun x lo hi H Q=>∃ a xs,x= .ref a/\SqT K H a xs/\
 ¬ (HT.sIx xs.length 0 lo=0/\HT.sIx xs.length xs.length hi=xs.length)/\∀ p,H p=none->Q (.ref p) (upd H p (.tup (sV xs lo hi)))
theorem R9:SlR X (VL X.K):=by
 intro pins s U H x v vl vu lo hi sl Q I rx hs pl pu h
 obtain ⟨a,xs,rfl,hx,hw,q⟩:=h
 cases rx
 obtain ⟨its,r,ht,hz⟩:=I.tuple hx
 have hlen:its.toArray.size=xs.length:=by rw [Yc];exact r.length.symm
 refine ⟨"tuple",_,PyProof.Rows.slot_tuple_getitem.lookup,ht.typeIs,?_⟩
 refine HT.getItem_tuple_cut ht hs pl pu (by rw [hlen];exact hw) ?_ (by rw [hlen];exact hz)
 rw [hlen]
 refine ⟨.ref s.heap.objs.size,_,I.laid (t':=s.toks) (o:=.tup (sV xs lo hi)) (fun b ob q=>XN _ q) (XQ _) ?_,rfl,q _ (I.hok.fresh (XQ _))⟩
 exact ⟨Yz (uv xs lo hi) hz,_,(r.drop (HT.sIx xs.length 0 lo)).take (HT.sIx xs.length xs.length hi - HT.sIx xs.length 0 lo),IsTup.new _ _⟩
end
def Bs (n:Nat) (i:Int):Option Nat:=if 0<=i then (if i < n then some i.toNat else none) else if -(n:Int)<=i then some (i+n).toNat else none
def uU {α:Type} (xs:List α) (i:Int):Option α:=(Bs xs.length i).bind fun j=>xs[j]?
theorem Eb {n:Nat} {i:Int} {j:Nat} (h:Bs n i=some j):seqIndex? i n=some j/\j < n/\-(n:Int)<=i/\i < n:=by
 unfold Bs at h
 by_cases h0:0<=i
 ·rw [if_pos h0] at h
  by_cases h1:i < n
  ·rw [if_pos h1] at h
   have e:i.toNat=j:=Ym h
   exact ⟨by rw [seqIndex_of h0 h1,e],by omega,by omega,h1⟩
  ·rw [if_neg h1] at h;cases h
 ·rw [if_neg h0] at h
  by_cases h1: -(n:Int)<=i
  ·rw [if_pos h1] at h
   have e:(i+n).toNat=j:=Ym h
   exact ⟨by rw [seqIndex_neg (by omega) h1,e],by omega,h1,by omega⟩
  ·rw [if_neg h1] at h;cases h
theorem yl {α:Type} {xs:List α} {i:Int} {v:α} (h:uU xs i=some v):∃ j,seqIndex? i xs.length=some j/\xs[j]?=some v/\j < xs.length/\-(xs.length:Int)<=i/\i < xs.length:=by
 unfold uU at h
 cases e:Bs xs.length i with
 | none=>rw [e] at h;cases h
 | some j=>
  rw [e] at h
  obtain ⟨h1,h2,h3,h4⟩:=Eb e
  exact ⟨j,h1,h,h2,h3,h4⟩
theorem bh {α:Type} {xs:List α} {j:Nat} {v:α} (h:xs[j]?=some v):uU xs (j:Int)=some v:=by
 have hj:j < xs.length:=(XM.mp h).1
 have e:Bs xs.length (j:Int)=some j:=by
  unfold Bs
  rw [if_pos (by omega),if_pos (by omega)];simp
 unfold uU;rw [e];exact h
def Ec (b:Expr):Prop:=∀ o i,subscripted b false o i=operate [o,i] (getItem o i)
def IxR (X:Cx) (r:R2):Prop:=
 ∀ (value slice:Expr) (pins:List (Addr×Obj)) (s:Shared) (U:St) (H:Hp) (x y:V) (v u:Value) (Q:VK),Inv X pins U H s->RelV x v->RelV y u->r x y H Q->
  subscripted slice false v u=operate [v,u] (getItem v u)->wpAny (model X.prog X.w) X.A (subscriptTail value slice v u) (EP X pins U Q) X.xe s
def Ib (X:Cx) (id:String) (r:V->List V->Hp->VK->Prop):Prop:=
 ∀ (pins:List (Addr×Obj)) (s:Shared) (U:St) (H:Hp) (x:V) (xs:List V) (v:Value) (us:List Value) (Q:VK),Inv X pins U H s->RelV x v->Vals xs us->r x xs H Q->
  wpAny (model X.prog X.w) X.A (call (.builtin id) (v :: us)) (EP X pins U Q) X.xe s
section
variable {X:Cx} {a b:Expr} {ta tb:TE} {pos:Pos}
theorem IxR.or {r r':R2} (h:IxR X r) (h':IxR X r'):IxR X (fun x y H Q=>r x y H Q\/r' x y H Q):=by
 intro value slice pins s U H x y v u Q I rx ry q hs
 rcases q with q | q
 ·exact h value slice pins s U H x y v u Q I rx ry q hs
 ·exact h' value slice pins s U H x y v u Q I rx ry q hs
theorem VM {r:R2} (hr:IxR X r) (ha:PE X a ta) (hb:PE X b tb) (hs:Ec b):PE X (.Subscript a b pos) (Mp r ta tb):=by
 intro pins s U H Q I h
 exact Subscript_ (RP ha hb I h fun v u s2 x y H2 I2 rx ry q=>hr a b pins s2 U H2 x y v u Q I2 rx ry q (hs _ _))
def VN (K:W.Frag):R2:=fun x y H Q=>∃ p xs i v,x= .ref p/\y= .int i/\SqL K H p xs/\uU xs i=some v/\Q v H
def VP (K:W.Frag):R2:=fun x y H Q=>∃ p xs i v,x= .ref p/\y= .int i/\SqT K H p xs/\uU xs i=some v/\Q v H
def VR:R2:=fun x y H Q=>∃ z i c,x= .str z/\y= .int i/\z.length<=sizeLine/\uU z.cps.toList i=some c/\Q (.str ⟨#[c]⟩) H
theorem Nv:IxR X (VN X.K):=by
 intro value slice pins s U H x y v u Q I rx ry h hs
 obtain ⟨p,xs,i,z,rfl,rfl,hq,he,q⟩:=h
 cases rx
 obtain ⟨t,rfl⟩:=ry
 obtain ⟨its,r,pl,hz⟩:=I.list hq
 obtain ⟨j,h1,h2,h3,h4,h5⟩:=yl he
 obtain ⟨w,ew,rw'⟩:=r.get h2
 have hl:=r.length
 have hn:=vh
 have fin:EP X pins U Q w s:=⟨z,H,I,rw',q⟩
 by_cases h0:0<=i
 ·have hj:i.toNat=j:=by
   rw [seqIndex_of h0 h5] at h1
   exact Ym h1
  exact item_listR pl.isList h0 (by omega) (by rw [hj];simpa using ew) fin hs
 ·have hj:(i+(its.toArray.size:Int)).toNat=j:=by
   rw [seqIndex_neg (by omega) h4] at h1
   rw [Yc,← hl]
   exact Ym h1
  exact subscriptTail_builtinR (x:=w) pl.isList.typeIs slot_list_getitem.lookup
   (wpAny_getItem_list_neg (Q:=fun r s'=>r=w/\EP X pins U Q r s') pl.isList (by omega) (by rw [Yc] <;> omega) (by omega) (by rw [hj];simpa using ew) ⟨rfl,fin⟩) hs
theorem Sd:IxR X (VP X.K):=by
 intro value slice pins s U H x y v u Q I rx ry h hs
 obtain ⟨p,xs,i,z,rfl,rfl,hq,he,q⟩:=h
 cases rx
 obtain ⟨t,rfl⟩:=ry
 obtain ⟨its,r,pl,hz⟩:=I.tuple hq
 obtain ⟨j,h1,h2,h3,h4,h5⟩:=yl he
 obtain ⟨w,ew,rw'⟩:=r.get h2
 have hl:=r.length
 have hn:=vh
 have fin:EP X pins U Q w s:=⟨z,H,I,rw',q⟩
 exact subscriptTail_builtinR (x:=w) pl.typeIs slot_tuple_getitem.lookup
  (getItem_tuple (j:=j) (Q:=fun r s'=>r=w/\EP X pins U Q r s') pl (by omega) (by omega) (by rw [Yc,← hl];exact h1) (by simpa using ew) ⟨rfl,fin⟩) hs
theorem Sg:IxR X VR:=by
 intro value slice pins s U H x y v u Q I rx ry h hs
 obtain ⟨z,i,c,rfl,rfl,hz,he,q⟩:=h
 obtain ⟨t,rfl⟩:=rx
 obtain ⟨t',rfl⟩:=ry
 obtain ⟨j,h1,h2,h3,h4,h5⟩:=yl he
 have hl:z.cps.toList.length=z.length:=by simp [Str.length]
 rw [hl] at h1 h4 h5
 have hn:=vh
 exact tail_any (typeIs_str s z t) slot_str_getitem.lookup (getItem_str (c:=c) (by
  have e1:decide (i < -(2 ^ 63:Int))=false:=Yl (by omega)
  have e2:decide (i>=2 ^ 63)=false:=Yl (by omega)
  rw [e1,e2,Bool.or_false]) (by rw [h1];simpa using h2) ⟨.str ⟨#[c]⟩,H,I.tok _,⟨_,rfl⟩,q⟩) hs
def QG (K:W.Frag):R2:=fun x y H Q=>VN K x y H Q\/VP K x y H Q\/VR x y H Q
theorem Sh:IxR X (QG X.K):=Nv.or (Sd.or Sg)
theorem BX (its:List Value) (n j:Nat) (u:Value):Obj.mapSeq (·.setIfInBounds j u) {cls:=.type "list",data:=.seq its.toArray n}={cls:=.type "list",data:=.seq (its.set j u).toArray n}:=by
 simp [Obj.mapSeq]
theorem Inv.lst {pins:List (Addr×Obj)} {U:St} {H:Hp} {s:Shared} {p:Addr} {xs:List V} (I:Inv X pins U H s) (h:H p=some (.lst xs)):
  ∃ (its:List Value) (n:Nat),Vals xs its/\s.heap.get? p=some {cls:=.type "list",data:=.seq its.toArray n}/\xs.length<=sizeLine:=by
 obtain ⟨z,its,n,r,e⟩:=I.hok p _ h
 exact ⟨its,n,r,e,z⟩
theorem Inv.lstUpd {pins:List (Addr×Obj)} {U:St} {H:Hp} {s:Shared} {p:Addr} {xs ys:List V} {its its':List Value} {n n':Nat} {f:Obj->Obj} (I:Inv X pins U H s) (h:H p=some (.lst xs))
  (ho:s.heap.get? p=some {cls:=.type "list",data:=.seq its.toArray n}) (hf:f {cls:=.type "list",data:=.seq its.toArray n}={cls:=.type "list",data:=.seq its'.toArray n'}) (r:Vals ys its') (hz:ys.length<=sizeLine) (t:Nat):
  Inv X pins U (upd H p (.lst ys)) {s with heap:=s.heap.update p f,toks:=t}:=by
 have e:(s.heap.update p f).get? p=some {cls:=.type "list",data:=.seq its'.toArray n'}:=by
  rw [YM f ho (by rw [hf] <;> rfl),hf]
 refine I.write (x:=p) (e:=p) (by rw [h];trivial) (.inl rfl) (fun b u hb q=>(YB _ _ (Ne.symm hb)).trans q) ⟨_,e⟩ ?_
 exact ⟨hz,its',n',r,e⟩
def zJ:V->V->V->Hp->(Hp->Prop)->Prop:=fun o i v H Q=>∃ p xs k j,o= .ref p/\i= .int k/\H p=some (.lst xs)/\Bs xs.length k=some j/\Q (upd H p (.lst (xs.set j v)))
theorem set_list:MJ X zJ:=by
 intro pins s U H o i v ov iv u Q I ro ri rv h
 obtain ⟨p,xs,k,j,rfl,rfl,hp,hj,q⟩:=h
 cases ro
 obtain ⟨t,rfl⟩:=ri
 obtain ⟨its,n,r,ho,hz⟩:=I.lst hp
 obtain ⟨h1,h2,h3,h4⟩:=Eb hj
 have hl:=r.length
 have hn:=vh
 have I':Inv X pins U (upd H p (.lst (xs.set j v))) {s with heap:=s.heap.update p (Obj.mapSeq (·.setIfInBounds j u))}:=
  I.lstUpd hp ho (BX its n j u) (r.set rv j) (by rw [List.length_set];exact hz) s.toks
 by_cases h0:0<=k
 ·have hk:k.toNat=j:=by
   rw [seqIndex_of h0 h4] at h1
   exact Ym h1
  exact PySem.W.ki_setAt ho h0 (by omega) (by rw [Yc,← hl];exact h4) (by rw [hk];exact ⟨_,I',q⟩)
 ·have hk:(k+(its.toArray.size:Int)).toNat=j:=by
   rw [seqIndex_neg (by omega) h3] at h1
   rw [Yc,← hl]
   exact Ym h1
  exact PySem.W.ki_setBack ho (by omega) (by rw [Yc,← hl];exact h3) (by omega) (by rw [hk];exact ⟨_,I',q⟩)
theorem ym (lo hi:Option Int) (n:Nat):(sliceBounds lo hi none n).1=((HT.sIx n 0 lo:Nat):Int)/\(sliceBounds lo hi none n).2.1=((HT.sIx n n hi:Nat):Int)/\(sliceBounds lo hi none n).2.2=1:=by
 refine ⟨?_,?_,rfl⟩
 ·cases lo with
  | none=>simp [sliceBounds,HT.sIx]
  | some i=>
   simp only [sliceBounds,HT.sIx,Option.getD_none,show (1:Int) > 0 by decide,if_true]
   by_cases h:i < 0
   ·simp only [h,if_true] <;> omega
   ·simp only [h,if_false] <;> omega
 ·cases hi with
  | none=>simp [sliceBounds,HT.sIx]
  | some i=>
   simp only [sliceBounds,HT.sIx,Option.getD_none,show (1:Int) > 0 by decide,if_true]
   by_cases h:i < 0
   ·simp only [h,if_true] <;> omega
   ·simp only [h,if_false] <;> omega
theorem wC (its:List Value) (lo hi:Option Int):slicePick its.toArray lo hi none=((its.drop (HT.sIx its.length 0 lo)).take (HT.sIx its.length its.length hi - HT.sIx its.length 0 lo)).toArray:=by
 obtain ⟨h1,h2,h3⟩:=ym lo hi its.toArray.size
 unfold slicePick
 rw [h1,h2,h3]
 simp only [sliceRange_one,pick_run,Yc] <;> rfl
def VV (K:W.Frag):V->Option Int->Option Int->Hp->VK->Prop:=fun x lo hi H Q=>∃ a xs,x= .ref a/\SqL K H a xs/\∀ p,H p=none->Q (.ref p) (upd H p (.lst (sV xs lo hi)))
theorem Nx:SlR X (VV X.K):=by
 intro pins s U H x v vl vu lo hi sl Q I rx hs pl pu h
 obtain ⟨a,xs,rfl,hx,q⟩:=h
 cases rx
 obtain ⟨its,r,ht,hz⟩:=I.list hx
 have hlen:=r.length
 refine ⟨"list",_,slot_list_getitem.lookup,ht.isList.typeIs,?_⟩
 refine wpAny_getItem_list_slice ht.isList hs pl pu .none (by simp) ?_ (by rw [Yc] <;> omega)
 rw [wC,← hlen]
 refine ⟨.ref s.heap.objs.size,_,I.laid (t':=s.toks) (o:=.lst (sV xs lo hi)) (fun b ob q=>XN _ q) (XQ _) ?_,rfl,q _ (I.hok.fresh (XQ _))⟩
 exact ⟨Yz (uv xs lo hi) hz,_,0,(r.drop (HT.sIx xs.length 0 lo)).take (HT.sIx xs.length xs.length hi - HT.sIx xs.length 0 lo),X4 _ rfl⟩
def kZ:V->Bool
 | .non=>true
 | .bl _=>true
 | .int _=>true
 | .str _=>true
 | _=>false
def zx:V->V->Bool
 | .non,.non=>true
 | .bl a,.bl b=>a == b
 | .bl a,.int b=>(if a then 1 else 0) == b
 | .int a,.bl b=>a == (if b then 1 else 0)
 | .int a,.int b=>a == b
 | .str a,.str b=>a == b
 | _,_=>false
theorem sW {A:Around} {s:Shared} {y x:V} {u v:Value} (ry:RelV y u) (rx:RelV x v) (fy:kZ y=true) (fx:kZ x=true):SeqAt.EqAt A s u v (zx y x):=by
 cases y with
 | non=>
  cases ry
  cases x with
  | non=>cases rx;exact SeqAt.EqAt.same _
  | bl b=>cases rx;exact SeqAt.EqAt.none_bool b
  | int b=>obtain ⟨t,rfl⟩:=rx;exact SeqAt.EqAt.none_int b t
  | str b=>obtain ⟨t,rfl⟩:=rx;exact SeqAt.EqAt.none_str b t
  | _=>exact absurd (show false=true from fx) Yb
 | bl a=>
  cases ry
  cases x with
  | non=>cases rx;exact SeqAt.EqAt.bool_none a
  | bl b=>cases rx;exact SeqAt.EqAt.bool_bool a b
  | int b=>obtain ⟨t,rfl⟩:=rx;exact SeqAt.EqAt.bool_int a b t
  | str b=>obtain ⟨t,rfl⟩:=rx;exact SeqAt.EqAt.bool_str a b t
  | _=>exact absurd (show false=true from fx) Yb
 | int a=>
  obtain ⟨t',rfl⟩:=ry
  cases x with
  | non=>cases rx;exact SeqAt.EqAt.int_none a t'
  | bl b=>cases rx;exact SeqAt.EqAt.int_bool a t' b
  | int b=>obtain ⟨t,rfl⟩:=rx;exact SeqAt.EqAt.int_int a t' b t
  | str b=>obtain ⟨t,rfl⟩:=rx;exact SeqAt.EqAt.int_str a t' b t
  | _=>exact absurd (show false=true from fx) Yb
 | str a=>
  obtain ⟨t',rfl⟩:=ry
  cases x with
  | non=>cases rx;exact SeqAt.EqAt.str_none a t'
  | bl b=>cases rx;exact SeqAt.EqAt.str_bool a t' b
  | int b=>obtain ⟨t,rfl⟩:=rx;exact SeqAt.EqAt.str_int a t' b t
  | str b=>obtain ⟨t,rfl⟩:=rx;exact SeqAt.EqAt.str_str a t' b t
  | _=>exact absurd (show false=true from fx) Yb
 | _=>exact absurd (show false=true from fy) Yb
def Ny (x:V) (u:Value):Bool:=match u with
 | .none=>zx .non x
 | .bool b=>zx (.bl b) x
 | .int i _=>zx (.int i) x
 | .str z _=>zx (.str z) x
 | _=>false
theorem Ji {x y:V} {u:Value} (r:RelV y u) (f:kZ y=true):Ny x u=zx y x:=by
 cases y with
 | non=>cases r;rfl
 | bl b=>cases r;rfl
 | int i=>obtain ⟨t,rfl⟩:=r;rfl
 | str z=>obtain ⟨t,rfl⟩:=r;rfl
 | _=>exact absurd (show false=true from f) Yb
theorem yo {x:V}:∀ {xs:List V} {us:List Value},Vals xs us->xs.all kZ=true->us.any (Ny x)=xs.any fun y=>zx y x
 | _,_,.nil,_=>rfl
 | y :: xs,u :: us,.cons r t,f=>by
  rw [YQ,Yg] at f
  rw [Aap,Aap,Ji r f.1,yo t f.2]
theorem vp {A:Around} {s:Shared} {x:V} {v:Value} (rx:RelV x v) (fx:kZ x=true):∀ {xs:List V} {us:List Value},Vals xs us->xs.all kZ=true->∀ u∈us,SeqAt.EqAt A s u v (Ny x u)
 | _,_,.nil,_=>fun u hu=>by cases hu
 | y :: xs,u :: us,.cons r t,f=>fun u' hu=>by
  rw [YQ,Yg] at f
  rcases X7.mp hu with rfl | hu
  ·rw [Ji r f.1];exact sW r rx f.1 fx
  ·exact vp rx fx t f.2 u' hu
def inV (x:V) (xs:List V):Bool:=xs.any fun y=>zx y x
def rIn (K:W.Frag) (neg:Bool):R2:=fun x y H Q=>∃ p xs,y= .ref p/\(SqL K H p xs\/SqT K H p xs)/\kZ x=true/\xs.all kZ=true/\Q (.bl (if neg then !inV x xs else inV x xs)) H
theorem Gx:OpR X (compareOp .In) (rIn X.K false):=by
 intro pins s U H x y v u Q I rx ry h
 obtain ⟨p,xs,rfl,hq,fx,fs,q⟩:=h
 cases ry
 rcases hq with hq | hq
 ·obtain ⟨its,r,pl,hz⟩:=I.list hq
  refine SeqAt.in_listAt (Ny x) pl.isList (fun w hw=>vp rx fx r fs w (by simpa using hw)) ⟨.bl _,H,I,rfl,?_⟩
  rw [show its.toArray.any (Ny x)=its.any (Ny x) by simp,yo r fs]
  exact q
 ·obtain ⟨its,r,pl,hz⟩:=I.tuple hq
  refine SeqAt.in_tupleAt (Ny x) pl (fun w hw=>vp rx fx r fs w (by simpa using hw)) ⟨.bl _,H,I,rfl,?_⟩
  rw [show its.toArray.any (Ny x)=its.any (Ny x) by simp,yo r fs]
  exact q
theorem CallR.or {f:Value} {r r':List V->Hp->VK->Prop} (h:CallR X f r) (h':CallR X f r'):CallR X f (fun xs H Q=>r xs H Q\/r' xs H Q):=by
 intro pins s U H xs us Q I rs q
 rcases q with q | q
 ·exact h pins s U H xs us Q I rs q
 ·exact h' pins s U H xs us Q I rs q
theorem yp:CallR X (.type "list") (fun xs H Q=>∃ p ys,xs=[.ref p]/\(SqL X.K H p ys\/SqT X.K H p ys)/\∀ l,H l=none->Q (.ref l) (upd H l (.lst ys))):=by
 intro pins s U H xs us Q I r h
 obtain ⟨p,ys,rfl,hq,q⟩:=h
 obtain ⟨u,rfl,rx⟩:=vals1 r
 cases rx
 have fin:∀ (its:List Value),Vals ys its->ys.length<=sizeLine->∀ (h':Heap) (c':Nat),(∀ b o',s.heap.get? b=some o'->h'.get? b=some o')->
   h'.get? s.heap.objs.size=some {cls:=.type "list",dict:=none,data:=.seq its.toArray c',slots:=#[]}->EP X pins U Q (.ref s.heap.objs.size) {s with heap:=h'}:=fun its r' hz h' c' kp e=>
  ⟨.ref s.heap.objs.size,_,I.laid (t':=s.toks) kp (XQ _) (show ObjOk X.prog X.w _ h' _ (.lst ys) from ⟨hz,its,c',r',e⟩),rfl,q _ (I.hok.fresh (XQ _))⟩
 rcases hq with hq | hq
 ·obtain ⟨its,r',pl,hz⟩:=I.list hq
  have hlen:=r'.length
  obtain ⟨o,ho,hc,n,hd⟩:=pl.isList
  exact call_list_seq p (.inl rfl) ho hc hd (fun h' c' kp e=>fin its r' hz h' c' kp e) (by simp only [Yc] <;> omega)
 ·obtain ⟨its,r',pl,hz⟩:=I.tuple hq
  have hlen:=r'.length
  obtain ⟨o,ho,hc,n,hd⟩:=pl
  exact call_list_seq p (.inr rfl) ho hc hd (fun h' c' kp e=>fin its r' hz h' c' kp e) (by simp only [Yc] <;> omega)
def V0 (K:W.Frag) (T:String) (x:V) (H:Hp):Prop:=match x with
 | .str _=>T="str"
 | .int _=>T="int"
 | .ref p=>(T="list"/\∃ xs,SqL K H p xs)\/(T="tuple"/\∃ o,K.lookup p=some o/\o.cls= .type "tuple"/\o.dict=none)\/
   (T="dict"/\((∃ kvs,H p=some (.dK kvs))\/∃ kvs,H p=some (.dT kvs)))\/(T="set"/\∃ S n,H p=some (.set S n))
 | _=>False
theorem Jj {pins:List (Addr×Obj)} {U:St} {H:Hp} {s:Shared} {T:String} {x:V} {v:Value} (I:Inv X pins U H s) (r:RelV x v) (ty:V0 X.K T x H):
  s.TypeIs v T/\∀ a,v= .ref a->∃ ob,s.heap.get? a=some ob/\ob.dict=none:=by
 cases x with
 | str z=>
  obtain ⟨t,rfl⟩:=r
  cases (show T="str" from ty)
  exact ⟨typeIs_str s z t,fun _ e=>nomatch e⟩
 | int i=>
  obtain ⟨t,rfl⟩:=r
  cases (show T="int" from ty)
  exact ⟨typeIs_int s i t,fun _ e=>nomatch e⟩
 | ref p=>
  cases r
  rcases ty with ⟨rfl,xs,hq⟩ | ⟨rfl,o,hk,hc,hd⟩ | ⟨rfl,hk⟩ | ⟨rfl,S,n,hk⟩
  ·obtain ⟨its,_,pl,_⟩:=I.list hq
   refine ⟨pl.isList.typeIs,fun a e=>?_⟩
   cases e
   obtain ⟨o,n,e,c,hd,_⟩:=pl
   exact ⟨o,e,hd⟩
  ·refine ⟨⟨o,I.kIn p o hk,hc⟩,fun a e=>?_⟩
   cases e
   exact ⟨o,I.kIn _ o hk,hd⟩
  ·have z:∃ o,s.heap.get? p=some o/\o.ExactDict:=by
    rcases hk with ⟨kvs,hk⟩ | ⟨kvs,hk⟩
    ·obtain ⟨_,_,_,_,o,_,_,e,ex,_⟩:=I.hok p _ hk
     exact ⟨o,e,ex⟩
    ·obtain ⟨_,_,_,_,o,_,_,e,ex,_⟩:=I.hok p _ hk
     exact ⟨o,e,ex⟩
   obtain ⟨o,e,ex⟩:=z
   refine ⟨⟨o,e,ex.1⟩,fun a e2=>?_⟩
   cases e2
   exact ⟨o,e,ex.2.1⟩
  ·obtain ⟨o,_,_,_,e,ex,_⟩:=I.hok p _ hk
   refine ⟨⟨o,e,ex.1⟩,fun a e2=>?_⟩
   cases e2
   exact ⟨o,e,ex.2.1⟩
 | _=>exact False.elim ty
def Jk (K:W.Frag) (T:String) (r:V->List V->Hp->VK->Prop) (to:TE):TE:=fun U H Q=>to U H fun x H1=>V0 K T x H1/\r x [] H1 Q
def V1 (K:W.Frag) (T:String) (r:V->List V->Hp->VK->Prop) (to:TE) (t:TA):TE:=fun U H Q=>to U H fun x H1=>V0 K T x H1/\t U H1 fun xs H2=>r x xs H2 Q
variable {o e:Expr} {es:List Expr} {to:TE} {t:TA} {name:Str} {apos cpos:Pos} {T id:String} {r:V->List V->Hp->VK->Prop}
theorem Sq (pa:PlainAttrs T) (slot:Slot T name id) (hty:typeOf (.builtin id)=pure (.type "method_descriptor")) (hm:Ib X id r) (ho:PE X o to)
  (hbase:autoParam (attributeBase o name X.env (eval o X.env)=eval o X.env) L2.auto4._auto_1) (hline:autoParam ((apos.endLine == cpos.line)=true) L2.auto4._auto_1):PE X (.Call (.Attribute o name apos) [] [] cpos) (Jk X.K T r to):=by
 intro pins s U H Q I h
 refine wpAny_Call_method0_late hbase hline (fU (ho pins s U H _ I h) fun v s1 qq0=>?_)
 obtain ⟨x,H1,I1,r1,ty,q1⟩:=qq0
 obtain ⟨h1,h2⟩:=Jj I1 r1 ty
 exact ⟨T,id,pa,slot,hty,h1,h2,Calls.callWith_builtin rfl (PySem.evalArgs_none (hm pins s1 U H1 x [] v [] Q I1 r1 .nil q1))⟩
theorem V2 (pa:PlainAttrs T) (slot:Slot T name id) (hty:typeOf (.builtin id)=pure (.type "method_descriptor")) (hm:Ib X id r) (ho:PE X o to) (ha:PA X (e :: es) t)
  (hbase:autoParam (attributeBase o name X.env (eval o X.env)=eval o X.env) L2.auto4._auto_1)
  (hfew:((backTo cpos (starEach (e :: es) X.env)).all (fun x=>!x.1) && (backToKw cpos (keywordEach [] X.env)).all (fun x=>x.1.isSome)
   && decide ((e :: es).length+([]:List Keyword).length+(if ([]:List Keyword).isEmpty then 0 else 1) < 30))=true:=by rfl)
  (hline:autoParam ((apos.endLine == cpos.line)=true) L2.auto4._auto_1) (hs:autoParam (starEach (e :: es) X.env=(false,eval e X.env) :: starEach es X.env) L2.auto4._auto_1) (hplain:autoParam ((backTo cpos (starEach es X.env)).any (·.1)=false) L2.auto4._auto_1):
  PE X (.Call (.Attribute o name apos) (e :: es) [] cpos) (V1 X.K T r to t):=by
 intro pins s U H Q I h
 refine wpAny_Call_method_late hbase hfew hline rfl (fU (ho pins s U H _ I h) fun v s1 qq0=>?_)
 obtain ⟨x,H1,I1,r1,ty,q1⟩:=qq0
 obtain ⟨h1,h2⟩:=Jj I1 r1 ty
 refine ⟨T,id,pa,slot,hty,h1,h2,?_⟩
 have hA:=ha cpos pins s1 U H1 _ I1 q1
 rw [hs] at hA ⊢
 refine Calls.callWith_builtin (by show (false || (backTo cpos (starEach es X.env)).any (·.1))=false;rw [hplain] <;> rfl) (Calls.evalArgs_plain ?_)
 exact fU hA fun us s2 ⟨vs,H2,I2,r2,q2⟩=>hm pins s2 U H2 x vs v us Q I2 r1 r2 q2
end
def MtM (X:Cx) (id:String) (r:V->List V->Hp->VK->Prop):Prop:=
 ∀ (pins:List (Addr×Obj)) (s:Shared) (U:St) (H:Hp) (x:V) (xs:List V) (v:Value) (us:List Value) (Q:VK),Inv X pins U H s->RelV x v->Vals xs us->r x xs H Q->
  wpAny (model X.prog X.w) X.A (call (.builtin id) (v :: us)) (EP X pins U Q) X.xe s
theorem Vals.one:∀ {x:V} {us:List Value},Vals [x] us->∃ u,us=[u]/\RelV x u
 | _,_,.cons r .nil=>⟨_,rfl,r⟩
theorem Vals.zero:∀ {us:List Value},Vals [] us->us=[]
 | _,.nil=>rfl
theorem Vals.dropLast {xs:List V} {us:List Value} (h:Vals xs us):Vals xs.dropLast us.dropLast:=by
 induction h with
 | nil=>exact .nil
 | cons r t ih=>
  cases t with
  | nil=>exact .nil
  | cons q t'=>exact .cons r ih
theorem Vals.reverse {xs:List V} {us:List Value} (h:Vals xs us):Vals xs.reverse us.reverse:=by
 induction h with
 | nil=>exact .nil
 | cons r t ih=>rw [List.reverse_cons,List.reverse_cons];exact Vals.append ih (.cons r .nil)
theorem Vals.rep {xs:List V} {us:List Value} (h:Vals xs us):∀ k:Nat,Vals (List.replicate k xs).flatten (List.replicate k us).flatten
 | 0=>.nil
 | k+1=>by
  rw [Zw,Zw,Zu,Zu]
  exact Vals.append h (Vals.rep h k)
theorem BZ {α:Type} (l:List α):l.eraseIdx (l.length - 1)=l.dropLast:=by
 induction l with
 | nil=>rfl
 | cons a r ih=>
  cases r with
  | nil=>rfl
  | cons b r=>
   have e:(a :: b :: r).length - 1=((b :: r).length - 1)+1:=by
    have h1:(a :: b :: r).length=r.length+2:=rfl
    have h2:(b :: r).length=r.length+1:=rfl
    omega
   rw [e,List.eraseIdx_cons_succ,ih]
   all_goals rfl
theorem foldl_rep (its:List Value):∀ (k:Nat) (acc:List Value),
  List.foldl (fun x1 x2=>x1 ++ x2) acc.toArray (List.replicate k its.toArray)=(acc ++ (List.replicate k its).flatten).toArray
 | 0,acc=>by simp
 | k+1,acc=>by
  have e:acc.toArray ++ its.toArray=(acc ++ its).toArray:=by simp
  have e2:(acc ++ its) ++ (List.replicate k its).flatten=acc ++ (List.replicate (k+1) its).flatten:=by
   rw [Zw,Zu,Aaa]
  rw [← e2,← foldl_rep its k (acc ++ its),← e,Zw,List.foldl_cons]
section
variable {X:Cx} {pins:List (Addr×Obj)} {U:St} {H:Hp} {s:Shared} {l b:Addr} {xs ys zs:List V}
theorem Inv.lset {its its':List Value} {n:Nat} {f:Array Value->Array Value} {t':Nat} (I:Inv X pins U H s) (hH:H l=some (.lst xs))
  (e:s.heap.get? l=some {cls:=.type "list",data:=.seq its.toArray n}) (hf:f its.toArray=its'.toArray) (hv:Vals ys its') (hz:ys.length<=sizeLine):
  Inv X pins U (upd H l (.lst ys)) {s with heap:=s.heap.update l (Obj.mapSeq f),toks:=t'}:=by
 have q:=PySem.IsL.update e f
 rw [hf] at q
 refine I.write (x:=l) (e:=l) (by rw [hH];exact trivial) (.inl rfl) (fun b' u hb hu=>(YB s.heap (Obj.mapSeq f) (Ne.symm hb)).trans hu) ⟨_,q⟩ ?_
 exact ⟨hz,its',_,hv,q⟩
theorem Inv.lnew {its:List Value} {t':Nat} (I:Inv X pins U H s) (hv:Vals ys its) (hz:ys.length<=sizeLine):
  Inv X pins U (upd H s.heap.objs.size (.lst ys)) {s with heap:=s.heap.push {cls:=.type "list",data:=.seq its.toArray},toks:=t'}:=
 I.laid (fun _ _ q=>XN _ q) (XQ _) ⟨hz,its,0,hv,X4 _ rfl⟩
theorem Inv.fresh (I:Inv X pins U H s):H s.heap.objs.size=none:=I.hok.fresh (XQ _)
theorem Inv.lstM (I:Inv X pins U H s) (hH:H l=some (.lst xs)):xs.length<=sizeLine/\∃ (its:List Value) (n:Nat),Vals xs its/\xs.length=its.length/\s.heap.get? l=some {cls:=.type "list",data:=.seq its.toArray n}:=by
 obtain ⟨z,its,n,r,e⟩:=I.hok l _ hH
 exact ⟨z,its,n,r,r.length,e⟩
theorem Jl {n:Nat} (h:n<=sizeLine):Builtin.List.listTooLong n=false:=by
 unfold Builtin.List.listTooLong
 exact Yl (by omega)
end
section
variable {X:Cx}
def Ed:V->List V->Hp->VK->Prop:=fun x vs H Q=>∃ l xs y,x= .ref l/\vs=[y]/\H l=some (.lst xs)/\xs.length < sizeLine/\Q .non (upd H l (.lst (xs ++ [y])))
theorem dm:MtM X "list.append" Ed:=by
 intro pins s U H x vs v us Q I rx rv h
 obtain ⟨l,xs,y,rfl,rfl,hH,hz,q⟩:=h
 cases rx
 obtain ⟨u,rfl,ru⟩:=rv.one
 obtain ⟨z,its,n,r,hl,e⟩:=I.lstM hH
 refine call_meets F.slot_list_append ⟨_,e,rfl⟩ F.entry_list_append (F.args_list_append_2 _ _) (PySem.list_append l its.toArray n u (by rw [Yc];omega)) ⟨e,?_⟩
 refine ⟨.non,_,I.lset (its':=its ++ [u]) hH e (by simp) (r.append (.cons ru .nil)) ?_,rfl,q⟩
 rw [Za,List.length_singleton]
 omega
def rPop:V->List V->Hp->VK->Prop:=fun x vs H Q=>∃ l xs y,x= .ref l/\vs=[]/\H l=some (.lst xs)/\xs[xs.length - 1]?=some y/\Q y (upd H l (.lst xs.dropLast))
theorem Ss:MtM X "list.pop" rPop:=by
 intro pins s U H x vs v us Q I rx rv h
 obtain ⟨l,xs,y,rfl,rfl,hH,hy,q⟩:=h
 cases rx
 have hus:=rv.zero
 subst hus
 obtain ⟨z,its,n,r,hl,e⟩:=I.lstM hH
 obtain ⟨u,hu,ru⟩:=r.get hy
 have hy':its.toArray[its.toArray.size - 1]?=some u:=by
  show its.toArray[its.length - 1]?=some u
  rw [← ZQ,← hl]
  exact hu
 refine call_meets F.slot_list_pop ⟨_,e,rfl⟩ F.entry_list_pop (F.args_list_pop_1 _) (MeetsSeq.list_pop_last l its.toArray n u hy' (by rw [Yc];omega)) ⟨e,?_⟩
 refine ⟨y,_,I.lset (its':=its.dropLast) hH e ?_ r.dropLast ?_,ru,q⟩
 ·show its.toArray.eraseIdxIfInBounds (its.toArray.size - 1)=its.dropLast.toArray
  rw [Yc,List.eraseIdxIfInBounds_toArray,BZ]
 ·rw [List.length_dropLast]
  omega
def Su:V->List V->Hp->VK->Prop:=fun x vs H Q=>∃ l xs,x= .ref l/\vs=[]/\H l=some (.lst xs)/\Q .non (upd H l (.lst []))
theorem Jm:MtM X "list.clear" Su:=by
 intro pins s U H x vs v us Q I rx rv h
 obtain ⟨l,xs,rfl,rfl,hH,q⟩:=h
 cases rx
 have hus:=rv.zero
 subst hus
 obtain ⟨z,its,n,r,hl,e⟩:=I.lstM hH
 refine call_meets F.slot_list_clear ⟨_,e,rfl⟩ F.entry_list_clear (F.args_list_clear_1 _) (AutoSeq1.list_clear_list_0 l its.toArray n (by rw [Yc];omega)) ⟨e,?_⟩
 exact ⟨.non,_,I.lset (its':=[]) (ys:=[]) hH e rfl .nil (YT _),rfl,q⟩
def V3:R2:=fun x y H Q=>∃ l b xs zs,x= .ref l/\y= .ref b/\H l=some (.lst xs)/\H b=some (.lst zs)/\xs.length+zs.length<=sizeLine/\∀ p,H p=none->Q (.ref p) (upd H p (.lst (xs ++ zs)))
theorem Sv:OpR X (binaryOp .Add) V3:=by
 intro pins s U H x y v u Q I rx ry h
 obtain ⟨l,b,xs,zs,rfl,rfl,hH,hB,hz,q⟩:=h
 cases rx
 cases ry
 obtain ⟨z,its,n,r,hl,e⟩:=I.lstM hH
 obtain ⟨z2,its2,n2,r2,hl2,e2⟩:=I.lstM hB
 refine PySem.P.add_list e e2 ?_ (by rw [Yc,Yc];omega)
 have ea:its.toArray ++ its2.toArray=(its ++ its2).toArray:=by simp
 rw [ea]
 exact ⟨.ref _,_,I.lnew (t':=s.toks) (r.append r2) (by rw [Za];omega),rfl,q _ I.fresh⟩
def V4:R2:=fun x y H Q=>∃ l k xs,x= .ref l/\y= .int k/\H l=some (.lst xs)/\-(2 ^ 63)<=k/\k < 2 ^ 63/\xs.length*k.toNat<=sizeLine/\
 ∀ p,H p=none->Q (.ref p) (upd H p (.lst (List.replicate k.toNat xs).flatten))
theorem len_rep {α:Type} (xs:List α) (k:Nat):(List.replicate k xs).flatten.length=k*xs.length:=by
 induction k with
 | zero=>simp
 | succ k ih=>rw [Zw,Zu,Za,ih,Nat.succ_mul,Nat.add_comm]
theorem Sw:OpR X (binaryOp .Mult) V4:=by
 intro pins s U H x y v u Q I rx ry h
 obtain ⟨l,k,xs,rfl,rfl,hH,h1,h2,hz,q⟩:=h
 cases rx
 obtain ⟨t,rfl⟩:=ry
 obtain ⟨z,its,n,r,hl,e⟩:=I.lstM hH
 have hlen:its.toArray.size*k.toNat<=sizeLine:=by rw [Yc,← hl];exact hz
 have hcap:¬ its.toArray.size*k.toNat > (2 ^ 63 - 1) / 8:=by
  have:(sizeLine:Nat)<=(2 ^ 63 - 1) / 8:=by decide
  omega
 have hfit:¬ (!Builtin.List.listFitsIndex k)=true:=by
  rw [fitsIndex_both h1 h2]
  exact Yb
 have hlong:¬ Builtin.List.listTooLong (its.toArray.size*k.toNat)=true:=by
  rw [Jl hlen]
  exact Yb
 have hnew:List.foldl (fun x1 x2=>x1 ++ x2) #[] (List.replicate (if its.toArray.isEmpty=true then 0 else k.toNat) its.toArray)=(List.replicate k.toNat its).flatten.toArray:=by
  have f0:∀ m:Nat,List.foldl (fun x1 x2=>x1 ++ x2) #[] (List.replicate m its.toArray)=(List.replicate m its).flatten.toArray:=fun m=>by
   have:=foldl_rep its m []
   rw [List.nil_append] at this
   exact this
  rw [f0]
  cases its with
  | nil=>simp
  | cons a r'=>rw [if_neg (by simp)]
 refine wpAny_binaryOp_repeat_ref (T:="list") (U:="int") (by decide) ⟨_,e,rfl⟩ (fun s'=>typeIs_int s' k t) noFill_list_mul F.fills_int_mul F.slot_int_rmul repeat_list F.slot_int_index.lookup
  (call_meets F.slot_int_rmul (typeIs_int s k t) F.entry_int_rmul (F.args_int_rmul_2 _ _) (int___rmul___int_list k t l its.toArray n)
   ⟨e,rfl,⟨_,e,rfl⟩,call_meets F.slot_list_mul ⟨_,e,rfl⟩ F.entry_list_mul (F.args_list_mul_2 _ _) (AutoListH.list___mul___list_int_3 l its.toArray n k t hfit hcap hlong) ⟨e,?_⟩⟩)
 rw [hnew]
 exact ⟨.ref _,_,I.lnew (t':=s.toks) (r.rep k.toNat) (by rw [len_rep,Nat.mul_comm];exact hz),rfl,q _ I.fresh⟩
end
end L2
namespace Att
open PySem PySem.W PySem.Calls PyProof.Rows
theorem uF {P:Params} {h:Heap}:∀ (ns:List Int) (vs:List Value),WellAll P h vs (ns.map WData.int)->IntsAre vs ns:=by
 intro ns
 induction ns with
 | nil=>
  intro vs w
  rw [List.map_nil] at w
  cases w
  exact .nil
 | cons n ns ih=>
  intro vs w
  rw [Ys] at w
  cases w with
  | cons a b=>
   cases a
   exact .cons _ _ (ih _ b)
theorem Gy {l:OpenLaw} {n:Nat} (hn:l.most=some n) {P:Params} {h:Heap} {args:List WData} {vals:List Value}
  (hpre:l.row.toRowW.claim.pre args=true) (hwl:WellAll P h vals args):
  ∃ a vs ns,vals=[Value.ref a]/\args=[WData.list (ns.map WData.int)]/\h.get? a=some {cls:=.type "list",data:=.seq vs.toArray}/\IntsAre vs ns/\ns.length<=n:=by
 have hsh:WShape.hasAll [] args [.list .int]=true:=(pre_splitW hpre).1
 have hc:l.pre.holds [] {args:=args}=true:=(pre_splitW hpre).2
 obtain ⟨d,r,rfl,h1,h2⟩:=hasAllW_cons hsh
 obtain rfl:=hasAllW_nil h2
 obtain ⟨xs,rfl,h3⟩:=hasW_list h1
 obtain ⟨ns,rfl⟩:=items_int h3
 have hlen:ns.length<=n:=by
  unfold OpenLaw.pre at hc
  have h4:(WTm.not (.lt (.lit (.int (n:Int))) (.len (.arg 0)))).holds [] {args:=[.list (ns.map .int)]}=true:=by
   have h4:=(holds_andW hc).1
   rw [hn] at h4
   exact h4
  have h5:=condW_of h4 (w_not (w_lt w_lit (w_len_list (w_arg rfl))))
  rw [X8] at h5
  refine Nat.le_of_not_lt fun q=>?_
  have q':(n:Int) < ((ns.length:Nat):Int):=by omega
  first
   | (rw [Yj q'] at h5;exact absurd h5 (by decide))
   | (simp at h5;omega)
 cases hwl with
 | cons w1 w2=>
  cases w2
  cases w1 with
  | list ho hall=>exact ⟨_,_,ns,rfl,rfl,ho,uF ns _ hall,hlen⟩
theorem Gz (l:OpenLaw) (args:List WData):l.row.toRowW.claim.post args (.bool true) args=true:=
 postW_of (r:=l.row.toRowW) (X:=(true == true))
  (show WShape.has [] (.bool true) .bool=true by first | rfl | decide | simp [WShape.has,WShape.arms,WShape.armsAll])
  (show (WTm.eq .res (.lit (.bool true))).value [] {args:=args,res:=some (.bool true),after:=args}=some (.bool (true == true)) from w_eq_bool (w_res rfl) w_lit) rfl
theorem attach_call {l:OpenLaw} {n:Nat} {q:Program} {loose:List Str} {XP:(Str->Option Value)->Heap->Prop} {YP:World->Heap->Prop} {d:DefRec}
  (hn:l.most=some n) (hdf:d.params.defaults=[])
  (call:∀ (w:World) (s₀ s₁:Shared) (mg mb:Str->Option Value) (fa:Addr) (o:Obj) (pm cd doc:Value) (a:Addr) (vs:List Value) (ns:List Int),
   Ground q loose [] XP w s₀ mg mb s₁.heap->YP w s₁.heap->
   s₁.heap.get? fa=some o->o.data= .func (docDef d.name d.params d.body d.scope pm cd doc)->s₁.heap.CodeRec cd d.name->mg d.name=some (.ref fa)->
   s₁.heap.get? a=some {cls:=.type "list",data:=.seq vs.toArray}->IntsAre vs ns->ns.length<=n->s₁.gens= #[]->
   codeAny (model l.prog w) callerA (.call (.ref fa) ⟨[.ref a],[]⟩) (fun r s'=>r= .ok (.ret (.bool true))/\OldK s₁.heap s'.heap/\s'.os=s₁.os/\AllBare s'.gens) s₁):
  WalkO q loose XP YP l.row.toRowW d [] (fun f vs=>PySem.call f vs):=by
 intro w s₀ s₁ mg mb G Y fa o pm cd doc dV kV ho hd hcd hD hmg hg args vals as hpre hlay hrd hwl hlo
 obtain rfl:dV= .none:=Dflts.none hD hdf
 obtain rfl:kV= .none:=Dflts.noKw hD
 obtain ⟨a,vs,ns,rfl,rfl,hobj,hints,hlen⟩:=Gy hn hpre hwl
 refine enter_call (codeAny_mono (call w s₀ s₁ mg mb fa o pm cd doc a vs ns G Y ho (fd_plain hd) hcd hmg hobj hints hlen hg) fun r s' hq=>?_)
 obtain ⟨rfl,h2,h3,h4⟩:=hq
 exact ⟨.inl ⟨.bool true,.bool true,[],rfl,fun _=>rfl,.bool true,Gz l _,fun _=>⟨List.Pairwise.nil,fun _ hm=>(nomatch hm)⟩⟩,h2,h3,h4⟩
end Att
namespace L2
open PySem PySem.Spec PyProof.Rows
theorem xu:∀ {vs:List Value} {ns:List Int},IntsAre vs ns->Vals (ns.map V.int) vs
 | _,_,.nil=>.nil
 | _,_,.cons n t h=>.cons ⟨t,rfl⟩ (xu h)
def Only (H:Hp):Prop:=∀ b,H b=none\/∃ o xs,H b=some (.frz o (.lst xs))
theorem Jo {P:Program} {w:World} {K:W.Frag} {mg mb:Str->Option Value} {CX:Gu} {k:Nat} {fa a:Addr} {fd:FuncData} {x:Str} {sp:Sp} {s₁:Shared} {vs:List Value} {ns:List Int}
  (KX:K.In s₁.heap) (hns:s₁.heap.Ns mainGlobals mg) (hb:s₁.heap.Ns builtinsNs mb) (hbb:∀ x:Str,x≠"__name__"->mb x=bootBuiltins x) (hlim:s₁.heap.NoLimit) (hsm:∃ mm,s₁.heap.Ns sysModules mm) (hbm:∃ bm ob,mg "__builtins__"=some (.ref bm)/\bm≠builtinsNs/\s₁.heap.get? bm=some ob/\ob.cls= .type "module"/\ob.dict=some builtinsNs/\ob.data= .plain) (hg:s₁.gens= #[])
  (ha:s₁.heap.get? a=some {cls:=.type "list",data:=.seq vs.toArray}) (hi:IntsAre vs ns) (hl:ns.length<=sizeLine) (hr:Room k callerA)
  (F:∀ base:Heap,K.In base->base.Ns mainGlobals mg->FnOk P w K mg base CX k fa fd [x] sp) (hbind:∀ (s:Shared) (u:Value),BindsTo s fd ⟨[u],[]⟩ [(x,u)])
  (hsp:∀ H:Hp,Only H->SqL K H a (ns.map V.int)->sp [.ref a] H (fun v _=>v= .bl true) fun _ _ _=>False)
  (hCX:∀ H e s',CX [] H s₁ (fun _ _ _=>False) e s'->False):
  codeAny (model P w) callerA (.call (.ref fa) ⟨[.ref a],[]⟩) (fun r s'=>r= .ok (.ret (.bool true))/\OldK s₁.heap s'.heap/\s'.os=s₁.os/\AllBare s'.gens) s₁:=by
 have rv:=xu hi
 have lenV:=hi.length
 have core:∀ H:Hp,Only H->SqL K H a (ns.map V.int)->HOk P w H s₁.heap->(∀ b,H b≠none->b=a)->(H a≠none->K.lookup a=none)->
   codeAny (model P w) callerA (.call (.ref fa) ⟨[.ref a],[]⟩) (fun r s'=>r= .ok (.ret (.bool true))/\OldK s₁.heap s'.heap/\s'.os=s₁.os/\AllBare s'.gens) s₁:=by
  intro H hO hS hok hA hK
  have base_of:∀ {b:Addr} {o:Obj},s₁.heap.get? b=some o->H b=none->(ye s₁.heap H).get? b=some o:=fun e n=>Ig e n
  have noA:∀ {b:Addr} {o:Obj} {es:Array DictEntry} {ep:Nat},s₁.heap.get? b=some o->o.data= .dict es ep->H b=none:=fun {b o es ep} e d=>by
   cases q:H b with
   | none=>rfl
   | some u=>
    have e':b=a:=hA b (by rw [q];simp)
    subst e'
    rw [ha] at e;cases e
    have d':Data.seq vs.toArray _=Data.dict es ep:=d
    cases d'
  have noM:∀ {b:Addr} {o:Obj},s₁.heap.get? b=some o->o.cls= .type "module"->H b=none:=fun {b o} e d=>by
   cases q:H b with
   | none=>rfl
   | some u=>
    have e':b=a:=hA b (by rw [q];simp)
    subst e'
    rw [ha] at e;cases e
    exact absurd (show (Value.type "list":Value)= .type "module" from d) (fun z=>absurd (Value.type.inj z) (by decide))
  have nsK:∀ {b:Addr} {m:Str->Option Value},s₁.heap.Ns b m->(ye s₁.heap H).Ns b m:=fun {b m} ⟨o,es,ep,e,d,r⟩=>⟨o,es,ep,base_of e (noA e d),d,r⟩
  have hKb:K.In (ye s₁.heap H):=fun b o e=>base_of (KX b o e) (by
   cases q:H b with
   | none=>rfl
   | some u=>
    have e':b=a:=hA b (by rw [q];simp)
    subst e'
    rw [hK (by rw [q];simp)] at e;cases e)
  have hM:Mod K mg (ye s₁.heap H):=⟨hKb,nsK hns,⟨mb,nsK hb,hbb⟩,(let ⟨mc,h1,h2⟩:=hlim;⟨mc,nsK h1,h2⟩),(let ⟨mm,h1⟩:=hsm;⟨mm,nsK h1⟩),let ⟨bm,ob,b1,b2,b3,b4,b5⟩:=hbm;⟨bm,ob,b1,b2,base_of b3 (noM b3 b4),b4,b5⟩⟩
  have e0:Env0 P w K mg (ye s₁.heap H) callerA [] s₁ H:=⟨rfl,hM,fun b o e=>Mu e,Nat.le_of_eq (Gh _ _),trivial,fun b hb=>absurd (show b∈([]:List Addr) from hb) (by simp),hok,.of_eq hg⟩
  refine codeAny_mono ((F _ hKb (nsK hns)).run callerA [] s₁ H ⟨[.ref a],[]⟩ [.ref a] [.ref a] _ _ hr e0 (hbind s₁ (.ref a)) (.cons rfl .nil) (hsp H hO hS)) fun r s' h=>?_
  cases r with
  | error e=>exact (hCX H e s' h).elim
  | ok fl=>
   cases fl with
   | next=>exact False.elim h
   | brk=>exact False.elim h
   | cont=>exact False.elim h
   | ret u=>
    obtain ⟨v,H',os,bare,un,hok',r',q⟩:=h
    have q':v= .bl true:=q
    subst q'
    obtain rfl:u=Value.bool true:=r'
    refine ⟨rfl,OldK.of_keep fun b o e=>?_,os,bare⟩
    cases q:H b with
    | none=>exact un.keep b o e q (by intro z;exact absurd (show b∈([]:List Addr) from z) (by simp)) (by simp)
    | some u=>
     rcases hO b with z | ⟨ob,xs,z⟩
     ·rw [q] at z;cases z
     ·have z2:=un.frzs b ob _ z
      obtain ⟨e1,_⟩:=hok b _ z
      obtain ⟨e2,_⟩:=hok' b _ z2
      rw [e] at e1;cases e1
      exact e2
 cases hk:K.lookup a with
 | some o=>
  have e:=KX a o hk
  rw [ha] at e
  cases e
  refine core (fun _=>none) (fun _=>.inl rfl) (.inr ⟨_,vs.toArray,_,hk,rfl,rfl,rfl,by rw [Yc,lenV];exact hl,by simpa using rv⟩) (fun b u z=>by have z':(none:Option HO)=some u:=z;cases z') (fun b z=>absurd rfl z) fun z=>absurd rfl z
 | none=>
  refine core (fun b=>if b=a then some (.frz {cls:=.type "list",data:=.seq vs.toArray} (.lst (ns.map V.int))) else none) (fun b=>?_) (.inl (.inr ⟨{cls:=.type "list",data:=.seq vs.toArray},if_pos rfl⟩)) (fun b u z=>?_) (fun b z=>?_) fun _=>hk
  ·by_cases hb:b=a
   ·exact .inr ⟨_,_,if_pos hb⟩
   ·exact .inl (if_neg hb)
  ·by_cases hb:b=a
   ·have z':=(if_pos hb).symm.trans z
    cases z'
    subst hb
    exact ⟨ha,by rw [X8];exact hl,vs,_,rv,ha⟩
   ·have z':=(if_neg hb).symm.trans z
    cases z'
  ·by_cases hb:b=a
   ·exact hb
   ·exact absurd (if_neg hb) z
abbrev KOf {K:W.Frag} {h:Heap} (_:K.In h):W.Frag:=K
theorem Nz {l:PySem.W.OpenLaw} {n k:Nat} {q:Program} {loose:List Str} {XP:(Str->Option Value)->Heap->Prop} {YP:World->Heap->Prop} {d:DefRec} {K:Params->W.Frag} {CX:World->Gu} {sp:World->Sp} {x:Str}
  (hn:l.most=some n) (hn2:n<=sizeLine) (hdf:d.params.defaults=[]) (hr:Room k callerA)
  (hY:∀ (w:World) (h:Heap),YP w h->(K w.params).In h)
  (F:∀ (w:World) (mg:Str->Option Value) (fa:Addr) (h:Heap),(K w.params).In h->h.Ns mainGlobals mg->mg d.name=some (.ref fa)->
   ∃ fd:FuncData,(∀ (s:Shared) (u:Value),BindsTo s fd ⟨[u],[]⟩ [(x,u)])/\
    ∀ base:Heap,(K w.params).In base->base.Ns mainGlobals mg->FnOk l.prog w (K w.params) mg base (CX w) k fa fd [x] (sp w))
  (hsp:∀ (w:World) (H:Hp) (a:Addr) (ns:List Int),ns.length<=n->Only H->SqL (K w.params) H a (ns.map V.int)->sp w [.ref a] H (fun v _=>v= .bl true) fun _ _ _=>False)
  (hCX:∀ (w:World) (H:Hp) (s:Shared) (e:Value) (s':Shared),CX w [] H s (fun _ _ _=>False) e s'->False) (him:importsNone q=true):
  PySem.W.WalkO q loose XP YP l.row.toRowW d [] (fun f vs=>PySem.call f vs):=by
 refine Att.attach_call hn hdf fun w s₀ s₁ mg mb fa o pm cd doc a vs ns G Y ho hd hcd hmg hobj hints hlen hg=>?_
 have KX:=hY w _ Y
 obtain ⟨fd,hb,hF⟩:=F w mg fa _ KX G.T.g hmg
 exact Jo KX G.T.g G.T.b G.T.builtins G.T.nolimit (let ⟨mm,h1,_⟩:=(G.T.seer him).mods;⟨mm,h1⟩) G.T.bmain hg hobj hints (Yz hlen hn2) hr hF hb (fun H hO hS=>hsp w H a ns hlen hO hS) fun H e s'=>hCX w H s₁ e s'
def ig (s:Stmt):Arguments:=match s with
 | .FunctionDef _ a _ _ _ _ _ _ _ _=>a
 | _=>{posonlyargs:=[],args:=[],vararg:=none,kwonlyargs:=[],kw_defaults:=[],kwarg:=none,defaults:=[]}
def du (s:Stmt):List Stmt:=match s with
 | .FunctionDef _ _ b _ _ _ _ _ _ _=>b
 | _=>[]
def au (s:Stmt):Scope:=match s with
 | .FunctionDef _ _ _ _ _ _ sc _ _ _=>sc
 | _=>{kind:=.function,names:=[],isGenerator:=false,isCoroutine:=false}
abbrev GC:Gu:=fun _ _ _ _ _ _=>False
abbrev E0:XK:=fun _ _ _=>False
theorem V5 {X:Cx}:BR GC X E0:=fun _ _ _ _ _ _ _ h=>h.elim
structure Fun (K:W.Frag) (x qual:Str) (st:Stmt) (f:Addr) (fd:FuncData):Prop where
 ex:∃ (oc:Value) (od:Option Addr) (kV doc pm:Value) (an:Option Addr) (cdv ct:Value) (osl:Array (Option Value)),
  fd=PySem.W.fnOf x qual (ig st) (du st) (au st) .none kV doc pm an cdv ct/\K.lookup f=some ⟨oc,od,.func fd,osl⟩/\PySem.W.codeIn K cdv qual=true
 kp:PySem.W.keepIn K (.ref f)=true
section
variable {P:Program} {w:World} {K:W.Frag} {mg:Str->Option Value} {base:Heap}
theorem Fun.ok {x qual:Str} {st:Stmt} {f:Addr} {fd:FuncData} {N ps:List Str} {k:Nat} {sp:Sp} (F:Fun K x qual st f fd) (S:aG N ps (au st)) (len:∀ vs H Q E,sp vs H Q E->vs.length=ps.length)
  (hbody:∀ (cdv:Value) (A:Around) (outer:List Env) (s:Shared) (H:Hp) (vs:List V) (Q:VK) (E:XK),Room k (A.deeper (envOfC qual (au st) s.heap.objs.size f cdv))->sp vs H Q E->
   ∃ t,PSs (qF GC P w K mg base N qual (au st) f cdv A outer s H E).nox (du st) t/\t {nx:=fun _ H'=>Q .non H',rt:=Q} (start N vs) H):FnOk P w K mg base GC (k+1) f fd ps sp:=by
 obtain ⟨oc,od,kV,doc,pm,an,cdv,ct,osl,rfl,lk,hcd⟩:=F.ex
 refine Jd lk hcd S len fun A outer s H vs Q E hr hsp=>?_
 obtain ⟨t,h,q⟩:=hbody cdv A outer s H vs Q E hr hsp
 exact ⟨t,h.nox,q⟩
theorem Fun.binds {x qual:Str} {st:Stmt} {f:Addr} {fd:FuncData} {ps:List Str} (F:Fun K x qual st f fd)
  (h:∀ (kV doc pm:Value) (an:Option Addr) (cdv ct:Value) (us:List Value),us.length=ps.length->bindArgs (PySem.W.fnOf x qual (ig st) (du st) (au st) .none kV doc pm an cdv ct) ⟨us,[]⟩=pure (ps.zip us)):Binds K fd ps []:=by
 obtain ⟨oc,od,kV,doc,pm,an,cdv,ct,osl,rfl,lk,hcd⟩:=F.ex
 exact .all (h kV doc pm an cdv ct)
theorem Ca {x qual:Str} {st:Stmt} {f:Addr} {oc:Value} {od an:Option Addr} {osl:Array (Option Value)} {kV doc pm cdv ct:Value} (l:K.lookup f=some ⟨oc,od,.func (PySem.W.fnOf x qual (ig st) (du st) (au st) .none kV doc pm an cdv ct),osl⟩)
  (c:PySem.W.codeIn K cdv qual=true) (k:PySem.W.keepIn K (.ref f)=true):Fun K x qual st f (PySem.W.fnOf x qual (ig st) (du st) (au st) .none kV doc pm an cdv ct):=⟨⟨oc,od,kV,doc,pm,an,cdv,ct,osl,rfl,l,c⟩,k⟩
end
theorem ir {A B:Prop} (h:B):if false=true then A else B:=by
 rw [if_neg Yb]
 exact h
theorem gP {A B:Prop} (h:A):if true=true then A else B:=by
 rw [if_pos rfl]
 exact h
def Same (H H':Hp):Prop:=∀ b o,H b=some o->H' b=some o
theorem Same.refl (H:Hp):Same H H:=fun _ _ h=>h
theorem Same.trans {H H1 H2:Hp} (a:Same H H1) (b:Same H1 H2):Same H H2:=fun c o h=>b c o (a c o h)
theorem Same.free {H H':Hp} (e:Same H H') {l:Addr} (h:H' l=Option.none):H l=Option.none:=by
 cases q:H l with
 | none=>rfl
 | some o=>
  rw [e l o q] at h
  cases h
theorem Same.seq {K:W.Frag} {H H':Hp} {a:Addr} {xs:List V} (e:Same H H') (h:SqL K H a xs):SqL K H' a xs:=by
 rcases h with (h | ⟨o,h⟩) | h
 ·exact .inl (.inl (e _ _ h))
 ·exact .inl (.inr ⟨o,e _ _ h⟩)
 ·exact .inr h
end L2
set_option maxHeartbeats 4000000
namespace L2
open PySem PySem.Spec PyProof.Rows
def uG (env:Env):List (Str×NameKind)->List (Str×Addr)->List (Str×Addr)
 | [],acc=>acc
 | (n,k) :: r,acc=>uG env r (if k == .free then (match env.cells.lookup n with | some c=>(n,c) :: acc | none=>acc) else acc)
theorem vq {env:Env}:∀ {names:List (Str×NameKind)} {acc:List (Str×Addr)},(∀ x c,(x,c)∈acc->env.cells.lookup x=some c)->∀ x c,(x,c)∈uG env names acc->env.cells.lookup x=some c
 | [],_,h,x,c,m=>h x c m
 | (n,k) :: r,acc,h,x,c,m=>by
  refine vq (names:=r) ?_ x c m
  intro y d hm
  cases hk:(k == NameKind.free) with
  | false=>rw [hk] at hm;exact h y d hm
  | true=>
   rw [hk] at hm
   simp only [if_true] at hm
   cases e:env.cells.lookup n with
   | none=>rw [e] at hm;exact h y d hm
   | some c'=>
    rw [e] at hm
    rcases X7.mp hm with z | z
    ·cases z;exact e
    ·exact h y d z
theorem zK {env:Env}:∀ {names:List (Str×NameKind)} {acc:List (Str×Addr)} {p:Str×Addr},p∈acc->p∈uG env names acc
 | [],_,_,h=>h
 | (n,k) :: r,acc,p,h=>by
  refine zK (names:=r) ?_
  split
  ·split
   ·exact Yi _ h
   ·exact h
  ·exact h
theorem vy {env:Env} {x:Str} {c:Addr} (e:env.cells.lookup x=some c):∀ {names:List (Str×NameKind)} {acc:List (Str×Addr)},(x,NameKind.free)∈names->(x,c)∈uG env names acc
 | [],_,h=>by simp at h
 | (n,k) :: r,acc,h=>by
  rcases X7.mp h with z | z
  ·cases z
   refine zK (names:=r) ?_
   rw [e]
   simp
  ·exact vy e (names:=r) z
theorem wD {l:List (Str×Addr)} {x:Str} {c:Addr} (hm:(x,c)∈l) (ha:∀ d,(x,d)∈l->d=c):l.lookup x=some c:=by
 induction l with
 | nil=>simp at hm
 | cons p r ih=>
  obtain ⟨n,d⟩:=p
  by_cases e:x=n
  ·subst e
   have:d=c:=ha d (by simp)
   subst this
   simp [Yr]
  ·have hb:(x == n)=false:=by simpa using e
   rw [Yr,hb]
   refine ih ?_ fun d' h'=>ha d' (Yi _ h')
   rcases X7.mp hm with z | z
   ·cases z;exact absurd rfl e
   ·exact z
theorem zL {env:Env} {names:List (Str×NameKind)} {x:Str} {c:Addr} (e:env.cells.lookup x=some c) (h:(x,NameKind.free)∈names):(uG env names []).lookup x=some c:=
 wD (vy e h) fun d hd=>by
  have q:=vq (names:=names) (acc:=[]) (env:=env) (by simp) x d hd
  rw [e] at q
  exact (Ym q).symm
theorem GD {env:Env} {names:List (Str×NameKind)} {x:Str} {c:Addr} (e:(uG env names []).lookup x=some c):env.cells.lookup x=some c:=
 vq (names:=names) (acc:=[]) (env:=env) (by simp) x c (YS e)
theorem qG {env:Env}:∀ (names:List (Str×NameKind)) (acc:List (Str×Addr)),(∀ x∈names,x.2=NameKind.free->∃ c,env.cells.lookup x.1=some c)->
  (forIn (m:=Sem) names acc fun x r=>match x with
   | (name,kind)=>if (kind == NameKind.free)=true then do let c ← cellOf env name;pure (ForInStep.yield ((name,c) :: r)) else pure (ForInStep.yield r))=pure (uG env names acc)
 | [],acc,_=>rfl
 | (n,k) :: r,acc,h=>by
  rw [List.forIn_cons]
  cases hk:(k == NameKind.free) with
  | false=>
   simp only [hk,Z6,if_false,pure_bind,uG]
   exact qG r acc fun x hx=>h x (Yi _ hx)
  | true=>
   obtain ⟨c,e⟩:=h (n,k) Yw (by simpa using hk)
   simp only [hk,if_true,pure_bind,uG,cellOf,e]
   exact qG r ((n,c) :: acc) fun x hx=>h x (Yi _ hx)
theorem qp {scope:Scope} {env:Env} (h:∀ x∈scope.names,x.2=NameKind.free->∃ c,env.cells.lookup x.1=some c):closureFor scope env=pure (uG env scope.names []):=by
 unfold closureFor
 have:=qG (env:=env) scope.names [] h
 simp only [this,pure_bind]
theorem xx {prog:Program} {w:World} {A:Around} {R:Result->Shared->Prop} {s:Shared} {elt target iter:Expr} {ifs:List Expr} {scope:Scope} {pos:Pos} {it acc:Value} {env:Env} (I:Nat->Shared->Prop)
  (turn:∀ n s,I n s->wpAny (model prog w) A (pyNext it) (fun r s₁=>match r with
   | none=>R (.ok .next) s₁
   | some v=>wpAny (model prog w) A (letOwnedTupleGo target it v) (fun _ s₁'=>wpAny (model prog w) A (assign target env v) (fun _ s₂=>
     wpAny (model prog w) A (forIn ifs true fun c r=>if r=true then do let ok ← isTrue c env (eval c env);pure (ForInStep.yield ok) else pure (ForInStep.yield r)) (fun ok s₃=>
      if ok=true then wpAny (model prog w) A (eval elt env) (fun x s₄=>
       wpAny (model prog w) A (call (.builtin "list.append") [acc,x]) (fun _ s₅=>∃ m,m < n/\I m s₅) (fun _ _=>False) s₄) (fun _ _=>False) s₃
      else ∃ m,m < n/\I m s₃) (fun _ _=>False) s₂) (fun _ _=>False) s₁') (fun _ _=>False) s₁) (fun _ _=>False) s)
  (n:Nat) (h:I n s):
  codeAny (model prog w) A (.compLoop (.ListComp elt [⟨target,iter,ifs,0⟩] scope pos) 0 it acc env) R s:=by
 refine codeAny_loop rfl I (fun n s hI=>?_) n h
 show wpAny _ A ((compTurn (.ListComp elt [⟨target,iter,ifs,0⟩] scope pos) 0 it acc env).onRaise (fun x=>do noteFrame x env;theTreesLotGoes x)) _ _ s
 refine wpAny_noted ?_
 rw [compTurn_list]
 refine XJ (wpAny_standAt (XJ (YK (turn n s hI) (fun r s₁ h₁=>?_) fun _ _ h'=>h'.elim)))
 cases r with
 | none=>exact XS h₁
 | some v=>
  refine XJ (YK h₁ (fun _ s₁' h₁'=>?_) fun _ _ h'=>h'.elim)
  refine XJ (YK h₁' (fun _ s₂ h₂=>XJ (YK h₂ (fun ok s₃ h₃=>?_) fun _ _ h'=>h'.elim)) fun _ _ h'=>h'.elim)
  cases ok with
  | false=>exact XS ⟨rfl,h₃⟩
  | true=>
   exact XJ (XJ (YK h₃ (fun x s₄ h₄=>XJ (YK h₄ (fun _ s₅ h₅=>XS (XS ⟨rfl,h₅⟩)) fun _ _ h'=>h'.elim)) fun _ _ h'=>h'.elim))
theorem fV:∀ (names:List (Str×NameKind)) (n:Nat) (acc:List (Str×Addr)),cellsFrom n names acc=cellsFrom n names [] ++ acc
 | [],_,_=>rfl
 | (x,k) :: r,n,acc=>by
  unfold cellsFrom
  split
  ·rw [fV r (n+1) ((x,n) :: acc),fV r (n+1) [(x,n)],Aaa];rfl
  ·exact fV r n acc
theorem rE {α:Type}:∀ {A B:List (Str×α)} {x:Str},(A ++ B).lookup x=(match A.lookup x with | some c=>some c | none=>B.lookup x)
 | [],_,_=>rfl
 | (y,c) :: A,B,x=>by
  rw [List.cons_append,Yr,Yr]
  cases x == y with
  | true=>rfl
  | false=>exact rE (A:=A)
theorem vz:∀ {names:List (Str×NameKind)} {n:Nat} {acc:List (Str×Addr)} {x:Str} {c:Addr},(x,c)∈cellsFrom n names acc->(x,c)∈acc\/(x,NameKind.cell)∈names
 | [],_,_,_,_,h=>.inl h
 | (y,k) :: r,n,acc,x,c,h=>by
  unfold cellsFrom at h
  split at h
  ·rename_i hk
   rcases vz h with z | z
   ·rcases X7.mp z with z | z
    ·cases z
     have:k= .cell:=by simpa using hk
     rw [this];exact .inr Yw
    ·exact .inl z
   ·exact .inr (Yi _ z)
  ·exact (vz h).imp id (Yi _)
theorem rF {α:Type}:∀ {l:List (Str×α)} {x:Str} {c:α},(x,c)∈l->∃ d,l.lookup x=some d
 | (y,d) :: r,x,c,h=>by
  by_cases e:x=y
  ·subst e;exact ⟨d,by simp [Yr]⟩
  ·have hb:(x == y)=false:=by simpa using e
   rw [Yr,hb]
   rcases X7.mp h with z | z
   ·cases z;exact absurd rfl e
   ·exact rF z
theorem rG:∀ {names:List (Str×NameKind)} {n:Nat} {acc:List (Str×Addr)} {x:Str},(x,NameKind.cell)∈names\/(∃ c,(x,c)∈acc)->∃ c,(x,c)∈cellsFrom n names acc
 | [],_,_,_,h=>h.elim (fun h=>by simp at h) id
 | (y,k) :: r,n,acc,x,h=>by
  unfold cellsFrom
  split
  ·refine rG ?_
   rcases h with h | ⟨c,h⟩
   ·rcases X7.mp h with z | z
    ·cases z;exact .inr ⟨n,Yw⟩
    ·exact .inl z
   ·exact .inr ⟨c,Yi _ h⟩
  ·rename_i hk
   refine rG ?_
   rcases h with h | h
   ·rcases X7.mp h with z | z
    ·cases z;exact absurd (by decide) hk
    ·exact .inl z
   ·exact .inr h
def GF (X:Cx) (scope:Scope) (C:Addr):List (Str×Addr):=cellsFrom (C+1) scope.names (uG X.env scope.names [])
section
variable {M:Model} {A:Around} {E:Value->Shared->Prop} {s:Shared}
theorem iZ {scope:Scope} {globals:Addr} {cl:List (Str×Addr)} {qual:Str} {env:Env} {Q:Env->Shared->Prop}
  (hQ:∀ h':Heap,h'.Ns s.heap.objs.size (fun _=>none)->(∀ b o,s.heap.get? b=some o->h'.get? b=some o)->CellsOk h' (s.heap.objs.size+1) (cellsFrom (s.heap.objs.size+1) scope.names [])->
   Q (newEnv scope s.heap.objs.size globals (cellsFrom (s.heap.objs.size+1) scope.names cl) qual none .none (some env) builtinsNs) {s with heap:=h',toks:=s.toks+([]:List (Str×Value)).length}):
  wpAny M A (newFunctionEnv scope globals cl [] qual none .none (some env)) Q E s:=by
 simp only [newFunctionEnv,Option.isSome_some,if_true]
 refine XJ (wpAny_alloc ?_)
 refine XJ (wpAny_layCells _ (fun name kind cells=>by cases hkc:kind == NameKind.cell <;> simp [hkc]) _ _ _ _ ?_)
 have ok:=cellsFrom_ok scope.names (s.heap.push {cls:=.type "dict",data:=.dict #[]}) (s.heap.objs.size+1) [] ⟨fun _ _ hm=>(nomatch hm),List.Pairwise.nil⟩ (by rw [YW];exact XQ _)
 rw [YW] at ok
 rw [show ({s with heap:=s.heap.push {cls:=.type "dict",data:=.dict #[]}}:Shared).heap.objs.size=s.heap.objs.size+1 from YW ..]
 exact XJ (XS (XS (hQ _ ((Heap.Ns.new s.heap (.type "dict")).keeps (pushCells_keeps _ _)) (fun b o e=>pushCells_keeps _ _ b o (XN _ e)) ok)))
end
def p8 (X:Cx) (N':List Str) (scope:Scope) (C:Addr) (s₀:Shared) (H₀:Hp) (ex:List Addr):Cx:=
 {X with N:=N',s₀:=s₀,H₀:=H₀,env:=compEnvC scope (GF X scope C) C X.env,outer:=X.stack,ex:=ex,fn:=fun x=>decide (scope.names.lookup x=some .cell),pn:=[],xe:=fun _ _=>False}
def fX (sub:List (Option Nat)) (U:St):St:=sub.map fun o=>o.bind fun j=>(U[j]?).join
structure qt (N:List Str) (sc:Scope) (N':List Str) (scope:Scope) (sub:List (Option Nat)):Prop where
 kind:scope.kind= .function
 cel:∀ x∈scope.names,x.2= .cell->scope.names.lookup x.1=some .cell
 loc:∀ x∈scope.names,x.2= .local->scope.names.lookup x.1=some .local
 free:∀ x∈scope.names,x.2= .free->sc.names.lookup x.1=some .cell\/sc.names.lookup x.1=some .free
 len:sub.length=N'.length
 at_:∀ (i j:Nat) (x:Str),sub[i]?=some (some j)->N'[i]?=some x->N[j]?=some x/\(x,NameKind.free)∈scope.names/\scope.names.lookup x=some .free
def Jp (N:List Str) (sc:Scope) (N':List Str) (scope:Scope) (sub:List (Option Nat)):Bool:=
 decide (scope.kind= .function) && scope.names.all (fun x=>decide (x.2= .cell->scope.names.lookup x.1=some .cell)) && scope.names.all (fun x=>decide (x.2= .local->scope.names.lookup x.1=some .local)) &&
 scope.names.all (fun x=>decide (x.2= .free->sc.names.lookup x.1=some .cell\/sc.names.lookup x.1=some .free)) && decide (sub.length=N'.length) &&
 (List.range sub.length).all fun i=>match sub[i]?,N'[i]? with
  | some (some j),some x=>decide (N[j]?=some x/\(x,NameKind.free)∈scope.names/\scope.names.lookup x=some .free)
  | _,_=>true
theorem cY {N:List Str} {sc:Scope} {N':List Str} {scope:Scope} {sub:List (Option Nat)} (h:Jp N sc N' scope sub=true):qt N sc N' scope sub:=by
 simp only [Jp,Yg,Aab,Zi] at h
 obtain ⟨⟨⟨⟨⟨h1,h2⟩,h3⟩,h4⟩,h5⟩,h6⟩:=h
 refine ⟨h1,h2,h3,h4,h5,fun i j x e1 e2=>?_⟩
 have hi:i < sub.length:=(XM.mp e1).1
 have q:=h6 i (YC.mpr hi)
 rw [e1,e2] at q
 simpa using q
def Jq:TT:=fun _ H Q=>Q true H
def yq (X:Cx) (ifs:List Expr) (t:TT):Prop:=
 ∀ (pins:List (Addr×Obj)) (s:Shared) (U:St) (H:Hp) (Q:Bool->Hp->Prop),Inv X pins U H s->t U H Q->
  wpAny (model X.prog X.w) X.A (forIn ifs true fun c r=>if r=true then do let ok ← isTrue c X.env (eval c X.env);pure (ForInStep.yield ok) else pure (ForInStep.yield r)) (TP X pins U Q) X.xe s
theorem Jr {X:Cx}:yq X [] Jq:=fun _ _ _ H _ I h=>wpAny_tests_nil ⟨H,I,h⟩
theorem Js {X:Cx} {c:Expr} {t:TT} (hc:PT X c t):yq X [c] t:=fun pins s U H Q I h=>wpAny_tests_one (hc pins s U H Q I h)
def KeepSt (U U':St):Prop:=U'.length=U.length/\∀ (i:Nat) (v:V),U[i]?=some (some v)->U'[i]?=some (some v)
theorem KeepSt.set {U:St} {i:Nat} {v:V} (h:U[i]?=some none):KeepSt U (U.set i (some v)):=by
 refine ⟨by simp,fun j u e=>?_⟩
 by_cases hj:i=j
 ·subst hj;rw [h] at e;cases e
 ·rw [Zf hj];exact e
theorem KeepSt.trans {σ1 σ2 σ3:St} (a:KeepSt σ1 σ2) (b:KeepSt σ2 σ3):KeepSt σ1 σ3:=⟨b.1.trans a.1,fun i v e=>b.2 i v (a.2 i v e)⟩
def vA (sub:List (Option Nat)) (wi:TI) (g:TG) (tt:TT) (te:TE):TE:=fun U H Q=>wi U H fun J H1=>∃ W:Nat->Nat->List V->Hp->Prop,(∃ m,W 0 m [] H1)/\∀ i m ys H,W i m ys H->
 (J.stop i H/\ys.length<=sizeLine/\∀ D,H D=none->Q (.ref D) (upd H D (.lst ys)))\/
 (J.go i H/\ys.length < sizeLine/\∃ N:List V->Hp->Prop,(∀ ys' H',N ys' H'->∃ m',m' < m/\W (i+1) m' ys' H')/\
  ∀ x H',J.yld i H x H'->g x (fX sub U) H' fun σ2 H2=>KeepSt (fX sub U) σ2/\tt σ2 H2 fun b H3=>if b=true then te σ2 H3 fun y H4=>N (ys ++ [y]) H4 else N ys H3)
theorem nJ {scope:Scope} {env:Env} {x:Str} (hx:scope.names.lookup x=some .free):(relabel scope env).names.lookup x=some .cell\/(relabel scope env).names.lookup x=some .free:=by
 have:∀ names:List (Str×NameKind),names.lookup x=some .free->
  (names.map fun (n,k)=>if (k == NameKind.free && env.scope.kind == .function && env.kindOf n == some .cell) then (n,NameKind.cell) else (n,k)).lookup x=some .cell\/
  (names.map fun (n,k)=>if (k == NameKind.free && env.scope.kind == .function && env.kindOf n == some .cell) then (n,NameKind.cell) else (n,k)).lookup x=some .free:=by
  intro names
  induction names with
  | nil=>intro h;simp at h
  | cons p r ih=>
   obtain ⟨n,k⟩:=p
   intro h
   by_cases e:x=n
   ·subst e
    have hk:k= .free:=by simpa [Yr] using h
    subst hk
    by_cases hc:((NameKind.free == NameKind.free && env.scope.kind == .function && env.kindOf x == some .cell)=true)
    ·left;simp only [Ys];rw [if_pos hc];simp [Yr]
    ·right;simp only [Ys];rw [if_neg hc];simp [Yr]
   ·have hb:(x == n)=false:=by simpa using e
    rw [Yr,hb] at h
    have q:=ih h
    simp only [Ys]
    split <;> (rw [Yr,hb];exact q)
 exact this scope.names hx
theorem yr {scope:Scope} {env:Env} {x:Str} (h:(relabel scope env).names.lookup x=some .cell\/(relabel scope env).names.lookup x=some .free):(x,NameKind.cell)∈scope.names\/(x,NameKind.free)∈scope.names:=by
 have key:∀ k,(k=NameKind.cell\/k=NameKind.free)->(relabel scope env).names.lookup x=some k->(x,NameKind.cell)∈scope.names\/(x,NameKind.free)∈scope.names:=by
  intro k hk hl
  have hm:=YS hl
  unfold relabel at hm
  obtain ⟨⟨n,k'⟩,hm1,hm2⟩:=YZ.mp hm
  dsimp only at hm2
  by_cases hc:(k' == NameKind.free && env.scope.kind == .function && env.kindOf n == some .cell)=true
  ·rw [if_pos hc] at hm2
   cases hm2
   simp only [Yg,ZF] at hc
   rw [← hc.1.1];exact .inr hm1
  ·rw [if_neg hc] at hm2
   cases hm2
   rcases hk with hk | hk
   ·subst hk;exact .inl hm1
   ·subst hk;exact .inr hm1
 rcases h with h | h
 ·exact key _ (.inl rfl) h
 ·exact key _ (.inr rfl) h
theorem rH {scope:Scope} {env:Env} {x:Str} (hx:scope.names.lookup x=some .cell):(relabel scope env).names.lookup x=some .cell:=by
 have:∀ names:List (Str×NameKind),names.lookup x=some .cell->
  (names.map fun (n,k)=>if (k == NameKind.free && env.scope.kind == .function && env.kindOf n == some .cell) then (n,NameKind.cell) else (n,k)).lookup x=some .cell:=by
  intro names
  induction names with
  | nil=>intro h;simp at h
  | cons p r ih=>
   obtain ⟨n,k⟩:=p
   intro h
   by_cases e:x=n
   ·subst e
    have hk:k= .cell:=by simpa [Yr] using h
    subst hk
    simp only [Ys]
    split <;> simp [Yr]
   ·have hb:(x == n)=false:=by simpa using e
    rw [Yr,hb] at h
    have q:=ih h
    simp only [Ys]
    split <;> (rw [Yr,hb];exact q)
 exact this scope.names hx
section
variable {X:Cx} {tg iter elt:Expr} {ifs:List Expr} {scope:Scope} {pos:Pos} {N':List Str} {sub:List (Option Nat)} {wi:TI} {g:TG} {tt:TT} {te:TE}
theorem xF {pins:List (Addr×Obj)} {U:St} {H:Hp} {s:Shared} {fp:List Addr} {D:Addr} {h':Heap} {tk:Nat} {N:List Str} {sc:Scope} (S:qt N sc N' scope sub) (hN:X.N=N) (hsc:X.env.scope=sc) (I:Inv X pins U H s) (hf:∀ b∈fp,mR X pins H b) (hfo:∀ b∈fp,b < s.heap.objs.size)
  (hD:D < s.heap.objs.size) (fD:mR X pins H D) (hns:h'.Ns s.heap.objs.size fun _=>none) (hk:∀ b o,s.heap.get? b=some o->h'.get? b=some o) (hc:CellsOk h' (s.heap.objs.size+1) (cellsFrom (s.heap.objs.size+1) scope.names [])):
  Inv (p8 X N' scope s.heap.objs.size s H (D :: fp)) [] (fX sub U) H {s with heap:=h',toks:=tk}:=by
 have hex:∀ b∈D :: fp,mR X pins H b/\b < s.heap.objs.size:=fun b hb=>by
  rcases X7.mp hb with rfl | z
  ·exact ⟨fD,hD⟩
  ·exact ⟨hf b z,hfo b z⟩
 have spl:∀ {x c},(GF X scope s.heap.objs.size).lookup x=some c->(h'.IsCell c none/\s.heap.objs.size+1<=c/\(x,c)∈cellsFrom (s.heap.objs.size+1) scope.names [])\/(X.env.cells.lookup x=some c/\∃ o,s.heap.get? c=some o):=fun {x c} h=>by
  unfold GF at h
  rw [fV,rE] at h
  cases e:(cellsFrom (s.heap.objs.size+1) scope.names []).lookup x with
  | some d=>
   rw [e] at h
   cases h
   have m:=YS e
   exact .inl ⟨(hc.empty _ _ m).1,(hc.empty _ _ m).2,m⟩
  | none=>
   rw [e] at h
   have z:=GD h
   obtain ⟨v,o,ho,_⟩:=I.cell x c z
   exact .inr ⟨z,o,ho⟩
 have fre:∀ {x c},(x,NameKind.free)∈scope.names->scope.names.lookup x=some .free->X.env.cells.lookup x=some c->(GF X scope s.heap.objs.size).lookup x=some c:=fun {x c} h1 h2 h3=>by
  unfold GF
  rw [fV,rE]
  cases e:(cellsFrom (s.heap.objs.size+1) scope.names []).lookup x with
  | some d=>
   rcases vz (YS e) with z | z
   ·cases z
   ·have:=S.cel _ z rfl
    rw [h2] at this;cases this
  | none=>exact zL h3 h1
 refine ⟨⟨I.ok.mod,S.kind,I.ok.glob,I.ok.blt,XQ _,fun x y c h1 h2=>?_,fun x hx=>?_,fun x c hx h=>?_,I.ok.hd,I.ok.frames,.inl rfl,fun b hb=>?_,I.bs,Yz I.ok.bsz I.sz,fun b o e hb=>?_,fun b hb=>?_,I.stack,I.stkFree⟩,
  rfl,I.bare,Un.kept hk,⟨_,hns,fun i x v h1 h2 h3=>?_⟩,fun x c h=>?_,I.hok.fresh (XQ _),fun x c h=>?_,fun p hp=>(nomatch hp),I.hok.kept hk,?_⟩
 ·rcases spl h1 with ⟨_,l1,m1⟩ | ⟨z1,o1,q1⟩ <;> rcases spl h2 with ⟨_,l2,m2⟩ | ⟨z2,o2,q2⟩
  ·exact PySem.name_of_addr hc.apart m1 m2
  ·exact absurd (Yd (X5 q2) (ZZ l1)) (Zd _)
  ·exact absurd (Yd (X5 q1) (ZZ l2)) (Zd _)
  ·exact I.ok.inj x y c z1 z2
 ·rcases yr hx with z | z
  ·obtain ⟨c,m⟩:=rG (n:=s.heap.objs.size+1) (acc:=uG X.env scope.names []) (.inl z)
   exact rF m
  ·obtain ⟨c,e⟩:=I.ok.has x (by have:=S.free _ z rfl;rw [← hsc] at this;exact this)
   show ∃ c,(GF X scope s.heap.objs.size).lookup x=some c
   unfold GF
   rw [fV]
   exact rF (c:=c) (YH _ (vy e z))
 ·have hx':scope.names.lookup x=some .cell:=by simpa [p8] using hx
  rcases spl h with ⟨_,l,_⟩ | ⟨z,o,q⟩
  ·exact ZZ l
  ·exfalso
   have m:(x,NameKind.cell)∈scope.names:=YS hx'
   obtain ⟨d,md⟩:=rG (n:=s.heap.objs.size+1) (acc:=[]) (.inl m)
   obtain ⟨d',e'⟩:=rF md
   have h:(GF X scope s.heap.objs.size).lookup x=some c:=h
   unfold GF at h
   rw [fV,rE,e'] at h
   cases h
   exact absurd (Yd (X5 q) (ZZ (hc.empty _ _ (YS e')).2)) (Zd _)
 ·obtain ⟨⟨f0,f1,f2,f3,f4,f5⟩,hlt⟩:=hex b hb
  refine ⟨Yy hlt,fun x c h=>?_⟩
  rcases spl h with ⟨_,l,_⟩ | ⟨z,_⟩
  ·exact fun z=>absurd (Yd hlt (ZZ (z ▸ l))) (Zd _)
  ·exact f4 x c z
 ·obtain ⟨⟨f0,f1,f2,f3,f4,f5⟩,hlt⟩:=hex b hb
  rcases f3 with z | z
  ·exact I.ok.noex b o e z
  ·exact absurd (Yd (X5 (I.ok.bs b o e).1) z) (Zd _)
 ·obtain ⟨⟨f0,f1,f2,f3,f4,f5⟩,hlt⟩:=hex b hb
  intro z
  rcases X7.mp (I.stkSub b z) with z | z
  ·exact f1 z
  ·exact f2 z
 ·have hs:∃ j,sub[i]?=some (some j)/\U[j]?=some (some v):=by
   unfold fX at h2
   rw [XX] at h2
   cases e:sub[i]? with
   | none=>rw [e] at h2;cases h2
   | some o=>
    rw [e] at h2
    cases o with
    | none=>cases h2
    | some j=>
     refine ⟨j,rfl,?_⟩
     have h3:(U[j]?).join=some v:=Ym h2
     cases e2:U[j]? with
     | none=>rw [e2] at h3;cases h3
     | some z=>rw [e2] at h3;cases z with
      | none=>cases h3
      | some z=>cases h3;rfl
  obtain ⟨j,e1,e2⟩:=hs
  obtain ⟨g1,g2,g3⟩:=S.at_ i j x e1 h1
  rw [← hN] at g1
  obtain ⟨m,hn,hl⟩:=I.loc
  have hkf:X.env.kindOf x=some .cell\/X.env.kindOf x=some .free:=by have:=S.free _ g2 rfl;rw [← hsc] at this;exact this
  have hvis:Xn X.env.scope x:=by
   rcases hkf with z | z
   ·exact .inr (.inl z)
   ·exact .inr (.inr z)
  obtain ⟨u,r,l⟩:=hl j x v g1 e2 hvis
  refine ⟨u,r,.inr ⟨nJ g3,?_⟩⟩
  rcases l with ⟨k,_⟩ | ⟨_,c,e,o,ho,hd⟩
  ·have k':X.env.kindOf x=some .local:=k
   rcases hkf with z | z <;> (rw [k'] at z;cases z)
  ·exact ⟨c,fre g2 g3 e,o,hk _ _ ho,hd⟩
 ·rcases spl h with ⟨z,_⟩ | ⟨z,_⟩
  ·exact ⟨_,z⟩
  ·obtain ⟨v,o,ho,hd⟩:=I.cell x c z
   exact ⟨v,o,hk _ _ ho,hd⟩
 ·rcases spl h with ⟨_,l,_⟩ | ⟨z,_⟩
  ·exact I.hok.fresh (ZZ l)
  ·exact I.freeC x c z
 ·show (fX sub U).length=N'.length
  unfold fX
  rw [X8]
  exact S.len
theorem Ef {N:List Str} {sc:Scope} (S:qt N sc N' scope sub) (hc:X.calm=true) (hN:X.N=N) (hsc:X.env.scope=sc) (hi:PI X tg iter wi)
  (hg:∀ (C:Addr) (s₀:Shared) (H₀:Hp) (ex:List Addr),PG (p8 X N' scope C s₀ H₀ ex) tg g)
  (ht:∀ (C:Addr) (s₀:Shared) (H₀:Hp) (ex:List Addr),yq (p8 X N' scope C s₀ H₀ ex) ifs tt)
  (he:∀ (C:Addr) (s₀:Shared) (H₀:Hp) (ex:List Addr),PE (p8 X N' scope C s₀ H₀ ex) elt te)
  (hs:autoParam (∀ x,foldedSetIterable iter X.env x=pure x) L2.auto3._auto_1):
  PE X (.ListComp elt [⟨tg,iter,ifs,0⟩] scope pos) (vA sub wi g tt te):=by
 intro pins s U H Q I h
 rw [eval_ListComp]
 have hcl:∀ x∈scope.names,x.2=NameKind.free->∃ c,X.env.cells.lookup x.1=some c:=fun x hx hk=>I.ok.has x.1 (by have:=S.free x hx hk;rw [← hsc] at this;exact this)
 refine wpAny_comprehension_free (use:=none) rfl hs (qp hcl) S.kind S.loc ?_
 refine fU (hi pins s U H _ I h) fun v s1 h1=>fU h1 fun itv s2 h2=>?_
 obtain ⟨it,fp,tn,J,H2,e,I2,T,st2,f2,W,⟨m0,w0⟩,turn⟩:=h2
 subst e
 refine Y6 (iZ fun h₁ hns₁ hk31 hcl₁=>?_)
 dsimp only at hns₁ hk31 hcl₁ ⊢
 generalize hs3:({s2 with heap:=s2.heap.push {cls:=.type "list",dict:=none,data:=.seq ([]:List Value).toArray}}:Shared)=s3
 have e3:s2.heap.push {cls:=.type "list",dict:=none,data:=.seq ([]:List Value).toArray}=s3.heap:=by rw [← hs3]
 rw [e3] at hns₁ hk31 hcl₁ ⊢
 have hD3:s3.heap.get? s2.heap.objs.size=some {cls:=.type "list",dict:=none,data:=.seq ([]:List Value).toArray}:=by rw [← e3];exact X4 _ rfl
 have I3:Inv X pins U H2 s3:=by
  rw [← hs3]
  exact I2.kept (t':=s2.toks) fun b o e=>XN _ e
 have k23:∀ b o,s2.heap.get? b=some o->s3.heap.get? b=some o:=fun b o e=>by rw [← e3];exact XN _ e
 have hsz:s3.heap.objs.size=s2.heap.objs.size+1:=by rw [← e3,YW]
 have hDn:H2 s2.heap.objs.size=none:=I2.hok.fresh (XQ _)
 have fD:mR X pins H2 s2.heap.objs.size:=I2.fpOk (XQ _) hDn
 have hfo:∀ b∈fp,b < s2.heap.objs.size:=fun b hb=>let ⟨o,e,_⟩:=T.obj _ _ st2 b hb;X5 e
 have hDfp:s2.heap.objs.size ∉ fp:=fun z=>absurd (hfo _ z) (Zd _)
 have I4:=xF (tk:=s3.toks+([]:List (Str×Value)).length) S hN hsc I3 f2 (fun b hb=>by rw [hsz];exact Nat.lt_succ_of_lt (hfo b hb)) (D:=s2.heap.objs.size) (by rw [hsz];exact Z3 _) fD hns₁ hk31 hcl₁
 have stat:∀ {H':Hp} {ob:Obj},(∀ b∈fp,H' b=none)->∀ b∈fp,mR (p8 X N' scope s3.heap.objs.size s3 H2 (s2.heap.objs.size :: fp)) [(s2.heap.objs.size,ob)] H' b:=fun {H' ob} hn b hb=>by
  obtain ⟨q1,q2⟩:=I4.ok.exf b (Yi _ hb)
  refine ⟨hn b hb,q1,I4.ok.exfs b (Yi _ hb),.inl (Yi _ hb),q2,fun p hp z=>?_⟩
  have hp':p=(s2.heap.objs.size,ob):=by simpa [p8] using hp
  subst hp'
  have z':s2.heap.objs.size=b:=z
  exact hDfp (by rw [z'];exact hb)
 generalize hXC:p8 X N' scope s3.heap.objs.size s3 H2 (s2.heap.objs.size :: fp)=XC at I4 stat
 have eP:XC.prog=X.prog:=by rw [← hXC];rfl
 have eW:XC.w=X.w:=by rw [← hXC];rfl
 have eK:XC.K=X.K:=by rw [← hXC];rfl
 have eA:XC.A=X.A:=by rw [← hXC];rfl
 have eE:XC.env=compEnvC scope (GF X scope s3.heap.objs.size) s3.heap.objs.size X.env:=by rw [← hXC];rfl
 have eC:XC.calm=true:=by rw [← hXC];exact hc
 have eX:XC.xe=fun _ _=>False:=by rw [← hXC];rfl
 have eH:XC.H₀=H2:=by rw [← hXC];rfl
 have eS:XC.s₀=s3:=by rw [← hXC];rfl
 have eF:XC.fs=frs X.stack:=by rw [← hXC];rfl
 have eEx:XC.ex=s2.heap.objs.size :: fp:=by rw [← hXC];rfl
 have ePn:XC.pn=[]:=by rw [← hXC];rfl
 have hgC:PG XC tg g:=by rw [← hXC];exact hg _ _ _ _
 have htC:yq XC ifs tt:=by rw [← hXC];exact ht _ _ _ _
 have heC:PE XC elt te:=by rw [← hXC];exact he _ _ _ _
 have pinD:∀ {U':St} {H':Hp} {s':Shared} {ob:Obj},Inv XC [] U' H' s'->H' s2.heap.objs.size=none->s'.heap.get? s2.heap.objs.size=some ob->(∀ v,ob.data≠.cell v)->Inv XC [(s2.heap.objs.size,ob)] U' H' s':=fun {U' H' s' ob} J hn hg hd=>
  J.pins_of fun p hp=>by
   have hp':p=(s2.heap.objs.size,ob):=by simpa using hp
   subst hp'
   refine ⟨hg,hn,(J.ok.exf _ (by rw [eEx];exact Yw)).1,J.ok.exfs _ (by rw [eEx];exact Yw),hd⟩
 have loop:codeAny (model X.prog X.w) X.A (.compLoop (.ListComp elt [⟨tg,iter,ifs,0⟩] scope pos) 0 (.ref it) (.ref s2.heap.objs.size) (compEnvC scope (GF X scope s3.heap.objs.size) s3.heap.objs.size X.env))
   (compPost (model X.prog X.w) X.A X.xe none (EP X pins U Q) (.ref s2.heap.objs.size) s3.heap.objs.size) {s3 with heap:=h₁,toks:=s3.toks+([]:List (Str×Value)).length}:=by
  refine xx (fun n s'=>∃ (i:Nat) (ys:List V) (its:List Value) (nn:Nat) (H':Hp),Inv XC [] (fX sub U) H' s'/\tn i s'.heap/\(∀ b∈fp,H' b=none)/\H' s2.heap.objs.size=none/\
   s'.heap.get? s2.heap.objs.size=some {cls:=.type "list",data:=.seq its.toArray nn}/\Vals ys its/\W i n ys H') ?_ m0
   ⟨0,[],[],_,H2,I4,T.keep _ _ _ st2 fun b _ o e=>hk31 b o (k23 b o e),fun b hb=>(f2 b hb).1,hDn,hk31 _ _ hD3,.nil,w0⟩
  rintro n s4 ⟨i,ys,its,nn,H4,J4,st4,fr4,dn4,dg4,rv4,w4⟩
  have P4:=pinD J4 dn4 dg4 (fun v z=>by cases z)
  rcases turn i n ys H4 w4 with ⟨stop,hyl,qn⟩ | ⟨go,hyl,N,hN,step⟩
  ·have hdone:=T.done XC eP eW eK eC i _ s4 _ H4 (fun _ _=>False) P4 (stat fr4) st4 stop
   rw [eA] at hdone
   refine YK hdone (fun r s5 ⟨hr,I5⟩=>?_) fun _ _ z=>z
   subst hr
   obtain ⟨m,hn,_⟩:=id I5.loc
   have hCe:XC.env.locals=s3.heap.objs.size:=by rw [eE];rfl
   rw [hCe] at hn
   refine ⟨m,hn,fun h6 hs6=>?_⟩
   have hDg:=(I5.pin (s2.heap.objs.size,_) (by rw [ePn];exact Yw)).1
   have hDne:s2.heap.objs.size≠s3.heap.objs.size:=by rw [hsz];exact Yy (Z3 _)
   have hHC:H4 s3.heap.objs.size=none:=by have:=I5.free;rw [hCe] at this;exact this
   have k56:∀ b o,b≠s3.heap.objs.size->s5.heap.get? b=some o->h6.get? b=some o:=fun b o hb e=>hs6.extBut b o hb e
   have un:=I5.base
   rw [eF,eEx,eH,eS] at un
   have nC:∀ b o,s3.heap.get? b=some o->b≠s3.heap.objs.size:=fun b o e=>Yy (X5 e)
   have hok6:HOk X.prog X.w (upd H4 s2.heap.objs.size (.lst ys)) h6:=by
    have h5:=I5.hok
    rw [eP,eW] at h5
    have Mm:∀ b u,H4 b=some u->b≠s3.heap.objs.size:=fun b u e z=>by rw [z,hHC] at e;cases e
    intro b u e
    by_cases hb:b=s2.heap.objs.size
    ·subst hb
     rw [aj] at e;cases e
     exact ⟨hyl,its,nn,rv4,k56 _ _ hDne hDg⟩
    ·rw [aD hb] at e
     have nD:∀ c u,H4 c=some u->c≠s2.heap.objs.size:=fun c u e z=>by rw [z,dn4] at e;cases e
     refine (h5 b u e).stay (fun c v hc' q=>k56 c v ?_ q) (fun c q=>by rw [aD (nD c _ q)];exact q) fun c xs q=>by rw [aD (nD c _ q)];exact q
     rcases hc' with z | z
     ·rw [z];exact Mm b u e
     ·exact Mm c _ z
   have nD2:∀ c u,H4 c=some u->c≠s2.heap.objs.size:=fun c u e z=>by rw [z,dn4] at e;cases e
   have un6:Un (frs X.stack) (s2.heap.objs.size :: fp) H2 (upd H4 s2.heap.objs.size (.lst ys)) s3.heap h6:=
    ⟨fun b o e nn' hb hx=>k56 b o (nC b o e) (un.keep b o e nn' hb hx),fun b o e nn' hb hx=>let ⟨sl,q⟩:=un.slot b o e nn' hb hx;⟨sl,k56 b _ (nC b o e) q⟩,
     fun b o e nn' hx=>by rw [aD (fun z=>hx (by rw [z];exact Yw))];exact un.free b o e nn' hx,
     fun b o e hx=>let ⟨o',q⟩:=un.there b o e hx;⟨o',k56 b o' (nC b o e) q⟩,
     fun b xs e=>by have q:=un.tups b xs e;rw [aD (nD2 b _ q)];exact q,
     fun b o u e=>by have q:=un.frzs b o u e;rw [aD (nD2 b _ q)];exact q,
     fun b ps e=>let ⟨more,q⟩:=un.tbls b ps e;⟨more,by rw [aD (nD2 b _ q)];exact q⟩⟩
   have I6:Inv X pins U (upd H4 s2.heap.objs.size (.lst ys)) {s5 with heap:=h6}:=by
    refine I3.call' (s':={s5 with heap:=h6}) (ch:=s2.heap.objs.size :: fp) ?_ un6 hok6 I5.bare fun b hb=>?_
    ·show s5.os=s3.os
     have:=I5.os
     rw [eS] at this
     exact this
    ·have q:mR X pins H2 b:=by
      rcases X7.mp hb with rfl | z
      ·exact fD
      ·exact f2 b z
     obtain ⟨f0,f1,f2',f3,f4,f5⟩:=q
     exact ⟨f3,f1,f4,f5⟩
   exact ⟨.ref s2.heap.objs.size,_,I6,rfl,qn _ dn4⟩
  ·have hitem:=T.item XC eP eW eK eC i _ s4 _ H4 (fun _ _=>False) P4 (stat fr4) st4 go
   rw [eA] at hitem
   refine YK hitem (fun r s5 ⟨u,hr,h5⟩=>?_) fun _ _ z=>z
   subst hr
   dsimp only
   refine YK h5 (fun _ s6 ⟨x,H6,I6,r6,y6,st6,fr6⟩=>?_) fun _ _ z=>z
   have P6:=I6.pinned (stat fr6) (T.obj _ _ st6)
   rw [← eE,← eP,← eW,← eA]
   refine YK (hgC _ s6 _ H6 x u _ P6 r6 (step x H6 y6)) (fun _ s7 ⟨σ7,H7,I7,kp7,q7⟩=>?_) fun _ _ z=>by rw [eX] at z;exact z
   refine YK (htC _ s7 σ7 H7 _ I7 q7) (fun ok s8 ⟨H8,I8,q8⟩=>?_) fun _ _ z=>by rw [eX] at z;exact z
   have fin:∀ {H9:Hp} {s9:Shared},Inv XC ([(s2.heap.objs.size,({cls:=.type "list",data:=.seq its.toArray nn}:Obj))] ++ sH fp s6.heap) σ7 H9 s9->Inv XC [] (fX sub U) H9 s9/\tn (i+1) s9.heap/\(∀ b∈fp,H9 b=none)/\H9 s2.heap.objs.size=none/\
     s9.heap.get? s2.heap.objs.size=some {cls:=.type "list",data:=.seq its.toArray nn}:=fun {H9 s9} J=>by
    have pD:=J.pin (s2.heap.objs.size,({cls:=.type "list",data:=.seq its.toArray nn}:Obj)) (by rw [ePn];simp)
    have pF:∀ b∈fp,∀ o,s6.heap.get? b=some o->s9.heap.get? b=some o/\H9 b=none:=fun b hb o e=>by
     have q:=J.pin (b,o) (by rw [ePn];exact YH _ (YH _ (nH hb e)))
     exact ⟨q.1,q.2.1⟩
    refine ⟨?_,T.keep _ _ _ st6 fun b hb o e=>(pF b hb o e).1,fun b hb=>?_,pD.2.1,pD.1⟩
    ·have J0:Inv XC [] σ7 H9 s9:=J.pins_of fun p hp=>nomatch hp
     exact J0.weak kp7.1.symm fun j v e=>kp7.2 j v e
    ·obtain ⟨o,e,_⟩:=T.obj _ _ st6 b hb
     exact (pF b hb o e).2
   cases ok with
   | false=>
    rw [if_neg (by simp)]
    rw [if_neg (by simp)] at q8
    obtain ⟨m',hm,w8⟩:=hN _ _ q8
    obtain ⟨a1,a2,a3,a4,a5⟩:=fin I8
    exact ⟨m',hm,i+1,ys,its,nn,H8,a1,a2,a3,a4,a5,rv4,w8⟩
   | true=>
    rw [if_pos rfl]
    rw [if_pos rfl] at q8
    refine YK (heC _ s8 σ7 H8 _ I8 q8) (fun xv s9 ⟨y,H9,I9,r9,n9⟩=>?_) fun _ _ z=>by rw [eX] at z;exact z
    obtain ⟨m',hm,w9⟩:=hN _ _ n9
    obtain ⟨a1,a2,a3,a4,a5⟩:=fin I9
    refine wpAny_list_append_plain (items:=its.toArray) ⟨nn,a5⟩ (fun h' ⟨n',hp'⟩ sb=>?_) (by simp;rw [← rv4.length];omega)
    obtain ⟨q1,q2⟩:=I4.ok.exf s2.heap.objs.size (by rw [eEx];exact Yw)
    have a1':Inv XC [] (fX sub U) H9 {s9 with heap:=h'}:=a1.turned (t':=s9.toks) (fun b o hb e=>(sb.2 b hb).trans e) a4 q1 (.inl (by rw [eEx];exact Yw)) q2 (fun p hp=>by rw [ePn] at hp;exact nomatch hp)
    refine ⟨m',hm,i+1,ys ++ [y],its ++ [xv],n',H9,a1',T.keep _ _ _ a2 fun b hb o e=>(sb.2 b (fun z=>hDfp (by rw [← z];exact hb))).trans e,a3,a4,?_,rv4.append (.cons r9 .nil),w9⟩
    rw [hp']
    simp
 subst hs3
 exact codeAny_compStart_list loop (T.self _ 0 _ _ _ (T.keep _ _ _ st2 fun b _ o e=>hk31 b o (k23 b o e)) loop)
end
abbrev uw (sub:List (Option Nat)) (g:TG) (tt:TT) (te:TE) (U:St) (Q:VK) (J:It) (H1:Hp):Prop:=∃ W:Nat->Nat->List V->Hp->Prop,(∃ m,W 0 m [] H1)/\∀ i m ys H,W i m ys H->
 (J.stop i H/\ys.length<=sizeLine/\∀ D,H D=none->Q (.ref D) (upd H D (.lst ys)))\/
 (J.go i H/\ys.length < sizeLine/\∃ N:List V->Hp->Prop,(∀ ys' H',N ys' H'->∃ m',m' < m/\W (i+1) m' ys' H')/\
  ∀ x H',J.yld i H x H'->g x (fX sub U) H' fun σ2 H2=>KeepSt (fX sub U) σ2/\tt σ2 H2 fun b H3=>if b=true then te σ2 H3 fun y H4=>N (ys ++ [y]) H4 else N ys H3)
theorem yt {sub:List (Option Nat)} {g:TG} {tt:TT} {te:TE} {U:St} {Q:VK} {J:It} {H:Hp} {n:Nat} (Pv:Nat->List V->Hp->Prop) (hn:n<=sizeLine) (h0:Pv 0 [] H) (hl:∀ i ys H,Pv i ys H->ys.length<=i)
  (hgo:∀ i ys H,i < n->Pv i ys H->J.go i H) (hstop:∀ ys H,Pv n ys H->J.stop n H)
  (hs:∀ i ys H x H',i < n->Pv i ys H->J.yld i H x H'->g x (fX sub U) H' fun σ2 H2=>KeepSt (fX sub U) σ2/\tt σ2 H2 fun b H3=>if b=true then te σ2 H3 fun y H4=>Pv (i+1) (ys ++ [y]) H4 else Pv (i+1) ys H3)
  (hd:∀ ys H,Pv n ys H->∀ D,H D=none->Q (.ref D) (upd H D (.lst ys))):uw sub g tt te U Q J H:=by
 refine ⟨fun i m ys H=>m=n - i/\i<=n/\Pv i ys H,⟨n,by simp,YT _,h0⟩,?_⟩
 rintro i m ys H ⟨rfl,hi,p⟩
 have hl':=hl i ys H p
 by_cases hlt:i < n
 ·exact .inr ⟨hgo i ys H hlt p,by omega,fun ys' H'=>Pv (i+1) ys' H',fun ys' H' p'=>⟨n - (i+1),by omega,rfl,hlt,p'⟩,fun x H' y=>hs i ys H x H' hlt p y⟩
 ·have e:i=n:=by omega
  subst e
  exact .inl ⟨hstop ys H p,by omega,hd ys H p⟩
section
variable {κ:Type} [DecidableEq κ]
def lg (kvs:List (κ×V)) (k:κ):Option V:=(kvs.find? fun kv=>decide (kv.1=k)).map (·.2)
def putK (kvs:List (κ×V)) (k:κ) (v:V):List (κ×V):=
 if (kvs.any fun kv=>decide (kv.1=k))=true then kvs.map (fun kv=>if kv.1=k then (kv.1,v) else kv) else kvs ++ [(k,v)]
theorem zM {k:κ}:lg ([]:List (κ×V)) k=none:=rfl
theorem gQ {p:κ×V} {r:List (κ×V)} {k:κ} (e:p.1=k):lg (p :: r) k=some p.2:=by simp [lg,Z9,e]
theorem gU {p:κ×V} {r:List (κ×V)} {k:κ} (e:¬ p.1=k):lg (p :: r) k=lg r k:=by simp [lg,Z9,e]
theorem rJ (k:κ):∀ kvs:List (κ×V),(kvs.any fun kv=>decide (kv.1=k))=(lg kvs k).isSome
 | []=>rfl
 | p :: r=>by
  rw [Aap]
  by_cases e:p.1=k
  ·simp only [gQ e,Yj e,Bool.true_or,Option.isSome_some]
  ·rw [gU e,Yl e,Bool.false_or];exact rJ k r
theorem zN (k j:κ) (y:V):∀ kvs:List (κ×V),lg (kvs.map fun kv=>if kv.1=k then (kv.1,y) else kv) j=(lg kvs j).map fun x=>if j=k then y else x
 | []=>rfl
 | p :: r=>by
  have ih:=zN k j y r
  rw [Ys]
  by_cases h:p.1=k
  ·rw [if_pos h]
   by_cases e:p.1=j
   ·rw [gQ (p:=(p.1,y)) e,gQ e,Option.map_some,if_pos (e.symm.trans h)]
   ·rw [gU (p:=(p.1,y)) e,gU e,ih]
  ·rw [if_neg h]
   by_cases e:p.1=j
   ·rw [gQ (p:=p) e,gQ e,Option.map_some,if_neg (fun z=>h (e.trans z))]
   ·rw [gU (p:=p) e,gU e,ih]
theorem xG (k j:κ) (y:V):∀ kvs:List (κ×V),lg kvs k=none->lg (kvs ++ [(k,y)]) j=if j=k then some y else lg kvs j
 | [],_=>by
  by_cases e:k=j
  ·rw [if_pos e.symm];exact gQ (p:=(k,y)) e
  ·rw [if_neg (fun z=>e z.symm)];exact gU (p:=(k,y)) e
 | p :: r,hn=>by
  rw [List.cons_append]
  have hk:¬ p.1=k:=fun z=>by rw [gQ z] at hn;cases hn
  rw [gU hk] at hn
  have ih:=xG k j y r hn
  by_cases e:p.1=j
  ·rw [gQ e,gQ e,if_neg (fun z=>hk (e.trans z))]
  ·rw [gU e,gU e,ih]
theorem zO (kvs:List (κ×V)) (k j:κ) (y:V):lg (putK kvs k y) j=if j=k then some y else lg kvs j:=by
 unfold putK
 by_cases a:(kvs.any fun kv=>decide (kv.1=k))=true
 ·rw [if_pos a,zN]
  rw [rJ] at a
  by_cases e:j=k
  ·obtain ⟨x,hx⟩:=Option.isSome_iff_exists.mp a
   rw [if_pos e,e,hx,Option.map_some,if_pos rfl]
  ·rw [if_neg e]
   cases lg kvs j with
   | none=>rfl
   | some x=>rw [Option.map_some,if_neg e]
 ·rw [if_neg a]
  refine xG k j y kvs ?_
  rw [rJ] at a
  cases q:lg kvs k with
  | none=>rfl
  | some x=>rw [q] at a;exact (a rfl).elim
theorem lU (kvs:List (κ×V)) (k:κ) (v:V):(putK kvs k v).length<=kvs.length+1:=by
 unfold putK
 split
 ·rw [X8];omega
 ·rw [Za,Y5,List.length_nil];omega
theorem RelO.isSome_eq {o:Option V} {u:Option Value} (r:RelO o u):o.isSome=u.isSome:=by
 cases o with
 | none=>cases u with
  | none=>rfl
  | some _=>exact (show False from r).elim
 | some _=>cases u with
  | none=>exact (show False from r).elim
  | some _=>rfl
theorem KV.val {kvs:List (κ×V)} {vs:List (κ×Value)} (r:KV kvs vs) (k:κ):RelO (lg kvs k) (valueAt vs k):=by
 unfold KV at r
 induction r with
 | nil=>exact True.intro
 | @cons p q ps qs h t ih=>
  obtain ⟨h1,h2⟩:=h
  by_cases e:p.1=k
  ·have e':q.1=k:=h1.symm.trans e
   have b:valueAt (q :: qs) k=some q.2:=by simp [valueAt,Z9,e']
   rw [gQ e,b];exact h2
  ·have e':¬ q.1=k:=fun z=>e (h1.trans z)
   have b:valueAt (q :: qs) k=valueAt qs k:=by simp [valueAt,Z9,e']
   rw [gU e,b];exact ih
theorem KV.any {kvs:List (κ×V)} {vs:List (κ×Value)} (r:KV kvs vs) (k:κ):(kvs.any fun kv=>decide (kv.1=k))=vs.any fun kv=>decide (kv.1=k):=by
 unfold KV at r
 induction r with
 | nil=>rfl
 | cons h t ih=>rw [Aap,Aap,ih,h.1]
theorem KV.repl {kvs:List (κ×V)} {vs:List (κ×Value)} (r:KV kvs vs) (k:κ) {y:V} {u:Value} (ry:RelV y u):
  KV (kvs.map fun kv=>if kv.1=k then (kv.1,y) else kv) (vs.map fun kv=>if kv.1=k then (kv.1,u) else kv):=by
 unfold KV at r ⊢
 induction r with
 | nil=>exact .nil
 | @cons p q ps qs h t ih=>
  rw [Ys,Ys]
  refine .cons ?_ ih
  obtain ⟨h1,h2⟩:=h
  by_cases e:p.1=k
  ·rw [if_pos e,if_pos (h1.symm.trans e)];exact ⟨h1,ry⟩
  ·rw [if_neg e,if_neg (fun z=>e (h1.trans z))];exact ⟨h1,h2⟩
theorem KV.put {kvs:List (κ×V)} {vs:List (κ×Value)} (r:KV kvs vs) (k:κ) {y:V} {u:Value} (ry:RelV y u):KV (putK kvs k y) (stored vs k u):=by
 unfold putK stored
 rw [r.any k]
 by_cases e:(vs.any fun kv=>decide (kv.1=k))=true
 ·rw [if_pos e,if_pos e];exact r.repl k ry
 ·rw [if_neg e,if_neg e];exact Paired.snoc r ⟨rfl,ry⟩
theorem KV.length {kvs:List (κ×V)} {vs:List (κ×Value)} (r:KV kvs vs):kvs.length=vs.length:=Paired.length r
end
theorem Jt {P:Program} {w:World} {k:Key} {u:Value} (r:RelV (kV k) u):(fG P w).is k u=true:=by
 cases k with
 | inl i=>obtain ⟨t,e⟩:=(show ∃ t,u=Value.int i t from r);subst e;exact zA P w i t
 | inr x=>obtain ⟨t,e⟩:=(show ∃ t,u=Value.str x t from r);subst e;exact zB P w x t
theorem xH {P:Program} {w:World}:∀ {ks:List Key} {us:List Value},Vals (ks.map kV) us->ItemsAre (fG P w) ks us
 | [],_,r=>by rw [List.map_nil] at r;cases r;exact .nil
 | k :: ks,_,r=>by
  rw [Ys] at r
  cases r with
  | cons h t=>exact .cons (Jt h) (xH t)
abbrev KT (H:Hp):List (List Key×V)->List (List Key×Addr×Value)->Prop:=Paired fun p q=>p.1=q.1/\H q.2.1=some (.tup (p.1.map kV))/\RelV p.2 q.2.2
theorem KT.val {H:Hp} {kvs:List (List Key×V)} {xs:List (List Key×Addr×Value)} (r:KT H kvs xs) (k:List Key):RelO (lg kvs k) ((atKey xs k).map (·.2)):=by
 induction r with
 | nil=>exact True.intro
 | @cons p q ps qs h t ih=>
  obtain ⟨h1,_,h2⟩:=h
  by_cases e:p.1=k
  ·have e':q.1=k:=h1.symm.trans e
   have b:atKey (q :: qs) k=some q.2:=by simp [atKey,Z9,e']
   rw [gQ e,b];exact h2
  ·have e':¬ q.1=k:=fun z=>e (h1.trans z)
   have b:atKey (q :: qs) k=atKey qs k:=by simp [atKey,Z9,e']
   rw [gU e,b];exact ih
theorem KT.repl {H:Hp} {kvs:List (List Key×V)} {xs:List (List Key×Addr×Value)} (r:KT H kvs xs) (k:List Key) {y:V} {u:Value} (ry:RelV y u):
  KT H (kvs.map fun kv=>if kv.1=k then (kv.1,y) else kv) (xs.map (putAt k u)):=by
 induction r with
 | nil=>exact .nil
 | @cons p q ps qs h t ih=>
  rw [Ys,Ys]
  refine .cons ?_ ih
  obtain ⟨h1,h2,h3⟩:=h
  unfold putAt
  by_cases e:p.1=k
  ·rw [if_pos e,if_pos (h1.symm.trans e)];exact ⟨h1,h2,ry⟩
  ·rw [if_neg e,if_neg (fun z=>e (h1.trans z))];exact ⟨h1,h2,h3⟩
theorem KT.put {H:Hp} {kvs:List (List Key×V)} {xs:List (List Key×Addr×Value)} (r:KT H kvs xs) (k:List Key) {b:Addr} {y:V} {u:Value} (hb:H b=some (.tup (k.map kV))) (ry:RelV y u):
  KT H (putK kvs k y) (storedH xs k b u):=by
 have e:(kvs.any fun kv=>decide (kv.1=k))=(atKey xs k).isSome:=by
  rw [rJ,(r.val k).isSome_eq,Option.isSome_map]
 unfold putK storedH
 rw [e]
 by_cases q:(atKey xs k).isSome=true
 ·rw [if_pos q,if_pos q];exact r.repl k ry
 ·rw [if_neg q,if_neg q];exact Paired.snoc r ⟨rfl,hb,ry⟩
theorem KT.keeps {H H':Hp} {kvs:List (List Key×V)} {xs:List (List Key×Addr×Value)} (r:KT H kvs xs) (ht:∀ b ys,H b=some (.tup ys)->H' b=some (.tup ys)):KT H' kvs xs:=
 Paired.mapP r fun _ _ z=>⟨z.1,ht _ _ z.2.1,z.2.2⟩
section
variable {P:Program} {w:World} {H:Hp} {h:Heap} {a:Addr}
theorem QH {u:HO} (ok:HOk P w H h) (e:Rd H a u):ObjOk P w H h a u:=e.ok ok
theorem QJ {kvs:List (Key×V)} (ok:HOk P w H h) (e:Rd H a (.dK kvs)):kvs.length<=sizeLine/\(a == sysModules)=false/\∃ vs,KV kvs vs/\h.DictOf (fG P w) a vs:=
 show ObjOk P w H h a (.dK kvs) from QH ok e
theorem V6 {kvs:List (Key×V)} (ok:HOk P w H h) (e:H a=some (.dK kvs)):kvs.length<=sizeLine/\(a == sysModules)=false/\∃ vs,KV kvs vs/\h.DictOf (fG P w) a vs:=QJ ok (.inl e)
theorem Cd {ks:List Key} (ok:HOk P w H h) (e:H a=some (.tup (ks.map kV))):(tupleKind (fG P w)).is h ks a:=by
 obtain ⟨_,its,r,o,h1,h2,n,h3⟩:=(show ObjOk P w H h a (.tup (ks.map kV)) from ok a _ e)
 exact ⟨o,its.toArray,n,h1,h2,h3,by simpa using xH r⟩
theorem QK {kvs:List (List Key×V)} (ok:HOk P w H h) (e:Rd H a (.dT kvs)):kvs.length<=sizeLine/\(a == sysModules)=false/\
  ∃ xs,KT H kvs xs/\h.DictOfH (tupleKind (fG P w)) a xs:=by
 obtain ⟨z,y,xs,r,o,es,ep,h1,h2,h3,h4,h5⟩:=(show ObjOk P w H h a (.dT kvs) from QH ok e)
 refine ⟨z,y,xs,r,o,es,ep,h1,h2,h3,h4,fun x hx=>?_,h5⟩
 have all:∀ {l:List (List Key×V)} {m:List (List Key×Addr×Value)},KT H l m->∀ x∈m,(tupleKind (fG P w)).is h x.1 x.2.1:=by
  intro l m q
  induction q with
  | nil=>intro x hx;exact nomatch hx
  | @cons p q ps qs hq t ih=>
   intro x hx
   rcases X7.mp hx with e | hx
   ·subst e
    exact Cd ok (by rw [← hq.1];exact hq.2.1)
   ·exact ih x hx
 exact all r x hx
theorem V7 {kvs:List (List Key×V)} (ok:HOk P w H h) (e:H a=some (.dT kvs)):kvs.length<=sizeLine/\(a == sysModules)=false/\
  ∃ xs,KT H kvs xs/\h.DictOfH (tupleKind (fG P w)) a xs:=QK ok (.inl e)
end
def DGet (H:Hp) (a:Addr) (y:V) (r:Option V):Prop:=
 (∃ kvs k,Rd H a (.dK kvs)/\y=kV k/\r=lg kvs k)\/∃ kvs k b,Rd H a (.dT kvs)/\y= .ref b/\H b=some (.tup (k.map kV))/\r=lg kvs k
def DPut (H:Hp) (a:Addr) (y v:V) (H':Hp):Prop:=
 (∃ kvs k,H a=some (.dK kvs)/\y=kV k/\kvs.length < sizeLine/\H'=upd H a (.dK (putK kvs k v)))\/
 ∃ kvs k b,H a=some (.dT kvs)/\y= .ref b/\H b=some (.tup (k.map kV))/\kvs.length < sizeLine/\H'=upd H a (.dT (putK kvs k v))
theorem DGet.k {H:Hp} {a:Addr} {kvs:List (Key×V)} {k:Key} (e:H a=some (.dK kvs)):DGet H a (kV k) (lg kvs k):=.inl ⟨kvs,k,.inl e,rfl,rfl⟩
theorem DPut.k {H:Hp} {a:Addr} {kvs:List (Key×V)} {k:Key} {v:V} (e:H a=some (.dK kvs)) (hl:kvs.length < sizeLine):DPut H a (kV k) v (upd H a (.dK (putK kvs k v))):=.inl ⟨kvs,k,e,rfl,hl,rfl⟩
section
variable {X:Cx} {pins:List (Addr×Obj)} {U:St} {H:Hp} {s:Shared} {a:Addr} {y v:V} {u r:Value} {o:Option V} {A:Around} {E:Value->Shared->Prop}
theorem Inv.big (I:Inv X pins U H s):sysModules < s.heap.objs.size:=by
 have h:mainGlobals < s.heap.objs.size:=(I.mod.glob.keeps I.bk).lt
 exact Nat.lt_trans (by decide) h
theorem d_in {Q:Value->Shared->Prop} (hu:A.units+1 < cLine) (I:Inv X pins U H s) (g:DGet H a y o) (ry:RelV y u) (h:∀ s',Inv X pins U H s'->Q (.bool o.isSome) s'):
  wpAny (model X.prog X.w) A (compareOp .In u (.ref a)) Q E s:=by
 rcases g with ⟨kvs,k,e,ey,l⟩ | ⟨kvs,k,b,e,ey,eb,l⟩
 ·subst ey
  obtain ⟨z,hd,vs,rel,dd⟩:=QJ I.hok e
  refine wpAny_in_of (Jt ry) hd dd.mapOf ?_
  rw [← (rel.val k).isSome_eq,← l]
  exact h _ (I.tok _)
 ·subst ey
  cases (show u=Value.ref b from ry)
  obtain ⟨z,hd,xs,rel,dd⟩:=QK I.hok e
  refine wpAny_in_heap (tupleKind_room_in1 hu) (Cd I.hok eb) hd dd ?_
  have q:=(rel.val k).isSome_eq
  rw [Option.isSome_map] at q
  rw [← q,← l]
  exact h _ (I.tok _)
theorem Eg {h':Heap} {t':Nat} {ob:HO} (I:Inv X pins U H s) (mu:Vu (H a)) (hs:Heap.SameBut a s.heap h') (he:∃ q,h'.get? a=some q) (new:ObjOk X.prog X.w (upd H a ob) h' a ob):
  Inv X pins U (upd H a ob) {s with heap:=h',toks:=t'}:=
 I.write (x:=a) (e:=a) mu (.inl rfl) (fun b q hb z=>(hs.2 b hb).trans z) he new
theorem Sx {P:Program} {w:World} {H':Hp} {h':Heap} {kvs:List (Key×V)} {vs:List (Key×Value)} (z:kvs.length<=sizeLine) (hd:(a == sysModules)=false) (rel:KV kvs vs) (dd:h'.DictOf (fG P w) a vs):
  ObjOk P w H' h' a (.dK kvs):=⟨z,hd,vs,rel,dd⟩
theorem GJ {H':Hp} {Q:Unit->Shared->Prop} (hu:A.units+1 < cLine) (I:Inv X pins U H s) (g:DPut H a y v H') (ry:RelV y u) (rv:RelV v r) (h:∀ s',Inv X pins U H' s'->Q () s'):
  wpAny (model X.prog X.w) A (setItem (.ref a) u r) Q E s:=by
 rcases g with ⟨kvs,k,e,ey,l,eH⟩ | ⟨kvs,k,b,e,ey,eb,l,eH⟩
 ·subst ey eH
  obtain ⟨z,hd,vs,rel,dd⟩:=V6 I.hok e
  have hz:vs.length<=sizeLine:=by rw [← rel.length];exact z
  have hl:(putK kvs k v).length<=sizeLine:=by have:=lU kvs k v;omega
  refine wpAny_setItem_pairs (hsz:=hz) (Jt ry) dd fun h' dd' hs=>h _ ?_
  have he:∃ q,h'.get? a=some q:=let ⟨q,_,_,hq,_⟩:=dd';⟨q,hq⟩
  exact Eg I (by rw [e];exact True.intro) hs he (Sx hl hd (rel.put k rv) dd')
 ·subst ey eH
  cases (show u=Value.ref b from ry)
  obtain ⟨z,hd,xs,rel,dd⟩:=V7 I.hok e
  have hz:xs.length<=sizeLine:=by rw [← Paired.length rel];exact z
  have hl:(putK kvs k v).length<=sizeLine:=by have:=lU kvs k v;omega
  refine wpAny_setItem_heap (hsz:=hz) (tupleKind_room_in1 hu) (Cd I.hok eb) dd fun h' dd' hs=>h _ ?_
  obtain ⟨q,es,ep,hq,h2,h3,h4,_,h5⟩:=dd'
  refine Eg I (by rw [e];exact True.intro) hs ⟨q,hq⟩ ⟨hl,hd,_,(rel.put k eb rv).keeps fun c ys ec=>?_,q,es,ep,hq,h2,h3,h4,h5⟩
  rw [aD (Vt ec e (fun z=>nomatch z))]
  exact ec
end
theorem Ju {P:Program} {w:World} {H:Hp} (h:Heap) (hb:sysModules < h.objs.size):ObjOk P w H (h.push {cls:=.type "dict",data:=.dict #[]}) h.objs.size (.dK []):=
 ⟨YT _,Y9.mpr (Ne.symm (Yy hb)),[],.nil,Heap.DictOf.new h⟩
def Ce:TE:=fun _ H Q=>∀ p,H p=none->Q (.ref p) (upd H p (.dK []))
section
variable {X:Cx} {pos:Pos}
theorem Jv:PE X (.Dict [] [] pos) Ce:=fun pins s U H Q I h=>
 wpAny_Dict_empty ⟨.ref s.heap.objs.size,_,I.laid (a:=s.heap.objs.size) (o:=.dK []) (t':=s.toks) (fun _ _ q=>XN _ q) (XQ _) (Ju s.heap I.big),rfl,h _ (I.hok.fresh (XQ _))⟩
end
def NB (x:Str):It:=⟨fun i _=>i < x.cps.size,fun i H v H'=>H'=H/\∃ c,x.cps[i]?=some c/\v= .str ⟨#[c]⟩,fun i _=>i=x.cps.size⟩
theorem zP {P:Program} {w:World} {K:W.Frag} {tg:Expr} (it:Addr) (x:Str) (t:Tok) (ty:String)
  (hty:["enumerate","zip","dict_itemiterator","dict_reverseitemiterator","odict_iterator","itertools.zip_longest","itertools.pairwise"].contains ty=false)
  (W:∀ A:Around,A.handled=none->Walks P w A it [it] [it] x.cps.size (SignAt x) fun i h=>h.IsStrIter it ty x t i)
  (hself:∀ (A:Around) (i:Nat) (s:Shared) (Q:Value->Shared->Prop) (E:Value->Shared->Prop),s.heap.IsStrIter it ty x t i->Q (.ref it) s->wpAny (model P w) A (pyIter (.ref it)) Q E s):Turn P w K tg (NB x) [it] it (fun i h=>h.IsStrIter it ty x t i) where
 mem:=by simp
 obj:=fun i h st b hb=>by
  have e:b=it:=by simpa using hb
  subst e
  obtain ⟨o,e,c,d⟩:=st
  exact ⟨o,e,fun v z=>by rw [d] at z;cases z⟩
 keep:=fun i h h' st k=>by
  obtain ⟨o,e,r⟩:=st
  exact ⟨o,k it (by simp) o e,r⟩
 item:=by
  intro X hP hw hK hc i pins s U H E I hf st hg
  subst hP hw hK
  obtain ⟨f0,f1,f2,f3,f4,f5⟩:=hf it (by simp)
  refine (W X.A (I.ok.hd hc)).item i s _ _ hg st fun v h' tk hv st' kk=>?_
  obtain ⟨c,u,e1,rfl⟩:=hv
  have I1:Inv X pins U H {s with heap:=h',toks:=tk}:=I.turned (fun b o hb e=>kk b o (by simpa using hb) e) f0 f1 f3 f4 f5
  obtain ⟨o,e,cl,d⟩:=id st'
  exact ⟨_,rfl,xf (s:={s with heap:=h',toks:=tk}) e cl d hty ⟨.str ⟨#[c]⟩,H,I1,⟨u,rfl⟩,⟨rfl,c,e1,rfl⟩,st',fun b hb=>(hf b hb).1⟩⟩
 done:=by
  intro X hP hw hK hc i pins s U H E I hf st hg
  subst hP hw hK
  obtain ⟨f0,f1,f2,f3,f4,f5⟩:=hf it (by simp)
  have hg:i=x.cps.size:=hg
  subst hg
  exact (W X.A (I.ok.hd hc)).done s _ _ st fun h' tk kk=>⟨rfl,I.turned (fun b o hb e=>kk b o (by simpa using hb) e) f0 f1 f3 f4 f5⟩
 self:=hself
section
variable {X:Cx}
theorem all_range {bs:List Bool}:(List.range bs.length).all (fun i=>bs.getD i false)=bs.all id:=by
 rw [Bool.eq_iff_iff]
 simp only [Zi,YC]
 constructor
 ·intro h b hb
  obtain ⟨i,hi,e⟩:=Aah.mp hb
  have:=h i hi
  rw [X6,XR hi] at this
  simp only [Option.getD_some] at this
  rw [← e];exact this
 ·intro h i hi
  rw [X6,XR hi]
  exact h _ (Aam hi)
theorem ux:∀ {bs:List Bool} {us:List Value} {i:Nat} {v:Value},Vals (bs.map V.bl) us->us[i]?=some v->v= .bool (bs.getD i false)
 | [],_,i,v,.nil,e=>by simp at e
 | b :: bs,_,0,v,.cons r t,e=>by simp at e;subst e;exact r
 | b :: bs,_,i+1,v,.cons r t,e=>by
  simp at e
  have:=ux (bs:=bs) t e
  simpa using this
def rAll:List V->Hp->VK->Prop:=fun xs H Q=>∃ (p:Addr) (bs:List Bool),xs=[.ref p]/\H p=some (.lst (bs.map V.bl))/\Q (.bl (bs.all id)) H
theorem o6 (hc:X.calm=true):CallR X (.builtin "all") rAll:=by
 intro pins s U H xs us Q I r h
 obtain ⟨p,bs,rfl,hp,q⟩:=h
 obtain ⟨u,rfl,ru⟩:=vals1 r
 cases ru
 obtain ⟨hz,its,n,rv,e⟩:=I.hok p _ hp
 refine call_all_walk (wpAny_pyIter_list (items:=its.toArray) ⟨_,e,rfl,n,rfl⟩ ?_)
 refine ⟨s.heap.objs.size,_,_,_,_,_,fun i=>bs.getD i false,rfl,Walks.list (A:=X.A.in1) (I.ok.hd hc) s.heap.objs.size p (Yy (X5 e)) its.toArray,⟨⟨_,X4 _ rfl,rfl,rfl⟩,⟨_,XN _ e,rfl,n,rfl⟩⟩,?_,fun h' tk hk=>?_⟩
 ·intro i v s' Q' E' hv hq
  have:=ux rv (by simpa using hv)
  subst this
  exact Ze hq
 ·have hl:its.toArray.size=bs.length:=by have:=rv.length;simpa using this.symm
  rw [hl,all_range]
  refine ⟨.bl _,H,?_,rfl,q⟩
  exact I.kept fun b o e=>hk b o (by simp;exact Yy (X5 e)) (XN _ e)
theorem vB:∀ {ys:List Str} {us:List Value},Vals (ys.map V.str) us->StrsAre us ys
 | [],_,.nil=>.nil
 | y :: ys,_,.cons r t=>by
  obtain ⟨k,e⟩:=(show ∃ t,_=Value.str y t from r)
  subst e
  exact .cons y k (vB t)
def rJoin:V->List V->Hp->VK->Prop:=fun x xs H Q=>∃ (sep:Str) (p:Addr) (ys:List Str),x= .str sep/\xs=[.ref p]/\H p=some (.lst (ys.map V.str))/\(ys.map (·.length)).sum+ys.length*sep.length<=16777216/\Q (.str (Txt.join sep ys)) H
theorem Eh:Ib X "str.join" rJoin:=by
 intro pins s U H x xs v us Q I rx r h
 obtain ⟨sep,p,ys,rfl,rfl,hp,hz,q⟩:=h
 obtain ⟨u,rfl,ru⟩:=vals1 r
 cases ru
 obtain ⟨t,rfl⟩:=rx
 obtain ⟨hz',its,n,rv,e⟩:=I.hok p _ hp
 exact join_list (items:=its.toArray) ⟨_,e,rfl,n,rfl⟩ (by simpa using vB rv) hz fun t' k=>⟨.str _,H,I.tok _,⟨_,rfl⟩,q⟩
def V8:V->Option Int->Option Int->Hp->VK->Prop:=fun v lo hi H Q=>∃ x,v= .str x/\x.length<=sizeLine/\Q (.str (Txt.slice x lo hi)) H
theorem Sy:SlR X V8:=by
 intro pins s U H x v vl vu lo hi sl Q I rx hs pl pu h
 obtain ⟨z,rfl,hz,q⟩:=h
 obtain ⟨t,rfl⟩:=rx
 refine ⟨"str",_,F.slot_str_getitem.lookup,typeIs_str _ _ _,?_⟩
 have fin:∀ (t' k:Nat),EP X pins U Q (.str (Txt.slice z lo hi) t') {s with toks:=k}:=fun t' k=>⟨.str _,H,I.tok _,⟨_,rfl⟩,q⟩
 have sz:=Yz (Txt.slice_le z lo hi) hz
 obtain ⟨o,ho,hc,hd⟩:=hs
 cases pl with
 | none=>
  cases pu with
  | none=>exact Z4 (l:=none) (u:=none) (st:=none) ⟨o,ho,hc,hd⟩ rfl (post_val_or_str ⟨sz,fin⟩)
  | int j tj=>exact Z4 (l:=none) (u:=some (j,tj)) (st:=none) ⟨o,ho,hc,hd⟩ rfl (post_val_or_str ⟨sz,fin⟩)
 | int i ti=>
  cases pu with
  | none=>exact Z4 (l:=some (i,ti)) (u:=none) (st:=none) ⟨o,ho,hc,hd⟩ rfl (post_val_or_str ⟨sz,fin⟩)
  | int j tj=>exact Z4 (l:=some (i,ti)) (u:=some (j,tj)) (st:=none) ⟨o,ho,hc,hd⟩ rfl (post_val_or_str ⟨sz,fin⟩)
def QL:R2:=fun x y H Q=>∃ i n,x= .str i/\y= .int n/\MulOk i n/\Q (.str (Txt.mul i n)) H
theorem Cg:OpR X (binaryOp .Mult) QL:=by
 intro pins s U H x y v u Q I rx ry h
 obtain ⟨i,n,rfl,rfl,hk,q⟩:=h
 obtain ⟨t,rfl⟩:=rx
 obtain ⟨t',rfl⟩:=ry
 exact SB.mul hk fun t' k=>⟨.str _,H,I.tok _,⟨_,rfl⟩,q⟩
def sgn (x:Str):List V:=x.cps.toList.map fun c=>V.str ⟨#[c]⟩
theorem GK {x:Str} {acc:Array Value} (h:ItemsOf (SignAt x) acc x.cps.size):Vals (sgn x) acc.toList:=by
 obtain ⟨h1,h2⟩:=h
 have key:∀ (l:List Nat) (a:List Value),l.length=a.length->(∀ (j:Nat) (v:Value),a[j]?=some v->∃ (c:Nat) (u:Tok),l[j]?=some c/\v=Value.str ⟨#[c]⟩ u)->Vals (l.map fun c=>V.str ⟨#[c]⟩) a:=by
  intro l
  induction l with
  | nil=>intro a hl _;cases a with
   | nil=>exact .nil
   | cons _ _=>simp at hl
  | cons c l ih=>
   intro a hl hh
   cases a with
   | nil=>simp at hl
   | cons v a=>
    obtain ⟨c',u,e1,e2⟩:=hh 0 v (by simp)
    simp at e1;subst e1
    refine .cons ⟨u,e2⟩ (ih a (by simpa using hl) fun j v' e=>?_)
    obtain ⟨c',u,e1,e2⟩:=hh (j+1) v' (by simpa using e)
    exact ⟨c',u,by simpa using e1,e2⟩
 refine key x.cps.toList acc.toList (by simp [h1]) fun j v e=>?_
 obtain ⟨c,u,e1,e2⟩:=h2 j v (by simpa using e)
 exact ⟨c,u,by simpa using e1,e2⟩
theorem zQ (hc:X.calm=true):CallR X (.type "list") (fun xs H Q=>∃ x,xs=[.str x]/\x.cps.size<=sizeLine/\∀ p,H p=none->Q (.ref p) (upd H p (.lst (sgn x)))):=by
 intro pins s U H xs us Q I r h
 obtain ⟨x,rfl,hz,q⟩:=h
 obtain ⟨u,rfl,t,rfl⟩:=vals1 r
 refine call_list_str (I.ok.hd hc) x t (hn:=hz) fun h' tk acc' c' hk hS hacc=>?_
 refine ⟨.ref s.heap.objs.size,_,I.laid (o:=.lst (sgn x)) hk (XQ _) ⟨by simp [sgn];exact hz,acc'.toList,c',GK hacc,by simpa using hS⟩,rfl,q _ I.fresh⟩
def SJ (K:W.Frag):List V->Hp->VK->Prop:=fun xs H Q=>∃ x T t b,xs=[x,.ty T]/\TyOf K H x t/\PySem.W.kitOne K t (.type T)=some b/\Q (.bl b) H
theorem Jw:CallR X (.builtin "isinstance") (SJ X.K):=by
 intro pins s U H xs us Q I r h
 obtain ⟨x,T,t,b,rfl,ty,e,q⟩:=h
 obtain ⟨u,v,rfl,ru,rv⟩:=vals2 r
 cases rv
 exact Gs I ru ty e fun tk=>⟨.bl b,H,I.tok _,rfl,q⟩
def Ci:List V->List V->Bool
 | [],[]=>true
 | x :: xs,y :: ys=>zx x y && Ci xs ys
 | _,_=>false
theorem vC:∀ (xs ys:List V),xs.length=ys.length->(List.range xs.length).all (fun j=>zx (xs.getD j .non) (ys.getD j .non))=Ci xs ys
 | [],[],_=>rfl
 | x :: xs,y :: ys,h=>by
  have ih:=vC xs ys (by simpa using h)
  rw [Y5,List.range_succ_eq_map,YQ,List.all_map]
  simp only [Ci]
  rw [← ih]
  rfl
 | [],y :: ys,h=>by simp at h
 | x :: xs,[],h=>by simp at h
theorem zR:∀ {xs ys:List V},xs.length≠ys.length->Ci xs ys=false
 | [],[],h=>absurd rfl h
 | [],y :: ys,_=>rfl
 | x :: xs,[],_=>rfl
 | x :: xs,y :: ys,h=>by simp [Ci,zR (xs:=xs) (ys:=ys) (by simpa using h)]
def V9 (K:W.Frag) (neg:Bool):R2:=fun x y H Q=>∃ a b xs ys,x= .ref a/\y= .ref b/\SqL K H a xs/\SqL K H b ys/\xs.all kZ=true/\ys.all kZ=true/\Q (.bl (if neg then !Ci xs ys else Ci xs ys)) H
theorem GP (hu:X.A.units < cLine):OpR X (compareOp .Eq) (V9 X.K false):=by
 intro pins s U H x y v u Q I rx ry h
 obtain ⟨a,b,xs,ys,rfl,rfl,ha,hb,fx,fy,q⟩:=h
 cases rx
 cases ry
 obtain ⟨its,r1,p1,z1⟩:=I.list ha
 obtain ⟨jts,r2,p2,z2⟩:=I.list hb
 have l1:its.toArray.size=xs.length:=by simpa using r1.length.symm
 have l2:jts.toArray.size=ys.length:=by simpa using r2.length.symm
 by_cases hl:xs.length=ys.length
 ·refine SeqAt.eq_listAt (e:=fun j=>zx (xs.getD j .non) (ys.getD j .non)) p1.isList p2.isList (by rw [l1,l2];exact hl) hu (fun j h1 h2=>?_) ?_
  ·have h1':j < xs.length:=by omega
   have h2':j < ys.length:=by omega
   obtain ⟨u1,e1,q1⟩:=r1.get (XR h1')
   obtain ⟨u2,e2,q2⟩:=r2.get (XR h2')
   have e1':its.toArray[j]=u1:=by
    have:=XM.mp e1
    obtain ⟨_,z⟩:=this
    simpa using z
   have e2':jts.toArray[j]=u2:=by
    have:=XM.mp e2
    obtain ⟨_,z⟩:=this
    simpa using z
   rw [e1',e2']
   have g1:xs.getD j .non=xs[j]:=by rw [X6,XR h1'];rfl
   have g2:ys.getD j .non=ys[j]:=by rw [X6,XR h2'];rfl
   show SeqAt.EqAt X.A.in1 s u1 u2 (zx (xs.getD j .non) (ys.getD j .non))
   rw [g1,g2]
   exact sW q1 q2 (Zi.mp fx _ (Aam h1')) (Zi.mp fy _ (Aam h2'))
  ·rw [l1,vC xs ys hl]
   exact ⟨.bl _,H,I,rfl,q⟩
 ·refine SeqAt.eq_list_lengthsAt p1.isList p2.isList (by rw [l1,l2];simpa using hl) hu ?_
  rw [if_neg (by simp),zR hl] at q
  exact ⟨.bl false,H,I,rfl,q⟩
end
def Def (K:W.Frag) (mg:Str->Option Value) (x:Str) (st:Stmt):Prop:=∃ f fd,Fun K x x st f fd/\mg x=some (.ref f)
theorem bc {K:W.Frag} {mg:Str->Option Value} {h:Heap} (X:K.In h) (G:h.Ns mainGlobals mg) {x:Str} {st:Stmt} {f:Addr} {oc:Value} {od an:Option Addr} {osl:Array (Option Value)} {kV doc pm cdv ct:Value}
  (a:PySem.W.nsIn K mainGlobals x=some (some (.ref f)))
  (l:K.lookup f=some ⟨oc,od,.func (PySem.W.fnOf x x (ig st) (du st) (au st) .none kV doc pm an cdv ct),osl⟩)
  (c:PySem.W.codeIn K cdv x=true) (k:PySem.W.keepIn K (.ref f)=true):Def K mg x st:=⟨f,_,Ca l c k,ZG X G a⟩
def nF (P:Program) (w:World) (K:W.Frag) (mg:Str->Option Value) (base:Heap) (k:Nat) (x:Str) (ps:List Str) (sp:Sp):Prop:=
 ∃ f fd,mg x=some (.ref f)/\PySem.W.keepIn K (.ref f)=true/\Binds K fd ps []/\FnOk P w K mg base GC k f fd ps sp
section
variable {P:Program} {w:World} {K:W.Frag} {mg:Str->Option Value} {base:Heap}
theorem SM {x:Str} {st:Stmt} {N ps:List Str} {k:Nat} {sp:Sp} (D:Def K mg x st) (S:aG N ps (au st))
  (hb:∀ (kV doc pm:Value) (an:Option Addr) (cdv ct:Value) (us:List Value),us.length=ps.length->bindArgs (PySem.W.fnOf x x (ig st) (du st) (au st) .none kV doc pm an cdv ct) ⟨us,[]⟩=pure (ps.zip us))
  (len:∀ vs H Q E,sp vs H Q E->vs.length=ps.length)
  (hbody:∀ (f:Addr) (cdv:Value) (A:Around) (outer:List Env) (s:Shared) (H:Hp) (vs:List V) (Q:VK) (E:XK),Room k (A.deeper (envOfC x (au st) s.heap.objs.size f cdv))->sp vs H Q E->
   ∃ t,PSs (qF GC P w K mg base N x (au st) f cdv A outer s H E).nox (du st) t/\t {nx:=fun _ H'=>Q .non H',rt:=Q} (start N vs) H):nF P w K mg base (k+1) x ps sp:=by
 obtain ⟨f,fd,F,hm⟩:=D
 exact ⟨f,fd,hm,F.kp,F.binds hb,F.ok S len fun cdv A outer s H vs Q E hr h=>hbody f cdv A outer s H vs Q E hr h⟩
end
section
variable {X:Cx}
theorem Jx {k:Nat} {x:Str} {ps:List Str} {sp:Sp} {p pos:Pos} {e:Expr} {es:List Expr} {t:TA} (F:nF X.prog X.w X.K X.mg X.base k x ps sp) (hr:Room k X.A) (hg:Gl X x)
  (ha:PA X (e :: es) t) (hdb:autoParam ((x == ("__debug__":Str))=false) L2.auto2._auto_1) (he:autoParam (starEach (e :: es) X.env=(false,eval e X.env) :: starEach es X.env) L2.auto4._auto_1) (hpl:autoParam ((backTo pos (starEach es X.env)).any (·.1)=false) L2.auto4._auto_1):
  PE X (.Call (.Name x p) (e :: es) [] pos) (xj sp [] E0 t):=by
 obtain ⟨f,fd,a,b,c,d⟩:=F
 exact Nr d hr hg a b c .nil V5 ha hdb he hpl
def Jy:R2:=fun x y H Q=>(∃ i j,x= .int i/\y= .int j/\Q (.int (i+j)) H)\/(∃ i j,x= .str i/\y= .str j/\i.length+j.length<=sizeLine/\Q (.str (i ++ j)) H)\/V3 x y H Q
theorem aP:OpR X (binaryOp .Add) Jy:=RQ.or (By.or Sv)
def Ei:R2:=fun x y H Q=>(∃ i j,x= .int i/\y= .int j/\CMul i j/\Q (.int (i*j)) H)\/QL x y H Q\/V4 x y H Q
theorem iR:OpR X (binaryOp .Mult) Ei:=RV.or (Cg.or Sw)
theorem Jz {x:Str} {z:Str} {pos:Pos} (hg:Gl X x) (hm:∃ t,X.mg x=some (.str z t)) (hd:autoParam ((x == ("__debug__":Str))=false) L2.auto2._auto_1):PE X (.Name x pos) (tC (.str z)):=
 let ⟨t,e⟩:=hm;yg hg e ⟨t,rfl⟩ hd
theorem JC {x:Str} {z:Int} {pos:Pos} (hg:Gl X x) (hm:∃ t,X.mg x=some (.int z t)) (hd:autoParam ((x == ("__debug__":Str))=false) L2.auto2._auto_1):PE X (.Name x pos) (tC (.int z)):=
 let ⟨t,e⟩:=hm;yg hg e ⟨t,rfl⟩ hd
theorem Wa {x:Str} {T:String} {pos:Pos} (hg:Gl X x) (hm:X.mg x=none) (hv:bootBuiltins x=some (.type T)) (hn:autoParam (x≠"__name__") L2.auto2._auto_1) (hd:autoParam ((x == ("__debug__":Str))=false) L2.auto2._auto_1):PE X (.Name x pos) (tC (.ty T)):=
 Mv hg hm hv rfl hn hd
def JD (K:W.Frag):R2:=fun x y H Q=>(∃ i j,x= .str i/\y= .str j/\Q (.bl (!(Builtin.Str.occurrences j i 0 j.length 1).isEmpty)) H)\/rIn K false x y H Q
theorem SN:OpR X (compareOp .In) (JD X.K):=Gp.or Gx
def SQ (K:W.Frag):R2:=fun x y H Q=>rEq x y H Q\/V9 K false x y H Q
theorem SX (hu:X.A.units < cLine):OpR X (compareOp .Eq) (SQ X.K):=VF.or (GP hu)
def Xq (K:W.Frag):V->Option Int->Option Int->Hp->VK->Prop:=fun x lo hi H Q=>VV K x lo hi H Q\/VL K x lo hi H Q\/V8 x lo hi H Q
theorem Tc:SlR X (Xq X.K):=Nx.or (R9.or Sy)
def NK (K:W.Frag) (tl:TE):TI:=fun U H R=>tl U H fun x H1=>(∃ a,x= .ref a/\(∃ xs,SqL K H1 a xs)/\R (Vl K a) H1)\/(∃ a,x= .ref a/\(∃ xs,SqT K H1 a xs)/\R (Vm K a) H1)\/(∃ z,x= .str z/\R (NB z) H1)
theorem Td {tg l:Expr} {tl:TE} (hl:PE X l tl):PI X tg l (NK X.K tl):=by
 intro pins s U H R I h
 refine fU (hl pins s U H _ I h) fun v s1 qq0=>?_
 obtain ⟨x,H1,I1,r1,q1⟩:=qq0
 rcases q1 with ⟨a,rfl,⟨xs,hq⟩,q⟩ | ⟨a,rfl,⟨xs,hq⟩,q⟩ | ⟨z,rfl,q⟩
 ·cases r1
  obtain ⟨its,rv,p,hz⟩:=I1.list hq
  refine wpAny_pyIter_list p.isList ?_
  refine ⟨s1.heap.objs.size,[s1.heap.objs.size],_,_,H1,rfl,I1.kept (t':=s1.toks) fun b o e=>XN _ e,Gj a _,⟨_,X4 _ rfl,rfl,rfl⟩,fun b hb=>?_,q⟩
  have e:b=s1.heap.objs.size:=by simpa using hb
  subst e
  exact I1.fpOk (XQ _) (I1.hok.fresh (XQ _))
 ·cases r1
  obtain ⟨its,rv,p,hz⟩:=I1.tuple hq
  refine wpAny_pyIter_tuple (show s1.heap.IsTuple a its.toArray from p) ?_
  refine ⟨s1.heap.objs.size,[s1.heap.objs.size],_,_,H1,rfl,I1.kept (t':=s1.toks) fun b o e=>XN _ e,Bv a _,⟨_,X4 _ rfl,rfl,rfl⟩,fun b hb=>?_,q⟩
  have e:b=s1.heap.objs.size:=by simpa using hb
  subst e
  exact I1.fpOk (XQ _) (I1.hok.fresh (XQ _))
 ·obtain ⟨t,rfl⟩:=r1
  have fin:∀ (ty:String) (T:Turn X.prog X.w X.K tg (NB z) [s1.heap.objs.size] s1.heap.objs.size (fun i h=>h.IsStrIter s1.heap.objs.size ty z t i)) (o:Obj),(s1.heap.push o).IsStrIter s1.heap.objs.size ty z t 0->PIE X pins U tg R (.ref s1.heap.objs.size) {s1 with heap:=s1.heap.push o}:=
   fun ty T o st=>⟨s1.heap.objs.size,[s1.heap.objs.size],_,_,H1,rfl,I1.kept (t':=s1.toks) fun b o e=>XN _ e,T,st,fun b hb=>by
    have e:b=s1.heap.objs.size:=by simpa using hb
    subst e
    exact I1.fpOk (XQ _) (I1.hok.fresh (XQ _)),q⟩
  cases ha:z.cps.all (· < 128)
  ·exact wpAny_pyIter_wide ha (fin "str_iterator" (zP _ z t _ (by decide) (fun A' hA=>Walks.strWide hA _ z t) fun A i s Q E st h=>wpAny_pyIter_striter_wide st h) _ ⟨_,X4 _ rfl,rfl,rfl⟩)
  ·exact wpAny_pyIter_ascii ha (fin "str_ascii_iterator" (zP _ z t _ (by decide) (fun A' hA=>Walks.strAscii hA _ z t) fun A i s Q E st h=>wpAny_pyIter_striter_ascii st h) _ ⟨_,X4 _ rfl,rfl,rfl⟩)
end
section
variable {X:Cx} {K:W.Frag}
theorem NP (hK:X.K=K):IxR X (QG K):=hK ▸ Sh
theorem Cj (hK:X.K=K):OpR X (compareOp .In) (JD K):=hK ▸ SN
theorem Te (hK:X.K=K) (hu:X.A.units < cLine):OpR X (compareOp .Eq) (SQ K):=hK ▸ SX hu
theorem NQ {tg l:Expr} {tl:TE} (hK:X.K=K) (hl:PE X l tl):PI X tg l (NK K tl):=hK ▸ Td hl
def Ck (K:W.Frag):List V->Hp->VK->Prop:=fun xs H Q=>∃ x n,xs=[x]/\VJ K x H n/\Q (.int n) H
theorem aF (hK:X.K=K):CallR X (.builtin "len") (Ck K):=hK ▸ Ja
theorem fP (hK:X.K=K):CallR X (.builtin "isinstance") (SJ K):=hK ▸ Jw
def JF (K:W.Frag):List V->Hp->VK->Prop:=fun xs H Q=>(∃ p ys,xs=[.ref p]/\(SqL K H p ys\/SqT K H p ys)/\∀ l,H l=none->Q (.ref l) (upd H l (.lst ys)))\/(∃ x,xs=[.str x]/\x.cps.size<=sizeLine/\∀ p,H p=none->Q (.ref p) (upd H p (.lst (sgn x))))
theorem vD (hK:X.K=K) (hc:X.calm=true):CallR X (.type "list") (JF K):=hK ▸ yp.or (zQ hc)
variable {o e:Expr} {es:List Expr} {to:TE} {t:TA} {name:Str} {apos cpos:Pos} {T id:String} {r:V->List V->Hp->VK->Prop}
theorem NT (hK:X.K=K) (pa:PlainAttrs T) (slot:Slot T name id) (hty:typeOf (.builtin id)=pure (.type "method_descriptor")) (hm:Ib X id r) (ho:PE X o to)
  (hbase:autoParam (attributeBase o name X.env (eval o X.env)=eval o X.env) L2.auto4._auto_1) (hline:autoParam ((apos.endLine == cpos.line)=true) L2.auto4._auto_1):PE X (.Call (.Attribute o name apos) [] [] cpos) (Jk K T r to):=by
 subst hK;exact Sq pa slot hty hm ho hbase hline
theorem Tf (hK:X.K=K) (pa:PlainAttrs T) (slot:Slot T name id) (hty:typeOf (.builtin id)=pure (.type "method_descriptor")) (hm:Ib X id r) (ho:PE X o to) (ha:PA X (e :: es) t)
  (hbase:autoParam (attributeBase o name X.env (eval o X.env)=eval o X.env) L2.auto4._auto_1)
  (hfew:((backTo cpos (starEach (e :: es) X.env)).all (fun x=>!x.1) && (backToKw cpos (keywordEach [] X.env)).all (fun x=>x.1.isSome)
   && decide ((e :: es).length+([]:List Keyword).length+(if ([]:List Keyword).isEmpty then 0 else 1) < 30))=true:=by rfl)
  (hline:autoParam ((apos.endLine == cpos.line)=true) L2.auto4._auto_1) (hs:autoParam (starEach (e :: es) X.env=(false,eval e X.env) :: starEach es X.env) L2.auto4._auto_1) (hplain:autoParam ((backTo cpos (starEach es X.env)).any (·.1)=false) L2.auto4._auto_1):
  PE X (.Call (.Attribute o name apos) (e :: es) [] cpos) (V1 K T r to t):=by
 subst hK;exact V2 pa slot hty hm ho ha hbase hfew hline hs hplain
theorem NZ {ts:List Expr} {k:Nat} {gs:Gi} {n:Nat} {pos:Pos} (hK:X.K=K) (hc:X.calm=true) (h:Vk X ts gs)
  (hn:autoParam ((assignEach ts X.env).length=n) L2.auto4._auto_1) (hst:autoParam ((assignEach ts X.env).findIdx? (·.1)=none) L2.auto4._auto_1):PG X (.Tuple ts k pos) (MN K n gs):=by
 subst hK;exact RJ hc h hn hst
end
section
variable {X:Cx} {sc scope:Scope} {N':List Str} {C:Addr} {s₀:Shared} {H₀:Hp} {ex:List Addr} {x:Str} {pos:Pos}
theorem pvL (i:Nat) (h:sc.names.lookup x=some .local) (hN:autoParam (X.N[i]?=some x) L2.auto4._auto_1) (hsc:autoParam (X.env.scope=sc) L2.auto4._auto_1) (hd:autoParam ((x == ("__debug__":Str))=false) L2.auto6._auto_1) (hcd:autoParam ((x == ("__classdict__":Str))=false) L2.auto6._auto_1):
  PE X (.Name x pos) (oY i):=yf hN (.inl (by rw [hsc];exact h)) hd hcd
theorem pvC (i:Nat) (h:sc.names.lookup x=some .cell) (hN:autoParam (X.N[i]?=some x) L2.auto4._auto_1) (hsc:autoParam (X.env.scope=sc) L2.auto4._auto_1) (hd:autoParam ((x == ("__debug__":Str))=false) L2.auto6._auto_1) (hcd:autoParam ((x == ("__classdict__":Str))=false) L2.auto6._auto_1):
  PE X (.Name x pos) (oY i):=yf hN (.inr (.inl (by rw [hsc];exact h))) hd hcd
theorem pvBL (i:Nat) (h:scope.names.lookup x=some .local) (hN:autoParam (N'[i]?=some x) L2.auto4._auto_1) (hd:autoParam ((x == ("__debug__":Str))=false) L2.auto6._auto_1) (hcd:autoParam ((x == ("__classdict__":Str))=false) L2.auto6._auto_1):
  PE (p8 X N' scope C s₀ H₀ ex) (.Name x pos) (oY i):=yf hN (.inl (lookup_relabel_local h)) hd hcd
theorem pvBF (i:Nat) (h:scope.names.lookup x=some .free) (hN:autoParam (N'[i]?=some x) L2.auto4._auto_1) (hd:autoParam ((x == ("__debug__":Str))=false) L2.auto6._auto_1) (hcd:autoParam ((x == ("__classdict__":Str))=false) L2.auto6._auto_1):
  PE (p8 X N' scope C s₀ H₀ ex) (.Name x pos) (oY i):=yf hN (by
   rcases nJ (env:=X.env) h with z | z
   ·exact .inr (.inl z)
   ·exact .inr (.inr z)) hd hcd
theorem j6 {env:Env}:∀ {names:List (Str×NameKind)} {x:Str},names.lookup x=some .globalImplicit->
  (names.map fun (n,k)=>if (k == NameKind.free && env.scope.kind == .function && env.kindOf n == some .cell) then (n,NameKind.cell) else (n,k)).lookup x=some .globalImplicit
 | [],_,h=>by simp at h
 | (n,k) :: r,x,h=>by
  have ih:=@j6 env r x
  show List.lookup x ((if (k == NameKind.free && env.scope.kind == .function && env.kindOf n == some .cell)=true then (n,NameKind.cell) else (n,k)) :: _)=_
  cases hx:x == n with
  | true=>
   simp only [Yr,hx] at h
   cases h
   simp [Yr,hx]
  | false=>
   simp only [Yr,hx] at h
   by_cases hc:(k == NameKind.free && env.scope.kind == .function && env.kindOf n == some .cell)=true
   ·rw [if_pos hc];simp only [Yr,hx];exact ih h
   ·rw [if_neg hc];simp only [Yr,hx];exact ih h
theorem Ej (h:scope.names.lookup x=some .globalImplicit):Gl (p8 X N' scope C s₀ H₀ ex) x:=j6 h
theorem pgB (i:Nat) (h:scope.names.lookup x=some .local) (hN:N'.Nodup) (hi:autoParam (N'[i]?=some x) L2.auto4._auto_1):PG (p8 X N' scope C s₀ H₀ ex) (.Name x pos) (o4 i):=
 yh hN hi (.inl (lookup_relabel_local h)) (.inr (lookup_relabel_local h))
end
def lV:Expr->Bool
 | .ListComp ..=>false | .SetComp ..=>false | .DictComp ..=>false | _=>true
theorem zU {value:Expr} {target:Option Expr} {line:Nat} {env:Env} (h:lV value=true):swapsWith value target line env=pure false:=by
 cases value <;> first | rfl | cases h
def rK:Expr->Bool
 | .Slice ..=>false | _=>true
theorem pix {b:Expr} (h:rK b=true):Ec b:=by
 intro o i
 cases b <;> first | rfl | cases h
def sX:Expr->Bool
 | .Set ..=>false | _=>true
theorem JK {e:Expr} {env:Env} (h:sX e=true):∀ x,foldedSetIterable e env x=pure x:=by
 intro x
 cases e <;> first | rfl | cases h
def notStar:Expr->Bool
 | .Starred ..=>false | _=>true
theorem cZ {e:Expr} {es:List Expr} {env:Env} (h:notStar e=true):starEach (e :: es) env=(false,eval e env) :: starEach es env:=by
 cases e <;> first | rfl | cases h
theorem mz {env:Env} {pos:Pos}:∀ {es:List Expr},es.all notStar=true->(backTo pos (starEach es env)).any (·.1)=false
 | [],_=>rfl
 | e :: es,h=>by
  simp only [YQ,Yg] at h
  rw [cZ h.1]
  show (false || (backTo pos (starEach es env)).any (·.1))=false
  rw [mz h.2];rfl
theorem JL {env:Env} {pos:Pos}:∀ {es:List Expr},es.all notStar=true->(backTo pos (starEach es env)).all (fun x=>!x.1)=true
 | [],_=>rfl
 | e :: es,h=>by
  simp only [YQ,Yg] at h
  rw [cZ h.1]
  show (true && (backTo pos (starEach es env)).all (fun x=>!x.1))=true
  rw [JL h.2];rfl
section
variable {X:Cx} {K:W.Frag} {e:Expr} {es:List Expr} {te:TE} {t:TA} {pos p:Pos}
theorem paC (ha:PE X e te) (hr:PA X es t) (h:autoParam (notStar e=true) L2.auto4._auto_1):PA X (e :: es) (Ea te t):=Nm ha hr (cZ h)
theorem Wb {k:Nat} {x:Str} {ps:List Str} {sp:Sp} (F:nF X.prog X.w X.K X.mg X.base k x ps sp) (hr:Room k X.A) (hg:Gl X x) (ha:PA X (e :: es) t) (hdb:(x == ("__debug__":Str))=false) (h:autoParam ((e :: es).all notStar=true) L2.auto4._auto_1):
  PE X (.Call (.Name x p) (e :: es) [] pos) (xj sp [] E0 t):=by
 simp only [YQ,Yg] at h
 exact Jx F hr hg ha hdb (cZ h.1) (mz h.2)
theorem Wc {x:Str} {id:String} {r:List V->Hp->VK->Prop} (hc:CallR X (.builtin id) r) (hg:Gl X x) (hm:X.mg x=none) (hv:bootBuiltins x=some (.builtin id)) (ha:PA X (e :: es) t) (hn:x≠"__name__") (hdb:(x == ("__debug__":Str))=false) (h:autoParam ((e :: es).all notStar=true) L2.auto4._auto_1):
  PE X (.Call (.Name x p) (e :: es) [] pos) (R8 r t):=by
 simp only [YQ,Yg] at h
 exact Je hc hg hm hv ha hn hdb (cZ h.1) (mz h.2)
theorem Tg {x:Str} {T:String} {r:List V->Hp->VK->Prop} (hc:CallR X (.type T) r) (hg:Gl X x) (hm:X.mg x=none) (hv:bootBuiltins x=some (.type T)) (ha:PA X (e :: es) t) (hn:x≠"__name__") (hdb:(x == ("__debug__":Str))=false) (h:autoParam ((e :: es).all notStar=true) L2.auto4._auto_1):
  PE X (.Call (.Name x p) (e :: es) [] pos) (R8 r t):=by
 simp only [YQ,Yg] at h
 exact Gw hc hg hm hv ha hn hdb (cZ h.1) (mz h.2)
def nM:Expr->Bool
 | .Call ..=>false | _=>true
theorem QM {o:Expr} {f:Str} {env:Env} {w:Sem Value} (h:nM o=true):attributeBase o f env w=w:=by
 cases o <;> first | rfl | cases h
theorem Wd {o:Expr} {to:TE} {name:Str} {apos cpos:Pos} {T id:String} {r:V->List V->Hp->VK->Prop} (hK:X.K=K) (pa:PlainAttrs T) (slot:Slot T name id) (hty:typeOf (.builtin id)=pure (.type "method_descriptor")) (hm:Ib X id r) (ho:PE X o to) (ha:PA X (e :: es) t)
  (hbase:autoParam (nM o=true) L2.auto4._auto_1) (hl:autoParam (es.length < 20) L2.auto2._auto_1) (hline:autoParam ((apos.endLine == cpos.line)=true) L2.auto4._auto_1) (h:autoParam ((e :: es).all notStar=true) L2.auto4._auto_1):
  PE X (.Call (.Attribute o name apos) (e :: es) [] cpos) (V1 K T r to t):=by
 have hA:=JL (env:=X.env) (pos:=cpos) h
 simp only [YQ,Yg] at h
 refine Tf hK pa slot hty hm ho ha (QM hbase) ?_ hline (cZ h.1) (mz h.2)
 rw [hA]
 have:(e :: es).length+([]:List Keyword).length+(if ([]:List Keyword).isEmpty then 0 else 1) < 30:=by simp;omega
 rw [Yj this];rfl
theorem Th {o:Expr} {to:TE} {name:Str} {apos cpos:Pos} {T id:String} {r:V->List V->Hp->VK->Prop} (hK:X.K=K) (pa:PlainAttrs T) (slot:Slot T name id) (hty:typeOf (.builtin id)=pure (.type "method_descriptor")) (hm:Ib X id r) (ho:PE X o to)
  (hbase:autoParam (nM o=true) L2.auto4._auto_1) (hline:autoParam ((apos.endLine == cpos.line)=true) L2.auto4._auto_1):PE X (.Call (.Attribute o name apos) [] [] cpos) (Jk K T r to):=
 NT hK pa slot hty hm ho (QM hbase) hline
theorem We {i:Nat} {x:Str} {pos':Pos} (hN:X.N.Nodup) (hi:X.N[i]?=some x) (hx:Loc X.env.scope x) (he:PE X e te) (hf:X.fn x=true) (h:autoParam (lV e=true) L2.auto4._auto_1):PS X (.Assign [.Name x pos'] e pos) (zE te (o4 i)):=
 Iv hN hi hx he (zU h) (.inl hf)
theorem Ti (he:PE X e te) (h:autoParam (lV e=true) L2.auto4._auto_1):PS X (.Expr e pos) (DG te):=MF he (zU h)
theorem ixE {a b:Expr} {ta tb:TE} (hK:X.K=K) (ha:PE X a ta) (hb:PE X b tb) (h:autoParam (rK b=true) L2.auto4._auto_1):PE X (.Subscript a b pos) (Mp (QG K) ta tb):=VM (NP hK) ha hb (pix h)
theorem Wf {tg iter:Expr} {body:List Stmt} {wi:TI} {g:TG} {tb:TS} (hp:PassesOwn (model X.prog X.w) X.A X.env X.xe) (hc:X.calm=true) (hi:PI X tg iter wi) (hg:PG X tg g) (hb:PSs X body tb) (h:autoParam (sX iter=true) L2.auto4._auto_1):PS X (.For tg iter body [] pos) (MP wi g tb):=
 RN hp hc hi hg hb (JK h)
end
section
variable {X:Cx} {tg iter elt:Expr} {ifs:List Expr} {scope:Scope} {pos:Pos} {N':List Str} {sub:List (Option Nat)} {wi:TI} {g:TG} {tt:TT} {te:TE} {N:List Str} {sc:Scope}
theorem Wg (S:qt N sc N' scope sub) (hc:X.calm=true) (hN:X.N=N) (hsc:X.env.scope=sc) (hi:PI X tg iter wi)
  (hg:∀ (C:Addr) (s₀:Shared) (H₀:Hp) (ex:List Addr),PG (p8 X N' scope C s₀ H₀ ex) tg g)
  (ht:∀ (C:Addr) (s₀:Shared) (H₀:Hp) (ex:List Addr),yq (p8 X N' scope C s₀ H₀ ex) ifs tt)
  (he:∀ (C:Addr) (s₀:Shared) (H₀:Hp) (ex:List Addr),PE (p8 X N' scope C s₀ H₀ ex) elt te) (h:autoParam (sX iter=true) L2.auto4._auto_1):
  PE X (.ListComp elt [⟨tg,iter,ifs,0⟩] scope pos) (vA sub wi g tt te):=Ef S hc hN hsc hi hg ht he (JK h)
end
theorem aO:bootBuiltins "len"=some (.builtin "len"):=by trivial
theorem Cm:bootBuiltins "max"=some (.builtin "max"):=by trivial
theorem o7:bootBuiltins "min"=some (.builtin "min"):=by trivial
theorem aQ:bootBuiltins "isinstance"=some (.builtin "isinstance"):=by trivial
theorem vG:bootBuiltins "all"=some (.builtin "all"):=by trivial
theorem Ek:bootBuiltins "repr"=some (.builtin "repr"):=by trivial
theorem j8:bootBuiltins "list"=some (.type "list"):=by trivial
theorem o8:bootBuiltins "tuple"=some (.type "tuple"):=by trivial
theorem Cp:bootBuiltins "int"=some (.type "int"):=by trivial
theorem JM:bootBuiltins "str"=some (.type "str"):=by trivial
theorem rM:bootBuiltins "enumerate"=some (.type "enumerate"):=by trivial
theorem Tj:bootBuiltins "zip"=some (.type "zip"):=by trivial
theorem o9:bootBuiltins "reversed"=some (.type "reversed"):=by trivial
theorem El:bootBuiltins "bool"=some (.type "bool"):=by trivial
theorem qH {c A B:Prop} [Decidable c] (h1:c->A) (h2:¬ c->B):if decide c=true then A else B:=by
 by_cases h:c
 ·rw [if_pos (Yj h)];exact h1 h
 ·rw [if_neg (by rw [Yl h];exact Yb)];exact h2 h
theorem yu {α:Type} {xs:List α} {k:Int} {v:α} (h0:0<=k) (h:xs[k.toNat]?=some v):uU xs k=some v:=by
 have e:((k.toNat:Nat):Int)=k:=by omega
 rw [← e]
 exact bh h
section
variable {U:St} {H:Hp} {D:Ends} {ta tb te tc:TE} {tt tu:TT} {Q:VK} {t u:TS} {g:TG}
theorem jk (h:t {D with nx:=u D} U H):Il t u D U H:=h
theorem bU (h:D.nx U H):Ik D U H:=h
theorem dO (h:te U H fun x H1=>g x U H1 D.nx):zE te g D U H:=h
theorem bV {i:Nat} {v:V} {R:St->Hp->Prop} (h:R (U.set i (some v)) H):o4 i v U H R:=h
theorem dR {to ti:TE} {ts:Bu} {v:V} {R:St->Hp->Prop} (h:to U H fun o H1=>ti U H1 fun i H2=>ts o i v H2 fun H3=>R U H3):RK to ti ts v U H R:=h
theorem dU (h:te U H D.rt):Ry te D U H:=h
theorem bW (h:te U H fun _ H1=>D.nx U H1):DG te D U H:=h
theorem iu (h:tt U H fun b H1=>if b=true then t D U H1 else u D U H1):RC tt t u D U H:=h
theorem bY {R:Bool->Hp->Prop} (h:te U H fun x H1=>∃ k,x= .bl k/\R k H1):DX te U H R:=h
theorem iw {R:Bool->Hp->Prop} (h:te U H fun x H1=>∃ k,x= .bl k/\R k H1):tB te U H R:=h
theorem dW {R:Bool->Hp->Prop} (h:tt U H fun c H1=>R (!c) H1):Rq tt U H R:=h
theorem dX {R:Bool->Hp->Prop} (h:tt U H fun c H1=>if c=true then tu U H1 R else R false H1):Rp tt tu U H R:=h
theorem iy {R:Bool->Hp->Prop} (h:tt U H fun c H1=>if c=true then R true H1 else tu U H1 R):tOr tt tu U H R:=h
theorem bZ (h:ta U H fun x H1=>∃ c,x= .bl c/\if c=true then tb U H1 Q else Q (.bl false) H1):Ih ta tb U H Q:=h
theorem b7 (h:ta U H fun x H1=>∃ c,x= .bl c/\Q (.bl (!c)) H1):Ii ta U H Q:=h
theorem dY (h:tt U H fun c H1=>if c=true then ta U H1 Q else tb U H1 Q):tIf tt ta tb U H Q:=h
theorem dZ {i:Nat} {v:V} (e:U[i]?=some (some v)) (h:Q v H):oY i U H Q:=⟨v,e,h⟩
theorem qu {v:V} (h:Q v H):tC v U H Q:=h
theorem iz {r:R2} (h:ta U H fun x H1=>tb U H1 fun y H2=>r x y H2 Q):Mp r ta tb U H Q:=h
theorem iB {r:V->Hp->VK->Prop} (h:ta U H fun x H1=>r x H1 Q):tUn r ta U H Q:=h
theorem iC {r:List V->Hp->VK->Prop} {a:TA} (h:a U H fun vs H1=>r vs H1 Q):R8 r a U H Q:=h
theorem b8 {a:TA} {R:List V->Hp->Prop} (h:te U H fun x H1=>a U H1 fun xs H2=>R (x :: xs) H2):Ea te a U H R:=h
theorem d7 {R:List V->Hp->Prop} (h:R [] H):Nk U H R:=h
theorem cj {sp:Sp} {E:XK} {a:TA} (h:a U H fun vs H1=>sp vs H1 Q E):xj sp [] E a U H Q:=by
 unfold xj
 simpa only [Zy] using h
theorem qw {a:TA} (h:a U H fun xs H1=>xs.length<=sizeLine/\∀ p,H1 p=none->Q (.ref p) (upd H1 p (.tup xs))):Np a U H Q:=h
theorem qx {a:TA} (h:a U H fun xs H1=>xs.length<=sizeLine/\∀ p,H1 p=none->Q (.ref p) (upd H1 p (.lst xs))):Nq a U H Q:=h
theorem iD {K:W.Frag} {T:String} {r:V->List V->Hp->VK->Prop} {a:TA} (h:te U H fun x H1=>V0 K T x H1/\a U H1 fun xs H2=>r x xs H2 Q):V1 K T r te a U H Q:=h
theorem d8 {K:W.Frag} {T:String} {r:V->List V->Hp->VK->Prop} (h:te U H fun x H1=>V0 K T x H1/\r x [] H1 Q):Jk K T r te U H Q:=h
theorem iG {r:V->Option Int->Option Int->Hp->VK->Prop} {tl th:TO} (h:te U H fun x H1=>tl U H1 fun l H2=>th U H2 fun u H3=>r x l u H3 Q):tSl r te tl th U H Q:=h
theorem d9 {R:Option Int->Hp->Prop} (h:R none H):yj U H R:=h
theorem cu {R:Option Int->Hp->Prop} (h:te U H fun x H1=>∃ i,x= .int i/\R (some i) H1):Jg te U H R:=h
theorem cz {R:Bool->Hp->Prop} (h:R true H):Jq U H R:=h
theorem cA {a:TA} {R:It->Hp->Prop} (h:a U H fun vs H1=>∃ j:Int,vs=[.int j]/\-(2 ^ 62)<=j/\j < 2 ^ 62/\R (Ia 0 j.toNat) H1):Iw a U H R:=h
theorem cB {a:TA} {R:It->Hp->Prop} (h:a U H fun vs H1=>∃ i j:Int,vs=[.int i,.int j]/\(-(2 ^ 62)<=i/\i < 2 ^ 62/\-(2 ^ 62)<=j/\j < 2 ^ 62)/\R (Ia i (j - i).toNat) H1):Iz a U H R:=h
theorem cF {K:W.Frag} {R:It->Hp->Prop} (h:te U H fun x H1=>(∃ a,x= .ref a/\(∃ xs,SqL K H1 a xs)/\R (Vl K a) H1)\/(∃ a,x= .ref a/\(∃ xs,SqT K H1 a xs)/\R (Vm K a) H1)\/(∃ z,x= .str z/\R (NB z) H1)):NK K te U H R:=h
theorem cG {sub:List (Option Nat)} {wi:TI} (h:wi U H fun J H1=>uw sub g tt te U Q J H1):vA sub wi g tt te U H Q:=h
theorem eG {wi:TI} {tbd:TS} (h:wi U H fun J H1=>∃ W:Nat->Nat->St->Hp->Prop,(∃ m,W 0 m U H1)/\∀ i m U H,W i m U H->
 (J.stop i H/\D.nx U H)\/(J.go i H/\∃ N:St->Hp->Prop,(∀ U' H',N U' H'->∃ m',m' < m/\W (i+1) m' U' H')/\∀ x H',J.yld i H x H'->g x U H' fun σ2 H2=>tbd {D with nx:=N,ct:=N,bk:=D.nx} σ2 H2)):MP wi g tbd D U H:=h
variable {i j:Int} {x y:Str} {f:Int->Int->V} {C:Int->Int->Prop} {K:W.Frag}
theorem iH (h:Q (f i j) H):M9 f (.int i) (.int j) H Q:=⟨_,_,rfl,rfl,h⟩
theorem qy (c:C i j) (h:Q (f i j) H):rI C f (.int i) (.int j) H Q:=⟨_,_,rfl,rfl,c,h⟩
theorem cH (h:Q (.int (i+j)) H):Jy (.int i) (.int j) H Q:=.inl ⟨_,_,rfl,rfl,h⟩
theorem yw (c:x.length+y.length<=sizeLine) (h:Q (.str (x ++ y)) H):Jy (.str x) (.str y) H Q:=.inr (.inl ⟨_,_,rfl,rfl,c,h⟩)
theorem cI (c:CMul i j) (h:Q (.int (i*j)) H):Ei (.int i) (.int j) H Q:=.inl ⟨_,_,rfl,rfl,c,h⟩
theorem Tp (c:MulOk x j) (h:Q (.str (Txt.mul x j)) H):Ei (.str x) (.int j) H Q:=.inr (.inl ⟨_,_,rfl,rfl,c,h⟩)
theorem aN {p:Addr} {xs:List V} {v:V} (s:SqL K H p xs) (e:uU xs i=some v) (h:Q v H):QG K (.ref p) (.int i) H Q:=.inl ⟨p,xs,i,v,rfl,rfl,s,e,h⟩
theorem dq {p:Addr} {xs:List V} {v:V} (s:SqT K H p xs) (e:uU xs i=some v) (h:Q v H):QG K (.ref p) (.int i) H Q:=.inr (.inl ⟨p,xs,i,v,rfl,rfl,s,e,h⟩)
theorem QQ {c:Nat} (s:x.length<=sizeLine) (e:uU x.cps.toList i=some c) (h:Q (.str ⟨#[c]⟩) H):QG K (.str x) (.int i) H Q:=.inr (.inr ⟨x,i,c,rfl,rfl,s,e,h⟩)
theorem bH {p:Addr} {xs:List V} {n:Nat} {v:V} {R:Hp->Prop} (hp:H p=some (.lst xs)) (e:Bs xs.length i=some n) (h:R (upd H p (.lst (xs.set n v)))):zJ (.ref p) (.int i) v H R:=⟨p,xs,i,n,rfl,rfl,hp,e,h⟩
theorem dD (h:Q (.bl (!(Builtin.Str.occurrences y x 0 y.length 1).isEmpty)) H):JD K (.str x) (.str y) H Q:=.inl ⟨_,_,rfl,rfl,h⟩
theorem iI {b:Bool} {R:Bool->Prop} (h:R b):∃ k,V.bl b= .bl k/\R k:=⟨b,rfl,h⟩
theorem cJ {n:Int} {R:Int->Prop} (h:R n):∃ k,V.int n= .int k/\R k:=⟨n,rfl,h⟩
end
theorem Same.upd {H H':Hp} {p:Addr} {o:HO} (s:Same H H') (hn:H' p=none):Same H (upd H' p o):=fun b u e=>by
 have q:=s b u e
 rw [aD (fun z=>by rw [z,hn] at q;cases q)]
 exact q
def Chg (p:Addr) (H H':Hp):Prop:=∀ b o,b≠p->H b=some o->H' b=some o
theorem Chg.refl (p:Addr) (H:Hp):Chg p H H:=fun _ _ _ e=>e
theorem Chg.trans {p:Addr} {H H1 H2:Hp} (a:Chg p H H1) (b:Chg p H1 H2):Chg p H H2:=fun c o n e=>b c o n (a c o n e)
theorem aZ {H:Hp} {q b:Addr} {o u:HO} (hq:H q=none) (hb:H b=some u):upd H q o b=some u:=by
 rw [aD (fun z=>by rw [z,hq] at hb;cases hb)];exact hb
theorem Cq (sep:Str) (ys:List Str):Txt.join sep ys=Str.join sep ys:=by
 show Builtin.Str.glued sep ys=Str.join sep ys
 exact PySem.StrLaws.glued_eq_join sep ys
theorem zV (ys:List Str):(Txt.join (Str.ofString "") ys).cps.toList=(ys.map fun y=>y.cps.toList).flatten:=by
 rw [Cq]
 have e0:(Str.ofString "").cps= #[]:=by trivial
 have key:∀ ys:List Str,(Str.join (Str.ofString "") ys).cps.toList=(ys.map fun y=>y.cps.toList).flatten:=by
  intro ys
  induction ys with
  | nil=>rfl
  | cons y r ih=>
   cases r with
   | nil=>simp [Str.join]
   | cons z r=>
    show ((y ++ Str.ofString "") ++ Str.join (Str.ofString "") (z :: r)).cps.toList=_
    rw [Str.cps_append,Str.cps_append,e0]
    simp only [Array.append_empty,Array.toList_append,ih,Ys,Zu]
 exact key ys
theorem JN {ys:List Str} (h:∀ y∈ys,y.length=1):(ys.map (·.length)).sum=ys.length:=by
 induction ys with
 | nil=>rfl
 | cons y r ih=>
  simp only [Ys,List.sum_cons,Y5,h y (by simp),ih fun z hz=>h z (by simp [hz])]
  omega
theorem Tq (c:Nat):(⟨#[c]⟩:Str).length=1:=by simp [Str.length]
section
variable {H:Hp} {Q:VK} {K:W.Frag}
theorem fu {p:Addr} {xs:List V} (s:SqL K H p xs) (h:Q (.int xs.length) H):Ck K [V.ref p] H Q:=⟨_,_,rfl,.inl ⟨_,s,rfl⟩,h⟩
theorem sY {p:Addr} {xs:List V} (s:SqT K H p xs) (h:Q (.int xs.length) H):Ck K [V.ref p] H Q:=⟨_,_,rfl,.inr ⟨_,s,rfl⟩,h⟩
theorem dh {z:Str} (s:z.length<=sizeLine) (h:Q (.int z.length) H):Ck K [V.str z] H Q:=⟨_,_,rfl,⟨s,rfl⟩,h⟩
theorem iJ {i j:Int} {R:Int->Int->Prop} (h:R i j):∃ a b,[V.int i,V.int j]=[.int a,.int b]/\R a b:=⟨_,_,rfl,h⟩
theorem jT {x:V} {T:String} {t:Value} {b:Bool} (ty:TyOf K H x t) (e:PySem.W.kitOne K t (.type T)=some b) (h:Q (.bl b) H):SJ K [x,.ty T] H Q:=⟨x,T,t,b,rfl,ty,e,h⟩
theorem JP {sep:Str} {p:Addr} {ys:List Str} (hp:H p=some (.lst (ys.map V.str))) (hz:(ys.map (·.length)).sum+ys.length*sep.length<=16777216) (h:Q (.str (Txt.join sep ys)) H):rJoin (.str sep) [.ref p] H Q:=⟨sep,p,ys,rfl,rfl,hp,hz,h⟩
theorem Wh {x:Str} {lo hi:Option Int} (hz:x.length<=sizeLine) (h:Q (.str (Txt.slice x lo hi)) H):Xq K (.str x) lo hi H Q:=.inr (.inr ⟨x,rfl,hz,h⟩)
theorem Wi {p:Addr} {xs:List V} {lo hi:Option Int} (s:SqL K H p xs) (h:∀ q,H q=none->Q (.ref q) (upd H q (.lst (sV xs lo hi)))):Xq K (.ref p) lo hi H Q:=.inl ⟨p,xs,rfl,s,h⟩
end
section
variable {U:St} {H:Hp} {Q:VK}
theorem N5 {K:W.Frag} {a:Addr} {xs:List V} (s:SqL K H a xs) (h:∀ p,H p=none->Q (.ref p) (upd H p (.lst xs))):JF K [.ref a] H Q:=.inl ⟨a,xs,rfl,.inl s,h⟩
end
theorem TyOf.mono {K:W.Frag} {H H':Hp} {v:V} {T:String} (h:TyOf K H v (.type T)) (s:∀ b o,H b=some o->v= .ref b->H' b=some o):TyOf K H' v (.type T):=by
 generalize e:(Value.type T)=t at h
 cases h with
 | non=>exact .non
 | bl x=>exact .bl x
 | int i=>exact .int i
 | str x=>exact .str x
 | flt x=>exact .flt x
 | lst z=>exact .lst (s _ _ z rfl)
 | frz z=>exact .frz (s _ _ z rfl)
 | tup z=>exact .tup (s _ _ z rfl)
 | dK z=>exact .dK (s _ _ z rfl)
 | dT z=>exact .dT (s _ _ z rfl)
 | ins=>cases e
theorem vH {sub:List (Option Nat)} {g:TG} {tt:TT} {te:TE} {U:St} {Q:VK} {H:Hp} {lo:Int} {n:Nat} (Pv:Nat->List V->Hp->Prop) (hn:n<=sizeLine) (h0:Pv 0 [] H) (hl:∀ i ys H,Pv i ys H->ys.length<=i)
  (hs:∀ i ys H,i < n->Pv i ys H->g (.int (lo+i)) (fX sub U) H fun σ2 H2=>KeepSt (fX sub U) σ2/\tt σ2 H2 fun b H3=>if b=true then te σ2 H3 fun y H4=>Pv (i+1) (ys ++ [y]) H4 else Pv (i+1) ys H3)
  (hd:∀ ys H,Pv n ys H->∀ D,H D=none->Q (.ref D) (upd H D (.lst ys))):uw sub g tt te U Q (Ia lo n) H:=
 yt (n:=n) Pv hn h0 hl (fun i ys H hi _=>hi) (fun ys H _=>XQ _) (fun i ys H x H' hi p y=>by
  obtain ⟨e1,e2⟩:=y
  subst e1 e2
  exact hs i ys _ hi p) hd
theorem zW {sub:List (Option Nat)} {g:TG} {tt:TT} {te:TE} {U:St} {Q:VK} {H:Hp} {z:Str} (Pv:Nat->List V->Hp->Prop) (hn:z.cps.size<=sizeLine) (h0:Pv 0 [] H) (hl:∀ i ys H,Pv i ys H->ys.length<=i)
  (hs:∀ i ys H c,z.cps.toList[i]?=some c->Pv i ys H->g (.str ⟨#[c]⟩) (fX sub U) H fun σ2 H2=>KeepSt (fX sub U) σ2/\tt σ2 H2 fun b H3=>if b=true then te σ2 H3 fun y H4=>Pv (i+1) (ys ++ [y]) H4 else Pv (i+1) ys H3)
  (hd:∀ ys H,Pv z.cps.size ys H->∀ D,H D=none->Q (.ref D) (upd H D (.lst ys))):uw sub g tt te U Q (NB z) H:=
 yt (n:=z.cps.size) Pv hn h0 hl (fun i ys H hi _=>hi) (fun ys H _=>rfl) (fun i ys H x H' hi p y=>by
  obtain ⟨e1,c,e2,e3⟩:=y
  subst e1 e3
  exact hs i ys _ c (by simpa using e2) p) hd
structure JE (X:Cx) (e:Expr) (t:TE):Prop where
 run:PE X e t
structure JT (X:Cx) (e:Expr) (t:TT):Prop where
 run:PT X e t
structure JW (X:Cx) (e:Expr) (t:TT):Prop where
 run:PW X e t
structure JA (X:Cx) (es:List Expr) (t:TA):Prop where
 run:PA X es t
structure JS (X:Cx) (s:Stmt) (t:TS):Prop where
 run:PS X s t
structure JB (X:Cx) (s:List Stmt) (t:TS):Prop where
 run:PSs X s t
structure JI (X:Cx) (tg iter:Expr) (t:TI):Prop where
 run:PI X tg iter t
structure JG (X:Cx) (tg:Expr) (t:TG):Prop where
 run:PG X tg t
structure Xr (X:Cx) (tg:List Expr) (t:Gi):Prop where
 run:Vk X tg t
structure JO (X:Cx) (e:Option Expr) (t:TO):Prop where
 run:PO X e t
structure N6 (X:Cx) (ifs:List Expr) (t:TT):Prop where
 run:yq X ifs t
section
variable {X:Cx} {K:W.Frag} {sc scope:Scope} {N':List Str} {C:Addr} {s₀:Shared} {H₀:Hp} {ex:List Addr} {x:Str} {pos p p2 pos' apos cpos tpos:Pos} {a b c e o:Expr} {es:List Expr} {ta tb tc te to ti:TE} {t:TA} {tA tB' tt:TT} {rest:List Expr}
theorem Cr (i:Nat) (h:sc.names.lookup x=some .local) (hN:autoParam (X.N[i]?=some x) L2.auto4._auto_1) (hsc:autoParam (X.env.scope=sc) L2.auto4._auto_1) (hd:autoParam ((x == ("__debug__":Str))=false) L2.auto6._auto_1) (hcd:autoParam ((x == ("__classdict__":Str))=false) L2.auto6._auto_1):JE X (.Name x pos) (oY i):=⟨pvL i h hN hsc hd hcd⟩
theorem j_vC (i:Nat) (h:sc.names.lookup x=some .cell) (hN:autoParam (X.N[i]?=some x) L2.auto4._auto_1) (hsc:autoParam (X.env.scope=sc) L2.auto4._auto_1) (hd:autoParam ((x == ("__debug__":Str))=false) L2.auto6._auto_1) (hcd:autoParam ((x == ("__classdict__":Str))=false) L2.auto6._auto_1):JE X (.Name x pos) (oY i):=⟨pvC i h hN hsc hd hcd⟩
theorem dF (i:Nat) (h:scope.names.lookup x=some .local) (hN:autoParam (N'[i]?=some x) L2.auto4._auto_1) (hd:autoParam ((x == ("__debug__":Str))=false) L2.auto6._auto_1) (hcd:autoParam ((x == ("__classdict__":Str))=false) L2.auto6._auto_1):JE (p8 X N' scope C s₀ H₀ ex) (.Name x pos) (oY i):=⟨pvBL i h hN hd hcd⟩
theorem fQ (i:Nat) (h:scope.names.lookup x=some .free) (hN:autoParam (N'[i]?=some x) L2.auto4._auto_1) (hd:autoParam ((x == ("__debug__":Str))=false) L2.auto6._auto_1) (hcd:autoParam ((x == ("__classdict__":Str))=false) L2.auto6._auto_1):JE (p8 X N' scope C s₀ H₀ ex) (.Name x pos) (oY i):=⟨pvBF i h hN hd hcd⟩
theorem aC {i j}:JE X (.Constant (.int i) j pos) (tC (.int i)):=⟨Rk⟩
theorem ji {i j}:JE X (.Constant (.bool i) j pos) (tC (.bl i)):=⟨Vv⟩
theorem zX {j}:JE X (.Constant .none j pos) (tC .non):=⟨Rm⟩
theorem oN {i j}:JE X (.Constant (.str i) j pos) (tC (.str i)):=⟨Rn⟩
theorem qI {z:Str} (hg:Gl X x) (hm:∃ t,X.mg x=some (.str z t)) (hd:(x == ("__debug__":Str))=false):JE X (.Name x pos) (tC (.str z)):=⟨Jz hg hm hd⟩
theorem Cu {z:Int} (hg:Gl X x) (hm:∃ t,X.mg x=some (.int z t)) (hd:(x == ("__debug__":Str))=false):JE X (.Name x pos) (tC (.int z)):=⟨JC hg hm hd⟩
theorem ph {T:String} (hg:Gl X x) (hm:X.mg x=none) (hv:bootBuiltins x=some (.type T)) (hn:x≠"__name__") (hd:(x == ("__debug__":Str))=false):JE X (.Name x pos) (tC (.ty T)):=⟨Wa hg hm hv hn hd⟩
theorem aV {op:Operator} {r:R2} (ho:OpR X (binaryOp op) r) (ha:JE X a ta) (hb:JE X b tb):JE X (.BinOp a op b pos) (Mp r ta tb):=⟨Vy ho ha.run hb.run⟩
theorem GQ {op:UnaryOp} {r:V->Hp->VK->Prop} (ho:Xo X (unaryOp op) r) (ha:JE X a ta):JE X (.UnaryOp op a pos) (tUn r ta):=⟨Vz ho ha.run⟩
theorem oO {op:CmpOp} {r:R2} (ho:OpR X (compareOp op) r) (ha:JE X a ta) (hb:JE X b tb) (hm:behindInMarks op b=false):JE X (.Compare a [op] [b] pos) (Mp r ta tb):=⟨Ng ho ha.run hb.run hm⟩
theorem fZ {op:CmpOp} {r:R2} (ho:OpR X (compareOp op) r) (ha:JE X a ta) (hb:JE X b tb) (hm:behindInMarks op b=false):JT X (.Compare a [op] [b] pos) (DX (Mp r ta tb)):=⟨Nh ho ha.run hb.run hm⟩
theorem N7 (ha:JT X a tA):JW X (.BoolOp .And [a] pos) tA:=⟨Mw ha.run⟩
theorem iV (ha:JT X a tA):JW X (.BoolOp .Or [a] pos) tA:=⟨Rr ha.run⟩
theorem Tr (ha:JT X a tA) (hb:JW X (.BoolOp .And (b :: rest) pos) tB'):JW X (.BoolOp .And (a :: b :: rest) pos) (Rp tA tB'):=⟨Rt ha.run hb.run⟩
theorem jU (ha:JT X a tA) (hb:JW X (.BoolOp .Or (b :: rest) pos) tB'):JW X (.BoolOp .Or (a :: b :: rest) pos) (tOr tA tB'):=⟨Vw ha.run hb.run⟩
theorem j7 (h:JW X e tt):JT X e tt:=⟨h.run.pt⟩
theorem cL (ha:JT X a tA):JT X (.UnaryOp .Not a pos) (Rq tA):=⟨Ru ha.run⟩
def plainT:Expr->Bool
 | .BoolOp ..=>false | .UnaryOp ..=>false | .Compare ..=>false | .IfExp ..=>false | _=>true
theorem cM (h:JE X e te) (hp:autoParam (plainT e=true) L2.auto4._auto_1):JT X e (tB te):=⟨Ro h.run (by
 intro whole
 cases e <;> first | rfl | cases hp)⟩
theorem lW {op} (h:JE X a te):JE X (.BoolOp op [a] pos) te:=⟨Rv h.run⟩
theorem jb (ha:JE X a ta) (hb:JE X (.BoolOp .And (b :: rest) pos) tb):JE X (.BoolOp .And (a :: b :: rest) pos) (Ih ta tb):=⟨Rw ha.run hb.run⟩
theorem Em (ha:JE X a ta):JE X (.UnaryOp .Not a pos) (Ii ta):=⟨Rx ha.run⟩
theorem j_if (hc:JT X c tA) (ha:JE X a ta) (hb:JE X b tb):JE X (.IfExp c a b pos) (tIf tA ta tb):=⟨Ij hc.run ha.run hb.run⟩
theorem jy {x1} (h:JA X es t):JE X (.Tuple es x1 pos) (Np t):=⟨R5 h.run⟩
theorem gW (h:JA X es t):JE X (.List es pos) (Nq t):=⟨R6 h.run⟩
theorem ao:JA X [] Nk:=⟨R4⟩
theorem aa (ha:JE X e te) (hr:JA X es t) (h:autoParam (notStar e=true) L2.auto4._auto_1):JA X (e :: es) (Ea te t):=⟨paC ha.run hr.run h⟩
theorem En:JO X none yj:=⟨Nt⟩
theorem uV (h:JE X e te):JO X (some e) (Jg te):=⟨Nu h.run⟩
theorem yx {r:V->Option Int->Option Int->Hp->VK->Prop} {lo hi:Option Expr} {tl th:TO} (hr:SlR X r) (he:JE X e te) (hl:JO X lo tl) (hu:JO X hi th):JE X (.Subscript e (.Slice lo hi none p2) pos) (tSl r te tl th):=⟨Jh hr he.run hl.run hu.run⟩
theorem c7 (hK:X.K=K) (ha:JE X a ta) (hb:JE X b tb) (h:autoParam (rK b=true) L2.auto4._auto_1):JE X (.Subscript a b pos) (Mp (QG K) ta tb):=⟨ixE hK ha.run hb.run h⟩
theorem aJ {k:Nat} {ps:List Str} {sp:Sp} (F:nF X.prog X.w X.K X.mg X.base k x ps sp) (hr:Room k X.A) (hg:Gl X x) (ha:JA X (e :: es) t) (hdb:(x == ("__debug__":Str))=false) (h:autoParam ((e :: es).all notStar=true) L2.auto4._auto_1):
  JE X (.Call (.Name x p) (e :: es) [] pos) (xj sp [] E0 t):=⟨Wb F hr hg ha.run hdb h⟩
theorem aB {id:String} {r:List V->Hp->VK->Prop} (hc:CallR X (.builtin id) r) (hg:Gl X x) (hm:X.mg x=none) (hv:bootBuiltins x=some (.builtin id)) (ha:JA X (e :: es) t) (hn:x≠"__name__") (hdb:(x == ("__debug__":Str))=false) (h:autoParam ((e :: es).all notStar=true) L2.auto4._auto_1):
  JE X (.Call (.Name x p) (e :: es) [] pos) (R8 r t):=⟨Wc hc hg hm hv ha.run hn hdb h⟩
theorem vI {T:String} {r:List V->Hp->VK->Prop} (hc:CallR X (.type T) r) (hg:Gl X x) (hm:X.mg x=none) (hv:bootBuiltins x=some (.type T)) (ha:JA X (e :: es) t) (hn:x≠"__name__") (hdb:(x == ("__debug__":Str))=false) (h:autoParam ((e :: es).all notStar=true) L2.auto4._auto_1):
  JE X (.Call (.Name x p) (e :: es) [] pos) (R8 r t):=⟨Tg hc hg hm hv ha.run hn hdb h⟩
theorem gm {name:Str} {T id:String} {r:V->List V->Hp->VK->Prop} (hK:X.K=K) (pa:PlainAttrs T) (slot:Slot T name id) (hty:typeOf (.builtin id)=pure (.type "method_descriptor")) (hm:Ib X id r) (ho:JE X o to) (ha:JA X (e :: es) t)
  (hbase:autoParam (nM o=true) L2.auto4._auto_1) (hl:autoParam (es.length < 20) L2.auto2._auto_1) (hline:autoParam ((apos.endLine == cpos.line)=true) L2.auto4._auto_1) (h:autoParam ((e :: es).all notStar=true) L2.auto4._auto_1):JE X (.Call (.Attribute o name apos) (e :: es) [] cpos) (V1 K T r to t):=⟨Wd hK pa slot hty hm ho.run ha.run hbase hl hline h⟩
theorem Eo {name:Str} {T id:String} {r:V->List V->Hp->VK->Prop} (hK:X.K=K) (pa:PlainAttrs T) (slot:Slot T name id) (hty:typeOf (.builtin id)=pure (.type "method_descriptor")) (hm:Ib X id r) (ho:JE X o to)
  (hbase:autoParam (nM o=true) L2.auto4._auto_1) (hline:autoParam ((apos.endLine == cpos.line)=true) L2.auto4._auto_1):JE X (.Call (.Attribute o name apos) [] [] cpos) (Jk K T r to):=⟨Th hK pa slot hty hm ho.run hbase hline⟩
theorem dI:N6 X [] Jq:=⟨Jr⟩
theorem N8 (hc:JT X c tt):N6 X [c] tt:=⟨Js hc.run⟩
variable {tg iter elt:Expr} {ifs:List Expr} {sub:List (Option Nat)} {wi:TI} {g:TG} {N:List Str}
theorem bJ {ta:TA} (hg:Gl X "range") (hm:X.mg "range"=none) (ha:JA X [a] ta) (h:autoParam (notStar a=true) L2.auto4._auto_1):JI X tg (.Call (.Name "range" p) [a] [] pos) (Iw ta):=⟨Gk hg hm ha.run (cZ h)⟩
theorem GR {ta:TA} (hg:Gl X "range") (hm:X.mg "range"=none) (ha:JA X [a,b] ta) (h:autoParam (notStar a=true) L2.auto4._auto_1) (h2:autoParam (notStar b=true) L2.auto4._auto_1):JI X tg (.Call (.Name "range" p) [a,b] [] pos) (Iz ta):=⟨Gm hg hm ha.run (by rw [cZ h,cZ h2];rfl) (by rw [cZ h2];rfl)⟩
theorem lq (hK:X.K=K) (hl:JE X e te):JI X tg e (NK K te):=⟨NQ hK hl.run⟩
theorem bj {i:Nat} (hN:X.N.Nodup) (hi:X.N[i]?=some x) (hx:Loc X.env.scope x) (hf:X.fn x=true):JG X (.Name x pos) (o4 i):=⟨yh hN hi hx (.inl hf)⟩
theorem mW (i:Nat) (h:scope.names.lookup x=some .local) (hN:N'.Nodup) (hi:autoParam (N'[i]?=some x) L2.auto4._auto_1):JG (p8 X N' scope C s₀ H₀ ex) (.Name x pos) (o4 i):=⟨pgB i h hN hi⟩
theorem jl:Xr X [] RG:=⟨MK⟩
theorem bK {gs:Gi} (h1:JG X e g) (h2:Xr X es gs) (hs:autoParam ((assignEach (e :: es) X.env).map (·.2)=assign e X.env :: (assignEach es X.env).map (·.2)) L2.auto4._auto_1):Xr X (e :: es) (Ir g gs):=⟨Iu h1.run h2.run hs⟩
theorem lu {ts:List Expr} {k:Nat} {gs:Gi} {n:Nat} (hK:X.K=K) (hc:X.calm=true) (h:Xr X ts gs) (hn:autoParam ((assignEach ts X.env).length=n) L2.auto4._auto_1) (hst:autoParam ((assignEach ts X.env).findIdx? (·.1)=none) L2.auto4._auto_1):JG X (.Tuple ts k pos) (MN K n gs):=⟨NZ hK hc h.run hn hst⟩
theorem yz {ts:Bu} (ho:JE X a ta) (hi:JE X b tb) (hs:MJ X ts) (h:autoParam (rK b=true) L2.auto4._auto_1):JG X (.Subscript a b pos) (RK ta tb ts):=⟨RL ho.run hi.run hs (by
 intro v
 cases b <;> first | rfl | cases h)⟩
theorem gJ (S:qt N sc N' scope sub) (hc:X.calm=true) (hN:X.N=N) (hsc:X.env.scope=sc) (hi:JI X tg iter wi)
  (hg:∀ (C:Addr) (s₀:Shared) (H₀:Hp) (ex:List Addr),JG (p8 X N' scope C s₀ H₀ ex) tg g)
  (ht:∀ (C:Addr) (s₀:Shared) (H₀:Hp) (ex:List Addr),N6 (p8 X N' scope C s₀ H₀ ex) ifs tt)
  (he:∀ (C:Addr) (s₀:Shared) (H₀:Hp) (ex:List Addr),JE (p8 X N' scope C s₀ H₀ ex) elt te) (h:autoParam (sX iter=true) L2.auto4._auto_1):
  JE X (.ListComp elt [⟨tg,iter,ifs,0⟩] scope pos) (vA sub wi g tt te):=⟨Wg S hc hN hsc hi.run (fun C s₀ H₀ ex=>(hg C s₀ H₀ ex).run) (fun C s₀ H₀ ex=>(ht C s₀ H₀ ex).run) (fun C s₀ H₀ ex=>(he C s₀ H₀ ex).run) h⟩
variable {st:Stmt} {sts:List Stmt} {u v:TS}
theorem aK {i:Nat} (hN:X.N.Nodup) (hi:X.N[i]?=some x) (hx:Loc X.env.scope x) (he:JE X e te) (hf:X.fn x=true) (h:autoParam (lV e=true) L2.auto4._auto_1):JS X (.Assign [.Name x pos'] e pos) (zE te (o4 i)):=⟨We hN hi hx he.run hf h⟩
theorem uW {ts:Bu} (he:JE X e te) (hg:JG X (.Subscript a b pos') g) (h:autoParam (lV e=true) L2.auto4._auto_1):JS X (.Assign [.Subscript a b pos'] e pos) (zE te g):=⟨RM he.run hg.run (by show swapsWith e (some (.Subscript a b pos')) pos.line X.env=pure false;exact zU h) (by cases e <;> rfl) rfl⟩
theorem aH (he:JE X e te):JS X (.Return (some e) pos) (Ry te):=⟨Rz he.run⟩
theorem bu (he:JE X e te) (h:autoParam (lV e=true) L2.auto4._auto_1):JS X (.Expr e pos) (DG te):=⟨Ti he.run h⟩
theorem dG {sa sb:List Stmt} (hc:JT X c tt) (ha:JB X sa u) (hb:JB X sb v):JS X (.If c sa sb pos) (RC tt u v):=⟨Vx hc.run ha.run hb.run⟩
theorem fH {body:List Stmt} (hp:PassesOwn (model X.prog X.w) X.A X.env X.xe) (hc:X.calm=true) (hi:JI X tg iter wi) (hg:JG X tg g) (hb:JB X body u) (h:autoParam (sX iter=true) L2.auto4._auto_1):JS X (.For tg iter body [] pos) (MP wi g u):=⟨Wf hp hc hi.run hg.run hb.run h⟩
theorem vJ:JS X st Io:=⟨Ip⟩
theorem cX:JB X [] Ik:=⟨Mx⟩
theorem aA (h:JS X st u):JB X [st] u:=⟨Mz h.run⟩
theorem az (h:JS X st u) (h2:JB X sts v):JB X (st :: sts) (Il u v):=⟨Im h.run h2.run⟩
end
section
variable {P:Program} {w:World} {K:W.Frag} {mg:Str->Option Value} {base:Heap}
theorem gY {x:Str} {st:Stmt} {N ps:List Str} {k:Nat} {sp:Sp} (D:Def K mg x st) (S:aG N ps (au st))
  (hb:∀ (kV doc pm:Value) (an:Option Addr) (cdv ct:Value) (us:List Value),us.length=ps.length->bindArgs (PySem.W.fnOf x x (ig st) (du st) (au st) .none kV doc pm an cdv ct) ⟨us,[]⟩=pure (ps.zip us))
  (len:∀ vs H Q E,sp vs H Q E->vs.length=ps.length)
  (hbody:∀ (f:Addr) (cdv:Value) (A:Around) (outer:List Env) (s:Shared) (H:Hp) (vs:List V) (Q:VK) (E:XK),Room k (A.deeper (envOfC x (au st) s.heap.objs.size f cdv))->sp vs H Q E->
   ∃ t,JB (qF GC P w K mg base N x (au st) f cdv A outer s H E).nox (du st) t/\t {nx:=fun _ H'=>Q .non H',rt:=Q} (start N vs) H):nF P w K mg base (k+1) x ps sp:=
 SM D S hb len fun f cdv A outer s H vs Q E hr h=>let ⟨t,j,q⟩:=hbody f cdv A outer s H vs Q E hr h;⟨t,j.run,q⟩
theorem okJ {x:Str} {st:Stmt} {N ps:List Str} {k:Nat} {sp:Sp} {f:Addr} {fd:FuncData} (F:Fun K x x st f fd) (S:aG N ps (au st)) (len:∀ vs H Q E,sp vs H Q E->vs.length=ps.length)
  (hbody:∀ (f:Addr) (cdv:Value) (A:Around) (outer:List Env) (s:Shared) (H:Hp) (vs:List V) (Q:VK) (E:XK),Room k (A.deeper (envOfC x (au st) s.heap.objs.size f cdv))->sp vs H Q E->
   ∃ t,JB (qF GC P w K mg base N x (au st) f cdv A outer s H E).nox (du st) t/\t {nx:=fun _ H'=>Q .non H',rt:=Q} (start N vs) H):FnOk P w K mg base GC (k+1) f fd ps sp:=
 F.ok S len fun cdv A outer s H vs Q E hr h=>let ⟨t,j,q⟩:=hbody f cdv A outer s H vs Q E hr h;⟨t,j.run,q⟩
end
theorem lw {K:W.Frag} {mg:Str->Option Value} {h:Heap} (X:K.In h) (G:h.Ns mainGlobals mg) {x:Str} {v:Value} {f:Tok->Value} (a:PySem.W.nsIn K mainGlobals x=some (some v)) (e:∃ t,v=f t):∃ t,mg x=some (f t):=by
 obtain ⟨t,rfl⟩:=e
 exact ⟨t,ZG X G a⟩
theorem Wj {l:PySem.W.OpenLaw} {q:Program} {loose:List Str} {XP:(Str->Option Value)->Heap->Prop} {YP:World->Heap->Prop} {d:DefRec} {K:Params->W.Frag} {st:Stmt} {k:Nat} {sp:W.Frag->Sp} {x:Str}
  (hn:l.most=some 63) (hdf:d.params.defaults=[]) (hdn:d.name="law") (hk:Room k callerA) (hY:∀ (w:World) (h:Heap),YP w h->(K w.params).In h)
  (hb:∀ (kV doc pm:Value) (an:Option Addr) (cdv ct:Value) (us:List Value),us.length=[x].length->bindArgs (PySem.W.fnOf "law" "law" (ig st) (du st) (au st) .none kV doc pm an cdv ct) ⟨us,[]⟩=pure ([x].zip us))
  (F:∀ (w:World) (mg:Str->Option Value) (h:Heap),(K w.params).In h->h.Ns mainGlobals mg->Def (K w.params) mg "law" st/\∀ (base:Heap) (f:Addr) (fd:FuncData),Fun (K w.params) "law" "law" st f fd->FnOk l.prog w (K w.params) mg base GC k f fd [x] (sp (K w.params)))
  (hsp:∀ (K:W.Frag) (H:Hp) (a:Addr) (ns:List Int),ns.length<=63->SqL K H a (ns.map V.int)->sp K [.ref a] H (fun v _=>v= .bl true) fun _ _ _=>False) (him:autoParam (importsNone q=true) L2.auto6._auto_1):
  PySem.W.WalkO q loose XP YP l.row.toRowW d [] (fun f vs=>PySem.call f vs):=
 L2.Nz (n:=63) (k:=k) (x:=x) (CX:=fun _=>GC) (sp:=fun w=>sp (K w.params)) hn (by decide) hdf hk hY (fun w mg fa h X G e=>by
  obtain ⟨⟨f,fd,Fn,hm⟩,ok⟩:=F w mg h X G
  rw [hdn,hm] at e
  have ef:f=fa:=by injection (Ym e)
  subst ef
  refine ⟨fd,fun s u=>?_,fun base _ _=>ok base f fd Fn⟩
  obtain ⟨oc,od,kV,doc,pm,an,cdv,ct,osl,rfl,lk,hcd⟩:=Fn.ex
  exact .of_eq (hb kV doc pm an cdv ct [u] rfl)) (fun w H a ns hl _ hS=>hsp _ H a ns hl hS) (fun _ _ _ _ _ z=>z) him
def Tt (xs:Nat->List V) (n:Nat):It:=⟨fun i _=>i < n,fun i H v H'=>∃ T,H T=none/\v= .ref T/\H'=upd H T (.tup (xs i)),fun i _=>i=n⟩
theorem Tu {P:Program} {w:World} {K:W.Frag} {elts:List Expr} {k:Nat} {pos:Pos} {it:Addr} {fp wr:List Addr} {n:Nat} {xs:Nat->List V} {Pt:Nat->Array Value->Prop} {St:Nat->Heap->Prop} {Mid:Nat->Addr->Heap->Prop}
  (W:∀ A:Around,A.handled=none->WalksT P w A it fp wr n Pt St Mid) (hxs:∀ i,(xs i).length<=sizeLine) (hPt:∀ i vals,Pt i vals->Vals (xs i) vals.toList) (hmem:it∈fp)
  (hobj:∀ i h,St i h->∀ b∈fp,∃ o,h.get? b=some o/\∀ v,o.data≠.cell v)
  (hself:∀ (A:Around) (i:Nat) (s:Shared) (Q:Value->Shared->Prop) (E:Value->Shared->Prop),St i s.heap->Q (.ref it) s->wpAny (model P w) A (pyIter (.ref it)) Q E s):
  Turn P w K (.Tuple elts k pos) (Tt xs n) fp it St where
 mem:=hmem
 obj:=hobj
 keep:=fun i h h' st kk=>(W {} rfl).frame i h h' st kk
 item:=by
  intro X hP hw hK hc i pins s U H E I hf st hg
  subst hP hw hK
  have W':=W X.A (I.ok.hd hc)
  refine W'.item i s _ _ hg st fun T vals h' tk hPv hT isT mid kk=>?_
  refine ⟨.ref T,rfl,W'.go elts k pos i T _ _ _ mid fun h'' st'' kk2=>?_⟩
  have hTn:H T=none:=I.hok.fresh hT
  have hTw:T ∉ wr:=W'.apart i T h' mid
  have kall:∀ b o,b ∉ wr->s.heap.get? b=some o->h''.get? b=some o:=fun b o hb e=>kk2 b o hb (kk b o hb e)
  have nT:∀ b o,s.heap.get? b=some o->b≠T:=fun b o e=>Yy (Yd (X5 e) hT)
  have nTH:∀ b u,H b=some u->b≠T:=fun b u e z=>by rw [z,hTn] at e;cases e
  have nW:∀ b u,H b=some u->b ∉ wr:=fun b u e hb=>by rw [(hf b (W'.sub b hb)).1] at e;cases e
  have isT':h''.IsTuple T vals:=by
   obtain ⟨o,ho,r⟩:=isT
   exact ⟨o,kk2 T o hTw ho,r⟩
  have hlT:∃ o,h''.get? T=some o:=let ⟨o,ho,_⟩:=isT';⟨o,ho⟩
  have I':Inv X pins U (upd H T (.tup (xs i))) {s with heap:=h'',toks:=tk}:=by
   refine I.step (g':=s.gens) (d':=s.drawn) (ch:=wr) (fun b hb=>?_) (fun b o _ _ hc e _=>kall b o hc e) (fun b o _ _ hc e _=>⟨o.slots,kall b o hc e⟩) (fun b o _ e hn=>by rw [aD (nT b o e)];exact hn)
    (fun b o hc e=>⟨o,kall b o hc e⟩) (fun b ys e=>by rw [aD (nTH b _ e)];exact e) (fun b o u e=>by rw [aD (nTH b _ e)];exact e) (fun b ps e=>⟨#[],by rw [aD (nTH b _ e),e];simp⟩) (fun m hm=>?_) (fun b u e=>?_) I.bare
   ·obtain ⟨f0,f1,f2,f3,f4,f5⟩:=hf b (W'.sub b hb)
    exact ⟨f3,f1,f4,f5⟩
   ·obtain ⟨o,es,ep,ho,r⟩:=hm
    exact ⟨o,es,ep,kall _ o (fun hb=>(hf _ (W'.sub _ hb)).2.1 rfl) ho,r⟩
   ·by_cases hb:b=T
    ·subst hb
     rw [aj] at e;cases e
     obtain ⟨o,ho,hcl,nn,hd⟩:=isT'
     exact ⟨hxs i,vals.toList,hPt i vals hPv,o,ho,hcl,nn,by simpa using hd⟩
    ·rw [aD hb] at e
     refine (I.hok b u e).stay (fun c v hc' q=>kall c v ?_ q) (fun c q=>by rw [aD (nTH c _ q)];exact q) fun c ys q=>by rw [aD (nTH c _ q)];exact q
     rcases hc' with z | z
     ·rw [z];exact nW b u e
     ·exact nW c _ z
  refine ⟨.ref T,upd H T (.tup (xs i)),I',rfl,⟨T,hTn,rfl,rfl⟩,st'',fun b hb=>?_⟩
  obtain ⟨o,e,_⟩:=hobj i _ st b hb
  rw [aD (nT b o e)]
  exact (hf b hb).1
 done:=by
  intro X hP hw hK hc i pins s U H E I hf st hg
  subst hP hw hK
  have W':=W X.A (I.ok.hd hc)
  have hg:i=n:=hg
  subst hg
  refine W'.done s _ _ st fun h' tk kk=>⟨rfl,?_⟩
  have nW:∀ b u,H b=some u->b ∉ wr:=fun b u e hb=>by rw [(hf b (W'.sub b hb)).1] at e;cases e
  refine I.step (g':=s.gens) (d':=s.drawn) (ch:=wr) (fun b hb=>?_) (fun b o _ _ hc e _=>kk b o hc e) (fun b o _ _ hc e _=>⟨o.slots,kk b o hc e⟩) (fun b o _ e hn=>hn)
    (fun b o hc e=>⟨o,kk b o hc e⟩) (fun b ys e=>e) (fun b o u e=>e) (fun b ps e=>⟨#[],by rw [e];simp⟩) (fun m hm=>?_) (fun b u e=>?_) I.bare
  ·obtain ⟨f0,f1,f2,f3,f4,f5⟩:=hf b (W'.sub b hb)
   exact ⟨f3,f1,f4,f5⟩
  ·obtain ⟨o,es,ep,ho,r⟩:=hm
   exact ⟨o,es,ep,kk _ o (fun hb=>(hf _ (W'.sub _ hb)).2.1 rfl) ho,r⟩
  ·refine (I.hok b u e).stay (fun c v hc' q=>kk c v ?_ q) (fun c q=>q) fun c ys q=>q
   rcases hc' with z | z
   ·rw [z];exact nW b u e
   ·exact nW c _ z
 self:=hself
def lA (x:Str) (i:Nat):List V:=[.int i,.str ⟨#[x.cps.getD i 0]⟩]
def Wk (K:W.Frag):R2:=fun x y H Q=>rNe x y H Q\/∃ (a b:Addr) (ns ms:List Int),x= .ref a/\y= .ref b/\SqL K H a (ns.map V.int)/\SqL K H b (ms.map V.int)/\Q (.bl (!decide (ns=ms))) H
theorem Tv {X:Cx} {K:W.Frag} (hK:X.K=K) (hu:X.A.units+64 < cLine):OpR X (compareOp .NotEq) (Wk K):=by
 subst hK
 intro pins s U H x y v u Q I rx ry h
 rcases h with h | ⟨a,b,ns,ms,rfl,rfl,ha,hb,q⟩
 ·exact VG pins s U H x y v u Q I rx ry h
 ·cases rx
  cases ry
  obtain ⟨its,r1,p1,z1⟩:=I.list ha
  obtain ⟨jts,r2,p2,z2⟩:=I.list hb
  exact PySem.W.ne_intsK p1.isList (intsAre_of r1) p2.isList (intsAre_of r2) hu ⟨.bl _,H,I,rfl,q⟩
section
variable {H:Hp} {Q:VK} {K:W.Frag} {U:St}
theorem bf {n:Nat} {gs:Gi} {p:Addr} {xs:List V} {R:St->Hp->Prop} (s:SqT K H p xs) (hl:xs.length=n) (h:gs xs U H R):MN K n gs (.ref p) U H R:=⟨p,xs,rfl,s,hl,h⟩
theorem bw {t:TG} {u:Gi} {v:V} {vs:List V} {R:St->Hp->Prop} (h:t v U H fun U' H'=>u vs U' H' R):Ir t u (v :: vs) U H R:=⟨v,vs,rfl,h⟩
theorem cN {R:St->Hp->Prop} (h:R U H):RG [] U H R:=⟨rfl,h⟩
theorem di {p:Addr} {xs:List V} {y:V} (hp:H p=some (.lst xs)) (c:xs.length < sizeLine) (h:Q .non (upd H p (.lst (xs ++ [y])))):Ed (.ref p) [y] H Q:=⟨p,xs,y,rfl,rfl,hp,c,h⟩
theorem Cv {xs:Nat->List V} {n:Nat} {g:TG} {tb:TS} {D:Ends} {H:Hp} (Pv:Nat->St->Hp->Prop) (h0:Pv 0 U H)
  (hs:∀ i U H T,i < n->Pv i U H->H T=none->g (.ref T) U (upd H T (.tup (xs i))) fun σ2 H2=>tb {D with nx:=Pv (i+1),ct:=Pv (i+1),bk:=D.nx} σ2 H2) (hd:∀ U H,Pv n U H->D.nx U H):
  ∃ W:Nat->Nat->St->Hp->Prop,(∃ m,W 0 m U H)/\∀ i m U H,W i m U H->
   ((Tt xs n).stop i H/\D.nx U H)\/((Tt xs n).go i H/\∃ N:St->Hp->Prop,(∀ U' H',N U' H'->∃ m',m' < m/\W (i+1) m' U' H')/\∀ x H',(Tt xs n).yld i H x H'->g x U H' fun σ2 H2=>tb {D with nx:=N,ct:=N,bk:=D.nx} σ2 H2):=by
 refine ⟨fun i m U H=>m=n - i/\i<=n/\Pv i U H,⟨n,by simp,YT _,h0⟩,?_⟩
 rintro i m U H ⟨rfl,hi,p⟩
 by_cases hlt:i < n
 ·refine .inr ⟨hlt,Pv (i+1),fun U' H' p'=>⟨n - (i+1),by omega,rfl,hlt,p'⟩,fun x H' y=>?_⟩
  obtain ⟨T,hT,e1,e2⟩:=y
  subst e1 e2
  exact hs i U H T hlt p hT
 ·have e:i=n:=by omega
  subst e
  exact .inl ⟨rfl,hd U H p⟩
theorem qz {f:Int->V} {i:Int} (h:Q (f i) H):rU f (.int i) H Q:=⟨i,rfl,h⟩
theorem Cw {a:Addr} {xs:List V} {k:Int} (ha:H a=some (.lst xs)) (h0: -(2 ^ 63)<=k) (h1:k < 2 ^ 63) (hz:xs.length*k.toNat<=sizeLine) (h:∀ p,H p=none->Q (.ref p) (upd H p (.lst (List.replicate k.toNat xs).flatten))):Ei (.ref a) (.int k) H Q:=
 .inr (.inr ⟨a,k,xs,rfl,rfl,ha,h0,h1,hz,h⟩)
theorem Ep {z:Str} {g:TG} {tb:TS} {D:Ends} {H:Hp} (Pv:Nat->St->Hp->Prop) (h0:Pv 0 U H)
  (hs:∀ i U H c,z.cps.toList[i]?=some c->Pv i U H->g (.str ⟨#[c]⟩) U H fun σ2 H2=>tb {D with nx:=Pv (i+1),ct:=Pv (i+1),bk:=D.nx} σ2 H2) (hd:∀ U H,Pv z.length U H->D.nx U H):
  ∃ W:Nat->Nat->St->Hp->Prop,(∃ m,W 0 m U H)/\∀ i m U H,W i m U H->
   ((NB z).stop i H/\D.nx U H)\/((NB z).go i H/\∃ N:St->Hp->Prop,(∀ U' H',N U' H'->∃ m',m' < m/\W (i+1) m' U' H')/\∀ x H',(NB z).yld i H x H'->g x U H' fun σ2 H2=>tb {D with nx:=N,ct:=N,bk:=D.nx} σ2 H2):=by
 refine ⟨fun i m U H=>m=z.cps.size - i/\i<=z.cps.size/\Pv i U H,⟨z.cps.size,by simp,YT _,h0⟩,?_⟩
 rintro i m U H ⟨rfl,hi,p⟩
 by_cases hlt:i < z.cps.size
 ·refine .inr ⟨hlt,Pv (i+1),fun U' H' p'=>⟨z.cps.size - (i+1),by omega,rfl,hlt,p'⟩,fun x H' y=>?_⟩
  obtain ⟨e1,c,e2,e3⟩:=y
  subst e1 e3
  exact hs i U _ c (by simpa using e2) p
 ·have e:i=z.cps.size:=by omega
  subst e
  exact .inl ⟨rfl,hd U H p⟩
end
section
variable {X:Cx} {tg iter elt:Expr} {ifs:List Expr} {scope:Scope} {pos:Pos} {N':List Str} {sub:List (Option Nat)} {wi:TI} {g:TG} {tt:TT} {te:TE}
theorem JQ {N:List Str} {sc:Scope} {use:Option (Value->Sem Unit)} {R:Value->Shared->Prop} {p0:Pos} (S:qt N sc N' scope sub) (hc:X.calm=true) (hN:X.N=N) (hsc:X.env.scope=sc) (hi:PI X tg iter wi)
  (hg:∀ (C:Addr) (s₀:Shared) (H₀:Hp) (ex:List Addr),PG (p8 X N' scope C s₀ H₀ ex) tg g)
  (ht:∀ (C:Addr) (s₀:Shared) (H₀:Hp) (ex:List Addr),yq (p8 X N' scope C s₀ H₀ ex) ifs tt)
  (he:∀ (C:Addr) (s₀:Shared) (H₀:Hp) (ex:List Addr),PE (p8 X N' scope C s₀ H₀ ex) elt te)
  (hs:∀ x,foldedSetIterable iter X.env x=pure x) (pins:List (Addr×Obj)) (s:Shared) (U:St) (H:Hp) (Q:VK) (I:Inv X pins U H s) (h:vA sub wi g tt te U H Q)
  (hend:∀ (D C:Addr) (s5:Shared) (H5:Hp) (m:Str->Option Value),Inv X pins U H5 s5->mR X pins H5 C->s5.heap.Ns C m->Q (.ref D) H5->compPost (model X.prog X.w) X.A X.xe use R (.ref D) C (.ok .next) s5):
  wpAny (model X.prog X.w) X.A (comprehension (.ListComp elt [⟨tg,iter,ifs,0⟩] scope pos) scope X.env p0 (newList []) false (eval iter X.env) use) R X.xe s:=by
 have hcl:∀ x∈scope.names,x.2=NameKind.free->∃ c,X.env.cells.lookup x.1=some c:=fun x hx hk=>I.ok.has x.1 (by have:=S.free x hx hk;rw [← hsc] at this;exact this)
 refine wpAny_comprehension_free (use:=use) rfl hs (qp hcl) S.kind S.loc ?_
 refine fU (hi pins s U H _ I h) fun v s1 h1=>fU h1 fun itv s2 h2=>?_
 obtain ⟨it,fp,tn,J,H2,e,I2,T,st2,f2,W,⟨m0,w0⟩,turn⟩:=h2
 subst e
 refine Y6 (iZ fun h₁ hns₁ hk31 hcl₁=>?_)
 dsimp only at hns₁ hk31 hcl₁ ⊢
 generalize hs3:({s2 with heap:=s2.heap.push {cls:=.type "list",dict:=none,data:=.seq ([]:List Value).toArray}}:Shared)=s3
 have e3:s2.heap.push {cls:=.type "list",dict:=none,data:=.seq ([]:List Value).toArray}=s3.heap:=by rw [← hs3]
 rw [e3] at hns₁ hk31 hcl₁ ⊢
 have hD3:s3.heap.get? s2.heap.objs.size=some {cls:=.type "list",dict:=none,data:=.seq ([]:List Value).toArray}:=by rw [← e3];exact X4 _ rfl
 have I3:Inv X pins U H2 s3:=by
  rw [← hs3]
  exact I2.kept (t':=s2.toks) fun b o e=>XN _ e
 have k23:∀ b o,s2.heap.get? b=some o->s3.heap.get? b=some o:=fun b o e=>by rw [← e3];exact XN _ e
 have hsz:s3.heap.objs.size=s2.heap.objs.size+1:=by rw [← e3,YW]
 have hDn:H2 s2.heap.objs.size=none:=I2.hok.fresh (XQ _)
 have fD:mR X pins H2 s2.heap.objs.size:=I2.fpOk (XQ _) hDn
 have hfo:∀ b∈fp,b < s2.heap.objs.size:=fun b hb=>let ⟨o,e,_⟩:=T.obj _ _ st2 b hb;X5 e
 have hDfp:s2.heap.objs.size ∉ fp:=fun z=>absurd (hfo _ z) (Zd _)
 have I4:=xF (tk:=s3.toks+([]:List (Str×Value)).length) S hN hsc I3 f2 (fun b hb=>by rw [hsz];exact Nat.lt_succ_of_lt (hfo b hb)) (D:=s2.heap.objs.size) (by rw [hsz];exact Z3 _) fD hns₁ hk31 hcl₁
 have stat:∀ {H':Hp} {ob:Obj},(∀ b∈fp,H' b=none)->∀ b∈fp,mR (p8 X N' scope s3.heap.objs.size s3 H2 (s2.heap.objs.size :: fp)) [(s2.heap.objs.size,ob)] H' b:=fun {H' ob} hn b hb=>by
  obtain ⟨q1,q2⟩:=I4.ok.exf b (Yi _ hb)
  refine ⟨hn b hb,q1,I4.ok.exfs b (Yi _ hb),.inl (Yi _ hb),q2,fun p hp z=>?_⟩
  have hp':p=(s2.heap.objs.size,ob):=by simpa [p8] using hp
  subst hp'
  have z':s2.heap.objs.size=b:=z
  exact hDfp (by rw [z'];exact hb)
 generalize hXC:p8 X N' scope s3.heap.objs.size s3 H2 (s2.heap.objs.size :: fp)=XC at I4 stat
 have eP:XC.prog=X.prog:=by rw [← hXC];rfl
 have eW:XC.w=X.w:=by rw [← hXC];rfl
 have eK:XC.K=X.K:=by rw [← hXC];rfl
 have eA:XC.A=X.A:=by rw [← hXC];rfl
 have eE:XC.env=compEnvC scope (GF X scope s3.heap.objs.size) s3.heap.objs.size X.env:=by rw [← hXC];rfl
 have eC:XC.calm=true:=by rw [← hXC];exact hc
 have eX:XC.xe=fun _ _=>False:=by rw [← hXC];rfl
 have eH:XC.H₀=H2:=by rw [← hXC];rfl
 have eS:XC.s₀=s3:=by rw [← hXC];rfl
 have eF:XC.fs=frs X.stack:=by rw [← hXC];rfl
 have eEx:XC.ex=s2.heap.objs.size :: fp:=by rw [← hXC];rfl
 have ePn:XC.pn=[]:=by rw [← hXC];rfl
 have hgC:PG XC tg g:=by rw [← hXC];exact hg _ _ _ _
 have htC:yq XC ifs tt:=by rw [← hXC];exact ht _ _ _ _
 have heC:PE XC elt te:=by rw [← hXC];exact he _ _ _ _
 have pinD:∀ {U':St} {H':Hp} {s':Shared} {ob:Obj},Inv XC [] U' H' s'->H' s2.heap.objs.size=none->s'.heap.get? s2.heap.objs.size=some ob->(∀ v,ob.data≠.cell v)->Inv XC [(s2.heap.objs.size,ob)] U' H' s':=fun {U' H' s' ob} J hn hg hd=>
  J.pins_of fun p hp=>by
   have hp':p=(s2.heap.objs.size,ob):=by simpa using hp
   subst hp'
   refine ⟨hg,hn,(J.ok.exf _ (by rw [eEx];exact Yw)).1,J.ok.exfs _ (by rw [eEx];exact Yw),hd⟩
 have loop:codeAny (model X.prog X.w) X.A (.compLoop (.ListComp elt [⟨tg,iter,ifs,0⟩] scope pos) 0 (.ref it) (.ref s2.heap.objs.size) (compEnvC scope (GF X scope s3.heap.objs.size) s3.heap.objs.size X.env))
   (compPost (model X.prog X.w) X.A X.xe use R (.ref s2.heap.objs.size) s3.heap.objs.size) {s3 with heap:=h₁,toks:=s3.toks+([]:List (Str×Value)).length}:=by
  refine xx (fun n s'=>∃ (i:Nat) (ys:List V) (its:List Value) (nn:Nat) (H':Hp),Inv XC [] (fX sub U) H' s'/\tn i s'.heap/\(∀ b∈fp,H' b=none)/\H' s2.heap.objs.size=none/\
   s'.heap.get? s2.heap.objs.size=some {cls:=.type "list",data:=.seq its.toArray nn}/\Vals ys its/\W i n ys H') ?_ m0
   ⟨0,[],[],_,H2,I4,T.keep _ _ _ st2 fun b _ o e=>hk31 b o (k23 b o e),fun b hb=>(f2 b hb).1,hDn,hk31 _ _ hD3,.nil,w0⟩
  rintro n s4 ⟨i,ys,its,nn,H4,J4,st4,fr4,dn4,dg4,rv4,w4⟩
  have P4:=pinD J4 dn4 dg4 (fun v z=>by cases z)
  rcases turn i n ys H4 w4 with ⟨stop,hyl,qn⟩ | ⟨go,hyl,N,hN,step⟩
  ·have hdone:=T.done XC eP eW eK eC i _ s4 _ H4 (fun _ _=>False) P4 (stat fr4) st4 stop
   rw [eA] at hdone
   refine YK hdone (fun r s5 ⟨hr,I5⟩=>?_) fun _ _ z=>z
   subst hr
   obtain ⟨m,hn,_⟩:=id I5.loc
   have hCe:XC.env.locals=s3.heap.objs.size:=by rw [eE];rfl
   rw [hCe] at hn
   have hDg:=(I5.pin (s2.heap.objs.size,_) (by rw [ePn];exact Yw)).1
   have hDne:s2.heap.objs.size≠s3.heap.objs.size:=by rw [hsz];exact Yy (Z3 _)
   have hHC:H4 s3.heap.objs.size=none:=by have:=I5.free;rw [hCe] at this;exact this
   have k56:∀ b o,b≠s3.heap.objs.size->s5.heap.get? b=some o->s5.heap.get? b=some o:=fun b o hb e=>e
   have un:=I5.base
   rw [eF,eEx,eH,eS] at un
   have nC:∀ b o,s3.heap.get? b=some o->b≠s3.heap.objs.size:=fun b o e=>Yy (X5 e)
   have hok6:HOk X.prog X.w (upd H4 s2.heap.objs.size (.lst ys)) s5.heap:=by
    have h5:=I5.hok
    rw [eP,eW] at h5
    have Mm:∀ b u,H4 b=some u->b≠s3.heap.objs.size:=fun b u e z=>by rw [z,hHC] at e;cases e
    intro b u e
    by_cases hb:b=s2.heap.objs.size
    ·subst hb
     rw [aj] at e;cases e
     exact ⟨hyl,its,nn,rv4,k56 _ _ hDne hDg⟩
    ·rw [aD hb] at e
     have nD:∀ c u,H4 c=some u->c≠s2.heap.objs.size:=fun c u e z=>by rw [z,dn4] at e;cases e
     refine (h5 b u e).stay (fun c v hc' q=>k56 c v ?_ q) (fun c q=>by rw [aD (nD c _ q)];exact q) fun c xs q=>by rw [aD (nD c _ q)];exact q
     rcases hc' with z | z
     ·rw [z];exact Mm b u e
     ·exact Mm c _ z
   have nD2:∀ c u,H4 c=some u->c≠s2.heap.objs.size:=fun c u e z=>by rw [z,dn4] at e;cases e
   have un6:Un (frs X.stack) (s2.heap.objs.size :: fp) H2 (upd H4 s2.heap.objs.size (.lst ys)) s3.heap s5.heap:=
    ⟨fun b o e nn' hb hx=>k56 b o (nC b o e) (un.keep b o e nn' hb hx),fun b o e nn' hb hx=>let ⟨sl,q⟩:=un.slot b o e nn' hb hx;⟨sl,k56 b _ (nC b o e) q⟩,
     fun b o e nn' hx=>by rw [aD (fun z=>hx (by rw [z];exact Yw))];exact un.free b o e nn' hx,
     fun b o e hx=>let ⟨o',q⟩:=un.there b o e hx;⟨o',k56 b o' (nC b o e) q⟩,
     fun b xs e=>by have q:=un.tups b xs e;rw [aD (nD2 b _ q)];exact q,
     fun b o u e=>by have q:=un.frzs b o u e;rw [aD (nD2 b _ q)];exact q,
     fun b ps e=>let ⟨more,q⟩:=un.tbls b ps e;⟨more,by rw [aD (nD2 b _ q)];exact q⟩⟩
   have I6:Inv X pins U (upd H4 s2.heap.objs.size (.lst ys)) s5:=by
    refine I3.call' (s':=s5) (ch:=s2.heap.objs.size :: fp) ?_ un6 hok6 I5.bare fun b hb=>?_
    ·show s5.os=s3.os
     have:=I5.os
     rw [eS] at this
     exact this
    ·have q:mR X pins H2 b:=by
      rcases X7.mp hb with rfl | z
      ·exact fD
      ·exact f2 b z
     obtain ⟨f0,f1,f2',f3,f4,f5⟩:=q
     exact ⟨f3,f1,f4,f5⟩
   have dC:upd H4 s2.heap.objs.size (.lst ys) s3.heap.objs.size=none:=by rw [aD (Ne.symm hDne)];exact hHC
   exact hend _ _ s5 _ m I6 (I3.fpOk (XQ _) dC) hn (qn _ dn4)
  ·have hitem:=T.item XC eP eW eK eC i _ s4 _ H4 (fun _ _=>False) P4 (stat fr4) st4 go
   rw [eA] at hitem
   refine YK hitem (fun r s5 ⟨u,hr,h5⟩=>?_) fun _ _ z=>z
   subst hr
   dsimp only
   refine YK h5 (fun _ s6 ⟨x,H6,I6,r6,y6,st6,fr6⟩=>?_) fun _ _ z=>z
   have P6:=I6.pinned (stat fr6) (T.obj _ _ st6)
   rw [← eE,← eP,← eW,← eA]
   refine YK (hgC _ s6 _ H6 x u _ P6 r6 (step x H6 y6)) (fun _ s7 ⟨σ7,H7,I7,kp7,q7⟩=>?_) fun _ _ z=>by rw [eX] at z;exact z
   refine YK (htC _ s7 σ7 H7 _ I7 q7) (fun ok s8 ⟨H8,I8,q8⟩=>?_) fun _ _ z=>by rw [eX] at z;exact z
   have fin:∀ {H9:Hp} {s9:Shared},Inv XC ([(s2.heap.objs.size,({cls:=.type "list",data:=.seq its.toArray nn}:Obj))] ++ sH fp s6.heap) σ7 H9 s9->Inv XC [] (fX sub U) H9 s9/\tn (i+1) s9.heap/\(∀ b∈fp,H9 b=none)/\H9 s2.heap.objs.size=none/\
     s9.heap.get? s2.heap.objs.size=some {cls:=.type "list",data:=.seq its.toArray nn}:=fun {H9 s9} J=>by
    have pD:=J.pin (s2.heap.objs.size,({cls:=.type "list",data:=.seq its.toArray nn}:Obj)) (by rw [ePn];simp)
    have pF:∀ b∈fp,∀ o,s6.heap.get? b=some o->s9.heap.get? b=some o/\H9 b=none:=fun b hb o e=>by
     have q:=J.pin (b,o) (by rw [ePn];exact YH _ (YH _ (nH hb e)))
     exact ⟨q.1,q.2.1⟩
    refine ⟨?_,T.keep _ _ _ st6 fun b hb o e=>(pF b hb o e).1,fun b hb=>?_,pD.2.1,pD.1⟩
    ·have J0:Inv XC [] σ7 H9 s9:=J.pins_of fun p hp=>nomatch hp
     exact J0.weak kp7.1.symm fun j v e=>kp7.2 j v e
    ·obtain ⟨o,e,_⟩:=T.obj _ _ st6 b hb
     exact (pF b hb o e).2
   cases ok with
   | false=>
    rw [if_neg (by simp)]
    rw [if_neg (by simp)] at q8
    obtain ⟨m',hm,w8⟩:=hN _ _ q8
    obtain ⟨a1,a2,a3,a4,a5⟩:=fin I8
    exact ⟨m',hm,i+1,ys,its,nn,H8,a1,a2,a3,a4,a5,rv4,w8⟩
   | true=>
    rw [if_pos rfl]
    rw [if_pos rfl] at q8
    refine YK (heC _ s8 σ7 H8 _ I8 q8) (fun xv s9 ⟨y,H9,I9,r9,n9⟩=>?_) fun _ _ z=>by rw [eX] at z;exact z
    obtain ⟨m',hm,w9⟩:=hN _ _ n9
    obtain ⟨a1,a2,a3,a4,a5⟩:=fin I9
    refine wpAny_list_append_plain (items:=its.toArray) ⟨nn,a5⟩ (fun h' ⟨n',hp'⟩ sb=>?_) (by simp;rw [← rv4.length];omega)
    obtain ⟨q1,q2⟩:=I4.ok.exf s2.heap.objs.size (by rw [eEx];exact Yw)
    have a1':Inv XC [] (fX sub U) H9 {s9 with heap:=h'}:=a1.turned (t':=s9.toks) (fun b o hb e=>(sb.2 b hb).trans e) a4 q1 (.inl (by rw [eEx];exact Yw)) q2 (fun p hp=>by rw [ePn] at hp;exact nomatch hp)
    refine ⟨m',hm,i+1,ys ++ [y],its ++ [xv],n',H9,a1',T.keep _ _ _ a2 fun b hb o e=>(sb.2 b (fun z=>hDfp (by rw [← z];exact hb))).trans e,a3,a4,?_,rv4.append (.cons r9 .nil),w9⟩
    rw [hp']
    simp
 subst hs3
 exact codeAny_compStart_list loop (T.self _ 0 _ _ _ (T.keep _ _ _ st2 fun b _ o e=>hk31 b o (k23 b o e)) loop)
theorem Cy {N:List Str} {sc:Scope} {i:Nat} {x:Str} {pos' spos:Pos} (hNd:X.N.Nodup) (hxi:X.N[i]?=some x) (hx:Loc X.env.scope x) (hf:X.fn x=true) (S:qt N sc N' scope sub) (hc:X.calm=true) (hN:X.N=N) (hsc:X.env.scope=sc) (hi:PI X tg iter wi)
  (hg:∀ (C:Addr) (s₀:Shared) (H₀:Hp) (ex:List Addr),PG (p8 X N' scope C s₀ H₀ ex) tg g)
  (ht:∀ (C:Addr) (s₀:Shared) (H₀:Hp) (ex:List Addr),yq (p8 X N' scope C s₀ H₀ ex) ifs tt)
  (he:∀ (C:Addr) (s₀:Shared) (H₀:Hp) (ex:List Addr),PE (p8 X N' scope C s₀ H₀ ex) elt te)
  (hs:∀ x,foldedSetIterable iter X.env x=pure x):PS X (.Assign [.Name x pos'] (.ListComp elt [⟨tg,iter,ifs,0⟩] scope pos) spos) (zE (vA sub wi g tt te) (o4 i)):=by
 intro pins s U H D I h
 have hsw:∃ b,swapsWith (.ListComp elt [⟨tg,iter,ifs,0⟩] scope pos) (some (.Name x pos')) spos.line X.env=pure b:=⟨_,rfl⟩
 obtain ⟨b,hsw⟩:=hsw
 cases b with
 | false=>exact Iv hNd hxi hx (Ef S hc hN hsc hi hg ht he hs) hsw (.inl hf) pins s U H D I h
 | true=>
  rw [exec_Assign_Name_used _ _ _ _ hsw]
  refine XJ (wpAny_standAt (XJ ?_))
  show wpAny _ X.A (do let _ ← comprehension (.ListComp elt [⟨tg,iter,ifs,0⟩] scope pos) scope X.env _ (newList []) false (eval iter X.env) (some (assign (.Name x pos') X.env))) _ _ s
  refine XJ (YK (JQ (use:=some (assign (.Name x pos') X.env)) (R:=fun _ s'=>SP X pins D .next s') S hc hN hsc hi hg ht he hs pins s U H _ I h ?_) (fun _ s' hq=>XS (XS hq)) fun _ _ e=>e)
  intro Da C s5 H5 m I5 fC hn q
  show wpAny _ X.A (assign (.Name x pos') X.env (.ref Da)) _ _ _
  refine wpAny_assign_Name (w6 I5 hNd hxi hx (v:=.ref Da) rfl (fun s6 I6 qq0=>?_) (.inl hf))
  obtain ⟨a,sb,ha⟩:=qq0
  obtain ⟨f0,f1,f2,f3,f4,f5⟩:=fC
  have hCa:C≠a:=fun z=>by
   rcases ha with e | e
   ·exact f1 (z.trans e)
   ·exact f4 x a e z.symm
  exact ⟨m,hn.sameBut sb hCa,fun h' hs'=>⟨_,H5,I6.turned (t':=s6.toks) (fun b o hb e=>hs'.extBut b o hb e) f0 f1 f3 f4 f5,q⟩⟩
end
section
variable {X:Cx} {tg iter elt:Expr} {ifs:List Expr} {scope:Scope} {pos:Pos} {N':List Str} {sub:List (Option Nat)} {wi:TI} {g:TG} {tt:TT} {te:TE} {N:List Str} {sc:Scope}
theorem Er {i:Nat} {x:Str} {pos' spos:Pos} (hNd:X.N.Nodup) (hxi:X.N[i]?=some x) (hx:Loc X.env.scope x) (S:qt N sc N' scope sub) (hc:X.calm=true) (hN:X.N=N) (hsc:X.env.scope=sc) (hi:JI X tg iter wi)
  (hg:∀ (C:Addr) (s₀:Shared) (H₀:Hp) (ex:List Addr),JG (p8 X N' scope C s₀ H₀ ex) tg g)
  (ht:∀ (C:Addr) (s₀:Shared) (H₀:Hp) (ex:List Addr),N6 (p8 X N' scope C s₀ H₀ ex) ifs tt)
  (he:∀ (C:Addr) (s₀:Shared) (H₀:Hp) (ex:List Addr),JE (p8 X N' scope C s₀ H₀ ex) elt te) (hf:X.fn x=true) (h:autoParam (sX iter=true) L2.auto4._auto_1):
  JS X (.Assign [.Name x pos'] (.ListComp elt [⟨tg,iter,ifs,0⟩] scope pos) spos) (zE (vA sub wi g tt te) (o4 i)):=
 ⟨Cy hNd hxi hx hf S hc hN hsc hi.run (fun C s₀ H₀ ex=>(hg C s₀ H₀ ex).run) (fun C s₀ H₀ ex=>(ht C s₀ H₀ ex).run) (fun C s₀ H₀ ex=>(he C s₀ H₀ ex).run) (JK h)⟩
end
section
variable {X:Cx} {pins:List (Addr×Obj)} {U:St} {H:Hp} {s:Shared}
theorem Inv.newtup {wr:List Addr} {T:Addr} {vals:Array Value} {xs:List V} {h'':Heap} {tk:Nat} (I:Inv X pins U H s) (hf:∀ b∈wr,mR X pins H b) (hT:s.heap.objs.size<=T)
  (kall:∀ b o,b ∉ wr->s.heap.get? b=some o->h''.get? b=some o) (isT':h''.IsTuple T vals) (hv:Vals xs vals.toList) (hx:xs.length<=sizeLine):Inv X pins U (upd H T (.tup xs)) {s with heap:=h'',toks:=tk}:=by
 have hTn:H T=none:=I.hok.fresh hT
 have nT:∀ b o,s.heap.get? b=some o->b≠T:=fun b o e=>Yy (Yd (X5 e) hT)
 have nTH:∀ b u,H b=some u->b≠T:=fun b u e z=>by rw [z,hTn] at e;cases e
 have nW:∀ b u,H b=some u->b ∉ wr:=fun b u e hb=>by rw [(hf b hb).1] at e;cases e
 refine I.step (g':=s.gens) (d':=s.drawn) (ch:=wr) (fun b hb=>?_) (fun b o _ _ hc e _=>kall b o hc e) (fun b o _ _ hc e _=>⟨o.slots,kall b o hc e⟩) (fun b o _ e hn=>by rw [aD (nT b o e)];exact hn)
  (fun b o hc e=>⟨o,kall b o hc e⟩) (fun b ys e=>by rw [aD (nTH b _ e)];exact e) (fun b o u e=>by rw [aD (nTH b _ e)];exact e) (fun b ps e=>⟨#[],by rw [aD (nTH b _ e),e];simp⟩) (fun m hm=>?_) (fun b u e=>?_) I.bare
 ·obtain ⟨f0,f1,f2,f3,f4,f5⟩:=hf b hb
  exact ⟨f3,f1,f4,f5⟩
 ·obtain ⟨o,es,ep,ho,r⟩:=hm
  exact ⟨o,es,ep,kall _ o (fun hb=>(hf _ hb).2.1 rfl) ho,r⟩
 ·by_cases hb:b=T
  ·subst hb
   rw [aj] at e;cases e
   obtain ⟨o,ho,hcl,nn,hd⟩:=isT'
   exact ⟨hx,vals.toList,hv,o,ho,hcl,nn,by simpa using hd⟩
  ·rw [aD hb] at e
   refine (I.hok b u e).stay (fun c v hc' q=>kall c v ?_ q) (fun c q=>by rw [aD (nTH c _ q)];exact q) fun c ys q=>by rw [aD (nTH c _ q)];exact q
   rcases hc' with z | z
   ·rw [z];exact nW b u e
   ·exact nW c _ z
theorem Inv.only {wr:List Addr} {h':Heap} {tk:Nat} (I:Inv X pins U H s) (hf:∀ b∈wr,mR X pins H b) (kk:∀ b o,b ∉ wr->s.heap.get? b=some o->h'.get? b=some o):Inv X pins U H {s with heap:=h',toks:=tk}:=by
 have nW:∀ b u,H b=some u->b ∉ wr:=fun b u e hb=>by rw [(hf b hb).1] at e;cases e
 refine I.step (g':=s.gens) (d':=s.drawn) (ch:=wr) (fun b hb=>?_) (fun b o _ _ hc e _=>kk b o hc e) (fun b o _ _ hc e _=>⟨o.slots,kk b o hc e⟩) (fun b o _ e hn=>hn)
   (fun b o hc e=>⟨o,kk b o hc e⟩) (fun b ys e=>e) (fun b o u e=>e) (fun b ps e=>⟨#[],by rw [e];simp⟩) (fun m hm=>?_) (fun b u e=>?_) I.bare
 ·obtain ⟨f0,f1,f2,f3,f4,f5⟩:=hf b hb
  exact ⟨f3,f1,f4,f5⟩
 ·obtain ⟨o,es,ep,ho,r⟩:=hm
  exact ⟨o,es,ep,kk _ o (fun hb=>(hf _ hb).2.1 rfl) ho,r⟩
 ·refine (I.hok b u e).stay (fun c v hc' q=>kk c v ?_ q) (fun c q=>q) fun c ys q=>q
  rcases hc' with z | z
  ·rw [z];exact nW b u e
  ·exact nW c _ z
end
def Tw (K:W.Frag) (a:Addr):It:=
 ⟨fun i H=>∃ xs x,SqL K H a xs/\xs[i]?=some x,
  fun i H v H'=>∃ T x,H T=none/\v= .ref T/\(∀ xs,SqL K H a xs->xs[i]?=some x)/\H'=upd H T (.tup [.int i,x]),
  fun i H=>∃ xs,SqL K H a xs/\xs.length<=i⟩
theorem Cz {P:Program} {w:World} {K:W.Frag} {elts:List Expr} {k:Nat} {pos:Pos} {e it a:Addr} (hne:e≠it):
  Turn P w K (.Tuple elts k pos) (Tw K a) [e,it] e (fun i h=>(∃ old,IsEnum h e it i old)/\h.IsListIter it a i) where
 mem:=by simp
 obj:=fun i h st c hc=>by
  obtain ⟨⟨old,he⟩,⟨o1,e1,c1,d1⟩⟩:=st
  simp only [X7,Yq,or_false] at hc
  rcases hc with rfl | rfl
  ·exact ⟨_,he,fun v z=>by cases z⟩
  ·exact ⟨_,e1,fun v z=>by rw [d1] at z;cases z⟩
 keep:=fun i h h' st kk=>by
  obtain ⟨⟨old,he⟩,h1⟩:=st
  exact ⟨⟨old,kk e (by simp) _ he⟩,h1.at fun o q=>kk it (by simp) o q⟩
 item:=by
  intro X hP hw hK hc i pins s U H E I hf st hg
  subst hP hw hK
  obtain ⟨⟨old,he⟩,h1⟩:=st
  obtain ⟨xs,x,hq,hx⟩:=hg
  obtain ⟨its,rv,p,_⟩:=I.list hq
  obtain ⟨u,hu,ru⟩:=rv.get hx
  refine wpAny_pyNext_enum_item he h1 p.isList (x:=u) (by simpa using hu) hne fun h' a1 a2 a3 a4 hk=>?_
  refine ⟨_,rfl,wpAny_letOwnedTupleGo_enum a1 fun h'' a1' sb=>?_⟩
  have lt:∀ {c o},s.heap.get? c=some o->s.heap.objs.size≠c:=fun e=>Zt (X5 e)
  have lti:s.heap.objs.size≠it:=by obtain ⟨o,q,_⟩:=h1;exact lt q
  have isT:h''.IsTuple s.heap.objs.size #[.int i s.toks,u]:=⟨_,sb.extBut _ _ (lt he) a3,rfl,_,rfl⟩
  have kall:∀ b o,b ∉ [e,it]->s.heap.get? b=some o->h''.get? b=some o:=fun b o hb q=>by
   simp only [X7,Yq,or_false,not_or] at hb
   exact sb.extBut _ _ hb.1 (hk b o hb.1 hb.2 q)
  have hTn:H s.heap.objs.size=none:=I.hok.fresh (XQ _)
  refine ⟨.ref s.heap.objs.size,_,I.newtup (tk:=s.toks+1) hf (XQ _) kall isT (xs:=[.int i,x]) (.cons ⟨_,rfl⟩ (.cons ru .nil)) (by simp;decide),rfl,⟨_,x,hTn,rfl,fun zs hs=>by rw [I.list_inj hs hq];exact hx,rfl⟩,?_,fun b hb=>?_⟩
  ·exact ⟨⟨_,a1'⟩,a2.extBut sb.extBut (Ne.symm hne)⟩
  ·have:s.heap.objs.size≠b:=by
    simp only [X7,Yq,or_false] at hb
    rcases hb with rfl | rfl
    ·exact lt he
    ·exact lti
   rw [aD (Ne.symm this)]
   exact (hf b hb).1
 done:=by
  intro X hP hw hK hc i pins s U H E I hf st hg
  subst hP hw hK
  obtain ⟨⟨old,he⟩,h1⟩:=st
  obtain ⟨xs,hq,hx⟩:=hg
  obtain ⟨its,rv,p,_⟩:=I.list hq
  have l1:=rv.length
  refine wpAny_pyNext_enum_end (I.ok.hd hc) he h1 p.isList (by simp;omega) fun h' hk=>⟨rfl,I.only (tk:=s.toks) hf fun b o hb q=>?_⟩
  simp only [X7,Yq,or_false,not_or] at hb
  exact hk b o hb.2 q
 self:=fun _ _ _ _ _ st h=>let ⟨⟨_,he⟩,_⟩:=st;Aac he h
theorem GX {X:Cx} {elts:List Expr} {k:Nat} {tp:Pos} {pins:List (Addr×Obj)} {U:St} {H1:Hp} {s1:Shared} {x:Str} {t:Tok} {R:It->Hp->Prop} (hc:X.calm=true) (I1:Inv X pins U H1 s1) (q:R (Tt (lA x) x.cps.size) H1):
  wpAny (model X.prog X.w) X.A (call (.type "enumerate") [.str x t]) (fun v s1=>wpAny (model X.prog X.w) X.A (pyIter v) (PIE X pins U (.Tuple elts k tp) R) X.xe s1) X.xe s1:=by
 refine call_enumerate_str fun h' he hit hsz hk=>?_
 have J1:Inv X pins U H1 {s1 with heap:=h'}:=I1.kept (t':=s1.toks) hk
 have ne1:s1.heap.objs.size+1≠s1.heap.objs.size:=Nat.succ_ne_self _
 have nm:s1.heap.objs.size+1 ∉ [s1.heap.objs.size]:=fun z=>ne1 (YD.mp z)
 have hPt:∀ (i:Nat) (vals:Array Value),(∃ t y,SignAt x i y/\vals= #[.int i t,y])->Vals (lA x i) vals.toList:=by
  rintro i vals ⟨t,y,⟨c,u,e1,rfl⟩,rfl⟩
  refine .cons ⟨t,rfl⟩ (.cons ⟨u,?_⟩ .nil)
  rw [show x.cps.getD i 0=c by simp [Y8,e1]]
 have fin:∀ (ty:String) (Dr:∀ A:Around,A.handled=none->Draws X.prog X.w A s1.heap.objs.size [s1.heap.objs.size] x.cps.size (SignAt x) fun i h=>h.IsStrIter s1.heap.objs.size ty x t i),h'.IsStrIter s1.heap.objs.size ty x t 0->
   wpAny (model X.prog X.w) X.A (pyIter (.ref (s1.heap.objs.size+1))) (PIE X pins U (.Tuple elts k tp) R) X.xe {s1 with heap:=h'}:=by
  intro ty Dr hit'
  have W:∀ A:Around,A.handled=none->WalksT X.prog X.w A (s1.heap.objs.size+1) [s1.heap.objs.size+1,s1.heap.objs.size] [s1.heap.objs.size+1,s1.heap.objs.size] x.cps.size
    (fun i vals=>∃ t y,SignAt x i y/\vals= #[.int i t,y]) (fun i h=>(∃ old,IsEnum h (s1.heap.objs.size+1) s1.heap.objs.size i old)/\h.IsStrIter s1.heap.objs.size ty x t i)
    (fun i T h=>(∃ y,IsEnumOut h (s1.heap.objs.size+1) s1.heap.objs.size ((i:Int)+1) y T)/\h.IsStrIter s1.heap.objs.size ty x t (i+1)/\T≠s1.heap.objs.size+1/\T≠s1.heap.objs.size):=
   fun A hA=>WalksT.enumerateD (Dr A.in1 hA) (s1.heap.objs.size+1) ne1 nm (by simp)
  have hself:∀ (A:Around) (i:Nat) (s:Shared) (Q:Value->Shared->Prop) (E:Value->Shared->Prop),((∃ old,IsEnum s.heap (s1.heap.objs.size+1) s1.heap.objs.size i old)/\s.heap.IsStrIter s1.heap.objs.size ty x t i)->Q (.ref (s1.heap.objs.size+1)) s->wpAny (model X.prog X.w) A (pyIter (.ref (s1.heap.objs.size+1))) Q E s:=by
   rintro A i s Q E ⟨⟨old,he⟩,_⟩ hQ
   exact Aac he hQ
  refine hself _ 0 _ _ _ ⟨⟨_,he⟩,hit'⟩ ?_
  refine ⟨s1.heap.objs.size+1,[s1.heap.objs.size+1,s1.heap.objs.size],_,_,H1,rfl,J1,Tu W (fun i=>by simp [lA];decide) hPt (by simp) ?_ hself,⟨⟨_,he⟩,hit'⟩,fun b hb=>?_,q⟩
  ·rintro i h ⟨⟨old,he⟩,o,ho,hcl,hd⟩ b hb
   rcases X7.mp hb with rfl | hb
   ·exact ⟨_,he,fun v z=>by cases z⟩
   ·rw [YD.mp hb]
    exact ⟨o,ho,fun v z=>by rw [hd] at z;cases z⟩
  ·have hb':s1.heap.objs.size<=b:=by
    rcases X7.mp hb with rfl | hb
    ·exact Nat.le_succ _
    ·rw [YD.mp hb];exact XQ _
   exact I1.fpOk hb' (I1.hok.fresh hb')
 cases hx:x.cps.all (· < 128)
 ·exact fin "str_iterator" (fun A hA=>Draws.strWide hA _ x t) (by simpa [strIterType,hx] using hit)
 ·exact fin "str_ascii_iterator" (fun A hA=>Draws.strAscii hA _ x t) (by simpa [strIterType,hx] using hit)
def QR (K:W.Frag) (ta:TA):TI:=fun U H R=>ta U H fun vs H1=>(∃ x:Str,vs=[.str x]/\R (Tt (lA x) x.cps.size) H1)\/∃ a xs,vs=[.ref a]/\SqL K H1 a xs/\R (Tw K a) H1
theorem lX {X:Cx} {K:W.Frag} {a:Expr} {ta:TA} {elts:List Expr} {k:Nat} {tp p pos:Pos} (hK:X.K=K) (hc:X.calm=true) (hg:Gl X "enumerate") (hm:X.mg "enumerate"=none) (ha:JA X [a] ta) (h:autoParam (notStar a=true) L2.auto4._auto_1):
  JI X (.Tuple elts k tp) (.Call (.Name "enumerate" p) [a] [] pos) (QR K ta):=⟨by
 subst hK
 intro pins s U H R I hq
 refine Call_ (jj I hg hm rM (Yu (fU (ha.run pos pins s U H _ I hq) fun us s1 qq0=>?_) (cZ h) rfl))
 obtain ⟨vs,H1,I1,r1,q1⟩:=qq0
 rcases q1 with ⟨x,e,q⟩ | ⟨l,xs,e,hl,q⟩
 ·subst e
  obtain ⟨u,rfl,t,rfl⟩:=vals1 r1
  exact GX hc I1 q
 ·subst e
  obtain ⟨u,rfl,ru⟩:=vals1 r1
  cases ru
  obtain ⟨its,rv,p1,_⟩:=I1.list hl
  refine call_enumerate_list p1.isList fun h' z1 z2 z3 hk=>?_
  have J1:Inv X pins U H1 {s1 with heap:=h'}:=I1.kept (t':=s1.toks) hk
  refine Aac z1 ?_
  refine ⟨s1.heap.objs.size+1,_,_,_,H1,rfl,J1,Cz (Nat.succ_ne_self _),⟨⟨_,z1⟩,z2⟩,fun b hb=>?_,q⟩
  have hb':s1.heap.objs.size<=b:=by
   simp only [X7,Yq,or_false] at hb
   have key:∀ n c:Nat,(c=n+1\/c=n)->n<=c:=fun n c h=>by omega
   exact key _ _ hb
  exact I1.fpOk hb' (I1.hok.fresh hb')⟩
end L2
namespace L2
open PySem PySem.Spec PyProof.Rows PySem.SeqAt
mutual
def DR (H:Hp):PyData->V->Prop
 | .none,v=>v= .non
 | .bool b,v=>v= .bl b
 | .int n,v=>v= .int n
 | .str x,v=>v= .str x
 | .list ds,v=>∃ a vs,v= .ref a/\H a=some (.lst vs)/\DRs H ds vs
 | .tuple ds,v=>∃ a vs,v= .ref a/\H a=some (.tup vs)/\DRs H ds vs
 | .dict _,_=>False
def DRs (H:Hp):List PyData->List V->Prop
 | [],vs=>vs=[]
 | d :: ds,vs=>∃ v r,vs=v :: r/\DR H d v/\DRs H ds r
end
mutual
theorem DR.same {H H':Hp} (s:Same H H'):∀ (d:PyData) (v:V),DR H d v->DR H' d v
 | .none,_,h=>by rw [DR] at h ⊢;exact h
 | .bool _,_,h=>by rw [DR] at h ⊢;exact h
 | .int _,_,h=>by rw [DR] at h ⊢;exact h
 | .str _,_,h=>by rw [DR] at h ⊢;exact h
 | .list ds,v,h=>by rw [DR] at h ⊢;obtain ⟨a,vs,e,q,r⟩:=h;exact ⟨a,vs,e,s _ _ q,DRs.same s ds vs r⟩
 | .tuple ds,v,h=>by rw [DR] at h ⊢;obtain ⟨a,vs,e,q,r⟩:=h;exact ⟨a,vs,e,s _ _ q,DRs.same s ds vs r⟩
 | .dict _,_,h=>by rw [DR] at h;exact h.elim
theorem DRs.same {H H':Hp} (s:Same H H'):∀ (ds:List PyData) (vs:List V),DRs H ds vs->DRs H' ds vs
 | [],_,h=>by rw [DRs] at h ⊢;exact h
 | d :: ds,vs,h=>by rw [DRs] at h ⊢;obtain ⟨v,r,e,q,t⟩:=h;exact ⟨v,r,e,DR.same s d v q,DRs.same s ds r t⟩
end
theorem JR {H:Hp} {n:Int} {v:V}:DR H (.int n) v↔v= .int n:=by rw [DR]
theorem Oa {H:Hp} {ds:List PyData} {v:V}:DR H (.list ds) v↔∃ a vs,v= .ref a/\H a=some (.lst vs)/\DRs H ds vs:=by rw [DR]
theorem JV {H:Hp} {ds:List PyData} {v:V}:DR H (.tuple ds) v↔∃ a vs,v= .ref a/\H a=some (.tup vs)/\DRs H ds vs:=by rw [DR]
theorem Es {H:Hp} {vs:List V}:DRs H [] vs↔vs=[]:=by rw [DRs]
theorem vK {H:Hp} {d:PyData} {ds:List PyData} {vs:List V}:DRs H (d :: ds) vs↔∃ v r,vs=v :: r/\DR H d v/\DRs H ds r:=by rw [DRs]
mutual
theorem DR.reads {P:Program} {w:World} {H:Hp} {h:Heap} (ok:HOk P w H h):∀ (d:PyData) (v:V) (u:Value),DR H d v->RelV v u->∃ as,Reads h u d as
 | .none,_,u,q,r=>by rw [DR] at q;subst q;cases r;exact ⟨_,.none⟩
 | .bool b,_,u,q,r=>by rw [DR] at q;subst q;cases r;exact ⟨_,.bool _⟩
 | .int n,_,u,q,r=>by rw [DR] at q;subst q;obtain ⟨t,rfl⟩:=r;exact ⟨_,.int _ _⟩
 | .str n,_,u,q,r=>by rw [DR] at q;subst q;obtain ⟨t,rfl⟩:=r;exact ⟨_,.str _ _⟩
 | .list ds,v,u,q,r=>by
  rw [DR] at q
  obtain ⟨a,vs,rfl,e,t⟩:=q
  cases r
  obtain ⟨_,its,n,rv,g⟩:=ok a _ e
  obtain ⟨as,ra⟩:=DRs.reads ok ds vs its t rv
  exact ⟨_,.list g rfl rfl (by simpa using ra)⟩
 | .tuple ds,v,u,q,r=>by
  rw [DR] at q
  obtain ⟨a,vs,rfl,e,t⟩:=q
  cases r
  obtain ⟨_,its,rv,g⟩:=ok a _ e
  obtain ⟨as,ra⟩:=DRs.reads ok ds vs its t rv
  obtain ⟨o,ho,hc,n,hd⟩:=g
  exact ⟨_,.tuple ho hc hd (by simpa using ra)⟩
 | .dict _,_,_,q,_=>by rw [DR] at q;exact q.elim
theorem DRs.reads {P:Program} {w:World} {H:Hp} {h:Heap} (ok:HOk P w H h):∀ (ds:List PyData) (vs:List V) (us:List Value),DRs H ds vs->Vals vs us->∃ as,ReadsAll h us ds as
 | [],_,us,q,r=>by rw [DRs] at q;subst q;cases r;exact ⟨_,.nil⟩
 | d :: ds,_,us,q,r=>by
  rw [DRs] at q
  obtain ⟨v,r',rfl,q1,q2⟩:=q
  cases r with
  | cons a b=>
   obtain ⟨as,h1⟩:=DR.reads ok d v _ q1 a
   obtain ⟨bs,h2⟩:=DRs.reads ok ds r' _ q2 b
   exact ⟨_,.cons h1 h2⟩
end
def Wl:R2:=fun x y H Q=>∃ d e,DR H d x/\DR H e y/\shaped d=true/\shaped e=true/\Q (.bl (PyData.eqv d e)) H
def Wm:R2:=fun x y H Q=>∃ d e,DR H d x/\DR H e y/\shaped d=true/\shaped e=true/\Q (.bl (!PyData.eqv d e)) H
section
variable {X:Cx}
theorem Tz (hu:X.A.units+64 < cLine):OpR X (compareOp .Eq) Wl:=by
 intro pins s U H x y v u Q I rx ry h
 obtain ⟨d,e,h1,h2,h3,h4,q⟩:=h
 obtain ⟨as,r1⟩:=DR.reads I.hok d x v h1 rx
 obtain ⟨bs,r2⟩:=DR.reads I.hok e y u h2 ry
 exact eq_dataH r1 r2 h3 h4 hu ⟨.bl _,H,I,rfl,q⟩
theorem TJ (hu:X.A.units+64 < cLine):OpR X (compareOp .NotEq) Wm:=by
 intro pins s U H x y v u Q I rx ry h
 obtain ⟨d,e,h1,h2,h3,h4,q⟩:=h
 obtain ⟨as,r1⟩:=DR.reads I.hok d x v h1 rx
 obtain ⟨bs,r2⟩:=DR.reads I.hok e y u h2 ry
 exact ne_dataH r1 r2 h3 h4 hu ⟨.bl _,H,I,rfl,q⟩
def JX (K:W.Frag):R2:=fun x y H Q=>SQ K x y H Q\/Wl x y H Q
def TQ (K:W.Frag):R2:=fun x y H Q=>Wk K x y H Q\/Wm x y H Q
theorem CG {K:W.Frag} (hK:X.K=K) (hu:X.A.units+64 < cLine):OpR X (compareOp .Eq) (JX K):=(Te hK (Nat.lt_of_le_of_lt (Nat.le_add_right _ _) hu)).or (Tz hu)
theorem qJ {K:W.Frag} (hK:X.K=K) (hu:X.A.units+64 < cLine):OpR X (compareOp .NotEq) (TQ K):=(Tv hK hu).or (TJ hu)
end
section
variable {H:Hp} {Q:VK} {K:W.Frag} {U:St}
theorem bM {i j:Int} (h:Q (.bl (decide (V.int i=V.int j))) H):JX K (.int i) (.int j) H Q:=.inl (.inl ⟨rfl,h⟩)
theorem bO {i j:Str} (h:Q (.bl (decide (V.str i=V.str j))) H):JX K (.str i) (.str j) H Q:=.inl (.inl ⟨rfl,h⟩)
theorem cO {i j:Int} (h:Q (.bl (!decide (V.int i=V.int j))) H):TQ K (.int i) (.int j) H Q:=.inl (.inl ⟨rfl,h⟩)
theorem cQ {i j:Str} (h:Q (.bl (!decide (V.str i=V.str j))) H):TQ K (.str i) (.str j) H Q:=.inl (.inl ⟨rfl,h⟩)
theorem zY {x y:V} {d:PyData} (h1:DR H d x) (h2:DR H d y) (hs:shaped d=true) (h:Q (.bl true) H):JX K x y H Q:=
 .inr ⟨d,d,h1,h2,hs,hs,by rw [PySem.SeqAt.eqv_refl d (canLay_of_shaped hs)];exact h⟩
theorem bx {a:TA} {R:It->Hp->Prop} (h:a U H fun vs H1=>(∃ x:Str,vs=[.str x]/\R (Tt (lA x) x.cps.size) H1)\/∃ a xs,vs=[.ref a]/\SqL K H1 a xs/\R (Tw K a) H1):QR K a U H R:=h
theorem qd {a:Addr} {xs:List V} {g:TG} {tb:TS} {D:Ends} (Pv:Nat->St->Hp->Prop) (h0:Pv 0 U H) (hq:∀ i U H,i<=xs.length->Pv i U H->SqL K H a xs)
  (hs:∀ i U H T x,xs[i]?=some x->Pv i U H->H T=none->g (.ref T) U (upd H T (.tup [.int i,x])) fun σ2 H2=>tb {D with nx:=Pv (i+1),ct:=Pv (i+1),bk:=D.nx} σ2 H2) (hd:∀ U H,Pv xs.length U H->D.nx U H):
  ∃ W:Nat->Nat->St->Hp->Prop,(∃ m,W 0 m U H)/\∀ i m U H,W i m U H->
   ((Tw K a).stop i H/\D.nx U H)\/((Tw K a).go i H/\∃ N:St->Hp->Prop,(∀ U' H',N U' H'->∃ m',m' < m/\W (i+1) m' U' H')/\∀ x H',(Tw K a).yld i H x H'->g x U H' fun σ2 H2=>tb {D with nx:=N,ct:=N,bk:=D.nx} σ2 H2):=by
 refine ⟨fun i m U H=>m=xs.length - i/\i<=xs.length/\Pv i U H,⟨xs.length,by simp,YT _,h0⟩,?_⟩
 rintro i m U H ⟨rfl,hi,p⟩
 have q1:=hq i U H hi p
 by_cases hlt:i < xs.length
 ·refine .inr ⟨⟨xs,xs[i],q1,XR hlt⟩,Pv (i+1),fun U' H' p'=>⟨xs.length - (i+1),by omega,rfl,hlt,p'⟩,fun x H' y=>?_⟩
  obtain ⟨T,u,hT,e1,e2,e4⟩:=y
  subst e1 e4
  exact hs i U H T u (e2 xs q1) p hT
 ·have e:i=xs.length:=by omega
  subst e
  exact .inl ⟨⟨xs,q1,XQ _⟩,hd U H p⟩
end
end L2
namespace L2
open PySem PySem.Spec PyProof.Rows
theorem JZ:typeLookup (.type "list_reverseiterator") "__len__"=pure none:=by rw [gV,ZD];kernel_rfl
theorem GZ:typeLookup (.type "list_reverseiterator") "__length_hint__"=pure (some (.builtin "list_reverseiterator.__length_hint__")):=by rw [gV,ZD];kernel_rfl
section
variable {prog:Program} {w:World} {A:Around} {E:Value->Shared->Prop} {s:Shared}
theorem J3 {it l:Addr} {i:Int} {Q:Bool->Shared->Prop} (hit:s.heap.IsRevIter it l i) (h:Q false s):wpAny (model prog w) A (Builtin.List.listLengthHint (.ref it)) Q E s:=by
 unfold Builtin.List.listLengthHint
 refine XJ (wpAny_specialOf hit.typeIs JZ ?_)
 show wpAny _ _ (specialOf (Value.ref it) (Str.ofString "__length_hint__") >>=_) _ _ _
 refine XJ (wpAny_specialOf hit.typeIs GZ ?_)
 generalize hid:("list_reverseiterator.__length_hint__":String)=id0
 wp_delta
 rw [show splitId id0=some ("list_reverseiterator","__length_hint__") from by subst hid;trivial]
 subst hid
 refine XJ (Aan (T:="list_reverseiterator") (b:=true) hit.typeIs (by rw [Aai];kernel_rfl) ?_)
 refine wpAny_ite_split (fun hab=>absurd hab (by decide)) (fun _=>?_)
 refine wpAny_ite_split (fun _=>?_) (fun hab=>absurd (by trivial) hab)
 refine wpAny_ite_split (fun hab=>absurd hab (by trivial)) (fun _=>?_)
 exact XS h
theorem J5 {it l:Addr} {items:Array Value} {Q:Value->Shared->Prop} (hh:A.handled=none) (hit:s.heap.IsRevIter it l ((items.size:Int) - 1)) (hl:s.heap.IsList l items) (hne:l≠it) (hn:items.size<=sizeLine)
  (hQ:∀ h' tk acc' c',(∀ b o,b≠it->s.heap.get? b=some o->h'.get? b=some o)->h'.get? s.heap.objs.size=some {cls:=.type "list",dict:=none,data:=.seq acc' c',slots:=#[]}->
   ItemsOf (fun i v=>items[items.size - 1 - i]?=some v) acc' items.size->Q (.ref s.heap.objs.size) {s with heap:=h',toks:=tk}):
  wpAny (model prog w) A (call (.type "list") [.ref it]) Q E s:=by
 refine callType_codes (Q₁:=fun obj s₁=>obj= .ref s.heap.objs.size/\s₁={s with heap:=s.heap.push {cls:=.type "list",data:=.seq #[]}}) F.called_list (F.typeCall_list_1 _) F.entry_list_init
  (code_list_new _ ⟨rfl,rfl⟩) fun obj s₁ h₁=>?_
 obtain ⟨rfl,rfl⟩:=h₁
 have iti:it < s.heap.objs.size:=by obtain ⟨o,e,_⟩:=hit;exact X5 e
 have itl:l < s.heap.objs.size:=by obtain ⟨o,e,_⟩:=hl;exact X5 e
 generalize hS0:s.heap.objs.size=S at iti itl hQ
 have hS:(s.heap.push {cls:=.type "list",data:=.seq #[]}).get? S=some {cls:=.type "list",data:=.seq #[]}:=by rw [← hS0];exact X4 _ rfl
 have kp:∀ b o,s.heap.get? b=some o->(s.heap.push {cls:=.type "list",data:=.seq #[]}).get? b=some o:=fun b o e=>XN _ e
 generalize s.heap.push {cls:=.type "list",data:=.seq #[]}=h1 at hS kp
 have hit1:h1.IsRevIter it l ((items.size:Int) - 1):=hit.at fun o e=>kp it o e
 have hl1:h1.IsList l items:=hl.at fun o e=>kp l o e
 refine ⟨⟨_,hS,rfl⟩,F.args_list_init_2 _ _,?_⟩
 have nSi:S≠it:=Zt iti
 have nSl:S≠l:=Zt itl
 have hSf:S ∉ [it,l]:=by simp [nSi,nSl]
 have W:=(Walks.listRev (prog:=prog) (w:=w) (A:=A.in1.in1) hh it l hne items).toS
 show wpAny _ A.in1.in1 (do let old ← Builtin.List.listItems (.ref S);Builtin.List.listUpdate (.ref S) (fun _=>#[]);letGo old.toList.reverse;Builtin.List.listExtendWith (.ref S) (.ref it) .none) _ _ _
 unfold Builtin.List.listItems
 refine XJ (XJ (Zv hS rfl (XS ?_)))
 show wpAny _ A.in1.in1 (updateSeq S (fun _=>#[]) >>=fun _=>letGo (#[]:Array Value).toList.reverse >>=fun _=>Builtin.List.listExtendWith (.ref S) (.ref it) .none) _ _ _
 refine XJ (wpAny_updateSeq hS rfl ?_)
 have hS2:=YM (Obj.mapSeq (fun _=>(#[]:Array Value))) hS rfl
 have k2:∀ b o,b≠S->h1.get? b=some o->(h1.update S (Obj.mapSeq (fun _=>(#[]:Array Value)))).get? b=some o:=fun b o hb e=>(YB _ _ (Ne.symm hb)).trans e
 generalize h1.update S (Obj.mapSeq (fun _=>(#[]:Array Value)))=h2 at hS2 k2
 have hit2:=hit1.at (h':=h2) fun o e=>k2 it o (Ne.symm nSi) e
 have hl2:=hl1.at (h':=h2) fun o e=>k2 l o (Ne.symm nSl) e
 refine XJ (wpAny_letGo ?_)
 unfold Builtin.List.listExtendWith
 refine XJ (wpAny_typeOf (T:="list_reverseiterator") (Heap.IsRevIter.typeIs (s:={s with heap:=h2}) hit2) ?_)
 have e1:Builtin.List.listSameRef (.ref S) (.ref it)=false:=by simp [Builtin.List.listSameRef,nSi]
 have e2:(Value.type "list_reverseiterator" == Value.type "list")=false:=by decide
 have e3:(Value.type "list_reverseiterator" == Value.type "tuple")=false:=by decide
 simp only [e1,e2,e3,Bool.or_false,Z6,if_false]
 refine XJ (ZK (s:={s with heap:=h2}) hit2 ?_)
 refine XJ (Y7 (J3 (s:={s with heap:=h2}) hit2 ?_))
 refine wpAny_ite_split (fun hab=>absurd hab (by trivial)) (fun _=>?_)
 refine XS ⟨Aaq F.plain_extend_loop _,?_⟩
 refine codeAny_extend_loopS W hn S hSf .none items.size 0 _ #[] _ rfl (YT _) ⟨YT _,by simpa using hit2,hl2⟩ hS2 (ItemsOf.nil _) fun s' acc' c' hm hS' hacc=>?_
 rw [Moved.eq_with hm]
 refine ⟨rfl,hQ s'.heap s'.toks acc' c' (fun b o hb e=>hm.heap b o (fun hmem=>?_) (k2 b o (fun z=>?_) (kp b o e))) hS' hacc⟩
 ·rcases X7.mp hmem with e' | hmem
  ·exact absurd (X5 e) (by rw [e',hS0];exact Zd _)
  ·exact hb (YD.mp hmem)
 ·exact absurd (X5 e) (by rw [z,hS0];exact Zd _)
end
section
variable {X:Cx} {K:W.Frag} {a b c e:Expr} {ta tb tc te:TE} {pos p p2 p3:Pos}
theorem Ob {op op':CmpOp} {r r':R2} (ho:OpR X (compareOp op) r) (ho':OpR X (compareOp op') r') (ha:JE X a ta) (hb:JE X b tb) (hc:JE X c tc) (hm:autoParam (lastMarks [op,op'] [b,c]=false) L2.auto5._auto_1):
  JE X (.Compare a [op,op'] [b,c] pos) (Bx r r' ta tb tc):=⟨IW ho ho' ha.run hb.run hc.run hm⟩
theorem arg1 {Q:List Value->Shared->Prop} {E:Value->Shared->Prop} {s:Shared} (hs:notStar e=true) (h:wpAny (model X.prog X.w) X.A (eval e X.env) (fun u s1=>Q [u] s1) E s):wpAny (model X.prog X.w) X.A (spliced (backTo pos (starEach [e] X.env))) Q E s:=by
 rw [cZ hs]
 show wpAny _ _ (spliced ((false,eval e X.env) :: backTo pos (starEach [] X.env))) _ _ s
 exact Calls.spliced_cons (YK h (fun u s1 q=>Calls.spliced_nil q) fun _ _ z=>z)
def J6 (K:W.Frag) (ta:TE):TE:=fun U H Q=>ta U H fun x H1=>∃ l xs,x= .ref l/\SqL K H1 l xs/\∀ q,H1 q=none->Q (.ref q) (upd H1 q (.lst xs.reverse))
theorem G6 (hK:X.K=K) (hc:X.calm=true) (hg:Gl X "list") (hm:X.mg "list"=none) (hg2:Gl X "reversed") (hm2:X.mg "reversed"=none) (ha:JE X a ta) (h:autoParam (notStar a=true) L2.auto4._auto_1):
  JE X (.Call (.Name "list" p) [.Call (.Name "reversed" p2) [a] [] p3] [] pos) (J6 K ta):=⟨by
 subst hK
 intro pins s U H Q I hq
 refine YX (jj I hg hm j8 (Yu (arg1 rfl (YX (jj I hg2 hm2 o9 (Yu (arg1 h (fU (ha.run pins s U H _ I hq) fun u s1 qq0=>?_)) (cZ h) rfl)))) rfl rfl))
 obtain ⟨x,H1,I1,rx,l,xs,ex,hx,q⟩:=qq0
 subst ex
 cases rx
 obtain ⟨its,r,ht,hz⟩:=I1.list hx
 have hlen:=r.length
 refine call_reversed_list ht.isList ?_
 have lt:l < s1.heap.objs.size:=by obtain ⟨o,ho,_⟩:=ht.isList;exact X5 ho
 have e0:(s1.heap.push (PySem.revObj l ((its.toArray.size:Int) - 1))).get? s1.heap.objs.size=some (PySem.revObj l ((its.toArray.size:Int) - 1)):=X4 _ rfl
 have k0:∀ b o,s1.heap.get? b=some o->(s1.heap.push (PySem.revObj l ((its.toArray.size:Int) - 1))).get? b=some o:=fun b o q=>XN _ q
 have s0:(s1.heap.push (PySem.revObj l ((its.toArray.size:Int) - 1))).objs.size=s1.heap.objs.size+1:=YW ..
 refine J5 (it:=s1.heap.objs.size) (l:=l) (I1.ok.hd hc) ⟨_,e0,rfl,rfl⟩ (ht.isList.at fun o q=>k0 l o q) (Yy lt) (by simp;omega) fun h' tk acc' c' hk hS hacc=>?_
 have eacc:acc'.toList=its.reverse:=by
  apply List.ext_getElem?
  intro i
  have a1:acc'.size=its.length:=by have:=hacc.1;simpa using this
  by_cases hi:i < its.length
  ·have hi':i < acc'.size:=by omega
   have a2:=hacc.2 i acc'[i] (ZV hi')
   rw [List.getElem?_reverse hi]
   simp at a2
   rw [a2]
   simp [hi']
  ·rw [ZR (by simp;omega),ZR (by simp;omega)]
 have rr:Vals xs.reverse acc'.toList:=by rw [eacc];exact r.reverse
 have k1:∀ b o,s1.heap.get? b=some o->h'.get? b=some o:=fun b o z=>hk b o (Yy (X5 z)) (k0 b o z)
 have hle:s1.heap.objs.size<=(s1.heap.push (PySem.revObj l ((its.toArray.size:Int) - 1))).objs.size:=by rw [s0];exact Nat.le_succ _
 refine ⟨.ref _,_,I1.laid (t':=tk) (o:=.lst xs.reverse) k1 hle ⟨by simp;omega,acc'.toList,c',rr,by simpa using hS⟩,rfl,q _ (I1.hok.fresh hle)⟩⟩
end
def G7 (h:Heap) (T:Addr):Prop:=∃ oT ts,h.get? T=some oT/\oT.data= .fields ts/\3 < ts.size
def gO (C:Addr) (dd:Option Addr) (vs:Array Value):Obj:={cls:=.ref C,dict:=dd,data:=.fields vs}
def Oc (l:List Env):List Addr:=l.filterMap (·.frame)
section
variable {M:Model} {A:Around} {E:Value->Shared->Prop}
theorem xJ {base:Heap} {env:Env} {outer:List Env} {L x C:Addr} {dd:Option Addr} {vs:Array Value} {hd:Value} {had:Bool} {Q:Unit->Shared->Prop} {s:Shared}
  (fr:A.frames=some (env :: outer)) (ff:s.heap.FunFrames base (env :: outer)) (fL:env.frame=some L) (ex:s.heap.get? x=some (gO C dd vs)) (sz:1 < vs.size) (nx:x ∉ Oc (env :: outer))
  (k:∀ h' T,h'.get? x=some (gO C dd (vs.setIfInBounds 1 (.ref T)))->s.heap.objs.size<=T->G7 h' T->(∀ b o,b≠x->b ∉ Oc (env :: outer)->s.heap.get? b=some o->h'.get? b=some o)->
   (∀ b o,b≠x->s.heap.get? b=some o->∃ sl,h'.get? b=some {o with slots:=sl})->Q () {s with heap:=h'}):
  wpAny M A (do let c ← frameOf env;let pl ← entryPlaceOf L had;let t ← EntryCells.newEntry hd c .none (rawInt L) .none pl;setField (.ref x) 1 t) Q E s:=by
 refine XJ (wpAny_frameOf_fun fr ff fL fun g1 so=>?_)
 refine XJ (wpAny_entryPlaceOf fun pl isp=>?_)
 unfold EntryCells.newEntry newFields
 refine XJ (Y6 ?_ (isp.sizeOk5 _ _ _ _ _))
 have x1:g1.get? x=some (gO C dd vs):=(so.2.1 x nx).trans ex
 have lts:([hd,Value.ref L,.none,rawInt L,.none] ++ (if pl.isEmpty then List.replicate 6 Value.none else pl)).toArray.size > 3:=by
  simp only [Yc,Za,Y5,List.length_nil];omega
 generalize ([hd,Value.ref L,.none,rawInt L,.none] ++ (if pl.isEmpty then List.replicate 6 Value.none else pl)).toArray=tv at lts
 have x2:(g1.push {cls:=.type "traceback",dict:=none,data:=.fields tv}).get? x=some (gO C dd vs):=XN _ x1
 have nTx:g1.objs.size≠x:=Zt (X5 x1)
 have t2:(g1.push {cls:=.type "traceback",dict:=none,data:=.fields tv}).get? g1.objs.size=some {cls:=.type "traceback",dict:=none,data:=.fields tv}:=X4 _ rfl
 have o2:∀ b o,g1.get? b=some o->(g1.push {cls:=.type "traceback",dict:=none,data:=.fields tv}).get? b=some o:=fun b o e=>XN _ e
 refine Z5 (vs:=vs) x2 rfl sz ?_
 have e3:=YM (Obj.mapFields (·.setIfInBounds 1 (Value.ref g1.objs.size))) x2 rfl
 have ot:∀ b,b≠x->((g1.push {cls:=.type "traceback",dict:=none,data:=.fields tv}).update x (Obj.mapFields (·.setIfInBounds 1 (Value.ref g1.objs.size)))).get? b=(g1.push {cls:=.type "traceback",dict:=none,data:=.fields tv}).get? b:=fun b hb=>YB _ _ (Ne.symm hb)
 refine k _ g1.objs.size e3 (by rw [so.1];exact XQ _) ⟨_,tv,(ot _ nTx).trans t2,rfl,lts⟩ (fun b o hb hf e=>?_) (fun b o hb e=>?_)
 ·rw [ot b hb];exact o2 b o ((so.2.1 b hf).trans e)
 ·obtain ⟨sl,q⟩:=so.2.2 b o e
  exact ⟨sl,by rw [ot b hb];exact o2 b _ q⟩
structure Et (fs:List Addr) (x C:Addr) (dd:Option Addr) (hd:Option Addr) (h h':Heap) (T:Addr):Prop where
 obj:∃ vs,h'.get? x=some (gO C dd vs)/\vs[1]?=some (.ref T)/\vs[2]?=some .none
 tb:G7 h' T
 ne:T≠x
 new:h.objs.size<=T\/hd=some T
 keep:∀ b o,b≠x->some b≠hd->b ∉ fs->h.get? b=some o->h'.get? b=some o
 slot:∀ b o,b≠x->some b≠hd->h.get? b=some o->∃ sl,h'.get? b=some {o with slots:=sl}
 tail:∀ b o,hd=some b->h.get? b=some o->∃ o',h'.get? b=some o'
theorem Wn {base:Heap} {env:Env} {outer:List Env} {L x C:Addr} {dd:Option Addr} {vs:Array Value} {Q:Unit->Shared->Prop} {s:Shared}
  (fr:A.frames=some (env :: outer)) (ff:s.heap.FunFrames base (env :: outer)) (fL:env.frame=some L) (ex:s.heap.get? x=some (gO C dd vs)) (h1:vs[1]?=some .none/\vs[2]?=some .none) (nx:x ∉ Oc (env :: outer))
  (k:∀ h' T,Et (Oc (env :: outer)) x C dd none s.heap h' T->Q () {s with heap:=h'}):wpAny M A (noteFrame (.ref x) env) Q E s:=by
 unfold noteFrame
 simp only [fL]
 refine XJ (YL ex rfl h1.1 ?_)
 rw [if_neg (by decide)]
 have sz:1 < vs.size:=(Array.getElem?_eq_some_iff.mp h1.1).1
 refine xJ fr ff fL ex sz nx fun h' T a1 a2 a3 a4 a5=>k h' T ⟨⟨_,a1,by simp [sz],by rw [Array.getElem?_setIfInBounds_ne (by decide)];exact h1.2⟩,a3,?_,.inl a2,fun b o hb _ hf e=>a4 b o hb hf e,fun b o hb _ e=>a5 b o hb e,fun b o z=>by cases z⟩
 exact Zt (Yd (X5 ex) a2)
theorem Wo {base:Heap} {env:Env} {outer:List Env} {L x C T0:Addr} {dd:Option Addr} {vs:Array Value} {Q:Unit->Shared->Prop} {s:Shared}
  (fr:A.frames=some (env :: outer)) (ff:s.heap.FunFrames base (env :: outer)) (fL:env.frame=some L) (ex:s.heap.get? x=some (gO C dd vs)) (h1:vs[1]?=some (.ref T0)/\vs[2]?=some .none) (t0:G7 s.heap T0) (ne:T0≠x) (nx:x ∉ Oc (env :: outer)) (nT:T0 ∉ Oc (env :: outer))
  (k:∀ h' T,Et (Oc (env :: outer)) x C dd (some T0) s.heap h' T->Q () {s with heap:=h'}):wpAny M A (noteFrame (.ref x) env) Q E s:=by
 obtain ⟨oT,ts,g,d,l3⟩:=id t0
 unfold noteFrame
 simp only [fL]
 refine XJ (YL ex rfl h1.1 ?_)
 rw [if_pos (show (Value.ref T0 != Value.none)=true from by simp)]
 refine XJ (YL g d (ZV l3) ?_)
 by_cases q:(ts[3] == rawInt L)=true
 ·rw [if_pos q]
  exact XS (k _ T0 ⟨⟨vs,ex,h1⟩,t0,ne,.inr rfl,fun b o _ _ _ e=>e,fun b o _ _ e=>⟨o.slots,e⟩,fun b o _ e=>⟨o,e⟩⟩)
 ·rw [if_neg q]
  refine XJ (Z5 g d l3 ?_)
  have tT:=YM (Obj.mapFields (·.setIfInBounds 3 Value.none)) g (ZS (Zn d _))
  have ot:∀ b,b≠T0->(s.heap.update T0 (Obj.mapFields (·.setIfInBounds 3 Value.none))).get? b=s.heap.get? b:=fun b hb=>YB _ _ (Ne.symm hb)
  have sz:1 < vs.size:=(Array.getElem?_eq_some_iff.mp h1.1).1
  have ff2:(s.heap.update T0 (Obj.mapFields (·.setIfInBounds 3 Value.none))).FunFrames base (env :: outer):=ff.of_keeps fun b o hb hn=>by
   refine ⟨o,(ot b (fun z=>?_)).trans hb,rfl⟩
   rw [z,g] at hb;cases hb;exact hn _ d
  refine xJ (s:={s with heap:=s.heap.update T0 (Obj.mapFields (·.setIfInBounds 3 Value.none))}) fr ff2 fL ((ot x (Ne.symm ne)).trans ex) sz nx fun h' T a1 a2 a3 a4 a5=>k h' T ⟨⟨_,a1,by simp [sz],by rw [Array.getElem?_setIfInBounds_ne (by decide)];exact h1.2⟩,a3,?_,.inl (by rw [Heap.size_update] at a2;exact a2),fun b o hb h0 hf e=>a4 b o hb hf ((ot b (fun z=>h0 (by rw [z]))).trans e),fun b o hb h0 e=>a5 b o hb ((ot b (fun z=>h0 (by rw [z]))).trans e),fun b o hb e=>?_⟩
  ·exact Zt (Yd (X5 ex) (by rw [Heap.size_update] at a2;exact a2))
  ·cases hb
   obtain ⟨sl,z⟩:=a5 T0 _ ne tT
   exact ⟨_,z⟩
theorem Wq {x C T0:Addr} {dd:Option Addr} {vs:Array Value} {Q:Unit->Shared->Prop} {s:Shared} (ex:s.heap.get? x=some (gO C dd vs)) (h1:vs[1]?=some (.ref T0)/\vs[2]?=some .none) (t0:G7 s.heap T0) (ne:T0≠x)
  (k:∀ h',Et [] x C dd (some T0) s.heap h' T0->Q () {s with heap:=h'}):wpAny M A (setFlight (.ref x) none) Q E s:=by
 obtain ⟨oT,ts,g,d,l3⟩:=id t0
 unfold setFlight
 refine XJ (YL ex rfl h1.1 ?_)
 rw [if_pos (show (Value.ref T0 != Value.none)=true from by simp)]
 refine Z5 g d l3 (k _ ?_)
 have d2:=Zn d (·.setIfInBounds 3 ((none:Option Addr).elim Value.none fun f=>rawInt f))
 have tT:=YM (Obj.mapFields (·.setIfInBounds 3 ((none:Option Addr).elim Value.none fun f=>rawInt f))) g (ZS d2)
 have ot:∀ b,b≠T0->(s.heap.update T0 (Obj.mapFields (·.setIfInBounds 3 ((none:Option Addr).elim Value.none fun f=>rawInt f)))).get? b=s.heap.get? b:=fun b hb=>YB _ _ (Ne.symm hb)
 exact ⟨⟨vs,(ot x (Ne.symm ne)).trans ex,h1⟩,⟨_,_,tT,d2,by simpa using l3⟩,ne,.inr rfl,fun b o _ h0 _ e=>(ot b (fun z=>h0 (by rw [z]))).trans e,fun b o _ h0 e=>⟨o.slots,(ot b (fun z=>h0 (by rw [z]))).trans e⟩,fun b o hb e=>by cases hb;exact ⟨_,tT⟩⟩
end
def Wr:List Value:=[.type "ValueError",.type "Exception",.type "BaseException",.type "object"]
def Vn (K:W.Frag) (D:Addr):Bool:=match K.lookup D with
 | some ⟨.type "type",_,.cls cd,sl⟩=>(match cd.mro,sl.toList with
  | .ref E :: bm,[_,_,_,_,some (.builtin n),_]=>E == D && n == "ValueError.__new__" && cd.hasDel == false && cd.hasDict && PySem.W.tailIn K Wr bm
  | _,_=>false)
 | _=>false
theorem vL {K:W.Frag} {D:Addr} (q:Vn K D=true):∃ nm qn N bs bm sn sub ab col dd k0 k1 k2 k3 k5,K.lookup D=some (excClassObj nm qn D N bs bm true sn sub ab col dd k0 k1 k2 k3 k5 "ValueError.__new__")/\∀ h,K.In h->OwnTail h Wr bm:=by
 unfold Vn at q
 split at q
 ·rename_i dd cd sl ho
  split at q
  ·rename_i D' bm k0 k1 k2 k3 n k5 hm hs
   simp only [Yg,ZF] at q
   obtain ⟨⟨⟨⟨e1,e2⟩,e3⟩,e4⟩,e5⟩:=q
   subst e1 e2
   obtain ⟨nm,bs,mro,ns,qn,hd,sn,sub,ab,col,del⟩:=cd
   dsimp only at hm e3 e4
   subst hm e3 e4
   have hsl:sl= #[k0,k1,k2,k3,some (.builtin "ValueError.__new__"),k5]:=by
    obtain ⟨l⟩:=sl
    dsimp only at hs
    rw [hs]
   subst hsl
   exact ⟨nm,qn,ns,bs,bm,sn,sub,ab,col,dd,k0,k1,k2,k3,k5,ho,fun h X=>PySem.W.tail_of_in X e5⟩
  ·cases q
 ·cases q
section
variable {prog:Program} {w:World} {A:Around} {K:W.Frag} {D f:Addr} {E:Value->Shared->Prop}
theorem z9 {h:Heap} {g:Array GenState} {d:Drawn} {t:Nat} {os:OsState} {us:List Value} {Q:Fin->Shared->Prop} (X:K.In h) (hx:Vn K D=true)
  (hi:PySem.W.findIn K (.ref D) "__init__"=some (some (.ref f))) (hf:PySem.W.typeIn K (.ref f)=some (.type "function")) (hl:us.length<=sizeLine)
  (k:wpAny (model prog w) A (call (.ref f) (.ref (h.objs.size+1) :: us)) (fun r s'=>r= .none/\Q (.done (.ret (.ref (h.objs.size+1)))) s') E
   ⟨(h.push {cls:=.type "tuple",data:=.seq us.toArray}).push (gO D none #[.ref h.objs.size,.none,.none,.none,.bool false,.none]),g,d,t,os⟩):
  wpAny (model prog w) A (Builtin.«type.__call__» ⟨.ref D :: us,[]⟩) Q E ⟨h,g,d,t,os⟩:=by
 obtain ⟨nm,qn,N,bs,bm,sn,sub,ab,col,dd,k0,k1,k2,k3,k5,lk0,tl⟩:=vL hx
 have T:=tl h X
 have hD:=X _ _ lk0
 have L3:=Zo (M:=model prog w) X hi
 have L4:=PySem.W.bind_fn (M:=model prog w) X (.ref (h.objs.size+1)) hf
 repeat (first | with_reducible refine Zk hD ?_ | with_reducible refine wpAny_madeBy_exc hD ?_ | wp_step)
 refine codeAny_call_builtin_code (Code.quiet_builtin _ F.excBase_ValueError.quiet) (wpAny_check_new_subT F.excBase_ValueError T hD (codeAny_exc_new_subT F.excBase_ValueError T hD ?_ hl))
 show wpAny _ _ _ _ _ _
 have keep:∀ b o,h.get? b=some o->((h.push {cls:=.type "tuple",data:=.seq us.toArray}).push (gO D none #[.ref h.objs.size,.none,.none,.none,.bool false,.none])).get? b=some o:=fun b o q=>XN _ (XN _ q)
 have gx:((h.push {cls:=.type "tuple",data:=.seq us.toArray}).push (gO D none #[.ref h.objs.size,.none,.none,.none,.bool false,.none])).get? (h.objs.size+1)=some (gO D none #[.ref h.objs.size,.none,.none,.none,.bool false,.none]):=by
  have:=X4 (h.push {cls:=.type "tuple",data:=.seq us.toArray}) (o:=gO D none #[.ref h.objs.size,.none,.none,.none,.bool false,.none]) rfl
  rwa [YW] at this
 have hD1:=keep _ _ hD
 have M3:=L3.keeps keep
 have M4:=L4.keeps keep
 have cD:(Value.ref D :: bm).contains (.ref D)=true:=by simp
 unfold gO at gx M3 M4 hD1 k
 unfold isInstance
 repeat (first | with_reducible refine Zk gx ?_ | (with_reducible refine Z1 hD1 ?_;rw [cD]) | wp_step)
 show wpAny _ _ (typeLookup (.ref D) _) _ _ _
 refine M3.at ?_
 refine Y7 (XJ (M4.at ?_))
 dsimp only
 refine XJ (YK k (fun r s' hr=>?_) fun _ _ z=>z)
 obtain ⟨rfl,z⟩:=hr
 wp_walk
 exact z
theorem TV {s:Shared} {us:List Value} {Q:Value->Shared->Prop} (X:K.In s.heap) (hx:Vn K D=true)
  (hi:PySem.W.findIn K (.ref D) "__init__"=some (some (.ref f))) (hf:PySem.W.typeIn K (.ref f)=some (.type "function")) (hl:us.length<=sizeLine)
  (k:wpAny (model prog w) (A.under (.builtin "type.__call__" ⟨.ref D :: us,[]⟩)) (call (.ref f) (.ref (s.heap.objs.size+1) :: us)) (fun r s'=>r= .none/\Q (.ref (s.heap.objs.size+1)) s') E
   {s with heap:=(s.heap.push {cls:=.type "tuple",data:=.seq us.toArray}).push (gO D none #[.ref s.heap.objs.size,.none,.none,.none,.bool false,.none])}):
  wpAny (model prog w) A (call (.ref D) us) Q E s:=by
 obtain ⟨h,g,d,t,os⟩:=s
 obtain ⟨nm,qn,N,bs,bm,sn,sub,ab,col,dd,k0,k1,k2,k3,k5,lk0,tl⟩:=vL hx
 have hD:=X _ _ lk0
 have f1:=tc_lookup
 have f2:=tc_bind (.ref D)
 have hT:(⟨h,g,d,t,os⟩:Shared).TypeIs (.ref D) "type":=⟨_,hD,rfl⟩
 refine Aag (codeAny_of_tree ?_)
 show wpAny _ _ (callAny (.ref D) _) _ _ _
 repeat (any_goals (first | assumption | with_reducible refine Zk hD ?_ | wp_step))
 refine ⟨rfl,codeAny_call_builtin_at (Code.quiet_builtin _ (by trivial)) entry_typeCall (wpAny_check_type_call_sub hD (z9 X hx hi hf hl ?_))⟩
 exact k
end
def sZ (x C dx:Addr):HO:=.ext fun h=>∃ vs,h.get? x=some (gO C (some dx) vs)/\vs[2]?=some .none
def lB (x C:Addr):HO:=.ext fun h=>∃ t,h.get? x=some (gO C none #[.ref t,.none,.none,.none,.bool false,.none])
theorem Eu {P:Program} {w:World} {H:Hp} {h:Heap} {x C dx:Addr} {vs:Array Value} (e:h.get? x=some (gO C (some dx) vs)) (h2:vs[2]?=some .none):ObjOk P w H h x (sZ x C dx):=
 ⟨⟨vs,e,h2⟩,⟨_,e⟩,fun h1 h2 ⟨vs,e,z⟩ k=>⟨vs,k _ e,z⟩⟩
theorem Ew {P:Program} {w:World} {H:Hp} {h:Heap} {x C dx:Addr} (ok:HOk P w H h) (e:H x=some (sZ x C dx)):∃ vs,h.get? x=some (gO C (some dx) vs)/\vs[2]?=some .none:=(ok _ _ e).1
structure Head (X:Cx) (pins:List (Addr×Obj)) (H:Hp) (x C dx T:Addr) (h:Heap):Prop where
 obj:∃ vs,h.get? x=some (gO C (some dx) vs)/\vs[1]?=some (.ref T)/\vs[2]?=some .none
 tb:G7 h T
 fp:mR X pins H T
 tr:H x=some (sZ x C dx)
theorem Head.ne {X:Cx} {pins:List (Addr×Obj)} {H:Hp} {x C dx T:Addr} {h:Heap} (a:Head X pins H x C dx T h):T≠x:=fun z=>by
 have:=a.fp.1
 rw [z,a.tr] at this;cases this
def Fly (X:Cx) (pins:List (Addr×Obj)) (H:Hp) (x C dx:Addr) (h:Heap):Prop:=
 H x=some (sZ x C dx)/\((∃ vs,h.get? x=some (gO C (some dx) vs)/\vs[1]?=some .none/\vs[2]?=some .none)\/∃ T,Head X pins H x C dx T h)
section
variable {X:Cx} {pins:List (Addr×Obj)} {U:St} {H:Hp} {s:Shared} {x C dx:Addr} {h':Heap} {T:Addr} {hd:Option Addr}
theorem Inv.noted {fs:List Addr} (I:Inv X pins U H s) (hx:H x=some (sZ x C dx)) (hh:∀ b,hd=some b->mR X pins H b) (hf:∀ b∈fs,b∈X.env.locals :: X.fs) (N:Et fs x C (some dx) hd s.heap h' T):Inv X pins U H {s with heap:=h'}:=by
 obtain ⟨m,⟨oL,esL,epL,hoL,rL⟩,_⟩:=id I.loc
 have fsF:∀ b∈fs,H b=none:=fun b hb=>by
  rcases X7.mp (hf b hb) with e | hb
  ·rw [e];exact I.free
  ·obtain ⟨_,o,ho,_⟩:=I.ok.funs.mem hb
   exact I.base.free b o ho (I.ok.frf b hb) fun z=>I.ok.exfs b z hb
 have nx:∀ b,H b=none->b≠x:=fun b n z=>by rw [z,hx] at n;cases n
 have hdF:∀ b,hd=some b->H b=none:=fun b e=>(hh b e).1
 have mem:∀ b,b ∉ hd.toList->some b≠hd:=fun b nb z=>nb (by rw [← z];simp)
 refine I.step (g':=s.gens) (d':=s.drawn) (t':=s.toks) (ch:=hd.toList) (fun b hb=>?_) (fun b o hL hb hc e n=>?_) (fun b o hL hb hc e n=>?_) (fun _ _ _ _ n=>n) (fun b o hc e=>?_) (fun _ _ e=>e) (fun _ _ _ e=>e) (fun b ps e=>⟨#[],by rw [e];simp⟩) (fun m hm=>?_) (fun b u e=>?_) I.bare
 ·have e:hd=some b:=by cases hd <;> simp_all
  obtain ⟨_,a2,_,a4,a5,a6⟩:=hh b e
  exact ⟨a4,a2,a5,a6⟩
 ·refine N.keep b o (nx b n) (mem b hc) (fun z=>?_) e
  rcases X7.mp (hf b z) with q | q
  ·exact hL q
  ·exact hb q
 ·exact N.slot b o (nx b n) (mem b hc) e
 ·by_cases q:b=x
  ·obtain ⟨vs,z,_⟩:=N.obj
   exact ⟨_,by rw [q];exact z⟩
  ·obtain ⟨sl,z⟩:=N.slot b o q (mem b hc) e
   exact ⟨_,z⟩
 ·obtain ⟨o,es,ep,ho,r⟩:=hm
  obtain ⟨sl,z⟩:=N.slot _ o (nx _ I.free) (fun q=>(hh _ q.symm).2.1 rfl) ho
  exact ⟨_,es,ep,z,r⟩
 ·by_cases q:b=x
  ·subst q
   rw [hx] at e;cases e
   obtain ⟨vs,z,_,z2⟩:=N.obj
   exact Eu z z2
  ·refine (I.hok b u e).stay (fun c v hc z=>?_) (fun _ q=>q) fun _ _ q=>q
   have tc:∃ u,H c=some u:=by
    rcases hc with rfl | hc
    ·exact ⟨_,e⟩
    ·exact ⟨_,hc⟩
   obtain ⟨uc,tc⟩:=tc
   refine N.keep c v (fun zz=>?_) (fun zz=>?_) (fun zz=>?_) z
   ·rcases hc with rfl | hc
    ·exact q zz
    ·rw [zz,hx] at hc;cases hc
   ·rw [hdF c zz.symm] at tc;cases tc
   ·rw [fsF c zz] at tc;cases tc
theorem Aa {A:Around} {E:Value->Shared->Prop} {Q:Unit->Shared->Prop} (I:Inv X pins U H s) (hst:X.stack=X.env :: X.outer) (hfr:X.env.frame=some X.env.locals) (hA:A.frames=some X.stack) (F:Fly X pins H x C dx s.heap)
  (k:∀ h' T,Inv X pins U H {s with heap:=h'}->Head X pins H x C dx T h'->Q () {s with heap:=h'}):wpAny (model X.prog X.w) A (noteFrame (.ref x) X.env) Q E s:=by
 have ff:s.heap.FunFrames X.base (X.env :: X.outer):=hst ▸ I.stack
 have sub:∀ b∈Oc (X.env :: X.outer),b∈X.env.locals :: X.fs:=fun b hb=>I.stkSub b (by rw [hst];exact hb)
 have nf:∀ b u,H b=some u->b ∉ Oc (X.env :: X.outer):=fun b u e z=>by
  rw [I.stkFree b (by rw [hst];exact z)] at e;cases e
 obtain ⟨hx,⟨vs,e,h1⟩ | ⟨T0,hT⟩⟩:=F
 ·refine Wn (hst ▸ hA) ff hfr e h1 (nf x _ hx) fun h' T N=>?_
  have J:=I.noted hx (fun b z=>by cases z) sub N
  refine k h' T J ⟨N.obj,N.tb,?_,hx⟩
  have zT:s.heap.objs.size<=T:=by rcases N.new with z | z;exact z;cases z
  exact I.fpOk zT (I.hok.fresh zT)
 ·obtain ⟨vs,e,h1⟩:=hT.obj
  refine Wo (hst ▸ hA) ff hfr e h1 hT.tb hT.ne (nf x _ hx) (fun z=>?_) fun h' T N=>?_
  ·rcases X7.mp (sub T0 z) with q | q
   ·exact hT.fp.2.1 q
   ·exact hT.fp.2.2.1 q
  ·have J:=I.noted hx (fun b z=>by cases z;exact hT.fp) sub N
   refine k h' T J ⟨N.obj,N.tb,?_,hx⟩
   rcases N.new with z | z
   ·exact I.fpOk z (I.hok.fresh z)
   ·cases z;exact hT.fp
theorem rN {A:Around} {E:Value->Shared->Prop} {Q:Unit->Shared->Prop} (I:Inv X pins U H s) (F:Head X pins H x C dx T s.heap)
  (k:∀ h',Inv X pins U H {s with heap:=h'}->Head X pins H x C dx T h'->Q () {s with heap:=h'}):wpAny (model X.prog X.w) A (setFlight (.ref x) none) Q E s:=by
 obtain ⟨vs,e,h1⟩:=F.obj
 refine Wq e h1 F.tb F.ne fun h' N=>?_
 exact k h' (I.noted F.tr (fun b z=>by cases z;exact F.fp) (fun b z=>absurd z (by simp)) N) ⟨N.obj,N.tb,F.fp,F.tr⟩
def Od (P:Program) (w:World):Gu:=fun outer H s E e s'=>∃ x C dx T H',e= .ref x/\s'.os=s.os/\AllBare s'.gens/\Un (frs outer) [] H H' s.heap s'.heap/\HOk P w H' s'.heap/\H' x=some (sZ x C dx)/\H' T=none/\s.heap.objs.size<=T/\
 (∃ vs,s'.heap.get? x=some (gO C (some dx) vs)/\vs[1]?=some (.ref T)/\vs[2]?=some .none)/\G7 s'.heap T/\E (.ref C) (some x) H'
def XE (X:Cx) (pins:List (Addr×Obj)) (R:St->XK) (e:Value) (s':Shared):Prop:=∃ x C dx U H',e= .ref x/\Inv X pins U H' s'/\Fly X pins H' x C dx s'.heap/\R U (.ref C) (some x) H'
theorem Ex {R:St->XK} {e:Value} {s':Shared} (I:Inv X pins U H s) (c:Od X.prog X.w X.stack H s (R U) e s'):XE X pins R e s':=by
 obtain ⟨x,C,dx,T,H',rfl,os,bare,un,hok,tx,tT,zT,ob,tb,r⟩:=c
 obtain ⟨hh,g,d,t,os'⟩:=s'
 obtain rfl:os'=s.os:=os
 have J:=I.call (h':=hh) (g':=g) (d':=d) (t':=t) (ch:=[]) un hok bare (fun b z=>absurd z (by simp))
 exact ⟨x,C,dx,U,H',rfl,J,⟨tx,.inr ⟨T,ob,tb,I.fpOk zT tT,tx⟩⟩,r⟩
def lC (X:Cx) (R:St->XK):Prop:=∀ (pins:List (Addr×Obj)) (e:Value) (s':Shared),XE X pins R e s'->X.xe e s'
end
theorem dj {P:Program} {w:World} {K:W.Frag} {mg:Str->Option Value} {base:Heap} {N:List Str} {qual:Str} {scope:Scope} {f:Addr} {cd:Value} {A:Around} {outer:List Env} {s:Shared} {H:Hp} {E:XK}:
  lC (qF (Od P w) P w K mg base N qual scope f cd A outer s H E) (fun _=>E):=by
 rintro pins e s' ⟨x,C,dx,U,H',he,I,F,r⟩
 subst he
 show wpAny _ _ (leaving _ _) _ _ _
 unfold leaving
 refine XJ (Aa (X:=qF (Od P w) P w K mg base N qual scope f cd A outer s H E) I rfl rfl I.ok.frames F fun h1 T J1 F1=>?_)
 refine rN (X:=qF (Od P w) P w K mg base N qual scope f cd A outer s H E) J1 F1 fun h2 J2 F2=>?_
 refine ⟨x,C,dx,T,H',rfl,J2.os,J2.bare,J2.base,J2.hok,F2.tr,F2.fp.1,?_,F2.obj,F2.tb,r⟩
 rcases F2.fp.2.2.2.1 with z | z
 ·exact absurd (show T∈([]:List Addr) from z) (by simp)
 ·exact z
def mX (d:Addr) (fs:List (Str×V)):HO:=.ext fun h=>∃ mA,h.Ns1 d mA/\∀ f,RelO (fs.lookup f) (mA f)
theorem yC {P:Program} {w:World} {H:Hp} {h:Heap} {d:Addr} {fs:List (Str×V)} {mA:Str->Option Value} (n:h.Ns1 d mA) (r:∀ f,RelO (fs.lookup f) (mA f)):ObjOk P w H h d (mX d fs):=by
 refine ⟨⟨mA,n,r⟩,let ⟨o,_,_,e,_⟩:=n;⟨o,e⟩,fun h1 h2 ⟨m,n,r⟩ k=>⟨m,?_,r⟩⟩
 obtain ⟨o,es,ep,e,q⟩:=n
 exact ⟨o,es,ep,k _ e,q⟩
theorem uX {P:Program} {w:World} {H:Hp} {h:Heap} {d:Addr} {fs:List (Str×V)} (ok:HOk P w H h) (e:H d=some (mX d fs)):∃ mA,h.Ns1 d mA/\∀ f,RelO (fs.lookup f) (mA f):=(ok _ _ e).1
def iW (x C d:Addr):HO:=.ext fun h=>∃ t,h.get? x=some (gO C (some d) #[.ref t,.none,.none,.none,.bool false,.none])
theorem G8 {P:Program} {w:World} {H:Hp} {h:Heap} {x C d t:Addr} (e:h.get? x=some (gO C (some d) #[.ref t,.none,.none,.none,.bool false,.none])):ObjOk P w H h x (iW x C d):=
 ⟨⟨t,e⟩,⟨_,e⟩,fun h1 h2 ⟨t,e⟩ k=>⟨t,k _ e⟩⟩
theorem tD {P:Program} {w:World} {H:Hp} {h:Heap} {x C d:Addr} (ok:HOk P w H h) (e:H x=some (iW x C d)):∃ t,h.get? x=some (gO C (some d) #[.ref t,.none,.none,.none,.bool false,.none]):=(ok _ _ e).1
def iK:List Value->Bool
 | [.type a,.type b,.type c,.type d]=>a == "ValueError" && b == "Exception" && c == "BaseException" && d == "object"
 | .ref _ :: r=>iK r
 | _=>false
theorem uy {l:List Value} (e:iK l=true):(∃ a r,l= .ref a :: r/\iK r=true)\/l=Wr:=by
 unfold iK at e
 split at e
 ·simp only [Yg,ZF] at e
  obtain ⟨⟨⟨rfl,rfl⟩,rfl⟩,rfl⟩:=e
  exact .inr rfl
 ·exact .inl ⟨_,_,rfl,e⟩
 ·cases e
theorem uz (self:Value):∀ (l:List Value),iK l=true->refuseLoop self "__setattr__" l=pure ()
 | [],e=>by cases e
 | v :: r,e=>by
  rcases uy e with ⟨a,r',q,e'⟩ | q
  ·cases q
   rw [refuseLoop_ref]
   exact uz self r e'
  ·rw [q]
   exact F.store_ValueError.passes self
theorem vM:∀ (l:List Value),iK l=true->l.contains (.type "object")=true/\l.contains (.type "BaseException")=true
 | [],e=>by cases e
 | v :: r,e=>by
  rcases uy e with ⟨a,r',q,e'⟩ | q
  ·cases q
   obtain ⟨h1,h2⟩:=vM r e'
   exact ⟨by rw [Zg,h1,Bool.or_true],by rw [Zg,h2,Bool.or_true]⟩
  ·rw [q]
   decide
def TX (K:W.Frag) (C:Addr):Bool:=Vn K C && (PySem.W.clsIn K C).any (fun cd=>iK cd.mro && cd.hasDict) && PySem.W.findIn K (.ref C) "__setattr__" == some (some (.builtin "object.__setattr__")) &&
 PySem.W.findIn K (.ref C) "__getattribute__" == some (some (.builtin "BaseException.__getattribute__")) && PySem.W.findIn K (.ref C) "__getattr__" == some none
structure XCls (K:W.Frag) (C:Addr):Prop where
 xi:Vn K C=true
 ov:∃ cd,PySem.W.clsIn K C=some cd/\iK cd.mro=true/\cd.hasDict=true
 sa:PySem.W.findIn K (.ref C) "__setattr__"=some (some (.builtin "object.__setattr__"))
 ga:PySem.W.findIn K (.ref C) "__getattribute__"=some (some (.builtin "BaseException.__getattribute__"))
 gh:PySem.W.findIn K (.ref C) "__getattr__"=some none
theorem Oe {K:W.Frag} {C:Addr} (h:TX K C=true):XCls K C:=by
 unfold TX at h
 simp only [Yg,ZF] at h
 obtain ⟨⟨⟨⟨h1,h2⟩,h3⟩,h4⟩,h5⟩:=h
 obtain ⟨cd,a,b⟩:=PySem.W.any_some h2
 simp only [Yg] at b
 exact ⟨h1,⟨cd,a,b.1,b.2⟩,h3,h4,h5⟩
theorem Og {l:List Value} (e:iK l=true):l.isEmpty=false:=by
 cases l with
 | nil=>cases e
 | cons _ _=>rfl
section
variable {prog:Program} {w:World} {A:Around} {s:Shared} {K:W.Frag} {x C:Addr} {R:Result->Shared->Prop}
theorem XCls.mro {c:Value} {b:Bool} (k:XCls K C) (h:∀ cd,PySem.W.clsIn K C=some cd->iK cd.mro=true->cd.mro.contains c=b):PySem.W.mroIn K C c=some b:=by
 obtain ⟨cd,a,o,_⟩:=k.ov
 unfold PySem.W.mroIn
 rw [a,Option.bind_some,if_neg (by rw [Og o];decide),h cd a o]
theorem XCls.isObj (k:XCls K C):PySem.W.mroIn K C (.type "object")=some true:=k.mro fun cd _ o=>(vM _ o).1
theorem XCls.isExc (k:XCls K C):PySem.W.mroIn K C (.type "BaseException")=some true:=k.mro fun cd _ o=>(vM _ o).2
theorem QS {ox:Obj} {od:Option Obj} {name:Str} {tk:Tok} {v:Value} (X:K.In s.heap) (I:PySem.W.InstAt s.heap x ox C od) (c:XCls K C) (ht:NoAttr K C name)
  (h:wpAny (model prog w) A.in1 (Builtin.ObjectAttr.storeInOwnDict (.ref x) (.ref C) (.str name tk) name v false)
   (fun fin s'=>match fin with | .done f=>R (.ok f) s' | .again c'=>c'.quiet=true/\codeAny (model prog w) A c' R s') (fun e s'=>R (.error e) s') s):
  codeAny (model prog w) A (.call (.builtin "object.__setattr__") ⟨[.ref x,.str name tk,v],[]⟩) R s:=by
 obtain ⟨cd,hc,ho,_⟩:=c.ov
 have sub:PySem.W.Looks (model prog w) s.heap (isInstance (.ref x) (.type "object")) true:=I.type.andThen (PySem.W.looks_mroIn X c.isObj)
 refine Aaj F.store_object.slot.plain F.store_object.entry (@PySem.W.check_slot (model prog w) _ _ s "object.__setattr__" "object" "__setattr__" (.ref x) [.str name tk,v] [] _ F.store_object.kind F.store_object.split sub (F.store_object.args (.ref x) (.str name tk) v) ?_)
 have hm:PySem.W.Looks (model prog w) s.heap (mroOf (.ref C)) cd.mro:=(PySem.W.looks_clsIn X hc).andThen .now
 have L3:PySem.W.Looks (model prog w) s.heap (Builtin.ObjectAttr.storeTaker? none) none:=.now
 rw [PySem.W.osa_eq,refuse_eq]
 refine XJ (XJ (I.type.here (XJ (hm.here ?_))))
 rw [uz _ _ ho]
 refine XS (XJ (I.type.here (XJ ((Zo X ht).here (XJ (L3.here ?_))))))
 exact h
end
theorem J7 {H:Hp} {d x:Addr} {a b c:HO} (n:d≠x):upd (upd (upd H d a) x b) d c=upd (upd H x b) d c:=by
 funext y
 unfold upd
 by_cases h:y=d
 ·simp [h]
 ·simp [h]
section
variable {X:Cx} {pins:List (Addr×Obj)} {U:St} {H:Hp} {s:Shared} {x C d:Addr} {fs:List (Str×V)} {f:Str} {v y:V} {u:Value} {A:Around} {E:Value->Shared->Prop}
theorem Ws {Q:Unit->Shared->Prop} (I:Inv X pins U H s) (e:H x=some (lB x C)) (c:XCls X.K C) (n:NoAttr X.K C f) (ry:RelV y u)
  (h:∀ s' d,H d=none->d≠x->Inv X pins U (upd (upd H x (iW x C d)) d (mX d [(f,y)])) s'->Q () s'):wpAny (model X.prog X.w) A (setAttr (.ref x) f u) Q E s:=by
 obtain ⟨⟨t,hx⟩,-,-⟩:ObjOk X.prog X.w H s.heap x (lB x C):=I.hok x _ e
 obtain ⟨cd,hc,ho,hd⟩:=c.ov
 have J:PySem.W.InstAt s.heap x (gO C none #[.ref t,.none,.none,.none,.bool false,.none]) C none:=⟨hx,rfl,rfl,True.intro⟩
 refine PySem.W.set_plain I.kIn J c.sa (QS (s:={s with toks:=s.toks+1}) I.kIn J c n ?_)
 refine XJ (XS (XJ (XJ (Aaf hx (XJ ((PySem.W.looks_clsIn (M:=model X.prog X.w) I.kIn hc).here (s:={s with toks:=s.toks+1}) ?_))))))
 rw [hd]
 have hp:s.heap.objs.size≠x:=Zt (X5 hx)
 have hx1:(s.heap.push {cls:=.type "dict",data:=.dict #[]}).get? x=some (gO C none #[.ref t,.none,.none,.none,.bool false,.none]):=XN _ hx
 have d1:(s.heap.push {cls:=.type "dict",data:=.dict #[]}).get? s.heap.objs.size=some {cls:=.type "dict",data:=.dict #[]}:=X4 _ rfl
 have n1:∀ {hh:Heap},hh.get? s.heap.objs.size=some {cls:=.type "dict",data:=.dict #[]}->hh.Ns1 s.heap.objs.size (fun _=>none):=fun q=>Heap.Ns1.of_empty ⟨_,#[],_,q,rfl,fun e he=>absurd he (by simp),fun _=>rfl⟩
 have I1:Inv X pins U (upd H s.heap.objs.size (mX s.heap.objs.size [])) {s with heap:=s.heap.push {cls:=.type "dict",data:=.dict #[]},toks:=s.toks+1}:=
  I.laid (t':=s.toks+1) (fun b o q=>XN _ q) (XQ _) (yC (n1 d1) fun g=>True.intro)
 refine XJ (wpAny_alloc' ?_)
 refine XJ (wpAny_update' hx1 ?_)
 have hx2:=YM (fun o:Obj=>({o with dict:=some s.heap.objs.size}:Obj)) hx1 rfl
 have ot:∀ b,b≠x->((s.heap.push {cls:=.type "dict",data:=.dict #[]}).update x fun o=>{o with dict:=some s.heap.objs.size}).get? b=(s.heap.push {cls:=.type "dict",data:=.dict #[]}).get? b:=fun b hb=>YB _ _ (Ne.symm hb)
 have e1:upd H s.heap.objs.size (mX s.heap.objs.size []) x=some (lB x C):=(aD (Ne.symm hp)).trans e
 have I2:Inv X pins U (upd (upd H s.heap.objs.size (mX s.heap.objs.size [])) x (iW x C s.heap.objs.size)) {s with heap:=(s.heap.push {cls:=.type "dict",data:=.dict #[]}).update x fun o=>{o with dict:=some s.heap.objs.size},toks:=s.toks+1}:=
  I1.write (t':=s.toks+1) (x:=x) (e:=x) (by rw [e1];exact True.intro) (.inl rfl) (fun b o hb q=>(ot b hb).trans q) ⟨_,hx2⟩ (G8 hx2)
 refine XS (XJ (XS (XJ ?_)))
 refine wpAny_nsSet1 (n1 ((ot _ hp).trans d1)) fun h' hn' hs=>?_
 obtain ⟨oD,esD,epD,hoD,hdD,hcD⟩:=hn'.count (PySem.Within.cons f u PySem.Within.nil)
 refine XJ (wpAny_lookBehind hoD (by rw [hdD];exact pastItsLine_dict (Yz hcD (by rw [Y5,List.length_nil,sizeLine_eq];omega))) ?_)
 refine XS (h _ s.heap.objs.size (I.hok.fresh (XQ _)) hp ?_)
 rw [← J7 (a:=mX s.heap.objs.size []) hp]
 refine I2.write (x:=s.heap.objs.size) (e:=s.heap.objs.size) (by rw [aD hp,aj];exact True.intro) (.inl rfl) (fun b o hb q=>(hs.2 b hb).trans q) ⟨_,hoD⟩ (yC hn' fun g=>?_)
 by_cases q:g=f
 ·have qb:(g == f)=true:=ZF.mpr q
  simp only [List.lookup,qb,if_pos q]
  exact ry
 ·have qb:(g == f)=false:=Y9.mpr q
  simp only [List.lookup,qb,if_neg q]
  exact True.intro
theorem Oh {h:Heap} {P:Program} {w:World} (ok:HOk P w H h) (e:H x=some (iW x C d)) (e2:H d=some (mX d fs)):d≠x:=fun z=>by
 subst z
 obtain ⟨t,a⟩:=tD ok e
 obtain ⟨mA,⟨o,es,ep,b,q,_⟩,_⟩:=uX ok e2
 rw [a] at b;cases b;cases q
theorem Wt {Q:Unit->Shared->Prop} (I:Inv X pins U H s) (e:H x=some (iW x C d)) (e2:H d=some (mX d fs)) (hl:fs.length < 1000) (c:XCls X.K C) (n:NoAttr X.K C f) (ry:RelV y u)
  (h:∀ s',Inv X pins U (upd H d (mX d (lO f y fs))) s'->Q () s'):wpAny (model X.prog X.w) A (setAttr (.ref x) f u) Q E s:=by
 have ne:=Oh I.hok e e2
 obtain ⟨vs,hx⟩:=tD I.hok e
 obtain ⟨mA,nA,rA⟩:=uX I.hok e2
 obtain ⟨cd,hc,ho,hd⟩:=c.ov
 have J:PySem.W.InstAt s.heap x (gO C (some d) #[.ref vs,.none,.none,.none,.bool false,.none]) C (some (Classical.choose nA)):=⟨hx,rfl,rfl,let ⟨_,_,q,_⟩:=Classical.choose_spec nA;q⟩
 refine PySem.W.set_plain I.kIn J c.sa (QS (s:={s with toks:=s.toks+1}) I.kIn J c n ?_)
 refine XJ (XS (XJ (XJ (Aaf hx (XJ ((PySem.W.looks_clsIn (M:=model X.prog X.w) I.kIn hc).here (s:={s with toks:=s.toks+1}) ?_))))))
 rw [hd]
 refine XS (a:=some d) (XJ (XS (XJ ?_)))
 refine wpAny_nsSet1 (s:={s with toks:=s.toks+1}) nA fun h' hn' hs=>?_
 have wi:PySem.Within mA (fs.map (·.1)):=fun z hz=>by
  have r:=rA z
  cases q:fs.lookup z with
  | none=>rw [q] at r;exact absurd (RelO.none_of r) hz
  | some a=>exact YZ.mpr ⟨(z,a),YS q,rfl⟩
 obtain ⟨oD,esD,epD,hoD,hdD,hcD⟩:=hn'.count (PySem.Within.cons f u wi)
 refine XJ (wpAny_lookBehind hoD (by rw [hdD];exact pastItsLine_dict (Yz hcD (by rw [Y5,X8,sizeLine_eq];omega))) ?_)
 refine XS (h _ ?_)
 refine I.write (x:=d) (e:=d) (by rw [e2];exact True.intro) (.inl rfl) (fun b o hb q=>(hs.2 b hb).trans q) ⟨_,hoD⟩ (yC hn' fun g=>?_)
 rw [o5]
 by_cases q:g=f
 ·rw [if_pos q,if_pos q];exact ry
 ·rw [if_neg q,if_neg q];exact rA g
theorem getx {b:Bool} {Q:Value->Shared->Prop} (I:Inv X pins U H s) (e:H x=some (sZ x C d)) (e2:H d=some (mX d fs)) (c:XCls X.K C) (n:NoAttr X.K C f) (l:fs.lookup f=some v)
  (h:∀ u s',Inv X pins U H s'->RelV v u->Q u s'):wpAny (model X.prog X.w) A (getAttr (.ref x) f b) Q E s:=by
 obtain ⟨vs,hx,_⟩:=Ew I.hok e
 obtain ⟨mA,nA,rA⟩:=uX I.hok e2
 obtain ⟨cd,hc,ho,hd⟩:=c.ov
 obtain ⟨od,hod,lk⟩:=sS nA
 obtain ⟨u,hu,ru⟩:=RelO.some_of (v:=v) (o:=mA f) (by rw [← l];exact rA f)
 have J:PySem.W.InstAt s.heap x (gO C (some d) vs) C (some od):=⟨hx,rfl,rfl,hod⟩
 have hf:PySem.W.findObj X.K C (some od) f=some (.value u):=PySem.W.findObj_own (by unfold PySem.W.hasDictIn;rw [hc];exact hd) n rfl (by rw [lk,hu])
 have Z:=h u {s with toks:=s.toks+1} (I.tok _) ru
 have KI:=I.kIn
 obtain ⟨hh,g,dr,t,os⟩:=s
 have L0:=J.type (M:=model X.prog X.w)
 have L1:=Zo (M:=model X.prog X.w) KI c.ga
 have L2:=Zo (M:=model X.prog X.w) KI c.gh
 have L3:=PySem.W.looks_find (M:=model X.prog X.w) KI J hf
 have sub:PySem.W.Looks (model X.prog X.w) hh (isInstance (.ref x) (.type "BaseException")) true:=L0.andThen (PySem.W.looks_mroIn KI c.isExc)
 have hb0:(onTheHeap (Value.ref C) && Value.builtin "BaseException.__getattribute__" == Value.builtin "object.__getattribute__")=false:=by
  rw [show (Value.builtin "BaseException.__getattribute__" == Value.builtin "object.__getattribute__")=false from by trivial,Bool.and_false]
 unfold getAttr getAttrBy
 refine XJ (wpAny_mkText (Y7 (XJ (L0.at (XJ (L1.at ?_))))))
 dsimp only
 rw [hb0]
 rw [if_neg Yb]
 unfold getAttrByItsOwn hookBefore
 refine XJ ?_
 rw [if_pos (show onTheHeap (Value.ref C)=true from rfl)]
 refine L2.at ?_
 refine XJ (ZL (Y7 ?_))
 have hb1:(b && onTheHeap (Value.builtin "BaseException.__getattribute__"))=false:=by cases b <;> rfl
 unfold callGetattribute
 rw [hb1,if_neg Yb]
 unfold boundAndCalled
 refine XJ (Zq (F.attrBase_ValueError.ga.bind (.ref x)) ?_)
 refine Aag (Aaj F.attrBase_ValueError.ga.plain F.entry_bexc_ga (@PySem.W.check_slot (model X.prog X.w) _ _ ⟨hh,g,dr,t+1,os⟩ "BaseException.__getattribute__" "BaseException" "__getattribute__" (.ref x) [.str f t] [] _ (by trivial) (by trivial) sub (F.args_bexc_ga (.ref x) (.str f t)) ?_))
 refine XJ (XS (XJ (XS (XJ (L0.at (XJ (L3.at ?_)))))))
 refine XS ?_
 show wpAny _ _ (handedOut u) _ _ _
 rw [PySem.W.handedOut_of (xg ru)]
 exact XS Z
end
def Ey (K:W.Frag) (C:Addr):Bool:=TX K C && PySem.W.findIn K (.ref C) "__class__" == some (some (.builtin "object.__class__")) && PySem.W.specialIn K (.builtin "object.__class__") "__get__" == some (some (.builtin "getset_descriptor.__get__")) && PySem.W.takesIn K (.builtin "object.__class__") == some true
structure Oi (K:W.Frag) (C:Addr):Prop where
 cls:XCls K C
 ca:PySem.W.findIn K (.ref C) "__class__"=some (some (.builtin "object.__class__"))
 cg:PySem.W.specialIn K (.builtin "object.__class__") "__get__"=some (some (.builtin "getset_descriptor.__get__"))
 ct:PySem.W.takesIn K (.builtin "object.__class__")=some true
theorem J8 {K:W.Frag} {C:Addr} (h:Ey K C=true):Oi K C:=by
 unfold Ey at h
 simp only [Yg,ZF] at h
 exact ⟨Oe h.1.1.1,h.1.1.2,h.1.2,h.2⟩
section
variable {prog:Program} {w:World} {A:Around} {E:Value->Shared->Prop} {s:Shared} {K:W.Frag} {x C:Addr} {ox od:Obj}
theorem G9 {Q:Option Value->Shared->Prop} (c:Oi K C) (KI:K.In s.heap) (J:PySem.W.InstAt s.heap x ox C (some od)) (h:Q (some (.ref C)) {s with toks:=s.toks+1}):wpAny (model prog w) A (getAttr? (.ref x) "__class__") Q E s:=by
 obtain ⟨cd,hc,ho,hd⟩:=c.cls.ov
 have hf:PySem.W.findObj K C (some od) "__class__"=some (.bind (.builtin "getset_descriptor.__get__") (.builtin "object.__class__")):=PySem.W.findObj_data (by rw [hc];rfl) c.ca c.cg c.ct
 obtain ⟨hh,g,dr,t,os⟩:=s
 have L0:=J.type (M:=model prog w)
 have L1:=Zo (M:=model prog w) KI c.cls.ga
 have L2:=Zo (M:=model prog w) KI c.cls.gh
 have L3:=PySem.W.looks_find (M:=model prog w) KI J hf
 have sub:PySem.W.Looks (model prog w) hh (isInstance (.ref x) (.type "BaseException")) true:=L0.andThen (PySem.W.looks_mroIn KI c.cls.isExc)
 have hb0:(onTheHeap (Value.ref C) && Value.builtin "BaseException.__getattribute__" == Value.builtin "object.__getattribute__")=false:=by
  rw [show (Value.builtin "BaseException.__getattribute__" == Value.builtin "object.__getattribute__")=false from by trivial,Bool.and_false]
 unfold getAttr? getAttrBy? getAttrBy
 refine XJ (wpAny_mkText (XJ (ZL (Y7 (XJ (L0.at (XJ (L1.at ?_))))))))
 dsimp only
 rw [hb0,if_neg Yb]
 unfold getAttrByItsOwn hookBefore
 refine XJ ?_
 rw [if_pos (show onTheHeap (Value.ref C)=true from rfl)]
 refine L2.at ?_
 refine XJ (ZL (Y7 ?_))
 unfold callGetattribute
 rw [if_neg (show ¬ ((false && onTheHeap (Value.builtin "BaseException.__getattribute__"))=true) from by decide)]
 unfold boundAndCalled
 refine XJ (Zq (F.attrBase_ValueError.ga.bind (.ref x)) ?_)
 refine Aag (Aaj F.attrBase_ValueError.ga.plain F.entry_bexc_ga (@PySem.W.check_slot (model prog w) _ _ ⟨hh,g,dr,t+1,os⟩ "BaseException.__getattribute__" "BaseException" "__getattribute__" (.ref x) [.str "__class__" t] [] _ (by trivial) (by trivial) sub (F.args_bexc_ga (.ref x) (.str "__class__" t)) ?_))
 refine XJ (XS (XJ (XS (XJ (L0.at (XJ (L3.at ?_)))))))
 show wpAny _ _ (holding [.builtin "object.__class__"] (call (.builtin "getset_descriptor.__get__") [.builtin "object.__class__",.ref x,.ref C]) >>=ret) _ _ _
 refine XJ (Y7 (Aag (PySem.W.class_get (s:=⟨hh,g,dr,t+1,os⟩) KI J c.cls.isObj ?_)))
 refine XS ?_
 show wpAny _ _ (handedOut (.ref C)) _ _ _
 rw [PySem.W.handedOut_of rfl]
 exact XS (XS h)
theorem J9 (c:Oi K C):PySem.W.KitX K (.ref x) (.ref C) (fun h=>PySem.W.InstAt h x ox C (some od)) where
 ty:=fun _ _ _ I=>I.type
 it:=fun _ _ X _=>by
  obtain ⟨cd,hc,_⟩:=c.cls.ov
  unfold PySem.W.clsIn at hc
  split at hc
  ·rename_i a1 a2 a3 a4 ho
   intro A1 Q1 E1 s1 k q
   unfold isType loadHead
   exact XJ (Aaf (k _ _ (X _ _ ho)) (XS q))
  ·cases hc
 ne:=fun h tp dd its n sl X htp=>by
  obtain ⟨cd,hc,_⟩:=c.cls.ov
  refine Bool.eq_false_iff.mpr fun q=>?_
  obtain rfl:C=tp:=Value.ref.inj (ZF.mp q)
  unfold PySem.W.clsIn at hc
  split at hc
  ·rename_i a1 a2 a3 a4 ho
   cases (X _ _ ho).symm.trans htp
  ·cases hc
 ca:=fun X I k=>G9 c X I k
end
def IsX (H:Hp) (x C:Addr) (fs:List (Str×V)):Prop:=∃ d,H x=some (sZ x C d)/\H d=some (mX d fs)
def Xu:V->Option Value
 | .ty T=>some (.type T)
 | .ref C=>some (.ref C)
 | _=>none
theorem Ka {v:V} {u c:Value} (e:Xu v=some c) (r:RelV v u):u=c:=by
 cases v <;> first | cases e;exact r | cases e
def Kc:List V->Option (List Value)
 | []=>some []
 | v :: r=>match Xu v,Kc r with
  | some c,some l=>some (c :: l)
  | _,_=>none
theorem Ez:∀ {vs:List V} {us cs:List Value},Kc vs=some cs->Vals vs us->us=cs
 | [],us,cs,e,r=>by cases r;cases e;rfl
 | v :: vs,us,cs,e,r=>by
  cases r with
  | cons r1 r2=>
   unfold Kc at e
   split at e
   ·rename_i c l h1 h2
    cases e
    rw [Ka h1 r1,Ez h2 r2]
   ·cases e
def EY (K:W.Frag):List V->Hp->VK->Prop:=fun xs H Q=>∃ x t b,(TyOf K H x t\/∃ a C fs,x= .ref a/\IsX H a C fs/\Oi K C/\t= .ref C)/\
 ((∃ v c,xs=[x,v]/\Xu v=some c/\PySem.W.kitOne K t c=some b)\/(∃ p vs cs,xs=[x,.ref p]/\H p=some (.tup vs)/\Kc vs=some cs/\PySem.W.kitAny K t cs=some b))/\Q (.bl b) H
section
variable {X:Cx} {pins:List (Addr×Obj)} {U:St} {H:Hp} {s:Shared} {A:Around} {E:Value->Shared->Prop} {Q:Value->Shared->Prop} {c:Value} {b:Bool}
theorem Ke {x:V} {u t:Value} (I:Inv X pins U H s) (rx:RelV x u) (ty:TyOf X.K H x t\/∃ a C fs,x= .ref a/\IsX H a C fs/\Oi X.K C/\t= .ref C):
  ∃ φ:Heap->Prop,PySem.W.KitX X.K u t φ/\φ s.heap/\u≠.builtin "__main__.__loader__#opaque":=by
 rcases ty with ty | ⟨a,C,fs,rfl,⟨d,e1,e2⟩,c,rfl⟩
 ·cases ty with
  | non=>cases (show u=Value.none from rx);exact ⟨_,PySem.W.kitx_none,True.intro,(fun z=>nomatch z)⟩
  | bl y=>cases (show u=Value.bool y from rx);exact ⟨_,PySem.W.kitx_bool,True.intro,(fun z=>nomatch z)⟩
  | int i=>obtain ⟨t,q⟩:=(show ∃ t,u=Value.int i t from rx);cases q;exact ⟨_,PySem.W.kitx_int,True.intro,(fun z=>nomatch z)⟩
  | str y=>obtain ⟨t,q⟩:=(show ∃ t,u=Value.str y t from rx);cases q;exact ⟨_,PySem.W.kitx_str,True.intro,(fun z=>nomatch z)⟩
  | flt y=>obtain ⟨t,q⟩:=(show ∃ t,u=Value.float y t from rx);cases q;exact ⟨_,PySem.W.kitx_float,True.intro,(fun z=>nomatch z)⟩
  | @lst a xs ea=>
   cases (show u=Value.ref a from rx)
   obtain ⟨_,_,n,_,h1⟩:=(show ObjOk X.prog X.w H s.heap a (.lst xs) from I.hok a _ ea)
   exact ⟨_,PySem.W.kitx_list,⟨_,h1,rfl⟩,(fun z=>nomatch z)⟩
  | @frz a ob xs ea=>
   cases (show u=Value.ref a from rx)
   obtain ⟨_,_,_,n,_,h1⟩:=(show ObjOk X.prog X.w H s.heap a (.frz ob (.lst xs)) from I.hok a _ ea)
   exact ⟨_,PySem.W.kitx_list,⟨_,h1,rfl⟩,(fun z=>nomatch z)⟩
  | @tup a xs ea=>
   cases (show u=Value.ref a from rx)
   obtain ⟨_,_,_,p⟩:=(show ObjOk X.prog X.w H s.heap a (.tup xs) from I.hok a _ ea)
   obtain ⟨o,h1,h2,_⟩:=p
   exact ⟨_,PySem.W.kitx_tuple,⟨o,h1,h2⟩,(fun z=>nomatch z)⟩
  | @dK a kvs ea=>
   cases (show u=Value.ref a from rx)
   obtain ⟨_,_,vs,_,p⟩:=(show ObjOk X.prog X.w H s.heap a (.dK kvs) from I.hok a _ ea)
   obtain ⟨o,es,ep,h1,h2,_⟩:=p
   exact ⟨_,PySem.W.kitx_dict,⟨o,h1,h2.1⟩,(fun z=>nomatch z)⟩
  | @dT a kvs ea=>
   cases (show u=Value.ref a from rx)
   obtain ⟨_,_,xs,_,o,es,ep,h1,h2,_⟩:=(show ObjOk X.prog X.w H s.heap a (.dT kvs) from I.hok a _ ea)
   exact ⟨_,PySem.W.kitx_dict,⟨o,h1,h2.1⟩,(fun z=>nomatch z)⟩
  | @ins a C dx fs ea cl ha hn htk hm=>
   cases (show u=Value.ref a from rx)
   obtain ⟨mA,O,_⟩:=rD I.hok ea
   obtain ⟨od,J,_⟩:=O.look
   exact ⟨_,PySem.W.kitx_own (cl.get _) cl.hd ha hn htk hm,J,(fun z=>nomatch z)⟩
 ·cases (show u=Value.ref a from rx)
  obtain ⟨vs,hx,_⟩:=Ew I.hok e1
  obtain ⟨mA,nA,rA⟩:=uX I.hok e2
  obtain ⟨od,hod,lk⟩:=sS nA
  exact ⟨_,J9 (ox:=gO C (some d) vs) (od:=od) c,⟨hx,rfl,rfl,hod⟩,(fun z=>nomatch z)⟩
theorem kO {K:W.Frag} (hK:X.K=K):CallR X (.builtin "isinstance") (EY K):=by
 subst hK
 intro pins s U H xs us Q I r h
 obtain ⟨x,t,b,ty,w,q⟩:=h
 rcases w with ⟨v,c,rfl,ec,e⟩ | ⟨p,vs,cs,rfl,ep,ec,e⟩
 ·obtain ⟨u,u2,rfl,ru,rv⟩:=vals2 r
  obtain rfl:=Ka ec rv
  obtain ⟨φ,Z,hφ,hne⟩:=Ke I ru ty
  exact Zc Z I.kIn hφ e hne fun tk=>⟨.bl b,H,I.tok _,rfl,q⟩
 ·obtain ⟨u,u2,rfl,ru,rv⟩:=vals2 r
  cases (show u2=Value.ref p from rv)
  obtain ⟨φ,Z,hφ,hne⟩:=Ke I ru ty
  obtain ⟨_,its,rt,o,h1,h2,n,h3⟩:=(show ObjOk X.prog X.w H s.heap p (.tup vs) from I.hok p _ ep)
  obtain rfl:=Ez ec rt
  obtain ⟨oc,odd,oda,osl⟩:=o
  dsimp only at h2 h3
  subst h2 h3
  exact PySem.W.kia_tup Z I.kIn hφ h1 e hne fun tk=>⟨.bl b,H,I.tok _,rfl,q⟩
end
def HasX (P:Program) (w:World) (K:W.Frag) (mg:Str->Option Value) (base:Heap) (k:Nat) (x:Str) (ps:List Str) (sp:Sp):Prop:=
 ∃ f fd,mg x=some (.ref f)/\PySem.W.keepIn K (.ref f)=true/\Binds K fd ps []/\FnOk P w K mg base (Od P w) k f fd ps sp
theorem HasX.mono {P:Program} {w:World} {K:W.Frag} {mg:Str->Option Value} {base:Heap} {j k:Nat} {x:Str} {ps:List Str} {sp:Sp} (h:HasX P w K mg base j x ps sp) (hk:j<=k):HasX P w K mg base k x ps sp:=
 let ⟨f,fd,a,b,c,d⟩:=h;⟨f,fd,a,b,c,d.mono hk⟩
def CJ (sp:Sp) (R:St->XK) (t:TA):TE:=fun U H Q=>t U H fun vs H1=>sp vs H1 Q (R U)
theorem gw {X:Cx} (h:∀ (e:Value) (s:Shared),X.xe e s=False):lC X (fun _ _ _ _=>False):=fun _ _ _ ⟨_,_,_,_,_,_,_,_,z⟩=>z.elim
section
variable {X:Cx} {k:Nat} {f C:Addr} {fd:FuncData} {ps:List Str} {sp:Sp} {R:St->XK} {x:Str} {p pos:Pos} {e:Expr} {es:List Expr} {t:TA} {pins:List (Addr×Obj)} {U:St} {H:Hp} {s:Shared} {Q:VK} {us:List Value} {vs:List V}
theorem uY (F:FnOk X.prog X.w X.K X.mg X.base (Od X.prog X.w) k f fd ps sp) (hr:Room k X.A) (hb:Binds X.K fd ps []) (hx:lC X R) (I:Inv X pins U H s) (r:Vals vs us) (h:sp vs H Q (R U)):
  wpAny (model X.prog X.w) X.A (call (.ref f) us) (EP X pins U Q) X.xe s:=by
 have hl:(us ++ []).length=ps.length:=by rw [Zy,← r.length];exact F.len _ _ _ _ h
 have bd:=hb s us I.kIn hl
 rw [Zy] at bd
 refine Aag (codeAny_mono (F.run X.A X.stack s H ⟨us,[]⟩ us vs Q (R U) hr I.env0 bd r h) fun rr s' hq=>?_)
 cases rr with
 | error e=>exact hx pins e s' (Ex I hq)
 | ok fl=>
  cases fl with
  | ret u=>exact I.after hq
  | next=>exact False.elim hq
  | brk=>exact False.elim hq
  | cont=>exact False.elim hq
theorem Kf (F:HasX X.prog X.w X.K X.mg X.base k x ps sp) (hr:Room k X.A) (hg:Gl X x) (hx:lC X R) (ha:PA X (e :: es) t) (hdb:(x == ("__debug__":Str))=false)
  (he:starEach (e :: es) X.env=(false,eval e X.env) :: starEach es X.env) (hpl:(backTo pos (starEach es X.env)).any (·.1)=false):PE X (.Call (.Name x p) (e :: es) [] pos) (CJ sp R t):=by
 obtain ⟨f,fd,a,b,c,d⟩:=F
 intro pins s U H Q I h
 refine YX (nG I hg a ?_ hdb)
 refine ZP (h₀:=X.base) I.ok.mod.kin b (fU (ha pos pins s U H _ I h) fun us s1 ⟨vs,H1,I1,r,q⟩=>⟨I1.kIn,?_⟩) he hpl
 exact uY d hr c hx I1 r q
def Ab (K:W.Frag) (ta tv:TE) (f:Str):TS:=fun D U H=>tv U H fun y H1=>ta U H1 fun x H2=>∃ a C,x= .ref a/\XCls K C/\NoAttr K C f/\
 ((H2 a=some (lB a C)/\∀ d,H2 d=none->d≠a->D.nx U (upd (upd H2 a (iW a C d)) d (mX d [(f,y)])))\/
  (∃ d fs,H2 a=some (iW a C d)/\H2 d=some (mX d fs)/\fs.length < 1000/\D.nx U (upd H2 d (mX d (lO f y fs)))))
theorem Oj {o value:Expr} {ta tv:TE} {fn:Str} {pos':Pos} (ha:PE X o ta) (hv:PE X value tv) (hs:swapsWith value (some (.Attribute o fn pos')) pos.line X.env=pure false):PS X (.Assign [.Attribute o fn pos'] value pos) (Ab X.K ta tv fn):=by
 intro pins s U H D I h
 refine plainObj_wpAny_Assign_Attribute (fU (hv pins s U H _ I h) fun u s1 ⟨y,H1,I1,ry,q⟩=>fU (ha pins s1 U H1 _ I1 q) fun ov s2 qq0=>?_) hs
 obtain ⟨x,H2,I2,rx,a,C,ex,c,n,q2⟩:=qq0
 subst ex
 obtain rfl:ov=Value.ref a:=rx
 rcases q2 with ⟨e,q2⟩ | ⟨d,fs,e,e2,hl,q2⟩
 ·exact Ws I2 e c n ry fun s3 d z1 z2 I3=>⟨U,_,I3,q2 d z1 z2⟩
 ·exact Wt I2 e e2 hl c n ry fun s3 I3=>⟨U,_,I3,q2⟩
def Kg (K:W.Frag) (ta:TE) (f:Str):TE:=fun U H Q=>ta U H fun x H1=>∃ a C fs v,x= .ref a/\IsX H1 a C fs/\XCls K C/\NoAttr K C f/\fs.lookup f=some v/\Q v H1
theorem Ol {ta:TE} {fn:Str} (he:PE X e ta) (hb:attributeBase e fn X.env (eval e X.env)=eval e X.env):PE X (.Attribute e fn pos) (Kg X.K ta fn):=by
 intro pins s U H Q I h
 refine DY hb (fU (he pins s U H _ I h) fun u s1 qq0=>?_)
 obtain ⟨x,H1,I1,rx,a,C,fs,v,ex,⟨d,e1,e2⟩,c,n,l,q⟩:=qq0
 subst ex
 obtain rfl:u=Value.ref a:=rx
 exact getx I1 e1 e2 c n l fun u2 s2 I2 ru=>⟨v,H1,I2,ru,q⟩
def vN (C:Addr) (fl:List Str):Sp:=fun vs H Q E=>∃ x ws,vs= .ref x :: ws/\ws.length=fl.length/\H x=some (lB x C)/\∀ d,H d=none->d≠x->Q .non (upd (upd H x (iW x C d)) d (mX d (fl.zip ws)))
structure Vo (P:Program) (w:World) (K:W.Frag) (mg:Str->Option Value) (base:Heap) (k:Nat) (x:Str) (C:Addr) (fl:List Str):Prop where
 at_:mg x=some (.ref C)
 cl:Oi K C
 kp:PySem.W.keepIn K (.ref C)=true
 na:∀ f∈fl,NoAttr K C f
 run:∃ f fd ps,PySem.W.findIn K (.ref C) "__init__"=some (some (.ref f))/\PySem.W.typeIn K (.ref f)=some (.type "function")/\Binds K fd ps []/\FnOk P w K mg base GC k f fd ps (vN C fl)
def CK (C:Addr) (fl:List Str) (R:St->XK) (t:TA):TS:=fun _ U H=>t U H fun vs H1=>vs.length=fl.length/\vs.length<=sizeLine/\∀ x H2,Same H1 H2->IsX H2 x C (fl.zip vs)->R U (.ref C) (some x) H2
theorem TY {Q:Value->Shared->Prop} {E:Value->Shared->Prop} {fl:List Str} (M:Vo X.prog X.w X.K X.mg X.base k x C fl) (hr:Room (k+1) X.A) (I:Inv X pins U H s) (r:Vals vs us) (hl:vs.length=fl.length) (hz:vs.length<=sizeLine)
  (q:∀ a d s',H a=none->H d=none->d≠a->Inv X pins U (upd (upd (upd H a (lB a C)) a (iW a C d)) d (mX d (fl.zip vs))) s'->Q (.ref a) s'):wpAny (model X.prog X.w) X.A (call (.ref C) us) Q E s:=by
 obtain ⟨f,fd,ps,hi,hf,hb,F⟩:=M.run
 refine TV I.kIn M.cl.cls.xi hi hf (by rw [← r.length];exact hz) ?_
 have I1:Inv X pins U H {s with heap:=s.heap.push {cls:=.type "tuple",data:=.seq us.toArray}}:=I.kept (t':=s.toks) fun b o e=>XN _ e
 have sz1:(s.heap.push {cls:=.type "tuple",data:=.seq us.toArray}).objs.size=s.heap.objs.size+1:=YW _ _
 have hfr:H (s.heap.objs.size+1)=none:=I.hok.fresh (Nat.le_succ _)
 have gx:((s.heap.push {cls:=.type "tuple",data:=.seq us.toArray}).push (gO C none #[.ref s.heap.objs.size,.none,.none,.none,.bool false,.none])).get? (s.heap.objs.size+1)=some (gO C none #[.ref s.heap.objs.size,.none,.none,.none,.bool false,.none]):=by
  rw [← sz1];exact X4 _ rfl
 have I2:Inv X pins U (upd H (s.heap.objs.size+1) (lB (s.heap.objs.size+1) C)) {s with heap:=(s.heap.push {cls:=.type "tuple",data:=.seq us.toArray}).push (gO C none #[.ref s.heap.objs.size,.none,.none,.none,.bool false,.none])}:=
  I1.laid (t':=s.toks) (fun b o e=>XN _ e) (by show (s.heap.push _).objs.size<=_;rw [sz1];exact XQ _) ⟨⟨_,gx⟩,⟨_,gx⟩,fun h1 h2 ⟨t,z⟩ kk=>⟨t,kk _ z⟩⟩
 have r2:Vals (V.ref (s.heap.objs.size+1) :: vs) (Value.ref (s.heap.objs.size+1) :: us):=.cons rfl r
 have sp0:vN C fl (V.ref (s.heap.objs.size+1) :: vs) (upd H (s.heap.objs.size+1) (lB (s.heap.objs.size+1) C)) (fun v H2=>v= .non/\∃ d,H d=none/\d≠s.heap.objs.size+1/\H2=upd (upd (upd H (s.heap.objs.size+1) (lB (s.heap.objs.size+1) C)) (s.heap.objs.size+1) (iW (s.heap.objs.size+1) C d)) d (mX d (fl.zip vs))) E0:=
  ⟨_,_,rfl,hl,aj,fun d hd ne=>⟨rfl,d,by rw [aD ne] at hd;exact hd,ne,rfl⟩⟩
 have hl2:((Value.ref (s.heap.objs.size+1) :: us) ++ []).length=ps.length:=by rw [Zy,← r2.length];exact F.len _ _ _ _ sp0
 have bd:=hb _ (Value.ref (s.heap.objs.size+1) :: us) I2.kIn hl2
 rw [Zy] at bd
 refine Aag (codeAny_mono (F.run _ X.stack _ _ ⟨Value.ref (s.heap.objs.size+1) :: us,[]⟩ (Value.ref (s.heap.objs.size+1) :: us) _ _ E0 (hr.make C us []) (I2.env0.make C us []) bd r2 sp0) fun rr s' hq=>?_)
 cases rr with
 | error e=>exact False.elim hq
 | ok fl=>
  cases fl with
  | ret u=>
   obtain ⟨v,H',I3,rv,ev,d,hd,ne,eH⟩:=I2.after hq
   subst ev
   rw [eH] at I3
   exact ⟨rv,q _ d s' hfr hd ne I3⟩
  | next=>exact False.elim hq
  | brk=>exact False.elim hq
  | cont=>exact False.elim hq
theorem thrown {env:Env} {C:Addr} {Q:Flow->Shared->Prop} {m:Sem Value} (hc:X.calm=true) (c:Oi X.K C) (hx:lC X R)
  (h:wpAny (model X.prog X.w) X.A m (fun v s1=>∃ x d H1,v= .ref x/\Inv X pins U H1 s1/\H1 x=some (iW x C d)/\R U (.ref C) (some x) (upd H1 x (sZ x C d))) X.xe s):
  wpAny (model X.prog X.w) X.A (raiseStmt env (some m) none) Q X.xe s:=by
 obtain ⟨nm,qn,N,bs,bm,sn,sub,ab,col,dd,k0,k1,k2,k3,k5,lk0,tl⟩:=vL c.cls.xi
 unfold raiseStmt
 refine XJ (fU h fun v s1 qq0=>?_)
 obtain ⟨x,d,H1,ev,I1,e1,r1⟩:=qq0
 subst ev
 have KI:=I1.kIn
 obtain ⟨t,he⟩:=tD I1.hok e1
 have hh:X.A.handled=none:=I1.ok.hd hc
 have hcB:(Value.ref C :: bm).contains (.type "BaseException")=true:=by
  rw [Zg,(tl _ KI).hasType (show Wr.contains (.type "BaseException")=true from by decide)];rfl
 have fin:X.xe (.ref x) s1:=by
  have I2:Inv X pins U (upd H1 x (sZ x C d)) s1:=I1.write (t':=s1.toks) (x:=x) (e:=x) (h':=s1.heap) (by rw [e1];exact True.intro) (.inl rfl) (fun b o _ z=>z) ⟨_,he⟩ (Eu he rfl)
  exact hx pins _ s1 ⟨x,C,d,U,_,rfl,I2,⟨aj,.inl ⟨_,he,rfl,rfl⟩⟩,r1⟩
 have hD:=KI _ _ lk0
 obtain ⟨hp,g,dr,tk,os⟩:=s1
 unfold gO at he
 repeat (first | with_reducible refine Zk he ?_ | with_reducible refine Zk hD ?_ | (with_reducible refine Z1 hD ?_;rw [hcB]) | wp_step)
 exact wpAny_raiseNew_none hh fin
end
section
variable {X:Cx} {k:Nat} {C:Addr} {R:St->XK} {x:Str} {p cpos pos:Pos} {e:Expr} {es:List Expr} {t:TA} {fl:List Str}
theorem Ac {H:Hp} {a d:Addr} {vs:List V} (ha:H a=none) (hd:H d=none) (ne:d≠a):Same H (upd (upd (upd (upd H a (lB a C)) a (iW a C d)) d (mX d (fl.zip vs))) a (sZ a C d))/\
  IsX (upd (upd (upd (upd H a (lB a C)) a (iW a C d)) d (mX d (fl.zip vs))) a (sZ a C d)) a C (fl.zip vs):=by
 refine ⟨fun b o h=>?_,d,aj,by rw [aD ne,aj]⟩
 have na:b≠a:=fun z=>by rw [z,ha] at h;cases h
 have nd:b≠d:=fun z=>by rw [z,hd] at h;cases h
 rw [aD na,aD nd,aD na,aD na]
 exact h
theorem Kh (M:Vo X.prog X.w X.K X.mg X.base k x C fl) (hr:Room (k+1) X.A) (hc:X.calm=true) (hg:Gl X x) (hx:lC X R) (ha:PA X (e :: es) t) (hdb:(x == ("__debug__":Str))=false)
  (he:starEach (e :: es) X.env=(false,eval e X.env) :: starEach es X.env) (hpl:(backTo cpos (starEach es X.env)).any (·.1)=false):PS X (.Raise (some (.Call (.Name x p) (e :: es) [] cpos)) none pos) (CK C fl R t):=by
 intro pins s U H D I h
 rw [arm_exec_Raise]
 refine XJ (wpAny_standAt (thrown (pins:=pins) (U:=U) (C:=C) hc M.cl hx (XJ (fU (Q:=fun v s1=>∃ x d H1,v= .ref x/\Inv X pins U H1 s1/\H1 x=some (iW x C d)/\R U (.ref C) (some x) (upd H1 x (sZ x C d))) ?_ fun v s3 h3=>XJ (wpAny_standAt (XS h3))))))
 refine YX (nG I hg M.at_ ?_ hdb)
 refine ZP (h₀:=X.base) I.ok.mod.kin M.kp (fU (ha cpos pins s U H _ I h) fun us s1 ⟨vs,H1,I1,r,hl,hz,q⟩=>⟨I1.kIn,?_⟩) he hpl
 refine TY M hr I1 r hl hz fun a d s2 z1 z2 ne I2=>⟨a,d,_,rfl,I2,?_,?_⟩
 ·rw [aD (Ne.symm ne),aj]
 ·obtain ⟨w1,w2⟩:=Ac (C:=C) (fl:=fl) (vs:=vs) z1 z2 ne
  exact q a _ w1 w2
end
section
variable {X:Cx} {pins:List (Addr×Obj)} {U U':St} {H:Hp} {s:Shared} {h':Heap}
theorem Inv.reloc {t':Nat} (I:Inv X pins U H s) (hs:Heap.SameBut X.env.locals s.heap h') (len:U'.length=U.length)
  (l:∃ m',h'.Ns X.env.locals m'/\∀ (i:Nat) (x:Str) (v:V),X.N[i]?=some x->U'[i]?=some (some v)->Xn X.env.scope x->∃ u,RelV v u/\Look X.env h' m' x u):Inv X pins U' H {s with heap:=h',toks:=t'}:=by
 have cne:=I.cne
 obtain ⟨mm,⟨oL,_,_,hoL,_⟩,_⟩:=id I.loc
 have away:∀ b o,X.s₀.heap.get? b=some o->b≠X.env.locals:=fun b o e=>Yy (Yd (X5 e) I.ok.above)
 refine ⟨I.ok,I.os,I.bare,⟨fun b o e n hb hx=>(hs.2 b (away b o e)).trans (I.base.keep b o e n hb hx),fun b o e n hb hx=>?_,I.base.free,fun b o e hx=>?_,I.base.tups,I.base.frzs,I.base.tbls⟩,l,fun y c e=>?_,I.free,I.freeC,fun q hq=>?_,fun b ob e=>?_,len.trans I.len⟩
 ·obtain ⟨sl,e1⟩:=I.base.slot b o e n hb hx
  exact ⟨sl,(hs.2 b (away b o e)).trans e1⟩
 ·obtain ⟨o2,e1⟩:=I.base.there b o e hx
  exact ⟨o2,(hs.2 b (away b o e)).trans e1⟩
 ·obtain ⟨w2,z⟩:=I.cell y c e
  exact ⟨w2,z.sameBut hs (cne y c e)⟩
 ·obtain ⟨e,n,ne,nf,d⟩:=I.pin q hq
  exact ⟨(hs.2 q.1 ne).trans e,n,ne,nf,d⟩
 ·refine (I.hok b ob e).stay (fun c w2 hc q=>(hs.2 c ?_).trans q) (fun _ q=>q) fun _ _ q=>q
  rintro rfl
  rcases hc with rfl | hc
  ·rw [I.free] at e;cases e
  ·rw [I.free] at hc;cases hc
theorem name_goes {A:Around} {E:Value->Shared->Prop} {i:Nat} {n:Str} {pos:Pos} {Q:Unit->Shared->Prop} (I:Inv X pins U H s) (hN:X.N.Nodup) (hi:X.N[i]?=some n) (hl:X.env.scope.names.lookup n=some .local)
  (h:∀ s',Inv X pins (U.set i none) H s'->Q () s'):wpAny (model X.prog X.w) A (do bindName X.env n .none;unbindBehindTheSuite X.env n pos) Q E s:=by
 have hcls:(X.env.scope.kind == .class || (X.env.scope.kind == .module && X.env.locals != X.env.globals))=false:=by rw [I.ok.kind];rfl
 have hk:X.env.kindOf n=some .local:=hl
 refine XJ (wpAny_bindName (rC (v:=.non) I hN hi (.inl hl) rfl (fun s1 I1=>?_) (.inr hl)))
 obtain ⟨m1,hn1,hl1⟩:=id I1.loc
 have hiU:i < U.length:=by rw [I.len];exact (XM.mp hi).1
 obtain ⟨u1,ru1,lk1⟩:=hl1 i n .non hi (by rw [Zr hiU]) (.inl hl)
 have m1n:m1 n=some u1:=by
  rcases lk1 with ⟨_,z⟩ | ⟨z | z,_⟩
  ·exact z
  ·rw [hk] at z;cases z
  ·rw [hk] at z;cases z
 unfold unbindBehindTheSuite
 refine wpAny_onRaise ?_
 unfold unbindName
 refine XJ (wpAny_point (XJ ?_))
 unfold deleteName
 simp only [hk,hcls]
 rw [if_neg (by decide)]
 refine XJ (wpAny_nsDel_keeps hn1 fun h2 v2 hn2 hs2=>?_)
 rw [m1n]
 simp only [if_true,Option.isSome_some,Bool.not_true,Z6,if_false]
 refine XS (wpAny_point (h _ (I1.reloc (t':=s1.toks) hs2 (by rw [List.length_set,List.length_set]) ⟨_,hn2,fun j y v e1 e2 e3=>?_⟩)))
 have hj:j≠i:=fun z=>by
  subst z
  rw [Zr hiU] at e2;cases e2
 rw [Zf (Ne.symm hj)] at e2
 obtain ⟨u,r,q⟩:=hl1 j y v e1 (by rw [Zf (Ne.symm hj)];exact e2) e3
 refine ⟨u,r,?_⟩
 rcases q with ⟨k,z⟩ | ⟨k,c,z1,z2⟩
 ·have ny:y≠n:=fun z=>hj (vg hN e1 (z ▸ hi))
  exact .inl ⟨k,by show (if y=n then v2 else m1 y)=some u;rw [if_neg ny];exact z⟩
 ·exact .inr ⟨k,c,z1,z2.sameBut hs2 (I1.cne y c z1)⟩
end
abbrev Cx.sui (X:Cx) (x:Addr):Cx:={X with A:=X.A.mark (some (.ref x)),calm:=false,xe:=fun _ _=>False}
abbrev Cx.bod (X:Cx) (pins:List (Addr×Obj)) (R:St->XK):Cx:={X with pn:=X.pn ++ pins,xe:=XE X pins R}
section
variable {X:Cx} {pins pins':List (Addr×Obj)} {U:St} {H:Hp} {s:Shared} {x C d T:Addr} {R:St->XK} {D:Ends}
theorem Inv.sui (I:Inv X pins U H s) (x:Addr):Inv (X.sui x) pins U H s:=
 ⟨⟨I.ok.mod,I.ok.kind,I.ok.glob,I.ok.blt,I.ok.above,I.ok.inj,I.ok.has,I.ok.cab,fun h=>absurd h Yb,I.ok.frames,I.ok.stk,I.ok.exf,I.ok.bs,I.ok.bsz,I.ok.noex,I.ok.exfs,I.ok.funs,I.ok.frf⟩,I.os,I.bare,I.base,I.loc,I.cell,I.free,I.freeC,I.pin,I.hok,I.len⟩
theorem Inv.unsui (ok:X.Ok) (I:Inv (X.sui x) pins U H s):Inv X pins U H s:=⟨ok,I.os,I.bare,I.base,I.loc,I.cell,I.free,I.freeC,I.pin,I.hok,I.len⟩
theorem Inv.bod (I:Inv X pins U H s) (R:St->XK):Inv (X.bod pins R) [] U H s:=
 ⟨⟨I.ok.mod,I.ok.kind,I.ok.glob,I.ok.blt,I.ok.above,I.ok.inj,I.ok.has,I.ok.cab,I.ok.hd,I.ok.frames,I.ok.stk,I.ok.exf,I.ok.bs,I.ok.bsz,I.ok.noex,I.ok.exfs,I.ok.funs,I.ok.frf⟩,I.os,I.bare,I.base,I.loc,I.cell,I.free,I.freeC,fun p hp=>I.pin p (by simpa using hp),I.hok,I.len⟩
theorem Inv.unbod (I:Inv (X.bod pins R) pins' U H s):Inv X pins U H s:=
 ⟨⟨I.ok.mod,I.ok.kind,I.ok.glob,I.ok.blt,I.ok.above,I.ok.inj,I.ok.has,I.ok.cab,I.ok.hd,I.ok.frames,I.ok.stk,I.ok.exf,I.ok.bs,I.ok.bsz,I.ok.noex,I.ok.exfs,I.ok.funs,I.ok.frf⟩,I.os,I.bare,I.base,I.loc,I.cell,I.free,I.freeC,fun p hp=>I.pin p (ZX _ hp),I.hok,I.len⟩
theorem SP.unbod {f:Flow} (h:SP (X.bod pins R) pins' D f s):SP X pins D f s:=by
 cases f with
 | next=>obtain ⟨U',H',I,q⟩:=h;exact ⟨U',H',I.unbod,q⟩
 | brk=>obtain ⟨U',H',I,q⟩:=h;exact ⟨U',H',I.unbod,q⟩
 | cont=>obtain ⟨U',H',I,q⟩:=h;exact ⟨U',H',I.unbod,q⟩
 | ret u=>obtain ⟨v,U',H',I,r,q⟩:=h;exact ⟨v,U',H',I.unbod,r,q⟩
theorem SP.unsui (ok:X.Ok) {f:Flow} (h:SP (X.sui x) pins D f s):SP X pins D f s:=by
 cases f with
 | next=>obtain ⟨U',H',I,q⟩:=h;exact ⟨U',H',I.unsui ok,q⟩
 | brk=>obtain ⟨U',H',I,q⟩:=h;exact ⟨U',H',I.unsui ok,q⟩
 | cont=>obtain ⟨U',H',I,q⟩:=h;exact ⟨U',H',I.unsui ok,q⟩
 | ret u=>obtain ⟨v,U',H',I,r,q⟩:=h;exact ⟨v,U',H',I.unsui ok,r,q⟩
theorem vO:lC (X.bod pins R) R:=by
 rintro pins' e s' ⟨x,C,d,U,H',he,I,⟨tx,F⟩,r⟩
 refine ⟨x,C,d,U,H',he,I.unbod,⟨tx,?_⟩,r⟩
 rcases F with F | ⟨T,F⟩
 ·exact .inl F
 ·obtain ⟨a1,a2,a3,a4,a5,a6⟩:=F.fp
  exact .inr ⟨T,F.obj,F.tb,⟨a1,a2,a3,a4,a5,fun p hp=>a6 p (ZX _ hp)⟩,F.tr⟩
theorem xK {A:Around} {E:Value->Shared->Prop} {P:Addr} {b:Bool} {Q:Bool->Shared->Prop} {vs:Array Value} {M:Model} {K:W.Frag} (KI:K.In s.heap) (c:XCls K C) (cP:XCls K P) (e:s.heap.get? x=some (gO C (some d) vs)) (hm:PySem.W.mroIn K C (.ref P)=some b) (h:Q b s):
  wpAny M A (excMatches (.ref x) (.ref P)) Q E s:=by
 obtain ⟨nm,qn,N,bs,bm,sn,sub,ab,col,dd,k0,k1,k2,k3,k5,lk,tl⟩:=vL c.xi
 obtain ⟨nm',qn',N',bs',bm',sn',sub',ab',col',dd',k0',k1',k2',k3',k5',lk',tl'⟩:=vL cP.xi
 have hC:=KI _ _ lk
 have hP:=KI _ _ lk'
 have hPB:(Value.ref P :: bm').contains (.type "BaseException")=true:=by
  rw [Zg,(tl' _ KI).hasType (show Wr.contains (.type "BaseException")=true from by decide)];rfl
 have hCP:(Value.ref C :: bm).contains (.ref P)=b:=by
  unfold PySem.W.mroIn PySem.W.clsIn at hm
  rw [lk] at hm
  exact Ym hm
 have f:=tc_notTuple
 obtain ⟨hp,g,dr,tk,os⟩:=s
 unfold gO at e
 unfold excMatches
 by_cases hh:P=C
 ·subst hh
  have hb:b=true:=by rw [← hCP];simp
  subst hb
  rw [lk] at lk'
  cases lk'
  repeat (first | with_reducible refine Zk e ?_ | with_reducible refine Zk hC ?_ | (with_reducible refine Z1 hC ?_;first | rw [hPB] | rw [hCP]) | wp_step)
  exact h
 ·repeat (first | with_reducible refine Zk e ?_ | with_reducible refine Zk hP ?_ | (with_reducible refine Z1 hP ?_;rw [hPB]) | (with_reducible refine Z1 hC ?_;rw [hCP]) | wp_step)
  cases b <;> (wp_walk;exact h)
abbrev TH:=Ends->St->Addr->Addr->Hp->Prop
def PH (X:Cx) (hs:List ExceptHandler) (th:TH):Prop:=∀ (pins:List (Addr×Obj)) (s:Shared) (U:St) (H:Hp) (D:Ends) (x C d T:Addr),Inv X pins U H s->Head X pins H x C d T s.heap->th D U x C H->
 wpAny (model X.prog X.w) X.A (handleBy (.ref x) X.env hs) (SP X pins D) X.xe s
theorem T3:PH X [] (fun _ _ _ _ _=>False):=fun _ _ _ _ _ _ _ _ _ _ _ h=>h.elim
def Ends.gone (D:Ends) (i:Nat):Ends:={nx:=fun U H=>D.nx (U.set i none) H,rt:=D.rt,bk:=fun U H=>D.bk (U.set i none) H,ct:=fun U H=>D.ct (U.set i none) H}
def hAs (K:W.Frag) (P:Addr) (i:Nat) (ts:TS) (th:TH):TH:=fun D U x C H=>∃ b,XCls K C/\PySem.W.mroIn K C (.ref P)=some b/\if b=true then ts (D.gone i) (U.set i (some (.ref x))) H else th D U x C H
def hNo (K:W.Frag) (P:Addr) (ts:TS) (th:TH):TH:=fun D U x C H=>∃ b,XCls K C/\PySem.W.mroIn K C (.ref P)=some b/\if b=true then ts D U H else th D U x C H
variable {nm n:Str} {P:Addr} {i:Nat} {p pos:Pos} {b0:Stmt} {suite:List Stmt} {ts:TS} {th:TH} {hs:List ExceptHandler}
theorem Wu (hg:Gl X nm) (hm:X.mg nm=some (.ref P)) (cP:XCls X.K P) (hdb:(nm == ("__debug__":Str))=false) (hN:X.N.Nodup) (hi:X.N[i]?=some n) (hl:X.env.scope.names.lookup n=some .local)
  (hsu:∀ x,PSs (X.sui x) (b0 :: suite) ts) (hr:PH X hs th):PH X (.ExceptHandler (some (.Name nm p)) (some n) (b0 :: suite) pos :: hs) (hAs X.K P i ts th):=by
 rintro pins s U H D x C d T I F ⟨b,c,mb,q⟩
 obtain ⟨vs,ex,h1⟩:=F.obj
 refine wpAny_handleBy_cons (codeAny_handlers_test (nG (I.sui x) hg hm ?_ hdb)) (fun z=>nomatch z)
 refine xK I.kIn c cP ex mb ?_
 cases b with
 | false=>
  rw [if_neg Yb] at q
  exact hr pins s U H D x C d T I F q
 | true=>
  rw [if_pos rfl] at q
  refine codeAny_handlers_suite_as ?_
  refine rN I F fun h2 I2 F2=>?_
  refine rC (X:=X.sui x) (v:=.ref x) (I2.sui x) hN hi (.inl hl) rfl (fun s3 I3=>?_) (.inr hl)
  refine YK (hsu x pins s3 _ H (D.gone i) I3 q) (fun f s4 w=>?_) fun _ _ z=>False.elim z
  cases f with
  | next=>obtain ⟨U',H',J,r⟩:=w;exact name_goes (J.unsui I.ok) hN hi hl fun s5 I5=>⟨_,H',I5,r⟩
  | brk=>obtain ⟨U',H',J,r⟩:=w;exact name_goes (J.unsui I.ok) hN hi hl fun s5 I5=>⟨_,H',I5,r⟩
  | cont=>obtain ⟨U',H',J,r⟩:=w;exact name_goes (J.unsui I.ok) hN hi hl fun s5 I5=>⟨_,H',I5,r⟩
  | ret u=>obtain ⟨v,U',H',J,rv,r⟩:=w;exact name_goes (J.unsui I.ok) hN hi hl fun s5 I5=>⟨v,_,H',I5,rv,r⟩
theorem Wv (hg:Gl X nm) (hm:X.mg nm=some (.ref P)) (cP:XCls X.K P) (hdb:(nm == ("__debug__":Str))=false) (hsu:∀ x,PSs (X.sui x) (b0 :: suite) ts) (hr:PH X hs th):
  PH X (.ExceptHandler (some (.Name nm p)) none (b0 :: suite) pos :: hs) (hNo X.K P ts th):=by
 rintro pins s U H D x C d T I F ⟨b,c,mb,q⟩
 obtain ⟨vs,ex,h1⟩:=F.obj
 refine wpAny_handleBy_cons (codeAny_handlers_test (nG (I.sui x) hg hm ?_ hdb)) (fun z=>nomatch z)
 refine xK I.kIn c cP ex mb ?_
 cases b with
 | false=>
  rw [if_neg Yb] at q
  exact hr pins s U H D x C d T I F q
 | true=>
  rw [if_pos rfl] at q
  refine codeAny_handlers_suite ?_
  refine rN I F fun h2 I2 F2=>?_
  exact YK (hsu x pins _ _ H D (I2.sui x) q) (fun f s4 w=>w.unsui I.ok) fun _ _ z=>False.elim z
def T4 (tb:(St->XK)->TS) (th:TH):TS:=fun D U H=>tb (fun U' c x H'=>∃ C a,c= .ref C/\x=some a/\th D U' a C H') D U H
theorem T5 {body:List Stmt} {h0:ExceptHandler} {tb:(St->XK)->TS} (hst:X.stack=X.env :: X.outer) (hfr:X.env.frame=some X.env.locals) (hb:∀ (pins:List (Addr×Obj)) (R:St->XK),PSs (X.bod pins R) body (tb R)) (hh:PH X (h0 :: hs) th):
  PS X (.Try body (h0 :: hs) [] [] pos) (T4 tb th):=by
 intro pins s U H D I h
 refine wpAny_Try_except (YK (hb pins _ [] s U H D (I.bod _) h) (fun f s1 q=>?_) fun e s1 q=>?_)
 ·have q':=q.unbod
  cases f with
  | next=>exact wpAny_execs_nil q'
  | brk=>exact q'
  | cont=>exact q'
  | ret u=>exact q'
 ·obtain ⟨x,C,d,U',H',rfl,I1,F1,C',a',eC,ea,r⟩:=q
  cases eC
  cases ea
  refine Aa I1 hst hfr I1.ok.frames F1 fun h2 T I2 F2=>?_
  refine rN I2 F2 fun h3 I3 F3=>?_
  exact hh pins _ U' H' D x C d T I3 F3 r
end
def aL (mg:Str->Option Value) (x:Str):Addr:=match mg x with
 | some (.ref a)=>a
 | _=>0
theorem jO {mg:Str->Option Value} {x:Str} {C:Addr} (h:mg x=some (.ref C)):aL mg x=C:=by unfold aL;rw [h]
structure Hb (K:W.Frag) (mg:Str->Option Value) (x:Str):Prop where
 at_:mg x=some (.ref (aL mg x))
 cl:Oi K (aL mg x)
theorem QT {K:W.Frag} {mg:Str->Option Value} {h:Heap} (X:K.In h) (G:h.Ns mainGlobals mg) {x:Str} {C:Addr} (a:PySem.W.nsIn K mainGlobals x=some (some (.ref C))) (b:Ey K C=true):Hb K mg x:=by
 have m:=ZG X G a
 have e:=jO m
 exact ⟨by rw [e];exact m,by rw [e];exact J8 b⟩
structure uH (K:W.Frag) (mg:Str->Option Value) (x:Str) (fl:List Str) (qual:Str) (st:Stmt):Prop where
 c:Hb K mg x
 kp:PySem.W.keepIn K (.ref (aL mg x))=true
 na:∀ f∈fl,NoAttr K (aL mg x) f
 ini:∃ f fd,PySem.W.findIn K (.ref (aL mg x)) "__init__"=some (some (.ref f))/\PySem.W.typeIn K (.ref f)=some (.type "function")/\Fun K "__init__" qual st f fd
def Kl (K:W.Frag) (C:Addr) (fl:List Str):Bool:=fl.all fun n=>PySem.W.findIn K (.ref C) n == some none
theorem Ad {K:W.Frag} {mg:Str->Option Value} {h:Heap} (X:K.In h) (G:h.Ns mainGlobals mg) {x qual:Str} {C f:Addr} {fl:List Str} {st:Stmt} {oc:Value} {od an:Option Addr} {osl:Array (Option Value)} {kV doc pm cdv ct:Value}
  (a:PySem.W.nsIn K mainGlobals x=some (some (.ref C))) (b:Ey K C=true) (kp:PySem.W.keepIn K (.ref C)=true) (na:Kl K C fl=true)
  (i:PySem.W.findIn K (.ref C) "__init__"=some (some (.ref f))) (t:PySem.W.typeIn K (.ref f)=some (.type "function"))
  (l:K.lookup f=some ⟨oc,od,.func (PySem.W.fnOf "__init__" qual (ig st) (du st) (au st) .none kV doc pm an cdv ct),osl⟩) (c:PySem.W.codeIn K cdv qual=true) (k:PySem.W.keepIn K (.ref f)=true):uH K mg x fl qual st:=by
 have m:=ZG X G a
 have e:=jO m
 refine ⟨QT X G a b,by rw [e];exact kp,fun n hn=>?_,f,_,by rw [e];exact i,t,Ca l c k⟩
 rw [e]
 have:=Zi.mp na n hn
 exact ZF.mp this
structure Sub (K:W.Frag) (mg:Str->Option Value) (x y:Str) (b:Bool):Prop where
 mro:PySem.W.mroIn K (aL mg x) (.ref (aL mg y))=some b
 one:PySem.W.kitOne K (.ref (aL mg x)) (.ref (aL mg y))=some b
theorem tG {K:W.Frag} {mg:Str->Option Value} {h:Heap} (X:K.In h) (G:h.Ns mainGlobals mg) {x y:Str} {C P:Addr} {r:Bool} (a:PySem.W.nsIn K mainGlobals x=some (some (.ref C))) (b:PySem.W.nsIn K mainGlobals y=some (some (.ref P)))
  (m:PySem.W.mroIn K C (.ref P)=some r) (o:PySem.W.kitOne K (.ref C) (.ref P)=some r):Sub K mg x y r:=by
 have e:=jO (ZG X G a)
 have e2:=jO (ZG X G b)
 exact ⟨by rw [e,e2];exact m,by rw [e,e2];exact o⟩
theorem Fb {K:W.Frag} {mg:Str->Option Value} {h:Heap} (X:K.In h) (G:h.Ns mainGlobals mg) {x:Str} {T:String} {C:Addr} {r:Bool} (a:PySem.W.nsIn K mainGlobals x=some (some (.ref C)))
  (o:PySem.W.kitOne K (.ref C) (.type T)=some r):PySem.W.kitOne K (.ref (aL mg x)) (.type T)=some r:=by
 rw [jO (ZG X G a)];exact o
structure JH (X:Cx) (hs:List ExceptHandler) (th:TH):Prop where
 run:PH X hs th
section
variable {X:Cx} {K:W.Frag} {k:Nat} {x n fn:Str} {ps:List Str} {sp:Sp} {R:St->XK} {p pos cpos pos':Pos} {e o value:Expr} {es:List Expr} {t:TA} {ta tv:TE} {st:Stmt} {u ts:TS} {th:TH} {hs:List ExceptHandler} {i:Nat}
theorem jm (F:HasX X.prog X.w X.K X.mg X.base k x ps sp) (hr:Room k X.A) (hg:Gl X x) (hx:lC X R) (ha:JA X (e :: es) t) (hdb:(x == ("__debug__":Str))=false) (h:autoParam ((e :: es).all notStar=true) L2.auto4._auto_1):
  JE X (.Call (.Name x p) (e :: es) [] pos) (CJ sp R t):=by
 have h1:notStar e=true:=by simp only [YQ,Yg] at h;exact h.1
 have h2:es.all notStar=true:=by simp only [YQ,Yg] at h;exact h.2
 exact ⟨Kf F hr hg hx ha.run hdb (cZ h1) (mz h2)⟩
theorem Ae {C:Addr} (hg:Gl X x) (hm:X.mg x=some (.ref C)) (hd:(x == ("__debug__":Str))=false):JE X (.Name x pos) (tC (.ref C)):=⟨yg hg hm rfl hd⟩
theorem vP (hK:X.K=K) (he:JE X e ta) (h:autoParam (nM e=true) L2.auto4._auto_1):JE X (.Attribute e fn pos) (Kg K ta fn):=by
 subst hK
 exact ⟨Ol he.run (by cases e <;> first | rfl | cases h)⟩
theorem yD (hK:X.K=K) (ha:JE X o ta) (hv:JE X value tv) (h:autoParam (lV value=true) L2.auto4._auto_1):JS X (.Assign [.Attribute o fn pos'] value pos) (Ab K ta tv fn):=by
 subst hK
 exact ⟨Oj ha.run hv.run (zU h)⟩
theorem Af {fl:List Str} (M:Vo X.prog X.w X.K X.mg X.base k x (aL X.mg x) fl) (hr:Room (k+1) X.A) (hc:X.calm=true) (hg:Gl X x) (hx:lC X R) (ha:JA X (e :: es) t) (hdb:(x == ("__debug__":Str))=false) (h:autoParam ((e :: es).all notStar=true) L2.auto4._auto_1):
  JS X (.Raise (some (.Call (.Name x p) (e :: es) [] cpos)) none pos) (CK (aL X.mg x) fl R t):=by
 have h1:notStar e=true:=by simp only [YQ,Yg] at h;exact h.1
 have h2:es.all notStar=true:=by simp only [YQ,Yg] at h;exact h.2
 exact ⟨Kh M hr hc hg hx ha.run hdb (cZ h1) (mz h2)⟩
theorem CN:JH X [] (fun _ _ _ _ _=>False):=⟨T3⟩
theorem Km {b0:Stmt} {suite:List Stmt} (hK:X.K=K) (c:Hb K X.mg x) (hg:Gl X x) (hdb:(x == ("__debug__":Str))=false) (hN:X.N.Nodup) (hi:X.N[i]?=some n) (hl:X.env.scope.names.lookup n=some .local)
  (hsu:∀ x,JB (X.sui x) (b0 :: suite) ts) (hr:JH X hs th):JH X (.ExceptHandler (some (.Name x p)) (some n) (b0 :: suite) pos :: hs) (hAs K (aL X.mg x) i ts th):=by
 subst hK
 exact ⟨Wu hg c.at_ c.cl.cls hdb hN hi hl (fun x=>(hsu x).run) hr.run⟩
theorem Ko {b0:Stmt} {suite:List Stmt} (hK:X.K=K) (c:Hb K X.mg x) (hg:Gl X x) (hdb:(x == ("__debug__":Str))=false)
  (hsu:∀ x,JB (X.sui x) (b0 :: suite) ts) (hr:JH X hs th):JH X (.ExceptHandler (some (.Name x p)) none (b0 :: suite) pos :: hs) (hNo K (aL X.mg x) ts th):=by
 subst hK
 exact ⟨Wv hg c.at_ c.cl.cls hdb (fun x=>(hsu x).run) hr.run⟩
theorem CP {body:List Stmt} {h0:ExceptHandler} {tb:(St->XK)->TS} (hst:X.stack=X.env :: X.outer) (hfr:X.env.frame=some X.env.locals) (hb:∀ (pins:List (Addr×Obj)) (R:St->XK),JB (X.bod pins R) body (tb R)) (hh:JH X (h0 :: hs) th):
  JS X (.Try body (h0 :: hs) [] [] pos) (T4 tb th):=⟨T5 hst hfr (fun pins R=>(hb pins R).run) hh.run⟩
end
section
variable {P:Program} {w:World} {K:W.Frag} {mg:Str->Option Value} {base:Heap}
theorem xM {x:Str} {st:Stmt} {N ps:List Str} {k:Nat} {sp:Sp} (D:Def K mg x st) (S:aG N ps (au st))
  (hb:∀ (kV doc pm:Value) (an:Option Addr) (cdv ct:Value) (us:List Value),us.length=ps.length->bindArgs (PySem.W.fnOf x x (ig st) (du st) (au st) .none kV doc pm an cdv ct) ⟨us,[]⟩=pure (ps.zip us))
  (len:∀ vs H Q E,sp vs H Q E->vs.length=ps.length)
  (hbody:∀ (f:Addr) (cdv:Value) (A:Around) (outer:List Env) (s:Shared) (H:Hp) (vs:List V) (Q:VK) (E:XK),Room k (A.deeper (envOfC x (au st) s.heap.objs.size f cdv))->sp vs H Q E->
   ∃ t,JB (qF (Od P w) P w K mg base N x (au st) f cdv A outer s H E) (du st) t/\t {nx:=fun _ H'=>Q .non H',rt:=Q} (start N vs) H):HasX P w K mg base (k+1) x ps sp:=by
 obtain ⟨f,fd,F,hm⟩:=D
 refine ⟨f,fd,hm,F.kp,F.binds hb,?_⟩
 obtain ⟨oc,od,kV,doc,pm,an,cdv,ct,osl,rfl,lk,hcd⟩:=F.ex
 exact Jd lk hcd S len fun A outer s H vs Q E hr h=>let ⟨t,j,q⟩:=hbody f cdv A outer s H vs Q E hr h;⟨t,j.run,q⟩
theorem mkX {x qual:Str} {st:Stmt} {N ps:List Str} {fl:List Str} {k:Nat} (D:uH K mg x fl qual st) (S:aG N ps (au st))
  (hb:∀ (kV doc pm:Value) (an:Option Addr) (cdv ct:Value) (us:List Value),us.length=ps.length->bindArgs (PySem.W.fnOf "__init__" qual (ig st) (du st) (au st) .none kV doc pm an cdv ct) ⟨us,[]⟩=pure (ps.zip us))
  (hl:ps.length=fl.length+1)
  (hbody:∀ (f:Addr) (cdv:Value) (A:Around) (outer:List Env) (s:Shared) (H:Hp) (vs:List V) (Q:VK) (E:XK),Room k (A.deeper (envOfC qual (au st) s.heap.objs.size f cdv))->vN (aL mg x) fl vs H Q E->
   ∃ t,JB (qF GC P w K mg base N qual (au st) f cdv A outer s H E).nox (du st) t/\t {nx:=fun _ H'=>Q .non H',rt:=Q} (start N vs) H):Vo P w K mg base (k+1) x (aL mg x) fl:=by
 obtain ⟨f,fd,a,b,F⟩:=D.ini
 refine ⟨D.c.at_,D.c.cl,D.kp,D.na,f,fd,ps,a,b,F.binds hb,F.ok S (fun vs H Q E h=>?_) fun cdv A outer s H vs Q E hr h=>let ⟨t,j,q⟩:=hbody f cdv A outer s H vs Q E hr h;⟨t,j.run,q⟩⟩
 obtain ⟨y,ws,rfl,hw,_⟩:=h
 rw [Y5,hw,hl]
end
def initOf:Stmt->Stmt
 | .ClassDef _ _ _ (s :: _) _ _ _ _ _ _ _=>s
 | s=>s
section
variable {U:St} {H:Hp} {D:Ends} {Q:VK} {sp:Sp} {R:St->XK} {a:TA} {K:W.Frag} {C P:Addr} {fl:List Str} {th:TH} {ts:TS} {i:Nat} {ta:TE} {f:Str}
theorem bz (h:a U H fun vs H1=>sp vs H1 Q (R U)):CJ sp R a U H Q:=h
theorem eO {tb:(St->XK)->TS} (h:tb (fun U' c x H'=>∃ C a,c= .ref C/\x=some a/\th D U' a C H') D U H):T4 tb th D U H:=h
theorem bA (h:a U H fun vs H1=>vs.length=fl.length/\vs.length<=sizeLine/\∀ x H2,Same H1 H2->IsX H2 x C (fl.zip vs)->R U (.ref C) (some x) H2):CK C fl R a D U H:=h
theorem cR (h:ta U H fun x H1=>∃ a C fs v,x= .ref a/\IsX H1 a C fs/\XCls K C/\NoAttr K C f/\fs.lookup f=some v/\Q v H1):Kg K ta f U H Q:=h
theorem Kp {x C:Addr} (c:XCls K C) (m:PySem.W.mroIn K C (.ref P)=some true) (h:ts (D.gone i) (U.set i (some (.ref x))) H):hAs K P i ts th D U x C H:=⟨true,c,m,by rw [if_pos rfl];exact h⟩
theorem yE {x C:Addr} {v:V} {c:Value} {fs:List (Str×V)} {b:Bool} (ex:IsX H x C fs) (cl:Oi K C) (e:Xu v=some c) (o:PySem.W.kitOne K (.ref C) c=some b) (h:Q (.bl b) H):EY K [.ref x,v] H Q:=
 ⟨.ref x,.ref C,b,.inr ⟨x,C,fs,rfl,ex,cl,rfl⟩,.inl ⟨v,c,rfl,e,o⟩,h⟩
theorem rO {x:V} {t:Value} {p:Addr} {vs:List V} {cs:List Value} {b:Bool} (ty:TyOf K H x t) (hp:H p=some (.tup vs)) (e:Kc vs=some cs) (o:PySem.W.kitAny K t cs=some b) (h:Q (.bl b) H):EY K [x,.ref p] H Q:=
 ⟨x,t,b,.inl ty,.inr ⟨p,vs,cs,rfl,hp,e,o⟩,h⟩
theorem rd1 {f1 p0 p1:Str} {vs:List V} {E:XK} (c:XCls K C) (n:NoAttr K C f1) (h:vN C [f1] vs H Q E):Ab K (oY 0) (oY 1) f1 {nx:=fun _ H'=>Q .non H',rt:=Q} (start [p0,p1] vs) H:=by
 obtain ⟨x,ws,rfl,hw,hx,q⟩:=h
 match ws,hw with
 | [v],_=>exact ⟨v,rfl,.ref x,rfl,x,C,rfl,c,n,.inl ⟨hx,fun d hd ne=>q d hd ne⟩⟩
theorem rd2 {f1 f2 p0 p1 p2:Str} {vs:List V} {E:XK} (c:XCls K C) (n:NoAttr K C f1) (n2:NoAttr K C f2) (ne:f1≠f2) (h:vN C [f1,f2] vs H Q E):
  Il (Ab K (oY 0) (oY 1) f1) (Ab K (oY 0) (oY 2) f2) {nx:=fun _ H'=>Q .non H',rt:=Q} (start [p0,p1,p2] vs) H:=by
 obtain ⟨x,ws,rfl,hw,hx,q⟩:=h
 match ws,hw with
 | [v,u],_=>
  refine ⟨v,rfl,.ref x,rfl,x,C,rfl,c,n,.inl ⟨hx,fun d hd nd=>?_⟩⟩
  refine ⟨u,rfl,.ref x,rfl,x,C,rfl,c,n2,.inr ⟨d,[(f1,v)],?_,aj,by show 1 < 1000;decide,?_⟩⟩
  ·rw [aD (Ne.symm nd),aj]
  ·rw [Mt]
   have e:lO f2 u [(f1,v)]=[(f1,v),(f2,u)]:=by
    show (if f1=f2 then _ else _)=_
    rw [if_neg ne]
    rfl
   rw [e]
   exact q d hd nd
end
theorem IsX.same {H H':Hp} {x C:Addr} {fs:List (Str×V)} (h:IsX H x C fs) (s:Same H H'):IsX H' x C fs:=let ⟨d,a,b⟩:=h;⟨d,s _ _ a,s _ _ b⟩
section
variable {X:Cx} {e:Expr} {te:TE} {lo hi:Option Expr} {st:Expr} {tl th ts:TO} {pos p2:Pos}
theorem Om:JE X (.Dict [] [] pos) Ce:=⟨Jv⟩
end
section
variable {U:St} {H:Hp} {Q:VK} {te:TE}
theorem cT (h:∀ p,H p=none->Q (.ref p) (upd H p (.dK []))):Ce U H Q:=h
end
def Ww (K:W.Frag) (neg:Bool):R2:=fun x y H Q=>∃ a b xs,x= .ref a/\y= .ref b/\SqL K H a xs/\SqL K H b xs/\(∀ v∈xs,kZ v=true\/∃ r,v= .ref r)/\Q (.bl (!neg)) H
theorem Ag {v:V} (f:kZ v=true):zx v v=true:=by
 cases v <;> first | (cases f;done) | rfl | (simp [zx])
section
variable {X:Cx}
theorem T6 (hu:X.A.units < cLine):OpR X (compareOp .Eq) (Ww X.K false):=by
 intro pins s U H x y v u Q I rx ry h
 obtain ⟨a,b,xs,rfl,rfl,ha,hb,fx,q⟩:=h
 cases rx
 cases ry
 obtain ⟨its,r1,p1,z1⟩:=I.list ha
 obtain ⟨jts,r2,p2,z2⟩:=I.list hb
 have l1:its.toArray.size=xs.length:=by simpa using r1.length.symm
 have l2:jts.toArray.size=xs.length:=by simpa using r2.length.symm
 refine SeqAt.eq_listAt (e:=fun _=>true) p1.isList p2.isList (by rw [l1,l2]) hu (fun j h1 h2=>?_) ?_
 ·have hj:j < xs.length:=by omega
  obtain ⟨u1,e1,q1⟩:=r1.get (XR hj)
  obtain ⟨u2,e2,q2⟩:=r2.get (XR hj)
  have f1:its.toArray[j]=u1:=by
   obtain ⟨_,z⟩:=XM.mp e1
   simpa using z
  have f2:jts.toArray[j]=u2:=by
   obtain ⟨_,z⟩:=XM.mp e2
   simpa using z
  rw [f1,f2]
  rcases fx _ (Aam hj) with f | ⟨r,f⟩
  ·rw [← Ag f]
   exact sW q1 q2 f f
  ·rw [f] at q1 q2
   cases (show u1=Value.ref r from q1)
   cases (show u2=Value.ref r from q2)
   exact SeqAt.EqAt.same _
 ·have e:(List.range its.toArray.size).all (fun _=>true)=true:=by simp
  rw [e]
  exact ⟨.bl true,H,I,rfl,q⟩
def Oo (K:W.Frag):R2:=fun x y H Q=>JX K x y H Q\/Ww K false x y H Q
theorem T7 {K:W.Frag} (hK:X.K=K) (hu:X.A.units+64 < cLine):OpR X (compareOp .Eq) (Oo K):=by
 subst hK
 exact (CG rfl hu).or (T6 (Nat.lt_of_le_of_lt (Nat.le_add_right _ _) hu))
end
section
variable {H:Hp} {Q:VK} {K:W.Frag}
theorem bQ {i j:Int} (h:Q (.bl (decide (V.int i=V.int j))) H):Oo K (.int i) (.int j) H Q:=.inl (bM h)
theorem bR {i j:Str} (h:Q (.bl (decide (V.str i=V.str j))) H):Oo K (.str i) (.str j) H Q:=.inl (bO h)
end
end L2
namespace L2
open PySem PySem.Spec PyProof.Rows
open AutoSeq1 (wpAny_loadPart')
theorem T8:isSubtype (.type "dict") (.type "dict")=pure true:=by rw [Aai];kernel_rfl
theorem Hc {prog:Program} {w:World} {A:Around} {E:Value->Shared->Prop} {s:Shared} {Q:Value->Shared->Prop} {a:Addr} {o:Obj} {e:DictEntry} {ep:Nat} {k:Key} (ho:s.heap.get? a=some o) (hc:o.cls= .type "dict") (hd:o.data= .dict #[e] ep)
  (hkey:(fG prog w).is k e.key=true) (hh:e.hash=(fG prog w).hash k) (hsm:(a == sysModules)=false) (hu:A.units < cLine) (h:Q (.bool true) s):wpAny (model prog w) A (compareOp .Eq (.ref a) (.ref a)) Q E s:=by
 show wpAny _ _ (richCompare .Eq (.ref a) (.ref a)) _ _ _
 refine wpAny_richCompare_same_room ⟨o,ho,hc⟩ ⟨o,ho,hc⟩ F.slot_dict_eq (Aag (Aaj F.slot_dict_eq.plain F.entry_dict_eq (F.slot_dict_eq.check _ _ _ _ _ _ _ _ ⟨o,ho,hc⟩ (F.args_dict_eq_2 _ _) ?_))) hu
 have ko:KeysOf (fG prog w) #[e]:=fun x hx=>by
  simp at hx
  subst hx
  exact ⟨k,hkey,hh⟩
 have f2:=T8
 obtain ⟨hp,g,d,tk,os⟩:=s
 have hT:(⟨hp,g,d,tk,os⟩:Shared).TypeIs (.ref a) "dict":=⟨_,ho,hc⟩
 unfold Builtin.«dict.__eq__»
 wp_walk using wpAny_loadPart' ho
 have en:∀ (Q:Array DictEntry->Shared->Prop) (E:Value->Shared->Prop),Q #[e] ⟨hp,g,d,tk,os⟩->wpAny (model prog w) A.in1 (dictEntries a) Q E ⟨hp,g,d,tk,os⟩:=fun Q E q=>by
  unfold dictEntries
  refine XJ (Aaf ho ?_)
  simp only [hd]
  exact XS q
 have eo:∀ (Q:Nat->Shared->Prop) (E:Value->Shared->Prop),Q ep ⟨hp,g,d,tk,os⟩->wpAny (model prog w) A.in1 (dictEpoch a) Q E ⟨hp,g,d,tk,os⟩:=fun Q E q=>by
  unfold dictEpoch
  refine XJ (Aaf ho ?_)
  simp only [hd]
  exact XS q
 simp only [hd]
 refine XS ?_
 refine XJ (en _ _ ?_)
 rw [if_neg (by simp)]
 refine XJ (eo _ _ ?_)
 refine XJ ?_
 rw [Std.Legacy.Range.forIn_eq_forIn_range']
 simp only [Std.Legacy.Range.size,Nat.sub_zero,Nat.add_sub_cancel,Nat.div_one]
 show wpAny _ _ (forIn [0] _ _) _ _ _
 rw [List.forIn_cons]
 refine XJ (XJ (en _ _ ?_))
 show wpAny _ _ (holding [e.key,e.val] _ >>=_) _ _ _
 refine XJ (Y7 ?_)
 refine XJ (show wpAny (model prog w) A.in1 (dictFind a e.key e.hash) _ _ _ from ?_)
 rw [hh]
 refine wpAny_dictFind_of hkey ho hd ko ?_
 have fi:(#[e]:Array DictEntry).findIdx? (fun e=>(fG prog w).is k e.key)=some 0:=by simp [hkey]
 rw [fi]
 refine XJ (en _ _ ?_)
 show wpAny _ _ (holding [e.val] (eqBool e.val e.val)) _ _ _
 refine Y7 (SeqAt.EqAt.same e.val prog w _ _ ?_)
 rw [if_neg (by simp)]
 refine XJ (eo _ _ ?_)
 rw [if_neg (by simp)]
 refine XS ?_
 show wpAny _ _ (forIn [] _ _) _ _ _
 rw [List.forIn_nil]
 refine XS (XS ?_)
 exact XS ⟨(fun z=>nomatch z),h⟩
def Wx:R2:=fun x y H Q=>(y= .non/\Q (.bl (decide (x= .non))) H)\/∃ a b,x= .bl a/\y= .bl b/\Q (.bl (a == b)) H
def Fd:R2:=fun x y H Q=>(y= .non/\Q (.bl (!decide (x= .non))) H)\/∃ a b,x= .bl a/\y= .bl b/\Q (.bl (!(a == b))) H
section
variable {X:Cx}
theorem T9:OpR X (compareOp .Is) Wx:=RX.or (by
 intro pins s U H x y v u Q I rx ry h
 obtain ⟨a,b,rfl,rfl,q⟩:=h
 cases rx
 cases ry
 exact is_bool ⟨.bl _,H,I,rfl,q⟩)
theorem Hd:OpR X (compareOp .IsNot) Fd:=Nf.or (by
 intro pins s U H x y v u Q I rx ry h
 obtain ⟨a,b,rfl,rfl,q⟩:=h
 cases rx
 cases ry
 exact isnot_bool ⟨.bl _,H,I,rfl,q⟩)
def QV (K:W.Frag):R2:=fun x y H Q=>∃ a b xs,x= .ref a/\y= .ref b/\SqT K H a xs/\SqT K H b xs/\(∀ v∈xs,kZ v=true\/∃ r,v= .ref r)/\Q (.bl true) H
theorem Oq (hu:X.A.units < cLine):OpR X (compareOp .Eq) (QV X.K):=by
 intro pins s U H x y v u Q I rx ry h
 obtain ⟨a,b,xs,rfl,rfl,ha,hb,fx,q⟩:=h
 cases rx
 cases ry
 obtain ⟨its,r1,p1,z1⟩:=I.tuple ha
 obtain ⟨jts,r2,p2,z2⟩:=I.tuple hb
 have l1:its.toArray.size=xs.length:=by simpa using r1.length.symm
 have l2:jts.toArray.size=xs.length:=by simpa using r2.length.symm
 refine SeqAt.eq_tupleAt (e:=fun _=>true) p1 p2 hu (fun j h1 h2=>?_) ?_
 ·have hj:j < xs.length:=by omega
  obtain ⟨u1,e1,q1⟩:=r1.get (XR hj)
  obtain ⟨u2,e2,q2⟩:=r2.get (XR hj)
  have f1:its.toArray[j]=u1:=by
   obtain ⟨_,z⟩:=XM.mp e1
   simpa using z
  have f2:jts.toArray[j]=u2:=by
   obtain ⟨_,z⟩:=XM.mp e2
   simpa using z
  rw [f1,f2]
  rcases fx _ (Aam hj) with f | ⟨r,f⟩
  ·rw [← Ag f]
   exact sW q1 q2 f f
  ·rw [f] at q1 q2
   cases (show u1=Value.ref r from q1)
   cases (show u2=Value.ref r from q2)
   exact SeqAt.EqAt.same _
 ·have e:((List.range (min its.toArray.size jts.toArray.size)).all (fun _=>true) && its.toArray.size == jts.toArray.size)=true:=by rw [l1,l2];simp
  rw [e]
  exact ⟨.bl true,H,I,rfl,q⟩
def QW:R2:=fun x y H Q=>∃ a k v,x= .ref a/\y= .ref a/\H a=some (.dK [(k,v)])/\Q (.bl true) H
theorem Ot (hu:X.A.units < cLine):OpR X (compareOp .Eq) QW:=by
 intro pins s U H x y v u Q I rx ry h
 obtain ⟨a,k,z,rfl,rfl,ha,q⟩:=h
 cases rx
 cases ry
 obtain ⟨_,hsm,vs,kv,o,es,ep,h1,h2,h3,h4,h5,h6⟩:=(show ObjOk X.prog X.w H s.heap a (.dK [(k,z)]) from I.hok a _ ha)
 cases kv with
 | cons a1 a2=>
  cases a2
  obtain ⟨l⟩:=es
  dsimp only at h5
  cases h5 with
  | @cons en _ _ _ p1 p2 p3=>
   cases p3
   obtain ⟨k',b1,b2⟩:=h4 en (by simp)
   exact Hc (e:=en) h1 h2.1 h3 b1 b2 hsm hu ⟨.bl true,H,I,rfl,q⟩
def Ua (K:W.Frag):R2:=fun x y H Q=>Oo K x y H Q\/QV K x y H Q\/QW x y H Q
theorem mC {K:W.Frag} (hK:X.K=K) (hu:X.A.units+64 < cLine):OpR X (compareOp .Eq) (Ua K):=by
 subst hK
 exact (T7 rfl hu).or ((Oq (Nat.lt_of_le_of_lt (Nat.le_add_right _ _) hu)).or (Ot (Nat.lt_of_le_of_lt (Nat.le_add_right _ _) hu)))
end
section
variable {H:Hp} {Q:VK} {K:W.Frag}
theorem bB {U:St} {r r':R2} {ta tb tc:TE} (h:ta U H fun x H1=>tb U H1 fun y H2=>r x y H2 fun z H3=>∃ k,z= .bl k/\if k=true then tc U H3 fun w H4=>r' y w H4 Q else Q (.bl false) H3):Bx r r' ta tb tc U H Q:=h
theorem eQ {x:V} (h:Q (.bl (decide (x= .non))) H):Wx x .non H Q:=.inl ⟨rfl,h⟩
theorem aU {x:V} (h:Q (.bl (!decide (x= .non))) H):Fd x .non H Q:=.inl ⟨rfl,h⟩
theorem cU {i j:Int} (h:Q (.bl (decide (V.int i=V.int j))) H):Ua K (.int i) (.int j) H Q:=.inl (bQ h)
theorem cV {i j:Str} (h:Q (.bl (decide (V.str i=V.str j))) H):Ua K (.str i) (.str j) H Q:=.inl (bR h)
end
end L2
namespace L2
open PySem PySem.Spec PyProof.Rows PySem.SeqAt
theorem cps_append (a b:Str):(a ++ b).cps.toList=a.cps.toList ++ b.cps.toList:=by
 show (a.cps ++ b.cps).toList=_
 rw [Array.toList_append]
theorem Ou (lo hi:Option Int) (n:Nat):Builtin.Str.strSliceIndices lo hi 1 n=(List.range (HT.sIx n n hi - HT.sIx n 0 lo)).map fun k=>HT.sIx n 0 lo+k:=by
 have c:∀ (i:Int) (d:Nat),max 0 (min (if i < 0 then i+(n:Int) else i) (n:Int))=((HT.sIx n d (some i):Nat):Int):=by
  intro i d
  rw [← HT.clip_eq]
  split <;> omega
 have key:∀ a b:Nat,(List.range (if (a:Int) < (b:Int) then ((b:Int) - a+1 - 1) / 1 else 0).toNat).map (fun k:Nat=>((a:Int)+1*(k:Int)).toNat)=(List.range (b - a)).map fun k=>a+k:=by
  intro a b
  have e3:(if (a:Int) < (b:Int) then ((b:Int) - a+1 - 1) / 1 else 0).toNat=b - a:=by split <;> omega
  rw [e3]
  refine Zx fun k _=>?_
  omega
 unfold Builtin.Str.strSliceIndices sliceRange
 simp only [show (1:Int) > 0 by decide,if_true]
 cases lo with
 | none=>
  cases hi with
  | none=>exact key 0 n
  | some j=>rw [← key,← c j n];rfl
 | some i=>
  cases hi with
  | none=>rw [← key,← c i 0];rfl
  | some j=>rw [← key,← c i 0,← c j n]
theorem QX {α β:Type} {f:α->Option β} {g:α->β}:∀ (l:List α),(∀ k∈l,f k=some (g k))->l.filterMap f=l.map g
 | [],_=>rfl
 | k :: l,h=>by rw [List.filterMap_cons,h k (by simp),Ys,QX l fun j hj=>h j (Yi _ hj)]
theorem Hf (l:List Nat) (a m:Nat) (h:a+m<=l.length):((List.range m).map fun k=>a+k).filterMap (fun i=>l[i]?)=(l.drop a).take m:=by
 rw [List.filterMap_map,QX (g:=fun k=>l.getD (a+k) 0)]
 ·refine List.ext_getElem? fun i=>?_
  rw [XX,List.getElem?_take]
  by_cases hi:i < m
  ·rw [if_pos hi,Yt hi,List.getElem?_drop,XR (by omega)]
   simp [XR (show a+i < l.length by omega)]
  ·rw [if_neg hi,ZR (by simp;omega)];rfl
 ·intro k hk
  have hk:=YC.mp hk
  show l[a+k]?=_
  rw [X6,XR (by omega)];rfl
theorem xN (z:Str) (lo hi:Option Int):(Txt.slice z lo hi).cps.toList=(z.cps.toList.drop (HT.sIx z.length 0 lo)).take (HT.sIx z.length z.length hi - HT.sIx z.length 0 lo):=by
 have hn:z.cps.toList.length=z.length:=by simp [Str.length]
 have la:=HT.sIx_le z.length 0 (YT _) lo
 have lb:=HT.sIx_le z.length z.length (XQ _) hi
 unfold Txt.slice
 rw [Ou]
 generalize HT.sIx z.length 0 lo=a at la ⊢
 generalize HT.sIx z.length z.length hi=b at lb ⊢
 split
 ·rename_i h
  simp at h
  have ha:a=0:=by
   rcases Nat.eq_zero_or_pos z.length with h0 | h0
   ·omega
   ·omega
  subst ha
  rw [List.drop_zero,Zj (by omega)]
 ·show List.filterMap (fun x=>z.cps[x]?) _=_
  have e:(fun x:Nat=>z.cps[x]?)=fun x=>z.cps.toList[x]?:=by funext x;simp
  rw [e]
  by_cases h:a<=b
  ·exact Hf _ a (b - a) (by omega)
  ·rw [show b - a=0 by omega];simp
theorem Ah (z:Str) (k:Nat):(Txt.slice z none (some (k:Int))).cps.toList=z.cps.toList.take k:=by
 rw [xN,HT.sIx_none,HT.sIx_nat,List.drop_zero,Nat.sub_zero]
 have hn:z.cps.toList.length=z.length:=by simp [Str.length]
 by_cases h:k<=z.length
 ·rw [Nat.min_eq_left h]
 ·rw [Nat.min_eq_right (by omega),Zj (by omega),Zj (by omega)]
theorem vQ (z:Str) (k:Nat):(Txt.slice z (some (k:Int)) none).cps.toList=z.cps.toList.drop k:=by
 rw [xN,HT.sIx_none,HT.sIx_nat]
 have hn:z.cps.toList.length=z.length:=by simp [Str.length]
 by_cases h:k<=z.length
 ·rw [Nat.min_eq_left h,Zj (by rw [List.length_drop];omega)]
 ·rw [Nat.min_eq_right (by omega),List.drop_eq_nil_of_le (by omega),List.drop_eq_nil_of_le (by omega)];simp
theorem CQ {n:Nat}:∀ {ds:List PyData},(∀ d∈ds,d.canLay0=true/\d.depth<=n)->PyData.canLayAll0 ds=true/\PyData.depthAll ds<=n
 | [],_=>⟨rfl,by simp [PyData.depthAll]⟩
 | d :: ds,h=>by
  obtain ⟨a,b⟩:=CQ fun e he=>h e (Yi _ he)
  obtain ⟨c,e⟩:=h d (by simp)
  rw [PyData.canLayAll0,PyData.depthAll,a,c]
  exact ⟨rfl,by omega⟩
theorem Kq {n:Nat} {ds:List PyData} (h:∀ d∈ds,d.canLay0=true/\d.depth<=n):(PyData.list ds).canLay0=true/\(PyData.list ds).depth<=n+1:=by
 obtain ⟨a,b⟩:=CQ h
 rw [PyData.canLay0,PyData.depth]
 exact ⟨a,by omega⟩
theorem Hg {n:Nat} {ds:List PyData} (h:∀ d∈ds,d.canLay0=true/\d.depth<=n):(PyData.tuple ds).canLay0=true/\(PyData.tuple ds).depth<=n+1:=by
 obtain ⟨a,b⟩:=CQ h
 rw [PyData.canLay0,PyData.depth]
 exact ⟨a,by omega⟩
theorem Ov (s:Int):(PyData.int s).canLay0=true/\(PyData.int s).depth<=0:=by simp [PyData.canLay0,PyData.depth]
theorem CV {d:PyData} {n:Nat} (h:d.canLay0=true/\d.depth<=n) (hn:n<=64):shaped d=true:=by
 unfold shaped
 rw [h.1,Yj (by omega)];rfl
theorem lD {xs:List V} {H:Hp} {R:Addr->Prop} (c:Nat.ble xs.length 64=true) (h:∀ p,H p=none->R p):xs.length<=sizeLine/\∀ p,H p=none->R p:=
 ⟨Yz (Nat.le_of_ble_eq_true c) (by decide),h⟩
theorem eU {A B:Prop} (h:A):if (!false)=true then A else B:=(if_pos (show (!false)=true from rfl)).mpr h
theorem eV {A B:Prop} (h:B):if (!true)=true then A else B:=by rw [if_neg (by simp)];exact h
theorem Kr {t u:TS} {D:Ends} {U:St} {H:Hp} (M:St->Hp->Prop) (h1:∀ U H,M U H->u D U H) (h2:∀ N,(∀ U H,M U H->N U H)->t {D with nx:=N} U H):Il t u D U H:=h2 _ h1
theorem Wy {α:Type} {xs:List α} {n:Nat} {v:α} (h:xs.length=n+1) (e:xs[n]?=some v):uU xs (-1)=some v:=by
 unfold uU Bs
 rw [h,if_neg (by omega),if_pos (by omega)]
 show xs[((-1:Int)+((n+1:Nat):Int)).toNat]?=some v
 rw [show ((-1:Int)+((n+1:Nat):Int)).toNat=n by omega];exact e
end L2
namespace L2
open PySem PySem.Spec PyProof.Rows PySem.SeqAt
open AutoSeq1 (wpAny_loadPart')
end L2
namespace L2
open PySem PySem.Spec PyProof.Rows
def Wz (K:W.Frag):R2:=fun x y H Q=>JD K x y H Q\/∃ a o,y= .ref a/\DGet H a x o/\Q (.bl o.isSome) H
def Fe:Bu:=fun o i v H R=>zJ o i v H R\/∃ a H4,o= .ref a/\DPut H a i v H4/\R H4
def CW:V->List V->Hp->VK->Prop:=fun x vs H Q=>∃ (l:Addr) (ns:List Int) (k:Int),x= .ref l/\vs=[.int k]/\H l=some (.lst (ns.map V.int))/\ns.length<=1000/\(∀ x∈ns,0<=x/\x < 1000)/\k∈ns/\Q (.int (ns.idxOf k:Nat)) H
theorem uA:∀ {ns:List Int},(∀ x∈ns,0<=x/\x < 1000)->PyData.weightAll (ns.map PyData.int)<=12*ns.length/\PyData.canLayAll0 (ns.map PyData.int)=true/\PyData.depthAll (ns.map PyData.int)=0
 | [],_=>⟨by simp [PyData.weightAll],rfl,by simp [PyData.depthAll]⟩
 | n :: ns,h=>by
  obtain ⟨a,b,c⟩:=uA fun x hx=>h x (Yi _ hx)
  have hn:=h n (by simp)
  have hw:PyData.weight (.int n)<=11:=by
   rw [PyData.weight]
   split
   ·omega
   ·rename_i h0
    have h1:n.natAbs≠0:=fun z=>h0 (by simp;omega)
    have:n.natAbs.log2 < 10:=(Nat.log2_lt h1).mpr (by omega)
    omega
  rw [Ys,PyData.weightAll,PyData.canLayAll0,PyData.depthAll,b,c]
  refine ⟨by simp;omega,by simp [PyData.canLay0],by simp [PyData.depth]⟩
theorem yF {ns:List Int} (hl:ns.length<=1000) (h:∀ x∈ns,0<=x/\x < 1000):PyData.layable0 (.list (ns.map PyData.int))=true:=by
 obtain ⟨a,b,c⟩:=uA h
 unfold PyData.layable0
 rw [PyData.canLay0,b,PyData.depth,c,PyData.weight,Yj (show 0+1<=64 by omega),Yj (show PyData.weightAll (ns.map PyData.int)<=2 ^ 20 by omega)]
 rfl
def Ai (n0:List V->Hp->(Int->Int->Nat->Prop)->Prop) (ta:TA):TE:=fun U H Q=>ta U H fun vs H1=>n0 vs H1 fun lo c n=>∀ q,H1 q=none->Q (.ref q) (upd H1 q (.lst ((List.range n).map fun i:Nat=>V.int (lo+(i:Int)*c))))
def rng1:List V->Hp->(Int->Int->Nat->Prop)->Prop:=fun vs _ R=>∃ n:Nat,vs=[.int n]/\n<=1000000/\R 0 1 n
theorem Hh {lo c:Int} {n:Nat} {acc:Array Value} (h:ItemsOf (fun i v=>∃ t,v= .int (lo+i*c) t) acc n):Vals ((List.range n).map fun i:Nat=>V.int (lo+(i:Int)*c)) acc.toList:=by
 obtain ⟨h1,h2⟩:=h
 have key:∀ (k:Nat) (a:List Value) (b:Nat),a.length=k->(∀ (j:Nat) (v:Value),a[j]?=some v->∃ t,v= .int (lo+((b+j:Nat):Int)*c) t)->Vals ((List.range' b k).map fun i:Nat=>V.int (lo+(i:Int)*c)) a:=by
  intro k
  induction k with
  | zero=>intro a b hl _;cases a with
   | nil=>exact .nil
   | cons _ _=>simp at hl
  | succ k ih=>
   intro a b hl hh
   cases a with
   | nil=>simp at hl
   | cons v a=>
    obtain ⟨t,e⟩:=hh 0 v (by simp)
    rw [List.range'_succ,Ys]
    refine .cons ⟨t,by simpa using e⟩ (ih a (b+1) (by simpa using hl) fun j v' e=>?_)
    obtain ⟨t,e⟩:=hh (j+1) v' (by simpa using e)
    exact ⟨t,by rw [e];congr 3;omega⟩
 rw [List.range_eq_range']
 refine key n acc.toList 0 (by simpa using h1) fun j v e=>?_
 obtain ⟨t,e⟩:=h2 j v (by simpa using e)
 exact ⟨t,by rw [e];congr 3;simp⟩
section
variable {X:Cx}
theorem Ks:Ib X "list.index" CW:=by
 intro pins s U H x xs v us Q I rx r h
 obtain ⟨l,ns,k,rfl,rfl,hl,hn,hb,hk,q⟩:=h
 obtain ⟨u,rfl,t,rfl⟩:=vals1 r
 cases rx
 obtain ⟨hz,its,n,rv,g⟩:=I.hok l _ hl
 exact index_list_ints (vs:=its) ⟨_,g,rfl,n,rfl⟩ (intsAre_of rv) (yF hn hb) hk ⟨.int _,H,I.tok _,⟨_,rfl⟩,q⟩
theorem yG {pins:List (Addr×Obj)} {U:St} {H1:Hp} {s1:Shared} {Q:VK} {E:Value->Shared->Prop} {lo hi c:Int} {t u v:Tok} {tk n:Nat} (hc:X.calm=true) (I1:Inv X pins U H1 s1) (hs:Builtin.Range.small lo hi c=true) (hn:Builtin.Range.rangeSize lo hi c=(n:Int)) (hl:n<=1000000)
  (q:∀ q,H1 q=none->Q (.ref q) (upd H1 q (.lst ((List.range n).map fun i:Nat=>V.int (lo+(i:Int)*c))))):
  wpAny (model X.prog X.w) X.A (call (.type "list") [.ref s1.heap.objs.size]) (EP X pins U Q) E {s1 with heap:=s1.heap.push {cls:=.type "range",data:=.fields #[.int lo t,.int hi u,.int c v]},toks:=tk}:=by
 have I2:Inv X pins U H1 {s1 with heap:=s1.heap.push {cls:=.type "range",data:=.fields #[.int lo t,.int hi u,.int c v]},toks:=tk}:=I1.kept fun b o e=>XN _ e
 refine call_list_range (n:=n) (I1.ok.hd hc) (IsRange.new ..) hs hn (by omega) fun h' tk' acc' c' hk hS hacc=>?_
 have hsl:n<=sizeLine:=Yz hl (by decide)
 exact ⟨.ref _,_,I2.laid (t':=tk') (o:=.lst ((List.range n).map fun i:Nat=>V.int (lo+(i:Int)*c))) hk (XQ _) ⟨by simpa using hsl,acc'.toList,c',Hh hacc,by simpa using hS⟩,rfl,q _ I2.fresh⟩
theorem CZ {a:Expr} {ta:TA} {p p2 p3 pos:Pos} (hc:X.calm=true) (hg:Gl X "list") (hm:X.mg "list"=none) (hg2:Gl X "range") (hm2:X.mg "range"=none) (ha:JA X [a] ta) (h:autoParam (notStar a=true) L2.auto4._auto_1):
  JE X (.Call (.Name "list" p) [.Call (.Name "range" p2) [a] [] p3] [] pos) (Ai rng1 ta):=⟨by
 intro pins s U H Q I hq
 refine YX (jj I hg hm j8 (Yu (arg1 rfl (YX (jj I hg2 hm2 boot_range (Yu (fU (ha.run p3 pins s U H _ I hq) fun us s1 qq0=>?_) (cZ h) rfl)))) rfl rfl))
 obtain ⟨vs,H1,I1,r1,q1⟩:=qq0
 obtain ⟨n,rfl,hn,q⟩:=q1
 obtain ⟨u,rfl,t,rfl⟩:=vals1 r1
 exact call_range_1 (yG hc I1 (small_one (by omega) (by omega) (by omega) (by omega)) (by rw [rangeSize_one];split <;> omega) hn q)⟩
theorem Ku {K:W.Frag} (hK:X.K=K) (hu:X.A.units+64 < cLine):OpR X (compareOp .In) (Wz K):=(Cj hK).or (by
 intro pins s U H x y v u Q I rx ry h
 obtain ⟨a,o,rfl,g,q⟩:=h
 obtain rfl:u=Value.ref a:=ry
 exact d_in (by omega) I g rx fun s3 I3=>⟨.bl o.isSome,H,I3,rfl,q⟩)
theorem Ff (hu:X.A.units+64 < cLine):MJ X Fe:=by
 intro pins s U H o i v ov iv u Q I ro ri rv h
 rcases h with h | ⟨a,H4,rfl,g,q⟩
 ·exact set_list pins s U H o i v ov iv u Q I ro ri rv h
 ·obtain rfl:ov=Value.ref a:=ro
  exact GJ (by omega) I g ri rv fun s4 I4=>⟨H4,I4,q⟩
end
section
variable {U:St} {H:Hp} {Q:VK} {K:W.Frag}
theorem fJ {n0:List V->Hp->(Int->Int->Nat->Prop)->Prop} {ta:TA} (h:ta U H fun vs H1=>n0 vs H1 fun lo c n=>∀ q,H1 q=none->Q (.ref q) (upd H1 q (.lst ((List.range n).map fun i:Nat=>V.int (lo+(i:Int)*c))))):Ai n0 ta U H Q:=h
theorem Ow {l:Addr} {ns:List Int} {k:Int} (hl:H l=some (.lst (ns.map V.int))) (hn:ns.length<=1000) (hb:∀ x∈ns,0<=x/\x < 1000) (hk:k∈ns) (h:Q (.int (ns.idxOf k:Nat)) H):CW (.ref l) [.int k] H Q:=⟨l,ns,k,rfl,rfl,hl,hn,hb,hk,h⟩
theorem fK {x y:Str} (h:Q (.bl (!(Builtin.Str.occurrences y x 0 y.length 1).isEmpty)) H):Wz K (.str x) (.str y) H Q:=.inl (dD h)
theorem Ox {p:Addr} {xs:List V} {i:Int} {n:Nat} {v:V} {R:Hp->Prop} (hp:H p=some (.lst xs)) (e:Bs xs.length i=some n) (h:R (upd H p (.lst (xs.set n v)))):Fe (.ref p) (.int i) v H R:=.inl (bH hp e h)
end
end L2
namespace L2
open PySem PySem.Spec PyProof.Rows
open PySem.Sem (wp)
open PySem.AutoSeq1 (wpAny_loadPart')
end L2
namespace L2
open PySem PySem.Spec PyProof.Rows
end L2
namespace L2
open PySem PySem.Spec PyProof.Rows
open PySem.Sem (wp)
open PySem.AutoSeq1 (wpAny_loadPart')
section
variable {prog:Program} {w:World} {A:Around} {E:Value->Shared->Prop} {s:Shared}
theorem uI {it l:Addr} {i:Nat} {items:Array Value} {x:Value} {Q:Value->Shared->Prop} (hit:s.heap.IsRevIter it l (i:Int)) (hl:s.heap.IsList l items) (hx:items[i]?=some x)
  (hQ:∀ h',h'.IsRevIter it l ((i:Int) - 1)->Heap.SameBut it s.heap h'->Q x {s with heap:=h'}):wpAny (model prog w) A (Builtin.SmallTypes.nextOf (.ref it)) Q E s:=by
 obtain ⟨o,ho,hc,hd⟩:=id hit
 obtain ⟨ol,hol,_,nl,hdl⟩:=hl
 unfold Builtin.SmallTypes.nextOf
 refine XJ (Y0 (name:=Str.ofString "__next__") hit.typeIs F.slot_lri_next
  (Zh F.slot_lri_next hit.typeIs F.entry_lri_next ?_ (F.args_lri_next_1 _)))
 unfold Builtin.«list_reverseiterator.__next__»
 refine XJ (Zq (a:=(Value.ref it,[])) rfl ?_)
 try dsimp only
 refine XJ (YL ho hd (x:=rawInt (i:Int)) rfl ?_)
 show wpAny _ _ (if (i:Int) < 0 then _ else _) _ _ s
 rw [if_neg (by omega)]
 show wpAny _ _ (field (.ref it) 0 >>=_) _ _ s
 refine XJ (YL ho hd (x:=.ref l) rfl ?_)
 show wpAny _ _ (seqItems? (.ref l) >>=_) _ _ s
 refine XJ (Zv hol hdl ?_)
 simp only [Int.toNat_natCast,hx]
 refine XJ (Z5 ho hd (by simp) ?_)
 first
 | refine XS ⟨x,rfl,XS (hQ _ ?_ (Z2 ..))⟩
 | refine XJ (XS (XS ⟨x,rfl,XS (hQ _ ?_ (Z2 ..))⟩))
 exact ⟨_,YM _ ho (ZS (Zn hd _)),(Obj.cls_mapFields ..).trans hc,by
  rw [Zn hd];simp⟩
theorem pq {it l:Addr} {Q:Value->Shared->Prop} (hh:A.handled=none) (hit:s.heap.IsRevIter it l (-1))
  (hE:∀ h' e,Heap.ExtBut it s.heap h'->(∃ o,h'.get? e=some o/\o.cls= .type "StopIteration")->E (.ref e) {s with heap:=h'}):wpAny (model prog w) A (Builtin.SmallTypes.nextOf (.ref it)) Q E s:=by
 obtain ⟨o,ho,hc,hd⟩:=id hit
 unfold Builtin.SmallTypes.nextOf
 refine XJ (Y0 (name:=Str.ofString "__next__") hit.typeIs F.slot_lri_next
  (Zh F.slot_lri_next hit.typeIs F.entry_lri_next ?_ (F.args_lri_next_1 _)))
 unfold Builtin.«list_reverseiterator.__next__»
 refine XJ (Zq (a:=(Value.ref it,[])) rfl ?_)
 try dsimp only
 refine XJ (YL ho hd (x:=rawInt (-1)) rfl ?_)
 show wpAny _ _ (if (-1:Int) < 0 then _ else _) _ _ s
 rw [if_pos (by decide)]
 refine XJ (wpAny_rule ?_)
 first
 | show wpAny _ _ (newExc (.type "StopIteration") [] >>=_) _ _ _
 | (refine XJ ?_;show wpAny _ _ (newExc (.type "StopIteration") [] >>=_) _ _ _)
 refine XJ ?_
 simp only [newExc,newTuple]
 refine XJ (Y6 ?_ (by size_fits))
 refine XJ (m:=firstArgMember _ _) (Zq (a:=Value.none) (by first | rfl | (simp only [firstArgMember];rfl)) ?_)
 refine Y6 ?_ (by size_fits)
 simp only [raiseNew]
 refine XJ (wpAny_handled ?_)
 first | rw [show A.in1.handled=none from hh] | rw [hh]
 refine XJ (XS (wpAny_throw ?_))
 exact hE _ _ (((Heap.ExtBut.refl _ _).push _).push _) ⟨_,X4 _ rfl,rfl⟩
end
theorem pA (it l:Addr) (i:Int) (dct:Option Addr) (sl:Array (Option Value)):
  Meets (Builtin.«enumerate.__new__» ⟨[.type "enumerate",.ref it],[]⟩) (fun _ R s=>s.heap.get? it=some {cls:=.type "list_reverseiterator",dict:=dct,data:=.fields #[.ref l,rawInt i],slots:=sl}/\
   R (.ok (.ret (.ref s.heap.objs.size)))
    {s with heap:=s.heap.push {cls:=.type "enumerate",data:=.fields #[.none,.bool false,.ref it,rawInt 0,.none,.none]}}):=
 .of_wp fun prog w A R s h=>by
  obtain ⟨hp,g,d,tk,os⟩:=s;obtain ⟨hl,h⟩:=h
  have hsub:=sub_enumerate
  have hL:Heap.IsRevIter (Shared.heap ⟨hp,g,d,tk,os⟩) it l i:=⟨_,hl,rfl,rfl⟩
  wp_walk using wpAny_loadPart' hl
  refine wpAny_stack_any fun st=>XS ?_
  split
  ·rename_i c _ _ _ _ _
   cases (c == Value.type "enumerate")
   ·wp_walk using wpAny_loadPart' hl,ZK hL
    exact ⟨_,rfl,h⟩
   ·wp_walk using wpAny_loadPart' hl,ZK hL
    exact ⟨_,rfl,h⟩
  ·wp_walk using wpAny_loadPart' hl,ZK hL
   exact ⟨_,rfl,h⟩
end L2
namespace L2
open PySem PySem.Spec PyProof.Rows
section
variable {prog:Program} {w:World} {A:Around} {E:Value->Shared->Prop} {s:Shared}
theorem qK {it l:Addr} {i:Int} {Q:Value->Shared->Prop} (hL:s.heap.IsRevIter it l i)
  (h:∀ h',IsEnum h' s.heap.objs.size it 0 .none->(∀ b o,s.heap.get? b=some o->h'.get? b=some o)->Q (.ref s.heap.objs.size) {s with heap:=h'}):
  wpAny (model prog w) A (call (.type "enumerate") [.ref it]) Q E s:=by
 obtain ⟨⟨c,dct,dt,sl⟩,hl,hc,hd⟩:=hL
 replace hc:c= .type "list_reverseiterator":=hc
 replace hd:dt= .fields #[.ref l,rawInt i]:=hd
 subst hc hd
 refine callType_new F.called_enumerate (by decide) (F.typeCall_enumerate_1 _) (F.newCall_enumerate_1 _) (fun obj=>F.args_object_init_2 obj _) F.entry_enumerate_new
  (pA it l i dct sl) ⟨hl,?_⟩
 show _/\_
 have he:IsEnum (s.heap.push {cls:=.type "enumerate",data:=.fields #[.none,.bool false,.ref it,rawInt 0,.none,.none]}) s.heap.objs.size it 0 .none:=X4 _ rfl
 exact ⟨⟨_,he,rfl⟩,h _ he fun b o x=>XN _ x⟩
end
theorem Hi {prog:Program} {w:World} {A:Around} (hh:A.handled=none) (it l:Addr) (hne:l≠it) (items:Array Value):
  Draws prog w A it [it,l] items.size (fun i v=>items[items.size - 1 - i]?=some v) (fun i h=>i<=items.size/\h.IsRevIter it l ((items.size:Int) - 1 - (i:Int))/\h.IsList l items) where
 live:=fun _ _ st=>let ⟨o,ho,_⟩:=st.2.1;⟨o,ho⟩
 frame:=fun _ _ _ x hk=>⟨x.1,x.2.1.at fun o e=>hk it (by simp) o e,x.2.2.at fun o e=>hk l (by simp) o e⟩
 item:=fun i s Q E hi x hQ=>by
  have e:(items.size:Int) - 1 - (i:Int)=((items.size - 1 - i:Nat):Int):=by omega
  have hit:=x.2.1
  rw [e] at hit
  have hx:items[items.size - 1 - i]?=some (items[items.size - 1 - i]'(by omega)):=ZV (by omega)
  refine uI hit x.2.2 hx fun h' hit' hs'=>?_
  have e2:((items.size - 1 - i:Nat):Int) - 1=(items.size:Int) - 1 - ((i+1:Nat):Int):=by omega
  rw [e2] at hit'
  exact hQ _ h' s.toks hx ⟨hi,hit',x.2.2.at fun o eo=>(hs'.2 l hne).trans eo⟩ hs'
 done:=fun s Q E x hE=>by
  have e:(items.size:Int) - 1 - (items.size:Int)= -1:=by omega
  have hit:=x.2.1
  rw [e] at hit
  exact pq hh hit hE
def Hj (K:W.Frag) (a:Addr) (n:Nat):It:=
 ⟨fun i H=>i < n/\∃ xs,SqL K H a xs/\xs.length=n,
  fun i H v H'=>∃ T x,H T=none/\v= .ref T/\(∀ xs,SqL K H a xs->xs[n - 1 - i]?=some x)/\H'=upd H T (.tup [.int i,x]),
  fun i _=>i=n⟩
theorem Dc {P:Program} {w:World} {K:W.Frag} {elts:List Expr} {k n:Nat} {pos:Pos} {e it a:Addr} (hne:e≠it) (hea:e≠a) (hai:a≠it):
  Turn P w K (.Tuple elts k pos) (Hj K a n) [e,it] e (fun i h=>(∃ old,IsEnum h e it i old)/\i<=n/\h.IsRevIter it a ((n:Int) - 1 - (i:Int))) where
 mem:=by simp
 obj:=fun i h st c hc=>by
  obtain ⟨⟨old,he⟩,_,⟨o1,e1,c1,d1⟩⟩:=st
  simp only [X7,Yq,or_false] at hc
  rcases hc with rfl | rfl
  ·exact ⟨_,he,fun v z=>by cases z⟩
  ·exact ⟨_,e1,fun v z=>by rw [d1] at z;cases z⟩
 keep:=fun i h h' st kk=>by
  obtain ⟨⟨old,he⟩,hi,h1⟩:=st
  exact ⟨⟨old,kk e (by simp) _ he⟩,hi,h1.at fun o q=>kk it (by simp) o q⟩
 item:=by
  intro X hP hw hK hc i pins s U H E I hf st hg
  subst hP hw hK
  obtain ⟨⟨old,he⟩,hi,h1⟩:=st
  obtain ⟨hlt,xs,hq,hlen⟩:=hg
  obtain ⟨its,rv,p,_⟩:=I.list hq
  have l1:=rv.length
  have sz:its.toArray.size=n:=by rw [Yc];omega
  obtain ⟨x,hx⟩:∃ x,xs[n - 1 - i]?=some x:=⟨_,XR (by omega)⟩
  obtain ⟨u,hu,ru⟩:=rv.get hx
  have h1':s.heap.IsRevIter it a ((its.toArray.size:Int) - 1 - (i:Int)):=by rw [sz];exact h1
  refine wpAny_pyNext_enum_itemD (Hi (A:=X.A.in1) (I.ok.hd hc) it a hai its.toArray) he ⟨by omega,h1',p.isList⟩ (by omega) hne (by simp [hne,hea]) fun x' h' tk hx' a1 a2 a3 a4 hk=>?_
  have ex:x'=u:=by
   have h2:its[its.length - 1 - i]?=some x':=by simpa using hx'
   rw [show its.length - 1 - i=n - 1 - i by omega,hu] at h2
   exact (Ym h2).symm
  subst ex
  refine ⟨_,rfl,wpAny_letOwnedTupleGo_enum a1 fun h'' a1' sb=>?_⟩
  have lt:∀ {c o},s.heap.get? c=some o->s.heap.objs.size≠c:=fun e=>Zt (X5 e)
  have lti:s.heap.objs.size≠it:=by obtain ⟨o,q,_⟩:=h1;exact lt q
  have isT:h''.IsTuple s.heap.objs.size #[.int i tk,x']:=⟨_,sb.extBut _ _ (lt he) a3,rfl,_,rfl⟩
  have kall:∀ b o,b ∉ [e,it]->s.heap.get? b=some o->h''.get? b=some o:=fun b o hb q=>by
   simp only [X7,Yq,or_false,not_or] at hb
   exact sb.extBut _ _ hb.1 (hk b o hb.1 hb.2 q)
  have hTn:H s.heap.objs.size=none:=I.hok.fresh (XQ _)
  refine ⟨.ref s.heap.objs.size,_,I.newtup (tk:=tk+1) hf (XQ _) kall isT (xs:=[.int i,x]) (.cons ⟨_,rfl⟩ (.cons ru .nil)) (by simp;decide),rfl,⟨_,x,hTn,rfl,fun zs hs=>by rw [I.list_inj hs hq];exact hx,rfl⟩,?_,fun b hb=>?_⟩
  ·refine ⟨⟨_,a1'⟩,hlt,?_⟩
   have:=a2.2.1
   rw [sz] at this
   exact this.at fun o q=>sb.extBut _ _ (Ne.symm hne) q
  ·have:s.heap.objs.size≠b:=by
    simp only [X7,Yq,or_false] at hb
    rcases hb with rfl | rfl
    ·exact lt he
    ·exact lti
   rw [aD (Ne.symm this)]
   exact (hf b hb).1
 done:=by
  intro X hP hw hK hc i pins s U H E I hf st hg
  subst hP hw hK
  obtain ⟨⟨old,he⟩,hi,h1⟩:=st
  have hin:i=n:=hg
  subst hin
  rw [show (i:Int) - 1 - (i:Int)= -1 by omega] at h1
  have ht:s.TypeIs (.ref e) "enumerate":=⟨_,he,rfl⟩
  unfold pyNext
  refine XJ (ZL (Y0 (name:=Str.ofString "__next__") ht F.slot_enumerate_next
   (Zh F.slot_enumerate_next ht F.entry_enumerate_next ?_ (F.args_enumerate_next_1 _))))
  show wpAny _ _ (field (.ref e) 2 >>=_) _ _ _
  refine XJ (YL he rfl (x:=.ref it) rfl ?_)
  refine XJ (pq (A:=X.A.in1) (I.ok.hd hc) h1 fun h' x he' hx'=>?_)
  obtain ⟨o,ho,hc'⟩:=hx'
  refine XJ (Aan (T:="StopIteration") (b:=true) ⟨o,ho,hc'⟩ isSubtype_stop ?_)
  refine XS ⟨rfl,I.only (tk:=s.toks) hf fun b o hb q=>?_⟩
  simp only [X7,Yq,or_false,not_or] at hb
  exact he' b o hb.2 q
 self:=fun _ _ _ _ _ st h=>let ⟨⟨_,he⟩,_⟩:=st;Aac he h
def Aj (K:W.Frag) (ta:TE):TI:=fun U H R=>ta U H fun x H1=>∃ l xs,x= .ref l/\SqL K H1 l xs/\R (Hj K l xs.length) H1
theorem Dd {X:Cx} {K:W.Frag} {a:Expr} {ta:TE} {elts:List Expr} {k:Nat} {tp p p2 p3 pos:Pos} (hK:X.K=K) (hg:Gl X "enumerate") (hm:X.mg "enumerate"=none) (hg2:Gl X "reversed") (hm2:X.mg "reversed"=none) (ha:JE X a ta) (h:autoParam (notStar a=true) L2.auto4._auto_1):
  JI X (.Tuple elts k tp) (.Call (.Name "enumerate" p) [.Call (.Name "reversed" p2) [a] [] p3] [] pos) (Aj K ta):=⟨by
 subst hK
 intro pins s U H R I hq
 refine Call_ (jj I hg hm rM (Yu (arg1 rfl (YX (jj I hg2 hm2 o9 (Yu (arg1 h (fU (ha.run pins s U H _ I hq) fun u s1 qq0=>?_)) (cZ h) rfl)))) rfl rfl))
 obtain ⟨x,H1,I1,rx,l,xs,ex,hx,q⟩:=qq0
 subst ex
 cases rx
 obtain ⟨its,rv,ht,hz⟩:=I1.list hx
 have hlen:=rv.length
 have lt:l < s1.heap.objs.size:=by obtain ⟨o,ho,_⟩:=ht.isList;exact X5 ho
 refine call_reversed_list ht.isList ?_
 have e0:(s1.heap.push (PySem.revObj l ((its.toArray.size:Int) - 1))).get? s1.heap.objs.size=some (PySem.revObj l ((its.toArray.size:Int) - 1)):=X4 _ rfl
 have s0:(s1.heap.push (PySem.revObj l ((its.toArray.size:Int) - 1))).objs.size=s1.heap.objs.size+1:=YW ..
 have k0:∀ b o,s1.heap.get? b=some o->(s1.heap.push (PySem.revObj l ((its.toArray.size:Int) - 1))).get? b=some o:=fun b o q=>XN _ q
 refine qK (it:=s1.heap.objs.size) (l:=l) (i:=(its.toArray.size:Int) - 1) ⟨_,e0,rfl,rfl⟩ fun h' z1 hk=>?_
 have z1':IsEnum h' (s1.heap.objs.size+1) s1.heap.objs.size 0 .none:=by rw [← s0];exact z1
 have z2:h'.IsRevIter s1.heap.objs.size l ((xs.length:Int) - 1 - ((0:Nat):Int)):=⟨_,hk _ _ e0,rfl,by
  show Data.fields #[.ref l,rawInt ((its.toArray.size:Int) - 1)]=_
  rw [show ((its.toArray.size:Int) - 1)=(xs.length:Int) - 1 - ((0:Nat):Int) by rw [Yc];omega]⟩
 have J1:Inv X pins U H1 {s1 with heap:=h'}:=I1.kept (t':=s1.toks) fun b o q=>hk b o (k0 b o q)
 rw [s0]
 refine Aac z1' ?_
 have key2:∀ n l:Nat,l < n->n+1≠l/\l≠n:=fun n l h=>⟨by omega,by omega⟩
 refine ⟨s1.heap.objs.size+1,_,_,_,H1,rfl,J1,Dc (n:=xs.length) (Nat.succ_ne_self _) (key2 _ _ lt).1 (key2 _ _ lt).2,⟨⟨_,z1'⟩,YT _,z2⟩,fun b hb=>?_,q⟩
 have hb':s1.heap.objs.size<=b:=by
  simp only [X7,Yq,or_false] at hb
  have key:∀ n c:Nat,(c=n+1\/c=n)->n<=c:=fun n c h=>by omega
  exact key _ _ hb
 exact I1.fpOk hb' (I1.hok.fresh hb')⟩
section
variable {K:W.Frag} {U:St} {H:Hp}
theorem kW {ta:TE} {R:It->Hp->Prop} (h:ta U H fun x H1=>∃ l xs,x= .ref l/\SqL K H1 l xs/\R (Hj K l xs.length) H1):Aj K ta U H R:=h
theorem Hk {a:Addr} {xs:List V} {g:TG} {tb:TS} {D:Ends} (Pv:Nat->St->Hp->Prop) (h0:Pv 0 U H) (hq:∀ i U H,i<=xs.length->Pv i U H->SqL K H a xs)
  (hs:∀ i U H T x,i < xs.length->xs[xs.length - 1 - i]?=some x->Pv i U H->H T=none->g (.ref T) U (upd H T (.tup [.int i,x])) fun σ2 H2=>tb {D with nx:=Pv (i+1),ct:=Pv (i+1),bk:=D.nx} σ2 H2) (hd:∀ U H,Pv xs.length U H->D.nx U H):
  ∃ W:Nat->Nat->St->Hp->Prop,(∃ m,W 0 m U H)/\∀ i m U H,W i m U H->
   ((Hj K a xs.length).stop i H/\D.nx U H)\/((Hj K a xs.length).go i H/\∃ N:St->Hp->Prop,(∀ U' H',N U' H'->∃ m',m' < m/\W (i+1) m' U' H')/\∀ x H',(Hj K a xs.length).yld i H x H'->g x U H' fun σ2 H2=>tb {D with nx:=N,ct:=N,bk:=D.nx} σ2 H2):=by
 refine ⟨fun i m U H=>m=xs.length - i/\i<=xs.length/\Pv i U H,⟨xs.length,by simp,YT _,h0⟩,?_⟩
 rintro i m U H ⟨rfl,hi,p⟩
 have q1:=hq i U H hi p
 by_cases hlt:i < xs.length
 ·refine .inr ⟨⟨hlt,xs,q1,rfl⟩,Pv (i+1),fun U' H' p'=>⟨xs.length - (i+1),by omega,rfl,hlt,p'⟩,fun x H' y=>?_⟩
  obtain ⟨T,u,hT,e1,e2,e4⟩:=y
  subst e1 e4
  exact hs i U H T u hlt (e2 xs q1) p hT
 ·have e:i=xs.length:=by omega
  subst e
  exact .inl ⟨rfl,hd U H p⟩
end
theorem Inv.nosys {X:Cx} {pins:List (Addr×Obj)} {U:St} {H:Hp} {s:Shared} (I:Inv X pins U H s):H sysModules=none:=
 let ⟨_,o,_,_,e,_⟩:=I.mod.sysm
 (I.bs _ o e).2
def Xv:V->Option PyData
 | .non=>some .none
 | .bl b=>some (.bool b)
 | .int n=>some (.int n)
 | .str z=>some (.str z)
 | _=>none
def WD:Key->PyData
 | .inl i=>.int i
 | .inr x=>.str x
mutual
def RD (H:Hp):PyData->V->Prop
 | .none,v=>v= .non
 | .bool b,v=>v= .bl b
 | .int n,v=>v= .int n
 | .str z,v=>v= .str z
 | .list ds,v=>∃ a vs,v= .ref a/\H a=some (.lst vs)/\RDs H ds vs
 | .tuple ds,v=>∃ a vs,v= .ref a/\H a=some (.tup vs)/\RDs H ds vs
 | .dict kvs,v=>∃ a ks,v= .ref a/\H a=some (.dK ks)/\ks.map (fun p=>(WD p.1,Xv p.2))=kvs.map (fun q=>(q.1,some q.2))
def RDs (H:Hp):List PyData->List V->Prop
 | [],vs=>vs=[]
 | d :: ds,vs=>∃ v r,vs=v :: r/\RD H d v/\RDs H ds r
end
mutual
theorem RD.same {H H':Hp} (s:Same H H'):∀ (d:PyData) (v:V),RD H d v->RD H' d v
 | .none,_,h=>by rw [RD] at h ⊢;exact h
 | .bool _,_,h=>by rw [RD] at h ⊢;exact h
 | .int _,_,h=>by rw [RD] at h ⊢;exact h
 | .str _,_,h=>by rw [RD] at h ⊢;exact h
 | .list ds,v,h=>by rw [RD] at h ⊢;obtain ⟨a,vs,e,q,r⟩:=h;exact ⟨a,vs,e,s _ _ q,RDs.same s ds vs r⟩
 | .tuple ds,v,h=>by rw [RD] at h ⊢;obtain ⟨a,vs,e,q,r⟩:=h;exact ⟨a,vs,e,s _ _ q,RDs.same s ds vs r⟩
 | .dict _,_,h=>by rw [RD] at h ⊢;obtain ⟨a,vs,e,q,r⟩:=h;exact ⟨a,vs,e,s _ _ q,r⟩
theorem RDs.same {H H':Hp} (s:Same H H'):∀ (ds:List PyData) (vs:List V),RDs H ds vs->RDs H' ds vs
 | [],_,h=>by rw [RDs] at h ⊢;exact h
 | d :: ds,vs,h=>by rw [RDs] at h ⊢;obtain ⟨v,r,e,q,t⟩:=h;exact ⟨v,r,e,RD.same s d v q,RDs.same s ds r t⟩
end
theorem Ub {H:Hp} {n:Int} {v:V}:RD H (.int n) v↔v= .int n:=by rw [RD]
theorem Fg {H:Hp} {ds:List PyData} {v:V}:RD H (.list ds) v↔∃ a vs,v= .ref a/\H a=some (.lst vs)/\RDs H ds vs:=by rw [RD]
theorem Fi {H:Hp} {vs:List V}:RDs H [] vs↔vs=[]:=by rw [RDs]
theorem Kv {H:Hp} {d:PyData} {ds:List PyData} {vs:List V}:RDs H (d :: ds) vs↔∃ v r,vs=v :: r/\RD H d v/\RDs H ds r:=by rw [RDs]
theorem yH {H:Hp} {d:PyData} {v:V} {ds:List PyData} {vs:List V} (h:RD H d v) (t:RDs H ds vs):RDs H (d :: ds) (v :: vs):=Kv.mpr ⟨v,vs,rfl,h,t⟩
theorem Hl {h:Heap} {v:V} {d:PyData} {u:Value} (e:Xv v=some d) (r:RelV v u):Reads h u d []:=by
 cases v <;> simp only [Xv,Option.some.injEq,reduceCtorEq] at e
 ·subst e;cases r;exact .none
 ·subst e;cases r;exact .bool _
 ·subst e;obtain ⟨t,rfl⟩:=r;exact .int _ _
 ·subst e;obtain ⟨t,rfl⟩:=r;exact .str _ _
theorem uB {P:Program} {w:World} {h:Heap}:∀ {es:List DictEntry} {vs:List (Key×Value)} {ks:List (Key×V)} {kvs:List (PyData×PyData)},Pairs (fG P w) es vs->KV ks vs->
  ks.map (fun p=>(WD p.1,Xv p.2))=kvs.map (fun q=>(q.1,some q.2))->ReadsAll h (es.map (·.key)) (kvs.map (·.1)) []/\ReadsAll h (es.map (·.val)) (kvs.map (·.2)) []
 | _,_,_,kvs,.nil,r,e=>by
  cases r
  cases kvs with
  | nil=>exact ⟨.nil,.nil⟩
  | cons _ _=>simp at e
 | _,_,_,kvs,.cons (e:=en) (kv:=kv) h1 h2 t,r,e=>by
  cases r with
  | cons a b=>
   rename_i p ks'
   cases kvs with
   | nil=>simp at e
   | cons q kvs=>
    simp only [Ys,List.cons.injEq,Prod.mk.injEq] at e
    obtain ⟨⟨e1,e2⟩,e3⟩:=e
    obtain ⟨i1,i2⟩:=uB t b e3
    obtain ⟨a1,a2⟩:=a
    have k1:Reads h en.key q.1 []:=by
     rcases dN h1 with ⟨i,t',ek,ev⟩ | ⟨x,t',ek,ev⟩
     ·rw [ev,← e1,a1,ek];exact .int _ _
     ·rw [ev,← e1,a1,ek];exact .str _ _
    have k2:Reads h en.val q.2 []:=by rw [h2];exact Hl e2 a2
    exact ⟨.cons (as:=[]) (bs:=[]) k1 i1,.cons (as:=[]) (bs:=[]) k2 i2⟩
mutual
theorem RD.reads {P:Program} {w:World} {H:Hp} {h:Heap} (ok:HOk P w H h):∀ (d:PyData) (v:V) (u:Value),RD H d v->RelV v u->∃ as,Reads h u d as/\∀ b∈as,∃ o,H b=some o
 | .none,_,u,q,r=>by rw [RD] at q;subst q;cases r;exact ⟨_,.none,by simp⟩
 | .bool b,_,u,q,r=>by rw [RD] at q;subst q;cases r;exact ⟨_,.bool _,by simp⟩
 | .int n,_,u,q,r=>by rw [RD] at q;subst q;obtain ⟨t,rfl⟩:=r;exact ⟨_,.int _ _,by simp⟩
 | .str n,_,u,q,r=>by rw [RD] at q;subst q;obtain ⟨t,rfl⟩:=r;exact ⟨_,.str _ _,by simp⟩
 | .list ds,v,u,q,r=>by
  rw [RD] at q
  obtain ⟨a,vs,rfl,e,t⟩:=q
  cases r
  obtain ⟨_,its,n,rv,g⟩:=ok a _ e
  obtain ⟨as,ra,ha⟩:=RDs.reads ok ds vs its t rv
  refine ⟨_,.list g rfl rfl (by simpa using ra),fun b hb=>?_⟩
  rcases X7.mp hb with rfl | hb
  ·exact ⟨_,e⟩
  ·exact ha b hb
 | .tuple ds,v,u,q,r=>by
  rw [RD] at q
  obtain ⟨a,vs,rfl,e,t⟩:=q
  cases r
  obtain ⟨_,its,rv,g⟩:=ok a _ e
  obtain ⟨as,ra,ha⟩:=RDs.reads ok ds vs its t rv
  obtain ⟨o,ho,hc,n,hd⟩:=g
  exact ⟨_,.tuple ho hc hd (by simpa using ra),ha⟩
 | .dict kvs,v,u,q,r=>by
  rw [RD] at q
  obtain ⟨a,ks,rfl,e,t⟩:=q
  cases r
  obtain ⟨_,_,vs,kv,o,es,ep,ho,xd,hd,_,prs,_⟩:=ok a _ e
  obtain ⟨i1,i2⟩:=uB (h:=h) prs kv t
  refine ⟨_,.dict ho xd.1 hd i1 i2,fun b hb=>?_⟩
  simp only [Zy,YD] at hb
  subst hb
  exact ⟨_,e⟩
theorem RDs.reads {P:Program} {w:World} {H:Hp} {h:Heap} (ok:HOk P w H h):∀ (ds:List PyData) (vs:List V) (us:List Value),RDs H ds vs->Vals vs us->∃ as,ReadsAll h us ds as/\∀ b∈as,∃ o,H b=some o
 | [],_,us,q,r=>by rw [RDs] at q;subst q;cases r;exact ⟨_,.nil,by simp⟩
 | d :: ds,_,us,q,r=>by
  rw [RDs] at q
  obtain ⟨v,r',rfl,q1,q2⟩:=q
  cases r with
  | cons a b=>
   obtain ⟨as,h1,t1⟩:=RD.reads ok d v _ q1 a
   obtain ⟨bs,h2,t2⟩:=RDs.reads ok ds r' _ q2 b
   exact ⟨_,.cons h1 h2,fun b hb=>(Zb.mp hb).elim (t1 b) (t2 b)⟩
end
def Kw:List V->Hp->VK->Prop:=fun xs H Q=>∃ (x:V) (d:PyData),xs=[x]/\RD H d x/\d.showable=true/\d.depth<=60/\d.shown.length<=sizeLine/\Q (.str d.shown) H
theorem vR {X:Cx} (hg:X.A.guards=some []) (hu:X.A.units+64 < cLine):CallR X (.builtin "repr") Kw:=by
 intro pins s U H xs us Q I r h
 obtain ⟨x,d,rfl,hd,hs,hdp,hz,q⟩:=h
 obtain ⟨u,rfl,ru⟩:=vals1 r
 obtain ⟨as,rd,ha⟩:=RD.reads I.hok d x u hd ru
 have nsy:d.hasDict=true->sysModules ∉ as:=fun _ hm=>by
  obtain ⟨o,e⟩:=ha _ hm
  rw [I.nosys] at e;cases e
 have key:∀ (a:Addr),u= .ref a->wpAny (model X.prog X.w) X.A (call (.builtin "repr") [u]) (EP X pins U Q) X.xe s:=fun a e=>by
  subst e
  refine repr_of_reads' rd hs nsy hg (by omega) (fun _ _ e=>e) (fun h' u tk hk=>?_) hz
  exact ⟨.str d.shown,H,I.kept (t':=tk) hk,⟨u,rfl⟩,q⟩
 cases rd with
 | none=>
  simp only [PyData.shown] at q
  exact P.repr_of_none ⟨.str _,H,I.tok _,⟨_,rfl⟩,q⟩
 | bool b=>
  simp only [PyData.shown] at q
  exact P.repr_of_bool ⟨.str _,H,I.tok _,⟨_,rfl⟩,q⟩
 | int i t=>
  simp only [PyData.shown] at q
  exact P.repr_of_int (by simpa [PyData.showable] using hs) ⟨.str _,H,I.tok _,⟨_,rfl⟩,q⟩
 | str z t=>
  simp only [PyData.shown] at q hz
  exact P.repr_of_str ⟨.str _,H,I.tok _,⟨_,rfl⟩,q⟩ hz
 | list h1 h2 h3 h4=>exact key _ rfl
 | tuple h1 h2 h3 h4=>exact key _ rfl
 | dict h1 h2 h3 h4 h5=>exact key _ rfl
theorem Fj {H:Hp} {Q:VK} {x:V} {d:PyData} (hd:RD H d x) (hs:d.showable=true) (hp:d.depth<=60) (hz:d.shown.length<=sizeLine) (h:Q (.str d.shown) H):Kw [x] H Q:=⟨x,d,rfl,hd,hs,hp,hz,h⟩
end L2
namespace L2
open PySem PySem.Spec PyProof.Rows
open PySem.Sem (wp)
end L2
namespace L2
open PySem PySem.Spec PyProof.Rows
end L2
namespace L2
open PySem PySem.Spec PyProof.Rows
open PySem.Sem (wp)
structure vU (z TI TO i1 i2:Addr) (fp1 fp2:List Addr):Prop where
 TIz:TI≠z
 TOz:TO≠z
 i1z:i1≠z
 i2z:i2≠z
 TITO:TI≠TO
 TIi1:TI≠i1
 TIi2:TI≠i2
 TOi1:TO≠i1
 TOi2:TO≠i2
 i12:i1≠i2
 f1:∀ b∈fp1,b≠z/\b≠TO/\b≠i2
 f2:∀ b∈fp2,b≠z/\b≠TO/\b≠i1
section
variable {prog:Program} {w:World} {A:Around} {E:Value->Shared->Prop} {s:Shared} {z TI TO i1 i2:Addr} {fp1 fp2:List Addr} {n1 n2 k1 k2:Nat} {P1 P2:Nat->Value->Prop} {St1 St2:Nat->Heap->Prop} {a b:Value}
theorem Hm {Q:Value->Shared->Prop} (D1:Draws prog w A i1 fp1 n1 P1 St1) (D2:Draws prog w A i2 fp2 n2 P2 St2) (D:vU z TI TO i1 i2 fp1 fp2)
  (hz:IsZip s.heap z TI TO .none) (hTI:IsPair s.heap TI (.ref i1) (.ref i2)) (hTO:IsPair s.heap TO a b) (s1:St1 k1 s.heap) (s2:St2 k2 s.heap) (l1:k1 < n1) (l2:k2 < n2)
  (hQ:∀ x y h' tk,P1 k1 x->P2 k2 y->IsZip h' z TI TO (rawInt s.heap.objs.size)->IsPair h' TO x y->St1 (k1+1) h'->St2 (k2+1) h'->IsPair h' s.heap.objs.size x y->
   (∀ c o,c≠z->c≠TO->c≠i1->c≠i2->s.heap.get? c=some o->h'.get? c=some o)->Q (.ref s.heap.objs.size) {s with heap:=h',toks:=tk}):
  wpAny (model prog w) A (Builtin.«zip.__next__» ⟨[.ref z],[]⟩) (fun fin s'=>∃ v,fin= .done (.ret v)/\Q v s') E s:=by
 have sb:∀ {x:Addr} {h h':Heap},Heap.SameBut x h h'->∀ c o,c≠x->h.get? c=some o->h'.get? c=some o:=fun g c o n e=>g.extBut _ _ n e
 show wpAny _ _ (field (.ref z) 2 >>=_) _ _ _
 refine XJ (YL hz rfl (x:=.bool false) rfl ?_)
 show wpAny _ _ (field (.ref z) 3 >>=_) _ _ _
 refine XJ (YL hz rfl (x:=.ref TI) rfl (XJ (Zv hTI rfl ?_)))
 show wpAny _ _ (Builtin.SmallTypes.ownedTupleIsFree (.ref z) >>=_) _ _ _
 unfold Builtin.SmallTypes.ownedTupleIsFree
 refine XJ (XJ (YL hz rfl (x:=.none) rfl (XS ?_)))
 simp only [if_true]
 refine XJ (wpAny_rule (XJ (YL hz rfl (x:=.ref TO) rfl ?_)))
 refine XJ (Z7 hz (by simp) fun g1 y1 e1=>?_)
 replace y1:IsZip g1 z TI TO .ellipsis:=y1
 refine XJ ?_
 simp only [List.zipIdx_cons,List.zipIdx_nil,List.forIn_cons,List.forIn_nil]
 refine XJ (XJ (wpAny_onRaise ?_))
 show wpAny _ _ (Builtin.SmallTypes.nextOf (.ref i1) >>=_) _ _ _
 have t1:St1 k1 g1:=D1.frame _ _ _ s1 fun c hc o e=>sb e1 c o (D.f1 c hc).1 e
 have t2:St2 k2 g1:=D2.frame _ _ _ s2 fun c hc o e=>sb e1 c o (D.f2 c hc).1 e
 refine XJ (D1.item k1 _ _ _ l1 t1 fun x g2 tk px u1 e2=>XS ?_)
 have p2:IsPair g2 TO a b:=sb e2 _ _ D.TOi1 (sb e1 _ _ D.TOz hTO)
 refine XJ (Zv p2 rfl (XJ (wpAny_updateSeq_pair p2 fun g3 p3 e3=>?_)))
 replace p3:IsPair g3 TO x b:=p3
 refine XJ (wpAny_letGo (XS ?_))
 refine XJ (XJ (wpAny_onRaise ?_))
 show wpAny _ _ (Builtin.SmallTypes.nextOf (.ref i2) >>=_) _ _ _
 have t3:St2 k2 g3:=D2.frame _ _ _ t2 fun c hc o e=>sb e3 c o (D.f2 c hc).2.1 (sb e2 c o (D.f2 c hc).2.2 e)
 refine XJ (D2.item k2 _ _ _ l2 t3 fun y g4 tk2 py u2 e4=>XS ?_)
 have p4:IsPair g4 TO x b:=sb e4 _ _ D.TOi2 p3
 refine XJ (Zv p4 rfl (XJ (wpAny_updateSeq_pair p4 fun g5 p5 e5=>?_)))
 replace p5:IsPair g5 TO x y:=p5
 refine XJ (wpAny_letGo (XS (XS ?_)))
 refine XJ (Zv p5 rfl (XJ (wpAny_newTuple ?_)))
 have sz:g5.objs.size=s.heap.objs.size:=by rw [e5.1,e4.1,e3.1,e2.1,e1.1]
 have z5:IsZip g5 z TI TO .ellipsis:=sb e5 _ _ D.TOz.symm (sb e4 _ _ D.i2z.symm (sb e3 _ _ D.TOz.symm (sb e2 _ _ D.i1z.symm y1)))
 have k5:∀ c o,c≠z->c≠TO->c≠i1->c≠i2->s.heap.get? c=some o->g5.get? c=some o:=fun c o c1 c2 c3 c4 e=>
  sb e5 _ _ c2 (sb e4 _ _ c4 (sb e3 _ _ c2 (sb e2 _ _ c3 (sb e1 _ _ c1 e))))
 have v1:St1 (k1+1) g5:=D1.frame _ _ _ u1 fun c hc o e=>sb e5 c o (D.f1 c hc).2.1 (sb e4 c o (D.f1 c hc).2.2 (sb e3 c o (D.f1 c hc).2.1 e))
 have v2:St2 (k2+1) g5:=D2.frame _ _ _ u2 fun c hc o e=>sb e5 c o (D.f2 c hc).2.1 e
 have zlt:z < g5.objs.size:=X5 z5
 show wpAny _ _ (Builtin.SmallTypes.ownedTupleHandOut (.ref z) (.ref g5.objs.size) >>=_) _ _ _
 unfold Builtin.SmallTypes.ownedTupleHandOut
 have z6:IsZip (g5.push {cls:=.type "tuple",data:=.seq #[x,y]}) z TI TO .ellipsis:=XN _ z5
 refine XJ (XJ (Z7 z6 (by simp) fun g7 z7 e7=>?_))
 replace z7:IsZip g7 z TI TO (rawInt g5.objs.size):=z7
 refine Z7 z7 (by simp) fun g8 z8 e8=>?_
 replace z8:IsZip g8 z TI TO (rawInt g5.objs.size):=z8
 have up:∀ c o,c≠z->g5.get? c=some o->g8.get? c=some o:=fun c o c1 e=>sb e8 _ _ c1 (sb e7 _ _ c1 (XN _ e))
 have pT:IsPair g8 g5.objs.size x y:=sb e8 _ _ (Zt zlt) (sb e7 _ _ (Zt zlt) (X4 _ rfl))
 rw [sz] at z8 pT
 refine XS ⟨_,rfl,?_⟩
 show Q (.ref g5.objs.size) _
 rw [sz]
 exact hQ x y g8 _ px py z8 (up _ _ D.TOz p5) (D1.frame _ _ _ v1 fun c hc o e=>up c o (D.f1 c hc).1 e) (D2.frame _ _ _ v2 fun c hc o e=>up c o (D.f2 c hc).1 e) pT fun c o c1 c2 c3 c4 e=>up c o c1 (k5 c o c1 c2 c3 c4 e)
theorem Ky {Q:Fin->Shared->Prop} (D1:Draws prog w A i1 fp1 n1 P1 St1) (D:vU z TI TO i1 i2 fp1 fp2)
  (hz:IsZip s.heap z TI TO .none) (hTI:IsPair s.heap TI (.ref i1) (.ref i2)) (s1:St1 n1 s.heap)
  (hE:∀ h' e,(∀ c o,c≠z->c≠i1->s.heap.get? c=some o->h'.get? c=some o)->(∃ o,h'.get? e=some o/\o.cls= .type "StopIteration")->E (.ref e) {s with heap:=h'}):
  wpAny (model prog w) A (Builtin.«zip.__next__» ⟨[.ref z],[]⟩) Q E s:=by
 have sb:∀ {x:Addr} {h h':Heap},Heap.SameBut x h h'->∀ c o,c≠x->h.get? c=some o->h'.get? c=some o:=fun g c o n e=>g.extBut _ _ n e
 show wpAny _ _ (field (.ref z) 2 >>=_) _ _ _
 refine XJ (YL hz rfl (x:=.bool false) rfl ?_)
 show wpAny _ _ (field (.ref z) 3 >>=_) _ _ _
 refine XJ (YL hz rfl (x:=.ref TI) rfl (XJ (Zv hTI rfl ?_)))
 show wpAny _ _ (Builtin.SmallTypes.ownedTupleIsFree (.ref z) >>=_) _ _ _
 unfold Builtin.SmallTypes.ownedTupleIsFree
 refine XJ (XJ (YL hz rfl (x:=.none) rfl (XS ?_)))
 simp only [if_true]
 refine XJ (wpAny_rule (XJ (YL hz rfl (x:=.ref TO) rfl ?_)))
 refine XJ (Z7 hz (by simp) fun g1 y1 e1=>?_)
 replace y1:IsZip g1 z TI TO .ellipsis:=y1
 refine XJ ?_
 simp only [List.zipIdx_cons,List.zipIdx_nil,List.forIn_cons,List.forIn_nil]
 refine XJ (XJ (wpAny_onRaise ?_))
 show wpAny _ _ (Builtin.SmallTypes.nextOf (.ref i1) >>=_) _ _ _
 have t1:St1 n1 g1:=D1.frame _ _ _ s1 fun c hc o e=>sb e1 c o (D.f1 c hc).1 e
 refine XJ (D1.done _ _ _ t1 fun g2 e e2 he=>?_)
 obtain ⟨oe,hoe,hce⟩:=he
 have y2:IsZip g2 z TI TO .ellipsis:=e2 _ _ D.i1z.symm y1
 have hez:e≠z:=fun x=>by subst x;rw [y2] at hoe;cases hoe;simp at hce
 exact Z7 y2 (by simp) fun g3 _ e3=>hE g3 e (fun c o c1 c3 x=>sb e3 _ _ c1 (e2 _ _ c3 (sb e1 _ _ c1 x))) ⟨oe,sb e3 _ _ hez hoe,hce⟩
end
abbrev Xw (h:Heap) (x:Str) (t:Tok):Heap:=h.push {cls:=.type (strIterType x),data:=.fields #[.str x t,.int 0 0]}
abbrev Xx (h:Heap) (x:Str) (t:Tok) (l:Addr):Heap:=(Xw h x t).push {cls:=.type "list_iterator",data:=.fields #[.ref l,.int 0 0]}
abbrev Xy (h:Heap) (x:Str) (t:Tok) (l:Addr):Heap:=(Xx h x t l).push {cls:=.type "tuple",data:=.seq #[.ref h.objs.size,.ref (Xw h x t).objs.size]}
abbrev Xz (h:Heap) (x:Str) (t:Tok) (l:Addr):Heap:=(Xy h x t l).push {cls:=.type "tuple",data:=.seq #[.none,.none]}
abbrev Vp (h:Heap) (x:Str) (t:Tok) (l:Addr):Heap:=(Xz h x t l).push {cls:=.type "zip",data:=.fields #[.none,.bool false,.bool false,.ref (Xx h x t l).objs.size,.ref (Xy h x t l).objs.size]}
theorem uJ (x:Str) (t:Tok) (l2:Addr) (ys:Array Value):
  Meets (Builtin.«zip.__new__» ⟨[.type "zip",.str x t,.ref l2],[]⟩) (fun _ R s=>s.heap.IsList l2 ys/\R (.ok (.ret (.ref (Xz s.heap x t l2).objs.size))) {s with heap:=Vp s.heap x t l2}):=
 .of_wp fun prog w A R s h=>by
  obtain ⟨hp,g,d,tk,os⟩:=s;obtain ⟨hl2,h⟩:=h
  have hsub:=sub_zip
  have hL2:Heap.IsList (Shared.heap ⟨hp.push {cls:=.type (strIterType x),data:=.fields #[.str x t,.int 0 0]},g,d,tk,os⟩) l2 ys:=Heap.IsList.push hl2 _
  wp_walk using wpAny_pyIter_strU,wpAny_pyIter_list hL2
  exact ⟨_,rfl,h⟩
theorem De {prog:Program} {w:World} {A:Around} {E:Value->Shared->Prop} {s:Shared} {x:Str} {t:Tok} {l:Addr} {ys:Array Value} {Q:Value->Shared->Prop} (hl:s.heap.IsList l ys)
  (h:∀ h',IsZip h' (s.heap.objs.size+4) (s.heap.objs.size+2) (s.heap.objs.size+3) .none->IsPair h' (s.heap.objs.size+2) (.ref s.heap.objs.size) (.ref (s.heap.objs.size+1))->
   IsPair h' (s.heap.objs.size+3) .none .none->h'.IsStrIter s.heap.objs.size (strIterType x) x t 0->h'.IsListIter (s.heap.objs.size+1) l 0->
   (∀ c o,s.heap.get? c=some o->h'.get? c=some o)->Q (.ref (s.heap.objs.size+4)) {s with heap:=h'}):
  wpAny (model prog w) A (call (.type "zip") [.str x t,.ref l]) Q E s:=by
 refine callType_new F.called_zip (by decide) (F.typeCall_zip_2 _ _) (F.newCall_zip_2 _ _) (fun obj=>F.args_object_init_3 obj _ _) F.entry_zip_new (uJ x t l ys) ⟨hl,?_⟩
 have a1:(Xw s.heap x t).objs.size=s.heap.objs.size+1:=YW ..
 have a2:(Xx s.heap x t l).objs.size=s.heap.objs.size+2:=by rw [YW,a1]
 have a3:(Xy s.heap x t l).objs.size=s.heap.objs.size+3:=by rw [YW,a2]
 have a4:(Xz s.heap x t l).objs.size=s.heap.objs.size+4:=by rw [YW,a3]
 have pu:∀ {g:Heap} {o u:Obj} {c:Addr},g.get? c=some u->(g.push o).get? c=some u:=fun e=>XN _ e
 have g5:(Vp s.heap x t l).get? (Xz s.heap x t l).objs.size=some _:=X4 _ rfl
 have g4:(Vp s.heap x t l).get? (Xy s.heap x t l).objs.size=some _:=pu (X4 _ rfl)
 have g3:(Vp s.heap x t l).get? (Xx s.heap x t l).objs.size=some _:=pu (pu (X4 _ rfl))
 have g2:(Vp s.heap x t l).get? (Xw s.heap x t).objs.size=some _:=pu (pu (pu (X4 _ rfl)))
 have g1:(Vp s.heap x t l).get? s.heap.objs.size=some _:=pu (pu (pu (pu (X4 _ rfl))))
 show _/\_
 rw [a2,a3,a4] at g5
 rw [a1,a2] at g3
 rw [a3] at g4
 rw [a1] at g2
 rw [a4]
 exact ⟨⟨_,g5,rfl⟩,h _ g5 g3 g4 ⟨_,g1,rfl,rfl⟩ ⟨_,g2,rfl,rfl⟩ fun c o e=>pu (pu (pu (pu (pu e))))⟩
def Hn (K:W.Frag) (x:Str) (b:Addr):It:=
 ⟨fun i H=>i < x.cps.size/\∃ ys y,SqL K H b ys/\ys[i]?=some y,
  fun i H v H'=>∃ T y,H T=none/\v= .ref T/\(∀ ys,SqL K H b ys->ys[i]?=some y)/\H'=upd H T (.tup [.str ⟨#[x.cps.getD i 0]⟩,y]),
  fun i _=>i=x.cps.size⟩
theorem vV {P:Program} {w:World} {K:W.Frag} {elts:List Expr} {k:Nat} {pos:Pos} {z TI TO i1 i2 b:Addr} {x:Str} {t:Tok} {ty:String} (D:vU z TI TO i1 i2 [i1] [i2,b]) (hb2:b≠i2)
  (Dr:∀ A:Around,A.handled=none->Draws P w A i1 [i1] x.cps.size (fun i v=>∃ c u,x.cps[i]?=some c/\v= .str ⟨#[c]⟩ u) (fun i h=>h.IsStrIter i1 ty x t i)):
  Turn P w K (.Tuple elts k pos) (Hn K x b) [z,TI,TO,i1,i2] z (fun i h=>IsZip h z TI TO .none/\IsPair h TI (.ref i1) (.ref i2)/\(∃ c d,IsPair h TO c d)/\h.IsStrIter i1 ty x t i/\h.IsListIter i2 b i) where
 mem:=by simp
 obj:=fun i h st c hc=>by
  obtain ⟨hz,hTI,⟨_,_,hTO⟩,⟨o1,e1,_,d1⟩,⟨o2,e2,_,d2⟩⟩:=st
  simp only [X7,Yq,or_false] at hc
  rcases hc with rfl | rfl | rfl | rfl | rfl
  ·exact ⟨_,hz,nofun⟩
  ·exact ⟨_,hTI,nofun⟩
  ·exact ⟨_,hTO,nofun⟩
  ·exact ⟨_,e1,fun v z=>by rw [d1] at z;cases z⟩
  ·exact ⟨_,e2,fun v z=>by rw [d2] at z;cases z⟩
 keep:=fun i h h' st kk=>by
  obtain ⟨hz,hTI,⟨_,_,hTO⟩,⟨o1,e1,r1⟩,h2⟩:=st
  exact ⟨kk z (by simp) _ hz,kk TI (by simp) _ hTI,⟨_,_,kk TO (by simp) _ hTO⟩,⟨o1,kk i1 (by simp) _ e1,r1⟩,h2.at fun o e=>kk i2 (by simp) o e⟩
 item:=by
  intro X hP hw hK hc i pins s U H E I hf st hg
  subst hP hw hK
  obtain ⟨hz,hTI,⟨c,d,hTO⟩,h1,h2⟩:=st
  obtain ⟨hlt,ys,y,hq,hy⟩:=hg
  obtain ⟨its,rv,p,_⟩:=I.list hq
  obtain ⟨u,hu,ru⟩:=rv.get hy
  have hlt2:i < its.toArray.size:=by
   have:=(XM.mp hu).1
   simpa using this
  have hT:s.TypeIs (.ref z) "zip":=⟨_,hz,rfl⟩
  have hh:X.A.in1.handled=none:=I.ok.hd hc
  unfold pyNext
  refine XJ (ZL (Y0 (name:=Str.ofString "__next__") hT F.slot_zip_next (Zh F.slot_zip_next hT F.entry_zip_next
   (Hm (Dr X.A.in1 hh) (Draws.list hh i2 b hb2 its.toArray) D hz hTI hTO h1 ⟨h2,p.isList⟩ hlt hlt2 fun a1 a2 h' tk px py b1 b2 b3 b4 b5 hk=>XS ?_) (F.args_zip_next_1 _))))
  obtain ⟨ch,tu,hch,rfl⟩:=px
  have eu:a2=u:=by
   have h2:its[i]?=some a2:=by simpa using py
   rw [hu] at h2
   exact (Ym h2).symm
  subst eu
  refine ⟨_,rfl,wpAny_letOwnedTupleGo_zip b1 fun h'' b1' sb=>?_⟩
  have lt:∀ {c o},s.heap.get? c=some o->s.heap.objs.size≠c:=fun e=>Zt (X5 e)
  have isT:h''.IsTuple s.heap.objs.size #[.str ⟨#[ch]⟩ tu,a2]:=⟨_,sb.extBut _ _ (lt hz) b5,rfl,_,rfl⟩
  have kall:∀ b o,b ∉ [z,TI,TO,i1,i2]->s.heap.get? b=some o->h''.get? b=some o:=fun b o hb e=>by
   simp only [X7,Yq,or_false,not_or] at hb
   exact sb.extBut _ _ hb.1 (hk b o hb.1 hb.2.2.1 hb.2.2.2.1 hb.2.2.2.2 e)
  have hTn:H s.heap.objs.size=none:=I.hok.fresh (XQ _)
  have ech:x.cps.getD i 0=ch:=by simp [Y8,hch]
  refine ⟨.ref s.heap.objs.size,_,I.newtup (tk:=tk) hf (XQ _) kall isT (xs:=[.str ⟨#[x.cps.getD i 0]⟩,y]) (.cons ⟨tu,by rw [ech]⟩ (.cons ru .nil)) (by simp;decide),rfl,⟨_,y,hTn,rfl,fun zs hs=>by rw [I.list_inj hs hq];exact hy,rfl⟩,?_,fun b hb=>?_⟩
  ·obtain ⟨o1,e1,r1⟩:=b3
   exact ⟨b1',sb.extBut _ _ D.TIz (hk _ _ D.TIz D.TITO D.TIi1 D.TIi2 hTI),⟨_,_,sb.extBut _ _ D.TOz b2⟩,⟨o1,sb.extBut _ _ D.i1z e1,r1⟩,b4.1.extBut sb.extBut D.i2z⟩
  ·have:s.heap.objs.size≠b:=by
    simp only [X7,Yq,or_false] at hb
    rcases hb with rfl | rfl | rfl | rfl | rfl
    ·exact lt hz
    ·exact lt hTI
    ·exact lt hTO
    ·obtain ⟨o,e,_⟩:=h1;exact lt e
    ·obtain ⟨o,e,_⟩:=h2;exact lt e
   rw [aD (Ne.symm this)]
   exact (hf b hb).1
 done:=by
  intro X hP hw hK hc i pins s U H E I hf st hg
  subst hP hw hK
  obtain ⟨hz,hTI,⟨c,d,hTO⟩,h1,h2⟩:=st
  have hin:i=x.cps.size:=hg
  subst hin
  have hT:s.TypeIs (.ref z) "zip":=⟨_,hz,rfl⟩
  have hh:X.A.in1.handled=none:=I.ok.hd hc
  unfold pyNext
  refine XJ (ZL (Y0 (name:=Str.ofString "__next__") hT F.slot_zip_next (Zh F.slot_zip_next hT F.entry_zip_next
   (Ky (Dr X.A.in1 hh) D hz hTI h1 fun h' e hk he=>?_) (F.args_zip_next_1 _))))
  obtain ⟨o,ho,hcl⟩:=he
  refine XJ (Aan (T:="StopIteration") (b:=true) ⟨o,ho,hcl⟩ isSubtype_stop ?_)
  refine XS ⟨rfl,I.only (tk:=s.toks) hf fun b o hb e=>?_⟩
  simp only [X7,Yq,or_false,not_or] at hb
  exact hk b o hb.1 hb.2.2.2.1 e
 self:=fun _ _ _ _ _ st h=>wpAny_pyIter_zip st.1 h
def Kz (K:W.Frag) (ta:TA):TI:=fun U H R=>ta U H fun vs H1=>∃ x b ys,vs=[.str x,.ref b]/\SqL K H1 b ys/\R (Hn K x b) H1
theorem KC {X:Cx} {K:W.Frag} {a b:Expr} {ta:TA} {elts:List Expr} {k:Nat} {tp p pos:Pos} (hc:X.calm=true) (hK:X.K=K) (hg:Gl X "zip") (hm:X.mg "zip"=none) (ha:JA X [a,b] ta) (h:autoParam (notStar a=true) L2.auto4._auto_1) (h2:autoParam (notStar b=true) L2.auto4._auto_1):
  JI X (.Tuple elts k tp) (.Call (.Name "zip" p) [a,b] [] pos) (Kz K ta):=⟨by
 subst hK
 intro pins s U H R I hq
 refine Call_ (jj I hg hm Tj (Yu (fU (ha.run pos pins s U H _ I hq) fun us s1 qq0=>?_) (cZ h) (by rw [cZ h2];rfl)))
 obtain ⟨vs,H1,I1,r1,q1⟩:=qq0
 obtain ⟨x,l,ys,e,hl,q⟩:=q1
 subst e
 obtain ⟨u,u2,rfl,e1,e2⟩:∃ u u2,us=[u,u2]/\RelV (.str x) u/\RelV (.ref l) u2:=by
  cases r1 with
  | cons x r=>cases r with
   | cons y r=>cases r with
    | nil=>exact ⟨_,_,rfl,x,y⟩
 obtain ⟨t,rfl⟩:=e1
 cases e2
 obtain ⟨its,rv,p1,_⟩:=I1.list hl
 have lt1:l < s1.heap.objs.size:=by obtain ⟨o,ho,_⟩:=p1.isList;exact X5 ho
 refine De p1.isList fun h' z1 z2 z3 z4 z5 hk=>?_
 have J1:Inv X pins U H1 {s1 with heap:=h'}:=I1.kept (t':=s1.toks) hk
 have D:vU (s1.heap.objs.size+4) (s1.heap.objs.size+2) (s1.heap.objs.size+3) s1.heap.objs.size (s1.heap.objs.size+1) [s1.heap.objs.size] [s1.heap.objs.size+1,l]:=by
  have key:∀ n b:Nat,b < n->vU (n+4) (n+2) (n+3) n (n+1) [n] [n+1,b]:=fun n b h2=>by
   have k1:∀ c:Nat,c=n->c≠n+4/\c≠n+3/\c≠n+1:=fun c hc=>by omega
   have k2:∀ c:Nat,(c=n+1\/c=b)->c≠n+4/\c≠n+3/\c≠n:=fun c hc=>by omega
   refine ⟨?_,?_,?_,?_,?_,?_,?_,?_,?_,?_,fun c hc=>k1 c (YD.mp hc),fun c hc=>k2 c (by simpa only [X7,Yq,or_false] using hc)⟩
   all_goals (show (_:Nat)≠_;omega)
  exact key _ _ lt1
 have nb:l≠s1.heap.objs.size+1:=Yy (Nat.lt_succ_of_lt lt1)
 refine wpAny_pyIter_zip z1 ?_
 have fpk:∀ b∈[s1.heap.objs.size+4,s1.heap.objs.size+2,s1.heap.objs.size+3,s1.heap.objs.size,s1.heap.objs.size+1],s1.heap.objs.size<=b:=by
  intro b hb
  simp only [X7,Yq,or_false] at hb
  have key:∀ n c:Nat,(c=n+4\/c=n+2\/c=n+3\/c=n\/c=n+1)->n<=c:=fun n c h=>by omega
  exact key _ _ hb
 cases hx:x.cps.all (· < 128)
 ·exact ⟨s1.heap.objs.size+4,_,_,_,H1,rfl,J1,vV (ty:="str_iterator") (x:=x) (t:=t) D nb (fun A hA=>Draws.strWide hA _ x t),⟨z1,z2,⟨_,_,z3⟩,by simpa [strIterType,hx] using z4,z5⟩,fun b hb=>I1.fpOk (fpk b hb) (I1.hok.fresh (fpk b hb)),q⟩
 ·exact ⟨s1.heap.objs.size+4,_,_,_,H1,rfl,J1,vV (ty:="str_ascii_iterator") (x:=x) (t:=t) D nb (fun A hA=>Draws.strAscii hA _ x t),⟨z1,z2,⟨_,_,z3⟩,by simpa [strIterType,hx] using z4,z5⟩,fun b hb=>I1.fpOk (fpk b hb) (I1.hok.fresh (fpk b hb)),q⟩⟩
section
variable {U:St} {H:Hp} {K:W.Frag}
theorem qe {a:TA} {R:It->Hp->Prop} (h:a U H fun vs H1=>∃ x b ys,vs=[.str x,.ref b]/\SqL K H1 b ys/\R (Hn K x b) H1):Kz K a U H R:=h
theorem Ho {x:Str} {b:Addr} {ys:List V} {g:TG} {tb:TS} {D:Ends} (Pv:Nat->St->Hp->Prop) (hl:x.cps.size=ys.length) (h0:Pv 0 U H) (hq:∀ i U H,i<=ys.length->Pv i U H->SqL K H b ys)
  (hs:∀ i U H T y,ys[i]?=some y->Pv i U H->H T=none->g (.ref T) U (upd H T (.tup [.str ⟨#[x.cps.getD i 0]⟩,y])) fun σ2 H2=>tb {D with nx:=Pv (i+1),ct:=Pv (i+1),bk:=D.nx} σ2 H2) (hd:∀ U H,Pv ys.length U H->D.nx U H):
  ∃ W:Nat->Nat->St->Hp->Prop,(∃ m,W 0 m U H)/\∀ i m U H,W i m U H->
   ((Hn K x b).stop i H/\D.nx U H)\/((Hn K x b).go i H/\∃ N:St->Hp->Prop,(∀ U' H',N U' H'->∃ m',m' < m/\W (i+1) m' U' H')/\∀ z H',(Hn K x b).yld i H z H'->g z U H' fun σ2 H2=>tb {D with nx:=N,ct:=N,bk:=D.nx} σ2 H2):=by
 refine ⟨fun i m U H=>m=ys.length - i/\i<=ys.length/\Pv i U H,⟨ys.length,by simp,YT _,h0⟩,?_⟩
 rintro i m U H ⟨rfl,hi,p⟩
 have q1:=hq i U H hi p
 by_cases hlt:i < ys.length
 ·refine .inr ⟨⟨by omega,ys,ys[i],q1,XR hlt⟩,Pv (i+1),fun U' H' p'=>⟨ys.length - (i+1),by omega,rfl,hlt,p'⟩,fun z H' y=>?_⟩
  obtain ⟨T,u,hT,e1,e2,e4⟩:=y
  subst e1 e4
  exact hs i U H T u (e2 ys q1) p hT
 ·have e:i=ys.length:=by omega
  subst e
  exact .inl ⟨hl.symm,hd U H p⟩
end
end L2
namespace L2
open PySem PySem.Spec PyProof.Rows
open PySem.Sem (wp)
open AutoSeq1 (wpAny_loadPart')
end L2
namespace L2
open PySem PySem.W PySem.Spec PyProof.Rows
end L2
namespace L2
open PySem PySem.Spec PyProof.Rows
open PySem.Sem (wp)
end L2
namespace L2
open PySem PySem.Spec PyProof.Rows
open PySem.Sem (wp)
open PySem.AutoSeq1 (wpAny_loadPart')
end L2
namespace L2
open PySem PySem.Spec PyProof.Rows
open PySem.Sem (wp)
end L2
namespace L2
open PySem PySem.Spec PyProof.Rows
def Vq (K:W.Frag) (a:Addr) (n:Nat):It:=
 ⟨fun i H=>i < n/\∃ xs,SqL K H a xs/\xs.length=n,
  fun i H v H'=>H'=H/\∀ xs,SqL K H a xs->xs[n - 1 - i]?=some v,
  fun i _=>i=n⟩
theorem KD {P:Program} {w:World} {K:W.Frag} {tg:Expr} {n:Nat} {it a:Addr} (hai:a≠it):
  Turn P w K tg (Vq K a n) [it] it (fun i h=>i<=n/\h.IsRevIter it a ((n:Int) - 1 - (i:Int))) where
 mem:=by simp
 obj:=fun i h st c hc=>by
  obtain ⟨_,⟨o1,e1,c1,d1⟩⟩:=st
  have e:c=it:=by simpa using hc
  subst e
  exact ⟨_,e1,fun v z=>by rw [d1] at z;cases z⟩
 keep:=fun i h h' st kk=>⟨st.1,st.2.at fun o q=>kk it (by simp) o q⟩
 item:=by
  intro X hP hw hK hc i pins s U H E I hf st hg
  subst hP hw hK
  obtain ⟨hi,h1⟩:=st
  obtain ⟨hlt,xs,hq,hlen⟩:=hg
  obtain ⟨its,rv,p,_⟩:=I.list hq
  have l1:=rv.length
  obtain ⟨x,hx⟩:∃ x,xs[n - 1 - i]?=some x:=⟨_,XR (by omega)⟩
  obtain ⟨u,hu,ru⟩:=rv.get hx
  obtain ⟨f0,f1,f2,f3,f4,f5⟩:=hf it (by simp)
  have e:(n:Int) - 1 - (i:Int)=((n - 1 - i:Nat):Int):=by omega
  rw [e] at h1
  refine wpAny_pyNext_rev_item h1 p.isList (x:=u) (by simpa using hu) fun h' st' sb=>?_
  have I1:Inv X pins U H {s with heap:=h'}:=I.turned (t':=s.toks) (fun b o hb e=>(sb.2 b hb).trans e) f0 f1 f3 f4 f5
  obtain ⟨o,eo,c,d⟩:=id st'
  refine ⟨u,rfl,xf (s:={s with heap:=h'}) eo c d (by decide) ⟨x,H,I1,ru,⟨rfl,fun ys hy=>by rw [I.list_inj hy hq];exact hx⟩,⟨hlt,?_⟩,fun b hb=>(hf b hb).1⟩⟩
  have e2:((n - 1 - i:Nat):Int) - 1=(n:Int) - 1 - ((i+1:Nat):Int):=by omega
  rw [← e2]
  exact st'
 done:=by
  intro X hP hw hK hc i pins s U H E I hf st hg
  subst hP hw hK
  obtain ⟨hi,h1⟩:=st
  have hin:i=n:=hg
  subst hin
  rw [show (i:Int) - 1 - (i:Int)= -1 by omega] at h1
  obtain ⟨f0,f1,f2,f3,f4,f5⟩:=hf it (by simp)
  exact wpAny_pyNext_rev_end (I.ok.hd hc) h1 fun h' eb=>⟨rfl,I.turned (t':=s.toks) (fun b o hb e=>eb b o hb e) f0 f1 f3 f4 f5⟩
 self:=fun _ _ _ _ _ st h=>ZK st.2 h
structure rP (K:W.Frag) (mg:Str->Option Value) (x:Str):Prop where
 at_:mg x=some (.ref (aL mg x))
 cl:Cls K (aL mg x)
 makes:PySem.W.makesIn K (aL mg x)=true
 kp:PySem.W.keepIn K (.ref (aL mg x))=true
def clsIn (K:W.Frag) (C:Addr):Bool:=PySem.W.plainGet K C Str.empty && PySem.W.hasDictIn K C && PySem.W.plainOver K C
theorem Fl {K:W.Frag} {mg:Str->Option Value} {h:Heap} (X:K.In h) (G:h.Ns mainGlobals mg) {x:Str} {C:Addr} (a:PySem.W.nsIn K mainGlobals x=some (some (.ref C))) (b:clsIn K C=true)
  (s:PySem.W.findIn K (.ref C) "__setattr__"=some (some (.builtin "object.__setattr__"))) (m:PySem.W.makesIn K C=true) (k:PySem.W.keepIn K (.ref C)=true):rP K mg x:=by
 have e0:=ZG X G a
 have e:=jO e0
 unfold clsIn at b
 simp only [Yg] at b
 exact ⟨by rw [e];exact e0,by rw [e];exact ⟨b.1.1,b.1.2,b.2,s⟩,by rw [e];exact m,by rw [e];exact k⟩
structure gB (K:W.Frag) (mg:Str->Option Value) (x m qual:Str) (st:Stmt):Prop where
 ex:∃ f fd,Meth K (aL mg x) m f/\Fun K m qual st f fd
theorem jz {K:W.Frag} {mg:Str->Option Value} {h:Heap} (X:K.In h) (G:h.Ns mainGlobals mg) {x m qual:Str} {C f:Addr} {st:Stmt} {oc:Value} {od an:Option Addr} {osl:Array (Option Value)} {kV doc pm cdv ct:Value}
  (a:PySem.W.nsIn K mainGlobals x=some (some (.ref C))) (i:PySem.W.findIn K (.ref C) m=some (some (.ref f))) (n:PySem.W.isFn K (.ref f)=true)
  (l:K.lookup f=some ⟨oc,od,.func (PySem.W.fnOf m qual (ig st) (du st) (au st) .none kV doc pm an cdv ct),osl⟩) (c:PySem.W.codeIn K cdv qual=true) (k:PySem.W.keepIn K (.ref f)=true):gB K mg x m qual st:=by
 have e:=jO (ZG X G a)
 exact ⟨f,_,by rw [e];exact ⟨i,n,k⟩,Ca l c k⟩
theorem Fo {K:W.Frag} {mg:Str->Option Value} {h:Heap} (X:K.In h) (G:h.Ns mainGlobals mg) {x:Str} {C:Addr} {fl:List Str} (a:PySem.W.nsIn K mainGlobals x=some (some (.ref C))) (b:Kl K C fl=true):∀ f∈fl,NoAttr K (aL mg x) f:=fun n hn=>by
 rw [jO (ZG X G a)]
 have:=Zi.mp b n hn
 first | exact of_decide_eq_true this | exact ZF.mp this | simpa using this
def jA (j:Nat):Stmt->Stmt
 | .ClassDef _ _ _ ss _ _ _ _ _ _ _=>ss.getD j (.Pass ⟨0,0,0,0⟩)
 | s=>s
def j9 (P:Program) (w:World) (K:W.Frag) (mg:Str->Option Value) (base:Heap) (k:Nat) (x m:Str) (ps:List Str) (sp:Sp):Prop:=
 ∃ f fd,Meth K (aL mg x) m f/\Binds K fd ps []/\FnOk P w K mg base (Od P w) k f fd ps sp
section
variable {P:Program} {w:World} {K:W.Frag} {mg:Str->Option Value} {base:Heap}
theorem oZ {x m qual:Str} {st:Stmt} {N ps:List Str} {k:Nat} {sp:Sp} (D:gB K mg x m qual st) (S:aG N ps (au st))
  (hb:∀ (kV doc pm:Value) (an:Option Addr) (cdv ct:Value) (us:List Value),us.length=ps.length->bindArgs (PySem.W.fnOf m qual (ig st) (du st) (au st) .none kV doc pm an cdv ct) ⟨us,[]⟩=pure (ps.zip us))
  (len:∀ vs H Q E,sp vs H Q E->vs.length=ps.length)
  (hbody:∀ (f:Addr) (cdv:Value) (A:Around) (outer:List Env) (s:Shared) (H:Hp) (vs:List V) (Q:VK) (E:XK),Room k (A.deeper (envOfC qual (au st) s.heap.objs.size f cdv))->sp vs H Q E->
   ∃ t,JB (qF (Od P w) P w K mg base N qual (au st) f cdv A outer s H E) (du st) t/\t {nx:=fun _ H'=>Q .non H',rt:=Q} (start N vs) H):j9 P w K mg base (k+1) x m ps sp:=by
 obtain ⟨f,fd,hm,F⟩:=D.ex
 refine ⟨f,fd,hm,F.binds hb,?_⟩
 obtain ⟨oc,od,kV,doc,pm,an,cdv,ct,osl,rfl,lk,hcd⟩:=F.ex
 exact Jd lk hcd S len fun A outer s H vs Q E hr h=>let ⟨t,j,q⟩:=hbody f cdv A outer s H vs Q E hr h;⟨t,j.run,q⟩
end
def yI (C:Addr) (m:Str) (sp:Sp) (R:St->XK) (ta:TE) (t:TA):TE:=fun U H Q=>ta U H fun x H1=>∃ a dx fs,x= .ref a/\H1 a=some (.ins C dx fs)/\fs.lookup m=none/\t U H1 fun vs H2=>sp (x :: vs) H2 Q (R U)
def KH (C:Addr) (sp:Sp) (R:St->XK) (t:TA):TE:=fun U H Q=>t U H fun vs H1=>∀ x dx,H1 x=none->H1 dx=none->dx≠x->
 sp (.ref x :: vs) (upd (upd H1 dx (.own x)) x (.ins C dx [])) (fun v H2=>v= .non/\Q (.ref x) H2) (R U)
section
variable {X:Cx} {K:W.Frag} {k:Nat} {f C:Addr} {ps:List Str} {sp:Sp} {R:St->XK} {x m fn:Str} {p pos apos pos':Pos} {e o value:Expr} {es:List Expr} {ta tv:TE} {t:TA} {pins:List (Addr×Obj)} {U:St} {H:Hp} {s:Shared} {Q:VK} {us:List Value} {vs:List V}
theorem nO {pl:Sem Bool} (he:JE X o ta) (c:rP X.K X.mg x) (F:j9 X.prog X.w X.K X.mg X.base k x m ps sp) (hr:Room k X.A) (hx:lC X R) (ha:JA X (e :: es) t)
  (hs:autoParam ((e :: es).all notStar=true) L2.auto4._auto_1)
  (ht:eval (.Call (.Attribute o m apos) (e :: es) [] pos) X.env=(do
   let ov ← eval o X.env
   standAt apos.atName
   let (f,first) ← holding [ov] (getMethod ov m pl)
   callWith pos f first (backTo pos (starEach (e :: es) X.env)) (backToKw pos (keywordEach [] X.env))):=by rfl):
  JE X (.Call (.Attribute o m apos) (e :: es) [] pos) (yI (aL X.mg x) m sp R ta t):=⟨by
 have h1:notStar e=true:=by simp only [YQ,Yg] at hs;exact hs.1
 have h2:es.all notStar=true:=by simp only [YQ,Yg] at hs;exact hs.2
 obtain ⟨f,fd,hm,hb,F⟩:=F
 intro pins s U H Q I h
 refine PySem.W.methodCall_KW (pl:=pl) (fU (he.run pins s U H _ I h) fun u s1 qq0=>?_) ht
 obtain ⟨x,H1,I1,rx,a,dx,fs,ex,ea,l,q⟩:=qq0
 subst ex
 obtain rfl:u=Value.ref a:=rx
 refine vm I1 ea c.cl hm l ?_
 refine ZP (first:=[.ref a]) (h₀:=X.base) I.ok.mod.kin hm.kp (fU (ha.run pos pins s1 U H1 _ I1 q) fun us s2 ⟨vs,H2,I2,r,q2⟩=>⟨I2.kIn,?_⟩) (cZ h1) (mz h2)
 exact uY (us:=.ref a :: us) (vs:=.ref a :: vs) F hr hb hx I2 (.cons rfl r) q2⟩
theorem gC {pl:Sem Bool} (he:JE X o ta) (c:rP X.K X.mg x) (F:j9 X.prog X.w X.K X.mg X.base k x m ps sp) (hr:Room k X.A) (hx:lC X R)
  (ht:eval (.Call (.Attribute o m apos) [] [] pos) X.env=(do
   let ov ← eval o X.env
   standAt apos.atName
   let (f,first) ← holding [ov] (getMethod ov m pl)
   callWith pos f first (backTo pos (starEach [] X.env)) (backToKw pos (keywordEach [] X.env))):=by rfl):
  JE X (.Call (.Attribute o m apos) [] [] pos) (yI (aL X.mg x) m sp R ta Nk):=⟨by
 obtain ⟨f,fd,hm,hb,F⟩:=F
 intro pins s U H Q I h
 refine PySem.W.methodCall_KW (pl:=pl) (fU (he.run pins s U H _ I h) fun u s1 qq0=>?_) ht
 obtain ⟨x,H1,I1,rx,a,dx,fs,ex,ea,l,q⟩:=qq0
 subst ex
 obtain rfl:u=Value.ref a:=rx
 refine vm I1 ea c.cl hm l ?_
 exact PySem.W.callWith_K0 (first:=[.ref a]) I1.kIn hm.kp (uY (us:=[.ref a]) (vs:=[.ref a]) F hr hb hx I1 (.cons rfl .nil) q)⟩
theorem Hq (c:rP X.K X.mg x) (F:j9 X.prog X.w X.K X.mg X.base k x "__init__" ps sp) (hr:Room (k+1) X.A) (hx:lC X R) (I:Inv X pins U H s) (r:Vals vs us)
  (h:∀ y dx,H y=none->H dx=none->dx≠y->sp (.ref y :: vs) (upd (upd H dx (.own y)) y (.ins (aL X.mg x) dx [])) (fun v H2=>v= .non/\Q (.ref y) H2) (R U)):
  wpAny (model X.prog X.w) X.A (call (.ref (aL X.mg x)) us) (EP X pins U Q) X.xe s:=by
 obtain ⟨f,fd,hm,hb,F⟩:=F
 have hq:=h (s.heap.objs.size+1) s.heap.objs.size (I.hok.fresh (Nat.le_succ _)) (I.hok.fresh (XQ _)) (Yy (Z3 _))
 have I2:=Inv.made (C:=aL X.mg x) I
 have r2:Vals (V.ref (s.heap.objs.size+1) :: vs) (Value.ref (s.heap.objs.size+1) :: us):=.cons rfl r
 have hl:((Value.ref (s.heap.objs.size+1) :: us) ++ []).length=ps.length:=by
  have e:=r2.length
  rw [F.len _ _ _ _ hq] at e
  rw [Zy]
  exact e.symm
 have bd:=hb _ (Value.ref (s.heap.objs.size+1) :: us) I2.kIn hl
 rw [Zy] at bd
 refine Aag (Jc (f:=f) I.kIn c.makes hm.at_ (ZF.mp hm.fn) (codeAny_mono (F.run _ X.stack _ _ ⟨Value.ref (s.heap.objs.size+1) :: us,[]⟩ (Value.ref (s.heap.objs.size+1) :: us) _ _ (R U) (hr.make (aL X.mg x) us [])
  (I2.env0.make (aL X.mg x) us []) bd r2 hq) fun r s' hq'=>?_))
 cases r with
 | error e=>exact hx pins e s' (Ex I2 hq')
 | ok fl=>
  cases fl with
  | ret u=>
   obtain ⟨v,H',I3,rv,ev,q3⟩:=I2.after hq'
   subst ev
   exact ⟨rv,⟨V.ref (s.heap.objs.size+1),H',I3,rfl,q3⟩⟩
  | next=>exact False.elim hq'
  | brk=>exact False.elim hq'
  | cont=>exact False.elim hq'
theorem kh (c:rP X.K X.mg x) (F:j9 X.prog X.w X.K X.mg X.base k x "__init__" ps sp) (hr:Room (k+1) X.A) (hg:Gl X x) (hx:lC X R) (ha:JA X (e :: es) t) (hdb:(x == ("__debug__":Str))=false) (h:autoParam ((e :: es).all notStar=true) L2.auto4._auto_1):
  JE X (.Call (.Name x p) (e :: es) [] pos) (KH (aL X.mg x) sp R t):=⟨by
 have h1:notStar e=true:=by simp only [YQ,Yg] at h;exact h.1
 have h2:es.all notStar=true:=by simp only [YQ,Yg] at h;exact h.2
 intro pins s U H Q I h
 refine YX (nG I hg c.at_ ?_ hdb)
 refine ZP (h₀:=X.base) I.ok.mod.kin c.kp (fU (ha.run pos pins s U H _ I h) fun us s1 ⟨vs,H1,I1,r,q⟩=>⟨I1.kIn,?_⟩) (cZ h1) (mz h2)
 exact Hq c F hr hx I1 r q⟩
theorem jV (hK:X.K=K) (he:JE X e ta) (h:autoParam (nM e=true) L2.auto4._auto_1):JE X (.Attribute e fn pos) (RZ K ta fn):=by
 subst hK
 exact ⟨R1 he.run (by cases e <;> first | rfl | cases h)⟩
theorem jn (hK:X.K=K) (ha:JE X o ta) (hv:JE X value tv) (h:autoParam (lV value=true) L2.auto4._auto_1):JS X (.Assign [.Attribute o fn pos'] value pos) (R0 K ta tv fn):=by
 subst hK
 exact ⟨R3 ha.run hv.run (zU h)⟩
end
section
variable {U:St} {H:Hp} {D:Ends} {Q:VK} {sp:Sp} {R:St->XK} {a:TA} {K:W.Frag} {C:Addr} {ta tv:TE} {f m:Str}
theorem bC (h:ta U H fun x H1=>∃ b dx fs,x= .ref b/\H1 b=some (.ins C dx fs)/\fs.lookup m=none/\a U H1 fun vs H2=>sp (x :: vs) H2 Q (R U)):yI C m sp R ta a U H Q:=h
theorem bD (h:a U H fun vs H1=>∀ x dx,H1 x=none->H1 dx=none->dx≠x->sp (.ref x :: vs) (upd (upd H1 dx (.own x)) x (.ins C dx [])) (fun v H2=>v= .non/\Q (.ref x) H2) (R U)):KH C sp R a U H Q:=h
theorem eY (h:ta U H fun x H1=>∃ a C dx fs v,x= .ref a/\H1 a=some (.ins C dx fs)/\Cls K C/\NoAttr K C f/\fs.lookup f=some v/\Q v H1):RZ K ta f U H Q:=h
theorem cW (h:tv U H fun y H1=>ta U H1 fun x H2=>∃ a C dx fs,x= .ref a/\H2 a=some (.ins C dx fs)/\Cls K C/\NoAttr K C f/\fs.length < 1000/\D.nx U (upd H2 a (.ins C dx (lO f y fs)))):R0 K ta tv f D U H:=h
end
section
variable {X:Cx} {mg:Str->Option Value} {o:Expr} {ta:TE} {t:TA} {x m:Str} {ps:List Str} {sp:Sp} {k:Nat} {R:St->XK} {e:Expr} {es:List Expr} {pos apos:Pos}
theorem mY {pl:Sem Bool} (hmg:X.mg=mg) (he:JE X o ta) (c:rP X.K X.mg x) (F:j9 X.prog X.w X.K X.mg X.base k x m ps sp) (hr:Room k X.A) (hx:lC X R) (ha:JA X (e :: es) t)
  (hs:autoParam ((e :: es).all notStar=true) L2.auto4._auto_1)
  (ht:eval (.Call (.Attribute o m apos) (e :: es) [] pos) X.env=(do
   let ov ← eval o X.env
   standAt apos.atName
   let (f,first) ← holding [ov] (getMethod ov m pl)
   callWith pos f first (backTo pos (starEach (e :: es) X.env)) (backToKw pos (keywordEach [] X.env))):=by rfl):
  JE X (.Call (.Attribute o m apos) (e :: es) [] pos) (yI (aL mg x) m sp R ta t):=by
 subst hmg
 exact nO he c F hr hx ha hs ht
end
section
variable {U:St} {H:Hp} {Q:VK}
def Uc (o:HO) (n:Nat) (H:Hp) (Q:VK):Prop:=n<=sizeLine/\∀ p,H p=none->Q (.ref p) (upd H p o)
theorem fM {a:TA} (h:a U H fun xs H1=>Uc (.lst xs) xs.length H1 Q):Nq a U H Q:=h
theorem fO {a:TA} (h:a U H fun xs H1=>Uc (.tup xs) xs.length H1 Q):Np a U H Q:=h
theorem dJ {o:HO} {n:Nat} (c:Nat.ble n 64=true) (h:∀ p H',H p=none->Same H H'->H' p=some o->Q (.ref p) H'):Uc o n H Q:=
 ⟨Yz (Nat.le_of_ble_eq_true c) (by decide),fun p np=>h p _ np ((Same.refl H).upd np) aj⟩
end
section
variable {sub:List (Option Nat)} {g:TG} {tt:TT} {te:TE} {U:St} {Q:VK} {H:Hp} {K:W.Frag} {a:Addr} {xs:List V} {lo:Int} {n:Nat} {z:Str}
theorem f9 (Pv:Nat->List V->Hp->Prop) (hn:n<=sizeLine) (h0:Pv 0 [] H) (hl:∀ i ys H,Pv i ys H->ys.length<=i)
  (hs:∀ i ys H,i < n->Pv i ys H->g (.int (lo+i)) (fX sub U) H fun σ2 H2=>KeepSt (fX sub U) σ2/\tt σ2 H2 fun b H3=>if b=true then te σ2 H3 fun y H4=>Pv (i+1) (ys ++ [y]) H4 else Pv (i+1) ys H3)
  (hd:∀ ys H D H',Pv n ys H->H D=none->Same H H'->H' D=some (.lst ys)->Q (.ref D) H'):uw sub g tt te U Q (Ia lo n) H:=
 vH Pv hn h0 hl hs fun ys H p D nD=>hd ys H D _ p nD ((Same.refl H).upd nD) aj
theorem xO (Pv:Nat->List V->Hp->Prop) (hn:z.cps.size<=sizeLine) (h0:Pv 0 [] H) (hl:∀ i ys H,Pv i ys H->ys.length<=i)
  (hs:∀ i ys H c,z.cps.toList[i]?=some c->Pv i ys H->g (.str ⟨#[c]⟩) (fX sub U) H fun σ2 H2=>KeepSt (fX sub U) σ2/\tt σ2 H2 fun b H3=>if b=true then te σ2 H3 fun y H4=>Pv (i+1) (ys ++ [y]) H4 else Pv (i+1) ys H3)
  (hd:∀ ys H D H',Pv z.cps.size ys H->H D=none->Same H H'->H' D=some (.lst ys)->Q (.ref D) H'):uw sub g tt te U Q (NB z) H:=
 zW Pv hn h0 hl hs fun ys H p D nD=>hd ys H D _ p nD ((Same.refl H).upd nD) aj
theorem nP {f:Nat->V} {i:Nat} {y:V} (h:y=f i):(List.range i).map f ++ [y]=(List.range (i+1)).map f:=by rw [h,YJ,Yk];rfl
theorem mZ (f:Nat->V) (hn:n<=sizeLine)
  (hs:∀ i,i < n->g (.int (lo+i)) (fX sub U) H fun σ2 H2=>KeepSt (fX sub U) σ2/\tt σ2 H2 fun b H3=>if b=true then te σ2 H3 fun y H4=>H4=H/\(List.range i).map f ++ [y]=(List.range (i+1)).map f else H3=H/\(List.range i).map f=(List.range (i+1)).map f)
  (hd:∀ D H',H D=none->Same H H'->H' D=some (.lst ((List.range n).map f))->Q (.ref D) H'):uw sub g tt te U Q (Ia lo n) H:=by
 refine f9 (fun i ys H'=>H'=H/\ys=(List.range i).map f) hn ⟨rfl,rfl⟩ ?_ ?_ ?_
 ·rintro i ys H' ⟨_,rfl⟩
  simp
 ·rintro i ys H' hi ⟨rfl,rfl⟩
  exact hs i hi
 ·rintro ys H1 D H' ⟨rfl,rfl⟩ nD s e
  exact hd D H' nD s e
end
end L2
set_option maxHeartbeats 8000000
namespace L2
open PySem PySem.Spec PyProof.Rows
end L2
namespace L2
open PySem PySem.W PySem.Spec PyProof.Rows
end L2
namespace L2
open PySem PySem.Spec PyProof.Rows
theorem xP:Manifest.owners.lookup (String.ofList ['d','e','s','r','e','v','e','r'].reverse)=some Manifest.sig_reversed:=by kernel_rfl
theorem iM:Slot "reversed" "__next__" "reversed.__next__":=
 .of (owner:="reversed") (n:="__next__") (by rw [gV,ZD];kernel_rfl) (by trivial) (by trivial) (by trivial)
  (by first | exact .inl (by trivial) | exact .inr (by trivial)) (by rw [Aai];kernel_rfl)
theorem pB:entryFor table "reversed.__next__"=some Builtin.«reversed.__next__»:=entryFor_of_tree (by kernel_rfl)
theorem qC (a:Value):argsOk "reversed.__next__" ⟨[a],[]⟩:=by
 unfold argsOk;rw [signature?_of (id:="reversed.__next__") (n:=['_','_','t','x','e','n','_','_']) (o:=['d','e','s','r','e','v','e','r']) (by kernel_rfl) xP];kernel_rfl
theorem qD:Slot "reversed" "__iter__" "reversed.__iter__":=
 .of (owner:="reversed") (n:="__iter__") (by rw [gV,ZD];kernel_rfl) (by trivial) (by trivial) (by trivial)
  (by first | exact .inl (by trivial) | exact .inr (by trivial)) (by rw [Aai];kernel_rfl)
theorem wF (a:Value):argsOk "reversed.__iter__" ⟨[a],[]⟩:=by
 unfold argsOk;rw [signature?_of (id:="reversed.__iter__") (n:=['_','_','r','e','t','i','_','_']) (o:=['d','e','s','r','e','v','e','r']) (by kernel_rfl) xP];kernel_rfl
theorem vW:entryFor table "reversed.__iter__"=some Builtin.«dict_keyiterator.__iter__»:=
 entryFor_alias (id':="dict_keyiterator.__iter__") (by kernel_rfl) (by first | rfl | trivial | (unfold String.splitOn;simp+decide [String.splitOnAux])) (by trivial) (by kernel_rfl)
theorem tH:typeLookup (.type "tuple") "__reversed__"=pure none:=by rw [gV,ZD];kernel_rfl
theorem sub_tuple_dict:isSubtype (.type "tuple") (.type "dict")=pure false:=by rw [Aai];kernel_rfl
theorem wG:Slot "reversed" "__init__" "object.__init__":=
 .of (owner:="object") (n:="__init__") (by rw [gV,ZD];kernel_rfl) (by trivial) (by trivial) (by trivial)
  (by first | exact .inl (by trivial) | exact .inr (by trivial)) (by rw [Aai];kernel_rfl)
theorem qL:TypeCalled "reversed" "reversed.__new__" "object.__init__":=
 ⟨by trivial,F.create_reversed,⟨_,_,F.mro_reversed⟩,F.made_reversed,F.plain_reversed_new,F.sub_reversed_self,wG⟩
section
variable {prog:Program} {w:World} {A:Around} {E:Value->Shared->Prop} {s:Shared}
def qM (l:Addr) (i:Int):Obj:={cls:=.type "reversed",data:=.fields #[.ref l,rawInt i]}
def IsRvd (h:Heap) (a l:Addr) (i:Int):Prop:=∃ o,h.get? a=some o/\o.cls= .type "reversed"/\o.data= .fields #[.ref l,rawInt i]
theorem IsRvd.typeIs {a l:Addr} {i:Int} (x:IsRvd s.heap a l i):s.TypeIs (.ref a) "reversed":=let ⟨o,ho,hc,_⟩:=x;⟨o,ho,hc⟩
theorem IsRvd.at {h h':Heap} {a l:Addr} {i:Int} (x:IsRvd h a l i) (e:∀ o,h.get? a=some o->h'.get? a=some o):IsRvd h' a l i:=let ⟨o,ho,r⟩:=x;⟨o,e _ ho,r⟩
theorem KJ {l:Addr} {items:Array Value} {Q₁:Value->Shared->Prop} (hl:IsTup s.heap l items) (hz:items.size < 2 ^ 62)
  (h:∀ k,Q₁ (.ref s.heap.objs.size) {s with heap:=s.heap.push (qM l ((items.size:Int) - 1)),toks:=k}):
  codeAny (model prog w) A (.call (.builtin "reversed.__new__") ⟨[.type "reversed",.ref l],[]⟩) (wants Q₁ E) s:=by
 refine codeAny_of_tree ?_
 show wpAny _ A.in1 (do checkBuiltinCall "reversed.__new__" ⟨[.type "reversed",.ref l],[]⟩;again (.builtin "reversed.__new__" ⟨[.type "reversed",.ref l],[]⟩)) _ _ s
 refine XJ (Zq (F.newCall_reversed_1 _) (XS ⟨Aaq F.plain_reversed_new _,codeAny_builtin F.entry_reversed_new ?_⟩))
 rw [Aak F.plain_reversed_new _]
 unfold Builtin.«reversed.__new__»
 refine XJ (Zq (newClass_reversed _) ?_)
 try dsimp only
 refine XJ (Zq (a:=()) (by first | rfl | kernel_rfl) ?_)
 refine XJ (Zq (a:=()) (by first | rfl | kernel_rfl) ?_)
 try dsimp only
 refine XJ (wpAny_specialOf hl.typeIs tH ?_)
 try dsimp only
 refine XJ ?_
 refine XJ (Aan hl.typeIs sub_tuple_dict ?_)
 rw [if_neg (by decide)]
 refine XJ (wpAny_specialOf hl.typeIs F.slot_tuple_getitem.lookup ?_)
 dsimp only
 rw [if_pos (by trivial)]
 refine XS ?_
 rw [if_neg (by decide)]
 refine XJ (len_tuple hl (by omega) ?_)
 refine XJ (Zq (a:=some ((items.size:Nat):Int)) rfl ?_)
 dsimp only
 refine XJ ?_
 unfold Builtin.SmallTypes.newRecord
 refine Y6 ?_
 exact XS (h _)
theorem KN {l:Addr} {items:Array Value} {Q:Value->Shared->Prop} (hl:IsTup s.heap l items) (hz:items.size < 2 ^ 62)
  (h:∀ k,Q (.ref s.heap.objs.size) {s with heap:=s.heap.push (qM l ((items.size:Int) - 1)),toks:=k}):wpAny (model prog w) A (call (.type "reversed") [.ref l]) Q E s:=by
 refine callType_codes qL (F.typeCall_reversed_1 _) F.entry_object_init (KJ (Q₁:=fun obj s₁=>obj= .ref s.heap.objs.size/\∃ k,s₁={s with heap:=s.heap.push (qM l ((items.size:Int) - 1)),toks:=k}) hl hz fun k=>⟨rfl,k,rfl⟩) ?_
 rintro obj s₁ ⟨rfl,k,rfl⟩
 have hT:Shared.TypeIs {s with heap:=s.heap.push (qM l ((items.size:Int) - 1)),toks:=k} (.ref s.heap.objs.size) "reversed":=⟨_,X4 _ rfl,rfl⟩
 exact ⟨hT,F.args_object_init_2 _ _,(object_init_meets qL.init.lookup qL.made (by decide)) prog w A.in1 _ _ ⟨hT,rfl,h k⟩⟩
theorem KQ {it l:Addr} {i:Nat} {items:Array Value} {x:Value} {Q:Option Value->Shared->Prop} (hit:IsRvd s.heap it l (i:Int)) (hl:IsTup s.heap l items) (hx:items[i]?=some x) (hz:items.size < 2 ^ 62)
  (hQ:∀ h' k,IsRvd h' it l ((i:Int) - 1)->Heap.SameBut it s.heap h'->Q (some x) {s with heap:=h',toks:=k}):wpAny (model prog w) A (pyNext (.ref it)) Q E s:=by
 obtain ⟨o,ho,hc,hd⟩:=id hit
 have hi:i < items.size:=(Array.getElem?_eq_some_iff.mp hx).1
 unfold pyNext
 refine XJ (ZL (Y0 (name:=Str.ofString "__next__") hit.typeIs iM
  (Zh iM hit.typeIs pB ?_ (qC _))))
 unfold Builtin.«reversed.__next__»
 refine XJ (Zq (a:=(Value.ref it,[])) rfl ?_)
 try dsimp only
 refine XJ (YL ho hd (x:=.ref l) rfl ?_)
 refine XJ (YL ho hd (x:=rawInt (i:Int)) rfl ?_)
 show wpAny _ _ (if (i:Int) < 0 then _ else _) _ _ s
 rw [if_neg (by omega)]
 refine XJ (wpAny_specialOf hl.typeIs F.slot_tuple_getitem.lookup ?_)
 rw [if_neg (by decide)]
 refine XJ (wpAny_mkInt ?_)
 refine XJ (ZL (getItem_tuple (j:=i) hl (by omega) (by omega) ?_ hx ?_))
 ·unfold seqIndex?
  simp
  omega
 dsimp only
 refine XJ (YL (s:={s with toks:=s.toks+1}) ho hd (x:=rawInt (i:Int)) rfl ?_)
 refine XJ (Z5 (s:={s with toks:=s.toks+1}) ho hd (by simp) ?_)
 refine XS ⟨x,rfl,XS (hQ _ _ ?_ (Z2 ..))⟩
 exact ⟨_,YM _ ho (ZS (Zn hd _)),(Obj.cls_mapFields ..).trans hc,by
  rw [Zn hd];simp⟩
theorem Oz {it l:Addr} {Q:Option Value->Shared->Prop} (hh:A.handled=none) (hit:IsRvd s.heap it l (-1))
  (hQ:∀ h',Heap.ExtBut it s.heap h'->Q none {s with heap:=h'}):wpAny (model prog w) A (pyNext (.ref it)) Q E s:=by
 obtain ⟨o,ho,hc,hd⟩:=id hit
 unfold pyNext
 refine XJ (ZL (Y0 (name:=Str.ofString "__next__") hit.typeIs iM
  (Zh iM hit.typeIs pB ?_ (qC _))))
 unfold Builtin.«reversed.__next__»
 refine XJ (Zq (a:=(Value.ref it,[])) rfl ?_)
 try dsimp only
 refine XJ (YL ho hd (x:=.ref l) rfl ?_)
 refine XJ (YL ho hd (x:=rawInt (-1)) rfl ?_)
 show wpAny _ _ (if (-1:Int) < 0 then _ else _) _ _ s
 rw [if_pos (by decide)]
 refine XJ (wpAny_rule ?_)
 refine XJ ?_
 refine XJ (Z5 ho hd (by simp) ?_)
 have sb1:Heap.SameBut it s.heap (s.heap.update it (Obj.mapFields (·.setIfInBounds 1 (rawInt (-1))))):=Z2 ..
 have ho2:=YM (Obj.mapFields (·.setIfInBounds 1 (rawInt (-1)))) ho (ZS (Zn hd _))
 refine Z5 ho2 (Zn hd _) (by simp) ?_
 have sb2:Heap.SameBut it (s.heap.update it (Obj.mapFields (·.setIfInBounds 1 (rawInt (-1))))) ((s.heap.update it (Obj.mapFields (·.setIfInBounds 1 (rawInt (-1))))).update it (Obj.mapFields (·.setIfInBounds 0 .none))):=Z2 ..
 have eb:Heap.ExtBut it s.heap ((s.heap.update it (Obj.mapFields (·.setIfInBounds 1 (rawInt (-1))))).update it (Obj.mapFields (·.setIfInBounds 0 .none))):=sb1.extBut.trans sb2.extBut
 show wpAny _ _ _ _ _ {s with heap:=((s.heap.update it (Obj.mapFields (·.setIfInBounds 1 (rawInt (-1))))).update it (Obj.mapFields (·.setIfInBounds 0 .none)))}
 generalize ((s.heap.update it (Obj.mapFields (·.setIfInBounds 1 (rawInt (-1))))).update it (Obj.mapFields (·.setIfInBounds 0 .none)))=h2 at eb ⊢
 refine XJ ?_
 show wpAny _ _ (newExc (.type "StopIteration") [] >>=_) _ _ _
 refine XJ ?_
 simp only [newExc,newTuple]
 refine XJ (Y6 ?_ (by size_fits))
 refine XJ (m:=firstArgMember _ _) (Zq (a:=Value.none) (by first | rfl | (simp only [firstArgMember];rfl)) ?_)
 refine Y6 ?_ (by size_fits)
 simp only [raiseNew]
 refine XJ (wpAny_handled ?_)
 first | rw [show A.in1.handled=none from hh] | rw [hh]
 refine XJ (XS (wpAny_throw ?_))
 refine XJ (Aan (T:="StopIteration") (b:=true) ⟨_,X4 _ rfl,rfl⟩ isSubtype_stop ?_)
 exact XS (hQ _ ((eb.push _).push _))
theorem Al {it l:Addr} {i:Int} {Q:Value->Shared->Prop} (hit:IsRvd s.heap it l i) (h:Q (.ref it) s):wpAny (model prog w) A (pyIter (.ref it)) Q E s:=by
 refine wpAny_pyIter_slot hit.typeIs qD (Zh qD hit.typeIs vW ?_ (wF _))
 show wpAny _ _ (ret (.ref it)) _ _ s
 exact XS ⟨_,rfl,"reversed",_,hit.typeIs,iM.lookup,h⟩
end
def Vr (K:W.Frag) (a:Addr) (n:Nat):It:=
 ⟨fun i H=>i < n/\n < 2 ^ 62/\∃ xs,SqT K H a xs/\xs.length=n,
  fun i H v H'=>H'=H/\∀ xs,SqT K H a xs->xs[n - 1 - i]?=some v,
  fun i _=>i=n⟩
theorem KR {P:Program} {w:World} {K:W.Frag} {tg:Expr} {n:Nat} {it a:Addr} (hai:a≠it):
  Turn P w K tg (Vr K a n) [it] it (fun i h=>i<=n/\IsRvd h it a ((n:Int) - 1 - (i:Int))) where
 mem:=by simp
 obj:=fun i h st c hc=>by
  obtain ⟨_,⟨o1,e1,c1,d1⟩⟩:=st
  have e:c=it:=by simpa using hc
  subst e
  exact ⟨_,e1,fun v z=>by rw [d1] at z;cases z⟩
 keep:=fun i h h' st kk=>⟨st.1,st.2.at fun o q=>kk it (by simp) o q⟩
 item:=by
  intro X hP hw hK hc i pins s U H E I hf st hg
  subst hP hw hK
  obtain ⟨hi,h1⟩:=st
  obtain ⟨hlt,h62,xs,hq,hlen⟩:=hg
  obtain ⟨its,rv,p,_⟩:=I.tuple hq
  have l1:=rv.length
  obtain ⟨x,hx⟩:∃ x,xs[n - 1 - i]?=some x:=⟨_,XR (by omega)⟩
  obtain ⟨u,hu,ru⟩:=rv.get hx
  obtain ⟨f0,f1,f2,f3,f4,f5⟩:=hf it (by simp)
  have e:(n:Int) - 1 - (i:Int)=((n - 1 - i:Nat):Int):=by omega
  rw [e] at h1
  refine KQ h1 p (x:=u) (by simpa using hu) (by simp;omega) fun h' k st' sb=>?_
  have I1:Inv X pins U H {s with heap:=h',toks:=k}:=I.turned (t':=k) (fun b o hb e=>(sb.2 b hb).trans e) f0 f1 f3 f4 f5
  obtain ⟨o,eo,c,d⟩:=id st'
  refine ⟨u,rfl,xf (s:={s with heap:=h',toks:=k}) eo c d (by decide) ⟨x,H,I1,ru,⟨rfl,fun ys hy=>by rw [I.tuple_inj hy hq];exact hx⟩,⟨hlt,?_⟩,fun b hb=>(hf b hb).1⟩⟩
  have e2:((n - 1 - i:Nat):Int) - 1=(n:Int) - 1 - ((i+1:Nat):Int):=by omega
  rw [← e2]
  exact st'
 done:=by
  intro X hP hw hK hc i pins s U H E I hf st hg
  subst hP hw hK
  obtain ⟨hi,h1⟩:=st
  have hin:i=n:=hg
  subst hin
  rw [show (i:Int) - 1 - (i:Int)= -1 by omega] at h1
  obtain ⟨f0,f1,f2,f3,f4,f5⟩:=hf it (by simp)
  exact Oz (I.ok.hd hc) h1 fun h' eb=>⟨rfl,I.turned (t':=s.toks) (fun b o hb e=>eb b o hb e) f0 f1 f3 f4 f5⟩
 self:=fun _ _ _ _ _ st h=>Al st.2 h
def QZ (K:W.Frag) (ta:TE):TI:=fun U H R=>ta U H fun x H1=>(∃ l xs,x= .ref l/\SqL K H1 l xs/\R (Vq K l xs.length) H1)\/∃ l xs,x= .ref l/\SqT K H1 l xs/\xs.length < 2 ^ 62/\R (Vr K l xs.length) H1
theorem OD {X:Cx} {K:W.Frag} {a tg:Expr} {ta:TE} {p pos:Pos} (hK:X.K=K) (hg:Gl X "reversed") (hm:X.mg "reversed"=none) (ha:JE X a ta) (h:autoParam (notStar a=true) L2.auto4._auto_1):
  JI X tg (.Call (.Name "reversed" p) [a] [] pos) (QZ K ta):=⟨by
 subst hK
 intro pins s U H R I hq
 refine Call_ (jj I hg hm o9 (Yu (arg1 h (fU (ha.run pins s U H _ I hq) fun u s1 qq0=>?_)) (cZ h) rfl))
 obtain ⟨x,H1,I1,rx,hx⟩:=qq0
 rcases hx with ⟨l,xs,ex,hx,q⟩ | ⟨l,xs,ex,hx,h62,q⟩
 ·subst ex
  cases rx
  obtain ⟨its,rv,ht,hz⟩:=I1.list hx
  have hlen:=rv.length
  have lt:l < s1.heap.objs.size:=by obtain ⟨o,ho,_⟩:=ht.isList;exact X5 ho
  refine call_reversed_list ht.isList ?_
  have e0:(s1.heap.push (PySem.revObj l ((its.toArray.size:Int) - 1))).get? s1.heap.objs.size=some (PySem.revObj l ((its.toArray.size:Int) - 1)):=X4 _ rfl
  have z2:(s1.heap.push (PySem.revObj l ((its.toArray.size:Int) - 1))).IsRevIter s1.heap.objs.size l ((xs.length:Int) - 1 - ((0:Nat):Int)):=⟨_,e0,rfl,by
   show Data.fields #[.ref l,rawInt ((its.toArray.size:Int) - 1)]=_
   rw [show ((its.toArray.size:Int) - 1)=(xs.length:Int) - 1 - ((0:Nat):Int) by rw [Yc];omega]⟩
  refine ZK z2 ?_
  refine ⟨s1.heap.objs.size,[s1.heap.objs.size],_,_,H1,rfl,I1.kept (t':=s1.toks) fun b o q=>XN _ q,KD (n:=xs.length) (Yy lt),⟨YT _,z2⟩,fun b hb=>?_,q⟩
  have e:b=s1.heap.objs.size:=by simpa using hb
  subst e
  exact I1.fpOk (XQ _) (I1.hok.fresh (XQ _))
 ·subst ex
  cases rx
  obtain ⟨its,rv,ht,hz⟩:=I1.tuple hx
  have hlen:=rv.length
  have lt:l < s1.heap.objs.size:=by obtain ⟨o,ho,_⟩:=id ht;exact X5 ho
  refine KN ht (by simp;omega) fun k=>?_
  have e0:(s1.heap.push (qM l ((its.toArray.size:Int) - 1))).get? s1.heap.objs.size=some (qM l ((its.toArray.size:Int) - 1)):=X4 _ rfl
  have z2:IsRvd (s1.heap.push (qM l ((its.toArray.size:Int) - 1))) s1.heap.objs.size l ((xs.length:Int) - 1 - ((0:Nat):Int)):=⟨_,e0,rfl,by
   show Data.fields #[.ref l,rawInt ((its.toArray.size:Int) - 1)]=_
   rw [show ((its.toArray.size:Int) - 1)=(xs.length:Int) - 1 - ((0:Nat):Int) by rw [Yc];omega]⟩
  refine Al z2 ?_
  refine ⟨s1.heap.objs.size,[s1.heap.objs.size],_,_,H1,rfl,I1.kept (t':=k) fun b o q=>XN _ q,KR (n:=xs.length) (Yy lt),⟨YT _,z2⟩,fun b hb=>?_,q⟩
  have e:b=s1.heap.objs.size:=by simpa using hb
  subst e
  exact I1.fpOk (XQ _) (I1.hok.fresh (XQ _))⟩
section
variable {K:W.Frag} {U:St} {H:Hp}
theorem KY {ta:TE} {R:It->Hp->Prop} (h:ta U H fun x H1=>(∃ l xs,x= .ref l/\SqL K H1 l xs/\R (Vq K l xs.length) H1)\/∃ l xs,x= .ref l/\SqT K H1 l xs/\xs.length < 2 ^ 62/\R (Vr K l xs.length) H1):QZ K ta U H R:=h
theorem OJ {a:Addr} {xs:List V} {g:TG} {tb:TS} {D:Ends} (Pv:Nat->St->Hp->Prop) (h0:Pv 0 U H) (hl:∀ i U H,i<=xs.length->Pv i U H->SqL K H a xs)
  (hs:∀ i x U H,i < xs.length->xs[xs.length - 1 - i]?=some x->Pv i U H->g x U H fun σ2 H2=>tb {D with nx:=Pv (i+1),ct:=Pv (i+1),bk:=D.nx} σ2 H2) (hd:∀ U H,Pv xs.length U H->D.nx U H):
  ∃ W:Nat->Nat->St->Hp->Prop,(∃ m,W 0 m U H)/\∀ i m U H,W i m U H->
   ((Vq K a xs.length).stop i H/\D.nx U H)\/((Vq K a xs.length).go i H/\∃ N:St->Hp->Prop,(∀ U' H',N U' H'->∃ m',m' < m/\W (i+1) m' U' H')/\∀ x H',(Vq K a xs.length).yld i H x H'->g x U H' fun σ2 H2=>tb {D with nx:=N,ct:=N,bk:=D.nx} σ2 H2):=by
 refine ⟨fun i m U H=>m=xs.length - i/\i<=xs.length/\Pv i U H,⟨xs.length,by simp,YT _,h0⟩,?_⟩
 rintro i m U H ⟨rfl,hi,p⟩
 have hq:=hl i U H hi p
 by_cases hlt:i < xs.length
 ·refine .inr ⟨⟨hlt,xs,hq,rfl⟩,Pv (i+1),fun U' H' h=>⟨xs.length - (i+1),by omega,rfl,by omega,h⟩,fun x H' y=>?_⟩
  obtain ⟨rfl,hy⟩:=y
  exact hs i x U _ hlt (hy xs hq) p
 ·obtain rfl:i=xs.length:=by omega
  exact .inl ⟨rfl,hd U H p⟩
theorem O1 {a:Addr} {xs:List V} {g:TG} {tb:TS} {D:Ends} (h62:xs.length < 2 ^ 62) (Pv:Nat->St->Hp->Prop) (h0:Pv 0 U H) (hl:∀ i U H,i<=xs.length->Pv i U H->SqT K H a xs)
  (hs:∀ i x U H,i < xs.length->xs[xs.length - 1 - i]?=some x->Pv i U H->g x U H fun σ2 H2=>tb {D with nx:=Pv (i+1),ct:=Pv (i+1),bk:=D.nx} σ2 H2) (hd:∀ U H,Pv xs.length U H->D.nx U H):
  ∃ W:Nat->Nat->St->Hp->Prop,(∃ m,W 0 m U H)/\∀ i m U H,W i m U H->
   ((Vr K a xs.length).stop i H/\D.nx U H)\/((Vr K a xs.length).go i H/\∃ N:St->Hp->Prop,(∀ U' H',N U' H'->∃ m',m' < m/\W (i+1) m' U' H')/\∀ x H',(Vr K a xs.length).yld i H x H'->g x U H' fun σ2 H2=>tb {D with nx:=N,ct:=N,bk:=D.nx} σ2 H2):=by
 refine ⟨fun i m U H=>m=xs.length - i/\i<=xs.length/\Pv i U H,⟨xs.length,by simp,YT _,h0⟩,?_⟩
 rintro i m U H ⟨rfl,hi,p⟩
 have hq:=hl i U H hi p
 by_cases hlt:i < xs.length
 ·refine .inr ⟨⟨hlt,h62,xs,hq,rfl⟩,Pv (i+1),fun U' H' h=>⟨xs.length - (i+1),by omega,rfl,by omega,h⟩,fun x H' y=>?_⟩
  obtain ⟨rfl,hy⟩:=y
  exact hs i x U _ hlt (hy xs hq) p
 ·obtain rfl:i=xs.length:=by omega
  exact .inl ⟨rfl,hd U H p⟩
end
end L2
namespace L2
open PySem PySem.W PySem.Spec PyProof.Rows
section
variable {X:Cx}
theorem xQ:∀ {as:List Addr} {its:List Value},Vals (as.map V.ref) its->its=as.map Value.ref
 | [],_,h=>by cases h;rfl
 | a :: as,_,h=>by
  cases h with
  | cons h1 h2=>
   cases h1
   rw [xQ h2];rfl
end
end L2
namespace L2
open PySem PySem.Spec PyProof.Rows
section
variable {X:Cx} {N':List Str} {scope:Scope} {C:Addr} {s₀:Shared} {H₀:Hp} {ex:List Addr} {x:Str} {pos:Pos}
theorem WF (i:Nat) (h:scope.names.lookup x=some .cell) (hN:N'.Nodup) (hi:autoParam (N'[i]?=some x) L2.auto4._auto_1):JG (p8 X N' scope C s₀ H₀ ex) (.Name x pos) (o4 i):=
 ⟨yh hN hi (.inr (rH h)) (.inl (Yj h))⟩
end
theorem Ud {N:List Str} {sc:Scope} {N':List Str} {scope:Scope} {sub:List (Option Nat)} {env:Env} (S:qt N sc N' scope sub):qt N (relabel sc env) N' scope sub:=
 ⟨S.kind,S.cel,S.loc,fun x hx hk=>(S.free x hx hk).elim (fun h=>.inl (rH h)) (fun h=>nJ h),S.len,S.at_⟩
def Am:List V->Hp->VK->Prop:=fun xs H Q=>(∃ i j,xs=[.int i,.int j]/\Q (.int (if j < i then j else i)) H)\/(∃ i j k,xs=[.int i,.int j,.int k]/\∀ M,(M=i\/M=j\/M=k)->M<=i->M<=j->M<=k->Q (.int M) H)\/
 ∃ (p:Addr) (ns:List Int),xs=[.ref p]/\H p=some (.lst (ns.map V.int))/\ns≠[]/\∀ M,M∈ns->(∀ a∈ns,M<=a)->Q (.int M) H
section
variable {X:Cx}
theorem vals3 {v1 v2 v3:V} {us:List Value} (r:Vals [v1,v2,v3] us):∃ u1 u2 u3,us=[u1,u2,u3]/\RelV v1 u1/\RelV v2 u2/\RelV v3 u3:=by
 cases r with
 | cons a r=>cases r with
  | cons b r=>cases r with
   | cons c r=>
    cases r
    exact ⟨_,_,_,rfl,a,b,c⟩
theorem Hr (hc:X.calm=true):CallR X (.builtin "min") Am:=by
 intro pins s U H xs us Q I r h
 rcases h with h | ⟨i,j,k,rfl,q⟩ | ⟨p,ns,rfl,hp,hne,q⟩
 ·exact Gq hc pins s U H xs us Q I r h
 ·obtain ⟨u1,u2,u3,rfl,⟨t1,rfl⟩,⟨t2,rfl⟩,⟨t3,rfl⟩⟩:=vals3 r
  refine min_three_ints (I.ok.hd hc) fun h' tk hk=>?_
  have key:∀ (M:Int) (t:Tok),(M=i\/M=j\/M=k)->M<=i->M<=j->M<=k->EP X pins U Q (.int M t) {s with heap:=h',toks:=tk}:=fun M t h0 h1 h2 h3=>⟨.int M,H,I.kept hk,⟨t,rfl⟩,q M h0 h1 h2 h3⟩
  by_cases hba:j < i <;> by_cases hc1:k < j <;> by_cases hc2:k < i <;> simp only [hba,hc1,hc2,if_true,if_false] <;> exact key _ _ (by omega) (by omega) (by omega) (by omega)
 ·obtain ⟨u,rfl,ru⟩:=vals1 r
  cases ru
  obtain ⟨hz,its,n,rv,g⟩:=I.hok p _ hp
  have hi:IntsAre its ns:=intsAre_of rv
  have hl:=rv.length
  obtain ⟨ys,ey⟩:=hi.allInts.items
  have hn:=hi.numsOf
  have hsz:0 < ys.size:=by
   have e1:=congrArg Array.size ey
   have:0 < ns.length:=List.length_pos_iff.mpr hne
   rw [X8] at hl
   simp [intItems] at e1
   omega
  have hL:s.heap.IsList p (intItems ys):=⟨_,g,rfl,n,by rw [← ey]⟩
  have en:ys.toList.map (·.1)=ns:=by rw [← nums_intItems,← ey,← hn]
  refine min_intList (I.ok.hd hc) hL hsz fun v h' tk hv hk=>?_
  obtain ⟨t,rfl⟩:=intItems_at hv
  obtain ⟨h1,h2⟩:=argBest_lt (numAt ys) (ys.size - 1)
  refine ⟨.int _,H,I.kept hk,⟨t,rfl⟩,q _ ?_ fun a ha=>?_⟩
  ·rw [← en,numAt_eq];exact getD_mem (by rw [X8,Yv];omega)
  ·rw [← en] at ha
   obtain ⟨j,hj,rfl⟩:=mem_getD ha
   rw [X8,Yv] at hj
   rw [← numAt_eq];exact h2 j (by omega)
end
section
variable {H:Hp} {Q:VK}
theorem O2 {i j:Int} (h:Q (.int (if j < i then j else i)) H):Am [.int i,.int j] H Q:=.inl ⟨_,_,rfl,h⟩
theorem Ue {i j k:Int} (h:∀ M,(M=i\/M=j\/M=k)->M<=i->M<=j->M<=k->Q (.int M) H):Am [.int i,.int j,.int k] H Q:=.inr (.inl ⟨_,_,_,rfl,h⟩)
theorem Ug {p:Addr} {ns:List Int} (hp:H p=some (.lst (ns.map V.int))) (hne:ns≠[]) (h:∀ M,M∈ns->(∀ a∈ns,M<=a)->Q (.int M) H):Am [.ref p] H Q:=.inr (.inr ⟨p,ns,rfl,hp,hne,h⟩)
end
section
variable {sub:List (Option Nat)} {g:TG} {tt:TT} {te:TE} {U:St} {Q:VK} {H:Hp} {K:W.Frag} {a b:Addr} {xs ys:List V}
theorem Df (Pv:Nat->List V->Hp->Prop) (hn:xs.length<=sizeLine) (h0:Pv 0 [] H) (hl:∀ i zs H,Pv i zs H->zs.length<=i) (hq:∀ i zs H,Pv i zs H->SqL K H a xs)
  (hs:∀ i zs H T x,xs[i]?=some x->Pv i zs H->H T=none->g (.ref T) (fX sub U) (upd H T (.tup [.int i,x])) fun σ2 H2=>KeepSt (fX sub U) σ2/\tt σ2 H2 fun b H3=>if b=true then te σ2 H3 fun y H4=>Pv (i+1) (zs ++ [y]) H4 else Pv (i+1) zs H3)
  (hd:∀ zs H D H',Pv xs.length zs H->H D=none->Same H H'->H' D=some (.lst zs)->Q (.ref D) H'):uw sub g tt te U Q (Tw K a) H:=
 yt (n:=xs.length) Pv hn h0 hl (fun i zs H hi p=>⟨xs,xs[i],hq i zs H p,XR hi⟩) (fun zs H p=>⟨xs,hq _ zs H p,XQ _⟩) (fun i zs H x H' hi p y=>by
  obtain ⟨T,u,hT,e1,e2,e4⟩:=y
  subst e1 e4
  exact hs i zs H T u (e2 xs (hq i zs H p)) p hT) fun zs H p D nD=>hd zs H D _ p nD ((Same.refl H).upd nD) aj
end
end L2
namespace HT
open PySem PySem.Spec PyProof.Rows
section
variable {prog:Program} {w:World} {A:Around} {E:Value->Shared->Prop} {s:Shared}
theorem getItem_tuple_whole {t sl:Addr} {items:Array Value} {vl vu:Value} {lo hi:Option Int} {Q:Value->Shared->Prop} (ht:IsTup s.heap t items) (hs:s.heap.IsSliceOf sl vl vu .none) (pl:IsPart vl lo) (pu:IsPart vu hi)
  (hw:sIx items.size 0 lo=0/\sIx items.size items.size hi=items.size) (h:Q (.ref t) s):wpAny (model prog w) A (getItem (.ref t) (.ref sl)) Q E s:=by
 obtain ⟨os,hos,hcs,hds⟩:=id hs
 have hTs:s.TypeIs (.ref sl) "slice":=⟨os,hos,hcs⟩
 unfold getItem
 try with_reducible refine Y7 ?_
 first | refine XJ (XS ?_) | skip
 refine XJ (wpAny_sequenceKey ht.typeIs (by decide) ?_)
 refine XJ (Y0 (name:=Str.ofString "__getitem__") ht.typeIs ZC
  (Zh ZC ht.typeIs entry_tuple_getitem ?_ (args_tuple_getitem _ _)))
 show wpAny _ _ (Builtin.Tuple.tupleItemsOf (.ref t) >>=_) _ _ s
 refine XJ (tupleItemsOf_ ht ?_)
 refine XJ (wpAny_typeOf hTs ?_)
 rw [if_pos (by decide)]
 refine XJ (mV hs pl pu ?_)
 have hyes:((((sIx items.size 0 lo:Nat):Int) == 0 && (1:Int) == 1 && (sIx items.size items.size hi - sIx items.size 0 lo) == items.size)=true):=by
  rw [hw.1,hw.2];simp
 show wpAny _ _ (if (((sIx items.size 0 lo:Nat):Int) == 0 && (1:Int) == 1 && (sIx items.size items.size hi - sIx items.size 0 lo) == items.size)=true then _ else _) _ _ s
 rw [if_pos hyes]
 unfold Builtin.Tuple.tupleIsExact
 refine XJ (XJ (wpAny_typeOf ht.typeIs (XS ?_)))
 rw [if_pos (by decide)]
 exact XJ (wpAny_rule (XS ⟨_,rfl,XS h⟩))
end
end HT
namespace L2
open PySem PySem.Spec PyProof.Rows
section
variable {X:Cx}
def WK (K:W.Frag):V->Option Int->Option Int->Hp->VK->Prop:=fun x lo hi H Q=>∃ a xs,x= .ref a/\SqT K H a xs/\(HT.sIx xs.length 0 lo=0/\HT.sIx xs.length xs.length hi=xs.length)/\Q (.ref a) H
theorem O3:SlR X (WK X.K):=by
 intro pins s U H x v vl vu lo hi sl Q I rx hs pl pu h
 obtain ⟨a,xs,rfl,hx,hw,q⟩:=h
 cases rx
 obtain ⟨its,r,ht,hz⟩:=I.tuple hx
 have hlen:its.toArray.size=xs.length:=by rw [Yc];exact r.length.symm
 refine ⟨"tuple",_,PyProof.Rows.slot_tuple_getitem.lookup,ht.typeIs,?_⟩
 exact HT.getItem_tuple_whole ht hs pl pu (by rw [hlen];exact hw) ⟨.ref a,H,I,rfl,q⟩
def WL (K:W.Frag):V->Option Int->Option Int->Hp->VK->Prop:=fun x lo hi H Q=>Xq K x lo hi H Q\/WK K x lo hi H Q
theorem yJ {K:W.Frag} (hK:X.K=K):SlR X (WL K):=by
 subst hK
 exact Tc.or O3
end
section
variable {H:Hp} {Q:VK} {K:W.Frag} {p:Addr} {xs:List V} {lo hi:Option Int}
theorem KZ {x:Str} (hz:x.length<=sizeLine) (h:Q (.str (Txt.slice x lo hi)) H):WL K (.str x) lo hi H Q:=.inl (Wh hz h)
end
def WM (xs:Array Value) (c:Nat):Obj:={cls:=.type "list",dict:=none,data:=.seq xs c,slots:=#[]}
end L2
namespace L2
open PySem PySem.Spec PyProof.Rows
open PySem.Sem (wp)
open AutoSeq1 (wpAny_loadPart')
end L2
namespace L2
open PySem PySem.Spec PyProof.Rows
section
open PySem.SeqAt PySem.MeetsSeq PySem.MeetsSeq2 PySem.MeetsSeq3
open PySem.AutoSeq1 (wpAny_loadPart')
end
section
variable {X:Cx} {K:W.Frag}
variable {a b c d:Expr} {ta tb tc td:TE} {pos:Pos}
def Fp (r r' r2:R2) (ta tb tc td:TE):TE:=fun U H Q=>ta U H fun x H1=>tb U H1 fun y H2=>r x y H2 fun z H3=>∃ k,z= .bl k/\
 (if k=true then tc U H3 fun w' H4=>r' y w' H4 fun z' H5=>∃ k',z'= .bl k'/\(if k'=true then td U H5 fun e' H6=>r2 w' e' H6 Q else Q (.bl false) H5) else Q (.bl false) H3)
theorem Hs {op op' op2:CmpOp} {r r' r2:R2} (ho:OpR X (compareOp op) r) (ho':OpR X (compareOp op') r') (ho2:OpR X (compareOp op2) r2) (ha:JE X a ta) (hb:JE X b tb) (hc:JE X c tc) (hd:JE X d td)
  (hm:autoParam (lastMarks [op,op',op2] [b,c,d]=false) L2.auto5._auto_1):JT X (.Compare a [op,op',op2] [b,c,d] pos) (DX (Fp r r' r2 ta tb tc td)):=⟨by
 intro pins s U H Q I h
 refine isTrue_chain (fU (ha.run pins s U H _ I h) fun v s1 ⟨x,H1,I1,r1,q1⟩=>test_link (fU (hb.run pins s1 U H1 _ I1 q1) fun u s2 ⟨y,H2,I2,r2',q2⟩=>
  fU (ho pins s2 U H2 x y v u _ I2 r1 r2' q2) fun d1 s3 ⟨z,H3,I3,r3,k,e,q3⟩=>?_)) hm
 subst e
 cases r3
 refine Ze ?_
 cases k with
 | false=>
  obtain ⟨k',e',q'⟩:=q3
  cases e'
  exact ite_ff ⟨H3,I3,q'⟩
 | true=>
  refine ite_tt (test_link (fU (hc.run pins s3 U H3 _ I3 q3) fun w' s4 ⟨z',H4,I4,r4,q4⟩=>fU (ho' pins s4 U H4 y z' u w' _ I4 r2' r4 q4) fun d' s5 qq0=>?_))
  obtain ⟨z2,H5,I5,r5,k2,e2,q5⟩:=qq0
  subst e2
  cases r5
  refine Ze ?_
  cases k2 with
  | false=>
   obtain ⟨k',e',q'⟩:=q5
   cases e'
   exact ite_ff ⟨H5,I5,q'⟩
  | true=>
   refine ite_tt (test_last (fU (hd.run pins s5 U H5 _ I5 q5) fun w2 s6 ⟨z3,H6,I6,r6,q6⟩=>fU (ho2 pins s6 U H6 z' z3 w' w2 _ I6 r4 r6 q6) fun d3 s7 qq0=>?_))
   obtain ⟨z4,H7,I7,r7,k4,e4,q7⟩:=qq0
   subst e4
   cases r7
   exact Ze ⟨H7,I7,q7⟩⟩
end
section
variable {H:Hp} {Q:VK} {K:W.Frag} {U:St}
theorem An {r r' r2:R2} {ta tb tc td:TE} (h:ta U H fun x H1=>tb U H1 fun y H2=>r x y H2 fun z H3=>∃ k,z= .bl k/\
 (if k=true then tc U H3 fun w' H4=>r' y w' H4 fun z' H5=>∃ k',z'= .bl k'/\(if k'=true then td U H5 fun e' H6=>r2 w' e' H6 Q else Q (.bl false) H5) else Q (.bl false) H3)):Fp r r' r2 ta tb tc td U H Q:=h
end
section
variable {X:Cx} {pins:List (Addr×Obj)} {U:St} {H0:Hp} {p It S f:Addr} {d:Value} {as:List Addr} {kf:Nat->List Int} {R:Result->Shared->Prop} {fo:Obj}
theorem Ht {H:Hp} {s:Shared} (I:Inv X pins U H s) (hp:H p=some (.lst (as.map V.ref))):s.heap.IsList p (as.map Value.ref).toArray:=by
 obtain ⟨_,its,n,rv,g⟩:=I.hok p _ hp
 rw [xQ rv] at g
 exact ⟨_,g,rfl,n,rfl⟩
end
section
variable {X:Cx} {x:Str} {pos:Pos} {sc:Scope}
theorem aq (i:Nat) (h:autoParam (X.env.scope.names.lookup x=some .local) L2.auto7._auto_1) (hN:autoParam (X.N[i]?=some x) L2.auto4._auto_1) (hd:autoParam ((x == ("__debug__":Str))=false) L2.auto6._auto_1) (hcd:autoParam ((x == ("__classdict__":Str))=false) L2.auto6._auto_1):JE X (.Name x pos) (oY i):=Cr i h hN rfl hd hcd
theorem aX (i:Nat) (h:autoParam (X.env.scope.names.lookup x=some .cell) L2.auto7._auto_1) (hN:autoParam (X.N[i]?=some x) L2.auto4._auto_1) (hd:autoParam ((x == ("__debug__":Str))=false) L2.auto6._auto_1) (hcd:autoParam ((x == ("__classdict__":Str))=false) L2.auto6._auto_1):JE X (.Name x pos) (oY i):=j_vC i h hN rfl hd hcd
theorem aM (h:autoParam (X.env.scope.names.lookup x=some .globalImplicit) L2.auto7._auto_1):Gl X x:=h
theorem fW (h:autoParam (sc.names.lookup x=some .local) L2.auto7._auto_1):Loc sc x:=.inl h
theorem Mq (h:autoParam (sc.names.lookup x=some .cell) L2.auto7._auto_1):Loc sc x:=.inr h
end
def ltV:V->V->Bool
 | .int a,.int b=>decide (a < b)
 | .str a,.str b=>decide (a.cps.toList < b.cps.toList)
 | _,_=>false
def uK:List V->List V->Bool
 | x :: xs,y :: ys=>if x=y then uK xs ys else ltV x y
 | _,_=>false
inductive SameK:List V->List V->Prop
 | nil:SameK [] []
 | int {a b:Int} {xs ys:List V}:SameK xs ys->SameK (.int a :: xs) (.int b :: ys)
 | str {a b:Str} {xs ys:List V}:SameK xs ys->SameK (.str a :: xs) (.str b :: ys)
theorem SameK.hd {x y:V} {xs ys:List V} (h:SameK (x :: xs) (y :: ys)):SameK [x] [y]/\SameK xs ys:=by
 cases h with
 | int h=>exact ⟨.int .nil,h⟩
 | str h=>exact ⟨.str .nil,h⟩
theorem O4 (x:V):ltV x x=false:=by
 cases x <;> simp [ltV]
theorem Hu {x y z:V} (h1:ltV x y=true) (h2:ltV y z=true):ltV x z=true:=by
 cases x <;> cases y <;> simp only [ltV,Z6,Aab] at h1 <;> cases z <;> simp only [ltV,Z6,Aab] at h2 ⊢
 ·exact Int.lt_trans h1 h2
 ·exact List.lt_trans h1 h2
theorem Fq:∀ xs:List V,uK xs xs=false
 | []=>rfl
 | x :: xs=>by
  show (if x=x then uK xs xs else ltV x x)=false
  rw [if_pos rfl];exact Fq xs
theorem xR:∀ {xs ys zs:List V},uK xs ys=true->uK ys zs=true->uK xs zs=true
 | [],_,_,h1,_=>by simp [uK] at h1
 | _ :: _,[],_,h1,_=>by simp [uK] at h1
 | _ :: _,_ :: _,[],_,h2=>by simp [uK] at h2
 | x :: xs,y :: ys,z :: zs,h1,h2=>by
  simp only [uK] at h1 h2 ⊢
  by_cases e1:x=y
  ·subst e1
   rw [if_pos rfl] at h1
   by_cases e2:x=z
   ·subst e2
    rw [if_pos rfl] at h2 ⊢
    exact xR h1 h2
   ·rw [if_neg e2] at h2 ⊢;exact h2
  ·rw [if_neg e1] at h1
   by_cases e2:y=z
   ·subst e2
    rw [if_neg e1];exact h1
   ·rw [if_neg e2] at h2
    have h3:=Hu h1 h2
    rw [if_neg (fun z=>by rw [z,O4] at h3;cases h3)]
    exact h3
theorem Uh {x y:V} (h:SameK [x] [y]):kZ x=true/\kZ y=true/\zx x y=decide (x=y):=by
 cases h with
 | @int a b _ _ _=>
  refine ⟨rfl,rfl,?_⟩
  show (a == b)=_
  by_cases h:a=b <;> simp [h]
 | @str a b _ _ _=>
  refine ⟨rfl,rfl,?_⟩
  show (a == b)=_
  by_cases h:a=b <;> simp [h]
section
open PySem.SeqAt PySem.MeetsSeq PySem.MeetsSeq2 PySem.MeetsSeq3
open PySem.AutoSeq1 (wpAny_loadPart')
theorem O5 {x y:V} {u v:Value} (h:SameK [x] [y]) (ru:RelV x u) (rv:RelV y v) (A:Around) (s:Shared) (prog:Program) (w:World) (E:Value->Shared->Prop) (Q:Value->Shared->Prop) (q:Q (.bool (ltV x y)) s):
  wpAny (model prog w) A (richCompare .Lt u v) Q E s:=by
 cases h with
 | int _=>
  obtain ⟨t,rfl⟩:=ru
  obtain ⟨t',rfl⟩:=rv
  exact (PyProof.Rows.lt_int q:wpAny (model prog w) A (compareOp .Lt _ _) Q E s)
 | str _=>
  obtain ⟨t,rfl⟩:=ru
  obtain ⟨t',rfl⟩:=rv
  exact (PyProof.Rows.lt_str q:wpAny (model prog w) A (compareOp .Lt _ _) Q E s)
theorem vX (l b:Addr) (us ws:Array Value) (n n2:Nat) (dd dd2:Option Addr) (sl sl2:Array (Option Value)) (xs ys:List V) (hi:Vals xs us.toList) (hj:Vals ys ws.toList) (hk:SameK xs ys):
  Meets (Builtin.«tuple.__lt__» ⟨[.ref l,.ref b],[]⟩)
   (fun _ R s=>s.heap.get? l=some {cls:=.type "tuple",dict:=dd,data:=.seq us n,slots:=sl}/\s.heap.get? b=some {cls:=.type "tuple",dict:=dd2,data:=.seq ws n2,slots:=sl2}/\
    R (.ok (.ret (.bool (uK xs ys)))) s):=
 .of_wp fun prog w A R s h=>by
  obtain ⟨hp,g,d,tk,os⟩:=s;obtain ⟨hl,hb,h⟩:=h
  have f2:=AutoSeq1.sub_tuple_tuple
  have lk:∀ {as bs:List V},SameK as bs->as.length=bs.length:=fun h=>by
   induction h with
   | nil=>rfl
   | int _ ih=>simp [ih]
   | str _ ih=>simp [ih]
  have z1:us.size=ws.size:=by
   have e1:=hi.length
   have e2:=hj.length
   simp only [Yv] at e1 e2
   rw [← e1,← e2,lk hk]
  wp_walk using wpAny_loadPart' hl,wpAny_loadPart' hb,wpAny_forIn_list _ (fun rest st s'=>st.1=none/\s'=⟨hp,g,d,tk,os⟩/\∃ (va wa:List Value) (na ma:List V),rest=va.zip wa/\
   Vals na va/\Vals ma wa/\SameK na ma/\R (.ok (.ret (.bool (uK na ma)))) ⟨hp,g,d,tk,os⟩) _
  case turn=>
   rintro ⟨y,x⟩ rest st s' ⟨hst,rfl,va,wa,na,ma,hz,hva,hwa,hsk,hR⟩
   cases hva with
   | nil=>rw [List.zip_nil_left] at hz;cases hz
   | cons ru hva'=>
    cases hwa with
    | nil=>rw [List.zip_nil_right] at hz;cases hz
    | cons rv hwa'=>
     rw [List.zip_cons_cons] at hz
     injection hz with hyx hrest
     injection hyx with hy hx
     subst hy hx
     obtain ⟨hh,hsk'⟩:=SameK.hd hsk
     simp only [uK] at hR
     obtain ⟨f1,f2',e⟩:=Uh hh
     have he:=sW (A:=A.in1) (s:=⟨hp,g,d,tk,os⟩) ru rv f1 f2'
     rw [e] at he
     refine XJ (he prog w _ _ ?_)
     split at hR
     ·rename_i e
      rw [Yj e]
      wp_walk
      exact ⟨rfl,rfl,_,_,_,_,hrest,hva',hwa',hsk',hR⟩
     ·rename_i e
      rw [Yl e]
      have hri:=O5 hh ru rv A.in1 ⟨hp,g,d,tk,os⟩ prog w
      wp_walk using hri
      exact ⟨_,rfl,by simpa using hR⟩
  case fin=>
   rintro ⟨b1,b2⟩ s' ⟨hst,rfl,va,wa,na,ma,hz,hva,hwa,hsk,hR⟩
   simp only at hst
   subst hst
   have hv:uK na ma=decide (us.size < ws.size):=by
    rw [z1,Yl (by omega)]
    cases hsk with
    | nil=>rfl
    | int _=>
     cases hva;cases hwa
     rw [List.zip_cons_cons] at hz
     cases hz
    | str _=>
     cases hva;cases hwa
     rw [List.zip_cons_cons] at hz
     cases hz
   rw [hv] at hR
   wp_walk
   exact ⟨_,rfl,by simpa [Builtin.Tuple.tupleCompareSizes] using hR⟩
  case h=>
   exact ⟨rfl,rfl,us.toList,ws.toList,xs,ys,rfl,hi,hj,hk,h⟩
end
theorem pC {A:Around} (h:A.units+64 < cLine):A.in1.units < cLine:=by
 have:A.in1.units=A.units+1:=rfl
 omega
abbrev mnp (I S:Addr):Code:=.builtin "min.loop" ⟨[.ref I,.none,.ref S],[]⟩
def Ui (prog:Program) (w:World) (A:Around) (G:Heap->Prop) (P:Nat->Value->Prop) (bt:Nat->Nat->Bool):Prop:=
 ∀ (i j:Nat) (vi vj:Value) (s:Shared) (Q E:Value->Shared->Prop),G s.heap->P i vi->P j vj->Q (.bool (bt i j)) s->wpAny (model prog w) A (richCompare .Lt vi vj) Q E s
section
variable {prog:Program} {w:World} {A:Around} {R:Result->Shared->Prop} {I S:Addr} {fp wr:List Addr} {n:Nat} {P:Nat->Value->Prop} {St:Nat->Heap->Prop} {bt:Nat->Nat->Bool} {G:Heap->Prop}
theorem O6 (W:Walks prog w A.in1 I fp wr n P St) (hcmp:Ui prog w A.in1 G P bt) (hSf:S ∉ fp) (hG:∀ h h':Heap,G h->(∀ b o,b ∉ wr->b≠S->h.get? b=some o->h'.get? b=some o)->G h'):∀ (k j:Nat) (s:Shared) (v:Value) (c:Nat),j+k+1=n->St (j+1) s.heap->G s.heap->P (argBest bt j) v->s.heap.get? S=some (WM #[v,v] c)->
  (∀ v h' tk,P (argBest bt (n - 1)) v->(∀ b o,b ∉ wr->b≠S->s.heap.get? b=some o->h'.get? b=some o)->R (.ok (.ret v)) {s with heap:=h',toks:=tk})->codeAny (model prog w) A (mnp I S) R s:=by
 have hSw:S ∉ wr:=fun h=>hSf (W.sub _ h)
 have nm:(toString "min" ++ toString ".loop":String)="min.loop":=by decide
 intro k
 induction k with
 | zero=>
  intro j s v c e hst hg hv hS hR
  refine codeAny_builtin F.entry_min_loop ?_
  rw [Aak ZM _]
  show wpAny _ A.in1 (seqItems? (.ref S) >>=_) _ _ s
  refine XJ (Zv hS rfl ?_)
  show wpAny _ A.in1 (tryCatch (pyNext (.ref I)) _ >>=_) _ _ s
  have e':j+1=n:=e
  refine XJ (wpAny_tryCatch (W.done s _ _ (e' ▸ hst) fun h' tk kp=>?_))
  refine XJ (m:=updateSeq S fun _=>#[]) ?_
  refine wpAny_updateSeq (kp S _ hSw hS) rfl (XJ (wpAny_letGo (XS (hR v _ tk ?_ fun b o n1 n2 q=>?_))))
  ·rw [← e'];exact hv
  ·exact (YB _ _ (Ne.symm n2)).trans (kp b o n1 q)
 | succ k ih=>
  intro j s v c e hst hg hv hS hR
  refine codeAny_builtin F.entry_min_loop ?_
  rw [Aak ZM _]
  show wpAny _ A.in1 (seqItems? (.ref S) >>=_) _ _ s
  refine XJ (Zv hS rfl ?_)
  show wpAny _ A.in1 (tryCatch (pyNext (.ref I)) _ >>=_) _ _ s
  refine XJ (wpAny_tryCatch (W.item (j+1) s _ _ (by omega) hst fun u h' tk hu hst' kp=>?_))
  have hS':=kp S _ hSw hS
  have hg':G h':=hG _ _ hg fun b o n1 _ q=>kp b o n1 q
  show wpAny _ A.in1 (tryCatch (holding [u,u] (richCompare .Lt u v >>=_)) _ >>=_) _ _ _
  refine XJ (wpAny_tryCatch (Y7 (XJ (hcmp (j+1) (argBest bt j) u v _ _ _ hg' hu hv ?_))))
  refine XJ (Y7 (Ze (XJ (wpAny_letGo (XS ?_)))))
  have eb:argBest bt (j+1)=if bt (j+1) (argBest bt j) then j+1 else argBest bt j:=rfl
  cases hb:bt (j+1) (argBest bt j) with
  | true=>
   rw [hb,if_pos rfl] at eb
   rw [if_pos rfl]
   refine XJ (wpAny_updateSeq hS' rfl (XJ (wpAny_letGo ?_)))
   rw [nm]
   refine XS ⟨Aaq ZM _,ih (j+1) _ u _ (by omega) (W.frame _ _ _ hst' fun b hf o q=>?_) (hG _ _ hg' fun b o n1 n2 q=>?_) (by rw [eb];exact hu) (YM _ hS' rfl) fun v' h2 tk2 hv' k2=>hR v' h2 tk2 hv' fun b o n1 n2 q=>?_⟩
   ·exact (YB _ _ (fun z:S=b=>hSf (z ▸ hf))).trans q
   ·exact (YB _ _ (Ne.symm n2)).trans q
   ·exact k2 b o n1 n2 ((YB _ _ (Ne.symm n2)).trans (kp b o n1 q))
  | false=>
   rw [hb,if_neg (by decide)] at eb
   rw [if_neg (by decide)]
   refine XJ (wpAny_letGo ?_)
   rw [nm]
   exact XS ⟨Aaq ZM _,ih (j+1) _ v c (by omega) hst' hg' (by rw [eb];exact hv) hS' fun v' h2 tk2 hv' k2=>hR v' h2 tk2 hv' fun b o n1 n2 q=>k2 b o n1 n2 (kp b o n1 q)⟩
theorem Dg (W:Walks prog w A.in1 I fp wr n P St) (hcmp:Ui prog w A.in1 G P bt) (hSf:S ∉ fp) (hG:∀ h h':Heap,G h->(∀ b o,b ∉ wr->b≠S->h.get? b=some o->h'.get? b=some o)->G h') {s:Shared} {c:Nat} (hst:St 0 s.heap) (hg:G s.heap) (hS:s.heap.get? S=some (WM #[] c)) (hn:0 < n)
  (hR:∀ v h' tk,P (argBest bt (n - 1)) v->(∀ b o,b ∉ wr->b≠S->s.heap.get? b=some o->h'.get? b=some o)->R (.ok (.ret v)) {s with heap:=h',toks:=tk}):codeAny (model prog w) A (mnp I S) R s:=by
 have hSw:S ∉ wr:=fun h=>hSf (W.sub _ h)
 have nm:(toString "min" ++ toString ".loop":String)="min.loop":=by decide
 refine codeAny_builtin F.entry_min_loop ?_
 rw [Aak ZM _]
 show wpAny _ A.in1 (seqItems? (.ref S) >>=_) _ _ s
 refine XJ (Zv hS rfl ?_)
 show wpAny _ A.in1 (tryCatch (pyNext (.ref I)) _ >>=_) _ _ s
 refine XJ (wpAny_tryCatch (W.item 0 s _ _ (by omega) hst fun u h' tk hu hst' kp=>?_))
 have hS':=kp S _ hSw hS
 show wpAny _ A.in1 (updateSeq S (fun _=>#[u,u]) >>=_) _ _ _
 refine XJ (wpAny_updateSeq hS' rfl ?_)
 rw [nm]
 refine XS ⟨Aaq ZM _,O6 W hcmp hSf hG (n - 1) 0 _ u _ (by omega) (W.frame _ _ _ hst' fun b hf o q=>?_) (hG _ _ hg fun b o n1 n2 q=>?_) hu (YM _ hS' rfl) fun v' h2 tk2 hv' k2=>hR v' h2 tk2 hv' fun b o n1 n2 q=>?_⟩
 ·exact (YB _ _ (fun z:S=b=>hSf (z ▸ hf))).trans q
 ·exact (YB _ _ (Ne.symm n2)).trans (kp b o n1 q)
 ·exact k2 b o n1 n2 ((YB _ _ (Ne.symm n2)).trans (kp b o n1 q))
theorem Hv (a:Value):argsOk "min" ⟨[a],[]⟩:=by unfold argsOk;kernel_rfl
theorem xT {E:Value->Shared->Prop} {s:Shared} {p:Addr} {its:List Value} {Q:Value->Shared->Prop} (hh:A.handled=none) (hl:s.heap.IsList p its.toArray) (hn:its≠[])
  (hcmp:Ui prog w A.in1 G (fun i v=>its[i]?=some v) bt) (hg:G s.heap) (hG:∀ h h':Heap,G h->(∀ b o,b < s.heap.objs.size->h.get? b=some o->h'.get? b=some o)->G h')
  (q:∀ v h' tk,its[argBest bt (its.length - 1)]?=some v->(∀ b o,s.heap.get? b=some o->h'.get? b=some o)->Q v {s with heap:=h',toks:=tk}):
  wpAny (model prog w) A (call (.builtin "min") [.ref p]) Q E s:=by
 have nm:(toString "min" ++ toString ".loop":String)="min.loop":=by decide
 refine kmk_tree F.kind_min F.plain_min F.entry_min (Hv _) ?_
 show wpAny _ A.in1 (Builtin.Builtins.bindParams "min" ["key","default"] 0 ⟨[],[]⟩ >>=_) _ _ s
 refine XJ (Zq (show Builtin.Builtins.bindParams "min" ["key","default"] 0 ⟨[],[]⟩=pure [none,none] from rfl) ?_)
 refine XJ (XS ?_)
 obtain ⟨ol,hol,holr⟩:=id hl
 have hll:p < s.heap.objs.size:=X5 hol
 refine XJ (wpAny_pyIter_list hl ?_)
 refine XJ (wpAny_newList ?_ (YT _))
 rw [nm]
 have sz:∀ o:Obj,(s.heap.push o).objs.size=s.heap.objs.size+1:=fun o=>YW ..
 have lt:∀ {b o},s.heap.get? b=some o->b < s.heap.objs.size:=fun e=>X5 e
 have szl:its.toArray.size=its.length:=by simp
 refine XS ⟨Aaq ZM _,Dg (Walks.list (prog:=prog) (w:=w) (A:=A.in1) hh _ p (Yy hll) its.toArray) (bt:=bt) (G:=G) (fun i j vi vj s' Q' E' g' h1 h2 q'=>hcmp i j vi vj s' Q' E' g' (by simpa using h1) (by simpa using h2) q') ?_ (fun h h' g kp=>hG _ _ g fun b o hb e=>kp b o ?_ ?_ e) ⟨⟨_,XN _ (X4 _ rfl),rfl,rfl⟩,⟨ol,XN _ (XN _ hol),holr⟩⟩ (hG _ _ hg fun b o hb e=>XN _ (XN _ e)) (X4 _ rfl) (by rw [szl];exact List.length_pos_iff.mpr hn) fun v h' tk hv kp=>?_⟩
 ·intro hm
  rcases X7.mp hm with z | z
  ·have z':(s.heap.push _).objs.size=s.heap.objs.size:=z
   rw [sz] at z';omega
  ·have z':(s.heap.push _).objs.size=p:=YD.mp z
   rw [sz] at z'
   have hll': @LT.lt Nat _ p s.heap.objs.size:=hll
   omega
 ·exact fun z=>by
   have z': @Eq Nat b s.heap.objs.size:=YD.mp z
   omega
 ·exact fun z=>by
   have z': @Eq Nat b (s.heap.push _).objs.size:=z
   rw [sz] at z';omega
 ·refine q v h' tk (by rw [← szl];exact (by simpa using hv)) fun b o e=>kp b o (fun z=>?_) (fun z=>?_) (XN _ (XN _ e))
  ·have hb': @LT.lt Nat _ b s.heap.objs.size:=lt e
   have z': @Eq Nat b s.heap.objs.size:=YD.mp z
   omega
  ·have hb': @LT.lt Nat _ b s.heap.objs.size:=lt e
   have z': @Eq Nat b (s.heap.push _).objs.size:=z
   rw [sz] at z';omega
end
theorem pG {bt:Nat->Nat->Bool} {n:Nat} (irr:∀ i,i<=n->bt i i=false) (tr:∀ i j k,i<=n->j<=n->k<=n->bt i j=true->bt j k=true->bt i k=true):∀ k,k<=n->argBest bt k<=k/\∀ j,j<=k->bt j (argBest bt k)=false
 | 0,_=>⟨XQ _,fun j hj=>by
  have:j=0:=by omega
  subst this;exact irr 0 (YT _)⟩
 | k+1,hk=>by
  obtain ⟨h1,h2⟩:=pG irr tr k (by omega)
  have eb:argBest bt (k+1)=if bt (k+1) (argBest bt k) then k+1 else argBest bt k:=rfl
  cases hb:bt (k+1) (argBest bt k) with
  | true=>
   rw [hb,if_pos rfl] at eb
   rw [eb]
   refine ⟨XQ _,fun j hj=>?_⟩
   by_cases e:j=k+1
   ·subst e;exact irr _ hk
   ·cases h:bt j (k+1) with
    | false=>rfl
    | true=>
     have:=tr _ _ _ (by omega) hk (by omega) h hb
     rw [h2 j (by omega)] at this;cases this
  | false=>
   rw [hb,if_neg (by decide)] at eb
   rw [eb]
   refine ⟨by omega,fun j hj=>?_⟩
   by_cases e:j=k+1
   ·subst e;exact hb
   ·exact h2 j (by omega)
def xU (K:W.Frag):List V->Hp->VK->Prop:=fun xs H Q=>Am xs H Q\/
 (∃ (p:Addr) (ts:List Str),xs=[.ref p]/\H p=some (.lst (ts.map V.str))/\ts≠[]/\∀ M,M∈ts->(∀ a∈ts,¬ a.cps.toList < M.cps.toList)->Q (.str M) H)\/
 ∃ (p:Addr) (as:List Addr) (ks:Nat->List V),xs=[.ref p]/\H p=some (.lst (as.map V.ref))/\as≠[]/\(∀ i a,as[i]?=some a->H a=some (.tup (ks i)))/\(∀ i j,i < as.length->j < as.length->SameK (ks i) (ks j))/\
  ∀ i a,as[i]?=some a->(∀ j,j < as.length->uK (ks j) (ks i)=false)->Q (.ref a) H
section
variable {X:Cx}
theorem xV:∀ {ts:List Str} {us:List Value},Vals (ts.map V.str) us->∀ (i:Nat) (v:Value),us[i]?=some v->∃ (t:Str) (tk:Tok),ts[i]?=some t/\v=Value.str t tk:=by
 intro ts
 induction ts with
 | nil=>intro us h i v e;cases h;simp at e
 | cons t ts ih=>
  intro us h i v e
  cases h with
  | cons a b=>
   cases i with
   | zero=>
    obtain ⟨tk,rfl⟩:=a
    simp at e
    exact ⟨t,tk,by simp,e.symm⟩
   | succ i=>exact ih b i v (by simpa using e)
theorem jc (hc:X.calm=true) (hu:X.A.in1.units < cLine):CallR X (.builtin "min") (xU X.K):=by
 intro pins s U H xs us Q I r h
 rcases h with h | ⟨p,ts,rfl,hp,hne,q⟩ | ⟨p,as,ks,rfl,hp,hne,hk,hsk,q⟩
 ·exact Hr hc pins s U H xs us Q I r h
 ·obtain ⟨u,rfl,ru⟩:=vals1 r
  cases ru
  obtain ⟨hz,its,n,rv,g⟩:=I.hok p _ hp
  have hl:its.length=ts.length:=by rw [← rv.length];simp
  have hst:=xV rv
  have hne':its≠[]:=fun z=>hne (List.eq_nil_of_length_eq_zero (by rw [← hl,z];rfl))
  have hpos:0 < its.length:=List.length_pos_iff.mpr hne'
  have at_:∀ (i:Nat) (v:Value),its[i]?=some v->∃ tk,v=Value.str (ts.getD i (⟨#[]⟩:Str)) tk:=fun i v e=>by
   obtain ⟨t,tk,e1,e2⟩:=hst i v e
   exact ⟨tk,by rw [e2,X6,e1];rfl⟩
  refine xT (G:=fun _=>True) (bt:=fun i j=>decide ((ts.getD i (⟨#[]⟩:Str)).cps.toList < (ts.getD j (⟨#[]⟩:Str)).cps.toList)) (I.ok.hd hc) ⟨_,g,rfl,n,rfl⟩ hne' (fun i j vi vj s' Q' E' _ h1 h2 q'=>?_) trivial (fun _ _ _ _=>trivial) fun v h' tk hv hk=>?_
  ·obtain ⟨t1,rfl⟩:=at_ i vi h1
   obtain ⟨t2,rfl⟩:=at_ j vj h2
   exact (PyProof.Rows.lt_str q':wpAny (model X.prog X.w) X.A.in1 (compareOp .Lt _ _) Q' E' s')
  ·obtain ⟨h1,h2⟩:=pG (bt:=fun i j=>decide ((ts.getD i (⟨#[]⟩:Str)).cps.toList < (ts.getD j (⟨#[]⟩:Str)).cps.toList)) (n:=its.length - 1) (fun i _=>by simp) (fun i j k _ _ _ a b=>by
    simp only [Aab] at a b ⊢
    exact List.lt_trans a b) _ (XQ _)
   obtain ⟨t,tk',e1,rfl⟩:=hst _ v hv
   refine ⟨.str t,H,I.kept hk,⟨tk',rfl⟩,q t (YG e1) fun a ha=>?_⟩
   obtain ⟨j,hj⟩:=List.mem_iff_getElem?.mp ha
   have hj':j < ts.length:=by
    obtain ⟨z,_⟩:=XM.mp hj
    exact z
   have:=h2 j (by omega)
   generalize argBest _ _=m at this e1 hv
   simp only [Y4,X6,hj] at this
   rw [e1] at this
   exact this
 ·obtain ⟨u,rfl,ru⟩:=vals1 r
  cases ru
  have hL:=Ht I hp
  have hpos:0 < as.length:=List.length_pos_iff.mpr hne
  have at_:∀ (i:Nat) (v:Value),(as.map Value.ref)[i]?=some v->∃ a,as[i]?=some a/\v=Value.ref a:=fun i v e=>by
   rw [XX] at e
   cases e1:as[i]? with
   | none=>rw [e1] at e;cases e
   | some a=>rw [e1] at e;cases e;exact ⟨a,rfl,rfl⟩
  refine xT (G:=fun h=>∀ i a,as[i]?=some a->∃ its,Vals (ks i) its/\h.IsTuple a its.toArray/\a < s.heap.objs.size) (bt:=fun i j=>uK (ks i) (ks j)) (its:=as.map Value.ref) (I.ok.hd hc) hL (fun z=>hne (List.map_eq_nil_iff.mp z)) (fun i j vi vj s' Q' E' g h1 h2 q'=>?_) (fun i a e=>?_) (fun h h' g kp i a e=>?_) fun v h' tk hv hk'=>?_
  ·obtain ⟨a,e1,rfl⟩:=at_ i vi h1
   obtain ⟨b,e2,rfl⟩:=at_ j vj h2
   obtain ⟨u1,r1,p1,_⟩:=g i a e1
   obtain ⟨u2,r2,p2,_⟩:=g j b e2
   obtain ⟨⟨cls,dd,data,sl⟩,ho,hcl,n,hd⟩:=id p1
   obtain ⟨⟨cls2,dd2,data2,sl2⟩,ho2,hc2,n2,hd2⟩:=id p2
   simp only at hcl hd hc2 hd2
   subst hcl hd hc2 hd2
   have li:i < as.length:=by
    obtain ⟨z,_⟩:=XM.mp e1
    exact z
   have lj:j < as.length:=by
    obtain ⟨z,_⟩:=XM.mp e2
    exact z
   exact richCompare_meets_room (op:=.Lt) ⟨_,ho,rfl⟩ ⟨_,ho2,rfl⟩ PySem.F.slot_tuple_lt PySem.F.entry_tuple_lt (PySem.F.args_tuple_lt_2 _ _) (vX a b u1.toArray u2.toArray n n2 dd dd2 sl sl2 (ks i) (ks j) (by simpa using r1) (by simpa using r2) (hsk i j li lj))
    ⟨ho,ho2,⟨(fun x=>nomatch x),q'⟩⟩ hu
  ·obtain ⟨its,r1,p1,_⟩:=I.tuple (SqT.of (hk i a e))
   obtain ⟨o,ho,_⟩:=id p1
   exact ⟨its,r1,p1,X5 ho⟩
  ·obtain ⟨its,r1,⟨o,ho,hr⟩,l⟩:=g i a e
   exact ⟨its,r1,⟨o,kp _ _ l ho,hr⟩,l⟩
  ·rw [X8] at hv
   obtain ⟨h1,h2⟩:=pG (bt:=fun i j=>uK (ks i) (ks j)) (n:=as.length - 1) (fun i _=>Fq _) (fun i j k _ _ _ a b=>xR a b) _ (XQ _)
   obtain ⟨a,e1,rfl⟩:=at_ _ v hv
   exact ⟨.ref a,H,I.kept hk',rfl,q _ a e1 fun j hj=>h2 j (by omega)⟩
def Ft:V->List V->Hp->VK->Prop:=fun x xs H Q=>∃ (l:Addr) (ts:List Str) (k:Str),x= .ref l/\xs=[.str k]/\H l=some (.lst (ts.map V.str))/\ts.length<=1000/\k∈ts/\Q (.int (ts.idxOf k:Nat)) H
theorem Hw:Ib X "list.index" Ft:=by
 intro pins s U H x xs v us Q I rx r h
 obtain ⟨l,ts,k,rfl,rfl,hl,hn,hk,q⟩:=h
 obtain ⟨u,rfl,t,rfl⟩:=vals1 r
 cases rx
 obtain ⟨hz,its,n,rv,g⟩:=I.hok l _ hl
 have hlen:its.length=ts.length:=by rw [← rv.length];simp
 have hst:=xV rv
 have hj:=List.idxOf_lt_length_iff.mpr hk
 let e:Value->Bool:=fun v=>match v with | .str z _=>decide (z=k) | _=>false
 have at_:∀ (i:Nat) (hi:i < its.toArray.size),∃ (z:Str) (tk:Tok),its.toArray[i]= .str z tk/\ts[i]?=some z:=fun i hi=>by
  obtain ⟨z,tk,e1,e2⟩:=hst i its.toArray[i] (by simp at hi ⊢)
  exact ⟨z,tk,e2,e1⟩
 refine call_meets F.slot_list_index ⟨_,g,rfl⟩ F.entry_list_index (F.args_list_index_2 _ _) (SeqAt.list_indexAt l its.toArray n none #[] (.str k t) e (ts.idxOf k) (by simp;omega) (by omega) ?_ ?_) ⟨g,?_,⟨.int _,H,I.tok _,⟨_,rfl⟩,q⟩⟩
 ·obtain ⟨z,tk,e1,e2⟩:=at_ (ts.idxOf k) (by simp;omega)
  rw [e1]
  have:ts[ts.idxOf k]?=some k:=by rw [XR hj];simp
  rw [this] at e2
  cases e2
  show decide (k=k)=true
  simp
 ·intro m hm hlt
  obtain ⟨z,tk,e1,e2⟩:=at_ m hm
  rw [e1]
  show decide (z=k)=false
  rw [Y4]
  intro hzk
  subst hzk
  have:=List.not_of_lt_findIdx (p:=fun x=>x == z) (xs:=ts) (i:=m) hlt
  obtain ⟨w1,w2⟩:=XM.mp e2
  rw [w2] at this
  simp at this
 ·intro y hy
  obtain ⟨i,hi,rfl⟩:=Array.mem_iff_getElem.mp hy
  obtain ⟨z,tk,e1,e2⟩:=at_ i hi
  rw [e1]
  have:=sW (A:=X.A.in1) (s:=s) (y:=.str z) (x:=.str k) (u:=.str z tk) (v:=.str k t) ⟨_,rfl⟩ ⟨_,rfl⟩ rfl rfl
  rw [show e (.str z tk)=zx (.str z) (.str k) from by
   show decide (z=k)=(z == k)
   by_cases h:z=k <;> simp [h]]
  exact this
def Fv:V->List V->Hp->VK->Prop:=fun x xs H Q=>CW x xs H Q\/Ft x xs H Q
theorem Hx:Ib X "list.index" Fv:=by
 intro pins s U H x xs v us Q I rx r h
 rcases h with h | h
 ·exact Ks pins s U H x xs v us Q I rx r h
 ·exact Hw pins s U H x xs v us Q I rx r h
end
section
variable {K:W.Frag} {H:Hp} {Q:VK}
theorem O7 {p:Addr} {ns:List Int} (hp:H p=some (.lst (ns.map V.int))) (hne:ns≠[]) (h:∀ M,M∈ns->(∀ a∈ns,M<=a)->Q (.int M) H):xU K [.ref p] H Q:=.inl (Ug hp hne h)
theorem O8 {p:Addr} {as:List Addr} {ks:Nat->List V} (hp:H p=some (.lst (as.map V.ref))) (hne:as≠[]) (hk:∀ i a,as[i]?=some a->H a=some (.tup (ks i))) (hs:∀ i j,i < as.length->j < as.length->SameK (ks i) (ks j))
  (h:∀ i a,as[i]?=some a->(∀ j,j < as.length->uK (ks j) (ks i)=false)->Q (.ref a) H):xU K [.ref p] H Q:=.inr (.inr ⟨p,as,ks,rfl,hp,hne,hk,hs,h⟩)
theorem gF {i j:Int} (h:Q (.int (if j < i then j else i)) H):xU K [.int i,.int j] H Q:=.inl (O2 h)
theorem iT {i j k:Int} (h:∀ M,(M=i\/M=j\/M=k)->M<=i->M<=j->M<=k->Q (.int M) H):xU K [.int i,.int j,.int k] H Q:=.inl (Ue h)
theorem Hy {l:Addr} {ns:List Int} {k:Int} (hl:H l=some (.lst (ns.map V.int))) (hn:ns.length<=1000) (hb:∀ x∈ns,0<=x/\x < 1000) (hk:k∈ns) (h:Q (.int (ns.idxOf k:Nat)) H):Fv (.ref l) [.int k] H Q:=.inl (Ow hl hn hb hk h)
end
theorem Def.at_ {K:W.Frag} {mg:Str->Option Value} {x:Str} {st:Stmt} (d:Def K mg x st):mg x=some (.ref (aL mg x)):=by
 obtain ⟨f,_,_,h⟩:=d
 rw [jO h];exact h
theorem HasX.weak {P:Program} {w:World} {K:W.Frag} {mg:Str->Option Value} {base:Heap} {j k:Nat} {x:Str} {ps:List Str} {sp sp':Sp} (h:HasX P w K mg base j x ps sp) (hk:j<=k) (hs:∀ vs H Q E,sp' vs H Q E->sp vs H Q E):HasX P w K mg base k x ps sp':=by
 obtain ⟨f,fd,a,b,c,d⟩:=h
 refine ⟨f,fd,a,b,c,?_⟩
 have d':=d.mono hk
 exact ⟨fun vs H Q E h=>d'.len _ _ _ _ (hs _ _ _ _ h),fun A outer s H a us vs Q E hr e0 hb r h=>d'.run A outer s H a us vs Q E hr e0 hb r (hs _ _ _ _ h)⟩
def K1 (mg:Str->Option Value) (xs:List Str) (sp:Str->Sp) (R:St->XK) (tv:TE) (t:TA):TE:=fun U H Q=>tv U H fun u H0=>∃ x,x∈xs/\u= .ref (aL mg x)/\t U H0 fun vs H1=>sp x vs H1 Q (R U)
section
variable {mg:Str->Option Value} {xs:List Str} {sp:Str->Sp} {R:St->XK} {tv:TE} {t:TA} {U:St} {H:Hp} {Q:VK}
theorem bF (h:tv U H fun u H0=>∃ x,x∈xs/\u= .ref (aL mg x)/\t U H0 fun vs H1=>sp x vs H1 Q (R U)):K1 mg xs sp R tv t U H Q:=h
end
def WN (P:Program) (w:World) (K:W.Frag) (mg:Str->Option Value) (base:Heap) (k:Nat) (xs:List Str) (sp:Str->Sp):Prop:=∀ x∈xs,∃ ps,HasX P w K mg base k x ps (sp x)
section
variable {X:Cx} {mg:Str->Option Value} {k:Nat} {xs:List Str} {sp:Str->Sp} {R:St->XK} {x:Str} {p pos:Pos} {e:Expr} {es:List Expr} {t:TA} {tv:TE}
theorem O9 (hmg:X.mg=mg) (hv:JE X (.Name x p) tv) (F:WN X.prog X.w X.K X.mg X.base k xs sp) (hr:Room k X.A) (hx:lC X R) (ha:JA X (e :: es) t) (h:autoParam ((e :: es).all notStar=true) L2.auto4._auto_1):
  JE X (.Call (.Name x p) (e :: es) [] pos) (K1 mg xs sp R tv t):=by
 have h1:notStar e=true:=by simp only [YQ,Yg] at h;exact h.1
 have h2:es.all notStar=true:=by simp only [YQ,Yg] at h;exact h.2
 subst hmg
 refine ⟨?_⟩
 intro pins s U H Q I hq
 refine YX (fU (hv.run pins s U H _ I hq) fun u s0 qq0=>?_)
 obtain ⟨v,H0,I0,rv,y,hy,ev,q0⟩:=qq0
 obtain ⟨ps,f,fd,a,b,c,d⟩:=F y hy
 rw [jO a] at ev
 subst ev
 cases rv
 refine ZP (h₀:=X.base) I.ok.mod.kin b (fU (ha.run pos pins s0 U H0 _ I0 q0) fun us s1 ⟨vs,H1,I1,r,q⟩=>⟨I1.kIn,?_⟩) (cZ h1) (mz h2)
 exact uY d hr c hx I1 r q
end
end L2
namespace My
open PySem L2
local macro_rules | `(tactic| walk_at "p") => `(tactic| first | exact bT _ | with_unfolding_all rfl)
local macro_rules | `(tactic| walk_at "0") => `(tactic| (first | refine iz ?_ | refine gP ?_ | refine ir ?_ | refine eU ?_ | refine eV ?_ | (refine' dZ ?hz0 ?_; (case hz0 => with_unfolding_all rfl)) | refine qu ?_ | refine iH ?_ | refine cH ?_ | refine b8 ?_ | refine d7 ?_ | refine dO ?_ | refine bV ?_ | refine dU ?_ | refine bU ?_ | refine iu ?_ | refine bY ?_ | refine iI ?_ | refine iC ?_ | refine cj ?_ | refine iw ?_ | refine dW ?_ | refine dX ?_ | refine iy ?_ | refine bZ ?_ | refine b7 ?_ | refine dY ?_ | refine dR ?_ | refine bW ?_ | refine iB ?_ | refine qw ?_ | refine qx ?_ | refine iD ?_ | refine d8 ?_ | refine iG ?_ | refine d9 ?_ | refine cu ?_ | refine cz ?_ | refine cA ?_ | refine cB ?_ | refine cF ?_ | refine cG ?_ | refine eG ?_ | refine qz ?_ | refine bw ?_ | refine cN ?_ | (refine' bf (SqT.of ?hz0) ?hz1 ?_; (case hz0 => first | assumption | exact aj); (case hz1 => rfl)) | refine bz ?_ | refine bB ?_ | refine eO ?_ | refine bA ?_ | refine cR ?_ | refine cT ?_ | refine bQ ?_ | refine bR ?_ | refine cU ?_ | refine cV ?_ | refine eQ ?_ | refine aU ?_ | refine iJ ?_ | refine bM ?_ | refine bO ?_ | refine cO ?_ | refine cQ ?_ | refine bx ?_ | refine dD ?_ | refine cJ ?_ | (refine' qy ?hz0 ?_; (case hz0 => with_unfolding_all first | assumption | omega | (dsimp only <;> omega) | exact ⟨by omega, by omega⟩ | exact .inl ⟨by omega, by omega⟩ | exact .inr ⟨by omega, by omega⟩ | exact ⟨by decide, by decide, by decide⟩)) | (refine' cI ?hz0 ?_; (case hz0 => with_unfolding_all first | assumption | omega | (dsimp only <;> omega) | exact ⟨by omega, by omega⟩ | exact .inl ⟨by omega, by omega⟩ | exact .inr ⟨by omega, by omega⟩ | exact ⟨by decide, by decide, by decide⟩)) | (refine' aN (SqL.of ?hz0) ?hz1 ?_; (case hz0 => first | assumption | exact aj); (case hz1 => with_unfolding_all rfl)) | (refine' dq (SqT.of ?hz0) ?hz1 ?_; (case hz0 => first | assumption | exact aj); (case hz1 => with_unfolding_all rfl)) | (refine' bH ?hz0 ?hz1 ?_; (case hz0 => first | assumption | exact aj); (case hz1 => with_unfolding_all rfl)) | refine bC ?_ | refine bD ?_ | refine eY ?_ | refine cW ?_ | refine bF ?_ | refine qe ?_ | refine kW ?_))
local macro_rules | `(tactic| walk_at "1") => `(tactic| (first | refine iz ?_ | refine gP ?_ | refine ir ?_ | refine eU ?_ | refine eV ?_ | (refine' dZ ?hz0 ?_; (case hz0 => with_unfolding_all rfl)) | refine qu ?_ | refine iH ?_ | refine cH ?_ | refine b8 ?_ | refine d7 ?_ | refine dO ?_ | refine bV ?_ | refine dU ?_ | refine bU ?_ | refine iu ?_ | refine bY ?_ | refine iI ?_ | refine iC ?_ | refine cj ?_ | refine iw ?_ | refine dW ?_ | refine dX ?_ | refine iy ?_ | refine bZ ?_ | refine b7 ?_ | refine dY ?_ | refine dR ?_ | refine bW ?_ | refine iB ?_ | refine qw ?_ | refine qx ?_ | refine iD ?_ | refine d8 ?_ | refine iG ?_ | refine d9 ?_ | refine cu ?_ | refine cz ?_ | refine cA ?_ | refine cB ?_ | refine cF ?_ | refine cG ?_ | refine eG ?_ | refine qz ?_ | refine bw ?_ | refine cN ?_ | (refine' bf (SqT.of ?hz0) ?hz1 ?_; (case hz0 => first | assumption | exact aj); (case hz1 => rfl)) | refine bz ?_ | refine bB ?_ | refine eO ?_ | refine bA ?_ | refine cR ?_ | refine cT ?_ | refine bQ ?_ | refine bR ?_ | refine cU ?_ | refine cV ?_ | refine eQ ?_ | refine aU ?_ | refine iJ ?_ | refine bM ?_ | refine bO ?_ | refine cO ?_ | refine cQ ?_ | refine bx ?_ | refine dD ?_ | refine cJ ?_ | (refine' qy ?hz0 ?_; (case hz0 => with_unfolding_all first | assumption | omega | (dsimp only <;> omega) | exact ⟨by omega, by omega⟩ | exact .inl ⟨by omega, by omega⟩ | exact .inr ⟨by omega, by omega⟩ | exact ⟨by decide, by decide, by decide⟩)) | (refine' cI ?hz0 ?_; (case hz0 => with_unfolding_all first | assumption | omega | (dsimp only <;> omega) | exact ⟨by omega, by omega⟩ | exact .inl ⟨by omega, by omega⟩ | exact .inr ⟨by omega, by omega⟩ | exact ⟨by decide, by decide, by decide⟩)) | (refine' aN (SqL.of ?hz0) ?hz1 ?_; (case hz0 => first | assumption | exact aj); (case hz1 => with_unfolding_all rfl)) | (refine' dq (SqT.of ?hz0) ?hz1 ?_; (case hz0 => first | assumption | exact aj); (case hz1 => with_unfolding_all rfl)) | (refine' bH ?hz0 ?hz1 ?_; (case hz0 => first | assumption | exact aj); (case hz1 => with_unfolding_all rfl)) | refine bC ?_ | refine bD ?_ | refine eY ?_ | refine cW ?_ | refine bF ?_ | refine fK ?_ | refine fJ ?_))
local macro_rules | `(tactic| walk_at "2") => `(tactic| (first | refine iz ?_ | refine gP ?_ | refine ir ?_ | refine eU ?_ | refine eV ?_ | (refine' dZ ?hz0 ?_; (case hz0 => with_unfolding_all rfl)) | refine qu ?_ | refine iH ?_ | refine cH ?_ | refine b8 ?_ | refine d7 ?_ | refine dO ?_ | refine bV ?_ | refine dU ?_ | refine bU ?_ | refine iu ?_ | refine bY ?_ | refine iI ?_ | refine iC ?_ | refine cj ?_ | refine iw ?_ | refine dW ?_ | refine dX ?_ | refine iy ?_ | refine bZ ?_ | refine b7 ?_ | refine dY ?_ | refine dR ?_ | refine bW ?_ | refine iB ?_ | refine fO ?_ | refine fM ?_ | refine iD ?_ | refine d8 ?_ | refine iG ?_ | refine d9 ?_ | refine cu ?_ | refine cz ?_ | refine cA ?_ | refine cB ?_ | refine cF ?_ | refine cG ?_ | refine eG ?_ | refine qz ?_ | refine bw ?_ | refine cN ?_ | (refine' bf (SqT.of ?hz0) ?hz1 ?_; (case hz0 => first | assumption | exact aj); (case hz1 => rfl)) | refine bz ?_ | refine bB ?_ | refine eO ?_ | refine bA ?_ | refine cR ?_ | refine cT ?_ | refine bQ ?_ | refine bR ?_ | refine cU ?_ | refine cV ?_ | refine eQ ?_ | refine aU ?_ | refine iJ ?_ | refine bM ?_ | refine bO ?_ | refine cO ?_ | refine cQ ?_ | refine bx ?_ | refine dD ?_ | refine cJ ?_ | (refine' qy ?hz0 ?_; (case hz0 => with_unfolding_all first | assumption | omega | (dsimp only <;> omega) | exact ⟨by omega, by omega⟩ | exact .inl ⟨by omega, by omega⟩ | exact .inr ⟨by omega, by omega⟩ | exact ⟨by decide, by decide, by decide⟩)) | (refine' cI ?hz0 ?_; (case hz0 => with_unfolding_all first | assumption | omega | (dsimp only <;> omega) | exact ⟨by omega, by omega⟩ | exact .inl ⟨by omega, by omega⟩ | exact .inr ⟨by omega, by omega⟩ | exact ⟨by decide, by decide, by decide⟩)) | (refine' aN (SqL.of ?hz0) ?hz1 ?_; (case hz0 => first | assumption | exact aj); (case hz1 => with_unfolding_all rfl)) | (refine' dq (SqT.of ?hz0) ?hz1 ?_; (case hz0 => first | assumption | exact aj); (case hz1 => with_unfolding_all rfl)) | (refine' bH ?hz0 ?hz1 ?_; (case hz0 => first | assumption | exact aj); (case hz1 => with_unfolding_all rfl)) | refine bC ?_ | refine bD ?_ | refine eY ?_ | refine cW ?_ | refine bF ?_ | refine fK ?_ | refine fJ ?_ | refine KY ?_))
local macro_rules | `(tactic| walk_at "3") => `(tactic| (first | refine iz ?_ | refine gP ?_ | refine ir ?_ | refine eU ?_ | refine eV ?_ | (refine' dZ ?hz0 ?_; (case hz0 => with_unfolding_all rfl)) | refine qu ?_ | refine iH ?_ | refine cH ?_ | refine b8 ?_ | refine d7 ?_ | refine dO ?_ | refine bV ?_ | refine dU ?_ | refine bU ?_ | refine iu ?_ | refine bY ?_ | refine iI ?_ | refine iC ?_ | refine cj ?_ | refine iw ?_ | refine dW ?_ | refine dX ?_ | refine iy ?_ | refine bZ ?_ | refine b7 ?_ | refine dY ?_ | refine dR ?_ | refine bW ?_ | refine iB ?_ | refine fO ?_ | refine fM ?_ | refine iD ?_ | refine d8 ?_ | refine iG ?_ | refine d9 ?_ | refine cu ?_ | refine cz ?_ | refine cA ?_ | refine cB ?_ | refine cF ?_ | refine cG ?_ | refine eG ?_ | refine qz ?_ | refine bw ?_ | refine cN ?_ | (refine' bf (SqT.of ?hz0) ?hz1 ?_; (case hz0 => first | assumption | exact aj); (case hz1 => rfl)) | refine bz ?_ | refine bB ?_ | refine eO ?_ | refine bA ?_ | refine cR ?_ | refine cT ?_ | refine bQ ?_ | refine bR ?_ | refine cU ?_ | refine cV ?_ | refine eQ ?_ | refine aU ?_ | refine iJ ?_ | refine bM ?_ | refine bO ?_ | refine cO ?_ | refine cQ ?_ | refine bx ?_ | refine dD ?_ | refine cJ ?_ | (refine' qy ?hz0 ?_; (case hz0 => with_unfolding_all first | assumption | omega | (dsimp only <;> omega) | exact ⟨by omega, by omega⟩ | exact .inl ⟨by omega, by omega⟩ | exact .inr ⟨by omega, by omega⟩ | exact ⟨by decide, by decide, by decide⟩)) | (refine' cI ?hz0 ?_; (case hz0 => with_unfolding_all first | assumption | omega | (dsimp only <;> omega) | exact ⟨by omega, by omega⟩ | exact .inl ⟨by omega, by omega⟩ | exact .inr ⟨by omega, by omega⟩ | exact ⟨by decide, by decide, by decide⟩)) | (refine' aN (SqL.of ?hz0) ?hz1 ?_; (case hz0 => first | assumption | exact aj); (case hz1 => with_unfolding_all rfl)) | (refine' dq (SqT.of ?hz0) ?hz1 ?_; (case hz0 => first | assumption | exact aj); (case hz1 => with_unfolding_all rfl)) | (refine' bH ?hz0 ?hz1 ?_; (case hz0 => first | assumption | exact aj); (case hz1 => with_unfolding_all rfl)) | refine bC ?_ | refine bD ?_ | refine eY ?_ | refine cW ?_ | refine bF ?_ | refine fK ?_ | refine fJ ?_))
local macro_rules | `(tactic| walk_at "4") => `(tactic| (first | refine iz ?_ | refine gP ?_ | refine ir ?_ | refine eU ?_ | refine eV ?_ | (refine' dZ ?hz0 ?_; (case hz0 => with_unfolding_all rfl)) | refine qu ?_ | refine iH ?_ | refine cH ?_ | refine b8 ?_ | refine d7 ?_ | refine dO ?_ | refine bV ?_ | refine dU ?_ | refine bU ?_ | refine iu ?_ | refine bY ?_ | refine iI ?_ | refine iC ?_ | refine cj ?_ | refine iw ?_ | refine dW ?_ | refine dX ?_ | refine iy ?_ | refine bZ ?_ | refine b7 ?_ | refine dY ?_ | refine dR ?_ | refine bW ?_ | refine iB ?_ | refine qw ?_ | refine qx ?_ | refine iD ?_ | refine d8 ?_ | refine iG ?_ | refine d9 ?_ | refine cu ?_ | refine cz ?_ | refine cA ?_ | refine cB ?_ | refine cF ?_ | refine cG ?_ | refine eG ?_ | refine qz ?_ | refine bw ?_ | refine cN ?_ | (refine' bf (SqT.of ?hz0) ?hz1 ?_; (case hz0 => first | assumption | exact aj); (case hz1 => rfl)) | refine bz ?_ | refine bB ?_ | refine eO ?_ | refine bA ?_ | refine cR ?_ | refine cT ?_ | refine bQ ?_ | refine bR ?_ | refine cU ?_ | refine cV ?_ | refine eQ ?_ | refine aU ?_ | refine iJ ?_ | refine bM ?_ | refine bO ?_ | refine cO ?_ | refine cQ ?_ | refine bx ?_ | refine dD ?_ | refine cJ ?_ | (refine' qy ?hz0 ?_; (case hz0 => with_unfolding_all first | assumption | omega | (dsimp only <;> omega) | exact ⟨by omega, by omega⟩ | exact .inl ⟨by omega, by omega⟩ | exact .inr ⟨by omega, by omega⟩ | exact ⟨by decide, by decide, by decide⟩)) | (refine' cI ?hz0 ?_; (case hz0 => with_unfolding_all first | assumption | omega | (dsimp only <;> omega) | exact ⟨by omega, by omega⟩ | exact .inl ⟨by omega, by omega⟩ | exact .inr ⟨by omega, by omega⟩ | exact ⟨by decide, by decide, by decide⟩)) | (refine' aN (SqL.of ?hz0) ?hz1 ?_; (case hz0 => first | assumption | exact aj); (case hz1 => with_unfolding_all rfl)) | (refine' dq (SqT.of ?hz0) ?hz1 ?_; (case hz0 => first | assumption | exact aj); (case hz1 => with_unfolding_all rfl)) | (refine' bH ?hz0 ?hz1 ?_; (case hz0 => first | assumption | exact aj); (case hz1 => with_unfolding_all rfl)) | refine bC ?_ | refine bD ?_ | refine eY ?_ | refine cW ?_ | refine bF ?_))
local macro_rules | `(tactic| walk_at "5") => `(tactic| (first | refine iz ?_ | refine gP ?_ | refine ir ?_ | refine eU ?_ | refine eV ?_ | (refine' dZ ?hz0 ?_; (case hz0 => with_unfolding_all rfl)) | refine qu ?_ | refine iH ?_ | refine cH ?_ | refine b8 ?_ | refine d7 ?_ | refine dO ?_ | refine bV ?_ | refine dU ?_ | refine bU ?_ | refine iu ?_ | refine bY ?_ | refine iI ?_ | refine iC ?_ | refine cj ?_ | refine iw ?_ | refine dW ?_ | refine dX ?_ | refine iy ?_ | refine bZ ?_ | refine b7 ?_ | refine dY ?_ | refine dR ?_ | refine bW ?_ | refine iB ?_ | refine fO ?_ | refine fM ?_ | refine iD ?_ | refine d8 ?_ | refine iG ?_ | refine d9 ?_ | refine cu ?_ | refine cz ?_ | refine cA ?_ | refine cB ?_ | refine cF ?_ | refine cG ?_ | refine eG ?_ | refine qz ?_ | refine bw ?_ | refine cN ?_ | (refine' bf (SqT.of ?hz0) ?hz1 ?_; (case hz0 => first | assumption | exact aj); (case hz1 => rfl)) | refine bz ?_ | refine bB ?_ | refine eO ?_ | refine bA ?_ | refine cR ?_ | refine cT ?_ | refine bQ ?_ | refine bR ?_ | refine cU ?_ | refine cV ?_ | refine eQ ?_ | refine aU ?_ | refine iJ ?_ | refine bM ?_ | refine bO ?_ | refine cO ?_ | refine cQ ?_ | refine bx ?_ | refine dD ?_ | refine cJ ?_ | (refine' qy ?hz0 ?_; (case hz0 => with_unfolding_all first | assumption | omega | (dsimp only <;> omega) | exact ⟨by omega, by omega⟩ | exact .inl ⟨by omega, by omega⟩ | exact .inr ⟨by omega, by omega⟩ | exact ⟨by decide, by decide, by decide⟩)) | (refine' cI ?hz0 ?_; (case hz0 => with_unfolding_all first | assumption | omega | (dsimp only <;> omega) | exact ⟨by omega, by omega⟩ | exact .inl ⟨by omega, by omega⟩ | exact .inr ⟨by omega, by omega⟩ | exact ⟨by decide, by decide, by decide⟩)) | (refine' aN (SqL.of ?hz0) ?hz1 ?_; (case hz0 => first | assumption | exact aj); (case hz1 => with_unfolding_all rfl)) | (refine' dq (SqT.of ?hz0) ?hz1 ?_; (case hz0 => first | assumption | exact aj); (case hz1 => with_unfolding_all rfl)) | (refine' bH ?hz0 ?hz1 ?_; (case hz0 => first | assumption | exact aj); (case hz1 => with_unfolding_all rfl)) | refine bC ?_ | refine bD ?_ | refine eY ?_ | refine cW ?_ | refine bF ?_ | refine gF ?_ | refine iT ?_ | refine fK ?_ | refine fJ ?_))
local macro_rules | `(tactic| walk_at "6") => `(tactic| (first | refine iz ?_ | refine gP ?_ | refine ir ?_ | refine eU ?_ | refine eV ?_ | (refine' dZ ?hz0 ?_; (case hz0 => with_unfolding_all rfl)) | refine qu ?_ | refine iH ?_ | refine cH ?_ | refine b8 ?_ | refine d7 ?_ | refine dO ?_ | refine bV ?_ | refine dU ?_ | refine bU ?_ | refine iu ?_ | refine bY ?_ | refine iI ?_ | refine iC ?_ | refine cj ?_ | refine iw ?_ | refine dW ?_ | refine dX ?_ | refine iy ?_ | refine bZ ?_ | refine b7 ?_ | refine dY ?_ | refine dR ?_ | refine bW ?_ | refine iB ?_ | refine fO ?_ | refine fM ?_ | refine iD ?_ | refine d8 ?_ | refine iG ?_ | refine d9 ?_ | refine cu ?_ | refine cz ?_ | refine cA ?_ | refine cB ?_ | refine cF ?_ | refine cG ?_ | refine eG ?_ | refine qz ?_ | refine bw ?_ | refine cN ?_ | (refine' bf (SqT.of ?hz0) ?hz1 ?_; (case hz0 => first | assumption | exact aj); (case hz1 => rfl)) | refine bz ?_ | refine bB ?_ | refine eO ?_ | refine bA ?_ | refine cR ?_ | refine cT ?_ | refine bQ ?_ | refine bR ?_ | refine cU ?_ | refine cV ?_ | refine eQ ?_ | refine aU ?_ | refine iJ ?_ | refine bM ?_ | refine bO ?_ | refine cO ?_ | refine cQ ?_ | refine bx ?_ | refine dD ?_ | refine cJ ?_ | (refine' qy ?hz0 ?_; (case hz0 => with_unfolding_all first | assumption | omega | (dsimp only <;> omega) | exact ⟨by omega, by omega⟩ | exact .inl ⟨by omega, by omega⟩ | exact .inr ⟨by omega, by omega⟩ | exact ⟨by decide, by decide, by decide⟩)) | (refine' cI ?hz0 ?_; (case hz0 => with_unfolding_all first | assumption | omega | (dsimp only <;> omega) | exact ⟨by omega, by omega⟩ | exact .inl ⟨by omega, by omega⟩ | exact .inr ⟨by omega, by omega⟩ | exact ⟨by decide, by decide, by decide⟩)) | (refine' aN (SqL.of ?hz0) ?hz1 ?_; (case hz0 => first | assumption | exact aj); (case hz1 => with_unfolding_all rfl)) | (refine' dq (SqT.of ?hz0) ?hz1 ?_; (case hz0 => first | assumption | exact aj); (case hz1 => with_unfolding_all rfl)) | (refine' bH ?hz0 ?hz1 ?_; (case hz0 => first | assumption | exact aj); (case hz1 => with_unfolding_all rfl)) | refine bC ?_ | refine bD ?_ | refine eY ?_ | refine cW ?_ | refine bF ?_ | refine gF ?_ | refine iT ?_ | refine fK ?_ | refine fJ ?_ | refine An ?_))
local macro_rules | `(tactic| walk_at "7") => `(tactic| (first | refine iz ?_ | refine gP ?_ | refine ir ?_ | refine eU ?_ | refine eV ?_ | (refine' dZ ?hz0 ?_; (case hz0 => with_unfolding_all rfl)) | refine qu ?_ | refine iH ?_ | refine cH ?_ | refine b8 ?_ | refine d7 ?_ | refine dO ?_ | refine bV ?_ | refine dU ?_ | refine bU ?_ | refine iu ?_ | refine bY ?_ | refine iI ?_ | refine iC ?_ | refine cj ?_ | refine iw ?_ | refine dW ?_ | refine dX ?_ | refine iy ?_ | refine bZ ?_ | refine b7 ?_ | refine dY ?_ | refine dR ?_ | refine bW ?_ | refine iB ?_ | refine fO ?_ | refine fM ?_ | refine iD ?_ | refine d8 ?_ | refine iG ?_ | refine d9 ?_ | refine cu ?_ | refine cz ?_ | refine cA ?_ | refine cB ?_ | refine cF ?_ | refine cG ?_ | refine eG ?_ | refine qz ?_ | refine bw ?_ | refine cN ?_ | (refine' bf (SqT.of ?hz0) ?hz1 ?_; (case hz0 => first | assumption | exact aj); (case hz1 => rfl)) | refine bz ?_ | refine bB ?_ | refine eO ?_ | refine bA ?_ | refine cR ?_ | refine cT ?_ | refine bQ ?_ | refine bR ?_ | refine cU ?_ | refine cV ?_ | refine eQ ?_ | refine aU ?_ | refine iJ ?_ | refine bM ?_ | refine bO ?_ | refine cO ?_ | refine cQ ?_ | refine bx ?_ | refine dD ?_ | refine cJ ?_ | (refine' qy ?hz0 ?_; (case hz0 => with_unfolding_all first | assumption | omega | (dsimp only <;> omega) | exact ⟨by omega, by omega⟩ | exact .inl ⟨by omega, by omega⟩ | exact .inr ⟨by omega, by omega⟩ | exact ⟨by decide, by decide, by decide⟩)) | (refine' cI ?hz0 ?_; (case hz0 => with_unfolding_all first | assumption | omega | (dsimp only <;> omega) | exact ⟨by omega, by omega⟩ | exact .inl ⟨by omega, by omega⟩ | exact .inr ⟨by omega, by omega⟩ | exact ⟨by decide, by decide, by decide⟩)) | (refine' aN (SqL.of ?hz0) ?hz1 ?_; (case hz0 => first | assumption | exact aj); (case hz1 => with_unfolding_all rfl)) | (refine' dq (SqT.of ?hz0) ?hz1 ?_; (case hz0 => first | assumption | exact aj); (case hz1 => with_unfolding_all rfl)) | (refine' bH ?hz0 ?hz1 ?_; (case hz0 => first | assumption | exact aj); (case hz1 => with_unfolding_all rfl)) | refine bC ?_ | refine bD ?_ | refine eY ?_ | refine cW ?_ | refine bF ?_ | refine gF ?_ | refine iT ?_))
abbrev Q0 (d:Stmt) (x:Str):Prop:=(au d).names.lookup x=some NameKind.local
def nI (cs:List Nat):List Int:=cs.map fun i:Nat=>(i:Int)
theorem K3 {E:List Nat} (hn:E.Nodup) {i x:Nat} (h:E[i]?=some x):E.idxOf x=i:=by
 obtain ⟨hi,rfl⟩:=XM.mp h
 exact hn.idxOf_getElem i hi
structure Prm (t:List Nat):Prop where
 le:t.length<=96
 pm:t.Perm (List.range t.length)
theorem Prm.nd {t:List Nat} (h:Prm t):t.Nodup:=h.pm.nodup_iff.mpr List.nodup_range
theorem Prm.lt {t:List Nat} (h:Prm t) {x:Nat} (hx:x∈t):x < t.length:=YC.mp (h.pm.mem_iff.mp hx)
def top (i:Nat):Stmt:=PySem.Challenge.pw_panethread_k64_costs_of_stretches.main.body.getD i (.Pass ⟨0,0,0,0⟩)
abbrev pH:Stmt:=top 14
abbrev pI:Stmt:=top 15
abbrev tK:Stmt:=top 16
abbrev nQ:Stmt:=top 17
abbrev pJ:Stmt:=top 18
abbrev rQ:Stmt:=top 20
abbrev nU:Stmt:=top 21
abbrev qN:Stmt:=top 22
abbrev pK:Stmt:=top 23
abbrev nY:Stmt:=top 24
abbrev rR:Stmt:=top 25
abbrev jP:Stmt:=top 29
abbrev lE:Stmt:=top 30
abbrev qO:Stmt:=top 31
abbrev qP:Stmt:=top 32
abbrev tL:Stmt:=top 33
abbrev nZ:Stmt:=top 34
abbrev qg:Stmt:=top 35
abbrev n6:Stmt:=top 38
abbrev lF:Stmt:=top 39
abbrev rT:Stmt:=top 40
abbrev tM:Stmt:=top 45
abbrev jX:Stmt:=top 47
abbrev tO:Stmt:=top 48
abbrev gM:Stmt:=top 50
abbrev Dh:Stmt:=top 51
abbrev mD:Stmt:=top 54
abbrev pL:Stmt:=top 55
abbrev n8:Stmt:=top 56
abbrev tQ:Stmt:=top 57
abbrev qQ:Stmt:=top 58
abbrev oh:Stmt:=top 59
abbrev jQ:Stmt:=top 60
abbrev qi:Stmt:=top 61
abbrev jC:Stmt:=top 62
abbrev lY:Stmt:=top 63
abbrev qR:Stmt:=top 64
abbrev lZ:Stmt:=top 65
abbrev jR:Stmt:=top 66
abbrev jo:Stmt:=top 67
abbrev qT:Stmt:=top 68
abbrev xW:Stmt:=top 69
abbrev jD:Stmt:=jA 0 (top 36)
abbrev mF:Stmt:=jA 3 (top 36)
abbrev jE:Stmt:=jA 0 (top 42)
abbrev mG:Stmt:=jA 1 (top 42)
abbrev jY:Stmt:=jA 0 (top 44)
abbrev jZ:Stmt:=jA 1 (top 44)
abbrev gb:Stmt:=jA 2 (top 44)
abbrev lG:Stmt:=jA 4 (top 44)
abbrev jF:Stmt:=jA 0 (top 52)
abbrev ou:Stmt:=jA 1 (top 52)
abbrev pM:Stmt:=jA 2 (top 52)
abbrev gK:Stmt:=jA 3 (top 52)
abbrev qU:Stmt:=jA 4 (top 52)
abbrev jq:Stmt:=jA 5 (top 52)
abbrev iU:Stmt:=jA 6 (top 52)
abbrev jr:Stmt:=jA 7 (top 52)
abbrev kj:Stmt:=jA 8 (top 52)
abbrev km:Stmt:=jA 9 (top 52)
abbrev Fw:Stmt:=initOf (top 3)
abbrev m9:Stmt:=initOf (top 4)
abbrev xX:Stmt:=initOf (top 5)
abbrev ni:Stmt:=initOf (top 6)
abbrev uC:Stmt:=initOf (top 7)
local macro_rules | `(tactic| walk_at "s") => `(tactic| (with_reducible repeat (first | refine jk ?_ | walk_at "0")))
local macro_rules | `(tactic| walk_at "n") => `(tactic| (with_reducible repeat (walk_at "0")))
def mx (i j:Int):Int:=if j > i then j else i
def lt (S P:List Nat) (i j:Nat):Int:=match i,j with
 | 0,_=>0
 | _+1,0=>0
 | i+1,j+1=>if S[i]?=P[j]? then mx (mx (lt S P i (j+1)) (lt S P (i+1) j)) (lt S P i j+1) else mx (lt S P i (j+1)) (lt S P (i+1) j)
termination_by i+j
theorem lt_0 (S P:List Nat) (j:Nat):lt S P 0 j=0:=by rw [lt]
theorem WP (S P:List Nat) (i:Nat):lt S P i 0=0:=by cases i <;> rw [lt]
theorem Uj (S P:List Nat) (i j:Nat):lt S P (i+1) (j+1)=if S[i]?=P[j]? then mx (mx (lt S P i (j+1)) (lt S P (i+1) j)) (lt S P i j+1) else mx (lt S P i (j+1)) (lt S P (i+1) j):=by rw [lt]
def nj (S P:List Nat) (i n:Nat):List Int:=(List.range n).map (lt S P i)
theorem K4 (S P:List Nat) (i n:Nat):(nj S P i n).length=n:=by simp [nj]
theorem Pa {S P:List Nat} {i n j:Nat} (h:j < n):(nj S P i n)[j]?=some (lt S P i j):=by
 unfold nj
 rw [XX,Yt h];rfl
theorem tU (S P:List Nat) (i n:Nat):nj S P i (n+1)=nj S P i n ++ [lt S P i n]:=by
 unfold nj
 rw [YJ,Yk];rfl
mutual
def gA (m:Nat) (C:Nat->Nat->Bool) (i:Nat):Nat->Nat
 | 0=>m - 1 - i
 | j+1=>if C i j=true then gD m C j i else gA m C i j
termination_by j=>i+j
def gD (m:Nat) (C:Nat->Nat->Bool) (j:Nat):Nat->Nat
 | 0=>m+j
 | i+1=>if C i j=true then gA m C i j else gD m C j i
termination_by i=>i+j
end
section
variable {m:Nat} {C:Nat->Nat->Bool}
theorem kE (i:Nat):gA m C i 0=m - 1 - i:=by rw [gA]
theorem mj (i j:Nat):gA m C i (j+1)=if C i j=true then gD m C j i else gA m C i j:=by rw [gA]
theorem oA (j:Nat):gD m C j 0=m+j:=by rw [gD]
theorem kI (i j:Nat):gD m C j (i+1)=if C i j=true then gA m C i j else gD m C j i:=by rw [gD]
theorem Ao (i far:Nat):∀ j,j<=far->((List.range j).map (fun l=>gD m C l (i+1)) ++ gA m C i j :: (List.range' j (far - j)).map (fun l=>gD m C l i)).Perm (gA m C i 0 :: (List.range far).map (fun l=>gD m C l i))
 | 0,_=>by rw [List.range_eq_range' (n:=far)];exact List.Perm.refl _
 | j+1,h=>by
  refine List.Perm.trans ?_ (Ao i far j (by omega))
  rw [YJ,Yk,Aaa,show far - j=(far - (j+1))+1 by omega,List.range'_succ,Ys]
  refine List.Perm.append_left _ ?_
  show (gD m C j (i+1) :: gA m C i (j+1) :: _).Perm _
  rw [mj,kI]
  by_cases hc:C i j=true
  ·rw [if_pos hc,if_pos hc];exact List.Perm.refl _
  ·rw [if_neg hc,if_neg hc]
   exact List.Perm.swap _ _ _
theorem row_end (i far:Nat):((List.range far).map (fun l=>gD m C l (i+1)) ++ [gA m C i far]).Perm ((m - 1 - i) :: (List.range far).map (fun l=>gD m C l i)):=by
 have h:=Ao (m:=m) (C:=C) i far far (XQ _)
 rw [Zm,kE] at h
 exact h
theorem Aq (far:Nat):∀ i,((List.range i).map (fun k=>gA m C k far) ++ (List.range far).map (fun l=>gD m C l i)).Perm ((List.range i).map (fun k=>m - 1 - k) ++ (List.range far).map (fun l=>m+l))
 | 0=>by
  simp only [List.range_zero,List.map_nil,List.nil_append,oA]
  exact List.Perm.refl _
 | i+1=>by
  have ih:=Aq far i
  rw [YJ,Yk,Yk,Aaa,Aaa]
  refine List.Perm.trans (List.Perm.append_left _ (List.perm_append_comm.trans (row_end i far))) ?_
  show ((List.range i).map _ ++ ([m - 1 - i] ++ _)).Perm _
  refine List.Perm.trans (List.perm_append_comm_assoc _ _ _) ?_
  refine List.Perm.trans ?_ (List.perm_append_comm_assoc _ _ _)
  exact List.Perm.append_left _ ih
theorem tV (far:Nat):((List.range m).map (fun k=>gA m C k far) ++ (List.range far).map (fun l=>gD m C l m)).Perm (List.range (m+far)):=by
 refine (Aq far m).trans ?_
 rw [List.range_add]
 refine List.Perm.append_right _ ?_
 have e:(List.range m).map (fun k=>m - 1 - k)=(List.range m).reverse:=by
  refine List.ext_getElem (by simp) fun i h1 h2=>?_
  simp
 rw [e]
 exact List.reverse_perm _
end
def jG (z:Nat->Bool) (ab:List Int) (left:Int):Nat->List Int×Int
 | 0=>([],left)
 | j+1=>if z j=true then ((jG z ab left j).1 ++ [(jG z ab left j).2],ab.getD j 0) else ((jG z ab left j).1 ++ [ab.getD j 0],(jG z ab left j).2)
theorem Ar (z:Nat->Bool) (ab:List Int) (left:Int):∀ j,(jG z ab left j).1.length=j
 | 0=>rfl
 | j+1=>by
  have ih:=Ar z ab left j
  rw [jG]
  split <;> simp [ih]
def tW (m:Nat) (C:Nat->Nat->Bool) (far i:Nat):List Int:=(List.range far).map fun l=>((gD m C l i:Nat):Int)
def Hz (m:Nat) (C:Nat->Nat->Bool) (far i:Nat):List Int:=(List.range i).map fun k=>((gA m C k far:Nat):Int)
theorem Di {m:Nat} {C:Nat->Nat->Bool} {far i j:Nat} (h:j < far):(tW m C far i).getD j 0=((gD m C j i:Nat):Int):=by
 unfold tW
 rw [X6,XX,Yt h];rfl
theorem Uk {m:Nat} {C:Nat->Nat->Bool} {far i j:Nat} (h:j < i):(Hz m C far i)[j]?=some ((gA m C j far:Nat):Int):=by
 unfold Hz
 rw [XX,Yt h];rfl
theorem Pb {m:Nat} {C:Nat->Nat->Bool} {far i j:Nat} (h:j < far):(tW m C far i)[j]?=some ((gD m C j i:Nat):Int):=by
 unfold tW
 rw [XX,Yt h];rfl
theorem yK {m:Nat} {C:Nat->Nat->Bool} {far i:Nat}:∀ j,j<=far->jG (C i) (tW m C far i) ((gA m C i 0:Nat):Int) j=(tW m C j (i+1),((gA m C i j:Nat):Int))
 | 0,_=>rfl
 | j+1,h=>by
  have ih:=yK (m:=m) (C:=C) (far:=far) (i:=i) j (by omega)
  rw [jG,ih,Di (by omega),mj]
  have e:tW m C (j+1) (i+1)=tW m C j (i+1) ++ [((gD m C j (i+1):Nat):Int)]:=by unfold tW;rw [YJ,Yk];rfl
  rw [e,kI]
  by_cases hc:C i j=true
  ·rw [if_pos hc,if_pos hc,if_pos hc]
  ·rw [if_neg hc,if_neg hc,if_neg hc]
theorem Av {m:Nat} {C:Nat->Nat->Bool} {far:Nat}:(∀ i,i < m->gA m C i far < m+far)/\∀ j,j < far->gD m C j m < m+far:=by
 have p:=tV (m:=m) (C:=C) far
 refine ⟨fun i hi=>?_,fun j hj=>?_⟩
 ·exact YC.mp (p.mem_iff.mp (ZX _ (YZ.mpr ⟨i,YC.mpr hi,rfl⟩)))
 ·exact YC.mp (p.mem_iff.mp (YH _ (YZ.mpr ⟨j,YC.mpr hj,rfl⟩)))
theorem vY {m:Nat} {C:Nat->Nat->Bool} {far:Nat}:((List.range m).map (fun k=>gA m C k far) ++ (List.range far).map (fun l=>gD m C l m)).Nodup:=
 (tV (m:=m) (C:=C) far).nodup_iff.mpr List.nodup_range
theorem WQ {m:Nat} {C:Nat->Nat->Bool} {far i k:Nat} (hi:i < m) (hk:k < m) (h:i≠k):gA m C i far≠gA m C k far:=by
 have n:=(Aad.mp (vY (m:=m) (C:=C) (far:=far))).1
 have key:=ZW.mp n
 intro z
 rcases Nat.lt_or_gt_of_ne h with l | l
 ·exact key i k (by simpa using hi) (by simpa using hk) l (by simpa using z)
 ·exact key k i (by simpa using hk) (by simpa using hi) l (by simpa using z.symm)
theorem WR {m:Nat} {C:Nat->Nat->Bool} {far i k:Nat} (hi:i < far) (hk:k < far) (h:i≠k):gD m C i m≠gD m C k m:=by
 have n:=(Aad.mp (vY (m:=m) (C:=C) (far:=far))).2.1
 have key:=ZW.mp n
 intro z
 rcases Nat.lt_or_gt_of_ne h with l | l
 ·exact key i k (by simpa using hi) (by simpa using hk) l (by simpa using z)
 ·exact key k i (by simpa using hk) (by simpa using hi) l (by simpa using z.symm)
theorem WT {m:Nat} {C:Nat->Nat->Bool} {far i j:Nat} (hi:i < m) (hj:j < far):gA m C i far≠gD m C j m:=
 (Aad.mp (vY (m:=m) (C:=C) (far:=far))).2.2 _ (YZ.mpr ⟨i,YC.mpr hi,rfl⟩) _ (YZ.mpr ⟨j,YC.mpr hj,rfl⟩)
def qW (m:Nat) (C:Nat->Nat->Bool) (far:Nat) (R:List Int):Prop:=R.length=m+far/\(∀ j,j < far->R[gD m C j m]?=some (j:Int))/\∀ i,i < m->R[gA m C i far]?=some (((far+(m - 1 - i):Nat)):Int)
def qm:Str:=Str.ofString "abcdefghijklmnopqrstuvwxyz"
def tX (l:Str) (c:Nat):Bool:=(Builtin.Str.occurrences l ⟨#[c]⟩ 0 l.length 1).isEmpty
def Pg:Sp:=fun vs H Q _=>∃ (a:Addr) (S:List Nat) (i c:Nat) (top:Str),vs=[.ref a,.str ⟨#[c]⟩,.str top]/\S[i]?=some c/\top.length<=48/\H a=some (.lst ((nj S top.cps.toList i (top.length+1)).map V.int))/\
 ∀ r H',H r=none->Same H H'->H' r=some (.lst ((nj S top.cps.toList (i+1) (top.length+1)).map V.int))->Q (.ref r) H'
def Ul (K:W.Frag):Sp:=fun vs H Q _=>∃ (a:Addr) (ns:List Int) (k:Int),vs=[.ref a,.int k]/\SqL K H a (ns.map V.int)/\0<=k/\∀ n,Q (.int n) H
theorem over {H H':Hp} {r:Addr} {o:HO} (s:Same H H') (hn:H r=none):Same H (upd H' r o):=fun b u e=>by
 rw [aD (fun z=>by rw [z,hn] at e;cases e)];exact s b u e
theorem yL {S P:List Nat} {i n j:Nat} (h:j < n):uU ((nj S P i n).map V.int) (j:Int)=some (.int (lt S P i j)):=by
 refine bh ?_
 rw [XX,Pa h];rfl
def Thing (K:W.Frag) (H:Hp) (v:V):Prop:=(∃ z,v= .str z/\z.length<=5000)\/∃ T,TyOf K H v (.type T)/\PySem.W.kitOne K (.type T) (.type "str")=some false
def among (z l:Str):Bool:=z.cps.toList.all fun c=>!(Builtin.Str.occurrences l ⟨#[c]⟩ 0 l.length 1).isEmpty
def oR (v:V) (l:Str) (m:Int):Bool:=match v with
 | .str z=>decide ((z.length:Int)<=m) && among z l
 | _=>false
def spIs (K:W.Frag) (l:Str) (m:Int):Sp:=fun vs H Q _=>∃ (v:V),vs=[v]/\Thing K H v/\∀ H',Same H H'->Q (.bl (oR v l m)) H'
structure Txt (K:W.Frag) (mg:Str->Option Value):Prop where
 b_ValueError:mg "ValueError"=none
 b_all:mg "all"=none
 b_bool:mg "bool"=none
 b_enumerate:mg "enumerate"=none
 b_int:mg "int"=none
 b_isinstance:mg "isinstance"=none
 b_len:mg "len"=none
 b_list:mg "list"=none
 b_max:mg "max"=none
 b_min:mg "min"=none
 b_range:mg "range"=none
 b_repr:mg "repr"=none
 b_reversed:mg "reversed"=none
 b_str:mg "str"=none
 b_tuple:mg "tuple"=none
 b_zip:mg "zip"=none
 c_CROSS:∃ t,mg "CROSS"=some (.str "x" t)
 c_LETTERS:∃ t,mg "LETTERS"=some (.str "abcdefghijklmnopqrstuvwxyz" t)
 c_MOST_LETTERS:∃ t,mg "MOST_LETTERS"=some (.int 24 t)
 c_MOST_LINES:∃ t,mg "MOST_LINES"=some (.int 96 t)
 c_MOST_SIGNS:∃ t,mg "MOST_SIGNS"=some (.int 48 t)
 c_POINT:∃ t,mg "POINT"=some (.str "." t)
 c_TOUCH:∃ t,mg "TOUCH"=some (.str "o" t)
 d_is_number:Def K mg "is_number" pH
 d_is_within:Def K mg "is_within" pI
 d_is_span:Def K mg "is_span" tK
 d_need_place:Def K mg "need_place" nQ
 d_need_span:Def K mg "need_span" pJ
 d_is_row:Def K mg "is_row" rQ
 d_is_plain:Def K mg "is_plain" nU
 d_need_row:Def K mg "need_row" qN
 d_need_rows:Def K mg "need_rows" pK
 d_need_plain:Def K mg "need_plain" nY
 d_parted:Def K mg "parted" rR
 d_lines_above:Def K mg "lines_above" jP
 d_signs_of_row:Def K mg "signs_of_row" lE
 d_over_row:Def K mg "over_row" qO
 d_cells_of:Def K mg "cells_of" qP
 d_ends_of:Def K mg "ends_of" tL
 d_over_cells:Def K mg "over_cells" nZ
 d_ways_of:Def K mg "ways_of" qg
 d_is_turning:Def K mg "is_turning" n6
 d_need_turning:Def K mg "need_turning" lF
 d_counts:Def K mg "counts" rT
 d_asks_of:Def K mg "asks_of" tM
 d_lengths_below:Def K mg "lengths_below" jX
 d_lengths:Def K mg "lengths" tO
 d_beginning_costs:Def K mg "beginning_costs" gM
 d_cost:Def K mg "cost" Dh
 d_law_cell_at:Def K mg "_law_cell_at" mD
 d_law_great:Def K mg "_law_great" pL
 d_law_letter:Def K mg "_law_letter" n8
 d_law_row:Def K mg "_law_row" tQ
 d_law_last:Def K mg "_law_last" qQ
 d_law_number:Def K mg "_law_number" oh
 d_law_numbers:Def K mg "_law_numbers" jQ
 d_law_all:Def K mg "_law_all" qi
 d_law_ends:Def K mg "_law_ends" jC
 d_law_asked:Def K mg "_law_asked" lY
 d_law_rows:Def K mg "_law_rows" qR
 d_law_first:Def K mg "_law_first" lZ
 d_law_no_span:Def K mg "_law_no_span" jR
 d_law_no_plain:Def K mg "_law_no_plain" jo
 d_law_made:Def K mg "_law_made" qT
 d_law:Def K mg "law" xW
 x_PaneError:Hb K mg "PaneError"
 x_NoRow:uH K mg "NoRow" ["found"] "NoRow.__init__" Fw
 x_NoPlain:uH K mg "NoPlain" ["found"] "NoPlain.__init__" m9
 x_NoPlace:uH K mg "NoPlace" ["found"] "NoPlace.__init__" xX
 x_NoSpan:uH K mg "NoSpan" ["begin","end"] "NoSpan.__init__" ni
 x_NoTurning:uH K mg "NoTurning" ["found"] "NoTurning.__init__" uC
 o_Board:rP K mg "Board"
 n_Board:∀ f∈(["held_side","held_top","held_cells","held_coming","held_lines","held_ways"]:List Str),NoAttr K (aL mg "Board") f
 o_Tally:rP K mg "Tally"
 n_Tally:∀ f∈(["held_ends","held_counts"]:List Str),NoAttr K (aL mg "Tally") f
 o_Asks:rP K mg "Asks"
 n_Asks:∀ f∈(["held_tally","held_many","held_far"]:List Str),NoAttr K (aL mg "Asks") f
 o_Costs:rP K mg "Costs"
 n_Costs:∀ f∈(["held_asks","held_side","held_top"]:List Str),NoAttr K (aL mg "Costs") f
 m_Board___init__:gB K mg "Board" "__init__" "Board.__init__" jD
 m_Board_lines:gB K mg "Board" "lines" "Board.lines" mF
 m_Tally___init__:gB K mg "Tally" "__init__" "Tally.__init__" jE
 m_Tally_below:gB K mg "Tally" "below" "Tally.below" mG
 m_Asks___init__:gB K mg "Asks" "__init__" "Asks.__init__" jY
 m_Asks_reckoned:gB K mg "Asks" "reckoned" "Asks.reckoned" jZ
 m_Asks_reckoned_stretch:gB K mg "Asks" "reckoned_stretch" "Asks.reckoned_stretch" gb
 m_Asks_stretch:gB K mg "Asks" "stretch" "Asks.stretch" lG
 m_Costs___init__:gB K mg "Costs" "__init__" "Costs.__init__" jF
 m_Costs_side:gB K mg "Costs" "side" "Costs.side" ou
 m_Costs_top:gB K mg "Costs" "top" "Costs.top" pM
 m_Costs_reckoned_cost:gB K mg "Costs" "reckoned_cost" "Costs.reckoned_cost" gK
 m_Costs_of:gB K mg "Costs" "of" "Costs.of" qU
 m_Costs_row_of:gB K mg "Costs" "row_of" "Costs.row_of" jq
 m_Costs_rows_of:gB K mg "Costs" "rows_of" "Costs.rows_of" iU
 m_Costs_end_of:gB K mg "Costs" "end_of" "Costs.end_of" jr
 m_Costs_ends:gB K mg "Costs" "ends" "Costs.ends" kj
 m_Costs_best:gB K mg "Costs" "best" "Costs.best" km
 u_NoPlain_PaneError:Sub K mg "NoPlain" "PaneError" true
 u_NoPlain_NoPlain:Sub K mg "NoPlain" "NoPlain" true
 u_NoPlain_NoSpan:Sub K mg "NoPlain" "NoSpan" false
 u_NoSpan_PaneError:Sub K mg "NoSpan" "PaneError" true
 u_NoSpan_NoPlain:Sub K mg "NoSpan" "NoPlain" false
 u_NoSpan_NoSpan:Sub K mg "NoSpan" "NoSpan" true
 v_NoPlain:PySem.W.kitOne K (.ref (aL mg "NoPlain")) (.type "ValueError")=some true
 v_NoSpan:PySem.W.kitOne K (.ref (aL mg "NoSpan")) (.type "ValueError")=some true
section
variable {P:Program} {w:World} {K:W.Frag} {mg:Str->Option Value} {base:Heap}
theorem tY:(["column","many"]:List Str).Nodup:=by trivial
def Ph:Sp:=fun vs H Q _=>∃ m f:Nat,vs=[.int m,.int f]/\m<=48/\f<=48/\∀ D,H D=none->Q (.ref D) (upd H D (.lst (((List.range f).map fun l=>((m+l:Nat):Int)).map V.int)))
theorem vZ:aG ["many","far"] ["many","far"] (au jP):=⟨rfl,rfl,rfl,by trivial,rfl,by trivial,by trivial⟩
theorem gH (T:Txt K mg):nF P w K mg base 1 "lines_above" ["many","far"] Ph:=by
 refine gY T.d_lines_above vZ (fun _ _ _ _ _ _ us hl=>L2.my (fun _ _=>rfl) us hl) ?_ fun f cdv A outer s H vs Q E hr h=>?_
 ·rintro vs H Q E ⟨m,f,rfl,_⟩;rfl
 obtain ⟨m,f,rfl,hm,hf,q⟩:=h
 have hu:=hr.units0
 have hu64:=hr.units
 refine ⟨_,(aA (aH (gJ (sub:=[none,some 0]) (cY (N:=["many","far"]) (sc:=au jP) (N':=["column","many"]) (by trivial)) rfl rfl rfl (bJ aM T.b_range (aa (aq 1) ao)) (fun C s₀ H₀ ex=>(mW 0 (by trivial) tY)) (fun C s₀ H₀ ex=>dI) (fun C s₀ H₀ ex=>(aV aP (fQ 1 (by trivial)) (dF 0 (by trivial))))))),?_⟩
 walk_at "s"
 refine ⟨_,rfl,by omega,by omega,?_⟩
 refine vH (n:=f) (fun i ys H'=>H'=H/\ys=((List.range i).map fun l=>((m+l:Nat):Int)).map V.int) (Yz hf (by decide)) ⟨rfl,rfl⟩ ?_ ?_ ?_
 ·rintro i ys H' ⟨_,rfl⟩
  simp
 ·rintro i ys H' hi ⟨rfl,rfl⟩
  walk_at "s"
  refine ⟨KeepSt.set rfl,?_⟩
  walk_at "s"
  refine ⟨rfl,?_⟩
  rw [YJ,Yk,Yk]
  simp
 ·rintro ys H' ⟨rfl,rfl⟩ D hD
  walk_at "s"
  exact q D hD
def PrI (H:Hp):List V->List (Int×Int)->Prop
 | [],[]=>True
 | v :: vs,(x,y) :: L=>(∃ p,v= .ref p/\H p=some (.tup [.int x,.int y]))/\PrI H vs L
 | _,_=>False
theorem PrI.imp {H H':Hp} (h:∀ p us,H p=some (.tup us)->H' p=some (.tup us)):∀ {ws:List V} {L:List (Int×Int)},PrI H ws L->PrI H' ws L
 | [],[],_=>trivial
 | v :: vs,(x,y) :: L,⟨⟨p,e,hp⟩,r⟩=>⟨⟨p,e,h _ _ hp⟩,PrI.imp h r⟩
 | [],_ :: _,z=>z.elim
 | _ :: _,[],z=>z.elim
theorem PrI.same {H H':Hp} {ws:List V} {L:List (Int×Int)} (h:PrI H ws L) (s:Same H H'):PrI H' ws L:=h.imp fun p us e=>s _ _ e
theorem PrI.upd {H:Hp} {ws us:List V} {L:List (Int×Int)} {f:Addr} {o:HO} (h:PrI H ws L) (hf:H f=some (.lst us)):PrI (upd H f o) ws L:=h.imp fun p vs e=>by rw [aD (fun z=>by rw [z,hf] at e;cases e)];exact e
theorem PrI.push {H:Hp} {p:Addr} {x y:Int} (hp:H p=some (.tup [.int x,.int y])):∀ {ws:List V} {L:List (Int×Int)},PrI H ws L->PrI H (ws ++ [.ref p]) (L ++ [(x,y)])
 | [],[],_=>⟨⟨p,rfl,hp⟩,trivial⟩
 | v :: vs,(x,y) :: L,⟨a,r⟩=>⟨a,PrI.push hp r⟩
 | [],_ :: _,z=>z.elim
 | _ :: _,[],z=>z.elim
theorem PrI.len {H:Hp}:∀ {ws:List V} {L:List (Int×Int)},PrI H ws L->ws.length=L.length
 | [],[],_=>rfl
 | v :: vs,(x,y) :: L,⟨_,r⟩=>congrArg (· +1) (PrI.len r)
 | [],_ :: _,z=>z.elim
 | _ :: _,[],z=>z.elim
theorem PrI.get {H:Hp}:∀ {ws:List V} {L:List (Int×Int)} {k:Nat} {q:Int×Int},PrI H ws L->L[k]?=some q->∃ r,ws[k]?=some (.ref r)/\H r=some (.tup [.int q.1,.int q.2])
 | v :: vs,(x,y) :: L,0,q,⟨⟨p,e,hp⟩,_⟩,h=>by
  have h':(x,y)=q:=by simpa using h
  subst h'
  exact ⟨p,by rw [e];rfl,hp⟩
 | v :: vs,(x,y) :: L,k+1,q,⟨_,r⟩,h=>by
  obtain ⟨a,h1,h2⟩:=PrI.get (k:=k) r (by simpa using h)
  exact ⟨a,by simpa using h1,h2⟩
 | [],[],k,q,_,h=>by simp at h
 | [],_ :: _,_,_,z,_=>z.elim
 | _ :: _,[],_,_,z,_=>z.elim
def Aw (z:Nat->Bool) (ab:List Int) (left:Int) (n:Nat):List (Int×Int):=(List.range n).map fun j=>((jG z ab left j).2,ab.getD j 0)
theorem HB (z:Nat->Bool) (ab:List Int) (left:Int) (n:Nat):Aw z ab left (n+1)=Aw z ab left n ++ [((jG z ab left n).2,ab.getD n 0)]:=by unfold Aw;rw [YJ,Yk];rfl
def v4 (z:Str) (j:Nat):Bool:=decide ((⟨#[z.cps.getD j 0]⟩:Str)=Str.ofString "o")
def Um:Sp:=fun vs H Q _=>∃ (z:Str) (left:Int) (a:Addr) (ab:List Int),vs=[.str z,.int left,.ref a]/\H a=some (.lst (ab.map V.int))/\z.cps.size=ab.length/\ab.length<=48/\
 ∀ t c b H',H b=none->H c=none->Same H H'->H' t=some (.tup [.ref c,.ref b,.int (jG (v4 z) ab left ab.length).2])->H' b=some (.lst ((jG (v4 z) ab left ab.length).1.map V.int))->(∃ cs,H' c=some (.lst cs)/\PrI H' cs (Aw (v4 z) ab left ab.length))->Q (.ref t) H'
theorem jd:aG ["signs","left","above","coming","below","sign","line"] ["signs","left","above"] (au qO):=⟨rfl,rfl,rfl,by trivial,rfl,by trivial,by trivial⟩
theorem jH (T:Txt K mg):nF P w K mg base 1 "over_row" ["signs","left","above"] Um:=by
 refine gY T.d_over_row jd (fun _ _ _ _ _ _ us hl=>L2.oX (fun _ _ _=>rfl) us hl) ?_ fun f cdv A outer s H vs Q E hr h=>?_
 ·rintro vs H Q E ⟨z,left,a,ab,rfl,_⟩;rfl
 obtain ⟨z,left,a,ab,rfl,ha,hz,hl,q⟩:=h
 have hu:=hr.units0
 have hu64:=hr.units
 refine ⟨_,(az (aK (i:=3) jd.nd rfl fW (gW ao) rfl) (az (aK (i:=4) jd.nd rfl fW (gW ao) rfl) (az (fH Yx rfl (KC (K:=K) rfl rfl aM T.b_zip (aa (aq 0) (aa (aq 2) ao))) (lu (K:=K) rfl rfl (bK (bj (i:=5) jd.nd rfl fW rfl) (bK (bj (i:=6) jd.nd rfl fW rfl) jl))) (az (bu (gm (K:=K) rfl Yh Yo Yp dm (aq 3) (aa (jy (aa (aq 1) (aa (aq 6) ao))) ao))) (aA (dG (fZ (CG (K:=K) rfl hu64) (aq 5) (qI aM T.c_TOUCH (by trivial)) (by walk_at "p")) (az (bu (gm (K:=K) rfl Yh Yo Yp dm (aq 4) (aa (aq 1) ao))) (aA (aK (i:=1) jd.nd rfl fW (aq 6) rfl))) (aA (bu (gm (K:=K) rfl Yh Yo Yp dm (aq 4) (aa (aq 6) ao)))))))) (aA (aH (jy (aa (aq 3) (aa (aq 4) (aa (aq 1) ao))))))))),?_⟩
 walk_at "s"
 refine lD rfl fun C nC=>?_
 walk_at "s"
 refine lD rfl fun B nB=>?_
 have nBH:H B=none:=((Same.refl H).upd nC).free nB
 have nCB:C≠B:=fun z=>by rw [z,aj] at nB;cases nB
 have e0:upd (upd H C (.lst [])) B (.lst []) C=some (.lst []):=by rw [aD nCB];exact aj
 have S0:Same H (upd (upd H C (.lst [])) B (.lst [])):=((Same.refl H).upd nC).upd nB
 walk_at "s"
 refine ⟨z,a,ab.map V.int,rfl,SqL.of (S0 _ _ ha),?_⟩
 refine Ho (ys:=ab.map V.int) (fun j U H'=>Same H H'/\(∃ cs,H' C=some (.lst cs)/\cs.length=j/\PrI H' cs (Aw (v4 z) ab left j))/\H' B=some (.lst ((jG (v4 z) ab left j).1.map V.int))/\
   ∃ x5 x6,U=[some (.str z),some (.int (jG (v4 z) ab left j).2),some (.ref a),some (.ref C),some (.ref B),x5,x6])
  (by rw [X8];exact hz) ⟨S0,⟨[],e0,rfl,trivial⟩,aj,none,none,rfl⟩ (fun i U H' _ h=>SqL.of (h.1 _ _ ha)) ?_ ?_
 ·rintro j U H1 T0 y hy ⟨S1,⟨cs,hC,hcs,hW⟩,hB,x5,x6,rfl⟩ nT
  obtain ⟨n,hn,rfl⟩:∃ n,ab[j]?=some n/\y=V.int n:=by
   rw [XX] at hy
   cases e:ab[j]? with
   | none=>rw [e] at hy;cases hy
   | some n=>rw [e] at hy;exact ⟨n,rfl,(Ym hy).symm⟩
  have hj:j < ab.length:=(XM.mp hn).1
  have en:ab.getD j 0=n:=by rw [X6,hn];rfl
  refine bf (xs:=[.str ⟨#[z.cps.getD j 0]⟩,.int n]) (SqT.of aj) rfl ?_
  have hC2:=aZ nT hC (o:=.tup [.str ⟨#[z.cps.getD j 0]⟩,.int n])
  have hB2:=aZ nT hB (o:=.tup [.str ⟨#[z.cps.getD j 0]⟩,.int n])
  have hW2:=hW.same ((Same.refl H1).upd nT (o:=.tup [.str ⟨#[z.cps.getD j 0]⟩,.int n]))
  have S2:=S1.upd nT (o:=.tup [.str ⟨#[z.cps.getD j 0]⟩,.int n])
  generalize upd H1 T0 (.tup [.str ⟨#[z.cps.getD j 0]⟩,.int n])=H2 at hC2 hB2 S2 hW2 ⊢
  have hs:100<=sizeLine:=by decide
  walk_at "s"
  refine ⟨.inl ⟨rfl,_,SqL.of hC2⟩,?_⟩
  walk_at "s"
  refine lD rfl fun p np=>?_
  have hC3:=aZ np hC2 (o:=.tup [.int (jG (v4 z) ab left j).2,.int n])
  have hB3:=aZ np hB2 (o:=.tup [.int (jG (v4 z) ab left j).2,.int n])
  have S3:=S2.upd np (o:=.tup [.int (jG (v4 z) ab left j).2,.int n])
  have hW3:PrI (upd H2 p (.tup [.int (jG (v4 z) ab left j).2,.int n])) (cs ++ [.ref p]) (Aw (v4 z) ab left (j+1)):=by
   rw [HB,en]
   exact (hW2.same ((Same.refl H2).upd np)).push aj
  generalize upd H2 p (.tup [.int (jG (v4 z) ab left j).2,.int n])=H3 at hC3 hB3 S3 hW3 ⊢
  walk_at "s"
  refine di hC3 (by omega) ?_
  have S4:=over (o:=.lst (cs ++ [.ref p])) S3 nC
  have hC4:upd H3 C (.lst (cs ++ [.ref p])) C=some (.lst (cs ++ [.ref p])):=aj
  have hB4:upd H3 C (.lst (cs ++ [.ref p])) B=some (.lst ((jG (v4 z) ab left j).1.map V.int)):=by rw [aD nCB.symm];exact hB3
  have hW4:=hW3.upd hC3 (o:=.lst (cs ++ [.ref p]))
  generalize upd H3 C (.lst (cs ++ [.ref p]))=H4 at hC4 hB4 S4 hW4 ⊢
  have hlB:((jG (v4 z) ab left j).1.map V.int).length < sizeLine:=by rw [X8,Ar];omega
  walk_at "s"
  refine qH (fun hk=>?_) (fun hk=>?_)
  ·have hk':v4 z j=true:=Yj (V.str.inj hk)
   walk_at "s"
   refine ⟨.inl ⟨rfl,_,SqL.of hB4⟩,?_⟩
   walk_at "s"
   refine di hB4 hlB ?_
   walk_at "s"
   refine ⟨over S4 nBH,⟨cs ++ [.ref p],by rw [aD nCB];exact hC4,by simp [hcs],hW4.upd hB4⟩,?_,some (.str ⟨#[z.cps.getD j 0]⟩),some (.int n),?_⟩
   ·rw [aj,jG,if_pos hk',Yk];rfl
   ·rw [jG,if_pos hk',en];rfl
  ·have hk':¬ v4 z j=true:=fun h=>hk (congrArg V.str (of_decide_eq_true h))
   walk_at "s"
   refine ⟨.inl ⟨rfl,_,SqL.of hB4⟩,?_⟩
   walk_at "s"
   refine di hB4 hlB ?_
   refine ⟨over S4 nBH,⟨cs ++ [.ref p],by rw [aD nCB];exact hC4,by simp [hcs],hW4.upd hB4⟩,?_,some (.str ⟨#[z.cps.getD j 0]⟩),some (.int n),?_⟩
   ·rw [aj,jG,if_neg hk',en,Yk];rfl
   ·rw [jG,if_neg hk'];rfl
 ·rintro U H1 ⟨S1,⟨cs,hC,hcs,hW⟩,hB,x5,x6,rfl⟩
  rw [X8] at hB hW
  walk_at "s"
  refine lD rfl fun p np=>?_
  walk_at "s"
  rw [X8]
  exact q p C B _ nBH nC (S1.upd np) aj (aZ np hB) ⟨cs,aZ np hC,hW.same ((Same.refl H1).upd np)⟩
def Uo:Sp:=fun vs H Q _=>∃ (m far:Nat) (C:Nat->Nat->Bool) (b r:Addr),vs=[.ref b,.ref r]/\m<=48/\far<=48/\H b=some (.lst ((tW m C far m).map V.int))/\H r=some (.lst ((Hz m C far m).map V.int))/\
 ∀ e R H',H e=none->Same H H'->qW m C far R->H' e=some (.lst (R.map V.int))->Q (.ref e) H'
theorem Q3 {n k:Nat} (h:k < n):Bs n (k:Int)=some k:=by
 unfold Bs
 rw [if_pos (by omega),if_pos (by omega)];rfl
theorem Up (n:Nat):(List.replicate n [V.int 0]).flatten=(List.replicate n (0:Int)).map V.int:=by
 induction n with
 | zero=>rfl
 | succ n ih=>rw [Zw,Zu,ih,Zw];rfl
theorem jJ:aG ["below","right","ends","column","line","place"] ["below","right"] (au tL):=⟨rfl,rfl,rfl,by trivial,rfl,by trivial,by trivial⟩
theorem tZ (T:Txt K mg):nF P w K mg base 1 "ends_of" ["below","right"] Uo:=by
 refine gY T.d_ends_of jJ (fun _ _ _ _ _ _ us hl=>L2.my (fun _ _=>rfl) us hl) ?_ fun f cdv A outer s H vs Q E hr h=>?_
 ·rintro vs H Q E ⟨m,far,C,b,r,rfl,_⟩;rfl
 obtain ⟨m,far,C,b,r,rfl,hm,hf,hb,hr',q⟩:=h
 have hu:=hr.units0
 have hu64:=hr.units
 refine ⟨_,(az (aK (i:=2) jJ.nd rfl fW (aV iR (gW (aa aC ao)) (aV aP (aB (aF (K:=K) rfl) aM T.b_len aO (aa (aq 0) ao) (by trivial) (by trivial)) (aB (aF (K:=K) rfl) aM T.b_len aO (aa (aq 1) ao) (by trivial) (by trivial)))) rfl) (az (fH Yx rfl (lX (K:=K) rfl rfl aM T.b_enumerate (aa (aq 0) ao)) (lu (K:=K) rfl rfl (bK (bj (i:=3) jJ.nd rfl fW rfl) (bK (bj (i:=4) jJ.nd rfl fW rfl) jl))) (aA (uW (ts:=zJ) (aq 3) (yz (aq 2) (aq 4) set_list)))) (az (fH Yx rfl (Dd (K:=K) rfl aM T.b_enumerate aM T.b_reversed (aq 1)) (lu (K:=K) rfl rfl (bK (bj (i:=5) jJ.nd rfl fW rfl) (bK (bj (i:=4) jJ.nd rfl fW rfl) jl))) (aA (uW (ts:=zJ) (aV aP (aB (aF (K:=K) rfl) aM T.b_len aO (aa (aq 0) ao) (by trivial) (by trivial)) (aq 5)) (yz (aq 2) (aq 4) set_list)))) (aA (aH (aq 2)))))),?_⟩
 walk_at "s"
 have hs:1000<=sizeLine:=by decide
 have lb:((tW m C far m).map V.int).length=far:=by simp [tW]
 have lr:((Hz m C far m).map V.int).length=m:=by simp [Hz]
 refine ⟨by decide,fun z nz=>?_⟩
 walk_at "s"
 refine fu (SqL.of (aZ nz hb)) ?_
 rw [lb]
 walk_at "s"
 refine fu (SqL.of (aZ nz hr')) ?_
 rw [lr]
 walk_at "s"
 have eN:((far:Int)+(m:Int)).toNat=m+far:=by omega
 refine Cw aj (by omega) (by omega) (by rw [eN];simp;omega) fun e ne=>?_
 rw [eN,Up]
 have neH:H e=none:=((Same.refl H).upd nz).free ne
 have S0:=((Same.refl H).upd (o:=.lst [.int 0]) nz).upd (o:=.lst ((List.replicate (m+far) (0:Int)).map V.int)) ne
 have e0:=aj (H:=upd H z (.lst [.int 0])) (a:=e) (o:=.lst ((List.replicate (m+far) (0:Int)).map V.int))
 generalize upd (upd H z (.lst [.int 0])) e (.lst ((List.replicate (m+far) (0:Int)).map V.int))=H1 at S0 e0 ⊢
 have nbe:b≠e:=fun z=>by rw [z,neH] at hb;cases hb
 have nre:r≠e:=fun z=>by rw [z,neH] at hr';cases hr'
 walk_at "s"
 refine .inr ⟨b,_,rfl,SqL.of (S0 _ _ hb),?_⟩
 refine qd (xs:=(tW m C far m).map V.int) (fun j U H'=>Same H H'/\(∃ R:List Int,H' e=some (.lst (R.map V.int))/\R.length=m+far/\∀ l,l < j->R[gD m C l m]?=some (l:Int))/\∃ x3 x4 x5,U=[some (.ref b),some (.ref r),some (.ref e),x3,x4,x5])
  ⟨S0,⟨_,e0,by simp,fun l hl=>absurd hl (by omega)⟩,none,none,none,rfl⟩ (fun i U H' _ h=>SqL.of (h.1 _ _ hb)) ?_ ?_
 ·rintro j U H2 T0 x hx ⟨S2,⟨R,hR,lR,gR⟩,x3,x4,x5,rfl⟩ nT
  have hj:j < far:=by
   have:=(XM.mp hx).1
   rw [lb] at this;exact this
  obtain rfl:x=V.int ((gD m C j m:Nat):Int):=by
   rw [XX,Pb hj] at hx
   exact (Ym hx).symm
  have hlt:=Av (m:=m) (C:=C) (far:=far) |>.2 j hj
  refine bf (xs:=[.int j,.int ((gD m C j m:Nat):Int)]) (SqT.of aj) rfl ?_
  have hR2:=aZ nT hR (o:=.tup [.int j,.int ((gD m C j m:Nat):Int)])
  have S3:=S2.upd nT (o:=.tup [.int j,.int ((gD m C j m:Nat):Int)])
  generalize upd H2 T0 (.tup [.int j,.int ((gD m C j m:Nat):Int)])=H3 at hR2 S3 ⊢
  walk_at "s"
  refine bH hR2 (Q3 (by rw [X8,lR];exact hlt)) ?_
  rw [← List.map_set]
  refine ⟨over S3 neH,⟨R.set (gD m C j m) j,aj,by simp [lR],fun l hl=>?_⟩,some (.int j),some (.int ((gD m C j m:Nat):Int)),x5,rfl⟩
  by_cases hlj:l=j
  ·subst hlj
   rw [Zr (by omega)]
  ·rw [Zf (WR (m:=m) (C:=C) (far:=far) hj (by omega) (fun z=>hlj z.symm))]
   exact gR l (by omega)
 ·rintro U H2 ⟨S2,⟨R,hR,lR,gR⟩,x3,x4,x5,rfl⟩
  rw [lb] at gR
  walk_at "s"
  refine ⟨r,(Hz m C far m).map V.int,rfl,SqL.of (S2 _ _ hr'),?_⟩
  refine Hk (xs:=(Hz m C far m).map V.int) (fun j U H'=>Same H H'/\(∃ R:List Int,H' e=some (.lst (R.map V.int))/\R.length=m+far/\(∀ l,l < far->R[gD m C l m]?=some (l:Int))/\∀ l,l < j->R[gA m C (m - 1 - l) far]?=some ((far+l:Nat):Int))/\∃ x3 x4 x5,U=[some (.ref b),some (.ref r),some (.ref e),x3,x4,x5])
   ⟨S2,⟨R,hR,lR,gR,fun l hl=>absurd hl (by omega)⟩,_,_,_,rfl⟩ (fun i U H' _ h=>SqL.of (h.1 _ _ hr')) ?_ ?_
  ·rintro j U H3 T0 x hj hx ⟨S3,⟨R,hR,lR,gR,aR⟩,x3,x4,x5,rfl⟩ nT
   rw [lr] at hj hx
   obtain rfl:x=V.int ((gA m C (m - 1 - j) far:Nat):Int):=by
    rw [XX,Uk (by omega)] at hx
    exact (Ym hx).symm
   have hlt:=Av (m:=m) (C:=C) (far:=far) |>.1 (m - 1 - j) (by omega)
   refine bf (xs:=[.int j,.int ((gA m C (m - 1 - j) far:Nat):Int)]) (SqT.of aj) rfl ?_
   have hR2:=aZ nT hR (o:=.tup [.int j,.int ((gA m C (m - 1 - j) far:Nat):Int)])
   have S4:=S3.upd nT (o:=.tup [.int j,.int ((gA m C (m - 1 - j) far:Nat):Int)])
   generalize upd H3 T0 (.tup [.int j,.int ((gA m C (m - 1 - j) far:Nat):Int)])=H4 at hR2 S4 ⊢
   walk_at "s"
   refine fu (SqL.of (S4 _ _ hb)) ?_
   rw [lb]
   walk_at "s"
   refine bH hR2 (Q3 (by rw [X8,lR];exact hlt)) ?_
   rw [← List.map_set]
   refine ⟨over S4 neH,⟨R.set (gA m C (m - 1 - j) far) ((far:Int)+j),aj,by simp [lR],fun l hl=>?_,fun l hl=>?_⟩,x3,some (.int ((gA m C (m - 1 - j) far:Nat):Int)),some (.int j),rfl⟩
   ·rw [Zf (WT (m:=m) (C:=C) (far:=far) (by omega) hl)]
    exact gR l hl
   ·by_cases hlj:l=j
    ·subst hlj
     rw [Zr (by omega)]
     congr 1
    ·rw [Zf (WQ (m:=m) (C:=C) (far:=far) (by omega) (by omega) (by omega))]
     exact aR l (by omega)
  ·rintro U H3 ⟨S3,⟨R,hR,lR,gR,aR⟩,x3,x4,x5,rfl⟩
   rw [lr] at aR
   walk_at "s"
   refine q e R H3 neH S3 ⟨lR,gR,fun i hi=>?_⟩ hR
   have:=aR (m - 1 - i) (by omega)
   rw [show m - 1 - (m - 1 - i)=i by omega] at this
   exact this
def cC (rows:List Str) (i:Nat):Nat->Bool:=v4 (rows.getD i ⟨#[]⟩)
def Ax (m:Nat) (C:Nat->Nat->Bool) (far i:Nat):List (Int×Int):=(List.range far).map fun j=>(((gA m C i j:Nat):Int),((gD m C j i:Nat):Int))
def Cmg (H:Hp) (P:Addr->Prop) (m:Nat) (C:Nat->Nat->Bool) (far:Nat) (cs:List V) (n:Nat):Prop:=cs.length=n/\∀ i,i < n->∃ c ws,cs[i]?=some (.ref c)/\P c/\H c=some (.lst ws)/\PrI H ws (Ax m C far i)
theorem Cmg.imp {H H':Hp} {P P':Addr->Prop} {m:Nat} {C:Nat->Nat->Bool} {far:Nat} {cs:List V} {n:Nat} (h:Cmg H P m C far cs n) (ht:∀ p us,H p=some (.tup us)->H' p=some (.tup us)) (hl:∀ c ws,P c->H c=some (.lst ws)->H' c=some (.lst ws)) (hp:∀ c,P c->P' c):Cmg H' P' m C far cs n:=
 ⟨h.1,fun i hi=>by
  obtain ⟨c,ws,e1,e2,e3,e4⟩:=h.2 i hi
  exact ⟨c,ws,e1,hp c e2,hl c ws e2 e3,e4.imp ht⟩⟩
theorem Cmg.same {H H':Hp} {P:Addr->Prop} {m:Nat} {C:Nat->Nat->Bool} {far:Nat} {cs:List V} {n:Nat} (h:Cmg H P m C far cs n) (s:Same H H'):Cmg H' P m C far cs n:=h.imp (fun p us e=>s _ _ e) (fun c ws _ e=>s _ _ e) fun _ z=>z
theorem Cmg.push {H:Hp} {P:Addr->Prop} {m:Nat} {C:Nat->Nat->Bool} {far:Nat} {cs:List V} {n:Nat} {c:Addr} {ws:List V} (h:Cmg H P m C far cs n) (hP:P c) (hc:H c=some (.lst ws)) (hw:PrI H ws (Ax m C far n)):Cmg H P m C far (cs ++ [.ref c]) (n+1):=by
 refine ⟨by rw [Za,h.1];rfl,fun i hi=>?_⟩
 by_cases e:i=n
 ·subst e
  exact ⟨c,ws,by rw [Yn (by rw [h.1];exact XQ _),h.1,Zm];rfl,hP,hc,hw⟩
 ·obtain ⟨d,us,e1,e2⟩:=h.2 i (by omega)
  exact ⟨d,us,by rw [Ye (by rw [h.1];omega)];exact e1,e2⟩
theorem Cmg.upd {H:Hp} {P:Addr->Prop} {m:Nat} {C:Nat->Nat->Bool} {far:Nat} {cs us:List V} {n:Nat} {f:Addr} {o:HO} (h:Cmg H P m C far cs n) (hf:H f=some (.lst us)) (hP:∀ c,P c->c≠f):Cmg (upd H f o) P m C far cs n:=
 h.imp (fun p vs e=>by rw [aD (fun z=>by rw [z,hf] at e;cases e)];exact e) (fun c ws pc e=>by rw [aD (hP c pc)];exact e) fun _ z=>z
def Pj:Sp:=fun vs H Q _=>∃ (m far:Nat) (rows:List Str) (c:Addr),vs=[.int m,.int far,.ref c]/\H c=some (.lst (rows.map V.str))/\rows.length=m/\m<=48/\far<=48/\(∀ z∈rows,z.cps.size=far)/\
 ∀ t cm e R H',H e=none->Same H H'->H' t=some (.tup [.ref cm,.ref e])->qW m (cC rows) far R->H' e=some (.lst (R.map V.int))->(∃ cs,H' cm=some (.lst cs)/\Cmg H' (fun _=>True) m (cC rows) far cs m)->Q (.ref t) H'
theorem Uq {m:Nat} {C:Nat->Nat->Bool} {far i:Nat}:Aw (C i) (tW m C far i) ((gA m C i 0:Nat):Int) far=Ax m C far i:=by
 unfold Aw Ax
 refine Zx fun j hj=>?_
 have hj':=YC.mp hj
 rw [yK j (by omega),Di hj']
theorem K5 {m:Nat} {C:Nat->Nat->Bool} {far:Nat}:tW m C far 0=(List.range far).map fun l=>((m+l:Nat):Int):=by
 unfold tW
 simp only [oA]
theorem uZ {m:Nat} {C:Nat->Nat->Bool} {far i:Nat}:(tW m C far i).length=far:=by simp [tW]
theorem Pk {m:Nat} {C:Nat->Nat->Bool} {far i:Nat}:(Hz m C far i).length=i:=by simp [Hz]
theorem eZ:aG ["many","far","cells","above","coming","right","row","signs","gone"] ["many","far","cells"] (au nZ):=⟨rfl,rfl,rfl,by trivial,rfl,by trivial,by trivial⟩
theorem oE (T:Txt K mg):nF P w K mg base 2 "over_cells" ["many","far","cells"] Pj:=by
 have gH:=gH (P:=P) (w:=w) (base:=base) T
 have jH:=jH (P:=P) (w:=w) (base:=base) T
 have tZ:=tZ (P:=P) (w:=w) (base:=base) T
 refine gY T.d_over_cells eZ (fun _ _ _ _ _ _ us hl=>L2.oX (fun _ _ _=>rfl) us hl) ?_ fun f cdv A outer s H vs Q E hr h=>?_
 ·rintro vs H Q E ⟨m,far,rows,c,rfl,_⟩;rfl
 obtain ⟨m,far,rows,c,rfl,hc,hr',hm,hf,hz,q⟩:=h
 have hu:=hr.units0
 have hu64:=hr.units
 refine ⟨_,(az (aK (i:=3) eZ.nd rfl fW (aJ gH (hr.mono (by decide)) aM (aa (aq 0) (aa (aq 1) ao)) (by trivial)) rfl) (az (aK (i:=4) eZ.nd rfl fW (gW ao) rfl) (az (aK (i:=5) eZ.nd rfl fW (gW ao) rfl) (az (fH Yx rfl (lX (K:=K) rfl rfl aM T.b_enumerate (aa (aq 2) ao)) (lu (K:=K) rfl rfl (bK (bj (i:=6) eZ.nd rfl fW rfl) (bK (bj (i:=7) eZ.nd rfl fW rfl) jl))) (az (aK (i:=8) eZ.nd rfl fW (aJ jH (hr.mono (by decide)) aM (aa (aq 7) (aa (aV fY (aV fY (aq 0) aC) (aq 6)) (aa (aq 3) ao))) (by trivial)) rfl) (az (bu (gm (K:=K) rfl Yh Yo Yp dm (aq 4) (aa (c7 (K:=K) rfl (aq 8) aC) ao))) (az (aK (i:=3) eZ.nd rfl fW (c7 (K:=K) rfl (aq 8) aC) rfl) (aA (bu (gm (K:=K) rfl Yh Yo Yp dm (aq 5) (aa (c7 (K:=K) rfl (aq 8) aC) ao)))))))) (aA (aH (jy (aa (aq 4) (aa (aJ tZ (hr.mono (by decide)) aM (aa (aq 3) (aa (aq 5) ao)) (by trivial)) ao))))))))),?_⟩
 walk_at "s"
 have hs:1000<=sizeLine:=by decide
 refine ⟨m,far,rfl,hm,hf,fun A0 nA=>?_⟩
 rw [← K5 (C:=cC rows)]
 have SA:=(Same.refl H).upd nA (o:=.lst ((tW m (cC rows) far 0).map V.int))
 have eA:=aj (H:=H) (a:=A0) (o:=.lst ((tW m (cC rows) far 0).map V.int))
 generalize upd H A0 (.lst ((tW m (cC rows) far 0).map V.int))=H1 at SA eA ⊢
 walk_at "s"
 refine lD rfl fun CM nC=>?_
 have SC:=SA.upd nC (o:=.lst [])
 have eC:=aj (H:=H1) (a:=CM) (o:=.lst [])
 have eA2:=aZ nC eA (o:=.lst [])
 have nCH:=SA.free nC
 generalize upd H1 CM (.lst [])=H2 at SC eC eA2 ⊢
 walk_at "s"
 refine lD rfl fun RT nR=>?_
 have SR:=SC.upd nR (o:=.lst [])
 have eR:=aj (H:=H2) (a:=RT) (o:=.lst [])
 have eA3:=aZ nR eA2 (o:=.lst [])
 have eC3:=aZ nR eC (o:=.lst [])
 have nRH:=SC.free nR
 have nCR:CM≠RT:=fun z=>by rw [z,nR] at eC;cases eC
 generalize upd H2 RT (.lst [])=H3 at SR eR eA3 eC3 ⊢
 walk_at "s"
 refine .inr ⟨c,_,rfl,SqL.of (SR _ _ hc),?_⟩
 refine qd (xs:=rows.map V.str) (fun i U H'=>Same H H'/\(∃ cs,H' CM=some (.lst cs)/\cs.length=i/\Cmg H' (fun c=>c≠CM/\c≠RT) m (cC rows) far cs i)/\H' RT=some (.lst ((Hz m (cC rows) far i).map V.int))/\
   ∃ a x6 x7 x8,H' a=some (.lst ((tW m (cC rows) far i).map V.int))/\a≠CM/\a≠RT/\U=[some (.int m),some (.int far),some (.ref c),some (.ref a),some (.ref CM),some (.ref RT),x6,x7,x8])
  ⟨SR,⟨[],eC3,rfl,rfl,fun i hi=>absurd hi (Zz _)⟩,eR,A0,none,none,none,eA3,(fun z=>by rw [z,nC] at eA;cases eA),(fun z=>by rw [z,nR] at eA2;cases eA2),rfl⟩ (fun i U H' _ h=>SqL.of (h.1 _ _ hc)) ?_ ?_
 ·rintro i U H4 T0 x hx ⟨S4,⟨cs,hC,hcs,hG⟩,hR,a,x6,x7,x8,ha,nac,nar,rfl⟩ nT
  have hi:i < rows.length:=by
   have:=(XM.mp hx).1
   simpa using this
  obtain ⟨z,hzi,rfl⟩:∃ z,rows[i]?=some z/\x=V.str z:=by
   rw [XX] at hx
   cases e:rows[i]? with
   | none=>rw [e] at hx;cases hx
   | some n=>rw [e] at hx;exact ⟨n,rfl,(Ym hx).symm⟩
  have ez:rows.getD i ⟨#[]⟩=z:=by rw [X6,hzi];rfl
  refine bf (xs:=[.int i,.str z]) (SqT.of aj) rfl ?_
  have hC5:=aZ nT hC (o:=.tup [.int i,.str z])
  have hR5:=aZ nT hR (o:=.tup [.int i,.str z])
  have ha5:=aZ nT ha (o:=.tup [.int i,.str z])
  have S5:=S4.upd nT (o:=.tup [.int i,.str z])
  have hG5:=hG.same ((Same.refl H4).upd nT (o:=.tup [.int i,.str z]))
  generalize upd H4 T0 (.tup [.int i,.str z])=H5 at hC5 hR5 ha5 S5 hG5 ⊢
  walk_at "s"
  rw [show ((m:Int) - 1 - (i:Int))=((gA m (cC rows) i 0:Nat):Int) by rw [kE];omega]
  refine ⟨z,_,a,_,rfl,ha5,by rw [uZ];exact hz z (YG hzi),by rw [uZ];exact hf,fun t c1 b H6 nb nc1 S6 ht hb hcc=>?_⟩
  have eC':v4 z=cC rows i:=by unfold cC;rw [ez]
  rw [eC',uZ,yK far (XQ _)] at ht hb
  rw [eC',uZ,Uq] at hcc
  obtain ⟨ws,hc1,hws⟩:=hcc
  have nc1C:c1≠CM:=fun z=>by rw [z,hC5] at nc1;cases nc1
  have nc1R:c1≠RT:=fun z=>by rw [z,hR5] at nc1;cases nc1
  have hG6:=(hG5.same S6).push ⟨nc1C,nc1R⟩ hc1 hws
  have hC6:=S6 _ _ hC5
  have hR6:=S6 _ _ hR5
  have nbC:b≠CM:=fun z=>by rw [z,hC5] at nb;cases nb
  have nbR:b≠RT:=fun z=>by rw [z,hR5] at nb;cases nb
  have tC:t≠CM:=fun z=>by rw [z,hC6] at ht;cases ht
  have tR:t≠RT:=fun z=>by rw [z,hR6] at ht;cases ht
  walk_at "s"
  refine ⟨.inl ⟨rfl,_,SqL.of hC6⟩,?_⟩
  walk_at "s"
  refine di hC6 (by omega) ?_
  have S7:=over (o:=.lst (cs ++ [.ref c1])) (S5.trans S6) nCH
  have hC7:=aj (H:=H6) (a:=CM) (o:=.lst (cs ++ [.ref c1]))
  have hR7:upd H6 CM (.lst (cs ++ [.ref c1])) RT=_:=(aD nCR.symm).trans hR6
  have ht7:upd H6 CM (.lst (cs ++ [.ref c1])) t=_:=(aD tC).trans ht
  have hb7:upd H6 CM (.lst (cs ++ [.ref c1])) b=_:=(aD nbC).trans hb
  have hG7:=hG6.upd hC6 (o:=.lst (cs ++ [.ref c1])) fun c hc=>hc.1
  generalize upd H6 CM (.lst (cs ++ [.ref c1]))=H7 at S7 hC7 hR7 ht7 hb7 hG7 ⊢
  clear ht hb
  walk_at "s"
  refine ⟨.inl ⟨rfl,_,SqL.of hR7⟩,?_⟩
  walk_at "s"
  refine di hR7 (by rw [X8,Pk];omega) ?_
  refine ⟨over S7 nRH,⟨cs ++ [.ref c1],(aD nCR).trans hC7,by simp [hcs],hG7.upd hR7 fun c hc=>hc.2⟩,?_,b,some (.int i),some (.str z),some (.ref t),(aD nbR).trans hb7,nbC,nbR,rfl⟩
  rw [aj]
  have e:Hz m (cC rows) far (i+1)=Hz m (cC rows) far i ++ [((gA m (cC rows) i far:Nat):Int)]:=by unfold Hz;rw [YJ,Yk];rfl
  rw [e,Yk];rfl
 ·rintro U H4 ⟨S4,⟨cs,hC,hcs,hG⟩,hR,a,x6,x7,x8,ha,nac,nar,rfl⟩
  rw [X8,hr'] at hR ha hG
  walk_at "s"
  refine ⟨m,far,cC rows,a,RT,rfl,hm,hf,ha,hR,fun e R H5 ne S5 hE hR5=>?_⟩
  walk_at "s"
  refine lD rfl fun t nt=>?_
  walk_at "s"
  exact q t CM e R _ (S4.free ne) ((S4.trans S5).upd nt) aj hE (aZ nt hR5) ⟨cs,aZ nt (S5 _ _ hC),(hG.same (S5.upd nt)).imp (fun _ _ z=>z) (fun _ _ _ z=>z) fun _ _=>trivial⟩
end
def Kd (K:W.Frag) (H:Hp) (v:V):Prop:=(∃ n,v= .int n)\/(∃ b,v= .bl b)\/∃ T,TyOf K H v (.type T)/\PySem.W.kitOne K (.type T) (.type "int")=some false
theorem Kd.same {K:W.Frag} {H H':Hp} {v:V} (h:Kd K H v) (s:Same H H'):Kd K H' v:=by
 rcases h with h | h | ⟨T,a,c⟩
 ·exact .inl h
 ·exact .inr (.inl h)
 ·exact .inr (.inr ⟨T,a.mono fun b o e _=>s b o e,c⟩)
def WW:V->Bool
 | .int _=>true
 | _=>false
def inB (v:V) (lo hi:Int):Bool:=match v with
 | .int n=>decide (lo<=n) && decide (n<=hi)
 | _=>false
section
variable {P:Program} {w:World} {K:W.Frag} {mg:Str->Option Value} {base:Heap}
theorem Same.put {H H':Hp} {p:Addr} {o:HO} (s:Same H H') (hn:H p=none):Same H (upd H' p o):=fun b u e=>by
 rw [aD (fun z=>by rw [z,hn] at e;cases e)]
 exact s b u e
theorem Same.back {H H':Hp} {p:Addr} (s:Same H H') (h:H' p=none):H p=none:=by
 cases e:H p with
 | none=>rfl
 | some o=>rw [s _ _ e] at h;cases h
theorem Thing.same {H H':Hp} {v:V} (h:Thing K H v) (s:Same H H'):Thing K H' v:=by
 rcases h with h | ⟨T,t,k⟩
 ·exact .inl h
 ·exact .inr ⟨T,t.mono fun b o e _=>s b o e,k⟩
theorem Ay:(["sign"]:List Str).Nodup:=by trivial
def LP:Str:=qm ++ Str.ofString "."
def RB (v:V):Bool:=oR v (qm ++ Str.ofString ".") 48
def t7 (z:Str):Prop:=z.length<=48/\RB (.str z)=true
theorem K6 {H:Hp} {v:V} {ty:String} {l:Str} {m:Int} (h:TyOf K H v (.type ty)) (k:PySem.W.kitOne K (.type ty) (.type "str")=some false):oR v l m=false:=by
 cases v with
 | str z=>
  cases h
  have:PySem.W.kitOne K (.type "str") (.type "str")=some true:=rfl
  rw [this] at k;cases k
 | _=>rfl
theorem HD:aG ["thing"] ["thing"] (au rQ):=⟨rfl,rfl,rfl,by trivial,rfl,by trivial,by trivial⟩
theorem v5 (T:Txt K mg):nF P w K mg base 1 "is_row" ["thing"] (spIs K (qm ++ Str.ofString ".") 48):=by
 refine gY T.d_is_row HD (fun _ _ _ _ _ _ us hl=>L2.oW (fun _=>rfl) us hl) ?_ fun f cdv A outer s H vs Q E hr h=>?_
 ·rintro vs H Q E ⟨p,rfl,_⟩;rfl
 obtain ⟨v,rfl,hT,q⟩:=h
 have hu:=hr.units0
 have hu64:=hr.units
 refine ⟨_,(az (dG (j7 (jU (cL (cM (aB (fP (K:=K) rfl) aM T.b_isinstance aQ (aa (aq 0) (aa (ph aM T.b_str JM (by trivial) (by trivial)) ao)) (by trivial) (by trivial)))) (iV (fZ DW (aB (aF (K:=K) rfl) aM T.b_len aO (aa (aq 0) ao) (by trivial) (by trivial)) (Cu aM T.c_MOST_SIGNS (by trivial)) (by walk_at "p"))))) (aA (aH ji)) cX) (aA (aH (aB (o6 rfl) aM T.b_all vG (aa (gJ (sub:=[none]) (cY (N:=["thing"]) (sc:=au rQ) (N':=["sign"]) (by trivial)) rfl rfl rfl (lq (K:=K) rfl (aq 0)) (fun C s₀ H₀ ex=>(mW 0 (by trivial) Ay)) (fun C s₀ H₀ ex=>dI) (fun C s₀ H₀ ex=>(oO (Cj (K:=K) rfl) (dF 0 (by trivial)) (aV aP (qI (Ej (by trivial)) T.c_LETTERS (by trivial)) (qI (Ej (by trivial)) T.c_POINT (by trivial))) (by walk_at "p")))) ao) (by trivial) (by trivial))))),?_⟩
 walk_at "s"
 rcases hT with ⟨z,rfl,hz⟩ | ⟨ty,hty,hk⟩
 ·have hz1:z.length<=sizeLine:=Yz hz (by decide)
  refine jT (.str z) rfl ?_
  walk_at "s"
  try with_reducible refine ir ?_
  walk_at "s"
  refine dh hz1 ?_
  walk_at "s"
  refine qH (fun h1=>?_) (fun h1=>?_)
  ·walk_at "s"
   have:oR (.str z) (qm ++ Str.ofString ".") 48=false:=by
    unfold oR
    dsimp only
    rw [Yl (by omega)];rfl
   have q':=q H (Same.refl H)
   rw [this] at q'
   exact q'
  ·walk_at "s"
   refine .inr (.inr ⟨z,rfl,?_⟩)
   refine zW (fun i us H'=>H'=H/\us=((z.cps.toList.take i).map fun c=>!tX (qm ++ Str.ofString ".") c).map V.bl) hz1 ⟨rfl,rfl⟩ ?_ ?_ ?_
   ·rintro i us H' ⟨rfl,rfl⟩
    simp;omega
   ·rintro i us H' c hc ⟨rfl,rfl⟩
    walk_at "s"
    refine ⟨KeepSt.set rfl,?_⟩
    walk_at "s"
    try with_reducible refine gP ?_
    walk_at "s"
    refine yw (Yz (show (Str.ofString "abcdefghijklmnopqrstuvwxyz").length+(Str.ofString ".").length<=1000 by trivial) (by decide)) ?_
    walk_at "s"
    refine ⟨rfl,?_⟩
    rw [Aae,hc]
    simp [qm,tX]
   ·rintro us H' ⟨rfl,rfl⟩ D hD
    walk_at "s"
    refine ⟨D,_,rfl,aj,?_⟩
    have e1:z.cps.toList.take z.cps.size=z.cps.toList:=Zj (by simp)
    have e2:oR (.str z) (qm ++ Str.ofString ".") 48=(List.map (fun c=>!tX (qm ++ Str.ofString ".") c) (z.cps.toList.take z.cps.size)).all id:=by
     unfold oR
     dsimp only
     rw [Yj (by omega),Aar,e1,List.all_map];rfl
    have q':=q _ ((Same.refl H').upd hD (o:=.lst (List.map V.bl (List.map (fun c=>!tX (qm ++ Str.ofString ".") c) (List.take z.cps.size z.cps.toList)))))
    rw [e2] at q'
    exact q'
 ·refine jT hty hk ?_
  walk_at "s"
  try with_reducible refine gP ?_
  walk_at "s"
  try with_reducible refine gP ?_
  walk_at "s"
  have q':=q H (Same.refl H)
  rw [K6 hty hk] at q'
  exact q'
theorem HF {H:Hp} {z:Str} (h:t7 z):Thing K H (.str z):=.inl ⟨z,rfl,by have:=h.1;omega⟩
def Pn:Sp:=fun vs H Q _=>∃ z:Str,vs=[.str z]/\t7 z/\∀ H',Same H H'->Q .non H'
theorem Az:aG ["thing"] ["thing"] (au qN):=⟨rfl,rfl,rfl,by trivial,rfl,by trivial,by trivial⟩
theorem oF (T:Txt K mg):nF P w K mg base 3 "need_row" ["thing"] Pn:=by
 have v5:=v5 (P:=P) (w:=w) (base:=base) T
 refine gY T.d_need_row Az (fun _ _ _ _ _ _ us hl=>L2.oW (fun _=>rfl) us hl) ?_ fun f cdv A outer s H vs Q E hr h=>?_
 ·rintro vs H Q E ⟨z,rfl,_⟩;rfl
 obtain ⟨z,rfl,hz,q⟩:=h
 have hu:=hr.units0
 have hu64:=hr.units
 refine ⟨_,(aA (dG (cL (cM (aJ v5 (hr.mono (by decide)) aM (aa (aq 0) ao) (by trivial)))) (aA vJ) cX)),?_⟩
 walk_at "s"
 refine ⟨.str z,rfl,HF hz,fun H1 S1=>?_⟩
 rw [show oR (.str z) (qm ++ Str.ofString ".") 48=true from hz.2]
 walk_at "s"
 exact q _ S1
def K7:Sp:=fun vs H Q _=>∃ z y:Str,vs=[.str z,.str y]/\t7 z/\t7 y/\∀ H',Same H H'->Q .non H'
theorem yM:aG ["side","top"] ["side","top"] (au pK):=⟨rfl,rfl,rfl,by trivial,rfl,by trivial,by trivial⟩
theorem je (T:Txt K mg):nF P w K mg base 4 "need_rows" ["side","top"] K7:=by
 have oF:=oF (P:=P) (w:=w) (base:=base) T
 refine gY T.d_need_rows yM (fun _ _ _ _ _ _ us hl=>L2.my (fun _ _=>rfl) us hl) ?_ fun f cdv A outer s H vs Q E hr h=>?_
 ·rintro vs H Q E ⟨z,y,rfl,_⟩;rfl
 obtain ⟨z,y,rfl,hz,hy,q⟩:=h
 have hu:=hr.units0
 have hu64:=hr.units
 refine ⟨_,(az (bu (aJ oF (hr.mono (by decide)) aM (aa (aq 0) ao) (by trivial))) (aA (bu (aJ oF (hr.mono (by decide)) aM (aa (aq 1) ao) (by trivial))))),?_⟩
 walk_at "s"
 refine ⟨z,rfl,hz,fun H1 S1=>?_⟩
 walk_at "s"
 refine ⟨y,rfl,hy,fun H2 S2=>?_⟩
 walk_at "s"
 exact q H2 (S1.trans S2)
def Dj (c:Nat) (top:Str) (ab:List Int) (left:Int):Nat->Int
 | 0=>left
 | j+1=>if (decide (c=top.cps.getD j 0) || decide (ab.getD j 0 < Dj c top ab left j))=true then ab.getD j 0 else Dj c top ab left j
def wH (c:Nat) (top:Str) (ab:List Int) (left:Int) (j:Nat):Bool:=decide (c=top.cps.getD j 0) || decide (ab.getD j 0 < Dj c top ab left j)
def WX (b:Bool):Str:=if b=true then Str.ofString "o" else Str.ofString "x"
def xY (c:Nat) (top:Str) (ab:List Int) (left:Int) (j:Nat):List Str:=(List.range j).map fun k=>WX (wH c top ab left k)
theorem K8 {c:Nat} {top:Str} {ab:List Int} {left:Int} {j:Nat}:∀ y∈xY c top ab left j,y.length=1:=fun y hy=>by
 obtain ⟨k,_,rfl⟩:=YZ.mp hy
 unfold WX
 split <;> trivial
def Pq:Sp:=fun vs H Q _=>∃ (c:Nat) (top:Str) (left:Int) (a:Addr) (ab:List Int),vs=[.str ⟨#[c]⟩,.str top,.int left,.ref a]/\H a=some (.lst (ab.map V.int))/\top.cps.size=ab.length/\ab.length<=48/\
 ∀ H',Same H H'->Q (.str (Txt.join (Str.ofString "") (xY c top ab left ab.length))) H'
theorem gG:aG ["sign","top","left","above","signs","column","other"] ["sign","top","left","above"] (au lE):=⟨rfl,rfl,rfl,by trivial,rfl,by trivial,by trivial⟩
theorem lH (T:Txt K mg):nF P w K mg base 1 "signs_of_row" ["sign","top","left","above"] Pq:=by
 refine gY T.d_signs_of_row gG (fun _ _ _ _ _ _ us hl=>L2.Ms (fun _ _ _ _=>rfl) us hl) ?_ fun f cdv A outer s H vs Q E hr h=>?_
 ·rintro vs H Q E ⟨c,top,left,a,ab,rfl,_⟩;rfl
 obtain ⟨c,top,left,a,ab,rfl,ha,hz,hl,q⟩:=h
 have hu:=hr.units0
 have hu64:=hr.units
 refine ⟨_,(az (aK (i:=4) gG.nd rfl fW (gW ao) rfl) (az (fH Yx rfl (lX (K:=K) rfl rfl aM T.b_enumerate (aa (aq 1) ao)) (lu (K:=K) rfl rfl (bK (bj (i:=5) gG.nd rfl fW rfl) (bK (bj (i:=6) gG.nd rfl fW rfl) jl))) (aA (dG (j7 (jU (fZ (CG (K:=K) rfl hu64) (aq 0) (aq 6) (by walk_at "p")) (iV (fZ DW (aq 2) (c7 (K:=K) rfl (aq 3) (aq 5)) (by walk_at "p"))))) (az (bu (gm (K:=K) rfl Yh Yo Yp dm (aq 4) (aa (qI aM T.c_TOUCH (by trivial)) ao))) (aA (aK (i:=2) gG.nd rfl fW (c7 (K:=K) rfl (aq 3) (aq 5)) rfl))) (aA (bu (gm (K:=K) rfl Yh Yo Yp dm (aq 4) (aa (qI aM T.c_CROSS (by trivial)) ao))))))) (aA (aH (gm (K:=K) rfl PySem.F.plainAttrs_str PySem.F.slot_str_join PySem.F.type_str_join Eh oN (aa (aq 4) ao)))))),?_⟩
 walk_at "s"
 have hs:20000<=sizeLine:=by decide
 refine lD rfl fun S0 nS=>?_
 have e0:=aj (H:=H) (a:=S0) (o:=.lst [])
 have Sm:=(Same.refl H).upd nS (o:=.lst [])
 generalize upd H S0 (.lst [])=H1 at e0 Sm ⊢
 walk_at "s"
 refine .inl ⟨top,rfl,?_⟩
 refine Cv (fun j U H'=>Same H H'/\H' S0=some (.lst ((xY c top ab left j).map V.str))/\∃ x5 x6,U=[some (.str ⟨#[c]⟩),some (.str top),some (.int (Dj c top ab left j)),some (.ref a),some (.ref S0),x5,x6])
  ⟨Sm,e0,none,none,rfl⟩ ?_ ?_
 ·rintro j U H2 T0 hj ⟨S2,hS,x5,x6,rfl⟩ nT
  have hj':j < ab.length:=by rw [← hz];exact hj
  refine bf (xs:=[.int j,.str ⟨#[top.cps.getD j 0]⟩]) (SqT.of aj) rfl ?_
  have hS3:=aZ nT hS (o:=.tup (lA top j))
  have S3:=S2.upd nT (o:=.tup (lA top j))
  generalize upd H2 T0 (.tup (lA top j))=H3 at hS3 S3 ⊢
  have ha3:=S3 _ _ ha
  have hix:uU (ab.map V.int) (j:Int)=some (.int (ab.getD j 0)):=by
   refine bh ?_
   rw [XX,X6,XR hj'];rfl
  walk_at "s"
  have hlS:((xY c top ab left j).map V.str).length < sizeLine:=by unfold xY;simp;omega
  have step:(xY c top ab left (j+1)).map V.str=(xY c top ab left j).map V.str ++ [.str (WX (wH c top ab left j))]:=by unfold xY;rw [YJ,Yk,Yk];rfl
  have stepT:wH c top ab left j=true->Dj c top ab left (j+1)=ab.getD j 0:=fun h=>by rw [Dj];exact if_pos h
  have stepF:wH c top ab left j=false->Dj c top ab left (j+1)=Dj c top ab left j:=fun h=>by rw [Dj];exact if_neg (fun z=>by unfold wH at h;rw [h] at z;cases z)
  refine qH (fun hk=>?_) (fun hk=>?_)
  ·have ec:c=top.cps.getD j 0:=by
    have:=Str.mk.inj (V.str.inj hk)
    simpa using this
   have hB:wH c top ab left j=true:=by unfold wH;rw [Yj ec];rfl
   walk_at "s"
   refine ⟨.inl ⟨rfl,_,SqL.of hS3⟩,?_⟩
   walk_at "s"
   refine di hS3 hlS ?_
   have S4:=over (o:=.lst ((xY c top ab left j).map V.str ++ [.str (Str.ofString "o")])) S3 nS
   have hS4:=aj (H:=H3) (a:=S0) (o:=.lst ((xY c top ab left j).map V.str ++ [.str (Str.ofString "o")]))
   generalize upd H3 S0 (.lst ((xY c top ab left j).map V.str ++ [.str (Str.ofString "o")]))=H4 at S4 hS4 ⊢
   have ha4:=S4 _ _ ha
   walk_at "s"
   refine aN (SqL.of ha4) hix ?_
   walk_at "s"
   exact ⟨S4,by rw [hS4,step,hB];rfl,some (.int j),some (.str ⟨#[top.cps.getD j 0]⟩),by rw [stepT hB];rfl⟩
  ·have ec:¬ c=top.cps.getD j 0:=fun z=>hk (by rw [z])
   walk_at "s"
   refine aN (SqL.of ha3) hix ?_
   walk_at "s"
   refine qH (fun hg=>?_) (fun hg=>?_)
   ·have hB:wH c top ab left j=true:=by unfold wH;rw [Yl ec,Bool.false_or];exact Yj (by omega)
    walk_at "s"
    refine ⟨.inl ⟨rfl,_,SqL.of hS3⟩,?_⟩
    walk_at "s"
    refine di hS3 hlS ?_
    have S4:=over (o:=.lst ((xY c top ab left j).map V.str ++ [.str (Str.ofString "o")])) S3 nS
    have hS4:=aj (H:=H3) (a:=S0) (o:=.lst ((xY c top ab left j).map V.str ++ [.str (Str.ofString "o")]))
    generalize upd H3 S0 (.lst ((xY c top ab left j).map V.str ++ [.str (Str.ofString "o")]))=H4 at S4 hS4 ⊢
    have ha4:=S4 _ _ ha
    walk_at "s"
    refine aN (SqL.of ha4) hix ?_
    walk_at "s"
    exact ⟨S4,by rw [hS4,step,hB];rfl,some (.int j),some (.str ⟨#[top.cps.getD j 0]⟩),by rw [stepT hB];rfl⟩
   ·have hB:wH c top ab left j=false:=by unfold wH;rw [Yl ec,Bool.false_or];exact Yl (by omega)
    walk_at "s"
    refine ⟨.inl ⟨rfl,_,SqL.of hS3⟩,?_⟩
    walk_at "s"
    refine di hS3 hlS ?_
    have S4:=over (o:=.lst ((xY c top ab left j).map V.str ++ [.str (Str.ofString "x")])) S3 nS
    have hS4:=aj (H:=H3) (a:=S0) (o:=.lst ((xY c top ab left j).map V.str ++ [.str (Str.ofString "x")]))
    generalize upd H3 S0 (.lst ((xY c top ab left j).map V.str ++ [.str (Str.ofString "x")]))=H4 at S4 hS4 ⊢
    exact ⟨S4,by rw [hS4,step,hB];rfl,some (.int j),some (.str ⟨#[top.cps.getD j 0]⟩),by rw [stepF hB];rfl⟩
 ·rintro U H2 ⟨S2,hS,x5,x6,rfl⟩
  rw [hz] at hS
  walk_at "s"
  refine ⟨rfl,?_⟩
  walk_at "s"
  have hs1:=JN (K8 (c:=c) (top:=top) (ab:=ab) (left:=left) (j:=ab.length))
  have e0:(Str.ofString "").length=0:=by trivial
  refine JP hS (by rw [hs1,e0];unfold xY;simp;omega) ?_
  exact q _ S2
end
local macro_rules | `(tactic| walk_at "s") => `(tactic| (with_reducible repeat (first | refine jk ?_ | walk_at "0")))
local macro_rules | `(tactic| walk_at "n") => `(tactic| (with_reducible repeat (walk_at "0")))
section
variable {P:Program} {w:World} {K:W.Frag} {mg:Str->Option Value} {base:Heap}
def K9 (c:Nat) (top:Str) (ab:List Int) (left:Int) (j:Nat):Int:=if wH c top ab left j=true then Dj c top ab left j else ab.getD j 0
def Pr (c:Nat) (top:Str) (ab:List Int) (left:Int) (n:Nat):List Int:=(List.range n).map (K9 c top ab left)
theorem Pu {c:Nat} {top:Str} {ab:List Int} {left:Int} {n:Nat}:(Pr c top ab left n).length=n:=by simp [Pr]
theorem La (c:Nat) (top:Str) (ab:List Int) (left:Int) (j:Nat):Dj c top ab left (j+1)=if wH c top ab left j=true then ab.getD j 0 else Dj c top ab left j:=rfl
def WY (b:Bool):Nat:=if b=true then 111 else 120
theorem Ur (b:Bool):(WX b).cps.toList=[WY b]:=by cases b <;> trivial
def Ba (c:Nat) (top:Str) (ab:List Int) (left:Int) (n:Nat):Str:=⟨((List.range n).map fun k=>WY (wH c top ab left k)).toArray⟩
theorem Px {a b:Str} (h:a.cps.toList=b.cps.toList):a=b:=by
 cases a;cases b
 exact congrArg Str.mk (Array.toList_inj.mp h)
theorem xZ {α β:Type} (f:α->β):∀ l:List α,(l.map fun k=>[f k]).flatten=l.map f
 | []=>rfl
 | a :: l=>by rw [Ys,Zu,xZ f l];rfl
theorem HH {c:Nat} {top:Str} {ab:List Int} {left:Int} {n:Nat}:Txt.join (Str.ofString "") (xY c top ab left n)=Ba c top ab left n:=by
 apply Px
 rw [zV]
 unfold xY Ba
 rw [ZJ]
 have:((fun y:Str=>y.cps.toList) ∘ fun k=>WX (wH c top ab left k))=fun k=>[WY (wH c top ab left k)]:=by
  funext k;exact Ur _
 rw [this,xZ]
theorem yc {c:Nat} {top:Str} {ab:List Int} {left:Int} {n:Nat}:(Ba c top ab left n).cps.size=n:=by simp [Ba]
theorem Fx {c:Nat} {top:Str} {ab:List Int} {left:Int} {n j:Nat} (h:j < n):(Ba c top ab left n).cps.getD j 0=WY (wH c top ab left j):=by
 unfold Ba
 simp [Array.getD,h]
theorem Lb {z:Str} {j:Nat} {b:Bool} (h:z.cps.getD j 0=WY b):v4 z j=b:=by
 unfold v4
 rw [h]
 cases b <;> trivial
theorem yN {z:Str} {c:Nat} {top:Str} {ab:List Int} {left:Int} {n:Nat} (hz:∀ j,j < n->v4 z j=wH c top ab left j):∀ j,j<=n->jG (v4 z) ab left j=(Pr c top ab left j,Dj c top ab left j)
 | 0,_=>rfl
 | j+1,h=>by
  have ih:=yN hz j (by omega)
  have e:Pr c top ab left (j+1)=Pr c top ab left j ++ [K9 c top ab left j]:=by unfold Pr;rw [YJ,Yk];rfl
  rw [jG,ih,hz j (by omega),e,La]
  unfold K9
  by_cases hc:wH c top ab left j=true
  ·rw [if_pos hc,if_pos hc,if_pos hc]
  ·rw [if_neg hc,if_neg hc,if_neg hc]
def yd (m:Nat) (side top:Str):Nat->List Int
 | 0=>(List.range top.cps.size).map fun l=>((m+l:Nat):Int)
 | i+1=>Pr (side.cps.getD i 0) top (yd m side top i) ((m:Int) - 1 - i) top.cps.size
theorem qj {m:Nat} {side top:Str}:∀ i,(yd m side top i).length=top.cps.size
 | 0=>by simp [yd]
 | i+1=>by rw [yd,Pu]
def Ld (m:Nat) (side top:Str) (i:Nat):Str:=Ba (side.cps.getD i 0) top (yd m side top i) ((m:Int) - 1 - i) top.cps.size
def Dk (m:Nat) (side top:Str) (n:Nat):List Str:=(List.range n).map (Ld m side top)
def mH (side top:Str):List Str:=Dk side.cps.size side top side.cps.size
theorem Le (m:Nat) (side top:Str) (n:Nat):Dk m side top (n+1)=Dk m side top n ++ [Ld m side top n]:=by unfold Dk;rw [YJ,Yk];rfl
theorem Fy (m:Nat) (side top:Str) (n:Nat):(Dk m side top n).length=n:=by simp [Dk]
def Py:Sp:=fun vs H Q _=>∃ (side top:Str),vs=[.str side,.str top]/\side.cps.size<=48/\top.cps.size<=48/\
 ∀ D H',H D=none->Same H H'->H' D=some (.lst ((mH side top).map V.str))->Q (.ref D) H'
theorem gk:aG ["side","top","above","cells","row","sign","left","signs"] ["side","top"] (au qP):=⟨rfl,rfl,rfl,by trivial,rfl,by trivial,by trivial⟩
theorem qX (T:Txt K mg):nF P w K mg base 2 "cells_of" ["side","top"] Py:=by
 have gH:=gH (P:=P) (w:=w) (base:=base) T
 have lH:=lH (P:=P) (w:=w) (base:=base) T
 have jH:=jH (P:=P) (w:=w) (base:=base) T
 refine gY T.d_cells_of gk (fun _ _ _ _ _ _ us hl=>L2.my (fun _ _=>rfl) us hl) ?_ fun f cdv A outer s H vs Q E hr h=>?_
 ·rintro vs H Q E ⟨side,top,rfl,_⟩;rfl
 obtain ⟨side,top,rfl,hs,ht,q⟩:=h
 have hu:=hr.units0
 have hu64:=hr.units
 refine ⟨_,(az (aK (i:=2) gk.nd rfl fW (aJ gH (hr.mono (by decide)) aM (aa (aB (aF (K:=K) rfl) aM T.b_len aO (aa (aq 0) ao) (by trivial) (by trivial)) (aa (aB (aF (K:=K) rfl) aM T.b_len aO (aa (aq 1) ao) (by trivial) (by trivial)) ao)) (by trivial)) rfl) (az (aK (i:=3) gk.nd rfl fW (gW ao) rfl) (az (fH Yx rfl (lX (K:=K) rfl rfl aM T.b_enumerate (aa (aq 0) ao)) (lu (K:=K) rfl rfl (bK (bj (i:=4) gk.nd rfl fW rfl) (bK (bj (i:=5) gk.nd rfl fW rfl) jl))) (az (aK (i:=6) gk.nd rfl fW (aV fY (aV fY (aB (aF (K:=K) rfl) aM T.b_len aO (aa (aq 0) ao) (by trivial) (by trivial)) aC) (aq 4)) rfl) (az (aK (i:=7) gk.nd rfl fW (aJ lH (hr.mono (by decide)) aM (aa (aq 5) (aa (aq 1) (aa (aq 6) (aa (aq 2) ao)))) (by trivial)) rfl) (az (bu (gm (K:=K) rfl Yh Yo Yp dm (aq 3) (aa (aq 7) ao))) (aA (aK (i:=2) gk.nd rfl fW (c7 (K:=K) rfl (aJ jH (hr.mono (by decide)) aM (aa (aq 7) (aa (aq 6) (aa (aq 2) ao))) (by trivial)) aC) rfl)))))) (aA (aH (aq 3)))))),?_⟩
 walk_at "s"
 have hz:1000<=sizeLine:=by decide
 have lz:side.length<=sizeLine:=Yz hs (by decide)
 have ly:top.length<=sizeLine:=Yz ht (by decide)
 refine dh lz ?_
 walk_at "s"
 refine dh ly ?_
 walk_at "s"
 refine ⟨side.cps.size,top.cps.size,rfl,hs,ht,fun A0 nA=>?_⟩
 have e0:((List.range top.cps.size).map fun l=>((side.cps.size+l:Nat):Int))=yd side.cps.size side top 0:=rfl
 rw [e0]
 have SA:=(Same.refl H).upd nA (o:=.lst ((yd side.cps.size side top 0).map V.int))
 have eA:=aj (H:=H) (a:=A0) (o:=.lst ((yd side.cps.size side top 0).map V.int))
 generalize upd H A0 (.lst ((yd side.cps.size side top 0).map V.int))=H1 at SA eA ⊢
 walk_at "s"
 refine lD rfl fun D nD=>?_
 have SD:=SA.upd nD (o:=.lst [])
 have eD:=aj (H:=H1) (a:=D) (o:=.lst [])
 have eA2:=aZ nD eA (o:=.lst [])
 have nDH:=SA.free nD
 have nAD:A0≠D:=fun z=>by rw [z,nD] at eA;cases eA
 generalize upd H1 D (.lst [])=H2 at SD eD eA2 ⊢
 walk_at "s"
 refine .inl ⟨side,rfl,?_⟩
 refine Cv (fun i U H'=>Same H H'/\H' D=some (.lst ((Dk side.cps.size side top i).map V.str))/\∃ a x4 x5 x6 x7,H' a=some (.lst ((yd side.cps.size side top i).map V.int))/\a≠D/\U=[some (.str side),some (.str top),some (.ref a),some (.ref D),x4,x5,x6,x7])
  ⟨SD,eD,A0,none,none,none,none,eA2,nAD,rfl⟩ ?_ ?_
 ·rintro i U H3 T0 hi ⟨S3,hD,a,x4,x5,x6,x7,ha,nad,rfl⟩ nT
  have hi':i < side.cps.size:=hi
  refine bf (xs:=[.int i,.str ⟨#[side.cps.getD i 0]⟩]) (SqT.of aj) rfl ?_
  have hD4:=aZ nT hD (o:=.tup (lA side i))
  have ha4:=aZ nT ha (o:=.tup (lA side i))
  have S4:=S3.upd nT (o:=.tup (lA side i))
  generalize upd H3 T0 (.tup (lA side i))=H4 at hD4 ha4 S4 ⊢
  walk_at "s"
  refine dh lz ?_
  walk_at "s"
  refine ⟨_,top,_,a,_,rfl,ha4,(qj i).symm,by rw [qj];exact ht,fun H5 S5=>?_⟩
  rw [HH,qj]
  have hD5:=S5 _ _ hD4
  have ha5:=S5 _ _ ha4
  walk_at "s"
  refine ⟨.inl ⟨rfl,_,SqL.of hD5⟩,?_⟩
  walk_at "s"
  refine di hD5 (by rw [X8,Fy];omega) ?_
  have e1:(Dk side.cps.size side top i).map V.str ++ [.str (Ba (side.cps.getD i 0) top (yd side.cps.size side top i) ((side.length:Int) - 1 - i) top.cps.size)]=(Dk side.cps.size side top (i+1)).map V.str:=by rw [Le,Yk];rfl
  rw [e1]
  have S6:=over (o:=.lst ((Dk side.cps.size side top (i+1)).map V.str)) (S4.trans S5) nDH
  have hD6:=aj (H:=H5) (a:=D) (o:=.lst ((Dk side.cps.size side top (i+1)).map V.str))
  have ha6:upd H5 D (.lst ((Dk side.cps.size side top (i+1)).map V.str)) a=_:=(aD nad).trans ha5
  generalize upd H5 D (.lst ((Dk side.cps.size side top (i+1)).map V.str))=H6 at S6 hD6 ha6 ⊢
  walk_at "s"
  refine ⟨_,_,a,_,rfl,ha6,by rw [yc,qj],by rw [qj];exact ht,fun t c1 b H7 nb _ S7 ht' hb _=>?_⟩
  rw [qj,yN (n:=top.cps.size) (fun j hj=>Lb (Fx hj)) _ (XQ _)] at ht' hb
  have hD7:=S7 _ _ hD6
  have nbD:b≠D:=fun z=>by rw [z,hD6] at nb;cases nb
  walk_at "s"
  exact ⟨S6.trans S7,hD7,b,_,_,_,_,hb,nbD,rfl⟩
 ·rintro U H3 ⟨S3,hD,a,x4,x5,x6,x7,ha,nad,rfl⟩
  walk_at "s"
  exact q D H3 nDH S3 hD
def CB (side top:Str):Nat->Nat->Bool:=cC (mH side top)
theorem HJ {side top:Str} {i:Nat} (h:i < side.cps.size):(mH side top).getD i ⟨#[]⟩=Ld side.cps.size side top i:=by
 unfold mH Dk
 rw [X6,XX,Yt h];rfl
theorem Dl {side top:Str} {i:Nat} (h:i < side.cps.size):CB side top i=v4 (Ld side.cps.size side top i):=by unfold CB cC;rw [HJ h]
theorem Q4 {side top:Str} {i j:Nat} (h:i < side.cps.size) (hj:j < top.cps.size):CB side top i j=wH (side.cps.getD i 0) top (yd side.cps.size side top i) ((side.cps.size:Int) - 1 - i) j:=by
 rw [Dl h]
 exact Lb (Fx hj)
theorem ag {side top:Str}:∀ i,i<=side.cps.size->yd side.cps.size side top i=tW side.cps.size (CB side top) top.cps.size i/\
  (i < side.cps.size->∀ j,j<=top.cps.size->Dj (side.cps.getD i 0) top (yd side.cps.size side top i) ((side.cps.size:Int) - 1 - i) j=((gA side.cps.size (CB side top) i j:Nat):Int)/\Pr (side.cps.getD i 0) top (yd side.cps.size side top i) ((side.cps.size:Int) - 1 - i) j=tW side.cps.size (CB side top) j (i+1))
 | 0,h=>⟨by rw [K5];rfl,fun hi j hj=>ag_step (by rw [K5];rfl) hi hj⟩
 | i+1,h=>by
  have ih:=(ag (side:=side) (top:=top) i (by omega)).2 (by omega) top.cps.size (XQ _)
  have e:yd side.cps.size side top (i+1)=tW side.cps.size (CB side top) top.cps.size (i+1):=ih.2
  exact ⟨e,fun hi j hj=>ag_step e hi hj⟩
where
 ag_step {side top:Str} {i j:Nat} (e:yd side.cps.size side top i=tW side.cps.size (CB side top) top.cps.size i) (hi:i < side.cps.size) (hj:j<=top.cps.size):
   Dj (side.cps.getD i 0) top (yd side.cps.size side top i) ((side.cps.size:Int) - 1 - i) j=((gA side.cps.size (CB side top) i j:Nat):Int)/\Pr (side.cps.getD i 0) top (yd side.cps.size side top i) ((side.cps.size:Int) - 1 - i) j=tW side.cps.size (CB side top) j (i+1):=by
  have h1:=yN (z:=Ld side.cps.size side top i) (c:=side.cps.getD i 0) (top:=top) (ab:=yd side.cps.size side top i) (left:=(side.cps.size:Int) - 1 - i) (n:=top.cps.size) (fun l hl=>by rw [← Dl hi];exact Q4 hi hl) j hj
  have h2:=yK (m:=side.cps.size) (C:=CB side top) (far:=top.cps.size) (i:=i) j hj
  rw [← Dl hi] at h1
  rw [← e,show ((gA side.cps.size (CB side top) i 0:Nat):Int)=(side.cps.size:Int) - 1 - i by rw [kE];omega,h1] at h2
  exact ⟨congrArg Prod.snd h2,congrArg Prod.fst h2⟩
theorem Pz {side top:Str} {i j:Nat} (hi:i < side.cps.size) (hj:j < top.cps.size):CB side top i j=(decide (side.cps.getD i 0=top.cps.getD j 0) || decide (gD side.cps.size (CB side top) j i < gA side.cps.size (CB side top) i j)):=by
 rw [Q4 hi hj]
 unfold wH
 rw [((ag i (by omega)).2 hi j (by omega)).1,(ag i (by omega)).1,Di hj]
 congr 1
 exact decide_eq_decide.mpr (by omega)
end
local macro_rules | `(tactic| walk_at "s") => `(tactic| (with_reducible repeat (first | refine jk ?_ | walk_at "0")))
local macro_rules | `(tactic| walk_at "n") => `(tactic| (with_reducible repeat (walk_at "0")))
section
variable {P:Program} {w:World} {K:W.Frag} {mg:Str->Option Value} {base:Heap}
theorem yO:(["line"]:List Str).Nodup:=by trivial
theorem W0 {m:Nat} {C:Nat->Nat->Bool} {far:Nat}:∀ n i j,i+j<=n->i < m->j < far->gA m C i j < m+far/\gD m C j i < m+far
 | n,0,0,_,hi,hj=>by rw [kE,oA];omega
 | 0,0,j+1,h,_,_=>absurd h (by omega)
 | 0,i+1,j,h,_,_=>absurd h (by omega)
 | n+1,0,j+1,h,hi,hj=>by
  have ih:=W0 (m:=m) (C:=C) (far:=far) n 0 j (by omega) hi (by omega)
  refine ⟨?_,by rw [oA];omega⟩
  rw [mj];split
  ·exact ih.2
  ·exact ih.1
 | n+1,i+1,0,h,hi,hj=>by
  have ih:=W0 (m:=m) (C:=C) (far:=far) n i 0 (by omega) (by omega) hj
  refine ⟨by rw [kE];omega,?_⟩
  rw [kI];split
  ·exact ih.1
  ·exact ih.2
 | n+1,i+1,j+1,h,hi,hj=>by
  have h1:=W0 (m:=m) (C:=C) (far:=far) n (i+1) j (by omega) hi (by omega)
  have h2:=W0 (m:=m) (C:=C) (far:=far) n i (j+1) (by omega) (by omega) hj
  refine ⟨?_,?_⟩
  ·rw [mj];split
   ·exact h1.2
   ·exact h1.1
  ·rw [kI];split
   ·exact h2.1
   ·exact h2.2
def stp (w:Nat->List (Int×Int)) (l:Nat) (q:Int×Int):Nat->List (Int×Int):=fun k=>if k=l then w k ++ [q] else w k
def PB (m:Nat) (C:Nat->Nat->Bool) (i:Nat) (w0:Nat->List (Int×Int)):Nat->Nat->List (Int×Int)
 | 0=>w0
 | j+1=>stp (stp (PB m C i w0 j) (gA m C i j) ((i:Int),(j:Int))) (gD m C j i) ((i:Int),(j:Int))
def Ie (m:Nat) (C:Nat->Nat->Bool) (far:Nat):Nat->Nat->List (Int×Int)
 | 0=>fun _=>[]
 | i+1=>PB m C i (Ie m C far i) far
theorem yP (w:Nat->List (Int×Int)) (l:Nat) (q:Int×Int) (k:Nat):(stp w l q k).length<=(w k).length+1:=by
 unfold stp;split <;> simp
theorem yQ {m:Nat} {C:Nat->Nat->Bool} {i:Nat} {w0:Nat->List (Int×Int)} (k:Nat):∀ j,(PB m C i w0 j k).length<=(w0 k).length+2*j
 | 0=>by simp [PB]
 | j+1=>by
  have ih:=yQ (m:=m) (C:=C) (i:=i) (w0:=w0) k j
  have h1:=yP (stp (PB m C i w0 j) (gA m C i j) ((i:Int),(j:Int))) (gD m C j i) ((i:Int),(j:Int)) k
  have h2:=yP (PB m C i w0 j) (gA m C i j) ((i:Int),(j:Int)) k
  show (stp _ _ _ k).length<=_
  omega
theorem Fz {m:Nat} {C:Nat->Nat->Bool} {far:Nat} (k:Nat):∀ i,(Ie m C far i k).length<=2*(i*far)
 | 0=>by simp [Ie]
 | i+1=>by
  have ih:=Fz (m:=m) (C:=C) (far:=far) k i
  have h1:=yQ (m:=m) (C:=C) (i:=i) (w0:=Ie m C far i) k far
  show (PB m C i (Ie m C far i) far k).length<=_
  have e:(i+1)*far=i*far+far:=Nat.succ_mul i far
  omega
def Wys (H:Hp) (Pd:Addr->Prop) (refs:List V) (n:Nat) (w:Nat->List (Int×Int)):Prop:=refs.length=n/\(∀ l,l < n->∃ p ws,refs[l]?=some (.ref p)/\Pd p/\H p=some (.lst ws)/\PrI H ws (w l))/\
 ∀ (l k:Nat) (p:Addr),l≠k->refs[l]?=some (.ref p)->refs[k]?≠some (.ref p)
theorem Wys.imp {H H':Hp} {Pd Pd':Addr->Prop} {refs:List V} {n:Nat} {w:Nat->List (Int×Int)} (h:Wys H Pd refs n w) (ht:∀ p us,H p=some (.tup us)->H' p=some (.tup us)) (hl:∀ c ws,Pd c->H c=some (.lst ws)->H' c=some (.lst ws)) (hp:∀ c,Pd c->Pd' c):Wys H' Pd' refs n w:=
 ⟨h.1,fun l hl'=>by
  obtain ⟨p,ws,e1,e2,e3,e4⟩:=h.2.1 l hl'
  exact ⟨p,ws,e1,hp p e2,hl p ws e2 e3,e4.imp ht⟩,h.2.2⟩
theorem Wys.same {H H':Hp} {Pd:Addr->Prop} {refs:List V} {n:Nat} {w:Nat->List (Int×Int)} (h:Wys H Pd refs n w) (s:Same H H'):Wys H' Pd refs n w:=h.imp (fun p us e=>s _ _ e) (fun c ws _ e=>s _ _ e) fun _ z=>z
theorem Wys.new {H:Hp} {Pd:Addr->Prop} {refs:List V} {n:Nat} {w:Nat->List (Int×Int)} {p:Addr} (h:Wys H Pd refs n w) (hn:H p=none) (hP:Pd p) (hw:w n=[]):Wys (upd H p (.lst [])) Pd (refs ++ [.ref p]) (n+1) w:=by
 have s:Same H (upd H p (.lst [])):=(Same.refl H).upd hn
 obtain ⟨h1,h2,h3⟩:=h
 have ne:∀ l:Nat,refs[l]?≠some (V.ref p):=fun l e=>by
  have hl:l < n:=by rw [← h1];exact (XM.mp e).1
  obtain ⟨p',ws,e1,_,e3,_⟩:=h2 l hl
  rw [e] at e1
  cases e1
  rw [hn] at e3;cases e3
 refine ⟨by rw [Za,h1];rfl,fun l hl=>?_,fun l k q hlk e1 e2=>?_⟩
 ·by_cases e:l=n
  ·subst e
   exact ⟨p,[],by rw [Yn (by omega),h1,Zm];rfl,hP,aj,by rw [hw];trivial⟩
  ·obtain ⟨p',ws,e1,e2,e3,e4⟩:=h2 l (by omega)
   exact ⟨p',ws,by rw [Ye (by omega)];exact e1,e2,s _ _ e3,e4.same s⟩
 ·by_cases hl:l < refs.length
  ·rw [Ye hl] at e1
   by_cases hk:k < refs.length
   ·rw [Ye hk] at e2
    exact h3 l k q hlk e1 e2
   ·rw [Yn (by omega)] at e2
    have:k - refs.length=0:=by
     have:=(XM.mp e2).1
     simp at this;omega
    rw [this] at e2
    cases e2
    exact ne l e1
  ·rw [Yn (by omega)] at e1
   have:l - refs.length=0:=by
    have:=(XM.mp e1).1
    simp at this;omega
   rw [this] at e1
   cases e1
   by_cases hk:k < refs.length
   ·rw [Ye hk] at e2
    exact ne k e2
   ·have:=(XM.mp e2).1
    simp at this;omega
theorem Wys.app {H:Hp} {Pd:Addr->Prop} {refs ws:List V} {n l:Nat} {w:Nat->List (Int×Int)} {p q:Addr} {x y:Int} (h:Wys H Pd refs n w) (hl:l < n) (hp:refs[l]?=some (.ref p)) (hw:H p=some (.lst ws)) (hq:H q=some (.tup [.int x,.int y])):
  Wys (upd H p (.lst (ws ++ [.ref q]))) Pd refs n (stp w l (x,y)):=by
 obtain ⟨h1,h2,h3⟩:=h
 have ht:∀ r us,H r=some (.tup us)->upd H p (.lst (ws ++ [.ref q])) r=some (.tup us):=fun r us e=>by rw [aD (fun z=>by rw [z,hw] at e;cases e)];exact e
 refine ⟨h1,fun k hk=>?_,h3⟩
 obtain ⟨p',us,e1,e2,e3,e4⟩:=h2 k hk
 by_cases e:k=l
 ·subst e
  rw [hp] at e1
  cases e1
  rw [hw] at e3
  cases e3
  refine ⟨p,_,hp,e2,aj,?_⟩
  unfold stp
  rw [if_pos rfl]
  exact PrI.push (ht _ _ hq) (e4.imp ht)
 ·have ne:p'≠p:=fun z=>by subst z;exact h3 k l p' e e1 hp
  refine ⟨p',us,e1,e2,by rw [aD ne];exact e3,?_⟩
  unfold stp
  rw [if_neg e]
  exact e4.imp ht
theorem PJ {m:Nat} {C:Nat->Nat->Bool} {far i j:Nat} (h:j < far):(Ax m C far i)[j]?=some (((gA m C i j:Nat):Int),((gD m C j i:Nat):Int)):=by
 unfold Ax
 rw [XX,Yt h];rfl
theorem Lf {m:Nat} {C:Nat->Nat->Bool} {far i:Nat}:(Ax m C far i).length=far:=by simp [Ax]
def Us:Sp:=fun vs H Q _=>∃ (m far:Nat) (C:Nat->Nat->Bool) (cm:Addr) (cs:List V),vs=[.int ((m:Int)+(far:Int)),.ref cm]/\m<=48/\far<=48/\H cm=some (.lst cs)/\Cmg H (fun _=>True) m C far cs m/\
 ∀ aw refs H',H aw=none->Same H H'->H' aw=some (.lst refs)->Wys H' (fun p=>H p=none) refs (m+far) (Ie m C far m)->Q (.ref aw) H'
theorem jK:aG ["many","coming","ways","row","pairs","column","pair"] ["many","coming"] (au qg):=⟨rfl,rfl,rfl,by trivial,rfl,by trivial,by trivial⟩
theorem t8 (T:Txt K mg):nF P w K mg base 1 "ways_of" ["many","coming"] Us:=by
 refine gY T.d_ways_of jK (fun _ _ _ _ _ _ us hl=>L2.my (fun _ _=>rfl) us hl) ?_ fun f cdv A outer s H vs Q E hr h=>?_
 ·rintro vs H Q E ⟨m,far,C,cm,cs,rfl,_⟩;rfl
 obtain ⟨m,far,C,cm,cs,rfl,hm,hf,hcm,hG,q⟩:=h
 have hu:=hr.units0
 have hu64:=hr.units
 refine ⟨_,(az (Er (i:=2) jK.nd rfl fW (sub:=[none]) (cY (N:=["many","coming","ways","row","pairs","column","pair"]) (sc:=au qg) (N':=["line"]) (by trivial)) rfl rfl rfl (bJ aM T.b_range (aa (aq 0) ao)) (fun C s₀ H₀ ex=>(mW 0 (by trivial) yO)) (fun C s₀ H₀ ex=>dI) (fun C s₀ H₀ ex=>(gW ao)) rfl) (az (fH Yx rfl (lX (K:=K) rfl rfl aM T.b_enumerate (aa (aq 1) ao)) (lu (K:=K) rfl rfl (bK (bj (i:=3) jK.nd rfl fW rfl) (bK (bj (i:=4) jK.nd rfl fW rfl) jl))) (aA (fH Yx rfl (lX (K:=K) rfl rfl aM T.b_enumerate (aa (aq 4) ao)) (lu (K:=K) rfl rfl (bK (bj (i:=5) jK.nd rfl fW rfl) (bK (bj (i:=6) jK.nd rfl fW rfl) jl))) (az (bu (gm (K:=K) rfl Yh Yo Yp dm (c7 (K:=K) rfl (aq 2) (c7 (K:=K) rfl (aq 6) aC)) (aa (jy (aa (aq 3) (aa (aq 5) ao))) ao))) (aA (bu (gm (K:=K) rfl Yh Yo Yp dm (c7 (K:=K) rfl (aq 2) (c7 (K:=K) rfl (aq 6) aC)) (aa (jy (aa (aq 3) (aa (aq 5) ao))) ao)))))))) (aA (aH (aq 2))))),?_⟩
 walk_at "s"
 have hs:20000<=sizeLine:=by decide
 refine ⟨_,rfl,by omega,by omega,?_⟩
 rw [show ((m:Int)+(far:Int)).toNat=m+far by omega]
 refine vH (n:=m+far) (fun i ys H'=>Same H H'/\Wys H' (fun p=>H p=none) ys i (fun _=>[])) (by omega) ⟨Same.refl H,rfl,(fun l hl=>absurd hl (Zz _)),fun l k p _ e=>by simp at e⟩ ?_ ?_ ?_
 ·rintro i ys H' ⟨_,h⟩
  exact Nat.le_of_eq h.1
 ·rintro i ys H' hi ⟨s,h⟩
  walk_at "s"
  refine ⟨KeepSt.set rfl,?_⟩
  walk_at "s"
  refine lD rfl fun p np=>?_
  walk_at "s"
  exact ⟨s.upd np,h.new np (Same.back s np) rfl⟩
 ·rintro refs H1 ⟨s1,hW⟩ aw naw
  have naw0:=Same.back s1 naw
  have s2:=s1.upd naw (o:=.lst refs)
  have haw:=aj (H:=H1) (a:=aw) (o:=.lst refs)
  have hW2:Wys (upd H1 aw (.lst refs)) (fun p=>H p=none/\p≠aw) refs (m+far) (Ie m C far 0):=by
   obtain ⟨w1,w2,w3⟩:=hW
   refine ⟨w1,fun l hl=>?_,w3⟩
   obtain ⟨p,ws,e1,e2,e3,e4⟩:=w2 l hl
   exact ⟨p,ws,e1,⟨e2,fun z=>by rw [z,naw] at e3;cases e3⟩,aZ naw e3,e4.same ((Same.refl H1).upd naw)⟩
  generalize upd H1 aw (.lst refs)=H2 at s2 haw hW2 ⊢
  walk_at "s"
  refine .inr ⟨cm,_,rfl,SqL.of (s2 _ _ hcm),?_⟩
  refine qd (xs:=cs) (fun i U H'=>Same H H'/\H' aw=some (.lst refs)/\Wys H' (fun p=>H p=none/\p≠aw) refs (m+far) (Ie m C far i)/\∃ x3 x4 x5 x6,U=[some (.int ((m:Int)+(far:Int))),some (.ref cm),some (.ref aw),x3,x4,x5,x6])
   ⟨s2,haw,hW2,_,_,_,_,rfl⟩ (fun i U H' _ h=>SqL.of (h.1 _ _ hcm)) ?_ ?_
  ·rintro i U H3 T0 x hx ⟨S3,h3,W3,x3,x4,x5,x6,rfl⟩ nT
   have hi:i < m:=by
    have:=(XM.mp hx).1
    rw [hG.1] at this;exact this
   obtain ⟨c,ws,e1,_,hc,hws⟩:=hG.2 i hi
   rw [hx] at e1
   cases e1
   have wl:=hws.len
   rw [Lf] at wl
   refine bf (xs:=[.int i,.ref c]) (SqT.of aj) rfl ?_
   have S4:=S3.upd nT (o:=.tup [.int i,.ref c])
   have h4:=aZ nT h3 (o:=.tup [.int i,.ref c])
   have W4:=W3.same ((Same.refl H3).upd nT (o:=.tup [.int i,.ref c]))
   generalize upd H3 T0 (.tup [.int i,.ref c])=H4 at S4 h4 W4 ⊢
   walk_at "s"
   refine .inr ⟨c,_,rfl,SqL.of (S4 _ _ hc),?_⟩
   refine qd (xs:=ws) (fun j U H'=>Same H H'/\H' aw=some (.lst refs)/\Wys H' (fun p=>H p=none/\p≠aw) refs (m+far) (PB m C i (Ie m C far i) j)/\∃ x5 x6,U=[some (.int ((m:Int)+(far:Int))),some (.ref cm),some (.ref aw),some (.int i),some (.ref c),x5,x6])
    ⟨S4,h4,W4,_,_,rfl⟩ (fun i U H' _ h=>SqL.of (h.1 _ _ hc)) ?_ ?_
   ·rintro j U H5 T1 y hy ⟨S5,h5,W5,x5,x6,rfl⟩ nT1
    have hj:j < far:=by
     have:=(XM.mp hy).1
     omega
    obtain ⟨r,e2,hr'⟩:=hws.get (PJ (m:=m) (C:=C) (i:=i) hj)
    rw [hy] at e2
    cases e2
    obtain ⟨l1,l2⟩:=W0 (m:=m) (C:=C) (far:=far) (i+j) i j (XQ _) hi hj
    have wA:=Fz (m:=m) (C:=C) (far:=far)
    have wJ:=yQ (m:=m) (C:=C) (i:=i) (w0:=Ie m C far i)
    have him:i*far<=48*48:=Nat.mul_le_mul (by omega) hf
    refine bf (xs:=[.int j,.ref r]) (SqT.of aj) rfl ?_
    have S6:=S5.upd nT1 (o:=.tup [.int j,.ref r])
    have h6:=aZ nT1 h5 (o:=.tup [.int j,.ref r])
    have W6:=W5.same ((Same.refl H5).upd nT1 (o:=.tup [.int j,.ref r]))
    generalize upd H5 T1 (.tup [.int j,.ref r])=H6 at S6 h6 W6 ⊢
    obtain ⟨p,us,r1,⟨pn,pa⟩,hp,hpu⟩:=W6.2.1 _ l1
    have ul:=hpu.len
    have:=wA (gA m C i j) i
    have:=wJ (gA m C i j) j
    walk_at "s"
    refine dq (SqT.of (S6 _ _ hr')) rfl ?_
    walk_at "s"
    refine aN (SqL.of h6) (bh r1) ?_
    walk_at "s"
    refine ⟨.inl ⟨rfl,_,SqL.of hp⟩,?_⟩
    walk_at "s"
    refine lD rfl fun q1 nq1=>?_
    walk_at "s"
    have S7:=S6.upd nq1 (o:=.tup [.int i,.int j])
    have h7:=aZ nq1 h6 (o:=.tup [.int i,.int j])
    have W7:=W6.same ((Same.refl H6).upd nq1 (o:=.tup [.int i,.int j]))
    have hp7:=aZ nq1 hp (o:=.tup [.int i,.int j])
    have hq7:=aj (H:=H6) (a:=q1) (o:=.tup [.int i,.int j])
    generalize upd H6 q1 (.tup [.int i,.int j])=H7 at S7 h7 W7 hp7 hq7 ⊢
    refine di hp7 (by omega) ?_
    walk_at "s"
    have S8:=Same.put (o:=.lst (us ++ [.ref q1])) S7 pn
    have h8:upd H7 p (.lst (us ++ [.ref q1])) aw=_:=(aD (Ne.symm pa)).trans h7
    have W8:=W7.app l1 r1 hp7 hq7
    generalize upd H7 p (.lst (us ++ [.ref q1]))=H8 at S8 h8 W8 ⊢
    obtain ⟨p',us',r2,⟨pn',pa'⟩,hp',hpu'⟩:=W8.2.1 _ l2
    have ul':=hpu'.len
    have:=yP (PB m C i (Ie m C far i) j) (gA m C i j) ((i:Int),(j:Int)) (gD m C j i)
    have:=wA (gD m C j i) i
    have:=wJ (gD m C j i) j
    walk_at "s"
    refine dq (SqT.of (S8 _ _ hr')) rfl ?_
    walk_at "s"
    refine aN (SqL.of h8) (bh r2) ?_
    walk_at "s"
    refine ⟨.inl ⟨rfl,_,SqL.of hp'⟩,?_⟩
    walk_at "s"
    refine lD rfl fun q2 nq2=>?_
    walk_at "s"
    have S9:=S8.upd nq2 (o:=.tup [.int i,.int j])
    have h9:=aZ nq2 h8 (o:=.tup [.int i,.int j])
    have W9:=W8.same ((Same.refl H8).upd nq2 (o:=.tup [.int i,.int j]))
    have hp9:=aZ nq2 hp' (o:=.tup [.int i,.int j])
    have hq9:=aj (H:=H8) (a:=q2) (o:=.tup [.int i,.int j])
    generalize upd H8 q2 (.tup [.int i,.int j])=H9 at S9 h9 W9 hp9 hq9 ⊢
    refine di hp9 (by omega) ?_
    walk_at "s"
    exact ⟨Same.put S9 pn',(aD (Ne.symm pa')).trans h9,W9.app l2 r2 hp9 hq9,_,_,rfl⟩
   ·rintro U H5 ⟨S5,h5,W5,x5,x6,rfl⟩
    rw [wl] at W5
    exact ⟨S5,h5,W5,_,_,_,_,rfl⟩
  ·rintro U H3 ⟨S3,h3,W3,x3,x4,x5,x6,rfl⟩
   rw [hG.1] at W3
   walk_at "s"
   exact q aw refs H3 naw0 S3 h3 (W3.imp (fun _ _ z=>z) (fun _ _ _ z=>z) fun c z=>z.1)
abbrev mS (z:Str):Nat:=z.cps.size
structure BdO (H:Hp) (side top:Str) (ac am al aw:Addr):Prop where
 cells:H ac=some (.lst ((mH side top).map V.str))
 com:∃ cs,H am=some (.lst cs)/\Cmg H (fun _=>True) (mS side) (CB side top) (mS top) cs (mS side)
 lines:∃ R,H al=some (.lst (R.map V.int))/\qW (mS side) (CB side top) (mS top) R
 ways:∃ refs,H aw=some (.lst refs)/\Wys H (fun _=>True) refs (mS side+mS top) (Ie (mS side) (CB side top) (mS top) (mS side))
def bdF (side top:Str) (ac am al aw:Addr):List (Str×V):=[("held_side",.str side),("held_top",.str top),("held_cells",.ref ac),("held_coming",.ref am),("held_lines",.ref al),("held_ways",.ref aw)]
def Bd (mg:Str->Option Value) (H:Hp) (b:Addr) (side top:Str):Prop:=t7 side/\t7 top/\∃ dx ac am al aw,H b=some (.ins (aL mg "Board") dx (bdF side top ac am al aw))/\BdO H side top ac am al aw
theorem Dm (side top:Str):(mH side top).length=side.cps.size:=Fy _ _ _ _
theorem Bb {side top:Str}:∀ z∈mH side top,z.cps.size=top.cps.size:=fun z hz=>by
 unfold mH Dk at hz
 obtain ⟨i,_,rfl⟩:=YZ.mp hz
 exact yc
def PK (mg:Str->Option Value):Sp:=fun vs H Q _=>∃ (x dx:Addr) (side top:Str),vs=[.ref x,.str side,.str top]/\H x=some (.ins (aL mg "Board") dx [])/\t7 side/\t7 top/\∀ H',Chg x H H'->Bd mg H' x side top->Q .non H'
theorem Chg.same {x:Addr} {H H1 H2:Hp} (c:Chg x H H1) (s:Same H1 H2):Chg x H H2:=fun b o n e=>s _ _ (c b o n e)
theorem Chg.put {x:Addr} {H H1:Hp} {o:HO} (c:Chg x H H1):Chg x H (upd H1 x o):=fun b u n e=>by rw [aD n];exact c b u n e
theorem fB {f:Str} {y:V}:∀ {fs:List (Str×V)},(fs.map (·.1)).contains f=false->lO f y fs=fs ++ [(f,y)]
 | [],_=>rfl
 | (g,z) :: fs,h=>by
  simp only [Ys,Zg,Z0] at h
  have hne:¬ g=f:=fun e=>by rw [e] at h;simp at h
  have ih:=fB (y:=y) (fs:=fs) h.2
  unfold lO
  simp [hne,ih]
theorem mq:aG ["self","side","top","gone"] ["self","side","top"] (au jD):=⟨rfl,rfl,rfl,by trivial,rfl,by trivial,by trivial⟩
theorem jL (T:Txt K mg):j9 P w K mg base 5 "Board" "__init__" ["self","side","top"] (PK mg):=by
 have je:=je (P:=P) (w:=w) (base:=base) T
 have qX:=qX (P:=P) (w:=w) (base:=base) T
 have oE:=oE (P:=P) (w:=w) (base:=base) T
 have t8:=t8 (P:=P) (w:=w) (base:=base) T
 refine oZ T.m_Board___init__ mq (fun _ _ _ _ _ _ us hl=>L2.oX (fun _ _ _=>rfl) us hl) ?_ fun f cdv A outer s H vs Q E hr h=>?_
 ·rintro vs H Q E ⟨x,dx,side,top,rfl,_⟩;rfl
 obtain ⟨x,dx,side,top,rfl,hx,hs,ht,q'⟩:=h
 have hu:=hr.units0
 have hu64:=hr.units
 refine ⟨_,(az (bu (aJ je (hr.mono (by decide)) aM (aa (aq 1) (aa (aq 2) ao)) (by trivial))) (az (jn (K:=K) rfl (aq 0) (aq 1)) (az (jn (K:=K) rfl (aq 0) (aq 2)) (az (jn (K:=K) rfl (aq 0) (aJ qX (hr.mono (by decide)) aM (aa (aq 1) (aa (aq 2) ao)) (by trivial))) (az (aK (i:=3) mq.nd rfl fW (aJ oE (hr.mono (by decide)) aM (aa (aB (aF (K:=K) rfl) aM T.b_len aO (aa (aq 1) ao) (by trivial) (by trivial)) (aa (aB (aF (K:=K) rfl) aM T.b_len aO (aa (aq 2) ao) (by trivial) (by trivial)) (aa (jV (K:=K) rfl (aq 0)) ao))) (by trivial)) rfl) (az (jn (K:=K) rfl (aq 0) (c7 (K:=K) rfl (aq 3) aC)) (az (jn (K:=K) rfl (aq 0) (c7 (K:=K) rfl (aq 3) aC)) (aA (jn (K:=K) rfl (aq 0) (aJ t8 (hr.mono (by decide)) aM (aa (aV aP (aB (aF (K:=K) rfl) aM T.b_len aO (aa (aq 1) ao) (by trivial) (by trivial)) (aB (aF (K:=K) rfl) aM T.b_len aO (aa (aq 2) ao) (by trivial) (by trivial))) (aa (c7 (K:=K) rfl (aq 3) aC) ao)) (by trivial))))))))))),?_⟩
 walk_at "s"
 refine ⟨side,top,rfl,hs,ht,fun H1 S1=>?_⟩
 have cl:=T.o_Board.cl
 have na:=T.n_Board
 have lz:side.length<=sizeLine:=Yz hs.1 (by decide)
 have ly:top.length<=sizeLine:=Yz ht.1 (by decide)
 have hx1:=S1 _ _ hx
 have C1:Chg x H H1:=fun b o _ e=>S1 _ _ e
 walk_at "s"
 refine ⟨x,_,dx,_,rfl,hx1,cl,na _ (by simp),by simp,?_⟩
 walk_at "s"
 rw [fB (by show ([]:List Str).contains "held_side"=false;trivial)]
 have hx2:=aj (H:=H1) (a:=x) (o:=.ins (aL mg "Board") dx (([]:List (Str×V)) ++ ([("held_side",.str side)]:List (Str×V))))
 have C2:=Chg.put (o:=.ins (aL mg "Board") dx (([]:List (Str×V)) ++ ([("held_side",.str side)]:List (Str×V)))) C1
 generalize hG2:upd H1 x (.ins (aL mg "Board") dx (([]:List (Str×V)) ++ ([("held_side",.str side)]:List (Str×V))))=H2 at hx2 C2 ⊢
 replace hx2:H2 x=some (.ins (aL mg "Board") dx ([("held_side",.str side)]:List (Str×V))):=hx2
 walk_at "s"
 refine ⟨x,_,dx,_,rfl,hx2,cl,na _ (by simp),by simp,?_⟩
 walk_at "s"
 rw [fB (by show (["held_side"]:List Str).contains "held_top"=false;trivial)]
 have hx3:=aj (H:=H2) (a:=x) (o:=.ins (aL mg "Board") dx (([("held_side",.str side)]:List (Str×V)) ++ ([("held_top",.str top)]:List (Str×V))))
 have C3:=Chg.put (o:=.ins (aL mg "Board") dx (([("held_side",.str side)]:List (Str×V)) ++ ([("held_top",.str top)]:List (Str×V)))) C2
 generalize hG3:upd H2 x (.ins (aL mg "Board") dx (([("held_side",.str side)]:List (Str×V)) ++ ([("held_top",.str top)]:List (Str×V))))=H3 at hx3 C3 ⊢
 replace hx3:H3 x=some (.ins (aL mg "Board") dx ([("held_side",.str side),("held_top",.str top)]:List (Str×V))):=hx3
 walk_at "s"
 refine ⟨side,top,rfl,hs.1,ht.1,fun ac H4 nac S4 hac=>?_⟩
 walk_at "s"
 have hx4:=S4 _ _ hx3
 have C4:=Chg.same C3 S4
 refine ⟨x,_,dx,_,rfl,hx4,cl,na _ (by simp),by simp,?_⟩
 walk_at "s"
 rw [fB (by show (["held_side","held_top"]:List Str).contains "held_cells"=false;trivial)]
 have hx5:=aj (H:=H4) (a:=x) (o:=.ins (aL mg "Board") dx (([("held_side",.str side),("held_top",.str top)]:List (Str×V)) ++ ([("held_cells",.ref ac)]:List (Str×V))))
 have C5:=Chg.put (o:=.ins (aL mg "Board") dx (([("held_side",.str side),("held_top",.str top)]:List (Str×V)) ++ ([("held_cells",.ref ac)]:List (Str×V)))) C4
 generalize hG5:upd H4 x (.ins (aL mg "Board") dx (([("held_side",.str side),("held_top",.str top)]:List (Str×V)) ++ ([("held_cells",.ref ac)]:List (Str×V))))=H5 at hx5 C5 ⊢
 replace hx5:H5 x=some (.ins (aL mg "Board") dx ([("held_side",.str side),("held_top",.str top),("held_cells",.ref ac)]:List (Str×V))):=hx5
 have nx4:∀ {a:Addr} {us:List V},H4 a=some (.lst us)->a≠x:=fun {a us} h z=>by rw [z,hx4] at h;cases h
 have hac5:H5 ac=some (.lst ((mH side top).map V.str)):=by rw [← hG5,aD (nx4 hac)];exact hac
 walk_at "s"
 refine dh lz ?_
 walk_at "s"
 refine dh ly ?_
 walk_at "s"
 refine ⟨x,_,dx,_,_,rfl,hx5,cl,na _ (by simp),rfl,?_⟩
 walk_at "s"
 refine ⟨mS side,mS top,mH side top,ac,rfl,hac5,Dm side top,hs.1,ht.1,Bb,fun t am al R H6 nal S6 ht6 hE hal hcm=>?_⟩
 walk_at "s"
 obtain ⟨cs,hcm,hG⟩:=hcm
 have hx6:=S6 _ _ hx5
 have C6:=Chg.same C5 S6
 refine ⟨x,_,dx,_,rfl,hx6,cl,na _ (by simp),by simp,?_⟩
 walk_at "s"
 rw [fB (by show (["held_side","held_top","held_cells"]:List Str).contains "held_coming"=false;trivial)]
 have hx7:=aj (H:=H6) (a:=x) (o:=.ins (aL mg "Board") dx (([("held_side",.str side),("held_top",.str top),("held_cells",.ref ac)]:List (Str×V)) ++ ([("held_coming",.ref am)]:List (Str×V))))
 have C7:=Chg.put (o:=.ins (aL mg "Board") dx (([("held_side",.str side),("held_top",.str top),("held_cells",.ref ac)]:List (Str×V)) ++ ([("held_coming",.ref am)]:List (Str×V)))) C6
 generalize hG7:upd H6 x (.ins (aL mg "Board") dx (([("held_side",.str side),("held_top",.str top),("held_cells",.ref ac)]:List (Str×V)) ++ ([("held_coming",.ref am)]:List (Str×V))))=H7 at hx7 C7 ⊢
 replace hx7:H7 x=some (.ins (aL mg "Board") dx ([("held_side",.str side),("held_top",.str top),("held_cells",.ref ac),("held_coming",.ref am)]:List (Str×V))):=hx7
 have M7:Chg x H6 H7:=by rw [← hG7];exact Chg.put (Chg.refl x H6)
 have nt:t≠x:=fun z=>by rw [z,hx6] at ht6;cases ht6
 have ht7:=M7 t _ nt ht6
 walk_at "s"
 refine ⟨x,_,dx,_,rfl,hx7,cl,na _ (by simp),by simp,?_⟩
 walk_at "s"
 rw [fB (by show (["held_side","held_top","held_cells","held_coming"]:List Str).contains "held_lines"=false;trivial)]
 have hx8:=aj (H:=H7) (a:=x) (o:=.ins (aL mg "Board") dx (([("held_side",.str side),("held_top",.str top),("held_cells",.ref ac),("held_coming",.ref am)]:List (Str×V)) ++ ([("held_lines",.ref al)]:List (Str×V))))
 have C8:=Chg.put (o:=.ins (aL mg "Board") dx (([("held_side",.str side),("held_top",.str top),("held_cells",.ref ac),("held_coming",.ref am)]:List (Str×V)) ++ ([("held_lines",.ref al)]:List (Str×V)))) C7
 generalize hG8:upd H7 x (.ins (aL mg "Board") dx (([("held_side",.str side),("held_top",.str top),("held_cells",.ref ac),("held_coming",.ref am)]:List (Str×V)) ++ ([("held_lines",.ref al)]:List (Str×V))))=H8 at hx8 C8 ⊢
 replace hx8:H8 x=some (.ins (aL mg "Board") dx ([("held_side",.str side),("held_top",.str top),("held_cells",.ref ac),("held_coming",.ref am),("held_lines",.ref al)]:List (Str×V))):=hx8
 have M8:Chg x H6 H8:=M7.trans (by rw [← hG8];exact Chg.put (Chg.refl x H7))
 have nx6:∀ {a:Addr} {us:List V},H6 a=some (.lst us)->a≠x:=fun {a us} h z=>by rw [z,hx6] at h;cases h
 have nxt6:∀ {a:Addr} {us:List V},H6 a=some (.tup us)->a≠x:=fun {a us} h z=>by rw [z,hx6] at h;cases h
 have ht8:=M8 t _ nt ht6
 have hcm8:=M8 am _ (nx6 hcm) hcm
 have hG8':Cmg H8 (fun _=>True) (mS side) (CB side top) (mS top) cs (mS side):=hG.imp (fun p us e=>M8 p _ (nxt6 e) e) (fun c ws _ e=>M8 c _ (nx6 e) e) fun _ z=>z
 have hal8:=M8 al _ (nx6 hal) hal
 have hac8:=M8 ac _ (nx6 (S6 _ _ hac5)) (S6 _ _ hac5)
 walk_at "s"
 refine dh lz ?_
 walk_at "s"
 refine dh ly ?_
 walk_at "s"
 refine ⟨mS side,mS top,CB side top,am,cs,rfl,hs.1,ht.1,hcm8,hG8',fun aw refs H9 naw S9 haw hW=>?_⟩
 walk_at "s"
 have hx9:=S9 _ _ hx8
 have C9:=Chg.same C8 S9
 have nx9:∀ {a:Addr} {us:List V},H9 a=some (.lst us)->a≠x:=fun {a us} h z=>by rw [z,hx9] at h;cases h
 have nxt9:∀ {a:Addr} {us:List V},H9 a=some (.tup us)->a≠x:=fun {a us} h z=>by rw [z,hx9] at h;cases h
 refine ⟨x,_,dx,_,rfl,hx9,cl,na _ (by simp),by simp,?_⟩
 walk_at "s"
 rw [fB (by show (["held_side","held_top","held_cells","held_coming","held_lines"]:List Str).contains "held_ways"=false;trivial)]
 have hx10:=aj (H:=H9) (a:=x) (o:=.ins (aL mg "Board") dx (([("held_side",.str side),("held_top",.str top),("held_cells",.ref ac),("held_coming",.ref am),("held_lines",.ref al)]:List (Str×V)) ++ ([("held_ways",.ref aw)]:List (Str×V))))
 have C10:=Chg.put (o:=.ins (aL mg "Board") dx (([("held_side",.str side),("held_top",.str top),("held_cells",.ref ac),("held_coming",.ref am),("held_lines",.ref al)]:List (Str×V)) ++ ([("held_ways",.ref aw)]:List (Str×V)))) C9
 generalize hG10:upd H9 x (.ins (aL mg "Board") dx (([("held_side",.str side),("held_top",.str top),("held_cells",.ref ac),("held_coming",.ref am),("held_lines",.ref al)]:List (Str×V)) ++ ([("held_ways",.ref aw)]:List (Str×V))))=H10 at hx10 C10 ⊢
 replace hx10:H10 x=some (.ins (aL mg "Board") dx ([("held_side",.str side),("held_top",.str top),("held_cells",.ref ac),("held_coming",.ref am),("held_lines",.ref al),("held_ways",.ref aw)]:List (Str×V))):=hx10
 have M10:Chg x H9 H10:=by rw [← hG10];exact Chg.put (Chg.refl x H9)
 refine q' H10 C10 ⟨hs,ht,dx,ac,am,al,aw,hx10,M10 ac _ (nx9 (S9 _ _ hac8)) (S9 _ _ hac8),⟨cs,M10 am _ (nx9 (S9 _ _ hcm8)) (S9 _ _ hcm8),(hG8'.same S9).imp (fun p us e=>M10 p _ (nxt9 e) e) (fun c ws _ e=>M10 c _ (nx9 e) e) fun _ z=>z⟩,⟨R,M10 al _ (nx9 (S9 _ _ hal8)) (S9 _ _ hal8),hE⟩,refs,M10 aw _ (nx9 haw) haw,hW.imp (fun p us e=>M10 p _ (nxt9 e) e) (fun c ws _ e=>M10 c _ (nx9 e) e) fun _ _=>trivial⟩
theorem bdM {side top:Str} {ac am al aw:Addr} {m:Str} (h:(["held_side","held_top","held_cells","held_coming","held_lines","held_ways"]:List Str).contains m=false):(bdF side top ac am al aw).lookup m=none:=by
 unfold bdF
 simp only [Zg,Z0] at h
 obtain ⟨h1,h2,h3,h4,h5,h6,_⟩:=h
 simp only [Yr,h1,h2,h3,h4,h5,h6,List.lookup_nil]
def PL (mg:Str->Option Value):Sp:=fun vs H Q _=>∃ (b:Addr) (side top:Str),vs=[.ref b]/\Bd mg H b side top/\∀ q R H',H q=none->Same H H'->qW (mS side) (CB side top) (mS top) R->H' q=some (.lst (R.map V.int))->Q (.ref q) H'
theorem v6:aG ["self"] ["self"] (au mF):=⟨rfl,rfl,rfl,by trivial,rfl,by trivial,by trivial⟩
theorem mJ (T:Txt K mg):j9 P w K mg base 1 "Board" "lines" ["self"] (PL mg):=by
 refine oZ T.m_Board_lines v6 (fun _ _ _ _ _ _ us hl=>L2.oW (fun _=>rfl) us hl) ?_ fun f cdv A outer s H vs Q E hr h=>?_
 ·rintro vs H Q E ⟨b,side,top,rfl,_⟩;rfl
 obtain ⟨b,side,top,rfl,⟨hs,ht,dx,ac,am,al,aw,hb,hO⟩,q⟩:=h
 have hu:=hr.units0
 have hu64:=hr.units
 refine ⟨_,(aA (aH (vI (vD (K:=K) rfl rfl) aM T.b_list j8 (aa (jV (K:=K) rfl (aq 0)) ao) (by trivial) (by trivial)))),?_⟩
 walk_at "s"
 obtain ⟨R,hR,hE⟩:=hO.lines
 refine ⟨b,_,dx,_,_,rfl,hb,T.o_Board.cl,T.n_Board _ (by simp),rfl,?_⟩
 walk_at "s"
 refine N5 (SqL.of hR) fun l nl=>?_
 walk_at "s"
 exact q l R _ nl ((Same.refl H).upd nl) hE aj
end
local macro_rules | `(tactic| walk_at "s") => `(tactic| (with_reducible repeat (first | refine jk ?_ | walk_at "1")))
local macro_rules | `(tactic| walk_at "n") => `(tactic| (with_reducible repeat (walk_at "1")))
section
variable {P:Program} {w:World} {K:W.Frag} {mg:Str->Option Value} {base:Heap}
theorem pN:Q0 ni "self":=by trivial
theorem uL:Q0 ni "begin":=by trivial
theorem wI:Q0 ni "end":=by trivial
theorem Ut {H:Hp} {v:V} {T:String} (h:TyOf K H v (.type T)) (k:PySem.W.kitOne K (.type T) (.type "int")=some false):WW v=false/\∀ lo hi,inB v lo hi=false:=by
 cases v with
 | int z=>
  cases h
  have:PySem.W.kitOne K (.type "int") (.type "int")=some true:=rfl
  rw [this] at k;cases k
 | _=>exact ⟨rfl,fun _ _=>rfl⟩
def Lg (K:W.Frag):Sp:=fun vs H Q _=>∃ v:V,vs=[v]/\Kd K H v/\Q (.bl (WW v)) H
theorem yR:aG ["thing"] ["thing"] (au pH):=⟨rfl,rfl,rfl,by trivial,rfl,by trivial,by trivial⟩
theorem pO (T:Txt K mg):nF P w K mg base 1 "is_number" ["thing"] (Lg K):=by
 refine gY T.d_is_number yR (fun _ _ _ _ _ _ us hl=>L2.oW (fun _=>rfl) us hl) ?_ fun f cdv A outer s H vs Q E hr h=>?_
 ·rintro vs H Q E ⟨v,rfl,_⟩;rfl
 obtain ⟨v,rfl,hT,q⟩:=h
 have hu:=hr.units0
 have hu64:=hr.units
 refine ⟨_,(aA (aH (jb (aB (fP (K:=K) rfl) aM T.b_isinstance aQ (aa (aq 0) (aa (ph aM T.b_int Cp (by trivial) (by trivial)) ao)) (by trivial) (by trivial)) (lW (Em (aB (fP (K:=K) rfl) aM T.b_isinstance aQ (aa (aq 0) (aa (ph aM T.b_bool El (by trivial) (by trivial)) ao)) (by trivial) (by trivial))))))),?_⟩
 walk_at "s"
 rcases hT with ⟨n,rfl⟩ | ⟨b,rfl⟩ | ⟨T',hty,hk⟩
 ·refine jT (.int _) rfl ?_
  walk_at "s"
  refine jT (.int _) rfl ?_
  walk_at "s"
  exact q
 ·refine jT (.bl _) (b:=true) (by rfl) ?_
  walk_at "s"
  refine jT (.bl _) (b:=true) (by rfl) ?_
  walk_at "s"
  exact q
 ·refine jT hty hk ?_
  walk_at "s"
  rw [(Ut hty hk).1] at q
  exact q
def Lh (K:W.Frag):Sp:=fun vs H Q _=>∃ (v:V) (lo hi:Int),vs=[v,.int lo,.int hi]/\Kd K H v/\Q (.bl (inB v lo hi)) H
theorem yS:aG ["thing","low","high"] ["thing","low","high"] (au pI):=⟨rfl,rfl,rfl,by trivial,rfl,by trivial,by trivial⟩
theorem fc (T:Txt K mg):nF P w K mg base 2 "is_within" ["thing","low","high"] (Lh K):=by
 have pO:=pO (P:=P) (w:=w) (base:=base) T
 refine gY T.d_is_within yS (fun _ _ _ _ _ _ us hl=>L2.oX (fun _ _ _=>rfl) us hl) ?_ fun f cdv A outer s H vs Q E hr h=>?_
 ·rintro vs H Q E ⟨v,lo,hi,rfl,_⟩;rfl
 obtain ⟨v,lo,hi,rfl,hT,q⟩:=h
 have hu:=hr.units0
 have hu64:=hr.units
 refine ⟨_,(aA (aH (jb (aJ pO (hr.mono (by decide)) aM (aa (aq 0) ao) (by trivial)) (lW (Ob DQ DQ (aq 1) (aq 0) (aq 2)))))),?_⟩
 walk_at "s"
 refine ⟨v,rfl,hT,?_⟩
 walk_at "s"
 cases v with
 | int n=>
  show if true=true then _ else _
  walk_at "s"
  show if decide (lo<=n)=true then _ else _
  unfold inB at q
  dsimp only at q
  by_cases h:lo<=n
  ·rw [Yj h] at q ⊢
   rw [Aar] at q
   walk_at "s"
   exact q
  ·rw [Yl h] at q ⊢
   rw [Bool.false_and] at q
   walk_at "s"
   exact q
 | _=>exact q
def FJ (K:W.Frag):Sp:=fun vs H Q _=>∃ (n lo hi:Int),vs=[.int n,.int lo,.int hi]/\lo<=n/\n<=hi/\Q .non H
theorem wK:aG ["thing","low","high"] ["thing","low","high"] (au nQ):=⟨rfl,rfl,rfl,by trivial,rfl,by trivial,by trivial⟩
theorem gn (T:Txt K mg):nF P w K mg base 3 "need_place" ["thing","low","high"] (FJ K):=by
 have fc:=fc (P:=P) (w:=w) (base:=base) T
 refine gY T.d_need_place wK (fun _ _ _ _ _ _ us hl=>L2.oX (fun _ _ _=>rfl) us hl) ?_ fun f cdv A outer s H vs Q E hr h=>?_
 ·rintro vs H Q E ⟨n,lo,hi,rfl,_⟩;rfl
 obtain ⟨n,lo,hi,rfl,h1,h2,q⟩:=h
 have hu:=hr.units0
 have hu64:=hr.units
 refine ⟨_,(aA (dG (cL (cM (aJ fc (hr.mono (by decide)) aM (aa (aq 0) (aa (aq 1) (aa (aq 2) ao))) (by trivial)))) (aA vJ) cX)),?_⟩
 walk_at "s"
 refine ⟨.int n,lo,hi,rfl,.inl ⟨_,rfl⟩,?_⟩
 walk_at "s"
 have hb:inB (.int n) lo hi=true:=by unfold inB;simp;omega
 rw [hb]
 walk_at "s"
 exact q
theorem gZ (t:List Nat):((nI t).map V.int).length=t.length:=by unfold nI;rw [X8,X8]
theorem Q5 {t:List Nat} {k:Nat} {v:V} (h:((nI t).map V.int)[k]?=some v):∃ i,t[k]?=some i/\v= .int (i:Int):=by
 unfold nI at h
 rw [XX,XX] at h
 cases e:t[k]? with
 | none=>rw [e] at h;cases h
 | some y=>rw [e] at h;exact ⟨y,rfl,(Ym h).symm⟩
theorem W2 {n p:Nat} {j:Int} (hj:j=(p:Int)) (h:p < n):Bs n j=some p:=by
 subst hj
 unfold Bs
 rw [if_pos (by omega),if_pos (by omega)]
 simp
theorem Dn:aG ["self","begin","end"] ["self","begin","end"] (au ni):=⟨rfl,rfl,rfl,by trivial,rfl,by trivial,by trivial⟩
theorem HN (T:Txt K mg):Vo P w K mg base 1 "NoSpan" (aL mg "NoSpan") ["begin","end"]:=mkX T.x_NoSpan Dn (fun _ _ _ _ _ _ us hl=>L2.oX (fun _ _ _=>rfl) us hl) rfl fun f cdv A outer s H vs Q E hr h=>⟨_,(az (yD (K:=K) rfl (Cr 0 pN) (Cr 1 uL)) (aA (yD (K:=K) rfl (Cr 0 pN) (Cr 2 wI)))),rd2 T.x_NoSpan.c.cl.cls (T.x_NoSpan.na _ (by simp)) (T.x_NoSpan.na _ (by simp)) (by decide) h⟩
def yU (b e:V) (m:Int):Bool:=inB b 0 m && (match b with | .int i=>inB e i m | _=>false)
def Uu (K:W.Frag):Sp:=fun vs H Q _=>∃ (b e:V) (m:Int),vs=[b,e,.int m]/\Kd K H b/\Kd K H e/\Q (.bl (yU b e m)) H
theorem Do:aG ["begin","end","many"] ["begin","end","many"] (au tK):=⟨rfl,rfl,rfl,by trivial,rfl,by trivial,by trivial⟩
theorem ud (T:Txt K mg):nF P w K mg base 3 "is_span" ["begin","end","many"] (Uu K):=by
 have fc:=fc (P:=P) (w:=w) (base:=base) T
 refine gY T.d_is_span Do (fun _ _ _ _ _ _ us hl=>L2.oX (fun _ _ _=>rfl) us hl) ?_ fun f cdv A outer s H vs Q E hr h=>?_
 ·rintro vs H Q E ⟨b,e,m,rfl,_⟩;rfl
 obtain ⟨b,e,m,rfl,kb,ke,q⟩:=h
 have hu:=hr.units0
 have hu64:=hr.units
 refine ⟨_,(aA (aH (jb (aJ fc (hr.mono (by decide)) aM (aa (aq 0) (aa aC (aa (aq 2) ao))) (by trivial)) (lW (aJ fc (hr.mono (by decide)) aM (aa (aq 1) (aa (aq 0) (aa (aq 2) ao))) (by trivial)))))),?_⟩
 walk_at "s"
 refine ⟨_,_,_,rfl,kb,?_⟩
 walk_at "s"
 unfold yU at q
 cases hb:inB b 0 m with
 | false=>
  rw [hb,Bool.false_and] at q
  walk_at "s"
  exact q
 | true=>
  rw [hb,Aar] at q
  obtain ⟨i,rfl⟩:∃ i,b= .int i:=by
   cases b with
   | int i=>exact ⟨i,rfl⟩
   | _=>cases hb
  walk_at "s"
  refine ⟨_,_,_,rfl,ke,?_⟩
  walk_at "s"
  exact q
def Xa (mg:Str->Option Value) (H:Hp) (E:XK) (b e:V):Prop:=∀ x H',Same H H'->IsX H' x (aL mg "NoSpan") [("begin",b),("end",e)]->E (.ref (aL mg "NoSpan")) (some x) H'
def FN (K:W.Frag) (mg:Str->Option Value):Sp:=fun vs H Q E=>∃ (b e:V) (m:Int),vs=[b,e,.int m]/\Kd K H b/\Kd K H e/\(yU b e m=true->Q .non H)/\(yU b e m=false->Xa mg H E b e)
theorem yV:aG ["begin","end","many"] ["begin","end","many"] (au pJ):=⟨rfl,rfl,rfl,by trivial,rfl,by trivial,by trivial⟩
theorem jf (T:Txt K mg):HasX P w K mg base 4 "need_span" ["begin","end","many"] (FN K mg):=by
 have ud:=ud (P:=P) (w:=w) (base:=base) T
 refine xM T.d_need_span yV (fun _ _ _ _ _ _ us hl=>L2.oX (fun _ _ _=>rfl) us hl) ?_ fun f cdv A outer s H vs Q E hr h=>?_
 ·rintro vs H Q E ⟨b,e,m,rfl,_⟩;rfl
 obtain ⟨b,e,m,rfl,kb,ke,q1,q2⟩:=h
 have hu:=hr.units0
 have hu64:=hr.units
 refine ⟨_,(aA (dG (cL (cM (aJ ud (hr.mono (by decide)) aM (aa (aq 0) (aa (aq 1) (aa (aq 2) ao))) (by trivial)))) (aA (Af (HN (P:=P) (w:=w) (base:=base) T) (hr.mono (by decide)) rfl aM dj (aa (aq 0) (aa (aq 1) ao)) (by trivial))) cX)),?_⟩
 walk_at "s"
 refine ⟨b,e,m,rfl,kb,ke,?_⟩
 walk_at "s"
 cases hb:yU b e m with
 | true=>
  walk_at "s"
  exact q1 hb
 | false=>
  walk_at "s"
  exact ⟨rfl,(show 2<=sizeLine by decide),fun x H2 S2 X2=>q2 hb x H2 S2 X2⟩
theorem Li {H:Hp} {Q:VK} {E:XK} {b e m:Int} (h1:0<=b) (h2:b<=e) (h3:e<=m) (h:Q .non H):FN K mg [.int b,.int e,.int m] H Q E:=
 ⟨_,_,_,rfl,.inl ⟨_,rfl⟩,.inl ⟨_,rfl⟩,fun _=>h,fun hb=>by
  have:yU (.int b) (.int e) m=true:=by unfold yU inB;simp;omega
  rw [this] at hb;cases hb⟩
theorem v7 {H:Hp} {Q:VK} {E:XK} {n lo hi:Int} (h1:lo<=n) (h2:n<=hi) (h:Q .non H):FJ K [.int n,.int lo,.int hi] H Q E:=⟨n,lo,hi,rfl,h1,h2,h⟩
def Tn (H:Hp) (a:Addr) (t:List Nat):Prop:=H a=some (.lst ((nI t).map V.int))\/H a=some (.tup ((nI t).map V.int))
theorem Tn.same {H H':Hp} {a:Addr} {t:List Nat} (h:Tn H a t) (s:Same H H'):Tn H' a t:=h.imp (s _ _) (s _ _)
def PN (us:List V):Bool:=decide (us.length<=96) && (us.all fun u=>inB u 0 ((us.length:Int) - 1)) && decide us.Nodup
theorem FP {us:List V} (h:96 < us.length):PN us=false:=by unfold PN;rw [Yl (by omega)];rfl
theorem Lj {us:List V} {u:V} (h:u∈us) (hb:inB u 0 ((us.length:Int) - 1)=false):PN us=false:=by
 unfold PN
 have:(us.all fun u=>inB u 0 ((us.length:Int) - 1))=false:=List.all_eq_false.mpr ⟨u,h,by rw [hb];simp⟩
 rw [this,Bool.and_false,Bool.false_and]
theorem Lk {us:List V} {k:Nat} {u:V} (h:us[k]?=some u) (hm:u∈us.take k):PN us=false:=by
 have:¬ us.Nodup:=fun nd=>by
  obtain ⟨i,hi,e⟩:=Aah.mp hm
  obtain ⟨hk,e2⟩:=XM.mp h
  rw [Aal] at hi
  rw [List.getElem_take] at e
  exact ZW.mp nd i k (by omega) hk (by omega) (e.trans e2.symm)
 unfold PN
 rw [Yl this,Bool.and_false]
theorem Ln {us:List V} (h:us.length<=96) (hin:∀ u∈us,inB u 0 ((us.length:Int) - 1)=true) (hnd:us.Nodup):PN us=true:=by
 unfold PN
 rw [Yj h,Yj hnd,Zi.mpr hin];rfl
theorem v8 {us:List V} {v:V} (h:us.Nodup) (hm:v ∉ us):(us ++ [v]).Nodup:=by
 refine Aad.mpr ⟨h,by simp,fun a ha b hb=>?_⟩
 rw [YD.mp hb]
 exact fun z=>hm (z ▸ ha)
theorem FQ {v:V} {h:Int} (hb:inB v 0 h=true):∃ i:Nat,v= .int (i:Int)/\(i:Int)<=h:=by
 cases v with
 | int n=>
  unfold inB at hb
  simp at hb
  exact ⟨n.toNat,by rw [Int.toNat_of_nonneg hb.1],by omega⟩
 | _=>cases hb
def TnK (K:W.Frag) (H:Hp) (v:V) (b:Bool):Prop:=(∃ a us,v= .ref a/\(H a=some (.lst us)\/H a=some (.tup us))/\us.length<=10000/\(∀ u∈us,Kd K H u)/\b=PN us)\/
 ∃ T,TyOf K H v (.type T)/\PySem.W.kitAny K (.type T) [.type "list",.type "tuple"]=some false/\b=false
theorem PP {H:Hp} {a:Addr} {t:List Nat} (h:Tn H a t) (hP:Prm t):TnK K H (.ref a) true:=by
 have hle:=hP.le
 refine .inl ⟨a,_,rfl,h,by rw [gZ];omega,fun u hu=>?_,?_⟩
 ·obtain ⟨x,_,rfl⟩:=YZ.mp hu
  exact .inl ⟨x,rfl⟩
 ·refine (Ln (by rw [gZ];exact hle) (fun u hu=>?_) ?_).symm
  ·obtain ⟨x,hx,rfl⟩:=YZ.mp hu
   unfold nI at hx
   obtain ⟨y,hy,rfl⟩:=YZ.mp hx
   have:=hP.lt hy
   rw [gZ]
   unfold inB
   simp;omega
  ·unfold nI List.Nodup
   rw [ZJ,List.pairwise_map]
   exact hP.nd.imp fun {x y} h z=>h (by have e:((x:Nat):Int)=((y:Nat):Int):=V.int.inj z;omega)
def Uv (K:W.Frag):Sp:=fun vs H Q _=>∃ (v:V) (b:Bool),vs=[v]/\TnK K H v b/\∀ H',Same H H'->Q (.bl b) H'
theorem mK:aG ["thing","seen","end"] ["thing"] (au n6):=⟨rfl,rfl,rfl,by trivial,rfl,by trivial,by trivial⟩
theorem oG (T:Txt K mg):nF P w K mg base 3 "is_turning" ["thing"] (Uv K):=by
 have fc:=fc (P:=P) (w:=w) (base:=base) T
 refine gY T.d_is_turning mK (fun _ _ _ _ _ _ us hl=>L2.oW (fun _=>rfl) us hl) ?_ fun f cdv A outer s H vs Q E hr h=>?_
 ·rintro vs H Q E ⟨v,bb,rfl,_⟩;rfl
 obtain ⟨v,bb,rfl,h,q⟩:=h
 have hu:=hr.units0
 have hu64:=hr.units
 refine ⟨_,(az (dG (j7 (jU (cL (cM (aB (kO (K:=K) rfl) aM T.b_isinstance aQ (aa (aq 0) (aa (jy (aa (ph aM T.b_list j8 (by trivial) (by trivial)) (aa (ph aM T.b_tuple o8 (by trivial) (by trivial)) ao))) ao)) (by trivial) (by trivial)))) (iV (fZ DW (aB (aF (K:=K) rfl) aM T.b_len aO (aa (aq 0) ao) (by trivial) (by trivial)) (Cu aM T.c_MOST_LINES (by trivial)) (by walk_at "p"))))) (aA (aH ji)) cX) (az (aK (i:=1) mK.nd rfl fW Om rfl) (az (fH Yx rfl (lq (K:=K) rfl (aq 0)) (bj (i:=2) mK.nd rfl fW rfl) (az (dG (j7 (jU (cL (cM (aJ fc (hr.mono (by decide)) aM (aa (aq 2) (aa aC (aa (aV fY (aB (aF (K:=K) rfl) aM T.b_len aO (aa (aq 0) ao) (by trivial) (by trivial)) aC) ao))) (by trivial)))) (iV (fZ (Ku (K:=K) rfl hu64) (aq 2) (aq 1) (by walk_at "p"))))) (aA (aH ji)) cX) (aA (uW (ts:=Fe) ji (yz (aq 1) (aq 2) (Ff hu64)))))) (aA (aH ji))))),?_⟩
 walk_at "s"
 have hs:20000<=sizeLine:=by decide
 rcases h with ⟨a,us,rfl,ha,hlen,hkd,rfl⟩ | ⟨T',hty,hk,rfl⟩
 ·rcases ha with ha | ha
  ·skip
   refine lD rfl fun p np=>?_
   walk_at "s"
   have ha1:upd H p (.tup [.ty "list",.ty "tuple"]) a=some (.lst us):=aZ np ha
   refine rO (.lst ha1) aj rfl (b:=true) (by rfl) ?_
   walk_at "s"
   refine fu (SqL.of ha1) ?_
   walk_at "s"
   by_cases h96:96 < us.length
   ·rw [Yj (show (96:Int) < (us.length:Int) by omega)]
    rw [FP h96] at q
    walk_at "s"
    exact q _ ((Same.refl H).upd np)
   rw [Yl (show ¬ (96:Int) < (us.length:Int) by omega)]
   walk_at "s"
   intro d nd
   have S1:Same H (upd (upd H p (.tup [.ty "list",.ty "tuple"])) d (.dK [])):=((Same.refl H).upd np).upd nd
   have hd0:upd (upd H p (.tup [.ty "list",.ty "tuple"])) d (.dK []) d=some (.dK []):=aj
   have nd':H d=none:=Same.back ((Same.refl H).upd np) nd
   generalize upd (upd H p (.tup [.ty "list",.ty "tuple"])) d (.dK [])=H1 at S1 hd0 ⊢
   walk_at "s"
   refine .inl ⟨a,rfl,⟨_,SqL.of (S1 _ _ ha)⟩,?_⟩
   refine mU (xs:=us) (fun k U H'=>∃ (kvs:List (Key×V)) (x2:Option V),U=[some (.ref a),some (.ref d),x2]/\Same H H'/\H' d=some (.dK kvs)/\kvs.length<=k/\(∀ n:Nat,lg kvs (Sum.inl (n:Int))=if V.int (n:Int)∈us.take k then some (.bl true) else none)/\(∀ u∈us.take k,inB u 0 ((us.length:Int) - 1)=true)/\(us.take k).Nodup)
    ⟨[],_,rfl,S1,hd0,by simp,fun n=>by simp [zM],by simp,by simp⟩ (fun i U H' _ h=>?_) ?_ ?_
   ·obtain ⟨_,_,_,s,_⟩:=h
    exact SqL.of (s _ _ ha)
   ·rintro k v U H' hk ⟨kvs,x2,rfl,s,hd,hkl,hv,hin,hnd⟩
    have hkt:k < us.length:=(XM.mp hk).1
    have hmem:=YG hk
    walk_at "s"
    refine fu (SqL.of (s _ _ ha)) ?_
    walk_at "s"
    refine ⟨_,_,_,rfl,(hkd v hmem).same s,?_⟩
    walk_at "s"
    cases hb:inB v 0 ((us.length:Int) - 1) with
    | false=>
     rw [Lj hmem hb] at q
     walk_at "s"
     exact q _ s
    | true=>
     obtain ⟨i,rfl,hi⟩:=FQ hb
     walk_at "s"
     refine .inr ⟨d,_,rfl,DGet.k (k:=Sum.inl (i:Int)) hd,?_⟩
     rw [hv i]
     by_cases hm:V.int (i:Int)∈us.take k
     ·rw [if_pos hm,show (some (V.bl true)).isSome=true from rfl]
      rw [Lk hk hm] at q
      walk_at "s"
      exact q _ s
     ·rw [if_neg hm,show (none:Option V).isSome=false from rfl]
      walk_at "s"
      refine .inr ⟨d,_,rfl,DPut.k (k:=Sum.inl (i:Int)) hd (by omega),?_⟩
      have tk:us.take (k+1)=us.take k ++ [V.int (i:Int)]:=by rw [Aae,hk];rfl
      refine ⟨_,_,rfl,Same.put s nd',aj,Yz (lU _ _ _) (by omega),fun n=>?_,fun u hu=>?_,?_⟩
      ·rw [zO,hv n,tk]
       by_cases hn:n=i
       ·subst hn;simp
       ·rw [if_neg (fun z=>hn (by have:=Sum.inl.inj z;omega))]
        have hne:¬ V.int (n:Int)=V.int (i:Int):=fun z=>hn (by have:=V.int.inj z;omega)
        simp [hne]
      ·rw [tk] at hu
       rcases Zb.mp hu with h | h
       ·exact hin u h
       ·rw [YD.mp h];exact hb
      ·rw [tk]
       exact v8 hnd hm
   ·rintro U H' ⟨kvs,x2,rfl,s,hd,_,_,hin,hnd⟩
    rw [List.take_length] at hin hnd
    rw [Ln (by omega) hin hnd] at q
    walk_at "s"
    exact q _ s
  ·skip
   refine lD rfl fun p np=>?_
   walk_at "s"
   have ha1:upd H p (.tup [.ty "list",.ty "tuple"]) a=some (.tup us):=aZ np ha
   refine rO (.tup ha1) aj rfl (b:=true) (by rfl) ?_
   walk_at "s"
   refine sY (SqT.of ha1) ?_
   walk_at "s"
   by_cases h96:96 < us.length
   ·rw [Yj (show (96:Int) < (us.length:Int) by omega)]
    rw [FP h96] at q
    walk_at "s"
    exact q _ ((Same.refl H).upd np)
   rw [Yl (show ¬ (96:Int) < (us.length:Int) by omega)]
   walk_at "s"
   intro d nd
   have S1:Same H (upd (upd H p (.tup [.ty "list",.ty "tuple"])) d (.dK [])):=((Same.refl H).upd np).upd nd
   have hd0:upd (upd H p (.tup [.ty "list",.ty "tuple"])) d (.dK []) d=some (.dK []):=aj
   have nd':H d=none:=Same.back ((Same.refl H).upd np) nd
   generalize upd (upd H p (.tup [.ty "list",.ty "tuple"])) d (.dK [])=H1 at S1 hd0 ⊢
   walk_at "s"
   refine .inr (.inl ⟨a,rfl,⟨_,SqT.of (S1 _ _ ha)⟩,?_⟩)
   refine MT (xs:=us) (fun k U H'=>∃ (kvs:List (Key×V)) (x2:Option V),U=[some (.ref a),some (.ref d),x2]/\Same H H'/\H' d=some (.dK kvs)/\kvs.length<=k/\(∀ n:Nat,lg kvs (Sum.inl (n:Int))=if V.int (n:Int)∈us.take k then some (.bl true) else none)/\(∀ u∈us.take k,inB u 0 ((us.length:Int) - 1)=true)/\(us.take k).Nodup)
    ⟨[],_,rfl,S1,hd0,by simp,fun n=>by simp [zM],by simp,by simp⟩ (fun i U H' _ h=>?_) ?_ ?_
   ·obtain ⟨_,_,_,s,_⟩:=h
    exact SqT.of (s _ _ ha)
   ·rintro k v U H' hk ⟨kvs,x2,rfl,s,hd,hkl,hv,hin,hnd⟩
    have hkt:k < us.length:=(XM.mp hk).1
    have hmem:=YG hk
    walk_at "s"
    refine sY (SqT.of (s _ _ ha)) ?_
    walk_at "s"
    refine ⟨_,_,_,rfl,(hkd v hmem).same s,?_⟩
    walk_at "s"
    cases hb:inB v 0 ((us.length:Int) - 1) with
    | false=>
     rw [Lj hmem hb] at q
     walk_at "s"
     exact q _ s
    | true=>
     obtain ⟨i,rfl,hi⟩:=FQ hb
     walk_at "s"
     refine .inr ⟨d,_,rfl,DGet.k (k:=Sum.inl (i:Int)) hd,?_⟩
     rw [hv i]
     by_cases hm:V.int (i:Int)∈us.take k
     ·rw [if_pos hm,show (some (V.bl true)).isSome=true from rfl]
      rw [Lk hk hm] at q
      walk_at "s"
      exact q _ s
     ·rw [if_neg hm,show (none:Option V).isSome=false from rfl]
      walk_at "s"
      refine .inr ⟨d,_,rfl,DPut.k (k:=Sum.inl (i:Int)) hd (by omega),?_⟩
      have tk:us.take (k+1)=us.take k ++ [V.int (i:Int)]:=by rw [Aae,hk];rfl
      refine ⟨_,_,rfl,Same.put s nd',aj,Yz (lU _ _ _) (by omega),fun n=>?_,fun u hu=>?_,?_⟩
      ·rw [zO,hv n,tk]
       by_cases hn:n=i
       ·subst hn;simp
       ·rw [if_neg (fun z=>hn (by have:=Sum.inl.inj z;omega))]
        have hne:¬ V.int (n:Int)=V.int (i:Int):=fun z=>hn (by have:=V.int.inj z;omega)
        simp [hne]
      ·rw [tk] at hu
       rcases Zb.mp hu with h | h
       ·exact hin u h
       ·rw [YD.mp h];exact hb
      ·rw [tk]
       exact v8 hnd hm
   ·rintro U H' ⟨kvs,x2,rfl,s,hd,_,_,hin,hnd⟩
    rw [List.take_length] at hin hnd
    rw [Ln (by omega) hin hnd] at q
    walk_at "s"
    exact q _ s
 ·refine lD rfl fun p np=>?_
  walk_at "s"
  refine rO (hty.mono fun b o e _=>aZ np e) aj rfl hk ?_
  walk_at "s"
  exact q _ ((Same.refl H).upd np)
def PQ (K:W.Frag):Sp:=fun vs H Q _=>∃ (a:Addr) (t:List Nat),vs=[.ref a]/\Tn H a t/\Prm t/\∀ H',Same H H'->Q .non H'
theorem uM:aG ["thing"] ["thing"] (au lF):=⟨rfl,rfl,rfl,by trivial,rfl,by trivial,by trivial⟩
theorem gf (T:Txt K mg):nF P w K mg base 4 "need_turning" ["thing"] (PQ K):=by
 have oG:=oG (P:=P) (w:=w) (base:=base) T
 refine gY T.d_need_turning uM (fun _ _ _ _ _ _ us hl=>L2.oW (fun _=>rfl) us hl) ?_ fun f cdv A outer s H vs Q E hr h=>?_
 ·rintro vs H Q E ⟨a,t,rfl,_⟩;rfl
 obtain ⟨a,t,rfl,ha,hP,q⟩:=h
 have hu:=hr.units0
 have hu64:=hr.units
 refine ⟨_,(aA (dG (cL (cM (aJ oG (hr.mono (by decide)) aM (aa (aq 0) ao) (by trivial)))) (aA vJ) cX)),?_⟩
 walk_at "s"
 refine ⟨.ref a,true,rfl,PP ha hP,fun H1 S1=>?_⟩
 walk_at "s"
 walk_at "s"
 exact q H1 S1
end
local macro_rules | `(tactic| walk_at "s") => `(tactic| (with_reducible repeat (first | refine jk ?_ | walk_at "2")))
local macro_rules | `(tactic| walk_at "n") => `(tactic| (with_reducible repeat (walk_at "2")))
section
variable {P:Program} {w:World} {K:W.Frag} {mg:Str->Option Value} {base:Heap}
theorem Bc:(["end","behind","line_end"]:List Str).Nodup:=by trivial
def Dp (t:List Nat) (b e:Nat):Nat:=(t.drop b).countP fun x=>decide (x < e)
def yW (t:List Nat) (b:Nat):List Int:=(List.range (t.length+1)).map fun e=>((Dp t b e:Nat):Int)
theorem Dq {t:List Nat} {b e:Nat} {j:Int} (hj:j=(e:Int)) (h:e<=t.length):uU ((yW t b).map V.int) j=some (.int ((Dp t b e:Nat):Int)):=by
 subst hj
 refine bh ?_
 unfold yW
 rw [XX,XX,Yt (by omega)];rfl
theorem Be {t:List Nat} {b x:Nat} (h:t[b]?=some x) (e:Nat):Dp t b e=Dp t (b+1) e+if x < e then 1 else 0:=by
 obtain ⟨hb,hx⟩:=XM.mp h
 unfold Dp
 rw [List.drop_eq_getElem_cons hb,List.countP_cons,hx]
 by_cases c:x < e
 ·rw [if_pos (by simpa using c),if_pos c]
 ·rw [if_neg (by simpa using c),if_neg c]
theorem PX (t:List Nat) (e:Nat):Dp t t.length e=0:=by unfold Dp;rw [List.drop_length];rfl
def CT (H:Hp) (rs:List V) (n:Nat) (f:Nat->List Int):Prop:=rs.length=n/\∀ k,k < n->∃ a,rs[k]?=some (.ref a)/\H a=some (.lst ((f k).map V.int))
theorem CT.same {H H':Hp} {rs:List V} {n:Nat} {f:Nat->List Int} (h:CT H rs n f) (s:Same H H'):CT H' rs n f:=⟨h.1,fun k hk=>by
 obtain ⟨a,e,ha⟩:=h.2 k hk
 exact ⟨a,e,s _ _ ha⟩⟩
theorem CT.push {H:Hp} {rs:List V} {n:Nat} {f:Nat->List Int} {a:Addr} (h:CT H rs n f) (ha:H a=some (.lst ((f n).map V.int))):CT H (rs ++ [.ref a]) (n+1) f:=⟨by rw [Za,h.1];rfl,fun k hk=>by
 by_cases e:k=n
 ·subst e
  exact ⟨a,by rw [Yn (by rw [h.1];exact XQ _),h.1,Zm];rfl,ha⟩
 ·obtain ⟨b,e1,hb⟩:=h.2 k (by omega)
  exact ⟨b,by rw [Ye (by rw [h.1];omega)];exact e1,hb⟩⟩
theorem CT.rev {H:Hp} {rs:List V} {n:Nat} {f:Nat->List Int} (h:CT H rs n f):CT H rs.reverse n fun k=>f (n - 1 - k):=⟨by rw [List.length_reverse];exact h.1,fun k hk=>by
 obtain ⟨a,e,ha⟩:=h.2 (n - 1 - k) (by omega)
 exact ⟨a,by rw [List.getElem?_reverse (by rw [h.1];exact hk),h.1];exact e,ha⟩⟩
def Lp:Sp:=fun vs H Q _=>∃ (a:Addr) (t:List Nat),vs=[.ref a]/\Tn H a t/\Prm t/\∀ q rs H',H q=none->Same H H'->H' q=some (.lst rs)->CT H' rs (t.length+1) (yW t)->(∀ r,V.ref r∈rs->H r=none)->Q (.ref q) H'
theorem nq:aG ["turning","many","table","line_end","behind"] ["turning"] (au rT):=⟨rfl,rfl,rfl,by trivial,rfl,by trivial,by trivial⟩
theorem v9 (T:Txt K mg):nF P w K mg base 5 "counts" ["turning"] Lp:=by
 have gf:=gf (P:=P) (w:=w) (base:=base) T
 refine gY T.d_counts nq (fun _ _ _ _ _ _ us hl=>L2.oW (fun _=>rfl) us hl) ?_ fun f cdv A outer s H vs Q E hr h=>?_
 ·rintro vs H Q E ⟨a,t,rfl,_⟩;rfl
 obtain ⟨a,t,rfl,ha,hP,q⟩:=h
 have hu:=hr.units0
 have hu64:=hr.units
 refine ⟨_,(az (bu (aJ gf (hr.mono (by decide)) aM (aa (aq 0) ao) (by trivial))) (az (aK (i:=1) nq.nd rfl fW (aB (aF (K:=K) rfl) aM T.b_len aO (aa (aq 0) ao) (by trivial) (by trivial)) rfl) (az (aK (i:=2) nq.nd rfl fW (gW (aa (aV iR (gW (aa aC ao)) (aV aP (aq 1) aC)) ao)) rfl) (az (fH Yx rfl (OD (K:=K) rfl aM T.b_reversed (aq 0)) (bj (i:=3) nq.nd rfl Mq rfl) (az (aK (i:=4) nq.nd rfl Mq (c7 (K:=K) rfl (aq 2) (GQ sI aC)) rfl) (aA (bu (gm (K:=K) rfl Yh Yo Yp dm (aq 2) (aa (gJ (sub:=[none,some 4,some 3]) (cY (N:=["turning","many","table","line_end","behind"]) (sc:=au rT) (N':=["end","behind","line_end"]) (by trivial)) rfl rfl rfl (bJ aM T.b_range (aa (aV aP (aq 1) aC) ao)) (fun C s₀ H₀ ex=>(mW 0 (by trivial) Bc)) (fun C s₀ H₀ ex=>dI) (fun C s₀ H₀ ex=>(aV aP (c7 (K:=K) rfl (fQ 1 (by trivial)) (dF 0 (by trivial))) (j_if (fZ IV (fQ 2 (by trivial)) (dF 0 (by trivial)) (by walk_at "p")) aC aC)))) ao)))))) (aA (aH (G6 (K:=K) rfl rfl aM T.b_list aM T.b_reversed (aq 2)))))))),?_⟩
 walk_at "s"
 have hsz:20000<=sizeLine:=by decide
 have hle:=hP.le
 refine ⟨a,t,rfl,ha,hP,fun H1 S1=>?_⟩
 walk_at "s"
 have hlen:∀ (n:Nat),n=t.length->n=t.length:=fun _ h=>h
 have step:∀ (R:V->Hp->Prop),R (.int (t.length:Int)) H1->Ck K [.ref a] H1 R:=fun R hR=>by
  rcases ha.same S1 with h | h
  ·refine fu (SqL.of h) ?_
   rw [gZ];exact hR
  ·refine sY (SqT.of h) ?_
   rw [gZ];exact hR
 refine step _ ?_
 walk_at "s"
 refine dJ rfl fun p0 H2 _ S2 f2=>?_
 walk_at "s"
 refine Cw f2 (by omega) (by omega) (by simp;omega) fun p1 np1=>?_
 have S3:=(Same.refl H2).upd np1 (o:=.lst (List.replicate ((t.length:Int)+1).toNat [V.int 0]).flatten)
 have f3:=aj (H:=H2) (a:=p1) (o:=.lst (List.replicate ((t.length:Int)+1).toNat [V.int 0]).flatten)
 generalize upd H2 p1 (.lst (List.replicate ((t.length:Int)+1).toNat [V.int 0]).flatten)=H3 at S3 f3 ⊢
 have f3':H3 p1=some (.lst ((yW t (t.length - 0)).map V.int)):=by
  rw [f3,show ((t.length:Int)+1).toNat=t.length+1 by omega]
  congr 2
  unfold yW
  rw [ZJ]
  have:∀ n,(List.replicate n [V.int 0]).flatten=(List.range n).map fun _=>V.int 0:=fun n=>by
   induction n with
   | zero=>rfl
   | succ n ih=>rw [List.replicate_succ',List.flatten_append,ih,YJ,Yk];rfl
  rw [this]
  refine Zx fun e _=>?_
  show V.int 0=V.int ((Dp t (t.length - 0) e:Nat):Int)
  rw [Nat.sub_zero,PX];rfl
 walk_at "s"
 refine dJ rfl fun tb H4 ntb S4 f4=>?_
 walk_at "s"
 have U4:=S1.trans (S2.trans (S3.trans S4))
 have ntb0:H tb=none:=by
  have:=Same.back (S1.trans (S2.trans S3)) ntb
  exact this
 have C4:CT H4 [.ref p1] (0+1) fun k=>yW t (t.length - k):=⟨rfl,fun k hk=>by
  obtain rfl:k=0:=by omega
  exact ⟨p1,rfl,S4 _ _ f3'⟩⟩
 have N4:∀ r,V.ref r∈[V.ref p1]->H r=none:=fun r hr=>by
  simp only [X7,Yq,or_false] at hr
  cases hr
  exact Same.back (S1.trans S2) np1
 rcases ha with ha | ha
 ·refine .inl ⟨a,_,rfl,SqL.of (U4 _ _ ha),?_⟩
  refine OJ (xs:=(nI t).map V.int) (fun i U G=>Same H G/\(∃ rs,G tb=some (.lst rs)/\(CT G rs (i+1) fun k=>yW t (t.length - k))/\∀ r,V.ref r∈rs->H r=none)/\∃ x3 x4,U=[some (.ref a),some (.int (t.length:Int)),some (.ref tb),x3,x4])
   ⟨U4,⟨_,f4,C4,N4⟩,_,_,rfl⟩ (fun i U G _ h=>SqL.of (h.1 _ _ ha)) ?_ ?_
  ·rintro i x U G hi hx ⟨sG,⟨rs,htb,hC,hN⟩,x3,x4,rfl⟩
   rw [gZ] at hi
   rw [gZ] at hx
   obtain ⟨le,hle2,rfl⟩:=Q5 hx
   obtain ⟨pb,epb,hpb⟩:=hC.2 i (by omega)
   have hrl:rs.length=i+1:=hC.1
   walk_at "s"
   refine aN (SqL.of htb) (Wy (n:=i) hrl epb) ?_
   walk_at "s"
   refine ⟨.inl ⟨rfl,_,SqL.of htb⟩,?_⟩
   walk_at "s"
   refine ⟨_,rfl,by omega,by omega,?_⟩
   rw [show ((t.length:Int)+1).toNat=t.length+1 by omega]
   refine mZ (n:=t.length+1) (fun e=>.int ((Dp t (t.length - (i+1)) e:Nat):Int)) (by omega) ?_ ?_
   ·intro e he
    have ec:=Be (t:=t) (b:=t.length - (i+1)) (x:=le) (by rw [show t.length - (i+1)=t.length - 1 - i by omega];exact hle2) e
    rw [show t.length - (i+1)+1=t.length - i by omega] at ec
    rw [Int.zero_add]
    walk_at "s"
    refine ⟨KeepSt.set rfl,?_⟩
    walk_at "s"
    refine aN (SqL.of hpb) (Dq rfl (by omega)) ?_
    walk_at "s"
    refine qH (fun h=>?_) (fun h=>?_)
    ·walk_at "s"
     exact ⟨rfl,nP (by rw [ec,if_pos (by omega)];rfl)⟩
    ·walk_at "s"
     exact ⟨rfl,nP (by rw [ec,if_neg (by omega)];rfl)⟩
   ·intro nw G2 nnw s2 hnw
    walk_at "s"
    refine di (s2 _ _ htb) (by omega) ?_
    walk_at "s"
    have hnw':G2 nw=some (.lst ((yW t (t.length - (i+1))).map V.int)):=by
     rw [hnw]
     unfold yW
     rw [ZJ];rfl
    have hne:∀ {b:Addr} {xs:List V},G2 b=some (.lst xs)->True:=fun _=>trivial
    have C2:=(hC.same s2).push hnw'
    refine ⟨Same.put (sG.trans s2) ntb0,⟨_,aj,⟨C2.1,fun k hk=>?_⟩,fun r hr=>(Zb.mp hr).elim (hN r) fun hr=>by
     simp only [X7,Yq,or_false] at hr
     cases hr
     exact Same.back sG nnw⟩,_,_,rfl⟩
    obtain ⟨b,e1,hb⟩:=C2.2 k hk
    refine ⟨b,e1,?_⟩
    rw [aD (fun z=>?_)]
    ·exact hb
    ·rw [z,s2 _ _ htb] at hb
     have e0:rs=(yW t (t.length - k)).map V.int:=by injection hb with hb;injection hb
     obtain ⟨a0,ea0,_⟩:=hC.2 0 (by omega)
     rw [e0,XX] at ea0
     cases hq:(yW t (t.length - k))[0]? with
     | none=>rw [hq] at ea0;cases ea0
     | some v=>rw [hq] at ea0;cases ea0
  ·rintro U G ⟨sG,⟨rs,htb,hC,hN⟩,x3,x4,rfl⟩
   rw [gZ] at hC
   walk_at "s"
   refine ⟨_,rfl,tb,rs,rfl,SqL.of htb,fun qq nqq=>?_⟩
   have s5:=(Same.refl G).upd nqq (o:=.lst rs.reverse)
   refine q qq rs.reverse _ (Same.back sG nqq) (sG.trans s5) aj ?_ fun r hr=>hN r (List.mem_reverse.mp hr)
   have:=hC.rev.same s5
   refine ⟨this.1,fun k hk=>?_⟩
   obtain ⟨b,e1,hb⟩:=this.2 k hk
   refine ⟨b,e1,?_⟩
   rw [hb]
   show some (HO.lst (List.map V.int (yW t (t.length - (t.length+1 - 1 - k)))))=_
   rw [show t.length - (t.length+1 - 1 - k)=k by omega]
 ·refine .inr ⟨a,_,rfl,SqT.of (U4 _ _ ha),by rw [gZ];omega,?_⟩
  refine O1 (xs:=(nI t).map V.int) (by rw [gZ];omega) (fun i U G=>Same H G/\(∃ rs,G tb=some (.lst rs)/\(CT G rs (i+1) fun k=>yW t (t.length - k))/\∀ r,V.ref r∈rs->H r=none)/\∃ x3 x4,U=[some (.ref a),some (.int (t.length:Int)),some (.ref tb),x3,x4])
   ⟨U4,⟨_,f4,C4,N4⟩,_,_,rfl⟩ (fun i U G _ h=>SqT.of (h.1 _ _ ha)) ?_ ?_
  ·rintro i x U G hi hx ⟨sG,⟨rs,htb,hC,hN⟩,x3,x4,rfl⟩
   rw [gZ] at hi
   rw [gZ] at hx
   obtain ⟨le,hle2,rfl⟩:=Q5 hx
   obtain ⟨pb,epb,hpb⟩:=hC.2 i (by omega)
   have hrl:rs.length=i+1:=hC.1
   walk_at "s"
   refine aN (SqL.of htb) (Wy (n:=i) hrl epb) ?_
   walk_at "s"
   refine ⟨.inl ⟨rfl,_,SqL.of htb⟩,?_⟩
   walk_at "s"
   refine ⟨_,rfl,by omega,by omega,?_⟩
   rw [show ((t.length:Int)+1).toNat=t.length+1 by omega]
   refine mZ (n:=t.length+1) (fun e=>.int ((Dp t (t.length - (i+1)) e:Nat):Int)) (by omega) ?_ ?_
   ·intro e he
    have ec:=Be (t:=t) (b:=t.length - (i+1)) (x:=le) (by rw [show t.length - (i+1)=t.length - 1 - i by omega];exact hle2) e
    rw [show t.length - (i+1)+1=t.length - i by omega] at ec
    rw [Int.zero_add]
    walk_at "s"
    refine ⟨KeepSt.set rfl,?_⟩
    walk_at "s"
    refine aN (SqL.of hpb) (Dq rfl (by omega)) ?_
    walk_at "s"
    refine qH (fun h=>?_) (fun h=>?_)
    ·walk_at "s"
     exact ⟨rfl,nP (by rw [ec,if_pos (by omega)];rfl)⟩
    ·walk_at "s"
     exact ⟨rfl,nP (by rw [ec,if_neg (by omega)];rfl)⟩
   ·intro nw G2 nnw s2 hnw
    walk_at "s"
    refine di (s2 _ _ htb) (by omega) ?_
    walk_at "s"
    have hnw':G2 nw=some (.lst ((yW t (t.length - (i+1))).map V.int)):=by
     rw [hnw]
     unfold yW
     rw [ZJ];rfl
    have hne:∀ {b:Addr} {xs:List V},G2 b=some (.lst xs)->True:=fun _=>trivial
    have C2:=(hC.same s2).push hnw'
    refine ⟨Same.put (sG.trans s2) ntb0,⟨_,aj,⟨C2.1,fun k hk=>?_⟩,fun r hr=>(Zb.mp hr).elim (hN r) fun hr=>by
     simp only [X7,Yq,or_false] at hr
     cases hr
     exact Same.back sG nnw⟩,_,_,rfl⟩
    obtain ⟨b,e1,hb⟩:=C2.2 k hk
    refine ⟨b,e1,?_⟩
    rw [aD (fun z=>?_)]
    ·exact hb
    ·rw [z,s2 _ _ htb] at hb
     have e0:rs=(yW t (t.length - k)).map V.int:=by injection hb with hb;injection hb
     obtain ⟨a0,ea0,_⟩:=hC.2 0 (by omega)
     rw [e0,XX] at ea0
     cases hq:(yW t (t.length - k))[0]? with
     | none=>rw [hq] at ea0;cases ea0
     | some v=>rw [hq] at ea0;cases ea0
  ·rintro U G ⟨sG,⟨rs,htb,hC,hN⟩,x3,x4,rfl⟩
   rw [gZ] at hC
   walk_at "s"
   refine ⟨_,rfl,tb,rs,rfl,SqL.of htb,fun qq nqq=>?_⟩
   have s5:=(Same.refl G).upd nqq (o:=.lst rs.reverse)
   refine q qq rs.reverse _ (Same.back sG nqq) (sG.trans s5) aj ?_ fun r hr=>hN r (List.mem_reverse.mp hr)
   have:=hC.rev.same s5
   refine ⟨this.1,fun k hk=>?_⟩
   obtain ⟨b,e1,hb⟩:=this.2 k hk
   refine ⟨b,e1,?_⟩
   rw [hb]
   show some (HO.lst (List.map V.int (yW t (t.length - (t.length+1 - 1 - k)))))=_
   rw [show t.length - (t.length+1 - 1 - k)=k by omega]
end
local macro_rules | `(tactic| walk_at "s") => `(tactic| (with_reducible repeat (first | refine jk ?_ | walk_at "3")))
local macro_rules | `(tactic| walk_at "n") => `(tactic| (with_reducible repeat (walk_at "3")))
section
variable {P:Program} {w:World} {K:W.Frag} {mg:Str->Option Value} {base:Heap}
def XD (ae ac:Addr):List (Str×V):=[("held_ends",.ref ae),("held_counts",.ref ac)]
structure TyO (H:Hp) (t:List Nat) (ae ac:Addr) (rs:List V):Prop where
 ends:H ae=some (.lst ((nI t).map V.int))
 cnts:H ac=some (.lst rs)
 rows:CT H rs (t.length+1) (yW t)
theorem TyO.same {H H':Hp} {t:List Nat} {ae ac:Addr} {rs:List V} (h:TyO H t ae ac rs) (s:Same H H'):TyO H' t ae ac rs:=⟨s _ _ h.ends,s _ _ h.cnts,h.rows.same s⟩
def Ty (mg:Str->Option Value) (H:Hp) (x:Addr) (t:List Nat):Prop:=Prm t/\∃ dx ae ac rs,H x=some (.ins (aL mg "Tally") dx (XD ae ac))/\TyO H t ae ac rs
theorem Ty.same {H H':Hp} {x:Addr} {t:List Nat} (h:Ty mg H x t) (s:Same H H'):Ty mg H' x t:=by
 obtain ⟨hP,dx,ae,ac,rs,hx,hO⟩:=h
 exact ⟨hP,dx,ae,ac,rs,s _ _ hx,hO.same s⟩
def TyD (mg:Str->Option Value) (D:Addr->Prop) (H:Hp) (x:Addr) (t:List Nat):Prop:=Prm t/\∃ dx ae ac rs,H x=some (.ins (aL mg "Tally") dx (XD ae ac))/\TyO H t ae ac rs/\¬ D x/\¬ D ae/\¬ D ac/\∀ r,V.ref r∈rs->¬ D r
theorem TyD.ty {H:Hp} {D:Addr->Prop} {x:Addr} {t:List Nat} (h:TyD mg D H x t):Ty mg H x t:=by
 obtain ⟨hP,dx,ae,ac,rs,hx,hO,_⟩:=h
 exact ⟨hP,dx,ae,ac,rs,hx,hO⟩
theorem TyD.sub {H:Hp} {D D':Addr->Prop} {x:Addr} {t:List Nat} (h:TyD mg D H x t) (s:∀ g,D' g->D g):TyD mg D' H x t:=by
 obtain ⟨hP,dx,ae,ac,rs,hx,hO,n1,n2,n3,n4⟩:=h
 exact ⟨hP,dx,ae,ac,rs,hx,hO,fun z=>n1 (s _ z),fun z=>n2 (s _ z),fun z=>n3 (s _ z),fun r hr z=>n4 r hr (s _ z)⟩
theorem Xb {D:Addr->Prop} {x g:Addr} (h:¬ D x) (hg:D g):x≠g:=fun z=>h (by rw [z];exact hg)
theorem TyD.put {H:Hp} {D:Addr->Prop} {g x:Addr} {t:List Nat} {o:HO} (h:TyD mg D H x t) (hg:D g):TyD mg D (upd H g o) x t:=by
 obtain ⟨hP,dx,ae,ac,rs,hx,hO,n1,n2,n3,n4⟩:=h
 refine ⟨hP,dx,ae,ac,rs,by rw [aD (Xb n1 hg)];exact hx,⟨by rw [aD (Xb n2 hg)];exact hO.ends,by rw [aD (Xb n3 hg)];exact hO.cnts,hO.rows.1,fun k hk=>?_⟩,n1,n2,n3,n4⟩
 obtain ⟨b,e,hb⟩:=hO.rows.2 k hk
 exact ⟨b,e,by rw [aD (Xb (n4 b (YG e)) hg)];exact hb⟩
def P0 (mg:Str->Option Value):Sp:=fun vs H Q _=>∃ (x dx a:Addr) (t:List Nat),vs=[.ref x,.ref a]/\H x=some (.ins (aL mg "Tally") dx [])/\Tn H a t/\Prm t/\∀ H',Chg x H H'->TyD mg (fun g=>g≠x/\∃ o,H g=some o) H' x t->Q .non H'
theorem rW:aG ["self","turning"] ["self","turning"] (au jE):=⟨rfl,rfl,rfl,by trivial,rfl,by trivial,by trivial⟩
theorem jM (T:Txt K mg):j9 P w K mg base 6 "Tally" "__init__" ["self","turning"] (P0 mg):=by
 have gf:=gf (P:=P) (w:=w) (base:=base) T
 have v9:=v9 (P:=P) (w:=w) (base:=base) T
 refine oZ T.m_Tally___init__ rW (fun _ _ _ _ _ _ us hl=>L2.my (fun _ _=>rfl) us hl) ?_ fun f cdv A outer s H vs Q E hr h=>?_
 ·rintro vs H Q E ⟨x,dx,a,t,rfl,_⟩;rfl
 obtain ⟨x,dx,a,t,rfl,hx,ha,hP,q⟩:=h
 have hu:=hr.units0
 have hu64:=hr.units
 refine ⟨_,(az (bu (aJ gf (hr.mono (by decide)) aM (aa (aq 1) ao) (by trivial))) (az (jn (K:=K) rfl (aq 0) (vI (vD (K:=K) rfl rfl) aM T.b_list j8 (aa (aq 1) ao) (by trivial) (by trivial))) (aA (jn (K:=K) rfl (aq 0) (aJ v9 (hr.mono (by decide)) aM (aa (aq 1) ao) (by trivial)))))),?_⟩
 walk_at "s"
 have hsz:20000<=sizeLine:=by decide
 have cl:=T.o_Tally.cl
 have na:=T.n_Tally
 refine ⟨a,t,rfl,ha,hP,fun H1 S1=>?_⟩
 walk_at "s"
 refine .inl ⟨a,(nI t).map V.int,rfl,(ha.same S1).imp SqL.of SqT.of,fun ae nae=>?_⟩
 have S2:=(Same.refl H1).upd nae (o:=.lst ((nI t).map V.int))
 have f2:=aj (H:=H1) (a:=ae) (o:=.lst ((nI t).map V.int))
 generalize upd H1 ae (.lst ((nI t).map V.int))=H2 at S2 f2 ⊢
 have U2:=S1.trans S2
 have hx2:=U2 _ _ hx
 have nx:∀ {G:Hp} {b:Addr} {fs:List (Str×V)} {us:List V},G x=some (.ins (aL mg "Tally") dx fs)->(G b=some (.lst us)\/G b=some (.tup us))->b≠x:=fun {G b fs us} h1 h2 z=>by
  rw [z,h1] at h2
  rcases h2 with h2 | h2 <;> cases h2
 walk_at "s"
 refine ⟨x,_,dx,_,rfl,hx2,cl,na _ (by simp),by simp,?_⟩
 walk_at "s"
 rw [fB (by show ([]:List Str).contains "held_ends"=false;trivial)]
 have hx3:=aj (H:=H2) (a:=x) (o:=.ins (aL mg "Tally") dx (([]:List (Str×V)) ++ ([("held_ends",.ref ae)]:List (Str×V))))
 have C3:Chg x H2 (upd H2 x (.ins (aL mg "Tally") dx (([]:List (Str×V)) ++ ([("held_ends",.ref ae)]:List (Str×V))))):=Chg.put (Chg.refl x H2)
 generalize upd H2 x (.ins (aL mg "Tally") dx (([]:List (Str×V)) ++ ([("held_ends",.ref ae)]:List (Str×V))))=H3 at hx3 C3 ⊢
 replace hx3:H3 x=some (.ins (aL mg "Tally") dx ([("held_ends",.ref ae)]:List (Str×V))):=hx3
 have ha2:=ha.same U2
 have ha3:Tn H3 a t:=by
  have nxa:=nx hx2 ha2
  rcases ha2 with h | h
  ·exact .inl (C3 _ _ nxa h)
  ·exact .inr (C3 _ _ nxa h)
 have f3:=C3 _ _ (nx hx2 (.inl f2)) f2
 walk_at "s"
 refine ⟨a,t,rfl,ha3,hP,fun ac rs H4 nac S4 hac hrs hfr=>?_⟩
 walk_at "s"
 have hx4:=S4 _ _ hx3
 refine ⟨x,_,dx,_,rfl,hx4,cl,na _ (by simp),by simp,?_⟩
 walk_at "s"
 rw [fB (by show (["held_ends"]:List Str).contains "held_counts"=false;trivial)]
 have hx5:=aj (H:=H4) (a:=x) (o:=.ins (aL mg "Tally") dx (([("held_ends",.ref ae)]:List (Str×V)) ++ ([("held_counts",.ref ac)]:List (Str×V))))
 have C5:Chg x H4 (upd H4 x (.ins (aL mg "Tally") dx (([("held_ends",.ref ae)]:List (Str×V)) ++ ([("held_counts",.ref ac)]:List (Str×V))))):=Chg.put (Chg.refl x H4)
 generalize upd H4 x (.ins (aL mg "Tally") dx (([("held_ends",.ref ae)]:List (Str×V)) ++ ([("held_counts",.ref ac)]:List (Str×V))))=H5 at hx5 C5 ⊢
 have hO5:TyO H5 t ae ac rs:=by
  refine ⟨?_,?_,hrs.1,fun k hk=>?_⟩
  ·exact C5 _ _ (nx hx4 (.inl (S4 _ _ f3))) (S4 _ _ f3)
  ·exact C5 _ _ (nx hx4 (.inl hac)) hac
  ·obtain ⟨b,e,hb⟩:=hrs.2 k hk
   exact ⟨b,e,C5 _ _ (nx hx4 (.inl hb)) hb⟩
 refine q H5 ?_ ⟨hP,dx,ae,ac,rs,hx5,hO5,fun z=>z.1 rfl,?_,?_,fun r hr z=>?_⟩
 ·intro b o nb e
  exact C5 b o nb (S4 _ _ (C3 b o nb (U2 _ _ e)))
 ·rintro ⟨ng,o,hg⟩
  rw [S1 _ _ hg] at nae;cases nae
 ·rintro ⟨ng,o,hg⟩
  rw [C3 _ o ng (U2 _ _ hg)] at nac;cases nac
 ·obtain ⟨ng,o,hg⟩:=z
  have:=hfr r hr
  rw [C3 _ o ng (U2 _ _ hg)] at this;cases this
theorem tyM {ae ac:Addr} {m:Str} (h:(["held_ends","held_counts"]:List Str).contains m=false):(XD ae ac).lookup m=none:=by
 unfold XD
 simp only [Zg,Z0] at h
 obtain ⟨h1,h2,_⟩:=h
 simp only [Yr,h1,h2,List.lookup_nil]
def Lq (mg:Str->Option Value):Sp:=fun vs H Q _=>∃ (x:Addr) (t:List Nat) (b e:Nat),vs=[.ref x,.int b,.int e]/\Ty mg H x t/\b<=t.length/\e<=t.length/\Q (.int ((Dp t b e:Nat):Int)) H
theorem wg:aG ["self","begin","end"] ["self","begin","end"] (au mG):=⟨rfl,rfl,rfl,by trivial,rfl,by trivial,by trivial⟩
theorem mL (T:Txt K mg):j9 P w K mg base 4 "Tally" "below" ["self","begin","end"] (Lq mg):=by
 have gn:=gn (P:=P) (w:=w) (base:=base) T
 refine oZ T.m_Tally_below wg (fun _ _ _ _ _ _ us hl=>L2.oX (fun _ _ _=>rfl) us hl) ?_ fun f cdv A outer s H vs Q E hr h=>?_
 ·rintro vs H Q E ⟨x,t,b,e,rfl,_⟩;rfl
 obtain ⟨x,t,b,e,rfl,⟨hP,dx,ae,ac,rs,hx,hO⟩,hb,he,q⟩:=h
 have hu:=hr.units0
 have hu64:=hr.units
 refine ⟨_,(az (bu (aJ gn (hr.mono (by decide)) aM (aa (aq 1) (aa aC (aa (aB (aF (K:=K) rfl) aM T.b_len aO (aa (jV (K:=K) rfl (aq 0)) ao) (by trivial) (by trivial)) ao))) (by trivial))) (az (bu (aJ gn (hr.mono (by decide)) aM (aa (aq 2) (aa aC (aa (aB (aF (K:=K) rfl) aM T.b_len aO (aa (jV (K:=K) rfl (aq 0)) ao) (by trivial) (by trivial)) ao))) (by trivial))) (aA (aH (c7 (K:=K) rfl (c7 (K:=K) rfl (jV (K:=K) rfl (aq 0)) (aq 1)) (aq 2)))))),?_⟩
 walk_at "s"
 have cl:=T.o_Tally.cl
 have na:=T.n_Tally
 refine ⟨x,_,dx,_,_,rfl,hx,cl,na _ (by simp),rfl,?_⟩
 walk_at "s"
 refine fu (SqL.of hO.ends) ?_
 walk_at "s"
 rw [gZ]
 walk_at "s"
 refine v7 (by omega) (by omega) ?_
 walk_at "s"
 refine ⟨x,_,dx,_,_,rfl,hx,cl,na _ (by simp),rfl,?_⟩
 walk_at "s"
 refine fu (SqL.of hO.ends) ?_
 walk_at "s"
 rw [gZ]
 walk_at "s"
 refine v7 (by omega) (by omega) ?_
 walk_at "s"
 refine ⟨x,_,dx,_,_,rfl,hx,cl,na _ (by simp),rfl,?_⟩
 walk_at "s"
 obtain ⟨pb,epb,hpb⟩:=hO.rows.2 b (by omega)
 refine aN (SqL.of hO.cnts) (bh epb) ?_
 walk_at "s"
 refine aN (SqL.of hpb) (Dq rfl he) ?_
 walk_at "s"
 exact q
theorem made {H1 H2:Hp} {x dx:Addr} {o o':HO} (nx:H1 x=none) (ndx:H1 dx=none) (c:Chg x (upd (upd H1 dx o) x o') H2):Same H1 H2:=fun b u e=>by
 have n1:b≠x:=fun z=>by rw [z,nx] at e;cases e
 have n2:b≠dx:=fun z=>by rw [z,ndx] at e;cases e
 exact c b u n1 (by rw [aD n1,aD n2];exact e)
theorem HQ {H1:Hp} {x dx g:Addr} {o o' u:HO} (nx:H1 x=none) (ndx:H1 dx=none) (e:H1 g=some u):upd (upd H1 dx o) x o' g=some u/\g≠x:=by
 have n1:g≠x:=fun z=>by rw [z,nx] at e;cases e
 have n2:g≠dx:=fun z=>by rw [z,ndx] at e;cases e
 exact ⟨by rw [aD n1,aD n2];exact e,n1⟩
theorem gNe {H1:Hp} {x g:Addr} {u:HO} (nx:H1 x=none) (e:H1 g=some u):g≠x:=fun z=>by rw [z,nx] at e;cases e
def XF (ty:Addr) (m f:Nat):List (Str×V):=[("held_tally",.ref ty),("held_many",.int (m:Int)),("held_far",.int (f:Int))]
theorem akM {ty:Addr} {m' f:Nat} {m:Str} (h:(["held_tally","held_many","held_far"]:List Str).contains m=false):(XF ty m' f).lookup m=none:=by
 unfold XF
 simp only [Zg,Z0] at h
 obtain ⟨h1,h2,h3,_⟩:=h
 simp only [Yr,h1,h2,h3,List.lookup_nil]
def Ak (mg:Str->Option Value) (H:Hp) (x:Addr) (t:List Nat) (m f:Nat):Prop:=m+f=t.length/\∃ dx ty,H x=some (.ins (aL mg "Asks") dx (XF ty m f))/\Ty mg H ty t
theorem Ak.same {H H':Hp} {x:Addr} {t:List Nat} {m f:Nat} (h:Ak mg H x t m f) (s:Same H H'):Ak mg H' x t m f:=by
 obtain ⟨hl,dx,ty,hx,hT⟩:=h
 exact ⟨hl,dx,ty,s _ _ hx,hT.same s⟩
def AkD (mg:Str->Option Value) (D:Addr->Prop) (H:Hp) (x:Addr) (t:List Nat) (m f:Nat):Prop:=m+f=t.length/\∃ dx ty,H x=some (.ins (aL mg "Asks") dx (XF ty m f))/\TyD mg D H ty t/\¬ D x
theorem AkD.ak {H:Hp} {D:Addr->Prop} {x:Addr} {t:List Nat} {m f:Nat} (h:AkD mg D H x t m f):Ak mg H x t m f:=by
 obtain ⟨hl,dx,ty,hx,hT,_⟩:=h
 exact ⟨hl,dx,ty,hx,hT.ty⟩
theorem AkD.sub {H:Hp} {D D':Addr->Prop} {x:Addr} {t:List Nat} {m f:Nat} (h:AkD mg D H x t m f) (s:∀ g,D' g->D g):AkD mg D' H x t m f:=by
 obtain ⟨hl,dx,ty,hx,hT,n⟩:=h
 exact ⟨hl,dx,ty,hx,hT.sub s,fun z=>n (s _ z)⟩
theorem AkD.put {H:Hp} {D:Addr->Prop} {g x:Addr} {t:List Nat} {m f:Nat} {o:HO} (h:AkD mg D H x t m f) (hg:D g):AkD mg D (upd H g o) x t m f:=by
 obtain ⟨hl,dx,ty,hx,hT,n⟩:=h
 exact ⟨hl,dx,ty,by rw [aD (Xb n hg)];exact hx,hT.put hg,n⟩
def Qa (mg:Str->Option Value):Sp:=fun vs H Q _=>∃ (x dx a:Addr) (t:List Nat) (m f:Nat),vs=[.ref x,.ref a,.int m]/\H x=some (.ins (aL mg "Asks") dx [])/\Tn H a t/\Prm t/\m+f=t.length/\∀ H',Chg x H H'->AkD mg (fun g=>g≠x/\∃ o,H g=some o) H' x t m f->Q .non H'
theorem ue:aG ["self","lines","many"] ["self","lines","many"] (au jY):=⟨rfl,rfl,rfl,by trivial,rfl,by trivial,by trivial⟩
theorem j0 (T:Txt K mg):j9 P w K mg base 8 "Asks" "__init__" ["self","lines","many"] (Qa mg):=by
 have jM:=jM (P:=P) (w:=w) (base:=base) T
 have gn:=gn (P:=P) (w:=w) (base:=base) T
 refine oZ T.m_Asks___init__ ue (fun _ _ _ _ _ _ us hl=>L2.oX (fun _ _ _=>rfl) us hl) ?_ fun f cdv A outer s H vs Q E hr h=>?_
 ·rintro vs H Q E ⟨x,dx,a,t,m,f',rfl,_⟩;rfl
 obtain ⟨x,dx,a,t,m,f',rfl,hx,ha,hP,hmf,q⟩:=h
 have hu:=hr.units0
 have hu64:=hr.units
 refine ⟨_,(az (jn (K:=K) rfl (aq 0) (kh T.o_Tally jM (hr.mono (by decide)) aM dj (aa (aq 1) ao) (by trivial))) (az (bu (aJ gn (hr.mono (by decide)) aM (aa (aq 2) (aa aC (aa (aB (aF (K:=K) rfl) aM T.b_len aO (aa (aq 1) ao) (by trivial) (by trivial)) ao))) (by trivial))) (az (jn (K:=K) rfl (aq 0) (aq 2)) (aA (jn (K:=K) rfl (aq 0) (aV fY (aB (aF (K:=K) rfl) aM T.b_len aO (aa (aq 1) ao) (by trivial) (by trivial)) (aq 2))))))),?_⟩
 walk_at "s"
 have hsz:20000<=sizeLine:=by decide
 have cl:=T.o_Asks.cl
 have na:=T.n_Asks
 intro ty dty nty ndty ne
 have hat:Tn (upd (upd H dty (.own ty)) ty (.ins (aL mg "Tally") dty [])) a t:=ha.imp (fun h=>(HQ nty ndty h).1) (fun h=>(HQ nty ndty h).1)
 refine ⟨ty,dty,a,t,rfl,aj,hat,hP,fun H1 c1 hT1=>⟨rfl,?_⟩⟩
 walk_at "s"
 have S1:=made nty ndty c1
 replace hT1:=hT1.sub (D':=fun g=>∃ o,H g=some o) (fun g hg=>by
  obtain ⟨o,hg⟩:=hg
  exact ⟨gNe nty hg,o,(HQ nty ndty hg).1⟩)
 clear c1
 have hx1:=S1 _ _ hx
 have ax:a≠x:=fun z=>by
  rcases ha with h | h <;> rw [z,hx] at h <;> cases h
 refine ⟨x,_,dx,_,rfl,hx1,cl,na _ (by simp),by simp,?_⟩
 walk_at "s"
 rw [fB (by show ([]:List Str).contains "held_tally"=false;trivial)]
 have hx2:=aj (H:=H1) (a:=x) (o:=.ins (aL mg "Asks") dx (([]:List (Str×V)) ++ ([("held_tally",.ref ty)]:List (Str×V))))
 have C2:Chg x H (upd H1 x (.ins (aL mg "Asks") dx (([]:List (Str×V)) ++ ([("held_tally",.ref ty)]:List (Str×V))))):=Chg.put (fun b o n e=>S1 _ _ e)
 have hT2:=hT1.put (g:=x) (o:=.ins (aL mg "Asks") dx (([]:List (Str×V)) ++ ([("held_tally",.ref ty)]:List (Str×V)))) ⟨_,hx⟩
 generalize upd H1 x (.ins (aL mg "Asks") dx (([]:List (Str×V)) ++ ([("held_tally",.ref ty)]:List (Str×V))))=H2 at hx2 C2 hT2 ⊢
 replace hx2:H2 x=some (.ins (aL mg "Asks") dx ([("held_tally",.ref ty)]:List (Str×V))):=hx2
 have ha2:Tn H2 a t:=ha.imp (C2 _ _ ax) (C2 _ _ ax)
 have len:∀ (G:Hp) (R:V->Hp->Prop),Tn G a t->R (.int (t.length:Int)) G->Ck K [.ref a] G R:=fun G R hG hR=>by
  rcases hG with h | h
  ·refine fu (SqL.of h) ?_
   rw [gZ];exact hR
  ·refine sY (SqT.of h) ?_
   rw [gZ];exact hR
 walk_at "s"
 refine len _ _ ha2 ?_
 walk_at "s"
 refine v7 (by omega) (by omega) ?_
 walk_at "s"
 refine ⟨x,_,dx,_,rfl,hx2,cl,na _ (by simp),by simp,?_⟩
 walk_at "s"
 rw [fB (by show (["held_tally"]:List Str).contains "held_many"=false;trivial)]
 have hx3:=aj (H:=H2) (a:=x) (o:=.ins (aL mg "Asks") dx (([("held_tally",.ref ty)]:List (Str×V)) ++ ([("held_many",.int (m:Int))]:List (Str×V))))
 have C3:Chg x H (upd H2 x (.ins (aL mg "Asks") dx (([("held_tally",.ref ty)]:List (Str×V)) ++ ([("held_many",.int (m:Int))]:List (Str×V))))):=Chg.put C2
 have hT3:=hT2.put (g:=x) (o:=.ins (aL mg "Asks") dx (([("held_tally",.ref ty)]:List (Str×V)) ++ ([("held_many",.int (m:Int))]:List (Str×V)))) ⟨_,hx⟩
 generalize upd H2 x (.ins (aL mg "Asks") dx (([("held_tally",.ref ty)]:List (Str×V)) ++ ([("held_many",.int (m:Int))]:List (Str×V))))=H3 at hx3 C3 hT3 ⊢
 replace hx3:H3 x=some (.ins (aL mg "Asks") dx ([("held_tally",.ref ty),("held_many",.int (m:Int))]:List (Str×V))):=hx3
 have ha3:Tn H3 a t:=ha.imp (C3 _ _ ax) (C3 _ _ ax)
 walk_at "s"
 refine len _ _ ha3 ?_
 walk_at "s"
 refine ⟨x,_,dx,_,rfl,hx3,cl,na _ (by simp),by simp,?_⟩
 walk_at "s"
 rw [fB (by show (["held_tally","held_many"]:List Str).contains "held_far"=false;trivial),show (t.length:Int) - (m:Int)=(f':Int) by omega]
 exact q _ (Chg.put C3) ⟨hmf,dx,ty,aj,(hT3.put ⟨_,hx⟩).sub (fun g hg=>hg.2),fun z=>z.1 rfl⟩
def rk (t:List Nat) (m a b c d:Nat):Int:=(d:Int) - (c:Int) - ((Dp t (m - a+c) (m - b+d):Nat):Int)
def Uw (mg:Str->Option Value):Sp:=fun vs H Q _=>∃ (x:Addr) (t:List Nat) (m f a b c d:Nat),vs=[.ref x,.int a,.int b,.int c,.int d]/\Ak mg H x t m f/\a<=m/\b<=m/\c<=f/\d<=f/\Q (.int (rk t m a b c d)) H
theorem nu:aG ["self","first","last","begin","end","many"] ["self","first","last","begin","end"] (au jZ):=⟨rfl,rfl,rfl,by trivial,rfl,by trivial,by trivial⟩
theorem j4 (T:Txt K mg):j9 P w K mg base 5 "Asks" "reckoned" ["self","first","last","begin","end"] (Uw mg):=by
 have mL:=mL (P:=P) (w:=w) (base:=base) T
 refine oZ T.m_Asks_reckoned nu (fun _ _ _ _ _ _ us hl=>L2.usN5 (fun _ _ _ _ _=>rfl) us hl) ?_ fun f cdv A outer s H vs Q E hr h=>?_
 ·rintro vs H Q E ⟨x,t,m,f',a,b,c,d,rfl,_⟩;rfl
 obtain ⟨x,t,m,f',a,b,c,d,rfl,⟨hl,dx,ty,hx,hT⟩,h1,h2,h3,h4,q⟩:=h
 have hu:=hr.units0
 have hu64:=hr.units
 refine ⟨_,(az (aK (i:=5) nu.nd rfl fW (jV (K:=K) rfl (aq 0)) rfl) (aA (aH (aV fY (aV fY (aq 4) (aq 3)) (nO (jV (K:=K) rfl (aq 0)) T.o_Tally mL (hr.mono (by decide)) dj (aa (aV aP (aV fY (aq 5) (aq 1)) (aq 3)) (aa (aV aP (aV fY (aq 5) (aq 2)) (aq 4)) ao))))))),?_⟩
 walk_at "s"
 have cl:=T.o_Asks.cl
 have na:=T.n_Asks
 refine ⟨x,_,dx,_,_,rfl,hx,cl,na _ (by simp),rfl,?_⟩
 walk_at "s"
 refine ⟨x,_,dx,_,_,rfl,hx,cl,na _ (by simp),rfl,?_⟩
 walk_at "s"
 have hT':=hT
 obtain ⟨_,dt,ae,ac,rs,ht,_⟩:=hT'
 refine ⟨ty,dt,_,rfl,ht,tyM (by trivial),?_⟩
 walk_at "s"
 rw [show (m:Int) - (a:Int)+(c:Int)=((m - a+c:Nat):Int) by omega,show (m:Int) - (b:Int)+(d:Int)=((m - b+d:Nat):Int) by omega]
 refine ⟨ty,t,m - a+c,m - b+d,rfl,hT,by omega,by omega,?_⟩
 walk_at "s"
 exact q
def Ux (mg:Str->Option Value):Sp:=fun vs H Q _=>∃ (x:Addr) (t:List Nat) (m f c d:Nat),vs=[.ref x,.int c,.int d]/\Ak mg H x t m f/\c<=f/\d<=f/\Q (.int (rk t m 0 m c d)) H
theorem mO:aG ["self","begin","end"] ["self","begin","end"] (au gb):=⟨rfl,rfl,rfl,by trivial,rfl,by trivial,by trivial⟩
theorem gj (T:Txt K mg):j9 P w K mg base 6 "Asks" "reckoned_stretch" ["self","begin","end"] (Ux mg):=by
 have j4:=j4 (P:=P) (w:=w) (base:=base) T
 refine oZ T.m_Asks_reckoned_stretch mO (fun _ _ _ _ _ _ us hl=>L2.oX (fun _ _ _=>rfl) us hl) ?_ fun f cdv A outer s H vs Q E hr h=>?_
 ·rintro vs H Q E ⟨x,t,m,f',c,d,rfl,_⟩;rfl
 obtain ⟨x,t,m,f',c,d,rfl,hA,h3,h4,q⟩:=h
 have hu:=hr.units0
 have hu64:=hr.units
 refine ⟨_,(aA (aH (nO (aq 0) T.o_Asks j4 (hr.mono (by decide)) dj (aa aC (aa (jV (K:=K) rfl (aq 0)) (aa (aq 1) (aa (aq 2) ao))))))),?_⟩
 walk_at "s"
 have cl:=T.o_Asks.cl
 have na:=T.n_Asks
 obtain ⟨hl,dx,ty,hx,hT⟩:=id hA
 refine ⟨x,dx,_,rfl,hx,akM (by trivial),?_⟩
 walk_at "s"
 refine ⟨x,_,dx,_,_,rfl,hx,cl,na _ (by simp),rfl,?_⟩
 walk_at "s"
 refine ⟨x,t,m,f',0,m,c,d,rfl,hA,by omega,by omega,h3,h4,?_⟩
 walk_at "s"
 exact q
def HR (mg:Str->Option Value):Sp:=fun vs H Q _=>∃ (x:Addr) (t:List Nat) (m f c d:Nat),vs=[.ref x,.int c,.int d]/\Ak mg H x t m f/\c<=d/\d<=f/\Q (.int (rk t m 0 m c d)) H
theorem uN:aG ["self","begin","end"] ["self","begin","end"] (au lG):=⟨rfl,rfl,rfl,by trivial,rfl,by trivial,by trivial⟩
theorem lJ (T:Txt K mg):j9 P w K mg base 7 "Asks" "stretch" ["self","begin","end"] (HR mg):=by
 have jf:=jf (P:=P) (w:=w) (base:=base) T
 have gj:=gj (P:=P) (w:=w) (base:=base) T
 refine oZ T.m_Asks_stretch uN (fun _ _ _ _ _ _ us hl=>L2.oX (fun _ _ _=>rfl) us hl) ?_ fun f cdv A outer s H vs Q E hr h=>?_
 ·rintro vs H Q E ⟨x,t,m,f',c,d,rfl,_⟩;rfl
 obtain ⟨x,t,m,f',c,d,rfl,hA,h3,h4,q⟩:=h
 have hu:=hr.units0
 have hu64:=hr.units
 refine ⟨_,(az (bu (jm jf (hr.mono (by decide)) aM dj (aa (aq 1) (aa (aq 2) (aa (jV (K:=K) rfl (aq 0)) ao))) (by trivial))) (aA (aH (nO (aq 0) T.o_Asks gj (hr.mono (by decide)) dj (aa (aq 1) (aa (aq 2) ao)))))),?_⟩
 walk_at "s"
 have cl:=T.o_Asks.cl
 have na:=T.n_Asks
 obtain ⟨hl,dx,ty,hx,hT⟩:=id hA
 refine ⟨x,_,dx,_,_,rfl,hx,cl,na _ (by simp),rfl,?_⟩
 walk_at "s"
 refine Li (by omega) (by omega) (by omega) ?_
 walk_at "s"
 refine ⟨x,dx,_,rfl,hx,akM (by trivial),?_⟩
 walk_at "s"
 refine ⟨x,t,m,f',c,d,rfl,hA,by omega,h4,?_⟩
 walk_at "s"
 exact q
def Rule (m far:Nat) (e:Nat->Nat->Bool) (C:Nat->Nat->Bool):Prop:=∀ i j,i < m->j < far->C i j=(e i j || decide (gD m C j i < gA m C i j))
theorem rY {m:Nat} {C:Nat->Nat->Bool}:∀ n i j,i+j<=n->(i<=m->gD m C j i<=m+j)/\(i < m->gA m C i j < m+j)
 | n,0,0,_=>by rw [oA,kE];omega
 | 0,0,j+1,h=>absurd h (by omega)
 | 0,i+1,j,h=>absurd h (by omega)
 | n+1,0,j+1,h=>by
  have h1:=rY (m:=m) (C:=C) n 0 j (by omega)
  refine ⟨fun _=>by rw [oA];omega,fun hi=>?_⟩
  rw [mj]
  have a:=h1.1 (by omega)
  have b:=h1.2 hi
  split <;> omega
 | n+1,i+1,0,h=>by
  have h1:=rY (m:=m) (C:=C) n i 0 (by omega)
  refine ⟨fun hi=>?_,fun hi=>by rw [kE];omega⟩
  rw [kI]
  have a:=h1.1 (by omega)
  have b:=h1.2 (by omega)
  split <;> omega
 | n+1,i+1,j+1,h=>by
  have h1:=rY (m:=m) (C:=C) n (i+1) j (by omega)
  have h2:=rY (m:=m) (C:=C) n i (j+1) (by omega)
  refine ⟨fun hi=>?_,fun hi=>?_⟩
  ·rw [kI]
   have a:=h2.1 (by omega)
   have b:=h2.2 (by omega)
   split <;> omega
  ·rw [mj]
   have a:=h1.1 (by omega)
   have b:=h1.2 hi
   split <;> omega
def cn (m:Nat) (C:Nat->Nat->Bool) (i B:Nat):Nat->Nat
 | 0=>0
 | e+1=>cn m C i B e+(if B<=gD m C e i then 1 else 0)
theorem FT {m:Nat} {C:Nat->Nat->Bool} {i B:Nat} (hB:m<=B) (hi:i < m):∀ e,cn m C (i+1) B e+(if B<=gA m C i e then 1 else 0)=cn m C i B e
 | 0=>by
  show 0+_=0
  rw [kE,if_neg (by omega)]
 | e+1=>by
  have ih:=FT (C:=C) hB hi e
  show cn m C (i+1) B e+(if B<=gD m C e (i+1) then 1 else 0)+(if B<=gA m C i (e+1) then 1 else 0)=cn m C i B e+(if B<=gD m C e i then 1 else 0)
  rw [kI,mj]
  by_cases hC:C i e=true
  ·rw [if_pos hC,if_pos hC];omega
  ·rw [if_neg hC,if_neg hC];omega
theorem yX {m:Nat} {C:Nat->Nat->Bool} {i b:Nat} (hi:i<=m):∀ e,e<=b->cn m C i (m+b) e=0
 | 0,_=>rfl
 | e+1,h=>by
  show cn m C i (m+b) e+_=0
  have:=(rY (m:=m) (C:=C) (i+e) i e (XQ _)).1 hi
  rw [yX hi e (by omega),if_neg (by omega)]
theorem Bf {m:Nat} {C:Nat->Nat->Bool} {B:Nat} (b:Nat) (hB:B=m+b):∀ k,cn m C 0 B (b+k)=k
 | 0=>by rw [hB];exact yX (by omega) b (XQ _)
 | k+1=>by
  show cn m C 0 B (b+k)+(if B<=gD m C (b+k) 0 then 1 else 0)=k+1
  rw [Bf b hB k,oA,if_pos (by omega)]
def Mr (i j:Int):Int:=if j > i then j else i
def tb (e:Nat->Nat->Bool) (b:Nat):Nat->Nat->Int
 | 0,_=>0
 | _+1,0=>0
 | i+1,k+1=>if e i (b+k)=true then tb e b i k+1 else Mr (tb e b (i+1) k) (tb e b i (k+1))
termination_by i k=>i+k
theorem Ds (e:Nat->Nat->Bool) (b k:Nat):tb e b 0 k=0:=by rw [tb]
theorem HS (e:Nat->Nat->Bool) (b i:Nat):tb e b i 0=0:=by cases i <;> rw [tb]
theorem Bg (e:Nat->Nat->Bool) (b i k:Nat):tb e b (i+1) (k+1)=if e i (b+k)=true then tb e b i k+1 else Mr (tb e b (i+1) k) (tb e b i (k+1)):=by rw [tb]
theorem rZ {m far:Nat} {e C:Nat->Nat->Bool} (h:Rule m far e C) (b:Nat):∀ i,i<=m->∀ k,b+k<=far->tb e b i k+(cn m C i (m+b) (b+k):Nat)=k
 | 0,_,k,_=>by rw [Ds,Bf b rfl];omega
 | i+1,hi,0,_=>by
  rw [HS,yX hi _ (by omega)];rfl
 | i+1,hi,k+1,hk=>by
  have h1:=rZ h b i (by omega) k (by omega)
  have h2:=rZ h b i (by omega) (k+1) hk
  have h3:=rZ h b (i+1) hi k (by omega)
  have r:=h i (b+k) (by omega) (by omega)
  have kp:=FT (m:=m) (C:=C) (i:=i) (B:=m+b) (by omega) (by omega) (b+k)
  rw [Bg]
  have e2:cn m C i (m+b) (b+(k+1))=cn m C i (m+b) (b+k)+(if m+b<=gD m C (b+k) i then 1 else 0):=rfl
  have e3:cn m C (i+1) (m+b) (b+(k+1))=cn m C (i+1) (m+b) (b+k)+(if m+b<=gD m C (b+k) (i+1) then 1 else 0):=rfl
  rw [e2] at h2
  rw [e3,kI]
  by_cases he:e i (b+k)=true
  ·rw [he,Bool.true_or] at r
   rw [if_pos he,if_pos r]
   omega
  ·have he':e i (b+k)=false:=by simpa using he
   rw [he',Bool.false_or] at r
   rw [if_neg he]
   by_cases hg:gD m C (b+k) i < gA m C i (b+k)
   ·have hC:C i (b+k)=true:=by rw [r];exact Yj hg
    rw [if_pos hC]
    unfold Mr
    by_cases c1:m+b<=gA m C i (b+k)
    ·rw [if_pos c1] at kp ⊢
     by_cases c2:m+b<=gD m C (b+k) i
     ·rw [if_pos c2] at h2
      split <;> omega
     ·rw [if_neg c2] at h2
      split <;> omega
    ·rw [if_neg c1] at kp ⊢
     rw [if_neg (by omega)] at h2
     split <;> omega
   ·have hC:¬ C i (b+k)=true:=by rw [r,Yl hg];decide
    rw [if_neg hC]
    unfold Mr
    by_cases c2:m+b<=gD m C (b+k) i
    ·rw [if_pos c2] at h2 ⊢
     by_cases c1:m+b<=gA m C i (b+k)
     ·rw [if_pos c1] at kp
      split <;> omega
     ·rw [if_neg c1] at kp
      split <;> omega
    ·rw [if_neg c2] at h2 ⊢
     rw [if_neg (by omega)] at kp
     split <;> omega
theorem Bh {m:Nat} {C:Nat->Nat->Bool} {i B:Nat} (hB:m<=B+i) (hi:i < m):∀ e,cn m C (i+1) B e+(if B<=gA m C i e then 1 else 0)=cn m C i B e
 | 0=>by
  show 0+_=0
  rw [kE,if_neg (by omega)]
 | e+1=>by
  have ih:=Bh (C:=C) hB hi e
  show cn m C (i+1) B e+(if B<=gD m C e (i+1) then 1 else 0)+(if B<=gA m C i (e+1) then 1 else 0)=cn m C i B e+(if B<=gD m C e i then 1 else 0)
  rw [kI,mj]
  by_cases hC:C i e=true
  ·rw [if_pos hC,if_pos hC];omega
  ·rw [if_neg hC,if_neg hC];omega
def Bt (m far:Nat) (C:Nat->Nat->Bool) (p:Nat):Nat:=if p < far then gD m C p m else gA m C (m+far - 1 - p) far
theorem Lr {m far:Nat} {C:Nat->Nat->Bool} {R:List Int} (hR:qW m C far R) {p:Nat} (hp:p < m+far):R[Bt m far C p]?=some (p:Int):=by
 obtain ⟨h1,h2,h3⟩:=hR
 unfold Bt
 by_cases h:p < far
 ·rw [if_pos h];exact h2 p h
 ·rw [if_neg h,h3 _ (by omega)]
  congr 1
  omega
theorem HW {m:Nat} {C:Nat->Nat->Bool} {far l:Nat} (h:l < m+far):∃ p,p < m+far/\Bt m far C p=l:=by
 have:=(tV (m:=m) (C:=C) far).mem_iff.mpr (YC.mpr h)
 rcases Zb.mp this with h | h
 ·obtain ⟨i,hi,e⟩:=YZ.mp h
  have hi:=YC.mp hi
  refine ⟨m+far - 1 - i,by omega,?_⟩
  unfold Bt
  rw [if_neg (by omega),show m+far - 1 - (m+far - 1 - i)=i by omega]
  exact e
 ·obtain ⟨i,hi,e⟩:=YZ.mp h
  have hi:=YC.mp hi
  refine ⟨i,by omega,?_⟩
  unfold Bt
  rw [if_pos hi];exact e
theorem Uy {m far:Nat} {C:Nat->Nat->Bool} {R:List Int} (hR:qW m C far R):R.Perm ((List.range (m+far)).map fun k=>((k:Nat):Int)):=by
 have hnd:((List.range (m+far)).map fun k=>((k:Nat):Int)).Nodup:=by
  rw [List.nodup_iff_pairwise_ne,List.pairwise_map]
  exact List.nodup_range.imp fun h e=>h (by omega)
 have at_:∀ l,l < m+far->∃ p,p < m+far/\Bt m far C p=l/\R[l]?=some (p:Int):=fun l hl=>by
  obtain ⟨p,hp,e⟩:=HW (m:=m) (C:=C) (far:=far) hl
  exact ⟨p,hp,e,by rw [← e];exact Lr hR hp⟩
 have hRn:R.Nodup:=by
  rw [List.nodup_iff_pairwise_ne,ZW]
  intro i j hi hj hij e
  rw [hR.1] at hi hj
  obtain ⟨p,_,e1,e2⟩:=at_ i hi
  obtain ⟨p',_,e3,e4⟩:=at_ j hj
  rw [XR (by rw [hR.1];exact hi)] at e2
  rw [XR (by rw [hR.1];exact hj)] at e4
  rw [e,Ym e4] at e2
  have:p'=p:=by have:=Ym e2;omega
  rw [this,e1] at e3
  omega
 refine (List.perm_ext_iff_of_nodup hRn hnd).mpr fun x=>⟨fun hx=>?_,fun hx=>?_⟩
 ·obtain ⟨l,hl,e⟩:=Aah.mp hx
  rw [hR.1] at hl
  obtain ⟨p,hp,_,e2⟩:=at_ l hl
  rw [XR (by rw [hR.1];exact hl),e] at e2
  rw [Ym e2]
  exact YZ.mpr ⟨p,YC.mpr hp,rfl⟩
 ·obtain ⟨p,hp,rfl⟩:=YZ.mp hx
  exact YG (Lr hR (YC.mp hp))
theorem Qc (z y:Str):Rule (mS z) (mS y) (fun i j=>decide (z.cps.getD i 0=y.cps.getD j 0)) (CB z y):=fun i j hi hj=>Pz (side:=z) (top:=y) hi hj
theorem Uz {m far:Nat} {C:Nat->Nat->Bool} {R:List Int} (hR:qW m C far R) (hle:m+far<=96):∃ t:List Nat,R=nI t/\Prm t/\t.length=m+far/\∀ p,p < m+far->t[Bt m far C p]?=some p:=by
 have hp:=Uy hR
 have hpos:∀ x∈R,0<=x:=fun x hx=>by
  obtain ⟨k,_,rfl⟩:=YZ.mp (hp.mem_iff.mp hx)
  omega
 have e:R=nI (R.map Int.toNat):=by
  unfold nI
  rw [ZJ]
  refine (List.map_id R).symm.trans (Zx fun x hx=>?_)
  have:=hpos x hx
  show x=((x.toNat:Nat):Int)
  omega
 have hl:(R.map Int.toNat).length=m+far:=by rw [X8,hR.1]
 refine ⟨R.map Int.toNat,e,⟨by omega,?_⟩,hl,fun p hp2=>?_⟩
 ·rw [hl]
  have:=hp.map Int.toNat
  rw [ZJ] at this
  refine this.trans (List.Perm.of_eq ?_)
  refine (Zx fun k _=>?_).trans (List.map_id _)
  show ((k:Nat):Int).toNat=k
  omega
 ·rw [XX,Lr hR hp2];rfl
def cm (m far:Nat) (C:Nat->Nat->Bool) (B:Nat):Nat->Nat
 | 0=>0
 | p+1=>cm m far C B p+(if B<=Bt m far C p then 1 else 0)
theorem yZ {m far:Nat} {C:Nat->Nat->Bool} {B:Nat}:∀ q,q<=far->cm m far C B q=cn m C m B q
 | 0,_=>rfl
 | q+1,h=>by
  show cm m far C B q+_=cn m C m B q+_
  rw [yZ q (by omega)]
  unfold Bt
  rw [if_pos (show q < far by omega)]
theorem FW {m far:Nat} {C:Nat->Nat->Bool} {B:Nat}:∀ s,s<=m->m<=B+(m - s)->cm m far C B (far+s)=cn m C (m - s) B far
 | 0,_,_=>yZ far (XQ _)
 | s+1,h,hB=>by
  have ea:Bt m far C (far+s)=gA m C (m - (s+1)) far:=by
   unfold Bt
   rw [if_neg (by omega),show m+far - 1 - (far+s)=m - (s+1) by omega]
  show cm m far C B (far+s)+(if B<=Bt m far C (far+s) then 1 else 0)=_
  have kp:=Bh (m:=m) (C:=C) (i:=m - (s+1)) (B:=B) hB (by omega) far
  rw [show m - (s+1)+1=m - s by omega] at kp
  rw [ea,FW s (by omega) (by omega)]
  exact kp
theorem Dt {t:List Nat} (hn:t.Nodup) {l q B:Nat} (h:t[l]?=some q):(t.drop B).count q=if B<=l then 1 else 0:=by
 have hd:(t.drop B).Nodup:=hn.sublist (List.drop_sublist B t)
 by_cases hB:B<=l
 ·rw [if_pos hB]
  have hm:q∈t.drop B:=YG (i:=l - B) (by rw [List.getElem?_drop,show B+(l - B)=l by omega];exact h)
  have h1:=List.nodup_iff_count.mp hd q
  have h2:=List.count_pos_iff.mpr hm
  omega
 ·rw [if_neg hB]
  refine List.count_eq_zero.mpr fun hm=>?_
  obtain ⟨i,hi⟩:=List.getElem?_of_mem hm
  rw [List.getElem?_drop] at hi
  have e1:=K3 hn h
  have e2:=K3 hn hi
  omega
theorem wL (u:List Nat) (q:Nat):u.countP (fun x=>decide (x < q+1))=u.countP (fun x=>decide (x < q))+u.count q:=by
 induction u with
 | nil=>rfl
 | cons x u ih=>
  rw [List.countP_cons,List.countP_cons,List.count_cons,ih]
  by_cases h1:x < q
  ·have:x < q+1:=by omega
   have:¬ x=q:=by omega
   simp [*];omega
  ·by_cases h2:x=q
   ·subst h2
    simp;omega
   ·have:¬ x < q+1:=by omega
    simp [*]
theorem Ls {m far:Nat} {C:Nat->Nat->Bool} {t:List Nat} (hn:t.Nodup) (ht:∀ p,p < m+far->t[Bt m far C p]?=some p) (B:Nat):∀ q,q<=m+far->Dp t B q=cm m far C B q
 | 0,_=>by unfold Dp cm;simp
 | q+1,h=>by
  have ih:=Ls hn ht B q (by omega)
  unfold Dp at ih ⊢
  rw [wL,ih,Dt hn (ht q (by omega))]
  rfl
theorem UG {m far:Nat} {e C:Nat->Nat->Bool} (h:Rule m far e C) {t:List Nat} (hn:t.Nodup) (ht:∀ p,p < m+far->t[Bt m far C p]?=some p) {b c d:Nat} (hb:b<=m) (hc:c<=d) (hd:d<=far) (hw:b=m\/d=far):rk t m 0 b c d=tb e c b (d - c):=by
 unfold rk
 have h1:=rZ h c b hb (d - c) (by omega)
 rw [show c+(d - c)=d by omega] at h1
 rw [Nat.sub_zero,Ls hn ht _ _ (by omega)]
 have h2:cm m far C (m+c) (m - b+d)=cn m C b (m+c) d:=by
  rcases hw with rfl | rfl
  ·rw [Zm,Aao];exact yZ d hd
  ·rw [show m - b+d=d+(m - b) by omega,FW (m - b) (by omega) (by omega),show m - (m - b)=b by omega]
 rw [h2]
 omega
def AkB (mg:Str->Option Value) (H:Hp) (x:Addr) (z y:Str):Prop:=∃ t,Ak mg H x t (mS z) (mS y)/\Prm t/\t.length=mS z+mS y/\∀ p,p < mS z+mS y->t[Bt (mS z) (mS y) (CB z y) p]?=some p
theorem AkB.same {H H':Hp} {x:Addr} {z y:Str} (h:AkB mg H x z y) (s:Same H H'):AkB mg H' x z y:=by
 obtain ⟨t,h1,h2⟩:=h
 exact ⟨t,h1.same s,h2⟩
def AkBD (mg:Str->Option Value) (D:Addr->Prop) (H:Hp) (x:Addr) (z y:Str):Prop:=∃ t,AkD mg D H x t (mS z) (mS y)/\Prm t/\t.length=mS z+mS y/\∀ p,p < mS z+mS y->t[Bt (mS z) (mS y) (CB z y) p]?=some p
theorem AkBD.put {H:Hp} {D:Addr->Prop} {g x:Addr} {z y:Str} {o:HO} (h:AkBD mg D H x z y) (hg:D g):AkBD mg D (upd H g o) x z y:=by
 obtain ⟨t,a,b⟩:=h
 exact ⟨t,a.put hg,b⟩
theorem AkBD.ak {H:Hp} {D:Addr->Prop} {x:Addr} {z y:Str} (h:AkBD mg D H x z y):AkB mg H x z y:=by
 obtain ⟨t,a,b⟩:=h
 exact ⟨t,a.ak,b⟩
def Lw (mg:Str->Option Value):Sp:=fun vs H Q _=>∃ (z y:Str),vs=[.str z,.str y]/\t7 z/\t7 y/\∀ x H',Same H H'->AkBD mg (fun g=>∃ o,H g=some o) H' x z y->Q (.ref x) H'
theorem Du:aG ["side","top"] ["side","top"] (au tM):=⟨rfl,rfl,rfl,by trivial,rfl,by trivial,by trivial⟩
theorem uf (T:Txt K mg):nF P w K mg base 10 "asks_of" ["side","top"] (Lw mg):=by
 have j0:=j0 (P:=P) (w:=w) (base:=base) T
 have mJ:=mJ (P:=P) (w:=w) (base:=base) T
 have jL:=jL (P:=P) (w:=w) (base:=base) T
 refine gY T.d_asks_of Du (fun _ _ _ _ _ _ us hl=>L2.my (fun _ _=>rfl) us hl) ?_ fun f cdv A outer s H vs Q E hr h=>?_
 ·rintro vs H Q E ⟨z,y,rfl,_⟩;rfl
 obtain ⟨z,y,rfl,rz,ry,q⟩:=h
 have hu:=hr.units0
 have hu64:=hr.units
 refine ⟨_,(aA (aH (kh T.o_Asks j0 (hr.mono (by decide)) aM (gw fun _ _=>rfl) (aa (gC (kh T.o_Board jL (hr.mono (by decide)) aM (gw fun _ _=>rfl) (aa (aq 0) (aa (aq 1) ao)) (by trivial)) T.o_Board mJ (hr.mono (by decide)) (gw fun _ _=>rfl)) (aa (aB (aF (K:=K) rfl) aM T.b_len aO (aa (aq 0) ao) (by trivial) (by trivial)) ao)) (by trivial)))),?_⟩
 walk_at "s"
 have hsz:20000<=sizeLine:=by decide
 have hzl:=rz.1
 have hyl:=ry.1
 have ez:z.length=mS z:=rfl
 have ey:y.length=mS y:=rfl
 have lz:z.length<=sizeLine:=by omega
 rintro b0 db0 nx nd _
 refine ⟨b0,db0,z,y,rfl,aj,rz,ry,fun H1 C B0=>⟨rfl,?_⟩⟩
 have S1:=made nx nd C
 obtain ⟨_,_,e0,_,_,_,_,hb0,hO⟩:=id B0
 clear C nx nd hO
 walk_at "s"
 refine ⟨b0,e0,_,rfl,hb0,bdM (by trivial),?_⟩
 walk_at "s"
 refine ⟨b0,z,y,rfl,B0,fun pl R H2 _ S2 hE hpl=>?_⟩
 walk_at "s"
 obtain ⟨t,rfl,hP,hl,ht⟩:=Uz hE (by omega)
 refine dh lz ?_
 walk_at "s"
 rintro x dx nx nd _
 refine ⟨x,dx,pl,t,mS z,mS y,rfl,aj,.inl (HQ nx nd hpl).1,hP,hl.symm,fun H3 C3 A3=>⟨rfl,?_⟩⟩
 walk_at "s"
 exact q x _ (S1.trans (S2.trans (made nx nd C3))) ⟨t,A3.sub (fun g hg=>by
  obtain ⟨o,hg⟩:=hg
  have hg2:=(S1.trans S2) _ _ hg
  exact ⟨gNe nx hg2,o,(HQ nx nd hg2).1⟩),hP,hl,ht⟩
theorem wM:(["sign"]:List Str).Nodup:=by trivial
theorem Bj:(["letter"]:List Str).Nodup:=by trivial
theorem uO:Q0 m9 "self":=by trivial
theorem ug:Q0 m9 "found":=by trivial
def Pln (z:Str):Prop:=z.length<=24/\∀ c∈z.cps.toList,97<=c/\c < 123
theorem Qd:∀ k∈List.range 26,tX qm (97+k)=false/\tX LP (97+k)=false:=by trivial
theorem Pln.ok {z:Str} (h:Pln z) {c:Nat} (hc:c∈z.cps.toList):tX qm c=false/\tX LP c=false:=by
 have:=h.2 c hc
 have k:=Qd (c - 97) (YC.mpr (by omega))
 rw [show 97+(c - 97)=c by omega] at k
 exact k
theorem Bk:aG ["self","found"] ["self","found"] (au m9):=⟨rfl,rfl,rfl,by trivial,rfl,by trivial,by trivial⟩
theorem Dv (T:Txt K mg):Vo P w K mg base 1 "NoPlain" (aL mg "NoPlain") ["found"]:=mkX T.x_NoPlain Bk (fun _ _ _ _ _ _ us hl=>L2.my (fun _ _=>rfl) us hl) rfl fun f cdv A outer s H vs Q E hr h=>⟨_,(aA (yD (K:=K) rfl (Cr 0 uO) (Cr 1 ug))),rd1 T.x_NoPlain.c.cl.cls (T.x_NoPlain.na _ (by simp)) h⟩
theorem Pln.th {z:Str} (h:Pln z) {H:Hp}:Thing K H (.str z):=.inl ⟨z,rfl,by have:=h.1;omega⟩
def rB (v:V):Bool:=oR v qm 24
theorem Pln.pl {z:Str} (h:Pln z):rB (.str z)=true:=by
 unfold rB oR
 dsimp only
 rw [Yj (by have:=h.1;omega),Aar]
 unfold among
 rw [Zi]
 intro c hc
 have:=(h.ok hc).1
 unfold tX at this
 rw [this];rfl
def UJ (K:W.Frag):Sp:=fun vs H Q _=>∃ v:V,vs=[v]/\Thing K H v/\∀ H',Same H H'->Q (.bl (rB v)) H'
theorem Bl:aG ["thing"] ["thing"] (au nU):=⟨rfl,rfl,rfl,by trivial,rfl,by trivial,by trivial⟩
theorem qY (T:Txt K mg):nF P w K mg base 1 "is_plain" ["thing"] (UJ K):=by
 refine gY T.d_is_plain Bl (fun _ _ _ _ _ _ us hl=>L2.oW (fun _=>rfl) us hl) ?_ fun f cdv A outer s H vs Q E hr h=>?_
 ·rintro vs H Q E ⟨v,rfl,_⟩;rfl
 obtain ⟨v,rfl,hT,q⟩:=h
 have hu:=hr.units0
 have hu64:=hr.units
 refine ⟨_,(az (dG (j7 (jU (cL (cM (aB (fP (K:=K) rfl) aM T.b_isinstance aQ (aa (aq 0) (aa (ph aM T.b_str JM (by trivial) (by trivial)) ao)) (by trivial) (by trivial)))) (iV (fZ DW (aB (aF (K:=K) rfl) aM T.b_len aO (aa (aq 0) ao) (by trivial) (by trivial)) (Cu aM T.c_MOST_LETTERS (by trivial)) (by walk_at "p"))))) (aA (aH ji)) cX) (aA (aH (aB (o6 rfl) aM T.b_all vG (aa (gJ (sub:=[none]) (cY (N:=["thing"]) (sc:=au nU) (N':=["sign"]) (by trivial)) rfl rfl rfl (lq (K:=K) rfl (aq 0)) (fun C s₀ H₀ ex=>(mW 0 (by trivial) wM)) (fun C s₀ H₀ ex=>dI) (fun C s₀ H₀ ex=>(oO (Ku (K:=K) rfl hu64) (dF 0 (by trivial)) (qI (Ej (by trivial)) T.c_LETTERS (by trivial)) (by walk_at "p")))) ao) (by trivial) (by trivial))))),?_⟩
 walk_at "s"
 rcases hT with ⟨z,rfl,hz⟩ | ⟨ty,hty,hk⟩
 ·have hz1:z.length<=sizeLine:=Yz hz (by decide)
  refine jT (.str z) rfl ?_
  walk_at "s"
  refine dh hz1 ?_
  walk_at "s"
  refine qH (fun h1=>?_) (fun h1=>?_)
  ·walk_at "s"
   have:rB (.str z)=false:=by
    unfold rB oR
    dsimp only
    rw [Yl (by omega)];rfl
   have q':=q H (Same.refl H)
   rw [this] at q'
   exact q'
  ·walk_at "s"
   refine .inr (.inr ⟨z,rfl,?_⟩)
   refine xO (fun i us G=>G=H/\us=((z.cps.toList.take i).map fun c=>!tX qm c).map V.bl) hz1 ⟨rfl,rfl⟩ ?_ ?_ ?_
   ·rintro i us G ⟨rfl,rfl⟩
    simp;omega
   ·rintro i us G c hc ⟨rfl,rfl⟩
    walk_at "s"
    refine ⟨KeepSt.set rfl,?_⟩
    walk_at "s"
    refine ⟨rfl,?_⟩
    rw [Aae,hc]
    simp [qm,tX]
   ·rintro us G D H' ⟨rfl,rfl⟩ nD S hD
    try walk_at "s"
    refine ⟨D,_,rfl,hD,?_⟩
    have e1:z.cps.toList.take z.cps.size=z.cps.toList:=Zj (by simp)
    have e2:rB (.str z)=(List.map (fun c=>!tX qm c) (z.cps.toList.take z.cps.size)).all id:=by
     unfold rB oR
     dsimp only
     rw [Yj (by omega),Aar,e1,List.all_map];rfl
    have q':=q _ S
    rw [e2] at q'
    exact q'
 ·refine jT hty hk ?_
  walk_at "s"
  have q':=q H (Same.refl H)
  rw [show rB v=false from K6 hty hk] at q'
  exact q'
def Qe (mg:Str->Option Value) (C:Str) (H:Hp) (E:XK) (v:V):Prop:=∀ e H',Same H H'->IsX H' e (aL mg C) [("found",v)]->E (.ref (aL mg C)) (some e) H'
def PT (K:W.Frag) (H:Hp) (v:V):Prop:=Thing K H v/\(rB v=true->∃ z,v= .str z/\Pln z)
theorem PT.same {H H':Hp} {v:V} (h:PT K H v) (s:Same H H'):PT K H' v:=⟨h.1.same s,h.2⟩
theorem Pln.pt {z:Str} (h:Pln z) {H:Hp}:PT K H (.str z):=⟨h.th,fun _=>⟨z,rfl,h⟩⟩
def UL (K:W.Frag) (mg:Str->Option Value):Sp:=fun vs H Q E=>∃ v:V,vs=[v]/\Thing K H v/\(rB v=true->∀ H',Same H H'->Q .non H')/\(rB v=false->Qe mg "NoPlain" H E v)
theorem wN:aG ["thing"] ["thing"] (au nY):=⟨rfl,rfl,rfl,by trivial,rfl,by trivial,by trivial⟩
theorem oH (T:Txt K mg):HasX P w K mg base 3 "need_plain" ["thing"] (UL K mg):=by
 have qY:=qY (P:=P) (w:=w) (base:=base) T
 refine xM T.d_need_plain wN (fun _ _ _ _ _ _ us hl=>L2.oW (fun _=>rfl) us hl) ?_ fun f cdv A outer s H vs Q E hr h=>?_
 ·rintro vs H Q E ⟨v,rfl,_⟩;rfl
 obtain ⟨v,rfl,hT,q1,q2⟩:=h
 have hu:=hr.units0
 have hu64:=hr.units
 refine ⟨_,(aA (dG (cL (cM (aJ qY (hr.mono (by decide)) aM (aa (aq 0) ao) (by trivial)))) (aA (Af (Dv (P:=P) (w:=w) (base:=base) T) (hr.mono (by decide)) rfl aM dj (aa (aq 0) ao) (by trivial))) cX)),?_⟩
 walk_at "s"
 refine ⟨v,rfl,hT,fun H1 S1=>?_⟩
 walk_at "s"
 cases hb:rB v with
 | true=>
  walk_at "s"
  exact q1 hb H1 S1
 | false=>
  walk_at "s"
  exact ⟨rfl,(show 1<=sizeLine by decide),fun x H2 S2 X2=>q2 hb x H2 (S1.trans S2) X2⟩
def kJ (z:Str):Str:=⟨(z.cps.toList.flatMap fun c=>[46,c]).toArray⟩
theorem u9 (z:Str):(kJ z).cps.toList=z.cps.toList.flatMap fun c=>[46,c]:=by unfold kJ;simp
theorem UT (l:List Nat):(l.flatMap fun c=>[46,c]).length=2*l.length:=by
 induction l with
 | nil=>rfl
 | cons c l ih=>rw [List.flatMap_cons,Za,ih];simp;omega
theorem Xc (l:List Nat) (k:Nat):(l.flatMap fun c=>[46,c]).getD (2*k) 0=(if k < l.length then 46 else 0)/\(l.flatMap fun c=>[46,c]).getD (2*k+1) 0=l.getD k 0:=by
 induction l generalizing k with
 | nil=>simp
 | cons c l ih=>
  cases k with
  | zero=>simp
  | succ k=>
   have:=ih k
   rw [List.flatMap_cons,show 2*(k+1)=2*k+1+1 by omega]
   simpa using this
theorem lK (z:Str):(kJ z).cps.size=2*z.cps.size:=by
 rw [← Yv,u9,UT,Yv]
theorem vd {z:Str} (h:Pln z):t7 (kJ z):=by
 have hl:(kJ z).length=2*z.cps.size:=lK z
 have h1:z.cps.size<=24:=h.1
 refine ⟨by omega,?_⟩
 show (decide (((kJ z).length:Int)<=48) && (kJ z).cps.toList.all fun c=>!tX LP c)=true
 rw [Yj (by omega),Aar,Zi]
 intro c hc
 rw [u9] at hc
 obtain ⟨d,hd,hc⟩:=List.mem_flatMap.mp hc
 simp only [X7,Yq,or_false] at hc
 rcases hc with rfl | rfl
 ·decide+kernel
 ·rw [(h.ok hd).2];rfl
theorem Lx (a b:Str):(a ++ b).length=a.length+b.length:=by
 show (a.cps ++ b.cps).size=_
 simp [Str.length]
def Ly (K:W.Frag) (mg:Str->Option Value):Sp:=fun vs H Q E=>∃ v:V,vs=[v]/\PT K H v/\(rB v=false->Qe mg "NoPlain" H E v)/\(∀ z,v= .str z->Pln z->∀ H',Same H H'->Q (.str (kJ z)) H')
theorem Lz:∀ (l:List Nat),(Txt.join (Str.ofString "") (l.map fun c=>Str.ofString "." ++ ⟨#[c]⟩)).cps.toList=l.flatMap fun c=>[46,c]:=by
 intro l
 rw [zV,ZJ]
 induction l with
 | nil=>rfl
 | cons c l ih=>rw [Ys,Zu,ih];rfl
theorem Qf (l:List Nat):((l.map fun c=>Str.ofString "." ++ ⟨#[c]⟩).map (·.length)).sum=2*l.length:=by
 induction l with
 | nil=>rfl
 | cons c l ih=>
  have e:(Str.ofString "." ++ ⟨#[c]⟩:Str).length=2:=by rw [Lx,Tq,show (Str.ofString ".").length=1 by trivial]
  rw [Ys,Ys,List.sum_cons,ih,e,Y5];omega
theorem HX:aG ["row"] ["row"] (au rR):=⟨rfl,rfl,rfl,by trivial,rfl,by trivial,by trivial⟩
theorem jW (T:Txt K mg):HasX P w K mg base 4 "parted" ["row"] (Ly K mg):=by
 have oH:=oH (P:=P) (w:=w) (base:=base) T
 refine xM T.d_parted HX (fun _ _ _ _ _ _ us hl=>L2.oW (fun _=>rfl) us hl) ?_ fun f cdv A outer s H vs Q E hr h=>?_
 ·rintro vs H Q E ⟨v,rfl,_⟩;rfl
 obtain ⟨v,rfl,⟨tv,pv⟩,q1,q⟩:=h
 have hu:=hr.units0
 have hu64:=hr.units
 refine ⟨_,(az (bu (jm oH (hr.mono (by decide)) aM dj (aa (aq 0) ao) (by trivial))) (aA (aH (gm (K:=K) rfl PySem.F.plainAttrs_str PySem.F.slot_str_join PySem.F.type_str_join Eh oN (aa (gJ (sub:=[none]) (cY (N:=["row"]) (sc:=au rR) (N':=["letter"]) (by trivial)) rfl rfl rfl (lq (K:=K) rfl (aq 0)) (fun C s₀ H₀ ex=>(mW 0 (by trivial) Bj)) (fun C s₀ H₀ ex=>dI) (fun C s₀ H₀ ex=>(aV aP (qI (Ej (by trivial)) T.c_POINT (by trivial)) (dF 0 (by trivial))))) ao))))),?_⟩
 walk_at "s"
 have hs:20000<=sizeLine:=by decide
 refine ⟨v,rfl,tv,fun hv H1 S1=>?_,fun hv=>q1 hv⟩
 walk_at "s"
 obtain ⟨z,rfl,hp⟩:=pv hv
 replace q:=q z rfl hp
 have hl:=hp.1
 have el:z.length=z.cps.size:=rfl
 walk_at "s"
 refine ⟨rfl,?_⟩
 walk_at "s"
 refine .inr (.inr ⟨z,rfl,?_⟩)
 refine xO (fun i us G=>G=H1/\us=((z.cps.toList.take i).map fun c=>Str.ofString "." ++ ⟨#[c]⟩).map V.str) (by omega) ⟨rfl,rfl⟩ ?_ ?_ ?_
 ·rintro i us G ⟨rfl,rfl⟩
  simp;omega
 ·rintro i us G c hc ⟨rfl,rfl⟩
  walk_at "s"
  refine ⟨KeepSt.set rfl,?_⟩
  walk_at "s"
  refine yw (by rw [Tq,show (Str.ofString ".").length=1 by trivial];omega) ?_
  walk_at "s"
  refine ⟨rfl,?_⟩
  rw [Aae,hc,Yk,Yk]
  rfl
 ·rintro us G D H' ⟨rfl,rfl⟩ nD S hD
  have et:z.cps.toList.take z.cps.size=z.cps.toList:=Zj (by simp)
  rw [et] at hD
  try walk_at "s"
  refine JP hD ?_ ?_
  walk_at "s"
  ·rw [Qf,show (Str.ofString "").length=0 by trivial,X8,Yv];omega
  ·have:Txt.join (Str.ofString "") (z.cps.toList.map fun c=>Str.ofString "." ++ ⟨#[c]⟩)=kJ z:=by
    have e:=Lz z.cps.toList
    rw [← u9] at e
    cases hj:Txt.join (Str.ofString "") (z.cps.toList.map fun c=>Str.ofString "." ++ ⟨#[c]⟩) with
    | mk a=>rw [hj] at e;cases hz:kJ z with
     | mk b=>rw [hz] at e;congr;exact Array.ext' e
   rw [this]
   exact q _ (S1.trans S)
def csF (ak:Addr) (side top:Str):List (Str×V):=[("held_asks",.ref ak),("held_side",.str side),("held_top",.str top)]
theorem zy {ak:Addr} {side top:Str} {m:Str} (h:(["held_asks","held_side","held_top"]:List Str).contains m=false):(csF ak side top).lookup m=none:=by
 unfold csF
 simp only [Zg,List.contains_nil,Bool.or_false,Z0,Y9] at h
 obtain ⟨h1,h2,h3⟩:=h
 simp only [List.lookup,Y9.mpr h1,Y9.mpr h2,Y9.mpr h3]
def Cs (mg:Str->Option Value) (H:Hp) (x:Addr) (side top:Str):Prop:=Pln side/\Pln top/\∃ dx ak,H x=some (.ins (aL mg "Costs") dx (csF ak side top))/\AkB mg H ak (kJ side) (kJ top)
theorem Cs.same {H H':Hp} {x:Addr} {side top:Str} (h:Cs mg H x side top) (s:Same H H'):Cs mg H' x side top:=by
 obtain ⟨a,b,dx,ak,c,d⟩:=h
 exact ⟨a,b,dx,ak,s _ _ c,d.same s⟩
def FZ (K:W.Frag) (mg:Str->Option Value):Sp:=fun vs H Q E=>∃ (x dx:Addr) (v u:V),vs=[.ref x,v,u]/\H x=some (.ins (aL mg "Costs") dx [])/\PT K H v/\PT K H u/\(rB v=false->Qe mg "NoPlain" H E v)/\(rB v=true->rB u=false->Qe mg "NoPlain" H E u)/\
 ∀ side top,v= .str side->u= .str top->Pln side->Pln top->∀ H',Chg x H H'->Cs mg H' x side top->Q .non H'
theorem su:aG ["self","side","top"] ["self","side","top"] (au jF):=⟨rfl,rfl,rfl,by trivial,rfl,by trivial,by trivial⟩
theorem aY (T:Txt K mg):j9 P w K mg base 11 "Costs" "__init__" ["self","side","top"] (FZ K mg):=by
 have uf:=uf (P:=P) (w:=w) (base:=base) T
 have jW:=jW (P:=P) (w:=w) (base:=base) T
 refine oZ T.m_Costs___init__ su (fun _ _ _ _ _ _ us hl=>L2.oX (fun _ _ _=>rfl) us hl) ?_ fun f cdv A outer s H vs Q E hr h=>?_
 ·rintro vs H Q E ⟨x,dx,v,u,rfl,_⟩;rfl
 obtain ⟨x,dx,v,u,rfl,hx,tv,tu,q1,q2,q⟩:=h
 have hu:=hr.units0
 have hu64:=hr.units
 refine ⟨_,(az (jn (K:=K) rfl (aq 0) (aJ uf (hr.mono (by decide)) aM (aa (jm jW (hr.mono (by decide)) aM dj (aa (aq 1) ao) (by trivial)) (aa (jm jW (hr.mono (by decide)) aM dj (aa (aq 2) ao) (by trivial)) ao)) (by trivial))) (az (jn (K:=K) rfl (aq 0) (aq 1)) (aA (jn (K:=K) rfl (aq 0) (aq 2))))),?_⟩
 walk_at "s"
 have cl:=T.o_Costs.cl
 have na:=T.n_Costs
 refine ⟨v,rfl,tv,fun hv=>q1 hv,fun side ev ps H1 S1=>?_⟩
 walk_at "s"
 subst ev
 refine ⟨u,rfl,tu.same S1,fun hu' e H2 S2 X2=>q2 ps.pl hu' e H2 (S1.trans S2) X2,fun top eu pt H2 S2=>?_⟩
 walk_at "s"
 subst eu
 replace q:=q side top rfl rfl ps pt
 have U2:=S1.trans S2
 refine ⟨kJ side,kJ top,rfl,vd ps,vd pt,fun ak H3 S3 hA=>?_⟩
 walk_at "s"
 have U3:=U2.trans S3
 have dx3:(fun g=>∃ o,H2 g=some o) x:=⟨_,U2 _ _ hx⟩
 refine ⟨x,_,dx,_,rfl,U3 _ _ hx,cl,na _ (by simp),by simp,?_⟩
 walk_at "s"
 rw [fB (by show ([]:List Str).contains "held_asks"=false;trivial)]
 have hx4:=aj (H:=H3) (a:=x) (o:=.ins (aL mg "Costs") dx (([]:List (Str×V)) ++ ([("held_asks",.ref ak)]:List (Str×V))))
 have C4:Chg x H (upd H3 x (.ins (aL mg "Costs") dx (([]:List (Str×V)) ++ ([("held_asks",.ref ak)]:List (Str×V))))):=Chg.put (fun b o n e=>U3 _ _ e)
 have hA4:=hA.put (g:=x) (o:=.ins (aL mg "Costs") dx (([]:List (Str×V)) ++ ([("held_asks",.ref ak)]:List (Str×V)))) dx3
 generalize upd H3 x (.ins (aL mg "Costs") dx (([]:List (Str×V)) ++ ([("held_asks",.ref ak)]:List (Str×V))))=H4 at hx4 C4 hA4 ⊢
 walk_at "s"
 refine ⟨x,_,dx,_,rfl,hx4,cl,na _ (by simp),by simp,?_⟩
 walk_at "s"
 rw [fB (by show (["held_asks"]:List Str).contains "held_side"=false;trivial)]
 have hx5:=aj (H:=H4) (a:=x) (o:=.ins (aL mg "Costs") dx (([]:List (Str×V)) ++ ([("held_asks",.ref ak)]:List (Str×V)) ++ ([("held_side",.str side)]:List (Str×V))))
 have C5:Chg x H (upd H4 x (.ins (aL mg "Costs") dx (([]:List (Str×V)) ++ ([("held_asks",.ref ak)]:List (Str×V)) ++ ([("held_side",.str side)]:List (Str×V))))):=Chg.put C4
 have hA5:=hA4.put (g:=x) (o:=.ins (aL mg "Costs") dx (([]:List (Str×V)) ++ ([("held_asks",.ref ak)]:List (Str×V)) ++ ([("held_side",.str side)]:List (Str×V)))) dx3
 generalize upd H4 x (.ins (aL mg "Costs") dx (([]:List (Str×V)) ++ ([("held_asks",.ref ak)]:List (Str×V)) ++ ([("held_side",.str side)]:List (Str×V))))=H5 at hx5 C5 hA5 ⊢
 walk_at "s"
 refine ⟨x,_,dx,_,rfl,hx5,cl,na _ (by simp),by simp,?_⟩
 rw [fB (by show (["held_asks","held_side"]:List Str).contains "held_top"=false;trivial)]
 exact q _ (Chg.put C5) ⟨ps,pt,dx,ak,aj,(hA5.put dx3).ak⟩
theorem wj (e:Nat->Nat->Bool) (b:Nat):∀ n i k,i+k<=n->(tb e b i k<=tb e b i (k+1)/\tb e b i (k+1)<=tb e b i k+1)/\(tb e b i k<=tb e b (i+1) k/\tb e b (i+1) k<=tb e b i k+1)
 | 0,i,k,h=>by
  obtain rfl:i=0:=by omega
  obtain rfl:k=0:=by omega
  rw [Ds,Ds,HS]
  omega
 | n+1,i,k,h=>by
  constructor
  ·cases i with
   | zero=>rw [Ds,Ds];omega
   | succ i=>
    obtain ⟨⟨a1,a2⟩,b1,b2⟩:=wj e b n i k (by omega)
    rw [Bg]
    split
    ·omega
    ·unfold Mr
     split <;> omega
  ·cases k with
   | zero=>rw [HS,HS];omega
   | succ k=>
    obtain ⟨⟨a1,a2⟩,b1,b2⟩:=wj e b n i k (by omega)
    rw [Bg]
    split
    ·omega
    ·unfold Mr
     split <;> omega
def dd (g:Nat->Nat->Bool) (b:Nat):Nat->Nat->Nat
 | 0,k=>k
 | i+1,0=>i+1
 | i+1,k+1=>min (min (dd g b i (k+1)+1) (dd g b (i+1) k+1)) (dd g b i k+if g i (b+k)=true then 0 else 1)
theorem Bm (g:Nat->Nat->Bool) (b k:Nat):dd g b 0 k=k:=by rw [dd]
theorem Dw (g:Nat->Nat->Bool) (b i:Nat):dd g b i 0=i:=by cases i <;> rw [dd]
theorem Bo (g:Nat->Nat->Bool) (b i k:Nat):dd g b (i+1) (k+1)=min (min (dd g b i (k+1)+1) (dd g b (i+1) k+1)) (dd g b i k+if g i (b+k)=true then 0 else 1):=by rw [dd]
theorem Xd {e g:Nat->Nat->Bool} {b m n:Nat} (h0:∀ i j,i < m->j < n->e (2*i) (2*j)=true) (h1:∀ i j,i < m->j < n->e (2*i+1) (2*j+1)=g i j) (h2:∀ i j,i < m->j < n->e (2*i) (2*j+1)=false) (h3:∀ i j,i < m->j < n->e (2*i+1) (2*j)=false):
  ∀ i,i<=m->∀ k,b+k<=n->(dd g b i k:Int)+tb e (2*b) (2*i) (2*k)=(i:Int)+k:=by
 intro i
 induction i with
 | zero=>intro _ k _;rw [Bm,show 2*0=0 by rfl,Ds];simp
 | succ i ih=>
  intro hi k
  induction k with
  | zero=>intro _;rw [Dw,show 2*0=0 by rfl,HS];simp
  | succ k ihk=>
   intro hk
   have q1:=ih (by omega) k (by omega)
   have q2:=ih (by omega) (k+1) hk
   have q3:=ihk (by omega)
   have e0:e (2*i) (2*b+2*k)=true:=by rw [show 2*b+2*k=2*(b+k) by omega];exact h0 i (b+k) (by omega) (by omega)
   have e1:e (2*i+1) (2*b+(2*k+1))=g i (b+k):=by rw [show 2*b+(2*k+1)=2*(b+k)+1 by omega];exact h1 i (b+k) (by omega) (by omega)
   have e2:e (2*i) (2*b+(2*k+1))=false:=by rw [show 2*b+(2*k+1)=2*(b+k)+1 by omega];exact h2 i (b+k) (by omega) (by omega)
   have e3:e (2*i+1) (2*b+2*k)=false:=by rw [show 2*b+2*k=2*(b+k) by omega];exact h3 i (b+k) (by omega) (by omega)
   have t1:tb e (2*b) (2*i+1) (2*k+1)=tb e (2*b) (2*i) (2*k)+1:=by rw [Bg,e0,if_pos rfl]
   have t2:tb e (2*b) (2*i+1+1) (2*k+1)=Mr (tb e (2*b) (2*i+1+1) (2*k)) (tb e (2*b) (2*i+1) (2*k+1)):=by rw [Bg,e3,if_neg (by decide)]
   have t3:tb e (2*b) (2*i+1) (2*k+1+1)=Mr (tb e (2*b) (2*i+1) (2*k+1)) (tb e (2*b) (2*i) (2*k+1+1)):=by rw [Bg,e2,if_neg (by decide)]
   have t4:=Bg e (2*b) (2*i+1) (2*k+1)
   rw [e1] at t4
   have l1:=(wj e (2*b) _ (2*i) (2*k) (XQ _)).1
   have l2:=(wj e (2*b) _ (2*i) (2*k+1) (XQ _)).1
   have l3:=(wj e (2*b) _ (2*i) (2*k) (XQ _)).2
   have l4:=(wj e (2*b) _ (2*i+1) (2*k) (XQ _)).2
   rw [show 2*(i+1)=2*i+1+1 by omega] at q3 ⊢
   rw [show 2*(k+1)=2*k+1+1 by omega] at q2 ⊢
   rw [Bo]
   unfold Mr at t2 t3 t4
   cases hg:g i (b+k) with
   | true=>
    rw [hg,if_pos rfl] at t4
    rw [if_pos rfl]
    omega
   | false=>
    rw [hg,if_neg (by decide)] at t4
    rw [if_neg (by decide)]
    split at t2 <;> split at t3 <;> split at t4 <;> omega
def uD (side top:Str) (i j:Nat):Bool:=decide (side.cps.getD i 0=top.cps.getD j 0)
theorem pP {z:Str} (k:Nat):(kJ z).cps.getD (2*k) 0=(if k < z.cps.size then 46 else 0)/\(kJ z).cps.getD (2*k+1) 0=z.cps.getD k 0:=by
 have h:=Xc z.cps.toList k
 rw [← u9] at h
 have g:∀ (y:Str) (i:Nat),y.cps.getD i 0=y.cps.toList.getD i 0:=fun y i=>by
  rw [X6,ZQ,Y8]
 rw [g,g,g,← Yv]
 exact h
theorem LC {z:Str} (h:Pln z) {k:Nat} (hk:k < z.cps.size):z.cps.getD k 0≠46:=by
 have:z.cps.getD k 0∈z.cps.toList:=by
  rw [show z.cps.getD k 0=z.cps[k] by simp [Array.getD,hk]]
  exact Array.mem_toList_iff.mpr (Array.getElem_mem hk)
 have:=h.2 _ this
 omega
theorem Ga {side top:Str} (ps:Pln side) (pt:Pln top) {b k:Nat} (hk:b+k<=top.cps.size):(dd (uD side top) b side.cps.size k:Int)+tb (fun i j=>decide ((kJ side).cps.getD i 0=(kJ top).cps.getD j 0)) (2*b) (2*side.cps.size) (2*k)=(side.cps.size:Int)+k:=by
 refine Xd (m:=side.cps.size) (n:=top.cps.size) ?_ ?_ ?_ ?_ _ (XQ _) _ hk
 ·intro i j hi hj
  rw [(pP i).1,(pP j).1,if_pos hi,if_pos hj];rfl
 ·intro i j hi hj
  rw [(pP i).2,(pP j).2];rfl
 ·intro i j hi hj
  rw [(pP i).1,(pP j).2,if_pos hi]
  exact Yl fun z=>LC pt hj z.symm
 ·intro i j hi hj
  rw [(pP i).2,(pP j).1,if_pos hj]
  exact Yl fun z=>LC ps hi z
def Qg (mg:Str->Option Value):Sp:=fun vs H Q _=>∃ (x:Addr) (side top:Str) (b k:Nat),vs=[.ref x,.int b,.int ((b+k:Nat):Int)]/\Cs mg H x side top/\b+k<=top.cps.size/\Q (.int (dd (uD side top) b side.cps.size k:Nat)) H
theorem oJ:aG ["self","begin","end"] ["self","begin","end"] (au gK):=⟨rfl,rfl,rfl,by trivial,rfl,by trivial,by trivial⟩
theorem aW (T:Txt K mg):j9 P w K mg base 8 "Costs" "reckoned_cost" ["self","begin","end"] (Qg mg):=by
 have lJ:=lJ (P:=P) (w:=w) (base:=base) T
 refine oZ T.m_Costs_reckoned_cost oJ (fun _ _ _ _ _ _ us hl=>L2.oX (fun _ _ _=>rfl) us hl) ?_ fun f cdv A outer s H vs Q E hr h=>?_
 ·rintro vs H Q E ⟨x,side,top,b,k,rfl,_⟩;rfl
 obtain ⟨x,side,top,b,k,rfl,⟨ps,pt,dx,ak,hx,hA⟩,hk,q⟩:=h
 have hu:=hr.units0
 have hu64:=hr.units
 refine ⟨_,(aA (aH (aV fY (aV fY (aV aP (aB (aF (K:=K) rfl) aM T.b_len aO (aa (jV (K:=K) rfl (aq 0)) ao) (by trivial) (by trivial)) (aq 2)) (aq 1)) (nO (jV (K:=K) rfl (aq 0)) T.o_Asks lJ (hr.mono (by decide)) dj (aa (aV iR aC (aq 1)) (aa (aV iR aC (aq 2)) ao)))))),?_⟩
 walk_at "s"
 have hs:20000<=sizeLine:=by decide
 have cl:=T.o_Costs.cl
 have na:=T.n_Costs
 have l1:=ps.1
 obtain ⟨t,hT,hP,hl,ht⟩:=hA
 obtain ⟨_,dk,ty,hxk,_⟩:=id hT
 refine ⟨x,_,dx,_,_,rfl,hx,cl,na _ (by simp),rfl,?_⟩
 walk_at "s"
 refine dh (by omega) ?_
 walk_at "s"
 refine ⟨x,_,dx,_,_,rfl,hx,cl,na _ (by simp),rfl,?_⟩
 walk_at "s"
 refine ⟨ak,dk,_,rfl,hxk,akM (by trivial),?_⟩
 walk_at "s"
 have e2:mS (kJ top)=2*top.cps.size:=lK top
 have e1:mS (kJ side)=2*side.cps.size:=lK side
 refine ⟨ak,t,mS (kJ side),mS (kJ top),2*b,2*(b+k),by rw [show (2:Int)*(b:Int)=((2*b:Nat):Int) by omega,show (2:Int)*((b+k:Nat):Int)=((2*(b+k):Nat):Int) by omega],hT,by omega,by omega,?_⟩
 walk_at "s"
 have hn:t.Nodup:=hP.nd
 rw [UG (Qc (kJ side) (kJ top)) hn ht (XQ _) (by omega) (by omega) (.inl rfl),e1,show 2*(b+k) - 2*b=2*k by omega]
 have:=Ga ps pt hk
 have es:(side.length:Int)=(side.cps.size:Int):=rfl
 rw [es,show (side.cps.size:Int)+((b+k:Nat):Int) - (b:Int) - tb (fun i j=>decide ((kJ side).cps.getD i 0=(kJ top).cps.getD j 0)) (2*b) (2*side.cps.size) (2*k)=((dd (uD side top) b side.cps.size k:Nat):Int) by omega]
 exact q
theorem sy:(["end","self","begin"]:List Str).Nodup:=by trivial
theorem qZ:(["begin","self"]:List Str).Nodup:=by trivial
def dH (side top:Str) (b:Nat):List Int:=(List.range (top.cps.size - b+1)).map fun k=>((dd (uD side top) b side.cps.size k:Nat):Int)
theorem jt (side top:Str) (b:Nat):(dH side top b).length=top.cps.size - b+1:=by unfold dH;simp
theorem za {side top:Str} {b k:Nat} (h:k < top.cps.size - b+1):(dH side top b)[k]?=some ((dd (uD side top) b side.cps.size k:Nat):Int):=by
 unfold dH;rw [XX,Yt h];rfl
def UV (mg:Str->Option Value):Sp:=fun vs H Q _=>∃ (x:Addr) (side top:Str) (b:Nat),vs=[.ref x,.int b]/\Cs mg H x side top/\b<=top.cps.size/\∀ q H',H q=none->Same H H'->H' q=some (.lst ((dH side top b).map V.int))->Q (.ref q) H'
theorem uP:aG ["self","begin"] ["self","begin"] (au jq):=⟨rfl,rfl,rfl,by trivial,rfl,by trivial,by trivial⟩
theorem lL (T:Txt K mg):j9 P w K mg base 9 "Costs" "row_of" ["self","begin"] (UV mg):=by
 have aW:=aW (P:=P) (w:=w) (base:=base) T
 refine oZ T.m_Costs_row_of uP (fun _ _ _ _ _ _ us hl=>L2.my (fun _ _=>rfl) us hl) ?_ fun f cdv A outer s H vs Q E hr h=>?_
 ·rintro vs H Q E ⟨x,side,top,b,rfl,_⟩;rfl
 obtain ⟨x,side,top,b,rfl,hC,hb,q⟩:=h
 have hu:=hr.units0
 have hu64:=hr.units
 refine ⟨_,(aA (aH (gJ (sub:=[none,some 0,some 1]) (cY (N:=["self","begin"]) (sc:=au jq) (N':=["end","self","begin"]) (by trivial)) rfl rfl rfl (GR aM T.b_range (aa (aX 1) (aa (aV aP (aB (aF (K:=K) rfl) aM T.b_len aO (aa (jV (K:=K) rfl (aX 0)) ao) (by trivial) (by trivial)) aC) ao))) (fun C s₀ H₀ ex=>(mW 0 (by trivial) sy)) (fun C s₀ H₀ ex=>dI) (fun C s₀ H₀ ex=>(mY (mg:=mg) rfl (fQ 1 (by trivial)) T.o_Costs aW (hr.mono (by decide)) (gw fun _ _=>rfl) (aa (fQ 2 (by trivial)) (aa (dF 0 (by trivial)) ao))))))),?_⟩
 walk_at "s"
 have hs:20000<=sizeLine:=by decide
 have cl:=T.o_Costs.cl
 have na:=T.n_Costs
 obtain ⟨ps,pt,dx,ak,hx,_⟩:=id hC
 have l2:=pt.1
 have e2:top.length=top.cps.size:=rfl
 refine ⟨x,_,dx,_,_,rfl,hx,cl,na _ (by simp),rfl,?_⟩
 walk_at "s"
 refine dh (by omega) ?_
 walk_at "s"
 rw [show ((top.length:Int)+1 - (b:Int)).toNat=top.cps.size - b+1 by omega]
 refine ⟨by omega,?_⟩
 refine mZ (fun k=>V.int ((dd (uD side top) b side.cps.size k:Nat):Int)) (by omega) (fun i hi=>?_) fun D H' nD S hD=>?_
 ·walk_at "s"
  refine ⟨KeepSt.set rfl,?_⟩
  walk_at "s"
  refine ⟨x,dx,_,rfl,hx,zy (by trivial),?_⟩
  walk_at "s"
  rw [show (b:Int)+(i:Int)=((b+i:Nat):Int) by omega]
  refine ⟨x,side,top,b,i,rfl,hC,by omega,?_⟩
  walk_at "s"
  exact ⟨rfl,nP rfl⟩
 ·try walk_at "s"
  refine q D H' nD S ?_
  rw [hD]
  unfold dH
  rw [ZJ]
  rfl
def Qh (mg:Str->Option Value):Sp:=fun vs H Q _=>∃ (x:Addr) (side top:Str),vs=[.ref x]/\Cs mg H x side top/\∀ q rs H',H q=none->Same H H'->H' q=some (.lst rs)->CT H' rs (top.cps.size+1) (dH side top)->(∀ (k:Nat) (a:Addr),rs[k]?=some (V.ref a)->H a=none)->Q (.ref q) H'
theorem uh:aG ["self"] ["self"] (au iU):=⟨rfl,rfl,rfl,by trivial,rfl,by trivial,by trivial⟩
theorem dw (T:Txt K mg):j9 P w K mg base 10 "Costs" "rows_of" ["self"] (Qh mg):=by
 have lL:=lL (P:=P) (w:=w) (base:=base) T
 refine oZ T.m_Costs_rows_of uh (fun _ _ _ _ _ _ us hl=>L2.oW (fun _=>rfl) us hl) ?_ fun f cdv A outer s H vs Q E hr h=>?_
 ·rintro vs H Q E ⟨x,side,top,rfl,_⟩;rfl
 obtain ⟨x,side,top,rfl,hC,q⟩:=h
 have hu:=hr.units0
 have hu64:=hr.units
 refine ⟨_,(aA (aH (gJ (sub:=[none,some 0]) (cY (N:=["self"]) (sc:=au iU) (N':=["begin","self"]) (by trivial)) rfl rfl rfl (bJ aM T.b_range (aa (aV aP (aB (aF (K:=K) rfl) aM T.b_len aO (aa (jV (K:=K) rfl (aX 0)) ao) (by trivial) (by trivial)) aC) ao)) (fun C s₀ H₀ ex=>(mW 0 (by trivial) qZ)) (fun C s₀ H₀ ex=>dI) (fun C s₀ H₀ ex=>(mY (mg:=mg) rfl (fQ 1 (by trivial)) T.o_Costs lL (hr.mono (by decide)) (gw fun _ _=>rfl) (aa (dF 0 (by trivial)) ao)))))),?_⟩
 walk_at "s"
 have hs:20000<=sizeLine:=by decide
 have cl:=T.o_Costs.cl
 have na:=T.n_Costs
 obtain ⟨ps,pt,dx,ak,hx,_⟩:=id hC
 have l2:=pt.1
 have e2:top.length=top.cps.size:=rfl
 refine ⟨x,_,dx,_,_,rfl,hx,cl,na _ (by simp),rfl,?_⟩
 walk_at "s"
 refine dh (by omega) ?_
 walk_at "s"
 refine ⟨_,rfl,by omega,by omega,?_⟩
 rw [show ((top.length:Int)+1).toNat=top.cps.size+1 by omega]
 refine f9 (fun i zs G=>Same H G/\CT G zs i (dH side top)/\∀ (k:Nat) (a:Addr),zs[k]?=some (V.ref a)->H a=none) (by omega) ⟨Same.refl H,⟨rfl,fun k hk=>absurd hk (Zz _)⟩,fun k a e=>by simp at e⟩ ?_ ?_ ?_
 ·rintro i zs G ⟨_,h,_⟩
  rw [h.1];exact XQ _
 ·rintro i zs G hi ⟨s,h,hn⟩
  walk_at "s"
  refine ⟨KeepSt.set rfl,?_⟩
  walk_at "s"
  refine ⟨x,dx,_,rfl,s _ _ hx,zy (by trivial),?_⟩
  walk_at "s"
  rw [show (0:Int)+(i:Int)=(i:Int) by omega]
  refine ⟨x,side,top,i,rfl,hC.same s,by omega,fun r G2 nr S2 hr2=>?_⟩
  walk_at "s"
  refine ⟨s.trans S2,(h.same S2).push hr2,fun k a e=>?_⟩
  by_cases ek:k < zs.length
  ·rw [Ye ek] at e
   exact hn k a e
  ·have ek':k=zs.length:=by
    have:=(XM.mp e).1
    simp at this;omega
   subst ek'
   rw [Yn (XQ _),Zm] at e
   cases e
   exact Same.back s nr
 ·rintro zs G D H' ⟨s,h,hn⟩ nD S hD
  try walk_at "s"
  exact q D zs H' (Same.back s nD) (s.trans S) hD (h.same S) hn
end
local macro_rules | `(tactic| walk_at "s") => `(tactic| (with_reducible repeat (first | refine jk ?_ | walk_at "4")))
local macro_rules | `(tactic| walk_at "n") => `(tactic| (with_reducible repeat (walk_at "4")))
section
variable {P:Program} {w:World} {K:W.Frag} {mg:Str->Option Value} {base:Heap}
theorem fj:aG ["above","sign","top","row","column","other","length"] ["above","sign","top"] (au jX):=⟨rfl,rfl,rfl,by trivial,rfl,by trivial,by trivial⟩
theorem j5 (T:Txt K mg):nF P w K mg base 1 "lengths_below" ["above","sign","top"] Pg:=by
 refine gY T.d_lengths_below fj (fun _ _ _ _ _ _ us hl=>L2.oX (fun _ _ _=>rfl) us hl) ?_ fun f cdv A outer s H vs Q E hr h=>?_
 ·rintro vs H Q E ⟨a,S,i,c,top,rfl,_⟩;rfl
 obtain ⟨a,S,i,c,top,rfl,hc,ht,ha,q⟩:=h
 have hu:=hr.units0
 have hu64:=hr.units
 refine ⟨_,(az (aK (i:=3) fj.nd rfl fW (gW (aa aC ao)) rfl) (az (fH Yx rfl (lX (K:=K) rfl rfl aM T.b_enumerate (aa (aq 2) ao)) (lu (K:=K) rfl rfl (bK (bj (i:=4) fj.nd rfl fW rfl) (bK (bj (i:=5) fj.nd rfl fW rfl) jl))) (az (aK (i:=6) fj.nd rfl fW (aB (sO rfl) aM T.b_max Cm (aa (c7 (K:=K) rfl (aq 0) (aV aP (aq 4) aC)) (aa (c7 (K:=K) rfl (aq 3) (aq 4)) ao)) (by trivial) (by trivial)) rfl) (az (dG (fZ (mC (K:=K) rfl hu64) (aq 1) (aq 5) (by walk_at "p")) (aA (aK (i:=6) fj.nd rfl fW (aB (sO rfl) aM T.b_max Cm (aa (aq 6) (aa (aV aP (c7 (K:=K) rfl (aq 0) (aq 4)) aC) ao)) (by trivial) (by trivial)) rfl)) cX) (aA (bu (gm (K:=K) rfl Yh Yo Yp dm (aq 3) (aa (aq 6) ao))))))) (aA (aH (aq 3))))),?_⟩
 walk_at "s"
 refine ⟨by decide,fun r nr=>?_⟩
 walk_at "s"
 refine .inl ⟨top,rfl,?_⟩
 have hsz:top.cps.size=top.length:=rfl
 refine Cv (fun j U H'=>Same H H'/\H' r=some (.lst ((nj S top.cps.toList (i+1) (j+1)).map V.int))/\∃ x4 x5 x6,U=[some (.ref a),some (.str ⟨#[c]⟩),some (.str top),some (.ref r),x4,x5,x6])
  ⟨(Same.refl H).upd nr,by rw [aj];unfold nj;simp [WP],none,none,none,rfl⟩ ?_ ?_
 ·rintro j U H1 T0 hj ⟨S1,hr1,x4,x5,x6,rfl⟩ nT
  have hj':j < top.length:=hj
  have ed:top.cps.toList[j]?=some (top.cps.getD j 0):=by
   rw [Y8]
   have:top.cps[j]?=some top.cps[j]:=ZV hj
   simp [this,hj]
  refine bf (xs:=[.int j,.str ⟨#[top.cps.getD j 0]⟩]) (SqT.of aj) rfl ?_
  have ha2:upd H1 T0 (.tup (lA top j)) a=some (.lst ((nj S top.cps.toList i (top.length+1)).map V.int)):=aZ nT (S1 _ _ ha)
  have hr2:upd H1 T0 (.tup (lA top j)) r=some (.lst ((nj S top.cps.toList (i+1) (j+1)).map V.int)):=aZ nT hr1
  have S2:Same H (upd H1 T0 (.tup (lA top j))):=S1.upd nT
  have hl:((nj S top.cps.toList (i+1) (j+1)).map V.int).length < sizeLine:=by
   rw [X8,K4]
   exact Yd (show j+1 < 1000 by omega) (by decide)
  walk_at "s"
  refine aN (SqL.of ha2) (yL (j:=j+1) (by omega)) ?_
  walk_at "s"
  refine aN (SqL.of hr2) (yL (j:=j) (by omega)) ?_
  walk_at "s"
  refine qH (fun hk=>?_) (fun hk=>?_)
  ·have ec:c=top.cps.getD j 0:=by
    have:=Str.mk.inj (V.str.inj hk)
    simpa using this
   walk_at "s"
   refine aN (SqL.of ha2) (yL (j:=j) (by omega)) ?_
   walk_at "s"
   refine ⟨.inl ⟨rfl,_,SqL.of hr2⟩,?_⟩
   walk_at "s"
   refine di hr2 hl ?_
   refine ⟨over S2 nr,?_,_,_,_,rfl⟩
   have ev:lt S top.cps.toList (i+1) (j+1)=mx (mx (lt S top.cps.toList i (j+1)) (lt S top.cps.toList (i+1) j)) (lt S top.cps.toList i j+1):=by rw [Uj,if_pos (by rw [hc,ed,ec])]
   rw [aj,tU S _ (i+1) (j+1),ev,Yk];rfl
  ·have ec:¬ S[i]?=top.cps.toList[j]?:=by
    rw [hc,ed]
    intro z
    exact hk (by rw [Ym z])
   walk_at "s"
   refine ⟨.inl ⟨rfl,_,SqL.of hr2⟩,?_⟩
   walk_at "s"
   refine di hr2 hl ?_
   refine ⟨over S2 nr,?_,_,_,_,rfl⟩
   have ev:lt S top.cps.toList (i+1) (j+1)=mx (lt S top.cps.toList i (j+1)) (lt S top.cps.toList (i+1) j):=by rw [Uj,if_neg ec]
   rw [aj,tU S _ (i+1) (j+1),ev,Yk];rfl
 ·rintro U H1 ⟨S1,hr1,x4,x5,x6,rfl⟩
  walk_at "s"
  exact q r H1 nr S1 hr1
structure Tab (H:Hp) (t:Addr) (rs:List Addr) (rows:List (List Int)):Prop where
 at_:H t=some (.lst (rs.map V.ref))
 len:rs.length=rows.length
 nd:rs.Nodup
 ne:t ∉ rs
 row:∀ (i:Nat) (r:Addr) (xs:List Int),rs[i]?=some r->rows[i]?=some xs->H r=some (.lst (xs.map V.int))
theorem zeros (S P:List Nat) (n:Nat):(List.replicate n [V.int 0]).flatten=(nj S P 0 n).map V.int:=by
 induction n with
 | zero=>rfl
 | succ n ih=>
  rw [tU,Yk,← ih,lt_0,List.replicate_succ',List.flatten_append];rfl
theorem UW {α:Type} {xs:List α} {n:Nat} {v:α} (h:xs.length=n+1) (e:xs[n]?=some v):uU xs (-1)=some v:=by
 unfold uU Bs
 rw [h,if_neg (by omega),if_pos (by omega)]
 show xs[((-1:Int)+((n+1:Nat):Int)).toNat]?=some v
 rw [show ((-1:Int)+((n+1:Nat):Int)).toNat=n by omega];exact e
def uQ (S P:List Nat) (m n:Nat):List (List Int):=(List.range m).map fun i=>nj S P i n
def U0:Sp:=fun vs H Q _=>∃ side top:Str,vs=[.str side,.str top]/\t7 side/\t7 top/\∀ t rs H',H t=none->(∀ r∈rs,H r=none)->Same H H'->Tab H' t rs (uQ side.cps.toList top.cps.toList (side.length+1) (top.length+1))->Q (.ref t) H'
theorem q9:aG ["side","top","table","sign"] ["side","top"] (au tO):=⟨rfl,rfl,rfl,by trivial,rfl,by trivial,by trivial⟩
theorem um (T:Txt K mg):nF P w K mg base 5 "lengths" ["side","top"] U0:=by
 have je:=je (P:=P) (w:=w) (base:=base) T
 have j5:=j5 (P:=P) (w:=w) (base:=base) T
 refine gY T.d_lengths q9 (fun _ _ _ _ _ _ us hl=>L2.my (fun _ _=>rfl) us hl) ?_ fun f cdv A outer s H vs Q E hr h=>?_
 ·rintro vs H Q E ⟨side,top,rfl,_⟩;rfl
 obtain ⟨side,top,rfl,hs,ht,q0⟩:=h
 have hu:=hr.units0
 have hu64:=hr.units
 refine ⟨_,(az (bu (aJ je (hr.mono (by decide)) aM (aa (aq 0) (aa (aq 1) ao)) (by trivial))) (az (aK (i:=2) q9.nd rfl fW (gW (aa (aV iR (gW (aa aC ao)) (aV aP (aB (aF (K:=K) rfl) aM T.b_len aO (aa (aq 1) ao) (by trivial) (by trivial)) aC)) ao)) rfl) (az (fH Yx rfl (lq (K:=K) rfl (aq 0)) (bj (i:=3) q9.nd rfl fW rfl) (aA (bu (gm (K:=K) rfl Yh Yo Yp dm (aq 2) (aa (aJ j5 (hr.mono (by decide)) aM (aa (c7 (K:=K) rfl (aq 2) (GQ sI aC)) (aa (aq 3) (aa (aq 1) ao))) (by trivial)) ao))))) (aA (aH (aq 2)))))),?_⟩
 walk_at "s"
 refine ⟨side,top,rfl,hs,ht,fun H1 S1=>?_⟩
 walk_at "s"
 have lt1:top.length<=sizeLine:=Yz ht.1 (by decide)
 walk_at "s"
 refine ⟨by simp;decide,fun p0 n0=>?_⟩
 walk_at "s"
 refine dh lt1 ?_
 walk_at "s"
 refine Cw aj (by omega) (by have:=ht.1;omega) (Yz (show [V.int 0].length*((top.length:Int)+1).toNat<=1000 by have:=ht.1;simp;omega) (by decide)) fun p1 n1=>?_
 walk_at "s"
 refine ⟨by simp;decide,fun t n2=>?_⟩
 walk_at "s"
 refine .inr (.inr ⟨side,rfl,?_⟩)
 have e0:(List.replicate ((top.length:Int)+1).toNat [V.int 0]).flatten=(nj side.cps.toList top.cps.toList 0 (top.length+1)).map V.int:=by
  rw [show ((top.length:Int)+1).toNat=top.length+1 by omega]
  exact zeros _ _ _
 rw [e0] at n2 ⊢
 have nt1:H1 t=none:=(((Same.refl H1).upd n0).upd n1).free n2
 have nt:H t=none:=S1.free nt1
 have npt:p1≠t:=fun z=>by rw [z,aj] at n2;cases n2
 refine Ep (z:=side) (fun i U H'=>Same H H'/\(∃ rs,(∀ r∈rs,H r=none)/\Tab H' t rs (uQ side.cps.toList top.cps.toList (i+1) (top.length+1)))/\∃ x3,U=[some (.str side),some (.str top),some (.ref t),x3])
  ⟨(((S1.upd n0).upd n1).upd n2),⟨[p1],fun r hr=>by rw [YD.mp hr];exact S1.free (((Same.refl H1).upd n0).free n1),⟨aj,by simp [uQ],by simp,by simpa using Ne.symm npt,fun i r xs e1 e2=>?_⟩⟩,none,rfl⟩ ?_ ?_
 ·have hi:i=0:=by
   have:=(XM.mp e1).1
   simp at this;exact this
  subst hi
  simp [uQ] at e1 e2
  subst e1 e2
  exact aZ n2 aj
 ·rintro i U H2 c hc ⟨S2,⟨rs,fr,TB⟩,x3,rfl⟩
  have hi:i < side.length:=by
   have:=(XM.mp hc).1
   simpa [Str.length] using this
  have hrl:rs.length=i+1:=by rw [TB.len];simp [uQ]
  obtain ⟨r,er⟩:∃ r,rs[i]?=some r:=⟨_,XR (show i < rs.length by omega)⟩
  have hrow:=TB.row i r (nj side.cps.toList top.cps.toList i (top.length+1)) er (by unfold uQ;rw [XX,Yt (by omega)];rfl)
  walk_at "s"
  refine ⟨.inl ⟨rfl,_,SqL.of TB.at_⟩,?_⟩
  walk_at "s"
  refine aN (SqL.of TB.at_) (UW (n:=i) (v:=.ref r) (by simp [hrl]) (by rw [XX,er];rfl)) ?_
  walk_at "s"
  refine ⟨r,side.cps.toList,i,c,top,rfl,hc,ht.1,hrow,fun r2 H3 nr2 S3 hr2=>?_⟩
  walk_at "s"
  refine di (S3 _ _ TB.at_) (by rw [X8,hrl];exact Yd (show i+1 < 1000 by have:=hs.1;omega) (by decide)) ?_
  have nr2t:r2≠t:=fun z=>by rw [z,TB.at_] at nr2;cases nr2
  have nrs:∀ r'∈rs,r'≠t:=fun r' hr' z=>TB.ne (by rw [← z];exact hr')
  have nin:r2 ∉ rs:=fun z=>by
   obtain ⟨k,hk,ek⟩:=Aah.mp z
   have hk2:k < (uQ side.cps.toList top.cps.toList (i+1) (top.length+1)).length:=by rw [← TB.len];exact hk
   have:=TB.row k r2 _ (by rw [XR hk,ek]) (XR hk2)
   rw [this] at nr2;cases nr2
  refine ⟨over (S2.trans S3) nt,⟨rs ++ [r2],fun r hr=>(Zb.mp hr).elim (fr r) fun z=>by rw [YD.mp z];exact S2.free nr2,⟨by rw [aj];simp,by simp [hrl,uQ],?_,?_,fun k r' xs e1 e2=>?_⟩⟩,_,rfl⟩
  ·rw [Aad]
   exact ⟨TB.nd,by simp,fun a ha b hb z=>nin (by rw [YD.mp hb] at z;rw [← z];exact ha)⟩
  ·intro z
   rcases Zb.mp z with z | z
   ·exact TB.ne z
   ·exact nr2t (YD.mp z).symm
  ·by_cases hk:k < rs.length
   ·rw [Ye hk] at e1
    rw [aD (nrs r' (YG e1))]
    refine S3 _ _ (TB.row k r' xs e1 ?_)
    unfold uQ at e2 ⊢
    rw [XX,Yt (by omega)] at e2
    rw [XX,Yt (by omega)]
    exact e2
   ·have hk2:k < (rs ++ [r2]).length:=(XM.mp e1).1
    simp at hk2
    have hk3:k=i+1:=by omega
    subst hk3
    rw [Yn (by omega),hrl] at e1
    simp at e1
    subst e1
    unfold uQ at e2
    rw [XX,Yt (by omega)] at e2
    have e3:=Ym e2
    rw [aD nr2t,← e3]
    exact hr2
 ·rintro U H2 ⟨S2,⟨rs,fr,TB⟩,x3,rfl⟩
  walk_at "s"
  exact q0 t rs H2 nt fr S2 TB
end
local macro_rules | `(tactic| walk_at "s") => `(tactic| (with_reducible repeat (first | refine jk ?_ | walk_at "3")))
local macro_rules | `(tactic| walk_at "n") => `(tactic| (with_reducible repeat (walk_at "3")))
section
variable {P:Program} {w:World} {K:W.Frag} {mg:Str->Option Value} {base:Heap}
theorem pQ:(["i","top","table"]:List Str).Nodup:=by trivial
theorem pR:(["j","i","table"]:List Str).Nodup:=by trivial
theorem uo {vs:List V} {n:Nat} {v:V} (hl:vs.length=n+1) (h:vs[n]?=some v):uU vs (-1)=some v:=by
 unfold uU Bs
 rw [if_neg (by omega),if_pos (by omega)]
 show vs[(-1+(vs.length:Int)).toNat]?=some v
 rw [show (-1+(vs.length:Int)).toNat=n by omega]
 exact h
theorem Vs (z:Str) (i:Nat):z.cps.toList.getD i 0=z.cps.getD i 0:=by
 rw [X6,ZQ,Y8]
theorem Xe {a b c:Int} (h1:a<=c+1) (h2:b<=c+1):mx (mx a b) (c+1)=c+1:=by unfold mx;split <;> split <;> omega
theorem Gb {S P:List Nat}:∀ (n i k:Nat),i+k<=n->i<=S.length->k<=P.length->lt S P i k=tb (fun i j=>decide (S.getD i 0=P.getD j 0)) 0 i k
 | _,0,k,_,_,_=>by rw [lt_0,Ds]
 | _,i+1,0,_,_,_=>by rw [WP,HS]
 | 0,i+1,k+1,h,_,_=>by omega
 | n+1,i+1,k+1,h,hi,hk=>by
  have e1:=Gb (S:=S) (P:=P) n i (k+1) (by omega) (by omega) hk
  have e2:=Gb (S:=S) (P:=P) n (i+1) k (by omega) hi (by omega)
  have e3:=Gb (S:=S) (P:=P) n i k (by omega) (by omega) (by omega)
  rw [Uj,Bg,e1,e2,e3,Aao]
  have hi0:i < S.length:=by omega
  have hk0:k < P.length:=by omega
  have es:S[i]?=some (S.getD i 0):=by simp [X6,hi0]
  have ep:P[k]?=some (P.getD k 0):=by simp [X6,hk0]
  rw [es,ep]
  obtain ⟨⟨_,b1⟩,_,b2⟩:=wj (fun i j=>decide (S.getD i 0=P.getD j 0)) 0 (i+k) i k (XQ _)
  by_cases h:S.getD i 0=P.getD k 0
  ·rw [if_pos (by rw [h]),if_pos (Yj h)]
   exact Xe b1 b2
  ·rw [if_neg (fun z=>h (Ym z)),if_neg (by rw [Yl h];decide)]
   unfold mx Mr
   split <;> split <;> omega
def Xf (side top:Str) (i:Nat):List Int:=(List.range (top.cps.size+1)).map fun j:Nat=>(i:Int)+(j:Int) - lt (kJ side).cps.toList (kJ top).cps.toList (2*i) (2*j)
def spBC (K:W.Frag) (mg:Str->Option Value):Sp:=fun vs H Q E=>∃ (v u:V),vs=[v,u]/\PT K H v/\PT K H u/\(rB v=false->Qe mg "NoPlain" H E v)/\(rB v=true->rB u=false->Qe mg "NoPlain" H E u)/\
 ∀ side top,v= .str side->u= .str top->Pln side->Pln top->∀ q rs H',H q=none->Same H H'->H' q=some (.lst rs)->CT H' rs (side.cps.size+1) (Xf side top)->Q (.ref q) H'
theorem lM:aG ["side","top","table"] ["side","top"] (au gM):=⟨rfl,rfl,rfl,by trivial,rfl,by trivial,by trivial⟩
theorem ju (T:Txt K mg):HasX P w K mg base 6 "beginning_costs" ["side","top"] (spBC K mg):=by
 have um:=um (P:=P) (w:=w) (base:=base) T
 have jW:=jW (P:=P) (w:=w) (base:=base) T
 refine xM T.d_beginning_costs lM (fun _ _ _ _ _ _ us hl=>L2.my (fun _ _=>rfl) us hl) ?_ fun f cdv A outer s H vs Q E hr h=>?_
 ·rintro vs H Q E ⟨v,u,rfl,_⟩;rfl
 obtain ⟨v,u,rfl,tv,tu,q1,q2,q⟩:=h
 have hu:=hr.units0
 have hu64:=hr.units
 refine ⟨_,(az (aK (i:=2) lM.nd rfl Mq (aJ um (hr.mono (by decide)) aM (aa (jm jW (hr.mono (by decide)) aM dj (aa (aq 0) ao) (by trivial)) (aa (jm jW (hr.mono (by decide)) aM dj (aa (aX 1) ao) (by trivial)) ao)) (by trivial)) rfl) (aA (aH (gJ (sub:=[none,some 1,some 2]) (cY (N:=["side","top","table"]) (sc:=au gM) (N':=["i","top","table"]) (by trivial)) rfl rfl rfl (bJ aM T.b_range (aa (aV aP (aB (aF (K:=K) rfl) aM T.b_len aO (aa (aq 0) ao) (by trivial) (by trivial)) aC) ao)) (fun C s₀ H₀ ex=>(WF 0 (by trivial) pQ)) (fun C s₀ H₀ ex=>dI) (fun C s₀ H₀ ex=>(gJ (sub:=[none,some 0,some 2]) (Ud (cY (N:=["i","top","table"]) (N':=["j","i","table"]) (by trivial))) rfl rfl rfl (bJ (Ej (by trivial)) T.b_range (aa (aV aP (aB (aF (K:=K) rfl) (Ej (by trivial)) T.b_len aO (aa (fQ 1 (by trivial)) ao) (by trivial) (by trivial)) aC) ao)) (fun C s₀ H₀ ex=>(mW 0 (by trivial) pR)) (fun C s₀ H₀ ex=>dI) (fun C s₀ H₀ ex=>(aV fY (aV aP (fQ 1 (by trivial)) (dF 0 (by trivial))) (c7 (K:=K) rfl (c7 (K:=K) rfl (fQ 2 (by trivial)) (aV iR aC (fQ 1 (by trivial)))) (aV iR aC (dF 0 (by trivial)))))))))))),?_⟩
 walk_at "s"
 have hz:20000<=sizeLine:=by decide
 refine ⟨v,rfl,tv,fun hv=>q1 hv,fun side ev ps H1 S1=>?_⟩
 walk_at "s"
 subst ev
 refine ⟨u,rfl,tu.same S1,fun hu' e H2 S2 X2=>q2 ps.pl hu' e H2 (S1.trans S2) X2,fun top eu pt H2 S2=>?_⟩
 walk_at "s"
 subst eu
 replace q:=q side top rfl rfl ps pt
 have l1:=ps.1
 have l2:=pt.1
 have e1:side.length=side.cps.size:=rfl
 have e2:top.length=top.cps.size:=rfl
 have p1:(kJ side).length=2*side.cps.size:=lK side
 have p2:(kJ top).length=2*top.cps.size:=lK top
 refine ⟨kJ side,kJ top,rfl,vd ps,vd pt,fun t rs H3 nt fr S3 TB=>?_⟩
 walk_at "s"
 have U3:=S1.trans (S2.trans S3)
 refine dh (by omega) ?_
 walk_at "s"
 refine ⟨_,rfl,by omega,by omega,?_⟩
 rw [show ((side.length:Int)+1).toNat=side.cps.size+1 by omega]
 refine f9 (fun i zs G=>Same H3 G/\CT G zs i (Xf side top)) (by omega) ⟨Same.refl H3,rfl,fun k hk=>absurd hk (Zz _)⟩ ?_ ?_ ?_
 ·rintro i zs G ⟨_,h⟩
  rw [h.1];exact XQ _
 ·rintro i zs G hi ⟨s,h⟩
  walk_at "s"
  refine ⟨KeepSt.set rfl,?_⟩
  walk_at "s"
  refine dh (by omega) ?_
  walk_at "s"
  refine ⟨_,rfl,by omega,by omega,?_⟩
  rw [show ((top.length:Int)+1).toNat=top.cps.size+1 by omega]
  obtain ⟨r,er⟩:∃ r,rs[2*i]?=some r:=⟨_,XR (by rw [TB.len];simp [uQ];omega)⟩
  have hrow:=TB.row (2*i) r (nj (kJ side).cps.toList (kJ top).cps.toList (2*i) ((kJ top).length+1)) er (by unfold uQ;rw [XX,Yt (by omega)];rfl)
  refine mZ (fun j:Nat=>V.int ((i:Int)+(j:Int) - lt (kJ side).cps.toList (kJ top).cps.toList (2*i) (2*j))) (by omega) (fun j hj=>?_) fun D G2 nD S4 hD=>?_
  ·walk_at "s"
   refine ⟨KeepSt.set rfl,?_⟩
   walk_at "s"
   rw [show (2:Int)*(0+(i:Int))=((2*i:Nat):Int) by omega]
   refine aN (SqL.of (s _ _ TB.at_)) (bh (by rw [XX,er];rfl)) ?_
   walk_at "s"
   rw [show (2:Int)*(0+(j:Int))=((2*j:Nat):Int) by omega]
   refine aN (SqL.of (s _ _ hrow)) (yL (by omega)) ?_
   walk_at "s"
   exact ⟨rfl,nP (by congr 1;omega)⟩
  ·try walk_at "s"
   refine ⟨s.trans S4,(h.same S4).push ?_⟩
   rw [hD]
   unfold Xf
   rw [ZJ];rfl
 ·rintro zs G D H' ⟨s,h⟩ nD S hD
  try walk_at "s"
  exact q D zs H' (Same.back (U3.trans s) nD) (U3.trans (s.trans S)) hD (h.same S)
def LK (K:W.Frag) (mg:Str->Option Value):Sp:=fun vs H Q E=>∃ (v u:V),vs=[v,u]/\PT K H v/\PT K H u/\(rB v=false->Qe mg "NoPlain" H E v)/\(rB v=true->rB u=false->Qe mg "NoPlain" H E u)/\
 ∀ side top,v= .str side->u= .str top->Pln side->Pln top->∀ H',Same H H'->Q (.int (dd (uD side top) 0 side.cps.size top.cps.size:Nat)) H'
theorem Qi:aG ["side","top"] ["side","top"] (au Dh):=⟨rfl,rfl,rfl,by trivial,rfl,by trivial,by trivial⟩
theorem uq (T:Txt K mg):HasX P w K mg base 7 "cost" ["side","top"] (LK K mg):=by
 have ju:=ju (P:=P) (w:=w) (base:=base) T
 refine xM T.d_cost Qi (fun _ _ _ _ _ _ us hl=>L2.my (fun _ _=>rfl) us hl) ?_ fun f cdv A outer s H vs Q E hr h=>?_
 ·rintro vs H Q E ⟨v,u,rfl,_⟩;rfl
 obtain ⟨v,u,rfl,tv,tu,q1,q2,q⟩:=h
 have hu:=hr.units0
 have hu64:=hr.units
 refine ⟨_,(aA (aH (c7 (K:=K) rfl (c7 (K:=K) rfl (jm ju (hr.mono (by decide)) aM dj (aa (aq 0) (aa (aq 1) ao)) (by trivial)) (GQ sI aC)) (GQ sI aC)))),?_⟩
 walk_at "s"
 refine ⟨v,u,rfl,tv,tu,fun hv=>q1 hv,fun hv hu'=>q2 hv hu',fun side top ev eu ps pt d rs H1 nd S1 hd hC=>?_⟩
 walk_at "s"
 subst ev eu
 replace q:=q side top rfl rfl ps pt
 obtain ⟨b,eb,hb⟩:=hC.2 side.cps.size (by omega)
 refine aN (SqL.of hd) (uo hC.1 eb) ?_
 walk_at "s"
 refine aN (SqL.of hb) (uo (n:=top.cps.size) (by unfold Xf;simp) (by unfold Xf;rw [XX,XX,Yt (by omega)];rfl)) ?_
 walk_at "s"
 have p1:(kJ side).cps.toList.length=2*side.cps.size:=by rw [Yv];exact lK side
 have p2:(kJ top).cps.toList.length=2*top.cps.size:=by rw [Yv];exact lK top
 have h1:=Gb (S:=(kJ side).cps.toList) (P:=(kJ top).cps.toList) _ (2*side.cps.size) (2*top.cps.size) (XQ _) (by omega) (by omega)
 have h2:=Ga ps pt (b:=0) (k:=top.cps.size) (by omega)
 have h3:(fun i j=>decide ((kJ side).cps.toList.getD i 0=(kJ top).cps.toList.getD j 0))=(fun i j=>decide ((kJ side).cps.getD i 0=(kJ top).cps.getD j 0)):=by
  funext i j
  rw [Vs,Vs]
 rw [h3] at h1
 rw [Nat.mul_zero] at h2
 show Q (.int ((side.cps.size:Int)+(top.cps.size:Int) - lt (kJ side).cps.toList (kJ top).cps.toList (2*side.cps.size) (2*top.cps.size))) H1
 rw [show (side.cps.size:Int)+(top.cps.size:Int) - lt (kJ side).cps.toList (kJ top).cps.toList (2*side.cps.size) (2*top.cps.size)=((dd (uD side top) 0 side.cps.size top.cps.size:Nat):Int) by omega]
 exact q H1 S1
end
local macro_rules | `(tactic| walk_at "s") => `(tactic| (with_reducible repeat (first | refine jk ?_ | walk_at "3")))
local macro_rules | `(tactic| walk_at "n") => `(tactic| (with_reducible repeat (walk_at "3")))
section
variable {P:Program} {w:World} {K:W.Frag} {mg:Str->Option Value} {base:Heap}
theorem wk (a b:Str):(a ++ b).cps.size=a.cps.size+b.cps.size:=Lx a b
theorem wu:aG ["_law_script","_law_k"] ["_law_script","_law_k"] (au mD):=⟨rfl,rfl,rfl,by trivial,rfl,by trivial,by trivial⟩
theorem iQ (T:Txt K mg):nF P w K mg base 1 "_law_cell_at" ["_law_script","_law_k"] (Ul K):=by
 refine gY T.d_law_cell_at wu (fun _ _ _ _ _ _ us hl=>L2.my (fun _ _=>rfl) us hl) ?_ fun f cdv A outer s H vs Q E hr h=>?_
 ·rintro vs H Q E ⟨a,ns,k,rfl,_⟩;rfl
 obtain ⟨a,ns,k,rfl,hS,h0,q⟩:=h
 have hu:=hr.units0
 have hu64:=hr.units
 refine ⟨_,(az (dG (fZ IV (aq 1) (aB (aF (K:=K) rfl) aM T.b_len aO (aa (aq 0) ao) (by trivial) (by trivial)) (by walk_at "p")) (aA (aH (c7 (K:=K) rfl (aq 0) (aq 1)))) cX) (aA (aH aC))),?_⟩
 walk_at "s"
 refine fu hS ?_
 walk_at "s"
 refine qH (fun hk=>?_) (fun hk=>?_)
 ·rw [X8] at hk
  walk_at "s"
  refine aN hS (yu (v:=.int (ns.getD k.toNat 0)) h0 ?_) (q _)
  rw [XX,X6,XR (by omega)];rfl
 ·walk_at "s"
  exact q _
def XH (n:Nat):Nat:=(Str.ofString "abcdefghijklmnopqrstuvwxyz").cps.toList.getD n 0
theorem Xg:∀ n∈List.range 26,97<=XH n/\XH n < 123:=by trivial
def Xh:Sp:=fun vs H Q _=>∃ n:Int,vs=[.int n]/\∀ c,97<=c->c < 123->Q (.str ⟨#[c]⟩) H
theorem wO:aG ["_law_number_here"] ["_law_number_here"] (au n8):=⟨rfl,rfl,rfl,by trivial,rfl,by trivial,by trivial⟩
theorem oK (T:Txt K mg):nF P w K mg base 1 "_law_letter" ["_law_number_here"] Xh:=by
 refine gY T.d_law_letter wO (fun _ _ _ _ _ _ us hl=>L2.oW (fun _=>rfl) us hl) ?_ fun f cdv A outer s H vs Q E hr h=>?_
 ·rintro vs H Q E ⟨n,rfl,_⟩;rfl
 obtain ⟨n,rfl,q⟩:=h
 have hu:=hr.units0
 have hu64:=hr.units
 refine ⟨_,(aA (aH (c7 (K:=K) rfl oN (aV jB (aq 0) aC)))),?_⟩
 walk_at "s"
 have hl:(Str.ofString "abcdefghijklmnopqrstuvwxyz").cps.toList.length=26:=by trivial
 have hk:=Xg (n % 26).toNat (YC.mpr (by omega))
 refine QQ (c:=XH (n % 26).toNat) (by trivial) ?_ (q _ hk.1 hk.2)
 refine yu (by omega) ?_
 have hi:(n % 26).toNat < (Str.ofString "abcdefghijklmnopqrstuvwxyz").cps.toList.length:=by rw [hl];omega
 unfold XH
 rw [X6,XR hi];rfl
def Qj:Sp:=fun vs H Q _=>∃ n:Int,vs=[.int n]/\∀ m:Int,Q (.int m) H
theorem ik:aG ["_law_cell","_law_found","_law_number_here","_law_k"] ["_law_cell"] (au pL):=⟨rfl,rfl,rfl,by trivial,rfl,by trivial,by trivial⟩
theorem pU (T:Txt K mg):nF P w K mg base 1 "_law_great" ["_law_cell"] Qj:=by
 refine gY T.d_law_great ik (fun _ _ _ _ _ _ us hl=>L2.oW (fun _=>rfl) us hl) ?_ fun f cdv A outer s H vs Q E hr h=>?_
 ·rintro vs H Q E ⟨n,rfl,_⟩;rfl
 obtain ⟨n,rfl,q⟩:=h
 have hu:=hr.units0
 have hu64:=hr.units
 refine ⟨_,(az (dG (fZ VH (aq 0) (aV RW aC aC) (by walk_at "p")) (aA (aH (aq 0))) cX) (az (aK (i:=1) ik.nd rfl fW aC rfl) (az (aK (i:=2) ik.nd rfl fW (aV aP (aV jB (aq 0) aC) aC) rfl) (az (fH Yx rfl (bJ aM T.b_range (aa aC ao)) (bj (i:=3) ik.nd rfl fW rfl) (az (aK (i:=2) ik.nd rfl fW (aV jB (aV aP (aV aP (aV iR (aq 2) (aq 2)) (aV iR aC (aq 2))) (aq 3)) aC) rfl) (aA (aK (i:=1) ik.nd rfl fW (aV aP (aV iR (aq 1) aC) (aV jB (aV iR (aq 2) aC) aC)) rfl)))) (aA (aH (aq 1))))))),?_⟩
 walk_at "s"
 refine qH (fun h1=>?_) (fun h1=>?_)
 ·walk_at "s"
  exact q _
 ·walk_at "s"
  refine ⟨8,rfl,by decide,by decide,?_⟩
  refine p7 (lo:=0) (n:=8) (fun k U H'=>∃ (f m:Int) (x:Option V),H'=H/\0<=m/\m < 2147500000/\U=[some (.int n),some (.int f),some (.int m),x]) ⟨0,n % 2147483647+12345,none,rfl,by omega,by omega,rfl⟩ ?_ ?_
  ·rintro i U H' hi ⟨f,m,x,rfl,h1,h2,rfl⟩
   walk_at "s"
   refine ⟨_,_,_,rfl,?_,?_,rfl⟩
   ·omega
   ·omega
  ·rintro U H' ⟨f,m,x,rfl,h1,h2,rfl⟩
   walk_at "s"
   exact q _
theorem Pln.nil:Pln (Str.ofString ""):=⟨by trivial,fun c hc=>by revert c;trivial⟩
theorem Pln.push {z:Str} {c:Nat} (h:∀ c∈z.cps.toList,97<=c/\c < 123) (h1:97<=c) (h2:c < 123):∀ d∈(z ++ (⟨#[c]⟩:Str)).cps.toList,97<=d/\d < 123:=fun d hd=>by
 rw [cps_append] at hd
 rcases Zb.mp hd with g | g
 ·exact h d g
 ·simp at g;subst g;exact ⟨h1,h2⟩
theorem Qk (d:Int) (h0:0<=d) (h1:d < 6):∃ w:Int,uU ([.int 1,.int 2,.int 2,.int 3,.int 4,.int 26]:List V) d=some (.int w)/\0 < w/\w<=26:=by
 obtain ⟨n,rfl⟩:∃ n:Nat,d=n:=⟨d.toNat,by omega⟩
 have hn:n=0\/n=1\/n=2\/n=3\/n=4\/n=5:=by omega
 rcases hn with rfl | rfl | rfl | rfl | rfl | rfl
 ·exact ⟨1,rfl,by decide,by decide⟩
 ·exact ⟨2,rfl,by decide,by decide⟩
 ·exact ⟨2,rfl,by decide,by decide⟩
 ·exact ⟨3,rfl,by decide,by decide⟩
 ·exact ⟨4,rfl,by decide,by decide⟩
 ·exact ⟨26,rfl,by decide,by decide⟩
def U9:Sp:=fun vs H Q _=>∃ (n:Int),vs=[.int n,.int 24]/\∀ z H',Same H H'->Pln z->Q (.str z) H'
theorem dB:aG ["_law_cell","_law_most","_law_number_here","_law_many","_law_wide","_law_first_here","_law_row_here","_law_k"] ["_law_cell","_law_most"] (au tQ):=⟨rfl,rfl,rfl,by trivial,rfl,by trivial,by trivial⟩
theorem ql (T:Txt K mg):nF P w K mg base 2 "_law_row" ["_law_cell","_law_most"] U9:=by
 have pU:=pU (P:=P) (w:=w) (base:=base) T
 have oK:=oK (P:=P) (w:=w) (base:=base) T
 refine gY T.d_law_row dB (fun _ _ _ _ _ _ us hl=>L2.my (fun _ _=>rfl) us hl) ?_ fun f cdv A outer s H vs Q E hr h=>?_
 ·rintro vs H Q E ⟨n,rfl,_⟩;rfl
 obtain ⟨n,rfl,q⟩:=h
 have hu:=hr.units0
 have hu64:=hr.units
 refine ⟨_,(az (aK (i:=2) dB.nd rfl fW (aJ pU (hr.mono (by decide)) aM (aa (aq 0) ao) (by trivial)) rfl) (az (aK (i:=3) dB.nd rfl fW (aV jB (aq 2) aC) rfl) (az (dG (fZ (mC (K:=K) rfl hu64) (aV jB (aV lQ (aq 2) aC) aC) aC (by walk_at "p")) (aA (aK (i:=3) dB.nd rfl fW (aV jB (aV lQ (aq 2) aC) (aV aP (aq 1) aC)) rfl)) cX) (az (aK (i:=2) dB.nd rfl fW (aV lQ (aq 2) aC) rfl) (az (aK (i:=4) dB.nd rfl fW (c7 (K:=K) rfl (gW (aa aC (aa aC (aa aC (aa aC (aa aC (aa aC ao))))))) (aV jB (aq 2) aC)) rfl) (az (aK (i:=5) dB.nd rfl fW (aV lQ (aq 2) aC) rfl) (az (aK (i:=2) dB.nd rfl fW (aV lQ (aq 5) aC) rfl) (az (aK (i:=6) dB.nd rfl fW oN rfl) (az (fH Yx rfl (bJ aM T.b_range (aa (aq 3) ao)) (bj (i:=7) dB.nd rfl fW rfl) (az (aK (i:=6) dB.nd rfl fW (aV aP (aq 6) (aJ oK (hr.mono (by decide)) aM (aa (aV aP (aV jB (aq 5) aC) (aV jB (aq 2) (aq 4))) ao) (by trivial))) rfl) (aA (aK (i:=2) dB.nd rfl fW (aV lQ (aq 2) (aq 4)) rfl)))) (aA (aH (aq 6)))))))))))),?_⟩
 walk_at "n"
 with_reducible refine jk ?_
 walk_at "n"
 refine ⟨_,rfl,fun m=>?_⟩
 walk_at "n"
 with_reducible refine jk ?_
 walk_at "n"
 with_reducible refine Kr (fun U H1=>∃ k:Nat,k<=24/\H1=H/\U=[some (.int n),some (.int 24),some (.int m),some (.int k),none,none,none,none]) ?_ ?_
 rotate_left
 ·intro N hN
  walk_at "n"
  refine qH (fun h3=>?_) (fun h3=>?_)
  ·walk_at "n"
   exact hN _ _ ⟨(m / 72 % 25).toNat,by omega,rfl,by rw [Int.toNat_of_nonneg (by omega)];rfl⟩
  ·walk_at "n"
   exact hN _ _ ⟨(m % 9).toNat,by omega,rfl,by rw [Int.toNat_of_nonneg (by omega)];rfl⟩
 ·rintro U H1 ⟨k,hk,rfl,rfl⟩
  walk_at "s"
  refine dJ rfl fun p2 H2 n2 S2 h2=>?_
  walk_at "s"
  obtain ⟨w,ew,hw0,hw1⟩:=Qk (m / 1800 % 6) (by omega) (by omega)
  refine aN (SqL.of h2) ew ?_
  walk_at "s"
  refine ⟨k,rfl,by omega,by omega,?_⟩
  refine p7 (lo:=0) (n:=k) (fun i U H'=>∃ (z:Str) (j f:Int) (x:Option V),H'=H2/\(∀ c∈z.cps.toList,97<=c/\c < 123)/\z.length=i/\U=[some (.int n),some (.int 24),some (.int j),some (.int k),some (.int w),some (.int f),some (.str z),x]) ⟨_,_,_,_,rfl,Pln.nil.2,by trivial,rfl⟩ ?_ ?_
  ·rintro i U H' hi ⟨z,j,f,x,rfl,hR,hl,rfl⟩
   have s1000:1000<=sizeLine:=by decide
   walk_at "s"
   refine ⟨_,rfl,fun c hc1 hc2=>?_⟩
   walk_at "s"
   refine yw (by rw [Tq];omega) ?_
   walk_at "s"
   refine ⟨_,_,_,_,rfl,Pln.push hR hc1 hc2,?_,rfl⟩
   have:=wk z ⟨#[c]⟩
   show (z ++ (⟨#[c]⟩:Str)).cps.size=i+1
   rw [this,show z.cps.size=z.length from rfl,hl];rfl
  ·rintro U H' ⟨z,j,f,x,rfl,hR,hl,rfl⟩
   walk_at "s"
   exact q z H' S2 ⟨by omega,hR⟩
end
local macro_rules | `(tactic| walk_at "s") => `(tactic| (with_reducible repeat (first | refine jk ?_ | walk_at "5")))
local macro_rules | `(tactic| walk_at "n") => `(tactic| (with_reducible repeat (walk_at "5")))
section
variable {P:Program} {w:World} {K:W.Frag} {mg:Str->Option Value} {base:Heap}
theorem Ql (a b:Nat):decide (V.str ⟨#[a]⟩=V.str ⟨#[b]⟩)=decide (a=b):=by
 refine decide_eq_decide.mpr ⟨fun h=>?_,fun h=>by rw [h]⟩
 have:=Str.mk.inj (V.str.inj h)
 simpa using this
theorem Gd {g g':Nat->Nat->Bool} {b b' m n:Nat} (h:∀ i k,i < m->k < n->g i (b+k)=g' i (b'+k)):∀ i,i<=m->∀ k,k<=n->dd g b i k=dd g' b' i k
 | 0,_,k,_=>by rw [Bm,Bm]
 | i+1,hi,0,_=>by rw [Dw,Dw]
 | i+1,hi,k+1,hk=>by
  rw [Bo,Bo,Gd h i (by omega) (k+1) hk,Gd h (i+1) hi k (by omega),Gd h i (by omega) k (by omega),h i k (by omega) (by omega)]
def zb (side z:Str) (i n:Nat):List Int:=(List.range n).map fun k=>((dd (uD side z) 0 i k:Nat):Int)
theorem Qm (side z:Str) (i n:Nat):(zb side z i n).length=n:=by unfold zb;simp
theorem zc {side z:Str} {i n k:Nat} (h:k < n):((zb side z i n).map V.int)[k]?=some (.int ((dd (uD side z) 0 i k:Nat):Int)):=by
 unfold zb;rw [XX,XX,Yt h];rfl
theorem LQ (side z:Str) (i n:Nat):(zb side z i n).map V.int ++ [.int ((dd (uD side z) 0 i n:Nat):Int)]=(zb side z i (n+1)).map V.int:=by
 unfold zb;rw [YJ,Yk,Yk];rfl
def Va:Sp:=fun vs H Q _=>∃ (side z:Str),vs=[.str side,.str z]/\side.length<=24/\z.length<=24/\∀ q H',H q=none->Same H H'->H' q=some (.lst ((zb side z side.cps.size (z.cps.size+1)).map V.int))->Q (.ref q) H'
theorem jg:aG ["_law_side","_law_top","_law_row_here","_law_sign","_law_below","_law_j"] ["_law_side","_law_top"] (au qQ):=⟨rfl,rfl,rfl,by trivial,rfl,by trivial,by trivial⟩
theorem rm (T:Txt K mg):nF P w K mg base 1 "_law_last" ["_law_side","_law_top"] Va:=by
 refine gY T.d_law_last jg (fun _ _ _ _ _ _ us hl=>L2.my (fun _ _=>rfl) us hl) ?_ fun f cdv A outer s H vs Q E hr h=>?_
 ·rintro vs H Q E ⟨side,z,rfl,_⟩;rfl
 obtain ⟨side,z,rfl,l1,l2,q⟩:=h
 have hu:=hr.units0
 have hu64:=hr.units
 refine ⟨_,(az (aK (i:=2) jg.nd rfl fW (CZ rfl aM T.b_list aM T.b_range (aa (aV aP (aB (aF (K:=K) rfl) aM T.b_len aO (aa (aq 1) ao) (by trivial) (by trivial)) aC) ao)) rfl) (az (fH Yx rfl (lq (K:=K) rfl (aq 0)) (bj (i:=3) jg.nd rfl fW rfl) (az (aK (i:=4) jg.nd rfl fW (gW (aa (aV aP (c7 (K:=K) rfl (aq 2) aC) aC) ao)) rfl) (az (fH Yx rfl (bJ aM T.b_range (aa (aB (aF (K:=K) rfl) aM T.b_len aO (aa (aq 1) ao) (by trivial) (by trivial)) ao)) (bj (i:=5) jg.nd rfl fW rfl) (aA (bu (gm (K:=K) rfl Yh Yo Yp dm (aq 4) (aa (aB (jc rfl (pC hu64)) aM T.b_min o7 (aa (aV aP (c7 (K:=K) rfl (aq 2) (aq 5)) (vI Gr aM T.b_int Cp (aa (oO (qJ (K:=K) rfl hu64) (aq 3) (c7 (K:=K) rfl (aq 1) (aq 5)) (by walk_at "p")) ao) (by trivial) (by trivial))) (aa (aV aP (c7 (K:=K) rfl (aq 2) (aV aP (aq 5) aC)) aC) (aa (aV aP (c7 (K:=K) rfl (aq 4) (aq 5)) aC) ao))) (by trivial) (by trivial)) ao))))) (aA (aK (i:=2) jg.nd rfl fW (aq 4) rfl))))) (aA (aH (aq 2))))),?_⟩
 walk_at "s"
 have hs:20000<=sizeLine:=by decide
 have e1:side.length=side.cps.size:=rfl
 have e2:z.length=z.cps.size:=rfl
 refine dh (by omega) ?_
 walk_at "s"
 refine ⟨z.cps.size+1,by rw [e2];congr 2,by omega,fun r nr=>?_⟩
 have er:((List.range (z.cps.size+1)).map fun i:Nat=>V.int (0+(i:Int)*1))=(zb side z 0 (z.cps.size+1)).map V.int:=by
  unfold zb
  rw [ZJ]
  refine Zx fun p _=>?_
  show V.int (0+(p:Int)*1)=V.int ((dd (uD side z) 0 0 p:Nat):Int)
  rw [Bm];congr 1;omega
 rw [er]
 have S1:=(Same.refl H).upd nr (o:=.lst ((zb side z 0 (z.cps.size+1)).map V.int))
 have hr1:=aj (H:=H) (a:=r) (o:=.lst ((zb side z 0 (z.cps.size+1)).map V.int))
 generalize upd H r (.lst ((zb side z 0 (z.cps.size+1)).map V.int))=H1 at S1 hr1 ⊢
 walk_at "s"
 refine .inr (.inr ⟨side,rfl,?_⟩)
 refine Ep (fun i U G=>Same H G/\(∃ r,H r=none/\G r=some (.lst ((zb side z i (z.cps.size+1)).map V.int))/\∃ x3 x4 x5,U=[some (.str side),some (.str z),some (.ref r),x3,x4,x5])) ⟨S1,r,nr,hr1,_,_,_,rfl⟩ ?_ ?_
 ·rintro i U G d hd ⟨sG,r,nr,hrG,x3,x4,x5,rfl⟩
  have hi:i < side.cps.size:=by simpa using (XM.mp hd).1
  have hds:side.cps.getD i 0=d:=by
   rw [Y8,← ZQ,hd];rfl
  walk_at "s"
  refine aN (SqL.of hrG) (bh (j:=0) (zc (by omega))) ?_
  walk_at "s"
  refine dJ rfl fun b G2 nb T2 hb=>?_
  walk_at "s"
  replace hb:G2 b=some (.lst ((zb side z (i+1) 1).map V.int)):=by
   rw [hb];unfold zb;simp [Dw]
  refine dh (by omega) ?_
  walk_at "s"
  refine ⟨_,rfl,by omega,by omega,?_⟩
  rw [show ((z.length:Nat):Int).toNat=z.cps.size by omega]
  refine p7 (n:=z.cps.size) (fun k U L=>Same G L/\L b=some (.lst ((zb side z (i+1) (k+1)).map V.int))/\∃ x5,U=[some (.str side),some (.str z),some (.ref r),some (.str ⟨#[d]⟩),some (.ref b),x5]) ⟨T2,hb,_,rfl⟩ ?_ ?_
  ·rintro k U L hk ⟨sL,hbL,z8,rfl⟩
   rw [Int.zero_add]
   have hzk:z.cps.toList[k]?=some (z.cps.getD k 0):=by
    rw [Y8,← ZQ,XR (by simpa using hk)];rfl
   have hrL:=sL _ _ hrG
   walk_at "s"
   refine ⟨.inl ⟨rfl,_,SqL.of hbL⟩,?_⟩
   walk_at "s"
   refine aN (SqL.of hrL) (bh (zc (by omega))) ?_
   walk_at "s"
   refine QQ (by omega) (bh hzk) ?_
   walk_at "s"
   have hch:(!decide (V.str ⟨#[d]⟩=V.str ⟨#[z.cps.getD k 0]⟩))=!uD side z i k:=by
    rw [Ql,← hds];rfl
   rw [hch]
   refine .inr ⟨_,rfl,?_⟩
   walk_at "s"
   refine aN (SqL.of hrL) (yu (by omega) (by rw [show ((k:Int)+1).toNat=k+1 by omega];exact zc (by omega))) ?_
   walk_at "s"
   refine aN (SqL.of hbL) (bh (zc (by omega))) ?_
   walk_at "s"
   intro M hM m1 m2 m3
   walk_at "s"
   have eM:M=((dd (uD side z) 0 (i+1) (k+1):Nat):Int):=by
    rw [Bo,Aao]
    cases hb:uD side z i k with
    | true=>
     rw [hb,if_neg (by decide)] at hM m1
     rw [if_pos rfl];omega
    | false=>
     rw [hb,if_pos (show (!false)=true from rfl)] at hM m1
     rw [if_neg (by decide)];omega
   rw [eM]
   refine di hbL (by rw [X8,Qm];omega) ?_
   walk_at "s"
   rw [LQ]
   exact ⟨Same.put sL nb,aj,_,rfl⟩
  ·rintro U L ⟨sL,hbL,z8,rfl⟩
   walk_at "s"
   exact ⟨sG.trans sL,b,Same.back sG nb,hbL,_,_,_,rfl⟩
 ·rintro U G ⟨sG,r,nr,hrG,x3,x4,x5,rfl⟩
  walk_at "s"
  exact q r G nr sG hrG
end
local macro_rules | `(tactic| walk_at "s") => `(tactic| (with_reducible repeat (first | refine jk ?_ | walk_at "3")))
local macro_rules | `(tactic| walk_at "n") => `(tactic| (with_reducible repeat (walk_at "3")))
section
variable {P:Program} {w:World} {K:W.Frag} {mg:Str->Option Value} {base:Heap}
theorem ur:(["_law_k","_law_found","_law_due"]:List Str).Nodup:=by trivial
theorem zf:(["_law_k","_law_found","_law_due"]:List Str).Nodup:=by trivial
def Xi:Sp:=fun vs H Q _=>∃ n:Int,vs=[.int n,.int n]/\Q (.bl true) H
theorem wQ:aG ["_law_found","_law_due"] ["_law_found","_law_due"] (au oh):=⟨rfl,rfl,rfl,by trivial,rfl,by trivial,by trivial⟩
theorem bG (T:Txt K mg):nF P w K mg base 1 "_law_number" ["_law_found","_law_due"] Xi:=by
 refine gY T.d_law_number wQ (fun _ _ _ _ _ _ us hl=>L2.my (fun _ _=>rfl) us hl) ?_ fun f cdv A outer s H vs Q E hr h=>?_
 ·rintro vs H Q E ⟨n,rfl,_⟩;rfl
 obtain ⟨n,rfl,q⟩:=h
 have hu:=hr.units0
 have hu64:=hr.units
 refine ⟨_,(aA (aH (jb (aB (fP (K:=K) rfl) aM T.b_isinstance aQ (aa (aq 0) (aa (ph aM T.b_int Cp (by trivial) (by trivial)) ao)) (by trivial) (by trivial)) (jb (Em (aB (fP (K:=K) rfl) aM T.b_isinstance aQ (aa (aq 0) (aa (ph aM T.b_bool El (by trivial) (by trivial)) ao)) (by trivial) (by trivial))) (lW (oO (mC (K:=K) rfl hu64) (aq 0) (aq 1) (by walk_at "p"))))))),?_⟩
 walk_at "s"
 refine jT (.int _) (b:=true) (by rfl) ?_
 walk_at "s"
 refine jT (.int _) (b:=false) (by rfl) ?_
 walk_at "s"
 rw [Yj rfl]
 exact q
def LT (H:Hp) (a:Addr) (xs:List V):Prop:=H a=some (.lst xs)\/H a=some (.tup xs)
theorem LT.same {H H':Hp} {a:Addr} {xs:List V} (h:LT H a xs) (s:Same H H'):LT H' a xs:=h.imp (s _ _) (s _ _)
theorem zg {H:Hp} {Q:VK} {a:Addr} {xs:List V} (h:LT H a xs) (q:Q (.int (xs.length:Int)) H):Ck K [.ref a] H Q:=by
 rcases h with h | h
 ·exact fu (SqL.of h) q
 ·exact sY (SqT.of h) q
theorem LR {H:Hp} {Q:VK} {a:Addr} {xs:List V} {i:Int} {v:V} (h:LT H a xs) (e:uU xs i=some v) (q:Q v H):QG K (.ref a) (.int i) H Q:=by
 rcases h with h | h
 ·exact aN (SqL.of h) e q
 ·exact dq (SqT.of h) e q
theorem Ma {n:Nat}:(List.range n).map (fun _=>V.bl true)=(List.replicate n true).map V.bl:=by
 rw [List.map_replicate]
 refine List.ext_getElem? fun i=>?_
 by_cases h:i < n
 ·rw [XX,Yt h,List.getElem?_replicate,if_pos h];rfl
 ·rw [ZR (by simp;omega),ZR (by simp;omega)]
theorem Mf {ns:List Int} {k:Nat} (h:k < ns.length):uU (ns.map V.int) (k:Int)=some (.int (ns.getD k 0)):=bh (by
 rw [XX,X6,XR h];rfl)
def Vb (K:W.Frag):Sp:=fun vs H Q _=>∃ (a b:Addr) (ns:List Int),vs=[.ref a,.ref b]/\LT H a (ns.map V.int)/\LT H b (ns.map V.int)/\ns.length<=100/\∀ H',Same H H'->Q (.bl true) H'
theorem ww:aG ["_law_found","_law_due"] ["_law_found","_law_due"] (au jQ):=⟨rfl,rfl,rfl,by trivial,rfl,by trivial,by trivial⟩
theorem dg (T:Txt K mg):nF P w K mg base 2 "_law_numbers" ["_law_found","_law_due"] (Vb K):=by
 have bG:=bG (P:=P) (w:=w) (base:=base) T
 refine gY T.d_law_numbers ww (fun _ _ _ _ _ _ us hl=>L2.my (fun _ _=>rfl) us hl) ?_ fun f cdv A outer s H vs Q E hr h=>?_
 ·rintro vs H Q E ⟨a,b,ns,rfl,_⟩;rfl
 obtain ⟨a,b,ns,rfl,ha,hb,hn,q⟩:=h
 have hu:=hr.units0
 have hu64:=hr.units
 refine ⟨_,(az (dG (j7 (jU (cL (cM (aB (kO (K:=K) rfl) aM T.b_isinstance aQ (aa (aX 0) (aa (jy (aa (ph aM T.b_list j8 (by trivial) (by trivial)) (aa (ph aM T.b_tuple o8 (by trivial) (by trivial)) ao))) ao)) (by trivial) (by trivial)))) (iV (fZ (qJ (K:=K) rfl hu64) (aB (aF (K:=K) rfl) aM T.b_len aO (aa (aX 0) ao) (by trivial) (by trivial)) (aB (aF (K:=K) rfl) aM T.b_len aO (aa (aX 1) ao) (by trivial) (by trivial)) (by walk_at "p"))))) (aA (aH ji)) cX) (aA (aH (aB (o6 rfl) aM T.b_all vG (aa (gJ (sub:=[none,some 0,some 1]) (cY (N:=["_law_found","_law_due"]) (sc:=au jQ) (N':=["_law_k","_law_found","_law_due"]) (by trivial)) rfl rfl rfl (bJ aM T.b_range (aa (aB (aF (K:=K) rfl) aM T.b_len aO (aa (aX 1) ao) (by trivial) (by trivial)) ao)) (fun C s₀ H₀ ex=>(mW 0 (by trivial) ur)) (fun C s₀ H₀ ex=>dI) (fun C s₀ H₀ ex=>(aJ bG (hr.mono (by decide)) (Ej (by trivial)) (aa (c7 (K:=K) rfl (fQ 1 (by trivial)) (dF 0 (by trivial))) (aa (c7 (K:=K) rfl (fQ 2 (by trivial)) (dF 0 (by trivial))) ao)) (by trivial)))) ao) (by trivial) (by trivial))))),?_⟩
 walk_at "s"
 have hz:20000<=sizeLine:=by decide
 refine dJ rfl fun t H1 nt S1 ht=>?_
 walk_at "s"
 have ha1:=ha.same S1
 have hb1:=hb.same S1
 have isi:∀ {Q':VK},Q' (.bl true) H1->EY K [.ref a,.ref t] H1 Q':=fun {Q'} q'=>by
  rcases ha1 with h | h
  ·exact rO (.lst h) ht rfl (b:=true) (by rfl) q'
  ·exact rO (.tup h) ht rfl (b:=true) (by rfl) q'
 refine isi ?_
 walk_at "s"
 refine zg ha1 ?_
 walk_at "s"
 refine zg hb1 ?_
 walk_at "s"
 rw [show (!decide (V.int ((ns.map V.int).length:Int)=V.int ((ns.map V.int).length:Int)))=false by simp]
 walk_at "s"
 refine zg hb1 ?_
 walk_at "s"
 rw [X8]
 refine ⟨_,rfl,by omega,by omega,?_⟩
 rw [show ((ns.length:Nat):Int).toNat=ns.length by omega]
 refine mZ (n:=ns.length) (fun i=>.bl true) (by omega) ?_ ?_
 ·intro i hi
  walk_at "s"
  refine ⟨KeepSt.set rfl,?_⟩
  walk_at "s"
  rw [show (0:Int)+(i:Int)=(i:Int) by omega]
  refine LR ha1 (Mf hi) ?_
  walk_at "s"
  refine LR hb1 (Mf hi) ?_
  walk_at "s"
  refine ⟨_,rfl,?_⟩
  walk_at "s"
  exact ⟨rfl,nP rfl⟩
 ·intro D H2 nD S2 hD
  try walk_at "s"
  rw [Ma] at hD
  refine ⟨D,_,rfl,hD,?_⟩
  rw [show (List.replicate ns.length true).all id=true by simp]
  exact q _ (S1.trans S2)
def Xj (K:W.Frag):Sp:=fun vs H Q _=>∃ (a b:Addr) (rs ds:List V) (n:Nat) (f:Nat->List Int),vs=[.ref a,.ref b]/\H a=some (.lst rs)/\H b=some (.lst ds)/\CT H rs n f/\CT H ds n f/\n<=100/\(∀ k,(f k).length<=100)/\∀ H',Same H H'->Q (.bl true) H'
theorem Dy:aG ["_law_found","_law_due"] ["_law_found","_law_due"] (au qi):=⟨rfl,rfl,rfl,by trivial,rfl,by trivial,by trivial⟩
theorem jN (T:Txt K mg):nF P w K mg base 3 "_law_all" ["_law_found","_law_due"] (Xj K):=by
 have dg:=dg (P:=P) (w:=w) (base:=base) T
 refine gY T.d_law_all Dy (fun _ _ _ _ _ _ us hl=>L2.my (fun _ _=>rfl) us hl) ?_ fun f cdv A outer s H vs Q E hr h=>?_
 ·rintro vs H Q E ⟨a,b,rs,ds,n,f',rfl,_⟩;rfl
 obtain ⟨a,b,rs,ds,n,f',rfl,ha,hb,ca,cb,hn,hf,q⟩:=h
 have hu:=hr.units0
 have hu64:=hr.units
 refine ⟨_,(az (dG (j7 (jU (cL (cM (aB (fP (K:=K) rfl) aM T.b_isinstance aQ (aa (aX 0) (aa (ph aM T.b_list j8 (by trivial) (by trivial)) ao)) (by trivial) (by trivial)))) (iV (fZ (qJ (K:=K) rfl hu64) (aB (aF (K:=K) rfl) aM T.b_len aO (aa (aX 0) ao) (by trivial) (by trivial)) (aB (aF (K:=K) rfl) aM T.b_len aO (aa (aX 1) ao) (by trivial) (by trivial)) (by walk_at "p"))))) (aA (aH ji)) cX) (aA (aH (aB (o6 rfl) aM T.b_all vG (aa (gJ (sub:=[none,some 0,some 1]) (cY (N:=["_law_found","_law_due"]) (sc:=au qi) (N':=["_law_k","_law_found","_law_due"]) (by trivial)) rfl rfl rfl (bJ aM T.b_range (aa (aB (aF (K:=K) rfl) aM T.b_len aO (aa (aX 1) ao) (by trivial) (by trivial)) ao)) (fun C s₀ H₀ ex=>(mW 0 (by trivial) zf)) (fun C s₀ H₀ ex=>dI) (fun C s₀ H₀ ex=>(jb (aB (fP (K:=K) rfl) (Ej (by trivial)) T.b_isinstance aQ (aa (c7 (K:=K) rfl (fQ 1 (by trivial)) (dF 0 (by trivial))) (aa (ph (Ej (by trivial)) T.b_list j8 (by trivial) (by trivial)) ao)) (by trivial) (by trivial)) (lW (aJ dg (hr.mono (by decide)) (Ej (by trivial)) (aa (c7 (K:=K) rfl (fQ 1 (by trivial)) (dF 0 (by trivial))) (aa (c7 (K:=K) rfl (fQ 2 (by trivial)) (dF 0 (by trivial))) ao)) (by trivial)))))) ao) (by trivial) (by trivial))))),?_⟩
 walk_at "s"
 have hz:20000<=sizeLine:=by decide
 refine jT (.lst ha) (b:=true) (by rfl) ?_
 walk_at "s"
 refine fu (SqL.of ha) ?_
 walk_at "s"
 refine fu (SqL.of hb) ?_
 walk_at "s"
 rw [ca.1,cb.1,show (!decide (V.int (n:Int)=V.int (n:Int)))=false by simp]
 walk_at "s"
 refine fu (SqL.of hb) ?_
 walk_at "s"
 rw [cb.1]
 refine ⟨_,rfl,by omega,by omega,?_⟩
 rw [show ((n:Nat):Int).toNat=n by omega]
 refine f9 (fun i zs G=>Same H G/\zs=(List.range i).map fun _=>V.bl true) (by omega) ⟨Same.refl H,rfl⟩ ?_ ?_ ?_
 ·rintro i zs G ⟨_,rfl⟩
  simp
 ·rintro i zs G hi ⟨s,rfl⟩
  obtain ⟨u,eu,hu'⟩:=ca.2 i hi
  obtain ⟨v,ev,hv⟩:=cb.2 i hi
  walk_at "s"
  refine ⟨KeepSt.set rfl,?_⟩
  walk_at "s"
  rw [show (0:Int)+(i:Int)=(i:Int) by omega]
  refine aN (SqL.of (s _ _ ha)) (bh eu) ?_
  walk_at "s"
  refine jT (.lst (s _ _ hu')) (b:=true) (by rfl) ?_
  walk_at "s"
  refine aN (SqL.of (s _ _ ha)) (bh eu) ?_
  walk_at "s"
  refine aN (SqL.of (s _ _ hb)) (bh ev) ?_
  walk_at "s"
  refine ⟨u,v,f' i,rfl,.inl (s _ _ hu'),.inl (s _ _ hv),hf i,fun G2 s2=>?_⟩
  walk_at "s"
  exact ⟨s.trans s2,by rw [YJ,Yk];rfl⟩
 ·rintro zs G D H' ⟨s,rfl⟩ nD S hD
  try walk_at "s"
  rw [Ma] at hD
  refine ⟨D,_,rfl,hD,?_⟩
  rw [show (List.replicate n true).all id=true by simp]
  exact q _ (s.trans S)
end
local macro_rules | `(tactic| walk_at "s") => `(tactic| (with_reducible repeat (first | refine jk ?_ | walk_at "5")))
local macro_rules | `(tactic| walk_at "n") => `(tactic| (with_reducible repeat (walk_at "5")))
section
variable {P:Program} {w:World} {K:W.Frag} {mg:Str->Option Value} {base:Heap}
theorem sE:(["begin","self","end"]:List Str).Nodup:=by trivial
theorem uR:(["end","self"]:List Str).Nodup:=by trivial
theorem oU:(["end","least"]:List Str).Nodup:=by trivial
theorem Qn:∀ {xs ys:List V},SameK xs ys->uK xs ys=false->uK ys xs=false->xs=ys:=fun h=>by
 induction h with
 | nil=>intro _ _;rfl
 | @int a b xs ys _ ih=>
  intro h1 h2
  simp only [uK] at h1 h2
  by_cases e:a=b
  ·subst e
   rw [if_pos rfl] at h1 h2
   rw [ih h1 h2]
  ·rw [if_neg (fun z=>e (V.int.inj z))] at h1
   rw [if_neg (fun z=>e (V.int.inj z).symm)] at h2
   simp only [ltV,Y4] at h1 h2
   omega
 | @str a b xs ys _ ih=>
  intro h1 h2
  simp only [uK] at h1 h2
  by_cases e:a=b
  ·subst e
   rw [if_pos rfl] at h1 h2
   rw [ih h1 h2]
  ·rw [if_neg (fun z=>e (V.str.inj z))] at h1
   rw [if_neg (fun z=>e (V.str.inj z).symm)] at h2
   simp only [ltV,Y4] at h1 h2
   exfalso
   refine e ?_
   have h3:b.cps.toList<=a.cps.toList:=h1
   have h4:a.cps.toList<=b.cps.toList:=h2
   have:=List.le_antisymm h4 h3
   cases a;cases b
   congr 1
   exact Array.toList_inj.mp this
def MinI (t:Nat->List V) (n i:Nat):Prop:=i < n/\∀ j,j < n->uK (t j) (t i)=false
theorem MinI.uni {t:Nat->List V} {n i j:Nat} (h1:MinI t n i) (h2:MinI t n j) (hs:∀ i j,SameK (t i) (t j)):t i=t j:=Qn (hs i j) (h2.2 i h1.1) (h1.2 j h2.1)
def D2 (side top:Str) (b k:Nat):Int:=((dd (uD side top) b side.cps.size k:Nat):Int)
def tE (side top:Str) (e b:Nat):List V:=[.int (D2 side top b (e - b)),.int (b:Int)]
theorem zj {side top:Str} {e:Nat} (i j:Nat):SameK (tE side top e i) (tE side top e j):=.int (.int .nil)
def eN (side top:Str) (e:Nat):Nat:=Classical.epsilon fun i=>MinI (tE side top e) (e+1) i
theorem Q6 {side top:Str} {e i:Nat} (h:MinI (tE side top e) (e+1) i):i=eN side top e/\MinI (tE side top e) (e+1) (eN side top e):=by
 have h2:MinI (tE side top e) (e+1) (eN side top e):=Classical.epsilon_spec (p:=fun i=>MinI (tE side top e) (e+1) i) ⟨i,h⟩
 refine ⟨?_,h2⟩
 have:=h.uni h2 zj
 unfold tE at this
 simp only [List.cons.injEq,V.int.injEq,and_true] at this
 omega
def tB (side top:Str) (e:Nat):List V:=[.int (D2 side top (eN side top e) (e - eN side top e)),.int (eN side top e:Int),.int (e:Int)]
theorem zm {side top:Str} (i j:Nat):SameK (tB side top i) (tB side top j):=.int (.int (.int .nil))
def bN (side top:Str) (n:Nat):Nat:=Classical.epsilon fun i=>MinI (tB side top) (n+1) i
theorem Q7 {side top:Str} {n i:Nat} (h:MinI (tB side top) (n+1) i):i=bN side top n/\MinI (tB side top) (n+1) (bN side top n):=by
 have h2:MinI (tB side top) (n+1) (bN side top n):=Classical.epsilon_spec (p:=fun i=>MinI (tB side top) (n+1) i) ⟨i,h⟩
 refine ⟨?_,h2⟩
 have:=h.uni h2 zm
 unfold tB at this
 simp only [List.cons.injEq,V.int.injEq,and_true] at this
 omega
def TL (H:Hp) (q:Addr) (n:Nat) (t:Nat->List V):Prop:=∃ as:List Addr,H q=some (.lst (as.map V.ref))/\as.length=n/\∀ i a,as[i]?=some a->H a=some (.tup (t i))
theorem TL.same {H H':Hp} {q:Addr} {n:Nat} {t:Nat->List V} (h:TL H q n t) (s:Same H H'):TL H' q n t:=by
 obtain ⟨as,a,b,c⟩:=h
 exact ⟨as,s _ _ a,b,fun i x e=>s _ _ (c i x e)⟩
theorem vf {H:Hp} {Q:VK} {q:Addr} {n:Nat} {t:Nat->List V} (h:TL H q n t) (h0:0 < n) (hs:∀ i j,SameK (t i) (t j)) (k:∀ i a,MinI t n i->H a=some (.tup (t i))->Q (.ref a) H):xU K [.ref q] H Q:=by
 obtain ⟨as,a,b,c⟩:=h
 refine O8 (ks:=t) a (fun z=>by rw [z] at b;simp at b;omega) c (fun i j _ _=>hs i j) fun i x e hm=>k i x ⟨?_,fun j hj=>hm j (by omega)⟩ (c i x e)
 have:=(XM.mp e).1
 omega
def Qo (mg:Str->Option Value):Sp:=fun vs H Q _=>∃ (x:Addr) (side top:Str),vs=[.ref x]/\Cs mg H x side top/\Q (.str side) H
theorem wR:aG ["self"] ["self"] (au ou):=⟨rfl,rfl,rfl,by trivial,rfl,by trivial,by trivial⟩
theorem oM (T:Txt K mg):j9 P w K mg base 1 "Costs" "side" ["self"] (Qo mg):=by
 refine oZ T.m_Costs_side wR (fun _ _ _ _ _ _ us hl=>L2.oW (fun _=>rfl) us hl) ?_ fun f cdv A outer s H vs Q E hr h=>?_
 ·rintro vs H Q E ⟨x,side,top,rfl,_⟩;rfl
 obtain ⟨x,side,top,rfl,⟨ps,pt,dx,ak,hx,hA⟩,q⟩:=h
 have hu:=hr.units0
 have hu64:=hr.units
 refine ⟨_,(aA (aH (jV (K:=K) rfl (aq 0)))),?_⟩
 walk_at "s"
 refine ⟨x,_,dx,_,_,rfl,hx,T.o_Costs.cl,T.n_Costs _ (by simp),rfl,?_⟩
 walk_at "s"
 exact q
def Vc (mg:Str->Option Value):Sp:=fun vs H Q _=>∃ (x:Addr) (side top:Str),vs=[.ref x]/\Cs mg H x side top/\Q (.str top) H
theorem zp:aG ["self"] ["self"] (au pM):=⟨rfl,rfl,rfl,by trivial,rfl,by trivial,by trivial⟩
theorem pW (T:Txt K mg):j9 P w K mg base 1 "Costs" "top" ["self"] (Vc mg):=by
 refine oZ T.m_Costs_top zp (fun _ _ _ _ _ _ us hl=>L2.oW (fun _=>rfl) us hl) ?_ fun f cdv A outer s H vs Q E hr h=>?_
 ·rintro vs H Q E ⟨x,side,top,rfl,_⟩;rfl
 obtain ⟨x,side,top,rfl,⟨ps,pt,dx,ak,hx,hA⟩,q⟩:=h
 have hu:=hr.units0
 have hu64:=hr.units
 refine ⟨_,(aA (aH (jV (K:=K) rfl (aq 0)))),?_⟩
 walk_at "s"
 refine ⟨x,_,dx,_,_,rfl,hx,T.o_Costs.cl,T.n_Costs _ (by simp),rfl,?_⟩
 walk_at "s"
 exact q
def spOf (K:W.Frag) (mg:Str->Option Value):Sp:=fun vs H Q E=>∃ (x:Addr) (side top:Str) (v u:V),vs=[.ref x,v,u]/\Cs mg H x side top/\Kd K H v/\Kd K H u/\(yU v u (top.cps.size:Int)=false->Xa mg H E v u)/\(∀ b k:Nat,v= .int (b:Int)->u= .int ((b+k:Nat):Int)->b+k<=top.cps.size->Q (.int (D2 side top b k)) H)
theorem Bp:aG ["self","begin","end"] ["self","begin","end"] (au qU):=⟨rfl,rfl,rfl,by trivial,rfl,by trivial,by trivial⟩
theorem gq (T:Txt K mg):j9 P w K mg base 9 "Costs" "of" ["self","begin","end"] (spOf K mg):=by
 have jf:=jf (P:=P) (w:=w) (base:=base) T
 have aW:=aW (P:=P) (w:=w) (base:=base) T
 refine oZ T.m_Costs_of Bp (fun _ _ _ _ _ _ us hl=>L2.oX (fun _ _ _=>rfl) us hl) ?_ fun f cdv A outer s H vs Q E hr h=>?_
 ·rintro vs H Q E ⟨x,side,top,v,u,rfl,_⟩;rfl
 obtain ⟨x,side,top,v,u,rfl,hC,kv,ku,q1,q2⟩:=h
 have hu:=hr.units0
 have hu64:=hr.units
 refine ⟨_,(az (bu (jm jf (hr.mono (by decide)) aM dj (aa (aq 1) (aa (aq 2) (aa (aB (aF (K:=K) rfl) aM T.b_len aO (aa (jV (K:=K) rfl (aq 0)) ao) (by trivial) (by trivial)) ao))) (by trivial))) (aA (aH (nO (aq 0) T.o_Costs aW (hr.mono (by decide)) dj (aa (aq 1) (aa (aq 2) ao)))))),?_⟩
 walk_at "s"
 have hz:20000<=sizeLine:=by decide
 obtain ⟨ps,pt,dx,ak,hx,_⟩:=id hC
 have l2:=pt.1
 have e2:top.length=top.cps.size:=rfl
 refine ⟨x,_,dx,_,_,rfl,hx,T.o_Costs.cl,T.n_Costs _ (by simp),rfl,?_⟩
 walk_at "s"
 refine dh (by omega) ?_
 walk_at "s"
 refine ⟨v,u,_,rfl,kv,ku,fun hb=>?_,fun hb=>q1 hb⟩
 walk_at "s"
 obtain ⟨b,k,rfl,rfl,hk⟩:∃ b k:Nat,v= .int (b:Int)/\u= .int ((b+k:Nat):Int)/\b+k<=top.cps.size:=by
  unfold yU at hb
  cases v with
  | int i=>
   cases u with
   | int j=>
    unfold inB at hb
    simp only [Yg,Aab] at hb
    exact ⟨i.toNat,(j - i).toNat,by congr 1;omega,by congr 1;omega,by omega⟩
   | _=>simp [inB] at hb
  | _=>simp [inB] at hb
 refine ⟨x,dx,_,rfl,hx,zy (by trivial),?_⟩
 walk_at "s"
 refine ⟨x,side,top,b,k,rfl,hC,hk,?_⟩
 walk_at "s"
 exact q2 b k rfl rfl hk
def Qp (mg:Str->Option Value):Sp:=fun vs H Q _=>∃ (x:Addr) (side top:Str) (e:Nat),vs=[.ref x,.int (e:Int)]/\Cs mg H x side top/\e<=top.cps.size/\∀ a H',Same H H'->MinI (tE side top e) (e+1) (eN side top e)->H' a=some (.tup (tE side top e (eN side top e)))->Q (.ref a) H'
theorem uT:aG ["self","end"] ["self","end"] (au jr):=⟨rfl,rfl,rfl,by trivial,rfl,by trivial,by trivial⟩
theorem lN (T:Txt K mg):j9 P w K mg base 9 "Costs" "end_of" ["self","end"] (Qp mg):=by
 have aW:=aW (P:=P) (w:=w) (base:=base) T
 refine oZ T.m_Costs_end_of uT (fun _ _ _ _ _ _ us hl=>L2.my (fun _ _=>rfl) us hl) ?_ fun f cdv A outer s H vs Q E hr h=>?_
 ·rintro vs H Q E ⟨x,side,top,e,rfl,_⟩;rfl
 obtain ⟨x,side,top,e,rfl,hC,he,q⟩:=h
 have hu:=hr.units0
 have hu64:=hr.units
 refine ⟨_,(aA (aH (aB (jc rfl (pC hu64)) aM T.b_min o7 (aa (gJ (sub:=[none,some 0,some 1]) (cY (N:=["self","end"]) (sc:=au jr) (N':=["begin","self","end"]) (by trivial)) rfl rfl rfl (bJ aM T.b_range (aa (aV aP (aX 1) aC) ao)) (fun C s₀ H₀ ex=>(mW 0 (by trivial) sE)) (fun C s₀ H₀ ex=>dI) (fun C s₀ H₀ ex=>(jy (aa (mY (mg:=mg) rfl (fQ 1 (by trivial)) T.o_Costs aW (hr.mono (by decide)) (gw fun _ _=>rfl) (aa (dF 0 (by trivial)) (aa (fQ 2 (by trivial)) ao))) (aa (dF 0 (by trivial)) ao))))) ao) (by trivial) (by trivial)))),?_⟩
 walk_at "s"
 have hz:20000<=sizeLine:=by decide
 obtain ⟨ps,pt,dx,ak,hx,_⟩:=id hC
 have l2:=pt.1
 have e2:top.length=top.cps.size:=rfl
 refine ⟨_,rfl,by omega,by omega,?_⟩
 rw [show ((e:Int)+1).toNat=e+1 by omega]
 refine f9 (fun i zs G=>Same H G/\∃ as:List Addr,zs=as.map V.ref/\as.length=i/\∀ k b,as[k]?=some b->G b=some (.tup (tE side top e k))) (by omega) ⟨Same.refl H,[],rfl,rfl,fun k b e=>by simp at e⟩ ?_ ?_ ?_
 ·rintro i zs G ⟨_,as,rfl,rfl,_⟩
  simp
 ·rintro i zs G hi ⟨s,as,rfl,hl,has⟩
  walk_at "s"
  refine ⟨KeepSt.set rfl,?_⟩
  walk_at "s"
  refine ⟨x,dx,_,rfl,s _ _ hx,zy (by trivial),?_⟩
  walk_at "s"
  rw [show (0:Int)+(i:Int)=(i:Int) by omega,show (e:Int)=((i+(e - i):Nat):Int) by omega]
  refine ⟨x,side,top,i,e - i,rfl,hC.same s,by omega,?_⟩
  walk_at "s"
  refine dJ rfl fun b G2 nb S2 hb=>?_
  walk_at "s"
  refine ⟨s.trans S2,as ++ [b],by simp,by simp [hl],fun k c e'=>?_⟩
  by_cases ek:k < as.length
  ·rw [Ye ek] at e'
   exact S2 _ _ (has k c e')
  ·have ek':k=as.length:=by
    have:=(XM.mp e').1
    simp at this;omega
   subst ek'
   rw [Yn (XQ _),Zm] at e'
   cases e'
   rw [hl]
   exact hb
 ·rintro zs G D H' ⟨s,as,rfl,hl,has⟩ nD S hD
  try walk_at "s"
  refine vf (n:=e+1) ⟨as,hD,hl,fun i a e=>S _ _ (has i a e)⟩ (by omega) zj fun i a hm ha=>?_
  obtain ⟨rfl,hm'⟩:=Q6 hm
  exact q a H' (s.trans S) hm' ha
def Xk (side top:Str) (e:Nat):List V:=tE side top e (eN side top e)
def Qq (mg:Str->Option Value):Sp:=fun vs H Q _=>∃ (x:Addr) (side top:Str),vs=[.ref x]/\Cs mg H x side top/\∀ q H',H q=none->Same H H'->TL H' q (top.cps.size+1) (Xk side top)->(∀ e,e<=top.cps.size->MinI (tE side top e) (e+1) (eN side top e))->Q (.ref q) H'
theorem wU:aG ["self"] ["self"] (au kj):=⟨rfl,rfl,rfl,by trivial,rfl,by trivial,by trivial⟩
theorem gr (T:Txt K mg):j9 P w K mg base 10 "Costs" "ends" ["self"] (Qq mg):=by
 have lN:=lN (P:=P) (w:=w) (base:=base) T
 refine oZ T.m_Costs_ends wU (fun _ _ _ _ _ _ us hl=>L2.oW (fun _=>rfl) us hl) ?_ fun f cdv A outer s H vs Q E hr h=>?_
 ·rintro vs H Q E ⟨x,side,top,rfl,_⟩;rfl
 obtain ⟨x,side,top,rfl,hC,q⟩:=h
 have hu:=hr.units0
 have hu64:=hr.units
 refine ⟨_,(aA (aH (gJ (sub:=[none,some 0]) (cY (N:=["self"]) (sc:=au kj) (N':=["end","self"]) (by trivial)) rfl rfl rfl (bJ aM T.b_range (aa (aV aP (aB (aF (K:=K) rfl) aM T.b_len aO (aa (jV (K:=K) rfl (aX 0)) ao) (by trivial) (by trivial)) aC) ao)) (fun C s₀ H₀ ex=>(mW 0 (by trivial) uR)) (fun C s₀ H₀ ex=>dI) (fun C s₀ H₀ ex=>(mY (mg:=mg) rfl (fQ 1 (by trivial)) T.o_Costs lN (hr.mono (by decide)) (gw fun _ _=>rfl) (aa (dF 0 (by trivial)) ao)))))),?_⟩
 walk_at "s"
 have hz:20000<=sizeLine:=by decide
 obtain ⟨ps,pt,dx,ak,hx,_⟩:=id hC
 have l2:=pt.1
 have e2:top.length=top.cps.size:=rfl
 refine ⟨x,_,dx,_,_,rfl,hx,T.o_Costs.cl,T.n_Costs _ (by simp),rfl,?_⟩
 walk_at "s"
 refine dh (by omega) ?_
 walk_at "s"
 refine ⟨_,rfl,by omega,by omega,?_⟩
 rw [show ((top.length:Int)+1).toNat=top.cps.size+1 by omega]
 refine f9 (fun i zs G=>Same H G/\(∀ e,e < i->MinI (tE side top e) (e+1) (eN side top e))/\∃ as:List Addr,zs=as.map V.ref/\as.length=i/\∀ k b,as[k]?=some b->G b=some (.tup (Xk side top k))) (by omega) ⟨Same.refl H,fun e h=>absurd h (Zz _),[],rfl,rfl,fun k b e=>by simp at e⟩ ?_ ?_ ?_
 ·rintro i zs G ⟨_,_,as,rfl,rfl,_⟩
  simp
 ·rintro i zs G hi ⟨s,hm,as,rfl,hl,has⟩
  walk_at "s"
  refine ⟨KeepSt.set rfl,?_⟩
  walk_at "s"
  refine ⟨x,dx,_,rfl,s _ _ hx,zy (by trivial),?_⟩
  walk_at "s"
  rw [show (0:Int)+(i:Int)=(i:Int) by omega]
  refine ⟨x,side,top,i,rfl,hC.same s,by omega,fun b G2 S2 hm2 hb=>?_⟩
  walk_at "s"
  refine ⟨s.trans S2,fun e he=>?_,as ++ [b],by simp,by simp [hl],fun k c e'=>?_⟩
  ·by_cases ee:e=i
   ·rw [ee];exact hm2
   ·exact hm e (by omega)
  ·by_cases ek:k < as.length
   ·rw [Ye ek] at e'
    exact S2 _ _ (has k c e')
   ·have ek':k=as.length:=by
     have:=(XM.mp e').1
     simp at this;omega
    subst ek'
    rw [Yn (XQ _),Zm] at e'
    cases e'
    rw [hl]
    exact hb
 ·rintro zs G D H' ⟨s,hm,as,rfl,hl,has⟩ nD S hD
  try walk_at "s"
  exact q D H' (Same.back s nD) (s.trans S) ⟨as,hD,hl,fun i a e=>S _ _ (has i a e)⟩ fun e he=>hm e (by omega)
def Qs (mg:Str->Option Value):Sp:=fun vs H Q _=>∃ (x:Addr) (side top:Str),vs=[.ref x]/\Cs mg H x side top/\∀ a H',Same H H'->(∀ e,e<=top.cps.size->MinI (tE side top e) (e+1) (eN side top e))->MinI (tB side top) (top.cps.size+1) (bN side top top.cps.size)->H' a=some (.tup (tB side top (bN side top top.cps.size)))->Q (.ref a) H'
theorem wV:aG ["self"] ["self"] (au km):=⟨rfl,rfl,rfl,by trivial,rfl,by trivial,by trivial⟩
theorem dM (T:Txt K mg):j9 P w K mg base 11 "Costs" "best" ["self"] (Qs mg):=by
 have gr:=gr (P:=P) (w:=w) (base:=base) T
 refine oZ T.m_Costs_best wV (fun _ _ _ _ _ _ us hl=>L2.oW (fun _=>rfl) us hl) ?_ fun f cdv A outer s H vs Q E hr h=>?_
 ·rintro vs H Q E ⟨x,side,top,rfl,_⟩;rfl
 obtain ⟨x,side,top,rfl,hC,q⟩:=h
 have hu:=hr.units0
 have hu64:=hr.units
 refine ⟨_,(aA (aH (aB (jc rfl (pC hu64)) aM T.b_min o7 (aa (gJ (sub:=[none,none]) (cY (N:=["self"]) (sc:=au km) (N':=["end","least"]) (by trivial)) rfl rfl rfl (lX (K:=K) rfl rfl aM T.b_enumerate (aa (gC (aq 0) T.o_Costs gr (hr.mono (by decide)) dj) ao)) (fun C s₀ H₀ ex=>(lu (K:=K) (n:=2) rfl rfl (bK (mW 0 (by trivial) oU) (bK (mW 1 (by trivial) oU) jl)))) (fun C s₀ H₀ ex=>dI) (fun C s₀ H₀ ex=>(jy (aa (c7 (K:=K) rfl (dF 1 (by trivial)) aC) (aa (c7 (K:=K) rfl (dF 1 (by trivial)) aC) (aa (dF 0 (by trivial)) ao)))))) ao) (by trivial) (by trivial)))),?_⟩
 walk_at "s"
 have hz:20000<=sizeLine:=by decide
 obtain ⟨ps,pt,dx,ak,hx,_⟩:=id hC
 have l2:=pt.1
 have e2:top.length=top.cps.size:=rfl
 refine ⟨x,dx,_,rfl,hx,zy (by trivial),?_⟩
 walk_at "s"
 refine ⟨x,side,top,rfl,hC,fun d H1 nd S1 hT hm=>?_⟩
 walk_at "s"
 obtain ⟨as,hd,hl,has⟩:=hT
 refine .inr ⟨d,_,rfl,SqL.of hd,?_⟩
 refine Df (xs:=as.map V.ref) (fun i ys G=>Same H1 G/\∃ bs:List Addr,ys=bs.map V.ref/\bs.length=i/\∀ k b,bs[k]?=some b->G b=some (.tup (tB side top k))) (by rw [X8,hl];omega) ⟨Same.refl H1,[],rfl,rfl,fun k b e=>by simp at e⟩ ?_ (fun i ys G h=>SqL.of (h.1 _ _ hd)) ?_ ?_
 ·rintro i ys G ⟨_,bs,rfl,rfl,_⟩
  simp
 ·rintro i ys G T' w hw ⟨sG,bs,rfl,hbl,hbs⟩ nT
  rw [XX] at hw
  obtain ⟨r,er,rfl⟩:=Z8.mp hw
  have hr:=sG _ _ (has i r er)
  have hT:=aj (H:=G) (a:=T') (o:=.tup [.int (i:Int),.ref r])
  have sT:Same G (upd G T' (.tup [.int (i:Int),.ref r])):=(Same.refl G).upd nT
  generalize upd G T' (.tup [.int (i:Int),.ref r])=G' at hT sT ⊢
  replace hr:=sT _ _ hr
  walk_at "s"
  refine bf (SqT.of hT) (by rfl) ?_
  walk_at "s"
  refine ⟨(KeepSt.set rfl).trans (KeepSt.set rfl),?_⟩
  walk_at "s"
  refine dJ rfl fun b G2 nb S2 hb=>?_
  refine ⟨sG.trans (sT.trans S2),bs ++ [b],by simp,by simp [hbl],fun k c e'=>?_⟩
  by_cases ek:k < bs.length
  ·rw [Ye ek] at e'
   exact S2 _ _ (sT _ _ (hbs k c e'))
  ·have ek':k=bs.length:=by
    have:=(XM.mp e').1
    simp at this;omega
   subst ek'
   rw [Yn (XQ _),Zm] at e'
   cases e'
   rw [hbl]
   exact hb
 ·rintro ys G D H2 ⟨sG,bs,rfl,hbl,hbs⟩ nD S2 hD
  try walk_at "s"
  rw [X8,hl] at hbl
  refine vf (n:=top.cps.size+1) ⟨bs,hD,hbl,fun i a e=>S2 _ _ (hbs i a e)⟩ (by omega) zm fun i a hmi ha=>?_
  obtain ⟨rfl,hm'⟩:=Q7 hmi
  exact q a H2 (S1.trans (sG.trans S2)) hm hm' ha
end
local macro_rules | `(tactic| walk_at "s") => `(tactic| (with_reducible repeat (first | refine jk ?_ | walk_at "6")))
local macro_rules | `(tactic| walk_at "n") => `(tactic| (with_reducible repeat (walk_at "6")))
section
variable {P:Program} {w:World} {K:W.Frag} {mg:Str->Option Value} {base:Heap}
theorem kz00:Q0 lY "e":=by trivial
def Tbl (H:Hp) (t:Addr) (side top:Str):Prop:=∃ rs,H t=some (.lst rs)/\CT H rs (top.cps.size+1) (dH side top)
theorem Tbl.same {H H':Hp} {t:Addr} {side top:Str} (h:Tbl H t side top) (s:Same H H'):Tbl H' t side top:=by
 obtain ⟨rs,a,b⟩:=h
 exact ⟨rs,s _ _ a,b.same s⟩
def Xl (K:W.Frag) (mg:Str->Option Value):Sp:=fun vs H Q _=>∃ (x t:Addr) (side top:Str) (a b:Int),vs=[.ref x,.ref t,.int a,.int b]/\Cs mg H x side top/\Tbl H t side top/\∀ H',Same H H'->Q (.bl true) H'
theorem jw:aG ["_law_costs","_law_table","_law_begin","_law_end","_law_due","_law_found","e"] ["_law_costs","_law_table","_law_begin","_law_end"] (au lY):=⟨rfl,rfl,rfl,by trivial,rfl,by trivial,by trivial⟩
theorem bI (T:Txt K mg):nF P w K mg base 10 "_law_asked" ["_law_costs","_law_table","_law_begin","_law_end"] (Xl K mg):=by
 have gq:=gq (P:=P) (w:=w) (base:=base) T
 have bG:=bG (P:=P) (w:=w) (base:=base) T
 refine gY T.d_law_asked jw (fun _ _ _ _ _ _ us hl=>L2.Ms (fun _ _ _ _=>rfl) us hl) ?_ fun f cdv A outer s H vs Q E hr h=>?_
 ·rintro vs H Q E ⟨x,t,side,top,a,b,rfl,_⟩;rfl
 obtain ⟨x,t,side,top,a,b,rfl,hC,hT,q⟩:=h
 have hu:=hr.units0
 have hu64:=hr.units
 refine ⟨_,(az (aK (i:=4) jw.nd rfl fW zX rfl) (az (dG (Hs DQ DQ IV aC (aq 2) (aq 3) (aB (aF (K:=K) rfl) aM T.b_len aO (aa (aq 1) ao) (by trivial) (by trivial))) (aA (aK (i:=4) jw.nd rfl fW (c7 (K:=K) rfl (c7 (K:=K) rfl (aq 1) (aq 2)) (aV fY (aq 3) (aq 2))) rfl)) cX) (az (CP rfl rfl (fun pins R=>(aA (aK (i:=5) jw.nd rfl fW (mY (mg:=mg) rfl (aq 0) T.o_Costs gq (hr.mono (by decide)) vO (aa (aq 2) (aa (aq 3) ao))) rfl))) (Km (K:=K) (i:=6) rfl T.x_NoSpan.c aM (by trivial) jw.nd rfl kz00 (fun x=>(aA (aH (jb (oO T9 (aq 4) zX (by walk_at "p")) (jb (oO (mC (K:=K) rfl hu64) (vP (K:=K) rfl (aq 6)) (aq 2) (by walk_at "p")) (jb (oO (mC (K:=K) rfl hu64) (vP (K:=K) rfl (aq 6)) (aq 3) (by walk_at "p")) (lW (Em (aB (kO (K:=K) rfl) aM T.b_isinstance aQ (aa (aq 6) (aa (Ae aM T.x_NoPlain.c.at_ (by trivial)) ao)) (by trivial) (by trivial)))))))))) (Ko (K:=K) rfl T.x_PaneError aM (by trivial) (fun x=>(aA (aH ji))) CN))) (aA (aH (jb (oO Hd (aq 4) zX (by walk_at "p")) (lW (aJ bG (hr.mono (by decide)) aM (aa (aq 5) (aa (aq 4) ao)) (by trivial))))))))),?_⟩
 walk_at "n"
 have hz:20000<=sizeLine:=by decide
 obtain ⟨ps,pt,dx,ak,hx,_⟩:=id hC
 obtain ⟨rs,ht,hc⟩:=id hT
 have l2:=pt.1
 have e2:top.length=top.cps.size:=rfl
 with_reducible refine jk ?_
 walk_at "n"
 with_reducible refine Kr (fun U H1=>H1=H/\∃ due,(yU (.int a) (.int b) (top.cps.size:Int)=false->due= .non)/\(∀ i k:Nat,a=i->b=((i+k:Nat):Int)->i+k<=top.cps.size->due= .int (D2 side top i k))/\U=[some (.ref x),some (.ref t),some (.int a),some (.int b),some due,none,none]) ?_ ?_
 rotate_left
 ·intro N hN
  walk_at "n"
  have bad:¬ (0<=a/\a<=b/\b < (top.cps.size:Int)+1)->∀ i k:Nat,a=i->b=((i+k:Nat):Int)->i+k<=top.cps.size->(V.non:V)= .int (D2 side top i k):=fun h i k e1 e2 h3=>absurd ⟨by omega,by omega,by omega⟩ h
  refine qH (fun h1=>?_) (fun h1=>?_)
  ·walk_at "n"
   refine qH (fun h2=>?_) (fun h2=>?_)
   ·walk_at "n"
    refine fu (SqL.of ht) ?_
    walk_at "n"
    rw [hc.1]
    refine qH (fun h3=>?_) (fun h3=>?_)
    ·obtain ⟨i,rfl⟩:∃ i:Nat,a=i:=⟨a.toNat,by omega⟩
     obtain ⟨k,rfl⟩:∃ k:Nat,b=((i+k:Nat):Int):=⟨(b - i).toNat,by omega⟩
     obtain ⟨r,er,hr'⟩:=hc.2 i (by omega)
     walk_at "n"
     refine aN (SqL.of ht) (bh er) ?_
     walk_at "n"
     rw [show ((i+k:Nat):Int) - (i:Int)=(k:Int) by omega]
     refine aN (SqL.of hr') (bh (by rw [XX,za (by omega)];rfl)) ?_
     walk_at "n"
     exact hN _ _ ⟨rfl,_,fun hv=>by unfold yU inB at hv;simp at hv;omega,fun i' k' e1 e2 _=>by rw [show i'=i by omega,show k'=k by omega];rfl,rfl⟩
    ·walk_at "n"
     exact hN _ _ ⟨rfl,_,fun _=>rfl,bad (by omega),rfl⟩
   ·walk_at "n"
    exact hN _ _ ⟨rfl,_,fun _=>rfl,bad (by omega),rfl⟩
  ·walk_at "n"
   exact hN _ _ ⟨rfl,_,fun _=>rfl,bad (by omega),rfl⟩
 ·rintro U H1 ⟨rfl,due,d1,d2,rfl⟩
  walk_at "s"
  refine ⟨x,dx,_,rfl,hx,zy (by trivial),?_⟩
  walk_at "s"
  refine ⟨x,side,top,.int a,.int b,rfl,hC,.inl ⟨_,rfl⟩,.inl ⟨_,rfl⟩,?_,?_⟩
  ·intro hv e H2 S2 X2
   obtain rfl:=d1 hv
   refine ⟨_,e,rfl,rfl,?_⟩
   refine Kp T.x_NoSpan.c.cl.cls T.u_NoSpan_NoSpan.mro ?_
   walk_at "s"
   rw [Yj rfl]
   walk_at "s"
   refine ⟨e,_,_,_,rfl,X2,T.x_NoSpan.c.cl.cls,T.x_NoSpan.na _ (by simp),rfl,?_⟩
   walk_at "s"
   rw [Yj rfl]
   walk_at "s"
   refine ⟨e,_,_,_,rfl,X2,T.x_NoSpan.c.cl.cls,T.x_NoSpan.na _ (by simp),rfl,?_⟩
   walk_at "s"
   rw [Yj rfl]
   walk_at "s"
   refine yE X2 T.x_NoSpan.c.cl rfl T.u_NoSpan_NoPlain.one ?_
   walk_at "s"
   exact q _ S2
  ·intro i k e1 e2 hk
   have e1:=V.int.inj e1
   have e2:=V.int.inj e2
   obtain rfl:=d2 i k e1 e2 hk
   walk_at "s"
   rw [Yl (show ¬ V.int (D2 side top i k)=V.non from fun z=>by cases z)]
   walk_at "s"
   refine ⟨_,rfl,?_⟩
   walk_at "s"
   exact q _ (Same.refl _)
theorem Ge {H:Hp}:∀ (ds:List PyData) (vs:List V),ds.length=vs.length->(∀ (k:Nat) (d:PyData) (v:V),ds[k]?=some d->vs[k]?=some v->DR H d v)->DRs H ds vs
 | [],[],_,_=>Es.mpr rfl
 | [],_ :: _,h,_=>by simp at h
 | _ :: _,[],h,_=>by simp at h
 | d :: ds,v :: vs,h,g=>vK.mpr ⟨v,vs,rfl,g 0 d v rfl rfl,Ge ds vs (by simpa using h) fun k d' v' e1 e2=>g (k+1) d' v' e1 e2⟩
def dEn (side top:Str) (n:Nat):PyData:=.list ((List.range n).map fun e=>.tuple [.int (D2 side top (eN side top e) (e - eN side top e)),.int (eN side top e:Int)])
theorem TL.dr {H:Hp} {q:Addr} {n:Nat} {side top:Str} (h:TL H q n (Xk side top)):DR H (dEn side top n) (.ref q):=by
 obtain ⟨as,a,b,c⟩:=h
 refine Oa.mpr ⟨q,_,rfl,a,Ge _ _ (by simp [b]) fun k d v e1 e2=>?_⟩
 rw [XX] at e1 e2
 obtain ⟨k',hk',rfl⟩:=Z8.mp e1
 obtain ⟨r,er,rfl⟩:=Z8.mp e2
 have hkn:k < n:=by have:=(XM.mp hk').1;simpa using this
 rw [Yt hkn] at hk'
 cases hk'
 exact JV.mpr ⟨r,_,rfl,c k r er,vK.mpr ⟨_,_,rfl,JR.mpr rfl,vK.mpr ⟨_,_,rfl,JR.mpr rfl,Es.mpr rfl⟩⟩⟩
end
local macro_rules | `(tactic| walk_at "s") => `(tactic| (with_reducible repeat (first | refine jk ?_ | walk_at "5")))
local macro_rules | `(tactic| walk_at "n") => `(tactic| (with_reducible repeat (walk_at "5")))
section
variable {P:Program} {w:World} {K:W.Frag} {mg:Str->Option Value} {base:Heap}
theorem wW:(["_law_end","_law_due"]:List Str).Nodup:=by trivial
theorem wX:(["_law_k","_law_found","_law_due"]:List Str).Nodup:=by trivial
theorem wY:(["_law_begin","_law_table","_law_end"]:List Str).Nodup:=by trivial
theorem Vd {side top:Str} {n:Nat}:PySem.SeqAt.shaped (dEn side top n)=true:=by
 unfold dEn
 refine CV (Kq (n:=1) fun d hd=>?_) (by omega)
 obtain ⟨e,_,rfl⟩:=YZ.mp hd
 refine Hg (n:=0) fun z hz=>?_
 simp only [X7,Yq,or_false] at hz
 rcases hz with rfl | rfl <;> exact Ov _
def Qt (K:W.Frag) (mg:Str->Option Value):Sp:=fun vs H Q _=>∃ (x t:Addr) (side top:Str),vs=[.ref x,.ref t]/\Cs mg H x side top/\Tbl H t side top/\∀ H',Same H H'->Q (.bl true) H'
theorem jh:aG ["_law_costs","_law_table","_law_due","_law_end","_law_found","_law_least","_law_best"] ["_law_costs","_law_table"] (au jC):=⟨rfl,rfl,rfl,by trivial,rfl,by trivial,by trivial⟩
theorem iY (T:Txt K mg):nF P w K mg base 12 "_law_ends" ["_law_costs","_law_table"] (Qt K mg):=by
 have gr:=gr (P:=P) (w:=w) (base:=base) T
 have dg:=dg (P:=P) (w:=w) (base:=base) T
 have bI:=bI (P:=P) (w:=w) (base:=base) T
 have dM:=dM (P:=P) (w:=w) (base:=base) T
 refine gY T.d_law_ends jh (fun _ _ _ _ _ _ us hl=>L2.my (fun _ _=>rfl) us hl) ?_ fun f cdv A outer s H vs Q E hr h=>?_
 ·rintro vs H Q E ⟨x,t,side,top,rfl,_⟩;rfl
 obtain ⟨x,t,side,top,rfl,hC,hT,q⟩:=h
 have hu:=hr.units0
 have hu64:=hr.units
 refine ⟨_,(az (aK (i:=2) jh.nd rfl Mq (gW ao) rfl) (az (fH Yx rfl (bJ aM T.b_range (aa (aB (aF (K:=K) rfl) aM T.b_len aO (aa (aX 1) ao) (by trivial) (by trivial)) ao)) (bj (i:=3) jh.nd rfl Mq rfl) (aA (bu (gm (K:=K) rfl Yh Yo Yp dm (aX 2) (aa (aB (jc rfl (pC hu64)) aM T.b_min o7 (aa (gJ (sub:=[none,some 1,some 3]) (cY (N:=["_law_costs","_law_table","_law_due","_law_end","_law_found","_law_least","_law_best"]) (sc:=au jC) (N':=["_law_begin","_law_table","_law_end"]) (by trivial)) rfl rfl rfl (bJ aM T.b_range (aa (aV aP (aX 3) aC) ao)) (fun C s₀ H₀ ex=>(mW 0 (by trivial) wY)) (fun C s₀ H₀ ex=>dI) (fun C s₀ H₀ ex=>(jy (aa (c7 (K:=K) rfl (c7 (K:=K) rfl (fQ 1 (by trivial)) (dF 0 (by trivial))) (aV fY (fQ 2 (by trivial)) (dF 0 (by trivial)))) (aa (dF 0 (by trivial)) ao))))) ao) (by trivial) (by trivial)) ao))))) (az (aK (i:=4) jh.nd rfl Mq (gC (aq 0) T.o_Costs gr (hr.mono (by decide)) (gw fun _ _=>rfl)) rfl) (az (dG (j7 (jU (cL (cM (aB (fP (K:=K) rfl) aM T.b_isinstance aQ (aa (aX 4) (aa (ph aM T.b_list j8 (by trivial) (by trivial)) ao)) (by trivial) (by trivial)))) (iV (fZ (qJ (K:=K) rfl hu64) (aB (aF (K:=K) rfl) aM T.b_len aO (aa (aX 4) ao) (by trivial) (by trivial)) (aB (aF (K:=K) rfl) aM T.b_len aO (aa (aX 2) ao) (by trivial) (by trivial)) (by walk_at "p"))))) (aA (aH ji)) cX) (az (dG (cL (cM (aB (o6 rfl) aM T.b_all vG (aa (gJ (sub:=[none,some 4,some 2]) (cY (N:=["_law_costs","_law_table","_law_due","_law_end","_law_found","_law_least","_law_best"]) (sc:=au jC) (N':=["_law_k","_law_found","_law_due"]) (by trivial)) rfl rfl rfl (bJ aM T.b_range (aa (aB (aF (K:=K) rfl) aM T.b_len aO (aa (aX 2) ao) (by trivial) (by trivial)) ao)) (fun C s₀ H₀ ex=>(mW 0 (by trivial) wX)) (fun C s₀ H₀ ex=>dI) (fun C s₀ H₀ ex=>(jb (aB (fP (K:=K) rfl) (Ej (by trivial)) T.b_isinstance aQ (aa (c7 (K:=K) rfl (fQ 1 (by trivial)) (dF 0 (by trivial))) (aa (ph (Ej (by trivial)) T.b_tuple o8 (by trivial) (by trivial)) ao)) (by trivial) (by trivial)) (lW (aJ dg (hr.mono (by decide)) (Ej (by trivial)) (aa (c7 (K:=K) rfl (fQ 1 (by trivial)) (dF 0 (by trivial))) (aa (c7 (K:=K) rfl (fQ 2 (by trivial)) (dF 0 (by trivial))) ao)) (by trivial)))))) ao) (by trivial) (by trivial)))) (aA (aH ji)) cX) (az (bu (Eo (K:=K) rfl Yh PySem.F.slot_list_clear PySem.F.type_list_clear Jm (aX 4))) (az (aK (i:=5) jh.nd rfl fW (aB (jc rfl (pC hu64)) aM T.b_min o7 (aa (gJ (sub:=[none,some 2]) (cY (N:=["_law_costs","_law_table","_law_due","_law_end","_law_found","_law_least","_law_best"]) (sc:=au jC) (N':=["_law_end","_law_due"]) (by trivial)) rfl rfl rfl (bJ aM T.b_range (aa (aB (aF (K:=K) rfl) aM T.b_len aO (aa (aX 2) ao) (by trivial) (by trivial)) ao)) (fun C s₀ H₀ ex=>(mW 0 (by trivial) wW)) (fun C s₀ H₀ ex=>dI) (fun C s₀ H₀ ex=>(jy (aa (c7 (K:=K) rfl (c7 (K:=K) rfl (fQ 1 (by trivial)) (dF 0 (by trivial))) aC) (aa (c7 (K:=K) rfl (c7 (K:=K) rfl (fQ 1 (by trivial)) (dF 0 (by trivial))) aC) (aa (dF 0 (by trivial)) ao)))))) ao) (by trivial) (by trivial)) rfl) (az (dG (j7 (jU (cL (cM (aJ bI (hr.mono (by decide)) aM (aa (aq 0) (aa (aX 1) (aa aC (aa aC ao)))) (by trivial)))) (iV (cL (cM (aJ bI (hr.mono (by decide)) aM (aa (aq 0) (aa (aX 1) (aa (aV fY (aB (aF (K:=K) rfl) aM T.b_len aO (aa (aX 2) ao) (by trivial) (by trivial)) aC) (aa (aV fY (aB (aF (K:=K) rfl) aM T.b_len aO (aa (aX 2) ao) (by trivial) (by trivial)) aC) ao)))) (by trivial))))))) (aA (aH ji)) cX) (az (aK (i:=6) jh.nd rfl fW (gC (aq 0) T.o_Costs dM (hr.mono (by decide)) (gw fun _ _=>rfl)) rfl) (aA (aH (jb (aB (fP (K:=K) rfl) aM T.b_isinstance aQ (aa (aq 6) (aa (ph aM T.b_tuple o8 (by trivial) (by trivial)) ao)) (by trivial) (by trivial)) (jb (aJ dg (hr.mono (by decide)) aM (aa (aq 6) (aa (aq 5) ao)) (by trivial)) (lW (oO (mC (K:=K) rfl hu64) (gC (aq 0) T.o_Costs gr (hr.mono (by decide)) (gw fun _ _=>rfl)) (aX 2) (by walk_at "p")))))))))))))))),?_⟩
 walk_at "s"
 have hz:20000<=sizeLine:=by decide
 obtain ⟨ps,pt,dx,ak,hx,_⟩:=id hC
 obtain ⟨rs,ht,hc⟩:=id hT
 have l2:=pt.1
 have e2:top.length=top.cps.size:=rfl
 refine dJ rfl fun due H1 ndu S1 hdu=>?_
 walk_at "s"
 refine fu (SqL.of (S1 _ _ ht)) ?_
 walk_at "s"
 rw [hc.1]
 refine ⟨_,rfl,by omega,by omega,?_⟩
 rw [show ((top.cps.size+1:Nat):Int).toNat=top.cps.size+1 by omega]
 refine p7 (n:=top.cps.size+1) (fun i U G=>Same H G/\(∀ e,e < i->MinI (tE side top e) (e+1) (eN side top e))/\(∃ as:List Addr,G due=some (.lst (as.map V.ref))/\as.length=i/\∀ k b,as[k]?=some b->G b=some (.tup (Xk side top k)))/\∃ x3 x4 x5 x6,U=[some (.ref x),some (.ref t),some (.ref due),x3,x4,x5,x6])
  ⟨S1,fun e h=>absurd h (Zz _),⟨[],hdu,rfl,fun k b e=>by simp at e⟩,_,_,_,_,rfl⟩ ?_ ?_
 ·rintro i U G hi ⟨s,hm,⟨as,hd,hl,has⟩,x3,x4,x5,x6,rfl⟩
  rw [Int.zero_add]
  walk_at "s"
  refine ⟨.inl ⟨rfl,_,SqL.of hd⟩,?_⟩
  walk_at "s"
  refine ⟨_,rfl,by omega,by omega,?_⟩
  rw [show ((i:Int)+1).toNat=i+1 by omega]
  refine f9 (fun k zs J=>Same G J/\∃ bs:List Addr,zs=bs.map V.ref/\bs.length=k/\∀ k b,bs[k]?=some b->J b=some (.tup (tE side top i k))) (by omega) ⟨Same.refl G,[],rfl,rfl,fun k b e=>by simp at e⟩ ?_ ?_ ?_
  ·rintro k zs J ⟨_,bs,rfl,rfl,_⟩
   simp
  ·rintro k zs J hk ⟨sJ,bs,rfl,hbl,hbs⟩
   obtain ⟨r,er,hr'⟩:=hc.2 k (by omega)
   walk_at "s"
   refine ⟨KeepSt.set rfl,?_⟩
   walk_at "s"
   rw [show (0:Int)+(k:Int)=(k:Int) by omega]
   refine aN (SqL.of ((s.trans sJ) _ _ ht)) (bh er) ?_
   walk_at "s"
   rw [show (i:Int) - (k:Int)=((i - k:Nat):Int) by omega]
   refine aN (SqL.of ((s.trans sJ) _ _ hr')) (bh (by rw [XX,za (by omega)];rfl)) ?_
   walk_at "s"
   refine dJ rfl fun b G2 nb S2 hb=>?_
   walk_at "s"
   refine ⟨sJ.trans S2,bs ++ [b],by simp,by simp [hbl],fun k' c e'=>?_⟩
   by_cases ek:k' < bs.length
   ·rw [Ye ek] at e'
    exact S2 _ _ (hbs k' c e')
   ·have ek':k'=bs.length:=by
     have:=(XM.mp e').1
     simp at this;omega
    subst ek'
    rw [Yn (XQ _),Zm] at e'
    cases e'
    rw [hbl]
    exact hb
  ·rintro zs J D H' ⟨sJ,bs,rfl,hbl,hbs⟩ nD S hD
   try walk_at "s"
   refine vf (n:=i+1) ⟨bs,hD,hbl,fun i a e=>S _ _ (hbs i a e)⟩ (by omega) zj fun j a hmj ha=>?_
   obtain ⟨rfl,hm'⟩:=Q6 hmj
   have s2:=sJ.trans S
   walk_at "s"
   refine di (s2 _ _ hd) (by rw [X8,hl];omega) ?_
   walk_at "s"
   have ne:∀ {b:Addr} {xs:List V},H' b=some (.tup xs)->b≠due:=fun {b xs} h z=>by rw [z,s2 _ _ hd] at h;cases h
   refine ⟨Same.put (s.trans s2) ndu,fun e he=>?_,⟨as ++ [a],by rw [aj,Yk];rfl,by simp [hl],fun k b e'=>?_⟩,_,_,_,_,rfl⟩
   ·by_cases ee:e=i
    ·rw [ee];exact hm'
    ·exact hm e (by omega)
   ·by_cases ek:k < as.length
    ·rw [Ye ek] at e'
     have:=s2 _ _ (has k b e')
     rw [aD (ne this)];exact this
    ·have ek':k=as.length:=by
      have:=(XM.mp e').1
      simp at this;omega
     subst ek'
     rw [Yn (XQ _),Zm] at e'
     cases e'
     rw [hl,aD (ne ha)]
     exact ha
 rintro U G ⟨s,hm,hdu2,x3,x4,x5,x6,rfl⟩
 have TD:TL G due (top.cps.size+1) (Xk side top):=hdu2
 clear hdu2 hdu
 walk_at "s"
 refine ⟨x,dx,_,rfl,s _ _ hx,zy (by trivial),?_⟩
 walk_at "s"
 refine ⟨x,side,top,rfl,hC.same s,fun f H2 nf S2 TF _=>?_⟩
 walk_at "s"
 have U2:=s.trans S2
 have TD2:=TD.same S2
 obtain ⟨fs,hf,hfl,hfs⟩:=id TF
 obtain ⟨ds,hd,hdl,hds⟩:=id TD2
 refine jT (.lst hf) (b:=true) (by rfl) ?_
 walk_at "s"
 refine fu (SqL.of hf) ?_
 walk_at "s"
 refine fu (SqL.of hd) ?_
 walk_at "s"
 rw [X8,X8,hfl,hdl,show (!decide (V.int ((top.cps.size+1:Nat):Int)=V.int ((top.cps.size+1:Nat):Int)))=false by simp]
 walk_at "s"
 refine fu (SqL.of hd) ?_
 walk_at "s"
 rw [X8,hdl]
 refine ⟨_,rfl,by omega,by omega,?_⟩
 rw [show ((top.cps.size+1:Nat):Int).toNat=top.cps.size+1 by omega]
 refine f9 (fun i zs J=>Same H2 J/\zs=(List.range i).map fun _=>V.bl true) (by omega) ⟨Same.refl H2,rfl⟩ ?_ ?_ ?_
 ·rintro i zs J ⟨_,rfl⟩
  simp
 ·rintro i zs J hi ⟨sJ,rfl⟩
  obtain ⟨u,eu⟩:∃ u,fs[i]?=some u:=⟨_,XR (by omega)⟩
  obtain ⟨v,ev⟩:∃ v,ds[i]?=some v:=⟨_,XR (by omega)⟩
  have hu':=sJ _ _ (hfs i u eu)
  have hv:=sJ _ _ (hds i v ev)
  walk_at "s"
  refine ⟨KeepSt.set rfl,?_⟩
  walk_at "s"
  rw [show (0:Int)+(i:Int)=(i:Int) by omega]
  refine aN (SqL.of (sJ _ _ hf)) (bh (by rw [XX,eu];rfl)) ?_
  walk_at "s"
  refine jT (.tup hu') (b:=true) (by rfl) ?_
  walk_at "s"
  refine aN (SqL.of (sJ _ _ hf)) (bh (by rw [XX,eu];rfl)) ?_
  walk_at "s"
  refine aN (SqL.of (sJ _ _ hd)) (bh (by rw [XX,ev];rfl)) ?_
  walk_at "s"
  refine ⟨u,v,[D2 side top (eN side top i) (i - eN side top i),(eN side top i:Int)],rfl,.inr hu',.inr hv,by simp,fun G2 s2=>?_⟩
  walk_at "s"
  exact ⟨sJ.trans s2,by rw [YJ,Yk];rfl⟩
 rintro zs J D H3 ⟨sJ,rfl⟩ nD S3 hD
 try walk_at "s"
 rw [Ma] at hD
 refine ⟨D,_,rfl,hD,?_⟩
 rw [show (List.replicate (top.cps.size+1) true).all id=true by simp]
 walk_at "s"
 have u3:=sJ.trans S3
 refine ⟨.inl ⟨rfl,_,SqL.of (u3 _ _ hf)⟩,?_⟩
 walk_at "s"
 refine ⟨f,_,rfl,rfl,u3 _ _ hf,?_⟩
 have df:due≠f:=gNe nf TD.choose_spec.1
 have S4:Same H (upd H3 f (.lst [])):=Same.put (U2.trans u3) (Same.back s nf)
 have S4G:Same G (upd H3 f (.lst [])):=Same.put (S2.trans u3) nf
 have TD4:=TD.same S4G
 generalize upd H3 f (.lst [])=H4 at S4 TD4 ⊢
 obtain ⟨d4,hd4,hdl4,hds4⟩:=id TD4
 walk_at "s"
 refine fu (SqL.of hd4) ?_
 walk_at "s"
 rw [X8,hdl4]
 refine ⟨_,rfl,by omega,by omega,?_⟩
 rw [show ((top.cps.size+1:Nat):Int).toNat=top.cps.size+1 by omega]
 refine f9 (fun k zs J=>Same H4 J/\∃ bs:List Addr,zs=bs.map V.ref/\bs.length=k/\∀ k b,bs[k]?=some b->J b=some (.tup (tB side top k))) (by omega) ⟨Same.refl H4,[],rfl,rfl,fun k b e=>by simp at e⟩ ?_ ?_ ?_
 ·rintro k zs J ⟨_,bs,rfl,rfl,_⟩
  simp
 ·rintro k zs J hk ⟨sJ,bs,rfl,hbl,hbs⟩
  obtain ⟨v,ev⟩:∃ v,d4[k]?=some v:=⟨_,XR (by omega)⟩
  have hv:=sJ _ _ (hds4 k v ev)
  walk_at "s"
  refine ⟨KeepSt.set rfl,?_⟩
  walk_at "s"
  rw [show (0:Int)+(k:Int)=(k:Int) by omega]
  refine aN (SqL.of (sJ _ _ hd4)) (bh (by rw [XX,ev];rfl)) ?_
  walk_at "s"
  refine aN (SqL.of (sJ _ _ hd4)) (bh (by rw [XX,ev];rfl)) ?_
  walk_at "s"
  refine dJ rfl fun b G2 nb S2 hb=>?_
  walk_at "s"
  refine ⟨sJ.trans S2,bs ++ [b],by simp,by simp [hbl],fun k' c e'=>?_⟩
  by_cases ek:k' < bs.length
  ·rw [Ye ek] at e'
   exact S2 _ _ (hbs k' c e')
  ·have ek':k'=bs.length:=by
    have:=(XM.mp e').1
    simp at this;omega
   subst ek'
   rw [Yn (XQ _),Zm] at e'
   cases e'
   rw [hbl]
   exact hb
 rintro zs J D2' H5 ⟨sJ2,bs,rfl,hbl,hbs⟩ nD2 S5 hD2
 try walk_at "s"
 refine vf (n:=top.cps.size+1) ⟨bs,hD2,hbl,fun i a e=>S5 _ _ (hbs i a e)⟩ (by omega) zm fun j a hmj ha=>?_
 obtain ⟨rfl,hmb⟩:=Q7 hmj
 have s5:=sJ2.trans S5
 have S5':=S4.trans s5
 have TD5:=TD4.same s5
 walk_at "s"
 refine ⟨x,t,side,top,0,0,rfl,hC.same S5',hT.same S5',fun H6 s6=>?_⟩
 walk_at "s"
 have S6:=S5'.trans s6
 have TD6:=TD5.same s6
 obtain ⟨d6,hd6,hdl6,hds6⟩:=id TD6
 refine fu (SqL.of hd6) ?_
 walk_at "s"
 refine fu (SqL.of hd6) ?_
 walk_at "s"
 refine ⟨x,t,side,top,_,_,rfl,hC.same S6,hT.same S6,fun H7 s7=>?_⟩
 walk_at "s"
 have S7:=S6.trans s7
 refine ⟨x,dx,_,rfl,S7 _ _ hx,zy (by trivial),?_⟩
 walk_at "s"
 refine ⟨x,side,top,rfl,hC.same S7,fun b H8 s8 _ _ hb=>?_⟩
 walk_at "s"
 have S8:=S7.trans s8
 have u8:=s6.trans (s7.trans s8)
 refine jT (.tup hb) (b:=true) (by rfl) ?_
 walk_at "s"
 refine ⟨b,a,[D2 side top (eN side top (bN side top top.cps.size)) (bN side top top.cps.size - eN side top (bN side top top.cps.size)),(eN side top (bN side top top.cps.size):Int),(bN side top top.cps.size:Int)],rfl,.inr hb,.inr (u8 _ _ ha),by simp,fun H9 s9=>?_⟩
 walk_at "s"
 have S9:=S8.trans s9
 refine ⟨x,dx,_,rfl,S9 _ _ hx,zy (by trivial),?_⟩
 walk_at "s"
 refine ⟨x,side,top,rfl,hC.same S9,fun f2 Ha nf2 sa TF2 _=>?_⟩
 walk_at "s"
 have TDa:=TD6.same (s7.trans (s8.trans (s9.trans sa)))
 exact .inl (.inl (zY TF2.dr TDa.dr Vd (q _ (S9.trans sa))))
def Qu (K:W.Frag) (mg:Str->Option Value):Sp:=fun vs H Q _=>∃ (x t:Addr) (side top:Str),vs=[.ref x,.ref t,.str side,.str top]/\Cs mg H x side top/\Tbl H t side top/\∀ H',Same H H'->Q (.bl true) H'
theorem uE:aG ["_law_costs","_law_table","_law_side","_law_top","_law_found"] ["_law_costs","_law_table","_law_side","_law_top"] (au qR):=⟨rfl,rfl,rfl,by trivial,rfl,by trivial,by trivial⟩
theorem rn (T:Txt K mg):nF P w K mg base 13 "_law_rows" ["_law_costs","_law_table","_law_side","_law_top"] (Qu K mg):=by
 have dw:=dw (P:=P) (w:=w) (base:=base) T
 have jN:=jN (P:=P) (w:=w) (base:=base) T
 have oM:=oM (P:=P) (w:=w) (base:=base) T
 have pW:=pW (P:=P) (w:=w) (base:=base) T
 have bI:=bI (P:=P) (w:=w) (base:=base) T
 have iY:=iY (P:=P) (w:=w) (base:=base) T
 refine gY T.d_law_rows uE (fun _ _ _ _ _ _ us hl=>L2.Ms (fun _ _ _ _=>rfl) us hl) ?_ fun f cdv A outer s H vs Q E hr h=>?_
 ·rintro vs H Q E ⟨x,t,side,top,rfl,_⟩;rfl
 obtain ⟨x,t,side,top,rfl,hC,hT,q⟩:=h
 have hu:=hr.units0
 have hu64:=hr.units
 refine ⟨_,(az (aK (i:=4) uE.nd rfl fW (gC (aq 0) T.o_Costs dw (hr.mono (by decide)) (gw fun _ _=>rfl)) rfl) (az (dG (j7 (jU (cL (cM (aJ jN (hr.mono (by decide)) aM (aa (aq 4) (aa (aq 1) ao)) (by trivial)))) (jU (fZ (qJ (K:=K) rfl hu64) (gC (aq 0) T.o_Costs oM (hr.mono (by decide)) (gw fun _ _=>rfl)) (aq 2) (by walk_at "p")) (iV (fZ (qJ (K:=K) rfl hu64) (gC (aq 0) T.o_Costs pW (hr.mono (by decide)) (gw fun _ _=>rfl)) (aq 3) (by walk_at "p")))))) (aA (aH ji)) cX) (az (bu (gm (K:=K) rfl Yh Yo Yp dm (c7 (K:=K) rfl (aq 4) aC) (aa aC ao))) (az (uW (ts:=Fe) aC (yz (c7 (K:=K) rfl (aq 4) aC) aC (Ff hu64))) (az (bu (Eo (K:=K) rfl Yh PySem.F.slot_list_pop PySem.F.type_list_pop Ss (aq 4))) (az (dG (j7 (jU (cL (cM (aJ bI (hr.mono (by decide)) aM (aa (aq 0) (aa (aq 1) (aa aC (aa aC ao)))) (by trivial)))) (iV (cL (cM (aJ bI (hr.mono (by decide)) aM (aa (aq 0) (aa (aq 1) (aa aC (aa (aB (aF (K:=K) rfl) aM T.b_len aO (aa (aq 3) ao) (by trivial) (by trivial)) ao)))) (by trivial))))))) (aA (aH ji)) cX) (aA (aH (jb (aJ iY (hr.mono (by decide)) aM (aa (aq 0) (aa (aq 1) ao)) (by trivial)) (lW (aJ jN (hr.mono (by decide)) aM (aa (gC (aq 0) T.o_Costs dw (hr.mono (by decide)) (gw fun _ _=>rfl)) (aa (aq 1) ao)) (by trivial)))))))))))),?_⟩
 walk_at "s"
 have hz:20000<=sizeLine:=by decide
 obtain ⟨ps,pt,dx,ak,hx,_⟩:=id hC
 have l2:=pt.1
 have e2:top.length=top.cps.size:=rfl
 refine ⟨x,dx,_,rfl,hx,zy (by trivial),?_⟩
 walk_at "s"
 refine ⟨x,side,top,rfl,hC,fun f rs H1 nf S1 hf hcf hfr=>?_⟩
 walk_at "s"
 obtain ⟨ts,ht,hct⟩:=id (hT.same S1)
 refine ⟨f,t,rs,ts,top.cps.size+1,dH side top,rfl,hf,ht,hcf,hct,by omega,fun k=>by rw [jt];omega,fun H2 S2=>?_⟩
 walk_at "s"
 have U2:=S1.trans S2
 refine ⟨x,dx,_,rfl,U2 _ _ hx,zy (by trivial),?_⟩
 walk_at "s"
 refine ⟨x,side,top,rfl,hC.same U2,?_⟩
 walk_at "s"
 rw [show (!decide (V.str side=V.str side))=false by simp]
 walk_at "s"
 refine ⟨x,dx,_,rfl,U2 _ _ hx,zy (by trivial),?_⟩
 walk_at "s"
 refine ⟨x,side,top,rfl,hC.same U2,?_⟩
 walk_at "s"
 rw [show (!decide (V.str top=V.str top))=false by simp]
 walk_at "s"
 obtain ⟨r0,er0,hr0⟩:=hcf.2 0 (by omega)
 have n0:=hfr 0 r0 er0
 have fr:f≠r0:=fun z=>by
  rw [z,hr0] at hf
  have e:=HO.lst.inj (Ym hf)
  rw [← e,XX] at er0
  obtain ⟨_,_,e3⟩:=Z8.mp er0
  cases e3
 refine aN (SqL.of (S2 _ _ hf)) (bh (j:=0) er0) ?_
 walk_at "s"
 refine ⟨.inl ⟨rfl,_,SqL.of (S2 _ _ hr0)⟩,?_⟩
 walk_at "s"
 refine di (S2 _ _ hr0) (by rw [X8,jt];omega) ?_
 walk_at "s"
 have S3:Same H (upd H2 r0 (.lst ((dH side top 0).map V.int ++ [V.int 7]))):=Same.put U2 n0
 have hf3:upd H2 r0 (.lst ((dH side top 0).map V.int ++ [V.int 7])) f=some (.lst rs):=by rw [aD fr];exact S2 _ _ hf
 have hr3:=aj (H:=H2) (a:=r0) (o:=.lst ((dH side top 0).map V.int ++ [V.int 7]))
 generalize upd H2 r0 (.lst ((dH side top 0).map V.int ++ [V.int 7]))=H3 at S3 hf3 hr3 ⊢
 walk_at "s"
 refine aN (SqL.of hf3) (bh (j:=0) er0) ?_
 walk_at "s"
 refine Ox hr3 (W2 (p:=0) rfl (by simp)) ?_
 walk_at "s"
 have S4:Same H (upd H3 r0 (.lst (((dH side top 0).map V.int ++ [V.int 7]).set 0 (V.int 99)))):=Same.put S3 n0
 have hf4:upd H3 r0 (.lst (((dH side top 0).map V.int ++ [V.int 7]).set 0 (V.int 99))) f=some (.lst rs):=by rw [aD fr];exact hf3
 generalize upd H3 r0 (.lst (((dH side top 0).map V.int ++ [V.int 7]).set 0 (V.int 99)))=H4 at S4 hf4 ⊢
 walk_at "s"
 refine ⟨.inl ⟨rfl,_,SqL.of hf4⟩,?_⟩
 walk_at "s"
 refine ⟨f,rs,_,rfl,rfl,hf4,XR (by have:=hcf.1;omega),?_⟩
 have S5:Same H (upd H4 f (.lst rs.dropLast)):=Same.put S4 nf
 generalize upd H4 f (.lst rs.dropLast)=H5 at S5 ⊢
 walk_at "s"
 refine ⟨x,t,side,top,0,0,rfl,hC.same S5,hT.same S5,fun H6 s6=>?_⟩
 walk_at "s"
 have S6:=S5.trans s6
 refine dh (by omega) ?_
 walk_at "s"
 refine ⟨x,t,side,top,0,_,rfl,hC.same S6,hT.same S6,fun H7 s7=>?_⟩
 walk_at "s"
 have S7:=S6.trans s7
 refine ⟨x,t,side,top,rfl,hC.same S7,hT.same S7,fun H8 s8=>?_⟩
 walk_at "s"
 have S8:=S7.trans s8
 refine ⟨x,dx,_,rfl,S8 _ _ hx,zy (by trivial),?_⟩
 walk_at "s"
 refine ⟨x,side,top,rfl,hC.same S8,fun f2 rs2 H9 nf2 S9 hf2 hcf2 _=>?_⟩
 walk_at "s"
 obtain ⟨ts9,ht9,hct9⟩:=hT.same (S8.trans S9)
 refine ⟨f2,t,rs2,ts9,top.cps.size+1,dH side top,rfl,hf2,ht9,hcf2,hct9,by omega,fun k=>by rw [jt];omega,fun Ha sa=>?_⟩
 walk_at "s"
 exact q _ (S8.trans (S9.trans sa))
end
local macro_rules | `(tactic| walk_at "s") => `(tactic| (with_reducible repeat (first | refine jk ?_ | walk_at "7")))
local macro_rules | `(tactic| walk_at "n") => `(tactic| (with_reducible repeat (walk_at "7")))
section
variable {P:Program} {w:World} {K:W.Frag} {mg:Str->Option Value} {base:Heap}
theorem wy:(["_law_k","_law_least","_law_table"]:List Str).Nodup:=by trivial
theorem Q8 (g:Nat->Nat->Bool) (b:Nat):∀ i k,dd g b i k<=i+k
 | 0,k=>by rw [Bm];omega
 | i+1,0=>by rw [Dw];omega
 | i+1,k+1=>by
  have:=Q8 g b i (k+1)
  rw [Bo];omega
theorem Q9 {side top:Str} {e b:Nat} (h:MinI (tE side top e) (e+1) (eN side top e)) (hb:b<=e):D2 side top (eN side top e) (e - eN side top e) < D2 side top b (e - b)\/D2 side top (eN side top e) (e - eN side top e)=D2 side top b (e - b)/\eN side top e<=b:=by
 have h1:=h.2 b (by omega)
 unfold tE at h1
 simp only [uK] at h1
 by_cases e1:D2 side top b (e - b)=D2 side top (eN side top e) (e - eN side top e)
 ·rw [if_pos (by rw [e1])] at h1
  by_cases e2:(b:Int)=(eN side top e:Int)
  ·exact .inr ⟨e1.symm,by omega⟩
  ·rw [if_neg (fun z=>e2 (V.int.inj z))] at h1
   simp only [ltV,Y4] at h1
   exact .inr ⟨e1.symm,by omega⟩
 ·rw [if_neg (fun z=>e1 (V.int.inj z))] at h1
  simp only [ltV,Y4] at h1
  exact .inl (by omega)
theorem Ra {side top:Str} {n e E:Nat} (h:MinI (tB side top) (n+1) E) (he:e<=n):D2 side top (eN side top E) (E - eN side top E) < D2 side top (eN side top e) (e - eN side top e)\/D2 side top (eN side top E) (E - eN side top E)=D2 side top (eN side top e) (e - eN side top e)/\(eN side top E < eN side top e\/eN side top E=eN side top e/\E<=e):=by
 have h1:=h.2 e (by omega)
 unfold tB at h1
 simp only [uK] at h1
 by_cases e1:D2 side top (eN side top e) (e - eN side top e)=D2 side top (eN side top E) (E - eN side top E)
 ·rw [if_pos (by rw [e1])] at h1
  refine .inr ⟨e1.symm,?_⟩
  by_cases e2:(eN side top e:Int)=(eN side top E:Int)
  ·rw [if_pos (by rw [e2])] at h1
   by_cases e3:(e:Int)=(E:Int)
   ·exact .inr ⟨by omega,by omega⟩
   ·rw [if_neg (fun z=>e3 (V.int.inj z))] at h1
    simp only [ltV,Y4] at h1
    exact .inr ⟨by omega,by omega⟩
  ·rw [if_neg (fun z=>e2 (V.int.inj z))] at h1
   simp only [ltV,Y4] at h1
   exact .inl (by omega)
 ·rw [if_neg (fun z=>e1 (V.int.inj z))] at h1
  simp only [ltV,Y4] at h1
  exact .inl (by omega)
theorem pX {side top:Str} {b k:Nat} (h:k < top.cps.size - b+1):(dH side top b)[k]?=some (D2 side top b k):=za h
theorem wz {side top:Str} {b:Nat} {z:Int} (h:z∈dH side top b):∃ k,k<=top.cps.size - b/\z=D2 side top b k:=by
 unfold dH at h
 obtain ⟨k,hk,rfl⟩:=YZ.mp h
 exact ⟨k,by have:=YC.mp hk;omega,rfl⟩
theorem wB {side top:Str} {b k:Nat} (h:b+k<=top.cps.size):D2 side top b k∈dH side top b:=YG (pX (by omega))
theorem Qv {side top:Str} {E:Nat} {M:Int} {b0:Nat} (hm:∀ e,e<=top.cps.size->MinI (tE side top e) (e+1) (eN side top e)) (hb:MinI (tB side top) (top.cps.size+1) E)
  (hle:∀ b,b<=top.cps.size->∀ z∈dH side top b,M<=z) (hin:∃ b,b<=top.cps.size/\M∈dH side top b) (h0:b0<=top.cps.size) (h1:M∈dH side top b0) (h2:∀ b,b < b0->M ∉ dH side top b):
  tB side top E=[.int M,.int (b0:Int),.int ((b0:Int)+((dH side top b0).idxOf M:Nat))]:=by
 have hE:E<=top.cps.size:=by have:=hb.1;omega
 have hB:eN side top E<=E:=by have:=(hm E hE).1;omega
 have low:∀ b k,b+k<=top.cps.size->D2 side top (eN side top E) (E - eN side top E)<=D2 side top b k:=fun b k h=>by
  have a1:=Q9 (hm (b+k) h) (b:=b) (by omega)
  have a2:=Ra hb (e:=b+k) h
  rw [show b+k - b=k by omega] at a1
  omega
 have hC:D2 side top (eN side top E) (E - eN side top E)=M:=by
  have a1:=hle _ (by omega) _ (wB (side:=side) (top:=top) (b:=eN side top E) (k:=E - eN side top E) (by omega))
  obtain ⟨b,hbn,hz⟩:=hin
  obtain ⟨k,hk,rfl⟩:=wz hz
  have a2:=low b k (by omega)
  omega
 have back:∀ b k,b+k<=top.cps.size->D2 side top b k=M->eN side top E<=b/\(eN side top E=b->E<=b+k):=fun b k h e=>by
  have a1:=Q9 (hm (b+k) h) (b:=b) (by omega)
  have a2:=Ra hb (e:=b+k) h
  have a3:=low (eN side top (b+k)) (b+k - eN side top (b+k)) (by have:=(hm (b+k) h).1;omega)
  rw [show b+k - b=k by omega] at a1
  omega
 have e1:eN side top E=b0:=by
  obtain ⟨k,hk,e⟩:=wz h1
  have a1:=(back b0 k (by omega) e.symm).1
  have a2:¬ eN side top E < b0:=fun z=>h2 _ z (by rw [← hC];exact wB (by omega))
  omega
 have hl:=List.idxOf_lt_length_iff.mpr h1
 rw [jt] at hl
 have e2:D2 side top b0 ((dH side top b0).idxOf M)=M:=by
  have g1:(dH side top b0)[(dH side top b0).idxOf M]?=some M:=by
   rw [XR (by rw [jt];exact hl)];simp
  rw [pX hl] at g1
  exact Ym g1
 have a1:=(back b0 _ (by omega) e2).2 e1
 have a2:(dH side top b0).idxOf M<=E - b0:=by
  refine Nat.le_of_not_lt fun z=>?_
  have:=List.not_of_lt_findIdx (p:=fun x=>x == M) (xs:=dH side top b0) (i:=E - b0) z
  have g:(dH side top b0)[E - b0]?=some M:=by rw [pX (by omega),← hC,e1]
  obtain ⟨w1,w2⟩:=XM.mp g
  rw [w2] at this
  simp at this
 unfold tB
 rw [hC,e1,show (E:Int)=(b0:Int)+((dH side top b0).idxOf M:Nat) by omega]
theorem Mg (t:Int) (ts:List Int):inV (.int t) (ts.map V.int)=decide (t∈ts):=by
 induction ts with
 | nil=>simp [inV]
 | cons a ts ih=>
  unfold inV at ih ⊢
  rw [Ys,Aap,ih]
  by_cases h:a=t
  ·subst h;simp [zx]
  ·have h':¬ t=a:=fun z=>h z.symm
   simp [zx,h,h']
theorem Ve {H:Hp} {Q:VK} {p:Addr} {ts:List Int} {t:Int} (hp:H p=some (.lst (ts.map V.int))) (q:Q (.bl (decide (t∈ts))) H):JD K (.int t) (.ref p) H Q:=
 .inr ⟨p,ts.map V.int,rfl,.inl (SqL.of hp),rfl,by rw [List.all_map];exact Zi.mpr fun _ _=>rfl,by
  show Q (.bl (inV (.int t) (ts.map V.int))) H
  rw [Mg];exact q⟩
theorem pY {H:Hp} {side top:Str} {R:Addr->Hp->Prop} {E:XK} (hs:Pln side) (ht:Pln top) (q:∀ x H',Same H H'->Cs mg H' x side top->R x H') (x dx:Addr) (nx:H x=none) (nd:H dx=none) (_:dx≠x):
  FZ K mg [.ref x,.str side,.str top] (upd (upd H dx (.own x)) x (.ins (aL mg "Costs") dx [])) (fun v H2=>v= .non/\R x H2) E:=by
 refine ⟨x,dx,.str side,.str top,rfl,aj,hs.pt,ht.pt,fun hv=>?_,fun _ hu=>?_,fun s t es et _ _ H2 C c=>?_⟩
 ·rw [hs.pl] at hv;cases hv
 ·rw [ht.pl] at hu;cases hu
 ·obtain rfl:=V.str.inj es
  obtain rfl:=V.str.inj et
  exact ⟨rfl,q x H2 (made nx nd C) c⟩
theorem Mh {p:Nat->Prop} (n:Nat) (h:p n):∃ m,m<=n/\p m/\∀ k,k < m->¬ p k:=by
 induction n using Nat.strongRecOn with
 | _ n ih=>
  by_cases e:∃ k,k < n/\p k
  ·obtain ⟨k,hk,pk⟩:=e
   obtain ⟨m,a,b,c⟩:=ih k hk pk
   exact ⟨m,by omega,b,c⟩
  ·exact ⟨n,XQ n,h,fun k hk pk=>e ⟨k,hk,pk⟩⟩
theorem Rb {p:Nat->Bool} {b0:Nat} (h1:p b0=true) (h2:∀ b,b < b0->p b=false):∀ m,(m<=b0->(List.range m).filter p=[])/\(b0 < m->((List.range m).filter p)[0]?=some b0)
 | 0=>⟨fun _=>rfl,fun h=>absurd h (Zz _)⟩
 | m+1=>by
  obtain ⟨a,b⟩:=Rb h1 h2 m
  rw [YJ,List.filter_append]
  refine ⟨fun h=>?_,fun h=>?_⟩
  ·rw [a (by omega),List.filter_cons,h2 m (by omega)];rfl
  ·by_cases e:b0=m
   ·subst e
    rw [a (XQ _),List.filter_cons,h1];rfl
   ·have e1:=b (by omega)
    rw [Ye (XM.mp e1).1]
    exact e1
def Qw (K:W.Frag) (mg:Str->Option Value):Sp:=fun vs H Q _=>∃ (side top:Str) (t:Addr),vs=[.str side,.str top,.ref t]/\Pln side/\Pln top/\Tbl H t side top/\∀ H',Same H H'->Q (.bl true) H'
theorem il:aG ["_law_side","_law_top","_law_table","_law_least","_law_row_here","_law_best","_law_begin"] ["_law_side","_law_top","_law_table"] (au lZ):=⟨rfl,rfl,rfl,by trivial,rfl,by trivial,by trivial⟩
theorem pZ (T:Txt K mg):nF P w K mg base 13 "_law_first" ["_law_side","_law_top","_law_table"] (Qw K mg):=by
 have dM:=dM (P:=P) (w:=w) (base:=base) T
 have aY:=aY (P:=P) (w:=w) (base:=base) T
 have bG:=bG (P:=P) (w:=w) (base:=base) T
 have dg:=dg (P:=P) (w:=w) (base:=base) T
 have bI:=bI (P:=P) (w:=w) (base:=base) T
 have jN:=jN (P:=P) (w:=w) (base:=base) T
 have dw:=dw (P:=P) (w:=w) (base:=base) T
 refine gY T.d_law_first il (fun _ _ _ _ _ _ us hl=>L2.oX (fun _ _ _=>rfl) us hl) ?_ fun f cdv A outer s H vs Q E hr h=>?_
 ·rintro vs H Q E ⟨side,top,t,rfl,_⟩;rfl
 obtain ⟨side,top,t,rfl,ps,pt,hT,q⟩:=h
 have hu:=hr.units0
 have hu64:=hr.units
 refine ⟨_,(az (aK (i:=3) il.nd rfl Mq (c7 (K:=K) rfl (c7 (K:=K) rfl (aX 2) aC) aC) rfl) (az (fH Yx rfl (lq (K:=K) rfl (aX 2)) (bj (i:=4) il.nd rfl fW rfl) (aA (aK (i:=3) il.nd rfl Mq (aB (jc rfl (pC hu64)) aM T.b_min o7 (aa (aX 3) (aa (aB (jc rfl (pC hu64)) aM T.b_min o7 (aa (aq 4) ao) (by trivial) (by trivial)) ao)) (by trivial) (by trivial)) rfl))) (az (aK (i:=5) il.nd rfl fW (gC (kh T.o_Costs aY (hr.mono (by decide)) aM (gw fun _ _=>rfl) (aa (aq 0) (aa (aq 1) ao)) (by trivial)) T.o_Costs dM (hr.mono (by decide)) (gw fun _ _=>rfl)) rfl) (az (dG (j7 (jU (cL (cM (aB (fP (K:=K) rfl) aM T.b_isinstance aQ (aa (aq 5) (aa (ph aM T.b_tuple o8 (by trivial) (by trivial)) ao)) (by trivial) (by trivial)))) (jU (fZ (qJ (K:=K) rfl hu64) (aB (aF (K:=K) rfl) aM T.b_len aO (aa (aq 5) ao) (by trivial) (by trivial)) aC (by walk_at "p")) (iV (cL (cM (aJ bG (hr.mono (by decide)) aM (aa (c7 (K:=K) rfl (aq 5) aC) (aa (aX 3) ao)) (by trivial)))))))) (aA (aH ji)) cX) (az (aK (i:=6) il.nd rfl fW (c7 (K:=K) rfl (gJ (sub:=[none,some 3,some 2]) (cY (N:=["_law_side","_law_top","_law_table","_law_least","_law_row_here","_law_best","_law_begin"]) (sc:=au lZ) (N':=["_law_k","_law_least","_law_table"]) (by trivial)) rfl rfl rfl (bJ aM T.b_range (aa (aB (aF (K:=K) rfl) aM T.b_len aO (aa (aX 2) ao) (by trivial) (by trivial)) ao)) (fun C s₀ H₀ ex=>(mW 0 (by trivial) wy)) (fun C s₀ H₀ ex=>(N8 (fZ (Cj (K:=K) rfl) (fQ 1 (by trivial)) (c7 (K:=K) rfl (fQ 2 (by trivial)) (dF 0 (by trivial))) (by walk_at "p")))) (fun C s₀ H₀ ex=>(dF 0 (by trivial)))) aC) rfl) (az (dG (cL (cM (aJ dg (hr.mono (by decide)) aM (aa (aq 5) (aa (jy (aa (aX 3) (aa (aq 6) (aa (aV aP (aq 6) (gm (K:=K) rfl Yh PySem.F.slot_list_index PySem.F.type_list_index Hx (c7 (K:=K) rfl (aX 2) (aq 6)) (aa (aX 3) ao))) ao)))) ao)) (by trivial)))) (aA (aH ji)) cX) (aA (aH (jb (aJ bI (hr.mono (by decide)) aM (aa (kh T.o_Costs aY (hr.mono (by decide)) aM (gw fun _ _=>rfl) (aa (aq 0) (aa (aq 1) ao)) (by trivial)) (aa (aX 2) (aa (aB (aF (K:=K) rfl) aM T.b_len aO (aa (aq 1) ao) (by trivial) (by trivial)) (aa (aB (aF (K:=K) rfl) aM T.b_len aO (aa (aq 1) ao) (by trivial) (by trivial)) ao)))) (by trivial)) (lW (aJ jN (hr.mono (by decide)) aM (aa (gC (kh T.o_Costs aY (hr.mono (by decide)) aM (gw fun _ _=>rfl) (aa (aq 0) (aa (aq 1) ao)) (by trivial)) T.o_Costs dw (hr.mono (by decide)) (gw fun _ _=>rfl)) (aa (aX 2) ao)) (by trivial)))))))))))),?_⟩
 walk_at "s"
 have hz:20000<=sizeLine:=by decide
 have l1:=ps.1
 have l2:=pt.1
 have e1:side.length=side.cps.size:=rfl
 have e2:top.length=top.cps.size:=rfl
 obtain ⟨rs,ht,hc⟩:=id hT
 obtain ⟨r0,er0,hr0⟩:=hc.2 0 (by omega)
 refine aN (SqL.of ht) (bh (j:=0) er0) ?_
 walk_at "s"
 refine aN (SqL.of hr0) (bh (j:=0) (by rw [XX,pX (by omega)];rfl)) ?_
 walk_at "s"
 refine .inl ⟨t,rfl,⟨_,SqL.of ht⟩,?_⟩
 refine mU (xs:=rs) (fun i U G=>G=H/\∃ (M:Int) (x4 x5 x6:Option V),U=[some (.str side),some (.str top),some (.ref t),some (.int M),x4,x5,x6]/\(∀ b,b < i->∀ z∈dH side top b,M<=z)/\(∃ b,b<=top.cps.size/\M∈dH side top b))
  ⟨rfl,_,_,_,_,rfl,fun b h=>absurd h (Zz _),0,by omega,wB (by omega)⟩ (fun i U G _ h=>by rw [h.1];exact SqL.of ht) ?_ ?_
 ·rintro i v U G hv ⟨rfl,M,x4,x5,x6,rfl,hle,hin⟩
  have hi:i < top.cps.size+1:=by have:=(XM.mp hv).1;rw [hc.1] at this;exact this
  obtain ⟨r,er,hr'⟩:=hc.2 i hi
  rw [hv] at er
  cases er
  walk_at "s"
  refine O7 hr' (fun z=>by have:=congrArg List.length z;rw [jt] at this;simp at this) fun m hm hmm=>?_
  walk_at "s"
  refine ⟨rfl,_,_,_,_,rfl,fun b hb z hz'=>?_,?_⟩
  ·by_cases eb:b=i
   ·subst eb
    have:=hmm z hz'
    split <;> omega
   ·have:=hle b (by omega) z hz'
    split <;> omega
  ·split
   ·exact ⟨i,by omega,hm⟩
   ·exact hin
 rintro U G ⟨rfl,M,x4,x5,x6,rfl,hle,hin⟩
 rw [hc.1] at hle
 walk_at "s"
 obtain ⟨b0,h0,h1,h2⟩:∃ b0,b0<=top.cps.size/\M∈dH side top b0/\∀ b,b < b0->M ∉ dH side top b:=by
  obtain ⟨b,hb,hm⟩:=hin
  obtain ⟨m,a1,a2,a3⟩:=Mh (p:=fun b=>M∈dH side top b) b hm
  exact ⟨m,by omega,a2,a3⟩
 refine pY ps pt fun x H1 S1 hC=>?_
 walk_at "s"
 obtain ⟨_,_,dx,ak,hx,_⟩:=id hC
 refine ⟨x,dx,_,rfl,hx,zy (by trivial),?_⟩
 walk_at "s"
 refine ⟨x,side,top,rfl,hC,fun a H2 S2 hm hb ha=>?_⟩
 walk_at "s"
 rw [Qv hm hb (fun b hb=>hle b (by omega)) hin h0 h1 h2] at ha
 have hT2:=hT.same (S1.trans S2)
 have U2:=S1.trans S2
 obtain ⟨ts,ht2,hc2⟩:=id hT2
 refine jT (.tup ha) (b:=true) (by rfl) ?_
 walk_at "s"
 refine sY (SqT.of ha) ?_
 walk_at "s"
 rw [show (!decide (V.int (([V.int M,V.int (b0:Int),V.int ((b0:Int)+((dH side top b0).idxOf M:Nat))]:List V).length:Int)=V.int 3))=false from rfl]
 walk_at "s"
 refine ⟨_,rfl,?_⟩
 walk_at "s"
 refine fu (SqL.of ht2) ?_
 walk_at "s"
 rw [hc2.1]
 refine ⟨_,rfl,by omega,by omega,?_⟩
 rw [show ((top.cps.size+1:Nat):Int).toNat=top.cps.size+1 by omega]
 refine f9 (fun i zs G=>G=H2/\zs=((List.range i).filter fun b=>decide (M∈dH side top b)).map fun b:Nat=>V.int (b:Int)) (by omega) ⟨rfl,rfl⟩ ?_ ?_ ?_
 ·rintro i zs G ⟨_,rfl⟩
  rw [X8]
  have:=List.length_filter_le (fun b=>decide (M∈dH side top b)) (List.range i)
  simpa using this
 ·rintro i zs G hi ⟨rfl,rfl⟩
  obtain ⟨r,er,hr'⟩:=hc2.2 i hi
  walk_at "s"
  refine ⟨KeepSt.set rfl,?_⟩
  walk_at "s"
  rw [show (0:Int)+(i:Int)=(i:Int) by omega]
  refine aN (SqL.of ht2) (bh er) ?_
  walk_at "s"
  refine Ve hr' ?_
  walk_at "s"
  rw [YJ,List.filter_append,Yk]
  by_cases hmem:M∈dH side top i
  ·rw [Yj hmem]
   walk_at "s"
   exact ⟨rfl,by simp [hmem]⟩
  ·rw [Yl hmem]
   walk_at "s"
   exact ⟨rfl,by simp [hmem]⟩
 rintro zs G D H3 ⟨rfl,rfl⟩ nD S3 hD
 try walk_at "s"
 have hf:=(Rb (p:=fun b=>decide (M∈dH side top b)) (b0:=b0) (Yj h1) (fun b hb=>Yl (h2 b hb)) (top.cps.size+1)).2 (by omega)
 refine aN (SqL.of hD) (bh (j:=0) (by rw [XX,hf];rfl)) ?_
 walk_at "s"
 obtain ⟨rb,erb,hrb⟩:=hc2.2 b0 (by omega)
 refine aN (SqL.of (S3 _ _ ht2)) (bh erb) ?_
 walk_at "s"
 refine ⟨.inl ⟨rfl,_,SqL.of (S3 _ _ hrb)⟩,?_⟩
 walk_at "s"
 refine Hy (S3 _ _ hrb) (by rw [jt];omega) (fun z hz'=>?_) h1 ?_
 walk_at "s"
 ·obtain ⟨k,hk,rfl⟩:=wz hz'
  have:=Q8 (uD side top) b0 side.cps.size k
  unfold D2
  omega
 walk_at "s"
 refine dJ rfl fun tt H4 ntt S4 htt=>?_
 walk_at "s"
 have u4:=S3.trans S4
 refine ⟨a,tt,[M,(b0:Int),(b0:Int)+((dH side top b0).idxOf M:Nat)],rfl,.inr (u4 _ _ ha),.inr htt,by simp,fun H5 s5=>?_⟩
 walk_at "s"
 have U5:=U2.trans (u4.trans s5)
 refine pY ps pt fun y H6 s6 hY=>?_
 walk_at "s"
 have U6:=U5.trans s6
 refine dh (by omega) ?_
 walk_at "s"
 refine dh (by omega) ?_
 walk_at "s"
 refine ⟨y,t,side,top,_,_,rfl,hY,hT.same U6,fun H7 s7=>?_⟩
 walk_at "s"
 have U7:=U6.trans s7
 refine pY ps pt fun z H8 s8 hZ=>?_
 walk_at "s"
 have U8:=U7.trans s8
 obtain ⟨_,_,dz,akz,hz',_⟩:=id hZ
 refine ⟨z,dz,_,rfl,hz',zy (by trivial),?_⟩
 walk_at "s"
 refine ⟨z,side,top,rfl,hZ,fun f2 rs2 H9 nf2 S9 hf2 hcf2 _=>?_⟩
 walk_at "s"
 obtain ⟨ts9,ht9,hct9⟩:=hT.same (U8.trans S9)
 refine ⟨f2,t,rs2,ts9,top.cps.size+1,dH side top,rfl,hf2,ht9,hcf2,hct9,by omega,fun k=>by rw [jt];omega,fun Ha sa=>?_⟩
 walk_at "s"
 exact q _ (U8.trans (S9.trans sa))
end
local macro_rules | `(tactic| walk_at "s") => `(tactic| (with_reducible repeat (first | refine jk ?_ | walk_at "5")))
local macro_rules | `(tactic| walk_at "n") => `(tactic| (with_reducible repeat (walk_at "5")))
section
variable {P:Program} {w:World} {K:W.Frag} {mg:Str->Option Value} {base:Heap}
theorem kz01:Q0 jR "e":=by trivial
theorem kz02:Q0 jo "e":=by trivial
theorem wZ:bootBuiltins "ValueError"=some (.type "ValueError"):=by trivial
structure Shw (d d':PyData):Prop where
 sh:(PyData.list [d,d']).showable=true
 dp:(PyData.list [d,d']).depth<=60
 sz:(PyData.list [d,d']).shown.length<=sizeLine
theorem Mi {H:Hp} {v u:V} {d d':PyData} {r:Addr} (h:RD H d v) (h':RD H d' u) (e:H r=some (.lst [v,u])):RD H (.list [d,d']) (.ref r):=Fg.mpr ⟨r,_,rfl,e,yH h (yH h' (Fi.mpr rfl))⟩
def Qx (K:W.Frag) (mg:Str->Option Value):Sp:=fun vs H Q _=>∃ (x:Addr) (side top:Str) (v u:V) (d d':PyData),vs=[.ref x,v,u]/\Cs mg H x side top/\Kd K H v/\Kd K H u/\RD H d v/\RD H d' u/\Shw d d'/\yU v u (top.cps.size:Int)=false/\∀ H',Same H H'->Q (.bl true) H'
theorem p6:aG ["_law_costs","_law_begin","_law_end","e"] ["_law_costs","_law_begin","_law_end"] (au jR):=⟨rfl,rfl,rfl,by trivial,rfl,by trivial,by trivial⟩
theorem mQ (T:Txt K mg):nF P w K mg base 10 "_law_no_span" ["_law_costs","_law_begin","_law_end"] (Qx K mg):=by
 have gq:=gq (P:=P) (w:=w) (base:=base) T
 refine gY T.d_law_no_span p6 (fun _ _ _ _ _ _ us hl=>L2.oX (fun _ _ _=>rfl) us hl) ?_ fun f cdv A outer s H vs Q E hr h=>?_
 ·rintro vs H Q E ⟨x,side,top,v,u,d,d',rfl,_⟩;rfl
 obtain ⟨x,side,top,v,u,d,d',rfl,hC,kv,ku,rv,ru,sw,hb,q⟩:=h
 have hu:=hr.units0
 have hu64:=hr.units
 refine ⟨_,(az (CP rfl rfl (fun pins R=>(aA (bu (mY (mg:=mg) rfl (aq 0) T.o_Costs gq (hr.mono (by decide)) vO (aa (aq 1) (aa (aq 2) ao)))))) (Km (K:=K) (i:=3) rfl T.x_NoSpan.c aM (by trivial) p6.nd rfl kz01 (fun x=>(aA (aH (jb (oO (mC (K:=K) rfl hu64) (aB (vR hr.gd hu64) aM T.b_repr Ek (aa (gW (aa (vP (K:=K) rfl (aq 3)) (aa (vP (K:=K) rfl (aq 3)) ao))) ao) (by trivial) (by trivial)) (aB (vR hr.gd hu64) aM T.b_repr Ek (aa (gW (aa (aq 1) (aa (aq 2) ao))) ao) (by trivial) (by trivial)) (by walk_at "p")) (lW (aB (kO (K:=K) rfl) aM T.b_isinstance aQ (aa (aq 3) (aa (ph aM T.b_ValueError wZ (by trivial) (by trivial)) ao)) (by trivial) (by trivial))))))) (Ko (K:=K) rfl T.x_PaneError aM (by trivial) (fun x=>(aA (aH ji))) CN))) (aA (aH ji))),?_⟩
 walk_at "s"
 obtain ⟨ps,pt,dx,ak,hx,_⟩:=id hC
 refine ⟨x,dx,_,rfl,hx,zy (by trivial),?_⟩
 walk_at "s"
 refine ⟨x,side,top,v,u,rfl,hC,kv,ku,?_,?_⟩
 ·intro hv e H2 S2 X2
  refine ⟨_,e,rfl,rfl,?_⟩
  refine Kp T.x_NoSpan.c.cl.cls T.u_NoSpan_NoSpan.mro ?_
  walk_at "s"
  refine ⟨e,_,_,_,rfl,X2,T.x_NoSpan.c.cl.cls,T.x_NoSpan.na _ (by simp),rfl,?_⟩
  walk_at "s"
  refine ⟨e,_,_,_,rfl,X2,T.x_NoSpan.c.cl.cls,T.x_NoSpan.na _ (by simp),rfl,?_⟩
  walk_at "s"
  refine dJ rfl fun p H3 np S3 hp=>?_
  walk_at "s"
  have X3:=X2.same S3
  refine Fj (Mi (RD.same (S2.trans S3) _ _ rv) (RD.same (S2.trans S3) _ _ ru) hp) sw.sh sw.dp sw.sz ?_
  walk_at "s"
  refine dJ rfl fun p' H4 np' S4 hp'=>?_
  walk_at "s"
  have S24:=S2.trans (S3.trans S4)
  refine Fj (Mi (RD.same S24 _ _ rv) (RD.same S24 _ _ ru) hp') sw.sh sw.dp sw.sz ?_
  walk_at "s"
  rw [Yj rfl]
  walk_at "s"
  refine yE (X3.same S4) T.x_NoSpan.c.cl rfl T.v_NoSpan ?_
  walk_at "s"
  exact q _ S24
 ·intro b k e1 e2 hk
  subst e1 e2
  unfold yU inB at hb
  simp at hb
  omega
def Rc (K:W.Frag) (mg:Str->Option Value):Sp:=fun vs H _ E=>∃ v u t:V,vs=[v,u]/\PT K H v/\PT K H u/\((rB v=false/\t=v)\/(rB v=true/\rB u=false/\t=u))/\Qe mg "NoPlain" H E t
theorem Bq:aG ["_law_side","_law_top"] ["_law_side","_law_top"] (au qT):=⟨rfl,rfl,rfl,by trivial,rfl,by trivial,by trivial⟩
theorem Dz (T:Txt K mg):HasX P w K mg base 13 "_law_made" ["_law_side","_law_top"] (Rc K mg):=by
 have dM:=dM (P:=P) (w:=w) (base:=base) T
 have aY:=aY (P:=P) (w:=w) (base:=base) T
 refine xM T.d_law_made Bq (fun _ _ _ _ _ _ us hl=>L2.my (fun _ _=>rfl) us hl) ?_ fun f cdv A outer s H vs Q E hr h=>?_
 ·rintro vs H Q E ⟨v,u,t,rfl,_⟩;rfl
 obtain ⟨v,u,t,rfl,tv,tu,hc,qE⟩:=h
 have hu:=hr.units0
 have hu64:=hr.units
 refine ⟨_,(aA (aH (gC (kh T.o_Costs aY (hr.mono (by decide)) aM dj (aa (aq 0) (aa (aq 1) ao)) (by trivial)) T.o_Costs dM (hr.mono (by decide)) dj))),?_⟩
 walk_at "s"
 intro y dy ny ndy ne
 have S0:Same H (upd (upd H dy (.own y)) y (.ins (aL mg "Costs") dy [])):=fun b o e=>(HQ ny ndy e).1
 refine ⟨y,dy,v,u,rfl,aj,tv.same S0,tu.same S0,fun hv=>?_,fun hv hu'=>?_,fun side top ev eu ps pt=>?_⟩
 ·rcases hc with ⟨_,rfl⟩ | ⟨h,_⟩
  ·exact fun e H1 S1 X2=>qE e H1 (S0.trans S1) X2
  ·rw [hv] at h;cases h
 ·rcases hc with ⟨h,_⟩ | ⟨_,_,rfl⟩
  ·rw [hv] at h;cases h
  ·exact fun e H1 S1 X2=>qE e H1 (S0.trans S1) X2
 ·exfalso
  rcases hc with ⟨h,_⟩ | ⟨_,h,_⟩
  ·rw [ev,ps.pl] at h;cases h
  ·rw [eu,pt.pl] at h;cases h
theorem Qy (T:Txt K mg):WN P w K mg base 20 ["cost","_law_made"] (fun _=>Rc K mg):=fun x hx=>by
 simp only [X7,Yq,or_false] at hx
 rcases hx with rfl | rfl
 ·refine ⟨_,(uq T).weak (by decide) fun vs H Q E h=>?_⟩
  obtain ⟨v,u,t,rfl,tv,tu,hc,qE⟩:=h
  refine ⟨v,u,rfl,tv,tu,fun hv=>?_,fun hv hu'=>?_,fun side top ev eu ps pt=>?_⟩
  ·rcases hc with ⟨_,rfl⟩ | ⟨h,_⟩
   ·exact qE
   ·rw [hv] at h;cases h
  ·rcases hc with ⟨h,_⟩ | ⟨_,_,rfl⟩
   ·rw [hv] at h;cases h
   ·exact qE
  ·exfalso
   rcases hc with ⟨h,_⟩ | ⟨_,h,_⟩
   ·rw [ev,ps.pl] at h;cases h
   ·rw [eu,pt.pl] at h;cases h
 ·exact ⟨_,(Dz T).mono (by decide)⟩
structure W3 (K:W.Frag) (H:Hp) (v:V):Prop where
 t:PT K H v
 s:∃ d,DR H d v/\PySem.SeqAt.shaped d=true
theorem W3.same {H H':Hp} {v:V} (h:W3 K H v) (s:Same H H'):W3 K H' v:=⟨h.t.same s,let ⟨d,a,b⟩:=h.s;⟨d,DR.same s _ _ a,b⟩⟩
def Qz (K:W.Frag) (mg:Str->Option Value):Sp:=fun vs H Q _=>∃ (x:Str) (v u t:V),vs=[.ref (aL mg x),v,u,t]/\x∈(["cost","_law_made"]:List Str)/\PT K H v/\PT K H u/\W3 K H t/\((rB v=false/\t=v)\/(rB v=true/\rB u=false/\t=u))/\∀ H',Same H H'->Q (.bl true) H'
theorem oV:aG ["_law_deed","_law_side","_law_top","_law_wrong","e"] ["_law_deed","_law_side","_law_top","_law_wrong"] (au jo):=⟨rfl,rfl,rfl,by trivial,rfl,by trivial,by trivial⟩
theorem ie (T:Txt K mg):nF P w K mg base 61 "_law_no_plain" ["_law_deed","_law_side","_law_top","_law_wrong"] (Qz K mg):=by
 refine gY T.d_law_no_plain oV (fun _ _ _ _ _ _ us hl=>L2.Ms (fun _ _ _ _=>rfl) us hl) ?_ fun f cdv A outer s H vs Q E hr h=>?_
 ·rintro vs H Q E ⟨x,v,u,t,rfl,_⟩;rfl
 obtain ⟨x,v,u,t,rfl,hm,tv,tu,hW,hc,q⟩:=h
 have hu:=hr.units0
 have hu64:=hr.units
 refine ⟨_,(az (CP rfl rfl (fun pins R=>(aA (bu (O9 (mg:=mg) rfl (aq 0) (Qy (P:=P) (w:=w) (base:=base) T) (hr.mono (by decide)) vO (aa (aq 1) (aa (aq 2) ao)))))) (Km (K:=K) (i:=4) rfl T.x_NoPlain.c aM (by trivial) oV.nd rfl kz02 (fun x=>(aA (aH (jb (oO (mC (K:=K) rfl hu64) (vP (K:=K) rfl (aq 4)) (aq 3) (by walk_at "p")) (jb (aB (kO (K:=K) rfl) aM T.b_isinstance aQ (aa (aq 4) (aa (Ae aM T.x_PaneError.at_ (by trivial)) ao)) (by trivial) (by trivial)) (lW (Em (aB (kO (K:=K) rfl) aM T.b_isinstance aQ (aa (aq 4) (aa (Ae aM T.x_NoSpan.c.at_ (by trivial)) ao)) (by trivial) (by trivial))))))))) (Ko (K:=K) rfl T.x_PaneError aM (by trivial) (fun x=>(aA (aH ji))) CN))) (aA (aH ji))),?_⟩
 walk_at "s"
 refine ⟨x,hm,rfl,?_⟩
 walk_at "s"
 refine ⟨v,u,t,rfl,tv,tu,hc,?_⟩
 intro e H2 S2 X2
 refine ⟨_,e,rfl,rfl,?_⟩
 refine Kp T.x_NoPlain.c.cl.cls T.u_NoPlain_NoPlain.mro ?_
 walk_at "s"
 refine ⟨e,_,_,_,rfl,X2,T.x_NoPlain.c.cl.cls,T.x_NoPlain.na _ (by simp),rfl,?_⟩
 walk_at "s"
 obtain ⟨d,hd,sd⟩:=hW.s
 refine .inl (.inl (zY (DR.same S2 _ _ hd) (DR.same S2 _ _ hd) sd ?_))
 walk_at "s"
 refine yE X2 T.x_NoPlain.c.cl rfl T.u_NoPlain_PaneError.one ?_
 walk_at "s"
 refine yE X2 T.x_NoPlain.c.cl rfl T.u_NoPlain_NoSpan.one ?_
 walk_at "s"
 exact q _ S2
theorem Mj:(["_law_begin","_law_side","_law_top"]:List Str).Nodup:=by trivial
theorem Vf {x:Str} {n:Nat} (h:x.length<=100) (hn:n<=100):MulOk x (n:Int):=by
 have h1:x.length*n<=100*100:=Nat.mul_le_mul h hn
 refine ⟨?_,fun a b=>?_,fun a b=>?_⟩
 ·simp;omega
 ·have:((x.length:Int))<=(2 ^ 63 - 1) / (n:Int):=by
   rw [Int.le_ediv_iff_mul_le (by omega)]
   have:((x.length*n:Nat):Int)<=10000:=by omega
   push_cast at this
   omega
  omega
 ·have e:Int.toNat (n:Int)=n:=by omega
  rw [e]
  have hs2:sizeLine=16777216:=sizeLine_eq
  unfold Builtin.Str.tooLong
  rw [hs2]
  simp
  omega
theorem Vg (z:Str) (k:Nat):(Txt.slice z none (some (k:Int))).length=min k z.length:=by
 have h:=congrArg List.length (Ah z k)
 rw [Aal] at h
 have e1:(Txt.slice z none (some (k:Int))).cps.toList.length=(Txt.slice z none (some (k:Int))).length:=Yv
 have e2:z.cps.toList.length=z.length:=Yv
 rw [e1,e2] at h;exact h
theorem Br (z:Str) (k:Nat):(Txt.slice z (some (k:Int)) none).length=z.length - k:=by
 have h:=congrArg List.length (vQ z k)
 rw [List.length_drop] at h
 have e1:(Txt.slice z (some (k:Int)) none).cps.toList.length=(Txt.slice z (some (k:Int)) none).length:=Yv
 have e2:z.cps.toList.length=z.length:=Yv
 rw [e1,e2] at h;exact h
theorem Vh {z:Str} {k:Nat} {c:Nat} (h:c∈(Txt.slice z none (some (k:Int))).cps.toList):c∈z.cps.toList:=by
 rw [Ah] at h;exact List.mem_of_mem_take h
theorem QB {xs:List V} {lo hi:Option Int} {v:V} (h:v∈sV xs lo hi):v∈xs:=by
 unfold sV at h
 exact List.mem_of_mem_drop (List.mem_of_mem_take h)
theorem Xm {side top:Str} {i:Nat}:zb side (Txt.slice top (some (i:Int)) none) side.cps.size ((Txt.slice top (some (i:Int)) none).cps.size+1)=dH side top i:=by
 have e:(Txt.slice top (some (i:Int)) none).cps.size=top.cps.size - i:=Br top i
 unfold zb dH
 rw [e]
 refine Zx fun k hk=>?_
 have hk:=YC.mp hk
 congr 1
 refine Gd (m:=side.cps.size) (n:=top.cps.size - i) (fun a b _ hb=>?_) _ (XQ _) _ (by omega)
 unfold uD
 rw [← Vs (Txt.slice top (some (i:Int)) none),← Vs top,vQ,Aao,X6,List.getElem?_drop,← X6]
theorem zq {g g':Nat->Nat->Bool} (h:∀ i k,g i k=g' k i):∀ i k,dd g 0 i k=dd g' 0 k i
 | 0,k=>by rw [Bm,Dw]
 | i+1,0=>by rw [Bm,Dw]
 | i+1,k+1=>by
  rw [Bo,Bo,zq h i (k+1),zq h (i+1) k,zq h i k,h i (0+k)]
  simp only [Aao]
  generalize (if g' k i=true then 0 else 1)=c
  omega
theorem QC (a b:Str) (i k:Nat):uD a b i k=uD b a k i:=by
 unfold uD
 exact decide_eq_decide.mpr eq_comm
theorem zr {g:Nat->Nat->Bool} {n:Nat} (h:∀ i,i < n->g i i=true):∀ i,i<=n->dd g 0 i i=0
 | 0,_=>by rw [Bm]
 | i+1,hi=>by
  rw [Bo,zr h i (by omega),Aao,Aao,h i (by omega),if_pos rfl]
  omega
theorem Ml (a:Str) (i:Nat):uD a a i i=true:=by unfold uD;exact Yj rfl
theorem QD (a b:Str) {i:Nat} (hi:i < a.cps.size):uD a (a ++ b) i i=true:=by
 unfold uD
 refine Yj ?_
 rw [← Vs a,← Vs (a ++ b),cps_append,X6,X6,Ye (by rw [Yv];exact hi)]
theorem HY {side top:Str}:uU ((dH side top 0).map V.int) (-1)=some (.int (D2 side top 0 top.cps.size)):=uo (n:=top.cps.size) (by rw [X8,jt];rfl) (by rw [XX,pX (by omega)];rfl)
theorem Pln.app {side top:Str} (hs:Pln side) (ht:Pln top) {z:Str} (hz:z.length+top.length<=24) (hm:∀ c∈z.cps.toList,c∈side.cps.toList):Pln (top ++ z):=⟨by have:=wk top z;have e:∀ y:Str,y.length=y.cps.size:=fun _=>rfl;rw [e] at hz ⊢;rw [e] at hz;omega,fun c hc=>by
 rw [cps_append] at hc
 rcases Zb.mp hc with h | h
 ·exact ht.2 c h
 ·exact hs.2 c (hm c h)⟩
structure NS (K:W.Frag) (H:Hp) (n:Nat) (t:V):Prop where
 ex:∃ (a:Addr) (v u:V) (d d':PyData),t= .ref a/\H a=some (.tup [v,u])/\Kd K H v/\Kd K H u/\RD H d v/\RD H d' u/\Shw d d'/\yU v u (n:Int)=false
theorem shw6:∀ n∈List.range 26,(PyData.list [.int 0,.int ((n:Int)+1)]).showable=true/\(PyData.list [.int 0,.int ((n:Int)+1)]).depth<=60/\(PyData.list [.int 0,.int ((n:Int)+1)]).shown.length<=sizeLine:=by trivial
theorem W3.of {H:Hp} {v:V} {d:PyData} (h:Thing K H v) (hb:rB v=false) (hd:DR H d v) (sd:PySem.SeqAt.shaped d=true):W3 K H v:=⟨⟨h,fun e=>by rw [hb] at e;cases e⟩,d,hd,sd⟩
theorem zu {H:Hp} {side top:Str} {Q:VK} {E:XK} (hs:Pln side) (ht:Pln top) (q:∀ H',Same H H'->Q (.int (D2 side top 0 top.cps.size)) H'):LK K mg [.str side,.str top] H Q E:=
 ⟨.str side,.str top,rfl,hs.pt,ht.pt,fun hv=>by (rw [hs.pl] at hv;cases hv),fun _ hu=>by (rw [ht.pl] at hu;cases hu),fun s t es et _ _ H' S'=>by
  rw [← V.str.inj es,← V.str.inj et]
  exact q H' S'⟩
theorem Vi {side top:Str}:D2 top side 0 side.cps.size=D2 side top 0 top.cps.size:=by
 unfold D2
 rw [zq (QC top side)]
theorem QF {top:Str}:D2 top top 0 top.cps.size=0:=by
 unfold D2
 rw [zr (fun i _=>Ml top i) _ (XQ _)];rfl
def Rf (K:W.Frag):Sp:=fun vs H Q _=>∃ (a:Addr) (ns:List Int),vs=[.ref a]/\SqL K H a (ns.map V.int)/\∀ H',Q (.bl true) H'
theorem jx:aG ["_law_script","_law_side","_law_top","_law_table","_law_costs","_law_other","_law_cell","_law_begin","_law_end","_law_wrong","_law_deed","_law_whole"] ["_law_script"] (au xW):=⟨rfl,rfl,rfl,by trivial,rfl,by trivial,by trivial⟩
theorem Vj (T:Txt K mg) {f0:Addr} {fd0:FuncData} (F0:Fun K "law" "law" xW f0 fd0):FnOk P w K mg base GC 62 f0 fd0 ["_law_script"] (Rf K):=by
 have ql:=ql (P:=P) (w:=w) (base:=base) T
 have iQ:=iQ (P:=P) (w:=w) (base:=base) T
 have rm:=rm (P:=P) (w:=w) (base:=base) T
 have pZ:=pZ (P:=P) (w:=w) (base:=base) T
 have aY:=aY (P:=P) (w:=w) (base:=base) T
 have iY:=iY (P:=P) (w:=w) (base:=base) T
 have bI:=bI (P:=P) (w:=w) (base:=base) T
 have bG:=bG (P:=P) (w:=w) (base:=base) T
 have gq:=gq (P:=P) (w:=w) (base:=base) T
 have rn:=rn (P:=P) (w:=w) (base:=base) T
 have mQ:=mQ (P:=P) (w:=w) (base:=base) T
 have ie:=ie (P:=P) (w:=w) (base:=base) T
 have uq:=uq (P:=P) (w:=w) (base:=base) T
 refine okJ F0 jx ?_ fun f cdv A outer s H vs Q E hr h=>?_
 ·rintro vs H Q E ⟨a,ns,rfl,_⟩;rfl
 obtain ⟨a,ns,rfl,hS,q⟩:=h
 have hu:=hr.units0
 have hu64:=hr.units
 refine ⟨_,(az (aK (i:=1) jx.nd rfl Mq (aJ ql (hr.mono (by decide)) aM (aa (aJ iQ (hr.mono (by decide)) aM (aa (aq 0) (aa aC ao)) (by trivial)) (aa aC ao)) (by trivial)) rfl) (az (aK (i:=2) jx.nd rfl Mq (aJ ql (hr.mono (by decide)) aM (aa (aJ iQ (hr.mono (by decide)) aM (aa (aq 0) (aa aC ao)) (by trivial)) (aa aC ao)) (by trivial)) rfl) (az (Er (i:=3) jx.nd rfl fW (sub:=[none,some 1,some 2]) (cY (N:=["_law_script","_law_side","_law_top","_law_table","_law_costs","_law_other","_law_cell","_law_begin","_law_end","_law_wrong","_law_deed","_law_whole"]) (sc:=au xW) (N':=["_law_begin","_law_side","_law_top"]) (by trivial)) rfl rfl rfl (bJ aM T.b_range (aa (aV aP (aB (aF (K:=K) rfl) aM T.b_len aO (aa (aX 2) ao) (by trivial) (by trivial)) aC) ao)) (fun C s₀ H₀ ex=>(mW 0 (by trivial) Mj)) (fun C s₀ H₀ ex=>dI) (fun C s₀ H₀ ex=>(aJ rm (hr.mono (by decide)) (Ej (by trivial)) (aa (fQ 1 (by trivial)) (aa (yx (yJ (K:=K) rfl) (fQ 2 (by trivial)) (uV (dF 0 (by trivial))) En) ao)) (by trivial))) rfl) (az (dG (cL (cM (aJ pZ (hr.mono (by decide)) aM (aa (aX 1) (aa (aX 2) (aa (aq 3) ao))) (by trivial)))) (aA (aH ji)) cX) (az (aK (i:=4) jx.nd rfl fW (kh T.o_Costs aY (hr.mono (by decide)) aM (gw fun _ _=>rfl) (aa (aX 1) (aa (aX 2) ao)) (by trivial)) rfl) (az (aK (i:=5) jx.nd rfl fW (kh T.o_Costs aY (hr.mono (by decide)) aM (gw fun _ _=>rfl) (aa (aX 2) (aa (aV aP (aX 2) (yx (yJ (K:=K) rfl) (aX 1) En (uV (aV fY aC (aB (aF (K:=K) rfl) aM T.b_len aO (aa (aX 2) ao) (by trivial) (by trivial)))))) ao)) (by trivial)) rfl) (az (dG (j7 (Tr (fZ (mC (K:=K) rfl hu64) (aV jB (aJ iQ (hr.mono (by decide)) aM (aa (aq 0) (aa aC ao)) (by trivial)) aC) aC (by walk_at "p")) (N7 (cL (cM (aJ iY (hr.mono (by decide)) aM (aa (aq 4) (aa (aq 3) ao)) (by trivial))))))) (aA (aH ji)) cX) (az (fH Yx rfl (lq (K:=K) rfl (yx (yJ (K:=K) rfl) (aq 0) (uV aC) (uV aC))) (bj (i:=6) jx.nd rfl fW rfl) (az (aK (i:=7) jx.nd rfl fW (aV fY (aV jB (aV lQ (aq 6) aC) (aV aP (aB (aF (K:=K) rfl) aM T.b_len aO (aa (aX 2) ao) (by trivial) (by trivial)) aC)) aC) rfl) (az (aK (i:=8) jx.nd rfl fW (aV fY (aV jB (aV lQ (aq 6) aC) (aV aP (aB (aF (K:=K) rfl) aM T.b_len aO (aa (aX 2) ao) (by trivial) (by trivial)) aC)) aC) rfl) (az (dG (j7 (jU (cL (cM (aJ bI (hr.mono (by decide)) aM (aa (aq 4) (aa (aq 3) (aa (aq 7) (aa (aq 8) ao)))) (by trivial)))) (iV (cL (cM (aJ bG (hr.mono (by decide)) aM (aa (nO (aq 5) T.o_Costs gq (hr.mono (by decide)) (gw fun _ _=>rfl) (aa aC (aa (aB (aF (K:=K) rfl) aM T.b_len aO (aa (aX 2) ao) (by trivial) (by trivial)) ao))) (aa aC ao)) (by trivial))))))) (aA (aH ji)) cX) (aA (dG (cL (cM (aJ bI (hr.mono (by decide)) aM (aa (aq 4) (aa (aq 3) (aa (aB (jc rfl (pC hu64)) aM T.b_min o7 (aa (aq 7) (aa (aq 8) ao)) (by trivial) (by trivial)) (aa (aB (sO rfl) aM T.b_max Cm (aa (aq 7) (aa (aq 8) ao)) (by trivial) (by trivial)) ao)))) (by trivial)))) (aA (aH ji)) cX)))))) (az (dG (j7 (jU (cL (cM (aJ rn (hr.mono (by decide)) aM (aa (aq 4) (aa (aq 3) (aa (aX 1) (aa (aX 2) ao)))) (by trivial)))) (iV (cL (cM (aJ iY (hr.mono (by decide)) aM (aa (aq 4) (aa (aq 3) ao)) (by trivial))))))) (aA (aH ji)) cX) (az (fH Yx rfl (lq (K:=K) rfl (gW (aa (jy (aa zX (aa aC ao))) (aa (jy (aa aC (aa oN ao))) (aa (jy (aa ji (aa aC ao))) (aa (jy (aa aC (aa (gW (aa aC ao)) ao))) (aa (jy (aa (GQ sI aC) (aa aC ao))) (aa (jy (aa aC (aa (aV aP (aB (aF (K:=K) rfl) aM T.b_len aO (aa (aX 2) ao) (by trivial) (by trivial)) aC) ao))) ao)))))))) (lu (K:=K) rfl rfl (bK (bj (i:=7) jx.nd rfl fW rfl) (bK (bj (i:=8) jx.nd rfl fW rfl) jl))) (aA (dG (cL (cM (aJ mQ (hr.mono (by decide)) aM (aa (aq 4) (aa (aq 7) (aa (aq 8) ao))) (by trivial)))) (aA (aH ji)) cX))) (az (fH Yx rfl (lq (K:=K) rfl (gW (aa zX (aa aC (aa ji (aa oN (aa oN (aa oN (aa (aV iR oN aC) (aa (gW (aa oN ao)) (aa oN ao))))))))))) (bj (i:=9) jx.nd rfl fW rfl) (aA (fH Yx rfl (lq (K:=K) rfl (gW (aa (Ae aM T.d_cost.at_ (by trivial)) (aa (Ae aM T.d_law_made.at_ (by trivial)) ao)))) (bj (i:=10) jx.nd rfl fW rfl) (az (dG (j7 (jU (cL (cM (aJ ie (hr.mono (by decide)) aM (aa (aq 10) (aa (aq 9) (aa (aX 2) (aa (aq 9) ao)))) (by trivial)))) (iV (cL (cM (aJ ie (hr.mono (by decide)) aM (aa (aq 10) (aa (aX 1) (aa (aq 9) (aa (aq 9) ao)))) (by trivial))))))) (aA (aH ji)) cX) (aA (dG (cL (cM (aJ ie (hr.mono (by decide)) aM (aa (aq 10) (aa (aq 9) (aa oN (aa (aq 9) ao)))) (by trivial)))) (aA (aH ji)) cX)))))) (az (aK (i:=11) jx.nd rfl fW (c7 (K:=K) rfl (c7 (K:=K) rfl (aq 3) aC) (GQ sI aC)) rfl) (aA (aH (jb (aJ bG (hr.mono (by decide)) aM (aa (jm uq (hr.mono (by decide)) aM (gw fun _ _=>rfl) (aa (aX 1) (aa (aX 2) ao)) (by trivial)) (aa (aq 11) ao)) (by trivial)) (jb (aJ bG (hr.mono (by decide)) aM (aa (jm uq (hr.mono (by decide)) aM (gw fun _ _=>rfl) (aa (aX 2) (aa (aX 1) ao)) (by trivial)) (aa (aq 11) ao)) (by trivial)) (lW (oO (mC (K:=K) rfl hu64) (jm uq (hr.mono (by decide)) aM (gw fun _ _=>rfl) (aa (aX 2) (aa (aX 2) ao)) (by trivial)) aC (by walk_at "p"))))))))))))))))))),?_⟩
 walk_at "s"
 have hz:20000<=sizeLine:=by decide
 refine ⟨a,ns,0,rfl,hS,by omega,fun c0=>?_⟩
 walk_at "s"
 refine ⟨c0,rfl,fun side H1 S1 hs=>?_⟩
 walk_at "s"
 refine ⟨a,ns,1,rfl,S1.seq hS,by omega,fun c1=>?_⟩
 walk_at "s"
 refine ⟨c1,rfl,fun top H2 S2 ht=>?_⟩
 walk_at "s"
 have a1:side.length<=24:=hs.1
 have a2:top.length<=24:=ht.1
 have e2:top.length=top.cps.size:=rfl
 refine dh (by omega) ?_
 walk_at "s"
 refine ⟨_,rfl,by omega,by omega,?_⟩
 rw [show ((top.length:Int)+1).toNat=top.cps.size+1 by omega]
 refine f9 (n:=top.cps.size+1) (fun i ys G=>Same H2 G/\CT G ys i (dH side top)) (by omega) ⟨Same.refl _,rfl,fun k hk=>absurd hk (Zz _)⟩ ?_ ?_ ?_
 ·rintro i ys G ⟨_,h,_⟩
  omega
 ·rintro i ys G hi ⟨sG,hl,hys⟩
  walk_at "s"
  refine ⟨KeepSt.set rfl,?_⟩
  walk_at "s"
  refine KZ (by omega) ?_
  walk_at "s"
  rw [show (0:Int)+(i:Int)=(i:Int) by omega]
  have lr:=Br top i
  refine ⟨side,Txt.slice top (some (i:Int)) none,rfl,a1,by omega,fun r G2 nr sr hrr=>?_⟩
  walk_at "s"
  rw [Xm] at hrr
  refine ⟨sG.trans sr,by simp;omega,fun k hk=>?_⟩
  by_cases ek:k=i
  ·subst ek
   exact ⟨r,by rw [Yn (by omega),hl,Zm];rfl,hrr⟩
  ·obtain ⟨b,e,hb⟩:=hys k (by omega)
   exact ⟨b,by rw [Ye (by omega)];exact e,sr _ _ hb⟩
 rintro ys G D H3 ⟨sG,hl,hys⟩ nD S3 hD
 try walk_at "s"
 have hT3:Tbl H3 D side top:=⟨ys,hD,hl,fun k hk=>by
  obtain ⟨b,e,hb⟩:=hys k hk
  exact ⟨b,e,S3 _ _ hb⟩⟩
 have U3:Same H H3:=S1.trans (S2.trans (sG.trans S3))
 have hS3:=U3.seq hS
 clear hys nD hD hl S1 S2 S3 sG U3
 refine ⟨side,top,D,rfl,hs,ht,hT3,fun H4 S4=>?_⟩
 walk_at "s"
 refine pY hs ht fun x H5 S5 hC=>?_
 walk_at "s"
 refine dh (by omega) ?_
 walk_at "s"
 have lt1:=Vg side (24 - top.cps.size)
 rw [show (24:Int) - (top.length:Int)=((24 - top.cps.size:Nat):Int) by omega]
 refine KZ (by omega) ?_
 walk_at "s"
 have hoth:Pln (top ++ Txt.slice side none (some ((24 - top.cps.size:Nat):Int))):=hs.app ht (by omega) fun c hc=>Vh hc
 have loth:=hoth.1
 refine yw (by omega) ?_
 walk_at "s"
 refine pY ht hoth fun y H6 S6 hO=>?_
 walk_at "n"
 have hap:∀ i,i < top.cps.size->uD top (top ++ Txt.slice side none (some ((24 - top.cps.size:Nat):Int))) i i=true:=fun i hi=>QD _ _ hi
 have loth2:top.cps.size<=(top ++ Txt.slice side none (some ((24 - top.cps.size:Nat):Int))).cps.size:=by rw [wk];omega
 generalize top ++ Txt.slice side none (some ((24 - top.cps.size:Nat):Int))=oth at hoth loth hO hap loth2 ⊢
 have U6:=S4.trans (S5.trans S6)
 have hC6:=hC.same S6
 have hT6:=hT3.same U6
 have hS6:=U6.seq hS3
 clear hC hT3 hS3 U6 S4 S5 S6
 with_reducible refine Kr (fun U H7=>Same H6 H7/\U=[some (.ref a),some (.str side),some (.str top),some (.ref D),some (.ref x),some (.ref y),none,none,none,none,none,none]) ?_ ?_
 rotate_left
 ·intro N hN
  walk_at "n"
  refine ⟨a,ns,2,rfl,hS6,by omega,fun c2=>?_⟩
  walk_at "n"
  refine qH (fun h=>?_) (fun h=>?_)
  ·walk_at "n"
   refine ⟨x,D,side,top,rfl,hC6,hT6,fun H8 S8=>?_⟩
   walk_at "n"
   exact hN _ _ ⟨S8,rfl⟩
  ·walk_at "n"
   exact hN _ _ ⟨Same.refl _,rfl⟩
 rintro U H8 ⟨S8,rfl⟩
 have hC8:=hC6.same S8
 have hO8:=hO.same S8
 have hT8:=hT6.same S8
 have hS8:=S8.seq hS6
 clear hC6 hO hT6 hS6 S8
 walk_at "s"
 refine .inl (Wi hS8 fun sl nsl=>?_)
 walk_at "s"
 have S9:=(Same.refl H8).upd nsl (o:=.lst (sV (ns.map V.int) (some 2) (some 63)))
 have hsl:=aj (H:=H8) (a:=sl) (o:=.lst (sV (ns.map V.int) (some 2) (some 63)))
 generalize upd H8 sl (.lst (sV (ns.map V.int) (some 2) (some 63)))=H9 at S9 hsl ⊢
 have hC9:=hC8.same S9
 have hO9:=hO8.same S9
 have hT9:=hT8.same S9
 clear hC8 hO8 hT8 hS8 S9
 refine .inl ⟨sl,rfl,⟨_,SqL.of hsl⟩,?_⟩
 refine mU (xs:=sV (ns.map V.int) (some 2) (some 63)) (fun k U G=>Same H9 G/\∃ x6 x7 x8 x9 x10 x11,U=[some (.ref a),some (.str side),some (.str top),some (.ref D),some (.ref x),some (.ref y),x6,x7,x8,x9,x10,x11])
  ⟨Same.refl H9,_,_,_,_,_,_,rfl⟩ (fun i U G _ h=>SqL.of (h.1 _ _ hsl)) ?_ ?_
 ·rintro k v U G hv ⟨s,x6,x7,x8,x9,x10,x11,rfl⟩
  obtain ⟨c,_,rfl⟩:=YZ.mp (QB (YG hv))
  have hCg:=hC9.same s
  have hOg:=hO9.same s
  have hTg:=hT9.same s
  walk_at "s"
  refine dh (by omega) ?_
  walk_at "s"
  refine dh (by omega) ?_
  walk_at "s"
  refine ⟨x,D,side,top,_,_,rfl,hCg,hTg,fun G1 s1=>?_⟩
  walk_at "s"
  have hO1:=hOg.same s1
  obtain ⟨_,_,dy,ay,hy,_⟩:=id hO1
  refine ⟨y,dy,_,rfl,hy,zy (by trivial),?_⟩
  walk_at "s"
  refine dh (by omega) ?_
  walk_at "s"
  refine ⟨y,top,oth,.int 0,.int (top.length:Int),rfl,hO1,.inl ⟨_,rfl⟩,.inl ⟨_,rfl⟩,fun hv=>?_,fun b k e1 e2' h=>?_⟩
  ·unfold yU inB at hv
   simp at hv
   omega
  obtain rfl:b=0:=by injection e1 with e1;omega
  obtain rfl:k=top.cps.size:=by injection e2' with e2';omega
  have eD:D2 top oth 0 top.cps.size=0:=by
   unfold D2
   rw [zr hap _ (XQ _)];rfl
  rw [eD]
  walk_at "s"
  refine ⟨_,rfl,?_⟩
  walk_at "s"
  refine ⟨x,D,side,top,_,_,rfl,hCg.same s1,hTg.same s1,fun G2 s2=>?_⟩
  walk_at "s"
  exact ⟨s.trans (s1.trans s2),_,_,_,_,_,_,rfl⟩
 rintro U L0 ⟨s,x6,x7,x8,x9,x10,x11,rfl⟩
 have hC0:=hC9.same s
 have hT0:=hT9.same s
 clear hC9 hO9 hT9 s hsl
 walk_at "s"
 refine ⟨x,D,side,top,rfl,hC0,hT0,fun L1 l1=>?_⟩
 walk_at "s"
 refine ⟨x,D,side,top,rfl,hC0.same l1,hT0.same l1,fun L2 l2=>?_⟩
 walk_at "s"
 have hC2:=hC0.same (l1.trans l2)
 have hT2:=hT0.same (l1.trans l2)
 clear l1 hC0 hT0
 refine dJ rfl fun t1 M1 _ m1 ht1=>?_
 walk_at "s"
 refine dJ rfl fun t2 M2 _ m2 ht2=>?_
 walk_at "s"
 refine dJ rfl fun t3 M3 _ m3 ht3=>?_
 walk_at "s"
 refine dJ rfl fun l0 M4 _ m4 hl0=>?_
 walk_at "s"
 refine dJ rfl fun t4 M5 _ m5 ht4=>?_
 walk_at "s"
 refine dJ rfl fun t5 M6 _ m6 ht5=>?_
 walk_at "s"
 refine dh (by omega) ?_
 walk_at "s"
 refine dJ rfl fun t6 M7 _ m7 ht6=>?_
 walk_at "s"
 refine dJ rfl fun w0 M8 _ m8 hw0=>?_
 walk_at "s"
 have u7:=m8
 have u6:=m7.trans u7
 have u5:=m6.trans u6
 have u4:=m5.trans u5
 have u3:=m4.trans u4
 have u2:=m3.trans u3
 have u1:=m2.trans u2
 have u0:=m1.trans u1
 have hN:∀ v∈([.ref t1,.ref t2,.ref t3,.ref t4,.ref t5,.ref t6]:List V),NS K M8 top.cps.size v:=fun v hv=>by
  simp only [X7,Yq,or_false] at hv
  rcases hv with rfl | rfl | rfl | rfl | rfl | rfl
  ·exact ⟨t1,_,_,.none,.int 0,rfl,u1 _ _ ht1,.inr (.inr ⟨_,.non,by rfl⟩),.inl ⟨_,rfl⟩,by rw [RD],by rw [RD],⟨by trivial,by trivial,by trivial⟩,rfl⟩
  ·exact ⟨t2,_,_,.int 0,.str (Str.ofString "0"),rfl,u2 _ _ ht2,.inl ⟨_,rfl⟩,.inr (.inr ⟨_,.str _,by rfl⟩),by rw [RD],by rw [RD],⟨by trivial,by trivial,by trivial⟩,by unfold yU inB;simp⟩
  ·exact ⟨t3,_,_,.bool false,.int 0,rfl,u3 _ _ ht3,.inr (.inl ⟨_,rfl⟩),.inl ⟨_,rfl⟩,by rw [RD],by rw [RD],⟨by trivial,by trivial,by trivial⟩,rfl⟩
  ·exact ⟨t4,_,_,.int 0,.list [.int 0],rfl,u5 _ _ ht4,.inl ⟨_,rfl⟩,.inr (.inr ⟨_,.lst (u4 _ _ hl0),by rfl⟩),by rw [RD],Fg.mpr ⟨l0,_,rfl,u4 _ _ hl0,yH (Ub.mpr rfl) (Fi.mpr rfl)⟩,⟨by trivial,by trivial,by trivial⟩,by unfold yU inB;simp⟩
  ·exact ⟨t5,_,_,.int (-1),.int 0,rfl,u6 _ _ ht5,.inl ⟨_,rfl⟩,.inl ⟨_,rfl⟩,by rw [RD],by rw [RD],⟨by trivial,by trivial,by trivial⟩,by unfold yU inB;simp⟩
  ·obtain ⟨w1,w2,w3⟩:=shw6 top.cps.size (YC.mpr (by omega))
   exact ⟨t6,_,_,.int 0,.int ((top.cps.size:Int)+1),rfl,u7 _ _ ht6,.inl ⟨_,rfl⟩,.inl ⟨_,rfl⟩,by rw [RD],by rw [RD];rfl,⟨w1,w2,w3⟩,by unfold yU inB;simp;omega⟩
 have hC8:=hC2.same u0
 have hT8:=hT2.same u0
 clear u0 u1 u2 u3 u4 u5 u6 u7 m1 m2 m3 m4 m5 m6 m7 m8 ht1 ht2 ht3 ht4 ht5 ht6 hl0 hC2 hT2
 refine .inl ⟨w0,rfl,⟨_,SqL.of hw0⟩,?_⟩
 refine mU (xs:=[.ref t1,.ref t2,.ref t3,.ref t4,.ref t5,.ref t6]) (fun k U G=>Same M8 G/\∃ x6 x7 x8 x9 x10 x11,U=[some (.ref a),some (.str side),some (.str top),some (.ref D),some (.ref x),some (.ref y),x6,x7,x8,x9,x10,x11])
  ⟨Same.refl M8,_,_,_,_,_,_,rfl⟩ (fun i U G _ h=>SqL.of (h.1 _ _ hw0)) ?_ ?_
 ·rintro k v U G hv ⟨s,x6,x7,x8,x9,x10,x11,rfl⟩
  obtain ⟨ta,p,r,d,d',rfl,hta,kp,kr,rp,rr,sw,hb⟩:=(hN v (YG hv)).ex
  refine ⟨ta,[p,r],rfl,SqT.of (s _ _ hta),rfl,?_⟩
  walk_at "s"
  refine ⟨x,side,top,p,r,d,d',rfl,hC8.same s,kp.same s,kr.same s,RD.same s _ _ rp,RD.same s _ _ rr,sw,hb,fun G2 s2=>?_⟩
  walk_at "s"
  exact ⟨s.trans s2,_,_,_,_,_,_,rfl⟩
 rintro U L3 ⟨s,x6,x7,x8,x9,x10,x11,rfl⟩
 have hT3:=hT8.same s
 clear hN hw0 hC8 s hT8
 walk_at "s"
 refine Tp (Vf (n:=25) (by trivial) (by decide)) ?_
 walk_at "s"
 refine dJ rfl fun la L4 _ s4 hla=>?_
 walk_at "s"
 refine dJ rfl fun w2 L5 _ s5 hw2=>?_
 walk_at "s"
 have hW:∀ v∈([.non,.int 7,.bl true,.str (Str.ofString "A"),.str (Str.ofString "a.b"),.str (Str.ofString "."),.str (Txt.mul (Str.ofString "a") 25),.ref la,.str (Str.ofString "a b")]:List V),W3 K L5 v/\rB v=false:=fun v hv=>by
  simp only [X7,Yq,or_false] at hv
  rcases hv with rfl | rfl | rfl | rfl | rfl | rfl | rfl | rfl | rfl
  ·exact ⟨.of (d:=.none) (.inr ⟨_,.non,by rfl⟩) rfl (by rw [DR]) (by rfl),rfl⟩
  ·exact ⟨.of (d:=.int 7) (.inr ⟨_,.int _,by rfl⟩) rfl (by rw [DR]) (by rfl),rfl⟩
  ·exact ⟨.of (d:=.bool true) (.inr ⟨_,.bl _,by rfl⟩) rfl (by rw [DR]) (by rfl),rfl⟩
  ·exact ⟨.of (d:=.str (Str.ofString "A")) (.inl ⟨_,rfl,by trivial⟩) (by trivial) (by rw [DR]) (by trivial),by trivial⟩
  ·exact ⟨.of (d:=.str (Str.ofString "a.b")) (.inl ⟨_,rfl,by trivial⟩) (by trivial) (by rw [DR]) (by trivial),by trivial⟩
  ·exact ⟨.of (d:=.str (Str.ofString ".")) (.inl ⟨_,rfl,by trivial⟩) (by trivial) (by rw [DR]) (by trivial),by trivial⟩
  ·exact ⟨.of (d:=.str (Txt.mul (Str.ofString "a") 25)) (.inl ⟨_,rfl,by trivial⟩) (by trivial) (by rw [DR]) (by trivial),by trivial⟩
  ·exact ⟨.of (d:=.list [.str (Str.ofString "a")]) (.inr ⟨_,.lst (s5 _ _ hla),by rfl⟩) rfl (by rw [DR];exact ⟨la,_,rfl,s5 _ _ hla,by rw [DRs];exact ⟨_,_,rfl,by rw [DR],by rw [DRs]⟩⟩) (by trivial),rfl⟩
  ·exact ⟨.of (d:=.str (Str.ofString "a b")) (.inl ⟨_,rfl,by trivial⟩) (by trivial) (by rw [DR]) (by trivial),by trivial⟩
 have zZ:∀ {H:Hp},PT K H (.str (Str.ofString "Z")):=fun {H}=>⟨.inl ⟨_,rfl,by trivial⟩,fun h=>absurd h (by trivial)⟩
 have hT5:=hT3.same (s4.trans s5)
 clear s4 s5 hla hT3
 refine .inl ⟨w2,rfl,⟨_,SqL.of hw2⟩,?_⟩
 refine mU (xs:=[.non,.int 7,.bl true,.str (Str.ofString "A"),.str (Str.ofString "a.b"),.str (Str.ofString "."),.str (Txt.mul (Str.ofString "a") 25),.ref la,.str (Str.ofString "a b")]) (fun k U G=>Same L5 G/\∃ x6 x7 x8 x9 x10 x11,U=[some (.ref a),some (.str side),some (.str top),some (.ref D),some (.ref x),some (.ref y),x6,x7,x8,x9,x10,x11])
  ⟨Same.refl L5,_,_,_,_,_,_,rfl⟩ (fun i U G _ h=>SqL.of (h.1 _ _ hw2)) ?_ ?_
 ·rintro k v U G hv ⟨s,x6,x7,x8,x9,x10,x11,rfl⟩
  obtain ⟨hw,hno⟩:=hW v (YG hv)
  replace hw:=hw.same s
  walk_at "s"
  refine dJ rfl fun w3 G1 _ s1 hw3=>?_
  walk_at "s"
  replace hw:=hw.same s1
  refine .inl ⟨w3,rfl,⟨_,SqL.of hw3⟩,?_⟩
  refine mU (xs:=[.ref (aL mg "cost"),.ref (aL mg "_law_made")]) (fun k U G=>Same G1 G/\∃ x6 x7 x8 x10 x11,U=[some (.ref a),some (.str side),some (.str top),some (.ref D),some (.ref x),some (.ref y),x6,x7,x8,some v,x10,x11])
   ⟨Same.refl G1,_,_,_,_,_,rfl⟩ (fun i U G _ h=>SqL.of (h.1 _ _ hw3)) ?_ ?_
  ·rintro k' f U G2 hf ⟨s2,z6,z7,z8,z10,z11,rfl⟩
   obtain ⟨g,hg,rfl⟩:∃ g:Str,g∈(["cost","_law_made"]:List Str)/\f= .ref (aL mg g):=by
    have:=YG hf
    simp only [X7,Yq,or_false] at this
    rcases this with rfl | rfl
    ·exact ⟨_,by simp,rfl⟩
    ·exact ⟨_,by simp,rfl⟩
   have hw:=hw.same s2
   walk_at "s"
   refine ⟨g,v,.str top,v,rfl,hg,hw.t,ht.pt,hw,.inl ⟨hno,rfl⟩,fun G3 s3=>?_⟩
   walk_at "s"
   have hw:=hw.same s3
   refine ⟨g,.str side,v,v,rfl,hg,hs.pt,hw.t,hw,.inr ⟨hs.pl,hno,rfl⟩,fun G4 s4=>?_⟩
   walk_at "s"
   have hw:=hw.same s4
   refine ⟨g,v,.str (Str.ofString "Z"),v,rfl,hg,hw.t,zZ,hw,.inl ⟨hno,rfl⟩,fun G5 s5=>?_⟩
   walk_at "s"
   exact ⟨s2.trans (s3.trans (s4.trans s5)),_,_,_,_,_,rfl⟩
  rintro U G2 ⟨s2,z6,z7,z8,z10,z11,rfl⟩
  exact ⟨s.trans (s1.trans s2),_,_,_,_,_,_,rfl⟩
 rintro U L6 ⟨s,x6,x7,x8,x9,x10,x11,rfl⟩
 obtain ⟨rs,hD,hc⟩:=hT5.same s
 obtain ⟨r0,er,hr0⟩:=hc.2 0 (by omega)
 walk_at "s"
 refine aN (SqL.of hD) (bh (j:=0) er) ?_
 walk_at "s"
 refine aN (SqL.of hr0) HY ?_
 walk_at "s"
 refine zu hs ht fun L7 s7=>?_
 walk_at "s"
 refine ⟨_,rfl,?_⟩
 walk_at "s"
 refine zu ht hs fun L8 s8=>?_
 rw [Vi]
 walk_at "s"
 refine ⟨_,rfl,?_⟩
 walk_at "s"
 refine zu ht ht fun L9 s9=>?_
 rw [QF]
 walk_at "s"
 rw [Yj rfl]
 exact q _
end
end My
namespace PySem.W.Fast
def tw13378020125289957681:=0
def tw17169928732404778243:=0
def tw1170521587279176250:=0
def tw4240029377567211293:=0
def tw2156799845525064078:=0
def tw10530833096780993258:=0
def tw14763195228048325678:=0
def tw1143795482046859810:=0
def tw11889552305270955039:=0
def tw2808193837845343101:=0
def tw2247923566840131182:=0
def tw8576744034313691007:=0
def tw12473905146362345323:=0
def tw9446316551967874470:=0
def tw13164965443537297681:=0
def tw1045647695616102725:=0
def tw8208160191465672632:=0
def tw8000921425907862702:=0
def tw18062633749701736821:=0
def tw12955833564897676724:=0
def tw8697774862827480669:=0
def tw12720378067539324593:=0
def tw9821101445035597231:=0
def tw2959228521335540433:=0
def tw17589896101751030934:=0
def tw4542240185501640842:=0
def tw7241010263710453180:=0
def tw10415462309338415670:=0
def tw1116467691382363862:=0
def tw1687213354478139367:=0
def tw12658570496732948635:=0
def tw16813061614266160939:=0
def tw16954500701462545993:=0
def tw5618965332541575349:=0
def tw4299178315377862707:=0
def tw10063625124644411416:=0
def tw15194535566144135606:=0
def tw5517823322909371119:=0
def tw5558394948175069433:=0
def tw13059183497835603715:=0
def tw5269286075002493849:=0
def tw11008209415369816209:=0
def tw3279956191266677806:=0
def tw10070368760589718627:=0
def tw2629758515357460994:=0
def tw14126662135946696655:=0
def tw11552636644362000195:=0
def tw15621000805963188999:=0
def tw16053066599500087386:=0
def tw6428483799494487039:=0
def tw442962908661051905:=0
def tw6111115951037127980:=0
def tw1957733624354153553:=0
def tw2761727384514930230:=0
def tw11644653528756726682:=0
def tw15453884730555681573:=0
def tw1547888340408795657:=0
def tw531276578750695215:=0
def tw2805191783869448889:=0
def tw5228917725614917504:=0
def tw9953344980246821280:=0
def tw16927304561003777048:=0
def tw8898892675007628349:=0
def tw2314454061613010742:=0
def tw7059260835231675013:=0
def tw9777702134446752111:=0
def tw16768387382732679013:=0
def tw8385405680241903951:=0
def tw5263059770570392631:=0
def tw11204533153458369488:=0
def tw4379077987604428836:=0
def tw10767667841983903333:=0
def tw2034700634596000258:=0
def tw5223130904233926376:=0
def tw17022196087738213424:=0
def tw1835065439556835400:=0
def tw3852326374373338815:=0
def tw3791958410837690064:=0
def tw12224698020348315838:=0
def tw9999225832320304056:=0
def tw12800168788641144589:=0
def tw17988336666317237603:=0
def tw8245114423860659342:=0
def tw7964623643806061241:=0
def tw16335263770722516654:=0
def tw10654051689379907159:=0
def tw9791444736396271776:=0
def tw4627959606515790690:=0
def tw13582309005798559309:=0
def tw6935918121520318397:=0
def tw2405938519203881621:=0
def tw2839917363210868929:=0
def tw11665595792980988695:=0
def tw3351279803847614912:=0
def tw12814318799569795049:=0
def tw4149617077726773023:=0
def tw15837775797124584773:=0
def tw13343874080904381476:=0
def tw10894278736136995217:=0
def tw10371608978890364773:=0
def tw17295657012650564366:=0
def tw16930876233490411168:=0
def tw16480221450012146480:=0
def tw15489538998520990835:=0
def tw10294796103421359412:=0
def tw7958683145562817369:=0
def tw5346579414637949217:=0
def tw10237024648719948757:=0
def tw13749864053975750239:=0
def tw15309866609699110154:=0
def tw16691922367513785018:=0
def tw317971534306379646:=0
def tw4240597926568967664:=0
def tw17982129778450027474:=0
def tw15694886689607971090:=0
def tw17524605844057479508:=0
def tw17575821940720957125:=0
def tw15363040054480685471:=0
def tw8930313228956889233:=0
def tw2675513155620223572:=0
def tw8148686016413400366:=0
def tw12580528161314569663:=0
def tw15895808278924264430:=0
def tw7247358218781075847:=0
def tw17249973560401547321:=0
def tw5572260104832638592:=0
def tw5552588793140363432:=0
def tw2672796169793922562:=0
def tw10945198716834820397:=0
def tw12684760873187424138:=0
def tw14255806903376317647:=0
def tw9556835511758114597:=0
def tw723390872411269847:=0
def tw6575745295522574602:=0
def tw10111629340592055753:=0
def tw2763300668216784804:=0
def tw17523864148799440579:=0
def tw9920397068059323944:=0
def tw6896464710568926999:=0
def tw8699341021793223806:=0
def tw4107781345889012630:=0
def tw3671752232420965928:=0
def tw10068341147851273662:=0
def tw1433861079525601627:=0
def tw8312819905562385611:=0
def tw17582022531050544687:=0
def tw18216391887172631193:=0
def tw608461044764522502:=0
def tw4431178107374270927:=0
def tw7140859183626118190:=0
def tw12168267365539545691:=0
def tw3411603452373425120:=0
def tw5040458268982984527:=0
def tw745533573379637724:=0
def tw2893082799043585879:=0
def tw14475818420078970967:=0
def tw12500988323118909857:=0
def tw2032427140134661016:=0
def tw15302921769568823944:=0
def tw9769838859617353952:=0
def tw13049393285225991718:=0
def tw6583735962667174359:=0
def tw17947322373015285749:=0
def tw16356520014202082087:=0
def tw1267945557581406857:=0
def tw167581501846895896:=0
def tw127411506541439307:=0
def tw15041983735958905436:=0
def tw9395641773658740698:=0
def tw5257892467664932835:=0
def tw2792738806284258509:=0
def tw11161990851319103617:=0
def tw2761633203799120922:=0
def tw16571444558571850777:=0
def tw11297886588839850394:=0
def tw1417459703894113050:=0
def tw5585769491015281950:=0
def tw12581380159231343336:=0
def tw57403210850490753:=0
def tw16825043750972191590:=0
def tw1794453497729421376:=0
def tw12627520668940953811:=0
def tw7987753078562741451:=0
def tw632900311137659758:=0
def tw6239842562225890054:=0
def tw7937401269705114184:=0
def tw316238049929922649:=0
def tw12858731522408196023:=0
def tw17525295825514392852:=0
def tw10931652741033128825:=0
def tw12135196880158837570:=0
def tw13379923560472970198:=0
def tw3607366946865019193:=0
def tw17679138746058612681:=0
def tw9494900096714257880:=0
def tw13191424247430033316:=0
def tw17171420056037283023:=0
def tw14614056608396674668:=0
def tw1620967285778676870:=0
def tw7696644638040715945:=0
def tw3163554798702542503:=0
def tw12656630521274463873:=0
def tw10263930168739634671:=0
def tw5348791722673437208:=0
def tw3485641773502725403:=0
def tw13333050201771034968:=0
def tw10616856024364991132:=0
def tw8785917348521417939:=0
def tw18244965271828398650:=0
def tw13134751872578788358:=0
def tw4789352607255669069:=0
def tw5369002055021260051:=0
def tw2437118955955563485:=0
def tw12056624600162173203:=0
def tw10244326353220708233:=0
def tw10269444810000388521:=0
def tw14176240960642737319:=0
def tw11552465452260819186:=0
def tw14298226516376004209:=0
def tw845599204996333945:=0
def tw12687160347673977198:=0
def tw17025391320114178953:=0
def tw18373994819975344188:=0
def tw12869627059927697876:=0
def tw6112520838135489277:=0
def tw2859354317955926599:=0
def tw5118345364864076043:=0
def tw10545016797934863789:=0
def tw12886085501228399854:=0
def tw12617421332942811510:=0
def tw12185902540905570259:=0
def tw5294670389856262626:=0
def tw1347291016066467712:=0
def tw15468037279255216159:=0
def tw3345513691996664251:=0
def tw17787875625053854795:=0
def tw14464638013738093347:=0
def tw3883418490624524927:=0
def tw986914413712516475:=0
def tw9992664269816267030:=0
def tw8719759029114603358:=0
def tw5278961897069071917:=0
def tw1939596337605503267:=0
def tw15377508226048897032:=0
def tw11050854821298868409:=0
def tw16926856986986734330:=0
def tw13769001567620421802:=0
def tw16323091322088920479:=0
def tw11044057901958137790:=0
def tw6721499830533405572:=0
def tw13918975326173820713:=0
def tw13206743989735399178:=0
def tw12247402501185683724:=0
def tw1059986619771733988:=0
def tw2447045422131597795:=0
def tw16559024628501573597:=0
def tw14994707996138528342:=0
def tw9956717813235540216:=0
def tw9235300664183610603:=0
def tw1748327282863783694:=0
def tw15621186487924609548:=0
def tw18017545713248357919:=0
def tw6291040002819376000:=0
def tw15648245937304297582:=0
def tw16975748383265701186:=0
def tw16812302924460204335:=0
def tw7514223598438851489:=0
def tw16462781670560534524:=0
def tw14598721148461382163:=0
def tw11816350404908411887:=0
def tw4012765664256540992:=0
def tw16326975976779326107:=0
def tw2578685356900412990:=0
def tw13466968060569327185:=0
def tw12428276382618274310:=0
def tw2426632280447622774:=0
def tw349009790017434323:=0
def tw16660013193345871268:=0
def tw14824150439589832984:=0
def tw6531460618148540908:=0
def tw3591034485960340593:=0
def tw25297851148195241:=0
def tw716729133787001591:=0
def tw7019422651984912097:=0
def tw15681749633192215416:=0
def tw11505408532087040455:=0
def tw7209335119429652590:=0
def tw9467045446171161342:=0
def tw181233798030721991:=0
end PySem.W.Fast
open PySem PySem.W PyProof.Rows
set_option maxRecDepth 100000 in
set_option maxHeartbeats 0 in
theorem PySem.Challenge.cw_panethread_k64_costs_of_stretches_holds : PySem.Challenge.rw_panethread_k64_costs_of_stretches.Holds := by
 w_on;o_law;k_head;(case hw=>w_witness2)
 k_fill
 refine L2.Wj (l:=PySem.Challenge.rw_panethread_k64_costs_of_stretches) (st:=My.xW) (k:=62) (x:="_law_script") (sp:=My.Rf) rfl rfl rfl ⟨rfl,by decide,by decide,rfl⟩ (fun w h Y=>PySem.W.kIn_of Y) (fun _ _ _ _ _ _ us hl=>L2.oW (fun _=>rfl) us hl) ?F (fun K H a ns hl hS=>⟨a,ns,rfl,hS,fun _=>rfl⟩)
 case F=>
  intro w mg h KX G
  have b_ValueError:mg "ValueError"=none:=by
   refine' YF KX G ?a
   (case a=>k_is)
  have b_all:mg "all"=none:=by
   refine' YF KX G ?a
   (case a=>k_is)
  have b_bool:mg "bool"=none:=by
   refine' YF KX G ?a
   (case a=>k_is)
  have b_enumerate:mg "enumerate"=none:=by
   refine' YF KX G ?a
   (case a=>k_is)
  have b_int:mg "int"=none:=by
   refine' YF KX G ?a
   (case a=>k_is)
  have b_isinstance:mg "isinstance"=none:=by
   refine' YF KX G ?a
   (case a=>k_is)
  have b_len:mg "len"=none:=by
   refine' YF KX G ?a
   (case a=>k_is)
  have b_list:mg "list"=none:=by
   refine' YF KX G ?a
   (case a=>k_is)
  have b_max:mg "max"=none:=by
   refine' YF KX G ?a
   (case a=>k_is)
  have b_min:mg "min"=none:=by
   refine' YF KX G ?a
   (case a=>k_is)
  have b_range:mg "range"=none:=by
   refine' YF KX G ?a
   (case a=>k_is)
  have b_repr:mg "repr"=none:=by
   refine' YF KX G ?a
   (case a=>k_is)
  have b_reversed:mg "reversed"=none:=by
   refine' YF KX G ?a
   (case a=>k_is)
  have b_str:mg "str"=none:=by
   refine' YF KX G ?a
   (case a=>k_is)
  have b_tuple:mg "tuple"=none:=by
   refine' YF KX G ?a
   (case a=>k_is)
  have b_zip:mg "zip"=none:=by
   refine' YF KX G ?a
   (case a=>k_is)
  have c_CROSS:∃ t,mg "CROSS"=some (.str "x" t):=by
   refine' L2.lw KX G ?a ?h
   (case a=>k_is);(case h=>exact ⟨_,by with_unfolding_all rfl⟩)
  have c_LETTERS:∃ t,mg "LETTERS"=some (.str "abcdefghijklmnopqrstuvwxyz" t):=by
   refine' L2.lw KX G ?a ?h
   (case a=>k_is);(case h=>exact ⟨_,by with_unfolding_all rfl⟩)
  have c_MOST_LETTERS:∃ t,mg "MOST_LETTERS"=some (.int 24 t):=by
   refine' L2.lw KX G ?a ?h
   (case a=>k_is);(case h=>exact ⟨_,by with_unfolding_all rfl⟩)
  have c_MOST_LINES:∃ t,mg "MOST_LINES"=some (.int 96 t):=by
   refine' L2.lw KX G ?a ?h
   (case a=>k_is);(case h=>exact ⟨_,by with_unfolding_all rfl⟩)
  have c_MOST_SIGNS:∃ t,mg "MOST_SIGNS"=some (.int 48 t):=by
   refine' L2.lw KX G ?a ?h
   (case a=>k_is);(case h=>exact ⟨_,by with_unfolding_all rfl⟩)
  have c_POINT:∃ t,mg "POINT"=some (.str "." t):=by
   refine' L2.lw KX G ?a ?h
   (case a=>k_is);(case h=>exact ⟨_,by with_unfolding_all rfl⟩)
  have c_TOUCH:∃ t,mg "TOUCH"=some (.str "o" t):=by
   refine' L2.lw KX G ?a ?h
   (case a=>k_is);(case h=>exact ⟨_,by with_unfolding_all rfl⟩)
  have d_is_number:L2.Def (L2.KOf KX) mg "is_number" My.pH:=by
   dsimp only [L2.KOf]
   refine' L2.bc KX G ?a ?l ?c ?k
   (case a=>k_is);(case l=>k_is);(case c=>k_is);(case k=>k_is)
  have d_is_within:L2.Def (L2.KOf KX) mg "is_within" My.pI:=by
   dsimp only [L2.KOf]
   refine' L2.bc KX G ?a ?l ?c ?k
   (case a=>k_is);(case l=>k_is);(case c=>k_is);(case k=>k_is)
  have d_is_span:L2.Def (L2.KOf KX) mg "is_span" My.tK:=by
   dsimp only [L2.KOf]
   refine' L2.bc KX G ?a ?l ?c ?k
   (case a=>k_is);(case l=>k_is);(case c=>k_is);(case k=>k_is)
  have d_need_place:L2.Def (L2.KOf KX) mg "need_place" My.nQ:=by
   dsimp only [L2.KOf]
   refine' L2.bc KX G ?a ?l ?c ?k
   (case a=>k_is);(case l=>k_is);(case c=>k_is);(case k=>k_is)
  have d_need_span:L2.Def (L2.KOf KX) mg "need_span" My.pJ:=by
   dsimp only [L2.KOf]
   refine' L2.bc KX G ?a ?l ?c ?k
   (case a=>k_is);(case l=>k_is);(case c=>k_is);(case k=>k_is)
  have d_is_row:L2.Def (L2.KOf KX) mg "is_row" My.rQ:=by
   dsimp only [L2.KOf]
   refine' L2.bc KX G ?a ?l ?c ?k
   (case a=>k_is);(case l=>k_is);(case c=>k_is);(case k=>k_is)
  have d_is_plain:L2.Def (L2.KOf KX) mg "is_plain" My.nU:=by
   dsimp only [L2.KOf]
   refine' L2.bc KX G ?a ?l ?c ?k
   (case a=>k_is);(case l=>k_is);(case c=>k_is);(case k=>k_is)
  have d_need_row:L2.Def (L2.KOf KX) mg "need_row" My.qN:=by
   dsimp only [L2.KOf]
   refine' L2.bc KX G ?a ?l ?c ?k
   (case a=>k_is);(case l=>k_is);(case c=>k_is);(case k=>k_is)
  have d_need_rows:L2.Def (L2.KOf KX) mg "need_rows" My.pK:=by
   dsimp only [L2.KOf]
   refine' L2.bc KX G ?a ?l ?c ?k
   (case a=>k_is);(case l=>k_is);(case c=>k_is);(case k=>k_is)
  have d_need_plain:L2.Def (L2.KOf KX) mg "need_plain" My.nY:=by
   dsimp only [L2.KOf]
   refine' L2.bc KX G ?a ?l ?c ?k
   (case a=>k_is);(case l=>k_is);(case c=>k_is);(case k=>k_is)
  have d_parted:L2.Def (L2.KOf KX) mg "parted" My.rR:=by
   dsimp only [L2.KOf]
   refine' L2.bc KX G ?a ?l ?c ?k
   (case a=>k_is);(case l=>k_is);(case c=>k_is);(case k=>k_is)
  have d_lines_above:L2.Def (L2.KOf KX) mg "lines_above" My.jP:=by
   dsimp only [L2.KOf]
   refine' L2.bc KX G ?a ?l ?c ?k
   (case a=>k_is);(case l=>k_is);(case c=>k_is);(case k=>k_is)
  have d_signs_of_row:L2.Def (L2.KOf KX) mg "signs_of_row" My.lE:=by
   dsimp only [L2.KOf]
   refine' L2.bc KX G ?a ?l ?c ?k
   (case a=>k_is);(case l=>k_is);(case c=>k_is);(case k=>k_is)
  have d_over_row:L2.Def (L2.KOf KX) mg "over_row" My.qO:=by
   dsimp only [L2.KOf]
   refine' L2.bc KX G ?a ?l ?c ?k
   (case a=>k_is);(case l=>k_is);(case c=>k_is);(case k=>k_is)
  have d_cells_of:L2.Def (L2.KOf KX) mg "cells_of" My.qP:=by
   dsimp only [L2.KOf]
   refine' L2.bc KX G ?a ?l ?c ?k
   (case a=>k_is);(case l=>k_is);(case c=>k_is);(case k=>k_is)
  have d_ends_of:L2.Def (L2.KOf KX) mg "ends_of" My.tL:=by
   dsimp only [L2.KOf]
   refine' L2.bc KX G ?a ?l ?c ?k
   (case a=>k_is);(case l=>k_is);(case c=>k_is);(case k=>k_is)
  have d_over_cells:L2.Def (L2.KOf KX) mg "over_cells" My.nZ:=by
   dsimp only [L2.KOf]
   refine' L2.bc KX G ?a ?l ?c ?k
   (case a=>k_is);(case l=>k_is);(case c=>k_is);(case k=>k_is)
  have d_ways_of:L2.Def (L2.KOf KX) mg "ways_of" My.qg:=by
   dsimp only [L2.KOf]
   refine' L2.bc KX G ?a ?l ?c ?k
   (case a=>k_is);(case l=>k_is);(case c=>k_is);(case k=>k_is)
  have d_is_turning:L2.Def (L2.KOf KX) mg "is_turning" My.n6:=by
   dsimp only [L2.KOf]
   refine' L2.bc KX G ?a ?l ?c ?k
   (case a=>k_is);(case l=>k_is);(case c=>k_is);(case k=>k_is)
  have d_need_turning:L2.Def (L2.KOf KX) mg "need_turning" My.lF:=by
   dsimp only [L2.KOf]
   refine' L2.bc KX G ?a ?l ?c ?k
   (case a=>k_is);(case l=>k_is);(case c=>k_is);(case k=>k_is)
  have d_counts:L2.Def (L2.KOf KX) mg "counts" My.rT:=by
   dsimp only [L2.KOf]
   refine' L2.bc KX G ?a ?l ?c ?k
   (case a=>k_is);(case l=>k_is);(case c=>k_is);(case k=>k_is)
  have d_asks_of:L2.Def (L2.KOf KX) mg "asks_of" My.tM:=by
   dsimp only [L2.KOf]
   refine' L2.bc KX G ?a ?l ?c ?k
   (case a=>k_is);(case l=>k_is);(case c=>k_is);(case k=>k_is)
  have d_lengths_below:L2.Def (L2.KOf KX) mg "lengths_below" My.jX:=by
   dsimp only [L2.KOf]
   refine' L2.bc KX G ?a ?l ?c ?k
   (case a=>k_is);(case l=>k_is);(case c=>k_is);(case k=>k_is)
  have d_lengths:L2.Def (L2.KOf KX) mg "lengths" My.tO:=by
   dsimp only [L2.KOf]
   refine' L2.bc KX G ?a ?l ?c ?k
   (case a=>k_is);(case l=>k_is);(case c=>k_is);(case k=>k_is)
  have d_beginning_costs:L2.Def (L2.KOf KX) mg "beginning_costs" My.gM:=by
   dsimp only [L2.KOf]
   refine' L2.bc KX G ?a ?l ?c ?k
   (case a=>k_is);(case l=>k_is);(case c=>k_is);(case k=>k_is)
  have d_cost:L2.Def (L2.KOf KX) mg "cost" My.Dh:=by
   dsimp only [L2.KOf]
   refine' L2.bc KX G ?a ?l ?c ?k
   (case a=>k_is);(case l=>k_is);(case c=>k_is);(case k=>k_is)
  have d_law_cell_at:L2.Def (L2.KOf KX) mg "_law_cell_at" My.mD:=by
   dsimp only [L2.KOf]
   refine' L2.bc KX G ?a ?l ?c ?k
   (case a=>k_is);(case l=>k_is);(case c=>k_is);(case k=>k_is)
  have d_law_great:L2.Def (L2.KOf KX) mg "_law_great" My.pL:=by
   dsimp only [L2.KOf]
   refine' L2.bc KX G ?a ?l ?c ?k
   (case a=>k_is);(case l=>k_is);(case c=>k_is);(case k=>k_is)
  have d_law_letter:L2.Def (L2.KOf KX) mg "_law_letter" My.n8:=by
   dsimp only [L2.KOf]
   refine' L2.bc KX G ?a ?l ?c ?k
   (case a=>k_is);(case l=>k_is);(case c=>k_is);(case k=>k_is)
  have d_law_row:L2.Def (L2.KOf KX) mg "_law_row" My.tQ:=by
   dsimp only [L2.KOf]
   refine' L2.bc KX G ?a ?l ?c ?k
   (case a=>k_is);(case l=>k_is);(case c=>k_is);(case k=>k_is)
  have d_law_last:L2.Def (L2.KOf KX) mg "_law_last" My.qQ:=by
   dsimp only [L2.KOf]
   refine' L2.bc KX G ?a ?l ?c ?k
   (case a=>k_is);(case l=>k_is);(case c=>k_is);(case k=>k_is)
  have d_law_number:L2.Def (L2.KOf KX) mg "_law_number" My.oh:=by
   dsimp only [L2.KOf]
   refine' L2.bc KX G ?a ?l ?c ?k
   (case a=>k_is);(case l=>k_is);(case c=>k_is);(case k=>k_is)
  have d_law_numbers:L2.Def (L2.KOf KX) mg "_law_numbers" My.jQ:=by
   dsimp only [L2.KOf]
   refine' L2.bc KX G ?a ?l ?c ?k
   (case a=>k_is);(case l=>k_is);(case c=>k_is);(case k=>k_is)
  have d_law_all:L2.Def (L2.KOf KX) mg "_law_all" My.qi:=by
   dsimp only [L2.KOf]
   refine' L2.bc KX G ?a ?l ?c ?k
   (case a=>k_is);(case l=>k_is);(case c=>k_is);(case k=>k_is)
  have d_law_ends:L2.Def (L2.KOf KX) mg "_law_ends" My.jC:=by
   dsimp only [L2.KOf]
   refine' L2.bc KX G ?a ?l ?c ?k
   (case a=>k_is);(case l=>k_is);(case c=>k_is);(case k=>k_is)
  have d_law_asked:L2.Def (L2.KOf KX) mg "_law_asked" My.lY:=by
   dsimp only [L2.KOf]
   refine' L2.bc KX G ?a ?l ?c ?k
   (case a=>k_is);(case l=>k_is);(case c=>k_is);(case k=>k_is)
  have d_law_rows:L2.Def (L2.KOf KX) mg "_law_rows" My.qR:=by
   dsimp only [L2.KOf]
   refine' L2.bc KX G ?a ?l ?c ?k
   (case a=>k_is);(case l=>k_is);(case c=>k_is);(case k=>k_is)
  have d_law_first:L2.Def (L2.KOf KX) mg "_law_first" My.lZ:=by
   dsimp only [L2.KOf]
   refine' L2.bc KX G ?a ?l ?c ?k
   (case a=>k_is);(case l=>k_is);(case c=>k_is);(case k=>k_is)
  have d_law_no_span:L2.Def (L2.KOf KX) mg "_law_no_span" My.jR:=by
   dsimp only [L2.KOf]
   refine' L2.bc KX G ?a ?l ?c ?k
   (case a=>k_is);(case l=>k_is);(case c=>k_is);(case k=>k_is)
  have d_law_no_plain:L2.Def (L2.KOf KX) mg "_law_no_plain" My.jo:=by
   dsimp only [L2.KOf]
   refine' L2.bc KX G ?a ?l ?c ?k
   (case a=>k_is);(case l=>k_is);(case c=>k_is);(case k=>k_is)
  have d_law_made:L2.Def (L2.KOf KX) mg "_law_made" My.qT:=by
   dsimp only [L2.KOf]
   refine' L2.bc KX G ?a ?l ?c ?k
   (case a=>k_is);(case l=>k_is);(case c=>k_is);(case k=>k_is)
  have d_law:L2.Def (L2.KOf KX) mg "law" My.xW:=by
   dsimp only [L2.KOf]
   refine' L2.bc KX G ?a ?l ?c ?k
   (case a=>k_is);(case l=>k_is);(case c=>k_is);(case k=>k_is)
  have x_PaneError:L2.Hb (L2.KOf KX) mg "PaneError":=by
   dsimp only [L2.KOf]
   refine' L2.QT KX G ?a ?b
   (case a=>k_is);(case b=>kernel_rfl)
  have x_NoRow:L2.uH (L2.KOf KX) mg "NoRow" ["found"] "NoRow.__init__" My.Fw:=by
   dsimp only [L2.KOf]
   refine' L2.Ad KX G ?a ?b ?kp ?na ?i ?t ?l ?c ?k
   (case a=>k_is);(case b=>kernel_rfl);(case kp=>k_is);(case na=>kernel_rfl);(case i=>k_is);(case t=>k_is);(case l=>k_is);(case c=>k_is);(case k=>k_is)
  have x_NoPlain:L2.uH (L2.KOf KX) mg "NoPlain" ["found"] "NoPlain.__init__" My.m9:=by
   dsimp only [L2.KOf]
   refine' L2.Ad KX G ?a ?b ?kp ?na ?i ?t ?l ?c ?k
   (case a=>k_is);(case b=>kernel_rfl);(case kp=>k_is);(case na=>kernel_rfl);(case i=>k_is);(case t=>k_is);(case l=>k_is);(case c=>k_is);(case k=>k_is)
  have x_NoPlace:L2.uH (L2.KOf KX) mg "NoPlace" ["found"] "NoPlace.__init__" My.xX:=by
   dsimp only [L2.KOf]
   refine' L2.Ad KX G ?a ?b ?kp ?na ?i ?t ?l ?c ?k
   (case a=>k_is);(case b=>kernel_rfl);(case kp=>k_is);(case na=>kernel_rfl);(case i=>k_is);(case t=>k_is);(case l=>k_is);(case c=>k_is);(case k=>k_is)
  have x_NoSpan:L2.uH (L2.KOf KX) mg "NoSpan" ["begin","end"] "NoSpan.__init__" My.ni:=by
   dsimp only [L2.KOf]
   refine' L2.Ad KX G ?a ?b ?kp ?na ?i ?t ?l ?c ?k
   (case a=>k_is);(case b=>kernel_rfl);(case kp=>k_is);(case na=>kernel_rfl);(case i=>k_is);(case t=>k_is);(case l=>k_is);(case c=>k_is);(case k=>k_is)
  have x_NoTurning:L2.uH (L2.KOf KX) mg "NoTurning" ["found"] "NoTurning.__init__" My.uC:=by
   dsimp only [L2.KOf]
   refine' L2.Ad KX G ?a ?b ?kp ?na ?i ?t ?l ?c ?k
   (case a=>k_is);(case b=>kernel_rfl);(case kp=>k_is);(case na=>kernel_rfl);(case i=>k_is);(case t=>k_is);(case l=>k_is);(case c=>k_is);(case k=>k_is)
  have o_Board:L2.rP (L2.KOf KX) mg "Board":=by
   dsimp only [L2.KOf]
   refine' L2.Fl KX G ?a ?b ?s ?m ?k
   (case a=>k_is);(case b=>kernel_rfl);(case s=>k_is);(case m=>first | k_is | kernel_rfl);(case k=>k_is)
  have n_Board:∀ f∈(["held_side","held_top","held_cells","held_coming","held_lines","held_ways"]:List Str),L2.NoAttr (L2.KOf KX) (L2.aL mg "Board") f:=by
   dsimp only [L2.KOf]
   refine' L2.Fo KX G ?a ?b
   (case a=>k_is);(case b=>kernel_rfl)
  have o_Tally:L2.rP (L2.KOf KX) mg "Tally":=by
   dsimp only [L2.KOf]
   refine' L2.Fl KX G ?a ?b ?s ?m ?k
   (case a=>k_is);(case b=>kernel_rfl);(case s=>k_is);(case m=>first | k_is | kernel_rfl);(case k=>k_is)
  have n_Tally:∀ f∈(["held_ends","held_counts"]:List Str),L2.NoAttr (L2.KOf KX) (L2.aL mg "Tally") f:=by
   dsimp only [L2.KOf]
   refine' L2.Fo KX G ?a ?b
   (case a=>k_is);(case b=>kernel_rfl)
  have o_Asks:L2.rP (L2.KOf KX) mg "Asks":=by
   dsimp only [L2.KOf]
   refine' L2.Fl KX G ?a ?b ?s ?m ?k
   (case a=>k_is);(case b=>kernel_rfl);(case s=>k_is);(case m=>first | k_is | kernel_rfl);(case k=>k_is)
  have n_Asks:∀ f∈(["held_tally","held_many","held_far"]:List Str),L2.NoAttr (L2.KOf KX) (L2.aL mg "Asks") f:=by
   dsimp only [L2.KOf]
   refine' L2.Fo KX G ?a ?b
   (case a=>k_is);(case b=>kernel_rfl)
  have o_Costs:L2.rP (L2.KOf KX) mg "Costs":=by
   dsimp only [L2.KOf]
   refine' L2.Fl KX G ?a ?b ?s ?m ?k
   (case a=>k_is);(case b=>kernel_rfl);(case s=>k_is);(case m=>first | k_is | kernel_rfl);(case k=>k_is)
  have n_Costs:∀ f∈(["held_asks","held_side","held_top"]:List Str),L2.NoAttr (L2.KOf KX) (L2.aL mg "Costs") f:=by
   dsimp only [L2.KOf]
   refine' L2.Fo KX G ?a ?b
   (case a=>k_is);(case b=>kernel_rfl)
  have m_Board___init__:L2.gB (L2.KOf KX) mg "Board" "__init__" "Board.__init__" My.jD:=by
   dsimp only [L2.KOf]
   refine' L2.jz KX G ?a ?i ?n ?l ?c ?k
   (case a=>k_is);(case i=>k_is);(case n=>first | k_is | kernel_rfl);(case l=>k_is);(case c=>k_is);(case k=>k_is)
  have m_Board_lines:L2.gB (L2.KOf KX) mg "Board" "lines" "Board.lines" My.mF:=by
   dsimp only [L2.KOf]
   refine' L2.jz KX G ?a ?i ?n ?l ?c ?k
   (case a=>k_is);(case i=>k_is);(case n=>first | k_is | kernel_rfl);(case l=>k_is);(case c=>k_is);(case k=>k_is)
  have m_Tally___init__:L2.gB (L2.KOf KX) mg "Tally" "__init__" "Tally.__init__" My.jE:=by
   dsimp only [L2.KOf]
   refine' L2.jz KX G ?a ?i ?n ?l ?c ?k
   (case a=>k_is);(case i=>k_is);(case n=>first | k_is | kernel_rfl);(case l=>k_is);(case c=>k_is);(case k=>k_is)
  have m_Tally_below:L2.gB (L2.KOf KX) mg "Tally" "below" "Tally.below" My.mG:=by
   dsimp only [L2.KOf]
   refine' L2.jz KX G ?a ?i ?n ?l ?c ?k
   (case a=>k_is);(case i=>k_is);(case n=>first | k_is | kernel_rfl);(case l=>k_is);(case c=>k_is);(case k=>k_is)
  have m_Asks___init__:L2.gB (L2.KOf KX) mg "Asks" "__init__" "Asks.__init__" My.jY:=by
   dsimp only [L2.KOf]
   refine' L2.jz KX G ?a ?i ?n ?l ?c ?k
   (case a=>k_is);(case i=>k_is);(case n=>first | k_is | kernel_rfl);(case l=>k_is);(case c=>k_is);(case k=>k_is)
  have m_Asks_reckoned:L2.gB (L2.KOf KX) mg "Asks" "reckoned" "Asks.reckoned" My.jZ:=by
   dsimp only [L2.KOf]
   refine' L2.jz KX G ?a ?i ?n ?l ?c ?k
   (case a=>k_is);(case i=>k_is);(case n=>first | k_is | kernel_rfl);(case l=>k_is);(case c=>k_is);(case k=>k_is)
  have m_Asks_reckoned_stretch:L2.gB (L2.KOf KX) mg "Asks" "reckoned_stretch" "Asks.reckoned_stretch" My.gb:=by
   dsimp only [L2.KOf]
   refine' L2.jz KX G ?a ?i ?n ?l ?c ?k
   (case a=>k_is);(case i=>k_is);(case n=>first | k_is | kernel_rfl);(case l=>k_is);(case c=>k_is);(case k=>k_is)
  have m_Asks_stretch:L2.gB (L2.KOf KX) mg "Asks" "stretch" "Asks.stretch" My.lG:=by
   dsimp only [L2.KOf]
   refine' L2.jz KX G ?a ?i ?n ?l ?c ?k
   (case a=>k_is);(case i=>k_is);(case n=>first | k_is | kernel_rfl);(case l=>k_is);(case c=>k_is);(case k=>k_is)
  have m_Costs___init__:L2.gB (L2.KOf KX) mg "Costs" "__init__" "Costs.__init__" My.jF:=by
   dsimp only [L2.KOf]
   refine' L2.jz KX G ?a ?i ?n ?l ?c ?k
   (case a=>k_is);(case i=>k_is);(case n=>first | k_is | kernel_rfl);(case l=>k_is);(case c=>k_is);(case k=>k_is)
  have m_Costs_side:L2.gB (L2.KOf KX) mg "Costs" "side" "Costs.side" My.ou:=by
   dsimp only [L2.KOf]
   refine' L2.jz KX G ?a ?i ?n ?l ?c ?k
   (case a=>k_is);(case i=>k_is);(case n=>first | k_is | kernel_rfl);(case l=>k_is);(case c=>k_is);(case k=>k_is)
  have m_Costs_top:L2.gB (L2.KOf KX) mg "Costs" "top" "Costs.top" My.pM:=by
   dsimp only [L2.KOf]
   refine' L2.jz KX G ?a ?i ?n ?l ?c ?k
   (case a=>k_is);(case i=>k_is);(case n=>first | k_is | kernel_rfl);(case l=>k_is);(case c=>k_is);(case k=>k_is)
  have m_Costs_reckoned_cost:L2.gB (L2.KOf KX) mg "Costs" "reckoned_cost" "Costs.reckoned_cost" My.gK:=by
   dsimp only [L2.KOf]
   refine' L2.jz KX G ?a ?i ?n ?l ?c ?k
   (case a=>k_is);(case i=>k_is);(case n=>first | k_is | kernel_rfl);(case l=>k_is);(case c=>k_is);(case k=>k_is)
  have m_Costs_of:L2.gB (L2.KOf KX) mg "Costs" "of" "Costs.of" My.qU:=by
   dsimp only [L2.KOf]
   refine' L2.jz KX G ?a ?i ?n ?l ?c ?k
   (case a=>k_is);(case i=>k_is);(case n=>first | k_is | kernel_rfl);(case l=>k_is);(case c=>k_is);(case k=>k_is)
  have m_Costs_row_of:L2.gB (L2.KOf KX) mg "Costs" "row_of" "Costs.row_of" My.jq:=by
   dsimp only [L2.KOf]
   refine' L2.jz KX G ?a ?i ?n ?l ?c ?k
   (case a=>k_is);(case i=>k_is);(case n=>first | k_is | kernel_rfl);(case l=>k_is);(case c=>k_is);(case k=>k_is)
  have m_Costs_rows_of:L2.gB (L2.KOf KX) mg "Costs" "rows_of" "Costs.rows_of" My.iU:=by
   dsimp only [L2.KOf]
   refine' L2.jz KX G ?a ?i ?n ?l ?c ?k
   (case a=>k_is);(case i=>k_is);(case n=>first | k_is | kernel_rfl);(case l=>k_is);(case c=>k_is);(case k=>k_is)
  have m_Costs_end_of:L2.gB (L2.KOf KX) mg "Costs" "end_of" "Costs.end_of" My.jr:=by
   dsimp only [L2.KOf]
   refine' L2.jz KX G ?a ?i ?n ?l ?c ?k
   (case a=>k_is);(case i=>k_is);(case n=>first | k_is | kernel_rfl);(case l=>k_is);(case c=>k_is);(case k=>k_is)
  have m_Costs_ends:L2.gB (L2.KOf KX) mg "Costs" "ends" "Costs.ends" My.kj:=by
   dsimp only [L2.KOf]
   refine' L2.jz KX G ?a ?i ?n ?l ?c ?k
   (case a=>k_is);(case i=>k_is);(case n=>first | k_is | kernel_rfl);(case l=>k_is);(case c=>k_is);(case k=>k_is)
  have m_Costs_best:L2.gB (L2.KOf KX) mg "Costs" "best" "Costs.best" My.km:=by
   dsimp only [L2.KOf]
   refine' L2.jz KX G ?a ?i ?n ?l ?c ?k
   (case a=>k_is);(case i=>k_is);(case n=>first | k_is | kernel_rfl);(case l=>k_is);(case c=>k_is);(case k=>k_is)
  have u_NoPlain_PaneError:L2.Sub (L2.KOf KX) mg "NoPlain" "PaneError" true:=by
   dsimp only [L2.KOf]
   refine' L2.tG KX G ?a ?b ?m ?o
   (case a=>k_is);(case b=>k_is);(case m=>k_is);(case o=>kernel_rfl)
  have u_NoPlain_NoPlain:L2.Sub (L2.KOf KX) mg "NoPlain" "NoPlain" true:=by
   dsimp only [L2.KOf]
   refine' L2.tG KX G ?a ?b ?m ?o
   (case a=>k_is);(case b=>k_is);(case m=>k_is);(case o=>kernel_rfl)
  have u_NoPlain_NoSpan:L2.Sub (L2.KOf KX) mg "NoPlain" "NoSpan" false:=by
   dsimp only [L2.KOf]
   refine' L2.tG KX G ?a ?b ?m ?o
   (case a=>k_is);(case b=>k_is);(case m=>k_is);(case o=>kernel_rfl)
  have u_NoSpan_PaneError:L2.Sub (L2.KOf KX) mg "NoSpan" "PaneError" true:=by
   dsimp only [L2.KOf]
   refine' L2.tG KX G ?a ?b ?m ?o
   (case a=>k_is);(case b=>k_is);(case m=>k_is);(case o=>kernel_rfl)
  have u_NoSpan_NoPlain:L2.Sub (L2.KOf KX) mg "NoSpan" "NoPlain" false:=by
   dsimp only [L2.KOf]
   refine' L2.tG KX G ?a ?b ?m ?o
   (case a=>k_is);(case b=>k_is);(case m=>k_is);(case o=>kernel_rfl)
  have u_NoSpan_NoSpan:L2.Sub (L2.KOf KX) mg "NoSpan" "NoSpan" true:=by
   dsimp only [L2.KOf]
   refine' L2.tG KX G ?a ?b ?m ?o
   (case a=>k_is);(case b=>k_is);(case m=>k_is);(case o=>kernel_rfl)
  have v_NoPlain:PySem.W.kitOne (L2.KOf KX) (.ref (L2.aL mg "NoPlain")) (.type "ValueError")=some true:=by
   dsimp only [L2.KOf]
   refine' L2.Fb KX G ?a ?o
   (case a=>k_is);(case o=>kernel_rfl)
  have v_NoSpan:PySem.W.kitOne (L2.KOf KX) (.ref (L2.aL mg "NoSpan")) (.type "ValueError")=some true:=by
   dsimp only [L2.KOf]
   refine' L2.Fb KX G ?a ?o
   (case a=>k_is);(case o=>kernel_rfl)
  exact ⟨d_law,fun base f fd F=>My.Vj ⟨b_ValueError,b_all,b_bool,b_enumerate,b_int,b_isinstance,b_len,b_list,b_max,b_min,b_range,b_repr,b_reversed,b_str,b_tuple,b_zip,c_CROSS,c_LETTERS,c_MOST_LETTERS,c_MOST_LINES,c_MOST_SIGNS,c_POINT,c_TOUCH,d_is_number,d_is_within,d_is_span,d_need_place,d_need_span,d_is_row,d_is_plain,d_need_row,d_need_rows,d_need_plain,d_parted,d_lines_above,d_signs_of_row,d_over_row,d_cells_of,d_ends_of,d_over_cells,d_ways_of,d_is_turning,d_need_turning,d_counts,d_asks_of,d_lengths_below,d_lengths,d_beginning_costs,d_cost,d_law_cell_at,d_law_great,d_law_letter,d_law_row,d_law_last,d_law_number,d_law_numbers,d_law_all,d_law_ends,d_law_asked,d_law_rows,d_law_first,d_law_no_span,d_law_no_plain,d_law_made,d_law,x_PaneError,x_NoRow,x_NoPlain,x_NoPlace,x_NoSpan,x_NoTurning,o_Board,n_Board,o_Tally,n_Tally,o_Asks,n_Asks,o_Costs,n_Costs,m_Board___init__,m_Board_lines,m_Tally___init__,m_Tally_below,m_Asks___init__,m_Asks_reckoned,m_Asks_reckoned_stretch,m_Asks_stretch,m_Costs___init__,m_Costs_side,m_Costs_top,m_Costs_reckoned_cost,m_Costs_of,m_Costs_row_of,m_Costs_rows_of,m_Costs_end_of,m_Costs_ends,m_Costs_best,u_NoPlain_PaneError,u_NoPlain_NoPlain,u_NoPlain_NoSpan,u_NoSpan_PaneError,u_NoSpan_NoPlain,u_NoSpan_NoSpan,v_NoPlain,v_NoSpan⟩ F⟩
