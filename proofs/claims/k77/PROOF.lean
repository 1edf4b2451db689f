import PyProof.Rows.All
import Wide.All
import OpenK.AllK
import Wide.FinOn
import Lean
import PyProof.EqAt
import PyProof.EqKinds
import PyProof.TupleCall
import PyProof.ReprRoads
import KE.KSortTup
import KE.KDictList
import KE.KMinKey
import KE.KIntText
import KE.KLam
import KE.KNestM
import PySem.Challenge.RW_panethread_k77_lengths_of_openings
noncomputable section
abbrev YS:=@PySem.wpAny_bind
abbrev YT:=@List.getD_eq_getElem?_getD
abbrev YW:=@PySem.Heap.get?_push_of_some
abbrev YX:=@List.getElem?_eq_getElem
abbrev YZ:=@Nat.le_refl
abbrev Y0:=@PySem.wpAny_pure
abbrev Y4:=@List.getElem?_eq_some_iff
abbrev Y5:=@Bool.false_ne_true
abbrev Y6:=@PySem.Heap.lt_size
abbrev Y7:=@decide_eq_true
abbrev Y8:=@List.getElem?_map
abbrev Y9:=@PySem.Heap.get?_push_size
abbrev Za:=@List.mem_cons
abbrev Zb:=@List.mem_cons_of_mem
abbrev Zc:=@decide_eq_false
abbrev Zd:=@List.mem_of_getElem?
abbrev Ze:=@Bool.and_eq_true
abbrev Zf:=@List.length_map
abbrev Zg:=@Nat.lt_of_lt_of_le
abbrev Zh:=@List.size_toArray
abbrev Zi:=@List.getElem?_range
abbrev Zj:=@List.mem_range
abbrev Zk:=@List.getElem?_append_right
abbrev Zm:=@List.getElem?_append_left
abbrev Zn:=@List.mem_cons_self
abbrev Zo:=@Nat.le_trans
abbrev Zq:=@PyProof.Rows.callWith_type1
abbrev Zr:=@Nat.ne_of_lt
abbrev Zt:=@List.lookup_cons
abbrev Zu:=@PySem.wpAny_mono
abbrev Zv:=@Option.some.inj
abbrev Zw:=@PySem.Heap.get?_update_other
abbrev Zx:=@Array.length_toList
abbrev Zy:=@List.map_append
abbrev Zz:=@List.mem_nil_iff
abbrev ZC:=@List.getElem?_set_ne
abbrev ZD:=@List.mem_map
abbrev ZF:=@List.mem_append_right
abbrev ZG:=@List.all_cons
abbrev ZJ:=@List.append_nil
abbrev ZK:=@PySem.wpAny_Call_Name_kw
abbrev ZL:=@PySem.W.mg_none_of
abbrev ZM:=@PySem.mem_of_lookup
abbrev ZP:=@List.map_cons
abbrev ZQ:=@PySem.W.mg_of
abbrev ZR:=@PySem.Heap.get?_update_self
abbrev ZS:=@PySem.PassesOwn.never
abbrev ZV:=@List.getElem?_set_self
abbrev ZW:=@PySem.wpAny_holding
abbrev ZX:=@List.mem_singleton
abbrev ZZ:=@List.getElem?_eq_none
abbrev Z0:=@PySem.F.plainAttrs_list
abbrev Z1:=@Nat.lt_irrefl
abbrev Z2:=@PySem.wpAny_newObj_type
abbrev Z3:=@List.length_append
abbrev Z4:=@List.mem_append
abbrev Z5:=@PySem.W.kia_one
abbrev Z6:=@List.length_cons
abbrev Z7:=@List.replicate_succ
abbrev Z8:=@PySem.wpAny_truthy_bool
abbrev Z9:=@List.take_of_length_le
abbrev gV:=@Nat.zero_le
abbrev Aaa:=@PySem.wpAny_loadPart_at
abbrev Aab:=@PySem.F.slot_list_append
abbrev Aac:=@PySem.F.type_list_append
abbrev Aad:=@List.contains_cons
abbrev Aae:=@PySem.W.looks_findIn
abbrev Aaf:=@List.all_eq_true
abbrev Aag:=@List.take_length
abbrev Aah:=@PySem.Heap.size_push
abbrev Aai:=@List.take_add_one
abbrev Aaj:=@PyProof.Rows.slot_tuple_getitem
abbrev Aak:=@PySem.builtinLookup_eq_fast
abbrev Aal:=@beq_iff_eq
abbrev Aam:=@PySem.wpAny_field
abbrev Aan:=@PySem.wpAny_getItem_str_slice
abbrev Aao:=@Nat.add_sub_cancel_left
abbrev Aap:=@beq_eq_false_iff_ne
abbrev Aaq:=@List.filterMap_cons
abbrev Aar:=@List.map_congr_left
abbrev Aas:=@List.map_map
abbrev Aat:=@PySem.wpAny_of_eq
abbrev Aau:=@Nat.lt_succ_self
abbrev Aav:=@List.length_take
abbrev Aaw:=@List.getElem_mem
abbrev Aax:=@PySem.F.plain_max_loop
abbrev Aay:=@PySem.W.callWith_K
abbrev Aaz:=@PySem.Obj.data_mapFields
abbrev AaA:=@List.getElem?_drop
abbrev AaB:=@List.range_add
abbrev AaC:=@PySem.wpAny_passesOwn
abbrev AaD:=@List.flatten_cons
abbrev AaE:=@Nat.le_of_succ_le
abbrev AaF:=@List.length_range
abbrev AaG:=@Bool.or_eq_false_iff
abbrev AaH:=@PySem.wpAny_isSubtype_exc
abbrev AaI:=@List.length_drop
abbrev AaJ:=@PySem.wpAny_callSpecial?_slot
abbrev AaK:=@Nat.ne_of_gt
abbrev AaL:=@List.drop_eq_nil_of_le
abbrev AaM:=@List.length_eq_one_iff
abbrev AaN:=@List.find?_cons
abbrev AaO:=@PySem.wpAny_specialOf
abbrev AaP:=@PySem.typeLookup_type
abbrev AaQ:=@List.range_succ
abbrev AaR:=@PySem.Obj.isFreed_of_fields
abbrev AaS:=@PySem.W.methodCall_KW
abbrev AaT:=@List.append_assoc
abbrev AaU:=@List.ext_getElem?
abbrev AaV:=@of_decide_eq_true
abbrev AaW:=@List.mem_append_left
abbrev AaX:=@PySem.wpAny_loadPart
abbrev AaY:=@PySem.wpAny_call
abbrev AaZ:=@List.mem_iff_getElem
abbrev Aa0:=@PySem.isSubtype_type
abbrev Aa1:=@PySem.wpAny_setField
abbrev Aa2:=@PySem.codeAny_call_builtin
abbrev Aa3:=@PySem.Around.under_plainId
abbrev Aa4:=@List.mem_of_mem_take
abbrev Aa5:=@PySem.wpAny_call_entry
abbrev Aa6:=@Nat.le_add_right
abbrev Aa7:=@Nat.min_eq_right
abbrev Aa8:=@Nat.sub_self
abbrev Aa9:=@List.mem_flatMap
abbrev Aba:=@List.nodup_range
abbrev Abb:=@List.mem_reverse
abbrev Abd:=@PySem.wpAny_standAt
abbrev Abe:=@PySem.plainId_quiet
abbrev Abf:=@PySem.wpAny_attempt
local macro_rules | `(tactic| trivial) => `(tactic| decide +kernel)
set_option compiler.extract_closed false
set_option Elab.async false
set_option linter.all false
set_option maxRecDepth 100000
namespace L2
@[elab_as_elim] theorem ie {p:List PySem.Value->Prop} (h:∀ a0:PySem.Value,p [a0]) (us:List PySem.Value) (hl:us.length=1):p us:=by
 rcases us with _ | ⟨a0,us0⟩
 ·cases hl
 rcases us0 with _ | ⟨b,us⟩
 ·exact h a0
 ·cases hl
@[elab_as_elim] theorem oW {p:List PySem.Value->Prop} (h:∀ a0 a1:PySem.Value,p [a0,a1]) (us:List PySem.Value) (hl:us.length=2):p us:=by
 rcases us with _ | ⟨a0,us0⟩
 ·cases hl
 rcases us0 with _ | ⟨a1,us1⟩
 ·cases hl
 rcases us1 with _ | ⟨b,us⟩
 ·exact h a0 a1
 ·cases hl
@[elab_as_elim] theorem oY {p:List PySem.Value->Prop} (h:∀ a0 a1 a2:PySem.Value,p [a0,a1,a2]) (us:List PySem.Value) (hl:us.length=3):p us:=by
 rcases us with _ | ⟨a0,us0⟩
 ·cases hl
 rcases us0 with _ | ⟨a1,us1⟩
 ·cases hl
 rcases us1 with _ | ⟨a2,us2⟩
 ·cases hl
 rcases us2 with _ | ⟨b,us⟩
 ·exact h a0 a1 a2
 ·cases hl
@[elab_as_elim] theorem Ww {p:List PySem.Value->Prop} (h:∀ a0 a1 a2 a3:PySem.Value,p [a0,a1,a2,a3]) (us:List PySem.Value) (hl:us.length=4):p us:=by
 rcases us with _ | ⟨a0,us0⟩
 ·cases hl
 rcases us0 with _ | ⟨a1,us1⟩
 ·cases hl
 rcases us1 with _ | ⟨a2,us2⟩
 ·cases hl
 rcases us2 with _ | ⟨a3,us3⟩
 ·cases hl
 rcases us3 with _ | ⟨b,us⟩
 ·exact h a0 a1 a2 a3
 ·cases hl
@[elab_as_elim] theorem usN5 {p:List PySem.Value->Prop} (h:∀ a0 a1 a2 a3 a4:PySem.Value,p [a0,a1,a2,a3,a4]) (us:List PySem.Value) (hl:us.length=5):p us:=by
 rcases us with _ | ⟨a0,us0⟩
 ·cases hl
 rcases us0 with _ | ⟨a1,us1⟩
 ·cases hl
 rcases us1 with _ | ⟨a2,us2⟩
 ·cases hl
 rcases us2 with _ | ⟨a3,us3⟩
 ·cases hl
 rcases us3 with _ | ⟨a4,us4⟩
 ·cases hl
 rcases us4 with _ | ⟨b,us⟩
 ·exact h a0 a1 a2 a3 a4
 ·cases hl
@[elab_as_elim] theorem usN6 {p:List PySem.Value->Prop} (h:∀ a0 a1 a2 a3 a4 a5:PySem.Value,p [a0,a1,a2,a3,a4,a5]) (us:List PySem.Value) (hl:us.length=6):p us:=by
 rcases us with _ | ⟨a0,us0⟩
 ·cases hl
 rcases us0 with _ | ⟨a1,us1⟩
 ·cases hl
 rcases us1 with _ | ⟨a2,us2⟩
 ·cases hl
 rcases us2 with _ | ⟨a3,us3⟩
 ·cases hl
 rcases us3 with _ | ⟨a4,us4⟩
 ·cases hl
 rcases us4 with _ | ⟨a5,us5⟩
 ·cases hl
 rcases us5 with _ | ⟨b,us⟩
 ·exact h a0 a1 a2 a3 a4 a5
 ·cases hl
theorem auto1 (h:True:=by first | exact .inl rfl | exact .inr rfl | assumption):True:=h
theorem auto2 (h:True:=by decide):True:=h
theorem auto3 (h:True:=by intro _;rfl):True:=h
theorem auto4 (h:True:=by rfl):True:=h
theorem auto5 (h:True:=by with_unfolding_all rfl):True:=h
theorem auto6 (h:True:=by trivial):True:=h
theorem auto7 (h:True:=by kernel_rfl):True:=h
open PySem PySem.Spec PyProof.Rows
abbrev Key:=Sum Int Str
def yd:Key->Value->Bool
 | .inl k,v=>Value.isInt k v
 | .inr x,v=>Value.isStrOf x v
def keyH (w:World):Key->Int
 | .inl k=>hashInt k
 | .inr x=>hashStr w x
theorem b8:∀ {k:Key} {v:Value},yd k v=true->(∃ i t,k=Sum.inl i/\v=Value.int i t)\/(∃ x t,k=Sum.inr x/\v=Value.str x t)
 | .inl i,v,h=>by
  obtain ⟨t,e⟩:=Value.isInt_shape (k:=i) (v:=v) h
  exact .inl ⟨i,t,rfl,e⟩
 | .inr x,v,h=>by
  obtain ⟨t,e⟩:=Value.isStrOf_shape (x:=x) (v:=v) h
  exact .inr ⟨x,t,rfl,e⟩
theorem HR (i:Int) (t:Tok):yd (.inl i) (.int i t)=true:=by simp [yd,Value.isInt]
theorem HS (x:Str) (t:Tok):yd (.inr x) (.str x t)=true:=by simp [yd,Value.isStrOf]
theorem SJ (a b:Int):decide ((Sum.inl a:Key)=Sum.inl b)=(a == b):=by
 by_cases e:a=b
 ·subst e;simp
 ·have h:¬ (Sum.inl a:Key)=Sum.inl b:=fun q=>e (Sum.inl.inj q)
  rw [Zc h]
  exact (Aap.mpr e).symm
theorem SM (a b:Str):decide ((Sum.inr a:Key)=Sum.inr b)=decide (a=b):=by
 by_cases e:a=b
 ·subst e;simp
 ·have h:¬ (Sum.inr a:Key)=Sum.inr b:=fun q=>e (Sum.inr.inj q)
  rw [Zc h,Zc e]
theorem SN (a:Int) (b:Str):decide ((Sum.inl a:Key)=Sum.inr b)=false:=Zc (fun q=>nomatch q)
theorem SQ (a:Str) (b:Int):decide ((Sum.inr a:Key)=Sum.inl b)=false:=Zc (fun q=>nomatch q)
def cj (prog:Program) (w:World):PySem.KeyKind prog w Key where
 is:=yd
 hash:=keyH w
 inj:=fun v a b ha hb=>by
  rcases b8 ha with ⟨i,t,rfl,rfl⟩ | ⟨x,t,rfl,rfl⟩
  ·rcases b8 hb with ⟨j,u,rfl,e⟩ | ⟨y,u,rfl,e⟩
   ·injection e with e1 _;rw [e1]
   ·exact nomatch e
  ·rcases b8 hb with ⟨j,u,rfl,e⟩ | ⟨y,u,rfl,e⟩
   ·exact nomatch e
   ·injection e with e1 _;rw [e1]
 byValue:=fun k v h=>by
  rcases b8 h with ⟨i,t,rfl,rfl⟩ | ⟨x,t,rfl,rfl⟩ <;> rfl
 pyHash:=fun hv h=>by
  rcases b8 hv with ⟨i,t,rfl,rfl⟩ | ⟨x,t,rfl,rfl⟩
  ·exact wpAny_pyHash_int h
  ·exact wpAny_pyHash_str h
 eqBool:=fun hu hv h=>by
  rcases b8 hu with ⟨i,t,rfl,rfl⟩ | ⟨x,t,rfl,rfl⟩
  ·rcases b8 hv with ⟨j,u,rfl,rfl⟩ | ⟨y,u,rfl,rfl⟩
   ·rw [SJ] at h;exact wpAny_eqBool_int h
   ·rw [SN] at h;exact SeqAt.EqAt.int_str i t y u _ _ _ _ h
  ·rcases b8 hv with ⟨j,u,rfl,rfl⟩ | ⟨y,u,rfl,rfl⟩
   ·rw [SQ] at h;exact SeqAt.EqAt.str_int x t j u _ _ _ _ h
   ·rw [SM] at h;exact wpAny_eqBool_str h
 «strs»:=fun k x t v h=>by
  rcases b8 h with ⟨i,u,rfl,e⟩ | ⟨y,u,rfl,e⟩
  ·exact nomatch e
  ·injection e with e1 _
   subst e1
   cases v <;> rfl
theorem Bh (prog:Program) (w:World) (i:Int) (t:Tok):(cj prog w).is (.inl i) (.int i t)=true:=HR i t
theorem Bj (prog:Program) (w:World) (x:Str) (t:Tok):(cj prog w).is (.inr x) (.str x t)=true:=HS x t
end L2
namespace L2
open PySem PySem.Spec PyProof.Rows
inductive V where
 | non | bl (b:Bool) | int (i:Int) | str (x:Str) | byt (b:Array UInt8) | flt (b:UInt64) | ref (a:Addr) | ty (n:String)
 deriving DecidableEq
def RelV:V->Value->Prop
 | .non,u=>u=Value.none
 | .bl b,u=>u=Value.bool b
 | .int i,u=>∃ t,u=Value.int i t
 | .str x,u=>∃ t,u=Value.str x t
 | .byt b,u=>∃ t,u=Value.bytes b t
 | .flt b,u=>∃ t,u=Value.float b t
 | .ref a,u=>u=Value.ref a
 | .ty n,u=>u=Value.type n
abbrev Vals:List V->List Value->Prop:=Paired RelV
theorem Vals.length {xs:List V} {us:List Value} (r:Vals xs us):xs.length=us.length:=Paired.length r
theorem Vals.get:∀ {xs:List V} {us:List Value} {i:Nat} {x:V},Vals xs us->xs[i]?=some x->∃ u,us[i]?=some u/\RelV x u
 | _,_,_,_,.nil,e=>by simp at e
 | _,_,0,_,.cons r _,e=>by simp at e;subst e;exact ⟨_,rfl,r⟩
 | _,_,i+1,x,.cons _ t,e=>by
  obtain ⟨u,h1,h2⟩:=Vals.get (i:=i) (x:=x) t (by simpa using e)
  exact ⟨u,by simpa using h1,h2⟩
theorem Vals.set {x:V} {u:Value} (r:RelV x u):∀ {xs:List V} {us:List Value} (i:Nat),Vals xs us->Vals (xs.set i x) (us.set i u)
 | _,_,_,.nil=>.nil
 | _,_,0,.cons _ t=>.cons r t
 | _,_,i+1,.cons q t=>.cons q (Vals.set r i t)
theorem Vals.append:∀ {xs ys:List V} {us ws:List Value},Vals xs us->Vals ys ws->Vals (xs ++ ys) (us ++ ws)
 | _,_,_,_,.nil,s=>s
 | _,_,_,_,.cons r t,s=>.cons r (Vals.append t s)
theorem Vals.take:∀ {xs:List V} {us:List Value} (n:Nat),Vals xs us->Vals (xs.take n) (us.take n)
 | _,_,0,_=>.nil
 | _,_,_+1,.nil=>.nil
 | _,_,n+1,.cons r t=>.cons r (Vals.take n t)
theorem Vals.drop:∀ {xs:List V} {us:List Value} (n:Nat),Vals xs us->Vals (xs.drop n) (us.drop n)
 | _,_,0,r=>r
 | _,_,_+1,.nil=>.nil
 | _,_,n+1,.cons _ t=>Vals.drop n t
def RelO:Option V->Option Value->Prop
 | some v,some u=>RelV v u
 | none,none=>True
 | _,_=>False
def KV {κ:Type}:List (κ×V)->List (κ×Value)->Prop:=Paired fun (p:κ×V) (q:κ×Value)=>p.1=q.1/\RelV p.2 q.2
def kV:Key->V
 | .inl i=>.int i
 | .inr x=>.str x
inductive HO where
 /-- a list -/
 | lst (xs:List V)
 /-- a tuple (never changes) -/
 | tup (xs:List V)
 /-- a dict whose keys are ints and texts;one whose keys are tuples of ints and texts (the empty one is both) -/
 | dK (kvs:List (Key×V)) | dT (kvs:List (List Key×V))
 /-- a set of ints:its members,its size -/
 | set (S:Int->Bool) (n:Nat)
 /-- an instance of the class at C,its dict at dx,its attributes -/
 | ins (C dx:Addr) (fs:List (Str×V))
 /-- the dict of the instance at x -/
 | own (x:Addr)
 /-- the dict of an exception -/
 | xd (fs:List (Str×V))
 /-- a bound method,f of x -/
 | met (f x:Addr)
 /-- a range object lo,lo+1,.. below hi -/
 | rng (lo hi:Int)
 /-- a thing that is known to the object (the script;a dict while a loop walks it):read,never written while it is so -/
 | frz (o:Obj) (u:HO)
 /-- a code object's table -/
 | tbl (ps:Array Value)
 /-- any other thing,by what is true of its one object (a def of one's own:SetO a S n:=HO.ext fun h=>..) -/
 | ext (φ:Heap->Prop)
abbrev Hp:=Addr->Option HO
def upd (H:Hp) (a:Addr) (o:HO):Hp:=fun b=>if b=a then some o else H b
theorem aq {H:Hp} {a:Addr} {o:HO}:upd H a o a=some o:=by unfold upd;rw [if_pos rfl]
theorem aD {H:Hp} {a b:Addr} {o:HO} (h:b≠a):upd H a o b=H b:=by unfold upd;rw [if_neg h]
theorem O4 {H:Hp} {a:Addr} {o u:HO}:upd (upd H a o) a u=upd H a u:=by
 funext b;unfold upd;split <;> rfl
theorem Wx {H:Hp} {a b:Addr} {o u:HO} (h:H a=some o) (h':H b=some u) (d:o≠u):a≠b:=by
 intro e;subst e;rw [h] at h';exact d (Zv h')
theorem kh {H:Hp} {a b:Addr} {o:HO} (h:H a=some o) (h':H b=none):a≠b:=by
 intro e;subst e;rw [h] at h';cases h'
section
variable (P:Program) (w:World)
def ObjOk (H:Hp) (h:Heap) (a:Addr):HO->Prop
 | .lst xs=>xs.length<=sizeLine/\∃ (its:List Value) (n:Nat),Vals xs its/\h.get? a=some {cls:=.type "list",data:=.seq its.toArray n}
 | .tup xs=>xs.length<=sizeLine/\∃ its:List Value,Vals xs its/\IsTup h a its.toArray
 | .dK kvs=>kvs.length<=sizeLine/\(a == sysModules)=false/\∃ vs,KV kvs vs/\h.DictOf (cj P w) a vs
 | .dT kvs=>kvs.length<=sizeLine/\(a == sysModules)=false/\∃ xs:List (List Key×Addr×Value),
   Paired (fun (p:List Key×V) (q:List Key×Addr×Value)=>p.1=q.1/\H q.2.1=some (.tup (p.1.map kV))/\RelV p.2 q.2.2) kvs xs/\
   ∃ o es ep,h.get? a=some o/\o.ExactDict/\o.data= .dict es ep/\es.toList=xs.map (entryOfKey (tupleKind (cj P w)))/\(xs.map (·.1)).Nodup
 | .set S n=>h.SetOf (intKind P w) a S n
 | .ins C dx fs=>H dx=some (.own a)/\fs.length<=1000/\dx≠a/\h.get? a=some (PySem.W.instObj C dx)/\
   ∃ mA,h.Ns1 dx mA/\(∀ f,RelO (fs.lookup f) (mA f))/\PySem.Within mA (fs.map (·.1))
 | .own _=>∃ o,h.get? a=some o
 | .xd fs=>∃ mA,h.Ns1 a mA/\∀ f,RelO (fs.lookup f) (mA f)
 | .rng lo hi=>∃ t u v,h.get? a=some {cls:=.type "range",data:=.fields #[.int lo t,.int hi u,.int 1 v]}
 | .frz o u=>h.get? a=some o/\ObjOk H h a u
 | .tbl ps=>h.get? a=some {cls:=.none,data:=.fields ps}
 | .met f x=>h.get? a=some (PySem.W.methodObj (.ref f) (.ref x))
 | .ext φ=>φ h/\(∃ o,h.get? a=some o)/\∀ h1 h2:Heap,φ h1->(∀ o,h1.get? a=some o->h2.get? a=some o)->φ h2
def HOk (H:Hp) (h:Heap):Prop:=∀ a o,H a=some o->ObjOk P w H h a o
end
section
variable {P:Program} {w:World} {H H':Hp} {h h':Heap} {a:Addr} {o:HO}
theorem ObjOk.lt (x:ObjOk P w H h a o):a < h.objs.size:=by
 cases o with
 | lst xs=>obtain ⟨_,_,_,_,e⟩:=x;exact Y6 e
 | tup xs=>obtain ⟨_,_,_,p⟩:=x;exact p.lt
 | dK kvs=>obtain ⟨_,_,_,_,o,_,_,e,_⟩:=x;exact Y6 e
 | dT kvs=>obtain ⟨_,_,_,_,o,_,_,e,_⟩:=x;exact Y6 e
 | set S n=>obtain ⟨o,_,_,_,e,_⟩:=x;exact Y6 e
 | ins C dx fs=>obtain ⟨_,_,_,e,_⟩:=x;exact Y6 e
 | own y=>obtain ⟨_,e⟩:=x;exact Y6 e
 | xd fs=>obtain ⟨_,⟨_,_,_,e,_⟩,_⟩:=x;exact Y6 e
 | rng lo hi=>obtain ⟨_,_,_,e⟩:=x;exact Y6 e
 | frz ob u=>obtain ⟨e,_⟩:=x;exact Y6 e
 | tbl ps=>exact Y6 (show h.get? a=some _ from x)
 | met f y=>exact Y6 (show h.get? a=some _ from x)
 | ext φ=>obtain ⟨_,⟨_,e⟩,_⟩:=x;exact Y6 e
theorem Paired.mapP {α β:Type} {F G:α->β->Prop}:∀ {l₁:List α} {l₂:List β},Paired F l₁ l₂->(∀ a b,F a b->G a b)->Paired G l₁ l₂
 | _,_,.nil,_=>.nil
 | _,_,.cons r t,f=>.cons (f _ _ r) (Paired.mapP t f)
theorem ObjOk.stay (x:ObjOk P w H h a o) (k:∀ b u,(b=a\/H b=some (.own a))->h.get? b=some u->h'.get? b=some u)
  (ho:∀ b,H b=some (.own a)->H' b=some (.own a)) (ht:∀ b xs,H b=some (.tup xs)->H' b=some (.tup xs)):ObjOk P w H' h' a o:=by
 induction o with
 | lst xs=>obtain ⟨z,its,n,r,e⟩:=x;exact ⟨z,its,n,r,k _ _ (.inl rfl) e⟩
 | tup xs=>obtain ⟨z,its,r,ob,e,c⟩:=x;exact ⟨z,its,r,ob,k _ _ (.inl rfl) e,c⟩
 | dK kvs=>obtain ⟨z,y,vs,r,ob,es,ep,e,c⟩:=x;exact ⟨z,y,vs,r,ob,es,ep,k _ _ (.inl rfl) e,c⟩
 | dT kvs=>
  obtain ⟨z,y,xs,r,ob,es,ep,e,c⟩:=x
  exact ⟨z,y,xs,Paired.mapP r fun p q z=>⟨z.1,ht _ _ z.2.1,z.2.2⟩,ob,es,ep,k _ _ (.inl rfl) e,c⟩
 | set S n=>obtain ⟨ob,es,ep,t,e,c⟩:=x;exact ⟨ob,es,ep,t,k _ _ (.inl rfl) e,c⟩
 | ins C dx fs=>
  obtain ⟨d,z,ne,e,mA,⟨od,es,ep,e2,c⟩,r⟩:=x
  exact ⟨ho _ d,z,ne,k _ _ (.inl rfl) e,mA,⟨od,es,ep,k _ _ (.inr d) e2,c⟩,r⟩
 | own y=>obtain ⟨ob,e⟩:=x;exact ⟨ob,k _ _ (.inl rfl) e⟩
 | xd fs=>obtain ⟨mA,⟨od,es,ep,e,c⟩,r⟩:=x;exact ⟨mA,⟨od,es,ep,k _ _ (.inl rfl) e,c⟩,r⟩
 | rng lo hi=>obtain ⟨t,u,v,e⟩:=x;exact ⟨t,u,v,k _ _ (.inl rfl) e⟩
 | frz ob u ih=>obtain ⟨e,q⟩:=x;exact ⟨k _ _ (.inl rfl) e,ih q⟩
 | tbl ps=>
  have e:h.get? a=some {cls:=.none,data:=.fields ps}:=x
  show h'.get? a=some {cls:=.none,data:=.fields ps}
  exact k a _ (.inl rfl) e
 | met f y=>
  have e:h.get? a=some (PySem.W.methodObj (.ref f) (.ref y)):=x
  show h'.get? a=some (PySem.W.methodObj (.ref f) (.ref y))
  exact k a _ (.inl rfl) e
 | ext φ=>obtain ⟨p,⟨o,e⟩,st⟩:=x;exact ⟨st _ _ p fun o q=>k _ _ (.inl rfl) q,⟨o,k _ _ (.inl rfl) e⟩,st⟩
theorem HOk.lt (x:HOk P w H h) (e:H a=some o):a < h.objs.size:=(x a o e).lt
theorem HOk.fresh (x:HOk P w H h) (e:h.objs.size<=a):H a=none:=by
 cases q:H a with
 | none=>rfl
 | some u=>exact absurd (Zg (x.lt q) e) (Z1 _)
theorem HOk.kept (x:HOk P w H h) (k:∀ b u,h.get? b=some u->h'.get? b=some u):HOk P w H h':=fun a o e=>
 (x a o e).stay (fun b u _ q=>k b u q) (fun _ q=>q) fun _ _ q=>q
theorem HOk.laid (x:HOk P w H h) (k:∀ b u,h.get? b=some u->h'.get? b=some u) (hp:h.objs.size<=a) (new:ObjOk P w (upd H a o) h' a o):HOk P w (upd H a o) h':=fun b u e=>by
 have hn:=x.fresh hp
 by_cases hb:b=a
 ·subst hb;rw [aq] at e;cases e;exact new
 ·rw [aD hb] at e
  exact (x b u e).stay (fun c v _ q=>k c v q) (fun c q=>by rw [aD (kh q hn)];exact q) fun c xs q=>by rw [aD (kh q hn)];exact q
end
def Rd (H:Hp) (a:Addr) (u:HO):Prop:=H a=some u\/∃ o,H a=some (.frz o u)
theorem Rd.ok {P:Program} {w:World} {H:Hp} {h:Heap} {a:Addr} {u:HO} (r:Rd H a u) (x:HOk P w H h):ObjOk P w H h a u:=by
 rcases r with r | ⟨o,r⟩
 ·exact x a u r
 ·obtain ⟨_,q⟩:=x a _ r
  exact q
def Wy:Option HO->Prop
 | some (.lst _)=>True
 | some (.dK _)=>True
 | some (.dT _)=>True
 | some (.set _ _)=>True
 | some (.ins _ _ _)=>True
 | some (.ext _)=>True
 | _=>False
section
variable {P:Program} {w:World} {H:Hp} {h h':Heap} {x e:Addr} {o':HO}
theorem HOk.write (ok:HOk P w H h) (mu:Wy (H x)) (he:e=x\/H e=some (.own x)) (k:∀ b u,b≠e->h.get? b=some u->h'.get? b=some u) (heo:∃ u,h'.get? e=some u)
  (new:ObjOk P w (upd H x o') h' x o'):HOk P w (upd H x o') h':=fun b u q=>by
 have nown:∀ c y,H c=some (.own y)->c≠x:=fun c y r z=>by subst z;rw [r] at mu;exact mu
 have ntup:∀ c xs,H c=some (.tup xs)->c≠x:=fun c xs r z=>by subst z;rw [r] at mu;exact mu
 by_cases hb:b=x
 ·subst hb;rw [aq] at q;cases q;exact new
 ·rw [aD hb] at q
  by_cases hbe:b=e
  ·have q':H b=some (.own x):=by
    rcases he with z | z
    ·exact absurd (hbe.trans z) hb
    ·rw [hbe];exact z
   rw [q] at q';cases q'
   obtain ⟨v,hv⟩:=heo
   exact ⟨v,by rw [hbe];exact hv⟩
  ·refine (ok b u q).stay (fun c v hc r=>k c v ?_ r) (fun c r=>by rw [aD (nown c b r)];exact r) fun c xs r=>by rw [aD (ntup c xs r)];exact r
   rcases hc with rfl | hc
   ·exact hbe
   ·rintro rfl
    rcases he with z | z
    ·exact nown c b hc z
    ·rw [hc] at z;cases z;exact hb rfl
end
structure Un (fs ex:List Addr) (H H':Hp) (h h':Heap):Prop where
 keep:∀ b o,h.get? b=some o->H b=none->b ∉ fs->b ∉ ex->h'.get? b=some o
 slot:∀ b o,h.get? b=some o->H b=none->b∈fs->b ∉ ex->∃ sl,h'.get? b=some {o with slots:=sl}
 free:∀ b o,h.get? b=some o->H b=none->b ∉ ex->H' b=none
 there:∀ b o,h.get? b=some o->b ∉ ex->∃ o',h'.get? b=some o'
 tups:∀ b xs,H b=some (.tup xs)->H' b=some (.tup xs)
 frzs:∀ b o u,H b=some (.frz o u)->H' b=some (.frz o u)
 tbls:∀ b ps,H b=some (.tbl ps)->∃ more,H' b=some (.tbl (ps ++ more))
section
variable {fs fs' ex ex':List Addr} {H H1 H2:Hp} {h h1 h2 h':Heap} {a x e:Addr} {o:HO}
theorem Un.any (u:Un fs ex H H1 h h1) {b:Addr} {ob:Obj} (q:h.get? b=some ob) (n:H b=none) (hx:b ∉ ex):∃ sl,h1.get? b=some {ob with slots:=sl}:=by
 by_cases hb:b∈fs
 ·exact u.slot b ob q n hb hx
 ·exact ⟨ob.slots,u.keep b ob q n hb hx⟩
theorem Un.kept (k:∀ b u,h.get? b=some u->h'.get? b=some u):Un fs ex H H h h':=
 ⟨fun b ob q _ _ _=>k b ob q,fun b ob q _ _ _=>⟨ob.slots,k b ob q⟩,fun _ _ _ n _=>n,fun b ob q _=>⟨ob,k b ob q⟩,fun _ _ q=>q,fun _ _ _ q=>q,fun _ ps q=>⟨#[],by rw [q];simp⟩⟩
theorem Un.refl:Un fs ex H H h h:=Un.kept fun _ _ q=>q
theorem Un.laid (k:∀ b u,h.get? b=some u->h'.get? b=some u) (hp:h.objs.size<=a) (hn:H a=none):Un fs ex H (upd H a o) h h' where
 keep:=fun b u q _ _ _=>k b u q
 slot:=fun b u q _ _ _=>⟨u.slots,k b u q⟩
 free:=fun b u q n _=>by rw [aD (Zr (Zg (Y6 q) hp))];exact n
 there:=fun b u q _=>⟨u,k b u q⟩
 tups:=fun b xs q=>by rw [aD (kh q hn)];exact q
 frzs:=fun b u xs q=>by rw [aD (kh q hn)];exact q
 tbls:=fun b ps q=>⟨#[],by rw [aD (kh q hn),q];simp⟩
theorem Un.write (mu:Wy (H x)) (he:e=x\/H e=some (.own x)) (k:∀ b u,b≠e->h.get? b=some u->h'.get? b=some u) (heo:∃ u,h'.get? e=some u):Un fs ex H (upd H x o) h h':=by
 have hx:∀ b,H b=none->b≠x:=fun b n z=>by subst z;rw [n] at mu;exact mu
 have hb:∀ b,H b=none->b≠e:=fun b n z=>by
  subst z
  rcases he with r | r
  ·exact hx b n r
  ·rw [n] at r;cases r
 have hm:∀ b u,H b=some u->¬ Wy (some u)->b≠x:=fun b u q nm z=>by subst z;rw [q] at mu;exact nm mu
 refine ⟨fun b u q n _ _=>k b u (hb b n) q,fun b u q n _ _=>⟨u.slots,k b u (hb b n) q⟩,fun b u q n _=>by rw [aD (hx b n)];exact n,fun b u q _=>?_,
  fun b xs q=>by rw [aD (hm b _ q fun z=>z)];exact q,fun b u xs q=>by rw [aD (hm b _ q fun z=>z)];exact q,fun b ps q=>⟨#[],by rw [aD (hm b _ q fun z=>z),q];simp⟩⟩
 by_cases hbe:b=e
 ·subst hbe;exact heo
 ·exact ⟨u,k b u hbe q⟩
end
def O1 (h:Heap) (H:Hp):List Addr:=(List.range h.objs.size).filter fun a=>(H a).isSome
def zp (h:Heap) (H:Hp):Heap:=PySem.W.hideAll h (O1 h H)
theorem HW (h:Heap) (H:Hp):(zp h H).objs.size=h.objs.size:=PySem.W.hideAll_size _ _
theorem Kc {h:Heap} {H:Hp} {b:Addr} {o:Obj} (e:h.get? b=some o) (n:H b=none):(zp h H).get? b=some o:=
 PySem.W.hideAll_get _ e fun hm=>by
  have q:(H b).isSome=true:=(List.mem_filter.mp hm).2
  rw [n] at q;simp at q
theorem O5 {h:Heap} {H:Hp} {b:Addr} {o:Obj} (e:(zp h H).get? b=some o):h.get? b=some o/\H b=none:=by
 have e':h.get? b=some o:=PySem.W.of_hideAll (O1 h H) e
 refine ⟨e',?_⟩
 cases q:H b with
 | none=>rfl
 | some x=>
  have hm:b∈O1 h H:=List.mem_filter.mpr ⟨Zj.mpr (Y6 e'),by simp [q]⟩
  have z:(zp h H).get? b=none:=PySem.W.hideAll_none (O1 h H) hm
  rw [z] at e;cases e
structure Mod (K:W.Frag) (mg:Str->Option Value) (base:Heap):Prop where
 kin:K.In base
 glob:base.Ns mainGlobals mg
 blt:∃ mb,base.Ns builtinsNs mb/\∀ x:Str,x≠"__name__"->mb x=bootBuiltins x
 nolimit:base.NoLimit
 sysm:∃ mm,base.Ns sysModules mm
 bmn:∃ bm ob,mg "__builtins__"=some (.ref bm)/\bm≠builtinsNs/\base.get? bm=some ob/\ob.cls= .type "module"/\ob.dict=some builtinsNs/\ob.data= .plain
structure Cx where
 prog:Program
 w:World
 K:W.Frag
 mg:Str->Option Value
 base:Heap
 A:Around
 N:List Str
 s₀:Shared
 H₀:Hp
 env:Env
 outer:List Env
 stack:List Env
 ex:List Addr
 fn:Str->Bool
 calm:Bool
 pn:List (Addr×Obj)
 xe:Value->Shared->Prop
def frs (l:List Env):List Addr:=l.filterMap (·.frame)
abbrev Cx.fs (X:Cx):List Addr:=frs X.outer
def Wz (sc:Scope) (x:Str):Prop:=sc.names.lookup x=some .local\/sc.names.lookup x=some .cell\/sc.names.lookup x=some .free
def Loc (sc:Scope) (x:Str):Prop:=sc.names.lookup x=some .local\/sc.names.lookup x=some .cell
def Look (env:Env) (h:Heap) (m:Str->Option Value) (x:Str) (u:Value):Prop:=
 (env.kindOf x=some .local/\m x=some u)\/((env.kindOf x=some .cell\/env.kindOf x=some .free)/\∃ c,env.cells.lookup x=some c/\h.IsCell c (some u))
structure Cx.Ok (X:Cx):Prop where
 mod:Mod X.K X.mg X.base
 kind:X.env.scope.kind= .function
 glob:X.env.globals=mainGlobals
 blt:X.env.builtins=builtinsNs
 above:X.s₀.heap.objs.size<=X.env.locals
 inj:∀ x y c,X.env.cells.lookup x=some c->X.env.cells.lookup y=some c->x=y
 has:∀ x,(X.env.kindOf x=some .cell\/X.env.kindOf x=some .free)->∃ c,X.env.cells.lookup x=some c
 cab:∀ x c,X.fn x=true->X.env.cells.lookup x=some c->X.s₀.heap.objs.size<=c
 hd:X.calm=true->X.A.handled=none
 frames:X.A.frames=some X.stack
 stk:X.stack=X.outer\/(X.stack=X.env :: X.outer/\X.env.frame=some X.env.locals)
 exf:∀ b∈X.ex,b≠X.env.locals/\∀ x c,X.env.cells.lookup x=some c->c≠b
 bs:∀ b o,X.base.get? b=some o->X.s₀.heap.get? b=some o/\X.H₀ b=none
 bsz:X.base.objs.size<=X.s₀.heap.objs.size
 noex:∀ b o,X.base.get? b=some o->b ∉ X.ex
 exfs:∀ b∈X.ex,b ∉ X.fs
 funs:X.s₀.heap.FunFrames X.base X.outer
 frf:∀ b∈X.fs,X.H₀ b=none
structure Inv (X:Cx) (pins:List (Addr×Obj)) (U:List (Option V)) (H:Hp) (s:Shared):Prop where
 ok:X.Ok
 os:s.os=X.s₀.os
 bare:AllBare s.gens
 base:Un X.fs X.ex X.H₀ H X.s₀.heap s.heap
 loc:∃ m,s.heap.Ns X.env.locals m/\∀ (i:Nat) (x:Str) (v:V),X.N[i]?=some x->U[i]?=some (some v)->Wz X.env.scope x->∃ u,RelV v u/\Look X.env s.heap m x u
 cell:∀ x c,X.env.cells.lookup x=some c->∃ v,s.heap.IsCell c v
 free:H X.env.locals=none
 freeC:∀ x c,X.env.cells.lookup x=some c->H c=none
 pin:∀ p∈X.pn ++ pins,s.heap.get? p.1=some p.2/\H p.1=none/\p.1≠X.env.locals/\p.1 ∉ X.fs/\∀ v,p.2.data≠.cell v
 hok:HOk X.prog X.w H s.heap
 len:U.length=X.N.length
section
variable {X:Cx} {pins:List (Addr×Obj)} {U:List (Option V)} {H H':Hp} {s:Shared} {h':Heap}
theorem Cx.Ok.nofr (ok:X.Ok) {b:Addr} {o:Obj} (e:X.base.get? b=some o):b ∉ X.fs:=fun hb=>by
 have:=(ok.funs.mem hb).1
 rw [e] at this;cases this
theorem Inv.bs (I:Inv X pins U H s):∀ b o,X.base.get? b=some o->s.heap.get? b=some o/\H b=none:=fun b o e=>
 ⟨I.base.keep b o (I.ok.bs b o e).1 (I.ok.bs b o e).2 (I.ok.nofr e) (I.ok.noex b o e),I.base.free b o (I.ok.bs b o e).1 (I.ok.bs b o e).2 (I.ok.noex b o e)⟩
theorem Inv.bk (I:Inv X pins U H s):∀ b o,X.base.get? b=some o->s.heap.get? b=some o:=fun b o e=>(I.bs b o e).1
theorem Inv.mod (I:Inv X pins U H s):Mod X.K X.mg X.base:=I.ok.mod
theorem Inv.kIn (I:Inv X pins U H s):X.K.In s.heap:=I.ok.mod.kin.keeps I.bk
theorem Inv.lt (I:Inv X pins U H s):X.env.locals < s.heap.objs.size:=let ⟨_,hn,_⟩:=I.loc;hn.lt
theorem Inv.sz (I:Inv X pins U H s):X.s₀.heap.objs.size<=s.heap.objs.size:=Zo I.ok.above (Nat.le_of_lt I.lt)
theorem Inv.nofs (I:Inv X pins U H s) {a:Addr} (h:s.heap.objs.size<=a):a ∉ X.fs:=fun hb=>by
 obtain ⟨_,o,ho,_⟩:=I.ok.funs.mem hb
 exact absurd (Zg (Y6 ho) (Zo I.sz h)) (Z1 _)
theorem Inv.cne (I:Inv X pins U H s):∀ x c,X.env.cells.lookup x=some c->c≠X.env.locals:=fun x c e z=>by
 obtain ⟨v,o,ho,hd⟩:=I.cell x c e
 obtain ⟨m,⟨o',es,ep,ho',hd',_⟩,_⟩:=I.loc
 rw [z,ho'] at ho;cases ho;rw [hd'] at hd;cases hd
theorem Inv.funs (I:Inv X pins U H s):s.heap.FunFrames X.base X.outer:=by
 have all:∀ (l:List Env),(∀ b∈frs l,b∈X.fs)->X.s₀.heap.FunFrames X.base l->s.heap.FunFrames X.base l:=by
  intro l
  induction l with
  | nil=>intro _ _;trivial
  | cons env r ih=>
   intro hs hl
   obtain ⟨hk,⟨L,o,hf,hn,ho,hd⟩,hr⟩:=hl
   have hL:L∈X.fs:=hs L (by unfold frs;rw [Aaq,hf];exact Zn)
   obtain ⟨sl,e⟩:=I.base.slot L o ho (I.ok.frf L hL) hL fun z=>I.ok.exfs L z hL
   exact ⟨hk,⟨L,_,hf,hn,e,hd⟩,ih (fun b hb=>hs b (by unfold frs;rw [Aaq,hf];exact Zb _ hb)) hr⟩
 exact all X.outer (fun _ hb=>hb) I.ok.funs
theorem Inv.stack (I:Inv X pins U H s):s.heap.FunFrames X.base X.stack:=by
 rcases I.ok.stk with e | ⟨e,hf⟩
 ·rw [e];exact I.funs
 ·rw [e]
  obtain ⟨m,hn,_⟩:=I.loc
  refine .cons (by rw [I.ok.kind];decide) hf hn ?_ I.funs
  exact Heap.get?_none_of_le (Zo I.ok.bsz I.ok.above)
theorem Inv.stkSub (I:Inv X pins U H s):∀ b∈frs X.stack,b∈X.env.locals :: X.fs:=fun b hb=>by
 rcases I.ok.stk with e | ⟨e,hf⟩
 ·rw [e] at hb;exact Zb _ hb
 ·rw [e] at hb
  unfold frs at hb
  rw [Aaq,hf] at hb
  exact hb
theorem Inv.stkFree (I:Inv X pins U H s):∀ b∈frs X.stack,H b=none:=fun b hb=>by
 rcases Za.mp (I.stkSub b hb) with e | hb
 ·rw [e];exact I.free
 ·obtain ⟨_,o,ho,_⟩:=I.ok.funs.mem hb
  exact I.base.free b o ho (I.ok.frf b hb) fun z=>I.ok.exfs b z hb
theorem Inv.step {g':Array GenState} {t':Nat} {d':Drawn} {ch:List Addr} (I:Inv X pins U H s)
  (hch:∀ b∈ch,(b∈X.ex\/X.s₀.heap.objs.size<=b)/\b≠X.env.locals/\(∀ x c,X.env.cells.lookup x=some c->c≠b)/\∀ p∈X.pn ++ pins,p.1≠b)
  (keep:∀ b o,b≠X.env.locals->b ∉ X.fs->b ∉ ch->s.heap.get? b=some o->H b=none->h'.get? b=some o)
  (slot:∀ b o,b≠X.env.locals->b∈X.fs->b ∉ ch->s.heap.get? b=some o->H b=none->∃ sl,h'.get? b=some {o with slots:=sl}) (free:∀ b o,b ∉ ch->s.heap.get? b=some o->H b=none->H' b=none)
  (there:∀ b o,b ∉ ch->s.heap.get? b=some o->∃ o',h'.get? b=some o')
  (tups:∀ b xs,H b=some (.tup xs)->H' b=some (.tup xs)) (frzs:∀ b o u,H b=some (.frz o u)->H' b=some (.frz o u)) (tbls:∀ b ps,H b=some (.tbl ps)->∃ more,H' b=some (.tbl (ps ++ more)))
  (ns:∀ m,s.heap.Ns X.env.locals m->h'.Ns X.env.locals m) (hok:HOk X.prog X.w H' h') (hg:AllBare g'):
  Inv X pins U H' {s with heap:=h',gens:=g',drawn:=d',toks:=t'}:=by
 have neL:∀ b o,X.s₀.heap.get? b=some o->b≠X.env.locals:=fun b o e=>Zr (Zg (Y6 e) I.ok.above)
 have neC:∀ b o,X.s₀.heap.get? b=some o->b ∉ X.ex->b ∉ ch:=fun b o e hx hb=>by
  rcases (hch b hb).1 with z | z
  ·exact hx z
  ·exact absurd (Zg (Y6 e) z) (Z1 _)
 have cellK:∀ x c,X.env.cells.lookup x=some c->∀ v,s.heap.IsCell c v->h'.IsCell c v:=fun x c e v ⟨o,ho,hd⟩=>by
  have nch:c ∉ ch:=fun z=>(hch c z).2.2.1 x c e rfl
  by_cases hc:c∈X.fs
  ·obtain ⟨sl,q⟩:=slot c o (I.cne x c e) hc nch ho (I.freeC x c e)
   exact ⟨_,q,hd⟩
  ·exact ⟨o,keep c o (I.cne x c e) hc nch ho (I.freeC x c e),hd⟩
 refine ⟨I.ok,I.os,hg,⟨fun b o e n hb hx=>?_,fun b o e n hb hx=>?_,fun b o e n hx=>?_,fun b o e hx=>?_,fun b xs e=>tups b xs (I.base.tups b xs e),fun b o xs e=>frzs b o xs (I.base.frzs b o xs e),fun b ps e=>?_⟩,?_,fun x c e=>?_,?_,fun x c e=>?_,fun p hp=>?_,hok,I.len⟩
 ·exact keep b o (neL b o e) hb (neC b o e hx) (I.base.keep b o e n hb hx) (I.base.free b o e n hx)
 ·obtain ⟨sl,e1⟩:=I.base.slot b o e n hb hx
  obtain ⟨sl',e2⟩:=slot b _ (neL b o e) hb (neC b o e hx) e1 (I.base.free b o e n hx)
  exact ⟨sl',e2⟩
 ·obtain ⟨o',e1⟩:=I.base.there b o e hx
  exact free b o' (neC b o e hx) e1 (I.base.free b o e n hx)
 ·obtain ⟨o',e1⟩:=I.base.there b o e hx
  exact there b o' (neC b o e hx) e1
 ·obtain ⟨m1,e1⟩:=I.base.tbls b ps e
  obtain ⟨m2,e2⟩:=tbls b _ e1
  exact ⟨m1 ++ m2,by rw [e2,Array.append_assoc]⟩
 ·obtain ⟨m,hn,hl⟩:=I.loc
  refine ⟨m,ns m hn,fun i x v e1 e2 e3=>?_⟩
  obtain ⟨u,r,l⟩:=hl i x v e1 e2 e3
  refine ⟨u,r,?_⟩
  rcases l with l | ⟨k,c,e,z⟩
  ·exact .inl l
  ·exact .inr ⟨k,c,e,cellK x c e _ z⟩
 ·obtain ⟨v,z⟩:=I.cell x c e
  exact ⟨v,cellK x c e v z⟩
 ·obtain ⟨m,⟨o,_,_,ho,_⟩,_⟩:=I.loc
  exact free _ o (fun z=>(hch _ z).2.1 rfl) ho I.free
 ·obtain ⟨v,o,ho,hd⟩:=I.cell x c e
  exact free c o (fun z=>(hch c z).2.2.1 x c e rfl) ho (I.freeC x c e)
 ·obtain ⟨e,n,ne,nf,d⟩:=I.pin p hp
  have nch:p.1 ∉ ch:=fun z=>(hch p.1 z).2.2.2 p hp rfl
  exact ⟨keep p.1 p.2 ne nf nch e n,free p.1 p.2 nch e n,ne,nf,d⟩
theorem Inv.un {t':Nat} (I:Inv X pins U H s) (u:Un X.fs [] H H' s.heap h') (hok:HOk X.prog X.w H' h'):Inv X pins U H' {s with heap:=h',toks:=t'}:=by
 obtain ⟨m,⟨o,es,ep,ho,r⟩,_⟩:=id I.loc
 obtain ⟨sl,hL⟩:=u.any ho I.free (by simp)
 exact I.step (g':=s.gens) (d':=s.drawn) (ch:=[]) (fun _ z=>nomatch z) (fun b o _ hb _ e n=>u.keep b o e n hb (by simp)) (fun b o _ hb _ e n=>u.slot b o e n hb (by simp)) (fun b o _ e n=>u.free b o e n (by simp)) (fun b o _ e=>u.there b o e (by simp)) u.tups u.frzs u.tbls (fun m' hm=>by
  obtain ⟨o',es',ep',ho',r'⟩:=hm
  rw [ho] at ho';cases ho'
  exact ⟨_,es',ep',hL,r'⟩) hok I.bare
theorem Inv.call {g':Array GenState} {t':Nat} {d':Drawn} {ch:List Addr} (I:Inv X pins U H s) (u:Un (frs X.stack) ch H H' s.heap h') (hok:HOk X.prog X.w H' h') (hg:AllBare g')
  (hch:∀ b∈ch,(b∈X.ex\/X.s₀.heap.objs.size<=b)/\b≠X.env.locals/\(∀ x c,X.env.cells.lookup x=some c->c≠b)/\∀ p∈X.pn ++ pins,p.1≠b):
  Inv X pins U H' {s with heap:=h',gens:=g',drawn:=d',toks:=t'}:=by
 obtain ⟨m,⟨o,es,ep,ho,r⟩,_⟩:=id I.loc
 obtain ⟨sl,hL⟩:=u.any ho I.free fun z=>(hch _ z).2.1 rfl
 exact I.step (ch:=ch) hch (fun b o hL hb hc e n=>u.keep b o e n (fun z=>(Za.mp (I.stkSub b z)).elim hL hb) hc) (fun b o _ _ hc e n=>u.any e n hc) (fun b o hc e n=>u.free b o e n hc) (fun b o hc e=>u.there b o e hc) u.tups u.frzs u.tbls (fun m' hm=>by
  obtain ⟨o',es',ep',ho',r'⟩:=hm
  rw [ho] at ho';cases ho'
  exact ⟨_,es',ep',hL,r'⟩) hok hg
theorem Inv.turned {t':Nat} {it:Addr} (I:Inv X pins U H s) (k:∀ b o,b≠it->s.heap.get? b=some o->h'.get? b=some o) (hn:H it=none) (hL:it≠X.env.locals)
  (h1:it∈X.ex\/X.s₀.heap.objs.size<=it) (h2:∀ x c,X.env.cells.lookup x=some c->c≠it) (h3:∀ p∈X.pn ++ pins,p.1≠it):Inv X pins U H {s with heap:=h',toks:=t'}:=by
 have nit:∀ b u,H b=some u->b≠it:=fun b u e z=>by rw [z,hn] at e;cases e
 refine I.step (g':=s.gens) (d':=s.drawn) (ch:=[it]) (fun b hb=>?_) (fun b o _ _ hc e _=>k b o (fun z=>hc (by simp [z])) e) (fun b o _ _ hc e _=>⟨o.slots,k b o (fun z=>hc (by simp [z])) e⟩) (fun _ _ _ _ n=>n)
  (fun b o hc e=>⟨o,k b o (fun z=>hc (by simp [z])) e⟩) (fun _ _ e=>e) (fun _ _ _ e=>e) (fun b ps e=>⟨#[],by rw [e];simp⟩) (fun m hm=>?_) (fun b u e=>?_) I.bare
 ·have e:b=it:=by simpa using hb
  subst e
  exact ⟨h1,hL,h2,h3⟩
 ·obtain ⟨o,es,ep,ho,r⟩:=hm
  exact ⟨o,es,ep,k _ o (Ne.symm hL) ho,r⟩
 ·refine (I.hok b u e).stay (fun c v hc q=>k c v ?_ q) (fun _ q=>q) fun _ _ q=>q
  rcases hc with z | z
  ·rw [z];exact nit b u e
  ·exact nit c _ z
theorem Inv.tok (I:Inv X pins U H s) (t:Nat):Inv X pins U H {s with toks:=t}:=I.un (h':=s.heap) (t':=t) Un.refl I.hok
theorem Inv.kept {t':Nat} (I:Inv X pins U H s) (k:∀ b u,s.heap.get? b=some u->h'.get? b=some u):Inv X pins U H {s with heap:=h',toks:=t'}:=I.un (Un.kept k) (I.hok.kept k)
theorem Inv.laid {a:Addr} {o:HO} {t':Nat} (I:Inv X pins U H s) (k:∀ b u,s.heap.get? b=some u->h'.get? b=some u) (hp:s.heap.objs.size<=a) (new:ObjOk X.prog X.w (upd H a o) h' a o):
  Inv X pins U (upd H a o) {s with heap:=h',toks:=t'}:=I.un (Un.laid k hp (I.hok.fresh hp)) (I.hok.laid k hp new)
theorem Inv.write {x e:Addr} {o:HO} {t':Nat} (I:Inv X pins U H s) (mu:Wy (H x)) (he:e=x\/H e=some (.own x)) (k:∀ b u,b≠e->s.heap.get? b=some u->h'.get? b=some u) (heo:∃ u,h'.get? e=some u)
  (new:ObjOk X.prog X.w (upd H x o) h' x o):Inv X pins U (upd H x o) {s with heap:=h',toks:=t'}:=I.un (Un.write mu he k heo) (I.hok.write mu he k heo new)
theorem Inv.weak {U':List (Option V)} (I:Inv X pins U H s) (hl:U'.length=U.length) (w:∀ (i:Nat) v,U'[i]?=some (some v)->U[i]?=some (some v)):Inv X pins U' H s:=
 ⟨I.ok,I.os,I.bare,I.base,let ⟨m,hn,hl'⟩:=I.loc;⟨m,hn,fun i x v e1 e2 e3=>hl' i x v e1 (w i v e2) e3⟩,I.cell,I.free,I.freeC,I.pin,I.hok,hl.trans I.len⟩
theorem Inv.pins_of {pins':List (Addr×Obj)} (I:Inv X pins U H s) (h:∀ p∈pins',s.heap.get? p.1=some p.2/\H p.1=none/\p.1≠X.env.locals/\p.1 ∉ X.fs/\∀ v,p.2.data≠.cell v):Inv X pins' U H s:=
 ⟨I.ok,I.os,I.bare,I.base,I.loc,I.cell,I.free,I.freeC,fun p hp=>(Z4.mp hp).elim (fun z=>I.pin p (AaW _ z)) (h p),I.hok,I.len⟩
theorem v4 {N:List Str} (hN:N.Nodup) {i j:Nat} {x:Str} (a:N[i]?=some x) (b:N[j]?=some x):i=j:=by
 obtain ⟨h1,e1⟩:=Y4.mp a
 obtain ⟨h2,e2⟩:=Y4.mp b
 exact (List.getElem_inj hN).mp (e1.trans e2.symm)
theorem ye {M:Model} {A:Around} {E:Value->Shared->Prop} {i:Nat} {x:Str} {v:V} {u:Value} {Q:Unit->Shared->Prop} (I:Inv X pins U H s) (hN:X.N.Nodup) (hi:X.N[i]?=some x) (hx:Loc X.env.scope x) (r:RelV v u)
  (h:∀ s',Inv X pins (U.set i (some v)) H s'->(∃ a,Heap.SameBut a s.heap s'.heap/\(a=X.env.locals\/X.env.cells.lookup x=some a))->Q () s') (hf:autoParam (X.fn x=true\/X.env.scope.names.lookup x=some .local) L2.auto1._auto_1):wpAny M A (storeName X.env x u) Q E s:=by
 obtain ⟨m,hn,hl⟩:=id I.loc
 have hcls:(X.env.scope.kind == .class || (X.env.scope.kind == .module && X.env.locals != X.env.globals))=false:=by rw [I.ok.kind];rfl
 have hiU:i < U.length:=by rw [I.len];exact (Y4.mp hi).1
 have cne:=I.cne
 have tracked:∀ {a:Addr} {h':Heap},(∃ o,s.heap.get? a=some o/\H a=none)->Heap.SameBut a s.heap h'->HOk X.prog X.w H h':=fun {a h'} ha hs b ob e=>by
  obtain ⟨_,_,hfree⟩:=ha
  refine (I.hok b ob e).stay (fun c w' hc q=>(hs.2 c ?_).trans q) (fun _ q=>q) fun _ _ q=>q
  rintro rfl
  rcases hc with rfl | hc
  ·rw [hfree] at e;cases e
  ·rw [hfree] at hc;cases hc
 rcases hx with hk | hk
 ·refine wpAny_storeName_local hk hn (fun h' hn' hs=>?_) hcls
  obtain ⟨oL,_,_,hoL,_⟩:=id hn
  refine h _ ⟨I.ok,I.os,I.bare,⟨fun b o e n hb hx=>?_,fun b o e n hb hx=>?_,I.base.free,fun b o e hx=>?_,I.base.tups,I.base.frzs,I.base.tbls⟩,⟨_,hn',fun j y v' e1 e2 e3=>?_⟩,fun y c e=>?_,I.free,I.freeC,fun p hp=>?_,tracked ⟨oL,hoL,I.free⟩ hs,by simpa using I.len⟩ ⟨_,hs,.inl rfl⟩
  ·exact (hs.2 b (Zr (Zg (Y6 e) I.ok.above))).trans (I.base.keep b o e n hb hx)
  ·obtain ⟨sl,e1⟩:=I.base.slot b o e n hb hx
   exact ⟨sl,(hs.2 b (Zr (Zg (Y6 e) I.ok.above))).trans e1⟩
  ·obtain ⟨o',e1⟩:=I.base.there b o e hx
   exact ⟨o',(hs.2 b (Zr (Zg (Y6 e) I.ok.above))).trans e1⟩
  ·by_cases hj:j=i
   ·subst hj
    rw [hi] at e1;cases e1
    rw [ZV hiU] at e2
    cases e2
    exact ⟨u,r,.inl ⟨hk,by simp⟩⟩
   ·rw [ZC (Ne.symm hj)] at e2
    obtain ⟨u',r',q⟩:=hl j y v' e1 e2 e3
    refine ⟨u',r',?_⟩
    rcases q with ⟨k,e⟩ | ⟨k,c,e,z⟩
    ·refine .inl ⟨k,?_⟩
     have:y≠x:=fun e=>hj (v4 hN e1 (e ▸ hi))
     simp [this,e]
    ·exact .inr ⟨k,c,e,z.sameBut hs (cne y c e)⟩
  ·obtain ⟨w',z⟩:=I.cell y c e
   exact ⟨w',z.sameBut hs (cne y c e)⟩
  ·obtain ⟨e,n,ne,nf,d⟩:=I.pin p hp
   exact ⟨(hs.2 p.1 ne).trans e,n,ne,nf,d⟩
 ·have hfn:X.fn x=true:=by
   rcases hf with z | z
   ·exact z
   ·rw [z] at hk;cases hk
  obtain ⟨c,hc⟩:=I.ok.has x (.inl hk)
  obtain ⟨w',z⟩:=I.cell x c hc
  refine wpAny_storeName_cell I.ok.kind hk hc z (fun h' hc' hs=>?_)
  obtain ⟨oc,hoc,hocd⟩:=id z
  refine h {s with heap:=h'} ⟨I.ok,I.os,I.bare,⟨fun b o e n hb hx=>?_,fun b o e n hb hx=>?_,I.base.free,fun b o e hx=>?_,I.base.tups,I.base.frzs,I.base.tbls⟩,⟨m,hn.sameBut hs (Ne.symm (cne x c hc)),fun j y v' e1 e2 e3=>?_⟩,fun y c' e=>?_,I.free,I.freeC,fun p hp=>?_,tracked ⟨oc,hoc,I.freeC x c hc⟩ hs,by simpa using I.len⟩ ⟨c,hs,.inr hc⟩
  ·exact (hs.2 b (Zr (Zg (Y6 e) (I.ok.cab x c hfn hc)))).trans (I.base.keep b o e n hb hx)
  ·obtain ⟨sl,e1⟩:=I.base.slot b o e n hb hx
   exact ⟨sl,(hs.2 b (Zr (Zg (Y6 e) (I.ok.cab x c hfn hc)))).trans e1⟩
  ·obtain ⟨o',e1⟩:=I.base.there b o e hx
   exact ⟨o',(hs.2 b (Zr (Zg (Y6 e) (I.ok.cab x c hfn hc)))).trans e1⟩
  ·by_cases hj:j=i
   ·subst hj
    rw [hi] at e1;cases e1
    rw [ZV hiU] at e2
    cases e2
    exact ⟨u,r,.inr ⟨.inl hk,c,hc,hc'⟩⟩
   ·rw [ZC (Ne.symm hj)] at e2
    obtain ⟨u',r',q⟩:=hl j y v' e1 e2 e3
    refine ⟨u',r',?_⟩
    rcases q with q | ⟨k,c',e,z'⟩
    ·exact .inl q
    ·refine .inr ⟨k,c',e,z'.sameBut hs ?_⟩
     rintro rfl
     exact hj (v4 hN e1 (I.ok.inj _ _ _ e hc ▸ hi))
  ·by_cases hcc:c'=c
   ·subst hcc;exact ⟨_,hc'⟩
   ·obtain ⟨w2,z2⟩:=I.cell y c' e
    exact ⟨w2,z2.sameBut hs hcc⟩
  ·obtain ⟨e,n,ne,nf,d⟩:=I.pin p hp
   refine ⟨(hs.2 p.1 ?_).trans e,n,ne,nf,d⟩
   intro q
   rw [q,hoc] at e
   have q':oc=p.2:=Zv e
   exact d w' (by rw [← q'];exact hocd)
theorem oZ {M:Model} {A:Around} {E:Value->Shared->Prop} {i:Nat} {x:Str} {v:V} {u:Value} {Q:Unit->Shared->Prop} (I:Inv X pins U H s) (hN:X.N.Nodup) (hi:X.N[i]?=some x) (hx:Loc X.env.scope x) (r:RelV v u)
  (h:∀ s',Inv X pins (U.set i (some v)) H s'->Q () s') (hf:autoParam (X.fn x=true\/X.env.scope.names.lookup x=some .local) L2.auto1._auto_1):wpAny M A (storeName X.env x u) Q E s:=
 ye I hN hi hx r (fun s' I' _=>h s' I') hf
theorem Inv.call' {s':Shared} {ch:List Addr} (I:Inv X pins U H s) (ho:s'.os=s.os) (u:Un (frs X.stack) ch H H' s.heap s'.heap) (hok:HOk X.prog X.w H' s'.heap) (hg:AllBare s'.gens)
  (hch:∀ b∈ch,(b∈X.ex\/X.s₀.heap.objs.size<=b)/\b≠X.env.locals/\(∀ x c,X.env.cells.lookup x=some c->c≠b)/\∀ p∈X.pn ++ pins,p.1≠b):Inv X pins U H' s':=by
 obtain ⟨h',g',d',t',o'⟩:=s'
 have e:o'=s.os:=ho
 subst e
 exact I.call (g':=g') (t':=t') (d':=d') u hok hg hch
end
abbrev XK:=Value->Option Addr->Hp->Prop
abbrev St:=List (Option V)
abbrev VK:=V->Hp->Prop
abbrev TE:=St->Hp->VK->Prop
abbrev TT:=St->Hp->(Bool->Hp->Prop)->Prop
abbrev TA:=St->Hp->(List V->Hp->Prop)->Prop
structure Ends where
 nx:St->Hp->Prop
 rt:VK
 bk:St->Hp->Prop:=fun _ _=>False
 ct:St->Hp->Prop:=fun _ _=>False
abbrev TS:=Ends->St->Hp->Prop
def EP (X:Cx) (pins:List (Addr×Obj)) (U:St) (Q:VK) (u:Value) (s':Shared):Prop:=∃ v H',Inv X pins U H' s'/\RelV v u/\Q v H'
def TP (X:Cx) (pins:List (Addr×Obj)) (U:St) (Q:Bool->Hp->Prop) (b:Bool) (s':Shared):Prop:=∃ H',Inv X pins U H' s'/\Q b H'
def AP (X:Cx) (pins:List (Addr×Obj)) (U:St) (Q:List V->Hp->Prop) (us:List Value) (s':Shared):Prop:=∃ vs H',Inv X pins U H' s'/\Vals vs us/\Q vs H'
def SP (X:Cx) (pins:List (Addr×Obj)) (D:Ends) (f:Flow) (s':Shared):Prop:=
 match f with
 | .next=>∃ U' H',Inv X pins U' H' s'/\D.nx U' H'
 | .brk=>∃ U' H',Inv X pins U' H' s'/\D.bk U' H'
 | .cont=>∃ U' H',Inv X pins U' H' s'/\D.ct U' H'
 | .ret u=>∃ v U' H',Inv X pins U' H' s'/\RelV v u/\D.rt v H'
def PE (X:Cx) (e:Expr) (t:TE):Prop:=
 ∀ (pins:List (Addr×Obj)) (s:Shared) (U:St) (H:Hp) (Q:VK),Inv X pins U H s->t U H Q->wpAny (model X.prog X.w) X.A (eval e X.env) (EP X pins U Q) X.xe s
def PT (X:Cx) (e:Expr) (t:TT):Prop:=
 ∀ (pins:List (Addr×Obj)) (s:Shared) (U:St) (H:Hp) (Q:Bool->Hp->Prop),Inv X pins U H s->t U H Q->wpAny (model X.prog X.w) X.A (isTrue e X.env (eval e X.env)) (TP X pins U Q) X.xe s
def PW (X:Cx) (e:Expr) (t:TT):Prop:=
 ∀ (whole:Sem Value) (pins:List (Addr×Obj)) (s:Shared) (U:St) (H:Hp) (Q:Bool->Hp->Prop),Inv X pins U H s->t U H Q->wpAny (model X.prog X.w) X.A (isTrue e X.env whole) (TP X pins U Q) X.xe s
theorem PW.pt {X:Cx} {e:Expr} {t:TT} (h:PW X e t):PT X e t:=h _
def PA (X:Cx) (es:List Expr) (t:TA):Prop:=
 ∀ (pos:Pos) (pins:List (Addr×Obj)) (s:Shared) (U:St) (H:Hp) (Q:List V->Hp->Prop),Inv X pins U H s->t U H Q->wpAny (model X.prog X.w) X.A (spliced (backTo pos (starEach es X.env))) (AP X pins U Q) X.xe s
def PS (X:Cx) (st:Stmt) (t:TS):Prop:=
 ∀ (pins:List (Addr×Obj)) (s:Shared) (U:St) (H:Hp) (D:Ends),Inv X pins U H s->t D U H->wpAny (model X.prog X.w) X.A (exec st X.env) (SP X pins D) X.xe s
def PSs (X:Cx) (st:List Stmt) (t:TS):Prop:=
 ∀ (pins:List (Addr×Obj)) (s:Shared) (U:St) (H:Hp) (D:Ends),Inv X pins U H s->t D U H->wpAny (model X.prog X.w) X.A (execs st X.env) (SP X pins D) X.xe s
theorem bV {α:Type} {t:Sem α} {Q Q':α->Shared->Prop} {M:Model} {A:Around} {E:Value->Shared->Prop} {s:Shared} (h:wpAny M A t Q E s) (hQ:∀ a s,Q a s->Q' a s):wpAny M A t Q' E s:=Zu h hQ fun _ _ x=>x
section
variable {X:Cx}
def rF (i:Nat):TE:=fun U H Q=>∃ v,U[i]?=some (some v)/\Q v H
def tC (v:V):TE:=fun _ H Q=>Q v H
theorem zq {i:Nat} {x:Str} {pos:Pos} (hN:X.N[i]?=some x) (hv:Wz X.env.scope x) (hd:autoParam ((x == ("__debug__":Str))=false) L2.auto2._auto_1) (hcd:autoParam ((x == ("__classdict__":Str))=false) L2.auto2._auto_1):PE X (.Name x pos) (rF i):=by
 intro pins s U H Q I h
 obtain ⟨v,e,h⟩:=h
 obtain ⟨m,hn,hl⟩:=I.loc
 obtain ⟨u,r,l⟩:=hl i x v hN e hv
 have fin:EP X pins U Q u s:=⟨v,H,I,r,h⟩
 rcases l with ⟨hk,hm⟩ | ⟨hk,c,hc,hcell⟩
 ·exact wpAny_Name (wpAny_loadName_local I.ok.kind hk hn hm fin) hd
 ·rcases hk with hk | hk
  ·exact wpAny_Name (wpAny_loadName_cell I.ok.kind hk hc hcell fin) hd
  ·exact wpAny_Name (wpAny_loadName_free I.ok.kind hk hc hcell fin hcd) hd
theorem SX {i j pos}:PE X (.Constant (.int i) j pos) (tC (.int i)):=fun _ _ _ H _ I h=>wpAny_Constant_int ⟨.int i,H,I.tok _,⟨_,rfl⟩,h⟩
theorem WD {b j pos}:PE X (.Constant (.bool b) j pos) (tC (.bl b)):=fun _ _ _ H _ I h=>Constant_bool ⟨.bl b,H,I,rfl,h⟩
theorem Tc {j pos}:PE X (.Constant .none j pos) (tC .non):=fun _ _ _ H _ I h=>Constant_none ⟨.non,H,I,rfl,h⟩
theorem Td {x j pos}:PE X (.Constant (.str x) j pos) (tC (.str x)):=fun _ _ _ H _ I h=>Calls.Constant_str ⟨.str x,H,I.tok _,⟨_,rfl⟩,h⟩
def Gl (X:Cx) (x:Str):Prop:=X.env.kindOf x=some .globalImplicit
theorem lJ {E:Value->Shared->Prop} {pins:List (Addr×Obj)} {s:Shared} {U:St} {H:Hp} {x:Str} {u:Value} {pos:Pos} {Q:Value->Shared->Prop} (I:Inv X pins U H s) (hg:Gl X x) (hm:X.mg x=some u) (h:Q u s)
  (hd:autoParam ((x == ("__debug__":Str))=false) L2.auto2._auto_1):wpAny (model X.prog X.w) X.A (eval (.Name x pos) X.env) Q E s:=
 Calls.Name_function_global I.ok.kind hg (Calls.loadGlobal_global (by rw [I.ok.glob];exact I.mod.glob.keeps I.bk) hm h) hd
theorem ig {E:Value->Shared->Prop} {pins:List (Addr×Obj)} {s:Shared} {U:St} {H:Hp} {x:Str} {u:Value} {pos:Pos} {Q:Value->Shared->Prop} (I:Inv X pins U H s) (hg:Gl X x) (hm:X.mg x=none) (hv:bootBuiltins x=some u) (h:Q u s)
  (hn:autoParam (x≠"__name__") L2.auto2._auto_1) (hd:autoParam ((x == ("__debug__":Str))=false) L2.auto2._auto_1):wpAny (model X.prog X.w) X.A (eval (.Name x pos) X.env) Q E s:=by
 obtain ⟨mb,h1,h2⟩:=I.mod.blt
 exact Calls.Name_function_global I.ok.kind hg (Calls.loadGlobal_builtin (by rw [I.ok.glob];exact I.mod.glob.keeps I.bk) hm (by rw [I.ok.blt];exact h1.keeps I.bk) ((h2 x hn).trans hv) h) hd
theorem zr {x:Str} {v:V} {u:Value} {pos:Pos} (hg:Gl X x) (hm:X.mg x=some u) (r:RelV v u) (hd:autoParam ((x == ("__debug__":Str))=false) L2.auto2._auto_1):PE X (.Name x pos) (tC v):=
 fun _ _ _ H _ I h=>lJ I hg hm ⟨v,H,I,r,h⟩ hd
theorem O6 {x:Str} {v:V} {u:Value} {pos:Pos} (hg:Gl X x) (hm:X.mg x=none) (hv:bootBuiltins x=some u) (r:RelV v u) (hn:autoParam (x≠"__name__") L2.auto2._auto_1) (hd:autoParam ((x == ("__debug__":Str))=false) L2.auto2._auto_1):PE X (.Name x pos) (tC v):=
 fun _ _ _ H _ I h=>ig I hg hm hv ⟨v,H,I,r,h⟩ hn hd
variable {a b:Expr} {ta tb:TE} {pos:Pos}
def tB (t:TE):TT:=fun U H Q=>t U H fun x H1=>∃ c,x= .bl c/\Q c H1
theorem Te {e:Expr} {t:TE} (h:PE X e t) (he:autoParam (∀ whole,isTrue e X.env whole=(do let v ← whole;standAt e.pos;holding [v] (truthy v))) L2.auto3._auto_1):PT X e (tB t):=by
 intro pins s U H Q I hw
 refine isTrue_plain (bV (h pins s U H _ I hw) fun v s1 qq0=>?_) (he _)
 obtain ⟨x,H1,I1,r1,q1⟩:=qq0
 obtain ⟨d,rfl,q⟩:=q1
 cases r1
 exact Z8 ⟨H1,I1,q⟩
variable {tA tB':TT} {rest:List Expr}
def O7 (t u:TT):TT:=fun U H Q=>t U H fun c H1=>if c=true then u U H1 Q else Q false H1
def tOr (t u:TT):TT:=fun U H Q=>t U H fun c H1=>if c=true then Q true H1 else u U H1 Q
def Tf (t:TT):TT:=fun U H Q=>t U H fun c H1=>Q (!c) H1
theorem O8 (ha:PT X a tA):PW X (.BoolOp .And [a] pos) tA:=by
 intro wh pins s U H Q I h
 refine isTrue_and (bV (ha pins s U H Q I h) fun c s1 e=>?_)
 cases c with
 | true=>exact isTrue_and_nil e
 | false=>exact e
theorem Tg (ha:PT X a tA):PW X (.BoolOp .Or [a] pos) tA:=by
 intro wh pins s U H Q I h
 refine isTrue_or (bV (ha pins s U H Q I h) fun c s1 e=>?_)
 cases c with
 | false=>exact isTrue_or_nil e
 | true=>exact e
theorem Th (ha:PT X a tA) (hb:PW X (.BoolOp .And (b :: rest) pos) tB'):PW X (.BoolOp .And (a :: b :: rest) pos) (O7 tA tB'):=by
 intro wh pins s U H Q I h
 refine isTrue_and (bV (ha pins s U H _ I h) fun c s1 qq0=>?_)
 obtain ⟨H1,I1,q1⟩:=qq0
 cases c with
 | true=>exact hb wh pins s1 U H1 Q I1 q1
 | false=>exact ⟨H1,I1,q1⟩
theorem WF (ha:PT X a tA) (hb:PW X (.BoolOp .Or (b :: rest) pos) tB'):PW X (.BoolOp .Or (a :: b :: rest) pos) (tOr tA tB'):=by
 intro wh pins s U H Q I h
 refine isTrue_or (bV (ha pins s U H _ I h) fun c s1 qq0=>?_)
 obtain ⟨H1,I1,q1⟩:=qq0
 cases c with
 | true=>exact ⟨H1,I1,q1⟩
 | false=>exact hb wh pins s1 U H1 Q I1 q1
theorem Ti (ha:PT X a tA):PT X (.UnaryOp .Not a pos) (Tf tA):=by
 intro pins s U H Q I h
 exact isTrue_not (ha pins s U H (fun c H1=>Q (!c) H1) I h)
def Ke (ta tb:TE):TE:=fun U H Q=>ta U H fun x H1=>∃ c,x= .bl c/\if c=true then tb U H1 Q else Q (.bl false) H1
def Tj (ta tb:TE):TE:=fun U H Q=>ta U H fun x H1=>∃ c,x= .bl c/\if c=true then Q (.bl true) H1 else tb U H1 Q
def Kf (ta:TE):TE:=fun U H Q=>ta U H fun x H1=>∃ c,x= .bl c/\Q (.bl (!c)) H1
theorem Tp {op} {t:TE} (h:PE X a t):PE X (.BoolOp op [a] pos) t:=fun pins s U H Q I hw=>BoolOp_one (h pins s U H Q I hw)
theorem Tq (ha:PE X a ta) (hb:PE X (.BoolOp .And (b :: rest) pos) tb):PE X (.BoolOp .And (a :: b :: rest) pos) (Ke ta tb):=by
 intro pins s U H Q I h
 refine BoolOp_and (bV (ha pins s U H _ I h) fun v s1 qq0=>?_)
 obtain ⟨x,H1,I1,r1,q1⟩:=qq0
 obtain ⟨c,rfl,q1⟩:=q1
 cases r1
 refine Z8 ?_
 cases c with
 | true=>exact hb pins s1 U H1 Q I1 q1
 | false=>exact ⟨.bl false,H1,I1,rfl,q1⟩
theorem WK (ha:PE X a ta) (hb:PE X (.BoolOp .Or (b :: rest) pos) tb):PE X (.BoolOp .Or (a :: b :: rest) pos) (Tj ta tb):=by
 intro pins s U H Q I h
 refine BoolOp_or (bV (ha pins s U H _ I h) fun v s1 qq0=>?_)
 obtain ⟨x,H1,I1,r1,q1⟩:=qq0
 obtain ⟨c,rfl,q1⟩:=q1
 cases r1
 refine Z8 ?_
 cases c with
 | false=>exact hb pins s1 U H1 Q I1 q1
 | true=>exact ⟨.bl true,H1,I1,rfl,q1⟩
theorem Tr (ha:PE X a ta):PE X (.UnaryOp .Not a pos) (Kf ta):=by
 intro pins s U H Q I h
 refine UnaryOp_ (bV (ha pins s U H _ I h) fun v s1 qq0=>?_)
 obtain ⟨x,H1,I1,r1,q1⟩:=qq0
 obtain ⟨c,rfl,q1⟩:=q1
 cases r1
 exact not_of (Z8 ⟨.bl (!c),H1,I1,rfl,q1⟩)
def tIf (t:TT) (ta tb:TE):TE:=fun U H Q=>t U H fun c H1=>if c=true then ta U H1 Q else tb U H1 Q
theorem Kg {c:Expr} (hc:PT X c tA) (ha:PE X a ta) (hb:PE X b tb):PE X (.IfExp c a b pos) (tIf tA ta tb):=by
 intro pins s U H Q I h
 refine wpAny_IfExp (bV (hc pins s U H _ I h) fun d s1 qq0=>?_)
 obtain ⟨H1,I1,q1⟩:=qq0
 cases d with
 | true=>exact ha pins s1 U H1 Q I1 q1
 | false=>exact hb pins s1 U H1 Q I1 q1
end
def SqL (K:W.Frag) (H:Hp) (a:Addr) (xs:List V):Prop:=
 Rd H a (.lst xs)\/
  ∃ (o:Obj) (its:Array Value) (n:Nat),K.lookup a=some o/\o.cls= .type "list"/\o.dict=none/\o.data= .seq its n/\its.size<=sizeLine/\Vals xs its.toList
def SqT (K:W.Frag) (H:Hp) (a:Addr) (xs:List V):Prop:=
 Rd H a (.tup xs)\/
  ∃ (o:Obj) (its:Array Value) (n:Nat),K.lookup a=some o/\o.cls= .type "tuple"/\o.data= .seq its n/\its.size<=sizeLine/\Vals xs its.toList
def absV:Value->Option V
 | .none=>some .non
 | .bool b=>some (.bl b)
 | .int i _=>some (.int i)
 | .str x _=>some (.str x)
 | .bytes b _=>some (.byt b)
 | .float b _=>some (.flt b)
 | .ref a=>some (.ref a)
 | .type n=>some (.ty n)
 | _=>none
theorem RelV.abs {x:V} {u:Value} (r:RelV x u):absV u=some x:=by
 cases x with
 | non=>cases r;rfl
 | bl _=>cases r;rfl
 | int _=>obtain ⟨t,rfl⟩:=r;rfl
 | str _=>obtain ⟨t,rfl⟩:=r;rfl
 | byt _=>obtain ⟨t,rfl⟩:=r;rfl
 | flt _=>obtain ⟨t,rfl⟩:=r;rfl
 | ref _=>cases r;rfl
 | ty _=>cases r;rfl
theorem RelV.inj {x y:V} {u:Value} (r:RelV x u) (q:RelV y u):x=y:=Zv (r.abs.symm.trans q.abs)
theorem Vals.inj:∀ {xs ys:List V} {us:List Value},Vals xs us->Vals ys us->xs=ys
 | _,_,_,.nil,.nil=>rfl
 | _,_,_,.cons r t,.cons r' t'=>by rw [r.inj r',Vals.inj t t']
section
variable {X:Cx} {pins:List (Addr×Obj)} {U:St} {H:Hp} {s:Shared} {a:Addr} {xs ys:List V}
theorem SqL.of {K:W.Frag} (h:H a=some (.lst xs)):SqL K H a xs:=.inl (.inl h)
theorem SqT.of {K:W.Frag} (h:H a=some (.tup xs)):SqT K H a xs:=.inl (.inl h)
theorem Inv.list (I:Inv X pins U H s) (h:SqL X.K H a xs):∃ its:List Value,Vals xs its/\PlainL s.heap a its.toArray/\xs.length<=sizeLine:=by
 rcases h with h | ⟨o,its,n,hk,hc,hd,hs,hz,r⟩
 ·obtain ⟨z,its,n,r,e⟩:=h.ok I.hok
  exact ⟨its,r,⟨_,n,e,rfl,rfl,rfl⟩,z⟩
 ·refine ⟨its.toList,r,⟨o,n,I.kIn a o hk,hc,hd,by simpa using hs⟩,?_⟩
  have e:=r.length
  simp only [Zx] at e
  omega
theorem Inv.tuple (I:Inv X pins U H s) (h:SqT X.K H a xs):∃ its:List Value,Vals xs its/\IsTup s.heap a its.toArray/\xs.length<=sizeLine:=by
 rcases h with h | ⟨o,its,n,hk,hc,hs,hz,r⟩
 ·obtain ⟨z,its,r,p⟩:=h.ok I.hok
  exact ⟨its,r,p,z⟩
 ·refine ⟨its.toList,r,⟨o,I.kIn a o hk,hc,n,by simpa using hs⟩,?_⟩
  have e:=r.length
  simp only [Zx] at e
  omega
theorem Inv.list_inj (I:Inv X pins U H s) (h:SqL X.K H a xs) (h':SqL X.K H a ys):xs=ys:=by
 obtain ⟨its,r,⟨o,n,e,_,_,d⟩,_⟩:=I.list h
 obtain ⟨its',r',⟨o',n',e',_,_,d'⟩,_⟩:=I.list h'
 rw [e] at e';cases e'
 rw [d] at d'
 injection d' with d1 _
 have:its=its':=by simpa using congrArg Array.toList d1
 subst this
 exact r.inj r'
theorem Inv.tuple_inj (I:Inv X pins U H s) (h:SqT X.K H a xs) (h':SqT X.K H a ys):xs=ys:=by
 obtain ⟨its,r,⟨o,e,_,n,d⟩,_⟩:=I.tuple h
 obtain ⟨its',r',⟨o',e',_,n',d'⟩,_⟩:=I.tuple h'
 rw [e] at e';cases e'
 rw [d] at d'
 injection d' with d1 _
 have:its=its':=by simpa using congrArg Array.toList d1
 subst this
 exact r.inj r'
end
abbrev Cx.wish (X:Cx) (E:Value->Shared->Prop):Cx:={X with xe:=E}
abbrev Cx.nox (X:Cx):Cx:=X.wish fun _ _=>False
theorem Cx.Ok.wish {X:Cx} (ok:X.Ok) (E:Value->Shared->Prop):(X.wish E).Ok:=
 ⟨ok.mod,ok.kind,ok.glob,ok.blt,ok.above,ok.inj,ok.has,ok.cab,ok.hd,ok.frames,ok.stk,ok.exf,ok.bs,ok.bsz,ok.noex,ok.exfs,ok.funs,ok.frf⟩
theorem Cx.Ok.unwish {X:Cx} {E:Value->Shared->Prop} (ok:(X.wish E).Ok):X.Ok:=
 ⟨ok.mod,ok.kind,ok.glob,ok.blt,ok.above,ok.inj,ok.has,ok.cab,ok.hd,ok.frames,ok.stk,ok.exf,ok.bs,ok.bsz,ok.noex,ok.exfs,ok.funs,ok.frf⟩
section
variable {X:Cx} {pins:List (Addr×Obj)} {U:St} {H:Hp} {s:Shared} {E:Value->Shared->Prop}
theorem Inv.wish (I:Inv X pins U H s) (E:Value->Shared->Prop):Inv (X.wish E) pins U H s:=⟨I.ok.wish E,I.os,I.bare,I.base,I.loc,I.cell,I.free,I.freeC,I.pin,I.hok,I.len⟩
theorem Inv.unwish (I:Inv (X.wish E) pins U H s):Inv X pins U H s:=⟨I.ok.unwish,I.os,I.bare,I.base,I.loc,I.cell,I.free,I.freeC,I.pin,I.hok,I.len⟩
theorem SP.unwish {D:Ends} {f:Flow} {s':Shared} (h:SP (X.wish E) pins D f s'):SP X pins D f s':=by
 cases f with
 | next=>obtain ⟨U',H',I,q⟩:=h;exact ⟨U',H',I.unwish,q⟩
 | brk=>obtain ⟨U',H',I,q⟩:=h;exact ⟨U',H',I.unwish,q⟩
 | cont=>obtain ⟨U',H',I,q⟩:=h;exact ⟨U',H',I.unwish,q⟩
 | ret u=>obtain ⟨v,U',H',I,r,q⟩:=h;exact ⟨v,U',H',I.unwish,r,q⟩
theorem PSs.nox {st:List Stmt} {t:TS} (h:PSs X.nox st t):PSs X st t:=fun pins s U H D I hw=>
 Zu (h pins s U H D (I.wish _) hw) (fun _ _ q=>q.unwish) fun _ _ z=>False.elim z
end
section
variable {X:Cx} {st:Stmt} {rest:List Stmt} {t u:TS} {e:Expr} {te:TE} {pos:Pos}
def Kh:TS:=fun D U H=>D.nx U H
def O9 (t u:TS):TS:=fun D U H=>t {D with nx:=u D} U H
theorem Pa:PSs X [] Kh:=fun _ _ U H _ I h=>wpAny_execs_nil ⟨U,H,I,h⟩
theorem Kl (h1:PS X st t) (h2:PSs X rest u):PSs X (st :: rest) (O9 t u):=by
 intro pins s U H D I h
 refine wpAny_execs_cons (bV (h1 pins s U H {D with nx:=u D} I h) fun f s1 q=>?_)
 cases f with
 | next=>
  obtain ⟨U',H',I',q⟩:=q
  exact h2 pins s1 U' H' D I' q
 | ret v=>exact q
 | brk=>exact q
 | cont=>exact q
theorem Pb (h1:PS X st t):PSs X [st] t:=by
 intro pins s U H D I h
 refine wpAny_execs_cons (bV (h1 pins s U H D I h) fun f s1 q=>?_)
 cases f with
 | next=>exact wpAny_execs_nil q
 | ret v=>exact q
 | brk=>exact q
 | cont=>exact q
theorem Inv.quiet {pins:List (Addr×Obj)} {U:St} {H:Hp} {s:Shared} (I:Inv X pins U H s):interactive X.env=false:=by simp [interactive,I.ok.kind]
def FP (te:TE):TS:=fun D U H=>te U H fun _ H1=>D.nx U H1
theorem Pg (he:PE X e te) (hs:autoParam (swapsWith e none pos.line X.env=pure false) L2.auto4._auto_1):PS X (.Expr e pos) (FP te):=by
 intro pins s U H D I h
 exact wpAny_Expr_any (bV (he pins s U H _ I h) fun v s1 ⟨x,H1,I1,r1,q1⟩=>⟨U,H1,I1,q1⟩) I.quiet hs
def Tt (te:TE):TS:=fun D U H=>te U H D.rt
theorem Tu (he:PE X e te):PS X (.Return (some e) pos) (Tt te):=by
 intro pins s U H D I h
 exact wpAny_Return_some (bV (he pins s U H _ I h) fun v s1 ⟨x,H1,I1,r1,q1⟩=>⟨x,U,H1,I1,r1,q1⟩)
def Tv (c:TT) (t u:TS):TS:=fun D U H=>c U H fun b H1=>if b=true then t D U H1 else u D U H1
theorem WL {c:Expr} {a b:List Stmt} {tc:TT} (hc:PT X c tc) (ha:PSs X a t) (hb:PSs X b u):PS X (.If c a b pos) (Tv tc t u):=by
 intro pins s U H D I h
 refine wpAny_If (bV (hc pins s U H _ I h) fun d s1 qq0=>?_)
 obtain ⟨H1,I1,q1⟩:=qq0
 cases d with
 | true=>exact ha pins s1 U H1 D I1 q1
 | false=>exact hb pins s1 U H1 D I1 q1
def Km:TS:=fun _ _ _=>False
theorem Ko:PS X st Km:=fun _ _ _ _ _ _ h=>h.elim
end
abbrev TG:=V->St->Hp->(St->Hp->Prop)->Prop
abbrev HX:=List V->St->Hp->(St->Hp->Prop)->Prop
def PG (X:Cx) (target:Expr) (t:TG):Prop:=
 ∀ (pins:List (Addr×Obj)) (s:Shared) (U:St) (H:Hp) (v:V) (u:Value) (Q:St->Hp->Prop),Inv X pins U H s->RelV v u->t v U H Q->
  wpAny (model X.prog X.w) X.A (assign target X.env u) (fun _ s'=>∃ U' H',Inv X pins U' H' s'/\Q U' H') X.xe s
def Wj (X:Cx) (ts:List Expr) (t:HX):Prop:=
 ∀ (pins:List (Addr×Obj)) (s:Shared) (U:St) (H:Hp) (vs:List V) (us:List Value) (Q:St->Hp->Prop),Inv X pins U H s->Vals vs us->t vs U H Q->
  wpAny (model X.prog X.w) X.A (assignInOrder ((assignEach ts X.env).map (·.2)) us) (fun _ s'=>∃ U' H',Inv X pins U' H' s'/\Q U' H') X.xe s
abbrev Dz:=V->V->V->Hp->(Hp->Prop)->Prop
def Ph (X:Cx) (t:Dz):Prop:=
 ∀ (pins:List (Addr×Obj)) (s:Shared) (U:St) (H:Hp) (o i v:V) (ov iv u:Value) (Q:Hp->Prop),Inv X pins U H s->RelV o ov->RelV i iv->RelV v u->t o i v H Q->
  wpAny (model X.prog X.w) X.A (setItem ov iv u) (fun _ s'=>∃ H',Inv X pins U H' s'/\Q H') X.xe s
abbrev TIp:=V->V->Hp->VK->Prop
def PIp (X:Cx) (op:Operator) (t:TIp):Prop:=
 ∀ (pins:List (Addr×Obj)) (s:Shared) (U:St) (H:Hp) (x y:V) (v u:Value) (Q:VK),Inv X pins U H s->RelV x v->RelV y u->t x y H Q->
  wpAny (model X.prog X.w) X.A (inplaceOp op v u) (EP X pins U Q) X.xe s
section
variable {X:Cx} {pos:Pos}
def qZ (i:Nat):TG:=fun v U H Q=>Q (U.set i (some v)) H
theorem FQ {i:Nat} {x:Str} (hN:X.N.Nodup) (hi:X.N[i]?=some x) (hx:Loc X.env.scope x) (hf:autoParam (X.fn x=true\/X.env.scope.names.lookup x=some .local) L2.auto1._auto_1):PG X (.Name x pos) (qZ i):=by
 intro pins s U H v u Q I r h
 exact wpAny_assign_Name (oZ I hN hi hx r (fun s' I'=>⟨_,H,I',h⟩) hf)
def Tw:HX:=fun vs U H Q=>vs=[]/\Q U H
def Kp (t:TG) (u:HX):HX:=fun vs U H Q=>∃ v r,vs=v :: r/\t v U H fun U' H'=>u r U' H' Q
theorem Pj:Wj X [] Tw:=by
 intro pins s U H vs us Q I r h
 obtain ⟨e,h⟩:=h
 subst e
 cases r
 exact assignInOrder_nil ⟨U,H,I,h⟩
theorem Kq {e:Expr} {es:List Expr} {t:TG} {u:HX} (h1:PG X e t) (h2:Wj X es u)
  (hs:autoParam ((assignEach (e :: es) X.env).map (·.2)=assign e X.env :: (assignEach es X.env).map (·.2)) L2.auto4._auto_1):Wj X (e :: es) (Kp t u):=by
 intro pins s U H vs us Q I r h
 obtain ⟨v,vr,e1,h⟩:=h
 subst e1
 cases r with
 | cons r rr=>
  rw [hs]
  refine assignInOrder_cons (bV (h1 pins s U H _ _ _ I r h) fun _ s1 qq0=>?_)
  obtain ⟨σ1,H1,I1,q1⟩:=qq0
  exact h2 pins s1 σ1 H1 _ _ Q I1 rr q1
def Pk (K:W.Frag) (n:Nat) (t:HX):TG:=fun v U H Q=>∃ a xs,v= .ref a/\SqT K H a xs/\xs.length=n/\t xs U H Q
theorem Tz {es:List Expr} {k:Nat} {t:HX} {n:Nat} (hc:X.calm=true) (h:Wj X es t)
  (hn:autoParam ((assignEach es X.env).length=n) L2.auto4._auto_1) (hst:autoParam ((assignEach es X.env).findIdx? (·.1)=none) L2.auto4._auto_1):PG X (.Tuple es k pos) (Pk X.K n t):=by
 intro pins s U H v u Q I r hw
 obtain ⟨a,xs,e1,hq,hl,hw⟩:=hw
 subst e1
 cases r
 obtain ⟨its,rv,ht,hz⟩:=I.tuple hq
 refine assign_Tuple_tuple (I.ok.hd hc) ht (by simp [hn,← hl,rv.length]) hst fun h' hx=>?_
 have I1:Inv X pins U H {s with heap:=h'}:=I.kept (t':=s.toks) fun b o e=>hx b o (Zr (Y6 e)) e
 exact h pins _ U H xs _ Q I1 (by simpa using rv) hw
def TF (to ti:TE) (t:Dz):TG:=fun v U H Q=>to U H fun o H1=>ti U H1 fun i H2=>t o i v H2 fun H3=>Q U H3
theorem TJ {o i:Expr} {to ti:TE} {t:Dz} (ho:PE X o to) (hi:PE X i ti) (hs:Ph X t)
  (ha:∀ v,assign (.Subscript o i pos) X.env v=(do
   let ov ← holding [v] (eval o X.env)
   let iv ← holding [v,ov] (eval i X.env)
   standAt pos
   holding [v,ov,iv] (setItem ov iv v)
   release [v,ov,iv] []):=by intro _;rfl):PG X (.Subscript o i pos) (TF to ti t):=by
 intro pins s U H v u Q I r h
 rw [ha]
 refine YS (ZW (bV (ho pins s U H _ I h) fun ov s1 qq0=>?_))
 obtain ⟨x,H1,I1,r1,q1⟩:=qq0
 refine YS (ZW (bV (hi pins s1 U H1 _ I1 q1) fun iv s2 qq0=>?_))
 obtain ⟨y,H2,I2,r2,q2⟩:=qq0
 refine YS (Abd (YS (ZW (bV (hs pins s2 U H2 x y v ov iv u _ I2 r1 r2 r q2) fun _ s3 qq0=>?_))))
 obtain ⟨H3,I3,q3⟩:=qq0
 exact wpAny_release ⟨U,H3,I3,q3⟩
def Bk (te:TE) (g:TG):TS:=fun D U H=>te U H fun x H1=>g x U H1 D.nx
theorem TQ {tg e:Expr} {te:TE} {g:TG} (he:PE X e te) (hg:PG X tg g) (hs:autoParam (swapsWithSole [tg] e pos.line X.env=pure false) L2.auto4._auto_1) (hw:autoParam (swappedStores [tg] e X.env=pure none) L2.auto4._auto_1)
  (h1:autoParam ((assignEach [tg] X.env).map (·.2)=[assign tg X.env]) L2.auto4._auto_1):PS X (.Assign [tg] e pos) (Bk te g):=by
 intro pins s U H D I h
 refine wpAny_Assign_stores (bV (he pins s U H _ I h) fun v s1 qq0=>?_) hs hw
 obtain ⟨x,H1,I1,r1,q1⟩:=qq0
 rw [h1]
 exact bV (hg pins s1 U H1 x v _ I1 r1 q1) fun _ s2 q=>q
theorem Kr {i:Nat} {x:Str} {e:Expr} {te:TE} {pos':Pos} (hN:X.N.Nodup) (hi:X.N[i]?=some x) (hx:Loc X.env.scope x) (he:PE X e te) (hs:autoParam (swapsWith e (some (.Name x pos')) pos.line X.env=pure false) L2.auto4._auto_1) (hf:autoParam (X.fn x=true\/X.env.scope.names.lookup x=some .local) L2.auto1._auto_1):
  PS X (.Assign [.Name x pos'] e pos) (Bk te (qZ i)):=by
 intro pins s U H D I h
 refine wpAny_Assign_Name (bV (he pins s U H _ I h) fun v s1 qq0=>?_) hs
 obtain ⟨y,H1,I1,r1,q1⟩:=qq0
 exact oZ I1 hN hi hx r1 (fun s2 I2=>⟨_,H1,I2,q1⟩) hf
def TV (i:Nat) (te:TE) (ti:TIp):TS:=fun D U H=>∃ x,U[i]?=some (some x)/\te U H fun y H1=>ti x y H1 fun z H2=>D.nx (U.set i (some z)) H2
theorem TX {i:Nat} {x:Str} {e:Expr} {te:TE} {op:Operator} {ti:TIp} {pos':Pos} (hN:X.N.Nodup) (hi:X.N[i]?=some x) (hx:Loc X.env.scope x) (he:PE X e te) (ho:PIp X op ti) (hf:autoParam (X.fn x=true\/X.env.scope.names.lookup x=some .local) L2.auto1._auto_1):
  PS X (.AugAssign (.Name x pos') op e pos) (TV i te ti):=by
 intro pins s U H D I h
 obtain ⟨v,e1,h⟩:=h
 obtain ⟨m,hn,hl⟩:=I.loc
 have vis:Wz X.env.scope x:=by rcases hx with k | k;exact .inl k;exact .inr (.inl k)
 obtain ⟨u,r,l⟩:=hl i x v hi e1 vis
 refine wpAny_AugAssign_Name ?_
 have go:wpAny (model X.prog X.w) X.A (eval e X.env) (fun w s₂=>wpAny (model X.prog X.w) X.A (inplaceOp op u w) (fun r s₃=>wpAny (model X.prog X.w) X.A (storeName X.env x r) (fun _=>SP X pins D .next) X.xe s₃) X.xe s₂) X.xe s:=by
  refine bV (he pins s U H _ I h) fun w s1 qq0=>?_
  obtain ⟨y,H1,I1,r1,q1⟩:=qq0
  refine bV (ho pins s1 U H1 v y u w _ I1 r r1 q1) fun z s2 qq0=>?_
  obtain ⟨zv,H2,I2,r2,q2⟩:=qq0
  exact oZ I2 hN hi hx r2 (fun s3 I3=>⟨_,H2,I3,q2⟩) hf
 rcases l with ⟨hk,hm⟩ | ⟨hk,c,hc,hcell⟩
 ·exact wpAny_loadName_local I.ok.kind hk hn hm go
 ·rcases hk with hk | hk
  ·exact wpAny_loadName_cell I.ok.kind hk hc hcell go
  ·rcases hx with k | k
   ·have:X.env.scope.names.lookup x=some .free:=hk
    rw [k] at this;cases this
   ·have:X.env.scope.names.lookup x=some .free:=hk
    rw [k] at this;cases this
def DG (c:TT) (tb:TS):TS:=fun D U H=>∃ W:Nat->St->Hp->Prop,(∃ m,W m U H)/\∀ m U H,W m U H->
 c U H fun b H1=>if b=true then ∃ N:St->Hp->Prop,(∀ U' H',N U' H'->∃ m',m' < m/\W m' U' H')/\tb {D with nx:=N,ct:=N,bk:=D.nx} U H1 else D.nx U H1
theorem Ks {c:Expr} {body:List Stmt} {tc:TT} {tb:TS} (hp:PassesOwn (model X.prog X.w) X.A X.env X.xe) (hc:PT X c tc) (hb:PSs X body tb):PS X (.While c body [] pos) (DG tc tb):=by
 intro pins s U H D I h
 obtain ⟨W,⟨m0,w0⟩,turn⟩:=h
 refine wpAny_While (codeAny_whileLoop (fun n s'=>∃ U' H',Inv X pins U' H' s'/\W n U' H') ?_ m0 ⟨U,H,I,w0⟩)
 rintro n s1 ⟨σ1,H1,I1,w1⟩
 refine AaC hp (bV (hc pins s1 σ1 H1 _ I1 (turn n σ1 H1 w1)) fun b s2 qq0=>?_)
 obtain ⟨H2,I2,q2⟩:=qq0
 cases b with
 | true=>
  obtain ⟨N,hN,q2⟩:=q2
  rw [if_pos rfl]
  refine AaC hp (bV (hb pins s2 σ1 H2 _ I2 q2) fun f s3 q3=>?_)
  cases f with
  | next=>
   obtain ⟨σ3,H3,I3,n3⟩:=q3
   obtain ⟨m',hm,w3⟩:=hN σ3 H3 n3
   exact ⟨m',hm,σ3,H3,I3,w3⟩
  | cont=>
   obtain ⟨σ3,H3,I3,n3⟩:=q3
   obtain ⟨m',hm,w3⟩:=hN σ3 H3 n3
   exact ⟨m',hm,σ3,H3,I3,w3⟩
  | brk=>exact q3
  | ret v=>exact q3
 | false=>
  rw [if_neg Y5]
  exact wpAny_execs_nil ⟨σ1,H2,I2,q2⟩
end
structure It where
 go:Nat->Hp->Prop
 yld:Nat->Hp->V->Hp->Prop
 stop:Nat->Hp->Prop
def mR (X:Cx) (pins:List (Addr×Obj)) (H:Hp) (b:Addr):Prop:=
 H b=none/\b≠X.env.locals/\b ∉ X.fs/\(b∈X.ex\/X.s₀.heap.objs.size<=b)/\(∀ x c,X.env.cells.lookup x=some c->c≠b)/\∀ p∈X.pn ++ pins,p.1≠b
theorem Inv.fpOk {X:Cx} {pins:List (Addr×Obj)} {U:St} {H H':Hp} {s:Shared} {b:Addr} (I:Inv X pins U H s) (hb:s.heap.objs.size<=b) (hn:H' b=none):mR X pins H' b:=by
 refine ⟨hn,AaK (Zg I.lt hb),I.nofs hb,.inr (Zo I.sz hb),fun x c e z=>?_,fun p hp z=>?_⟩
 ·obtain ⟨v,q⟩:=I.cell x c e
  exact absurd (Zg q.lt (by rw [z];exact hb)) (Z1 _)
 ·exact absurd (Zg (Y6 (I.pin p hp).1) (by rw [z];exact hb)) (Z1 _)
structure Turn (P:Program) (w:World) (K:W.Frag) (tg:Expr) (J:It) (fp:List Addr) (it:Addr) (tn:Nat->Heap->Prop):Prop where
 mem:it∈fp
 obj:∀ i h,tn i h->∀ b∈fp,∃ o,h.get? b=some o/\∀ v,o.data≠.cell v
 keep:∀ i h h',tn i h->(∀ b∈fp,∀ o,h.get? b=some o->h'.get? b=some o)->tn i h'
 item:∀ (X:Cx),X.prog=P->X.w=w->X.K=K->X.calm=true->∀ (i:Nat) (pins:List (Addr×Obj)) (s:Shared) (U:St) (H:Hp) (E:Value->Shared->Prop),Inv X pins U H s->(∀ b∈fp,mR X pins H b)->tn i s.heap->J.go i H->
  wpAny (model P w) X.A (pyNext (.ref it)) (fun r s1=>∃ u,r=some u/\
   wpAny (model P w) X.A (letOwnedTupleGo tg (.ref it) u) (fun _ s2=>∃ x H',Inv X pins U H' s2/\RelV x u/\J.yld i H x H'/\tn (i+1) s2.heap/\∀ b∈fp,H' b=none) E s1) E s
 done:∀ (X:Cx),X.prog=P->X.w=w->X.K=K->X.calm=true->∀ (i:Nat) (pins:List (Addr×Obj)) (s:Shared) (U:St) (H:Hp) (E:Value->Shared->Prop),Inv X pins U H s->(∀ b∈fp,mR X pins H b)->tn i s.heap->J.stop i H->
  wpAny (model P w) X.A (pyNext (.ref it)) (fun r s1=>r=none/\Inv X pins U H s1) E s
 self:∀ (A:Around) (i:Nat) (s:Shared) (Q:Value->Shared->Prop) (E:Value->Shared->Prop),tn i s.heap->Q (.ref it) s->wpAny (model P w) A (pyIter (.ref it)) Q E s
abbrev TI:=St->Hp->(It->Hp->Prop)->Prop
def PIE (X:Cx) (pins:List (Addr×Obj)) (U:St) (tg:Expr) (R:It->Hp->Prop) (itv:Value) (s2:Shared):Prop:=
 ∃ (it:Addr) (fp:List Addr) (tn:Nat->Heap->Prop) (J:It) (H':Hp),itv= .ref it/\Inv X pins U H' s2/\Turn X.prog X.w X.K tg J fp it tn/\tn 0 s2.heap/\(∀ b∈fp,mR X pins H' b)/\R J H'
def PI (X:Cx) (tg iter:Expr) (wi:TI):Prop:=
 ∀ (pins:List (Addr×Obj)) (s:Shared) (U:St) (H:Hp) (R:It->Hp->Prop),Inv X pins U H s->wi U H R->
  wpAny (model X.prog X.w) X.A (eval iter X.env) (fun v s1=>wpAny (model X.prog X.w) X.A (pyIter v) (PIE X pins U tg R) X.xe s1) X.xe s
theorem yf {M:Model} {A:Around} {E:Value->Shared->Prop} {s:Shared} {tg:Expr} {it:Addr} {u:Value} {o:Obj} {n:String} {vs:Array Value} {Q:Unit->Shared->Prop} (ho:s.heap.get? it=some o) (hc:o.cls= .type n) (hd:o.data= .fields vs)
  (hn:["enumerate","zip","dict_itemiterator","dict_reverseitemiterator","odict_iterator","itertools.zip_longest","itertools.pairwise"].contains n=false) (hQ:Q () s):wpAny M A (letOwnedTupleGo tg (.ref it) u) Q E s:=by
 unfold letOwnedTupleGo
 cases tg <;> first
  | exact Y0 hQ
  | (cases u <;> first
    | exact Y0 hQ
    | (refine YS (wpAny_load ho ?_)
       rw [hc,hd]
       show wpAny M A (if (["enumerate","zip","dict_itemiterator","dict_reverseitemiterator","odict_iterator","itertools.zip_longest","itertools.pairwise"].contains n && vs[0]? == some (rawInt _))=true then _ else _) Q E s
       rw [if_neg (by intro h;rw [hn,Bool.false_and] at h;cases h)]
       exact Y0 hQ))
def Pq (K:W.Frag) (a:Addr):It:=
 ⟨fun i H=>∃ xs x,SqL K H a xs/\xs[i]?=some x,fun i H x H'=>H'=H/\∀ xs,SqL K H a xs->xs[i]?=some x,fun i H=>∃ xs,SqL K H a xs/\xs.length<=i⟩
def Wl (K:W.Frag) (a:Addr):It:=
 ⟨fun i H=>∃ xs x,SqT K H a xs/\xs[i]?=some x,fun i H x H'=>H'=H/\∀ xs,SqT K H a xs->xs[i]?=some x,fun i H=>∃ xs,SqT K H a xs/\xs.length<=i⟩
def J7 (lo:Int) (n:Nat):It:=⟨fun i _=>i < n,fun i H x H'=>H'=H/\x= .int (lo+i),fun i _=>n<=i⟩
theorem HY {P:Program} {w:World} {K:W.Frag} {tg:Expr} (a it:Addr):Turn P w K tg (Pq K a) [it] it (fun i h=>h.IsListIter it a i) where
 mem:=by simp
 obj:=fun i h st b hb=>by
  have e:b=it:=by simpa using hb
  subst e
  obtain ⟨o,e,c,d⟩:=st
  exact ⟨o,e,fun v z=>by rw [d] at z;cases z⟩
 keep:=fun i h h' st k=>st.at fun o e=>k it (by simp) o e
 item:=by
  intro X hP hw hK hc i pins s U H E I hf st hg
  subst hP hw hK
  obtain ⟨xs,x,hq,hx⟩:=hg
  obtain ⟨its,rv,p,hz⟩:=I.list hq
  obtain ⟨u,hu,ru⟩:=rv.get hx
  obtain ⟨f0,f1,f2,f3,f4,f5⟩:=hf it (by simp)
  refine wpAny_pyNext_list_item st p.isList (x:=u) (by simpa using hu) fun h' st' sb=>?_
  have I1:Inv X pins U H {s with heap:=h'}:=I.turned (t':=s.toks) (fun b o hb e=>(sb.2 b hb).trans e) f0 f1 f3 f4 f5
  obtain ⟨o,e,c,d⟩:=id st'
  exact ⟨u,rfl,yf (s:={s with heap:=h'}) e c d (by decide) ⟨x,H,I1,ru,⟨rfl,fun ys hy=>by rw [I.list_inj hy hq];exact hx⟩,st',fun b hb=>(hf b hb).1⟩⟩
 done:=by
  intro X hP hw hK hc i pins s U H E I hf st hg
  subst hP hw hK
  obtain ⟨xs,hq,hx⟩:=hg
  obtain ⟨its,rv,p,hz⟩:=I.list hq
  obtain ⟨f0,f1,f2,f3,f4,f5⟩:=hf it (by simp)
  have hl:=rv.length
  exact wpAny_pyNext_list_end (I.ok.hd hc) st p.isList (by simp;omega) fun h' eb=>⟨rfl,I.turned (t':=s.toks) (fun b o hb e=>eb b o hb e) f0 f1 f3 f4 f5⟩
 self:=fun _ _ _ _ _ st h=>wpAny_pyIter_listiter st h
theorem DK {P:Program} {w:World} {K:W.Frag} {tg:Expr} (a it:Addr):Turn P w K tg (Wl K a) [it] it (fun i h=>h.IsTupleIter it a i) where
 mem:=by simp
 obj:=fun i h st b hb=>by
  have e:b=it:=by simpa using hb
  subst e
  obtain ⟨o,e,c,d⟩:=st
  exact ⟨o,e,fun v z=>by rw [d] at z;cases z⟩
 keep:=fun i h h' st k=>st.at fun o e=>k it (by simp) o e
 item:=by
  intro X hP hw hK hc i pins s U H E I hf st hg
  subst hP hw hK
  obtain ⟨xs,x,hq,hx⟩:=hg
  obtain ⟨its,rv,p,hz⟩:=I.tuple hq
  obtain ⟨u,hu,ru⟩:=rv.get hx
  obtain ⟨f0,f1,f2,f3,f4,f5⟩:=hf it (by simp)
  refine wpAny_pyNext_tuple_item st (show s.heap.IsTuple a its.toArray from p) (x:=u) (by simpa using hu) fun h' st' sb=>?_
  have I1:Inv X pins U H {s with heap:=h'}:=I.turned (t':=s.toks) (fun b o hb e=>(sb.2 b hb).trans e) f0 f1 f3 f4 f5
  obtain ⟨o,e,c,d⟩:=id st'
  exact ⟨u,rfl,yf (s:={s with heap:=h'}) e c d (by decide) ⟨x,H,I1,ru,⟨rfl,fun ys hy=>by rw [I.tuple_inj hy hq];exact hx⟩,st',fun b hb=>(hf b hb).1⟩⟩
 done:=by
  intro X hP hw hK hc i pins s U H E I hf st hg
  subst hP hw hK
  obtain ⟨xs,hq,hx⟩:=hg
  obtain ⟨its,rv,p,hz⟩:=I.tuple hq
  obtain ⟨f0,f1,f2,f3,f4,f5⟩:=hf it (by simp)
  have hl:=rv.length
  exact wpAny_pyNext_tuple_end (I.ok.hd hc) st (show s.heap.IsTuple a its.toArray from p) (by simp;omega) fun h' eb=>⟨rfl,I.turned (t':=s.toks) (fun b o hb e=>eb b o hb e) f0 f1 f3 f4 f5⟩
 self:=fun _ _ _ _ _ st h=>wpAny_pyIter_tupleiter st h
theorem DN {P:Program} {w:World} {K:W.Frag} {tg:Expr} (it:Addr) (lo:Int) (n:Nat):Turn P w K tg (J7 lo n) [it] it (fun i h=>IsRangeIter h it (lo+(i:Nat)*1) ((n:Int) - (i:Nat)) 1) where
 mem:=by simp
 obj:=fun i h st b hb=>by
  have e:b=it:=by simpa using hb
  subst e
  exact ⟨_,st,fun v z=>by
   have z':Data.fields _=Data.cell v:=z
   cases z'⟩
 keep:=fun i h h' st k=>k it (by simp) _ st
 item:=by
  intro X hP hw hK hc i pins s U H E I hf st hg
  subst hP hw hK
  obtain ⟨f0,f1,f2,f3,f4,f5⟩:=hf it (by simp)
  have W:=Walks.range (prog:=X.prog) (w:=X.w) (I.ok.hd hc) it lo 1 n
  refine W.item i s _ _ hg st fun v h' tk hv st' kk=>?_
  obtain ⟨t,rfl⟩:=hv
  have I1:Inv X pins U H {s with heap:=h',toks:=tk}:=I.turned (fun b o hb e=>kk b o (by simpa using hb) e) f0 f1 f3 f4 f5
  refine ⟨_,rfl,yf (s:={s with heap:=h',toks:=tk}) (n:="range_iterator") st' rfl rfl (by decide) ⟨.int (lo+i),H,I1,⟨t,?_⟩,⟨rfl,rfl⟩,st',fun b hb=>(hf b hb).1⟩⟩
  rw [Int.mul_one]
 done:=by
  intro X hP hw hK hc i pins s U H E I hf st hg
  subst hP hw hK
  obtain ⟨f0,f1,f2,f3,f4,f5⟩:=hf it (by simp)
  exact wpAny_pyNext_range_end (I.ok.hd hc) st (by have:n<=i:=hg;omega) fun h' eb=>⟨rfl,I.turned (t':=s.toks) (fun b o hb e=>eb b o hb e) f0 f1 f3 f4 f5⟩
 self:=fun _ _ _ _ _ st h=>wpAny_pyIter_rangeiter st h
section
variable {X:Cx} {tg:Expr}
theorem Bl {pins:List (Addr×Obj)} {U:St} {H:Hp} {s:Shared} {R:It->Hp->Prop} {E:Value->Shared->Prop} {lo hi:Int} {t u v:Tok} {tk:Nat} (I:Inv X pins U H s) (h1: -(2 ^ 62)<=lo) (h2:lo < 2 ^ 62) (h3: -(2 ^ 62)<=hi) (h4:hi < 2 ^ 62)
  (q:R (J7 lo (hi - lo).toNat) H):wpAny (model X.prog X.w) X.A (pyIter (.ref s.heap.objs.size)) (PIE X pins U tg R) E {s with heap:=s.heap.push {cls:=.type "range",data:=.fields #[.int lo t,.int hi u,.int 1 v]},toks:=tk}:=by
 refine wpAny_pyIter_range (IsRange.new ..) (small_one h1 h2 h3 h4) ?_
 have I1:Inv X pins U H {s with heap:=s.heap.push {cls:=.type "range",data:=.fields #[.int lo t,.int hi u,.int 1 v]},toks:=tk}:=I.kept fun b o e=>YW _ e
 refine ⟨(s.heap.push {cls:=.type "range",data:=.fields #[.int lo t,.int hi u,.int 1 v]}).objs.size,[(s.heap.push {cls:=.type "range",data:=.fields #[.int lo t,.int hi u,.int 1 v]}).objs.size],_,_,H,rfl,
  I1.kept (t':=tk) fun b o e=>YW _ e,DN _ lo (hi - lo).toNat,?_,fun b hb=>?_,q⟩
 ·have e1:lo+((0:Nat):Int)*1=lo:=by simp
  have e2:(((hi - lo).toNat:Nat):Int) - ((0:Nat):Int)=Builtin.Range.rangeSize lo hi 1:=by rw [rangeSize_one];split <;> omega
  show IsRangeIter _ _ (lo+((0:Nat):Int)*1) ((((hi - lo).toNat:Nat):Int) - ((0:Nat):Int)) 1
  rw [e1,e2]
  exact Y9 _ rfl
 ·have e:b=(s.heap.push {cls:=.type "range",data:=.fields #[.int lo t,.int hi u,.int 1 v]}).objs.size:=by simpa using hb
  subst e
  exact I1.fpOk (YZ _) (I1.hok.fresh (YZ _))
def Ku (ta:TA):TI:=fun U H R=>ta U H fun vs H1=>∃ j:Int,vs=[.int j]/\-(2 ^ 62)<=j/\j < 2 ^ 62/\R (J7 0 j.toNat) H1
def Kv (ta:TA):TI:=fun U H R=>ta U H fun vs H1=>∃ i j:Int,vs=[.int i,.int j]/\(-(2 ^ 62)<=i/\i < 2 ^ 62/\-(2 ^ 62)<=j/\j < 2 ^ 62)/\R (J7 i (j - i).toNat) H1
theorem Ia {a:Expr} {ta:TA} {p pos:Pos} (hg:Gl X "range") (hm:X.mg "range"=none) (ha:PA X [a] ta) (hs:autoParam (starEach [a] X.env=[(false,eval a X.env)]) L2.auto4._auto_1):PI X tg (.Call (.Name "range" p) [a] [] pos) (Ku ta):=by
 intro pins s U H R I h
 refine Call_ (ig I hg hm boot_range (Zq (bV (ha pos pins s U H _ I h) fun us s1 ⟨vs,H1,I1,r1,q1⟩=>?_) hs rfl))
 obtain ⟨j,e,q1,q2,q⟩:=q1
 subst e
 cases r1 with
 | cons r rr=>
  cases rr
  obtain ⟨t,rfl⟩:=r
  exact call_range_1 (Bl I1 (by omega) (by omega) q1 q2 (by simpa using q))
theorem Ib {a b:Expr} {ta:TA} {p pos:Pos} (hg:Gl X "range") (hm:X.mg "range"=none) (ha:PA X [a,b] ta) (hs:autoParam (starEach [a,b] X.env=[(false,eval a X.env),(false,eval b X.env)]) L2.auto4._auto_1) (hs2:autoParam (starEach [b] X.env=[(false,eval b X.env)]) L2.auto4._auto_1):
  PI X tg (.Call (.Name "range" p) [a,b] [] pos) (Kv ta):=by
 intro pins s U H R I h
 refine Call_ (ig I hg hm boot_range (Zq (bV (ha pos pins s U H _ I h) fun us s1 qq0=>?_) (by rw [hs,hs2]) (by rw [hs2];rfl)))
 obtain ⟨vs,H1,I1,r1,q1⟩:=qq0
 obtain ⟨i,j,e,⟨q1,q2,q3,q4⟩,q⟩:=q1
 subst e
 cases r1 with
 | cons r rr=>
  cases rr with
  | cons r' rr=>
   cases rr
   obtain ⟨t,rfl⟩:=r
   obtain ⟨t',rfl⟩:=r'
   exact call_range_2 (Bl I1 q1 q2 q3 q4 q)
def Pr (wi:TI) (g:TG) (tb:TS):TS:=fun D U H=>wi U H fun J H1=>∃ W:Nat->Nat->St->Hp->Prop,(∃ m,W 0 m U H1)/\∀ i m U H,W i m U H->
 (J.stop i H/\D.nx U H)\/(J.go i H/\∃ N:St->Hp->Prop,(∀ U' H',N U' H'->∃ m',m' < m/\W (i+1) m' U' H')/\∀ x H',J.yld i H x H'->g x U H' fun σ2 H2=>tb {D with nx:=N,ct:=N,bk:=D.nx} σ2 H2)
def uw (fp:List Addr) (h:Heap):List (Addr×Obj):=fp.filterMap fun b=>(h.get? b).map fun o=>(b,o)
theorem nq {fp:List Addr} {h:Heap} {b:Addr} {o:Obj} (hb:b∈fp) (e:h.get? b=some o):(b,o)∈uw fp h:=List.mem_filterMap.mpr ⟨b,hb,by rw [e];rfl⟩
theorem Ie {fp:List Addr} {h:Heap} {p:Addr×Obj} (hp:p∈uw fp h):p.1∈fp/\h.get? p.1=some p.2:=by
 obtain ⟨b,hb,e⟩:=List.mem_filterMap.mp hp
 cases q:h.get? b with
 | none=>rw [q] at e;cases e
 | some o=>
  rw [q] at e
  have e':(b,o)=p:=Zv e
  subst e'
  exact ⟨hb,q⟩
theorem Inv.pinned {pins:List (Addr×Obj)} {U:St} {H:Hp} {s:Shared} {fp:List Addr} (I:Inv X pins U H s) (hf:∀ b∈fp,mR X pins H b) (ho:∀ b∈fp,∃ o,s.heap.get? b=some o/\∀ v,o.data≠.cell v):Inv X (pins ++ uw fp s.heap) U H s:=
 I.pins_of fun p hp=>(Z4.mp hp).elim (fun z=>I.pin p (ZF _ z)) fun z=>by
  obtain ⟨hb,e⟩:=Ie z
  obtain ⟨f0,f1,f2,_⟩:=hf p.1 hb
  obtain ⟨o,e',d⟩:=ho p.1 hb
  rw [e] at e';cases e'
  exact ⟨e,f0,f1,f2,d⟩
theorem Inv.unpinned {pins pl:List (Addr×Obj)} {U:St} {H:Hp} {s:Shared} (I:Inv X (pins ++ pl) U H s):Inv X pins U H s:=I.pins_of fun p hp=>I.pin p (ZF _ (AaW _ hp))
theorem TY {iter:Expr} {body:List Stmt} {wi:TI} {g:TG} {tb:TS} {pos:Pos} (hp:PassesOwn (model X.prog X.w) X.A X.env X.xe) (hc:X.calm=true) (hi:PI X tg iter wi) (hg:PG X tg g) (hb:PSs X body tb)
  (hs:autoParam (∀ x,foldedSetIterable iter X.env x=pure x) L2.auto3._auto_1):PS X (.For tg iter body [] pos) (Pr wi g tb):=by
 intro pins s U H D I h
 refine wpAny_For (bV (hi pins s U H _ I h) fun v s1 h1=>bV h1 fun itv s2 h2=>?_) hs
 obtain ⟨it,fp,tn,J,H2,e,I2,T,st2,f2,W,⟨m0,w0⟩,turn⟩:=h2
 subst e
 have stat:∀ {H':Hp},(∀ b∈fp,H' b=none)->∀ b∈fp,mR X pins H' b:=fun hn b hb=>⟨hn b hb,(f2 b hb).2⟩
 refine codeAny_forLoop_any (fun n s'=>∃ i U' H',Inv X pins U' H' s'/\tn i s'.heap/\(∀ b∈fp,H' b=none)/\W i n U' H') ?_ m0 ⟨0,U,H2,I2,st2,fun b hb=>(f2 b hb).1,w0⟩
 rintro n s3 ⟨i,σ3,H3,I3,st3,fr3,w3⟩
 rcases turn i n σ3 H3 w3 with ⟨stop,qn⟩ | ⟨go,N,hN,step⟩
 ·refine AaC hp (bV (T.done X rfl rfl rfl hc i pins s3 σ3 H3 X.xe I3 (stat fr3) st3 stop) fun r s4 qq0=>?_)
  obtain ⟨hr,I4⟩:=qq0
  subst hr
  exact wpAny_execs_nil ⟨σ3,H3,I4,qn⟩
 ·refine AaC hp (bV (T.item X rfl rfl rfl hc i pins s3 σ3 H3 X.xe I3 (stat fr3) st3 go) fun r s4 qq0=>?_)
  obtain ⟨u,hr,h4⟩:=qq0
  subst hr
  refine AaC hp (bV h4 fun _ s5 qq0=>?_)
  obtain ⟨x,H5,I5,r5,y5,st5,fr5⟩:=qq0
  have I5':=I5.pinned (stat fr5) (T.obj _ _ st5)
  refine AaC hp (bV (hg _ s5 σ3 H5 x u _ I5' r5 (step x H5 y5)) fun _ s6 qq0=>?_)
  obtain ⟨σ6,H6,I6,q6⟩:=qq0
  refine AaC hp (bV (hb _ s6 σ6 H6 _ I6 q6) fun f s7 q7=>?_)
  have again:∀ {σ7:St} {H7:Hp},Inv X (pins ++ uw fp s5.heap) σ7 H7 s7->N σ7 H7->∃ m,m < n/\∃ i U' H',Inv X pins U' H' s7/\tn i s7.heap/\(∀ b∈fp,H' b=none)/\W i m U' H':=fun {σ7 H7} I7 n7=>by
   obtain ⟨m',hm,w7⟩:=hN σ7 H7 n7
   refine ⟨m',hm,i+1,σ7,H7,I7.unpinned,T.keep _ _ _ st5 fun b hb o e=>(I7.pin (b,o) (ZF _ (ZF _ (nq hb e)))).1,fun b hb=>?_,w7⟩
   obtain ⟨o,e,d⟩:=T.obj _ _ st5 b hb
   exact (I7.pin (b,o) (ZF _ (ZF _ (nq hb e)))).2.1
  cases f with
  | next=>obtain ⟨σ7,H7,I7,n7⟩:=q7;exact again I7 n7
  | cont=>obtain ⟨σ7,H7,I7,n7⟩:=q7;exact again I7 n7
  | brk=>obtain ⟨σ7,H7,I7,q7⟩:=q7;exact ⟨σ7,H7,I7.unpinned,q7⟩
  | ret v=>obtain ⟨x7,σ7,H7,I7,r7,q7⟩:=q7;exact ⟨x7,σ7,H7,I7.unpinned,r7,q7⟩
end
theorem v5 {K:W.Frag} {a:Addr} {xs:List V} {g:TG} {tb:TS} {D:Ends} {U:St} {H:Hp} (Pv:Nat->St->Hp->Prop) (h0:Pv 0 U H) (hl:∀ i U H,i<=xs.length->Pv i U H->SqL K H a xs)
  (hs:∀ i x U H,xs[i]?=some x->Pv i U H->g x U H fun σ2 H2=>tb {D with nx:=Pv (i+1),ct:=Pv (i+1),bk:=D.nx} σ2 H2) (hd:∀ U H,Pv xs.length U H->D.nx U H):
  ∃ W:Nat->Nat->St->Hp->Prop,(∃ m,W 0 m U H)/\∀ i m U H,W i m U H->
   ((Pq K a).stop i H/\D.nx U H)\/((Pq K a).go i H/\∃ N:St->Hp->Prop,(∀ U' H',N U' H'->∃ m',m' < m/\W (i+1) m' U' H')/\∀ x H',(Pq K a).yld i H x H'->g x U H' fun σ2 H2=>tb {D with nx:=N,ct:=N,bk:=D.nx} σ2 H2):=by
 refine ⟨fun i m U H=>m=xs.length - i/\i<=xs.length/\Pv i U H,⟨xs.length,by simp,gV _,h0⟩,?_⟩
 rintro i m U H ⟨rfl,hi,p⟩
 have q:=hl i U H hi p
 by_cases hlt:i < xs.length
 ·refine .inr ⟨⟨xs,xs[i],q,by simp [hlt]⟩,Pv (i+1),fun U' H' p'=>⟨xs.length - (i+1),by omega,rfl,hlt,p'⟩,fun x H' y=>?_⟩
  obtain ⟨e,y⟩:=y
  subst e
  exact hs i x U _ (y xs q) p
 ·have e:i=xs.length:=by omega
  subst e
  exact .inl ⟨⟨xs,q,YZ _⟩,hd U H p⟩
theorem FT {K:W.Frag} {a:Addr} {xs:List V} {g:TG} {tb:TS} {D:Ends} {U:St} {H:Hp} (Pv:Nat->St->Hp->Prop) (h0:Pv 0 U H) (hl:∀ i U H,i<=xs.length->Pv i U H->SqT K H a xs)
  (hs:∀ i x U H,xs[i]?=some x->Pv i U H->g x U H fun σ2 H2=>tb {D with nx:=Pv (i+1),ct:=Pv (i+1),bk:=D.nx} σ2 H2) (hd:∀ U H,Pv xs.length U H->D.nx U H):
  ∃ W:Nat->Nat->St->Hp->Prop,(∃ m,W 0 m U H)/\∀ i m U H,W i m U H->
   ((Wl K a).stop i H/\D.nx U H)\/((Wl K a).go i H/\∃ N:St->Hp->Prop,(∀ U' H',N U' H'->∃ m',m' < m/\W (i+1) m' U' H')/\∀ x H',(Wl K a).yld i H x H'->g x U H' fun σ2 H2=>tb {D with nx:=N,ct:=N,bk:=D.nx} σ2 H2):=by
 refine ⟨fun i m U H=>m=xs.length - i/\i<=xs.length/\Pv i U H,⟨xs.length,by simp,gV _,h0⟩,?_⟩
 rintro i m U H ⟨rfl,hi,p⟩
 have q:=hl i U H hi p
 by_cases hlt:i < xs.length
 ·refine .inr ⟨⟨xs,xs[i],q,by simp [hlt]⟩,Pv (i+1),fun U' H' p'=>⟨xs.length - (i+1),by omega,rfl,hlt,p'⟩,fun x H' y=>?_⟩
  obtain ⟨e,y⟩:=y
  subst e
  exact hs i x U _ (y xs q) p
 ·have e:i=xs.length:=by omega
  subst e
  exact .inl ⟨⟨xs,q,YZ _⟩,hd U H p⟩
theorem ql {lo:Int} {n:Nat} {g:TG} {tb:TS} {D:Ends} {U:St} {H:Hp} (Pv:Nat->St->Hp->Prop) (h0:Pv 0 U H)
  (hs:∀ i U H,i < n->Pv i U H->g (.int (lo+i)) U H fun σ2 H2=>tb {D with nx:=Pv (i+1),ct:=Pv (i+1),bk:=D.nx} σ2 H2) (hd:∀ U H,Pv n U H->D.nx U H):
  ∃ W:Nat->Nat->St->Hp->Prop,(∃ m,W 0 m U H)/\∀ i m U H,W i m U H->
   ((J7 lo n).stop i H/\D.nx U H)\/((J7 lo n).go i H/\∃ N:St->Hp->Prop,(∀ U' H',N U' H'->∃ m',m' < m/\W (i+1) m' U' H')/\∀ x H',(J7 lo n).yld i H x H'->g x U H' fun σ2 H2=>tb {D with nx:=N,ct:=N,bk:=D.nx} σ2 H2):=by
 refine ⟨fun i m U H=>m=n - i/\i<=n/\Pv i U H,⟨n,by simp,gV _,h0⟩,?_⟩
 rintro i m U H ⟨rfl,hi,p⟩
 by_cases hlt:i < n
 ·refine .inr ⟨hlt,Pv (i+1),fun U' H' p'=>⟨n - (i+1),by omega,rfl,hlt,p'⟩,fun x H' y=>?_⟩
  obtain ⟨e,y⟩:=y
  subst e y
  exact hs i U _ hlt p
 ·have e:i=n:=by omega
  subst e
  exact .inl ⟨YZ _,hd U H p⟩
theorem Kw {c:TT} {tb:TS} {D:Ends} {U:St} {H:Hp} (Pv:St->Hp->Prop) (μ:St->Hp->Nat) (h0:Pv U H)
  (hs:∀ U H,Pv U H->c U H fun b H1=>if b=true then tb {D with nx:=fun U' H'=>Pv U' H'/\μ U' H' < μ U H,ct:=fun U' H'=>Pv U' H'/\μ U' H' < μ U H,bk:=D.nx} U H1 else D.nx U H1)
  (mono:∀ U H Q Q',(∀ b H1,Q b H1->Q' b H1)->c U H Q->c U H Q'):DG c tb D U H:=by
 refine ⟨fun m U H=>m=μ U H/\Pv U H,⟨_,rfl,h0⟩,?_⟩
 rintro m U H ⟨rfl,p⟩
 refine mono U H _ _ (fun b H1 q=>?_) (hs U H p)
 cases b with
 | true=>exact ⟨_,fun U' H' ⟨p',l⟩=>⟨_,l,rfl,p'⟩,q⟩
 | false=>exact q
abbrev R2:=V->V->Hp->VK->Prop
def OpR (X:Cx) (f:Value->Value->Sem Value) (r:R2):Prop:=
 ∀ (pins:List (Addr×Obj)) (s:Shared) (U:St) (H:Hp) (x y:V) (v u:Value) (Q:VK),Inv X pins U H s->RelV x v->RelV y u->r x y H Q->
  wpAny (model X.prog X.w) X.A (f v u) (EP X pins U Q) X.xe s
def YB (X:Cx) (f:Value->Sem Value) (r:V->Hp->VK->Prop):Prop:=
 ∀ (pins:List (Addr×Obj)) (s:Shared) (U:St) (H:Hp) (x:V) (v:Value) (Q:VK),Inv X pins U H s->RelV x v->r x H Q->
  wpAny (model X.prog X.w) X.A (f v) (EP X pins U Q) X.xe s
def CallR (X:Cx) (f:Value) (r:List V->Hp->VK->Prop):Prop:=
 ∀ (pins:List (Addr×Obj)) (s:Shared) (U:St) (H:Hp) (xs:List V) (us:List Value) (Q:VK),Inv X pins U H s->Vals xs us->r xs H Q->
  wpAny (model X.prog X.w) X.A (call f us) (EP X pins U Q) X.xe s
def Ky (r:R2) (ta tb:TE):TE:=fun U H Q=>ta U H fun x H1=>tb U H1 fun y H2=>r x y H2 Q
def tUn (r:V->Hp->VK->Prop) (ta:TE):TE:=fun U H Q=>ta U H fun x H1=>r x H1 Q
def rI (C:Int->Int->Prop) (g:Int->Int->V):R2:=fun x y H Q=>∃ i j,x= .int i/\y= .int j/\C i j/\Q (g i j) H
def Kz (g:Int->Int->V):R2:=fun x y H Q=>∃ i j,x= .int i/\y= .int j/\Q (g i j) H
def rU (g:Int->V):V->Hp->VK->Prop:=fun x H Q=>∃ i,x= .int i/\Q (g i) H
section
variable {X:Cx} {a b c:Expr} {ta tb tc:TE} {pos:Pos}
theorem T4 (ha:PE X a ta) (hb:PE X b tb) {pins:List (Addr×Obj)} {s:Shared} {U:St} {H:Hp} {R:V->V->Hp->Prop} (I:Inv X pins U H s)
  (h:ta U H fun x H1=>tb U H1 fun y H2=>R x y H2) {Q:Value->Shared->Prop} {f:Value->Value->Sem Value}
  (hf:∀ v u s2 x y H2,Inv X pins U H2 s2->RelV x v->RelV y u->R x y H2->wpAny (model X.prog X.w) X.A (f v u) Q X.xe s2):
  wpAny (model X.prog X.w) X.A (eval a X.env) (fun v s₁=>wpAny (model X.prog X.w) X.A (eval b X.env) (fun u s₂=>wpAny (model X.prog X.w) X.A (f v u) Q X.xe s₂) X.xe s₁) X.xe s:=by
 refine bV (ha pins s U H _ I h) fun v s1 qq0=>?_
 obtain ⟨x,H1,I1,r1,q1⟩:=qq0
 refine bV (hb pins s1 U H1 _ I1 q1) fun u s2 qq0=>?_
 obtain ⟨y,H2,I2,r2,q2⟩:=qq0
 exact hf v u s2 x y H2 I2 r1 r2 q2
theorem WM {op:Operator} {r:R2} (ho:OpR X (binaryOp op) r) (ha:PE X a ta) (hb:PE X b tb):PE X (.BinOp a op b pos) (Ky r ta tb):=by
 intro pins s U H Q I h
 exact wpAny_BinOp (T4 ha hb I h fun v u s2 x y H2 I2 rx ry q=>ho pins s2 U H2 x y v u Q I2 rx ry q)
theorem WN {op:UnaryOp} {r:V->Hp->VK->Prop} (ho:YB X (unaryOp op) r) (ha:PE X a ta):PE X (.UnaryOp op a pos) (tUn r ta):=by
 intro pins s U H Q I h
 exact UnaryOp_ (bV (ha pins s U H _ I h) fun v s1 ⟨x,H1,I1,r1,q1⟩=>ho pins s1 U H1 x v Q I1 r1 q1)
theorem YC {f:Value->Value->Sem Value} {C:Int->Int->Prop} {g:Int->Int->Int}
  (rule:∀ (i j:Int) (t u:Tok) (s:Shared) (Q:Value->Shared->Prop) (E:Value->Shared->Prop),C i j->Q (.int (g i j) s.toks) {s with toks:=s.toks+1}->wpAny (model X.prog X.w) X.A (f (.int i t) (.int j u)) Q E s):
  OpR X f (rI C fun i j=>.int (g i j)):=by
 intro pins s U H x y v u Q I rx ry h
 obtain ⟨i,j,rfl,rfl,hc,q⟩:=h
 obtain ⟨t,rfl⟩:=rx
 obtain ⟨t',rfl⟩:=ry
 exact rule i j t t' s _ _ hc ⟨.int (g i j),H,I.tok _,⟨_,rfl⟩,q⟩
theorem T5 {f:Value->Value->Sem Value} {g:Int->Int->Int}
  (rule:∀ (i j:Int) (t u:Tok) (s:Shared) (Q:Value->Shared->Prop) (E:Value->Shared->Prop),Q (.int (g i j) s.toks) {s with toks:=s.toks+1}->wpAny (model X.prog X.w) X.A (f (.int i t) (.int j u)) Q E s):
  OpR X f (Kz fun i j=>.int (g i j)):=by
 intro pins s U H x y v u Q I rx ry h
 obtain ⟨i,j,rfl,rfl,q⟩:=h
 obtain ⟨t,rfl⟩:=rx
 obtain ⟨t',rfl⟩:=ry
 exact rule i j t t' s _ _ ⟨.int (g i j),H,I.tok _,⟨_,rfl⟩,q⟩
theorem Pu {f:Value->Value->Sem Value} {g:Int->Int->Bool}
  (rule:∀ (i j:Int) (t u:Tok) (s:Shared) (Q:Value->Shared->Prop) (E:Value->Shared->Prop),Q (.bool (g i j)) s->wpAny (model X.prog X.w) X.A (f (.int i t) (.int j u)) Q E s):
  OpR X f (Kz fun i j=>.bl (g i j)):=by
 intro pins s U H x y v u Q I rx ry h
 obtain ⟨i,j,rfl,rfl,q⟩:=h
 obtain ⟨t,rfl⟩:=rx
 obtain ⟨t',rfl⟩:=ry
 exact rule i j t t' s _ _ ⟨.bl (g i j),H,I,rfl,q⟩
def CDiv (i j:Int):Prop:=0 < j/\j < 1073741824
def CPow (i j:Int):Prop:=0<=j/\j<=1000000/\i.natAbs < 2 ^ 64
def CMul (i j:Int):Prop:=(-(2 ^ 64) < i/\i < 2 ^ 64)\/(-(2 ^ 64) < j/\j < 2 ^ 64)
theorem CMul.ok {i j:Int} (h:CMul i j):IntMulOk i j:=by
 rcases h with ⟨h1,h2⟩ | ⟨h1,h2⟩
 ·exact .of_left (intBits_le_64 h1 h2)
 ·exact .of_right (intBits_le_64 h1 h2)
theorem T6:OpR X (binaryOp .Add) (Kz fun i j=>.int (i+j)):=T5 fun _ _ _ _ _ _ _ q=>add_int q
theorem ik:OpR X (binaryOp .Sub) (Kz fun i j=>.int (i - j)):=T5 fun _ _ _ _ _ _ _ q=>sub_int q
theorem T7:OpR X (binaryOp .Mult) (rI CMul fun i j=>.int (i*j)):=YC fun _ _ _ _ _ _ _ hc q=>mul_int q hc.ok
theorem jf:OpR X (binaryOp .FloorDiv) (rI CDiv fun i j=>.int (i / j)):=YC fun i j _ _ _ _ _ hc q=>by
 have h1:(0:Int) < j:=hc.1
 have h2:j < 1073741824:=hc.2
 exact floordiv_int (by omega) (by rw [Int.fdiv_eq_ediv_of_nonneg i (by omega)];exact q) (.inl (PyProof.noPylong_small (by omega)))
theorem iM:OpR X (binaryOp .Mod) (rI (fun _ j=>0 < j) fun i j=>.int (i % j)):=YC fun i j _ _ _ _ _ hc q=>by
 have h1:(0:Int) < j:=hc
 exact mod_int' (by omega) (by rw [Int.fmod_eq_emod_of_nonneg i (by omega)];exact q)
theorem T8:OpR X (binaryOp .Pow) (rI CPow fun i j=>.int (i ^ j.toNat)):=YC fun _ _ _ _ _ _ _ hc q=>pow_int_small hc.1 hc.2.1 hc.2.2 q
theorem Px:OpR X (inplaceOp .Sub) (Kz fun i j=>.int (i - j)):=T5 fun _ _ _ _ _ _ _ q=>isub_int q
theorem unI {f:Value->Sem Value} {g:Int->Int}
  (rule:∀ (i:Int) (t:Tok) (s:Shared) (Q:Value->Shared->Prop) (E:Value->Shared->Prop),Q (.int (g i) s.toks) {s with toks:=s.toks+1}->wpAny (model X.prog X.w) X.A (f (.int i t)) Q E s):
  YB X f (rU fun i=>.int (g i)):=by
 intro pins s U H x v Q I rx h
 obtain ⟨i,rfl,q⟩:=h
 obtain ⟨t,rfl⟩:=rx
 exact rule i t s _ _ ⟨.int (g i),H,I.tok _,⟨_,rfl⟩,q⟩
theorem rG:YB X (unaryOp .USub) (rU fun i=>.int (-i)):=unI fun _ _ _ _ _ q=>neg_int q
end
def WP:V->V->Bool
 | .non,.non=>true | .non,.int _=>true | .int _,.non=>true | .non,.bl _=>true | .bl _,.non=>true | .non,.str _=>true | .str _,.non=>true
 | .int _,.int _=>true | .bl _,.bl _=>true | .str _,.str _=>true | .byt _,.byt _=>true
 | .int _,.str _=>true | .str _,.int _=>true | .bl _,.str _=>true | .str _,.bl _=>true
 | _,_=>false
def rEq:R2:=fun x y H Q=>WP x y=true/\Q (.bl (decide (x=y))) H
def rNe:R2:=fun x y H Q=>WP x y=true/\Q (.bl (!decide (x=y))) H
theorem FW {i j:Int}:decide (V.int i=V.int j)=(i == j):=by
 rw [Bool.eq_iff_iff]
 simp
theorem KC {i j:Bool}:decide (V.bl i=V.bl j)=(i == j):=by
 rw [Bool.eq_iff_iff]
 simp
theorem FZ {i j:Str}:decide (V.str i=V.str j)=(i == j):=by
 rw [Bool.eq_iff_iff]
 simp
theorem Ga {i j:Array UInt8}:decide (V.byt i=V.byt j)=(i.toList == j.toList):=by
 rw [Bool.eq_iff_iff]
 cases i
 cases j
 simp
section
variable {X:Cx} {a b c:Expr} {ta tb tc:TE} {pos:Pos}
theorem bB {pins:List (Addr×Obj)} {U:St} {H:Hp} {s:Shared} {Q:VK} {k k':Bool} (I:Inv X pins U H s) (q:Q (.bl k) H) (e:k=k'):EP X pins U Q (.bool k') s:=by
 subst e
 exact ⟨.bl k,H,I,rfl,q⟩
theorem WQ:OpR X (compareOp .Eq) rEq:=by
 intro pins s U H x y v u Q I rx ry h
 obtain ⟨hs,q⟩:=h
 cases x with
 | non=>
  cases rx
  cases y with
  | non=>cases ry;exact PySem.EqNone.eq_none_none (bB I q (by simp))
  | bl j=>cases ry;exact PySem.EqNone.eq_none_bool (bB I q (by simp))
  | int j=>obtain ⟨t',rfl⟩:=ry;exact PySem.EqNone.eq_none_int (bB I q (by simp))
  | str j=>obtain ⟨t',rfl⟩:=ry;exact PySem.EqNone.eq_none_str (bB I q (by simp))
  | _=>exact absurd (show false=true from hs) Y5
 | bl i=>
  cases rx
  cases y with
  | non=>cases ry;exact PySem.EqNone.eq_bool_none (bB I q (by simp))
  | bl j=>cases ry;exact eq_bool (bB I q KC)
  | str j=>obtain ⟨t',rfl⟩:=ry;exact PySem.EqMixed.eq_bool_str (bB I q (by simp))
  | _=>exact absurd (show false=true from hs) Y5
 | int i=>
  obtain ⟨t,rfl⟩:=rx
  cases y with
  | non=>cases ry;exact PySem.EqNone.eq_int_none (bB I q (by simp))
  | int j=>obtain ⟨t',rfl⟩:=ry;exact eq_int (bB I q FW)
  | str j=>obtain ⟨t',rfl⟩:=ry;exact PySem.EqMixed.eq_int_str (bB I q (by simp))
  | _=>exact absurd (show false=true from hs) Y5
 | str i=>
  obtain ⟨t,rfl⟩:=rx
  cases y with
  | non=>cases ry;exact PySem.EqNone.eq_str_none (bB I q (by simp))
  | bl j=>cases ry;exact PySem.EqMixed.eq_str_bool (bB I q (by simp))
  | int j=>obtain ⟨t',rfl⟩:=ry;exact PySem.EqMixed.eq_str_int (bB I q (by simp))
  | str j=>obtain ⟨t',rfl⟩:=ry;exact eq_str (bB I q FZ)
  | _=>exact absurd (show false=true from hs) Y5
 | byt i=>
  obtain ⟨t,rfl⟩:=rx
  cases y with
  | byt j=>obtain ⟨t',rfl⟩:=ry;exact PySem.W.eq_bytes (bB I q Ga)
  | _=>exact absurd (show false=true from hs) Y5
 | _=>cases y <;> exact absurd (show false=true from hs) Y5
theorem WR:OpR X (compareOp .NotEq) rNe:=by
 intro pins s U H x y v u Q I rx ry h
 obtain ⟨hs,q⟩:=h
 cases x with
 | non=>
  cases rx
  cases y with
  | non=>cases ry;exact PySem.EqNone.ne_none_none (bB I q (by simp))
  | bl j=>cases ry;exact PySem.EqNone.ne_none_bool (bB I q (by simp))
  | int j=>obtain ⟨t',rfl⟩:=ry;exact PySem.EqNone.ne_none_int (bB I q (by simp))
  | str j=>obtain ⟨t',rfl⟩:=ry;exact PySem.EqNone.ne_none_str (bB I q (by simp))
  | _=>exact absurd (show false=true from hs) Y5
 | bl i=>
  cases rx
  cases y with
  | non=>cases ry;exact PySem.EqNone.ne_bool_none (bB I q (by simp))
  | bl j=>cases ry;exact ne_bool (bB I q (congrArg not KC))
  | str j=>obtain ⟨t',rfl⟩:=ry;exact PySem.EqMixed.ne_bool_str (bB I q (by simp))
  | _=>exact absurd (show false=true from hs) Y5
 | int i=>
  obtain ⟨t,rfl⟩:=rx
  cases y with
  | non=>cases ry;exact PySem.EqNone.ne_int_none (bB I q (by simp))
  | int j=>obtain ⟨t',rfl⟩:=ry;exact ne_int (bB I q (congrArg not FW))
  | str j=>obtain ⟨t',rfl⟩:=ry;exact PySem.EqMixed.ne_int_str (bB I q (by simp))
  | _=>exact absurd (show false=true from hs) Y5
 | str i=>
  obtain ⟨t,rfl⟩:=rx
  cases y with
  | non=>cases ry;exact PySem.EqNone.ne_str_none (bB I q (by simp))
  | bl j=>cases ry;exact PySem.EqMixed.ne_str_bool (bB I q (by simp))
  | int j=>obtain ⟨t',rfl⟩:=ry;exact PySem.EqMixed.ne_str_int (bB I q (by simp))
  | str j=>obtain ⟨t',rfl⟩:=ry;exact ne_str (bB I q (congrArg not FZ))
  | _=>exact absurd (show false=true from hs) Y5
 | byt i=>
  obtain ⟨t,rfl⟩:=rx
  cases y with
  | byt j=>obtain ⟨t',rfl⟩:=ry;exact PySem.W.ne_bytes (bB I q (congrArg not Ga))
  | _=>exact absurd (show false=true from hs) Y5
 | _=>cases y <;> exact absurd (show false=true from hs) Y5
theorem yg:OpR X (compareOp .Lt) (Kz fun i j=>.bl (decide (i < j))):=Pu fun _ _ _ _ _ _ _ q=>lt_int q
theorem v6:OpR X (compareOp .LtE) (Kz fun i j=>.bl (decide (i<=j))):=Pu fun _ _ _ _ _ _ _ q=>le_int q
theorem v7:OpR X (compareOp .Gt) (Kz fun i j=>.bl (decide (j < i))):=Pu fun _ _ _ _ _ _ _ q=>gt_int q
theorem RT:OpR X (compareOp .GtE) (Kz fun i j=>.bl (decide (j<=i))):=Pu fun _ _ _ _ _ _ _ q=>ge_int q
theorem Ig:OpR X (compareOp .In) (fun x y H Q=>∃ i j,x= .str i/\y= .str j/\Q (.bl (!(Builtin.Str.occurrences j i 0 j.length 1).isEmpty)) H):=by
 intro pins s U H x y v u Q I rx ry h
 obtain ⟨i,j,rfl,rfl,q⟩:=h
 obtain ⟨t,rfl⟩:=rx
 obtain ⟨t',rfl⟩:=ry
 exact in_str (bB I q rfl)
theorem T9:OpR X (compareOp .Is) (fun x y H Q=>y= .non/\Q (.bl (decide (x= .non))) H):=by
 intro pins s U H x y v u Q I rx ry h
 obtain ⟨rfl,q⟩:=h
 cases ry
 refine is_none_gen (bB I q ?_)
 cases x <;> first
  | (cases rx;rfl)
  | (obtain ⟨t,rfl⟩:=rx;rfl)
theorem Py:OpR X (compareOp .IsNot) (fun x y H Q=>y= .non/\Q (.bl (!decide (x= .non))) H):=by
 intro pins s U H x y v u Q I rx ry h
 obtain ⟨rfl,q⟩:=h
 cases ry
 refine isnot_none_gen (bB I q ?_)
 cases x <;> first
  | (cases rx;rfl)
  | (obtain ⟨t,rfl⟩:=rx;rfl)
theorem OpR.or {f:Value->Value->Sem Value} {r r':R2} (h:OpR X f r) (h':OpR X f r'):OpR X f (fun x y H Q=>r x y H Q\/r' x y H Q):=by
 intro pins s U H x y v u Q I rx ry q
 rcases q with q | q
 ·exact h pins s U H x y v u Q I rx ry q
 ·exact h' pins s U H x y v u Q I rx ry q
theorem aX (b:Expr) {op:CmpOp} (h:autoParam (op≠.In) L2.auto2._auto_1) (h2:autoParam (op≠.NotIn) L2.auto2._auto_1):behindInMarks op b=false:=by
 have e1:(op == CmpOp.In)=false:=by cases op <;> first | rfl | exact absurd rfl h
 have e2:(op == CmpOp.NotIn)=false:=by cases op <;> first | rfl | exact absurd rfl h2
 cases b <;> simp [behindInMarks,e1,e2]
theorem Pz {op:CmpOp} {r:R2} (ho:OpR X (compareOp op) r) (ha:PE X a ta) (hb:PE X b tb) (hm:behindInMarks op b=false):PE X (.Compare a [op] [b] pos) (Ky r ta tb):=by
 intro pins s U H Q I h
 exact wpAny_Compare1 (T4 ha hb I h fun v u s2 x y H2 I2 rx ry q=>ho pins s2 U H2 x y v u Q I2 rx ry q) hm
def yj (t:TE):TT:=fun U H Q=>t U H fun x H'=>∃ k,x= .bl k/\Q k H'
theorem PB {op:CmpOp} {r:R2} (ho:OpR X (compareOp op) r) (ha:PE X a ta) (hb:PE X b tb) (hm:behindInMarks op b=false):PT X (.Compare a [op] [b] pos) (yj (Ky r ta tb)):=by
 intro pins s U H Q I h
 refine wpAny_isTrue_Compare1 (bV (ha pins s U H _ I h) fun v s1 ⟨x,H1,I1,r1,q1⟩=>bV (hb pins s1 U H1 _ I1 q1) fun u s2 ⟨y,H2,I2,r2,q2⟩=>
  bV (ho pins s2 U H2 x y v u _ I2 r1 r2 q2) fun c s3 ⟨z,H3,I3,r3,k,e,q3⟩=>?_) hm
 subst e
 cases r3
 exact Z8 ⟨H3,I3,q3⟩
def v8 (r r':R2) (ta tb tc:TE):TE:=fun U H Q=>ta U H fun x H1=>tb U H1 fun y H2=>r x y H2 fun z H3=>∃ k,z= .bl k/\
 (if k=true then tc U H3 fun w' H4=>r' y w' H4 Q else Q (.bl false) H3)
theorem KD {op op':CmpOp} {r r':R2} (ho:OpR X (compareOp op) r) (ho':OpR X (compareOp op') r') (ha:PE X a ta) (hb:PE X b tb) (hc:PE X c tc)
  (hm:autoParam (lastMarks [op,op'] [b,c]=false) L2.auto5._auto_1):PE X (.Compare a [op,op'] [b,c] pos) (v8 r r' ta tb tc):=by
 intro pins s U H Q I h
 refine Compare_chain (bV (ha pins s U H _ I h) fun v s1 ⟨x,H1,I1,r1,q1⟩=>chain_link (bV (hb pins s1 U H1 _ I1 q1) fun u s2 ⟨y,H2,I2,r2,q2⟩=>
  bV (ho pins s2 U H2 x y v u _ I2 r1 r2 q2) fun d s3 ⟨z,H3,I3,r3,k,e,q3⟩=>?_)) hm
 subst e
 cases r3
 refine Z8 ?_
 cases k with
 | false=>exact ite_ff ⟨.bl false,H3,I3,rfl,q3⟩
 | true=>exact ite_tt (chain_last (bV (hc pins s3 U H3 _ I3 q3) fun w' s4 ⟨z',H4,I4,r4,q4⟩=>ho' pins s4 U H4 y z' u w' Q I4 r2 r4 q4))
theorem KH {op op':CmpOp} {r r':R2} (ho:OpR X (compareOp op) r) (ho':OpR X (compareOp op') r') (ha:PE X a ta) (hb:PE X b tb) (hc:PE X c tc)
  (hm:autoParam (lastMarks [op,op'] [b,c]=false) L2.auto5._auto_1):PT X (.Compare a [op,op'] [b,c] pos) (yj (v8 r r' ta tb tc)):=by
 intro pins s U H Q I h
 refine isTrue_chain (bV (ha pins s U H _ I h) fun v s1 ⟨x,H1,I1,r1,q1⟩=>test_link (bV (hb pins s1 U H1 _ I1 q1) fun u s2 ⟨y,H2,I2,r2,q2⟩=>
  bV (ho pins s2 U H2 x y v u _ I2 r1 r2 q2) fun d s3 ⟨z,H3,I3,r3,k,e,q3⟩=>?_)) hm
 subst e
 cases r3
 refine Z8 ?_
 cases k with
 | false=>
  obtain ⟨k',e',q'⟩:=q3
  cases e'
  exact ite_ff ⟨H3,I3,q'⟩
 | true=>
  refine ite_tt (test_last (bV (hc pins s3 U H3 _ I3 q3) fun w' s4 ⟨z',H4,I4,r4,q4⟩=>bV (ho' pins s4 U H4 y z' u w' _ I4 r2 r4 q4) fun d' s5 qq0=>?_))
  obtain ⟨z2,H5,I5,r5,k2,e2,q5⟩:=qq0
  subst e2
  cases r5
  exact Z8 ⟨H5,I5,q5⟩
theorem v9:(sizeLine:Nat) < 2 ^ 63:=by rw [sizeLine_eq];decide
theorem DP:OpR X (binaryOp .Add) (fun x y H Q=>∃ i j,x= .str i/\y= .str j/\i.length+j.length<=sizeLine/\Q (.str (i ++ j)) H):=by
 intro pins s U H x y v u Q I rx ry h
 obtain ⟨i,j,rfl,rfl,hz,q⟩:=h
 obtain ⟨t,rfl⟩:=rx
 obtain ⟨t',rfl⟩:=ry
 exact add_str (fun t' tk=>⟨.str (i ++ j),H,I.tok _,⟨_,rfl⟩,q⟩) hz
theorem vals1 {x:V} {us:List Value} (r:Vals [x] us):∃ u,us=[u]/\RelV x u:=by
 cases r with
 | cons r1 r2=>cases r2;exact ⟨_,rfl,r1⟩
theorem vals2 {x y:V} {us:List Value} (r:Vals [x,y] us):∃ u w',us=[u,w']/\RelV x u/\RelV y w':=by
 cases r with
 | cons r1 r2=>
  cases r2 with
  | cons r3 r4=>cases r4;exact ⟨_,_,rfl,r1,r3⟩
theorem Ih (hc:X.calm=true):CallR X (.builtin "max") (fun xs H Q=>∃ i j,xs=[.int i,.int j]/\Q (.int (if j > i then j else i)) H):=by
 intro pins s U H xs us Q I r h
 obtain ⟨i,j,rfl,q⟩:=h
 obtain ⟨u,w',rfl,⟨t,rfl⟩,⟨t',rfl⟩⟩:=vals2 r
 refine max_two_ints (I.ok.hd hc) fun h' tk k=>⟨_,H,I.kept k,?_,q⟩
 by_cases hj:j > i
 ·rw [if_pos hj,if_pos hj];exact ⟨_,rfl⟩
 ·rw [if_neg hj,if_neg hj];exact ⟨_,rfl⟩
def WT (K:W.Frag) (x:V) (H:Hp) (n:Nat):Prop:=
 match x with
 | .str y=>y.length<=sizeLine/\n=y.length
 | .byt y=>y.size<=sizeLine/\n=y.size
 | .ref p=>(∃ xs,SqL K H p xs/\n=xs.length)\/∃ xs,SqT K H p xs/\n=xs.length
 | _=>False
theorem KJ:CallR X (.builtin "len") (fun xs H Q=>∃ x n,xs=[x]/\WT X.K x H n/\Q (.int n) H):=by
 intro pins s U H xs us Q I r h
 obtain ⟨x,n,rfl,e,q⟩:=h
 obtain ⟨u,rfl,rx⟩:=vals1 r
 have hl:=v9
 have hs:sizeLine=16777216:=sizeLine_eq
 cases x with
 | str y=>
  obtain ⟨t,rfl⟩:=rx
  obtain ⟨hy,e'⟩:y.length<=sizeLine/\n=y.length:=e
  subst e'
  exact len_str (by omega) ⟨.int _,H,I.tok _,⟨_,rfl⟩,q⟩
 | byt y=>
  obtain ⟨t,rfl⟩:=rx
  obtain ⟨hy,e'⟩:y.size<=sizeLine/\n=y.size:=e
  subst e'
  exact PySem.W.len_bytes (by omega) ⟨.int _,H,I.tok _,⟨_,rfl⟩,q⟩
 | ref p=>
  cases rx
  have e':(∃ xs,SqL X.K H p xs/\n=xs.length)\/∃ xs,SqT X.K H p xs/\n=xs.length:=e
  rcases e' with ⟨xs,hx,e'⟩ | ⟨xs,hx,e'⟩
  ·subst e'
   obtain ⟨its,r',pl,hz⟩:=I.list hx
   have hlen:=r'.length
   exact Calls.call_len_list pl.isList (by simp only [Zh];omega) ⟨.int xs.length,H,I.tok _,⟨_,by simp only [Zh];rw [hlen]⟩,q⟩
  ·subst e'
   obtain ⟨its,r',pl,hz⟩:=I.tuple hx
   have hlen:=r'.length
   exact len_tuple pl (by simp only [Zh];omega) ⟨.int xs.length,H,I.tok _,⟨_,by simp only [Zh];rw [hlen]⟩,q⟩
 | _=>exact (show False from e).elim
end
structure ObjM (h:Heap) (x dx C:Addr) (mA:Str->Option Value):Prop where
 obj:h.get? x=some (PySem.W.instObj C dx)
 ns:h.Ns1 dx mA
 ne:dx≠x
theorem ux {h:Heap} {dx:Addr} {mA:Str->Option Value} (n:h.Ns1 dx mA):∃ od,h.get? dx=some od/\∀ name,PySem.W.lookIn name od=some (mA name):=by
 obtain ⟨o,es,ep,ho,hd,hk,_,hm⟩:=n
 refine ⟨o,ho,fun name=>?_⟩
 have e:=hm name
 unfold nsFind findBy at e
 rw [← Array.find?_toList] at e
 unfold PySem.W.lookIn
 rw [hd]
 dsimp only
 split
 ·rename_i y q
  rw [q] at e
  exact congrArg some e
 ·rename_i q
  rw [q] at e
  have a:es.toList.any (·.refKey)=false:=by
   rw [List.any_eq_false]
   intro y hy
   obtain ⟨z,t,hkey⟩:=hk y (Array.mem_toList_iff.mp hy)
   simp [DictEntry.refKey,hkey]
  have a':¬ es.toList.any (·.refKey)=true:=by rw [a];exact Y5
  rw [if_neg a']
  exact congrArg some e
theorem ObjM.look {h:Heap} {x dx C:Addr} {mA:Str->Option Value} (I:ObjM h x dx C mA):∃ od,PySem.W.InstAt h x (PySem.W.instObj C dx) C (some od)/\∀ name,PySem.W.lookIn name od=some (mA name):=
 let ⟨od,ho,hl⟩:=ux I.ns
 ⟨od,⟨I.obj,rfl,rfl,ho⟩,hl⟩
section
variable {prog:Program} {w:World} {A:Around} {E:Value->Shared->Prop} {s:Shared} {K:W.Frag} {x dx C f:Addr} {mA:Str->Option Value} {name:Str} {v:Value}
theorem PJ {expr:Bool} {Q:Value->Shared->Prop} (X:K.In s.heap) (I:ObjM s.heap x dx C mA) (hg:PySem.W.plainGet K C name=true) (hh:PySem.W.hasDictIn K C=true)
  (ha:PySem.W.findIn K (.ref C) name=some none) (hv:mA name=some v) (hv':PySem.W.handedIn v=true) (h:Q v {s with toks:=s.toks+1}):
  wpAny (model prog w) A (getAttr (.ref x) name expr) Q E s:=by
 obtain ⟨od,J,hl⟩:=I.look
 exact PySem.W.get_value X J (PySem.W.plainGet_of hg).1 (PySem.W.findObj_own hh ha rfl (by rw [hl,hv])) hv' h
theorem KN {pl:Sem Bool} {Q:Value×List Value->Shared->Prop} (X:K.In s.heap) (I:ObjM s.heap x dx C mA) (hg:PySem.W.plainGet K C name=true)
  (hf:PySem.W.findIn K (.ref C) name=some (some (.ref f))) (ht:PySem.W.isFn K (.ref f)=true) (hv:mA name=none) (h:Q (.ref f,[.ref x]) s):
  wpAny (model prog w) A (getMethod (.ref x) name pl) Q E s:=by
 obtain ⟨od,J,hl⟩:=I.look
 exact PySem.W.method_fn X J (PySem.W.plainGet_of hg).1 (PySem.W.plainGet_of hg).2 hf (Aal.mp ht) (by show (PySem.W.lookIn name od).map (·.isSome)=some false;rw [hl,hv];rfl) h
theorem PK {ns:List Str} {Q:Unit->Shared->Prop} (X:K.In s.heap) (I:ObjM s.heap x dx C mA)
  (hs:PySem.W.findIn K (.ref C) "__setattr__"=some (some (.builtin "object.__setattr__"))) (hp:PySem.W.plainOver K C=true) (ht:PySem.W.takerIn K C name=some none) (hh:PySem.W.hasDictIn K C=true)
  (hw:PySem.Within mA ns) (hsz:ns.length<=sizeLine)
  (h:∀ h',ObjM h' x dx C (fun y=>if y=name then some v else mA y)->Heap.SameBut dx s.heap h'->Q () {s with heap:=h',toks:=s.toks+2}):
  wpAny (model prog w) A (setAttr (.ref x) name v) Q E s:=by
 obtain ⟨od,J,hl⟩:=I.look
 refine PySem.W.set_plain X J hs (PySem.W.osa_open (s:={s with toks:=s.toks+1}) (r:=none) X J hp ht fun b=>?_)
 obtain ⟨cd,hc,hd'⟩:=PySem.W.any_some hh
 have hx:s.heap.get? x=some ⟨.ref C,some dx,.plain,#[]⟩:=I.obj
 refine YS (Y0 (YS (YS (AaX hx (YS (PySem.W.Looks.here (s:={s with toks:=s.toks+1}) (PySem.W.looks_clsIn X hc) ?_))))))
 rw [hd']
 refine Y0 (a:=some dx) (YS (Y0 (YS ?_)))
 refine wpAny_nsSet1 (s:={s with toks:=s.toks+1}) I.ns fun h' hn2 hs2=>?_
 obtain ⟨oD,esD,epD,hoD,hdD,hcD⟩:=hn2.count (PySem.Within.cons name v hw)
 refine YS (wpAny_lookBehind hoD (by rw [hdD];exact pastItsLine_dict (Zo hcD (by rw [Z6];omega))) ?_)
 exact Y0 (h _ ⟨(hs2.2 _ (Ne.symm I.ne)).trans I.obj,hn2,I.ne⟩ hs2)
theorem KQ {R:Result->Shared->Prop} {vs:List Value} {kw:List (Str×Value)} (X:K.In s.heap) (hm:PySem.W.makesIn K C=true)
  (hi:PySem.W.findIn K (.ref C) "__init__"=some (some (.ref f))) (hf:PySem.W.typeIn K (.ref f)=some (.type "function"))
  (h:codeAny (model prog w) (A.under (.builtin "type.__call__" ⟨.ref C :: vs,kw⟩)) (.call (.ref f) ⟨.ref (s.heap.objs.size+1) :: vs,kw⟩) (PySem.W.InitBack (s.heap.objs.size+1) R)
   {s with heap:=(s.heap.push PySem.W.emptyDict).push (PySem.W.instObj C s.heap.objs.size)}):
  codeAny (model prog w) A (.call (.ref C) ⟨vs,kw⟩) R s:=by
 obtain ⟨hh,g,d,t,os⟩:=s
 exact PySem.W.make_core (PySem.W.makes_of X hm) (Aae X hi) (fun self=>PySem.W.bind_fn X self hf) (.inl rfl) h
end
def kj (f:Str) (v:V):List (Str×V)->List (Str×V)
 | []=>[(f,v)]
 | (g,x) :: r=>if g=f then (g,v) :: r else (g,x) :: kj f v r
theorem o4 (f g:Str) (v:V):∀ fs:List (Str×V),(kj f v fs).lookup g=if g=f then some v else fs.lookup g
 | []=>by
  show List.lookup g [(f,v)]=_
  by_cases h:g=f
  ·have hb:(g == f)=true:=Aal.mpr h
   simp only [List.lookup,hb,if_pos h]
  ·have hb:(g == f)=false:=Aap.mpr h
   simp only [List.lookup,hb,if_neg h]
 | (k,x) :: r=>by
  have ih:=o4 f g v r
  rw [show kj f v ((k,x) :: r)=(if k=f then (k,v) :: r else (k,x) :: kj f v r) from rfl]
  by_cases hk:k=f
  ·rw [if_pos hk]
   by_cases h:g=k
   ·have hb:(g == k)=true:=Aal.mpr h
    simp only [List.lookup,hb,if_pos (h.trans hk)]
   ·have hb:(g == k)=false:=Aap.mpr h
    simp only [List.lookup,hb,if_neg (fun e:g=f=>h (e.trans hk.symm))]
  ·rw [if_neg hk]
   by_cases h:g=k
   ·have hb:(g == k)=true:=Aal.mpr h
    simp only [List.lookup,hb,if_neg (fun e:g=f=>hk (h.symm.trans e))]
   ·have hb:(g == k)=false:=Aap.mpr h
    simp only [List.lookup,hb]
    exact ih
theorem uy (f:Str) (v:V):∀ fs:List (Str×V),f∈(kj f v fs).map (·.1)/\∀ g,g∈fs.map (·.1)->g∈(kj f v fs).map (·.1)
 | []=>⟨by simp [kj],fun g h=>by simp at h⟩
 | (k,x) :: r=>by
  obtain ⟨i1,i2⟩:=uy f v r
  rw [show kj f v ((k,x) :: r)=(if k=f then (k,v) :: r else (k,x) :: kj f v r) from rfl]
  by_cases hk:k=f
  ·rw [if_pos hk]
   subst hk
   exact ⟨by simp,fun g h=>by simpa using h⟩
  ·rw [if_neg hk]
   refine ⟨?_,fun g h=>?_⟩
   ·rw [ZP]
    exact Zb _ i1
   ·rw [ZP] at h ⊢
    rcases Za.mp h with e | e
    ·exact Za.mpr (.inl e)
    ·exact Zb _ (i2 g e)
theorem uW (f:Str) (v:V):∀ fs:List (Str×V),(kj f v fs).length<=fs.length+1
 | []=>by simp [kj]
 | (k,x) :: r=>by
  have ih:=uW f v r
  rw [show kj f v ((k,x) :: r)=(if k=f then (k,v) :: r else (k,x) :: kj f v r) from rfl]
  by_cases hk:k=f
  ·rw [if_pos hk,Z6,Z6];omega
  ·rw [if_neg hk,Z6,Z6];omega
theorem RelO.some_of {v:V} {o:Option Value} (r:RelO (some v) o):∃ u,o=some u/\RelV v u:=by
 cases o with
 | none=>exact (show False from r).elim
 | some u=>exact ⟨u,rfl,r⟩
theorem RelO.none_of {o:Option Value} (r:RelO none o):o=none:=by
 cases o with
 | none=>rfl
 | some u=>exact (show False from r).elim
theorem ym {v:V} {u:Value} (r:RelV v u):PySem.W.handedIn u=true:=by
 cases v with
 | non=>cases (show u=Value.none from r);rfl
 | bl b=>cases (show u=Value.bool b from r);rfl
 | int i=>obtain ⟨t,e⟩:=(show ∃ t,u=Value.int i t from r);cases e;rfl
 | str x=>obtain ⟨t,e⟩:=(show ∃ t,u=Value.str x t from r);cases e;rfl
 | byt b=>obtain ⟨t,e⟩:=(show ∃ t,u=Value.bytes b t from r);cases e;rfl
 | flt b=>obtain ⟨t,e⟩:=(show ∃ t,u=Value.float b t from r);cases e;rfl
 | ref a=>cases (show u=Value.ref a from r);rfl
 | ty n=>cases (show u=Value.type n from r);rfl
section
variable {P:Program} {w:World} {H H':Hp} {h h':Heap} {a C dx:Addr} {fs fs':List (Str×V)}
theorem sW (hok:HOk P w H h) (e:H a=some (.ins C dx fs)):∃ mA,ObjM h a dx C mA/\(∀ f,RelO (fs.lookup f) (mA f))/\PySem.Within mA (fs.map (·.1))/\fs.length<=1000/\H dx=some (.own a):=by
 obtain ⟨d,z,ne,ob,mA,n,r,q⟩:=(show ObjOk P w H h a (.ins C dx fs) from hok a _ e)
 exact ⟨mA,⟨ob,n,ne⟩,r,q,z,d⟩
end
structure Cls (K:W.Frag) (C:Addr):Prop where
 pg:PySem.W.plainGet K C Str.empty=true
 hd:PySem.W.hasDictIn K C=true
 po:PySem.W.plainOver K C=true
 sa:PySem.W.findIn K (.ref C) "__setattr__"=some (some (.builtin "object.__setattr__"))
theorem Cls.get {K:W.Frag} {C:Addr} (c:Cls K C) (f:Str):PySem.W.plainGet K C f=true:=c.pg
def NoAttr (K:W.Frag) (C:Addr) (f:Str):Prop:=PySem.W.findIn K (.ref C) f=some none
theorem NoAttr.taker {K:W.Frag} {C:Addr} {f:Str} (n:NoAttr K C f):PySem.W.takerIn K C f=some none:=by
 unfold PySem.W.takerIn
 rw [show PySem.W.findIn K (.ref C) f=some none from n]
 rfl
structure Meth (K:W.Frag) (C:Addr) (m:Str) (f:Addr):Prop where
 at_:PySem.W.findIn K (.ref C) m=some (some (.ref f))
 fn:PySem.W.isFn K (.ref f)=true
 kp:PySem.W.keepIn K (.ref f)=true
section
variable {X:Cx} {pins:List (Addr×Obj)} {U:St} {H:Hp} {s:Shared} {a C dx:Addr} {fs:List (Str×V)} {f:Str} {v:V} {A:Around} {E:Value->Shared->Prop}
theorem DQ {b:Bool} {Q:Value->Shared->Prop} (I:Inv X pins U H s) (e:H a=some (.ins C dx fs)) (c:Cls X.K C) (n:NoAttr X.K C f) (l:fs.lookup f=some v)
  (h:∀ u s',Inv X pins U H s'->RelV v u->Q u s'):wpAny (model X.prog X.w) A (getAttr (.ref a) f b) Q E s:=by
 obtain ⟨mA,O,r,_,_,_⟩:=sW I.hok e
 obtain ⟨u,hu,ru⟩:=RelO.some_of (v:=v) (o:=mA f) (by rw [← l];exact r f)
 exact PJ I.kIn O (c.get f) c.hd n hu (ym ru) (h u _ (I.tok _) ru)
theorem rH {m:Str} {g:Addr} {pl:Sem Bool} {Q:Value×List Value->Shared->Prop} (I:Inv X pins U H s) (e:H a=some (.ins C dx fs)) (c:Cls X.K C) (k:Meth X.K C m g) (l:fs.lookup m=none)
  (h:Q (.ref g,[.ref a]) s):wpAny (model X.prog X.w) A (getMethod (.ref a) m pl) Q E s:=by
 obtain ⟨mA,O,r,_,_,_⟩:=sW I.hok e
 have hn:mA m=none:=RelO.none_of (by rw [← l];exact r m)
 exact KN I.kIn O (c.get m) k.at_ k.fn hn h
theorem DW {y:V} {u:Value} {Q:Unit->Shared->Prop} (I:Inv X pins U H s) (e:H a=some (.ins C dx fs)) (c:Cls X.K C) (n:NoAttr X.K C f) (hl:fs.length < 1000) (ry:RelV y u)
  (h:∀ s',Inv X pins U (upd H a (.ins C dx (kj f y fs))) s'->Q () s'):wpAny (model X.prog X.w) A (setAttr (.ref a) f u) Q E s:=by
 obtain ⟨mA,O,r,wi,_,ho⟩:=sW I.hok e
 have hz:(fs.map (·.1)).length<=sizeLine:=by rw [Zf,sizeLine_eq];omega
 refine PK I.kIn O c.sa c.po n.taker c.hd wi hz fun h' O' sb=>h _ ?_
 have hd:∃ o,h'.get? dx=some o:=let ⟨o,_,_,e',_⟩:=O'.ns;⟨o,e'⟩
 refine I.write (x:=a) (e:=dx) (by rw [e];exact True.intro) (.inr ho) (fun b q hb z=>(sb.2 b hb).trans z) hd ?_
 refine ⟨by rw [aD O.ne];exact ho,?_,O.ne,O'.obj,_,O'.ns,fun g=>?_,fun g hg=>?_⟩
 ·have:=uW f y fs;omega
 ·show RelO ((kj f y fs).lookup g) (if g=f then some u else mA g)
  rw [o4]
  by_cases q:g=f
  ·rw [if_pos q,if_pos q];exact ry
  ·rw [if_neg q,if_neg q];exact r g
 ·by_cases q:g=f
  ·rw [q];exact (uy f y fs).1
  ·refine (uy f y fs).2 g (wi g fun z=>hg ?_)
   show (if g=f then some u else mA g)=none
   rw [if_neg q];exact z
theorem Inv.made (I:Inv X pins U H s):Inv X pins U (upd (upd H s.heap.objs.size (.own (s.heap.objs.size+1))) (s.heap.objs.size+1) (.ins C s.heap.objs.size []))
  {s with heap:=(s.heap.push PySem.W.emptyDict).push (PySem.W.instObj C s.heap.objs.size)}:=by
 have e1:(s.heap.push PySem.W.emptyDict).get? s.heap.objs.size=some PySem.W.emptyDict:=Y9 s.heap rfl
 have e2:((s.heap.push PySem.W.emptyDict).push (PySem.W.instObj C s.heap.objs.size)).get? (s.heap.objs.size+1)=some (PySem.W.instObj C s.heap.objs.size):=by
  have:=Y9 (s.heap.push PySem.W.emptyDict) (o:=PySem.W.instObj C s.heap.objs.size) rfl
  rwa [Aah] at this
 have e3:(s.heap.push PySem.W.emptyDict).Ns s.heap.objs.size (fun _=>none):=⟨PySem.W.emptyDict,#[],_,e1,rfl,(fun e he=>absurd he (by simp)),fun _=>rfl⟩
 have I1:=I.laid (a:=s.heap.objs.size) (o:=.own (s.heap.objs.size+1)) (h':=s.heap.push PySem.W.emptyDict) (t':=s.toks) (fun b u q=>YW _ q) (YZ _) ⟨_,e1⟩
 refine I1.laid (a:=s.heap.objs.size+1) (o:=.ins C s.heap.objs.size []) (t':=s.toks) (fun b u q=>YW _ q) (Nat.le_of_eq (Aah _ _)) ?_
 have ne:s.heap.objs.size≠s.heap.objs.size+1:=Zr (Aau _)
 refine ⟨by rw [aD ne,aq],gV _,ne,e2,fun _=>none,(Heap.Ns1.of_empty e3).at fun o q=>YW _ q,fun _=>True.intro,fun y hy=>absurd rfl hy⟩
theorem Gb {prog:Program} {w:World} {env:Env} {e:Expr} {f:Str} {pos:Pos} {s:Shared} {Q:Value->Shared->Prop} (hb:attributeBase e f env (eval e env)=eval e env)
  (h:wpAny (model prog w) A (eval e env) (fun o s₁=>wpAny (model prog w) A (getAttr o f true) Q E s₁) E s):wpAny (model prog w) A (eval (.Attribute e f pos) env) Q E s:=
 Attribute_any_ h (by rw [arm_eval_Attribute,hb])
end
def Ua (K:W.Frag) (ta:TE) (f:Str):TE:=fun U H Q=>ta U H fun x H1=>∃ a C dx fs v,x= .ref a/\H1 a=some (.ins C dx fs)/\Cls K C/\NoAttr K C f/\fs.lookup f=some v/\Q v H1
def Ub (K:W.Frag) (ta tv:TE) (f:Str):TS:=fun D U H=>tv U H fun y H1=>ta U H1 fun x H2=>∃ a C dx fs,x= .ref a/\H2 a=some (.ins C dx fs)/\Cls K C/\NoAttr K C f/\fs.length < 1000/\
 D.nx U (upd H2 a (.ins C dx (kj f y fs)))
section
variable {X:Cx} {o e value:Expr} {f:Str} {pos pos' tpos:Pos} {ta tv:TE}
theorem Uc (he:PE X e ta) (hb:attributeBase e f X.env (eval e X.env)=eval e X.env):PE X (.Attribute e f pos) (Ua X.K ta f):=by
 intro pins s U H Q I h
 refine Gb hb (bV (he pins s U H _ I h) fun u s1 qq0=>?_)
 obtain ⟨x,H1,I1,rx,a,C,dx,fs,v,ex,ea,c,n,l,q⟩:=qq0
 subst ex
 obtain rfl:u=Value.ref a:=rx
 exact DQ I1 ea c n l fun u' s2 I2 ru=>⟨v,H1,I2,ru,q⟩
theorem Ud (ha:PE X o ta) (hv:PE X value tv) (hs:swapsWith value (some (.Attribute o f pos')) pos.line X.env=pure false):PS X (.Assign [.Attribute o f pos'] value pos) (Ub X.K ta tv f):=by
 intro pins s U H D I h
 refine plainObj_wpAny_Assign_Attribute (bV (hv pins s U H _ I h) fun u s1 ⟨y,H1,I1,ry,q⟩=>bV (ha pins s1 U H1 _ I1 q) fun ov s2 qq0=>?_) hs
 obtain ⟨x,H2,I2,rx,a,C,dx,fs,ex,ea,c,n,l,q2⟩:=qq0
 subst ex
 obtain rfl:ov=Value.ref a:=rx
 exact DW I2 ea c n l ry fun s3 I3=>⟨U,_,I3,q2⟩
end
section
variable {X:Cx} {pins:List (Addr×Obj)} {U:St} {H:Hp} {s:Shared} {A:Around} {E:Value->Shared->Prop} {Q:Value->Shared->Prop} {c:Value} {b:Bool}
inductive TyOf (K:W.Frag) (H:Hp):V->Value->Prop where
 | non:TyOf K H .non (.type "NoneType")
 | bl (x:Bool):TyOf K H (.bl x) (.type "bool")
 | int (i:Int):TyOf K H (.int i) (.type "int")
 | str (x:Str):TyOf K H (.str x) (.type "str")
 | flt (x:UInt64):TyOf K H (.flt x) (.type "float")
 | lst {a:Addr} {xs:List V} (e:H a=some (.lst xs)):TyOf K H (.ref a) (.type "list")
 | frz {a:Addr} {o:Obj} {xs:List V} (e:H a=some (.frz o (.lst xs))):TyOf K H (.ref a) (.type "list")
 | tup {a:Addr} {xs:List V} (e:H a=some (.tup xs)):TyOf K H (.ref a) (.type "tuple")
 | dK {a:Addr} {kvs:List (Key×V)} (e:H a=some (.dK kvs)):TyOf K H (.ref a) (.type "dict")
 | dT {a:Addr} {kvs:List (List Key×V)} (e:H a=some (.dT kvs)):TyOf K H (.ref a) (.type "dict")
 | ins {a C dx:Addr} {fs:List (Str×V)} (e:H a=some (.ins C dx fs)) (cl:Cls K C) (ha:PySem.W.findIn K (.ref C) "__class__"=some (some (.builtin "object.__class__")))
   (hn:PySem.W.specialIn K (.builtin "object.__class__") "__get__"=some (some (.builtin "getset_descriptor.__get__"))) (htk:PySem.W.takesIn K (.builtin "object.__class__")=some true)
   (hm:PySem.W.mroIn K C (.type "object")=some true):TyOf K H (.ref a) (.ref C)
theorem Ii {x:V} {u t:Value} (I:Inv X pins U H s) (rx:RelV x u) (ty:TyOf X.K H x t) (e:PySem.W.kitOne X.K t c=some b) (h:∀ tk,Q (.bool b) {s with toks:=tk}):
  wpAny (model X.prog X.w) A (call (.builtin "isinstance") [u,c]) Q E s:=by
 cases ty with
 | non=>cases (show u=Value.none from rx);exact Z5 PySem.W.kitx_none I.kIn True.intro e (fun z=>nomatch z) h
 | bl y=>cases (show u=Value.bool y from rx);exact Z5 PySem.W.kitx_bool I.kIn True.intro e (fun z=>nomatch z) h
 | int i=>obtain ⟨t,q⟩:=(show ∃ t,u=Value.int i t from rx);cases q;exact Z5 PySem.W.kitx_int I.kIn True.intro e (fun z=>nomatch z) h
 | str y=>obtain ⟨t,q⟩:=(show ∃ t,u=Value.str y t from rx);cases q;exact Z5 PySem.W.kitx_str I.kIn True.intro e (fun z=>nomatch z) h
 | flt y=>obtain ⟨t,q⟩:=(show ∃ t,u=Value.float y t from rx);cases q;exact Z5 PySem.W.kitx_float I.kIn True.intro e (fun z=>nomatch z) h
 | @lst a xs ea=>
  cases (show u=Value.ref a from rx)
  obtain ⟨_,_,n,_,h1⟩:=(show ObjOk X.prog X.w H s.heap a (.lst xs) from I.hok a _ ea)
  exact Z5 PySem.W.kitx_list I.kIn ⟨_,h1,rfl⟩ e (fun z=>nomatch z) h
 | @frz a ob xs ea=>
  cases (show u=Value.ref a from rx)
  obtain ⟨_,_,_,n,_,h1⟩:=(show ObjOk X.prog X.w H s.heap a (.frz ob (.lst xs)) from I.hok a _ ea)
  exact Z5 PySem.W.kitx_list I.kIn ⟨_,h1,rfl⟩ e (fun z=>nomatch z) h
 | @tup a xs ea=>
  cases (show u=Value.ref a from rx)
  obtain ⟨_,_,_,p⟩:=(show ObjOk X.prog X.w H s.heap a (.tup xs) from I.hok a _ ea)
  obtain ⟨o,h1,h2,_⟩:=p
  exact Z5 PySem.W.kitx_tuple I.kIn ⟨o,h1,h2⟩ e (fun z=>nomatch z) h
 | @dK a kvs ea=>
  cases (show u=Value.ref a from rx)
  obtain ⟨_,_,vs,_,p⟩:=(show ObjOk X.prog X.w H s.heap a (.dK kvs) from I.hok a _ ea)
  obtain ⟨o,es,ep,h1,h2,_⟩:=p
  exact Z5 PySem.W.kitx_dict I.kIn ⟨o,h1,h2.1⟩ e (fun z=>nomatch z) h
 | @dT a kvs ea=>
  cases (show u=Value.ref a from rx)
  obtain ⟨_,_,xs,_,o,es,ep,h1,h2,_⟩:=(show ObjOk X.prog X.w H s.heap a (.dT kvs) from I.hok a _ ea)
  exact Z5 PySem.W.kitx_dict I.kIn ⟨o,h1,h2.1⟩ e (fun z=>nomatch z) h
 | @ins a C dx fs ea cl ha hn htk hm=>
  cases (show u=Value.ref a from rx)
  obtain ⟨mA,O,_⟩:=sW I.hok ea
  obtain ⟨od,J,_⟩:=O.look
  exact Z5 (PySem.W.kitx_own (cl.get _) cl.hd ha hn htk hm) I.kIn J e (fun z=>nomatch z) h
end
structure Room (k:Nat) (A:Around):Prop where
 hd:A.handled=none
 dp:A.depth+3*k+5 < recursionLimit
 un:A.units+16*k+200 < cLine
 gd:A.guards=some []
theorem Room.mono {j k:Nat} {A:Around} (r:Room k A) (h:j<=k):Room j A:=⟨r.hd,by have:=r.dp;omega,by have:=r.un;omega,r.gd⟩
theorem Room.deeper {k:Nat} {A:Around} (r:Room (k+1) A) (env:Env):Room k (A.deeper env):=
 ⟨r.hd,by have:=r.dp;show A.depth+1+3*k+5 < _;omega,by have:=r.un;show A.units+3+16*k+200 < _;omega,r.gd⟩
theorem DX {A:Around} {C:Addr} {us:List Value} {kw:List (Str×Value)}:(A.under (.builtin "type.__call__" ⟨.ref C :: us,kw⟩)).depth=A.depth+1:=by
 first | rfl | simp [Around.under,Code.weight,Code.isCreation,Code.isGuard,Code.isCaller,Code.frames,Code.isFrame,guardIds]
theorem DY {A:Around} {C:Addr} {us:List Value} {kw:List (Str×Value)}:(A.under (.builtin "type.__call__" ⟨.ref C :: us,kw⟩)).units=A.units+1:=by
 first | rfl | simp [Around.under,Code.cUnits,Code.frames,Code.isFrame]
theorem Bm {A:Around} {C:Addr} {us:List Value} {kw:List (Str×Value)}:(A.under (.builtin "type.__call__" ⟨.ref C :: us,kw⟩)).guards=pushGuards [] A.guards:=by
 first | rfl | simp [Around.under,Code.guards,Code.isGuard,guardIds]
theorem Room.make {k:Nat} {A:Around} (r:Room (k+1) A) (C:Addr) (us:List Value) (kw:List (Str×Value)):Room k (A.under (.builtin "type.__call__" ⟨.ref C :: us,kw⟩)):=
 ⟨r.hd,by have:=r.dp;rw [DX];omega,by have:=r.un;rw [DY];omega,(Bm.trans (by rw [r.gd];rfl))⟩
theorem Room.depth {k:Nat} {A:Around} (r:Room k A):A.depth < recursionLimit:=by have:=r.dp;omega
theorem Room.units {k:Nat} {A:Around} (r:Room k A):A.units+64 < cLine:=by have:=r.un;omega
theorem Room.units0 {k:Nat} {A:Around} (r:Room k A):A.units < cLine:=by have:=r.un;omega
def KR:TA:=fun _ H Q=>Q [] H
def Ge (ta:TE) (tr:TA):TA:=fun U H Q=>ta U H fun x H1=>tr U H1 fun xs H2=>Q (x :: xs) H2
section
variable {X:Cx} {e:Expr} {es:List Expr} {te:TE} {t:TA} {pos:Pos}
theorem Ue:PA X [] KR:=fun _ _ _ _ H Q I h=>Calls.spliced_nil ⟨[],H,I,.nil,h⟩
theorem PL (ha:PE X e te) (hr:PA X es t) (hs:autoParam (starEach (e :: es) X.env=(false,eval e X.env) :: starEach es X.env) L2.auto4._auto_1):PA X (e :: es) (Ge te t):=by
 intro pos pins s U H Q I h
 rw [hs]
 show wpAny _ _ (spliced ((false,eval e X.env) :: backTo pos (starEach es X.env))) _ _ s
 refine Calls.spliced_cons (bV (ha pins s U H _ I h) fun u s1 qq0=>?_)
 obtain ⟨x,H1,I1,r1,q1⟩:=qq0
 exact bV (hr pos pins s1 U H1 _ I1 q1) fun us s2 ⟨xs,H2,I2,r2,q2⟩=>⟨x :: xs,H2,I2,.cons r1 r2,q2⟩
def PN (t:TA):TE:=fun U H Q=>t U H fun xs H1=>xs.length<=sizeLine/\∀ p,H1 p=none->Q (.ref p) (upd H1 p (.tup xs))
def PP (t:TA):TE:=fun U H Q=>t U H fun xs H1=>xs.length<=sizeLine/\∀ p,H1 p=none->Q (.ref p) (upd H1 p (.lst xs))
theorem Ug {x1} (h:PA X es t):PE X (.Tuple es x1 pos) (PN t):=by
 intro pins s U H Q I hq
 refine wpAny_Tuple_spliced (bV (h pos pins s U H _ I hq) fun us s1 ⟨xs,H1,I1,r,z,q⟩=>⟨by rw [← r.length];exact z,?_⟩)
 have hf:H1 s1.heap.objs.size=none:=I1.hok.fresh (YZ _)
 refine ⟨.ref s1.heap.objs.size,upd H1 s1.heap.objs.size (.tup xs),I1.laid (t':=s1.toks) (fun b u e=>YW _ e) (YZ _) ?_,rfl,q _ hf⟩
 exact ⟨z,us,r,⟨_,Y9 _ rfl,rfl,_,rfl⟩⟩
theorem Uh (h:PA X es t):PE X (.List es pos) (PP t):=by
 intro pins s U H Q I hq
 refine wpAny_List_spliced (bV (h pos pins s U H _ I hq) fun us s1 ⟨xs,H1,I1,r,z,q⟩=>⟨by rw [← r.length];exact z,?_⟩)
 have hf:H1 s1.heap.objs.size=none:=I1.hok.fresh (YZ _)
 refine ⟨.ref s1.heap.objs.size,upd H1 s1.heap.objs.size (.lst xs),I1.laid (t':=s1.toks) (fun b u e=>YW _ e) (YZ _) ?_,rfl,q _ hf⟩
 exact ⟨z,us,0,r,Y9 _ rfl⟩
end
abbrev Sp:=List V->Hp->VK->XK->Prop
abbrev Ij:=List Env->Hp->Shared->XK->Value->Shared->Prop
structure Env0 (P:Program) (w:World) (K:W.Frag) (mg:Str->Option Value) (base:Heap) (A:Around) (outer:List Env) (s:Shared) (H:Hp):Prop where
 frames:A.frames=some outer
 mod:Mod K mg base
 bs:∀ b o,base.get? b=some o->s.heap.get? b=some o/\H b=none
 bsz:base.objs.size<=s.heap.objs.size
 funs:s.heap.FunFrames base outer
 frf:∀ b∈frs outer,H b=none
 hok:HOk P w H s.heap
 bare:AllBare s.gens
def CE (outer:List Env) (P:Program) (w:World) (H:Hp) (s:Shared) (Q:VK) (u:Value) (s':Shared):Prop:=
 ∃ v H',s'.os=s.os/\AllBare s'.gens/\Un (frs outer) [] H H' s.heap s'.heap/\HOk P w H' s'.heap/\RelV v u/\Q v H'
def CR (CX:Ij) (outer:List Env) (P:Program) (w:World) (H:Hp) (s:Shared) (Q:VK) (E:XK) (r:Result) (s':Shared):Prop:=
 match r with
 | .ok (.ret u)=>CE outer P w H s Q u s'
 | .ok _=>False
 | .error e=>CX outer H s E e s'
structure FnOk (P:Program) (w:World) (K:W.Frag) (mg:Str->Option Value) (base:Heap) (CX:Ij) (k:Nat) (f:Addr) (fd:FuncData) (ps:List Str) (sp:Sp):Prop where
 len:∀ vs H Q E,sp vs H Q E->vs.length=ps.length
 run:∀ (A:Around) (outer:List Env) (s:Shared) (H:Hp) (args:Args) (us:List Value) (vs:List V) (Q:VK) (E:XK),Room k A->Env0 P w K mg base A outer s H->BindsTo s fd args (ps.zip us)->Vals vs us->sp vs H Q E->
  codeAny (model P w) A (.call (.ref f) args) (CR CX outer P w H s Q E) s
theorem FnOk.mono {P:Program} {w:World} {K:W.Frag} {mg:Str->Option Value} {base:Heap} {CX:Ij} {j k:Nat} {f:Addr} {fd:FuncData} {ps:List Str} {sp:Sp} (F:FnOk P w K mg base CX j f fd ps sp) (h:j<=k):
  FnOk P w K mg base CX k f fd ps sp:=⟨F.len,fun A outer s H args us vs Q E hr=>F.run A outer s H args us vs Q E (hr.mono h)⟩
theorem Env0.make {P:Program} {w:World} {K:W.Frag} {mg:Str->Option Value} {base:Heap} {A:Around} {outer:List Env} {s:Shared} {H:Hp} (e:Env0 P w K mg base A outer s H) (C:Addr) (us:List Value) (kw:List (Str×Value)):
  Env0 P w K mg base (A.under (.builtin "type.__call__" ⟨.ref C :: us,kw⟩)) outer s H:=⟨by first | exact e.frames | (simpa [Around.under,Code.envs,Code.isFrame,pushEnvs] using e.frames),e.mod,e.bs,e.bsz,e.funs,e.frf,e.hok,e.bare⟩
section
variable {X:Cx} {pins:List (Addr×Obj)} {U:St} {H:Hp} {s s':Shared}
theorem Inv.env0 (I:Inv X pins U H s):Env0 X.prog X.w X.K X.mg X.base X.A X.stack s H:=
 ⟨I.ok.frames,I.ok.mod,I.bs,Zo I.ok.bsz I.sz,I.stack,I.stkFree,I.hok,I.bare⟩
theorem Inv.after {Q:VK} {u:Value} (I:Inv X pins U H s) (h:CE X.stack X.prog X.w H s Q u s'):EP X pins U Q u s':=by
 obtain ⟨v,H',os,bare,un,hok,r,q⟩:=h
 obtain ⟨hh,g,d,t,os'⟩:=s'
 obtain rfl:os'=s.os:=os
 exact ⟨v,H',I.call (h':=hh) (g':=g) (d':=d) (t':=t) (ch:=[]) un hok bare (fun b z=>absurd z (by simp)),r,q⟩
end
def yo (sp:Sp) (dvs:List V) (E:XK) (t:TA):TE:=fun U H Q=>t U H fun vs H1=>sp (vs ++ dvs) H1 Q E
def Binds (K:W.Frag) (fd:FuncData) (ps:List Str) (ds:List Value):Prop:=
 ∀ (s:Shared) (us:List Value),K.In s.heap->(us ++ ds).length=ps.length->BindsTo s fd ⟨us,[]⟩ (ps.zip (us ++ ds))
theorem Binds.all {K:W.Frag} {fd:FuncData} {ps:List Str} (h:∀ us:List Value,us.length=ps.length->bindArgs fd ⟨us,[]⟩=pure (ps.zip us)):Binds K fd ps []:=fun s us _ hl=>by
 rw [ZJ] at hl ⊢
 exact .of_eq (h us hl)
def Ea (CX:Ij) (X:Cx) (E:XK):Prop:=∀ (pins:List (Addr×Obj)) (U:St) (H:Hp) (s:Shared) (e:Value) (s':Shared),Inv X pins U H s->CX X.stack H s E e s'->X.xe e s'
section
variable {X:Cx} {CX:Ij} {k:Nat} {f C:Addr} {fd:FuncData} {ps:List Str} {sp:Sp} {dvs:List V} {ds:List Value} {E:XK} {x m:Str} {p pos apos:Pos} {e o:Expr} {es:List Expr} {ta:TE} {t:TA}
theorem Ui {pins:List (Addr×Obj)} {U:St} {H:Hp} {s:Shared} {Q:VK} {us:List Value} {vs:List V} (F:FnOk X.prog X.w X.K X.mg X.base CX k f fd ps sp) (hr:Room k X.A) (hb:Binds X.K fd ps ds) (hd:Vals dvs ds) (hx:Ea CX X E)
  (I:Inv X pins U H s) (r:Vals vs us) (h:sp (vs ++ dvs) H Q E):wpAny (model X.prog X.w) X.A (call (.ref f) us) (EP X pins U Q) X.xe s:=by
 have r2:Vals (vs ++ dvs) (us ++ ds):=r.append hd
 have hl:(us ++ ds).length=ps.length:=by rw [← r2.length];exact F.len _ _ _ _ h
 refine AaY (codeAny_mono (F.run X.A X.stack s H ⟨us,[]⟩ (us ++ ds) (vs ++ dvs) Q E hr I.env0 (hb s us I.kIn hl) r2 h) fun r s' hq=>?_)
 cases r with
 | error e=>exact hx pins U H s e s' I hq
 | ok fl=>
  cases fl with
  | ret u=>exact I.after hq
  | next=>exact False.elim hq
  | brk=>exact False.elim hq
  | cont=>exact False.elim hq
theorem PQ (F:FnOk X.prog X.w X.K X.mg X.base CX k f fd ps sp) (hr:Room k X.A) (hg:Gl X x) (hm:X.mg x=some (.ref f)) (hk:PySem.W.keepIn X.K (.ref f)=true) (hb:Binds X.K fd ps ds) (hd:Vals dvs ds) (hx:Ea CX X E)
  (ha:PA X (e :: es) t) (hdb:autoParam ((x == ("__debug__":Str))=false) L2.auto2._auto_1) (he:autoParam (starEach (e :: es) X.env=(false,eval e X.env) :: starEach es X.env) L2.auto4._auto_1) (hpl:autoParam ((backTo pos (starEach es X.env)).any (·.1)=false) L2.auto4._auto_1):
  PE X (.Call (.Name x p) (e :: es) [] pos) (yo sp dvs E t):=by
 intro pins s U H Q I h
 refine ZK (lJ I hg hm ?_ hdb)
 refine Aay (h₀:=X.base) I.ok.mod.kin hk (bV (ha pos pins s U H _ I h) fun us s1 ⟨vs,H1,I1,r,q⟩=>⟨I1.kIn,?_⟩) he hpl
 exact Ui F hr hb hd hx I1 r q
end
structure aC (N P:List Str) (sc:Scope):Prop where
 kind:sc.kind= .function
 co:sc.isCoroutine=false
 gen:sc.isGenerator=false
 nd:N.Nodup
 pre:N.take P.length=P
 par:∀ x∈P,sc.names.lookup x=some .local\/sc.names.lookup x=some .cell
 nofree:∀ y∈sc.names,y.2≠.free
theorem yq {kindOf:Str->Option NameKind} {x:Str}:∀ {binds:List (Str×Value)} {m:Str->Option Value},(∀ v,(x,v) ∉ binds)->bindL kindOf binds m x=m x
 | [],_,_=>rfl
 | (n,v) :: r,m,h=>by
  unfold bindL
  rw [yq fun w hw=>h w (Zb _ hw)]
  split
  ·have:x≠n:=by rintro rfl;exact h v Zn
   simp [this]
  ·rfl
theorem yr {kindOf:Str->Option NameKind} {x:Str}:∀ {binds:List (Str×Value)} {m:Str->Option Value},(∀ v,(x,v) ∉ binds)->bindC kindOf binds m x=m x
 | [],_,_=>rfl
 | (n,v) :: r,m,h=>by
  unfold bindC
  rw [yr fun w hw=>h w (Zb _ hw)]
  split
  ·rfl
  ·have:x≠n:=by rintro rfl;exact h v Zn
   simp [this]
theorem yt {kindOf:Str->Option NameKind} {x:Str} {v:Value}:∀ {P:List Str} {vs:List Value} {i:Nat} {m:Str->Option Value},P.Nodup->P[i]?=some x->vs[i]?=some v->kindOf x=some .local->
  bindL kindOf (P.zip vs) m x=some v
 | [],_,_,_,_,h,_,_=>by simp at h
 | _ :: _,[],_,_,_,_,h,_=>by simp at h
 | p :: P,w :: vs,0,m,nd,h1,h2,hk=>by
  simp at h1 h2;subst h1;subst h2
  show bindL kindOf ((p,w) :: P.zip vs) m p=_
  unfold bindL
  rw [yq fun v hv=>(List.nodup_cons.mp nd).1 (List.of_mem_zip hv).1,if_pos hk]
  simp
 | p :: P,w :: vs,i+1,m,nd,h1,h2,hk=>by
  show bindL kindOf ((p,w) :: P.zip vs) m x=_
  unfold bindL
  exact yt (i:=i) (List.nodup_cons.mp nd).2 (by simpa using h1) (by simpa using h2) hk
theorem yw {kindOf:Str->Option NameKind} {x:Str} {v:Value}:∀ {P:List Str} {vs:List Value} {i:Nat} {m:Str->Option Value},P.Nodup->P[i]?=some x->vs[i]?=some v->kindOf x≠some .local->
  bindC kindOf (P.zip vs) m x=some v
 | [],_,_,_,_,h,_,_=>by simp at h
 | _ :: _,[],_,_,_,_,h,_=>by simp at h
 | p :: P,w :: vs,0,m,nd,h1,h2,hk=>by
  simp at h1 h2;subst h1;subst h2
  show bindC kindOf ((p,w) :: P.zip vs) m p=_
  unfold bindC
  rw [yr fun v hv=>(List.nodup_cons.mp nd).1 (List.of_mem_zip hv).1,if_neg hk]
  simp
 | p :: P,w :: vs,i+1,m,nd,h1,h2,hk=>by
  show bindC kindOf ((p,w) :: P.zip vs) m x=_
  unfold bindC
  exact yw (i:=i) (List.nodup_cons.mp nd).2 (by simpa using h1) (by simpa using h2) hk
def start (N:List Str) (vs:List V):St:=vs.map some ++ List.replicate (N.length - vs.length) none
def o5 (CX:Ij) (P:Program) (w:World) (K:W.Frag) (mg:Str->Option Value) (base:Heap) (N:List Str) (qual:Str) (scope:Scope) (f:Addr) (cd:Value) (A:Around) (outer:List Env) (s:Shared) (H:Hp) (E:XK):Cx where
 prog:=P
 w:=w
 K:=K
 mg:=mg
 base:=base
 A:=A.deeper (envOfC qual scope s.heap.objs.size f cd)
 N:=N
 s₀:=s
 H₀:=H
 env:=envOfC qual scope s.heap.objs.size f cd
 outer:=outer
 stack:=envOfC qual scope s.heap.objs.size f cd :: outer
 ex:=[]
 calm:=true
 fn:=fun _=>true
 pn:=[]
 xe:=fun e s'=>wpAny (model P w) (A.deeper (envOfC qual scope s.heap.objs.size f cd)) (leaving (envOfC qual scope s.heap.objs.size f cd) e) (fun _ s''=>CX outer H s E e s'') (fun e' s''=>CX outer H s E e' s'') s'
theorem Bo {sc:Scope} {n:Nat} {x:Str} (h:sc.names.lookup x=some .cell):∃ c,(cellsFrom n sc.names []).lookup x=some c:=by
 have q:=PySem.W.cellsFrom_some sc.names n [] (.inl h)
 exact Option.isSome_iff_exists.mp q
theorem Ik {CX:Ij} {P:Program} {w:World} {K:W.Frag} {mg:Str->Option Value} {base:Heap} {N ps:List Str} {qual:Str} {scope:Scope} {f:Addr} {cd:Value} {A:Around} {outer:List Env} {s s1:Shared} {H:Hp} {E:XK} {us:List Value} {vs:List V}
  (S:aC N ps scope) (hd:A.handled=none) (e0:Env0 P w K mg base A outer s H) (hl:vs.length=ps.length) (r:Vals vs us)
  (x:InCallC s s.heap.objs.size (bindL (envOfC qual scope s.heap.objs.size f cd).kindOf (ps.zip us) fun _=>none) (cellsFrom (s.heap.objs.size+1) scope.names []) (bindC (envOfC qual scope s.heap.objs.size f cd).kindOf (ps.zip us) fun _=>none) s1):
  Inv (o5 CX P w K mg base N qual scope f cd A outer s H E) [] (start N vs) H s1:=by
 have hpl:ps.length<=N.length:=by have:=congrArg List.length S.pre;rw [Aav] at this;omega
 obtain ⟨h1,tk,rfl,hk⟩:=x.done
 have noA:∀ b:Addr,b ∉ (o5 CX P w K mg base N qual scope f cd A outer s H E).ex:=fun b z=>absurd (show b∈([]:List Addr) from z) (by simp)
 refine ⟨⟨e0.mod,S.kind,rfl,rfl,YZ _,fun y z c h1 h2=>?_,fun y hy=>?_,fun y c _ h=>?_,fun _=>hd,Around.frames_deeper e0.frames,.inr ⟨rfl,rfl⟩,fun b z=>absurd z (noA b),e0.bs,e0.bsz,fun b _ _=>noA b,fun b z=>absurd z (noA b),e0.funs,e0.frf⟩,
  rfl,e0.bare,Un.kept hk,⟨_,x.toInCall.ns,fun i y v h1 h2 h3=>?_⟩,fun y c h=>⟨_,x.cell y c h⟩,e0.hok.fresh (YZ _),fun y c h=>?_,fun p hp=>absurd (show p∈([]:List (Addr×Obj)) from hp) (by simp),e0.hok.kept hk,?_⟩
 ·exact name_of_addr x.apart (ZM h1) (ZM h2)
 ·have hy:scope.names.lookup y=some .cell\/scope.names.lookup y=some .free:=hy
  rcases hy with hy | hy
  ·exact Bo hy
  ·exact absurd rfl (S.nofree _ (ZM hy))
 ·exact Nat.le_of_lt (x.above y c (ZM h))
 ·have hi:i < vs.length:=by
   unfold start at h2
   by_cases hi:i < vs.length
   ·exact hi
   ·rw [Zk (by simpa using hi)] at h2
    rw [List.getElem?_replicate] at h2
    split at h2 <;> cases h2
  have ha:vs[i]?=some v:=by
   unfold start at h2
   rw [Zm (by simpa using hi),Y8] at h2
   cases e:vs[i]? with
   | none=>rw [e] at h2;cases h2
   | some a=>rw [e] at h2;cases h2;rfl
  obtain ⟨u,hu,rv⟩:=r.get ha
  have hp:ps[i]?=some y:=by
   rw [← S.pre,List.getElem?_take_of_lt (by omega)];exact h1
  have ndP:ps.Nodup:=by rw [← S.pre];exact S.nd.sublist (List.take_sublist _ _)
  refine ⟨u,rv,?_⟩
  rcases S.par y (Zd hp) with k | k
  ·exact .inl ⟨k,yt ndP hp hu k⟩
  ·obtain ⟨c,e⟩:=Bo (n:=s.heap.objs.size+1) k
   refine .inr ⟨.inl k,c,e,?_⟩
   have q:=x.cell y c e
   rw [yw ndP hp hu (by show scope.names.lookup y≠_;rw [k];decide)] at q
   exact q
 ·exact e0.hok.fresh (Nat.le_of_lt (x.above y c (ZM h)))
 ·unfold start
  show _=N.length
  rw [Z3,Zf,List.length_replicate]
  omega
theorem Bp {CX:Ij} {P:Program} {w:World} {K:W.Frag} {mg:Str->Option Value} {base:Heap} {k:Nat} {f:Addr} {name qual:Str} {params:Arguments} {body:List Stmt} {scope:Scope} {dV kV doc pm cdv ct oc:Value} {an od:Option Addr}
  {osl:Array (Option Value)} {N ps:List Str} {sp:Sp} (lk:K.lookup f=some ⟨oc,od,.func (PySem.W.fnOf name qual params body scope dV kV doc pm an cdv ct),osl⟩) (hcd:PySem.W.codeIn K cdv qual=true) (S:aC N ps scope)
  (len:∀ vs H Q E,sp vs H Q E->vs.length=ps.length)
  (hbody:∀ (A:Around) (outer:List Env) (s:Shared) (H:Hp) (vs:List V) (Q:VK) (E:XK),Room k (A.deeper (envOfC qual scope s.heap.objs.size f cdv))->sp vs H Q E->
   ∃ t,PSs (o5 CX P w K mg base N qual scope f cdv A outer s H E) body t/\t {nx:=fun _ H'=>Q .non H',rt:=Q} (start N vs) H):
  FnOk P w K mg base CX (k+1) f (PySem.W.fnOf name qual params body scope dV kV doc pm an cdv ct) ps sp:=by
 refine ⟨len,fun A outer s H args us vs Q E hr e0 hb r hsp=>?_⟩
 have hl:=len _ _ _ _ hsp
 have KX:K.In s.heap:=e0.mod.kin.keeps fun b o e=>(e0.bs b o e).1
 have lim:s.heap.NoLimit:=e0.mod.nolimit.keeps fun b o e=>(e0.bs b o e).1
 have hkind:∀ y∈ps.zip us,scope.names.lookup y.1=some .local\/(scope.names.lookup y.1=some .cell/\((cellsFrom (s.heap.objs.size+1) scope.names []).lookup y.1).isSome=true):=fun ⟨n,v⟩ hy=>by
  rcases S.par n (List.of_mem_zip hy).1 with q | q
  ·exact .inl q
  ·exact .inr ⟨q,PySem.W.cellsFrom_some _ _ _ (.inl q)⟩
 refine codeAny_call_function hr.depth (KX _ _ lk) rfl S.co S.gen rfl (PySem.W.codeRec_of KX hcd) (hb _ _ _ _ ?_)
 refine wpAny_newFunctionEnv_cells S.kind hkind fun env he s1 x=>?_
 subst he
 refine ⟨lim.keeps x.toInCall.keep,codeAny_func ?_⟩
 obtain ⟨t,ht,hq⟩:=hbody A outer s H vs Q E (hr.deeper _) hsp
 have I:Inv (o5 CX P w K mg base N qual scope f cdv A outer s H E) [] (start N vs) H s1:=Ik S hr.hd e0 hl r x
 refine Zu (ht [] s1 (start N vs) H _ I hq) (fun fl s' hs=>?_) fun e s' hs=>hs
 have fin:∀ {U':St} {H':Hp} {v:V} {u:Value},Inv (o5 CX P w K mg base N qual scope f cdv A outer s H E) [] U' H' s'->RelV v u->Q v H'->CE outer P w H s Q u s':=
  fun {U' H' v u} J rv q=>⟨v,H',J.os,J.bare,J.base,J.hok,rv,q⟩
 cases fl with
 | ret u=>
  obtain ⟨v,U',H',J,rv,q⟩:=hs
  exact fin J rv q
 | next=>
  obtain ⟨U',H',J,q⟩:=hs
  exact fin (v:=V.non) (u:=Value.none) J rfl q
 | brk=>
  obtain ⟨_,_,_,q⟩:=hs
  exact False.elim q
 | cont=>
  obtain ⟨_,_,_,q⟩:=hs
  exact False.elim q
section
variable {X:Cx} {x:Str} {p pos:Pos} {e:Expr} {es:List Expr} {t:TA} {id T:String} {r:List V->Hp->VK->Prop}
def Uj (r:List V->Hp->VK->Prop) (t:TA):TE:=fun U H Q=>t U H fun vs H1=>r vs H1 Q
theorem KY (hc:CallR X (.builtin id) r) (hg:Gl X x) (hm:X.mg x=none) (hv:bootBuiltins x=some (.builtin id)) (ha:PA X (e :: es) t) (hn:autoParam (x≠"__name__") L2.auto2._auto_1) (hdb:autoParam ((x == ("__debug__":Str))=false) L2.auto2._auto_1)
  (he:autoParam (starEach (e :: es) X.env=(false,eval e X.env) :: starEach es X.env) L2.auto4._auto_1) (hpl:autoParam ((backTo pos (starEach es X.env)).any (·.1)=false) L2.auto4._auto_1):PE X (.Call (.Name x p) (e :: es) [] pos) (Uj r t):=by
 intro pins s U H Q I h
 refine ZK (ig I hg hm hv ?_ hn hdb)
 exact PyProof.Rows.callWith_builtin1 (bV (ha pos pins s U H _ I h) fun us s1 ⟨vs,H1,I1,r1,q1⟩=>hc pins s1 U H1 vs us Q I1 r1 q1) he hpl
theorem Il (hc:CallR X (.type T) r) (hg:Gl X x) (hm:X.mg x=none) (hv:bootBuiltins x=some (.type T)) (ha:PA X (e :: es) t) (hn:autoParam (x≠"__name__") L2.auto2._auto_1) (hdb:autoParam ((x == ("__debug__":Str))=false) L2.auto2._auto_1)
  (he:autoParam (starEach (e :: es) X.env=(false,eval e X.env) :: starEach es X.env) L2.auto4._auto_1) (hpl:autoParam ((backTo pos (starEach es X.env)).any (·.1)=false) L2.auto4._auto_1):PE X (.Call (.Name x p) (e :: es) [] pos) (Uj r t):=by
 intro pins s U H Q I h
 refine ZK (ig I hg hm hv ?_ hn hdb)
 exact Zq (bV (ha pos pins s U H _ I h) fun us s1 ⟨vs,H1,I1,r1,q1⟩=>hc pins s1 U H1 vs us Q I1 r1 q1) he hpl
end
end L2
namespace HT
open PySem PyProof.Rows
section
open PySem.SeqAt
open PySem.AutoSeq1 (wpAny_loadPart')
open PySem.MeetsSeq PySem.MeetsSeq2 PySem.MeetsSeq3
end
section
variable {prog:Program} {w:World} {A:Around} {E:Value->Shared->Prop} {s:Shared}
def sIx (n d:Nat):Option Int->Nat
 | none=>d
 | some v=>if v < 0 then (v+(n:Int)).toNat else min v.toNat n
theorem sIx_none (n d:Nat):sIx n d none=d:=rfl
theorem sIx_nat (n d k:Nat):sIx n d (some (k:Int))=min k n:=by
 show (if (k:Int) < 0 then ((k:Int)+(n:Int)).toNat else min (k:Int).toNat n)=min k n
 rw [if_neg (by omega),Int.toNat_natCast]
theorem sIx_le (n d:Nat) (hd:d<=n) (o:Option Int):sIx n d o<=n:=by
 cases o with
 | none=>exact hd
 | some v=>
  show (if v < 0 then (v+(n:Int)).toNat else min v.toNat n)<=n
  by_cases hv:v < 0
  ·rw [if_pos hv];omega
  ·rw [if_neg hv];exact Nat.min_le_right _ _
theorem clip_eq (v:Int) (n d:Nat):(if v < 0 then max (v+(n:Int)) 0 else min v (n:Int))=((sIx n d (some v):Nat):Int):=by
 show (if v < 0 then max (v+(n:Int)) 0 else min v (n:Int))=(((if v < 0 then (v+(n:Int)).toNat else min v.toNat n):Nat):Int)
 by_cases hv:v < 0
 ·simp only [if_pos hv];omega
 ·simp only [if_neg hv];omega
theorem Eb (lo hi:Option Int) (n:Nat):Builtin.Slice.sliceAdjust lo hi 1 (n:Int)=(((sIx n 0 lo:Nat):Int),((sIx n n hi:Nat):Int)):=by
 have h1:¬ ((1:Int) < 0):=by omega
 unfold Builtin.Slice.sliceAdjust
 simp only [h1,if_false]
 refine Prod.ext ?_ ?_
 ·cases lo with
  | none=>rfl
  | some v=>exact clip_eq v n 0
 ·cases hi with
  | none=>rfl
  | some v=>exact clip_eq v n n
theorem Ec (i j:Nat):Builtin.Slice.slicePlaces (i:Int) (j:Int) 1=j - i:=by
 unfold Builtin.Slice.slicePlaces
 have h1:(1:Int) > 0:=by omega
 simp only [h1,if_true,Int.ediv_one]
 split <;> omega
theorem wg {v:Value} {o:Option Int} {Q:Option Int->Shared->Prop} (p:IsPart v o) (h:Q o s):wpAny (model prog w) A (Builtin.Slice.slicePartIndex v) Q E s:=by
 cases p with
 | none=>exact slicePart_none h
 | int i t=>exact slicePart_int h
theorem mU {sl:Addr} {vl vu:Value} {lo hi:Option Int} {n:Nat} {Q:Int×Int×Nat->Shared->Prop} (hs:s.heap.IsSliceOf sl vl vu .none) (pl:IsPart vl lo) (pu:IsPart vu hi)
  (h:Q (((sIx n 0 lo:Nat):Int),1,sIx n n hi - sIx n 0 lo) s):wpAny (model prog w) A (Builtin.Slice.sliceApplied (.ref sl) (pure (n:Int))) Q E s:=by
 obtain ⟨os,hos,hcs,hds⟩:=id hs
 unfold Builtin.Slice.sliceApplied Builtin.Slice.sliceFields
 refine YS (YS (Aam hos hds (x:=vl) rfl (YS (Aam hos hds (x:=vu) rfl (YS (Aam hos hds (x:=.none) rfl (Y0 ?_)))))))
 refine YS (slicePart_none ?_)
 show wpAny _ _ (if ((1:Int) == 0)=true then _ else _) _ _ s
 rw [if_neg (by decide)]
 refine YS (wg pl (YS (wg pu (YS (Y0 ?_)))))
 show wpAny _ _ (match Builtin.Slice.sliceAdjust lo hi 1 (n:Int) with | (lo,hi)=>pure (lo,(1:Int),Builtin.Slice.slicePlaces lo hi 1)) _ _ s
 rw [Eb lo hi n]
 show wpAny _ _ (pure (((sIx n 0 lo:Nat):Int),(1:Int),Builtin.Slice.slicePlaces ((sIx n 0 lo:Nat):Int) ((sIx n n hi:Nat):Int) 1)) _ _ s
 rw [Ec]
 exact Y0 h
theorem KZ (xs:Array Value) (i k:Nat):((List.range k).filterMap fun (m:Nat)=>xs[((i:Int)+(m:Int)*1).toNat]?).toArray=((xs.toList.drop i).take k).toArray:=by
 have e:(fun (m:Nat)=>xs[((i:Int)+(m:Int)*1).toNat]?)=fun m=>xs[i+m]?:=by
  funext m
  have:((i:Int)+(m:Int)*1).toNat=i+m:=by omega
  rw [this]
 rw [e]
 have:=pick_run xs i k
 rw [List.filterMap_map] at this
 have e2:((fun x=>xs[x]?) ∘ fun x=>i+x)=fun m=>xs[i+m]?:=rfl
 rw [e2] at this
 rw [this]
theorem getItem_tuple_cut {t sl:Addr} {items:Array Value} {vl vu:Value} {lo hi:Option Int} {Q:Value->Shared->Prop} (ht:IsTup s.heap t items) (hs:s.heap.IsSliceOf sl vl vu .none) (pl:IsPart vl lo) (pu:IsPart vu hi)
  (hw:¬ (sIx items.size 0 lo=0/\sIx items.size items.size hi=items.size))
  (h:Q (.ref s.heap.objs.size) {s with heap:=s.heap.push {cls:=.type "tuple",data:=.seq ((items.toList.drop (sIx items.size 0 lo)).take (sIx items.size items.size hi - sIx items.size 0 lo)).toArray}})
  (hsz:items.size<=sizeLine):wpAny (model prog w) A (getItem (.ref t) (.ref sl)) Q E s:=by
 have htake:sizeOk (.seq ((items.toList.drop (sIx items.size 0 lo)).take (sIx items.size items.size hi - sIx items.size 0 lo)).toArray):=by
  show ((items.toList.drop (sIx items.size 0 lo)).take (sIx items.size items.size hi - sIx items.size 0 lo)).toArray.size<=sizeLine
  rw [Zh,Aav,AaI,Zx]
  omega
 have hj:sIx items.size items.size hi<=items.size:=sIx_le _ _ (YZ _) hi
 obtain ⟨os,hos,hcs,hds⟩:=id hs
 have hTs:s.TypeIs (.ref sl) "slice":=⟨os,hos,hcs⟩
 unfold getItem
 try with_reducible refine ZW ?_
 first | refine YS (Y0 ?_) | skip
 refine YS (wpAny_sequenceKey ht.typeIs (by decide) ?_)
 refine YS (AaJ (name:=Str.ofString "__getitem__") ht.typeIs Aaj
  (Aa5 Aaj ht.typeIs entry_tuple_getitem ?_ (args_tuple_getitem _ _)))
 show wpAny _ _ (Builtin.Tuple.tupleItemsOf (.ref t) >>=_) _ _ s
 refine YS (tupleItemsOf_ ht ?_)
 refine YS (wpAny_typeOf hTs ?_)
 rw [if_pos (by decide)]
 refine YS (mU hs pl pu ?_)
 have hno:¬ ((((sIx items.size 0 lo:Nat):Int) == 0 && (1:Int) == 1 && (sIx items.size items.size hi - sIx items.size 0 lo) == items.size)=true):=by
  intro q
  rw [Ze,Ze] at q
  have q1:((sIx items.size 0 lo:Nat):Int)=0:=eq_of_beq q.1.1
  have q2:sIx items.size items.size hi - sIx items.size 0 lo=items.size:=eq_of_beq q.2
  exact hw ⟨by omega,by omega⟩
 show wpAny _ _ (if (((sIx items.size 0 lo:Nat):Int) == 0 && (1:Int) == 1 && (sIx items.size items.size hi - sIx items.size 0 lo) == items.size)=true then _ else _) _ _ s
 rw [if_neg hno,KZ]
 first
  | exact YS (m:=Builtin.Tuple.tupleExact _) (Z2 (Y0 ⟨_,rfl,Y0 h⟩) htake)
  | exact YS (m:=Builtin.Tuple.tupleExact _) (Z2 (YS (Y0 (Y0 ⟨_,rfl,Y0 h⟩))) htake)
  | exact YS (YS (m:=Builtin.Tuple.tupleExact _) (Z2 (Y0 (Y0 ⟨_,rfl,Y0 h⟩)) htake))
  | exact YS (YS (m:=Builtin.Tuple.tupleExact _) (Z2 (Y0 ⟨_,rfl,Y0 h⟩) htake))
end
end HT
namespace L2
open PySem PySem.Spec PyProof.Rows
abbrev TO:=St->Hp->(Option Int->Hp->Prop)->Prop
def PO (X:Cx) (e:Option Expr) (t:TO):Prop:=
 ∀ (pins:List (Addr×Obj)) (s:Shared) (U:St) (H:Hp) (Q:Option Int->Hp->Prop),Inv X pins U H s->t U H Q->
  wpAny (model X.prog X.w) X.A (evalPart e X.env) (fun u s'=>∃ o H',Inv X pins U H' s'/\IsPart u o/\Q o H') X.xe s
def zu:TO:=fun _ H Q=>Q none H
def K1 (t:TE):TO:=fun U H Q=>t U H fun x H1=>∃ i,x= .int i/\Q (some i) H1
theorem intsAre_of {ns:List Int}:∀ {us:List Value},Vals (ns.map V.int) us->IntsAre us ns:=by
 induction ns with
 | nil=>intro us r;rw [List.map_nil] at r;cases r;exact .nil
 | cons n ns ih=>
  intro us r
  rw [ZP] at r
  cases r with
  | cons r1 r2=>
   obtain ⟨t,e⟩:=r1
   subst e
   exact .cons n t (ih r2)
section
variable {X:Cx} {e:Expr} {te:TE} {lo hi:Option Expr} {tl th:TO} {pos p2:Pos}
theorem PX:PO X none zu:=by
 intro pins s U H Q I h
 rw [evalPart_none]
 exact Y0 ⟨none,H,I,.none,h⟩
theorem P0 (h:PE X e te):PO X (some e) (K1 te):=by
 intro pins s U H Q I hw
 rw [evalPart_some]
 refine bV (h pins s U H _ I hw) fun u s1 qq0=>?_
 obtain ⟨x,H1,I1,r1,q1⟩:=qq0
 obtain ⟨i,rfl,q⟩:=q1
 obtain ⟨t,rfl⟩:=r1
 exact ⟨some i,H1,I1,.int i t,q⟩
def SlR (X:Cx) (r:V->Option Int->Option Int->Hp->VK->Prop):Prop:=
 ∀ (pins:List (Addr×Obj)) (s:Shared) (U:St) (H:Hp) (x:V) (v vl vu:Value) (lo hi:Option Int) (sl:Addr) (Q:VK),Inv X pins U H s->RelV x v->s.heap.IsSliceOf sl vl vu .none->IsPart vl lo->IsPart vu hi->r x lo hi H Q->
  ∃ T id,typeLookup (.type T) "__getitem__"=pure (some (.builtin id))/\s.TypeIs v T/\wpAny (model X.prog X.w) X.A (getItem v (.ref sl)) (EP X pins U Q) X.xe s
theorem SlR.or {r r':V->Option Int->Option Int->Hp->VK->Prop} (h:SlR X r) (h':SlR X r'):SlR X (fun x lo hi H Q=>r x lo hi H Q\/r' x lo hi H Q):=by
 intro pins s U H x v vl vu lo hi sl Q I rx hs pl pu q
 rcases q with q | q
 ·exact h pins s U H x v vl vu lo hi sl Q I rx hs pl pu q
 ·exact h' pins s U H x v vl vu lo hi sl Q I rx hs pl pu q
def tSl (r:V->Option Int->Option Int->Hp->VK->Prop) (te:TE) (tl th:TO):TE:=fun U H Q=>te U H fun x H1=>tl U H1 fun l H2=>th U H2 fun u H3=>r x l u H3 Q
theorem K3 {r:V->Option Int->Option Int->Hp->VK->Prop} (hr:SlR X r) (he:PE X e te) (hl:PO X lo tl) (hu:PO X hi th):PE X (.Subscript e (.Slice lo hi none p2) pos) (tSl r te tl th):=by
 intro pins s U H Q I h
 refine Subscript_ (bV (he pins s U H _ I h) fun v s1 qq0=>?_)
 obtain ⟨x,H1,I1,r1,q1⟩:=qq0
 refine wpAny_Slice (bV (hl pins s1 U H1 _ I1 q1) fun vl s2 ⟨l,H2,I2,pl,q2⟩=>bV (hu pins s2 U H2 _ I2 q2) fun vu s3 qq0=>?_)
 obtain ⟨u,H3,I3,pu,q3⟩:=qq0
 rw [evalPart_none]
 refine Y0 ?_
 have I4:Inv X pins U H3 {s3 with heap:=s3.heap.push {cls:=.type "slice",data:=.fields #[vl,vu,.none]}}:=I3.kept (t':=s3.toks) fun b ob q=>YW _ q
 obtain ⟨T,id,hT,ht,hg⟩:=hr pins {s3 with heap:=s3.heap.push {cls:=.type "slice",data:=.fields #[vl,vu,.none]}} U H3 x v vl vu l u s3.heap.objs.size Q I4 r1 (Heap.IsSliceOf.new ..) pl pu q3
 show wpAny (model X.prog X.w) X.A (subscriptTail e (.Slice lo hi none p2) v (.ref s3.heap.objs.size)) (EP X pins U Q) X.xe {s3 with heap:=s3.heap.push {cls:=.type "slice",data:=.fields #[vl,vu,.none]}}
 exact tail_any (ops:=[.ref s3.heap.objs.size,v]) ht hT hg (by with_unfolding_all rfl)
def o6 (xs:List V) (lo hi:Option Int):List V:=(xs.drop (HT.sIx xs.length 0 lo)).take (HT.sIx xs.length xs.length hi - HT.sIx xs.length 0 lo)
theorem uX (xs:List V) (lo hi:Option Int):(o6 xs lo hi).length<=xs.length:=by
 unfold o6
 rw [Aav,AaI]
 omega
def WW (K:W.Frag):V->Option Int->Option Int->Hp->VK->Prop:=fun x lo hi H Q=>∃ a xs,x= .ref a/\SqT K H a xs/\
 ¬ (HT.sIx xs.length 0 lo=0/\HT.sIx xs.length xs.length hi=xs.length)/\∀ p,H p=none->Q (.ref p) (upd H p (.tup (o6 xs lo hi)))
theorem Uk:SlR X (WW X.K):=by
 intro pins s U H x v vl vu lo hi sl Q I rx hs pl pu h
 obtain ⟨a,xs,rfl,hx,hw,q⟩:=h
 cases rx
 obtain ⟨its,r,ht,hz⟩:=I.tuple hx
 have hlen:its.toArray.size=xs.length:=by rw [Zh];exact r.length.symm
 refine ⟨"tuple",_,PyProof.Rows.slot_tuple_getitem.lookup,ht.typeIs,?_⟩
 refine HT.getItem_tuple_cut ht hs pl pu (by rw [hlen];exact hw) ?_ (by rw [hlen];exact hz)
 rw [hlen]
 refine ⟨.ref s.heap.objs.size,_,I.laid (t':=s.toks) (o:=.tup (o6 xs lo hi)) (fun b ob q=>YW _ q) (YZ _) ?_,rfl,q _ (I.hok.fresh (YZ _))⟩
 exact ⟨Zo (uX xs lo hi) hz,_,(r.drop (HT.sIx xs.length 0 lo)).take (HT.sIx xs.length xs.length hi - HT.sIx xs.length 0 lo),IsTup.new _ _⟩
end
def J8 (n:Nat) (i:Int):Option Nat:=if 0<=i then (if i < n then some i.toNat else none) else if -(n:Int)<=i then some (i+n).toNat else none
def xF {α:Type} (xs:List α) (i:Int):Option α:=(J8 xs.length i).bind fun j=>xs[j]?
theorem Gf {n:Nat} {i:Int} {j:Nat} (h:J8 n i=some j):seqIndex? i n=some j/\j < n/\-(n:Int)<=i/\i < n:=by
 unfold J8 at h
 by_cases h0:0<=i
 ·rw [if_pos h0] at h
  by_cases h1:i < n
  ·rw [if_pos h1] at h
   have e:i.toNat=j:=Zv h
   exact ⟨by rw [seqIndex_of h0 h1,e],by omega,by omega,h1⟩
  ·rw [if_neg h1] at h;cases h
 ·rw [if_neg h0] at h
  by_cases h1: -(n:Int)<=i
  ·rw [if_pos h1] at h
   have e:(i+n).toNat=j:=Zv h
   exact ⟨by rw [seqIndex_neg (by omega) h1,e],by omega,h1,by omega⟩
  ·rw [if_neg h1] at h;cases h
theorem zx {α:Type} {xs:List α} {i:Int} {v:α} (h:xF xs i=some v):∃ j,seqIndex? i xs.length=some j/\xs[j]?=some v/\j < xs.length/\-(xs.length:Int)<=i/\i < xs.length:=by
 unfold xF at h
 cases e:J8 xs.length i with
 | none=>rw [e] at h;cases h
 | some j=>
  rw [e] at h
  obtain ⟨h1,h2,h3,h4⟩:=Gf e
  exact ⟨j,h1,h,h2,h3,h4⟩
theorem jg {α:Type} {xs:List α} {j:Nat} {v:α} (h:xs[j]?=some v):xF xs (j:Int)=some v:=by
 have hj:j < xs.length:=(Y4.mp h).1
 have e:J8 xs.length (j:Int)=some j:=by
  unfold J8
  rw [if_pos (by omega),if_pos (by omega)];simp
 unfold xF;rw [e];exact h
def Gg (b:Expr):Prop:=∀ o i,subscripted b false o i=operate [o,i] (getItem o i)
def IxR (X:Cx) (r:R2):Prop:=
 ∀ (value slice:Expr) (pins:List (Addr×Obj)) (s:Shared) (U:St) (H:Hp) (x y:V) (v u:Value) (Q:VK),Inv X pins U H s->RelV x v->RelV y u->r x y H Q->
  subscripted slice false v u=operate [v,u] (getItem v u)->wpAny (model X.prog X.w) X.A (subscriptTail value slice v u) (EP X pins U Q) X.xe s
def WX (X:Cx) (id:String) (r:V->List V->Hp->VK->Prop):Prop:=
 ∀ (pins:List (Addr×Obj)) (s:Shared) (U:St) (H:Hp) (x:V) (xs:List V) (v:Value) (us:List Value) (Q:VK),Inv X pins U H s->RelV x v->Vals xs us->r x xs H Q->
  wpAny (model X.prog X.w) X.A (call (.builtin id) (v :: us)) (EP X pins U Q) X.xe s
section
variable {X:Cx} {a b:Expr} {ta tb:TE} {pos:Pos}
theorem IxR.or {r r':R2} (h:IxR X r) (h':IxR X r'):IxR X (fun x y H Q=>r x y H Q\/r' x y H Q):=by
 intro value slice pins s U H x y v u Q I rx ry q hs
 rcases q with q | q
 ·exact h value slice pins s U H x y v u Q I rx ry q hs
 ·exact h' value slice pins s U H x y v u Q I rx ry q hs
theorem WY {r:R2} (hr:IxR X r) (ha:PE X a ta) (hb:PE X b tb) (hs:Gg b):PE X (.Subscript a b pos) (Ky r ta tb):=by
 intro pins s U H Q I h
 exact Subscript_ (T4 ha hb I h fun v u s2 x y H2 I2 rx ry q=>hr a b pins s2 U H2 x y v u Q I2 rx ry q (hs _ _))
def W0 (K:W.Frag):R2:=fun x y H Q=>∃ p xs i v,x= .ref p/\y= .int i/\SqL K H p xs/\xF xs i=some v/\Q v H
def W2 (K:W.Frag):R2:=fun x y H Q=>∃ p xs i v,x= .ref p/\y= .int i/\SqT K H p xs/\xF xs i=some v/\Q v H
def W4:R2:=fun x y H Q=>∃ z i c,x= .str z/\y= .int i/\z.length<=sizeLine/\xF z.cps.toList i=some c/\Q (.str ⟨#[c]⟩) H
theorem Qa:IxR X (W0 X.K):=by
 intro value slice pins s U H x y v u Q I rx ry h hs
 obtain ⟨p,xs,i,z,rfl,rfl,hq,he,q⟩:=h
 cases rx
 obtain ⟨t,rfl⟩:=ry
 obtain ⟨its,r,pl,hz⟩:=I.list hq
 obtain ⟨j,h1,h2,h3,h4,h5⟩:=zx he
 obtain ⟨w,ew,rw'⟩:=r.get h2
 have hl:=r.length
 have hn:=v9
 have fin:EP X pins U Q w s:=⟨z,H,I,rw',q⟩
 by_cases h0:0<=i
 ·have hj:i.toNat=j:=by
   rw [seqIndex_of h0 h5] at h1
   exact Zv h1
  exact item_listR pl.isList h0 (by omega) (by rw [hj];simpa using ew) fin hs
 ·have hj:(i+(its.toArray.size:Int)).toNat=j:=by
   rw [seqIndex_neg (by omega) h4] at h1
   rw [Zh,← hl]
   exact Zv h1
  exact subscriptTail_builtinR (x:=w) pl.isList.typeIs slot_list_getitem.lookup
   (wpAny_getItem_list_neg (Q:=fun r s'=>r=w/\EP X pins U Q r s') pl.isList (by omega) (by rw [Zh] <;> omega) (by omega) (by rw [hj];simpa using ew) ⟨rfl,fin⟩) hs
theorem Ul:IxR X (W2 X.K):=by
 intro value slice pins s U H x y v u Q I rx ry h hs
 obtain ⟨p,xs,i,z,rfl,rfl,hq,he,q⟩:=h
 cases rx
 obtain ⟨t,rfl⟩:=ry
 obtain ⟨its,r,pl,hz⟩:=I.tuple hq
 obtain ⟨j,h1,h2,h3,h4,h5⟩:=zx he
 obtain ⟨w,ew,rw'⟩:=r.get h2
 have hl:=r.length
 have hn:=v9
 have fin:EP X pins U Q w s:=⟨z,H,I,rw',q⟩
 exact subscriptTail_builtinR (x:=w) pl.typeIs slot_tuple_getitem.lookup
  (getItem_tuple (j:=j) (Q:=fun r s'=>r=w/\EP X pins U Q r s') pl (by omega) (by omega) (by rw [Zh,← hl];exact h1) (by simpa using ew) ⟨rfl,fin⟩) hs
theorem Um:IxR X W4:=by
 intro value slice pins s U H x y v u Q I rx ry h hs
 obtain ⟨z,i,c,rfl,rfl,hz,he,q⟩:=h
 obtain ⟨t,rfl⟩:=rx
 obtain ⟨t',rfl⟩:=ry
 obtain ⟨j,h1,h2,h3,h4,h5⟩:=zx he
 have hl:z.cps.toList.length=z.length:=by simp [Str.length]
 rw [hl] at h1 h4 h5
 have hn:=v9
 exact tail_any (typeIs_str s z t) slot_str_getitem.lookup (getItem_str (c:=c) (by
  have e1:decide (i < -(2 ^ 63:Int))=false:=Zc (by omega)
  have e2:decide (i>=2 ^ 63)=false:=Zc (by omega)
  rw [e1,e2,Bool.or_false]) (by rw [h1];simpa using h2) ⟨.str ⟨#[c]⟩,H,I.tok _,⟨_,rfl⟩,q⟩) hs
def RV (K:W.Frag):R2:=fun x y H Q=>W0 K x y H Q\/W2 K x y H Q\/W4 x y H Q
theorem Uo:IxR X (RV X.K):=Qa.or (Ul.or Um)
theorem Ed (its:List Value) (n j:Nat) (u:Value):Obj.mapSeq (·.setIfInBounds j u) {cls:=.type "list",data:=.seq its.toArray n}={cls:=.type "list",data:=.seq (its.set j u).toArray n}:=by
 simp [Obj.mapSeq]
theorem Inv.lst {pins:List (Addr×Obj)} {U:St} {H:Hp} {s:Shared} {p:Addr} {xs:List V} (I:Inv X pins U H s) (h:H p=some (.lst xs)):
  ∃ (its:List Value) (n:Nat),Vals xs its/\s.heap.get? p=some {cls:=.type "list",data:=.seq its.toArray n}/\xs.length<=sizeLine:=by
 obtain ⟨z,its,n,r,e⟩:=I.hok p _ h
 exact ⟨its,n,r,e,z⟩
theorem Inv.lstUpd {pins:List (Addr×Obj)} {U:St} {H:Hp} {s:Shared} {p:Addr} {xs ys:List V} {its its':List Value} {n n':Nat} {f:Obj->Obj} (I:Inv X pins U H s) (h:H p=some (.lst xs))
  (ho:s.heap.get? p=some {cls:=.type "list",data:=.seq its.toArray n}) (hf:f {cls:=.type "list",data:=.seq its.toArray n}={cls:=.type "list",data:=.seq its'.toArray n'}) (r:Vals ys its') (hz:ys.length<=sizeLine) (t:Nat):
  Inv X pins U (upd H p (.lst ys)) {s with heap:=s.heap.update p f,toks:=t}:=by
 have e:(s.heap.update p f).get? p=some {cls:=.type "list",data:=.seq its'.toArray n'}:=by
  rw [ZR f ho (by rw [hf] <;> rfl),hf]
 refine I.write (x:=p) (e:=p) (by rw [h];trivial) (.inl rfl) (fun b u hb q=>(Zw _ _ (Ne.symm hb)).trans q) ⟨_,e⟩ ?_
 exact ⟨hz,its',n',r,e⟩
def K4:V->V->V->Hp->(Hp->Prop)->Prop:=fun o i v H Q=>∃ p xs k j,o= .ref p/\i= .int k/\H p=some (.lst xs)/\J8 xs.length k=some j/\Q (upd H p (.lst (xs.set j v)))
theorem set_list:Ph X K4:=by
 intro pins s U H o i v ov iv u Q I ro ri rv h
 obtain ⟨p,xs,k,j,rfl,rfl,hp,hj,q⟩:=h
 cases ro
 obtain ⟨t,rfl⟩:=ri
 obtain ⟨its,n,r,ho,hz⟩:=I.lst hp
 obtain ⟨h1,h2,h3,h4⟩:=Gf hj
 have hl:=r.length
 have hn:=v9
 have I':Inv X pins U (upd H p (.lst (xs.set j v))) {s with heap:=s.heap.update p (Obj.mapSeq (·.setIfInBounds j u))}:=
  I.lstUpd hp ho (Ed its n j u) (r.set rv j) (by rw [List.length_set];exact hz) s.toks
 by_cases h0:0<=k
 ·have hk:k.toNat=j:=by
   rw [seqIndex_of h0 h4] at h1
   exact Zv h1
  exact PySem.W.ki_setAt ho h0 (by omega) (by rw [Zh,← hl];exact h4) (by rw [hk];exact ⟨_,I',q⟩)
 ·have hk:(k+(its.toArray.size:Int)).toNat=j:=by
   rw [seqIndex_neg (by omega) h3] at h1
   rw [Zh,← hl]
   exact Zv h1
  exact PySem.W.ki_setBack ho (by omega) (by rw [Zh,← hl];exact h3) (by omega) (by rw [hk];exact ⟨_,I',q⟩)
theorem zy (lo hi:Option Int) (n:Nat):(sliceBounds lo hi none n).1=((HT.sIx n 0 lo:Nat):Int)/\(sliceBounds lo hi none n).2.1=((HT.sIx n n hi:Nat):Int)/\(sliceBounds lo hi none n).2.2=1:=by
 refine ⟨?_,?_,rfl⟩
 ·cases lo with
  | none=>simp [sliceBounds,HT.sIx]
  | some i=>
   simp only [sliceBounds,HT.sIx,Option.getD_none,show (1:Int) > 0 by decide,if_true]
   by_cases h:i < 0
   ·simp only [h,if_true] <;> omega
   ·simp only [h,if_false] <;> omega
 ·cases hi with
  | none=>simp [sliceBounds,HT.sIx]
  | some i=>
   simp only [sliceBounds,HT.sIx,Option.getD_none,show (1:Int) > 0 by decide,if_true]
   by_cases h:i < 0
   ·simp only [h,if_true] <;> omega
   ·simp only [h,if_false] <;> omega
theorem xG (its:List Value) (lo hi:Option Int):slicePick its.toArray lo hi none=((its.drop (HT.sIx its.length 0 lo)).take (HT.sIx its.length its.length hi - HT.sIx its.length 0 lo)).toArray:=by
 obtain ⟨h1,h2,h3⟩:=zy lo hi its.toArray.size
 unfold slicePick
 rw [h1,h2,h3]
 simp only [sliceRange_one,pick_run,Zh] <;> rfl
def W5 (K:W.Frag):V->Option Int->Option Int->Hp->VK->Prop:=fun x lo hi H Q=>∃ a xs,x= .ref a/\SqL K H a xs/\∀ p,H p=none->Q (.ref p) (upd H p (.lst (o6 xs lo hi)))
theorem Qc:SlR X (W5 X.K):=by
 intro pins s U H x v vl vu lo hi sl Q I rx hs pl pu h
 obtain ⟨a,xs,rfl,hx,q⟩:=h
 cases rx
 obtain ⟨its,r,ht,hz⟩:=I.list hx
 have hlen:=r.length
 refine ⟨"list",_,slot_list_getitem.lookup,ht.isList.typeIs,?_⟩
 refine wpAny_getItem_list_slice ht.isList hs pl pu .none (by simp) ?_ (by rw [Zh] <;> omega)
 rw [xG,← hlen]
 refine ⟨.ref s.heap.objs.size,_,I.laid (t':=s.toks) (o:=.lst (o6 xs lo hi)) (fun b ob q=>YW _ q) (YZ _) ?_,rfl,q _ (I.hok.fresh (YZ _))⟩
 exact ⟨Zo (uX xs lo hi) hz,_,0,(r.drop (HT.sIx xs.length 0 lo)).take (HT.sIx xs.length xs.length hi - HT.sIx xs.length 0 lo),Y9 _ rfl⟩
def lK:V->Bool
 | .non=>true
 | .bl _=>true
 | .int _=>true
 | .str _=>true
 | _=>false
def Gh:V->V->Bool
 | .non,.non=>true
 | .bl a,.bl b=>a == b
 | .bl a,.int b=>(if a then 1 else 0) == b
 | .int a,.bl b=>a == (if b then 1 else 0)
 | .int a,.int b=>a == b
 | .str a,.str b=>a == b
 | _,_=>false
theorem zA {A:Around} {s:Shared} {y x:V} {u v:Value} (ry:RelV y u) (rx:RelV x v) (fy:lK y=true) (fx:lK x=true):SeqAt.EqAt A s u v (Gh y x):=by
 cases y with
 | non=>
  cases ry
  cases x with
  | non=>cases rx;exact SeqAt.EqAt.same _
  | bl b=>cases rx;exact SeqAt.EqAt.none_bool b
  | int b=>obtain ⟨t,rfl⟩:=rx;exact SeqAt.EqAt.none_int b t
  | str b=>obtain ⟨t,rfl⟩:=rx;exact SeqAt.EqAt.none_str b t
  | _=>exact absurd (show false=true from fx) Y5
 | bl a=>
  cases ry
  cases x with
  | non=>cases rx;exact SeqAt.EqAt.bool_none a
  | bl b=>cases rx;exact SeqAt.EqAt.bool_bool a b
  | int b=>obtain ⟨t,rfl⟩:=rx;exact SeqAt.EqAt.bool_int a b t
  | str b=>obtain ⟨t,rfl⟩:=rx;exact SeqAt.EqAt.bool_str a b t
  | _=>exact absurd (show false=true from fx) Y5
 | int a=>
  obtain ⟨t',rfl⟩:=ry
  cases x with
  | non=>cases rx;exact SeqAt.EqAt.int_none a t'
  | bl b=>cases rx;exact SeqAt.EqAt.int_bool a t' b
  | int b=>obtain ⟨t,rfl⟩:=rx;exact SeqAt.EqAt.int_int a t' b t
  | str b=>obtain ⟨t,rfl⟩:=rx;exact SeqAt.EqAt.int_str a t' b t
  | _=>exact absurd (show false=true from fx) Y5
 | str a=>
  obtain ⟨t',rfl⟩:=ry
  cases x with
  | non=>cases rx;exact SeqAt.EqAt.str_none a t'
  | bl b=>cases rx;exact SeqAt.EqAt.str_bool a t' b
  | int b=>obtain ⟨t,rfl⟩:=rx;exact SeqAt.EqAt.str_int a t' b t
  | str b=>obtain ⟨t,rfl⟩:=rx;exact SeqAt.EqAt.str_str a t' b t
  | _=>exact absurd (show false=true from fx) Y5
 | _=>exact absurd (show false=true from fy) Y5
def Ef (x:V) (u:Value):Bool:=match u with
 | .none=>Gh .non x
 | .bool b=>Gh (.bl b) x
 | .int i _=>Gh (.int i) x
 | .str z _=>Gh (.str z) x
 | _=>false
theorem K5 {x y:V} {u:Value} (r:RelV y u) (f:lK y=true):Ef x u=Gh y x:=by
 cases y with
 | non=>cases r;rfl
 | bl b=>cases r;rfl
 | int i=>obtain ⟨t,rfl⟩:=r;rfl
 | str z=>obtain ⟨t,rfl⟩:=r;rfl
 | _=>exact absurd (show false=true from f) Y5
theorem sX {x:V}:∀ {xs:List V} {us:List Value},Vals xs us->xs.all lK=true->us.any (Ef x)=xs.any fun y=>Gh y x
 | _,_,.nil,_=>rfl
 | y :: xs,u :: us,.cons r t,f=>by
  rw [ZG,Ze] at f
  rw [List.any_cons,List.any_cons,K5 r f.1,sX t f.2]
theorem o7 {A:Around} {s:Shared} {x:V} {v:Value} (rx:RelV x v) (fx:lK x=true):∀ {xs:List V} {us:List Value},Vals xs us->xs.all lK=true->∀ u∈us,SeqAt.EqAt A s u v (Ef x u)
 | _,_,.nil,_=>fun u hu=>by cases hu
 | y :: xs,u :: us,.cons r t,f=>fun u' hu=>by
  rw [ZG,Ze] at f
  rcases Za.mp hu with rfl | hu
  ·rw [K5 r f.1];exact zA r rx f.1 fx
  ·exact o7 rx fx t f.2 u' hu
def inV (x:V) (xs:List V):Bool:=xs.any fun y=>Gh y x
def YD (K:W.Frag) (neg:Bool):R2:=fun x y H Q=>∃ p xs,y= .ref p/\(SqL K H p xs\/SqT K H p xs)/\lK x=true/\xs.all lK=true/\Q (.bl (if neg then !inV x xs else inV x xs)) H
theorem Im:OpR X (compareOp .In) (YD X.K false):=by
 intro pins s U H x y v u Q I rx ry h
 obtain ⟨p,xs,rfl,hq,fx,fs,q⟩:=h
 cases ry
 rcases hq with hq | hq
 ·obtain ⟨its,r,pl,hz⟩:=I.list hq
  refine SeqAt.in_listAt (Ef x) pl.isList (fun w hw=>o7 rx fx r fs w (by simpa using hw)) ⟨.bl _,H,I,rfl,?_⟩
  rw [show its.toArray.any (Ef x)=its.any (Ef x) by simp,sX r fs]
  exact q
 ·obtain ⟨its,r,pl,hz⟩:=I.tuple hq
  refine SeqAt.in_tupleAt (Ef x) pl (fun w hw=>o7 rx fx r fs w (by simpa using hw)) ⟨.bl _,H,I,rfl,?_⟩
  rw [show its.toArray.any (Ef x)=its.any (Ef x) by simp,sX r fs]
  exact q
theorem zB:OpR X (compareOp .NotIn) (YD X.K true):=by
 intro pins s U H x y v u Q I rx ry h
 obtain ⟨p,xs,rfl,hq,fx,fs,q⟩:=h
 cases ry
 rcases hq with hq | hq
 ·obtain ⟨its,r,pl,hz⟩:=I.list hq
  refine SeqAt.notIn_listAt (Ef x) pl.isList (fun w hw=>o7 rx fx r fs w (by simpa using hw)) ⟨.bl _,H,I,rfl,?_⟩
  rw [show its.toArray.any (Ef x)=its.any (Ef x) by simp,sX r fs]
  exact q
 ·obtain ⟨its,r,pl,hz⟩:=I.tuple hq
  refine SeqAt.notIn_tupleAt (Ef x) pl (fun w hw=>o7 rx fx r fs w (by simpa using hw)) ⟨.bl _,H,I,rfl,?_⟩
  rw [show its.toArray.any (Ef x)=its.any (Ef x) by simp,sX r fs]
  exact q
theorem zE:OpR X (compareOp .NotIn) (fun x y H Q=>∃ i j,x= .str i/\y= .str j/\Q (.bl (!(!(Builtin.Str.occurrences j i 0 j.length 1).isEmpty))) H):=by
 intro pins s U H x y v u Q I rx ry h
 obtain ⟨i,j,rfl,rfl,q⟩:=h
 obtain ⟨t,rfl⟩:=rx
 obtain ⟨t',rfl⟩:=ry
 exact notIn_str ⟨.bl _,H,I,rfl,q⟩
theorem CallR.or {f:Value} {r r':List V->Hp->VK->Prop} (h:CallR X f r) (h':CallR X f r'):CallR X f (fun xs H Q=>r xs H Q\/r' xs H Q):=by
 intro pins s U H xs us Q I rs q
 rcases q with q | q
 ·exact h pins s U H xs us Q I rs q
 ·exact h' pins s U H xs us Q I rs q
theorem zF:CallR X (.type "list") (fun xs H Q=>∃ p ys,xs=[.ref p]/\(SqL X.K H p ys\/SqT X.K H p ys)/\∀ l,H l=none->Q (.ref l) (upd H l (.lst ys))):=by
 intro pins s U H xs us Q I r h
 obtain ⟨p,ys,rfl,hq,q⟩:=h
 obtain ⟨u,rfl,rx⟩:=vals1 r
 cases rx
 have fin:∀ (its:List Value),Vals ys its->ys.length<=sizeLine->∀ (h':Heap) (c':Nat),(∀ b o',s.heap.get? b=some o'->h'.get? b=some o')->
   h'.get? s.heap.objs.size=some {cls:=.type "list",dict:=none,data:=.seq its.toArray c',slots:=#[]}->EP X pins U Q (.ref s.heap.objs.size) {s with heap:=h'}:=fun its r' hz h' c' kp e=>
  ⟨.ref s.heap.objs.size,_,I.laid (t':=s.toks) kp (YZ _) (show ObjOk X.prog X.w _ h' _ (.lst ys) from ⟨hz,its,c',r',e⟩),rfl,q _ (I.hok.fresh (YZ _))⟩
 rcases hq with hq | hq
 ·obtain ⟨its,r',pl,hz⟩:=I.list hq
  have hlen:=r'.length
  obtain ⟨o,ho,hc,n,hd⟩:=pl.isList
  exact call_list_seq p (.inl rfl) ho hc hd (fun h' c' kp e=>fin its r' hz h' c' kp e) (by simp only [Zh] <;> omega)
 ·obtain ⟨its,r',pl,hz⟩:=I.tuple hq
  have hlen:=r'.length
  obtain ⟨o,ho,hc,n,hd⟩:=pl
  exact call_list_seq p (.inr rfl) ho hc hd (fun h' c' kp e=>fin its r' hz h' c' kp e) (by simp only [Zh] <;> omega)
def tyV (K:W.Frag) (T:String) (x:V) (H:Hp):Prop:=match x with
 | .str _=>T="str"
 | .int _=>T="int"
 | .ref p=>(T="list"/\∃ xs,SqL K H p xs)\/(T="tuple"/\∃ o,K.lookup p=some o/\o.cls= .type "tuple"/\o.dict=none)\/
   (T="dict"/\((∃ kvs,H p=some (.dK kvs))\/∃ kvs,H p=some (.dT kvs)))\/(T="set"/\∃ S n,H p=some (.set S n))
 | _=>False
theorem Up {pins:List (Addr×Obj)} {U:St} {H:Hp} {s:Shared} {T:String} {x:V} {v:Value} (I:Inv X pins U H s) (r:RelV x v) (ty:tyV X.K T x H):
  s.TypeIs v T/\∀ a,v= .ref a->∃ ob,s.heap.get? a=some ob/\ob.dict=none:=by
 cases x with
 | str z=>
  obtain ⟨t,rfl⟩:=r
  cases (show T="str" from ty)
  exact ⟨typeIs_str s z t,fun _ e=>nomatch e⟩
 | int i=>
  obtain ⟨t,rfl⟩:=r
  cases (show T="int" from ty)
  exact ⟨typeIs_int s i t,fun _ e=>nomatch e⟩
 | ref p=>
  cases r
  rcases ty with ⟨rfl,xs,hq⟩ | ⟨rfl,o,hk,hc,hd⟩ | ⟨rfl,hk⟩ | ⟨rfl,S,n,hk⟩
  ·obtain ⟨its,_,pl,_⟩:=I.list hq
   refine ⟨pl.isList.typeIs,fun a e=>?_⟩
   cases e
   obtain ⟨o,n,e,c,hd,_⟩:=pl
   exact ⟨o,e,hd⟩
  ·refine ⟨⟨o,I.kIn p o hk,hc⟩,fun a e=>?_⟩
   cases e
   exact ⟨o,I.kIn _ o hk,hd⟩
  ·have z:∃ o,s.heap.get? p=some o/\o.ExactDict:=by
    rcases hk with ⟨kvs,hk⟩ | ⟨kvs,hk⟩
    ·obtain ⟨_,_,_,_,o,_,_,e,ex,_⟩:=I.hok p _ hk
     exact ⟨o,e,ex⟩
    ·obtain ⟨_,_,_,_,o,_,_,e,ex,_⟩:=I.hok p _ hk
     exact ⟨o,e,ex⟩
   obtain ⟨o,e,ex⟩:=z
   refine ⟨⟨o,e,ex.1⟩,fun a e2=>?_⟩
   cases e2
   exact ⟨o,e,ex.2.1⟩
  ·obtain ⟨o,_,_,_,e,ex,_⟩:=I.hok p _ hk
   refine ⟨⟨o,e,ex.1⟩,fun a e2=>?_⟩
   cases e2
   exact ⟨o,e,ex.2.1⟩
 | _=>exact False.elim ty
def W6 (K:W.Frag) (T:String) (r:V->List V->Hp->VK->Prop) (to:TE) (t:TA):TE:=fun U H Q=>to U H fun x H1=>tyV K T x H1/\t U H1 fun xs H2=>r x xs H2 Q
variable {o e:Expr} {es:List Expr} {to:TE} {t:TA} {name:Str} {apos cpos:Pos} {T id:String} {r:V->List V->Hp->VK->Prop}
theorem W7 (pa:PlainAttrs T) (slot:Slot T name id) (hty:typeOf (.builtin id)=pure (.type "method_descriptor")) (hm:WX X id r) (ho:PE X o to) (ha:PA X (e :: es) t)
  (hbase:autoParam (attributeBase o name X.env (eval o X.env)=eval o X.env) L2.auto4._auto_1)
  (hfew:((backTo cpos (starEach (e :: es) X.env)).all (fun x=>!x.1) && (backToKw cpos (keywordEach [] X.env)).all (fun x=>x.1.isSome)
   && decide ((e :: es).length+([]:List Keyword).length+(if ([]:List Keyword).isEmpty then 0 else 1) < 30))=true:=by rfl)
  (hline:autoParam ((apos.endLine == cpos.line)=true) L2.auto4._auto_1) (hs:autoParam (starEach (e :: es) X.env=(false,eval e X.env) :: starEach es X.env) L2.auto4._auto_1) (hplain:autoParam ((backTo cpos (starEach es X.env)).any (·.1)=false) L2.auto4._auto_1):
  PE X (.Call (.Attribute o name apos) (e :: es) [] cpos) (W6 X.K T r to t):=by
 intro pins s U H Q I h
 refine wpAny_Call_method_late hbase hfew hline rfl (bV (ho pins s U H _ I h) fun v s1 qq0=>?_)
 obtain ⟨x,H1,I1,r1,ty,q1⟩:=qq0
 obtain ⟨h1,h2⟩:=Up I1 r1 ty
 refine ⟨T,id,pa,slot,hty,h1,h2,?_⟩
 have hA:=ha cpos pins s1 U H1 _ I1 q1
 rw [hs] at hA ⊢
 refine Calls.callWith_builtin (by show (false || (backTo cpos (starEach es X.env)).any (·.1))=false;rw [hplain] <;> rfl) (Calls.evalArgs_plain ?_)
 exact bV hA fun us s2 ⟨vs,H2,I2,r2,q2⟩=>hm pins s2 U H2 x vs v us Q I2 r1 r2 q2
end
def MtM (X:Cx) (id:String) (r:V->List V->Hp->VK->Prop):Prop:=
 ∀ (pins:List (Addr×Obj)) (s:Shared) (U:St) (H:Hp) (x:V) (xs:List V) (v:Value) (us:List Value) (Q:VK),Inv X pins U H s->RelV x v->Vals xs us->r x xs H Q->
  wpAny (model X.prog X.w) X.A (call (.builtin id) (v :: us)) (EP X pins U Q) X.xe s
theorem Vals.one:∀ {x:V} {us:List Value},Vals [x] us->∃ u,us=[u]/\RelV x u
 | _,_,.cons r .nil=>⟨_,rfl,r⟩
theorem Vals.reverse {xs:List V} {us:List Value} (h:Vals xs us):Vals xs.reverse us.reverse:=by
 induction h with
 | nil=>exact .nil
 | cons r t ih=>rw [List.reverse_cons,List.reverse_cons];exact Vals.append ih (.cons r .nil)
theorem Vals.rep {xs:List V} {us:List Value} (h:Vals xs us):∀ k:Nat,Vals (List.replicate k xs).flatten (List.replicate k us).flatten
 | 0=>.nil
 | k+1=>by
  rw [Z7,Z7,AaD,AaD]
  exact Vals.append h (Vals.rep h k)
theorem foldl_rep (its:List Value):∀ (k:Nat) (acc:List Value),
  List.foldl (fun x1 x2=>x1 ++ x2) acc.toArray (List.replicate k its.toArray)=(acc ++ (List.replicate k its).flatten).toArray
 | 0,acc=>by simp
 | k+1,acc=>by
  have e:acc.toArray ++ its.toArray=(acc ++ its).toArray:=by simp
  have e2:(acc ++ its) ++ (List.replicate k its).flatten=acc ++ (List.replicate (k+1) its).flatten:=by
   rw [Z7,AaD,AaT]
  rw [← e2,← foldl_rep its k (acc ++ its),← e,Z7,List.foldl_cons]
section
variable {X:Cx} {pins:List (Addr×Obj)} {U:St} {H:Hp} {s:Shared} {l b:Addr} {xs ys zs:List V}
theorem Inv.lset {its its':List Value} {n:Nat} {f:Array Value->Array Value} {t':Nat} (I:Inv X pins U H s) (hH:H l=some (.lst xs))
  (e:s.heap.get? l=some {cls:=.type "list",data:=.seq its.toArray n}) (hf:f its.toArray=its'.toArray) (hv:Vals ys its') (hz:ys.length<=sizeLine):
  Inv X pins U (upd H l (.lst ys)) {s with heap:=s.heap.update l (Obj.mapSeq f),toks:=t'}:=by
 have q:=PySem.IsL.update e f
 rw [hf] at q
 refine I.write (x:=l) (e:=l) (by rw [hH];exact trivial) (.inl rfl) (fun b' u hb hu=>(Zw s.heap (Obj.mapSeq f) (Ne.symm hb)).trans hu) ⟨_,q⟩ ?_
 exact ⟨hz,its',_,hv,q⟩
theorem Inv.lnew {its:List Value} {t':Nat} (I:Inv X pins U H s) (hv:Vals ys its) (hz:ys.length<=sizeLine):
  Inv X pins U (upd H s.heap.objs.size (.lst ys)) {s with heap:=s.heap.push {cls:=.type "list",data:=.seq its.toArray},toks:=t'}:=
 I.laid (fun _ _ q=>YW _ q) (YZ _) ⟨hz,its,0,hv,Y9 _ rfl⟩
theorem Inv.fresh (I:Inv X pins U H s):H s.heap.objs.size=none:=I.hok.fresh (YZ _)
theorem Inv.lstM (I:Inv X pins U H s) (hH:H l=some (.lst xs)):xs.length<=sizeLine/\∃ (its:List Value) (n:Nat),Vals xs its/\xs.length=its.length/\s.heap.get? l=some {cls:=.type "list",data:=.seq its.toArray n}:=by
 obtain ⟨z,its,n,r,e⟩:=I.hok l _ hH
 exact ⟨z,its,n,r,r.length,e⟩
theorem K6 {n:Nat} (h:n<=sizeLine):Builtin.List.listTooLong n=false:=by
 unfold Builtin.List.listTooLong
 exact Zc (by omega)
end
section
variable {X:Cx}
def Gi:V->List V->Hp->VK->Prop:=fun x vs H Q=>∃ l xs y,x= .ref l/\vs=[y]/\H l=some (.lst xs)/\xs.length < sizeLine/\Q .non (upd H l (.lst (xs ++ [y])))
theorem j8:MtM X "list.append" Gi:=by
 intro pins s U H x vs v us Q I rx rv h
 obtain ⟨l,xs,y,rfl,rfl,hH,hz,q⟩:=h
 cases rx
 obtain ⟨u,rfl,ru⟩:=rv.one
 obtain ⟨z,its,n,r,hl,e⟩:=I.lstM hH
 refine call_meets F.slot_list_append ⟨_,e,rfl⟩ F.entry_list_append (F.args_list_append_2 _ _) (PySem.list_append l its.toArray n u (by rw [Zh];omega)) ⟨e,?_⟩
 refine ⟨.non,_,I.lset (its':=its ++ [u]) hH e (by simp) (r.append (.cons ru .nil)) ?_,rfl,q⟩
 rw [Z3,List.length_singleton]
 omega
def W9:R2:=fun x y H Q=>∃ l b xs zs,x= .ref l/\y= .ref b/\H l=some (.lst xs)/\H b=some (.lst zs)/\xs.length+zs.length<=sizeLine/\∀ p,H p=none->Q (.ref p) (upd H p (.lst (xs ++ zs)))
theorem Uq:OpR X (binaryOp .Add) W9:=by
 intro pins s U H x y v u Q I rx ry h
 obtain ⟨l,b,xs,zs,rfl,rfl,hH,hB,hz,q⟩:=h
 cases rx
 cases ry
 obtain ⟨z,its,n,r,hl,e⟩:=I.lstM hH
 obtain ⟨z2,its2,n2,r2,hl2,e2⟩:=I.lstM hB
 refine PySem.P.add_list e e2 ?_ (by rw [Zh,Zh];omega)
 have ea:its.toArray ++ its2.toArray=(its ++ its2).toArray:=by simp
 rw [ea]
 exact ⟨.ref _,_,I.lnew (t':=s.toks) (r.append r2) (by rw [Z3];omega),rfl,q _ I.fresh⟩
def Xa:R2:=fun x y H Q=>∃ l k xs,x= .ref l/\y= .int k/\H l=some (.lst xs)/\-(2 ^ 63)<=k/\k < 2 ^ 63/\xs.length*k.toNat<=sizeLine/\
 ∀ p,H p=none->Q (.ref p) (upd H p (.lst (List.replicate k.toNat xs).flatten))
theorem len_rep {α:Type} (xs:List α) (k:Nat):(List.replicate k xs).flatten.length=k*xs.length:=by
 induction k with
 | zero=>simp
 | succ k ih=>rw [Z7,AaD,Z3,ih,Nat.succ_mul,Nat.add_comm]
theorem Ur:OpR X (binaryOp .Mult) Xa:=by
 intro pins s U H x y v u Q I rx ry h
 obtain ⟨l,k,xs,rfl,rfl,hH,h1,h2,hz,q⟩:=h
 cases rx
 obtain ⟨t,rfl⟩:=ry
 obtain ⟨z,its,n,r,hl,e⟩:=I.lstM hH
 have hlen:its.toArray.size*k.toNat<=sizeLine:=by rw [Zh,← hl];exact hz
 have hcap:¬ its.toArray.size*k.toNat > (2 ^ 63 - 1) / 8:=by
  have:(sizeLine:Nat)<=(2 ^ 63 - 1) / 8:=by decide
  omega
 have hfit:¬ (!Builtin.List.listFitsIndex k)=true:=by
  rw [fitsIndex_both h1 h2]
  exact Y5
 have hlong:¬ Builtin.List.listTooLong (its.toArray.size*k.toNat)=true:=by
  rw [K6 hlen]
  exact Y5
 have hnew:List.foldl (fun x1 x2=>x1 ++ x2) #[] (List.replicate (if its.toArray.isEmpty=true then 0 else k.toNat) its.toArray)=(List.replicate k.toNat its).flatten.toArray:=by
  have f0:∀ m:Nat,List.foldl (fun x1 x2=>x1 ++ x2) #[] (List.replicate m its.toArray)=(List.replicate m its).flatten.toArray:=fun m=>by
   have:=foldl_rep its m []
   rw [List.nil_append] at this
   exact this
  rw [f0]
  cases its with
  | nil=>simp
  | cons a r'=>rw [if_neg (by simp)]
 refine wpAny_binaryOp_repeat_ref (T:="list") (U:="int") (by decide) ⟨_,e,rfl⟩ (fun s'=>typeIs_int s' k t) noFill_list_mul F.fills_int_mul F.slot_int_rmul repeat_list F.slot_int_index.lookup
  (call_meets F.slot_int_rmul (typeIs_int s k t) F.entry_int_rmul (F.args_int_rmul_2 _ _) (int___rmul___int_list k t l its.toArray n)
   ⟨e,rfl,⟨_,e,rfl⟩,call_meets F.slot_list_mul ⟨_,e,rfl⟩ F.entry_list_mul (F.args_list_mul_2 _ _) (AutoListH.list___mul___list_int_3 l its.toArray n k t hfit hcap hlong) ⟨e,?_⟩⟩)
 rw [hnew]
 exact ⟨.ref _,_,I.lnew (t':=s.toks) (r.rep k.toNat) (by rw [len_rep,Nat.mul_comm];exact hz),rfl,q _ I.fresh⟩
end
end L2
namespace Att
open PySem PySem.W PySem.Calls PyProof.Rows
theorem vA {P:Params} {h:Heap}:∀ (ns:List Int) (vs:List Value),WellAll P h vs (ns.map WData.int)->IntsAre vs ns:=by
 intro ns
 induction ns with
 | nil=>
  intro vs w
  rw [List.map_nil] at w
  cases w
  exact .nil
 | cons n ns ih=>
  intro vs w
  rw [ZP] at w
  cases w with
  | cons a b=>
   cases a
   exact .cons _ _ (ih _ b)
theorem Io {l:OpenLaw} {n:Nat} (hn:l.most=some n) {P:Params} {h:Heap} {args:List WData} {vals:List Value}
  (hpre:l.row.toRowW.claim.pre args=true) (hwl:WellAll P h vals args):
  ∃ a vs ns,vals=[Value.ref a]/\args=[WData.list (ns.map WData.int)]/\h.get? a=some {cls:=.type "list",data:=.seq vs.toArray}/\IntsAre vs ns/\ns.length<=n:=by
 have hsh:WShape.hasAll [] args [.list .int]=true:=(pre_splitW hpre).1
 have hc:l.pre.holds [] {args:=args}=true:=(pre_splitW hpre).2
 obtain ⟨d,r,rfl,h1,h2⟩:=hasAllW_cons hsh
 obtain rfl:=hasAllW_nil h2
 obtain ⟨xs,rfl,h3⟩:=hasW_list h1
 obtain ⟨ns,rfl⟩:=items_int h3
 have hlen:ns.length<=n:=by
  unfold OpenLaw.pre at hc
  have h4:(WTm.not (.lt (.lit (.int (n:Int))) (.len (.arg 0)))).holds [] {args:=[.list (ns.map .int)]}=true:=by
   have h4:=(holds_andW hc).1
   rw [hn] at h4
   exact h4
  have h5:=condW_of h4 (w_not (w_lt w_lit (w_len_list (w_arg rfl))))
  rw [Zf] at h5
  refine Nat.le_of_not_lt fun q=>?_
  have q':(n:Int) < ((ns.length:Nat):Int):=by omega
  first
   | (rw [Y7 q'] at h5;exact absurd h5 (by decide))
   | (simp at h5;omega)
 cases hwl with
 | cons w1 w2=>
  cases w2
  cases w1 with
  | list ho hall=>exact ⟨_,_,ns,rfl,rfl,ho,vA ns _ hall,hlen⟩
theorem Ip (l:OpenLaw) (args:List WData):l.row.toRowW.claim.post args (.bool true) args=true:=
 postW_of (r:=l.row.toRowW) (X:=(true == true))
  (show WShape.has [] (.bool true) .bool=true by first | rfl | decide | simp [WShape.has,WShape.arms,WShape.armsAll])
  (show (WTm.eq .res (.lit (.bool true))).value [] {args:=args,res:=some (.bool true),after:=args}=some (.bool (true == true)) from w_eq_bool (w_res rfl) w_lit) rfl
theorem attach_call {l:OpenLaw} {n:Nat} {q:Program} {loose:List Str} {XP:(Str->Option Value)->Heap->Prop} {YP:World->Heap->Prop} {d:DefRec}
  (hn:l.most=some n) (hdf:d.params.defaults=[])
  (call:∀ (w:World) (s₀ s₁:Shared) (mg mb:Str->Option Value) (fa:Addr) (o:Obj) (pm cd doc:Value) (a:Addr) (vs:List Value) (ns:List Int),
   Ground q loose [] XP w s₀ mg mb s₁.heap->YP w s₁.heap->
   s₁.heap.get? fa=some o->o.data= .func (docDef d.name d.params d.body d.scope pm cd doc)->s₁.heap.CodeRec cd d.name->mg d.name=some (.ref fa)->
   s₁.heap.get? a=some {cls:=.type "list",data:=.seq vs.toArray}->IntsAre vs ns->ns.length<=n->s₁.gens= #[]->
   codeAny (model l.prog w) callerA (.call (.ref fa) ⟨[.ref a],[]⟩) (fun r s'=>r= .ok (.ret (.bool true))/\OldK s₁.heap s'.heap/\s'.os=s₁.os/\AllBare s'.gens) s₁):
  WalkO q loose XP YP l.row.toRowW d [] (fun f vs=>PySem.call f vs):=by
 intro w s₀ s₁ mg mb G Y fa o pm cd doc dV kV ho hd hcd hD hmg hg args vals as hpre hlay hrd hwl hlo
 obtain rfl:dV= .none:=Dflts.none hD hdf
 obtain rfl:kV= .none:=Dflts.noKw hD
 obtain ⟨a,vs,ns,rfl,rfl,hobj,hints,hlen⟩:=Io hn hpre hwl
 refine enter_call (codeAny_mono (call w s₀ s₁ mg mb fa o pm cd doc a vs ns G Y ho (fd_plain hd) hcd hmg hobj hints hlen hg) fun r s' hq=>?_)
 obtain ⟨rfl,h2,h3,h4⟩:=hq
 exact ⟨.inl ⟨.bool true,.bool true,[],rfl,fun _=>rfl,.bool true,Ip l _,fun _=>⟨List.Pairwise.nil,fun _ hm=>(nomatch hm)⟩⟩,h2,h3,h4⟩
end Att
namespace L2
open PySem PySem.Spec PyProof.Rows
theorem yx:∀ {vs:List Value} {ns:List Int},IntsAre vs ns->Vals (ns.map V.int) vs
 | _,_,.nil=>.nil
 | _,_,.cons n t h=>.cons ⟨t,rfl⟩ (yx h)
def Only (H:Hp):Prop:=∀ b,H b=none\/∃ o xs,H b=some (.frz o (.lst xs))
theorem K7 {P:Program} {w:World} {K:W.Frag} {mg mb:Str->Option Value} {CX:Ij} {k:Nat} {fa a:Addr} {fd:FuncData} {x:Str} {sp:Sp} {s₁:Shared} {vs:List Value} {ns:List Int}
  (KX:K.In s₁.heap) (hns:s₁.heap.Ns mainGlobals mg) (hb:s₁.heap.Ns builtinsNs mb) (hbb:∀ x:Str,x≠"__name__"->mb x=bootBuiltins x) (hlim:s₁.heap.NoLimit) (hsm:∃ mm,s₁.heap.Ns sysModules mm) (hbm:∃ bm ob,mg "__builtins__"=some (.ref bm)/\bm≠builtinsNs/\s₁.heap.get? bm=some ob/\ob.cls= .type "module"/\ob.dict=some builtinsNs/\ob.data= .plain) (hg:s₁.gens= #[])
  (ha:s₁.heap.get? a=some {cls:=.type "list",data:=.seq vs.toArray}) (hi:IntsAre vs ns) (hl:ns.length<=sizeLine) (hr:Room k callerA)
  (F:∀ base:Heap,K.In base->base.Ns mainGlobals mg->FnOk P w K mg base CX k fa fd [x] sp) (hbind:∀ (s:Shared) (u:Value),BindsTo s fd ⟨[u],[]⟩ [(x,u)])
  (hsp:∀ H:Hp,Only H->SqL K H a (ns.map V.int)->sp [.ref a] H (fun v _=>v= .bl true) fun _ _ _=>False)
  (hCX:∀ H e s',CX [] H s₁ (fun _ _ _=>False) e s'->False):
  codeAny (model P w) callerA (.call (.ref fa) ⟨[.ref a],[]⟩) (fun r s'=>r= .ok (.ret (.bool true))/\OldK s₁.heap s'.heap/\s'.os=s₁.os/\AllBare s'.gens) s₁:=by
 have rv:=yx hi
 have lenV:=hi.length
 have core:∀ H:Hp,Only H->SqL K H a (ns.map V.int)->HOk P w H s₁.heap->(∀ b,H b≠none->b=a)->(H a≠none->K.lookup a=none)->
   codeAny (model P w) callerA (.call (.ref fa) ⟨[.ref a],[]⟩) (fun r s'=>r= .ok (.ret (.bool true))/\OldK s₁.heap s'.heap/\s'.os=s₁.os/\AllBare s'.gens) s₁:=by
  intro H hO hS hok hA hK
  have base_of:∀ {b:Addr} {o:Obj},s₁.heap.get? b=some o->H b=none->(zp s₁.heap H).get? b=some o:=fun e n=>Kc e n
  have noA:∀ {b:Addr} {o:Obj} {es:Array DictEntry} {ep:Nat},s₁.heap.get? b=some o->o.data= .dict es ep->H b=none:=fun {b o es ep} e d=>by
   cases q:H b with
   | none=>rfl
   | some u=>
    have e':b=a:=hA b (by rw [q];simp)
    subst e'
    rw [ha] at e;cases e
    have d':Data.seq vs.toArray _=Data.dict es ep:=d
    cases d'
  have noM:∀ {b:Addr} {o:Obj},s₁.heap.get? b=some o->o.cls= .type "module"->H b=none:=fun {b o} e d=>by
   cases q:H b with
   | none=>rfl
   | some u=>
    have e':b=a:=hA b (by rw [q];simp)
    subst e'
    rw [ha] at e;cases e
    exact absurd (show (Value.type "list":Value)= .type "module" from d) (fun z=>absurd (Value.type.inj z) (by decide))
  have nsK:∀ {b:Addr} {m:Str->Option Value},s₁.heap.Ns b m->(zp s₁.heap H).Ns b m:=fun {b m} ⟨o,es,ep,e,d,r⟩=>⟨o,es,ep,base_of e (noA e d),d,r⟩
  have hKb:K.In (zp s₁.heap H):=fun b o e=>base_of (KX b o e) (by
   cases q:H b with
   | none=>rfl
   | some u=>
    have e':b=a:=hA b (by rw [q];simp)
    subst e'
    rw [hK (by rw [q];simp)] at e;cases e)
  have hM:Mod K mg (zp s₁.heap H):=⟨hKb,nsK hns,⟨mb,nsK hb,hbb⟩,(let ⟨mc,h1,h2⟩:=hlim;⟨mc,nsK h1,h2⟩),(let ⟨mm,h1⟩:=hsm;⟨mm,nsK h1⟩),let ⟨bm,ob,b1,b2,b3,b4,b5⟩:=hbm;⟨bm,ob,b1,b2,base_of b3 (noM b3 b4),b4,b5⟩⟩
  have e0:Env0 P w K mg (zp s₁.heap H) callerA [] s₁ H:=⟨rfl,hM,fun b o e=>O5 e,Nat.le_of_eq (HW _ _),trivial,fun b hb=>absurd (show b∈([]:List Addr) from hb) (by simp),hok,.of_eq hg⟩
  refine codeAny_mono ((F _ hKb (nsK hns)).run callerA [] s₁ H ⟨[.ref a],[]⟩ [.ref a] [.ref a] _ _ hr e0 (hbind s₁ (.ref a)) (.cons rfl .nil) (hsp H hO hS)) fun r s' h=>?_
  cases r with
  | error e=>exact (hCX H e s' h).elim
  | ok fl=>
   cases fl with
   | next=>exact False.elim h
   | brk=>exact False.elim h
   | cont=>exact False.elim h
   | ret u=>
    obtain ⟨v,H',os,bare,un,hok',r',q⟩:=h
    have q':v= .bl true:=q
    subst q'
    obtain rfl:u=Value.bool true:=r'
    refine ⟨rfl,OldK.of_keep fun b o e=>?_,os,bare⟩
    cases q:H b with
    | none=>exact un.keep b o e q (by intro z;exact absurd (show b∈([]:List Addr) from z) (by simp)) (by simp)
    | some u=>
     rcases hO b with z | ⟨ob,xs,z⟩
     ·rw [q] at z;cases z
     ·have z2:=un.frzs b ob _ z
      obtain ⟨e1,_⟩:=hok b _ z
      obtain ⟨e2,_⟩:=hok' b _ z2
      rw [e] at e1;cases e1
      exact e2
 cases hk:K.lookup a with
 | some o=>
  have e:=KX a o hk
  rw [ha] at e
  cases e
  refine core (fun _=>none) (fun _=>.inl rfl) (.inr ⟨_,vs.toArray,_,hk,rfl,rfl,rfl,by rw [Zh,lenV];exact hl,by simpa using rv⟩) (fun b u z=>by have z':(none:Option HO)=some u:=z;cases z') (fun b z=>absurd rfl z) fun z=>absurd rfl z
 | none=>
  refine core (fun b=>if b=a then some (.frz {cls:=.type "list",data:=.seq vs.toArray} (.lst (ns.map V.int))) else none) (fun b=>?_) (.inl (.inr ⟨{cls:=.type "list",data:=.seq vs.toArray},if_pos rfl⟩)) (fun b u z=>?_) (fun b z=>?_) fun _=>hk
  ·by_cases hb:b=a
   ·exact .inr ⟨_,_,if_pos hb⟩
   ·exact .inl (if_neg hb)
  ·by_cases hb:b=a
   ·have z':=(if_pos hb).symm.trans z
    cases z'
    subst hb
    exact ⟨ha,by rw [Zf];exact hl,vs,_,rv,ha⟩
   ·have z':=(if_neg hb).symm.trans z
    cases z'
  ·by_cases hb:b=a
   ·exact hb
   ·exact absurd (if_neg hb) z
abbrev KOf {K:W.Frag} {h:Heap} (_:K.In h):W.Frag:=K
theorem Qd {l:PySem.W.OpenLaw} {n k:Nat} {q:Program} {loose:List Str} {XP:(Str->Option Value)->Heap->Prop} {YP:World->Heap->Prop} {d:DefRec} {K:Params->W.Frag} {CX:World->Ij} {sp:World->Sp} {x:Str}
  (hn:l.most=some n) (hn2:n<=sizeLine) (hdf:d.params.defaults=[]) (hr:Room k callerA)
  (hY:∀ (w:World) (h:Heap),YP w h->(K w.params).In h)
  (F:∀ (w:World) (mg:Str->Option Value) (fa:Addr) (h:Heap),(K w.params).In h->h.Ns mainGlobals mg->mg d.name=some (.ref fa)->
   ∃ fd:FuncData,(∀ (s:Shared) (u:Value),BindsTo s fd ⟨[u],[]⟩ [(x,u)])/\
    ∀ base:Heap,(K w.params).In base->base.Ns mainGlobals mg->FnOk l.prog w (K w.params) mg base (CX w) k fa fd [x] (sp w))
  (hsp:∀ (w:World) (H:Hp) (a:Addr) (ns:List Int),ns.length<=n->Only H->SqL (K w.params) H a (ns.map V.int)->sp w [.ref a] H (fun v _=>v= .bl true) fun _ _ _=>False)
  (hCX:∀ (w:World) (H:Hp) (s:Shared) (e:Value) (s':Shared),CX w [] H s (fun _ _ _=>False) e s'->False) (him:importsNone q=true):
  PySem.W.WalkO q loose XP YP l.row.toRowW d [] (fun f vs=>PySem.call f vs):=by
 refine Att.attach_call hn hdf fun w s₀ s₁ mg mb fa o pm cd doc a vs ns G Y ho hd hcd hmg hobj hints hlen hg=>?_
 have KX:=hY w _ Y
 obtain ⟨fd,hb,hF⟩:=F w mg fa _ KX G.T.g hmg
 exact K7 KX G.T.g G.T.b G.T.builtins G.T.nolimit (let ⟨mm,h1,_⟩:=(G.T.seer him).mods;⟨mm,h1⟩) G.T.bmain hg hobj hints (Zo hlen hn2) hr hF hb (fun H hO hS=>hsp w H a ns hlen hO hS) fun H e s'=>hCX w H s₁ e s'
def cu (s:Stmt):Arguments:=match s with
 | .FunctionDef _ a _ _ _ _ _ _ _ _=>a
 | _=>{posonlyargs:=[],args:=[],vararg:=none,kwonlyargs:=[],kw_defaults:=[],kwarg:=none,defaults:=[]}
def bC (s:Stmt):List Stmt:=match s with
 | .FunctionDef _ _ b _ _ _ _ _ _ _=>b
 | _=>[]
def az (s:Stmt):Scope:=match s with
 | .FunctionDef _ _ _ _ _ _ sc _ _ _=>sc
 | _=>{kind:=.function,names:=[],isGenerator:=false,isCoroutine:=false}
abbrev Ir:Ij:=fun _ _ _ _ _ _=>False
abbrev E0:XK:=fun _ _ _=>False
theorem Xb {X:Cx}:Ea Ir X E0:=fun _ _ _ _ _ _ _ h=>h.elim
structure Fun (K:W.Frag) (x qual:Str) (st:Stmt) (f:Addr) (fd:FuncData):Prop where
 ex:∃ (oc:Value) (od:Option Addr) (kV doc pm:Value) (an:Option Addr) (cdv ct:Value) (osl:Array (Option Value)),
  fd=PySem.W.fnOf x qual (cu st) (bC st) (az st) .none kV doc pm an cdv ct/\K.lookup f=some ⟨oc,od,.func fd,osl⟩/\PySem.W.codeIn K cdv qual=true
 kp:PySem.W.keepIn K (.ref f)=true
section
variable {P:Program} {w:World} {K:W.Frag} {mg:Str->Option Value} {base:Heap}
theorem Fun.ok {x qual:Str} {st:Stmt} {f:Addr} {fd:FuncData} {N ps:List Str} {k:Nat} {sp:Sp} (F:Fun K x qual st f fd) (S:aC N ps (az st)) (len:∀ vs H Q E,sp vs H Q E->vs.length=ps.length)
  (hbody:∀ (cdv:Value) (A:Around) (outer:List Env) (s:Shared) (H:Hp) (vs:List V) (Q:VK) (E:XK),Room k (A.deeper (envOfC qual (az st) s.heap.objs.size f cdv))->sp vs H Q E->
   ∃ t,PSs (o5 Ir P w K mg base N qual (az st) f cdv A outer s H E).nox (bC st) t/\t {nx:=fun _ H'=>Q .non H',rt:=Q} (start N vs) H):FnOk P w K mg base Ir (k+1) f fd ps sp:=by
 obtain ⟨oc,od,kV,doc,pm,an,cdv,ct,osl,rfl,lk,hcd⟩:=F.ex
 refine Bp lk hcd S len fun A outer s H vs Q E hr hsp=>?_
 obtain ⟨t,h,q⟩:=hbody cdv A outer s H vs Q E hr hsp
 exact ⟨t,h.nox,q⟩
theorem Fun.binds {x qual:Str} {st:Stmt} {f:Addr} {fd:FuncData} {ps:List Str} (F:Fun K x qual st f fd)
  (h:∀ (kV doc pm:Value) (an:Option Addr) (cdv ct:Value) (us:List Value),us.length=ps.length->bindArgs (PySem.W.fnOf x qual (cu st) (bC st) (az st) .none kV doc pm an cdv ct) ⟨us,[]⟩=pure (ps.zip us)):Binds K fd ps []:=by
 obtain ⟨oc,od,kV,doc,pm,an,cdv,ct,osl,rfl,lk,hcd⟩:=F.ex
 exact .all (h kV doc pm an cdv ct)
theorem wj {x qual:Str} {st:Stmt} {f:Addr} {oc:Value} {od an:Option Addr} {osl:Array (Option Value)} {kV doc pm cdv ct:Value} (l:K.lookup f=some ⟨oc,od,.func (PySem.W.fnOf x qual (cu st) (bC st) (az st) .none kV doc pm an cdv ct),osl⟩)
  (c:PySem.W.codeIn K cdv qual=true) (k:PySem.W.keepIn K (.ref f)=true):Fun K x qual st f (PySem.W.fnOf x qual (cu st) (bC st) (az st) .none kV doc pm an cdv ct):=⟨⟨oc,od,kV,doc,pm,an,cdv,ct,osl,rfl,l,c⟩,k⟩
end
theorem oX {A B:Prop} (h:B):if false=true then A else B:=by
 rw [if_neg Y5]
 exact h
theorem o8 {A B:Prop} (h:A):if true=true then A else B:=by
 rw [if_pos rfl]
 exact h
def Same (H H':Hp):Prop:=∀ b o,H b=some o->H' b=some o
theorem Same.refl (H:Hp):Same H H:=fun _ _ h=>h
theorem Same.trans {H H1 H2:Hp} (a:Same H H1) (b:Same H1 H2):Same H H2:=fun c o h=>b c o (a c o h)
theorem Same.seq {K:W.Frag} {H H':Hp} {a:Addr} {xs:List V} (e:Same H H') (h:SqL K H a xs):SqL K H' a xs:=by
 rcases h with (h | ⟨o,h⟩) | h
 ·exact .inl (.inl (e _ _ h))
 ·exact .inl (.inr ⟨o,e _ _ h⟩)
 ·exact .inr h
end L2
set_option maxHeartbeats 4000000
namespace L2
open PySem PySem.Spec PyProof.Rows
def vB (env:Env):List (Str×NameKind)->List (Str×Addr)->List (Str×Addr)
 | [],acc=>acc
 | (n,k) :: r,acc=>vB env r (if k == .free then (match env.cells.lookup n with | some c=>(n,c) :: acc | none=>acc) else acc)
theorem wu {env:Env}:∀ {names:List (Str×NameKind)} {acc:List (Str×Addr)},(∀ x c,(x,c)∈acc->env.cells.lookup x=some c)->∀ x c,(x,c)∈vB env names acc->env.cells.lookup x=some c
 | [],_,h,x,c,m=>h x c m
 | (n,k) :: r,acc,h,x,c,m=>by
  refine wu (names:=r) ?_ x c m
  intro y d hm
  cases hk:(k == NameKind.free) with
  | false=>rw [hk] at hm;exact h y d hm
  | true=>
   rw [hk] at hm
   simp only [if_true] at hm
   cases e:env.cells.lookup n with
   | none=>rw [e] at hm;exact h y d hm
   | some c'=>
    rw [e] at hm
    rcases Za.mp hm with z | z
    ·cases z;exact e
    ·exact h y d z
theorem Bq {env:Env}:∀ {names:List (Str×NameKind)} {acc:List (Str×Addr)} {p:Str×Addr},p∈acc->p∈vB env names acc
 | [],_,_,h=>h
 | (n,k) :: r,acc,p,h=>by
  refine Bq (names:=r) ?_
  split
  ·split
   ·exact Zb _ h
   ·exact h
  ·exact h
theorem ww {env:Env} {x:Str} {c:Addr} (e:env.cells.lookup x=some c):∀ {names:List (Str×NameKind)} {acc:List (Str×Addr)},(x,NameKind.free)∈names->(x,c)∈vB env names acc
 | [],_,h=>by simp at h
 | (n,k) :: r,acc,h=>by
  rcases Za.mp h with z | z
  ·cases z
   refine Bq (names:=r) ?_
   rw [e]
   simp
  ·exact ww e (names:=r) z
theorem xH {l:List (Str×Addr)} {x:Str} {c:Addr} (hm:(x,c)∈l) (ha:∀ d,(x,d)∈l->d=c):l.lookup x=some c:=by
 induction l with
 | nil=>simp at hm
 | cons p r ih=>
  obtain ⟨n,d⟩:=p
  by_cases e:x=n
  ·subst e
   have:d=c:=ha d (by simp)
   subst this
   simp [Zt]
  ·have hb:(x == n)=false:=by simpa using e
   rw [Zt,hb]
   refine ih ?_ fun d' h'=>ha d' (Zb _ h')
   rcases Za.mp hm with z | z
   ·cases z;exact absurd rfl e
   ·exact z
theorem Br {env:Env} {names:List (Str×NameKind)} {x:Str} {c:Addr} (e:env.cells.lookup x=some c) (h:(x,NameKind.free)∈names):(vB env names []).lookup x=some c:=
 xH (ww e h) fun d hd=>by
  have q:=wu (names:=names) (acc:=[]) (env:=env) (by simp) x d hd
  rw [e] at q
  exact (Zv q).symm
theorem Iu {env:Env} {names:List (Str×NameKind)} {x:Str} {c:Addr} (e:(vB env names []).lookup x=some c):env.cells.lookup x=some c:=
 wu (names:=names) (acc:=[]) (env:=env) (by simp) x c (ZM e)
theorem rJ {env:Env}:∀ (names:List (Str×NameKind)) (acc:List (Str×Addr)),(∀ x∈names,x.2=NameKind.free->∃ c,env.cells.lookup x.1=some c)->
  (forIn (m:=Sem) names acc fun x r=>match x with
   | (name,kind)=>if (kind == NameKind.free)=true then do let c ← cellOf env name;pure (ForInStep.yield ((name,c) :: r)) else pure (ForInStep.yield r))=pure (vB env names acc)
 | [],acc,_=>rfl
 | (n,k) :: r,acc,h=>by
  rw [List.forIn_cons]
  cases hk:(k == NameKind.free) with
  | false=>
   simp only [hk,Bool.false_eq_true,if_false,pure_bind,vB]
   exact rJ r acc fun x hx=>h x (Zb _ hx)
  | true=>
   obtain ⟨c,e⟩:=h (n,k) Zn (by simpa using hk)
   simp only [hk,if_true,pure_bind,vB,cellOf,e]
   exact rJ r ((n,c) :: acc) fun x hx=>h x (Zb _ hx)
theorem q9 {scope:Scope} {env:Env} (h:∀ x∈scope.names,x.2=NameKind.free->∃ c,env.cells.lookup x.1=some c):closureFor scope env=pure (vB env scope.names []):=by
 unfold closureFor
 have:=rJ (env:=env) scope.names [] h
 simp only [this,pure_bind]
theorem yz {prog:Program} {w:World} {A:Around} {R:Result->Shared->Prop} {s:Shared} {elt target iter:Expr} {ifs:List Expr} {scope:Scope} {pos:Pos} {it acc:Value} {env:Env} (I:Nat->Shared->Prop)
  (turn:∀ n s,I n s->wpAny (model prog w) A (pyNext it) (fun r s₁=>match r with
   | none=>R (.ok .next) s₁
   | some v=>wpAny (model prog w) A (letOwnedTupleGo target it v) (fun _ s₁'=>wpAny (model prog w) A (assign target env v) (fun _ s₂=>
     wpAny (model prog w) A (forIn ifs true fun c r=>if r=true then do let ok ← isTrue c env (eval c env);pure (ForInStep.yield ok) else pure (ForInStep.yield r)) (fun ok s₃=>
      if ok=true then wpAny (model prog w) A (eval elt env) (fun x s₄=>
       wpAny (model prog w) A (call (.builtin "list.append") [acc,x]) (fun _ s₅=>∃ m,m < n/\I m s₅) (fun _ _=>False) s₄) (fun _ _=>False) s₃
      else ∃ m,m < n/\I m s₃) (fun _ _=>False) s₂) (fun _ _=>False) s₁') (fun _ _=>False) s₁) (fun _ _=>False) s)
  (n:Nat) (h:I n s):
  codeAny (model prog w) A (.compLoop (.ListComp elt [⟨target,iter,ifs,0⟩] scope pos) 0 it acc env) R s:=by
 refine codeAny_loop rfl I (fun n s hI=>?_) n h
 show wpAny _ A ((compTurn (.ListComp elt [⟨target,iter,ifs,0⟩] scope pos) 0 it acc env).onRaise (fun x=>do noteFrame x env;theTreesLotGoes x)) _ _ s
 refine wpAny_noted ?_
 rw [compTurn_list]
 refine YS (Abd (YS (Zu (turn n s hI) (fun r s₁ h₁=>?_) fun _ _ h'=>h'.elim)))
 cases r with
 | none=>exact Y0 h₁
 | some v=>
  refine YS (Zu h₁ (fun _ s₁' h₁'=>?_) fun _ _ h'=>h'.elim)
  refine YS (Zu h₁' (fun _ s₂ h₂=>YS (Zu h₂ (fun ok s₃ h₃=>?_) fun _ _ h'=>h'.elim)) fun _ _ h'=>h'.elim)
  cases ok with
  | false=>exact Y0 ⟨rfl,h₃⟩
  | true=>
   exact YS (YS (Zu h₃ (fun x s₄ h₄=>YS (Zu h₄ (fun _ s₅ h₅=>Y0 (Y0 ⟨rfl,h₅⟩)) fun _ _ h'=>h'.elim)) fun _ _ h'=>h'.elim))
theorem cF:∀ (names:List (Str×NameKind)) (n:Nat) (acc:List (Str×Addr)),cellsFrom n names acc=cellsFrom n names [] ++ acc
 | [],_,_=>rfl
 | (x,k) :: r,n,acc=>by
  unfold cellsFrom
  split
  ·rw [cF r (n+1) ((x,n) :: acc),cF r (n+1) [(x,n)],AaT];rfl
  ·exact cF r n acc
theorem sY {α:Type}:∀ {A B:List (Str×α)} {x:Str},(A ++ B).lookup x=(match A.lookup x with | some c=>some c | none=>B.lookup x)
 | [],_,_=>rfl
 | (y,c) :: A,B,x=>by
  rw [List.cons_append,Zt,Zt]
  cases x == y with
  | true=>rfl
  | false=>exact sY (A:=A)
theorem wy:∀ {names:List (Str×NameKind)} {n:Nat} {acc:List (Str×Addr)} {x:Str} {c:Addr},(x,c)∈cellsFrom n names acc->(x,c)∈acc\/(x,NameKind.cell)∈names
 | [],_,_,_,_,h=>.inl h
 | (y,k) :: r,n,acc,x,c,h=>by
  unfold cellsFrom at h
  split at h
  ·rename_i hk
   rcases wy h with z | z
   ·rcases Za.mp z with z | z
    ·cases z
     have:k= .cell:=by simpa using hk
     rw [this];exact .inr Zn
    ·exact .inl z
   ·exact .inr (Zb _ z)
  ·exact (wy h).imp id (Zb _)
theorem sZ {α:Type}:∀ {l:List (Str×α)} {x:Str} {c:α},(x,c)∈l->∃ d,l.lookup x=some d
 | (y,d) :: r,x,c,h=>by
  by_cases e:x=y
  ·subst e;exact ⟨d,by simp [Zt]⟩
  ·have hb:(x == y)=false:=by simpa using e
   rw [Zt,hb]
   rcases Za.mp h with z | z
   ·cases z;exact absurd rfl e
   ·exact sZ z
theorem tD:∀ {names:List (Str×NameKind)} {n:Nat} {acc:List (Str×Addr)} {x:Str},(x,NameKind.cell)∈names\/(∃ c,(x,c)∈acc)->∃ c,(x,c)∈cellsFrom n names acc
 | [],_,_,_,h=>h.elim (fun h=>by simp at h) id
 | (y,k) :: r,n,acc,x,h=>by
  unfold cellsFrom
  split
  ·refine tD ?_
   rcases h with h | ⟨c,h⟩
   ·rcases Za.mp h with z | z
    ·cases z;exact .inr ⟨n,Zn⟩
    ·exact .inl z
   ·exact .inr ⟨c,Zb _ h⟩
  ·rename_i hk
   refine tD ?_
   rcases h with h | h
   ·rcases Za.mp h with z | z
    ·cases z;exact absurd (by decide) hk
    ·exact .inl z
   ·exact .inr h
def Iv (X:Cx) (scope:Scope) (C:Addr):List (Str×Addr):=cellsFrom (C+1) scope.names (vB X.env scope.names [])
section
variable {M:Model} {A:Around} {E:Value->Shared->Prop} {s:Shared}
theorem gR {scope:Scope} {globals:Addr} {cl:List (Str×Addr)} {qual:Str} {env:Env} {Q:Env->Shared->Prop}
  (hQ:∀ h':Heap,h'.Ns s.heap.objs.size (fun _=>none)->(∀ b o,s.heap.get? b=some o->h'.get? b=some o)->CellsOk h' (s.heap.objs.size+1) (cellsFrom (s.heap.objs.size+1) scope.names [])->
   Q (newEnv scope s.heap.objs.size globals (cellsFrom (s.heap.objs.size+1) scope.names cl) qual none .none (some env) builtinsNs) {s with heap:=h',toks:=s.toks+([]:List (Str×Value)).length}):
  wpAny M A (newFunctionEnv scope globals cl [] qual none .none (some env)) Q E s:=by
 simp only [newFunctionEnv,Option.isSome_some,if_true]
 refine YS (wpAny_alloc ?_)
 refine YS (wpAny_layCells _ (fun name kind cells=>by cases hkc:kind == NameKind.cell <;> simp [hkc]) _ _ _ _ ?_)
 have ok:=cellsFrom_ok scope.names (s.heap.push {cls:=.type "dict",data:=.dict #[]}) (s.heap.objs.size+1) [] ⟨fun _ _ hm=>(nomatch hm),List.Pairwise.nil⟩ (by rw [Aah];exact YZ _)
 rw [Aah] at ok
 rw [show ({s with heap:=s.heap.push {cls:=.type "dict",data:=.dict #[]}}:Shared).heap.objs.size=s.heap.objs.size+1 from Aah ..]
 exact YS (Y0 (Y0 (hQ _ ((Heap.Ns.new s.heap (.type "dict")).keeps (pushCells_keeps _ _)) (fun b o e=>pushCells_keeps _ _ b o (YW _ e)) ok)))
end
def qI (X:Cx) (N':List Str) (scope:Scope) (C:Addr) (s₀:Shared) (H₀:Hp) (ex:List Addr):Cx:=
 {X with N:=N',s₀:=s₀,H₀:=H₀,env:=compEnvC scope (Iv X scope C) C X.env,outer:=X.stack,ex:=ex,fn:=fun x=>decide (scope.names.lookup x=some .cell),pn:=[],xe:=fun _ _=>False}
def bR (sub:List (Option Nat)) (U:St):St:=sub.map fun o=>o.bind fun j=>(U[j]?).join
structure uY (N:List Str) (sc:Scope) (N':List Str) (scope:Scope) (sub:List (Option Nat)):Prop where
 kind:scope.kind= .function
 cel:∀ x∈scope.names,x.2= .cell->scope.names.lookup x.1=some .cell
 loc:∀ x∈scope.names,x.2= .local->scope.names.lookup x.1=some .local
 free:∀ x∈scope.names,x.2= .free->sc.names.lookup x.1=some .cell\/sc.names.lookup x.1=some .free
 len:sub.length=N'.length
 at_:∀ (i j:Nat) (x:Str),sub[i]?=some (some j)->N'[i]?=some x->N[j]?=some x/\(x,NameKind.free)∈scope.names/\scope.names.lookup x=some .free
def K8 (N:List Str) (sc:Scope) (N':List Str) (scope:Scope) (sub:List (Option Nat)):Bool:=
 decide (scope.kind= .function) && scope.names.all (fun x=>decide (x.2= .cell->scope.names.lookup x.1=some .cell)) && scope.names.all (fun x=>decide (x.2= .local->scope.names.lookup x.1=some .local)) &&
 scope.names.all (fun x=>decide (x.2= .free->sc.names.lookup x.1=some .cell\/sc.names.lookup x.1=some .free)) && decide (sub.length=N'.length) &&
 (List.range sub.length).all fun i=>match sub[i]?,N'[i]? with
  | some (some j),some x=>decide (N[j]?=some x/\(x,NameKind.free)∈scope.names/\scope.names.lookup x=some .free)
  | _,_=>true
theorem dg {N:List Str} {sc:Scope} {N':List Str} {scope:Scope} {sub:List (Option Nat)} (h:K8 N sc N' scope sub=true):uY N sc N' scope sub:=by
 simp only [K8,Ze,decide_eq_true_eq,Aaf] at h
 obtain ⟨⟨⟨⟨⟨h1,h2⟩,h3⟩,h4⟩,h5⟩,h6⟩:=h
 refine ⟨h1,h2,h3,h4,h5,fun i j x e1 e2=>?_⟩
 have hi:i < sub.length:=(Y4.mp e1).1
 have q:=h6 i (Zj.mpr hi)
 rw [e1,e2] at q
 simpa using q
def K9:TT:=fun _ H Q=>Q true H
def Bs (X:Cx) (ifs:List Expr) (t:TT):Prop:=
 ∀ (pins:List (Addr×Obj)) (s:Shared) (U:St) (H:Hp) (Q:Bool->Hp->Prop),Inv X pins U H s->t U H Q->
  wpAny (model X.prog X.w) X.A (forIn ifs true fun c r=>if r=true then do let ok ← isTrue c X.env (eval c X.env);pure (ForInStep.yield ok) else pure (ForInStep.yield r)) (TP X pins U Q) X.xe s
theorem La {X:Cx}:Bs X [] K9:=fun _ _ _ H _ I h=>wpAny_tests_nil ⟨H,I,h⟩
def KeepSt (U U':St):Prop:=U'.length=U.length/\∀ (i:Nat) (v:V),U[i]?=some (some v)->U'[i]?=some (some v)
theorem KeepSt.set {U:St} {i:Nat} {v:V} (h:U[i]?=some none):KeepSt U (U.set i (some v)):=by
 refine ⟨by simp,fun j u e=>?_⟩
 by_cases hj:i=j
 ·subst hj;rw [h] at e;cases e
 ·rw [ZC hj];exact e
def wz (sub:List (Option Nat)) (wi:TI) (g:TG) (tt:TT) (te:TE):TE:=fun U H Q=>wi U H fun J H1=>∃ W:Nat->Nat->List V->Hp->Prop,(∃ m,W 0 m [] H1)/\∀ i m ys H,W i m ys H->
 (J.stop i H/\ys.length<=sizeLine/\∀ D,H D=none->Q (.ref D) (upd H D (.lst ys)))\/
 (J.go i H/\ys.length < sizeLine/\∃ N:List V->Hp->Prop,(∀ ys' H',N ys' H'->∃ m',m' < m/\W (i+1) m' ys' H')/\
  ∀ x H',J.yld i H x H'->g x (bR sub U) H' fun σ2 H2=>KeepSt (bR sub U) σ2/\tt σ2 H2 fun b H3=>if b=true then te σ2 H3 fun y H4=>N (ys ++ [y]) H4 else N ys H3)
theorem tE {scope:Scope} {env:Env} {x:Str} (hx:scope.names.lookup x=some .free):(relabel scope env).names.lookup x=some .cell\/(relabel scope env).names.lookup x=some .free:=by
 have:∀ names:List (Str×NameKind),names.lookup x=some .free->
  (names.map fun (n,k)=>if (k == NameKind.free && env.scope.kind == .function && env.kindOf n == some .cell) then (n,NameKind.cell) else (n,k)).lookup x=some .cell\/
  (names.map fun (n,k)=>if (k == NameKind.free && env.scope.kind == .function && env.kindOf n == some .cell) then (n,NameKind.cell) else (n,k)).lookup x=some .free:=by
  intro names
  induction names with
  | nil=>intro h;simp at h
  | cons p r ih=>
   obtain ⟨n,k⟩:=p
   intro h
   by_cases e:x=n
   ·subst e
    have hk:k= .free:=by simpa [Zt] using h
    subst hk
    by_cases hc:((NameKind.free == NameKind.free && env.scope.kind == .function && env.kindOf x == some .cell)=true)
    ·left;simp only [ZP];rw [if_pos hc];simp [Zt]
    ·right;simp only [ZP];rw [if_neg hc];simp [Zt]
   ·have hb:(x == n)=false:=by simpa using e
    rw [Zt,hb] at h
    have q:=ih h
    simp only [ZP]
    split <;> (rw [Zt,hb];exact q)
 exact this scope.names hx
theorem zG {scope:Scope} {env:Env} {x:Str} (h:(relabel scope env).names.lookup x=some .cell\/(relabel scope env).names.lookup x=some .free):(x,NameKind.cell)∈scope.names\/(x,NameKind.free)∈scope.names:=by
 have key:∀ k,(k=NameKind.cell\/k=NameKind.free)->(relabel scope env).names.lookup x=some k->(x,NameKind.cell)∈scope.names\/(x,NameKind.free)∈scope.names:=by
  intro k hk hl
  have hm:=ZM hl
  unfold relabel at hm
  obtain ⟨⟨n,k'⟩,hm1,hm2⟩:=ZD.mp hm
  dsimp only at hm2
  by_cases hc:(k' == NameKind.free && env.scope.kind == .function && env.kindOf n == some .cell)=true
  ·rw [if_pos hc] at hm2
   cases hm2
   simp only [Ze,Aal] at hc
   rw [← hc.1.1];exact .inr hm1
  ·rw [if_neg hc] at hm2
   cases hm2
   rcases hk with hk | hk
   ·subst hk;exact .inl hm1
   ·subst hk;exact .inr hm1
 rcases h with h | h
 ·exact key _ (.inl rfl) h
 ·exact key _ (.inr rfl) h
section
variable {X:Cx} {tg iter elt:Expr} {ifs:List Expr} {scope:Scope} {pos:Pos} {N':List Str} {sub:List (Option Nat)} {wi:TI} {g:TG} {tt:TT} {te:TE}
theorem yC {pins:List (Addr×Obj)} {U:St} {H:Hp} {s:Shared} {fp:List Addr} {D:Addr} {h':Heap} {tk:Nat} {N:List Str} {sc:Scope} (S:uY N sc N' scope sub) (hN:X.N=N) (hsc:X.env.scope=sc) (I:Inv X pins U H s) (hf:∀ b∈fp,mR X pins H b) (hfo:∀ b∈fp,b < s.heap.objs.size)
  (hD:D < s.heap.objs.size) (fD:mR X pins H D) (hns:h'.Ns s.heap.objs.size fun _=>none) (hk:∀ b o,s.heap.get? b=some o->h'.get? b=some o) (hc:CellsOk h' (s.heap.objs.size+1) (cellsFrom (s.heap.objs.size+1) scope.names [])):
  Inv (qI X N' scope s.heap.objs.size s H (D :: fp)) [] (bR sub U) H {s with heap:=h',toks:=tk}:=by
 have hex:∀ b∈D :: fp,mR X pins H b/\b < s.heap.objs.size:=fun b hb=>by
  rcases Za.mp hb with rfl | z
  ·exact ⟨fD,hD⟩
  ·exact ⟨hf b z,hfo b z⟩
 have spl:∀ {x c},(Iv X scope s.heap.objs.size).lookup x=some c->(h'.IsCell c none/\s.heap.objs.size+1<=c/\(x,c)∈cellsFrom (s.heap.objs.size+1) scope.names [])\/(X.env.cells.lookup x=some c/\∃ o,s.heap.get? c=some o):=fun {x c} h=>by
  unfold Iv at h
  rw [cF,sY] at h
  cases e:(cellsFrom (s.heap.objs.size+1) scope.names []).lookup x with
  | some d=>
   rw [e] at h
   cases h
   have m:=ZM e
   exact .inl ⟨(hc.empty _ _ m).1,(hc.empty _ _ m).2,m⟩
  | none=>
   rw [e] at h
   have z:=Iu h
   obtain ⟨v,o,ho,_⟩:=I.cell x c z
   exact .inr ⟨z,o,ho⟩
 have fre:∀ {x c},(x,NameKind.free)∈scope.names->scope.names.lookup x=some .free->X.env.cells.lookup x=some c->(Iv X scope s.heap.objs.size).lookup x=some c:=fun {x c} h1 h2 h3=>by
  unfold Iv
  rw [cF,sY]
  cases e:(cellsFrom (s.heap.objs.size+1) scope.names []).lookup x with
  | some d=>
   rcases wy (ZM e) with z | z
   ·cases z
   ·have:=S.cel _ z rfl
    rw [h2] at this;cases this
  | none=>exact Br h3 h1
 refine ⟨⟨I.ok.mod,S.kind,I.ok.glob,I.ok.blt,YZ _,fun x y c h1 h2=>?_,fun x hx=>?_,fun x c hx h=>?_,I.ok.hd,I.ok.frames,.inl rfl,fun b hb=>?_,I.bs,Zo I.ok.bsz I.sz,fun b o e hb=>?_,fun b hb=>?_,I.stack,I.stkFree⟩,
  rfl,I.bare,Un.kept hk,⟨_,hns,fun i x v h1 h2 h3=>?_⟩,fun x c h=>?_,I.hok.fresh (YZ _),fun x c h=>?_,fun p hp=>(nomatch hp),I.hok.kept hk,?_⟩
 ·rcases spl h1 with ⟨_,l1,m1⟩ | ⟨z1,o1,q1⟩ <;> rcases spl h2 with ⟨_,l2,m2⟩ | ⟨z2,o2,q2⟩
  ·exact PySem.name_of_addr hc.apart m1 m2
  ·exact absurd (Zg (Y6 q2) (AaE l1)) (Z1 _)
  ·exact absurd (Zg (Y6 q1) (AaE l2)) (Z1 _)
  ·exact I.ok.inj x y c z1 z2
 ·rcases zG hx with z | z
  ·obtain ⟨c,m⟩:=tD (n:=s.heap.objs.size+1) (acc:=vB X.env scope.names []) (.inl z)
   exact sZ m
  ·obtain ⟨c,e⟩:=I.ok.has x (by have:=S.free _ z rfl;rw [← hsc] at this;exact this)
   show ∃ c,(Iv X scope s.heap.objs.size).lookup x=some c
   unfold Iv
   rw [cF]
   exact sZ (c:=c) (ZF _ (ww e z))
 ·have hx':scope.names.lookup x=some .cell:=by simpa [qI] using hx
  rcases spl h with ⟨_,l,_⟩ | ⟨z,o,q⟩
  ·exact AaE l
  ·exfalso
   have m:(x,NameKind.cell)∈scope.names:=ZM hx'
   obtain ⟨d,md⟩:=tD (n:=s.heap.objs.size+1) (acc:=[]) (.inl m)
   obtain ⟨d',e'⟩:=sZ md
   have h:(Iv X scope s.heap.objs.size).lookup x=some c:=h
   unfold Iv at h
   rw [cF,sY,e'] at h
   cases h
   exact absurd (Zg (Y6 q) (AaE (hc.empty _ _ (ZM e')).2)) (Z1 _)
 ·obtain ⟨⟨f0,f1,f2,f3,f4,f5⟩,hlt⟩:=hex b hb
  refine ⟨Zr hlt,fun x c h=>?_⟩
  rcases spl h with ⟨_,l,_⟩ | ⟨z,_⟩
  ·exact fun z=>absurd (Zg hlt (AaE (z ▸ l))) (Z1 _)
  ·exact f4 x c z
 ·obtain ⟨⟨f0,f1,f2,f3,f4,f5⟩,hlt⟩:=hex b hb
  rcases f3 with z | z
  ·exact I.ok.noex b o e z
  ·exact absurd (Zg (Y6 (I.ok.bs b o e).1) z) (Z1 _)
 ·obtain ⟨⟨f0,f1,f2,f3,f4,f5⟩,hlt⟩:=hex b hb
  intro z
  rcases Za.mp (I.stkSub b z) with z | z
  ·exact f1 z
  ·exact f2 z
 ·have hs:∃ j,sub[i]?=some (some j)/\U[j]?=some (some v):=by
   unfold bR at h2
   rw [Y8] at h2
   cases e:sub[i]? with
   | none=>rw [e] at h2;cases h2
   | some o=>
    rw [e] at h2
    cases o with
    | none=>cases h2
    | some j=>
     refine ⟨j,rfl,?_⟩
     have h3:(U[j]?).join=some v:=Zv h2
     cases e2:U[j]? with
     | none=>rw [e2] at h3;cases h3
     | some z=>rw [e2] at h3;cases z with
      | none=>cases h3
      | some z=>cases h3;rfl
  obtain ⟨j,e1,e2⟩:=hs
  obtain ⟨g1,g2,g3⟩:=S.at_ i j x e1 h1
  rw [← hN] at g1
  obtain ⟨m,hn,hl⟩:=I.loc
  have hkf:X.env.kindOf x=some .cell\/X.env.kindOf x=some .free:=by have:=S.free _ g2 rfl;rw [← hsc] at this;exact this
  have hvis:Wz X.env.scope x:=by
   rcases hkf with z | z
   ·exact .inr (.inl z)
   ·exact .inr (.inr z)
  obtain ⟨u,r,l⟩:=hl j x v g1 e2 hvis
  refine ⟨u,r,.inr ⟨tE g3,?_⟩⟩
  rcases l with ⟨k,_⟩ | ⟨_,c,e,o,ho,hd⟩
  ·have k':X.env.kindOf x=some .local:=k
   rcases hkf with z | z <;> (rw [k'] at z;cases z)
  ·exact ⟨c,fre g2 g3 e,o,hk _ _ ho,hd⟩
 ·rcases spl h with ⟨z,_⟩ | ⟨z,_⟩
  ·exact ⟨_,z⟩
  ·obtain ⟨v,o,ho,hd⟩:=I.cell x c z
   exact ⟨v,o,hk _ _ ho,hd⟩
 ·rcases spl h with ⟨_,l,_⟩ | ⟨z,_⟩
  ·exact I.hok.fresh (AaE l)
  ·exact I.freeC x c z
 ·show (bR sub U).length=N'.length
  unfold bR
  rw [Zf]
  exact S.len
theorem Gj {N:List Str} {sc:Scope} (S:uY N sc N' scope sub) (hc:X.calm=true) (hN:X.N=N) (hsc:X.env.scope=sc) (hi:PI X tg iter wi)
  (hg:∀ (C:Addr) (s₀:Shared) (H₀:Hp) (ex:List Addr),PG (qI X N' scope C s₀ H₀ ex) tg g)
  (ht:∀ (C:Addr) (s₀:Shared) (H₀:Hp) (ex:List Addr),Bs (qI X N' scope C s₀ H₀ ex) ifs tt)
  (he:∀ (C:Addr) (s₀:Shared) (H₀:Hp) (ex:List Addr),PE (qI X N' scope C s₀ H₀ ex) elt te)
  (hs:autoParam (∀ x,foldedSetIterable iter X.env x=pure x) L2.auto3._auto_1):
  PE X (.ListComp elt [⟨tg,iter,ifs,0⟩] scope pos) (wz sub wi g tt te):=by
 intro pins s U H Q I h
 rw [eval_ListComp]
 have hcl:∀ x∈scope.names,x.2=NameKind.free->∃ c,X.env.cells.lookup x.1=some c:=fun x hx hk=>I.ok.has x.1 (by have:=S.free x hx hk;rw [← hsc] at this;exact this)
 refine wpAny_comprehension_free (use:=none) rfl hs (q9 hcl) S.kind S.loc ?_
 refine bV (hi pins s U H _ I h) fun v s1 h1=>bV h1 fun itv s2 h2=>?_
 obtain ⟨it,fp,tn,J,H2,e,I2,T,st2,f2,W,⟨m0,w0⟩,turn⟩:=h2
 subst e
 refine Z2 (gR fun h₁ hns₁ hk31 hcl₁=>?_)
 dsimp only at hns₁ hk31 hcl₁ ⊢
 generalize hs3:({s2 with heap:=s2.heap.push {cls:=.type "list",dict:=none,data:=.seq ([]:List Value).toArray}}:Shared)=s3
 have e3:s2.heap.push {cls:=.type "list",dict:=none,data:=.seq ([]:List Value).toArray}=s3.heap:=by rw [← hs3]
 rw [e3] at hns₁ hk31 hcl₁ ⊢
 have hD3:s3.heap.get? s2.heap.objs.size=some {cls:=.type "list",dict:=none,data:=.seq ([]:List Value).toArray}:=by rw [← e3];exact Y9 _ rfl
 have I3:Inv X pins U H2 s3:=by
  rw [← hs3]
  exact I2.kept (t':=s2.toks) fun b o e=>YW _ e
 have k23:∀ b o,s2.heap.get? b=some o->s3.heap.get? b=some o:=fun b o e=>by rw [← e3];exact YW _ e
 have hsz:s3.heap.objs.size=s2.heap.objs.size+1:=by rw [← e3,Aah]
 have hDn:H2 s2.heap.objs.size=none:=I2.hok.fresh (YZ _)
 have fD:mR X pins H2 s2.heap.objs.size:=I2.fpOk (YZ _) hDn
 have hfo:∀ b∈fp,b < s2.heap.objs.size:=fun b hb=>let ⟨o,e,_⟩:=T.obj _ _ st2 b hb;Y6 e
 have hDfp:s2.heap.objs.size ∉ fp:=fun z=>absurd (hfo _ z) (Z1 _)
 have I4:=yC (tk:=s3.toks+([]:List (Str×Value)).length) S hN hsc I3 f2 (fun b hb=>by rw [hsz];exact Nat.lt_succ_of_lt (hfo b hb)) (D:=s2.heap.objs.size) (by rw [hsz];exact Aau _) fD hns₁ hk31 hcl₁
 have stat:∀ {H':Hp} {ob:Obj},(∀ b∈fp,H' b=none)->∀ b∈fp,mR (qI X N' scope s3.heap.objs.size s3 H2 (s2.heap.objs.size :: fp)) [(s2.heap.objs.size,ob)] H' b:=fun {H' ob} hn b hb=>by
  obtain ⟨q1,q2⟩:=I4.ok.exf b (Zb _ hb)
  refine ⟨hn b hb,q1,I4.ok.exfs b (Zb _ hb),.inl (Zb _ hb),q2,fun p hp z=>?_⟩
  have hp':p=(s2.heap.objs.size,ob):=by simpa [qI] using hp
  subst hp'
  have z':s2.heap.objs.size=b:=z
  exact hDfp (by rw [z'];exact hb)
 generalize hXC:qI X N' scope s3.heap.objs.size s3 H2 (s2.heap.objs.size :: fp)=XC at I4 stat
 have eP:XC.prog=X.prog:=by rw [← hXC];rfl
 have eW:XC.w=X.w:=by rw [← hXC];rfl
 have eK:XC.K=X.K:=by rw [← hXC];rfl
 have eA:XC.A=X.A:=by rw [← hXC];rfl
 have eE:XC.env=compEnvC scope (Iv X scope s3.heap.objs.size) s3.heap.objs.size X.env:=by rw [← hXC];rfl
 have eC:XC.calm=true:=by rw [← hXC];exact hc
 have eX:XC.xe=fun _ _=>False:=by rw [← hXC];rfl
 have eH:XC.H₀=H2:=by rw [← hXC];rfl
 have eS:XC.s₀=s3:=by rw [← hXC];rfl
 have eF:XC.fs=frs X.stack:=by rw [← hXC];rfl
 have eEx:XC.ex=s2.heap.objs.size :: fp:=by rw [← hXC];rfl
 have ePn:XC.pn=[]:=by rw [← hXC];rfl
 have hgC:PG XC tg g:=by rw [← hXC];exact hg _ _ _ _
 have htC:Bs XC ifs tt:=by rw [← hXC];exact ht _ _ _ _
 have heC:PE XC elt te:=by rw [← hXC];exact he _ _ _ _
 have pinD:∀ {U':St} {H':Hp} {s':Shared} {ob:Obj},Inv XC [] U' H' s'->H' s2.heap.objs.size=none->s'.heap.get? s2.heap.objs.size=some ob->(∀ v,ob.data≠.cell v)->Inv XC [(s2.heap.objs.size,ob)] U' H' s':=fun {U' H' s' ob} J hn hg hd=>
  J.pins_of fun p hp=>by
   have hp':p=(s2.heap.objs.size,ob):=by simpa using hp
   subst hp'
   refine ⟨hg,hn,(J.ok.exf _ (by rw [eEx];exact Zn)).1,J.ok.exfs _ (by rw [eEx];exact Zn),hd⟩
 have loop:codeAny (model X.prog X.w) X.A (.compLoop (.ListComp elt [⟨tg,iter,ifs,0⟩] scope pos) 0 (.ref it) (.ref s2.heap.objs.size) (compEnvC scope (Iv X scope s3.heap.objs.size) s3.heap.objs.size X.env))
   (compPost (model X.prog X.w) X.A X.xe none (EP X pins U Q) (.ref s2.heap.objs.size) s3.heap.objs.size) {s3 with heap:=h₁,toks:=s3.toks+([]:List (Str×Value)).length}:=by
  refine yz (fun n s'=>∃ (i:Nat) (ys:List V) (its:List Value) (nn:Nat) (H':Hp),Inv XC [] (bR sub U) H' s'/\tn i s'.heap/\(∀ b∈fp,H' b=none)/\H' s2.heap.objs.size=none/\
   s'.heap.get? s2.heap.objs.size=some {cls:=.type "list",data:=.seq its.toArray nn}/\Vals ys its/\W i n ys H') ?_ m0
   ⟨0,[],[],_,H2,I4,T.keep _ _ _ st2 fun b _ o e=>hk31 b o (k23 b o e),fun b hb=>(f2 b hb).1,hDn,hk31 _ _ hD3,.nil,w0⟩
  rintro n s4 ⟨i,ys,its,nn,H4,J4,st4,fr4,dn4,dg4,rv4,w4⟩
  have P4:=pinD J4 dn4 dg4 (fun v z=>by cases z)
  rcases turn i n ys H4 w4 with ⟨stop,hyl,qn⟩ | ⟨go,hyl,N,hN,step⟩
  ·have hdone:=T.done XC eP eW eK eC i _ s4 _ H4 (fun _ _=>False) P4 (stat fr4) st4 stop
   rw [eA] at hdone
   refine Zu hdone (fun r s5 ⟨hr,I5⟩=>?_) fun _ _ z=>z
   subst hr
   obtain ⟨m,hn,_⟩:=id I5.loc
   have hCe:XC.env.locals=s3.heap.objs.size:=by rw [eE];rfl
   rw [hCe] at hn
   refine ⟨m,hn,fun h6 hs6=>?_⟩
   have hDg:=(I5.pin (s2.heap.objs.size,_) (by rw [ePn];exact Zn)).1
   have hDne:s2.heap.objs.size≠s3.heap.objs.size:=by rw [hsz];exact Zr (Aau _)
   have hHC:H4 s3.heap.objs.size=none:=by have:=I5.free;rw [hCe] at this;exact this
   have k56:∀ b o,b≠s3.heap.objs.size->s5.heap.get? b=some o->h6.get? b=some o:=fun b o hb e=>hs6.extBut b o hb e
   have un:=I5.base
   rw [eF,eEx,eH,eS] at un
   have nC:∀ b o,s3.heap.get? b=some o->b≠s3.heap.objs.size:=fun b o e=>Zr (Y6 e)
   have hok6:HOk X.prog X.w (upd H4 s2.heap.objs.size (.lst ys)) h6:=by
    have h5:=I5.hok
    rw [eP,eW] at h5
    have O1:∀ b u,H4 b=some u->b≠s3.heap.objs.size:=fun b u e z=>by rw [z,hHC] at e;cases e
    intro b u e
    by_cases hb:b=s2.heap.objs.size
    ·subst hb
     rw [aq] at e;cases e
     exact ⟨hyl,its,nn,rv4,k56 _ _ hDne hDg⟩
    ·rw [aD hb] at e
     have nD:∀ c u,H4 c=some u->c≠s2.heap.objs.size:=fun c u e z=>by rw [z,dn4] at e;cases e
     refine (h5 b u e).stay (fun c v hc' q=>k56 c v ?_ q) (fun c q=>by rw [aD (nD c _ q)];exact q) fun c xs q=>by rw [aD (nD c _ q)];exact q
     rcases hc' with z | z
     ·rw [z];exact O1 b u e
     ·exact O1 c _ z
   have nD2:∀ c u,H4 c=some u->c≠s2.heap.objs.size:=fun c u e z=>by rw [z,dn4] at e;cases e
   have un6:Un (frs X.stack) (s2.heap.objs.size :: fp) H2 (upd H4 s2.heap.objs.size (.lst ys)) s3.heap h6:=
    ⟨fun b o e nn' hb hx=>k56 b o (nC b o e) (un.keep b o e nn' hb hx),fun b o e nn' hb hx=>let ⟨sl,q⟩:=un.slot b o e nn' hb hx;⟨sl,k56 b _ (nC b o e) q⟩,
     fun b o e nn' hx=>by rw [aD (fun z=>hx (by rw [z];exact Zn))];exact un.free b o e nn' hx,
     fun b o e hx=>let ⟨o',q⟩:=un.there b o e hx;⟨o',k56 b o' (nC b o e) q⟩,
     fun b xs e=>by have q:=un.tups b xs e;rw [aD (nD2 b _ q)];exact q,
     fun b o u e=>by have q:=un.frzs b o u e;rw [aD (nD2 b _ q)];exact q,
     fun b ps e=>let ⟨more,q⟩:=un.tbls b ps e;⟨more,by rw [aD (nD2 b _ q)];exact q⟩⟩
   have I6:Inv X pins U (upd H4 s2.heap.objs.size (.lst ys)) {s5 with heap:=h6}:=by
    refine I3.call' (s':={s5 with heap:=h6}) (ch:=s2.heap.objs.size :: fp) ?_ un6 hok6 I5.bare fun b hb=>?_
    ·show s5.os=s3.os
     have:=I5.os
     rw [eS] at this
     exact this
    ·have q:mR X pins H2 b:=by
      rcases Za.mp hb with rfl | z
      ·exact fD
      ·exact f2 b z
     obtain ⟨f0,f1,f2',f3,f4,f5⟩:=q
     exact ⟨f3,f1,f4,f5⟩
   exact ⟨.ref s2.heap.objs.size,_,I6,rfl,qn _ dn4⟩
  ·have hitem:=T.item XC eP eW eK eC i _ s4 _ H4 (fun _ _=>False) P4 (stat fr4) st4 go
   rw [eA] at hitem
   refine Zu hitem (fun r s5 ⟨u,hr,h5⟩=>?_) fun _ _ z=>z
   subst hr
   dsimp only
   refine Zu h5 (fun _ s6 ⟨x,H6,I6,r6,y6,st6,fr6⟩=>?_) fun _ _ z=>z
   have P6:=I6.pinned (stat fr6) (T.obj _ _ st6)
   rw [← eE,← eP,← eW,← eA]
   refine Zu (hgC _ s6 _ H6 x u _ P6 r6 (step x H6 y6)) (fun _ s7 ⟨σ7,H7,I7,kp7,q7⟩=>?_) fun _ _ z=>by rw [eX] at z;exact z
   refine Zu (htC _ s7 σ7 H7 _ I7 q7) (fun ok s8 ⟨H8,I8,q8⟩=>?_) fun _ _ z=>by rw [eX] at z;exact z
   have fin:∀ {H9:Hp} {s9:Shared},Inv XC ([(s2.heap.objs.size,({cls:=.type "list",data:=.seq its.toArray nn}:Obj))] ++ uw fp s6.heap) σ7 H9 s9->Inv XC [] (bR sub U) H9 s9/\tn (i+1) s9.heap/\(∀ b∈fp,H9 b=none)/\H9 s2.heap.objs.size=none/\
     s9.heap.get? s2.heap.objs.size=some {cls:=.type "list",data:=.seq its.toArray nn}:=fun {H9 s9} J=>by
    have pD:=J.pin (s2.heap.objs.size,({cls:=.type "list",data:=.seq its.toArray nn}:Obj)) (by rw [ePn];simp)
    have pF:∀ b∈fp,∀ o,s6.heap.get? b=some o->s9.heap.get? b=some o/\H9 b=none:=fun b hb o e=>by
     have q:=J.pin (b,o) (by rw [ePn];exact ZF _ (ZF _ (nq hb e)))
     exact ⟨q.1,q.2.1⟩
    refine ⟨?_,T.keep _ _ _ st6 fun b hb o e=>(pF b hb o e).1,fun b hb=>?_,pD.2.1,pD.1⟩
    ·have J0:Inv XC [] σ7 H9 s9:=J.pins_of fun p hp=>nomatch hp
     exact J0.weak kp7.1.symm fun j v e=>kp7.2 j v e
    ·obtain ⟨o,e,_⟩:=T.obj _ _ st6 b hb
     exact (pF b hb o e).2
   cases ok with
   | false=>
    rw [if_neg (by simp)]
    rw [if_neg (by simp)] at q8
    obtain ⟨m',hm,w8⟩:=hN _ _ q8
    obtain ⟨a1,a2,a3,a4,a5⟩:=fin I8
    exact ⟨m',hm,i+1,ys,its,nn,H8,a1,a2,a3,a4,a5,rv4,w8⟩
   | true=>
    rw [if_pos rfl]
    rw [if_pos rfl] at q8
    refine Zu (heC _ s8 σ7 H8 _ I8 q8) (fun xv s9 ⟨y,H9,I9,r9,n9⟩=>?_) fun _ _ z=>by rw [eX] at z;exact z
    obtain ⟨m',hm,w9⟩:=hN _ _ n9
    obtain ⟨a1,a2,a3,a4,a5⟩:=fin I9
    refine wpAny_list_append_plain (items:=its.toArray) ⟨nn,a5⟩ (fun h' ⟨n',hp'⟩ sb=>?_) (by simp;rw [← rv4.length];omega)
    obtain ⟨q1,q2⟩:=I4.ok.exf s2.heap.objs.size (by rw [eEx];exact Zn)
    have a1':Inv XC [] (bR sub U) H9 {s9 with heap:=h'}:=a1.turned (t':=s9.toks) (fun b o hb e=>(sb.2 b hb).trans e) a4 q1 (.inl (by rw [eEx];exact Zn)) q2 (fun p hp=>by rw [ePn] at hp;exact nomatch hp)
    refine ⟨m',hm,i+1,ys ++ [y],its ++ [xv],n',H9,a1',T.keep _ _ _ a2 fun b hb o e=>(sb.2 b (fun z=>hDfp (by rw [← z];exact hb))).trans e,a3,a4,?_,rv4.append (.cons r9 .nil),w9⟩
    rw [hp']
    simp
 subst hs3
 exact codeAny_compStart_list loop (T.self _ 0 _ _ _ (T.keep _ _ _ st2 fun b _ o e=>hk31 b o (k23 b o e)) loop)
end
abbrev rm (sub:List (Option Nat)) (g:TG) (tt:TT) (te:TE) (U:St) (Q:VK) (J:It) (H1:Hp):Prop:=∃ W:Nat->Nat->List V->Hp->Prop,(∃ m,W 0 m [] H1)/\∀ i m ys H,W i m ys H->
 (J.stop i H/\ys.length<=sizeLine/\∀ D,H D=none->Q (.ref D) (upd H D (.lst ys)))\/
 (J.go i H/\ys.length < sizeLine/\∃ N:List V->Hp->Prop,(∀ ys' H',N ys' H'->∃ m',m' < m/\W (i+1) m' ys' H')/\
  ∀ x H',J.yld i H x H'->g x (bR sub U) H' fun σ2 H2=>KeepSt (bR sub U) σ2/\tt σ2 H2 fun b H3=>if b=true then te σ2 H3 fun y H4=>N (ys ++ [y]) H4 else N ys H3)
theorem zH {sub:List (Option Nat)} {g:TG} {tt:TT} {te:TE} {U:St} {Q:VK} {J:It} {H:Hp} {n:Nat} (Pv:Nat->List V->Hp->Prop) (hn:n<=sizeLine) (h0:Pv 0 [] H) (hl:∀ i ys H,Pv i ys H->ys.length<=i)
  (hgo:∀ i ys H,i < n->Pv i ys H->J.go i H) (hstop:∀ ys H,Pv n ys H->J.stop n H)
  (hs:∀ i ys H x H',i < n->Pv i ys H->J.yld i H x H'->g x (bR sub U) H' fun σ2 H2=>KeepSt (bR sub U) σ2/\tt σ2 H2 fun b H3=>if b=true then te σ2 H3 fun y H4=>Pv (i+1) (ys ++ [y]) H4 else Pv (i+1) ys H3)
  (hd:∀ ys H,Pv n ys H->∀ D,H D=none->Q (.ref D) (upd H D (.lst ys))):rm sub g tt te U Q J H:=by
 refine ⟨fun i m ys H=>m=n - i/\i<=n/\Pv i ys H,⟨n,by simp,gV _,h0⟩,?_⟩
 rintro i m ys H ⟨rfl,hi,p⟩
 have hl':=hl i ys H p
 by_cases hlt:i < n
 ·exact .inr ⟨hgo i ys H hlt p,by omega,fun ys' H'=>Pv (i+1) ys' H',fun ys' H' p'=>⟨n - (i+1),by omega,rfl,hlt,p'⟩,fun x H' y=>hs i ys H x H' hlt p y⟩
 ·have e:i=n:=by omega
  subst e
  exact .inl ⟨hstop ys H p,by omega,hd ys H p⟩
section
variable {κ:Type} [DecidableEq κ]
def jj (kvs:List (κ×V)) (k:κ):Option V:=(kvs.find? fun kv=>decide (kv.1=k)).map (·.2)
def putK (kvs:List (κ×V)) (k:κ) (v:V):List (κ×V):=
 if (kvs.any fun kv=>decide (kv.1=k))=true then kvs.map (fun kv=>if kv.1=k then (kv.1,v) else kv) else kvs ++ [(k,v)]
theorem Bt {k:κ}:jj ([]:List (κ×V)) k=none:=rfl
theorem dD {p:κ×V} {r:List (κ×V)} {k:κ} (e:p.1=k):jj (p :: r) k=some p.2:=by simp [jj,AaN,e]
theorem dF {p:κ×V} {r:List (κ×V)} {k:κ} (e:¬ p.1=k):jj (p :: r) k=jj r k:=by simp [jj,AaN,e]
theorem tG (k:κ):∀ kvs:List (κ×V),(kvs.any fun kv=>decide (kv.1=k))=(jj kvs k).isSome
 | []=>rfl
 | p :: r=>by
  rw [List.any_cons]
  by_cases e:p.1=k
  ·simp only [dD e,Y7 e,Bool.true_or,Option.isSome_some]
  ·rw [dF e,Zc e,Bool.false_or];exact tG k r
theorem Bu (k j:κ) (y:V):∀ kvs:List (κ×V),jj (kvs.map fun kv=>if kv.1=k then (kv.1,y) else kv) j=(jj kvs j).map fun x=>if j=k then y else x
 | []=>rfl
 | p :: r=>by
  have ih:=Bu k j y r
  rw [ZP]
  by_cases h:p.1=k
  ·rw [if_pos h]
   by_cases e:p.1=j
   ·rw [dD (p:=(p.1,y)) e,dD e,Option.map_some,if_pos (e.symm.trans h)]
   ·rw [dF (p:=(p.1,y)) e,dF e,ih]
  ·rw [if_neg h]
   by_cases e:p.1=j
   ·rw [dD (p:=p) e,dD e,Option.map_some,if_neg (fun z=>h (e.trans z))]
   ·rw [dF (p:=p) e,dF e,ih]
theorem yD (k j:κ) (y:V):∀ kvs:List (κ×V),jj kvs k=none->jj (kvs ++ [(k,y)]) j=if j=k then some y else jj kvs j
 | [],_=>by
  by_cases e:k=j
  ·rw [if_pos e.symm];exact dD (p:=(k,y)) e
  ·rw [if_neg (fun z=>e z.symm)];exact dF (p:=(k,y)) e
 | p :: r,hn=>by
  rw [List.cons_append]
  have hk:¬ p.1=k:=fun z=>by rw [dD z] at hn;cases hn
  rw [dF hk] at hn
  have ih:=yD k j y r hn
  by_cases e:p.1=j
  ·rw [dD e,dD e,if_neg (fun z=>hk (e.trans z))]
  ·rw [dF e,dF e,ih]
theorem tH (kvs:List (κ×V)) (k j:κ) (y:V):jj (putK kvs k y) j=if j=k then some y else jj kvs j:=by
 unfold putK
 by_cases a:(kvs.any fun kv=>decide (kv.1=k))=true
 ·rw [if_pos a,Bu]
  rw [tG] at a
  by_cases e:j=k
  ·obtain ⟨x,hx⟩:=Option.isSome_iff_exists.mp a
   rw [if_pos e,e,hx,Option.map_some,if_pos rfl]
  ·rw [if_neg e]
   cases jj kvs j with
   | none=>rfl
   | some x=>rw [Option.map_some,if_neg e]
 ·rw [if_neg a]
  refine yD k j y kvs ?_
  rw [tG] at a
  cases q:jj kvs k with
  | none=>rfl
  | some x=>rw [q] at a;exact (a rfl).elim
theorem jk (kvs:List (κ×V)) (k:κ) (v:V):(putK kvs k v).length<=kvs.length+1:=by
 unfold putK
 split
 ·rw [Zf];omega
 ·rw [Z3,Z6,List.length_nil];omega
theorem RelO.isSome_eq {o:Option V} {u:Option Value} (r:RelO o u):o.isSome=u.isSome:=by
 cases o with
 | none=>cases u with
  | none=>rfl
  | some _=>exact (show False from r).elim
 | some _=>cases u with
  | none=>exact (show False from r).elim
  | some _=>rfl
theorem KV.val {kvs:List (κ×V)} {vs:List (κ×Value)} (r:KV kvs vs) (k:κ):RelO (jj kvs k) (valueAt vs k):=by
 unfold KV at r
 induction r with
 | nil=>exact True.intro
 | @cons p q ps qs h t ih=>
  obtain ⟨h1,h2⟩:=h
  by_cases e:p.1=k
  ·have e':q.1=k:=h1.symm.trans e
   have b:valueAt (q :: qs) k=some q.2:=by simp [valueAt,AaN,e']
   rw [dD e,b];exact h2
  ·have e':¬ q.1=k:=fun z=>e (h1.trans z)
   have b:valueAt (q :: qs) k=valueAt qs k:=by simp [valueAt,AaN,e']
   rw [dF e,b];exact ih
theorem KV.any {kvs:List (κ×V)} {vs:List (κ×Value)} (r:KV kvs vs) (k:κ):(kvs.any fun kv=>decide (kv.1=k))=vs.any fun kv=>decide (kv.1=k):=by
 unfold KV at r
 induction r with
 | nil=>rfl
 | cons h t ih=>rw [List.any_cons,List.any_cons,ih,h.1]
theorem KV.repl {kvs:List (κ×V)} {vs:List (κ×Value)} (r:KV kvs vs) (k:κ) {y:V} {u:Value} (ry:RelV y u):
  KV (kvs.map fun kv=>if kv.1=k then (kv.1,y) else kv) (vs.map fun kv=>if kv.1=k then (kv.1,u) else kv):=by
 unfold KV at r ⊢
 induction r with
 | nil=>exact .nil
 | @cons p q ps qs h t ih=>
  rw [ZP,ZP]
  refine .cons ?_ ih
  obtain ⟨h1,h2⟩:=h
  by_cases e:p.1=k
  ·rw [if_pos e,if_pos (h1.symm.trans e)];exact ⟨h1,ry⟩
  ·rw [if_neg e,if_neg (fun z=>e (h1.trans z))];exact ⟨h1,h2⟩
theorem KV.put {kvs:List (κ×V)} {vs:List (κ×Value)} (r:KV kvs vs) (k:κ) {y:V} {u:Value} (ry:RelV y u):KV (putK kvs k y) (stored vs k u):=by
 unfold putK stored
 rw [r.any k]
 by_cases e:(vs.any fun kv=>decide (kv.1=k))=true
 ·rw [if_pos e,if_pos e];exact r.repl k ry
 ·rw [if_neg e,if_neg e];exact Paired.snoc r ⟨rfl,ry⟩
theorem KV.length {kvs:List (κ×V)} {vs:List (κ×Value)} (r:KV kvs vs):kvs.length=vs.length:=Paired.length r
end
theorem Bv {P:Program} {w:World} {k:Key} {u:Value} (r:RelV (kV k) u):(cj P w).is k u=true:=by
 cases k with
 | inl i=>obtain ⟨t,e⟩:=(show ∃ t,u=Value.int i t from r);subst e;exact Bh P w i t
 | inr x=>obtain ⟨t,e⟩:=(show ∃ t,u=Value.str x t from r);subst e;exact Bj P w x t
theorem yE {P:Program} {w:World}:∀ {ks:List Key} {us:List Value},Vals (ks.map kV) us->ItemsAre (cj P w) ks us
 | [],_,r=>by rw [List.map_nil] at r;cases r;exact .nil
 | k :: ks,_,r=>by
  rw [ZP] at r
  cases r with
  | cons h t=>exact .cons (Bv h) (yE t)
abbrev KT (H:Hp):List (List Key×V)->List (List Key×Addr×Value)->Prop:=Paired fun p q=>p.1=q.1/\H q.2.1=some (.tup (p.1.map kV))/\RelV p.2 q.2.2
theorem KT.val {H:Hp} {kvs:List (List Key×V)} {xs:List (List Key×Addr×Value)} (r:KT H kvs xs) (k:List Key):RelO (jj kvs k) ((atKey xs k).map (·.2)):=by
 induction r with
 | nil=>exact True.intro
 | @cons p q ps qs h t ih=>
  obtain ⟨h1,_,h2⟩:=h
  by_cases e:p.1=k
  ·have e':q.1=k:=h1.symm.trans e
   have b:atKey (q :: qs) k=some q.2:=by simp [atKey,AaN,e']
   rw [dD e,b];exact h2
  ·have e':¬ q.1=k:=fun z=>e (h1.trans z)
   have b:atKey (q :: qs) k=atKey qs k:=by simp [atKey,AaN,e']
   rw [dF e,b];exact ih
theorem KT.repl {H:Hp} {kvs:List (List Key×V)} {xs:List (List Key×Addr×Value)} (r:KT H kvs xs) (k:List Key) {y:V} {u:Value} (ry:RelV y u):
  KT H (kvs.map fun kv=>if kv.1=k then (kv.1,y) else kv) (xs.map (putAt k u)):=by
 induction r with
 | nil=>exact .nil
 | @cons p q ps qs h t ih=>
  rw [ZP,ZP]
  refine .cons ?_ ih
  obtain ⟨h1,h2,h3⟩:=h
  unfold putAt
  by_cases e:p.1=k
  ·rw [if_pos e,if_pos (h1.symm.trans e)];exact ⟨h1,h2,ry⟩
  ·rw [if_neg e,if_neg (fun z=>e (h1.trans z))];exact ⟨h1,h2,h3⟩
theorem KT.put {H:Hp} {kvs:List (List Key×V)} {xs:List (List Key×Addr×Value)} (r:KT H kvs xs) (k:List Key) {b:Addr} {y:V} {u:Value} (hb:H b=some (.tup (k.map kV))) (ry:RelV y u):
  KT H (putK kvs k y) (storedH xs k b u):=by
 have e:(kvs.any fun kv=>decide (kv.1=k))=(atKey xs k).isSome:=by
  rw [tG,(r.val k).isSome_eq,Option.isSome_map]
 unfold putK storedH
 rw [e]
 by_cases q:(atKey xs k).isSome=true
 ·rw [if_pos q,if_pos q];exact r.repl k ry
 ·rw [if_neg q,if_neg q];exact Paired.snoc r ⟨rfl,hb,ry⟩
theorem KT.keeps {H H':Hp} {kvs:List (List Key×V)} {xs:List (List Key×Addr×Value)} (r:KT H kvs xs) (ht:∀ b ys,H b=some (.tup ys)->H' b=some (.tup ys)):KT H' kvs xs:=
 Paired.mapP r fun _ _ z=>⟨z.1,ht _ _ z.2.1,z.2.2⟩
section
variable {P:Program} {w:World} {H:Hp} {h:Heap} {a:Addr}
theorem RW {u:HO} (ok:HOk P w H h) (e:Rd H a u):ObjOk P w H h a u:=e.ok ok
theorem Bw {kvs:List (Key×V)} (ok:HOk P w H h) (e:Rd H a (.dK kvs)):kvs.length<=sizeLine/\(a == sysModules)=false/\∃ vs,KV kvs vs/\h.DictOf (cj P w) a vs:=
 show ObjOk P w H h a (.dK kvs) from RW ok e
theorem Xc {kvs:List (Key×V)} (ok:HOk P w H h) (e:H a=some (.dK kvs)):kvs.length<=sizeLine/\(a == sysModules)=false/\∃ vs,KV kvs vs/\h.DictOf (cj P w) a vs:=Bw ok (.inl e)
theorem wA {ks:List Key} (ok:HOk P w H h) (e:H a=some (.tup (ks.map kV))):(tupleKind (cj P w)).is h ks a:=by
 obtain ⟨_,its,r,o,h1,h2,n,h3⟩:=(show ObjOk P w H h a (.tup (ks.map kV)) from ok a _ e)
 exact ⟨o,its.toArray,n,h1,h2,h3,by simpa using yE r⟩
theorem Bx {kvs:List (List Key×V)} (ok:HOk P w H h) (e:Rd H a (.dT kvs)):kvs.length<=sizeLine/\(a == sysModules)=false/\
  ∃ xs,KT H kvs xs/\h.DictOfH (tupleKind (cj P w)) a xs:=by
 obtain ⟨z,y,xs,r,o,es,ep,h1,h2,h3,h4,h5⟩:=(show ObjOk P w H h a (.dT kvs) from RW ok e)
 refine ⟨z,y,xs,r,o,es,ep,h1,h2,h3,h4,fun x hx=>?_,h5⟩
 have all:∀ {l:List (List Key×V)} {m:List (List Key×Addr×Value)},KT H l m->∀ x∈m,(tupleKind (cj P w)).is h x.1 x.2.1:=by
  intro l m q
  induction q with
  | nil=>intro x hx;exact nomatch hx
  | @cons p q ps qs hq t ih=>
   intro x hx
   rcases Za.mp hx with e | hx
   ·subst e
    exact wA ok (by rw [← hq.1];exact hq.2.1)
   ·exact ih x hx
 exact all r x hx
theorem Xd {kvs:List (List Key×V)} (ok:HOk P w H h) (e:H a=some (.dT kvs)):kvs.length<=sizeLine/\(a == sysModules)=false/\
  ∃ xs,KT H kvs xs/\h.DictOfH (tupleKind (cj P w)) a xs:=Bx ok (.inl e)
end
def DGet (H:Hp) (a:Addr) (y:V) (r:Option V):Prop:=
 (∃ kvs k,Rd H a (.dK kvs)/\y=kV k/\r=jj kvs k)\/∃ kvs k b,Rd H a (.dT kvs)/\y= .ref b/\H b=some (.tup (k.map kV))/\r=jj kvs k
def DPut (H:Hp) (a:Addr) (y v:V) (H':Hp):Prop:=
 (∃ kvs k,H a=some (.dK kvs)/\y=kV k/\kvs.length < sizeLine/\H'=upd H a (.dK (putK kvs k v)))\/
 ∃ kvs k b,H a=some (.dT kvs)/\y= .ref b/\H b=some (.tup (k.map kV))/\kvs.length < sizeLine/\H'=upd H a (.dT (putK kvs k v))
theorem DGet.k {H:Hp} {a:Addr} {kvs:List (Key×V)} {k:Key} (e:H a=some (.dK kvs)):DGet H a (kV k) (jj kvs k):=.inl ⟨kvs,k,.inl e,rfl,rfl⟩
theorem DPut.k {H:Hp} {a:Addr} {kvs:List (Key×V)} {k:Key} {v:V} (e:H a=some (.dK kvs)) (hl:kvs.length < sizeLine):DPut H a (kV k) v (upd H a (.dK (putK kvs k v))):=.inl ⟨kvs,k,e,rfl,hl,rfl⟩
section
variable {X:Cx} {pins:List (Addr×Obj)} {U:St} {H:Hp} {s:Shared} {a:Addr} {y v:V} {u r:Value} {o:Option V} {A:Around} {E:Value->Shared->Prop}
theorem Inv.big (I:Inv X pins U H s):sysModules < s.heap.objs.size:=by
 have h:mainGlobals < s.heap.objs.size:=(I.mod.glob.keeps I.bk).lt
 exact Nat.lt_trans (by decide) h
theorem Iw {Q:Value->Shared->Prop} (hu:A.units+1 < cLine) (I:Inv X pins U H s) (g:DGet H a y (some v)) (ry:RelV y u) (h:∀ w' s',Inv X pins U H s'->RelV v w'->Q w' s'):
  wpAny (model X.prog X.w) A (getItem (.ref a) u) Q E s:=by
 rcases g with ⟨kvs,k,e,ey,l⟩ | ⟨kvs,k,b,e,ey,eb,l⟩
 ·subst ey
  obtain ⟨z,hd,vs,rel,dd⟩:=Bw I.hok e
  obtain ⟨w',hw,rw'⟩:=RelO.some_of (v:=v) (o:=valueAt vs k) (by rw [l];exact rel.val k)
  exact wpAny_getItem_of (Bv ry) dd.mapOf hw (h w' _ (I.tok _) rw')
 ·subst ey
  cases (show u=Value.ref b from ry)
  obtain ⟨z,hd,xs,rel,dd⟩:=Bx I.hok e
  obtain ⟨w',hw,rw'⟩:=RelO.some_of (v:=v) (o:=(atKey xs k).map (·.2)) (by rw [l];exact rel.val k)
  obtain ⟨p,hp,hp2⟩:=Option.map_eq_some_iff.mp hw
  refine wpAny_getItem_heap (tupleKind_room_in1 hu) (wA I.hok eb) dd hp ?_
  rw [hp2]
  exact h w' _ (I.tok _) rw'
theorem d_in {Q:Value->Shared->Prop} (hu:A.units+1 < cLine) (I:Inv X pins U H s) (g:DGet H a y o) (ry:RelV y u) (h:∀ s',Inv X pins U H s'->Q (.bool o.isSome) s'):
  wpAny (model X.prog X.w) A (compareOp .In u (.ref a)) Q E s:=by
 rcases g with ⟨kvs,k,e,ey,l⟩ | ⟨kvs,k,b,e,ey,eb,l⟩
 ·subst ey
  obtain ⟨z,hd,vs,rel,dd⟩:=Bw I.hok e
  refine wpAny_in_of (Bv ry) hd dd.mapOf ?_
  rw [← (rel.val k).isSome_eq,← l]
  exact h _ (I.tok _)
 ·subst ey
  cases (show u=Value.ref b from ry)
  obtain ⟨z,hd,xs,rel,dd⟩:=Bx I.hok e
  refine wpAny_in_heap (tupleKind_room_in1 hu) (wA I.hok eb) hd dd ?_
  have q:=(rel.val k).isSome_eq
  rw [Option.isSome_map] at q
  rw [← q,← l]
  exact h _ (I.tok _)
theorem Qe {Q:Value->Shared->Prop} (hu:A.units+1 < cLine) (I:Inv X pins U H s) (g:DGet H a y o) (ry:RelV y u) (h:∀ s',Inv X pins U H s'->Q (.bool (!o.isSome)) s'):
  wpAny (model X.prog X.w) A (compareOp .NotIn u (.ref a)) Q E s:=by
 rcases g with ⟨kvs,k,e,ey,l⟩ | ⟨kvs,k,b,e,ey,eb,l⟩
 ·subst ey
  obtain ⟨z,hd,vs,rel,dd⟩:=Bw I.hok e
  refine wpAny_notIn_of (Bv ry) hd dd.mapOf ?_
  rw [← (rel.val k).isSome_eq,← l]
  exact h _ (I.tok _)
 ·subst ey
  cases (show u=Value.ref b from ry)
  obtain ⟨z,hd,xs,rel,dd⟩:=Bx I.hok e
  refine wpAny_notIn_heap (tupleKind_room_in1 hu) (wA I.hok eb) hd dd ?_
  have q:=(rel.val k).isSome_eq
  rw [Option.isSome_map] at q
  rw [← q,← l]
  exact h _ (I.tok _)
theorem Gk {h':Heap} {t':Nat} {ob:HO} (I:Inv X pins U H s) (mu:Wy (H a)) (hs:Heap.SameBut a s.heap h') (he:∃ q,h'.get? a=some q) (new:ObjOk X.prog X.w (upd H a ob) h' a ob):
  Inv X pins U (upd H a ob) {s with heap:=h',toks:=t'}:=
 I.write (x:=a) (e:=a) mu (.inl rfl) (fun b q hb z=>(hs.2 b hb).trans z) he new
theorem Us {P:Program} {w:World} {H':Hp} {h':Heap} {kvs:List (Key×V)} {vs:List (Key×Value)} (z:kvs.length<=sizeLine) (hd:(a == sysModules)=false) (rel:KV kvs vs) (dd:h'.DictOf (cj P w) a vs):
  ObjOk P w H' h' a (.dK kvs):=⟨z,hd,vs,rel,dd⟩
theorem Iz {H':Hp} {Q:Unit->Shared->Prop} (hu:A.units+1 < cLine) (I:Inv X pins U H s) (g:DPut H a y v H') (ry:RelV y u) (rv:RelV v r) (h:∀ s',Inv X pins U H' s'->Q () s'):
  wpAny (model X.prog X.w) A (setItem (.ref a) u r) Q E s:=by
 rcases g with ⟨kvs,k,e,ey,l,eH⟩ | ⟨kvs,k,b,e,ey,eb,l,eH⟩
 ·subst ey eH
  obtain ⟨z,hd,vs,rel,dd⟩:=Xc I.hok e
  have hz:vs.length<=sizeLine:=by rw [← rel.length];exact z
  have hl:(putK kvs k v).length<=sizeLine:=by have:=jk kvs k v;omega
  refine wpAny_setItem_pairs (hsz:=hz) (Bv ry) dd fun h' dd' hs=>h _ ?_
  have he:∃ q,h'.get? a=some q:=let ⟨q,_,_,hq,_⟩:=dd';⟨q,hq⟩
  exact Gk I (by rw [e];exact True.intro) hs he (Us hl hd (rel.put k rv) dd')
 ·subst ey eH
  cases (show u=Value.ref b from ry)
  obtain ⟨z,hd,xs,rel,dd⟩:=Xd I.hok e
  have hz:xs.length<=sizeLine:=by rw [← Paired.length rel];exact z
  have hl:(putK kvs k v).length<=sizeLine:=by have:=jk kvs k v;omega
  refine wpAny_setItem_heap (hsz:=hz) (tupleKind_room_in1 hu) (wA I.hok eb) dd fun h' dd' hs=>h _ ?_
  obtain ⟨q,es,ep,hq,h2,h3,h4,_,h5⟩:=dd'
  refine Gk I (by rw [e];exact True.intro) hs ⟨q,hq⟩ ⟨hl,hd,_,(rel.put k eb rv).keeps fun c ys ec=>?_,q,es,ep,hq,h2,h3,h4,h5⟩
  rw [aD (Wx ec e (fun z=>nomatch z))]
  exact ec
end
def Xe (i:Expr):Prop:=∀ ov iv,subscripted i false ov iv=operate [ov,iv] (getItem ov iv)
theorem Qf {prog:Program} {w:World} {A:Around} {E:Value->Shared->Prop} {s:Shared} {env:Env} {value slice:Expr} {pos:Pos} {T id:String} {Q:Value->Shared->Prop}
  (hl:typeLookup (.type T) "__getitem__"=pure (some (.builtin id))) (hs:Xe slice)
  (h:wpAny (model prog w) A (eval value env) (fun o s₁=>wpAny (model prog w) A (eval slice env) (fun i s₂=>s₂.TypeIs o T/\wpAny (model prog w) A (getItem o i) Q E s₂) E s₁) E s):
  wpAny (model prog w) A (eval (.Subscript value slice pos) env) Q E s:=by
 refine Subscript_ (Zu h (fun o s₁ h₁=>Zu h₁ (fun i s₂ h₂=>?_) fun _ _ x=>x) fun _ _ x=>x)
 obtain ⟨hT,h₂⟩:=h₂
 unfold subscriptTail
 refine YS ?_
 rw [getitemInPython_of_ne hT.not_modules]
 refine YS (AaO hT hl ?_)
 have fin:wpAny (model prog w) A (subscripted slice false o i) (fun r s₃=>wpAny (model prog w) A (letTemporaryGo value o r >>=fun _=>pure r) Q E s₃) E s₂:=by
  rw [hs o i]
  exact wpAny_operating (Zu h₂ (fun r s₃ h₃=>YS (wpAny_letTemporaryGo (Y0 h₃))) fun _ _ x=>x)
 first
  | exact Y0 (YS fin)
  | exact YS (Y0 (YS fin))
  | exact YS fin
theorem By {X:Cx} {pins:List (Addr×Obj)} {U:St} {H:Hp} {s:Shared} {a:Addr} {y:V} {o:Option V} (I:Inv X pins U H s) (g:DGet H a y o):s.TypeIs (.ref a) "dict":=by
 rcases g with ⟨kvs,k,e,_,_⟩ | ⟨kvs,k,b,e,_,_,_⟩
 ·obtain ⟨_,_,vs,_,dd⟩:=Bw I.hok e
  exact dd.typeIs
 ·obtain ⟨_,_,xs,_,dd⟩:=Bx I.hok e
  exact dd.typeIs
def Lb (td ty:TE):TE:=fun U H Q=>td U H fun x H1=>ty U H1 fun y H2=>∃ a v,x= .ref a/\DGet H2 a y (some v)/\Q v H2
section
variable {X:Cx} {o i e value:Expr} {pos pos' tpos:Pos} {td ty tv:TE}
theorem Qg (hu:X.A.units+1 < cLine) (ho:PE X o td) (hi:PE X i ty) (hs:Xe i):PE X (.Subscript o i pos) (Lb td ty):=by
 intro pins s U H Q I h
 refine Qf PySem.F.slot_dict_getitem.lookup hs (bV (ho pins s U H _ I h) fun u s1 ⟨x,H1,I1,rx,q1⟩=>bV (hi pins s1 U H1 _ I1 q1) fun iv s2 qq0=>?_)
 obtain ⟨y,H2,I2,ry,a,v,ex,g,q2⟩:=qq0
 subst ex
 obtain rfl:u=Value.ref a:=rx
 exact ⟨By I2 g,Iw hu I2 g ry fun w' s3 I3 rw'=>⟨v,H2,I3,rw',q2⟩⟩
end
theorem Ld {P:Program} {w:World} {H:Hp} (h:Heap) (hb:sysModules < h.objs.size):ObjOk P w H (h.push {cls:=.type "dict",data:=.dict #[]}) h.objs.size (.dK []):=
 ⟨gV _,Aap.mpr (Ne.symm (Zr hb)),[],.nil,Heap.DictOf.new h⟩
def Eg:TE:=fun _ H Q=>∀ p,H p=none->Q (.ref p) (upd H p (.dK []))
section
variable {X:Cx} {pos:Pos}
theorem Le:PE X (.Dict [] [] pos) Eg:=fun pins s U H Q I h=>
 wpAny_Dict_empty ⟨.ref s.heap.objs.size,_,I.laid (a:=s.heap.objs.size) (o:=.dK []) (t':=s.toks) (fun _ _ q=>YW _ q) (YZ _) (Ld s.heap I.big),rfl,h _ (I.hok.fresh (YZ _))⟩
end
def Qh (x:Str):It:=⟨fun i _=>i < x.cps.size,fun i H v H'=>H'=H/\∃ c,x.cps[i]?=some c/\v= .str ⟨#[c]⟩,fun i _=>i=x.cps.size⟩
theorem BJ {P:Program} {w:World} {K:W.Frag} {tg:Expr} (it:Addr) (x:Str) (t:Tok) (ty:String)
  (hty:["enumerate","zip","dict_itemiterator","dict_reverseitemiterator","odict_iterator","itertools.zip_longest","itertools.pairwise"].contains ty=false)
  (W:∀ A:Around,A.handled=none->Walks P w A it [it] [it] x.cps.size (SignAt x) fun i h=>h.IsStrIter it ty x t i)
  (hself:∀ (A:Around) (i:Nat) (s:Shared) (Q:Value->Shared->Prop) (E:Value->Shared->Prop),s.heap.IsStrIter it ty x t i->Q (.ref it) s->wpAny (model P w) A (pyIter (.ref it)) Q E s):Turn P w K tg (Qh x) [it] it (fun i h=>h.IsStrIter it ty x t i) where
 mem:=by simp
 obj:=fun i h st b hb=>by
  have e:b=it:=by simpa using hb
  subst e
  obtain ⟨o,e,c,d⟩:=st
  exact ⟨o,e,fun v z=>by rw [d] at z;cases z⟩
 keep:=fun i h h' st k=>by
  obtain ⟨o,e,r⟩:=st
  exact ⟨o,k it (by simp) o e,r⟩
 item:=by
  intro X hP hw hK hc i pins s U H E I hf st hg
  subst hP hw hK
  obtain ⟨f0,f1,f2,f3,f4,f5⟩:=hf it (by simp)
  refine (W X.A (I.ok.hd hc)).item i s _ _ hg st fun v h' tk hv st' kk=>?_
  obtain ⟨c,u,e1,rfl⟩:=hv
  have I1:Inv X pins U H {s with heap:=h',toks:=tk}:=I.turned (fun b o hb e=>kk b o (by simpa using hb) e) f0 f1 f3 f4 f5
  obtain ⟨o,e,cl,d⟩:=id st'
  exact ⟨_,rfl,yf (s:={s with heap:=h',toks:=tk}) e cl d hty ⟨.str ⟨#[c]⟩,H,I1,⟨u,rfl⟩,⟨rfl,c,e1,rfl⟩,st',fun b hb=>(hf b hb).1⟩⟩
 done:=by
  intro X hP hw hK hc i pins s U H E I hf st hg
  subst hP hw hK
  obtain ⟨f0,f1,f2,f3,f4,f5⟩:=hf it (by simp)
  have hg:i=x.cps.size:=hg
  subst hg
  exact (W X.A (I.ok.hd hc)).done s _ _ st fun h' tk kk=>⟨rfl,I.turned (fun b o hb e=>kk b o (by simpa using hb) e) f0 f1 f3 f4 f5⟩
 self:=hself
section
variable {X:Cx}
theorem all_range {bs:List Bool}:(List.range bs.length).all (fun i=>bs.getD i false)=bs.all id:=by
 rw [Bool.eq_iff_iff]
 simp only [Aaf,Zj]
 constructor
 ·intro h b hb
  obtain ⟨i,hi,e⟩:=AaZ.mp hb
  have:=h i hi
  rw [YT,YX hi] at this
  simp only [Option.getD_some] at this
  rw [← e];exact this
 ·intro h i hi
  rw [YT,YX hi]
  exact h _ (Aaw hi)
theorem uZ:∀ {bs:List Bool} {us:List Value} {i:Nat} {v:Value},Vals (bs.map V.bl) us->us[i]?=some v->v= .bool (bs.getD i false)
 | [],_,i,v,.nil,e=>by simp at e
 | b :: bs,_,0,v,.cons r t,e=>by simp at e;subst e;exact r
 | b :: bs,_,i+1,v,.cons r t,e=>by
  simp at e
  have:=uZ (bs:=bs) t e
  simpa using this
def rAll:List V->Hp->VK->Prop:=fun xs H Q=>∃ (p:Addr) (bs:List Bool),xs=[.ref p]/\H p=some (.lst (bs.map V.bl))/\Q (.bl (bs.all id)) H
theorem wB (hc:X.calm=true):CallR X (.builtin "all") rAll:=by
 intro pins s U H xs us Q I r h
 obtain ⟨p,bs,rfl,hp,q⟩:=h
 obtain ⟨u,rfl,ru⟩:=vals1 r
 cases ru
 obtain ⟨hz,its,n,rv,e⟩:=I.hok p _ hp
 refine call_all_walk (wpAny_pyIter_list (items:=its.toArray) ⟨_,e,rfl,n,rfl⟩ ?_)
 refine ⟨s.heap.objs.size,_,_,_,_,_,fun i=>bs.getD i false,rfl,Walks.list (A:=X.A.in1) (I.ok.hd hc) s.heap.objs.size p (Zr (Y6 e)) its.toArray,⟨⟨_,Y9 _ rfl,rfl,rfl⟩,⟨_,YW _ e,rfl,n,rfl⟩⟩,?_,fun h' tk hk=>?_⟩
 ·intro i v s' Q' E' hv hq
  have:=uZ rv (by simpa using hv)
  subst this
  exact Z8 hq
 ·have hl:its.toArray.size=bs.length:=by have:=rv.length;simpa using this.symm
  rw [hl,all_range]
  refine ⟨.bl _,H,?_,rfl,q⟩
  exact I.kept fun b o e=>hk b o (by simp;exact Zr (Y6 e)) (YW _ e)
def Xf:V->Option Int->Option Int->Hp->VK->Prop:=fun v lo hi H Q=>∃ x,v= .str x/\x.length<=sizeLine/\Q (.str (Txt.slice x lo hi)) H
theorem Ut:SlR X Xf:=by
 intro pins s U H x v vl vu lo hi sl Q I rx hs pl pu h
 obtain ⟨z,rfl,hz,q⟩:=h
 obtain ⟨t,rfl⟩:=rx
 refine ⟨"str",_,F.slot_str_getitem.lookup,typeIs_str _ _ _,?_⟩
 have fin:∀ (t' k:Nat),EP X pins U Q (.str (Txt.slice z lo hi) t') {s with toks:=k}:=fun t' k=>⟨.str _,H,I.tok _,⟨_,rfl⟩,q⟩
 have sz:=Zo (Txt.slice_le z lo hi) hz
 obtain ⟨o,ho,hc,hd⟩:=hs
 cases pl with
 | none=>
  cases pu with
  | none=>exact Aan (l:=none) (u:=none) (st:=none) ⟨o,ho,hc,hd⟩ rfl (post_val_or_str ⟨sz,fin⟩)
  | int j tj=>exact Aan (l:=none) (u:=some (j,tj)) (st:=none) ⟨o,ho,hc,hd⟩ rfl (post_val_or_str ⟨sz,fin⟩)
 | int i ti=>
  cases pu with
  | none=>exact Aan (l:=some (i,ti)) (u:=none) (st:=none) ⟨o,ho,hc,hd⟩ rfl (post_val_or_str ⟨sz,fin⟩)
  | int j tj=>exact Aan (l:=some (i,ti)) (u:=some (j,tj)) (st:=none) ⟨o,ho,hc,hd⟩ rfl (post_val_or_str ⟨sz,fin⟩)
def RX:R2:=fun x y H Q=>∃ i n,x= .str i/\y= .int n/\MulOk i n/\Q (.str (Txt.mul i n)) H
theorem Eh:OpR X (binaryOp .Mult) RX:=by
 intro pins s U H x y v u Q I rx ry h
 obtain ⟨i,n,rfl,rfl,hk,q⟩:=h
 obtain ⟨t,rfl⟩:=rx
 obtain ⟨t',rfl⟩:=ry
 exact SB.mul hk fun t' k=>⟨.str _,H,I.tok _,⟨_,rfl⟩,q⟩
def sgn (x:Str):List V:=x.cps.toList.map fun c=>V.str ⟨#[c]⟩
theorem IK {x:Str} {acc:Array Value} (h:ItemsOf (SignAt x) acc x.cps.size):Vals (sgn x) acc.toList:=by
 obtain ⟨h1,h2⟩:=h
 have key:∀ (l:List Nat) (a:List Value),l.length=a.length->(∀ (j:Nat) (v:Value),a[j]?=some v->∃ (c:Nat) (u:Tok),l[j]?=some c/\v=Value.str ⟨#[c]⟩ u)->Vals (l.map fun c=>V.str ⟨#[c]⟩) a:=by
  intro l
  induction l with
  | nil=>intro a hl _;cases a with
   | nil=>exact .nil
   | cons _ _=>simp at hl
  | cons c l ih=>
   intro a hl hh
   cases a with
   | nil=>simp at hl
   | cons v a=>
    obtain ⟨c',u,e1,e2⟩:=hh 0 v (by simp)
    simp at e1;subst e1
    refine .cons ⟨u,e2⟩ (ih a (by simpa using hl) fun j v' e=>?_)
    obtain ⟨c',u,e1,e2⟩:=hh (j+1) v' (by simpa using e)
    exact ⟨c',u,by simpa using e1,e2⟩
 refine key x.cps.toList acc.toList (by simp [h1]) fun j v e=>?_
 obtain ⟨c,u,e1,e2⟩:=h2 j v (by simpa using e)
 exact ⟨c,u,by simpa using e1,e2⟩
theorem BK (hc:X.calm=true):CallR X (.type "list") (fun xs H Q=>∃ x,xs=[.str x]/\x.cps.size<=sizeLine/\∀ p,H p=none->Q (.ref p) (upd H p (.lst (sgn x)))):=by
 intro pins s U H xs us Q I r h
 obtain ⟨x,rfl,hz,q⟩:=h
 obtain ⟨u,rfl,t,rfl⟩:=vals1 r
 refine call_list_str (I.ok.hd hc) x t (hn:=hz) fun h' tk acc' c' hk hS hacc=>?_
 refine ⟨.ref s.heap.objs.size,_,I.laid (o:=.lst (sgn x)) hk (YZ _) ⟨by simp [sgn];exact hz,acc'.toList,c',IK hacc,by simpa using hS⟩,rfl,q _ I.fresh⟩
def Uu (K:W.Frag):List V->Hp->VK->Prop:=fun xs H Q=>∃ x T t b,xs=[x,.ty T]/\TyOf K H x t/\PySem.W.kitOne K t (.type T)=some b/\Q (.bl b) H
theorem Lf:CallR X (.builtin "isinstance") (Uu X.K):=by
 intro pins s U H xs us Q I r h
 obtain ⟨x,T,t,b,rfl,ty,e,q⟩:=h
 obtain ⟨u,v,rfl,ru,rv⟩:=vals2 r
 cases rv
 exact Ii I ru ty e fun tk=>⟨.bl b,H,I.tok _,rfl,q⟩
def Ei:List V->List V->Bool
 | [],[]=>true
 | x :: xs,y :: ys=>Gh x y && Ei xs ys
 | _,_=>false
theorem wC:∀ (xs ys:List V),xs.length=ys.length->(List.range xs.length).all (fun j=>Gh (xs.getD j .non) (ys.getD j .non))=Ei xs ys
 | [],[],_=>rfl
 | x :: xs,y :: ys,h=>by
  have ih:=wC xs ys (by simpa using h)
  rw [Z6,List.range_succ_eq_map,ZG,List.all_map]
  simp only [Ei]
  rw [← ih]
  rfl
 | [],y :: ys,h=>by simp at h
 | x :: xs,[],h=>by simp at h
theorem BL:∀ {xs ys:List V},xs.length≠ys.length->Ei xs ys=false
 | [],[],h=>absurd rfl h
 | [],y :: ys,_=>rfl
 | x :: xs,[],_=>rfl
 | x :: xs,y :: ys,h=>by simp [Ei,BL (xs:=xs) (ys:=ys) (by simpa using h)]
def Xg (K:W.Frag) (neg:Bool):R2:=fun x y H Q=>∃ a b xs ys,x= .ref a/\y= .ref b/\SqL K H a xs/\SqL K H b ys/\xs.all lK=true/\ys.all lK=true/\Q (.bl (if neg then !Ei xs ys else Ei xs ys)) H
theorem IV (hu:X.A.units < cLine):OpR X (compareOp .Eq) (Xg X.K false):=by
 intro pins s U H x y v u Q I rx ry h
 obtain ⟨a,b,xs,ys,rfl,rfl,ha,hb,fx,fy,q⟩:=h
 cases rx
 cases ry
 obtain ⟨its,r1,p1,z1⟩:=I.list ha
 obtain ⟨jts,r2,p2,z2⟩:=I.list hb
 have l1:its.toArray.size=xs.length:=by simpa using r1.length.symm
 have l2:jts.toArray.size=ys.length:=by simpa using r2.length.symm
 by_cases hl:xs.length=ys.length
 ·refine SeqAt.eq_listAt (e:=fun j=>Gh (xs.getD j .non) (ys.getD j .non)) p1.isList p2.isList (by rw [l1,l2];exact hl) hu (fun j h1 h2=>?_) ?_
  ·have h1':j < xs.length:=by omega
   have h2':j < ys.length:=by omega
   obtain ⟨u1,e1,q1⟩:=r1.get (YX h1')
   obtain ⟨u2,e2,q2⟩:=r2.get (YX h2')
   have e1':its.toArray[j]=u1:=by
    have:=Y4.mp e1
    obtain ⟨_,z⟩:=this
    simpa using z
   have e2':jts.toArray[j]=u2:=by
    have:=Y4.mp e2
    obtain ⟨_,z⟩:=this
    simpa using z
   rw [e1',e2']
   have g1:xs.getD j .non=xs[j]:=by rw [YT,YX h1'];rfl
   have g2:ys.getD j .non=ys[j]:=by rw [YT,YX h2'];rfl
   show SeqAt.EqAt X.A.in1 s u1 u2 (Gh (xs.getD j .non) (ys.getD j .non))
   rw [g1,g2]
   exact zA q1 q2 (Aaf.mp fx _ (Aaw h1')) (Aaf.mp fy _ (Aaw h2'))
  ·rw [l1,wC xs ys hl]
   exact ⟨.bl _,H,I,rfl,q⟩
 ·refine SeqAt.eq_list_lengthsAt p1.isList p2.isList (by rw [l1,l2];simpa using hl) hu ?_
  rw [if_neg (by simp),BL hl] at q
  exact ⟨.bl false,H,I,rfl,q⟩
end
def b7 (K:W.Frag) (mg:Str->Option Value) (x:Str) (st:Stmt):Prop:=∃ f fd,Fun K x x st f fd/\mg x=some (.ref f)
theorem aW {K:W.Frag} {mg:Str->Option Value} {h:Heap} (X:K.In h) (G:h.Ns mainGlobals mg) {x:Str} {st:Stmt} {f:Addr} {oc:Value} {od an:Option Addr} {osl:Array (Option Value)} {kV doc pm cdv ct:Value}
  (a:PySem.W.nsIn K mainGlobals x=some (some (.ref f)))
  (l:K.lookup f=some ⟨oc,od,.func (PySem.W.fnOf x x (cu st) (bC st) (az st) .none kV doc pm an cdv ct),osl⟩)
  (c:PySem.W.codeIn K cdv x=true) (k:PySem.W.keepIn K (.ref f)=true):b7 K mg x st:=⟨f,_,wj l c k,ZQ X G a⟩
def Has (P:Program) (w:World) (K:W.Frag) (mg:Str->Option Value) (base:Heap) (k:Nat) (x:Str) (ps:List Str) (sp:Sp):Prop:=
 ∃ f fd,mg x=some (.ref f)/\PySem.W.keepIn K (.ref f)=true/\Binds K fd ps []/\FnOk P w K mg base Ir k f fd ps sp
section
variable {P:Program} {w:World} {K:W.Frag} {mg:Str->Option Value} {base:Heap}
theorem Has.mono {j k:Nat} {x:Str} {ps:List Str} {sp:Sp} (h:Has P w K mg base j x ps sp) (hk:j<=k):Has P w K mg base k x ps sp:=
 let ⟨f,fd,a,b,c,d⟩:=h;⟨f,fd,a,b,c,d.mono hk⟩
theorem Uv {x:Str} {st:Stmt} {N ps:List Str} {k:Nat} {sp:Sp} (D:b7 K mg x st) (S:aC N ps (az st))
  (hb:∀ (kV doc pm:Value) (an:Option Addr) (cdv ct:Value) (us:List Value),us.length=ps.length->bindArgs (PySem.W.fnOf x x (cu st) (bC st) (az st) .none kV doc pm an cdv ct) ⟨us,[]⟩=pure (ps.zip us))
  (len:∀ vs H Q E,sp vs H Q E->vs.length=ps.length)
  (hbody:∀ (f:Addr) (cdv:Value) (A:Around) (outer:List Env) (s:Shared) (H:Hp) (vs:List V) (Q:VK) (E:XK),Room k (A.deeper (envOfC x (az st) s.heap.objs.size f cdv))->sp vs H Q E->
   ∃ t,PSs (o5 Ir P w K mg base N x (az st) f cdv A outer s H E).nox (bC st) t/\t {nx:=fun _ H'=>Q .non H',rt:=Q} (start N vs) H):Has P w K mg base (k+1) x ps sp:=by
 obtain ⟨f,fd,F,hm⟩:=D
 exact ⟨f,fd,hm,F.kp,F.binds hb,F.ok S len fun cdv A outer s H vs Q E hr h=>hbody f cdv A outer s H vs Q E hr h⟩
end
section
variable {X:Cx}
theorem Lg {k:Nat} {x:Str} {ps:List Str} {sp:Sp} {p pos:Pos} {e:Expr} {es:List Expr} {t:TA} (F:Has X.prog X.w X.K X.mg X.base k x ps sp) (hr:Room k X.A) (hg:Gl X x)
  (ha:PA X (e :: es) t) (hdb:autoParam ((x == ("__debug__":Str))=false) L2.auto2._auto_1) (he:autoParam (starEach (e :: es) X.env=(false,eval e X.env) :: starEach es X.env) L2.auto4._auto_1) (hpl:autoParam ((backTo pos (starEach es X.env)).any (·.1)=false) L2.auto4._auto_1):
  PE X (.Call (.Name x p) (e :: es) [] pos) (yo sp [] E0 t):=by
 obtain ⟨f,fd,a,b,c,d⟩:=F
 exact PQ d hr hg a b c .nil Xb ha hdb he hpl
def BP:R2:=fun x y H Q=>(∃ i j,x= .int i/\y= .int j/\Q (.int (i+j)) H)\/(∃ i j,x= .str i/\y= .str j/\i.length+j.length<=sizeLine/\Q (.str (i ++ j)) H)\/W9 x y H Q
theorem aR:OpR X (binaryOp .Add) BP:=T6.or (DP.or Uq)
def Lh:R2:=fun x y H Q=>(∃ i j,x= .int i/\y= .int j/\CMul i j/\Q (.int (i*j)) H)\/RX x y H Q\/Xa x y H Q
theorem nG:OpR X (binaryOp .Mult) Lh:=T7.or (Eh.or Ur)
theorem Li {x:Str} {z:Str} {pos:Pos} (hg:Gl X x) (hm:∃ t,X.mg x=some (.str z t)) (hd:autoParam ((x == ("__debug__":Str))=false) L2.auto2._auto_1):PE X (.Name x pos) (tC (.str z)):=
 let ⟨t,e⟩:=hm;zr hg e ⟨t,rfl⟩ hd
theorem Lj {x:Str} {z:Int} {pos:Pos} (hg:Gl X x) (hm:∃ t,X.mg x=some (.int z t)) (hd:autoParam ((x == ("__debug__":Str))=false) L2.auto2._auto_1):PE X (.Name x pos) (tC (.int z)):=
 let ⟨t,e⟩:=hm;zr hg e ⟨t,rfl⟩ hd
theorem Xh {x:Str} {T:String} {pos:Pos} (hg:Gl X x) (hm:X.mg x=none) (hv:bootBuiltins x=some (.type T)) (hn:autoParam (x≠"__name__") L2.auto2._auto_1) (hd:autoParam ((x == ("__debug__":Str))=false) L2.auto2._auto_1):PE X (.Name x pos) (tC (.ty T)):=
 O6 hg hm hv rfl hn hd
def Qi (K:W.Frag):R2:=fun x y H Q=>(∃ i j,x= .str i/\y= .str j/\Q (.bl (!(Builtin.Str.occurrences j i 0 j.length 1).isEmpty)) H)\/YD K false x y H Q
theorem Uw:OpR X (compareOp .In) (Qi X.K):=Ig.or Im
def zJ (K:W.Frag):R2:=fun x y H Q=>(∃ i j,x= .str i/\y= .str j/\Q (.bl (!(!(Builtin.Str.occurrences j i 0 j.length 1).isEmpty))) H)\/YD K true x y H Q
theorem IW:OpR X (compareOp .NotIn) (zJ X.K):=zE.or zB
def Ux (K:W.Frag):R2:=fun x y H Q=>rEq x y H Q\/Xg K false x y H Q
theorem Uy (hu:X.A.units < cLine):OpR X (compareOp .Eq) (Ux X.K):=WQ.or (IV hu)
def Xi (K:W.Frag):V->Option Int->Option Int->Hp->VK->Prop:=fun x lo hi H Q=>W5 K x lo hi H Q\/WW K x lo hi H Q\/Xf x lo hi H Q
theorem Lk:SlR X (Xi X.K):=Qc.or (Uk.or Ut)
def Qj (K:W.Frag) (tl:TE):TI:=fun U H R=>tl U H fun x H1=>(∃ a,x= .ref a/\(∃ xs,SqL K H1 a xs)/\R (Pq K a) H1)\/(∃ a,x= .ref a/\(∃ xs,SqT K H1 a xs)/\R (Wl K a) H1)\/(∃ z,x= .str z/\R (Qh z) H1)
theorem Uz {tg l:Expr} {tl:TE} (hl:PE X l tl):PI X tg l (Qj X.K tl):=by
 intro pins s U H R I h
 refine bV (hl pins s U H _ I h) fun v s1 qq0=>?_
 obtain ⟨x,H1,I1,r1,q1⟩:=qq0
 rcases q1 with ⟨a,rfl,⟨xs,hq⟩,q⟩ | ⟨a,rfl,⟨xs,hq⟩,q⟩ | ⟨z,rfl,q⟩
 ·cases r1
  obtain ⟨its,rv,p,hz⟩:=I1.list hq
  refine wpAny_pyIter_list p.isList ?_
  refine ⟨s1.heap.objs.size,[s1.heap.objs.size],_,_,H1,rfl,I1.kept (t':=s1.toks) fun b o e=>YW _ e,HY a _,⟨_,Y9 _ rfl,rfl,rfl⟩,fun b hb=>?_,q⟩
  have e:b=s1.heap.objs.size:=by simpa using hb
  subst e
  exact I1.fpOk (YZ _) (I1.hok.fresh (YZ _))
 ·cases r1
  obtain ⟨its,rv,p,hz⟩:=I1.tuple hq
  refine wpAny_pyIter_tuple (show s1.heap.IsTuple a its.toArray from p) ?_
  refine ⟨s1.heap.objs.size,[s1.heap.objs.size],_,_,H1,rfl,I1.kept (t':=s1.toks) fun b o e=>YW _ e,DK a _,⟨_,Y9 _ rfl,rfl,rfl⟩,fun b hb=>?_,q⟩
  have e:b=s1.heap.objs.size:=by simpa using hb
  subst e
  exact I1.fpOk (YZ _) (I1.hok.fresh (YZ _))
 ·obtain ⟨t,rfl⟩:=r1
  have fin:∀ (ty:String) (T:Turn X.prog X.w X.K tg (Qh z) [s1.heap.objs.size] s1.heap.objs.size (fun i h=>h.IsStrIter s1.heap.objs.size ty z t i)) (o:Obj),(s1.heap.push o).IsStrIter s1.heap.objs.size ty z t 0->PIE X pins U tg R (.ref s1.heap.objs.size) {s1 with heap:=s1.heap.push o}:=
   fun ty T o st=>⟨s1.heap.objs.size,[s1.heap.objs.size],_,_,H1,rfl,I1.kept (t':=s1.toks) fun b o e=>YW _ e,T,st,fun b hb=>by
    have e:b=s1.heap.objs.size:=by simpa using hb
    subst e
    exact I1.fpOk (YZ _) (I1.hok.fresh (YZ _)),q⟩
  cases ha:z.cps.all (· < 128)
  ·exact wpAny_pyIter_wide ha (fin "str_iterator" (BJ _ z t _ (by decide) (fun A' hA=>Walks.strWide hA _ z t) fun A i s Q E st h=>wpAny_pyIter_striter_wide st h) _ ⟨_,Y9 _ rfl,rfl,rfl⟩)
  ·exact wpAny_pyIter_ascii ha (fin "str_ascii_iterator" (BJ _ z t _ (by decide) (fun A' hA=>Walks.strAscii hA _ z t) fun A i s Q E st h=>wpAny_pyIter_striter_ascii st h) _ ⟨_,Y9 _ rfl,rfl,rfl⟩)
end
section
variable {X:Cx} {K:W.Frag}
theorem Qk (hK:X.K=K):IxR X (RV K):=hK ▸ Uo
theorem Ej (hK:X.K=K):OpR X (compareOp .In) (Qi K):=hK ▸ Uw
theorem Ja (hK:X.K=K):OpR X (compareOp .NotIn) (zJ K):=hK ▸ IW
theorem UG (hK:X.K=K) (hu:X.A.units < cLine):OpR X (compareOp .Eq) (Ux K):=hK ▸ Uy hu
theorem vO (hK:X.K=K):SlR X (Xi K):=hK ▸ Lk
theorem Ql {tg l:Expr} {tl:TE} (hK:X.K=K) (hl:PE X l tl):PI X tg l (Qj K tl):=hK ▸ Uz hl
def Jb (K:W.Frag):List V->Hp->VK->Prop:=fun xs H Q=>∃ x n,xs=[x]/\WT K x H n/\Q (.int n) H
theorem aG (hK:X.K=K):CallR X (.builtin "len") (Jb K):=hK ▸ KJ
theorem di (hK:X.K=K):CallR X (.builtin "isinstance") (Uu K):=hK ▸ Lf
def Ln (K:W.Frag):List V->Hp->VK->Prop:=fun xs H Q=>(∃ p ys,xs=[.ref p]/\(SqL K H p ys\/SqT K H p ys)/\∀ l,H l=none->Q (.ref l) (upd H l (.lst ys)))\/(∃ x,xs=[.str x]/\x.cps.size<=sizeLine/\∀ p,H p=none->Q (.ref p) (upd H p (.lst (sgn x))))
theorem nH (hK:X.K=K) (hc:X.calm=true):CallR X (.type "list") (Ln K):=hK ▸ zF.or (BK hc)
variable {o e:Expr} {es:List Expr} {to:TE} {t:TA} {name:Str} {apos cpos:Pos} {T id:String} {r:V->List V->Hp->VK->Prop}
theorem UJ (hK:X.K=K) (pa:PlainAttrs T) (slot:Slot T name id) (hty:typeOf (.builtin id)=pure (.type "method_descriptor")) (hm:WX X id r) (ho:PE X o to) (ha:PA X (e :: es) t)
  (hbase:autoParam (attributeBase o name X.env (eval o X.env)=eval o X.env) L2.auto4._auto_1)
  (hfew:((backTo cpos (starEach (e :: es) X.env)).all (fun x=>!x.1) && (backToKw cpos (keywordEach [] X.env)).all (fun x=>x.1.isSome)
   && decide ((e :: es).length+([]:List Keyword).length+(if ([]:List Keyword).isEmpty then 0 else 1) < 30))=true:=by rfl)
  (hline:autoParam ((apos.endLine == cpos.line)=true) L2.auto4._auto_1) (hs:autoParam (starEach (e :: es) X.env=(false,eval e X.env) :: starEach es X.env) L2.auto4._auto_1) (hplain:autoParam ((backTo cpos (starEach es X.env)).any (·.1)=false) L2.auto4._auto_1):
  PE X (.Call (.Attribute o name apos) (e :: es) [] cpos) (W6 K T r to t):=by
 subst hK;exact W7 pa slot hty hm ho ha hbase hfew hline hs hplain
theorem Qm {ts:List Expr} {k:Nat} {gs:HX} {n:Nat} {pos:Pos} (hK:X.K=K) (hc:X.calm=true) (h:Wj X ts gs)
  (hn:autoParam ((assignEach ts X.env).length=n) L2.auto4._auto_1) (hst:autoParam ((assignEach ts X.env).findIdx? (·.1)=none) L2.auto4._auto_1):PG X (.Tuple ts k pos) (Pk K n gs):=by
 subst hK;exact Tz hc h hn hst
end
section
variable {X:Cx} {sc scope:Scope} {N':List Str} {C:Addr} {s₀:Shared} {H₀:Hp} {ex:List Addr} {x:Str} {pos:Pos}
theorem pvL (i:Nat) (h:sc.names.lookup x=some .local) (hN:autoParam (X.N[i]?=some x) L2.auto4._auto_1) (hsc:autoParam (X.env.scope=sc) L2.auto4._auto_1) (hd:autoParam ((x == ("__debug__":Str))=false) L2.auto6._auto_1) (hcd:autoParam ((x == ("__classdict__":Str))=false) L2.auto6._auto_1):
  PE X (.Name x pos) (rF i):=zq hN (.inl (by rw [hsc];exact h)) hd hcd
theorem pvC (i:Nat) (h:sc.names.lookup x=some .cell) (hN:autoParam (X.N[i]?=some x) L2.auto4._auto_1) (hsc:autoParam (X.env.scope=sc) L2.auto4._auto_1) (hd:autoParam ((x == ("__debug__":Str))=false) L2.auto6._auto_1) (hcd:autoParam ((x == ("__classdict__":Str))=false) L2.auto6._auto_1):
  PE X (.Name x pos) (rF i):=zq hN (.inr (.inl (by rw [hsc];exact h))) hd hcd
theorem pvBL (i:Nat) (h:scope.names.lookup x=some .local) (hN:autoParam (N'[i]?=some x) L2.auto4._auto_1) (hd:autoParam ((x == ("__debug__":Str))=false) L2.auto6._auto_1) (hcd:autoParam ((x == ("__classdict__":Str))=false) L2.auto6._auto_1):
  PE (qI X N' scope C s₀ H₀ ex) (.Name x pos) (rF i):=zq hN (.inl (lookup_relabel_local h)) hd hcd
theorem pvBF (i:Nat) (h:scope.names.lookup x=some .free) (hN:autoParam (N'[i]?=some x) L2.auto4._auto_1) (hd:autoParam ((x == ("__debug__":Str))=false) L2.auto6._auto_1) (hcd:autoParam ((x == ("__classdict__":Str))=false) L2.auto6._auto_1):
  PE (qI X N' scope C s₀ H₀ ex) (.Name x pos) (rF i):=zq hN (by
   rcases tE (env:=X.env) h with z | z
   ·exact .inr (.inl z)
   ·exact .inr (.inr z)) hd hcd
theorem jB {env:Env}:∀ {names:List (Str×NameKind)} {x:Str},names.lookup x=some .globalImplicit->
  (names.map fun (n,k)=>if (k == NameKind.free && env.scope.kind == .function && env.kindOf n == some .cell) then (n,NameKind.cell) else (n,k)).lookup x=some .globalImplicit
 | [],_,h=>by simp at h
 | (n,k) :: r,x,h=>by
  have ih:=@jB env r x
  show List.lookup x ((if (k == NameKind.free && env.scope.kind == .function && env.kindOf n == some .cell)=true then (n,NameKind.cell) else (n,k)) :: _)=_
  cases hx:x == n with
  | true=>
   simp only [Zt,hx] at h
   cases h
   simp [Zt,hx]
  | false=>
   simp only [Zt,hx] at h
   by_cases hc:(k == NameKind.free && env.scope.kind == .function && env.kindOf n == some .cell)=true
   ·rw [if_pos hc];simp only [Zt,hx];exact ih h
   ·rw [if_neg hc];simp only [Zt,hx];exact ih h
theorem Wm (h:scope.names.lookup x=some .globalImplicit):Gl (qI X N' scope C s₀ H₀ ex) x:=jB h
theorem pgB (i:Nat) (h:scope.names.lookup x=some .local) (hN:N'.Nodup) (hi:autoParam (N'[i]?=some x) L2.auto4._auto_1):PG (qI X N' scope C s₀ H₀ ex) (.Name x pos) (qZ i):=
 FQ hN hi (.inl (lookup_relabel_local h)) (.inr (lookup_relabel_local h))
end
def lM:Expr->Bool
 | .ListComp ..=>false | .SetComp ..=>false | .DictComp ..=>false | _=>true
theorem BR {value:Expr} {target:Option Expr} {line:Nat} {env:Env} (h:lM value=true):swapsWith value target line env=pure false:=by
 cases value <;> first | rfl | cases h
def o9:Expr->Bool
 | .Slice ..=>false | _=>true
theorem pix {b:Expr} (h:o9 b=true):Gg b:=by
 intro o i
 cases b <;> first | rfl | cases h
def uz:Expr->Bool
 | .Set ..=>false | _=>true
theorem Lp {e:Expr} {env:Env} (h:uz e=true):∀ x,foldedSetIterable e env x=pure x:=by
 intro x
 cases e <;> first | rfl | cases h
def notStar:Expr->Bool
 | .Starred ..=>false | _=>true
theorem bF {e:Expr} {es:List Expr} {env:Env} (h:notStar e=true):starEach (e :: es) env=(false,eval e env) :: starEach es env:=by
 cases e <;> first | rfl | cases h
theorem mq {env:Env} {pos:Pos}:∀ {es:List Expr},es.all notStar=true->(backTo pos (starEach es env)).any (·.1)=false
 | [],_=>rfl
 | e :: es,h=>by
  simp only [ZG,Ze] at h
  rw [bF h.1]
  show (false || (backTo pos (starEach es env)).any (·.1))=false
  rw [mq h.2];rfl
theorem Lq {env:Env} {pos:Pos}:∀ {es:List Expr},es.all notStar=true->(backTo pos (starEach es env)).all (fun x=>!x.1)=true
 | [],_=>rfl
 | e :: es,h=>by
  simp only [ZG,Ze] at h
  rw [bF h.1]
  show (true && (backTo pos (starEach es env)).all (fun x=>!x.1))=true
  rw [Lq h.2];rfl
section
variable {X:Cx} {K:W.Frag} {e:Expr} {es:List Expr} {te:TE} {t:TA} {pos p:Pos}
theorem paC (ha:PE X e te) (hr:PA X es t) (h:autoParam (notStar e=true) L2.auto4._auto_1):PA X (e :: es) (Ge te t):=PL ha hr (bF h)
theorem Xj {k:Nat} {x:Str} {ps:List Str} {sp:Sp} (F:Has X.prog X.w X.K X.mg X.base k x ps sp) (hr:Room k X.A) (hg:Gl X x) (ha:PA X (e :: es) t) (hdb:(x == ("__debug__":Str))=false) (h:autoParam ((e :: es).all notStar=true) L2.auto4._auto_1):
  PE X (.Call (.Name x p) (e :: es) [] pos) (yo sp [] E0 t):=by
 simp only [ZG,Ze] at h
 exact Lg F hr hg ha hdb (bF h.1) (mq h.2)
theorem Xk {x:Str} {id:String} {r:List V->Hp->VK->Prop} (hc:CallR X (.builtin id) r) (hg:Gl X x) (hm:X.mg x=none) (hv:bootBuiltins x=some (.builtin id)) (ha:PA X (e :: es) t) (hn:x≠"__name__") (hdb:(x == ("__debug__":Str))=false) (h:autoParam ((e :: es).all notStar=true) L2.auto4._auto_1):
  PE X (.Call (.Name x p) (e :: es) [] pos) (Uj r t):=by
 simp only [ZG,Ze] at h
 exact KY hc hg hm hv ha hn hdb (bF h.1) (mq h.2)
theorem UL {x:Str} {T:String} {r:List V->Hp->VK->Prop} (hc:CallR X (.type T) r) (hg:Gl X x) (hm:X.mg x=none) (hv:bootBuiltins x=some (.type T)) (ha:PA X (e :: es) t) (hn:x≠"__name__") (hdb:(x == ("__debug__":Str))=false) (h:autoParam ((e :: es).all notStar=true) L2.auto4._auto_1):
  PE X (.Call (.Name x p) (e :: es) [] pos) (Uj r t):=by
 simp only [ZG,Ze] at h
 exact Il hc hg hm hv ha hn hdb (bF h.1) (mq h.2)
def tK:Expr->Bool
 | .Call ..=>false | _=>true
theorem Xl {o:Expr} {f:Str} {env:Env} {w:Sem Value} (h:tK o=true):attributeBase o f env w=w:=by
 cases o <;> first | rfl | cases h
theorem Xm {o:Expr} {to:TE} {name:Str} {apos cpos:Pos} {T id:String} {r:V->List V->Hp->VK->Prop} (hK:X.K=K) (pa:PlainAttrs T) (slot:Slot T name id) (hty:typeOf (.builtin id)=pure (.type "method_descriptor")) (hm:WX X id r) (ho:PE X o to) (ha:PA X (e :: es) t)
  (hbase:autoParam (tK o=true) L2.auto4._auto_1) (hl:autoParam (es.length < 20) L2.auto2._auto_1) (hline:autoParam ((apos.endLine == cpos.line)=true) L2.auto4._auto_1) (h:autoParam ((e :: es).all notStar=true) L2.auto4._auto_1):
  PE X (.Call (.Attribute o name apos) (e :: es) [] cpos) (W6 K T r to t):=by
 have hA:=Lq (env:=X.env) (pos:=cpos) h
 simp only [ZG,Ze] at h
 refine UJ hK pa slot hty hm ho ha (Xl hbase) ?_ hline (bF h.1) (mq h.2)
 rw [hA]
 have:(e :: es).length+([]:List Keyword).length+(if ([]:List Keyword).isEmpty then 0 else 1) < 30:=by simp;omega
 rw [Y7 this];rfl
theorem Xn {i:Nat} {x:Str} {pos':Pos} (hN:X.N.Nodup) (hi:X.N[i]?=some x) (hx:Loc X.env.scope x) (he:PE X e te) (hf:X.fn x=true) (h:autoParam (lM e=true) L2.auto4._auto_1):PS X (.Assign [.Name x pos'] e pos) (Bk te (qZ i)):=
 Kr hN hi hx he (BR h) (.inl hf)
theorem UT (he:PE X e te) (h:autoParam (lM e=true) L2.auto4._auto_1):PS X (.Expr e pos) (FP te):=Pg he (BR h)
theorem ixE {a b:Expr} {ta tb:TE} (hK:X.K=K) (ha:PE X a ta) (hb:PE X b tb) (h:autoParam (o9 b=true) L2.auto4._auto_1):PE X (.Subscript a b pos) (Ky (RV K) ta tb):=WY (Qk hK) ha hb (pix h)
theorem Xo {tg iter:Expr} {body:List Stmt} {wi:TI} {g:TG} {tb:TS} (hp:PassesOwn (model X.prog X.w) X.A X.env X.xe) (hc:X.calm=true) (hi:PI X tg iter wi) (hg:PG X tg g) (hb:PSs X body tb) (h:autoParam (uz iter=true) L2.auto4._auto_1):PS X (.For tg iter body [] pos) (Pr wi g tb):=
 TY hp hc hi hg hb (Lp h)
end
section
variable {X:Cx} {tg iter elt:Expr} {ifs:List Expr} {scope:Scope} {pos:Pos} {N':List Str} {sub:List (Option Nat)} {wi:TI} {g:TG} {tt:TT} {te:TE} {N:List Str} {sc:Scope}
theorem Xp (S:uY N sc N' scope sub) (hc:X.calm=true) (hN:X.N=N) (hsc:X.env.scope=sc) (hi:PI X tg iter wi)
  (hg:∀ (C:Addr) (s₀:Shared) (H₀:Hp) (ex:List Addr),PG (qI X N' scope C s₀ H₀ ex) tg g)
  (ht:∀ (C:Addr) (s₀:Shared) (H₀:Hp) (ex:List Addr),Bs (qI X N' scope C s₀ H₀ ex) ifs tt)
  (he:∀ (C:Addr) (s₀:Shared) (H₀:Hp) (ex:List Addr),PE (qI X N' scope C s₀ H₀ ex) elt te) (h:autoParam (uz iter=true) L2.auto4._auto_1):
  PE X (.ListComp elt [⟨tg,iter,ifs,0⟩] scope pos) (wz sub wi g tt te):=Gj S hc hN hsc hi hg ht he (Lp h)
end
theorem aV:bootBuiltins "len"=some (.builtin "len"):=by trivial
theorem zK:bootBuiltins "max"=some (.builtin "max"):=by trivial
theorem bj:bootBuiltins "isinstance"=some (.builtin "isinstance"):=by trivial
theorem Ek:bootBuiltins "all"=some (.builtin "all"):=by trivial
theorem j4:bootBuiltins "list"=some (.type "list"):=by trivial
theorem BV:bootBuiltins "tuple"=some (.type "tuple"):=by trivial
theorem El:bootBuiltins "int"=some (.type "int"):=by trivial
theorem Em:bootBuiltins "str"=some (.type "str"):=by trivial
theorem zL:bootBuiltins "enumerate"=some (.type "enumerate"):=by trivial
theorem u0:bootBuiltins "reversed"=some (.type "reversed"):=by trivial
theorem Gm:bootBuiltins "bool"=some (.type "bool"):=by trivial
theorem rK {c A B:Prop} [Decidable c] (h1:c->A) (h2:¬ c->B):if decide c=true then A else B:=by
 by_cases h:c
 ·rw [if_pos (Y7 h)];exact h1 h
 ·rw [if_neg (by rw [Zc h];exact Y5)];exact h2 h
theorem iteB {b:Bool} {A B:Prop} (h1:b=true->A) (h2:b=false->B):if b=true then A else B:=by
 cases b with
 | true=>rw [if_pos rfl];exact h1 rfl
 | false=>rw [if_neg Y5];exact h2 rfl
theorem Gn {α:Type} {xs:List α} {k:Int} {v:α} (h0:0<=k) (h:xs[k.toNat]?=some v):xF xs k=some v:=by
 have e:((k.toNat:Nat):Int)=k:=by omega
 rw [← e]
 exact jg h
section
variable {U:St} {H:Hp} {D:Ends} {ta tb te tc:TE} {tt tu:TT} {Q:VK} {t u:TS} {g:TG}
theorem oO (h:t {D with nx:=u D} U H):O9 t u D U H:=h
theorem eO (h:D.nx U H):Kh D U H:=h
theorem jC (h:te U H fun x H1=>g x U H1 D.nx):Bk te g D U H:=h
theorem eQ {i:Nat} {v:V} {R:St->Hp->Prop} (h:R (U.set i (some v)) H):qZ i v U H R:=h
theorem jD {to ti:TE} {ts:Dz} {v:V} {R:St->Hp->Prop} (h:to U H fun o H1=>ti U H1 fun i H2=>ts o i v H2 fun H3=>R U H3):TF to ti ts v U H R:=h
theorem jE (h:te U H D.rt):Tt te D U H:=h
theorem eU (h:te U H fun _ H1=>D.nx U H1):FP te D U H:=h
theorem qJ (h:tt U H fun b H1=>if b=true then t D U H1 else u D U H1):Tv tt t u D U H:=h
theorem eV {R:Bool->Hp->Prop} (h:te U H fun x H1=>∃ k,x= .bl k/\R k H1):yj te U H R:=h
theorem qK {R:Bool->Hp->Prop} (h:te U H fun x H1=>∃ k,x= .bl k/\R k H1):tB te U H R:=h
theorem jF {R:Bool->Hp->Prop} (h:tt U H fun c H1=>R (!c) H1):Tf tt U H R:=h
theorem jG {R:Bool->Hp->Prop} (h:tt U H fun c H1=>if c=true then tu U H1 R else R false H1):O7 tt tu U H R:=h
theorem qL {R:Bool->Hp->Prop} (h:tt U H fun c H1=>if c=true then R true H1 else tu U H1 R):tOr tt tu U H R:=h
theorem eY (h:ta U H fun x H1=>∃ c,x= .bl c/\if c=true then tb U H1 Q else Q (.bl false) H1):Ke ta tb U H Q:=h
theorem jH (h:ta U H fun x H1=>∃ c,x= .bl c/\if c=true then Q (.bl true) H1 else tb U H1 Q):Tj ta tb U H Q:=h
theorem eZ (h:ta U H fun x H1=>∃ c,x= .bl c/\Q (.bl (!c)) H1):Kf ta U H Q:=h
theorem jJ (h:tt U H fun c H1=>if c=true then ta U H1 Q else tb U H1 Q):tIf tt ta tb U H Q:=h
theorem jK {i:Nat} {v:V} (e:U[i]?=some (some v)) (h:Q v H):rF i U H Q:=⟨v,e,h⟩
theorem Dv {v:V} (h:Q v H):tC v U H Q:=h
theorem qM {r:R2} (h:ta U H fun x H1=>tb U H1 fun y H2=>r x y H2 Q):Ky r ta tb U H Q:=h
theorem qN {r:V->Hp->VK->Prop} (h:ta U H fun x H1=>r x H1 Q):tUn r ta U H Q:=h
theorem qO {r:List V->Hp->VK->Prop} {a:TA} (h:a U H fun vs H1=>r vs H1 Q):Uj r a U H Q:=h
theorem fj {a:TA} {R:List V->Hp->Prop} (h:te U H fun x H1=>a U H1 fun xs H2=>R (x :: xs) H2):Ge te a U H R:=h
theorem jL {R:List V->Hp->Prop} (h:R [] H):KR U H R:=h
theorem fu {sp:Sp} {E:XK} {a:TA} (h:a U H fun vs H1=>sp vs H1 Q E):yo sp [] E a U H Q:=by
 unfold yo
 simpa only [ZJ] using h
theorem yF {a:TA} (h:a U H fun xs H1=>xs.length<=sizeLine/\∀ p,H1 p=none->Q (.ref p) (upd H1 p (.tup xs))):PN a U H Q:=h
theorem yG {a:TA} (h:a U H fun xs H1=>xs.length<=sizeLine/\∀ p,H1 p=none->Q (.ref p) (upd H1 p (.lst xs))):PP a U H Q:=h
theorem qP {K:W.Frag} {T:String} {r:V->List V->Hp->VK->Prop} {a:TA} (h:te U H fun x H1=>tyV K T x H1/\a U H1 fun xs H2=>r x xs H2 Q):W6 K T r te a U H Q:=h
theorem qQ {r:V->Option Int->Option Int->Hp->VK->Prop} {tl th:TO} (h:te U H fun x H1=>tl U H1 fun l H2=>th U H2 fun u H3=>r x l u H3 Q):tSl r te tl th U H Q:=h
theorem jM {R:Option Int->Hp->Prop} (h:R none H):zu U H R:=h
theorem fB {R:Option Int->Hp->Prop} (h:te U H fun x H1=>∃ i,x= .int i/\R (some i) H1):K1 te U H R:=h
theorem fG {R:Bool->Hp->Prop} (h:R true H):K9 U H R:=h
theorem fH {a:TA} {R:It->Hp->Prop} (h:a U H fun vs H1=>∃ j:Int,vs=[.int j]/\-(2 ^ 62)<=j/\j < 2 ^ 62/\R (J7 0 j.toNat) H1):Ku a U H R:=h
theorem fJ {a:TA} {R:It->Hp->Prop} (h:a U H fun vs H1=>∃ i j:Int,vs=[.int i,.int j]/\(-(2 ^ 62)<=i/\i < 2 ^ 62/\-(2 ^ 62)<=j/\j < 2 ^ 62)/\R (J7 i (j - i).toNat) H1):Kv a U H R:=h
theorem fK {K:W.Frag} {R:It->Hp->Prop} (h:te U H fun x H1=>(∃ a,x= .ref a/\(∃ xs,SqL K H1 a xs)/\R (Pq K a) H1)\/(∃ a,x= .ref a/\(∃ xs,SqT K H1 a xs)/\R (Wl K a) H1)\/(∃ z,x= .str z/\R (Qh z) H1)):Qj K te U H R:=h
theorem fM {sub:List (Option Nat)} {wi:TI} (h:wi U H fun J H1=>rm sub g tt te U Q J H1):wz sub wi g tt te U H Q:=h
theorem jN {wi:TI} {tbd:TS} (h:wi U H fun J H1=>∃ W:Nat->Nat->St->Hp->Prop,(∃ m,W 0 m U H1)/\∀ i m U H,W i m U H->
 (J.stop i H/\D.nx U H)\/(J.go i H/\∃ N:St->Hp->Prop,(∀ U' H',N U' H'->∃ m',m' < m/\W (i+1) m' U' H')/\∀ x H',J.yld i H x H'->g x U H' fun σ2 H2=>tbd {D with nx:=N,ct:=N,bk:=D.nx} σ2 H2)):Pr wi g tbd D U H:=h
variable {i j:Int} {x y:Str} {f:Int->Int->V} {C:Int->Int->Prop} {K:W.Frag}
theorem qR (h:Q (f i j) H):Kz f (.int i) (.int j) H Q:=⟨_,_,rfl,rfl,h⟩
theorem Dw (c:C i j) (h:Q (f i j) H):rI C f (.int i) (.int j) H Q:=⟨_,_,rfl,rfl,c,h⟩
theorem fO (h:Q (.int (i+j)) H):BP (.int i) (.int j) H Q:=.inl ⟨_,_,rfl,rfl,h⟩
theorem uA (c:x.length+y.length<=sizeLine) (h:Q (.str (x ++ y)) H):BP (.str x) (.str y) H Q:=.inr (.inl ⟨_,_,rfl,rfl,c,h⟩)
theorem zM {a b:Addr} {xs ys:List V} (ha:H a=some (.lst xs)) (hb:H b=some (.lst ys)) (c:xs.length+ys.length<=sizeLine) (h:∀ p,H p=none->Q (.ref p) (upd H p (.lst (xs ++ ys)))):BP (.ref a) (.ref b) H Q:=
 .inr (.inr ⟨a,b,xs,ys,rfl,rfl,ha,hb,c,h⟩)
theorem fP (c:CMul i j) (h:Q (.int (i*j)) H):Lh (.int i) (.int j) H Q:=.inl ⟨_,_,rfl,rfl,c,h⟩
theorem bG {p:Addr} {xs:List V} {v:V} (s:SqL K H p xs) (e:xF xs i=some v) (h:Q v H):RV K (.ref p) (.int i) H Q:=.inl ⟨p,xs,i,v,rfl,rfl,s,e,h⟩
theorem jO {p:Addr} {xs:List V} {v:V} (s:SqT K H p xs) (e:xF xs i=some v) (h:Q v H):RV K (.ref p) (.int i) H Q:=.inr (.inl ⟨p,xs,i,v,rfl,rfl,s,e,h⟩)
theorem RZ {c:Nat} (s:x.length<=sizeLine) (e:xF x.cps.toList i=some c) (h:Q (.str ⟨#[c]⟩) H):RV K (.str x) (.int i) H Q:=.inr (.inr ⟨x,i,c,rfl,rfl,s,e,h⟩)
theorem dG {p:Addr} {xs:List V} {n:Nat} {v:V} {R:Hp->Prop} (hp:H p=some (.lst xs)) (e:J8 xs.length i=some n) (h:R (upd H p (.lst (xs.set n v)))):K4 (.ref p) (.int i) v H R:=⟨p,xs,i,n,rfl,rfl,hp,e,h⟩
theorem jl (h:Q (.bl (!(Builtin.Str.occurrences y x 0 y.length 1).isEmpty)) H):Qi K (.str x) (.str y) H Q:=.inl ⟨_,_,rfl,rfl,h⟩
theorem qT {b:Bool} {R:Bool->Prop} (h:R b):∃ k,V.bl b= .bl k/\R k:=⟨b,rfl,h⟩
theorem fQ {n:Int} {R:Int->Prop} (h:R n):∃ k,V.int n= .int k/\R k:=⟨n,rfl,h⟩
end
theorem Same.upd {H H':Hp} {p:Addr} {o:HO} (s:Same H H') (hn:H' p=none):Same H (upd H' p o):=fun b u e=>by
 have q:=s b u e
 rw [aD (fun z=>by rw [z,hn] at q;cases q)]
 exact q
def Chg (p:Addr) (H H':Hp):Prop:=∀ b o,b≠p->H b=some o->H' b=some o
theorem Chg.refl (p:Addr) (H:Hp):Chg p H H:=fun _ _ _ e=>e
theorem Chg.trans {p:Addr} {H H1 H2:Hp} (a:Chg p H H1) (b:Chg p H1 H2):Chg p H H2:=fun c o n e=>b c o n (a c o n e)
theorem Chg.new {p q:Addr} {H H1:Hp} {o:HO} (a:Chg p H H1) (hn:H1 q=none):Chg p H (upd H1 q o):=fun b u n e=>by
 have z:=a b u n e
 rw [aD (fun k=>by rw [k,hn] at z;cases z)]
 exact z
theorem dW {H:Hp} {q b:Addr} {o u:HO} (hq:H q=none) (hb:H b=some u):upd H q o b=some u:=by
 rw [aD (fun z=>by rw [z,hq] at hb;cases hb)];exact hb
theorem Lr (c:Nat):(⟨#[c]⟩:Str).length=1:=by simp [Str.length]
section
variable {H:Hp} {Q:VK} {K:W.Frag}
theorem bM {p:Addr} {xs:List V} (s:SqL K H p xs) (h:Q (.int xs.length) H):Jb K [V.ref p] H Q:=⟨_,_,rfl,.inl ⟨_,s,rfl⟩,h⟩
theorem wD {p:Addr} {xs:List V} (s:SqT K H p xs) (h:Q (.int xs.length) H):Jb K [V.ref p] H Q:=⟨_,_,rfl,.inr ⟨_,s,rfl⟩,h⟩
theorem bQ {z:Str} (s:z.length<=sizeLine) (h:Q (.int z.length) H):Jb K [V.str z] H Q:=⟨_,_,rfl,⟨s,rfl⟩,h⟩
theorem qU {i j:Int} {R:Int->Int->Prop} (h:R i j):∃ a b,[V.int i,V.int j]=[.int a,.int b]/\R a b:=⟨_,_,rfl,h⟩
theorem jP {x:V} {T:String} {t:Value} {b:Bool} (ty:TyOf K H x t) (e:PySem.W.kitOne K t (.type T)=some b) (h:Q (.bl b) H):Uu K [x,.ty T] H Q:=⟨x,T,t,b,rfl,ty,e,h⟩
theorem Xq {x:Str} {lo hi:Option Int} (hz:x.length<=sizeLine) (h:Q (.str (Txt.slice x lo hi)) H):Xi K (.str x) lo hi H Q:=.inr (.inr ⟨x,rfl,hz,h⟩)
theorem BW {p:Addr} {xs:List V} {lo hi:Option Int} (s:SqL K H p xs) (h:∀ q,H q=none->Q (.ref q) (upd H q (.lst (o6 xs lo hi)))):Xi K (.ref p) lo hi H Q:=.inl ⟨p,xs,rfl,s,h⟩
end
section
variable {U:St} {H:Hp} {Q:VK}
theorem zN {K:W.Frag} {a:Addr} {xs:List V} (s:SqL K H a xs) (h:∀ p,H p=none->Q (.ref p) (upd H p (.lst xs))):Ln K [.ref a] H Q:=.inl ⟨a,xs,rfl,.inl s,h⟩
end
theorem TyOf.mono {K:W.Frag} {H H':Hp} {v:V} {T:String} (h:TyOf K H v (.type T)) (s:∀ b o,H b=some o->v= .ref b->H' b=some o):TyOf K H' v (.type T):=by
 generalize e:(Value.type T)=t at h
 cases h with
 | non=>exact .non
 | bl x=>exact .bl x
 | int i=>exact .int i
 | str x=>exact .str x
 | flt x=>exact .flt x
 | lst z=>exact .lst (s _ _ z rfl)
 | frz z=>exact .frz (s _ _ z rfl)
 | tup z=>exact .tup (s _ _ z rfl)
 | dK z=>exact .dK (s _ _ z rfl)
 | dT z=>exact .dT (s _ _ z rfl)
 | ins=>cases e
theorem Ls {sub:List (Option Nat)} {g:TG} {tt:TT} {te:TE} {U:St} {Q:VK} {H:Hp} {lo:Int} {n:Nat} (Pv:Nat->List V->Hp->Prop) (hn:n<=sizeLine) (h0:Pv 0 [] H) (hl:∀ i ys H,Pv i ys H->ys.length<=i)
  (hs:∀ i ys H,i < n->Pv i ys H->g (.int (lo+i)) (bR sub U) H fun σ2 H2=>KeepSt (bR sub U) σ2/\tt σ2 H2 fun b H3=>if b=true then te σ2 H3 fun y H4=>Pv (i+1) (ys ++ [y]) H4 else Pv (i+1) ys H3)
  (hd:∀ ys H,Pv n ys H->∀ D,H D=none->Q (.ref D) (upd H D (.lst ys))):rm sub g tt te U Q (J7 lo n) H:=
 zH (n:=n) Pv hn h0 hl (fun i ys H hi _=>hi) (fun ys H _=>YZ _) (fun i ys H x H' hi p y=>by
  obtain ⟨e1,e2⟩:=y
  subst e1 e2
  exact hs i ys _ hi p) hd
theorem BX {sub:List (Option Nat)} {g:TG} {tt:TT} {te:TE} {U:St} {Q:VK} {H:Hp} {z:Str} (Pv:Nat->List V->Hp->Prop) (hn:z.cps.size<=sizeLine) (h0:Pv 0 [] H) (hl:∀ i ys H,Pv i ys H->ys.length<=i)
  (hs:∀ i ys H c,z.cps.toList[i]?=some c->Pv i ys H->g (.str ⟨#[c]⟩) (bR sub U) H fun σ2 H2=>KeepSt (bR sub U) σ2/\tt σ2 H2 fun b H3=>if b=true then te σ2 H3 fun y H4=>Pv (i+1) (ys ++ [y]) H4 else Pv (i+1) ys H3)
  (hd:∀ ys H,Pv z.cps.size ys H->∀ D,H D=none->Q (.ref D) (upd H D (.lst ys))):rm sub g tt te U Q (Qh z) H:=
 zH (n:=z.cps.size) Pv hn h0 hl (fun i ys H hi _=>hi) (fun ys H _=>rfl) (fun i ys H x H' hi p y=>by
  obtain ⟨e1,c,e2,e3⟩:=y
  subst e1 e3
  exact hs i ys _ c (by simpa using e2) p) hd
theorem Jc {sub:List (Option Nat)} {g:TG} {tt:TT} {te:TE} {U:St} {Q:VK} {H:Hp} {K:W.Frag} {a:Addr} {xs:List V} (Pv:Nat->List V->Hp->Prop) (hn:xs.length<=sizeLine) (h0:Pv 0 [] H) (hl:∀ i ys H,Pv i ys H->ys.length<=i)
  (hq:∀ i ys H,Pv i ys H->SqL K H a xs)
  (hs:∀ i ys H x,xs[i]?=some x->Pv i ys H->g x (bR sub U) H fun σ2 H2=>KeepSt (bR sub U) σ2/\tt σ2 H2 fun b H3=>if b=true then te σ2 H3 fun y H4=>Pv (i+1) (ys ++ [y]) H4 else Pv (i+1) ys H3)
  (hd:∀ ys H,Pv xs.length ys H->∀ D,H D=none->Q (.ref D) (upd H D (.lst ys))):rm sub g tt te U Q (Pq K a) H:=
 zH (n:=xs.length) Pv hn h0 hl (fun i ys H hi p=>⟨xs,xs[i],hq i ys H p,YX hi⟩) (fun ys H p=>⟨xs,hq _ ys H p,YZ _⟩) (fun i ys H x H' hi p y=>by
  obtain ⟨e1,e2⟩:=y
  subst e1
  exact hs i ys _ x (e2 xs (hq i ys _ p)) p) hd
structure JE (X:Cx) (e:Expr) (t:TE):Prop where
 run:PE X e t
structure JT (X:Cx) (e:Expr) (t:TT):Prop where
 run:PT X e t
structure JW (X:Cx) (e:Expr) (t:TT):Prop where
 run:PW X e t
structure JA (X:Cx) (es:List Expr) (t:TA):Prop where
 run:PA X es t
structure JS (X:Cx) (s:Stmt) (t:TS):Prop where
 run:PS X s t
structure JB (X:Cx) (s:List Stmt) (t:TS):Prop where
 run:PSs X s t
structure JI (X:Cx) (tg iter:Expr) (t:TI):Prop where
 run:PI X tg iter t
structure JG (X:Cx) (tg:Expr) (t:TG):Prop where
 run:PG X tg t
structure YF (X:Cx) (tg:List Expr) (t:HX):Prop where
 run:Wj X tg t
structure JO (X:Cx) (e:Option Expr) (t:TO):Prop where
 run:PO X e t
structure UV (X:Cx) (ifs:List Expr) (t:TT):Prop where
 run:Bs X ifs t
section
variable {X:Cx} {K:W.Frag} {sc scope:Scope} {N':List Str} {C:Addr} {s₀:Shared} {H₀:Hp} {ex:List Addr} {x:Str} {pos p p2 pos' apos cpos tpos:Pos} {a b c e o:Expr} {es:List Expr} {ta tb tc te to ti:TE} {t:TA} {tA tB' tt:TT} {rest:List Expr}
theorem UW (i:Nat) (h:sc.names.lookup x=some .local) (hN:autoParam (X.N[i]?=some x) L2.auto4._auto_1) (hsc:autoParam (X.env.scope=sc) L2.auto4._auto_1) (hd:autoParam ((x == ("__debug__":Str))=false) L2.auto6._auto_1) (hcd:autoParam ((x == ("__classdict__":Str))=false) L2.auto6._auto_1):JE X (.Name x pos) (rF i):=⟨pvL i h hN hsc hd hcd⟩
theorem j_vC (i:Nat) (h:sc.names.lookup x=some .cell) (hN:autoParam (X.N[i]?=some x) L2.auto4._auto_1) (hsc:autoParam (X.env.scope=sc) L2.auto4._auto_1) (hd:autoParam ((x == ("__debug__":Str))=false) L2.auto6._auto_1) (hcd:autoParam ((x == ("__classdict__":Str))=false) L2.auto6._auto_1):JE X (.Name x pos) (rF i):=⟨pvC i h hN hsc hd hcd⟩
theorem km (i:Nat) (h:scope.names.lookup x=some .local) (hN:autoParam (N'[i]?=some x) L2.auto4._auto_1) (hd:autoParam ((x == ("__debug__":Str))=false) L2.auto6._auto_1) (hcd:autoParam ((x == ("__classdict__":Str))=false) L2.auto6._auto_1):JE (qI X N' scope C s₀ H₀ ex) (.Name x pos) (rF i):=⟨pvBL i h hN hd hcd⟩
theorem oR (i:Nat) (h:scope.names.lookup x=some .free) (hN:autoParam (N'[i]?=some x) L2.auto4._auto_1) (hd:autoParam ((x == ("__debug__":Str))=false) L2.auto6._auto_1) (hcd:autoParam ((x == ("__classdict__":Str))=false) L2.auto6._auto_1):JE (qI X N' scope C s₀ H₀ ex) (.Name x pos) (rF i):=⟨pvBF i h hN hd hcd⟩
theorem aH {i j}:JE X (.Constant (.int i) j pos) (tC (.int i)):=⟨SX⟩
theorem kE {i j}:JE X (.Constant (.bool i) j pos) (tC (.bl i)):=⟨WD⟩
theorem Gp {j}:JE X (.Constant .none j pos) (tC .non):=⟨Tc⟩
theorem oU {i j}:JE X (.Constant (.str i) j pos) (tC (.str i)):=⟨Td⟩
theorem wF {z:Str} (hg:Gl X x) (hm:∃ t,X.mg x=some (.str z t)) (hd:(x == ("__debug__":Str))=false):JE X (.Name x pos) (tC (.str z)):=⟨Li hg hm hd⟩
theorem wG {z:Int} (hg:Gl X x) (hm:∃ t,X.mg x=some (.int z t)) (hd:(x == ("__debug__":Str))=false):JE X (.Name x pos) (tC (.int z)):=⟨Lj hg hm hd⟩
theorem uB {T:String} (hg:Gl X x) (hm:X.mg x=none) (hv:bootBuiltins x=some (.type T)) (hn:x≠"__name__") (hd:(x == ("__debug__":Str))=false):JE X (.Name x pos) (tC (.ty T)):=⟨Xh hg hm hv hn hd⟩
theorem aY {op:Operator} {r:R2} (ho:OpR X (binaryOp op) r) (ha:JE X a ta) (hb:JE X b tb):JE X (.BinOp a op b pos) (Ky r ta tb):=⟨WM ho ha.run hb.run⟩
theorem En {op:UnaryOp} {r:V->Hp->VK->Prop} (ho:YB X (unaryOp op) r) (ha:JE X a ta):JE X (.UnaryOp op a pos) (tUn r ta):=⟨WN ho ha.run⟩
theorem kI {op:CmpOp} {r:R2} (ho:OpR X (compareOp op) r) (ha:JE X a ta) (hb:JE X b tb) (hm:behindInMarks op b=false):JE X (.Compare a [op] [b] pos) (Ky r ta tb):=⟨Pz ho ha.run hb.run hm⟩
theorem bJ {op:CmpOp} {r:R2} (ho:OpR X (compareOp op) r) (ha:JE X a ta) (hb:JE X b tb) (hm:behindInMarks op b=false):JT X (.Compare a [op] [b] pos) (yj (Ky r ta tb)):=⟨PB ho ha.run hb.run hm⟩
theorem zO (ha:JT X a tA):JW X (.BoolOp .And [a] pos) tA:=⟨O8 ha.run⟩
theorem kJ (ha:JT X a tA):JW X (.BoolOp .Or [a] pos) tA:=⟨Tg ha.run⟩
theorem Eo (ha:JT X a tA) (hb:JW X (.BoolOp .And (b :: rest) pos) tB'):JW X (.BoolOp .And (a :: b :: rest) pos) (O7 tA tB'):=⟨Th ha.run hb.run⟩
theorem ph (ha:JT X a tA) (hb:JW X (.BoolOp .Or (b :: rest) pos) tB'):JW X (.BoolOp .Or (a :: b :: rest) pos) (tOr tA tB'):=⟨WF ha.run hb.run⟩
theorem lN (h:JW X e tt):JT X e tt:=⟨h.run.pt⟩
theorem bW (ha:JT X a tA):JT X (.UnaryOp .Not a pos) (Tf tA):=⟨Ti ha.run⟩
def plainT:Expr->Bool
 | .BoolOp ..=>false | .UnaryOp ..=>false | .Compare ..=>false | .IfExp ..=>false | _=>true
theorem bY (h:JE X e te) (hp:autoParam (plainT e=true) L2.auto4._auto_1):JT X e (tB te):=⟨Te h.run (by
 intro whole
 cases e <;> first | rfl | cases hp)⟩
theorem jQ {op} (h:JE X a te):JE X (.BoolOp op [a] pos) te:=⟨Tp h.run⟩
theorem ir (ha:JE X a ta) (hb:JE X (.BoolOp .And (b :: rest) pos) tb):JE X (.BoolOp .And (a :: b :: rest) pos) (Ke ta tb):=⟨Tq ha.run hb.run⟩
theorem Xr (ha:JE X a ta) (hb:JE X (.BoolOp .Or (b :: rest) pos) tb):JE X (.BoolOp .Or (a :: b :: rest) pos) (Tj ta tb):=⟨WK ha.run hb.run⟩
theorem BZ (ha:JE X a ta):JE X (.UnaryOp .Not a pos) (Kf ta):=⟨Tr ha.run⟩
theorem Xu (hc:JT X c tA) (ha:JE X a ta) (hb:JE X b tb):JE X (.IfExp c a b pos) (tIf tA ta tb):=⟨Kg hc.run ha.run hb.run⟩
theorem Ca {x1} (h:JA X es t):JE X (.Tuple es x1 pos) (PN t):=⟨Ug h.run⟩
theorem jm (h:JA X es t):JE X (.List es pos) (PP t):=⟨Uh h.run⟩
theorem aj:JA X [] KR:=⟨Ue⟩
theorem aa (ha:JE X e te) (hr:JA X es t) (h:autoParam (notStar e=true) L2.auto4._auto_1):JA X (e :: es) (Ge te t):=⟨paC ha.run hr.run h⟩
theorem jh:JO X none zu:=⟨PX⟩
theorem ji (h:JE X e te):JO X (some e) (K1 te):=⟨P0 h.run⟩
theorem nJ {r:V->Option Int->Option Int->Hp->VK->Prop} {lo hi:Option Expr} {tl th:TO} (hr:SlR X r) (he:JE X e te) (hl:JO X lo tl) (hu:JO X hi th):JE X (.Subscript e (.Slice lo hi none p2) pos) (tSl r te tl th):=⟨K3 hr he.run hl.run hu.run⟩
theorem iu (hK:X.K=K) (ha:JE X a ta) (hb:JE X b tb) (h:autoParam (o9 b=true) L2.auto4._auto_1):JE X (.Subscript a b pos) (Ky (RV K) ta tb):=⟨ixE hK ha.run hb.run h⟩
theorem aJ {k:Nat} {ps:List Str} {sp:Sp} (F:Has X.prog X.w X.K X.mg X.base k x ps sp) (hr:Room k X.A) (hg:Gl X x) (ha:JA X (e :: es) t) (hdb:(x == ("__debug__":Str))=false) (h:autoParam ((e :: es).all notStar=true) L2.auto4._auto_1):
  JE X (.Call (.Name x p) (e :: es) [] pos) (yo sp [] E0 t):=⟨Xj F hr hg ha.run hdb h⟩
theorem aF {id:String} {r:List V->Hp->VK->Prop} (hc:CallR X (.builtin id) r) (hg:Gl X x) (hm:X.mg x=none) (hv:bootBuiltins x=some (.builtin id)) (ha:JA X (e :: es) t) (hn:x≠"__name__") (hdb:(x == ("__debug__":Str))=false) (h:autoParam ((e :: es).all notStar=true) L2.auto4._auto_1):
  JE X (.Call (.Name x p) (e :: es) [] pos) (Uj r t):=⟨Xk hc hg hm hv ha.run hn hdb h⟩
theorem tL {T:String} {r:List V->Hp->VK->Prop} (hc:CallR X (.type T) r) (hg:Gl X x) (hm:X.mg x=none) (hv:bootBuiltins x=some (.type T)) (ha:JA X (e :: es) t) (hn:x≠"__name__") (hdb:(x == ("__debug__":Str))=false) (h:autoParam ((e :: es).all notStar=true) L2.auto4._auto_1):
  JE X (.Call (.Name x p) (e :: es) [] pos) (Uj r t):=⟨UL hc hg hm hv ha.run hn hdb h⟩
theorem pq {name:Str} {T id:String} {r:V->List V->Hp->VK->Prop} (hK:X.K=K) (pa:PlainAttrs T) (slot:Slot T name id) (hty:typeOf (.builtin id)=pure (.type "method_descriptor")) (hm:WX X id r) (ho:JE X o to) (ha:JA X (e :: es) t)
  (hbase:autoParam (tK o=true) L2.auto4._auto_1) (hl:autoParam (es.length < 20) L2.auto2._auto_1) (hline:autoParam ((apos.endLine == cpos.line)=true) L2.auto4._auto_1) (h:autoParam ((e :: es).all notStar=true) L2.auto4._auto_1):JE X (.Call (.Attribute o name apos) (e :: es) [] cpos) (W6 K T r to t):=⟨Xm hK pa slot hty hm ho.run ha.run hbase hl hline h⟩
theorem gH:UV X [] K9:=⟨La⟩
variable {tg iter elt:Expr} {ifs:List Expr} {sub:List (Option Nat)} {wi:TI} {g:TG} {N:List Str}
theorem iQ {ta:TA} (hg:Gl X "range") (hm:X.mg "range"=none) (ha:JA X [a] ta) (h:autoParam (notStar a=true) L2.auto4._auto_1):JI X tg (.Call (.Name "range" p) [a] [] pos) (Ku ta):=⟨Ia hg hm ha.run (bF h)⟩
theorem Jd {ta:TA} (hg:Gl X "range") (hm:X.mg "range"=none) (ha:JA X [a,b] ta) (h:autoParam (notStar a=true) L2.auto4._auto_1) (h2:autoParam (notStar b=true) L2.auto4._auto_1):JI X tg (.Call (.Name "range" p) [a,b] [] pos) (Kv ta):=⟨Ib hg hm ha.run (by rw [bF h,bF h2];rfl) (by rw [bF h2];rfl)⟩
theorem iw (hK:X.K=K) (hl:JE X e te):JI X tg e (Qj K te):=⟨Ql hK hl.run⟩
theorem cY {i:Nat} (hN:X.N.Nodup) (hi:X.N[i]?=some x) (hx:Loc X.env.scope x) (hf:X.fn x=true):JG X (.Name x pos) (qZ i):=⟨FQ hN hi hx (.inl hf)⟩
theorem vC (i:Nat) (h:scope.names.lookup x=some .local) (hN:N'.Nodup) (hi:autoParam (N'[i]?=some x) L2.auto4._auto_1):JG (qI X N' scope C s₀ H₀ ex) (.Name x pos) (qZ i):=⟨pgB i h hN hi⟩
theorem Gq:YF X [] Tw:=⟨Pj⟩
theorem tM {gs:HX} (h1:JG X e g) (h2:YF X es gs) (hs:autoParam ((assignEach (e :: es) X.env).map (·.2)=assign e X.env :: (assignEach es X.env).map (·.2)) L2.auto4._auto_1):YF X (e :: es) (Kp g gs):=⟨Kq h1.run h2.run hs⟩
theorem Lw {ts:List Expr} {k:Nat} {gs:HX} {n:Nat} (hK:X.K=K) (hc:X.calm=true) (h:YF X ts gs) (hn:autoParam ((assignEach ts X.env).length=n) L2.auto4._auto_1) (hst:autoParam ((assignEach ts X.env).findIdx? (·.1)=none) L2.auto4._auto_1):JG X (.Tuple ts k pos) (Pk K n gs):=⟨Qm hK hc h.run hn hst⟩
theorem pA {ts:Dz} (ho:JE X a ta) (hi:JE X b tb) (hs:Ph X ts) (h:autoParam (o9 b=true) L2.auto4._auto_1):JG X (.Subscript a b pos) (TF ta tb ts):=⟨TJ ho.run hi.run hs (by
 intro v
 cases b <;> first | rfl | cases h)⟩
theorem my (S:uY N sc N' scope sub) (hc:X.calm=true) (hN:X.N=N) (hsc:X.env.scope=sc) (hi:JI X tg iter wi)
  (hg:∀ (C:Addr) (s₀:Shared) (H₀:Hp) (ex:List Addr),JG (qI X N' scope C s₀ H₀ ex) tg g)
  (ht:∀ (C:Addr) (s₀:Shared) (H₀:Hp) (ex:List Addr),UV (qI X N' scope C s₀ H₀ ex) ifs tt)
  (he:∀ (C:Addr) (s₀:Shared) (H₀:Hp) (ex:List Addr),JE (qI X N' scope C s₀ H₀ ex) elt te) (h:autoParam (uz iter=true) L2.auto4._auto_1):
  JE X (.ListComp elt [⟨tg,iter,ifs,0⟩] scope pos) (wz sub wi g tt te):=⟨Xp S hc hN hsc hi.run (fun C s₀ H₀ ex=>(hg C s₀ H₀ ex).run) (fun C s₀ H₀ ex=>(ht C s₀ H₀ ex).run) (fun C s₀ H₀ ex=>(he C s₀ H₀ ex).run) h⟩
variable {st:Stmt} {sts:List Stmt} {u v:TS}
theorem aM {i:Nat} (hN:X.N.Nodup) (hi:X.N[i]?=some x) (hx:Loc X.env.scope x) (he:JE X e te) (hf:X.fn x=true) (h:autoParam (lM e=true) L2.auto4._auto_1):JS X (.Assign [.Name x pos'] e pos) (Bk te (qZ i)):=⟨Xn hN hi hx he.run hf h⟩
theorem lO {ts:Dz} (he:JE X e te) (hg:JG X (.Subscript a b pos') g) (h:autoParam (lM e=true) L2.auto4._auto_1):JS X (.Assign [.Subscript a b pos'] e pos) (Bk te g):=⟨TQ he.run hg.run (by show swapsWith e (some (.Subscript a b pos')) pos.line X.env=pure false;exact BR h) (by cases e <;> rfl) rfl⟩
theorem aK (he:JE X e te):JS X (.Return (some e) pos) (Tt te):=⟨Tu he.run⟩
theorem aU (he:JE X e te) (h:autoParam (lM e=true) L2.auto4._auto_1):JS X (.Expr e pos) (FP te):=⟨UT he.run h⟩
theorem bK {sa sb:List Stmt} (hc:JT X c tt) (ha:JB X sa u) (hb:JB X sb v):JS X (.If c sa sb pos) (Tv tt u v):=⟨WL hc.run ha.run hb.run⟩
theorem iR {body:List Stmt} (hp:PassesOwn (model X.prog X.w) X.A X.env X.xe) (hc:X.calm=true) (hi:JI X tg iter wi) (hg:JG X tg g) (hb:JB X body u) (h:autoParam (uz iter=true) L2.auto4._auto_1):JS X (.For tg iter body [] pos) (Pr wi g u):=⟨Xo hp hc hi.run hg.run hb.run h⟩
theorem Lx {body:List Stmt} (hp:PassesOwn (model X.prog X.w) X.A X.env X.xe) (hc:JT X c tt) (hb:JB X body u):JS X (.While c body [] pos) (DG tt u):=⟨Ks hp hc.run hb.run⟩
theorem dH:JS X st Km:=⟨Ko⟩
theorem bx:JB X [] Kh:=⟨Pa⟩
theorem aB (h:JS X st u):JB X [st] u:=⟨Pb h.run⟩
theorem aA (h:JS X st u) (h2:JB X sts v):JB X (st :: sts) (O9 u v):=⟨Kl h.run h2.run⟩
end
section
variable {P:Program} {w:World} {K:W.Frag} {mg:Str->Option Value} {base:Heap}
theorem cz {x:Str} {st:Stmt} {N ps:List Str} {k:Nat} {sp:Sp} (D:b7 K mg x st) (S:aC N ps (az st))
  (hb:∀ (kV doc pm:Value) (an:Option Addr) (cdv ct:Value) (us:List Value),us.length=ps.length->bindArgs (PySem.W.fnOf x x (cu st) (bC st) (az st) .none kV doc pm an cdv ct) ⟨us,[]⟩=pure (ps.zip us))
  (len:∀ vs H Q E,sp vs H Q E->vs.length=ps.length)
  (hbody:∀ (f:Addr) (cdv:Value) (A:Around) (outer:List Env) (s:Shared) (H:Hp) (vs:List V) (Q:VK) (E:XK),Room k (A.deeper (envOfC x (az st) s.heap.objs.size f cdv))->sp vs H Q E->
   ∃ t,JB (o5 Ir P w K mg base N x (az st) f cdv A outer s H E).nox (bC st) t/\t {nx:=fun _ H'=>Q .non H',rt:=Q} (start N vs) H):Has P w K mg base (k+1) x ps sp:=
 Uv D S hb len fun f cdv A outer s H vs Q E hr h=>let ⟨t,j,q⟩:=hbody f cdv A outer s H vs Q E hr h;⟨t,j.run,q⟩
theorem okJ {x:Str} {st:Stmt} {N ps:List Str} {k:Nat} {sp:Sp} {f:Addr} {fd:FuncData} (F:Fun K x x st f fd) (S:aC N ps (az st)) (len:∀ vs H Q E,sp vs H Q E->vs.length=ps.length)
  (hbody:∀ (f:Addr) (cdv:Value) (A:Around) (outer:List Env) (s:Shared) (H:Hp) (vs:List V) (Q:VK) (E:XK),Room k (A.deeper (envOfC x (az st) s.heap.objs.size f cdv))->sp vs H Q E->
   ∃ t,JB (o5 Ir P w K mg base N x (az st) f cdv A outer s H E).nox (bC st) t/\t {nx:=fun _ H'=>Q .non H',rt:=Q} (start N vs) H):FnOk P w K mg base Ir (k+1) f fd ps sp:=
 F.ok S len fun cdv A outer s H vs Q E hr h=>let ⟨t,j,q⟩:=hbody f cdv A outer s H vs Q E hr h;⟨t,j.run,q⟩
end
theorem pB {K:W.Frag} {mg:Str->Option Value} {h:Heap} (X:K.In h) (G:h.Ns mainGlobals mg) {x:Str} {v:Value} {f:Tok->Value} (a:PySem.W.nsIn K mainGlobals x=some (some v)) (e:∃ t,v=f t):∃ t,mg x=some (f t):=by
 obtain ⟨t,rfl⟩:=e
 exact ⟨t,ZQ X G a⟩
theorem Xv {l:PySem.W.OpenLaw} {q:Program} {loose:List Str} {XP:(Str->Option Value)->Heap->Prop} {YP:World->Heap->Prop} {d:DefRec} {K:Params->W.Frag} {st:Stmt} {k:Nat} {sp:W.Frag->Sp} {x:Str}
  (hn:l.most=some 63) (hdf:d.params.defaults=[]) (hdn:d.name="law") (hk:Room k callerA) (hY:∀ (w:World) (h:Heap),YP w h->(K w.params).In h)
  (hb:∀ (kV doc pm:Value) (an:Option Addr) (cdv ct:Value) (us:List Value),us.length=[x].length->bindArgs (PySem.W.fnOf "law" "law" (cu st) (bC st) (az st) .none kV doc pm an cdv ct) ⟨us,[]⟩=pure ([x].zip us))
  (F:∀ (w:World) (mg:Str->Option Value) (h:Heap),(K w.params).In h->h.Ns mainGlobals mg->b7 (K w.params) mg "law" st/\∀ (base:Heap) (f:Addr) (fd:FuncData),Fun (K w.params) "law" "law" st f fd->FnOk l.prog w (K w.params) mg base Ir k f fd [x] (sp (K w.params)))
  (hsp:∀ (K:W.Frag) (H:Hp) (a:Addr) (ns:List Int),ns.length<=63->SqL K H a (ns.map V.int)->sp K [.ref a] H (fun v _=>v= .bl true) fun _ _ _=>False) (him:autoParam (importsNone q=true) L2.auto6._auto_1):
  PySem.W.WalkO q loose XP YP l.row.toRowW d [] (fun f vs=>PySem.call f vs):=
 L2.Qd (n:=63) (k:=k) (x:=x) (CX:=fun _=>Ir) (sp:=fun w=>sp (K w.params)) hn (by decide) hdf hk hY (fun w mg fa h X G e=>by
  obtain ⟨⟨f,fd,Fn,hm⟩,ok⟩:=F w mg h X G
  rw [hdn,hm] at e
  have ef:f=fa:=by injection (Zv e)
  subst ef
  refine ⟨fd,fun s u=>?_,fun base _ _=>ok base f fd Fn⟩
  obtain ⟨oc,od,kV,doc,pm,an,cdv,ct,osl,rfl,lk,hcd⟩:=Fn.ex
  exact .of_eq (hb kV doc pm an cdv ct [u] rfl)) (fun w H a ns hl _ hS=>hsp _ H a ns hl hS) (fun _ _ _ _ _ z=>z) him
def YG (xs:Nat->List V) (n:Nat):It:=⟨fun i _=>i < n,fun i H v H'=>∃ T,H T=none/\v= .ref T/\H'=upd H T (.tup (xs i)),fun i _=>i=n⟩
theorem U0 {P:Program} {w:World} {K:W.Frag} {elts:List Expr} {k:Nat} {pos:Pos} {it:Addr} {fp wr:List Addr} {n:Nat} {xs:Nat->List V} {Pt:Nat->Array Value->Prop} {St:Nat->Heap->Prop} {Mid:Nat->Addr->Heap->Prop}
  (W:∀ A:Around,A.handled=none->WalksT P w A it fp wr n Pt St Mid) (hxs:∀ i,(xs i).length<=sizeLine) (hPt:∀ i vals,Pt i vals->Vals (xs i) vals.toList) (hmem:it∈fp)
  (hobj:∀ i h,St i h->∀ b∈fp,∃ o,h.get? b=some o/\∀ v,o.data≠.cell v)
  (hself:∀ (A:Around) (i:Nat) (s:Shared) (Q:Value->Shared->Prop) (E:Value->Shared->Prop),St i s.heap->Q (.ref it) s->wpAny (model P w) A (pyIter (.ref it)) Q E s):
  Turn P w K (.Tuple elts k pos) (YG xs n) fp it St where
 mem:=hmem
 obj:=hobj
 keep:=fun i h h' st kk=>(W {} rfl).frame i h h' st kk
 item:=by
  intro X hP hw hK hc i pins s U H E I hf st hg
  subst hP hw hK
  have W':=W X.A (I.ok.hd hc)
  refine W'.item i s _ _ hg st fun T vals h' tk hPv hT isT mid kk=>?_
  refine ⟨.ref T,rfl,W'.go elts k pos i T _ _ _ mid fun h'' st'' kk2=>?_⟩
  have hTn:H T=none:=I.hok.fresh hT
  have hTw:T ∉ wr:=W'.apart i T h' mid
  have kall:∀ b o,b ∉ wr->s.heap.get? b=some o->h''.get? b=some o:=fun b o hb e=>kk2 b o hb (kk b o hb e)
  have nT:∀ b o,s.heap.get? b=some o->b≠T:=fun b o e=>Zr (Zg (Y6 e) hT)
  have nTH:∀ b u,H b=some u->b≠T:=fun b u e z=>by rw [z,hTn] at e;cases e
  have nW:∀ b u,H b=some u->b ∉ wr:=fun b u e hb=>by rw [(hf b (W'.sub b hb)).1] at e;cases e
  have isT':h''.IsTuple T vals:=by
   obtain ⟨o,ho,r⟩:=isT
   exact ⟨o,kk2 T o hTw ho,r⟩
  have hlT:∃ o,h''.get? T=some o:=let ⟨o,ho,_⟩:=isT';⟨o,ho⟩
  have I':Inv X pins U (upd H T (.tup (xs i))) {s with heap:=h'',toks:=tk}:=by
   refine I.step (g':=s.gens) (d':=s.drawn) (ch:=wr) (fun b hb=>?_) (fun b o _ _ hc e _=>kall b o hc e) (fun b o _ _ hc e _=>⟨o.slots,kall b o hc e⟩) (fun b o _ e hn=>by rw [aD (nT b o e)];exact hn)
    (fun b o hc e=>⟨o,kall b o hc e⟩) (fun b ys e=>by rw [aD (nTH b _ e)];exact e) (fun b o u e=>by rw [aD (nTH b _ e)];exact e) (fun b ps e=>⟨#[],by rw [aD (nTH b _ e),e];simp⟩) (fun m hm=>?_) (fun b u e=>?_) I.bare
   ·obtain ⟨f0,f1,f2,f3,f4,f5⟩:=hf b (W'.sub b hb)
    exact ⟨f3,f1,f4,f5⟩
   ·obtain ⟨o,es,ep,ho,r⟩:=hm
    exact ⟨o,es,ep,kall _ o (fun hb=>(hf _ (W'.sub _ hb)).2.1 rfl) ho,r⟩
   ·by_cases hb:b=T
    ·subst hb
     rw [aq] at e;cases e
     obtain ⟨o,ho,hcl,nn,hd⟩:=isT'
     exact ⟨hxs i,vals.toList,hPt i vals hPv,o,ho,hcl,nn,by simpa using hd⟩
    ·rw [aD hb] at e
     refine (I.hok b u e).stay (fun c v hc' q=>kall c v ?_ q) (fun c q=>by rw [aD (nTH c _ q)];exact q) fun c ys q=>by rw [aD (nTH c _ q)];exact q
     rcases hc' with z | z
     ·rw [z];exact nW b u e
     ·exact nW c _ z
  refine ⟨.ref T,upd H T (.tup (xs i)),I',rfl,⟨T,hTn,rfl,rfl⟩,st'',fun b hb=>?_⟩
  obtain ⟨o,e,_⟩:=hobj i _ st b hb
  rw [aD (nT b o e)]
  exact (hf b hb).1
 done:=by
  intro X hP hw hK hc i pins s U H E I hf st hg
  subst hP hw hK
  have W':=W X.A (I.ok.hd hc)
  have hg:i=n:=hg
  subst hg
  refine W'.done s _ _ st fun h' tk kk=>⟨rfl,?_⟩
  have nW:∀ b u,H b=some u->b ∉ wr:=fun b u e hb=>by rw [(hf b (W'.sub b hb)).1] at e;cases e
  refine I.step (g':=s.gens) (d':=s.drawn) (ch:=wr) (fun b hb=>?_) (fun b o _ _ hc e _=>kk b o hc e) (fun b o _ _ hc e _=>⟨o.slots,kk b o hc e⟩) (fun b o _ e hn=>hn)
    (fun b o hc e=>⟨o,kk b o hc e⟩) (fun b ys e=>e) (fun b o u e=>e) (fun b ps e=>⟨#[],by rw [e];simp⟩) (fun m hm=>?_) (fun b u e=>?_) I.bare
  ·obtain ⟨f0,f1,f2,f3,f4,f5⟩:=hf b (W'.sub b hb)
   exact ⟨f3,f1,f4,f5⟩
  ·obtain ⟨o,es,ep,ho,r⟩:=hm
   exact ⟨o,es,ep,kk _ o (fun hb=>(hf _ (W'.sub _ hb)).2.1 rfl) ho,r⟩
  ·refine (I.hok b u e).stay (fun c v hc' q=>kk c v ?_ q) (fun c q=>q) fun c ys q=>q
   rcases hc' with z | z
   ·rw [z];exact nW b u e
   ·exact nW c _ z
 self:=hself
def Cd (x:Str) (i:Nat):List V:=[.int i,.str ⟨#[x.cps.getD i 0]⟩]
def Xw (K:W.Frag):R2:=fun x y H Q=>rNe x y H Q\/∃ (a b:Addr) (ns ms:List Int),x= .ref a/\y= .ref b/\SqL K H a (ns.map V.int)/\SqL K H b (ms.map V.int)/\Q (.bl (!decide (ns=ms))) H
theorem U6 {X:Cx} {K:W.Frag} (hK:X.K=K) (hu:X.A.units+64 < cLine):OpR X (compareOp .NotEq) (Xw K):=by
 subst hK
 intro pins s U H x y v u Q I rx ry h
 rcases h with h | ⟨a,b,ns,ms,rfl,rfl,ha,hb,q⟩
 ·exact WR pins s U H x y v u Q I rx ry h
 ·cases rx
  cases ry
  obtain ⟨its,r1,p1,z1⟩:=I.list ha
  obtain ⟨jts,r2,p2,z2⟩:=I.list hb
  exact PySem.W.ne_intsK p1.isList (intsAre_of r1) p2.isList (intsAre_of r2) hu ⟨.bl _,H,I,rfl,q⟩
section
variable {H:Hp} {Q:VK} {K:W.Frag} {U:St}
theorem dq {n:Nat} {gs:HX} {p:Addr} {xs:List V} {R:St->Hp->Prop} (s:SqT K H p xs) (hl:xs.length=n) (h:gs xs U H R):Pk K n gs (.ref p) U H R:=⟨p,xs,rfl,s,hl,h⟩
theorem cH {t:TG} {u:HX} {v:V} {vs:List V} {R:St->Hp->Prop} (h:t v U H fun U' H'=>u vs U' H' R):Kp t u (v :: vs) U H R:=⟨v,vs,rfl,h⟩
theorem fU {R:St->Hp->Prop} (h:R U H):Tw [] U H R:=⟨rfl,h⟩
theorem kO {p:Addr} {xs:List V} {y:V} (hp:H p=some (.lst xs)) (c:xs.length < sizeLine) (h:Q .non (upd H p (.lst (xs ++ [y])))):Gi (.ref p) [y] H Q:=⟨p,xs,y,rfl,rfl,hp,c,h⟩
theorem Dy {f:Int->V} {i:Int} (h:Q (f i) H):rU f (.int i) H Q:=⟨i,rfl,h⟩
theorem Ep {a:Addr} {xs:List V} {k:Int} (ha:H a=some (.lst xs)) (h0: -(2 ^ 63)<=k) (h1:k < 2 ^ 63) (hz:xs.length*k.toNat<=sizeLine) (h:∀ p,H p=none->Q (.ref p) (upd H p (.lst (List.replicate k.toNat xs).flatten))):Lh (.ref a) (.int k) H Q:=
 .inr (.inr ⟨a,k,xs,rfl,rfl,ha,h0,h1,hz,h⟩)
theorem Gr {z:Str} {g:TG} {tb:TS} {D:Ends} {H:Hp} (Pv:Nat->St->Hp->Prop) (h0:Pv 0 U H)
  (hs:∀ i U H c,z.cps.toList[i]?=some c->Pv i U H->g (.str ⟨#[c]⟩) U H fun σ2 H2=>tb {D with nx:=Pv (i+1),ct:=Pv (i+1),bk:=D.nx} σ2 H2) (hd:∀ U H,Pv z.length U H->D.nx U H):
  ∃ W:Nat->Nat->St->Hp->Prop,(∃ m,W 0 m U H)/\∀ i m U H,W i m U H->
   ((Qh z).stop i H/\D.nx U H)\/((Qh z).go i H/\∃ N:St->Hp->Prop,(∀ U' H',N U' H'->∃ m',m' < m/\W (i+1) m' U' H')/\∀ x H',(Qh z).yld i H x H'->g x U H' fun σ2 H2=>tb {D with nx:=N,ct:=N,bk:=D.nx} σ2 H2):=by
 refine ⟨fun i m U H=>m=z.cps.size - i/\i<=z.cps.size/\Pv i U H,⟨z.cps.size,by simp,gV _,h0⟩,?_⟩
 rintro i m U H ⟨rfl,hi,p⟩
 by_cases hlt:i < z.cps.size
 ·refine .inr ⟨hlt,Pv (i+1),fun U' H' p'=>⟨z.cps.size - (i+1),by omega,rfl,hlt,p'⟩,fun x H' y=>?_⟩
  obtain ⟨e1,c,e2,e3⟩:=y
  subst e1 e3
  exact hs i U _ c (by simpa using e2) p
 ·have e:i=z.cps.size:=by omega
  subst e
  exact .inl ⟨rfl,hd U H p⟩
end
section
variable {X:Cx} {tg iter elt:Expr} {ifs:List Expr} {scope:Scope} {pos:Pos} {N':List Str} {sub:List (Option Nat)} {wi:TI} {g:TG} {tt:TT} {te:TE}
theorem Ly {N:List Str} {sc:Scope} {use:Option (Value->Sem Unit)} {R:Value->Shared->Prop} {p0:Pos} (S:uY N sc N' scope sub) (hc:X.calm=true) (hN:X.N=N) (hsc:X.env.scope=sc) (hi:PI X tg iter wi)
  (hg:∀ (C:Addr) (s₀:Shared) (H₀:Hp) (ex:List Addr),PG (qI X N' scope C s₀ H₀ ex) tg g)
  (ht:∀ (C:Addr) (s₀:Shared) (H₀:Hp) (ex:List Addr),Bs (qI X N' scope C s₀ H₀ ex) ifs tt)
  (he:∀ (C:Addr) (s₀:Shared) (H₀:Hp) (ex:List Addr),PE (qI X N' scope C s₀ H₀ ex) elt te)
  (hs:∀ x,foldedSetIterable iter X.env x=pure x) (pins:List (Addr×Obj)) (s:Shared) (U:St) (H:Hp) (Q:VK) (I:Inv X pins U H s) (h:wz sub wi g tt te U H Q)
  (hend:∀ (D C:Addr) (s5:Shared) (H5:Hp) (m:Str->Option Value),Inv X pins U H5 s5->mR X pins H5 C->s5.heap.Ns C m->Q (.ref D) H5->compPost (model X.prog X.w) X.A X.xe use R (.ref D) C (.ok .next) s5):
  wpAny (model X.prog X.w) X.A (comprehension (.ListComp elt [⟨tg,iter,ifs,0⟩] scope pos) scope X.env p0 (newList []) false (eval iter X.env) use) R X.xe s:=by
 have hcl:∀ x∈scope.names,x.2=NameKind.free->∃ c,X.env.cells.lookup x.1=some c:=fun x hx hk=>I.ok.has x.1 (by have:=S.free x hx hk;rw [← hsc] at this;exact this)
 refine wpAny_comprehension_free (use:=use) rfl hs (q9 hcl) S.kind S.loc ?_
 refine bV (hi pins s U H _ I h) fun v s1 h1=>bV h1 fun itv s2 h2=>?_
 obtain ⟨it,fp,tn,J,H2,e,I2,T,st2,f2,W,⟨m0,w0⟩,turn⟩:=h2
 subst e
 refine Z2 (gR fun h₁ hns₁ hk31 hcl₁=>?_)
 dsimp only at hns₁ hk31 hcl₁ ⊢
 generalize hs3:({s2 with heap:=s2.heap.push {cls:=.type "list",dict:=none,data:=.seq ([]:List Value).toArray}}:Shared)=s3
 have e3:s2.heap.push {cls:=.type "list",dict:=none,data:=.seq ([]:List Value).toArray}=s3.heap:=by rw [← hs3]
 rw [e3] at hns₁ hk31 hcl₁ ⊢
 have hD3:s3.heap.get? s2.heap.objs.size=some {cls:=.type "list",dict:=none,data:=.seq ([]:List Value).toArray}:=by rw [← e3];exact Y9 _ rfl
 have I3:Inv X pins U H2 s3:=by
  rw [← hs3]
  exact I2.kept (t':=s2.toks) fun b o e=>YW _ e
 have k23:∀ b o,s2.heap.get? b=some o->s3.heap.get? b=some o:=fun b o e=>by rw [← e3];exact YW _ e
 have hsz:s3.heap.objs.size=s2.heap.objs.size+1:=by rw [← e3,Aah]
 have hDn:H2 s2.heap.objs.size=none:=I2.hok.fresh (YZ _)
 have fD:mR X pins H2 s2.heap.objs.size:=I2.fpOk (YZ _) hDn
 have hfo:∀ b∈fp,b < s2.heap.objs.size:=fun b hb=>let ⟨o,e,_⟩:=T.obj _ _ st2 b hb;Y6 e
 have hDfp:s2.heap.objs.size ∉ fp:=fun z=>absurd (hfo _ z) (Z1 _)
 have I4:=yC (tk:=s3.toks+([]:List (Str×Value)).length) S hN hsc I3 f2 (fun b hb=>by rw [hsz];exact Nat.lt_succ_of_lt (hfo b hb)) (D:=s2.heap.objs.size) (by rw [hsz];exact Aau _) fD hns₁ hk31 hcl₁
 have stat:∀ {H':Hp} {ob:Obj},(∀ b∈fp,H' b=none)->∀ b∈fp,mR (qI X N' scope s3.heap.objs.size s3 H2 (s2.heap.objs.size :: fp)) [(s2.heap.objs.size,ob)] H' b:=fun {H' ob} hn b hb=>by
  obtain ⟨q1,q2⟩:=I4.ok.exf b (Zb _ hb)
  refine ⟨hn b hb,q1,I4.ok.exfs b (Zb _ hb),.inl (Zb _ hb),q2,fun p hp z=>?_⟩
  have hp':p=(s2.heap.objs.size,ob):=by simpa [qI] using hp
  subst hp'
  have z':s2.heap.objs.size=b:=z
  exact hDfp (by rw [z'];exact hb)
 generalize hXC:qI X N' scope s3.heap.objs.size s3 H2 (s2.heap.objs.size :: fp)=XC at I4 stat
 have eP:XC.prog=X.prog:=by rw [← hXC];rfl
 have eW:XC.w=X.w:=by rw [← hXC];rfl
 have eK:XC.K=X.K:=by rw [← hXC];rfl
 have eA:XC.A=X.A:=by rw [← hXC];rfl
 have eE:XC.env=compEnvC scope (Iv X scope s3.heap.objs.size) s3.heap.objs.size X.env:=by rw [← hXC];rfl
 have eC:XC.calm=true:=by rw [← hXC];exact hc
 have eX:XC.xe=fun _ _=>False:=by rw [← hXC];rfl
 have eH:XC.H₀=H2:=by rw [← hXC];rfl
 have eS:XC.s₀=s3:=by rw [← hXC];rfl
 have eF:XC.fs=frs X.stack:=by rw [← hXC];rfl
 have eEx:XC.ex=s2.heap.objs.size :: fp:=by rw [← hXC];rfl
 have ePn:XC.pn=[]:=by rw [← hXC];rfl
 have hgC:PG XC tg g:=by rw [← hXC];exact hg _ _ _ _
 have htC:Bs XC ifs tt:=by rw [← hXC];exact ht _ _ _ _
 have heC:PE XC elt te:=by rw [← hXC];exact he _ _ _ _
 have pinD:∀ {U':St} {H':Hp} {s':Shared} {ob:Obj},Inv XC [] U' H' s'->H' s2.heap.objs.size=none->s'.heap.get? s2.heap.objs.size=some ob->(∀ v,ob.data≠.cell v)->Inv XC [(s2.heap.objs.size,ob)] U' H' s':=fun {U' H' s' ob} J hn hg hd=>
  J.pins_of fun p hp=>by
   have hp':p=(s2.heap.objs.size,ob):=by simpa using hp
   subst hp'
   refine ⟨hg,hn,(J.ok.exf _ (by rw [eEx];exact Zn)).1,J.ok.exfs _ (by rw [eEx];exact Zn),hd⟩
 have loop:codeAny (model X.prog X.w) X.A (.compLoop (.ListComp elt [⟨tg,iter,ifs,0⟩] scope pos) 0 (.ref it) (.ref s2.heap.objs.size) (compEnvC scope (Iv X scope s3.heap.objs.size) s3.heap.objs.size X.env))
   (compPost (model X.prog X.w) X.A X.xe use R (.ref s2.heap.objs.size) s3.heap.objs.size) {s3 with heap:=h₁,toks:=s3.toks+([]:List (Str×Value)).length}:=by
  refine yz (fun n s'=>∃ (i:Nat) (ys:List V) (its:List Value) (nn:Nat) (H':Hp),Inv XC [] (bR sub U) H' s'/\tn i s'.heap/\(∀ b∈fp,H' b=none)/\H' s2.heap.objs.size=none/\
   s'.heap.get? s2.heap.objs.size=some {cls:=.type "list",data:=.seq its.toArray nn}/\Vals ys its/\W i n ys H') ?_ m0
   ⟨0,[],[],_,H2,I4,T.keep _ _ _ st2 fun b _ o e=>hk31 b o (k23 b o e),fun b hb=>(f2 b hb).1,hDn,hk31 _ _ hD3,.nil,w0⟩
  rintro n s4 ⟨i,ys,its,nn,H4,J4,st4,fr4,dn4,dg4,rv4,w4⟩
  have P4:=pinD J4 dn4 dg4 (fun v z=>by cases z)
  rcases turn i n ys H4 w4 with ⟨stop,hyl,qn⟩ | ⟨go,hyl,N,hN,step⟩
  ·have hdone:=T.done XC eP eW eK eC i _ s4 _ H4 (fun _ _=>False) P4 (stat fr4) st4 stop
   rw [eA] at hdone
   refine Zu hdone (fun r s5 ⟨hr,I5⟩=>?_) fun _ _ z=>z
   subst hr
   obtain ⟨m,hn,_⟩:=id I5.loc
   have hCe:XC.env.locals=s3.heap.objs.size:=by rw [eE];rfl
   rw [hCe] at hn
   have hDg:=(I5.pin (s2.heap.objs.size,_) (by rw [ePn];exact Zn)).1
   have hDne:s2.heap.objs.size≠s3.heap.objs.size:=by rw [hsz];exact Zr (Aau _)
   have hHC:H4 s3.heap.objs.size=none:=by have:=I5.free;rw [hCe] at this;exact this
   have k56:∀ b o,b≠s3.heap.objs.size->s5.heap.get? b=some o->s5.heap.get? b=some o:=fun b o hb e=>e
   have un:=I5.base
   rw [eF,eEx,eH,eS] at un
   have nC:∀ b o,s3.heap.get? b=some o->b≠s3.heap.objs.size:=fun b o e=>Zr (Y6 e)
   have hok6:HOk X.prog X.w (upd H4 s2.heap.objs.size (.lst ys)) s5.heap:=by
    have h5:=I5.hok
    rw [eP,eW] at h5
    have O1:∀ b u,H4 b=some u->b≠s3.heap.objs.size:=fun b u e z=>by rw [z,hHC] at e;cases e
    intro b u e
    by_cases hb:b=s2.heap.objs.size
    ·subst hb
     rw [aq] at e;cases e
     exact ⟨hyl,its,nn,rv4,k56 _ _ hDne hDg⟩
    ·rw [aD hb] at e
     have nD:∀ c u,H4 c=some u->c≠s2.heap.objs.size:=fun c u e z=>by rw [z,dn4] at e;cases e
     refine (h5 b u e).stay (fun c v hc' q=>k56 c v ?_ q) (fun c q=>by rw [aD (nD c _ q)];exact q) fun c xs q=>by rw [aD (nD c _ q)];exact q
     rcases hc' with z | z
     ·rw [z];exact O1 b u e
     ·exact O1 c _ z
   have nD2:∀ c u,H4 c=some u->c≠s2.heap.objs.size:=fun c u e z=>by rw [z,dn4] at e;cases e
   have un6:Un (frs X.stack) (s2.heap.objs.size :: fp) H2 (upd H4 s2.heap.objs.size (.lst ys)) s3.heap s5.heap:=
    ⟨fun b o e nn' hb hx=>k56 b o (nC b o e) (un.keep b o e nn' hb hx),fun b o e nn' hb hx=>let ⟨sl,q⟩:=un.slot b o e nn' hb hx;⟨sl,k56 b _ (nC b o e) q⟩,
     fun b o e nn' hx=>by rw [aD (fun z=>hx (by rw [z];exact Zn))];exact un.free b o e nn' hx,
     fun b o e hx=>let ⟨o',q⟩:=un.there b o e hx;⟨o',k56 b o' (nC b o e) q⟩,
     fun b xs e=>by have q:=un.tups b xs e;rw [aD (nD2 b _ q)];exact q,
     fun b o u e=>by have q:=un.frzs b o u e;rw [aD (nD2 b _ q)];exact q,
     fun b ps e=>let ⟨more,q⟩:=un.tbls b ps e;⟨more,by rw [aD (nD2 b _ q)];exact q⟩⟩
   have I6:Inv X pins U (upd H4 s2.heap.objs.size (.lst ys)) s5:=by
    refine I3.call' (s':=s5) (ch:=s2.heap.objs.size :: fp) ?_ un6 hok6 I5.bare fun b hb=>?_
    ·show s5.os=s3.os
     have:=I5.os
     rw [eS] at this
     exact this
    ·have q:mR X pins H2 b:=by
      rcases Za.mp hb with rfl | z
      ·exact fD
      ·exact f2 b z
     obtain ⟨f0,f1,f2',f3,f4,f5⟩:=q
     exact ⟨f3,f1,f4,f5⟩
   have dC:upd H4 s2.heap.objs.size (.lst ys) s3.heap.objs.size=none:=by rw [aD (Ne.symm hDne)];exact hHC
   exact hend _ _ s5 _ m I6 (I3.fpOk (YZ _) dC) hn (qn _ dn4)
  ·have hitem:=T.item XC eP eW eK eC i _ s4 _ H4 (fun _ _=>False) P4 (stat fr4) st4 go
   rw [eA] at hitem
   refine Zu hitem (fun r s5 ⟨u,hr,h5⟩=>?_) fun _ _ z=>z
   subst hr
   dsimp only
   refine Zu h5 (fun _ s6 ⟨x,H6,I6,r6,y6,st6,fr6⟩=>?_) fun _ _ z=>z
   have P6:=I6.pinned (stat fr6) (T.obj _ _ st6)
   rw [← eE,← eP,← eW,← eA]
   refine Zu (hgC _ s6 _ H6 x u _ P6 r6 (step x H6 y6)) (fun _ s7 ⟨σ7,H7,I7,kp7,q7⟩=>?_) fun _ _ z=>by rw [eX] at z;exact z
   refine Zu (htC _ s7 σ7 H7 _ I7 q7) (fun ok s8 ⟨H8,I8,q8⟩=>?_) fun _ _ z=>by rw [eX] at z;exact z
   have fin:∀ {H9:Hp} {s9:Shared},Inv XC ([(s2.heap.objs.size,({cls:=.type "list",data:=.seq its.toArray nn}:Obj))] ++ uw fp s6.heap) σ7 H9 s9->Inv XC [] (bR sub U) H9 s9/\tn (i+1) s9.heap/\(∀ b∈fp,H9 b=none)/\H9 s2.heap.objs.size=none/\
     s9.heap.get? s2.heap.objs.size=some {cls:=.type "list",data:=.seq its.toArray nn}:=fun {H9 s9} J=>by
    have pD:=J.pin (s2.heap.objs.size,({cls:=.type "list",data:=.seq its.toArray nn}:Obj)) (by rw [ePn];simp)
    have pF:∀ b∈fp,∀ o,s6.heap.get? b=some o->s9.heap.get? b=some o/\H9 b=none:=fun b hb o e=>by
     have q:=J.pin (b,o) (by rw [ePn];exact ZF _ (ZF _ (nq hb e)))
     exact ⟨q.1,q.2.1⟩
    refine ⟨?_,T.keep _ _ _ st6 fun b hb o e=>(pF b hb o e).1,fun b hb=>?_,pD.2.1,pD.1⟩
    ·have J0:Inv XC [] σ7 H9 s9:=J.pins_of fun p hp=>nomatch hp
     exact J0.weak kp7.1.symm fun j v e=>kp7.2 j v e
    ·obtain ⟨o,e,_⟩:=T.obj _ _ st6 b hb
     exact (pF b hb o e).2
   cases ok with
   | false=>
    rw [if_neg (by simp)]
    rw [if_neg (by simp)] at q8
    obtain ⟨m',hm,w8⟩:=hN _ _ q8
    obtain ⟨a1,a2,a3,a4,a5⟩:=fin I8
    exact ⟨m',hm,i+1,ys,its,nn,H8,a1,a2,a3,a4,a5,rv4,w8⟩
   | true=>
    rw [if_pos rfl]
    rw [if_pos rfl] at q8
    refine Zu (heC _ s8 σ7 H8 _ I8 q8) (fun xv s9 ⟨y,H9,I9,r9,n9⟩=>?_) fun _ _ z=>by rw [eX] at z;exact z
    obtain ⟨m',hm,w9⟩:=hN _ _ n9
    obtain ⟨a1,a2,a3,a4,a5⟩:=fin I9
    refine wpAny_list_append_plain (items:=its.toArray) ⟨nn,a5⟩ (fun h' ⟨n',hp'⟩ sb=>?_) (by simp;rw [← rv4.length];omega)
    obtain ⟨q1,q2⟩:=I4.ok.exf s2.heap.objs.size (by rw [eEx];exact Zn)
    have a1':Inv XC [] (bR sub U) H9 {s9 with heap:=h'}:=a1.turned (t':=s9.toks) (fun b o hb e=>(sb.2 b hb).trans e) a4 q1 (.inl (by rw [eEx];exact Zn)) q2 (fun p hp=>by rw [ePn] at hp;exact nomatch hp)
    refine ⟨m',hm,i+1,ys ++ [y],its ++ [xv],n',H9,a1',T.keep _ _ _ a2 fun b hb o e=>(sb.2 b (fun z=>hDfp (by rw [← z];exact hb))).trans e,a3,a4,?_,rv4.append (.cons r9 .nil),w9⟩
    rw [hp']
    simp
 subst hs3
 exact codeAny_compStart_list loop (T.self _ 0 _ _ _ (T.keep _ _ _ st2 fun b _ o e=>hk31 b o (k23 b o e)) loop)
theorem Er {N:List Str} {sc:Scope} {i:Nat} {x:Str} {pos' spos:Pos} (hNd:X.N.Nodup) (hxi:X.N[i]?=some x) (hx:Loc X.env.scope x) (hf:X.fn x=true) (S:uY N sc N' scope sub) (hc:X.calm=true) (hN:X.N=N) (hsc:X.env.scope=sc) (hi:PI X tg iter wi)
  (hg:∀ (C:Addr) (s₀:Shared) (H₀:Hp) (ex:List Addr),PG (qI X N' scope C s₀ H₀ ex) tg g)
  (ht:∀ (C:Addr) (s₀:Shared) (H₀:Hp) (ex:List Addr),Bs (qI X N' scope C s₀ H₀ ex) ifs tt)
  (he:∀ (C:Addr) (s₀:Shared) (H₀:Hp) (ex:List Addr),PE (qI X N' scope C s₀ H₀ ex) elt te)
  (hs:∀ x,foldedSetIterable iter X.env x=pure x):PS X (.Assign [.Name x pos'] (.ListComp elt [⟨tg,iter,ifs,0⟩] scope pos) spos) (Bk (wz sub wi g tt te) (qZ i)):=by
 intro pins s U H D I h
 have hsw:∃ b,swapsWith (.ListComp elt [⟨tg,iter,ifs,0⟩] scope pos) (some (.Name x pos')) spos.line X.env=pure b:=⟨_,rfl⟩
 obtain ⟨b,hsw⟩:=hsw
 cases b with
 | false=>exact Kr hNd hxi hx (Gj S hc hN hsc hi hg ht he hs) hsw (.inl hf) pins s U H D I h
 | true=>
  rw [exec_Assign_Name_used _ _ _ _ hsw]
  refine YS (Abd (YS ?_))
  show wpAny _ X.A (do let _ ← comprehension (.ListComp elt [⟨tg,iter,ifs,0⟩] scope pos) scope X.env _ (newList []) false (eval iter X.env) (some (assign (.Name x pos') X.env))) _ _ s
  refine YS (Zu (Ly (use:=some (assign (.Name x pos') X.env)) (R:=fun _ s'=>SP X pins D .next s') S hc hN hsc hi hg ht he hs pins s U H _ I h ?_) (fun _ s' hq=>Y0 (Y0 hq)) fun _ _ e=>e)
  intro Da C s5 H5 m I5 fC hn q
  show wpAny _ X.A (assign (.Name x pos') X.env (.ref Da)) _ _ _
  refine wpAny_assign_Name (ye I5 hNd hxi hx (v:=.ref Da) rfl (fun s6 I6 qq0=>?_) (.inl hf))
  obtain ⟨a,sb,ha⟩:=qq0
  obtain ⟨f0,f1,f2,f3,f4,f5⟩:=fC
  have hCa:C≠a:=fun z=>by
   rcases ha with e | e
   ·exact f1 (z.trans e)
   ·exact f4 x a e z.symm
  exact ⟨m,hn.sameBut sb hCa,fun h' hs'=>⟨_,H5,I6.turned (t':=s6.toks) (fun b o hb e=>hs'.extBut b o hb e) f0 f1 f3 f4 f5,q⟩⟩
end
section
variable {X:Cx} {tg iter elt:Expr} {ifs:List Expr} {scope:Scope} {pos:Pos} {N':List Str} {sub:List (Option Nat)} {wi:TI} {g:TG} {tt:TT} {te:TE} {N:List Str} {sc:Scope}
theorem Gs {i:Nat} {x:Str} {pos' spos:Pos} (hNd:X.N.Nodup) (hxi:X.N[i]?=some x) (hx:Loc X.env.scope x) (S:uY N sc N' scope sub) (hc:X.calm=true) (hN:X.N=N) (hsc:X.env.scope=sc) (hi:JI X tg iter wi)
  (hg:∀ (C:Addr) (s₀:Shared) (H₀:Hp) (ex:List Addr),JG (qI X N' scope C s₀ H₀ ex) tg g)
  (ht:∀ (C:Addr) (s₀:Shared) (H₀:Hp) (ex:List Addr),UV (qI X N' scope C s₀ H₀ ex) ifs tt)
  (he:∀ (C:Addr) (s₀:Shared) (H₀:Hp) (ex:List Addr),JE (qI X N' scope C s₀ H₀ ex) elt te) (hf:X.fn x=true) (h:autoParam (uz iter=true) L2.auto4._auto_1):
  JS X (.Assign [.Name x pos'] (.ListComp elt [⟨tg,iter,ifs,0⟩] scope pos) spos) (Bk (wz sub wi g tt te) (qZ i)):=
 ⟨Er hNd hxi hx hf S hc hN hsc hi.run (fun C s₀ H₀ ex=>(hg C s₀ H₀ ex).run) (fun C s₀ H₀ ex=>(ht C s₀ H₀ ex).run) (fun C s₀ H₀ ex=>(he C s₀ H₀ ex).run) (Lp h)⟩
end
section
variable {X:Cx} {pins:List (Addr×Obj)} {U:St} {H:Hp} {s:Shared}
theorem Inv.newtup {wr:List Addr} {T:Addr} {vals:Array Value} {xs:List V} {h'':Heap} {tk:Nat} (I:Inv X pins U H s) (hf:∀ b∈wr,mR X pins H b) (hT:s.heap.objs.size<=T)
  (kall:∀ b o,b ∉ wr->s.heap.get? b=some o->h''.get? b=some o) (isT':h''.IsTuple T vals) (hv:Vals xs vals.toList) (hx:xs.length<=sizeLine):Inv X pins U (upd H T (.tup xs)) {s with heap:=h'',toks:=tk}:=by
 have hTn:H T=none:=I.hok.fresh hT
 have nT:∀ b o,s.heap.get? b=some o->b≠T:=fun b o e=>Zr (Zg (Y6 e) hT)
 have nTH:∀ b u,H b=some u->b≠T:=fun b u e z=>by rw [z,hTn] at e;cases e
 have nW:∀ b u,H b=some u->b ∉ wr:=fun b u e hb=>by rw [(hf b hb).1] at e;cases e
 refine I.step (g':=s.gens) (d':=s.drawn) (ch:=wr) (fun b hb=>?_) (fun b o _ _ hc e _=>kall b o hc e) (fun b o _ _ hc e _=>⟨o.slots,kall b o hc e⟩) (fun b o _ e hn=>by rw [aD (nT b o e)];exact hn)
  (fun b o hc e=>⟨o,kall b o hc e⟩) (fun b ys e=>by rw [aD (nTH b _ e)];exact e) (fun b o u e=>by rw [aD (nTH b _ e)];exact e) (fun b ps e=>⟨#[],by rw [aD (nTH b _ e),e];simp⟩) (fun m hm=>?_) (fun b u e=>?_) I.bare
 ·obtain ⟨f0,f1,f2,f3,f4,f5⟩:=hf b hb
  exact ⟨f3,f1,f4,f5⟩
 ·obtain ⟨o,es,ep,ho,r⟩:=hm
  exact ⟨o,es,ep,kall _ o (fun hb=>(hf _ hb).2.1 rfl) ho,r⟩
 ·by_cases hb:b=T
  ·subst hb
   rw [aq] at e;cases e
   obtain ⟨o,ho,hcl,nn,hd⟩:=isT'
   exact ⟨hx,vals.toList,hv,o,ho,hcl,nn,by simpa using hd⟩
  ·rw [aD hb] at e
   refine (I.hok b u e).stay (fun c v hc' q=>kall c v ?_ q) (fun c q=>by rw [aD (nTH c _ q)];exact q) fun c ys q=>by rw [aD (nTH c _ q)];exact q
   rcases hc' with z | z
   ·rw [z];exact nW b u e
   ·exact nW c _ z
theorem Inv.only {wr:List Addr} {h':Heap} {tk:Nat} (I:Inv X pins U H s) (hf:∀ b∈wr,mR X pins H b) (kk:∀ b o,b ∉ wr->s.heap.get? b=some o->h'.get? b=some o):Inv X pins U H {s with heap:=h',toks:=tk}:=by
 have nW:∀ b u,H b=some u->b ∉ wr:=fun b u e hb=>by rw [(hf b hb).1] at e;cases e
 refine I.step (g':=s.gens) (d':=s.drawn) (ch:=wr) (fun b hb=>?_) (fun b o _ _ hc e _=>kk b o hc e) (fun b o _ _ hc e _=>⟨o.slots,kk b o hc e⟩) (fun b o _ e hn=>hn)
   (fun b o hc e=>⟨o,kk b o hc e⟩) (fun b ys e=>e) (fun b o u e=>e) (fun b ps e=>⟨#[],by rw [e];simp⟩) (fun m hm=>?_) (fun b u e=>?_) I.bare
 ·obtain ⟨f0,f1,f2,f3,f4,f5⟩:=hf b hb
  exact ⟨f3,f1,f4,f5⟩
 ·obtain ⟨o,es,ep,ho,r⟩:=hm
  exact ⟨o,es,ep,kk _ o (fun hb=>(hf _ hb).2.1 rfl) ho,r⟩
 ·refine (I.hok b u e).stay (fun c v hc' q=>kk c v ?_ q) (fun c q=>q) fun c ys q=>q
  rcases hc' with z | z
  ·rw [z];exact nW b u e
  ·exact nW c _ z
end
def Wn (K:W.Frag) (a:Addr):It:=
 ⟨fun i H=>∃ xs x,SqL K H a xs/\xs[i]?=some x,
  fun i H v H'=>∃ T x,H T=none/\v= .ref T/\(∀ xs,SqL K H a xs->xs[i]?=some x)/\H'=upd H T (.tup [.int i,x]),
  fun i H=>∃ xs,SqL K H a xs/\xs.length<=i⟩
theorem Es {P:Program} {w:World} {K:W.Frag} {elts:List Expr} {k:Nat} {pos:Pos} {e it a:Addr} (hne:e≠it):
  Turn P w K (.Tuple elts k pos) (Wn K a) [e,it] e (fun i h=>(∃ old,IsEnum h e it i old)/\h.IsListIter it a i) where
 mem:=by simp
 obj:=fun i h st c hc=>by
  obtain ⟨⟨old,he⟩,⟨o1,e1,c1,d1⟩⟩:=st
  simp only [Za,Zz,or_false] at hc
  rcases hc with rfl | rfl
  ·exact ⟨_,he,fun v z=>by cases z⟩
  ·exact ⟨_,e1,fun v z=>by rw [d1] at z;cases z⟩
 keep:=fun i h h' st kk=>by
  obtain ⟨⟨old,he⟩,h1⟩:=st
  exact ⟨⟨old,kk e (by simp) _ he⟩,h1.at fun o q=>kk it (by simp) o q⟩
 item:=by
  intro X hP hw hK hc i pins s U H E I hf st hg
  subst hP hw hK
  obtain ⟨⟨old,he⟩,h1⟩:=st
  obtain ⟨xs,x,hq,hx⟩:=hg
  obtain ⟨its,rv,p,_⟩:=I.list hq
  obtain ⟨u,hu,ru⟩:=rv.get hx
  refine wpAny_pyNext_enum_item he h1 p.isList (x:=u) (by simpa using hu) hne fun h' a1 a2 a3 a4 hk=>?_
  refine ⟨_,rfl,wpAny_letOwnedTupleGo_enum a1 fun h'' a1' sb=>?_⟩
  have lt:∀ {c o},s.heap.get? c=some o->s.heap.objs.size≠c:=fun e=>AaK (Y6 e)
  have lti:s.heap.objs.size≠it:=by obtain ⟨o,q,_⟩:=h1;exact lt q
  have isT:h''.IsTuple s.heap.objs.size #[.int i s.toks,u]:=⟨_,sb.extBut _ _ (lt he) a3,rfl,_,rfl⟩
  have kall:∀ b o,b ∉ [e,it]->s.heap.get? b=some o->h''.get? b=some o:=fun b o hb q=>by
   simp only [Za,Zz,or_false,not_or] at hb
   exact sb.extBut _ _ hb.1 (hk b o hb.1 hb.2 q)
  have hTn:H s.heap.objs.size=none:=I.hok.fresh (YZ _)
  refine ⟨.ref s.heap.objs.size,_,I.newtup (tk:=s.toks+1) hf (YZ _) kall isT (xs:=[.int i,x]) (.cons ⟨_,rfl⟩ (.cons ru .nil)) (by simp;decide),rfl,⟨_,x,hTn,rfl,fun zs hs=>by rw [I.list_inj hs hq];exact hx,rfl⟩,?_,fun b hb=>?_⟩
  ·exact ⟨⟨_,a1'⟩,a2.extBut sb.extBut (Ne.symm hne)⟩
  ·have:s.heap.objs.size≠b:=by
    simp only [Za,Zz,or_false] at hb
    rcases hb with rfl | rfl
    ·exact lt he
    ·exact lti
   rw [aD (Ne.symm this)]
   exact (hf b hb).1
 done:=by
  intro X hP hw hK hc i pins s U H E I hf st hg
  subst hP hw hK
  obtain ⟨⟨old,he⟩,h1⟩:=st
  obtain ⟨xs,hq,hx⟩:=hg
  obtain ⟨its,rv,p,_⟩:=I.list hq
  have l1:=rv.length
  refine wpAny_pyNext_enum_end (I.ok.hd hc) he h1 p.isList (by simp;omega) fun h' hk=>⟨rfl,I.only (tk:=s.toks) hf fun b o hb q=>?_⟩
  simp only [Za,Zz,or_false,not_or] at hb
  exact hk b o hb.2 q
 self:=fun _ _ _ _ _ st h=>let ⟨⟨_,he⟩,_⟩:=st;wpAny_pyIter_enum he h
theorem Je {X:Cx} {elts:List Expr} {k:Nat} {tp:Pos} {pins:List (Addr×Obj)} {U:St} {H1:Hp} {s1:Shared} {x:Str} {t:Tok} {R:It->Hp->Prop} (hc:X.calm=true) (I1:Inv X pins U H1 s1) (q:R (YG (Cd x) x.cps.size) H1):
  wpAny (model X.prog X.w) X.A (call (.type "enumerate") [.str x t]) (fun v s1=>wpAny (model X.prog X.w) X.A (pyIter v) (PIE X pins U (.Tuple elts k tp) R) X.xe s1) X.xe s1:=by
 refine call_enumerate_str fun h' he hit hsz hk=>?_
 have J1:Inv X pins U H1 {s1 with heap:=h'}:=I1.kept (t':=s1.toks) hk
 have ne1:s1.heap.objs.size+1≠s1.heap.objs.size:=Nat.succ_ne_self _
 have nm:s1.heap.objs.size+1 ∉ [s1.heap.objs.size]:=fun z=>ne1 (ZX.mp z)
 have hPt:∀ (i:Nat) (vals:Array Value),(∃ t y,SignAt x i y/\vals= #[.int i t,y])->Vals (Cd x i) vals.toList:=by
  rintro i vals ⟨t,y,⟨c,u,e1,rfl⟩,rfl⟩
  refine .cons ⟨t,rfl⟩ (.cons ⟨u,?_⟩ .nil)
  rw [show x.cps.getD i 0=c by simp [Array.getD_eq_getD_getElem?,e1]]
 have fin:∀ (ty:String) (Dr:∀ A:Around,A.handled=none->Draws X.prog X.w A s1.heap.objs.size [s1.heap.objs.size] x.cps.size (SignAt x) fun i h=>h.IsStrIter s1.heap.objs.size ty x t i),h'.IsStrIter s1.heap.objs.size ty x t 0->
   wpAny (model X.prog X.w) X.A (pyIter (.ref (s1.heap.objs.size+1))) (PIE X pins U (.Tuple elts k tp) R) X.xe {s1 with heap:=h'}:=by
  intro ty Dr hit'
  have W:∀ A:Around,A.handled=none->WalksT X.prog X.w A (s1.heap.objs.size+1) [s1.heap.objs.size+1,s1.heap.objs.size] [s1.heap.objs.size+1,s1.heap.objs.size] x.cps.size
    (fun i vals=>∃ t y,SignAt x i y/\vals= #[.int i t,y]) (fun i h=>(∃ old,IsEnum h (s1.heap.objs.size+1) s1.heap.objs.size i old)/\h.IsStrIter s1.heap.objs.size ty x t i)
    (fun i T h=>(∃ y,IsEnumOut h (s1.heap.objs.size+1) s1.heap.objs.size ((i:Int)+1) y T)/\h.IsStrIter s1.heap.objs.size ty x t (i+1)/\T≠s1.heap.objs.size+1/\T≠s1.heap.objs.size):=
   fun A hA=>WalksT.enumerateD (Dr A.in1 hA) (s1.heap.objs.size+1) ne1 nm (by simp)
  have hself:∀ (A:Around) (i:Nat) (s:Shared) (Q:Value->Shared->Prop) (E:Value->Shared->Prop),((∃ old,IsEnum s.heap (s1.heap.objs.size+1) s1.heap.objs.size i old)/\s.heap.IsStrIter s1.heap.objs.size ty x t i)->Q (.ref (s1.heap.objs.size+1)) s->wpAny (model X.prog X.w) A (pyIter (.ref (s1.heap.objs.size+1))) Q E s:=by
   rintro A i s Q E ⟨⟨old,he⟩,_⟩ hQ
   exact wpAny_pyIter_enum he hQ
  refine hself _ 0 _ _ _ ⟨⟨_,he⟩,hit'⟩ ?_
  refine ⟨s1.heap.objs.size+1,[s1.heap.objs.size+1,s1.heap.objs.size],_,_,H1,rfl,J1,U0 W (fun i=>by simp [Cd];decide) hPt (by simp) ?_ hself,⟨⟨_,he⟩,hit'⟩,fun b hb=>?_,q⟩
  ·rintro i h ⟨⟨old,he⟩,o,ho,hcl,hd⟩ b hb
   rcases Za.mp hb with rfl | hb
   ·exact ⟨_,he,fun v z=>by cases z⟩
   ·rw [ZX.mp hb]
    exact ⟨o,ho,fun v z=>by rw [hd] at z;cases z⟩
  ·have hb':s1.heap.objs.size<=b:=by
    rcases Za.mp hb with rfl | hb
    ·exact Nat.le_succ _
    ·rw [ZX.mp hb];exact YZ _
   exact I1.fpOk hb' (I1.hok.fresh hb')
 cases hx:x.cps.all (· < 128)
 ·exact fin "str_iterator" (fun A hA=>Draws.strWide hA _ x t) (by simpa [strIterType,hx] using hit)
 ·exact fin "str_ascii_iterator" (fun A hA=>Draws.strAscii hA _ x t) (by simpa [strIterType,hx] using hit)
def R0 (K:W.Frag) (ta:TA):TI:=fun U H R=>ta U H fun vs H1=>(∃ x:Str,vs=[.str x]/\R (YG (Cd x) x.cps.size) H1)\/∃ a xs,vs=[.ref a]/\SqL K H1 a xs/\R (Wn K a) H1
theorem Gu {X:Cx} {K:W.Frag} {a:Expr} {ta:TA} {elts:List Expr} {k:Nat} {tp p pos:Pos} (hK:X.K=K) (hc:X.calm=true) (hg:Gl X "enumerate") (hm:X.mg "enumerate"=none) (ha:JA X [a] ta) (h:autoParam (notStar a=true) L2.auto4._auto_1):
  JI X (.Tuple elts k tp) (.Call (.Name "enumerate" p) [a] [] pos) (R0 K ta):=⟨by
 subst hK
 intro pins s U H R I hq
 refine Call_ (ig I hg hm zL (Zq (bV (ha.run pos pins s U H _ I hq) fun us s1 qq0=>?_) (bF h) rfl))
 obtain ⟨vs,H1,I1,r1,q1⟩:=qq0
 rcases q1 with ⟨x,e,q⟩ | ⟨l,xs,e,hl,q⟩
 ·subst e
  obtain ⟨u,rfl,t,rfl⟩:=vals1 r1
  exact Je hc I1 q
 ·subst e
  obtain ⟨u,rfl,ru⟩:=vals1 r1
  cases ru
  obtain ⟨its,rv,p1,_⟩:=I1.list hl
  refine call_enumerate_list p1.isList fun h' z1 z2 z3 hk=>?_
  have J1:Inv X pins U H1 {s1 with heap:=h'}:=I1.kept (t':=s1.toks) hk
  refine wpAny_pyIter_enum z1 ?_
  refine ⟨s1.heap.objs.size+1,_,_,_,H1,rfl,J1,Es (Nat.succ_ne_self _),⟨⟨_,z1⟩,z2⟩,fun b hb=>?_,q⟩
  have hb':s1.heap.objs.size<=b:=by
   simp only [Za,Zz,or_false] at hb
   have key:∀ n c:Nat,(c=n+1\/c=n)->n<=c:=fun n c h=>by omega
   exact key _ _ hb
  exact I1.fpOk hb' (I1.hok.fresh hb')⟩
end L2
namespace L2
open PySem PySem.Spec PyProof.Rows PySem.SeqAt
mutual
def DR (H:Hp):PyData->V->Prop
 | .none,v=>v= .non
 | .bool b,v=>v= .bl b
 | .int n,v=>v= .int n
 | .str x,v=>v= .str x
 | .list ds,v=>∃ a vs,v= .ref a/\H a=some (.lst vs)/\DRs H ds vs
 | .tuple ds,v=>∃ a vs,v= .ref a/\H a=some (.tup vs)/\DRs H ds vs
 | .dict _,_=>False
def DRs (H:Hp):List PyData->List V->Prop
 | [],vs=>vs=[]
 | d :: ds,vs=>∃ v r,vs=v :: r/\DR H d v/\DRs H ds r
end
mutual
theorem DR.same {H H':Hp} (s:Same H H'):∀ (d:PyData) (v:V),DR H d v->DR H' d v
 | .none,_,h=>by rw [DR] at h ⊢;exact h
 | .bool _,_,h=>by rw [DR] at h ⊢;exact h
 | .int _,_,h=>by rw [DR] at h ⊢;exact h
 | .str _,_,h=>by rw [DR] at h ⊢;exact h
 | .list ds,v,h=>by rw [DR] at h ⊢;obtain ⟨a,vs,e,q,r⟩:=h;exact ⟨a,vs,e,s _ _ q,DRs.same s ds vs r⟩
 | .tuple ds,v,h=>by rw [DR] at h ⊢;obtain ⟨a,vs,e,q,r⟩:=h;exact ⟨a,vs,e,s _ _ q,DRs.same s ds vs r⟩
 | .dict _,_,h=>by rw [DR] at h;exact h.elim
theorem DRs.same {H H':Hp} (s:Same H H'):∀ (ds:List PyData) (vs:List V),DRs H ds vs->DRs H' ds vs
 | [],_,h=>by rw [DRs] at h ⊢;exact h
 | d :: ds,vs,h=>by rw [DRs] at h ⊢;obtain ⟨v,r,e,q,t⟩:=h;exact ⟨v,r,e,DR.same s d v q,DRs.same s ds r t⟩
end
mutual
theorem DR.reads {P:Program} {w:World} {H:Hp} {h:Heap} (ok:HOk P w H h):∀ (d:PyData) (v:V) (u:Value),DR H d v->RelV v u->∃ as,Reads h u d as
 | .none,_,u,q,r=>by rw [DR] at q;subst q;cases r;exact ⟨_,.none⟩
 | .bool b,_,u,q,r=>by rw [DR] at q;subst q;cases r;exact ⟨_,.bool _⟩
 | .int n,_,u,q,r=>by rw [DR] at q;subst q;obtain ⟨t,rfl⟩:=r;exact ⟨_,.int _ _⟩
 | .str n,_,u,q,r=>by rw [DR] at q;subst q;obtain ⟨t,rfl⟩:=r;exact ⟨_,.str _ _⟩
 | .list ds,v,u,q,r=>by
  rw [DR] at q
  obtain ⟨a,vs,rfl,e,t⟩:=q
  cases r
  obtain ⟨_,its,n,rv,g⟩:=ok a _ e
  obtain ⟨as,ra⟩:=DRs.reads ok ds vs its t rv
  exact ⟨_,.list g rfl rfl (by simpa using ra)⟩
 | .tuple ds,v,u,q,r=>by
  rw [DR] at q
  obtain ⟨a,vs,rfl,e,t⟩:=q
  cases r
  obtain ⟨_,its,rv,g⟩:=ok a _ e
  obtain ⟨as,ra⟩:=DRs.reads ok ds vs its t rv
  obtain ⟨o,ho,hc,n,hd⟩:=g
  exact ⟨_,.tuple ho hc hd (by simpa using ra)⟩
 | .dict _,_,_,q,_=>by rw [DR] at q;exact q.elim
theorem DRs.reads {P:Program} {w:World} {H:Hp} {h:Heap} (ok:HOk P w H h):∀ (ds:List PyData) (vs:List V) (us:List Value),DRs H ds vs->Vals vs us->∃ as,ReadsAll h us ds as
 | [],_,us,q,r=>by rw [DRs] at q;subst q;cases r;exact ⟨_,.nil⟩
 | d :: ds,_,us,q,r=>by
  rw [DRs] at q
  obtain ⟨v,r',rfl,q1,q2⟩:=q
  cases r with
  | cons a b=>
   obtain ⟨as,h1⟩:=DR.reads ok d v _ q1 a
   obtain ⟨bs,h2⟩:=DRs.reads ok ds r' _ q2 b
   exact ⟨_,.cons h1 h2⟩
end
def Xx:R2:=fun x y H Q=>∃ d e,DR H d x/\DR H e y/\shaped d=true/\shaped e=true/\Q (.bl (PyData.eqv d e)) H
def Xy:R2:=fun x y H Q=>∃ d e,DR H d x/\DR H e y/\shaped d=true/\shaped e=true/\Q (.bl (!PyData.eqv d e)) H
section
variable {X:Cx}
theorem U9 (hu:X.A.units+64 < cLine):OpR X (compareOp .Eq) Xx:=by
 intro pins s U H x y v u Q I rx ry h
 obtain ⟨d,e,h1,h2,h3,h4,q⟩:=h
 obtain ⟨as,r1⟩:=DR.reads I.hok d x v h1 rx
 obtain ⟨bs,r2⟩:=DR.reads I.hok e y u h2 ry
 exact eq_dataH r1 r2 h3 h4 hu ⟨.bl _,H,I,rfl,q⟩
theorem Va (hu:X.A.units+64 < cLine):OpR X (compareOp .NotEq) Xy:=by
 intro pins s U H x y v u Q I rx ry h
 obtain ⟨d,e,h1,h2,h3,h4,q⟩:=h
 obtain ⟨as,r1⟩:=DR.reads I.hok d x v h1 rx
 obtain ⟨bs,r2⟩:=DR.reads I.hok e y u h2 ry
 exact ne_dataH r1 r2 h3 h4 hu ⟨.bl _,H,I,rfl,q⟩
def Lz (K:W.Frag):R2:=fun x y H Q=>Ux K x y H Q\/Xx x y H Q
def Vb (K:W.Frag):R2:=fun x y H Q=>Xw K x y H Q\/Xy x y H Q
theorem Vc {K:W.Frag} (hK:X.K=K) (hu:X.A.units+64 < cLine):OpR X (compareOp .Eq) (Lz K):=(UG hK (Nat.lt_of_le_of_lt (Aa6 _ _) hu)).or (U9 hu)
theorem zP {K:W.Frag} (hK:X.K=K) (hu:X.A.units+64 < cLine):OpR X (compareOp .NotEq) (Vb K):=(U6 hK hu).or (Va hu)
end
section
variable {H:Hp} {Q:VK} {K:W.Frag} {U:St}
theorem dI {i j:Int} (h:Q (.bl (decide (V.int i=V.int j))) H):Lz K (.int i) (.int j) H Q:=.inl (.inl ⟨rfl,h⟩)
theorem dJ {i j:Str} (h:Q (.bl (decide (V.str i=V.str j))) H):Lz K (.str i) (.str j) H Q:=.inl (.inl ⟨rfl,h⟩)
theorem fV {i j:Int} (h:Q (.bl (!decide (V.int i=V.int j))) H):Vb K (.int i) (.int j) H Q:=.inl (.inl ⟨rfl,h⟩)
theorem fW {i j:Str} (h:Q (.bl (!decide (V.str i=V.str j))) H):Vb K (.str i) (.str j) H Q:=.inl (.inl ⟨rfl,h⟩)
theorem LC {x y:V} {d:PyData} (h1:DR H d x) (h2:DR H d y) (hs:shaped d=true) (h:Q (.bl true) H):Lz K x y H Q:=
 .inr ⟨d,d,h1,h2,hs,hs,by rw [PySem.SeqAt.eqv_refl d (canLay_of_shaped hs)];exact h⟩
theorem cI {a:TA} {R:It->Hp->Prop} (h:a U H fun vs H1=>(∃ x:Str,vs=[.str x]/\R (YG (Cd x) x.cps.size) H1)\/∃ a xs,vs=[.ref a]/\SqL K H1 a xs/\R (Wn K a) H1):R0 K a U H R:=h
theorem yH {a:Addr} {xs:List V} {g:TG} {tb:TS} {D:Ends} (Pv:Nat->St->Hp->Prop) (h0:Pv 0 U H) (hq:∀ i U H,i<=xs.length->Pv i U H->SqL K H a xs)
  (hs:∀ i U H T x,xs[i]?=some x->Pv i U H->H T=none->g (.ref T) U (upd H T (.tup [.int i,x])) fun σ2 H2=>tb {D with nx:=Pv (i+1),ct:=Pv (i+1),bk:=D.nx} σ2 H2) (hd:∀ U H,Pv xs.length U H->D.nx U H):
  ∃ W:Nat->Nat->St->Hp->Prop,(∃ m,W 0 m U H)/\∀ i m U H,W i m U H->
   ((Wn K a).stop i H/\D.nx U H)\/((Wn K a).go i H/\∃ N:St->Hp->Prop,(∀ U' H',N U' H'->∃ m',m' < m/\W (i+1) m' U' H')/\∀ x H',(Wn K a).yld i H x H'->g x U H' fun σ2 H2=>tb {D with nx:=N,ct:=N,bk:=D.nx} σ2 H2):=by
 refine ⟨fun i m U H=>m=xs.length - i/\i<=xs.length/\Pv i U H,⟨xs.length,by simp,gV _,h0⟩,?_⟩
 rintro i m U H ⟨rfl,hi,p⟩
 have q1:=hq i U H hi p
 by_cases hlt:i < xs.length
 ·refine .inr ⟨⟨xs,xs[i],q1,YX hlt⟩,Pv (i+1),fun U' H' p'=>⟨xs.length - (i+1),by omega,rfl,hlt,p'⟩,fun x H' y=>?_⟩
  obtain ⟨T,u,hT,e1,e2,e4⟩:=y
  subst e1 e4
  exact hs i U H T u (e2 xs q1) p hT
 ·have e:i=xs.length:=by omega
  subst e
  exact .inl ⟨⟨xs,q1,YZ _⟩,hd U H p⟩
end
end L2
namespace L2
open PySem PySem.Spec PyProof.Rows
theorem LK:typeLookup (.type "list_reverseiterator") "__len__"=pure none:=by rw [AaP,Aak];kernel_rfl
theorem Jf:typeLookup (.type "list_reverseiterator") "__length_hint__"=pure (some (.builtin "list_reverseiterator.__length_hint__")):=by rw [AaP,Aak];kernel_rfl
section
variable {prog:Program} {w:World} {A:Around} {E:Value->Shared->Prop} {s:Shared}
theorem LQ {it l:Addr} {i:Int} {Q:Bool->Shared->Prop} (hit:s.heap.IsRevIter it l i) (h:Q false s):wpAny (model prog w) A (Builtin.List.listLengthHint (.ref it)) Q E s:=by
 unfold Builtin.List.listLengthHint
 refine YS (AaO hit.typeIs LK ?_)
 show wpAny _ _ (specialOf (Value.ref it) (Str.ofString "__length_hint__") >>=_) _ _ _
 refine YS (AaO hit.typeIs Jf ?_)
 generalize hid:("list_reverseiterator.__length_hint__":String)=id0
 wp_delta
 rw [show splitId id0=some ("list_reverseiterator","__length_hint__") from by subst hid;trivial]
 subst hid
 refine YS (wpAny_isInstance (T:="list_reverseiterator") (b:=true) hit.typeIs (by rw [Aa0];kernel_rfl) ?_)
 refine wpAny_ite_split (fun hab=>absurd hab (by decide)) (fun _=>?_)
 refine wpAny_ite_split (fun _=>?_) (fun hab=>absurd (by trivial) hab)
 refine wpAny_ite_split (fun hab=>absurd hab (by trivial)) (fun _=>?_)
 exact Y0 h
theorem LR {it l:Addr} {items:Array Value} {Q:Value->Shared->Prop} (hh:A.handled=none) (hit:s.heap.IsRevIter it l ((items.size:Int) - 1)) (hl:s.heap.IsList l items) (hne:l≠it) (hn:items.size<=sizeLine)
  (hQ:∀ h' tk acc' c',(∀ b o,b≠it->s.heap.get? b=some o->h'.get? b=some o)->h'.get? s.heap.objs.size=some {cls:=.type "list",dict:=none,data:=.seq acc' c',slots:=#[]}->
   ItemsOf (fun i v=>items[items.size - 1 - i]?=some v) acc' items.size->Q (.ref s.heap.objs.size) {s with heap:=h',toks:=tk}):
  wpAny (model prog w) A (call (.type "list") [.ref it]) Q E s:=by
 refine callType_codes (Q₁:=fun obj s₁=>obj= .ref s.heap.objs.size/\s₁={s with heap:=s.heap.push {cls:=.type "list",data:=.seq #[]}}) F.called_list (F.typeCall_list_1 _) F.entry_list_init
  (code_list_new _ ⟨rfl,rfl⟩) fun obj s₁ h₁=>?_
 obtain ⟨rfl,rfl⟩:=h₁
 have iti:it < s.heap.objs.size:=by obtain ⟨o,e,_⟩:=hit;exact Y6 e
 have itl:l < s.heap.objs.size:=by obtain ⟨o,e,_⟩:=hl;exact Y6 e
 generalize hS0:s.heap.objs.size=S at iti itl hQ
 have hS:(s.heap.push {cls:=.type "list",data:=.seq #[]}).get? S=some {cls:=.type "list",data:=.seq #[]}:=by rw [← hS0];exact Y9 _ rfl
 have kp:∀ b o,s.heap.get? b=some o->(s.heap.push {cls:=.type "list",data:=.seq #[]}).get? b=some o:=fun b o e=>YW _ e
 generalize s.heap.push {cls:=.type "list",data:=.seq #[]}=h1 at hS kp
 have hit1:h1.IsRevIter it l ((items.size:Int) - 1):=hit.at fun o e=>kp it o e
 have hl1:h1.IsList l items:=hl.at fun o e=>kp l o e
 refine ⟨⟨_,hS,rfl⟩,F.args_list_init_2 _ _,?_⟩
 have nSi:S≠it:=AaK iti
 have nSl:S≠l:=AaK itl
 have hSf:S ∉ [it,l]:=by simp [nSi,nSl]
 have W:=(Walks.listRev (prog:=prog) (w:=w) (A:=A.in1.in1) hh it l hne items).toS
 show wpAny _ A.in1.in1 (do let old ← Builtin.List.listItems (.ref S);Builtin.List.listUpdate (.ref S) (fun _=>#[]);letGo old.toList.reverse;Builtin.List.listExtendWith (.ref S) (.ref it) .none) _ _ _
 unfold Builtin.List.listItems
 refine YS (YS (wpAny_seqItems hS rfl (Y0 ?_)))
 show wpAny _ A.in1.in1 (updateSeq S (fun _=>#[]) >>=fun _=>letGo (#[]:Array Value).toList.reverse >>=fun _=>Builtin.List.listExtendWith (.ref S) (.ref it) .none) _ _ _
 refine YS (wpAny_updateSeq hS rfl ?_)
 have hS2:=ZR (Obj.mapSeq (fun _=>(#[]:Array Value))) hS rfl
 have k2:∀ b o,b≠S->h1.get? b=some o->(h1.update S (Obj.mapSeq (fun _=>(#[]:Array Value)))).get? b=some o:=fun b o hb e=>(Zw _ _ (Ne.symm hb)).trans e
 generalize h1.update S (Obj.mapSeq (fun _=>(#[]:Array Value)))=h2 at hS2 k2
 have hit2:=hit1.at (h':=h2) fun o e=>k2 it o (Ne.symm nSi) e
 have hl2:=hl1.at (h':=h2) fun o e=>k2 l o (Ne.symm nSl) e
 refine YS (wpAny_letGo ?_)
 unfold Builtin.List.listExtendWith
 refine YS (wpAny_typeOf (T:="list_reverseiterator") (Heap.IsRevIter.typeIs (s:={s with heap:=h2}) hit2) ?_)
 have e1:Builtin.List.listSameRef (.ref S) (.ref it)=false:=by simp [Builtin.List.listSameRef,nSi]
 have e2:(Value.type "list_reverseiterator" == Value.type "list")=false:=by decide
 have e3:(Value.type "list_reverseiterator" == Value.type "tuple")=false:=by decide
 simp only [e1,e2,e3,Bool.or_false,Bool.false_eq_true,if_false]
 refine YS (wpAny_pyIter_revIter (s:={s with heap:=h2}) hit2 ?_)
 refine YS (ZW (LQ (s:={s with heap:=h2}) hit2 ?_))
 refine wpAny_ite_split (fun hab=>absurd hab (by trivial)) (fun _=>?_)
 refine Y0 ⟨Abe F.plain_extend_loop _,?_⟩
 refine codeAny_extend_loopS W hn S hSf .none items.size 0 _ #[] _ rfl (gV _) ⟨gV _,by simpa using hit2,hl2⟩ hS2 (ItemsOf.nil _) fun s' acc' c' hm hS' hacc=>?_
 rw [Moved.eq_with hm]
 refine ⟨rfl,hQ s'.heap s'.toks acc' c' (fun b o hb e=>hm.heap b o (fun hmem=>?_) (k2 b o (fun z=>?_) (kp b o e))) hS' hacc⟩
 ·rcases Za.mp hmem with e' | hmem
  ·exact absurd (Y6 e) (by rw [e',hS0];exact Z1 _)
  ·exact hb (ZX.mp hmem)
 ·exact absurd (Y6 e) (by rw [z,hS0];exact Z1 _)
end
section
variable {X:Cx} {K:W.Frag} {a b c e:Expr} {ta tb tc te:TE} {pos p p2 p3:Pos}
theorem zQ {op op':CmpOp} {r r':R2} (ho:OpR X (compareOp op) r) (ho':OpR X (compareOp op') r') (ha:JE X a ta) (hb:JE X b tb) (hc:JE X c tc) (hm:autoParam (lastMarks [op,op'] [b,c]=false) L2.auto5._auto_1):
  JE X (.Compare a [op,op'] [b,c] pos) (v8 r r' ta tb tc):=⟨KD ho ho' ha.run hb.run hc.run hm⟩
theorem Ce {op op':CmpOp} {r r':R2} (ho:OpR X (compareOp op) r) (ho':OpR X (compareOp op') r') (ha:JE X a ta) (hb:JE X b tb) (hc:JE X c tc) (hm:autoParam (lastMarks [op,op'] [b,c]=false) L2.auto5._auto_1):
  JT X (.Compare a [op,op'] [b,c] pos) (yj (v8 r r' ta tb tc)):=⟨KH ho ho' ha.run hb.run hc.run hm⟩
theorem arg1 {Q:List Value->Shared->Prop} {E:Value->Shared->Prop} {s:Shared} (hs:notStar e=true) (h:wpAny (model X.prog X.w) X.A (eval e X.env) (fun u s1=>Q [u] s1) E s):wpAny (model X.prog X.w) X.A (spliced (backTo pos (starEach [e] X.env))) Q E s:=by
 rw [bF hs]
 show wpAny _ _ (spliced ((false,eval e X.env) :: backTo pos (starEach [] X.env))) _ _ s
 exact Calls.spliced_cons (Zu h (fun u s1 q=>Calls.spliced_nil q) fun _ _ z=>z)
def Ma (K:W.Frag) (ta:TE):TE:=fun U H Q=>ta U H fun x H1=>∃ l xs,x= .ref l/\SqL K H1 l xs/\∀ q,H1 q=none->Q (.ref q) (upd H1 q (.lst xs.reverse))
theorem yI (hK:X.K=K) (hc:X.calm=true) (hg:Gl X "list") (hm:X.mg "list"=none) (hg2:Gl X "reversed") (hm2:X.mg "reversed"=none) (ha:JE X a ta) (h:autoParam (notStar a=true) L2.auto4._auto_1):
  JE X (.Call (.Name "list" p) [.Call (.Name "reversed" p2) [a] [] p3] [] pos) (Ma K ta):=⟨by
 subst hK
 intro pins s U H Q I hq
 refine ZK (ig I hg hm j4 (Zq (arg1 rfl (ZK (ig I hg2 hm2 u0 (Zq (arg1 h (bV (ha.run pins s U H _ I hq) fun u s1 qq0=>?_)) (bF h) rfl)))) rfl rfl))
 obtain ⟨x,H1,I1,rx,l,xs,ex,hx,q⟩:=qq0
 subst ex
 cases rx
 obtain ⟨its,r,ht,hz⟩:=I1.list hx
 have hlen:=r.length
 refine call_reversed_list ht.isList ?_
 have lt:l < s1.heap.objs.size:=by obtain ⟨o,ho,_⟩:=ht.isList;exact Y6 ho
 have e0:(s1.heap.push (PySem.revObj l ((its.toArray.size:Int) - 1))).get? s1.heap.objs.size=some (PySem.revObj l ((its.toArray.size:Int) - 1)):=Y9 _ rfl
 have k0:∀ b o,s1.heap.get? b=some o->(s1.heap.push (PySem.revObj l ((its.toArray.size:Int) - 1))).get? b=some o:=fun b o q=>YW _ q
 have s0:(s1.heap.push (PySem.revObj l ((its.toArray.size:Int) - 1))).objs.size=s1.heap.objs.size+1:=Aah ..
 refine LR (it:=s1.heap.objs.size) (l:=l) (I1.ok.hd hc) ⟨_,e0,rfl,rfl⟩ (ht.isList.at fun o q=>k0 l o q) (Zr lt) (by simp;omega) fun h' tk acc' c' hk hS hacc=>?_
 have eacc:acc'.toList=its.reverse:=by
  apply AaU
  intro i
  have a1:acc'.size=its.length:=by have:=hacc.1;simpa using this
  by_cases hi:i < its.length
  ·have hi':i < acc'.size:=by omega
   have a2:=hacc.2 i acc'[i] (Array.getElem?_eq_getElem hi')
   rw [List.getElem?_reverse hi]
   simp at a2
   rw [a2]
   simp [hi']
  ·rw [ZZ (by simp;omega),ZZ (by simp;omega)]
 have rr:Vals xs.reverse acc'.toList:=by rw [eacc];exact r.reverse
 have k1:∀ b o,s1.heap.get? b=some o->h'.get? b=some o:=fun b o z=>hk b o (Zr (Y6 z)) (k0 b o z)
 have hle:s1.heap.objs.size<=(s1.heap.push (PySem.revObj l ((its.toArray.size:Int) - 1))).objs.size:=by rw [s0];exact Nat.le_succ _
 refine ⟨.ref _,_,I1.laid (t':=tk) (o:=.lst xs.reverse) k1 hle ⟨by simp;omega,acc'.toList,c',rr,by simpa using hS⟩,rfl,q _ (I1.hok.fresh hle)⟩⟩
end
def Jg (h:Heap) (T:Addr):Prop:=∃ oT ts,h.get? T=some oT/\oT.data= .fields ts/\3 < ts.size
def dB (C:Addr) (dd:Option Addr) (vs:Array Value):Obj:={cls:=.ref C,dict:=dd,data:=.fields vs}
def Qn (l:List Env):List Addr:=l.filterMap (·.frame)
section
variable {M:Model} {A:Around} {E:Value->Shared->Prop}
theorem yJ {base:Heap} {env:Env} {outer:List Env} {L x C:Addr} {dd:Option Addr} {vs:Array Value} {hd:Value} {had:Bool} {Q:Unit->Shared->Prop} {s:Shared}
  (fr:A.frames=some (env :: outer)) (ff:s.heap.FunFrames base (env :: outer)) (fL:env.frame=some L) (ex:s.heap.get? x=some (dB C dd vs)) (sz:1 < vs.size) (nx:x ∉ Qn (env :: outer))
  (k:∀ h' T,h'.get? x=some (dB C dd (vs.setIfInBounds 1 (.ref T)))->s.heap.objs.size<=T->Jg h' T->(∀ b o,b≠x->b ∉ Qn (env :: outer)->s.heap.get? b=some o->h'.get? b=some o)->
   (∀ b o,b≠x->s.heap.get? b=some o->∃ sl,h'.get? b=some {o with slots:=sl})->Q () {s with heap:=h'}):
  wpAny M A (do let c ← frameOf env;let pl ← entryPlaceOf L had;let t ← EntryCells.newEntry hd c .none (rawInt L) .none pl;setField (.ref x) 1 t) Q E s:=by
 refine YS (wpAny_frameOf_fun fr ff fL fun g1 so=>?_)
 refine YS (wpAny_entryPlaceOf fun pl isp=>?_)
 unfold EntryCells.newEntry newFields
 refine YS (Z2 ?_ (isp.sizeOk5 _ _ _ _ _))
 have x1:g1.get? x=some (dB C dd vs):=(so.2.1 x nx).trans ex
 have lts:([hd,Value.ref L,.none,rawInt L,.none] ++ (if pl.isEmpty then List.replicate 6 Value.none else pl)).toArray.size > 3:=by
  simp only [Zh,Z3,Z6,List.length_nil];omega
 generalize ([hd,Value.ref L,.none,rawInt L,.none] ++ (if pl.isEmpty then List.replicate 6 Value.none else pl)).toArray=tv at lts
 have x2:(g1.push {cls:=.type "traceback",dict:=none,data:=.fields tv}).get? x=some (dB C dd vs):=YW _ x1
 have nTx:g1.objs.size≠x:=AaK (Y6 x1)
 have t2:(g1.push {cls:=.type "traceback",dict:=none,data:=.fields tv}).get? g1.objs.size=some {cls:=.type "traceback",dict:=none,data:=.fields tv}:=Y9 _ rfl
 have o2:∀ b o,g1.get? b=some o->(g1.push {cls:=.type "traceback",dict:=none,data:=.fields tv}).get? b=some o:=fun b o e=>YW _ e
 refine Aa1 (vs:=vs) x2 rfl sz ?_
 have e3:=ZR (Obj.mapFields (·.setIfInBounds 1 (Value.ref g1.objs.size))) x2 rfl
 have ot:∀ b,b≠x->((g1.push {cls:=.type "traceback",dict:=none,data:=.fields tv}).update x (Obj.mapFields (·.setIfInBounds 1 (Value.ref g1.objs.size)))).get? b=(g1.push {cls:=.type "traceback",dict:=none,data:=.fields tv}).get? b:=fun b hb=>Zw _ _ (Ne.symm hb)
 refine k _ g1.objs.size e3 (by rw [so.1];exact YZ _) ⟨_,tv,(ot _ nTx).trans t2,rfl,lts⟩ (fun b o hb hf e=>?_) (fun b o hb e=>?_)
 ·rw [ot b hb];exact o2 b o ((so.2.1 b hf).trans e)
 ·obtain ⟨sl,q⟩:=so.2.2 b o e
  exact ⟨sl,by rw [ot b hb];exact o2 b _ q⟩
structure Gv (fs:List Addr) (x C:Addr) (dd:Option Addr) (hd:Option Addr) (h h':Heap) (T:Addr):Prop where
 obj:∃ vs,h'.get? x=some (dB C dd vs)/\vs[1]?=some (.ref T)/\vs[2]?=some .none
 tb:Jg h' T
 ne:T≠x
 new:h.objs.size<=T\/hd=some T
 keep:∀ b o,b≠x->some b≠hd->b ∉ fs->h.get? b=some o->h'.get? b=some o
 slot:∀ b o,b≠x->some b≠hd->h.get? b=some o->∃ sl,h'.get? b=some {o with slots:=sl}
 tail:∀ b o,hd=some b->h.get? b=some o->∃ o',h'.get? b=some o'
theorem Xz {base:Heap} {env:Env} {outer:List Env} {L x C:Addr} {dd:Option Addr} {vs:Array Value} {Q:Unit->Shared->Prop} {s:Shared}
  (fr:A.frames=some (env :: outer)) (ff:s.heap.FunFrames base (env :: outer)) (fL:env.frame=some L) (ex:s.heap.get? x=some (dB C dd vs)) (h1:vs[1]?=some .none/\vs[2]?=some .none) (nx:x ∉ Qn (env :: outer))
  (k:∀ h' T,Gv (Qn (env :: outer)) x C dd none s.heap h' T->Q () {s with heap:=h'}):wpAny M A (noteFrame (.ref x) env) Q E s:=by
 unfold noteFrame
 simp only [fL]
 refine YS (Aam ex rfl h1.1 ?_)
 rw [if_neg (by decide)]
 have sz:1 < vs.size:=(Array.getElem?_eq_some_iff.mp h1.1).1
 refine yJ fr ff fL ex sz nx fun h' T a1 a2 a3 a4 a5=>k h' T ⟨⟨_,a1,by simp [sz],by rw [Array.getElem?_setIfInBounds_ne (by decide)];exact h1.2⟩,a3,?_,.inl a2,fun b o hb _ hf e=>a4 b o hb hf e,fun b o hb _ e=>a5 b o hb e,fun b o z=>by cases z⟩
 exact AaK (Zg (Y6 ex) a2)
theorem XD {base:Heap} {env:Env} {outer:List Env} {L x C T0:Addr} {dd:Option Addr} {vs:Array Value} {Q:Unit->Shared->Prop} {s:Shared}
  (fr:A.frames=some (env :: outer)) (ff:s.heap.FunFrames base (env :: outer)) (fL:env.frame=some L) (ex:s.heap.get? x=some (dB C dd vs)) (h1:vs[1]?=some (.ref T0)/\vs[2]?=some .none) (t0:Jg s.heap T0) (ne:T0≠x) (nx:x ∉ Qn (env :: outer)) (nT:T0 ∉ Qn (env :: outer))
  (k:∀ h' T,Gv (Qn (env :: outer)) x C dd (some T0) s.heap h' T->Q () {s with heap:=h'}):wpAny M A (noteFrame (.ref x) env) Q E s:=by
 obtain ⟨oT,ts,g,d,l3⟩:=id t0
 unfold noteFrame
 simp only [fL]
 refine YS (Aam ex rfl h1.1 ?_)
 rw [if_pos (show (Value.ref T0 != Value.none)=true from by simp)]
 refine YS (Aam g d (Array.getElem?_eq_getElem l3) ?_)
 by_cases q:(ts[3] == rawInt L)=true
 ·rw [if_pos q]
  exact Y0 (k _ T0 ⟨⟨vs,ex,h1⟩,t0,ne,.inr rfl,fun b o _ _ _ e=>e,fun b o _ _ e=>⟨o.slots,e⟩,fun b o _ e=>⟨o,e⟩⟩)
 ·rw [if_neg q]
  refine YS (Aa1 g d l3 ?_)
  have tT:=ZR (Obj.mapFields (·.setIfInBounds 3 Value.none)) g (AaR (Aaz d _))
  have ot:∀ b,b≠T0->(s.heap.update T0 (Obj.mapFields (·.setIfInBounds 3 Value.none))).get? b=s.heap.get? b:=fun b hb=>Zw _ _ (Ne.symm hb)
  have sz:1 < vs.size:=(Array.getElem?_eq_some_iff.mp h1.1).1
  have ff2:(s.heap.update T0 (Obj.mapFields (·.setIfInBounds 3 Value.none))).FunFrames base (env :: outer):=ff.of_keeps fun b o hb hn=>by
   refine ⟨o,(ot b (fun z=>?_)).trans hb,rfl⟩
   rw [z,g] at hb;cases hb;exact hn _ d
  refine yJ (s:={s with heap:=s.heap.update T0 (Obj.mapFields (·.setIfInBounds 3 Value.none))}) fr ff2 fL ((ot x (Ne.symm ne)).trans ex) sz nx fun h' T a1 a2 a3 a4 a5=>k h' T ⟨⟨_,a1,by simp [sz],by rw [Array.getElem?_setIfInBounds_ne (by decide)];exact h1.2⟩,a3,?_,.inl (by rw [Heap.size_update] at a2;exact a2),fun b o hb h0 hf e=>a4 b o hb hf ((ot b (fun z=>h0 (by rw [z]))).trans e),fun b o hb h0 e=>a5 b o hb ((ot b (fun z=>h0 (by rw [z]))).trans e),fun b o hb e=>?_⟩
  ·exact AaK (Zg (Y6 ex) (by rw [Heap.size_update] at a2;exact a2))
  ·cases hb
   obtain ⟨sl,z⟩:=a5 T0 _ ne tT
   exact ⟨_,z⟩
theorem XF {x C T0:Addr} {dd:Option Addr} {vs:Array Value} {Q:Unit->Shared->Prop} {s:Shared} (ex:s.heap.get? x=some (dB C dd vs)) (h1:vs[1]?=some (.ref T0)/\vs[2]?=some .none) (t0:Jg s.heap T0) (ne:T0≠x)
  (k:∀ h',Gv [] x C dd (some T0) s.heap h' T0->Q () {s with heap:=h'}):wpAny M A (setFlight (.ref x) none) Q E s:=by
 obtain ⟨oT,ts,g,d,l3⟩:=id t0
 unfold setFlight
 refine YS (Aam ex rfl h1.1 ?_)
 rw [if_pos (show (Value.ref T0 != Value.none)=true from by simp)]
 refine Aa1 g d l3 (k _ ?_)
 have d2:=Aaz d (·.setIfInBounds 3 ((none:Option Addr).elim Value.none fun f=>rawInt f))
 have tT:=ZR (Obj.mapFields (·.setIfInBounds 3 ((none:Option Addr).elim Value.none fun f=>rawInt f))) g (AaR d2)
 have ot:∀ b,b≠T0->(s.heap.update T0 (Obj.mapFields (·.setIfInBounds 3 ((none:Option Addr).elim Value.none fun f=>rawInt f)))).get? b=s.heap.get? b:=fun b hb=>Zw _ _ (Ne.symm hb)
 exact ⟨⟨vs,(ot x (Ne.symm ne)).trans ex,h1⟩,⟨_,_,tT,d2,by simpa using l3⟩,ne,.inr rfl,fun b o _ h0 _ e=>(ot b (fun z=>h0 (by rw [z]))).trans e,fun b o _ h0 e=>⟨o.slots,(ot b (fun z=>h0 (by rw [z]))).trans e⟩,fun b o hb e=>by cases hb;exact ⟨_,tT⟩⟩
end
def XH:List Value:=[.type "ValueError",.type "Exception",.type "BaseException",.type "object"]
def Wo (K:W.Frag) (D:Addr):Bool:=match K.lookup D with
 | some ⟨.type "type",_,.cls cd,sl⟩=>(match cd.mro,sl.toList with
  | .ref E :: bm,[_,_,_,_,some (.builtin n),_]=>E == D && n == "ValueError.__new__" && cd.hasDel == false && cd.hasDict && PySem.W.tailIn K XH bm
  | _,_=>false)
 | _=>false
theorem wH {K:W.Frag} {D:Addr} (q:Wo K D=true):∃ nm qn N bs bm sn sub ab col dd k0 k1 k2 k3 k5,K.lookup D=some (excClassObj nm qn D N bs bm true sn sub ab col dd k0 k1 k2 k3 k5 "ValueError.__new__")/\∀ h,K.In h->OwnTail h XH bm:=by
 unfold Wo at q
 split at q
 ·rename_i dd cd sl ho
  split at q
  ·rename_i D' bm k0 k1 k2 k3 n k5 hm hs
   simp only [Ze,Aal] at q
   obtain ⟨⟨⟨⟨e1,e2⟩,e3⟩,e4⟩,e5⟩:=q
   subst e1 e2
   obtain ⟨nm,bs,mro,ns,qn,hd,sn,sub,ab,col,del⟩:=cd
   dsimp only at hm e3 e4
   subst hm e3 e4
   have hsl:sl= #[k0,k1,k2,k3,some (.builtin "ValueError.__new__"),k5]:=by
    obtain ⟨l⟩:=sl
    dsimp only at hs
    rw [hs]
   subst hsl
   exact ⟨nm,qn,ns,bs,bm,sn,sub,ab,col,dd,k0,k1,k2,k3,k5,ho,fun h X=>PySem.W.tail_of_in X e5⟩
  ·cases q
 ·cases q
section
variable {prog:Program} {w:World} {A:Around} {K:W.Frag} {D f:Addr} {E:Value->Shared->Prop}
theorem Cg {h:Heap} {g:Array GenState} {d:Drawn} {t:Nat} {os:OsState} {us:List Value} {Q:Fin->Shared->Prop} (X:K.In h) (hx:Wo K D=true)
  (hi:PySem.W.findIn K (.ref D) "__init__"=some (some (.ref f))) (hf:PySem.W.typeIn K (.ref f)=some (.type "function")) (hl:us.length<=sizeLine)
  (k:wpAny (model prog w) A (call (.ref f) (.ref (h.objs.size+1) :: us)) (fun r s'=>r= .none/\Q (.done (.ret (.ref (h.objs.size+1)))) s') E
   ⟨(h.push {cls:=.type "tuple",data:=.seq us.toArray}).push (dB D none #[.ref h.objs.size,.none,.none,.none,.bool false,.none]),g,d,t,os⟩):
  wpAny (model prog w) A (Builtin.«type.__call__» ⟨.ref D :: us,[]⟩) Q E ⟨h,g,d,t,os⟩:=by
 obtain ⟨nm,qn,N,bs,bm,sn,sub,ab,col,dd,k0,k1,k2,k3,k5,lk0,tl⟩:=wH hx
 have T:=tl h X
 have hD:=X _ _ lk0
 have L3:=Aae (M:=model prog w) X hi
 have L4:=PySem.W.bind_fn (M:=model prog w) X (.ref (h.objs.size+1)) hf
 repeat (first | with_reducible refine Aaa hD ?_ | with_reducible refine wpAny_madeBy_exc hD ?_ | wp_step)
 refine codeAny_call_builtin_code (Code.quiet_builtin _ F.excBase_ValueError.quiet) (wpAny_check_new_subT F.excBase_ValueError T hD (codeAny_exc_new_subT F.excBase_ValueError T hD ?_ hl))
 show wpAny _ _ _ _ _ _
 have keep:∀ b o,h.get? b=some o->((h.push {cls:=.type "tuple",data:=.seq us.toArray}).push (dB D none #[.ref h.objs.size,.none,.none,.none,.bool false,.none])).get? b=some o:=fun b o q=>YW _ (YW _ q)
 have gx:((h.push {cls:=.type "tuple",data:=.seq us.toArray}).push (dB D none #[.ref h.objs.size,.none,.none,.none,.bool false,.none])).get? (h.objs.size+1)=some (dB D none #[.ref h.objs.size,.none,.none,.none,.bool false,.none]):=by
  have:=Y9 (h.push {cls:=.type "tuple",data:=.seq us.toArray}) (o:=dB D none #[.ref h.objs.size,.none,.none,.none,.bool false,.none]) rfl
  rwa [Aah] at this
 have hD1:=keep _ _ hD
 have M3:=L3.keeps keep
 have M4:=L4.keeps keep
 have cD:(Value.ref D :: bm).contains (.ref D)=true:=by simp
 unfold dB at gx M3 M4 hD1 k
 unfold isInstance
 repeat (first | with_reducible refine Aaa gx ?_ | (with_reducible refine AaH hD1 ?_;rw [cD]) | wp_step)
 show wpAny _ _ (typeLookup (.ref D) _) _ _ _
 refine M3.at ?_
 refine ZW (YS (M4.at ?_))
 dsimp only
 refine YS (Zu k (fun r s' hr=>?_) fun _ _ z=>z)
 obtain ⟨rfl,z⟩:=hr
 wp_walk
 exact z
theorem Vd {s:Shared} {us:List Value} {Q:Value->Shared->Prop} (X:K.In s.heap) (hx:Wo K D=true)
  (hi:PySem.W.findIn K (.ref D) "__init__"=some (some (.ref f))) (hf:PySem.W.typeIn K (.ref f)=some (.type "function")) (hl:us.length<=sizeLine)
  (k:wpAny (model prog w) (A.under (.builtin "type.__call__" ⟨.ref D :: us,[]⟩)) (call (.ref f) (.ref (s.heap.objs.size+1) :: us)) (fun r s'=>r= .none/\Q (.ref (s.heap.objs.size+1)) s') E
   {s with heap:=(s.heap.push {cls:=.type "tuple",data:=.seq us.toArray}).push (dB D none #[.ref s.heap.objs.size,.none,.none,.none,.bool false,.none])}):
  wpAny (model prog w) A (call (.ref D) us) Q E s:=by
 obtain ⟨h,g,d,t,os⟩:=s
 obtain ⟨nm,qn,N,bs,bm,sn,sub,ab,col,dd,k0,k1,k2,k3,k5,lk0,tl⟩:=wH hx
 have hD:=X _ _ lk0
 have f1:=tc_lookup
 have f2:=tc_bind (.ref D)
 have hT:(⟨h,g,d,t,os⟩:Shared).TypeIs (.ref D) "type":=⟨_,hD,rfl⟩
 refine AaY (codeAny_of_tree ?_)
 show wpAny _ _ (callAny (.ref D) _) _ _ _
 repeat (any_goals (first | assumption | with_reducible refine Aaa hD ?_ | wp_step))
 refine ⟨rfl,codeAny_call_builtin_at (Code.quiet_builtin _ (by trivial)) entry_typeCall (wpAny_check_type_call_sub hD (Cg X hx hi hf hl ?_))⟩
 exact k
end
def uC (x C dx:Addr):HO:=.ext fun h=>∃ vs,h.get? x=some (dB C (some dx) vs)/\vs[2]?=some .none
def kW (x C:Addr):HO:=.ext fun h=>∃ t,h.get? x=some (dB C none #[.ref t,.none,.none,.none,.bool false,.none])
theorem Gw {P:Program} {w:World} {H:Hp} {h:Heap} {x C dx:Addr} {vs:Array Value} (e:h.get? x=some (dB C (some dx) vs)) (h2:vs[2]?=some .none):ObjOk P w H h x (uC x C dx):=
 ⟨⟨vs,e,h2⟩,⟨_,e⟩,fun h1 h2 ⟨vs,e,z⟩ k=>⟨vs,k _ e,z⟩⟩
theorem Gx {P:Program} {w:World} {H:Hp} {h:Heap} {x C dx:Addr} (ok:HOk P w H h) (e:H x=some (uC x C dx)):∃ vs,h.get? x=some (dB C (some dx) vs)/\vs[2]?=some .none:=(ok _ _ e).1
structure Head (X:Cx) (pins:List (Addr×Obj)) (H:Hp) (x C dx T:Addr) (h:Heap):Prop where
 obj:∃ vs,h.get? x=some (dB C (some dx) vs)/\vs[1]?=some (.ref T)/\vs[2]?=some .none
 tb:Jg h T
 fp:mR X pins H T
 tr:H x=some (uC x C dx)
theorem Head.ne {X:Cx} {pins:List (Addr×Obj)} {H:Hp} {x C dx T:Addr} {h:Heap} (a:Head X pins H x C dx T h):T≠x:=fun z=>by
 have:=a.fp.1
 rw [z,a.tr] at this;cases this
def Fly (X:Cx) (pins:List (Addr×Obj)) (H:Hp) (x C dx:Addr) (h:Heap):Prop:=
 H x=some (uC x C dx)/\((∃ vs,h.get? x=some (dB C (some dx) vs)/\vs[1]?=some .none/\vs[2]?=some .none)\/∃ T,Head X pins H x C dx T h)
section
variable {X:Cx} {pins:List (Addr×Obj)} {U:St} {H:Hp} {s:Shared} {x C dx:Addr} {h':Heap} {T:Addr} {hd:Option Addr}
theorem Inv.noted {fs:List Addr} (I:Inv X pins U H s) (hx:H x=some (uC x C dx)) (hh:∀ b,hd=some b->mR X pins H b) (hf:∀ b∈fs,b∈X.env.locals :: X.fs) (N:Gv fs x C (some dx) hd s.heap h' T):Inv X pins U H {s with heap:=h'}:=by
 obtain ⟨m,⟨oL,esL,epL,hoL,rL⟩,_⟩:=id I.loc
 have fsF:∀ b∈fs,H b=none:=fun b hb=>by
  rcases Za.mp (hf b hb) with e | hb
  ·rw [e];exact I.free
  ·obtain ⟨_,o,ho,_⟩:=I.ok.funs.mem hb
   exact I.base.free b o ho (I.ok.frf b hb) fun z=>I.ok.exfs b z hb
 have nx:∀ b,H b=none->b≠x:=fun b n z=>by rw [z,hx] at n;cases n
 have hdF:∀ b,hd=some b->H b=none:=fun b e=>(hh b e).1
 have mem:∀ b,b ∉ hd.toList->some b≠hd:=fun b nb z=>nb (by rw [← z];simp)
 refine I.step (g':=s.gens) (d':=s.drawn) (t':=s.toks) (ch:=hd.toList) (fun b hb=>?_) (fun b o hL hb hc e n=>?_) (fun b o hL hb hc e n=>?_) (fun _ _ _ _ n=>n) (fun b o hc e=>?_) (fun _ _ e=>e) (fun _ _ _ e=>e) (fun b ps e=>⟨#[],by rw [e];simp⟩) (fun m hm=>?_) (fun b u e=>?_) I.bare
 ·have e:hd=some b:=by cases hd <;> simp_all
  obtain ⟨_,a2,_,a4,a5,a6⟩:=hh b e
  exact ⟨a4,a2,a5,a6⟩
 ·refine N.keep b o (nx b n) (mem b hc) (fun z=>?_) e
  rcases Za.mp (hf b z) with q | q
  ·exact hL q
  ·exact hb q
 ·exact N.slot b o (nx b n) (mem b hc) e
 ·by_cases q:b=x
  ·obtain ⟨vs,z,_⟩:=N.obj
   exact ⟨_,by rw [q];exact z⟩
  ·obtain ⟨sl,z⟩:=N.slot b o q (mem b hc) e
   exact ⟨_,z⟩
 ·obtain ⟨o,es,ep,ho,r⟩:=hm
  obtain ⟨sl,z⟩:=N.slot _ o (nx _ I.free) (fun q=>(hh _ q.symm).2.1 rfl) ho
  exact ⟨_,es,ep,z,r⟩
 ·by_cases q:b=x
  ·subst q
   rw [hx] at e;cases e
   obtain ⟨vs,z,_,z2⟩:=N.obj
   exact Gw z z2
  ·refine (I.hok b u e).stay (fun c v hc z=>?_) (fun _ q=>q) fun _ _ q=>q
   have tc:∃ u,H c=some u:=by
    rcases hc with rfl | hc
    ·exact ⟨_,e⟩
    ·exact ⟨_,hc⟩
   obtain ⟨uc,tc⟩:=tc
   refine N.keep c v (fun zz=>?_) (fun zz=>?_) (fun zz=>?_) z
   ·rcases hc with rfl | hc
    ·exact q zz
    ·rw [zz,hx] at hc;cases hc
   ·rw [hdF c zz.symm] at tc;cases tc
   ·rw [fsF c zz] at tc;cases tc
theorem Ci {A:Around} {E:Value->Shared->Prop} {Q:Unit->Shared->Prop} (I:Inv X pins U H s) (hst:X.stack=X.env :: X.outer) (hfr:X.env.frame=some X.env.locals) (hA:A.frames=some X.stack) (F:Fly X pins H x C dx s.heap)
  (k:∀ h' T,Inv X pins U H {s with heap:=h'}->Head X pins H x C dx T h'->Q () {s with heap:=h'}):wpAny (model X.prog X.w) A (noteFrame (.ref x) X.env) Q E s:=by
 have ff:s.heap.FunFrames X.base (X.env :: X.outer):=hst ▸ I.stack
 have sub:∀ b∈Qn (X.env :: X.outer),b∈X.env.locals :: X.fs:=fun b hb=>I.stkSub b (by rw [hst];exact hb)
 have nf:∀ b u,H b=some u->b ∉ Qn (X.env :: X.outer):=fun b u e z=>by
  rw [I.stkFree b (by rw [hst];exact z)] at e;cases e
 obtain ⟨hx,⟨vs,e,h1⟩ | ⟨T0,hT⟩⟩:=F
 ·refine Xz (hst ▸ hA) ff hfr e h1 (nf x _ hx) fun h' T N=>?_
  have J:=I.noted hx (fun b z=>by cases z) sub N
  refine k h' T J ⟨N.obj,N.tb,?_,hx⟩
  have zT:s.heap.objs.size<=T:=by rcases N.new with z | z;exact z;cases z
  exact I.fpOk zT (I.hok.fresh zT)
 ·obtain ⟨vs,e,h1⟩:=hT.obj
  refine XD (hst ▸ hA) ff hfr e h1 hT.tb hT.ne (nf x _ hx) (fun z=>?_) fun h' T N=>?_
  ·rcases Za.mp (sub T0 z) with q | q
   ·exact hT.fp.2.1 q
   ·exact hT.fp.2.2.1 q
  ·have J:=I.noted hx (fun b z=>by cases z;exact hT.fp) sub N
   refine k h' T J ⟨N.obj,N.tb,?_,hx⟩
   rcases N.new with z | z
   ·exact I.fpOk z (I.hok.fresh z)
   ·cases z;exact hT.fp
theorem tO {A:Around} {E:Value->Shared->Prop} {Q:Unit->Shared->Prop} (I:Inv X pins U H s) (F:Head X pins H x C dx T s.heap)
  (k:∀ h',Inv X pins U H {s with heap:=h'}->Head X pins H x C dx T h'->Q () {s with heap:=h'}):wpAny (model X.prog X.w) A (setFlight (.ref x) none) Q E s:=by
 obtain ⟨vs,e,h1⟩:=F.obj
 refine XF e h1 F.tb F.ne fun h' N=>?_
 exact k h' (I.noted F.tr (fun b z=>by cases z;exact F.fp) (fun b z=>absurd z (by simp)) N) ⟨N.obj,N.tb,F.fp,F.tr⟩
def Jh (P:Program) (w:World):Ij:=fun outer H s E e s'=>∃ x C dx T H',e= .ref x/\s'.os=s.os/\AllBare s'.gens/\Un (frs outer) [] H H' s.heap s'.heap/\HOk P w H' s'.heap/\H' x=some (uC x C dx)/\H' T=none/\s.heap.objs.size<=T/\
 (∃ vs,s'.heap.get? x=some (dB C (some dx) vs)/\vs[1]?=some (.ref T)/\vs[2]?=some .none)/\Jg s'.heap T/\E (.ref C) (some x) H'
def XE (X:Cx) (pins:List (Addr×Obj)) (R:St->XK) (e:Value) (s':Shared):Prop:=∃ x C dx U H',e= .ref x/\Inv X pins U H' s'/\Fly X pins H' x C dx s'.heap/\R U (.ref C) (some x) H'
theorem Gy {R:St->XK} {e:Value} {s':Shared} (I:Inv X pins U H s) (c:Jh X.prog X.w X.stack H s (R U) e s'):XE X pins R e s':=by
 obtain ⟨x,C,dx,T,H',rfl,os,bare,un,hok,tx,tT,zT,ob,tb,r⟩:=c
 obtain ⟨hh,g,d,t,os'⟩:=s'
 obtain rfl:os'=s.os:=os
 have J:=I.call (h':=hh) (g':=g) (d':=d) (t':=t) (ch:=[]) un hok bare (fun b z=>absurd z (by simp))
 exact ⟨x,C,dx,U,H',rfl,J,⟨tx,.inr ⟨T,ob,tb,I.fpOk zT tT,tx⟩⟩,r⟩
def jn (X:Cx) (R:St->XK):Prop:=∀ (pins:List (Addr×Obj)) (e:Value) (s':Shared),XE X pins R e s'->X.xe e s'
end
theorem aN {P:Program} {w:World} {K:W.Frag} {mg:Str->Option Value} {base:Heap} {N:List Str} {qual:Str} {scope:Scope} {f:Addr} {cd:Value} {A:Around} {outer:List Env} {s:Shared} {H:Hp} {E:XK}:
  jn (o5 (Jh P w) P w K mg base N qual scope f cd A outer s H E) (fun _=>E):=by
 rintro pins e s' ⟨x,C,dx,U,H',he,I,F,r⟩
 subst he
 show wpAny _ _ (leaving _ _) _ _ _
 unfold leaving
 refine YS (Ci (X:=o5 (Jh P w) P w K mg base N qual scope f cd A outer s H E) I rfl rfl I.ok.frames F fun h1 T J1 F1=>?_)
 refine tO (X:=o5 (Jh P w) P w K mg base N qual scope f cd A outer s H E) J1 F1 fun h2 J2 F2=>?_
 refine ⟨x,C,dx,T,H',rfl,J2.os,J2.bare,J2.base,J2.hok,F2.tr,F2.fp.1,?_,F2.obj,F2.tb,r⟩
 rcases F2.fp.2.2.2.1 with z | z
 ·exact absurd (show T∈([]:List Addr) from z) (by simp)
 ·exact z
def mV (d:Addr) (fs:List (Str×V)):HO:=.ext fun h=>∃ mA,h.Ns1 d mA/\∀ f,RelO (fs.lookup f) (mA f)
theorem zR {P:Program} {w:World} {H:Hp} {h:Heap} {d:Addr} {fs:List (Str×V)} {mA:Str->Option Value} (n:h.Ns1 d mA) (r:∀ f,RelO (fs.lookup f) (mA f)):ObjOk P w H h d (mV d fs):=by
 refine ⟨⟨mA,n,r⟩,let ⟨o,_,_,e,_⟩:=n;⟨o,e⟩,fun h1 h2 ⟨m,n,r⟩ k=>⟨m,?_,r⟩⟩
 obtain ⟨o,es,ep,e,q⟩:=n
 exact ⟨o,es,ep,k _ e,q⟩
theorem vP {P:Program} {w:World} {H:Hp} {h:Heap} {d:Addr} {fs:List (Str×V)} (ok:HOk P w H h) (e:H d=some (mV d fs)):∃ mA,h.Ns1 d mA/\∀ f,RelO (fs.lookup f) (mA f):=(ok _ _ e).1
def gM (x C d:Addr):HO:=.ext fun h=>∃ t,h.get? x=some (dB C (some d) #[.ref t,.none,.none,.none,.bool false,.none])
theorem Ji {P:Program} {w:World} {H:Hp} {h:Heap} {x C d t:Addr} (e:h.get? x=some (dB C (some d) #[.ref t,.none,.none,.none,.bool false,.none])):ObjOk P w H h x (gM x C d):=
 ⟨⟨t,e⟩,⟨_,e⟩,fun h1 h2 ⟨t,e⟩ k=>⟨t,k _ e⟩⟩
theorem uD {P:Program} {w:World} {H:Hp} {h:Heap} {x C d:Addr} (ok:HOk P w H h) (e:H x=some (gM x C d)):∃ t,h.get? x=some (dB C (some d) #[.ref t,.none,.none,.none,.bool false,.none]):=(ok _ _ e).1
def gq:List Value->Bool
 | [.type a,.type b,.type c,.type d]=>a == "ValueError" && b == "Exception" && c == "BaseException" && d == "object"
 | .ref _ :: r=>gq r
 | _=>false
theorem u9 {l:List Value} (e:gq l=true):(∃ a r,l= .ref a :: r/\gq r=true)\/l=XH:=by
 unfold gq at e
 split at e
 ·simp only [Ze,Aal] at e
  obtain ⟨⟨⟨rfl,rfl⟩,rfl⟩,rfl⟩:=e
  exact .inr rfl
 ·exact .inl ⟨_,_,rfl,e⟩
 ·cases e
theorem vd (self:Value):∀ (l:List Value),gq l=true->refuseLoop self "__setattr__" l=pure ()
 | [],e=>by cases e
 | v :: r,e=>by
  rcases u9 e with ⟨a,r',q,e'⟩ | q
  ·cases q
   rw [refuseLoop_ref]
   exact vd self r e'
  ·rw [q]
   exact F.store_ValueError.passes self
theorem wI:∀ (l:List Value),gq l=true->l.contains (.type "object")=true/\l.contains (.type "BaseException")=true
 | [],e=>by cases e
 | v :: r,e=>by
  rcases u9 e with ⟨a,r',q,e'⟩ | q
  ·cases q
   obtain ⟨h1,h2⟩:=wI r e'
   exact ⟨by rw [Aad,h1,Bool.or_true],by rw [Aad,h2,Bool.or_true]⟩
  ·rw [q]
   decide
def Ve (K:W.Frag) (C:Addr):Bool:=Wo K C && (PySem.W.clsIn K C).any (fun cd=>gq cd.mro && cd.hasDict) && PySem.W.findIn K (.ref C) "__setattr__" == some (some (.builtin "object.__setattr__")) &&
 PySem.W.findIn K (.ref C) "__getattribute__" == some (some (.builtin "BaseException.__getattribute__")) && PySem.W.findIn K (.ref C) "__getattr__" == some none
structure XCls (K:W.Frag) (C:Addr):Prop where
 xi:Wo K C=true
 ov:∃ cd,PySem.W.clsIn K C=some cd/\gq cd.mro=true/\cd.hasDict=true
 sa:PySem.W.findIn K (.ref C) "__setattr__"=some (some (.builtin "object.__setattr__"))
 ga:PySem.W.findIn K (.ref C) "__getattribute__"=some (some (.builtin "BaseException.__getattribute__"))
 gh:PySem.W.findIn K (.ref C) "__getattr__"=some none
theorem Qo {K:W.Frag} {C:Addr} (h:Ve K C=true):XCls K C:=by
 unfold Ve at h
 simp only [Ze,Aal] at h
 obtain ⟨⟨⟨⟨h1,h2⟩,h3⟩,h4⟩,h5⟩:=h
 obtain ⟨cd,a,b⟩:=PySem.W.any_some h2
 simp only [Ze] at b
 exact ⟨h1,⟨cd,a,b.1,b.2⟩,h3,h4,h5⟩
theorem Qp {l:List Value} (e:gq l=true):l.isEmpty=false:=by
 cases l with
 | nil=>cases e
 | cons _ _=>rfl
section
variable {prog:Program} {w:World} {A:Around} {s:Shared} {K:W.Frag} {x C:Addr} {R:Result->Shared->Prop}
theorem XCls.mro {c:Value} {b:Bool} (k:XCls K C) (h:∀ cd,PySem.W.clsIn K C=some cd->gq cd.mro=true->cd.mro.contains c=b):PySem.W.mroIn K C c=some b:=by
 obtain ⟨cd,a,o,_⟩:=k.ov
 unfold PySem.W.mroIn
 rw [a,Option.bind_some,if_neg (by rw [Qp o];decide),h cd a o]
theorem XCls.isObj (k:XCls K C):PySem.W.mroIn K C (.type "object")=some true:=k.mro fun cd _ o=>(wI _ o).1
theorem XCls.isExc (k:XCls K C):PySem.W.mroIn K C (.type "BaseException")=some true:=k.mro fun cd _ o=>(wI _ o).2
theorem R1 {ox:Obj} {od:Option Obj} {name:Str} {tk:Tok} {v:Value} (X:K.In s.heap) (I:PySem.W.InstAt s.heap x ox C od) (c:XCls K C) (ht:NoAttr K C name)
  (h:wpAny (model prog w) A.in1 (Builtin.ObjectAttr.storeInOwnDict (.ref x) (.ref C) (.str name tk) name v false)
   (fun fin s'=>match fin with | .done f=>R (.ok f) s' | .again c'=>c'.quiet=true/\codeAny (model prog w) A c' R s') (fun e s'=>R (.error e) s') s):
  codeAny (model prog w) A (.call (.builtin "object.__setattr__") ⟨[.ref x,.str name tk,v],[]⟩) R s:=by
 obtain ⟨cd,hc,ho,_⟩:=c.ov
 have sub:PySem.W.Looks (model prog w) s.heap (isInstance (.ref x) (.type "object")) true:=I.type.andThen (PySem.W.looks_mroIn X c.isObj)
 refine Aa2 F.store_object.slot.plain F.store_object.entry (@PySem.W.check_slot (model prog w) _ _ s "object.__setattr__" "object" "__setattr__" (.ref x) [.str name tk,v] [] _ F.store_object.kind F.store_object.split sub (F.store_object.args (.ref x) (.str name tk) v) ?_)
 have hm:PySem.W.Looks (model prog w) s.heap (mroOf (.ref C)) cd.mro:=(PySem.W.looks_clsIn X hc).andThen .now
 have L3:PySem.W.Looks (model prog w) s.heap (Builtin.ObjectAttr.storeTaker? none) none:=.now
 rw [PySem.W.osa_eq,refuse_eq]
 refine YS (YS (I.type.here (YS (hm.here ?_))))
 rw [vd _ _ ho]
 refine Y0 (YS (I.type.here (YS ((Aae X ht).here (YS (L3.here ?_))))))
 exact h
end
theorem Mf {H:Hp} {d x:Addr} {a b c:HO} (n:d≠x):upd (upd (upd H d a) x b) d c=upd (upd H x b) d c:=by
 funext y
 unfold upd
 by_cases h:y=d
 ·simp [h]
 ·simp [h]
section
variable {X:Cx} {pins:List (Addr×Obj)} {U:St} {H:Hp} {s:Shared} {x C d:Addr} {fs:List (Str×V)} {f:Str} {v y:V} {u:Value} {A:Around} {E:Value->Shared->Prop}
theorem XJ {Q:Unit->Shared->Prop} (I:Inv X pins U H s) (e:H x=some (kW x C)) (c:XCls X.K C) (n:NoAttr X.K C f) (ry:RelV y u)
  (h:∀ s' d,H d=none->d≠x->Inv X pins U (upd (upd H x (gM x C d)) d (mV d [(f,y)])) s'->Q () s'):wpAny (model X.prog X.w) A (setAttr (.ref x) f u) Q E s:=by
 obtain ⟨⟨t,hx⟩,-,-⟩:ObjOk X.prog X.w H s.heap x (kW x C):=I.hok x _ e
 obtain ⟨cd,hc,ho,hd⟩:=c.ov
 have J:PySem.W.InstAt s.heap x (dB C none #[.ref t,.none,.none,.none,.bool false,.none]) C none:=⟨hx,rfl,rfl,True.intro⟩
 refine PySem.W.set_plain I.kIn J c.sa (R1 (s:={s with toks:=s.toks+1}) I.kIn J c n ?_)
 refine YS (Y0 (YS (YS (AaX hx (YS ((PySem.W.looks_clsIn (M:=model X.prog X.w) I.kIn hc).here (s:={s with toks:=s.toks+1}) ?_))))))
 rw [hd]
 have hp:s.heap.objs.size≠x:=AaK (Y6 hx)
 have hx1:(s.heap.push {cls:=.type "dict",data:=.dict #[]}).get? x=some (dB C none #[.ref t,.none,.none,.none,.bool false,.none]):=YW _ hx
 have d1:(s.heap.push {cls:=.type "dict",data:=.dict #[]}).get? s.heap.objs.size=some {cls:=.type "dict",data:=.dict #[]}:=Y9 _ rfl
 have n1:∀ {hh:Heap},hh.get? s.heap.objs.size=some {cls:=.type "dict",data:=.dict #[]}->hh.Ns1 s.heap.objs.size (fun _=>none):=fun q=>Heap.Ns1.of_empty ⟨_,#[],_,q,rfl,fun e he=>absurd he (by simp),fun _=>rfl⟩
 have I1:Inv X pins U (upd H s.heap.objs.size (mV s.heap.objs.size [])) {s with heap:=s.heap.push {cls:=.type "dict",data:=.dict #[]},toks:=s.toks+1}:=
  I.laid (t':=s.toks+1) (fun b o q=>YW _ q) (YZ _) (zR (n1 d1) fun g=>True.intro)
 refine YS (wpAny_alloc' ?_)
 refine YS (wpAny_update' hx1 ?_)
 have hx2:=ZR (fun o:Obj=>({o with dict:=some s.heap.objs.size}:Obj)) hx1 rfl
 have ot:∀ b,b≠x->((s.heap.push {cls:=.type "dict",data:=.dict #[]}).update x fun o=>{o with dict:=some s.heap.objs.size}).get? b=(s.heap.push {cls:=.type "dict",data:=.dict #[]}).get? b:=fun b hb=>Zw _ _ (Ne.symm hb)
 have e1:upd H s.heap.objs.size (mV s.heap.objs.size []) x=some (kW x C):=(aD (Ne.symm hp)).trans e
 have I2:Inv X pins U (upd (upd H s.heap.objs.size (mV s.heap.objs.size [])) x (gM x C s.heap.objs.size)) {s with heap:=(s.heap.push {cls:=.type "dict",data:=.dict #[]}).update x fun o=>{o with dict:=some s.heap.objs.size},toks:=s.toks+1}:=
  I1.write (t':=s.toks+1) (x:=x) (e:=x) (by rw [e1];exact True.intro) (.inl rfl) (fun b o hb q=>(ot b hb).trans q) ⟨_,hx2⟩ (Ji hx2)
 refine Y0 (YS (Y0 (YS ?_)))
 refine wpAny_nsSet1 (n1 ((ot _ hp).trans d1)) fun h' hn' hs=>?_
 obtain ⟨oD,esD,epD,hoD,hdD,hcD⟩:=hn'.count (PySem.Within.cons f u PySem.Within.nil)
 refine YS (wpAny_lookBehind hoD (by rw [hdD];exact pastItsLine_dict (Zo hcD (by rw [Z6,List.length_nil,sizeLine_eq];omega))) ?_)
 refine Y0 (h _ s.heap.objs.size (I.hok.fresh (YZ _)) hp ?_)
 rw [← Mf (a:=mV s.heap.objs.size []) hp]
 refine I2.write (x:=s.heap.objs.size) (e:=s.heap.objs.size) (by rw [aD hp,aq];exact True.intro) (.inl rfl) (fun b o hb q=>(hs.2 b hb).trans q) ⟨_,hoD⟩ (zR hn' fun g=>?_)
 by_cases q:g=f
 ·have qb:(g == f)=true:=Aal.mpr q
  simp only [List.lookup,qb,if_pos q]
  exact ry
 ·have qb:(g == f)=false:=Aap.mpr q
  simp only [List.lookup,qb,if_neg q]
  exact True.intro
theorem Qq {h:Heap} {P:Program} {w:World} (ok:HOk P w H h) (e:H x=some (gM x C d)) (e2:H d=some (mV d fs)):d≠x:=fun z=>by
 subst z
 obtain ⟨t,a⟩:=uD ok e
 obtain ⟨mA,⟨o,es,ep,b,q,_⟩,_⟩:=vP ok e2
 rw [a] at b;cases b;cases q
theorem XM {Q:Unit->Shared->Prop} (I:Inv X pins U H s) (e:H x=some (gM x C d)) (e2:H d=some (mV d fs)) (hl:fs.length < 1000) (c:XCls X.K C) (n:NoAttr X.K C f) (ry:RelV y u)
  (h:∀ s',Inv X pins U (upd H d (mV d (kj f y fs))) s'->Q () s'):wpAny (model X.prog X.w) A (setAttr (.ref x) f u) Q E s:=by
 have ne:=Qq I.hok e e2
 obtain ⟨vs,hx⟩:=uD I.hok e
 obtain ⟨mA,nA,rA⟩:=vP I.hok e2
 obtain ⟨cd,hc,ho,hd⟩:=c.ov
 have J:PySem.W.InstAt s.heap x (dB C (some d) #[.ref vs,.none,.none,.none,.bool false,.none]) C (some (Classical.choose nA)):=⟨hx,rfl,rfl,let ⟨_,_,q,_⟩:=Classical.choose_spec nA;q⟩
 refine PySem.W.set_plain I.kIn J c.sa (R1 (s:={s with toks:=s.toks+1}) I.kIn J c n ?_)
 refine YS (Y0 (YS (YS (AaX hx (YS ((PySem.W.looks_clsIn (M:=model X.prog X.w) I.kIn hc).here (s:={s with toks:=s.toks+1}) ?_))))))
 rw [hd]
 refine Y0 (a:=some d) (YS (Y0 (YS ?_)))
 refine wpAny_nsSet1 (s:={s with toks:=s.toks+1}) nA fun h' hn' hs=>?_
 have wi:PySem.Within mA (fs.map (·.1)):=fun z hz=>by
  have r:=rA z
  cases q:fs.lookup z with
  | none=>rw [q] at r;exact absurd (RelO.none_of r) hz
  | some a=>exact ZD.mpr ⟨(z,a),ZM q,rfl⟩
 obtain ⟨oD,esD,epD,hoD,hdD,hcD⟩:=hn'.count (PySem.Within.cons f u wi)
 refine YS (wpAny_lookBehind hoD (by rw [hdD];exact pastItsLine_dict (Zo hcD (by rw [Z6,Zf,sizeLine_eq];omega))) ?_)
 refine Y0 (h _ ?_)
 refine I.write (x:=d) (e:=d) (by rw [e2];exact True.intro) (.inl rfl) (fun b o hb q=>(hs.2 b hb).trans q) ⟨_,hoD⟩ (zR hn' fun g=>?_)
 rw [o4]
 by_cases q:g=f
 ·rw [if_pos q,if_pos q];exact ry
 ·rw [if_neg q,if_neg q];exact rA g
theorem getx {b:Bool} {Q:Value->Shared->Prop} (I:Inv X pins U H s) (e:H x=some (uC x C d)) (e2:H d=some (mV d fs)) (c:XCls X.K C) (n:NoAttr X.K C f) (l:fs.lookup f=some v)
  (h:∀ u s',Inv X pins U H s'->RelV v u->Q u s'):wpAny (model X.prog X.w) A (getAttr (.ref x) f b) Q E s:=by
 obtain ⟨vs,hx,_⟩:=Gx I.hok e
 obtain ⟨mA,nA,rA⟩:=vP I.hok e2
 obtain ⟨cd,hc,ho,hd⟩:=c.ov
 obtain ⟨od,hod,lk⟩:=ux nA
 obtain ⟨u,hu,ru⟩:=RelO.some_of (v:=v) (o:=mA f) (by rw [← l];exact rA f)
 have J:PySem.W.InstAt s.heap x (dB C (some d) vs) C (some od):=⟨hx,rfl,rfl,hod⟩
 have hf:PySem.W.findObj X.K C (some od) f=some (.value u):=PySem.W.findObj_own (by unfold PySem.W.hasDictIn;rw [hc];exact hd) n rfl (by rw [lk,hu])
 have Z:=h u {s with toks:=s.toks+1} (I.tok _) ru
 have KI:=I.kIn
 obtain ⟨hh,g,dr,t,os⟩:=s
 have L0:=J.type (M:=model X.prog X.w)
 have L1:=Aae (M:=model X.prog X.w) KI c.ga
 have L2:=Aae (M:=model X.prog X.w) KI c.gh
 have L3:=PySem.W.looks_find (M:=model X.prog X.w) KI J hf
 have sub:PySem.W.Looks (model X.prog X.w) hh (isInstance (.ref x) (.type "BaseException")) true:=L0.andThen (PySem.W.looks_mroIn KI c.isExc)
 have hb0:(onTheHeap (Value.ref C) && Value.builtin "BaseException.__getattribute__" == Value.builtin "object.__getattribute__")=false:=by
  rw [show (Value.builtin "BaseException.__getattribute__" == Value.builtin "object.__getattribute__")=false from by trivial,Bool.and_false]
 unfold getAttr getAttrBy
 refine YS (wpAny_mkText (ZW (YS (L0.at (YS (L1.at ?_))))))
 dsimp only
 rw [hb0]
 rw [if_neg Y5]
 unfold getAttrByItsOwn hookBefore
 refine YS ?_
 rw [if_pos (show onTheHeap (Value.ref C)=true from rfl)]
 refine L2.at ?_
 refine YS (Abf (ZW ?_))
 have hb1:(b && onTheHeap (Value.builtin "BaseException.__getattribute__"))=false:=by cases b <;> rfl
 unfold callGetattribute
 rw [hb1,if_neg Y5]
 unfold boundAndCalled
 refine YS (Aat (F.attrBase_ValueError.ga.bind (.ref x)) ?_)
 refine AaY (Aa2 F.attrBase_ValueError.ga.plain F.entry_bexc_ga (@PySem.W.check_slot (model X.prog X.w) _ _ ⟨hh,g,dr,t+1,os⟩ "BaseException.__getattribute__" "BaseException" "__getattribute__" (.ref x) [.str f t] [] _ (by trivial) (by trivial) sub (F.args_bexc_ga (.ref x) (.str f t)) ?_))
 refine YS (Y0 (YS (Y0 (YS (L0.at (YS (L3.at ?_)))))))
 refine Y0 ?_
 show wpAny _ _ (handedOut u) _ _ _
 rw [PySem.W.handedOut_of (ym ru)]
 exact Y0 Z
end
def Gz (K:W.Frag) (C:Addr):Bool:=Ve K C && PySem.W.findIn K (.ref C) "__class__" == some (some (.builtin "object.__class__")) && PySem.W.specialIn K (.builtin "object.__class__") "__get__" == some (some (.builtin "getset_descriptor.__get__")) && PySem.W.takesIn K (.builtin "object.__class__") == some true
structure O2 (K:W.Frag) (C:Addr):Prop where
 cls:XCls K C
 ca:PySem.W.findIn K (.ref C) "__class__"=some (some (.builtin "object.__class__"))
 cg:PySem.W.specialIn K (.builtin "object.__class__") "__get__"=some (some (.builtin "getset_descriptor.__get__"))
 ct:PySem.W.takesIn K (.builtin "object.__class__")=some true
theorem Mg {K:W.Frag} {C:Addr} (h:Gz K C=true):O2 K C:=by
 unfold Gz at h
 simp only [Ze,Aal] at h
 exact ⟨Qo h.1.1.1,h.1.1.2,h.1.2,h.2⟩
section
variable {prog:Program} {w:World} {A:Around} {E:Value->Shared->Prop} {s:Shared} {K:W.Frag} {x C:Addr} {ox od:Obj}
theorem Jj {Q:Option Value->Shared->Prop} (c:O2 K C) (KI:K.In s.heap) (J:PySem.W.InstAt s.heap x ox C (some od)) (h:Q (some (.ref C)) {s with toks:=s.toks+1}):wpAny (model prog w) A (getAttr? (.ref x) "__class__") Q E s:=by
 obtain ⟨cd,hc,ho,hd⟩:=c.cls.ov
 have hf:PySem.W.findObj K C (some od) "__class__"=some (.bind (.builtin "getset_descriptor.__get__") (.builtin "object.__class__")):=PySem.W.findObj_data (by rw [hc];rfl) c.ca c.cg c.ct
 obtain ⟨hh,g,dr,t,os⟩:=s
 have L0:=J.type (M:=model prog w)
 have L1:=Aae (M:=model prog w) KI c.cls.ga
 have L2:=Aae (M:=model prog w) KI c.cls.gh
 have L3:=PySem.W.looks_find (M:=model prog w) KI J hf
 have sub:PySem.W.Looks (model prog w) hh (isInstance (.ref x) (.type "BaseException")) true:=L0.andThen (PySem.W.looks_mroIn KI c.cls.isExc)
 have hb0:(onTheHeap (Value.ref C) && Value.builtin "BaseException.__getattribute__" == Value.builtin "object.__getattribute__")=false:=by
  rw [show (Value.builtin "BaseException.__getattribute__" == Value.builtin "object.__getattribute__")=false from by trivial,Bool.and_false]
 unfold getAttr? getAttrBy? getAttrBy
 refine YS (wpAny_mkText (YS (Abf (ZW (YS (L0.at (YS (L1.at ?_))))))))
 dsimp only
 rw [hb0,if_neg Y5]
 unfold getAttrByItsOwn hookBefore
 refine YS ?_
 rw [if_pos (show onTheHeap (Value.ref C)=true from rfl)]
 refine L2.at ?_
 refine YS (Abf (ZW ?_))
 unfold callGetattribute
 rw [if_neg (show ¬ ((false && onTheHeap (Value.builtin "BaseException.__getattribute__"))=true) from by decide)]
 unfold boundAndCalled
 refine YS (Aat (F.attrBase_ValueError.ga.bind (.ref x)) ?_)
 refine AaY (Aa2 F.attrBase_ValueError.ga.plain F.entry_bexc_ga (@PySem.W.check_slot (model prog w) _ _ ⟨hh,g,dr,t+1,os⟩ "BaseException.__getattribute__" "BaseException" "__getattribute__" (.ref x) [.str "__class__" t] [] _ (by trivial) (by trivial) sub (F.args_bexc_ga (.ref x) (.str "__class__" t)) ?_))
 refine YS (Y0 (YS (Y0 (YS (L0.at (YS (L3.at ?_)))))))
 show wpAny _ _ (holding [.builtin "object.__class__"] (call (.builtin "getset_descriptor.__get__") [.builtin "object.__class__",.ref x,.ref C]) >>=ret) _ _ _
 refine YS (ZW (AaY (PySem.W.class_get (s:=⟨hh,g,dr,t+1,os⟩) KI J c.cls.isObj ?_)))
 refine Y0 ?_
 show wpAny _ _ (handedOut (.ref C)) _ _ _
 rw [PySem.W.handedOut_of rfl]
 exact Y0 (Y0 h)
theorem Mh (c:O2 K C):PySem.W.KitX K (.ref x) (.ref C) (fun h=>PySem.W.InstAt h x ox C (some od)) where
 ty:=fun _ _ _ I=>I.type
 it:=fun _ _ X _=>by
  obtain ⟨cd,hc,_⟩:=c.cls.ov
  unfold PySem.W.clsIn at hc
  split at hc
  ·rename_i a1 a2 a3 a4 ho
   intro A1 Q1 E1 s1 k q
   unfold isType loadHead
   exact YS (AaX (k _ _ (X _ _ ho)) (Y0 q))
  ·cases hc
 ne:=fun h tp dd its n sl X htp=>by
  obtain ⟨cd,hc,_⟩:=c.cls.ov
  refine Bool.eq_false_iff.mpr fun q=>?_
  obtain rfl:C=tp:=Value.ref.inj (Aal.mp q)
  unfold PySem.W.clsIn at hc
  split at hc
  ·rename_i a1 a2 a3 a4 ho
   cases (X _ _ ho).symm.trans htp
  ·cases hc
 ca:=fun X I k=>Jj c X I k
end
def IsX (H:Hp) (x C:Addr) (fs:List (Str×V)):Prop:=∃ d,H x=some (uC x C d)/\H d=some (mV d fs)
def XN:V->Option Value
 | .ty T=>some (.type T)
 | .ref C=>some (.ref C)
 | _=>none
theorem Mi {v:V} {u c:Value} (e:XN v=some c) (r:RelV v u):u=c:=by
 cases v <;> first | cases e;exact r | cases e
def Jk:List V->Option (List Value)
 | []=>some []
 | v :: r=>match XN v,Jk r with
  | some c,some l=>some (c :: l)
  | _,_=>none
theorem GC:∀ {vs:List V} {us cs:List Value},Jk vs=some cs->Vals vs us->us=cs
 | [],us,cs,e,r=>by cases r;cases e;rfl
 | v :: vs,us,cs,e,r=>by
  cases r with
  | cons r1 r2=>
   unfold Jk at e
   split at e
   ·rename_i c l h1 h2
    cases e
    rw [Mi h1 r1,GC h2 r2]
   ·cases e
def yK (K:W.Frag):List V->Hp->VK->Prop:=fun xs H Q=>∃ x t b,(TyOf K H x t\/∃ a C fs,x= .ref a/\IsX H a C fs/\O2 K C/\t= .ref C)/\
 ((∃ v c,xs=[x,v]/\XN v=some c/\PySem.W.kitOne K t c=some b)\/(∃ p vs cs,xs=[x,.ref p]/\H p=some (.tup vs)/\Jk vs=some cs/\PySem.W.kitAny K t cs=some b))/\Q (.bl b) H
section
variable {X:Cx} {pins:List (Addr×Obj)} {U:St} {H:Hp} {s:Shared} {A:Around} {E:Value->Shared->Prop} {Q:Value->Shared->Prop} {c:Value} {b:Bool}
theorem Mj {x:V} {u t:Value} (I:Inv X pins U H s) (rx:RelV x u) (ty:TyOf X.K H x t\/∃ a C fs,x= .ref a/\IsX H a C fs/\O2 X.K C/\t= .ref C):
  ∃ φ:Heap->Prop,PySem.W.KitX X.K u t φ/\φ s.heap/\u≠.builtin "__main__.__loader__#opaque":=by
 rcases ty with ty | ⟨a,C,fs,rfl,⟨d,e1,e2⟩,c,rfl⟩
 ·cases ty with
  | non=>cases (show u=Value.none from rx);exact ⟨_,PySem.W.kitx_none,True.intro,(fun z=>nomatch z)⟩
  | bl y=>cases (show u=Value.bool y from rx);exact ⟨_,PySem.W.kitx_bool,True.intro,(fun z=>nomatch z)⟩
  | int i=>obtain ⟨t,q⟩:=(show ∃ t,u=Value.int i t from rx);cases q;exact ⟨_,PySem.W.kitx_int,True.intro,(fun z=>nomatch z)⟩
  | str y=>obtain ⟨t,q⟩:=(show ∃ t,u=Value.str y t from rx);cases q;exact ⟨_,PySem.W.kitx_str,True.intro,(fun z=>nomatch z)⟩
  | flt y=>obtain ⟨t,q⟩:=(show ∃ t,u=Value.float y t from rx);cases q;exact ⟨_,PySem.W.kitx_float,True.intro,(fun z=>nomatch z)⟩
  | @lst a xs ea=>
   cases (show u=Value.ref a from rx)
   obtain ⟨_,_,n,_,h1⟩:=(show ObjOk X.prog X.w H s.heap a (.lst xs) from I.hok a _ ea)
   exact ⟨_,PySem.W.kitx_list,⟨_,h1,rfl⟩,(fun z=>nomatch z)⟩
  | @frz a ob xs ea=>
   cases (show u=Value.ref a from rx)
   obtain ⟨_,_,_,n,_,h1⟩:=(show ObjOk X.prog X.w H s.heap a (.frz ob (.lst xs)) from I.hok a _ ea)
   exact ⟨_,PySem.W.kitx_list,⟨_,h1,rfl⟩,(fun z=>nomatch z)⟩
  | @tup a xs ea=>
   cases (show u=Value.ref a from rx)
   obtain ⟨_,_,_,p⟩:=(show ObjOk X.prog X.w H s.heap a (.tup xs) from I.hok a _ ea)
   obtain ⟨o,h1,h2,_⟩:=p
   exact ⟨_,PySem.W.kitx_tuple,⟨o,h1,h2⟩,(fun z=>nomatch z)⟩
  | @dK a kvs ea=>
   cases (show u=Value.ref a from rx)
   obtain ⟨_,_,vs,_,p⟩:=(show ObjOk X.prog X.w H s.heap a (.dK kvs) from I.hok a _ ea)
   obtain ⟨o,es,ep,h1,h2,_⟩:=p
   exact ⟨_,PySem.W.kitx_dict,⟨o,h1,h2.1⟩,(fun z=>nomatch z)⟩
  | @dT a kvs ea=>
   cases (show u=Value.ref a from rx)
   obtain ⟨_,_,xs,_,o,es,ep,h1,h2,_⟩:=(show ObjOk X.prog X.w H s.heap a (.dT kvs) from I.hok a _ ea)
   exact ⟨_,PySem.W.kitx_dict,⟨o,h1,h2.1⟩,(fun z=>nomatch z)⟩
  | @ins a C dx fs ea cl ha hn htk hm=>
   cases (show u=Value.ref a from rx)
   obtain ⟨mA,O,_⟩:=sW I.hok ea
   obtain ⟨od,J,_⟩:=O.look
   exact ⟨_,PySem.W.kitx_own (cl.get _) cl.hd ha hn htk hm,J,(fun z=>nomatch z)⟩
 ·cases (show u=Value.ref a from rx)
  obtain ⟨vs,hx,_⟩:=Gx I.hok e1
  obtain ⟨mA,nA,rA⟩:=vP I.hok e2
  obtain ⟨od,hod,lk⟩:=ux nA
  exact ⟨_,Mh (ox:=dB C (some d) vs) (od:=od) c,⟨hx,rfl,rfl,hod⟩,(fun z=>nomatch z)⟩
theorem qm {K:W.Frag} (hK:X.K=K):CallR X (.builtin "isinstance") (yK K):=by
 subst hK
 intro pins s U H xs us Q I r h
 obtain ⟨x,t,b,ty,w,q⟩:=h
 rcases w with ⟨v,c,rfl,ec,e⟩ | ⟨p,vs,cs,rfl,ep,ec,e⟩
 ·obtain ⟨u,u2,rfl,ru,rv⟩:=vals2 r
  obtain rfl:=Mi ec rv
  obtain ⟨φ,Z,hφ,hne⟩:=Mj I ru ty
  exact Z5 Z I.kIn hφ e hne fun tk=>⟨.bl b,H,I.tok _,rfl,q⟩
 ·obtain ⟨u,u2,rfl,ru,rv⟩:=vals2 r
  cases (show u2=Value.ref p from rv)
  obtain ⟨φ,Z,hφ,hne⟩:=Mj I ru ty
  obtain ⟨_,its,rt,o,h1,h2,n,h3⟩:=(show ObjOk X.prog X.w H s.heap p (.tup vs) from I.hok p _ ep)
  obtain rfl:=GC ec rt
  obtain ⟨oc,odd,oda,osl⟩:=o
  dsimp only at h2 h3
  subst h2 h3
  exact PySem.W.kia_tup Z I.kIn hφ h1 e hne fun tk=>⟨.bl b,H,I.tok _,rfl,q⟩
end
def Qs (P:Program) (w:World) (K:W.Frag) (mg:Str->Option Value) (base:Heap) (k:Nat) (x:Str) (ps:List Str) (sp:Sp):Prop:=
 ∃ f fd,mg x=some (.ref f)/\PySem.W.keepIn K (.ref f)=true/\Binds K fd ps []/\FnOk P w K mg base (Jh P w) k f fd ps sp
def Et (sp:Sp) (R:St->XK) (t:TA):TE:=fun U H Q=>t U H fun vs H1=>sp vs H1 Q (R U)
theorem mW {X:Cx} (h:∀ (e:Value) (s:Shared),X.xe e s=False):jn X (fun _ _ _ _=>False):=fun _ _ _ ⟨_,_,_,_,_,_,_,_,z⟩=>z.elim
section
variable {X:Cx} {k:Nat} {f C:Addr} {fd:FuncData} {ps:List Str} {sp:Sp} {R:St->XK} {x:Str} {p pos:Pos} {e:Expr} {es:List Expr} {t:TA} {pins:List (Addr×Obj)} {U:St} {H:Hp} {s:Shared} {Q:VK} {us:List Value} {vs:List V}
theorem tQ (F:FnOk X.prog X.w X.K X.mg X.base (Jh X.prog X.w) k f fd ps sp) (hr:Room k X.A) (hb:Binds X.K fd ps []) (hx:jn X R) (I:Inv X pins U H s) (r:Vals vs us) (h:sp vs H Q (R U)):
  wpAny (model X.prog X.w) X.A (call (.ref f) us) (EP X pins U Q) X.xe s:=by
 have hl:(us ++ []).length=ps.length:=by rw [ZJ,← r.length];exact F.len _ _ _ _ h
 have bd:=hb s us I.kIn hl
 rw [ZJ] at bd
 refine AaY (codeAny_mono (F.run X.A X.stack s H ⟨us,[]⟩ us vs Q (R U) hr I.env0 bd r h) fun rr s' hq=>?_)
 cases rr with
 | error e=>exact hx pins e s' (Gy I hq)
 | ok fl=>
  cases fl with
  | ret u=>exact I.after hq
  | next=>exact False.elim hq
  | brk=>exact False.elim hq
  | cont=>exact False.elim hq
theorem Ml (F:Qs X.prog X.w X.K X.mg X.base k x ps sp) (hr:Room k X.A) (hg:Gl X x) (hx:jn X R) (ha:PA X (e :: es) t) (hdb:(x == ("__debug__":Str))=false)
  (he:starEach (e :: es) X.env=(false,eval e X.env) :: starEach es X.env) (hpl:(backTo pos (starEach es X.env)).any (·.1)=false):PE X (.Call (.Name x p) (e :: es) [] pos) (Et sp R t):=by
 obtain ⟨f,fd,a,b,c,d⟩:=F
 intro pins s U H Q I h
 refine ZK (lJ I hg a ?_ hdb)
 refine Aay (h₀:=X.base) I.ok.mod.kin b (bV (ha pos pins s U H _ I h) fun us s1 ⟨vs,H1,I1,r,q⟩=>⟨I1.kIn,?_⟩) he hpl
 exact tQ d hr c hx I1 r q
def Mm (K:W.Frag) (ta tv:TE) (f:Str):TS:=fun D U H=>tv U H fun y H1=>ta U H1 fun x H2=>∃ a C,x= .ref a/\XCls K C/\NoAttr K C f/\
 ((H2 a=some (kW a C)/\∀ d,H2 d=none->d≠a->D.nx U (upd (upd H2 a (gM a C d)) d (mV d [(f,y)])))\/
  (∃ d fs,H2 a=some (gM a C d)/\H2 d=some (mV d fs)/\fs.length < 1000/\D.nx U (upd H2 d (mV d (kj f y fs)))))
theorem Qt {o value:Expr} {ta tv:TE} {fn:Str} {pos':Pos} (ha:PE X o ta) (hv:PE X value tv) (hs:swapsWith value (some (.Attribute o fn pos')) pos.line X.env=pure false):PS X (.Assign [.Attribute o fn pos'] value pos) (Mm X.K ta tv fn):=by
 intro pins s U H D I h
 refine plainObj_wpAny_Assign_Attribute (bV (hv pins s U H _ I h) fun u s1 ⟨y,H1,I1,ry,q⟩=>bV (ha pins s1 U H1 _ I1 q) fun ov s2 qq0=>?_) hs
 obtain ⟨x,H2,I2,rx,a,C,ex,c,n,q2⟩:=qq0
 subst ex
 obtain rfl:ov=Value.ref a:=rx
 rcases q2 with ⟨e,q2⟩ | ⟨d,fs,e,e2,hl,q2⟩
 ·exact XJ I2 e c n ry fun s3 d z1 z2 I3=>⟨U,_,I3,q2 d z1 z2⟩
 ·exact XM I2 e e2 hl c n ry fun s3 I3=>⟨U,_,I3,q2⟩
def Mq (K:W.Frag) (ta:TE) (f:Str):TE:=fun U H Q=>ta U H fun x H1=>∃ a C fs v,x= .ref a/\IsX H1 a C fs/\XCls K C/\NoAttr K C f/\fs.lookup f=some v/\Q v H1
theorem Qu {ta:TE} {fn:Str} (he:PE X e ta) (hb:attributeBase e fn X.env (eval e X.env)=eval e X.env):PE X (.Attribute e fn pos) (Mq X.K ta fn):=by
 intro pins s U H Q I h
 refine Gb hb (bV (he pins s U H _ I h) fun u s1 qq0=>?_)
 obtain ⟨x,H1,I1,rx,a,C,fs,v,ex,⟨d,e1,e2⟩,c,n,l,q⟩:=qq0
 subst ex
 obtain rfl:u=Value.ref a:=rx
 exact getx I1 e1 e2 c n l fun u2 s2 I2 ru=>⟨v,H1,I2,ru,q⟩
def zU (C:Addr) (fl:List Str):Sp:=fun vs H Q E=>∃ x ws,vs= .ref x :: ws/\ws.length=fl.length/\H x=some (kW x C)/\∀ d,H d=none->d≠x->Q .non (upd (upd H x (gM x C d)) d (mV d (fl.zip ws)))
structure XQ (P:Program) (w:World) (K:W.Frag) (mg:Str->Option Value) (base:Heap) (k:Nat) (x:Str) (C:Addr) (fl:List Str):Prop where
 at_:mg x=some (.ref C)
 cl:O2 K C
 kp:PySem.W.keepIn K (.ref C)=true
 na:∀ f∈fl,NoAttr K C f
 run:∃ f fd ps,PySem.W.findIn K (.ref C) "__init__"=some (some (.ref f))/\PySem.W.typeIn K (.ref f)=some (.type "function")/\Binds K fd ps []/\FnOk P w K mg base Ir k f fd ps (zU C fl)
def Eu (C:Addr) (fl:List Str) (R:St->XK) (t:TA):TS:=fun _ U H=>t U H fun vs H1=>vs.length=fl.length/\vs.length<=sizeLine/\∀ x H2,Same H1 H2->IsX H2 x C (fl.zip vs)->R U (.ref C) (some x) H2
theorem Vf {Q:Value->Shared->Prop} {E:Value->Shared->Prop} {fl:List Str} (M:XQ X.prog X.w X.K X.mg X.base k x C fl) (hr:Room (k+1) X.A) (I:Inv X pins U H s) (r:Vals vs us) (hl:vs.length=fl.length) (hz:vs.length<=sizeLine)
  (q:∀ a d s',H a=none->H d=none->d≠a->Inv X pins U (upd (upd (upd H a (kW a C)) a (gM a C d)) d (mV d (fl.zip vs))) s'->Q (.ref a) s'):wpAny (model X.prog X.w) X.A (call (.ref C) us) Q E s:=by
 obtain ⟨f,fd,ps,hi,hf,hb,F⟩:=M.run
 refine Vd I.kIn M.cl.cls.xi hi hf (by rw [← r.length];exact hz) ?_
 have I1:Inv X pins U H {s with heap:=s.heap.push {cls:=.type "tuple",data:=.seq us.toArray}}:=I.kept (t':=s.toks) fun b o e=>YW _ e
 have sz1:(s.heap.push {cls:=.type "tuple",data:=.seq us.toArray}).objs.size=s.heap.objs.size+1:=Aah _ _
 have hfr:H (s.heap.objs.size+1)=none:=I.hok.fresh (Nat.le_succ _)
 have gx:((s.heap.push {cls:=.type "tuple",data:=.seq us.toArray}).push (dB C none #[.ref s.heap.objs.size,.none,.none,.none,.bool false,.none])).get? (s.heap.objs.size+1)=some (dB C none #[.ref s.heap.objs.size,.none,.none,.none,.bool false,.none]):=by
  rw [← sz1];exact Y9 _ rfl
 have I2:Inv X pins U (upd H (s.heap.objs.size+1) (kW (s.heap.objs.size+1) C)) {s with heap:=(s.heap.push {cls:=.type "tuple",data:=.seq us.toArray}).push (dB C none #[.ref s.heap.objs.size,.none,.none,.none,.bool false,.none])}:=
  I1.laid (t':=s.toks) (fun b o e=>YW _ e) (by show (s.heap.push _).objs.size<=_;rw [sz1];exact YZ _) ⟨⟨_,gx⟩,⟨_,gx⟩,fun h1 h2 ⟨t,z⟩ kk=>⟨t,kk _ z⟩⟩
 have r2:Vals (V.ref (s.heap.objs.size+1) :: vs) (Value.ref (s.heap.objs.size+1) :: us):=.cons rfl r
 have sp0:zU C fl (V.ref (s.heap.objs.size+1) :: vs) (upd H (s.heap.objs.size+1) (kW (s.heap.objs.size+1) C)) (fun v H2=>v= .non/\∃ d,H d=none/\d≠s.heap.objs.size+1/\H2=upd (upd (upd H (s.heap.objs.size+1) (kW (s.heap.objs.size+1) C)) (s.heap.objs.size+1) (gM (s.heap.objs.size+1) C d)) d (mV d (fl.zip vs))) E0:=
  ⟨_,_,rfl,hl,aq,fun d hd ne=>⟨rfl,d,by rw [aD ne] at hd;exact hd,ne,rfl⟩⟩
 have hl2:((Value.ref (s.heap.objs.size+1) :: us) ++ []).length=ps.length:=by rw [ZJ,← r2.length];exact F.len _ _ _ _ sp0
 have bd:=hb _ (Value.ref (s.heap.objs.size+1) :: us) I2.kIn hl2
 rw [ZJ] at bd
 refine AaY (codeAny_mono (F.run _ X.stack _ _ ⟨Value.ref (s.heap.objs.size+1) :: us,[]⟩ (Value.ref (s.heap.objs.size+1) :: us) _ _ E0 (hr.make C us []) (I2.env0.make C us []) bd r2 sp0) fun rr s' hq=>?_)
 cases rr with
 | error e=>exact False.elim hq
 | ok fl=>
  cases fl with
  | ret u=>
   obtain ⟨v,H',I3,rv,ev,d,hd,ne,eH⟩:=I2.after hq
   subst ev
   rw [eH] at I3
   exact ⟨rv,q _ d s' hfr hd ne I3⟩
  | next=>exact False.elim hq
  | brk=>exact False.elim hq
  | cont=>exact False.elim hq
theorem thrown {env:Env} {C:Addr} {Q:Flow->Shared->Prop} {m:Sem Value} (hc:X.calm=true) (c:O2 X.K C) (hx:jn X R)
  (h:wpAny (model X.prog X.w) X.A m (fun v s1=>∃ x d H1,v= .ref x/\Inv X pins U H1 s1/\H1 x=some (gM x C d)/\R U (.ref C) (some x) (upd H1 x (uC x C d))) X.xe s):
  wpAny (model X.prog X.w) X.A (raiseStmt env (some m) none) Q X.xe s:=by
 obtain ⟨nm,qn,N,bs,bm,sn,sub,ab,col,dd,k0,k1,k2,k3,k5,lk0,tl⟩:=wH c.cls.xi
 unfold raiseStmt
 refine YS (bV h fun v s1 qq0=>?_)
 obtain ⟨x,d,H1,ev,I1,e1,r1⟩:=qq0
 subst ev
 have KI:=I1.kIn
 obtain ⟨t,he⟩:=uD I1.hok e1
 have hh:X.A.handled=none:=I1.ok.hd hc
 have hcB:(Value.ref C :: bm).contains (.type "BaseException")=true:=by
  rw [Aad,(tl _ KI).hasType (show XH.contains (.type "BaseException")=true from by decide)];rfl
 have fin:X.xe (.ref x) s1:=by
  have I2:Inv X pins U (upd H1 x (uC x C d)) s1:=I1.write (t':=s1.toks) (x:=x) (e:=x) (h':=s1.heap) (by rw [e1];exact True.intro) (.inl rfl) (fun b o _ z=>z) ⟨_,he⟩ (Gw he rfl)
  exact hx pins _ s1 ⟨x,C,d,U,_,rfl,I2,⟨aq,.inl ⟨_,he,rfl,rfl⟩⟩,r1⟩
 have hD:=KI _ _ lk0
 obtain ⟨hp,g,dr,tk,os⟩:=s1
 unfold dB at he
 repeat (first | with_reducible refine Aaa he ?_ | with_reducible refine Aaa hD ?_ | (with_reducible refine AaH hD ?_;rw [hcB]) | wp_step)
 exact wpAny_raiseNew_none hh fin
end
section
variable {X:Cx} {k:Nat} {C:Addr} {R:St->XK} {x:Str} {p cpos pos:Pos} {e:Expr} {es:List Expr} {t:TA} {fl:List Str}
theorem Cj {H:Hp} {a d:Addr} {vs:List V} (ha:H a=none) (hd:H d=none) (ne:d≠a):Same H (upd (upd (upd (upd H a (kW a C)) a (gM a C d)) d (mV d (fl.zip vs))) a (uC a C d))/\
  IsX (upd (upd (upd (upd H a (kW a C)) a (gM a C d)) d (mV d (fl.zip vs))) a (uC a C d)) a C (fl.zip vs):=by
 refine ⟨fun b o h=>?_,d,aq,by rw [aD ne,aq]⟩
 have na:b≠a:=fun z=>by rw [z,ha] at h;cases h
 have nd:b≠d:=fun z=>by rw [z,hd] at h;cases h
 rw [aD na,aD nd,aD na,aD na]
 exact h
theorem Mr (M:XQ X.prog X.w X.K X.mg X.base k x C fl) (hr:Room (k+1) X.A) (hc:X.calm=true) (hg:Gl X x) (hx:jn X R) (ha:PA X (e :: es) t) (hdb:(x == ("__debug__":Str))=false)
  (he:starEach (e :: es) X.env=(false,eval e X.env) :: starEach es X.env) (hpl:(backTo cpos (starEach es X.env)).any (·.1)=false):PS X (.Raise (some (.Call (.Name x p) (e :: es) [] cpos)) none pos) (Eu C fl R t):=by
 intro pins s U H D I h
 rw [arm_exec_Raise]
 refine YS (Abd (thrown (pins:=pins) (U:=U) (C:=C) hc M.cl hx (YS (bV (Q:=fun v s1=>∃ x d H1,v= .ref x/\Inv X pins U H1 s1/\H1 x=some (gM x C d)/\R U (.ref C) (some x) (upd H1 x (uC x C d))) ?_ fun v s3 h3=>YS (Abd (Y0 h3))))))
 refine ZK (lJ I hg M.at_ ?_ hdb)
 refine Aay (h₀:=X.base) I.ok.mod.kin M.kp (bV (ha cpos pins s U H _ I h) fun us s1 ⟨vs,H1,I1,r,hl,hz,q⟩=>⟨I1.kIn,?_⟩) he hpl
 refine Vf M hr I1 r hl hz fun a d s2 z1 z2 ne I2=>⟨a,d,_,rfl,I2,?_,?_⟩
 ·rw [aD (Ne.symm ne),aq]
 ·obtain ⟨w1,w2⟩:=Cj (C:=C) (fl:=fl) (vs:=vs) z1 z2 ne
  exact q a _ w1 w2
end
section
variable {X:Cx} {pins:List (Addr×Obj)} {U U':St} {H:Hp} {s:Shared} {h':Heap}
theorem Inv.reloc {t':Nat} (I:Inv X pins U H s) (hs:Heap.SameBut X.env.locals s.heap h') (len:U'.length=U.length)
  (l:∃ m',h'.Ns X.env.locals m'/\∀ (i:Nat) (x:Str) (v:V),X.N[i]?=some x->U'[i]?=some (some v)->Wz X.env.scope x->∃ u,RelV v u/\Look X.env h' m' x u):Inv X pins U' H {s with heap:=h',toks:=t'}:=by
 have cne:=I.cne
 obtain ⟨mm,⟨oL,_,_,hoL,_⟩,_⟩:=id I.loc
 have away:∀ b o,X.s₀.heap.get? b=some o->b≠X.env.locals:=fun b o e=>Zr (Zg (Y6 e) I.ok.above)
 refine ⟨I.ok,I.os,I.bare,⟨fun b o e n hb hx=>(hs.2 b (away b o e)).trans (I.base.keep b o e n hb hx),fun b o e n hb hx=>?_,I.base.free,fun b o e hx=>?_,I.base.tups,I.base.frzs,I.base.tbls⟩,l,fun y c e=>?_,I.free,I.freeC,fun q hq=>?_,fun b ob e=>?_,len.trans I.len⟩
 ·obtain ⟨sl,e1⟩:=I.base.slot b o e n hb hx
  exact ⟨sl,(hs.2 b (away b o e)).trans e1⟩
 ·obtain ⟨o2,e1⟩:=I.base.there b o e hx
  exact ⟨o2,(hs.2 b (away b o e)).trans e1⟩
 ·obtain ⟨w2,z⟩:=I.cell y c e
  exact ⟨w2,z.sameBut hs (cne y c e)⟩
 ·obtain ⟨e,n,ne,nf,d⟩:=I.pin q hq
  exact ⟨(hs.2 q.1 ne).trans e,n,ne,nf,d⟩
 ·refine (I.hok b ob e).stay (fun c w2 hc q=>(hs.2 c ?_).trans q) (fun _ q=>q) fun _ _ q=>q
  rintro rfl
  rcases hc with rfl | hc
  ·rw [I.free] at e;cases e
  ·rw [I.free] at hc;cases hc
theorem name_goes {A:Around} {E:Value->Shared->Prop} {i:Nat} {n:Str} {pos:Pos} {Q:Unit->Shared->Prop} (I:Inv X pins U H s) (hN:X.N.Nodup) (hi:X.N[i]?=some n) (hl:X.env.scope.names.lookup n=some .local)
  (h:∀ s',Inv X pins (U.set i none) H s'->Q () s'):wpAny (model X.prog X.w) A (do bindName X.env n .none;unbindBehindTheSuite X.env n pos) Q E s:=by
 have hcls:(X.env.scope.kind == .class || (X.env.scope.kind == .module && X.env.locals != X.env.globals))=false:=by rw [I.ok.kind];rfl
 have hk:X.env.kindOf n=some .local:=hl
 refine YS (wpAny_bindName (oZ (v:=.non) I hN hi (.inl hl) rfl (fun s1 I1=>?_) (.inr hl)))
 obtain ⟨m1,hn1,hl1⟩:=id I1.loc
 have hiU:i < U.length:=by rw [I.len];exact (Y4.mp hi).1
 obtain ⟨u1,ru1,lk1⟩:=hl1 i n .non hi (by rw [ZV hiU]) (.inl hl)
 have m1n:m1 n=some u1:=by
  rcases lk1 with ⟨_,z⟩ | ⟨z | z,_⟩
  ·exact z
  ·rw [hk] at z;cases z
  ·rw [hk] at z;cases z
 unfold unbindBehindTheSuite
 refine wpAny_onRaise ?_
 unfold unbindName
 refine YS (wpAny_point (YS ?_))
 unfold deleteName
 simp only [hk,hcls]
 rw [if_neg (by decide)]
 refine YS (wpAny_nsDel_keeps hn1 fun h2 v2 hn2 hs2=>?_)
 rw [m1n]
 simp only [if_true,Option.isSome_some,Bool.not_true,Bool.false_eq_true,if_false]
 refine Y0 (wpAny_point (h _ (I1.reloc (t':=s1.toks) hs2 (by rw [List.length_set,List.length_set]) ⟨_,hn2,fun j y v e1 e2 e3=>?_⟩)))
 have hj:j≠i:=fun z=>by
  subst z
  rw [ZV hiU] at e2;cases e2
 rw [ZC (Ne.symm hj)] at e2
 obtain ⟨u,r,q⟩:=hl1 j y v e1 (by rw [ZC (Ne.symm hj)];exact e2) e3
 refine ⟨u,r,?_⟩
 rcases q with ⟨k,z⟩ | ⟨k,c,z1,z2⟩
 ·have ny:y≠n:=fun z=>hj (v4 hN e1 (z ▸ hi))
  exact .inl ⟨k,by show (if y=n then v2 else m1 y)=some u;rw [if_neg ny];exact z⟩
 ·exact .inr ⟨k,c,z1,z2.sameBut hs2 (I1.cne y c z1)⟩
end
abbrev Cx.sui (X:Cx) (x:Addr):Cx:={X with A:=X.A.mark (some (.ref x)),calm:=false,xe:=fun _ _=>False}
abbrev Cx.bod (X:Cx) (pins:List (Addr×Obj)) (R:St->XK):Cx:={X with pn:=X.pn ++ pins,xe:=XE X pins R}
section
variable {X:Cx} {pins pins':List (Addr×Obj)} {U:St} {H:Hp} {s:Shared} {x C d T:Addr} {R:St->XK} {D:Ends}
theorem Inv.sui (I:Inv X pins U H s) (x:Addr):Inv (X.sui x) pins U H s:=
 ⟨⟨I.ok.mod,I.ok.kind,I.ok.glob,I.ok.blt,I.ok.above,I.ok.inj,I.ok.has,I.ok.cab,fun h=>absurd h Y5,I.ok.frames,I.ok.stk,I.ok.exf,I.ok.bs,I.ok.bsz,I.ok.noex,I.ok.exfs,I.ok.funs,I.ok.frf⟩,I.os,I.bare,I.base,I.loc,I.cell,I.free,I.freeC,I.pin,I.hok,I.len⟩
theorem Inv.unsui (ok:X.Ok) (I:Inv (X.sui x) pins U H s):Inv X pins U H s:=⟨ok,I.os,I.bare,I.base,I.loc,I.cell,I.free,I.freeC,I.pin,I.hok,I.len⟩
theorem Inv.bod (I:Inv X pins U H s) (R:St->XK):Inv (X.bod pins R) [] U H s:=
 ⟨⟨I.ok.mod,I.ok.kind,I.ok.glob,I.ok.blt,I.ok.above,I.ok.inj,I.ok.has,I.ok.cab,I.ok.hd,I.ok.frames,I.ok.stk,I.ok.exf,I.ok.bs,I.ok.bsz,I.ok.noex,I.ok.exfs,I.ok.funs,I.ok.frf⟩,I.os,I.bare,I.base,I.loc,I.cell,I.free,I.freeC,fun p hp=>I.pin p (by simpa using hp),I.hok,I.len⟩
theorem Inv.unbod (I:Inv (X.bod pins R) pins' U H s):Inv X pins U H s:=
 ⟨⟨I.ok.mod,I.ok.kind,I.ok.glob,I.ok.blt,I.ok.above,I.ok.inj,I.ok.has,I.ok.cab,I.ok.hd,I.ok.frames,I.ok.stk,I.ok.exf,I.ok.bs,I.ok.bsz,I.ok.noex,I.ok.exfs,I.ok.funs,I.ok.frf⟩,I.os,I.bare,I.base,I.loc,I.cell,I.free,I.freeC,fun p hp=>I.pin p (AaW _ hp),I.hok,I.len⟩
theorem SP.unbod {f:Flow} (h:SP (X.bod pins R) pins' D f s):SP X pins D f s:=by
 cases f with
 | next=>obtain ⟨U',H',I,q⟩:=h;exact ⟨U',H',I.unbod,q⟩
 | brk=>obtain ⟨U',H',I,q⟩:=h;exact ⟨U',H',I.unbod,q⟩
 | cont=>obtain ⟨U',H',I,q⟩:=h;exact ⟨U',H',I.unbod,q⟩
 | ret u=>obtain ⟨v,U',H',I,r,q⟩:=h;exact ⟨v,U',H',I.unbod,r,q⟩
theorem SP.unsui (ok:X.Ok) {f:Flow} (h:SP (X.sui x) pins D f s):SP X pins D f s:=by
 cases f with
 | next=>obtain ⟨U',H',I,q⟩:=h;exact ⟨U',H',I.unsui ok,q⟩
 | brk=>obtain ⟨U',H',I,q⟩:=h;exact ⟨U',H',I.unsui ok,q⟩
 | cont=>obtain ⟨U',H',I,q⟩:=h;exact ⟨U',H',I.unsui ok,q⟩
 | ret u=>obtain ⟨v,U',H',I,r,q⟩:=h;exact ⟨v,U',H',I.unsui ok,r,q⟩
theorem tR:jn (X.bod pins R) R:=by
 rintro pins' e s' ⟨x,C,d,U,H',he,I,⟨tx,F⟩,r⟩
 refine ⟨x,C,d,U,H',he,I.unbod,⟨tx,?_⟩,r⟩
 rcases F with F | ⟨T,F⟩
 ·exact .inl F
 ·obtain ⟨a1,a2,a3,a4,a5,a6⟩:=F.fp
  exact .inr ⟨T,F.obj,F.tb,⟨a1,a2,a3,a4,a5,fun p hp=>a6 p (AaW _ hp)⟩,F.tr⟩
theorem yL {A:Around} {E:Value->Shared->Prop} {P:Addr} {b:Bool} {Q:Bool->Shared->Prop} {vs:Array Value} {M:Model} {K:W.Frag} (KI:K.In s.heap) (c:XCls K C) (cP:XCls K P) (e:s.heap.get? x=some (dB C (some d) vs)) (hm:PySem.W.mroIn K C (.ref P)=some b) (h:Q b s):
  wpAny M A (excMatches (.ref x) (.ref P)) Q E s:=by
 obtain ⟨nm,qn,N,bs,bm,sn,sub,ab,col,dd,k0,k1,k2,k3,k5,lk,tl⟩:=wH c.xi
 obtain ⟨nm',qn',N',bs',bm',sn',sub',ab',col',dd',k0',k1',k2',k3',k5',lk',tl'⟩:=wH cP.xi
 have hC:=KI _ _ lk
 have hP:=KI _ _ lk'
 have hPB:(Value.ref P :: bm').contains (.type "BaseException")=true:=by
  rw [Aad,(tl' _ KI).hasType (show XH.contains (.type "BaseException")=true from by decide)];rfl
 have hCP:(Value.ref C :: bm).contains (.ref P)=b:=by
  unfold PySem.W.mroIn PySem.W.clsIn at hm
  rw [lk] at hm
  exact Zv hm
 have f:=tc_notTuple
 obtain ⟨hp,g,dr,tk,os⟩:=s
 unfold dB at e
 unfold excMatches
 by_cases hh:P=C
 ·subst hh
  have hb:b=true:=by rw [← hCP];simp
  subst hb
  rw [lk] at lk'
  cases lk'
  repeat (first | with_reducible refine Aaa e ?_ | with_reducible refine Aaa hC ?_ | (with_reducible refine AaH hC ?_;first | rw [hPB] | rw [hCP]) | wp_step)
  exact h
 ·repeat (first | with_reducible refine Aaa e ?_ | with_reducible refine Aaa hP ?_ | (with_reducible refine AaH hP ?_;rw [hPB]) | (with_reducible refine AaH hC ?_;rw [hCP]) | wp_step)
  cases b <;> (wp_walk;exact h)
abbrev TH:=Ends->St->Addr->Addr->Hp->Prop
def PH (X:Cx) (hs:List ExceptHandler) (th:TH):Prop:=∀ (pins:List (Addr×Obj)) (s:Shared) (U:St) (H:Hp) (D:Ends) (x C d T:Addr),Inv X pins U H s->Head X pins H x C d T s.heap->th D U x C H->
 wpAny (model X.prog X.w) X.A (handleBy (.ref x) X.env hs) (SP X pins D) X.xe s
theorem Vg:PH X [] (fun _ _ _ _ _=>False):=fun _ _ _ _ _ _ _ _ _ _ _ h=>h.elim
def Ends.gone (D:Ends) (i:Nat):Ends:={nx:=fun U H=>D.nx (U.set i none) H,rt:=D.rt,bk:=fun U H=>D.bk (U.set i none) H,ct:=fun U H=>D.ct (U.set i none) H}
def hAs (K:W.Frag) (P:Addr) (i:Nat) (ts:TS) (th:TH):TH:=fun D U x C H=>∃ b,XCls K C/\PySem.W.mroIn K C (.ref P)=some b/\if b=true then ts (D.gone i) (U.set i (some (.ref x))) H else th D U x C H
def hNo (K:W.Frag) (P:Addr) (ts:TS) (th:TH):TH:=fun D U x C H=>∃ b,XCls K C/\PySem.W.mroIn K C (.ref P)=some b/\if b=true then ts D U H else th D U x C H
variable {nm n:Str} {P:Addr} {i:Nat} {p pos:Pos} {b0:Stmt} {suite:List Stmt} {ts:TS} {th:TH} {hs:List ExceptHandler}
theorem XR (hg:Gl X nm) (hm:X.mg nm=some (.ref P)) (cP:XCls X.K P) (hdb:(nm == ("__debug__":Str))=false) (hN:X.N.Nodup) (hi:X.N[i]?=some n) (hl:X.env.scope.names.lookup n=some .local)
  (hsu:∀ x,PSs (X.sui x) (b0 :: suite) ts) (hr:PH X hs th):PH X (.ExceptHandler (some (.Name nm p)) (some n) (b0 :: suite) pos :: hs) (hAs X.K P i ts th):=by
 rintro pins s U H D x C d T I F ⟨b,c,mb,q⟩
 obtain ⟨vs,ex,h1⟩:=F.obj
 refine wpAny_handleBy_cons (codeAny_handlers_test (lJ (I.sui x) hg hm ?_ hdb)) (fun z=>nomatch z)
 refine yL I.kIn c cP ex mb ?_
 cases b with
 | false=>
  rw [if_neg Y5] at q
  exact hr pins s U H D x C d T I F q
 | true=>
  rw [if_pos rfl] at q
  refine codeAny_handlers_suite_as ?_
  refine tO I F fun h2 I2 F2=>?_
  refine oZ (X:=X.sui x) (v:=.ref x) (I2.sui x) hN hi (.inl hl) rfl (fun s3 I3=>?_) (.inr hl)
  refine Zu (hsu x pins s3 _ H (D.gone i) I3 q) (fun f s4 w=>?_) fun _ _ z=>False.elim z
  cases f with
  | next=>obtain ⟨U',H',J,r⟩:=w;exact name_goes (J.unsui I.ok) hN hi hl fun s5 I5=>⟨_,H',I5,r⟩
  | brk=>obtain ⟨U',H',J,r⟩:=w;exact name_goes (J.unsui I.ok) hN hi hl fun s5 I5=>⟨_,H',I5,r⟩
  | cont=>obtain ⟨U',H',J,r⟩:=w;exact name_goes (J.unsui I.ok) hN hi hl fun s5 I5=>⟨_,H',I5,r⟩
  | ret u=>obtain ⟨v,U',H',J,rv,r⟩:=w;exact name_goes (J.unsui I.ok) hN hi hl fun s5 I5=>⟨v,_,H',I5,rv,r⟩
theorem XS (hg:Gl X nm) (hm:X.mg nm=some (.ref P)) (cP:XCls X.K P) (hdb:(nm == ("__debug__":Str))=false) (hsu:∀ x,PSs (X.sui x) (b0 :: suite) ts) (hr:PH X hs th):
  PH X (.ExceptHandler (some (.Name nm p)) none (b0 :: suite) pos :: hs) (hNo X.K P ts th):=by
 rintro pins s U H D x C d T I F ⟨b,c,mb,q⟩
 obtain ⟨vs,ex,h1⟩:=F.obj
 refine wpAny_handleBy_cons (codeAny_handlers_test (lJ (I.sui x) hg hm ?_ hdb)) (fun z=>nomatch z)
 refine yL I.kIn c cP ex mb ?_
 cases b with
 | false=>
  rw [if_neg Y5] at q
  exact hr pins s U H D x C d T I F q
 | true=>
  rw [if_pos rfl] at q
  refine codeAny_handlers_suite ?_
  refine tO I F fun h2 I2 F2=>?_
  exact Zu (hsu x pins _ _ H D (I2.sui x) q) (fun f s4 w=>w.unsui I.ok) fun _ _ z=>False.elim z
def Vh (tb:(St->XK)->TS) (th:TH):TS:=fun D U H=>tb (fun U' c x H'=>∃ C a,c= .ref C/\x=some a/\th D U' a C H') D U H
theorem Vi {body:List Stmt} {h0:ExceptHandler} {tb:(St->XK)->TS} (hst:X.stack=X.env :: X.outer) (hfr:X.env.frame=some X.env.locals) (hb:∀ (pins:List (Addr×Obj)) (R:St->XK),PSs (X.bod pins R) body (tb R)) (hh:PH X (h0 :: hs) th):
  PS X (.Try body (h0 :: hs) [] [] pos) (Vh tb th):=by
 intro pins s U H D I h
 refine wpAny_Try_except (Zu (hb pins _ [] s U H D (I.bod _) h) (fun f s1 q=>?_) fun e s1 q=>?_)
 ·have q':=q.unbod
  cases f with
  | next=>exact wpAny_execs_nil q'
  | brk=>exact q'
  | cont=>exact q'
  | ret u=>exact q'
 ·obtain ⟨x,C,d,U',H',rfl,I1,F1,C',a',eC,ea,r⟩:=q
  cases eC
  cases ea
  refine Ci I1 hst hfr I1.ok.frames F1 fun h2 T I2 F2=>?_
  refine tO I2 F2 fun h3 I3 F3=>?_
  exact hh pins _ U' H' D x C d T I3 F3 r
end
def aL (mg:Str->Option Value) (x:Str):Addr:=match mg x with
 | some (.ref a)=>a
 | _=>0
theorem cJ {mg:Str->Option Value} {x:Str} {C:Addr} (h:mg x=some (.ref C)):aL mg x=C:=by unfold aL;rw [h]
structure Jl (K:W.Frag) (mg:Str->Option Value) (x:Str):Prop where
 at_:mg x=some (.ref (aL mg x))
 cl:O2 K (aL mg x)
theorem R3 {K:W.Frag} {mg:Str->Option Value} {h:Heap} (X:K.In h) (G:h.Ns mainGlobals mg) {x:Str} {C:Addr} (a:PySem.W.nsIn K mainGlobals x=some (some (.ref C))) (b:Gz K C=true):Jl K mg x:=by
 have m:=ZQ X G a
 have e:=cJ m
 exact ⟨by rw [e];exact m,by rw [e];exact Mg b⟩
structure mX (K:W.Frag) (mg:Str->Option Value) (x:Str) (fl:List Str) (qual:Str) (st:Stmt):Prop where
 c:Jl K mg x
 kp:PySem.W.keepIn K (.ref (aL mg x))=true
 na:∀ f∈fl,NoAttr K (aL mg x) f
 ini:∃ f fd,PySem.W.findIn K (.ref (aL mg x)) "__init__"=some (some (.ref f))/\PySem.W.typeIn K (.ref f)=some (.type "function")/\Fun K "__init__" qual st f fd
def Ms (K:W.Frag) (C:Addr) (fl:List Str):Bool:=fl.all fun n=>PySem.W.findIn K (.ref C) n == some none
theorem tU {K:W.Frag} {mg:Str->Option Value} {h:Heap} (X:K.In h) (G:h.Ns mainGlobals mg) {x qual:Str} {C f:Addr} {fl:List Str} {st:Stmt} {oc:Value} {od an:Option Addr} {osl:Array (Option Value)} {kV doc pm cdv ct:Value}
  (a:PySem.W.nsIn K mainGlobals x=some (some (.ref C))) (b:Gz K C=true) (kp:PySem.W.keepIn K (.ref C)=true) (na:Ms K C fl=true)
  (i:PySem.W.findIn K (.ref C) "__init__"=some (some (.ref f))) (t:PySem.W.typeIn K (.ref f)=some (.type "function"))
  (l:K.lookup f=some ⟨oc,od,.func (PySem.W.fnOf "__init__" qual (cu st) (bC st) (az st) .none kV doc pm an cdv ct),osl⟩) (c:PySem.W.codeIn K cdv qual=true) (k:PySem.W.keepIn K (.ref f)=true):mX K mg x fl qual st:=by
 have m:=ZQ X G a
 have e:=cJ m
 refine ⟨R3 X G a b,by rw [e];exact kp,fun n hn=>?_,f,_,by rw [e];exact i,t,wj l c k⟩
 rw [e]
 have:=Aaf.mp na n hn
 exact Aal.mp this
structure Sub (K:W.Frag) (mg:Str->Option Value) (x y:Str) (b:Bool):Prop where
 mro:PySem.W.mroIn K (aL mg x) (.ref (aL mg y))=some b
 one:PySem.W.kitOne K (.ref (aL mg x)) (.ref (aL mg y))=some b
theorem nM {K:W.Frag} {mg:Str->Option Value} {h:Heap} (X:K.In h) (G:h.Ns mainGlobals mg) {x y:Str} {C P:Addr} {r:Bool} (a:PySem.W.nsIn K mainGlobals x=some (some (.ref C))) (b:PySem.W.nsIn K mainGlobals y=some (some (.ref P)))
  (m:PySem.W.mroIn K C (.ref P)=some r) (o:PySem.W.kitOne K (.ref C) (.ref P)=some r):Sub K mg x y r:=by
 have e:=cJ (ZQ X G a)
 have e2:=cJ (ZQ X G b)
 exact ⟨by rw [e,e2];exact m,by rw [e,e2];exact o⟩
theorem Qv {K:W.Frag} {mg:Str->Option Value} {h:Heap} (X:K.In h) (G:h.Ns mainGlobals mg) {x:Str} {T:String} {C:Addr} {r:Bool} (a:PySem.W.nsIn K mainGlobals x=some (some (.ref C)))
  (o:PySem.W.kitOne K (.ref C) (.type T)=some r):PySem.W.kitOne K (.ref (aL mg x)) (.type T)=some r:=by
 rw [cJ (ZQ X G a)];exact o
structure JH (X:Cx) (hs:List ExceptHandler) (th:TH):Prop where
 run:PH X hs th
section
variable {X:Cx} {K:W.Frag} {k:Nat} {x n fn:Str} {ps:List Str} {sp:Sp} {R:St->XK} {p pos cpos pos':Pos} {e o value:Expr} {es:List Expr} {t:TA} {ta tv:TE} {st:Stmt} {u ts:TS} {th:TH} {hs:List ExceptHandler} {i:Nat}
theorem qp (F:Qs X.prog X.w X.K X.mg X.base k x ps sp) (hr:Room k X.A) (hg:Gl X x) (hx:jn X R) (ha:JA X (e :: es) t) (hdb:(x == ("__debug__":Str))=false) (h:autoParam ((e :: es).all notStar=true) L2.auto4._auto_1):
  JE X (.Call (.Name x p) (e :: es) [] pos) (Et sp R t):=by
 have h1:notStar e=true:=by simp only [ZG,Ze] at h;exact h.1
 have h2:es.all notStar=true:=by simp only [ZG,Ze] at h;exact h.2
 exact ⟨Ml F hr hg hx ha.run hdb (bF h1) (mq h2)⟩
theorem Mt {C:Addr} (hg:Gl X x) (hm:X.mg x=some (.ref C)) (hd:(x == ("__debug__":Str))=false):JE X (.Name x pos) (tC (.ref C)):=⟨zr hg hm rfl hd⟩
theorem uE (hK:X.K=K) (he:JE X e ta) (h:autoParam (tK e=true) L2.auto4._auto_1):JE X (.Attribute e fn pos) (Mq K ta fn):=by
 subst hK
 exact ⟨Qu he.run (by cases e <;> first | rfl | cases h)⟩
theorem Qw (hK:X.K=K) (ha:JE X o ta) (hv:JE X value tv) (h:autoParam (lM value=true) L2.auto4._auto_1):JS X (.Assign [.Attribute o fn pos'] value pos) (Mm K ta tv fn):=by
 subst hK
 exact ⟨Qt ha.run hv.run (BR h)⟩
theorem Mu {fl:List Str} (M:XQ X.prog X.w X.K X.mg X.base k x (aL X.mg x) fl) (hr:Room (k+1) X.A) (hc:X.calm=true) (hg:Gl X x) (hx:jn X R) (ha:JA X (e :: es) t) (hdb:(x == ("__debug__":Str))=false) (h:autoParam ((e :: es).all notStar=true) L2.auto4._auto_1):
  JS X (.Raise (some (.Call (.Name x p) (e :: es) [] cpos)) none pos) (Eu (aL X.mg x) fl R t):=by
 have h1:notStar e=true:=by simp only [ZG,Ze] at h;exact h.1
 have h2:es.all notStar=true:=by simp only [ZG,Ze] at h;exact h.2
 exact ⟨Mr M hr hc hg hx ha.run hdb (bF h1) (mq h2)⟩
theorem zV:JH X [] (fun _ _ _ _ _=>False):=⟨Vg⟩
theorem GD {b0:Stmt} {suite:List Stmt} (hK:X.K=K) (c:Jl K X.mg x) (hg:Gl X x) (hdb:(x == ("__debug__":Str))=false) (hN:X.N.Nodup) (hi:X.N[i]?=some n) (hl:X.env.scope.names.lookup n=some .local)
  (hsu:∀ x,JB (X.sui x) (b0 :: suite) ts) (hr:JH X hs th):JH X (.ExceptHandler (some (.Name x p)) (some n) (b0 :: suite) pos :: hs) (hAs K (aL X.mg x) i ts th):=by
 subst hK
 exact ⟨XR hg c.at_ c.cl.cls hdb hN hi hl (fun x=>(hsu x).run) hr.run⟩
theorem GF {b0:Stmt} {suite:List Stmt} (hK:X.K=K) (c:Jl K X.mg x) (hg:Gl X x) (hdb:(x == ("__debug__":Str))=false)
  (hsu:∀ x,JB (X.sui x) (b0 :: suite) ts) (hr:JH X hs th):JH X (.ExceptHandler (some (.Name x p)) none (b0 :: suite) pos :: hs) (hNo K (aL X.mg x) ts th):=by
 subst hK
 exact ⟨XS hg c.at_ c.cl.cls hdb (fun x=>(hsu x).run) hr.run⟩
theorem zW {body:List Stmt} {h0:ExceptHandler} {tb:(St->XK)->TS} (hst:X.stack=X.env :: X.outer) (hfr:X.env.frame=some X.env.locals) (hb:∀ (pins:List (Addr×Obj)) (R:St->XK),JB (X.bod pins R) body (tb R)) (hh:JH X (h0 :: hs) th):
  JS X (.Try body (h0 :: hs) [] [] pos) (Vh tb th):=⟨Vi hst hfr (fun pins R=>(hb pins R).run) hh.run⟩
end
section
variable {P:Program} {w:World} {K:W.Frag} {mg:Str->Option Value} {base:Heap}
theorem XX {x:Str} {st:Stmt} {N ps:List Str} {k:Nat} {sp:Sp} (D:b7 K mg x st) (S:aC N ps (az st))
  (hb:∀ (kV doc pm:Value) (an:Option Addr) (cdv ct:Value) (us:List Value),us.length=ps.length->bindArgs (PySem.W.fnOf x x (cu st) (bC st) (az st) .none kV doc pm an cdv ct) ⟨us,[]⟩=pure (ps.zip us))
  (len:∀ vs H Q E,sp vs H Q E->vs.length=ps.length)
  (hbody:∀ (f:Addr) (cdv:Value) (A:Around) (outer:List Env) (s:Shared) (H:Hp) (vs:List V) (Q:VK) (E:XK),Room k (A.deeper (envOfC x (az st) s.heap.objs.size f cdv))->sp vs H Q E->
   ∃ t,JB (o5 (Jh P w) P w K mg base N x (az st) f cdv A outer s H E) (bC st) t/\t {nx:=fun _ H'=>Q .non H',rt:=Q} (start N vs) H):Qs P w K mg base (k+1) x ps sp:=by
 obtain ⟨f,fd,F,hm⟩:=D
 refine ⟨f,fd,hm,F.kp,F.binds hb,?_⟩
 obtain ⟨oc,od,kV,doc,pm,an,cdv,ct,osl,rfl,lk,hcd⟩:=F.ex
 exact Bp lk hcd S len fun A outer s H vs Q E hr h=>let ⟨t,j,q⟩:=hbody f cdv A outer s H vs Q E hr h;⟨t,j.run,q⟩
theorem mkX {x qual:Str} {st:Stmt} {N ps:List Str} {fl:List Str} {k:Nat} (D:mX K mg x fl qual st) (S:aC N ps (az st))
  (hb:∀ (kV doc pm:Value) (an:Option Addr) (cdv ct:Value) (us:List Value),us.length=ps.length->bindArgs (PySem.W.fnOf "__init__" qual (cu st) (bC st) (az st) .none kV doc pm an cdv ct) ⟨us,[]⟩=pure (ps.zip us))
  (hl:ps.length=fl.length+1)
  (hbody:∀ (f:Addr) (cdv:Value) (A:Around) (outer:List Env) (s:Shared) (H:Hp) (vs:List V) (Q:VK) (E:XK),Room k (A.deeper (envOfC qual (az st) s.heap.objs.size f cdv))->zU (aL mg x) fl vs H Q E->
   ∃ t,JB (o5 Ir P w K mg base N qual (az st) f cdv A outer s H E).nox (bC st) t/\t {nx:=fun _ H'=>Q .non H',rt:=Q} (start N vs) H):XQ P w K mg base (k+1) x (aL mg x) fl:=by
 obtain ⟨f,fd,a,b,F⟩:=D.ini
 refine ⟨D.c.at_,D.c.cl,D.kp,D.na,f,fd,ps,a,b,F.binds hb,F.ok S (fun vs H Q E h=>?_) fun cdv A outer s H vs Q E hr h=>let ⟨t,j,q⟩:=hbody f cdv A outer s H vs Q E hr h;⟨t,j.run,q⟩⟩
 obtain ⟨y,ws,rfl,hw,_⟩:=h
 rw [Z6,hw,hl]
end
def initOf:Stmt->Stmt
 | .ClassDef _ _ _ (s :: _) _ _ _ _ _ _ _=>s
 | s=>s
section
variable {U:St} {H:Hp} {D:Ends} {Q:VK} {sp:Sp} {R:St->XK} {a:TA} {K:W.Frag} {C P:Addr} {fl:List Str} {th:TH} {ts:TS} {i:Nat} {ta:TE} {f:Str}
theorem cL (h:a U H fun vs H1=>sp vs H1 Q (R U)):Et sp R a U H Q:=h
theorem jR {tb:(St->XK)->TS} (h:tb (fun U' c x H'=>∃ C a,c= .ref C/\x=some a/\th D U' a C H') D U H):Vh tb th D U H:=h
theorem cM (h:a U H fun vs H1=>vs.length=fl.length/\vs.length<=sizeLine/\∀ x H2,Same H1 H2->IsX H2 x C (fl.zip vs)->R U (.ref C) (some x) H2):Eu C fl R a D U H:=h
theorem fX (h:ta U H fun x H1=>∃ a C fs v,x= .ref a/\IsX H1 a C fs/\XCls K C/\NoAttr K C f/\fs.lookup f=some v/\Q v H1):Mq K ta f U H Q:=h
theorem yM {x C:Addr} (c:XCls K C) (m:PySem.W.mroIn K C (.ref P)=some true) (h:ts (D.gone i) (U.set i (some (.ref x))) H):hAs K P i ts th D U x C H:=⟨true,c,m,by rw [if_pos rfl];exact h⟩
theorem Vj {x v:V} {t c:Value} {b:Bool} (ty:TyOf K H x t) (e:XN v=some c) (o:PySem.W.kitOne K t c=some b) (h:Q (.bl b) H):yK K [x,v] H Q:=⟨x,t,b,.inl ty,.inl ⟨v,c,rfl,e,o⟩,h⟩
theorem Mv {x C:Addr} {v:V} {c:Value} {fs:List (Str×V)} {b:Bool} (ex:IsX H x C fs) (cl:O2 K C) (e:XN v=some c) (o:PySem.W.kitOne K (.ref C) c=some b) (h:Q (.bl b) H):yK K [.ref x,v] H Q:=
 ⟨.ref x,.ref C,b,.inr ⟨x,C,fs,rfl,ex,cl,rfl⟩,.inl ⟨v,c,rfl,e,o⟩,h⟩
theorem GJ {x C p:Addr} {vs:List V} {cs:List Value} {fs:List (Str×V)} {b:Bool} (ex:IsX H x C fs) (cl:O2 K C) (hp:H p=some (.tup vs)) (e:Jk vs=some cs) (o:PySem.W.kitAny K (.ref C) cs=some b) (h:Q (.bl b) H):yK K [.ref x,.ref p] H Q:=
 ⟨.ref x,.ref C,b,.inr ⟨x,C,fs,rfl,ex,cl,rfl⟩,.inr ⟨p,vs,cs,rfl,hp,e,o⟩,h⟩
theorem zX {x:V} {t:Value} {p:Addr} {vs:List V} {cs:List Value} {b:Bool} (ty:TyOf K H x t) (hp:H p=some (.tup vs)) (e:Jk vs=some cs) (o:PySem.W.kitAny K t cs=some b) (h:Q (.bl b) H):yK K [x,.ref p] H Q:=
 ⟨x,t,b,.inl ty,.inr ⟨p,vs,cs,rfl,hp,e,o⟩,h⟩
theorem rd1 {f1 p0 p1:Str} {vs:List V} {E:XK} (c:XCls K C) (n:NoAttr K C f1) (h:zU C [f1] vs H Q E):Mm K (rF 0) (rF 1) f1 {nx:=fun _ H'=>Q .non H',rt:=Q} (start [p0,p1] vs) H:=by
 obtain ⟨x,ws,rfl,hw,hx,q⟩:=h
 match ws,hw with
 | [v],_=>exact ⟨v,rfl,.ref x,rfl,x,C,rfl,c,n,.inl ⟨hx,fun d hd ne=>q d hd ne⟩⟩
end
theorem IsX.same {H H':Hp} {x C:Addr} {fs:List (Str×V)} (h:IsX H x C fs) (s:Same H H'):IsX H' x C fs:=let ⟨d,a,b⟩:=h;⟨d,s _ _ a,s _ _ b⟩
def zY (z:Str) (lo hi:Option Int) (c:Int):Str:=⟨((Builtin.Str.strSliceIndices lo hi c z.length).filterMap (z.cps[·]?)).toArray⟩
def Vk (te:TE) (tl th ts:TO):TE:=fun U H Q=>te U H fun x H1=>tl U H1 fun l H2=>th U H2 fun u H3=>ts U H3 fun c H4=>∃ z c',x= .str z/\c=some c'/\c'≠0/\c'≠1/\(zY z l u c').length<=sizeLine/\Q (.str (zY z l u c')) H4
def J9:Option Int->Tok->Option (Int×Tok)
 | none,_=>none
 | some i,t=>some (i,t)
theorem rM {v:Value} {l:Option Int} (h:IsPart v l):∃ t,v=partValue (J9 l t):=by
 cases h with
 | none=>exact ⟨0,rfl⟩
 | int i t=>exact ⟨t,rfl⟩
theorem GK (l:Option Int) (t:Tok):(J9 l t).map (·.1)=l:=by cases l <;> rfl
section
variable {X:Cx} {e:Expr} {te:TE} {lo hi:Option Expr} {st:Expr} {tl th ts:TO} {pos p2:Pos}
theorem Jm (he:PE X e te) (hl:PO X lo tl) (hu:PO X hi th) (hs:PO X (some st) ts):PE X (.Subscript e (.Slice lo hi (some st) p2) pos) (Vk te tl th ts):=by
 intro pins s U H Q I h
 refine Subscript_ (bV (he pins s U H _ I h) fun v s1 qq0=>?_)
 obtain ⟨x,H1,I1,r1,q1⟩:=qq0
 refine wpAny_Slice (bV (hl pins s1 U H1 _ I1 q1) fun vl s2 ⟨l,H2,I2,pl,q2⟩=>bV (hu pins s2 U H2 _ I2 q2) fun vu s3 ⟨u,H3,I3,pu,q3⟩=>bV (hs pins s3 U H3 _ I3 q3) fun vc s4 qq0=>?_)
 obtain ⟨c,H4,I4,pc,q4⟩:=qq0
 obtain ⟨z,c',rfl,rfl,hc0,hc1,hz,q⟩:=q4
 obtain ⟨t,rfl⟩:=r1
 obtain ⟨t1,rfl⟩:=rM pl
 obtain ⟨t2,rfl⟩:=rM pu
 obtain ⟨t3,rfl⟩:=rM pc
 have I5:Inv X pins U H4 {s4 with heap:=s4.heap.push {cls:=.type "slice",data:=.fields #[partValue (J9 l t1),partValue (J9 u t2),partValue (J9 (some c') t3)]}}:=I4.kept (t':=s4.toks) fun b ob q=>YW _ q
 show wpAny (model X.prog X.w) X.A (subscriptTail e (.Slice lo hi (some st) p2) (.str z t) (.ref s4.heap.objs.size)) (EP X pins U Q) X.xe _
 refine tail_any (T:="str") (ops:=[.str z t,.ref s4.heap.objs.size]) (typeIs_str _ _ _) F.slot_str_getitem.lookup ?_ (by with_unfolding_all rfl)
 refine Aan (l:=J9 l t1) (u:=J9 u t2) (st:=J9 (some c') t3) ⟨_,Y9 _ rfl,rfl,rfl⟩ (by show (c' == 0)=false;simpa using hc0) ?_
 unfold sliceMade
 have e1:(((J9 (some c') t3).map (·.1)).getD 1 == 1)=false:=by show (c' == 1)=false;simpa using hc1
 rw [e1,Bool.false_and,if_neg Y5]
 have e2:(⟨((slicePicked z (J9 l t1) (J9 u t2) (J9 (some c') t3)).filterMap (z.cps[·]?)).toArray⟩:Str)=zY z l u c':=by
  unfold slicePicked zY
  rw [GK,GK];rfl
 rw [e2]
 exact ⟨hz,⟨.str _,H4,I5.tok _,⟨_,rfl⟩,q⟩⟩
theorem Ck (he:JE X e te) (hl:JO X lo tl) (hu:JO X hi th) (hs:JO X (some st) ts):JE X (.Subscript e (.Slice lo hi (some st) p2) pos) (Vk te tl th ts):=⟨Jm he.run hl.run hu.run hs.run⟩
theorem GQ:JE X (.Dict [] [] pos) Eg:=⟨Le⟩
end
section
variable {U:St} {H:Hp} {Q:VK} {te:TE}
theorem jT {tl th ts:TO} (h:te U H fun x H1=>tl U H1 fun l H2=>th U H2 fun u H3=>ts U H3 fun c H4=>∃ z c',x= .str z/\c=some c'/\c'≠0/\c'≠1/\(zY z l u c').length<=sizeLine/\Q (.str (zY z l u c')) H4):Vk te tl th ts U H Q:=h
theorem fY (h:∀ p,H p=none->Q (.ref p) (upd H p (.dK []))):Eg U H Q:=h
end
def X4 (K:W.Frag) (neg:Bool):R2:=fun x y H Q=>∃ a b xs,x= .ref a/\y= .ref b/\SqL K H a xs/\SqL K H b xs/\(∀ v∈xs,lK v=true\/∃ r,v= .ref r)/\Q (.bl (!neg)) H
theorem Cm {v:V} (f:lK v=true):Gh v v=true:=by
 cases v <;> first | (cases f;done) | rfl | (simp [Gh])
section
variable {X:Cx}
theorem Vl (hu:X.A.units < cLine):OpR X (compareOp .Eq) (X4 X.K false):=by
 intro pins s U H x y v u Q I rx ry h
 obtain ⟨a,b,xs,rfl,rfl,ha,hb,fx,q⟩:=h
 cases rx
 cases ry
 obtain ⟨its,r1,p1,z1⟩:=I.list ha
 obtain ⟨jts,r2,p2,z2⟩:=I.list hb
 have l1:its.toArray.size=xs.length:=by simpa using r1.length.symm
 have l2:jts.toArray.size=xs.length:=by simpa using r2.length.symm
 refine SeqAt.eq_listAt (e:=fun _=>true) p1.isList p2.isList (by rw [l1,l2]) hu (fun j h1 h2=>?_) ?_
 ·have hj:j < xs.length:=by omega
  obtain ⟨u1,e1,q1⟩:=r1.get (YX hj)
  obtain ⟨u2,e2,q2⟩:=r2.get (YX hj)
  have f1:its.toArray[j]=u1:=by
   obtain ⟨_,z⟩:=Y4.mp e1
   simpa using z
  have f2:jts.toArray[j]=u2:=by
   obtain ⟨_,z⟩:=Y4.mp e2
   simpa using z
  rw [f1,f2]
  rcases fx _ (Aaw hj) with f | ⟨r,f⟩
  ·rw [← Cm f]
   exact zA q1 q2 f f
  ·rw [f] at q1 q2
   cases (show u1=Value.ref r from q1)
   cases (show u2=Value.ref r from q2)
   exact SeqAt.EqAt.same _
 ·have e:(List.range its.toArray.size).all (fun _=>true)=true:=by simp
  rw [e]
  exact ⟨.bl true,H,I,rfl,q⟩
def Mw (K:W.Frag):R2:=fun x y H Q=>Lz K x y H Q\/X4 K false x y H Q
theorem Vm {K:W.Frag} (hK:X.K=K) (hu:X.A.units+64 < cLine):OpR X (compareOp .Eq) (Mw K):=by
 subst hK
 exact (Vc rfl hu).or (Vl (Nat.lt_of_le_of_lt (Aa6 _ _) hu))
end
section
variable {H:Hp} {Q:VK} {K:W.Frag}
theorem dM {i j:Int} (h:Q (.bl (decide (V.int i=V.int j))) H):Mw K (.int i) (.int j) H Q:=.inl (dI h)
theorem dN {i j:Str} (h:Q (.bl (decide (V.str i=V.str j))) H):Mw K (.str i) (.str j) H Q:=.inl (dJ h)
theorem Vn {a b:Addr} {xs:List V} (h1:SqL K H a xs) (h2:SqL K H b xs) (f:∀ v∈xs,lK v=true\/∃ r,v= .ref r) (h:Q (.bl true) H):Mw K (.ref a) (.ref b) H Q:=.inr ⟨a,b,xs,rfl,rfl,h1,h2,f,h⟩
end
end L2
namespace L2
open PySem PySem.Spec PyProof.Rows
open AutoSeq1 (wpAny_loadPart')
theorem Vo:isSubtype (.type "dict") (.type "dict")=pure true:=by rw [Aa0];kernel_rfl
theorem Jo {prog:Program} {w:World} {A:Around} {E:Value->Shared->Prop} {s:Shared} {Q:Value->Shared->Prop} {a:Addr} {o:Obj} {e:DictEntry} {ep:Nat} {k:Key} (ho:s.heap.get? a=some o) (hc:o.cls= .type "dict") (hd:o.data= .dict #[e] ep)
  (hkey:(cj prog w).is k e.key=true) (hh:e.hash=(cj prog w).hash k) (hsm:(a == sysModules)=false) (hu:A.units < cLine) (h:Q (.bool true) s):wpAny (model prog w) A (compareOp .Eq (.ref a) (.ref a)) Q E s:=by
 show wpAny _ _ (richCompare .Eq (.ref a) (.ref a)) _ _ _
 refine wpAny_richCompare_same_room ⟨o,ho,hc⟩ ⟨o,ho,hc⟩ F.slot_dict_eq (AaY (Aa2 F.slot_dict_eq.plain F.entry_dict_eq (F.slot_dict_eq.check _ _ _ _ _ _ _ _ ⟨o,ho,hc⟩ (F.args_dict_eq_2 _ _) ?_))) hu
 have ko:KeysOf (cj prog w) #[e]:=fun x hx=>by
  simp at hx
  subst hx
  exact ⟨k,hkey,hh⟩
 have f2:=Vo
 obtain ⟨hp,g,d,tk,os⟩:=s
 have hT:(⟨hp,g,d,tk,os⟩:Shared).TypeIs (.ref a) "dict":=⟨_,ho,hc⟩
 unfold Builtin.«dict.__eq__»
 wp_walk using wpAny_loadPart' ho
 have en:∀ (Q:Array DictEntry->Shared->Prop) (E:Value->Shared->Prop),Q #[e] ⟨hp,g,d,tk,os⟩->wpAny (model prog w) A.in1 (dictEntries a) Q E ⟨hp,g,d,tk,os⟩:=fun Q E q=>by
  unfold dictEntries
  refine YS (AaX ho ?_)
  simp only [hd]
  exact Y0 q
 have eo:∀ (Q:Nat->Shared->Prop) (E:Value->Shared->Prop),Q ep ⟨hp,g,d,tk,os⟩->wpAny (model prog w) A.in1 (dictEpoch a) Q E ⟨hp,g,d,tk,os⟩:=fun Q E q=>by
  unfold dictEpoch
  refine YS (AaX ho ?_)
  simp only [hd]
  exact Y0 q
 simp only [hd]
 refine Y0 ?_
 refine YS (en _ _ ?_)
 rw [if_neg (by simp)]
 refine YS (eo _ _ ?_)
 refine YS ?_
 rw [Std.Legacy.Range.forIn_eq_forIn_range']
 simp only [Std.Legacy.Range.size,Nat.sub_zero,Nat.add_sub_cancel,Nat.div_one]
 show wpAny _ _ (forIn [0] _ _) _ _ _
 rw [List.forIn_cons]
 refine YS (YS (en _ _ ?_))
 show wpAny _ _ (holding [e.key,e.val] _ >>=_) _ _ _
 refine YS (ZW ?_)
 refine YS (show wpAny (model prog w) A.in1 (dictFind a e.key e.hash) _ _ _ from ?_)
 rw [hh]
 refine wpAny_dictFind_of hkey ho hd ko ?_
 have fi:(#[e]:Array DictEntry).findIdx? (fun e=>(cj prog w).is k e.key)=some 0:=by simp [hkey]
 rw [fi]
 refine YS (en _ _ ?_)
 show wpAny _ _ (holding [e.val] (eqBool e.val e.val)) _ _ _
 refine ZW (SeqAt.EqAt.same e.val prog w _ _ ?_)
 rw [if_neg (by simp)]
 refine YS (eo _ _ ?_)
 rw [if_neg (by simp)]
 refine Y0 ?_
 show wpAny _ _ (forIn [] _ _) _ _ _
 rw [List.forIn_nil]
 refine Y0 (Y0 ?_)
 exact Y0 ⟨(fun z=>nomatch z),h⟩
def Vp:R2:=fun x y H Q=>(y= .non/\Q (.bl (decide (x= .non))) H)\/∃ a b,x= .bl a/\y= .bl b/\Q (.bl (a == b)) H
def GR:R2:=fun x y H Q=>(y= .non/\Q (.bl (!decide (x= .non))) H)\/∃ a b,x= .bl a/\y= .bl b/\Q (.bl (!(a == b))) H
section
variable {X:Cx}
theorem Ew:OpR X (compareOp .Is) Vp:=T9.or (by
 intro pins s U H x y v u Q I rx ry h
 obtain ⟨a,b,rfl,rfl,q⟩:=h
 cases rx
 cases ry
 exact is_bool ⟨.bl _,H,I,rfl,q⟩)
theorem Jp:OpR X (compareOp .IsNot) GR:=Py.or (by
 intro pins s U H x y v u Q I rx ry h
 obtain ⟨a,b,rfl,rfl,q⟩:=h
 cases rx
 cases ry
 exact isnot_bool ⟨.bl _,H,I,rfl,q⟩)
def R4 (K:W.Frag):R2:=fun x y H Q=>∃ a b xs,x= .ref a/\y= .ref b/\SqT K H a xs/\SqT K H b xs/\(∀ v∈xs,lK v=true\/∃ r,v= .ref r)/\Q (.bl true) H
theorem Qx (hu:X.A.units < cLine):OpR X (compareOp .Eq) (R4 X.K):=by
 intro pins s U H x y v u Q I rx ry h
 obtain ⟨a,b,xs,rfl,rfl,ha,hb,fx,q⟩:=h
 cases rx
 cases ry
 obtain ⟨its,r1,p1,z1⟩:=I.tuple ha
 obtain ⟨jts,r2,p2,z2⟩:=I.tuple hb
 have l1:its.toArray.size=xs.length:=by simpa using r1.length.symm
 have l2:jts.toArray.size=xs.length:=by simpa using r2.length.symm
 refine SeqAt.eq_tupleAt (e:=fun _=>true) p1 p2 hu (fun j h1 h2=>?_) ?_
 ·have hj:j < xs.length:=by omega
  obtain ⟨u1,e1,q1⟩:=r1.get (YX hj)
  obtain ⟨u2,e2,q2⟩:=r2.get (YX hj)
  have f1:its.toArray[j]=u1:=by
   obtain ⟨_,z⟩:=Y4.mp e1
   simpa using z
  have f2:jts.toArray[j]=u2:=by
   obtain ⟨_,z⟩:=Y4.mp e2
   simpa using z
  rw [f1,f2]
  rcases fx _ (Aaw hj) with f | ⟨r,f⟩
  ·rw [← Cm f]
   exact zA q1 q2 f f
  ·rw [f] at q1 q2
   cases (show u1=Value.ref r from q1)
   cases (show u2=Value.ref r from q2)
   exact SeqAt.EqAt.same _
 ·have e:((List.range (min its.toArray.size jts.toArray.size)).all (fun _=>true) && its.toArray.size == jts.toArray.size)=true:=by rw [l1,l2];simp
  rw [e]
  exact ⟨.bl true,H,I,rfl,q⟩
def R5:R2:=fun x y H Q=>∃ a k v,x= .ref a/\y= .ref a/\H a=some (.dK [(k,v)])/\Q (.bl true) H
theorem Qy (hu:X.A.units < cLine):OpR X (compareOp .Eq) R5:=by
 intro pins s U H x y v u Q I rx ry h
 obtain ⟨a,k,z,rfl,rfl,ha,q⟩:=h
 cases rx
 cases ry
 obtain ⟨_,hsm,vs,kv,o,es,ep,h1,h2,h3,h4,h5,h6⟩:=(show ObjOk X.prog X.w H s.heap a (.dK [(k,z)]) from I.hok a _ ha)
 cases kv with
 | cons a1 a2=>
  cases a2
  obtain ⟨l⟩:=es
  dsimp only at h5
  cases h5 with
  | @cons en _ _ _ p1 p2 p3=>
   cases p3
   obtain ⟨k',b1,b2⟩:=h4 en (by simp)
   exact Jo (e:=en) h1 h2.1 h3 b1 b2 hsm hu ⟨.bl true,H,I,rfl,q⟩
def Qz (K:W.Frag):R2:=fun x y H Q=>Mw K x y H Q\/R4 K x y H Q\/R5 x y H Q
theorem dw {K:W.Frag} (hK:X.K=K) (hu:X.A.units+64 < cLine):OpR X (compareOp .Eq) (Qz K):=by
 subst hK
 exact (Vm rfl hu).or ((Qx (Nat.lt_of_le_of_lt (Aa6 _ _) hu)).or (Qy (Nat.lt_of_le_of_lt (Aa6 _ _) hu)))
end
section
variable {H:Hp} {Q:VK} {K:W.Frag}
theorem cO {U:St} {r r':R2} {ta tb tc:TE} (h:ta U H fun x H1=>tb U H1 fun y H2=>r x y H2 fun z H3=>∃ k,z= .bl k/\if k=true then tc U H3 fun w H4=>r' y w H4 Q else Q (.bl false) H3):v8 r r' ta tb tc U H Q:=h
theorem jU {x:V} (h:Q (.bl (decide (x= .non))) H):Vp x .non H Q:=.inl ⟨rfl,h⟩
theorem jV {a b:Bool} (h:Q (.bl (a == b)) H):Vp (.bl a) (.bl b) H Q:=.inr ⟨a,b,rfl,rfl,h⟩
theorem bO {x:V} (h:Q (.bl (!decide (x= .non))) H):GR x .non H Q:=.inl ⟨rfl,h⟩
theorem fZ {i j:Int} (h:Q (.bl (decide (V.int i=V.int j))) H):Qz K (.int i) (.int j) H Q:=.inl (dM h)
theorem f9 {i j:Str} (h:Q (.bl (decide (V.str i=V.str j))) H):Qz K (.str i) (.str j) H Q:=.inl (dN h)
end
end L2
namespace L2
open PySem PySem.Spec PyProof.Rows PySem.SeqAt
theorem cps_append (a b:Str):(a ++ b).cps.toList=a.cps.toList ++ b.cps.toList:=by
 show (a.cps ++ b.cps).toList=_
 rw [Array.toList_append]
theorem QB (lo hi:Option Int) (n:Nat):Builtin.Str.strSliceIndices lo hi 1 n=(List.range (HT.sIx n n hi - HT.sIx n 0 lo)).map fun k=>HT.sIx n 0 lo+k:=by
 have c:∀ (i:Int) (d:Nat),max 0 (min (if i < 0 then i+(n:Int) else i) (n:Int))=((HT.sIx n d (some i):Nat):Int):=by
  intro i d
  rw [← HT.clip_eq]
  split <;> omega
 have key:∀ a b:Nat,(List.range (if (a:Int) < (b:Int) then ((b:Int) - a+1 - 1) / 1 else 0).toNat).map (fun k:Nat=>((a:Int)+1*(k:Int)).toNat)=(List.range (b - a)).map fun k=>a+k:=by
  intro a b
  have e3:(if (a:Int) < (b:Int) then ((b:Int) - a+1 - 1) / 1 else 0).toNat=b - a:=by split <;> omega
  rw [e3]
  refine Aar fun k _=>?_
  omega
 unfold Builtin.Str.strSliceIndices sliceRange
 simp only [show (1:Int) > 0 by decide,if_true]
 cases lo with
 | none=>
  cases hi with
  | none=>exact key 0 n
  | some j=>rw [← key,← c j n];rfl
 | some i=>
  cases hi with
  | none=>rw [← key,← c i 0];rfl
  | some j=>rw [← key,← c i 0,← c j n]
theorem R6 {α β:Type} {f:α->Option β} {g:α->β}:∀ (l:List α),(∀ k∈l,f k=some (g k))->l.filterMap f=l.map g
 | [],_=>rfl
 | k :: l,h=>by rw [Aaq,h k (by simp),ZP,R6 l fun j hj=>h j (Zb _ hj)]
theorem Jq (l:List Nat) (a m:Nat) (h:a+m<=l.length):((List.range m).map fun k=>a+k).filterMap (fun i=>l[i]?)=(l.drop a).take m:=by
 rw [List.filterMap_map,R6 (g:=fun k=>l.getD (a+k) 0)]
 ·refine AaU fun i=>?_
  rw [Y8,List.getElem?_take]
  by_cases hi:i < m
  ·rw [if_pos hi,Zi hi,AaA,YX (by omega)]
   simp [YX (show a+i < l.length by omega)]
  ·rw [if_neg hi,ZZ (by simp;omega)];rfl
 ·intro k hk
  have hk:=Zj.mp hk
  show l[a+k]?=_
  rw [YT,YX (by omega)];rfl
theorem yN (z:Str) (lo hi:Option Int):(Txt.slice z lo hi).cps.toList=(z.cps.toList.drop (HT.sIx z.length 0 lo)).take (HT.sIx z.length z.length hi - HT.sIx z.length 0 lo):=by
 have hn:z.cps.toList.length=z.length:=by simp [Str.length]
 have la:=HT.sIx_le z.length 0 (gV _) lo
 have lb:=HT.sIx_le z.length z.length (YZ _) hi
 unfold Txt.slice
 rw [QB]
 generalize HT.sIx z.length 0 lo=a at la ⊢
 generalize HT.sIx z.length z.length hi=b at lb ⊢
 split
 ·rename_i h
  simp at h
  have ha:a=0:=by
   rcases Nat.eq_zero_or_pos z.length with h0 | h0
   ·omega
   ·omega
  subst ha
  rw [List.drop_zero,Z9 (by omega)]
 ·show List.filterMap (fun x=>z.cps[x]?) _=_
  have e:(fun x:Nat=>z.cps[x]?)=fun x=>z.cps.toList[x]?:=by funext x;simp
  rw [e]
  by_cases h:a<=b
  ·exact Jq _ a (b - a) (by omega)
  ·rw [show b - a=0 by omega];simp
theorem Mz (z:Str) (k:Nat):(Txt.slice z none (some (k:Int))).cps.toList=z.cps.toList.take k:=by
 rw [yN,HT.sIx_none,HT.sIx_nat,List.drop_zero,Nat.sub_zero]
 have hn:z.cps.toList.length=z.length:=by simp [Str.length]
 by_cases h:k<=z.length
 ·rw [Nat.min_eq_left h]
 ·rw [Aa7 (by omega),Z9 (by omega),Z9 (by omega)]
theorem Ex (z:Str) (k:Nat):(Txt.slice z (some (k:Int)) none).cps.toList=z.cps.toList.drop k:=by
 rw [yN,HT.sIx_none,HT.sIx_nat]
 have hn:z.cps.toList.length=z.length:=by simp [Str.length]
 by_cases h:k<=z.length
 ·rw [Nat.min_eq_left h,Z9 (by rw [AaI];omega)]
 ·rw [Aa7 (by omega),AaL (by omega),AaL (by omega)];simp
theorem yO {xs:List V} {H:Hp} {R:Addr->Prop} (c:Nat.ble xs.length 64=true) (h:∀ p,H p=none->R p):xs.length<=sizeLine/\∀ p,H p=none->R p:=
 ⟨Zo (Nat.le_of_ble_eq_true c) (by decide),h⟩
theorem jW {A B:Prop} (h:A):if (!false)=true then A else B:=(if_pos (show (!false)=true from rfl)).mpr h
theorem jX {A B:Prop} (h:B):if (!true)=true then A else B:=by rw [if_neg (by simp)];exact h
theorem MF {t u:TS} {D:Ends} {U:St} {H:Hp} (M:St->Hp->Prop) (h1:∀ U H,M U H->u D U H) (h2:∀ N,(∀ U H,M U H->N U H)->t {D with nx:=N} U H):O9 t u D U H:=h2 _ h1
theorem Vq {α:Type} {xs:List α} {n:Nat} {v:α} (h:xs.length=n+1) (e:xs[n]?=some v):xF xs (-1)=some v:=by
 unfold xF J8
 rw [h,if_neg (by omega),if_pos (by omega)]
 show xs[((-1:Int)+((n+1:Nat):Int)).toNat]?=some v
 rw [show ((-1:Int)+((n+1:Nat):Int)).toNat=n by omega];exact e
end L2
namespace L2
open PySem PySem.Spec PyProof.Rows PySem.SeqAt
open AutoSeq1 (wpAny_loadPart')
end L2
namespace L2
open PySem PySem.Spec PyProof.Rows
def MJ:List V->Hp->VK->Prop:=fun xs H Q=>(∃ i j,xs=[.int i,.int j]/\Q (.int (if j > i then j else i)) H)\/∃ (p:Addr) (ns:List Int),xs=[.ref p]/\H p=some (.lst (ns.map V.int))/\ns≠[]/\∀ M,M∈ns->(∀ a∈ns,a<=M)->Q (.int M) H
section
variable {X:Cx}
theorem qt (hc:X.calm=true):CallR X (.builtin "max") MJ:=by
 intro pins s U H xs us Q I r h
 rcases h with h | ⟨p,ns,rfl,hp,hne,q⟩
 ·exact Ih hc pins s U H xs us Q I r h
 ·obtain ⟨u,rfl,ru⟩:=vals1 r
  cases ru
  obtain ⟨hz,its,n,rv,g⟩:=I.hok p _ hp
  have hi:IntsAre its ns:=intsAre_of rv
  have hl:=rv.length
  obtain ⟨ys,ey⟩:=hi.allInts.items
  have hn:=hi.numsOf
  have hsz:0 < ys.size:=by
   have e1:=congrArg Array.size ey
   have:0 < ns.length:=List.length_pos_iff.mpr hne
   rw [Zf] at hl
   simp [intItems] at e1
   omega
  have hL:s.heap.IsList p (intItems ys):=⟨_,g,rfl,n,by rw [← ey]⟩
  have en:ys.toList.map (·.1)=ns:=by rw [← nums_intItems,← ey,← hn]
  refine max_intList (I.ok.hd hc) hL hsz fun v h' tk hv hk=>?_
  obtain ⟨t,rfl⟩:=intItems_at hv
  obtain ⟨h1,h2⟩:=argBest_gt (numAt ys) (ys.size - 1)
  refine ⟨.int _,H,I.kept hk,⟨t,rfl⟩,q _ ?_ fun a ha=>?_⟩
  ·rw [← en,numAt_eq];exact getD_mem (by rw [Zf,Zx];omega)
  ·rw [← en] at ha
   obtain ⟨j,hj,rfl⟩:=mem_getD ha
   rw [Zf,Zx] at hj
   rw [← numAt_eq];exact h2 j (by omega)
theorem Vr {i:Nat} {x:Str} {e:Expr} {te:TE} {op:Operator} {r:R2} {pos pos':Pos} (hN:X.N.Nodup) (hi:X.N[i]?=some x) (hx:Loc X.env.scope x) (he:JE X e te) (ho:OpR X (inplaceOp op) r) (hf:X.fn x=true):
  JS X (.AugAssign (.Name x pos') op e pos) (TV i te r):=⟨TX hN hi hx he.run ho (.inl hf)⟩
end
section
variable {U:St} {H:Hp} {Q:VK} {D:Ends}
theorem GX {i:Nat} {te:TE} {r:R2} {v:V} (e:U[i]?=some (some v)) (h:te U H fun y H1=>r v y H1 fun z H2=>D.nx (U.set i (some z)) H2):TV i te r D U H:=⟨v,e,h⟩
theorem vQ {i j:Int} (h:Q (.int (if j > i then j else i)) H):MJ [.int i,.int j] H Q:=.inl ⟨i,j,rfl,h⟩
theorem Ey {p:Addr} {ns:List Int} (hp:H p=some (.lst (ns.map V.int))) (hn:ns≠[]) (h:∀ M,M∈ns->(∀ a∈ns,a<=M)->Q (.int M) H):MJ [.ref p] H Q:=.inr ⟨p,ns,rfl,hp,hn,h⟩
end
def X5 (K:W.Frag):R2:=fun x y H Q=>Qi K x y H Q\/∃ a o,y= .ref a/\DGet H a x o/\Q (.bl o.isSome) H
def QC (K:W.Frag):R2:=fun x y H Q=>zJ K x y H Q\/∃ a o,y= .ref a/\DGet H a x o/\Q (.bl (!o.isSome)) H
def rn:Dz:=fun o i v H R=>K4 o i v H R\/∃ a H4,o= .ref a/\DPut H a i v H4/\R H4
def MK:V->List V->Hp->VK->Prop:=fun x vs H Q=>∃ (l:Addr) (ns:List Int) (k:Int),x= .ref l/\vs=[.int k]/\H l=some (.lst (ns.map V.int))/\ns.length<=1000/\(∀ x∈ns,0<=x/\x < 1000)/\k∈ns/\Q (.int (ns.idxOf k:Nat)) H
theorem vf:∀ {ns:List Int},(∀ x∈ns,0<=x/\x < 1000)->PyData.weightAll (ns.map PyData.int)<=12*ns.length/\PyData.canLayAll0 (ns.map PyData.int)=true/\PyData.depthAll (ns.map PyData.int)=0
 | [],_=>⟨by simp [PyData.weightAll],rfl,by simp [PyData.depthAll]⟩
 | n :: ns,h=>by
  obtain ⟨a,b,c⟩:=vf fun x hx=>h x (Zb _ hx)
  have hn:=h n (by simp)
  have hw:PyData.weight (.int n)<=11:=by
   rw [PyData.weight]
   split
   ·omega
   ·rename_i h0
    have h1:n.natAbs≠0:=fun z=>h0 (by simp;omega)
    have:n.natAbs.log2 < 10:=(Nat.log2_lt h1).mpr (by omega)
    omega
  rw [ZP,PyData.weightAll,PyData.canLayAll0,PyData.depthAll,b,c]
  refine ⟨by simp;omega,by simp [PyData.canLay0],by simp [PyData.depth]⟩
theorem zZ {ns:List Int} (hl:ns.length<=1000) (h:∀ x∈ns,0<=x/\x < 1000):PyData.layable0 (.list (ns.map PyData.int))=true:=by
 obtain ⟨a,b,c⟩:=vf h
 unfold PyData.layable0
 rw [PyData.canLay0,b,PyData.depth,c,PyData.weight,Y7 (show 0+1<=64 by omega),Y7 (show PyData.weightAll (ns.map PyData.int)<=2 ^ 20 by omega)]
 rfl
def wJ (n0:List V->Hp->(Int->Int->Nat->Prop)->Prop) (ta:TA):TE:=fun U H Q=>ta U H fun vs H1=>n0 vs H1 fun lo c n=>∀ q,H1 q=none->Q (.ref q) (upd H1 q (.lst ((List.range n).map fun i:Nat=>V.int (lo+(i:Int)*c))))
def X6:List V->Hp->(Int->Int->Nat->Prop)->Prop:=fun vs _ R=>∃ n:Nat,vs=[.int n]/\n<=1000000/\R 0 1 n
theorem Jr {lo c:Int} {n:Nat} {acc:Array Value} (h:ItemsOf (fun i v=>∃ t,v= .int (lo+i*c) t) acc n):Vals ((List.range n).map fun i:Nat=>V.int (lo+(i:Int)*c)) acc.toList:=by
 obtain ⟨h1,h2⟩:=h
 have key:∀ (k:Nat) (a:List Value) (b:Nat),a.length=k->(∀ (j:Nat) (v:Value),a[j]?=some v->∃ t,v= .int (lo+((b+j:Nat):Int)*c) t)->Vals ((List.range' b k).map fun i:Nat=>V.int (lo+(i:Int)*c)) a:=by
  intro k
  induction k with
  | zero=>intro a b hl _;cases a with
   | nil=>exact .nil
   | cons _ _=>simp at hl
  | succ k ih=>
   intro a b hl hh
   cases a with
   | nil=>simp at hl
   | cons v a=>
    obtain ⟨t,e⟩:=hh 0 v (by simp)
    rw [List.range'_succ,ZP]
    refine .cons ⟨t,by simpa using e⟩ (ih a (b+1) (by simpa using hl) fun j v' e=>?_)
    obtain ⟨t,e⟩:=hh (j+1) v' (by simpa using e)
    exact ⟨t,by rw [e];congr 3;omega⟩
 rw [List.range_eq_range']
 refine key n acc.toList 0 (by simpa using h1) fun j v e=>?_
 obtain ⟨t,e⟩:=h2 j v (by simpa using e)
 exact ⟨t,by rw [e];congr 3;simp⟩
section
variable {X:Cx}
theorem Cp:WX X "list.index" MK:=by
 intro pins s U H x xs v us Q I rx r h
 obtain ⟨l,ns,k,rfl,rfl,hl,hn,hb,hk,q⟩:=h
 obtain ⟨u,rfl,t,rfl⟩:=vals1 r
 cases rx
 obtain ⟨hz,its,n,rv,g⟩:=I.hok l _ hl
 exact index_list_ints (vs:=its) ⟨_,g,rfl,n,rfl⟩ (intsAre_of rv) (zZ hn hb) hk ⟨.int _,H,I.tok _,⟨_,rfl⟩,q⟩
theorem tV {pins:List (Addr×Obj)} {U:St} {H1:Hp} {s1:Shared} {Q:VK} {E:Value->Shared->Prop} {lo hi c:Int} {t u v:Tok} {tk n:Nat} (hc:X.calm=true) (I1:Inv X pins U H1 s1) (hs:Builtin.Range.small lo hi c=true) (hn:Builtin.Range.rangeSize lo hi c=(n:Int)) (hl:n<=1000000)
  (q:∀ q,H1 q=none->Q (.ref q) (upd H1 q (.lst ((List.range n).map fun i:Nat=>V.int (lo+(i:Int)*c))))):
  wpAny (model X.prog X.w) X.A (call (.type "list") [.ref s1.heap.objs.size]) (EP X pins U Q) E {s1 with heap:=s1.heap.push {cls:=.type "range",data:=.fields #[.int lo t,.int hi u,.int c v]},toks:=tk}:=by
 have I2:Inv X pins U H1 {s1 with heap:=s1.heap.push {cls:=.type "range",data:=.fields #[.int lo t,.int hi u,.int c v]},toks:=tk}:=I1.kept fun b o e=>YW _ e
 refine call_list_range (n:=n) (I1.ok.hd hc) (IsRange.new ..) hs hn (by omega) fun h' tk' acc' c' hk hS hacc=>?_
 have hsl:n<=sizeLine:=Zo hl (by decide)
 exact ⟨.ref _,_,I2.laid (t':=tk') (o:=.lst ((List.range n).map fun i:Nat=>V.int (lo+(i:Int)*c))) hk (YZ _) ⟨by simpa using hsl,acc'.toList,c',Jr hacc,by simpa using hS⟩,rfl,q _ I2.fresh⟩
theorem Ez {a:Expr} {ta:TA} {p p2 p3 pos:Pos} (hc:X.calm=true) (hg:Gl X "list") (hm:X.mg "list"=none) (hg2:Gl X "range") (hm2:X.mg "range"=none) (ha:JA X [a] ta) (h:autoParam (notStar a=true) L2.auto4._auto_1):
  JE X (.Call (.Name "list" p) [.Call (.Name "range" p2) [a] [] p3] [] pos) (wJ X6 ta):=⟨by
 intro pins s U H Q I hq
 refine ZK (ig I hg hm j4 (Zq (arg1 rfl (ZK (ig I hg2 hm2 boot_range (Zq (bV (ha.run p3 pins s U H _ I hq) fun us s1 qq0=>?_) (bF h) rfl)))) rfl rfl))
 obtain ⟨vs,H1,I1,r1,q1⟩:=qq0
 obtain ⟨n,rfl,hn,q⟩:=q1
 obtain ⟨u,rfl,t,rfl⟩:=vals1 r1
 exact call_range_1 (tV hc I1 (small_one (by omega) (by omega) (by omega) (by omega)) (by rw [rangeSize_one];split <;> omega) hn q)⟩
theorem MN {K:W.Frag} (hK:X.K=K) (hu:X.A.units+64 < cLine):OpR X (compareOp .In) (X5 K):=(Ej hK).or (by
 intro pins s U H x y v u Q I rx ry h
 obtain ⟨a,o,rfl,g,q⟩:=h
 obtain rfl:u=Value.ref a:=ry
 exact d_in (by omega) I g rx fun s3 I3=>⟨.bl o.isSome,H,I3,rfl,q⟩)
theorem Js {K:W.Frag} (hK:X.K=K) (hu:X.A.units+64 < cLine):OpR X (compareOp .NotIn) (QC K):=(Ja hK).or (by
 intro pins s U H x y v u Q I rx ry h
 obtain ⟨a,o,rfl,g,q⟩:=h
 obtain rfl:u=Value.ref a:=ry
 exact Qe (by omega) I g rx fun s3 I3=>⟨.bl (!o.isSome),H,I3,rfl,q⟩)
theorem lQ (hu:X.A.units+64 < cLine):Ph X rn:=by
 intro pins s U H o i v ov iv u Q I ro ri rv h
 rcases h with h | ⟨a,H4,rfl,g,q⟩
 ·exact set_list pins s U H o i v ov iv u Q I ro ri rv h
 ·obtain rfl:ov=Value.ref a:=ro
  exact Iz (by omega) I g ri rv fun s4 I4=>⟨H4,I4,q⟩
end
section
variable {U:St} {H:Hp} {Q:VK} {K:W.Frag}
theorem iy {n0:List V->Hp->(Int->Int->Nat->Prop)->Prop} {ta:TA} (h:ta U H fun vs H1=>n0 vs H1 fun lo c n=>∀ q,H1 q=none->Q (.ref q) (upd H1 q (.lst ((List.range n).map fun i:Nat=>V.int (lo+(i:Int)*c))))):wJ n0 ta U H Q:=h
theorem QD {n:Nat} {R:Int->Int->Nat->Prop} (hn:n<=1000000) (h:R 0 1 n):X6 [.int n] H R:=⟨n,rfl,hn,h⟩
theorem GZ {l:Addr} {ns:List Int} {k:Int} (hl:H l=some (.lst (ns.map V.int))) (hn:ns.length<=1000) (hb:∀ x∈ns,0<=x/\x < 1000) (hk:k∈ns) (h:Q (.int (ns.idxOf k:Nat)) H):MK (.ref l) [.int k] H Q:=⟨l,ns,k,rfl,rfl,hl,hn,hb,hk,h⟩
theorem iz {x y:Str} (h:Q (.bl (!(Builtin.Str.occurrences y x 0 y.length 1).isEmpty)) H):X5 K (.str x) (.str y) H Q:=.inl (jl h)
theorem qu {p:Addr} {xs:List V} {i:Int} {n:Nat} {v:V} {R:Hp->Prop} (hp:H p=some (.lst xs)) (e:J8 xs.length i=some n) (h:R (upd H p (.lst (xs.set n v)))):rn (.ref p) (.int i) v H R:=.inl (dG hp e h)
end
end L2
namespace L2
open PySem PySem.Spec PyProof.Rows
open PySem.Sem (wp)
open PySem.AutoSeq1 (wpAny_loadPart')
end L2
namespace L2
open PySem PySem.Spec PyProof.Rows
end L2
namespace L2
open PySem PySem.Spec PyProof.Rows
open PySem.Sem (wp)
open PySem.AutoSeq1 (wpAny_loadPart')
end L2
namespace L2
open PySem PySem.Spec PyProof.Rows
end L2
namespace L2
open PySem PySem.Spec PyProof.Rows
open PySem.Sem (wp)
end L2
namespace L2
open PySem PySem.Spec PyProof.Rows
end L2
namespace L2
open PySem PySem.Spec PyProof.Rows
open PySem.Sem (wp)
end L2
namespace L2
open PySem PySem.Spec PyProof.Rows
open PySem.Sem (wp)
open AutoSeq1 (wpAny_loadPart')
end L2
namespace L2
open PySem PySem.W PySem.Spec PyProof.Rows
end L2
namespace L2
open PySem PySem.Spec PyProof.Rows
open PySem.Sem (wp)
end L2
namespace L2
open PySem PySem.Spec PyProof.Rows
open PySem.Sem (wp)
open PySem.AutoSeq1 (wpAny_loadPart')
end L2
namespace L2
open PySem PySem.Spec PyProof.Rows
open PySem.Sem (wp)
end L2
namespace L2
open PySem PySem.Spec PyProof.Rows
def Wq (K:W.Frag) (a:Addr) (n:Nat):It:=
 ⟨fun i H=>i < n/\∃ xs,SqL K H a xs/\xs.length=n,
  fun i H v H'=>H'=H/\∀ xs,SqL K H a xs->xs[n - 1 - i]?=some v,
  fun i _=>i=n⟩
theorem MP {P:Program} {w:World} {K:W.Frag} {tg:Expr} {n:Nat} {it a:Addr} (hai:a≠it):
  Turn P w K tg (Wq K a n) [it] it (fun i h=>i<=n/\h.IsRevIter it a ((n:Int) - 1 - (i:Int))) where
 mem:=by simp
 obj:=fun i h st c hc=>by
  obtain ⟨_,⟨o1,e1,c1,d1⟩⟩:=st
  have e:c=it:=by simpa using hc
  subst e
  exact ⟨_,e1,fun v z=>by rw [d1] at z;cases z⟩
 keep:=fun i h h' st kk=>⟨st.1,st.2.at fun o q=>kk it (by simp) o q⟩
 item:=by
  intro X hP hw hK hc i pins s U H E I hf st hg
  subst hP hw hK
  obtain ⟨hi,h1⟩:=st
  obtain ⟨hlt,xs,hq,hlen⟩:=hg
  obtain ⟨its,rv,p,_⟩:=I.list hq
  have l1:=rv.length
  obtain ⟨x,hx⟩:∃ x,xs[n - 1 - i]?=some x:=⟨_,YX (by omega)⟩
  obtain ⟨u,hu,ru⟩:=rv.get hx
  obtain ⟨f0,f1,f2,f3,f4,f5⟩:=hf it (by simp)
  have e:(n:Int) - 1 - (i:Int)=((n - 1 - i:Nat):Int):=by omega
  rw [e] at h1
  refine wpAny_pyNext_rev_item h1 p.isList (x:=u) (by simpa using hu) fun h' st' sb=>?_
  have I1:Inv X pins U H {s with heap:=h'}:=I.turned (t':=s.toks) (fun b o hb e=>(sb.2 b hb).trans e) f0 f1 f3 f4 f5
  obtain ⟨o,eo,c,d⟩:=id st'
  refine ⟨u,rfl,yf (s:={s with heap:=h'}) eo c d (by decide) ⟨x,H,I1,ru,⟨rfl,fun ys hy=>by rw [I.list_inj hy hq];exact hx⟩,⟨hlt,?_⟩,fun b hb=>(hf b hb).1⟩⟩
  have e2:((n - 1 - i:Nat):Int) - 1=(n:Int) - 1 - ((i+1:Nat):Int):=by omega
  rw [← e2]
  exact st'
 done:=by
  intro X hP hw hK hc i pins s U H E I hf st hg
  subst hP hw hK
  obtain ⟨hi,h1⟩:=st
  have hin:i=n:=hg
  subst hin
  rw [show (i:Int) - 1 - (i:Int)= -1 by omega] at h1
  obtain ⟨f0,f1,f2,f3,f4,f5⟩:=hf it (by simp)
  exact wpAny_pyNext_rev_end (I.ok.hd hc) h1 fun h' eb=>⟨rfl,I.turned (t':=s.toks) (fun b o hb e=>eb b o hb e) f0 f1 f3 f4 f5⟩
 self:=fun _ _ _ _ _ st h=>wpAny_pyIter_revIter st.2 h
structure iK (K:W.Frag) (mg:Str->Option Value) (x:Str):Prop where
 at_:mg x=some (.ref (aL mg x))
 cl:Cls K (aL mg x)
 makes:PySem.W.makesIn K (aL mg x)=true
 kp:PySem.W.keepIn K (.ref (aL mg x))=true
def clsIn (K:W.Frag) (C:Addr):Bool:=PySem.W.plainGet K C Str.empty && PySem.W.hasDictIn K C && PySem.W.plainOver K C
theorem vg {K:W.Frag} {mg:Str->Option Value} {h:Heap} (X:K.In h) (G:h.Ns mainGlobals mg) {x:Str} {C:Addr} (a:PySem.W.nsIn K mainGlobals x=some (some (.ref C))) (b:clsIn K C=true)
  (s:PySem.W.findIn K (.ref C) "__setattr__"=some (some (.builtin "object.__setattr__"))) (m:PySem.W.makesIn K C=true) (k:PySem.W.keepIn K (.ref C)=true):iK K mg x:=by
 have e0:=ZQ X G a
 have e:=cJ e0
 unfold clsIn at b
 simp only [Ze] at b
 exact ⟨by rw [e];exact e0,by rw [e];exact ⟨b.1.1,b.1.2,b.2,s⟩,by rw [e];exact m,by rw [e];exact k⟩
structure dX (K:W.Frag) (mg:Str->Option Value) (x m qual:Str) (st:Stmt):Prop where
 ex:∃ f fd,Meth K (aL mg x) m f/\Fun K m qual st f fd
theorem jY {K:W.Frag} {mg:Str->Option Value} {h:Heap} (X:K.In h) (G:h.Ns mainGlobals mg) {x m qual:Str} {C f:Addr} {st:Stmt} {oc:Value} {od an:Option Addr} {osl:Array (Option Value)} {kV doc pm cdv ct:Value}
  (a:PySem.W.nsIn K mainGlobals x=some (some (.ref C))) (i:PySem.W.findIn K (.ref C) m=some (some (.ref f))) (n:PySem.W.isFn K (.ref f)=true)
  (l:K.lookup f=some ⟨oc,od,.func (PySem.W.fnOf m qual (cu st) (bC st) (az st) .none kV doc pm an cdv ct),osl⟩) (c:PySem.W.codeIn K cdv qual=true) (k:PySem.W.keepIn K (.ref f)=true):dX K mg x m qual st:=by
 have e:=cJ (ZQ X G a)
 exact ⟨f,_,by rw [e];exact ⟨i,n,k⟩,wj l c k⟩
theorem vh {K:W.Frag} {mg:Str->Option Value} {h:Heap} (X:K.In h) (G:h.Ns mainGlobals mg) {x:Str} {C:Addr} {fl:List Str} (a:PySem.W.nsIn K mainGlobals x=some (some (.ref C))) (b:Ms K C fl=true):∀ f∈fl,NoAttr K (aL mg x) f:=fun n hn=>by
 rw [cJ (ZQ X G a)]
 have:=Aaf.mp b n hn
 first | exact AaV this | exact Aal.mp this | simpa using this
def gr (j:Nat):Stmt->Stmt
 | .ClassDef _ _ _ ss _ _ _ _ _ _ _=>ss.getD j (.Pass ⟨0,0,0,0⟩)
 | s=>s
def kY (P:Program) (w:World) (K:W.Frag) (mg:Str->Option Value) (base:Heap) (k:Nat) (x m:Str) (ps:List Str) (sp:Sp):Prop:=
 ∃ f fd,Meth K (aL mg x) m f/\Binds K fd ps []/\FnOk P w K mg base (Jh P w) k f fd ps sp
section
variable {P:Program} {w:World} {K:W.Frag} {mg:Str->Option Value} {base:Heap}
theorem qW {x m qual:Str} {st:Stmt} {N ps:List Str} {k:Nat} {sp:Sp} (D:dX K mg x m qual st) (S:aC N ps (az st))
  (hb:∀ (kV doc pm:Value) (an:Option Addr) (cdv ct:Value) (us:List Value),us.length=ps.length->bindArgs (PySem.W.fnOf m qual (cu st) (bC st) (az st) .none kV doc pm an cdv ct) ⟨us,[]⟩=pure (ps.zip us))
  (len:∀ vs H Q E,sp vs H Q E->vs.length=ps.length)
  (hbody:∀ (f:Addr) (cdv:Value) (A:Around) (outer:List Env) (s:Shared) (H:Hp) (vs:List V) (Q:VK) (E:XK),Room k (A.deeper (envOfC qual (az st) s.heap.objs.size f cdv))->sp vs H Q E->
   ∃ t,JB (o5 (Jh P w) P w K mg base N qual (az st) f cdv A outer s H E) (bC st) t/\t {nx:=fun _ H'=>Q .non H',rt:=Q} (start N vs) H):kY P w K mg base (k+1) x m ps sp:=by
 obtain ⟨f,fd,hm,F⟩:=D.ex
 refine ⟨f,fd,hm,F.binds hb,?_⟩
 obtain ⟨oc,od,kV,doc,pm,an,cdv,ct,osl,rfl,lk,hcd⟩:=F.ex
 exact Bp lk hcd S len fun A outer s H vs Q E hr h=>let ⟨t,j,q⟩:=hbody f cdv A outer s H vs Q E hr h;⟨t,j.run,q⟩
end
def z6 (C:Addr) (m:Str) (sp:Sp) (R:St->XK) (ta:TE) (t:TA):TE:=fun U H Q=>ta U H fun x H1=>∃ a dx fs,x= .ref a/\H1 a=some (.ins C dx fs)/\fs.lookup m=none/\t U H1 fun vs H2=>sp (x :: vs) H2 Q (R U)
def EY (C:Addr) (sp:Sp) (R:St->XK) (t:TA):TE:=fun U H Q=>t U H fun vs H1=>∀ x dx,H1 x=none->H1 dx=none->dx≠x->
 sp (.ref x :: vs) (upd (upd H1 dx (.own x)) x (.ins C dx [])) (fun v H2=>v= .non/\Q (.ref x) H2) (R U)
section
variable {X:Cx} {K:W.Frag} {k:Nat} {f C:Addr} {ps:List Str} {sp:Sp} {R:St->XK} {x m fn:Str} {p pos apos pos':Pos} {e o value:Expr} {es:List Expr} {ta tv:TE} {t:TA} {pins:List (Addr×Obj)} {U:St} {H:Hp} {s:Shared} {Q:VK} {us:List Value} {vs:List V}
theorem lR {pl:Sem Bool} (he:JE X o ta) (c:iK X.K X.mg x) (F:kY X.prog X.w X.K X.mg X.base k x m ps sp) (hr:Room k X.A) (hx:jn X R) (ha:JA X (e :: es) t)
  (hs:autoParam ((e :: es).all notStar=true) L2.auto4._auto_1)
  (ht:eval (.Call (.Attribute o m apos) (e :: es) [] pos) X.env=(do
   let ov ← eval o X.env
   standAt apos.atName
   let (f,first) ← holding [ov] (getMethod ov m pl)
   callWith pos f first (backTo pos (starEach (e :: es) X.env)) (backToKw pos (keywordEach [] X.env))):=by rfl):
  JE X (.Call (.Attribute o m apos) (e :: es) [] pos) (z6 (aL X.mg x) m sp R ta t):=⟨by
 have h1:notStar e=true:=by simp only [ZG,Ze] at hs;exact hs.1
 have h2:es.all notStar=true:=by simp only [ZG,Ze] at hs;exact hs.2
 obtain ⟨f,fd,hm,hb,F⟩:=F
 intro pins s U H Q I h
 refine AaS (pl:=pl) (bV (he.run pins s U H _ I h) fun u s1 qq0=>?_) ht
 obtain ⟨x,H1,I1,rx,a,dx,fs,ex,ea,l,q⟩:=qq0
 subst ex
 obtain rfl:u=Value.ref a:=rx
 refine rH I1 ea c.cl hm l ?_
 refine Aay (first:=[.ref a]) (h₀:=X.base) I.ok.mod.kin hm.kp (bV (ha.run pos pins s1 U H1 _ I1 q) fun us s2 ⟨vs,H2,I2,r,q2⟩=>⟨I2.kIn,?_⟩) (bF h1) (mq h2)
 exact tQ (us:=.ref a :: us) (vs:=.ref a :: vs) F hr hb hx I2 (.cons rfl r) q2⟩
theorem tW {pl:Sem Bool} (he:JE X o ta) (c:iK X.K X.mg x) (F:kY X.prog X.w X.K X.mg X.base k x m ps sp) (hr:Room k X.A) (hx:jn X R)
  (ht:eval (.Call (.Attribute o m apos) [] [] pos) X.env=(do
   let ov ← eval o X.env
   standAt apos.atName
   let (f,first) ← holding [ov] (getMethod ov m pl)
   callWith pos f first (backTo pos (starEach [] X.env)) (backToKw pos (keywordEach [] X.env))):=by rfl):
  JE X (.Call (.Attribute o m apos) [] [] pos) (z6 (aL X.mg x) m sp R ta KR):=⟨by
 obtain ⟨f,fd,hm,hb,F⟩:=F
 intro pins s U H Q I h
 refine AaS (pl:=pl) (bV (he.run pins s U H _ I h) fun u s1 qq0=>?_) ht
 obtain ⟨x,H1,I1,rx,a,dx,fs,ex,ea,l,q⟩:=qq0
 subst ex
 obtain rfl:u=Value.ref a:=rx
 refine rH I1 ea c.cl hm l ?_
 exact PySem.W.callWith_K0 (first:=[.ref a]) I1.kIn hm.kp (tQ (us:=[.ref a]) (vs:=[.ref a]) F hr hb hx I1 (.cons rfl .nil) q)⟩
theorem Jt (c:iK X.K X.mg x) (F:kY X.prog X.w X.K X.mg X.base k x "__init__" ps sp) (hr:Room (k+1) X.A) (hx:jn X R) (I:Inv X pins U H s) (r:Vals vs us)
  (h:∀ y dx,H y=none->H dx=none->dx≠y->sp (.ref y :: vs) (upd (upd H dx (.own y)) y (.ins (aL X.mg x) dx [])) (fun v H2=>v= .non/\Q (.ref y) H2) (R U)):
  wpAny (model X.prog X.w) X.A (call (.ref (aL X.mg x)) us) (EP X pins U Q) X.xe s:=by
 obtain ⟨f,fd,hm,hb,F⟩:=F
 have hq:=h (s.heap.objs.size+1) s.heap.objs.size (I.hok.fresh (Nat.le_succ _)) (I.hok.fresh (YZ _)) (Zr (Aau _))
 have I2:=Inv.made (C:=aL X.mg x) I
 have r2:Vals (V.ref (s.heap.objs.size+1) :: vs) (Value.ref (s.heap.objs.size+1) :: us):=.cons rfl r
 have hl:((Value.ref (s.heap.objs.size+1) :: us) ++ []).length=ps.length:=by
  have e:=r2.length
  rw [F.len _ _ _ _ hq] at e
  rw [ZJ]
  exact e.symm
 have bd:=hb _ (Value.ref (s.heap.objs.size+1) :: us) I2.kIn hl
 rw [ZJ] at bd
 refine AaY (KQ (f:=f) I.kIn c.makes hm.at_ (Aal.mp hm.fn) (codeAny_mono (F.run _ X.stack _ _ ⟨Value.ref (s.heap.objs.size+1) :: us,[]⟩ (Value.ref (s.heap.objs.size+1) :: us) _ _ (R U) (hr.make (aL X.mg x) us [])
  (I2.env0.make (aL X.mg x) us []) bd r2 hq) fun r s' hq'=>?_))
 cases r with
 | error e=>exact hx pins e s' (Gy I2 hq')
 | ok fl=>
  cases fl with
  | ret u=>
   obtain ⟨v,H',I3,rv,ev,q3⟩:=I2.after hq'
   subst ev
   exact ⟨rv,⟨V.ref (s.heap.objs.size+1),H',I3,rfl,q3⟩⟩
  | next=>exact False.elim hq'
  | brk=>exact False.elim hq'
  | cont=>exact False.elim hq'
theorem lU (c:iK X.K X.mg x) (F:kY X.prog X.w X.K X.mg X.base k x "__init__" ps sp) (hr:Room (k+1) X.A) (hg:Gl X x) (hx:jn X R) (ha:JA X (e :: es) t) (hdb:(x == ("__debug__":Str))=false) (h:autoParam ((e :: es).all notStar=true) L2.auto4._auto_1):
  JE X (.Call (.Name x p) (e :: es) [] pos) (EY (aL X.mg x) sp R t):=⟨by
 have h1:notStar e=true:=by simp only [ZG,Ze] at h;exact h.1
 have h2:es.all notStar=true:=by simp only [ZG,Ze] at h;exact h.2
 intro pins s U H Q I h
 refine ZK (lJ I hg c.at_ ?_ hdb)
 refine Aay (h₀:=X.base) I.ok.mod.kin c.kp (bV (ha.run pos pins s U H _ I h) fun us s1 ⟨vs,H1,I1,r,q⟩=>⟨I1.kIn,?_⟩) (bF h1) (mq h2)
 exact Jt c F hr hx I1 r q⟩
theorem jZ (hK:X.K=K) (he:JE X e ta) (h:autoParam (tK e=true) L2.auto4._auto_1):JE X (.Attribute e fn pos) (Ua K ta fn):=by
 subst hK
 exact ⟨Uc he.run (by cases e <;> first | rfl | cases h)⟩
theorem iT (hK:X.K=K) (ha:JE X o ta) (hv:JE X value tv) (h:autoParam (lM value=true) L2.auto4._auto_1):JS X (.Assign [.Attribute o fn pos'] value pos) (Ub K ta tv fn):=by
 subst hK
 exact ⟨Ud ha.run hv.run (BR h)⟩
end
section
variable {U:St} {H:Hp} {D:Ends} {Q:VK} {sp:Sp} {R:St->XK} {a:TA} {K:W.Frag} {C:Addr} {ta tv:TE} {f m:Str}
theorem cQ (h:ta U H fun x H1=>∃ b dx fs,x= .ref b/\H1 b=some (.ins C dx fs)/\fs.lookup m=none/\a U H1 fun vs H2=>sp (x :: vs) H2 Q (R U)):z6 C m sp R ta a U H Q:=h
theorem cR (h:a U H fun vs H1=>∀ x dx,H1 x=none->H1 dx=none->dx≠x->sp (.ref x :: vs) (upd (upd H1 dx (.own x)) x (.ins C dx [])) (fun v H2=>v= .non/\Q (.ref x) H2) (R U)):EY C sp R a U H Q:=h
theorem j0 (h:ta U H fun x H1=>∃ a C dx fs v,x= .ref a/\H1 a=some (.ins C dx fs)/\Cls K C/\NoAttr K C f/\fs.lookup f=some v/\Q v H1):Ua K ta f U H Q:=h
theorem gb (h:tv U H fun y H1=>ta U H1 fun x H2=>∃ a C dx fs,x= .ref a/\H2 a=some (.ins C dx fs)/\Cls K C/\NoAttr K C f/\fs.length < 1000/\D.nx U (upd H2 a (.ins C dx (kj f y fs)))):Ub K ta tv f D U H:=h
end
section
variable {X:Cx} {mg:Str->Option Value} {o:Expr} {ta:TE} {t:TA} {x m:Str} {ps:List Str} {sp:Sp} {k:Nat} {R:St->XK} {e:Expr} {es:List Expr} {pos apos:Pos}
theorem pC {pl:Sem Bool} (hmg:X.mg=mg) (he:JE X o ta) (c:iK X.K X.mg x) (F:kY X.prog X.w X.K X.mg X.base k x m ps sp) (hr:Room k X.A) (hx:jn X R) (ha:JA X (e :: es) t)
  (hs:autoParam ((e :: es).all notStar=true) L2.auto4._auto_1)
  (ht:eval (.Call (.Attribute o m apos) (e :: es) [] pos) X.env=(do
   let ov ← eval o X.env
   standAt apos.atName
   let (f,first) ← holding [ov] (getMethod ov m pl)
   callWith pos f first (backTo pos (starEach (e :: es) X.env)) (backToKw pos (keywordEach [] X.env))):=by rfl):
  JE X (.Call (.Attribute o m apos) (e :: es) [] pos) (z6 (aL mg x) m sp R ta t):=by
 subst hmg
 exact lR he c F hr hx ha hs ht
theorem M6 {p:Pos} (hmg:X.mg=mg) (c:iK X.K X.mg x) (F:kY X.prog X.w X.K X.mg X.base k x "__init__" ps sp) (hr:Room (k+1) X.A) (hg:Gl X x) (hx:jn X R) (ha:JA X (e :: es) t) (hdb:(x == ("__debug__":Str))=false) (h:autoParam ((e :: es).all notStar=true) L2.auto4._auto_1):
  JE X (.Call (.Name x p) (e :: es) [] pos) (EY (aL mg x) sp R t):=by
 subst hmg
 exact lU c F hr hg hx ha hdb h
end
section
variable {U:St} {H:Hp} {Q:VK}
def Vs (o:HO) (n:Nat) (H:Hp) (Q:VK):Prop:=n<=sizeLine/\∀ p,H p=none->Q (.ref p) (upd H p o)
theorem mz {a:TA} (h:a U H fun xs H1=>Vs (.lst xs) xs.length H1 Q):PP a U H Q:=h
theorem mC {a:TA} (h:a U H fun xs H1=>Vs (.tup xs) xs.length H1 Q):PN a U H Q:=h
theorem cG {o:HO} {n:Nat} (c:Nat.ble n 64=true) (h:∀ p H',H p=none->Same H H'->H' p=some o->Q (.ref p) H'):Vs o n H Q:=
 ⟨Zo (Nat.le_of_ble_eq_true c) (by decide),fun p np=>h p _ np ((Same.refl H).upd np) aq⟩
end
section
variable {sub:List (Option Nat)} {g:TG} {tt:TT} {te:TE} {U:St} {Q:VK} {H:Hp} {K:W.Frag} {a:Addr} {xs:List V} {lo:Int} {n:Nat} {z:Str}
theorem yP (Pv:Nat->List V->Hp->Prop) (hn:n<=sizeLine) (h0:Pv 0 [] H) (hl:∀ i ys H,Pv i ys H->ys.length<=i)
  (hs:∀ i ys H,i < n->Pv i ys H->g (.int (lo+i)) (bR sub U) H fun σ2 H2=>KeepSt (bR sub U) σ2/\tt σ2 H2 fun b H3=>if b=true then te σ2 H3 fun y H4=>Pv (i+1) (ys ++ [y]) H4 else Pv (i+1) ys H3)
  (hd:∀ ys H D H',Pv n ys H->H D=none->Same H H'->H' D=some (.lst ys)->Q (.ref D) H'):rm sub g tt te U Q (J7 lo n) H:=
 Ls Pv hn h0 hl hs fun ys H p D nD=>hd ys H D _ p nD ((Same.refl H).upd nD) aq
theorem nO (Pv:Nat->List V->Hp->Prop) (hn:xs.length<=sizeLine) (h0:Pv 0 [] H) (hl:∀ i ys H,Pv i ys H->ys.length<=i) (hq:∀ i ys H,Pv i ys H->SqL K H a xs)
  (hs:∀ i ys H x,xs[i]?=some x->Pv i ys H->g x (bR sub U) H fun σ2 H2=>KeepSt (bR sub U) σ2/\tt σ2 H2 fun b H3=>if b=true then te σ2 H3 fun y H4=>Pv (i+1) (ys ++ [y]) H4 else Pv (i+1) ys H3)
  (hd:∀ ys H D H',Pv xs.length ys H->H D=none->Same H H'->H' D=some (.lst ys)->Q (.ref D) H'):rm sub g tt te U Q (Pq K a) H:=
 Jc Pv hn h0 hl hq hs fun ys H p D nD=>hd ys H D _ p nD ((Same.refl H).upd nD) aq
theorem uF (Pv:Nat->List V->Hp->Prop) (hn:z.cps.size<=sizeLine) (h0:Pv 0 [] H) (hl:∀ i ys H,Pv i ys H->ys.length<=i)
  (hs:∀ i ys H c,z.cps.toList[i]?=some c->Pv i ys H->g (.str ⟨#[c]⟩) (bR sub U) H fun σ2 H2=>KeepSt (bR sub U) σ2/\tt σ2 H2 fun b H3=>if b=true then te σ2 H3 fun y H4=>Pv (i+1) (ys ++ [y]) H4 else Pv (i+1) ys H3)
  (hd:∀ ys H D H',Pv z.cps.size ys H->H D=none->Same H H'->H' D=some (.lst ys)->Q (.ref D) H'):rm sub g tt te U Q (Qh z) H:=
 BX Pv hn h0 hl hs fun ys H p D nD=>hd ys H D _ p nD ((Same.refl H).upd nD) aq
theorem nP {f:Nat->V} {i:Nat} {y:V} (h:y=f i):(List.range i).map f ++ [y]=(List.range (i+1)).map f:=by rw [h,AaQ,Zy];rfl
theorem qw (f:Nat->V) (hn:n<=sizeLine)
  (hs:∀ i,i < n->g (.int (lo+i)) (bR sub U) H fun σ2 H2=>KeepSt (bR sub U) σ2/\tt σ2 H2 fun b H3=>if b=true then te σ2 H3 fun y H4=>H4=H/\(List.range i).map f ++ [y]=(List.range (i+1)).map f else H3=H/\(List.range i).map f=(List.range (i+1)).map f)
  (hd:∀ D H',H D=none->Same H H'->H' D=some (.lst ((List.range n).map f))->Q (.ref D) H'):rm sub g tt te U Q (J7 lo n) H:=by
 refine yP (fun i ys H'=>H'=H/\ys=(List.range i).map f) hn ⟨rfl,rfl⟩ ?_ ?_ ?_
 ·rintro i ys H' ⟨_,rfl⟩
  simp
 ·rintro i ys H' hi ⟨rfl,rfl⟩
  exact hs i hi
 ·rintro ys H1 D H' ⟨rfl,rfl⟩ nD s e
  exact hd D H' nD s e
theorem Fb (f:Nat->V) (hn:xs.length<=sizeLine) (hq:SqL K H a xs)
  (hs:∀ i x,xs[i]?=some x->g x (bR sub U) H fun σ2 H2=>KeepSt (bR sub U) σ2/\tt σ2 H2 fun b H3=>if b=true then te σ2 H3 fun y H4=>H4=H/\(List.range i).map f ++ [y]=(List.range (i+1)).map f else H3=H/\(List.range i).map f=(List.range (i+1)).map f)
  (hd:∀ D H',H D=none->Same H H'->H' D=some (.lst ((List.range xs.length).map f))->Q (.ref D) H'):rm sub g tt te U Q (Pq K a) H:=by
 refine nO (xs:=xs) (fun i ys H'=>H'=H/\ys=(List.range i).map f) hn ⟨rfl,rfl⟩ ?_ ?_ ?_ ?_
 ·rintro i ys H' ⟨_,rfl⟩
  simp
 ·rintro i ys H' ⟨rfl,_⟩
  exact hq
 ·rintro i ys H' x hx ⟨rfl,rfl⟩
  exact hs i x hx
 ·rintro ys H1 D H' ⟨rfl,rfl⟩ nD s e
  exact hd D H' nD s e
end
end L2
set_option maxHeartbeats 8000000
namespace L2
open PySem PySem.Spec PyProof.Rows
end L2
namespace L2
open PySem PySem.W PySem.Spec PyProof.Rows
end L2
namespace L2
open PySem PySem.Spec PyProof.Rows
theorem yQ:Manifest.owners.lookup (String.ofList ['d','e','s','r','e','v','e','r'].reverse)=some Manifest.sig_reversed:=by kernel_rfl
theorem gw:Slot "reversed" "__next__" "reversed.__next__":=
 .of (owner:="reversed") (n:="__next__") (by rw [AaP,Aak];kernel_rfl) (by trivial) (by trivial) (by trivial)
  (by first | exact .inl (by trivial) | exact .inr (by trivial)) (by rw [Aa0];kernel_rfl)
theorem pG:entryFor table "reversed.__next__"=some Builtin.«reversed.__next__»:=entryFor_of_tree (by kernel_rfl)
theorem rz (a:Value):argsOk "reversed.__next__" ⟨[a],[]⟩:=by
 unfold argsOk;rw [signature?_of (id:="reversed.__next__") (n:=['_','_','t','x','e','n','_','_']) (o:=['d','e','s','r','e','v','e','r']) (by kernel_rfl) yQ];kernel_rfl
theorem rB:Slot "reversed" "__iter__" "reversed.__iter__":=
 .of (owner:="reversed") (n:="__iter__") (by rw [AaP,Aak];kernel_rfl) (by trivial) (by trivial) (by trivial)
  (by first | exact .inl (by trivial) | exact .inr (by trivial)) (by rw [Aa0];kernel_rfl)
theorem xJ (a:Value):argsOk "reversed.__iter__" ⟨[a],[]⟩:=by
 unfold argsOk;rw [signature?_of (id:="reversed.__iter__") (n:=['_','_','r','e','t','i','_','_']) (o:=['d','e','s','r','e','v','e','r']) (by kernel_rfl) yQ];kernel_rfl
theorem wK:entryFor table "reversed.__iter__"=some Builtin.«dict_keyiterator.__iter__»:=
 entryFor_alias (id':="dict_keyiterator.__iter__") (by kernel_rfl) (by first | rfl | trivial | (unfold String.splitOn;simp+decide [String.splitOnAux])) (by trivial) (by kernel_rfl)
theorem uG:typeLookup (.type "tuple") "__reversed__"=pure none:=by rw [AaP,Aak];kernel_rfl
theorem sub_tuple_dict:isSubtype (.type "tuple") (.type "dict")=pure false:=by rw [Aa0];kernel_rfl
theorem xK:Slot "reversed" "__init__" "object.__init__":=
 .of (owner:="object") (n:="__init__") (by rw [AaP,Aak];kernel_rfl) (by trivial) (by trivial) (by trivial)
  (by first | exact .inl (by trivial) | exact .inr (by trivial)) (by rw [Aa0];kernel_rfl)
theorem rN:TypeCalled "reversed" "reversed.__new__" "object.__init__":=
 ⟨by trivial,F.create_reversed,⟨_,_,F.mro_reversed⟩,F.made_reversed,F.plain_reversed_new,F.sub_reversed_self,xK⟩
section
variable {prog:Program} {w:World} {A:Around} {E:Value->Shared->Prop} {s:Shared}
def rO (l:Addr) (i:Int):Obj:={cls:=.type "reversed",data:=.fields #[.ref l,rawInt i]}
def IsRvd (h:Heap) (a l:Addr) (i:Int):Prop:=∃ o,h.get? a=some o/\o.cls= .type "reversed"/\o.data= .fields #[.ref l,rawInt i]
theorem IsRvd.typeIs {a l:Addr} {i:Int} (x:IsRvd s.heap a l i):s.TypeIs (.ref a) "reversed":=let ⟨o,ho,hc,_⟩:=x;⟨o,ho,hc⟩
theorem IsRvd.at {h h':Heap} {a l:Addr} {i:Int} (x:IsRvd h a l i) (e:∀ o,h.get? a=some o->h'.get? a=some o):IsRvd h' a l i:=let ⟨o,ho,r⟩:=x;⟨o,e _ ho,r⟩
theorem M8 {l:Addr} {items:Array Value} {Q₁:Value->Shared->Prop} (hl:IsTup s.heap l items) (hz:items.size < 2 ^ 62)
  (h:∀ k,Q₁ (.ref s.heap.objs.size) {s with heap:=s.heap.push (rO l ((items.size:Int) - 1)),toks:=k}):
  codeAny (model prog w) A (.call (.builtin "reversed.__new__") ⟨[.type "reversed",.ref l],[]⟩) (wants Q₁ E) s:=by
 refine codeAny_of_tree ?_
 show wpAny _ A.in1 (do checkBuiltinCall "reversed.__new__" ⟨[.type "reversed",.ref l],[]⟩;again (.builtin "reversed.__new__" ⟨[.type "reversed",.ref l],[]⟩)) _ _ s
 refine YS (Aat (F.newCall_reversed_1 _) (Y0 ⟨Abe F.plain_reversed_new _,codeAny_builtin F.entry_reversed_new ?_⟩))
 rw [Aa3 F.plain_reversed_new _]
 unfold Builtin.«reversed.__new__»
 refine YS (Aat (newClass_reversed _) ?_)
 try dsimp only
 refine YS (Aat (a:=()) (by first | rfl | kernel_rfl) ?_)
 refine YS (Aat (a:=()) (by first | rfl | kernel_rfl) ?_)
 try dsimp only
 refine YS (AaO hl.typeIs uG ?_)
 try dsimp only
 refine YS ?_
 refine YS (wpAny_isInstance hl.typeIs sub_tuple_dict ?_)
 rw [if_neg (by decide)]
 refine YS (AaO hl.typeIs F.slot_tuple_getitem.lookup ?_)
 dsimp only
 rw [if_pos (by trivial)]
 refine Y0 ?_
 rw [if_neg (by decide)]
 refine YS (len_tuple hl (by omega) ?_)
 refine YS (Aat (a:=some ((items.size:Nat):Int)) rfl ?_)
 dsimp only
 refine YS ?_
 unfold Builtin.SmallTypes.newRecord
 refine Z2 ?_
 exact Y0 (h _)
theorem Nb {l:Addr} {items:Array Value} {Q:Value->Shared->Prop} (hl:IsTup s.heap l items) (hz:items.size < 2 ^ 62)
  (h:∀ k,Q (.ref s.heap.objs.size) {s with heap:=s.heap.push (rO l ((items.size:Int) - 1)),toks:=k}):wpAny (model prog w) A (call (.type "reversed") [.ref l]) Q E s:=by
 refine callType_codes rN (F.typeCall_reversed_1 _) F.entry_object_init (M8 (Q₁:=fun obj s₁=>obj= .ref s.heap.objs.size/\∃ k,s₁={s with heap:=s.heap.push (rO l ((items.size:Int) - 1)),toks:=k}) hl hz fun k=>⟨rfl,k,rfl⟩) ?_
 rintro obj s₁ ⟨rfl,k,rfl⟩
 have hT:Shared.TypeIs {s with heap:=s.heap.push (rO l ((items.size:Int) - 1)),toks:=k} (.ref s.heap.objs.size) "reversed":=⟨_,Y9 _ rfl,rfl⟩
 exact ⟨hT,F.args_object_init_2 _ _,(object_init_meets rN.init.lookup rN.made (by decide)) prog w A.in1 _ _ ⟨hT,rfl,h k⟩⟩
theorem Nf {it l:Addr} {i:Nat} {items:Array Value} {x:Value} {Q:Option Value->Shared->Prop} (hit:IsRvd s.heap it l (i:Int)) (hl:IsTup s.heap l items) (hx:items[i]?=some x) (hz:items.size < 2 ^ 62)
  (hQ:∀ h' k,IsRvd h' it l ((i:Int) - 1)->Heap.SameBut it s.heap h'->Q (some x) {s with heap:=h',toks:=k}):wpAny (model prog w) A (pyNext (.ref it)) Q E s:=by
 obtain ⟨o,ho,hc,hd⟩:=id hit
 have hi:i < items.size:=(Array.getElem?_eq_some_iff.mp hx).1
 unfold pyNext
 refine YS (Abf (AaJ (name:=Str.ofString "__next__") hit.typeIs gw
  (Aa5 gw hit.typeIs pG ?_ (rz _))))
 unfold Builtin.«reversed.__next__»
 refine YS (Aat (a:=(Value.ref it,[])) rfl ?_)
 try dsimp only
 refine YS (Aam ho hd (x:=.ref l) rfl ?_)
 refine YS (Aam ho hd (x:=rawInt (i:Int)) rfl ?_)
 show wpAny _ _ (if (i:Int) < 0 then _ else _) _ _ s
 rw [if_neg (by omega)]
 refine YS (AaO hl.typeIs F.slot_tuple_getitem.lookup ?_)
 rw [if_neg (by decide)]
 refine YS (wpAny_mkInt ?_)
 refine YS (Abf (getItem_tuple (j:=i) hl (by omega) (by omega) ?_ hx ?_))
 ·unfold seqIndex?
  simp
  omega
 dsimp only
 refine YS (Aam (s:={s with toks:=s.toks+1}) ho hd (x:=rawInt (i:Int)) rfl ?_)
 refine YS (Aa1 (s:={s with toks:=s.toks+1}) ho hd (by simp) ?_)
 refine Y0 ⟨x,rfl,Y0 (hQ _ _ ?_ (Heap.SameBut.update ..))⟩
 exact ⟨_,ZR _ ho (AaR (Aaz hd _)),(Obj.cls_mapFields ..).trans hc,by
  rw [Aaz hd];simp⟩
theorem QF {it l:Addr} {Q:Option Value->Shared->Prop} (hh:A.handled=none) (hit:IsRvd s.heap it l (-1))
  (hQ:∀ h',Heap.ExtBut it s.heap h'->Q none {s with heap:=h'}):wpAny (model prog w) A (pyNext (.ref it)) Q E s:=by
 obtain ⟨o,ho,hc,hd⟩:=id hit
 unfold pyNext
 refine YS (Abf (AaJ (name:=Str.ofString "__next__") hit.typeIs gw
  (Aa5 gw hit.typeIs pG ?_ (rz _))))
 unfold Builtin.«reversed.__next__»
 refine YS (Aat (a:=(Value.ref it,[])) rfl ?_)
 try dsimp only
 refine YS (Aam ho hd (x:=.ref l) rfl ?_)
 refine YS (Aam ho hd (x:=rawInt (-1)) rfl ?_)
 show wpAny _ _ (if (-1:Int) < 0 then _ else _) _ _ s
 rw [if_pos (by decide)]
 refine YS (wpAny_rule ?_)
 refine YS ?_
 refine YS (Aa1 ho hd (by simp) ?_)
 have sb1:Heap.SameBut it s.heap (s.heap.update it (Obj.mapFields (·.setIfInBounds 1 (rawInt (-1))))):=Heap.SameBut.update ..
 have ho2:=ZR (Obj.mapFields (·.setIfInBounds 1 (rawInt (-1)))) ho (AaR (Aaz hd _))
 refine Aa1 ho2 (Aaz hd _) (by simp) ?_
 have sb2:Heap.SameBut it (s.heap.update it (Obj.mapFields (·.setIfInBounds 1 (rawInt (-1))))) ((s.heap.update it (Obj.mapFields (·.setIfInBounds 1 (rawInt (-1))))).update it (Obj.mapFields (·.setIfInBounds 0 .none))):=Heap.SameBut.update ..
 have eb:Heap.ExtBut it s.heap ((s.heap.update it (Obj.mapFields (·.setIfInBounds 1 (rawInt (-1))))).update it (Obj.mapFields (·.setIfInBounds 0 .none))):=sb1.extBut.trans sb2.extBut
 show wpAny _ _ _ _ _ {s with heap:=((s.heap.update it (Obj.mapFields (·.setIfInBounds 1 (rawInt (-1))))).update it (Obj.mapFields (·.setIfInBounds 0 .none)))}
 generalize ((s.heap.update it (Obj.mapFields (·.setIfInBounds 1 (rawInt (-1))))).update it (Obj.mapFields (·.setIfInBounds 0 .none)))=h2 at eb ⊢
 refine YS ?_
 show wpAny _ _ (newExc (.type "StopIteration") [] >>=_) _ _ _
 refine YS ?_
 simp only [newExc,newTuple]
 refine YS (Z2 ?_ (by size_fits))
 refine YS (m:=firstArgMember _ _) (Aat (a:=Value.none) (by first | rfl | (simp only [firstArgMember];rfl)) ?_)
 refine Z2 ?_ (by size_fits)
 simp only [raiseNew]
 refine YS (wpAny_handled ?_)
 first | rw [show A.in1.handled=none from hh] | rw [hh]
 refine YS (Y0 (wpAny_throw ?_))
 refine YS (wpAny_isInstance (T:="StopIteration") (b:=true) ⟨_,Y9 _ rfl,rfl⟩ isSubtype_stop ?_)
 exact Y0 (hQ _ ((eb.push _).push _))
theorem Cq {it l:Addr} {i:Int} {Q:Value->Shared->Prop} (hit:IsRvd s.heap it l i) (h:Q (.ref it) s):wpAny (model prog w) A (pyIter (.ref it)) Q E s:=by
 refine wpAny_pyIter_slot hit.typeIs rB (Aa5 rB hit.typeIs wK ?_ (xJ _))
 show wpAny _ _ (ret (.ref it)) _ _ s
 exact Y0 ⟨_,rfl,"reversed",_,hit.typeIs,gw.lookup,h⟩
end
def Ws (K:W.Frag) (a:Addr) (n:Nat):It:=
 ⟨fun i H=>i < n/\n < 2 ^ 62/\∃ xs,SqT K H a xs/\xs.length=n,
  fun i H v H'=>H'=H/\∀ xs,SqT K H a xs->xs[n - 1 - i]?=some v,
  fun i _=>i=n⟩
theorem Ng {P:Program} {w:World} {K:W.Frag} {tg:Expr} {n:Nat} {it a:Addr} (hai:a≠it):
  Turn P w K tg (Ws K a n) [it] it (fun i h=>i<=n/\IsRvd h it a ((n:Int) - 1 - (i:Int))) where
 mem:=by simp
 obj:=fun i h st c hc=>by
  obtain ⟨_,⟨o1,e1,c1,d1⟩⟩:=st
  have e:c=it:=by simpa using hc
  subst e
  exact ⟨_,e1,fun v z=>by rw [d1] at z;cases z⟩
 keep:=fun i h h' st kk=>⟨st.1,st.2.at fun o q=>kk it (by simp) o q⟩
 item:=by
  intro X hP hw hK hc i pins s U H E I hf st hg
  subst hP hw hK
  obtain ⟨hi,h1⟩:=st
  obtain ⟨hlt,h62,xs,hq,hlen⟩:=hg
  obtain ⟨its,rv,p,_⟩:=I.tuple hq
  have l1:=rv.length
  obtain ⟨x,hx⟩:∃ x,xs[n - 1 - i]?=some x:=⟨_,YX (by omega)⟩
  obtain ⟨u,hu,ru⟩:=rv.get hx
  obtain ⟨f0,f1,f2,f3,f4,f5⟩:=hf it (by simp)
  have e:(n:Int) - 1 - (i:Int)=((n - 1 - i:Nat):Int):=by omega
  rw [e] at h1
  refine Nf h1 p (x:=u) (by simpa using hu) (by simp;omega) fun h' k st' sb=>?_
  have I1:Inv X pins U H {s with heap:=h',toks:=k}:=I.turned (t':=k) (fun b o hb e=>(sb.2 b hb).trans e) f0 f1 f3 f4 f5
  obtain ⟨o,eo,c,d⟩:=id st'
  refine ⟨u,rfl,yf (s:={s with heap:=h',toks:=k}) eo c d (by decide) ⟨x,H,I1,ru,⟨rfl,fun ys hy=>by rw [I.tuple_inj hy hq];exact hx⟩,⟨hlt,?_⟩,fun b hb=>(hf b hb).1⟩⟩
  have e2:((n - 1 - i:Nat):Int) - 1=(n:Int) - 1 - ((i+1:Nat):Int):=by omega
  rw [← e2]
  exact st'
 done:=by
  intro X hP hw hK hc i pins s U H E I hf st hg
  subst hP hw hK
  obtain ⟨hi,h1⟩:=st
  have hin:i=n:=hg
  subst hin
  rw [show (i:Int) - 1 - (i:Int)= -1 by omega] at h1
  obtain ⟨f0,f1,f2,f3,f4,f5⟩:=hf it (by simp)
  exact QF (I.ok.hd hc) h1 fun h' eb=>⟨rfl,I.turned (t':=s.toks) (fun b o hb e=>eb b o hb e) f0 f1 f3 f4 f5⟩
 self:=fun _ _ _ _ _ st h=>Cq st.2 h
def R7 (K:W.Frag) (ta:TE):TI:=fun U H R=>ta U H fun x H1=>(∃ l xs,x= .ref l/\SqL K H1 l xs/\R (Wq K l xs.length) H1)\/∃ l xs,x= .ref l/\SqT K H1 l xs/\xs.length < 2 ^ 62/\R (Ws K l xs.length) H1
theorem QG {X:Cx} {K:W.Frag} {a tg:Expr} {ta:TE} {p pos:Pos} (hK:X.K=K) (hg:Gl X "reversed") (hm:X.mg "reversed"=none) (ha:JE X a ta) (h:autoParam (notStar a=true) L2.auto4._auto_1):
  JI X tg (.Call (.Name "reversed" p) [a] [] pos) (R7 K ta):=⟨by
 subst hK
 intro pins s U H R I hq
 refine Call_ (ig I hg hm u0 (Zq (arg1 h (bV (ha.run pins s U H _ I hq) fun u s1 qq0=>?_)) (bF h) rfl))
 obtain ⟨x,H1,I1,rx,hx⟩:=qq0
 rcases hx with ⟨l,xs,ex,hx,q⟩ | ⟨l,xs,ex,hx,h62,q⟩
 ·subst ex
  cases rx
  obtain ⟨its,rv,ht,hz⟩:=I1.list hx
  have hlen:=rv.length
  have lt:l < s1.heap.objs.size:=by obtain ⟨o,ho,_⟩:=ht.isList;exact Y6 ho
  refine call_reversed_list ht.isList ?_
  have e0:(s1.heap.push (PySem.revObj l ((its.toArray.size:Int) - 1))).get? s1.heap.objs.size=some (PySem.revObj l ((its.toArray.size:Int) - 1)):=Y9 _ rfl
  have z2:(s1.heap.push (PySem.revObj l ((its.toArray.size:Int) - 1))).IsRevIter s1.heap.objs.size l ((xs.length:Int) - 1 - ((0:Nat):Int)):=⟨_,e0,rfl,by
   show Data.fields #[.ref l,rawInt ((its.toArray.size:Int) - 1)]=_
   rw [show ((its.toArray.size:Int) - 1)=(xs.length:Int) - 1 - ((0:Nat):Int) by rw [Zh];omega]⟩
  refine wpAny_pyIter_revIter z2 ?_
  refine ⟨s1.heap.objs.size,[s1.heap.objs.size],_,_,H1,rfl,I1.kept (t':=s1.toks) fun b o q=>YW _ q,MP (n:=xs.length) (Zr lt),⟨gV _,z2⟩,fun b hb=>?_,q⟩
  have e:b=s1.heap.objs.size:=by simpa using hb
  subst e
  exact I1.fpOk (YZ _) (I1.hok.fresh (YZ _))
 ·subst ex
  cases rx
  obtain ⟨its,rv,ht,hz⟩:=I1.tuple hx
  have hlen:=rv.length
  have lt:l < s1.heap.objs.size:=by obtain ⟨o,ho,_⟩:=id ht;exact Y6 ho
  refine Nb ht (by simp;omega) fun k=>?_
  have e0:(s1.heap.push (rO l ((its.toArray.size:Int) - 1))).get? s1.heap.objs.size=some (rO l ((its.toArray.size:Int) - 1)):=Y9 _ rfl
  have z2:IsRvd (s1.heap.push (rO l ((its.toArray.size:Int) - 1))) s1.heap.objs.size l ((xs.length:Int) - 1 - ((0:Nat):Int)):=⟨_,e0,rfl,by
   show Data.fields #[.ref l,rawInt ((its.toArray.size:Int) - 1)]=_
   rw [show ((its.toArray.size:Int) - 1)=(xs.length:Int) - 1 - ((0:Nat):Int) by rw [Zh];omega]⟩
  refine Cq z2 ?_
  refine ⟨s1.heap.objs.size,[s1.heap.objs.size],_,_,H1,rfl,I1.kept (t':=k) fun b o q=>YW _ q,Ng (n:=xs.length) (Zr lt),⟨gV _,z2⟩,fun b hb=>?_,q⟩
  have e:b=s1.heap.objs.size:=by simpa using hb
  subst e
  exact I1.fpOk (YZ _) (I1.hok.fresh (YZ _))⟩
section
variable {K:W.Frag} {U:St} {H:Hp}
theorem Nh {ta:TE} {R:It->Hp->Prop} (h:ta U H fun x H1=>(∃ l xs,x= .ref l/\SqL K H1 l xs/\R (Wq K l xs.length) H1)\/∃ l xs,x= .ref l/\SqT K H1 l xs/\xs.length < 2 ^ 62/\R (Ws K l xs.length) H1):R7 K ta U H R:=h
theorem QH {a:Addr} {xs:List V} {g:TG} {tb:TS} {D:Ends} (Pv:Nat->St->Hp->Prop) (h0:Pv 0 U H) (hl:∀ i U H,i<=xs.length->Pv i U H->SqL K H a xs)
  (hs:∀ i x U H,i < xs.length->xs[xs.length - 1 - i]?=some x->Pv i U H->g x U H fun σ2 H2=>tb {D with nx:=Pv (i+1),ct:=Pv (i+1),bk:=D.nx} σ2 H2) (hd:∀ U H,Pv xs.length U H->D.nx U H):
  ∃ W:Nat->Nat->St->Hp->Prop,(∃ m,W 0 m U H)/\∀ i m U H,W i m U H->
   ((Wq K a xs.length).stop i H/\D.nx U H)\/((Wq K a xs.length).go i H/\∃ N:St->Hp->Prop,(∀ U' H',N U' H'->∃ m',m' < m/\W (i+1) m' U' H')/\∀ x H',(Wq K a xs.length).yld i H x H'->g x U H' fun σ2 H2=>tb {D with nx:=N,ct:=N,bk:=D.nx} σ2 H2):=by
 refine ⟨fun i m U H=>m=xs.length - i/\i<=xs.length/\Pv i U H,⟨xs.length,by simp,gV _,h0⟩,?_⟩
 rintro i m U H ⟨rfl,hi,p⟩
 have hq:=hl i U H hi p
 by_cases hlt:i < xs.length
 ·refine .inr ⟨⟨hlt,xs,hq,rfl⟩,Pv (i+1),fun U' H' h=>⟨xs.length - (i+1),by omega,rfl,by omega,h⟩,fun x H' y=>?_⟩
  obtain ⟨rfl,hy⟩:=y
  exact hs i x U _ hlt (hy xs hq) p
 ·obtain rfl:i=xs.length:=by omega
  exact .inl ⟨rfl,hd U H p⟩
theorem QJ {a:Addr} {xs:List V} {g:TG} {tb:TS} {D:Ends} (h62:xs.length < 2 ^ 62) (Pv:Nat->St->Hp->Prop) (h0:Pv 0 U H) (hl:∀ i U H,i<=xs.length->Pv i U H->SqT K H a xs)
  (hs:∀ i x U H,i < xs.length->xs[xs.length - 1 - i]?=some x->Pv i U H->g x U H fun σ2 H2=>tb {D with nx:=Pv (i+1),ct:=Pv (i+1),bk:=D.nx} σ2 H2) (hd:∀ U H,Pv xs.length U H->D.nx U H):
  ∃ W:Nat->Nat->St->Hp->Prop,(∃ m,W 0 m U H)/\∀ i m U H,W i m U H->
   ((Ws K a xs.length).stop i H/\D.nx U H)\/((Ws K a xs.length).go i H/\∃ N:St->Hp->Prop,(∀ U' H',N U' H'->∃ m',m' < m/\W (i+1) m' U' H')/\∀ x H',(Ws K a xs.length).yld i H x H'->g x U H' fun σ2 H2=>tb {D with nx:=N,ct:=N,bk:=D.nx} σ2 H2):=by
 refine ⟨fun i m U H=>m=xs.length - i/\i<=xs.length/\Pv i U H,⟨xs.length,by simp,gV _,h0⟩,?_⟩
 rintro i m U H ⟨rfl,hi,p⟩
 have hq:=hl i U H hi p
 by_cases hlt:i < xs.length
 ·refine .inr ⟨⟨hlt,h62,xs,hq,rfl⟩,Pv (i+1),fun U' H' h=>⟨xs.length - (i+1),by omega,rfl,by omega,h⟩,fun x H' y=>?_⟩
  obtain ⟨rfl,hy⟩:=y
  exact hs i x U _ hlt (hy xs hq) p
 ·obtain rfl:i=xs.length:=by omega
  exact .inl ⟨rfl,hd U H p⟩
end
end L2
namespace L2
open PySem PySem.W PySem.Spec PyProof.Rows
end L2
namespace L2
open PySem PySem.Spec PyProof.Rows
end L2
namespace HT
open PySem PySem.Spec PyProof.Rows
section
variable {prog:Program} {w:World} {A:Around} {E:Value->Shared->Prop} {s:Shared}
theorem getItem_tuple_whole {t sl:Addr} {items:Array Value} {vl vu:Value} {lo hi:Option Int} {Q:Value->Shared->Prop} (ht:IsTup s.heap t items) (hs:s.heap.IsSliceOf sl vl vu .none) (pl:IsPart vl lo) (pu:IsPart vu hi)
  (hw:sIx items.size 0 lo=0/\sIx items.size items.size hi=items.size) (h:Q (.ref t) s):wpAny (model prog w) A (getItem (.ref t) (.ref sl)) Q E s:=by
 obtain ⟨os,hos,hcs,hds⟩:=id hs
 have hTs:s.TypeIs (.ref sl) "slice":=⟨os,hos,hcs⟩
 unfold getItem
 try with_reducible refine ZW ?_
 first | refine YS (Y0 ?_) | skip
 refine YS (wpAny_sequenceKey ht.typeIs (by decide) ?_)
 refine YS (AaJ (name:=Str.ofString "__getitem__") ht.typeIs Aaj
  (Aa5 Aaj ht.typeIs entry_tuple_getitem ?_ (args_tuple_getitem _ _)))
 show wpAny _ _ (Builtin.Tuple.tupleItemsOf (.ref t) >>=_) _ _ s
 refine YS (tupleItemsOf_ ht ?_)
 refine YS (wpAny_typeOf hTs ?_)
 rw [if_pos (by decide)]
 refine YS (mU hs pl pu ?_)
 have hyes:((((sIx items.size 0 lo:Nat):Int) == 0 && (1:Int) == 1 && (sIx items.size items.size hi - sIx items.size 0 lo) == items.size)=true):=by
  rw [hw.1,hw.2];simp
 show wpAny _ _ (if (((sIx items.size 0 lo:Nat):Int) == 0 && (1:Int) == 1 && (sIx items.size items.size hi - sIx items.size 0 lo) == items.size)=true then _ else _) _ _ s
 rw [if_pos hyes]
 unfold Builtin.Tuple.tupleIsExact
 refine YS (YS (wpAny_typeOf ht.typeIs (Y0 ?_)))
 rw [if_pos (by decide)]
 exact YS (wpAny_rule (Y0 ⟨_,rfl,Y0 h⟩))
end
end HT
namespace L2
open PySem PySem.Spec PyProof.Rows
section
variable {X:Cx}
def X7 (K:W.Frag):V->Option Int->Option Int->Hp->VK->Prop:=fun x lo hi H Q=>∃ a xs,x= .ref a/\SqT K H a xs/\(HT.sIx xs.length 0 lo=0/\HT.sIx xs.length xs.length hi=xs.length)/\Q (.ref a) H
theorem QK:SlR X (X7 X.K):=by
 intro pins s U H x v vl vu lo hi sl Q I rx hs pl pu h
 obtain ⟨a,xs,rfl,hx,hw,q⟩:=h
 cases rx
 obtain ⟨its,r,ht,hz⟩:=I.tuple hx
 have hlen:its.toArray.size=xs.length:=by rw [Zh];exact r.length.symm
 refine ⟨"tuple",_,PyProof.Rows.slot_tuple_getitem.lookup,ht.typeIs,?_⟩
 exact HT.getItem_tuple_whole ht hs pl pu (by rw [hlen];exact hw) ⟨.ref a,H,I,rfl,q⟩
def X8 (K:W.Frag):V->Option Int->Option Int->Hp->VK->Prop:=fun x lo hi H Q=>Xi K x lo hi H Q\/X7 K x lo hi H Q
theorem z7 {K:W.Frag} (hK:X.K=K):SlR X (X8 K):=by
 subst hK
 exact Lk.or QK
end
section
variable {H:Hp} {Q:VK} {K:W.Frag} {p:Addr} {xs:List V} {lo hi:Option Int}
theorem Ni {x:Str} (hz:x.length<=sizeLine) (h:Q (.str (Txt.slice x lo hi)) H):X8 K (.str x) lo hi H Q:=.inl (Xq hz h)
end
theorem wL {xs:List V} {k:Nat}:o6 xs (some (k:Int)) none=xs.drop k:=by
 unfold o6
 rw [HT.sIx_none,HT.sIx_nat]
 by_cases h:k<=xs.length
 ·rw [Nat.min_eq_left h,Z9 (by rw [AaI];omega)]
 ·rw [Aa7 (by omega),AaL (by omega),AaL (by omega)];simp
theorem Cr {xs:List V} {k:Nat}:o6 xs none (some (k:Int))=xs.take k:=by
 unfold o6
 rw [HT.sIx_none,HT.sIx_nat,List.drop_zero,Nat.sub_zero]
 by_cases h:k<=xs.length
 ·rw [Nat.min_eq_left h]
 ·rw [Aa7 (by omega),Z9 (by omega),Z9 (by omega)]
section
variable {X:Cx} {K:W.Frag} {a b e f o:Expr} {ta tb tc:TE} {pos apos cpos:Pos} {H:Hp} {Q:VK} {U:St}
theorem Vt (hu:X.A.units+64 < cLine) (ha:JE X a ta) (hb:JE X b tb) (h:autoParam (o9 b=true) L2.auto4._auto_1):JE X (.Subscript a b pos) (Lb ta tb):=⟨Qg (by omega) ha.run hb.run (pix h)⟩
theorem Nj (h:ta U H fun x H1=>tb U H1 fun y H2=>∃ a v,x= .ref a/\DGet H2 a y (some v)/\Q v H2):Lb ta tb U H Q:=h
end
structure rC (K:W.Frag) (mg:Str->Option Value) (xs:List Str) (m qual:Str) (st:Stmt):Prop where
 ex:∃ f fd,(∀ x∈xs,Meth K (aL mg x) m f)/\Fun K m qual st f fd
def Ju (P:Program) (w:World) (K:W.Frag) (mg:Str->Option Value) (base:Heap) (k:Nat) (xs:List Str) (m:Str) (ps:List Str) (sp:Sp):Prop:=
 ∃ f fd,(∀ x∈xs,Meth K (aL mg x) m f)/\Binds K fd ps []/\FnOk P w K mg base (Jh P w) k f fd ps sp
section
variable {P:Program} {w:World} {K:W.Frag} {mg:Str->Option Value} {base:Heap}
theorem QL {xs:List Str} {m qual:Str} {st:Stmt} {N ps:List Str} {k:Nat} {sp:Sp} (D:rC K mg xs m qual st) (S:aC N ps (az st))
  (hb:∀ (kV doc pm:Value) (an:Option Addr) (cdv ct:Value) (us:List Value),us.length=ps.length->bindArgs (PySem.W.fnOf m qual (cu st) (bC st) (az st) .none kV doc pm an cdv ct) ⟨us,[]⟩=pure (ps.zip us))
  (len:∀ vs H Q E,sp vs H Q E->vs.length=ps.length)
  (hbody:∀ (f:Addr) (cdv:Value) (A:Around) (outer:List Env) (s:Shared) (H:Hp) (vs:List V) (Q:VK) (E:XK),Room k (A.deeper (envOfC qual (az st) s.heap.objs.size f cdv))->sp vs H Q E->
   ∃ t,JB (o5 (Jh P w) P w K mg base N qual (az st) f cdv A outer s H E) (bC st) t/\t {nx:=fun _ H'=>Q .non H',rt:=Q} (start N vs) H):Ju P w K mg base (k+1) xs m ps sp:=by
 obtain ⟨f,fd,hm,F⟩:=D.ex
 refine ⟨f,fd,hm,F.binds hb,?_⟩
 obtain ⟨oc,od,kV,doc,pm,an,cdv,ct,osl,rfl,lk,hcd⟩:=F.ex
 exact Bp lk hcd S len fun A outer s H vs Q E hr h=>let ⟨t,j,q⟩:=hbody f cdv A outer s H vs Q E hr h;⟨t,j.run,q⟩
end
def Nk (mg:Str->Option Value) (xs:List Str) (m:Str) (sp:Sp) (R:St->XK) (ta:TE) (t:TA):TE:=fun U H Q=>ta U H fun x H1=>∃ a y dx fs,x= .ref a/\y∈xs/\H1 a=some (.ins (aL mg y) dx fs)/\fs.lookup m=none/\t U H1 fun vs H2=>sp (x :: vs) H2 Q (R U)
def R8 (sp:Sp) (R:St->XK) (t:TA):TE:=fun U H Q=>t U H fun vs H1=>sp vs H1 Q (R U)
def YH (K:W.Frag) (mg:Str->Option Value) (xs:List Str):Prop:=∀ x∈xs,Cls K (aL mg x)
structure G9 (K:W.Frag) (mg:Str->Option Value) (x m qual:Str) (st:Stmt):Prop where
 at_:mg x=some (.ref (aL mg x))
 sp:PySem.W.specialIn K (.ref (aL mg x)) "__getattribute__"=some (some (.builtin "type.__getattribute__"))
 rd:PySem.W.readsIn K (aL mg x) (.type "type")=true
 ex:∃ f fd,PySem.W.findCls K (.ref (aL mg x)) (.type "type") m=some (.val (.ref f))/\PySem.W.keepIn K (.ref f)=true/\Fun K m qual st f fd
theorem Yb {K:W.Frag} {mg:Str->Option Value} {h:Heap} (X:K.In h) (G:h.Ns mainGlobals mg) {x m qual:Str} {C f:Addr} {st:Stmt} {oc:Value} {od an:Option Addr} {osl:Array (Option Value)} {kV doc pm cdv ct:Value}
  (a:PySem.W.nsIn K mainGlobals x=some (some (.ref C))) (s:PySem.W.specialIn K (.ref C) "__getattribute__"=some (some (.builtin "type.__getattribute__"))) (r:PySem.W.readsIn K C (.type "type")=true)
  (i:PySem.W.findCls K (.ref C) (.type "type") m=some (.val (.ref f)))
  (l:K.lookup f=some ⟨oc,od,.func (PySem.W.fnOf m qual (cu st) (bC st) (az st) .none kV doc pm an cdv ct),osl⟩) (c:PySem.W.codeIn K cdv qual=true) (k:PySem.W.keepIn K (.ref f)=true):G9 K mg x m qual st:=by
 have e0:=ZQ X G a
 have e:=cJ e0
 exact ⟨by rw [e];exact e0,by rw [e];exact s,by rw [e];exact r,f,_,by rw [e];exact i,k,wj l c k⟩
def Vu (P:Program) (w:World) (K:W.Frag) (mg:Str->Option Value) (base:Heap) (k:Nat) (x m:Str) (ps:List Str) (sp:Sp):Prop:=
 mg x=some (.ref (aL mg x))/\PySem.W.specialIn K (.ref (aL mg x)) "__getattribute__"=some (some (.builtin "type.__getattribute__"))/\PySem.W.readsIn K (aL mg x) (.type "type")=true/\
 ∃ f fd,PySem.W.findCls K (.ref (aL mg x)) (.type "type") m=some (.val (.ref f))/\PySem.W.keepIn K (.ref f)=true/\Binds K fd ps []/\FnOk P w K mg base (Jh P w) k f fd ps sp
section
variable {P:Program} {w:World} {K:W.Frag} {mg:Str->Option Value} {base:Heap}
theorem hasC {x m qual:Str} {st:Stmt} {N ps:List Str} {k:Nat} {sp:Sp} (D:G9 K mg x m qual st) (S:aC N ps (az st))
  (hb:∀ (kV doc pm:Value) (an:Option Addr) (cdv ct:Value) (us:List Value),us.length=ps.length->bindArgs (PySem.W.fnOf m qual (cu st) (bC st) (az st) .none kV doc pm an cdv ct) ⟨us,[]⟩=pure (ps.zip us))
  (len:∀ vs H Q E,sp vs H Q E->vs.length=ps.length)
  (hbody:∀ (f:Addr) (cdv:Value) (A:Around) (outer:List Env) (s:Shared) (H:Hp) (vs:List V) (Q:VK) (E:XK),Room k (A.deeper (envOfC qual (az st) s.heap.objs.size f cdv))->sp vs H Q E->
   ∃ t,JB (o5 (Jh P w) P w K mg base N qual (az st) f cdv A outer s H E) (bC st) t/\t {nx:=fun _ H'=>Q .non H',rt:=Q} (start N vs) H):Vu P w K mg base (k+1) x m ps sp:=by
 obtain ⟨f,fd,hm,kp,F⟩:=D.ex
 refine ⟨D.at_,D.sp,D.rd,f,fd,hm,kp,F.binds hb,?_⟩
 obtain ⟨oc,od,kV,doc,pm,an,cdv,ct,osl,rfl,lk,hcd⟩:=F.ex
 exact Bp lk hcd S len fun A outer s H vs Q E hr h=>let ⟨t,j,q⟩:=hbody f cdv A outer s H vs Q E hr h;⟨t,j.run,q⟩
end
section
variable {X:Cx} {K:W.Frag} {k:Nat} {f C:Addr} {ps xs:List Str} {sp:Sp} {R:St->XK} {x m fn:Str} {p pos apos pos':Pos} {e o value:Expr} {es:List Expr} {ta tv:TE} {t:TA} {pins:List (Addr×Obj)} {U:St} {H:Hp} {s:Shared} {Q:VK} {us:List Value} {vs:List V} {mg:Str->Option Value}
theorem bH {pl:Sem Bool} (hmg:X.mg=mg) (he:JE X o ta) (c:YH X.K X.mg xs) (F:Ju X.prog X.w X.K X.mg X.base k xs m ps sp) (hr:Room k X.A) (hx:jn X R)
  (ht:eval (.Call (.Attribute o m apos) [] [] pos) X.env=(do
   let ov ← eval o X.env
   standAt apos.atName
   let (f,first) ← holding [ov] (getMethod ov m pl)
   callWith pos f first (backTo pos (starEach [] X.env)) (backToKw pos (keywordEach [] X.env))):=by rfl):
  JE X (.Call (.Attribute o m apos) [] [] pos) (Nk mg xs m sp R ta KR):=⟨by
 subst hmg
 obtain ⟨f,fd,hm,hb,F⟩:=F
 intro pins s U H Q I h
 refine AaS (pl:=pl) (bV (he.run pins s U H _ I h) fun u s1 qq0=>?_) ht
 obtain ⟨x,H1,I1,rx,a,y,dx,fs,ex,hy,ea,l,q⟩:=qq0
 subst ex
 obtain rfl:u=Value.ref a:=rx
 refine rH I1 ea (c y hy) (hm y hy) l ?_
 exact PySem.W.callWith_K0 (first:=[.ref a]) I1.kIn (hm y hy).kp (tQ (us:=[.ref a]) (vs:=[.ref a]) F hr hb hx I1 (.cons rfl .nil) q)⟩
theorem wM {pl:Sem Bool} (F:Vu X.prog X.w X.K X.mg X.base k x m ps sp) (hr:Room k X.A) (hg:Gl X x) (hx:jn X R) (ha:JA X (e :: es) t) (hdb:(x == ("__debug__":Str))=false)
  (hs:autoParam ((e :: es).all notStar=true) L2.auto4._auto_1)
  (ht:eval (.Call (.Attribute (.Name x p) m apos) (e :: es) [] pos) X.env=(do
   let ov ← eval (.Name x p) X.env
   standAt apos.atName
   let (f,first) ← holding [ov] (getMethod ov m pl)
   callWith pos f first (backTo pos (starEach (e :: es) X.env)) (backToKw pos (keywordEach [] X.env))):=by rfl):
  JE X (.Call (.Attribute (.Name x p) m apos) (e :: es) [] pos) (R8 sp R t):=⟨by
 have h1:notStar e=true:=by simp only [ZG,Ze] at hs;exact hs.1
 have h2:es.all notStar=true:=by simp only [ZG,Ze] at hs;exact hs.2
 obtain ⟨at_,sg,rd,f,fd,fc,kp,hb,F⟩:=F
 intro pins s U H Q I h
 refine AaS (pl:=pl) (lJ I hg at_ ?_ hdb) ht
 refine PySem.W.method_cls I.kIn sg (PySem.W.cls_value I.kIn rd fc rfl ?_)
 have I1:=I.tok (s.toks+1)
 refine Aay (first:=[]) (h₀:=X.base) I.ok.mod.kin kp (bV (ha.run pos pins _ U H _ I1 h) fun us s2 ⟨vs,H2,I2,r,q2⟩=>⟨I2.kIn,?_⟩) (bF h1) (mq h2)
 exact tQ F hr hb hx I2 r q2⟩
end
section
variable {U:St} {H:Hp} {D:Ends} {Q:VK} {sp:Sp} {R:St->XK} {a:TA} {K:W.Frag} {xs:List Str} {mg:Str->Option Value} {ta tv:TE} {f m:Str}
theorem cT (h:ta U H fun x H1=>∃ b y dx fs,x= .ref b/\y∈xs/\H1 b=some (.ins (aL mg y) dx fs)/\fs.lookup m=none/\a U H1 fun vs H2=>sp (x :: vs) H2 Q (R U)):Nk mg xs m sp R ta a U H Q:=h
theorem gf (h:a U H fun vs H1=>sp vs H1 Q (R U)):R8 sp R a U H Q:=h
end
def Yc (xs:Array Value) (c:Nat):Obj:={cls:=.type "list",dict:=none,data:=.seq xs c,slots:=#[]}
section
variable {prog:Program} {w:World} {A:Around} {R:Result->Shared->Prop} {I S:Addr} {fp wr:List Addr} {n:Nat} {P:Nat->Value->Prop} {St:Nat->Heap->Prop} {d:Value} {bt:Nat->Nat->Bool}
abbrev mdl (I S:Addr) (d:Value):Code:=.builtin "max.loop" ⟨[.ref I,.none,.ref S],[(Str.ofString "default",d)]⟩
theorem QM (W:Walks prog w A.in1 I fp wr n P St) (hcmp:CmpOf prog w A.in1 .Gt P bt) (hSf:S ∉ fp):∀ (k j:Nat) (s:Shared) (v:Value) (c:Nat),j+k+1=n->St (j+1) s.heap->P (argBest bt j) v->s.heap.get? S=some (Yc #[v,v] c)->
  (∀ v h' tk,P (argBest bt (n - 1)) v->(∀ b o,b ∉ wr->b≠S->s.heap.get? b=some o->h'.get? b=some o)->R (.ok (.ret v)) {s with heap:=h',toks:=tk})->codeAny (model prog w) A (mdl I S d) R s:=by
 have hSw:S ∉ wr:=fun h=>hSf (W.sub _ h)
 have nm:(toString "max" ++ toString ".loop":String)="max.loop":=by decide
 intro k
 induction k with
 | zero=>
  intro j s v c e hst hv hS hR
  refine codeAny_builtin F.entry_max_loop ?_
  rw [Aa3 Aax _]
  show wpAny _ A.in1 (seqItems? (.ref S) >>=_) _ _ s
  refine YS (wpAny_seqItems hS rfl ?_)
  show wpAny _ A.in1 (tryCatch (pyNext (.ref I)) _ >>=_) _ _ s
  have e':j+1=n:=e
  refine YS (wpAny_tryCatch (W.done s _ _ (e' ▸ hst) fun h' tk kp=>?_))
  refine YS (m:=updateSeq S fun _=>#[]) ?_
  refine wpAny_updateSeq (kp S _ hSw hS) rfl (YS (wpAny_letGo (Y0 (hR v _ tk ?_ fun b o n1 n2 q=>?_))))
  ·rw [← e'];exact hv
  ·exact (Zw _ _ (Ne.symm n2)).trans (kp b o n1 q)
 | succ k ih=>
  intro j s v c e hst hv hS hR
  refine codeAny_builtin F.entry_max_loop ?_
  rw [Aa3 Aax _]
  show wpAny _ A.in1 (seqItems? (.ref S) >>=_) _ _ s
  refine YS (wpAny_seqItems hS rfl ?_)
  show wpAny _ A.in1 (tryCatch (pyNext (.ref I)) _ >>=_) _ _ s
  refine YS (wpAny_tryCatch (W.item (j+1) s _ _ (by omega) hst fun u h' tk hu hst' kp=>?_))
  have hS':=kp S _ hSw hS
  show wpAny _ A.in1 (tryCatch (holding [u,u] (richCompare .Gt u v >>=_)) _ >>=_) _ _ _
  refine YS (wpAny_tryCatch (ZW (YS (hcmp (j+1) (argBest bt j) u v _ _ _ hu hv ?_))))
  refine YS (ZW (Z8 (YS (wpAny_letGo (Y0 ?_)))))
  have eb:argBest bt (j+1)=if bt (j+1) (argBest bt j) then j+1 else argBest bt j:=rfl
  cases hb:bt (j+1) (argBest bt j) with
  | true=>
   rw [hb,if_pos rfl] at eb
   rw [if_pos rfl]
   refine YS (wpAny_updateSeq hS' rfl (YS (wpAny_letGo ?_)))
   rw [nm]
   refine Y0 ⟨Abe Aax _,ih (j+1) _ u _ (by omega) (W.frame _ _ _ hst' fun b hf o q=>?_) (by rw [eb];exact hu) (ZR _ hS' rfl) fun v' h2 tk2 hv' k2=>hR v' h2 tk2 hv' fun b o n1 n2 q=>?_⟩
   ·exact (Zw _ _ (fun z:S=b=>hSf (z ▸ hf))).trans q
   ·exact k2 b o n1 n2 ((Zw _ _ (Ne.symm n2)).trans (kp b o n1 q))
  | false=>
   rw [hb,if_neg (by decide)] at eb
   rw [if_neg (by decide)]
   refine YS (wpAny_letGo ?_)
   rw [nm]
   exact Y0 ⟨Abe Aax _,ih (j+1) _ v c (by omega) hst' (by rw [eb];exact hv) hS' fun v' h2 tk2 hv' k2=>hR v' h2 tk2 hv' fun b o n1 n2 q=>k2 b o n1 n2 (kp b o n1 q)⟩
theorem Fd (W:Walks prog w A.in1 I fp wr n P St) (hcmp:CmpOf prog w A.in1 .Gt P bt) (hSf:S ∉ fp) {s:Shared} {c:Nat} (hst:St 0 s.heap) (hS:s.heap.get? S=some (Yc #[] c))
  (h0:n=0->∀ h' tk,(∀ b o,b ∉ wr->b≠S->s.heap.get? b=some o->h'.get? b=some o)->R (.ok (.ret d)) {s with heap:=h',toks:=tk})
  (hR:0 < n->∀ v h' tk,P (argBest bt (n - 1)) v->(∀ b o,b ∉ wr->b≠S->s.heap.get? b=some o->h'.get? b=some o)->R (.ok (.ret v)) {s with heap:=h',toks:=tk}):codeAny (model prog w) A (mdl I S d) R s:=by
 have hSw:S ∉ wr:=fun h=>hSf (W.sub _ h)
 have nm:(toString "max" ++ toString ".loop":String)="max.loop":=by decide
 refine codeAny_builtin F.entry_max_loop ?_
 rw [Aa3 Aax _]
 show wpAny _ A.in1 (seqItems? (.ref S) >>=_) _ _ s
 refine YS (wpAny_seqItems hS rfl ?_)
 show wpAny _ A.in1 (tryCatch (pyNext (.ref I)) _ >>=_) _ _ s
 by_cases hn:n=0
 ·refine YS (wpAny_tryCatch (W.done s _ _ (hn ▸ hst) fun h' tk kp=>?_))
  show wpAny _ A.in1 (rule _ >>=_) _ _ _
  exact YS (wpAny_rule (Y0 (h0 hn h' tk fun b o n1 _ q=>kp b o n1 q)))
 ·refine YS (wpAny_tryCatch (W.item 0 s _ _ (by omega) hst fun u h' tk hu hst' kp=>?_))
  have hS':=kp S _ hSw hS
  show wpAny _ A.in1 (updateSeq S (fun _=>#[u,u]) >>=_) _ _ _
  refine YS (wpAny_updateSeq hS' rfl ?_)
  rw [nm]
  refine Y0 ⟨Abe Aax _,QM W hcmp hSf (n - 1) 0 _ u _ (by omega) (W.frame _ _ _ hst' fun b hf o q=>?_) hu (ZR _ hS' rfl) fun v' h2 tk2 hv' k2=>hR (by omega) v' h2 tk2 hv' fun b o n1 n2 q=>?_⟩
  ·exact (Zw _ _ (fun z:S=b=>hSf (z ▸ hf))).trans q
  ·exact k2 b o n1 n2 ((Zw _ _ (Ne.symm n2)).trans (kp b o n1 q))
theorem Jv (a v:Value):argsOk "max" ⟨[a],[(Str.ofString "default",v)]⟩:=by unfold argsOk;kernel_rfl
theorem Jw {E:Value->Shared->Prop} {s:Shared} {x:Value} {Q:Value->Shared->Prop} (h:wpAny (model prog w) A.in1 (pyIter x) (fun it s₂=>∃ I fp wr n P St bt,it= .ref I/\Walks prog w A.in1 I fp wr n P St/\St 0 s₂.heap/\(∀ b∈fp,b < s₂.heap.objs.size)/\CmpOf prog w A.in1 .Gt P bt/\
   (n=0->∀ h' tk,(∀ b o,b ∉ wr->s₂.heap.get? b=some o->h'.get? b=some o)->Q d {s₂ with heap:=h',toks:=tk})/\
   (0 < n->∀ v h' tk,P (argBest bt (n - 1)) v->(∀ b o,b ∉ wr->s₂.heap.get? b=some o->h'.get? b=some o)->Q v {s₂ with heap:=h',toks:=tk})) E s):
  wpAny (model prog w) A (call (.builtin "max") [x] [(Str.ofString "default",d)]) Q E s:=by
 have nm:(toString "max" ++ toString ".loop":String)="max.loop":=by decide
 refine kmk_tree F.kind_max F.plain_max F.entry_max (Jv _ _) ?_
 show wpAny _ A.in1 (Builtin.Builtins.bindParams "max" ["key","default"] 0 ⟨[],[(Str.ofString "default",d)]⟩ >>=_) _ _ s
 refine YS (Aat (show Builtin.Builtins.bindParams "max" ["key","default"] 0 ⟨[],[(Str.ofString "default",d)]⟩=pure [none,some d] from rfl) ?_)
 refine YS (Y0 ?_)
 refine YS (Zu h (fun it s₂ h₂=>?_) fun _ _ e=>e)
 obtain ⟨I,fp,wr,n,P,St,bt,rfl,W,hst,hfp,hcmp,q0,q1⟩:=h₂
 refine YS (Z2 ?_)
 have hSf:s₂.heap.objs.size ∉ fp:=fun hm=>Z1 _ (hfp _ hm)
 rw [nm]
 have lt:∀ {b o},s₂.heap.get? b=some o->b≠s₂.heap.objs.size:=fun e=>Zr (Y6 e)
 exact Y0 ⟨Abe Aax _,Fd W hcmp hSf (W.frame _ _ _ hst fun b _ o e=>YW _ e) (Y9 _ rfl)
  (fun hn h' tk kp=>q0 hn h' tk fun b o n1 e=>kp b o n1 (lt e) (YW _ e)) (fun hn v h' tk hv kp=>q1 hn v h' tk hv fun b o n1 e=>kp b o n1 (lt e) (YW _ e))⟩
end
def Nm:V->V->Hp->VK->Prop:=fun x y H Q=>∃ (p:Addr) (ns:List Int),x= .ref p/\H p=some (.lst (ns.map V.int))/\(ns=[]->Q y H)/\∀ M,M∈ns->(∀ a∈ns,a<=M)->Q (.int M) H
def R9 (ta td:TE):TE:=fun U H Q=>ta U H fun x H1=>td U H1 fun y H2=>Nm x y H2 Q
section
variable {X:Cx} {pins:List (Addr×Obj)} {U:St} {H:Hp} {s:Shared} {Q:VK} {x:Str} {p pos kpos:Pos} {e dv:Expr} {ta td:TE}
theorem Np {u ud:Value} {v y:V} (hc:X.calm=true) (I:Inv X pins U H s) (rv:RelV v u) (ry:RelV y ud) (h:Nm v y H Q):
  wpAny (model X.prog X.w) X.A (call (.builtin "max") [u] [(Str.ofString "default",ud)]) (EP X pins U Q) X.xe s:=by
 obtain ⟨p,ns,rfl,hp,q0,q1⟩:=h
 obtain rfl:u= .ref p:=rv
 obtain ⟨hz,its,n,rv,g⟩:=I.hok p _ hp
 have hi:IntsAre its ns:=intsAre_of rv
 have hl:=rv.length
 obtain ⟨ys,ey⟩:=hi.allInts.items
 have hn:=hi.numsOf
 have hL:s.heap.IsList p (intItems ys):=⟨_,g,rfl,n,by rw [← ey]⟩
 have en:ys.toList.map (·.1)=ns:=by rw [← nums_intItems,← ey,← hn]
 have el:ys.size=ns.length:=by rw [← en];simp
 have ez:(intItems ys).size=ys.size:=by simp [intItems]
 refine Jw (iter_intList hL fun s₂ e st hfp hlI=>?_)
 subst e
 refine ⟨_,_,_,_,_,_,_,rfl,Walks.list (A:=X.A.in1) (I.ok.hd hc) _ p hlI (intItems ys),st,hfp,CmpOf.ints_gt (numAt ys) (fun _ _=>intItems_at),fun h0 h' tk hk=>?_,fun h0 v h' tk hP hk=>?_⟩
 ·exact ⟨y,H,I.kept (old_kept hk),ry,q0 (List.eq_nil_of_length_eq_zero (by omega))⟩
 ·have hP':(intItems ys)[argBest (fun i j=>decide (numAt ys i > numAt ys j)) (ys.size - 1)]?=some v:=by rw [← ez];exact hP
  obtain ⟨t,rfl⟩:=intItems_at hP'
  obtain ⟨h1,h2⟩:=argBest_gt (numAt ys) (ys.size - 1)
  refine ⟨.int _,H,I.kept (old_kept hk),⟨t,rfl⟩,q1 _ ?_ fun a ha=>?_⟩
  ·rw [← en,numAt_eq];exact getD_mem (by rw [Zf,Zx];omega)
  ·rw [← en] at ha
   obtain ⟨j,hj,rfl⟩:=mem_getD ha
   rw [Zf,Zx] at hj
   rw [← numAt_eq];exact h2 j (by omega)
theorem Vv (hc:X.calm=true) (hg:Gl X "max") (hm:X.mg "max"=none) (ha:JE X e ta) (hd:JE X dv td) (h:autoParam (notStar e=true) L2.auto4._auto_1):
  JE X (.Call (.Name "max" p) [e] [⟨some "default",dv,kpos⟩] pos) (R9 ta td):=⟨by
 intro pins s U H Q I hq
 refine ZK (ig I hg hm (show bootBuiltins "max"=some (.builtin "max") from by trivial) ?_)
 refine PyProof.Rows.callWith_kw (arg1 h (bV (ha.run pins s U H _ I hq) fun u s1 qq0=>?_)) (by rw [bF h];rfl) (by rw [bF h];rfl)
 obtain ⟨v,H1,I1,rv,q1⟩:=qq0
 refine wpAny_evalAll_cons (YS (bV (hd.run pins s1 U H1 _ I1 q1) fun ud s2 ⟨y,H2,I2,ry,q2⟩=>YS (Abd (Y0 (wpAny_evalAll_nil ?_)))))
 exact Np hc I2 rv ry q2⟩
end
section
variable {U:St} {H:Hp} {Q:VK} {ta td:TE}
theorem cU (h:ta U H fun x H1=>td U H1 fun y H2=>Nm x y H2 Q):R9 ta td U H Q:=h
end
structure ITxt (K:W.Frag) (mg:Str->Option Value) (x:Str):Prop where
 ha:PySem.W.findIn K (.ref (aL mg x)) "__class__"=some (some (.builtin "object.__class__"))
 hn:PySem.W.specialIn K (.builtin "object.__class__") "__get__"=some (some (.builtin "getset_descriptor.__get__"))
 htk:PySem.W.takesIn K (.builtin "object.__class__")=some true
 hm:PySem.W.mroIn K (aL mg x) (.type "object")=some true
theorem Cu {K:W.Frag} {mg:Str->Option Value} {h:Heap} (X:K.In h) (G:h.Ns mainGlobals mg) {x:Str} {C:Addr} (a:PySem.W.nsIn K mainGlobals x=some (some (.ref C)))
  (b:PySem.W.findIn K (.ref C) "__class__"=some (some (.builtin "object.__class__"))) (c:PySem.W.specialIn K (.builtin "object.__class__") "__get__"=some (some (.builtin "getset_descriptor.__get__")))
  (d:PySem.W.takesIn K (.builtin "object.__class__")=some true) (e:PySem.W.mroIn K C (.type "object")=some true):ITxt K mg x:=by
 have q:=cJ (ZQ X G a)
 exact ⟨by rw [q];exact b,c,d,by rw [q];exact e⟩
theorem ITxt.ty {K:W.Frag} {mg:Str->Option Value} {x:Str} (i:ITxt K mg x) (cl:Cls K (aL mg x)) {H:Hp} {a dx:Addr} {fs:List (Str×V)} (h:H a=some (.ins (aL mg x) dx fs)):TyOf K H (.ref a) (.ref (aL mg x)):=.ins h cl i.ha i.hn i.htk i.hm
theorem kZ {K:W.Frag} {mg:Str->Option Value} {h:Heap} (X:K.In h) (G:h.Ns mainGlobals mg) {x:Str} {C:Addr} {t:Value} {r:Option Bool} (a:PySem.W.nsIn K mainGlobals x=some (some (.ref C))) (o:PySem.W.kitOne K t (.ref C)=r):PySem.W.kitOne K t (.ref (aL mg x))=r:=by
 rw [cJ (ZQ X G a)];exact o
def Yd:List V->Hp->(Int->Int->Nat->Prop)->Prop:=fun vs _ R=>∃ (lo:Int) (n:Nat),vs=[.int lo,.int (lo+n)]/\0<=lo/\lo<=1000000/\n<=1000000/\R lo 1 n
section
variable {X:Cx}
theorem wN {a b:Expr} {ta:TA} {p p2 p3 pos:Pos} (hc:X.calm=true) (hg:Gl X "list") (hm:X.mg "list"=none) (hg2:Gl X "range") (hm2:X.mg "range"=none) (ha:JA X [a,b] ta) (h:autoParam (notStar a=true) L2.auto4._auto_1) (h2:autoParam (notStar b=true) L2.auto4._auto_1):
  JE X (.Call (.Name "list" p) [.Call (.Name "range" p2) [a,b] [] p3] [] pos) (wJ Yd ta):=⟨by
 intro pins s U H Q I hq
 refine ZK (ig I hg hm j4 (Zq (arg1 rfl (ZK (ig I hg2 hm2 boot_range (Zq (bV (ha.run p3 pins s U H _ I hq) fun us s1 qq0=>?_) (bF h) (by rw [bF h2];rfl))))) rfl rfl))
 obtain ⟨vs,H1,I1,r1,q1⟩:=qq0
 obtain ⟨lo,n,rfl,h0,h1,hn,q⟩:=q1
 obtain ⟨u,w',rfl,⟨t,rfl⟩,⟨t',rfl⟩⟩:=vals2 r1
 exact call_range_2 (tV hc I1 (small_one (by omega) (by omega) (by omega) (by omega)) (by rw [rangeSize_one];split <;> omega) hn q)⟩
end
section
variable {H:Hp}
theorem Ha {lo hi:Int} {n:Nat} {R:Int->Int->Nat->Prop} (e:hi=lo+n) (h0:0<=lo) (h1:lo<=1000000) (hn:n<=1000000) (h:R lo 1 n):Yd [.int lo,.int hi] H R:=⟨lo,n,by rw [e],h0,h1,hn,h⟩
end
end L2
namespace L2
open PySem PySem.Spec PyProof.Rows
open PySem.Sem (wp)
open AutoSeq1 (wpAny_loadPart')
end L2
namespace L2
open PySem PySem.Spec PyProof.Rows
section
open PySem.SeqAt PySem.MeetsSeq PySem.MeetsSeq2 PySem.MeetsSeq3
open PySem.AutoSeq1 (wpAny_loadPart')
end
section
variable {X:Cx} {x:Str} {pos:Pos} {sc:Scope}
theorem ao (i:Nat) (h:autoParam (X.env.scope.names.lookup x=some .local) L2.auto7._auto_1) (hN:autoParam (X.N[i]?=some x) L2.auto4._auto_1) (hd:autoParam ((x == ("__debug__":Str))=false) L2.auto6._auto_1) (hcd:autoParam ((x == ("__classdict__":Str))=false) L2.auto6._auto_1):JE X (.Name x pos) (rF i):=UW i h hN rfl hd hcd
theorem cC (i:Nat) (h:autoParam (X.env.scope.names.lookup x=some .cell) L2.auto7._auto_1) (hN:autoParam (X.N[i]?=some x) L2.auto4._auto_1) (hd:autoParam ((x == ("__debug__":Str))=false) L2.auto6._auto_1) (hcd:autoParam ((x == ("__classdict__":Str))=false) L2.auto6._auto_1):JE X (.Name x pos) (rF i):=j_vC i h hN rfl hd hcd
theorem aO (h:autoParam (X.env.scope.names.lookup x=some .globalImplicit) L2.auto7._auto_1):Gl X x:=h
theorem dj (h:autoParam (sc.names.lookup x=some .local) L2.auto7._auto_1):Loc sc x:=.inl h
theorem QQ (h:autoParam (sc.names.lookup x=some .cell) L2.auto7._auto_1):Loc sc x:=.inr h
end
theorem z8 {K:W.Frag} {mg:Str->Option Value} {h:Heap} (X:K.In h) (G:h.Ns mainGlobals mg) {x1 x2 x3 x4 x5 m qual:Str} {C1 C2 C3 C4 C5 f:Addr} {st:Stmt} {oc:Value} {od an:Option Addr} {osl:Array (Option Value)} {kV doc pm cdv ct:Value}
  (a1:PySem.W.nsIn K mainGlobals x1=some (some (.ref C1))) (a2:PySem.W.nsIn K mainGlobals x2=some (some (.ref C2))) (a3:PySem.W.nsIn K mainGlobals x3=some (some (.ref C3))) (a4:PySem.W.nsIn K mainGlobals x4=some (some (.ref C4))) (a5:PySem.W.nsIn K mainGlobals x5=some (some (.ref C5)))
  (i1:PySem.W.findIn K (.ref C1) m=some (some (.ref f))) (i2:PySem.W.findIn K (.ref C2) m=some (some (.ref f))) (i3:PySem.W.findIn K (.ref C3) m=some (some (.ref f))) (i4:PySem.W.findIn K (.ref C4) m=some (some (.ref f))) (i5:PySem.W.findIn K (.ref C5) m=some (some (.ref f)))
  (n:PySem.W.isFn K (.ref f)=true)
  (l:K.lookup f=some ⟨oc,od,.func (PySem.W.fnOf m qual (cu st) (bC st) (az st) .none kV doc pm an cdv ct),osl⟩) (c:PySem.W.codeIn K cdv qual=true) (k:PySem.W.keepIn K (.ref f)=true):rC K mg [x1,x2,x3,x4,x5] m qual st:=by
 have e1:=cJ (ZQ X G a1)
 have e2:=cJ (ZQ X G a2)
 have e3:=cJ (ZQ X G a3)
 have e4:=cJ (ZQ X G a4)
 have e5:=cJ (ZQ X G a5)
 refine ⟨f,_,fun x hx=>?_,wj l c k⟩
 simp only [Za,Zz,or_false] at hx
 rcases hx with rfl | rfl | rfl | rfl | rfl
 ·rw [e1];exact ⟨i1,n,k⟩
 ·rw [e2];exact ⟨i2,n,k⟩
 ·rw [e3];exact ⟨i3,n,k⟩
 ·rw [e4];exact ⟨i4,n,k⟩
 ·rw [e5];exact ⟨i5,n,k⟩
theorem QR {K:W.Frag} {mg:Str->Option Value} {x1 x2 x3 x4 x5:Str} (h1:iK K mg x1) (h2:iK K mg x2) (h3:iK K mg x3) (h4:iK K mg x4) (h5:iK K mg x5):YH K mg [x1,x2,x3,x4,x5]:=fun x hx=>by
 simp only [Za,Zz,or_false] at hx
 rcases hx with rfl | rfl | rfl | rfl | rfl
 ·exact h1.cl
 ·exact h2.cl
 ·exact h3.cl
 ·exact h4.cl
 ·exact h5.cl
end L2
namespace My
open PySem L2
local macro_rules | `(tactic| walk_at "p") => `(tactic| first | exact aX _ | with_unfolding_all rfl)
local macro_rules | `(tactic| walk_at "0") => `(tactic| (first | refine qM ?_ | refine o8 ?_ | refine oX ?_ | refine jW ?_ | refine jX ?_ | (refine' jK ?hz0 ?_; (case hz0 => with_unfolding_all rfl)) | refine Dv ?_ | refine qR ?_ | refine fO ?_ | refine fj ?_ | refine jL ?_ | refine jC ?_ | refine eQ ?_ | refine jE ?_ | refine eO ?_ | refine qJ ?_ | refine eV ?_ | refine qT ?_ | refine qO ?_ | refine fu ?_ | refine qK ?_ | refine jF ?_ | refine jG ?_ | refine qL ?_ | refine eY ?_ | refine jH ?_ | refine eZ ?_ | refine jJ ?_ | refine jD ?_ | refine eU ?_ | refine qN ?_ | refine yF ?_ | refine yG ?_ | refine qP ?_ | refine qQ ?_ | refine jM ?_ | refine fB ?_ | refine fG ?_ | refine fH ?_ | refine fJ ?_ | refine fK ?_ | refine fM ?_ | refine jN ?_ | refine Dy ?_ | refine cH ?_ | refine fU ?_ | (refine' dq (SqT.of ?hz0) ?hz1 ?_; (case hz0 => first | assumption | exact aq); (case hz1 => rfl)) | refine cL ?_ | refine cO ?_ | refine jR ?_ | refine cM ?_ | refine fX ?_ | refine jT ?_ | refine fY ?_ | refine dM ?_ | refine dN ?_ | refine fZ ?_ | refine f9 ?_ | refine jU ?_ | refine jV ?_ | refine bO ?_ | refine qU ?_ | refine dI ?_ | refine dJ ?_ | refine fV ?_ | refine fW ?_ | refine cI ?_ | refine jl ?_ | refine fQ ?_ | (refine' Dw ?hz0 ?_; (case hz0 => with_unfolding_all first | assumption | omega | (dsimp only <;> omega) | exact ⟨by omega, by omega⟩ | exact .inl ⟨by omega, by omega⟩ | exact .inr ⟨by omega, by omega⟩ | exact ⟨by decide, by decide, by decide⟩)) | (refine' fP ?hz0 ?_; (case hz0 => with_unfolding_all first | assumption | omega | (dsimp only <;> omega) | exact ⟨by omega, by omega⟩ | exact .inl ⟨by omega, by omega⟩ | exact .inr ⟨by omega, by omega⟩ | exact ⟨by decide, by decide, by decide⟩)) | (refine' bG (SqL.of ?hz0) ?hz1 ?_; (case hz0 => first | assumption | exact aq); (case hz1 => with_unfolding_all rfl)) | (refine' jO (SqT.of ?hz0) ?hz1 ?_; (case hz0 => first | assumption | exact aq); (case hz1 => with_unfolding_all rfl)) | (refine' dG ?hz0 ?hz1 ?_; (case hz0 => first | assumption | exact aq); (case hz1 => with_unfolding_all rfl)) | refine cQ ?_ | refine cR ?_ | refine j0 ?_ | refine gb ?_ | refine cT ?_ | refine gf ?_ | refine cU ?_ | refine iz ?_ | refine iy ?_))
local macro_rules | `(tactic| walk_at "1") => `(tactic| (first | refine qM ?_ | refine o8 ?_ | refine oX ?_ | refine jW ?_ | refine jX ?_ | (refine' jK ?hz0 ?_; (case hz0 => with_unfolding_all rfl)) | refine Dv ?_ | refine qR ?_ | refine fO ?_ | refine fj ?_ | refine jL ?_ | refine jC ?_ | refine eQ ?_ | refine jE ?_ | refine eO ?_ | refine qJ ?_ | refine eV ?_ | refine qT ?_ | refine qO ?_ | refine fu ?_ | refine qK ?_ | refine jF ?_ | refine jG ?_ | refine qL ?_ | refine eY ?_ | refine jH ?_ | refine eZ ?_ | refine jJ ?_ | refine jD ?_ | refine eU ?_ | refine qN ?_ | refine yF ?_ | refine yG ?_ | refine qP ?_ | refine qQ ?_ | refine jM ?_ | refine fB ?_ | refine fG ?_ | refine fH ?_ | refine fJ ?_ | refine fK ?_ | refine fM ?_ | refine jN ?_ | refine Dy ?_ | refine cH ?_ | refine fU ?_ | (refine' dq (SqT.of ?hz0) ?hz1 ?_; (case hz0 => first | assumption | exact aq); (case hz1 => rfl)) | refine cL ?_ | refine cO ?_ | refine jR ?_ | refine cM ?_ | refine fX ?_ | refine jT ?_ | refine fY ?_ | refine dM ?_ | refine dN ?_ | refine fZ ?_ | refine f9 ?_ | refine jU ?_ | refine jV ?_ | refine bO ?_ | refine qU ?_ | refine dI ?_ | refine dJ ?_ | refine fV ?_ | refine fW ?_ | refine cI ?_ | refine jl ?_ | refine fQ ?_ | (refine' Dw ?hz0 ?_; (case hz0 => with_unfolding_all first | assumption | omega | (dsimp only <;> omega) | exact ⟨by omega, by omega⟩ | exact .inl ⟨by omega, by omega⟩ | exact .inr ⟨by omega, by omega⟩ | exact ⟨by decide, by decide, by decide⟩)) | (refine' fP ?hz0 ?_; (case hz0 => with_unfolding_all first | assumption | omega | (dsimp only <;> omega) | exact ⟨by omega, by omega⟩ | exact .inl ⟨by omega, by omega⟩ | exact .inr ⟨by omega, by omega⟩ | exact ⟨by decide, by decide, by decide⟩)) | (refine' bG (SqL.of ?hz0) ?hz1 ?_; (case hz0 => first | assumption | exact aq); (case hz1 => with_unfolding_all rfl)) | (refine' jO (SqT.of ?hz0) ?hz1 ?_; (case hz0 => first | assumption | exact aq); (case hz1 => with_unfolding_all rfl)) | (refine' dG ?hz0 ?hz1 ?_; (case hz0 => first | assumption | exact aq); (case hz1 => with_unfolding_all rfl)) | refine cQ ?_ | refine cR ?_ | refine j0 ?_ | refine gb ?_ | refine cT ?_ | refine gf ?_ | refine cU ?_ | refine vQ ?_ | (refine' GX ?hz0 ?_; (case hz0 => with_unfolding_all rfl)) | refine iz ?_ | refine iy ?_))
local macro_rules | `(tactic| walk_at "2") => `(tactic| (first | refine qM ?_ | refine o8 ?_ | refine oX ?_ | refine jW ?_ | refine jX ?_ | (refine' jK ?hz0 ?_; (case hz0 => with_unfolding_all rfl)) | refine Dv ?_ | refine qR ?_ | refine fO ?_ | refine fj ?_ | refine jL ?_ | refine jC ?_ | refine eQ ?_ | refine jE ?_ | refine eO ?_ | refine qJ ?_ | refine eV ?_ | refine qT ?_ | refine qO ?_ | refine fu ?_ | refine qK ?_ | refine jF ?_ | refine jG ?_ | refine qL ?_ | refine eY ?_ | refine jH ?_ | refine eZ ?_ | refine jJ ?_ | refine jD ?_ | refine eU ?_ | refine qN ?_ | refine yF ?_ | refine yG ?_ | refine qP ?_ | refine qQ ?_ | refine jM ?_ | refine fB ?_ | refine fG ?_ | refine fH ?_ | refine fJ ?_ | refine fK ?_ | refine fM ?_ | refine jN ?_ | refine Dy ?_ | refine cH ?_ | refine fU ?_ | (refine' dq (SqT.of ?hz0) ?hz1 ?_; (case hz0 => first | assumption | exact aq); (case hz1 => rfl)) | refine cL ?_ | refine cO ?_ | refine jR ?_ | refine cM ?_ | refine fX ?_ | refine jT ?_ | refine fY ?_ | refine dM ?_ | refine dN ?_ | refine fZ ?_ | refine f9 ?_ | refine jU ?_ | refine jV ?_ | refine bO ?_ | refine qU ?_ | refine dI ?_ | refine dJ ?_ | refine fV ?_ | refine fW ?_ | refine cI ?_ | refine jl ?_ | refine fQ ?_ | (refine' Dw ?hz0 ?_; (case hz0 => with_unfolding_all first | assumption | omega | (dsimp only <;> omega) | exact ⟨by omega, by omega⟩ | exact .inl ⟨by omega, by omega⟩ | exact .inr ⟨by omega, by omega⟩ | exact ⟨by decide, by decide, by decide⟩)) | (refine' fP ?hz0 ?_; (case hz0 => with_unfolding_all first | assumption | omega | (dsimp only <;> omega) | exact ⟨by omega, by omega⟩ | exact .inl ⟨by omega, by omega⟩ | exact .inr ⟨by omega, by omega⟩ | exact ⟨by decide, by decide, by decide⟩)) | (refine' bG (SqL.of ?hz0) ?hz1 ?_; (case hz0 => first | assumption | exact aq); (case hz1 => with_unfolding_all rfl)) | (refine' jO (SqT.of ?hz0) ?hz1 ?_; (case hz0 => first | assumption | exact aq); (case hz1 => with_unfolding_all rfl)) | (refine' dG ?hz0 ?hz1 ?_; (case hz0 => first | assumption | exact aq); (case hz1 => with_unfolding_all rfl)) | refine cQ ?_ | refine cR ?_ | refine j0 ?_ | refine gb ?_ | refine cT ?_ | refine gf ?_ | refine cU ?_))
local macro_rules | `(tactic| walk_at "3") => `(tactic| (first | refine qM ?_ | refine o8 ?_ | refine oX ?_ | refine jW ?_ | refine jX ?_ | (refine' jK ?hz0 ?_; (case hz0 => with_unfolding_all rfl)) | refine Dv ?_ | refine qR ?_ | refine fO ?_ | refine fj ?_ | refine jL ?_ | refine jC ?_ | refine eQ ?_ | refine jE ?_ | refine eO ?_ | refine qJ ?_ | refine eV ?_ | refine qT ?_ | refine qO ?_ | refine fu ?_ | refine qK ?_ | refine jF ?_ | refine jG ?_ | refine qL ?_ | refine eY ?_ | refine jH ?_ | refine eZ ?_ | refine jJ ?_ | refine jD ?_ | refine eU ?_ | refine qN ?_ | refine mC ?_ | refine mz ?_ | refine qP ?_ | refine qQ ?_ | refine jM ?_ | refine fB ?_ | refine fG ?_ | refine fH ?_ | refine fJ ?_ | refine fK ?_ | refine fM ?_ | refine jN ?_ | refine Dy ?_ | refine cH ?_ | refine fU ?_ | (refine' dq (SqT.of ?hz0) ?hz1 ?_; (case hz0 => first | assumption | exact aq); (case hz1 => rfl)) | refine cL ?_ | refine cO ?_ | refine jR ?_ | refine cM ?_ | refine fX ?_ | refine jT ?_ | refine fY ?_ | refine dM ?_ | refine dN ?_ | refine fZ ?_ | refine f9 ?_ | refine jU ?_ | refine jV ?_ | refine bO ?_ | refine qU ?_ | refine dI ?_ | refine dJ ?_ | refine fV ?_ | refine fW ?_ | refine cI ?_ | refine jl ?_ | refine fQ ?_ | (refine' Dw ?hz0 ?_; (case hz0 => with_unfolding_all first | assumption | omega | (dsimp only <;> omega) | exact ⟨by omega, by omega⟩ | exact .inl ⟨by omega, by omega⟩ | exact .inr ⟨by omega, by omega⟩ | exact ⟨by decide, by decide, by decide⟩)) | (refine' fP ?hz0 ?_; (case hz0 => with_unfolding_all first | assumption | omega | (dsimp only <;> omega) | exact ⟨by omega, by omega⟩ | exact .inl ⟨by omega, by omega⟩ | exact .inr ⟨by omega, by omega⟩ | exact ⟨by decide, by decide, by decide⟩)) | (refine' bG (SqL.of ?hz0) ?hz1 ?_; (case hz0 => first | assumption | exact aq); (case hz1 => with_unfolding_all rfl)) | (refine' jO (SqT.of ?hz0) ?hz1 ?_; (case hz0 => first | assumption | exact aq); (case hz1 => with_unfolding_all rfl)) | (refine' dG ?hz0 ?hz1 ?_; (case hz0 => first | assumption | exact aq); (case hz1 => with_unfolding_all rfl)) | refine cQ ?_ | refine cR ?_ | refine j0 ?_ | refine gb ?_ | refine cT ?_ | refine gf ?_ | refine cU ?_ | refine iz ?_ | refine iy ?_))
local macro_rules | `(tactic| walk_at "4") => `(tactic| (first | refine qM ?_ | refine o8 ?_ | refine oX ?_ | refine jW ?_ | refine jX ?_ | (refine' jK ?hz0 ?_; (case hz0 => with_unfolding_all rfl)) | refine Dv ?_ | refine qR ?_ | refine fO ?_ | refine fj ?_ | refine jL ?_ | refine jC ?_ | refine eQ ?_ | refine jE ?_ | refine eO ?_ | refine qJ ?_ | refine eV ?_ | refine qT ?_ | refine qO ?_ | refine fu ?_ | refine qK ?_ | refine jF ?_ | refine jG ?_ | refine qL ?_ | refine eY ?_ | refine jH ?_ | refine eZ ?_ | refine jJ ?_ | refine jD ?_ | refine eU ?_ | refine qN ?_ | refine mC ?_ | refine mz ?_ | refine qP ?_ | refine qQ ?_ | refine jM ?_ | refine fB ?_ | refine fG ?_ | refine fH ?_ | refine fJ ?_ | refine fK ?_ | refine fM ?_ | refine jN ?_ | refine Dy ?_ | refine cH ?_ | refine fU ?_ | (refine' dq (SqT.of ?hz0) ?hz1 ?_; (case hz0 => first | assumption | exact aq); (case hz1 => rfl)) | refine cL ?_ | refine cO ?_ | refine jR ?_ | refine cM ?_ | refine fX ?_ | refine jT ?_ | refine fY ?_ | refine dM ?_ | refine dN ?_ | refine fZ ?_ | refine f9 ?_ | refine jU ?_ | refine jV ?_ | refine bO ?_ | refine qU ?_ | refine dI ?_ | refine dJ ?_ | refine fV ?_ | refine fW ?_ | refine cI ?_ | refine jl ?_ | refine fQ ?_ | (refine' Dw ?hz0 ?_; (case hz0 => with_unfolding_all first | assumption | omega | (dsimp only <;> omega) | exact ⟨by omega, by omega⟩ | exact .inl ⟨by omega, by omega⟩ | exact .inr ⟨by omega, by omega⟩ | exact ⟨by decide, by decide, by decide⟩)) | (refine' fP ?hz0 ?_; (case hz0 => with_unfolding_all first | assumption | omega | (dsimp only <;> omega) | exact ⟨by omega, by omega⟩ | exact .inl ⟨by omega, by omega⟩ | exact .inr ⟨by omega, by omega⟩ | exact ⟨by decide, by decide, by decide⟩)) | (refine' bG (SqL.of ?hz0) ?hz1 ?_; (case hz0 => first | assumption | exact aq); (case hz1 => with_unfolding_all rfl)) | (refine' jO (SqT.of ?hz0) ?hz1 ?_; (case hz0 => first | assumption | exact aq); (case hz1 => with_unfolding_all rfl)) | (refine' dG ?hz0 ?hz1 ?_; (case hz0 => first | assumption | exact aq); (case hz1 => with_unfolding_all rfl)) | refine cQ ?_ | refine cR ?_ | refine j0 ?_ | refine gb ?_ | refine Nj ?_ | refine cT ?_ | refine gf ?_ | refine cU ?_ | refine iz ?_ | refine iy ?_))
local macro_rules | `(tactic| walk_at "5") => `(tactic| (first | refine qM ?_ | refine o8 ?_ | refine oX ?_ | refine jW ?_ | refine jX ?_ | (refine' jK ?hz0 ?_; (case hz0 => with_unfolding_all rfl)) | refine Dv ?_ | refine qR ?_ | refine fO ?_ | refine fj ?_ | refine jL ?_ | refine jC ?_ | refine eQ ?_ | refine jE ?_ | refine eO ?_ | refine qJ ?_ | refine eV ?_ | refine qT ?_ | refine qO ?_ | refine fu ?_ | refine qK ?_ | refine jF ?_ | refine jG ?_ | refine qL ?_ | refine eY ?_ | refine jH ?_ | refine eZ ?_ | refine jJ ?_ | refine jD ?_ | refine eU ?_ | refine qN ?_ | refine mC ?_ | refine mz ?_ | refine qP ?_ | refine qQ ?_ | refine jM ?_ | refine fB ?_ | refine fG ?_ | refine fH ?_ | refine fJ ?_ | refine fK ?_ | refine fM ?_ | refine jN ?_ | refine Dy ?_ | refine cH ?_ | refine fU ?_ | (refine' dq (SqT.of ?hz0) ?hz1 ?_; (case hz0 => first | assumption | exact aq); (case hz1 => rfl)) | refine cL ?_ | refine cO ?_ | refine jR ?_ | refine cM ?_ | refine fX ?_ | refine jT ?_ | refine fY ?_ | refine dM ?_ | refine dN ?_ | refine fZ ?_ | refine f9 ?_ | refine jU ?_ | refine jV ?_ | refine bO ?_ | refine qU ?_ | refine dI ?_ | refine dJ ?_ | refine fV ?_ | refine fW ?_ | refine cI ?_ | refine jl ?_ | refine fQ ?_ | (refine' Dw ?hz0 ?_; (case hz0 => with_unfolding_all first | assumption | omega | (dsimp only <;> omega) | exact ⟨by omega, by omega⟩ | exact .inl ⟨by omega, by omega⟩ | exact .inr ⟨by omega, by omega⟩ | exact ⟨by decide, by decide, by decide⟩)) | (refine' fP ?hz0 ?_; (case hz0 => with_unfolding_all first | assumption | omega | (dsimp only <;> omega) | exact ⟨by omega, by omega⟩ | exact .inl ⟨by omega, by omega⟩ | exact .inr ⟨by omega, by omega⟩ | exact ⟨by decide, by decide, by decide⟩)) | (refine' bG (SqL.of ?hz0) ?hz1 ?_; (case hz0 => first | assumption | exact aq); (case hz1 => with_unfolding_all rfl)) | (refine' jO (SqT.of ?hz0) ?hz1 ?_; (case hz0 => first | assumption | exact aq); (case hz1 => with_unfolding_all rfl)) | (refine' dG ?hz0 ?hz1 ?_; (case hz0 => first | assumption | exact aq); (case hz1 => with_unfolding_all rfl)) | refine cQ ?_ | refine cR ?_ | refine j0 ?_ | refine gb ?_ | refine cT ?_ | refine gf ?_ | refine cU ?_ | refine iz ?_ | refine iy ?_ | refine Nh ?_))
local macro_rules | `(tactic| walk_at "6") => `(tactic| (first | refine qM ?_ | refine o8 ?_ | refine oX ?_ | refine jW ?_ | refine jX ?_ | (refine' jK ?hz0 ?_; (case hz0 => with_unfolding_all rfl)) | refine Dv ?_ | refine qR ?_ | refine fO ?_ | refine fj ?_ | refine jL ?_ | refine jC ?_ | refine eQ ?_ | refine jE ?_ | refine eO ?_ | refine qJ ?_ | refine eV ?_ | refine qT ?_ | refine qO ?_ | refine fu ?_ | refine qK ?_ | refine jF ?_ | refine jG ?_ | refine qL ?_ | refine eY ?_ | refine jH ?_ | refine eZ ?_ | refine jJ ?_ | refine jD ?_ | refine eU ?_ | refine qN ?_ | refine mC ?_ | refine mz ?_ | refine qP ?_ | refine qQ ?_ | refine jM ?_ | refine fB ?_ | refine fG ?_ | refine fH ?_ | refine fJ ?_ | refine fK ?_ | refine fM ?_ | refine jN ?_ | refine Dy ?_ | refine cH ?_ | refine fU ?_ | (refine' dq (SqT.of ?hz0) ?hz1 ?_; (case hz0 => first | assumption | exact aq); (case hz1 => rfl)) | refine cL ?_ | refine cO ?_ | refine jR ?_ | refine cM ?_ | refine fX ?_ | refine jT ?_ | refine fY ?_ | refine dM ?_ | refine dN ?_ | refine fZ ?_ | refine f9 ?_ | refine jU ?_ | refine jV ?_ | refine bO ?_ | refine qU ?_ | refine dI ?_ | refine dJ ?_ | refine fV ?_ | refine fW ?_ | refine cI ?_ | refine jl ?_ | refine fQ ?_ | (refine' Dw ?hz0 ?_; (case hz0 => with_unfolding_all first | assumption | omega | (dsimp only <;> omega) | exact ⟨by omega, by omega⟩ | exact .inl ⟨by omega, by omega⟩ | exact .inr ⟨by omega, by omega⟩ | exact ⟨by decide, by decide, by decide⟩)) | (refine' fP ?hz0 ?_; (case hz0 => with_unfolding_all first | assumption | omega | (dsimp only <;> omega) | exact ⟨by omega, by omega⟩ | exact .inl ⟨by omega, by omega⟩ | exact .inr ⟨by omega, by omega⟩ | exact ⟨by decide, by decide, by decide⟩)) | (refine' bG (SqL.of ?hz0) ?hz1 ?_; (case hz0 => first | assumption | exact aq); (case hz1 => with_unfolding_all rfl)) | (refine' jO (SqT.of ?hz0) ?hz1 ?_; (case hz0 => first | assumption | exact aq); (case hz1 => with_unfolding_all rfl)) | (refine' dG ?hz0 ?hz1 ?_; (case hz0 => first | assumption | exact aq); (case hz1 => with_unfolding_all rfl)) | refine cQ ?_ | refine cR ?_ | refine j0 ?_ | refine gb ?_ | refine cT ?_ | refine gf ?_ | refine cU ?_ | refine vQ ?_ | (refine' GX ?hz0 ?_; (case hz0 => with_unfolding_all rfl)) | refine iz ?_ | refine iy ?_))
abbrev Wt (d:Stmt) (x:Str):Prop:=(az d).names.lookup x=some NameKind.local
def nI (cs:List Nat):List Int:=cs.map fun i:Nat=>(i:Int)
def qX (E:List Nat) (p:Nat):Bool:=decide (E.getD p 0 < E.getD (p+1) 0)
def aQ (E:List Nat) (p:Nat):List Nat:=if qX E p=true then (E.set p (E.getD (p+1) 0)).set (p+1) (E.getD p 0) else E
def bw (E:List Nat) (ps:List Nat):List Nat:=ps.foldl aQ E
theorem mY (E ps:List Nat) (p:Nat):bw E (ps ++ [p])=aQ (bw E ps) p:=by unfold bw;rw [List.foldl_append];rfl
theorem qx (E:List Nat) (p:Nat):(aQ E p).length=E.length:=by unfold aQ;split <;> simp
theorem jo (E ps:List Nat):(bw E ps).length=E.length:=by
 induction ps generalizing E with
 | nil=>rfl
 | cons p ps ih=>exact (ih (aQ E p)).trans (qx E p)
theorem yR {E:List Nat} {p:Nat} (h:p+1 < E.length):E=E.take p ++ E.getD p 0 :: E.getD (p+1) 0 :: E.drop (p+2)/\(E.set p (E.getD (p+1) 0)).set (p+1) (E.getD p 0)=E.take p ++ E.getD (p+1) 0 :: E.getD p 0 :: E.drop (p+2):=by
 have e1:E.getD p 0=E[p]:=by rw [YT,YX (by omega)];rfl
 have e2:E.getD (p+1) 0=E[p+1]:=by rw [YT,YX h];rfl
 have f:E=E.take p ++ E.getD p 0 :: E.getD (p+1) 0 :: E.drop (p+2):=by
  rw [e1,e2]
  conv=>lhs;rw [← List.take_append_drop p E]
  rw [List.drop_eq_getElem_cons (by omega),List.drop_eq_getElem_cons h]
 refine ⟨f,?_⟩
 generalize E.getD p 0=a at f ⊢
 generalize E.getD (p+1) 0=b at f ⊢
 have lt:(E.take p).length=p:=by rw [Aav];omega
 conv=>lhs;rw [f]
 rw [List.set_append_right _ _ (by omega),lt,Aa8,List.set_cons_zero,List.set_append_right _ _ (by omega),lt,show p+1 - p=1 by omega]
 rfl
theorem rP {E:List Nat} {p:Nat} (h:p+1 < E.length):(aQ E p).Perm E:=by
 unfold aQ
 split
 ·obtain ⟨f1,f2⟩:=yR h
  rw [f2]
  conv=>rhs;rw [f1]
  exact (List.Perm.swap _ _ _).append_left _
 ·exact List.Perm.refl _
theorem qy {ps:List Nat}:∀ {E:List Nat},(∀ p∈ps,p+1 < E.length)->(bw E ps).Perm E:=by
 induction ps with
 | nil=>intro E _;exact List.Perm.refl _
 | cons p ps ih=>
  intro E h
  have h1:=rP (h p (by simp))
  exact (ih (E:=aQ E p) fun q hq=>by rw [qx];exact h q (Zb _ hq)).trans h1
def Nq (E:List Nat) (ps:List Nat) (i:Nat):List Nat:=(List.range i).filter fun j=>qX (bw E (ps.take j)) (ps.getD j 0)
theorem Cv (E ps:List Nat) (i:Nat):Nq E ps (i+1)=Nq E ps i ++ (if qX (bw E (ps.take i)) (ps.getD i 0)=true then [i] else []):=by
 unfold Nq
 rw [AaQ,List.filter_append]
 congr 1
 by_cases h:qX (bw E (ps.take i)) (ps.getD i 0)=true
 ·rw [if_pos h,List.filter_cons_of_pos (p:=fun j=>qX (bw E (ps.take j)) (ps.getD j 0)) h];rfl
 ·rw [if_neg h,List.filter_cons_of_neg (p:=fun j=>qX (bw E (ps.take j)) (ps.getD j 0)) h];rfl
theorem QS (E ps:List Nat) (i:Nat):(Nq E ps i).length<=i:=Zo (List.length_filter_le _ _) (by simp)
theorem uH {ps:List Nat} {i:Nat} (h:i < ps.length):ps.take (i+1)=ps.take i ++ [ps.getD i 0]:=by
 rw [Aai,YT,YX h];rfl
def rQ (n:Nat):List (Nat×Nat):=(List.range n).flatMap fun x=>(List.range' (x+1) (n - (x+1))).map fun y=>(x,y)
def cr (t:List Nat):Nat:=(rQ t.length).countP fun p=>decide (t.getD p.2 0 < t.getD p.1 0)
theorem rR {n:Nat} {p:Nat×Nat}:p∈rQ n↔p.1 < p.2/\p.2 < n:=by
 unfold rQ
 simp only [Aa9,ZD,Zj,List.mem_range']
 constructor
 ·rintro ⟨x,hx,y,⟨i,hi,rfl⟩,rfl⟩
  exact ⟨by show x < x+1+1*i;omega,by show x+1+1*i < n;omega⟩
 ·rintro ⟨h1,h2⟩
  exact ⟨p.1,by omega,p.2,⟨p.2 - (p.1+1),by omega,by omega⟩,rfl⟩
theorem z9 (n:Nat):(rQ n).Nodup:=by
 unfold rQ List.Nodup
 rw [List.pairwise_flatMap]
 refine ⟨fun x _=>?_,?_⟩
 ·rw [List.pairwise_map]
  exact (List.nodup_range' (s:=x+1) (n:=n - (x+1))).imp fun h e=>h (by injection e)
 ·refine List.nodup_range.imp fun {x y} h p hp q hq e=>?_
  obtain ⟨_,_,rfl⟩:=ZD.mp hp
  obtain ⟨_,_,rfl⟩:=ZD.mp hq
  injection e with e1 e2
  exact h e1
theorem yS {α:Type} {P Q:α->Bool} {a:α}:∀ {l:List α},l.Nodup->a∈l->(∀ b∈l,b≠a->P b=Q b)->P a=false->Q a=true->l.countP Q=l.countP P+1
 | [],_,h,_,_,_=>by cases h
 | b :: l,hn,h,he,hP,hQ=>by
  obtain ⟨hb,hn'⟩:=List.nodup_cons.mp hn
  by_cases hab:b=a
  ·subst hab
   rw [List.countP_cons_of_pos hQ,List.countP_cons_of_neg (by rw [hP];simp)]
   congr 1
   exact List.countP_congr fun c hc=>by rw [he c (Zb _ hc) (fun z=>hb (z ▸ hc))]
  ·have ih:=yS hn' ((Za.mp h).resolve_left fun z=>hab z.symm) (fun c hc=>he c (Zb _ hc)) hP hQ
   have e:=he b (by simp) hab
   cases hq:Q b with
   | true=>rw [List.countP_cons_of_pos hq,List.countP_cons_of_pos (by rw [e,hq]),ih]
   | false=>rw [List.countP_cons_of_neg (by rw [hq];simp),List.countP_cons_of_neg (by rw [e,hq];simp),ih]
def inv (E:List Nat):List Nat:=(List.range E.length).map fun x=>E.idxOf x
theorem bD (E:List Nat):(inv E).length=E.length:=by simp [inv]
theorem iU {E:List Nat} {x:Nat} (h:x < E.length):(inv E).getD x 0=E.idxOf x:=by
 unfold inv
 rw [YT,Y8,Zi h];rfl
theorem dz {E:List Nat} (hn:E.Nodup) {i x:Nat} (h:E[i]?=some x):E.idxOf x=i:=by
 obtain ⟨hi,rfl⟩:=Y4.mp h
 exact hn.idxOf_getElem i hi
theorem QT {E:List Nat} {n p:Nat} (hE:E.Perm (List.range n)) (hp:p+1 < n) (hw:qX E p=true):cr (inv (aQ E p))=cr (inv E)+1:=by
 have hl:E.length=n:=by rw [hE.length_eq];simp
 have nd:E.Nodup:=hE.nodup_iff.mpr Aba
 have hlt:∀ x∈E,x < n:=fun x hx=>Zj.mp (hE.mem_iff.mp hx)
 have hin:∀ x,x < n->x∈E:=fun x hx=>hE.mem_iff.mpr (Zj.mpr hx)
 obtain ⟨a,ha⟩:∃ a,E[p]?=some a:=⟨_,YX (by omega)⟩
 obtain ⟨b,hb⟩:∃ b,E[p+1]?=some b:=⟨_,YX (by omega)⟩
 have da:E.getD p 0=a:=by rw [YT,ha];rfl
 have db:E.getD (p+1) 0=b:=by rw [YT,hb];rfl
 have hab:a < b:=by
  unfold qX at hw
  rw [da,db] at hw
  exact AaV hw
 have eF:aQ E p=(E.set p b).set (p+1) a:=by unfold aQ;rw [if_pos hw,da,db]
 have fp:=rP (E:=E) (p:=p) (by omega)
 have nF:(aQ E p).Nodup:=fp.nodup_iff.mpr nd
 have lF:(aQ E p).length=n:=by rw [qx];exact hl
 have gF:∀ i,(aQ E p)[i]?=if i=p+1 then some a else if i=p then some b else E[i]?:=fun i=>by
  rw [eF]
  by_cases h1:i=p+1
  ·subst h1
   rw [if_pos rfl,ZV (by simp;omega)]
  ·rw [if_neg h1,ZC (fun z=>h1 z.symm)]
   by_cases h2:i=p
   ·subst h2
    rw [if_pos rfl,ZV (by omega)]
   ·rw [if_neg h2,ZC (fun z=>h2 z.symm)]
 have ia:E.idxOf a=p:=dz nd ha
 have ib:E.idxOf b=p+1:=dz nd hb
 have ja:(aQ E p).idxOf a=p+1:=dz nF (by rw [gF,if_pos rfl])
 have jb:(aQ E p).idxOf b=p:=dz nF (by rw [gF,if_neg (by omega),if_pos rfl])
 have other:∀ x,x < n->x≠a->x≠b->(aQ E p).idxOf x=E.idxOf x/\E.idxOf x≠p/\E.idxOf x≠p+1:=fun x hx h1 h2=>by
  obtain ⟨i,hi,e⟩:=AaZ.mp (hin x hx)
  have ei:E[i]?=some x:=by rw [YX hi,e]
  have n1:i≠p:=fun z=>h1 (by subst z;rw [ha] at ei;exact (Zv ei).symm)
  have n2:i≠p+1:=fun z=>h2 (by subst z;rw [hb] at ei;exact (Zv ei).symm)
  rw [dz nd ei]
  exact ⟨dz nF (by rw [gF,if_neg n2,if_neg n1,ei]),n1,n2⟩
 have han:a < n:=hlt a (Zd ha)
 have hbn:b < n:=hlt b (Zd hb)
 unfold cr
 rw [bD,bD,lF,hl]
 refine yS (a:=(a,b)) (z9 n) (rR.mpr ⟨hab,hbn⟩) ?_ ?_ ?_
 ·rintro ⟨x,y⟩ hxy hne
  obtain ⟨h1,h2⟩:=rR.mp hxy
  dsimp only at h1 h2 ⊢
  have hx:x < n:=by omega
  rw [iU (by omega),iU (by omega),iU (by omega),iU (by omega)]
  congr 1
  rw [eq_iff_iff]
  by_cases xa:x=a
  ·subst xa
   have yb:y≠b:=fun z=>hne (by rw [z])
   obtain ⟨o1,o2,o3⟩:=other y h2 (by omega) yb
   rw [o1,ia,ja];omega
  ·by_cases xb:x=b
   ·subst xb
    obtain ⟨o1,o2,o3⟩:=other y h2 (by omega) (by omega)
    rw [o1,ib,jb];omega
   ·obtain ⟨q1,q2,q3⟩:=other x hx xa xb
    by_cases ya:y=a
    ·subst ya
     rw [q1,ia,ja];omega
    ·by_cases yb:y=b
     ·subst yb
      rw [q1,ib,jb];omega
     ·obtain ⟨o1,_,_⟩:=other y h2 ya yb
      rw [q1,o1]
 ·dsimp only
  rw [iU (by omega),iU (by omega),ia,ib]
  exact Zc (by omega)
 ·dsimp only
  rw [iU (by omega),iU (by omega),ja,jb]
  exact Y7 (by omega)
theorem Nr (n:Nat):cr (inv (List.range n))=0:=by
 unfold cr
 rw [List.countP_eq_zero]
 rintro ⟨x,y⟩ h
 rw [bD,AaF] at h
 obtain ⟨h1,h2⟩:=rR.mp h
 dsimp only at h1 h2 ⊢
 have e:∀ z,z < n->(List.range n).idxOf z=z:=fun z hz=>dz Aba (Zi hz)
 rw [iU (by simpa using h2),iU (by simp;omega),e y h2,e x (by omega)]
 simp;omega
theorem Nt {n:Nat} {ps:List Nat} (hp:∀ p∈ps,p+1 < n):∀ i,i<=ps.length->cr (inv (bw (List.range n) (ps.take i)))=(Nq (List.range n) ps i).length
 | 0,_=>by rw [List.take_zero];exact Nr n
 | i+1,h=>by
  have ih:=Nt hp i (by omega)
  have hmem:ps.getD i 0∈ps:=by rw [YT,YX (by omega)];exact Aaw _
  have hpm:(bw (List.range n) (ps.take i)).Perm (List.range n):=qy fun q hq=>by simpa using hp q (Aa4 hq)
  rw [uH (by omega),mY,Cv]
  by_cases hw:qX (bw (List.range n) (ps.take i)) (ps.getD i 0)=true
  ·rw [QT hpm (hp _ hmem) hw,ih,if_pos hw];simp
  ·rw [if_neg hw,ZJ,← ih]
   unfold aQ
   rw [if_neg hw]
structure Prm (t:List Nat):Prop where
 le:t.length<=96
 pm:t.Perm (List.range t.length)
theorem Prm.nd {t:List Nat} (h:Prm t):t.Nodup:=h.pm.nodup_iff.mpr Aba
theorem Prm.lt {t:List Nat} (h:Prm t) {x:Nat} (hx:x∈t):x < t.length:=Zj.mp (h.pm.mem_iff.mp hx)
theorem Prm.mem {t:List Nat} (h:Prm t) {x:Nat} (hx:x < t.length):x∈t:=h.pm.mem_iff.mpr (Zj.mpr hx)
theorem Jx {n:Nat} (h:n<=96):Prm (List.range n):=⟨by simpa using h,by simp⟩
theorem Hb {n:Nat} {ps:List Nat} (h:n<=96) (hp:∀ p∈ps,p+1 < n):Prm (bw (List.range n) ps):=by
 have hl:(bw (List.range n) ps).length=n:=by rw [jo];simp
 refine ⟨by omega,?_⟩
 rw [hl]
 exact qy fun p hp'=>by simpa using hp p hp'
theorem uI {t r:List Nat} (hP:Prm t) (hl:r.length=t.length) (h:∀ (i x:Nat),t[i]?=some x->r[x]?=some i):r=inv t:=by
 refine AaU fun x=>?_
 by_cases hx:x < t.length
 ·obtain ⟨i,hi,e⟩:=AaZ.mp (hP.mem hx)
  have ei:t[i]?=some x:=by rw [YX hi,e]
  rw [h i x ei]
  unfold inv
  rw [Y8,Zi hx]
  show some i=some (t.idxOf x)
  rw [dz hP.nd ei]
 ·rw [ZZ (by omega),ZZ (by rw [bD];omega)]
theorem lV {E:List Nat} (h:Prm E):Prm (inv E):=by
 have hl:=bD E
 refine ⟨by rw [hl];exact h.le,?_⟩
 rw [hl]
 have nd:(inv E).Nodup:=by
  unfold inv
  unfold List.Nodup
  rw [List.pairwise_map]
  refine List.nodup_range.imp_of_mem fun {x y} hx hy ne e=>ne ?_
  have key:∀ z,z∈List.range E.length->E.getD (E.idxOf z) 0=z:=fun z hz=>by
   have hi:E.idxOf z < E.length:=List.idxOf_lt_length_iff.mpr (h.mem (Zj.mp hz))
   rw [YT,YX hi]
   exact List.getElem_idxOf hi
  rw [← key x hx,← key y hy,e]
 refine (List.perm_ext_iff_of_nodup nd Aba).mpr fun x=>?_
 rw [Zj]
 constructor
 ·intro hx
  unfold inv at hx
  obtain ⟨y,hy,rfl⟩:=ZD.mp hx
  exact List.idxOf_lt_length_iff.mpr (h.mem (Zj.mp hy))
 ·intro hx
  unfold inv
  refine ZD.mpr ⟨E[x],Zj.mpr (h.lt (Aaw hx)),?_⟩
  exact dz h.nd (YX hx)
theorem qz {t:List Nat} (h:Prm t):inv (inv t)=t:=by
 refine (uI (lV h) (by rw [bD]) fun i x e=>?_).symm
 have hi:i < t.length:=by have:=(Y4.mp e).1;rwa [bD] at this
 have e2:(inv t)[i]?=some (t.idxOf i):=by unfold inv;rw [Y8,Zi hi];rfl
 rw [e] at e2
 cases e2
 have hx:t.idxOf i < t.length:=List.idxOf_lt_length_iff.mpr (h.mem hi)
 rw [YX hx]
 exact congrArg some (List.getElem_idxOf hx)
def xr (B:List Nat) (p:Nat):List Nat:=(B.set p (B.getD (p+1) 0)).set (p+1) (B.getD p 0)
theorem nQ (B:List Nat) (p:Nat):(xr B p).length=B.length:=by unfold xr;simp
theorem getD_some {B:List Nat} {i:Nat} (h:i < B.length):B[i]?=some (B.getD i 0):=by rw [YT,YX h];rfl
theorem gO {B:List Nat} {p:Nat} (h:p+1 < B.length) (i:Nat):(xr B p).getD i 0=if i=p+1 then B.getD p 0 else if i=p then B.getD (p+1) 0 else B.getD i 0:=by
 unfold xr
 rw [YT]
 by_cases h1:i=p+1
 ·subst h1
  rw [if_pos rfl,ZV (by simp;omega)];rfl
 ·rw [if_neg h1,ZC (fun z=>h1 z.symm)]
  by_cases h2:i=p
  ·subst h2
   rw [if_pos rfl,ZV (by omega)];rfl
  ·rw [if_neg h2,ZC (fun z=>h2 z.symm),← YT]
theorem wO {A B:List Nat} (hl:A.length=B.length) (h:∀ i,i < A.length->A.getD i 0=B.getD i 0):A=B:=by
 refine AaU fun i=>?_
 by_cases hi:i < A.length
 ·rw [getD_some hi,getD_some (by omega),h i hi]
 ·rw [ZZ (by omega),ZZ (by omega)]
theorem QV {B:List Nat} {p:Nat} (h:p+1 < B.length):xr (xr B p) p=B:=by
 refine wO (by rw [nQ,nQ]) fun i _=>?_
 rw [gO (by rw [nQ];exact h),gO h,gO h,gO h]
 by_cases h1:i=p+1
 ·subst h1;simp
 ·by_cases h2:i=p
  ·subst h2;simp
  ·simp [h1,h2]
theorem wQ {B:List Nat} {p:Nat} (h:qX B p=true):aQ B p=xr B p:=by unfold aQ xr;rw [if_pos h]
def inn:Nat->List Nat->List Nat->List Nat×List Nat
 | 0,B,u=>(B,u)
 | p+1,B,u=>if B.getD (p+1) 0 < B.getD p 0 then inn p (xr B p) (u ++ [p]) else (B,u)
def uJ (B:List Nat):Nat->List Nat×List Nat
 | 0=>(B,[])
 | k+1=>inn (k+1) (uJ B k).1 (uJ B k).2
def Wk:List Nat->List Nat->Prop
 | _,[]=>True
 | B,p :: us=>qX B p=true/\Wk (aQ B p) us
theorem Sd:∀ {us B:List Nat} {j:Nat},Wk B us->j < us.length->qX (bw B (us.take j)) (us.getD j 0)=true
 | p :: us,B,0,h,_=>h.1
 | p :: us,B,j+1,h,hj=>Sd (us:=us) (B:=aQ B p) (j:=j) h.2 (by simpa using hj)
theorem Vw {B us:List Nat} (h:Wk B us):Nq B us us.length=List.range us.length:=by
 unfold Nq
 rw [List.filter_eq_self]
 intro j hj
 exact Sd h (Zj.mp hj)
structure Sx (B0:List Nat) (n:Nat) (B u:List Nat):Prop where
 len:B.length=n
 pm:B.Perm (List.range n)
 lt:∀ p∈u,p+1 < n
 back:bw B u.reverse=B0
 wk:Wk B u.reverse
 link:∀ i,i < n->B.getD i 0=B0.getD ((bw (List.range n) u).getD i 0) 0
theorem Sg {n:Nat} {u:List Nat} (h:∀ p∈u,p+1 < n):(bw (List.range n) u).Perm (List.range n):=qy fun p hp=>by simpa using h p hp
theorem Aa {G:List Nat} {n i j:Nat} (h:G.Perm (List.range n)) (hi:i < n) (hj:j < n) (e:G.getD i 0=G.getD j 0):i=j:=by
 have nd:G.Nodup:=h.nodup_iff.mpr Aba
 have hl:G.length=n:=by rw [h.length_eq];simp
 have h1:=dz nd (getD_some (B:=G) (i:=i) (by omega))
 have h2:=dz nd (getD_some (B:=G) (i:=j) (by omega))
 rw [e] at h1
 omega
theorem Nu {G:List Nat} {n i:Nat} (h:G.Perm (List.range n)) (hi:i < n):G.getD i 0 < n:=by
 have hl:G.length=n:=by rw [h.length_eq];simp
 exact Zj.mp (h.mem_iff.mp (Zd (getD_some (by omega))))
theorem Nv {B0:List Nat} {n m:Nat} (hm:m < n):∀ (p:Nat) (B u:List Nat),p<=m->Sx B0 n B u->(∀ i j,i < j->j<=m->j≠p->B.getD i 0 < B.getD j 0)->
  (bw (List.range n) u).getD p 0=m->(∀ i,i<=m->(bw (List.range n) u).getD i 0<=m)->(∀ i,m < i->i < n->(bw (List.range n) u).getD i 0=i)->
  Sx B0 n (inn p B u).1 (inn p B u).2/\(∀ i j,i < j->j<=m->(inn p B u).1.getD i 0 < (inn p B u).1.getD j 0)/\(∀ i,i<=m->(bw (List.range n) (inn p B u).2).getD i 0<=m)/\(∀ i,m < i->i < n->(bw (List.range n) (inn p B u).2).getD i 0=i)
 | 0,B,u,_,S,srt,_,gle,gid=>⟨S,fun i j h1 h2=>srt i j h1 h2 (by omega),gle,gid⟩
 | p+1,B,u,hp,S,srt,gm,gle,gid=>by
  have hB:=S.len
  have hG:=Sg S.lt
  have lG:(bw (List.range n) u).length=n:=by rw [hG.length_eq];simp
  unfold inn
  by_cases hc:B.getD (p+1) 0 < B.getD p 0
  ·rw [if_pos hc]
   have hp1:p+1 < B.length:=by omega
   have w1:qX (xr B p) p=true:=by
    unfold qX
    rw [gO hp1,gO hp1,if_neg (by omega),if_pos rfl,if_pos rfl]
    exact Y7 hc
   have w2:qX (bw (List.range n) u) p=true:=by
    unfold qX
    rw [gm]
    refine Y7 ?_
    have h1:=gle p (by omega)
    have h2:(bw (List.range n) u).getD p 0≠m:=fun z=>by
     have:=Aa hG (i:=p) (j:=p+1) (by omega) (by omega) (by rw [z,gm])
     omega
    omega
   have eG:bw (List.range n) (u ++ [p])=xr (bw (List.range n) u) p:=by rw [mY,wQ w2]
   have bk:aQ (xr B p) p=B:=by rw [wQ w1,QV hp1]
   have S':Sx B0 n (xr B p) (u ++ [p]):=by
    refine ⟨by rw [nQ];exact hB,?_,?_,?_,?_,?_⟩
    ·have:=rP (E:=xr B p) (p:=p) (by rw [nQ];exact hp1)
     rw [bk] at this
     exact this.symm.trans S.pm
    ·intro q hq
     rcases Z4.mp hq with h | h
     ·exact S.lt q h
     ·rw [ZX.mp h];omega
    ·rw [List.reverse_append]
     show bw (aQ (xr B p) p) u.reverse=B0
     rw [bk];exact S.back
    ·rw [List.reverse_append]
     show qX (xr B p) p=true/\Wk (aQ (xr B p) p) u.reverse
     rw [bk];exact ⟨w1,S.wk⟩
    ·intro i hi
     rw [eG,gO hp1,gO (by omega)]
     by_cases h1:i=p+1
     ·rw [if_pos h1,if_pos h1];exact S.link p (by omega)
     ·rw [if_neg h1,if_neg h1]
      by_cases h2:i=p
      ·rw [if_pos h2,if_pos h2];exact S.link (p+1) (by omega)
      ·rw [if_neg h2,if_neg h2];exact S.link i hi
   refine Nv hm p (xr B p) (u ++ [p]) (by omega) S' (fun i j h1 h2 h3=>?_) ?_ (fun i hi=>?_) fun i h1 h2=>?_
   ·rw [gO hp1,gO hp1]
    by_cases j1:j=p+1
    ·subst j1
     rw [if_neg (show ¬ i=p+1 by omega),if_pos rfl]
     by_cases i2:i=p
     ·rw [if_pos i2];exact hc
     ·rw [if_neg i2];exact srt i p (by omega) (by omega) (by omega)
    ·rw [if_neg j1,if_neg h3]
     by_cases i1:i=p+1
     ·rw [if_pos i1];exact srt p j (by omega) h2 j1
     ·rw [if_neg i1]
      by_cases i2:i=p
      ·rw [if_pos i2];exact srt (p+1) j (by omega) h2 j1
      ·rw [if_neg i2];exact srt i j h1 h2 j1
   ·rw [eG,gO (by omega),if_neg (by omega),if_pos rfl];exact gm
   ·rw [eG,gO (by omega)]
    by_cases i1:i=p+1
    ·rw [if_pos i1];exact gle p (by omega)
    ·rw [if_neg i1]
     by_cases i2:i=p
     ·rw [if_pos i2];exact gle (p+1) hp
     ·rw [if_neg i2];exact gle i hi
   ·rw [eG,gO (by omega),if_neg (by omega),if_neg (by omega)];exact gid i h1 h2
  ·rw [if_neg hc]
   refine ⟨S,fun i j h1 h2=>?_,gle,gid⟩
   show B.getD i 0 < B.getD j 0
   by_cases hj:j=p+1
   ·subst hj
    have hne:B.getD p 0≠B.getD (p+1) 0:=fun z=>by
     have:=Aa S.pm (i:=p) (j:=p+1) (by omega) (by omega) z
     omega
    by_cases hi:i=p
    ·subst hi;omega
    ·have:=srt i p (by omega) (by omega) (by omega)
     omega
   ·exact srt i j h1 h2 hj
theorem Nx {B0:List Nat} {n:Nat} (hB:B0.Perm (List.range n)):∀ k,k < n->Sx B0 n (uJ B0 k).1 (uJ B0 k).2/\(∀ i j,i < j->j<=k->(uJ B0 k).1.getD i 0 < (uJ B0 k).1.getD j 0)/\(∀ i,i<=k->(bw (List.range n) (uJ B0 k).2).getD i 0<=k)/\(∀ i,k < i->i < n->(bw (List.range n) (uJ B0 k).2).getD i 0=i)
 | 0,h=>by
  have hl:B0.length=n:=by rw [hB.length_eq];simp
  have hr:∀ i,i < n->(List.range n).getD i 0=i:=fun i hi=>by rw [YT,Zi hi];rfl
  refine ⟨⟨hl,hB,(fun p hp=>by cases hp),rfl,trivial,fun i hi=>?_⟩,(fun i j h1 h2=>by omega),fun i hi=>?_,fun i _ hi=>hr i hi⟩
  ·show B0.getD i 0=B0.getD ((List.range n).getD i 0) 0
   rw [hr i hi]
  ·have:i=0:=by omega
   subst this
   show (List.range n).getD 0 0<=0
   rw [hr 0 h]
   exact YZ _
 | k+1,h=>by
  obtain ⟨S,srt,gle,gid⟩:=Nx hB k (by omega)
  show Sx B0 n (inn (k+1) (uJ B0 k).1 (uJ B0 k).2).1 (inn (k+1) (uJ B0 k).1 (uJ B0 k).2).2/\_
  refine Nv h (k+1) _ _ (YZ _) S (fun i j h1 h2 h3=>srt i j h1 (by omega)) (gid (k+1) (by omega) h) (fun i hi=>?_) fun i h1 h2=>gid i (by omega) h2
  by_cases e:i=k+1
  ·subst e;rw [gid (k+1) (by omega) h];exact YZ _
  ·have:=gle i (by omega);omega
theorem Ab {B:List Nat} {n:Nat} (hl:B.length=n) (hlt:∀ i,i < n->B.getD i 0 < n) (h:∀ i j,i < j->j < n->B.getD i 0 < B.getD j 0):B=List.range n:=by
 have mono:∀ d i,i+d < n->B.getD i 0+d<=B.getD (i+d) 0:=fun d=>by
  induction d with
  | zero=>intro i _;exact YZ _
  | succ d ih=>
   intro i hi
   have h1:=ih i (by omega)
   have h2:=h (i+d) (i+(d+1)) (by omega) hi
   omega
 refine wO (by rw [hl];simp) fun i hi=>?_
 rw [hl] at hi
 rw [show (List.range n).getD i 0=i by rw [YT,Zi hi];rfl]
 have h1:=mono i 0 (by omega)
 have h2:=mono (n - 1 - i) i (by omega)
 have h3:=hlt (i+(n - 1 - i)) (by omega)
 rw [Nat.zero_add] at h1
 omega
def Jy (t:List Nat):List Nat:=(uJ (inv t) (t.length - 1)).2
structure Und (t u:List Nat):Prop where
 lt:∀ p∈u,p+1 < t.length
 back:bw (List.range t.length) u.reverse=inv t
 wk:Nq (List.range t.length) u.reverse u.reverse.length=List.range u.reverse.length
 fw:bw (List.range t.length) u=t
theorem Fe {t:List Nat} (h:Prm t):Und t (Jy t):=by
 have hP:=lV h
 have hl:=bD t
 by_cases h0:t.length=0
 ·have e:t=[]:=List.length_eq_zero_iff.mp h0
  subst e
  exact ⟨(fun p hp=>by cases hp),rfl,rfl,rfl⟩
 ·have pm:(inv t).Perm (List.range t.length):=by have:=hP.pm;rwa [hl] at this
  obtain ⟨S,srt,_,_⟩:=Nx pm (t.length - 1) (by omega)
  have e:(uJ (inv t) (t.length - 1)).1=List.range t.length:=Ab S.len (fun i hi=>Nu S.pm hi) fun i j h1 h2=>srt i j h1 (by omega)
  have bk:=S.back
  have wk:=S.wk
  have lk:=S.link
  rw [e] at bk wk lk
  refine ⟨S.lt,bk,Vw wk,?_⟩
  have hG:=Sg S.lt
  have lG:(bw (List.range t.length) (uJ (inv t) (t.length - 1)).2).length=t.length:=by rw [hG.length_eq];simp
  refine (uI (t:=inv t) hP (by rw [hl];exact lG) fun i x ex=>?_).trans (qz h)
  have hi:i < t.length:=by have:=(Y4.mp ex).1;omega
  have dx:(inv t).getD i 0=x:=by rw [YT,ex];rfl
  have hx:x < t.length:=by rw [← dx];exact Nu pm hi
  have l1:=lk x hx
  rw [show (List.range t.length).getD x 0=x by rw [YT,Zi hx];rfl,← dx] at l1
  have gx:=Nu hG hx
  have:=Aa pm hi gx (by rw [← dx];exact l1)
  exact (getD_some (B:=bw (List.range t.length) (uJ (inv t) (t.length - 1)).2) (by rw [lG];exact hx)).trans (congrArg some this.symm)
theorem pairs_len {n:Nat} (h:n<=96):(rQ n).length<=6000:=by
 have key:∀ n,n < 97->((List.range n).map fun x=>n - (x+1)).sum<=6000:=by trivial
 unfold rQ
 rw [List.length_flatMap]
 have:=key n (by omega)
 simpa using this
theorem Ye {t:List Nat} (h:t.length<=96):cr t<=6000:=Zo List.countP_le_length (pairs_len h)
theorem QW {t:List Nat} (h:Prm t):(Jy t).reverse.length=cr t:=by
 have U:=Fe h
 have hp:∀ p∈(Jy t).reverse,p+1 < t.length:=fun p hp=>U.lt p (Abb.mp hp)
 have e:=Nt hp (Jy t).reverse.length (YZ _)
 rw [Aag,U.back,qz h,U.wk,AaF] at e
 exact e.symm
def cN (p x:Nat):Nat:=if p<=x then 1 else 0
def N:List Nat->Nat->Nat->Nat
 | [],_,_=>0
 | _ :: _,_,0=>0
 | x :: B,p,q+1=>cN p x+N B p q
theorem pH (B:List Nat) (p:Nat):N B p 0=0:=by cases B <;> rfl
theorem Cw:∀ (L M:List Nat) (p q:Nat),N (L ++ M) p q=N L p q+N M p (q - L.length)
 | [],M,p,q=>by simp [N]
 | x :: L,M,p,0=>by simp [N,pH]
 | x :: L,M,p,q+1=>by
  rw [List.cons_append]
  show cN p x+N (L ++ M) p q=cN p x+N L p q+N M p (q+1 - (L.length+1))
  rw [Cw L M p q,show q+1 - (L.length+1)=q - L.length by omega];omega
theorem Ac:∀ (L:List Nat) (p q:Nat),L.length<=q->N L p q=N L p L.length
 | [],p,q,_=>rfl
 | x :: L,p,0,h=>by simp at h
 | x :: L,p,q+1,h=>by
  show cN p x+N L p q=cN p x+N L p L.length
  rw [Ac L p q (by simpa using h)]
theorem wR:∀ {B:List Nat} {p q:Nat},q < B.length->N B p (q+1)=N B p q+cN p (B.getD q 0)
 | x :: B,p,0,_=>by
  show cN p x+N B p 0=0+cN p x
  rw [pH];omega
 | x :: B,p,q+1,h=>by
  show cN p x+N B p (q+1)=cN p x+N B p q+cN p ((x :: B).getD (q+1) 0)
  rw [wR (B:=B) (q:=q) (by simpa using h)]
  simp;omega
theorem Yg {A B:List Nat} {n:Nat} (ha:A.length=n) (hb:B.length=n) (la:∀ x∈A,x < n) (lb:∀ x∈B,x < n) (h:∀ p q,p<=n->q<=n->N A p q=N B p q):A=B:=by
 refine wO (by omega) fun i hi=>?_
 have key:∀ p,p<=n->cN p (A.getD i 0)=cN p (B.getD i 0):=fun p hp=>by
  have h1:=h p (i+1) hp (by omega)
  rw [wR (by omega),wR (by omega),h p i hp (by omega)] at h1
  omega
 have ma:=la _ (Zd (getD_some (B:=A) (i:=i) (by omega)))
 have mb:=lb _ (Zd (getD_some (B:=B) (i:=i) (by omega)))
 have k1:=key (A.getD i 0) (by omega)
 have k2:=key (B.getD i 0) (by omega)
 unfold cN at k1 k2
 rw [if_pos (YZ _)] at k1
 rw [if_pos (YZ (B.getD i 0))] at k2
 split at k1
 ·split at k2
  ·omega
  ·cases k2
 ·cases k1
theorem Ny {B:List Nat} {i:Nat} (h:i+1 < B.length) (p q:Nat):N (aQ B i) p q=if q=i+1 then min (N B p i+1) (N B p (i+2)) else N B p q:=by
 obtain ⟨f1,f2⟩:=yR h
 have e:aQ B i=B.take i ++ max (B.getD i 0) (B.getD (i+1) 0) :: min (B.getD i 0) (B.getD (i+1) 0) :: B.drop (i+2):=by
  unfold aQ
  split
  ·rename_i hw
   have hw':B.getD i 0 < B.getD (i+1) 0:=AaV hw
   rw [f2,Nat.max_eq_right (by omega),Nat.min_eq_left (by omega)]
  ·rename_i hw
   have hw':¬ B.getD i 0 < B.getD (i+1) 0:=fun z=>hw (Y7 z)
   rw [Nat.max_eq_left (by omega),Aa7 (by omega)]
   exact f1
 have lL:(B.take i).length=i:=by rw [Aav];omega
 generalize B.getD i 0=a at f1 e
 generalize B.getD (i+1) 0=b at f1 e
 generalize B.take i=L at f1 e lL
 generalize B.drop (i+2)=R at f1 e
 rw [e,f1,Cw,Cw,Cw,Cw,lL]
 have hc:cN p (max a b)+cN p (min a b)=cN p a+cN p b:=by unfold cN;split <;> split <;> split <;> split <;> omega
 have hm:cN p (max a b)=min 1 (cN p a+cN p b):=by unfold cN;split <;> split <;> split <;> omega
 by_cases h1:q=i+1
 ·subst h1
  rw [if_pos rfl,show i+1 - i=1 by omega,show i - i=0 by omega,show i+2 - i=2 by omega,Ac L p (i+1) (by omega),Ac L p i (by omega),Ac L p (i+2) (by omega),pH]
  show N L p L.length+(cN p (max a b)+N (min a b :: R) p 0)=min (N L p L.length+0+1) (N L p L.length+(cN p a+(cN p b+N R p 0)))
  rw [pH,pH,hm];omega
 ·rw [if_neg h1]
  congr 1
  by_cases h2:q<=i
  ·rw [show q - i=0 by omega,pH,pH]
  ·obtain ⟨k,hk⟩:∃ k,q - i=k+2:=⟨q - i - 2,by omega⟩
   rw [hk]
   show cN p (max a b)+(cN p (min a b)+N R p k)=cN p a+(cN p b+N R p k)
   omega
theorem Ad (n p:Nat):∀ q,q<=n->N (List.range n) p q=q - p
 | 0,_=>by rw [pH];omega
 | q+1,h=>by
  rw [wR (by simp;omega),Ad n p q (by omega),show (List.range n).getD q 0=q by rw [YT,Zi (by omega)];rfl]
  unfold cN
  split <;> omega
theorem Ff {B:List Nat} {p:Nat} {m:Nat}:∀ d,m+d<=B.length->N B p m<=N B p (m+d)/\N B p (m+d)<=N B p m+d
 | 0,_=>⟨YZ _,YZ _⟩
 | d+1,h=>by
  have:=Ff (B:=B) (p:=p) (m:=m) d (by omega)
  have e:=wR (B:=B) (p:=p) (q:=m+d) (by omega)
  have:cN p (B.getD (m+d) 0)<=1:=by unfold cN;split <;> omega
  rw [show m+(d+1)=m+d+1 by omega,e]
  omega
theorem Vx {B:List Nat} {p q m:Nat} (hq:q<=B.length) (hm:m<=B.length):N B p q<=N B p m+(q - m):=by
 by_cases h:m<=q
 ·have:=(Ff (B:=B) (p:=p) (m:=m) (q - m) (by omega)).2
  rw [show m+(q - m)=q by omega] at this
  exact this
 ·have:=(Ff (B:=B) (p:=p) (m:=q) (m - q) (by omega)).1
  rw [show q+(m - q)=m by omega] at this
  omega
def Mp (n:Nat) (A B C:List Nat):Prop:=∀ p q,p<=n->q<=n->(∀ m,m<=n->N A p q<=N B p m+N C m q)/\∃ m,m<=n/\N A p q=N B p m+N C m q
theorem QX {E:List Nat} {n:Nat} (hl:E.length=n):Mp n E E (List.range n):=fun p q hp hq=>by
 refine ⟨fun m hm=>?_,q,hq,?_⟩
 ·rw [Ad n m q hq]
  exact Vx (by omega) (by omega)
 ·rw [Ad n q q hq];omega
theorem Fg {E:List Nat} {n:Nat} {s:List Nat} (hl:E.length=n) (hs:∀ p∈s,p+1 < n):∀ k,k<=s.length->Mp n (bw E (s.take k)) E (bw (List.range n) (s.take k))
 | 0,_=>by rw [List.take_zero];exact QX hl
 | k+1,hk=>by
  have ih:=Fg hl hs k (by omega)
  have hi:s.getD k 0+1 < n:=hs _ (Zd (getD_some (by omega)))
  rw [uH (by omega),mY,mY]
  have l1:(bw E (s.take k)).length=n:=by rw [jo];exact hl
  have l2:(bw (List.range n) (s.take k)).length=n:=by rw [jo];simp
  generalize bw E (s.take k)=F at ih l1
  generalize bw (List.range n) (s.take k)=D at ih l2
  generalize s.getD k 0=i at hi
  intro p q hp hq
  rw [Ny (by omega)]
  have st:∀ m,N (aQ D i) m q=if q=i+1 then min (N D m i+1) (N D m (i+2)) else N D m q:=fun m=>Ny (by omega) m q
  by_cases h1:q=i+1
  ·subst h1
   rw [if_pos rfl]
   obtain ⟨a1,m1,b1,c1⟩:=ih p i hp (by omega)
   obtain ⟨a2,m2,b2,c2⟩:=ih p (i+2) hp (by omega)
   refine ⟨fun m hm=>?_,?_⟩
   ·rw [st m,if_pos rfl]
    have:=a1 m hm
    have:=a2 m hm
    omega
   ·by_cases hc:N F p i+1<=N F p (i+2)
    ·refine ⟨m1,b1,?_⟩
     rw [st m1,if_pos rfl]
     have:=a2 m1 b1
     omega
    ·refine ⟨m2,b2,?_⟩
     rw [st m2,if_pos rfl]
     have:=a1 m2 b2
     omega
  ·rw [if_neg h1]
   obtain ⟨a1,m1,b1,c1⟩:=ih p q hp hq
   refine ⟨fun m hm=>?_,m1,b1,?_⟩
   ·rw [st m,if_neg h1];exact a1 m hm
   ·rw [st m1,if_neg h1];exact c1
theorem Sh {n:Nat} {A A' B C:List Nat} (h:Mp n A B C) (h':Mp n A' B C) {p q:Nat} (hp:p<=n) (hq:q<=n):N A p q<=N A' p q:=by
 obtain ⟨m,hm,e⟩:=(h' p q hp hq).2
 rw [e]
 exact (h p q hp hq).1 m hm
structure Pn (n:Nat) (A:List Nat):Prop where
 len:A.length=n
 lt:∀ x∈A,x < n
theorem Prm.pn {t:List Nat} {n:Nat} (h:Prm t) (hn:t.length=n):Pn n t:=⟨hn,fun x hx=>by rw [← hn];exact h.lt hx⟩
theorem Jz {n:Nat} {A A' B C:List Nat} (a:Pn n A) (a':Pn n A') (h:Mp n A B C) (h':Mp n A' B C):A=A':=
 Yg a.len a'.len a.lt a'.lt fun p q hp hq=>Nat.le_antisymm (Sh h h' hp hq) (Sh h' h hp hq)
theorem QZ {t:List Nat} (h:Prm t) {i:Nat} (hi:i < t.length):(inv t).getD (t.getD i 0) 0=i:=by
 have hx:=h.lt (Zd (getD_some hi))
 rw [iU hx]
 exact dz h.nd (getD_some hi)
def lay (x y:List Nat):List Nat:=inv (bw (inv x) (Jy y).reverse)
structure Two (n:Nat) (x y:List Nat):Prop where
 px:Prm x
 py:Prm y
 lx:x.length=n
 ly:y.length=n
theorem Two.lt {n:Nat} {x y:List Nat} (h:Two n x y):∀ p∈(Jy y).reverse,p+1 < n:=fun p hp=>by
 have:=(Fe h.py).lt p (Abb.mp hp)
 rw [h.ly] at this
 exact this
theorem Nz {E ps:List Nat} (h:Prm E) (hp:∀ p∈ps,p+1 < E.length):Prm (bw E ps):=by
 have hl:=jo E ps
 refine ⟨by rw [hl];exact h.le,?_⟩
 rw [hl]
 exact (qy hp).trans h.pm
theorem Two.run {n:Nat} {x y:List Nat} (h:Two n x y):Prm (bw (inv x) (Jy y).reverse)/\(bw (inv x) (Jy y).reverse).length=n:=
 ⟨Nz (lV h.px) fun p hp=>by rw [bD,h.lx];exact h.lt p hp,by rw [jo,bD,h.lx]⟩
theorem Two.lay {n:Nat} {x y:List Nat} (h:Two n x y):Prm (lay x y)/\(lay x y).length=n/\Mp n (inv (lay x y)) (inv x) (inv y):=by
 obtain ⟨hP,hl⟩:=h.run
 unfold My.lay
 refine ⟨lV hP,by rw [bD];exact hl,?_⟩
 rw [qz hP]
 have:=Fg (E:=inv x) (n:=n) (s:=(Jy y).reverse) (by rw [bD,h.lx]) h.lt (Jy y).reverse.length (YZ _)
 rw [Aag] at this
 have e:=(Fe h.py).back
 rw [h.ly] at e
 rw [e] at this
 exact this
theorem JC (n:Nat) (h:n<=96):inv (List.range n)=List.range n:=
 (uI (Jx h) rfl fun i x e=>by
  obtain ⟨hi,e⟩:=Y4.mp e
  rw [List.getElem_range] at e
  rw [← e,Zi (by simpa using hi)]).symm
def rs (m:Nat) (e:Nat->Nat->Bool) (far i:Nat):List Nat:=(List.range far).flatMap fun j=>if e i j=true then [] else [m - 1 - i+j]
def al (m far:Nat) (e:Nat->Nat->Bool) (n:Nat):List Nat:=(List.range n).flatMap fun i=>rs m e far i
def Dn (n:Nat) (ps:List Nat):List Nat:=bw (List.range n) ps
theorem lW (E a b:List Nat):bw E (a ++ b)=bw (bw E a) b:=by unfold bw;rw [List.foldl_append]
theorem pI {n:Nat} {ps:List Nat} (h:n<=96) (hp:∀ p∈ps,p+1 < n):Prm (Dn n ps):=Hb h hp
theorem nR (n:Nat) (ps:List Nat):(Dn n ps).length=n:=by unfold Dn;rw [jo];simp
theorem Yh {n:Nat} {a b:List Nat} (hb:∀ p∈b,p+1 < n):Mp n (Dn n (a ++ b)) (Dn n a) (Dn n b):=by
 have:=Fg (E:=Dn n a) (n:=n) (s:=b) (nR n a) hb b.length (YZ _)
 rw [Aag] at this
 unfold Dn at this ⊢
 rw [lW]
 exact this
theorem dO {α β:Type} {f g:α->List β}:∀ {l:List α},(∀ x∈l,f x=g x)->l.flatMap f=l.flatMap g
 | [],_=>rfl
 | x :: l,h=>by rw [List.flatMap_cons,List.flatMap_cons,h x (by simp),dO fun y hy=>h y (by simp [hy])]
theorem Ae {m far n:Nat} {e:Nat->Nat->Bool} {p:Nat} (hp:p∈al m far e n):∃ i j,i < n/\j < far/\p=m - 1 - i+j:=by
 unfold al rs at hp
 obtain ⟨i,hi,h⟩:=Aa9.mp hp
 obtain ⟨j,hj,h⟩:=Aa9.mp h
 refine ⟨i,j,Zj.mp hi,Zj.mp hj,?_⟩
 split at h
 ·cases h
 ·exact ZX.mp h
theorem mZ {m far:Nat} {e:Nat->Nat->Bool}:∀ p∈al m far e m,p+1 < m+far:=fun p hp=>by
 obtain ⟨i,j,hi,hj,rfl⟩:=Ae hp
 omega
theorem NB {A E B:List Nat} {k p:Nat} (h:p+1 < E.length):aQ (A ++ (E.map (k+ ·) ++ B)) (A.length+p)=A ++ ((aQ E p).map (k+ ·) ++ B):=by
 have g:∀ i,i < E.length->(A ++ (E.map (k+ ·) ++ B)).getD (A.length+i) 0=k+E.getD i 0:=fun i hi=>by
  rw [YT,Zk (by omega),Aao,Zm (by simpa using hi),Y8,getD_some hi];rfl
 have w:qX (A ++ (E.map (k+ ·) ++ B)) (A.length+p)=qX E p:=by
  unfold qX
  rw [g p (by omega),Nat.add_assoc,g (p+1) h]
  exact decide_eq_decide.mpr (by omega)
 unfold aQ
 rw [w]
 split
 ·rw [g p (by omega),Nat.add_assoc,g (p+1) h]
  have st:∀ (M:List Nat) (x i:Nat),i < M.length->(A ++ (M ++ B)).set (A.length+i) x=A ++ (M.set i x ++ B):=fun M x i hi=>by
   rw [List.set_append_right _ _ (by omega),Aao,List.set_append_left _ _ hi]
  rw [st _ _ p (by rw [Zf];omega),st _ _ (p+1) (by rw [List.length_set,Zf];omega),List.map_set,List.map_set]
 ·rfl
theorem Af {A B:List Nat} {k:Nat}:∀ {ps E:List Nat},(∀ p∈ps,p+1 < E.length)->bw (A ++ (E.map (k+ ·) ++ B)) (ps.map (A.length+ ·))=A ++ ((bw E ps).map (k+ ·) ++ B)
 | [],_,_=>rfl
 | p :: ps,E,h=>by
  show bw (aQ _ (A.length+p)) (ps.map (A.length+ ·))=_
  rw [NB (h p (by simp))]
  exact Af (ps:=ps) (E:=aQ E p) fun q hq=>by rw [qx];exact h q (by simp [hq])
theorem NK {k n:Nat} {ps:List Nat} (h:∀ p∈ps,p+1 < n):Dn (k+n) (ps.map (k+ ·))=List.range k ++ (Dn n ps).map (k+ ·):=by
 have:=Af (A:=List.range k) (B:=[]) (k:=k) (ps:=ps) (E:=List.range n) (fun p hp=>by simpa using h p hp)
 rw [ZJ,ZJ,AaF,← AaB] at this
 exact this
theorem Hc {n r:Nat} {ps:List Nat} (h:∀ p∈ps,p+1 < n):Dn (n+r) ps=Dn n ps ++ (List.range r).map (n+ ·):=by
 have:=Af (A:=[]) (B:=(List.range r).map (n+ ·)) (k:=0) (ps:=ps) (E:=List.range n) (fun p hp=>by simpa using h p hp)
 have z:∀ l:List Nat,l.map (0+ ·)=l:=fun l=>by simp
 simp only [List.nil_append,List.length_nil,z] at this
 unfold Dn
 rw [AaB]
 exact this
theorem Hd {k:Nat} {G:List Nat} (hG:Prm G) (hk:k+G.length<=96):inv (List.range k ++ G.map (k+ ·))=List.range k ++ (inv G).map (k+ ·):=by
 have pm:Prm (List.range k ++ G.map (k+ ·)):=by
  have hl:(List.range k ++ G.map (k+ ·)).length=k+G.length:=by simp
  refine ⟨by omega,?_⟩
  rw [hl,AaB]
  exact List.Perm.append_left _ (hG.pm.map _)
 refine (uI pm (by simp [bD]) fun i x e=>?_).symm
 by_cases hi:i < k
 ·rw [Zm (by simpa using hi),Zi hi] at e
  obtain rfl:i=x:=Zv e
  rw [Zm (by simpa using hi),Zi hi]
 ·rw [Zk (by simp;omega),AaF,Y8] at e
  obtain ⟨y,hy,rfl⟩:=Option.map_eq_some_iff.mp e
  have yl:y < G.length:=hG.lt (Zd hy)
  rw [Zk (by simp),AaF,Aao,Y8,getD_some (by rw [bD];exact yl),iU yl,dz hG.nd hy]
  show some (k+(i - k))=some i
  rw [Nat.add_sub_cancel' (by omega)]
theorem Cy {r:Nat} {G:List Nat} (hG:Prm G) (hk:G.length+r<=96):inv (G ++ (List.range r).map (G.length+ ·))=inv G ++ (List.range r).map (G.length+ ·):=by
 have pm:Prm (G ++ (List.range r).map (G.length+ ·)):=by
  have hl:(G ++ (List.range r).map (G.length+ ·)).length=G.length+r:=by simp
  refine ⟨by omega,?_⟩
  rw [hl,AaB]
  exact hG.pm.append_right _
 refine (uI pm (by simp [bD]) fun i x e=>?_).symm
 by_cases hi:i < G.length
 ·rw [Zm hi] at e
  have yl:x < G.length:=hG.lt (Zd e)
  rw [Zm (by rw [bD];exact yl),getD_some (by rw [bD];exact yl),iU yl,dz hG.nd e]
 ·rw [Zk (by omega),Y8] at e
  obtain ⟨y,hy,rfl⟩:=Option.map_eq_some_iff.mp e
  obtain ⟨h1,h2⟩:=Y4.mp hy
  rw [List.getElem_range] at h2
  rw [AaF] at h1
  subst h2
  rw [Zk (by rw [bD];omega),bD,Aao,Y8,Zi h1]
  show some (G.length+(i - G.length))=some i
  rw [Nat.add_sub_cancel' (by omega)]
theorem step_get {E:List Nat} {q i:Nat} (h:i < q\/q+1 < i):(aQ E q).getD i 0=E.getD i 0:=by
 unfold aQ
 split
 ·rw [YT,ZC (by omega),ZC (by omega),← YT]
 ·rfl
theorem Cz {E:List Nat} {q p:Nat} (h:p+2<=q\/q+2<=p):qX (aQ E q) p=qX E p:=by
 unfold qX
 rw [step_get (by omega),step_get (by omega)]
theorem JD {E:List Nat} {p q:Nat} (h:q+2<=p):aQ (aQ E q) p=aQ (aQ E p) q:=by
 have a:=Cz (E:=E) (q:=q) (p:=p) (.inr h)
 have b:=Cz (E:=E) (q:=p) (p:=q) (.inl h)
 have g1:=step_get (E:=E) (q:=q) (i:=p) (by omega)
 have g2:=step_get (E:=E) (q:=q) (i:=p+1) (by omega)
 have g3:=step_get (E:=E) (q:=p) (i:=q) (by omega)
 have g4:=step_get (E:=E) (q:=p) (i:=q+1) (by omega)
 rw [show aQ (aQ E q) p=if qX (aQ E q) p=true then ((aQ E q).set p ((aQ E q).getD (p+1) 0)).set (p+1) ((aQ E q).getD p 0) else aQ E q from rfl,
  show aQ (aQ E p) q=if qX (aQ E p) q=true then ((aQ E p).set q ((aQ E p).getD (q+1) 0)).set (q+1) ((aQ E p).getD q 0) else aQ E p from rfl,a,b,g1,g2,g3,g4]
 unfold aQ
 by_cases h1:qX E p=true <;> by_cases h2:qX E q=true
 ·rw [if_pos h1,if_pos h2,if_pos h2,if_pos h1]
  rw [List.set_comm (E.getD q 0) (E.getD (p+1) 0) (by omega),List.set_comm (E.getD (q+1) 0) (E.getD (p+1) 0) (by omega),List.set_comm (E.getD q 0) (E.getD p 0) (by omega),List.set_comm (E.getD (q+1) 0) (E.getD p 0) (by omega)]
 ·rw [if_pos h1,if_neg h2,if_neg h2,if_pos h1]
 ·rw [if_neg h1,if_pos h2,if_pos h2,if_neg h1]
 ·rw [if_neg h1,if_neg h2,if_neg h2,if_neg h1]
theorem Hf:∀ {R E:List Nat} {q:Nat},(∀ p∈R,q+2<=p)->bw (aQ E q) R=aQ (bw E R) q
 | [],_,_,_=>rfl
 | p :: R,E,q,h=>by
  show bw (aQ (aQ E q) p) R=aQ (bw (aQ E p) R) q
  rw [JD (h p (by simp))]
  exact Hf fun z hz=>h z (by simp [hz])
theorem CG:∀ {L R E:List Nat},(∀ p∈R,∀ q∈L,q+2<=p)->bw (bw E R) L=bw (bw E L) R
 | [],_,_,_=>rfl
 | q :: L,R,E,h=>by
  show bw (aQ (bw E R) q) L=bw (bw (aQ E q) L) R
  rw [← Hf fun p hp=>h p hp q (by simp)]
  exact CG fun p hp z hz=>h p hp z (by simp [hz])
def LN (m far:Nat) (e:Nat->Nat->Bool):List Nat:=inv (Dn (m+far) (al m far e m))
theorem gj (m far:Nat) (e:Nat->Nat->Bool):(LN m far e).length=m+far:=by unfold LN;rw [bD,nR]
theorem uK {m far:Nat} {e:Nat->Nat->Bool} (h:m+far<=96):Prm (LN m far e):=lV (pI h mZ)
theorem Q0 (mu ml far:Nat) (e:Nat->Nat->Bool):al (mu+ml) far e (mu+ml)=(al mu far e mu).map (ml+ ·) ++ al ml far (fun i j=>e (mu+i) j) ml:=by
 unfold al
 rw [AaB,List.flatMap_append,List.flatMap_map,List.map_flatMap]
 congr 1
 ·refine dO fun i hi=>?_
  have hi:=Zj.mp hi
  unfold rs
  rw [List.map_flatMap]
  refine dO fun j hj=>?_
  split
  ·rfl
  ·show [mu+ml - 1 - i+j]=[ml+(mu - 1 - i+j)];congr 1;omega
 ·refine dO fun i hi=>?_
  have hi:=Zj.mp hi
  unfold rs
  refine dO fun j hj=>?_
  show (if e (mu+i) j=true then [] else [mu+ml - 1 - (mu+i)+j])=_
  rw [show mu+ml - 1 - (mu+i)+j=ml - 1 - i+j by omega]
theorem yU {n:Nat} {a b:List Nat} (h:n<=96) (ha:∀ p∈a,p+1 < n) (hb:∀ p∈b,p+1 < n):lay (inv (Dn n a)) (inv (Dn n b))=inv (Dn n (a ++ b)):=by
 have pa:=pI h ha
 have pb:=pI h hb
 have pab:Prm (Dn n (a ++ b)):=pI h fun p hp=>(Z4.mp hp).elim (ha p) (hb p)
 have T:Two n (inv (Dn n a)) (inv (Dn n b)):=⟨lV pa,lV pb,by rw [bD,nR],by rw [bD,nR]⟩
 obtain ⟨p1,l1,m1⟩:=T.lay
 rw [qz pa,qz pb] at m1
 have e:=Jz ((lV p1).pn (by rw [bD];exact l1)) (pab.pn (nR _ _)) m1 (Yh hb)
 rw [← e,qz p1]
theorem NP {mu ml far:Nat} {e:Nat->Nat->Bool} (h:mu+ml+far<=96):
  lay (List.range ml ++ (LN mu far e).map (ml+ ·)) (LN ml far (fun i j=>e (mu+i) j) ++ (List.range mu).map (ml+far+ ·))=LN (mu+ml) far e:=by
 have p1:=pI (n:=mu+far) (by omega) (mZ (m:=mu) (far:=far) (e:=e))
 have p2:=pI (n:=ml+far) (by omega) (mZ (m:=ml) (far:=far) (e:=fun i j=>e (mu+i) j))
 have l2:=nR (ml+far) (al ml far (fun i j=>e (mu+i) j) ml)
 have e1:List.range ml ++ (LN mu far e).map (ml+ ·)=inv (Dn (mu+ml+far) ((al mu far e mu).map (ml+ ·))):=by
  rw [show mu+ml+far=ml+(mu+far) by omega,NK mZ,Hd p1 (by rw [nR];omega)];rfl
 have e2:LN ml far (fun i j=>e (mu+i) j) ++ (List.range mu).map (ml+far+ ·)=inv (Dn (mu+ml+far) (al ml far (fun i j=>e (mu+i) j) ml)):=by
  have:=Cy (r:=mu) p2 (by rw [l2];omega)
  rw [l2] at this
  rw [show mu+ml+far=(ml+far)+mu by omega,Hc mZ,this];rfl
 rw [e1,e2,yU h,← Q0]
 ·rfl
 ·intro p hp
  obtain ⟨q,hq,rfl⟩:=ZD.mp hp
  have:=mZ q hq
  omega
 ·intro p hp
  have:=mZ p hp
  omega
theorem JF (m fl fr:Nat) (e:Nat->Nat->Bool) (i:Nat):rs m e (fl+fr) i=rs m e fl i ++ (rs m (fun i j=>e i (fl+j)) fr i).map (fl+ ·):=by
 unfold rs
 rw [AaB,List.flatMap_append,List.flatMap_map,List.map_flatMap]
 congr 1
 refine dO fun j hj=>?_
 show (if e i (fl+j)=true then [] else [m - 1 - i+(fl+j)])=_
 split
 ·rfl
 ·show [m - 1 - i+(fl+j)]=[fl+(m - 1 - i+j)];congr 1;omega
theorem vR (m far:Nat) (e:Nat->Nat->Bool) (n:Nat):al m far e (n+1)=al m far e n ++ rs m e far n:=by
 unfold al
 rw [AaQ,List.flatMap_append]
 simp
theorem yV {m fl fr:Nat} {e:Nat->Nat->Bool} (E:List Nat):∀ n,n<=m->bw E (al m (fl+fr) e n)=bw E (al m fl e n ++ (al m fr (fun i j=>e i (fl+j)) n).map (fl+ ·))
 | 0,_=>rfl
 | n+1,h=>by
  rw [vR,vR,vR,JF,lW,yV E n (by omega),Zy,lW,lW,lW,lW,lW]
  refine congrArg (fun z=>bw z _) (CG fun p hp q hq=>?_)
  obtain ⟨p',hp',rfl⟩:=ZD.mp hp
  obtain ⟨i,j,hi,hj,rfl⟩:=Ae hp'
  unfold rs at hq
  obtain ⟨j',hj',hq⟩:=Aa9.mp hq
  have hj':=Zj.mp hj'
  split at hq
  ·cases hq
  ·rw [ZX.mp hq];omega
theorem Fi {m fl fr:Nat} {e:Nat->Nat->Bool} (h:m+(fl+fr)<=96):
  lay (LN m fl e ++ (List.range fr).map (m+fl+ ·)) (List.range fl ++ (LN m fr (fun i j=>e i (fl+j))).map (fl+ ·))=LN m (fl+fr) e:=by
 have p1:=pI (n:=m+fr) (by omega) (mZ (m:=m) (far:=fr) (e:=fun i j=>e i (fl+j)))
 have p2:=pI (n:=m+fl) (by omega) (mZ (m:=m) (far:=fl) (e:=e))
 have l2:=nR (m+fl) (al m fl e m)
 have e1:List.range fl ++ (LN m fr (fun i j=>e i (fl+j))).map (fl+ ·)=inv (Dn (m+(fl+fr)) ((al m fr (fun i j=>e i (fl+j)) m).map (fl+ ·))):=by
  rw [show m+(fl+fr)=fl+(m+fr) by omega,NK mZ,Hd p1 (by rw [nR];omega)];rfl
 have e2:LN m fl e ++ (List.range fr).map (m+fl+ ·)=inv (Dn (m+(fl+fr)) (al m fl e m)):=by
  have:=Cy (r:=fr) p2 (by rw [l2];omega)
  rw [l2] at this
  rw [show m+(fl+fr)=(m+fl)+fr by omega,Hc mZ,this];rfl
 rw [e1,e2,yU h]
 ·unfold LN Dn
  rw [yV _ m (YZ _)]
 ·intro p hp
  have:=mZ p hp
  omega
 ·intro p hp
  obtain ⟨q,hq,rfl⟩:=ZD.mp hp
  have:=mZ q hq
  omega
def top (i:Nat):Stmt:=PySem.Challenge.pw_panethread_k77_lengths_of_openings.main.body.getD i (.Pass ⟨0,0,0,0⟩)
abbrev pJ:Stmt:=top 18
abbrev pK:Stmt:=top 19
abbrev pL:Stmt:=top 20
abbrev uL:Stmt:=top 21
abbrev uM:Stmt:=top 22
abbrev nU:Stmt:=top 23
abbrev pM:Stmt:=top 24
abbrev pN:Stmt:=top 25
abbrev tX:Stmt:=top 27
abbrev nY:Stmt:=top 28
abbrev rT:Stmt:=top 29
abbrev pO:Stmt:=top 30
abbrev nZ:Stmt:=top 31
abbrev n6:Stmt:=top 33
abbrev lg:Stmt:=top 34
abbrev rW:Stmt:=top 35
abbrev rY:Stmt:=top 36
abbrev tY:Stmt:=top 37
abbrev rZ:Stmt:=top 43
abbrev sy:Stmt:=top 44
abbrev n8:Stmt:=top 45
abbrev Fj:Stmt:=top 46
abbrev mD:Stmt:=top 49
abbrev pP:Stmt:=top 50
abbrev oh:Stmt:=top 51
abbrev j5:Stmt:=top 52
abbrev iB:Stmt:=top 53
abbrev ou:Stmt:=top 58
abbrev sE:Stmt:=top 59
abbrev lq:Stmt:=top 60
abbrev mF:Stmt:=top 64
abbrev pQ:Stmt:=top 65
abbrev oA:Stmt:=top 66
abbrev uN:Stmt:=top 67
abbrev pR:Stmt:=top 68
abbrev sH:Stmt:=top 69
abbrev oE:Stmt:=top 70
abbrev sI:Stmt:=top 71
abbrev qC:Stmt:=top 72
abbrev lX:Stmt:=top 73
abbrev qD:Stmt:=top 74
abbrev iC:Stmt:=top 75
abbrev gJ:Stmt:=top 76
abbrev wU:Stmt:=top 77
abbrev iV:Stmt:=gr 0 (top 39)
abbrev mG:Stmt:=gr 1 (top 39)
abbrev jq:Stmt:=gr 0 (top 41)
abbrev jr:Stmt:=gr 1 (top 41)
abbrev cV:Stmt:=gr 2 (top 41)
abbrev lu:Stmt:=gr 4 (top 41)
abbrev dY:Stmt:=gr 0 (top 48)
abbrev oF:Stmt:=gr 1 (top 48)
abbrev pU:Stmt:=gr 2 (top 48)
abbrev mH:Stmt:=gr 4 (top 48)
abbrev lw:Stmt:=gr 6 (top 48)
abbrev iW:Stmt:=gr 0 (top 54)
abbrev lA:Stmt:=gr 0 (top 55)
abbrev jt:Stmt:=gr 0 (top 56)
abbrev iD:Stmt:=gr 0 (top 57)
abbrev ju:Stmt:=gr 0 (top 62)
abbrev gk:Stmt:=gr 1 (top 62)
abbrev mJ:Stmt:=gr 4 (top 62)
abbrev iG:Stmt:=gr 5 (top 62)
abbrev lB:Stmt:=gr 6 (top 62)
abbrev pW:Stmt:=gr 7 (top 62)
abbrev Hg:Stmt:=initOf (top 3)
abbrev yW:Stmt:=initOf (top 4)
abbrev wV:Stmt:=initOf (top 5)
abbrev m5:Stmt:=initOf (top 6)
abbrev CJ:Stmt:=initOf (top 7)
abbrev vm:Stmt:=initOf (top 8)
abbrev yX:Stmt:=initOf (top 9)
abbrev CK:Stmt:=initOf (top 10)
abbrev yZ:Stmt:=initOf (top 11)
local macro_rules | `(tactic| walk_at "s") => `(tactic| (with_reducible repeat (first | refine oO ?_ | walk_at "0")))
local macro_rules | `(tactic| walk_at "n") => `(tactic| (with_reducible repeat (walk_at "0")))
structure Txt (K:W.Frag) (mg:Str->Option Value):Prop where
 b_ValueError:mg "ValueError"=none
 b_all:mg "all"=none
 b_bool:mg "bool"=none
 b_enumerate:mg "enumerate"=none
 b_int:mg "int"=none
 b_isinstance:mg "isinstance"=none
 b_len:mg "len"=none
 b_list:mg "list"=none
 b_max:mg "max"=none
 b_range:mg "range"=none
 b_reversed:mg "reversed"=none
 b_str:mg "str"=none
 b_tuple:mg "tuple"=none
 c_LETTERS:∃ t,mg "LETTERS"=some (.str "abcdefghijklmnopqrstuvwxyz" t)
 c_MOST_LETTERS:∃ t,mg "MOST_LETTERS"=some (.int 24 t)
 c_MOST_LINES:∃ t,mg "MOST_LINES"=some (.int 96 t)
 c_MOST_SIGNS:∃ t,mg "MOST_SIGNS"=some (.int 48 t)
 c_POINT:∃ t,mg "POINT"=some (.str "." t)
 d_is_number:b7 K mg "is_number" pJ
 d_is_within:b7 K mg "is_within" pK
 d_is_letter:b7 K mg "is_letter" pL
 d_is_sign:b7 K mg "is_sign" uL
 d_is_span:b7 K mg "is_span" uM
 d_need_place:b7 K mg "need_place" nU
 d_need_span:b7 K mg "need_span" pM
 d_need_sign:b7 K mg "need_sign" pN
 d_is_row:b7 K mg "is_row" tX
 d_is_plain:b7 K mg "is_plain" nY
 d_need_row:b7 K mg "need_row" rT
 d_need_rows:b7 K mg "need_rows" pO
 d_need_plain:b7 K mg "need_plain" nZ
 d_is_turning:b7 K mg "is_turning" n6
 d_need_turning:b7 K mg "need_turning" lg
 d_straight:b7 K mg "straight" rW
 d_opposite:b7 K mg "opposite" rY
 d_counts:b7 K mg "counts" tY
 d_do_steps:b7 K mg "do_steps" rZ
 d_steps_of:b7 K mg "steps_of" sy
 d_need_alike:b7 K mg "need_alike" n8
 d_laid:b7 K mg "laid" Fj
 d_need_pieces:b7 K mg "need_pieces" mD
 d_need_same:b7 K mg "need_same" pP
 d_need_short:b7 K mg "need_short" oh
 d_lines_over:b7 K mg "lines_over" j5
 d_lines_beside:b7 K mg "lines_beside" iB
 d_all_beside:b7 K mg "all_beside" ou
 d_all_over:b7 K mg "all_over" sE
 d_balanced:b7 K mg "balanced" lq
 d_law_cell_at:b7 K mg "_law_cell_at" mF
 d_law_great:b7 K mg "_law_great" pQ
 d_law_letter:b7 K mg "_law_letter" oA
 d_law_row:b7 K mg "_law_row" uN
 d_law_round:b7 K mg "_law_round" pR
 d_law_last:b7 K mg "_law_last" sH
 d_law_number:b7 K mg "_law_number" oE
 d_law_best:b7 K mg "_law_best" sI
 d_law_all:b7 K mg "_law_all" qC
 d_law_asked:b7 K mg "_law_asked" lX
 d_law_one:b7 K mg "_law_one" qD
 d_law_no_place:b7 K mg "_law_no_place" iC
 d_law_no_length:b7 K mg "_law_no_length" gJ
 d_law:b7 K mg "law" wU
 x_PaneError:Jl K mg "PaneError"
 x_NoRow:mX K mg "NoRow" ["found"] "NoRow.__init__" Hg
 x_NoPlain:mX K mg "NoPlain" ["found"] "NoPlain.__init__" yW
 x_NoLetter:mX K mg "NoLetter" ["found"] "NoLetter.__init__" wV
 x_NoPlace:mX K mg "NoPlace" ["found"] "NoPlace.__init__" m5
 x_NoSpan:mX K mg "NoSpan" ["begin","end"] "NoSpan.__init__" CJ
 x_NoTurning:mX K mg "NoTurning" ["found"] "NoTurning.__init__" vm
 x_NoPiece:mX K mg "NoPiece" ["found"] "NoPiece.__init__" yX
 x_Unlike:mX K mg "Unlike" ["one","other"] "Unlike.__init__" CK
 x_TooLong:mX K mg "TooLong" ["found"] "TooLong.__init__" yZ
 o_Tally:iK K mg "Tally"
 n_Tally:∀ f∈(["held_ends","held_counts"]:List Str),NoAttr K (aL mg "Tally") f
 o_Asks:iK K mg "Asks"
 n_Asks:∀ f∈(["held_tally","held_many","held_far"]:List Str),NoAttr K (aL mg "Asks") f
 o_Piece:iK K mg "Piece"
 n_Piece:∀ f∈(["held_side","held_top","held_kind","held_lines","held_parts","held_height"]:List Str),NoAttr K (aL mg "Piece") f
 o_Blank:iK K mg "Blank"
 n_Blank:∀ f∈(["held_side","held_top","held_kind","held_lines","held_parts","held_height"]:List Str),NoAttr K (aL mg "Blank") f
 o_One:iK K mg "One"
 n_One:∀ f∈(["held_side","held_top","held_kind","held_lines","held_parts","held_height"]:List Str),NoAttr K (aL mg "One") f
 o_Over:iK K mg "Over"
 n_Over:∀ f∈(["held_side","held_top","held_kind","held_lines","held_parts","held_height"]:List Str),NoAttr K (aL mg "Over") f
 o_Beside:iK K mg "Beside"
 n_Beside:∀ f∈(["held_side","held_top","held_kind","held_lines","held_parts","held_height"]:List Str),NoAttr K (aL mg "Beside") f
 o_Ring:iK K mg "Ring"
 n_Ring:∀ f∈(["held_side","held_top","held_kind","held_lines","held_parts","held_height","held_row","held_asks"]:List Str),NoAttr K (aL mg "Ring") f
 os_Piece:YH K mg ["Blank","One","Over","Beside","Ring"]
 t_Blank:ITxt K mg "Blank"
 t_One:ITxt K mg "One"
 t_Over:ITxt K mg "Over"
 t_Beside:ITxt K mg "Beside"
 t_Ring:ITxt K mg "Ring"
 u_Blank_Piece:Sub K mg "Blank" "Piece" true
 u_One_Piece:Sub K mg "One" "Piece" true
 u_Over_Piece:Sub K mg "Over" "Piece" true
 u_Beside_Piece:Sub K mg "Beside" "Piece" true
 u_Ring_Piece:Sub K mg "Ring" "Piece" true
 w_Piece_str:PySem.W.kitOne K (.type "str") (.ref (aL mg "Piece"))=some false
 w_Piece_int:PySem.W.kitOne K (.type "int") (.ref (aL mg "Piece"))=some false
 w_Piece_list:PySem.W.kitOne K (.type "list") (.ref (aL mg "Piece"))=some false
 w_Piece_tuple:PySem.W.kitOne K (.type "tuple") (.ref (aL mg "Piece"))=some false
 w_Piece_NoneType:PySem.W.kitOne K (.type "NoneType") (.ref (aL mg "Piece"))=some false
 w_Piece_bool:PySem.W.kitOne K (.type "bool") (.ref (aL mg "Piece"))=some false
 w_Piece_dict:PySem.W.kitOne K (.type "dict") (.ref (aL mg "Piece"))=some false
 m_Piece___init__:G9 K mg "Piece" "__init__" "Piece.__init__" dY
 m_Piece_side:rC K mg ["Blank","One","Over","Beside","Ring"] "side" "Piece.side" oF
 m_Piece_top:rC K mg ["Blank","One","Over","Beside","Ring"] "top" "Piece.top" pU
 m_Piece_lines:rC K mg ["Blank","One","Over","Beside","Ring"] "lines" "Piece.lines" mH
 m_Piece_height:rC K mg ["Blank","One","Over","Beside","Ring"] "height" "Piece.height" lw
 m_Tally___init__:dX K mg "Tally" "__init__" "Tally.__init__" iV
 m_Tally_below:dX K mg "Tally" "below" "Tally.below" mG
 m_Asks___init__:dX K mg "Asks" "__init__" "Asks.__init__" jq
 m_Asks_reckoned:dX K mg "Asks" "reckoned" "Asks.reckoned" jr
 m_Asks_reckoned_stretch:dX K mg "Asks" "reckoned_stretch" "Asks.reckoned_stretch" cV
 m_Asks_stretch:dX K mg "Asks" "stretch" "Asks.stretch" lu
 m_Blank___init__:dX K mg "Blank" "__init__" "Blank.__init__" iW
 m_One___init__:dX K mg "One" "__init__" "One.__init__" lA
 m_Over___init__:dX K mg "Over" "__init__" "Over.__init__" jt
 m_Beside___init__:dX K mg "Beside" "__init__" "Beside.__init__" iD
 m_Ring___init__:dX K mg "Ring" "__init__" "Ring.__init__" ju
 m_Ring_need_opening:dX K mg "Ring" "need_opening" "Ring.need_opening" gk
 m_Ring_length:dX K mg "Ring" "length" "Ring.length" mJ
 m_Ring_lengths:dX K mg "Ring" "lengths" "Ring.lengths" iG
 m_Ring_stretch:dX K mg "Ring" "stretch" "Ring.stretch" lB
 m_Ring_best:dX K mg "Ring" "best" "Ring.best" pW
 u_NoPlace_PaneError:Sub K mg "NoPlace" "PaneError" true
 u_NoPlace_NoPlain:Sub K mg "NoPlace" "NoPlain" false
 u_NoPlace_NoPlace:Sub K mg "NoPlace" "NoPlace" true
 u_NoPlace_NoPiece:Sub K mg "NoPlace" "NoPiece" false
 v_NoPlace:PySem.W.kitOne K (.ref (aL mg "NoPlace")) (.type "ValueError")=some true
def Kd (K:W.Frag) (H:Hp) (v:V):Prop:=(∃ n,v= .int n)\/(∃ b,v= .bl b)\/∃ T,TyOf K H v (.type T)/\PySem.W.kitOne K (.type T) (.type "int")=some false
theorem Kd.same {K:W.Frag} {H H':Hp} {v:V} (h:Kd K H v) (s:Same H H'):Kd K H' v:=by
 rcases h with h | h | ⟨T,a,c⟩
 ·exact .inl h
 ·exact .inr (.inl h)
 ·exact .inr (.inr ⟨T,a.mono fun b o e _=>s b o e,c⟩)
def Yi:V->Bool
 | .int _=>true
 | _=>false
def inB (v:V) (lo hi:Int):Bool:=match v with
 | .int n=>decide (lo<=n) && decide (n<=hi)
 | _=>false
section
variable {P:Program} {w:World} {K:W.Frag} {mg:Str->Option Value} {base:Heap}
theorem vD:Wt m5 "self":=by trivial
theorem uO:Wt m5 "found":=by trivial
theorem Same.put {H H':Hp} {p:Addr} {o:HO} (s:Same H H') (hn:H p=none):Same H (upd H' p o):=fun b u e=>by
 rw [aD (fun z=>by rw [z,hn] at e;cases e)]
 exact s b u e
theorem Same.back {H H':Hp} {p:Addr} (s:Same H H') (h:H' p=none):H p=none:=by
 cases e:H p with
 | none=>rfl
 | some o=>rw [s _ _ e] at h;cases h
theorem Vy {H:Hp} {v:V} {T:String} (h:TyOf K H v (.type T)) (k:PySem.W.kitOne K (.type T) (.type "int")=some false):Yi v=false/\∀ lo hi,inB v lo hi=false:=by
 cases v with
 | int z=>
  cases h
  have:PySem.W.kitOne K (.type "int") (.type "int")=some true:=rfl
  rw [this] at k;cases k
 | _=>exact ⟨rfl,fun _ _=>rfl⟩
theorem CN:aC ["self","found"] ["self","found"] (az m5):=⟨rfl,rfl,rfl,by trivial,rfl,by trivial,by trivial⟩
theorem Fl (T:Txt K mg):XQ P w K mg base 1 "NoPlace" (aL mg "NoPlace") ["found"]:=mkX T.x_NoPlace CN (fun _ _ _ _ _ _ us hl=>L2.oW (fun _ _=>rfl) us hl) rfl fun f cdv A outer s H vs Q E hr h=>⟨_,(aB (Qw (K:=K) rfl (UW 0 vD) (UW 1 uO))),rd1 T.x_NoPlace.c.cl.cls (T.x_NoPlace.na _ (by simp)) h⟩
def NQ (K:W.Frag):Sp:=fun vs H Q _=>∃ v:V,vs=[v]/\Kd K H v/\Q (.bl (Yi v)) H
theorem Ag:aC ["thing"] ["thing"] (az pJ):=⟨rfl,rfl,rfl,by trivial,rfl,by trivial,by trivial⟩
theorem pX (T:Txt K mg):Has P w K mg base 1 "is_number" ["thing"] (NQ K):=by
 refine cz T.d_is_number Ag (fun _ _ _ _ _ _ us hl=>L2.ie (fun _=>rfl) us hl) ?_ fun f cdv A outer s H vs Q E hr h=>?_
 ·rintro vs H Q E ⟨v,rfl,_⟩;rfl
 obtain ⟨v,rfl,hT,q⟩:=h
 have hu:=hr.units0
 have hu64:=hr.units
 refine ⟨_,(aB (aK (ir (aF (di (K:=K) rfl) aO T.b_isinstance bj (aa (ao 0) (aa (uB aO T.b_int El (by trivial) (by trivial)) aj)) (by trivial) (by trivial)) (jQ (BZ (aF (di (K:=K) rfl) aO T.b_isinstance bj (aa (ao 0) (aa (uB aO T.b_bool Gm (by trivial) (by trivial)) aj)) (by trivial) (by trivial))))))),?_⟩
 walk_at "s"
 rcases hT with ⟨n,rfl⟩ | ⟨b,rfl⟩ | ⟨T',hty,hk⟩
 ·refine jP (.int _) rfl ?_
  walk_at "s"
  refine jP (.int _) rfl ?_
  walk_at "s"
  exact q
 ·refine jP (.bl _) (b:=true) (by rfl) ?_
  walk_at "s"
  refine jP (.bl _) (b:=true) (by rfl) ?_
  walk_at "s"
  exact q
 ·refine jP hty hk ?_
  walk_at "s"
  rw [(Vy hty hk).1] at q
  exact q
def NT (K:W.Frag):Sp:=fun vs H Q _=>∃ (v:V) (lo hi:Int),vs=[v,.int lo,.int hi]/\Kd K H v/\Q (.bl (inB v lo hi)) H
theorem Ah:aC ["thing","low","high"] ["thing","low","high"] (az pK):=⟨rfl,rfl,rfl,by trivial,rfl,by trivial,by trivial⟩
theorem bT (T:Txt K mg):Has P w K mg base 2 "is_within" ["thing","low","high"] (NT K):=by
 have pX:=pX (P:=P) (w:=w) (base:=base) T
 refine cz T.d_is_within Ah (fun _ _ _ _ _ _ us hl=>L2.oY (fun _ _ _=>rfl) us hl) ?_ fun f cdv A outer s H vs Q E hr h=>?_
 ·rintro vs H Q E ⟨v,lo,hi,rfl,_⟩;rfl
 obtain ⟨v,lo,hi,rfl,hT,q⟩:=h
 have hu:=hr.units0
 have hu64:=hr.units
 refine ⟨_,(aB (aK (ir (aJ pX (hr.mono (by decide)) aO (aa (ao 0) aj) (by trivial)) (jQ (zQ v6 v6 (ao 1) (ao 0) (ao 2)))))),?_⟩
 walk_at "s"
 refine ⟨v,rfl,hT,?_⟩
 walk_at "s"
 cases v with
 | int n=>
  show if true=true then _ else _
  walk_at "s"
  show if decide (lo<=n)=true then _ else _
  unfold inB at q
  dsimp only at q
  by_cases h:lo<=n
  ·rw [Y7 h] at q ⊢
   rw [Bool.true_and] at q
   walk_at "s"
   exact q
  ·rw [Zc h] at q ⊢
   rw [Bool.false_and] at q
   walk_at "s"
   exact q
 | _=>exact q
def Hh (K:W.Frag) (mg:Str->Option Value):Sp:=fun vs H Q E=>∃ (v:V) (lo hi:Int),vs=[v,.int lo,.int hi]/\Kd K H v/\(inB v lo hi=true->Q .non H)/\
 (inB v lo hi=false->∀ e H',Same H H'->IsX H' e (aL mg "NoPlace") [("found",v)]->E (.ref (aL mg "NoPlace")) (some e) H')
theorem xM:aC ["thing","low","high"] ["thing","low","high"] (az nU):=⟨rfl,rfl,rfl,by trivial,rfl,by trivial,by trivial⟩
theorem bc (T:Txt K mg):Qs P w K mg base 3 "need_place" ["thing","low","high"] (Hh K mg):=by
 have bT:=bT (P:=P) (w:=w) (base:=base) T
 refine XX T.d_need_place xM (fun _ _ _ _ _ _ us hl=>L2.oY (fun _ _ _=>rfl) us hl) ?_ fun f cdv A outer s H vs Q E hr h=>?_
 ·rintro vs H Q E ⟨v,lo,hi,rfl,_⟩;rfl
 obtain ⟨v,lo,hi,rfl,hT,q1,q2⟩:=h
 have hu:=hr.units0
 have hu64:=hr.units
 refine ⟨_,(aB (bK (bW (bY (aJ bT (hr.mono (by decide)) aO (aa (ao 0) (aa (ao 1) (aa (ao 2) aj))) (by trivial)))) (aB (Mu (Fl (P:=P) (w:=w) (base:=base) T) (hr.mono (by decide)) rfl aO aN (aa (ao 0) aj) (by trivial))) bx)),?_⟩
 walk_at "s"
 refine ⟨v,lo,hi,rfl,hT,?_⟩
 walk_at "s"
 cases hb:inB v lo hi with
 | true=>
  walk_at "s"
  exact q1 hb
 | false=>
  walk_at "s"
  exact ⟨rfl,(show 1<=sizeLine by decide),fun x H2 S2 X2=>q2 hb x H2 S2 X2⟩
theorem CP (i j:Int):decide (V.int i=V.int j)=decide (i=j):=decide_eq_decide.mpr ⟨fun h=>V.int.inj h,fun h=>by rw [h]⟩
theorem aZ (t:List Nat):((nI t).map V.int).length=t.length:=by unfold nI;rw [Zf,Zf]
theorem Yj {t:List Nat} {k i:Nat} (h:t[k]?=some i):((nI t).map V.int)[k]?=some (.int (i:Int)):=by unfold nI;rw [Y8,Y8,h];rfl
theorem za {t:List Nat} {k:Nat} {v:V} (h:((nI t).map V.int)[k]?=some v):∃ i,t[k]?=some i/\v= .int (i:Int):=by
 unfold nI at h
 rw [Y8,Y8] at h
 cases e:t[k]? with
 | none=>rw [e] at h;cases h
 | some y=>rw [e] at h;exact ⟨y,rfl,(Zv h).symm⟩
theorem zb {t:List Nat} {k:Nat} {j:Int} (hk:k < t.length) (hj:j=(k:Int)):xF ((nI t).map V.int) j=some (.int ((t.getD k 0:Nat):Int)):=by
 subst hj
 refine jg (Yj ?_)
 rw [YT,YX hk];rfl
theorem wW (t:List Nat) (k x:Nat):((nI t).map V.int).set k (.int (x:Int))=(nI (t.set k x)).map V.int:=by unfold nI;rw [List.map_set,List.map_set]
theorem Ai (t:List Nat) (x:Nat):(nI t).map V.int ++ [.int (x:Int)]=(nI (t ++ [x])).map V.int:=by unfold nI;rw [Zy,Zy];rfl
theorem zc {n p:Nat} {j:Int} (hj:j=(p:Int)) (h:p < n):J8 n j=some p:=by
 subst hj
 unfold J8
 rw [if_pos (by omega),if_pos (by omega)]
 simp
def Vz (K:W.Frag):Sp:=fun vs H Q _=>∃ (b e m:Int),vs=[.int b,.int e,.int m]/\0<=b/\b<=e/\e<=m/\Q (.bl true) H
theorem Fo:aC ["begin","end","many"] ["begin","end","many"] (az uM):=⟨rfl,rfl,rfl,by trivial,rfl,by trivial,by trivial⟩
theorem uP (T:Txt K mg):Has P w K mg base 3 "is_span" ["begin","end","many"] (Vz K):=by
 have bT:=bT (P:=P) (w:=w) (base:=base) T
 refine cz T.d_is_span Fo (fun _ _ _ _ _ _ us hl=>L2.oY (fun _ _ _=>rfl) us hl) ?_ fun f cdv A outer s H vs Q E hr h=>?_
 ·rintro vs H Q E ⟨b,e,m,rfl,_⟩;rfl
 obtain ⟨b,e,m,rfl,h1,h2,h3,q⟩:=h
 have hu:=hr.units0
 have hu64:=hr.units
 refine ⟨_,(aB (aK (ir (aJ bT (hr.mono (by decide)) aO (aa (ao 0) (aa aH (aa (ao 2) aj))) (by trivial)) (jQ (aJ bT (hr.mono (by decide)) aO (aa (ao 1) (aa (ao 0) (aa (ao 2) aj))) (by trivial)))))),?_⟩
 walk_at "s"
 refine ⟨_,_,_,rfl,.inl ⟨_,rfl⟩,?_⟩
 walk_at "s"
 rw [show inB (.int b) 0 m=true by unfold inB;simp;omega]
 walk_at "s"
 refine ⟨_,_,_,rfl,.inl ⟨_,rfl⟩,?_⟩
 walk_at "s"
 rw [show inB (.int e) b m=true by unfold inB;simp;omega]
 exact q
def Q3 (K:W.Frag):Sp:=fun vs H Q _=>∃ (b e m:Int),vs=[.int b,.int e,.int m]/\0<=b/\b<=e/\e<=m/\Q .non H
theorem Aj:aC ["begin","end","many"] ["begin","end","many"] (az pM):=⟨rfl,rfl,rfl,by trivial,rfl,by trivial,by trivial⟩
theorem pY (T:Txt K mg):Has P w K mg base 4 "need_span" ["begin","end","many"] (Q3 K):=by
 have uP:=uP (P:=P) (w:=w) (base:=base) T
 refine cz T.d_need_span Aj (fun _ _ _ _ _ _ us hl=>L2.oY (fun _ _ _=>rfl) us hl) ?_ fun f cdv A outer s H vs Q E hr h=>?_
 ·rintro vs H Q E ⟨b,e,m,rfl,_⟩;rfl
 obtain ⟨b,e,m,rfl,h1,h2,h3,q⟩:=h
 have hu:=hr.units0
 have hu64:=hr.units
 refine ⟨_,(aB (bK (bW (bY (aJ uP (hr.mono (by decide)) aO (aa (ao 0) (aa (ao 1) (aa (ao 2) aj))) (by trivial)))) (aB dH) bx)),?_⟩
 walk_at "s"
 refine ⟨b,e,m,rfl,h1,h2,h3,?_⟩
 walk_at "s"
 exact q
theorem tZ {H:Hp} {Q:VK} {E:XK} {n lo hi:Int} (h1:lo<=n) (h2:n<=hi) (h:Q .non H):Hh K mg [.int n,.int lo,.int hi] H Q E:=
 ⟨_,_,_,rfl,.inl ⟨_,rfl⟩,fun _=>h,fun hb=>by unfold inB at hb;simp at hb;omega⟩
def Tn (H:Hp) (a:Addr) (t:List Nat):Prop:=H a=some (.lst ((nI t).map V.int))\/H a=some (.tup ((nI t).map V.int))
theorem Tn.same {H H':Hp} {a:Addr} {t:List Nat} (h:Tn H a t) (s:Same H H'):Tn H' a t:=h.imp (s _ _) (s _ _)
def Q4 (us:List V):Bool:=decide (us.length<=96) && (us.all fun u=>inB u 0 ((us.length:Int) - 1)) && decide us.Nodup
theorem Hi {us:List V} (h:96 < us.length):Q4 us=false:=by unfold Q4;rw [Zc (by omega)];rfl
theorem NZ {us:List V} {u:V} (h:u∈us) (hb:inB u 0 ((us.length:Int) - 1)=false):Q4 us=false:=by
 unfold Q4
 have:(us.all fun u=>inB u 0 ((us.length:Int) - 1))=false:=List.all_eq_false.mpr ⟨u,h,by rw [hb];simp⟩
 rw [this,Bool.and_false,Bool.false_and]
theorem N5 {us:List V} {k:Nat} {u:V} (h:us[k]?=some u) (hm:u∈us.take k):Q4 us=false:=by
 have:¬ us.Nodup:=fun nd=>by
  obtain ⟨i,hi,e⟩:=AaZ.mp hm
  obtain ⟨hk,e2⟩:=Y4.mp h
  rw [Aav] at hi
  rw [List.getElem_take] at e
  exact List.pairwise_iff_getElem.mp nd i k (by omega) hk (by omega) (e.trans e2.symm)
 unfold Q4
 rw [Zc this,Bool.and_false]
theorem N7 {us:List V} (h:us.length<=96) (hin:∀ u∈us,inB u 0 ((us.length:Int) - 1)=true) (hnd:us.Nodup):Q4 us=true:=by
 unfold Q4
 rw [Y7 h,Y7 hnd,Aaf.mpr hin];rfl
theorem wX {us:List V} {v:V} (h:us.Nodup) (hm:v ∉ us):(us ++ [v]).Nodup:=by
 refine List.nodup_append.mpr ⟨h,by simp,fun a ha b hb=>?_⟩
 rw [ZX.mp hb]
 exact fun z=>hm (z ▸ ha)
theorem Hj {v:V} {h:Int} (hb:inB v 0 h=true):∃ i:Nat,v= .int (i:Int)/\(i:Int)<=h:=by
 cases v with
 | int n=>
  unfold inB at hb
  simp at hb
  exact ⟨n.toNat,by rw [Int.toNat_of_nonneg hb.1],by omega⟩
 | _=>cases hb
def TnK (K:W.Frag) (H:Hp) (v:V) (b:Bool):Prop:=(∃ a us,v= .ref a/\(H a=some (.lst us)\/H a=some (.tup us))/\us.length<=10000/\(∀ u∈us,Kd K H u)/\b=Q4 us)\/
 ∃ T,TyOf K H v (.type T)/\PySem.W.kitAny K (.type T) [.type "list",.type "tuple"]=some false/\b=false
theorem Q5 {H:Hp} {a:Addr} {t:List Nat} (h:Tn H a t) (hP:Prm t):TnK K H (.ref a) true:=by
 have hle:=hP.le
 refine .inl ⟨a,_,rfl,h,by rw [aZ];omega,fun u hu=>?_,?_⟩
 ·obtain ⟨x,_,rfl⟩:=ZD.mp hu
  exact .inl ⟨x,rfl⟩
 ·refine (N7 (by rw [aZ];exact hle) (fun u hu=>?_) ?_).symm
  ·obtain ⟨x,hx,rfl⟩:=ZD.mp hu
   unfold nI at hx
   obtain ⟨y,hy,rfl⟩:=ZD.mp hx
   have:=hP.lt hy
   rw [aZ]
   unfold inB
   simp;omega
  ·unfold nI List.Nodup
   rw [Aas,List.pairwise_map]
   exact hP.nd.imp fun {x y} h z=>h (by have e:((x:Nat):Int)=((y:Nat):Int):=V.int.inj z;omega)
def VB (K:W.Frag):Sp:=fun vs H Q _=>∃ (v:V) (b:Bool),vs=[v]/\TnK K H v b/\∀ H',Same H H'->Q (.bl b) H'
theorem mK:aC ["thing","seen","end"] ["thing"] (az n6):=⟨rfl,rfl,rfl,by trivial,rfl,by trivial,by trivial⟩
theorem oG (T:Txt K mg):Has P w K mg base 3 "is_turning" ["thing"] (VB K):=by
 have bT:=bT (P:=P) (w:=w) (base:=base) T
 refine cz T.d_is_turning mK (fun _ _ _ _ _ _ us hl=>L2.ie (fun _=>rfl) us hl) ?_ fun f cdv A outer s H vs Q E hr h=>?_
 ·rintro vs H Q E ⟨v,bb,rfl,_⟩;rfl
 obtain ⟨v,bb,rfl,h,q⟩:=h
 have hu:=hr.units0
 have hu64:=hr.units
 refine ⟨_,(aA (bK (lN (ph (bW (bY (aF (qm (K:=K) rfl) aO T.b_isinstance bj (aa (ao 0) (aa (Ca (aa (uB aO T.b_list j4 (by trivial) (by trivial)) (aa (uB aO T.b_tuple BV (by trivial) (by trivial)) aj))) aj)) (by trivial) (by trivial)))) (kJ (bJ v7 (aF (aG (K:=K) rfl) aO T.b_len aV (aa (ao 0) aj) (by trivial) (by trivial)) (wG aO T.c_MOST_LINES (by trivial)) (by walk_at "p"))))) (aB (aK kE)) bx) (aA (aM (i:=1) mK.nd rfl dj GQ rfl) (aA (iR ZS rfl (iw (K:=K) rfl (ao 0)) (cY (i:=2) mK.nd rfl dj rfl) (aA (bK (lN (ph (bW (bY (aJ bT (hr.mono (by decide)) aO (aa (ao 2) (aa aH (aa (aY ik (aF (aG (K:=K) rfl) aO T.b_len aV (aa (ao 0) aj) (by trivial) (by trivial)) aH) aj))) (by trivial)))) (kJ (bJ (MN (K:=K) rfl hu64) (ao 2) (ao 1) (by walk_at "p"))))) (aB (aK kE)) bx) (aB (lO (ts:=rn) kE (pA (ao 1) (ao 2) (lQ hu64)))))) (aB (aK kE))))),?_⟩
 walk_at "s"
 have hs:20000<=sizeLine:=by decide
 rcases h with ⟨a,us,rfl,ha,hlen,hkd,rfl⟩ | ⟨T',hty,hk,rfl⟩
 ·rcases ha with ha | ha
  ·skip
   refine yO rfl fun p np=>?_
   walk_at "s"
   have ha1:upd H p (.tup [.ty "list",.ty "tuple"]) a=some (.lst us):=dW np ha
   refine zX (.lst ha1) aq rfl (b:=true) (by rfl) ?_
   walk_at "s"
   refine bM (SqL.of ha1) ?_
   walk_at "s"
   by_cases h96:96 < us.length
   ·rw [Y7 (show (96:Int) < (us.length:Int) by omega)]
    rw [Hi h96] at q
    walk_at "s"
    exact q _ ((Same.refl H).upd np)
   rw [Zc (show ¬ (96:Int) < (us.length:Int) by omega)]
   walk_at "s"
   intro d nd
   have S1:Same H (upd (upd H p (.tup [.ty "list",.ty "tuple"])) d (.dK [])):=((Same.refl H).upd np).upd nd
   have hd0:upd (upd H p (.tup [.ty "list",.ty "tuple"])) d (.dK []) d=some (.dK []):=aq
   have nd':H d=none:=Same.back ((Same.refl H).upd np) nd
   generalize upd (upd H p (.tup [.ty "list",.ty "tuple"])) d (.dK [])=H1 at S1 hd0 ⊢
   walk_at "s"
   refine .inl ⟨a,rfl,⟨_,SqL.of (S1 _ _ ha)⟩,?_⟩
   refine v5 (xs:=us) (fun k U H'=>∃ (kvs:List (Key×V)) (x2:Option V),U=[some (.ref a),some (.ref d),x2]/\Same H H'/\H' d=some (.dK kvs)/\kvs.length<=k/\(∀ n:Nat,jj kvs (Sum.inl (n:Int))=if V.int (n:Int)∈us.take k then some (.bl true) else none)/\(∀ u∈us.take k,inB u 0 ((us.length:Int) - 1)=true)/\(us.take k).Nodup)
    ⟨[],_,rfl,S1,hd0,by simp,fun n=>by simp [Bt],by simp,by simp⟩ (fun i U H' _ h=>?_) ?_ ?_
   ·obtain ⟨_,_,_,s,_⟩:=h
    exact SqL.of (s _ _ ha)
   ·rintro k v U H' hk ⟨kvs,x2,rfl,s,hd,hkl,hv,hin,hnd⟩
    have hkt:k < us.length:=(Y4.mp hk).1
    have hmem:=Zd hk
    walk_at "s"
    refine bM (SqL.of (s _ _ ha)) ?_
    walk_at "s"
    refine ⟨_,_,_,rfl,(hkd v hmem).same s,?_⟩
    walk_at "s"
    cases hb:inB v 0 ((us.length:Int) - 1) with
    | false=>
     rw [NZ hmem hb] at q
     walk_at "s"
     exact q _ s
    | true=>
     obtain ⟨i,rfl,hi⟩:=Hj hb
     walk_at "s"
     refine .inr ⟨d,_,rfl,DGet.k (k:=Sum.inl (i:Int)) hd,?_⟩
     rw [hv i]
     by_cases hm:V.int (i:Int)∈us.take k
     ·rw [if_pos hm,show (some (V.bl true)).isSome=true from rfl]
      rw [N5 hk hm] at q
      walk_at "s"
      exact q _ s
     ·rw [if_neg hm,show (none:Option V).isSome=false from rfl]
      walk_at "s"
      refine .inr ⟨d,_,rfl,DPut.k (k:=Sum.inl (i:Int)) hd (by omega),?_⟩
      have tk:us.take (k+1)=us.take k ++ [V.int (i:Int)]:=by rw [Aai,hk];rfl
      refine ⟨_,_,rfl,Same.put s nd',aq,Zo (jk _ _ _) (by omega),fun n=>?_,fun u hu=>?_,?_⟩
      ·rw [tH,hv n,tk]
       by_cases hn:n=i
       ·subst hn;simp
       ·rw [if_neg (fun z=>hn (by have:=Sum.inl.inj z;omega))]
        have hne:¬ V.int (n:Int)=V.int (i:Int):=fun z=>hn (by have:=V.int.inj z;omega)
        simp [hne]
      ·rw [tk] at hu
       rcases Z4.mp hu with h | h
       ·exact hin u h
       ·rw [ZX.mp h];exact hb
      ·rw [tk]
       exact wX hnd hm
   ·rintro U H' ⟨kvs,x2,rfl,s,hd,_,_,hin,hnd⟩
    rw [Aag] at hin hnd
    rw [N7 (by omega) hin hnd] at q
    walk_at "s"
    exact q _ s
  ·skip
   refine yO rfl fun p np=>?_
   walk_at "s"
   have ha1:upd H p (.tup [.ty "list",.ty "tuple"]) a=some (.tup us):=dW np ha
   refine zX (.tup ha1) aq rfl (b:=true) (by rfl) ?_
   walk_at "s"
   refine wD (SqT.of ha1) ?_
   walk_at "s"
   by_cases h96:96 < us.length
   ·rw [Y7 (show (96:Int) < (us.length:Int) by omega)]
    rw [Hi h96] at q
    walk_at "s"
    exact q _ ((Same.refl H).upd np)
   rw [Zc (show ¬ (96:Int) < (us.length:Int) by omega)]
   walk_at "s"
   intro d nd
   have S1:Same H (upd (upd H p (.tup [.ty "list",.ty "tuple"])) d (.dK [])):=((Same.refl H).upd np).upd nd
   have hd0:upd (upd H p (.tup [.ty "list",.ty "tuple"])) d (.dK []) d=some (.dK []):=aq
   have nd':H d=none:=Same.back ((Same.refl H).upd np) nd
   generalize upd (upd H p (.tup [.ty "list",.ty "tuple"])) d (.dK [])=H1 at S1 hd0 ⊢
   walk_at "s"
   refine .inr (.inl ⟨a,rfl,⟨_,SqT.of (S1 _ _ ha)⟩,?_⟩)
   refine FT (xs:=us) (fun k U H'=>∃ (kvs:List (Key×V)) (x2:Option V),U=[some (.ref a),some (.ref d),x2]/\Same H H'/\H' d=some (.dK kvs)/\kvs.length<=k/\(∀ n:Nat,jj kvs (Sum.inl (n:Int))=if V.int (n:Int)∈us.take k then some (.bl true) else none)/\(∀ u∈us.take k,inB u 0 ((us.length:Int) - 1)=true)/\(us.take k).Nodup)
    ⟨[],_,rfl,S1,hd0,by simp,fun n=>by simp [Bt],by simp,by simp⟩ (fun i U H' _ h=>?_) ?_ ?_
   ·obtain ⟨_,_,_,s,_⟩:=h
    exact SqT.of (s _ _ ha)
   ·rintro k v U H' hk ⟨kvs,x2,rfl,s,hd,hkl,hv,hin,hnd⟩
    have hkt:k < us.length:=(Y4.mp hk).1
    have hmem:=Zd hk
    walk_at "s"
    refine wD (SqT.of (s _ _ ha)) ?_
    walk_at "s"
    refine ⟨_,_,_,rfl,(hkd v hmem).same s,?_⟩
    walk_at "s"
    cases hb:inB v 0 ((us.length:Int) - 1) with
    | false=>
     rw [NZ hmem hb] at q
     walk_at "s"
     exact q _ s
    | true=>
     obtain ⟨i,rfl,hi⟩:=Hj hb
     walk_at "s"
     refine .inr ⟨d,_,rfl,DGet.k (k:=Sum.inl (i:Int)) hd,?_⟩
     rw [hv i]
     by_cases hm:V.int (i:Int)∈us.take k
     ·rw [if_pos hm,show (some (V.bl true)).isSome=true from rfl]
      rw [N5 hk hm] at q
      walk_at "s"
      exact q _ s
     ·rw [if_neg hm,show (none:Option V).isSome=false from rfl]
      walk_at "s"
      refine .inr ⟨d,_,rfl,DPut.k (k:=Sum.inl (i:Int)) hd (by omega),?_⟩
      have tk:us.take (k+1)=us.take k ++ [V.int (i:Int)]:=by rw [Aai,hk];rfl
      refine ⟨_,_,rfl,Same.put s nd',aq,Zo (jk _ _ _) (by omega),fun n=>?_,fun u hu=>?_,?_⟩
      ·rw [tH,hv n,tk]
       by_cases hn:n=i
       ·subst hn;simp
       ·rw [if_neg (fun z=>hn (by have:=Sum.inl.inj z;omega))]
        have hne:¬ V.int (n:Int)=V.int (i:Int):=fun z=>hn (by have:=V.int.inj z;omega)
        simp [hne]
      ·rw [tk] at hu
       rcases Z4.mp hu with h | h
       ·exact hin u h
       ·rw [ZX.mp h];exact hb
      ·rw [tk]
       exact wX hnd hm
   ·rintro U H' ⟨kvs,x2,rfl,s,hd,_,_,hin,hnd⟩
    rw [Aag] at hin hnd
    rw [N7 (by omega) hin hnd] at q
    walk_at "s"
    exact q _ s
 ·refine yO rfl fun p np=>?_
  walk_at "s"
  refine zX (hty.mono fun b o e _=>dW np e) aq rfl hk ?_
  walk_at "s"
  exact q _ ((Same.refl H).upd np)
def Q6 (K:W.Frag):Sp:=fun vs H Q _=>∃ (a:Addr) (t:List Nat),vs=[.ref a]/\Tn H a t/\Prm t/\∀ H',Same H H'->Q .non H'
theorem vG:aC ["thing"] ["thing"] (az lg):=⟨rfl,rfl,rfl,by trivial,rfl,by trivial,by trivial⟩
theorem bh (T:Txt K mg):Has P w K mg base 4 "need_turning" ["thing"] (Q6 K):=by
 have oG:=oG (P:=P) (w:=w) (base:=base) T
 refine cz T.d_need_turning vG (fun _ _ _ _ _ _ us hl=>L2.ie (fun _=>rfl) us hl) ?_ fun f cdv A outer s H vs Q E hr h=>?_
 ·rintro vs H Q E ⟨a,t,rfl,_⟩;rfl
 obtain ⟨a,t,rfl,ha,hP,q⟩:=h
 have hu:=hr.units0
 have hu64:=hr.units
 refine ⟨_,(aB (bK (bW (bY (aJ oG (hr.mono (by decide)) aO (aa (ao 0) aj) (by trivial)))) (aB dH) bx)),?_⟩
 walk_at "s"
 refine ⟨.ref a,true,rfl,Q5 ha hP,fun H1 S1=>?_⟩
 walk_at "s"
 walk_at "s"
 exact q H1 S1
theorem VD (n:Nat):((List.range n).map fun i:Nat=>V.int (0+(i:Int)*1))=(nI (List.range n)).map V.int:=by
 unfold nI
 rw [Aas]
 refine Aar fun x _=>?_
 show V.int (0+(x:Int)*1)=V.int (x:Int)
 congr 1;omega
def Fp:Sp:=fun vs H Q _=>∃ n:Nat,vs=[.int n]/\n<=96/\∀ q H',H q=none->Same H H'->H' q=some (.lst ((nI (List.range n)).map V.int))->Q (.ref q) H'
theorem CQ:aC ["many"] ["many"] (az rW):=⟨rfl,rfl,rfl,by trivial,rfl,by trivial,by trivial⟩
theorem cZ (T:Txt K mg):Has P w K mg base 4 "straight" ["many"] Fp:=by
 have bc:=bc (P:=P) (w:=w) (base:=base) T
 refine cz T.d_straight CQ (fun _ _ _ _ _ _ us hl=>L2.ie (fun _=>rfl) us hl) ?_ fun f cdv A outer s H vs Q E hr h=>?_
 ·rintro vs H Q E ⟨n,rfl,_⟩;rfl
 obtain ⟨n,rfl,hn,q⟩:=h
 have hu:=hr.units0
 have hu64:=hr.units
 refine ⟨_,(aA (aU (qp bc (hr.mono (by decide)) aO (mW fun _ _=>rfl) (aa (ao 0) (aa aH (aa (wG aO T.c_MOST_LINES (by trivial)) aj))) (by trivial))) (aB (aK (Ez rfl aO T.b_list aO T.b_range (aa (ao 0) aj))))),?_⟩
 walk_at "s"
 refine tZ (by omega) (by omega) ?_
 walk_at "s"
 refine QD (n:=n) (by omega) ?_
 walk_at "s"
 intro p np
 rw [VD]
 exact q p _ np ((Same.refl H).upd np) aq
def Yk:Sp:=fun vs H Q _=>∃ (a:Addr) (t:List Nat),vs=[.ref a]/\H a=some (.lst ((nI t).map V.int))/\Prm t/\∀ q H',H q=none->Same H H'->H' q=some (.lst ((nI (inv t)).map V.int))->Q (.ref q) H'
theorem lY:aC ["turning","begins","begin","end"] ["turning"] (az rY):=⟨rfl,rfl,rfl,by trivial,rfl,by trivial,by trivial⟩
theorem gP (T:Txt K mg):Has P w K mg base 5 "opposite" ["turning"] Yk:=by
 have bh:=bh (P:=P) (w:=w) (base:=base) T
 refine cz T.d_opposite lY (fun _ _ _ _ _ _ us hl=>L2.ie (fun _=>rfl) us hl) ?_ fun f cdv A outer s H vs Q E hr h=>?_
 ·rintro vs H Q E ⟨a,t,rfl,_⟩;rfl
 obtain ⟨a,t,rfl,ha,hP,q⟩:=h
 have hu:=hr.units0
 have hu64:=hr.units
 refine ⟨_,(aA (aU (aJ bh (hr.mono (by decide)) aO (aa (ao 0) aj) (by trivial))) (aA (aM (i:=1) lY.nd rfl dj (aY nG (jm (aa aH aj)) (aF (aG (K:=K) rfl) aO T.b_len aV (aa (ao 0) aj) (by trivial) (by trivial))) rfl) (aA (iR ZS rfl (Gu (K:=K) rfl rfl aO T.b_enumerate (aa (ao 0) aj)) (Lw (K:=K) rfl rfl (tM (cY (i:=2) lY.nd rfl dj rfl) (tM (cY (i:=3) lY.nd rfl dj rfl) Gq))) (aB (lO (ts:=rn) (ao 2) (pA (ao 1) (ao 3) (lQ hu64))))) (aB (aK (ao 1)))))),?_⟩
 walk_at "s"
 have hs:20000<=sizeLine:=by decide
 have hle:=hP.le
 refine ⟨_,t,rfl,.inl ha,hP,fun H1 S1=>?_⟩
 walk_at "s"
 ·skip
  refine yO rfl fun p np=>?_
  walk_at "s"
  refine bM (SqL.of (dW np (S1 _ _ ha))) ?_
  walk_at "s"
  rw [aZ]
  refine Ep (k:=(t.length:Int)) aq (by omega) (by omega) (by simp;omega) fun b nb=>?_
  walk_at "s"
  have S2:Same H (upd (upd H1 p (.lst [.int 0])) b (.lst (List.replicate ((t.length:Int)).toNat [V.int 0]).flatten)):=(S1.upd np).upd nb
  have nb0:H b=none:=Same.back (S1.upd np) nb
  have hb0:upd (upd H1 p (.lst [.int 0])) b (.lst (List.replicate ((t.length:Int)).toNat [V.int 0]).flatten) b=some (.lst ((nI (List.replicate t.length 0)).map V.int)):=by
   rw [aq]
   congr 2
   unfold nI
   rw [List.map_replicate,List.map_replicate,show ((t.length:Int)).toNat=t.length by omega]
   generalize t.length=n
   induction n with
   | zero=>rfl
   | succ n ih=>rw [Z7,AaD,ih,Z7];rfl
  generalize upd (upd H1 p (.lst [.int 0])) b (.lst (List.replicate ((t.length:Int)).toNat [V.int 0]).flatten)=H2 at S2 hb0 ⊢
  refine .inr ⟨a,_,rfl,SqL.of (S2 _ _ ha),?_⟩
  refine yH (K:=K) (xs:=(nI t).map V.int) (fun k U H'=>∃ (r:List Nat) (x2 x3:Option V),U=[some (.ref a),some (.ref b),x2,x3]/\Same H H'/\H' b=some (.lst ((nI r).map V.int))/\r.length=t.length/\∀ (i x:Nat),i < k->t[i]?=some x->r[x]?=some i)
   ⟨List.replicate t.length 0,_,_,rfl,S2,hb0,by simp,fun i x h=>by omega⟩ (fun i U H' _ h=>?_) ?_ ?_
  ·obtain ⟨_,_,_,_,s,_⟩:=h
   exact SqL.of (s _ _ ha)
  ·rintro k U H' T v hk ⟨r,x2,x3,rfl,s,hb,hrl,hr⟩ nT
   obtain ⟨i,hi,rfl⟩:=za hk
   have hit:=hP.lt (Zd hi)
   refine dq (SqT.of aq) rfl ?_
   walk_at "s"
   refine qu (dW nT hb) (zc (p:=i) rfl (by rw [aZ];omega)) ?_
   walk_at "s"
   rw [wW]
   refine ⟨r.set i k,_,_,rfl,Same.put (s.upd nT) nb0,aq,by simp;omega,fun j x hj e=>?_⟩
   by_cases hjk:j=k
   ·subst hjk
    rw [hi] at e
    cases e
    rw [ZV (by omega)]
   ·have hx:x≠i:=fun z=>hjk (by
     subst z
     have h1:=dz hP.nd e
     have h2:=dz hP.nd hi
     omega)
    rw [ZC (fun z=>hx z.symm)]
    exact hr j x (by omega) e
  ·rintro U H' ⟨r,x2,x3,rfl,s,hb,hrl,hr⟩
   walk_at "s"
   rw [aZ] at hr
   have e:=uI hP hrl fun i x h=>hr i x (Y4.mp h).1 h
   rw [e] at hb
   exact q b _ nb0 s hb
end
local macro_rules | `(tactic| walk_at "s") => `(tactic| (with_reducible repeat (first | refine oO ?_ | walk_at "1")))
local macro_rules | `(tactic| walk_at "n") => `(tactic| (with_reducible repeat (walk_at "1")))
section
variable {P:Program} {w:World} {K:W.Frag} {mg:Str->Option Value} {base:Heap}
def spDo (K:W.Frag):Sp:=fun vs H Q _=>∃ (bg st:Addr) (E ps:List Nat),vs=[.ref bg,.ref st]/\H bg=some (.lst ((nI E).map V.int))/\H st=some (.lst ((nI ps).map V.int))/\bg≠st/\(∀ p∈ps,p+1 < E.length)/\ps.length<=6000/\
 ∀ q H',H q=none->Chg bg H H'->H' bg=some (.lst ((nI (bw E ps)).map V.int))->H' q=some (.lst ((nI (Nq E ps ps.length)).map V.int))->Q (.ref q) H'
theorem gU:aC ["begins","steps","working","place","step","lesser","greater"] ["begins","steps"] (az rZ):=⟨rfl,rfl,rfl,by trivial,rfl,by trivial,by trivial⟩
theorem sO (T:Txt K mg):Has P w K mg base 1 "do_steps" ["begins","steps"] (spDo K):=by
 refine cz T.d_do_steps gU (fun _ _ _ _ _ _ us hl=>L2.oW (fun _ _=>rfl) us hl) ?_ fun f cdv A outer s H vs Q E hr h=>?_
 ·rintro vs H Q E ⟨bg,st,E,ps,rfl,_⟩;rfl
 obtain ⟨bg,st,E,ps,rfl,hb,hst,hne,hp,hpl,q⟩:=h
 have hu:=hr.units0
 have hu64:=hr.units
 refine ⟨_,(aA (aM (i:=2) gU.nd rfl dj (jm aj) rfl) (aA (iR ZS rfl (Gu (K:=K) rfl rfl aO T.b_enumerate (aa (ao 1) aj)) (Lw (K:=K) rfl rfl (tM (cY (i:=3) gU.nd rfl dj rfl) (tM (cY (i:=4) gU.nd rfl dj rfl) Gq))) (aA (aM (i:=5) gU.nd rfl dj (iu (K:=K) rfl (ao 0) (ao 4)) rfl) (aA (aM (i:=6) gU.nd rfl dj (iu (K:=K) rfl (ao 0) (aY aR (ao 4) aH)) rfl) (aB (bK (bJ yg (ao 5) (ao 6) (by walk_at "p")) (aA (lO (ts:=rn) (ao 6) (pA (ao 0) (ao 4) (lQ hu64))) (aA (lO (ts:=rn) (ao 5) (pA (ao 0) (aY aR (ao 4) aH) (lQ hu64))) (aB (aU (pq (K:=K) rfl Z0 Aab Aac j8 (ao 2) (aa (ao 3) aj)))))) bx))))) (aB (aK (ao 2))))),?_⟩
 walk_at "s"
 have hs:20000<=sizeLine:=by decide
 refine yO rfl fun wk nwk=>?_
 walk_at "s"
 have wb:wk≠bg:=fun z=>by rw [z,hb] at nwk;cases nwk
 have ws:wk≠st:=fun z=>by rw [z,hst] at nwk;cases nwk
 refine .inr ⟨st,_,rfl,SqL.of (dW nwk hst),?_⟩
 refine yH (K:=K) (xs:=(nI ps).map V.int) (fun k U H'=>∃ (x3 x4 x5 x6:Option V),U=[some (.ref bg),some (.ref st),some (.ref wk),x3,x4,x5,x6]/\Chg bg H H'/\H' st=some (.lst ((nI ps).map V.int))/\H' bg=some (.lst ((nI (bw E (ps.take k))).map V.int))/\H' wk=some (.lst ((nI (Nq E ps k)).map V.int)))
  ⟨_,_,_,_,rfl,(Chg.refl bg H).new nwk,dW nwk hst,dW nwk hb,aq⟩ (fun i U H' _ h=>?_) ?_ ?_
 ·obtain ⟨_,_,_,_,_,_,h,_⟩:=h
  exact SqL.of h
 ·rintro k U H' T v hk ⟨x3,x4,x5,x6,rfl,c,hst',hb',hw'⟩ nT
  obtain ⟨p,hpk,rfl⟩:=za hk
  have hkl:k < ps.length:=(Y4.mp hpk).1
  have hpd:ps.getD k 0=p:=by rw [YT,hpk];rfl
  have hpE:p+1 < (bw E (ps.take k)).length:=by rw [jo];exact hp p (Zd hpk)
  have tk:ps.take (k+1)=ps.take k ++ [p]:=by rw [uH hkl,hpd]
  have wsu:=Cv E ps k
  rw [hpd] at wsu
  have wl:=QS E ps k
  have c1:Chg bg H (upd H' T (.tup [.int k,.int p])):=c.new nT
  have hT:upd H' T (.tup [.int k,.int p]) T=some (.tup [.int k,.int p]):=aq
  have hst1:=dW nT (o:=.tup [.int k,.int p]) hst'
  have hb1:=dW nT (o:=.tup [.int k,.int p]) hb'
  have hw1:=dW nT (o:=.tup [.int k,.int p]) hw'
  generalize upd H' T (.tup [.int k,.int p])=H1 at c1 hT hst1 hb1 hw1 ⊢
  have eR:bw E (ps.take (k+1))=aQ (bw E (ps.take k)) p:=by rw [tk,mY]
  generalize bw E (ps.take k)=F at hpE hb1 eR wsu
  refine dq (SqT.of hT) rfl ?_
  walk_at "s"
  refine bG (SqL.of hb1) (zb (k:=p) (by omega) rfl) ?_
  walk_at "s"
  refine bG (SqL.of hb1) (zb (k:=p+1) (by omega) (by omega)) ?_
  walk_at "s"
  have ew:qX F p=decide (((F.getD p 0:Nat):Int) < ((F.getD (p+1) 0:Nat):Int)):=by unfold qX;exact decide_eq_decide.mpr (by omega)
  rw [← ew]
  refine iteB (fun hw=>?_) (fun hw=>?_)
  ·rw [if_pos hw] at wsu
   walk_at "s"
   refine qu hb1 (zc (p:=p) rfl (by rw [aZ];omega)) ?_
   walk_at "s"
   rw [wW]
   refine qu aq (zc (p:=p+1) (by omega) (by rw [aZ];simp;omega)) ?_
   walk_at "s"
   rw [wW,O4]
   have hw2:upd H1 bg (.lst ((nI ((F.set p (F.getD (p+1) 0)).set (p+1) (F.getD p 0))).map V.int)) wk=some (.lst ((nI (Nq E ps k)).map V.int)):=by rw [aD wb];exact hw1
   refine ⟨.inl ⟨rfl,_,SqL.of hw2⟩,?_⟩
   walk_at "s"
   refine kO hw2 (by rw [aZ];omega) ?_
   walk_at "s"
   rw [Ai]
   refine ⟨_,_,_,_,rfl,?_,?_,?_,?_⟩
   ·intro b o nb e
    have nw:b≠wk:=fun z=>by rw [z,nwk] at e;cases e
    rw [aD nw,aD nb]
    exact c1 b o nb e
   ·rw [aD (Ne.symm ws),aD (Ne.symm hne)];exact hst1
   ·rw [aD (Ne.symm wb),aq,eR]
    unfold aQ
    rw [if_pos hw]
   ·rw [aq,wsu]
  ·rw [if_neg (by rw [hw];simp),ZJ] at wsu
   walk_at "s"
   refine ⟨_,_,_,_,rfl,c1,hst1,?_,?_⟩
   ·rw [hb1,eR]
    unfold aQ
    rw [if_neg (by rw [hw];simp)]
   ·rw [hw1,wsu]
 ·rintro U H' ⟨x3,x4,x5,x6,rfl,c,hst',hb',hw'⟩
  rw [aZ] at hb' hw'
  rw [Aag] at hb'
  walk_at "s"
  exact q wk H' nwk c hb' hw'
def MR (r:R2):Prop:=∀ x y H Q Q',(∀ v H1,Q v H1->Q' v H1)->r x y H Q->r x y H Q'
def ME (te:TE):Prop:=∀ U H Q Q',(∀ v H1,Q v H1->Q' v H1)->te U H Q->te U H Q'
def MT (te:TT):Prop:=∀ U H Q Q',(∀ v H1,Q v H1->Q' v H1)->te U H Q->te U H Q'
theorem Sq (g:Int->Int->V):MR (Kz g):=by
 rintro x y H Q Q' h ⟨i,j,e1,e2,q⟩
 exact ⟨i,j,e1,e2,h _ _ q⟩
theorem Ss:MR (RV K):=by
 rintro x y H Q Q' h (⟨p,xs,i,v,a,b,c,d,q⟩ | ⟨p,xs,i,v,a,b,c,d,q⟩ | ⟨z,i,c,a,b,d,e,q⟩)
 ·exact .inl ⟨p,xs,i,v,a,b,c,d,h _ _ q⟩
 ·exact .inr (.inl ⟨p,xs,i,v,a,b,c,d,h _ _ q⟩)
 ·exact .inr (.inr ⟨z,i,c,a,b,d,e,h _ _ q⟩)
theorem Q7:MR BP:=by
 rintro x y H Q Q' h (⟨i,j,a,b,q⟩ | ⟨i,j,a,b,c,q⟩ | ⟨p,q',xs,ys,a,b,c,d,e,q⟩)
 ·exact .inl ⟨i,j,a,b,h _ _ q⟩
 ·exact .inr (.inl ⟨i,j,a,b,c,h _ _ q⟩)
 ·exact .inr (.inr ⟨p,q',xs,ys,a,b,c,d,e,fun r hr=>h _ _ (q r hr)⟩)
theorem wY (i:Nat):ME (rF i):=by
 rintro U H Q Q' h ⟨v,e,q⟩
 exact ⟨v,e,h _ _ q⟩
theorem Yl (v:V):ME (tC v):=fun U H Q Q' h q=>h _ _ q
theorem CV {r:R2} {ta tb:TE} (hr:MR r) (ha:ME ta) (hb:ME tb):ME (Ky r ta tb):=fun U H Q Q' h q=>ha U H _ _ (fun x H1 q1=>hb U H1 _ _ (fun y H2 q2=>hr _ _ _ _ _ h q2) q1) q
theorem Hk {te:TE} (h:ME te):MT (yj te):=fun U H Q Q' hq q=>h U H _ _ (fun x H1 ⟨k,e,q1⟩=>⟨k,e,hq _ _ q1⟩) q
theorem VF {t u:TT} (h:MT t) (h2:MT u):MT (O7 t u):=fun U H Q Q' hq q=>h U H _ _ (fun c H1 q1=>by
 cases c with
 | true=>rw [if_pos rfl] at q1 ⊢;exact h2 _ _ _ _ hq q1
 | false=>rw [if_neg Y5] at q1 ⊢;exact hq _ _ q1) q
def mu4 (U:St) (_:Hp):Nat:=match U[4]? with
 | some (some (V.int z))=>(z+1).toNat
 | _=>0
theorem vo:∀ (p:Nat) (B u:List Nat),(inn p B u).1.length=B.length
 | 0,_,_=>rfl
 | p+1,B,u=>by
  unfold inn
  split
  ·rw [vo p,nQ]
  ·rfl
theorem vp:∀ (p:Nat) (B u:List Nat),(inn p B u).2.length<=u.length+p
 | 0,_,_=>YZ _
 | p+1,B,u=>by
  unfold inn
  split
  ·have:=vp p (xr B p) (u ++ [p])
   rw [Z3,List.length_singleton] at this
   omega
  ·exact Aa6 _ _
theorem vq (B:List Nat):∀ k,(uJ B k).1.length=B.length
 | 0=>rfl
 | k+1=>(vo _ _ _).trans (vq B k)
theorem vy (B:List Nat):∀ k,k<=96->(uJ B k).2.length<=96*k
 | 0,_=>YZ _
 | k+1,h=>by
  have h1:=vp (k+1) (uJ B k).1 (uJ B k).2
  have h2:=vy B k (by omega)
  show (inn (k+1) (uJ B k).1 (uJ B k).2).2.length<=_
  omega
def JK:Sp:=fun vs H Q _=>∃ (a:Addr) (t:List Nat),vs=[.ref a]/\H a=some (.lst ((nI t).map V.int))/\Prm t/\∀ q H',H q=none->Same H H'->H' q=some (.lst ((nI (Jy t).reverse).map V.int))->Q (.ref q) H'
theorem dR:aC ["turning","begins","undone","place","step","greater"] ["turning"] (az sy):=⟨rfl,rfl,rfl,by trivial,rfl,by trivial,by trivial⟩
theorem sS (T:Txt K mg):Has P w K mg base 6 "steps_of" ["turning"] JK:=by
 have gP:=gP (P:=P) (w:=w) (base:=base) T
 refine cz T.d_steps_of dR (fun _ _ _ _ _ _ us hl=>L2.ie (fun _=>rfl) us hl) ?_ fun f cdv A outer s H vs Q E hr h=>?_
 ·rintro vs H Q E ⟨a,t,rfl,_⟩;rfl
 obtain ⟨a,t,rfl,hT,hP,q⟩:=h
 have hu:=hr.units0
 have hu64:=hr.units
 refine ⟨_,(aA (aM (i:=1) dR.nd rfl dj (aJ gP (hr.mono (by decide)) aO (aa (ao 0) aj) (by trivial)) rfl) (aA (aM (i:=2) dR.nd rfl dj (jm aj) rfl) (aA (iR ZS rfl (Jd aO T.b_range (aa aH (aa (aF (aG (K:=K) rfl) aO T.b_len aV (aa (ao 1) aj) (by trivial) (by trivial)) aj))) (cY (i:=3) dR.nd rfl dj rfl) (aA (aM (i:=4) dR.nd rfl dj (aY ik (ao 3) aH) rfl) (aB (Lx ZS (lN (Eo (bJ RT (ao 4) aH (by walk_at "p")) (zO (bJ v7 (iu (K:=K) rfl (ao 1) (ao 4)) (iu (K:=K) rfl (ao 1) (aY aR (ao 4) aH)) (by walk_at "p"))))) (aA (aM (i:=5) dR.nd rfl dj (iu (K:=K) rfl (ao 1) (ao 4)) rfl) (aA (lO (ts:=rn) (iu (K:=K) rfl (ao 1) (aY aR (ao 4) aH)) (pA (ao 1) (ao 4) (lQ hu64))) (aA (lO (ts:=rn) (ao 5) (pA (ao 1) (aY aR (ao 4) aH) (lQ hu64))) (aA (aU (pq (K:=K) rfl Z0 Aab Aac j8 (ao 2) (aa (ao 4) aj))) (aB (Vr (i:=4) dR.nd rfl dj aH Px rfl)))))))))) (aB (aK (yI (K:=K) rfl rfl aO T.b_list aO T.b_reversed (ao 2))))))),?_⟩
 walk_at "s"
 have hs:20000<=sizeLine:=by decide
 have hle:=hP.le
 have il:=bD t
 refine ⟨a,t,rfl,hT,hP,fun b H1 nb S1 hb=>?_⟩
 walk_at "s"
 refine yO rfl fun ud nud=>?_
 walk_at "s"
 have nud0:=Same.back S1 nud
 have bu:b≠ud:=fun z=>by rw [z,nud] at hb;cases hb
 refine bM (SqL.of (dW nud hb)) ?_
 walk_at "s"
 rw [aZ]
 refine ⟨⟨by omega,by omega,by omega,by omega⟩,?_⟩
 rw [show (((inv t).length:Int) - 1).toNat=t.length - 1 by omega]
 refine ql (n:=t.length - 1) (fun k U H'=>∃ (x3 x4 x5:Option V),U=[some (.ref a),some (.ref b),some (.ref ud),x3,x4,x5]/\Same H H'/\H' b=some (.lst ((nI (uJ (inv t) k).1).map V.int))/\H' ud=some (.lst ((nI (uJ (inv t) k).2).map V.int)))
  ⟨_,_,_,rfl,S1.upd nud,dW nud hb,aq⟩ ?_ ?_
 ·rintro k U H' hk ⟨x3,x4,x5,rfl,s,hb1,hu1⟩
  walk_at "s"
  have ol:=vq (inv t) k
  have ul:=vy (inv t) k (by omega)
  refine Kw (fun U H'=>∃ (p:Nat) (B u:List Nat) (x5:Option V),U=[some (.ref a),some (.ref b),some (.ref ud),some (.int (1+(k:Int))),some (.int ((p:Int) - 1)),x5]/\Same H H'/\H' b=some (.lst ((nI B).map V.int))/\H' ud=some (.lst ((nI u).map V.int))/\p<=k+1/\B.length=t.length/\u.length+p<=96*k+k+1/\inn p B u=uJ (inv t) (k+1)) mu4
   ⟨k+1,_,_,x5,by rw [show (((k+1:Nat):Int) - 1)=1+(k:Int) - 1 by omega];rfl,s,hb1,hu1,YZ _,by omega,by omega,rfl⟩ ?_ ?_
  ·rintro U H' ⟨p,B,u,x5,rfl,s,hb2,hu2,hp,hB,hul,hin⟩
   walk_at "s"
   cases p with
   | zero=>
    rw [Zc (by omega)]
    walk_at "s"
    exact ⟨_,_,_,rfl,s,by rw [← hin];exact hb2,by rw [← hin];exact hu2⟩
   | succ p=>
    rw [show (((p+1:Nat):Int) - 1)=(p:Int) by omega,Y7 (show (0:Int)<=(p:Int) by omega)]
    walk_at "s"
    refine bG (SqL.of hb2) (zb (k:=p) (by omega) rfl) ?_
    walk_at "s"
    refine bG (SqL.of hb2) (zb (k:=p+1) (by omega) (by omega)) ?_
    walk_at "s"
    refine rK (fun hc=>?_) (fun hc=>?_)
    ·have hin2:inn p (xr B p) (u ++ [p])=uJ (inv t) (k+1):=by
      rw [← hin]
      conv=>rhs;unfold inn
      rw [if_pos (by omega)]
     walk_at "s"
     refine bG (SqL.of hb2) (zb (k:=p) (by omega) rfl) ?_
     walk_at "s"
     refine bG (SqL.of hb2) (zb (k:=p+1) (by omega) (by omega)) ?_
     walk_at "s"
     refine qu hb2 (zc (p:=p) rfl (by rw [aZ];omega)) ?_
     walk_at "s"
     rw [wW]
     refine qu aq (zc (p:=p+1) (by omega) (by rw [aZ];simp;omega)) ?_
     walk_at "s"
     rw [wW]
     have s3:Same H (upd (upd H' b (.lst ((nI (B.set p (B.getD (p+1) 0))).map V.int))) b (.lst ((nI ((B.set p (B.getD (p+1) 0)).set (p+1) (B.getD p 0))).map V.int))):=Same.put (Same.put s nb) nb
     have hb3:upd (upd H' b (.lst ((nI (B.set p (B.getD (p+1) 0))).map V.int))) b (.lst ((nI ((B.set p (B.getD (p+1) 0)).set (p+1) (B.getD p 0))).map V.int)) b=some (.lst ((nI (xr B p)).map V.int)):=aq
     have hu3:upd (upd H' b (.lst ((nI (B.set p (B.getD (p+1) 0))).map V.int))) b (.lst ((nI ((B.set p (B.getD (p+1) 0)).set (p+1) (B.getD p 0))).map V.int)) ud=some (.lst ((nI u).map V.int)):=by rw [aD (Ne.symm bu),aD (Ne.symm bu)];exact hu2
     generalize upd (upd H' b (.lst ((nI (B.set p (B.getD (p+1) 0))).map V.int))) b (.lst ((nI ((B.set p (B.getD (p+1) 0)).set (p+1) (B.getD p 0))).map V.int))=H3 at s3 hb3 hu3 ⊢
     refine ⟨.inl ⟨rfl,_,SqL.of hu3⟩,?_⟩
     walk_at "s"
     refine kO hu3 (by rw [aZ];omega) ?_
     walk_at "s"
     rw [Ai]
     refine ⟨⟨p,xr B p,u ++ [p],_,rfl,Same.put s3 nud0,by rw [aD bu];exact hb3,aq,by omega,by rw [nQ];exact hB,by simp;omega,hin2⟩,?_⟩
     show ((p:Int) - 1+1).toNat < ((p:Int)+1).toNat
     omega
    ·have hin2:(B,u)=uJ (inv t) (k+1):=by
      rw [← hin]
      conv=>rhs;unfold inn
      rw [if_neg (by omega)]
     walk_at "s"
     exact ⟨_,_,_,rfl,s,by rw [← hin2];exact hb2,by rw [← hin2];exact hu2⟩
  ·exact VF (Hk (CV (Sq _) (wY _) (Yl _))) (Hk (CV (Sq _) (CV Ss (wY _) (wY _)) (CV Ss (wY _) (CV Q7 (wY _) (Yl _)))))
 ·rintro U H' ⟨x3,x4,x5,rfl,s,hb1,hu1⟩
  walk_at "s"
  refine ⟨_,rfl,_,_,rfl,SqL.of hu1,fun r nr=>?_⟩
  refine q r _ (Same.back s nr) (s.upd nr) ?_
  rw [aq]
  unfold nI Jy
  rw [List.map_reverse,List.map_reverse]
def Q8 (K:W.Frag):Sp:=fun vs H Q _=>∃ a b x y,vs=[.ref a,.ref b]/\H a=some (.lst ((nI x).map V.int))/\H b=some (.lst ((nI y).map V.int))/\Prm x/\Prm y/\x.length=y.length/\∀ H',Same H H'->Q .non H'
theorem xN:aC ["one","other"] ["one","other"] (az n8):=⟨rfl,rfl,rfl,by trivial,rfl,by trivial,by trivial⟩
theorem oH (T:Txt K mg):Has P w K mg base 5 "need_alike" ["one","other"] (Q8 K):=by
 have bh:=bh (P:=P) (w:=w) (base:=base) T
 refine cz T.d_need_alike xN (fun _ _ _ _ _ _ us hl=>L2.oW (fun _ _=>rfl) us hl) ?_ fun f cdv A outer s H vs Q E hr h=>?_
 ·rintro vs H Q E ⟨a,b,x,y,rfl,_⟩;rfl
 obtain ⟨a,b,x,y,rfl,ha,hb,px,py,he,q⟩:=h
 have hu:=hr.units0
 have hu64:=hr.units
 refine ⟨_,(aA (aU (aJ bh (hr.mono (by decide)) aO (aa (ao 0) aj) (by trivial))) (aA (aU (aJ bh (hr.mono (by decide)) aO (aa (ao 1) aj) (by trivial))) (aB (bK (bJ (zP (K:=K) rfl hu64) (aF (aG (K:=K) rfl) aO T.b_len aV (aa (ao 0) aj) (by trivial) (by trivial)) (aF (aG (K:=K) rfl) aO T.b_len aV (aa (ao 1) aj) (by trivial) (by trivial)) (by walk_at "p")) (aB dH) bx)))),?_⟩
 walk_at "s"
 refine ⟨a,x,rfl,.inl ha,px,fun H1 S1=>?_⟩
 walk_at "s"
 refine ⟨b,y,rfl,.inl (S1 _ _ hb),py,fun H2 S2=>?_⟩
 walk_at "s"
 have U2:=S1.trans S2
 refine bM (SqL.of (U2 _ _ ha)) ?_
 walk_at "s"
 refine bM (SqL.of (U2 _ _ hb)) ?_
 walk_at "s"
 rw [aZ,aZ,CP,Y7 (show (x.length:Int)=(y.length:Int) by omega)]
 walk_at "s"
 exact q _ U2
def VG (K:W.Frag):Sp:=fun vs H Q _=>∃ a b x y n,vs=[.ref a,.ref b]/\H a=some (.lst ((nI x).map V.int))/\H b=some (.lst ((nI y).map V.int))/\Two n x y/\∀ q H',H q=none->Same H H'->H' q=some (.lst ((nI (lay x y)).map V.int))->Q (.ref q) H'
theorem Hl:aC ["one","other","begins"] ["one","other"] (az Fj):=⟨rfl,rfl,rfl,by trivial,rfl,by trivial,by trivial⟩
theorem uQ (T:Txt K mg):Has P w K mg base 7 "laid" ["one","other"] (VG K):=by
 have oH:=oH (P:=P) (w:=w) (base:=base) T
 have gP:=gP (P:=P) (w:=w) (base:=base) T
 have sO:=sO (P:=P) (w:=w) (base:=base) T
 have sS:=sS (P:=P) (w:=w) (base:=base) T
 refine cz T.d_laid Hl (fun _ _ _ _ _ _ us hl=>L2.oW (fun _ _=>rfl) us hl) ?_ fun f cdv A outer s H vs Q E hr h=>?_
 ·rintro vs H Q E ⟨a,b,x,y,n,rfl,_⟩;rfl
 obtain ⟨a,b,x,y,n,rfl,ha,hb,h2,q⟩:=h
 have hu:=hr.units0
 have hu64:=hr.units
 refine ⟨_,(aA (aU (aJ oH (hr.mono (by decide)) aO (aa (ao 0) (aa (ao 1) aj)) (by trivial))) (aA (aM (i:=2) Hl.nd rfl dj (aJ gP (hr.mono (by decide)) aO (aa (ao 0) aj) (by trivial)) rfl) (aA (aU (aJ sO (hr.mono (by decide)) aO (aa (ao 2) (aa (aJ sS (hr.mono (by decide)) aO (aa (ao 1) aj) (by trivial)) aj)) (by trivial))) (aB (aK (aJ gP (hr.mono (by decide)) aO (aa (ao 2) aj) (by trivial))))))),?_⟩
 walk_at "s"
 have cl:=Ye h2.py.le
 refine ⟨a,b,x,y,rfl,ha,hb,h2.px,h2.py,by rw [h2.lx,h2.ly],fun H1 S1=>?_⟩
 walk_at "s"
 refine ⟨a,x,rfl,S1 _ _ ha,h2.px,fun bg H2 nb S2 hb2=>?_⟩
 walk_at "s"
 refine ⟨b,y,rfl,(S1.trans S2) _ _ hb,h2.py,fun st H3 nst S3 hst=>?_⟩
 walk_at "s"
 have nb0:=Same.back S1 nb
 have hne:bg≠st:=fun z=>by rw [z] at hb2;rw [hb2] at nst;cases nst
 refine ⟨bg,st,inv x,(Jy y).reverse,rfl,S3 _ _ hb2,hst,hne,(fun p hp=>by rw [bD,h2.lx];exact h2.lt p hp),(by rw [QW h2.py];exact cl),fun wk H4 nwk C4 hb4 hw4=>?_⟩
 walk_at "s"
 have S4:Same H H4:=fun c o e=>C4 c o (fun z=>by rw [z,nb0] at e;cases e) (S3 _ _ (S2 _ _ (S1 _ _ e)))
 refine ⟨bg,_,rfl,hb4,h2.run.1,fun r H5 nr S5 hr=>?_⟩
 exact q r H5 (Same.back S4 nr) (S4.trans S5) hr
end
local macro_rules | `(tactic| walk_at "s") => `(tactic| (with_reducible repeat (first | refine oO ?_ | walk_at "2")))
local macro_rules | `(tactic| walk_at "n") => `(tactic| (with_reducible repeat (walk_at "2")))
section
variable {P:Program} {w:World} {K:W.Frag} {mg:Str->Option Value} {base:Heap}
theorem CW:(["sign"]:List Str).Nodup:=by trivial
def uR:Str:=Str.ofString "abcdefghijklmnopqrstuvwxyz"
def GOOD:List Nat:=(uR ++ Str.ofString ".").cps.toList
def Row (z:Str):Prop:=z.length<=48/\∀ c∈z.cps.toList,c∈GOOD
def vH (l:Str) (c:Nat):Bool:=(Builtin.Str.occurrences l ⟨#[c]⟩ 0 l.length 1).isEmpty
theorem Q9:∀ c∈GOOD,vH (uR ++ Str.ofString ".") c=false:=by trivial
def Ra:Sp:=fun vs H Q _=>∃ z:Str,vs=[.str z]/\Row z/\∀ H',Same H H'->Q (.bl true) H'
def VH:Sp:=fun vs H Q _=>∃ z:Str,vs=[.str z]/\Row z/\∀ H',Same H H'->Q .non H'
def Rb:Sp:=fun vs H Q _=>∃ z y:Str,vs=[.str z,.str y]/\Row z/\Row y/\∀ H',Same H H'->Q .non H'
theorem JL:aC ["thing"] ["thing"] (az tX):=⟨rfl,rfl,rfl,by trivial,rfl,by trivial,by trivial⟩
theorem wZ (T:Txt K mg):Has P w K mg base 1 "is_row" ["thing"] Ra:=by
 refine cz T.d_is_row JL (fun _ _ _ _ _ _ us hl=>L2.ie (fun _=>rfl) us hl) ?_ fun f cdv A outer s H vs Q E hr h=>?_
 ·rintro vs H Q E ⟨p,rfl,_⟩;rfl
 obtain ⟨z,rfl,⟨hz,hg⟩,q⟩:=h
 have hu:=hr.units0
 have hu64:=hr.units
 refine ⟨_,(aA (bK (lN (ph (bW (bY (aF (di (K:=K) rfl) aO T.b_isinstance bj (aa (ao 0) (aa (uB aO T.b_str Em (by trivial) (by trivial)) aj)) (by trivial) (by trivial)))) (kJ (bJ v7 (aF (aG (K:=K) rfl) aO T.b_len aV (aa (ao 0) aj) (by trivial) (by trivial)) (wG aO T.c_MOST_SIGNS (by trivial)) (by walk_at "p"))))) (aB (aK kE)) bx) (aB (aK (aF (wB rfl) aO T.b_all Ek (aa (my (sub:=[none]) (dg (N:=["thing"]) (sc:=az tX) (N':=["sign"]) (by trivial)) rfl rfl rfl (iw (K:=K) rfl (ao 0)) (fun C s₀ H₀ ex=>(vC 0 (by trivial) CW)) (fun C s₀ H₀ ex=>gH) (fun C s₀ H₀ ex=>(kI (Ej (K:=K) rfl) (km 0 (by trivial)) (aY aR (wF (Wm (by trivial)) T.c_LETTERS (by trivial)) (wF (Wm (by trivial)) T.c_POINT (by trivial))) (by walk_at "p")))) aj) (by trivial) (by trivial))))),?_⟩
 walk_at "s"
 have hz1:z.length<=sizeLine:=Zo hz (by decide)
 refine jP (.str z) rfl ?_
 walk_at "s"
 try with_reducible refine oX ?_
 walk_at "s"
 refine bQ hz1 ?_
 walk_at "s"
 refine rK (fun h1=>?_) (fun h1=>?_)
 ·omega
 walk_at "s"
 refine .inr (.inr ⟨z,rfl,?_⟩)
 refine BX (fun i us H'=>H'=H/\us=((z.cps.toList.take i).map fun c=>!vH (uR ++ Str.ofString ".") c).map V.bl) hz1 ⟨rfl,rfl⟩ ?_ ?_ ?_
 ·rintro i us H' ⟨rfl,rfl⟩
  simp;omega
 ·rintro i us H' c hc ⟨rfl,rfl⟩
  walk_at "s"
  refine ⟨KeepSt.set rfl,?_⟩
  walk_at "s"
  try with_reducible refine o8 ?_
  walk_at "s"
  refine uA (Zo (show (Str.ofString "abcdefghijklmnopqrstuvwxyz").length+(Str.ofString ".").length<=1000 by trivial) (by decide)) ?_
  walk_at "s"
  refine ⟨rfl,?_⟩
  rw [Aai,hc]
  simp [uR,vH]
 ·rintro us H' ⟨rfl,rfl⟩ D hD
  walk_at "s"
  refine ⟨D,_,rfl,aq,?_⟩
  have e2:(List.map (fun c=>!vH (uR ++ Str.ofString ".") c) (z.cps.toList.take z.cps.size)).all id=true:=by
   rw [List.all_map,Aaf]
   intro c hc
   have:=Q9 c (hg c (Aa4 hc))
   simp [this]
  rw [e2]
  exact q _ ((Same.refl H').upd hD)
theorem CZ:aC ["thing"] ["thing"] (az rT):=⟨rfl,rfl,rfl,by trivial,rfl,by trivial,by trivial⟩
theorem oJ (T:Txt K mg):Has P w K mg base 2 "need_row" ["thing"] VH:=by
 have wZ:=wZ (P:=P) (w:=w) (base:=base) T
 refine cz T.d_need_row CZ (fun _ _ _ _ _ _ us hl=>L2.ie (fun _=>rfl) us hl) ?_ fun f cdv A outer s H vs Q E hr h=>?_
 ·rintro vs H Q E ⟨p,rfl,_⟩;rfl
 obtain ⟨z,rfl,hz,q⟩:=h
 refine ⟨_,(aB (bK (bW (bY (aJ wZ (hr.mono (by decide)) aO (aa (ao 0) aj) (by trivial)))) (aB dH) bx)),?_⟩
 walk_at "s"
 refine ⟨z,rfl,hz,fun H1 S1=>?_⟩
 walk_at "s"
 try with_reducible refine oX ?_
 walk_at "s"
 exact q _ S1
theorem Al:aC ["side","top"] ["side","top"] (az pO):=⟨rfl,rfl,rfl,by trivial,rfl,by trivial,by trivial⟩
theorem gW (T:Txt K mg):Has P w K mg base 3 "need_rows" ["side","top"] Rb:=by
 have oJ:=oJ (P:=P) (w:=w) (base:=base) T
 refine cz T.d_need_rows Al (fun _ _ _ _ _ _ us hl=>L2.oW (fun _ _=>rfl) us hl) ?_ fun f cdv A outer s H vs Q E hr h=>?_
 ·rintro vs H Q E ⟨p,y,rfl,_⟩;rfl
 obtain ⟨z,y,rfl,hz,hy,q⟩:=h
 refine ⟨_,(aA (aU (aJ oJ (hr.mono (by decide)) aO (aa (ao 0) aj) (by trivial))) (aB (aU (aJ oJ (hr.mono (by decide)) aO (aa (ao 1) aj) (by trivial))))),?_⟩
 walk_at "s"
 refine ⟨z,rfl,hz,fun H1 S1=>?_⟩
 walk_at "s"
 refine ⟨y,rfl,hy,fun H2 S2=>?_⟩
 exact q _ (S1.trans S2)
def JM:Sp:=fun vs H Q _=>∃ c:Nat,vs=[.str ⟨#[c]⟩]/\Q (.bl (!vH uR c)) H
theorem N8:∀ c∈GOOD,vH uR c=true->c=46:=by trivial
theorem Am:aC ["thing"] ["thing"] (az pL):=⟨rfl,rfl,rfl,by trivial,rfl,by trivial,by trivial⟩
theorem pZ (T:Txt K mg):Has P w K mg base 1 "is_letter" ["thing"] JM:=by
 refine cz T.d_is_letter Am (fun _ _ _ _ _ _ us hl=>L2.ie (fun _=>rfl) us hl) ?_ fun f cdv A outer s H vs Q E hr h=>?_
 ·rintro vs H Q E ⟨c,rfl,_⟩;rfl
 obtain ⟨c,rfl,q⟩:=h
 have hu:=hr.units0
 have hu64:=hr.units
 refine ⟨_,(aB (aK (ir (aF (di (K:=K) rfl) aO T.b_isinstance bj (aa (ao 0) (aa (uB aO T.b_str Em (by trivial) (by trivial)) aj)) (by trivial) (by trivial)) (ir (kI (dw (K:=K) rfl hu64) (aF (aG (K:=K) rfl) aO T.b_len aV (aa (ao 0) aj) (by trivial) (by trivial)) aH (by walk_at "p")) (jQ (kI (Ej (K:=K) rfl) (ao 0) (wF aO T.c_LETTERS (by trivial)) (by walk_at "p"))))))),?_⟩
 walk_at "s"
 refine jP (.str _) rfl ?_
 walk_at "s"
 refine bQ (by rw [Lr];decide) ?_
 walk_at "s"
 rw [Lr,show decide (V.int ((1:Nat):Int)=V.int 1)=true from rfl]
 walk_at "s"
 exact q
def Rc:Sp:=fun vs H Q _=>∃ c:Nat,vs=[.str ⟨#[c]⟩]/\c∈GOOD/\Q (.bl true) H
theorem Fq:aC ["thing"] ["thing"] (az uL):=⟨rfl,rfl,rfl,by trivial,rfl,by trivial,by trivial⟩
theorem uT (T:Txt K mg):Has P w K mg base 2 "is_sign" ["thing"] Rc:=by
 have pZ:=pZ (P:=P) (w:=w) (base:=base) T
 refine cz T.d_is_sign Fq (fun _ _ _ _ _ _ us hl=>L2.ie (fun _=>rfl) us hl) ?_ fun f cdv A outer s H vs Q E hr h=>?_
 ·rintro vs H Q E ⟨c,rfl,_⟩;rfl
 obtain ⟨c,rfl,hc,q⟩:=h
 have hu:=hr.units0
 have hu64:=hr.units
 refine ⟨_,(aB (aK (Xr (aJ pZ (hr.mono (by decide)) aO (aa (ao 0) aj) (by trivial)) (jQ (kI (dw (K:=K) rfl hu64) (ao 0) (wF aO T.c_POINT (by trivial)) (by walk_at "p")))))),?_⟩
 walk_at "s"
 refine ⟨c,rfl,?_⟩
 walk_at "s"
 cases hb:vH uR c with
 | false=>
  show if true=true then _ else _
  walk_at "s"
  exact q
 | true=>
  obtain rfl:=N8 c hc hb
  show if false=true then _ else _
  walk_at "s"
  rw [show decide (V.str ⟨#[46]⟩=V.str (Str.ofString "."))=true by trivial]
  exact q
def Ft:Sp:=fun vs H Q _=>∃ c:Nat,vs=[.str ⟨#[c]⟩]/\c∈GOOD/\Q .non H
theorem An:aC ["thing"] ["thing"] (az pN):=⟨rfl,rfl,rfl,by trivial,rfl,by trivial,by trivial⟩
theorem lZ (T:Txt K mg):Has P w K mg base 3 "need_sign" ["thing"] Ft:=by
 have uT:=uT (P:=P) (w:=w) (base:=base) T
 refine cz T.d_need_sign An (fun _ _ _ _ _ _ us hl=>L2.ie (fun _=>rfl) us hl) ?_ fun f cdv A outer s H vs Q E hr h=>?_
 ·rintro vs H Q E ⟨c,rfl,_⟩;rfl
 obtain ⟨c,rfl,hc,q⟩:=h
 have hu:=hr.units0
 have hu64:=hr.units
 refine ⟨_,(aB (bK (bW (bY (aJ uT (hr.mono (by decide)) aO (aa (ao 0) aj) (by trivial)))) (aB dH) bx)),?_⟩
 walk_at "s"
 refine ⟨c,rfl,hc,?_⟩
 walk_at "s"
 walk_at "s"
 exact q
end
local macro_rules | `(tactic| walk_at "s") => `(tactic| (with_reducible repeat (first | refine oO ?_ | walk_at "3")))
local macro_rules | `(tactic| walk_at "n") => `(tactic| (with_reducible repeat (walk_at "3")))
section
variable {P:Program} {w:World} {K:W.Frag} {mg:Str->Option Value} {base:Heap}
def Hx (p:Addr) (H:Hp):Hp:=fun b=>if b=p then none else H b
theorem Hn (p:Addr) (H:Hp):Same (Hx p H) H:=fun b o e=>by
 unfold Hx at e
 split at e
 ·cases e
 ·exact e
theorem zf {p b:Addr} {H:Hp} {o:HO} (h:H b=some o) (n:b≠p):Hx p H b=some o:=by unfold Hx;rw [if_neg n];exact h
theorem VJ {p:Addr} {H:Hp} {o:HO}:Hx p (upd H p o)=Hx p H:=by
 funext b
 unfold Hx
 by_cases h:b=p
 ·rw [if_pos h,if_pos h]
 ·rw [if_neg h,if_neg h,aD h]
def Oa:List Str:=["Blank","One","Over","Beside","Ring"]
def O3 (side top kind:Str) (al ap:Addr) (h:Nat):List (Str×V):=[("held_side",.str side),("held_top",.str top),("held_kind",.str kind),("held_lines",.ref al),("held_parts",.ref ap),("held_height",.int (h:Int))]
def Pc (mg:Str->Option Value) (H:Hp) (x:Addr) (y side top kind:Str) (L:List Nat) (ps:List V) (h:Nat):Prop:=y∈Oa/\∃ dx al ap,H x=some (.ins (aL mg y) dx (O3 side top kind al ap h))/\H al=some (.lst ((nI L).map V.int))/\H ap=some (.lst ps)
theorem Pc.same {H H':Hp} {x:Addr} {y side top kind:Str} {L:List Nat} {ps:List V} {h:Nat} (p:Pc mg H x y side top kind L ps h) (s:Same H H'):Pc mg H' x y side top kind L ps h:=by
 obtain ⟨hy,dx,al,ap,a,b,c⟩:=p
 exact ⟨hy,dx,al,ap,s _ _ a,s _ _ b,s _ _ c⟩
theorem Ym (T:Txt K mg) {y:Str} (hy:y∈Oa):∀ f∈(["held_side","held_top","held_kind","held_lines","held_parts","held_height"]:List Str),NoAttr K (aL mg y) f:=by
 unfold Oa at hy
 simp only [Za,Zz,or_false] at hy
 rcases hy with rfl | rfl | rfl | rfl | rfl
 ·exact T.n_Blank
 ·exact T.n_One
 ·exact T.n_Over
 ·exact T.n_Beside
 ·exact fun f hf=>T.n_Ring f (by simp only [Za,Zz,or_false] at hf ⊢;rcases hf with h | h | h | h | h | h <;> simp [h])
def Rf (mg:Str->Option Value):Sp:=fun vs H Q _=>∃ x y side top kind L ps h,vs=[.ref x]/\Pc mg H x y side top kind L ps h/\Q (.str side) H
theorem xO:aC ["self"] ["self"] (az oF):=⟨rfl,rfl,rfl,by trivial,rfl,by trivial,by trivial⟩
theorem bL (T:Txt K mg):Ju P w K mg base 1 ["Blank","One","Over","Beside","Ring"] "side" ["self"] (Rf mg):=by
 refine QL T.m_Piece_side xO (fun _ _ _ _ _ _ us hl=>L2.ie (fun _=>rfl) us hl) ?_ fun f cdv A outer s H vs Q E hr h=>?_
 ·rintro vs H Q E ⟨x,y,side,top,kind,L,ps,h,rfl,_⟩;rfl
 obtain ⟨x,y,side,top,kind,L,ps,h,rfl,⟨hy,dx,al,ap,hx,_,_⟩,q⟩:=h
 have hu:=hr.units0
 have hu64:=hr.units
 refine ⟨_,(aB (aK (jZ (K:=K) rfl (ao 0)))),?_⟩
 walk_at "s"
 refine ⟨x,_,dx,_,_,rfl,hx,T.os_Piece y hy,Ym T hy _ (by simp),rfl,?_⟩
 walk_at "s"
 exact q
def VL (mg:Str->Option Value):Sp:=fun vs H Q _=>∃ x y side top kind L ps h,vs=[.ref x]/\Pc mg H x y side top kind L ps h/\Q (.str top) H
theorem Ao:aC ["self"] ["self"] (az pU):=⟨rfl,rfl,rfl,by trivial,rfl,by trivial,by trivial⟩
theorem bU (T:Txt K mg):Ju P w K mg base 1 ["Blank","One","Over","Beside","Ring"] "top" ["self"] (VL mg):=by
 refine QL T.m_Piece_top Ao (fun _ _ _ _ _ _ us hl=>L2.ie (fun _=>rfl) us hl) ?_ fun f cdv A outer s H vs Q E hr h=>?_
 ·rintro vs H Q E ⟨x,y,side,top,kind,L,ps,h,rfl,_⟩;rfl
 obtain ⟨x,y,side,top,kind,L,ps,h,rfl,⟨hy,dx,al,ap,hx,_,_⟩,q⟩:=h
 have hu:=hr.units0
 have hu64:=hr.units
 refine ⟨_,(aB (aK (jZ (K:=K) rfl (ao 0)))),?_⟩
 walk_at "s"
 refine ⟨x,_,dx,_,_,rfl,hx,T.os_Piece y hy,Ym T hy _ (by simp),rfl,?_⟩
 walk_at "s"
 exact q
def JN (mg:Str->Option Value):Sp:=fun vs H Q _=>∃ x y side top kind L ps h,vs=[.ref x]/\Pc mg H x y side top kind L ps h/\Q (.int (h:Int)) H
theorem vI:aC ["self"] ["self"] (az lw):=⟨rfl,rfl,rfl,by trivial,rfl,by trivial,by trivial⟩
theorem lC (T:Txt K mg):Ju P w K mg base 1 ["Blank","One","Over","Beside","Ring"] "height" ["self"] (JN mg):=by
 refine QL T.m_Piece_height vI (fun _ _ _ _ _ _ us hl=>L2.ie (fun _=>rfl) us hl) ?_ fun f cdv A outer s H vs Q E hr h=>?_
 ·rintro vs H Q E ⟨x,y,side,top,kind,L,ps,h,rfl,_⟩;rfl
 obtain ⟨x,y,side,top,kind,L,ps,h,rfl,⟨hy,dx,al,ap,hx,_,_⟩,q⟩:=h
 have hu:=hr.units0
 have hu64:=hr.units
 refine ⟨_,(aB (aK (jZ (K:=K) rfl (ao 0)))),?_⟩
 walk_at "s"
 refine ⟨x,_,dx,_,_,rfl,hx,T.os_Piece y hy,Ym T hy _ (by simp),rfl,?_⟩
 walk_at "s"
 exact q
def Ob (mg:Str->Option Value):Sp:=fun vs H Q _=>∃ x y side top kind L ps h,vs=[.ref x]/\Pc mg H x y side top kind L ps h/\∀ q H',H q=none->Same H H'->H' q=some (.lst ((nI L).map V.int))->Q (.ref q) H'
theorem w5:aC ["self"] ["self"] (az mH):=⟨rfl,rfl,rfl,by trivial,rfl,by trivial,by trivial⟩
theorem bz (T:Txt K mg):Ju P w K mg base 1 ["Blank","One","Over","Beside","Ring"] "lines" ["self"] (Ob mg):=by
 refine QL T.m_Piece_lines w5 (fun _ _ _ _ _ _ us hl=>L2.ie (fun _=>rfl) us hl) ?_ fun f cdv A outer s H vs Q E hr h=>?_
 ·rintro vs H Q E ⟨x,y,side,top,kind,L,ps,h,rfl,_⟩;rfl
 obtain ⟨x,y,side,top,kind,L,ps,h,rfl,⟨hy,dx,al,ap,hx,hal,_⟩,q⟩:=h
 have hu:=hr.units0
 have hu64:=hr.units
 refine ⟨_,(aB (aK (tL (nH (K:=K) rfl rfl) aO T.b_list j4 (aa (jZ (K:=K) rfl (ao 0)) aj) (by trivial) (by trivial)))),?_⟩
 walk_at "s"
 refine ⟨x,_,dx,_,_,rfl,hx,T.os_Piece y hy,Ym T hy _ (by simp),rfl,?_⟩
 walk_at "s"
 refine zN (SqL.of hal) fun l nl=>?_
 walk_at "s"
 exact q l _ nl ((Same.refl H).upd nl) aq
theorem qY:(["part"]:List Str).Nodup:=by trivial
theorem Chg.same {x:Addr} {H H1 H2:Hp} (c:Chg x H H1) (s:Same H1 H2):Chg x H H2:=fun b o n e=>s _ _ (c b o n e)
theorem Chg.put {x:Addr} {H H1:Hp} {o:HO} (c:Chg x H H1):Chg x H (upd H1 x o):=fun b u n e=>by rw [aD n];exact c b u n e
theorem iH {f:Str} {y:V}:∀ {fs:List (Str×V)},(fs.map (·.1)).contains f=false->kj f y fs=fs ++ [(f,y)]
 | [],_=>rfl
 | (g,z) :: fs,h=>by
  simp only [ZP,Aad,AaG] at h
  have hne:¬ g=f:=fun e=>by rw [e] at h;simp at h
  have ih:=iH (y:=y) (fs:=fs) h.2
  unfold kj
  simp [hne,ih]
theorem m6 {H:Hp} {x C dx:Addr} {fs:List (Str×V)} {f:Str} {y:V} (hf:(fs.map (·.1)).contains f=false):∃ H',upd H x (.ins C dx (kj f y fs))=H'/\H' x=some (.ins C dx (fs ++ [(f,y)]))/\Chg x H H':=
 ⟨_,rfl,by rw [aq,iH hf],Chg.put (Chg.refl x H)⟩
def PsH (mg:Str->Option Value) (H:Hp) (ps:List V) (hs:List Nat):Prop:=ps.length=hs.length/\∀ (i:Nat) (v:V) (h:Nat),ps[i]?=some v->hs[i]?=some h->∃ q y s t k L qs,v= .ref q/\Pc mg H q y s t k L qs h
theorem PsH.chg {H H':Hp} {x C dx:Addr} {ps:List V} {hs:List Nat} (p:PsH mg H ps hs) (hx:H x=some (.ins C dx [])) (c:Chg x H H'):PsH mg H' ps hs:=⟨p.1,fun i v h e1 e2=>by
 obtain ⟨q,y,s,t,k,L,qs,rfl,hy,ex,al,ap,h1,h2,h3⟩:=p.2 i v h e1 e2
 refine ⟨q,y,s,t,k,L,qs,rfl,hy,ex,al,ap,c _ _ ?_ h1,c _ _ ?_ h2,c _ _ ?_ h3⟩
 ·intro z;rw [z,hx] at h1;cases h1
 ·intro z;rw [z,hx] at h2;cases h2
 ·intro z;rw [z,hx] at h3;cases h3⟩
def xP (hs:List Nat) (h:Nat):Prop:=(hs=[]/\h=0)\/((∃ a∈hs,h=a+1)/\∀ a∈hs,a+1<=h)
def Aq (mg:Str->Option Value):Sp:=fun vs H Q _=>∃ (x dx l p:Addr) (y side top kind:Str) (L:List Nat) (ps:List V) (hs:List Nat),vs=[.ref x,.str side,.str top,.str kind,.ref l,.ref p]/\y∈Oa/\H x=some (.ins (aL mg y) dx [])/\H l=some (.lst ((nI L).map V.int))/\H p=some (.lst ps)/\ps.length<=1000/\PsH mg H ps hs/\
 ∀ h H',xP hs h->Chg x H H'->Pc mg H' x y side top kind L ps h->(∀ m o,H m=some o->m≠x->Pc mg (Hx m H') x y side top kind L ps h)->Q .non H'
theorem t6:aC ["self","side","top","kind","lines","parts"] ["self","side","top","kind","lines","parts"] (az dY):=⟨rfl,rfl,rfl,by trivial,rfl,by trivial,by trivial⟩
theorem aP (T:Txt K mg):Vu P w K mg base 2 "Piece" "__init__" ["self","side","top","kind","lines","parts"] (Aq mg):=by
 have lC:=lC (P:=P) (w:=w) (base:=base) T
 refine hasC T.m_Piece___init__ t6 (fun _ _ _ _ _ _ us hl=>L2.usN6 (fun _ _ _ _ _ _=>rfl) us hl) ?_ fun f cdv A outer s H vs Q E hr h=>?_
 ·rintro vs H Q E ⟨x,dx,l,p,y,side,top,kind,L,ps,hs,rfl,_⟩;rfl
 obtain ⟨x,dx,l,p,y,side,top,kind,L,ps,hs,rfl,hy,hx,hl,hp,hpl,hH,q⟩:=h
 have hu:=hr.units0
 have hu64:=hr.units
 refine ⟨_,(aA (iT (K:=K) rfl (ao 0) (ao 1)) (aA (iT (K:=K) rfl (ao 0) (ao 2)) (aA (iT (K:=K) rfl (ao 0) (ao 3)) (aA (iT (K:=K) rfl (ao 0) (tL (nH (K:=K) rfl rfl) aO T.b_list j4 (aa (ao 4) aj) (by trivial) (by trivial))) (aA (iT (K:=K) rfl (ao 0) (tL (nH (K:=K) rfl rfl) aO T.b_list j4 (aa (ao 5) aj) (by trivial) (by trivial))) (aB (iT (K:=K) rfl (ao 0) (Vv rfl aO T.b_max (my (sub:=[none]) (dg (N:=["self","side","top","kind","lines","parts"]) (sc:=az dY) (N':=["part"]) (by trivial)) rfl rfl rfl (iw (K:=K) rfl (ao 5)) (fun C s₀ H₀ ex=>(vC 0 (by trivial) qY)) (fun C s₀ H₀ ex=>gH) (fun C s₀ H₀ ex=>(aY aR (bH (mg:=mg) rfl (km 0 (by trivial)) T.os_Piece lC (hr.mono (by decide)) (mW fun _ _=>rfl)) aH))) aH)))))))),?_⟩
 walk_at "s"
 have hz:20000<=sizeLine:=by decide
 have cl:=T.os_Piece y hy
 have na:=Ym T hy
 have lx:∀ {G:Hp} {C ex:Addr} {fs:List (Str×V)} {a:Addr} {us:List V},G x=some (.ins C ex fs)->G a=some (.lst us)->a≠x:=fun h1 h2 z=>by rw [z,h1] at h2;cases h2
 refine ⟨x,_,dx,_,rfl,hx,cl,na _ (by simp),by simp,?_⟩
 walk_at "s"
 obtain ⟨H1,e1,hx1,M1⟩:=m6 (H:=H) (x:=x) (C:=aL mg y) (dx:=dx) (fs:=[]) (f:="held_side") (y:=.str side) rfl
 rw [e1]
 walk_at "s"
 refine ⟨x,_,dx,_,rfl,hx1,cl,na _ (by simp),by simp,?_⟩
 walk_at "s"
 obtain ⟨H2,e2,hx2,M2⟩:=m6 (H:=H1) (x:=x) (C:=aL mg y) (dx:=dx) (fs:=[] ++ [(Str.ofString "held_side",V.str side)]) (f:="held_top") (y:=.str top) (by show (["held_side"]:List Str).contains "held_top"=false;trivial)
 rw [e2]
 walk_at "s"
 refine ⟨x,_,dx,_,rfl,hx2,cl,na _ (by simp),by simp,?_⟩
 walk_at "s"
 obtain ⟨H3,e3,hx3,M3⟩:=m6 (H:=H2) (x:=x) (C:=aL mg y) (dx:=dx) (fs:=[] ++ [(Str.ofString "held_side",V.str side)] ++ [(Str.ofString "held_top",V.str top)]) (f:="held_kind") (y:=.str kind) (by show (["held_side","held_top"]:List Str).contains "held_kind"=false;trivial)
 rw [e3]
 have C3:=(M1.trans M2).trans M3
 have hl3:=C3 l _ (lx hx hl) hl
 walk_at "s"
 refine zN (SqL.of hl3) fun al nal=>?_
 walk_at "s"
 have S4:=(Same.refl H3).upd nal (o:=.lst ((nI L).map V.int))
 have hal:=aq (H:=H3) (a:=al) (o:=.lst ((nI L).map V.int))
 generalize upd H3 al (.lst ((nI L).map V.int))=H4 at S4 hal ⊢
 walk_at "s"
 refine ⟨x,_,dx,_,rfl,S4 _ _ hx3,cl,na _ (by simp),by simp,?_⟩
 walk_at "s"
 obtain ⟨H5,e5,hx5,M5⟩:=m6 (H:=H4) (x:=x) (C:=aL mg y) (dx:=dx) (fs:=[] ++ [(Str.ofString "held_side",V.str side)] ++ [(Str.ofString "held_top",V.str top)] ++ [(Str.ofString "held_kind",V.str kind)]) (f:="held_lines") (y:=.ref al) (by show (["held_side","held_top","held_kind"]:List Str).contains "held_lines"=false;trivial)
 rw [e5]
 have C5:=(Chg.same C3 S4).trans M5
 have hp5:=C5 p _ (lx hx hp) hp
 have hal5:=M5 al _ (lx (S4 _ _ hx3) hal) hal
 walk_at "s"
 refine zN (SqL.of hp5) fun ap nap=>?_
 walk_at "s"
 have S6:=(Same.refl H5).upd nap (o:=.lst ps)
 have hap:=aq (H:=H5) (a:=ap) (o:=.lst ps)
 generalize upd H5 ap (.lst ps)=H6 at S6 hap ⊢
 walk_at "s"
 refine ⟨x,_,dx,_,rfl,S6 _ _ hx5,cl,na _ (by simp),by simp,?_⟩
 walk_at "s"
 obtain ⟨H7,e7,hx7,M7⟩:=m6 (H:=H6) (x:=x) (C:=aL mg y) (dx:=dx) (fs:=[] ++ [(Str.ofString "held_side",V.str side)] ++ [(Str.ofString "held_top",V.str top)] ++ [(Str.ofString "held_kind",V.str kind)] ++ [(Str.ofString "held_lines",V.ref al)]) (f:="held_parts") (y:=.ref ap) (by show (["held_side","held_top","held_kind","held_lines"]:List Str).contains "held_parts"=false;trivial)
 rw [e7]
 have C7:=(Chg.same C5 S6).trans M7
 have hp7:=C7 p _ (lx hx hp) hp
 have hal7:=M7 al _ (lx (S6 _ _ hx5) (S6 _ _ hal5)) (S6 _ _ hal5)
 have hap7:=M7 ap _ (lx (S6 _ _ hx5) hap) hap
 have hH7:=hH.chg hx C7
 walk_at "s"
 refine .inl ⟨p,rfl,⟨_,SqL.of hp7⟩,?_⟩
 have hul:=hH.1
 refine nO (xs:=ps) (fun i zs G=>G=H7/\zs=(nI ((hs.take i).map (· +1))).map V.int) (by omega) ⟨rfl,rfl⟩ ?_ ?_ ?_ ?_
 ·rintro i zs G ⟨_,rfl⟩
  rw [aZ];simp;omega
 ·rintro i zs G ⟨rfl,_⟩
  exact SqL.of hp7
 ·rintro i zs G v hv ⟨rfl,rfl⟩
  have hi:i < hs.length:=by rw [← hul];exact (Y4.mp hv).1
  obtain ⟨hh,eh⟩:∃ hh,hs[i]?=some hh:=⟨_,YX hi⟩
  obtain ⟨r,y',s',t',k',L',qs,rfl,hP⟩:=hH7.2 i v hh hv eh
  obtain ⟨hy',ex,al',ap',h1,_,_⟩:=id hP
  walk_at "s"
  refine ⟨KeepSt.set rfl,?_⟩
  walk_at "s"
  refine ⟨r,y',ex,_,rfl,hy',h1,rfl,?_⟩
  walk_at "s"
  refine ⟨r,y',s',t',k',L',qs,hh,rfl,hP,?_⟩
  walk_at "s"
  refine ⟨rfl,?_⟩
  rw [Aai,eh,Zy,show ((hh:Int)+1)=((hh+1:Nat):Int) by omega,Ai]
  rfl
 ·rintro zs G D H8 ⟨rfl,rfl⟩ nD S8 hD
  rw [hul,Aag] at hD
  try walk_at "s"
  have C8:=Chg.same C7 S8
  have hx8:=S8 _ _ hx7
  have key:∀ h:Nat,xP hs h->Q .non (upd H8 x (.ins (aL mg y) dx (kj (Str.ofString "held_height") (.int (h:Int)) ([] ++ [(Str.ofString "held_side",V.str side)] ++ [(Str.ofString "held_top",V.str top)] ++ [(Str.ofString "held_kind",V.str kind)] ++ [(Str.ofString "held_lines",V.ref al)] ++ [(Str.ofString "held_parts",V.ref ap)])))):=fun h hh=>by
   obtain ⟨H9,e9,hx9,M9⟩:=m6 (H:=H8) (x:=x) (C:=aL mg y) (dx:=dx) (fs:=([] ++ [(Str.ofString "held_side",V.str side)] ++ [(Str.ofString "held_top",V.str top)] ++ [(Str.ofString "held_kind",V.str kind)] ++ [(Str.ofString "held_lines",V.ref al)] ++ [(Str.ofString "held_parts",V.ref ap)])) (f:=Str.ofString "held_height") (y:=.int (h:Int)) (by show (["held_side","held_top","held_kind","held_lines","held_parts"]:List Str).contains "held_height"=false;trivial)
   rw [e9]
   have hal9:=M9 al _ (lx hx8 (S8 _ _ hal7)) (S8 _ _ hal7)
   have hap9:=M9 ap _ (lx hx8 (S8 _ _ hap7)) (S8 _ _ hap7)
   refine q h H9 hh (C8.trans M9) ⟨hy,dx,al,ap,hx9,hal9,hap9⟩ fun m o hm nm=>⟨hy,dx,al,ap,zf hx9 (Ne.symm nm),zf hal9 ?_,zf hap9 ?_⟩
   ·intro z;rw [z,C3 m o nm hm] at nal;cases nal
   ·intro z;rw [z,C5 m o nm hm] at nap;cases nap
  refine ⟨D,_,rfl,hD,fun e=>?_,fun M hM hmx=>?_⟩
  ·have e0:hs=[]:=by
    cases hs with
    | nil=>rfl
    | cons a b=>cases e
   walk_at "s"
   exact ⟨x,_,dx,_,rfl,hx8,cl,na _ (by simp),by simp,key 0 (.inl ⟨e0,rfl⟩)⟩
  ·unfold nI at hM hmx
   obtain ⟨a',ha',rfl⟩:=ZD.mp hM
   obtain ⟨a,ha,rfl⟩:=ZD.mp ha'
   walk_at "s"
   refine ⟨x,_,dx,_,rfl,hx8,cl,na _ (by simp),by simp,key (a+1) (.inr ⟨⟨a,ha,rfl⟩,fun b hb=>?_⟩)⟩
   have:=hmx ((b+1:Nat):Int) (ZD.mpr ⟨b+1,ZD.mpr ⟨b,hb,rfl⟩,rfl⟩)
   omega
theorem vJ:(["end","low"]:List Str).Nodup:=by trivial
theorem pcT (T:Txt K mg) {y:Str} (hy:y∈Oa):ITxt K mg y/\Sub K mg y "Piece" true:=by
 unfold Oa at hy
 simp only [Za,Zz,or_false] at hy
 rcases hy with rfl | rfl | rfl | rfl | rfl
 ·exact ⟨T.t_Blank,T.u_Blank_Piece⟩
 ·exact ⟨T.t_One,T.u_One_Piece⟩
 ·exact ⟨T.t_Over,T.u_Over_Piece⟩
 ·exact ⟨T.t_Beside,T.u_Beside_Piece⟩
 ·exact ⟨T.t_Ring,T.u_Ring_Piece⟩
def IsP (mg:Str->Option Value) (H:Hp) (v:V):Prop:=∃ x y s t k L ps h,v= .ref x/\Pc mg H x y s t k L ps h
theorem Rh (T:Txt K mg) {H:Hp} {v:V} {Q:VK} (h:IsP mg H v) (q:Q (.bl true) H):yK K [v,.ref (aL mg "Piece")] H Q:=by
 obtain ⟨x,y,s,t,k,L,ps,n,rfl,hy,dx,al,ap,hx,_,_⟩:=h
 exact Vj ((pcT T hy).1.ty (T.os_Piece y hy) hx) rfl (pcT T hy).2.one q
def JP (mg:Str->Option Value):Sp:=fun vs H Q _=>∃ u v,vs=[u,v]/\IsP mg H u/\IsP mg H v/\∀ H',Same H H'->Q .non H'
theorem IsP.same {H H':Hp} {v:V} (h:IsP mg H v) (s:Same H H'):IsP mg H' v:=by
 obtain ⟨x,y,a,b,c,L,ps,n,rfl,h⟩:=h
 exact ⟨x,y,a,b,c,L,ps,n,rfl,h.same s⟩
theorem p6:aC ["one","other","thing"] ["one","other"] (az mD):=⟨rfl,rfl,rfl,by trivial,rfl,by trivial,by trivial⟩
theorem dm (T:Txt K mg):Has P w K mg base 3 "need_pieces" ["one","other"] (JP mg):=by
 refine cz T.d_need_pieces p6 (fun _ _ _ _ _ _ us hl=>L2.oW (fun _ _=>rfl) us hl) ?_ fun f cdv A outer s H vs Q E hr h=>?_
 ·rintro vs H Q E ⟨u,v,rfl,_⟩;rfl
 obtain ⟨u,v,rfl,hu1,hv1,q⟩:=h
 have hu:=hr.units0
 have hu64:=hr.units
 refine ⟨_,(aB (iR ZS rfl (iw (K:=K) rfl (Ca (aa (ao 0) (aa (ao 1) aj)))) (cY (i:=2) p6.nd rfl dj rfl) (aB (bK (bW (bY (aF (qm (K:=K) rfl) aO T.b_isinstance bj (aa (ao 2) (aa (Mt aO T.o_Piece.at_ (by trivial)) aj)) (by trivial) (by trivial)))) (aB dH) bx)))),?_⟩
 walk_at "s"
 refine cG rfl fun t H1 nt S1 ht=>?_
 walk_at "s"
 refine .inr (.inl ⟨t,rfl,⟨_,SqT.of ht⟩,?_⟩)
 refine FT (xs:=[u,v]) (fun i U G=>Same H1 G/\∃ x2,U=[some u,some v,x2]) ⟨Same.refl H1,_,rfl⟩ (fun i U G _ h=>SqT.of (h.1 _ _ ht)) ?_ ?_
 ·rintro i w U G hw ⟨s,x2,rfl⟩
  have hP:IsP mg G w:=by
   have:=Zd hw
   simp only [Za,Zz,or_false] at this
   rcases this with rfl | rfl
   ·exact hu1.same (S1.trans s)
   ·exact hv1.same (S1.trans s)
  walk_at "s"
  refine Rh T hP ?_
  walk_at "s"
  exact ⟨s,_,rfl⟩
 ·rintro U G ⟨s,x2,rfl⟩
  exact q G (S1.trans s)
def Fv:Sp:=fun vs H Q _=>∃ z:Str,vs=[.str z,.str z]/\Q .non H
theorem Ar:aC ["one","other"] ["one","other"] (az pP):=⟨rfl,rfl,rfl,by trivial,rfl,by trivial,by trivial⟩
theorem gY (T:Txt K mg):Has P w K mg base 3 "need_same" ["one","other"] Fv:=by
 refine cz T.d_need_same Ar (fun _ _ _ _ _ _ us hl=>L2.oW (fun _ _=>rfl) us hl) ?_ fun f cdv A outer s H vs Q E hr h=>?_
 ·rintro vs H Q E ⟨z,rfl,_⟩;rfl
 obtain ⟨z,rfl,q⟩:=h
 have hu:=hr.units0
 have hu64:=hr.units
 refine ⟨_,(aB (bK (bJ (zP (K:=K) rfl hu64) (ao 0) (ao 1) (by walk_at "p")) (aB dH) bx)),?_⟩
 walk_at "s"
 rw [Y7 (rfl:V.str z=V.str z)]
 walk_at "s"
 exact q
def Dc:Sp:=fun vs H Q _=>∃ z:Str,vs=[.str z]/\z.length<=48/\Q .non H
theorem xQ:aC ["row"] ["row"] (az oh):=⟨rfl,rfl,rfl,by trivial,rfl,by trivial,by trivial⟩
theorem dZ (T:Txt K mg):Has P w K mg base 3 "need_short" ["row"] Dc:=by
 refine cz T.d_need_short xQ (fun _ _ _ _ _ _ us hl=>L2.ie (fun _=>rfl) us hl) ?_ fun f cdv A outer s H vs Q E hr h=>?_
 ·rintro vs H Q E ⟨z,rfl,_⟩;rfl
 obtain ⟨z,rfl,hz,q⟩:=h
 have hu:=hr.units0
 have hu64:=hr.units
 refine ⟨_,(aB (bK (bJ v7 (aF (aG (K:=K) rfl) aO T.b_len aV (aa (ao 0) aj) (by trivial) (by trivial)) (wG aO T.c_MOST_SIGNS (by trivial)) (by walk_at "p")) (aB dH) bx)),?_⟩
 walk_at "s"
 refine bQ (Zo hz (by decide)) ?_
 walk_at "s"
 rw [Zc (show ¬ (48:Int) < (z.length:Int) by omega)]
 walk_at "s"
 exact q
theorem Av (a b:List Nat):(nI a).map V.int ++ (nI b).map V.int=(nI (a ++ b)).map V.int:=by unfold nI;rw [Zy,Zy]
theorem gZ {m far:Nat} {e:Nat->Nat->Bool}:((nI (LN m far e)).map V.int).length=m+far:=by rw [aZ,gj]
theorem Ho {k:Nat} {G:List Nat} (hG:Prm G) (hk:k+G.length<=96):Prm (List.range k ++ G.map (k+ ·)):=by
 have hl:(List.range k ++ G.map (k+ ·)).length=k+G.length:=by simp
 refine ⟨by omega,?_⟩
 rw [hl,AaB]
 exact List.Perm.append_left _ (hG.pm.map _)
theorem Dd {r n:Nat} {G:List Nat} (hG:Prm G) (hn:G.length=n) (hk:n+r<=96):Prm (G ++ (List.range r).map (n+ ·)):=by
 subst hn
 have hl:(G ++ (List.range r).map (G.length+ ·)).length=G.length+r:=by simp
 refine ⟨by omega,?_⟩
 rw [hl,AaB]
 exact hG.pm.append_right _
theorem De (lo:Int) (k n:Nat) (e:lo=(k:Int)):((List.range n).map fun i:Nat=>V.int (lo+(i:Int)*1))=(nI ((List.range n).map (k+ ·))).map V.int:=by
 subst e
 unfold nI
 rw [Aas,Aas]
 refine Aar fun x _=>?_
 show V.int ((k:Int)+(x:Int)*1)=V.int ((k+x:Nat):Int)
 congr 1;omega
def Ri (K:W.Frag):Sp:=fun vs H Q _=>∃ (u l:Addr) (mu ml far:Nat) (e:Nat->Nat->Bool),vs=[.ref u,.ref l,.int far]/\mu+ml+far<=96/\H u=some (.lst ((nI (LN mu far e)).map V.int))/\H l=some (.lst ((nI (LN ml far fun i j=>e (mu+i) j)).map V.int))/\
 ∀ q H',H q=none->Same H H'->H' q=some (.lst ((nI (LN (mu+ml) far e)).map V.int))->Q (.ref q) H'
theorem gB:aC ["upper","lower","far","high","low","one","other"] ["upper","lower","far"] (az j5):=⟨rfl,rfl,rfl,by trivial,rfl,by trivial,by trivial⟩
theorem oK (T:Txt K mg):Has P w K mg base 8 "lines_over" ["upper","lower","far"] (Ri K):=by
 have cZ:=cZ (P:=P) (w:=w) (base:=base) T
 have uQ:=uQ (P:=P) (w:=w) (base:=base) T
 refine cz T.d_lines_over gB (fun _ _ _ _ _ _ us hl=>L2.oY (fun _ _ _=>rfl) us hl) ?_ fun f cdv A outer s H vs Q E hr h=>?_
 ·rintro vs H Q E ⟨u,l,mu,ml,far,e,rfl,_⟩;rfl
 obtain ⟨u,l,mu,ml,far,e,rfl,hn,hu1,hl,q⟩:=h
 have hu:=hr.units0
 have hu64:=hr.units
 refine ⟨_,(aA (aM (i:=3) gB.nd rfl dj (aY ik (aF (aG (K:=K) rfl) aO T.b_len aV (aa (ao 0) aj) (by trivial) (by trivial)) (ao 2)) rfl) (aA (aM (i:=4) gB.nd rfl QQ (aY ik (aF (aG (K:=K) rfl) aO T.b_len aV (aa (ao 1) aj) (by trivial) (by trivial)) (ao 2)) rfl) (aA (aM (i:=5) gB.nd rfl dj (aY aR (aJ cZ (hr.mono (by decide)) aO (aa (cC 4) aj) (by trivial)) (my (sub:=[none,some 4]) (dg (N:=["upper","lower","far","high","low","one","other"]) (sc:=az j5) (N':=["end","low"]) (by trivial)) rfl rfl rfl (iw (K:=K) rfl (ao 0)) (fun C s₀ H₀ ex=>(vC 0 (by trivial) vJ)) (fun C s₀ H₀ ex=>gH) (fun C s₀ H₀ ex=>(aY aR (oR 1 (by trivial)) (km 0 (by trivial)))))) rfl) (aA (aM (i:=6) gB.nd rfl dj (aY aR (ao 1) (wN rfl aO T.b_list aO T.b_range (aa (aY aR (cC 4) (ao 2)) (aa (aY aR (aY aR (cC 4) (ao 2)) (ao 3)) aj)))) rfl) (aB (aK (aJ uQ (hr.mono (by decide)) aO (aa (ao 5) (aa (ao 6) aj)) (by trivial)))))))),?_⟩
 walk_at "s"
 have hz:20000<=sizeLine:=by decide
 refine bM (SqL.of hu1) ?_
 walk_at "s"
 rw [gZ]
 walk_at "s"
 refine bM (SqL.of hl) ?_
 walk_at "s"
 rw [gZ,show ((mu+far:Nat):Int) - (far:Int)=(mu:Int) by omega,show ((ml+far:Nat):Int) - (far:Int)=(ml:Int) by omega]
 walk_at "s"
 refine ⟨ml,rfl,by omega,fun a H1 na S1 ha=>?_⟩
 walk_at "s"
 refine .inl ⟨u,rfl,⟨_,SqL.of (S1 _ _ hu1)⟩,?_⟩
 refine nO (xs:=(nI (LN mu far e)).map V.int) (fun i zs G=>G=H1/\zs=(nI (((LN mu far e).take i).map (ml+ ·))).map V.int) (by rw [gZ];omega) ⟨rfl,rfl⟩ ?_ ?_ ?_ ?_
 ·rintro i zs G ⟨_,rfl⟩
  rw [aZ];simp;omega
 ·rintro i zs G ⟨rfl,_⟩
  exact SqL.of (S1 _ _ hu1)
 ·rintro i zs G v hv ⟨rfl,rfl⟩
  obtain ⟨a',ea,rfl⟩:=za hv
  walk_at "s"
  refine ⟨KeepSt.set rfl,?_⟩
  walk_at "s"
  refine ⟨rfl,?_⟩
  rw [Aai,ea,Zy,show ((ml:Int)+(a':Int))=((ml+a':Nat):Int) by omega]
  unfold nI
  rw [Zy,Zy]
  rfl
 rintro zs G D H2 ⟨rfl,rfl⟩ nD S2 hD
 rw [gZ,← gj mu far e,Aag] at hD
 try walk_at "s"
 refine zM (S2 _ _ ha) hD (by rw [aZ,aZ];simp [gj];omega) fun o1 no1=>?_
 walk_at "s"
 rw [Av]
 have S3:=(Same.refl H2).upd no1 (o:=.lst ((nI (List.range ml ++ (LN mu far e).map (ml+ ·))).map V.int))
 have ho1:=aq (H:=H2) (a:=o1) (o:=.lst ((nI (List.range ml ++ (LN mu far e).map (ml+ ·))).map V.int))
 generalize upd H2 o1 (.lst ((nI (List.range ml ++ (LN mu far e).map (ml+ ·))).map V.int))=H3 at S3 ho1 ⊢
 have U3:=S1.trans (S2.trans S3)
 walk_at "s"
 refine Ha (n:=mu) (by omega) (by omega) (by omega) (by omega) fun r nr=>?_
 walk_at "s"
 rw [De _ (ml+far) mu (by omega)] at ⊢
 have S4:=(Same.refl H3).upd nr (o:=.lst ((nI ((List.range mu).map (ml+far+ ·))).map V.int))
 have hr4:=aq (H:=H3) (a:=r) (o:=.lst ((nI ((List.range mu).map (ml+far+ ·))).map V.int))
 generalize upd H3 r (.lst ((nI ((List.range mu).map (ml+far+ ·))).map V.int))=H4 at S4 hr4 ⊢
 walk_at "s"
 refine zM (S4 _ _ (U3 _ _ hl)) hr4 (by rw [aZ,aZ];simp [gj];omega) fun o2 no2=>?_
 walk_at "s"
 rw [Av]
 have S5:=(Same.refl H4).upd no2 (o:=.lst ((nI (LN ml far (fun i j=>e (mu+i) j) ++ (List.range mu).map (ml+far+ ·))).map V.int))
 have ho2:=aq (H:=H4) (a:=o2) (o:=.lst ((nI (LN ml far (fun i j=>e (mu+i) j) ++ (List.range mu).map (ml+far+ ·))).map V.int))
 generalize upd H4 o2 (.lst ((nI (LN ml far (fun i j=>e (mu+i) j) ++ (List.range mu).map (ml+far+ ·))).map V.int))=H5 at S5 ho2 ⊢
 have U5:=U3.trans (S4.trans S5)
 walk_at "s"
 refine ⟨o1,o2,_,_,mu+ml+far,rfl,(S4.trans S5) _ _ ho1,ho2,⟨Ho (uK (by omega)) (by rw [gj];omega),Dd (uK (by omega)) (gj _ _ _) (by omega),by simp [gj];omega,by simp [gj];omega⟩,fun r' H6 nr' S6 hr'=>?_⟩
 rw [NP hn] at hr'
 exact q r' H6 (Same.back U5 nr') (U5.trans S6) hr'
theorem t7:(["end","near"]:List Str).Nodup:=by trivial
def JQ (K:W.Frag):Sp:=fun vs H Q _=>∃ (l r:Addr) (m fl fr:Nat) (e:Nat->Nat->Bool),vs=[.ref l,.ref r,.int m]/\m+(fl+fr)<=96/\H l=some (.lst ((nI (LN m fl e)).map V.int))/\H r=some (.lst ((nI (LN m fr fun i j=>e i (fl+j))).map V.int))/\
 ∀ q H',H q=none->Same H H'->H' q=some (.lst ((nI (LN m (fl+fr) e)).map V.int))->Q (.ref q) H'
theorem dh:aC ["left","right","many","near","far","one","other"] ["left","right","many"] (az iB):=⟨rfl,rfl,rfl,by trivial,rfl,by trivial,by trivial⟩
theorem cW (T:Txt K mg):Has P w K mg base 8 "lines_beside" ["left","right","many"] (JQ K):=by
 have cZ:=cZ (P:=P) (w:=w) (base:=base) T
 have uQ:=uQ (P:=P) (w:=w) (base:=base) T
 refine cz T.d_lines_beside dh (fun _ _ _ _ _ _ us hl=>L2.oY (fun _ _ _=>rfl) us hl) ?_ fun f cdv A outer s H vs Q E hr h=>?_
 ·rintro vs H Q E ⟨l,r,m,fl,fr,e,rfl,_⟩;rfl
 obtain ⟨l,r,m,fl,fr,e,rfl,hn,hl,hr1,q⟩:=h
 have hu:=hr.units0
 have hu64:=hr.units
 refine ⟨_,(aA (aM (i:=3) dh.nd rfl QQ (aY ik (aF (aG (K:=K) rfl) aO T.b_len aV (aa (ao 0) aj) (by trivial) (by trivial)) (ao 2)) rfl) (aA (aM (i:=4) dh.nd rfl dj (aY ik (aF (aG (K:=K) rfl) aO T.b_len aV (aa (ao 1) aj) (by trivial) (by trivial)) (ao 2)) rfl) (aA (aM (i:=5) dh.nd rfl dj (aY aR (ao 0) (wN rfl aO T.b_list aO T.b_range (aa (aY aR (ao 2) (cC 3)) (aa (aY aR (aY aR (ao 2) (cC 3)) (ao 4)) aj)))) rfl) (aA (aM (i:=6) dh.nd rfl dj (aY aR (aJ cZ (hr.mono (by decide)) aO (aa (cC 3) aj) (by trivial)) (my (sub:=[none,some 3]) (dg (N:=["left","right","many","near","far","one","other"]) (sc:=az iB) (N':=["end","near"]) (by trivial)) rfl rfl rfl (iw (K:=K) rfl (ao 1)) (fun C s₀ H₀ ex=>(vC 0 (by trivial) t7)) (fun C s₀ H₀ ex=>gH) (fun C s₀ H₀ ex=>(aY aR (oR 1 (by trivial)) (km 0 (by trivial)))))) rfl) (aB (aK (aJ uQ (hr.mono (by decide)) aO (aa (ao 5) (aa (ao 6) aj)) (by trivial)))))))),?_⟩
 walk_at "s"
 have hz:20000<=sizeLine:=by decide
 refine bM (SqL.of hl) ?_
 walk_at "s"
 rw [gZ]
 walk_at "s"
 refine bM (SqL.of hr1) ?_
 walk_at "s"
 rw [gZ,show ((m+fl:Nat):Int) - (m:Int)=(fl:Int) by omega,show ((m+fr:Nat):Int) - (m:Int)=(fr:Int) by omega]
 walk_at "s"
 refine Ha (n:=fr) (by omega) (by omega) (by omega) (by omega) fun p np=>?_
 walk_at "s"
 rw [De _ (m+fl) fr (by omega)]
 have S1:=(Same.refl H).upd np (o:=.lst ((nI ((List.range fr).map (m+fl+ ·))).map V.int))
 have hp1:=aq (H:=H) (a:=p) (o:=.lst ((nI ((List.range fr).map (m+fl+ ·))).map V.int))
 generalize upd H p (.lst ((nI ((List.range fr).map (m+fl+ ·))).map V.int))=H1 at S1 hp1 ⊢
 walk_at "s"
 refine zM (S1 _ _ hl) hp1 (by rw [aZ,aZ];simp [gj];omega) fun o1 no1=>?_
 walk_at "s"
 rw [Av]
 have S2:=(Same.refl H1).upd no1 (o:=.lst ((nI (LN m fl e ++ (List.range fr).map (m+fl+ ·))).map V.int))
 have ho1:=aq (H:=H1) (a:=o1) (o:=.lst ((nI (LN m fl e ++ (List.range fr).map (m+fl+ ·))).map V.int))
 generalize upd H1 o1 (.lst ((nI (LN m fl e ++ (List.range fr).map (m+fl+ ·))).map V.int))=H2 at S2 ho1 ⊢
 walk_at "s"
 refine ⟨fl,rfl,by omega,fun a H3 na S3 ha=>?_⟩
 walk_at "s"
 have U3:=S1.trans (S2.trans S3)
 refine .inl ⟨r,rfl,⟨_,SqL.of (U3 _ _ hr1)⟩,?_⟩
 refine nO (xs:=(nI (LN m fr fun i j=>e i (fl+j))).map V.int) (fun i zs G=>G=H3/\zs=(nI (((LN m fr fun i j=>e i (fl+j)).take i).map (fl+ ·))).map V.int) (by rw [gZ];omega) ⟨rfl,rfl⟩ ?_ ?_ ?_ ?_
 ·rintro i zs G ⟨_,rfl⟩
  rw [aZ];simp;omega
 ·rintro i zs G ⟨rfl,_⟩
  exact SqL.of (U3 _ _ hr1)
 ·rintro i zs G v hv ⟨rfl,rfl⟩
  obtain ⟨a',ea,rfl⟩:=za hv
  walk_at "s"
  refine ⟨KeepSt.set rfl,?_⟩
  walk_at "s"
  refine ⟨rfl,?_⟩
  rw [Aai,ea,Zy,show ((fl:Int)+(a':Int))=((fl+a':Nat):Int) by omega]
  unfold nI
  rw [Zy,Zy]
  rfl
 rintro zs G D H4 ⟨rfl,rfl⟩ nD S4 hD
 rw [gZ,← gj m fr (fun i j=>e i (fl+j)),Aag] at hD
 try walk_at "s"
 refine zM (S4 _ _ ha) hD (by rw [aZ,aZ];simp [gj];omega) fun o2 no2=>?_
 walk_at "s"
 rw [Av]
 have S5:=(Same.refl H4).upd no2 (o:=.lst ((nI (List.range fl ++ (LN m fr fun i j=>e i (fl+j)).map (fl+ ·))).map V.int))
 have ho2:=aq (H:=H4) (a:=o2) (o:=.lst ((nI (List.range fl ++ (LN m fr fun i j=>e i (fl+j)).map (fl+ ·))).map V.int))
 generalize upd H4 o2 (.lst ((nI (List.range fl ++ (LN m fr fun i j=>e i (fl+j)).map (fl+ ·))).map V.int))=H5 at S5 ho2 ⊢
 have U5:=U3.trans (S4.trans S5)
 walk_at "s"
 refine ⟨o1,o2,_,_,m+(fl+fr),rfl,(S3.trans (S4.trans S5)) _ _ ho1,ho2,⟨Dd (uK (by omega)) (gj _ _ _) (by omega),Ho (uK (by omega)) (by rw [gj];omega),by simp [gj];omega,by simp [gj];omega⟩,fun r' H6 nr' S6 hr'=>?_⟩
 rw [Fi hn] at hr'
 exact q r' H6 (Same.back U5 nr') (U5.trans S6) hr'
def xx (side top:Str) (i j:Nat):Bool:=decide (side.cps.getD i 0=top.cps.getD j 0)
theorem Oc {m far:Nat} {e e':Nat->Nat->Bool} (h:∀ i j,i < m->j < far->e i j=e' i j):al m far e m=al m far e' m:=by
 unfold al rs
 refine dO fun i hi=>dO fun j hj=>?_
 rw [h i j (Zj.mp hi) (Zj.mp hj)]
theorem m7 {m far:Nat} {e e':Nat->Nat->Bool} (h:∀ i j,i < m->j < far->e i j=e' i j):LN m far e=LN m far e':=by unfold LN;rw [Oc h]
theorem Od {m far:Nat} {e:Nat->Nat->Bool} (h:m=0\/far=0) (hn:m+far<=96):LN m far e=List.range (m+far):=by
 have:al m far e m=[]:=by
  unfold al rs
  rcases h with rfl | rfl
  ·rfl
  ·simp
 unfold LN
 rw [this]
 exact JC _ hn
theorem Oe (e:Nat->Nat->Bool):LN 1 1 e=if e 0 0=true then [0,1] else [1,0]:=by
 have:al 1 1 e 1=if e 0 0=true then [] else [0]:=by
  unfold al rs
  simp
 unfold LN
 rw [this]
 cases e 0 0 <;> trivial
structure PG (mg:Str->Option Value) (H:Hp) (x:Addr) (y side top kind:Str) (ps:List V) (h:Nat):Prop where
 pc:Pc mg H x y side top kind (LN side.cps.size top.cps.size (xx side top)) ps h
 rs:Row side
 rt:Row top
theorem PG.same {H H':Hp} {x:Addr} {y side top kind:Str} {ps:List V} {h:Nat} (p:PG mg H x y side top kind ps h) (s:Same H H'):PG mg H' x y side top kind ps h:=⟨p.pc.same s,p.rs,p.rt⟩
theorem vU {H:Hp}:PsH mg H [] []:=⟨rfl,fun i v h e=>by cases e⟩
theorem Og {h:Nat} (k:xP [] h):h=0:=by
 rcases k with ⟨_,e⟩ | ⟨⟨a,ha,_⟩,_⟩
 ·exact e
 ·cases ha
def Hq (mg:Str->Option Value):Sp:=fun vs H Q _=>∃ (x dx:Addr) (side top:Str),vs=[.ref x,.str side,.str top]/\H x=some (.ins (aL mg "Blank") dx [])/\Row side/\Row top/\(side.cps.size=0\/top.cps.size=0)/\
 ∀ H',Chg x H H'->PG mg H' x "Blank" side top (Str.ofString "blank") [] 0->(∀ m o,H m=some o->m≠x->PG mg (Hx m H') x "Blank" side top (Str.ofString "blank") [] 0)->Q .non H'
theorem t8:aC ["self","side","top"] ["self","side","top"] (az iW):=⟨rfl,rfl,rfl,by trivial,rfl,by trivial,by trivial⟩
theorem iY (T:Txt K mg):kY P w K mg base 5 "Blank" "__init__" ["self","side","top"] (Hq mg):=by
 have gW:=gW (P:=P) (w:=w) (base:=base) T
 have aP:=aP (P:=P) (w:=w) (base:=base) T
 have cZ:=cZ (P:=P) (w:=w) (base:=base) T
 refine qW T.m_Blank___init__ t8 (fun _ _ _ _ _ _ us hl=>L2.oY (fun _ _ _=>rfl) us hl) ?_ fun f cdv A outer s H vs Q E hr h=>?_
 ·rintro vs H Q E ⟨x,dx,side,top,rfl,_⟩;rfl
 obtain ⟨x,dx,side,top,rfl,hx,rs,rt,he,q⟩:=h
 have hu:=hr.units0
 have hu64:=hr.units
 refine ⟨_,(aA (aU (aJ gW (hr.mono (by decide)) aO (aa (ao 1) (aa (ao 2) aj)) (by trivial))) (aA (bK (lN (Eo (bJ v7 (aF (aG (K:=K) rfl) aO T.b_len aV (aa (ao 1) aj) (by trivial) (by trivial)) aH (by walk_at "p")) (zO (bJ v7 (aF (aG (K:=K) rfl) aO T.b_len aV (aa (ao 2) aj) (by trivial) (by trivial)) aH (by walk_at "p"))))) (aB dH) bx) (aB (aU (wM aP (hr.mono (by decide)) aO aN (aa (ao 0) (aa (ao 1) (aa (ao 2) (aa oU (aa (aJ cZ (hr.mono (by decide)) aO (aa (aY aR (aF (aG (K:=K) rfl) aO T.b_len aV (aa (ao 1) aj) (by trivial) (by trivial)) (aF (aG (K:=K) rfl) aO T.b_len aV (aa (ao 2) aj) (by trivial) (by trivial))) aj) (by trivial)) (aa (jm aj) aj)))))) (by trivial)))))),?_⟩
 walk_at "s"
 have lz:side.length<=sizeLine:=Zo rs.1 (by decide)
 have ly:top.length<=sizeLine:=Zo rt.1 (by decide)
 have es:side.length=side.cps.size:=rfl
 have et:top.length=top.cps.size:=rfl
 have h1:=rs.1
 have h2:=rt.1
 refine ⟨side,top,rfl,rs,rt,fun H1 S1=>?_⟩
 walk_at "s"
 refine bQ lz ?_
 walk_at "s"
 have fin:∀ (l p:Addr) (H2:Hp) (Q':VK),(∀ G,Q .non G->Q' .non G)->Same H1 H2->H2 l=some (.lst ((nI (List.range (side.cps.size+top.cps.size))).map V.int))->H2 p=some (.lst [])->Aq mg [.ref x,.str side,.str top,.str (Str.ofString "blank"),.ref l,.ref p] H2 Q' E:=fun l p H2 Q' hQ S2 hl hp=>by
  have U:=S1.trans S2
  refine ⟨x,dx,l,p,"Blank",side,top,_,_,[],[],rfl,by unfold Oa;simp,U _ _ hx,hl,hp,by simp,vU,fun h H3 hh C3 P3 N3=>?_⟩
  obtain rfl:=Og hh
  rw [← Od (e:=xx side top) he (by omega)] at P3 N3
  exact hQ _ (q H3 (fun b o n e=>C3 b o n (U _ _ e)) ⟨P3,rs,rt⟩ fun m o hm nm=>⟨N3 m o (U _ _ hm) nm,rs,rt⟩)
 by_cases h0:side.cps.size=0
 ·rw [Zc (show ¬ (0:Int) < (side.length:Int) by omega)]
  walk_at "s"
  refine bQ lz ?_
  walk_at "s"
  refine bQ ly ?_
  walk_at "s"
  refine ⟨side.cps.size+top.cps.size,by rw [es,et];congr 2,by omega,fun l H2 nl S2 hl=>?_⟩
  walk_at "s"
  refine cG rfl fun p H3 np S3 hp=>?_
  walk_at "s"
  exact fin l p H3 _ (fun G z=>z) (S2.trans S3) (S3 _ _ hl) hp
 ·rw [Y7 (show (0:Int) < (side.length:Int) by omega)]
  walk_at "s"
  refine bQ ly ?_
  walk_at "s"
  rw [Zc (show ¬ (0:Int) < (top.length:Int) by omega)]
  walk_at "s"
  refine bQ lz ?_
  walk_at "s"
  refine bQ ly ?_
  walk_at "s"
  refine ⟨side.cps.size+top.cps.size,by rw [es,et];congr 2,by omega,fun l H2 nl S2 hl=>?_⟩
  walk_at "s"
  refine cG rfl fun p H3 np S3 hp=>?_
  walk_at "s"
  exact fin l p H3 _ (fun G z=>z) (S2.trans S3) (S3 _ _ hl) hp
def Su (mg:Str->Option Value):Sp:=fun vs H Q _=>∃ (x dx:Addr) (c d:Nat),vs=[.ref x,.str ⟨#[c]⟩,.str ⟨#[d]⟩]/\H x=some (.ins (aL mg "One") dx [])/\c∈GOOD/\d∈GOOD/\
 ∀ H',Chg x H H'->PG mg H' x "One" ⟨#[c]⟩ ⟨#[d]⟩ (Str.ofString "one") [] 0->(∀ m o,H m=some o->m≠x->PG mg (Hx m H') x "One" ⟨#[c]⟩ ⟨#[d]⟩ (Str.ofString "one") [] 0)->Q .non H'
theorem vV {c:Nat} (h:c∈GOOD):Row ⟨#[c]⟩:=⟨by rw [Lr];decide,fun d hd=>by simp at hd;rw [hd];exact h⟩
theorem VM (a b:Nat):decide (V.str ⟨#[a]⟩=V.str ⟨#[b]⟩)=decide (a=b):=by
 refine decide_eq_decide.mpr ⟨fun h=>?_,fun h=>by rw [h]⟩
 have:=Str.mk.inj (V.str.inj h)
 simpa using this
theorem vK:aC ["self","letter","sign"] ["self","letter","sign"] (az lA):=⟨rfl,rfl,rfl,by trivial,rfl,by trivial,by trivial⟩
theorem lD (T:Txt K mg):kY P w K mg base 4 "One" "__init__" ["self","letter","sign"] (Su mg):=by
 have lZ:=lZ (P:=P) (w:=w) (base:=base) T
 have aP:=aP (P:=P) (w:=w) (base:=base) T
 refine qW T.m_One___init__ vK (fun _ _ _ _ _ _ us hl=>L2.oY (fun _ _ _=>rfl) us hl) ?_ fun f cdv A outer s H vs Q E hr h=>?_
 ·rintro vs H Q E ⟨x,dx,c,d,rfl,_⟩;rfl
 obtain ⟨x,dx,c,d,rfl,hx,hc,hd,q⟩:=h
 have hu:=hr.units0
 have hu64:=hr.units
 refine ⟨_,(aA (aU (aJ lZ (hr.mono (by decide)) aO (aa (ao 1) aj) (by trivial))) (aA (aU (aJ lZ (hr.mono (by decide)) aO (aa (ao 2) aj) (by trivial))) (aB (aU (wM aP (hr.mono (by decide)) aO aN (aa (ao 0) (aa (ao 1) (aa (ao 2) (aa oU (aa (Xu (bJ (dw (K:=K) rfl hu64) (ao 1) (ao 2) (by walk_at "p")) (jm (aa aH (aa aH aj))) (jm (aa aH (aa aH aj)))) (aa (jm aj) aj)))))) (by trivial)))))),?_⟩
 walk_at "s"
 refine ⟨c,rfl,hc,?_⟩
 walk_at "s"
 refine ⟨d,rfl,hd,?_⟩
 walk_at "s"
 have fin:∀ (l p:Addr) (H2:Hp) (Q':VK),(∀ G,Q .non G->Q' .non G)->Same H H2->H2 l=some (.lst ((nI (LN 1 1 (xx ⟨#[c]⟩ ⟨#[d]⟩))).map V.int))->H2 p=some (.lst [])->Aq mg [.ref x,.str ⟨#[c]⟩,.str ⟨#[d]⟩,.str (Str.ofString "one"),.ref l,.ref p] H2 Q' E:=fun l p H2 Q' hQ U hl hp=>by
  refine ⟨x,dx,l,p,"One",_,_,_,_,[],[],rfl,by unfold Oa;simp,U _ _ hx,hl,hp,by simp,vU,fun h H3 hh C3 P3 N3=>?_⟩
  obtain rfl:=Og hh
  exact hQ _ (q H3 (fun b o n e=>C3 b o n (U _ _ e)) ⟨P3,vV hc,vV hd⟩ fun m o hm nm=>⟨N3 m o (U _ _ hm) nm,vV hc,vV hd⟩)
 rw [VM]
 have eE:xx ⟨#[c]⟩ ⟨#[d]⟩ 0 0=decide (c=d):=rfl
 by_cases h:c=d
 ·rw [Y7 h]
  walk_at "s"
  refine cG rfl fun l H2 nl S2 hl=>?_
  walk_at "s"
  refine cG rfl fun p H3 np S3 hp=>?_
  walk_at "s"
  refine fin l p H3 _ (fun G z=>z) (S2.trans S3) ?_ hp
  rw [Oe,eE,Y7 h,if_pos rfl]
  exact S3 _ _ hl
 ·rw [Zc h]
  walk_at "s"
  refine cG rfl fun l H2 nl S2 hl=>?_
  walk_at "s"
  refine cG rfl fun p H3 np S3 hp=>?_
  walk_at "s"
  refine fin l p H3 _ (fun G z=>z) (S2.trans S3) ?_ hp
  rw [Oe,eE,Zc h,if_neg (by decide)]
  exact S3 _ _ hl
theorem iI (a b:Str):(a ++ b).cps.toList=a.cps.toList ++ b.cps.toList:=by
 show (a.cps ++ b.cps).toList=_
 simp
theorem gC (a b:Str):(a ++ b).cps.size=a.cps.size+b.cps.size:=by
 rw [← Zx,iI,Z3,Zx,Zx]
theorem getD_list (z:Str) (i:Nat):z.cps.getD i 0=z.cps.toList.getD i 0:=by
 rw [YT,Array.getElem?_toList,Array.getD_eq_getD_getElem?]
theorem Fw {a b:Str} {i:Nat} (h:i < a.cps.size):(a ++ b).cps.getD i 0=a.cps.getD i 0:=by
 rw [getD_list,getD_list,iI,YT,Zm (by simpa using h),YT]
theorem Fx {a b:Str} {i:Nat}:(a ++ b).cps.getD (a.cps.size+i) 0=b.cps.getD i 0:=by
 rw [getD_list,getD_list,iI,YT,Zk (by simp),Zx,Aao,YT]
theorem vW {a b:Str} (ha:Row a) (hb:Row b) (h:(a ++ b).length<=48):Row (a ++ b):=⟨h,fun c hc=>by
 rw [iI] at hc
 exact (Z4.mp hc).elim (ha.2 c) (hb.2 c)⟩
theorem PG.isP {H:Hp} {x:Addr} {y side top kind:Str} {ps:List V} {h:Nat} (p:PG mg H x y side top kind ps h):IsP mg H (.ref x):=⟨x,y,side,top,kind,_,ps,h,rfl,p.pc⟩
theorem vX {H:Hp} {u l:Addr} {y s t k y' s' t' k':Str} {ps ps':List V} {h h':Nat} (p:PG mg H u y s t k ps h) (p':PG mg H l y' s' t' k' ps' h'):PsH mg H [.ref u,.ref l] [h,h']:=⟨rfl,fun i v n e1 e2=>by
 match i,e1,e2 with
 | 0,e1,e2=>cases e1;cases e2;exact ⟨u,y,s,t,k,_,ps,rfl,p.pc⟩
 | 1,e1,e2=>cases e1;cases e2;exact ⟨l,y',s',t',k',_,ps',rfl,p'.pc⟩
 | i+2,e1,e2=>cases e1⟩
def Hr (mg:Str->Option Value):Sp:=fun vs H Q _=>∃ (x dx u l:Addr) (yu yl su sl top ku kl:Str) (pu pl:List V) (hu hl:Nat),vs=[.ref x,.ref u,.ref l]/\H x=some (.ins (aL mg "Over") dx [])/\PG mg H u yu su top ku pu hu/\PG mg H l yl sl top kl pl hl/\(su ++ sl).length<=48/\
 ∀ h H',xP [hu,hl] h->Chg x H H'->PG mg H' x "Over" (su ++ sl) top (Str.ofString "over") [.ref u,.ref l] h->(∀ m o,H m=some o->m≠x->PG mg (Hx m H') x "Over" (su ++ sl) top (Str.ofString "over") [.ref u,.ref l] h)->Q .non H'
theorem iZ:aC ["self","upper","lower","side","lines"] ["self","upper","lower"] (az jt):=⟨rfl,rfl,rfl,by trivial,rfl,by trivial,by trivial⟩
theorem jw (T:Txt K mg):kY P w K mg base 9 "Over" "__init__" ["self","upper","lower"] (Hr mg):=by
 have dm:=dm (P:=P) (w:=w) (base:=base) T
 have gY:=gY (P:=P) (w:=w) (base:=base) T
 have bU:=bU (P:=P) (w:=w) (base:=base) T
 have bL:=bL (P:=P) (w:=w) (base:=base) T
 have dZ:=dZ (P:=P) (w:=w) (base:=base) T
 have oK:=oK (P:=P) (w:=w) (base:=base) T
 have bz:=bz (P:=P) (w:=w) (base:=base) T
 have aP:=aP (P:=P) (w:=w) (base:=base) T
 refine qW T.m_Over___init__ iZ (fun _ _ _ _ _ _ us hl=>L2.oY (fun _ _ _=>rfl) us hl) ?_ fun f cdv A outer s H vs Q E hr h=>?_
 ·rintro vs H Q E ⟨x,dx,u,l,yu,yl,su,sl,top,ku,kl,pu,pl,nu,nl,rfl,_⟩;rfl
 obtain ⟨x,dx,u,l,yu,yl,su,sl,top,ku,kl,pu,pl,nu,nl,rfl,hx,gu,gl,hlen,q⟩:=h
 have hu:=hr.units0
 have hu64:=hr.units
 refine ⟨_,(aA (aU (aJ dm (hr.mono (by decide)) aO (aa (ao 1) (aa (ao 2) aj)) (by trivial))) (aA (aU (aJ gY (hr.mono (by decide)) aO (aa (bH (mg:=mg) rfl (ao 1) T.os_Piece bU (hr.mono (by decide)) aN) (aa (bH (mg:=mg) rfl (ao 2) T.os_Piece bU (hr.mono (by decide)) aN) aj)) (by trivial))) (aA (aM (i:=3) iZ.nd rfl dj (aY aR (bH (mg:=mg) rfl (ao 1) T.os_Piece bL (hr.mono (by decide)) aN) (bH (mg:=mg) rfl (ao 2) T.os_Piece bL (hr.mono (by decide)) aN)) rfl) (aA (aU (aJ dZ (hr.mono (by decide)) aO (aa (ao 3) aj) (by trivial))) (aA (aM (i:=4) iZ.nd rfl dj (aJ oK (hr.mono (by decide)) aO (aa (bH (mg:=mg) rfl (ao 1) T.os_Piece bz (hr.mono (by decide)) aN) (aa (bH (mg:=mg) rfl (ao 2) T.os_Piece bz (hr.mono (by decide)) aN) (aa (aF (aG (K:=K) rfl) aO T.b_len aV (aa (bH (mg:=mg) rfl (ao 1) T.os_Piece bU (hr.mono (by decide)) aN) aj) (by trivial) (by trivial)) aj))) (by trivial)) rfl) (aB (aU (wM aP (hr.mono (by decide)) aO aN (aa (ao 0) (aa (ao 3) (aa (bH (mg:=mg) rfl (ao 1) T.os_Piece bU (hr.mono (by decide)) aN) (aa oU (aa (ao 4) (aa (jm (aa (ao 1) (aa (ao 2) aj))) aj)))))) (by trivial))))))))),?_⟩
 walk_at "s"
 have hz:20000<=sizeLine:=by decide
 have h2:top.length<=48:=gu.rt.1
 have ly:top.length<=sizeLine:=by omega
 have et:top.length=top.cps.size:=rfl
 have es:(su ++ sl).length=(su ++ sl).cps.size:=rfl
 have ec:=gC su sl
 have el:(su ++ sl).length=su.length+sl.length:=gC su sl
 refine ⟨_,_,rfl,gu.isP,gl.isP,fun H1 S1=>?_⟩
 walk_at "s"
 have gu1:=gu.same S1
 have gl1:=gl.same S1
 obtain ⟨hyu,du,au,bu,xu,_,_⟩:=id gu1.pc
 obtain ⟨hyl,dl,al',bl,xl,_,_⟩:=id gl1.pc
 refine ⟨u,yu,du,_,rfl,hyu,xu,rfl,?_⟩
 walk_at "s"
 refine ⟨u,yu,_,_,_,_,_,_,rfl,gu1.pc,?_⟩
 walk_at "s"
 refine ⟨l,yl,dl,_,rfl,hyl,xl,rfl,?_⟩
 walk_at "s"
 refine ⟨l,yl,_,_,_,_,_,_,rfl,gl1.pc,?_⟩
 walk_at "s"
 refine ⟨top,rfl,?_⟩
 walk_at "s"
 refine ⟨u,yu,du,_,rfl,hyu,xu,rfl,?_⟩
 walk_at "s"
 refine ⟨u,yu,_,_,_,_,_,_,rfl,gu1.pc,?_⟩
 walk_at "s"
 refine ⟨l,yl,dl,_,rfl,hyl,xl,rfl,?_⟩
 walk_at "s"
 refine ⟨l,yl,_,_,_,_,_,_,rfl,gl1.pc,?_⟩
 walk_at "s"
 refine uA (by omega) ?_
 walk_at "s"
 refine ⟨su ++ sl,rfl,hlen,?_⟩
 walk_at "s"
 refine ⟨u,yu,du,_,rfl,hyu,xu,rfl,?_⟩
 walk_at "s"
 refine ⟨u,yu,_,_,_,_,_,_,rfl,gu1.pc,fun ru H2 nru S2 hru=>?_⟩
 walk_at "s"
 refine ⟨l,yl,dl,_,rfl,hyl,S2 _ _ xl,rfl,?_⟩
 walk_at "s"
 refine ⟨l,yl,_,_,_,_,_,_,rfl,gl1.pc.same S2,fun rl H3 nrl S3 hrl=>?_⟩
 walk_at "s"
 have U3:=S2.trans S3
 refine ⟨u,yu,du,_,rfl,hyu,U3 _ _ xu,rfl,?_⟩
 walk_at "s"
 refine ⟨u,yu,_,_,_,_,_,_,rfl,gu1.pc.same U3,?_⟩
 walk_at "s"
 refine bQ ly ?_
 walk_at "s"
 refine ⟨ru,rl,su.cps.size,sl.cps.size,top.cps.size,xx (su ++ sl) top,rfl,by omega,?_,?_,fun rr H4 nrr S4 hrr=>?_⟩
 walk_at "s"
 ·rw [m7 (e':=xx su top) fun i j hi hj=>by unfold xx;rw [Fw hi]]
  exact S3 _ _ hru
 ·rw [m7 (e':=xx sl top) fun i j hi hj=>by unfold xx;rw [Fx]]
  exact hrl
 have U4:=U3.trans S4
 walk_at "s"
 refine ⟨u,yu,du,_,rfl,hyu,U4 _ _ xu,rfl,?_⟩
 walk_at "s"
 refine ⟨u,yu,_,_,_,_,_,_,rfl,gu1.pc.same U4,?_⟩
 walk_at "s"
 refine cG rfl fun pp H5 npp S5 hpp=>?_
 walk_at "s"
 have U5:=S1.trans (U4.trans S5)
 refine ⟨x,dx,rr,pp,"Over",su ++ sl,top,_,_,_,[nu,nl],rfl,by unfold Oa;simp,U5 _ _ hx,S5 _ _ hrr,hpp,by simp,vX (gu.same U5) (gl.same U5),fun h H6 hh C6 P6 N6=>?_⟩
 rw [← ec] at P6 N6
 exact q h H6 hh (fun b o n e=>C6 b o n (U5 _ _ e)) ⟨P6,vW gu.rs gl.rs hlen,gu.rt⟩ fun m o hm nm=>⟨N6 m o (U5 _ _ hm) nm,vW gu.rs gl.rs hlen,gu.rt⟩
def zg (mg:Str->Option Value):Sp:=fun vs H Q _=>∃ (x dx u l:Addr) (yu yl side tu tl ku kl:Str) (pu pl:List V) (hu hl:Nat),vs=[.ref x,.ref u,.ref l]/\H x=some (.ins (aL mg "Beside") dx [])/\PG mg H u yu side tu ku pu hu/\PG mg H l yl side tl kl pl hl/\(tu ++ tl).length<=48/\
 ∀ h H',xP [hu,hl] h->Chg x H H'->PG mg H' x "Beside" side (tu ++ tl) (Str.ofString "beside") [.ref u,.ref l] h->(∀ m o,H m=some o->m≠x->PG mg (Hx m H') x "Beside" side (tu ++ tl) (Str.ofString "beside") [.ref u,.ref l] h)->Q .non H'
theorem gQ:aC ["self","left","right","top","lines"] ["self","left","right"] (az iD):=⟨rfl,rfl,rfl,by trivial,rfl,by trivial,by trivial⟩
theorem iJ (T:Txt K mg):kY P w K mg base 9 "Beside" "__init__" ["self","left","right"] (zg mg):=by
 have dm:=dm (P:=P) (w:=w) (base:=base) T
 have gY:=gY (P:=P) (w:=w) (base:=base) T
 have bL:=bL (P:=P) (w:=w) (base:=base) T
 have bU:=bU (P:=P) (w:=w) (base:=base) T
 have dZ:=dZ (P:=P) (w:=w) (base:=base) T
 have cW:=cW (P:=P) (w:=w) (base:=base) T
 have bz:=bz (P:=P) (w:=w) (base:=base) T
 have aP:=aP (P:=P) (w:=w) (base:=base) T
 refine qW T.m_Beside___init__ gQ (fun _ _ _ _ _ _ us hl=>L2.oY (fun _ _ _=>rfl) us hl) ?_ fun f cdv A outer s H vs Q E hr h=>?_
 ·rintro vs H Q E ⟨x,dx,u,l,yu,yl,side,tu,tl,ku,kl,pu,pl,nu,nl,rfl,_⟩;rfl
 obtain ⟨x,dx,u,l,yu,yl,side,tu,tl,ku,kl,pu,pl,nu,nl,rfl,hx,gu,gl,hlen,q⟩:=h
 have hu:=hr.units0
 have hu64:=hr.units
 refine ⟨_,(aA (aU (aJ dm (hr.mono (by decide)) aO (aa (ao 1) (aa (ao 2) aj)) (by trivial))) (aA (aU (aJ gY (hr.mono (by decide)) aO (aa (bH (mg:=mg) rfl (ao 1) T.os_Piece bL (hr.mono (by decide)) aN) (aa (bH (mg:=mg) rfl (ao 2) T.os_Piece bL (hr.mono (by decide)) aN) aj)) (by trivial))) (aA (aM (i:=3) gQ.nd rfl dj (aY aR (bH (mg:=mg) rfl (ao 1) T.os_Piece bU (hr.mono (by decide)) aN) (bH (mg:=mg) rfl (ao 2) T.os_Piece bU (hr.mono (by decide)) aN)) rfl) (aA (aU (aJ dZ (hr.mono (by decide)) aO (aa (ao 3) aj) (by trivial))) (aA (aM (i:=4) gQ.nd rfl dj (aJ cW (hr.mono (by decide)) aO (aa (bH (mg:=mg) rfl (ao 1) T.os_Piece bz (hr.mono (by decide)) aN) (aa (bH (mg:=mg) rfl (ao 2) T.os_Piece bz (hr.mono (by decide)) aN) (aa (aF (aG (K:=K) rfl) aO T.b_len aV (aa (bH (mg:=mg) rfl (ao 1) T.os_Piece bL (hr.mono (by decide)) aN) aj) (by trivial) (by trivial)) aj))) (by trivial)) rfl) (aB (aU (wM aP (hr.mono (by decide)) aO aN (aa (ao 0) (aa (bH (mg:=mg) rfl (ao 1) T.os_Piece bL (hr.mono (by decide)) aN) (aa (ao 3) (aa oU (aa (ao 4) (aa (jm (aa (ao 1) (aa (ao 2) aj))) aj)))))) (by trivial))))))))),?_⟩
 walk_at "s"
 have hz:20000<=sizeLine:=by decide
 have h2:side.length<=48:=gu.rs.1
 have ly:side.length<=sizeLine:=by omega
 have et:side.length=side.cps.size:=rfl
 have es:(tu ++ tl).length=(tu ++ tl).cps.size:=rfl
 have ec:=gC tu tl
 have el:(tu ++ tl).length=tu.length+tl.length:=gC tu tl
 refine ⟨_,_,rfl,gu.isP,gl.isP,fun H1 S1=>?_⟩
 walk_at "s"
 have gu1:=gu.same S1
 have gl1:=gl.same S1
 obtain ⟨hyu,du,au,bu,xu,_,_⟩:=id gu1.pc
 obtain ⟨hyl,dl,al',bl,xl,_,_⟩:=id gl1.pc
 refine ⟨u,yu,du,_,rfl,hyu,xu,rfl,?_⟩
 walk_at "s"
 refine ⟨u,yu,_,_,_,_,_,_,rfl,gu1.pc,?_⟩
 walk_at "s"
 refine ⟨l,yl,dl,_,rfl,hyl,xl,rfl,?_⟩
 walk_at "s"
 refine ⟨l,yl,_,_,_,_,_,_,rfl,gl1.pc,?_⟩
 walk_at "s"
 refine ⟨side,rfl,?_⟩
 walk_at "s"
 refine ⟨u,yu,du,_,rfl,hyu,xu,rfl,?_⟩
 walk_at "s"
 refine ⟨u,yu,_,_,_,_,_,_,rfl,gu1.pc,?_⟩
 walk_at "s"
 refine ⟨l,yl,dl,_,rfl,hyl,xl,rfl,?_⟩
 walk_at "s"
 refine ⟨l,yl,_,_,_,_,_,_,rfl,gl1.pc,?_⟩
 walk_at "s"
 refine uA (by omega) ?_
 walk_at "s"
 refine ⟨tu ++ tl,rfl,hlen,?_⟩
 walk_at "s"
 refine ⟨u,yu,du,_,rfl,hyu,xu,rfl,?_⟩
 walk_at "s"
 refine ⟨u,yu,_,_,_,_,_,_,rfl,gu1.pc,fun ru H2 nru S2 hru=>?_⟩
 walk_at "s"
 refine ⟨l,yl,dl,_,rfl,hyl,S2 _ _ xl,rfl,?_⟩
 walk_at "s"
 refine ⟨l,yl,_,_,_,_,_,_,rfl,gl1.pc.same S2,fun rl H3 nrl S3 hrl=>?_⟩
 walk_at "s"
 have U3:=S2.trans S3
 refine ⟨u,yu,du,_,rfl,hyu,U3 _ _ xu,rfl,?_⟩
 walk_at "s"
 refine ⟨u,yu,_,_,_,_,_,_,rfl,gu1.pc.same U3,?_⟩
 walk_at "s"
 refine bQ ly ?_
 walk_at "s"
 refine ⟨ru,rl,side.cps.size,tu.cps.size,tl.cps.size,xx side (tu ++ tl),rfl,by omega,?_,?_,fun rr H4 nrr S4 hrr=>?_⟩
 walk_at "s"
 ·rw [m7 (e':=xx side tu) fun i j hi hj=>by unfold xx;rw [Fw hj]]
  exact S3 _ _ hru
 ·rw [m7 (e':=xx side tl) fun i j hi hj=>by unfold xx;rw [Fx]]
  exact hrl
 have U4:=U3.trans S4
 walk_at "s"
 refine ⟨u,yu,du,_,rfl,hyu,U4 _ _ xu,rfl,?_⟩
 walk_at "s"
 refine ⟨u,yu,_,_,_,_,_,_,rfl,gu1.pc.same U4,?_⟩
 walk_at "s"
 refine cG rfl fun pp H5 npp S5 hpp=>?_
 walk_at "s"
 have U5:=S1.trans (U4.trans S5)
 refine ⟨x,dx,rr,pp,"Beside",side,tu ++ tl,_,_,_,[nu,nl],rfl,by unfold Oa;simp,U5 _ _ hx,S5 _ _ hrr,hpp,by simp,vX (gu.same U5) (gl.same U5),fun h H6 hh C6 P6 N6=>?_⟩
 rw [← ec] at P6 N6
 exact q h H6 hh (fun b o n e=>C6 b o n (U5 _ _ e)) ⟨P6,gu.rs,vW gu.rt gl.rt hlen⟩ fun m o hm nm=>⟨N6 m o (U5 _ _ hm) nm,gu.rs,vW gu.rt gl.rt hlen⟩
def Wu (m:Nat) (e:Nat->Nat->Bool) (i j:Nat):List Nat:=(List.range j).flatMap fun j=>if e i j=true then [] else [m - 1 - i+j]
def stE (m far:Nat) (e:Nat->Nat->Bool) (i j:Nat):List Nat:=bw (List.range (m+far)) (al m far e i ++ Wu m e i j)
theorem Df (m far:Nat) (e:Nat->Nat->Bool) (i j:Nat):stE m far e i (j+1)=if e i j=true then stE m far e i j else aQ (stE m far e i j) (m - 1 - i+j):=by
 unfold stE Wu
 rw [AaQ,List.flatMap_append,← AaT,lW]
 simp only [List.flatMap_cons,List.flatMap_nil,ZJ]
 split
 ·rfl
 ·rfl
theorem Rj (m far:Nat) (e:Nat->Nat->Bool) (i:Nat):stE m far e (i+1) 0=stE m far e i far:=by
 unfold stE Wu
 rw [vR]
 simp only [List.range_zero,List.flatMap_nil,ZJ]
 rfl
theorem Rk (m far:Nat) (e:Nat->Nat->Bool):stE m far e m 0=Dn (m+far) (al m far e m):=by
 unfold stE Wu Dn
 simp
theorem Oh (m far:Nat) (e:Nat->Nat->Bool):stE m far e 0 0=List.range (m+far):=rfl
theorem Hs {m i j p:Nat} {e:Nat->Nat->Bool} (h:p∈Wu m e i j):∃ k,k < j/\p=m - 1 - i+k:=by
 unfold Wu at h
 obtain ⟨k,hk,h⟩:=Aa9.mp h
 refine ⟨k,Zj.mp hk,?_⟩
 split at h
 ·cases h
 ·exact ZX.mp h
theorem Ht {m far i j:Nat} {e:Nat->Nat->Bool} (hn:m+far<=96) (hi:i < m/\j<=far\/i<=m/\j=0):Prm (stE m far e i j):=by
 refine Hb hn fun p hp=>?_
 rcases Z4.mp hp with h | h
 ·obtain ⟨a,b,ha,hb,rfl⟩:=Ae h
  omega
 ·obtain ⟨k,hk,rfl⟩:=Hs h
  omega
theorem Hu (m far:Nat) (e:Nat->Nat->Bool) (i j:Nat):(stE m far e i j).length=m+far:=by unfold stE;rw [jo];simp
theorem run_get {E ps:List Nat} {q:Nat} (h:∀ p∈ps,q < p):(bw E ps).getD q 0=E.getD q 0:=by
 induction ps generalizing E with
 | nil=>rfl
 | cons p ps ih=>
  show (bw (aQ E p) ps).getD q 0=_
  rw [ih fun x hx=>h x (by simp [hx]),step_get (.inl (h p (by simp)))]
theorem Hv {m far i j q:Nat} {e:Nat->Nat->Bool} (hi:i < m) (hq:q < m - 1 - i\/(q=m - 1 - i/\j=0)):(stE m far e i j).getD q 0=q:=by
 have hr:(List.range (m+far)).getD q 0=q:=by
  rw [YT,Zi (by omega)];rfl
 unfold stE
 rw [run_get,hr]
 intro p hp
 rcases Z4.mp hp with h | h
 ·obtain ⟨a,b,ha,hb,rfl⟩:=Ae h
  omega
 ·obtain ⟨k,hk,rfl⟩:=Hs h
  omega
theorem Rm {E:List Nat} {p:Nat} (h:p+1 < E.length) (hw:qX E p=true):(aQ E p).getD p 0=E.getD (p+1) 0/\(aQ E p).getD (p+1) 0=E.getD p 0:=by
 rw [wQ hw]
 refine ⟨?_,?_⟩
 ·rw [gO h,if_neg (by omega),if_pos rfl]
 ·rw [gO h,if_pos rfl]
def TK (y kind:Str):Prop:=(y="Blank"/\kind=Str.ofString "blank")\/(y="One"/\kind=Str.ofString "one")\/(y="Over"/\kind=Str.ofString "over")\/(y="Beside"/\kind=Str.ofString "beside")
theorem Aw {H H2:Hp} {x dx:Addr} {o1 o2:HO} (nx:H x=none) (nd:H dx=none) (c:Chg x (upd (upd H dx o1) x o2) H2):Same H H2:=fun b o e=>by
 have h1:b≠x:=fun z=>by rw [z,nx] at e;cases e
 have h2:b≠dx:=fun z=>by rw [z,nd] at e;cases e
 exact c b o h1 (by rw [aD h1,aD h2];exact e)
theorem Dg {H:Hp} {x dx m:Addr} {o o1 o2:HO} (nx:H x=none) (nd:H dx=none) (hm:H m=some o):upd (upd H dx o1) x o2 m=some o/\m≠x:=by
 have h1:m≠x:=fun z=>by rw [z,nx] at hm;cases hm
 have h2:m≠dx:=fun z=>by rw [z,nd] at hm;cases hm
 exact ⟨by rw [aD h1,aD h2];exact hm,h1⟩
theorem Rn {H:Hp} {x dx:Addr} {o1 o2:HO} (nx:H x=none) (nd:H dx=none):Same H (upd (upd H dx o1) x o2):=fun b o e=>(Dg nx nd e).1
theorem PsH.same {H H':Hp} {ps:List V} {hs:List Nat} (p:PsH mg H ps hs) (c:Same H H'):PsH mg H' ps hs:=⟨p.1,fun i v h e1 e2=>by
 obtain ⟨q,y,s,t,k,L,qs,rfl,z⟩:=p.2 i v h e1 e2
 exact ⟨q,y,s,t,k,L,qs,rfl,z.same c⟩⟩
def GP1 (mg:Str->Option Value) (H:Hp) (x:Addr) (side top:Str) (h:Nat):Prop:=∃ (y kind:Str) (ps:List V) (hs:List Nat),PG mg H x y side top kind ps h/\TK y kind/\PsH mg H ps hs/\xP hs h/\((ps=[]/\(kind=Str.ofString "blank"\/kind=Str.ofString "one"))\/ps.length=2)
theorem GP1.same {H H':Hp} {x:Addr} {side top:Str} {h:Nat} (p:GP1 mg H x side top h) (c:Same H H'):GP1 mg H' x side top h:=by
 obtain ⟨y,k,ps,hs,a,b,d,e,f⟩:=p
 exact ⟨y,k,ps,hs,a.same c,b,d.same c,e,f⟩
theorem GP1.blank {H:Hp} {x:Addr} {side top:Str} (p:PG mg H x "Blank" side top (Str.ofString "blank") [] 0):GP1 mg H x side top 0:=⟨_,_,_,[],p,.inl ⟨rfl,rfl⟩,vU,.inl ⟨rfl,rfl⟩,.inl ⟨rfl,.inl rfl⟩⟩
theorem GP1.one {H:Hp} {x:Addr} {side top:Str} (p:PG mg H x "One" side top (Str.ofString "one") [] 0):GP1 mg H x side top 0:=⟨_,_,_,[],p,.inr (.inl ⟨rfl,rfl⟩),vU,.inl ⟨rfl,rfl⟩,.inl ⟨rfl,.inr rfl⟩⟩
theorem GP1.two {H:Hp} {x u l:Addr} {y kind side top s1 t1 s2 t2:Str} {h hu hl:Nat} (tk:TK y kind) (p:PG mg H x y side top kind [.ref u,.ref l] h) (hh:xP [hu,hl] h) (gu:GP1 mg H u s1 t1 hu) (gl:GP1 mg H l s2 t2 hl):GP1 mg H x side top h:=by
 obtain ⟨_,_,_,_,a,_⟩:=gu
 obtain ⟨_,_,_,_,b,_⟩:=gl
 exact ⟨y,kind,_,[hu,hl],p,tk,vX a b,hh,.inr rfl⟩
def Hm (H0 H:Hp):Hp:=fun b=>match H0 b with
 | some _=>none
 | none=>H b
theorem Oi {H0 H:Hp} {b:Addr} {o:HO} (h:Hm H0 H b=some o):H0 b=none/\H b=some o:=by
 unfold Hm at h
 split at h
 ·cases h
 ·exact ⟨by assumption,h⟩
theorem zj {H0 H:Hp} {b:Addr} {o:HO} (h:H b=some o) (n:H0 b=none):Hm H0 H b=some o:=by unfold Hm;rw [n];exact h
theorem Ro {H0 H:Hp}:Same (Hm H0 H) H:=fun b o e=>(Oi e).2
theorem Yn {H0 H H':Hp} (c:Same H H'):Same (Hm H0 H) (Hm H0 H'):=fun b o e=>zj (c _ _ (Oi e).2) (Oi e).1
def Dm (H0 H:Hp):Prop:=∀ m o,H0 m=some o->∃ o',H m=some o'
theorem Dm.of {H0 H:Hp} (s:Same H0 H):Dm H0 H:=fun m o e=>⟨o,s _ _ e⟩
theorem Dm.same {H0 H H':Hp} (d:Dm H0 H) (s:Same H H'):Dm H0 H':=fun m o e=>let ⟨o',e'⟩:=d m o e;⟨o',s _ _ e'⟩
theorem PG.hm {H0 H:Hp} {x:Addr} {y side top kind:Str} {ps:List V} {h:Nat} (p:PG mg H x y side top kind ps h) (N:∀ m o,H0 m=some o->PG mg (Hx m H) x y side top kind ps h):PG mg (Hm H0 H) x y side top kind ps h:=by
 obtain ⟨⟨hy,dx,al,ap,a,b,c⟩,rs,rt⟩:=p
 have key:∀ m o,H0 m=some o->x≠m/\al≠m/\ap≠m:=fun m o hm=>by
  obtain ⟨⟨_,dx',al',ap',a',b',c'⟩,_,_⟩:=N m o hm
  have e:=Hn m H _ _ a'
  rw [a] at e
  simp only [Option.some.injEq,HO.ins.injEq,O3,List.cons.injEq,Prod.mk.injEq,V.ref.injEq,true_and,and_true] at e
  obtain ⟨_,rfl,rfl⟩:=e
  have nn:∀ {b:Addr} {o:HO},Hx m H b=some o->b≠m:=fun {b o} hb z=>by rw [z] at hb;unfold Hx at hb;rw [if_pos rfl] at hb;cases hb
  exact ⟨nn a',nn b',nn c'⟩
 have out:∀ b,(∀ m o,H0 m=some o->b≠m)->H0 b=none:=fun b hb=>by
  cases h:H0 b with
  | none=>rfl
  | some o=>exact absurd rfl (hb b o h)
 exact ⟨⟨hy,dx,al,ap,zj a (out x fun m o hm=>(key m o hm).1),zj b (out al fun m o hm=>(key m o hm).2.1),zj c (out ap fun m o hm=>(key m o hm).2.2)⟩,rs,rt⟩
def GP (mg:Str->Option Value) (H0 H:Hp) (x:Addr) (side top:Str) (h:Nat):Prop:=GP1 mg (Hm H0 H) x side top h
theorem GP.g {H0 H:Hp} {x:Addr} {side top:Str} {h:Nat} (p:GP mg H0 H x side top h):GP1 mg H x side top h:=GP1.same p Ro
theorem GP.same {H0 H H':Hp} {x:Addr} {side top:Str} {h:Nat} (p:GP mg H0 H x side top h) (c:Same H H'):GP mg H0 H' x side top h:=GP1.same p (Yn c)
theorem Rp {H:Hp} {a m:Addr} {o:HO} (hm:H m=some o) (n:H a=none):a≠m:=fun z=>by rw [z,hm] at n;cases n
theorem Dh {H0 H:Hp} {side top:Str} {R:Addr->Hp->Prop} {E:XK} (S0:Dm H0 H) (rs:Row side) (rt:Row top) (he:side.cps.size=0\/top.cps.size=0) (q:∀ x H',Same H H'->PG mg H' x "Blank" side top (Str.ofString "blank") [] 0->GP mg H0 H' x side top 0->R x H') (x dx:Addr) (nx:H x=none) (nd:H dx=none) (_:dx≠x):
  Hq mg [.ref x,.str side,.str top] (upd (upd H dx (.own x)) x (.ins (aL mg "Blank") dx [])) (fun v H2=>v= .non/\R x H2) E:=
 ⟨x,dx,side,top,rfl,aq,rs,rt,he,fun H2 C P2 N2=>⟨rfl,q x H2 (Aw nx nd C) P2 (GP1.blank (P2.hm fun m o hm=>let ⟨o',e⟩:=S0 m o hm;N2 m o' (Dg nx nd e).1 (Rp e nx).symm))⟩⟩
theorem VN {H0 H:Hp} {c d:Nat} {R:Addr->Hp->Prop} {E:XK} (S0:Dm H0 H) (hc:c∈GOOD) (hd:d∈GOOD) (q:∀ x H',Same H H'->PG mg H' x "One" ⟨#[c]⟩ ⟨#[d]⟩ (Str.ofString "one") [] 0->GP mg H0 H' x ⟨#[c]⟩ ⟨#[d]⟩ 0->R x H') (x dx:Addr) (nx:H x=none) (nd:H dx=none) (_:dx≠x):
  Su mg [.ref x,.str ⟨#[c]⟩,.str ⟨#[d]⟩] (upd (upd H dx (.own x)) x (.ins (aL mg "One") dx [])) (fun v H2=>v= .non/\R x H2) E:=
 ⟨x,dx,c,d,rfl,aq,hc,hd,fun H2 C P2 N2=>⟨rfl,q x H2 (Aw nx nd C) P2 (GP1.one (P2.hm fun m o hm=>let ⟨o',e⟩:=S0 m o hm;N2 m o' (Dg nx nd e).1 (Rp e nx).symm))⟩⟩
theorem Rq {H0 H:Hp} {u l:Addr} {su sl top:Str} {hu hl:Nat} {R:Addr->Hp->Prop} {E:XK} (S0:Dm H0 H) (gu:GP mg H0 H u su top hu) (gl:GP mg H0 H l sl top hl) (hlen:(su ++ sl).length<=48) (q:∀ x h H',Same H H'->xP [hu,hl] h->PG mg H' x "Over" (su ++ sl) top (Str.ofString "over") [.ref u,.ref l] h->GP mg H0 H' x (su ++ sl) top h->R x H') (x dx:Addr) (nx:H x=none) (nd:H dx=none) (_:dx≠x):
  Hr mg [.ref x,.ref u,.ref l] (upd (upd H dx (.own x)) x (.ins (aL mg "Over") dx [])) (fun v H2=>v= .non/\R x H2) E:=by
 obtain ⟨_,_,_,_,a,_⟩:=id gu.g
 obtain ⟨_,_,_,_,b,_⟩:=id gl.g
 refine ⟨x,dx,u,l,_,_,su,sl,top,_,_,_,_,hu,hl,rfl,aq,a.same (Rn nx nd),b.same (Rn nx nd),hlen,fun h H2 hh C P2 N2=>⟨rfl,?_⟩⟩
 have S:=Aw nx nd C
 have tk:TK "Over" (Str.ofString "over"):=.inr (.inr (.inl ⟨rfl,rfl⟩))
 exact q x h H2 S hh P2 (GP1.two tk (P2.hm fun m o hm=>let ⟨o',e⟩:=S0 m o hm;N2 m o' (Dg nx nd e).1 (Rp e nx).symm) hh (gu.same S) (gl.same S))
theorem JR {H0 H:Hp} {u l:Addr} {side tu tl:Str} {hu hl:Nat} {R:Addr->Hp->Prop} {E:XK} (S0:Dm H0 H) (gu:GP mg H0 H u side tu hu) (gl:GP mg H0 H l side tl hl) (hlen:(tu ++ tl).length<=48) (q:∀ x h H',Same H H'->xP [hu,hl] h->PG mg H' x "Beside" side (tu ++ tl) (Str.ofString "beside") [.ref u,.ref l] h->GP mg H0 H' x side (tu ++ tl) h->R x H') (x dx:Addr) (nx:H x=none) (nd:H dx=none) (_:dx≠x):
  zg mg [.ref x,.ref u,.ref l] (upd (upd H dx (.own x)) x (.ins (aL mg "Beside") dx [])) (fun v H2=>v= .non/\R x H2) E:=by
 obtain ⟨_,_,_,_,a,_⟩:=id gu.g
 obtain ⟨_,_,_,_,b,_⟩:=id gl.g
 refine ⟨x,dx,u,l,_,_,side,tu,tl,_,_,_,_,hu,hl,rfl,aq,a.same (Rn nx nd),b.same (Rn nx nd),hlen,fun h H2 hh C P2 N2=>⟨rfl,?_⟩⟩
 have S:=Aw nx nd C
 have tk:TK "Beside" (Str.ofString "beside"):=.inr (.inr (.inr ⟨rfl,rfl⟩))
 exact q x h H2 S hh P2 (GP1.two tk (P2.hm fun m o hm=>let ⟨o',e⟩:=S0 m o hm;N2 m o' (Dg nx nd e).1 (Rp e nx).symm) hh (gu.same S) (gl.same S))
theorem Sv {a b h n:Nat} (k:xP [a,b] h) (ha:a<=n) (hb:b<=n):h<=n+1:=by
 rcases k with ⟨e,_⟩ | ⟨⟨c,hc,e⟩,_⟩
 ·cases e
 ·simp only [Za,Zz,or_false] at hc
  rcases hc with rfl | rfl <;> omega
theorem ue {a b:Str} (h:a.cps.toList=b.cps.toList):a=b:=by
 cases a;cases b;congr;exact Array.ext' h
def j6:List Str->Str
 | []=>Str.ofString ""
 | s :: ss=>s ++ j6 ss
theorem vY:(Str.ofString "").cps.toList=[]:=by trivial
theorem Hw (s:Str):s ++ Str.ofString ""=s:=ue (by rw [iI,vY,ZJ])
theorem Rr (s:Str):Str.ofString "" ++ s=s:=ue (by rw [iI,vY,List.nil_append])
theorem JV (a b c:Str):a ++ b ++ c=a ++ (b ++ c):=ue (by rw [iI,iI,iI,iI,AaT])
theorem Di:∀ (a b:List Str),j6 (a ++ b)=j6 a ++ j6 b
 | [],b=>(Rr _).symm
 | s :: a,b=>by show s ++ j6 (a ++ b)=s ++ j6 a ++ j6 b;rw [Di a b,JV]
def rD (z:Str):List Str:=z.cps.toList.map fun c=>⟨#[c]⟩
theorem qF (z:Str):j6 (rD z)=z:=by
 refine ue ?_
 unfold rD
 induction z.cps.toList with
 | nil=>exact vY
 | cons c l ih=>show (⟨#[c]⟩ ++ j6 _:Str).cps.toList=_;rw [iI,ih];rfl
theorem len_cat (a b:Str):(a ++ b).length=a.length+b.length:=gC a b
def Oj (K:W.Frag) (mg:Str->Option Value) (d:Nat):Sp:=fun vs H Q _=>∃ (p:Addr) (xs:List Addr) (side:Str) (ts:List Str) (h0:Nat) (H0:Hp),vs=[.ref p]/\Dm H0 H/\H p=some (.lst (xs.map V.ref))/\xs.length=ts.length/\0 < xs.length/\xs.length<=2 ^ d/\(j6 ts).length<=48/\(∀ (i:Nat) (x:Addr) (t:Str),xs[i]?=some x->ts[i]?=some t->∃ h,h<=h0/\GP mg H0 H x side t h)/\
 ∀ x h H',Same H H'->h<=h0+d->GP mg H0 H' x side (j6 ts) h->Q (.ref x) H'
def Yo (K:W.Frag) (mg:Str->Option Value):Nat->Sp
 | 0=>fun _ _ _ _=>False
 | d+1=>Oj K mg d
def Ol (K:W.Frag) (mg:Str->Option Value) (d:Nat):Sp:=fun vs H Q _=>∃ (p:Addr) (xs:List Addr) (top:Str) (ts:List Str) (h0:Nat) (H0:Hp),vs=[.ref p]/\Dm H0 H/\H p=some (.lst (xs.map V.ref))/\xs.length=ts.length/\0 < xs.length/\xs.length<=2 ^ d/\(j6 ts).length<=48/\(∀ (i:Nat) (x:Addr) (t:Str),xs[i]?=some x->ts[i]?=some t->∃ h,h<=h0/\GP mg H0 H x t top h)/\
 ∀ x h H',Same H H'->h<=h0+d->GP mg H0 H' x (j6 ts) top h->Q (.ref x) H'
def Yp (K:W.Frag) (mg:Str->Option Value):Nat->Sp
 | 0=>fun _ _ _ _=>False
 | d+1=>Ol K mg d
theorem zm {ts:List Str} {c:Nat} (h:(j6 ts).length<=48):j6 ts=j6 (ts.take c) ++ j6 (ts.drop c)/\(j6 (ts.take c)).length+(j6 (ts.drop c)).length<=48:=by
 have e:j6 ts=j6 (ts.take c) ++ j6 (ts.drop c):=by rw [← Di,List.take_append_drop]
 refine ⟨e,?_⟩
 rw [e,len_cat] at h
 exact h
theorem half {n d:Nat} (h:n<=2 ^ (d+1)):n / 2<=2 ^ d/\n - n / 2<=2 ^ d:=by
 rw [Nat.pow_succ] at h
 omega
theorem mL:aC ["pieces","cut"] ["pieces"] (az ou):=⟨rfl,rfl,rfl,by trivial,rfl,by trivial,by trivial⟩
theorem xR (T:Txt K mg):Has P w K mg base 1 "all_beside" ["pieces"] (fun _ _ _ _=>False):=cz (k:=0) T.d_all_beside mL (fun _ _ _ _ _ _ us hl=>L2.ie (fun _=>rfl) us hl) (fun _ _ _ _ h=>h.elim) (fun _ _ _ _ _ _ _ _ _ _ h=>h.elim)
theorem rE (T:Txt K mg) (d:Nat) (d7:Has P w K mg base (10+d) "all_beside" ["pieces"] (Yo K mg d)):Has P w K mg base (10+d+1) "all_beside" ["pieces"] (Oj K mg d):=by
 have iJ:=iJ (P:=P) (w:=w) (base:=base) T
 refine cz T.d_all_beside mL (fun _ _ _ _ _ _ us hl=>L2.ie (fun _=>rfl) us hl) ?_ fun f cdv A outer s H vs Q E hr h=>?_
 ·rintro vs H Q E ⟨p,xs,side,ts,h0,H0,rfl,_⟩;rfl
 obtain ⟨p,xs,side,ts,h0,H0,rfl,hS0,hp,hl,h1,h2,hlen,hG,q⟩:=h
 have hu:=hr.units0
 have hu64:=hr.units
 refine ⟨_,(aA (bK (bJ (dw (K:=K) rfl hu64) (aF (aG (K:=K) rfl) aO T.b_len aV (aa (ao 0) aj) (by trivial) (by trivial)) aH (by walk_at "p")) (aB (aK (iu (K:=K) rfl (ao 0) aH))) bx) (aA (aM (i:=1) mL.nd rfl dj (aY jf (aF (aG (K:=K) rfl) aO T.b_len aV (aa (ao 0) aj) (by trivial) (by trivial)) aH) rfl) (aB (aK (lU T.o_Beside iJ (hr.mono (by omega)) aO (mW fun _ _=>rfl) (aa (aJ d7 (hr.mono (by omega)) aO (aa (nJ (vO (K:=K) rfl) (ao 0) jh (ji (ao 1))) aj) (by trivial)) (aa (aJ d7 (hr.mono (by omega)) aO (aa (nJ (vO (K:=K) rfl) (ao 0) (ji (ao 1)) jh) aj) (by trivial)) aj)) (by trivial)))))),?_⟩
 walk_at "s"
 have hz:20000<=sizeLine:=by decide
 refine bM (SqL.of hp) ?_
 walk_at "s"
 rw [Zf]
 by_cases e1:xs.length=1
 ·rw [Y7 (show V.int (xs.length:Int)=V.int 1 by rw [e1];rfl)]
  obtain ⟨x,rfl⟩:=AaM.mp e1
  obtain ⟨t,rfl⟩:=AaM.mp (hl.symm.trans e1)
  obtain ⟨h,hh,g⟩:=hG 0 x t rfl rfl
  have hp':H p=some (.lst [.ref x]):=hp
  walk_at "s"
  refine q x h H (Same.refl H) (by omega) ?_
  rw [show j6 [t]=t from Hw t]
  exact g
 ·rw [Zc (show ¬ V.int (xs.length:Int)=V.int 1 from fun z=>e1 (by have:=V.int.inj z;omega))]
  obtain ⟨e,rfl⟩:∃ e,d=e+1:=by
   cases d with
   | zero=>simp at h2;omega
   | succ e=>exact ⟨e,rfl⟩
  obtain ⟨k1,k2⟩:=half h2
  walk_at "s"
  refine bM (SqL.of hp) ?_
  walk_at "s"
  rw [Zf,show ((xs.length:Nat):Int) / 2=((xs.length / 2:Nat):Int) by omega]
  generalize hc:xs.length / 2=c at k1 k2 ⊢
  obtain ⟨c1,c2⟩:=zm (c:=c) hlen
  walk_at "s"
  refine BW (SqL.of hp) fun p1 np1=>?_
  walk_at "s"
  rw [Cr,← List.map_take]
  have S1:=(Same.refl H).upd np1 (o:=.lst ((xs.take c).map V.ref))
  have hp1:=aq (H:=H) (a:=p1) (o:=.lst ((xs.take c).map V.ref))
  generalize upd H p1 (.lst ((xs.take c).map V.ref))=H1 at S1 hp1 ⊢
  walk_at "s"
  refine ⟨p1,xs.take c,side,ts.take c,h0,H0,rfl,hS0.same S1,hp1,by simp;omega,by simp;omega,by simp;omega,by omega,(fun i x t ex et=>?_),fun x1 g1 H2 S2 l1 G1=>?_⟩
  walk_at "s"
  ·obtain ⟨ei,ex'⟩:i < c/\xs[i]?=some x:=by
    rw [List.getElem?_take] at ex
    split at ex
    ·exact ⟨by assumption,ex⟩
    ·cases ex
   rw [List.getElem?_take_of_lt ei] at et
   obtain ⟨h,hh,g⟩:=hG i x t ex' et
   exact ⟨h,hh,g.same S1⟩
  have U2:=S1.trans S2
  try walk_at "s"
  refine BW (SqL.of (U2 _ _ hp)) fun p2 np2=>?_
  walk_at "s"
  rw [wL,← List.map_drop]
  have S3:=(Same.refl H2).upd np2 (o:=.lst ((xs.drop c).map V.ref))
  have hp3:=aq (H:=H2) (a:=p2) (o:=.lst ((xs.drop c).map V.ref))
  generalize upd H2 p2 (.lst ((xs.drop c).map V.ref))=H3 at S3 hp3 ⊢
  walk_at "s"
  refine ⟨p2,xs.drop c,side,ts.drop c,h0,H0,rfl,hS0.same (U2.trans S3),hp3,by simp;omega,by simp;omega,by simp;omega,by omega,(fun i x t ex et=>?_),fun x2 g2 H4 S4 l2 G2=>?_⟩
  walk_at "s"
  ·rw [AaA] at ex et
   obtain ⟨h,hh,g⟩:=hG _ x t ex et
   exact ⟨h,hh,g.same (U2.trans S3)⟩
  try walk_at "s"
  refine JR (hS0.same (U2.trans (S3.trans S4))) (G1.same (S3.trans S4)) G2 (by rw [len_cat];omega) fun x h H5 S5 hh _ g=>?_
  refine q x h H5 (U2.trans (S3.trans (S4.trans S5))) (by have:=Sv hh l1 l2;omega) ?_
  rw [c1]
  exact g
theorem p7:aC ["pieces","cut"] ["pieces"] (az sE):=⟨rfl,rfl,rfl,by trivial,rfl,by trivial,by trivial⟩
theorem Dj (T:Txt K mg):Has P w K mg base 1 "all_over" ["pieces"] (fun _ _ _ _=>False):=cz (k:=0) T.d_all_over p7 (fun _ _ _ _ _ _ us hl=>L2.ie (fun _=>rfl) us hl) (fun _ _ _ _ h=>h.elim) (fun _ _ _ _ _ _ _ _ _ _ h=>h.elim)
theorem vz (T:Txt K mg) (d:Nat) (jc:Has P w K mg base (10+d) "all_over" ["pieces"] (Yp K mg d)):Has P w K mg base (10+d+1) "all_over" ["pieces"] (Ol K mg d):=by
 have jw:=jw (P:=P) (w:=w) (base:=base) T
 refine cz T.d_all_over p7 (fun _ _ _ _ _ _ us hl=>L2.ie (fun _=>rfl) us hl) ?_ fun f cdv A outer s H vs Q E hr h=>?_
 ·rintro vs H Q E ⟨p,xs,top,ts,h0,H0,rfl,_⟩;rfl
 obtain ⟨p,xs,top,ts,h0,H0,rfl,hS0,hp,hl,h1,h2,hlen,hG,q⟩:=h
 have hu:=hr.units0
 have hu64:=hr.units
 refine ⟨_,(aA (bK (bJ (dw (K:=K) rfl hu64) (aF (aG (K:=K) rfl) aO T.b_len aV (aa (ao 0) aj) (by trivial) (by trivial)) aH (by walk_at "p")) (aB (aK (iu (K:=K) rfl (ao 0) aH))) bx) (aA (aM (i:=1) p7.nd rfl dj (aY jf (aF (aG (K:=K) rfl) aO T.b_len aV (aa (ao 0) aj) (by trivial) (by trivial)) aH) rfl) (aB (aK (lU T.o_Over jw (hr.mono (by omega)) aO (mW fun _ _=>rfl) (aa (aJ jc (hr.mono (by omega)) aO (aa (nJ (vO (K:=K) rfl) (ao 0) jh (ji (ao 1))) aj) (by trivial)) (aa (aJ jc (hr.mono (by omega)) aO (aa (nJ (vO (K:=K) rfl) (ao 0) (ji (ao 1)) jh) aj) (by trivial)) aj)) (by trivial)))))),?_⟩
 walk_at "s"
 have hz:20000<=sizeLine:=by decide
 refine bM (SqL.of hp) ?_
 walk_at "s"
 rw [Zf]
 by_cases e1:xs.length=1
 ·rw [Y7 (show V.int (xs.length:Int)=V.int 1 by rw [e1];rfl)]
  obtain ⟨x,rfl⟩:=AaM.mp e1
  obtain ⟨t,rfl⟩:=AaM.mp (hl.symm.trans e1)
  obtain ⟨h,hh,g⟩:=hG 0 x t rfl rfl
  have hp':H p=some (.lst [.ref x]):=hp
  walk_at "s"
  refine q x h H (Same.refl H) (by omega) ?_
  rw [show j6 [t]=t from Hw t]
  exact g
 ·rw [Zc (show ¬ V.int (xs.length:Int)=V.int 1 from fun z=>e1 (by have:=V.int.inj z;omega))]
  obtain ⟨e,rfl⟩:∃ e,d=e+1:=by
   cases d with
   | zero=>simp at h2;omega
   | succ e=>exact ⟨e,rfl⟩
  obtain ⟨k1,k2⟩:=half h2
  walk_at "s"
  refine bM (SqL.of hp) ?_
  walk_at "s"
  rw [Zf,show ((xs.length:Nat):Int) / 2=((xs.length / 2:Nat):Int) by omega]
  generalize hc:xs.length / 2=c at k1 k2 ⊢
  obtain ⟨c1,c2⟩:=zm (c:=c) hlen
  walk_at "s"
  refine BW (SqL.of hp) fun p1 np1=>?_
  walk_at "s"
  rw [Cr,← List.map_take]
  have S1:=(Same.refl H).upd np1 (o:=.lst ((xs.take c).map V.ref))
  have hp1:=aq (H:=H) (a:=p1) (o:=.lst ((xs.take c).map V.ref))
  generalize upd H p1 (.lst ((xs.take c).map V.ref))=H1 at S1 hp1 ⊢
  walk_at "s"
  refine ⟨p1,xs.take c,top,ts.take c,h0,H0,rfl,hS0.same S1,hp1,by simp;omega,by simp;omega,by simp;omega,by omega,(fun i x t ex et=>?_),fun x1 g1 H2 S2 l1 G1=>?_⟩
  walk_at "s"
  ·obtain ⟨ei,ex'⟩:i < c/\xs[i]?=some x:=by
    rw [List.getElem?_take] at ex
    split at ex
    ·exact ⟨by assumption,ex⟩
    ·cases ex
   rw [List.getElem?_take_of_lt ei] at et
   obtain ⟨h,hh,g⟩:=hG i x t ex' et
   exact ⟨h,hh,g.same S1⟩
  have U2:=S1.trans S2
  try walk_at "s"
  refine BW (SqL.of (U2 _ _ hp)) fun p2 np2=>?_
  walk_at "s"
  rw [wL,← List.map_drop]
  have S3:=(Same.refl H2).upd np2 (o:=.lst ((xs.drop c).map V.ref))
  have hp3:=aq (H:=H2) (a:=p2) (o:=.lst ((xs.drop c).map V.ref))
  generalize upd H2 p2 (.lst ((xs.drop c).map V.ref))=H3 at S3 hp3 ⊢
  walk_at "s"
  refine ⟨p2,xs.drop c,top,ts.drop c,h0,H0,rfl,hS0.same (U2.trans S3),hp3,by simp;omega,by simp;omega,by simp;omega,by omega,(fun i x t ex et=>?_),fun x2 g2 H4 S4 l2 G2=>?_⟩
  walk_at "s"
  ·rw [AaA] at ex et
   obtain ⟨h,hh,g⟩:=hG _ x t ex et
   exact ⟨h,hh,g.same (U2.trans S3)⟩
  try walk_at "s"
  refine Rq (hS0.same (U2.trans (S3.trans S4))) (G1.same (S3.trans S4)) G2 (by rw [len_cat];omega) fun x h H5 S5 hh _ g=>?_
  refine q x h H5 (U2.trans (S3.trans (S4.trans S5))) (by have:=Sv hh l1 l2;omega) ?_
  rw [c1]
  exact g
theorem JX (T:Txt K mg):∀ d:Nat,Has P w K mg base (11+d) "all_beside" ["pieces"] (Oj K mg d):=fun d=>by
 have key:∀ d:Nat,Has P w K mg base (11 - 1+d+1) "all_beside" ["pieces"] (Oj K mg d):=fun d=>by
  induction d with
  | zero=>exact rE T 0 ((xR T).mono (by decide))
  | succ d ih=>exact rE T (d+1) (ih.mono (by omega))
 exact (key d).mono (by omega)
theorem Rt (T:Txt K mg):∀ d:Nat,Has P w K mg base (11+d) "all_over" ["pieces"] (Ol K mg d):=fun d=>by
 have key:∀ d:Nat,Has P w K mg base (11 - 1+d+1) "all_over" ["pieces"] (Ol K mg d):=fun d=>by
  induction d with
  | zero=>exact vz T 0 ((Dj T).mono (by decide))
  | succ d ih=>exact vz T (d+1) (ih.mono (by omega))
 exact (key d).mono (by omega)
theorem d7 (T:Txt K mg):Has P w K mg base (11+6) "all_beside" ["pieces"] (Oj K mg 6):=JX T 6
theorem jc (T:Txt K mg):Has P w K mg base (11+6) "all_over" ["pieces"] (Ol K mg 6):=Rt T 6
theorem qG {z:Str}:z=Str.ofString ""↔z.cps.size=0:=⟨fun h=>by rw [h];trivial,fun h=>ue (by rw [vY];exact List.eq_nil_of_length_eq_zero (by simpa using h))⟩
end
local macro_rules | `(tactic| walk_at "s") => `(tactic| (with_reducible repeat (first | refine oO ?_ | walk_at "4")))
local macro_rules | `(tactic| walk_at "n") => `(tactic| (with_reducible repeat (walk_at "4")))
section
variable {P:Program} {w:World} {K:W.Frag} {mg:Str->Option Value} {base:Heap}
theorem xT:(["sign","bands"]:List Str).Nodup:=by trivial
theorem xU:(["other","sign"]:List Str).Nodup:=by trivial
theorem Pc.off {H:Hp} {x d:Addr} {y side top kind:Str} {L:List Nat} {ps:List V} {h:Nat} {kvs:List (Key×V)} (p:Pc mg H x y side top kind L ps h) (hd:H d=some (.dK kvs)):Pc mg (Hx d H) x y side top kind L ps h:=by
 obtain ⟨hy,dx,al,ap,a,b,c⟩:=p
 exact ⟨hy,dx,al,ap,zf a (fun z=>by rw [z,hd] at a;cases a),zf b (fun z=>by rw [z,hd] at b;cases b),zf c (fun z=>by rw [z,hd] at c;cases c)⟩
theorem GP1.off {H:Hp} {x d:Addr} {side top:Str} {h:Nat} {kvs:List (Key×V)} (p:GP1 mg H x side top h) (hd:H d=some (.dK kvs)):GP1 mg (Hx d H) x side top h:=by
 obtain ⟨y,k,ps,hs,a,b,c,e,f⟩:=p
 exact ⟨y,k,ps,hs,⟨a.pc.off hd,a.rs,a.rt⟩,b,⟨c.1,fun i v n e1 e2=>by
  obtain ⟨q,y',s',t',k',L,qs,rfl,z⟩:=c.2 i v n e1 e2
  exact ⟨q,y',s',t',k',L,qs,rfl,z.off hd⟩⟩,e,f⟩
theorem GP1.put {H:Hp} {x d:Addr} {side top:Str} {h:Nat} {kvs:List (Key×V)} {o:HO} (p:GP1 mg H x side top h) (hd:H d=some (.dK kvs)):GP1 mg (upd H d o) x side top h:=(p.off hd).same (by rw [← VJ (o:=o)];exact Hn d _)
theorem VP {H0 H:Hp} {d:Addr} {o:HO} (n:H0 d=none):Hm H0 (upd H d o)=upd (Hm H0 H) d o:=by
 funext b
 by_cases h2:b=d
 ·rw [h2,aq];exact zj aq n
 ·rw [aD h2];unfold Hm;rw [aD h2]
theorem GP.put {H0 H:Hp} {x d:Addr} {side top:Str} {h:Nat} {kvs:List (Key×V)} {o:HO} (p:GP mg H0 H x side top h) (hd:H d=some (.dK kvs)) (n0:H0 d=none):GP mg H0 (upd H d o) x side top h:=by
 unfold GP
 rw [VP n0]
 exact GP1.put p (zj hd n0)
def Yq (mg:Str->Option Value):Sp:=fun vs H Q _=>∃ (side top:Str),vs=[.str side,.str top]/\Row side/\Row top/\∀ x h H',Same H H'->h<=12->GP mg H H' x side top h->Q (.ref x) H'
theorem Dk (z:Str):(rD z).length=z.cps.size:=by unfold rD;simp
theorem Hy {z:Str} {i c:Nat} (h:z.cps.toList[i]?=some c):(rD z)[i]?=some ⟨#[c]⟩:=by unfold rD;rw [Y8,h];rfl
theorem p8:aC ["side","top","bands","sign"] ["side","top"] (az lq):=⟨rfl,rfl,rfl,by trivial,rfl,by trivial,by trivial⟩
theorem oM (T:Txt K mg):Has P w K mg base 18 "balanced" ["side","top"] (Yq mg):=by
 have gW:=gW (P:=P) (w:=w) (base:=base) T
 have iY:=iY (P:=P) (w:=w) (base:=base) T
 have d7:=d7 (P:=P) (w:=w) (base:=base) T
 have lD:=lD (P:=P) (w:=w) (base:=base) T
 have jc:=jc (P:=P) (w:=w) (base:=base) T
 refine cz T.d_balanced p8 (fun _ _ _ _ _ _ us hl=>L2.oW (fun _ _=>rfl) us hl) ?_ fun f cdv A outer s H vs Q E hr h=>?_
 ·rintro vs H Q E ⟨side,top,rfl,_⟩;rfl
 obtain ⟨side,top,rfl,rs,rt,q⟩:=h
 have hu:=hr.units0
 have hu64:=hr.units
 refine ⟨_,(aA (aU (aJ gW (hr.mono (by decide)) aO (aa (ao 0) (aa (ao 1) aj)) (by trivial))) (aA (bK (lN (ph (bJ (dw (K:=K) rfl hu64) (ao 0) oU (by walk_at "p")) (kJ (bJ (dw (K:=K) rfl hu64) (ao 1) oU (by walk_at "p"))))) (aB (aK (lU T.o_Blank iY (hr.mono (by decide)) aO (mW fun _ _=>rfl) (aa (ao 0) (aa (ao 1) aj)) (by trivial)))) bx) (aA (aM (i:=2) p8.nd rfl QQ GQ rfl) (aA (iR ZS rfl (iw (K:=K) rfl (ao 0)) (cY (i:=3) p8.nd rfl QQ rfl) (aB (bK (bJ (Js (K:=K) rfl hu64) (cC 3) (cC 2) (by walk_at "p")) (aB (lO (ts:=rn) (aJ d7 (hr.mono (by decide)) aO (aa (my (sub:=[none,some 3]) (dg (N:=["side","top","bands","sign"]) (sc:=az lq) (N':=["other","sign"]) (by trivial)) rfl rfl rfl (iw (K:=K) rfl (ao 1)) (fun C s₀ H₀ ex=>(vC 0 (by trivial) xU)) (fun C s₀ H₀ ex=>gH) (fun C s₀ H₀ ex=>(M6 (mg:=mg) rfl T.o_One lD (hr.mono (by decide)) (Wm (by trivial)) (mW fun _ _=>rfl) (aa (oR 1 (by trivial)) (aa (km 0 (by trivial)) aj)) (by trivial)))) aj) (by trivial)) (pA (cC 2) (cC 3) (lQ hu64)))) bx))) (aB (aK (aJ jc (hr.mono (by decide)) aO (aa (my (sub:=[none,some 2]) (dg (N:=["side","top","bands","sign"]) (sc:=az lq) (N':=["sign","bands"]) (by trivial)) rfl rfl rfl (iw (K:=K) rfl (ao 0)) (fun C s₀ H₀ ex=>(vC 0 (by trivial) xT)) (fun C s₀ H₀ ex=>gH) (fun C s₀ H₀ ex=>(Vt hu64 (oR 1 (by trivial)) (km 0 (by trivial))))) aj) (by trivial)))))))),?_⟩
 walk_at "s"
 have hz:20000<=sizeLine:=by decide
 have l1:=rs.1
 have l2:=rt.1
 have el1:side.length=side.cps.size:=rfl
 have el2:top.length=top.cps.size:=rfl
 refine ⟨side,top,rfl,rs,rt,fun H1 S1=>?_⟩
 walk_at "s"
 by_cases h0:side.cps.size=0
 ·rw [Y7 (show V.str side=V.str (Str.ofString "") by rw [qG.mpr h0])]
  show if true=true then _ else _
  walk_at "s"
  refine Dh (.of S1) rs rt (.inl h0) fun x H2 S2 p2 g2=>?_
  exact q x 0 H2 (S1.trans S2) (by omega) g2
 rw [Zc (show ¬ V.str side=V.str (Str.ofString "") from fun z=>h0 (qG.mp (V.str.inj z)))]
 show if false=true then _ else _
 walk_at "s"
 by_cases h1:top.cps.size=0
 ·rw [Y7 (show V.str top=V.str (Str.ofString "") by rw [qG.mpr h1])]
  walk_at "s"
  refine Dh (.of S1) rs rt (.inr h1) fun x H2 S2 p2 g2=>?_
  exact q x 0 H2 (S1.trans S2) (by omega) g2
 rw [Zc (show ¬ V.str top=V.str (Str.ofString "") from fun z=>h1 (qG.mp (V.str.inj z)))]
 walk_at "s"
 intro d nd
 have nd0:=Same.back S1 nd
 have S2:=S1.trans ((Same.refl H1).upd nd (o:=.dK []))
 have hd2:=aq (H:=H1) (a:=d) (o:=.dK [])
 generalize upd H1 d (.dK [])=H2 at S2 hd2 ⊢
 walk_at "s"
 refine .inr (.inr ⟨side,rfl,?_⟩)
 refine Gr (fun i U G=>Same H G/\(∃ kvs,G d=some (.dK kvs)/\kvs.length<=i/\(∀ c v,jj kvs (Sum.inr ⟨#[c]⟩)=some v->∃ x h,v= .ref x/\h<=6/\GP mg H G x ⟨#[c]⟩ top h)/\(∀ j c,j < i->side.cps.toList[j]?=some c->∃ v,jj kvs (Sum.inr ⟨#[c]⟩)=some v))/\∃ x3,U=[some (.str side),some (.str top),some (.ref d),x3]) ⟨S2,⟨[],hd2,YZ _,(fun c v h=>by cases h),fun j c h=>absurd h (Nat.not_lt_zero _)⟩,_,rfl⟩ ?_ ?_
 ·rintro i U G c hc ⟨s,⟨kvs,hd,hkl,hg,hk⟩,x3,rfl⟩
  have hi:i < side.cps.size:=by simpa using (Y4.mp hc).1
  have hcg:c∈GOOD:=rs.2 c (Zd hc)
  walk_at "s"
  refine .inr ⟨d,_,rfl,DGet.k (k:=Sum.inr ⟨#[c]⟩) hd,?_⟩
  cases hv:jj kvs (Sum.inr ⟨#[c]⟩) with
  | some v=>
   rw [show (!(some v).isSome)=false from rfl]
   walk_at "s"
   refine ⟨s,⟨kvs,hd,by omega,hg,fun j c' hj hc'=>?_⟩,_,rfl⟩
   by_cases hji:j < i
   ·exact hk j c' hji hc'
   ·obtain rfl:j=i:=by omega
    rw [hc] at hc'
    cases hc'
    exact ⟨v,hv⟩
  | none=>
   rw [show (!(none:Option V).isSome)=true from rfl]
   walk_at "s"
   refine .inr (.inr ⟨top,rfl,?_⟩)
   refine uF (fun i zs J=>Same G J/\∃ xs:List Addr,zs=xs.map V.ref/\xs.length=i/\∀ (j:Nat) (x:Addr) (t:Str),xs[j]?=some x->(rD top)[j]?=some t->∃ h,h<=0/\GP mg H J x ⟨#[c]⟩ t h) (by omega) ⟨Same.refl G,[],rfl,rfl,fun j x t e=>by cases e⟩ ?_ ?_ ?_
   ·rintro i zs J ⟨_,xs,rfl,e,_⟩
    rw [Zf];omega
   ·rintro i zs J t ht ⟨sJ,xs,rfl,e,hx⟩
    walk_at "s"
    refine ⟨KeepSt.set rfl,?_⟩
    walk_at "s"
    refine VN (.of (s.trans sJ)) hcg (rt.2 t (Zd ht)) fun x J2 T2 p2 g2=>?_
    refine ⟨sJ.trans T2,xs ++ [x],by rw [Zy];rfl,by simp;omega,fun j x' t' e1 e2=>?_⟩
    by_cases hj:j < xs.length
    ·rw [Zm hj] at e1
     obtain ⟨h,h1,h2⟩:=hx j x' t' e1 e2
     exact ⟨h,h1,h2.same T2⟩
    ·have hj2:j < xs.length+1:=by have:=(Y4.mp e1).1;simpa using this
     obtain rfl:j=xs.length:=by omega
     rw [Zk (by omega),Aa8] at e1
     cases e1
     subst e
     rw [Hy ht] at e2
     cases e2
     exact ⟨0,YZ _,g2⟩
   rintro zs J D J2 ⟨sJ,xs,rfl,e,hx⟩ nD T2 hD
   try walk_at "s"
   refine ⟨D,xs,⟨#[c]⟩,rD top,0,H,rfl,.of (s.trans (sJ.trans T2)),hD,by rw [Dk];exact e,by omega,Zo (by omega:xs.length<=48) (by decide),by rw [qF];exact l2,(fun j x t e1 e2=>by
    obtain ⟨h,h1,h2⟩:=hx j x t e1 e2
    exact ⟨h,h1,h2.same T2⟩),fun x h J3 T3 hh g3=>?_⟩
   rw [qF] at g3
   have W3:=sJ.trans (T2.trans T3)
   have hd3:=W3 _ _ hd
   try walk_at "s"
   refine .inr ⟨d,_,rfl,DPut.k (k:=Sum.inr ⟨#[c]⟩) hd3 (by omega),?_⟩
   try walk_at "s"
   have lk:=jk kvs (Sum.inr ⟨#[c]⟩:Key) (V.ref x)
   refine ⟨Same.put (s.trans W3) nd0,⟨_,aq,by omega,(fun c' v hv'=>?_),fun j c' hj hc'=>?_⟩,_,rfl⟩
   ·rw [tH] at hv'
    split at hv'
    ·rename_i e1
     cases hv'
     have:=Sum.inr.inj e1
     rw [this]
     exact ⟨x,h,rfl,by omega,g3.put hd3 nd0⟩
    ·obtain ⟨x',h',e1,e2,e3⟩:=hg c' v hv'
     exact ⟨x',h',e1,e2,(e3.same W3).put hd3 nd0⟩
   ·rw [tH]
    split
    ·exact ⟨_,rfl⟩
    ·rename_i e1
     by_cases hji:j < i
     ·exact hk j c' hji hc'
     ·obtain rfl:j=i:=by omega
      rw [hc] at hc'
      cases hc'
      exact absurd rfl e1
 ·rintro U G ⟨s,⟨kvs,hd,hkl,hg,hk⟩,x3,rfl⟩
  walk_at "s"
  refine .inr (.inr ⟨side,rfl,?_⟩)
  refine uF (fun i zs J=>J=G/\∃ xs:List Addr,zs=xs.map V.ref/\xs.length=i/\∀ (j:Nat) (x:Addr) (t:Str),xs[j]?=some x->(rD side)[j]?=some t->∃ h,h<=6/\GP mg H J x t top h) (by omega) ⟨rfl,[],rfl,rfl,fun j x t e=>by cases e⟩ ?_ ?_ ?_
  ·rintro i zs J ⟨_,xs,rfl,e,_⟩
   rw [Zf];omega
  ·rintro i zs J c hc ⟨rfl,xs,rfl,e,hx⟩
   have hi:i < side.cps.size:=by simpa using (Y4.mp hc).1
   obtain ⟨v,hv⟩:=hk i c (by show i < side.cps.size;exact hi) hc
   obtain ⟨x,h,rfl,h6,g⟩:=hg c v hv
   have hgt:=DGet.k (k:=Sum.inr ⟨#[c]⟩) hd
   rw [hv] at hgt
   walk_at "s"
   refine ⟨KeepSt.set rfl,?_⟩
   walk_at "s"
   refine ⟨d,_,rfl,hgt,?_⟩
   refine ⟨rfl,xs ++ [x],by rw [Zy];rfl,by simp;omega,fun j x' t' e1 e2=>?_⟩
   by_cases hj:j < xs.length
   ·rw [Zm hj] at e1
    exact hx j x' t' e1 e2
   ·have hj2:j < xs.length+1:=by have:=(Y4.mp e1).1;simpa using this
    obtain rfl:j=xs.length:=by omega
    rw [Zk (by omega),Aa8] at e1
    cases e1
    subst e
    rw [Hy hc] at e2
    cases e2
    exact ⟨h,h6,g⟩
  rintro zs J D J2 ⟨rfl,xs,rfl,e,hx⟩ nD T2 hD
  try walk_at "s"
  refine ⟨D,xs,top,rD side,6,H,rfl,.of (s.trans T2),hD,by rw [Dk];exact e,by omega,Zo (by omega:xs.length<=48) (by decide),by rw [qF];exact l1,(fun j x t e1 e2=>by
   obtain ⟨h,h1,h2⟩:=hx j x t e1 e2
   exact ⟨h,h1,h2.same T2⟩),fun x h J3 T3 hh g3=>?_⟩
  rw [qF] at g3
  exact q x h J3 (s.trans (T2.trans T3)) (by omega) g3
end
local macro_rules | `(tactic| walk_at "s") => `(tactic| (with_reducible repeat (first | refine oO ?_ | walk_at "5")))
local macro_rules | `(tactic| walk_at "n") => `(tactic| (with_reducible repeat (walk_at "5")))
section
variable {P:Program} {w:World} {K:W.Frag} {mg:Str->Option Value} {base:Heap}
theorem Dl:(["end","behind","line_end"]:List Str).Nodup:=by trivial
def Fy (t:List Nat) (b e:Nat):Nat:=(t.drop b).countP fun x=>decide (x < e)
def Ax (t:List Nat) (b:Nat):List Int:=(List.range (t.length+1)).map fun e=>((Fy t b e:Nat):Int)
theorem Fz {t:List Nat} {b e:Nat} {j:Int} (hj:j=(e:Int)) (h:e<=t.length):xF ((Ax t b).map V.int) j=some (.int ((Fy t b e:Nat):Int)):=by
 subst hj
 refine jg ?_
 unfold Ax
 rw [Y8,Y8,Zi (by omega)];rfl
theorem Do {t:List Nat} {b x:Nat} (h:t[b]?=some x) (e:Nat):Fy t b e=Fy t (b+1) e+if x < e then 1 else 0:=by
 obtain ⟨hb,hx⟩:=Y4.mp h
 unfold Fy
 rw [List.drop_eq_getElem_cons hb,List.countP_cons,hx]
 by_cases c:x < e
 ·rw [if_pos (by simpa using c),if_pos c]
 ·rw [if_neg (by simpa using c),if_neg c]
theorem Ru (t:List Nat) (e:Nat):Fy t t.length e=0:=by unfold Fy;rw [List.drop_length];rfl
def CT (H:Hp) (rs:List V) (n:Nat) (f:Nat->List Int):Prop:=rs.length=n/\∀ k,k < n->∃ a,rs[k]?=some (.ref a)/\H a=some (.lst ((f k).map V.int))
theorem CT.same {H H':Hp} {rs:List V} {n:Nat} {f:Nat->List Int} (h:CT H rs n f) (s:Same H H'):CT H' rs n f:=⟨h.1,fun k hk=>by
 obtain ⟨a,e,ha⟩:=h.2 k hk
 exact ⟨a,e,s _ _ ha⟩⟩
theorem CT.push {H:Hp} {rs:List V} {n:Nat} {f:Nat->List Int} {a:Addr} (h:CT H rs n f) (ha:H a=some (.lst ((f n).map V.int))):CT H (rs ++ [.ref a]) (n+1) f:=⟨by rw [Z3,h.1];rfl,fun k hk=>by
 by_cases e:k=n
 ·subst e
  exact ⟨a,by rw [Zk (by rw [h.1];exact YZ _),h.1,Aa8];rfl,ha⟩
 ·obtain ⟨b,e1,hb⟩:=h.2 k (by omega)
  exact ⟨b,by rw [Zm (by rw [h.1];omega)];exact e1,hb⟩⟩
theorem CT.rev {H:Hp} {rs:List V} {n:Nat} {f:Nat->List Int} (h:CT H rs n f):CT H rs.reverse n fun k=>f (n - 1 - k):=⟨by rw [List.length_reverse];exact h.1,fun k hk=>by
 obtain ⟨a,e,ha⟩:=h.2 (n - 1 - k) (by omega)
 exact ⟨a,by rw [List.getElem?_reverse (by rw [h.1];exact hk),h.1];exact e,ha⟩⟩
def Om:Sp:=fun vs H Q _=>∃ (a:Addr) (t:List Nat),vs=[.ref a]/\Tn H a t/\Prm t/\∀ q rs H',H q=none->Same H H'->H' q=some (.lst rs)->CT H' rs (t.length+1) (Ax t)->(∀ r,V.ref r∈rs->H r=none)->Q (.ref q) H'
theorem m8:aC ["turning","many","table","line_end","behind"] ["turning"] (az tY):=⟨rfl,rfl,rfl,by trivial,rfl,by trivial,by trivial⟩
theorem w6 (T:Txt K mg):Has P w K mg base 5 "counts" ["turning"] Om:=by
 have bh:=bh (P:=P) (w:=w) (base:=base) T
 refine cz T.d_counts m8 (fun _ _ _ _ _ _ us hl=>L2.ie (fun _=>rfl) us hl) ?_ fun f cdv A outer s H vs Q E hr h=>?_
 ·rintro vs H Q E ⟨a,t,rfl,_⟩;rfl
 obtain ⟨a,t,rfl,ha,hP,q⟩:=h
 have hu:=hr.units0
 have hu64:=hr.units
 refine ⟨_,(aA (aU (aJ bh (hr.mono (by decide)) aO (aa (ao 0) aj) (by trivial))) (aA (aM (i:=1) m8.nd rfl dj (aF (aG (K:=K) rfl) aO T.b_len aV (aa (ao 0) aj) (by trivial) (by trivial)) rfl) (aA (aM (i:=2) m8.nd rfl dj (jm (aa (aY nG (jm (aa aH aj)) (aY aR (ao 1) aH)) aj)) rfl) (aA (iR ZS rfl (QG (K:=K) rfl aO T.b_reversed (ao 0)) (cY (i:=3) m8.nd rfl QQ rfl) (aA (aM (i:=4) m8.nd rfl QQ (iu (K:=K) rfl (ao 2) (En rG aH)) rfl) (aB (aU (pq (K:=K) rfl Z0 Aab Aac j8 (ao 2) (aa (my (sub:=[none,some 4,some 3]) (dg (N:=["turning","many","table","line_end","behind"]) (sc:=az tY) (N':=["end","behind","line_end"]) (by trivial)) rfl rfl rfl (iQ aO T.b_range (aa (aY aR (ao 1) aH) aj)) (fun C s₀ H₀ ex=>(vC 0 (by trivial) Dl)) (fun C s₀ H₀ ex=>gH) (fun C s₀ H₀ ex=>(aY aR (iu (K:=K) rfl (oR 1 (by trivial)) (km 0 (by trivial))) (Xu (bJ yg (oR 2 (by trivial)) (km 0 (by trivial)) (by walk_at "p")) aH aH)))) aj)))))) (aB (aK (yI (K:=K) rfl rfl aO T.b_list aO T.b_reversed (ao 2)))))))),?_⟩
 walk_at "s"
 have hsz:20000<=sizeLine:=by decide
 have hle:=hP.le
 refine ⟨a,t,rfl,ha,hP,fun H1 S1=>?_⟩
 walk_at "s"
 have hlen:∀ (n:Nat),n=t.length->n=t.length:=fun _ h=>h
 have step:∀ (R:V->Hp->Prop),R (.int (t.length:Int)) H1->Jb K [.ref a] H1 R:=fun R hR=>by
  rcases ha.same S1 with h | h
  ·refine bM (SqL.of h) ?_
   rw [aZ];exact hR
  ·refine wD (SqT.of h) ?_
   rw [aZ];exact hR
 refine step _ ?_
 walk_at "s"
 refine cG rfl fun p0 H2 _ S2 f2=>?_
 walk_at "s"
 refine Ep f2 (by omega) (by omega) (by simp;omega) fun p1 np1=>?_
 have S3:=(Same.refl H2).upd np1 (o:=.lst (List.replicate ((t.length:Int)+1).toNat [V.int 0]).flatten)
 have f3:=aq (H:=H2) (a:=p1) (o:=.lst (List.replicate ((t.length:Int)+1).toNat [V.int 0]).flatten)
 generalize upd H2 p1 (.lst (List.replicate ((t.length:Int)+1).toNat [V.int 0]).flatten)=H3 at S3 f3 ⊢
 have f3':H3 p1=some (.lst ((Ax t (t.length - 0)).map V.int)):=by
  rw [f3,show ((t.length:Int)+1).toNat=t.length+1 by omega]
  congr 2
  unfold Ax
  rw [Aas]
  have:∀ n,(List.replicate n [V.int 0]).flatten=(List.range n).map fun _=>V.int 0:=fun n=>by
   induction n with
   | zero=>rfl
   | succ n ih=>rw [List.replicate_succ',List.flatten_append,ih,AaQ,Zy];rfl
  rw [this]
  refine Aar fun e _=>?_
  show V.int 0=V.int ((Fy t (t.length - 0) e:Nat):Int)
  rw [Nat.sub_zero,Ru];rfl
 walk_at "s"
 refine cG rfl fun tb H4 ntb S4 f4=>?_
 walk_at "s"
 have U4:=S1.trans (S2.trans (S3.trans S4))
 have ntb0:H tb=none:=by
  have:=Same.back (S1.trans (S2.trans S3)) ntb
  exact this
 have C4:CT H4 [.ref p1] (0+1) fun k=>Ax t (t.length - k):=⟨rfl,fun k hk=>by
  obtain rfl:k=0:=by omega
  exact ⟨p1,rfl,S4 _ _ f3'⟩⟩
 have N4:∀ r,V.ref r∈[V.ref p1]->H r=none:=fun r hr=>by
  simp only [Za,Zz,or_false] at hr
  cases hr
  exact Same.back (S1.trans S2) np1
 rcases ha with ha | ha
 ·refine .inl ⟨a,_,rfl,SqL.of (U4 _ _ ha),?_⟩
  refine QH (xs:=(nI t).map V.int) (fun i U G=>Same H G/\(∃ rs,G tb=some (.lst rs)/\(CT G rs (i+1) fun k=>Ax t (t.length - k))/\∀ r,V.ref r∈rs->H r=none)/\∃ x3 x4,U=[some (.ref a),some (.int (t.length:Int)),some (.ref tb),x3,x4])
   ⟨U4,⟨_,f4,C4,N4⟩,_,_,rfl⟩ (fun i U G _ h=>SqL.of (h.1 _ _ ha)) ?_ ?_
  ·rintro i x U G hi hx ⟨sG,⟨rs,htb,hC,hN⟩,x3,x4,rfl⟩
   rw [aZ] at hi
   rw [aZ] at hx
   obtain ⟨le,hle2,rfl⟩:=za hx
   obtain ⟨pb,epb,hpb⟩:=hC.2 i (by omega)
   have hrl:rs.length=i+1:=hC.1
   walk_at "s"
   refine bG (SqL.of htb) (Vq (n:=i) hrl epb) ?_
   walk_at "s"
   refine ⟨.inl ⟨rfl,_,SqL.of htb⟩,?_⟩
   walk_at "s"
   refine ⟨_,rfl,by omega,by omega,?_⟩
   rw [show ((t.length:Int)+1).toNat=t.length+1 by omega]
   refine qw (n:=t.length+1) (fun e=>.int ((Fy t (t.length - (i+1)) e:Nat):Int)) (by omega) ?_ ?_
   ·intro e he
    have ec:=Do (t:=t) (b:=t.length - (i+1)) (x:=le) (by rw [show t.length - (i+1)=t.length - 1 - i by omega];exact hle2) e
    rw [show t.length - (i+1)+1=t.length - i by omega] at ec
    rw [Int.zero_add]
    walk_at "s"
    refine ⟨KeepSt.set rfl,?_⟩
    walk_at "s"
    refine bG (SqL.of hpb) (Fz rfl (by omega)) ?_
    walk_at "s"
    refine rK (fun h=>?_) (fun h=>?_)
    ·walk_at "s"
     exact ⟨rfl,nP (by rw [ec,if_pos (by omega)];rfl)⟩
    ·walk_at "s"
     exact ⟨rfl,nP (by rw [ec,if_neg (by omega)];rfl)⟩
   ·intro nw G2 nnw s2 hnw
    walk_at "s"
    refine kO (s2 _ _ htb) (by omega) ?_
    walk_at "s"
    have hnw':G2 nw=some (.lst ((Ax t (t.length - (i+1))).map V.int)):=by
     rw [hnw]
     unfold Ax
     rw [Aas];rfl
    have hne:∀ {b:Addr} {xs:List V},G2 b=some (.lst xs)->True:=fun _=>trivial
    have C2:=(hC.same s2).push hnw'
    refine ⟨Same.put (sG.trans s2) ntb0,⟨_,aq,⟨C2.1,fun k hk=>?_⟩,fun r hr=>(Z4.mp hr).elim (hN r) fun hr=>by
     simp only [Za,Zz,or_false] at hr
     cases hr
     exact Same.back sG nnw⟩,_,_,rfl⟩
    obtain ⟨b,e1,hb⟩:=C2.2 k hk
    refine ⟨b,e1,?_⟩
    rw [aD (fun z=>?_)]
    ·exact hb
    ·rw [z,s2 _ _ htb] at hb
     have e0:rs=(Ax t (t.length - k)).map V.int:=by injection hb with hb;injection hb
     obtain ⟨a0,ea0,_⟩:=hC.2 0 (by omega)
     rw [e0,Y8] at ea0
     cases hq:(Ax t (t.length - k))[0]? with
     | none=>rw [hq] at ea0;cases ea0
     | some v=>rw [hq] at ea0;cases ea0
  ·rintro U G ⟨sG,⟨rs,htb,hC,hN⟩,x3,x4,rfl⟩
   rw [aZ] at hC
   walk_at "s"
   refine ⟨_,rfl,tb,rs,rfl,SqL.of htb,fun qq nqq=>?_⟩
   have s5:=(Same.refl G).upd nqq (o:=.lst rs.reverse)
   refine q qq rs.reverse _ (Same.back sG nqq) (sG.trans s5) aq ?_ fun r hr=>hN r (Abb.mp hr)
   have:=hC.rev.same s5
   refine ⟨this.1,fun k hk=>?_⟩
   obtain ⟨b,e1,hb⟩:=this.2 k hk
   refine ⟨b,e1,?_⟩
   rw [hb]
   show some (HO.lst (List.map V.int (Ax t (t.length - (t.length+1 - 1 - k)))))=_
   rw [show t.length - (t.length+1 - 1 - k)=k by omega]
 ·refine .inr ⟨a,_,rfl,SqT.of (U4 _ _ ha),by rw [aZ];omega,?_⟩
  refine QJ (xs:=(nI t).map V.int) (by rw [aZ];omega) (fun i U G=>Same H G/\(∃ rs,G tb=some (.lst rs)/\(CT G rs (i+1) fun k=>Ax t (t.length - k))/\∀ r,V.ref r∈rs->H r=none)/\∃ x3 x4,U=[some (.ref a),some (.int (t.length:Int)),some (.ref tb),x3,x4])
   ⟨U4,⟨_,f4,C4,N4⟩,_,_,rfl⟩ (fun i U G _ h=>SqT.of (h.1 _ _ ha)) ?_ ?_
  ·rintro i x U G hi hx ⟨sG,⟨rs,htb,hC,hN⟩,x3,x4,rfl⟩
   rw [aZ] at hi
   rw [aZ] at hx
   obtain ⟨le,hle2,rfl⟩:=za hx
   obtain ⟨pb,epb,hpb⟩:=hC.2 i (by omega)
   have hrl:rs.length=i+1:=hC.1
   walk_at "s"
   refine bG (SqL.of htb) (Vq (n:=i) hrl epb) ?_
   walk_at "s"
   refine ⟨.inl ⟨rfl,_,SqL.of htb⟩,?_⟩
   walk_at "s"
   refine ⟨_,rfl,by omega,by omega,?_⟩
   rw [show ((t.length:Int)+1).toNat=t.length+1 by omega]
   refine qw (n:=t.length+1) (fun e=>.int ((Fy t (t.length - (i+1)) e:Nat):Int)) (by omega) ?_ ?_
   ·intro e he
    have ec:=Do (t:=t) (b:=t.length - (i+1)) (x:=le) (by rw [show t.length - (i+1)=t.length - 1 - i by omega];exact hle2) e
    rw [show t.length - (i+1)+1=t.length - i by omega] at ec
    rw [Int.zero_add]
    walk_at "s"
    refine ⟨KeepSt.set rfl,?_⟩
    walk_at "s"
    refine bG (SqL.of hpb) (Fz rfl (by omega)) ?_
    walk_at "s"
    refine rK (fun h=>?_) (fun h=>?_)
    ·walk_at "s"
     exact ⟨rfl,nP (by rw [ec,if_pos (by omega)];rfl)⟩
    ·walk_at "s"
     exact ⟨rfl,nP (by rw [ec,if_neg (by omega)];rfl)⟩
   ·intro nw G2 nnw s2 hnw
    walk_at "s"
    refine kO (s2 _ _ htb) (by omega) ?_
    walk_at "s"
    have hnw':G2 nw=some (.lst ((Ax t (t.length - (i+1))).map V.int)):=by
     rw [hnw]
     unfold Ax
     rw [Aas];rfl
    have hne:∀ {b:Addr} {xs:List V},G2 b=some (.lst xs)->True:=fun _=>trivial
    have C2:=(hC.same s2).push hnw'
    refine ⟨Same.put (sG.trans s2) ntb0,⟨_,aq,⟨C2.1,fun k hk=>?_⟩,fun r hr=>(Z4.mp hr).elim (hN r) fun hr=>by
     simp only [Za,Zz,or_false] at hr
     cases hr
     exact Same.back sG nnw⟩,_,_,rfl⟩
    obtain ⟨b,e1,hb⟩:=C2.2 k hk
    refine ⟨b,e1,?_⟩
    rw [aD (fun z=>?_)]
    ·exact hb
    ·rw [z,s2 _ _ htb] at hb
     have e0:rs=(Ax t (t.length - k)).map V.int:=by injection hb with hb;injection hb
     obtain ⟨a0,ea0,_⟩:=hC.2 0 (by omega)
     rw [e0,Y8] at ea0
     cases hq:(Ax t (t.length - k))[0]? with
     | none=>rw [hq] at ea0;cases ea0
     | some v=>rw [hq] at ea0;cases ea0
  ·rintro U G ⟨sG,⟨rs,htb,hC,hN⟩,x3,x4,rfl⟩
   rw [aZ] at hC
   walk_at "s"
   refine ⟨_,rfl,tb,rs,rfl,SqL.of htb,fun qq nqq=>?_⟩
   have s5:=(Same.refl G).upd nqq (o:=.lst rs.reverse)
   refine q qq rs.reverse _ (Same.back sG nqq) (sG.trans s5) aq ?_ fun r hr=>hN r (Abb.mp hr)
   have:=hC.rev.same s5
   refine ⟨this.1,fun k hk=>?_⟩
   obtain ⟨b,e1,hb⟩:=this.2 k hk
   refine ⟨b,e1,?_⟩
   rw [hb]
   show some (HO.lst (List.map V.int (Ax t (t.length - (t.length+1 - 1 - k)))))=_
   rw [show t.length - (t.length+1 - 1 - k)=k by omega]
end
local macro_rules | `(tactic| walk_at "s") => `(tactic| (with_reducible repeat (first | refine oO ?_ | walk_at "3")))
local macro_rules | `(tactic| walk_at "n") => `(tactic| (with_reducible repeat (walk_at "3")))
section
variable {P:Program} {w:World} {K:W.Frag} {mg:Str->Option Value} {base:Heap}
def YJ (ae ac:Addr):List (Str×V):=[("held_ends",.ref ae),("held_counts",.ref ac)]
structure TyO (H:Hp) (t:List Nat) (ae ac:Addr) (rs:List V):Prop where
 ends:H ae=some (.lst ((nI t).map V.int))
 cnts:H ac=some (.lst rs)
 rows:CT H rs (t.length+1) (Ax t)
theorem TyO.same {H H':Hp} {t:List Nat} {ae ac:Addr} {rs:List V} (h:TyO H t ae ac rs) (s:Same H H'):TyO H' t ae ac rs:=⟨s _ _ h.ends,s _ _ h.cnts,h.rows.same s⟩
def Ty (mg:Str->Option Value) (H:Hp) (x:Addr) (t:List Nat):Prop:=Prm t/\∃ dx ae ac rs,H x=some (.ins (aL mg "Tally") dx (YJ ae ac))/\TyO H t ae ac rs
theorem Ty.same {H H':Hp} {x:Addr} {t:List Nat} (h:Ty mg H x t) (s:Same H H'):Ty mg H' x t:=by
 obtain ⟨hP,dx,ae,ac,rs,hx,hO⟩:=h
 exact ⟨hP,dx,ae,ac,rs,s _ _ hx,hO.same s⟩
def TyD (mg:Str->Option Value) (D:Addr->Prop) (H:Hp) (x:Addr) (t:List Nat):Prop:=Prm t/\∃ dx ae ac rs,H x=some (.ins (aL mg "Tally") dx (YJ ae ac))/\TyO H t ae ac rs/\¬ D x/\¬ D ae/\¬ D ac/\∀ r,V.ref r∈rs->¬ D r
theorem TyD.ty {H:Hp} {D:Addr->Prop} {x:Addr} {t:List Nat} (h:TyD mg D H x t):Ty mg H x t:=by
 obtain ⟨hP,dx,ae,ac,rs,hx,hO,_⟩:=h
 exact ⟨hP,dx,ae,ac,rs,hx,hO⟩
theorem TyD.sub {H:Hp} {D D':Addr->Prop} {x:Addr} {t:List Nat} (h:TyD mg D H x t) (s:∀ g,D' g->D g):TyD mg D' H x t:=by
 obtain ⟨hP,dx,ae,ac,rs,hx,hO,n1,n2,n3,n4⟩:=h
 exact ⟨hP,dx,ae,ac,rs,hx,hO,fun z=>n1 (s _ z),fun z=>n2 (s _ z),fun z=>n3 (s _ z),fun r hr z=>n4 r hr (s _ z)⟩
theorem Yr {D:Addr->Prop} {x g:Addr} (h:¬ D x) (hg:D g):x≠g:=fun z=>h (by rw [z];exact hg)
theorem TyD.put {H:Hp} {D:Addr->Prop} {g x:Addr} {t:List Nat} {o:HO} (h:TyD mg D H x t) (hg:D g):TyD mg D (upd H g o) x t:=by
 obtain ⟨hP,dx,ae,ac,rs,hx,hO,n1,n2,n3,n4⟩:=h
 refine ⟨hP,dx,ae,ac,rs,by rw [aD (Yr n1 hg)];exact hx,⟨by rw [aD (Yr n2 hg)];exact hO.ends,by rw [aD (Yr n3 hg)];exact hO.cnts,hO.rows.1,fun k hk=>?_⟩,n1,n2,n3,n4⟩
 obtain ⟨b,e,hb⟩:=hO.rows.2 k hk
 exact ⟨b,e,by rw [aD (Yr (n4 b (Zd e)) hg)];exact hb⟩
def Rv (mg:Str->Option Value):Sp:=fun vs H Q _=>∃ (x dx a:Addr) (t:List Nat),vs=[.ref x,.ref a]/\H x=some (.ins (aL mg "Tally") dx [])/\Tn H a t/\Prm t/\∀ H',Chg x H H'->TyD mg (fun g=>g≠x/\∃ o,H g=some o) H' x t->Q .non H'
theorem uf:aC ["self","turning"] ["self","turning"] (az iV):=⟨rfl,rfl,rfl,by trivial,rfl,by trivial,by trivial⟩
theorem jd (T:Txt K mg):kY P w K mg base 6 "Tally" "__init__" ["self","turning"] (Rv mg):=by
 have bh:=bh (P:=P) (w:=w) (base:=base) T
 have w6:=w6 (P:=P) (w:=w) (base:=base) T
 refine qW T.m_Tally___init__ uf (fun _ _ _ _ _ _ us hl=>L2.oW (fun _ _=>rfl) us hl) ?_ fun f cdv A outer s H vs Q E hr h=>?_
 ·rintro vs H Q E ⟨x,dx,a,t,rfl,_⟩;rfl
 obtain ⟨x,dx,a,t,rfl,hx,ha,hP,q⟩:=h
 have hu:=hr.units0
 have hu64:=hr.units
 refine ⟨_,(aA (aU (aJ bh (hr.mono (by decide)) aO (aa (ao 1) aj) (by trivial))) (aA (iT (K:=K) rfl (ao 0) (tL (nH (K:=K) rfl rfl) aO T.b_list j4 (aa (ao 1) aj) (by trivial) (by trivial))) (aB (iT (K:=K) rfl (ao 0) (aJ w6 (hr.mono (by decide)) aO (aa (ao 1) aj) (by trivial)))))),?_⟩
 walk_at "s"
 have hsz:20000<=sizeLine:=by decide
 have cl:=T.o_Tally.cl
 have na:=T.n_Tally
 refine ⟨a,t,rfl,ha,hP,fun H1 S1=>?_⟩
 walk_at "s"
 refine .inl ⟨a,(nI t).map V.int,rfl,(ha.same S1).imp SqL.of SqT.of,fun ae nae=>?_⟩
 have S2:=(Same.refl H1).upd nae (o:=.lst ((nI t).map V.int))
 have f2:=aq (H:=H1) (a:=ae) (o:=.lst ((nI t).map V.int))
 generalize upd H1 ae (.lst ((nI t).map V.int))=H2 at S2 f2 ⊢
 have U2:=S1.trans S2
 have hx2:=U2 _ _ hx
 have nx:∀ {G:Hp} {b:Addr} {fs:List (Str×V)} {us:List V},G x=some (.ins (aL mg "Tally") dx fs)->(G b=some (.lst us)\/G b=some (.tup us))->b≠x:=fun {G b fs us} h1 h2 z=>by
  rw [z,h1] at h2
  rcases h2 with h2 | h2 <;> cases h2
 walk_at "s"
 refine ⟨x,_,dx,_,rfl,hx2,cl,na _ (by simp),by simp,?_⟩
 walk_at "s"
 rw [iH (by show ([]:List Str).contains "held_ends"=false;trivial)]
 have hx3:=aq (H:=H2) (a:=x) (o:=.ins (aL mg "Tally") dx (([]:List (Str×V)) ++ ([("held_ends",.ref ae)]:List (Str×V))))
 have C3:Chg x H2 (upd H2 x (.ins (aL mg "Tally") dx (([]:List (Str×V)) ++ ([("held_ends",.ref ae)]:List (Str×V))))):=Chg.put (Chg.refl x H2)
 generalize upd H2 x (.ins (aL mg "Tally") dx (([]:List (Str×V)) ++ ([("held_ends",.ref ae)]:List (Str×V))))=H3 at hx3 C3 ⊢
 replace hx3:H3 x=some (.ins (aL mg "Tally") dx ([("held_ends",.ref ae)]:List (Str×V))):=hx3
 have ha2:=ha.same U2
 have ha3:Tn H3 a t:=by
  have nxa:=nx hx2 ha2
  rcases ha2 with h | h
  ·exact .inl (C3 _ _ nxa h)
  ·exact .inr (C3 _ _ nxa h)
 have f3:=C3 _ _ (nx hx2 (.inl f2)) f2
 walk_at "s"
 refine ⟨a,t,rfl,ha3,hP,fun ac rs H4 nac S4 hac hrs hfr=>?_⟩
 walk_at "s"
 have hx4:=S4 _ _ hx3
 refine ⟨x,_,dx,_,rfl,hx4,cl,na _ (by simp),by simp,?_⟩
 walk_at "s"
 rw [iH (by show (["held_ends"]:List Str).contains "held_counts"=false;trivial)]
 have hx5:=aq (H:=H4) (a:=x) (o:=.ins (aL mg "Tally") dx (([("held_ends",.ref ae)]:List (Str×V)) ++ ([("held_counts",.ref ac)]:List (Str×V))))
 have C5:Chg x H4 (upd H4 x (.ins (aL mg "Tally") dx (([("held_ends",.ref ae)]:List (Str×V)) ++ ([("held_counts",.ref ac)]:List (Str×V))))):=Chg.put (Chg.refl x H4)
 generalize upd H4 x (.ins (aL mg "Tally") dx (([("held_ends",.ref ae)]:List (Str×V)) ++ ([("held_counts",.ref ac)]:List (Str×V))))=H5 at hx5 C5 ⊢
 have hO5:TyO H5 t ae ac rs:=by
  refine ⟨?_,?_,hrs.1,fun k hk=>?_⟩
  ·exact C5 _ _ (nx hx4 (.inl (S4 _ _ f3))) (S4 _ _ f3)
  ·exact C5 _ _ (nx hx4 (.inl hac)) hac
  ·obtain ⟨b,e,hb⟩:=hrs.2 k hk
   exact ⟨b,e,C5 _ _ (nx hx4 (.inl hb)) hb⟩
 refine q H5 ?_ ⟨hP,dx,ae,ac,rs,hx5,hO5,fun z=>z.1 rfl,?_,?_,fun r hr z=>?_⟩
 ·intro b o nb e
  exact C5 b o nb (S4 _ _ (C3 b o nb (U2 _ _ e)))
 ·rintro ⟨ng,o,hg⟩
  rw [S1 _ _ hg] at nae;cases nae
 ·rintro ⟨ng,o,hg⟩
  rw [C3 _ o ng (U2 _ _ hg)] at nac;cases nac
 ·obtain ⟨ng,o,hg⟩:=z
  have:=hfr r hr
  rw [C3 _ o ng (U2 _ _ hg)] at this;cases this
theorem tyM {ae ac:Addr} {m:Str} (h:(["held_ends","held_counts"]:List Str).contains m=false):(YJ ae ac).lookup m=none:=by
 unfold YJ
 simp only [Aad,AaG] at h
 obtain ⟨h1,h2,_⟩:=h
 simp only [Zt,h1,h2,List.lookup_nil]
def Oo (mg:Str->Option Value):Sp:=fun vs H Q _=>∃ (x:Addr) (t:List Nat) (b e:Nat),vs=[.ref x,.int b,.int e]/\Ty mg H x t/\b<=t.length/\e<=t.length/\Q (.int ((Fy t b e:Nat):Int)) H
theorem xf:aC ["self","begin","end"] ["self","begin","end"] (az mG):=⟨rfl,rfl,rfl,by trivial,rfl,by trivial,by trivial⟩
theorem mO (T:Txt K mg):kY P w K mg base 4 "Tally" "below" ["self","begin","end"] (Oo mg):=by
 have bc:=bc (P:=P) (w:=w) (base:=base) T
 refine qW T.m_Tally_below xf (fun _ _ _ _ _ _ us hl=>L2.oY (fun _ _ _=>rfl) us hl) ?_ fun f cdv A outer s H vs Q E hr h=>?_
 ·rintro vs H Q E ⟨x,t,b,e,rfl,_⟩;rfl
 obtain ⟨x,t,b,e,rfl,⟨hP,dx,ae,ac,rs,hx,hO⟩,hb,he,q⟩:=h
 have hu:=hr.units0
 have hu64:=hr.units
 refine ⟨_,(aA (aU (qp bc (hr.mono (by decide)) aO aN (aa (ao 1) (aa aH (aa (aF (aG (K:=K) rfl) aO T.b_len aV (aa (jZ (K:=K) rfl (ao 0)) aj) (by trivial) (by trivial)) aj))) (by trivial))) (aA (aU (qp bc (hr.mono (by decide)) aO aN (aa (ao 2) (aa aH (aa (aF (aG (K:=K) rfl) aO T.b_len aV (aa (jZ (K:=K) rfl (ao 0)) aj) (by trivial) (by trivial)) aj))) (by trivial))) (aB (aK (iu (K:=K) rfl (iu (K:=K) rfl (jZ (K:=K) rfl (ao 0)) (ao 1)) (ao 2)))))),?_⟩
 walk_at "s"
 have cl:=T.o_Tally.cl
 have na:=T.n_Tally
 refine ⟨x,_,dx,_,_,rfl,hx,cl,na _ (by simp),rfl,?_⟩
 walk_at "s"
 refine bM (SqL.of hO.ends) ?_
 walk_at "s"
 rw [aZ]
 walk_at "s"
 refine tZ (by omega) (by omega) ?_
 walk_at "s"
 refine ⟨x,_,dx,_,_,rfl,hx,cl,na _ (by simp),rfl,?_⟩
 walk_at "s"
 refine bM (SqL.of hO.ends) ?_
 walk_at "s"
 rw [aZ]
 walk_at "s"
 refine tZ (by omega) (by omega) ?_
 walk_at "s"
 refine ⟨x,_,dx,_,_,rfl,hx,cl,na _ (by simp),rfl,?_⟩
 walk_at "s"
 obtain ⟨pb,epb,hpb⟩:=hO.rows.2 b (by omega)
 refine bG (SqL.of hO.cnts) (jg epb) ?_
 walk_at "s"
 refine bG (SqL.of hpb) (Fz rfl he) ?_
 walk_at "s"
 exact q
theorem made {H1 H2:Hp} {x dx:Addr} {o o':HO} (nx:H1 x=none) (ndx:H1 dx=none) (c:Chg x (upd (upd H1 dx o) x o') H2):Same H1 H2:=fun b u e=>by
 have n1:b≠x:=fun z=>by rw [z,nx] at e;cases e
 have n2:b≠dx:=fun z=>by rw [z,ndx] at e;cases e
 exact c b u n1 (by rw [aD n1,aD n2];exact e)
theorem Oq {H1:Hp} {x dx g:Addr} {o o' u:HO} (nx:H1 x=none) (ndx:H1 dx=none) (e:H1 g=some u):upd (upd H1 dx o) x o' g=some u/\g≠x:=by
 have n1:g≠x:=fun z=>by rw [z,nx] at e;cases e
 have n2:g≠dx:=fun z=>by rw [z,ndx] at e;cases e
 exact ⟨by rw [aD n1,aD n2];exact e,n1⟩
theorem gNe {H1:Hp} {x g:Addr} {u:HO} (nx:H1 x=none) (e:H1 g=some u):g≠x:=fun z=>by rw [z,nx] at e;cases e
def YK (ty:Addr) (m f:Nat):List (Str×V):=[("held_tally",.ref ty),("held_many",.int (m:Int)),("held_far",.int (f:Int))]
theorem akM {ty:Addr} {m' f:Nat} {m:Str} (h:(["held_tally","held_many","held_far"]:List Str).contains m=false):(YK ty m' f).lookup m=none:=by
 unfold YK
 simp only [Aad,AaG] at h
 obtain ⟨h1,h2,h3,_⟩:=h
 simp only [Zt,h1,h2,h3,List.lookup_nil]
def Ak (mg:Str->Option Value) (H:Hp) (x:Addr) (t:List Nat) (m f:Nat):Prop:=m+f=t.length/\∃ dx ty,H x=some (.ins (aL mg "Asks") dx (YK ty m f))/\Ty mg H ty t
theorem Ak.same {H H':Hp} {x:Addr} {t:List Nat} {m f:Nat} (h:Ak mg H x t m f) (s:Same H H'):Ak mg H' x t m f:=by
 obtain ⟨hl,dx,ty,hx,hT⟩:=h
 exact ⟨hl,dx,ty,s _ _ hx,hT.same s⟩
def AkD (mg:Str->Option Value) (D:Addr->Prop) (H:Hp) (x:Addr) (t:List Nat) (m f:Nat):Prop:=m+f=t.length/\∃ dx ty,H x=some (.ins (aL mg "Asks") dx (YK ty m f))/\TyD mg D H ty t/\¬ D x
theorem AkD.ak {H:Hp} {D:Addr->Prop} {x:Addr} {t:List Nat} {m f:Nat} (h:AkD mg D H x t m f):Ak mg H x t m f:=by
 obtain ⟨hl,dx,ty,hx,hT,_⟩:=h
 exact ⟨hl,dx,ty,hx,hT.ty⟩
theorem AkD.sub {H:Hp} {D D':Addr->Prop} {x:Addr} {t:List Nat} {m f:Nat} (h:AkD mg D H x t m f) (s:∀ g,D' g->D g):AkD mg D' H x t m f:=by
 obtain ⟨hl,dx,ty,hx,hT,n⟩:=h
 exact ⟨hl,dx,ty,hx,hT.sub s,fun z=>n (s _ z)⟩
theorem AkD.put {H:Hp} {D:Addr->Prop} {g x:Addr} {t:List Nat} {m f:Nat} {o:HO} (h:AkD mg D H x t m f) (hg:D g):AkD mg D (upd H g o) x t m f:=by
 obtain ⟨hl,dx,ty,hx,hT,n⟩:=h
 exact ⟨hl,dx,ty,by rw [aD (Yr n hg)];exact hx,hT.put hg,n⟩
def Rw (mg:Str->Option Value):Sp:=fun vs H Q _=>∃ (x dx a:Addr) (t:List Nat) (m f:Nat),vs=[.ref x,.ref a,.int m]/\H x=some (.ins (aL mg "Asks") dx [])/\Tn H a t/\Prm t/\m+f=t.length/\∀ H',Chg x H H'->AkD mg (fun g=>g≠x/\∃ o,H g=some o) H' x t m f->Q .non H'
theorem uU:aC ["self","lines","many"] ["self","lines","many"] (az jq):=⟨rfl,rfl,rfl,by trivial,rfl,by trivial,by trivial⟩
theorem jx (T:Txt K mg):kY P w K mg base 8 "Asks" "__init__" ["self","lines","many"] (Rw mg):=by
 have jd:=jd (P:=P) (w:=w) (base:=base) T
 have bc:=bc (P:=P) (w:=w) (base:=base) T
 refine qW T.m_Asks___init__ uU (fun _ _ _ _ _ _ us hl=>L2.oY (fun _ _ _=>rfl) us hl) ?_ fun f cdv A outer s H vs Q E hr h=>?_
 ·rintro vs H Q E ⟨x,dx,a,t,m,f',rfl,_⟩;rfl
 obtain ⟨x,dx,a,t,m,f',rfl,hx,ha,hP,hmf,q⟩:=h
 have hu:=hr.units0
 have hu64:=hr.units
 refine ⟨_,(aA (iT (K:=K) rfl (ao 0) (lU T.o_Tally jd (hr.mono (by decide)) aO aN (aa (ao 1) aj) (by trivial))) (aA (aU (qp bc (hr.mono (by decide)) aO aN (aa (ao 2) (aa aH (aa (aF (aG (K:=K) rfl) aO T.b_len aV (aa (ao 1) aj) (by trivial) (by trivial)) aj))) (by trivial))) (aA (iT (K:=K) rfl (ao 0) (ao 2)) (aB (iT (K:=K) rfl (ao 0) (aY ik (aF (aG (K:=K) rfl) aO T.b_len aV (aa (ao 1) aj) (by trivial) (by trivial)) (ao 2))))))),?_⟩
 walk_at "s"
 have hsz:20000<=sizeLine:=by decide
 have cl:=T.o_Asks.cl
 have na:=T.n_Asks
 intro ty dty nty ndty ne
 have hat:Tn (upd (upd H dty (.own ty)) ty (.ins (aL mg "Tally") dty [])) a t:=ha.imp (fun h=>(Oq nty ndty h).1) (fun h=>(Oq nty ndty h).1)
 refine ⟨ty,dty,a,t,rfl,aq,hat,hP,fun H1 c1 hT1=>⟨rfl,?_⟩⟩
 walk_at "s"
 have S1:=made nty ndty c1
 replace hT1:=hT1.sub (D':=fun g=>∃ o,H g=some o) (fun g hg=>by
  obtain ⟨o,hg⟩:=hg
  exact ⟨gNe nty hg,o,(Oq nty ndty hg).1⟩)
 clear c1
 have hx1:=S1 _ _ hx
 have ax:a≠x:=fun z=>by
  rcases ha with h | h <;> rw [z,hx] at h <;> cases h
 refine ⟨x,_,dx,_,rfl,hx1,cl,na _ (by simp),by simp,?_⟩
 walk_at "s"
 rw [iH (by show ([]:List Str).contains "held_tally"=false;trivial)]
 have hx2:=aq (H:=H1) (a:=x) (o:=.ins (aL mg "Asks") dx (([]:List (Str×V)) ++ ([("held_tally",.ref ty)]:List (Str×V))))
 have C2:Chg x H (upd H1 x (.ins (aL mg "Asks") dx (([]:List (Str×V)) ++ ([("held_tally",.ref ty)]:List (Str×V))))):=Chg.put (fun b o n e=>S1 _ _ e)
 have hT2:=hT1.put (g:=x) (o:=.ins (aL mg "Asks") dx (([]:List (Str×V)) ++ ([("held_tally",.ref ty)]:List (Str×V)))) ⟨_,hx⟩
 generalize upd H1 x (.ins (aL mg "Asks") dx (([]:List (Str×V)) ++ ([("held_tally",.ref ty)]:List (Str×V))))=H2 at hx2 C2 hT2 ⊢
 replace hx2:H2 x=some (.ins (aL mg "Asks") dx ([("held_tally",.ref ty)]:List (Str×V))):=hx2
 have ha2:Tn H2 a t:=ha.imp (C2 _ _ ax) (C2 _ _ ax)
 have len:∀ (G:Hp) (R:V->Hp->Prop),Tn G a t->R (.int (t.length:Int)) G->Jb K [.ref a] G R:=fun G R hG hR=>by
  rcases hG with h | h
  ·refine bM (SqL.of h) ?_
   rw [aZ];exact hR
  ·refine wD (SqT.of h) ?_
   rw [aZ];exact hR
 walk_at "s"
 refine len _ _ ha2 ?_
 walk_at "s"
 refine tZ (by omega) (by omega) ?_
 walk_at "s"
 refine ⟨x,_,dx,_,rfl,hx2,cl,na _ (by simp),by simp,?_⟩
 walk_at "s"
 rw [iH (by show (["held_tally"]:List Str).contains "held_many"=false;trivial)]
 have hx3:=aq (H:=H2) (a:=x) (o:=.ins (aL mg "Asks") dx (([("held_tally",.ref ty)]:List (Str×V)) ++ ([("held_many",.int (m:Int))]:List (Str×V))))
 have C3:Chg x H (upd H2 x (.ins (aL mg "Asks") dx (([("held_tally",.ref ty)]:List (Str×V)) ++ ([("held_many",.int (m:Int))]:List (Str×V))))):=Chg.put C2
 have hT3:=hT2.put (g:=x) (o:=.ins (aL mg "Asks") dx (([("held_tally",.ref ty)]:List (Str×V)) ++ ([("held_many",.int (m:Int))]:List (Str×V)))) ⟨_,hx⟩
 generalize upd H2 x (.ins (aL mg "Asks") dx (([("held_tally",.ref ty)]:List (Str×V)) ++ ([("held_many",.int (m:Int))]:List (Str×V))))=H3 at hx3 C3 hT3 ⊢
 replace hx3:H3 x=some (.ins (aL mg "Asks") dx ([("held_tally",.ref ty),("held_many",.int (m:Int))]:List (Str×V))):=hx3
 have ha3:Tn H3 a t:=ha.imp (C3 _ _ ax) (C3 _ _ ax)
 walk_at "s"
 refine len _ _ ha3 ?_
 walk_at "s"
 refine ⟨x,_,dx,_,rfl,hx3,cl,na _ (by simp),by simp,?_⟩
 walk_at "s"
 rw [iH (by show (["held_tally","held_many"]:List Str).contains "held_far"=false;trivial),show (t.length:Int) - (m:Int)=(f':Int) by omega]
 exact q _ (Chg.put C3) ⟨hmf,dx,ty,aq,(hT3.put ⟨_,hx⟩).sub (fun g hg=>hg.2),fun z=>z.1 rfl⟩
def rk (t:List Nat) (m a b c d:Nat):Int:=(d:Int) - (c:Int) - ((Fy t (m - a+c) (m - b+d):Nat):Int)
def VR (mg:Str->Option Value):Sp:=fun vs H Q _=>∃ (x:Addr) (t:List Nat) (m f a b c d:Nat),vs=[.ref x,.int a,.int b,.int c,.int d]/\Ak mg H x t m f/\a<=m/\b<=m/\c<=f/\d<=f/\Q (.int (rk t m a b c d)) H
theorem m9:aC ["self","first","last","begin","end","many"] ["self","first","last","begin","end"] (az jr):=⟨rfl,rfl,rfl,by trivial,rfl,by trivial,by trivial⟩
theorem jy (T:Txt K mg):kY P w K mg base 5 "Asks" "reckoned" ["self","first","last","begin","end"] (VR mg):=by
 have mO:=mO (P:=P) (w:=w) (base:=base) T
 refine qW T.m_Asks_reckoned m9 (fun _ _ _ _ _ _ us hl=>L2.usN5 (fun _ _ _ _ _=>rfl) us hl) ?_ fun f cdv A outer s H vs Q E hr h=>?_
 ·rintro vs H Q E ⟨x,t,m,f',a,b,c,d,rfl,_⟩;rfl
 obtain ⟨x,t,m,f',a,b,c,d,rfl,⟨hl,dx,ty,hx,hT⟩,h1,h2,h3,h4,q⟩:=h
 have hu:=hr.units0
 have hu64:=hr.units
 refine ⟨_,(aA (aM (i:=5) m9.nd rfl dj (jZ (K:=K) rfl (ao 0)) rfl) (aB (aK (aY ik (aY ik (ao 4) (ao 3)) (lR (jZ (K:=K) rfl (ao 0)) T.o_Tally mO (hr.mono (by decide)) aN (aa (aY aR (aY ik (ao 5) (ao 1)) (ao 3)) (aa (aY aR (aY ik (ao 5) (ao 2)) (ao 4)) aj))))))),?_⟩
 walk_at "s"
 have cl:=T.o_Asks.cl
 have na:=T.n_Asks
 refine ⟨x,_,dx,_,_,rfl,hx,cl,na _ (by simp),rfl,?_⟩
 walk_at "s"
 refine ⟨x,_,dx,_,_,rfl,hx,cl,na _ (by simp),rfl,?_⟩
 walk_at "s"
 have hT':=hT
 obtain ⟨_,dt,ae,ac,rs,ht,_⟩:=hT'
 refine ⟨ty,dt,_,rfl,ht,tyM (by trivial),?_⟩
 walk_at "s"
 rw [show (m:Int) - (a:Int)+(c:Int)=((m - a+c:Nat):Int) by omega,show (m:Int) - (b:Int)+(d:Int)=((m - b+d:Nat):Int) by omega]
 refine ⟨ty,t,m - a+c,m - b+d,rfl,hT,by omega,by omega,?_⟩
 walk_at "s"
 exact q
def VV (mg:Str->Option Value):Sp:=fun vs H Q _=>∃ (x:Addr) (t:List Nat) (m f c d:Nat),vs=[.ref x,.int c,.int d]/\Ak mg H x t m f/\c<=f/\d<=f/\Q (.int (rk t m 0 m c d)) H
theorem mQ:aC ["self","begin","end"] ["self","begin","end"] (az cV):=⟨rfl,rfl,rfl,by trivial,rfl,by trivial,by trivial⟩
theorem cX (T:Txt K mg):kY P w K mg base 6 "Asks" "reckoned_stretch" ["self","begin","end"] (VV mg):=by
 have jy:=jy (P:=P) (w:=w) (base:=base) T
 refine qW T.m_Asks_reckoned_stretch mQ (fun _ _ _ _ _ _ us hl=>L2.oY (fun _ _ _=>rfl) us hl) ?_ fun f cdv A outer s H vs Q E hr h=>?_
 ·rintro vs H Q E ⟨x,t,m,f',c,d,rfl,_⟩;rfl
 obtain ⟨x,t,m,f',c,d,rfl,hA,h3,h4,q⟩:=h
 have hu:=hr.units0
 have hu64:=hr.units
 refine ⟨_,(aB (aK (lR (ao 0) T.o_Asks jy (hr.mono (by decide)) aN (aa aH (aa (jZ (K:=K) rfl (ao 0)) (aa (ao 1) (aa (ao 2) aj))))))),?_⟩
 walk_at "s"
 have cl:=T.o_Asks.cl
 have na:=T.n_Asks
 obtain ⟨hl,dx,ty,hx,hT⟩:=id hA
 refine ⟨x,dx,_,rfl,hx,akM (by trivial),?_⟩
 walk_at "s"
 refine ⟨x,_,dx,_,_,rfl,hx,cl,na _ (by simp),rfl,?_⟩
 walk_at "s"
 refine ⟨x,t,m,f',0,m,c,d,rfl,hA,by omega,by omega,h3,h4,?_⟩
 walk_at "s"
 exact q
def JZ (mg:Str->Option Value):Sp:=fun vs H Q _=>∃ (x:Addr) (t:List Nat) (m f c d:Nat),vs=[.ref x,.int c,.int d]/\Ak mg H x t m f/\c<=d/\d<=f/\Q (.int (rk t m 0 m c d)) H
theorem vL:aC ["self","begin","end"] ["self","begin","end"] (az lu):=⟨rfl,rfl,rfl,by trivial,rfl,by trivial,by trivial⟩
theorem lE (T:Txt K mg):kY P w K mg base 7 "Asks" "stretch" ["self","begin","end"] (JZ mg):=by
 have pY:=pY (P:=P) (w:=w) (base:=base) T
 have cX:=cX (P:=P) (w:=w) (base:=base) T
 refine qW T.m_Asks_stretch vL (fun _ _ _ _ _ _ us hl=>L2.oY (fun _ _ _=>rfl) us hl) ?_ fun f cdv A outer s H vs Q E hr h=>?_
 ·rintro vs H Q E ⟨x,t,m,f',c,d,rfl,_⟩;rfl
 obtain ⟨x,t,m,f',c,d,rfl,hA,h3,h4,q⟩:=h
 have hu:=hr.units0
 have hu64:=hr.units
 refine ⟨_,(aA (aU (aJ pY (hr.mono (by decide)) aO (aa (ao 1) (aa (ao 2) (aa (jZ (K:=K) rfl (ao 0)) aj))) (by trivial))) (aB (aK (lR (ao 0) T.o_Asks cX (hr.mono (by decide)) aN (aa (ao 1) (aa (ao 2) aj)))))),?_⟩
 walk_at "s"
 have cl:=T.o_Asks.cl
 have na:=T.n_Asks
 obtain ⟨hl,dx,ty,hx,hT⟩:=id hA
 refine ⟨x,_,dx,_,_,rfl,hx,cl,na _ (by simp),rfl,?_⟩
 walk_at "s"
 refine ⟨_,_,_,rfl,by omega,by omega,by omega,?_⟩
 walk_at "s"
 refine ⟨x,dx,_,rfl,hx,akM (by trivial),?_⟩
 walk_at "s"
 refine ⟨x,t,m,f',c,d,rfl,hA,by omega,h4,?_⟩
 walk_at "s"
 exact q
theorem xV:(["sign"]:List Str).Nodup:=by trivial
def Pln (z:Str):Prop:=z.length<=24/\∀ c∈z.cps.toList,97<=c/\c < 123
theorem Rx:∀ k∈List.range 26,vH uR (97+k)=false/\(97+k)∈GOOD:=by trivial
theorem Pln.ok {z:Str} (h:Pln z) {c:Nat} (hc:c∈z.cps.toList):vH uR c=false/\c∈GOOD:=by
 have:=h.2 c hc
 have k:=Rx (c - 97) (Zj.mpr (by omega))
 rw [show 97+(c - 97)=c by omega] at k
 exact k
theorem Pln.row {z:Str} (h:Pln z):Row z:=⟨by have:=h.1;omega,fun c hc=>(h.ok hc).2⟩
def V0:Sp:=fun vs H Q _=>∃ z:Str,vs=[.str z]/\Pln z/\∀ H',Same H H'->Q (.bl true) H'
theorem Dp:aC ["thing"] ["thing"] (az nY):=⟨rfl,rfl,rfl,by trivial,rfl,by trivial,by trivial⟩
theorem sU (T:Txt K mg):Has P w K mg base 1 "is_plain" ["thing"] V0:=by
 refine cz T.d_is_plain Dp (fun _ _ _ _ _ _ us hl=>L2.ie (fun _=>rfl) us hl) ?_ fun f cdv A outer s H vs Q E hr h=>?_
 ·rintro vs H Q E ⟨z,rfl,_⟩;rfl
 obtain ⟨z,rfl,hp,q⟩:=h
 have hu:=hr.units0
 have hu64:=hr.units
 refine ⟨_,(aA (bK (lN (ph (bW (bY (aF (di (K:=K) rfl) aO T.b_isinstance bj (aa (ao 0) (aa (uB aO T.b_str Em (by trivial) (by trivial)) aj)) (by trivial) (by trivial)))) (kJ (bJ v7 (aF (aG (K:=K) rfl) aO T.b_len aV (aa (ao 0) aj) (by trivial) (by trivial)) (wG aO T.c_MOST_LETTERS (by trivial)) (by walk_at "p"))))) (aB (aK kE)) bx) (aB (aK (aF (wB rfl) aO T.b_all Ek (aa (my (sub:=[none]) (dg (N:=["thing"]) (sc:=az nY) (N':=["sign"]) (by trivial)) rfl rfl rfl (iw (K:=K) rfl (ao 0)) (fun C s₀ H₀ ex=>(vC 0 (by trivial) xV)) (fun C s₀ H₀ ex=>gH) (fun C s₀ H₀ ex=>(kI (MN (K:=K) rfl hu64) (km 0 (by trivial)) (wF (Wm (by trivial)) T.c_LETTERS (by trivial)) (by walk_at "p")))) aj) (by trivial) (by trivial))))),?_⟩
 walk_at "s"
 have hl:=hp.1
 have hz1:z.length<=sizeLine:=Zo hl (by decide)
 refine jP (.str z) rfl ?_
 walk_at "s"
 refine bQ hz1 ?_
 walk_at "s"
 rw [Zc (show ¬ (24:Int) < (z.length:Int) by omega)]
 walk_at "s"
 refine .inr (.inr ⟨z,rfl,?_⟩)
 refine uF (fun i us G=>G=H/\us=((z.cps.toList.take i).map fun c=>!vH uR c).map V.bl) hz1 ⟨rfl,rfl⟩ ?_ ?_ ?_
 ·rintro i us G ⟨rfl,rfl⟩
  simp;omega
 ·rintro i us G c hc ⟨rfl,rfl⟩
  walk_at "s"
  refine ⟨KeepSt.set rfl,?_⟩
  walk_at "s"
  refine ⟨rfl,?_⟩
  rw [Aai,hc]
  simp [uR,vH]
 ·rintro us G D H' ⟨rfl,rfl⟩ nD S hD
  try walk_at "s"
  refine ⟨D,_,rfl,hD,?_⟩
  have e2:(List.map (fun c=>!vH uR c) (z.cps.toList.take z.cps.size)).all id=true:=by
   rw [List.all_map,Aaf]
   intro c hc
   have:=(hp.ok (Aa4 hc)).1
   simp [this]
  rw [e2]
  exact q _ S
def V1:Sp:=fun vs H Q _=>∃ z:Str,vs=[.str z]/\Pln z/\∀ H',Same H H'->Q .non H'
theorem xW:aC ["thing"] ["thing"] (az nZ):=⟨rfl,rfl,rfl,by trivial,rfl,by trivial,by trivial⟩
theorem j7 (T:Txt K mg):Has P w K mg base 3 "need_plain" ["thing"] V1:=by
 have sU:=sU (P:=P) (w:=w) (base:=base) T
 refine cz T.d_need_plain xW (fun _ _ _ _ _ _ us hl=>L2.ie (fun _=>rfl) us hl) ?_ fun f cdv A outer s H vs Q E hr h=>?_
 ·rintro vs H Q E ⟨z,rfl,_⟩;rfl
 obtain ⟨z,rfl,hp,q⟩:=h
 have hu:=hr.units0
 have hu64:=hr.units
 refine ⟨_,(aB (bK (bW (bY (aJ sU (hr.mono (by decide)) aO (aa (ao 0) aj) (by trivial)))) (aB dH) bx)),?_⟩
 walk_at "s"
 refine ⟨z,rfl,hp,fun H' S=>?_⟩
 walk_at "s"
 exact q H' S
def YL (side row:Str) (al ap:Addr) (h:Nat) (ak:Addr):List (Str×V):=O3 side (row ++ row) (Str.ofString "ring") al ap h ++ ([("held_row",.str row),("held_asks",.ref ak)]:List (Str×V))
def V2 (side row:Str):List Nat:=LN side.cps.size (row.cps.size+row.cps.size) (xx side (row ++ row))
def Rg (mg:Str->Option Value) (H:Hp) (x:Addr) (side row:Str):Prop:=Pln side/\Pln row/\row.cps.size≠0/\∃ dx al ap h ak,H x=some (.ins (aL mg "Ring") dx (YL side row al ap h ak))/\Ak mg H ak (V2 side row) side.cps.size (row.cps.size+row.cps.size)
theorem Rg.same {H H':Hp} {x:Addr} {side row:Str} (h:Rg mg H x side row) (s:Same H H'):Rg mg H' x side row:=by
 obtain ⟨a,b,c,dx,al,ap,h,ak,e,k⟩:=h
 exact ⟨a,b,c,dx,al,ap,h,ak,s _ _ e,k.same s⟩
def Ys (mg:Str->Option Value):Sp:=fun vs H Q _=>∃ (x dx:Addr) (side row:Str),vs=[.ref x,.str side,.str row]/\H x=some (.ins (aL mg "Ring") dx [])/\Pln side/\Pln row/\row.cps.size≠0/\∀ H',Chg x H H'->Rg mg H' x side row->Q .non H'
theorem d8:aC ["self","side","row","left","right","lines"] ["self","side","row"] (az ju):=⟨rfl,rfl,rfl,by trivial,rfl,by trivial,by trivial⟩
theorem gK (T:Txt K mg):kY P w K mg base 19 "Ring" "__init__" ["self","side","row"] (Ys mg):=by
 have j7:=j7 (P:=P) (w:=w) (base:=base) T
 have oM:=oM (P:=P) (w:=w) (base:=base) T
 have cW:=cW (P:=P) (w:=w) (base:=base) T
 have bz:=bz (P:=P) (w:=w) (base:=base) T
 have aP:=aP (P:=P) (w:=w) (base:=base) T
 have jx:=jx (P:=P) (w:=w) (base:=base) T
 refine qW T.m_Ring___init__ d8 (fun _ _ _ _ _ _ us hl=>L2.oY (fun _ _ _=>rfl) us hl) ?_ fun f cdv A outer s H vs Q E hr h=>?_
 ·rintro vs H Q E ⟨x,dx,side,row,rfl,_⟩;rfl
 obtain ⟨x,dx,side,row,rfl,hx,hs,hr',h0,q⟩:=h
 have hu:=hr.units0
 have hu64:=hr.units
 refine ⟨_,(aA (aU (aJ j7 (hr.mono (by decide)) aO (aa (ao 1) aj) (by trivial))) (aA (aU (aJ j7 (hr.mono (by decide)) aO (aa (ao 2) aj) (by trivial))) (aA (bK (bJ (dw (K:=K) rfl hu64) (ao 2) oU (by walk_at "p")) (aB dH) bx) (aA (aM (i:=3) d8.nd rfl dj (aJ oM (hr.mono (by decide)) aO (aa (ao 1) (aa (ao 2) aj)) (by trivial)) rfl) (aA (aM (i:=4) d8.nd rfl dj (aJ oM (hr.mono (by decide)) aO (aa (ao 1) (aa (ao 2) aj)) (by trivial)) rfl) (aA (aM (i:=5) d8.nd rfl dj (aJ cW (hr.mono (by decide)) aO (aa (bH (mg:=mg) rfl (ao 3) T.os_Piece bz (hr.mono (by decide)) aN) (aa (bH (mg:=mg) rfl (ao 4) T.os_Piece bz (hr.mono (by decide)) aN) (aa (aF (aG (K:=K) rfl) aO T.b_len aV (aa (ao 1) aj) (by trivial) (by trivial)) aj))) (by trivial)) rfl) (aA (aU (wM aP (hr.mono (by decide)) aO aN (aa (ao 0) (aa (ao 1) (aa (aY aR (ao 2) (ao 2)) (aa oU (aa (ao 5) (aa (jm (aa (ao 3) (aa (ao 4) aj))) aj)))))) (by trivial))) (aA (iT (K:=K) rfl (ao 0) (ao 2)) (aB (iT (K:=K) rfl (ao 0) (lU T.o_Asks jx (hr.mono (by decide)) aO aN (aa (ao 5) (aa (aF (aG (K:=K) rfl) aO T.b_len aV (aa (ao 1) aj) (by trivial) (by trivial)) aj)) (by trivial)))))))))))),?_⟩
 walk_at "s"
 have hz:20000<=sizeLine:=by decide
 have l1:side.length<=24:=hs.1
 have l2:row.length<=24:=hr'.1
 have e1:side.length=side.cps.size:=rfl
 have e2:row.length=row.cps.size:=rfl
 have ec:=gC row row
 have el:(row ++ row).length=row.length+row.length:=gC row row
 refine ⟨side,rfl,hs,fun H1 S1=>?_⟩
 walk_at "s"
 refine ⟨row,rfl,hr',fun H2 S2=>?_⟩
 walk_at "s"
 rw [Zc (show ¬ V.str row=V.str (Str.ofString "") from fun z=>h0 (qG.mp (V.str.inj z)))]
 walk_at "s"
 refine ⟨side,row,rfl,hs.row,hr'.row,fun u nu H3 S3 hnu gu=>?_⟩
 walk_at "s"
 refine ⟨side,row,rfl,hs.row,hr'.row,fun l nl H4 S4 hnl gl=>?_⟩
 walk_at "s"
 obtain ⟨yu,ku,pu,hu0,gu0,_⟩:=gu.g
 obtain ⟨yl,kl,pl,hl0,gl0,_⟩:=gl.g
 have gu1:=gu0.same S4
 have gl1:=gl0
 obtain ⟨hyu,du,au,bu,xu,_,_⟩:=id gu1.pc
 obtain ⟨hyl,dl,al',bl,xl,_,_⟩:=id gl1.pc
 refine ⟨u,yu,du,_,rfl,hyu,xu,rfl,?_⟩
 walk_at "s"
 refine ⟨u,yu,_,_,_,_,_,_,rfl,gu1.pc,fun ru H5 nru S5 hru=>?_⟩
 walk_at "s"
 refine ⟨l,yl,dl,_,rfl,hyl,S5 _ _ xl,rfl,?_⟩
 walk_at "s"
 refine ⟨l,yl,_,_,_,_,_,_,rfl,gl1.pc.same S5,fun rl H6 nrl S6 hrl=>?_⟩
 walk_at "s"
 refine bQ (by omega) ?_
 walk_at "s"
 refine ⟨ru,rl,side.cps.size,row.cps.size,row.cps.size,xx side (row ++ row),rfl,by omega,?_,?_,fun rr H7 nrr S7 hrr=>?_⟩
 walk_at "s"
 ·rw [m7 (e':=xx side row) fun i j hi hj=>by unfold xx;rw [Fw hj]]
  exact S6 _ _ hru
 ·rw [m7 (e':=xx side row) fun i j hi hj=>by unfold xx;rw [Fx]]
  exact hrl
 have U7:=S1.trans (S2.trans (S3.trans (S4.trans (S5.trans (S6.trans S7)))))
 walk_at "s"
 refine uA (by omega) ?_
 walk_at "s"
 refine cG rfl fun pp H8 npp S8 hpp=>?_
 walk_at "s"
 have U8:=U7.trans S8
 have W8:=S5.trans (S6.trans (S7.trans S8))
 refine ⟨x,dx,rr,pp,"Ring",side,row ++ row,_,_,_,[nu,nl],rfl,by unfold Oa;simp,U8 _ _ hx,S8 _ _ hrr,hpp,by simp,vX (gu1.same W8) (gl1.same W8),fun h H9 hh C9 P9 N9=>?_⟩
 walk_at "s"
 obtain ⟨_,dx',al,ap,hx9,hal9,hap9⟩:=P9
 have rrx:rr≠x:=fun z=>by rw [z,U7 _ _ hx] at hrr;cases hrr
 have hrr9:=C9 _ _ rrx (S8 _ _ hrr)
 have C9':Chg x H H9:=fun b o n e=>C9 b o n (U8 _ _ e)
 clear hal9 hap9 N9
 refine ⟨x,_,dx',_,rfl,hx9,T.o_Ring.cl,T.n_Ring _ (by simp),by simp [O3],?_⟩
 walk_at "s"
 rw [iH (by show (["held_side","held_top","held_kind","held_lines","held_parts","held_height"]:List Str).contains "held_row"=false;trivial)]
 have hxA:=aq (H:=H9) (a:=x) (o:=.ins (aL mg "Ring") dx' (O3 side (row ++ row) (Str.ofString "ring") al ap h ++ ([("held_row",.str row)]:List (Str×V))))
 have CA:Chg x H (upd H9 x (.ins (aL mg "Ring") dx' (O3 side (row ++ row) (Str.ofString "ring") al ap h ++ ([("held_row",.str row)]:List (Str×V))))):=Chg.put C9'
 have hrrA:upd H9 x (.ins (aL mg "Ring") dx' (O3 side (row ++ row) (Str.ofString "ring") al ap h ++ ([("held_row",.str row)]:List (Str×V)))) rr=some (.lst ((nI (V2 side row)).map V.int)):=by rw [aD rrx];exact hrr9
 generalize upd H9 x (.ins (aL mg "Ring") dx' (O3 side (row ++ row) (Str.ofString "ring") al ap h ++ ([("held_row",.str row)]:List (Str×V))))=HA at hxA CA hrrA ⊢
 walk_at "s"
 refine bQ (by omega) ?_
 walk_at "s"
 intro ak dak nak ndak ne
 have lr:(V2 side row).length=side.cps.size+(row.cps.size+row.cps.size):=gj _ _ _
 refine ⟨ak,dak,rr,V2 side row,side.cps.size,row.cps.size+row.cps.size,rfl,aq,.inl (Oq nak ndak hrrA).1,uK (by omega),by rw [lr],fun HB cB hN=>⟨rfl,?_⟩⟩
 walk_at "s"
 have SB:=made nak ndak cB
 replace hN:=hN.sub (D':=fun g=>g=x) (by
  rintro g rfl
  exact ⟨gNe nak hxA,_,(Oq nak ndak hxA).1⟩)
 refine ⟨x,_,dx',_,rfl,SB _ _ hxA,T.o_Ring.cl,T.n_Ring _ (by simp),by simp [O3],?_⟩
 walk_at "s"
 rw [iH (by show (["held_side","held_top","held_kind","held_lines","held_parts","held_height","held_row"]:List Str).contains "held_asks"=false;trivial)]
 refine q _ (Chg.put fun b o n e=>SB _ _ (CA b o n e)) ⟨hs,hr',h0,dx',al,ap,h,ak,?_,(hN.put rfl).ak⟩
 rw [aq]
 unfold YL
 rw [AaT]
 rfl
end
local macro_rules | `(tactic| walk_at "s") => `(tactic| (with_reducible repeat (first | refine oO ?_ | walk_at "6")))
local macro_rules | `(tactic| walk_at "n") => `(tactic| (with_reducible repeat (walk_at "6")))
section
variable {P:Program} {w:World} {K:W.Frag} {mg:Str->Option Value} {base:Heap}
theorem ug:(["place","self"]:List Str).Nodup:=by trivial
def YM (mg:Str->Option Value) (H:Hp) (E:XK) (v:V):Prop:=∀ e H',Same H H'->IsX H' e (aL mg "NoPlace") [("found",v)]->E (.ref (aL mg "NoPlace")) (some e) H'
theorem Hz {v:V} {hi:Int} (h:inB v 0 hi=true):∃ n:Nat,v= .int n/\(n:Int)<=hi:=by
 cases v with
 | int z=>
  unfold inB at h
  simp at h
  exact ⟨z.toNat,by rw [Int.toNat_of_nonneg h.1],by omega⟩
 | _=>cases h
theorem Ka {side row:Str} {al ap ak:Addr} {h:Nat} {m:Str} (g:(["held_side","held_top","held_kind","held_lines","held_parts","held_height","held_row","held_asks"]:List Str).contains m=false):(YL side row al ap h ak).lookup m=none:=by
 unfold YL O3
 simp only [Aad,AaG] at g
 obtain ⟨h1,h2,h3,h4,h5,h6,h7,h8,_⟩:=g
 simp only [List.cons_append,List.nil_append,Zt,h1,h2,h3,h4,h5,h6,h7,h8,List.lookup_nil]
def Ay (side row:Str) (p k:Nat):Int:=rk (V2 side row) side.cps.size 0 side.cps.size p (p+k)
def Yt (K:W.Frag) (mg:Str->Option Value):Sp:=fun vs H Q E=>∃ (x:Addr) (side row:Str) (v:V),vs=[.ref x,v]/\Rg mg H x side row/\Kd K H v/\(inB v 0 ((row.cps.size:Int) - 1)=false->YM mg H E v)/\(inB v 0 ((row.cps.size:Int) - 1)=true->Q .non H)
theorem qd:aC ["self","place"] ["self","place"] (az gk):=⟨rfl,rfl,rfl,by trivial,rfl,by trivial,by trivial⟩
theorem gn (T:Txt K mg):kY P w K mg base 4 "Ring" "need_opening" ["self","place"] (Yt K mg):=by
 have bc:=bc (P:=P) (w:=w) (base:=base) T
 refine qW T.m_Ring_need_opening qd (fun _ _ _ _ _ _ us hl=>L2.oW (fun _ _=>rfl) us hl) ?_ fun f cdv A outer s H vs Q E hr h=>?_
 ·rintro vs H Q E ⟨x,side,row,v,rfl,_⟩;rfl
 obtain ⟨x,side,row,v,rfl,hR,kv,q1,q2⟩:=h
 have hu:=hr.units0
 have hu64:=hr.units
 refine ⟨_,(aB (aU (qp bc (hr.mono (by decide)) aO aN (aa (ao 1) (aa aH (aa (aY ik (aF (aG (K:=K) rfl) aO T.b_len aV (aa (jZ (K:=K) rfl (ao 0)) aj) (by trivial) (by trivial)) aH) aj))) (by trivial)))),?_⟩
 walk_at "s"
 obtain ⟨hs,hr',h0,dx,al,ap,h,ak,hx,hA⟩:=id hR
 have hz:20000<=sizeLine:=by decide
 have l2:row.length<=24:=hr'.1
 have e2:row.length=row.cps.size:=rfl
 refine ⟨x,_,dx,_,_,rfl,hx,T.o_Ring.cl,T.n_Ring _ (by simp),rfl,?_⟩
 walk_at "s"
 refine bQ (by omega) ?_
 walk_at "s"
 refine ⟨v,_,_,rfl,kv,fun hv=>?_,fun hv=>q1 hv⟩
 walk_at "s"
 exact q2 hv
def Yu (K:W.Frag) (mg:Str->Option Value):Sp:=fun vs H Q E=>∃ (x:Addr) (side row:Str) (v u:V),vs=[.ref x,v,u]/\Rg mg H x side row/\Kd K H v/\Kd K H u/\
 (inB v 0 ((row.cps.size:Int) - 1)=false->YM mg H E v)/\(inB v 0 ((row.cps.size:Int) - 1)=true->inB u 0 (row.cps.size:Int)=false->YM mg H E u)/\
 (∀ p k:Nat,v= .int p->u= .int k->p < row.cps.size->k<=row.cps.size->Q (.int (Ay side row p k)) H)
theorem vM:aC ["self","place","many"] ["self","place","many"] (az lB):=⟨rfl,rfl,rfl,by trivial,rfl,by trivial,by trivial⟩
theorem bI (T:Txt K mg):kY P w K mg base 8 "Ring" "stretch" ["self","place","many"] (Yu K mg):=by
 have gn:=gn (P:=P) (w:=w) (base:=base) T
 have bc:=bc (P:=P) (w:=w) (base:=base) T
 have lE:=lE (P:=P) (w:=w) (base:=base) T
 refine qW T.m_Ring_stretch vM (fun _ _ _ _ _ _ us hl=>L2.oY (fun _ _ _=>rfl) us hl) ?_ fun f cdv A outer s H vs Q E hr h=>?_
 ·rintro vs H Q E ⟨x,side,row,v,u,rfl,_⟩;rfl
 obtain ⟨x,side,row,v,u,rfl,hR,kv,ku,q1,q2,q3⟩:=h
 have hu:=hr.units0
 have hu64:=hr.units
 refine ⟨_,(aA (aU (lR (ao 0) T.o_Ring gn (hr.mono (by decide)) aN (aa (ao 1) aj))) (aA (aU (qp bc (hr.mono (by decide)) aO aN (aa (ao 2) (aa aH (aa (aF (aG (K:=K) rfl) aO T.b_len aV (aa (jZ (K:=K) rfl (ao 0)) aj) (by trivial) (by trivial)) aj))) (by trivial))) (aB (aK (lR (jZ (K:=K) rfl (ao 0)) T.o_Asks lE (hr.mono (by decide)) aN (aa (ao 1) (aa (aY aR (ao 1) (ao 2)) aj))))))),?_⟩
 walk_at "s"
 obtain ⟨hs,hr',h0,dx,al,ap,h,ak,hx,hA⟩:=id hR
 have hz:20000<=sizeLine:=by decide
 have l2:row.length<=24:=hr'.1
 have e2:row.length=row.cps.size:=rfl
 refine ⟨x,dx,_,rfl,hx,Ka (by trivial),?_⟩
 walk_at "s"
 refine ⟨x,side,row,v,rfl,hR,kv,fun hv=>q1 hv,fun hv=>?_⟩
 walk_at "s"
 refine ⟨x,_,dx,_,_,rfl,hx,T.o_Ring.cl,T.n_Ring _ (by simp),rfl,?_⟩
 walk_at "s"
 refine bQ (by omega) ?_
 walk_at "s"
 refine ⟨u,_,_,rfl,ku,fun hu'=>?_,fun hu'=>q2 hv hu'⟩
 walk_at "s"
 obtain ⟨p,rfl,hp⟩:=Hz hv
 obtain ⟨k,rfl,hk⟩:=Hz hu'
 have hA':=hA
 obtain ⟨_,dk,ty,hk1,_⟩:=hA'
 refine ⟨x,_,dx,_,_,rfl,hx,T.o_Ring.cl,T.n_Ring _ (by simp),rfl,?_⟩
 walk_at "s"
 refine ⟨ak,dk,_,rfl,hk1,akM (by trivial),?_⟩
 walk_at "s"
 rw [show (p:Int)+(k:Int)=((p+k:Nat):Int) by omega]
 refine ⟨ak,_,_,_,p,p+k,rfl,hA,by omega,by omega,?_⟩
 walk_at "s"
 exact q3 p k rfl rfl (by omega) (by omega)
def Yv (K:W.Frag) (mg:Str->Option Value):Sp:=fun vs H Q E=>∃ (x:Addr) (side row:Str) (v:V),vs=[.ref x,v]/\Rg mg H x side row/\Kd K H v/\
 (inB v 0 ((row.cps.size:Int) - 1)=false->YM mg H E v)/\(∀ p:Nat,v= .int p->p < row.cps.size->Q (.int (Ay side row p row.cps.size)) H)
theorem xg:aC ["self","place"] ["self","place"] (az mJ):=⟨rfl,rfl,rfl,by trivial,rfl,by trivial,by trivial⟩
theorem bA (T:Txt K mg):kY P w K mg base 9 "Ring" "length" ["self","place"] (Yv K mg):=by
 have bI:=bI (P:=P) (w:=w) (base:=base) T
 refine qW T.m_Ring_length xg (fun _ _ _ _ _ _ us hl=>L2.oW (fun _ _=>rfl) us hl) ?_ fun f cdv A outer s H vs Q E hr h=>?_
 ·rintro vs H Q E ⟨x,side,row,v,rfl,_⟩;rfl
 obtain ⟨x,side,row,v,rfl,hR,kv,q1,q2⟩:=h
 have hu:=hr.units0
 have hu64:=hr.units
 refine ⟨_,(aB (aK (lR (ao 0) T.o_Ring bI (hr.mono (by decide)) aN (aa (ao 1) (aa (aF (aG (K:=K) rfl) aO T.b_len aV (aa (jZ (K:=K) rfl (ao 0)) aj) (by trivial) (by trivial)) aj))))),?_⟩
 walk_at "s"
 obtain ⟨hs,hr',h0,dx,al,ap,h,ak,hx,hA⟩:=id hR
 have hz:20000<=sizeLine:=by decide
 have l2:row.length<=24:=hr'.1
 have e2:row.length=row.cps.size:=rfl
 refine ⟨x,dx,_,rfl,hx,Ka (by trivial),?_⟩
 walk_at "s"
 refine ⟨x,_,dx,_,_,rfl,hx,T.o_Ring.cl,T.n_Ring _ (by simp),rfl,?_⟩
 walk_at "s"
 refine bQ (by omega) ?_
 walk_at "s"
 refine ⟨x,side,row,v,.int (row.cps.size:Int),rfl,hR,kv,.inl ⟨_,rfl⟩,fun hv=>q1 hv,fun _ hu'=>?_,fun p k e1 e2 hp hk=>?_⟩
 walk_at "s"
 ·unfold inB at hu'
  simp at hu'
 ·injection e2 with e2
  have:k=row.cps.size:=by omega
  subst this
  exact q2 p e1 hp
def uv (side row:Str):List Int:=(List.range row.cps.size).map fun p=>Ay side row p row.cps.size
def V3 (mg:Str->Option Value):Sp:=fun vs H Q _=>∃ (x:Addr) (side row:Str),vs=[.ref x]/\Rg mg H x side row/\∀ q H',H q=none->Same H H'->H' q=some (.lst ((uv side row).map V.int))->Q (.ref q) H'
theorem vN:aC ["self"] ["self"] (az iG):=⟨rfl,rfl,rfl,by trivial,rfl,by trivial,by trivial⟩
theorem bZ (T:Txt K mg):kY P w K mg base 10 "Ring" "lengths" ["self"] (V3 mg):=by
 have bA:=bA (P:=P) (w:=w) (base:=base) T
 refine qW T.m_Ring_lengths vN (fun _ _ _ _ _ _ us hl=>L2.ie (fun _=>rfl) us hl) ?_ fun f cdv A outer s H vs Q E hr h=>?_
 ·rintro vs H Q E ⟨x,side,row,rfl,_⟩;rfl
 obtain ⟨x,side,row,rfl,hR,q⟩:=h
 have hu:=hr.units0
 have hu64:=hr.units
 refine ⟨_,(aB (aK (my (sub:=[none,some 0]) (dg (N:=["self"]) (sc:=az iG) (N':=["place","self"]) (by trivial)) rfl rfl rfl (iQ aO T.b_range (aa (aF (aG (K:=K) rfl) aO T.b_len aV (aa (jZ (K:=K) rfl (cC 0)) aj) (by trivial) (by trivial)) aj)) (fun C s₀ H₀ ex=>(vC 0 (by trivial) ug)) (fun C s₀ H₀ ex=>gH) (fun C s₀ H₀ ex=>(pC (mg:=mg) rfl (oR 1 (by trivial)) T.o_Ring bA (hr.mono (by decide)) (mW fun _ _=>rfl) (aa (km 0 (by trivial)) aj)))))),?_⟩
 walk_at "s"
 obtain ⟨hs,hr',h0,dx,al,ap,h,ak,hx,hA⟩:=id hR
 have hz:20000<=sizeLine:=by decide
 have l2:row.length<=24:=hr'.1
 have e2:row.length=row.cps.size:=rfl
 refine ⟨x,_,dx,_,_,rfl,hx,T.o_Ring.cl,T.n_Ring _ (by simp),rfl,?_⟩
 walk_at "s"
 refine bQ (by omega) ?_
 walk_at "s"
 refine ⟨_,rfl,by omega,by omega,?_⟩
 rw [show ((row.length:Int)).toNat=row.cps.size from rfl]
 refine qw (n:=row.cps.size) (fun i=>.int (Ay side row i row.cps.size)) (by omega) ?_ ?_
 ·intro i hi
  walk_at "s"
  refine ⟨KeepSt.set rfl,?_⟩
  walk_at "s"
  refine ⟨x,dx,_,rfl,hx,Ka (by trivial),?_⟩
  walk_at "s"
  rw [show (0:Int)+(i:Int)=i by omega]
  refine ⟨x,side,row,.int i,rfl,hR,.inl ⟨_,rfl⟩,fun hv=>?_,fun p e hp=>?_⟩
  walk_at "s"
  ·unfold inB at hv
   simp at hv
   omega
  ·injection e with e
   have:p=i:=by omega
   subst this
   exact ⟨rfl,nP rfl⟩
 ·intro D H' nD s hD
  try walk_at "s"
  refine q D H' nD s ?_
  rw [hD]
  unfold uv
  rw [Aas];rfl
def Best (ns:List Int) (a b:V):Prop:=∃ M,M∈ns/\(∀ z∈ns,z<=M)/\a= .int M/\b= .int (ns.idxOf M:Nat)
def V4 (mg:Str->Option Value):Sp:=fun vs H Q _=>∃ (x:Addr) (side row:Str),vs=[.ref x]/\Rg mg H x side row/\(∀ z∈uv side row,0<=z/\z < 1000)/\∀ q a b H',Same H H'->Best (uv side row) a b->H' q=some (.tup [a,b])->Q (.ref q) H'
theorem Mx.uni {ns:List Int} {M N:Int} (h1:M∈ns) (h2:∀ z∈ns,z<=M) (h3:N∈ns) (h4:∀ z∈ns,z<=N):N=M:=by
 have:=h2 _ h3
 have:=h4 _ h1
 omega
theorem uh:aC ["self","told"] ["self"] (az pW):=⟨rfl,rfl,rfl,by trivial,rfl,by trivial,by trivial⟩
theorem qe (T:Txt K mg):kY P w K mg base 11 "Ring" "best" ["self"] (V4 mg):=by
 have bZ:=bZ (P:=P) (w:=w) (base:=base) T
 refine qW T.m_Ring_best uh (fun _ _ _ _ _ _ us hl=>L2.ie (fun _=>rfl) us hl) ?_ fun f cdv A outer s H vs Q E hr h=>?_
 ·rintro vs H Q E ⟨x,side,row,rfl,_⟩;rfl
 obtain ⟨x,side,row,rfl,hR,hB,q⟩:=h
 have hu:=hr.units0
 have hu64:=hr.units
 refine ⟨_,(aA (aM (i:=1) uh.nd rfl dj (tW (ao 0) T.o_Ring bZ (hr.mono (by decide)) aN) rfl) (aB (aK (Ca (aa (aF (qt rfl) aO T.b_max zK (aa (ao 1) aj) (by trivial) (by trivial)) (aa (pq (K:=K) rfl Z0 PySem.F.slot_list_index PySem.F.type_list_index Cp (ao 1) (aa (aF (qt rfl) aO T.b_max zK (aa (ao 1) aj) (by trivial) (by trivial)) aj)) aj)))))),?_⟩
 walk_at "s"
 obtain ⟨hs,hr',h0,dx,al,ap,h,ak,hx,hA⟩:=id hR
 have l2:row.length<=24:=hr'.1
 have e2:row.length=row.cps.size:=rfl
 have hne:uv side row≠[]:=fun z=>h0 (by have:=congrArg List.length z;unfold uv at this;simpa using this)
 have hl:(uv side row).length=row.cps.size:=by unfold uv;simp
 refine ⟨x,dx,_,rfl,hx,Ka (by trivial),?_⟩
 walk_at "s"
 refine ⟨x,side,row,rfl,hR,fun d H1 nd S1 hd=>?_⟩
 walk_at "s"
 refine Ey hd hne fun M hM hMM=>?_
 walk_at "s"
 refine ⟨.inl ⟨rfl,_,SqL.of hd⟩,?_⟩
 walk_at "s"
 refine Ey hd hne fun N hN hNN=>?_
 walk_at "s"
 have e:=Mx.uni hM hMM hN hNN
 subst e
 refine GZ hd (by omega) hB hN ?_
 walk_at "s"
 refine cG rfl fun p H2 np S2 hp=>?_
 walk_at "s"
 exact q p _ _ H2 (S1.trans S2) ⟨_,hN,hNN,rfl,rfl⟩ hp
end
mutual
def gA (m:Nat) (C:Nat->Nat->Bool) (i:Nat):Nat->Nat
 | 0=>m - 1 - i
 | j+1=>if C i j=true then gD m C j i else gA m C i j
termination_by j=>i+j
def gD (m:Nat) (C:Nat->Nat->Bool) (j:Nat):Nat->Nat
 | 0=>m+j
 | i+1=>if C i j=true then gA m C i j else gD m C j i
termination_by i=>i+j
end
section
variable {m:Nat} {C:Nat->Nat->Bool}
theorem um (i:Nat):gA m C i 0=m - 1 - i:=by rw [gA]
theorem uo (i j:Nat):gA m C i (j+1)=if C i j=true then gD m C j i else gA m C i j:=by rw [gA]
theorem vZ (j:Nat):gD m C j 0=m+j:=by rw [gD]
theorem qH (i j:Nat):gD m C j (i+1)=if C i j=true then gA m C i j else gD m C j i:=by rw [gD]
end
def Rule (m far:Nat) (e:Nat->Nat->Bool) (C:Nat->Nat->Bool):Prop:=∀ i j,i < m->j < far->C i j=(e i j || decide (gD m C j i < gA m C i j))
theorem uq {m:Nat} {C:Nat->Nat->Bool}:∀ n i j,i+j<=n->(i<=m->gD m C j i<=m+j)/\(i < m->gA m C i j < m+j)
 | n,0,0,_=>by rw [vZ,um];omega
 | 0,0,j+1,h=>absurd h (by omega)
 | 0,i+1,j,h=>absurd h (by omega)
 | n+1,0,j+1,h=>by
  have h1:=uq (m:=m) (C:=C) n 0 j (by omega)
  refine ⟨fun _=>by rw [vZ];omega,fun hi=>?_⟩
  rw [uo]
  have a:=h1.1 (by omega)
  have b:=h1.2 hi
  split <;> omega
 | n+1,i+1,0,h=>by
  have h1:=uq (m:=m) (C:=C) n i 0 (by omega)
  refine ⟨fun hi=>?_,fun hi=>by rw [um];omega⟩
  rw [qH]
  have a:=h1.1 (by omega)
  have b:=h1.2 (by omega)
  split <;> omega
 | n+1,i+1,j+1,h=>by
  have h1:=uq (m:=m) (C:=C) n (i+1) j (by omega)
  have h2:=uq (m:=m) (C:=C) n i (j+1) (by omega)
  refine ⟨fun hi=>?_,fun hi=>?_⟩
  ·rw [qH]
   have a:=h2.1 (by omega)
   have b:=h2.2 (by omega)
   split <;> omega
  ·rw [uo]
   have a:=h1.1 (by omega)
   have b:=h1.2 hi
   split <;> omega
def cn (m:Nat) (C:Nat->Nat->Bool) (i B:Nat):Nat->Nat
 | 0=>0
 | e+1=>cn m C i B e+(if B<=gD m C e i then 1 else 0)
theorem HD {m:Nat} {C:Nat->Nat->Bool} {i B:Nat} (hB:m<=B) (hi:i < m):∀ e,cn m C (i+1) B e+(if B<=gA m C i e then 1 else 0)=cn m C i B e
 | 0=>by
  show 0+_=0
  rw [um,if_neg (by omega)]
 | e+1=>by
  have ih:=HD (C:=C) hB hi e
  show cn m C (i+1) B e+(if B<=gD m C e (i+1) then 1 else 0)+(if B<=gA m C i (e+1) then 1 else 0)=cn m C i B e+(if B<=gD m C e i then 1 else 0)
  rw [qH,uo]
  by_cases hC:C i e=true
  ·rw [if_pos hC,if_pos hC];omega
  ·rw [if_neg hC,if_neg hC];omega
theorem Az {m:Nat} {C:Nat->Nat->Bool} {i b:Nat} (hi:i<=m):∀ e,e<=b->cn m C i (m+b) e=0
 | 0,_=>rfl
 | e+1,h=>by
  show cn m C i (m+b) e+_=0
  have:=(uq (m:=m) (C:=C) (i+e) i e (YZ _)).1 hi
  rw [Az hi e (by omega),if_neg (by omega)]
theorem Dq {m:Nat} {C:Nat->Nat->Bool} {B:Nat} (b:Nat) (hB:B=m+b):∀ k,cn m C 0 B (b+k)=k
 | 0=>by rw [hB];exact Az (by omega) b (YZ _)
 | k+1=>by
  show cn m C 0 B (b+k)+(if B<=gD m C (b+k) 0 then 1 else 0)=k+1
  rw [Dq b hB k,vZ,if_pos (by omega)]
def Wv (i j:Int):Int:=if j > i then j else i
def tb (e:Nat->Nat->Bool) (b:Nat):Nat->Nat->Int
 | 0,_=>0
 | _+1,0=>0
 | i+1,k+1=>if e i (b+k)=true then tb e b i k+1 else Wv (tb e b (i+1) k) (tb e b i (k+1))
termination_by i k=>i+k
theorem Ot (e:Nat->Nat->Bool) (b k:Nat):tb e b 0 k=0:=by rw [tb]
theorem Ou (e:Nat->Nat->Bool) (b i:Nat):tb e b i 0=0:=by cases i <;> rw [tb]
theorem J5 (e:Nat->Nat->Bool) (b i k:Nat):tb e b (i+1) (k+1)=if e i (b+k)=true then tb e b i k+1 else Wv (tb e b (i+1) k) (tb e b i (k+1)):=by rw [tb]
theorem ur {m far:Nat} {e C:Nat->Nat->Bool} (h:Rule m far e C) (b:Nat):∀ i,i<=m->∀ k,b+k<=far->tb e b i k+(cn m C i (m+b) (b+k):Nat)=k
 | 0,_,k,_=>by rw [Ot,Dq b rfl];omega
 | i+1,hi,0,_=>by
  rw [Ou,Az hi _ (by omega)];rfl
 | i+1,hi,k+1,hk=>by
  have h1:=ur h b i (by omega) k (by omega)
  have h2:=ur h b i (by omega) (k+1) hk
  have h3:=ur h b (i+1) hi k (by omega)
  have r:=h i (b+k) (by omega) (by omega)
  have kp:=HD (m:=m) (C:=C) (i:=i) (B:=m+b) (by omega) (by omega) (b+k)
  rw [J5]
  have e2:cn m C i (m+b) (b+(k+1))=cn m C i (m+b) (b+k)+(if m+b<=gD m C (b+k) i then 1 else 0):=rfl
  have e3:cn m C (i+1) (m+b) (b+(k+1))=cn m C (i+1) (m+b) (b+k)+(if m+b<=gD m C (b+k) (i+1) then 1 else 0):=rfl
  rw [e2] at h2
  rw [e3,qH]
  by_cases he:e i (b+k)=true
  ·rw [he,Bool.true_or] at r
   rw [if_pos he,if_pos r]
   omega
  ·have he':e i (b+k)=false:=by simpa using he
   rw [he',Bool.false_or] at r
   rw [if_neg he]
   by_cases hg:gD m C (b+k) i < gA m C i (b+k)
   ·have hC:C i (b+k)=true:=by rw [r];exact Y7 hg
    rw [if_pos hC]
    unfold Wv
    by_cases c1:m+b<=gA m C i (b+k)
    ·rw [if_pos c1] at kp ⊢
     by_cases c2:m+b<=gD m C (b+k) i
     ·rw [if_pos c2] at h2
      split <;> omega
     ·rw [if_neg c2] at h2
      split <;> omega
    ·rw [if_neg c1] at kp ⊢
     rw [if_neg (by omega)] at h2
     split <;> omega
   ·have hC:¬ C i (b+k)=true:=by rw [r,Zc hg];decide
    rw [if_neg hC]
    unfold Wv
    by_cases c2:m+b<=gD m C (b+k) i
    ·rw [if_pos c2] at h2 ⊢
     by_cases c1:m+b<=gA m C i (b+k)
     ·rw [if_pos c1] at kp
      split <;> omega
     ·rw [if_neg c1] at kp
      split <;> omega
    ·rw [if_neg c2] at h2 ⊢
     rw [if_neg (by omega)] at kp
     split <;> omega
theorem HF {e e':Nat->Nat->Bool} {b b' m n:Nat} (h:∀ i k,i < m->k < n->e i (b+k)=e' i (b'+k)):∀ i,i<=m->∀ k,k<=n->tb e b i k=tb e' b' i k
 | 0,_,k,_=>by rw [Ot,Ot]
 | i+1,hi,0,_=>by rw [Ou,Ou]
 | i+1,hi,k+1,hk=>by
  rw [J5,J5,HF h i (by omega) k (by omega),HF h (i+1) hi k (by omega),HF h i (by omega) (k+1) hk,h i k (by omega) (by omega)]
theorem FJ {t:List Nat} (hn:t.Nodup) {l q B:Nat} (h:t[l]?=some q):(t.drop B).count q=if B<=l then 1 else 0:=by
 have hd:(t.drop B).Nodup:=hn.sublist (List.drop_sublist B t)
 by_cases hB:B<=l
 ·rw [if_pos hB]
  have hm:q∈t.drop B:=Zd (i:=l - B) (by rw [AaA,show B+(l - B)=l by omega];exact h)
  have h1:=List.nodup_iff_count.mp hd q
  have h2:=List.count_pos_iff.mpr hm
  omega
 ·rw [if_neg hB]
  refine List.count_eq_zero.mpr fun hm=>?_
  obtain ⟨i,hi⟩:=List.getElem?_of_mem hm
  rw [AaA] at hi
  have e1:=dz hn h
  have e2:=dz hn hi
  omega
theorem xX (u:List Nat) (q:Nat):u.countP (fun x=>decide (x < q+1))=u.countP (fun x=>decide (x < q))+u.count q:=by
 induction u with
 | nil=>rfl
 | cons x u ih=>
  rw [List.countP_cons,List.countP_cons,List.count_cons,ih]
  by_cases h1:x < q
  ·have:x < q+1:=by omega
   have:¬ x=q:=by omega
   simp [*];omega
  ·by_cases h2:x=q
   ·subst h2
    simp;omega
   ·have:¬ x < q+1:=by omega
    simp [*]
def cA (m far:Nat) (e:Nat->Nat->Bool) (i j:Nat):Bool:=e i j || decide ((stE m far e i j).getD (m - i+j) 0 < (stE m far e i j).getD (m - 1 - i+j) 0)
structure Gd (m far:Nat) (e:Nat->Nat->Bool) (i j:Nat):Prop where
 ln:gA m (cA m far e) i j=(stE m far e i j).getD (m - 1 - i+j) 0
 lo:∀ k,k < j->gD m (cA m far e) k (i+1)=(stE m far e i j).getD (m - 1 - i+k) 0
 hi:∀ k,j<=k->k < far->gD m (cA m far e) k i=(stE m far e i j).getD (m - i+k) 0
theorem Ry {m far:Nat} {e:Nat->Nat->Bool} {i j:Nat} (hn:m+far<=96) (hi:i < m) (hj:j < far) (w:Gd m far e i j):Gd m far e i (j+1):=by
 have hP:=Ht (e:=e) hn (.inl ⟨hi,Nat.le_of_lt hj⟩)
 have hl:=Hu m far e i j
 have h2:=w.hi j (YZ _) hj
 by_cases hc:cA m far e i j=true
 ·have eE:stE m far e i (j+1)=stE m far e i j:=by
   rw [Df]
   split
   ·rfl
   ·rename_i hne
    unfold cA at hc
    have hlt:=AaV ((Bool.or_eq_true _ _ ▸ hc).resolve_left hne)
    unfold aQ
    rw [if_neg]
    unfold qX
    rw [show m - 1 - i+j+1=m - i+j by omega]
    simp only [decide_eq_true_eq]
    omega
  refine ⟨?_,fun k hk=>?_,fun k hk hk2=>?_⟩
  ·rw [uo,if_pos hc,eE,h2,show m - 1 - i+(j+1)=m - i+j by omega]
  ·rw [eE]
   by_cases e1:k=j
   ·subst e1
    rw [qH,if_pos hc];exact w.ln
   ·exact w.lo k (by omega)
  ·rw [eE];exact w.hi k (by omega) hk2
 ·have hcF:cA m far e i j=false:=by simpa using hc
  unfold cA at hcF
  obtain ⟨h3,h4⟩:=AaG.mp hcF
  have h4:=of_decide_eq_false h4
  have hne:(stE m far e i j).getD (m - 1 - i+j) 0≠(stE m far e i j).getD (m - i+j) 0:=fun z=>by
   have:=Aa (n:=m+far) (by have:=hP.pm;rw [hl] at this;exact this) (by omega) (by omega) z
   omega
  have hw:qX (stE m far e i j) (m - 1 - i+j)=true:=by
   unfold qX
   rw [show m - 1 - i+j+1=m - i+j by omega]
   simp only [decide_eq_true_eq]
   omega
  have eE:stE m far e i (j+1)=aQ (stE m far e i j) (m - 1 - i+j):=by rw [Df,h3];rfl
  obtain ⟨s1,s2⟩:=Rm (by rw [hl];omega) hw
  refine ⟨?_,fun k hk=>?_,fun k hk hk2=>?_⟩
  ·rw [uo,if_neg hc,eE,show m - 1 - i+(j+1)=m - 1 - i+j+1 by omega,s2];exact w.ln
  ·rw [eE]
   by_cases e1:k=j
   ·subst e1
    rw [qH,if_neg hc,s1,show m - 1 - i+k+1=m - i+k by omega];exact h2
   ·rw [step_get (.inl (by omega))]
    exact w.lo k (by omega)
  ·rw [eE,step_get (.inr (by omega))]
   exact w.hi k (by omega) hk2
theorem Ba {m far:Nat} {e:Nat->Nat->Bool} {i:Nat} (hn:m+far<=96) (hi:i < m) (h:Gd m far e i 0):∀ j,j<=far->Gd m far e i j
 | 0,_=>h
 | j+1,hj=>Ry hn hi (by omega) (Ba hn hi h j (by omega))
theorem FN {m far:Nat} {e:Nat->Nat->Bool} (hn:m+far<=96):∀ i,i<=m->∀ k,k < far->gD m (cA m far e) k i=(stE m far e i 0).getD (m - i+k) 0
 | 0,_,k,hk=>by
  rw [vZ,Oh,YT,Zi (by omega)];rfl
 | i+1,hi,k,hk=>by
  have ih:=FN (e:=e) hn i (by omega)
  have g0:Gd m far e i 0:=⟨by rw [um,Nat.add_zero,Hv (by omega) (.inr ⟨rfl,rfl⟩)],fun k hk=>absurd hk (Nat.not_lt_zero _),fun k _ hk=>ih k hk⟩
  rw [(Ba hn (by omega) g0 far (YZ _)).lo k hk,Rj,show m - (i+1)+k=m - 1 - i+k by omega]
theorem Rz {m far:Nat} {e:Nat->Nat->Bool} (hn:m+far<=96):Rule m far e (cA m far e):=fun i j hi hj=>by
 have g0:Gd m far e i 0:=⟨by rw [um,Nat.add_zero,Hv hi (.inr ⟨rfl,rfl⟩)],fun k hk=>absurd hk (Nat.not_lt_zero _),fun k _ hk=>FN hn i (by omega) k hk⟩
 have g:=Ba hn hi g0 j (by omega)
 rw [g.hi j (YZ _) hj,g.ln]
 rfl
theorem Yw {m far:Nat} {e:Nat->Nat->Bool} (hn:m+far<=96) {p:Nat} (hp:p < far):(LN m far e)[gD m (cA m far e) p m]?=some p:=by
 have hP:=Ht (m:=m) (far:=far) (e:=e) hn (.inr ⟨YZ m,rfl⟩)
 have hl:=Hu m far e m 0
 rw [FN hn m (YZ _) p hp,Aa8,Nat.zero_add]
 unfold LN
 rw [← Rk]
 have hx:=hP.lt (Zd (getD_some (B:=stE m far e m 0) (i:=p) (by omega)))
 rw [getD_some (by rw [bD];exact hx),QZ hP (by omega)]
theorem Ov {m far:Nat} {C:Nat->Nat->Bool} {t:List Nat} (hn:t.Nodup) (ht:∀ p,p < far->t[gD m C p m]?=some p) (B:Nat):∀ q,q<=far->Fy t B q=cn m C m B q
 | 0,_=>by unfold Fy cn;simp
 | q+1,h=>by
  have ih:=Ov hn ht B q (by omega)
  unfold Fy at ih ⊢
  rw [xX,ih,FJ hn (ht q (by omega))]
  rfl
theorem Sw {m far:Nat} {e:Nat->Nat->Bool} (hm:m+far<=96) {c d:Nat} (hc:c<=d) (hd:d<=far):rk (LN m far e) m 0 m c d=tb e c m (d - c):=by
 have h1:=ur (Rz (e:=e) hm) c m (YZ _) (d - c) (by omega)
 rw [show c+(d - c)=d by omega] at h1
 unfold rk
 rw [Nat.sub_zero,Aa8,Nat.zero_add,Ov (uK hm).nd (fun p hp=>Yw hm hp) _ _ hd]
 omega
theorem HH (e:Nat->Nat->Bool) (b:Nat):∀ i k,0<=tb e b i k/\tb e b i k<=k
 | 0,k=>by rw [Ot];omega
 | i+1,0=>by rw [Ou];omega
 | i+1,k+1=>by
  have h1:=HH e b i k
  have h2:=HH e b (i+1) k
  have h3:=HH e b i (k+1)
  rw [J5]
  unfold Wv
  split
  ·omega
  ·split <;> omega
section
variable {P:Program} {w:World} {K:W.Frag} {mg:Str->Option Value} {base:Heap}
def V5 (K:W.Frag):Sp:=fun vs H Q _=>∃ (a:Addr) (ns:List Int) (k:Int),vs=[.ref a,.int k]/\SqL K H a (ns.map V.int)/\0<=k/\∀ n,Q (.int n) H
theorem xj:aC ["_law_script","_law_k"] ["_law_script","_law_k"] (az mF):=⟨rfl,rfl,rfl,by trivial,rfl,by trivial,by trivial⟩
theorem gG (T:Txt K mg):Has P w K mg base 1 "_law_cell_at" ["_law_script","_law_k"] (V5 K):=by
 refine cz T.d_law_cell_at xj (fun _ _ _ _ _ _ us hl=>L2.oW (fun _ _=>rfl) us hl) ?_ fun f cdv A outer s H vs Q E hr h=>?_
 ·rintro vs H Q E ⟨a,ns,k,rfl,_⟩;rfl
 obtain ⟨a,ns,k,rfl,hS,h0,q⟩:=h
 have hu:=hr.units0
 have hu64:=hr.units
 refine ⟨_,(aA (bK (bJ yg (ao 1) (aF (aG (K:=K) rfl) aO T.b_len aV (aa (ao 0) aj) (by trivial) (by trivial)) (by walk_at "p")) (aB (aK (iu (K:=K) rfl (ao 0) (ao 1)))) bx) (aB (aK aH))),?_⟩
 walk_at "s"
 refine bM hS ?_
 walk_at "s"
 refine rK (fun hk=>?_) (fun hk=>?_)
 ·rw [Zf] at hk
  walk_at "s"
  refine bG hS (Gn (v:=.int (ns.getD k.toNat 0)) h0 ?_) (q _)
  rw [Y8,YT,YX (by omega)];rfl
 ·walk_at "s"
  exact q _
def YQ (n:Nat):Nat:=(Str.ofString "abcdefghijklmnopqrstuvwxyz").cps.toList.getD n 0
theorem Yx:∀ n∈List.range 26,97<=YQ n/\YQ n < 123:=by trivial
def Yy:Sp:=fun vs H Q _=>∃ n:Int,vs=[.int n]/\∀ c,97<=c->c < 123->Q (.str ⟨#[c]⟩) H
theorem xY:aC ["_law_number_here"] ["_law_number_here"] (az oA):=⟨rfl,rfl,rfl,by trivial,rfl,by trivial,by trivial⟩
theorem d9 (T:Txt K mg):Has P w K mg base 1 "_law_letter" ["_law_number_here"] Yy:=by
 refine cz T.d_law_letter xY (fun _ _ _ _ _ _ us hl=>L2.ie (fun _=>rfl) us hl) ?_ fun f cdv A outer s H vs Q E hr h=>?_
 ·rintro vs H Q E ⟨n,rfl,_⟩;rfl
 obtain ⟨n,rfl,q⟩:=h
 have hu:=hr.units0
 have hu64:=hr.units
 refine ⟨_,(aB (aK (iu (K:=K) rfl oU (aY iM (ao 0) aH)))),?_⟩
 walk_at "s"
 have hl:(Str.ofString "abcdefghijklmnopqrstuvwxyz").cps.toList.length=26:=by trivial
 have hk:=Yx (n % 26).toNat (Zj.mpr (by omega))
 refine RZ (c:=YQ (n % 26).toNat) (by trivial) ?_ (q _ hk.1 hk.2)
 refine Gn (by omega) ?_
 have hi:(n % 26).toNat < (Str.ofString "abcdefghijklmnopqrstuvwxyz").cps.toList.length:=by rw [hl];omega
 unfold YQ
 rw [YT,YX hi];rfl
def RB:Sp:=fun vs H Q _=>∃ n:Int,vs=[.int n]/\∀ m:Int,Q (.int m) H
theorem eN:aC ["_law_cell","_law_found","_law_number_here","_law_k"] ["_law_cell"] (az pQ):=⟨rfl,rfl,rfl,by trivial,rfl,by trivial,by trivial⟩
theorem qg (T:Txt K mg):Has P w K mg base 1 "_law_great" ["_law_cell"] RB:=by
 refine cz T.d_law_great eN (fun _ _ _ _ _ _ us hl=>L2.ie (fun _=>rfl) us hl) ?_ fun f cdv A outer s H vs Q E hr h=>?_
 ·rintro vs H Q E ⟨n,rfl,_⟩;rfl
 obtain ⟨n,rfl,q⟩:=h
 have hu:=hr.units0
 have hu64:=hr.units
 refine ⟨_,(aA (bK (bJ RT (ao 0) (aY T8 aH aH) (by walk_at "p")) (aB (aK (ao 0))) bx) (aA (aM (i:=1) eN.nd rfl dj aH rfl) (aA (aM (i:=2) eN.nd rfl dj (aY aR (aY iM (ao 0) aH) aH) rfl) (aA (iR ZS rfl (iQ aO T.b_range (aa aH aj)) (cY (i:=3) eN.nd rfl dj rfl) (aA (aM (i:=2) eN.nd rfl dj (aY iM (aY aR (aY aR (aY nG (ao 2) (ao 2)) (aY nG aH (ao 2))) (ao 3)) aH) rfl) (aB (aM (i:=1) eN.nd rfl dj (aY aR (aY nG (ao 1) aH) (aY iM (aY nG (ao 2) aH) aH)) rfl)))) (aB (aK (ao 1))))))),?_⟩
 walk_at "s"
 refine rK (fun h1=>?_) (fun h1=>?_)
 ·walk_at "s"
  exact q _
 ·walk_at "s"
  refine ⟨8,rfl,by decide,by decide,?_⟩
  refine ql (lo:=0) (n:=8) (fun k U H'=>∃ (f m:Int) (x:Option V),H'=H/\0<=m/\m < 2147500000/\U=[some (.int n),some (.int f),some (.int m),x]) ⟨0,n % 2147483647+12345,none,rfl,by omega,by omega,rfl⟩ ?_ ?_
  ·rintro i U H' hi ⟨f,m,x,rfl,h1,h2,rfl⟩
   walk_at "s"
   refine ⟨_,_,_,rfl,?_,?_,rfl⟩
   ·omega
   ·omega
  ·rintro U H' ⟨f,m,x,rfl,h1,h2,rfl⟩
   walk_at "s"
   exact q _
theorem Pln.nil:Pln (Str.ofString ""):=⟨by trivial,fun c hc=>by revert c;trivial⟩
theorem Pln.push {z:Str} {c:Nat} (h:∀ c∈z.cps.toList,97<=c/\c < 123) (h1:97<=c) (h2:c < 123):∀ d∈(z ++ (⟨#[c]⟩:Str)).cps.toList,97<=d/\d < 123:=fun d hd=>by
 rw [cps_append] at hd
 rcases Z4.mp hd with g | g
 ·exact h d g
 ·simp at g;subst g;exact ⟨h1,h2⟩
theorem RC (d:Int) (h0:0<=d) (h1:d < 6):∃ w:Int,xF ([.int 1,.int 2,.int 2,.int 3,.int 4,.int 26]:List V) d=some (.int w)/\0 < w/\w<=26:=by
 obtain ⟨n,rfl⟩:∃ n:Nat,d=n:=⟨d.toNat,by omega⟩
 have hn:n=0\/n=1\/n=2\/n=3\/n=4\/n=5:=by omega
 rcases hn with rfl | rfl | rfl | rfl | rfl | rfl
 ·exact ⟨1,rfl,by decide,by decide⟩
 ·exact ⟨2,rfl,by decide,by decide⟩
 ·exact ⟨2,rfl,by decide,by decide⟩
 ·exact ⟨3,rfl,by decide,by decide⟩
 ·exact ⟨4,rfl,by decide,by decide⟩
 ·exact ⟨26,rfl,by decide,by decide⟩
def V6:Sp:=fun vs H Q _=>∃ (n:Int),vs=[.int n,.int 24]/\∀ z H',Same H H'->Pln z->Q (.str z) H'
theorem bN:aC ["_law_cell","_law_most","_law_number_here","_law_many","_law_wide","_law_first","_law_row_here","_law_k"] ["_law_cell","_law_most"] (az uN):=⟨rfl,rfl,rfl,by trivial,rfl,by trivial,by trivial⟩
theorem j9 (T:Txt K mg):Has P w K mg base 2 "_law_row" ["_law_cell","_law_most"] V6:=by
 have qg:=qg (P:=P) (w:=w) (base:=base) T
 have d9:=d9 (P:=P) (w:=w) (base:=base) T
 refine cz T.d_law_row bN (fun _ _ _ _ _ _ us hl=>L2.oW (fun _ _=>rfl) us hl) ?_ fun f cdv A outer s H vs Q E hr h=>?_
 ·rintro vs H Q E ⟨n,rfl,_⟩;rfl
 obtain ⟨n,rfl,q⟩:=h
 have hu:=hr.units0
 have hu64:=hr.units
 refine ⟨_,(aA (aM (i:=2) bN.nd rfl dj (aJ qg (hr.mono (by decide)) aO (aa (ao 0) aj) (by trivial)) rfl) (aA (aM (i:=3) bN.nd rfl dj (aY iM (ao 2) aH) rfl) (aA (bK (bJ (dw (K:=K) rfl hu64) (aY iM (aY jf (ao 2) aH) aH) aH (by walk_at "p")) (aB (aM (i:=3) bN.nd rfl dj (aY iM (aY jf (ao 2) aH) (aY aR (ao 1) aH)) rfl)) bx) (aA (aM (i:=2) bN.nd rfl dj (aY jf (ao 2) aH) rfl) (aA (aM (i:=4) bN.nd rfl dj (iu (K:=K) rfl (jm (aa aH (aa aH (aa aH (aa aH (aa aH (aa aH aj))))))) (aY iM (ao 2) aH)) rfl) (aA (aM (i:=5) bN.nd rfl dj (aY jf (ao 2) aH) rfl) (aA (aM (i:=2) bN.nd rfl dj (aY jf (ao 5) aH) rfl) (aA (aM (i:=6) bN.nd rfl dj oU rfl) (aA (iR ZS rfl (iQ aO T.b_range (aa (ao 3) aj)) (cY (i:=7) bN.nd rfl dj rfl) (aA (aM (i:=6) bN.nd rfl dj (aY aR (ao 6) (aJ d9 (hr.mono (by decide)) aO (aa (aY aR (aY iM (ao 5) aH) (aY iM (ao 2) (ao 4))) aj) (by trivial))) rfl) (aB (aM (i:=2) bN.nd rfl dj (aY jf (ao 2) (ao 4)) rfl)))) (aB (aK (ao 6)))))))))))),?_⟩
 walk_at "n"
 with_reducible refine oO ?_
 walk_at "n"
 refine ⟨_,rfl,fun m=>?_⟩
 walk_at "n"
 with_reducible refine oO ?_
 walk_at "n"
 with_reducible refine MF (fun U H1=>∃ k:Nat,k<=24/\H1=H/\U=[some (.int n),some (.int 24),some (.int m),some (.int k),none,none,none,none]) ?_ ?_
 rotate_left
 ·intro N hN
  walk_at "n"
  refine rK (fun h3=>?_) (fun h3=>?_)
  ·walk_at "n"
   exact hN _ _ ⟨(m / 72 % 25).toNat,by omega,rfl,by rw [Int.toNat_of_nonneg (by omega)];rfl⟩
  ·walk_at "n"
   exact hN _ _ ⟨(m % 9).toNat,by omega,rfl,by rw [Int.toNat_of_nonneg (by omega)];rfl⟩
 ·rintro U H1 ⟨k,hk,rfl,rfl⟩
  walk_at "s"
  refine cG rfl fun p2 H2 n2 S2 h2=>?_
  walk_at "s"
  obtain ⟨w,ew,hw0,hw1⟩:=RC (m / 1800 % 6) (by omega) (by omega)
  refine bG (SqL.of h2) ew ?_
  walk_at "s"
  refine ⟨k,rfl,by omega,by omega,?_⟩
  refine ql (lo:=0) (n:=k) (fun i U H'=>∃ (z:Str) (j f:Int) (x:Option V),H'=H2/\(∀ c∈z.cps.toList,97<=c/\c < 123)/\z.length=i/\U=[some (.int n),some (.int 24),some (.int j),some (.int k),some (.int w),some (.int f),some (.str z),x]) ⟨_,_,_,_,rfl,Pln.nil.2,by trivial,rfl⟩ ?_ ?_
  ·rintro i U H' hi ⟨z,j,f,x,rfl,hR,hl,rfl⟩
   have s1000:1000<=sizeLine:=by decide
   walk_at "s"
   refine ⟨_,rfl,fun c hc1 hc2=>?_⟩
   walk_at "s"
   refine uA (by rw [Lr];omega) ?_
   walk_at "s"
   refine ⟨_,_,_,_,rfl,Pln.push hR hc1 hc2,?_,rfl⟩
   have:=gC z ⟨#[c]⟩
   show (z ++ (⟨#[c]⟩:Str)).cps.size=i+1
   rw [this,show z.cps.size=z.length from rfl,hl];rfl
  ·rintro U H' ⟨z,j,f,x,rfl,hR,hl,rfl⟩
   walk_at "s"
   exact q z H' S2 ⟨by omega,hR⟩
theorem Pln.one {c:Nat} (h1:97<=c) (h2:c < 123):Pln ⟨#[c]⟩:=⟨by rw [Lr];omega,fun d hd=>by simp at hd;subst hd;exact ⟨h1,h2⟩⟩
def RD:Sp:=fun vs H Q _=>∃ (n:Int),vs=[.int n]/\∀ z H',Same H H'->Pln z->z.cps.size≠0->Q (.str z) H'
theorem ut:aC ["_law_cell","_law_row_here"] ["_law_cell"] (az pR):=⟨rfl,rfl,rfl,by trivial,rfl,by trivial,by trivial⟩
theorem qi (T:Txt K mg):Has P w K mg base 3 "_law_round" ["_law_cell"] RD:=by
 have j9:=j9 (P:=P) (w:=w) (base:=base) T
 have d9:=d9 (P:=P) (w:=w) (base:=base) T
 refine cz T.d_law_round ut (fun _ _ _ _ _ _ us hl=>L2.ie (fun _=>rfl) us hl) ?_ fun f cdv A outer s H vs Q E hr h=>?_
 ·rintro vs H Q E ⟨n,rfl,_⟩;rfl
 obtain ⟨n,rfl,q⟩:=h
 have hu:=hr.units0
 have hu64:=hr.units
 refine ⟨_,(aA (aM (i:=1) ut.nd rfl dj (aJ j9 (hr.mono (by decide)) aO (aa (ao 0) (aa aH aj)) (by trivial)) rfl) (aA (bK (bJ (dw (K:=K) rfl hu64) (ao 1) oU (by walk_at "p")) (aB (aK (aJ d9 (hr.mono (by decide)) aO (aa (ao 0) aj) (by trivial)))) bx) (aB (aK (ao 1))))),?_⟩
 walk_at "s"
 refine ⟨n,rfl,fun z H1 S1 hz=>?_⟩
 walk_at "s"
 refine rK (fun h=>?_) (fun h=>?_)
 ·walk_at "s"
  refine ⟨_,rfl,fun c h1 h2=>?_⟩
  walk_at "s"
  exact q _ H1 S1 (Pln.one h1 h2) (by show 1≠0;decide)
 ·walk_at "s"
  exact q z H1 S1 hz fun e=>h (by rw [qG.mpr e])
theorem RG (k:Nat) (n:Int):(List.replicate k [V.int n]).flatten=(List.replicate k n).map V.int:=by
 induction k with
 | zero=>rfl
 | succ k ih=>rw [Z7,AaD,ih,Z7,ZP];rfl
def Ow (S P:List Nat) (i k:Nat):Bool:=decide (S.getD i 0=P.getD k 0)
def lH (S P:List Nat) (i n:Nat):List Int:=(List.range n).map (tb (Ow S P) 0 i)
theorem Ds (S P:List Nat) (i n:Nat):(lH S P i n).length=n:=by simp [lH]
theorem RJ {S P:List Nat} {i n k:Nat} (h:k < n):(lH S P i n)[k]?=some (tb (Ow S P) 0 i k):=by
 unfold lH
 rw [Y8,Zi h];rfl
theorem Bb {S P:List Nat} {i n k:Nat} {j:Int} (hj:j=(k:Int)) (h:k < n):xF ((lH S P i n).map V.int) j=some (.int (tb (Ow S P) 0 i k)):=by
 subst hj
 exact jg (by rw [Y8,RJ h];rfl)
theorem J6 (S P:List Nat) (i n:Nat):lH S P i (n+1)=lH S P i n ++ [tb (Ow S P) 0 i n]:=by
 unfold lH
 rw [AaQ,Zy];rfl
theorem V7 (S P:List Nat) (n:Nat):lH S P 0 n=List.replicate n 0:=by
 unfold lH
 rw [List.eq_replicate_iff]
 refine ⟨by simp,fun b hb=>?_⟩
 obtain ⟨k,_,rfl⟩:=ZD.mp hb
 exact Ot _ _ _
theorem Dt {z:Str} {i:Nat} (h:i < z.length):z.cps.toList[i]?=some (z.cps.toList.getD i 0):=by
 have h':i < z.cps.toList.length:=by simpa [Str.length] using h
 rw [YT,YX h'];rfl
theorem Ox {z:Str} {i:Nat} (h:i < z.cps.size):z.cps.toList.getD i 0=z.cps.getD i 0:=by simp [Array.getD,YT,h]
def V8:Sp:=fun vs H Q _=>∃ (z y:Str),vs=[.str z,.str y]/\z.length<=24/\y.length<=24/\∀ q H',H q=none->Same H H'->H' q=some (.lst ((lH z.cps.toList y.cps.toList z.length (y.length+1)).map V.int))->Q (.ref q) H'
theorem g8:aC ["_law_side","_law_top","_law_row_here","_law_sign","_law_below","_law_j"] ["_law_side","_law_top"] (az sH):=⟨rfl,rfl,rfl,by trivial,rfl,by trivial,by trivial⟩
theorem oN (T:Txt K mg):Has P w K mg base 1 "_law_last" ["_law_side","_law_top"] V8:=by
 refine cz T.d_law_last g8 (fun _ _ _ _ _ _ us hl=>L2.oW (fun _ _=>rfl) us hl) ?_ fun f cdv A outer s H vs Q E hr h=>?_
 ·rintro vs H Q E ⟨z,y,rfl,_⟩;rfl
 obtain ⟨z,y,rfl,hz48,hy48,q⟩:=h
 have hu:=hr.units0
 have hu64:=hr.units
 refine ⟨_,(aA (aM (i:=2) g8.nd rfl dj (aY nG (jm (aa aH aj)) (aY aR (aF (aG (K:=K) rfl) aO T.b_len aV (aa (ao 1) aj) (by trivial) (by trivial)) aH)) rfl) (aA (iR ZS rfl (iw (K:=K) rfl (ao 0)) (cY (i:=3) g8.nd rfl dj rfl) (aA (aM (i:=4) g8.nd rfl dj (jm (aa aH aj)) rfl) (aA (iR ZS rfl (iQ aO T.b_range (aa (aF (aG (K:=K) rfl) aO T.b_len aV (aa (ao 1) aj) (by trivial) (by trivial)) aj)) (cY (i:=5) g8.nd rfl dj rfl) (aB (bK (bJ (dw (K:=K) rfl hu64) (ao 3) (iu (K:=K) rfl (ao 1) (ao 5)) (by walk_at "p")) (aB (aU (pq (K:=K) rfl Z0 Aab Aac j8 (ao 4) (aa (aY aR (iu (K:=K) rfl (ao 2) (ao 5)) aH) aj)))) (aB (aU (pq (K:=K) rfl Z0 Aab Aac j8 (ao 4) (aa (aF (qt rfl) aO T.b_max zK (aa (iu (K:=K) rfl (ao 2) (aY aR (ao 5) aH)) (aa (iu (K:=K) rfl (ao 4) (ao 5)) aj)) (by trivial) (by trivial)) aj))))))) (aB (aM (i:=2) g8.nd rfl dj (ao 4) rfl))))) (aB (aK (ao 2))))),?_⟩
 walk_at "s"
 have hsz:20000<=sizeLine:=by decide
 have ly:y.length<=sizeLine:=by omega
 refine cG rfl fun l H1 _ S1 hl=>?_
 walk_at "s"
 refine bQ ly ?_
 walk_at "s"
 refine Ep hl (by omega) (by omega) (by simp;omega) fun ro nro=>?_
 rw [show ((y.length:Int)+1).toNat=y.length+1 by omega,RG,← V7 z.cps.toList y.cps.toList]
 have S2:=(Same.refl H1).upd nro (o:=.lst ((lH z.cps.toList y.cps.toList 0 (y.length+1)).map V.int))
 have hro:=aq (H:=H1) (a:=ro) (o:=.lst ((lH z.cps.toList y.cps.toList 0 (y.length+1)).map V.int))
 generalize upd H1 ro (.lst ((lH z.cps.toList y.cps.toList 0 (y.length+1)).map V.int))=H2 at S2 hro ⊢
 walk_at "s"
 have U2:=S1.trans S2
 have nro0:=Same.back S1 nro
 refine .inr (.inr ⟨z,rfl,?_⟩)
 refine Gr (z:=z) (fun i U G=>Same H G/\(∃ ra,H ra=none/\G ra=some (.lst ((lH z.cps.toList y.cps.toList i (y.length+1)).map V.int))/\∃ x3 x4 x5,U=[some (.str z),some (.str y),some (.ref ra),x3,x4,x5])) ⟨U2,ro,nro0,hro,_,_,_,rfl⟩ ?_ ?_
 ·rintro i U G c hc ⟨sG,la,nla,hla,x3,x4,x5,rfl⟩
  have hi:i < z.length:=by have:=(Y4.mp hc).1;simpa [Str.length] using this
  have ec:c=z.cps.toList.getD i 0:=by
   rw [Dt hi] at hc
   exact (Zv hc).symm
  walk_at "s"
  refine cG rfl fun r G1 nr sr hr=>?_
  walk_at "s"
  have nr0:=Same.back sG nr
  refine bQ ly ?_
  walk_at "s"
  refine ⟨_,rfl,by omega,by omega,?_⟩
  rw [show ((y.length:Int)).toNat=y.length from rfl]
  refine ql (lo:=0) (n:=y.length) (fun k U H'=>Same G H'/\H' r=some (.lst ((lH z.cps.toList y.cps.toList (i+1) (k+1)).map V.int))/\∃ x5,U=[some (.str z),some (.str y),some (.ref la),some (.str ⟨#[c]⟩),some (.ref r),x5]) ⟨sr,by rw [hr];unfold lH;rw [show List.range (0+1)=[0] from rfl];show _=some (HO.lst [V.int (tb _ 0 (i+1) 0)]);rw [Ou],_,rfl⟩ ?_ ?_
  ·rintro k U G3 hk ⟨s3,h3,y5,rfl⟩
   have hla3:=s3 _ _ hla
   have fin:∀ v:Int,v=tb (Ow z.cps.toList y.cps.toList) 0 (i+1) (k+1)->(lH z.cps.toList y.cps.toList (i+1) (k+1)).map V.int ++ [V.int v]=(lH z.cps.toList y.cps.toList (i+1) (k+1+1)).map V.int:=fun v hv=>by
    rw [J6 _ _ _ (k+1),Zy,hv];rfl
   have hyk:xF y.cps.toList (0+(k:Int))=some (y.cps.toList.getD k 0):=by rw [show (0:Int)+(k:Int)=(k:Int) by omega];exact jg (Dt hk)
   walk_at "s"
   refine RZ ly hyk ?_
   walk_at "s"
   refine rK (fun h=>?_) (fun h=>?_)
   ·have he:Ow z.cps.toList y.cps.toList i (0+k)=true:=by
     have:=Str.mk.inj (V.str.inj h)
     unfold Ow
     rw [Nat.zero_add,← ec]
     exact Y7 (by simpa using this)
    walk_at "s"
    refine ⟨.inl ⟨rfl,_,SqL.of h3⟩,?_⟩
    walk_at "s"
    refine bG (SqL.of hla3) (Bb (k:=k) (by omega) (Nat.lt_succ_of_lt hk)) ?_
    walk_at "s"
    refine kO h3 (by rw [Zf,Ds];omega) ?_
    walk_at "s"
    exact ⟨Same.put s3 nr,by rw [aq,fin _ (by rw [J5,if_pos he])],_,rfl⟩
   ·have he:¬ Ow z.cps.toList y.cps.toList i (0+k)=true:=fun hh=>h (by
     unfold Ow at hh
     rw [Nat.zero_add,← ec] at hh
     rw [AaV hh])
    walk_at "s"
    refine ⟨.inl ⟨rfl,_,SqL.of h3⟩,?_⟩
    walk_at "s"
    refine bG (SqL.of hla3) (Bb (k:=k+1) (by omega) (Nat.succ_lt_succ hk)) ?_
    walk_at "s"
    refine bG (SqL.of h3) (Bb (k:=k) (by omega) (Aau k)) ?_
    walk_at "s"
    refine kO h3 (by rw [Zf,Ds];omega) ?_
    walk_at "s"
    refine ⟨Same.put s3 nr,by rw [aq,fin _ (by rw [J5,if_neg he];unfold Wv;split <;> split <;> omega)],_,rfl⟩
  ·rintro U G2 ⟨s2,h2,y5,rfl⟩
   walk_at "s"
   exact ⟨sG.trans s2,r,nr0,h2,_,_,_,rfl⟩
 ·rintro U G ⟨sG,ra,nra,hra,x3,x4,x5,rfl⟩
  walk_at "s"
  exact q ra G nra sG hra
theorem Bc:(["_law_k","_law_found","_law_due"]:List Str).Nodup:=by trivial
def V9:Sp:=fun vs H Q _=>∃ a b:Int,vs=[.int a,.int b]/\Q (.bl (decide (a=b))) H
theorem xZ:aC ["_law_found","_law_due"] ["_law_found","_law_due"] (az oE):=⟨rfl,rfl,rfl,by trivial,rfl,by trivial,by trivial⟩
theorem bf (T:Txt K mg):Has P w K mg base 1 "_law_number" ["_law_found","_law_due"] V9:=by
 refine cz T.d_law_number xZ (fun _ _ _ _ _ _ us hl=>L2.oW (fun _ _=>rfl) us hl) ?_ fun f cdv A outer s H vs Q E hr h=>?_
 ·rintro vs H Q E ⟨a,b,rfl,_⟩;rfl
 obtain ⟨a,b,rfl,q⟩:=h
 have hu:=hr.units0
 have hu64:=hr.units
 refine ⟨_,(aB (aK (ir (aF (di (K:=K) rfl) aO T.b_isinstance bj (aa (ao 0) (aa (uB aO T.b_int El (by trivial) (by trivial)) aj)) (by trivial) (by trivial)) (ir (BZ (aF (di (K:=K) rfl) aO T.b_isinstance bj (aa (ao 0) (aa (uB aO T.b_bool Gm (by trivial) (by trivial)) aj)) (by trivial) (by trivial))) (jQ (kI (dw (K:=K) rfl hu64) (ao 0) (ao 1) (by walk_at "p"))))))),?_⟩
 walk_at "s"
 refine jP (.int _) (b:=true) (by rfl) ?_
 walk_at "s"
 refine jP (.int _) (b:=false) (by rfl) ?_
 walk_at "s"
 rw [CP]
 exact q
def Bdd (ns:List Int):Prop:=∀ z∈ns,0<=z/\z < 1000
def RK (mg:Str->Option Value):Sp:=fun vs H Q _=>∃ (x d:Addr) (side row:Str),vs=[.ref x,.ref d]/\Rg mg H x side row/\H d=some (.lst ((uv side row).map V.int))/\Bdd (uv side row)/\∀ H',Same H H'->Q (.bl true) H'
theorem HJ (side row:Str):(uv side row).length=row.cps.size:=by unfold uv;simp
theorem qj:aC ["_law_ring","_law_due","_law_most","_law_found"] ["_law_ring","_law_due"] (az sI):=⟨rfl,rfl,rfl,by trivial,rfl,by trivial,by trivial⟩
theorem je (T:Txt K mg):Has P w K mg base 12 "_law_best" ["_law_ring","_law_due"] (RK mg):=by
 have qe:=qe (P:=P) (w:=w) (base:=base) T
 have bf:=bf (P:=P) (w:=w) (base:=base) T
 refine cz T.d_law_best qj (fun _ _ _ _ _ _ us hl=>L2.oW (fun _ _=>rfl) us hl) ?_ fun f cdv A outer s H vs Q E hr h=>?_
 ·rintro vs H Q E ⟨x,d,side,row,rfl,_⟩;rfl
 obtain ⟨x,d,side,row,rfl,hR,hd,hB,q⟩:=h
 have hu:=hr.units0
 have hu64:=hr.units
 refine ⟨_,(aA (aM (i:=2) qj.nd rfl dj (aF (qt rfl) aO T.b_max zK (aa (ao 1) aj) (by trivial) (by trivial)) rfl) (aA (aM (i:=3) qj.nd rfl dj (tW (ao 0) T.o_Ring qe (hr.mono (by decide)) (mW fun _ _=>rfl)) rfl) (aA (bK (lN (ph (bW (bY (aF (di (K:=K) rfl) aO T.b_isinstance bj (aa (ao 3) (aa (uB aO T.b_tuple BV (by trivial) (by trivial)) aj)) (by trivial) (by trivial)))) (kJ (bJ (zP (K:=K) rfl hu64) (aF (aG (K:=K) rfl) aO T.b_len aV (aa (ao 3) aj) (by trivial) (by trivial)) aH (by walk_at "p"))))) (aB (aK kE)) bx) (aB (aK (ir (aJ bf (hr.mono (by decide)) aO (aa (iu (K:=K) rfl (ao 3) aH) (aa (ao 2) aj)) (by trivial)) (jQ (aJ bf (hr.mono (by decide)) aO (aa (iu (K:=K) rfl (ao 3) aH) (aa (pq (K:=K) rfl Z0 PySem.F.slot_list_index PySem.F.type_list_index Cp (ao 1) (aa (ao 2) aj)) aj)) (by trivial))))))))),?_⟩
 walk_at "s"
 obtain ⟨hs,hr',h0,dx,al,ap,h,ak,hx,hA⟩:=id hR
 have l2:row.length<=24:=hr'.1
 have e2:row.length=row.cps.size:=rfl
 have hl:=HJ side row
 have hne:uv side row≠[]:=fun z=>h0 (by rw [← hl,z];rfl)
 refine Ey hd hne fun M hM hMM=>?_
 walk_at "s"
 refine ⟨x,dx,_,rfl,hx,Ka (by trivial),?_⟩
 walk_at "s"
 refine ⟨x,side,row,rfl,hR,hB,fun f a b H1 S1 ⟨N,hN,hNN,ea,eb⟩ hf=>?_⟩
 walk_at "s"
 have e:=Mx.uni hM hMM hN hNN
 subst e ea eb
 refine jP (.tup hf) (b:=true) (by rfl) ?_
 walk_at "s"
 refine wD (SqT.of hf) ?_
 walk_at "s"
 rw [Y7 (show V.int (([V.int N,V.int ((uv side row).idxOf N:Nat)]:List V).length:Int)=V.int 2 from rfl)]
 walk_at "s"
 refine ⟨_,_,rfl,?_⟩
 walk_at "s"
 rw [Y7 rfl]
 walk_at "s"
 refine ⟨.inl ⟨rfl,_,SqL.of (S1 _ _ hd)⟩,?_⟩
 walk_at "s"
 refine GZ (S1 _ _ hd) (by omega) hB hN ?_
 walk_at "s"
 refine ⟨_,_,rfl,?_⟩
 walk_at "s"
 rw [Y7 rfl]
 exact q _ S1
def Wa (mg:Str->Option Value):Sp:=fun vs H Q _=>∃ (x d:Addr) (side row:Str),vs=[.ref x,.ref d]/\Rg mg H x side row/\H d=some (.lst ((uv side row).map V.int))/\Bdd (uv side row)/\∀ H',Same H H'->Q (.bl true) H'
theorem Wb {side row:Str} {k:Nat} (h:k < row.cps.size):(uv side row)[k]?=some (Ay side row k row.cps.size):=by
 unfold uv
 rw [Y8,Zi h];rfl
theorem xm:aC ["_law_ring","_law_due","_law_found"] ["_law_ring","_law_due"] (az qC):=⟨rfl,rfl,rfl,by trivial,rfl,by trivial,by trivial⟩
theorem uV (T:Txt K mg):Has P w K mg base 13 "_law_all" ["_law_ring","_law_due"] (Wa mg):=by
 have bZ:=bZ (P:=P) (w:=w) (base:=base) T
 have bf:=bf (P:=P) (w:=w) (base:=base) T
 have je:=je (P:=P) (w:=w) (base:=base) T
 refine cz T.d_law_all xm (fun _ _ _ _ _ _ us hl=>L2.oW (fun _ _=>rfl) us hl) ?_ fun f cdv A outer s H vs Q E hr h=>?_
 ·rintro vs H Q E ⟨x,d,side,row,rfl,_⟩;rfl
 obtain ⟨x,d,side,row,rfl,hR,hd,hB,q⟩:=h
 have hu:=hr.units0
 have hu64:=hr.units
 refine ⟨_,(aA (aM (i:=2) xm.nd rfl QQ (tW (ao 0) T.o_Ring bZ (hr.mono (by decide)) (mW fun _ _=>rfl)) rfl) (aA (bK (lN (ph (bW (bY (aF (di (K:=K) rfl) aO T.b_isinstance bj (aa (cC 2) (aa (uB aO T.b_list j4 (by trivial) (by trivial)) aj)) (by trivial) (by trivial)))) (kJ (bJ (zP (K:=K) rfl hu64) (aF (aG (K:=K) rfl) aO T.b_len aV (aa (cC 2) aj) (by trivial) (by trivial)) (aF (aG (K:=K) rfl) aO T.b_len aV (aa (cC 1) aj) (by trivial) (by trivial)) (by walk_at "p"))))) (aB (aK kE)) bx) (aA (bK (bW (bY (aF (wB rfl) aO T.b_all Ek (aa (my (sub:=[none,some 2,some 1]) (dg (N:=["_law_ring","_law_due","_law_found"]) (sc:=az qC) (N':=["_law_k","_law_found","_law_due"]) (by trivial)) rfl rfl rfl (iQ aO T.b_range (aa (aF (aG (K:=K) rfl) aO T.b_len aV (aa (cC 1) aj) (by trivial) (by trivial)) aj)) (fun C s₀ H₀ ex=>(vC 0 (by trivial) Bc)) (fun C s₀ H₀ ex=>gH) (fun C s₀ H₀ ex=>(aJ bf (hr.mono (by decide)) (Wm (by trivial)) (aa (iu (K:=K) rfl (oR 1 (by trivial)) (km 0 (by trivial))) (aa (iu (K:=K) rfl (oR 2 (by trivial)) (km 0 (by trivial))) aj)) (by trivial)))) aj) (by trivial) (by trivial)))) (aB (aK kE)) bx) (aA (aU (pq (K:=K) rfl Z0 Aab Aac j8 (cC 2) (aa aH aj))) (aA (lO (ts:=rn) aH (pA (cC 2) aH (lQ hu64))) (aB (aK (ir (kI (dw (K:=K) rfl hu64) (tW (ao 0) T.o_Ring bZ (hr.mono (by decide)) (mW fun _ _=>rfl)) (cC 1) (by walk_at "p")) (jQ (aJ je (hr.mono (by decide)) aO (aa (ao 0) (aa (cC 1) aj)) (by trivial))))))))))),?_⟩
 walk_at "s"
 obtain ⟨hs,hr',h0,dx,al,ap,h,ak,hx,hA⟩:=id hR
 have hz:20000<=sizeLine:=by decide
 have l2:row.length<=24:=hr'.1
 have e2:row.length=row.cps.size:=rfl
 have hl:=HJ side row
 refine ⟨x,dx,_,rfl,hx,Ka (by trivial),?_⟩
 walk_at "s"
 refine ⟨x,side,row,rfl,hR,fun f' H1 nf S1 hf=>?_⟩
 walk_at "s"
 have hd1:=S1 _ _ hd
 refine jP (.lst hf) (b:=true) (by rfl) ?_
 walk_at "s"
 refine bM (SqL.of hf) ?_
 walk_at "s"
 refine bM (SqL.of hd1) ?_
 walk_at "s"
 rw [Y7 rfl]
 walk_at "s"
 refine bM (SqL.of hd1) ?_
 walk_at "s"
 refine ⟨_,rfl,by rw [Zf];omega,by rw [Zf];omega,?_⟩
 rw [Zf,hl,show ((row.cps.size:Nat):Int).toNat=row.cps.size from rfl]
 refine qw (n:=row.cps.size) (fun i=>.bl true) (by omega) ?_ ?_
 ·intro i hi
  have ei:xF ((uv side row).map V.int) (0+(i:Int))=some (.int (Ay side row i row.cps.size)):=by
   rw [show (0:Int)+(i:Int)=i by omega]
   exact jg (by rw [Y8,Wb hi];rfl)
  walk_at "s"
  refine ⟨KeepSt.set rfl,?_⟩
  walk_at "s"
  refine bG (SqL.of hf) ei ?_
  walk_at "s"
  refine bG (SqL.of hd1) ei ?_
  walk_at "s"
  refine ⟨_,_,rfl,?_⟩
  walk_at "s"
  rw [Y7 rfl]
  exact ⟨rfl,nP rfl⟩
 ·intro D H2 nD S2 hD
  try walk_at "s"
  refine ⟨D,(List.range row.cps.size).map fun _=>true,rfl,by rw [hD,Aas];rfl,?_⟩
  rw [show ((List.range row.cps.size).map fun _=>true).all id=true by simp]
  walk_at "s"
  have hf2:=S2 _ _ hf
  have U2:=S1.trans S2
  refine ⟨.inl ⟨rfl,_,SqL.of hf2⟩,?_⟩
  walk_at "s"
  refine kO hf2 (by rw [Zf];omega) ?_
  walk_at "s"
  have U3:=Same.put (o:=.lst ((uv side row).map V.int ++ [V.int 7])) U2 nf
  have hf3:=aq (H:=H2) (a:=f') (o:=.lst ((uv side row).map V.int ++ [V.int 7]))
  generalize upd H2 f' (.lst ((uv side row).map V.int ++ [V.int 7]))=H3 at U3 hf3 ⊢
  walk_at "s"
  refine qu hf3 (n:=0) (zc rfl (by simp)) ?_
  walk_at "s"
  have U4:=Same.put (o:=.lst (((uv side row).map V.int ++ [V.int 7]).set 0 (.int 99))) U3 nf
  generalize upd H3 f' (.lst (((uv side row).map V.int ++ [V.int 7]).set 0 (.int 99)))=H4 at U4 ⊢
  walk_at "s"
  have hR4:=hR.same U4
  refine ⟨x,dx,_,rfl,U4 _ _ hx,Ka (by trivial),?_⟩
  walk_at "s"
  refine ⟨x,side,row,rfl,hR4,fun g H5 ng S5 hg=>?_⟩
  walk_at "s"
  have U5:=U4.trans S5
  refine .inl (Vn (SqL.of hg) (SqL.of (U5 _ _ hd)) (fun v hv=>?_) ?_)
  ·obtain ⟨i,_,rfl⟩:=ZD.mp hv
   exact .inl rfl
  walk_at "s"
  refine ⟨x,d,side,row,rfl,hR.same U5,U5 _ _ hd,hB,fun H6 S6=>?_⟩
  walk_at "s"
  exact q H6 (U5.trans S6)
theorem kz00:Wt lX "e":=by trivial
def Oz (side row:Str) (p:Nat):List Int:=(List.range (row.cps.size+1)).map fun k=>Ay side row p k
theorem RL (side row:Str) (p:Nat):(Oz side row p).length=row.cps.size+1:=by unfold Oz;simp
theorem Wc {side row:Str} {p k:Nat} {j:Int} (hj:j=(k:Int)) (h:k<=row.cps.size):xF ((Oz side row p).map V.int) j=some (.int (Ay side row p k)):=by
 subst hj
 refine jg ?_
 unfold Oz
 rw [Y8,Y8,Zi (by omega)];rfl
def Tbl (H:Hp) (q:Addr) (side row:Str):Prop:=∃ rs,H q=some (.lst rs)/\rs.length=row.cps.size/\∀ k,k < row.cps.size->∃ b,rs[k]?=some (.ref b)/\H b=some (.lst ((Oz side row k).map V.int))
theorem Tbl.same {H H':Hp} {q:Addr} {side row:Str} (h:Tbl H q side row) (s:Same H H'):Tbl H' q side row:=by
 obtain ⟨rs,h1,h2,h3⟩:=h
 refine ⟨rs,s _ _ h1,h2,fun k hk=>?_⟩
 obtain ⟨b,e,hb⟩:=h3 k hk
 exact ⟨b,e,s _ _ hb⟩
inductive Due (side row:Str) (a b:Int):V->V->Prop where
 | ok (p k:Nat) (w:V) (ha:a=p) (hb:b=k) (hp:p < row.cps.size) (hk:k<=row.cps.size):Due side row a b (.int (Ay side row p k)) w
 | p (ha:inB (.int a) 0 ((row.cps.size:Int) - 1)=false):Due side row a b .non (.int a)
 | k (ha:inB (.int a) 0 ((row.cps.size:Int) - 1)=true) (hb:inB (.int b) 0 (row.cps.size:Int)=false):Due side row a b .non (.int b)
def RM (mg:Str->Option Value):Sp:=fun vs H Q _=>∃ (x t:Addr) (side row:Str) (a b:Int),vs=[.ref x,.ref t,.int a,.int b]/\Rg mg H x side row/\Tbl H t side row/\∀ H',Same H H'->Q (.bl true) H'
theorem c7:aC ["_law_ring","_law_table","_law_place","_law_many","_law_due","_law_wrong","_law_found","e"] ["_law_ring","_law_table","_law_place","_law_many"] (az lX):=⟨rfl,rfl,rfl,by trivial,rfl,by trivial,by trivial⟩
theorem mj (T:Txt K mg):Has P w K mg base 9 "_law_asked" ["_law_ring","_law_table","_law_place","_law_many"] (RM mg):=by
 have bI:=bI (P:=P) (w:=w) (base:=base) T
 have bf:=bf (P:=P) (w:=w) (base:=base) T
 refine cz T.d_law_asked c7 (fun _ _ _ _ _ _ us hl=>L2.Ww (fun _ _ _ _=>rfl) us hl) ?_ fun f cdv A outer s H vs Q E hr h=>?_
 ·rintro vs H Q E ⟨x,t,side,row,a,b,rfl,_⟩;rfl
 obtain ⟨x,t,side,row,a,b,rfl,hR,hT,q⟩:=h
 have hu:=hr.units0
 have hu64:=hr.units
 refine ⟨_,(aA (aM (i:=4) c7.nd rfl dj Gp rfl) (aA (aM (i:=5) c7.nd rfl dj (ao 2) rfl) (aA (bK (Ce v6 yg aH (ao 2) (aF (aG (K:=K) rfl) aO T.b_len aV (aa (ao 1) aj) (by trivial) (by trivial))) (aA (aM (i:=5) c7.nd rfl dj (ao 3) rfl) (aB (bK (Ce v6 v6 aH (ao 3) (aF (aG (K:=K) rfl) aO T.b_len aV (aa (ao 1) aj) (by trivial) (by trivial))) (aB (aM (i:=4) c7.nd rfl dj (iu (K:=K) rfl (iu (K:=K) rfl (ao 1) (ao 2)) (ao 3)) rfl)) bx))) bx) (aA (zW rfl rfl (fun pins R=>(aB (aM (i:=6) c7.nd rfl dj (pC (mg:=mg) rfl (ao 0) T.o_Ring bI (hr.mono (by decide)) tR (aa (ao 2) (aa (ao 3) aj))) rfl))) (GD (K:=K) (i:=7) rfl T.x_NoPlace.c aO (by trivial) c7.nd rfl kz00 (fun x=>(aB (aK (ir (kI Ew (ao 4) Gp (by walk_at "p")) (ir (kI (dw (K:=K) rfl hu64) (uE (K:=K) rfl (ao 7)) (ao 5) (by walk_at "p")) (jQ (BZ (aF (qm (K:=K) rfl) aO T.b_isinstance bj (aa (ao 7) (aa (Ca (aa (Mt aO T.x_NoPiece.c.at_ (by trivial)) (aa (Mt aO T.x_NoPlain.c.at_ (by trivial)) aj))) aj)) (by trivial) (by trivial))))))))) (GF (K:=K) rfl T.x_PaneError aO (by trivial) (fun x=>(aB (aK kE))) zV))) (aB (aK (ir (kI Jp (ao 4) Gp (by walk_at "p")) (jQ (aJ bf (hr.mono (by decide)) aO (aa (ao 6) (aa (ao 4) aj)) (by trivial)))))))))),?_⟩
 walk_at "n"
 obtain ⟨hs,hr',h0,dx,al,ap,h,ak,hx,hA⟩:=id hR
 obtain ⟨rs,ht,hl,hrs⟩:=id hT
 with_reducible refine oO ?_
 walk_at "n"
 with_reducible refine oO ?_
 walk_at "n"
 with_reducible refine MF (fun U H1=>H1=H/\∃ due wr,Due side row a b due wr/\U=[some (.ref x),some (.ref t),some (.int a),some (.int b),some due,some wr,none,none]) ?_ ?_
 rotate_left
 ·intro N hN
  walk_at "n"
  refine rK (fun h1=>?_) (fun h1=>?_)
  ·walk_at "n"
   refine bM (SqL.of ht) ?_
   walk_at "n"
   rw [hl]
   refine rK (fun h2=>?_) (fun h2=>?_)
   ·obtain ⟨p,rfl⟩:∃ p:Nat,a=p:=⟨a.toNat,by omega⟩
    obtain ⟨bb,eb,hb⟩:=hrs p (by omega)
    have hp:inB (.int (p:Int)) 0 ((row.cps.size:Int) - 1)=true:=by unfold inB;simp;omega
    walk_at "s"
    refine rK (fun h3=>?_) (fun h3=>?_)
    ·walk_at "s"
     refine bM (SqL.of ht) ?_
     walk_at "s"
     rw [hl]
     refine rK (fun h4=>?_) (fun h4=>?_)
     ·obtain ⟨k,rfl⟩:∃ k:Nat,b=k:=⟨b.toNat,by omega⟩
      walk_at "s"
      refine bG (SqL.of ht) (jg eb) ?_
      walk_at "s"
      refine bG (SqL.of hb) (Wc rfl (by omega)) ?_
      walk_at "s"
      exact hN _ _ ⟨rfl,_,_,.ok p k _ rfl rfl (by omega) (by omega),rfl⟩
     ·walk_at "s"
      exact hN _ _ ⟨rfl,_,_,.k hp (by unfold inB;simp;omega),rfl⟩
    ·walk_at "s"
     exact hN _ _ ⟨rfl,_,_,.k hp (by unfold inB;simp;omega),rfl⟩
   ·walk_at "s"
    exact hN _ _ ⟨rfl,_,_,.p (by unfold inB;simp;omega),rfl⟩
  ·walk_at "s"
   exact hN _ _ ⟨rfl,_,_,.p (by unfold inB;simp;omega),rfl⟩
 ·rintro U H1 ⟨rfl,due,wr,hD,rfl⟩
  walk_at "s"
  refine ⟨x,dx,_,rfl,hx,Ka (by trivial),?_⟩
  walk_at "s"
  refine ⟨x,side,row,.int a,.int b,rfl,hR,.inl ⟨_,rfl⟩,.inl ⟨_,rfl⟩,?_,?_,?_⟩
  ·intro hv e H2 S2 X2
   obtain ⟨rfl,rfl⟩:due= .non/\wr= .int a:=by
    cases hD with
    | ok p k w ha hb hp hk=>unfold inB at hv;simp at hv;omega
    | p _=>exact ⟨rfl,rfl⟩
    | k ha _=>rw [hv] at ha;cases ha
   refine ⟨_,e,rfl,rfl,?_⟩
   refine yM T.x_NoPlace.c.cl.cls T.u_NoPlace_NoPlace.mro ?_
   walk_at "s"
   rw [Y7 rfl]
   walk_at "s"
   refine ⟨e,_,_,_,rfl,X2,T.x_NoPlace.c.cl.cls,T.x_NoPlace.na _ (by simp),rfl,?_⟩
   walk_at "s"
   rw [Y7 rfl]
   walk_at "s"
   refine cG rfl fun cp H3 ncp S3 hcp=>?_
   walk_at "s"
   have X3:=X2.same S3
   refine GJ X3 T.x_NoPlace.c.cl hcp rfl (b:=false) (by simp only [PySem.W.kitAny,T.u_NoPlace_NoPiece.one,T.u_NoPlace_NoPlain.one]) ?_
   walk_at "s"
   exact q _ (S2.trans S3)
  ·intro hv hu' e H2 S2 X2
   obtain ⟨rfl,rfl⟩:due= .non/\wr= .int b:=by
    cases hD with
    | ok p k w ha hb hp hk=>unfold inB at hu';simp at hu';omega
    | p ha=>rw [hv] at ha;cases ha
    | k _ _=>exact ⟨rfl,rfl⟩
   refine ⟨_,e,rfl,rfl,?_⟩
   refine yM T.x_NoPlace.c.cl.cls T.u_NoPlace_NoPlace.mro ?_
   walk_at "s"
   rw [Y7 rfl]
   walk_at "s"
   refine ⟨e,_,_,_,rfl,X2,T.x_NoPlace.c.cl.cls,T.x_NoPlace.na _ (by simp),rfl,?_⟩
   walk_at "s"
   rw [Y7 rfl]
   walk_at "s"
   refine cG rfl fun cp H3 ncp S3 hcp=>?_
   walk_at "s"
   have X3:=X2.same S3
   refine GJ X3 T.x_NoPlace.c.cl hcp rfl (b:=false) (by simp only [PySem.W.kitAny,T.u_NoPlace_NoPiece.one,T.u_NoPlace_NoPlain.one]) ?_
   walk_at "s"
   exact q _ (S2.trans S3)
  ·intro p k e1 e2 hp hk
   obtain rfl:=V.int.inj e1
   obtain rfl:=V.int.inj e2
   have hDue:due= .int (Ay side row p k):=by
    cases hD with
    | ok p' k' w ha hb _ _=>
     obtain rfl:p=p':=by omega
     obtain rfl:k=k':=by omega
     rfl
    | p ha=>unfold inB at ha;simp at ha;omega
    | k _ hb=>unfold inB at hb;simp at hb;omega
   subst hDue
   walk_at "s"
   rw [Zc (show ¬ V.int (Ay side row p k)=V.non from fun z=>by cases z)]
   walk_at "s"
   refine ⟨_,_,rfl,?_⟩
   walk_at "s"
   rw [Y7 rfl]
   exact q _ (Same.refl _)
theorem kz01:Wt qD "e":=by trivial
theorem kz02:Wt iC "e":=by trivial
theorem kz03:Wt gJ "e":=by trivial
theorem yc:bootBuiltins "ValueError"=some (.type "ValueError"):=by trivial
def Wd (mg:Str->Option Value):Sp:=fun vs H Q _=>∃ (x t:Addr) (side row:Str) (a:Int),vs=[.ref x,.ref t,.int a]/\Rg mg H x side row/\Tbl H t side row/\∀ H',Same H H'->Q (.bl true) H'
theorem xn {side row:Str} {p:Nat}:xF ((Oz side row p).map V.int) (-1)=some (.int (Ay side row p row.cps.size)):=by
 refine Vq (n:=row.cps.size) (by rw [Zf,RL]) ?_
 unfold Oz
 rw [Y8,Y8,Zi (by omega)];rfl
theorem sV:aC ["_law_ring","_law_table","_law_place","_law_found","e"] ["_law_ring","_law_table","_law_place"] (az qD):=⟨rfl,rfl,rfl,by trivial,rfl,by trivial,by trivial⟩
theorem ni (T:Txt K mg):Has P w K mg base 10 "_law_one" ["_law_ring","_law_table","_law_place"] (Wd mg):=by
 have bA:=bA (P:=P) (w:=w) (base:=base) T
 have bf:=bf (P:=P) (w:=w) (base:=base) T
 refine cz T.d_law_one sV (fun _ _ _ _ _ _ us hl=>L2.oY (fun _ _ _=>rfl) us hl) ?_ fun f cdv A outer s H vs Q E hr h=>?_
 ·rintro vs H Q E ⟨x,t,side,row,a,rfl,_⟩;rfl
 obtain ⟨x,t,side,row,a,rfl,hR,hT,q⟩:=h
 have hu:=hr.units0
 have hu64:=hr.units
 refine ⟨_,(aA (zW rfl rfl (fun pins R=>(aB (aM (i:=3) sV.nd rfl dj (pC (mg:=mg) rfl (ao 0) T.o_Ring bA (hr.mono (by decide)) tR (aa (ao 2) aj)) rfl))) (GD (K:=K) (i:=4) rfl T.x_NoPlace.c aO (by trivial) sV.nd rfl kz01 (fun x=>(aB (aK (ir (BZ (zQ v6 yg aH (ao 2) (aF (aG (K:=K) rfl) aO T.b_len aV (aa (ao 1) aj) (by trivial) (by trivial)))) (ir (kI (dw (K:=K) rfl hu64) (uE (K:=K) rfl (ao 4)) (ao 2) (by walk_at "p")) (jQ (aF (qm (K:=K) rfl) aO T.b_isinstance bj (aa (ao 4) (aa (uB aO T.b_ValueError yc (by trivial) (by trivial)) aj)) (by trivial) (by trivial)))))))) (GF (K:=K) rfl T.x_PaneError aO (by trivial) (fun x=>(aB (aK kE))) zV))) (aB (aK (ir (zQ v6 yg aH (ao 2) (aF (aG (K:=K) rfl) aO T.b_len aV (aa (ao 1) aj) (by trivial) (by trivial))) (jQ (aJ bf (hr.mono (by decide)) aO (aa (ao 3) (aa (iu (K:=K) rfl (iu (K:=K) rfl (ao 1) (ao 2)) (En rG aH)) aj)) (by trivial))))))),?_⟩
 walk_at "s"
 obtain ⟨hs,hr',h0,dx,al,ap,h,ak,hx,hA⟩:=id hR
 obtain ⟨rs,ht,hl,hrs⟩:=id hT
 refine ⟨x,dx,_,rfl,hx,Ka (by trivial),?_⟩
 walk_at "s"
 refine ⟨x,side,row,.int a,rfl,hR,.inl ⟨_,rfl⟩,?_,?_⟩
 ·intro hv e H2 S2 X2
  refine ⟨_,e,rfl,rfl,?_⟩
  refine yM T.x_NoPlace.c.cl.cls T.u_NoPlace_NoPlace.mro ?_
  walk_at "s"
  refine rK (fun h1=>?_) (fun h1=>?_)
  ·walk_at "s"
   refine bM (SqL.of (S2 _ _ ht)) ?_
   walk_at "s"
   rw [hl,Zc (show ¬ a < (row.cps.size:Int) from fun z=>by unfold inB at hv;simp at hv;omega)]
   walk_at "s"
   refine ⟨e,_,_,_,rfl,X2,T.x_NoPlace.c.cl.cls,T.x_NoPlace.na _ (by simp),rfl,?_⟩
   walk_at "s"
   rw [Y7 rfl]
   walk_at "s"
   refine Mv X2 T.x_NoPlace.c.cl rfl T.v_NoPlace ?_
   walk_at "s"
   exact q _ S2
  ·walk_at "s"
   refine ⟨e,_,_,_,rfl,X2,T.x_NoPlace.c.cl.cls,T.x_NoPlace.na _ (by simp),rfl,?_⟩
   walk_at "s"
   rw [Y7 rfl]
   walk_at "s"
   refine Mv X2 T.x_NoPlace.c.cl rfl T.v_NoPlace ?_
   walk_at "s"
   exact q _ S2
 ·intro p e1 hp
  obtain rfl:=V.int.inj e1
  obtain ⟨bb,eb,hb⟩:=hrs p hp
  walk_at "s"
  rw [Y7 (show (0:Int)<=(p:Int) by omega)]
  walk_at "s"
  refine bM (SqL.of ht) ?_
  walk_at "s"
  rw [hl,Y7 (show (p:Int) < (row.cps.size:Int) by omega)]
  walk_at "s"
  refine bG (SqL.of ht) (jg eb) ?_
  walk_at "s"
  refine bG (SqL.of hb) xn ?_
  walk_at "s"
  refine ⟨_,_,rfl,?_⟩
  walk_at "s"
  rw [Y7 rfl]
  exact q _ (Same.refl _)
structure Wr (K:W.Frag) (H:Hp) (v:V):Prop where
 sf:∃ d,DR H d v/\PySem.SeqAt.shaped d=true
 no:∀ lo hi,inB v lo hi=false
 kd:v= .bl true\/∃ T,TyOf K H v (.type T)/\PySem.W.kitOne K (.type T) (.type "int")=some false
theorem Wr.same {H H':Hp} {v:V} (h:Wr K H v) (s:Same H H'):Wr K H' v:=by
 obtain ⟨⟨d,hd,sd⟩,h2,h3⟩:=h
 exact ⟨⟨d,DR.same s _ _ hd,sd⟩,h2,h3.imp id fun ⟨T,a,c⟩=>⟨T,a.mono fun b o e _=>s b o e,c⟩⟩
theorem Wr.k {H:Hp} {v:V} (h:Wr K H v):Kd K H v:=by
 rcases h.kd with rfl | h
 ·exact .inr (.inl ⟨_,rfl⟩)
 ·exact .inr (.inr h)
theorem xq {H:Hp} {Q:VK} {v:V} (h:Wr K H v) (q:Q (.bl true) H):Qz K v v H Q:=by
 obtain ⟨d,hd,sd⟩:=h.sf
 exact .inl (.inl (LC hd hd sd q))
def We (K:W.Frag) (mg:Str->Option Value):Sp:=fun vs H Q _=>∃ (x:Addr) (side row:Str) (v u wr:V),vs=[.ref x,v,u,wr]/\Rg mg H x side row/\Wr K H wr/\Kd K H u/\(v=wr\/v= .int 0/\u=wr)/\∀ H',Same H H'->Q (.bl true) H'
theorem oV:aC ["_law_ring","_law_place","_law_many","_law_wrong","e"] ["_law_ring","_law_place","_law_many","_law_wrong"] (az iC):=⟨rfl,rfl,rfl,by trivial,rfl,by trivial,by trivial⟩
theorem dU (T:Txt K mg):Has P w K mg base 9 "_law_no_place" ["_law_ring","_law_place","_law_many","_law_wrong"] (We K mg):=by
 have bI:=bI (P:=P) (w:=w) (base:=base) T
 refine cz T.d_law_no_place oV (fun _ _ _ _ _ _ us hl=>L2.Ww (fun _ _ _ _=>rfl) us hl) ?_ fun f cdv A outer s H vs Q E hr h=>?_
 ·rintro vs H Q E ⟨x,side,row,v,u,wr,rfl,_⟩;rfl
 obtain ⟨x,side,row,v,u,wr,rfl,hR,hW,ku,hc,q⟩:=h
 have hu:=hr.units0
 have hu64:=hr.units
 refine ⟨_,(aA (zW rfl rfl (fun pins R=>(aB (aU (pC (mg:=mg) rfl (ao 0) T.o_Ring bI (hr.mono (by decide)) tR (aa (ao 1) (aa (ao 2) aj)))))) (GD (K:=K) (i:=4) rfl T.x_NoPlace.c aO (by trivial) oV.nd rfl kz02 (fun x=>(aB (aK (Xr (ir (kI (dw (K:=K) rfl hu64) (uE (K:=K) rfl (ao 4)) (ao 3) (by walk_at "p")) (jQ (BZ (aF (di (K:=K) rfl) aO T.b_isinstance bj (aa (uE (K:=K) rfl (ao 4)) (aa (uB aO T.b_int El (by trivial) (by trivial)) aj)) (by trivial) (by trivial))))) (jQ (ir (kI Ew (ao 3) kE (by walk_at "p")) (jQ (kI Ew (uE (K:=K) rfl (ao 4)) kE (by walk_at "p"))))))))) (GF (K:=K) rfl T.x_PaneError aO (by trivial) (fun x=>(aB (aK kE))) zV))) (aB (aK kE))),?_⟩
 walk_at "s"
 obtain ⟨hs,hr',h0,dx,al,ap,h,ak,hx,hA⟩:=id hR
 refine ⟨x,dx,_,rfl,hx,Ka (by trivial),?_⟩
 walk_at "s"
 have kv:Kd K H v:=by
  rcases hc with rfl | ⟨rfl,_⟩
  ·exact hW.k
  ·exact .inl ⟨_,rfl⟩
 refine ⟨x,side,row,v,u,rfl,hR,kv,ku,?_,?_,?_⟩
 ·intro hv e H2 S2 X2
  obtain rfl:wr=v:=by
   rcases hc with rfl | ⟨rfl,_⟩
   ·rfl
   ·unfold inB at hv;simp at hv;omega
  refine ⟨_,e,rfl,rfl,?_⟩
  refine yM T.x_NoPlace.c.cl.cls T.u_NoPlace_NoPlace.mro ?_
  walk_at "s"
  refine ⟨e,_,_,_,rfl,X2,T.x_NoPlace.c.cl.cls,T.x_NoPlace.na _ (by simp),rfl,?_⟩
  walk_at "s"
  have hW2:=hW.same S2
  refine xq hW2 ?_
  walk_at "s"
  refine ⟨e,_,_,_,rfl,X2,T.x_NoPlace.c.cl.cls,T.x_NoPlace.na _ (by simp),rfl,?_⟩
  walk_at "s"
  rcases hW2.kd with rfl | ⟨T',ty,kk⟩
  ·refine jP (.bl _) (b:=true) (by rfl) ?_
   walk_at "s"
   rw [show (true == true)=true from rfl]
   walk_at "s"
   refine ⟨e,_,_,_,rfl,X2,T.x_NoPlace.c.cl.cls,T.x_NoPlace.na _ (by simp),rfl,?_⟩
   walk_at "s"
   exact q _ S2
  ·refine jP ty kk ?_
   walk_at "s"
   exact q _ S2
 ·intro hv hu' e H2 S2 X2
  obtain rfl:wr=u:=by
   rcases hc with rfl | ⟨_,h⟩
   ·rw [hW.no] at hv;cases hv
   ·exact h.symm
  refine ⟨_,e,rfl,rfl,?_⟩
  refine yM T.x_NoPlace.c.cl.cls T.u_NoPlace_NoPlace.mro ?_
  walk_at "s"
  refine ⟨e,_,_,_,rfl,X2,T.x_NoPlace.c.cl.cls,T.x_NoPlace.na _ (by simp),rfl,?_⟩
  walk_at "s"
  have hW2:=hW.same S2
  refine xq hW2 ?_
  walk_at "s"
  refine ⟨e,_,_,_,rfl,X2,T.x_NoPlace.c.cl.cls,T.x_NoPlace.na _ (by simp),rfl,?_⟩
  walk_at "s"
  rcases hW2.kd with rfl | ⟨T',ty,kk⟩
  ·refine jP (.bl _) (b:=true) (by rfl) ?_
   walk_at "s"
   rw [show (true == true)=true from rfl]
   walk_at "s"
   refine ⟨e,_,_,_,rfl,X2,T.x_NoPlace.c.cl.cls,T.x_NoPlace.na _ (by simp),rfl,?_⟩
   walk_at "s"
   exact q _ S2
  ·refine jP ty kk ?_
   walk_at "s"
   exact q _ S2
 ·intro p k e1 e2 _ _
  exfalso
  rcases hc with rfl | ⟨_,rfl⟩
  ·have:=hW.no p p
   rw [e1] at this
   unfold inB at this
   simp at this
  ·have:=hW.no k k
   rw [e2] at this
   unfold inB at this
   simp at this
def Wf (K:W.Frag) (mg:Str->Option Value):Sp:=fun vs H Q _=>∃ (x:Addr) (side row:Str) (wr:V),vs=[.ref x,wr]/\Rg mg H x side row/\Wr K H wr/\∀ H',Same H H'->Q (.bl true) H'
theorem nj:aC ["_law_ring","_law_place","e"] ["_law_ring","_law_place"] (az gJ):=⟨rfl,rfl,rfl,by trivial,rfl,by trivial,by trivial⟩
theorem jz (T:Txt K mg):Has P w K mg base 10 "_law_no_length" ["_law_ring","_law_place"] (Wf K mg):=by
 have bA:=bA (P:=P) (w:=w) (base:=base) T
 refine cz T.d_law_no_length nj (fun _ _ _ _ _ _ us hl=>L2.oW (fun _ _=>rfl) us hl) ?_ fun f cdv A outer s H vs Q E hr h=>?_
 ·rintro vs H Q E ⟨x,side,row,wr,rfl,_⟩;rfl
 obtain ⟨x,side,row,wr,rfl,hR,hW,q⟩:=h
 have hu:=hr.units0
 have hu64:=hr.units
 refine ⟨_,(aA (zW rfl rfl (fun pins R=>(aB (aU (pC (mg:=mg) rfl (ao 0) T.o_Ring bA (hr.mono (by decide)) tR (aa (ao 1) aj))))) (GD (K:=K) (i:=2) rfl T.x_NoPlace.c aO (by trivial) nj.nd rfl kz03 (fun x=>(aB (aK (kI (dw (K:=K) rfl hu64) (uE (K:=K) rfl (ao 2)) (ao 1) (by walk_at "p"))))) (GF (K:=K) rfl T.x_PaneError aO (by trivial) (fun x=>(aB (aK kE))) zV))) (aB (aK kE))),?_⟩
 walk_at "s"
 obtain ⟨hs,hr',h0,dx,al,ap,h,ak,hx,hA⟩:=id hR
 refine ⟨x,dx,_,rfl,hx,Ka (by trivial),?_⟩
 walk_at "s"
 refine ⟨x,side,row,wr,rfl,hR,hW.k,?_,?_⟩
 ·intro hv e H2 S2 X2
  refine ⟨_,e,rfl,rfl,?_⟩
  refine yM T.x_NoPlace.c.cl.cls T.u_NoPlace_NoPlace.mro ?_
  walk_at "s"
  refine ⟨e,_,_,_,rfl,X2,T.x_NoPlace.c.cl.cls,T.x_NoPlace.na _ (by simp),rfl,?_⟩
  walk_at "s"
  refine xq (hW.same S2) ?_
  walk_at "s"
  exact q _ S2
 ·intro p e1 _
  exfalso
  have:=hW.no p p
  rw [e1] at this
  unfold inB at this
  simp at this
theorem OD:(["_law_one_here"]:List Str).Nodup:=by trivial
theorem OJ:(["_law_k","_law_side","_law_row_here"]:List Str).Nodup:=by trivial
theorem Wg {side row:Str} (h1:Pln side) (h2:Pln row) {p k:Nat} {r:Str} (hp:p < row.cps.size) (hk:k<=row.cps.size) (hr:∀ j,j < row.cps.size->r.cps.toList.getD j 0=(row ++ row).cps.getD (p+j) 0):Ay side row p k=tb (Ow side.cps.toList r.cps.toList) 0 side.cps.size k:=by
 have a1:side.cps.size<=24:=h1.1
 have a2:row.cps.size<=24:=h2.1
 unfold Ay V2
 rw [Sw (by omega) (by omega) (by omega),show p+k - p=k by omega]
 refine HF (m:=side.cps.size) (n:=k) (fun i j hi hj=>?_) _ (YZ _) _ (YZ _)
 unfold xx Ow
 rw [Nat.zero_add,hr j (by omega),Ox hi]
theorem RN {side row:Str} (h1:Pln side) (h2:Pln row):Bdd (uv side row):=fun z hz=>by
 have a1:side.cps.size<=24:=h1.1
 have a2:row.cps.size<=24:=h2.1
 unfold uv at hz
 obtain ⟨p,hp,rfl⟩:=ZD.mp hz
 have hp:=Zj.mp hp
 unfold Ay V2
 rw [Sw (by omega) (by omega) (by omega)]
 have:=HH (xx side (row ++ row)) p side.cps.size (p+row.cps.size - p)
 omega
theorem Wh {L:List Nat} {i j:Nat} (hi:i < L.length) (hj:j < L.length):(L.drop i ++ L.take i)[j]?=(L ++ L)[i+j]?:=by
 by_cases h:j < L.length - i
 ·rw [Zm (by simp;omega),AaA,Zm (by omega)]
 ·rw [Zk (by simp;omega),AaI,List.getElem?_take,if_pos (by omega),Zk (by omega)]
  congr 1
  omega
def Bd (row:Str) (i:Nat):Str:=Txt.slice row (some (i:Int)) none ++ Txt.slice row none (some (i:Int))
theorem Be (row:Str) (i:Nat):(Bd row i).cps.toList=row.cps.toList.drop i ++ row.cps.toList.take i:=by
 unfold Bd
 rw [cps_append,Ex,Mz]
theorem Bf {row:Str} {i:Nat} (hi:i < row.cps.size):(Bd row i).length=row.cps.size:=by
 have h:=congrArg List.length (Be row i)
 rw [Z3,AaI,Aav] at h
 have h2:row.cps.toList.length=row.cps.size:=Zx
 have h3:(Bd row i).cps.toList.length=(Bd row i).length:=Zx
 omega
theorem HN {side row:Str} (h1:Pln side) (h2:Pln row) {i:Nat} (hi:i < row.cps.size):lH side.cps.toList (Bd row i).cps.toList side.length ((Bd row i).length+1)=Oz side row i:=by
 unfold lH Oz
 rw [Bf hi]
 refine Aar fun k hk=>?_
 have hk:=Zj.mp hk
 refine (Wg h1 h2 hi (by omega) fun j hj=>?_).symm
 have h2:row.cps.toList.length=row.cps.size:=Zx
 have h3:=gC row row
 rw [← Ox (by omega),YT,YT,Be,cps_append,Wh (by omega) (by omega)]
theorem Du (z:Str):(zY z none none (-1)).cps.toList=z.cps.toList.reverse:=by
 have e:∀ n:Nat,Builtin.Str.strSliceIndices none none (-1) n=(List.range n).map fun k=>n - 1 - k:=fun n=>by
  show sliceRange ((n:Int) - 1) (-1) (-1)=_
  unfold sliceRange
  rw [if_neg (by decide)]
  have ec:(if (n:Int) - 1 > -1 then ((n:Int) - 1 - -1 - -1 - 1) / (- -1) else 0).toNat=n:=by
   by_cases h:(n:Int) - 1 > -1
   ·rw [if_pos h]
    have:((n:Int) - 1 - -1 - -1 - 1) / (- -1)=n:=by
     rw [show (- -1:Int)=1 from rfl,Int.ediv_one];omega
    rw [this];simp
   ·rw [if_neg h]
    show 0=n
    omega
  show List.map _ (List.range (if (n:Int) - 1 > -1 then ((n:Int) - 1 - -1 - -1 - 1) / (- -1) else 0).toNat)=_
  rw [ec]
  refine Aar fun k hk=>?_
  have:=Zj.mp hk
  omega
 unfold zY
 rw [e,List.filterMap_map]
 show List.filterMap _ _=_
 refine AaU fun i=>?_
 have f:((List.range z.length).filterMap ((fun x=>z.cps[x]?) ∘ fun k=>z.length - 1 - k))=(List.range z.length).map fun k=>z.cps.toList.getD (z.length - 1 - k) 0:=by
  rw [← List.filterMap_eq_map]
  have gen:∀ (l:List Nat) (f g:Nat->Option Nat),(∀ k∈l,f k=g k)->l.filterMap f=l.filterMap g:=fun l f g h=>by
   induction l with
   | nil=>rfl
   | cons a l ih=>rw [Aaq,Aaq,h a (by simp),ih fun k hk=>h k (by simp [hk])]
  refine gen _ _ _ fun k hk=>?_
  have hk:k < z.cps.size:=Zj.mp hk
  have hk2:z.length=z.cps.size:=rfl
  show z.cps[z.length - 1 - k]?=some (z.cps.toList.getD (z.length - 1 - k) 0)
  rw [YT,hk2,Array.getElem?_toList,Array.getElem?_eq_getElem (by omega)];rfl
 rw [f]
 have hl:z.cps.toList.length=z.length:=by simp [Str.length]
 by_cases hi:i < z.length
 ·rw [Y8,Zi hi,List.getElem?_reverse (by omega),hl]
  show some (z.cps.toList.getD (z.length - 1 - i) 0)=_
  rw [YT,YX (by omega)];rfl
 ·rw [ZZ (by simp;omega),ZZ (by rw [List.length_reverse,hl];omega)]
def Bg (z:Str):Str:=zY z none none (-1)
theorem HQ (z:Str):(Bg z).length=z.length:=by
 have:=congrArg List.length (Du z)
 rw [List.length_reverse] at this
 simpa [Bg,Str.length] using this
theorem RP {z:Str} (h:Pln z):Pln (Bg z):=⟨by rw [HQ];exact h.1,fun c hc=>h.2 c (by unfold Bg at hc;rw [Du] at hc;exact Abb.mp hc)⟩
theorem Yz {side row:Str} (h1:Pln side) (h2:Pln row) (h0:0 < row.cps.size):lH side.cps.toList row.cps.toList side.length (row.length+1)=Oz side row 0:=by
 rw [← HN h1 h2 h0,Bf h0,Be,List.drop_zero,List.take_zero,ZJ]
 rfl
theorem RQ {xs:List V} {lo hi:Option Int} {v:V} (h:v∈o6 xs lo hi):v∈xs:=by
 unfold o6 at h
 exact List.mem_of_mem_drop (Aa4 h)
theorem Wr.non {H:Hp}:Wr K H .non:=⟨⟨.none,by rw [DR],rfl⟩,fun _ _=>rfl,.inr ⟨_,.non,by rfl⟩⟩
theorem Wr.tr {H:Hp}:Wr K H (.bl true):=⟨⟨.bool true,by rw [DR],rfl⟩,fun _ _=>rfl,.inl rfl⟩
theorem Wr.str {H:Hp}:Wr K H (.str (Str.ofString "0")):=⟨⟨.str (Str.ofString "0"),by rw [DR],by trivial⟩,fun _ _=>rfl,.inr ⟨_,.str _,by rfl⟩⟩
theorem Wr.lst {H:Hp} {a:Addr} (h:H a=some (.lst [.int 0])):Wr K H (.ref a):=⟨⟨.list [.int 0],by rw [DR];exact ⟨a,_,rfl,h,by rw [DRs];exact ⟨_,_,rfl,by rw [DR],by rw [DRs]⟩⟩,by trivial⟩,fun _ _=>rfl,.inr ⟨_,.lst h,by rfl⟩⟩
theorem Wr.tup {H:Hp} {a:Addr} (h:H a=some (.tup [.int 0,.int 0])):Wr K H (.ref a):=⟨⟨.tuple [.int 0,.int 0],by rw [DR];exact ⟨a,_,rfl,h,by rw [DRs];exact ⟨_,_,rfl,by rw [DR],by rw [DRs];exact ⟨_,_,rfl,by rw [DR],by rw [DRs]⟩⟩⟩,by trivial⟩,fun _ _=>rfl,.inr ⟨_,.tup h,by rfl⟩⟩
def Sy (K:W.Frag):Sp:=fun vs H Q _=>∃ (a:Addr) (ns:List Int),vs=[.ref a]/\SqL K H a (ns.map V.int)/\∀ H',Q (.bl true) H'
theorem jA:aC ["_law_script","_law_side","_law_row_here","_law_table","_law_due","_law_ring","_law_other","_law_there","_law_cell","_law_place","_law_many","_law_wrong"] ["_law_script"] (az wU):=⟨rfl,rfl,rfl,by trivial,rfl,by trivial,by trivial⟩
theorem Wi (T:Txt K mg) {f0:Addr} {fd0:FuncData} (F0:Fun K "law" "law" wU f0 fd0):FnOk P w K mg base Ir 21 f0 fd0 ["_law_script"] (Sy K):=by
 have j9:=j9 (P:=P) (w:=w) (base:=base) T
 have gG:=gG (P:=P) (w:=w) (base:=base) T
 have qi:=qi (P:=P) (w:=w) (base:=base) T
 have oN:=oN (P:=P) (w:=w) (base:=base) T
 have gK:=gK (P:=P) (w:=w) (base:=base) T
 have je:=je (P:=P) (w:=w) (base:=base) T
 have mj:=mj (P:=P) (w:=w) (base:=base) T
 have ni:=ni (P:=P) (w:=w) (base:=base) T
 have bf:=bf (P:=P) (w:=w) (base:=base) T
 have bA:=bA (P:=P) (w:=w) (base:=base) T
 have dU:=dU (P:=P) (w:=w) (base:=base) T
 have jz:=jz (P:=P) (w:=w) (base:=base) T
 have uV:=uV (P:=P) (w:=w) (base:=base) T
 refine okJ F0 jA ?_ fun f cdv A outer s H vs Q E hr h=>?_
 ·rintro vs H Q E ⟨a,ns,rfl,_⟩;rfl
 obtain ⟨a,ns,rfl,hS,q⟩:=h
 have hu:=hr.units0
 have hu64:=hr.units
 refine ⟨_,(aA (aM (i:=1) jA.nd rfl QQ (aJ j9 (hr.mono (by decide)) aO (aa (aJ gG (hr.mono (by decide)) aO (aa (ao 0) (aa aH aj)) (by trivial)) (aa aH aj)) (by trivial)) rfl) (aA (aM (i:=2) jA.nd rfl QQ (aJ qi (hr.mono (by decide)) aO (aa (aJ gG (hr.mono (by decide)) aO (aa (ao 0) (aa aH aj)) (by trivial)) aj) (by trivial)) rfl) (aA (Gs (i:=3) jA.nd rfl dj (sub:=[none,some 1,some 2]) (dg (N:=["_law_script","_law_side","_law_row_here","_law_table","_law_due","_law_ring","_law_other","_law_there","_law_cell","_law_place","_law_many","_law_wrong"]) (sc:=az wU) (N':=["_law_k","_law_side","_law_row_here"]) (by trivial)) rfl rfl rfl (iQ aO T.b_range (aa (aF (aG (K:=K) rfl) aO T.b_len aV (aa (cC 2) aj) (by trivial) (by trivial)) aj)) (fun C s₀ H₀ ex=>(vC 0 (by trivial) OJ)) (fun C s₀ H₀ ex=>gH) (fun C s₀ H₀ ex=>(aJ oN (hr.mono (by decide)) (Wm (by trivial)) (aa (oR 1 (by trivial)) (aa (aY aR (nJ (z7 (K:=K) rfl) (oR 2 (by trivial)) (ji (km 0 (by trivial))) jh) (nJ (z7 (K:=K) rfl) (oR 2 (by trivial)) jh (ji (km 0 (by trivial))))) aj)) (by trivial))) rfl) (aA (Gs (i:=4) jA.nd rfl dj (sub:=[none]) (dg (N:=["_law_script","_law_side","_law_row_here","_law_table","_law_due","_law_ring","_law_other","_law_there","_law_cell","_law_place","_law_many","_law_wrong"]) (sc:=az wU) (N':=["_law_one_here"]) (by trivial)) rfl rfl rfl (iw (K:=K) rfl (ao 3)) (fun C s₀ H₀ ex=>(vC 0 (by trivial) OD)) (fun C s₀ H₀ ex=>gH) (fun C s₀ H₀ ex=>(iu (K:=K) rfl (km 0 (by trivial)) (En rG aH))) rfl) (aA (aM (i:=5) jA.nd rfl dj (lU T.o_Ring gK (hr.mono (by decide)) aO (mW fun _ _=>rfl) (aa (cC 1) (aa (cC 2) aj)) (by trivial)) rfl) (aA (aM (i:=6) jA.nd rfl dj (lU T.o_Ring gK (hr.mono (by decide)) aO (mW fun _ _=>rfl) (aa (cC 2) (aa (Ck (cC 2) jh jh (ji (En rG aH))) aj)) (by trivial)) rfl) (aA (aM (i:=7) jA.nd rfl dj (iu (K:=K) rfl (aJ oN (hr.mono (by decide)) aO (aa (cC 2) (aa (Ck (cC 2) jh jh (ji (En rG aH))) aj)) (by trivial)) (En rG aH)) rfl) (aA (bK (lN (Eo (bJ (dw (K:=K) rfl hu64) (aY iM (aJ gG (hr.mono (by decide)) aO (aa (ao 0) (aa aH aj)) (by trivial)) aH) aH (by walk_at "p")) (zO (bW (bY (aJ je (hr.mono (by decide)) aO (aa (ao 5) (aa (ao 4) aj)) (by trivial))))))) (aB (aK kE)) bx) (aA (iR ZS rfl (iw (K:=K) rfl (nJ (z7 (K:=K) rfl) (ao 0) (ji aH) (ji aH))) (cY (i:=8) jA.nd rfl dj rfl) (aA (aM (i:=9) jA.nd rfl dj (aY ik (aY iM (aY jf (ao 8) aH) (aY aR (aF (aG (K:=K) rfl) aO T.b_len aV (aa (cC 2) aj) (by trivial) (by trivial)) aH)) aH) rfl) (aA (aM (i:=10) jA.nd rfl dj (aY ik (aY iM (aY jf (ao 8) aH) (aY aR (aF (aG (K:=K) rfl) aO T.b_len aV (aa (cC 2) aj) (by trivial) (by trivial)) aH)) aH) rfl) (aA (bK (lN (ph (bW (bY (aJ mj (hr.mono (by decide)) aO (aa (ao 5) (aa (ao 3) (aa (ao 9) (aa (ao 10) aj)))) (by trivial)))) (kJ (bW (bY (aJ ni (hr.mono (by decide)) aO (aa (ao 5) (aa (ao 3) (aa (ao 9) aj))) (by trivial))))))) (aB (aK kE)) bx) (aB (bK (lN (ph (bW (bY (aJ mj (hr.mono (by decide)) aO (aa (ao 5) (aa (ao 3) (aa (ao 10) (aa (ao 9) aj)))) (by trivial)))) (kJ (bW (bY (aJ bf (hr.mono (by decide)) aO (aa (lR (ao 6) T.o_Ring bA (hr.mono (by decide)) (mW fun _ _=>rfl) (aa aH aj)) (aa (ao 7) aj)) (by trivial))))))) (aB (aK kE)) bx)))))) (aA (iR ZS rfl (iw (K:=K) rfl (jm (aa Gp (aa oU (aa kE (aa (jm (aa aH aj)) (aa (Ca (aa aH (aa aH aj))) aj))))))) (cY (i:=11) jA.nd rfl dj rfl) (aA (bK (lN (ph (bW (bY (aJ dU (hr.mono (by decide)) aO (aa (ao 5) (aa (ao 11) (aa aH (aa (ao 11) aj)))) (by trivial)))) (kJ (bW (bY (aJ dU (hr.mono (by decide)) aO (aa (ao 5) (aa aH (aa (ao 11) (aa (ao 11) aj)))) (by trivial))))))) (aB (aK kE)) bx) (aB (bK (lN (ph (bW (bY (aJ dU (hr.mono (by decide)) aO (aa (ao 5) (aa (ao 11) (aa (En rG aH) (aa (ao 11) aj)))) (by trivial)))) (kJ (bW (bY (aJ jz (hr.mono (by decide)) aO (aa (ao 5) (aa (ao 11) aj)) (by trivial))))))) (aB (aK kE)) bx)))) (aB (aK (ir (aJ uV (hr.mono (by decide)) aO (aa (ao 5) (aa (ao 4) aj)) (by trivial)) (ir (aJ ni (hr.mono (by decide)) aO (aa (ao 5) (aa (ao 3) (aa (aF (aG (K:=K) rfl) aO T.b_len aV (aa (cC 2) aj) (by trivial) (by trivial)) aj))) (by trivial)) (jQ (aJ ni (hr.mono (by decide)) aO (aa (ao 5) (aa (ao 3) (aa aH aj))) (by trivial))))))))))))))))),?_⟩
 walk_at "s"
 have hz:20000<=sizeLine:=by decide
 refine ⟨a,ns,0,rfl,hS,by omega,fun c0=>?_⟩
 walk_at "s"
 refine ⟨c0,rfl,fun side H1 S1 hs=>?_⟩
 walk_at "s"
 refine ⟨a,ns,1,rfl,S1.seq hS,by omega,fun c1=>?_⟩
 walk_at "s"
 refine ⟨c1,rfl,fun row H2 S2 hr' h0=>?_⟩
 walk_at "s"
 have a1:side.length<=24:=hs.1
 have a2:row.length<=24:=hr'.1
 have e2:row.length=row.cps.size:=rfl
 refine bQ (by omega) ?_
 walk_at "s"
 refine ⟨_,rfl,by omega,by omega,?_⟩
 rw [show ((row.length:Int)).toNat=row.cps.size from rfl]
 refine yP (n:=row.cps.size) (fun i ys G=>Same H2 G/\ys.length=i/\∀ k,k < i->∃ b,ys[k]?=some (.ref b)/\G b=some (.lst ((Oz side row k).map V.int))) (by omega) ⟨Same.refl _,rfl,fun k hk=>absurd hk (Nat.not_lt_zero _)⟩ ?_ ?_ ?_
 ·rintro i ys G ⟨_,h,_⟩
  omega
 ·rintro i ys G hi ⟨sG,hl,hys⟩
  walk_at "s"
  refine ⟨KeepSt.set rfl,?_⟩
  walk_at "s"
  refine Ni (by omega) ?_
  walk_at "s"
  refine Ni (by omega) ?_
  walk_at "s"
  rw [show (0:Int)+(i:Int)=(i:Int) by omega]
  have lr:=Bf hi
  refine uA (by have e:=gC (Txt.slice row (some (i:Int)) none) (Txt.slice row none (some (i:Int)));unfold Bd at lr;have e3:∀ z:Str,z.length=z.cps.size:=fun _=>rfl;rw [e3] at lr ⊢;rw [e3];omega) ?_
  walk_at "s"
  refine ⟨side,Bd row i,rfl,a1,by omega,fun r G2 nr sr hrr=>?_⟩
  walk_at "s"
  rw [HN hs hr' hi] at hrr
  refine ⟨sG.trans sr,by simp;omega,fun k hk=>?_⟩
  by_cases ek:k=i
  ·subst ek
   exact ⟨r,by rw [Zk (by omega),hl,Aa8];rfl,hrr⟩
  ·obtain ⟨b,e,hb⟩:=hys k (by omega)
   exact ⟨b,by rw [Zm (by omega)];exact e,sr _ _ hb⟩
 rintro ys G D H3 ⟨sG,hl,hys⟩ nD S3 hD
 try walk_at "s"
 have hT3:Tbl H3 D side row:=⟨ys,hD,hl,fun k hk=>by
  obtain ⟨b,e,hb⟩:=hys k hk
  exact ⟨b,e,S3 _ _ hb⟩⟩
 refine .inl ⟨D,rfl,⟨_,SqL.of hD⟩,?_⟩
 refine Fb (xs:=ys) (fun i=>.int (Ay side row i row.cps.size)) (by omega) (SqL.of hD) ?_ ?_
 ·intro i v hv
  have hi:i < row.cps.size:=by have:=(Y4.mp hv).1;omega
  obtain ⟨b,e,hb⟩:=hys i hi
  rw [hv] at e
  cases e
  walk_at "s"
  refine ⟨KeepSt.set rfl,?_⟩
  walk_at "s"
  refine bG (SqL.of (S3 _ _ hb)) xn ?_
  walk_at "s"
  exact ⟨rfl,nP rfl⟩
 intro d H4 nd S4 hd
 rw [hl] at hd
 replace hd:H4 d=some (.lst ((uv side row).map V.int)):=by rw [hd];unfold uv;rw [Aas];rfl
 have hT4:=hT3.same S4
 have U4:Same H H4:=S1.trans (S2.trans (sG.trans (S3.trans S4)))
 have hS4:=U4.seq hS
 clear hT3 hys nD hD hl S1 S2 S3 sG
 try walk_at "s"
 intro x dx nx ndx ne
 refine ⟨x,dx,side,row,rfl,aq,hs,hr',h0,fun H5 c5 hR5=>⟨rfl,?_⟩⟩
 walk_at "s"
 have S5:=made nx ndx c5
 have lv:(Bg row).length=row.length:=HQ row
 have ev:(Bg row).length=(Bg row).cps.size:=rfl
 have hv:=RP hr'
 refine ⟨row,-1,rfl,rfl,by decide,by decide,by show (Bg row).length<=_;omega,?_⟩
 walk_at "s"
 intro x2 dx2 nx2 ndx2 ne2
 refine ⟨x2,dx2,row,Bg row,rfl,aq,hr',hv,by omega,fun H6 c6 hR6=>⟨rfl,?_⟩⟩
 walk_at "s"
 have S6:=made nx2 ndx2 c6
 refine ⟨row,-1,rfl,rfl,by decide,by decide,by show (Bg row).length<=_;omega,?_⟩
 walk_at "s"
 refine ⟨row,Bg row,rfl,a2,by omega,fun q7 H7 n7 S7 h7=>?_⟩
 walk_at "s"
 rw [Yz hr' hv (by omega)] at h7
 refine bG (SqL.of h7) xn ?_
 walk_at "n"
 have hRx:=hR5.same (S6.trans S7)
 have hRy:=hR6.same S7
 have U7:=S5.trans (S6.trans S7)
 have hT7:=hT4.same U7
 have hd7:=U7 _ _ hd
 have hS7:=U7.seq hS4
 have hB:=RN hs hr'
 clear hR5 hR6 c5 c6 hT4 hd hS4 nx ndx ne nx2 ndx2 ne2 h7 S5 S6 S7 U7
 with_reducible refine MF (fun U H8=>Same H7 H8/\U=[some (.ref a),some (.str side),some (.str row),some (.ref D),some (.ref d),some (.ref x),some (.ref x2),some (.int (Ay row (Bg row) 0 (Bg row).cps.size)),none,none,none,none]) ?_ ?_
 rotate_left
 ·intro N hN
  walk_at "n"
  refine ⟨a,ns,2,rfl,hS7,by omega,fun c2=>?_⟩
  walk_at "n"
  refine rK (fun h=>?_) (fun h=>?_)
  ·walk_at "n"
   refine ⟨x,d,side,row,rfl,hRx,hd7,hB,fun H8 S8=>?_⟩
   walk_at "n"
   exact hN _ _ ⟨S8,rfl⟩
  ·walk_at "n"
   exact hN _ _ ⟨Same.refl _,rfl⟩
 rintro U H8 ⟨S8,rfl⟩
 have hRx:=hRx.same S8
 have hRy:=hRy.same S8
 have hT8:=hT7.same S8
 have hd8:=S8 _ _ hd7
 have hS8:=S8.seq hS7
 clear hT7 hd7 hS7 S8
 walk_at "s"
 refine .inl (BW hS8 fun sl nsl=>?_)
 walk_at "s"
 have S9:=(Same.refl H8).upd nsl (o:=.lst (o6 (ns.map V.int) (some 2) (some 63)))
 have hsl:=aq (H:=H8) (a:=sl) (o:=.lst (o6 (ns.map V.int) (some 2) (some 63)))
 generalize upd H8 sl (.lst (o6 (ns.map V.int) (some 2) (some 63)))=H9 at S9 hsl ⊢
 have hRx:=hRx.same S9
 have hRy:=hRy.same S9
 have hT9:=hT8.same S9
 have hd9:=S9 _ _ hd8
 clear hT8 hd8 hS8 S9
 refine .inl ⟨sl,rfl,⟨_,SqL.of hsl⟩,?_⟩
 refine v5 (xs:=o6 (ns.map V.int) (some 2) (some 63)) (fun k U G=>Same H9 G/\∃ x8 x9 x10 x11,U=[some (.ref a),some (.str side),some (.str row),some (.ref D),some (.ref d),some (.ref x),some (.ref x2),some (.int (Ay row (Bg row) 0 (Bg row).cps.size)),x8,x9,x10,x11])
  ⟨Same.refl H9,_,_,_,_,rfl⟩ (fun i U G _ h=>SqL.of (h.1 _ _ hsl)) ?_ ?_
 ·rintro k v U G hv ⟨s,x8,x9,x10,x11,rfl⟩
  obtain ⟨c,_,rfl⟩:=ZD.mp (RQ (Zd hv))
  have hRg:=hRx.same s
  have hRh:=hRy.same s
  have hTg:=hT9.same s
  walk_at "s"
  refine bQ (by omega) ?_
  walk_at "s"
  refine bQ (by omega) ?_
  walk_at "s"
  refine ⟨x,D,side,row,_,_,rfl,hRg,hTg,fun G1 s1=>?_⟩
  walk_at "s"
  refine ⟨x,D,side,row,_,rfl,hRg.same s1,hTg.same s1,fun G2 s2=>?_⟩
  walk_at "s"
  have u2:=s1.trans s2
  refine ⟨x,D,side,row,_,_,rfl,hRg.same u2,hTg.same u2,fun G3 s3=>?_⟩
  walk_at "s"
  have u3:=u2.trans s3
  have hR3:=hRh.same u3
  obtain ⟨_,_,_,dy,yl,yp,yh,yk,hy,_⟩:=id hR3
  refine ⟨x2,dy,_,rfl,hy,Ka (by trivial),?_⟩
  walk_at "s"
  refine ⟨x2,row,Bg row,.int 0,rfl,hR3,.inl ⟨_,rfl⟩,fun hv=>?_,fun p e hp=>?_⟩
  ·unfold inB at hv
   simp at hv
   omega
  ·obtain rfl:p=0:=by injection e with e;omega
   walk_at "s"
   refine ⟨_,_,rfl,?_⟩
   walk_at "s"
   rw [Y7 rfl]
   walk_at "s"
   exact ⟨s.trans u3,_,_,_,_,rfl⟩
 rintro U G ⟨s,x8,x9,x10,x11,rfl⟩
 have hRx:=hRx.same s
 have hT9:=hT9.same s
 have hd9:=s _ _ hd9
 clear s hsl
 walk_at "s"
 refine cG rfl fun l0 G1 _ s1 hl0=>?_
 walk_at "s"
 refine cG rfl fun t0 G2 _ s2 ht0=>?_
 walk_at "s"
 refine cG rfl fun w0 G3 _ s3 hw0=>?_
 walk_at "s"
 have u3:=s1.trans (s2.trans s3)
 have hW:∀ v∈([.non,.str (Str.ofString "0"),.bl true,.ref l0,.ref t0]:List V),Wr K G3 v:=fun v hv=>by
  simp only [Za,Zz,or_false] at hv
  rcases hv with rfl | rfl | rfl | rfl | rfl
  ·exact .non
  ·exact .str
  ·exact .tr
  ·exact .lst ((s2.trans s3) _ _ hl0)
  ·exact .tup (s3 _ _ ht0)
 have hRx:=hRx.same u3
 have hT9:=hT9.same u3
 have hd9:=u3 _ _ hd9
 clear u3 s1 s2 s3 hl0 ht0
 refine .inl ⟨w0,rfl,⟨_,SqL.of hw0⟩,?_⟩
 refine v5 (xs:=[.non,.str (Str.ofString "0"),.bl true,.ref l0,.ref t0]) (fun k U G=>Same G3 G/\∃ x8 x9 x10 x11,U=[some (.ref a),some (.str side),some (.str row),some (.ref D),some (.ref d),some (.ref x),some (.ref x2),some (.int (Ay row (Bg row) 0 (Bg row).cps.size)),x8,x9,x10,x11])
  ⟨Same.refl G3,_,_,_,_,rfl⟩ (fun i U G _ h=>SqL.of (h.1 _ _ hw0)) ?_ ?_
 ·rintro k v U G4 hv ⟨s4,x8,x9,x10,x11,rfl⟩
  have hw:=hW v (Zd hv)
  walk_at "s"
  refine ⟨x,side,row,v,.int 0,v,rfl,hRx.same s4,hw.same s4,.inl ⟨_,rfl⟩,.inl rfl,fun G5 s5=>?_⟩
  walk_at "s"
  have u5:=s4.trans s5
  refine ⟨x,side,row,.int 0,v,v,rfl,hRx.same u5,hw.same u5,(hw.same u5).k,.inr ⟨rfl,rfl⟩,fun G6 s6=>?_⟩
  walk_at "s"
  have u6:=u5.trans s6
  refine ⟨x,side,row,v,.int (-1),v,rfl,hRx.same u6,hw.same u6,.inl ⟨_,rfl⟩,.inl rfl,fun G7 s7=>?_⟩
  walk_at "s"
  have u7:=u6.trans s7
  refine ⟨x,side,row,v,rfl,hRx.same u7,hw.same u7,fun G8 s8=>?_⟩
  walk_at "s"
  exact ⟨u7.trans s8,_,_,_,_,rfl⟩
 rintro U G4 ⟨s4,x8,x9,x10,x11,rfl⟩
 walk_at "s"
 refine ⟨x,d,side,row,rfl,hRx.same s4,s4 _ _ hd9,hB,fun G5 s5=>?_⟩
 walk_at "s"
 have u5:=s4.trans s5
 refine bQ (by omega) ?_
 walk_at "s"
 refine ⟨x,D,side,row,_,rfl,hRx.same u5,hT9.same u5,fun G6 s6=>?_⟩
 walk_at "s"
 have u6:=u5.trans s6
 refine ⟨x,D,side,row,_,rfl,hRx.same u6,hT9.same u6,fun G7 s7=>?_⟩
 walk_at "s"
 exact q _
end
end My
namespace PySem.W.Fast
def tw8911577888295561694:=0
def tw1061883659950085402:=0
def tw5137146619662071204:=0
def tw12435280175344141473:=0
def tw18175105677127322945:=0
def tw575508402323326389:=0
def tw4271523063632825826:=0
def tw11852677424045150757:=0
def tw7122067970924490246:=0
def tw205918111536576258:=0
def tw16023876882545907988:=0
def tw9429259663743044653:=0
def tw4911451103571240126:=0
def tw18205605557110579388:=0
def tw17750978722679361802:=0
def tw301149334454229220:=0
def tw7202296445198462412:=0
def tw15394610827971349685:=0
def tw125558717648955560:=0
def tw8687306062891264865:=0
def tw2069502492494934730:=0
def tw15567156991940684405:=0
def tw12673430794815066495:=0
def tw6957576420397687539:=0
def tw7186745363177703071:=0
def tw15730887681877722415:=0
def tw5888467755663983530:=0
def tw14150416997776766999:=0
def tw578320466452539654:=0
def tw3433345680168856051:=0
def tw17057808465096968582:=0
def tw4055755673255704517:=0
def tw14675586575465947237:=0
def tw12850220040036060511:=0
def tw5318446161433388369:=0
def tw17059055460261610606:=0
def tw18261537757954750853:=0
def tw1311102597059421706:=0
def tw9084523691783037873:=0
def tw18252658594951580611:=0
def tw1244535070687052896:=0
def tw11026912724150369453:=0
def tw2593310782640326143:=0
def tw12070154873727258064:=0
def tw10608637718068862139:=0
def tw7154097702542931061:=0
def tw6436093781791069351:=0
def tw13556096698699792381:=0
def tw4467726043059772312:=0
def tw6719763769063401811:=0
def tw15507751134785429394:=0
def tw16937016145600728882:=0
def tw14397848673162924051:=0
def tw4391159853481736047:=0
def tw14206090621853819435:=0
def tw3052075731951290785:=0
def tw17973798533884575775:=0
def tw7472594194626473566:=0
def tw7459572655640357564:=0
def tw10093341889469465418:=0
def tw3029798839817346669:=0
def tw1740925387902452548:=0
def tw9481289299225645710:=0
def tw14675775827332516862:=0
def tw17758570777558536450:=0
def tw12938180047261846056:=0
def tw214676495296523098:=0
def tw10871411127065521775:=0
def tw720527389683300752:=0
def tw12587763433516367236:=0
def tw16102321514319690152:=0
def tw10206005661800007469:=0
def tw10697375356082719487:=0
def tw7361725533312970636:=0
def tw8613400323306360615:=0
def tw5722984339779372419:=0
def tw12889180955324578674:=0
def tw5800272436750504402:=0
def tw639687260083900191:=0
def tw7511839428839004387:=0
def tw12578710734530747690:=0
def tw10467385599443063099:=0
def tw11730006867949387390:=0
def tw14200928271480733830:=0
def tw11390483108522166848:=0
def tw6324346840333842531:=0
def tw6360922819093518051:=0
def tw5458283065906006723:=0
def tw3632908317818019659:=0
def tw18268087267138939585:=0
def tw16734266171188523321:=0
def tw15382693947112255085:=0
def tw9054520797916550646:=0
def tw5205190460562859827:=0
def tw17836514349326439451:=0
def tw17052239734605467928:=0
def tw17466126910853166019:=0
def tw15227704741620902703:=0
def tw11303812532106468682:=0
def tw8451353490622493268:=0
def tw9505356564920990879:=0
def tw3922453961037400526:=0
def tw8653659569113825531:=0
def tw7761210030288034767:=0
def tw14178836668007543655:=0
def tw11998951446606828489:=0
def tw7630402346958166181:=0
def tw3353890278365611027:=0
def tw424080787929448663:=0
def tw6831002413236116183:=0
def tw9134296889066901015:=0
def tw953557206418300690:=0
def tw5855150376379343452:=0
def tw1451634332159161271:=0
def tw17470850347125947073:=0
def tw13601896575209992673:=0
def tw14054822747603725009:=0
def tw6283388426756278442:=0
def tw5566130082313313891:=0
def tw15834274906671577794:=0
def tw12393084269014834806:=0
def tw15041709809330512141:=0
def tw3430661085541492119:=0
def tw4826619393735600453:=0
def tw13038323352432252517:=0
def tw9446701973340730979:=0
def tw17143219113204665991:=0
def tw2691696719229280016:=0
def tw4848772977283262947:=0
def tw10180478328627093312:=0
def tw1152867483313859193:=0
def tw12287046082111564007:=0
def tw13407170702098244268:=0
def tw16198034291980355864:=0
def tw7513060013617895033:=0
def tw16738318472727289716:=0
def tw5091757245014311786:=0
def tw11105942353646783446:=0
def tw2239752958313437812:=0
def tw1939574863154643148:=0
def tw9491529604750153830:=0
def tw6816896489947576606:=0
def tw7520747926859773420:=0
def tw14989468370161927691:=0
def tw8623937985687305958:=0
def tw2173003507625668999:=0
def tw10256790461771207197:=0
def tw15427323027894250550:=0
def tw5407325983084686780:=0
def tw9435498699948248064:=0
def tw16726223776181571501:=0
def tw9003754499713937351:=0
def tw8790894914481489666:=0
def tw13872992225166970144:=0
def tw6251060071934394910:=0
def tw3986367995081419597:=0
def tw13358131128444510320:=0
def tw14114970618654648696:=0
def tw3764884009302416888:=0
def tw17836506842927613222:=0
def tw496348677643502156:=0
def tw16936717867263194862:=0
def tw7422010872266946060:=0
def tw1917881303846362416:=0
def tw13007592742991021397:=0
def tw9708987276000810887:=0
def tw8800115483888487024:=0
def tw4808767770526681936:=0
def tw10990960703631534553:=0
def tw6511967797120604142:=0
def tw14432790609852528353:=0
def tw1693889123675137641:=0
def tw10806349872342026266:=0
def tw16241528557888536394:=0
def tw13540871591752803067:=0
def tw5090843165441532203:=0
def tw6820047356467182773:=0
def tw8078101413573819954:=0
def tw10151724653722813447:=0
def tw11008059297888559532:=0
def tw13256713850138640322:=0
def tw4341443313977660725:=0
def tw10649940872226905752:=0
def tw17283917308191833125:=0
def tw16023763910819047889:=0
def tw12042503698744935363:=0
def tw5474258121839372512:=0
def tw4483280347304496876:=0
def tw2492277185760157150:=0
def tw15647415426059297508:=0
def tw13152062613776439818:=0
def tw3080084635078055987:=0
def tw8728837719318551937:=0
def tw14742906112148036696:=0
def tw9691763960333773228:=0
def tw11232196713017094850:=0
def tw90868851421927863:=0
def tw11035406598976745476:=0
def tw3035674840389572798:=0
def tw16337603040742617012:=0
def tw3058244642919553137:=0
def tw2153797981260667959:=0
def tw30352524258126776:=0
def tw15180305446601109970:=0
def tw4599564321071958997:=0
def tw8392676993368933217:=0
def tw8362051776443525096:=0
def tw7828685053090631101:=0
def tw13136145760618183793:=0
def tw5056466157722499096:=0
def tw13640751732356547447:=0
def tw1842781485225785475:=0
def tw14743242145493860751:=0
def tw3913743959181760428:=0
def tw4947664898548465796:=0
def tw8970007769694976197:=0
def tw4668395932876134077:=0
def tw14003704961398623125:=0
def tw7179585679326465029:=0
def tw4738205060548268331:=0
def tw9014455744832993415:=0
def tw3763190016637032421:=0
def tw5714568818280211680:=0
def tw1074771097309931690:=0
def tw5227825864005633949:=0
def tw10285664118889490463:=0
def tw8625300748953828829:=0
def tw4183408708233814177:=0
def tw4070152199672439241:=0
def tw18320458849669332690:=0
def tw15926011930503568108:=0
def tw2185207720059604395:=0
def tw14595465669041271069:=0
def tw15273589910973405218:=0
def tw15960301827486785077:=0
def tw469992207931700090:=0
def tw9739518400387763679:=0
def tw11220944781106778215:=0
def tw6559698257716855613:=0
def tw12837485795417334326:=0
def tw3999960942711102169:=0
def tw7950723408734222281:=0
def tw16895525980473716913:=0
def tw11203615163512098577:=0
def tw4093188254279754498:=0
def tw10485627784458270283:=0
def tw969794750793162132:=0
def tw2986312031717890526:=0
def tw9144686623779355563:=0
def tw17387084225702985537:=0
def tw14346867305300585364:=0
def tw10835513686180481092:=0
def tw6330974796889140255:=0
def tw12778403526280675150:=0
def tw6089397357060103813:=0
def tw1886765963205375610:=0
def tw17596435949176277005:=0
def tw13522880381070212360:=0
def tw861767815529911705:=0
def tw5517617984762316528:=0
def tw12472268108601757393:=0
def tw9665826516194511647:=0
def tw2686430515681584778:=0
def tw795364651916564350:=0
def tw4078218465110826824:=0
def tw6460532720886999771:=0
def tw6810660830286712930:=0
def tw17950179958644286412:=0
def tw11305793159580023871:=0
def tw6958677780649194466:=0
def tw94096607341897203:=0
def tw17802285509741721645:=0
def tw13001657459365586008:=0
def tw10330808834311756305:=0
def tw548038775031224924:=0
def tw17313382502740599181:=0
def tw3110797684398303250:=0
def tw2707406556049004384:=0
def tw3242843376567106894:=0
def tw252311586125220356:=0
def tw16051897570152426889:=0
def tw4388666714796033624:=0
def tw11239846031572036819:=0
def tw7927372882458221982:=0
def tw16570492842612560977:=0
def tw16376310300387489458:=0
def tw15266867601474278466:=0
def tw3534617281109081172:=0
def tw16794506027703564117:=0
end PySem.W.Fast
open PySem PySem.W PyProof.Rows
set_option maxRecDepth 100000 in
set_option maxHeartbeats 0 in
theorem PySem.Challenge.cw_panethread_k77_lengths_of_openings_holds : PySem.Challenge.rw_panethread_k77_lengths_of_openings.Holds := by
 w_on;o_law;k_head;(case hw=>w_witness2)
 k_fill
 refine L2.Xv (l:=PySem.Challenge.rw_panethread_k77_lengths_of_openings) (st:=My.wU) (k:=21) (x:="_law_script") (sp:=My.Sy) rfl rfl rfl ⟨rfl,by decide,by decide,rfl⟩ (fun w h Y=>PySem.W.kIn_of Y) (fun _ _ _ _ _ _ us hl=>L2.ie (fun _=>rfl) us hl) ?F (fun K H a ns hl hS=>⟨a,ns,rfl,hS,fun _=>rfl⟩)
 case F=>
  intro w mg h KX G
  have b_ValueError:mg "ValueError"=none:=by
   refine' ZL KX G ?a
   (case a=>k_is)
  have b_all:mg "all"=none:=by
   refine' ZL KX G ?a
   (case a=>k_is)
  have b_bool:mg "bool"=none:=by
   refine' ZL KX G ?a
   (case a=>k_is)
  have b_enumerate:mg "enumerate"=none:=by
   refine' ZL KX G ?a
   (case a=>k_is)
  have b_int:mg "int"=none:=by
   refine' ZL KX G ?a
   (case a=>k_is)
  have b_isinstance:mg "isinstance"=none:=by
   refine' ZL KX G ?a
   (case a=>k_is)
  have b_len:mg "len"=none:=by
   refine' ZL KX G ?a
   (case a=>k_is)
  have b_list:mg "list"=none:=by
   refine' ZL KX G ?a
   (case a=>k_is)
  have b_max:mg "max"=none:=by
   refine' ZL KX G ?a
   (case a=>k_is)
  have b_range:mg "range"=none:=by
   refine' ZL KX G ?a
   (case a=>k_is)
  have b_reversed:mg "reversed"=none:=by
   refine' ZL KX G ?a
   (case a=>k_is)
  have b_str:mg "str"=none:=by
   refine' ZL KX G ?a
   (case a=>k_is)
  have b_tuple:mg "tuple"=none:=by
   refine' ZL KX G ?a
   (case a=>k_is)
  have c_LETTERS:∃ t,mg "LETTERS"=some (.str "abcdefghijklmnopqrstuvwxyz" t):=by
   refine' L2.pB KX G ?a ?h
   (case a=>k_is);(case h=>exact ⟨_,by with_unfolding_all rfl⟩)
  have c_MOST_LETTERS:∃ t,mg "MOST_LETTERS"=some (.int 24 t):=by
   refine' L2.pB KX G ?a ?h
   (case a=>k_is);(case h=>exact ⟨_,by with_unfolding_all rfl⟩)
  have c_MOST_LINES:∃ t,mg "MOST_LINES"=some (.int 96 t):=by
   refine' L2.pB KX G ?a ?h
   (case a=>k_is);(case h=>exact ⟨_,by with_unfolding_all rfl⟩)
  have c_MOST_SIGNS:∃ t,mg "MOST_SIGNS"=some (.int 48 t):=by
   refine' L2.pB KX G ?a ?h
   (case a=>k_is);(case h=>exact ⟨_,by with_unfolding_all rfl⟩)
  have c_POINT:∃ t,mg "POINT"=some (.str "." t):=by
   refine' L2.pB KX G ?a ?h
   (case a=>k_is);(case h=>exact ⟨_,by with_unfolding_all rfl⟩)
  have d_is_number:L2.b7 (L2.KOf KX) mg "is_number" My.pJ:=by
   dsimp only [L2.KOf]
   refine' L2.aW KX G ?a ?l ?c ?k
   (case a=>k_is);(case l=>k_is);(case c=>k_is);(case k=>k_is)
  have d_is_within:L2.b7 (L2.KOf KX) mg "is_within" My.pK:=by
   dsimp only [L2.KOf]
   refine' L2.aW KX G ?a ?l ?c ?k
   (case a=>k_is);(case l=>k_is);(case c=>k_is);(case k=>k_is)
  have d_is_letter:L2.b7 (L2.KOf KX) mg "is_letter" My.pL:=by
   dsimp only [L2.KOf]
   refine' L2.aW KX G ?a ?l ?c ?k
   (case a=>k_is);(case l=>k_is);(case c=>k_is);(case k=>k_is)
  have d_is_sign:L2.b7 (L2.KOf KX) mg "is_sign" My.uL:=by
   dsimp only [L2.KOf]
   refine' L2.aW KX G ?a ?l ?c ?k
   (case a=>k_is);(case l=>k_is);(case c=>k_is);(case k=>k_is)
  have d_is_span:L2.b7 (L2.KOf KX) mg "is_span" My.uM:=by
   dsimp only [L2.KOf]
   refine' L2.aW KX G ?a ?l ?c ?k
   (case a=>k_is);(case l=>k_is);(case c=>k_is);(case k=>k_is)
  have d_need_place:L2.b7 (L2.KOf KX) mg "need_place" My.nU:=by
   dsimp only [L2.KOf]
   refine' L2.aW KX G ?a ?l ?c ?k
   (case a=>k_is);(case l=>k_is);(case c=>k_is);(case k=>k_is)
  have d_need_span:L2.b7 (L2.KOf KX) mg "need_span" My.pM:=by
   dsimp only [L2.KOf]
   refine' L2.aW KX G ?a ?l ?c ?k
   (case a=>k_is);(case l=>k_is);(case c=>k_is);(case k=>k_is)
  have d_need_sign:L2.b7 (L2.KOf KX) mg "need_sign" My.pN:=by
   dsimp only [L2.KOf]
   refine' L2.aW KX G ?a ?l ?c ?k
   (case a=>k_is);(case l=>k_is);(case c=>k_is);(case k=>k_is)
  have d_is_row:L2.b7 (L2.KOf KX) mg "is_row" My.tX:=by
   dsimp only [L2.KOf]
   refine' L2.aW KX G ?a ?l ?c ?k
   (case a=>k_is);(case l=>k_is);(case c=>k_is);(case k=>k_is)
  have d_is_plain:L2.b7 (L2.KOf KX) mg "is_plain" My.nY:=by
   dsimp only [L2.KOf]
   refine' L2.aW KX G ?a ?l ?c ?k
   (case a=>k_is);(case l=>k_is);(case c=>k_is);(case k=>k_is)
  have d_need_row:L2.b7 (L2.KOf KX) mg "need_row" My.rT:=by
   dsimp only [L2.KOf]
   refine' L2.aW KX G ?a ?l ?c ?k
   (case a=>k_is);(case l=>k_is);(case c=>k_is);(case k=>k_is)
  have d_need_rows:L2.b7 (L2.KOf KX) mg "need_rows" My.pO:=by
   dsimp only [L2.KOf]
   refine' L2.aW KX G ?a ?l ?c ?k
   (case a=>k_is);(case l=>k_is);(case c=>k_is);(case k=>k_is)
  have d_need_plain:L2.b7 (L2.KOf KX) mg "need_plain" My.nZ:=by
   dsimp only [L2.KOf]
   refine' L2.aW KX G ?a ?l ?c ?k
   (case a=>k_is);(case l=>k_is);(case c=>k_is);(case k=>k_is)
  have d_is_turning:L2.b7 (L2.KOf KX) mg "is_turning" My.n6:=by
   dsimp only [L2.KOf]
   refine' L2.aW KX G ?a ?l ?c ?k
   (case a=>k_is);(case l=>k_is);(case c=>k_is);(case k=>k_is)
  have d_need_turning:L2.b7 (L2.KOf KX) mg "need_turning" My.lg:=by
   dsimp only [L2.KOf]
   refine' L2.aW KX G ?a ?l ?c ?k
   (case a=>k_is);(case l=>k_is);(case c=>k_is);(case k=>k_is)
  have d_straight:L2.b7 (L2.KOf KX) mg "straight" My.rW:=by
   dsimp only [L2.KOf]
   refine' L2.aW KX G ?a ?l ?c ?k
   (case a=>k_is);(case l=>k_is);(case c=>k_is);(case k=>k_is)
  have d_opposite:L2.b7 (L2.KOf KX) mg "opposite" My.rY:=by
   dsimp only [L2.KOf]
   refine' L2.aW KX G ?a ?l ?c ?k
   (case a=>k_is);(case l=>k_is);(case c=>k_is);(case k=>k_is)
  have d_counts:L2.b7 (L2.KOf KX) mg "counts" My.tY:=by
   dsimp only [L2.KOf]
   refine' L2.aW KX G ?a ?l ?c ?k
   (case a=>k_is);(case l=>k_is);(case c=>k_is);(case k=>k_is)
  have d_do_steps:L2.b7 (L2.KOf KX) mg "do_steps" My.rZ:=by
   dsimp only [L2.KOf]
   refine' L2.aW KX G ?a ?l ?c ?k
   (case a=>k_is);(case l=>k_is);(case c=>k_is);(case k=>k_is)
  have d_steps_of:L2.b7 (L2.KOf KX) mg "steps_of" My.sy:=by
   dsimp only [L2.KOf]
   refine' L2.aW KX G ?a ?l ?c ?k
   (case a=>k_is);(case l=>k_is);(case c=>k_is);(case k=>k_is)
  have d_need_alike:L2.b7 (L2.KOf KX) mg "need_alike" My.n8:=by
   dsimp only [L2.KOf]
   refine' L2.aW KX G ?a ?l ?c ?k
   (case a=>k_is);(case l=>k_is);(case c=>k_is);(case k=>k_is)
  have d_laid:L2.b7 (L2.KOf KX) mg "laid" My.Fj:=by
   dsimp only [L2.KOf]
   refine' L2.aW KX G ?a ?l ?c ?k
   (case a=>k_is);(case l=>k_is);(case c=>k_is);(case k=>k_is)
  have d_need_pieces:L2.b7 (L2.KOf KX) mg "need_pieces" My.mD:=by
   dsimp only [L2.KOf]
   refine' L2.aW KX G ?a ?l ?c ?k
   (case a=>k_is);(case l=>k_is);(case c=>k_is);(case k=>k_is)
  have d_need_same:L2.b7 (L2.KOf KX) mg "need_same" My.pP:=by
   dsimp only [L2.KOf]
   refine' L2.aW KX G ?a ?l ?c ?k
   (case a=>k_is);(case l=>k_is);(case c=>k_is);(case k=>k_is)
  have d_need_short:L2.b7 (L2.KOf KX) mg "need_short" My.oh:=by
   dsimp only [L2.KOf]
   refine' L2.aW KX G ?a ?l ?c ?k
   (case a=>k_is);(case l=>k_is);(case c=>k_is);(case k=>k_is)
  have d_lines_over:L2.b7 (L2.KOf KX) mg "lines_over" My.j5:=by
   dsimp only [L2.KOf]
   refine' L2.aW KX G ?a ?l ?c ?k
   (case a=>k_is);(case l=>k_is);(case c=>k_is);(case k=>k_is)
  have d_lines_beside:L2.b7 (L2.KOf KX) mg "lines_beside" My.iB:=by
   dsimp only [L2.KOf]
   refine' L2.aW KX G ?a ?l ?c ?k
   (case a=>k_is);(case l=>k_is);(case c=>k_is);(case k=>k_is)
  have d_all_beside:L2.b7 (L2.KOf KX) mg "all_beside" My.ou:=by
   dsimp only [L2.KOf]
   refine' L2.aW KX G ?a ?l ?c ?k
   (case a=>k_is);(case l=>k_is);(case c=>k_is);(case k=>k_is)
  have d_all_over:L2.b7 (L2.KOf KX) mg "all_over" My.sE:=by
   dsimp only [L2.KOf]
   refine' L2.aW KX G ?a ?l ?c ?k
   (case a=>k_is);(case l=>k_is);(case c=>k_is);(case k=>k_is)
  have d_balanced:L2.b7 (L2.KOf KX) mg "balanced" My.lq:=by
   dsimp only [L2.KOf]
   refine' L2.aW KX G ?a ?l ?c ?k
   (case a=>k_is);(case l=>k_is);(case c=>k_is);(case k=>k_is)
  have d_law_cell_at:L2.b7 (L2.KOf KX) mg "_law_cell_at" My.mF:=by
   dsimp only [L2.KOf]
   refine' L2.aW KX G ?a ?l ?c ?k
   (case a=>k_is);(case l=>k_is);(case c=>k_is);(case k=>k_is)
  have d_law_great:L2.b7 (L2.KOf KX) mg "_law_great" My.pQ:=by
   dsimp only [L2.KOf]
   refine' L2.aW KX G ?a ?l ?c ?k
   (case a=>k_is);(case l=>k_is);(case c=>k_is);(case k=>k_is)
  have d_law_letter:L2.b7 (L2.KOf KX) mg "_law_letter" My.oA:=by
   dsimp only [L2.KOf]
   refine' L2.aW KX G ?a ?l ?c ?k
   (case a=>k_is);(case l=>k_is);(case c=>k_is);(case k=>k_is)
  have d_law_row:L2.b7 (L2.KOf KX) mg "_law_row" My.uN:=by
   dsimp only [L2.KOf]
   refine' L2.aW KX G ?a ?l ?c ?k
   (case a=>k_is);(case l=>k_is);(case c=>k_is);(case k=>k_is)
  have d_law_round:L2.b7 (L2.KOf KX) mg "_law_round" My.pR:=by
   dsimp only [L2.KOf]
   refine' L2.aW KX G ?a ?l ?c ?k
   (case a=>k_is);(case l=>k_is);(case c=>k_is);(case k=>k_is)
  have d_law_last:L2.b7 (L2.KOf KX) mg "_law_last" My.sH:=by
   dsimp only [L2.KOf]
   refine' L2.aW KX G ?a ?l ?c ?k
   (case a=>k_is);(case l=>k_is);(case c=>k_is);(case k=>k_is)
  have d_law_number:L2.b7 (L2.KOf KX) mg "_law_number" My.oE:=by
   dsimp only [L2.KOf]
   refine' L2.aW KX G ?a ?l ?c ?k
   (case a=>k_is);(case l=>k_is);(case c=>k_is);(case k=>k_is)
  have d_law_best:L2.b7 (L2.KOf KX) mg "_law_best" My.sI:=by
   dsimp only [L2.KOf]
   refine' L2.aW KX G ?a ?l ?c ?k
   (case a=>k_is);(case l=>k_is);(case c=>k_is);(case k=>k_is)
  have d_law_all:L2.b7 (L2.KOf KX) mg "_law_all" My.qC:=by
   dsimp only [L2.KOf]
   refine' L2.aW KX G ?a ?l ?c ?k
   (case a=>k_is);(case l=>k_is);(case c=>k_is);(case k=>k_is)
  have d_law_asked:L2.b7 (L2.KOf KX) mg "_law_asked" My.lX:=by
   dsimp only [L2.KOf]
   refine' L2.aW KX G ?a ?l ?c ?k
   (case a=>k_is);(case l=>k_is);(case c=>k_is);(case k=>k_is)
  have d_law_one:L2.b7 (L2.KOf KX) mg "_law_one" My.qD:=by
   dsimp only [L2.KOf]
   refine' L2.aW KX G ?a ?l ?c ?k
   (case a=>k_is);(case l=>k_is);(case c=>k_is);(case k=>k_is)
  have d_law_no_place:L2.b7 (L2.KOf KX) mg "_law_no_place" My.iC:=by
   dsimp only [L2.KOf]
   refine' L2.aW KX G ?a ?l ?c ?k
   (case a=>k_is);(case l=>k_is);(case c=>k_is);(case k=>k_is)
  have d_law_no_length:L2.b7 (L2.KOf KX) mg "_law_no_length" My.gJ:=by
   dsimp only [L2.KOf]
   refine' L2.aW KX G ?a ?l ?c ?k
   (case a=>k_is);(case l=>k_is);(case c=>k_is);(case k=>k_is)
  have d_law:L2.b7 (L2.KOf KX) mg "law" My.wU:=by
   dsimp only [L2.KOf]
   refine' L2.aW KX G ?a ?l ?c ?k
   (case a=>k_is);(case l=>k_is);(case c=>k_is);(case k=>k_is)
  have x_PaneError:L2.Jl (L2.KOf KX) mg "PaneError":=by
   dsimp only [L2.KOf]
   refine' L2.R3 KX G ?a ?b
   (case a=>k_is);(case b=>kernel_rfl)
  have x_NoRow:L2.mX (L2.KOf KX) mg "NoRow" ["found"] "NoRow.__init__" My.Hg:=by
   dsimp only [L2.KOf]
   refine' L2.tU KX G ?a ?b ?kp ?na ?i ?t ?l ?c ?k
   (case a=>k_is);(case b=>kernel_rfl);(case kp=>k_is);(case na=>kernel_rfl);(case i=>k_is);(case t=>k_is);(case l=>k_is);(case c=>k_is);(case k=>k_is)
  have x_NoPlain:L2.mX (L2.KOf KX) mg "NoPlain" ["found"] "NoPlain.__init__" My.yW:=by
   dsimp only [L2.KOf]
   refine' L2.tU KX G ?a ?b ?kp ?na ?i ?t ?l ?c ?k
   (case a=>k_is);(case b=>kernel_rfl);(case kp=>k_is);(case na=>kernel_rfl);(case i=>k_is);(case t=>k_is);(case l=>k_is);(case c=>k_is);(case k=>k_is)
  have x_NoLetter:L2.mX (L2.KOf KX) mg "NoLetter" ["found"] "NoLetter.__init__" My.wV:=by
   dsimp only [L2.KOf]
   refine' L2.tU KX G ?a ?b ?kp ?na ?i ?t ?l ?c ?k
   (case a=>k_is);(case b=>kernel_rfl);(case kp=>k_is);(case na=>kernel_rfl);(case i=>k_is);(case t=>k_is);(case l=>k_is);(case c=>k_is);(case k=>k_is)
  have x_NoPlace:L2.mX (L2.KOf KX) mg "NoPlace" ["found"] "NoPlace.__init__" My.m5:=by
   dsimp only [L2.KOf]
   refine' L2.tU KX G ?a ?b ?kp ?na ?i ?t ?l ?c ?k
   (case a=>k_is);(case b=>kernel_rfl);(case kp=>k_is);(case na=>kernel_rfl);(case i=>k_is);(case t=>k_is);(case l=>k_is);(case c=>k_is);(case k=>k_is)
  have x_NoSpan:L2.mX (L2.KOf KX) mg "NoSpan" ["begin","end"] "NoSpan.__init__" My.CJ:=by
   dsimp only [L2.KOf]
   refine' L2.tU KX G ?a ?b ?kp ?na ?i ?t ?l ?c ?k
   (case a=>k_is);(case b=>kernel_rfl);(case kp=>k_is);(case na=>kernel_rfl);(case i=>k_is);(case t=>k_is);(case l=>k_is);(case c=>k_is);(case k=>k_is)
  have x_NoTurning:L2.mX (L2.KOf KX) mg "NoTurning" ["found"] "NoTurning.__init__" My.vm:=by
   dsimp only [L2.KOf]
   refine' L2.tU KX G ?a ?b ?kp ?na ?i ?t ?l ?c ?k
   (case a=>k_is);(case b=>kernel_rfl);(case kp=>k_is);(case na=>kernel_rfl);(case i=>k_is);(case t=>k_is);(case l=>k_is);(case c=>k_is);(case k=>k_is)
  have x_NoPiece:L2.mX (L2.KOf KX) mg "NoPiece" ["found"] "NoPiece.__init__" My.yX:=by
   dsimp only [L2.KOf]
   refine' L2.tU KX G ?a ?b ?kp ?na ?i ?t ?l ?c ?k
   (case a=>k_is);(case b=>kernel_rfl);(case kp=>k_is);(case na=>kernel_rfl);(case i=>k_is);(case t=>k_is);(case l=>k_is);(case c=>k_is);(case k=>k_is)
  have x_Unlike:L2.mX (L2.KOf KX) mg "Unlike" ["one","other"] "Unlike.__init__" My.CK:=by
   dsimp only [L2.KOf]
   refine' L2.tU KX G ?a ?b ?kp ?na ?i ?t ?l ?c ?k
   (case a=>k_is);(case b=>kernel_rfl);(case kp=>k_is);(case na=>kernel_rfl);(case i=>k_is);(case t=>k_is);(case l=>k_is);(case c=>k_is);(case k=>k_is)
  have x_TooLong:L2.mX (L2.KOf KX) mg "TooLong" ["found"] "TooLong.__init__" My.yZ:=by
   dsimp only [L2.KOf]
   refine' L2.tU KX G ?a ?b ?kp ?na ?i ?t ?l ?c ?k
   (case a=>k_is);(case b=>kernel_rfl);(case kp=>k_is);(case na=>kernel_rfl);(case i=>k_is);(case t=>k_is);(case l=>k_is);(case c=>k_is);(case k=>k_is)
  have o_Tally:L2.iK (L2.KOf KX) mg "Tally":=by
   dsimp only [L2.KOf]
   refine' L2.vg KX G ?a ?b ?s ?m ?k
   (case a=>k_is);(case b=>kernel_rfl);(case s=>k_is);(case m=>first | k_is | kernel_rfl);(case k=>k_is)
  have n_Tally:∀ f∈(["held_ends","held_counts"]:List Str),L2.NoAttr (L2.KOf KX) (L2.aL mg "Tally") f:=by
   dsimp only [L2.KOf]
   refine' L2.vh KX G ?a ?b
   (case a=>k_is);(case b=>kernel_rfl)
  have o_Asks:L2.iK (L2.KOf KX) mg "Asks":=by
   dsimp only [L2.KOf]
   refine' L2.vg KX G ?a ?b ?s ?m ?k
   (case a=>k_is);(case b=>kernel_rfl);(case s=>k_is);(case m=>first | k_is | kernel_rfl);(case k=>k_is)
  have n_Asks:∀ f∈(["held_tally","held_many","held_far"]:List Str),L2.NoAttr (L2.KOf KX) (L2.aL mg "Asks") f:=by
   dsimp only [L2.KOf]
   refine' L2.vh KX G ?a ?b
   (case a=>k_is);(case b=>kernel_rfl)
  have o_Piece:L2.iK (L2.KOf KX) mg "Piece":=by
   dsimp only [L2.KOf]
   refine' L2.vg KX G ?a ?b ?s ?m ?k
   (case a=>k_is);(case b=>kernel_rfl);(case s=>k_is);(case m=>first | k_is | kernel_rfl);(case k=>k_is)
  have n_Piece:∀ f∈(["held_side","held_top","held_kind","held_lines","held_parts","held_height"]:List Str),L2.NoAttr (L2.KOf KX) (L2.aL mg "Piece") f:=by
   dsimp only [L2.KOf]
   refine' L2.vh KX G ?a ?b
   (case a=>k_is);(case b=>kernel_rfl)
  have o_Blank:L2.iK (L2.KOf KX) mg "Blank":=by
   dsimp only [L2.KOf]
   refine' L2.vg KX G ?a ?b ?s ?m ?k
   (case a=>k_is);(case b=>kernel_rfl);(case s=>k_is);(case m=>first | k_is | kernel_rfl);(case k=>k_is)
  have n_Blank:∀ f∈(["held_side","held_top","held_kind","held_lines","held_parts","held_height"]:List Str),L2.NoAttr (L2.KOf KX) (L2.aL mg "Blank") f:=by
   dsimp only [L2.KOf]
   refine' L2.vh KX G ?a ?b
   (case a=>k_is);(case b=>kernel_rfl)
  have o_One:L2.iK (L2.KOf KX) mg "One":=by
   dsimp only [L2.KOf]
   refine' L2.vg KX G ?a ?b ?s ?m ?k
   (case a=>k_is);(case b=>kernel_rfl);(case s=>k_is);(case m=>first | k_is | kernel_rfl);(case k=>k_is)
  have n_One:∀ f∈(["held_side","held_top","held_kind","held_lines","held_parts","held_height"]:List Str),L2.NoAttr (L2.KOf KX) (L2.aL mg "One") f:=by
   dsimp only [L2.KOf]
   refine' L2.vh KX G ?a ?b
   (case a=>k_is);(case b=>kernel_rfl)
  have o_Over:L2.iK (L2.KOf KX) mg "Over":=by
   dsimp only [L2.KOf]
   refine' L2.vg KX G ?a ?b ?s ?m ?k
   (case a=>k_is);(case b=>kernel_rfl);(case s=>k_is);(case m=>first | k_is | kernel_rfl);(case k=>k_is)
  have n_Over:∀ f∈(["held_side","held_top","held_kind","held_lines","held_parts","held_height"]:List Str),L2.NoAttr (L2.KOf KX) (L2.aL mg "Over") f:=by
   dsimp only [L2.KOf]
   refine' L2.vh KX G ?a ?b
   (case a=>k_is);(case b=>kernel_rfl)
  have o_Beside:L2.iK (L2.KOf KX) mg "Beside":=by
   dsimp only [L2.KOf]
   refine' L2.vg KX G ?a ?b ?s ?m ?k
   (case a=>k_is);(case b=>kernel_rfl);(case s=>k_is);(case m=>first | k_is | kernel_rfl);(case k=>k_is)
  have n_Beside:∀ f∈(["held_side","held_top","held_kind","held_lines","held_parts","held_height"]:List Str),L2.NoAttr (L2.KOf KX) (L2.aL mg "Beside") f:=by
   dsimp only [L2.KOf]
   refine' L2.vh KX G ?a ?b
   (case a=>k_is);(case b=>kernel_rfl)
  have o_Ring:L2.iK (L2.KOf KX) mg "Ring":=by
   dsimp only [L2.KOf]
   refine' L2.vg KX G ?a ?b ?s ?m ?k
   (case a=>k_is);(case b=>kernel_rfl);(case s=>k_is);(case m=>first | k_is | kernel_rfl);(case k=>k_is)
  have n_Ring:∀ f∈(["held_side","held_top","held_kind","held_lines","held_parts","held_height","held_row","held_asks"]:List Str),L2.NoAttr (L2.KOf KX) (L2.aL mg "Ring") f:=by
   dsimp only [L2.KOf]
   refine' L2.vh KX G ?a ?b
   (case a=>k_is);(case b=>kernel_rfl)
  have os_Piece:L2.YH (L2.KOf KX) mg ["Blank","One","Over","Beside","Ring"]:=L2.QR o_Blank o_One o_Over o_Beside o_Ring
  have t_Blank:L2.ITxt (L2.KOf KX) mg "Blank":=by
   dsimp only [L2.KOf]
   refine' L2.Cu KX G ?a ?b ?c ?d ?e
   (case a=>k_is);(case b=>k_is);(case c=>first | k_is | kernel_rfl);(case d=>first | k_is | kernel_rfl);(case e=>first | k_is | kernel_rfl)
  have t_One:L2.ITxt (L2.KOf KX) mg "One":=by
   dsimp only [L2.KOf]
   refine' L2.Cu KX G ?a ?b ?c ?d ?e
   (case a=>k_is);(case b=>k_is);(case c=>first | k_is | kernel_rfl);(case d=>first | k_is | kernel_rfl);(case e=>first | k_is | kernel_rfl)
  have t_Over:L2.ITxt (L2.KOf KX) mg "Over":=by
   dsimp only [L2.KOf]
   refine' L2.Cu KX G ?a ?b ?c ?d ?e
   (case a=>k_is);(case b=>k_is);(case c=>first | k_is | kernel_rfl);(case d=>first | k_is | kernel_rfl);(case e=>first | k_is | kernel_rfl)
  have t_Beside:L2.ITxt (L2.KOf KX) mg "Beside":=by
   dsimp only [L2.KOf]
   refine' L2.Cu KX G ?a ?b ?c ?d ?e
   (case a=>k_is);(case b=>k_is);(case c=>first | k_is | kernel_rfl);(case d=>first | k_is | kernel_rfl);(case e=>first | k_is | kernel_rfl)
  have t_Ring:L2.ITxt (L2.KOf KX) mg "Ring":=by
   dsimp only [L2.KOf]
   refine' L2.Cu KX G ?a ?b ?c ?d ?e
   (case a=>k_is);(case b=>k_is);(case c=>first | k_is | kernel_rfl);(case d=>first | k_is | kernel_rfl);(case e=>first | k_is | kernel_rfl)
  have u_Blank_Piece:L2.Sub (L2.KOf KX) mg "Blank" "Piece" true:=by
   dsimp only [L2.KOf]
   refine' L2.nM KX G ?a ?b ?m ?o
   (case a=>k_is);(case b=>k_is);(case m=>k_is);(case o=>kernel_rfl)
  have u_One_Piece:L2.Sub (L2.KOf KX) mg "One" "Piece" true:=by
   dsimp only [L2.KOf]
   refine' L2.nM KX G ?a ?b ?m ?o
   (case a=>k_is);(case b=>k_is);(case m=>k_is);(case o=>kernel_rfl)
  have u_Over_Piece:L2.Sub (L2.KOf KX) mg "Over" "Piece" true:=by
   dsimp only [L2.KOf]
   refine' L2.nM KX G ?a ?b ?m ?o
   (case a=>k_is);(case b=>k_is);(case m=>k_is);(case o=>kernel_rfl)
  have u_Beside_Piece:L2.Sub (L2.KOf KX) mg "Beside" "Piece" true:=by
   dsimp only [L2.KOf]
   refine' L2.nM KX G ?a ?b ?m ?o
   (case a=>k_is);(case b=>k_is);(case m=>k_is);(case o=>kernel_rfl)
  have u_Ring_Piece:L2.Sub (L2.KOf KX) mg "Ring" "Piece" true:=by
   dsimp only [L2.KOf]
   refine' L2.nM KX G ?a ?b ?m ?o
   (case a=>k_is);(case b=>k_is);(case m=>k_is);(case o=>kernel_rfl)
  have w_Piece_str:PySem.W.kitOne (L2.KOf KX) (.type "str") (.ref (L2.aL mg "Piece"))=some false:=by
   dsimp only [L2.KOf]
   refine' L2.kZ KX G ?a ?o
   (case a=>k_is);(case o=>kernel_rfl)
  have w_Piece_int:PySem.W.kitOne (L2.KOf KX) (.type "int") (.ref (L2.aL mg "Piece"))=some false:=by
   dsimp only [L2.KOf]
   refine' L2.kZ KX G ?a ?o
   (case a=>k_is);(case o=>kernel_rfl)
  have w_Piece_list:PySem.W.kitOne (L2.KOf KX) (.type "list") (.ref (L2.aL mg "Piece"))=some false:=by
   dsimp only [L2.KOf]
   refine' L2.kZ KX G ?a ?o
   (case a=>k_is);(case o=>kernel_rfl)
  have w_Piece_tuple:PySem.W.kitOne (L2.KOf KX) (.type "tuple") (.ref (L2.aL mg "Piece"))=some false:=by
   dsimp only [L2.KOf]
   refine' L2.kZ KX G ?a ?o
   (case a=>k_is);(case o=>kernel_rfl)
  have w_Piece_NoneType:PySem.W.kitOne (L2.KOf KX) (.type "NoneType") (.ref (L2.aL mg "Piece"))=some false:=by
   dsimp only [L2.KOf]
   refine' L2.kZ KX G ?a ?o
   (case a=>k_is);(case o=>kernel_rfl)
  have w_Piece_bool:PySem.W.kitOne (L2.KOf KX) (.type "bool") (.ref (L2.aL mg "Piece"))=some false:=by
   dsimp only [L2.KOf]
   refine' L2.kZ KX G ?a ?o
   (case a=>k_is);(case o=>kernel_rfl)
  have w_Piece_dict:PySem.W.kitOne (L2.KOf KX) (.type "dict") (.ref (L2.aL mg "Piece"))=some false:=by
   dsimp only [L2.KOf]
   refine' L2.kZ KX G ?a ?o
   (case a=>k_is);(case o=>kernel_rfl)
  have m_Piece___init__:L2.G9 (L2.KOf KX) mg "Piece" "__init__" "Piece.__init__" My.dY:=by
   dsimp only [L2.KOf]
   refine' L2.Yb KX G ?a ?s ?r ?i ?l ?c ?k
   (case a=>k_is);(case s=>first | k_is | kernel_rfl);(case r=>kernel_rfl);(case i=>first | k_is | kernel_rfl);(case l=>k_is);(case c=>k_is);(case k=>k_is)
  have m_Piece_side:L2.rC (L2.KOf KX) mg ["Blank","One","Over","Beside","Ring"] "side" "Piece.side" My.oF:=by
   dsimp only [L2.KOf]
   refine' L2.z8 KX G ?a1 ?a2 ?a3 ?a4 ?a5 ?i1 ?i2 ?i3 ?i4 ?i5 ?n ?l ?c ?k
   (case a1=>k_is);(case a2=>k_is);(case a3=>k_is);(case a4=>k_is);(case a5=>k_is);(case i1=>k_is);(case i2=>k_is);(case i3=>k_is);(case i4=>k_is);(case i5=>k_is);(case n=>first | k_is | kernel_rfl);(case l=>k_is);(case c=>k_is);(case k=>k_is)
  have m_Piece_top:L2.rC (L2.KOf KX) mg ["Blank","One","Over","Beside","Ring"] "top" "Piece.top" My.pU:=by
   dsimp only [L2.KOf]
   refine' L2.z8 KX G ?a1 ?a2 ?a3 ?a4 ?a5 ?i1 ?i2 ?i3 ?i4 ?i5 ?n ?l ?c ?k
   (case a1=>k_is);(case a2=>k_is);(case a3=>k_is);(case a4=>k_is);(case a5=>k_is);(case i1=>k_is);(case i2=>k_is);(case i3=>k_is);(case i4=>k_is);(case i5=>k_is);(case n=>first | k_is | kernel_rfl);(case l=>k_is);(case c=>k_is);(case k=>k_is)
  have m_Piece_lines:L2.rC (L2.KOf KX) mg ["Blank","One","Over","Beside","Ring"] "lines" "Piece.lines" My.mH:=by
   dsimp only [L2.KOf]
   refine' L2.z8 KX G ?a1 ?a2 ?a3 ?a4 ?a5 ?i1 ?i2 ?i3 ?i4 ?i5 ?n ?l ?c ?k
   (case a1=>k_is);(case a2=>k_is);(case a3=>k_is);(case a4=>k_is);(case a5=>k_is);(case i1=>k_is);(case i2=>k_is);(case i3=>k_is);(case i4=>k_is);(case i5=>k_is);(case n=>first | k_is | kernel_rfl);(case l=>k_is);(case c=>k_is);(case k=>k_is)
  have m_Piece_height:L2.rC (L2.KOf KX) mg ["Blank","One","Over","Beside","Ring"] "height" "Piece.height" My.lw:=by
   dsimp only [L2.KOf]
   refine' L2.z8 KX G ?a1 ?a2 ?a3 ?a4 ?a5 ?i1 ?i2 ?i3 ?i4 ?i5 ?n ?l ?c ?k
   (case a1=>k_is);(case a2=>k_is);(case a3=>k_is);(case a4=>k_is);(case a5=>k_is);(case i1=>k_is);(case i2=>k_is);(case i3=>k_is);(case i4=>k_is);(case i5=>k_is);(case n=>first | k_is | kernel_rfl);(case l=>k_is);(case c=>k_is);(case k=>k_is)
  have m_Tally___init__:L2.dX (L2.KOf KX) mg "Tally" "__init__" "Tally.__init__" My.iV:=by
   dsimp only [L2.KOf]
   refine' L2.jY KX G ?a ?i ?n ?l ?c ?k
   (case a=>k_is);(case i=>k_is);(case n=>first | k_is | kernel_rfl);(case l=>k_is);(case c=>k_is);(case k=>k_is)
  have m_Tally_below:L2.dX (L2.KOf KX) mg "Tally" "below" "Tally.below" My.mG:=by
   dsimp only [L2.KOf]
   refine' L2.jY KX G ?a ?i ?n ?l ?c ?k
   (case a=>k_is);(case i=>k_is);(case n=>first | k_is | kernel_rfl);(case l=>k_is);(case c=>k_is);(case k=>k_is)
  have m_Asks___init__:L2.dX (L2.KOf KX) mg "Asks" "__init__" "Asks.__init__" My.jq:=by
   dsimp only [L2.KOf]
   refine' L2.jY KX G ?a ?i ?n ?l ?c ?k
   (case a=>k_is);(case i=>k_is);(case n=>first | k_is | kernel_rfl);(case l=>k_is);(case c=>k_is);(case k=>k_is)
  have m_Asks_reckoned:L2.dX (L2.KOf KX) mg "Asks" "reckoned" "Asks.reckoned" My.jr:=by
   dsimp only [L2.KOf]
   refine' L2.jY KX G ?a ?i ?n ?l ?c ?k
   (case a=>k_is);(case i=>k_is);(case n=>first | k_is | kernel_rfl);(case l=>k_is);(case c=>k_is);(case k=>k_is)
  have m_Asks_reckoned_stretch:L2.dX (L2.KOf KX) mg "Asks" "reckoned_stretch" "Asks.reckoned_stretch" My.cV:=by
   dsimp only [L2.KOf]
   refine' L2.jY KX G ?a ?i ?n ?l ?c ?k
   (case a=>k_is);(case i=>k_is);(case n=>first | k_is | kernel_rfl);(case l=>k_is);(case c=>k_is);(case k=>k_is)
  have m_Asks_stretch:L2.dX (L2.KOf KX) mg "Asks" "stretch" "Asks.stretch" My.lu:=by
   dsimp only [L2.KOf]
   refine' L2.jY KX G ?a ?i ?n ?l ?c ?k
   (case a=>k_is);(case i=>k_is);(case n=>first | k_is | kernel_rfl);(case l=>k_is);(case c=>k_is);(case k=>k_is)
  have m_Blank___init__:L2.dX (L2.KOf KX) mg "Blank" "__init__" "Blank.__init__" My.iW:=by
   dsimp only [L2.KOf]
   refine' L2.jY KX G ?a ?i ?n ?l ?c ?k
   (case a=>k_is);(case i=>k_is);(case n=>first | k_is | kernel_rfl);(case l=>k_is);(case c=>k_is);(case k=>k_is)
  have m_One___init__:L2.dX (L2.KOf KX) mg "One" "__init__" "One.__init__" My.lA:=by
   dsimp only [L2.KOf]
   refine' L2.jY KX G ?a ?i ?n ?l ?c ?k
   (case a=>k_is);(case i=>k_is);(case n=>first | k_is | kernel_rfl);(case l=>k_is);(case c=>k_is);(case k=>k_is)
  have m_Over___init__:L2.dX (L2.KOf KX) mg "Over" "__init__" "Over.__init__" My.jt:=by
   dsimp only [L2.KOf]
   refine' L2.jY KX G ?a ?i ?n ?l ?c ?k
   (case a=>k_is);(case i=>k_is);(case n=>first | k_is | kernel_rfl);(case l=>k_is);(case c=>k_is);(case k=>k_is)
  have m_Beside___init__:L2.dX (L2.KOf KX) mg "Beside" "__init__" "Beside.__init__" My.iD:=by
   dsimp only [L2.KOf]
   refine' L2.jY KX G ?a ?i ?n ?l ?c ?k
   (case a=>k_is);(case i=>k_is);(case n=>first | k_is | kernel_rfl);(case l=>k_is);(case c=>k_is);(case k=>k_is)
  have m_Ring___init__:L2.dX (L2.KOf KX) mg "Ring" "__init__" "Ring.__init__" My.ju:=by
   dsimp only [L2.KOf]
   refine' L2.jY KX G ?a ?i ?n ?l ?c ?k
   (case a=>k_is);(case i=>k_is);(case n=>first | k_is | kernel_rfl);(case l=>k_is);(case c=>k_is);(case k=>k_is)
  have m_Ring_need_opening:L2.dX (L2.KOf KX) mg "Ring" "need_opening" "Ring.need_opening" My.gk:=by
   dsimp only [L2.KOf]
   refine' L2.jY KX G ?a ?i ?n ?l ?c ?k
   (case a=>k_is);(case i=>k_is);(case n=>first | k_is | kernel_rfl);(case l=>k_is);(case c=>k_is);(case k=>k_is)
  have m_Ring_length:L2.dX (L2.KOf KX) mg "Ring" "length" "Ring.length" My.mJ:=by
   dsimp only [L2.KOf]
   refine' L2.jY KX G ?a ?i ?n ?l ?c ?k
   (case a=>k_is);(case i=>k_is);(case n=>first | k_is | kernel_rfl);(case l=>k_is);(case c=>k_is);(case k=>k_is)
  have m_Ring_lengths:L2.dX (L2.KOf KX) mg "Ring" "lengths" "Ring.lengths" My.iG:=by
   dsimp only [L2.KOf]
   refine' L2.jY KX G ?a ?i ?n ?l ?c ?k
   (case a=>k_is);(case i=>k_is);(case n=>first | k_is | kernel_rfl);(case l=>k_is);(case c=>k_is);(case k=>k_is)
  have m_Ring_stretch:L2.dX (L2.KOf KX) mg "Ring" "stretch" "Ring.stretch" My.lB:=by
   dsimp only [L2.KOf]
   refine' L2.jY KX G ?a ?i ?n ?l ?c ?k
   (case a=>k_is);(case i=>k_is);(case n=>first | k_is | kernel_rfl);(case l=>k_is);(case c=>k_is);(case k=>k_is)
  have m_Ring_best:L2.dX (L2.KOf KX) mg "Ring" "best" "Ring.best" My.pW:=by
   dsimp only [L2.KOf]
   refine' L2.jY KX G ?a ?i ?n ?l ?c ?k
   (case a=>k_is);(case i=>k_is);(case n=>first | k_is | kernel_rfl);(case l=>k_is);(case c=>k_is);(case k=>k_is)
  have u_NoPlace_PaneError:L2.Sub (L2.KOf KX) mg "NoPlace" "PaneError" true:=by
   dsimp only [L2.KOf]
   refine' L2.nM KX G ?a ?b ?m ?o
   (case a=>k_is);(case b=>k_is);(case m=>k_is);(case o=>kernel_rfl)
  have u_NoPlace_NoPlain:L2.Sub (L2.KOf KX) mg "NoPlace" "NoPlain" false:=by
   dsimp only [L2.KOf]
   refine' L2.nM KX G ?a ?b ?m ?o
   (case a=>k_is);(case b=>k_is);(case m=>k_is);(case o=>kernel_rfl)
  have u_NoPlace_NoPlace:L2.Sub (L2.KOf KX) mg "NoPlace" "NoPlace" true:=by
   dsimp only [L2.KOf]
   refine' L2.nM KX G ?a ?b ?m ?o
   (case a=>k_is);(case b=>k_is);(case m=>k_is);(case o=>kernel_rfl)
  have u_NoPlace_NoPiece:L2.Sub (L2.KOf KX) mg "NoPlace" "NoPiece" false:=by
   dsimp only [L2.KOf]
   refine' L2.nM KX G ?a ?b ?m ?o
   (case a=>k_is);(case b=>k_is);(case m=>k_is);(case o=>kernel_rfl)
  have v_NoPlace:PySem.W.kitOne (L2.KOf KX) (.ref (L2.aL mg "NoPlace")) (.type "ValueError")=some true:=by
   dsimp only [L2.KOf]
   refine' L2.Qv KX G ?a ?o
   (case a=>k_is);(case o=>kernel_rfl)
  exact ⟨d_law,fun base f fd F=>My.Wi ⟨b_ValueError,b_all,b_bool,b_enumerate,b_int,b_isinstance,b_len,b_list,b_max,b_range,b_reversed,b_str,b_tuple,c_LETTERS,c_MOST_LETTERS,c_MOST_LINES,c_MOST_SIGNS,c_POINT,d_is_number,d_is_within,d_is_letter,d_is_sign,d_is_span,d_need_place,d_need_span,d_need_sign,d_is_row,d_is_plain,d_need_row,d_need_rows,d_need_plain,d_is_turning,d_need_turning,d_straight,d_opposite,d_counts,d_do_steps,d_steps_of,d_need_alike,d_laid,d_need_pieces,d_need_same,d_need_short,d_lines_over,d_lines_beside,d_all_beside,d_all_over,d_balanced,d_law_cell_at,d_law_great,d_law_letter,d_law_row,d_law_round,d_law_last,d_law_number,d_law_best,d_law_all,d_law_asked,d_law_one,d_law_no_place,d_law_no_length,d_law,x_PaneError,x_NoRow,x_NoPlain,x_NoLetter,x_NoPlace,x_NoSpan,x_NoTurning,x_NoPiece,x_Unlike,x_TooLong,o_Tally,n_Tally,o_Asks,n_Asks,o_Piece,n_Piece,o_Blank,n_Blank,o_One,n_One,o_Over,n_Over,o_Beside,n_Beside,o_Ring,n_Ring,os_Piece,t_Blank,t_One,t_Over,t_Beside,t_Ring,u_Blank_Piece,u_One_Piece,u_Over_Piece,u_Beside_Piece,u_Ring_Piece,w_Piece_str,w_Piece_int,w_Piece_list,w_Piece_tuple,w_Piece_NoneType,w_Piece_bool,w_Piece_dict,m_Piece___init__,m_Piece_side,m_Piece_top,m_Piece_lines,m_Piece_height,m_Tally___init__,m_Tally_below,m_Asks___init__,m_Asks_reckoned,m_Asks_reckoned_stretch,m_Asks_stretch,m_Blank___init__,m_One___init__,m_Over___init__,m_Beside___init__,m_Ring___init__,m_Ring_need_opening,m_Ring_length,m_Ring_lengths,m_Ring_stretch,m_Ring_best,u_NoPlace_PaneError,u_NoPlace_NoPlain,u_NoPlace_NoPlace,u_NoPlace_NoPiece,v_NoPlace⟩ F⟩
