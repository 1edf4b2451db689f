import PyProof.Rows.All
import Wide.All
import OpenK.AllK
import Wide.FinOn
import Lean
import PyProof.EqAt
import PyProof.EqKinds
import PyProof.TupleCall
import PyProof.ReprRoads
import KE.KSortTup
import KE.KDictList
import KE.KMinKey
import KE.KIntText
import KE.KLam
import KE.KNestM
import PySem.Challenge.RW_panethread_k75_near_ones_apart
local macro_rules | `(tactic| omega) => `(tactic| lia)
noncomputable section
abbrev YW:=@PySem.wpAny_bind
abbrev YX:=@List.getElem?_eq_getElem
abbrev YZ:=@PySem.Heap.get?_push_of_some
abbrev Y0:=@List.getElem?_eq_some_iff
abbrev Y4:=@Nat.le_refl
abbrev Y5:=@PySem.wpAny_pure
abbrev Y6:=@List.length_map
abbrev Y7:=@List.getD_eq_getElem?_getD
abbrev Y8:=@PySem.Heap.get?_push_size
abbrev Y9:=@List.getElem?_map
abbrev Za:=@PySem.Heap.lt_size
abbrev Zb:=@List.mem_cons
abbrev Zc:=@decide_eq_true
abbrev Zd:=@decide_eq_false
abbrev Ze:=@Bool.false_ne_true
abbrev Zf:=@List.mem_append_right
abbrev Zg:=@List.map_append
abbrev Zh:=@List.mem_append
abbrev Zi:=@List.size_toArray
abbrev Zj:=@List.mem_of_getElem?
abbrev Zk:=@Array.getElem?_eq_some_iff
abbrev Zm:=@Option.some.inj
abbrev Zn:=@PySem.F.slot_list_append
abbrev Zo:=@PySem.F.type_list_append
abbrev Zq:=@PySem.PassesOwn.never
abbrev Zr:=@Nat.lt_of_lt_of_le
abbrev Zt:=@Bool.and_eq_true
abbrev Zu:=@PySem.F.plainAttrs_list
abbrev Zv:=@List.length_append
abbrev Zw:=@List.mem_append_left
abbrev Zx:=@List.getElem?_append_right
abbrev Zy:=@List.pairwise_append
abbrev Zz:=@List.mem_cons_of_mem
abbrev ZC:=@List.take_of_length_le
abbrev ZD:=@List.mem_singleton
abbrev ZF:=@of_decide_eq_true
abbrev ZG:=@Array.length_toList
abbrev ZJ:=@Array.toList_append
abbrev ZK:=@List.getElem?_append_left
abbrev ZL:=@List.mem_nil_iff
abbrev ZM:=@List.append_assoc
abbrev ZP:=@Nat.le_trans
abbrev ZQ:=@List.mem_iff_getElem
abbrev ZR:=@Nat.ne_of_lt
abbrev ZS:=@List.mem_range
abbrev ZV:=@PySem.Heap.get?_update_other
abbrev ZW:=@List.drop_eq_getElem_cons
abbrev ZX:=@PyProof.Rows.callWith_type1
abbrev ZZ:=@List.lookup_cons
abbrev Z0:=@List.mem_map
abbrev Z1:=@PySem.W.mg_none_of
abbrev Z2:=@PySem.wpAny_holding
abbrev Z3:=@List.map_cons
abbrev Z4:=@Bool.false_eq_true
abbrev Z5:=@List.append_nil
abbrev Z6:=@List.mem_cons_self
abbrev Z7:=@Nat.zero_le
abbrev Z8:=@PySem.wpAny_field
abbrev Z9:=@List.take_add_one
abbrev gV:=@PySem.Heap.get?_update_self
abbrev Aaa:=@PySem.mem_of_lookup
abbrev Aab:=@List.getElem?_range
abbrev Aac:=@List.length_take
abbrev Aad:=@Array.getElem?_toList
abbrev Aae:=@PySem.wpAny_callSpecial?_slot
abbrev Aaf:=@List.all_cons
abbrev Aag:=@List.length_cons
abbrev Aah:=@List.range_succ
abbrev Aai:=@List.getElem?_set_ne
abbrev Aaj:=@PySem.Heap.size_push
abbrev Aak:=@Int.le_trans
abbrev Aal:=@PySem.wpAny_mono
abbrev Aam:=@beq_eq_false_iff_ne
abbrev Aan:=@List.map_congr_left
abbrev Aao:=@PyProof.Rows.wpS_forRange
abbrev Aap:=@List.map_map
abbrev Aaq:=@PySem.wpAny_newObj_type
abbrev Aar:=@List.pairwise_iff_getElem
abbrev Aas:=@of_decide_eq_false
abbrev Aat:=@getElem?_pos
abbrev Aau:=@PySem.W.kia_one
abbrev Aav:=@PySem.wpAny_call_entry
abbrev Aaw:=@Array.getD_eq_getD_getElem?
abbrev Aax:=@PySem.wpAny_Call_Name_kw
abbrev Aay:=@List.contains_cons
abbrev Aaz:=@List.mem_of_mem_take
abbrev AaA:=@Nat.lt_irrefl
abbrev AaB:=@List.getElem?_set_self
abbrev AaC:=@List.all_eq_true
abbrev AaD:=@PySem.wpAny_loadPart_at
abbrev AaE:=@List.Perm.append_left
abbrev AaF:=@PySem.Obj.data_mapFields
abbrev AaG:=@PySem.W.looks_findIn
abbrev AaH:=@PySem.wpAny_of_eq
abbrev AaI:=@List.mem_reverse
abbrev AaJ:=@Nat.ne_of_gt
abbrev AaK:=@beq_iff_eq
abbrev AaL:=@List.flatten_cons
abbrev AaM:=@List.drop_zero
abbrev AaN:=@PySem.wpAny_seqItems
abbrev AaO:=@Nat.sub_self
abbrev AaP:=@List.replicate_succ
abbrev AaQ:=@PyProof.Rows.slot_tuple_getitem
abbrev AaR:=@PySem.builtinLookup_eq_fast
abbrev AaS:=@List.length_drop
abbrev AaT:=@List.getElem_mem
abbrev AaU:=@List.getElem?_drop
abbrev AaV:=@PySem.wpAny_attempt
abbrev AaW:=@PySem.wpAny_pyIter_revIter
abbrev AaX:=@Array.toList_reverse
abbrev AaY:=@PySem.wpAny_truthy_bool
abbrev AaZ:=@List.drop_sublist
abbrev Aa0:=@List.pairwise_singleton
abbrev Aa1:=@List.pairwise_map
abbrev Aa2:=@Int.toNat_of_nonneg
abbrev Aa3:=@List.drop_eq_nil_of_le
abbrev Aa4:=@List.Perm.append_right
abbrev Aa5:=@Nat.zero_add
abbrev Aa6:=@PySem.W.mg_of
abbrev Aa7:=@Int.le_refl
abbrev Aa8:=@PySem.F.plain_min_loop
abbrev Aa9:=@PySem.Obj.isFreed_of_fields
abbrev Aba:=@List.take_append_drop
abbrev Abb:=@PySem.wpAny_passesOwn
abbrev Abd:=@List.take_sublist
abbrev Abe:=@decide_eq_true_eq
abbrev Abf:=@Nat.le_of_succ_le
abbrev Abg:=@Nat.le_succ
abbrev Abh:=@List.mem_of_mem_drop
abbrev Abi:=@Bool.or_eq_false_iff
abbrev Abj:=@PySem.wpAny_rule
abbrev Abk:=@PyProof.Rows.wpS_modify
abbrev Abl:=@PySem.wpAny_isSubtype_exc
abbrev Abm:=@List.length_pos_iff
abbrev Abn:=@PySem.Heap.SameBut.update
abbrev Abo:=@PySem.wpAny_getItem_str_slice
abbrev Abp:=@PySem.wpAny_setField
abbrev Abq:=@PySem.W.callWith_K
abbrev Abr:=@PySem.wpAny_setField_rec
abbrev Abs:=@Int.lt_of_le_of_lt
abbrev Abt:=@List.find?_cons
abbrev Abu:=@PySem.wpAny_specialOf
abbrev Abv:=@PySem.typeLookup_type
abbrev Abw:=@PySem.codeAny_builtin
abbrev Abx:=@Int.emod_nonneg
abbrev Aby:=@List.getElem?_eq_none
abbrev Abz:=@List.perm_append_comm
abbrev AbA:=@PySem.wpAny_pyIter_list
abbrev AbB:=@PySem.wpAny_pyIter_enum
abbrev AbC:=@Array.toList_push
abbrev AbD:=@PySem.wpAny_loadPart
abbrev AbE:=@PySem.wpAny_call
abbrev AbF:=@PySem.isSubtype_type
abbrev AbG:=@PySem.codeAny_call_builtin
abbrev AbH:=@PySem.Around.under_plainId
abbrev AbI:=@List.map_id
abbrev AbJ:=@List.replicate_succ'
abbrev AbK:=@PySem.wpAny_isInstance
abbrev AbL:=@Nat.sub_zero
abbrev AbM:=@Int.le_of_lt
abbrev AbN:=@List.countP_cons
abbrev AbO:=@List.take_length
abbrev AbP:=@PySem.wpAny_standAt
abbrev AbQ:=@PySem.plainId_quiet
local macro_rules | `(tactic| trivial) => `(tactic| decide +kernel)
set_option compiler.extract_closed false
set_option Elab.async false
set_option linter.all false
set_option maxRecDepth 100000
namespace L2
@[elab_as_elim] theorem tU {p:List PySem.Value->Prop} (h:∀ a0:PySem.Value,p [a0]) (us:List PySem.Value) (hl:us.length=1):p us:=by
 rcases us with _ | ⟨a0,us0⟩
 ·cases hl
 rcases us0 with _ | ⟨b,us⟩
 ·exact h a0
 ·cases hl
@[elab_as_elim] theorem lO {p:List PySem.Value->Prop} (h:∀ a0 a1:PySem.Value,p [a0,a1]) (us:List PySem.Value) (hl:us.length=2):p us:=by
 rcases us with _ | ⟨a0,us0⟩
 ·cases hl
 rcases us0 with _ | ⟨a1,us1⟩
 ·cases hl
 rcases us1 with _ | ⟨b,us⟩
 ·exact h a0 a1
 ·cases hl
@[elab_as_elim] theorem oJ {p:List PySem.Value->Prop} (h:∀ a0 a1 a2:PySem.Value,p [a0,a1,a2]) (us:List PySem.Value) (hl:us.length=3):p us:=by
 rcases us with _ | ⟨a0,us0⟩
 ·cases hl
 rcases us0 with _ | ⟨a1,us1⟩
 ·cases hl
 rcases us1 with _ | ⟨a2,us2⟩
 ·cases hl
 rcases us2 with _ | ⟨b,us⟩
 ·exact h a0 a1 a2
 ·cases hl
@[elab_as_elim] theorem Oh {p:List PySem.Value->Prop} (h:∀ a0 a1 a2 a3:PySem.Value,p [a0,a1,a2,a3]) (us:List PySem.Value) (hl:us.length=4):p us:=by
 rcases us with _ | ⟨a0,us0⟩
 ·cases hl
 rcases us0 with _ | ⟨a1,us1⟩
 ·cases hl
 rcases us1 with _ | ⟨a2,us2⟩
 ·cases hl
 rcases us2 with _ | ⟨a3,us3⟩
 ·cases hl
 rcases us3 with _ | ⟨b,us⟩
 ·exact h a0 a1 a2 a3
 ·cases hl
@[elab_as_elim] theorem Sw {p:List PySem.Value->Prop} (h:∀ a0 a1 a2 a3 a4:PySem.Value,p [a0,a1,a2,a3,a4]) (us:List PySem.Value) (hl:us.length=5):p us:=by
 rcases us with _ | ⟨a0,us0⟩
 ·cases hl
 rcases us0 with _ | ⟨a1,us1⟩
 ·cases hl
 rcases us1 with _ | ⟨a2,us2⟩
 ·cases hl
 rcases us2 with _ | ⟨a3,us3⟩
 ·cases hl
 rcases us3 with _ | ⟨a4,us4⟩
 ·cases hl
 rcases us4 with _ | ⟨b,us⟩
 ·exact h a0 a1 a2 a3 a4
 ·cases hl
theorem auto1 (h:True:=by first | exact .inl rfl | exact .inr rfl | assumption):True:=h
theorem auto2 (h:True:=by decide):True:=h
theorem auto3 (h:True:=by intro _;rfl):True:=h
theorem auto4 (h:True:=by rfl):True:=h
theorem auto5 (h:True:=by with_unfolding_all rfl):True:=h
theorem auto6 (h:True:=by trivial):True:=h
theorem auto7 (h:True:=by kernel_rfl):True:=h
open PySem PySem.Spec PyProof.Rows
abbrev Key:=Sum Int Str
def xR:Key->Value->Bool
 | .inl k,v=>Value.isInt k v
 | .inr x,v=>Value.isStrOf x v
def keyH (w:World):Key->Int
 | .inl k=>hashInt k
 | .inr x=>hashStr w x
theorem cI:∀ {k:Key} {v:Value},xR k v=true->(∃ i t,k=Sum.inl i/\v=Value.int i t)\/(∃ x t,k=Sum.inr x/\v=Value.str x t)
 | .inl i,v,h=>by
  obtain ⟨t,e⟩:=Value.isInt_shape (k:=i) (v:=v) h;exact .inl ⟨i,t,rfl,e⟩
 | .inr x,v,h=>by
  obtain ⟨t,e⟩:=Value.isStrOf_shape (x:=x) (v:=v) h;exact .inr ⟨x,t,rfl,e⟩
theorem Gg (i:Int) (t:Tok):xR (.inl i) (.int i t)=true:=by simp [xR,Value.isInt]
theorem Gh (x:Str) (t:Tok):xR (.inr x) (.str x t)=true:=by simp [xR,Value.isStrOf]
theorem Sx (a b:Int):decide ((Sum.inl a:Key)=Sum.inl b)=(a == b):=by
 by_cases e:a=b
 ·subst e;simp
 ·have h:¬ (Sum.inl a:Key)=Sum.inl b:=fun q=>e (Sum.inl.inj q)
  rw [Zd h];exact (Aam.mpr e).symm
theorem Sy (a b:Str):decide ((Sum.inr a:Key)=Sum.inr b)=decide (a=b):=by
 by_cases e:a=b
 ·subst e;simp
 ·have h:¬ (Sum.inr a:Key)=Sum.inr b:=fun q=>e (Sum.inr.inj q)
  rw [Zd h,Zd e]
theorem SJ (a:Int) (b:Str):decide ((Sum.inl a:Key)=Sum.inr b)=false:=Zd (fun q=>nomatch q)
theorem SM (a:Str) (b:Int):decide ((Sum.inr a:Key)=Sum.inl b)=false:=Zd (fun q=>nomatch q)
def cJ (prog:Program) (w:World):PySem.KeyKind prog w Key where
 is:=xR
 hash:=keyH w
 inj:=fun v a b ha hb=>by
  rcases cI ha with ⟨i,t,rfl,rfl⟩ | ⟨x,t,rfl,rfl⟩
  ·rcases cI hb with ⟨j,u,rfl,e⟩ | ⟨y,u,rfl,e⟩
   ·injection e with e1 _;rw [e1]
   ·exact nomatch e
  ·rcases cI hb with ⟨j,u,rfl,e⟩ | ⟨y,u,rfl,e⟩
   ·exact nomatch e
   ·injection e with e1 _;rw [e1]
 byValue:=fun k v h=>by
  rcases cI h with ⟨i,t,rfl,rfl⟩ | ⟨x,t,rfl,rfl⟩ <;> rfl
 pyHash:=fun hv h=>by
  rcases cI hv with ⟨i,t,rfl,rfl⟩ | ⟨x,t,rfl,rfl⟩
  ·exact wpAny_pyHash_int h
  ·exact wpAny_pyHash_str h
 eqBool:=fun hu hv h=>by
  rcases cI hu with ⟨i,t,rfl,rfl⟩ | ⟨x,t,rfl,rfl⟩
  ·rcases cI hv with ⟨j,u,rfl,rfl⟩ | ⟨y,u,rfl,rfl⟩
   ·rw [Sx] at h;exact wpAny_eqBool_int h
   ·rw [SJ] at h;exact SeqAt.EqAt.int_str i t y u _ _ _ _ h
  ·rcases cI hv with ⟨j,u,rfl,rfl⟩ | ⟨y,u,rfl,rfl⟩
   ·rw [SM] at h;exact SeqAt.EqAt.str_int x t j u _ _ _ _ h
   ·rw [Sy] at h;exact wpAny_eqBool_str h
 «strs»:=fun k x t v h=>by
  rcases cI h with ⟨i,u,rfl,e⟩ | ⟨y,u,rfl,e⟩
  ·exact nomatch e
  ·injection e with e1 _
   subst e1;cases v <;> rfl
theorem zO (prog:Program) (w:World) (i:Int) (t:Tok):(cJ prog w).is (.inl i) (.int i t)=true:=Gg i t
theorem zP (prog:Program) (w:World) (x:Str) (t:Tok):(cJ prog w).is (.inr x) (.str x t)=true:=Gh x t
end L2
namespace L2
open PySem PySem.Spec PyProof.Rows
inductive V where
 | non | bl (b:Bool) | int (i:Int) | str (x:Str) | byt (b:Array UInt8) | flt (b:UInt64) | ref (a:Addr) | ty (n:String)
 deriving DecidableEq
def RelV:V->Value->Prop
 | .non,u=>u=Value.none
 | .bl b,u=>u=Value.bool b
 | .int i,u=>∃ t,u=Value.int i t
 | .str x,u=>∃ t,u=Value.str x t
 | .byt b,u=>∃ t,u=Value.bytes b t
 | .flt b,u=>∃ t,u=Value.float b t
 | .ref a,u=>u=Value.ref a
 | .ty n,u=>u=Value.type n
abbrev Vals:List V->List Value->Prop:=Paired RelV
theorem Vals.length {xs:List V} {us:List Value} (r:Vals xs us):xs.length=us.length:=Paired.length r
theorem Vals.get:∀ {xs:List V} {us:List Value} {i:Nat} {x:V},Vals xs us->xs[i]?=some x->∃ u,us[i]?=some u/\RelV x u
 | _,_,_,_,.nil,e=>by simp at e
 | _,_,0,_,.cons r _,e=>by simp at e;subst e;exact ⟨_,rfl,r⟩
 | _,_,i+1,x,.cons _ t,e=>by
  obtain ⟨u,h1,h2⟩:=Vals.get (i:=i) (x:=x) t (by simpa using e);exact ⟨u,by simpa using h1,h2⟩
theorem Vals.set {x:V} {u:Value} (r:RelV x u):∀ {xs:List V} {us:List Value} (i:Nat),Vals xs us->Vals (xs.set i x) (us.set i u)
 | _,_,_,.nil=>.nil
 | _,_,0,.cons _ t=>.cons r t
 | _,_,i+1,.cons q t=>.cons q (Vals.set r i t)
theorem Vals.append:∀ {xs ys:List V} {us ws:List Value},Vals xs us->Vals ys ws->Vals (xs ++ ys) (us ++ ws)
 | _,_,_,_,.nil,s=>s
 | _,_,_,_,.cons r t,s=>.cons r (Vals.append t s)
theorem Vals.take:∀ {xs:List V} {us:List Value} (n:Nat),Vals xs us->Vals (xs.take n) (us.take n)
 | _,_,0,_=>.nil
 | _,_,_+1,.nil=>.nil
 | _,_,n+1,.cons r t=>.cons r (Vals.take n t)
theorem Vals.drop:∀ {xs:List V} {us:List Value} (n:Nat),Vals xs us->Vals (xs.drop n) (us.drop n)
 | _,_,0,r=>r
 | _,_,_+1,.nil=>.nil
 | _,_,n+1,.cons _ t=>Vals.drop n t
def RelO:Option V->Option Value->Prop
 | some v,some u=>RelV v u
 | none,none=>True
 | _,_=>False
def KV {κ:Type}:List (κ×V)->List (κ×Value)->Prop:=Paired fun (p:κ×V) (q:κ×Value)=>p.1=q.1/\RelV p.2 q.2
def kV:Key->V
 | .inl i=>.int i
 | .inr x=>.str x
inductive HO where
 /-- a list -/
 | lst (xs:List V)
 /-- a tuple (never changes) -/
 | tup (xs:List V)
 /-- a dict whose keys are ints and texts;one whose keys are tuples of ints and texts (the empty one is both) -/
 | dK (kvs:List (Key×V)) | dT (kvs:List (List Key×V))
 /-- a set of ints:its members,its size -/
 | set (S:Int->Bool) (n:Nat)
 /-- an instance of the class at C,its dict at dx,its attributes -/
 | ins (C dx:Addr) (fs:List (Str×V))
 /-- the dict of the instance at x -/
 | own (x:Addr)
 /-- the dict of an exception -/
 | xd (fs:List (Str×V))
 /-- a bound method,f of x -/
 | met (f x:Addr)
 /-- a range object lo,lo+1,.. below hi -/
 | rng (lo hi:Int)
 /-- a thing that is known to the object (the script;a dict while a loop walks it):read,never written while it is so -/
 | frz (o:Obj) (u:HO)
 /-- a code object's table -/
 | tbl (ps:Array Value)
 /-- any other thing,by what is true of its one object (a def of one's own:SetO a S n:=HO.ext fun h=>..) -/
 | ext (φ:Heap->Prop)
abbrev Hp:=Addr->Option HO
def upd (H:Hp) (a:Addr) (o:HO):Hp:=fun b=>if b=a then some o else H b
theorem aj {H:Hp} {a:Addr} {o:HO}:upd H a o a=some o:=by unfold upd;rw [if_pos rfl]
theorem aC {H:Hp} {a b:Addr} {o:HO} (h:b≠a):upd H a o b=H b:=by unfold upd;rw [if_neg h]
theorem Ws {H:Hp} {a b:Addr} {o u:HO} (h:H a=some o) (h':H b=some u) (d:o≠u):a≠b:=by
 intro e;subst e;rw [h] at h';exact d (Zm h')
theorem jM {H:Hp} {a b:Addr} {o:HO} (h:H a=some o) (h':H b=none):a≠b:=by
 intro e;subst e;rw [h] at h';cases h'
section
variable (P:Program) (w:World)
def ObjOk (H:Hp) (h:Heap) (a:Addr):HO->Prop
 | .lst xs=>xs.length<=sizeLine/\∃ (its:List Value) (n:Nat),Vals xs its/\h.get? a=some {cls:=.type "list",data:=.seq its.toArray n}
 | .tup xs=>xs.length<=sizeLine/\∃ its:List Value,Vals xs its/\IsTup h a its.toArray
 | .dK kvs=>kvs.length<=sizeLine/\(a == sysModules)=false/\∃ vs,KV kvs vs/\h.DictOf (cJ P w) a vs
 | .dT kvs=>kvs.length<=sizeLine/\(a == sysModules)=false/\∃ xs:List (List Key×Addr×Value),
   Paired (fun (p:List Key×V) (q:List Key×Addr×Value)=>p.1=q.1/\H q.2.1=some (.tup (p.1.map kV))/\RelV p.2 q.2.2) kvs xs/\
   ∃ o es ep,h.get? a=some o/\o.ExactDict/\o.data= .dict es ep/\es.toList=xs.map (entryOfKey (tupleKind (cJ P w)))/\(xs.map (·.1)).Nodup
 | .set S n=>h.SetOf (intKind P w) a S n
 | .ins C dx fs=>H dx=some (.own a)/\fs.length<=1000/\dx≠a/\h.get? a=some (PySem.W.instObj C dx)/\
   ∃ mA,h.Ns1 dx mA/\(∀ f,RelO (fs.lookup f) (mA f))/\PySem.Within mA (fs.map (·.1))
 | .own _=>∃ o,h.get? a=some o
 | .xd fs=>∃ mA,h.Ns1 a mA/\∀ f,RelO (fs.lookup f) (mA f)
 | .rng lo hi=>∃ t u v,h.get? a=some {cls:=.type "range",data:=.fields #[.int lo t,.int hi u,.int 1 v]}
 | .frz o u=>h.get? a=some o/\ObjOk H h a u
 | .tbl ps=>h.get? a=some {cls:=.none,data:=.fields ps}
 | .met f x=>h.get? a=some (PySem.W.methodObj (.ref f) (.ref x))
 | .ext φ=>φ h/\(∃ o,h.get? a=some o)/\∀ h1 h2:Heap,φ h1->(∀ o,h1.get? a=some o->h2.get? a=some o)->φ h2
def HOk (H:Hp) (h:Heap):Prop:=∀ a o,H a=some o->ObjOk P w H h a o
end
section
variable {P:Program} {w:World} {H H':Hp} {h h':Heap} {a:Addr} {o:HO}
theorem ObjOk.lt (x:ObjOk P w H h a o):a < h.objs.size:=by
 cases o with
 | lst xs=>obtain ⟨_,_,_,_,e⟩:=x;exact Za e
 | tup xs=>obtain ⟨_,_,_,p⟩:=x;exact p.lt
 | dK kvs=>obtain ⟨_,_,_,_,o,_,_,e,_⟩:=x;exact Za e
 | dT kvs=>obtain ⟨_,_,_,_,o,_,_,e,_⟩:=x;exact Za e
 | set S n=>obtain ⟨o,_,_,_,e,_⟩:=x;exact Za e
 | ins C dx fs=>obtain ⟨_,_,_,e,_⟩:=x;exact Za e
 | own y=>obtain ⟨_,e⟩:=x;exact Za e
 | xd fs=>obtain ⟨_,⟨_,_,_,e,_⟩,_⟩:=x;exact Za e
 | rng lo hi=>obtain ⟨_,_,_,e⟩:=x;exact Za e
 | frz ob u=>obtain ⟨e,_⟩:=x;exact Za e
 | tbl ps=>exact Za (show h.get? a=some _ from x)
 | met f y=>exact Za (show h.get? a=some _ from x)
 | ext φ=>obtain ⟨_,⟨_,e⟩,_⟩:=x;exact Za e
theorem Paired.mapP {α β:Type} {F G:α->β->Prop}:∀ {l₁:List α} {l₂:List β},Paired F l₁ l₂->(∀ a b,F a b->G a b)->Paired G l₁ l₂
 | _,_,.nil,_=>.nil
 | _,_,.cons r t,f=>.cons (f _ _ r) (Paired.mapP t f)
theorem ObjOk.stay (x:ObjOk P w H h a o) (k:∀ b u,(b=a\/H b=some (.own a))->h.get? b=some u->h'.get? b=some u)
  (ho:∀ b,H b=some (.own a)->H' b=some (.own a)) (ht:∀ b xs,H b=some (.tup xs)->H' b=some (.tup xs)):ObjOk P w H' h' a o:=by
 induction o with
 | lst xs=>obtain ⟨z,its,n,r,e⟩:=x;exact ⟨z,its,n,r,k _ _ (.inl rfl) e⟩
 | tup xs=>obtain ⟨z,its,r,ob,e,c⟩:=x;exact ⟨z,its,r,ob,k _ _ (.inl rfl) e,c⟩
 | dK kvs=>obtain ⟨z,y,vs,r,ob,es,ep,e,c⟩:=x;exact ⟨z,y,vs,r,ob,es,ep,k _ _ (.inl rfl) e,c⟩
 | dT kvs=>
  obtain ⟨z,y,xs,r,ob,es,ep,e,c⟩:=x;exact ⟨z,y,xs,Paired.mapP r fun p q z=>⟨z.1,ht _ _ z.2.1,z.2.2⟩,ob,es,ep,k _ _ (.inl rfl) e,c⟩
 | set S n=>obtain ⟨ob,es,ep,t,e,c⟩:=x;exact ⟨ob,es,ep,t,k _ _ (.inl rfl) e,c⟩
 | ins C dx fs=>
  obtain ⟨d,z,ne,e,mA,⟨od,es,ep,e2,c⟩,r⟩:=x;exact ⟨ho _ d,z,ne,k _ _ (.inl rfl) e,mA,⟨od,es,ep,k _ _ (.inr d) e2,c⟩,r⟩
 | own y=>obtain ⟨ob,e⟩:=x;exact ⟨ob,k _ _ (.inl rfl) e⟩
 | xd fs=>obtain ⟨mA,⟨od,es,ep,e,c⟩,r⟩:=x;exact ⟨mA,⟨od,es,ep,k _ _ (.inl rfl) e,c⟩,r⟩
 | rng lo hi=>obtain ⟨t,u,v,e⟩:=x;exact ⟨t,u,v,k _ _ (.inl rfl) e⟩
 | frz ob u ih=>obtain ⟨e,q⟩:=x;exact ⟨k _ _ (.inl rfl) e,ih q⟩
 | tbl ps=>
  have e:h.get? a=some {cls:=.none,data:=.fields ps}:=x;show h'.get? a=some {cls:=.none,data:=.fields ps};exact k a _ (.inl rfl) e
 | met f y=>
  have e:h.get? a=some (PySem.W.methodObj (.ref f) (.ref y)):=x;show h'.get? a=some (PySem.W.methodObj (.ref f) (.ref y));exact k a _ (.inl rfl) e
 | ext φ=>obtain ⟨p,⟨o,e⟩,st⟩:=x;exact ⟨st _ _ p fun o q=>k _ _ (.inl rfl) q,⟨o,k _ _ (.inl rfl) e⟩,st⟩
theorem HOk.lt (x:HOk P w H h) (e:H a=some o):a < h.objs.size:=(x a o e).lt
theorem HOk.fresh (x:HOk P w H h) (e:h.objs.size<=a):H a=none:=by
 cases q:H a with
 | none=>rfl
 | some u=>exact absurd (Zr (x.lt q) e) (AaA _)
theorem HOk.kept (x:HOk P w H h) (k:∀ b u,h.get? b=some u->h'.get? b=some u):HOk P w H h':=fun a o e=>
 (x a o e).stay (fun b u _ q=>k b u q) (fun _ q=>q) fun _ _ q=>q
theorem HOk.laid (x:HOk P w H h) (k:∀ b u,h.get? b=some u->h'.get? b=some u) (hp:h.objs.size<=a) (new:ObjOk P w (upd H a o) h' a o):HOk P w (upd H a o) h':=fun b u e=>by
 have hn:=x.fresh hp;by_cases hb:b=a
 ·subst hb;rw [aj] at e;cases e;exact new
 ·rw [aC hb] at e
  exact (x b u e).stay (fun c v _ q=>k c v q) (fun c q=>by rw [aC (jM q hn)];exact q) fun c xs q=>by rw [aC (jM q hn)];exact q
end
def Rd (H:Hp) (a:Addr) (u:HO):Prop:=H a=some u\/∃ o,H a=some (.frz o u)
theorem Rd.ok {P:Program} {w:World} {H:Hp} {h:Heap} {a:Addr} {u:HO} (r:Rd H a u) (x:HOk P w H h):ObjOk P w H h a u:=by
 rcases r with r | ⟨o,r⟩
 ·exact x a u r
 ·obtain ⟨_,q⟩:=x a _ r
  exact q
def Wt:Option HO->Prop
 | some (.lst _)=>True
 | some (.dK _)=>True
 | some (.dT _)=>True
 | some (.set _ _)=>True
 | some (.ins _ _ _)=>True
 | some (.ext _)=>True
 | _=>False
section
variable {P:Program} {w:World} {H:Hp} {h h':Heap} {x e:Addr} {o':HO}
theorem HOk.write (ok:HOk P w H h) (mu:Wt (H x)) (he:e=x\/H e=some (.own x)) (k:∀ b u,b≠e->h.get? b=some u->h'.get? b=some u) (heo:∃ u,h'.get? e=some u)
  (new:ObjOk P w (upd H x o') h' x o'):HOk P w (upd H x o') h':=fun b u q=>by
 have nown:∀ c y,H c=some (.own y)->c≠x:=fun c y r z=>by subst z;rw [r] at mu;exact mu
 have ntup:∀ c xs,H c=some (.tup xs)->c≠x:=fun c xs r z=>by subst z;rw [r] at mu;exact mu
 by_cases hb:b=x
 ·subst hb;rw [aj] at q;cases q;exact new
 ·rw [aC hb] at q
  by_cases hbe:b=e
  ·have q':H b=some (.own x):=by
    rcases he with z | z
    ·exact absurd (hbe.trans z) hb
    ·rw [hbe];exact z
   rw [q] at q';cases q';obtain ⟨v,hv⟩:=heo;exact ⟨v,by rw [hbe];exact hv⟩
  ·refine (ok b u q).stay (fun c v hc r=>k c v ?_ r) (fun c r=>by rw [aC (nown c b r)];exact r) fun c xs r=>by rw [aC (ntup c xs r)];exact r
   rcases hc with rfl | hc
   ·exact hbe
   ·rintro rfl
    rcases he with z | z
    ·exact nown c b hc z
    ·rw [hc] at z;cases z;exact hb rfl
end
structure Un (fs ex:List Addr) (H H':Hp) (h h':Heap):Prop where
 keep:∀ b o,h.get? b=some o->H b=none->b ∉ fs->b ∉ ex->h'.get? b=some o
 slot:∀ b o,h.get? b=some o->H b=none->b∈fs->b ∉ ex->∃ sl,h'.get? b=some {o with slots:=sl}
 free:∀ b o,h.get? b=some o->H b=none->b ∉ ex->H' b=none
 there:∀ b o,h.get? b=some o->b ∉ ex->∃ o',h'.get? b=some o'
 tups:∀ b xs,H b=some (.tup xs)->H' b=some (.tup xs)
 frzs:∀ b o u,H b=some (.frz o u)->H' b=some (.frz o u)
 tbls:∀ b ps,H b=some (.tbl ps)->∃ more,H' b=some (.tbl (ps ++ more))
section
variable {fs fs' ex ex':List Addr} {H H1 H2:Hp} {h h1 h2 h':Heap} {a x e:Addr} {o:HO}
theorem Un.any (u:Un fs ex H H1 h h1) {b:Addr} {ob:Obj} (q:h.get? b=some ob) (n:H b=none) (hx:b ∉ ex):∃ sl,h1.get? b=some {ob with slots:=sl}:=by
 by_cases hb:b∈fs
 ·exact u.slot b ob q n hb hx
 ·exact ⟨ob.slots,u.keep b ob q n hb hx⟩
theorem Un.kept (k:∀ b u,h.get? b=some u->h'.get? b=some u):Un fs ex H H h h':=
 ⟨fun b ob q _ _ _=>k b ob q,fun b ob q _ _ _=>⟨ob.slots,k b ob q⟩,fun _ _ _ n _=>n,fun b ob q _=>⟨ob,k b ob q⟩,fun _ _ q=>q,fun _ _ _ q=>q,fun _ ps q=>⟨#[],by rw [q];simp⟩⟩
theorem Un.refl:Un fs ex H H h h:=Un.kept fun _ _ q=>q
theorem Un.laid (k:∀ b u,h.get? b=some u->h'.get? b=some u) (hp:h.objs.size<=a) (hn:H a=none):Un fs ex H (upd H a o) h h' where
 keep:=fun b u q _ _ _=>k b u q
 slot:=fun b u q _ _ _=>⟨u.slots,k b u q⟩
 free:=fun b u q n _=>by rw [aC (ZR (Zr (Za q) hp))];exact n
 there:=fun b u q _=>⟨u,k b u q⟩
 tups:=fun b xs q=>by rw [aC (jM q hn)];exact q
 frzs:=fun b u xs q=>by rw [aC (jM q hn)];exact q
 tbls:=fun b ps q=>⟨#[],by rw [aC (jM q hn),q];simp⟩
theorem Un.write (mu:Wt (H x)) (he:e=x\/H e=some (.own x)) (k:∀ b u,b≠e->h.get? b=some u->h'.get? b=some u) (heo:∃ u,h'.get? e=some u):Un fs ex H (upd H x o) h h':=by
 have hx:∀ b,H b=none->b≠x:=fun b n z=>by subst z;rw [n] at mu;exact mu
 have hb:∀ b,H b=none->b≠e:=fun b n z=>by
  subst z;rcases he with r | r
  ·exact hx b n r
  ·rw [n] at r;cases r
 have hm:∀ b u,H b=some u->¬ Wt (some u)->b≠x:=fun b u q nm z=>by subst z;rw [q] at mu;exact nm mu
 refine ⟨fun b u q n _ _=>k b u (hb b n) q,fun b u q n _ _=>⟨u.slots,k b u (hb b n) q⟩,fun b u q n _=>by rw [aC (hx b n)];exact n,fun b u q _=>?_,
  fun b xs q=>by rw [aC (hm b _ q fun z=>z)];exact q,fun b u xs q=>by rw [aC (hm b _ q fun z=>z)];exact q,fun b ps q=>⟨#[],by rw [aC (hm b _ q fun z=>z),q];simp⟩⟩
 by_cases hbe:b=e
 ·subst hbe;exact heo
 ·exact ⟨u,k b u hbe q⟩
end
def SN (h:Heap) (H:Hp):List Addr:=(List.range h.objs.size).filter fun a=>(H a).isSome
def yI (h:Heap) (H:Hp):Heap:=PySem.W.hideAll h (SN h H)
theorem Gi (h:Heap) (H:Hp):(yI h H).objs.size=h.objs.size:=PySem.W.hideAll_size _ _
theorem Je {h:Heap} {H:Hp} {b:Addr} {o:Obj} (e:h.get? b=some o) (n:H b=none):(yI h H).get? b=some o:=
 PySem.W.hideAll_get _ e fun hm=>by
  have q:(H b).isSome=true:=(List.mem_filter.mp hm).2;rw [n] at q;simp at q
theorem Oi {h:Heap} {H:Hp} {b:Addr} {o:Obj} (e:(yI h H).get? b=some o):h.get? b=some o/\H b=none:=by
 have e':h.get? b=some o:=PySem.W.of_hideAll (SN h H) e;refine ⟨e',?_⟩;cases q:H b with
 | none=>rfl
 | some x=>
  have hm:b∈SN h H:=List.mem_filter.mpr ⟨ZS.mpr (Za e'),by simp [q]⟩;have z:(yI h H).get? b=none:=PySem.W.hideAll_none (SN h H) hm;rw [z] at e;cases e
structure Mod (K:W.Frag) (mg:Str->Option Value) (base:Heap):Prop where
 kin:K.In base
 glob:base.Ns mainGlobals mg
 blt:∃ mb,base.Ns builtinsNs mb/\∀ x:Str,x≠"__name__"->mb x=bootBuiltins x
 nolimit:base.NoLimit
 sysm:∃ mm,base.Ns sysModules mm
 bmn:∃ bm ob,mg "__builtins__"=some (.ref bm)/\bm≠builtinsNs/\base.get? bm=some ob/\ob.cls= .type "module"/\ob.dict=some builtinsNs/\ob.data= .plain
structure Cx where
 prog:Program
 w:World
 K:W.Frag
 mg:Str->Option Value
 base:Heap
 A:Around
 N:List Str
 s₀:Shared
 H₀:Hp
 env:Env
 outer:List Env
 stack:List Env
 ex:List Addr
 fn:Str->Bool
 calm:Bool
 pn:List (Addr×Obj)
 xe:Value->Shared->Prop
def frs (l:List Env):List Addr:=l.filterMap (·.frame)
abbrev Cx.fs (X:Cx):List Addr:=frs X.outer
def Wu (sc:Scope) (x:Str):Prop:=sc.names.lookup x=some .local\/sc.names.lookup x=some .cell\/sc.names.lookup x=some .free
def Loc (sc:Scope) (x:Str):Prop:=sc.names.lookup x=some .local\/sc.names.lookup x=some .cell
def Look (env:Env) (h:Heap) (m:Str->Option Value) (x:Str) (u:Value):Prop:=
 (env.kindOf x=some .local/\m x=some u)\/((env.kindOf x=some .cell\/env.kindOf x=some .free)/\∃ c,env.cells.lookup x=some c/\h.IsCell c (some u))
structure Cx.Ok (X:Cx):Prop where
 mod:Mod X.K X.mg X.base
 kind:X.env.scope.kind= .function
 glob:X.env.globals=mainGlobals
 blt:X.env.builtins=builtinsNs
 above:X.s₀.heap.objs.size<=X.env.locals
 inj:∀ x y c,X.env.cells.lookup x=some c->X.env.cells.lookup y=some c->x=y
 has:∀ x,(X.env.kindOf x=some .cell\/X.env.kindOf x=some .free)->∃ c,X.env.cells.lookup x=some c
 cab:∀ x c,X.fn x=true->X.env.cells.lookup x=some c->X.s₀.heap.objs.size<=c
 hd:X.calm=true->X.A.handled=none
 frames:X.A.frames=some X.stack
 stk:X.stack=X.outer\/(X.stack=X.env :: X.outer/\X.env.frame=some X.env.locals)
 exf:∀ b∈X.ex,b≠X.env.locals/\∀ x c,X.env.cells.lookup x=some c->c≠b
 bs:∀ b o,X.base.get? b=some o->X.s₀.heap.get? b=some o/\X.H₀ b=none
 bsz:X.base.objs.size<=X.s₀.heap.objs.size
 noex:∀ b o,X.base.get? b=some o->b ∉ X.ex
 exfs:∀ b∈X.ex,b ∉ X.fs
 funs:X.s₀.heap.FunFrames X.base X.outer
 frf:∀ b∈X.fs,X.H₀ b=none
structure Inv (X:Cx) (pins:List (Addr×Obj)) (U:List (Option V)) (H:Hp) (s:Shared):Prop where
 ok:X.Ok
 os:s.os=X.s₀.os
 bare:AllBare s.gens
 base:Un X.fs X.ex X.H₀ H X.s₀.heap s.heap
 loc:∃ m,s.heap.Ns X.env.locals m/\∀ (i:Nat) (x:Str) (v:V),X.N[i]?=some x->U[i]?=some (some v)->Wu X.env.scope x->∃ u,RelV v u/\Look X.env s.heap m x u
 cell:∀ x c,X.env.cells.lookup x=some c->∃ v,s.heap.IsCell c v
 free:H X.env.locals=none
 freeC:∀ x c,X.env.cells.lookup x=some c->H c=none
 pin:∀ p∈X.pn ++ pins,s.heap.get? p.1=some p.2/\H p.1=none/\p.1≠X.env.locals/\p.1 ∉ X.fs/\∀ v,p.2.data≠.cell v
 hok:HOk X.prog X.w H s.heap
 len:U.length=X.N.length
section
variable {X:Cx} {pins:List (Addr×Obj)} {U:List (Option V)} {H H':Hp} {s:Shared} {h':Heap}
theorem Cx.Ok.nofr (ok:X.Ok) {b:Addr} {o:Obj} (e:X.base.get? b=some o):b ∉ X.fs:=fun hb=>by
 have:=(ok.funs.mem hb).1;rw [e] at this;cases this
theorem Inv.bs (I:Inv X pins U H s):∀ b o,X.base.get? b=some o->s.heap.get? b=some o/\H b=none:=fun b o e=>
 ⟨I.base.keep b o (I.ok.bs b o e).1 (I.ok.bs b o e).2 (I.ok.nofr e) (I.ok.noex b o e),I.base.free b o (I.ok.bs b o e).1 (I.ok.bs b o e).2 (I.ok.noex b o e)⟩
theorem Inv.bk (I:Inv X pins U H s):∀ b o,X.base.get? b=some o->s.heap.get? b=some o:=fun b o e=>(I.bs b o e).1
theorem Inv.mod (I:Inv X pins U H s):Mod X.K X.mg X.base:=I.ok.mod
theorem Inv.kIn (I:Inv X pins U H s):X.K.In s.heap:=I.ok.mod.kin.keeps I.bk
theorem Inv.lt (I:Inv X pins U H s):X.env.locals < s.heap.objs.size:=let ⟨_,hn,_⟩:=I.loc;hn.lt
theorem Inv.sz (I:Inv X pins U H s):X.s₀.heap.objs.size<=s.heap.objs.size:=ZP I.ok.above (Nat.le_of_lt I.lt)
theorem Inv.nofs (I:Inv X pins U H s) {a:Addr} (h:s.heap.objs.size<=a):a ∉ X.fs:=fun hb=>by
 obtain ⟨_,o,ho,_⟩:=I.ok.funs.mem hb;exact absurd (Zr (Za ho) (ZP I.sz h)) (AaA _)
theorem Inv.cne (I:Inv X pins U H s):∀ x c,X.env.cells.lookup x=some c->c≠X.env.locals:=fun x c e z=>by
 obtain ⟨v,o,ho,hd⟩:=I.cell x c e;obtain ⟨m,⟨o',es,ep,ho',hd',_⟩,_⟩:=I.loc;rw [z,ho'] at ho;cases ho;rw [hd'] at hd;cases hd
theorem Inv.funs (I:Inv X pins U H s):s.heap.FunFrames X.base X.outer:=by
 have all:∀ (l:List Env),(∀ b∈frs l,b∈X.fs)->X.s₀.heap.FunFrames X.base l->s.heap.FunFrames X.base l:=by
  intro l
  induction l with
  | nil=>intro _ _;trivial
  | cons env r ih=>
   intro hs hl;obtain ⟨hk,⟨L,o,hf,hn,ho,hd⟩,hr⟩:=hl;have hL:L∈X.fs:=hs L (by unfold frs;rw [List.filterMap_cons,hf];exact Z6);obtain ⟨sl,e⟩:=I.base.slot L o ho (I.ok.frf L hL) hL fun z=>I.ok.exfs L z hL
   exact ⟨hk,⟨L,_,hf,hn,e,hd⟩,ih (fun b hb=>hs b (by unfold frs;rw [List.filterMap_cons,hf];exact Zz _ hb)) hr⟩
 exact all X.outer (fun _ hb=>hb) I.ok.funs
theorem Inv.stack (I:Inv X pins U H s):s.heap.FunFrames X.base X.stack:=by
 rcases I.ok.stk with e | ⟨e,hf⟩
 ·rw [e];exact I.funs
 ·rw [e]
  obtain ⟨m,hn,_⟩:=I.loc;refine .cons (by rw [I.ok.kind];decide) hf hn ?_ I.funs;exact Heap.get?_none_of_le (ZP I.ok.bsz I.ok.above)
theorem Inv.stkSub (I:Inv X pins U H s):∀ b∈frs X.stack,b∈X.env.locals :: X.fs:=fun b hb=>by
 rcases I.ok.stk with e | ⟨e,hf⟩
 ·rw [e] at hb;exact Zz _ hb
 ·rw [e] at hb
  unfold frs at hb;rw [List.filterMap_cons,hf] at hb;exact hb
theorem Inv.stkFree (I:Inv X pins U H s):∀ b∈frs X.stack,H b=none:=fun b hb=>by
 rcases Zb.mp (I.stkSub b hb) with e | hb
 ·rw [e];exact I.free
 ·obtain ⟨_,o,ho,_⟩:=I.ok.funs.mem hb
  exact I.base.free b o ho (I.ok.frf b hb) fun z=>I.ok.exfs b z hb
theorem Inv.step {g':Array GenState} {t':Nat} {d':Drawn} {ch:List Addr} (I:Inv X pins U H s)
  (hch:∀ b∈ch,(b∈X.ex\/X.s₀.heap.objs.size<=b)/\b≠X.env.locals/\(∀ x c,X.env.cells.lookup x=some c->c≠b)/\∀ p∈X.pn ++ pins,p.1≠b)
  (keep:∀ b o,b≠X.env.locals->b ∉ X.fs->b ∉ ch->s.heap.get? b=some o->H b=none->h'.get? b=some o)
  (slot:∀ b o,b≠X.env.locals->b∈X.fs->b ∉ ch->s.heap.get? b=some o->H b=none->∃ sl,h'.get? b=some {o with slots:=sl}) (free:∀ b o,b ∉ ch->s.heap.get? b=some o->H b=none->H' b=none)
  (there:∀ b o,b ∉ ch->s.heap.get? b=some o->∃ o',h'.get? b=some o')
  (tups:∀ b xs,H b=some (.tup xs)->H' b=some (.tup xs)) (frzs:∀ b o u,H b=some (.frz o u)->H' b=some (.frz o u)) (tbls:∀ b ps,H b=some (.tbl ps)->∃ more,H' b=some (.tbl (ps ++ more)))
  (ns:∀ m,s.heap.Ns X.env.locals m->h'.Ns X.env.locals m) (hok:HOk X.prog X.w H' h') (hg:AllBare g'):
  Inv X pins U H' {s with heap:=h',gens:=g',drawn:=d',toks:=t'}:=by
 have neL:∀ b o,X.s₀.heap.get? b=some o->b≠X.env.locals:=fun b o e=>ZR (Zr (Za e) I.ok.above)
 have neC:∀ b o,X.s₀.heap.get? b=some o->b ∉ X.ex->b ∉ ch:=fun b o e hx hb=>by
  rcases (hch b hb).1 with z | z
  ·exact hx z
  ·exact absurd (Zr (Za e) z) (AaA _)
 have cellK:∀ x c,X.env.cells.lookup x=some c->∀ v,s.heap.IsCell c v->h'.IsCell c v:=fun x c e v ⟨o,ho,hd⟩=>by
  have nch:c ∉ ch:=fun z=>(hch c z).2.2.1 x c e rfl
  by_cases hc:c∈X.fs
  ·obtain ⟨sl,q⟩:=slot c o (I.cne x c e) hc nch ho (I.freeC x c e)
   exact ⟨_,q,hd⟩
  ·exact ⟨o,keep c o (I.cne x c e) hc nch ho (I.freeC x c e),hd⟩
 refine ⟨I.ok,I.os,hg,⟨fun b o e n hb hx=>?_,fun b o e n hb hx=>?_,fun b o e n hx=>?_,fun b o e hx=>?_,fun b xs e=>tups b xs (I.base.tups b xs e),fun b o xs e=>frzs b o xs (I.base.frzs b o xs e),fun b ps e=>?_⟩,?_,fun x c e=>?_,?_,fun x c e=>?_,fun p hp=>?_,hok,I.len⟩
 ·exact keep b o (neL b o e) hb (neC b o e hx) (I.base.keep b o e n hb hx) (I.base.free b o e n hx)
 ·obtain ⟨sl,e1⟩:=I.base.slot b o e n hb hx
  obtain ⟨sl',e2⟩:=slot b _ (neL b o e) hb (neC b o e hx) e1 (I.base.free b o e n hx);exact ⟨sl',e2⟩
 ·obtain ⟨o',e1⟩:=I.base.there b o e hx
  exact free b o' (neC b o e hx) e1 (I.base.free b o e n hx)
 ·obtain ⟨o',e1⟩:=I.base.there b o e hx
  exact there b o' (neC b o e hx) e1
 ·obtain ⟨m1,e1⟩:=I.base.tbls b ps e
  obtain ⟨m2,e2⟩:=tbls b _ e1;exact ⟨m1 ++ m2,by rw [e2,Array.append_assoc]⟩
 ·obtain ⟨m,hn,hl⟩:=I.loc
  refine ⟨m,ns m hn,fun i x v e1 e2 e3=>?_⟩;obtain ⟨u,r,l⟩:=hl i x v e1 e2 e3;refine ⟨u,r,?_⟩;rcases l with l | ⟨k,c,e,z⟩
  ·exact .inl l
  ·exact .inr ⟨k,c,e,cellK x c e _ z⟩
 ·obtain ⟨v,z⟩:=I.cell x c e
  exact ⟨v,cellK x c e v z⟩
 ·obtain ⟨m,⟨o,_,_,ho,_⟩,_⟩:=I.loc
  exact free _ o (fun z=>(hch _ z).2.1 rfl) ho I.free
 ·obtain ⟨v,o,ho,hd⟩:=I.cell x c e
  exact free c o (fun z=>(hch c z).2.2.1 x c e rfl) ho (I.freeC x c e)
 ·obtain ⟨e,n,ne,nf,d⟩:=I.pin p hp
  have nch:p.1 ∉ ch:=fun z=>(hch p.1 z).2.2.2 p hp rfl
  exact ⟨keep p.1 p.2 ne nf nch e n,free p.1 p.2 nch e n,ne,nf,d⟩
theorem Inv.un {t':Nat} (I:Inv X pins U H s) (u:Un X.fs [] H H' s.heap h') (hok:HOk X.prog X.w H' h'):Inv X pins U H' {s with heap:=h',toks:=t'}:=by
 obtain ⟨m,⟨o,es,ep,ho,r⟩,_⟩:=id I.loc;obtain ⟨sl,hL⟩:=u.any ho I.free (by simp)
 exact I.step (g':=s.gens) (d':=s.drawn) (ch:=[]) (fun _ z=>nomatch z) (fun b o _ hb _ e n=>u.keep b o e n hb (by simp)) (fun b o _ hb _ e n=>u.slot b o e n hb (by simp)) (fun b o _ e n=>u.free b o e n (by simp)) (fun b o _ e=>u.there b o e (by simp)) u.tups u.frzs u.tbls (fun m' hm=>by
  obtain ⟨o',es',ep',ho',r'⟩:=hm;rw [ho] at ho';cases ho';exact ⟨_,es',ep',hL,r'⟩) hok I.bare
theorem Inv.call {g':Array GenState} {t':Nat} {d':Drawn} {ch:List Addr} (I:Inv X pins U H s) (u:Un (frs X.stack) ch H H' s.heap h') (hok:HOk X.prog X.w H' h') (hg:AllBare g')
  (hch:∀ b∈ch,(b∈X.ex\/X.s₀.heap.objs.size<=b)/\b≠X.env.locals/\(∀ x c,X.env.cells.lookup x=some c->c≠b)/\∀ p∈X.pn ++ pins,p.1≠b):
  Inv X pins U H' {s with heap:=h',gens:=g',drawn:=d',toks:=t'}:=by
 obtain ⟨m,⟨o,es,ep,ho,r⟩,_⟩:=id I.loc;obtain ⟨sl,hL⟩:=u.any ho I.free fun z=>(hch _ z).2.1 rfl
 exact I.step (ch:=ch) hch (fun b o hL hb hc e n=>u.keep b o e n (fun z=>(Zb.mp (I.stkSub b z)).elim hL hb) hc) (fun b o _ _ hc e n=>u.any e n hc) (fun b o hc e n=>u.free b o e n hc) (fun b o hc e=>u.there b o e hc) u.tups u.frzs u.tbls (fun m' hm=>by
  obtain ⟨o',es',ep',ho',r'⟩:=hm;rw [ho] at ho';cases ho';exact ⟨_,es',ep',hL,r'⟩) hok hg
theorem Inv.turned {t':Nat} {it:Addr} (I:Inv X pins U H s) (k:∀ b o,b≠it->s.heap.get? b=some o->h'.get? b=some o) (hn:H it=none) (hL:it≠X.env.locals)
  (h1:it∈X.ex\/X.s₀.heap.objs.size<=it) (h2:∀ x c,X.env.cells.lookup x=some c->c≠it) (h3:∀ p∈X.pn ++ pins,p.1≠it):Inv X pins U H {s with heap:=h',toks:=t'}:=by
 have nit:∀ b u,H b=some u->b≠it:=fun b u e z=>by rw [z,hn] at e;cases e
 refine I.step (g':=s.gens) (d':=s.drawn) (ch:=[it]) (fun b hb=>?_) (fun b o _ _ hc e _=>k b o (fun z=>hc (by simp [z])) e) (fun b o _ _ hc e _=>⟨o.slots,k b o (fun z=>hc (by simp [z])) e⟩) (fun _ _ _ _ n=>n)
  (fun b o hc e=>⟨o,k b o (fun z=>hc (by simp [z])) e⟩) (fun _ _ e=>e) (fun _ _ _ e=>e) (fun b ps e=>⟨#[],by rw [e];simp⟩) (fun m hm=>?_) (fun b u e=>?_) I.bare
 ·have e:b=it:=by simpa using hb
  subst e;exact ⟨h1,hL,h2,h3⟩
 ·obtain ⟨o,es,ep,ho,r⟩:=hm
  exact ⟨o,es,ep,k _ o (Ne.symm hL) ho,r⟩
 ·refine (I.hok b u e).stay (fun c v hc q=>k c v ?_ q) (fun _ q=>q) fun _ _ q=>q
  rcases hc with z | z
  ·rw [z];exact nit b u e
  ·exact nit c _ z
theorem Inv.tok (I:Inv X pins U H s) (t:Nat):Inv X pins U H {s with toks:=t}:=I.un (h':=s.heap) (t':=t) Un.refl I.hok
theorem Inv.kept {t':Nat} (I:Inv X pins U H s) (k:∀ b u,s.heap.get? b=some u->h'.get? b=some u):Inv X pins U H {s with heap:=h',toks:=t'}:=I.un (Un.kept k) (I.hok.kept k)
theorem Inv.laid {a:Addr} {o:HO} {t':Nat} (I:Inv X pins U H s) (k:∀ b u,s.heap.get? b=some u->h'.get? b=some u) (hp:s.heap.objs.size<=a) (new:ObjOk X.prog X.w (upd H a o) h' a o):
  Inv X pins U (upd H a o) {s with heap:=h',toks:=t'}:=I.un (Un.laid k hp (I.hok.fresh hp)) (I.hok.laid k hp new)
theorem Inv.write {x e:Addr} {o:HO} {t':Nat} (I:Inv X pins U H s) (mu:Wt (H x)) (he:e=x\/H e=some (.own x)) (k:∀ b u,b≠e->s.heap.get? b=some u->h'.get? b=some u) (heo:∃ u,h'.get? e=some u)
  (new:ObjOk X.prog X.w (upd H x o) h' x o):Inv X pins U (upd H x o) {s with heap:=h',toks:=t'}:=I.un (Un.write mu he k heo) (I.hok.write mu he k heo new)
theorem Inv.weak {U':List (Option V)} (I:Inv X pins U H s) (hl:U'.length=U.length) (w:∀ (i:Nat) v,U'[i]?=some (some v)->U[i]?=some (some v)):Inv X pins U' H s:=
 ⟨I.ok,I.os,I.bare,I.base,let ⟨m,hn,hl'⟩:=I.loc;⟨m,hn,fun i x v e1 e2 e3=>hl' i x v e1 (w i v e2) e3⟩,I.cell,I.free,I.freeC,I.pin,I.hok,hl.trans I.len⟩
theorem Inv.pins_of {pins':List (Addr×Obj)} (I:Inv X pins U H s) (h:∀ p∈pins',s.heap.get? p.1=some p.2/\H p.1=none/\p.1≠X.env.locals/\p.1 ∉ X.fs/\∀ v,p.2.data≠.cell v):Inv X pins' U H s:=
 ⟨I.ok,I.os,I.bare,I.base,I.loc,I.cell,I.free,I.freeC,fun p hp=>(Zh.mp hp).elim (fun z=>I.pin p (Zw _ z)) (h p),I.hok,I.len⟩
theorem vN {N:List Str} (hN:N.Nodup) {i j:Nat} {x:Str} (a:N[i]?=some x) (b:N[j]?=some x):i=j:=by
 obtain ⟨h1,e1⟩:=Y0.mp a;obtain ⟨h2,e2⟩:=Y0.mp b;exact (List.getElem_inj hN).mp (e1.trans e2.symm)
theorem xT {M:Model} {A:Around} {E:Value->Shared->Prop} {i:Nat} {x:Str} {v:V} {u:Value} {Q:Unit->Shared->Prop} (I:Inv X pins U H s) (hN:X.N.Nodup) (hi:X.N[i]?=some x) (hx:Loc X.env.scope x) (r:RelV v u)
  (h:∀ s',Inv X pins (U.set i (some v)) H s'->(∃ a,Heap.SameBut a s.heap s'.heap/\(a=X.env.locals\/X.env.cells.lookup x=some a))->Q () s') (hf:autoParam (X.fn x=true\/X.env.scope.names.lookup x=some .local) L2.auto1._auto_1):wpAny M A (storeName X.env x u) Q E s:=by
 obtain ⟨m,hn,hl⟩:=id I.loc;have hcls:(X.env.scope.kind == .class || (X.env.scope.kind == .module && X.env.locals != X.env.globals))=false:=by rw [I.ok.kind];rfl
 have hiU:i < U.length:=by rw [I.len];exact (Y0.mp hi).1
 have cne:=I.cne
 have tracked:∀ {a:Addr} {h':Heap},(∃ o,s.heap.get? a=some o/\H a=none)->Heap.SameBut a s.heap h'->HOk X.prog X.w H h':=fun {a h'} ha hs b ob e=>by
  obtain ⟨_,_,hfree⟩:=ha;refine (I.hok b ob e).stay (fun c w' hc q=>(hs.2 c ?_).trans q) (fun _ q=>q) fun _ _ q=>q
  rintro rfl;rcases hc with rfl | hc
  ·rw [hfree] at e;cases e
  ·rw [hfree] at hc;cases hc
 rcases hx with hk | hk
 ·refine wpAny_storeName_local hk hn (fun h' hn' hs=>?_) hcls
  obtain ⟨oL,_,_,hoL,_⟩:=id hn;refine h _ ⟨I.ok,I.os,I.bare,⟨fun b o e n hb hx=>?_,fun b o e n hb hx=>?_,I.base.free,fun b o e hx=>?_,I.base.tups,I.base.frzs,I.base.tbls⟩,⟨_,hn',fun j y v' e1 e2 e3=>?_⟩,fun y c e=>?_,I.free,I.freeC,fun p hp=>?_,tracked ⟨oL,hoL,I.free⟩ hs,by simpa using I.len⟩ ⟨_,hs,.inl rfl⟩
  ·exact (hs.2 b (ZR (Zr (Za e) I.ok.above))).trans (I.base.keep b o e n hb hx)
  ·obtain ⟨sl,e1⟩:=I.base.slot b o e n hb hx
   exact ⟨sl,(hs.2 b (ZR (Zr (Za e) I.ok.above))).trans e1⟩
  ·obtain ⟨o',e1⟩:=I.base.there b o e hx
   exact ⟨o',(hs.2 b (ZR (Zr (Za e) I.ok.above))).trans e1⟩
  ·by_cases hj:j=i
   ·subst hj
    rw [hi] at e1;cases e1;rw [AaB hiU] at e2;cases e2;exact ⟨u,r,.inl ⟨hk,by simp⟩⟩
   ·rw [Aai (Ne.symm hj)] at e2
    obtain ⟨u',r',q⟩:=hl j y v' e1 e2 e3;refine ⟨u',r',?_⟩;rcases q with ⟨k,e⟩ | ⟨k,c,e,z⟩
    ·refine .inl ⟨k,?_⟩
     have:y≠x:=fun e=>hj (vN hN e1 (e ▸ hi))
     simp [this,e]
    ·exact .inr ⟨k,c,e,z.sameBut hs (cne y c e)⟩
  ·obtain ⟨w',z⟩:=I.cell y c e
   exact ⟨w',z.sameBut hs (cne y c e)⟩
  ·obtain ⟨e,n,ne,nf,d⟩:=I.pin p hp
   exact ⟨(hs.2 p.1 ne).trans e,n,ne,nf,d⟩
 ·have hfn:X.fn x=true:=by
   rcases hf with z | z
   ·exact z
   ·rw [z] at hk;cases hk
  obtain ⟨c,hc⟩:=I.ok.has x (.inl hk);obtain ⟨w',z⟩:=I.cell x c hc;refine wpAny_storeName_cell I.ok.kind hk hc z (fun h' hc' hs=>?_);obtain ⟨oc,hoc,hocd⟩:=id z;refine h {s with heap:=h'} ⟨I.ok,I.os,I.bare,⟨fun b o e n hb hx=>?_,fun b o e n hb hx=>?_,I.base.free,fun b o e hx=>?_,I.base.tups,I.base.frzs,I.base.tbls⟩,⟨m,hn.sameBut hs (Ne.symm (cne x c hc)),fun j y v' e1 e2 e3=>?_⟩,fun y c' e=>?_,I.free,I.freeC,fun p hp=>?_,tracked ⟨oc,hoc,I.freeC x c hc⟩ hs,by simpa using I.len⟩ ⟨c,hs,.inr hc⟩
  ·exact (hs.2 b (ZR (Zr (Za e) (I.ok.cab x c hfn hc)))).trans (I.base.keep b o e n hb hx)
  ·obtain ⟨sl,e1⟩:=I.base.slot b o e n hb hx
   exact ⟨sl,(hs.2 b (ZR (Zr (Za e) (I.ok.cab x c hfn hc)))).trans e1⟩
  ·obtain ⟨o',e1⟩:=I.base.there b o e hx
   exact ⟨o',(hs.2 b (ZR (Zr (Za e) (I.ok.cab x c hfn hc)))).trans e1⟩
  ·by_cases hj:j=i
   ·subst hj
    rw [hi] at e1;cases e1;rw [AaB hiU] at e2;cases e2;exact ⟨u,r,.inr ⟨.inl hk,c,hc,hc'⟩⟩
   ·rw [Aai (Ne.symm hj)] at e2
    obtain ⟨u',r',q⟩:=hl j y v' e1 e2 e3;refine ⟨u',r',?_⟩;rcases q with q | ⟨k,c',e,z'⟩
    ·exact .inl q
    ·refine .inr ⟨k,c',e,z'.sameBut hs ?_⟩
     rintro rfl;exact hj (vN hN e1 (I.ok.inj _ _ _ e hc ▸ hi))
  ·by_cases hcc:c'=c
   ·subst hcc;exact ⟨_,hc'⟩
   ·obtain ⟨w2,z2⟩:=I.cell y c' e
    exact ⟨w2,z2.sameBut hs hcc⟩
  ·obtain ⟨e,n,ne,nf,d⟩:=I.pin p hp
   refine ⟨(hs.2 p.1 ?_).trans e,n,ne,nf,d⟩;intro q;rw [q,hoc] at e;have q':oc=p.2:=Zm e;exact d w' (by rw [← q'];exact hocd)
theorem oK {M:Model} {A:Around} {E:Value->Shared->Prop} {i:Nat} {x:Str} {v:V} {u:Value} {Q:Unit->Shared->Prop} (I:Inv X pins U H s) (hN:X.N.Nodup) (hi:X.N[i]?=some x) (hx:Loc X.env.scope x) (r:RelV v u)
  (h:∀ s',Inv X pins (U.set i (some v)) H s'->Q () s') (hf:autoParam (X.fn x=true\/X.env.scope.names.lookup x=some .local) L2.auto1._auto_1):wpAny M A (storeName X.env x u) Q E s:=
 xT I hN hi hx r (fun s' I' _=>h s' I') hf
theorem Inv.call' {s':Shared} {ch:List Addr} (I:Inv X pins U H s) (ho:s'.os=s.os) (u:Un (frs X.stack) ch H H' s.heap s'.heap) (hok:HOk X.prog X.w H' s'.heap) (hg:AllBare s'.gens)
  (hch:∀ b∈ch,(b∈X.ex\/X.s₀.heap.objs.size<=b)/\b≠X.env.locals/\(∀ x c,X.env.cells.lookup x=some c->c≠b)/\∀ p∈X.pn ++ pins,p.1≠b):Inv X pins U H' s':=by
 obtain ⟨h',g',d',t',o'⟩:=s';have e:o'=s.os:=ho;subst e;exact I.call (g':=g') (t':=t') (d':=d') u hok hg hch
end
abbrev XK:=Value->Option Addr->Hp->Prop
abbrev St:=List (Option V)
abbrev VK:=V->Hp->Prop
abbrev TE:=St->Hp->VK->Prop
abbrev TT:=St->Hp->(Bool->Hp->Prop)->Prop
abbrev TA:=St->Hp->(List V->Hp->Prop)->Prop
structure Ends where
 nx:St->Hp->Prop
 rt:VK
 bk:St->Hp->Prop:=fun _ _=>False
 ct:St->Hp->Prop:=fun _ _=>False
abbrev TS:=Ends->St->Hp->Prop
def EP (X:Cx) (pins:List (Addr×Obj)) (U:St) (Q:VK) (u:Value) (s':Shared):Prop:=∃ v H',Inv X pins U H' s'/\RelV v u/\Q v H'
def TP (X:Cx) (pins:List (Addr×Obj)) (U:St) (Q:Bool->Hp->Prop) (b:Bool) (s':Shared):Prop:=∃ H',Inv X pins U H' s'/\Q b H'
def AP (X:Cx) (pins:List (Addr×Obj)) (U:St) (Q:List V->Hp->Prop) (us:List Value) (s':Shared):Prop:=∃ vs H',Inv X pins U H' s'/\Vals vs us/\Q vs H'
def SP (X:Cx) (pins:List (Addr×Obj)) (D:Ends) (f:Flow) (s':Shared):Prop:=
 match f with
 | .next=>∃ U' H',Inv X pins U' H' s'/\D.nx U' H'
 | .brk=>∃ U' H',Inv X pins U' H' s'/\D.bk U' H'
 | .cont=>∃ U' H',Inv X pins U' H' s'/\D.ct U' H'
 | .ret u=>∃ v U' H',Inv X pins U' H' s'/\RelV v u/\D.rt v H'
def PE (X:Cx) (e:Expr) (t:TE):Prop:=
 ∀ (pins:List (Addr×Obj)) (s:Shared) (U:St) (H:Hp) (Q:VK),Inv X pins U H s->t U H Q->wpAny (model X.prog X.w) X.A (eval e X.env) (EP X pins U Q) X.xe s
def PT (X:Cx) (e:Expr) (t:TT):Prop:=
 ∀ (pins:List (Addr×Obj)) (s:Shared) (U:St) (H:Hp) (Q:Bool->Hp->Prop),Inv X pins U H s->t U H Q->wpAny (model X.prog X.w) X.A (isTrue e X.env (eval e X.env)) (TP X pins U Q) X.xe s
def PW (X:Cx) (e:Expr) (t:TT):Prop:=
 ∀ (whole:Sem Value) (pins:List (Addr×Obj)) (s:Shared) (U:St) (H:Hp) (Q:Bool->Hp->Prop),Inv X pins U H s->t U H Q->wpAny (model X.prog X.w) X.A (isTrue e X.env whole) (TP X pins U Q) X.xe s
theorem PW.pt {X:Cx} {e:Expr} {t:TT} (h:PW X e t):PT X e t:=h _
def PA (X:Cx) (es:List Expr) (t:TA):Prop:=
 ∀ (pos:Pos) (pins:List (Addr×Obj)) (s:Shared) (U:St) (H:Hp) (Q:List V->Hp->Prop),Inv X pins U H s->t U H Q->wpAny (model X.prog X.w) X.A (spliced (backTo pos (starEach es X.env))) (AP X pins U Q) X.xe s
def PS (X:Cx) (st:Stmt) (t:TS):Prop:=
 ∀ (pins:List (Addr×Obj)) (s:Shared) (U:St) (H:Hp) (D:Ends),Inv X pins U H s->t D U H->wpAny (model X.prog X.w) X.A (exec st X.env) (SP X pins D) X.xe s
def PSs (X:Cx) (st:List Stmt) (t:TS):Prop:=
 ∀ (pins:List (Addr×Obj)) (s:Shared) (U:St) (H:Hp) (D:Ends),Inv X pins U H s->t D U H->wpAny (model X.prog X.w) X.A (execs st X.env) (SP X pins D) X.xe s
theorem eQ {α:Type} {t:Sem α} {Q Q':α->Shared->Prop} {M:Model} {A:Around} {E:Value->Shared->Prop} {s:Shared} (h:wpAny M A t Q E s) (hQ:∀ a s,Q a s->Q' a s):wpAny M A t Q' E s:=Aal h hQ fun _ _ x=>x
section
variable {X:Cx}
def rF (i:Nat):TE:=fun U H Q=>∃ v,U[i]?=some (some v)/\Q v H
def tC (v:V):TE:=fun _ H Q=>Q v H
theorem yJ {i:Nat} {x:Str} {pos:Pos} (hN:X.N[i]?=some x) (hv:Wu X.env.scope x) (hd:autoParam ((x == ("__debug__":Str))=false) L2.auto2._auto_1) (hcd:autoParam ((x == ("__classdict__":Str))=false) L2.auto2._auto_1):PE X (.Name x pos) (rF i):=by
 intro pins s U H Q I h;obtain ⟨v,e,h⟩:=h;obtain ⟨m,hn,hl⟩:=I.loc;obtain ⟨u,r,l⟩:=hl i x v hN e hv;have fin:EP X pins U Q u s:=⟨v,H,I,r,h⟩;rcases l with ⟨hk,hm⟩ | ⟨hk,c,hc,hcell⟩
 ·exact wpAny_Name (wpAny_loadName_local I.ok.kind hk hn hm fin) hd
 ·rcases hk with hk | hk
  ·exact wpAny_Name (wpAny_loadName_cell I.ok.kind hk hc hcell fin) hd
  ·exact wpAny_Name (wpAny_loadName_free I.ok.kind hk hc hcell fin hcd) hd
theorem SQ {i j pos}:PE X (.Constant (.int i) j pos) (tC (.int i)):=fun _ _ _ H _ I h=>wpAny_Constant_int ⟨.int i,H,I.tok _,⟨_,rfl⟩,h⟩
theorem Wv {b j pos}:PE X (.Constant (.bool b) j pos) (tC (.bl b)):=fun _ _ _ H _ I h=>Constant_bool ⟨.bl b,H,I,rfl,h⟩
theorem Tc {j pos}:PE X (.Constant .none j pos) (tC .non):=fun _ _ _ H _ I h=>Constant_none ⟨.non,H,I,rfl,h⟩
theorem Td {x j pos}:PE X (.Constant (.str x) j pos) (tC (.str x)):=fun _ _ _ H _ I h=>Calls.Constant_str ⟨.str x,H,I.tok _,⟨_,rfl⟩,h⟩
def Gl (X:Cx) (x:Str):Prop:=X.env.kindOf x=some .globalImplicit
theorem pR {E:Value->Shared->Prop} {pins:List (Addr×Obj)} {s:Shared} {U:St} {H:Hp} {x:Str} {u:Value} {pos:Pos} {Q:Value->Shared->Prop} (I:Inv X pins U H s) (hg:Gl X x) (hm:X.mg x=some u) (h:Q u s)
  (hd:autoParam ((x == ("__debug__":Str))=false) L2.auto2._auto_1):wpAny (model X.prog X.w) X.A (eval (.Name x pos) X.env) Q E s:=
 Calls.Name_function_global I.ok.kind hg (Calls.loadGlobal_global (by rw [I.ok.glob];exact I.mod.glob.keeps I.bk) hm h) hd
theorem iR {E:Value->Shared->Prop} {pins:List (Addr×Obj)} {s:Shared} {U:St} {H:Hp} {x:Str} {u:Value} {pos:Pos} {Q:Value->Shared->Prop} (I:Inv X pins U H s) (hg:Gl X x) (hm:X.mg x=none) (hv:bootBuiltins x=some u) (h:Q u s)
  (hn:autoParam (x≠"__name__") L2.auto2._auto_1) (hd:autoParam ((x == ("__debug__":Str))=false) L2.auto2._auto_1):wpAny (model X.prog X.w) X.A (eval (.Name x pos) X.env) Q E s:=by
 obtain ⟨mb,h1,h2⟩:=I.mod.blt;exact Calls.Name_function_global I.ok.kind hg (Calls.loadGlobal_builtin (by rw [I.ok.glob];exact I.mod.glob.keeps I.bk) hm (by rw [I.ok.blt];exact h1.keeps I.bk) ((h2 x hn).trans hv) h) hd
theorem yK {x:Str} {v:V} {u:Value} {pos:Pos} (hg:Gl X x) (hm:X.mg x=some u) (r:RelV v u) (hd:autoParam ((x == ("__debug__":Str))=false) L2.auto2._auto_1):PE X (.Name x pos) (tC v):=
 fun _ _ _ H _ I h=>pR I hg hm ⟨v,H,I,r,h⟩ hd
theorem Oj {x:Str} {v:V} {u:Value} {pos:Pos} (hg:Gl X x) (hm:X.mg x=none) (hv:bootBuiltins x=some u) (r:RelV v u) (hn:autoParam (x≠"__name__") L2.auto2._auto_1) (hd:autoParam ((x == ("__debug__":Str))=false) L2.auto2._auto_1):PE X (.Name x pos) (tC v):=
 fun _ _ _ H _ I h=>iR I hg hm hv ⟨v,H,I,r,h⟩ hn hd
variable {a b:Expr} {ta tb:TE} {pos:Pos}
def tB (t:TE):TT:=fun U H Q=>t U H fun x H1=>∃ c,x= .bl c/\Q c H1
theorem Te {e:Expr} {t:TE} (h:PE X e t) (he:autoParam (∀ whole,isTrue e X.env whole=(do let v ← whole;standAt e.pos;holding [v] (truthy v))) L2.auto3._auto_1):PT X e (tB t):=by
 intro pins s U H Q I hw;refine isTrue_plain (eQ (h pins s U H _ I hw) fun v s1 qq0=>?_) (he _);obtain ⟨x,H1,I1,r1,q1⟩:=qq0;obtain ⟨d,rfl,q⟩:=q1;cases r1;exact AaY ⟨H1,I1,q⟩
variable {tA tB':TT} {rest:List Expr}
def Tf (t u:TT):TT:=fun U H Q=>t U H fun c H1=>if c=true then u U H1 Q else Q false H1
def tOr (t u:TT):TT:=fun U H Q=>t U H fun c H1=>if c=true then Q true H1 else u U H1 Q
def Tg (t:TT):TT:=fun U H Q=>t U H fun c H1=>Q (!c) H1
theorem Ol (ha:PT X a tA):PW X (.BoolOp .And [a] pos) tA:=by
 intro wh pins s U H Q I h;refine isTrue_and (eQ (ha pins s U H Q I h) fun c s1 e=>?_);cases c with
 | true=>exact isTrue_and_nil e
 | false=>exact e
theorem Th (ha:PT X a tA):PW X (.BoolOp .Or [a] pos) tA:=by
 intro wh pins s U H Q I h;refine isTrue_or (eQ (ha pins s U H Q I h) fun c s1 e=>?_);cases c with
 | false=>exact isTrue_or_nil e
 | true=>exact e
theorem Ti (ha:PT X a tA) (hb:PW X (.BoolOp .And (b :: rest) pos) tB'):PW X (.BoolOp .And (a :: b :: rest) pos) (Tf tA tB'):=by
 intro wh pins s U H Q I h;refine isTrue_and (eQ (ha pins s U H _ I h) fun c s1 qq0=>?_);obtain ⟨H1,I1,q1⟩:=qq0;cases c with
 | true=>exact hb wh pins s1 U H1 Q I1 q1
 | false=>exact ⟨H1,I1,q1⟩
theorem Ww (ha:PT X a tA) (hb:PW X (.BoolOp .Or (b :: rest) pos) tB'):PW X (.BoolOp .Or (a :: b :: rest) pos) (tOr tA tB'):=by
 intro wh pins s U H Q I h;refine isTrue_or (eQ (ha pins s U H _ I h) fun c s1 qq0=>?_);obtain ⟨H1,I1,q1⟩:=qq0;cases c with
 | true=>exact ⟨H1,I1,q1⟩
 | false=>exact hb wh pins s1 U H1 Q I1 q1
theorem Tj (ha:PT X a tA):PT X (.UnaryOp .Not a pos) (Tg tA):=by
 intro pins s U H Q I h;exact isTrue_not (ha pins s U H (fun c H1=>Q (!c) H1) I h)
def Jf (ta tb:TE):TE:=fun U H Q=>ta U H fun x H1=>∃ c,x= .bl c/\if c=true then tb U H1 Q else Q (.bl false) H1
def Jg (ta:TE):TE:=fun U H Q=>ta U H fun x H1=>∃ c,x= .bl c/\Q (.bl (!c)) H1
theorem Tp {op} {t:TE} (h:PE X a t):PE X (.BoolOp op [a] pos) t:=fun pins s U H Q I hw=>BoolOp_one (h pins s U H Q I hw)
theorem Tq (ha:PE X a ta) (hb:PE X (.BoolOp .And (b :: rest) pos) tb):PE X (.BoolOp .And (a :: b :: rest) pos) (Jf ta tb):=by
 intro pins s U H Q I h;refine BoolOp_and (eQ (ha pins s U H _ I h) fun v s1 qq0=>?_);obtain ⟨x,H1,I1,r1,q1⟩:=qq0;obtain ⟨c,rfl,q1⟩:=q1;cases r1;refine AaY ?_;cases c with
 | true=>exact hb pins s1 U H1 Q I1 q1
 | false=>exact ⟨.bl false,H1,I1,rfl,q1⟩
theorem Tr (ha:PE X a ta):PE X (.UnaryOp .Not a pos) (Jg ta):=by
 intro pins s U H Q I h;refine UnaryOp_ (eQ (ha pins s U H _ I h) fun v s1 qq0=>?_);obtain ⟨x,H1,I1,r1,q1⟩:=qq0;obtain ⟨c,rfl,q1⟩:=q1;cases r1;exact not_of (AaY ⟨.bl (!c),H1,I1,rfl,q1⟩)
def tIf (t:TT) (ta tb:TE):TE:=fun U H Q=>t U H fun c H1=>if c=true then ta U H1 Q else tb U H1 Q
theorem Jh {c:Expr} (hc:PT X c tA) (ha:PE X a ta) (hb:PE X b tb):PE X (.IfExp c a b pos) (tIf tA ta tb):=by
 intro pins s U H Q I h;refine wpAny_IfExp (eQ (hc pins s U H _ I h) fun d s1 qq0=>?_);obtain ⟨H1,I1,q1⟩:=qq0;cases d with
 | true=>exact ha pins s1 U H1 Q I1 q1
 | false=>exact hb pins s1 U H1 Q I1 q1
end
def SqL (K:W.Frag) (H:Hp) (a:Addr) (xs:List V):Prop:=
 Rd H a (.lst xs)\/
  ∃ (o:Obj) (its:Array Value) (n:Nat),K.lookup a=some o/\o.cls= .type "list"/\o.dict=none/\o.data= .seq its n/\its.size<=sizeLine/\Vals xs its.toList
def SqT (K:W.Frag) (H:Hp) (a:Addr) (xs:List V):Prop:=
 Rd H a (.tup xs)\/
  ∃ (o:Obj) (its:Array Value) (n:Nat),K.lookup a=some o/\o.cls= .type "tuple"/\o.data= .seq its n/\its.size<=sizeLine/\Vals xs its.toList
def absV:Value->Option V
 | .none=>some .non
 | .bool b=>some (.bl b)
 | .int i _=>some (.int i)
 | .str x _=>some (.str x)
 | .bytes b _=>some (.byt b)
 | .float b _=>some (.flt b)
 | .ref a=>some (.ref a)
 | .type n=>some (.ty n)
 | _=>none
theorem RelV.abs {x:V} {u:Value} (r:RelV x u):absV u=some x:=by
 cases x with
 | non=>cases r;rfl
 | bl _=>cases r;rfl
 | int _=>obtain ⟨t,rfl⟩:=r;rfl
 | str _=>obtain ⟨t,rfl⟩:=r;rfl
 | byt _=>obtain ⟨t,rfl⟩:=r;rfl
 | flt _=>obtain ⟨t,rfl⟩:=r;rfl
 | ref _=>cases r;rfl
 | ty _=>cases r;rfl
theorem RelV.inj {x y:V} {u:Value} (r:RelV x u) (q:RelV y u):x=y:=Zm (r.abs.symm.trans q.abs)
theorem Vals.inj:∀ {xs ys:List V} {us:List Value},Vals xs us->Vals ys us->xs=ys
 | _,_,_,.nil,.nil=>rfl
 | _,_,_,.cons r t,.cons r' t'=>by rw [r.inj r',Vals.inj t t']
section
variable {X:Cx} {pins:List (Addr×Obj)} {U:St} {H:Hp} {s:Shared} {a:Addr} {xs ys:List V}
theorem SqL.of {K:W.Frag} (h:H a=some (.lst xs)):SqL K H a xs:=.inl (.inl h)
theorem SqT.of {K:W.Frag} (h:H a=some (.tup xs)):SqT K H a xs:=.inl (.inl h)
theorem Inv.list (I:Inv X pins U H s) (h:SqL X.K H a xs):∃ its:List Value,Vals xs its/\PlainL s.heap a its.toArray/\xs.length<=sizeLine:=by
 rcases h with h | ⟨o,its,n,hk,hc,hd,hs,hz,r⟩
 ·obtain ⟨z,its,n,r,e⟩:=h.ok I.hok
  exact ⟨its,r,⟨_,n,e,rfl,rfl,rfl⟩,z⟩
 ·refine ⟨its.toList,r,⟨o,n,I.kIn a o hk,hc,hd,by simpa using hs⟩,?_⟩
  have e:=r.length;simp only [ZG] at e;omega
theorem Inv.tuple (I:Inv X pins U H s) (h:SqT X.K H a xs):∃ its:List Value,Vals xs its/\IsTup s.heap a its.toArray/\xs.length<=sizeLine:=by
 rcases h with h | ⟨o,its,n,hk,hc,hs,hz,r⟩
 ·obtain ⟨z,its,r,p⟩:=h.ok I.hok
  exact ⟨its,r,p,z⟩
 ·refine ⟨its.toList,r,⟨o,I.kIn a o hk,hc,n,by simpa using hs⟩,?_⟩
  have e:=r.length;simp only [ZG] at e;omega
theorem Inv.list_inj (I:Inv X pins U H s) (h:SqL X.K H a xs) (h':SqL X.K H a ys):xs=ys:=by
 obtain ⟨its,r,⟨o,n,e,_,_,d⟩,_⟩:=I.list h;obtain ⟨its',r',⟨o',n',e',_,_,d'⟩,_⟩:=I.list h';rw [e] at e';cases e';rw [d] at d';injection d' with d1 _;have:its=its':=by simpa using congrArg Array.toList d1
 subst this;exact r.inj r'
theorem Inv.tuple_inj (I:Inv X pins U H s) (h:SqT X.K H a xs) (h':SqT X.K H a ys):xs=ys:=by
 obtain ⟨its,r,⟨o,e,_,n,d⟩,_⟩:=I.tuple h;obtain ⟨its',r',⟨o',e',_,n',d'⟩,_⟩:=I.tuple h';rw [e] at e';cases e';rw [d] at d';injection d' with d1 _;have:its=its':=by simpa using congrArg Array.toList d1
 subst this;exact r.inj r'
end
abbrev Cx.wish (X:Cx) (E:Value->Shared->Prop):Cx:={X with xe:=E}
abbrev Cx.nox (X:Cx):Cx:=X.wish fun _ _=>False
theorem Cx.Ok.wish {X:Cx} (ok:X.Ok) (E:Value->Shared->Prop):(X.wish E).Ok:=
 ⟨ok.mod,ok.kind,ok.glob,ok.blt,ok.above,ok.inj,ok.has,ok.cab,ok.hd,ok.frames,ok.stk,ok.exf,ok.bs,ok.bsz,ok.noex,ok.exfs,ok.funs,ok.frf⟩
theorem Cx.Ok.unwish {X:Cx} {E:Value->Shared->Prop} (ok:(X.wish E).Ok):X.Ok:=
 ⟨ok.mod,ok.kind,ok.glob,ok.blt,ok.above,ok.inj,ok.has,ok.cab,ok.hd,ok.frames,ok.stk,ok.exf,ok.bs,ok.bsz,ok.noex,ok.exfs,ok.funs,ok.frf⟩
section
variable {X:Cx} {pins:List (Addr×Obj)} {U:St} {H:Hp} {s:Shared} {E:Value->Shared->Prop}
theorem Inv.wish (I:Inv X pins U H s) (E:Value->Shared->Prop):Inv (X.wish E) pins U H s:=⟨I.ok.wish E,I.os,I.bare,I.base,I.loc,I.cell,I.free,I.freeC,I.pin,I.hok,I.len⟩
theorem Inv.unwish (I:Inv (X.wish E) pins U H s):Inv X pins U H s:=⟨I.ok.unwish,I.os,I.bare,I.base,I.loc,I.cell,I.free,I.freeC,I.pin,I.hok,I.len⟩
theorem SP.unwish {D:Ends} {f:Flow} {s':Shared} (h:SP (X.wish E) pins D f s'):SP X pins D f s':=by
 cases f with
 | next=>obtain ⟨U',H',I,q⟩:=h;exact ⟨U',H',I.unwish,q⟩
 | brk=>obtain ⟨U',H',I,q⟩:=h;exact ⟨U',H',I.unwish,q⟩
 | cont=>obtain ⟨U',H',I,q⟩:=h;exact ⟨U',H',I.unwish,q⟩
 | ret u=>obtain ⟨v,U',H',I,r,q⟩:=h;exact ⟨v,U',H',I.unwish,r,q⟩
theorem PSs.nox {st:List Stmt} {t:TS} (h:PSs X.nox st t):PSs X st t:=fun pins s U H D I hw=>
 Aal (h pins s U H D (I.wish _) hw) (fun _ _ q=>q.unwish) fun _ _ z=>False.elim z
end
section
variable {X:Cx} {st:Stmt} {rest:List Stmt} {t u:TS} {e:Expr} {te:TE} {pos:Pos}
def Ji:TS:=fun D U H=>D.nx U H
def Om (t u:TS):TS:=fun D U H=>t {D with nx:=u D} U H
theorem Oo:PSs X [] Ji:=fun _ _ U H _ I h=>wpAny_execs_nil ⟨U,H,I,h⟩
theorem Jj (h1:PS X st t) (h2:PSs X rest u):PSs X (st :: rest) (Om t u):=by
 intro pins s U H D I h;refine wpAny_execs_cons (eQ (h1 pins s U H {D with nx:=u D} I h) fun f s1 q=>?_);cases f with
 | next=>
  obtain ⟨U',H',I',q⟩:=q;exact h2 pins s1 U' H' D I' q
 | ret v=>exact q
 | brk=>exact q
 | cont=>exact q
theorem Oq (h1:PS X st t):PSs X [st] t:=by
 intro pins s U H D I h;refine wpAny_execs_cons (eQ (h1 pins s U H D I h) fun f s1 q=>?_);cases f with
 | next=>exact wpAny_execs_nil q
 | ret v=>exact q
 | brk=>exact q
 | cont=>exact q
theorem Inv.quiet {pins:List (Addr×Obj)} {U:St} {H:Hp} {s:Shared} (I:Inv X pins U H s):interactive X.env=false:=by simp [interactive,I.ok.kind]
def Eb (te:TE):TS:=fun D U H=>te U H fun _ H1=>D.nx U H1
theorem Ot (he:PE X e te) (hs:autoParam (swapsWith e none pos.line X.env=pure false) L2.auto4._auto_1):PS X (.Expr e pos) (Eb te):=by
 intro pins s U H D I h;exact wpAny_Expr_any (eQ (he pins s U H _ I h) fun v s1 ⟨x,H1,I1,r1,q1⟩=>⟨U,H1,I1,q1⟩) I.quiet hs
def Tt (te:TE):TS:=fun D U H=>te U H D.rt
theorem Tu (he:PE X e te):PS X (.Return (some e) pos) (Tt te):=by
 intro pins s U H D I h;exact wpAny_Return_some (eQ (he pins s U H _ I h) fun v s1 ⟨x,H1,I1,r1,q1⟩=>⟨x,U,H1,I1,r1,q1⟩)
def Tv (c:TT) (t u:TS):TS:=fun D U H=>c U H fun b H1=>if b=true then t D U H1 else u D U H1
theorem Wx {c:Expr} {a b:List Stmt} {tc:TT} (hc:PT X c tc) (ha:PSs X a t) (hb:PSs X b u):PS X (.If c a b pos) (Tv tc t u):=by
 intro pins s U H D I h;refine wpAny_If (eQ (hc pins s U H _ I h) fun d s1 qq0=>?_);obtain ⟨H1,I1,q1⟩:=qq0;cases d with
 | true=>exact ha pins s1 U H1 D I1 q1
 | false=>exact hb pins s1 U H1 D I1 q1
def Jk:TS:=fun _ _ _=>False
theorem Jl:PS X st Jk:=fun _ _ _ _ _ _ h=>h.elim
end
abbrev TG:=V->St->Hp->(St->Hp->Prop)->Prop
abbrev BW:=List V->St->Hp->(St->Hp->Prop)->Prop
def PG (X:Cx) (target:Expr) (t:TG):Prop:=
 ∀ (pins:List (Addr×Obj)) (s:Shared) (U:St) (H:Hp) (v:V) (u:Value) (Q:St->Hp->Prop),Inv X pins U H s->RelV v u->t v U H Q->
  wpAny (model X.prog X.w) X.A (assign target X.env u) (fun _ s'=>∃ U' H',Inv X pins U' H' s'/\Q U' H') X.xe s
def Wh (X:Cx) (ts:List Expr) (t:BW):Prop:=
 ∀ (pins:List (Addr×Obj)) (s:Shared) (U:St) (H:Hp) (vs:List V) (us:List Value) (Q:St->Hp->Prop),Inv X pins U H s->Vals vs us->t vs U H Q->
  wpAny (model X.prog X.w) X.A (assignInOrder ((assignEach ts X.env).map (·.2)) us) (fun _ s'=>∃ U' H',Inv X pins U' H' s'/\Q U' H') X.xe s
abbrev Ca:=V->V->V->Hp->(Hp->Prop)->Prop
def Ou (X:Cx) (t:Ca):Prop:=
 ∀ (pins:List (Addr×Obj)) (s:Shared) (U:St) (H:Hp) (o i v:V) (ov iv u:Value) (Q:Hp->Prop),Inv X pins U H s->RelV o ov->RelV i iv->RelV v u->t o i v H Q->
  wpAny (model X.prog X.w) X.A (setItem ov iv u) (fun _ s'=>∃ H',Inv X pins U H' s'/\Q H') X.xe s
abbrev TIp:=V->V->Hp->VK->Prop
def PIp (X:Cx) (op:Operator) (t:TIp):Prop:=
 ∀ (pins:List (Addr×Obj)) (s:Shared) (U:St) (H:Hp) (x y:V) (v u:Value) (Q:VK),Inv X pins U H s->RelV x v->RelV y u->t x y H Q->
  wpAny (model X.prog X.w) X.A (inplaceOp op v u) (EP X pins U Q) X.xe s
section
variable {X:Cx} {pos:Pos}
def qt (i:Nat):TG:=fun v U H Q=>Q (U.set i (some v)) H
theorem Ec {i:Nat} {x:Str} (hN:X.N.Nodup) (hi:X.N[i]?=some x) (hx:Loc X.env.scope x) (hf:autoParam (X.fn x=true\/X.env.scope.names.lookup x=some .local) L2.auto1._auto_1):PG X (.Name x pos) (qt i):=by
 intro pins s U H v u Q I r h;exact wpAny_assign_Name (oK I hN hi hx r (fun s' I'=>⟨_,H,I',h⟩) hf)
def Tw:BW:=fun vs U H Q=>vs=[]/\Q U H
def Jm (t:TG) (u:BW):BW:=fun vs U H Q=>∃ v r,vs=v :: r/\t v U H fun U' H'=>u r U' H' Q
theorem Ov:Wh X [] Tw:=by
 intro pins s U H vs us Q I r h;obtain ⟨e,h⟩:=h;subst e;cases r;exact assignInOrder_nil ⟨U,H,I,h⟩
theorem Jo {e:Expr} {es:List Expr} {t:TG} {u:BW} (h1:PG X e t) (h2:Wh X es u)
  (hs:autoParam ((assignEach (e :: es) X.env).map (·.2)=assign e X.env :: (assignEach es X.env).map (·.2)) L2.auto4._auto_1):Wh X (e :: es) (Jm t u):=by
 intro pins s U H vs us Q I r h;obtain ⟨v,vr,e1,h⟩:=h;subst e1;cases r with
 | cons r rr=>
  rw [hs];refine assignInOrder_cons (eQ (h1 pins s U H _ _ _ I r h) fun _ s1 qq0=>?_);obtain ⟨σ1,H1,I1,q1⟩:=qq0;exact h2 pins s1 σ1 H1 _ _ Q I1 rr q1
def Ow (K:W.Frag) (n:Nat) (t:BW):TG:=fun v U H Q=>∃ a xs,v= .ref a/\SqT K H a xs/\xs.length=n/\t xs U H Q
theorem Jp {es:List Expr} {k:Nat} {t:BW} {n:Nat} (hc:X.calm=true) (h:Wh X es t)
  (hn:autoParam ((assignEach es X.env).length=n) L2.auto4._auto_1) (hst:autoParam ((assignEach es X.env).findIdx? (·.1)=none) L2.auto4._auto_1):PG X (.Tuple es k pos) (Ow X.K n t):=by
 intro pins s U H v u Q I r hw;obtain ⟨a,xs,e1,hq,hl,hw⟩:=hw;subst e1;cases r;obtain ⟨its,rv,ht,hz⟩:=I.tuple hq;refine assign_Tuple_tuple (I.ok.hd hc) ht (by simp [hn,← hl,rv.length]) hst fun h' hx=>?_
 have I1:Inv X pins U H {s with heap:=h'}:=I.kept (t':=s.toks) fun b o e=>hx b o (ZR (Za e)) e
 exact h pins _ U H xs _ Q I1 (by simpa using rv) hw
def Tz (to ti:TE) (t:Ca):TG:=fun v U H Q=>to U H fun o H1=>ti U H1 fun i H2=>t o i v H2 fun H3=>Q U H3
theorem TF {o i:Expr} {to ti:TE} {t:Ca} (ho:PE X o to) (hi:PE X i ti) (hs:Ou X t)
  (ha:∀ v,assign (.Subscript o i pos) X.env v=(do
   let ov ← holding [v] (eval o X.env)
   let iv ← holding [v,ov] (eval i X.env)
   standAt pos
   holding [v,ov,iv] (setItem ov iv v)
   release [v,ov,iv] []):=by intro _;rfl):PG X (.Subscript o i pos) (Tz to ti t):=by
 intro pins s U H v u Q I r h;rw [ha];refine YW (Z2 (eQ (ho pins s U H _ I h) fun ov s1 qq0=>?_));obtain ⟨x,H1,I1,r1,q1⟩:=qq0;refine YW (Z2 (eQ (hi pins s1 U H1 _ I1 q1) fun iv s2 qq0=>?_));obtain ⟨y,H2,I2,r2,q2⟩:=qq0;refine YW (AbP (YW (Z2 (eQ (hs pins s2 U H2 x y v ov iv u _ I2 r1 r2 r q2) fun _ s3 qq0=>?_))));obtain ⟨H3,I3,q3⟩:=qq0;exact wpAny_release ⟨U,H3,I3,q3⟩
def yL (te:TE) (g:TG):TS:=fun D U H=>te U H fun x H1=>g x U H1 D.nx
theorem Jq {tg e:Expr} {te:TE} {g:TG} (he:PE X e te) (hg:PG X tg g) (hs:autoParam (swapsWithSole [tg] e pos.line X.env=pure false) L2.auto4._auto_1) (hw:autoParam (swappedStores [tg] e X.env=pure none) L2.auto4._auto_1)
  (h1:autoParam ((assignEach [tg] X.env).map (·.2)=[assign tg X.env]) L2.auto4._auto_1):PS X (.Assign [tg] e pos) (yL te g):=by
 intro pins s U H D I h;refine wpAny_Assign_stores (eQ (he pins s U H _ I h) fun v s1 qq0=>?_) hs hw;obtain ⟨x,H1,I1,r1,q1⟩:=qq0;rw [h1];exact eQ (hg pins s1 U H1 x v _ I1 r1 q1) fun _ s2 q=>q
theorem Jr {i:Nat} {x:Str} {e:Expr} {te:TE} {pos':Pos} (hN:X.N.Nodup) (hi:X.N[i]?=some x) (hx:Loc X.env.scope x) (he:PE X e te) (hs:autoParam (swapsWith e (some (.Name x pos')) pos.line X.env=pure false) L2.auto4._auto_1) (hf:autoParam (X.fn x=true\/X.env.scope.names.lookup x=some .local) L2.auto1._auto_1):
  PS X (.Assign [.Name x pos'] e pos) (yL te (qt i)):=by
 intro pins s U H D I h;refine wpAny_Assign_Name (eQ (he pins s U H _ I h) fun v s1 qq0=>?_) hs;obtain ⟨y,H1,I1,r1,q1⟩:=qq0;exact oK I1 hN hi hx r1 (fun s2 I2=>⟨_,H1,I2,q1⟩) hf
def TJ (i:Nat) (te:TE) (ti:TIp):TS:=fun D U H=>∃ x,U[i]?=some (some x)/\te U H fun y H1=>ti x y H1 fun z H2=>D.nx (U.set i (some z)) H2
theorem TQ {i:Nat} {x:Str} {e:Expr} {te:TE} {op:Operator} {ti:TIp} {pos':Pos} (hN:X.N.Nodup) (hi:X.N[i]?=some x) (hx:Loc X.env.scope x) (he:PE X e te) (ho:PIp X op ti) (hf:autoParam (X.fn x=true\/X.env.scope.names.lookup x=some .local) L2.auto1._auto_1):
  PS X (.AugAssign (.Name x pos') op e pos) (TJ i te ti):=by
 intro pins s U H D I h;obtain ⟨v,e1,h⟩:=h;obtain ⟨m,hn,hl⟩:=I.loc;have vis:Wu X.env.scope x:=by rcases hx with k | k;exact .inl k;exact .inr (.inl k)
 obtain ⟨u,r,l⟩:=hl i x v hi e1 vis;refine wpAny_AugAssign_Name ?_
 have go:wpAny (model X.prog X.w) X.A (eval e X.env) (fun w s₂=>wpAny (model X.prog X.w) X.A (inplaceOp op u w) (fun r s₃=>wpAny (model X.prog X.w) X.A (storeName X.env x r) (fun _=>SP X pins D .next) X.xe s₃) X.xe s₂) X.xe s:=by
  refine eQ (he pins s U H _ I h) fun w s1 qq0=>?_
  obtain ⟨y,H1,I1,r1,q1⟩:=qq0;refine eQ (ho pins s1 U H1 v y u w _ I1 r r1 q1) fun z s2 qq0=>?_
  obtain ⟨zv,H2,I2,r2,q2⟩:=qq0;exact oK I2 hN hi hx r2 (fun s3 I3=>⟨_,H2,I3,q2⟩) hf
 rcases l with ⟨hk,hm⟩ | ⟨hk,c,hc,hcell⟩
 ·exact wpAny_loadName_local I.ok.kind hk hn hm go
 ·rcases hk with hk | hk
  ·exact wpAny_loadName_cell I.ok.kind hk hc hcell go
  ·rcases hx with k | k
   ·have:X.env.scope.names.lookup x=some .free:=hk
    rw [k] at this;cases this
   ·have:X.env.scope.names.lookup x=some .free:=hk
    rw [k] at this;cases this
def Cd (c:TT) (tb:TS):TS:=fun D U H=>∃ W:Nat->St->Hp->Prop,(∃ m,W m U H)/\∀ m U H,W m U H->
 c U H fun b H1=>if b=true then ∃ N:St->Hp->Prop,(∀ U' H',N U' H'->∃ m',m' < m/\W m' U' H')/\tb {D with nx:=N,ct:=N,bk:=D.nx} U H1 else D.nx U H1
theorem Js {c:Expr} {body:List Stmt} {tc:TT} {tb:TS} (hp:PassesOwn (model X.prog X.w) X.A X.env X.xe) (hc:PT X c tc) (hb:PSs X body tb):PS X (.While c body [] pos) (Cd tc tb):=by
 intro pins s U H D I h;obtain ⟨W,⟨m0,w0⟩,turn⟩:=h;refine wpAny_While (codeAny_whileLoop (fun n s'=>∃ U' H',Inv X pins U' H' s'/\W n U' H') ?_ m0 ⟨U,H,I,w0⟩);rintro n s1 ⟨σ1,H1,I1,w1⟩;refine Abb hp (eQ (hc pins s1 σ1 H1 _ I1 (turn n σ1 H1 w1)) fun b s2 qq0=>?_);obtain ⟨H2,I2,q2⟩:=qq0;cases b with
 | true=>
  obtain ⟨N,hN,q2⟩:=q2;rw [if_pos rfl];refine Abb hp (eQ (hb pins s2 σ1 H2 _ I2 q2) fun f s3 q3=>?_);cases f with
  | next=>
   obtain ⟨σ3,H3,I3,n3⟩:=q3;obtain ⟨m',hm,w3⟩:=hN σ3 H3 n3;exact ⟨m',hm,σ3,H3,I3,w3⟩
  | cont=>
   obtain ⟨σ3,H3,I3,n3⟩:=q3;obtain ⟨m',hm,w3⟩:=hN σ3 H3 n3;exact ⟨m',hm,σ3,H3,I3,w3⟩
  | brk=>exact q3
  | ret v=>exact q3
 | false=>
  rw [if_neg Ze];exact wpAny_execs_nil ⟨σ1,H2,I2,q2⟩
end
structure It where
 go:Nat->Hp->Prop
 yld:Nat->Hp->V->Hp->Prop
 stop:Nat->Hp->Prop
def oM (X:Cx) (pins:List (Addr×Obj)) (H:Hp) (b:Addr):Prop:=
 H b=none/\b≠X.env.locals/\b ∉ X.fs/\(b∈X.ex\/X.s₀.heap.objs.size<=b)/\(∀ x c,X.env.cells.lookup x=some c->c≠b)/\∀ p∈X.pn ++ pins,p.1≠b
theorem Inv.fpOk {X:Cx} {pins:List (Addr×Obj)} {U:St} {H H':Hp} {s:Shared} {b:Addr} (I:Inv X pins U H s) (hb:s.heap.objs.size<=b) (hn:H' b=none):oM X pins H' b:=by
 refine ⟨hn,AaJ (Zr I.lt hb),I.nofs hb,.inr (ZP I.sz hb),fun x c e z=>?_,fun p hp z=>?_⟩
 ·obtain ⟨v,q⟩:=I.cell x c e
  exact absurd (Zr q.lt (by rw [z];exact hb)) (AaA _)
 ·exact absurd (Zr (Za (I.pin p hp).1) (by rw [z];exact hb)) (AaA _)
structure Turn (P:Program) (w:World) (K:W.Frag) (tg:Expr) (J:It) (fp:List Addr) (it:Addr) (tn:Nat->Heap->Prop):Prop where
 mem:it∈fp
 obj:∀ i h,tn i h->∀ b∈fp,∃ o,h.get? b=some o/\∀ v,o.data≠.cell v
 keep:∀ i h h',tn i h->(∀ b∈fp,∀ o,h.get? b=some o->h'.get? b=some o)->tn i h'
 item:∀ (X:Cx),X.prog=P->X.w=w->X.K=K->X.calm=true->∀ (i:Nat) (pins:List (Addr×Obj)) (s:Shared) (U:St) (H:Hp) (E:Value->Shared->Prop),Inv X pins U H s->(∀ b∈fp,oM X pins H b)->tn i s.heap->J.go i H->
  wpAny (model P w) X.A (pyNext (.ref it)) (fun r s1=>∃ u,r=some u/\
   wpAny (model P w) X.A (letOwnedTupleGo tg (.ref it) u) (fun _ s2=>∃ x H',Inv X pins U H' s2/\RelV x u/\J.yld i H x H'/\tn (i+1) s2.heap/\∀ b∈fp,H' b=none) E s1) E s
 done:∀ (X:Cx),X.prog=P->X.w=w->X.K=K->X.calm=true->∀ (i:Nat) (pins:List (Addr×Obj)) (s:Shared) (U:St) (H:Hp) (E:Value->Shared->Prop),Inv X pins U H s->(∀ b∈fp,oM X pins H b)->tn i s.heap->J.stop i H->
  wpAny (model P w) X.A (pyNext (.ref it)) (fun r s1=>r=none/\Inv X pins U H s1) E s
 self:∀ (A:Around) (i:Nat) (s:Shared) (Q:Value->Shared->Prop) (E:Value->Shared->Prop),tn i s.heap->Q (.ref it) s->wpAny (model P w) A (pyIter (.ref it)) Q E s
abbrev TI:=St->Hp->(It->Hp->Prop)->Prop
def PIE (X:Cx) (pins:List (Addr×Obj)) (U:St) (tg:Expr) (R:It->Hp->Prop) (itv:Value) (s2:Shared):Prop:=
 ∃ (it:Addr) (fp:List Addr) (tn:Nat->Heap->Prop) (J:It) (H':Hp),itv= .ref it/\Inv X pins U H' s2/\Turn X.prog X.w X.K tg J fp it tn/\tn 0 s2.heap/\(∀ b∈fp,oM X pins H' b)/\R J H'
def PI (X:Cx) (tg iter:Expr) (wi:TI):Prop:=
 ∀ (pins:List (Addr×Obj)) (s:Shared) (U:St) (H:Hp) (R:It->Hp->Prop),Inv X pins U H s->wi U H R->
  wpAny (model X.prog X.w) X.A (eval iter X.env) (fun v s1=>wpAny (model X.prog X.w) X.A (pyIter v) (PIE X pins U tg R) X.xe s1) X.xe s
theorem vO {M:Model} {A:Around} {E:Value->Shared->Prop} {s:Shared} {tg:Expr} {it:Addr} {u:Value} {o:Obj} {n:String} {vs:Array Value} {Q:Unit->Shared->Prop} (ho:s.heap.get? it=some o) (hc:o.cls= .type n) (hd:o.data= .fields vs)
  (hn:["enumerate","zip","dict_itemiterator","dict_reverseitemiterator","odict_iterator","itertools.zip_longest","itertools.pairwise"].contains n=false) (hQ:Q () s):wpAny M A (letOwnedTupleGo tg (.ref it) u) Q E s:=by
 unfold letOwnedTupleGo
 cases tg <;> first
  | exact Y5 hQ
  | (cases u <;> first
    | exact Y5 hQ
    | (refine YW (wpAny_load ho ?_)
       rw [hc,hd];show wpAny M A (if (["enumerate","zip","dict_itemiterator","dict_reverseitemiterator","odict_iterator","itertools.zip_longest","itertools.pairwise"].contains n && vs[0]? == some (rawInt _))=true then _ else _) Q E s;rw [if_neg (by intro h;rw [hn,Bool.false_and] at h;cases h)];exact Y5 hQ))
def Rz (K:W.Frag) (a:Addr):It:=
 ⟨fun i H=>∃ xs x,SqL K H a xs/\xs[i]?=some x,fun i H x H'=>H'=H/\∀ xs,SqL K H a xs->xs[i]?=some x,fun i H=>∃ xs,SqL K H a xs/\xs.length<=i⟩
def Wi (K:W.Frag) (a:Addr):It:=
 ⟨fun i H=>∃ xs x,SqT K H a xs/\xs[i]?=some x,fun i H x H'=>H'=H/\∀ xs,SqT K H a xs->xs[i]?=some x,fun i H=>∃ xs,SqT K H a xs/\xs.length<=i⟩
def Jb (lo:Int) (n:Nat):It:=⟨fun i _=>i < n,fun i H x H'=>H'=H/\x= .int (lo+i),fun i _=>n<=i⟩
theorem Gj {P:Program} {w:World} {K:W.Frag} {tg:Expr} (a it:Addr):Turn P w K tg (Rz K a) [it] it (fun i h=>h.IsListIter it a i) where
 mem:=by simp
 obj:=fun i h st b hb=>by
  have e:b=it:=by simpa using hb
  subst e;obtain ⟨o,e,c,d⟩:=st;exact ⟨o,e,fun v z=>by rw [d] at z;cases z⟩
 keep:=fun i h h' st k=>st.at fun o e=>k it (by simp) o e
 item:=by
  intro X hP hw hK hc i pins s U H E I hf st hg;subst hP hw hK;obtain ⟨xs,x,hq,hx⟩:=hg;obtain ⟨its,rv,p,hz⟩:=I.list hq;obtain ⟨u,hu,ru⟩:=rv.get hx;obtain ⟨f0,f1,f2,f3,f4,f5⟩:=hf it (by simp);refine wpAny_pyNext_list_item st p.isList (x:=u) (by simpa using hu) fun h' st' sb=>?_
  have I1:Inv X pins U H {s with heap:=h'}:=I.turned (t':=s.toks) (fun b o hb e=>(sb.2 b hb).trans e) f0 f1 f3 f4 f5;obtain ⟨o,e,c,d⟩:=id st';exact ⟨u,rfl,vO (s:={s with heap:=h'}) e c d (by decide) ⟨x,H,I1,ru,⟨rfl,fun ys hy=>by rw [I.list_inj hy hq];exact hx⟩,st',fun b hb=>(hf b hb).1⟩⟩
 done:=by
  intro X hP hw hK hc i pins s U H E I hf st hg;subst hP hw hK;obtain ⟨xs,hq,hx⟩:=hg;obtain ⟨its,rv,p,hz⟩:=I.list hq;obtain ⟨f0,f1,f2,f3,f4,f5⟩:=hf it (by simp);have hl:=rv.length;exact wpAny_pyNext_list_end (I.ok.hd hc) st p.isList (by simp;omega) fun h' eb=>⟨rfl,I.turned (t':=s.toks) (fun b o hb e=>eb b o hb e) f0 f1 f3 f4 f5⟩
 self:=fun _ _ _ _ _ st h=>wpAny_pyIter_listiter st h
theorem Ce {P:Program} {w:World} {K:W.Frag} {tg:Expr} (a it:Addr):Turn P w K tg (Wi K a) [it] it (fun i h=>h.IsTupleIter it a i) where
 mem:=by simp
 obj:=fun i h st b hb=>by
  have e:b=it:=by simpa using hb
  subst e;obtain ⟨o,e,c,d⟩:=st;exact ⟨o,e,fun v z=>by rw [d] at z;cases z⟩
 keep:=fun i h h' st k=>st.at fun o e=>k it (by simp) o e
 item:=by
  intro X hP hw hK hc i pins s U H E I hf st hg;subst hP hw hK;obtain ⟨xs,x,hq,hx⟩:=hg;obtain ⟨its,rv,p,hz⟩:=I.tuple hq;obtain ⟨u,hu,ru⟩:=rv.get hx;obtain ⟨f0,f1,f2,f3,f4,f5⟩:=hf it (by simp);refine wpAny_pyNext_tuple_item st (show s.heap.IsTuple a its.toArray from p) (x:=u) (by simpa using hu) fun h' st' sb=>?_
  have I1:Inv X pins U H {s with heap:=h'}:=I.turned (t':=s.toks) (fun b o hb e=>(sb.2 b hb).trans e) f0 f1 f3 f4 f5;obtain ⟨o,e,c,d⟩:=id st';exact ⟨u,rfl,vO (s:={s with heap:=h'}) e c d (by decide) ⟨x,H,I1,ru,⟨rfl,fun ys hy=>by rw [I.tuple_inj hy hq];exact hx⟩,st',fun b hb=>(hf b hb).1⟩⟩
 done:=by
  intro X hP hw hK hc i pins s U H E I hf st hg;subst hP hw hK;obtain ⟨xs,hq,hx⟩:=hg;obtain ⟨its,rv,p,hz⟩:=I.tuple hq;obtain ⟨f0,f1,f2,f3,f4,f5⟩:=hf it (by simp);have hl:=rv.length;exact wpAny_pyNext_tuple_end (I.ok.hd hc) st (show s.heap.IsTuple a its.toArray from p) (by simp;omega) fun h' eb=>⟨rfl,I.turned (t':=s.toks) (fun b o hb e=>eb b o hb e) f0 f1 f3 f4 f5⟩
 self:=fun _ _ _ _ _ st h=>wpAny_pyIter_tupleiter st h
theorem Cg {P:Program} {w:World} {K:W.Frag} {tg:Expr} (it:Addr) (lo:Int) (n:Nat):Turn P w K tg (Jb lo n) [it] it (fun i h=>IsRangeIter h it (lo+(i:Nat)*1) ((n:Int) - (i:Nat)) 1) where
 mem:=by simp
 obj:=fun i h st b hb=>by
  have e:b=it:=by simpa using hb
  subst e
  exact ⟨_,st,fun v z=>by
   have z':Data.fields _=Data.cell v:=z;cases z'⟩
 keep:=fun i h h' st k=>k it (by simp) _ st
 item:=by
  intro X hP hw hK hc i pins s U H E I hf st hg;subst hP hw hK;obtain ⟨f0,f1,f2,f3,f4,f5⟩:=hf it (by simp);have W:=Walks.range (prog:=X.prog) (w:=X.w) (I.ok.hd hc) it lo 1 n;refine W.item i s _ _ hg st fun v h' tk hv st' kk=>?_
  obtain ⟨t,rfl⟩:=hv;have I1:Inv X pins U H {s with heap:=h',toks:=tk}:=I.turned (fun b o hb e=>kk b o (by simpa using hb) e) f0 f1 f3 f4 f5;refine ⟨_,rfl,vO (s:={s with heap:=h',toks:=tk}) (n:="range_iterator") st' rfl rfl (by decide) ⟨.int (lo+i),H,I1,⟨t,?_⟩,⟨rfl,rfl⟩,st',fun b hb=>(hf b hb).1⟩⟩;rw [Int.mul_one]
 done:=by
  intro X hP hw hK hc i pins s U H E I hf st hg;subst hP hw hK;obtain ⟨f0,f1,f2,f3,f4,f5⟩:=hf it (by simp);exact wpAny_pyNext_range_end (I.ok.hd hc) st (by have:n<=i:=hg;omega) fun h' eb=>⟨rfl,I.turned (t':=s.toks) (fun b o hb e=>eb b o hb e) f0 f1 f3 f4 f5⟩
 self:=fun _ _ _ _ _ st h=>wpAny_pyIter_rangeiter st h
section
variable {X:Cx} {tg:Expr}
theorem zQ {pins:List (Addr×Obj)} {U:St} {H:Hp} {s:Shared} {R:It->Hp->Prop} {E:Value->Shared->Prop} {lo hi:Int} {t u v:Tok} {tk:Nat} (I:Inv X pins U H s) (h1: -(2 ^ 62)<=lo) (h2:lo < 2 ^ 62) (h3: -(2 ^ 62)<=hi) (h4:hi < 2 ^ 62)
  (q:R (Jb lo (hi - lo).toNat) H):wpAny (model X.prog X.w) X.A (pyIter (.ref s.heap.objs.size)) (PIE X pins U tg R) E {s with heap:=s.heap.push {cls:=.type "range",data:=.fields #[.int lo t,.int hi u,.int 1 v]},toks:=tk}:=by
 refine wpAny_pyIter_range (IsRange.new ..) (small_one h1 h2 h3 h4) ?_;have I1:Inv X pins U H {s with heap:=s.heap.push {cls:=.type "range",data:=.fields #[.int lo t,.int hi u,.int 1 v]},toks:=tk}:=I.kept fun b o e=>YZ _ e
 refine ⟨(s.heap.push {cls:=.type "range",data:=.fields #[.int lo t,.int hi u,.int 1 v]}).objs.size,[(s.heap.push {cls:=.type "range",data:=.fields #[.int lo t,.int hi u,.int 1 v]}).objs.size],_,_,H,rfl,
  I1.kept (t':=tk) fun b o e=>YZ _ e,Cg _ lo (hi - lo).toNat,?_,fun b hb=>?_,q⟩
 ·have e1:lo+((0:Nat):Int)*1=lo:=by simp
  have e2:(((hi - lo).toNat:Nat):Int) - ((0:Nat):Int)=Builtin.Range.rangeSize lo hi 1:=by rw [rangeSize_one];split <;> omega
  show IsRangeIter _ _ (lo+((0:Nat):Int)*1) ((((hi - lo).toNat:Nat):Int) - ((0:Nat):Int)) 1;rw [e1,e2];exact Y8 _ rfl
 ·have e:b=(s.heap.push {cls:=.type "range",data:=.fields #[.int lo t,.int hi u,.int 1 v]}).objs.size:=by simpa using hb
  subst e;exact I1.fpOk (Y4 _) (I1.hok.fresh (Y4 _))
def Jt (ta:TA):TI:=fun U H R=>ta U H fun vs H1=>∃ j:Int,vs=[.int j]/\-(2 ^ 62)<=j/\j < 2 ^ 62/\R (Jb 0 j.toNat) H1
def Ju (ta:TA):TI:=fun U H R=>ta U H fun vs H1=>∃ i j:Int,vs=[.int i,.int j]/\(-(2 ^ 62)<=i/\i < 2 ^ 62/\-(2 ^ 62)<=j/\j < 2 ^ 62)/\R (Jb i (j - i).toNat) H1
theorem Gk {a:Expr} {ta:TA} {p pos:Pos} (hg:Gl X "range") (hm:X.mg "range"=none) (ha:PA X [a] ta) (hs:autoParam (starEach [a] X.env=[(false,eval a X.env)]) L2.auto4._auto_1):PI X tg (.Call (.Name "range" p) [a] [] pos) (Jt ta):=by
 intro pins s U H R I h;refine Call_ (iR I hg hm boot_range (ZX (eQ (ha pos pins s U H _ I h) fun us s1 ⟨vs,H1,I1,r1,q1⟩=>?_) hs rfl));obtain ⟨j,e,q1,q2,q⟩:=q1;subst e;cases r1 with
 | cons r rr=>
  cases rr;obtain ⟨t,rfl⟩:=r;exact call_range_1 (zQ I1 (by omega) (by omega) q1 q2 (by simpa using q))
theorem Gm {a b:Expr} {ta:TA} {p pos:Pos} (hg:Gl X "range") (hm:X.mg "range"=none) (ha:PA X [a,b] ta) (hs:autoParam (starEach [a,b] X.env=[(false,eval a X.env),(false,eval b X.env)]) L2.auto4._auto_1) (hs2:autoParam (starEach [b] X.env=[(false,eval b X.env)]) L2.auto4._auto_1):
  PI X tg (.Call (.Name "range" p) [a,b] [] pos) (Ju ta):=by
 intro pins s U H R I h;refine Call_ (iR I hg hm boot_range (ZX (eQ (ha pos pins s U H _ I h) fun us s1 qq0=>?_) (by rw [hs,hs2]) (by rw [hs2];rfl)));obtain ⟨vs,H1,I1,r1,q1⟩:=qq0;obtain ⟨i,j,e,⟨q1,q2,q3,q4⟩,q⟩:=q1;subst e;cases r1 with
 | cons r rr=>
  cases rr with
  | cons r' rr=>
   cases rr;obtain ⟨t,rfl⟩:=r;obtain ⟨t',rfl⟩:=r';exact call_range_2 (zQ I1 q1 q2 q3 q4 q)
def Ox (wi:TI) (g:TG) (tb:TS):TS:=fun D U H=>wi U H fun J H1=>∃ W:Nat->Nat->St->Hp->Prop,(∃ m,W 0 m U H1)/\∀ i m U H,W i m U H->
 (J.stop i H/\D.nx U H)\/(J.go i H/\∃ N:St->Hp->Prop,(∀ U' H',N U' H'->∃ m',m' < m/\W (i+1) m' U' H')/\∀ x H',J.yld i H x H'->g x U H' fun σ2 H2=>tb {D with nx:=N,ct:=N,bk:=D.nx} σ2 H2)
def vP (fp:List Addr) (h:Heap):List (Addr×Obj):=fp.filterMap fun b=>(h.get? b).map fun o=>(b,o)
theorem qF {fp:List Addr} {h:Heap} {b:Addr} {o:Obj} (hb:b∈fp) (e:h.get? b=some o):(b,o)∈vP fp h:=List.mem_filterMap.mpr ⟨b,hb,by rw [e];rfl⟩
theorem Gn {fp:List Addr} {h:Heap} {p:Addr×Obj} (hp:p∈vP fp h):p.1∈fp/\h.get? p.1=some p.2:=by
 obtain ⟨b,hb,e⟩:=List.mem_filterMap.mp hp;cases q:h.get? b with
 | none=>rw [q] at e;cases e
 | some o=>
  rw [q] at e;have e':(b,o)=p:=Zm e;subst e';exact ⟨hb,q⟩
theorem Inv.pinned {pins:List (Addr×Obj)} {U:St} {H:Hp} {s:Shared} {fp:List Addr} (I:Inv X pins U H s) (hf:∀ b∈fp,oM X pins H b) (ho:∀ b∈fp,∃ o,s.heap.get? b=some o/\∀ v,o.data≠.cell v):Inv X (pins ++ vP fp s.heap) U H s:=
 I.pins_of fun p hp=>(Zh.mp hp).elim (fun z=>I.pin p (Zf _ z)) fun z=>by
  obtain ⟨hb,e⟩:=Gn z;obtain ⟨f0,f1,f2,_⟩:=hf p.1 hb;obtain ⟨o,e',d⟩:=ho p.1 hb;rw [e] at e';cases e';exact ⟨e,f0,f1,f2,d⟩
theorem Inv.unpinned {pins pl:List (Addr×Obj)} {U:St} {H:Hp} {s:Shared} (I:Inv X (pins ++ pl) U H s):Inv X pins U H s:=I.pins_of fun p hp=>I.pin p (Zf _ (Zw _ hp))
theorem TV {iter:Expr} {body:List Stmt} {wi:TI} {g:TG} {tb:TS} {pos:Pos} (hp:PassesOwn (model X.prog X.w) X.A X.env X.xe) (hc:X.calm=true) (hi:PI X tg iter wi) (hg:PG X tg g) (hb:PSs X body tb)
  (hs:autoParam (∀ x,foldedSetIterable iter X.env x=pure x) L2.auto3._auto_1):PS X (.For tg iter body [] pos) (Ox wi g tb):=by
 intro pins s U H D I h;refine wpAny_For (eQ (hi pins s U H _ I h) fun v s1 h1=>eQ h1 fun itv s2 h2=>?_) hs;obtain ⟨it,fp,tn,J,H2,e,I2,T,st2,f2,W,⟨m0,w0⟩,turn⟩:=h2;subst e;have stat:∀ {H':Hp},(∀ b∈fp,H' b=none)->∀ b∈fp,oM X pins H' b:=fun hn b hb=>⟨hn b hb,(f2 b hb).2⟩
 refine codeAny_forLoop_any (fun n s'=>∃ i U' H',Inv X pins U' H' s'/\tn i s'.heap/\(∀ b∈fp,H' b=none)/\W i n U' H') ?_ m0 ⟨0,U,H2,I2,st2,fun b hb=>(f2 b hb).1,w0⟩;rintro n s3 ⟨i,σ3,H3,I3,st3,fr3,w3⟩;rcases turn i n σ3 H3 w3 with ⟨stop,qn⟩ | ⟨go,N,hN,step⟩
 ·refine Abb hp (eQ (T.done X rfl rfl rfl hc i pins s3 σ3 H3 X.xe I3 (stat fr3) st3 stop) fun r s4 qq0=>?_)
  obtain ⟨hr,I4⟩:=qq0;subst hr;exact wpAny_execs_nil ⟨σ3,H3,I4,qn⟩
 ·refine Abb hp (eQ (T.item X rfl rfl rfl hc i pins s3 σ3 H3 X.xe I3 (stat fr3) st3 go) fun r s4 qq0=>?_)
  obtain ⟨u,hr,h4⟩:=qq0;subst hr;refine Abb hp (eQ h4 fun _ s5 qq0=>?_);obtain ⟨x,H5,I5,r5,y5,st5,fr5⟩:=qq0;have I5':=I5.pinned (stat fr5) (T.obj _ _ st5);refine Abb hp (eQ (hg _ s5 σ3 H5 x u _ I5' r5 (step x H5 y5)) fun _ s6 qq0=>?_);obtain ⟨σ6,H6,I6,q6⟩:=qq0;refine Abb hp (eQ (hb _ s6 σ6 H6 _ I6 q6) fun f s7 q7=>?_)
  have again:∀ {σ7:St} {H7:Hp},Inv X (pins ++ vP fp s5.heap) σ7 H7 s7->N σ7 H7->∃ m,m < n/\∃ i U' H',Inv X pins U' H' s7/\tn i s7.heap/\(∀ b∈fp,H' b=none)/\W i m U' H':=fun {σ7 H7} I7 n7=>by
   obtain ⟨m',hm,w7⟩:=hN σ7 H7 n7;refine ⟨m',hm,i+1,σ7,H7,I7.unpinned,T.keep _ _ _ st5 fun b hb o e=>(I7.pin (b,o) (Zf _ (Zf _ (qF hb e)))).1,fun b hb=>?_,w7⟩;obtain ⟨o,e,d⟩:=T.obj _ _ st5 b hb;exact (I7.pin (b,o) (Zf _ (Zf _ (qF hb e)))).2.1
  cases f with
  | next=>obtain ⟨σ7,H7,I7,n7⟩:=q7;exact again I7 n7
  | cont=>obtain ⟨σ7,H7,I7,n7⟩:=q7;exact again I7 n7
  | brk=>obtain ⟨σ7,H7,I7,q7⟩:=q7;exact ⟨σ7,H7,I7.unpinned,q7⟩
  | ret v=>obtain ⟨x7,σ7,H7,I7,r7,q7⟩:=q7;exact ⟨x7,σ7,H7,I7.unpinned,r7,q7⟩
end
theorem jN {K:W.Frag} {a:Addr} {xs:List V} {g:TG} {tb:TS} {D:Ends} {U:St} {H:Hp} (Pv:Nat->St->Hp->Prop) (h0:Pv 0 U H) (hl:∀ i U H,i<=xs.length->Pv i U H->SqL K H a xs)
  (hs:∀ i x U H,xs[i]?=some x->Pv i U H->g x U H fun σ2 H2=>tb {D with nx:=Pv (i+1),ct:=Pv (i+1),bk:=D.nx} σ2 H2) (hd:∀ U H,Pv xs.length U H->D.nx U H):
  ∃ W:Nat->Nat->St->Hp->Prop,(∃ m,W 0 m U H)/\∀ i m U H,W i m U H->
   ((Rz K a).stop i H/\D.nx U H)\/((Rz K a).go i H/\∃ N:St->Hp->Prop,(∀ U' H',N U' H'->∃ m',m' < m/\W (i+1) m' U' H')/\∀ x H',(Rz K a).yld i H x H'->g x U H' fun σ2 H2=>tb {D with nx:=N,ct:=N,bk:=D.nx} σ2 H2):=by
 refine ⟨fun i m U H=>m=xs.length - i/\i<=xs.length/\Pv i U H,⟨xs.length,by simp,Z7 _,h0⟩,?_⟩;rintro i m U H ⟨rfl,hi,p⟩;have q:=hl i U H hi p;by_cases hlt:i < xs.length
 ·refine .inr ⟨⟨xs,xs[i],q,by simp [hlt]⟩,Pv (i+1),fun U' H' p'=>⟨xs.length - (i+1),by omega,rfl,hlt,p'⟩,fun x H' y=>?_⟩
  obtain ⟨e,y⟩:=y;subst e;exact hs i x U _ (y xs q) p
 ·have e:i=xs.length:=by omega
  subst e;exact .inl ⟨⟨xs,q,Y4 _⟩,hd U H p⟩
theorem Oz {K:W.Frag} {a:Addr} {xs:List V} {g:TG} {tb:TS} {D:Ends} {U:St} {H:Hp} (Pv:Nat->St->Hp->Prop) (h0:Pv 0 U H) (hl:∀ i U H,i<=xs.length->Pv i U H->SqT K H a xs)
  (hs:∀ i x U H,xs[i]?=some x->Pv i U H->g x U H fun σ2 H2=>tb {D with nx:=Pv (i+1),ct:=Pv (i+1),bk:=D.nx} σ2 H2) (hd:∀ U H,Pv xs.length U H->D.nx U H):
  ∃ W:Nat->Nat->St->Hp->Prop,(∃ m,W 0 m U H)/\∀ i m U H,W i m U H->
   ((Wi K a).stop i H/\D.nx U H)\/((Wi K a).go i H/\∃ N:St->Hp->Prop,(∀ U' H',N U' H'->∃ m',m' < m/\W (i+1) m' U' H')/\∀ x H',(Wi K a).yld i H x H'->g x U H' fun σ2 H2=>tb {D with nx:=N,ct:=N,bk:=D.nx} σ2 H2):=by
 refine ⟨fun i m U H=>m=xs.length - i/\i<=xs.length/\Pv i U H,⟨xs.length,by simp,Z7 _,h0⟩,?_⟩;rintro i m U H ⟨rfl,hi,p⟩;have q:=hl i U H hi p;by_cases hlt:i < xs.length
 ·refine .inr ⟨⟨xs,xs[i],q,by simp [hlt]⟩,Pv (i+1),fun U' H' p'=>⟨xs.length - (i+1),by omega,rfl,hlt,p'⟩,fun x H' y=>?_⟩
  obtain ⟨e,y⟩:=y;subst e;exact hs i x U _ (y xs q) p
 ·have e:i=xs.length:=by omega
  subst e;exact .inl ⟨⟨xs,q,Y4 _⟩,hd U H p⟩
theorem gJ {lo:Int} {n:Nat} {g:TG} {tb:TS} {D:Ends} {U:St} {H:Hp} (Pv:Nat->St->Hp->Prop) (h0:Pv 0 U H)
  (hs:∀ i U H,i < n->Pv i U H->g (.int (lo+i)) U H fun σ2 H2=>tb {D with nx:=Pv (i+1),ct:=Pv (i+1),bk:=D.nx} σ2 H2) (hd:∀ U H,Pv n U H->D.nx U H):
  ∃ W:Nat->Nat->St->Hp->Prop,(∃ m,W 0 m U H)/\∀ i m U H,W i m U H->
   ((Jb lo n).stop i H/\D.nx U H)\/((Jb lo n).go i H/\∃ N:St->Hp->Prop,(∀ U' H',N U' H'->∃ m',m' < m/\W (i+1) m' U' H')/\∀ x H',(Jb lo n).yld i H x H'->g x U H' fun σ2 H2=>tb {D with nx:=N,ct:=N,bk:=D.nx} σ2 H2):=by
 refine ⟨fun i m U H=>m=n - i/\i<=n/\Pv i U H,⟨n,by simp,Z7 _,h0⟩,?_⟩;rintro i m U H ⟨rfl,hi,p⟩;by_cases hlt:i < n
 ·refine .inr ⟨hlt,Pv (i+1),fun U' H' p'=>⟨n - (i+1),by omega,rfl,hlt,p'⟩,fun x H' y=>?_⟩
  obtain ⟨e,y⟩:=y;subst e y;exact hs i U _ hlt p
 ·have e:i=n:=by omega
  subst e;exact .inl ⟨Y4 _,hd U H p⟩
theorem Jv {c:TT} {tb:TS} {D:Ends} {U:St} {H:Hp} (Pv:St->Hp->Prop) (μ:St->Hp->Nat) (h0:Pv U H)
  (hs:∀ U H,Pv U H->c U H fun b H1=>if b=true then tb {D with nx:=fun U' H'=>Pv U' H'/\μ U' H' < μ U H,ct:=fun U' H'=>Pv U' H'/\μ U' H' < μ U H,bk:=D.nx} U H1 else D.nx U H1)
  (mono:∀ U H Q Q',(∀ b H1,Q b H1->Q' b H1)->c U H Q->c U H Q'):Cd c tb D U H:=by
 refine ⟨fun m U H=>m=μ U H/\Pv U H,⟨_,rfl,h0⟩,?_⟩;rintro m U H ⟨rfl,p⟩;refine mono U H _ _ (fun b H1 q=>?_) (hs U H p);cases b with
 | true=>exact ⟨_,fun U' H' ⟨p',l⟩=>⟨_,l,rfl,p'⟩,q⟩
 | false=>exact q
abbrev R2:=V->V->Hp->VK->Prop
def OpR (X:Cx) (f:Value->Value->Sem Value) (r:R2):Prop:=
 ∀ (pins:List (Addr×Obj)) (s:Shared) (U:St) (H:Hp) (x y:V) (v u:Value) (Q:VK),Inv X pins U H s->RelV x v->RelV y u->r x y H Q->
  wpAny (model X.prog X.w) X.A (f v u) (EP X pins U Q) X.xe s
def YC (X:Cx) (f:Value->Sem Value) (r:V->Hp->VK->Prop):Prop:=
 ∀ (pins:List (Addr×Obj)) (s:Shared) (U:St) (H:Hp) (x:V) (v:Value) (Q:VK),Inv X pins U H s->RelV x v->r x H Q->
  wpAny (model X.prog X.w) X.A (f v) (EP X pins U Q) X.xe s
def CallR (X:Cx) (f:Value) (r:List V->Hp->VK->Prop):Prop:=
 ∀ (pins:List (Addr×Obj)) (s:Shared) (U:St) (H:Hp) (xs:List V) (us:List Value) (Q:VK),Inv X pins U H s->Vals xs us->r xs H Q->
  wpAny (model X.prog X.w) X.A (call f us) (EP X pins U Q) X.xe s
def Ob (r:R2) (ta tb:TE):TE:=fun U H Q=>ta U H fun x H1=>tb U H1 fun y H2=>r x y H2 Q
def tUn (r:V->Hp->VK->Prop) (ta:TE):TE:=fun U H Q=>ta U H fun x H1=>r x H1 Q
def rI (C:Int->Int->Prop) (g:Int->Int->V):R2:=fun x y H Q=>∃ i j,x= .int i/\y= .int j/\C i j/\Q (g i j) H
def Oc (g:Int->Int->V):R2:=fun x y H Q=>∃ i j,x= .int i/\y= .int j/\Q (g i j) H
def rU (g:Int->V):V->Hp->VK->Prop:=fun x H Q=>∃ i,x= .int i/\Q (g i) H
section
variable {X:Cx} {a b c:Expr} {ta tb tc:TE} {pos:Pos}
theorem TX (ha:PE X a ta) (hb:PE X b tb) {pins:List (Addr×Obj)} {s:Shared} {U:St} {H:Hp} {R:V->V->Hp->Prop} (I:Inv X pins U H s)
  (h:ta U H fun x H1=>tb U H1 fun y H2=>R x y H2) {Q:Value->Shared->Prop} {f:Value->Value->Sem Value}
  (hf:∀ v u s2 x y H2,Inv X pins U H2 s2->RelV x v->RelV y u->R x y H2->wpAny (model X.prog X.w) X.A (f v u) Q X.xe s2):
  wpAny (model X.prog X.w) X.A (eval a X.env) (fun v s₁=>wpAny (model X.prog X.w) X.A (eval b X.env) (fun u s₂=>wpAny (model X.prog X.w) X.A (f v u) Q X.xe s₂) X.xe s₁) X.xe s:=by
 refine eQ (ha pins s U H _ I h) fun v s1 qq0=>?_
 obtain ⟨x,H1,I1,r1,q1⟩:=qq0;refine eQ (hb pins s1 U H1 _ I1 q1) fun u s2 qq0=>?_
 obtain ⟨y,H2,I2,r2,q2⟩:=qq0;exact hf v u s2 x y H2 I2 r1 r2 q2
theorem Wy {op:Operator} {r:R2} (ho:OpR X (binaryOp op) r) (ha:PE X a ta) (hb:PE X b tb):PE X (.BinOp a op b pos) (Ob r ta tb):=by
 intro pins s U H Q I h;exact wpAny_BinOp (TX ha hb I h fun v u s2 x y H2 I2 rx ry q=>ho pins s2 U H2 x y v u Q I2 rx ry q)
theorem Wz {op:UnaryOp} {r:V->Hp->VK->Prop} (ho:YC X (unaryOp op) r) (ha:PE X a ta):PE X (.UnaryOp op a pos) (tUn r ta):=by
 intro pins s U H Q I h;exact UnaryOp_ (eQ (ha pins s U H _ I h) fun v s1 ⟨x,H1,I1,r1,q1⟩=>ho pins s1 U H1 x v Q I1 r1 q1)
theorem YD {f:Value->Value->Sem Value} {C:Int->Int->Prop} {g:Int->Int->Int}
  (rule:∀ (i j:Int) (t u:Tok) (s:Shared) (Q:Value->Shared->Prop) (E:Value->Shared->Prop),C i j->Q (.int (g i j) s.toks) {s with toks:=s.toks+1}->wpAny (model X.prog X.w) X.A (f (.int i t) (.int j u)) Q E s):
  OpR X f (rI C fun i j=>.int (g i j)):=by
 intro pins s U H x y v u Q I rx ry h;obtain ⟨i,j,rfl,rfl,hc,q⟩:=h;obtain ⟨t,rfl⟩:=rx;obtain ⟨t',rfl⟩:=ry;exact rule i j t t' s _ _ hc ⟨.int (g i j),H,I.tok _,⟨_,rfl⟩,q⟩
theorem TY {f:Value->Value->Sem Value} {g:Int->Int->Int}
  (rule:∀ (i j:Int) (t u:Tok) (s:Shared) (Q:Value->Shared->Prop) (E:Value->Shared->Prop),Q (.int (g i j) s.toks) {s with toks:=s.toks+1}->wpAny (model X.prog X.w) X.A (f (.int i t) (.int j u)) Q E s):
  OpR X f (Oc fun i j=>.int (g i j)):=by
 intro pins s U H x y v u Q I rx ry h;obtain ⟨i,j,rfl,rfl,q⟩:=h;obtain ⟨t,rfl⟩:=rx;obtain ⟨t',rfl⟩:=ry;exact rule i j t t' s _ _ ⟨.int (g i j),H,I.tok _,⟨_,rfl⟩,q⟩
theorem OD {f:Value->Value->Sem Value} {g:Int->Int->Bool}
  (rule:∀ (i j:Int) (t u:Tok) (s:Shared) (Q:Value->Shared->Prop) (E:Value->Shared->Prop),Q (.bool (g i j)) s->wpAny (model X.prog X.w) X.A (f (.int i t) (.int j u)) Q E s):
  OpR X f (Oc fun i j=>.bl (g i j)):=by
 intro pins s U H x y v u Q I rx ry h;obtain ⟨i,j,rfl,rfl,q⟩:=h;obtain ⟨t,rfl⟩:=rx;obtain ⟨t',rfl⟩:=ry;exact rule i j t t' s _ _ ⟨.bl (g i j),H,I,rfl,q⟩
def CDiv (i j:Int):Prop:=0 < j/\j < 1073741824
def CPow (i j:Int):Prop:=0<=j/\j<=1000000/\i.natAbs < 2 ^ 64
def CMul (i j:Int):Prop:=(-(2 ^ 64) < i/\i < 2 ^ 64)\/(-(2 ^ 64) < j/\j < 2 ^ 64)
theorem CMul.ok {i j:Int} (h:CMul i j):IntMulOk i j:=by
 rcases h with ⟨h1,h2⟩ | ⟨h1,h2⟩
 ·exact .of_left (intBits_le_64 h1 h2)
 ·exact .of_right (intBits_le_64 h1 h2)
theorem T3:OpR X (binaryOp .Add) (Oc fun i j=>.int (i+j)):=TY fun _ _ _ _ _ _ _ q=>add_int q
theorem cM:OpR X (binaryOp .Sub) (Oc fun i j=>.int (i - j)):=TY fun _ _ _ _ _ _ _ q=>sub_int q
theorem T4:OpR X (binaryOp .Mult) (rI CMul fun i j=>.int (i*j)):=YD fun _ _ _ _ _ _ _ hc q=>mul_int q hc.ok
theorem j7:OpR X (binaryOp .FloorDiv) (rI CDiv fun i j=>.int (i / j)):=YD fun i j _ _ _ _ _ hc q=>by
 have h1:(0:Int) < j:=hc.1;have h2:j < 1073741824:=hc.2;exact floordiv_int (by omega) (by rw [Int.fdiv_eq_ediv_of_nonneg i (by omega)];exact q) (.inl (PyProof.noPylong_small (by omega)))
theorem cN:OpR X (binaryOp .Mod) (rI (fun _ j=>0 < j) fun i j=>.int (i % j)):=YD fun i j _ _ _ _ _ hc q=>by
 have h1:(0:Int) < j:=hc;exact mod_int' (by omega) (by rw [Int.fmod_eq_emod_of_nonneg i (by omega)];exact q)
theorem Jw:OpR X (binaryOp .Pow) (rI CPow fun i j=>.int (i ^ j.toNat)):=YD fun _ _ _ _ _ _ _ hc q=>pow_int_small hc.1 hc.2.1 hc.2.2 q
theorem OJ:OpR X (inplaceOp .Sub) (Oc fun i j=>.int (i - j)):=TY fun _ _ _ _ _ _ _ q=>isub_int q
theorem unI {f:Value->Sem Value} {g:Int->Int}
  (rule:∀ (i:Int) (t:Tok) (s:Shared) (Q:Value->Shared->Prop) (E:Value->Shared->Prop),Q (.int (g i) s.toks) {s with toks:=s.toks+1}->wpAny (model X.prog X.w) X.A (f (.int i t)) Q E s):
  YC X f (rU fun i=>.int (g i)):=by
 intro pins s U H x v Q I rx h;obtain ⟨i,rfl,q⟩:=h;obtain ⟨t,rfl⟩:=rx;exact rule i t s _ _ ⟨.int (g i),H,I.tok _,⟨_,rfl⟩,q⟩
theorem oN:YC X (unaryOp .USub) (rU fun i=>.int (-i)):=unI fun _ _ _ _ _ q=>neg_int q
end
def WD:V->V->Bool
 | .non,.non=>true | .non,.int _=>true | .int _,.non=>true | .non,.bl _=>true | .bl _,.non=>true | .non,.str _=>true | .str _,.non=>true
 | .int _,.int _=>true | .bl _,.bl _=>true | .str _,.str _=>true | .byt _,.byt _=>true
 | .int _,.str _=>true | .str _,.int _=>true | .bl _,.str _=>true | .str _,.bl _=>true
 | _,_=>false
def rEq:R2:=fun x y H Q=>WD x y=true/\Q (.bl (decide (x=y))) H
def rNe:R2:=fun x y H Q=>WD x y=true/\Q (.bl (!decide (x=y))) H
theorem Ed {i j:Int}:decide (V.int i=V.int j)=(i == j):=by
 rw [Bool.eq_iff_iff];simp
theorem Jx {i j:Bool}:decide (V.bl i=V.bl j)=(i == j):=by
 rw [Bool.eq_iff_iff];simp
theorem Ef {i j:Str}:decide (V.str i=V.str j)=(i == j):=by
 rw [Bool.eq_iff_iff];simp
theorem Eg {i j:Array UInt8}:decide (V.byt i=V.byt j)=(i.toList == j.toList):=by
 rw [Bool.eq_iff_iff];cases i;cases j;simp
section
variable {X:Cx} {a b c:Expr} {ta tb tc:TE} {pos:Pos}
theorem bC {pins:List (Addr×Obj)} {U:St} {H:Hp} {s:Shared} {Q:VK} {k k':Bool} (I:Inv X pins U H s) (q:Q (.bl k) H) (e:k=k'):EP X pins U Q (.bool k') s:=by
 subst e;exact ⟨.bl k,H,I,rfl,q⟩
theorem WF:OpR X (compareOp .Eq) rEq:=by
 intro pins s U H x y v u Q I rx ry h;obtain ⟨hs,q⟩:=h;cases x with
 | non=>
  cases rx;cases y with
  | non=>cases ry;exact PySem.EqNone.eq_none_none (bC I q (by simp))
  | bl j=>cases ry;exact PySem.EqNone.eq_none_bool (bC I q (by simp))
  | int j=>obtain ⟨t',rfl⟩:=ry;exact PySem.EqNone.eq_none_int (bC I q (by simp))
  | str j=>obtain ⟨t',rfl⟩:=ry;exact PySem.EqNone.eq_none_str (bC I q (by simp))
  | _=>exact absurd (show false=true from hs) Ze
 | bl i=>
  cases rx;cases y with
  | non=>cases ry;exact PySem.EqNone.eq_bool_none (bC I q (by simp))
  | bl j=>cases ry;exact eq_bool (bC I q Jx)
  | str j=>obtain ⟨t',rfl⟩:=ry;exact PySem.EqMixed.eq_bool_str (bC I q (by simp))
  | _=>exact absurd (show false=true from hs) Ze
 | int i=>
  obtain ⟨t,rfl⟩:=rx;cases y with
  | non=>cases ry;exact PySem.EqNone.eq_int_none (bC I q (by simp))
  | int j=>obtain ⟨t',rfl⟩:=ry;exact eq_int (bC I q Ed)
  | str j=>obtain ⟨t',rfl⟩:=ry;exact PySem.EqMixed.eq_int_str (bC I q (by simp))
  | _=>exact absurd (show false=true from hs) Ze
 | str i=>
  obtain ⟨t,rfl⟩:=rx;cases y with
  | non=>cases ry;exact PySem.EqNone.eq_str_none (bC I q (by simp))
  | bl j=>cases ry;exact PySem.EqMixed.eq_str_bool (bC I q (by simp))
  | int j=>obtain ⟨t',rfl⟩:=ry;exact PySem.EqMixed.eq_str_int (bC I q (by simp))
  | str j=>obtain ⟨t',rfl⟩:=ry;exact eq_str (bC I q Ef)
  | _=>exact absurd (show false=true from hs) Ze
 | byt i=>
  obtain ⟨t,rfl⟩:=rx;cases y with
  | byt j=>obtain ⟨t',rfl⟩:=ry;exact PySem.W.eq_bytes (bC I q Eg)
  | _=>exact absurd (show false=true from hs) Ze
 | _=>cases y <;> exact absurd (show false=true from hs) Ze
theorem WK:OpR X (compareOp .NotEq) rNe:=by
 intro pins s U H x y v u Q I rx ry h;obtain ⟨hs,q⟩:=h;cases x with
 | non=>
  cases rx;cases y with
  | non=>cases ry;exact PySem.EqNone.ne_none_none (bC I q (by simp))
  | bl j=>cases ry;exact PySem.EqNone.ne_none_bool (bC I q (by simp))
  | int j=>obtain ⟨t',rfl⟩:=ry;exact PySem.EqNone.ne_none_int (bC I q (by simp))
  | str j=>obtain ⟨t',rfl⟩:=ry;exact PySem.EqNone.ne_none_str (bC I q (by simp))
  | _=>exact absurd (show false=true from hs) Ze
 | bl i=>
  cases rx;cases y with
  | non=>cases ry;exact PySem.EqNone.ne_bool_none (bC I q (by simp))
  | bl j=>cases ry;exact ne_bool (bC I q (congrArg not Jx))
  | str j=>obtain ⟨t',rfl⟩:=ry;exact PySem.EqMixed.ne_bool_str (bC I q (by simp))
  | _=>exact absurd (show false=true from hs) Ze
 | int i=>
  obtain ⟨t,rfl⟩:=rx;cases y with
  | non=>cases ry;exact PySem.EqNone.ne_int_none (bC I q (by simp))
  | int j=>obtain ⟨t',rfl⟩:=ry;exact ne_int (bC I q (congrArg not Ed))
  | str j=>obtain ⟨t',rfl⟩:=ry;exact PySem.EqMixed.ne_int_str (bC I q (by simp))
  | _=>exact absurd (show false=true from hs) Ze
 | str i=>
  obtain ⟨t,rfl⟩:=rx;cases y with
  | non=>cases ry;exact PySem.EqNone.ne_str_none (bC I q (by simp))
  | bl j=>cases ry;exact PySem.EqMixed.ne_str_bool (bC I q (by simp))
  | int j=>obtain ⟨t',rfl⟩:=ry;exact PySem.EqMixed.ne_str_int (bC I q (by simp))
  | str j=>obtain ⟨t',rfl⟩:=ry;exact ne_str (bC I q (congrArg not Ef))
  | _=>exact absurd (show false=true from hs) Ze
 | byt i=>
  obtain ⟨t,rfl⟩:=rx;cases y with
  | byt j=>obtain ⟨t',rfl⟩:=ry;exact PySem.W.ne_bytes (bC I q (congrArg not Eg))
  | _=>exact absurd (show false=true from hs) Ze
 | _=>cases y <;> exact absurd (show false=true from hs) Ze
theorem zR:OpR X (compareOp .Lt) (Oc fun i j=>.bl (decide (i < j))):=OD fun _ _ _ _ _ _ _ q=>lt_int q
theorem zU:OpR X (compareOp .LtE) (Oc fun i j=>.bl (decide (i<=j))):=OD fun _ _ _ _ _ _ _ q=>le_int q
theorem uJ:OpR X (compareOp .Gt) (Oc fun i j=>.bl (decide (j < i))):=OD fun _ _ _ _ _ _ _ q=>gt_int q
theorem RC:OpR X (compareOp .GtE) (Oc fun i j=>.bl (decide (j<=i))):=OD fun _ _ _ _ _ _ _ q=>ge_int q
theorem Gp:OpR X (compareOp .In) (fun x y H Q=>∃ i j,x= .str i/\y= .str j/\Q (.bl (!(Builtin.Str.occurrences j i 0 j.length 1).isEmpty)) H):=by
 intro pins s U H x y v u Q I rx ry h;obtain ⟨i,j,rfl,rfl,q⟩:=h;obtain ⟨t,rfl⟩:=rx;obtain ⟨t',rfl⟩:=ry;exact in_str (bC I q rfl)
theorem T5:OpR X (compareOp .Is) (fun x y H Q=>y= .non/\Q (.bl (decide (x= .non))) H):=by
 intro pins s U H x y v u Q I rx ry h;obtain ⟨rfl,q⟩:=h;cases ry;refine is_none_gen (bC I q ?_)
 cases x <;> first
  | (cases rx;rfl)
  | (obtain ⟨t,rfl⟩:=rx;rfl)
theorem OpR.or {f:Value->Value->Sem Value} {r r':R2} (h:OpR X f r) (h':OpR X f r'):OpR X f (fun x y H Q=>r x y H Q\/r' x y H Q):=by
 intro pins s U H x y v u Q I rx ry q;rcases q with q | q
 ·exact h pins s U H x y v u Q I rx ry q
 ·exact h' pins s U H x y v u Q I rx ry q
theorem bu (b:Expr) {op:CmpOp} (h:autoParam (op≠.In) L2.auto2._auto_1) (h2:autoParam (op≠.NotIn) L2.auto2._auto_1):behindInMarks op b=false:=by
 have e1:(op == CmpOp.In)=false:=by cases op <;> first | rfl | exact absurd rfl h
 have e2:(op == CmpOp.NotIn)=false:=by cases op <;> first | rfl | exact absurd rfl h2
 cases b <;> simp [behindInMarks,e1,e2]
theorem O1 {op:CmpOp} {r:R2} (ho:OpR X (compareOp op) r) (ha:PE X a ta) (hb:PE X b tb) (hm:behindInMarks op b=false):PE X (.Compare a [op] [b] pos) (Ob r ta tb):=by
 intro pins s U H Q I h;exact wpAny_Compare1 (TX ha hb I h fun v u s2 x y H2 I2 rx ry q=>ho pins s2 U H2 x y v u Q I2 rx ry q) hm
def Jy (t:TE):TT:=fun U H Q=>t U H fun x H'=>∃ k,x= .bl k/\Q k H'
theorem O2 {op:CmpOp} {r:R2} (ho:OpR X (compareOp op) r) (ha:PE X a ta) (hb:PE X b tb) (hm:behindInMarks op b=false):PT X (.Compare a [op] [b] pos) (Jy (Ob r ta tb)):=by
 intro pins s U H Q I h
 refine wpAny_isTrue_Compare1 (eQ (ha pins s U H _ I h) fun v s1 ⟨x,H1,I1,r1,q1⟩=>eQ (hb pins s1 U H1 _ I1 q1) fun u s2 ⟨y,H2,I2,r2,q2⟩=>
  eQ (ho pins s2 U H2 x y v u _ I2 r1 r2 q2) fun c s3 ⟨z,H3,I3,r3,k,e,q3⟩=>?_) hm
 subst e;cases r3;exact AaY ⟨H3,I3,q3⟩
def Ci (r r':R2) (ta tb tc:TE):TE:=fun U H Q=>ta U H fun x H1=>tb U H1 fun y H2=>r x y H2 fun z H3=>∃ k,z= .bl k/\
 (if k=true then tc U H3 fun w' H4=>r' y w' H4 Q else Q (.bl false) H3)
theorem Jz {op op':CmpOp} {r r':R2} (ho:OpR X (compareOp op) r) (ho':OpR X (compareOp op') r') (ha:PE X a ta) (hb:PE X b tb) (hc:PE X c tc)
  (hm:autoParam (lastMarks [op,op'] [b,c]=false) L2.auto5._auto_1):PE X (.Compare a [op,op'] [b,c] pos) (Ci r r' ta tb tc):=by
 intro pins s U H Q I h
 refine Compare_chain (eQ (ha pins s U H _ I h) fun v s1 ⟨x,H1,I1,r1,q1⟩=>chain_link (eQ (hb pins s1 U H1 _ I1 q1) fun u s2 ⟨y,H2,I2,r2,q2⟩=>
  eQ (ho pins s2 U H2 x y v u _ I2 r1 r2 q2) fun d s3 ⟨z,H3,I3,r3,k,e,q3⟩=>?_)) hm
 subst e;cases r3;refine AaY ?_;cases k with
 | false=>exact ite_ff ⟨.bl false,H3,I3,rfl,q3⟩
 | true=>exact ite_tt (chain_last (eQ (hc pins s3 U H3 _ I3 q3) fun w' s4 ⟨z',H4,I4,r4,q4⟩=>ho' pins s4 U H4 y z' u w' Q I4 r2 r4 q4))
theorem vQ:(sizeLine:Nat) < 2 ^ 63:=by rw [sizeLine_eq];decide
theorem Cj:OpR X (binaryOp .Add) (fun x y H Q=>∃ i j,x= .str i/\y= .str j/\i.length+j.length<=sizeLine/\Q (.str (i ++ j)) H):=by
 intro pins s U H x y v u Q I rx ry h;obtain ⟨i,j,rfl,rfl,hz,q⟩:=h;obtain ⟨t,rfl⟩:=rx;obtain ⟨t',rfl⟩:=ry;exact add_str (fun t' tk=>⟨.str (i ++ j),H,I.tok _,⟨_,rfl⟩,q⟩) hz
theorem vals1 {x:V} {us:List Value} (r:Vals [x] us):∃ u,us=[u]/\RelV x u:=by
 cases r with
 | cons r1 r2=>cases r2;exact ⟨_,rfl,r1⟩
theorem vals2 {x y:V} {us:List Value} (r:Vals [x,y] us):∃ u w',us=[u,w']/\RelV x u/\RelV y w':=by
 cases r with
 | cons r1 r2=>
  cases r2 with
  | cons r3 r4=>cases r4;exact ⟨_,_,rfl,r1,r3⟩
theorem Gq (hc:X.calm=true):CallR X (.builtin "max") (fun xs H Q=>∃ i j,xs=[.int i,.int j]/\Q (.int (if j > i then j else i)) H):=by
 intro pins s U H xs us Q I r h;obtain ⟨i,j,rfl,q⟩:=h;obtain ⟨u,w',rfl,⟨t,rfl⟩,⟨t',rfl⟩⟩:=vals2 r;refine max_two_ints (I.ok.hd hc) fun h' tk k=>⟨_,H,I.kept k,?_,q⟩
 by_cases hj:j > i
 ·rw [if_pos hj,if_pos hj];exact ⟨_,rfl⟩
 ·rw [if_neg hj,if_neg hj];exact ⟨_,rfl⟩
theorem Gr (hc:X.calm=true):CallR X (.builtin "min") (fun xs H Q=>∃ i j,xs=[.int i,.int j]/\Q (.int (if j < i then j else i)) H):=by
 intro pins s U H xs us Q I r h;obtain ⟨i,j,rfl,q⟩:=h;obtain ⟨u,w',rfl,⟨t,rfl⟩,⟨t',rfl⟩⟩:=vals2 r;refine min_two_ints (I.ok.hd hc) fun h' tk k=>⟨_,H,I.kept k,?_,q⟩
 by_cases hj:j < i
 ·rw [if_pos hj,if_pos hj];exact ⟨_,rfl⟩
 ·rw [if_neg hj,if_neg hj];exact ⟨_,rfl⟩
theorem Gs:CallR X (.type "int") (fun xs H Q=>(∃ i,xs=[.int i]/\Q (.int i) H)\/∃ k,xs=[.bl k]/\Q (.int (if k then 1 else 0)) H):=by
 intro pins s U H xs us Q I r h;rcases h with ⟨i,rfl,q⟩ | ⟨k,rfl,q⟩
 ·obtain ⟨u,rfl,t,rfl⟩:=vals1 r
  exact call_int_int ⟨.int i,H,I,⟨_,rfl⟩,q⟩
 ·obtain ⟨u,rfl,r1⟩:=vals1 r
  cases r1;exact call_int_bool ⟨.int (if k then 1 else 0),H,I.tok _,⟨_,rfl⟩,q⟩
def WL (K:W.Frag) (x:V) (H:Hp) (n:Nat):Prop:=
 match x with
 | .str y=>y.length<=sizeLine/\n=y.length
 | .byt y=>y.size<=sizeLine/\n=y.size
 | .ref p=>(∃ xs,SqL K H p xs/\n=xs.length)\/∃ xs,SqT K H p xs/\n=xs.length
 | _=>False
theorem JC:CallR X (.builtin "len") (fun xs H Q=>∃ x n,xs=[x]/\WL X.K x H n/\Q (.int n) H):=by
 intro pins s U H xs us Q I r h;obtain ⟨x,n,rfl,e,q⟩:=h;obtain ⟨u,rfl,rx⟩:=vals1 r;have hl:=vQ;have hs:sizeLine=16777216:=sizeLine_eq;cases x with
 | str y=>
  obtain ⟨t,rfl⟩:=rx;obtain ⟨hy,e'⟩:y.length<=sizeLine/\n=y.length:=e;subst e';exact len_str (by omega) ⟨.int _,H,I.tok _,⟨_,rfl⟩,q⟩
 | byt y=>
  obtain ⟨t,rfl⟩:=rx;obtain ⟨hy,e'⟩:y.size<=sizeLine/\n=y.size:=e;subst e';exact PySem.W.len_bytes (by omega) ⟨.int _,H,I.tok _,⟨_,rfl⟩,q⟩
 | ref p=>
  cases rx;have e':(∃ xs,SqL X.K H p xs/\n=xs.length)\/∃ xs,SqT X.K H p xs/\n=xs.length:=e;rcases e' with ⟨xs,hx,e'⟩ | ⟨xs,hx,e'⟩
  ·subst e'
   obtain ⟨its,r',pl,hz⟩:=I.list hx;have hlen:=r'.length;exact Calls.call_len_list pl.isList (by simp only [Zi];omega) ⟨.int xs.length,H,I.tok _,⟨_,by simp only [Zi];rw [hlen]⟩,q⟩
  ·subst e'
   obtain ⟨its,r',pl,hz⟩:=I.tuple hx;have hlen:=r'.length;exact len_tuple pl (by simp only [Zi];omega) ⟨.int xs.length,H,I.tok _,⟨_,by simp only [Zi];rw [hlen]⟩,q⟩
 | _=>exact (show False from e).elim
end
structure ObjM (h:Heap) (x dx C:Addr) (mA:Str->Option Value):Prop where
 obj:h.get? x=some (PySem.W.instObj C dx)
 ns:h.Ns1 dx mA
 ne:dx≠x
theorem tV {h:Heap} {dx:Addr} {mA:Str->Option Value} (n:h.Ns1 dx mA):∃ od,h.get? dx=some od/\∀ name,PySem.W.lookIn name od=some (mA name):=by
 obtain ⟨o,es,ep,ho,hd,hk,_,hm⟩:=n;refine ⟨o,ho,fun name=>?_⟩;have e:=hm name;unfold nsFind findBy at e;rw [← Array.find?_toList] at e;unfold PySem.W.lookIn;rw [hd];dsimp only
 split
 ·rename_i y q
  rw [q] at e;exact congrArg some e
 ·rename_i q
  rw [q] at e
  have a:es.toList.any (·.refKey)=false:=by
   rw [List.any_eq_false];intro y hy;obtain ⟨z,t,hkey⟩:=hk y (Array.mem_toList_iff.mp hy);simp [DictEntry.refKey,hkey]
  have a':¬ es.toList.any (·.refKey)=true:=by rw [a];exact Ze
  rw [if_neg a'];exact congrArg some e
theorem ObjM.look {h:Heap} {x dx C:Addr} {mA:Str->Option Value} (I:ObjM h x dx C mA):∃ od,PySem.W.InstAt h x (PySem.W.instObj C dx) C (some od)/\∀ name,PySem.W.lookIn name od=some (mA name):=
 let ⟨od,ho,hl⟩:=tV I.ns
 ⟨od,⟨I.obj,rfl,rfl,ho⟩,hl⟩
section
variable {prog:Program} {w:World} {A:Around} {E:Value->Shared->Prop} {s:Shared} {K:W.Frag} {x dx C f:Addr} {mA:Str->Option Value} {name:Str} {v:Value}
theorem O3 {expr:Bool} {Q:Value->Shared->Prop} (X:K.In s.heap) (I:ObjM s.heap x dx C mA) (hg:PySem.W.plainGet K C name=true) (hh:PySem.W.hasDictIn K C=true)
  (ha:PySem.W.findIn K (.ref C) name=some none) (hv:mA name=some v) (hv':PySem.W.handedIn v=true) (h:Q v {s with toks:=s.toks+1}):
  wpAny (model prog w) A (getAttr (.ref x) name expr) Q E s:=by
 obtain ⟨od,J,hl⟩:=I.look;exact PySem.W.get_value X J (PySem.W.plainGet_of hg).1 (PySem.W.findObj_own hh ha rfl (by rw [hl,hv])) hv' h
theorem JD {pl:Sem Bool} {Q:Value×List Value->Shared->Prop} (X:K.In s.heap) (I:ObjM s.heap x dx C mA) (hg:PySem.W.plainGet K C name=true)
  (hf:PySem.W.findIn K (.ref C) name=some (some (.ref f))) (ht:PySem.W.isFn K (.ref f)=true) (hv:mA name=none) (h:Q (.ref f,[.ref x]) s):
  wpAny (model prog w) A (getMethod (.ref x) name pl) Q E s:=by
 obtain ⟨od,J,hl⟩:=I.look;exact PySem.W.method_fn X J (PySem.W.plainGet_of hg).1 (PySem.W.plainGet_of hg).2 hf (AaK.mp ht) (by show (PySem.W.lookIn name od).map (·.isSome)=some false;rw [hl,hv];rfl) h
theorem O4 {ns:List Str} {Q:Unit->Shared->Prop} (X:K.In s.heap) (I:ObjM s.heap x dx C mA)
  (hs:PySem.W.findIn K (.ref C) "__setattr__"=some (some (.builtin "object.__setattr__"))) (hp:PySem.W.plainOver K C=true) (ht:PySem.W.takerIn K C name=some none) (hh:PySem.W.hasDictIn K C=true)
  (hw:PySem.Within mA ns) (hsz:ns.length<=sizeLine)
  (h:∀ h',ObjM h' x dx C (fun y=>if y=name then some v else mA y)->Heap.SameBut dx s.heap h'->Q () {s with heap:=h',toks:=s.toks+2}):
  wpAny (model prog w) A (setAttr (.ref x) name v) Q E s:=by
 obtain ⟨od,J,hl⟩:=I.look;refine PySem.W.set_plain X J hs (PySem.W.osa_open (s:={s with toks:=s.toks+1}) (r:=none) X J hp ht fun b=>?_);obtain ⟨cd,hc,hd'⟩:=PySem.W.any_some hh;have hx:s.heap.get? x=some ⟨.ref C,some dx,.plain,#[]⟩:=I.obj;refine YW (Y5 (YW (YW (AbD hx (YW (PySem.W.Looks.here (s:={s with toks:=s.toks+1}) (PySem.W.looks_clsIn X hc) ?_))))));rw [hd'];refine Y5 (a:=some dx) (YW (Y5 (YW ?_)));refine wpAny_nsSet1 (s:={s with toks:=s.toks+1}) I.ns fun h' hn2 hs2=>?_
 obtain ⟨oD,esD,epD,hoD,hdD,hcD⟩:=hn2.count (PySem.Within.cons name v hw);refine YW (wpAny_lookBehind hoD (by rw [hdD];exact pastItsLine_dict (ZP hcD (by rw [Aag];omega))) ?_);exact Y5 (h _ ⟨(hs2.2 _ (Ne.symm I.ne)).trans I.obj,hn2,I.ne⟩ hs2)
theorem JF {R:Result->Shared->Prop} {vs:List Value} {kw:List (Str×Value)} (X:K.In s.heap) (hm:PySem.W.makesIn K C=true)
  (hi:PySem.W.findIn K (.ref C) "__init__"=some (some (.ref f))) (hf:PySem.W.typeIn K (.ref f)=some (.type "function"))
  (h:codeAny (model prog w) (A.under (.builtin "type.__call__" ⟨.ref C :: vs,kw⟩)) (.call (.ref f) ⟨.ref (s.heap.objs.size+1) :: vs,kw⟩) (PySem.W.InitBack (s.heap.objs.size+1) R)
   {s with heap:=(s.heap.push PySem.W.emptyDict).push (PySem.W.instObj C s.heap.objs.size)}):
  codeAny (model prog w) A (.call (.ref C) ⟨vs,kw⟩) R s:=by
 obtain ⟨hh,g,d,t,os⟩:=s;exact PySem.W.make_core (PySem.W.makes_of X hm) (AaG X hi) (fun self=>PySem.W.bind_fn X self hf) (.inl rfl) h
end
def kY (f:Str) (v:V):List (Str×V)->List (Str×V)
 | []=>[(f,v)]
 | (g,x) :: r=>if g=f then (g,v) :: r else (g,x) :: kY f v r
theorem oO (f g:Str) (v:V):∀ fs:List (Str×V),(kY f v fs).lookup g=if g=f then some v else fs.lookup g
 | []=>by
  show List.lookup g [(f,v)]=_;by_cases h:g=f
  ·have hb:(g == f)=true:=AaK.mpr h
   simp only [List.lookup,hb,if_pos h]
  ·have hb:(g == f)=false:=Aam.mpr h
   simp only [List.lookup,hb,if_neg h]
 | (k,x) :: r=>by
  have ih:=oO f g v r;rw [show kY f v ((k,x) :: r)=(if k=f then (k,v) :: r else (k,x) :: kY f v r) from rfl];by_cases hk:k=f
  ·rw [if_pos hk]
   by_cases h:g=k
   ·have hb:(g == k)=true:=AaK.mpr h
    simp only [List.lookup,hb,if_pos (h.trans hk)]
   ·have hb:(g == k)=false:=Aam.mpr h
    simp only [List.lookup,hb,if_neg (fun e:g=f=>h (e.trans hk.symm))]
  ·rw [if_neg hk]
   by_cases h:g=k
   ·have hb:(g == k)=true:=AaK.mpr h
    simp only [List.lookup,hb,if_neg (fun e:g=f=>hk (h.symm.trans e))]
   ·have hb:(g == k)=false:=Aam.mpr h
    simp only [List.lookup,hb];exact ih
theorem tW (f:Str) (v:V):∀ fs:List (Str×V),f∈(kY f v fs).map (·.1)/\∀ g,g∈fs.map (·.1)->g∈(kY f v fs).map (·.1)
 | []=>⟨by simp [kY],fun g h=>by simp at h⟩
 | (k,x) :: r=>by
  obtain ⟨i1,i2⟩:=tW f v r;rw [show kY f v ((k,x) :: r)=(if k=f then (k,v) :: r else (k,x) :: kY f v r) from rfl];by_cases hk:k=f
  ·rw [if_pos hk]
   subst hk;exact ⟨by simp,fun g h=>by simpa using h⟩
  ·rw [if_neg hk]
   refine ⟨?_,fun g h=>?_⟩
   ·rw [Z3]
    exact Zz _ i1
   ·rw [Z3] at h ⊢
    rcases Zb.mp h with e | e
    ·exact Zb.mpr (.inl e)
    ·exact Zz _ (i2 g e)
theorem uK (f:Str) (v:V):∀ fs:List (Str×V),(kY f v fs).length<=fs.length+1
 | []=>by simp [kY]
 | (k,x) :: r=>by
  have ih:=uK f v r;rw [show kY f v ((k,x) :: r)=(if k=f then (k,v) :: r else (k,x) :: kY f v r) from rfl];by_cases hk:k=f
  ·rw [if_pos hk,Aag,Aag];omega
  ·rw [if_neg hk,Aag,Aag];omega
theorem RelO.some_of {v:V} {o:Option Value} (r:RelO (some v) o):∃ u,o=some u/\RelV v u:=by
 cases o with
 | none=>exact (show False from r).elim
 | some u=>exact ⟨u,rfl,r⟩
theorem RelO.none_of {o:Option Value} (r:RelO none o):o=none:=by
 cases o with
 | none=>rfl
 | some u=>exact (show False from r).elim
theorem xU {v:V} {u:Value} (r:RelV v u):PySem.W.handedIn u=true:=by
 cases v with
 | non=>cases (show u=Value.none from r);rfl
 | bl b=>cases (show u=Value.bool b from r);rfl
 | int i=>obtain ⟨t,e⟩:=(show ∃ t,u=Value.int i t from r);cases e;rfl
 | str x=>obtain ⟨t,e⟩:=(show ∃ t,u=Value.str x t from r);cases e;rfl
 | byt b=>obtain ⟨t,e⟩:=(show ∃ t,u=Value.bytes b t from r);cases e;rfl
 | flt b=>obtain ⟨t,e⟩:=(show ∃ t,u=Value.float b t from r);cases e;rfl
 | ref a=>cases (show u=Value.ref a from r);rfl
 | ty n=>cases (show u=Value.type n from r);rfl
section
variable {P:Program} {w:World} {H H':Hp} {h h':Heap} {a C dx:Addr} {fs fs':List (Str×V)}
theorem rG (hok:HOk P w H h) (e:H a=some (.ins C dx fs)):∃ mA,ObjM h a dx C mA/\(∀ f,RelO (fs.lookup f) (mA f))/\PySem.Within mA (fs.map (·.1))/\fs.length<=1000/\H dx=some (.own a):=by
 obtain ⟨d,z,ne,ob,mA,n,r,q⟩:=(show ObjOk P w H h a (.ins C dx fs) from hok a _ e);exact ⟨mA,⟨ob,n,ne⟩,r,q,z,d⟩
end
structure Cls (K:W.Frag) (C:Addr):Prop where
 pg:PySem.W.plainGet K C Str.empty=true
 hd:PySem.W.hasDictIn K C=true
 po:PySem.W.plainOver K C=true
 sa:PySem.W.findIn K (.ref C) "__setattr__"=some (some (.builtin "object.__setattr__"))
theorem Cls.get {K:W.Frag} {C:Addr} (c:Cls K C) (f:Str):PySem.W.plainGet K C f=true:=c.pg
def NoAttr (K:W.Frag) (C:Addr) (f:Str):Prop:=PySem.W.findIn K (.ref C) f=some none
theorem NoAttr.taker {K:W.Frag} {C:Addr} {f:Str} (n:NoAttr K C f):PySem.W.takerIn K C f=some none:=by
 unfold PySem.W.takerIn;rw [show PySem.W.findIn K (.ref C) f=some none from n];rfl
structure Meth (K:W.Frag) (C:Addr) (m:Str) (f:Addr):Prop where
 at_:PySem.W.findIn K (.ref C) m=some (some (.ref f))
 fn:PySem.W.isFn K (.ref f)=true
 kp:PySem.W.keepIn K (.ref f)=true
section
variable {X:Cx} {pins:List (Addr×Obj)} {U:St} {H:Hp} {s:Shared} {a C dx:Addr} {fs:List (Str×V)} {f:Str} {v:V} {A:Around} {E:Value->Shared->Prop}
theorem Ck {b:Bool} {Q:Value->Shared->Prop} (I:Inv X pins U H s) (e:H a=some (.ins C dx fs)) (c:Cls X.K C) (n:NoAttr X.K C f) (l:fs.lookup f=some v)
  (h:∀ u s',Inv X pins U H s'->RelV v u->Q u s'):wpAny (model X.prog X.w) A (getAttr (.ref a) f b) Q E s:=by
 obtain ⟨mA,O,r,_,_,_⟩:=rG I.hok e;obtain ⟨u,hu,ru⟩:=RelO.some_of (v:=v) (o:=mA f) (by rw [← l];exact r f);exact O3 I.kIn O (c.get f) c.hd n hu (xU ru) (h u _ (I.tok _) ru)
theorem vR {m:Str} {g:Addr} {pl:Sem Bool} {Q:Value×List Value->Shared->Prop} (I:Inv X pins U H s) (e:H a=some (.ins C dx fs)) (c:Cls X.K C) (k:Meth X.K C m g) (l:fs.lookup m=none)
  (h:Q (.ref g,[.ref a]) s):wpAny (model X.prog X.w) A (getMethod (.ref a) m pl) Q E s:=by
 obtain ⟨mA,O,r,_,_,_⟩:=rG I.hok e;have hn:mA m=none:=RelO.none_of (by rw [← l];exact r m);exact JD I.kIn O (c.get m) k.at_ k.fn hn h
theorem Cm {y:V} {u:Value} {Q:Unit->Shared->Prop} (I:Inv X pins U H s) (e:H a=some (.ins C dx fs)) (c:Cls X.K C) (n:NoAttr X.K C f) (hl:fs.length < 1000) (ry:RelV y u)
  (h:∀ s',Inv X pins U (upd H a (.ins C dx (kY f y fs))) s'->Q () s'):wpAny (model X.prog X.w) A (setAttr (.ref a) f u) Q E s:=by
 obtain ⟨mA,O,r,wi,_,ho⟩:=rG I.hok e;have hz:(fs.map (·.1)).length<=sizeLine:=by rw [Y6,sizeLine_eq];omega
 refine O4 I.kIn O c.sa c.po n.taker c.hd wi hz fun h' O' sb=>h _ ?_
 have hd:∃ o,h'.get? dx=some o:=let ⟨o,_,_,e',_⟩:=O'.ns;⟨o,e'⟩
 refine I.write (x:=a) (e:=dx) (by rw [e];exact True.intro) (.inr ho) (fun b q hb z=>(sb.2 b hb).trans z) hd ?_;refine ⟨by rw [aC O.ne];exact ho,?_,O.ne,O'.obj,_,O'.ns,fun g=>?_,fun g hg=>?_⟩
 ·have:=uK f y fs;omega
 ·show RelO ((kY f y fs).lookup g) (if g=f then some u else mA g)
  rw [oO];by_cases q:g=f
  ·rw [if_pos q,if_pos q];exact ry
  ·rw [if_neg q,if_neg q];exact r g
 ·by_cases q:g=f
  ·rw [q];exact (tW f y fs).1
  ·refine (tW f y fs).2 g (wi g fun z=>hg ?_)
   show (if g=f then some u else mA g)=none;rw [if_neg q];exact z
theorem Inv.made (I:Inv X pins U H s):Inv X pins U (upd (upd H s.heap.objs.size (.own (s.heap.objs.size+1))) (s.heap.objs.size+1) (.ins C s.heap.objs.size []))
  {s with heap:=(s.heap.push PySem.W.emptyDict).push (PySem.W.instObj C s.heap.objs.size)}:=by
 have e1:(s.heap.push PySem.W.emptyDict).get? s.heap.objs.size=some PySem.W.emptyDict:=Y8 s.heap rfl
 have e2:((s.heap.push PySem.W.emptyDict).push (PySem.W.instObj C s.heap.objs.size)).get? (s.heap.objs.size+1)=some (PySem.W.instObj C s.heap.objs.size):=by
  have:=Y8 (s.heap.push PySem.W.emptyDict) (o:=PySem.W.instObj C s.heap.objs.size) rfl;rwa [Aaj] at this
 have e3:(s.heap.push PySem.W.emptyDict).Ns s.heap.objs.size (fun _=>none):=⟨PySem.W.emptyDict,#[],_,e1,rfl,(fun e he=>absurd he (by simp)),fun _=>rfl⟩;have I1:=I.laid (a:=s.heap.objs.size) (o:=.own (s.heap.objs.size+1)) (h':=s.heap.push PySem.W.emptyDict) (t':=s.toks) (fun b u q=>YZ _ q) (Y4 _) ⟨_,e1⟩;refine I1.laid (a:=s.heap.objs.size+1) (o:=.ins C s.heap.objs.size []) (t':=s.toks) (fun b u q=>YZ _ q) (Nat.le_of_eq (Aaj _ _)) ?_;have ne:s.heap.objs.size≠s.heap.objs.size+1:=ZR (Nat.lt_succ_self _);refine ⟨by rw [aC ne,aj],Z7 _,ne,e2,fun _=>none,(Heap.Ns1.of_empty e3).at fun o q=>YZ _ q,fun _=>True.intro,fun y hy=>absurd rfl hy⟩
theorem Eh {prog:Program} {w:World} {env:Env} {e:Expr} {f:Str} {pos:Pos} {s:Shared} {Q:Value->Shared->Prop} (hb:attributeBase e f env (eval e env)=eval e env)
  (h:wpAny (model prog w) A (eval e env) (fun o s₁=>wpAny (model prog w) A (getAttr o f true) Q E s₁) E s):wpAny (model prog w) A (eval (.Attribute e f pos) env) Q E s:=
 Attribute_any_ h (by rw [arm_eval_Attribute,hb])
end
def T6 (K:W.Frag) (ta:TE) (f:Str):TE:=fun U H Q=>ta U H fun x H1=>∃ a C dx fs v,x= .ref a/\H1 a=some (.ins C dx fs)/\Cls K C/\NoAttr K C f/\fs.lookup f=some v/\Q v H1
def T7 (K:W.Frag) (ta tv:TE) (f:Str):TS:=fun D U H=>tv U H fun y H1=>ta U H1 fun x H2=>∃ a C dx fs,x= .ref a/\H2 a=some (.ins C dx fs)/\Cls K C/\NoAttr K C f/\fs.length < 1000/\
 D.nx U (upd H2 a (.ins C dx (kY f y fs)))
section
variable {X:Cx} {o e value:Expr} {f:Str} {pos pos' tpos:Pos} {ta tv:TE}
theorem T8 (he:PE X e ta) (hb:attributeBase e f X.env (eval e X.env)=eval e X.env):PE X (.Attribute e f pos) (T6 X.K ta f):=by
 intro pins s U H Q I h;refine Eh hb (eQ (he pins s U H _ I h) fun u s1 qq0=>?_);obtain ⟨x,H1,I1,rx,a,C,dx,fs,v,ex,ea,c,n,l,q⟩:=qq0;subst ex;obtain rfl:u=Value.ref a:=rx;exact Ck I1 ea c n l fun u' s2 I2 ru=>⟨v,H1,I2,ru,q⟩
theorem T9 (ha:PE X o ta) (hv:PE X value tv) (hs:swapsWith value (some (.Attribute o f pos')) pos.line X.env=pure false):PS X (.Assign [.Attribute o f pos'] value pos) (T7 X.K ta tv f):=by
 intro pins s U H D I h;refine plainObj_wpAny_Assign_Attribute (eQ (hv pins s U H _ I h) fun u s1 ⟨y,H1,I1,ry,q⟩=>eQ (ha pins s1 U H1 _ I1 q) fun ov s2 qq0=>?_) hs;obtain ⟨x,H2,I2,rx,a,C,dx,fs,ex,ea,c,n,l,q2⟩:=qq0;subst ex;obtain rfl:ov=Value.ref a:=rx;exact Cm I2 ea c n l ry fun s3 I3=>⟨U,_,I3,q2⟩
end
section
variable {X:Cx} {pins:List (Addr×Obj)} {U:St} {H:Hp} {s:Shared} {A:Around} {E:Value->Shared->Prop} {Q:Value->Shared->Prop} {c:Value} {b:Bool}
inductive TyOf (K:W.Frag) (H:Hp):V->Value->Prop where
 | non:TyOf K H .non (.type "NoneType")
 | bl (x:Bool):TyOf K H (.bl x) (.type "bool")
 | int (i:Int):TyOf K H (.int i) (.type "int")
 | str (x:Str):TyOf K H (.str x) (.type "str")
 | flt (x:UInt64):TyOf K H (.flt x) (.type "float")
 | lst {a:Addr} {xs:List V} (e:H a=some (.lst xs)):TyOf K H (.ref a) (.type "list")
 | frz {a:Addr} {o:Obj} {xs:List V} (e:H a=some (.frz o (.lst xs))):TyOf K H (.ref a) (.type "list")
 | tup {a:Addr} {xs:List V} (e:H a=some (.tup xs)):TyOf K H (.ref a) (.type "tuple")
 | dK {a:Addr} {kvs:List (Key×V)} (e:H a=some (.dK kvs)):TyOf K H (.ref a) (.type "dict")
 | dT {a:Addr} {kvs:List (List Key×V)} (e:H a=some (.dT kvs)):TyOf K H (.ref a) (.type "dict")
 | ins {a C dx:Addr} {fs:List (Str×V)} (e:H a=some (.ins C dx fs)) (cl:Cls K C) (ha:PySem.W.findIn K (.ref C) "__class__"=some (some (.builtin "object.__class__")))
   (hn:PySem.W.specialIn K (.builtin "object.__class__") "__get__"=some (some (.builtin "getset_descriptor.__get__"))) (htk:PySem.W.takesIn K (.builtin "object.__class__")=some true)
   (hm:PySem.W.mroIn K C (.type "object")=some true):TyOf K H (.ref a) (.ref C)
theorem Gu {x:V} {u t:Value} (I:Inv X pins U H s) (rx:RelV x u) (ty:TyOf X.K H x t) (e:PySem.W.kitOne X.K t c=some b) (h:∀ tk,Q (.bool b) {s with toks:=tk}):
  wpAny (model X.prog X.w) A (call (.builtin "isinstance") [u,c]) Q E s:=by
 cases ty with
 | non=>cases (show u=Value.none from rx);exact Aau PySem.W.kitx_none I.kIn True.intro e (fun z=>nomatch z) h
 | bl y=>cases (show u=Value.bool y from rx);exact Aau PySem.W.kitx_bool I.kIn True.intro e (fun z=>nomatch z) h
 | int i=>obtain ⟨t,q⟩:=(show ∃ t,u=Value.int i t from rx);cases q;exact Aau PySem.W.kitx_int I.kIn True.intro e (fun z=>nomatch z) h
 | str y=>obtain ⟨t,q⟩:=(show ∃ t,u=Value.str y t from rx);cases q;exact Aau PySem.W.kitx_str I.kIn True.intro e (fun z=>nomatch z) h
 | flt y=>obtain ⟨t,q⟩:=(show ∃ t,u=Value.float y t from rx);cases q;exact Aau PySem.W.kitx_float I.kIn True.intro e (fun z=>nomatch z) h
 | @lst a xs ea=>
  cases (show u=Value.ref a from rx);obtain ⟨_,_,n,_,h1⟩:=(show ObjOk X.prog X.w H s.heap a (.lst xs) from I.hok a _ ea);exact Aau PySem.W.kitx_list I.kIn ⟨_,h1,rfl⟩ e (fun z=>nomatch z) h
 | @frz a ob xs ea=>
  cases (show u=Value.ref a from rx);obtain ⟨_,_,_,n,_,h1⟩:=(show ObjOk X.prog X.w H s.heap a (.frz ob (.lst xs)) from I.hok a _ ea);exact Aau PySem.W.kitx_list I.kIn ⟨_,h1,rfl⟩ e (fun z=>nomatch z) h
 | @tup a xs ea=>
  cases (show u=Value.ref a from rx);obtain ⟨_,_,_,p⟩:=(show ObjOk X.prog X.w H s.heap a (.tup xs) from I.hok a _ ea);obtain ⟨o,h1,h2,_⟩:=p;exact Aau PySem.W.kitx_tuple I.kIn ⟨o,h1,h2⟩ e (fun z=>nomatch z) h
 | @dK a kvs ea=>
  cases (show u=Value.ref a from rx);obtain ⟨_,_,vs,_,p⟩:=(show ObjOk X.prog X.w H s.heap a (.dK kvs) from I.hok a _ ea);obtain ⟨o,es,ep,h1,h2,_⟩:=p;exact Aau PySem.W.kitx_dict I.kIn ⟨o,h1,h2.1⟩ e (fun z=>nomatch z) h
 | @dT a kvs ea=>
  cases (show u=Value.ref a from rx);obtain ⟨_,_,xs,_,o,es,ep,h1,h2,_⟩:=(show ObjOk X.prog X.w H s.heap a (.dT kvs) from I.hok a _ ea);exact Aau PySem.W.kitx_dict I.kIn ⟨o,h1,h2.1⟩ e (fun z=>nomatch z) h
 | @ins a C dx fs ea cl ha hn htk hm=>
  cases (show u=Value.ref a from rx);obtain ⟨mA,O,_⟩:=rG I.hok ea;obtain ⟨od,J,_⟩:=O.look;exact Aau (PySem.W.kitx_own (cl.get _) cl.hd ha hn htk hm) I.kIn J e (fun z=>nomatch z) h
end
structure Room (k:Nat) (A:Around):Prop where
 hd:A.handled=none
 dp:A.depth+3*k+5 < recursionLimit
 un:A.units+16*k+200 < cLine
 gd:A.guards=some []
theorem Room.mono {j k:Nat} {A:Around} (r:Room k A) (h:j<=k):Room j A:=⟨r.hd,by have:=r.dp;omega,by have:=r.un;omega,r.gd⟩
theorem Room.deeper {k:Nat} {A:Around} (r:Room (k+1) A) (env:Env):Room k (A.deeper env):=
 ⟨r.hd,by have:=r.dp;show A.depth+1+3*k+5 < _;omega,by have:=r.un;show A.units+3+16*k+200 < _;omega,r.gd⟩
theorem Cp {A:Around} {C:Addr} {us:List Value} {kw:List (Str×Value)}:(A.under (.builtin "type.__call__" ⟨.ref C :: us,kw⟩)).depth=A.depth+1:=by
 first | rfl | simp [Around.under,Code.weight,Code.isCreation,Code.isGuard,Code.isCaller,Code.frames,Code.isFrame,guardIds]
theorem Cq {A:Around} {C:Addr} {us:List Value} {kw:List (Str×Value)}:(A.under (.builtin "type.__call__" ⟨.ref C :: us,kw⟩)).units=A.units+1:=by
 first | rfl | simp [Around.under,Code.cUnits,Code.frames,Code.isFrame]
theorem zV {A:Around} {C:Addr} {us:List Value} {kw:List (Str×Value)}:(A.under (.builtin "type.__call__" ⟨.ref C :: us,kw⟩)).guards=pushGuards [] A.guards:=by
 first | rfl | simp [Around.under,Code.guards,Code.isGuard,guardIds]
theorem Room.make {k:Nat} {A:Around} (r:Room (k+1) A) (C:Addr) (us:List Value) (kw:List (Str×Value)):Room k (A.under (.builtin "type.__call__" ⟨.ref C :: us,kw⟩)):=
 ⟨r.hd,by have:=r.dp;rw [Cp];omega,by have:=r.un;rw [Cq];omega,(zV.trans (by rw [r.gd];rfl))⟩
theorem Room.depth {k:Nat} {A:Around} (r:Room k A):A.depth < recursionLimit:=by have:=r.dp;omega
theorem Room.units {k:Nat} {A:Around} (r:Room k A):A.units+64 < cLine:=by have:=r.un;omega
theorem Room.units0 {k:Nat} {A:Around} (r:Room k A):A.units < cLine:=by have:=r.un;omega
def O5:TA:=fun _ H Q=>Q [] H
def Ei (ta:TE) (tr:TA):TA:=fun U H Q=>ta U H fun x H1=>tr U H1 fun xs H2=>Q (x :: xs) H2
section
variable {X:Cx} {e:Expr} {es:List Expr} {te:TE} {t:TA} {pos:Pos}
theorem Ua:PA X [] O5:=fun _ _ _ _ H Q I h=>Calls.spliced_nil ⟨[],H,I,.nil,h⟩
theorem O6 (ha:PE X e te) (hr:PA X es t) (hs:autoParam (starEach (e :: es) X.env=(false,eval e X.env) :: starEach es X.env) L2.auto4._auto_1):PA X (e :: es) (Ei te t):=by
 intro pos pins s U H Q I h;rw [hs];show wpAny _ _ (spliced ((false,eval e X.env) :: backTo pos (starEach es X.env))) _ _ s;refine Calls.spliced_cons (eQ (ha pins s U H _ I h) fun u s1 qq0=>?_);obtain ⟨x,H1,I1,r1,q1⟩:=qq0;exact eQ (hr pos pins s1 U H1 _ I1 q1) fun us s2 ⟨xs,H2,I2,r2,q2⟩=>⟨x :: xs,H2,I2,.cons r1 r2,q2⟩
def O7 (t:TA):TE:=fun U H Q=>t U H fun xs H1=>xs.length<=sizeLine/\∀ p,H1 p=none->Q (.ref p) (upd H1 p (.tup xs))
def O8 (t:TA):TE:=fun U H Q=>t U H fun xs H1=>xs.length<=sizeLine/\∀ p,H1 p=none->Q (.ref p) (upd H1 p (.lst xs))
theorem Ub {x1} (h:PA X es t):PE X (.Tuple es x1 pos) (O7 t):=by
 intro pins s U H Q I hq;refine wpAny_Tuple_spliced (eQ (h pos pins s U H _ I hq) fun us s1 ⟨xs,H1,I1,r,z,q⟩=>⟨by rw [← r.length];exact z,?_⟩);have hf:H1 s1.heap.objs.size=none:=I1.hok.fresh (Y4 _);refine ⟨.ref s1.heap.objs.size,upd H1 s1.heap.objs.size (.tup xs),I1.laid (t':=s1.toks) (fun b u e=>YZ _ e) (Y4 _) ?_,rfl,q _ hf⟩;exact ⟨z,us,r,⟨_,Y8 _ rfl,rfl,_,rfl⟩⟩
theorem Uc (h:PA X es t):PE X (.List es pos) (O8 t):=by
 intro pins s U H Q I hq;refine wpAny_List_spliced (eQ (h pos pins s U H _ I hq) fun us s1 ⟨xs,H1,I1,r,z,q⟩=>⟨by rw [← r.length];exact z,?_⟩);have hf:H1 s1.heap.objs.size=none:=I1.hok.fresh (Y4 _);refine ⟨.ref s1.heap.objs.size,upd H1 s1.heap.objs.size (.lst xs),I1.laid (t':=s1.toks) (fun b u e=>YZ _ e) (Y4 _) ?_,rfl,q _ hf⟩;exact ⟨z,us,0,r,Y8 _ rfl⟩
end
abbrev Sp:=List V->Hp->VK->XK->Prop
abbrev Jc:=List Env->Hp->Shared->XK->Value->Shared->Prop
structure Env0 (P:Program) (w:World) (K:W.Frag) (mg:Str->Option Value) (base:Heap) (A:Around) (outer:List Env) (s:Shared) (H:Hp):Prop where
 frames:A.frames=some outer
 mod:Mod K mg base
 bs:∀ b o,base.get? b=some o->s.heap.get? b=some o/\H b=none
 bsz:base.objs.size<=s.heap.objs.size
 funs:s.heap.FunFrames base outer
 frf:∀ b∈frs outer,H b=none
 hok:HOk P w H s.heap
 bare:AllBare s.gens
def CE (outer:List Env) (P:Program) (w:World) (H:Hp) (s:Shared) (Q:VK) (u:Value) (s':Shared):Prop:=
 ∃ v H',s'.os=s.os/\AllBare s'.gens/\Un (frs outer) [] H H' s.heap s'.heap/\HOk P w H' s'.heap/\RelV v u/\Q v H'
def CR (CX:Jc) (outer:List Env) (P:Program) (w:World) (H:Hp) (s:Shared) (Q:VK) (E:XK) (r:Result) (s':Shared):Prop:=
 match r with
 | .ok (.ret u)=>CE outer P w H s Q u s'
 | .ok _=>False
 | .error e=>CX outer H s E e s'
structure rH (P:Program) (w:World) (K:W.Frag) (mg:Str->Option Value) (base:Heap) (CX:Jc) (k:Nat) (f:Addr) (fd:FuncData) (ps:List Str) (sp:Sp):Prop where
 len:∀ vs H Q E,sp vs H Q E->vs.length=ps.length
 run:∀ (A:Around) (outer:List Env) (s:Shared) (H:Hp) (args:Args) (us:List Value) (vs:List V) (Q:VK) (E:XK),Room k A->Env0 P w K mg base A outer s H->BindsTo s fd args (ps.zip us)->Vals vs us->sp vs H Q E->
  codeAny (model P w) A (.call (.ref f) args) (CR CX outer P w H s Q E) s
theorem Env0.make {P:Program} {w:World} {K:W.Frag} {mg:Str->Option Value} {base:Heap} {A:Around} {outer:List Env} {s:Shared} {H:Hp} (e:Env0 P w K mg base A outer s H) (C:Addr) (us:List Value) (kw:List (Str×Value)):
  Env0 P w K mg base (A.under (.builtin "type.__call__" ⟨.ref C :: us,kw⟩)) outer s H:=⟨by first | exact e.frames | (simpa [Around.under,Code.envs,Code.isFrame,pushEnvs] using e.frames),e.mod,e.bs,e.bsz,e.funs,e.frf,e.hok,e.bare⟩
section
variable {X:Cx} {pins:List (Addr×Obj)} {U:St} {H:Hp} {s s':Shared}
theorem Inv.env0 (I:Inv X pins U H s):Env0 X.prog X.w X.K X.mg X.base X.A X.stack s H:=
 ⟨I.ok.frames,I.ok.mod,I.bs,ZP I.ok.bsz I.sz,I.stack,I.stkFree,I.hok,I.bare⟩
theorem Inv.after {Q:VK} {u:Value} (I:Inv X pins U H s) (h:CE X.stack X.prog X.w H s Q u s'):EP X pins U Q u s':=by
 obtain ⟨v,H',os,bare,un,hok,r,q⟩:=h;obtain ⟨hh,g,d,t,os'⟩:=s';obtain rfl:os'=s.os:=os;exact ⟨v,H',I.call (h':=hh) (g':=g) (d':=d) (t':=t) (ch:=[]) un hok bare (fun b z=>absurd z (by simp)),r,q⟩
end
def xV (sp:Sp) (dvs:List V) (E:XK) (t:TA):TE:=fun U H Q=>t U H fun vs H1=>sp (vs ++ dvs) H1 Q E
def Binds (K:W.Frag) (fd:FuncData) (ps:List Str) (ds:List Value):Prop:=
 ∀ (s:Shared) (us:List Value),K.In s.heap->(us ++ ds).length=ps.length->BindsTo s fd ⟨us,[]⟩ (ps.zip (us ++ ds))
theorem Binds.all {K:W.Frag} {fd:FuncData} {ps:List Str} (h:∀ us:List Value,us.length=ps.length->bindArgs fd ⟨us,[]⟩=pure (ps.zip us)):Binds K fd ps []:=fun s us _ hl=>by
 rw [Z5] at hl ⊢;exact .of_eq (h us hl)
def Cr (CX:Jc) (X:Cx) (E:XK):Prop:=∀ (pins:List (Addr×Obj)) (U:St) (H:Hp) (s:Shared) (e:Value) (s':Shared),Inv X pins U H s->CX X.stack H s E e s'->X.xe e s'
section
variable {X:Cx} {CX:Jc} {k:Nat} {f C:Addr} {fd:FuncData} {ps:List Str} {sp:Sp} {dvs:List V} {ds:List Value} {E:XK} {x m:Str} {p pos apos:Pos} {e o:Expr} {es:List Expr} {ta:TE} {t:TA}
theorem Ud {pins:List (Addr×Obj)} {U:St} {H:Hp} {s:Shared} {Q:VK} {us:List Value} {vs:List V} (F:rH X.prog X.w X.K X.mg X.base CX k f fd ps sp) (hr:Room k X.A) (hb:Binds X.K fd ps ds) (hd:Vals dvs ds) (hx:Cr CX X E)
  (I:Inv X pins U H s) (r:Vals vs us) (h:sp (vs ++ dvs) H Q E):wpAny (model X.prog X.w) X.A (call (.ref f) us) (EP X pins U Q) X.xe s:=by
 have r2:Vals (vs ++ dvs) (us ++ ds):=r.append hd;have hl:(us ++ ds).length=ps.length:=by rw [← r2.length];exact F.len _ _ _ _ h
 refine AbE (codeAny_mono (F.run X.A X.stack s H ⟨us,[]⟩ (us ++ ds) (vs ++ dvs) Q E hr I.env0 (hb s us I.kIn hl) r2 h) fun r s' hq=>?_);cases r with
 | error e=>exact hx pins U H s e s' I hq
 | ok fl=>
  cases fl with
  | ret u=>exact I.after hq
  | next=>exact False.elim hq
  | brk=>exact False.elim hq
  | cont=>exact False.elim hq
theorem O9 (F:rH X.prog X.w X.K X.mg X.base CX k f fd ps sp) (hr:Room k X.A) (hg:Gl X x) (hm:X.mg x=some (.ref f)) (hk:PySem.W.keepIn X.K (.ref f)=true) (hb:Binds X.K fd ps ds) (hd:Vals dvs ds) (hx:Cr CX X E)
  (ha:PA X (e :: es) t) (hdb:autoParam ((x == ("__debug__":Str))=false) L2.auto2._auto_1) (he:autoParam (starEach (e :: es) X.env=(false,eval e X.env) :: starEach es X.env) L2.auto4._auto_1) (hpl:autoParam ((backTo pos (starEach es X.env)).any (·.1)=false) L2.auto4._auto_1):
  PE X (.Call (.Name x p) (e :: es) [] pos) (xV sp dvs E t):=by
 intro pins s U H Q I h;refine Aax (pR I hg hm ?_ hdb);refine Abq (h₀:=X.base) I.ok.mod.kin hk (eQ (ha pos pins s U H _ I h) fun us s1 ⟨vs,H1,I1,r,q⟩=>⟨I1.kIn,?_⟩) he hpl;exact Ud F hr hb hd hx I1 r q
end
structure aD (N P:List Str) (sc:Scope):Prop where
 kind:sc.kind= .function
 co:sc.isCoroutine=false
 gen:sc.isGenerator=false
 nd:N.Nodup
 pre:N.take P.length=P
 par:∀ x∈P,sc.names.lookup x=some .local\/sc.names.lookup x=some .cell
 nofree:∀ y∈sc.names,y.2≠.free
theorem xW {kindOf:Str->Option NameKind} {x:Str}:∀ {binds:List (Str×Value)} {m:Str->Option Value},(∀ v,(x,v) ∉ binds)->bindL kindOf binds m x=m x
 | [],_,_=>rfl
 | (n,v) :: r,m,h=>by
  unfold bindL;rw [xW fun w hw=>h w (Zz _ hw)]
  split
  ·have:x≠n:=by rintro rfl;exact h v Z6
   simp [this]
  ·rfl
theorem xX {kindOf:Str->Option NameKind} {x:Str}:∀ {binds:List (Str×Value)} {m:Str->Option Value},(∀ v,(x,v) ∉ binds)->bindC kindOf binds m x=m x
 | [],_,_=>rfl
 | (n,v) :: r,m,h=>by
  unfold bindC;rw [xX fun w hw=>h w (Zz _ hw)]
  split
  ·rfl
  ·have:x≠n:=by rintro rfl;exact h v Z6
   simp [this]
theorem xY {kindOf:Str->Option NameKind} {x:Str} {v:Value}:∀ {P:List Str} {vs:List Value} {i:Nat} {m:Str->Option Value},P.Nodup->P[i]?=some x->vs[i]?=some v->kindOf x=some .local->
  bindL kindOf (P.zip vs) m x=some v
 | [],_,_,_,_,h,_,_=>by simp at h
 | _ :: _,[],_,_,_,_,h,_=>by simp at h
 | p :: P,w :: vs,0,m,nd,h1,h2,hk=>by
  simp at h1 h2;subst h1;subst h2;show bindL kindOf ((p,w) :: P.zip vs) m p=_;unfold bindL;rw [xW fun v hv=>(List.nodup_cons.mp nd).1 (List.of_mem_zip hv).1,if_pos hk];simp
 | p :: P,w :: vs,i+1,m,nd,h1,h2,hk=>by
  show bindL kindOf ((p,w) :: P.zip vs) m x=_;unfold bindL;exact xY (i:=i) (List.nodup_cons.mp nd).2 (by simpa using h1) (by simpa using h2) hk
theorem xZ {kindOf:Str->Option NameKind} {x:Str} {v:Value}:∀ {P:List Str} {vs:List Value} {i:Nat} {m:Str->Option Value},P.Nodup->P[i]?=some x->vs[i]?=some v->kindOf x≠some .local->
  bindC kindOf (P.zip vs) m x=some v
 | [],_,_,_,_,h,_,_=>by simp at h
 | _ :: _,[],_,_,_,_,h,_=>by simp at h
 | p :: P,w :: vs,0,m,nd,h1,h2,hk=>by
  simp at h1 h2;subst h1;subst h2;show bindC kindOf ((p,w) :: P.zip vs) m p=_;unfold bindC;rw [xX fun v hv=>(List.nodup_cons.mp nd).1 (List.of_mem_zip hv).1,if_neg hk];simp
 | p :: P,w :: vs,i+1,m,nd,h1,h2,hk=>by
  show bindC kindOf ((p,w) :: P.zip vs) m x=_;unfold bindC;exact xZ (i:=i) (List.nodup_cons.mp nd).2 (by simpa using h1) (by simpa using h2) hk
def start (N:List Str) (vs:List V):St:=vs.map some ++ List.replicate (N.length - vs.length) none
def qG (CX:Jc) (P:Program) (w:World) (K:W.Frag) (mg:Str->Option Value) (base:Heap) (N:List Str) (qual:Str) (scope:Scope) (f:Addr) (cd:Value) (A:Around) (outer:List Env) (s:Shared) (H:Hp) (E:XK):Cx where
 prog:=P
 w:=w
 K:=K
 mg:=mg
 base:=base
 A:=A.deeper (envOfC qual scope s.heap.objs.size f cd)
 N:=N
 s₀:=s
 H₀:=H
 env:=envOfC qual scope s.heap.objs.size f cd
 outer:=outer
 stack:=envOfC qual scope s.heap.objs.size f cd :: outer
 ex:=[]
 calm:=true
 fn:=fun _=>true
 pn:=[]
 xe:=fun e s'=>wpAny (model P w) (A.deeper (envOfC qual scope s.heap.objs.size f cd)) (leaving (envOfC qual scope s.heap.objs.size f cd) e) (fun _ s''=>CX outer H s E e s'') (fun e' s''=>CX outer H s E e' s'') s'
theorem zW {sc:Scope} {n:Nat} {x:Str} (h:sc.names.lookup x=some .cell):∃ c,(cellsFrom n sc.names []).lookup x=some c:=by
 have q:=PySem.W.cellsFrom_some sc.names n [] (.inl h);exact Option.isSome_iff_exists.mp q
theorem Gv {CX:Jc} {P:Program} {w:World} {K:W.Frag} {mg:Str->Option Value} {base:Heap} {N ps:List Str} {qual:Str} {scope:Scope} {f:Addr} {cd:Value} {A:Around} {outer:List Env} {s s1:Shared} {H:Hp} {E:XK} {us:List Value} {vs:List V}
  (S:aD N ps scope) (hd:A.handled=none) (e0:Env0 P w K mg base A outer s H) (hl:vs.length=ps.length) (r:Vals vs us)
  (x:InCallC s s.heap.objs.size (bindL (envOfC qual scope s.heap.objs.size f cd).kindOf (ps.zip us) fun _=>none) (cellsFrom (s.heap.objs.size+1) scope.names []) (bindC (envOfC qual scope s.heap.objs.size f cd).kindOf (ps.zip us) fun _=>none) s1):
  Inv (qG CX P w K mg base N qual scope f cd A outer s H E) [] (start N vs) H s1:=by
 have hpl:ps.length<=N.length:=by have:=congrArg List.length S.pre;rw [Aac] at this;omega
 obtain ⟨h1,tk,rfl,hk⟩:=x.done;have noA:∀ b:Addr,b ∉ (qG CX P w K mg base N qual scope f cd A outer s H E).ex:=fun b z=>absurd (show b∈([]:List Addr) from z) (by simp)
 refine ⟨⟨e0.mod,S.kind,rfl,rfl,Y4 _,fun y z c h1 h2=>?_,fun y hy=>?_,fun y c _ h=>?_,fun _=>hd,Around.frames_deeper e0.frames,.inr ⟨rfl,rfl⟩,fun b z=>absurd z (noA b),e0.bs,e0.bsz,fun b _ _=>noA b,fun b z=>absurd z (noA b),e0.funs,e0.frf⟩,
  rfl,e0.bare,Un.kept hk,⟨_,x.toInCall.ns,fun i y v h1 h2 h3=>?_⟩,fun y c h=>⟨_,x.cell y c h⟩,e0.hok.fresh (Y4 _),fun y c h=>?_,fun p hp=>absurd (show p∈([]:List (Addr×Obj)) from hp) (by simp),e0.hok.kept hk,?_⟩
 ·exact name_of_addr x.apart (Aaa h1) (Aaa h2)
 ·have hy:scope.names.lookup y=some .cell\/scope.names.lookup y=some .free:=hy
  rcases hy with hy | hy
  ·exact zW hy
  ·exact absurd rfl (S.nofree _ (Aaa hy))
 ·exact Nat.le_of_lt (x.above y c (Aaa h))
 ·have hi:i < vs.length:=by
   unfold start at h2;by_cases hi:i < vs.length
   ·exact hi
   ·rw [Zx (by simpa using hi)] at h2
    rw [List.getElem?_replicate] at h2
    split at h2 <;> cases h2
  have ha:vs[i]?=some v:=by
   unfold start at h2;rw [ZK (by simpa using hi),Y9] at h2;cases e:vs[i]? with
   | none=>rw [e] at h2;cases h2
   | some a=>rw [e] at h2;cases h2;rfl
  obtain ⟨u,hu,rv⟩:=r.get ha
  have hp:ps[i]?=some y:=by
   rw [← S.pre,List.getElem?_take_of_lt (by omega)];exact h1
  have ndP:ps.Nodup:=by rw [← S.pre];exact S.nd.sublist (Abd _ _)
  refine ⟨u,rv,?_⟩;rcases S.par y (Zj hp) with k | k
  ·exact .inl ⟨k,xY ndP hp hu k⟩
  ·obtain ⟨c,e⟩:=zW (n:=s.heap.objs.size+1) k
   refine .inr ⟨.inl k,c,e,?_⟩;have q:=x.cell y c e;rw [xZ ndP hp hu (by show scope.names.lookup y≠_;rw [k];decide)] at q;exact q
 ·exact e0.hok.fresh (Nat.le_of_lt (x.above y c (Aaa h)))
 ·unfold start
  show _=N.length;rw [Zv,Y6,List.length_replicate];omega
theorem JK {CX:Jc} {P:Program} {w:World} {K:W.Frag} {mg:Str->Option Value} {base:Heap} {k:Nat} {f:Addr} {name qual:Str} {params:Arguments} {body:List Stmt} {scope:Scope} {dV kV doc pm cdv ct oc:Value} {an od:Option Addr}
  {osl:Array (Option Value)} {N ps:List Str} {sp:Sp} (lk:K.lookup f=some ⟨oc,od,.func (PySem.W.fnOf name qual params body scope dV kV doc pm an cdv ct),osl⟩) (hcd:PySem.W.codeIn K cdv qual=true) (S:aD N ps scope)
  (len:∀ vs H Q E,sp vs H Q E->vs.length=ps.length)
  (hbody:∀ (A:Around) (outer:List Env) (s:Shared) (H:Hp) (vs:List V) (Q:VK) (E:XK),Room k (A.deeper (envOfC qual scope s.heap.objs.size f cdv))->sp vs H Q E->
   ∃ t,PSs (qG CX P w K mg base N qual scope f cdv A outer s H E) body t/\t {nx:=fun _ H'=>Q .non H',rt:=Q} (start N vs) H):
  rH P w K mg base CX (k+1) f (PySem.W.fnOf name qual params body scope dV kV doc pm an cdv ct) ps sp:=by
 refine ⟨len,fun A outer s H args us vs Q E hr e0 hb r hsp=>?_⟩;have hl:=len _ _ _ _ hsp;have KX:K.In s.heap:=e0.mod.kin.keeps fun b o e=>(e0.bs b o e).1
 have lim:s.heap.NoLimit:=e0.mod.nolimit.keeps fun b o e=>(e0.bs b o e).1
 have hkind:∀ y∈ps.zip us,scope.names.lookup y.1=some .local\/(scope.names.lookup y.1=some .cell/\((cellsFrom (s.heap.objs.size+1) scope.names []).lookup y.1).isSome=true):=fun ⟨n,v⟩ hy=>by
  rcases S.par n (List.of_mem_zip hy).1 with q | q
  ·exact .inl q
  ·exact .inr ⟨q,PySem.W.cellsFrom_some _ _ _ (.inl q)⟩
 refine codeAny_call_function hr.depth (KX _ _ lk) rfl S.co S.gen rfl (PySem.W.codeRec_of KX hcd) (hb _ _ _ _ ?_);refine wpAny_newFunctionEnv_cells S.kind hkind fun env he s1 x=>?_
 subst he;refine ⟨lim.keeps x.toInCall.keep,codeAny_func ?_⟩;obtain ⟨t,ht,hq⟩:=hbody A outer s H vs Q E (hr.deeper _) hsp;have I:Inv (qG CX P w K mg base N qual scope f cdv A outer s H E) [] (start N vs) H s1:=Gv S hr.hd e0 hl r x;refine Aal (ht [] s1 (start N vs) H _ I hq) (fun fl s' hs=>?_) fun e s' hs=>hs
 have fin:∀ {U':St} {H':Hp} {v:V} {u:Value},Inv (qG CX P w K mg base N qual scope f cdv A outer s H E) [] U' H' s'->RelV v u->Q v H'->CE outer P w H s Q u s':=
  fun {U' H' v u} J rv q=>⟨v,H',J.os,J.bare,J.base,J.hok,rv,q⟩
 cases fl with
 | ret u=>
  obtain ⟨v,U',H',J,rv,q⟩:=hs;exact fin J rv q
 | next=>
  obtain ⟨U',H',J,q⟩:=hs;exact fin (v:=V.non) (u:=Value.none) J rfl q
 | brk=>
  obtain ⟨_,_,_,q⟩:=hs;exact False.elim q
 | cont=>
  obtain ⟨_,_,_,q⟩:=hs;exact False.elim q
section
variable {X:Cx} {x:Str} {p pos:Pos} {e:Expr} {es:List Expr} {t:TA} {id T:String} {r:List V->Hp->VK->Prop}
def Ue (r:List V->Hp->VK->Prop) (t:TA):TE:=fun U H Q=>t U H fun vs H1=>r vs H1 Q
theorem JL (hc:CallR X (.builtin id) r) (hg:Gl X x) (hm:X.mg x=none) (hv:bootBuiltins x=some (.builtin id)) (ha:PA X (e :: es) t) (hn:autoParam (x≠"__name__") L2.auto2._auto_1) (hdb:autoParam ((x == ("__debug__":Str))=false) L2.auto2._auto_1)
  (he:autoParam (starEach (e :: es) X.env=(false,eval e X.env) :: starEach es X.env) L2.auto4._auto_1) (hpl:autoParam ((backTo pos (starEach es X.env)).any (·.1)=false) L2.auto4._auto_1):PE X (.Call (.Name x p) (e :: es) [] pos) (Ue r t):=by
 intro pins s U H Q I h;refine Aax (iR I hg hm hv ?_ hn hdb);exact PyProof.Rows.callWith_builtin1 (eQ (ha pos pins s U H _ I h) fun us s1 ⟨vs,H1,I1,r1,q1⟩=>hc pins s1 U H1 vs us Q I1 r1 q1) he hpl
theorem Gw (hc:CallR X (.type T) r) (hg:Gl X x) (hm:X.mg x=none) (hv:bootBuiltins x=some (.type T)) (ha:PA X (e :: es) t) (hn:autoParam (x≠"__name__") L2.auto2._auto_1) (hdb:autoParam ((x == ("__debug__":Str))=false) L2.auto2._auto_1)
  (he:autoParam (starEach (e :: es) X.env=(false,eval e X.env) :: starEach es X.env) L2.auto4._auto_1) (hpl:autoParam ((backTo pos (starEach es X.env)).any (·.1)=false) L2.auto4._auto_1):PE X (.Call (.Name x p) (e :: es) [] pos) (Ue r t):=by
 intro pins s U H Q I h;refine Aax (iR I hg hm hv ?_ hn hdb);exact ZX (eQ (ha pos pins s U H _ I h) fun us s1 ⟨vs,H1,I1,r1,q1⟩=>hc pins s1 U H1 vs us Q I1 r1 q1) he hpl
end
end L2
namespace HT
open PySem PyProof.Rows
def lexLt:List Int->List Int->Bool
 | [],[]=>false
 | [],_ :: _=>true
 | _ :: _,[]=>false
 | x :: xs,y :: ys=>if x=y then lexLt xs ys else decide (x < y)
theorem lexLt_cons (x y:Int) (xs ys:List Int):lexLt (x :: xs) (y :: ys)=if x=y then lexLt xs ys else decide (x < y):=rfl
section
open PySem.SeqAt
open PySem.AutoSeq1 (wpAny_loadPart')
open PySem.MeetsSeq PySem.MeetsSeq2 PySem.MeetsSeq3
end
section
variable {prog:Program} {w:World} {A:Around} {E:Value->Shared->Prop} {s:Shared}
def sIx (n d:Nat):Option Int->Nat
 | none=>d
 | some v=>if v < 0 then (v+(n:Int)).toNat else min v.toNat n
theorem sIx_none (n d:Nat):sIx n d none=d:=rfl
theorem sIx_nat (n d k:Nat):sIx n d (some (k:Int))=min k n:=by
 show (if (k:Int) < 0 then ((k:Int)+(n:Int)).toNat else min (k:Int).toNat n)=min k n;rw [if_neg (by omega),Int.toNat_natCast]
theorem sIx_le (n d:Nat) (hd:d<=n) (o:Option Int):sIx n d o<=n:=by
 cases o with
 | none=>exact hd
 | some v=>
  show (if v < 0 then (v+(n:Int)).toNat else min v.toNat n)<=n;by_cases hv:v < 0
  ·rw [if_pos hv];omega
  ·rw [if_neg hv];exact Nat.min_le_right _ _
theorem clip_eq (v:Int) (n d:Nat):(if v < 0 then max (v+(n:Int)) 0 else min v (n:Int))=((sIx n d (some v):Nat):Int):=by
 show (if v < 0 then max (v+(n:Int)) 0 else min v (n:Int))=(((if v < 0 then (v+(n:Int)).toNat else min v.toNat n):Nat):Int);by_cases hv:v < 0
 ·simp only [if_pos hv];omega
 ·simp only [if_neg hv];omega
theorem Cu (lo hi:Option Int) (n:Nat):Builtin.Slice.sliceAdjust lo hi 1 (n:Int)=(((sIx n 0 lo:Nat):Int),((sIx n n hi:Nat):Int)):=by
 have h1:¬ ((1:Int) < 0):=by omega
 unfold Builtin.Slice.sliceAdjust;simp only [h1,if_false];refine Prod.ext ?_ ?_
 ·cases lo with
  | none=>rfl
  | some v=>exact clip_eq v n 0
 ·cases hi with
  | none=>rfl
  | some v=>exact clip_eq v n n
theorem Cv (i j:Nat):Builtin.Slice.slicePlaces (i:Int) (j:Int) 1=j - i:=by
 unfold Builtin.Slice.slicePlaces;have h1:(1:Int) > 0:=by omega
 simp only [h1,if_true,Int.ediv_one]
 split <;> omega
theorem vU {v:Value} {o:Option Int} {Q:Option Int->Shared->Prop} (p:IsPart v o) (h:Q o s):wpAny (model prog w) A (Builtin.Slice.slicePartIndex v) Q E s:=by
 cases p with
 | none=>exact slicePart_none h
 | int i t=>exact slicePart_int h
theorem lQ {sl:Addr} {vl vu:Value} {lo hi:Option Int} {n:Nat} {Q:Int×Int×Nat->Shared->Prop} (hs:s.heap.IsSliceOf sl vl vu .none) (pl:IsPart vl lo) (pu:IsPart vu hi)
  (h:Q (((sIx n 0 lo:Nat):Int),1,sIx n n hi - sIx n 0 lo) s):wpAny (model prog w) A (Builtin.Slice.sliceApplied (.ref sl) (pure (n:Int))) Q E s:=by
 obtain ⟨os,hos,hcs,hds⟩:=id hs;unfold Builtin.Slice.sliceApplied Builtin.Slice.sliceFields;refine YW (YW (Z8 hos hds (x:=vl) rfl (YW (Z8 hos hds (x:=vu) rfl (YW (Z8 hos hds (x:=.none) rfl (Y5 ?_)))))));refine YW (slicePart_none ?_);show wpAny _ _ (if ((1:Int) == 0)=true then _ else _) _ _ s;rw [if_neg (by decide)];refine YW (vU pl (YW (vU pu (YW (Y5 ?_)))));show wpAny _ _ (match Builtin.Slice.sliceAdjust lo hi 1 (n:Int) with | (lo,hi)=>pure (lo,(1:Int),Builtin.Slice.slicePlaces lo hi 1)) _ _ s;rw [Cu lo hi n];show wpAny _ _ (pure (((sIx n 0 lo:Nat):Int),(1:Int),Builtin.Slice.slicePlaces ((sIx n 0 lo:Nat):Int) ((sIx n n hi:Nat):Int) 1)) _ _ s;rw [Cv];exact Y5 h
theorem JM (xs:Array Value) (i k:Nat):((List.range k).filterMap fun (m:Nat)=>xs[((i:Int)+(m:Int)*1).toNat]?).toArray=((xs.toList.drop i).take k).toArray:=by
 have e:(fun (m:Nat)=>xs[((i:Int)+(m:Int)*1).toNat]?)=fun m=>xs[i+m]?:=by
  funext m;have:((i:Int)+(m:Int)*1).toNat=i+m:=by omega
  rw [this]
 rw [e];have:=pick_run xs i k;rw [List.filterMap_map] at this;have e2:((fun x=>xs[x]?) ∘ fun x=>i+x)=fun m=>xs[i+m]?:=rfl
 rw [e2] at this;rw [this]
theorem getItem_tuple_cut {t sl:Addr} {items:Array Value} {vl vu:Value} {lo hi:Option Int} {Q:Value->Shared->Prop} (ht:IsTup s.heap t items) (hs:s.heap.IsSliceOf sl vl vu .none) (pl:IsPart vl lo) (pu:IsPart vu hi)
  (hw:¬ (sIx items.size 0 lo=0/\sIx items.size items.size hi=items.size))
  (h:Q (.ref s.heap.objs.size) {s with heap:=s.heap.push {cls:=.type "tuple",data:=.seq ((items.toList.drop (sIx items.size 0 lo)).take (sIx items.size items.size hi - sIx items.size 0 lo)).toArray}})
  (hsz:items.size<=sizeLine):wpAny (model prog w) A (getItem (.ref t) (.ref sl)) Q E s:=by
 have htake:sizeOk (.seq ((items.toList.drop (sIx items.size 0 lo)).take (sIx items.size items.size hi - sIx items.size 0 lo)).toArray):=by
  show ((items.toList.drop (sIx items.size 0 lo)).take (sIx items.size items.size hi - sIx items.size 0 lo)).toArray.size<=sizeLine;rw [Zi,Aac,AaS,ZG];omega
 have hj:sIx items.size items.size hi<=items.size:=sIx_le _ _ (Y4 _) hi;obtain ⟨os,hos,hcs,hds⟩:=id hs;have hTs:s.TypeIs (.ref sl) "slice":=⟨os,hos,hcs⟩;unfold getItem;try with_reducible refine Z2 ?_
 first | refine YW (Y5 ?_) | skip
 refine YW (wpAny_sequenceKey ht.typeIs (by decide) ?_)
 refine YW (Aae (name:=Str.ofString "__getitem__") ht.typeIs AaQ
  (Aav AaQ ht.typeIs entry_tuple_getitem ?_ (args_tuple_getitem _ _)))
 show wpAny _ _ (Builtin.Tuple.tupleItemsOf (.ref t) >>=_) _ _ s;refine YW (tupleItemsOf_ ht ?_);refine YW (wpAny_typeOf hTs ?_);rw [if_pos (by decide)];refine YW (lQ hs pl pu ?_)
 have hno:¬ ((((sIx items.size 0 lo:Nat):Int) == 0 && (1:Int) == 1 && (sIx items.size items.size hi - sIx items.size 0 lo) == items.size)=true):=by
  intro q;rw [Zt,Zt] at q;have q1:((sIx items.size 0 lo:Nat):Int)=0:=eq_of_beq q.1.1;have q2:sIx items.size items.size hi - sIx items.size 0 lo=items.size:=eq_of_beq q.2;exact hw ⟨by omega,by omega⟩
 show wpAny _ _ (if (((sIx items.size 0 lo:Nat):Int) == 0 && (1:Int) == 1 && (sIx items.size items.size hi - sIx items.size 0 lo) == items.size)=true then _ else _) _ _ s;rw [if_neg hno,JM]
 first
  | exact YW (m:=Builtin.Tuple.tupleExact _) (Aaq (Y5 ⟨_,rfl,Y5 h⟩) htake)
  | exact YW (m:=Builtin.Tuple.tupleExact _) (Aaq (YW (Y5 (Y5 ⟨_,rfl,Y5 h⟩))) htake)
  | exact YW (YW (m:=Builtin.Tuple.tupleExact _) (Aaq (Y5 (Y5 ⟨_,rfl,Y5 h⟩)) htake))
  | exact YW (YW (m:=Builtin.Tuple.tupleExact _) (Aaq (Y5 ⟨_,rfl,Y5 h⟩) htake))
end
end HT
namespace L2
open PySem PySem.Spec PyProof.Rows
abbrev TO:=St->Hp->(Option Int->Hp->Prop)->Prop
def PO (X:Cx) (e:Option Expr) (t:TO):Prop:=
 ∀ (pins:List (Addr×Obj)) (s:Shared) (U:St) (H:Hp) (Q:Option Int->Hp->Prop),Inv X pins U H s->t U H Q->
  wpAny (model X.prog X.w) X.A (evalPart e X.env) (fun u s'=>∃ o H',Inv X pins U H' s'/\IsPart u o/\Q o H') X.xe s
def yM:TO:=fun _ H Q=>Q none H
def JN (t:TE):TO:=fun U H Q=>t U H fun x H1=>∃ i,x= .int i/\Q (some i) H1
theorem intsAre_of {ns:List Int}:∀ {us:List Value},Vals (ns.map V.int) us->IntsAre us ns:=by
 induction ns with
 | nil=>intro us r;rw [List.map_nil] at r;cases r;exact .nil
 | cons n ns ih=>
  intro us r;rw [Z3] at r;cases r with
  | cons r1 r2=>
   obtain ⟨t,e⟩:=r1;subst e;exact .cons n t (ih r2)
section
variable {X:Cx} {e:Expr} {te:TE} {lo hi:Option Expr} {tl th:TO} {pos p2:Pos}
theorem Pa:PO X none yM:=by
 intro pins s U H Q I h;rw [evalPart_none];exact Y5 ⟨none,H,I,.none,h⟩
theorem Pb (h:PE X e te):PO X (some e) (JN te):=by
 intro pins s U H Q I hw;rw [evalPart_some];refine eQ (h pins s U H _ I hw) fun u s1 qq0=>?_
 obtain ⟨x,H1,I1,r1,q1⟩:=qq0;obtain ⟨i,rfl,q⟩:=q1;obtain ⟨t,rfl⟩:=r1;exact ⟨some i,H1,I1,.int i t,q⟩
def SlR (X:Cx) (r:V->Option Int->Option Int->Hp->VK->Prop):Prop:=
 ∀ (pins:List (Addr×Obj)) (s:Shared) (U:St) (H:Hp) (x:V) (v vl vu:Value) (lo hi:Option Int) (sl:Addr) (Q:VK),Inv X pins U H s->RelV x v->s.heap.IsSliceOf sl vl vu .none->IsPart vl lo->IsPart vu hi->r x lo hi H Q->
  ∃ T id,typeLookup (.type T) "__getitem__"=pure (some (.builtin id))/\s.TypeIs v T/\wpAny (model X.prog X.w) X.A (getItem v (.ref sl)) (EP X pins U Q) X.xe s
theorem SlR.or {r r':V->Option Int->Option Int->Hp->VK->Prop} (h:SlR X r) (h':SlR X r'):SlR X (fun x lo hi H Q=>r x lo hi H Q\/r' x lo hi H Q):=by
 intro pins s U H x v vl vu lo hi sl Q I rx hs pl pu q;rcases q with q | q
 ·exact h pins s U H x v vl vu lo hi sl Q I rx hs pl pu q
 ·exact h' pins s U H x v vl vu lo hi sl Q I rx hs pl pu q
def tSl (r:V->Option Int->Option Int->Hp->VK->Prop) (te:TE) (tl th:TO):TE:=fun U H Q=>te U H fun x H1=>tl U H1 fun l H2=>th U H2 fun u H3=>r x l u H3 Q
theorem JP {r:V->Option Int->Option Int->Hp->VK->Prop} (hr:SlR X r) (he:PE X e te) (hl:PO X lo tl) (hu:PO X hi th):PE X (.Subscript e (.Slice lo hi none p2) pos) (tSl r te tl th):=by
 intro pins s U H Q I h;refine Subscript_ (eQ (he pins s U H _ I h) fun v s1 qq0=>?_);obtain ⟨x,H1,I1,r1,q1⟩:=qq0;refine wpAny_Slice (eQ (hl pins s1 U H1 _ I1 q1) fun vl s2 ⟨l,H2,I2,pl,q2⟩=>eQ (hu pins s2 U H2 _ I2 q2) fun vu s3 qq0=>?_);obtain ⟨u,H3,I3,pu,q3⟩:=qq0;rw [evalPart_none];refine Y5 ?_;have I4:Inv X pins U H3 {s3 with heap:=s3.heap.push {cls:=.type "slice",data:=.fields #[vl,vu,.none]}}:=I3.kept (t':=s3.toks) fun b ob q=>YZ _ q
 obtain ⟨T,id,hT,ht,hg⟩:=hr pins {s3 with heap:=s3.heap.push {cls:=.type "slice",data:=.fields #[vl,vu,.none]}} U H3 x v vl vu l u s3.heap.objs.size Q I4 r1 (Heap.IsSliceOf.new ..) pl pu q3;show wpAny (model X.prog X.w) X.A (subscriptTail e (.Slice lo hi none p2) v (.ref s3.heap.objs.size)) (EP X pins U Q) X.xe {s3 with heap:=s3.heap.push {cls:=.type "slice",data:=.fields #[vl,vu,.none]}};exact tail_any (ops:=[.ref s3.heap.objs.size,v]) ht hT hg (by with_unfolding_all rfl)
def ql (xs:List V) (lo hi:Option Int):List V:=(xs.drop (HT.sIx xs.length 0 lo)).take (HT.sIx xs.length xs.length hi - HT.sIx xs.length 0 lo)
theorem uL (xs:List V) (lo hi:Option Int):(ql xs lo hi).length<=xs.length:=by
 unfold ql;rw [Aac,AaS];omega
def WM (K:W.Frag):V->Option Int->Option Int->Hp->VK->Prop:=fun x lo hi H Q=>∃ a xs,x= .ref a/\SqT K H a xs/\
 ¬ (HT.sIx xs.length 0 lo=0/\HT.sIx xs.length xs.length hi=xs.length)/\∀ p,H p=none->Q (.ref p) (upd H p (.tup (ql xs lo hi)))
theorem Ug:SlR X (WM X.K):=by
 intro pins s U H x v vl vu lo hi sl Q I rx hs pl pu h;obtain ⟨a,xs,rfl,hx,hw,q⟩:=h;cases rx;obtain ⟨its,r,ht,hz⟩:=I.tuple hx;have hlen:its.toArray.size=xs.length:=by rw [Zi];exact r.length.symm
 refine ⟨"tuple",_,PyProof.Rows.slot_tuple_getitem.lookup,ht.typeIs,?_⟩;refine HT.getItem_tuple_cut ht hs pl pu (by rw [hlen];exact hw) ?_ (by rw [hlen];exact hz);rw [hlen];refine ⟨.ref s.heap.objs.size,_,I.laid (t':=s.toks) (o:=.tup (ql xs lo hi)) (fun b ob q=>YZ _ q) (Y4 _) ?_,rfl,q _ (I.hok.fresh (Y4 _))⟩;exact ⟨ZP (uL xs lo hi) hz,_,(r.drop (HT.sIx xs.length 0 lo)).take (HT.sIx xs.length xs.length hi - HT.sIx xs.length 0 lo),IsTup.new _ _⟩
end
def Gx (n:Nat) (i:Int):Option Nat:=if 0<=i then (if i < n then some i.toNat else none) else if -(n:Int)<=i then some (i+n).toNat else none
def uX {α:Type} (xs:List α) (i:Int):Option α:=(Gx xs.length i).bind fun j=>xs[j]?
theorem Ej {n:Nat} {i:Int} {j:Nat} (h:Gx n i=some j):seqIndex? i n=some j/\j < n/\-(n:Int)<=i/\i < n:=by
 unfold Gx at h;by_cases h0:0<=i
 ·rw [if_pos h0] at h
  by_cases h1:i < n
  ·rw [if_pos h1] at h
   have e:i.toNat=j:=Zm h;exact ⟨by rw [seqIndex_of h0 h1,e],by omega,by omega,h1⟩
  ·rw [if_neg h1] at h;cases h
 ·rw [if_neg h0] at h
  by_cases h1: -(n:Int)<=i
  ·rw [if_pos h1] at h
   have e:(i+n).toNat=j:=Zm h;exact ⟨by rw [seqIndex_neg (by omega) h1,e],by omega,h1,by omega⟩
  ·rw [if_neg h1] at h;cases h
theorem yN {α:Type} {xs:List α} {i:Int} {v:α} (h:uX xs i=some v):∃ j,seqIndex? i xs.length=some j/\xs[j]?=some v/\j < xs.length/\-(xs.length:Int)<=i/\i < xs.length:=by
 unfold uX at h;cases e:Gx xs.length i with
 | none=>rw [e] at h;cases h
 | some j=>
  rw [e] at h;obtain ⟨h1,h2,h3,h4⟩:=Ej e;exact ⟨j,h1,h,h2,h3,h4⟩
theorem cG {α:Type} {xs:List α} {j:Nat} {v:α} (h:xs[j]?=some v):uX xs (j:Int)=some v:=by
 have hj:j < xs.length:=(Y0.mp h).1
 have e:Gx xs.length (j:Int)=some j:=by
  unfold Gx;rw [if_pos (by omega),if_pos (by omega)];simp
 unfold uX;rw [e];exact h
def Ek (b:Expr):Prop:=∀ o i,subscripted b false o i=operate [o,i] (getItem o i)
def IxR (X:Cx) (r:R2):Prop:=
 ∀ (value slice:Expr) (pins:List (Addr×Obj)) (s:Shared) (U:St) (H:Hp) (x y:V) (v u:Value) (Q:VK),Inv X pins U H s->RelV x v->RelV y u->r x y H Q->
  subscripted slice false v u=operate [v,u] (getItem v u)->wpAny (model X.prog X.w) X.A (subscriptTail value slice v u) (EP X pins U Q) X.xe s
def WN (X:Cx) (id:String) (r:V->List V->Hp->VK->Prop):Prop:=
 ∀ (pins:List (Addr×Obj)) (s:Shared) (U:St) (H:Hp) (x:V) (xs:List V) (v:Value) (us:List Value) (Q:VK),Inv X pins U H s->RelV x v->Vals xs us->r x xs H Q->
  wpAny (model X.prog X.w) X.A (call (.builtin id) (v :: us)) (EP X pins U Q) X.xe s
section
variable {X:Cx} {a b:Expr} {ta tb:TE} {pos:Pos}
theorem IxR.or {r r':R2} (h:IxR X r) (h':IxR X r'):IxR X (fun x y H Q=>r x y H Q\/r' x y H Q):=by
 intro value slice pins s U H x y v u Q I rx ry q hs;rcases q with q | q
 ·exact h value slice pins s U H x y v u Q I rx ry q hs
 ·exact h' value slice pins s U H x y v u Q I rx ry q hs
theorem WP {r:R2} (hr:IxR X r) (ha:PE X a ta) (hb:PE X b tb) (hs:Ek b):PE X (.Subscript a b pos) (Ob r ta tb):=by
 intro pins s U H Q I h;exact Subscript_ (TX ha hb I h fun v u s2 x y H2 I2 rx ry q=>hr a b pins s2 U H2 x y v u Q I2 rx ry q (hs _ _))
def WQ (K:W.Frag):R2:=fun x y H Q=>∃ p xs i v,x= .ref p/\y= .int i/\SqL K H p xs/\uX xs i=some v/\Q v H
def WR (K:W.Frag):R2:=fun x y H Q=>∃ p xs i v,x= .ref p/\y= .int i/\SqT K H p xs/\uX xs i=some v/\Q v H
def WT:R2:=fun x y H Q=>∃ z i c,x= .str z/\y= .int i/\z.length<=sizeLine/\uX z.cps.toList i=some c/\Q (.str ⟨#[c]⟩) H
theorem Pg:IxR X (WQ X.K):=by
 intro value slice pins s U H x y v u Q I rx ry h hs;obtain ⟨p,xs,i,z,rfl,rfl,hq,he,q⟩:=h;cases rx;obtain ⟨t,rfl⟩:=ry;obtain ⟨its,r,pl,hz⟩:=I.list hq;obtain ⟨j,h1,h2,h3,h4,h5⟩:=yN he;obtain ⟨w,ew,rw'⟩:=r.get h2;have hl:=r.length;have hn:=vQ;have fin:EP X pins U Q w s:=⟨z,H,I,rw',q⟩;by_cases h0:0<=i
 ·have hj:i.toNat=j:=by
   rw [seqIndex_of h0 h5] at h1;exact Zm h1
  exact item_listR pl.isList h0 (by omega) (by rw [hj];simpa using ew) fin hs
 ·have hj:(i+(its.toArray.size:Int)).toNat=j:=by
   rw [seqIndex_neg (by omega) h4] at h1;rw [Zi,← hl];exact Zm h1
  exact subscriptTail_builtinR (x:=w) pl.isList.typeIs slot_list_getitem.lookup
   (wpAny_getItem_list_neg (Q:=fun r s'=>r=w/\EP X pins U Q r s') pl.isList (by omega) (by rw [Zi] <;> omega) (by omega) (by rw [hj];simpa using ew) ⟨rfl,fin⟩) hs
theorem Uh:IxR X (WR X.K):=by
 intro value slice pins s U H x y v u Q I rx ry h hs;obtain ⟨p,xs,i,z,rfl,rfl,hq,he,q⟩:=h;cases rx;obtain ⟨t,rfl⟩:=ry;obtain ⟨its,r,pl,hz⟩:=I.tuple hq;obtain ⟨j,h1,h2,h3,h4,h5⟩:=yN he;obtain ⟨w,ew,rw'⟩:=r.get h2;have hl:=r.length;have hn:=vQ;have fin:EP X pins U Q w s:=⟨z,H,I,rw',q⟩
 exact subscriptTail_builtinR (x:=w) pl.typeIs slot_tuple_getitem.lookup
  (getItem_tuple (j:=j) (Q:=fun r s'=>r=w/\EP X pins U Q r s') pl (by omega) (by omega) (by rw [Zi,← hl];exact h1) (by simpa using ew) ⟨rfl,fin⟩) hs
theorem Ui:IxR X WT:=by
 intro value slice pins s U H x y v u Q I rx ry h hs;obtain ⟨z,i,c,rfl,rfl,hz,he,q⟩:=h;obtain ⟨t,rfl⟩:=rx;obtain ⟨t',rfl⟩:=ry;obtain ⟨j,h1,h2,h3,h4,h5⟩:=yN he;have hl:z.cps.toList.length=z.length:=by simp [Str.length]
 rw [hl] at h1 h4 h5;have hn:=vQ
 exact tail_any (typeIs_str s z t) slot_str_getitem.lookup (getItem_str (c:=c) (by
  have e1:decide (i < -(2 ^ 63:Int))=false:=Zd (by omega);have e2:decide (i>=2 ^ 63)=false:=Zd (by omega);rw [e1,e2,Bool.or_false]) (by rw [h1];simpa using h2) ⟨.str ⟨#[c]⟩,H,I.tok _,⟨_,rfl⟩,q⟩) hs
def Uj (K:W.Frag):R2:=fun x y H Q=>WQ K x y H Q\/WR K x y H Q\/WT x y H Q
theorem Uk:IxR X (Uj X.K):=Pg.or (Uh.or Ui)
theorem Cw (its:List Value) (n j:Nat) (u:Value):Obj.mapSeq (·.setIfInBounds j u) {cls:=.type "list",data:=.seq its.toArray n}={cls:=.type "list",data:=.seq (its.set j u).toArray n}:=by
 simp [Obj.mapSeq]
theorem Inv.lst {pins:List (Addr×Obj)} {U:St} {H:Hp} {s:Shared} {p:Addr} {xs:List V} (I:Inv X pins U H s) (h:H p=some (.lst xs)):
  ∃ (its:List Value) (n:Nat),Vals xs its/\s.heap.get? p=some {cls:=.type "list",data:=.seq its.toArray n}/\xs.length<=sizeLine:=by
 obtain ⟨z,its,n,r,e⟩:=I.hok p _ h;exact ⟨its,n,r,e,z⟩
theorem Inv.lstUpd {pins:List (Addr×Obj)} {U:St} {H:Hp} {s:Shared} {p:Addr} {xs ys:List V} {its its':List Value} {n n':Nat} {f:Obj->Obj} (I:Inv X pins U H s) (h:H p=some (.lst xs))
  (ho:s.heap.get? p=some {cls:=.type "list",data:=.seq its.toArray n}) (hf:f {cls:=.type "list",data:=.seq its.toArray n}={cls:=.type "list",data:=.seq its'.toArray n'}) (r:Vals ys its') (hz:ys.length<=sizeLine) (t:Nat):
  Inv X pins U (upd H p (.lst ys)) {s with heap:=s.heap.update p f,toks:=t}:=by
 have e:(s.heap.update p f).get? p=some {cls:=.type "list",data:=.seq its'.toArray n'}:=by
  rw [gV f ho (by rw [hf] <;> rfl),hf]
 refine I.write (x:=p) (e:=p) (by rw [h];trivial) (.inl rfl) (fun b u hb q=>(ZV _ _ (Ne.symm hb)).trans q) ⟨_,e⟩ ?_;exact ⟨hz,its',n',r,e⟩
def uM:V->V->V->Hp->(Hp->Prop)->Prop:=fun o i v H Q=>∃ p xs k j,o= .ref p/\i= .int k/\H p=some (.lst xs)/\Gx xs.length k=some j/\Q (upd H p (.lst (xs.set j v)))
theorem set_list:Ou X uM:=by
 intro pins s U H o i v ov iv u Q I ro ri rv h;obtain ⟨p,xs,k,j,rfl,rfl,hp,hj,q⟩:=h;cases ro;obtain ⟨t,rfl⟩:=ri;obtain ⟨its,n,r,ho,hz⟩:=I.lst hp;obtain ⟨h1,h2,h3,h4⟩:=Ej hj;have hl:=r.length;have hn:=vQ
 have I':Inv X pins U (upd H p (.lst (xs.set j v))) {s with heap:=s.heap.update p (Obj.mapSeq (·.setIfInBounds j u))}:=
  I.lstUpd hp ho (Cw its n j u) (r.set rv j) (by rw [List.length_set];exact hz) s.toks
 by_cases h0:0<=k
 ·have hk:k.toNat=j:=by
   rw [seqIndex_of h0 h4] at h1;exact Zm h1
  exact PySem.W.ki_setAt ho h0 (by omega) (by rw [Zi,← hl];exact h4) (by rw [hk];exact ⟨_,I',q⟩)
 ·have hk:(k+(its.toArray.size:Int)).toNat=j:=by
   rw [seqIndex_neg (by omega) h3] at h1;rw [Zi,← hl];exact Zm h1
  exact PySem.W.ki_setBack ho (by omega) (by rw [Zi,← hl];exact h3) (by omega) (by rw [hk];exact ⟨_,I',q⟩)
theorem yO (lo hi:Option Int) (n:Nat):(sliceBounds lo hi none n).1=((HT.sIx n 0 lo:Nat):Int)/\(sliceBounds lo hi none n).2.1=((HT.sIx n n hi:Nat):Int)/\(sliceBounds lo hi none n).2.2=1:=by
 refine ⟨?_,?_,rfl⟩
 ·cases lo with
  | none=>simp [sliceBounds,HT.sIx]
  | some i=>
   simp only [sliceBounds,HT.sIx,Option.getD_none,show (1:Int) > 0 by decide,if_true];by_cases h:i < 0
   ·simp only [h,if_true] <;> omega
   ·simp only [h,if_false] <;> omega
 ·cases hi with
  | none=>simp [sliceBounds,HT.sIx]
  | some i=>
   simp only [sliceBounds,HT.sIx,Option.getD_none,show (1:Int) > 0 by decide,if_true];by_cases h:i < 0
   ·simp only [h,if_true] <;> omega
   ·simp only [h,if_false] <;> omega
theorem xu (its:List Value) (lo hi:Option Int):slicePick its.toArray lo hi none=((its.drop (HT.sIx its.length 0 lo)).take (HT.sIx its.length its.length hi - HT.sIx its.length 0 lo)).toArray:=by
 obtain ⟨h1,h2,h3⟩:=yO lo hi its.toArray.size;unfold slicePick;rw [h1,h2,h3];simp only [sliceRange_one,pick_run,Zi] <;> rfl
def WW (K:W.Frag):V->Option Int->Option Int->Hp->VK->Prop:=fun x lo hi H Q=>∃ a xs,x= .ref a/\SqL K H a xs/\∀ p,H p=none->Q (.ref p) (upd H p (.lst (ql xs lo hi)))
theorem Ph:SlR X (WW X.K):=by
 intro pins s U H x v vl vu lo hi sl Q I rx hs pl pu h;obtain ⟨a,xs,rfl,hx,q⟩:=h;cases rx;obtain ⟨its,r,ht,hz⟩:=I.list hx;have hlen:=r.length;refine ⟨"list",_,slot_list_getitem.lookup,ht.isList.typeIs,?_⟩;refine wpAny_getItem_list_slice ht.isList hs pl pu .none (by simp) ?_ (by rw [Zi] <;> omega);rw [xu,← hlen];refine ⟨.ref s.heap.objs.size,_,I.laid (t':=s.toks) (o:=.lst (ql xs lo hi)) (fun b ob q=>YZ _ q) (Y4 _) ?_,rfl,q _ (I.hok.fresh (Y4 _))⟩;exact ⟨ZP (uL xs lo hi) hz,_,0,(r.drop (HT.sIx xs.length 0 lo)).take (HT.sIx xs.length xs.length hi - HT.sIx xs.length 0 lo),Y8 _ rfl⟩
def jO:V->Bool
 | .non=>true
 | .bl _=>true
 | .int _=>true
 | .str _=>true
 | _=>false
def Cy:V->V->Bool
 | .non,.non=>true
 | .bl a,.bl b=>a == b
 | .bl a,.int b=>(if a then 1 else 0) == b
 | .int a,.bl b=>a == (if b then 1 else 0)
 | .int a,.int b=>a == b
 | .str a,.str b=>a == b
 | _,_=>false
theorem vV {A:Around} {s:Shared} {y x:V} {u v:Value} (ry:RelV y u) (rx:RelV x v) (fy:jO y=true) (fx:jO x=true):SeqAt.EqAt A s u v (Cy y x):=by
 cases y with
 | non=>
  cases ry;cases x with
  | non=>cases rx;exact SeqAt.EqAt.same _
  | bl b=>cases rx;exact SeqAt.EqAt.none_bool b
  | int b=>obtain ⟨t,rfl⟩:=rx;exact SeqAt.EqAt.none_int b t
  | str b=>obtain ⟨t,rfl⟩:=rx;exact SeqAt.EqAt.none_str b t
  | _=>exact absurd (show false=true from fx) Ze
 | bl a=>
  cases ry;cases x with
  | non=>cases rx;exact SeqAt.EqAt.bool_none a
  | bl b=>cases rx;exact SeqAt.EqAt.bool_bool a b
  | int b=>obtain ⟨t,rfl⟩:=rx;exact SeqAt.EqAt.bool_int a b t
  | str b=>obtain ⟨t,rfl⟩:=rx;exact SeqAt.EqAt.bool_str a b t
  | _=>exact absurd (show false=true from fx) Ze
 | int a=>
  obtain ⟨t',rfl⟩:=ry;cases x with
  | non=>cases rx;exact SeqAt.EqAt.int_none a t'
  | bl b=>cases rx;exact SeqAt.EqAt.int_bool a t' b
  | int b=>obtain ⟨t,rfl⟩:=rx;exact SeqAt.EqAt.int_int a t' b t
  | str b=>obtain ⟨t,rfl⟩:=rx;exact SeqAt.EqAt.int_str a t' b t
  | _=>exact absurd (show false=true from fx) Ze
 | str a=>
  obtain ⟨t',rfl⟩:=ry;cases x with
  | non=>cases rx;exact SeqAt.EqAt.str_none a t'
  | bl b=>cases rx;exact SeqAt.EqAt.str_bool a t' b
  | int b=>obtain ⟨t,rfl⟩:=rx;exact SeqAt.EqAt.str_int a t' b t
  | str b=>obtain ⟨t,rfl⟩:=rx;exact SeqAt.EqAt.str_str a t' b t
  | _=>exact absurd (show false=true from fx) Ze
 | _=>exact absurd (show false=true from fy) Ze
def Pj (x:V) (u:Value):Bool:=match u with
 | .none=>Cy .non x
 | .bool b=>Cy (.bl b) x
 | .int i _=>Cy (.int i) x
 | .str z _=>Cy (.str z) x
 | _=>false
theorem JQ {x y:V} {u:Value} (r:RelV y u) (f:jO y=true):Pj x u=Cy y x:=by
 cases y with
 | non=>cases r;rfl
 | bl b=>cases r;rfl
 | int i=>obtain ⟨t,rfl⟩:=r;rfl
 | str z=>obtain ⟨t,rfl⟩:=r;rfl
 | _=>exact absurd (show false=true from f) Ze
theorem yP {x:V}:∀ {xs:List V} {us:List Value},Vals xs us->xs.all jO=true->us.any (Pj x)=xs.any fun y=>Cy y x
 | _,_,.nil,_=>rfl
 | y :: xs,u :: us,.cons r t,f=>by
  rw [Aaf,Zt] at f;rw [List.any_cons,List.any_cons,JQ r f.1,yP t f.2]
theorem vW {A:Around} {s:Shared} {x:V} {v:Value} (rx:RelV x v) (fx:jO x=true):∀ {xs:List V} {us:List Value},Vals xs us->xs.all jO=true->∀ u∈us,SeqAt.EqAt A s u v (Pj x u)
 | _,_,.nil,_=>fun u hu=>by cases hu
 | y :: xs,u :: us,.cons r t,f=>fun u' hu=>by
  rw [Aaf,Zt] at f;rcases Zb.mp hu with rfl | hu
  ·rw [JQ r f.1];exact vV r rx f.1 fx
  ·exact vW rx fx t f.2 u' hu
def inV (x:V) (xs:List V):Bool:=xs.any fun y=>Cy y x
def rIn (K:W.Frag) (neg:Bool):R2:=fun x y H Q=>∃ p xs,y= .ref p/\(SqL K H p xs\/SqT K H p xs)/\jO x=true/\xs.all jO=true/\Q (.bl (if neg then !inV x xs else inV x xs)) H
theorem Gy:OpR X (compareOp .In) (rIn X.K false):=by
 intro pins s U H x y v u Q I rx ry h;obtain ⟨p,xs,rfl,hq,fx,fs,q⟩:=h;cases ry;rcases hq with hq | hq
 ·obtain ⟨its,r,pl,hz⟩:=I.list hq
  refine SeqAt.in_listAt (Pj x) pl.isList (fun w hw=>vW rx fx r fs w (by simpa using hw)) ⟨.bl _,H,I,rfl,?_⟩;rw [show its.toArray.any (Pj x)=its.any (Pj x) by simp,yP r fs];exact q
 ·obtain ⟨its,r,pl,hz⟩:=I.tuple hq
  refine SeqAt.in_tupleAt (Pj x) pl (fun w hw=>vW rx fx r fs w (by simpa using hw)) ⟨.bl _,H,I,rfl,?_⟩;rw [show its.toArray.any (Pj x)=its.any (Pj x) by simp,yP r fs];exact q
theorem CallR.or {f:Value} {r r':List V->Hp->VK->Prop} (h:CallR X f r) (h':CallR X f r'):CallR X f (fun xs H Q=>r xs H Q\/r' xs H Q):=by
 intro pins s U H xs us Q I rs q;rcases q with q | q
 ·exact h pins s U H xs us Q I rs q
 ·exact h' pins s U H xs us Q I rs q
theorem yQ:CallR X (.type "list") (fun xs H Q=>∃ p ys,xs=[.ref p]/\(SqL X.K H p ys\/SqT X.K H p ys)/\∀ l,H l=none->Q (.ref l) (upd H l (.lst ys))):=by
 intro pins s U H xs us Q I r h;obtain ⟨p,ys,rfl,hq,q⟩:=h;obtain ⟨u,rfl,rx⟩:=vals1 r;cases rx
 have fin:∀ (its:List Value),Vals ys its->ys.length<=sizeLine->∀ (h':Heap) (c':Nat),(∀ b o',s.heap.get? b=some o'->h'.get? b=some o')->
   h'.get? s.heap.objs.size=some {cls:=.type "list",dict:=none,data:=.seq its.toArray c',slots:=#[]}->EP X pins U Q (.ref s.heap.objs.size) {s with heap:=h'}:=fun its r' hz h' c' kp e=>
  ⟨.ref s.heap.objs.size,_,I.laid (t':=s.toks) kp (Y4 _) (show ObjOk X.prog X.w _ h' _ (.lst ys) from ⟨hz,its,c',r',e⟩),rfl,q _ (I.hok.fresh (Y4 _))⟩
 rcases hq with hq | hq
 ·obtain ⟨its,r',pl,hz⟩:=I.list hq
  have hlen:=r'.length;obtain ⟨o,ho,hc,n,hd⟩:=pl.isList;exact call_list_seq p (.inl rfl) ho hc hd (fun h' c' kp e=>fin its r' hz h' c' kp e) (by simp only [Zi] <;> omega)
 ·obtain ⟨its,r',pl,hz⟩:=I.tuple hq
  have hlen:=r'.length;obtain ⟨o,ho,hc,n,hd⟩:=pl;exact call_list_seq p (.inr rfl) ho hc hd (fun h' c' kp e=>fin its r' hz h' c' kp e) (by simp only [Zi] <;> omega)
def tyV (K:W.Frag) (T:String) (x:V) (H:Hp):Prop:=match x with
 | .str _=>T="str"
 | .int _=>T="int"
 | .ref p=>(T="list"/\∃ xs,SqL K H p xs)\/(T="tuple"/\∃ o,K.lookup p=some o/\o.cls= .type "tuple"/\o.dict=none)\/
   (T="dict"/\((∃ kvs,H p=some (.dK kvs))\/∃ kvs,H p=some (.dT kvs)))\/(T="set"/\∃ S n,H p=some (.set S n))
 | _=>False
theorem Ul {pins:List (Addr×Obj)} {U:St} {H:Hp} {s:Shared} {T:String} {x:V} {v:Value} (I:Inv X pins U H s) (r:RelV x v) (ty:tyV X.K T x H):
  s.TypeIs v T/\∀ a,v= .ref a->∃ ob,s.heap.get? a=some ob/\ob.dict=none:=by
 cases x with
 | str z=>
  obtain ⟨t,rfl⟩:=r;cases (show T="str" from ty);exact ⟨typeIs_str s z t,fun _ e=>nomatch e⟩
 | int i=>
  obtain ⟨t,rfl⟩:=r;cases (show T="int" from ty);exact ⟨typeIs_int s i t,fun _ e=>nomatch e⟩
 | ref p=>
  cases r;rcases ty with ⟨rfl,xs,hq⟩ | ⟨rfl,o,hk,hc,hd⟩ | ⟨rfl,hk⟩ | ⟨rfl,S,n,hk⟩
  ·obtain ⟨its,_,pl,_⟩:=I.list hq
   refine ⟨pl.isList.typeIs,fun a e=>?_⟩;cases e;obtain ⟨o,n,e,c,hd,_⟩:=pl;exact ⟨o,e,hd⟩
  ·refine ⟨⟨o,I.kIn p o hk,hc⟩,fun a e=>?_⟩
   cases e;exact ⟨o,I.kIn _ o hk,hd⟩
  ·have z:∃ o,s.heap.get? p=some o/\o.ExactDict:=by
    rcases hk with ⟨kvs,hk⟩ | ⟨kvs,hk⟩
    ·obtain ⟨_,_,_,_,o,_,_,e,ex,_⟩:=I.hok p _ hk
     exact ⟨o,e,ex⟩
    ·obtain ⟨_,_,_,_,o,_,_,e,ex,_⟩:=I.hok p _ hk
     exact ⟨o,e,ex⟩
   obtain ⟨o,e,ex⟩:=z;refine ⟨⟨o,e,ex.1⟩,fun a e2=>?_⟩;cases e2;exact ⟨o,e,ex.2.1⟩
  ·obtain ⟨o,_,_,_,e,ex,_⟩:=I.hok p _ hk
   refine ⟨⟨o,e,ex.1⟩,fun a e2=>?_⟩;cases e2;exact ⟨o,e,ex.2.1⟩
 | _=>exact False.elim ty
def WX (K:W.Frag) (T:String) (r:V->List V->Hp->VK->Prop) (to:TE) (t:TA):TE:=fun U H Q=>to U H fun x H1=>tyV K T x H1/\t U H1 fun xs H2=>r x xs H2 Q
variable {o e:Expr} {es:List Expr} {to:TE} {t:TA} {name:Str} {apos cpos:Pos} {T id:String} {r:V->List V->Hp->VK->Prop}
theorem WY (pa:PlainAttrs T) (slot:Slot T name id) (hty:typeOf (.builtin id)=pure (.type "method_descriptor")) (hm:WN X id r) (ho:PE X o to) (ha:PA X (e :: es) t)
  (hbase:autoParam (attributeBase o name X.env (eval o X.env)=eval o X.env) L2.auto4._auto_1)
  (hfew:((backTo cpos (starEach (e :: es) X.env)).all (fun x=>!x.1) && (backToKw cpos (keywordEach [] X.env)).all (fun x=>x.1.isSome)
   && decide ((e :: es).length+([]:List Keyword).length+(if ([]:List Keyword).isEmpty then 0 else 1) < 30))=true:=by rfl)
  (hline:autoParam ((apos.endLine == cpos.line)=true) L2.auto4._auto_1) (hs:autoParam (starEach (e :: es) X.env=(false,eval e X.env) :: starEach es X.env) L2.auto4._auto_1) (hplain:autoParam ((backTo cpos (starEach es X.env)).any (·.1)=false) L2.auto4._auto_1):
  PE X (.Call (.Attribute o name apos) (e :: es) [] cpos) (WX X.K T r to t):=by
 intro pins s U H Q I h;refine wpAny_Call_method_late hbase hfew hline rfl (eQ (ho pins s U H _ I h) fun v s1 qq0=>?_);obtain ⟨x,H1,I1,r1,ty,q1⟩:=qq0;obtain ⟨h1,h2⟩:=Ul I1 r1 ty;refine ⟨T,id,pa,slot,hty,h1,h2,?_⟩;have hA:=ha cpos pins s1 U H1 _ I1 q1;rw [hs] at hA ⊢;refine Calls.callWith_builtin (by show (false || (backTo cpos (starEach es X.env)).any (·.1))=false;rw [hplain] <;> rfl) (Calls.evalArgs_plain ?_);exact eQ hA fun us s2 ⟨vs,H2,I2,r2,q2⟩=>hm pins s2 U H2 x vs v us Q I2 r1 r2 q2
end
def MtM (X:Cx) (id:String) (r:V->List V->Hp->VK->Prop):Prop:=
 ∀ (pins:List (Addr×Obj)) (s:Shared) (U:St) (H:Hp) (x:V) (xs:List V) (v:Value) (us:List Value) (Q:VK),Inv X pins U H s->RelV x v->Vals xs us->r x xs H Q->
  wpAny (model X.prog X.w) X.A (call (.builtin id) (v :: us)) (EP X pins U Q) X.xe s
theorem Vals.one:∀ {x:V} {us:List Value},Vals [x] us->∃ u,us=[u]/\RelV x u
 | _,_,.cons r .nil=>⟨_,rfl,r⟩
theorem Vals.reverse {xs:List V} {us:List Value} (h:Vals xs us):Vals xs.reverse us.reverse:=by
 induction h with
 | nil=>exact .nil
 | cons r t ih=>rw [List.reverse_cons,List.reverse_cons];exact Vals.append ih (.cons r .nil)
theorem Vals.rep {xs:List V} {us:List Value} (h:Vals xs us):∀ k:Nat,Vals (List.replicate k xs).flatten (List.replicate k us).flatten
 | 0=>.nil
 | k+1=>by
  rw [AaP,AaP,AaL,AaL];exact Vals.append h (Vals.rep h k)
theorem foldl_rep (its:List Value):∀ (k:Nat) (acc:List Value),
  List.foldl (fun x1 x2=>x1 ++ x2) acc.toArray (List.replicate k its.toArray)=(acc ++ (List.replicate k its).flatten).toArray
 | 0,acc=>by simp
 | k+1,acc=>by
  have e:acc.toArray ++ its.toArray=(acc ++ its).toArray:=by simp
  have e2:(acc ++ its) ++ (List.replicate k its).flatten=acc ++ (List.replicate (k+1) its).flatten:=by
   rw [AaP,AaL,ZM]
  rw [← e2,← foldl_rep its k (acc ++ its),← e,AaP,List.foldl_cons]
section
variable {X:Cx} {pins:List (Addr×Obj)} {U:St} {H:Hp} {s:Shared} {l b:Addr} {xs ys zs:List V}
theorem Inv.lset {its its':List Value} {n:Nat} {f:Array Value->Array Value} {t':Nat} (I:Inv X pins U H s) (hH:H l=some (.lst xs))
  (e:s.heap.get? l=some {cls:=.type "list",data:=.seq its.toArray n}) (hf:f its.toArray=its'.toArray) (hv:Vals ys its') (hz:ys.length<=sizeLine):
  Inv X pins U (upd H l (.lst ys)) {s with heap:=s.heap.update l (Obj.mapSeq f),toks:=t'}:=by
 have q:=PySem.IsL.update e f;rw [hf] at q;refine I.write (x:=l) (e:=l) (by rw [hH];exact trivial) (.inl rfl) (fun b' u hb hu=>(ZV s.heap (Obj.mapSeq f) (Ne.symm hb)).trans hu) ⟨_,q⟩ ?_;exact ⟨hz,its',_,hv,q⟩
theorem Inv.lnew {its:List Value} {t':Nat} (I:Inv X pins U H s) (hv:Vals ys its) (hz:ys.length<=sizeLine):
  Inv X pins U (upd H s.heap.objs.size (.lst ys)) {s with heap:=s.heap.push {cls:=.type "list",data:=.seq its.toArray},toks:=t'}:=
 I.laid (fun _ _ q=>YZ _ q) (Y4 _) ⟨hz,its,0,hv,Y8 _ rfl⟩
theorem Inv.fresh (I:Inv X pins U H s):H s.heap.objs.size=none:=I.hok.fresh (Y4 _)
theorem Inv.lstM (I:Inv X pins U H s) (hH:H l=some (.lst xs)):xs.length<=sizeLine/\∃ (its:List Value) (n:Nat),Vals xs its/\xs.length=its.length/\s.heap.get? l=some {cls:=.type "list",data:=.seq its.toArray n}:=by
 obtain ⟨z,its,n,r,e⟩:=I.hok l _ hH;exact ⟨z,its,n,r,r.length,e⟩
theorem JR {n:Nat} (h:n<=sizeLine):Builtin.List.listTooLong n=false:=by
 unfold Builtin.List.listTooLong;exact Zd (by omega)
end
section
variable {X:Cx}
def El:V->List V->Hp->VK->Prop:=fun x vs H Q=>∃ l xs y,x= .ref l/\vs=[y]/\H l=some (.lst xs)/\xs.length < sizeLine/\Q .non (upd H l (.lst (xs ++ [y])))
theorem bB:MtM X "list.append" El:=by
 intro pins s U H x vs v us Q I rx rv h;obtain ⟨l,xs,y,rfl,rfl,hH,hz,q⟩:=h;cases rx;obtain ⟨u,rfl,ru⟩:=rv.one;obtain ⟨z,its,n,r,hl,e⟩:=I.lstM hH;refine call_meets F.slot_list_append ⟨_,e,rfl⟩ F.entry_list_append (F.args_list_append_2 _ _) (PySem.list_append l its.toArray n u (by rw [Zi];omega)) ⟨e,?_⟩;refine ⟨.non,_,I.lset (its':=its ++ [u]) hH e (by simp) (r.append (.cons ru .nil)) ?_,rfl,q⟩;rw [Zv,List.length_singleton];omega
def W0:R2:=fun x y H Q=>∃ l b xs zs,x= .ref l/\y= .ref b/\H l=some (.lst xs)/\H b=some (.lst zs)/\xs.length+zs.length<=sizeLine/\∀ p,H p=none->Q (.ref p) (upd H p (.lst (xs ++ zs)))
theorem Um:OpR X (binaryOp .Add) W0:=by
 intro pins s U H x y v u Q I rx ry h;obtain ⟨l,b,xs,zs,rfl,rfl,hH,hB,hz,q⟩:=h;cases rx;cases ry;obtain ⟨z,its,n,r,hl,e⟩:=I.lstM hH;obtain ⟨z2,its2,n2,r2,hl2,e2⟩:=I.lstM hB;refine PySem.P.add_list e e2 ?_ (by rw [Zi,Zi];omega);have ea:its.toArray ++ its2.toArray=(its ++ its2).toArray:=by simp
 rw [ea];exact ⟨.ref _,_,I.lnew (t':=s.toks) (r.append r2) (by rw [Zv];omega),rfl,q _ I.fresh⟩
def W2:R2:=fun x y H Q=>∃ l k xs,x= .ref l/\y= .int k/\H l=some (.lst xs)/\-(2 ^ 63)<=k/\k < 2 ^ 63/\xs.length*k.toNat<=sizeLine/\
 ∀ p,H p=none->Q (.ref p) (upd H p (.lst (List.replicate k.toNat xs).flatten))
theorem len_rep {α:Type} (xs:List α) (k:Nat):(List.replicate k xs).flatten.length=k*xs.length:=by
 induction k with
 | zero=>simp
 | succ k ih=>rw [AaP,AaL,Zv,ih,Nat.succ_mul,Nat.add_comm]
theorem Uo:OpR X (binaryOp .Mult) W2:=by
 intro pins s U H x y v u Q I rx ry h;obtain ⟨l,k,xs,rfl,rfl,hH,h1,h2,hz,q⟩:=h;cases rx;obtain ⟨t,rfl⟩:=ry;obtain ⟨z,its,n,r,hl,e⟩:=I.lstM hH;have hlen:its.toArray.size*k.toNat<=sizeLine:=by rw [Zi,← hl];exact hz
 have hcap:¬ its.toArray.size*k.toNat > (2 ^ 63 - 1) / 8:=by
  have:(sizeLine:Nat)<=(2 ^ 63 - 1) / 8:=by decide
  omega
 have hfit:¬ (!Builtin.List.listFitsIndex k)=true:=by
  rw [fitsIndex_both h1 h2];exact Ze
 have hlong:¬ Builtin.List.listTooLong (its.toArray.size*k.toNat)=true:=by
  rw [JR hlen];exact Ze
 have hnew:List.foldl (fun x1 x2=>x1 ++ x2) #[] (List.replicate (if its.toArray.isEmpty=true then 0 else k.toNat) its.toArray)=(List.replicate k.toNat its).flatten.toArray:=by
  have f0:∀ m:Nat,List.foldl (fun x1 x2=>x1 ++ x2) #[] (List.replicate m its.toArray)=(List.replicate m its).flatten.toArray:=fun m=>by
   have:=foldl_rep its m [];rw [List.nil_append] at this;exact this
  rw [f0];cases its with
  | nil=>simp
  | cons a r'=>rw [if_neg (by simp)]
 refine wpAny_binaryOp_repeat_ref (T:="list") (U:="int") (by decide) ⟨_,e,rfl⟩ (fun s'=>typeIs_int s' k t) noFill_list_mul F.fills_int_mul F.slot_int_rmul repeat_list F.slot_int_index.lookup
  (call_meets F.slot_int_rmul (typeIs_int s k t) F.entry_int_rmul (F.args_int_rmul_2 _ _) (int___rmul___int_list k t l its.toArray n)
   ⟨e,rfl,⟨_,e,rfl⟩,call_meets F.slot_list_mul ⟨_,e,rfl⟩ F.entry_list_mul (F.args_list_mul_2 _ _) (AutoListH.list___mul___list_int_3 l its.toArray n k t hfit hcap hlong) ⟨e,?_⟩⟩)
 rw [hnew];exact ⟨.ref _,_,I.lnew (t':=s.toks) (r.rep k.toNat) (by rw [len_rep,Nat.mul_comm];exact hz),rfl,q _ I.fresh⟩
end
end L2
namespace Att
open PySem PySem.W PySem.Calls PyProof.Rows
theorem uY {P:Params} {h:Heap}:∀ (ns:List Int) (vs:List Value),WellAll P h vs (ns.map WData.int)->IntsAre vs ns:=by
 intro ns
 induction ns with
 | nil=>
  intro vs w;rw [List.map_nil] at w;cases w;exact .nil
 | cons n ns ih=>
  intro vs w;rw [Z3] at w;cases w with
  | cons a b=>
   cases a;exact .cons _ _ (ih _ b)
theorem Gz {l:OpenLaw} {n:Nat} (hn:l.most=some n) {P:Params} {h:Heap} {args:List WData} {vals:List Value}
  (hpre:l.row.toRowW.claim.pre args=true) (hwl:WellAll P h vals args):
  ∃ a vs ns,vals=[Value.ref a]/\args=[WData.list (ns.map WData.int)]/\h.get? a=some {cls:=.type "list",data:=.seq vs.toArray}/\IntsAre vs ns/\ns.length<=n:=by
 have hsh:WShape.hasAll [] args [.list .int]=true:=(pre_splitW hpre).1;have hc:l.pre.holds [] {args:=args}=true:=(pre_splitW hpre).2;obtain ⟨d,r,rfl,h1,h2⟩:=hasAllW_cons hsh;obtain rfl:=hasAllW_nil h2;obtain ⟨xs,rfl,h3⟩:=hasW_list h1;obtain ⟨ns,rfl⟩:=items_int h3
 have hlen:ns.length<=n:=by
  unfold OpenLaw.pre at hc
  have h4:(WTm.not (.lt (.lit (.int (n:Int))) (.len (.arg 0)))).holds [] {args:=[.list (ns.map .int)]}=true:=by
   have h4:=(holds_andW hc).1;rw [hn] at h4;exact h4
  have h5:=condW_of h4 (w_not (w_lt w_lit (w_len_list (w_arg rfl))));rw [Y6] at h5;refine Nat.le_of_not_lt fun q=>?_
  have q':(n:Int) < ((ns.length:Nat):Int):=by omega
  first
   | (rw [Zc q'] at h5;exact absurd h5 (by decide))
   | (simp at h5;omega)
 cases hwl with
 | cons w1 w2=>
  cases w2;cases w1 with
  | list ho hall=>exact ⟨_,_,ns,rfl,rfl,ho,uY ns _ hall,hlen⟩
theorem GC (l:OpenLaw) (args:List WData):l.row.toRowW.claim.post args (.bool true) args=true:=
 postW_of (r:=l.row.toRowW) (X:=(true == true))
  (show WShape.has [] (.bool true) .bool=true by first | rfl | decide | simp [WShape.has,WShape.arms,WShape.armsAll])
  (show (WTm.eq .res (.lit (.bool true))).value [] {args:=args,res:=some (.bool true),after:=args}=some (.bool (true == true)) from w_eq_bool (w_res rfl) w_lit) rfl
theorem attach_call {l:OpenLaw} {n:Nat} {q:Program} {loose:List Str} {XP:(Str->Option Value)->Heap->Prop} {YP:World->Heap->Prop} {d:DefRec}
  (hn:l.most=some n) (hdf:d.params.defaults=[])
  (call:∀ (w:World) (s₀ s₁:Shared) (mg mb:Str->Option Value) (fa:Addr) (o:Obj) (pm cd doc:Value) (a:Addr) (vs:List Value) (ns:List Int),
   Ground q loose [] XP w s₀ mg mb s₁.heap->YP w s₁.heap->
   s₁.heap.get? fa=some o->o.data= .func (docDef d.name d.params d.body d.scope pm cd doc)->s₁.heap.CodeRec cd d.name->mg d.name=some (.ref fa)->
   s₁.heap.get? a=some {cls:=.type "list",data:=.seq vs.toArray}->IntsAre vs ns->ns.length<=n->s₁.gens= #[]->
   codeAny (model l.prog w) callerA (.call (.ref fa) ⟨[.ref a],[]⟩) (fun r s'=>r= .ok (.ret (.bool true))/\OldK s₁.heap s'.heap/\s'.os=s₁.os/\AllBare s'.gens) s₁):
  WalkO q loose XP YP l.row.toRowW d [] (fun f vs=>PySem.call f vs):=by
 intro w s₀ s₁ mg mb G Y fa o pm cd doc dV kV ho hd hcd hD hmg hg args vals as hpre hlay hrd hwl hlo;obtain rfl:dV= .none:=Dflts.none hD hdf;obtain rfl:kV= .none:=Dflts.noKw hD;obtain ⟨a,vs,ns,rfl,rfl,hobj,hints,hlen⟩:=Gz hn hpre hwl;refine enter_call (codeAny_mono (call w s₀ s₁ mg mb fa o pm cd doc a vs ns G Y ho (fd_plain hd) hcd hmg hobj hints hlen hg) fun r s' hq=>?_);obtain ⟨rfl,h2,h3,h4⟩:=hq;exact ⟨.inl ⟨.bool true,.bool true,[],rfl,fun _=>rfl,.bool true,GC l _,fun _=>⟨List.Pairwise.nil,fun _ hm=>(nomatch hm)⟩⟩,h2,h3,h4⟩
end Att
namespace L2
open PySem PySem.Spec PyProof.Rows
theorem yc:∀ {vs:List Value} {ns:List Int},IntsAre vs ns->Vals (ns.map V.int) vs
 | _,_,.nil=>.nil
 | _,_,.cons n t h=>.cons ⟨t,rfl⟩ (yc h)
def Only (H:Hp):Prop:=∀ b,H b=none\/∃ o xs,H b=some (.frz o (.lst xs))
theorem JV {P:Program} {w:World} {K:W.Frag} {mg mb:Str->Option Value} {CX:Jc} {k:Nat} {fa a:Addr} {fd:FuncData} {x:Str} {sp:Sp} {s₁:Shared} {vs:List Value} {ns:List Int}
  (KX:K.In s₁.heap) (hns:s₁.heap.Ns mainGlobals mg) (hb:s₁.heap.Ns builtinsNs mb) (hbb:∀ x:Str,x≠"__name__"->mb x=bootBuiltins x) (hlim:s₁.heap.NoLimit) (hsm:∃ mm,s₁.heap.Ns sysModules mm) (hbm:∃ bm ob,mg "__builtins__"=some (.ref bm)/\bm≠builtinsNs/\s₁.heap.get? bm=some ob/\ob.cls= .type "module"/\ob.dict=some builtinsNs/\ob.data= .plain) (hg:s₁.gens= #[])
  (ha:s₁.heap.get? a=some {cls:=.type "list",data:=.seq vs.toArray}) (hi:IntsAre vs ns) (hl:ns.length<=sizeLine) (hr:Room k callerA)
  (F:∀ base:Heap,K.In base->base.Ns mainGlobals mg->rH P w K mg base CX k fa fd [x] sp) (hbind:∀ (s:Shared) (u:Value),BindsTo s fd ⟨[u],[]⟩ [(x,u)])
  (hsp:∀ H:Hp,Only H->SqL K H a (ns.map V.int)->sp [.ref a] H (fun v _=>v= .bl true) fun _ _ _=>False)
  (hCX:∀ H e s',CX [] H s₁ (fun _ _ _=>False) e s'->False):
  codeAny (model P w) callerA (.call (.ref fa) ⟨[.ref a],[]⟩) (fun r s'=>r= .ok (.ret (.bool true))/\OldK s₁.heap s'.heap/\s'.os=s₁.os/\AllBare s'.gens) s₁:=by
 have rv:=yc hi;have lenV:=hi.length
 have core:∀ H:Hp,Only H->SqL K H a (ns.map V.int)->HOk P w H s₁.heap->(∀ b,H b≠none->b=a)->(H a≠none->K.lookup a=none)->
   codeAny (model P w) callerA (.call (.ref fa) ⟨[.ref a],[]⟩) (fun r s'=>r= .ok (.ret (.bool true))/\OldK s₁.heap s'.heap/\s'.os=s₁.os/\AllBare s'.gens) s₁:=by
  intro H hO hS hok hA hK;have base_of:∀ {b:Addr} {o:Obj},s₁.heap.get? b=some o->H b=none->(yI s₁.heap H).get? b=some o:=fun e n=>Je e n
  have noA:∀ {b:Addr} {o:Obj} {es:Array DictEntry} {ep:Nat},s₁.heap.get? b=some o->o.data= .dict es ep->H b=none:=fun {b o es ep} e d=>by
   cases q:H b with
   | none=>rfl
   | some u=>
    have e':b=a:=hA b (by rw [q];simp);subst e';rw [ha] at e;cases e;have d':Data.seq vs.toArray _=Data.dict es ep:=d;cases d'
  have noM:∀ {b:Addr} {o:Obj},s₁.heap.get? b=some o->o.cls= .type "module"->H b=none:=fun {b o} e d=>by
   cases q:H b with
   | none=>rfl
   | some u=>
    have e':b=a:=hA b (by rw [q];simp);subst e';rw [ha] at e;cases e;exact absurd (show (Value.type "list":Value)= .type "module" from d) (fun z=>absurd (Value.type.inj z) (by decide))
  have nsK:∀ {b:Addr} {m:Str->Option Value},s₁.heap.Ns b m->(yI s₁.heap H).Ns b m:=fun {b m} ⟨o,es,ep,e,d,r⟩=>⟨o,es,ep,base_of e (noA e d),d,r⟩
  have hKb:K.In (yI s₁.heap H):=fun b o e=>base_of (KX b o e) (by
   cases q:H b with
   | none=>rfl
   | some u=>
    have e':b=a:=hA b (by rw [q];simp);subst e';rw [hK (by rw [q];simp)] at e;cases e)
  have hM:Mod K mg (yI s₁.heap H):=⟨hKb,nsK hns,⟨mb,nsK hb,hbb⟩,(let ⟨mc,h1,h2⟩:=hlim;⟨mc,nsK h1,h2⟩),(let ⟨mm,h1⟩:=hsm;⟨mm,nsK h1⟩),let ⟨bm,ob,b1,b2,b3,b4,b5⟩:=hbm;⟨bm,ob,b1,b2,base_of b3 (noM b3 b4),b4,b5⟩⟩;have e0:Env0 P w K mg (yI s₁.heap H) callerA [] s₁ H:=⟨rfl,hM,fun b o e=>Oi e,Nat.le_of_eq (Gi _ _),trivial,fun b hb=>absurd (show b∈([]:List Addr) from hb) (by simp),hok,.of_eq hg⟩;refine codeAny_mono ((F _ hKb (nsK hns)).run callerA [] s₁ H ⟨[.ref a],[]⟩ [.ref a] [.ref a] _ _ hr e0 (hbind s₁ (.ref a)) (.cons rfl .nil) (hsp H hO hS)) fun r s' h=>?_
  cases r with
  | error e=>exact (hCX H e s' h).elim
  | ok fl=>
   cases fl with
   | next=>exact False.elim h
   | brk=>exact False.elim h
   | cont=>exact False.elim h
   | ret u=>
    obtain ⟨v,H',os,bare,un,hok',r',q⟩:=h;have q':v= .bl true:=q;subst q';obtain rfl:u=Value.bool true:=r';refine ⟨rfl,OldK.of_keep fun b o e=>?_,os,bare⟩;cases q:H b with
    | none=>exact un.keep b o e q (by intro z;exact absurd (show b∈([]:List Addr) from z) (by simp)) (by simp)
    | some u=>
     rcases hO b with z | ⟨ob,xs,z⟩
     ·rw [q] at z;cases z
     ·have z2:=un.frzs b ob _ z
      obtain ⟨e1,_⟩:=hok b _ z;obtain ⟨e2,_⟩:=hok' b _ z2;rw [e] at e1;cases e1;exact e2
 cases hk:K.lookup a with
 | some o=>
  have e:=KX a o hk;rw [ha] at e;cases e;refine core (fun _=>none) (fun _=>.inl rfl) (.inr ⟨_,vs.toArray,_,hk,rfl,rfl,rfl,by rw [Zi,lenV];exact hl,by simpa using rv⟩) (fun b u z=>by have z':(none:Option HO)=some u:=z;cases z') (fun b z=>absurd rfl z) fun z=>absurd rfl z
 | none=>
  refine core (fun b=>if b=a then some (.frz {cls:=.type "list",data:=.seq vs.toArray} (.lst (ns.map V.int))) else none) (fun b=>?_) (.inl (.inr ⟨{cls:=.type "list",data:=.seq vs.toArray},if_pos rfl⟩)) (fun b u z=>?_) (fun b z=>?_) fun _=>hk
  ·by_cases hb:b=a
   ·exact .inr ⟨_,_,if_pos hb⟩
   ·exact .inl (if_neg hb)
  ·by_cases hb:b=a
   ·have z':=(if_pos hb).symm.trans z
    cases z';subst hb;exact ⟨ha,by rw [Y6];exact hl,vs,_,rv,ha⟩
   ·have z':=(if_neg hb).symm.trans z
    cases z'
  ·by_cases hb:b=a
   ·exact hb
   ·exact absurd (if_neg hb) z
abbrev KOf {K:W.Frag} {h:Heap} (_:K.In h):W.Frag:=K
theorem Pk {l:PySem.W.OpenLaw} {n k:Nat} {q:Program} {loose:List Str} {XP:(Str->Option Value)->Heap->Prop} {YP:World->Heap->Prop} {d:DefRec} {K:Params->W.Frag} {CX:World->Jc} {sp:World->Sp} {x:Str}
  (hn:l.most=some n) (hn2:n<=sizeLine) (hdf:d.params.defaults=[]) (hr:Room k callerA)
  (hY:∀ (w:World) (h:Heap),YP w h->(K w.params).In h)
  (F:∀ (w:World) (mg:Str->Option Value) (fa:Addr) (h:Heap),(K w.params).In h->h.Ns mainGlobals mg->mg d.name=some (.ref fa)->
   ∃ fd:FuncData,(∀ (s:Shared) (u:Value),BindsTo s fd ⟨[u],[]⟩ [(x,u)])/\
    ∀ base:Heap,(K w.params).In base->base.Ns mainGlobals mg->rH l.prog w (K w.params) mg base (CX w) k fa fd [x] (sp w))
  (hsp:∀ (w:World) (H:Hp) (a:Addr) (ns:List Int),ns.length<=n->Only H->SqL (K w.params) H a (ns.map V.int)->sp w [.ref a] H (fun v _=>v= .bl true) fun _ _ _=>False)
  (hCX:∀ (w:World) (H:Hp) (s:Shared) (e:Value) (s':Shared),CX w [] H s (fun _ _ _=>False) e s'->False) (him:importsNone q=true):
  PySem.W.WalkO q loose XP YP l.row.toRowW d [] (fun f vs=>PySem.call f vs):=by
 refine Att.attach_call hn hdf fun w s₀ s₁ mg mb fa o pm cd doc a vs ns G Y ho hd hcd hmg hobj hints hlen hg=>?_
 have KX:=hY w _ Y;obtain ⟨fd,hb,hF⟩:=F w mg fa _ KX G.T.g hmg;exact JV KX G.T.g G.T.b G.T.builtins G.T.nolimit (let ⟨mm,h1,_⟩:=(G.T.seer him).mods;⟨mm,h1⟩) G.T.bmain hg hobj hints (ZP hlen hn2) hr hF hb (fun H hO hS=>hsp w H a ns hlen hO hS) fun H e s'=>hCX w H s₁ e s'
def fW (s:Stmt):Arguments:=match s with
 | .FunctionDef _ a _ _ _ _ _ _ _ _=>a
 | _=>{posonlyargs:=[],args:=[],vararg:=none,kwonlyargs:=[],kw_defaults:=[],kwarg:=none,defaults:=[]}
def bR (s:Stmt):List Stmt:=match s with
 | .FunctionDef _ _ b _ _ _ _ _ _ _=>b
 | _=>[]
def az (s:Stmt):Scope:=match s with
 | .FunctionDef _ _ _ _ _ _ sc _ _ _=>sc
 | _=>{kind:=.function,names:=[],isGenerator:=false,isCoroutine:=false}
abbrev GD:Jc:=fun _ _ _ _ _ _=>False
abbrev E0:XK:=fun _ _ _=>False
theorem Xa {X:Cx}:Cr GD X E0:=fun _ _ _ _ _ _ _ h=>h.elim
structure Fun (K:W.Frag) (x qual:Str) (st:Stmt) (f:Addr) (fd:FuncData):Prop where
 ex:∃ (oc:Value) (od:Option Addr) (kV doc pm:Value) (an:Option Addr) (cdv ct:Value) (osl:Array (Option Value)),
  fd=PySem.W.fnOf x qual (fW st) (bR st) (az st) .none kV doc pm an cdv ct/\K.lookup f=some ⟨oc,od,.func fd,osl⟩/\PySem.W.codeIn K cdv qual=true
 kp:PySem.W.keepIn K (.ref f)=true
section
variable {P:Program} {w:World} {K:W.Frag} {mg:Str->Option Value} {base:Heap}
theorem Fun.ok {x qual:Str} {st:Stmt} {f:Addr} {fd:FuncData} {N ps:List Str} {k:Nat} {sp:Sp} (F:Fun K x qual st f fd) (S:aD N ps (az st)) (len:∀ vs H Q E,sp vs H Q E->vs.length=ps.length)
  (hbody:∀ (cdv:Value) (A:Around) (outer:List Env) (s:Shared) (H:Hp) (vs:List V) (Q:VK) (E:XK),Room k (A.deeper (envOfC qual (az st) s.heap.objs.size f cdv))->sp vs H Q E->
   ∃ t,PSs (qG GD P w K mg base N qual (az st) f cdv A outer s H E).nox (bR st) t/\t {nx:=fun _ H'=>Q .non H',rt:=Q} (start N vs) H):rH P w K mg base GD (k+1) f fd ps sp:=by
 obtain ⟨oc,od,kV,doc,pm,an,cdv,ct,osl,rfl,lk,hcd⟩:=F.ex;refine JK lk hcd S len fun A outer s H vs Q E hr hsp=>?_
 obtain ⟨t,h,q⟩:=hbody cdv A outer s H vs Q E hr hsp;exact ⟨t,h.nox,q⟩
theorem Fun.binds {x qual:Str} {st:Stmt} {f:Addr} {fd:FuncData} {ps:List Str} (F:Fun K x qual st f fd)
  (h:∀ (kV doc pm:Value) (an:Option Addr) (cdv ct:Value) (us:List Value),us.length=ps.length->bindArgs (PySem.W.fnOf x qual (fW st) (bR st) (az st) .none kV doc pm an cdv ct) ⟨us,[]⟩=pure (ps.zip us)):Binds K fd ps []:=by
 obtain ⟨oc,od,kV,doc,pm,an,cdv,ct,osl,rfl,lk,hcd⟩:=F.ex;exact .all (h kV doc pm an cdv ct)
theorem Cz {x qual:Str} {st:Stmt} {f:Addr} {oc:Value} {od an:Option Addr} {osl:Array (Option Value)} {kV doc pm cdv ct:Value} (l:K.lookup f=some ⟨oc,od,.func (PySem.W.fnOf x qual (fW st) (bR st) (az st) .none kV doc pm an cdv ct),osl⟩)
  (c:PySem.W.codeIn K cdv qual=true) (k:PySem.W.keepIn K (.ref f)=true):Fun K x qual st f (PySem.W.fnOf x qual (fW st) (bR st) (az st) .none kV doc pm an cdv ct):=⟨⟨oc,od,kV,doc,pm,an,cdv,ct,osl,rfl,l,c⟩,k⟩
end
theorem kZ {A B:Prop} (h:B):if false=true then A else B:=by
 rw [if_neg Ze];exact h
theorem jP {A B:Prop} (h:A):if true=true then A else B:=by
 rw [if_pos rfl];exact h
def Same (H H':Hp):Prop:=∀ b o,H b=some o->H' b=some o
theorem Same.refl (H:Hp):Same H H:=fun _ _ h=>h
theorem Same.trans {H H1 H2:Hp} (a:Same H H1) (b:Same H1 H2):Same H H2:=fun c o h=>b c o (a c o h)
theorem Same.free {H H':Hp} (e:Same H H') {l:Addr} (h:H' l=Option.none):H l=Option.none:=by
 cases q:H l with
 | none=>rfl
 | some o=>
  rw [e l o q] at h;cases h
theorem Same.seq {K:W.Frag} {H H':Hp} {a:Addr} {xs:List V} (e:Same H H') (h:SqL K H a xs):SqL K H' a xs:=by
 rcases h with (h | ⟨o,h⟩) | h
 ·exact .inl (.inl (e _ _ h))
 ·exact .inl (.inr ⟨o,e _ _ h⟩)
 ·exact .inr h
end L2
set_option maxHeartbeats 4000000
namespace L2
open PySem PySem.Spec PyProof.Rows
def uZ (env:Env):List (Str×NameKind)->List (Str×Addr)->List (Str×Addr)
 | [],acc=>acc
 | (n,k) :: r,acc=>uZ env r (if k == .free then (match env.cells.lookup n with | some c=>(n,c) :: acc | none=>acc) else acc)
theorem vX {env:Env}:∀ {names:List (Str×NameKind)} {acc:List (Str×Addr)},(∀ x c,(x,c)∈acc->env.cells.lookup x=some c)->∀ x c,(x,c)∈uZ env names acc->env.cells.lookup x=some c
 | [],_,h,x,c,m=>h x c m
 | (n,k) :: r,acc,h,x,c,m=>by
  refine vX (names:=r) ?_ x c m;intro y d hm;cases hk:(k == NameKind.free) with
  | false=>rw [hk] at hm;exact h y d hm
  | true=>
   rw [hk] at hm;simp only [if_true] at hm;cases e:env.cells.lookup n with
   | none=>rw [e] at hm;exact h y d hm
   | some c'=>
    rw [e] at hm;rcases Zb.mp hm with z | z
    ·cases z;exact e
    ·exact h y d z
theorem zX {env:Env}:∀ {names:List (Str×NameKind)} {acc:List (Str×Addr)} {p:Str×Addr},p∈acc->p∈uZ env names acc
 | [],_,_,h=>h
 | (n,k) :: r,acc,p,h=>by
  refine zX (names:=r) ?_
  split
  ·split
   ·exact Zz _ h
   ·exact h
  ·exact h
theorem vY {env:Env} {x:Str} {c:Addr} (e:env.cells.lookup x=some c):∀ {names:List (Str×NameKind)} {acc:List (Str×Addr)},(x,NameKind.free)∈names->(x,c)∈uZ env names acc
 | [],_,h=>by simp at h
 | (n,k) :: r,acc,h=>by
  rcases Zb.mp h with z | z
  ·cases z
   refine zX (names:=r) ?_;rw [e];simp
  ·exact vY e (names:=r) z
theorem xx {l:List (Str×Addr)} {x:Str} {c:Addr} (hm:(x,c)∈l) (ha:∀ d,(x,d)∈l->d=c):l.lookup x=some c:=by
 induction l with
 | nil=>simp at hm
 | cons p r ih=>
  obtain ⟨n,d⟩:=p;by_cases e:x=n
  ·subst e
   have:d=c:=ha d (by simp);subst this;simp [ZZ]
  ·have hb:(x == n)=false:=by simpa using e
   rw [ZZ,hb];refine ih ?_ fun d' h'=>ha d' (Zz _ h')
   rcases Zb.mp hm with z | z
   ·cases z;exact absurd rfl e
   ·exact z
theorem zY {env:Env} {names:List (Str×NameKind)} {x:Str} {c:Addr} (e:env.cells.lookup x=some c) (h:(x,NameKind.free)∈names):(uZ env names []).lookup x=some c:=
 xx (vY e h) fun d hd=>by
  have q:=vX (names:=names) (acc:=[]) (env:=env) (by simp) x d hd;rw [e] at q;exact (Zm q).symm
theorem GF {env:Env} {names:List (Str×NameKind)} {x:Str} {c:Addr} (e:(uZ env names []).lookup x=some c):env.cells.lookup x=some c:=
 vX (names:=names) (acc:=[]) (env:=env) (by simp) x c (Aaa e)
theorem qH {env:Env}:∀ (names:List (Str×NameKind)) (acc:List (Str×Addr)),(∀ x∈names,x.2=NameKind.free->∃ c,env.cells.lookup x.1=some c)->
  (forIn (m:=Sem) names acc fun x r=>match x with
   | (name,kind)=>if (kind == NameKind.free)=true then do let c ← cellOf env name;pure (ForInStep.yield ((name,c) :: r)) else pure (ForInStep.yield r))=pure (uZ env names acc)
 | [],acc,_=>rfl
 | (n,k) :: r,acc,h=>by
  rw [List.forIn_cons];cases hk:(k == NameKind.free) with
  | false=>
   simp only [hk,Z4,if_false,pure_bind,uZ];exact qH r acc fun x hx=>h x (Zz _ hx)
  | true=>
   obtain ⟨c,e⟩:=h (n,k) Z6 (by simpa using hk);simp only [hk,if_true,pure_bind,uZ,cellOf,e];exact qH r ((n,c) :: acc) fun x hx=>h x (Zz _ hx)
theorem xF {scope:Scope} {env:Env} (h:∀ x∈scope.names,x.2=NameKind.free->∃ c,env.cells.lookup x.1=some c):closureFor scope env=pure (uZ env scope.names []):=by
 unfold closureFor;have:=qH (env:=env) scope.names [] h;simp only [this,pure_bind]
theorem GJ {prog:Program} {w:World} {A:Around} {R:Result->Shared->Prop} {s:Shared} {elt target iter:Expr} {ifs:List Expr} {scope:Scope} {pos:Pos} {it acc:Value} {env:Env} (I:Nat->Shared->Prop)
  (turn:∀ n s,I n s->wpAny (model prog w) A (pyNext it) (fun r s₁=>match r with
   | none=>R (.ok .next) s₁
   | some v=>wpAny (model prog w) A (letOwnedTupleGo target it v) (fun _ s₁'=>wpAny (model prog w) A (assign target env v) (fun _ s₂=>
     wpAny (model prog w) A (forIn ifs true fun c r=>if r=true then do let ok ← isTrue c env (eval c env);pure (ForInStep.yield ok) else pure (ForInStep.yield r)) (fun ok s₃=>
      if ok=true then wpAny (model prog w) A (eval elt env) (fun x s₄=>
       wpAny (model prog w) A (call (.builtin "list.append") [acc,x]) (fun _ s₅=>∃ m,m < n/\I m s₅) (fun _ _=>False) s₄) (fun _ _=>False) s₃
      else ∃ m,m < n/\I m s₃) (fun _ _=>False) s₂) (fun _ _=>False) s₁') (fun _ _=>False) s₁) (fun _ _=>False) s)
  (n:Nat) (h:I n s):
  codeAny (model prog w) A (.compLoop (.ListComp elt [⟨target,iter,ifs,0⟩] scope pos) 0 it acc env) R s:=by
 refine codeAny_loop rfl I (fun n s hI=>?_) n h;show wpAny _ A ((compTurn (.ListComp elt [⟨target,iter,ifs,0⟩] scope pos) 0 it acc env).onRaise (fun x=>do noteFrame x env;theTreesLotGoes x)) _ _ s;refine wpAny_noted ?_;rw [compTurn_list];refine YW (AbP (YW (Aal (turn n s hI) (fun r s₁ h₁=>?_) fun _ _ h'=>h'.elim)));cases r with
 | none=>exact Y5 h₁
 | some v=>
  refine YW (Aal h₁ (fun _ s₁' h₁'=>?_) fun _ _ h'=>h'.elim);refine YW (Aal h₁' (fun _ s₂ h₂=>YW (Aal h₂ (fun ok s₃ h₃=>?_) fun _ _ h'=>h'.elim)) fun _ _ h'=>h'.elim);cases ok with
  | false=>exact Y5 ⟨rfl,h₃⟩
  | true=>
   exact YW (YW (Aal h₃ (fun x s₄ h₄=>YW (Aal h₄ (fun _ s₅ h₅=>Y5 (Y5 ⟨rfl,h₅⟩)) fun _ _ h'=>h'.elim)) fun _ _ h'=>h'.elim))
theorem cO:∀ (names:List (Str×NameKind)) (n:Nat) (acc:List (Str×Addr)),cellsFrom n names acc=cellsFrom n names [] ++ acc
 | [],_,_=>rfl
 | (x,k) :: r,n,acc=>by
  unfold cellsFrom
  split
  ·rw [cO r (n+1) ((x,n) :: acc),cO r (n+1) [(x,n)],ZM];rfl
  ·exact cO r n acc
theorem rJ {α:Type}:∀ {A B:List (Str×α)} {x:Str},(A ++ B).lookup x=(match A.lookup x with | some c=>some c | none=>B.lookup x)
 | [],_,_=>rfl
 | (y,c) :: A,B,x=>by
  rw [List.cons_append,ZZ,ZZ];cases x == y with
  | true=>rfl
  | false=>exact rJ (A:=A)
theorem vZ:∀ {names:List (Str×NameKind)} {n:Nat} {acc:List (Str×Addr)} {x:Str} {c:Addr},(x,c)∈cellsFrom n names acc->(x,c)∈acc\/(x,NameKind.cell)∈names
 | [],_,_,_,_,h=>.inl h
 | (y,k) :: r,n,acc,x,c,h=>by
  unfold cellsFrom at h
  split at h
  ·rename_i hk
   rcases vZ h with z | z
   ·rcases Zb.mp z with z | z
    ·cases z
     have:k= .cell:=by simpa using hk
     rw [this];exact .inr Z6
    ·exact .inl z
   ·exact .inr (Zz _ z)
  ·exact (vZ h).imp id (Zz _)
theorem rK {α:Type}:∀ {l:List (Str×α)} {x:Str} {c:α},(x,c)∈l->∃ d,l.lookup x=some d
 | (y,d) :: r,x,c,h=>by
  by_cases e:x=y
  ·subst e;exact ⟨d,by simp [ZZ]⟩
  ·have hb:(x == y)=false:=by simpa using e
   rw [ZZ,hb];rcases Zb.mp h with z | z
   ·cases z;exact absurd rfl e
   ·exact rK z
theorem rM:∀ {names:List (Str×NameKind)} {n:Nat} {acc:List (Str×Addr)} {x:Str},(x,NameKind.cell)∈names\/(∃ c,(x,c)∈acc)->∃ c,(x,c)∈cellsFrom n names acc
 | [],_,_,_,h=>h.elim (fun h=>by simp at h) id
 | (y,k) :: r,n,acc,x,h=>by
  unfold cellsFrom
  split
  ·refine rM ?_
   rcases h with h | ⟨c,h⟩
   ·rcases Zb.mp h with z | z
    ·cases z;exact .inr ⟨n,Z6⟩
    ·exact .inl z
   ·exact .inr ⟨c,Zz _ h⟩
  ·rename_i hk
   refine rM ?_;rcases h with h | h
   ·rcases Zb.mp h with z | z
    ·cases z;exact absurd (by decide) hk
    ·exact .inl z
   ·exact .inr h
def JX (X:Cx) (scope:Scope) (C:Addr):List (Str×Addr):=cellsFrom (C+1) scope.names (uZ X.env scope.names [])
section
variable {M:Model} {A:Around} {E:Value->Shared->Prop} {s:Shared}
theorem lU {scope:Scope} {globals:Addr} {cl:List (Str×Addr)} {qual:Str} {env:Env} {Q:Env->Shared->Prop}
  (hQ:∀ h':Heap,h'.Ns s.heap.objs.size (fun _=>none)->(∀ b o,s.heap.get? b=some o->h'.get? b=some o)->CellsOk h' (s.heap.objs.size+1) (cellsFrom (s.heap.objs.size+1) scope.names [])->
   Q (newEnv scope s.heap.objs.size globals (cellsFrom (s.heap.objs.size+1) scope.names cl) qual none .none (some env) builtinsNs) {s with heap:=h',toks:=s.toks+([]:List (Str×Value)).length}):
  wpAny M A (newFunctionEnv scope globals cl [] qual none .none (some env)) Q E s:=by
 simp only [newFunctionEnv,Option.isSome_some,if_true];refine YW (wpAny_alloc ?_);refine YW (wpAny_layCells _ (fun name kind cells=>by cases hkc:kind == NameKind.cell <;> simp [hkc]) _ _ _ _ ?_);have ok:=cellsFrom_ok scope.names (s.heap.push {cls:=.type "dict",data:=.dict #[]}) (s.heap.objs.size+1) [] ⟨fun _ _ hm=>(nomatch hm),List.Pairwise.nil⟩ (by rw [Aaj];exact Y4 _);rw [Aaj] at ok;rw [show ({s with heap:=s.heap.push {cls:=.type "dict",data:=.dict #[]}}:Shared).heap.objs.size=s.heap.objs.size+1 from Aaj ..];exact YW (Y5 (Y5 (hQ _ ((Heap.Ns.new s.heap (.type "dict")).keeps (pushCells_keeps _ _)) (fun b o e=>pushCells_keeps _ _ b o (YZ _ e)) ok)))
end
def rE (X:Cx) (N':List Str) (scope:Scope) (C:Addr) (s₀:Shared) (H₀:Hp) (ex:List Addr):Cx:=
 {X with N:=N',s₀:=s₀,H₀:=H₀,env:=compEnvC scope (JX X scope C) C X.env,outer:=X.stack,ex:=ex,fn:=fun x=>decide (scope.names.lookup x=some .cell),pn:=[],xe:=fun _ _=>False}
def cX (sub:List (Option Nat)) (U:St):St:=sub.map fun o=>o.bind fun j=>(U[j]?).join
structure uN (N:List Str) (sc:Scope) (N':List Str) (scope:Scope) (sub:List (Option Nat)):Prop where
 kind:scope.kind= .function
 cel:∀ x∈scope.names,x.2= .cell->scope.names.lookup x.1=some .cell
 loc:∀ x∈scope.names,x.2= .local->scope.names.lookup x.1=some .local
 free:∀ x∈scope.names,x.2= .free->sc.names.lookup x.1=some .cell\/sc.names.lookup x.1=some .free
 len:sub.length=N'.length
 at_:∀ (i j:Nat) (x:Str),sub[i]?=some (some j)->N'[i]?=some x->N[j]?=some x/\(x,NameKind.free)∈scope.names/\scope.names.lookup x=some .free
def JZ (N:List Str) (sc:Scope) (N':List Str) (scope:Scope) (sub:List (Option Nat)):Bool:=
 decide (scope.kind= .function) && scope.names.all (fun x=>decide (x.2= .cell->scope.names.lookup x.1=some .cell)) && scope.names.all (fun x=>decide (x.2= .local->scope.names.lookup x.1=some .local)) &&
 scope.names.all (fun x=>decide (x.2= .free->sc.names.lookup x.1=some .cell\/sc.names.lookup x.1=some .free)) && decide (sub.length=N'.length) &&
 (List.range sub.length).all fun i=>match sub[i]?,N'[i]? with
  | some (some j),some x=>decide (N[j]?=some x/\(x,NameKind.free)∈scope.names/\scope.names.lookup x=some .free)
  | _,_=>true
theorem b8 {N:List Str} {sc:Scope} {N':List Str} {scope:Scope} {sub:List (Option Nat)} (h:JZ N sc N' scope sub=true):uN N sc N' scope sub:=by
 simp only [JZ,Zt,Abe,AaC] at h;obtain ⟨⟨⟨⟨⟨h1,h2⟩,h3⟩,h4⟩,h5⟩,h6⟩:=h;refine ⟨h1,h2,h3,h4,h5,fun i j x e1 e2=>?_⟩;have hi:i < sub.length:=(Y0.mp e1).1;have q:=h6 i (ZS.mpr hi);rw [e1,e2] at q;simpa using q
def J7:TT:=fun _ H Q=>Q true H
def zZ (X:Cx) (ifs:List Expr) (t:TT):Prop:=
 ∀ (pins:List (Addr×Obj)) (s:Shared) (U:St) (H:Hp) (Q:Bool->Hp->Prop),Inv X pins U H s->t U H Q->
  wpAny (model X.prog X.w) X.A (forIn ifs true fun c r=>if r=true then do let ok ← isTrue c X.env (eval c X.env);pure (ForInStep.yield ok) else pure (ForInStep.yield r)) (TP X pins U Q) X.xe s
theorem J8 {X:Cx}:zZ X [] J7:=fun _ _ _ H _ I h=>wpAny_tests_nil ⟨H,I,h⟩
theorem J9 {X:Cx} {c:Expr} {t:TT} (hc:PT X c t):zZ X [c] t:=fun pins s U H Q I h=>wpAny_tests_one (hc pins s U H Q I h)
def KeepSt (U U':St):Prop:=U'.length=U.length/\∀ (i:Nat) (v:V),U[i]?=some (some v)->U'[i]?=some (some v)
theorem KeepSt.set {U:St} {i:Nat} {v:V} (h:U[i]?=some none):KeepSt U (U.set i (some v)):=by
 refine ⟨by simp,fun j u e=>?_⟩;by_cases hj:i=j
 ·subst hj;rw [h] at e;cases e
 ·rw [Aai hj];exact e
theorem KeepSt.trans {σ1 σ2 σ3:St} (a:KeepSt σ1 σ2) (b:KeepSt σ2 σ3):KeepSt σ1 σ3:=⟨b.1.trans a.1,fun i v e=>b.2 i v (a.2 i v e)⟩
def v4 (sub:List (Option Nat)) (wi:TI) (g:TG) (tt:TT) (te:TE):TE:=fun U H Q=>wi U H fun J H1=>∃ W:Nat->Nat->List V->Hp->Prop,(∃ m,W 0 m [] H1)/\∀ i m ys H,W i m ys H->
 (J.stop i H/\ys.length<=sizeLine/\∀ D,H D=none->Q (.ref D) (upd H D (.lst ys)))\/
 (J.go i H/\ys.length < sizeLine/\∃ N:List V->Hp->Prop,(∀ ys' H',N ys' H'->∃ m',m' < m/\W (i+1) m' ys' H')/\
  ∀ x H',J.yld i H x H'->g x (cX sub U) H' fun σ2 H2=>KeepSt (cX sub U) σ2/\tt σ2 H2 fun b H3=>if b=true then te σ2 H3 fun y H4=>N (ys ++ [y]) H4 else N ys H3)
theorem rN {scope:Scope} {env:Env} {x:Str} (hx:scope.names.lookup x=some .free):(relabel scope env).names.lookup x=some .cell\/(relabel scope env).names.lookup x=some .free:=by
 have:∀ names:List (Str×NameKind),names.lookup x=some .free->
  (names.map fun (n,k)=>if (k == NameKind.free && env.scope.kind == .function && env.kindOf n == some .cell) then (n,NameKind.cell) else (n,k)).lookup x=some .cell\/
  (names.map fun (n,k)=>if (k == NameKind.free && env.scope.kind == .function && env.kindOf n == some .cell) then (n,NameKind.cell) else (n,k)).lookup x=some .free:=by
  intro names
  induction names with
  | nil=>intro h;simp at h
  | cons p r ih=>
   obtain ⟨n,k⟩:=p;intro h;by_cases e:x=n
   ·subst e
    have hk:k= .free:=by simpa [ZZ] using h
    subst hk;by_cases hc:((NameKind.free == NameKind.free && env.scope.kind == .function && env.kindOf x == some .cell)=true)
    ·left;simp only [Z3];rw [if_pos hc];simp [ZZ]
    ·right;simp only [Z3];rw [if_neg hc];simp [ZZ]
   ·have hb:(x == n)=false:=by simpa using e
    rw [ZZ,hb] at h;have q:=ih h;simp only [Z3]
    split <;> (rw [ZZ,hb];exact q)
 exact this scope.names hx
theorem yR {scope:Scope} {env:Env} {x:Str} (h:(relabel scope env).names.lookup x=some .cell\/(relabel scope env).names.lookup x=some .free):(x,NameKind.cell)∈scope.names\/(x,NameKind.free)∈scope.names:=by
 have key:∀ k,(k=NameKind.cell\/k=NameKind.free)->(relabel scope env).names.lookup x=some k->(x,NameKind.cell)∈scope.names\/(x,NameKind.free)∈scope.names:=by
  intro k hk hl;have hm:=Aaa hl;unfold relabel at hm;obtain ⟨⟨n,k'⟩,hm1,hm2⟩:=Z0.mp hm;dsimp only at hm2;by_cases hc:(k' == NameKind.free && env.scope.kind == .function && env.kindOf n == some .cell)=true
  ·rw [if_pos hc] at hm2
   cases hm2;simp only [Zt,AaK] at hc;rw [← hc.1.1];exact .inr hm1
  ·rw [if_neg hc] at hm2
   cases hm2;rcases hk with hk | hk
   ·subst hk;exact .inl hm1
   ·subst hk;exact .inr hm1
 rcases h with h | h
 ·exact key _ (.inl rfl) h
 ·exact key _ (.inr rfl) h
section
variable {X:Cx} {tg iter elt:Expr} {ifs:List Expr} {scope:Scope} {pos:Pos} {N':List Str} {sub:List (Option Nat)} {wi:TI} {g:TG} {tt:TT} {te:TE}
theorem GK {pins:List (Addr×Obj)} {U:St} {H:Hp} {s:Shared} {fp:List Addr} {D:Addr} {h':Heap} {tk:Nat} {N:List Str} {sc:Scope} (S:uN N sc N' scope sub) (hN:X.N=N) (hsc:X.env.scope=sc) (I:Inv X pins U H s) (hf:∀ b∈fp,oM X pins H b) (hfo:∀ b∈fp,b < s.heap.objs.size)
  (hD:D < s.heap.objs.size) (fD:oM X pins H D) (hns:h'.Ns s.heap.objs.size fun _=>none) (hk:∀ b o,s.heap.get? b=some o->h'.get? b=some o) (hc:CellsOk h' (s.heap.objs.size+1) (cellsFrom (s.heap.objs.size+1) scope.names [])):
  Inv (rE X N' scope s.heap.objs.size s H (D :: fp)) [] (cX sub U) H {s with heap:=h',toks:=tk}:=by
 have hex:∀ b∈D :: fp,oM X pins H b/\b < s.heap.objs.size:=fun b hb=>by
  rcases Zb.mp hb with rfl | z
  ·exact ⟨fD,hD⟩
  ·exact ⟨hf b z,hfo b z⟩
 have spl:∀ {x c},(JX X scope s.heap.objs.size).lookup x=some c->(h'.IsCell c none/\s.heap.objs.size+1<=c/\(x,c)∈cellsFrom (s.heap.objs.size+1) scope.names [])\/(X.env.cells.lookup x=some c/\∃ o,s.heap.get? c=some o):=fun {x c} h=>by
  unfold JX at h;rw [cO,rJ] at h;cases e:(cellsFrom (s.heap.objs.size+1) scope.names []).lookup x with
  | some d=>
   rw [e] at h;cases h;have m:=Aaa e;exact .inl ⟨(hc.empty _ _ m).1,(hc.empty _ _ m).2,m⟩
  | none=>
   rw [e] at h;have z:=GF h;obtain ⟨v,o,ho,_⟩:=I.cell x c z;exact .inr ⟨z,o,ho⟩
 have fre:∀ {x c},(x,NameKind.free)∈scope.names->scope.names.lookup x=some .free->X.env.cells.lookup x=some c->(JX X scope s.heap.objs.size).lookup x=some c:=fun {x c} h1 h2 h3=>by
  unfold JX;rw [cO,rJ];cases e:(cellsFrom (s.heap.objs.size+1) scope.names []).lookup x with
  | some d=>
   rcases vZ (Aaa e) with z | z
   ·cases z
   ·have:=S.cel _ z rfl
    rw [h2] at this;cases this
  | none=>exact zY h3 h1
 refine ⟨⟨I.ok.mod,S.kind,I.ok.glob,I.ok.blt,Y4 _,fun x y c h1 h2=>?_,fun x hx=>?_,fun x c hx h=>?_,I.ok.hd,I.ok.frames,.inl rfl,fun b hb=>?_,I.bs,ZP I.ok.bsz I.sz,fun b o e hb=>?_,fun b hb=>?_,I.stack,I.stkFree⟩,
  rfl,I.bare,Un.kept hk,⟨_,hns,fun i x v h1 h2 h3=>?_⟩,fun x c h=>?_,I.hok.fresh (Y4 _),fun x c h=>?_,fun p hp=>(nomatch hp),I.hok.kept hk,?_⟩
 ·rcases spl h1 with ⟨_,l1,m1⟩ | ⟨z1,o1,q1⟩ <;> rcases spl h2 with ⟨_,l2,m2⟩ | ⟨z2,o2,q2⟩
  ·exact PySem.name_of_addr hc.apart m1 m2
  ·exact absurd (Zr (Za q2) (Abf l1)) (AaA _)
  ·exact absurd (Zr (Za q1) (Abf l2)) (AaA _)
  ·exact I.ok.inj x y c z1 z2
 ·rcases yR hx with z | z
  ·obtain ⟨c,m⟩:=rM (n:=s.heap.objs.size+1) (acc:=uZ X.env scope.names []) (.inl z)
   exact rK m
  ·obtain ⟨c,e⟩:=I.ok.has x (by have:=S.free _ z rfl;rw [← hsc] at this;exact this)
   show ∃ c,(JX X scope s.heap.objs.size).lookup x=some c;unfold JX;rw [cO];exact rK (c:=c) (Zf _ (vY e z))
 ·have hx':scope.names.lookup x=some .cell:=by simpa [rE] using hx
  rcases spl h with ⟨_,l,_⟩ | ⟨z,o,q⟩
  ·exact Abf l
  ·exfalso
   have m:(x,NameKind.cell)∈scope.names:=Aaa hx';obtain ⟨d,md⟩:=rM (n:=s.heap.objs.size+1) (acc:=[]) (.inl m);obtain ⟨d',e'⟩:=rK md;have h:(JX X scope s.heap.objs.size).lookup x=some c:=h;unfold JX at h;rw [cO,rJ,e'] at h;cases h;exact absurd (Zr (Za q) (Abf (hc.empty _ _ (Aaa e')).2)) (AaA _)
 ·obtain ⟨⟨f0,f1,f2,f3,f4,f5⟩,hlt⟩:=hex b hb
  refine ⟨ZR hlt,fun x c h=>?_⟩;rcases spl h with ⟨_,l,_⟩ | ⟨z,_⟩
  ·exact fun z=>absurd (Zr hlt (Abf (z ▸ l))) (AaA _)
  ·exact f4 x c z
 ·obtain ⟨⟨f0,f1,f2,f3,f4,f5⟩,hlt⟩:=hex b hb
  rcases f3 with z | z
  ·exact I.ok.noex b o e z
  ·exact absurd (Zr (Za (I.ok.bs b o e).1) z) (AaA _)
 ·obtain ⟨⟨f0,f1,f2,f3,f4,f5⟩,hlt⟩:=hex b hb
  intro z;rcases Zb.mp (I.stkSub b z) with z | z
  ·exact f1 z
  ·exact f2 z
 ·have hs:∃ j,sub[i]?=some (some j)/\U[j]?=some (some v):=by
   unfold cX at h2;rw [Y9] at h2;cases e:sub[i]? with
   | none=>rw [e] at h2;cases h2
   | some o=>
    rw [e] at h2;cases o with
    | none=>cases h2
    | some j=>
     refine ⟨j,rfl,?_⟩;have h3:(U[j]?).join=some v:=Zm h2;cases e2:U[j]? with
     | none=>rw [e2] at h3;cases h3
     | some z=>rw [e2] at h3;cases z with
      | none=>cases h3
      | some z=>cases h3;rfl
  obtain ⟨j,e1,e2⟩:=hs;obtain ⟨g1,g2,g3⟩:=S.at_ i j x e1 h1;rw [← hN] at g1;obtain ⟨m,hn,hl⟩:=I.loc;have hkf:X.env.kindOf x=some .cell\/X.env.kindOf x=some .free:=by have:=S.free _ g2 rfl;rw [← hsc] at this;exact this
  have hvis:Wu X.env.scope x:=by
   rcases hkf with z | z
   ·exact .inr (.inl z)
   ·exact .inr (.inr z)
  obtain ⟨u,r,l⟩:=hl j x v g1 e2 hvis;refine ⟨u,r,.inr ⟨rN g3,?_⟩⟩;rcases l with ⟨k,_⟩ | ⟨_,c,e,o,ho,hd⟩
  ·have k':X.env.kindOf x=some .local:=k
   rcases hkf with z | z <;> (rw [k'] at z;cases z)
  ·exact ⟨c,fre g2 g3 e,o,hk _ _ ho,hd⟩
 ·rcases spl h with ⟨z,_⟩ | ⟨z,_⟩
  ·exact ⟨_,z⟩
  ·obtain ⟨v,o,ho,hd⟩:=I.cell x c z
   exact ⟨v,o,hk _ _ ho,hd⟩
 ·rcases spl h with ⟨_,l,_⟩ | ⟨z,_⟩
  ·exact I.hok.fresh (Abf l)
  ·exact I.freeC x c z
 ·show (cX sub U).length=N'.length
  unfold cX;rw [Y6];exact S.len
theorem z9 {N:List Str} {sc:Scope} {use:Option (Value->Sem Unit)} {R:Value->Shared->Prop} {p0:Pos} (S:uN N sc N' scope sub) (hc:X.calm=true) (hN:X.N=N) (hsc:X.env.scope=sc) (hi:PI X tg iter wi)
  (hg:∀ (C:Addr) (s₀:Shared) (H₀:Hp) (ex:List Addr),PG (rE X N' scope C s₀ H₀ ex) tg g)
  (ht:∀ (C:Addr) (s₀:Shared) (H₀:Hp) (ex:List Addr),zZ (rE X N' scope C s₀ H₀ ex) ifs tt)
  (he:∀ (C:Addr) (s₀:Shared) (H₀:Hp) (ex:List Addr),PE (rE X N' scope C s₀ H₀ ex) elt te)
  (hs:∀ x,foldedSetIterable iter X.env x=pure x) (pins:List (Addr×Obj)) (s:Shared) (U:St) (H:Hp) (Q:VK) (I:Inv X pins U H s) (h:v4 sub wi g tt te U H Q)
  (hend:∀ (D C:Addr) (s5:Shared) (H5:Hp) (m:Str->Option Value),Inv X pins U H5 s5->oM X pins H5 C->s5.heap.Ns C m->Q (.ref D) H5->compPost (model X.prog X.w) X.A X.xe use R (.ref D) C (.ok .next) s5):
  wpAny (model X.prog X.w) X.A (comprehension (.ListComp elt [⟨tg,iter,ifs,0⟩] scope pos) scope X.env p0 (newList []) false (eval iter X.env) use) R X.xe s:=by
 have hcl:∀ x∈scope.names,x.2=NameKind.free->∃ c,X.env.cells.lookup x.1=some c:=fun x hx hk=>I.ok.has x.1 (by have:=S.free x hx hk;rw [← hsc] at this;exact this)
 refine wpAny_comprehension_free (use:=use) rfl hs (xF hcl) S.kind S.loc ?_;refine eQ (hi pins s U H _ I h) fun v s1 h1=>eQ h1 fun itv s2 h2=>?_
 obtain ⟨it,fp,tn,J,H2,e,I2,T,st2,f2,W,⟨m0,w0⟩,turn⟩:=h2;subst e;refine Aaq (lU fun h₁ hns₁ hk31 hcl₁=>?_);dsimp only at hns₁ hk31 hcl₁ ⊢;generalize hs3:({s2 with heap:=s2.heap.push {cls:=.type "list",dict:=none,data:=.seq ([]:List Value).toArray}}:Shared)=s3;have e3:s2.heap.push {cls:=.type "list",dict:=none,data:=.seq ([]:List Value).toArray}=s3.heap:=by rw [← hs3]
 rw [e3] at hns₁ hk31 hcl₁ ⊢;have hD3:s3.heap.get? s2.heap.objs.size=some {cls:=.type "list",dict:=none,data:=.seq ([]:List Value).toArray}:=by rw [← e3];exact Y8 _ rfl
 have I3:Inv X pins U H2 s3:=by
  rw [← hs3];exact I2.kept (t':=s2.toks) fun b o e=>YZ _ e
 have k23:∀ b o,s2.heap.get? b=some o->s3.heap.get? b=some o:=fun b o e=>by rw [← e3];exact YZ _ e
 have hsz:s3.heap.objs.size=s2.heap.objs.size+1:=by rw [← e3,Aaj]
 have hDn:H2 s2.heap.objs.size=none:=I2.hok.fresh (Y4 _);have fD:oM X pins H2 s2.heap.objs.size:=I2.fpOk (Y4 _) hDn;have hfo:∀ b∈fp,b < s2.heap.objs.size:=fun b hb=>let ⟨o,e,_⟩:=T.obj _ _ st2 b hb;Za e
 have hDfp:s2.heap.objs.size ∉ fp:=fun z=>absurd (hfo _ z) (AaA _)
 have I4:=GK (tk:=s3.toks+([]:List (Str×Value)).length) S hN hsc I3 f2 (fun b hb=>by rw [hsz];exact Nat.lt_succ_of_lt (hfo b hb)) (D:=s2.heap.objs.size) (by rw [hsz];exact Nat.lt_succ_self _) fD hns₁ hk31 hcl₁
 have stat:∀ {H':Hp} {ob:Obj},(∀ b∈fp,H' b=none)->∀ b∈fp,oM (rE X N' scope s3.heap.objs.size s3 H2 (s2.heap.objs.size :: fp)) [(s2.heap.objs.size,ob)] H' b:=fun {H' ob} hn b hb=>by
  obtain ⟨q1,q2⟩:=I4.ok.exf b (Zz _ hb);refine ⟨hn b hb,q1,I4.ok.exfs b (Zz _ hb),.inl (Zz _ hb),q2,fun p hp z=>?_⟩;have hp':p=(s2.heap.objs.size,ob):=by simpa [rE] using hp
  subst hp';have z':s2.heap.objs.size=b:=z;exact hDfp (by rw [z'];exact hb)
 generalize hXC:rE X N' scope s3.heap.objs.size s3 H2 (s2.heap.objs.size :: fp)=XC at I4 stat;have eP:XC.prog=X.prog:=by rw [← hXC];rfl
 have eW:XC.w=X.w:=by rw [← hXC];rfl
 have eK:XC.K=X.K:=by rw [← hXC];rfl
 have eA:XC.A=X.A:=by rw [← hXC];rfl
 have eE:XC.env=compEnvC scope (JX X scope s3.heap.objs.size) s3.heap.objs.size X.env:=by rw [← hXC];rfl
 have eC:XC.calm=true:=by rw [← hXC];exact hc
 have eX:XC.xe=fun _ _=>False:=by rw [← hXC];rfl
 have eH:XC.H₀=H2:=by rw [← hXC];rfl
 have eS:XC.s₀=s3:=by rw [← hXC];rfl
 have eF:XC.fs=frs X.stack:=by rw [← hXC];rfl
 have eEx:XC.ex=s2.heap.objs.size :: fp:=by rw [← hXC];rfl
 have ePn:XC.pn=[]:=by rw [← hXC];rfl
 have hgC:PG XC tg g:=by rw [← hXC];exact hg _ _ _ _
 have htC:zZ XC ifs tt:=by rw [← hXC];exact ht _ _ _ _
 have heC:PE XC elt te:=by rw [← hXC];exact he _ _ _ _
 have pinD:∀ {U':St} {H':Hp} {s':Shared} {ob:Obj},Inv XC [] U' H' s'->H' s2.heap.objs.size=none->s'.heap.get? s2.heap.objs.size=some ob->(∀ v,ob.data≠.cell v)->Inv XC [(s2.heap.objs.size,ob)] U' H' s':=fun {U' H' s' ob} J hn hg hd=>
  J.pins_of fun p hp=>by
   have hp':p=(s2.heap.objs.size,ob):=by simpa using hp
   subst hp';refine ⟨hg,hn,(J.ok.exf _ (by rw [eEx];exact Z6)).1,J.ok.exfs _ (by rw [eEx];exact Z6),hd⟩
 have loop:codeAny (model X.prog X.w) X.A (.compLoop (.ListComp elt [⟨tg,iter,ifs,0⟩] scope pos) 0 (.ref it) (.ref s2.heap.objs.size) (compEnvC scope (JX X scope s3.heap.objs.size) s3.heap.objs.size X.env))
   (compPost (model X.prog X.w) X.A X.xe use R (.ref s2.heap.objs.size) s3.heap.objs.size) {s3 with heap:=h₁,toks:=s3.toks+([]:List (Str×Value)).length}:=by
  refine GJ (fun n s'=>∃ (i:Nat) (ys:List V) (its:List Value) (nn:Nat) (H':Hp),Inv XC [] (cX sub U) H' s'/\tn i s'.heap/\(∀ b∈fp,H' b=none)/\H' s2.heap.objs.size=none/\
   s'.heap.get? s2.heap.objs.size=some {cls:=.type "list",data:=.seq its.toArray nn}/\Vals ys its/\W i n ys H') ?_ m0
   ⟨0,[],[],_,H2,I4,T.keep _ _ _ st2 fun b _ o e=>hk31 b o (k23 b o e),fun b hb=>(f2 b hb).1,hDn,hk31 _ _ hD3,.nil,w0⟩
  rintro n s4 ⟨i,ys,its,nn,H4,J4,st4,fr4,dn4,dg4,rv4,w4⟩;have P4:=pinD J4 dn4 dg4 (fun v z=>by cases z);rcases turn i n ys H4 w4 with ⟨stop,hyl,qn⟩ | ⟨go,hyl,N,hN,step⟩
  ·have hdone:=T.done XC eP eW eK eC i _ s4 _ H4 (fun _ _=>False) P4 (stat fr4) st4 stop
   rw [eA] at hdone;refine Aal hdone (fun r s5 ⟨hr,I5⟩=>?_) fun _ _ z=>z
   subst hr;obtain ⟨m,hn,_⟩:=id I5.loc;have hCe:XC.env.locals=s3.heap.objs.size:=by rw [eE];rfl
   rw [hCe] at hn;have hDg:=(I5.pin (s2.heap.objs.size,_) (by rw [ePn];exact Z6)).1;have hDne:s2.heap.objs.size≠s3.heap.objs.size:=by rw [hsz];exact ZR (Nat.lt_succ_self _)
   have hHC:H4 s3.heap.objs.size=none:=by have:=I5.free;rw [hCe] at this;exact this
   have k56:∀ b o,b≠s3.heap.objs.size->s5.heap.get? b=some o->s5.heap.get? b=some o:=fun b o hb e=>e
   have un:=I5.base;rw [eF,eEx,eH,eS] at un;have nC:∀ b o,s3.heap.get? b=some o->b≠s3.heap.objs.size:=fun b o e=>ZR (Za e)
   have hok6:HOk X.prog X.w (upd H4 s2.heap.objs.size (.lst ys)) s5.heap:=by
    have h5:=I5.hok;rw [eP,eW] at h5;have SN:∀ b u,H4 b=some u->b≠s3.heap.objs.size:=fun b u e z=>by rw [z,hHC] at e;cases e
    intro b u e;by_cases hb:b=s2.heap.objs.size
    ·subst hb
     rw [aj] at e;cases e;exact ⟨hyl,its,nn,rv4,k56 _ _ hDne hDg⟩
    ·rw [aC hb] at e
     have nD:∀ c u,H4 c=some u->c≠s2.heap.objs.size:=fun c u e z=>by rw [z,dn4] at e;cases e
     refine (h5 b u e).stay (fun c v hc' q=>k56 c v ?_ q) (fun c q=>by rw [aC (nD c _ q)];exact q) fun c xs q=>by rw [aC (nD c _ q)];exact q
     rcases hc' with z | z
     ·rw [z];exact SN b u e
     ·exact SN c _ z
   have nD2:∀ c u,H4 c=some u->c≠s2.heap.objs.size:=fun c u e z=>by rw [z,dn4] at e;cases e
   have un6:Un (frs X.stack) (s2.heap.objs.size :: fp) H2 (upd H4 s2.heap.objs.size (.lst ys)) s3.heap s5.heap:=
    ⟨fun b o e nn' hb hx=>k56 b o (nC b o e) (un.keep b o e nn' hb hx),fun b o e nn' hb hx=>let ⟨sl,q⟩:=un.slot b o e nn' hb hx;⟨sl,k56 b _ (nC b o e) q⟩,
     fun b o e nn' hx=>by rw [aC (fun z=>hx (by rw [z];exact Z6))];exact un.free b o e nn' hx,
     fun b o e hx=>let ⟨o',q⟩:=un.there b o e hx;⟨o',k56 b o' (nC b o e) q⟩,
     fun b xs e=>by have q:=un.tups b xs e;rw [aC (nD2 b _ q)];exact q,
     fun b o u e=>by have q:=un.frzs b o u e;rw [aC (nD2 b _ q)];exact q,
     fun b ps e=>let ⟨more,q⟩:=un.tbls b ps e;⟨more,by rw [aC (nD2 b _ q)];exact q⟩⟩
   have I6:Inv X pins U (upd H4 s2.heap.objs.size (.lst ys)) s5:=by
    refine I3.call' (s':=s5) (ch:=s2.heap.objs.size :: fp) ?_ un6 hok6 I5.bare fun b hb=>?_
    ·show s5.os=s3.os
     have:=I5.os;rw [eS] at this;exact this
    ·have q:oM X pins H2 b:=by
      rcases Zb.mp hb with rfl | z
      ·exact fD
      ·exact f2 b z
     obtain ⟨f0,f1,f2',f3,f4,f5⟩:=q;exact ⟨f3,f1,f4,f5⟩
   have dC:upd H4 s2.heap.objs.size (.lst ys) s3.heap.objs.size=none:=by rw [aC (Ne.symm hDne)];exact hHC
   exact hend _ _ s5 _ m I6 (I3.fpOk (Y4 _) dC) hn (qn _ dn4)
  ·have hitem:=T.item XC eP eW eK eC i _ s4 _ H4 (fun _ _=>False) P4 (stat fr4) st4 go
   rw [eA] at hitem;refine Aal hitem (fun r s5 ⟨u,hr,h5⟩=>?_) fun _ _ z=>z
   subst hr;dsimp only;refine Aal h5 (fun _ s6 ⟨x,H6,I6,r6,y6,st6,fr6⟩=>?_) fun _ _ z=>z
   have P6:=I6.pinned (stat fr6) (T.obj _ _ st6);rw [← eE,← eP,← eW,← eA];refine Aal (hgC _ s6 _ H6 x u _ P6 r6 (step x H6 y6)) (fun _ s7 ⟨σ7,H7,I7,kp7,q7⟩=>?_) fun _ _ z=>by rw [eX] at z;exact z
   refine Aal (htC _ s7 σ7 H7 _ I7 q7) (fun ok s8 ⟨H8,I8,q8⟩=>?_) fun _ _ z=>by rw [eX] at z;exact z
   have fin:∀ {H9:Hp} {s9:Shared},Inv XC ([(s2.heap.objs.size,({cls:=.type "list",data:=.seq its.toArray nn}:Obj))] ++ vP fp s6.heap) σ7 H9 s9->Inv XC [] (cX sub U) H9 s9/\tn (i+1) s9.heap/\(∀ b∈fp,H9 b=none)/\H9 s2.heap.objs.size=none/\
     s9.heap.get? s2.heap.objs.size=some {cls:=.type "list",data:=.seq its.toArray nn}:=fun {H9 s9} J=>by
    have pD:=J.pin (s2.heap.objs.size,({cls:=.type "list",data:=.seq its.toArray nn}:Obj)) (by rw [ePn];simp)
    have pF:∀ b∈fp,∀ o,s6.heap.get? b=some o->s9.heap.get? b=some o/\H9 b=none:=fun b hb o e=>by
     have q:=J.pin (b,o) (by rw [ePn];exact Zf _ (Zf _ (qF hb e)));exact ⟨q.1,q.2.1⟩
    refine ⟨?_,T.keep _ _ _ st6 fun b hb o e=>(pF b hb o e).1,fun b hb=>?_,pD.2.1,pD.1⟩
    ·have J0:Inv XC [] σ7 H9 s9:=J.pins_of fun p hp=>nomatch hp
     exact J0.weak kp7.1.symm fun j v e=>kp7.2 j v e
    ·obtain ⟨o,e,_⟩:=T.obj _ _ st6 b hb
     exact (pF b hb o e).2
   cases ok with
   | false=>
    rw [if_neg (by simp)];rw [if_neg (by simp)] at q8;obtain ⟨m',hm,w8⟩:=hN _ _ q8;obtain ⟨a1,a2,a3,a4,a5⟩:=fin I8;exact ⟨m',hm,i+1,ys,its,nn,H8,a1,a2,a3,a4,a5,rv4,w8⟩
   | true=>
    rw [if_pos rfl];rw [if_pos rfl] at q8;refine Aal (heC _ s8 σ7 H8 _ I8 q8) (fun xv s9 ⟨y,H9,I9,r9,n9⟩=>?_) fun _ _ z=>by rw [eX] at z;exact z
    obtain ⟨m',hm,w9⟩:=hN _ _ n9;obtain ⟨a1,a2,a3,a4,a5⟩:=fin I9;refine wpAny_list_append_plain (items:=its.toArray) ⟨nn,a5⟩ (fun h' ⟨n',hp'⟩ sb=>?_) (by simp;rw [← rv4.length];omega);obtain ⟨q1,q2⟩:=I4.ok.exf s2.heap.objs.size (by rw [eEx];exact Z6);have a1':Inv XC [] (cX sub U) H9 {s9 with heap:=h'}:=a1.turned (t':=s9.toks) (fun b o hb e=>(sb.2 b hb).trans e) a4 q1 (.inl (by rw [eEx];exact Z6)) q2 (fun p hp=>by rw [ePn] at hp;exact nomatch hp);refine ⟨m',hm,i+1,ys ++ [y],its ++ [xv],n',H9,a1',T.keep _ _ _ a2 fun b hb o e=>(sb.2 b (fun z=>hDfp (by rw [← z];exact hb))).trans e,a3,a4,?_,rv4.append (.cons r9 .nil),w9⟩;rw [hp'];simp
 subst hs3;exact codeAny_compStart_list loop (T.self _ 0 _ _ _ (T.keep _ _ _ st2 fun b _ o e=>hk31 b o (k23 b o e)) loop)
theorem Em {N:List Str} {sc:Scope} (S:uN N sc N' scope sub) (hc:X.calm=true) (hN:X.N=N) (hsc:X.env.scope=sc) (hi:PI X tg iter wi)
  (hg:∀ (C:Addr) (s₀:Shared) (H₀:Hp) (ex:List Addr),PG (rE X N' scope C s₀ H₀ ex) tg g)
  (ht:∀ (C:Addr) (s₀:Shared) (H₀:Hp) (ex:List Addr),zZ (rE X N' scope C s₀ H₀ ex) ifs tt)
  (he:∀ (C:Addr) (s₀:Shared) (H₀:Hp) (ex:List Addr),PE (rE X N' scope C s₀ H₀ ex) elt te)
  (hs:autoParam (∀ x,foldedSetIterable iter X.env x=pure x) L2.auto3._auto_1):
  PE X (.ListComp elt [⟨tg,iter,ifs,0⟩] scope pos) (v4 sub wi g tt te):=by
 intro pins s U H Q I h;rw [eval_ListComp];refine z9 (use:=none) S hc hN hsc hi hg ht he hs pins s U H Q I h fun D C s5 H5 m I5 fC hn q=>?_
 obtain ⟨f0,f1,f2,f3,f4,f5⟩:=fC;exact ⟨m,hn,fun h' hs'=>⟨.ref D,H5,I5.turned (t':=s5.toks) (fun b o hb e=>hs'.extBut b o hb e) f0 f1 f3 f4 f5,rfl,q⟩⟩
end
abbrev rO (sub:List (Option Nat)) (g:TG) (tt:TT) (te:TE) (U:St) (Q:VK) (J:It) (H1:Hp):Prop:=∃ W:Nat->Nat->List V->Hp->Prop,(∃ m,W 0 m [] H1)/\∀ i m ys H,W i m ys H->
 (J.stop i H/\ys.length<=sizeLine/\∀ D,H D=none->Q (.ref D) (upd H D (.lst ys)))\/
 (J.go i H/\ys.length < sizeLine/\∃ N:List V->Hp->Prop,(∀ ys' H',N ys' H'->∃ m',m' < m/\W (i+1) m' ys' H')/\
  ∀ x H',J.yld i H x H'->g x (cX sub U) H' fun σ2 H2=>KeepSt (cX sub U) σ2/\tt σ2 H2 fun b H3=>if b=true then te σ2 H3 fun y H4=>N (ys ++ [y]) H4 else N ys H3)
theorem yS {sub:List (Option Nat)} {g:TG} {tt:TT} {te:TE} {U:St} {Q:VK} {J:It} {H:Hp} {n:Nat} (Pv:Nat->List V->Hp->Prop) (hn:n<=sizeLine) (h0:Pv 0 [] H) (hl:∀ i ys H,Pv i ys H->ys.length<=i)
  (hgo:∀ i ys H,i < n->Pv i ys H->J.go i H) (hstop:∀ ys H,Pv n ys H->J.stop n H)
  (hs:∀ i ys H x H',i < n->Pv i ys H->J.yld i H x H'->g x (cX sub U) H' fun σ2 H2=>KeepSt (cX sub U) σ2/\tt σ2 H2 fun b H3=>if b=true then te σ2 H3 fun y H4=>Pv (i+1) (ys ++ [y]) H4 else Pv (i+1) ys H3)
  (hd:∀ ys H,Pv n ys H->∀ D,H D=none->Q (.ref D) (upd H D (.lst ys))):rO sub g tt te U Q J H:=by
 refine ⟨fun i m ys H=>m=n - i/\i<=n/\Pv i ys H,⟨n,by simp,Z7 _,h0⟩,?_⟩;rintro i m ys H ⟨rfl,hi,p⟩;have hl':=hl i ys H p;by_cases hlt:i < n
 ·exact .inr ⟨hgo i ys H hlt p,by omega,fun ys' H'=>Pv (i+1) ys' H',fun ys' H' p'=>⟨n - (i+1),by omega,rfl,hlt,p'⟩,fun x H' y=>hs i ys H x H' hlt p y⟩
 ·have e:i=n:=by omega
  subst e;exact .inl ⟨hstop ys H p,by omega,hd ys H p⟩
section
variable {κ:Type} [DecidableEq κ]
def jQ (kvs:List (κ×V)) (k:κ):Option V:=(kvs.find? fun kv=>decide (kv.1=k)).map (·.2)
def putK (kvs:List (κ×V)) (k:κ) (v:V):List (κ×V):=
 if (kvs.any fun kv=>decide (kv.1=k))=true then kvs.map (fun kv=>if kv.1=k then (kv.1,v) else kv) else kvs ++ [(k,v)]
theorem Aa {k:κ}:jQ ([]:List (κ×V)) k=none:=rfl
theorem fO {p:κ×V} {r:List (κ×V)} {k:κ} (e:p.1=k):jQ (p :: r) k=some p.2:=by simp [jQ,Abt,e]
theorem fP {p:κ×V} {r:List (κ×V)} {k:κ} (e:¬ p.1=k):jQ (p :: r) k=jQ r k:=by simp [jQ,Abt,e]
theorem rP (k:κ):∀ kvs:List (κ×V),(kvs.any fun kv=>decide (kv.1=k))=(jQ kvs k).isSome
 | []=>rfl
 | p :: r=>by
  rw [List.any_cons];by_cases e:p.1=k
  ·simp only [fO e,Zc e,Bool.true_or,Option.isSome_some]
  ·rw [fP e,Zd e,Bool.false_or];exact rP k r
theorem Ab (k j:κ) (y:V):∀ kvs:List (κ×V),jQ (kvs.map fun kv=>if kv.1=k then (kv.1,y) else kv) j=(jQ kvs j).map fun x=>if j=k then y else x
 | []=>rfl
 | p :: r=>by
  have ih:=Ab k j y r;rw [Z3];by_cases h:p.1=k
  ·rw [if_pos h]
   by_cases e:p.1=j
   ·rw [fO (p:=(p.1,y)) e,fO e,Option.map_some,if_pos (e.symm.trans h)]
   ·rw [fP (p:=(p.1,y)) e,fP e,ih]
  ·rw [if_neg h]
   by_cases e:p.1=j
   ·rw [fO (p:=p) e,fO e,Option.map_some,if_neg (fun z=>h (e.trans z))]
   ·rw [fP (p:=p) e,fP e,ih]
theorem yd (k j:κ) (y:V):∀ kvs:List (κ×V),jQ kvs k=none->jQ (kvs ++ [(k,y)]) j=if j=k then some y else jQ kvs j
 | [],_=>by
  by_cases e:k=j
  ·rw [if_pos e.symm];exact fO (p:=(k,y)) e
  ·rw [if_neg (fun z=>e z.symm)];exact fP (p:=(k,y)) e
 | p :: r,hn=>by
  rw [List.cons_append];have hk:¬ p.1=k:=fun z=>by rw [fO z] at hn;cases hn
  rw [fP hk] at hn;have ih:=yd k j y r hn;by_cases e:p.1=j
  ·rw [fO e,fO e,if_neg (fun z=>hk (e.trans z))]
  ·rw [fP e,fP e,ih]
theorem Ac (kvs:List (κ×V)) (k j:κ) (y:V):jQ (putK kvs k y) j=if j=k then some y else jQ kvs j:=by
 unfold putK;by_cases a:(kvs.any fun kv=>decide (kv.1=k))=true
 ·rw [if_pos a,Ab]
  rw [rP] at a;by_cases e:j=k
  ·obtain ⟨x,hx⟩:=Option.isSome_iff_exists.mp a
   rw [if_pos e,e,hx,Option.map_some,if_pos rfl]
  ·rw [if_neg e]
   cases jQ kvs j with
   | none=>rfl
   | some x=>rw [Option.map_some,if_neg e]
 ·rw [if_neg a]
  refine yd k j y kvs ?_;rw [rP] at a;cases q:jQ kvs k with
  | none=>rfl
  | some x=>rw [q] at a;exact (a rfl).elim
theorem j8 (kvs:List (κ×V)) (k:κ) (v:V):(putK kvs k v).length<=kvs.length+1:=by
 unfold putK
 split
 ·rw [Y6];omega
 ·rw [Zv,Aag,List.length_nil];omega
theorem RelO.isSome_eq {o:Option V} {u:Option Value} (r:RelO o u):o.isSome=u.isSome:=by
 cases o with
 | none=>cases u with
  | none=>rfl
  | some _=>exact (show False from r).elim
 | some _=>cases u with
  | none=>exact (show False from r).elim
  | some _=>rfl
theorem KV.val {kvs:List (κ×V)} {vs:List (κ×Value)} (r:KV kvs vs) (k:κ):RelO (jQ kvs k) (valueAt vs k):=by
 unfold KV at r
 induction r with
 | nil=>exact True.intro
 | @cons p q ps qs h t ih=>
  obtain ⟨h1,h2⟩:=h;by_cases e:p.1=k
  ·have e':q.1=k:=h1.symm.trans e
   have b:valueAt (q :: qs) k=some q.2:=by simp [valueAt,Abt,e']
   rw [fO e,b];exact h2
  ·have e':¬ q.1=k:=fun z=>e (h1.trans z)
   have b:valueAt (q :: qs) k=valueAt qs k:=by simp [valueAt,Abt,e']
   rw [fP e,b];exact ih
theorem KV.any {kvs:List (κ×V)} {vs:List (κ×Value)} (r:KV kvs vs) (k:κ):(kvs.any fun kv=>decide (kv.1=k))=vs.any fun kv=>decide (kv.1=k):=by
 unfold KV at r
 induction r with
 | nil=>rfl
 | cons h t ih=>rw [List.any_cons,List.any_cons,ih,h.1]
theorem KV.repl {kvs:List (κ×V)} {vs:List (κ×Value)} (r:KV kvs vs) (k:κ) {y:V} {u:Value} (ry:RelV y u):
  KV (kvs.map fun kv=>if kv.1=k then (kv.1,y) else kv) (vs.map fun kv=>if kv.1=k then (kv.1,u) else kv):=by
 unfold KV at r ⊢
 induction r with
 | nil=>exact .nil
 | @cons p q ps qs h t ih=>
  rw [Z3,Z3];refine .cons ?_ ih;obtain ⟨h1,h2⟩:=h;by_cases e:p.1=k
  ·rw [if_pos e,if_pos (h1.symm.trans e)];exact ⟨h1,ry⟩
  ·rw [if_neg e,if_neg (fun z=>e (h1.trans z))];exact ⟨h1,h2⟩
theorem KV.put {kvs:List (κ×V)} {vs:List (κ×Value)} (r:KV kvs vs) (k:κ) {y:V} {u:Value} (ry:RelV y u):KV (putK kvs k y) (stored vs k u):=by
 unfold putK stored;rw [r.any k];by_cases e:(vs.any fun kv=>decide (kv.1=k))=true
 ·rw [if_pos e,if_pos e];exact r.repl k ry
 ·rw [if_neg e,if_neg e];exact Paired.snoc r ⟨rfl,ry⟩
theorem KV.length {kvs:List (κ×V)} {vs:List (κ×Value)} (r:KV kvs vs):kvs.length=vs.length:=Paired.length r
end
theorem Ka {P:Program} {w:World} {k:Key} {u:Value} (r:RelV (kV k) u):(cJ P w).is k u=true:=by
 cases k with
 | inl i=>obtain ⟨t,e⟩:=(show ∃ t,u=Value.int i t from r);subst e;exact zO P w i t
 | inr x=>obtain ⟨t,e⟩:=(show ∃ t,u=Value.str x t from r);subst e;exact zP P w x t
theorem ye {P:Program} {w:World}:∀ {ks:List Key} {us:List Value},Vals (ks.map kV) us->ItemsAre (cJ P w) ks us
 | [],_,r=>by rw [List.map_nil] at r;cases r;exact .nil
 | k :: ks,_,r=>by
  rw [Z3] at r;cases r with
  | cons h t=>exact .cons (Ka h) (ye t)
abbrev KT (H:Hp):List (List Key×V)->List (List Key×Addr×Value)->Prop:=Paired fun p q=>p.1=q.1/\H q.2.1=some (.tup (p.1.map kV))/\RelV p.2 q.2.2
theorem KT.val {H:Hp} {kvs:List (List Key×V)} {xs:List (List Key×Addr×Value)} (r:KT H kvs xs) (k:List Key):RelO (jQ kvs k) ((atKey xs k).map (·.2)):=by
 induction r with
 | nil=>exact True.intro
 | @cons p q ps qs h t ih=>
  obtain ⟨h1,_,h2⟩:=h;by_cases e:p.1=k
  ·have e':q.1=k:=h1.symm.trans e
   have b:atKey (q :: qs) k=some q.2:=by simp [atKey,Abt,e']
   rw [fO e,b];exact h2
  ·have e':¬ q.1=k:=fun z=>e (h1.trans z)
   have b:atKey (q :: qs) k=atKey qs k:=by simp [atKey,Abt,e']
   rw [fP e,b];exact ih
theorem KT.repl {H:Hp} {kvs:List (List Key×V)} {xs:List (List Key×Addr×Value)} (r:KT H kvs xs) (k:List Key) {y:V} {u:Value} (ry:RelV y u):
  KT H (kvs.map fun kv=>if kv.1=k then (kv.1,y) else kv) (xs.map (putAt k u)):=by
 induction r with
 | nil=>exact .nil
 | @cons p q ps qs h t ih=>
  rw [Z3,Z3];refine .cons ?_ ih;obtain ⟨h1,h2,h3⟩:=h;unfold putAt;by_cases e:p.1=k
  ·rw [if_pos e,if_pos (h1.symm.trans e)];exact ⟨h1,h2,ry⟩
  ·rw [if_neg e,if_neg (fun z=>e (h1.trans z))];exact ⟨h1,h2,h3⟩
theorem KT.put {H:Hp} {kvs:List (List Key×V)} {xs:List (List Key×Addr×Value)} (r:KT H kvs xs) (k:List Key) {b:Addr} {y:V} {u:Value} (hb:H b=some (.tup (k.map kV))) (ry:RelV y u):
  KT H (putK kvs k y) (storedH xs k b u):=by
 have e:(kvs.any fun kv=>decide (kv.1=k))=(atKey xs k).isSome:=by
  rw [rP,(r.val k).isSome_eq,Option.isSome_map]
 unfold putK storedH;rw [e];by_cases q:(atKey xs k).isSome=true
 ·rw [if_pos q,if_pos q];exact r.repl k ry
 ·rw [if_neg q,if_neg q];exact Paired.snoc r ⟨rfl,hb,ry⟩
theorem KT.keeps {H H':Hp} {kvs:List (List Key×V)} {xs:List (List Key×Addr×Value)} (r:KT H kvs xs) (ht:∀ b ys,H b=some (.tup ys)->H' b=some (.tup ys)):KT H' kvs xs:=
 Paired.mapP r fun _ _ z=>⟨z.1,ht _ _ z.2.1,z.2.2⟩
section
variable {P:Program} {w:World} {H:Hp} {h:Heap} {a:Addr}
theorem RD {u:HO} (ok:HOk P w H h) (e:Rd H a u):ObjOk P w H h a u:=e.ok ok
theorem RG {kvs:List (Key×V)} (ok:HOk P w H h) (e:Rd H a (.dK kvs)):kvs.length<=sizeLine/\(a == sysModules)=false/\∃ vs,KV kvs vs/\h.DictOf (cJ P w) a vs:=
 show ObjOk P w H h a (.dK kvs) from RD ok e
theorem Xb {kvs:List (Key×V)} (ok:HOk P w H h) (e:H a=some (.dK kvs)):kvs.length<=sizeLine/\(a == sysModules)=false/\∃ vs,KV kvs vs/\h.DictOf (cJ P w) a vs:=RG ok (.inl e)
theorem CG {ks:List Key} (ok:HOk P w H h) (e:H a=some (.tup (ks.map kV))):(tupleKind (cJ P w)).is h ks a:=by
 obtain ⟨_,its,r,o,h1,h2,n,h3⟩:=(show ObjOk P w H h a (.tup (ks.map kV)) from ok a _ e);exact ⟨o,its.toArray,n,h1,h2,h3,by simpa using ye r⟩
theorem RJ {kvs:List (List Key×V)} (ok:HOk P w H h) (e:Rd H a (.dT kvs)):kvs.length<=sizeLine/\(a == sysModules)=false/\
  ∃ xs,KT H kvs xs/\h.DictOfH (tupleKind (cJ P w)) a xs:=by
 obtain ⟨z,y,xs,r,o,es,ep,h1,h2,h3,h4,h5⟩:=(show ObjOk P w H h a (.dT kvs) from RD ok e);refine ⟨z,y,xs,r,o,es,ep,h1,h2,h3,h4,fun x hx=>?_,h5⟩
 have all:∀ {l:List (List Key×V)} {m:List (List Key×Addr×Value)},KT H l m->∀ x∈m,(tupleKind (cJ P w)).is h x.1 x.2.1:=by
  intro l m q
  induction q with
  | nil=>intro x hx;exact nomatch hx
  | @cons p q ps qs hq t ih=>
   intro x hx;rcases Zb.mp hx with e | hx
   ·subst e
    exact CG ok (by rw [← hq.1];exact hq.2.1)
   ·exact ih x hx
 exact all r x hx
theorem Xc {kvs:List (List Key×V)} (ok:HOk P w H h) (e:H a=some (.dT kvs)):kvs.length<=sizeLine/\(a == sysModules)=false/\
  ∃ xs,KT H kvs xs/\h.DictOfH (tupleKind (cJ P w)) a xs:=RJ ok (.inl e)
end
def DGet (H:Hp) (a:Addr) (y:V) (r:Option V):Prop:=
 (∃ kvs k,Rd H a (.dK kvs)/\y=kV k/\r=jQ kvs k)\/∃ kvs k b,Rd H a (.dT kvs)/\y= .ref b/\H b=some (.tup (k.map kV))/\r=jQ kvs k
def DPut (H:Hp) (a:Addr) (y v:V) (H':Hp):Prop:=
 (∃ kvs k,H a=some (.dK kvs)/\y=kV k/\kvs.length < sizeLine/\H'=upd H a (.dK (putK kvs k v)))\/
 ∃ kvs k b,H a=some (.dT kvs)/\y= .ref b/\H b=some (.tup (k.map kV))/\kvs.length < sizeLine/\H'=upd H a (.dT (putK kvs k v))
theorem DGet.k {H:Hp} {a:Addr} {kvs:List (Key×V)} {k:Key} (e:H a=some (.dK kvs)):DGet H a (kV k) (jQ kvs k):=.inl ⟨kvs,k,.inl e,rfl,rfl⟩
theorem DPut.k {H:Hp} {a:Addr} {kvs:List (Key×V)} {k:Key} {v:V} (e:H a=some (.dK kvs)) (hl:kvs.length < sizeLine):DPut H a (kV k) v (upd H a (.dK (putK kvs k v))):=.inl ⟨kvs,k,e,rfl,hl,rfl⟩
section
variable {X:Cx} {pins:List (Addr×Obj)} {U:St} {H:Hp} {s:Shared} {a:Addr} {y v:V} {u r:Value} {o:Option V} {A:Around} {E:Value->Shared->Prop}
theorem Inv.big (I:Inv X pins U H s):sysModules < s.heap.objs.size:=by
 have h:mainGlobals < s.heap.objs.size:=(I.mod.glob.keeps I.bk).lt;exact Nat.lt_trans (by decide) h
theorem d_in {Q:Value->Shared->Prop} (hu:A.units+1 < cLine) (I:Inv X pins U H s) (g:DGet H a y o) (ry:RelV y u) (h:∀ s',Inv X pins U H s'->Q (.bool o.isSome) s'):
  wpAny (model X.prog X.w) A (compareOp .In u (.ref a)) Q E s:=by
 rcases g with ⟨kvs,k,e,ey,l⟩ | ⟨kvs,k,b,e,ey,eb,l⟩
 ·subst ey
  obtain ⟨z,hd,vs,rel,dd⟩:=RG I.hok e;refine wpAny_in_of (Ka ry) hd dd.mapOf ?_;rw [← (rel.val k).isSome_eq,← l];exact h _ (I.tok _)
 ·subst ey
  cases (show u=Value.ref b from ry);obtain ⟨z,hd,xs,rel,dd⟩:=RJ I.hok e;refine wpAny_in_heap (tupleKind_room_in1 hu) (CG I.hok eb) hd dd ?_;have q:=(rel.val k).isSome_eq;rw [Option.isSome_map] at q;rw [← q,← l];exact h _ (I.tok _)
theorem En {h':Heap} {t':Nat} {ob:HO} (I:Inv X pins U H s) (mu:Wt (H a)) (hs:Heap.SameBut a s.heap h') (he:∃ q,h'.get? a=some q) (new:ObjOk X.prog X.w (upd H a ob) h' a ob):
  Inv X pins U (upd H a ob) {s with heap:=h',toks:=t'}:=
 I.write (x:=a) (e:=a) mu (.inl rfl) (fun b q hb z=>(hs.2 b hb).trans z) he new
theorem Up {P:Program} {w:World} {H':Hp} {h':Heap} {kvs:List (Key×V)} {vs:List (Key×Value)} (z:kvs.length<=sizeLine) (hd:(a == sysModules)=false) (rel:KV kvs vs) (dd:h'.DictOf (cJ P w) a vs):
  ObjOk P w H' h' a (.dK kvs):=⟨z,hd,vs,rel,dd⟩
theorem GP {H':Hp} {Q:Unit->Shared->Prop} (hu:A.units+1 < cLine) (I:Inv X pins U H s) (g:DPut H a y v H') (ry:RelV y u) (rv:RelV v r) (h:∀ s',Inv X pins U H' s'->Q () s'):
  wpAny (model X.prog X.w) A (setItem (.ref a) u r) Q E s:=by
 rcases g with ⟨kvs,k,e,ey,l,eH⟩ | ⟨kvs,k,b,e,ey,eb,l,eH⟩
 ·subst ey eH
  obtain ⟨z,hd,vs,rel,dd⟩:=Xb I.hok e;have hz:vs.length<=sizeLine:=by rw [← rel.length];exact z
  have hl:(putK kvs k v).length<=sizeLine:=by have:=j8 kvs k v;omega
  refine wpAny_setItem_pairs (hsz:=hz) (Ka ry) dd fun h' dd' hs=>h _ ?_
  have he:∃ q,h'.get? a=some q:=let ⟨q,_,_,hq,_⟩:=dd';⟨q,hq⟩
  exact En I (by rw [e];exact True.intro) hs he (Up hl hd (rel.put k rv) dd')
 ·subst ey eH
  cases (show u=Value.ref b from ry);obtain ⟨z,hd,xs,rel,dd⟩:=Xc I.hok e;have hz:xs.length<=sizeLine:=by rw [← Paired.length rel];exact z
  have hl:(putK kvs k v).length<=sizeLine:=by have:=j8 kvs k v;omega
  refine wpAny_setItem_heap (hsz:=hz) (tupleKind_room_in1 hu) (CG I.hok eb) dd fun h' dd' hs=>h _ ?_
  obtain ⟨q,es,ep,hq,h2,h3,h4,_,h5⟩:=dd';refine En I (by rw [e];exact True.intro) hs ⟨q,hq⟩ ⟨hl,hd,_,(rel.put k eb rv).keeps fun c ys ec=>?_,q,es,ep,hq,h2,h3,h4,h5⟩;rw [aC (Ws ec e (fun z=>nomatch z))];exact ec
end
theorem Kc {P:Program} {w:World} {H:Hp} (h:Heap) (hb:sysModules < h.objs.size):ObjOk P w H (h.push {cls:=.type "dict",data:=.dict #[]}) h.objs.size (.dK []):=
 ⟨Z7 _,Aam.mpr (Ne.symm (ZR hb)),[],.nil,Heap.DictOf.new h⟩
def CJ:TE:=fun _ H Q=>∀ p,H p=none->Q (.ref p) (upd H p (.dK []))
section
variable {X:Cx} {pos:Pos}
theorem Ke:PE X (.Dict [] [] pos) CJ:=fun pins s U H Q I h=>
 wpAny_Dict_empty ⟨.ref s.heap.objs.size,_,I.laid (a:=s.heap.objs.size) (o:=.dK []) (t':=s.toks) (fun _ _ q=>YZ _ q) (Y4 _) (Kc s.heap I.big),rfl,h _ (I.hok.fresh (Y4 _))⟩
end
def Pn (x:Str):It:=⟨fun i _=>i < x.cps.size,fun i H v H'=>H'=H/\∃ c,x.cps[i]?=some c/\v= .str ⟨#[c]⟩,fun i _=>i=x.cps.size⟩
theorem Ad {P:Program} {w:World} {K:W.Frag} {tg:Expr} (it:Addr) (x:Str) (t:Tok) (ty:String)
  (hty:["enumerate","zip","dict_itemiterator","dict_reverseitemiterator","odict_iterator","itertools.zip_longest","itertools.pairwise"].contains ty=false)
  (W:∀ A:Around,A.handled=none->Walks P w A it [it] [it] x.cps.size (SignAt x) fun i h=>h.IsStrIter it ty x t i)
  (hself:∀ (A:Around) (i:Nat) (s:Shared) (Q:Value->Shared->Prop) (E:Value->Shared->Prop),s.heap.IsStrIter it ty x t i->Q (.ref it) s->wpAny (model P w) A (pyIter (.ref it)) Q E s):Turn P w K tg (Pn x) [it] it (fun i h=>h.IsStrIter it ty x t i) where
 mem:=by simp
 obj:=fun i h st b hb=>by
  have e:b=it:=by simpa using hb
  subst e;obtain ⟨o,e,c,d⟩:=st;exact ⟨o,e,fun v z=>by rw [d] at z;cases z⟩
 keep:=fun i h h' st k=>by
  obtain ⟨o,e,r⟩:=st;exact ⟨o,k it (by simp) o e,r⟩
 item:=by
  intro X hP hw hK hc i pins s U H E I hf st hg;subst hP hw hK;obtain ⟨f0,f1,f2,f3,f4,f5⟩:=hf it (by simp);refine (W X.A (I.ok.hd hc)).item i s _ _ hg st fun v h' tk hv st' kk=>?_
  obtain ⟨c,u,e1,rfl⟩:=hv;have I1:Inv X pins U H {s with heap:=h',toks:=tk}:=I.turned (fun b o hb e=>kk b o (by simpa using hb) e) f0 f1 f3 f4 f5;obtain ⟨o,e,cl,d⟩:=id st';exact ⟨_,rfl,vO (s:={s with heap:=h',toks:=tk}) e cl d hty ⟨.str ⟨#[c]⟩,H,I1,⟨u,rfl⟩,⟨rfl,c,e1,rfl⟩,st',fun b hb=>(hf b hb).1⟩⟩
 done:=by
  intro X hP hw hK hc i pins s U H E I hf st hg;subst hP hw hK;obtain ⟨f0,f1,f2,f3,f4,f5⟩:=hf it (by simp);have hg:i=x.cps.size:=hg;subst hg;exact (W X.A (I.ok.hd hc)).done s _ _ st fun h' tk kk=>⟨rfl,I.turned (fun b o hb e=>kk b o (by simpa using hb) e) f0 f1 f3 f4 f5⟩
 self:=hself
section
variable {X:Cx}
theorem all_range {bs:List Bool}:(List.range bs.length).all (fun i=>bs.getD i false)=bs.all id:=by
 rw [Bool.eq_iff_iff];simp only [AaC,ZS];constructor
 ·intro h b hb
  obtain ⟨i,hi,e⟩:=ZQ.mp hb;have:=h i hi;rw [Y7,YX hi] at this;simp only [Option.getD_some] at this;rw [← e];exact this
 ·intro h i hi
  rw [Y7,YX hi];exact h _ (AaT hi)
theorem uO:∀ {bs:List Bool} {us:List Value} {i:Nat} {v:Value},Vals (bs.map V.bl) us->us[i]?=some v->v= .bool (bs.getD i false)
 | [],_,i,v,.nil,e=>by simp at e
 | b :: bs,_,0,v,.cons r t,e=>by simp at e;subst e;exact r
 | b :: bs,_,i+1,v,.cons r t,e=>by
  simp at e;have:=uO (bs:=bs) t e;simpa using this
def rAll:List V->Hp->VK->Prop:=fun xs H Q=>∃ (p:Addr) (bs:List Bool),xs=[.ref p]/\H p=some (.lst (bs.map V.bl))/\Q (.bl (bs.all id)) H
theorem v5 (hc:X.calm=true):CallR X (.builtin "all") rAll:=by
 intro pins s U H xs us Q I r h;obtain ⟨p,bs,rfl,hp,q⟩:=h;obtain ⟨u,rfl,ru⟩:=vals1 r;cases ru;obtain ⟨hz,its,n,rv,e⟩:=I.hok p _ hp;refine call_all_walk (AbA (items:=its.toArray) ⟨_,e,rfl,n,rfl⟩ ?_);refine ⟨s.heap.objs.size,_,_,_,_,_,fun i=>bs.getD i false,rfl,Walks.list (A:=X.A.in1) (I.ok.hd hc) s.heap.objs.size p (ZR (Za e)) its.toArray,⟨⟨_,Y8 _ rfl,rfl,rfl⟩,⟨_,YZ _ e,rfl,n,rfl⟩⟩,?_,fun h' tk hk=>?_⟩
 ·intro i v s' Q' E' hv hq
  have:=uO rv (by simpa using hv);subst this;exact AaY hq
 ·have hl:its.toArray.size=bs.length:=by have:=rv.length;simpa using this.symm
  rw [hl,all_range];refine ⟨.bl _,H,?_,rfl,q⟩;exact I.kept fun b o e=>hk b o (by simp;exact ZR (Za e)) (YZ _ e)
theorem v6:∀ {ys:List Str} {us:List Value},Vals (ys.map V.str) us->StrsAre us ys
 | [],_,.nil=>.nil
 | y :: ys,_,.cons r t=>by
  obtain ⟨k,e⟩:=(show ∃ t,_=Value.str y t from r);subst e;exact .cons y k (v6 t)
def rJoin:V->List V->Hp->VK->Prop:=fun x xs H Q=>∃ (sep:Str) (p:Addr) (ys:List Str),x= .str sep/\xs=[.ref p]/\H p=some (.lst (ys.map V.str))/\(ys.map (·.length)).sum+ys.length*sep.length<=16777216/\Q (.str (Txt.join sep ys)) H
theorem Eo:WN X "str.join" rJoin:=by
 intro pins s U H x xs v us Q I rx r h;obtain ⟨sep,p,ys,rfl,rfl,hp,hz,q⟩:=h;obtain ⟨u,rfl,ru⟩:=vals1 r;cases ru;obtain ⟨t,rfl⟩:=rx;obtain ⟨hz',its,n,rv,e⟩:=I.hok p _ hp;exact join_list (items:=its.toArray) ⟨_,e,rfl,n,rfl⟩ (by simpa using v6 rv) hz fun t' k=>⟨.str _,H,I.tok _,⟨_,rfl⟩,q⟩
def Xd:V->Option Int->Option Int->Hp->VK->Prop:=fun v lo hi H Q=>∃ x,v= .str x/\x.length<=sizeLine/\Q (.str (Txt.slice x lo hi)) H
theorem Uq:SlR X Xd:=by
 intro pins s U H x v vl vu lo hi sl Q I rx hs pl pu h;obtain ⟨z,rfl,hz,q⟩:=h;obtain ⟨t,rfl⟩:=rx;refine ⟨"str",_,F.slot_str_getitem.lookup,typeIs_str _ _ _,?_⟩;have fin:∀ (t' k:Nat),EP X pins U Q (.str (Txt.slice z lo hi) t') {s with toks:=k}:=fun t' k=>⟨.str _,H,I.tok _,⟨_,rfl⟩,q⟩
 have sz:=ZP (Txt.slice_le z lo hi) hz;obtain ⟨o,ho,hc,hd⟩:=hs;cases pl with
 | none=>
  cases pu with
  | none=>exact Abo (l:=none) (u:=none) (st:=none) ⟨o,ho,hc,hd⟩ rfl (post_val_or_str ⟨sz,fin⟩)
  | int j tj=>exact Abo (l:=none) (u:=some (j,tj)) (st:=none) ⟨o,ho,hc,hd⟩ rfl (post_val_or_str ⟨sz,fin⟩)
 | int i ti=>
  cases pu with
  | none=>exact Abo (l:=some (i,ti)) (u:=none) (st:=none) ⟨o,ho,hc,hd⟩ rfl (post_val_or_str ⟨sz,fin⟩)
  | int j tj=>exact Abo (l:=some (i,ti)) (u:=some (j,tj)) (st:=none) ⟨o,ho,hc,hd⟩ rfl (post_val_or_str ⟨sz,fin⟩)
def RK:R2:=fun x y H Q=>∃ i n,x= .str i/\y= .int n/\MulOk i n/\Q (.str (Txt.mul i n)) H
theorem CK:OpR X (binaryOp .Mult) RK:=by
 intro pins s U H x y v u Q I rx ry h;obtain ⟨i,n,rfl,rfl,hk,q⟩:=h;obtain ⟨t,rfl⟩:=rx;obtain ⟨t',rfl⟩:=ry;exact SB.mul hk fun t' k=>⟨.str _,H,I.tok _,⟨_,rfl⟩,q⟩
def sgn (x:Str):List V:=x.cps.toList.map fun c=>V.str ⟨#[c]⟩
theorem GQ {x:Str} {acc:Array Value} (h:ItemsOf (SignAt x) acc x.cps.size):Vals (sgn x) acc.toList:=by
 obtain ⟨h1,h2⟩:=h
 have key:∀ (l:List Nat) (a:List Value),l.length=a.length->(∀ (j:Nat) (v:Value),a[j]?=some v->∃ (c:Nat) (u:Tok),l[j]?=some c/\v=Value.str ⟨#[c]⟩ u)->Vals (l.map fun c=>V.str ⟨#[c]⟩) a:=by
  intro l
  induction l with
  | nil=>intro a hl _;cases a with
   | nil=>exact .nil
   | cons _ _=>simp at hl
  | cons c l ih=>
   intro a hl hh;cases a with
   | nil=>simp at hl
   | cons v a=>
    obtain ⟨c',u,e1,e2⟩:=hh 0 v (by simp);simp at e1;subst e1;refine .cons ⟨u,e2⟩ (ih a (by simpa using hl) fun j v' e=>?_);obtain ⟨c',u,e1,e2⟩:=hh (j+1) v' (by simpa using e);exact ⟨c',u,by simpa using e1,e2⟩
 refine key x.cps.toList acc.toList (by simp [h1]) fun j v e=>?_
 obtain ⟨c,u,e1,e2⟩:=h2 j v (by simpa using e);exact ⟨c,u,by simpa using e1,e2⟩
theorem Ae (hc:X.calm=true):CallR X (.type "list") (fun xs H Q=>∃ x,xs=[.str x]/\x.cps.size<=sizeLine/\∀ p,H p=none->Q (.ref p) (upd H p (.lst (sgn x)))):=by
 intro pins s U H xs us Q I r h;obtain ⟨x,rfl,hz,q⟩:=h;obtain ⟨u,rfl,t,rfl⟩:=vals1 r;refine call_list_str (I.ok.hd hc) x t (hn:=hz) fun h' tk acc' c' hk hS hacc=>?_
 refine ⟨.ref s.heap.objs.size,_,I.laid (o:=.lst (sgn x)) hk (Y4 _) ⟨by simp [sgn];exact hz,acc'.toList,c',GQ hacc,by simpa using hS⟩,rfl,q _ I.fresh⟩
def Ur (K:W.Frag):List V->Hp->VK->Prop:=fun xs H Q=>∃ x T t b,xs=[x,.ty T]/\TyOf K H x t/\PySem.W.kitOne K t (.type T)=some b/\Q (.bl b) H
theorem Kf:CallR X (.builtin "isinstance") (Ur X.K):=by
 intro pins s U H xs us Q I r h;obtain ⟨x,T,t,b,rfl,ty,e,q⟩:=h;obtain ⟨u,v,rfl,ru,rv⟩:=vals2 r;cases rv;exact Gu I ru ty e fun tk=>⟨.bl b,H,I.tok _,rfl,q⟩
def CN:List V->List V->Bool
 | [],[]=>true
 | x :: xs,y :: ys=>Cy x y && CN xs ys
 | _,_=>false
theorem v7:∀ (xs ys:List V),xs.length=ys.length->(List.range xs.length).all (fun j=>Cy (xs.getD j .non) (ys.getD j .non))=CN xs ys
 | [],[],_=>rfl
 | x :: xs,y :: ys,h=>by
  have ih:=v7 xs ys (by simpa using h);rw [Aag,List.range_succ_eq_map,Aaf,List.all_map];show _=(Cy x y && CN xs ys);rw [← ih];rfl
 | [],y :: ys,h=>by simp at h
 | x :: xs,[],h=>by simp at h
theorem Af:∀ {xs ys:List V},xs.length≠ys.length->CN xs ys=false
 | [],[],h=>absurd rfl h
 | [],y :: ys,_=>rfl
 | x :: xs,[],_=>rfl
 | x :: xs,y :: ys,h=>by show (Cy x y && CN xs ys)=false;rw [Af (xs:=xs) (ys:=ys) (by simpa using h),Bool.and_false]
def Xe (K:W.Frag) (neg:Bool):R2:=fun x y H Q=>∃ a b xs ys,x= .ref a/\y= .ref b/\SqL K H a xs/\SqL K H b ys/\xs.all jO=true/\ys.all jO=true/\Q (.bl (if neg then !CN xs ys else CN xs ys)) H
theorem GR (hu:X.A.units < cLine):OpR X (compareOp .Eq) (Xe X.K false):=by
 intro pins s U H x y v u Q I rx ry h;obtain ⟨a,b,xs,ys,rfl,rfl,ha,hb,fx,fy,q⟩:=h;cases rx;cases ry;obtain ⟨its,r1,p1,z1⟩:=I.list ha;obtain ⟨jts,r2,p2,z2⟩:=I.list hb;have l1:its.toArray.size=xs.length:=by simpa using r1.length.symm
 have l2:jts.toArray.size=ys.length:=by simpa using r2.length.symm
 by_cases hl:xs.length=ys.length
 ·refine SeqAt.eq_listAt (e:=fun j=>Cy (xs.getD j .non) (ys.getD j .non)) p1.isList p2.isList (by rw [l1,l2];exact hl) hu (fun j h1 h2=>?_) ?_
  ·have h1':j < xs.length:=by omega
   have h2':j < ys.length:=by omega
   obtain ⟨u1,e1,q1⟩:=r1.get (YX h1');obtain ⟨u2,e2,q2⟩:=r2.get (YX h2')
   have e1':its.toArray[j]=u1:=by
    have:=Y0.mp e1;obtain ⟨_,z⟩:=this;simpa using z
   have e2':jts.toArray[j]=u2:=by
    have:=Y0.mp e2;obtain ⟨_,z⟩:=this;simpa using z
   rw [e1',e2'];have g1:xs.getD j .non=xs[j]:=by rw [Y7,YX h1'];rfl
   have g2:ys.getD j .non=ys[j]:=by rw [Y7,YX h2'];rfl
   show SeqAt.EqAt X.A.in1 s u1 u2 (Cy (xs.getD j .non) (ys.getD j .non));rw [g1,g2];exact vV q1 q2 (AaC.mp fx _ (AaT h1')) (AaC.mp fy _ (AaT h2'))
  ·rw [l1,v7 xs ys hl]
   exact ⟨.bl _,H,I,rfl,q⟩
 ·refine SeqAt.eq_list_lengthsAt p1.isList p2.isList (by rw [l1,l2];simpa using hl) hu ?_
  rw [if_neg (by simp),Af hl] at q;exact ⟨.bl false,H,I,rfl,q⟩
end
def cH (K:W.Frag) (mg:Str->Option Value) (x:Str) (st:Stmt):Prop:=∃ f fd,Fun K x x st f fd/\mg x=some (.ref f)
theorem aZ {K:W.Frag} {mg:Str->Option Value} {h:Heap} (X:K.In h) (G:h.Ns mainGlobals mg) {x:Str} {st:Stmt} {f:Addr} {oc:Value} {od an:Option Addr} {osl:Array (Option Value)} {kV doc pm cdv ct:Value}
  (a:PySem.W.nsIn K mainGlobals x=some (some (.ref f)))
  (l:K.lookup f=some ⟨oc,od,.func (PySem.W.fnOf x x (fW st) (bR st) (az st) .none kV doc pm an cdv ct),osl⟩)
  (c:PySem.W.codeIn K cdv x=true) (k:PySem.W.keepIn K (.ref f)=true):cH K mg x st:=⟨f,_,Cz l c k,Aa6 X G a⟩
def lN (P:Program) (w:World) (K:W.Frag) (mg:Str->Option Value) (base:Heap) (k:Nat) (x:Str) (ps:List Str) (sp:Sp):Prop:=
 ∃ f fd,mg x=some (.ref f)/\PySem.W.keepIn K (.ref f)=true/\Binds K fd ps []/\rH P w K mg base GD k f fd ps sp
section
variable {P:Program} {w:World} {K:W.Frag} {mg:Str->Option Value} {base:Heap}
theorem Us {x:Str} {st:Stmt} {N ps:List Str} {k:Nat} {sp:Sp} (D:cH K mg x st) (S:aD N ps (az st))
  (hb:∀ (kV doc pm:Value) (an:Option Addr) (cdv ct:Value) (us:List Value),us.length=ps.length->bindArgs (PySem.W.fnOf x x (fW st) (bR st) (az st) .none kV doc pm an cdv ct) ⟨us,[]⟩=pure (ps.zip us))
  (len:∀ vs H Q E,sp vs H Q E->vs.length=ps.length)
  (hbody:∀ (f:Addr) (cdv:Value) (A:Around) (outer:List Env) (s:Shared) (H:Hp) (vs:List V) (Q:VK) (E:XK),Room k (A.deeper (envOfC x (az st) s.heap.objs.size f cdv))->sp vs H Q E->
   ∃ t,PSs (qG GD P w K mg base N x (az st) f cdv A outer s H E).nox (bR st) t/\t {nx:=fun _ H'=>Q .non H',rt:=Q} (start N vs) H):lN P w K mg base (k+1) x ps sp:=by
 obtain ⟨f,fd,F,hm⟩:=D;exact ⟨f,fd,hm,F.kp,F.binds hb,F.ok S len fun cdv A outer s H vs Q E hr h=>hbody f cdv A outer s H vs Q E hr h⟩
end
section
variable {X:Cx}
theorem Kg {k:Nat} {x:Str} {ps:List Str} {sp:Sp} {p pos:Pos} {e:Expr} {es:List Expr} {t:TA} (F:lN X.prog X.w X.K X.mg X.base k x ps sp) (hr:Room k X.A) (hg:Gl X x)
  (ha:PA X (e :: es) t) (hdb:autoParam ((x == ("__debug__":Str))=false) L2.auto2._auto_1) (he:autoParam (starEach (e :: es) X.env=(false,eval e X.env) :: starEach es X.env) L2.auto4._auto_1) (hpl:autoParam ((backTo pos (starEach es X.env)).any (·.1)=false) L2.auto4._auto_1):
  PE X (.Call (.Name x p) (e :: es) [] pos) (xV sp [] E0 t):=by
 obtain ⟨f,fd,a,b,c,d⟩:=F;exact O9 d hr hg a b c .nil Xa ha hdb he hpl
def Ep:R2:=fun x y H Q=>(∃ i j,x= .int i/\y= .int j/\Q (.int (i+j)) H)\/(∃ i j,x= .str i/\y= .str j/\i.length+j.length<=sizeLine/\Q (.str (i ++ j)) H)\/W0 x y H Q
theorem aJ:OpR X (binaryOp .Add) Ep:=T3.or (Cj.or Um)
def Er:R2:=fun x y H Q=>(∃ i j,x= .int i/\y= .int j/\CMul i j/\Q (.int (i*j)) H)\/RK x y H Q\/W2 x y H Q
theorem ji:OpR X (binaryOp .Mult) Er:=T4.or (CK.or Uo)
theorem Kh {x:Str} {z:Str} {pos:Pos} (hg:Gl X x) (hm:∃ t,X.mg x=some (.str z t)) (hd:autoParam ((x == ("__debug__":Str))=false) L2.auto2._auto_1):PE X (.Name x pos) (tC (.str z)):=
 let ⟨t,e⟩:=hm;yK hg e ⟨t,rfl⟩ hd
theorem Kl {x:Str} {z:Int} {pos:Pos} (hg:Gl X x) (hm:∃ t,X.mg x=some (.int z t)) (hd:autoParam ((x == ("__debug__":Str))=false) L2.auto2._auto_1):PE X (.Name x pos) (tC (.int z)):=
 let ⟨t,e⟩:=hm;yK hg e ⟨t,rfl⟩ hd
theorem Xf {x:Str} {T:String} {pos:Pos} (hg:Gl X x) (hm:X.mg x=none) (hv:bootBuiltins x=some (.type T)) (hn:autoParam (x≠"__name__") L2.auto2._auto_1) (hd:autoParam ((x == ("__debug__":Str))=false) L2.auto2._auto_1):PE X (.Name x pos) (tC (.ty T)):=
 Oj hg hm hv rfl hn hd
def Pq (K:W.Frag):R2:=fun x y H Q=>(∃ i j,x= .str i/\y= .str j/\Q (.bl (!(Builtin.Str.occurrences j i 0 j.length 1).isEmpty)) H)\/rIn K false x y H Q
theorem Ut:OpR X (compareOp .In) (Pq X.K):=Gp.or Gy
def Uu (K:W.Frag):R2:=fun x y H Q=>rEq x y H Q\/Xe K false x y H Q
theorem Uv (hu:X.A.units < cLine):OpR X (compareOp .Eq) (Uu X.K):=WF.or (GR hu)
def Xg (K:W.Frag):V->Option Int->Option Int->Hp->VK->Prop:=fun x lo hi H Q=>WW K x lo hi H Q\/WM K x lo hi H Q\/Xd x lo hi H Q
theorem Km:SlR X (Xg X.K):=Ph.or (Ug.or Uq)
def Pr (K:W.Frag) (tl:TE):TI:=fun U H R=>tl U H fun x H1=>(∃ a,x= .ref a/\(∃ xs,SqL K H1 a xs)/\R (Rz K a) H1)\/(∃ a,x= .ref a/\(∃ xs,SqT K H1 a xs)/\R (Wi K a) H1)\/(∃ z,x= .str z/\R (Pn z) H1)
theorem Uw {tg l:Expr} {tl:TE} (hl:PE X l tl):PI X tg l (Pr X.K tl):=by
 intro pins s U H R I h;refine eQ (hl pins s U H _ I h) fun v s1 qq0=>?_
 obtain ⟨x,H1,I1,r1,q1⟩:=qq0;rcases q1 with ⟨a,rfl,⟨xs,hq⟩,q⟩ | ⟨a,rfl,⟨xs,hq⟩,q⟩ | ⟨z,rfl,q⟩
 ·cases r1
  obtain ⟨its,rv,p,hz⟩:=I1.list hq;refine AbA p.isList ?_;refine ⟨s1.heap.objs.size,[s1.heap.objs.size],_,_,H1,rfl,I1.kept (t':=s1.toks) fun b o e=>YZ _ e,Gj a _,⟨_,Y8 _ rfl,rfl,rfl⟩,fun b hb=>?_,q⟩;have e:b=s1.heap.objs.size:=by simpa using hb
  subst e;exact I1.fpOk (Y4 _) (I1.hok.fresh (Y4 _))
 ·cases r1
  obtain ⟨its,rv,p,hz⟩:=I1.tuple hq;refine wpAny_pyIter_tuple (show s1.heap.IsTuple a its.toArray from p) ?_;refine ⟨s1.heap.objs.size,[s1.heap.objs.size],_,_,H1,rfl,I1.kept (t':=s1.toks) fun b o e=>YZ _ e,Ce a _,⟨_,Y8 _ rfl,rfl,rfl⟩,fun b hb=>?_,q⟩;have e:b=s1.heap.objs.size:=by simpa using hb
  subst e;exact I1.fpOk (Y4 _) (I1.hok.fresh (Y4 _))
 ·obtain ⟨t,rfl⟩:=r1
  have fin:∀ (ty:String) (T:Turn X.prog X.w X.K tg (Pn z) [s1.heap.objs.size] s1.heap.objs.size (fun i h=>h.IsStrIter s1.heap.objs.size ty z t i)) (o:Obj),(s1.heap.push o).IsStrIter s1.heap.objs.size ty z t 0->PIE X pins U tg R (.ref s1.heap.objs.size) {s1 with heap:=s1.heap.push o}:=
   fun ty T o st=>⟨s1.heap.objs.size,[s1.heap.objs.size],_,_,H1,rfl,I1.kept (t':=s1.toks) fun b o e=>YZ _ e,T,st,fun b hb=>by
    have e:b=s1.heap.objs.size:=by simpa using hb
    subst e;exact I1.fpOk (Y4 _) (I1.hok.fresh (Y4 _)),q⟩
  cases ha:z.cps.all (· < 128)
  ·exact wpAny_pyIter_wide ha (fin "str_iterator" (Ad _ z t _ (by decide) (fun A' hA=>Walks.strWide hA _ z t) fun A i s Q E st h=>wpAny_pyIter_striter_wide st h) _ ⟨_,Y8 _ rfl,rfl,rfl⟩)
  ·exact wpAny_pyIter_ascii ha (fin "str_ascii_iterator" (Ad _ z t _ (by decide) (fun A' hA=>Walks.strAscii hA _ z t) fun A i s Q E st h=>wpAny_pyIter_striter_ascii st h) _ ⟨_,Y8 _ rfl,rfl,rfl⟩)
end
section
variable {X:Cx} {K:W.Frag}
theorem Pu (hK:X.K=K):IxR X (Uj K):=hK ▸ Uk
theorem Ko (hK:X.K=K):OpR X (compareOp .In) (Pq K):=hK ▸ Ut
theorem Ux (hK:X.K=K) (hu:X.A.units < cLine):OpR X (compareOp .Eq) (Uu K):=hK ▸ Uv hu
theorem Px (hK:X.K=K):SlR X (Xg K):=hK ▸ Km
theorem Py {tg l:Expr} {tl:TE} (hK:X.K=K) (hl:PE X l tl):PI X tg l (Pr K tl):=hK ▸ Uw hl
def GX (K:W.Frag):List V->Hp->VK->Prop:=fun xs H Q=>∃ x n,xs=[x]/\WL K x H n/\Q (.int n) H
theorem aG (hK:X.K=K):CallR X (.builtin "len") (GX K):=hK ▸ JC
theorem cA (hK:X.K=K):CallR X (.builtin "isinstance") (Ur K):=hK ▸ Kf
def Kp (K:W.Frag):List V->Hp->VK->Prop:=fun xs H Q=>(∃ p ys,xs=[.ref p]/\(SqL K H p ys\/SqT K H p ys)/\∀ l,H l=none->Q (.ref l) (upd H l (.lst ys)))\/(∃ x,xs=[.str x]/\x.cps.size<=sizeLine/\∀ p,H p=none->Q (.ref p) (upd H p (.lst (sgn x))))
theorem v8 (hK:X.K=K) (hc:X.calm=true):CallR X (.type "list") (Kp K):=hK ▸ yQ.or (Ae hc)
variable {o e:Expr} {es:List Expr} {to:TE} {t:TA} {name:Str} {apos cpos:Pos} {T id:String} {r:V->List V->Hp->VK->Prop}
theorem Uy (hK:X.K=K) (pa:PlainAttrs T) (slot:Slot T name id) (hty:typeOf (.builtin id)=pure (.type "method_descriptor")) (hm:WN X id r) (ho:PE X o to) (ha:PA X (e :: es) t)
  (hbase:autoParam (attributeBase o name X.env (eval o X.env)=eval o X.env) L2.auto4._auto_1)
  (hfew:((backTo cpos (starEach (e :: es) X.env)).all (fun x=>!x.1) && (backToKw cpos (keywordEach [] X.env)).all (fun x=>x.1.isSome)
   && decide ((e :: es).length+([]:List Keyword).length+(if ([]:List Keyword).isEmpty then 0 else 1) < 30))=true:=by rfl)
  (hline:autoParam ((apos.endLine == cpos.line)=true) L2.auto4._auto_1) (hs:autoParam (starEach (e :: es) X.env=(false,eval e X.env) :: starEach es X.env) L2.auto4._auto_1) (hplain:autoParam ((backTo cpos (starEach es X.env)).any (·.1)=false) L2.auto4._auto_1):
  PE X (.Call (.Attribute o name apos) (e :: es) [] cpos) (WX K T r to t):=by
 subst hK;exact WY pa slot hty hm ho ha hbase hfew hline hs hplain
theorem Pz {ts:List Expr} {k:Nat} {gs:BW} {n:Nat} {pos:Pos} (hK:X.K=K) (hc:X.calm=true) (h:Wh X ts gs)
  (hn:autoParam ((assignEach ts X.env).length=n) L2.auto4._auto_1) (hst:autoParam ((assignEach ts X.env).findIdx? (·.1)=none) L2.auto4._auto_1):PG X (.Tuple ts k pos) (Ow K n gs):=by
 subst hK;exact Jp hc h hn hst
end
section
variable {X:Cx} {sc scope:Scope} {N':List Str} {C:Addr} {s₀:Shared} {H₀:Hp} {ex:List Addr} {x:Str} {pos:Pos}
theorem pvL (i:Nat) (h:sc.names.lookup x=some .local) (hN:autoParam (X.N[i]?=some x) L2.auto4._auto_1) (hsc:autoParam (X.env.scope=sc) L2.auto4._auto_1) (hd:autoParam ((x == ("__debug__":Str))=false) L2.auto6._auto_1) (hcd:autoParam ((x == ("__classdict__":Str))=false) L2.auto6._auto_1):
  PE X (.Name x pos) (rF i):=yJ hN (.inl (by rw [hsc];exact h)) hd hcd
theorem pvC (i:Nat) (h:sc.names.lookup x=some .cell) (hN:autoParam (X.N[i]?=some x) L2.auto4._auto_1) (hsc:autoParam (X.env.scope=sc) L2.auto4._auto_1) (hd:autoParam ((x == ("__debug__":Str))=false) L2.auto6._auto_1) (hcd:autoParam ((x == ("__classdict__":Str))=false) L2.auto6._auto_1):
  PE X (.Name x pos) (rF i):=yJ hN (.inr (.inl (by rw [hsc];exact h))) hd hcd
theorem pvBL (i:Nat) (h:scope.names.lookup x=some .local) (hN:autoParam (N'[i]?=some x) L2.auto4._auto_1) (hd:autoParam ((x == ("__debug__":Str))=false) L2.auto6._auto_1) (hcd:autoParam ((x == ("__classdict__":Str))=false) L2.auto6._auto_1):
  PE (rE X N' scope C s₀ H₀ ex) (.Name x pos) (rF i):=yJ hN (.inl (lookup_relabel_local h)) hd hcd
theorem pvBF (i:Nat) (h:scope.names.lookup x=some .free) (hN:autoParam (N'[i]?=some x) L2.auto4._auto_1) (hd:autoParam ((x == ("__debug__":Str))=false) L2.auto6._auto_1) (hcd:autoParam ((x == ("__classdict__":Str))=false) L2.auto6._auto_1):
  PE (rE X N' scope C s₀ H₀ ex) (.Name x pos) (rF i):=yJ hN (by
   rcases rN (env:=X.env) h with z | z
   ·exact .inr (.inl z)
   ·exact .inr (.inr z)) hd hcd
theorem jA {env:Env}:∀ {names:List (Str×NameKind)} {x:Str},names.lookup x=some .globalImplicit->
  (names.map fun (n,k)=>if (k == NameKind.free && env.scope.kind == .function && env.kindOf n == some .cell) then (n,NameKind.cell) else (n,k)).lookup x=some .globalImplicit
 | [],_,h=>by simp at h
 | (n,k) :: r,x,h=>by
  have ih:=@jA env r x;show List.lookup x ((if (k == NameKind.free && env.scope.kind == .function && env.kindOf n == some .cell)=true then (n,NameKind.cell) else (n,k)) :: _)=_;cases hx:x == n with
  | true=>
   simp only [ZZ,hx] at h;cases h;simp [ZZ,hx]
  | false=>
   simp only [ZZ,hx] at h;by_cases hc:(k == NameKind.free && env.scope.kind == .function && env.kindOf n == some .cell)=true
   ·rw [if_pos hc];simp only [ZZ,hx];exact ih h
   ·rw [if_neg hc];simp only [ZZ,hx];exact ih h
theorem Xh (h:scope.names.lookup x=some .globalImplicit:=by trivial):Gl (rE X N' scope C s₀ H₀ ex) x:=jA h
theorem pgB (i:Nat) (h:scope.names.lookup x=some .local) (hN:N'.Nodup) (hi:autoParam (N'[i]?=some x) L2.auto4._auto_1):PG (rE X N' scope C s₀ H₀ ex) (.Name x pos) (qt i):=
 Ec hN hi (.inl (lookup_relabel_local h)) (.inr (lookup_relabel_local h))
end
def jC:Expr->Bool
 | .ListComp ..=>false | .SetComp ..=>false | .DictComp ..=>false | _=>true
theorem yf {value:Expr} {target:Option Expr} {line:Nat} {env:Env} (h:jC value=true):swapsWith value target line env=pure false:=by
 cases value <;> first | rfl | cases h
def rQ:Expr->Bool
 | .Slice ..=>false | _=>true
theorem pix {b:Expr} (h:rQ b=true):Ek b:=by
 intro o i;cases b <;> first | rfl | cases h
def tX:Expr->Bool
 | .Set ..=>false | _=>true
theorem Kq {e:Expr} {env:Env} (h:tX e=true):∀ x,foldedSetIterable e env x=pure x:=by
 intro x;cases e <;> first | rfl | cases h
def notStar:Expr->Bool
 | .Starred ..=>false | _=>true
theorem bI {e:Expr} {es:List Expr} {env:Env} (h:notStar e=true):starEach (e :: es) env=(false,eval e env) :: starEach es env:=by
 cases e <;> first | rfl | cases h
theorem lg {env:Env} {pos:Pos}:∀ {es:List Expr},es.all notStar=true->(backTo pos (starEach es env)).any (·.1)=false
 | [],_=>rfl
 | e :: es,h=>by
  simp only [Aaf,Zt] at h;rw [bI h.1];show (false || (backTo pos (starEach es env)).any (·.1))=false;rw [lg h.2];rfl
theorem Ks {env:Env} {pos:Pos}:∀ {es:List Expr},es.all notStar=true->(backTo pos (starEach es env)).all (fun x=>!x.1)=true
 | [],_=>rfl
 | e :: es,h=>by
  simp only [Aaf,Zt] at h;rw [bI h.1];show (true && (backTo pos (starEach es env)).all (fun x=>!x.1))=true;rw [Ks h.2];rfl
section
variable {X:Cx} {K:W.Frag} {e:Expr} {es:List Expr} {te:TE} {t:TA} {pos p:Pos}
theorem paC (ha:PE X e te) (hr:PA X es t) (h:autoParam (notStar e=true) L2.auto4._auto_1):PA X (e :: es) (Ei te t):=O6 ha hr (bI h)
theorem Xi {k:Nat} {x:Str} {ps:List Str} {sp:Sp} (F:lN X.prog X.w X.K X.mg X.base k x ps sp) (hr:Room k X.A) (hg:Gl X x) (ha:PA X (e :: es) t) (hdb:(x == ("__debug__":Str))=false) (h:autoParam ((e :: es).all notStar=true) L2.auto4._auto_1):
  PE X (.Call (.Name x p) (e :: es) [] pos) (xV sp [] E0 t):=by
 simp only [Aaf,Zt] at h;exact Kg F hr hg ha hdb (bI h.1) (lg h.2)
theorem Xj {x:Str} {id:String} {r:List V->Hp->VK->Prop} (hc:CallR X (.builtin id) r) (hg:Gl X x) (hm:X.mg x=none) (hv:bootBuiltins x=some (.builtin id)) (ha:PA X (e :: es) t) (hn:x≠"__name__") (hdb:(x == ("__debug__":Str))=false) (h:autoParam ((e :: es).all notStar=true) L2.auto4._auto_1):
  PE X (.Call (.Name x p) (e :: es) [] pos) (Ue r t):=by
 simp only [Aaf,Zt] at h;exact JL hc hg hm hv ha hn hdb (bI h.1) (lg h.2)
theorem Uz {x:Str} {T:String} {r:List V->Hp->VK->Prop} (hc:CallR X (.type T) r) (hg:Gl X x) (hm:X.mg x=none) (hv:bootBuiltins x=some (.type T)) (ha:PA X (e :: es) t) (hn:x≠"__name__") (hdb:(x == ("__debug__":Str))=false) (h:autoParam ((e :: es).all notStar=true) L2.auto4._auto_1):
  PE X (.Call (.Name x p) (e :: es) [] pos) (Ue r t):=by
 simp only [Aaf,Zt] at h;exact Gw hc hg hm hv ha hn hdb (bI h.1) (lg h.2)
def rR:Expr->Bool
 | .Call ..=>false | _=>true
theorem Xk {o:Expr} {f:Str} {env:Env} {w:Sem Value} (h:rR o=true):attributeBase o f env w=w:=by
 cases o <;> first | rfl | cases h
theorem Xl {o:Expr} {to:TE} {name:Str} {apos cpos:Pos} {T id:String} {r:V->List V->Hp->VK->Prop} (hK:X.K=K) (pa:PlainAttrs T) (slot:Slot T name id) (hty:typeOf (.builtin id)=pure (.type "method_descriptor")) (hm:WN X id r) (ho:PE X o to) (ha:PA X (e :: es) t)
  (hbase:autoParam (rR o=true) L2.auto4._auto_1) (hl:autoParam (es.length < 20) L2.auto2._auto_1) (hline:autoParam ((apos.endLine == cpos.line)=true) L2.auto4._auto_1) (h:autoParam ((e :: es).all notStar=true) L2.auto4._auto_1):
  PE X (.Call (.Attribute o name apos) (e :: es) [] cpos) (WX K T r to t):=by
 have hA:=Ks (env:=X.env) (pos:=cpos) h;simp only [Aaf,Zt] at h;refine Uy hK pa slot hty hm ho ha (Xk hbase) ?_ hline (bI h.1) (lg h.2);rw [hA];have:(e :: es).length+([]:List Keyword).length+(if ([]:List Keyword).isEmpty then 0 else 1) < 30:=by simp;omega
 rw [Zc this];rfl
theorem Xm {i:Nat} {x:Str} {pos':Pos} (hN:X.N.Nodup) (hi:X.N[i]?=some x) (hx:Loc X.env.scope x) (he:PE X e te) (hf:X.fn x=true) (h:autoParam (jC e=true) L2.auto4._auto_1):PS X (.Assign [.Name x pos'] e pos) (yL te (qt i)):=
 Jr hN hi hx he (yf h) (.inl hf)
theorem UG (he:PE X e te) (h:autoParam (jC e=true) L2.auto4._auto_1):PS X (.Expr e pos) (Eb te):=Ot he (yf h)
theorem ixE {a b:Expr} {ta tb:TE} (hK:X.K=K) (ha:PE X a ta) (hb:PE X b tb) (h:autoParam (rQ b=true) L2.auto4._auto_1):PE X (.Subscript a b pos) (Ob (Uj K) ta tb):=WP (Pu hK) ha hb (pix h)
theorem Xn {tg iter:Expr} {body:List Stmt} {wi:TI} {g:TG} {tb:TS} (hp:PassesOwn (model X.prog X.w) X.A X.env X.xe) (hc:X.calm=true) (hi:PI X tg iter wi) (hg:PG X tg g) (hb:PSs X body tb) (h:autoParam (tX iter=true) L2.auto4._auto_1):PS X (.For tg iter body [] pos) (Ox wi g tb):=
 TV hp hc hi hg hb (Kq h)
end
section
variable {X:Cx} {tg iter elt:Expr} {ifs:List Expr} {scope:Scope} {pos:Pos} {N':List Str} {sub:List (Option Nat)} {wi:TI} {g:TG} {tt:TT} {te:TE} {N:List Str} {sc:Scope}
theorem Xo (S:uN N sc N' scope sub) (hc:X.calm=true) (hN:X.N=N) (hsc:X.env.scope=sc) (hi:PI X tg iter wi)
  (hg:∀ (C:Addr) (s₀:Shared) (H₀:Hp) (ex:List Addr),PG (rE X N' scope C s₀ H₀ ex) tg g)
  (ht:∀ (C:Addr) (s₀:Shared) (H₀:Hp) (ex:List Addr),zZ (rE X N' scope C s₀ H₀ ex) ifs tt)
  (he:∀ (C:Addr) (s₀:Shared) (H₀:Hp) (ex:List Addr),PE (rE X N' scope C s₀ H₀ ex) elt te) (h:autoParam (tX iter=true) L2.auto4._auto_1):
  PE X (.ListComp elt [⟨tg,iter,ifs,0⟩] scope pos) (v4 sub wi g tt te):=Em S hc hN hsc hi hg ht he (Kq h)
end
theorem bw:bootBuiltins "len"=some (.builtin "len"):=by trivial
theorem UJ:bootBuiltins "max"=some (.builtin "max"):=by trivial
theorem UL:bootBuiltins "min"=some (.builtin "min"):=by trivial
theorem aX:bootBuiltins "isinstance"=some (.builtin "isinstance"):=by trivial
theorem CP:bootBuiltins "all"=some (.builtin "all"):=by trivial
theorem tY:bootBuiltins "sorted"=some (.builtin "sorted"):=by trivial
theorem Ku:bootBuiltins "sum"=some (.builtin "sum"):=by trivial
theorem mV:bootBuiltins "list"=some (.type "list"):=by trivial
theorem v9:bootBuiltins "tuple"=some (.type "tuple"):=by trivial
theorem CQ:bootBuiltins "int"=some (.type "int"):=by trivial
theorem Kv:bootBuiltins "str"=some (.type "str"):=by trivial
theorem rT:bootBuiltins "enumerate"=some (.type "enumerate"):=by trivial
theorem UT:bootBuiltins "zip"=some (.type "zip"):=by trivial
theorem oR:bootBuiltins "reversed"=some (.type "reversed"):=by trivial
theorem vq:bootBuiltins "bool"=some (.type "bool"):=by trivial
theorem qm {c A B:Prop} [Decidable c] (h1:c->A) (h2:¬ c->B):if decide c=true then A else B:=by
 by_cases h:c
 ·rw [if_pos (Zc h)];exact h1 h
 ·rw [if_neg (by rw [Zd h];exact Ze)];exact h2 h
theorem vy {α:Type} {xs:List α} {k:Int} {v:α} (h0:0<=k) (h:xs[k.toNat]?=some v):uX xs k=some v:=by
 have e:((k.toNat:Nat):Int)=k:=by omega
 rw [← e];exact cG h
section
variable {U:St} {H:Hp} {D:Ends} {ta tb te tc:TE} {tt tu:TT} {Q:VK} {t u:TS} {g:TG}
theorem j9 (h:t {D with nx:=u D} U H):Om t u D U H:=h
theorem cY (h:D.nx U H):Ji D U H:=h
theorem gK (h:te U H fun x H1=>g x U H1 D.nx):yL te g D U H:=h
theorem cZ {i:Nat} {v:V} {R:St->Hp->Prop} (h:R (U.set i (some v)) H):qt i v U H R:=h
theorem gM {to ti:TE} {ts:Ca} {v:V} {R:St->Hp->Prop} (h:to U H fun o H1=>ti U H1 fun i H2=>ts o i v H2 fun H3=>R U H3):Tz to ti ts v U H R:=h
theorem gO (h:te U H D.rt):Tt te D U H:=h
theorem c7 (h:te U H fun _ H1=>D.nx U H1):Eb te D U H:=h
theorem lV (h:tt U H fun b H1=>if b=true then t D U H1 else u D U H1):Tv tt t u D U H:=h
theorem dg {R:Bool->Hp->Prop} (h:te U H fun x H1=>∃ k,x= .bl k/\R k H1):Jy te U H R:=h
theorem lW {R:Bool->Hp->Prop} (h:te U H fun x H1=>∃ k,x= .bl k/\R k H1):tB te U H R:=h
theorem gP {R:Bool->Hp->Prop} (h:tt U H fun c H1=>R (!c) H1):Tg tt U H R:=h
theorem gQ {R:Bool->Hp->Prop} (h:tt U H fun c H1=>if c=true then tu U H1 R else R false H1):Tf tt tu U H R:=h
theorem lX {R:Bool->Hp->Prop} (h:tt U H fun c H1=>if c=true then R true H1 else tu U H1 R):tOr tt tu U H R:=h
theorem dh (h:ta U H fun x H1=>∃ c,x= .bl c/\if c=true then tb U H1 Q else Q (.bl false) H1):Jf ta tb U H Q:=h
theorem di (h:ta U H fun x H1=>∃ c,x= .bl c/\Q (.bl (!c)) H1):Jg ta U H Q:=h
theorem gU (h:tt U H fun c H1=>if c=true then ta U H1 Q else tb U H1 Q):tIf tt ta tb U H Q:=h
theorem gW {i:Nat} {v:V} (e:U[i]?=some (some v)) (h:Q v H):rF i U H Q:=⟨v,e,h⟩
theorem yg {v:V} (h:Q v H):tC v U H Q:=h
theorem lY {r:R2} (h:ta U H fun x H1=>tb U H1 fun y H2=>r x y H2 Q):Ob r ta tb U H Q:=h
theorem lZ {r:V->Hp->VK->Prop} (h:ta U H fun x H1=>r x H1 Q):tUn r ta U H Q:=h
theorem mj {r:List V->Hp->VK->Prop} {a:TA} (h:a U H fun vs H1=>r vs H1 Q):Ue r a U H Q:=h
theorem dj {a:TA} {R:List V->Hp->Prop} (h:te U H fun x H1=>a U H1 fun xs H2=>R (x :: xs) H2):Ei te a U H R:=h
theorem gY {R:List V->Hp->Prop} (h:R [] H):O5 U H R:=h
theorem dm {sp:Sp} {E:XK} {a:TA} (h:a U H fun vs H1=>sp vs H1 Q E):xV sp [] E a U H Q:=by
 unfold xV;simpa only [Z5] using h
theorem qu {a:TA} (h:a U H fun xs H1=>xs.length<=sizeLine/\∀ p,H1 p=none->Q (.ref p) (upd H1 p (.tup xs))):O7 a U H Q:=h
theorem qw {a:TA} (h:a U H fun xs H1=>xs.length<=sizeLine/\∀ p,H1 p=none->Q (.ref p) (upd H1 p (.lst xs))):O8 a U H Q:=h
theorem mq {K:W.Frag} {T:String} {r:V->List V->Hp->VK->Prop} {a:TA} (h:te U H fun x H1=>tyV K T x H1/\a U H1 fun xs H2=>r x xs H2 Q):WX K T r te a U H Q:=h
theorem my {r:V->Option Int->Option Int->Hp->VK->Prop} {tl th:TO} (h:te U H fun x H1=>tl U H1 fun l H2=>th U H2 fun u H3=>r x l u H3 Q):tSl r te tl th U H Q:=h
theorem gZ {R:Option Int->Hp->Prop} (h:R none H):yM U H R:=h
theorem dq {R:Option Int->Hp->Prop} (h:te U H fun x H1=>∃ i,x= .int i/\R (some i) H1):JN te U H R:=h
theorem du {R:Bool->Hp->Prop} (h:R true H):J7 U H R:=h
theorem dw {a:TA} {R:It->Hp->Prop} (h:a U H fun vs H1=>∃ j:Int,vs=[.int j]/\-(2 ^ 62)<=j/\j < 2 ^ 62/\R (Jb 0 j.toNat) H1):Jt a U H R:=h
theorem dz {a:TA} {R:It->Hp->Prop} (h:a U H fun vs H1=>∃ i j:Int,vs=[.int i,.int j]/\(-(2 ^ 62)<=i/\i < 2 ^ 62/\-(2 ^ 62)<=j/\j < 2 ^ 62)/\R (Jb i (j - i).toNat) H1):Ju a U H R:=h
theorem dB {K:W.Frag} {R:It->Hp->Prop} (h:te U H fun x H1=>(∃ a,x= .ref a/\(∃ xs,SqL K H1 a xs)/\R (Rz K a) H1)\/(∃ a,x= .ref a/\(∃ xs,SqT K H1 a xs)/\R (Wi K a) H1)\/(∃ z,x= .str z/\R (Pn z) H1)):Pr K te U H R:=h
theorem dD {sub:List (Option Nat)} {wi:TI} (h:wi U H fun J H1=>rO sub g tt te U Q J H1):v4 sub wi g tt te U H Q:=h
theorem ie {wi:TI} {tbd:TS} (h:wi U H fun J H1=>∃ W:Nat->Nat->St->Hp->Prop,(∃ m,W 0 m U H1)/\∀ i m U H,W i m U H->
 (J.stop i H/\D.nx U H)\/(J.go i H/\∃ N:St->Hp->Prop,(∀ U' H',N U' H'->∃ m',m' < m/\W (i+1) m' U' H')/\∀ x H',J.yld i H x H'->g x U H' fun σ2 H2=>tbd {D with nx:=N,ct:=N,bk:=D.nx} σ2 H2)):Ox wi g tbd D U H:=h
variable {i j:Int} {x y:Str} {f:Int->Int->V} {C:Int->Int->Prop} {K:W.Frag}
theorem mz (h:Q (f i j) H):Oc f (.int i) (.int j) H Q:=⟨_,_,rfl,rfl,h⟩
theorem xG (c:C i j) (h:Q (f i j) H):rI C f (.int i) (.int j) H Q:=⟨_,_,rfl,rfl,c,h⟩
theorem dF (h:Q (.int (i+j)) H):Ep (.int i) (.int j) H Q:=.inl ⟨_,_,rfl,rfl,h⟩
theorem mW (c:x.length+y.length<=sizeLine) (h:Q (.str (x ++ y)) H):Ep (.str x) (.str y) H Q:=.inr (.inl ⟨_,_,rfl,rfl,c,h⟩)
theorem UV {a b:Addr} {xs ys:List V} (ha:H a=some (.lst xs)) (hb:H b=some (.lst ys)) (c:xs.length+ys.length<=sizeLine) (h:∀ p,H p=none->Q (.ref p) (upd H p (.lst (xs ++ ys)))):Ep (.ref a) (.ref b) H Q:=
 .inr (.inr ⟨a,b,xs,ys,rfl,rfl,ha,hb,c,h⟩)
theorem dG (c:CMul i j) (h:Q (.int (i*j)) H):Er (.int i) (.int j) H Q:=.inl ⟨_,_,rfl,rfl,c,h⟩
theorem UW (c:MulOk x j) (h:Q (.str (Txt.mul x j)) H):Er (.str x) (.int j) H Q:=.inr (.inl ⟨_,_,rfl,rfl,c,h⟩)
theorem aU {p:Addr} {xs:List V} {v:V} (s:SqL K H p xs) (e:uX xs i=some v) (h:Q v H):Uj K (.ref p) (.int i) H Q:=.inl ⟨p,xs,i,v,rfl,rfl,s,e,h⟩
theorem fK {p:Addr} {xs:List V} {v:V} (s:SqT K H p xs) (e:uX xs i=some v) (h:Q v H):Uj K (.ref p) (.int i) H Q:=.inr (.inl ⟨p,xs,i,v,rfl,rfl,s,e,h⟩)
theorem Kw {c:Nat} (s:x.length<=sizeLine) (e:uX x.cps.toList i=some c) (h:Q (.str ⟨#[c]⟩) H):Uj K (.str x) (.int i) H Q:=.inr (.inr ⟨x,i,c,rfl,rfl,s,e,h⟩)
theorem bK {p:Addr} {xs:List V} {n:Nat} {v:V} {R:Hp->Prop} (hp:H p=some (.lst xs)) (e:Gx xs.length i=some n) (h:R (upd H p (.lst (xs.set n v)))):uM (.ref p) (.int i) v H R:=⟨p,xs,i,n,rfl,rfl,hp,e,h⟩
theorem gb (h:Q (.bl (!(Builtin.Str.occurrences y x 0 y.length 1).isEmpty)) H):Pq K (.str x) (.str y) H Q:=.inl ⟨_,_,rfl,rfl,h⟩
theorem mC {b:Bool} {R:Bool->Prop} (h:R b):∃ k,V.bl b= .bl k/\R k:=⟨b,rfl,h⟩
theorem dH {n:Int} {R:Int->Prop} (h:R n):∃ k,V.int n= .int k/\R k:=⟨n,rfl,h⟩
end
theorem Same.upd {H H':Hp} {p:Addr} {o:HO} (s:Same H H') (hn:H' p=none):Same H (upd H' p o):=fun b u e=>by
 have q:=s b u e;rw [aC (fun z=>by rw [z,hn] at q;cases q)];exact q
def Chg (p:Addr) (H H':Hp):Prop:=∀ b o,b≠p->H b=some o->H' b=some o
theorem Chg.refl (p:Addr) (H:Hp):Chg p H H:=fun _ _ _ e=>e
theorem Chg.trans {p:Addr} {H H1 H2:Hp} (a:Chg p H H1) (b:Chg p H1 H2):Chg p H H2:=fun c o n e=>b c o n (a c o n e)
theorem aY {H:Hp} {q b:Addr} {o u:HO} (hq:H q=none) (hb:H b=some u):upd H q o b=some u:=by
 rw [aC (fun z=>by rw [z,hq] at hb;cases hb)];exact hb
theorem CV (sep:Str) (ys:List Str):Txt.join sep ys=Str.join sep ys:=by
 show Builtin.Str.glued sep ys=Str.join sep ys;exact PySem.StrLaws.glued_eq_join sep ys
theorem Ag (ys:List Str):(Txt.join (Str.ofString "") ys).cps.toList=(ys.map fun y=>y.cps.toList).flatten:=by
 rw [CV];have e0:(Str.ofString "").cps= #[]:=by trivial
 have key:∀ ys:List Str,(Str.join (Str.ofString "") ys).cps.toList=(ys.map fun y=>y.cps.toList).flatten:=by
  intro ys
  induction ys with
  | nil=>rfl
  | cons y r ih=>
   cases r with
   | nil=>simp [Str.join]
   | cons z r=>
    show ((y ++ Str.ofString "") ++ Str.join (Str.ofString "") (z :: r)).cps.toList=_;rw [Str.cps_append,Str.cps_append,e0];simp only [Array.append_empty,ZJ,ih,Z3,AaL]
 exact key ys
theorem Ky {ys:List Str} (h:∀ y∈ys,y.length=1):(ys.map (·.length)).sum=ys.length:=by
 induction ys with
 | nil=>rfl
 | cons y r ih=>
  simp only [Z3,List.sum_cons,Aag,h y (by simp),ih fun z hz=>h z (by simp [hz])];omega
theorem PB (c:Nat):(⟨#[c]⟩:Str).length=1:=by simp [Str.length]
section
variable {H:Hp} {Q:VK} {K:W.Frag}
theorem iB {p:Addr} {xs:List V} (s:SqL K H p xs) (h:Q (.int xs.length) H):GX K [V.ref p] H Q:=⟨_,_,rfl,.inl ⟨_,s,rfl⟩,h⟩
theorem tZ {p:Addr} {xs:List V} (s:SqT K H p xs) (h:Q (.int xs.length) H):GX K [V.ref p] H Q:=⟨_,_,rfl,.inr ⟨_,s,rfl⟩,h⟩
theorem cQ {z:Str} (s:z.length<=sizeLine) (h:Q (.int z.length) H):GX K [V.str z] H Q:=⟨_,_,rfl,⟨s,rfl⟩,h⟩
theorem mD {i j:Int} {R:Int->Int->Prop} (h:R i j):∃ a b,[V.int i,V.int j]=[.int a,.int b]/\R a b:=⟨_,_,rfl,h⟩
theorem iQ {x:V} {T:String} {t:Value} {b:Bool} (ty:TyOf K H x t) (e:PySem.W.kitOne K t (.type T)=some b) (h:Q (.bl b) H):Ur K [x,.ty T] H Q:=⟨x,T,t,b,rfl,ty,e,h⟩
theorem Kz {sep:Str} {p:Addr} {ys:List Str} (hp:H p=some (.lst (ys.map V.str))) (hz:(ys.map (·.length)).sum+ys.length*sep.length<=16777216) (h:Q (.str (Txt.join sep ys)) H):rJoin (.str sep) [.ref p] H Q:=⟨sep,p,ys,rfl,rfl,hp,hz,h⟩
theorem Xp {x:Str} {lo hi:Option Int} (hz:x.length<=sizeLine) (h:Q (.str (Txt.slice x lo hi)) H):Xg K (.str x) lo hi H Q:=.inr (.inr ⟨x,rfl,hz,h⟩)
theorem RL {p:Addr} {xs:List V} {lo hi:Option Int} (s:SqL K H p xs) (h:∀ q,H q=none->Q (.ref q) (upd H q (.lst (ql xs lo hi)))):Xg K (.ref p) lo hi H Q:=.inl ⟨p,xs,rfl,s,h⟩
end
section
variable {U:St} {H:Hp} {Q:VK}
theorem PJ {K:W.Frag} {a:Addr} {xs:List V} (s:SqL K H a xs) (h:∀ p,H p=none->Q (.ref p) (upd H p (.lst xs))):Kp K [.ref a] H Q:=.inl ⟨a,xs,rfl,.inl s,h⟩
end
theorem TyOf.mono {K:W.Frag} {H H':Hp} {v:V} {T:String} (h:TyOf K H v (.type T)) (s:∀ b o,H b=some o->v= .ref b->H' b=some o):TyOf K H' v (.type T):=by
 generalize e:(Value.type T)=t at h;cases h with
 | non=>exact .non
 | bl x=>exact .bl x
 | int i=>exact .int i
 | str x=>exact .str x
 | flt x=>exact .flt x
 | lst z=>exact .lst (s _ _ z rfl)
 | frz z=>exact .frz (s _ _ z rfl)
 | tup z=>exact .tup (s _ _ z rfl)
 | dK z=>exact .dK (s _ _ z rfl)
 | dT z=>exact .dT (s _ _ z rfl)
 | ins=>cases e
theorem mF {sub:List (Option Nat)} {g:TG} {tt:TT} {te:TE} {U:St} {Q:VK} {H:Hp} {lo:Int} {n:Nat} (Pv:Nat->List V->Hp->Prop) (hn:n<=sizeLine) (h0:Pv 0 [] H) (hl:∀ i ys H,Pv i ys H->ys.length<=i)
  (hs:∀ i ys H,i < n->Pv i ys H->g (.int (lo+i)) (cX sub U) H fun σ2 H2=>KeepSt (cX sub U) σ2/\tt σ2 H2 fun b H3=>if b=true then te σ2 H3 fun y H4=>Pv (i+1) (ys ++ [y]) H4 else Pv (i+1) ys H3)
  (hd:∀ ys H,Pv n ys H->∀ D,H D=none->Q (.ref D) (upd H D (.lst ys))):rO sub g tt te U Q (Jb lo n) H:=
 yS (n:=n) Pv hn h0 hl (fun i ys H hi _=>hi) (fun ys H _=>Y4 _) (fun i ys H x H' hi p y=>by
  obtain ⟨e1,e2⟩:=y;subst e1 e2;exact hs i ys _ hi p) hd
theorem Ah {sub:List (Option Nat)} {g:TG} {tt:TT} {te:TE} {U:St} {Q:VK} {H:Hp} {z:Str} (Pv:Nat->List V->Hp->Prop) (hn:z.cps.size<=sizeLine) (h0:Pv 0 [] H) (hl:∀ i ys H,Pv i ys H->ys.length<=i)
  (hs:∀ i ys H c,z.cps.toList[i]?=some c->Pv i ys H->g (.str ⟨#[c]⟩) (cX sub U) H fun σ2 H2=>KeepSt (cX sub U) σ2/\tt σ2 H2 fun b H3=>if b=true then te σ2 H3 fun y H4=>Pv (i+1) (ys ++ [y]) H4 else Pv (i+1) ys H3)
  (hd:∀ ys H,Pv z.cps.size ys H->∀ D,H D=none->Q (.ref D) (upd H D (.lst ys))):rO sub g tt te U Q (Pn z) H:=
 yS (n:=z.cps.size) Pv hn h0 hl (fun i ys H hi _=>hi) (fun ys H _=>rfl) (fun i ys H x H' hi p y=>by
  obtain ⟨e1,c,e2,e3⟩:=y;subst e1 e3;exact hs i ys _ c (by simpa using e2) p) hd
theorem t6 {sub:List (Option Nat)} {g:TG} {tt:TT} {te:TE} {U:St} {Q:VK} {H:Hp} {K:W.Frag} {a:Addr} {xs:List V} (Pv:Nat->List V->Hp->Prop) (hn:xs.length<=sizeLine) (h0:Pv 0 [] H) (hl:∀ i ys H,Pv i ys H->ys.length<=i)
  (hq:∀ i ys H,Pv i ys H->SqL K H a xs)
  (hs:∀ i ys H x,xs[i]?=some x->Pv i ys H->g x (cX sub U) H fun σ2 H2=>KeepSt (cX sub U) σ2/\tt σ2 H2 fun b H3=>if b=true then te σ2 H3 fun y H4=>Pv (i+1) (ys ++ [y]) H4 else Pv (i+1) ys H3)
  (hd:∀ ys H,Pv xs.length ys H->∀ D,H D=none->Q (.ref D) (upd H D (.lst ys))):rO sub g tt te U Q (Rz K a) H:=
 yS (n:=xs.length) Pv hn h0 hl (fun i ys H hi p=>⟨xs,xs[i],hq i ys H p,YX hi⟩) (fun ys H p=>⟨xs,hq _ ys H p,Y4 _⟩) (fun i ys H x H' hi p y=>by
  obtain ⟨e1,e2⟩:=y;subst e1;exact hs i ys _ x (e2 xs (hq i ys _ p)) p) hd
structure JE (X:Cx) (e:Expr) (t:TE):Prop where
 run:PE X e t
structure JT (X:Cx) (e:Expr) (t:TT):Prop where
 run:PT X e t
structure JW (X:Cx) (e:Expr) (t:TT):Prop where
 run:PW X e t
structure JA (X:Cx) (es:List Expr) (t:TA):Prop where
 run:PA X es t
structure JS (X:Cx) (s:Stmt) (t:TS):Prop where
 run:PS X s t
structure JB (X:Cx) (s:List Stmt) (t:TS):Prop where
 run:PSs X s t
structure JI (X:Cx) (tg iter:Expr) (t:TI):Prop where
 run:PI X tg iter t
structure JG (X:Cx) (tg:Expr) (t:TG):Prop where
 run:PG X tg t
structure Xq (X:Cx) (tg:List Expr) (t:BW):Prop where
 run:Wh X tg t
structure JO (X:Cx) (e:Option Expr) (t:TO):Prop where
 run:PO X e t
structure PK (X:Cx) (ifs:List Expr) (t:TT):Prop where
 run:zZ X ifs t
section
variable {X:Cx} {K:W.Frag} {sc scope:Scope} {N':List Str} {C:Addr} {s₀:Shared} {H₀:Hp} {ex:List Addr} {x:Str} {pos p p2 pos' apos cpos tpos:Pos} {a b c e o:Expr} {es:List Expr} {ta tb tc te to ti:TE} {t:TA} {tA tB' tt:TT} {rest:List Expr}
theorem KC (i:Nat) (h:sc.names.lookup x=some .local) (hN:autoParam (X.N[i]?=some x) L2.auto4._auto_1) (hsc:autoParam (X.env.scope=sc) L2.auto4._auto_1) (hd:autoParam ((x == ("__debug__":Str))=false) L2.auto6._auto_1) (hcd:autoParam ((x == ("__classdict__":Str))=false) L2.auto6._auto_1):JE X (.Name x pos) (rF i):=⟨pvL i h hN hsc hd hcd⟩
theorem j_vC (i:Nat) (h:sc.names.lookup x=some .cell) (hN:autoParam (X.N[i]?=some x) L2.auto4._auto_1) (hsc:autoParam (X.env.scope=sc) L2.auto4._auto_1) (hd:autoParam ((x == ("__debug__":Str))=false) L2.auto6._auto_1) (hcd:autoParam ((x == ("__classdict__":Str))=false) L2.auto6._auto_1):JE X (.Name x pos) (rF i):=⟨pvC i h hN hsc hd hcd⟩
theorem gf (i:Nat) (h:scope.names.lookup x=some .local:=by trivial) (hN:autoParam (N'[i]?=some x) L2.auto4._auto_1) (hd:autoParam ((x == ("__debug__":Str))=false) L2.auto6._auto_1) (hcd:autoParam ((x == ("__classdict__":Str))=false) L2.auto6._auto_1):JE (rE X N' scope C s₀ H₀ ex) (.Name x pos) (rF i):=⟨pvBL i h hN hd hcd⟩
theorem mG (i:Nat) (h:scope.names.lookup x=some .free:=by trivial) (hN:autoParam (N'[i]?=some x) L2.auto4._auto_1) (hd:autoParam ((x == ("__debug__":Str))=false) L2.auto6._auto_1) (hcd:autoParam ((x == ("__classdict__":Str))=false) L2.auto6._auto_1):JE (rE X N' scope C s₀ H₀ ex) (.Name x pos) (rF i):=⟨pvBF i h hN hd hcd⟩
theorem aB {i j}:JE X (.Constant (.int i) j pos) (tC (.int i)):=⟨SQ⟩
theorem gB {i j}:JE X (.Constant (.bool i) j pos) (tC (.bl i)):=⟨Wv⟩
theorem Es {j}:JE X (.Constant .none j pos) (tC .non):=⟨Tc⟩
theorem mH {i j}:JE X (.Constant (.str i) j pos) (tC (.str i)):=⟨Td⟩
theorem qI {z:Str} (hg:Gl X x) (hm:∃ t,X.mg x=some (.str z t)) (hd:(x == ("__debug__":Str))=false:=by trivial):JE X (.Name x pos) (tC (.str z)):=⟨Kh hg hm hd⟩
theorem qJ {z:Int} (hg:Gl X x) (hm:∃ t,X.mg x=some (.int z t)) (hd:(x == ("__debug__":Str))=false:=by trivial):JE X (.Name x pos) (tC (.int z)):=⟨Kl hg hm hd⟩
theorem qK {T:String} (hg:Gl X x) (hm:X.mg x=none) (hv:bootBuiltins x=some (.type T)) (hn:x≠"__name__":=by trivial) (hd:(x == ("__debug__":Str))=false:=by trivial):JE X (.Name x pos) (tC (.ty T)):=⟨Xf hg hm hv hn hd⟩
theorem aO {op:Operator} {r:R2} (ho:OpR X (binaryOp op) r) (ha:JE X a ta) (hb:JE X b tb):JE X (.BinOp a op b pos) (Ob r ta tb):=⟨Wy ho ha.run hb.run⟩
theorem Ai {op:UnaryOp} {r:V->Hp->VK->Prop} (ho:YC X (unaryOp op) r) (ha:JE X a ta):JE X (.UnaryOp op a pos) (tUn r ta):=⟨Wz ho ha.run⟩
theorem rW {op:CmpOp} {r:R2} (ho:OpR X (compareOp op) r) (ha:JE X a ta) (hb:JE X b tb) (hm:behindInMarks op b=false):JE X (.Compare a [op] [b] pos) (Ob r ta tb):=⟨O1 ho ha.run hb.run hm⟩
theorem bH {op:CmpOp} {r:R2} (ho:OpR X (compareOp op) r) (ha:JE X a ta) (hb:JE X b tb) (hm:behindInMarks op b=false):JT X (.Compare a [op] [b] pos) (Jy (Ob r ta tb)):=⟨O2 ho ha.run hb.run hm⟩
theorem yU (ha:JT X a tA):JW X (.BoolOp .And [a] pos) tA:=⟨Ol ha.run⟩
theorem iT (ha:JT X a tA):JW X (.BoolOp .Or [a] pos) tA:=⟨Th ha.run⟩
theorem CW (ha:JT X a tA) (hb:JW X (.BoolOp .And (b :: rest) pos) tB'):JW X (.BoolOp .And (a :: b :: rest) pos) (Tf tA tB'):=⟨Ti ha.run hb.run⟩
theorem jR (ha:JT X a tA) (hb:JW X (.BoolOp .Or (b :: rest) pos) tB'):JW X (.BoolOp .Or (a :: b :: rest) pos) (tOr tA tB'):=⟨Ww ha.run hb.run⟩
theorem jB (h:JW X e tt):JT X e tt:=⟨h.run.pt⟩
theorem bQ (ha:JT X a tA):JT X (.UnaryOp .Not a pos) (Tg tA):=⟨Tj ha.run⟩
def plainT:Expr->Bool
 | .BoolOp ..=>false | .UnaryOp ..=>false | .Compare ..=>false | .IfExp ..=>false | _=>true
theorem bL (h:JE X e te) (hp:autoParam (plainT e=true) L2.auto4._auto_1):JT X e (tB te):=⟨Te h.run (by
 intro whole;cases e <;> first | rfl | cases hp)⟩
theorem uP {op} (h:JE X a te):JE X (.BoolOp op [a] pos) te:=⟨Tp h.run⟩
theorem qx (ha:JE X a ta) (hb:JE X (.BoolOp .And (b :: rest) pos) tb):JE X (.BoolOp .And (a :: b :: rest) pos) (Jf ta tb):=⟨Tq ha.run hb.run⟩
theorem KD (ha:JE X a ta):JE X (.UnaryOp .Not a pos) (Jg ta):=⟨Tr ha.run⟩
theorem j_if (hc:JT X c tA) (ha:JE X a ta) (hb:JE X b tb):JE X (.IfExp c a b pos) (tIf tA ta tb):=⟨Jh hc.run ha.run hb.run⟩
theorem oU {x1} (h:JA X es t):JE X (.Tuple es x1 pos) (O7 t):=⟨Ub h.run⟩
theorem eY (h:JA X es t):JE X (.List es pos) (O8 t):=⟨Uc h.run⟩
theorem aq:JA X [] O5:=⟨Ua⟩
theorem aa (ha:JE X e te) (hr:JA X es t) (h:autoParam (notStar e=true) L2.auto4._auto_1):JA X (e :: es) (Ei te t):=⟨paC ha.run hr.run h⟩
theorem pU:JO X none yM:=⟨Pa⟩
theorem jj (h:JE X e te):JO X (some e) (JN te):=⟨Pb h.run⟩
theorem kh {r:V->Option Int->Option Int->Hp->VK->Prop} {lo hi:Option Expr} {tl th:TO} (hr:SlR X r) (he:JE X e te) (hl:JO X lo tl) (hu:JO X hi th):JE X (.Subscript e (.Slice lo hi none p2) pos) (tSl r te tl th):=⟨JP hr he.run hl.run hu.run⟩
theorem bj (hK:X.K=K) (ha:JE X a ta) (hb:JE X b tb) (h:autoParam (rQ b=true) L2.auto4._auto_1):JE X (.Subscript a b pos) (Ob (Uj K) ta tb):=⟨ixE hK ha.run hb.run h⟩
theorem aK {k:Nat} {ps:List Str} {sp:Sp} (F:lN X.prog X.w X.K X.mg X.base k x ps sp) (hr:Room k X.A) (hg:Gl X x) (ha:JA X (e :: es) t) (hdb:(x == ("__debug__":Str))=false:=by trivial) (h:autoParam ((e :: es).all notStar=true) L2.auto4._auto_1):
  JE X (.Call (.Name x p) (e :: es) [] pos) (xV sp [] E0 t):=⟨Xi F hr hg ha.run hdb h⟩
theorem aF {id:String} {r:List V->Hp->VK->Prop} (hc:CallR X (.builtin id) r) (hg:Gl X x) (hm:X.mg x=none) (hv:bootBuiltins x=some (.builtin id)) (ha:JA X (e :: es) t) (hn:x≠"__name__":=by trivial) (hdb:(x == ("__debug__":Str))=false:=by trivial) (h:autoParam ((e :: es).all notStar=true) L2.auto4._auto_1):
  JE X (.Call (.Name x p) (e :: es) [] pos) (Ue r t):=⟨Xj hc hg hm hv ha.run hn hdb h⟩
theorem wg {T:String} {r:List V->Hp->VK->Prop} (hc:CallR X (.type T) r) (hg:Gl X x) (hm:X.mg x=none) (hv:bootBuiltins x=some (.type T)) (ha:JA X (e :: es) t) (hn:x≠"__name__":=by trivial) (hdb:(x == ("__debug__":Str))=false:=by trivial) (h:autoParam ((e :: es).all notStar=true) L2.auto4._auto_1):
  JE X (.Call (.Name x p) (e :: es) [] pos) (Ue r t):=⟨Uz hc hg hm hv ha.run hn hdb h⟩
theorem dI {name:Str} {T id:String} {r:V->List V->Hp->VK->Prop} (hK:X.K=K) (pa:PlainAttrs T) (slot:Slot T name id) (hty:typeOf (.builtin id)=pure (.type "method_descriptor")) (hm:WN X id r) (ho:JE X o to) (ha:JA X (e :: es) t)
  (hbase:autoParam (rR o=true) L2.auto4._auto_1) (hl:autoParam (es.length < 20) L2.auto2._auto_1) (hline:autoParam ((apos.endLine == cpos.line)=true) L2.auto4._auto_1) (h:autoParam ((e :: es).all notStar=true) L2.auto4._auto_1):JE X (.Call (.Attribute o name apos) (e :: es) [] cpos) (WX K T r to t):=⟨Xl hK pa slot hty hm ho.run ha.run hbase hl hline h⟩
theorem eU:PK X [] J7:=⟨J8⟩
theorem PL (hc:JT X c tt):PK X [c] tt:=⟨J9 hc.run⟩
variable {tg iter elt:Expr} {ifs:List Expr} {sub:List (Option Nat)} {wi:TI} {g:TG} {N:List Str}
theorem cB {ta:TA} (hg:Gl X "range") (hm:X.mg "range"=none) (ha:JA X [a] ta) (h:autoParam (notStar a=true) L2.auto4._auto_1):JI X tg (.Call (.Name "range" p) [a] [] pos) (Jt ta):=⟨Gk hg hm ha.run (bI h)⟩
theorem pW {ta:TA} (hg:Gl X "range") (hm:X.mg "range"=none) (ha:JA X [a,b] ta) (h:autoParam (notStar a=true) L2.auto4._auto_1) (h2:autoParam (notStar b=true) L2.auto4._auto_1):JI X tg (.Call (.Name "range" p) [a,b] [] pos) (Ju ta):=⟨Gm hg hm ha.run (by rw [bI h,bI h2];rfl) (by rw [bI h2];rfl)⟩
theorem gC (hK:X.K=K) (hl:JE X e te):JI X tg e (Pr K te):=⟨Py hK hl.run⟩
theorem aN {i:Nat} (hN:X.N.Nodup) (hi:X.N[i]?=some x) (hx:Loc X.env.scope x) (hf:X.fn x=true):JG X (.Name x pos) (qt i):=⟨Ec hN hi hx (.inl hf)⟩
theorem oE (i:Nat) (h:scope.names.lookup x=some .local) (hN:N'.Nodup) (hi:autoParam (N'[i]?=some x) L2.auto4._auto_1):JG (rE X N' scope C s₀ H₀ ex) (.Name x pos) (qt i):=⟨pgB i h hN hi⟩
theorem eV:Xq X [] Tw:=⟨Ov⟩
theorem aV {gs:BW} (h1:JG X e g) (h2:Xq X es gs) (hs:autoParam ((assignEach (e :: es) X.env).map (·.2)=assign e X.env :: (assignEach es X.env).map (·.2)) L2.auto4._auto_1):Xq X (e :: es) (Jm g gs):=⟨Jo h1.run h2.run hs⟩
theorem iC {ts:List Expr} {k:Nat} {gs:BW} {n:Nat} (hK:X.K=K) (hc:X.calm=true) (h:Xq X ts gs) (hn:autoParam ((assignEach ts X.env).length=n) L2.auto4._auto_1) (hst:autoParam ((assignEach ts X.env).findIdx? (·.1)=none) L2.auto4._auto_1):JG X (.Tuple ts k pos) (Ow K n gs):=⟨Pz hK hc h.run hn hst⟩
theorem qL {ts:Ca} (ho:JE X a ta) (hi:JE X b tb) (hs:Ou X ts) (h:autoParam (rQ b=true) L2.auto4._auto_1):JG X (.Subscript a b pos) (Tz ta tb ts):=⟨TF ho.run hi.run hs (by
 intro v;cases b <;> first | rfl | cases h)⟩
theorem mX (S:uN N sc N' scope sub) (hc:X.calm=true) (hN:X.N=N) (hsc:X.env.scope=sc) (hi:JI X tg iter wi)
  (hg:∀ (C:Addr) (s₀:Shared) (H₀:Hp) (ex:List Addr),JG (rE X N' scope C s₀ H₀ ex) tg g)
  (ht:∀ (C:Addr) (s₀:Shared) (H₀:Hp) (ex:List Addr),PK (rE X N' scope C s₀ H₀ ex) ifs tt)
  (he:∀ (C:Addr) (s₀:Shared) (H₀:Hp) (ex:List Addr),JE (rE X N' scope C s₀ H₀ ex) elt te) (h:autoParam (tX iter=true) L2.auto4._auto_1):
  JE X (.ListComp elt [⟨tg,iter,ifs,0⟩] scope pos) (v4 sub wi g tt te):=⟨Xo S hc hN hsc hi.run (fun C s₀ H₀ ex=>(hg C s₀ H₀ ex).run) (fun C s₀ H₀ ex=>(ht C s₀ H₀ ex).run) (fun C s₀ H₀ ex=>(he C s₀ H₀ ex).run) h⟩
variable {st:Stmt} {sts:List Stmt} {u v:TS}
theorem aL {i:Nat} (hN:X.N.Nodup) (hi:X.N[i]?=some x) (hx:Loc X.env.scope x) (he:JE X e te) (hf:X.fn x=true) (h:autoParam (jC e=true) L2.auto4._auto_1):JS X (.Assign [.Name x pos'] e pos) (yL te (qt i)):=⟨Xm hN hi hx he.run hf h⟩
theorem mY {ts:Ca} (he:JE X e te) (hg:JG X (.Subscript a b pos') g) (h:autoParam (jC e=true) L2.auto4._auto_1):JS X (.Assign [.Subscript a b pos'] e pos) (yL te g):=⟨Jq he.run hg.run (by show swapsWith e (some (.Subscript a b pos')) pos.line X.env=pure false;exact yf h) (by cases e <;> rfl) rfl⟩
theorem aH (he:JE X e te):JS X (.Return (some e) pos) (Tt te):=⟨Tu he.run⟩
theorem bh (he:JE X e te) (h:autoParam (jC e=true) L2.auto4._auto_1):JS X (.Expr e pos) (Eb te):=⟨UG he.run h⟩
theorem bN {sa sb:List Stmt} (hc:JT X c tt) (ha:JB X sa u) (hb:JB X sb v):JS X (.If c sa sb pos) (Tv tt u v):=⟨Wx hc.run ha.run hb.run⟩
theorem bJ {body:List Stmt} (hp:PassesOwn (model X.prog X.w) X.A X.env X.xe) (hc:X.calm=true) (hi:JI X tg iter wi) (hg:JG X tg g) (hb:JB X body u) (h:autoParam (tX iter=true) L2.auto4._auto_1):JS X (.For tg iter body [] pos) (Ox wi g u):=⟨Xn hp hc hi.run hg.run hb.run h⟩
theorem KH {body:List Stmt} (hp:PassesOwn (model X.prog X.w) X.A X.env X.xe) (hc:JT X c tt) (hb:JB X body u):JS X (.While c body [] pos) (Cd tt u):=⟨Js hp hc.run hb.run⟩
theorem oV:JS X st Jk:=⟨Jl⟩
theorem bA:JB X [] Ji:=⟨Oo⟩
theorem aA (h:JS X st u):JB X [st] u:=⟨Oq h.run⟩
theorem au (h:JS X st u) (h2:JB X sts v):JB X (st :: sts) (Om u v):=⟨Jj h.run h2.run⟩
end
section
variable {P:Program} {w:World} {K:W.Frag} {mg:Str->Option Value} {base:Heap}
theorem fB {x:Str} {st:Stmt} {N ps:List Str} {k:Nat} {sp:Sp} (D:cH K mg x st) (S:aD N ps (az st))
  (hb:∀ (kV doc pm:Value) (an:Option Addr) (cdv ct:Value) (us:List Value),us.length=ps.length->bindArgs (PySem.W.fnOf x x (fW st) (bR st) (az st) .none kV doc pm an cdv ct) ⟨us,[]⟩=pure (ps.zip us))
  (len:∀ vs H Q E,sp vs H Q E->vs.length=ps.length)
  (hbody:∀ (f:Addr) (cdv:Value) (A:Around) (outer:List Env) (s:Shared) (H:Hp) (vs:List V) (Q:VK) (E:XK),Room k (A.deeper (envOfC x (az st) s.heap.objs.size f cdv))->sp vs H Q E->
   ∃ t,JB (qG GD P w K mg base N x (az st) f cdv A outer s H E).nox (bR st) t/\t {nx:=fun _ H'=>Q .non H',rt:=Q} (start N vs) H):lN P w K mg base (k+1) x ps sp:=
 Us D S hb len fun f cdv A outer s H vs Q E hr h=>let ⟨t,j,q⟩:=hbody f cdv A outer s H vs Q E hr h;⟨t,j.run,q⟩
theorem okJ {x:Str} {st:Stmt} {N ps:List Str} {k:Nat} {sp:Sp} {f:Addr} {fd:FuncData} (F:Fun K x x st f fd) (S:aD N ps (az st)) (len:∀ vs H Q E,sp vs H Q E->vs.length=ps.length)
  (hbody:∀ (f:Addr) (cdv:Value) (A:Around) (outer:List Env) (s:Shared) (H:Hp) (vs:List V) (Q:VK) (E:XK),Room k (A.deeper (envOfC x (az st) s.heap.objs.size f cdv))->sp vs H Q E->
   ∃ t,JB (qG GD P w K mg base N x (az st) f cdv A outer s H E).nox (bR st) t/\t {nx:=fun _ H'=>Q .non H',rt:=Q} (start N vs) H):rH P w K mg base GD (k+1) f fd ps sp:=
 F.ok S len fun cdv A outer s H vs Q E hr h=>let ⟨t,j,q⟩:=hbody f cdv A outer s H vs Q E hr h;⟨t,j.run,q⟩
end
theorem gj {K:W.Frag} {mg:Str->Option Value} {h:Heap} (X:K.In h) (G:h.Ns mainGlobals mg) {x:Str} {v:Value} {f:Tok->Value} (a:PySem.W.nsIn K mainGlobals x=some (some v)) (e:∃ t,v=f t):∃ t,mg x=some (f t):=by
 obtain ⟨t,rfl⟩:=e;exact ⟨t,Aa6 X G a⟩
theorem Xr {l:PySem.W.OpenLaw} {q:Program} {loose:List Str} {XP:(Str->Option Value)->Heap->Prop} {YP:World->Heap->Prop} {d:DefRec} {K:Params->W.Frag} {st:Stmt} {k:Nat} {sp:W.Frag->Sp} {x:Str}
  (hn:l.most=some 63) (hdf:d.params.defaults=[]) (hdn:d.name="law") (hk:Room k callerA) (hY:∀ (w:World) (h:Heap),YP w h->(K w.params).In h)
  (hb:∀ (kV doc pm:Value) (an:Option Addr) (cdv ct:Value) (us:List Value),us.length=[x].length->bindArgs (PySem.W.fnOf "law" "law" (fW st) (bR st) (az st) .none kV doc pm an cdv ct) ⟨us,[]⟩=pure ([x].zip us))
  (F:∀ (w:World) (mg:Str->Option Value) (h:Heap),(K w.params).In h->h.Ns mainGlobals mg->cH (K w.params) mg "law" st/\∀ (base:Heap) (f:Addr) (fd:FuncData),Fun (K w.params) "law" "law" st f fd->rH l.prog w (K w.params) mg base GD k f fd [x] (sp (K w.params)))
  (hsp:∀ (K:W.Frag) (H:Hp) (a:Addr) (ns:List Int),ns.length<=63->SqL K H a (ns.map V.int)->sp K [.ref a] H (fun v _=>v= .bl true) fun _ _ _=>False) (him:autoParam (importsNone q=true) L2.auto6._auto_1):
  PySem.W.WalkO q loose XP YP l.row.toRowW d [] (fun f vs=>PySem.call f vs):=
 L2.Pk (n:=63) (k:=k) (x:=x) (CX:=fun _=>GD) (sp:=fun w=>sp (K w.params)) hn (by decide) hdf hk hY (fun w mg fa h X G e=>by
  obtain ⟨⟨f,fd,Fn,hm⟩,ok⟩:=F w mg h X G;rw [hdn,hm] at e;have ef:f=fa:=by injection (Zm e)
  subst ef;refine ⟨fd,fun s u=>?_,fun base _ _=>ok base f fd Fn⟩;obtain ⟨oc,od,kV,doc,pm,an,cdv,ct,osl,rfl,lk,hcd⟩:=Fn.ex;exact .of_eq (hb kV doc pm an cdv ct [u] rfl)) (fun w H a ns hl _ hS=>hsp _ H a ns hl hS) (fun _ _ _ _ _ z=>z) him
def U0 (xs:Nat->List V) (n:Nat):It:=⟨fun i _=>i < n,fun i H v H'=>∃ T,H T=none/\v= .ref T/\H'=upd H T (.tup (xs i)),fun i _=>i=n⟩
theorem U5 {P:Program} {w:World} {K:W.Frag} {elts:List Expr} {k:Nat} {pos:Pos} {it:Addr} {fp wr:List Addr} {n:Nat} {xs:Nat->List V} {Pt:Nat->Array Value->Prop} {St:Nat->Heap->Prop} {Mid:Nat->Addr->Heap->Prop}
  (W:∀ A:Around,A.handled=none->WalksT P w A it fp wr n Pt St Mid) (hxs:∀ i,(xs i).length<=sizeLine) (hPt:∀ i vals,Pt i vals->Vals (xs i) vals.toList) (hmem:it∈fp)
  (hobj:∀ i h,St i h->∀ b∈fp,∃ o,h.get? b=some o/\∀ v,o.data≠.cell v)
  (hself:∀ (A:Around) (i:Nat) (s:Shared) (Q:Value->Shared->Prop) (E:Value->Shared->Prop),St i s.heap->Q (.ref it) s->wpAny (model P w) A (pyIter (.ref it)) Q E s):
  Turn P w K (.Tuple elts k pos) (U0 xs n) fp it St where
 mem:=hmem
 obj:=hobj
 keep:=fun i h h' st kk=>(W {} rfl).frame i h h' st kk
 item:=by
  intro X hP hw hK hc i pins s U H E I hf st hg;subst hP hw hK;have W':=W X.A (I.ok.hd hc);refine W'.item i s _ _ hg st fun T vals h' tk hPv hT isT mid kk=>?_
  refine ⟨.ref T,rfl,W'.go elts k pos i T _ _ _ mid fun h'' st'' kk2=>?_⟩;have hTn:H T=none:=I.hok.fresh hT;have hTw:T ∉ wr:=W'.apart i T h' mid;have kall:∀ b o,b ∉ wr->s.heap.get? b=some o->h''.get? b=some o:=fun b o hb e=>kk2 b o hb (kk b o hb e)
  have nT:∀ b o,s.heap.get? b=some o->b≠T:=fun b o e=>ZR (Zr (Za e) hT)
  have nTH:∀ b u,H b=some u->b≠T:=fun b u e z=>by rw [z,hTn] at e;cases e
  have nW:∀ b u,H b=some u->b ∉ wr:=fun b u e hb=>by rw [(hf b (W'.sub b hb)).1] at e;cases e
  have isT':h''.IsTuple T vals:=by
   obtain ⟨o,ho,r⟩:=isT;exact ⟨o,kk2 T o hTw ho,r⟩
  have hlT:∃ o,h''.get? T=some o:=let ⟨o,ho,_⟩:=isT';⟨o,ho⟩
  have I':Inv X pins U (upd H T (.tup (xs i))) {s with heap:=h'',toks:=tk}:=by
   refine I.step (g':=s.gens) (d':=s.drawn) (ch:=wr) (fun b hb=>?_) (fun b o _ _ hc e _=>kall b o hc e) (fun b o _ _ hc e _=>⟨o.slots,kall b o hc e⟩) (fun b o _ e hn=>by rw [aC (nT b o e)];exact hn)
    (fun b o hc e=>⟨o,kall b o hc e⟩) (fun b ys e=>by rw [aC (nTH b _ e)];exact e) (fun b o u e=>by rw [aC (nTH b _ e)];exact e) (fun b ps e=>⟨#[],by rw [aC (nTH b _ e),e];simp⟩) (fun m hm=>?_) (fun b u e=>?_) I.bare
   ·obtain ⟨f0,f1,f2,f3,f4,f5⟩:=hf b (W'.sub b hb)
    exact ⟨f3,f1,f4,f5⟩
   ·obtain ⟨o,es,ep,ho,r⟩:=hm
    exact ⟨o,es,ep,kall _ o (fun hb=>(hf _ (W'.sub _ hb)).2.1 rfl) ho,r⟩
   ·by_cases hb:b=T
    ·subst hb
     rw [aj] at e;cases e;obtain ⟨o,ho,hcl,nn,hd⟩:=isT';exact ⟨hxs i,vals.toList,hPt i vals hPv,o,ho,hcl,nn,by simpa using hd⟩
    ·rw [aC hb] at e
     refine (I.hok b u e).stay (fun c v hc' q=>kall c v ?_ q) (fun c q=>by rw [aC (nTH c _ q)];exact q) fun c ys q=>by rw [aC (nTH c _ q)];exact q
     rcases hc' with z | z
     ·rw [z];exact nW b u e
     ·exact nW c _ z
  refine ⟨.ref T,upd H T (.tup (xs i)),I',rfl,⟨T,hTn,rfl,rfl⟩,st'',fun b hb=>?_⟩;obtain ⟨o,e,_⟩:=hobj i _ st b hb;rw [aC (nT b o e)];exact (hf b hb).1
 done:=by
  intro X hP hw hK hc i pins s U H E I hf st hg;subst hP hw hK;have W':=W X.A (I.ok.hd hc);have hg:i=n:=hg;subst hg;refine W'.done s _ _ st fun h' tk kk=>⟨rfl,?_⟩
  have nW:∀ b u,H b=some u->b ∉ wr:=fun b u e hb=>by rw [(hf b (W'.sub b hb)).1] at e;cases e
  refine I.step (g':=s.gens) (d':=s.drawn) (ch:=wr) (fun b hb=>?_) (fun b o _ _ hc e _=>kk b o hc e) (fun b o _ _ hc e _=>⟨o.slots,kk b o hc e⟩) (fun b o _ e hn=>hn)
    (fun b o hc e=>⟨o,kk b o hc e⟩) (fun b ys e=>e) (fun b o u e=>e) (fun b ps e=>⟨#[],by rw [e];simp⟩) (fun m hm=>?_) (fun b u e=>?_) I.bare
  ·obtain ⟨f0,f1,f2,f3,f4,f5⟩:=hf b (W'.sub b hb)
   exact ⟨f3,f1,f4,f5⟩
  ·obtain ⟨o,es,ep,ho,r⟩:=hm
   exact ⟨o,es,ep,kk _ o (fun hb=>(hf _ (W'.sub _ hb)).2.1 rfl) ho,r⟩
  ·refine (I.hok b u e).stay (fun c v hc' q=>kk c v ?_ q) (fun c q=>q) fun c ys q=>q
   rcases hc' with z | z
   ·rw [z];exact nW b u e
   ·exact nW c _ z
 self:=hself
def oh (x:Str) (i:Nat):List V:=[.int i,.str ⟨#[x.cps.getD i 0]⟩]
section
variable {prog:Program} {w:World} {A:Around} {E:Value->Shared->Prop} {s:Shared}
theorem wj {it l:Addr} {items:Array Value} (hne:l≠it):∀ (n i:Nat) (s:Shared) (Q:List Value->Shared->Prop),s.heap.IsListIter it l i->s.heap.IsList l items->i+n<=items.size->
  (∀ h',h'.IsListIter it l (i+n)->Heap.SameBut it s.heap h'->Q ((items.toList.drop i).take n) {s with heap:=h'})->wpAny (model prog w) A (draw (.ref it) n) Q E s
 | 0,i,s,Q,hit,_,_,hQ=>by
  show wpAny _ _ (pure []) Q E s;exact Y5 (by simpa using hQ s.heap hit (Heap.SameBut.refl ..))
 | n+1,i,s,Q,hit,ht,hle,hQ=>by
  have hlt:i < items.size:=by omega
  show wpAny _ _ (pyNext (.ref it) >>=_) Q E s;refine YW (wpAny_pyNext_list_item hit ht (x:=items[i]) (by simp [hlt]) fun h₁ hit₁ hs₁=>?_);refine YW (Z2 (wj hne n (i+1) _ _ hit₁ (ht.extBut hs₁.extBut hne) (by omega) fun h₂ hit₂ hs₂=>Y5 ?_));have hd:items.toList.drop i=items[i] :: items.toList.drop (i+1):=by simp [ZW,hlt]
  have:=hQ h₂ (by rw [show i+(n+1)=i+1+n by omega];exact hit₂) (hs₁.trans hs₂);rw [hd,List.take_succ_cons] at this;exact this
theorem rY {l:Addr} {items:Array Value} {Q:List Value->Shared->Prop} (hh:A.handled=none) (ht:s.heap.IsList l items)
  (hQ:∀ h',Heap.ExtBut s.heap.objs.size s.heap h'->Q items.toList {s with heap:=h'}):wpAny (model prog w) A (unpackItems (.ref l) items.size none) Q E s:=by
 have hlt:l≠s.heap.objs.size:=by obtain ⟨o,ho,_⟩:=ht;exact ZR (Za ho)
 unfold unpackItems;refine YW ?_
 ·unfold notIterableAtAll
  refine YW (Abu ht.typeIs slot_list_iter.lookup ?_);refine Y5 ?_;simp only [Z4,if_false];refine YW (Z2 (AbA ht ?_));refine YW (Z2 (wj hlt items.size 0 _ _ ⟨_,Y8 _ rfl,rfl,rfl⟩ (let ⟨o,ho,r⟩:=ht;⟨o,YZ _ ho,r⟩) (by omega) fun h₁ hit₁ hs₁=>?_))
  have hall:List.take items.size (List.drop 0 items.toList)=items.toList:=by
   rw [AaM];exact ZC (by simp)
  rw [hall];rw [if_neg (by simp)]
  have ht₁:h₁.IsList l items:=by
   have:(s.heap.push {cls:=.type "list_iterator",data:=.fields #[.ref l,.int 0 0]}).IsList l items:=let ⟨o,ho,r⟩:=ht;⟨o,YZ _ ho,r⟩
   exact this.extBut hs₁.extBut hlt
  refine YW (Z2 (wpAny_pyNext_list_end hh hit₁ ht₁ (by simp) fun h₂ he₂=>?_));simp only [Option.isSome_none,Z4,if_false];refine Y5 (hQ h₂ fun b o hb e=>he₂ b o hb (hs₁.extBut b o hb (YZ _ e)))
theorem qM {env:Env} {elts:List Expr} {x1} {pos:Pos} {l:Addr} {items:Array Value} {Q:Unit->Shared->Prop} (hh:A.handled=none) (ht:s.heap.IsList l items)
  (hn:(assignEach elts env).length=items.size) (hstar:(assignEach elts env).findIdx? (·.1)=none)
  (h:∀ h',Heap.ExtBut s.heap.objs.size s.heap h'->wpAny (model prog w) A (assignInOrder ((assignEach elts env).map (·.2)) items.toList) Q E {s with heap:=h'}):
  wpAny (model prog w) A (assign (.Tuple elts x1 pos) env (.ref l)) Q E s:=by
 rw [assign_Tuple];refine YW (AbP ?_);unfold unpack;rw [hn,hstar];exact YW (Z2 (rY hh ht h))
end
def RM (K:W.Frag) (n:Nat) (t:BW):TG:=fun v U H Q=>∃ a xs,v= .ref a/\(SqT K H a xs\/SqL K H a xs)/\xs.length=n/\t xs U H Q
theorem PN {X:Cx} {K:W.Frag} {ts:List Expr} {k:Nat} {gs:BW} {n:Nat} {pos:Pos} (hK:X.K=K) (hc:X.calm=true) (h:Xq X ts gs) (hn:autoParam ((assignEach ts X.env).length=n) L2.auto4._auto_1) (hst:autoParam ((assignEach ts X.env).findIdx? (·.1)=none) L2.auto4._auto_1):JG X (.Tuple ts k pos) (RM K n gs):=⟨by
 subst hK;intro pins s U H v u Q I r hw;obtain ⟨a,xs,e1,hq,hl,hw⟩:=hw;subst e1;cases r;rcases hq with hq | hq
 ·exact (Jp hc h.run hn hst) pins s U H (.ref a) (.ref a) Q I (show RelV (.ref a) (Value.ref a) from rfl) ⟨a,xs,rfl,hq,hl,hw⟩
 ·obtain ⟨its,rv,ht,hz⟩:=I.list hq
  refine qM (I.ok.hd hc) ht.isList (by simp [hn,← hl,rv.length]) hst fun h' hx=>?_
  have I1:Inv X pins U H {s with heap:=h'}:=I.kept (t':=s.toks) fun b o e=>hx b o (ZR (Za e)) e
  exact h.run pins _ U H xs _ Q I1 (by simpa using rv) hw⟩
theorem PP {X:Cx} {ts:List Expr} {k:Nat} {e:Expr} {te:TE} {g:TG} {pos pos':Pos} (he:JE X e te) (hg:JG X (.Tuple ts k pos') g) (h:autoParam (jC e=true) L2.auto4._auto_1) (h2:autoParam ((match e with | .Tuple ..=>false | _=>true)=true) L2.auto4._auto_1):JS X (.Assign [.Tuple ts k pos'] e pos) (yL te g):=
 ⟨Jq he.run hg.run (by show swapsWith e (some (.Tuple ts k pos')) pos.line X.env=pure false;exact yf h) (by cases e <;> first | rfl | cases h2) rfl⟩
def Xu (K:W.Frag):R2:=fun x y H Q=>rNe x y H Q\/∃ (a b:Addr) (ns ms:List Int),x= .ref a/\y= .ref b/\SqL K H a (ns.map V.int)/\SqL K H b (ms.map V.int)/\Q (.bl (!decide (ns=ms))) H
theorem U6 {X:Cx} {K:W.Frag} (hK:X.K=K) (hu:X.A.units+64 < cLine):OpR X (compareOp .NotEq) (Xu K):=by
 subst hK;intro pins s U H x y v u Q I rx ry h;rcases h with h | ⟨a,b,ns,ms,rfl,rfl,ha,hb,q⟩
 ·exact WK pins s U H x y v u Q I rx ry h
 ·cases rx
  cases ry;obtain ⟨its,r1,p1,z1⟩:=I.list ha;obtain ⟨jts,r2,p2,z2⟩:=I.list hb;exact PySem.W.ne_intsK p1.isList (intsAre_of r1) p2.isList (intsAre_of r2) hu ⟨.bl _,H,I,rfl,q⟩
section
variable {H:Hp} {Q:VK} {K:W.Frag} {U:St}
theorem bx {n:Nat} {gs:BW} {p:Addr} {xs:List V} {R:St->Hp->Prop} (s:SqT K H p xs) (hl:xs.length=n) (h:gs xs U H R):Ow K n gs (.ref p) U H R:=⟨p,xs,rfl,s,hl,h⟩
theorem PQ {n:Nat} {gs:BW} {p:Addr} {xs:List V} {R:St->Hp->Prop} (s:SqL K H p xs) (hl:xs.length=n) (h:gs xs U H R):RM K n gs (.ref p) U H R:=⟨p,xs,rfl,.inr s,hl,h⟩
theorem bT {t:TG} {u:BW} {v:V} {vs:List V} {R:St->Hp->Prop} (h:t v U H fun U' H'=>u vs U' H' R):Jm t u (v :: vs) U H R:=⟨v,vs,rfl,h⟩
theorem dJ {R:St->Hp->Prop} (h:R U H):Tw [] U H R:=⟨rfl,h⟩
theorem bF {p:Addr} {xs:List V} {y:V} (hp:H p=some (.lst xs)) (c:xs.length < sizeLine) (h:Q .non (upd H p (.lst (xs ++ [y])))):El (.ref p) [y] H Q:=⟨p,xs,y,rfl,rfl,hp,c,h⟩
theorem KJ {xs:Nat->List V} {n:Nat} {g:TG} {tb:TS} {D:Ends} {H:Hp} (Pv:Nat->St->Hp->Prop) (h0:Pv 0 U H)
  (hs:∀ i U H T,i < n->Pv i U H->H T=none->g (.ref T) U (upd H T (.tup (xs i))) fun σ2 H2=>tb {D with nx:=Pv (i+1),ct:=Pv (i+1),bk:=D.nx} σ2 H2) (hd:∀ U H,Pv n U H->D.nx U H):
  ∃ W:Nat->Nat->St->Hp->Prop,(∃ m,W 0 m U H)/\∀ i m U H,W i m U H->
   ((U0 xs n).stop i H/\D.nx U H)\/((U0 xs n).go i H/\∃ N:St->Hp->Prop,(∀ U' H',N U' H'->∃ m',m' < m/\W (i+1) m' U' H')/\∀ x H',(U0 xs n).yld i H x H'->g x U H' fun σ2 H2=>tb {D with nx:=N,ct:=N,bk:=D.nx} σ2 H2):=by
 refine ⟨fun i m U H=>m=n - i/\i<=n/\Pv i U H,⟨n,by simp,Z7 _,h0⟩,?_⟩;rintro i m U H ⟨rfl,hi,p⟩;by_cases hlt:i < n
 ·refine .inr ⟨hlt,Pv (i+1),fun U' H' p'=>⟨n - (i+1),by omega,rfl,hlt,p'⟩,fun x H' y=>?_⟩
  obtain ⟨T,hT,e1,e2⟩:=y;subst e1 e2;exact hs i U H T hlt p hT
 ·have e:i=n:=by omega
  subst e;exact .inl ⟨rfl,hd U H p⟩
theorem yh {f:Int->V} {i:Int} (h:Q (f i) H):rU f (.int i) H Q:=⟨i,rfl,h⟩
theorem KN {a:Addr} {xs:List V} {k:Int} (ha:H a=some (.lst xs)) (h0: -(2 ^ 63)<=k) (h1:k < 2 ^ 63) (hz:xs.length*k.toNat<=sizeLine) (h:∀ p,H p=none->Q (.ref p) (upd H p (.lst (List.replicate k.toNat xs).flatten))):Er (.ref a) (.int k) H Q:=
 .inr (.inr ⟨a,k,xs,rfl,rfl,ha,h0,h1,hz,h⟩)
theorem PX {z:Str} {g:TG} {tb:TS} {D:Ends} {H:Hp} (Pv:Nat->St->Hp->Prop) (h0:Pv 0 U H)
  (hs:∀ i U H c,z.cps.toList[i]?=some c->Pv i U H->g (.str ⟨#[c]⟩) U H fun σ2 H2=>tb {D with nx:=Pv (i+1),ct:=Pv (i+1),bk:=D.nx} σ2 H2) (hd:∀ U H,Pv z.length U H->D.nx U H):
  ∃ W:Nat->Nat->St->Hp->Prop,(∃ m,W 0 m U H)/\∀ i m U H,W i m U H->
   ((Pn z).stop i H/\D.nx U H)\/((Pn z).go i H/\∃ N:St->Hp->Prop,(∀ U' H',N U' H'->∃ m',m' < m/\W (i+1) m' U' H')/\∀ x H',(Pn z).yld i H x H'->g x U H' fun σ2 H2=>tb {D with nx:=N,ct:=N,bk:=D.nx} σ2 H2):=by
 refine ⟨fun i m U H=>m=z.cps.size - i/\i<=z.cps.size/\Pv i U H,⟨z.cps.size,by simp,Z7 _,h0⟩,?_⟩;rintro i m U H ⟨rfl,hi,p⟩;by_cases hlt:i < z.cps.size
 ·refine .inr ⟨hlt,Pv (i+1),fun U' H' p'=>⟨z.cps.size - (i+1),by omega,rfl,hlt,p'⟩,fun x H' y=>?_⟩
  obtain ⟨e1,c,e2,e3⟩:=y;subst e1 e3;exact hs i U _ c (by simpa using e2) p
 ·have e:i=z.cps.size:=by omega
  subst e;exact .inl ⟨rfl,hd U H p⟩
end
section
variable {X:Cx} {tg iter elt:Expr} {ifs:List Expr} {scope:Scope} {pos:Pos} {N':List Str} {sub:List (Option Nat)} {wi:TI} {g:TG} {tt:TT} {te:TE}
theorem CZ {N:List Str} {sc:Scope} {i:Nat} {x:Str} {pos' spos:Pos} (hNd:X.N.Nodup) (hxi:X.N[i]?=some x) (hx:Loc X.env.scope x) (hf:X.fn x=true) (S:uN N sc N' scope sub) (hc:X.calm=true) (hN:X.N=N) (hsc:X.env.scope=sc) (hi:PI X tg iter wi)
  (hg:∀ (C:Addr) (s₀:Shared) (H₀:Hp) (ex:List Addr),PG (rE X N' scope C s₀ H₀ ex) tg g)
  (ht:∀ (C:Addr) (s₀:Shared) (H₀:Hp) (ex:List Addr),zZ (rE X N' scope C s₀ H₀ ex) ifs tt)
  (he:∀ (C:Addr) (s₀:Shared) (H₀:Hp) (ex:List Addr),PE (rE X N' scope C s₀ H₀ ex) elt te)
  (hs:∀ x,foldedSetIterable iter X.env x=pure x):PS X (.Assign [.Name x pos'] (.ListComp elt [⟨tg,iter,ifs,0⟩] scope pos) spos) (yL (v4 sub wi g tt te) (qt i)):=by
 intro pins s U H D I h;have hsw:∃ b,swapsWith (.ListComp elt [⟨tg,iter,ifs,0⟩] scope pos) (some (.Name x pos')) spos.line X.env=pure b:=⟨_,rfl⟩;obtain ⟨b,hsw⟩:=hsw;cases b with
 | false=>exact Jr hNd hxi hx (Em S hc hN hsc hi hg ht he hs) hsw (.inl hf) pins s U H D I h
 | true=>
  rw [exec_Assign_Name_used _ _ _ _ hsw];refine YW (AbP (YW ?_));show wpAny _ X.A (do let _ ← comprehension (.ListComp elt [⟨tg,iter,ifs,0⟩] scope pos) scope X.env _ (newList []) false (eval iter X.env) (some (assign (.Name x pos') X.env))) _ _ s;refine YW (Aal (z9 (use:=some (assign (.Name x pos') X.env)) (R:=fun _ s'=>SP X pins D .next s') S hc hN hsc hi hg ht he hs pins s U H _ I h ?_) (fun _ s' hq=>Y5 (Y5 hq)) fun _ _ e=>e);intro Da C s5 H5 m I5 fC hn q;show wpAny _ X.A (assign (.Name x pos') X.env (.ref Da)) _ _ _;refine wpAny_assign_Name (xT I5 hNd hxi hx (v:=.ref Da) rfl (fun s6 I6 qq0=>?_) (.inl hf));obtain ⟨a,sb,ha⟩:=qq0;obtain ⟨f0,f1,f2,f3,f4,f5⟩:=fC
  have hCa:C≠a:=fun z=>by
   rcases ha with e | e
   ·exact f1 (z.trans e)
   ·exact f4 x a e z.symm
  exact ⟨m,hn.sameBut sb hCa,fun h' hs'=>⟨_,H5,I6.turned (t':=s6.toks) (fun b o hb e=>hs'.extBut b o hb e) f0 f1 f3 f4 f5,q⟩⟩
end
section
variable {X:Cx} {tg iter elt:Expr} {ifs:List Expr} {scope:Scope} {pos:Pos} {N':List Str} {sub:List (Option Nat)} {wi:TI} {g:TG} {tt:TT} {te:TE} {N:List Str} {sc:Scope}
theorem mZ {i:Nat} {x:Str} {pos' spos:Pos} (hNd:X.N.Nodup) (hxi:X.N[i]?=some x) (hx:Loc X.env.scope x) (S:uN N sc N' scope sub) (hc:X.calm=true) (hN:X.N=N) (hsc:X.env.scope=sc) (hi:JI X tg iter wi)
  (hg:∀ (C:Addr) (s₀:Shared) (H₀:Hp) (ex:List Addr),JG (rE X N' scope C s₀ H₀ ex) tg g)
  (ht:∀ (C:Addr) (s₀:Shared) (H₀:Hp) (ex:List Addr),PK (rE X N' scope C s₀ H₀ ex) ifs tt)
  (he:∀ (C:Addr) (s₀:Shared) (H₀:Hp) (ex:List Addr),JE (rE X N' scope C s₀ H₀ ex) elt te) (hf:X.fn x=true) (h:autoParam (tX iter=true) L2.auto4._auto_1):
  JS X (.Assign [.Name x pos'] (.ListComp elt [⟨tg,iter,ifs,0⟩] scope pos) spos) (yL (v4 sub wi g tt te) (qt i)):=
 ⟨CZ hNd hxi hx hf S hc hN hsc hi.run (fun C s₀ H₀ ex=>(hg C s₀ H₀ ex).run) (fun C s₀ H₀ ex=>(ht C s₀ H₀ ex).run) (fun C s₀ H₀ ex=>(he C s₀ H₀ ex).run) (Kq h)⟩
end
section
variable {X:Cx} {pins:List (Addr×Obj)} {U:St} {H:Hp} {s:Shared}
theorem Inv.newtup {wr:List Addr} {T:Addr} {vals:Array Value} {xs:List V} {h'':Heap} {tk:Nat} (I:Inv X pins U H s) (hf:∀ b∈wr,oM X pins H b) (hT:s.heap.objs.size<=T)
  (kall:∀ b o,b ∉ wr->s.heap.get? b=some o->h''.get? b=some o) (isT':h''.IsTuple T vals) (hv:Vals xs vals.toList) (hx:xs.length<=sizeLine):Inv X pins U (upd H T (.tup xs)) {s with heap:=h'',toks:=tk}:=by
 have hTn:H T=none:=I.hok.fresh hT;have nT:∀ b o,s.heap.get? b=some o->b≠T:=fun b o e=>ZR (Zr (Za e) hT)
 have nTH:∀ b u,H b=some u->b≠T:=fun b u e z=>by rw [z,hTn] at e;cases e
 have nW:∀ b u,H b=some u->b ∉ wr:=fun b u e hb=>by rw [(hf b hb).1] at e;cases e
 refine I.step (g':=s.gens) (d':=s.drawn) (ch:=wr) (fun b hb=>?_) (fun b o _ _ hc e _=>kall b o hc e) (fun b o _ _ hc e _=>⟨o.slots,kall b o hc e⟩) (fun b o _ e hn=>by rw [aC (nT b o e)];exact hn)
  (fun b o hc e=>⟨o,kall b o hc e⟩) (fun b ys e=>by rw [aC (nTH b _ e)];exact e) (fun b o u e=>by rw [aC (nTH b _ e)];exact e) (fun b ps e=>⟨#[],by rw [aC (nTH b _ e),e];simp⟩) (fun m hm=>?_) (fun b u e=>?_) I.bare
 ·obtain ⟨f0,f1,f2,f3,f4,f5⟩:=hf b hb
  exact ⟨f3,f1,f4,f5⟩
 ·obtain ⟨o,es,ep,ho,r⟩:=hm
  exact ⟨o,es,ep,kall _ o (fun hb=>(hf _ hb).2.1 rfl) ho,r⟩
 ·by_cases hb:b=T
  ·subst hb
   rw [aj] at e;cases e;obtain ⟨o,ho,hcl,nn,hd⟩:=isT';exact ⟨hx,vals.toList,hv,o,ho,hcl,nn,by simpa using hd⟩
  ·rw [aC hb] at e
   refine (I.hok b u e).stay (fun c v hc' q=>kall c v ?_ q) (fun c q=>by rw [aC (nTH c _ q)];exact q) fun c ys q=>by rw [aC (nTH c _ q)];exact q
   rcases hc' with z | z
   ·rw [z];exact nW b u e
   ·exact nW c _ z
theorem Inv.only {wr:List Addr} {h':Heap} {tk:Nat} (I:Inv X pins U H s) (hf:∀ b∈wr,oM X pins H b) (kk:∀ b o,b ∉ wr->s.heap.get? b=some o->h'.get? b=some o):Inv X pins U H {s with heap:=h',toks:=tk}:=by
 have nW:∀ b u,H b=some u->b ∉ wr:=fun b u e hb=>by rw [(hf b hb).1] at e;cases e
 refine I.step (g':=s.gens) (d':=s.drawn) (ch:=wr) (fun b hb=>?_) (fun b o _ _ hc e _=>kk b o hc e) (fun b o _ _ hc e _=>⟨o.slots,kk b o hc e⟩) (fun b o _ e hn=>hn)
   (fun b o hc e=>⟨o,kk b o hc e⟩) (fun b ys e=>e) (fun b o u e=>e) (fun b ps e=>⟨#[],by rw [e];simp⟩) (fun m hm=>?_) (fun b u e=>?_) I.bare
 ·obtain ⟨f0,f1,f2,f3,f4,f5⟩:=hf b hb
  exact ⟨f3,f1,f4,f5⟩
 ·obtain ⟨o,es,ep,ho,r⟩:=hm
  exact ⟨o,es,ep,kk _ o (fun hb=>(hf _ hb).2.1 rfl) ho,r⟩
 ·refine (I.hok b u e).stay (fun c v hc' q=>kk c v ?_ q) (fun c q=>q) fun c ys q=>q
  rcases hc' with z | z
  ·rw [z];exact nW b u e
  ·exact nW c _ z
end
def Wj (K:W.Frag) (a:Addr):It:=
 ⟨fun i H=>∃ xs x,SqL K H a xs/\xs[i]?=some x,
  fun i H v H'=>∃ T x,H T=none/\v= .ref T/\(∀ xs,SqL K H a xs->xs[i]?=some x)/\H'=upd H T (.tup [.int i,x]),
  fun i H=>∃ xs,SqL K H a xs/\xs.length<=i⟩
theorem Dc {P:Program} {w:World} {K:W.Frag} {elts:List Expr} {k:Nat} {pos:Pos} {e it a:Addr} (hne:e≠it):
  Turn P w K (.Tuple elts k pos) (Wj K a) [e,it] e (fun i h=>(∃ old,IsEnum h e it i old)/\h.IsListIter it a i) where
 mem:=by simp
 obj:=fun i h st c hc=>by
  obtain ⟨⟨old,he⟩,⟨o1,e1,c1,d1⟩⟩:=st;simp only [Zb,ZL,or_false] at hc;rcases hc with rfl | rfl
  ·exact ⟨_,he,fun v z=>by cases z⟩
  ·exact ⟨_,e1,fun v z=>by rw [d1] at z;cases z⟩
 keep:=fun i h h' st kk=>by
  obtain ⟨⟨old,he⟩,h1⟩:=st;exact ⟨⟨old,kk e (by simp) _ he⟩,h1.at fun o q=>kk it (by simp) o q⟩
 item:=by
  intro X hP hw hK hc i pins s U H E I hf st hg;subst hP hw hK;obtain ⟨⟨old,he⟩,h1⟩:=st;obtain ⟨xs,x,hq,hx⟩:=hg;obtain ⟨its,rv,p,_⟩:=I.list hq;obtain ⟨u,hu,ru⟩:=rv.get hx;refine wpAny_pyNext_enum_item he h1 p.isList (x:=u) (by simpa using hu) hne fun h' a1 a2 a3 a4 hk=>?_
  refine ⟨_,rfl,wpAny_letOwnedTupleGo_enum a1 fun h'' a1' sb=>?_⟩;have lt:∀ {c o},s.heap.get? c=some o->s.heap.objs.size≠c:=fun e=>AaJ (Za e)
  have lti:s.heap.objs.size≠it:=by obtain ⟨o,q,_⟩:=h1;exact lt q
  have isT:h''.IsTuple s.heap.objs.size #[.int i s.toks,u]:=⟨_,sb.extBut _ _ (lt he) a3,rfl,_,rfl⟩
  have kall:∀ b o,b ∉ [e,it]->s.heap.get? b=some o->h''.get? b=some o:=fun b o hb q=>by
   simp only [Zb,ZL,or_false,not_or] at hb;exact sb.extBut _ _ hb.1 (hk b o hb.1 hb.2 q)
  have hTn:H s.heap.objs.size=none:=I.hok.fresh (Y4 _);refine ⟨.ref s.heap.objs.size,_,I.newtup (tk:=s.toks+1) hf (Y4 _) kall isT (xs:=[.int i,x]) (.cons ⟨_,rfl⟩ (.cons ru .nil)) (by simp;decide),rfl,⟨_,x,hTn,rfl,fun zs hs=>by rw [I.list_inj hs hq];exact hx,rfl⟩,?_,fun b hb=>?_⟩
  ·exact ⟨⟨_,a1'⟩,a2.extBut sb.extBut (Ne.symm hne)⟩
  ·have:s.heap.objs.size≠b:=by
    simp only [Zb,ZL,or_false] at hb;rcases hb with rfl | rfl
    ·exact lt he
    ·exact lti
   rw [aC (Ne.symm this)];exact (hf b hb).1
 done:=by
  intro X hP hw hK hc i pins s U H E I hf st hg;subst hP hw hK;obtain ⟨⟨old,he⟩,h1⟩:=st;obtain ⟨xs,hq,hx⟩:=hg;obtain ⟨its,rv,p,_⟩:=I.list hq;have l1:=rv.length;refine wpAny_pyNext_enum_end (I.ok.hd hc) he h1 p.isList (by simp;omega) fun h' hk=>⟨rfl,I.only (tk:=s.toks) hf fun b o hb q=>?_⟩
  simp only [Zb,ZL,or_false,not_or] at hb;exact hk b o hb.2 q
 self:=fun _ _ _ _ _ st h=>let ⟨⟨_,he⟩,_⟩:=st;AbB he h
theorem GZ {X:Cx} {elts:List Expr} {k:Nat} {tp:Pos} {pins:List (Addr×Obj)} {U:St} {H1:Hp} {s1:Shared} {x:Str} {t:Tok} {R:It->Hp->Prop} (hc:X.calm=true) (I1:Inv X pins U H1 s1) (q:R (U0 (oh x) x.cps.size) H1):
  wpAny (model X.prog X.w) X.A (call (.type "enumerate") [.str x t]) (fun v s1=>wpAny (model X.prog X.w) X.A (pyIter v) (PIE X pins U (.Tuple elts k tp) R) X.xe s1) X.xe s1:=by
 refine call_enumerate_str fun h' he hit hsz hk=>?_
 have J1:Inv X pins U H1 {s1 with heap:=h'}:=I1.kept (t':=s1.toks) hk;have ne1:s1.heap.objs.size+1≠s1.heap.objs.size:=Nat.succ_ne_self _;have nm:s1.heap.objs.size+1 ∉ [s1.heap.objs.size]:=fun z=>ne1 (ZD.mp z)
 have hPt:∀ (i:Nat) (vals:Array Value),(∃ t y,SignAt x i y/\vals= #[.int i t,y])->Vals (oh x i) vals.toList:=by
  rintro i vals ⟨t,y,⟨c,u,e1,rfl⟩,rfl⟩;refine .cons ⟨t,rfl⟩ (.cons ⟨u,?_⟩ .nil);rw [show x.cps.getD i 0=c by simp [Aaw,e1]]
 have fin:∀ (ty:String) (Dr:∀ A:Around,A.handled=none->Draws X.prog X.w A s1.heap.objs.size [s1.heap.objs.size] x.cps.size (SignAt x) fun i h=>h.IsStrIter s1.heap.objs.size ty x t i),h'.IsStrIter s1.heap.objs.size ty x t 0->
   wpAny (model X.prog X.w) X.A (pyIter (.ref (s1.heap.objs.size+1))) (PIE X pins U (.Tuple elts k tp) R) X.xe {s1 with heap:=h'}:=by
  intro ty Dr hit'
  have W:∀ A:Around,A.handled=none->WalksT X.prog X.w A (s1.heap.objs.size+1) [s1.heap.objs.size+1,s1.heap.objs.size] [s1.heap.objs.size+1,s1.heap.objs.size] x.cps.size
    (fun i vals=>∃ t y,SignAt x i y/\vals= #[.int i t,y]) (fun i h=>(∃ old,IsEnum h (s1.heap.objs.size+1) s1.heap.objs.size i old)/\h.IsStrIter s1.heap.objs.size ty x t i)
    (fun i T h=>(∃ y,IsEnumOut h (s1.heap.objs.size+1) s1.heap.objs.size ((i:Int)+1) y T)/\h.IsStrIter s1.heap.objs.size ty x t (i+1)/\T≠s1.heap.objs.size+1/\T≠s1.heap.objs.size):=
   fun A hA=>WalksT.enumerateD (Dr A.in1 hA) (s1.heap.objs.size+1) ne1 nm (by simp)
  have hself:∀ (A:Around) (i:Nat) (s:Shared) (Q:Value->Shared->Prop) (E:Value->Shared->Prop),((∃ old,IsEnum s.heap (s1.heap.objs.size+1) s1.heap.objs.size i old)/\s.heap.IsStrIter s1.heap.objs.size ty x t i)->Q (.ref (s1.heap.objs.size+1)) s->wpAny (model X.prog X.w) A (pyIter (.ref (s1.heap.objs.size+1))) Q E s:=by
   rintro A i s Q E ⟨⟨old,he⟩,_⟩ hQ;exact AbB he hQ
  refine hself _ 0 _ _ _ ⟨⟨_,he⟩,hit'⟩ ?_;refine ⟨s1.heap.objs.size+1,[s1.heap.objs.size+1,s1.heap.objs.size],_,_,H1,rfl,J1,U5 W (fun i=>by simp [oh];decide) hPt (by simp) ?_ hself,⟨⟨_,he⟩,hit'⟩,fun b hb=>?_,q⟩
  ·rintro i h ⟨⟨old,he⟩,o,ho,hcl,hd⟩ b hb
   rcases Zb.mp hb with rfl | hb
   ·exact ⟨_,he,fun v z=>by cases z⟩
   ·rw [ZD.mp hb]
    exact ⟨o,ho,fun v z=>by rw [hd] at z;cases z⟩
  ·have hb':s1.heap.objs.size<=b:=by
    rcases Zb.mp hb with rfl | hb
    ·exact Abg _
    ·rw [ZD.mp hb];exact Y4 _
   exact I1.fpOk hb' (I1.hok.fresh hb')
 cases hx:x.cps.all (· < 128)
 ·exact fin "str_iterator" (fun A hA=>Draws.strWide hA _ x t) (by simpa [strIterType,hx] using hit)
 ·exact fin "str_ascii_iterator" (fun A hA=>Draws.strAscii hA _ x t) (by simpa [strIterType,hx] using hit)
def RN (K:W.Frag) (ta:TA):TI:=fun U H R=>ta U H fun vs H1=>(∃ x:Str,vs=[.str x]/\R (U0 (oh x) x.cps.size) H1)\/∃ a xs,vs=[.ref a]/\SqL K H1 a xs/\R (Wj K a) H1
theorem jD {X:Cx} {K:W.Frag} {a:Expr} {ta:TA} {elts:List Expr} {k:Nat} {tp p pos:Pos} (hK:X.K=K) (hc:X.calm=true) (hg:Gl X "enumerate") (hm:X.mg "enumerate"=none) (ha:JA X [a] ta) (h:autoParam (notStar a=true) L2.auto4._auto_1):
  JI X (.Tuple elts k tp) (.Call (.Name "enumerate" p) [a] [] pos) (RN K ta):=⟨by
 subst hK;intro pins s U H R I hq;refine Call_ (iR I hg hm rT (ZX (eQ (ha.run pos pins s U H _ I hq) fun us s1 qq0=>?_) (bI h) rfl));obtain ⟨vs,H1,I1,r1,q1⟩:=qq0;rcases q1 with ⟨x,e,q⟩ | ⟨l,xs,e,hl,q⟩
 ·subst e
  obtain ⟨u,rfl,t,rfl⟩:=vals1 r1;exact GZ hc I1 q
 ·subst e
  obtain ⟨u,rfl,ru⟩:=vals1 r1;cases ru;obtain ⟨its,rv,p1,_⟩:=I1.list hl;refine call_enumerate_list p1.isList fun h' z1 z2 z3 hk=>?_
  have J1:Inv X pins U H1 {s1 with heap:=h'}:=I1.kept (t':=s1.toks) hk;refine AbB z1 ?_;refine ⟨s1.heap.objs.size+1,_,_,_,H1,rfl,J1,Dc (Nat.succ_ne_self _),⟨⟨_,z1⟩,z2⟩,fun b hb=>?_,q⟩
  have hb':s1.heap.objs.size<=b:=by
   simp only [Zb,ZL,or_false] at hb;have key:∀ n c:Nat,(c=n+1\/c=n)->n<=c:=fun n c h=>by omega
   exact key _ _ hb
  exact I1.fpOk hb' (I1.hok.fresh hb')⟩
end L2
namespace L2
open PySem PySem.Spec PyProof.Rows PySem.SeqAt
mutual
def DR (H:Hp):PyData->V->Prop
 | .none,v=>v= .non
 | .bool b,v=>v= .bl b
 | .int n,v=>v= .int n
 | .str x,v=>v= .str x
 | .list ds,v=>∃ a vs,v= .ref a/\H a=some (.lst vs)/\DRs H ds vs
 | .tuple ds,v=>∃ a vs,v= .ref a/\H a=some (.tup vs)/\DRs H ds vs
 | .dict _,_=>False
def DRs (H:Hp):List PyData->List V->Prop
 | [],vs=>vs=[]
 | d :: ds,vs=>∃ v r,vs=v :: r/\DR H d v/\DRs H ds r
end
mutual
theorem DR.same {H H':Hp} (s:Same H H'):∀ (d:PyData) (v:V),DR H d v->DR H' d v
 | .none,_,h=>by rw [DR] at h ⊢;exact h
 | .bool _,_,h=>by rw [DR] at h ⊢;exact h
 | .int _,_,h=>by rw [DR] at h ⊢;exact h
 | .str _,_,h=>by rw [DR] at h ⊢;exact h
 | .list ds,v,h=>by rw [DR] at h ⊢;obtain ⟨a,vs,e,q,r⟩:=h;exact ⟨a,vs,e,s _ _ q,DRs.same s ds vs r⟩
 | .tuple ds,v,h=>by rw [DR] at h ⊢;obtain ⟨a,vs,e,q,r⟩:=h;exact ⟨a,vs,e,s _ _ q,DRs.same s ds vs r⟩
 | .dict _,_,h=>by rw [DR] at h;exact h.elim
theorem DRs.same {H H':Hp} (s:Same H H'):∀ (ds:List PyData) (vs:List V),DRs H ds vs->DRs H' ds vs
 | [],_,h=>by rw [DRs] at h ⊢;exact h
 | d :: ds,vs,h=>by rw [DRs] at h ⊢;obtain ⟨v,r,e,q,t⟩:=h;exact ⟨v,r,e,DR.same s d v q,DRs.same s ds r t⟩
end
theorem oW {H:Hp} {n:Int} {v:V}:DR H (.int n) v↔v= .int n:=by rw [DR]
theorem KQ {H:Hp} {n:Str} {v:V}:DR H (.str n) v↔v= .str n:=by rw [DR]
theorem P0 {H:Hp} {n:Bool} {v:V}:DR H (.bool n) v↔v= .bl n:=by rw [DR]
theorem Qa {H:Hp} {v:V}:DR H .none v↔v= .non:=by rw [DR]
theorem Qc {H:Hp} {ds:List PyData} {v:V}:DR H (.list ds) v↔∃ a vs,v= .ref a/\H a=some (.lst vs)/\DRs H ds vs:=by rw [DR]
theorem KR {H:Hp} {ds:List PyData} {v:V}:DR H (.tuple ds) v↔∃ a vs,v= .ref a/\H a=some (.tup vs)/\DRs H ds vs:=by rw [DR]
theorem pX {H:Hp} {vs:List V}:DRs H [] vs↔vs=[]:=by rw [DRs]
theorem gk {H:Hp} {d:PyData} {ds:List PyData} {vs:List V}:DRs H (d :: ds) vs↔∃ v r,vs=v :: r/\DR H d v/\DRs H ds r:=by rw [DRs]
theorem qN {H:Hp}:∀ {ds es:List PyData} {vs ws:List V},DRs H ds vs->DRs H es ws->DRs H (ds ++ es) (vs ++ ws)
 | [],_,_,_,h,q=>by rw [pX] at h;subst h;exact q
 | d :: ds,_,_,_,h,q=>by
  rw [gk] at h;obtain ⟨v,r,rfl,hd,hr⟩:=h;exact gk.mpr ⟨v,r ++ _,rfl,hd,qN hr q⟩
theorem vz {H:Hp} {d:PyData} {v:V} (h:DR H d v):DRs H [d] [v]:=gk.mpr ⟨v,[],rfl,h,pX.mpr rfl⟩
theorem rZ {H:Hp}:∀ {ds:List PyData} {vs:List V},DRs H ds vs->vs.length=ds.length
 | [],_,h=>by rw [pX] at h;subst h;rfl
 | d :: ds,_,h=>by rw [gk] at h;obtain ⟨v,r,rfl,_,hr⟩:=h;simp [rZ hr]
theorem KY {H:Hp}:∀ {ds:List PyData} {vs:List V} {i:Nat} {d:PyData},DRs H ds vs->ds[i]?=some d->∃ v,vs[i]?=some v/\DR H d v
 | [],_,_,_,_,e=>by simp at e
 | d :: ds,_,i,d',h,e=>by
  rw [gk] at h;obtain ⟨v,r,rfl,hd,hr⟩:=h;cases i with
  | zero=>simp at e;subst e;exact ⟨v,rfl,hd⟩
  | succ i=>simp at e;obtain ⟨u,h1,h2⟩:=KY hr e;exact ⟨u,by simpa using h1,h2⟩
mutual
theorem DR.reads {P:Program} {w:World} {H:Hp} {h:Heap} (ok:HOk P w H h):∀ (d:PyData) (v:V) (u:Value),DR H d v->RelV v u->∃ as,Reads h u d as
 | .none,_,u,q,r=>by rw [DR] at q;subst q;cases r;exact ⟨_,.none⟩
 | .bool b,_,u,q,r=>by rw [DR] at q;subst q;cases r;exact ⟨_,.bool _⟩
 | .int n,_,u,q,r=>by rw [DR] at q;subst q;obtain ⟨t,rfl⟩:=r;exact ⟨_,.int _ _⟩
 | .str n,_,u,q,r=>by rw [DR] at q;subst q;obtain ⟨t,rfl⟩:=r;exact ⟨_,.str _ _⟩
 | .list ds,v,u,q,r=>by
  rw [DR] at q;obtain ⟨a,vs,rfl,e,t⟩:=q;cases r;obtain ⟨_,its,n,rv,g⟩:=ok a _ e;obtain ⟨as,ra⟩:=DRs.reads ok ds vs its t rv;exact ⟨_,.list g rfl rfl (by simpa using ra)⟩
 | .tuple ds,v,u,q,r=>by
  rw [DR] at q;obtain ⟨a,vs,rfl,e,t⟩:=q;cases r;obtain ⟨_,its,rv,g⟩:=ok a _ e;obtain ⟨as,ra⟩:=DRs.reads ok ds vs its t rv;obtain ⟨o,ho,hc,n,hd⟩:=g;exact ⟨_,.tuple ho hc hd (by simpa using ra)⟩
 | .dict _,_,_,q,_=>by rw [DR] at q;exact q.elim
theorem DRs.reads {P:Program} {w:World} {H:Hp} {h:Heap} (ok:HOk P w H h):∀ (ds:List PyData) (vs:List V) (us:List Value),DRs H ds vs->Vals vs us->∃ as,ReadsAll h us ds as
 | [],_,us,q,r=>by rw [DRs] at q;subst q;cases r;exact ⟨_,.nil⟩
 | d :: ds,_,us,q,r=>by
  rw [DRs] at q;obtain ⟨v,r',rfl,q1,q2⟩:=q;cases r with
  | cons a b=>
   obtain ⟨as,h1⟩:=DR.reads ok d v _ q1 a;obtain ⟨bs,h2⟩:=DRs.reads ok ds r' _ q2 b;exact ⟨_,.cons h1 h2⟩
end
def Xv:R2:=fun x y H Q=>∃ d e,DR H d x/\DR H e y/\shaped d=true/\shaped e=true/\Q (.bl (PyData.eqv d e)) H
def Xw:R2:=fun x y H Q=>∃ d e,DR H d x/\DR H e y/\shaped d=true/\shaped e=true/\Q (.bl (!PyData.eqv d e)) H
section
variable {X:Cx}
theorem U7 (hu:X.A.units+64 < cLine):OpR X (compareOp .Eq) Xv:=by
 intro pins s U H x y v u Q I rx ry h;obtain ⟨d,e,h1,h2,h3,h4,q⟩:=h;obtain ⟨as,r1⟩:=DR.reads I.hok d x v h1 rx;obtain ⟨bs,r2⟩:=DR.reads I.hok e y u h2 ry;exact eq_dataH r1 r2 h3 h4 hu ⟨.bl _,H,I,rfl,q⟩
theorem U8 (hu:X.A.units+64 < cLine):OpR X (compareOp .NotEq) Xw:=by
 intro pins s U H x y v u Q I rx ry h;obtain ⟨d,e,h1,h2,h3,h4,q⟩:=h;obtain ⟨as,r1⟩:=DR.reads I.hok d x v h1 rx;obtain ⟨bs,r2⟩:=DR.reads I.hok e y u h2 ry;exact ne_dataH r1 r2 h3 h4 hu ⟨.bl _,H,I,rfl,q⟩
def G7 (K:W.Frag):R2:=fun x y H Q=>Uu K x y H Q\/Xv x y H Q
def U9 (K:W.Frag):R2:=fun x y H Q=>Xu K x y H Q\/Xw x y H Q
theorem Dd {K:W.Frag} (hK:X.K=K) (hu:X.A.units+64 < cLine):OpR X (compareOp .Eq) (G7 K):=(Ux hK (Nat.lt_of_le_of_lt (Nat.le_add_right _ _) hu)).or (U7 hu)
theorem wk {K:W.Frag} (hK:X.K=K) (hu:X.A.units+64 < cLine):OpR X (compareOp .NotEq) (U9 K):=(U6 hK hu).or (U8 hu)
end
section
variable {H:Hp} {Q:VK} {K:W.Frag} {U:St}
theorem cR {i j:Int} (h:Q (.bl (decide (V.int i=V.int j))) H):G7 K (.int i) (.int j) H Q:=.inl (.inl ⟨rfl,h⟩)
theorem dM {i j:Str} (h:Q (.bl (decide (V.str i=V.str j))) H):G7 K (.str i) (.str j) H Q:=.inl (.inl ⟨rfl,h⟩)
theorem cT {i j:Bool} (h:Q (.bl (decide (V.bl i=V.bl j))) H):G7 K (.bl i) (.bl j) H Q:=.inl (.inl ⟨rfl,h⟩)
theorem dN {i j:Int} (h:Q (.bl (!decide (V.int i=V.int j))) H):U9 K (.int i) (.int j) H Q:=.inl (.inl ⟨rfl,h⟩)
theorem dO {i j:Str} (h:Q (.bl (!decide (V.str i=V.str j))) H):U9 K (.str i) (.str j) H Q:=.inl (.inl ⟨rfl,h⟩)
theorem wu {x y:V} {d:PyData} (h1:DR H d x) (h2:DR H d y) (hs:shaped d=true) (h:Q (.bl true) H):G7 K x y H Q:=
 .inr ⟨d,d,h1,h2,hs,hs,by rw [PySem.SeqAt.eqv_refl d (canLay_of_shaped hs)];exact h⟩
theorem bU {a:TA} {R:It->Hp->Prop} (h:a U H fun vs H1=>(∃ x:Str,vs=[.str x]/\R (U0 (oh x) x.cps.size) H1)\/∃ a xs,vs=[.ref a]/\SqL K H1 a xs/\R (Wj K a) H1):RN K a U H R:=h
theorem iU {a:Addr} {xs:List V} {g:TG} {tb:TS} {D:Ends} (Pv:Nat->St->Hp->Prop) (h0:Pv 0 U H) (hq:∀ i U H,i<=xs.length->Pv i U H->SqL K H a xs)
  (hs:∀ i U H T x,xs[i]?=some x->Pv i U H->H T=none->g (.ref T) U (upd H T (.tup [.int i,x])) fun σ2 H2=>tb {D with nx:=Pv (i+1),ct:=Pv (i+1),bk:=D.nx} σ2 H2) (hd:∀ U H,Pv xs.length U H->D.nx U H):
  ∃ W:Nat->Nat->St->Hp->Prop,(∃ m,W 0 m U H)/\∀ i m U H,W i m U H->
   ((Wj K a).stop i H/\D.nx U H)\/((Wj K a).go i H/\∃ N:St->Hp->Prop,(∀ U' H',N U' H'->∃ m',m' < m/\W (i+1) m' U' H')/\∀ x H',(Wj K a).yld i H x H'->g x U H' fun σ2 H2=>tb {D with nx:=N,ct:=N,bk:=D.nx} σ2 H2):=by
 refine ⟨fun i m U H=>m=xs.length - i/\i<=xs.length/\Pv i U H,⟨xs.length,by simp,Z7 _,h0⟩,?_⟩;rintro i m U H ⟨rfl,hi,p⟩;have q1:=hq i U H hi p;by_cases hlt:i < xs.length
 ·refine .inr ⟨⟨xs,xs[i],q1,YX hlt⟩,Pv (i+1),fun U' H' p'=>⟨xs.length - (i+1),by omega,rfl,hlt,p'⟩,fun x H' y=>?_⟩
  obtain ⟨T,u,hT,e1,e2,e4⟩:=y;subst e1 e4;exact hs i U H T u (e2 xs q1) p hT
 ·have e:i=xs.length:=by omega
  subst e;exact .inl ⟨⟨xs,q1,Y4 _⟩,hd U H p⟩
end
end L2
namespace L2
open PySem PySem.Spec PyProof.Rows
theorem KZ:typeLookup (.type "list_reverseiterator") "__len__"=pure none:=by rw [Abv,AaR];kernel_rfl
theorem G8:typeLookup (.type "list_reverseiterator") "__length_hint__"=pure (some (.builtin "list_reverseiterator.__length_hint__")):=by rw [Abv,AaR];kernel_rfl
section
variable {prog:Program} {w:World} {A:Around} {E:Value->Shared->Prop} {s:Shared}
theorem K1 {it l:Addr} {i:Int} {Q:Bool->Shared->Prop} (hit:s.heap.IsRevIter it l i) (h:Q false s):wpAny (model prog w) A (Builtin.List.listLengthHint (.ref it)) Q E s:=by
 unfold Builtin.List.listLengthHint;refine YW (Abu hit.typeIs KZ ?_);show wpAny _ _ (specialOf (Value.ref it) (Str.ofString "__length_hint__") >>=_) _ _ _;refine YW (Abu hit.typeIs G8 ?_);generalize hid:("list_reverseiterator.__length_hint__":String)=id0
 wp_delta
 rw [show splitId id0=some ("list_reverseiterator","__length_hint__") from by subst hid;trivial];subst hid;refine YW (AbK (T:="list_reverseiterator") (b:=true) hit.typeIs (by rw [AbF];kernel_rfl) ?_);refine wpAny_ite_split (fun hab=>absurd hab (by decide)) (fun _=>?_);refine wpAny_ite_split (fun _=>?_) (fun hab=>absurd (by trivial) hab);refine wpAny_ite_split (fun hab=>absurd hab (by trivial)) (fun _=>?_);exact Y5 h
theorem K3 {it l:Addr} {items:Array Value} {Q:Value->Shared->Prop} (hh:A.handled=none) (hit:s.heap.IsRevIter it l ((items.size:Int) - 1)) (hl:s.heap.IsList l items) (hne:l≠it) (hn:items.size<=sizeLine)
  (hQ:∀ h' tk acc' c',(∀ b o,b≠it->s.heap.get? b=some o->h'.get? b=some o)->h'.get? s.heap.objs.size=some {cls:=.type "list",dict:=none,data:=.seq acc' c',slots:=#[]}->
   ItemsOf (fun i v=>items[items.size - 1 - i]?=some v) acc' items.size->Q (.ref s.heap.objs.size) {s with heap:=h',toks:=tk}):
  wpAny (model prog w) A (call (.type "list") [.ref it]) Q E s:=by
 refine callType_codes (Q₁:=fun obj s₁=>obj= .ref s.heap.objs.size/\s₁={s with heap:=s.heap.push {cls:=.type "list",data:=.seq #[]}}) F.called_list (F.typeCall_list_1 _) F.entry_list_init
  (code_list_new _ ⟨rfl,rfl⟩) fun obj s₁ h₁=>?_
 obtain ⟨rfl,rfl⟩:=h₁;have iti:it < s.heap.objs.size:=by obtain ⟨o,e,_⟩:=hit;exact Za e
 have itl:l < s.heap.objs.size:=by obtain ⟨o,e,_⟩:=hl;exact Za e
 generalize hS0:s.heap.objs.size=S at iti itl hQ;have hS:(s.heap.push {cls:=.type "list",data:=.seq #[]}).get? S=some {cls:=.type "list",data:=.seq #[]}:=by rw [← hS0];exact Y8 _ rfl
 have kp:∀ b o,s.heap.get? b=some o->(s.heap.push {cls:=.type "list",data:=.seq #[]}).get? b=some o:=fun b o e=>YZ _ e
 generalize s.heap.push {cls:=.type "list",data:=.seq #[]}=h1 at hS kp;have hit1:h1.IsRevIter it l ((items.size:Int) - 1):=hit.at fun o e=>kp it o e
 have hl1:h1.IsList l items:=hl.at fun o e=>kp l o e
 refine ⟨⟨_,hS,rfl⟩,F.args_list_init_2 _ _,?_⟩;have nSi:S≠it:=AaJ iti;have nSl:S≠l:=AaJ itl;have hSf:S ∉ [it,l]:=by simp [nSi,nSl]
 have W:=(Walks.listRev (prog:=prog) (w:=w) (A:=A.in1.in1) hh it l hne items).toS;show wpAny _ A.in1.in1 (do let old ← Builtin.List.listItems (.ref S);Builtin.List.listUpdate (.ref S) (fun _=>#[]);letGo old.toList.reverse;Builtin.List.listExtendWith (.ref S) (.ref it) .none) _ _ _;unfold Builtin.List.listItems;refine YW (YW (AaN hS rfl (Y5 ?_)));show wpAny _ A.in1.in1 (updateSeq S (fun _=>#[]) >>=fun _=>letGo (#[]:Array Value).toList.reverse >>=fun _=>Builtin.List.listExtendWith (.ref S) (.ref it) .none) _ _ _;refine YW (wpAny_updateSeq hS rfl ?_);have hS2:=gV (Obj.mapSeq (fun _=>(#[]:Array Value))) hS rfl;have k2:∀ b o,b≠S->h1.get? b=some o->(h1.update S (Obj.mapSeq (fun _=>(#[]:Array Value)))).get? b=some o:=fun b o hb e=>(ZV _ _ (Ne.symm hb)).trans e
 generalize h1.update S (Obj.mapSeq (fun _=>(#[]:Array Value)))=h2 at hS2 k2;have hit2:=hit1.at (h':=h2) fun o e=>k2 it o (Ne.symm nSi) e
 have hl2:=hl1.at (h':=h2) fun o e=>k2 l o (Ne.symm nSl) e
 refine YW (wpAny_letGo ?_);unfold Builtin.List.listExtendWith;refine YW (wpAny_typeOf (T:="list_reverseiterator") (Heap.IsRevIter.typeIs (s:={s with heap:=h2}) hit2) ?_);have e1:Builtin.List.listSameRef (.ref S) (.ref it)=false:=by simp [Builtin.List.listSameRef,nSi]
 have e2:(Value.type "list_reverseiterator" == Value.type "list")=false:=by decide
 have e3:(Value.type "list_reverseiterator" == Value.type "tuple")=false:=by decide
 simp only [e1,e2,e3,Bool.or_false,Z4,if_false];refine YW (AaW (s:={s with heap:=h2}) hit2 ?_);refine YW (Z2 (K1 (s:={s with heap:=h2}) hit2 ?_));refine wpAny_ite_split (fun hab=>absurd hab (by trivial)) (fun _=>?_);refine Y5 ⟨AbQ F.plain_extend_loop _,?_⟩;refine codeAny_extend_loopS W hn S hSf .none items.size 0 _ #[] _ rfl (Z7 _) ⟨Z7 _,by simpa using hit2,hl2⟩ hS2 (ItemsOf.nil _) fun s' acc' c' hm hS' hacc=>?_
 rw [Moved.eq_with hm];refine ⟨rfl,hQ s'.heap s'.toks acc' c' (fun b o hb e=>hm.heap b o (fun hmem=>?_) (k2 b o (fun z=>?_) (kp b o e))) hS' hacc⟩
 ·rcases Zb.mp hmem with e' | hmem
  ·exact absurd (Za e) (by rw [e',hS0];exact AaA _)
  ·exact hb (ZD.mp hmem)
 ·exact absurd (Za e) (by rw [z,hS0];exact AaA _)
end
section
variable {X:Cx} {K:W.Frag} {a b c e:Expr} {ta tb tc te:TE} {pos p p2 p3:Pos}
theorem Qd {op op':CmpOp} {r r':R2} (ho:OpR X (compareOp op) r) (ho':OpR X (compareOp op') r') (ha:JE X a ta) (hb:JE X b tb) (hc:JE X c tc) (hm:autoParam (lastMarks [op,op'] [b,c]=false) L2.auto5._auto_1):
  JE X (.Compare a [op,op'] [b,c] pos) (Ci r r' ta tb tc):=⟨Jz ho ho' ha.run hb.run hc.run hm⟩
theorem arg1 {Q:List Value->Shared->Prop} {E:Value->Shared->Prop} {s:Shared} (hs:notStar e=true) (h:wpAny (model X.prog X.w) X.A (eval e X.env) (fun u s1=>Q [u] s1) E s):wpAny (model X.prog X.w) X.A (spliced (backTo pos (starEach [e] X.env))) Q E s:=by
 rw [bI hs];show wpAny _ _ (spliced ((false,eval e X.env) :: backTo pos (starEach [] X.env))) _ _ s;exact Calls.spliced_cons (Aal h (fun u s1 q=>Calls.spliced_nil q) fun _ _ z=>z)
def K4 (K:W.Frag) (ta:TE):TE:=fun U H Q=>ta U H fun x H1=>∃ l xs,x= .ref l/\SqL K H1 l xs/\∀ q,H1 q=none->Q (.ref q) (upd H1 q (.lst xs.reverse))
theorem G9 (hK:X.K=K) (hc:X.calm=true) (hg:Gl X "list") (hm:X.mg "list"=none) (hg2:Gl X "reversed") (hm2:X.mg "reversed"=none) (ha:JE X a ta) (h:autoParam (notStar a=true) L2.auto4._auto_1):
  JE X (.Call (.Name "list" p) [.Call (.Name "reversed" p2) [a] [] p3] [] pos) (K4 K ta):=⟨by
 subst hK;intro pins s U H Q I hq;refine Aax (iR I hg hm mV (ZX (arg1 rfl (Aax (iR I hg2 hm2 oR (ZX (arg1 h (eQ (ha.run pins s U H _ I hq) fun u s1 qq0=>?_)) (bI h) rfl)))) rfl rfl));obtain ⟨x,H1,I1,rx,l,xs,ex,hx,q⟩:=qq0;subst ex;cases rx;obtain ⟨its,r,ht,hz⟩:=I1.list hx;have hlen:=r.length;refine call_reversed_list ht.isList ?_;have lt:l < s1.heap.objs.size:=by obtain ⟨o,ho,_⟩:=ht.isList;exact Za ho
 have e0:(s1.heap.push (PySem.revObj l ((its.toArray.size:Int) - 1))).get? s1.heap.objs.size=some (PySem.revObj l ((its.toArray.size:Int) - 1)):=Y8 _ rfl;have k0:∀ b o,s1.heap.get? b=some o->(s1.heap.push (PySem.revObj l ((its.toArray.size:Int) - 1))).get? b=some o:=fun b o q=>YZ _ q
 have s0:(s1.heap.push (PySem.revObj l ((its.toArray.size:Int) - 1))).objs.size=s1.heap.objs.size+1:=Aaj ..;refine K3 (it:=s1.heap.objs.size) (l:=l) (I1.ok.hd hc) ⟨_,e0,rfl,rfl⟩ (ht.isList.at fun o q=>k0 l o q) (ZR lt) (by simp;omega) fun h' tk acc' c' hk hS hacc=>?_
 have eacc:acc'.toList=its.reverse:=by
  apply List.ext_getElem?;intro i;have a1:acc'.size=its.length:=by have:=hacc.1;simpa using this
  by_cases hi:i < its.length
  ·have hi':i < acc'.size:=by omega
   have a2:=hacc.2 i acc'[i] (Array.getElem?_eq_getElem hi');rw [List.getElem?_reverse hi];simp at a2;rw [a2];simp [hi']
  ·rw [Aby (by simp;omega),Aby (by simp;omega)]
 have rr:Vals xs.reverse acc'.toList:=by rw [eacc];exact r.reverse
 have k1:∀ b o,s1.heap.get? b=some o->h'.get? b=some o:=fun b o z=>hk b o (ZR (Za z)) (k0 b o z)
 have hle:s1.heap.objs.size<=(s1.heap.push (PySem.revObj l ((its.toArray.size:Int) - 1))).objs.size:=by rw [s0];exact Abg _
 refine ⟨.ref _,_,I1.laid (t':=tk) (o:=.lst xs.reverse) k1 hle ⟨by simp;omega,acc'.toList,c',rr,by simpa using hS⟩,rfl,q _ (I1.hok.fresh hle)⟩⟩
end
def Ha (h:Heap) (T:Addr):Prop:=∃ oT ts,h.get? T=some oT/\oT.data= .fields ts/\3 < ts.size
def fM (C:Addr) (dd:Option Addr) (vs:Array Value):Obj:={cls:=.ref C,dict:=dd,data:=.fields vs}
def Qe (l:List Env):List Addr:=l.filterMap (·.frame)
section
variable {M:Model} {A:Around} {E:Value->Shared->Prop}
theorem yj {base:Heap} {env:Env} {outer:List Env} {L x C:Addr} {dd:Option Addr} {vs:Array Value} {hd:Value} {had:Bool} {Q:Unit->Shared->Prop} {s:Shared}
  (fr:A.frames=some (env :: outer)) (ff:s.heap.FunFrames base (env :: outer)) (fL:env.frame=some L) (ex:s.heap.get? x=some (fM C dd vs)) (sz:1 < vs.size) (nx:x ∉ Qe (env :: outer))
  (k:∀ h' T,h'.get? x=some (fM C dd (vs.setIfInBounds 1 (.ref T)))->s.heap.objs.size<=T->Ha h' T->(∀ b o,b≠x->b ∉ Qe (env :: outer)->s.heap.get? b=some o->h'.get? b=some o)->
   (∀ b o,b≠x->s.heap.get? b=some o->∃ sl,h'.get? b=some {o with slots:=sl})->Q () {s with heap:=h'}):
  wpAny M A (do let c ← frameOf env;let pl ← entryPlaceOf L had;let t ← EntryCells.newEntry hd c .none (rawInt L) .none pl;setField (.ref x) 1 t) Q E s:=by
 refine YW (wpAny_frameOf_fun fr ff fL fun g1 so=>?_);refine YW (wpAny_entryPlaceOf fun pl isp=>?_);unfold EntryCells.newEntry newFields;refine YW (Aaq ?_ (isp.sizeOk5 _ _ _ _ _));have x1:g1.get? x=some (fM C dd vs):=(so.2.1 x nx).trans ex
 have lts:([hd,Value.ref L,.none,rawInt L,.none] ++ (if pl.isEmpty then List.replicate 6 Value.none else pl)).toArray.size > 3:=by
  simp only [Zi,Zv,Aag,List.length_nil];omega
 generalize ([hd,Value.ref L,.none,rawInt L,.none] ++ (if pl.isEmpty then List.replicate 6 Value.none else pl)).toArray=tv at lts;have x2:(g1.push {cls:=.type "traceback",dict:=none,data:=.fields tv}).get? x=some (fM C dd vs):=YZ _ x1;have nTx:g1.objs.size≠x:=AaJ (Za x1);have t2:(g1.push {cls:=.type "traceback",dict:=none,data:=.fields tv}).get? g1.objs.size=some {cls:=.type "traceback",dict:=none,data:=.fields tv}:=Y8 _ rfl;have o2:∀ b o,g1.get? b=some o->(g1.push {cls:=.type "traceback",dict:=none,data:=.fields tv}).get? b=some o:=fun b o e=>YZ _ e
 refine Abp (vs:=vs) x2 rfl sz ?_;have e3:=gV (Obj.mapFields (·.setIfInBounds 1 (Value.ref g1.objs.size))) x2 rfl;have ot:∀ b,b≠x->((g1.push {cls:=.type "traceback",dict:=none,data:=.fields tv}).update x (Obj.mapFields (·.setIfInBounds 1 (Value.ref g1.objs.size)))).get? b=(g1.push {cls:=.type "traceback",dict:=none,data:=.fields tv}).get? b:=fun b hb=>ZV _ _ (Ne.symm hb)
 refine k _ g1.objs.size e3 (by rw [so.1];exact Y4 _) ⟨_,tv,(ot _ nTx).trans t2,rfl,lts⟩ (fun b o hb hf e=>?_) (fun b o hb e=>?_)
 ·rw [ot b hb];exact o2 b o ((so.2.1 b hf).trans e)
 ·obtain ⟨sl,q⟩:=so.2.2 b o e
  exact ⟨sl,by rw [ot b hb];exact o2 b _ q⟩
structure Et (fs:List Addr) (x C:Addr) (dd:Option Addr) (hd:Option Addr) (h h':Heap) (T:Addr):Prop where
 obj:∃ vs,h'.get? x=some (fM C dd vs)/\vs[1]?=some (.ref T)/\vs[2]?=some .none
 tb:Ha h' T
 ne:T≠x
 new:h.objs.size<=T\/hd=some T
 keep:∀ b o,b≠x->some b≠hd->b ∉ fs->h.get? b=some o->h'.get? b=some o
 slot:∀ b o,b≠x->some b≠hd->h.get? b=some o->∃ sl,h'.get? b=some {o with slots:=sl}
 tail:∀ b o,hd=some b->h.get? b=some o->∃ o',h'.get? b=some o'
theorem Xx {base:Heap} {env:Env} {outer:List Env} {L x C:Addr} {dd:Option Addr} {vs:Array Value} {Q:Unit->Shared->Prop} {s:Shared}
  (fr:A.frames=some (env :: outer)) (ff:s.heap.FunFrames base (env :: outer)) (fL:env.frame=some L) (ex:s.heap.get? x=some (fM C dd vs)) (h1:vs[1]?=some .none/\vs[2]?=some .none) (nx:x ∉ Qe (env :: outer))
  (k:∀ h' T,Et (Qe (env :: outer)) x C dd none s.heap h' T->Q () {s with heap:=h'}):wpAny M A (noteFrame (.ref x) env) Q E s:=by
 unfold noteFrame;simp only [fL];refine YW (Z8 ex rfl h1.1 ?_);rw [if_neg (by decide)];have sz:1 < vs.size:=(Zk.mp h1.1).1;refine yj fr ff fL ex sz nx fun h' T a1 a2 a3 a4 a5=>k h' T ⟨⟨_,a1,by simp [sz],by rw [Array.getElem?_setIfInBounds_ne (by decide)];exact h1.2⟩,a3,?_,.inl a2,fun b o hb _ hf e=>a4 b o hb hf e,fun b o hb _ e=>a5 b o hb e,fun b o z=>by cases z⟩
 exact AaJ (Zr (Za ex) a2)
theorem Xy {base:Heap} {env:Env} {outer:List Env} {L x C T0:Addr} {dd:Option Addr} {vs:Array Value} {Q:Unit->Shared->Prop} {s:Shared}
  (fr:A.frames=some (env :: outer)) (ff:s.heap.FunFrames base (env :: outer)) (fL:env.frame=some L) (ex:s.heap.get? x=some (fM C dd vs)) (h1:vs[1]?=some (.ref T0)/\vs[2]?=some .none) (t0:Ha s.heap T0) (ne:T0≠x) (nx:x ∉ Qe (env :: outer)) (nT:T0 ∉ Qe (env :: outer))
  (k:∀ h' T,Et (Qe (env :: outer)) x C dd (some T0) s.heap h' T->Q () {s with heap:=h'}):wpAny M A (noteFrame (.ref x) env) Q E s:=by
 obtain ⟨oT,ts,g,d,l3⟩:=id t0;unfold noteFrame;simp only [fL];refine YW (Z8 ex rfl h1.1 ?_);rw [if_pos (show (Value.ref T0 != Value.none)=true from by simp)];refine YW (Z8 g d (Array.getElem?_eq_getElem l3) ?_);by_cases q:(ts[3] == rawInt L)=true
 ·rw [if_pos q]
  exact Y5 (k _ T0 ⟨⟨vs,ex,h1⟩,t0,ne,.inr rfl,fun b o _ _ _ e=>e,fun b o _ _ e=>⟨o.slots,e⟩,fun b o _ e=>⟨o,e⟩⟩)
 ·rw [if_neg q]
  refine YW (Abp g d l3 ?_);have tT:=gV (Obj.mapFields (·.setIfInBounds 3 Value.none)) g (Aa9 (AaF d _));have ot:∀ b,b≠T0->(s.heap.update T0 (Obj.mapFields (·.setIfInBounds 3 Value.none))).get? b=s.heap.get? b:=fun b hb=>ZV _ _ (Ne.symm hb)
  have sz:1 < vs.size:=(Zk.mp h1.1).1
  have ff2:(s.heap.update T0 (Obj.mapFields (·.setIfInBounds 3 Value.none))).FunFrames base (env :: outer):=ff.of_keeps fun b o hb hn=>by
   refine ⟨o,(ot b (fun z=>?_)).trans hb,rfl⟩;rw [z,g] at hb;cases hb;exact hn _ d
  refine yj (s:={s with heap:=s.heap.update T0 (Obj.mapFields (·.setIfInBounds 3 Value.none))}) fr ff2 fL ((ot x (Ne.symm ne)).trans ex) sz nx fun h' T a1 a2 a3 a4 a5=>k h' T ⟨⟨_,a1,by simp [sz],by rw [Array.getElem?_setIfInBounds_ne (by decide)];exact h1.2⟩,a3,?_,.inl (by rw [Heap.size_update] at a2;exact a2),fun b o hb h0 hf e=>a4 b o hb hf ((ot b (fun z=>h0 (by rw [z]))).trans e),fun b o hb h0 e=>a5 b o hb ((ot b (fun z=>h0 (by rw [z]))).trans e),fun b o hb e=>?_⟩
  ·exact AaJ (Zr (Za ex) (by rw [Heap.size_update] at a2;exact a2))
  ·cases hb
   obtain ⟨sl,z⟩:=a5 T0 _ ne tT;exact ⟨_,z⟩
theorem Xz {x C T0:Addr} {dd:Option Addr} {vs:Array Value} {Q:Unit->Shared->Prop} {s:Shared} (ex:s.heap.get? x=some (fM C dd vs)) (h1:vs[1]?=some (.ref T0)/\vs[2]?=some .none) (t0:Ha s.heap T0) (ne:T0≠x)
  (k:∀ h',Et [] x C dd (some T0) s.heap h' T0->Q () {s with heap:=h'}):wpAny M A (setFlight (.ref x) none) Q E s:=by
 obtain ⟨oT,ts,g,d,l3⟩:=id t0;unfold setFlight;refine YW (Z8 ex rfl h1.1 ?_);rw [if_pos (show (Value.ref T0 != Value.none)=true from by simp)];refine Abp g d l3 (k _ ?_);have d2:=AaF d (·.setIfInBounds 3 ((none:Option Addr).elim Value.none fun f=>rawInt f));have tT:=gV (Obj.mapFields (·.setIfInBounds 3 ((none:Option Addr).elim Value.none fun f=>rawInt f))) g (Aa9 d2);have ot:∀ b,b≠T0->(s.heap.update T0 (Obj.mapFields (·.setIfInBounds 3 ((none:Option Addr).elim Value.none fun f=>rawInt f)))).get? b=s.heap.get? b:=fun b hb=>ZV _ _ (Ne.symm hb)
 exact ⟨⟨vs,(ot x (Ne.symm ne)).trans ex,h1⟩,⟨_,_,tT,d2,by simpa using l3⟩,ne,.inr rfl,fun b o _ h0 _ e=>(ot b (fun z=>h0 (by rw [z]))).trans e,fun b o _ h0 e=>⟨o.slots,(ot b (fun z=>h0 (by rw [z]))).trans e⟩,fun b o hb e=>by cases hb;exact ⟨_,tT⟩⟩
end
def XD:List Value:=[.type "ValueError",.type "Exception",.type "BaseException",.type "object"]
def Wk (K:W.Frag) (D:Addr):Bool:=match K.lookup D with
 | some o=>o.cls == .type "type" && (match o.data with
   | .cls cd=>cd.mro == .ref D :: cd.mro.drop 1 && cd.hasDel == false && cd.hasDict && PySem.W.tailIn K XD (cd.mro.drop 1)
   | _=>false) && o.slots.toList == [o.slots.toList.getD 0 none,o.slots.toList.getD 1 none,o.slots.toList.getD 2 none,o.slots.toList.getD 3 none,some (.builtin "ValueError.__new__"),o.slots.toList.getD 5 none]
 | none=>false
theorem Wk_d {dt:Data} {f:ClassData->Bool} (h:(match dt with
   | .cls cd=>f cd
   | _=>false)=true):∃ cd,dt= .cls cd/\f cd=true:=by
 cases dt <;> first | exact ⟨_,rfl,h⟩ | cases h
theorem wy {K:W.Frag} {D:Addr} (q:Wk K D=true):∃ nm qn N bs bm sn sub ab col dd k0 k1 k2 k3 k5,K.lookup D=some (excClassObj nm qn D N bs bm true sn sub ab col dd k0 k1 k2 k3 k5 "ValueError.__new__")/\∀ h,K.In h->OwnTail h XD bm:=by
 unfold Wk at q
 cases ho:K.lookup D with
 | none=>rw [ho] at q;cases q
 | some o=>
  rw [ho] at q;obtain ⟨c,dd,dt,⟨sl⟩⟩:=o;simp only [Zt] at q;obtain ⟨⟨q1,q2⟩,q3⟩:=q;obtain rfl:=eq_of_beq q1
  obtain ⟨cd,rfl,q2⟩:=Wk_d q2
  simp only [Zt] at q2;obtain ⟨⟨⟨e1,e3⟩,e4⟩,e5⟩:=q2;replace e1:=eq_of_beq e1;replace e3:=eq_of_beq e3;replace q3:=eq_of_beq q3;generalize cd.mro.drop 1=bm at e1 e5
  obtain ⟨nm,bs,mro,ns,qn,hd,sn,sub,ab,col,del⟩:=cd
  replace e1:mro= .ref D :: bm:=e1;replace e3:del=false:=e3;replace e4:hd=true:=e4;subst e1 e3 e4
  replace q3:sl=_:=q3;rw [q3];exact ⟨nm,qn,ns,bs,bm,sn,sub,ab,col,dd,_,_,_,_,_,rfl,fun h X=>PySem.W.tail_of_in X e5⟩
section
variable {prog:Program} {w:World} {A:Around} {K:W.Frag} {D f:Addr} {E:Value->Shared->Prop}
theorem Aj {h:Heap} {g:Array GenState} {d:Drawn} {t:Nat} {os:OsState} {us:List Value} {Q:Fin->Shared->Prop} (X:K.In h) (hx:Wk K D=true)
  (hi:PySem.W.findIn K (.ref D) "__init__"=some (some (.ref f))) (hf:PySem.W.typeIn K (.ref f)=some (.type "function")) (hl:us.length<=sizeLine)
  (k:wpAny (model prog w) A (call (.ref f) (.ref (h.objs.size+1) :: us)) (fun r s'=>r= .none/\Q (.done (.ret (.ref (h.objs.size+1)))) s') E
   ⟨(h.push {cls:=.type "tuple",data:=.seq us.toArray}).push (fM D none #[.ref h.objs.size,.none,.none,.none,.bool false,.none]),g,d,t,os⟩):
  wpAny (model prog w) A (Builtin.«type.__call__» ⟨.ref D :: us,[]⟩) Q E ⟨h,g,d,t,os⟩:=by
 obtain ⟨nm,qn,N,bs,bm,sn,sub,ab,col,dd,k0,k1,k2,k3,k5,lk0,tl⟩:=wy hx;have T:=tl h X;have hD:=X _ _ lk0;have L3:=AaG (M:=model prog w) X hi;have L4:=PySem.W.bind_fn (M:=model prog w) X (.ref (h.objs.size+1)) hf;repeat (first | with_reducible refine AaD hD ?_ | with_reducible refine wpAny_madeBy_exc hD ?_ | wp_step)
 refine codeAny_call_builtin_code (Code.quiet_builtin _ F.excBase_ValueError.quiet) (wpAny_check_new_subT F.excBase_ValueError T hD (codeAny_exc_new_subT F.excBase_ValueError T hD ?_ hl));show wpAny _ _ _ _ _ _;have keep:∀ b o,h.get? b=some o->((h.push {cls:=.type "tuple",data:=.seq us.toArray}).push (fM D none #[.ref h.objs.size,.none,.none,.none,.bool false,.none])).get? b=some o:=fun b o q=>YZ _ (YZ _ q)
 have gx:((h.push {cls:=.type "tuple",data:=.seq us.toArray}).push (fM D none #[.ref h.objs.size,.none,.none,.none,.bool false,.none])).get? (h.objs.size+1)=some (fM D none #[.ref h.objs.size,.none,.none,.none,.bool false,.none]):=by
  have:=Y8 (h.push {cls:=.type "tuple",data:=.seq us.toArray}) (o:=fM D none #[.ref h.objs.size,.none,.none,.none,.bool false,.none]) rfl;rwa [Aaj] at this
 have hD1:=keep _ _ hD;have M3:=L3.keeps keep;have M4:=L4.keeps keep;have cD:(Value.ref D :: bm).contains (.ref D)=true:=by simp
 unfold fM at gx M3 M4 hD1 k;unfold isInstance;repeat (first | with_reducible refine AaD gx ?_ | (with_reducible refine Abl hD1 ?_;rw [cD]) | wp_step)
 show wpAny _ _ (typeLookup (.ref D) _) _ _ _;refine M3.at ?_;refine Z2 (YW (M4.at ?_));dsimp only;refine YW (Aal k (fun r s' hr=>?_) fun _ _ z=>z);obtain ⟨rfl,z⟩:=hr
 wp_walk
 exact z
theorem Va {s:Shared} {us:List Value} {Q:Value->Shared->Prop} (X:K.In s.heap) (hx:Wk K D=true)
  (hi:PySem.W.findIn K (.ref D) "__init__"=some (some (.ref f))) (hf:PySem.W.typeIn K (.ref f)=some (.type "function")) (hl:us.length<=sizeLine)
  (k:wpAny (model prog w) (A.under (.builtin "type.__call__" ⟨.ref D :: us,[]⟩)) (call (.ref f) (.ref (s.heap.objs.size+1) :: us)) (fun r s'=>r= .none/\Q (.ref (s.heap.objs.size+1)) s') E
   {s with heap:=(s.heap.push {cls:=.type "tuple",data:=.seq us.toArray}).push (fM D none #[.ref s.heap.objs.size,.none,.none,.none,.bool false,.none])}):
  wpAny (model prog w) A (call (.ref D) us) Q E s:=by
 obtain ⟨h,g,d,t,os⟩:=s;obtain ⟨nm,qn,N,bs,bm,sn,sub,ab,col,dd,k0,k1,k2,k3,k5,lk0,tl⟩:=wy hx;have hD:=X _ _ lk0;have f1:=tc_lookup;have f2:=tc_bind (.ref D);have hT:(⟨h,g,d,t,os⟩:Shared).TypeIs (.ref D) "type":=⟨_,hD,rfl⟩;refine AbE (codeAny_of_tree ?_);show wpAny _ _ (callAny (.ref D) _) _ _ _;repeat (any_goals (first | assumption | with_reducible refine AaD hD ?_ | wp_step))
 refine ⟨rfl,codeAny_call_builtin_at (Code.quiet_builtin _ (by trivial)) entry_typeCall (wpAny_check_type_call_sub hD (Aj X hx hi hf hl ?_))⟩;exact k
end
def t7 (x C dx:Addr):HO:=.ext fun h=>∃ vs,h.get? x=some (fM C (some dx) vs)/\vs[2]?=some .none
def jT (x C:Addr):HO:=.ext fun h=>∃ t,h.get? x=some (fM C none #[.ref t,.none,.none,.none,.bool false,.none])
theorem Eu {P:Program} {w:World} {H:Hp} {h:Heap} {x C dx:Addr} {vs:Array Value} (e:h.get? x=some (fM C (some dx) vs)) (h2:vs[2]?=some .none):ObjOk P w H h x (t7 x C dx):=
 ⟨⟨vs,e,h2⟩,⟨_,e⟩,fun h1 h2 ⟨vs,e,z⟩ k=>⟨vs,k _ e,z⟩⟩
theorem Ew {P:Program} {w:World} {H:Hp} {h:Heap} {x C dx:Addr} (ok:HOk P w H h) (e:H x=some (t7 x C dx)):∃ vs,h.get? x=some (fM C (some dx) vs)/\vs[2]?=some .none:=(ok _ _ e).1
structure Head (X:Cx) (pins:List (Addr×Obj)) (H:Hp) (x C dx T:Addr) (h:Heap):Prop where
 obj:∃ vs,h.get? x=some (fM C (some dx) vs)/\vs[1]?=some (.ref T)/\vs[2]?=some .none
 tb:Ha h T
 fp:oM X pins H T
 tr:H x=some (t7 x C dx)
theorem Head.ne {X:Cx} {pins:List (Addr×Obj)} {H:Hp} {x C dx T:Addr} {h:Heap} (a:Head X pins H x C dx T h):T≠x:=fun z=>by
 have:=a.fp.1;rw [z,a.tr] at this;cases this
def Fly (X:Cx) (pins:List (Addr×Obj)) (H:Hp) (x C dx:Addr) (h:Heap):Prop:=
 H x=some (t7 x C dx)/\((∃ vs,h.get? x=some (fM C (some dx) vs)/\vs[1]?=some .none/\vs[2]?=some .none)\/∃ T,Head X pins H x C dx T h)
section
variable {X:Cx} {pins:List (Addr×Obj)} {U:St} {H:Hp} {s:Shared} {x C dx:Addr} {h':Heap} {T:Addr} {hd:Option Addr}
theorem Inv.noted {fs:List Addr} (I:Inv X pins U H s) (hx:H x=some (t7 x C dx)) (hh:∀ b,hd=some b->oM X pins H b) (hf:∀ b∈fs,b∈X.env.locals :: X.fs) (N:Et fs x C (some dx) hd s.heap h' T):Inv X pins U H {s with heap:=h'}:=by
 obtain ⟨m,⟨oL,esL,epL,hoL,rL⟩,_⟩:=id I.loc
 have fsF:∀ b∈fs,H b=none:=fun b hb=>by
  rcases Zb.mp (hf b hb) with e | hb
  ·rw [e];exact I.free
  ·obtain ⟨_,o,ho,_⟩:=I.ok.funs.mem hb
   exact I.base.free b o ho (I.ok.frf b hb) fun z=>I.ok.exfs b z hb
 have nx:∀ b,H b=none->b≠x:=fun b n z=>by rw [z,hx] at n;cases n
 have hdF:∀ b,hd=some b->H b=none:=fun b e=>(hh b e).1
 have mem:∀ b,b ∉ hd.toList->some b≠hd:=fun b nb z=>nb (by rw [← z];simp)
 refine I.step (g':=s.gens) (d':=s.drawn) (t':=s.toks) (ch:=hd.toList) (fun b hb=>?_) (fun b o hL hb hc e n=>?_) (fun b o hL hb hc e n=>?_) (fun _ _ _ _ n=>n) (fun b o hc e=>?_) (fun _ _ e=>e) (fun _ _ _ e=>e) (fun b ps e=>⟨#[],by rw [e];simp⟩) (fun m hm=>?_) (fun b u e=>?_) I.bare
 ·have e:hd=some b:=by cases hd <;> simp_all
  obtain ⟨_,a2,_,a4,a5,a6⟩:=hh b e;exact ⟨a4,a2,a5,a6⟩
 ·refine N.keep b o (nx b n) (mem b hc) (fun z=>?_) e
  rcases Zb.mp (hf b z) with q | q
  ·exact hL q
  ·exact hb q
 ·exact N.slot b o (nx b n) (mem b hc) e
 ·by_cases q:b=x
  ·obtain ⟨vs,z,_⟩:=N.obj
   exact ⟨_,by rw [q];exact z⟩
  ·obtain ⟨sl,z⟩:=N.slot b o q (mem b hc) e
   exact ⟨_,z⟩
 ·obtain ⟨o,es,ep,ho,r⟩:=hm
  obtain ⟨sl,z⟩:=N.slot _ o (nx _ I.free) (fun q=>(hh _ q.symm).2.1 rfl) ho;exact ⟨_,es,ep,z,r⟩
 ·by_cases q:b=x
  ·subst q
   rw [hx] at e;cases e;obtain ⟨vs,z,_,z2⟩:=N.obj;exact Eu z z2
  ·refine (I.hok b u e).stay (fun c v hc z=>?_) (fun _ q=>q) fun _ _ q=>q
   have tc:∃ u,H c=some u:=by
    rcases hc with rfl | hc
    ·exact ⟨_,e⟩
    ·exact ⟨_,hc⟩
   obtain ⟨uc,tc⟩:=tc;refine N.keep c v (fun zz=>?_) (fun zz=>?_) (fun zz=>?_) z
   ·rcases hc with rfl | hc
    ·exact q zz
    ·rw [zz,hx] at hc;cases hc
   ·rw [hdF c zz.symm] at tc;cases tc
   ·rw [fsF c zz] at tc;cases tc
theorem Al {A:Around} {E:Value->Shared->Prop} {Q:Unit->Shared->Prop} (I:Inv X pins U H s) (hst:X.stack=X.env :: X.outer) (hfr:X.env.frame=some X.env.locals) (hA:A.frames=some X.stack) (F:Fly X pins H x C dx s.heap)
  (k:∀ h' T,Inv X pins U H {s with heap:=h'}->Head X pins H x C dx T h'->Q () {s with heap:=h'}):wpAny (model X.prog X.w) A (noteFrame (.ref x) X.env) Q E s:=by
 have ff:s.heap.FunFrames X.base (X.env :: X.outer):=hst ▸ I.stack;have sub:∀ b∈Qe (X.env :: X.outer),b∈X.env.locals :: X.fs:=fun b hb=>I.stkSub b (by rw [hst];exact hb)
 have nf:∀ b u,H b=some u->b ∉ Qe (X.env :: X.outer):=fun b u e z=>by
  rw [I.stkFree b (by rw [hst];exact z)] at e;cases e
 obtain ⟨hx,⟨vs,e,h1⟩ | ⟨T0,hT⟩⟩:=F
 ·refine Xx (hst ▸ hA) ff hfr e h1 (nf x _ hx) fun h' T N=>?_
  have J:=I.noted hx (fun b z=>by cases z) sub N;refine k h' T J ⟨N.obj,N.tb,?_,hx⟩;have zT:s.heap.objs.size<=T:=by rcases N.new with z | z;exact z;cases z
  exact I.fpOk zT (I.hok.fresh zT)
 ·obtain ⟨vs,e,h1⟩:=hT.obj
  refine Xy (hst ▸ hA) ff hfr e h1 hT.tb hT.ne (nf x _ hx) (fun z=>?_) fun h' T N=>?_
  ·rcases Zb.mp (sub T0 z) with q | q
   ·exact hT.fp.2.1 q
   ·exact hT.fp.2.2.1 q
  ·have J:=I.noted hx (fun b z=>by cases z;exact hT.fp) sub N
   refine k h' T J ⟨N.obj,N.tb,?_,hx⟩;rcases N.new with z | z
   ·exact I.fpOk z (I.hok.fresh z)
   ·cases z;exact hT.fp
theorem wz {A:Around} {E:Value->Shared->Prop} {Q:Unit->Shared->Prop} (I:Inv X pins U H s) (F:Head X pins H x C dx T s.heap)
  (k:∀ h',Inv X pins U H {s with heap:=h'}->Head X pins H x C dx T h'->Q () {s with heap:=h'}):wpAny (model X.prog X.w) A (setFlight (.ref x) none) Q E s:=by
 obtain ⟨vs,e,h1⟩:=F.obj;refine Xz e h1 F.tb F.ne fun h' N=>?_
 exact k h' (I.noted F.tr (fun b z=>by cases z;exact F.fp) (fun b z=>absurd z (by simp)) N) ⟨N.obj,N.tb,F.fp,F.tr⟩
def Qf (P:Program) (w:World):Jc:=fun outer H s E e s'=>∃ x C dx T H',e= .ref x/\s'.os=s.os/\AllBare s'.gens/\Un (frs outer) [] H H' s.heap s'.heap/\HOk P w H' s'.heap/\H' x=some (t7 x C dx)/\H' T=none/\s.heap.objs.size<=T/\
 (∃ vs,s'.heap.get? x=some (fM C (some dx) vs)/\vs[1]?=some (.ref T)/\vs[2]?=some .none)/\Ha s'.heap T/\E (.ref C) (some x) H'
def XE (X:Cx) (pins:List (Addr×Obj)) (R:St->XK) (e:Value) (s':Shared):Prop:=∃ x C dx U H',e= .ref x/\Inv X pins U H' s'/\Fly X pins H' x C dx s'.heap/\R U (.ref C) (some x) H'
theorem Ex {R:St->XK} {e:Value} {s':Shared} (I:Inv X pins U H s) (c:Qf X.prog X.w X.stack H s (R U) e s'):XE X pins R e s':=by
 obtain ⟨x,C,dx,T,H',rfl,os,bare,un,hok,tx,tT,zT,ob,tb,r⟩:=c;obtain ⟨hh,g,d,t,os'⟩:=s';obtain rfl:os'=s.os:=os;have J:=I.call (h':=hh) (g':=g) (d':=d) (t':=t) (ch:=[]) un hok bare (fun b z=>absurd z (by simp));exact ⟨x,C,dx,U,H',rfl,J,⟨tx,.inr ⟨T,ob,tb,I.fpOk zT tT,tx⟩⟩,r⟩
def kj (X:Cx) (R:St->XK):Prop:=∀ (pins:List (Addr×Obj)) (e:Value) (s':Shared),XE X pins R e s'->X.xe e s'
end
theorem cj {P:Program} {w:World} {K:W.Frag} {mg:Str->Option Value} {base:Heap} {N:List Str} {qual:Str} {scope:Scope} {f:Addr} {cd:Value} {A:Around} {outer:List Env} {s:Shared} {H:Hp} {E:XK}:
  kj (qG (Qf P w) P w K mg base N qual scope f cd A outer s H E) (fun _=>E):=by
 rintro pins e s' ⟨x,C,dx,U,H',he,I,F,r⟩;subst he;show wpAny _ _ (leaving _ _) _ _ _;unfold leaving;refine YW (Al (X:=qG (Qf P w) P w K mg base N qual scope f cd A outer s H E) I rfl rfl I.ok.frames F fun h1 T J1 F1=>?_);refine wz (X:=qG (Qf P w) P w K mg base N qual scope f cd A outer s H E) J1 F1 fun h2 J2 F2=>?_
 refine ⟨x,C,dx,T,H',rfl,J2.os,J2.bare,J2.base,J2.hok,F2.tr,F2.fp.1,?_,F2.obj,F2.tb,r⟩;rcases F2.fp.2.2.2.1 with z | z
 ·exact absurd (show T∈([]:List Addr) from z) (by simp)
 ·exact z
def mJ (d:Addr) (fs:List (Str×V)):HO:=.ext fun h=>∃ mA,h.Ns1 d mA/\∀ f,RelO (fs.lookup f) (mA f)
theorem yV {P:Program} {w:World} {H:Hp} {h:Heap} {d:Addr} {fs:List (Str×V)} {mA:Str->Option Value} (n:h.Ns1 d mA) (r:∀ f,RelO (fs.lookup f) (mA f)):ObjOk P w H h d (mJ d fs):=by
 refine ⟨⟨mA,n,r⟩,let ⟨o,_,_,e,_⟩:=n;⟨o,e⟩,fun h1 h2 ⟨m,n,r⟩ k=>⟨m,?_,r⟩⟩;obtain ⟨o,es,ep,e,q⟩:=n;exact ⟨o,es,ep,k _ e,q⟩
theorem vA {P:Program} {w:World} {H:Hp} {h:Heap} {d:Addr} {fs:List (Str×V)} (ok:HOk P w H h) (e:H d=some (mJ d fs)):∃ mA,h.Ns1 d mA/\∀ f,RelO (fs.lookup f) (mA f):=(ok _ _ e).1
def gF (x C d:Addr):HO:=.ext fun h=>∃ t,h.get? x=some (fM C (some d) #[.ref t,.none,.none,.none,.bool false,.none])
theorem Hb {P:Program} {w:World} {H:Hp} {h:Heap} {x C d t:Addr} (e:h.get? x=some (fM C (some d) #[.ref t,.none,.none,.none,.bool false,.none])):ObjOk P w H h x (gF x C d):=
 ⟨⟨t,e⟩,⟨_,e⟩,fun h1 h2 ⟨t,e⟩ k=>⟨t,k _ e⟩⟩
theorem t8 {P:Program} {w:World} {H:Hp} {h:Heap} {x C d:Addr} (ok:HOk P w H h) (e:H x=some (gF x C d)):∃ t,h.get? x=some (fM C (some d) #[.ref t,.none,.none,.none,.bool false,.none]):=(ok _ _ e).1
def gm:List Value->Bool
 | []=>false
 | v :: r=>v :: r == XD || (match v with
   | .ref _=>gm r
   | _=>false)
theorem gm_r {v:Value} {b:Bool} (h:(match v with
   | .ref _=>b
   | _=>false)=true):∃ a,v= .ref a/\b=true:=by
 cases v <;> first | exact ⟨_,rfl,h⟩ | cases h
theorem gm_c {v:Value} {r:List Value}:gm (v :: r)=(v :: r == XD || (match v with
   | .ref _=>gm r
   | _=>false)):=rfl
theorem uQ {l:List Value} (e:gm l=true):(∃ a r,l= .ref a :: r/\gm r=true)\/l=XD:=by
 cases l with
 | nil=>cases e
 | cons v r=>
  rw [gm_c] at e;rcases (Bool.or_eq_true _ _).mp e with h | h
  ·exact .inr (eq_of_beq h)
  ·obtain ⟨a,rfl,h⟩:=gm_r h
   exact .inl ⟨a,r,rfl,h⟩
theorem uR (self:Value):∀ (l:List Value),gm l=true->refuseLoop self "__setattr__" l=pure ()
 | [],e=>by cases e
 | v :: r,e=>by
  rcases uQ e with ⟨a,r',q,e'⟩ | q
  ·cases q
   rw [refuseLoop_ref];exact uR self r e'
  ·rw [q]
   exact F.store_ValueError.passes self
theorem wB:∀ (l:List Value),gm l=true->l.contains (.type "object")=true/\l.contains (.type "BaseException")=true
 | [],e=>by cases e
 | v :: r,e=>by
  rcases uQ e with ⟨a,r',q,e'⟩ | q
  ·cases q
   obtain ⟨h1,h2⟩:=wB r e';exact ⟨by rw [Aay,h1,Bool.or_true],by rw [Aay,h2,Bool.or_true]⟩
  ·rw [q]
   decide
def Vb (K:W.Frag) (C:Addr):Bool:=Wk K C && (PySem.W.clsIn K C).any (fun cd=>gm cd.mro && cd.hasDict) && PySem.W.findIn K (.ref C) "__setattr__" == some (some (.builtin "object.__setattr__")) &&
 PySem.W.findIn K (.ref C) "__getattribute__" == some (some (.builtin "BaseException.__getattribute__")) && PySem.W.findIn K (.ref C) "__getattr__" == some none
structure XCls (K:W.Frag) (C:Addr):Prop where
 xi:Wk K C=true
 ov:∃ cd,PySem.W.clsIn K C=some cd/\gm cd.mro=true/\cd.hasDict=true
 sa:PySem.W.findIn K (.ref C) "__setattr__"=some (some (.builtin "object.__setattr__"))
 ga:PySem.W.findIn K (.ref C) "__getattribute__"=some (some (.builtin "BaseException.__getattribute__"))
 gh:PySem.W.findIn K (.ref C) "__getattr__"=some none
theorem Qg {K:W.Frag} {C:Addr} (h:Vb K C=true):XCls K C:=by
 unfold Vb at h;simp only [Zt,AaK] at h;obtain ⟨⟨⟨⟨h1,h2⟩,h3⟩,h4⟩,h5⟩:=h;obtain ⟨cd,a,b⟩:=PySem.W.any_some h2;simp only [Zt] at b;exact ⟨h1,⟨cd,a,b.1,b.2⟩,h3,h4,h5⟩
theorem Qh {l:List Value} (e:gm l=true):l.isEmpty=false:=by
 cases l with
 | nil=>cases e
 | cons _ _=>rfl
section
variable {prog:Program} {w:World} {A:Around} {s:Shared} {K:W.Frag} {x C:Addr} {R:Result->Shared->Prop}
theorem XCls.mro {c:Value} {b:Bool} (k:XCls K C) (h:∀ cd,PySem.W.clsIn K C=some cd->gm cd.mro=true->cd.mro.contains c=b):PySem.W.mroIn K C c=some b:=by
 obtain ⟨cd,a,o,_⟩:=k.ov;unfold PySem.W.mroIn;rw [a,Option.bind_some,if_neg (by rw [Qh o];decide),h cd a o]
theorem XCls.isObj (k:XCls K C):PySem.W.mroIn K C (.type "object")=some true:=k.mro fun cd _ o=>(wB _ o).1
theorem XCls.isExc (k:XCls K C):PySem.W.mroIn K C (.type "BaseException")=some true:=k.mro fun cd _ o=>(wB _ o).2
theorem RP {ox:Obj} {od:Option Obj} {name:Str} {tk:Tok} {v:Value} (X:K.In s.heap) (I:PySem.W.InstAt s.heap x ox C od) (c:XCls K C) (ht:NoAttr K C name)
  (h:wpAny (model prog w) A.in1 (Builtin.ObjectAttr.storeInOwnDict (.ref x) (.ref C) (.str name tk) name v false)
   (fun fin s'=>match fin with | .done f=>R (.ok f) s' | .again c'=>c'.quiet=true/\codeAny (model prog w) A c' R s') (fun e s'=>R (.error e) s') s):
  codeAny (model prog w) A (.call (.builtin "object.__setattr__") ⟨[.ref x,.str name tk,v],[]⟩) R s:=by
 obtain ⟨cd,hc,ho,_⟩:=c.ov;have sub:PySem.W.Looks (model prog w) s.heap (isInstance (.ref x) (.type "object")) true:=I.type.andThen (PySem.W.looks_mroIn X c.isObj);refine AbG F.store_object.slot.plain F.store_object.entry (@PySem.W.check_slot (model prog w) _ _ s "object.__setattr__" "object" "__setattr__" (.ref x) [.str name tk,v] [] _ F.store_object.kind F.store_object.split sub (F.store_object.args (.ref x) (.str name tk) v) ?_);have hm:PySem.W.Looks (model prog w) s.heap (mroOf (.ref C)) cd.mro:=(PySem.W.looks_clsIn X hc).andThen .now;have L3:PySem.W.Looks (model prog w) s.heap (Builtin.ObjectAttr.storeTaker? none) none:=.now;rw [PySem.W.osa_eq,refuse_eq];refine YW (YW (I.type.here (YW (hm.here ?_))));rw [uR _ _ ho];refine Y5 (YW (I.type.here (YW ((AaG X ht).here (YW (L3.here ?_))))));exact h
end
theorem K5 {H:Hp} {d x:Addr} {a b c:HO} (n:d≠x):upd (upd (upd H d a) x b) d c=upd (upd H x b) d c:=by
 funext y;unfold upd;by_cases h:y=d
 ·simp [h]
 ·simp [h]
section
variable {X:Cx} {pins:List (Addr×Obj)} {U:St} {H:Hp} {s:Shared} {x C d:Addr} {fs:List (Str×V)} {f:Str} {v y:V} {u:Value} {A:Around} {E:Value->Shared->Prop}
theorem XF {Q:Unit->Shared->Prop} (I:Inv X pins U H s) (e:H x=some (jT x C)) (c:XCls X.K C) (n:NoAttr X.K C f) (ry:RelV y u)
  (h:∀ s' d,H d=none->d≠x->Inv X pins U (upd (upd H x (gF x C d)) d (mJ d [(f,y)])) s'->Q () s'):wpAny (model X.prog X.w) A (setAttr (.ref x) f u) Q E s:=by
 obtain ⟨⟨t,hx⟩,-,-⟩:ObjOk X.prog X.w H s.heap x (jT x C):=I.hok x _ e;obtain ⟨cd,hc,ho,hd⟩:=c.ov;have J:PySem.W.InstAt s.heap x (fM C none #[.ref t,.none,.none,.none,.bool false,.none]) C none:=⟨hx,rfl,rfl,True.intro⟩;refine PySem.W.set_plain I.kIn J c.sa (RP (s:={s with toks:=s.toks+1}) I.kIn J c n ?_);refine YW (Y5 (YW (YW (AbD hx (YW ((PySem.W.looks_clsIn (M:=model X.prog X.w) I.kIn hc).here (s:={s with toks:=s.toks+1}) ?_))))));rw [hd];have hp:s.heap.objs.size≠x:=AaJ (Za hx);have hx1:(s.heap.push {cls:=.type "dict",data:=.dict #[]}).get? x=some (fM C none #[.ref t,.none,.none,.none,.bool false,.none]):=YZ _ hx;have d1:(s.heap.push {cls:=.type "dict",data:=.dict #[]}).get? s.heap.objs.size=some {cls:=.type "dict",data:=.dict #[]}:=Y8 _ rfl;have n1:∀ {hh:Heap},hh.get? s.heap.objs.size=some {cls:=.type "dict",data:=.dict #[]}->hh.Ns1 s.heap.objs.size (fun _=>none):=fun q=>Heap.Ns1.of_empty ⟨_,#[],_,q,rfl,fun e he=>absurd he (by simp),fun _=>rfl⟩
 have I1:Inv X pins U (upd H s.heap.objs.size (mJ s.heap.objs.size [])) {s with heap:=s.heap.push {cls:=.type "dict",data:=.dict #[]},toks:=s.toks+1}:=
  I.laid (t':=s.toks+1) (fun b o q=>YZ _ q) (Y4 _) (yV (n1 d1) fun g=>True.intro)
 refine YW (wpAny_alloc' ?_);refine YW (wpAny_update' hx1 ?_);have hx2:=gV (fun o:Obj=>({o with dict:=some s.heap.objs.size}:Obj)) hx1 rfl;have ot:∀ b,b≠x->((s.heap.push {cls:=.type "dict",data:=.dict #[]}).update x fun o=>{o with dict:=some s.heap.objs.size}).get? b=(s.heap.push {cls:=.type "dict",data:=.dict #[]}).get? b:=fun b hb=>ZV _ _ (Ne.symm hb)
 have e1:upd H s.heap.objs.size (mJ s.heap.objs.size []) x=some (jT x C):=(aC (Ne.symm hp)).trans e
 have I2:Inv X pins U (upd (upd H s.heap.objs.size (mJ s.heap.objs.size [])) x (gF x C s.heap.objs.size)) {s with heap:=(s.heap.push {cls:=.type "dict",data:=.dict #[]}).update x fun o=>{o with dict:=some s.heap.objs.size},toks:=s.toks+1}:=
  I1.write (t':=s.toks+1) (x:=x) (e:=x) (by rw [e1];exact True.intro) (.inl rfl) (fun b o hb q=>(ot b hb).trans q) ⟨_,hx2⟩ (Hb hx2)
 refine Y5 (YW (Y5 (YW ?_)));refine wpAny_nsSet1 (n1 ((ot _ hp).trans d1)) fun h' hn' hs=>?_
 obtain ⟨oD,esD,epD,hoD,hdD,hcD⟩:=hn'.count (PySem.Within.cons f u PySem.Within.nil);refine YW (wpAny_lookBehind hoD (by rw [hdD];exact pastItsLine_dict (ZP hcD (by rw [Aag,List.length_nil,sizeLine_eq];omega))) ?_);refine Y5 (h _ s.heap.objs.size (I.hok.fresh (Y4 _)) hp ?_);rw [← K5 (a:=mJ s.heap.objs.size []) hp];refine I2.write (x:=s.heap.objs.size) (e:=s.heap.objs.size) (by rw [aC hp,aj];exact True.intro) (.inl rfl) (fun b o hb q=>(hs.2 b hb).trans q) ⟨_,hoD⟩ (yV hn' fun g=>?_);by_cases q:g=f
 ·have qb:(g == f)=true:=AaK.mpr q
  simp only [List.lookup,qb,if_pos q];exact ry
 ·have qb:(g == f)=false:=Aam.mpr q
  simp only [List.lookup,qb,if_neg q];exact True.intro
theorem Qi {h:Heap} {P:Program} {w:World} (ok:HOk P w H h) (e:H x=some (gF x C d)) (e2:H d=some (mJ d fs)):d≠x:=fun z=>by
 subst z;obtain ⟨t,a⟩:=t8 ok e;obtain ⟨mA,⟨o,es,ep,b,q,_⟩,_⟩:=vA ok e2;rw [a] at b;cases b;cases q
theorem XH {Q:Unit->Shared->Prop} (I:Inv X pins U H s) (e:H x=some (gF x C d)) (e2:H d=some (mJ d fs)) (hl:fs.length < 1000) (c:XCls X.K C) (n:NoAttr X.K C f) (ry:RelV y u)
  (h:∀ s',Inv X pins U (upd H d (mJ d (kY f y fs))) s'->Q () s'):wpAny (model X.prog X.w) A (setAttr (.ref x) f u) Q E s:=by
 have ne:=Qi I.hok e e2;obtain ⟨vs,hx⟩:=t8 I.hok e;obtain ⟨mA,nA,rA⟩:=vA I.hok e2;obtain ⟨cd,hc,ho,hd⟩:=c.ov;have J:PySem.W.InstAt s.heap x (fM C (some d) #[.ref vs,.none,.none,.none,.bool false,.none]) C (some (Classical.choose nA)):=⟨hx,rfl,rfl,let ⟨_,_,q,_⟩:=Classical.choose_spec nA;q⟩;refine PySem.W.set_plain I.kIn J c.sa (RP (s:={s with toks:=s.toks+1}) I.kIn J c n ?_);refine YW (Y5 (YW (YW (AbD hx (YW ((PySem.W.looks_clsIn (M:=model X.prog X.w) I.kIn hc).here (s:={s with toks:=s.toks+1}) ?_))))));rw [hd];refine Y5 (a:=some d) (YW (Y5 (YW ?_)));refine wpAny_nsSet1 (s:={s with toks:=s.toks+1}) nA fun h' hn' hs=>?_
 have wi:PySem.Within mA (fs.map (·.1)):=fun z hz=>by
  have r:=rA z;cases q:fs.lookup z with
  | none=>rw [q] at r;exact absurd (RelO.none_of r) hz
  | some a=>exact Z0.mpr ⟨(z,a),Aaa q,rfl⟩
 obtain ⟨oD,esD,epD,hoD,hdD,hcD⟩:=hn'.count (PySem.Within.cons f u wi);refine YW (wpAny_lookBehind hoD (by rw [hdD];exact pastItsLine_dict (ZP hcD (by rw [Aag,Y6,sizeLine_eq];omega))) ?_);refine Y5 (h _ ?_);refine I.write (x:=d) (e:=d) (by rw [e2];exact True.intro) (.inl rfl) (fun b o hb q=>(hs.2 b hb).trans q) ⟨_,hoD⟩ (yV hn' fun g=>?_);rw [oO];by_cases q:g=f
 ·rw [if_pos q,if_pos q];exact ry
 ·rw [if_neg q,if_neg q];exact rA g
theorem getx {b:Bool} {Q:Value->Shared->Prop} (I:Inv X pins U H s) (e:H x=some (t7 x C d)) (e2:H d=some (mJ d fs)) (c:XCls X.K C) (n:NoAttr X.K C f) (l:fs.lookup f=some v)
  (h:∀ u s',Inv X pins U H s'->RelV v u->Q u s'):wpAny (model X.prog X.w) A (getAttr (.ref x) f b) Q E s:=by
 obtain ⟨vs,hx,_⟩:=Ew I.hok e;obtain ⟨mA,nA,rA⟩:=vA I.hok e2;obtain ⟨cd,hc,ho,hd⟩:=c.ov;obtain ⟨od,hod,lk⟩:=tV nA;obtain ⟨u,hu,ru⟩:=RelO.some_of (v:=v) (o:=mA f) (by rw [← l];exact rA f);have J:PySem.W.InstAt s.heap x (fM C (some d) vs) C (some od):=⟨hx,rfl,rfl,hod⟩;have hf:PySem.W.findObj X.K C (some od) f=some (.value u):=PySem.W.findObj_own (by unfold PySem.W.hasDictIn;rw [hc];exact hd) n rfl (by rw [lk,hu]);have Z:=h u {s with toks:=s.toks+1} (I.tok _) ru;have KI:=I.kIn;obtain ⟨hh,g,dr,t,os⟩:=s;have L0:=J.type (M:=model X.prog X.w);have L1:=AaG (M:=model X.prog X.w) KI c.ga;have L2:=AaG (M:=model X.prog X.w) KI c.gh;have L3:=PySem.W.looks_find (M:=model X.prog X.w) KI J hf;have sub:PySem.W.Looks (model X.prog X.w) hh (isInstance (.ref x) (.type "BaseException")) true:=L0.andThen (PySem.W.looks_mroIn KI c.isExc)
 have hb0:(onTheHeap (Value.ref C) && Value.builtin "BaseException.__getattribute__" == Value.builtin "object.__getattribute__")=false:=by
  rw [show (Value.builtin "BaseException.__getattribute__" == Value.builtin "object.__getattribute__")=false from by trivial,Bool.and_false]
 unfold getAttr getAttrBy;refine YW (wpAny_mkText (Z2 (YW (L0.at (YW (L1.at ?_))))));dsimp only;rw [hb0];rw [if_neg Ze];unfold getAttrByItsOwn hookBefore;refine YW ?_;rw [if_pos (show onTheHeap (Value.ref C)=true from rfl)];refine L2.at ?_;refine YW (AaV (Z2 ?_));have hb1:(b && onTheHeap (Value.builtin "BaseException.__getattribute__"))=false:=by cases b <;> rfl
 unfold callGetattribute;rw [hb1,if_neg Ze];unfold boundAndCalled;refine YW (AaH (F.attrBase_ValueError.ga.bind (.ref x)) ?_);refine AbE (AbG F.attrBase_ValueError.ga.plain F.entry_bexc_ga (@PySem.W.check_slot (model X.prog X.w) _ _ ⟨hh,g,dr,t+1,os⟩ "BaseException.__getattribute__" "BaseException" "__getattribute__" (.ref x) [.str f t] [] _ (by trivial) (by trivial) sub (F.args_bexc_ga (.ref x) (.str f t)) ?_));refine YW (Y5 (YW (Y5 (YW (L0.at (YW (L3.at ?_)))))));refine Y5 ?_;show wpAny _ _ (handedOut u) _ _ _;rw [PySem.W.handedOut_of (xU ru)];exact Y5 Z
end
def Ey (K:W.Frag) (C:Addr):Bool:=Vb K C && PySem.W.findIn K (.ref C) "__class__" == some (some (.builtin "object.__class__")) && PySem.W.specialIn K (.builtin "object.__class__") "__get__" == some (some (.builtin "getset_descriptor.__get__")) && PySem.W.takesIn K (.builtin "object.__class__") == some true
structure Qj (K:W.Frag) (C:Addr):Prop where
 cls:XCls K C
 ca:PySem.W.findIn K (.ref C) "__class__"=some (some (.builtin "object.__class__"))
 cg:PySem.W.specialIn K (.builtin "object.__class__") "__get__"=some (some (.builtin "getset_descriptor.__get__"))
 ct:PySem.W.takesIn K (.builtin "object.__class__")=some true
theorem K6 {K:W.Frag} {C:Addr} (h:Ey K C=true):Qj K C:=by
 unfold Ey at h;simp only [Zt,AaK] at h;exact ⟨Qg h.1.1.1,h.1.1.2,h.1.2,h.2⟩
section
variable {prog:Program} {w:World} {A:Around} {E:Value->Shared->Prop} {s:Shared} {K:W.Frag} {x C:Addr} {ox od:Obj}
theorem Hc {Q:Option Value->Shared->Prop} (c:Qj K C) (KI:K.In s.heap) (J:PySem.W.InstAt s.heap x ox C (some od)) (h:Q (some (.ref C)) {s with toks:=s.toks+1}):wpAny (model prog w) A (getAttr? (.ref x) "__class__") Q E s:=by
 obtain ⟨cd,hc,ho,hd⟩:=c.cls.ov;have hf:PySem.W.findObj K C (some od) "__class__"=some (.bind (.builtin "getset_descriptor.__get__") (.builtin "object.__class__")):=PySem.W.findObj_data (by rw [hc];rfl) c.ca c.cg c.ct;obtain ⟨hh,g,dr,t,os⟩:=s;have L0:=J.type (M:=model prog w);have L1:=AaG (M:=model prog w) KI c.cls.ga;have L2:=AaG (M:=model prog w) KI c.cls.gh;have L3:=PySem.W.looks_find (M:=model prog w) KI J hf;have sub:PySem.W.Looks (model prog w) hh (isInstance (.ref x) (.type "BaseException")) true:=L0.andThen (PySem.W.looks_mroIn KI c.cls.isExc)
 have hb0:(onTheHeap (Value.ref C) && Value.builtin "BaseException.__getattribute__" == Value.builtin "object.__getattribute__")=false:=by
  rw [show (Value.builtin "BaseException.__getattribute__" == Value.builtin "object.__getattribute__")=false from by trivial,Bool.and_false]
 unfold getAttr? getAttrBy? getAttrBy;refine YW (wpAny_mkText (YW (AaV (Z2 (YW (L0.at (YW (L1.at ?_))))))));dsimp only;rw [hb0,if_neg Ze];unfold getAttrByItsOwn hookBefore;refine YW ?_;rw [if_pos (show onTheHeap (Value.ref C)=true from rfl)];refine L2.at ?_;refine YW (AaV (Z2 ?_));unfold callGetattribute;rw [if_neg (show ¬ ((false && onTheHeap (Value.builtin "BaseException.__getattribute__"))=true) from by decide)];unfold boundAndCalled;refine YW (AaH (F.attrBase_ValueError.ga.bind (.ref x)) ?_);refine AbE (AbG F.attrBase_ValueError.ga.plain F.entry_bexc_ga (@PySem.W.check_slot (model prog w) _ _ ⟨hh,g,dr,t+1,os⟩ "BaseException.__getattribute__" "BaseException" "__getattribute__" (.ref x) [.str "__class__" t] [] _ (by trivial) (by trivial) sub (F.args_bexc_ga (.ref x) (.str "__class__" t)) ?_));refine YW (Y5 (YW (Y5 (YW (L0.at (YW (L3.at ?_)))))));show wpAny _ _ (holding [.builtin "object.__class__"] (call (.builtin "getset_descriptor.__get__") [.builtin "object.__class__",.ref x,.ref C]) >>=ret) _ _ _;refine YW (Z2 (AbE (PySem.W.class_get (s:=⟨hh,g,dr,t+1,os⟩) KI J c.cls.isObj ?_)));refine Y5 ?_;show wpAny _ _ (handedOut (.ref C)) _ _ _;rw [PySem.W.handedOut_of rfl];exact Y5 (Y5 h)
theorem K7 (c:Qj K C):PySem.W.KitX K (.ref x) (.ref C) (fun h=>PySem.W.InstAt h x ox C (some od)) where
 ty:=fun _ _ _ I=>I.type
 it:=fun _ _ X _=>by
  obtain ⟨cd,hc,_⟩:=c.cls.ov;unfold PySem.W.clsIn at hc
  split at hc
  ·rename_i a1 a2 a3 a4 ho
   intro A1 Q1 E1 s1 k q;unfold isType loadHead;exact YW (AbD (k _ _ (X _ _ ho)) (Y5 q))
  ·cases hc
 ne:=fun h tp dd its n sl X htp=>by
  obtain ⟨cd,hc,_⟩:=c.cls.ov;refine Bool.eq_false_iff.mpr fun q=>?_
  obtain rfl:C=tp:=Value.ref.inj (AaK.mp q);unfold PySem.W.clsIn at hc
  split at hc
  ·rename_i a1 a2 a3 a4 ho
   cases (X _ _ ho).symm.trans htp
  ·cases hc
 ca:=fun X I k=>Hc c X I k
end
def Od (H:Hp) (x C:Addr) (fs:List (Str×V)):Prop:=∃ d,H x=some (t7 x C d)/\H d=some (mJ d fs)
def YF:V->Option Value
 | .ty T=>some (.type T)
 | .ref C=>some (.ref C)
 | _=>none
theorem K8 {v:V} {u c:Value} (e:YF v=some c) (r:RelV v u):u=c:=by
 cases v <;> first | cases e;exact r | cases e
def K9:List V->Option (List Value)
 | []=>some []
 | v :: r=>match YF v,K9 r with
  | some c,some l=>some (c :: l)
  | _,_=>none
theorem Ez:∀ {vs:List V} {us cs:List Value},K9 vs=some cs->Vals vs us->us=cs
 | [],us,cs,e,r=>by cases r;cases e;rfl
 | v :: vs,us,cs,e,r=>by
  cases r with
  | cons r1 r2=>
   unfold K9 at e
   split at e
   ·rename_i c l h1 h2
    cases e;rw [K8 h1 r1,Ez h2 r2]
   ·cases e
def La (K:W.Frag):List V->Hp->VK->Prop:=fun xs H Q=>∃ x t b,(TyOf K H x t\/∃ a C fs,x= .ref a/\Od H a C fs/\Qj K C/\t= .ref C)/\
 ((∃ v c,xs=[x,v]/\YF v=some c/\PySem.W.kitOne K t c=some b)\/(∃ p vs cs,xs=[x,.ref p]/\H p=some (.tup vs)/\K9 vs=some cs/\PySem.W.kitAny K t cs=some b))/\Q (.bl b) H
section
variable {X:Cx} {pins:List (Addr×Obj)} {U:St} {H:Hp} {s:Shared} {A:Around} {E:Value->Shared->Prop} {Q:Value->Shared->Prop} {c:Value} {b:Bool}
theorem Lb {x:V} {u t:Value} (I:Inv X pins U H s) (rx:RelV x u) (ty:TyOf X.K H x t\/∃ a C fs,x= .ref a/\Od H a C fs/\Qj X.K C/\t= .ref C):
  ∃ φ:Heap->Prop,PySem.W.KitX X.K u t φ/\φ s.heap/\u≠.builtin "__main__.__loader__#opaque":=by
 rcases ty with ty | ⟨a,C,fs,rfl,⟨d,e1,e2⟩,c,rfl⟩
 ·cases ty with
  | non=>cases (show u=Value.none from rx);exact ⟨_,PySem.W.kitx_none,True.intro,(fun z=>nomatch z)⟩
  | bl y=>cases (show u=Value.bool y from rx);exact ⟨_,PySem.W.kitx_bool,True.intro,(fun z=>nomatch z)⟩
  | int i=>obtain ⟨t,q⟩:=(show ∃ t,u=Value.int i t from rx);cases q;exact ⟨_,PySem.W.kitx_int,True.intro,(fun z=>nomatch z)⟩
  | str y=>obtain ⟨t,q⟩:=(show ∃ t,u=Value.str y t from rx);cases q;exact ⟨_,PySem.W.kitx_str,True.intro,(fun z=>nomatch z)⟩
  | flt y=>obtain ⟨t,q⟩:=(show ∃ t,u=Value.float y t from rx);cases q;exact ⟨_,PySem.W.kitx_float,True.intro,(fun z=>nomatch z)⟩
  | @lst a xs ea=>
   cases (show u=Value.ref a from rx);obtain ⟨_,_,n,_,h1⟩:=(show ObjOk X.prog X.w H s.heap a (.lst xs) from I.hok a _ ea);exact ⟨_,PySem.W.kitx_list,⟨_,h1,rfl⟩,(fun z=>nomatch z)⟩
  | @frz a ob xs ea=>
   cases (show u=Value.ref a from rx);obtain ⟨_,_,_,n,_,h1⟩:=(show ObjOk X.prog X.w H s.heap a (.frz ob (.lst xs)) from I.hok a _ ea);exact ⟨_,PySem.W.kitx_list,⟨_,h1,rfl⟩,(fun z=>nomatch z)⟩
  | @tup a xs ea=>
   cases (show u=Value.ref a from rx);obtain ⟨_,_,_,p⟩:=(show ObjOk X.prog X.w H s.heap a (.tup xs) from I.hok a _ ea);obtain ⟨o,h1,h2,_⟩:=p;exact ⟨_,PySem.W.kitx_tuple,⟨o,h1,h2⟩,(fun z=>nomatch z)⟩
  | @dK a kvs ea=>
   cases (show u=Value.ref a from rx);obtain ⟨_,_,vs,_,p⟩:=(show ObjOk X.prog X.w H s.heap a (.dK kvs) from I.hok a _ ea);obtain ⟨o,es,ep,h1,h2,_⟩:=p;exact ⟨_,PySem.W.kitx_dict,⟨o,h1,h2.1⟩,(fun z=>nomatch z)⟩
  | @dT a kvs ea=>
   cases (show u=Value.ref a from rx);obtain ⟨_,_,xs,_,o,es,ep,h1,h2,_⟩:=(show ObjOk X.prog X.w H s.heap a (.dT kvs) from I.hok a _ ea);exact ⟨_,PySem.W.kitx_dict,⟨o,h1,h2.1⟩,(fun z=>nomatch z)⟩
  | @ins a C dx fs ea cl ha hn htk hm=>
   cases (show u=Value.ref a from rx);obtain ⟨mA,O,_⟩:=rG I.hok ea;obtain ⟨od,J,_⟩:=O.look;exact ⟨_,PySem.W.kitx_own (cl.get _) cl.hd ha hn htk hm,J,(fun z=>nomatch z)⟩
 ·cases (show u=Value.ref a from rx)
  obtain ⟨vs,hx,_⟩:=Ew I.hok e1;obtain ⟨mA,nA,rA⟩:=vA I.hok e2;obtain ⟨od,hod,lk⟩:=tV nA;exact ⟨_,K7 (ox:=fM C (some d) vs) (od:=od) c,⟨hx,rfl,rfl,hod⟩,(fun z=>nomatch z)⟩
theorem pY {K:W.Frag} (hK:X.K=K):CallR X (.builtin "isinstance") (La K):=by
 subst hK;intro pins s U H xs us Q I r h;obtain ⟨x,t,b,ty,w,q⟩:=h;rcases w with ⟨v,c,rfl,ec,e⟩ | ⟨p,vs,cs,rfl,ep,ec,e⟩
 ·obtain ⟨u,u2,rfl,ru,rv⟩:=vals2 r
  obtain rfl:=K8 ec rv;obtain ⟨φ,Z,hφ,hne⟩:=Lb I ru ty;exact Aau Z I.kIn hφ e hne fun tk=>⟨.bl b,H,I.tok _,rfl,q⟩
 ·obtain ⟨u,u2,rfl,ru,rv⟩:=vals2 r
  cases (show u2=Value.ref p from rv);obtain ⟨φ,Z,hφ,hne⟩:=Lb I ru ty;obtain ⟨_,its,rt,o,h1,h2,n,h3⟩:=(show ObjOk X.prog X.w H s.heap p (.tup vs) from I.hok p _ ep);obtain rfl:=Ez ec rt;obtain ⟨oc,odd,oda,osl⟩:=o;dsimp only at h2 h3;subst h2 h3;exact PySem.W.kia_tup Z I.kIn hφ h1 e hne fun tk=>⟨.bl b,H,I.tok _,rfl,q⟩
end
def Am (P:Program) (w:World) (K:W.Frag) (mg:Str->Option Value) (base:Heap) (k:Nat) (x:Str) (ps:List Str) (sp:Sp):Prop:=
 ∃ f fd,mg x=some (.ref f)/\PySem.W.keepIn K (.ref f)=true/\Binds K fd ps []/\rH P w K mg base (Qf P w) k f fd ps sp
def De (sp:Sp) (R:St->XK) (t:TA):TE:=fun U H Q=>t U H fun vs H1=>sp vs H1 Q (R U)
theorem uT {X:Cx} (h:∀ (e:Value) (s:Shared),X.xe e s=False):kj X (fun _ _ _ _=>False):=fun _ _ _ ⟨_,_,_,_,_,_,_,_,z⟩=>z.elim
section
variable {X:Cx} {k:Nat} {f C:Addr} {fd:FuncData} {ps:List Str} {sp:Sp} {R:St->XK} {x:Str} {p pos:Pos} {e:Expr} {es:List Expr} {t:TA} {pins:List (Addr×Obj)} {U:St} {H:Hp} {s:Shared} {Q:VK} {us:List Value} {vs:List V}
theorem yW (F:rH X.prog X.w X.K X.mg X.base (Qf X.prog X.w) k f fd ps sp) (hr:Room k X.A) (hb:Binds X.K fd ps []) (hx:kj X R) (I:Inv X pins U H s) (r:Vals vs us) (h:sp vs H Q (R U)):
  wpAny (model X.prog X.w) X.A (call (.ref f) us) (EP X pins U Q) X.xe s:=by
 have hl:(us ++ []).length=ps.length:=by rw [Z5,← r.length];exact F.len _ _ _ _ h
 have bd:=hb s us I.kIn hl;rw [Z5] at bd;refine AbE (codeAny_mono (F.run X.A X.stack s H ⟨us,[]⟩ us vs Q (R U) hr I.env0 bd r h) fun rr s' hq=>?_);cases rr with
 | error e=>exact hx pins e s' (Ex I hq)
 | ok fl=>
  cases fl with
  | ret u=>exact I.after hq
  | next=>exact False.elim hq
  | brk=>exact False.elim hq
  | cont=>exact False.elim hq
theorem Ld (F:Am X.prog X.w X.K X.mg X.base k x ps sp) (hr:Room k X.A) (hg:Gl X x) (hx:kj X R) (ha:PA X (e :: es) t) (hdb:(x == ("__debug__":Str))=false)
  (he:starEach (e :: es) X.env=(false,eval e X.env) :: starEach es X.env) (hpl:(backTo pos (starEach es X.env)).any (·.1)=false):PE X (.Call (.Name x p) (e :: es) [] pos) (De sp R t):=by
 obtain ⟨f,fd,a,b,c,d⟩:=F;intro pins s U H Q I h;refine Aax (pR I hg a ?_ hdb);refine Abq (h₀:=X.base) I.ok.mod.kin b (eQ (ha pos pins s U H _ I h) fun us s1 ⟨vs,H1,I1,r,q⟩=>⟨I1.kIn,?_⟩) he hpl;exact yW d hr c hx I1 r q
def Le (K:W.Frag) (ta tv:TE) (f:Str):TS:=fun D U H=>tv U H fun y H1=>ta U H1 fun x H2=>∃ a C,x= .ref a/\XCls K C/\NoAttr K C f/\
 ((H2 a=some (jT a C)/\∀ d,H2 d=none->d≠a->D.nx U (upd (upd H2 a (gF a C d)) d (mJ d [(f,y)])))\/
  (∃ d fs,H2 a=some (gF a C d)/\H2 d=some (mJ d fs)/\fs.length < 1000/\D.nx U (upd H2 d (mJ d (kY f y fs)))))
theorem Qk {o value:Expr} {ta tv:TE} {fn:Str} {pos':Pos} (ha:PE X o ta) (hv:PE X value tv) (hs:swapsWith value (some (.Attribute o fn pos')) pos.line X.env=pure false):PS X (.Assign [.Attribute o fn pos'] value pos) (Le X.K ta tv fn):=by
 intro pins s U H D I h;refine plainObj_wpAny_Assign_Attribute (eQ (hv pins s U H _ I h) fun u s1 ⟨y,H1,I1,ry,q⟩=>eQ (ha pins s1 U H1 _ I1 q) fun ov s2 qq0=>?_) hs;obtain ⟨x,H2,I2,rx,a,C,ex,c,n,q2⟩:=qq0;subst ex;obtain rfl:ov=Value.ref a:=rx;rcases q2 with ⟨e,q2⟩ | ⟨d,fs,e,e2,hl,q2⟩
 ·exact XF I2 e c n ry fun s3 d z1 z2 I3=>⟨U,_,I3,q2 d z1 z2⟩
 ·exact XH I2 e e2 hl c n ry fun s3 I3=>⟨U,_,I3,q2⟩
def Lf (K:W.Frag) (ta:TE) (f:Str):TE:=fun U H Q=>ta U H fun x H1=>∃ a C fs v,x= .ref a/\Od H1 a C fs/\XCls K C/\NoAttr K C f/\fs.lookup f=some v/\Q v H1
theorem Ql {ta:TE} {fn:Str} (he:PE X e ta) (hb:attributeBase e fn X.env (eval e X.env)=eval e X.env):PE X (.Attribute e fn pos) (Lf X.K ta fn):=by
 intro pins s U H Q I h;refine Eh hb (eQ (he pins s U H _ I h) fun u s1 qq0=>?_);obtain ⟨x,H1,I1,rx,a,C,fs,v,ex,⟨d,e1,e2⟩,c,n,l,q⟩:=qq0;subst ex;obtain rfl:u=Value.ref a:=rx;exact getx I1 e1 e2 c n l fun u2 s2 I2 ru=>⟨v,H1,I2,ru,q⟩
def yX (C:Addr) (fl:List Str):Sp:=fun vs H Q E=>∃ x ws,vs= .ref x :: ws/\ws.length=fl.length/\H x=some (jT x C)/\∀ d,H d=none->d≠x->Q .non (upd (upd H x (gF x C d)) d (mJ d (fl.zip ws)))
structure Wl (P:Program) (w:World) (K:W.Frag) (mg:Str->Option Value) (base:Heap) (k:Nat) (x:Str) (C:Addr) (fl:List Str):Prop where
 at_:mg x=some (.ref C)
 cl:Qj K C
 kp:PySem.W.keepIn K (.ref C)=true
 na:∀ f∈fl,NoAttr K C f
 run:∃ f fd ps,PySem.W.findIn K (.ref C) "__init__"=some (some (.ref f))/\PySem.W.typeIn K (.ref f)=some (.type "function")/\Binds K fd ps []/\rH P w K mg base GD k f fd ps (yX C fl)
def Df (C:Addr) (fl:List Str) (R:St->XK) (t:TA):TS:=fun _ U H=>t U H fun vs H1=>vs.length=fl.length/\vs.length<=sizeLine/\∀ x H2,Same H1 H2->Od H2 x C (fl.zip vs)->R U (.ref C) (some x) H2
theorem Vc {Q:Value->Shared->Prop} {E:Value->Shared->Prop} {fl:List Str} (M:Wl X.prog X.w X.K X.mg X.base k x C fl) (hr:Room (k+1) X.A) (I:Inv X pins U H s) (r:Vals vs us) (hl:vs.length=fl.length) (hz:vs.length<=sizeLine)
  (q:∀ a d s',H a=none->H d=none->d≠a->Inv X pins U (upd (upd (upd H a (jT a C)) a (gF a C d)) d (mJ d (fl.zip vs))) s'->Q (.ref a) s'):wpAny (model X.prog X.w) X.A (call (.ref C) us) Q E s:=by
 obtain ⟨f,fd,ps,hi,hf,hb,F⟩:=M.run;refine Va I.kIn M.cl.cls.xi hi hf (by rw [← r.length];exact hz) ?_;have I1:Inv X pins U H {s with heap:=s.heap.push {cls:=.type "tuple",data:=.seq us.toArray}}:=I.kept (t':=s.toks) fun b o e=>YZ _ e
 have sz1:(s.heap.push {cls:=.type "tuple",data:=.seq us.toArray}).objs.size=s.heap.objs.size+1:=Aaj _ _;have hfr:H (s.heap.objs.size+1)=none:=I.hok.fresh (Abg _)
 have gx:((s.heap.push {cls:=.type "tuple",data:=.seq us.toArray}).push (fM C none #[.ref s.heap.objs.size,.none,.none,.none,.bool false,.none])).get? (s.heap.objs.size+1)=some (fM C none #[.ref s.heap.objs.size,.none,.none,.none,.bool false,.none]):=by
  rw [← sz1];exact Y8 _ rfl
 have I2:Inv X pins U (upd H (s.heap.objs.size+1) (jT (s.heap.objs.size+1) C)) {s with heap:=(s.heap.push {cls:=.type "tuple",data:=.seq us.toArray}).push (fM C none #[.ref s.heap.objs.size,.none,.none,.none,.bool false,.none])}:=
  I1.laid (t':=s.toks) (fun b o e=>YZ _ e) (by show (s.heap.push _).objs.size<=_;rw [sz1];exact Y4 _) ⟨⟨_,gx⟩,⟨_,gx⟩,fun h1 h2 ⟨t,z⟩ kk=>⟨t,kk _ z⟩⟩
 have r2:Vals (V.ref (s.heap.objs.size+1) :: vs) (Value.ref (s.heap.objs.size+1) :: us):=.cons rfl r
 have sp0:yX C fl (V.ref (s.heap.objs.size+1) :: vs) (upd H (s.heap.objs.size+1) (jT (s.heap.objs.size+1) C)) (fun v H2=>v= .non/\∃ d,H d=none/\d≠s.heap.objs.size+1/\H2=upd (upd (upd H (s.heap.objs.size+1) (jT (s.heap.objs.size+1) C)) (s.heap.objs.size+1) (gF (s.heap.objs.size+1) C d)) d (mJ d (fl.zip vs))) E0:=
  ⟨_,_,rfl,hl,aj,fun d hd ne=>⟨rfl,d,by rw [aC ne] at hd;exact hd,ne,rfl⟩⟩
 have hl2:((Value.ref (s.heap.objs.size+1) :: us) ++ []).length=ps.length:=by rw [Z5,← r2.length];exact F.len _ _ _ _ sp0
 have bd:=hb _ (Value.ref (s.heap.objs.size+1) :: us) I2.kIn hl2;rw [Z5] at bd;refine AbE (codeAny_mono (F.run _ X.stack _ _ ⟨Value.ref (s.heap.objs.size+1) :: us,[]⟩ (Value.ref (s.heap.objs.size+1) :: us) _ _ E0 (hr.make C us []) (I2.env0.make C us []) bd r2 sp0) fun rr s' hq=>?_);cases rr with
 | error e=>exact False.elim hq
 | ok fl=>
  cases fl with
  | ret u=>
   obtain ⟨v,H',I3,rv,ev,d,hd,ne,eH⟩:=I2.after hq;subst ev;rw [eH] at I3;exact ⟨rv,q _ d s' hfr hd ne I3⟩
  | next=>exact False.elim hq
  | brk=>exact False.elim hq
  | cont=>exact False.elim hq
theorem thrown {env:Env} {C:Addr} {Q:Flow->Shared->Prop} {m:Sem Value} (hc:X.calm=true) (c:Qj X.K C) (hx:kj X R)
  (h:wpAny (model X.prog X.w) X.A m (fun v s1=>∃ x d H1,v= .ref x/\Inv X pins U H1 s1/\H1 x=some (gF x C d)/\R U (.ref C) (some x) (upd H1 x (t7 x C d))) X.xe s):
  wpAny (model X.prog X.w) X.A (raiseStmt env (some m) none) Q X.xe s:=by
 obtain ⟨nm,qn,N,bs,bm,sn,sub,ab,col,dd,k0,k1,k2,k3,k5,lk0,tl⟩:=wy c.cls.xi;unfold raiseStmt;refine YW (eQ h fun v s1 qq0=>?_);obtain ⟨x,d,H1,ev,I1,e1,r1⟩:=qq0;subst ev;have KI:=I1.kIn;obtain ⟨t,he⟩:=t8 I1.hok e1;have hh:X.A.handled=none:=I1.ok.hd hc
 have hcB:(Value.ref C :: bm).contains (.type "BaseException")=true:=by
  rw [Aay,(tl _ KI).hasType (show XD.contains (.type "BaseException")=true from by decide)];rfl
 have fin:X.xe (.ref x) s1:=by
  have I2:Inv X pins U (upd H1 x (t7 x C d)) s1:=I1.write (t':=s1.toks) (x:=x) (e:=x) (h':=s1.heap) (by rw [e1];exact True.intro) (.inl rfl) (fun b o _ z=>z) ⟨_,he⟩ (Eu he rfl);exact hx pins _ s1 ⟨x,C,d,U,_,rfl,I2,⟨aj,.inl ⟨_,he,rfl,rfl⟩⟩,r1⟩
 have hD:=KI _ _ lk0;obtain ⟨hp,g,dr,tk,os⟩:=s1;unfold fM at he;repeat (first | with_reducible refine AaD he ?_ | with_reducible refine AaD hD ?_ | (with_reducible refine Abl hD ?_;rw [hcB]) | wp_step)
 exact wpAny_raiseNew_none hh fin
end
section
variable {X:Cx} {k:Nat} {C:Addr} {R:St->XK} {x:Str} {p cpos pos:Pos} {e:Expr} {es:List Expr} {t:TA} {fl:List Str}
theorem An {H:Hp} {a d:Addr} {vs:List V} (ha:H a=none) (hd:H d=none) (ne:d≠a):Same H (upd (upd (upd (upd H a (jT a C)) a (gF a C d)) d (mJ d (fl.zip vs))) a (t7 a C d))/\
  Od (upd (upd (upd (upd H a (jT a C)) a (gF a C d)) d (mJ d (fl.zip vs))) a (t7 a C d)) a C (fl.zip vs):=by
 refine ⟨fun b o h=>?_,d,aj,by rw [aC ne,aj]⟩;have na:b≠a:=fun z=>by rw [z,ha] at h;cases h
 have nd:b≠d:=fun z=>by rw [z,hd] at h;cases h
 rw [aC na,aC nd,aC na,aC na];exact h
theorem Lg (M:Wl X.prog X.w X.K X.mg X.base k x C fl) (hr:Room (k+1) X.A) (hc:X.calm=true) (hg:Gl X x) (hx:kj X R) (ha:PA X (e :: es) t) (hdb:(x == ("__debug__":Str))=false)
  (he:starEach (e :: es) X.env=(false,eval e X.env) :: starEach es X.env) (hpl:(backTo cpos (starEach es X.env)).any (·.1)=false):PS X (.Raise (some (.Call (.Name x p) (e :: es) [] cpos)) none pos) (Df C fl R t):=by
 intro pins s U H D I h;rw [arm_exec_Raise];refine YW (AbP (thrown (pins:=pins) (U:=U) (C:=C) hc M.cl hx (YW (eQ (Q:=fun v s1=>∃ x d H1,v= .ref x/\Inv X pins U H1 s1/\H1 x=some (gF x C d)/\R U (.ref C) (some x) (upd H1 x (t7 x C d))) ?_ fun v s3 h3=>YW (AbP (Y5 h3))))));refine Aax (pR I hg M.at_ ?_ hdb);refine Abq (h₀:=X.base) I.ok.mod.kin M.kp (eQ (ha cpos pins s U H _ I h) fun us s1 ⟨vs,H1,I1,r,hl,hz,q⟩=>⟨I1.kIn,?_⟩) he hpl;refine Vc M hr I1 r hl hz fun a d s2 z1 z2 ne I2=>⟨a,d,_,rfl,I2,?_,?_⟩
 ·rw [aC (Ne.symm ne),aj]
 ·obtain ⟨w1,w2⟩:=An (C:=C) (fl:=fl) (vs:=vs) z1 z2 ne
  exact q a _ w1 w2
theorem PS.nox {st:Stmt} {t:TS} (h:PS X.nox st t):PS X st t:=fun pins s U H D I hw=>
 Aal (h pins s U H D (I.wish _) hw) (fun _ _ q=>q.unwish) fun _ _ z=>False.elim z
end
section
variable {X:Cx} {pins:List (Addr×Obj)} {U U':St} {H:Hp} {s:Shared} {h':Heap}
theorem Inv.reloc {t':Nat} (I:Inv X pins U H s) (hs:Heap.SameBut X.env.locals s.heap h') (len:U'.length=U.length)
  (l:∃ m',h'.Ns X.env.locals m'/\∀ (i:Nat) (x:Str) (v:V),X.N[i]?=some x->U'[i]?=some (some v)->Wu X.env.scope x->∃ u,RelV v u/\Look X.env h' m' x u):Inv X pins U' H {s with heap:=h',toks:=t'}:=by
 have cne:=I.cne;obtain ⟨mm,⟨oL,_,_,hoL,_⟩,_⟩:=id I.loc;have away:∀ b o,X.s₀.heap.get? b=some o->b≠X.env.locals:=fun b o e=>ZR (Zr (Za e) I.ok.above)
 refine ⟨I.ok,I.os,I.bare,⟨fun b o e n hb hx=>(hs.2 b (away b o e)).trans (I.base.keep b o e n hb hx),fun b o e n hb hx=>?_,I.base.free,fun b o e hx=>?_,I.base.tups,I.base.frzs,I.base.tbls⟩,l,fun y c e=>?_,I.free,I.freeC,fun q hq=>?_,fun b ob e=>?_,len.trans I.len⟩
 ·obtain ⟨sl,e1⟩:=I.base.slot b o e n hb hx
  exact ⟨sl,(hs.2 b (away b o e)).trans e1⟩
 ·obtain ⟨o2,e1⟩:=I.base.there b o e hx
  exact ⟨o2,(hs.2 b (away b o e)).trans e1⟩
 ·obtain ⟨w2,z⟩:=I.cell y c e
  exact ⟨w2,z.sameBut hs (cne y c e)⟩
 ·obtain ⟨e,n,ne,nf,d⟩:=I.pin q hq
  exact ⟨(hs.2 q.1 ne).trans e,n,ne,nf,d⟩
 ·refine (I.hok b ob e).stay (fun c w2 hc q=>(hs.2 c ?_).trans q) (fun _ q=>q) fun _ _ q=>q
  rintro rfl;rcases hc with rfl | hc
  ·rw [I.free] at e;cases e
  ·rw [I.free] at hc;cases hc
theorem name_goes {A:Around} {E:Value->Shared->Prop} {i:Nat} {n:Str} {pos:Pos} {Q:Unit->Shared->Prop} (I:Inv X pins U H s) (hN:X.N.Nodup) (hi:X.N[i]?=some n) (hl:X.env.scope.names.lookup n=some .local)
  (h:∀ s',Inv X pins (U.set i none) H s'->Q () s'):wpAny (model X.prog X.w) A (do bindName X.env n .none;unbindBehindTheSuite X.env n pos) Q E s:=by
 have hcls:(X.env.scope.kind == .class || (X.env.scope.kind == .module && X.env.locals != X.env.globals))=false:=by rw [I.ok.kind];rfl
 have hk:X.env.kindOf n=some .local:=hl;refine YW (wpAny_bindName (oK (v:=.non) I hN hi (.inl hl) rfl (fun s1 I1=>?_) (.inr hl)));obtain ⟨m1,hn1,hl1⟩:=id I1.loc;have hiU:i < U.length:=by rw [I.len];exact (Y0.mp hi).1
 obtain ⟨u1,ru1,lk1⟩:=hl1 i n .non hi (by rw [AaB hiU]) (.inl hl)
 have m1n:m1 n=some u1:=by
  rcases lk1 with ⟨_,z⟩ | ⟨z | z,_⟩
  ·exact z
  ·rw [hk] at z;cases z
  ·rw [hk] at z;cases z
 unfold unbindBehindTheSuite;refine wpAny_onRaise ?_;unfold unbindName;refine YW (wpAny_point (YW ?_));unfold deleteName;simp only [hk,hcls];rw [if_neg (by decide)];refine YW (wpAny_nsDel_keeps hn1 fun h2 v2 hn2 hs2=>?_);rw [m1n];simp only [if_true,Option.isSome_some,Bool.not_true,Z4,if_false];refine Y5 (wpAny_point (h _ (I1.reloc (t':=s1.toks) hs2 (by rw [List.length_set,List.length_set]) ⟨_,hn2,fun j y v e1 e2 e3=>?_⟩)))
 have hj:j≠i:=fun z=>by
  subst z;rw [AaB hiU] at e2;cases e2
 rw [Aai (Ne.symm hj)] at e2;obtain ⟨u,r,q⟩:=hl1 j y v e1 (by rw [Aai (Ne.symm hj)];exact e2) e3;refine ⟨u,r,?_⟩;rcases q with ⟨k,z⟩ | ⟨k,c,z1,z2⟩
 ·have ny:y≠n:=fun z=>hj (vN hN e1 (z ▸ hi))
  exact .inl ⟨k,by show (if y=n then v2 else m1 y)=some u;rw [if_neg ny];exact z⟩
 ·exact .inr ⟨k,c,z1,z2.sameBut hs2 (I1.cne y c z1)⟩
end
abbrev Cx.sui (X:Cx) (x:Addr):Cx:={X with A:=X.A.mark (some (.ref x)),calm:=false,xe:=fun _ _=>False}
abbrev Cx.bod (X:Cx) (pins:List (Addr×Obj)) (R:St->XK):Cx:={X with pn:=X.pn ++ pins,xe:=XE X pins R}
section
variable {X:Cx} {pins pins':List (Addr×Obj)} {U:St} {H:Hp} {s:Shared} {x C d T:Addr} {R:St->XK} {D:Ends}
theorem Inv.sui (I:Inv X pins U H s) (x:Addr):Inv (X.sui x) pins U H s:=
 ⟨⟨I.ok.mod,I.ok.kind,I.ok.glob,I.ok.blt,I.ok.above,I.ok.inj,I.ok.has,I.ok.cab,fun h=>absurd h Ze,I.ok.frames,I.ok.stk,I.ok.exf,I.ok.bs,I.ok.bsz,I.ok.noex,I.ok.exfs,I.ok.funs,I.ok.frf⟩,I.os,I.bare,I.base,I.loc,I.cell,I.free,I.freeC,I.pin,I.hok,I.len⟩
theorem Inv.unsui (ok:X.Ok) (I:Inv (X.sui x) pins U H s):Inv X pins U H s:=⟨ok,I.os,I.bare,I.base,I.loc,I.cell,I.free,I.freeC,I.pin,I.hok,I.len⟩
theorem Inv.bod (I:Inv X pins U H s) (R:St->XK):Inv (X.bod pins R) [] U H s:=
 ⟨⟨I.ok.mod,I.ok.kind,I.ok.glob,I.ok.blt,I.ok.above,I.ok.inj,I.ok.has,I.ok.cab,I.ok.hd,I.ok.frames,I.ok.stk,I.ok.exf,I.ok.bs,I.ok.bsz,I.ok.noex,I.ok.exfs,I.ok.funs,I.ok.frf⟩,I.os,I.bare,I.base,I.loc,I.cell,I.free,I.freeC,fun p hp=>I.pin p (by simpa using hp),I.hok,I.len⟩
theorem Inv.unbod (I:Inv (X.bod pins R) pins' U H s):Inv X pins U H s:=
 ⟨⟨I.ok.mod,I.ok.kind,I.ok.glob,I.ok.blt,I.ok.above,I.ok.inj,I.ok.has,I.ok.cab,I.ok.hd,I.ok.frames,I.ok.stk,I.ok.exf,I.ok.bs,I.ok.bsz,I.ok.noex,I.ok.exfs,I.ok.funs,I.ok.frf⟩,I.os,I.bare,I.base,I.loc,I.cell,I.free,I.freeC,fun p hp=>I.pin p (Zw _ hp),I.hok,I.len⟩
theorem SP.unbod {f:Flow} (h:SP (X.bod pins R) pins' D f s):SP X pins D f s:=by
 cases f with
 | next=>obtain ⟨U',H',I,q⟩:=h;exact ⟨U',H',I.unbod,q⟩
 | brk=>obtain ⟨U',H',I,q⟩:=h;exact ⟨U',H',I.unbod,q⟩
 | cont=>obtain ⟨U',H',I,q⟩:=h;exact ⟨U',H',I.unbod,q⟩
 | ret u=>obtain ⟨v,U',H',I,r,q⟩:=h;exact ⟨v,U',H',I.unbod,r,q⟩
theorem Lh:kj (X.bod pins R) R:=by
 rintro pins' e s' ⟨x,C,d,U,H',he,I,⟨tx,F⟩,r⟩;refine ⟨x,C,d,U,H',he,I.unbod,⟨tx,?_⟩,r⟩;rcases F with F | ⟨T,F⟩
 ·exact .inl F
 ·obtain ⟨a1,a2,a3,a4,a5,a6⟩:=F.fp
  exact .inr ⟨T,F.obj,F.tb,⟨a1,a2,a3,a4,a5,fun p hp=>a6 p (Zw _ hp)⟩,F.tr⟩
theorem Hd {A:Around} {E:Value->Shared->Prop} {P:Addr} {b:Bool} {Q:Bool->Shared->Prop} {vs:Array Value} {M:Model} {K:W.Frag} (KI:K.In s.heap) (c:XCls K C) (cP:XCls K P) (e:s.heap.get? x=some (fM C (some d) vs)) (hm:PySem.W.mroIn K C (.ref P)=some b) (h:Q b s):
  wpAny M A (excMatches (.ref x) (.ref P)) Q E s:=by
 obtain ⟨nm,qn,N,bs,bm,sn,sub,ab,col,dd,k0,k1,k2,k3,k5,lk,tl⟩:=wy c.xi;obtain ⟨nm',qn',N',bs',bm',sn',sub',ab',col',dd',k0',k1',k2',k3',k5',lk',tl'⟩:=wy cP.xi;have hC:=KI _ _ lk;have hP:=KI _ _ lk'
 have hPB:(Value.ref P :: bm').contains (.type "BaseException")=true:=by
  rw [Aay,(tl' _ KI).hasType (show XD.contains (.type "BaseException")=true from by decide)];rfl
 have hCP:(Value.ref C :: bm).contains (.ref P)=b:=by
  unfold PySem.W.mroIn PySem.W.clsIn at hm;rw [lk] at hm;exact Zm hm
 have f:=tc_notTuple;obtain ⟨hp,g,dr,tk,os⟩:=s;unfold fM at e;unfold excMatches;by_cases hh:P=C
 ·subst hh
  have hb:b=true:=by rw [← hCP];simp
  subst hb;rw [lk] at lk';cases lk';repeat (first | with_reducible refine AaD e ?_ | with_reducible refine AaD hC ?_ | (with_reducible refine Abl hC ?_;first | rw [hPB] | rw [hCP]) | wp_step)
  exact h
 ·repeat (first | with_reducible refine AaD e ?_ | with_reducible refine AaD hP ?_ | (with_reducible refine Abl hP ?_;rw [hPB]) | (with_reducible refine Abl hC ?_;rw [hCP]) | wp_step)
  cases b <;> (wp_walk;exact h)
abbrev TH:=Ends->St->Addr->Addr->Hp->Prop
def PH (X:Cx) (hs:List ExceptHandler) (th:TH):Prop:=∀ (pins:List (Addr×Obj)) (s:Shared) (U:St) (H:Hp) (D:Ends) (x C d T:Addr),Inv X pins U H s->Head X pins H x C d T s.heap->th D U x C H->
 wpAny (model X.prog X.w) X.A (handleBy (.ref x) X.env hs) (SP X pins D) X.xe s
theorem Vd:PH X [] (fun _ _ _ _ _=>False):=fun _ _ _ _ _ _ _ _ _ _ _ h=>h.elim
def Ends.gone (D:Ends) (i:Nat):Ends:={nx:=fun U H=>D.nx (U.set i none) H,rt:=D.rt,bk:=fun U H=>D.bk (U.set i none) H,ct:=fun U H=>D.ct (U.set i none) H}
def YG (K:W.Frag) (P:Addr) (i:Nat) (ts:TS) (th:TH):TH:=fun D U x C H=>∃ b,XCls K C/\PySem.W.mroIn K C (.ref P)=some b/\if b=true then ts (D.gone i) (U.set i (some (.ref x))) H else th D U x C H
variable {nm n:Str} {P:Addr} {i:Nat} {p pos:Pos} {b0:Stmt} {suite:List Stmt} {ts:TS} {th:TH} {hs:List ExceptHandler}
theorem XJ (hg:Gl X nm) (hm:X.mg nm=some (.ref P)) (cP:XCls X.K P) (hdb:(nm == ("__debug__":Str))=false) (hN:X.N.Nodup) (hi:X.N[i]?=some n) (hl:X.env.scope.names.lookup n=some .local)
  (hsu:∀ x,PSs (X.sui x) (b0 :: suite) ts) (hr:PH X hs th):PH X (.ExceptHandler (some (.Name nm p)) (some n) (b0 :: suite) pos :: hs) (YG X.K P i ts th):=by
 rintro pins s U H D x C d T I F ⟨b,c,mb,q⟩;obtain ⟨vs,ex,h1⟩:=F.obj;refine wpAny_handleBy_cons (codeAny_handlers_test (pR (I.sui x) hg hm ?_ hdb)) (fun z=>nomatch z);refine Hd I.kIn c cP ex mb ?_;cases b with
 | false=>
  rw [if_neg Ze] at q;exact hr pins s U H D x C d T I F q
 | true=>
  rw [if_pos rfl] at q;refine codeAny_handlers_suite_as ?_;refine wz I F fun h2 I2 F2=>?_
  refine oK (X:=X.sui x) (v:=.ref x) (I2.sui x) hN hi (.inl hl) rfl (fun s3 I3=>?_) (.inr hl);refine Aal (hsu x pins s3 _ H (D.gone i) I3 q) (fun f s4 w=>?_) fun _ _ z=>False.elim z
  cases f with
  | next=>obtain ⟨U',H',J,r⟩:=w;exact name_goes (J.unsui I.ok) hN hi hl fun s5 I5=>⟨_,H',I5,r⟩
  | brk=>obtain ⟨U',H',J,r⟩:=w;exact name_goes (J.unsui I.ok) hN hi hl fun s5 I5=>⟨_,H',I5,r⟩
  | cont=>obtain ⟨U',H',J,r⟩:=w;exact name_goes (J.unsui I.ok) hN hi hl fun s5 I5=>⟨_,H',I5,r⟩
  | ret u=>obtain ⟨v,U',H',J,rv,r⟩:=w;exact name_goes (J.unsui I.ok) hN hi hl fun s5 I5=>⟨v,_,H',I5,rv,r⟩
def Ve (tb:(St->XK)->TS) (th:TH):TS:=fun D U H=>tb (fun U' c x H'=>∃ C a,c= .ref C/\x=some a/\th D U' a C H') D U H
theorem Vf {body:List Stmt} {h0:ExceptHandler} {tb:(St->XK)->TS} (hst:X.stack=X.env :: X.outer) (hfr:X.env.frame=some X.env.locals) (hb:∀ (pins:List (Addr×Obj)) (R:St->XK),PSs (X.bod pins R) body (tb R)) (hh:PH X (h0 :: hs) th):
  PS X (.Try body (h0 :: hs) [] [] pos) (Ve tb th):=by
 intro pins s U H D I h;refine wpAny_Try_except (Aal (hb pins _ [] s U H D (I.bod _) h) (fun f s1 q=>?_) fun e s1 q=>?_)
 ·have q':=q.unbod
  cases f with
  | next=>exact wpAny_execs_nil q'
  | brk=>exact q'
  | cont=>exact q'
  | ret u=>exact q'
 ·obtain ⟨x,C,d,U',H',rfl,I1,F1,C',a',eC,ea,r⟩:=q
  cases eC;cases ea;refine Al I1 hst hfr I1.ok.frames F1 fun h2 T I2 F2=>?_
  refine wz I2 F2 fun h3 I3 F3=>?_
  exact hh pins _ U' H' D x C d T I3 F3 r
end
def aP (mg:Str->Option Value) (x:Str):Addr:=match mg x with
 | some (.ref a)=>a
 | _=>0
theorem m5 {mg:Str->Option Value} {x:Str} {C:Addr} (h:mg x=some (.ref C)):aP mg x=C:=by unfold aP;rw [h]
structure Li (K:W.Frag) (mg:Str->Option Value) (x:Str):Prop where
 at_:mg x=some (.ref (aP mg x))
 cl:Qj K (aP mg x)
theorem RQ {K:W.Frag} {mg:Str->Option Value} {h:Heap} (X:K.In h) (G:h.Ns mainGlobals mg) {x:Str} {C:Addr} (a:PySem.W.nsIn K mainGlobals x=some (some (.ref C))) (b:Ey K C=true):Li K mg x:=by
 have m:=Aa6 X G a;have e:=m5 m;exact ⟨by rw [e];exact m,by rw [e];exact K6 b⟩
structure sr (K:W.Frag) (mg:Str->Option Value) (x:Str) (fl:List Str) (qual:Str) (st:Stmt):Prop where
 c:Li K mg x
 kp:PySem.W.keepIn K (.ref (aP mg x))=true
 na:∀ f∈fl,NoAttr K (aP mg x) f
 ini:∃ f fd,PySem.W.findIn K (.ref (aP mg x)) "__init__"=some (some (.ref f))/\PySem.W.typeIn K (.ref f)=some (.type "function")/\Fun K "__init__" qual st f fd
def Lj (K:W.Frag) (C:Addr) (fl:List Str):Bool:=fl.all fun n=>PySem.W.findIn K (.ref C) n == some none
theorem yl {K:W.Frag} {mg:Str->Option Value} {h:Heap} (X:K.In h) (G:h.Ns mainGlobals mg) {x qual:Str} {C f:Addr} {fl:List Str} {st:Stmt} {oc:Value} {od an:Option Addr} {osl:Array (Option Value)} {kV doc pm cdv ct:Value}
  (a:PySem.W.nsIn K mainGlobals x=some (some (.ref C))) (b:Ey K C=true) (kp:PySem.W.keepIn K (.ref C)=true) (na:Lj K C fl=true)
  (i:PySem.W.findIn K (.ref C) "__init__"=some (some (.ref f))) (t:PySem.W.typeIn K (.ref f)=some (.type "function"))
  (l:K.lookup f=some ⟨oc,od,.func (PySem.W.fnOf "__init__" qual (fW st) (bR st) (az st) .none kV doc pm an cdv ct),osl⟩) (c:PySem.W.codeIn K cdv qual=true) (k:PySem.W.keepIn K (.ref f)=true):sr K mg x fl qual st:=by
 have m:=Aa6 X G a;have e:=m5 m;refine ⟨RQ X G a b,by rw [e];exact kp,fun n hn=>?_,f,_,by rw [e];exact i,t,Cz l c k⟩;rw [e];have:=AaC.mp na n hn;exact AaK.mp this
structure Sub (K:W.Frag) (mg:Str->Option Value) (x y:Str) (b:Bool):Prop where
 mro:PySem.W.mroIn K (aP mg x) (.ref (aP mg y))=some b
 one:PySem.W.kitOne K (.ref (aP mg x)) (.ref (aP mg y))=some b
theorem ud {K:W.Frag} {mg:Str->Option Value} {h:Heap} (X:K.In h) (G:h.Ns mainGlobals mg) {x y:Str} {C P:Addr} {r:Bool} (a:PySem.W.nsIn K mainGlobals x=some (some (.ref C))) (b:PySem.W.nsIn K mainGlobals y=some (some (.ref P)))
  (m:PySem.W.mroIn K C (.ref P)=some r) (o:PySem.W.kitOne K (.ref C) (.ref P)=some r):Sub K mg x y r:=by
 have e:=m5 (Aa6 X G a);have e2:=m5 (Aa6 X G b);exact ⟨by rw [e,e2];exact m,by rw [e,e2];exact o⟩
structure JH (X:Cx) (hs:List ExceptHandler) (th:TH):Prop where
 run:PH X hs th
section
variable {X:Cx} {K:W.Frag} {k:Nat} {x n fn:Str} {ps:List Str} {sp:Sp} {R:St->XK} {p pos cpos pos':Pos} {e o value:Expr} {es:List Expr} {t:TA} {ta tv:TE} {st:Stmt} {u ts:TS} {th:TH} {hs:List ExceptHandler} {i:Nat}
theorem iD (F:Am X.prog X.w X.K X.mg X.base k x ps sp) (hr:Room k X.A) (hg:Gl X x) (hx:kj X R) (ha:JA X (e :: es) t) (hdb:(x == ("__debug__":Str))=false:=by trivial) (h:autoParam ((e :: es).all notStar=true) L2.auto4._auto_1):
  JE X (.Call (.Name x p) (e :: es) [] pos) (De sp R t):=by
 have h1:notStar e=true:=by simp only [Aaf,Zt] at h;exact h.1
 have h2:es.all notStar=true:=by simp only [Aaf,Zt] at h;exact h.2
 exact ⟨Ld F hr hg hx ha.run hdb (bI h1) (lg h2)⟩
theorem Vg (h:JS X.nox st u):JS X st u:=⟨h.run.nox⟩
theorem Lk {C:Addr} (hg:Gl X x) (hm:X.mg x=some (.ref C)) (hd:(x == ("__debug__":Str))=false):JE X (.Name x pos) (tC (.ref C)):=⟨yK hg hm rfl hd⟩
theorem Dg (hK:X.K=K) (he:JE X e ta) (h:autoParam (rR e=true) L2.auto4._auto_1):JE X (.Attribute e fn pos) (Lf K ta fn):=by
 subst hK;exact ⟨Ql he.run (by cases e <;> first | rfl | cases h)⟩
theorem EY (hK:X.K=K) (ha:JE X o ta) (hv:JE X value tv) (h:autoParam (jC value=true) L2.auto4._auto_1):JS X (.Assign [.Attribute o fn pos'] value pos) (Le K ta tv fn):=by
 subst hK;exact ⟨Qk ha.run hv.run (yf h)⟩
theorem Ao {fl:List Str} (M:Wl X.prog X.w X.K X.mg X.base k x (aP X.mg x) fl) (hr:Room (k+1) X.A) (hc:X.calm=true) (hg:Gl X x) (hx:kj X R) (ha:JA X (e :: es) t) (hdb:(x == ("__debug__":Str))=false) (h:autoParam ((e :: es).all notStar=true) L2.auto4._auto_1):
  JS X (.Raise (some (.Call (.Name x p) (e :: es) [] cpos)) none pos) (Df (aP X.mg x) fl R t):=by
 have h1:notStar e=true:=by simp only [Aaf,Zt] at h;exact h.1
 have h2:es.all notStar=true:=by simp only [Aaf,Zt] at h;exact h.2
 exact ⟨Lg M hr hc hg hx ha.run hdb (bI h1) (lg h2)⟩
theorem Vh:JH X [] (fun _ _ _ _ _=>False):=⟨Vd⟩
theorem RV {b0:Stmt} {suite:List Stmt} (hK:X.K=K) (c:Li K X.mg x) (hg:Gl X x) (hdb:(x == ("__debug__":Str))=false) (hN:X.N.Nodup) (hi:X.N[i]?=some n) (hl:X.env.scope.names.lookup n=some .local)
  (hsu:∀ x,JB (X.sui x) (b0 :: suite) ts) (hr:JH X hs th):JH X (.ExceptHandler (some (.Name x p)) (some n) (b0 :: suite) pos :: hs) (YG K (aP X.mg x) i ts th):=by
 subst hK;exact ⟨XJ hg c.at_ c.cl.cls hdb hN hi hl (fun x=>(hsu x).run) hr.run⟩
theorem Vi {body:List Stmt} {h0:ExceptHandler} {tb:(St->XK)->TS} (hst:X.stack=X.env :: X.outer) (hfr:X.env.frame=some X.env.locals) (hb:∀ (pins:List (Addr×Obj)) (R:St->XK),JB (X.bod pins R) body (tb R)) (hh:JH X (h0 :: hs) th):
  JS X (.Try body (h0 :: hs) [] [] pos) (Ve tb th):=⟨Vf hst hfr (fun pins R=>(hb pins R).run) hh.run⟩
end
section
variable {P:Program} {w:World} {K:W.Frag} {mg:Str->Option Value} {base:Heap}
theorem Aq {x:Str} {st:Stmt} {N ps:List Str} {k:Nat} {sp:Sp} (D:cH K mg x st) (S:aD N ps (az st))
  (hb:∀ (kV doc pm:Value) (an:Option Addr) (cdv ct:Value) (us:List Value),us.length=ps.length->bindArgs (PySem.W.fnOf x x (fW st) (bR st) (az st) .none kV doc pm an cdv ct) ⟨us,[]⟩=pure (ps.zip us))
  (len:∀ vs H Q E,sp vs H Q E->vs.length=ps.length)
  (hbody:∀ (f:Addr) (cdv:Value) (A:Around) (outer:List Env) (s:Shared) (H:Hp) (vs:List V) (Q:VK) (E:XK),Room k (A.deeper (envOfC x (az st) s.heap.objs.size f cdv))->sp vs H Q E->
   ∃ t,JB (qG (Qf P w) P w K mg base N x (az st) f cdv A outer s H E) (bR st) t/\t {nx:=fun _ H'=>Q .non H',rt:=Q} (start N vs) H):Am P w K mg base (k+1) x ps sp:=by
 obtain ⟨f,fd,F,hm⟩:=D;refine ⟨f,fd,hm,F.kp,F.binds hb,?_⟩;obtain ⟨oc,od,kV,doc,pm,an,cdv,ct,osl,rfl,lk,hcd⟩:=F.ex;exact JK lk hcd S len fun A outer s H vs Q E hr h=>let ⟨t,j,q⟩:=hbody f cdv A outer s H vs Q E hr h;⟨t,j.run,q⟩
theorem mkX {x qual:Str} {st:Stmt} {N ps:List Str} {fl:List Str} {k:Nat} (D:sr K mg x fl qual st) (S:aD N ps (az st))
  (hb:∀ (kV doc pm:Value) (an:Option Addr) (cdv ct:Value) (us:List Value),us.length=ps.length->bindArgs (PySem.W.fnOf "__init__" qual (fW st) (bR st) (az st) .none kV doc pm an cdv ct) ⟨us,[]⟩=pure (ps.zip us))
  (hl:ps.length=fl.length+1)
  (hbody:∀ (f:Addr) (cdv:Value) (A:Around) (outer:List Env) (s:Shared) (H:Hp) (vs:List V) (Q:VK) (E:XK),Room k (A.deeper (envOfC qual (az st) s.heap.objs.size f cdv))->yX (aP mg x) fl vs H Q E->
   ∃ t,JB (qG GD P w K mg base N qual (az st) f cdv A outer s H E).nox (bR st) t/\t {nx:=fun _ H'=>Q .non H',rt:=Q} (start N vs) H):Wl P w K mg base (k+1) x (aP mg x) fl:=by
 obtain ⟨f,fd,a,b,F⟩:=D.ini;refine ⟨D.c.at_,D.c.cl,D.kp,D.na,f,fd,ps,a,b,F.binds hb,F.ok S (fun vs H Q E h=>?_) fun cdv A outer s H vs Q E hr h=>let ⟨t,j,q⟩:=hbody f cdv A outer s H vs Q E hr h;⟨t,j.run,q⟩⟩;obtain ⟨y,ws,rfl,hw,_⟩:=h;rw [Aag,hw,hl]
end
def initOf:Stmt->Stmt
 | .ClassDef _ _ _ (s :: _) _ _ _ _ _ _ _=>s
 | s=>s
section
variable {U:St} {H:Hp} {D:Ends} {Q:VK} {sp:Sp} {R:St->XK} {a:TA} {K:W.Frag} {C P:Addr} {fl:List Str} {th:TH} {ts:TS} {i:Nat} {ta:TE} {f:Str}
theorem bV (h:a U H fun vs H1=>sp vs H1 Q (R U)):De sp R a U H Q:=h
theorem ig {tb:(St->XK)->TS} (h:tb (fun U' c x H'=>∃ C a,c= .ref C/\x=some a/\th D U' a C H') D U H):Ve tb th D U H:=h
theorem bW (h:a U H fun vs H1=>vs.length=fl.length/\vs.length<=sizeLine/\∀ x H2,Same H1 H2->Od H2 x C (fl.zip vs)->R U (.ref C) (some x) H2):Df C fl R a D U H:=h
theorem dR (h:ta U H fun x H1=>∃ a C fs v,x= .ref a/\Od H1 a C fs/\XCls K C/\NoAttr K C f/\fs.lookup f=some v/\Q v H1):Lf K ta f U H Q:=h
theorem Ln {x C:Addr} (c:XCls K C) (m:PySem.W.mroIn K C (.ref P)=some true) (h:ts (D.gone i) (U.set i (some (.ref x))) H):YG K P i ts th D U x C H:=⟨true,c,m,by rw [if_pos rfl];exact h⟩
theorem XM {x C:Addr} (c:XCls K C) (m:PySem.W.mroIn K C (.ref P)=some false) (h:th D U x C H):YG K P i ts th D U x C H:=⟨false,c,m,by rw [if_neg Ze];exact h⟩
theorem wC {x C:Addr} {v:V} {c:Value} {fs:List (Str×V)} {b:Bool} (ex:Od H x C fs) (cl:Qj K C) (e:YF v=some c) (o:PySem.W.kitOne K (.ref C) c=some b) (h:Q (.bl b) H):La K [.ref x,v] H Q:=
 ⟨.ref x,.ref C,b,.inr ⟨x,C,fs,rfl,ex,cl,rfl⟩,.inl ⟨v,c,rfl,e,o⟩,h⟩
theorem yZ {x:V} {t:Value} {p:Addr} {vs:List V} {cs:List Value} {b:Bool} (ty:TyOf K H x t) (hp:H p=some (.tup vs)) (e:K9 vs=some cs) (o:PySem.W.kitAny K t cs=some b) (h:Q (.bl b) H):La K [x,.ref p] H Q:=
 ⟨x,t,b,.inl ty,.inr ⟨p,vs,cs,rfl,hp,e,o⟩,h⟩
theorem rd1 {f1 p0 p1:Str} {vs:List V} {E:XK} (c:XCls K C) (n:NoAttr K C f1) (h:yX C [f1] vs H Q E):Le K (rF 0) (rF 1) f1 {nx:=fun _ H'=>Q .non H',rt:=Q} (start [p0,p1] vs) H:=by
 obtain ⟨x,ws,rfl,hw,hx,q⟩:=h
 match ws,hw with
 | [v],_=>exact ⟨v,rfl,.ref x,rfl,x,C,rfl,c,n,.inl ⟨hx,fun d hd ne=>q d hd ne⟩⟩
end
def Hf (lo c:Int) (n:Nat):It:=⟨fun i _=>i < n,fun i H x H'=>H'=H/\x= .int (lo+i*c),fun i _=>n<=i⟩
theorem Hg {P:Program} {w:World} {K:W.Frag} {tg:Expr} (it:Addr) (lo c:Int) (n:Nat):Turn P w K tg (Hf lo c n) [it] it (fun i h=>IsRangeIter h it (lo+(i:Nat)*c) ((n:Int) - (i:Nat)) c) where
 mem:=by simp
 obj:=fun i h st b hb=>by
  obtain rfl:b=it:=by simpa using hb
  exact ⟨_,st,fun v z=>by
   have z2:Data.fields _=Data.cell v:=z;cases z2⟩
 keep:=fun i h h' st k=>k it (by simp) _ st
 item:=by
  intro X hP hw hK hc i pins s U H E I hf st hg;subst hP hw hK;obtain ⟨f0,f1,f2,f3,f4,f5⟩:=hf it (by simp);have W:=Walks.range (prog:=X.prog) (w:=X.w) (I.ok.hd hc) it lo c n;refine W.item i s _ _ hg st fun v h' tk hv st' kk=>?_
  obtain ⟨t,rfl⟩:=hv;have I1:Inv X pins U H {s with heap:=h',toks:=tk}:=I.turned (fun b o hb e=>kk b o (by simpa using hb) e) f0 f1 f3 f4 f5;exact ⟨_,rfl,vO (s:={s with heap:=h',toks:=tk}) (n:="range_iterator") st' rfl rfl (by decide) ⟨.int (lo+i*c),H,I1,⟨t,rfl⟩,⟨rfl,rfl⟩,st',fun b hb=>(hf b hb).1⟩⟩
 done:=by
  intro X hP hw hK hc i pins s U H E I hf st hg;subst hP hw hK;obtain ⟨f0,f1,f2,f3,f4,f5⟩:=hf it (by simp);exact wpAny_pyNext_range_end (I.ok.hd hc) st (by have:n<=i:=hg;omega) fun h' eb=>⟨rfl,I.turned (t':=s.toks) (fun b o hb e=>eb b o hb e) f0 f1 f3 f4 f5⟩
 self:=fun _ _ _ _ _ st h=>wpAny_pyIter_rangeiter st h
def Lp (ta:TA):TI:=fun U H R=>ta U H fun vs H1=>∃ (i j c:Int) (n:Nat),vs=[.int i,.int j,.int c]/\c≠0/\Builtin.divisionGoesByPylong (j - i) c=false/\Builtin.Range.small i j c=true/\Builtin.Range.rangeSize i j c=(n:Int)/\R (Hf i c n) H1
section
variable {X:Cx} {tg:Expr}
theorem Hh {a b c:Expr} {ta:TA} {p pos:Pos} (hg:Gl X "range") (hm:X.mg "range"=none) (ha:PA X [a,b,c] ta) (hs:starEach [a,b,c] X.env=(false,eval a X.env) :: starEach [b,c] X.env) (hs2:(backTo pos (starEach [b,c] X.env)).any (·.1)=false):
  PI X tg (.Call (.Name "range" p) [a,b,c] [] pos) (Lp ta):=by
 intro pins s U H R I h;refine Call_ (iR I hg hm boot_range (ZX (eQ (ha pos pins s U H _ I h) fun us s1 ⟨vs,H1,I1,r1,q1⟩=>?_) hs hs2));obtain ⟨i,j,c,n,rfl,hc,hd,hsm,hn,q⟩:=q1;cases r1 with
 | cons r rr=>
  cases rr with
  | cons r' rr=>
   cases rr with
   | cons r'' rr=>
    cases rr;obtain ⟨t,rfl⟩:=r;obtain ⟨t',rfl⟩:=r';obtain ⟨t'',rfl⟩:=r'';refine call_range_3 hc ?_ (.inl hd);refine wpAny_pyIter_range (IsRange.new ..) hsm ?_;have I2:Inv X pins U H1 {s1 with heap:=s1.heap.push {cls:=.type "range",data:=.fields #[.int i t,.int j t',.int c t'']}}:=I1.kept (t':=s1.toks) fun b o e=>YZ _ e
    refine ⟨(s1.heap.push {cls:=.type "range",data:=.fields #[.int i t,.int j t',.int c t'']}).objs.size,[(s1.heap.push {cls:=.type "range",data:=.fields #[.int i t,.int j t',.int c t'']}).objs.size],_,_,H1,rfl,
     I2.kept (t':=s1.toks) fun b o e=>YZ _ e,Hg _ i c n,?_,fun b hb=>?_,q⟩
    ·have e1:i+((0:Nat):Int)*c=i:=by simp
     have e2:(n:Int) - ((0:Nat):Int)=Builtin.Range.rangeSize i j c:=by rw [hn];simp
     show IsRangeIter _ _ (i+((0:Nat):Int)*c) ((n:Int) - ((0:Nat):Int)) c;rw [e1,e2];exact Y8 _ rfl
    ·obtain rfl:b=(s1.heap.push {cls:=.type "range",data:=.fields #[.int i t,.int j t',.int c t'']}).objs.size:=by simpa using hb
     exact I2.fpOk (Y4 _) (I2.hok.fresh (Y4 _))
theorem Hi {a b c:Expr} {ta:TA} {p pos:Pos} (hg:Gl X "range") (hm:X.mg "range"=none) (ha:JA X [a,b,c] ta) (h:autoParam (notStar a=true) L2.auto4._auto_1) (h2:autoParam ([b,c].all notStar=true) L2.auto4._auto_1):JI X tg (.Call (.Name "range" p) [a,b,c] [] pos) (Lp ta):=
 ⟨Hh hg hm ha.run (bI h) (lg h2)⟩
end
section
variable {U:St} {H:Hp} {Q:VK}
theorem dU {a:TA} {R:It->Hp->Prop} (h:a U H fun vs H1=>∃ (i j c:Int) (n:Nat),vs=[.int i,.int j,.int c]/\c≠0/\Builtin.divisionGoesByPylong (j - i) c=false/\Builtin.Range.small i j c=true/\Builtin.Range.rangeSize i j c=(n:Int)/\R (Hf i c n) H1):Lp a U H R:=h
theorem Lq {lo c:Int} {n:Nat} {g:TG} {tb:TS} {D:Ends} (Pv:Nat->St->Hp->Prop) (h0:Pv 0 U H)
  (hs:∀ i U H,i < n->Pv i U H->g (.int (lo+i*c)) U H fun σ2 H2=>tb {D with nx:=Pv (i+1),ct:=Pv (i+1),bk:=D.nx} σ2 H2) (hd:∀ U H,Pv n U H->D.nx U H):
  ∃ W:Nat->Nat->St->Hp->Prop,(∃ m,W 0 m U H)/\∀ i m U H,W i m U H->
   ((Hf lo c n).stop i H/\D.nx U H)\/((Hf lo c n).go i H/\∃ N:St->Hp->Prop,(∀ U' H',N U' H'->∃ m',m' < m/\W (i+1) m' U' H')/\∀ x H',(Hf lo c n).yld i H x H'->g x U H' fun σ2 H2=>tb {D with nx:=N,ct:=N,bk:=D.nx} σ2 H2):=by
 refine ⟨fun i m U H=>m=n - i/\i<=n/\Pv i U H,⟨n,by simp,Z7 _,h0⟩,?_⟩;rintro i m U H ⟨rfl,hi,p⟩;by_cases hlt:i < n
 ·refine .inr ⟨hlt,Pv (i+1),fun U' H' p'=>⟨n - (i+1),by omega,rfl,hlt,p'⟩,fun x H' y=>?_⟩
  obtain ⟨rfl,rfl⟩:=y;exact hs i U _ hlt p
 ·obtain rfl:i=n:=by omega
  exact .inl ⟨Y4 _,hd U H p⟩
end
section
variable {X:Cx} {e:Expr} {te:TE} {lo hi:Option Expr} {st:Expr} {tl th ts:TO} {pos p2:Pos}
theorem Qm:JE X (.Dict [] [] pos) CJ:=⟨Ke⟩
end
section
variable {U:St} {H:Hp} {Q:VK} {te:TE}
theorem dW (h:∀ p,H p=none->Q (.ref p) (upd H p (.dK []))):CJ U H Q:=h
end
def XN (K:W.Frag) (neg:Bool):R2:=fun x y H Q=>∃ a b xs,x= .ref a/\y= .ref b/\SqL K H a xs/\SqL K H b xs/\(∀ v∈xs,jO v=true\/∃ r,v= .ref r)/\Q (.bl (!neg)) H
theorem Ar {v:V} (f:jO v=true):Cy v v=true:=by
 cases v <;> first | (cases f;done) | rfl | exact beq_self_eq_true (α:=Bool) _ | exact beq_self_eq_true (α:=Int) _ | exact beq_self_eq_true (α:=Str) _
section
variable {X:Cx}
theorem Vj (hu:X.A.units < cLine):OpR X (compareOp .Eq) (XN X.K false):=by
 intro pins s U H x y v u Q I rx ry h;obtain ⟨a,b,xs,rfl,rfl,ha,hb,fx,q⟩:=h;cases rx;cases ry;obtain ⟨its,r1,p1,z1⟩:=I.list ha;obtain ⟨jts,r2,p2,z2⟩:=I.list hb;have l1:its.toArray.size=xs.length:=by simpa using r1.length.symm
 have l2:jts.toArray.size=xs.length:=by simpa using r2.length.symm
 refine SeqAt.eq_listAt (e:=fun _=>true) p1.isList p2.isList (by rw [l1,l2]) hu (fun j h1 h2=>?_) ?_
 ·have hj:j < xs.length:=by omega
  obtain ⟨u1,e1,q1⟩:=r1.get (YX hj);obtain ⟨u2,e2,q2⟩:=r2.get (YX hj)
  have f1:its.toArray[j]=u1:=by
   obtain ⟨_,z⟩:=Y0.mp e1;simpa using z
  have f2:jts.toArray[j]=u2:=by
   obtain ⟨_,z⟩:=Y0.mp e2;simpa using z
  rw [f1,f2];rcases fx _ (AaT hj) with f | ⟨r,f⟩
  ·rw [← Ar f]
   exact vV q1 q2 f f
  ·rw [f] at q1 q2
   cases (show u1=Value.ref r from q1);cases (show u2=Value.ref r from q2);exact SeqAt.EqAt.same _
 ·have e:(List.range its.toArray.size).all (fun _=>true)=true:=by simp
  rw [e];exact ⟨.bl true,H,I,rfl,q⟩
def Qn (K:W.Frag):R2:=fun x y H Q=>G7 K x y H Q\/XN K false x y H Q
theorem Vk {K:W.Frag} (hK:X.K=K) (hu:X.A.units+64 < cLine):OpR X (compareOp .Eq) (Qn K):=by
 subst hK;exact (Dd rfl hu).or (Vj (Nat.lt_of_le_of_lt (Nat.le_add_right _ _) hu))
end
section
variable {H:Hp} {Q:VK} {K:W.Frag}
theorem cU {i j:Int} (h:Q (.bl (decide (V.int i=V.int j))) H):Qn K (.int i) (.int j) H Q:=.inl (cR h)
theorem cV {i j:Bool} (h:Q (.bl (decide (V.bl i=V.bl j))) H):Qn K (.bl i) (.bl j) H Q:=.inl (cT h)
end
end L2
namespace L2
open PySem PySem.Spec PyProof.Rows
open AutoSeq1 (wpAny_loadPart')
theorem Vl:isSubtype (.type "dict") (.type "dict")=pure true:=by rw [AbF];kernel_rfl
theorem Hj {prog:Program} {w:World} {A:Around} {E:Value->Shared->Prop} {s:Shared} {Q:Value->Shared->Prop} {a:Addr} {o:Obj} {e:DictEntry} {ep:Nat} {k:Key} (ho:s.heap.get? a=some o) (hc:o.cls= .type "dict") (hd:o.data= .dict #[e] ep)
  (hkey:(cJ prog w).is k e.key=true) (hh:e.hash=(cJ prog w).hash k) (hsm:(a == sysModules)=false) (hu:A.units < cLine) (h:Q (.bool true) s):wpAny (model prog w) A (compareOp .Eq (.ref a) (.ref a)) Q E s:=by
 show wpAny _ _ (richCompare .Eq (.ref a) (.ref a)) _ _ _;refine wpAny_richCompare_same_room ⟨o,ho,hc⟩ ⟨o,ho,hc⟩ F.slot_dict_eq (AbE (AbG F.slot_dict_eq.plain F.entry_dict_eq (F.slot_dict_eq.check _ _ _ _ _ _ _ _ ⟨o,ho,hc⟩ (F.args_dict_eq_2 _ _) ?_))) hu
 have ko:KeysOf (cJ prog w) #[e]:=fun x hx=>by
  simp at hx;subst hx;exact ⟨k,hkey,hh⟩
 have f2:=Vl;obtain ⟨hp,g,d,tk,os⟩:=s;have hT:(⟨hp,g,d,tk,os⟩:Shared).TypeIs (.ref a) "dict":=⟨_,ho,hc⟩;unfold Builtin.«dict.__eq__»
 wp_walk using wpAny_loadPart' ho
 have en:∀ (Q:Array DictEntry->Shared->Prop) (E:Value->Shared->Prop),Q #[e] ⟨hp,g,d,tk,os⟩->wpAny (model prog w) A.in1 (dictEntries a) Q E ⟨hp,g,d,tk,os⟩:=fun Q E q=>by
  unfold dictEntries;refine YW (AbD ho ?_);simp only [hd];exact Y5 q
 have eo:∀ (Q:Nat->Shared->Prop) (E:Value->Shared->Prop),Q ep ⟨hp,g,d,tk,os⟩->wpAny (model prog w) A.in1 (dictEpoch a) Q E ⟨hp,g,d,tk,os⟩:=fun Q E q=>by
  unfold dictEpoch;refine YW (AbD ho ?_);simp only [hd];exact Y5 q
 simp only [hd];refine Y5 ?_;refine YW (en _ _ ?_);rw [if_neg (by simp)];refine YW (eo _ _ ?_);refine YW ?_;rw [Std.Legacy.Range.forIn_eq_forIn_range'];simp only [Std.Legacy.Range.size,AbL,Nat.add_sub_cancel,Nat.div_one];show wpAny _ _ (forIn [0] _ _) _ _ _;rw [List.forIn_cons];refine YW (YW (en _ _ ?_));show wpAny _ _ (holding [e.key,e.val] _ >>=_) _ _ _;refine YW (Z2 ?_);refine YW (show wpAny (model prog w) A.in1 (dictFind a e.key e.hash) _ _ _ from ?_);rw [hh];refine wpAny_dictFind_of hkey ho hd ko ?_;have fi:(#[e]:Array DictEntry).findIdx? (fun e=>(cJ prog w).is k e.key)=some 0:=by simp [hkey]
 rw [fi];refine YW (en _ _ ?_);show wpAny _ _ (holding [e.val] (eqBool e.val e.val)) _ _ _;refine Z2 (SeqAt.EqAt.same e.val prog w _ _ ?_);rw [if_neg (by simp)];refine YW (eo _ _ ?_);rw [if_neg (by simp)];refine Y5 ?_;show wpAny _ _ (forIn [] _ _) _ _ _;rw [List.forIn_nil];refine Y5 (Y5 ?_);exact Y5 ⟨(fun z=>nomatch z),h⟩
def XQ:R2:=fun x y H Q=>(y= .non/\Q (.bl (decide (x= .non))) H)\/∃ a b,x= .bl a/\y= .bl b/\Q (.bl (a == b)) H
section
variable {X:Cx}
theorem Vm:OpR X (compareOp .Is) XQ:=T5.or (by
 intro pins s U H x y v u Q I rx ry h;obtain ⟨a,b,rfl,rfl,q⟩:=h;cases rx;cases ry;exact is_bool ⟨.bl _,H,I,rfl,q⟩)
def RW (K:W.Frag):R2:=fun x y H Q=>∃ a b xs,x= .ref a/\y= .ref b/\SqT K H a xs/\SqT K H b xs/\(∀ v∈xs,jO v=true\/∃ r,v= .ref r)/\Q (.bl true) H
theorem Qo (hu:X.A.units < cLine):OpR X (compareOp .Eq) (RW X.K):=by
 intro pins s U H x y v u Q I rx ry h;obtain ⟨a,b,xs,rfl,rfl,ha,hb,fx,q⟩:=h;cases rx;cases ry;obtain ⟨its,r1,p1,z1⟩:=I.tuple ha;obtain ⟨jts,r2,p2,z2⟩:=I.tuple hb;have l1:its.toArray.size=xs.length:=by simpa using r1.length.symm
 have l2:jts.toArray.size=xs.length:=by simpa using r2.length.symm
 refine SeqAt.eq_tupleAt (e:=fun _=>true) p1 p2 hu (fun j h1 h2=>?_) ?_
 ·have hj:j < xs.length:=by omega
  obtain ⟨u1,e1,q1⟩:=r1.get (YX hj);obtain ⟨u2,e2,q2⟩:=r2.get (YX hj)
  have f1:its.toArray[j]=u1:=by
   obtain ⟨_,z⟩:=Y0.mp e1;simpa using z
  have f2:jts.toArray[j]=u2:=by
   obtain ⟨_,z⟩:=Y0.mp e2;simpa using z
  rw [f1,f2];rcases fx _ (AaT hj) with f | ⟨r,f⟩
  ·rw [← Ar f]
   exact vV q1 q2 f f
  ·rw [f] at q1 q2
   cases (show u1=Value.ref r from q1);cases (show u2=Value.ref r from q2);exact SeqAt.EqAt.same _
 ·have e:((List.range (min its.toArray.size jts.toArray.size)).all (fun _=>true) && its.toArray.size == jts.toArray.size)=true:=by rw [l1,l2];simp
  rw [e];exact ⟨.bl true,H,I,rfl,q⟩
def RX:R2:=fun x y H Q=>∃ a k v,x= .ref a/\y= .ref a/\H a=some (.dK [(k,v)])/\Q (.bl true) H
theorem Qp (hu:X.A.units < cLine):OpR X (compareOp .Eq) RX:=by
 intro pins s U H x y v u Q I rx ry h;obtain ⟨a,k,z,rfl,rfl,ha,q⟩:=h;cases rx;cases ry;obtain ⟨_,hsm,vs,kv,o,es,ep,h1,h2,h3,h4,h5,h6⟩:=(show ObjOk X.prog X.w H s.heap a (.dK [(k,z)]) from I.hok a _ ha);cases kv with
 | cons a1 a2=>
  cases a2;obtain ⟨l⟩:=es;dsimp only at h5;cases h5 with
  | @cons en _ _ _ p1 p2 p3=>
   cases p3;obtain ⟨k',b1,b2⟩:=h4 en (by simp);exact Hj (e:=en) h1 h2.1 h3 b1 b2 hsm hu ⟨.bl true,H,I,rfl,q⟩
def Vn (K:W.Frag):R2:=fun x y H Q=>Qn K x y H Q\/RW K x y H Q\/RX x y H Q
theorem lq {K:W.Frag} (hK:X.K=K) (hu:X.A.units+64 < cLine):OpR X (compareOp .Eq) (Vn K):=by
 subst hK;exact (Vk rfl hu).or ((Qo (Nat.lt_of_le_of_lt (Nat.le_add_right _ _) hu)).or (Qp (Nat.lt_of_le_of_lt (Nat.le_add_right _ _) hu)))
end
section
variable {H:Hp} {Q:VK} {K:W.Frag}
theorem bY {U:St} {r r':R2} {ta tb tc:TE} (h:ta U H fun x H1=>tb U H1 fun y H2=>r x y H2 fun z H3=>∃ k,z= .bl k/\if k=true then tc U H3 fun w H4=>r' y w H4 Q else Q (.bl false) H3):Ci r r' ta tb tc U H Q:=h
theorem ik {x:V} (h:Q (.bl (decide (x= .non))) H):XQ x .non H Q:=.inl ⟨rfl,h⟩
theorem dX {i j:Int} (h:Q (.bl (decide (V.int i=V.int j))) H):Vn K (.int i) (.int j) H Q:=.inl (cU h)
theorem dY {i j:Bool} (h:Q (.bl (decide (V.bl i=V.bl j))) H):Vn K (.bl i) (.bl j) H Q:=.inl (cV h)
end
end L2
namespace L2
open PySem PySem.Spec PyProof.Rows PySem.SeqAt
theorem cps_append (a b:Str):(a ++ b).cps.toList=a.cps.toList ++ b.cps.toList:=by
 show (a.cps ++ b.cps).toList=_;rw [ZJ]
theorem Qq (lo hi:Option Int) (n:Nat):Builtin.Str.strSliceIndices lo hi 1 n=(List.range (HT.sIx n n hi - HT.sIx n 0 lo)).map fun k=>HT.sIx n 0 lo+k:=by
 have c:∀ (i:Int) (d:Nat),max 0 (min (if i < 0 then i+(n:Int) else i) (n:Int))=((HT.sIx n d (some i):Nat):Int):=by
  intro i d;rw [← HT.clip_eq]
  split <;> omega
 have key:∀ a b:Nat,(List.range (if (a:Int) < (b:Int) then ((b:Int) - a+1 - 1) / 1 else 0).toNat).map (fun k:Nat=>((a:Int)+1*(k:Int)).toNat)=(List.range (b - a)).map fun k=>a+k:=by
  intro a b;have e3:(if (a:Int) < (b:Int) then ((b:Int) - a+1 - 1) / 1 else 0).toNat=b - a:=by split <;> omega
  rw [e3];refine Aan fun k _=>?_
  omega
 unfold Builtin.Str.strSliceIndices sliceRange;simp only [show (1:Int) > 0 by decide,if_true];cases lo with
 | none=>
  cases hi with
  | none=>exact key 0 n
  | some j=>rw [← key,← c j n];rfl
 | some i=>
  cases hi with
  | none=>rw [← key,← c i 0];rfl
  | some j=>rw [← key,← c i 0,← c j n]
theorem RZ {α β:Type} {f:α->Option β} {g:α->β}:∀ (l:List α),(∀ k∈l,f k=some (g k))->l.filterMap f=l.map g
 | [],_=>rfl
 | k :: l,h=>by rw [List.filterMap_cons,h k (by simp),Z3,RZ l fun j hj=>h j (Zz _ hj)]
theorem Hk (l:List Nat) (a m:Nat) (h:a+m<=l.length):((List.range m).map fun k=>a+k).filterMap (fun i=>l[i]?)=(l.drop a).take m:=by
 rw [List.filterMap_map,RZ (g:=fun k=>l.getD (a+k) 0)]
 ·refine List.ext_getElem? fun i=>?_
  rw [Y9,List.getElem?_take];by_cases hi:i < m
  ·rw [if_pos hi,Aab hi,AaU,YX (by omega)]
   simp [YX (show a+i < l.length by omega)]
  ·rw [if_neg hi,Aby (by simp;omega)];rfl
 ·intro k hk
  have hk:=ZS.mp hk;show l[a+k]?=_;rw [Y7,YX (by omega)];rfl
theorem ym (z:Str) (lo hi:Option Int):(Txt.slice z lo hi).cps.toList=(z.cps.toList.drop (HT.sIx z.length 0 lo)).take (HT.sIx z.length z.length hi - HT.sIx z.length 0 lo):=by
 have hn:z.cps.toList.length=z.length:=by simp [Str.length]
 have la:=HT.sIx_le z.length 0 (Z7 _) lo;have lb:=HT.sIx_le z.length z.length (Y4 _) hi;unfold Txt.slice;rw [Qq];generalize HT.sIx z.length 0 lo=a at la ⊢;generalize HT.sIx z.length z.length hi=b at lb ⊢
 split
 ·rename_i h
  simp at h
  have ha:a=0:=by
   rcases Nat.eq_zero_or_pos z.length with h0 | h0
   ·omega
   ·omega
  subst ha;rw [AaM,ZC (by omega)]
 ·show List.filterMap (fun x=>z.cps[x]?) _=_
  have e:(fun x:Nat=>z.cps[x]?)=fun x=>z.cps.toList[x]?:=by funext x;simp
  rw [e];by_cases h:a<=b
  ·exact Hk _ a (b - a) (by omega)
  ·rw [show b - a=0 by omega];simp
theorem Av (z:Str) (k:Nat):(Txt.slice z none (some (k:Int))).cps.toList=z.cps.toList.take k:=by
 rw [ym,HT.sIx_none,HT.sIx_nat,AaM,AbL];have hn:z.cps.toList.length=z.length:=by simp [Str.length]
 by_cases h:k<=z.length
 ·rw [Nat.min_eq_left h]
 ·rw [Nat.min_eq_right (by omega),ZC (by omega),ZC (by omega)]
theorem qO (z:Str) (k:Nat):(Txt.slice z (some (k:Int)) none).cps.toList=z.cps.toList.drop k:=by
 rw [ym,HT.sIx_none,HT.sIx_nat];have hn:z.cps.toList.length=z.length:=by simp [Str.length]
 by_cases h:k<=z.length
 ·rw [Nat.min_eq_left h,ZC (by rw [AaS];omega)]
 ·rw [Nat.min_eq_right (by omega),Aa3 (by omega),Aa3 (by omega)];simp
theorem Qs {s:Str} (h:PyData.strOk s=true):(PyData.str s).canLay0=true/\(PyData.str s).depth<=0:=by
 rw [PyData.canLay0,PyData.depth];exact ⟨h,Y4 _⟩
theorem Dh {d:PyData} {n:Nat} (h:d.canLay0=true/\d.depth<=n) (hn:n<=64):shaped d=true:=by
 unfold shaped;rw [h.1,Zc (by omega)];rfl
theorem iG {xs:List V} {H:Hp} {R:Addr->Prop} (c:Nat.ble xs.length 64=true) (h:∀ p,H p=none->R p):xs.length<=sizeLine/\∀ p,H p=none->R p:=
 ⟨ZP (Nat.le_of_ble_eq_true c) (by decide),h⟩
theorem il {A B:Prop} (h:A):if (!false)=true then A else B:=(if_pos (show (!false)=true from rfl)).mpr h
theorem ir {A B:Prop} (h:B):if (!true)=true then A else B:=by rw [if_neg (by simp)];exact h
theorem XR {t u:TS} {D:Ends} {U:St} {H:Hp} (M:St->Hp->Prop) (h1:∀ U H,M U H->u D U H) (h2:∀ N,(∀ U H,M U H->N U H)->t {D with nx:=N} U H):Om t u D U H:=h2 _ h1
theorem Vo {α:Type} {xs:List α} {n:Nat} {v:α} (h:xs.length=n+1) (e:xs[n]?=some v):uX xs (-1)=some v:=by
 unfold uX Gx;rw [h,if_neg (by omega),if_pos (by omega)];show xs[((-1:Int)+((n+1:Nat):Int)).toNat]?=some v;rw [show ((-1:Int)+((n+1:Nat):Int)).toNat=n by omega];exact e
end L2
namespace L2
open PySem PySem.Spec PyProof.Rows PySem.SeqAt
open AutoSeq1 (wpAny_loadPart')
end L2
namespace L2
open PySem PySem.Spec PyProof.Rows
def R0:List V->Hp->VK->Prop:=fun xs H Q=>(∃ i j,xs=[.int i,.int j]/\Q (.int (if j > i then j else i)) H)\/∃ (p:Addr) (ns:List Int),xs=[.ref p]/\H p=some (.lst (ns.map V.int))/\ns≠[]/\∀ M,M∈ns->(∀ a∈ns,a<=M)->Q (.int M) H
def XS:List V->Hp->VK->Prop:=fun xs H Q=>∃ (p:Addr) (ns:List Int),xs=[.ref p]/\H p=some (.lst (ns.map V.int))/\Q (.int ns.sum) H
def Fb:List V->Hp->VK->Prop:=fun xs H Q=>∃ (p:Addr) (ns:List Int),xs=[.ref p]/\H p=some (.lst (ns.map V.int))/\ns.length < 64/\∀ (q:Addr) (ms:List Int),H q=none->ms.Perm ns->ms.Pairwise (· <= ·)->Q (.ref q) (upd H q (.lst (ms.map V.int)))
section
variable {X:Cx}
theorem yo:∀ {us:List Value} {ns:List Int},IntsAre us ns->Vals (ns.map V.int) us:=by
 intro us
 induction us with
 | nil=>intro ns h;cases h;exact .nil
 | cons u us ih=>
  intro ns h;cases h with
  | cons a b=>exact .cons ⟨_,rfl⟩ (ih (by assumption))
theorem Hl (hc:X.calm=true):CallR X (.builtin "max") R0:=by
 intro pins s U H xs us Q I r h;rcases h with h | ⟨p,ns,rfl,hp,hne,q⟩
 ·exact Gq hc pins s U H xs us Q I r h
 ·obtain ⟨u,rfl,ru⟩:=vals1 r
  cases ru;obtain ⟨hz,its,n,rv,g⟩:=I.hok p _ hp;have hi:IntsAre its ns:=intsAre_of rv;have hl:=rv.length;obtain ⟨ys,ey⟩:=hi.allInts.items;have hn:=hi.numsOf
  have hsz:0 < ys.size:=by
   have e1:=congrArg Array.size ey;have:0 < ns.length:=Abm.mpr hne;rw [Y6] at hl;simp [intItems] at e1;omega
  have hL:s.heap.IsList p (intItems ys):=⟨_,g,rfl,n,by rw [← ey]⟩;have en:ys.toList.map (·.1)=ns:=by rw [← nums_intItems,← ey,← hn]
  refine max_intList (I.ok.hd hc) hL hsz fun v h' tk hv hk=>?_
  obtain ⟨t,rfl⟩:=intItems_at hv;obtain ⟨h1,h2⟩:=argBest_gt (numAt ys) (ys.size - 1);refine ⟨.int _,H,I.kept hk,⟨t,rfl⟩,q _ ?_ fun a ha=>?_⟩
  ·rw [← en,numAt_eq];exact getD_mem (by rw [Y6,ZG];omega)
  ·rw [← en] at ha
   obtain ⟨j,hj,rfl⟩:=mem_getD ha;rw [Y6,ZG] at hj;rw [← numAt_eq];exact h2 j (by omega)
theorem yp (hc:X.calm=true):CallR X (.builtin "sum") XS:=by
 intro pins s U H xs us Q I r h;obtain ⟨p,ns,rfl,hp,q⟩:=h;obtain ⟨u,rfl,ru⟩:=vals1 r;cases ru;obtain ⟨hz,its,n,rv,g⟩:=I.hok p _ hp;have hi:IntsAre its ns:=intsAre_of rv;obtain ⟨ys,ey⟩:=hi.allInts.items;have hL:s.heap.IsList p (intItems ys):=⟨_,g,rfl,n,by rw [← ey]⟩;have en:ys.toList.map (·.1)=ns:=by rw [← nums_intItems,← ey,← hi.numsOf]
 refine sum_intListG (I.ok.hd hc) hL fun h' tk t' hk=>⟨.int ns.sum,H,I.kept hk,⟨t',?_⟩,q⟩
 rw [preSum_eq,ZC (by simp),en]
theorem za:CallR X (.builtin "sorted") Fb:=by
 intro pins s U H xs us Q I r h;obtain ⟨p,ns,rfl,hp,h64,q⟩:=h;obtain ⟨u,rfl,ru⟩:=vals1 r;cases ru;obtain ⟨hz,its,n,rv,g⟩:=I.hok p _ hp;have hi:IntsAre its ns:=intsAre_of rv;have hl:=rv.length;rw [Y6] at hl;refine sorted_ints (vs:=its) ⟨_,g,rfl,n,rfl⟩ hi (by omega) fun out ms ho hperm hs=>?_
 obtain ⟨e,he⟩:=sortedAll_at s.heap its out;have hm:ms.length=ns.length:=hperm.length_eq;rw [Y6] at hz;refine ⟨.ref (s.heap.objs.size+1),_,I.laid (t':=s.toks) (o:=.lst (ms.map V.int)) (fun b ob q=>sortedAll_old q) (Abg _) ⟨by rw [Y6];omega,out.toList,e,yo ho,by simpa using he⟩,rfl,q _ ms (I.hok.fresh (Abg _)) hperm hs⟩
theorem Vp {i:Nat} {x:Str} {e:Expr} {te:TE} {op:Operator} {r:R2} {pos pos':Pos} (hN:X.N.Nodup) (hi:X.N[i]?=some x) (hx:Loc X.env.scope x) (he:JE X e te) (ho:OpR X (inplaceOp op) r) (hf:X.fn x=true):
  JS X (.AugAssign (.Name x pos') op e pos) (TJ i te r):=⟨TQ hN hi hx he.run ho (.inl hf)⟩
end
theorem small_down {i:Int} (h0: -1<=i) (h1:i < 2 ^ 60):Builtin.Range.small i (-1) (-1)=true:=by
 unfold Builtin.Range.small Builtin.Range.rangeSize;simp only [Builtin.Range.rangeFitsLong,Zt,Bool.or_eq_true,Abe,AaK,show ¬ ((-1:Int) > 0) by decide,if_false,show (-(-1:Int))=1 by decide,Int.ediv_one]
 split <;> omega
theorem Hn {n:Nat}:Builtin.Range.rangeSize ((n:Int) - 1) (-1) (-1)=(n:Int):=by
 unfold Builtin.Range.rangeSize;simp only [show ¬ ((-1:Int) > 0) by decide,if_false,show (-(-1:Int))=1 by decide,Int.ediv_one]
 split <;> omega
section
variable {U:St} {H:Hp} {Q:VK} {D:Ends}
theorem R5 {i:Nat} {te:TE} {r:R2} {v:V} (e:U[i]?=some (some v)) (h:te U H fun y H1=>r v y H1 fun z H2=>D.nx (U.set i (some z)) H2):TJ i te r D U H:=⟨v,e,h⟩
theorem Vq {p:Addr} {ns:List Int} (hp:H p=some (.lst (ns.map V.int))) (hn:ns≠[]) (h:∀ M,M∈ns->(∀ a∈ns,a<=M)->Q (.int M) H):R0 [.ref p] H Q:=.inr ⟨p,ns,rfl,hp,hn,h⟩
theorem R6 {p:Addr} {ns:List Int} (hp:H p=some (.lst (ns.map V.int))) (h:Q (.int ns.sum) H):XS [.ref p] H Q:=⟨p,ns,rfl,hp,h⟩
theorem Lr {p:Addr} {ns:List Int} (hp:H p=some (.lst (ns.map V.int))) (hn:ns.length < 64) (h:∀ (q:Addr) (ms:List Int),H q=none->ms.Perm ns->ms.Pairwise (· <= ·)->Q (.ref q) (upd H q (.lst (ms.map V.int)))):Fb [.ref p] H Q:=⟨p,ns,rfl,hp,hn,h⟩
end
def XX (K:W.Frag):R2:=fun x y H Q=>Pq K x y H Q\/∃ a o,y= .ref a/\DGet H a x o/\Q (.bl o.isSome) H
def Ls:Ca:=fun o i v H R=>uM o i v H R\/∃ a H4,o= .ref a/\DPut H a i v H4/\R H4
section
variable {X:Cx}
theorem Lw {K:W.Frag} (hK:X.K=K) (hu:X.A.units+64 < cLine):OpR X (compareOp .In) (XX K):=(Ko hK).or (by
 intro pins s U H x y v u Q I rx ry h;obtain ⟨a,o,rfl,g,q⟩:=h;obtain rfl:u=Value.ref a:=ry;exact d_in (by omega) I g rx fun s3 I3=>⟨.bl o.isSome,H,I3,rfl,q⟩)
theorem Fd (hu:X.A.units+64 < cLine):Ou X Ls:=by
 intro pins s U H o i v ov iv u Q I ro ri rv h;rcases h with h | ⟨a,H4,rfl,g,q⟩
 ·exact set_list pins s U H o i v ov iv u Q I ro ri rv h
 ·obtain rfl:ov=Value.ref a:=ro
  exact GP (by omega) I g ri rv fun s4 I4=>⟨H4,I4,q⟩
end
section
variable {U:St} {H:Hp} {Q:VK} {K:W.Frag}
theorem jr {x y:Str} (h:Q (.bl (!(Builtin.Str.occurrences y x 0 y.length 1).isEmpty)) H):XX K (.str x) (.str y) H Q:=.inl (gb h)
end
end L2
namespace L2
open PySem PySem.Spec PyProof.Rows
open PySem.Sem (wp)
open PySem.AutoSeq1 (wpAny_loadPart')
end L2
namespace L2
open PySem PySem.Spec PyProof.Rows
end L2
namespace L2
open PySem PySem.Spec PyProof.Rows
open PySem.Sem (wp)
open PySem.AutoSeq1 (wpAny_loadPart')
section
variable {prog:Program} {w:World} {A:Around} {E:Value->Shared->Prop} {s:Shared}
theorem u0 {it l:Addr} {i:Nat} {items:Array Value} {x:Value} {Q:Value->Shared->Prop} (hit:s.heap.IsRevIter it l (i:Int)) (hl:s.heap.IsList l items) (hx:items[i]?=some x)
  (hQ:∀ h',h'.IsRevIter it l ((i:Int) - 1)->Heap.SameBut it s.heap h'->Q x {s with heap:=h'}):wpAny (model prog w) A (Builtin.SmallTypes.nextOf (.ref it)) Q E s:=by
 obtain ⟨o,ho,hc,hd⟩:=id hit;obtain ⟨ol,hol,_,nl,hdl⟩:=hl;unfold Builtin.SmallTypes.nextOf
 refine YW (Aae (name:=Str.ofString "__next__") hit.typeIs F.slot_lri_next
  (Aav F.slot_lri_next hit.typeIs F.entry_lri_next ?_ (F.args_lri_next_1 _)))
 unfold Builtin.«list_reverseiterator.__next__»;refine YW (AaH (a:=(Value.ref it,[])) rfl ?_);try dsimp only
 refine YW (Z8 ho hd (x:=rawInt (i:Int)) rfl ?_);show wpAny _ _ (if (i:Int) < 0 then _ else _) _ _ s;rw [if_neg (by omega)];show wpAny _ _ (field (.ref it) 0 >>=_) _ _ s;refine YW (Z8 ho hd (x:=.ref l) rfl ?_);show wpAny _ _ (seqItems? (.ref l) >>=_) _ _ s;refine YW (AaN hol hdl ?_);simp only [Int.toNat_natCast,hx];refine YW (Abp ho hd (by simp) ?_);first
 | refine Y5 ⟨x,rfl,Y5 (hQ _ ?_ (Abn ..))⟩
 | refine YW (Y5 (Y5 ⟨x,rfl,Y5 (hQ _ ?_ (Abn ..))⟩))
 exact ⟨_,gV _ ho (Aa9 (AaF hd _)),(Obj.cls_mapFields ..).trans hc,by
  rw [AaF hd];simp⟩
theorem oX {it l:Addr} {Q:Value->Shared->Prop} (hh:A.handled=none) (hit:s.heap.IsRevIter it l (-1))
  (hE:∀ h' e,Heap.ExtBut it s.heap h'->(∃ o,h'.get? e=some o/\o.cls= .type "StopIteration")->E (.ref e) {s with heap:=h'}):wpAny (model prog w) A (Builtin.SmallTypes.nextOf (.ref it)) Q E s:=by
 obtain ⟨o,ho,hc,hd⟩:=id hit;unfold Builtin.SmallTypes.nextOf
 refine YW (Aae (name:=Str.ofString "__next__") hit.typeIs F.slot_lri_next
  (Aav F.slot_lri_next hit.typeIs F.entry_lri_next ?_ (F.args_lri_next_1 _)))
 unfold Builtin.«list_reverseiterator.__next__»;refine YW (AaH (a:=(Value.ref it,[])) rfl ?_);try dsimp only
 refine YW (Z8 ho hd (x:=rawInt (-1)) rfl ?_);show wpAny _ _ (if (-1:Int) < 0 then _ else _) _ _ s;rw [if_pos (by decide)];refine YW (Abj ?_);first
 | show wpAny _ _ (newExc (.type "StopIteration") [] >>=_) _ _ _
 | (refine YW ?_;show wpAny _ _ (newExc (.type "StopIteration") [] >>=_) _ _ _)
 refine YW ?_;simp only [newExc,newTuple];refine YW (Aaq ?_ (by size_fits));refine YW (m:=firstArgMember _ _) (AaH (a:=Value.none) (by first | rfl | (simp only [firstArgMember];rfl)) ?_);refine Aaq ?_ (by size_fits);simp only [raiseNew];refine YW (wpAny_handled ?_);first | rw [show A.in1.handled=none from hh] | rw [hh]
 refine YW (Y5 (wpAny_throw ?_));exact hE _ _ (((Heap.ExtBut.refl _ _).push _).push _) ⟨_,Y8 _ rfl,rfl⟩
end
theorem oY (it l:Addr) (i:Int) (dct:Option Addr) (sl:Array (Option Value)):
  Meets (Builtin.«enumerate.__new__» ⟨[.type "enumerate",.ref it],[]⟩) (fun _ R s=>s.heap.get? it=some {cls:=.type "list_reverseiterator",dict:=dct,data:=.fields #[.ref l,rawInt i],slots:=sl}/\
   R (.ok (.ret (.ref s.heap.objs.size)))
    {s with heap:=s.heap.push {cls:=.type "enumerate",data:=.fields #[.none,.bool false,.ref it,rawInt 0,.none,.none]}}):=
 .of_wp fun prog w A R s h=>by
  obtain ⟨hp,g,d,tk,os⟩:=s;obtain ⟨hl,h⟩:=h;have hsub:=sub_enumerate;have hL:Heap.IsRevIter (Shared.heap ⟨hp,g,d,tk,os⟩) it l i:=⟨_,hl,rfl,rfl⟩
  wp_walk using wpAny_loadPart' hl
  refine wpAny_stack_any fun st=>Y5 ?_
  split
  ·rename_i c _ _ _ _ _
   cases (c == Value.type "enumerate")
   ·wp_walk using wpAny_loadPart' hl,AaW hL
    exact ⟨_,rfl,h⟩
   ·wp_walk using wpAny_loadPart' hl,AaW hL
    exact ⟨_,rfl,h⟩
  ·wp_walk using wpAny_loadPart' hl,AaW hL
   exact ⟨_,rfl,h⟩
end L2
namespace L2
open PySem PySem.Spec PyProof.Rows
section
variable {prog:Program} {w:World} {A:Around} {E:Value->Shared->Prop} {s:Shared}
theorem qP {it l:Addr} {i:Int} {Q:Value->Shared->Prop} (hL:s.heap.IsRevIter it l i)
  (h:∀ h',IsEnum h' s.heap.objs.size it 0 .none->(∀ b o,s.heap.get? b=some o->h'.get? b=some o)->Q (.ref s.heap.objs.size) {s with heap:=h'}):
  wpAny (model prog w) A (call (.type "enumerate") [.ref it]) Q E s:=by
 obtain ⟨⟨c,dct,dt,sl⟩,hl,hc,hd⟩:=hL;replace hc:c= .type "list_reverseiterator":=hc;replace hd:dt= .fields #[.ref l,rawInt i]:=hd;subst hc hd
 refine callType_new F.called_enumerate (by decide) (F.typeCall_enumerate_1 _) (F.newCall_enumerate_1 _) (fun obj=>F.args_object_init_2 obj _) F.entry_enumerate_new
  (oY it l i dct sl) ⟨hl,?_⟩
 show _/\_;have he:IsEnum (s.heap.push {cls:=.type "enumerate",data:=.fields #[.none,.bool false,.ref it,rawInt 0,.none,.none]}) s.heap.objs.size it 0 .none:=Y8 _ rfl;exact ⟨⟨_,he,rfl⟩,h _ he fun b o x=>YZ _ x⟩
end
theorem Ho {prog:Program} {w:World} {A:Around} (hh:A.handled=none) (it l:Addr) (hne:l≠it) (items:Array Value):
  Draws prog w A it [it,l] items.size (fun i v=>items[items.size - 1 - i]?=some v) (fun i h=>i<=items.size/\h.IsRevIter it l ((items.size:Int) - 1 - (i:Int))/\h.IsList l items) where
 live:=fun _ _ st=>let ⟨o,ho,_⟩:=st.2.1;⟨o,ho⟩
 frame:=fun _ _ _ x hk=>⟨x.1,x.2.1.at fun o e=>hk it (by simp) o e,x.2.2.at fun o e=>hk l (by simp) o e⟩
 item:=fun i s Q E hi x hQ=>by
  have e:(items.size:Int) - 1 - (i:Int)=((items.size - 1 - i:Nat):Int):=by omega
  have hit:=x.2.1;rw [e] at hit;have hx:items[items.size - 1 - i]?=some (items[items.size - 1 - i]'(by omega)):=Array.getElem?_eq_getElem (by omega);refine u0 hit x.2.2 hx fun h' hit' hs'=>?_
  have e2:((items.size - 1 - i:Nat):Int) - 1=(items.size:Int) - 1 - ((i+1:Nat):Int):=by omega
  rw [e2] at hit';exact hQ _ h' s.toks hx ⟨hi,hit',x.2.2.at fun o eo=>(hs'.2 l hne).trans eo⟩ hs'
 done:=fun s Q E x hE=>by
  have e:(items.size:Int) - 1 - (items.size:Int)= -1:=by omega
  have hit:=x.2.1;rw [e] at hit;exact oX hh hit hE
def Hq (K:W.Frag) (a:Addr) (n:Nat):It:=
 ⟨fun i H=>i < n/\∃ xs,SqL K H a xs/\xs.length=n,
  fun i H v H'=>∃ T x,H T=none/\v= .ref T/\(∀ xs,SqL K H a xs->xs[n - 1 - i]?=some x)/\H'=upd H T (.tup [.int i,x]),
  fun i _=>i=n⟩
theorem Di {P:Program} {w:World} {K:W.Frag} {elts:List Expr} {k n:Nat} {pos:Pos} {e it a:Addr} (hne:e≠it) (hea:e≠a) (hai:a≠it):
  Turn P w K (.Tuple elts k pos) (Hq K a n) [e,it] e (fun i h=>(∃ old,IsEnum h e it i old)/\i<=n/\h.IsRevIter it a ((n:Int) - 1 - (i:Int))) where
 mem:=by simp
 obj:=fun i h st c hc=>by
  obtain ⟨⟨old,he⟩,_,⟨o1,e1,c1,d1⟩⟩:=st;simp only [Zb,ZL,or_false] at hc;rcases hc with rfl | rfl
  ·exact ⟨_,he,fun v z=>by cases z⟩
  ·exact ⟨_,e1,fun v z=>by rw [d1] at z;cases z⟩
 keep:=fun i h h' st kk=>by
  obtain ⟨⟨old,he⟩,hi,h1⟩:=st;exact ⟨⟨old,kk e (by simp) _ he⟩,hi,h1.at fun o q=>kk it (by simp) o q⟩
 item:=by
  intro X hP hw hK hc i pins s U H E I hf st hg;subst hP hw hK;obtain ⟨⟨old,he⟩,hi,h1⟩:=st;obtain ⟨hlt,xs,hq,hlen⟩:=hg;obtain ⟨its,rv,p,_⟩:=I.list hq;have l1:=rv.length;have sz:its.toArray.size=n:=by rw [Zi];omega
  obtain ⟨x,hx⟩:∃ x,xs[n - 1 - i]?=some x:=⟨_,YX (by omega)⟩;obtain ⟨u,hu,ru⟩:=rv.get hx;have h1':s.heap.IsRevIter it a ((its.toArray.size:Int) - 1 - (i:Int)):=by rw [sz];exact h1
  refine wpAny_pyNext_enum_itemD (Ho (A:=X.A.in1) (I.ok.hd hc) it a hai its.toArray) he ⟨by omega,h1',p.isList⟩ (by omega) hne (by simp [hne,hea]) fun x' h' tk hx' a1 a2 a3 a4 hk=>?_
  have ex:x'=u:=by
   have h2:its[its.length - 1 - i]?=some x':=by simpa using hx'
   rw [show its.length - 1 - i=n - 1 - i by omega,hu] at h2;exact (Zm h2).symm
  subst ex;refine ⟨_,rfl,wpAny_letOwnedTupleGo_enum a1 fun h'' a1' sb=>?_⟩;have lt:∀ {c o},s.heap.get? c=some o->s.heap.objs.size≠c:=fun e=>AaJ (Za e)
  have lti:s.heap.objs.size≠it:=by obtain ⟨o,q,_⟩:=h1;exact lt q
  have isT:h''.IsTuple s.heap.objs.size #[.int i tk,x']:=⟨_,sb.extBut _ _ (lt he) a3,rfl,_,rfl⟩
  have kall:∀ b o,b ∉ [e,it]->s.heap.get? b=some o->h''.get? b=some o:=fun b o hb q=>by
   simp only [Zb,ZL,or_false,not_or] at hb;exact sb.extBut _ _ hb.1 (hk b o hb.1 hb.2 q)
  have hTn:H s.heap.objs.size=none:=I.hok.fresh (Y4 _);refine ⟨.ref s.heap.objs.size,_,I.newtup (tk:=tk+1) hf (Y4 _) kall isT (xs:=[.int i,x]) (.cons ⟨_,rfl⟩ (.cons ru .nil)) (by simp;decide),rfl,⟨_,x,hTn,rfl,fun zs hs=>by rw [I.list_inj hs hq];exact hx,rfl⟩,?_,fun b hb=>?_⟩
  ·refine ⟨⟨_,a1'⟩,hlt,?_⟩
   have:=a2.2.1;rw [sz] at this;exact this.at fun o q=>sb.extBut _ _ (Ne.symm hne) q
  ·have:s.heap.objs.size≠b:=by
    simp only [Zb,ZL,or_false] at hb;rcases hb with rfl | rfl
    ·exact lt he
    ·exact lti
   rw [aC (Ne.symm this)];exact (hf b hb).1
 done:=by
  intro X hP hw hK hc i pins s U H E I hf st hg;subst hP hw hK;obtain ⟨⟨old,he⟩,hi,h1⟩:=st;have hin:i=n:=hg;subst hin;rw [show (i:Int) - 1 - (i:Int)= -1 by omega] at h1;have ht:s.TypeIs (.ref e) "enumerate":=⟨_,he,rfl⟩;unfold pyNext
  refine YW (AaV (Aae (name:=Str.ofString "__next__") ht F.slot_enumerate_next
   (Aav F.slot_enumerate_next ht F.entry_enumerate_next ?_ (F.args_enumerate_next_1 _))))
  show wpAny _ _ (field (.ref e) 2 >>=_) _ _ _;refine YW (Z8 he rfl (x:=.ref it) rfl ?_);refine YW (oX (A:=X.A.in1) (I.ok.hd hc) h1 fun h' x he' hx'=>?_);obtain ⟨o,ho,hc'⟩:=hx';refine YW (AbK (T:="StopIteration") (b:=true) ⟨o,ho,hc'⟩ isSubtype_stop ?_);refine Y5 ⟨rfl,I.only (tk:=s.toks) hf fun b o hb q=>?_⟩;simp only [Zb,ZL,or_false,not_or] at hb;exact he' b o hb.2 q
 self:=fun _ _ _ _ _ st h=>let ⟨⟨_,he⟩,_⟩:=st;AbB he h
def Aw (K:W.Frag) (ta:TE):TI:=fun U H R=>ta U H fun x H1=>∃ l xs,x= .ref l/\SqL K H1 l xs/\R (Hq K l xs.length) H1
theorem Dj {X:Cx} {K:W.Frag} {a:Expr} {ta:TE} {elts:List Expr} {k:Nat} {tp p p2 p3 pos:Pos} (hK:X.K=K) (hg:Gl X "enumerate") (hm:X.mg "enumerate"=none) (hg2:Gl X "reversed") (hm2:X.mg "reversed"=none) (ha:JE X a ta) (h:autoParam (notStar a=true) L2.auto4._auto_1):
  JI X (.Tuple elts k tp) (.Call (.Name "enumerate" p) [.Call (.Name "reversed" p2) [a] [] p3] [] pos) (Aw K ta):=⟨by
 subst hK;intro pins s U H R I hq;refine Call_ (iR I hg hm rT (ZX (arg1 rfl (Aax (iR I hg2 hm2 oR (ZX (arg1 h (eQ (ha.run pins s U H _ I hq) fun u s1 qq0=>?_)) (bI h) rfl)))) rfl rfl));obtain ⟨x,H1,I1,rx,l,xs,ex,hx,q⟩:=qq0;subst ex;cases rx;obtain ⟨its,rv,ht,hz⟩:=I1.list hx;have hlen:=rv.length;have lt:l < s1.heap.objs.size:=by obtain ⟨o,ho,_⟩:=ht.isList;exact Za ho
 refine call_reversed_list ht.isList ?_;have e0:(s1.heap.push (PySem.revObj l ((its.toArray.size:Int) - 1))).get? s1.heap.objs.size=some (PySem.revObj l ((its.toArray.size:Int) - 1)):=Y8 _ rfl;have s0:(s1.heap.push (PySem.revObj l ((its.toArray.size:Int) - 1))).objs.size=s1.heap.objs.size+1:=Aaj ..;have k0:∀ b o,s1.heap.get? b=some o->(s1.heap.push (PySem.revObj l ((its.toArray.size:Int) - 1))).get? b=some o:=fun b o q=>YZ _ q
 refine qP (it:=s1.heap.objs.size) (l:=l) (i:=(its.toArray.size:Int) - 1) ⟨_,e0,rfl,rfl⟩ fun h' z1 hk=>?_
 have z1':IsEnum h' (s1.heap.objs.size+1) s1.heap.objs.size 0 .none:=by rw [← s0];exact z1
 have z2:h'.IsRevIter s1.heap.objs.size l ((xs.length:Int) - 1 - ((0:Nat):Int)):=⟨_,hk _ _ e0,rfl,by
  show Data.fields #[.ref l,rawInt ((its.toArray.size:Int) - 1)]=_;rw [show ((its.toArray.size:Int) - 1)=(xs.length:Int) - 1 - ((0:Nat):Int) by rw [Zi];omega]⟩
 have J1:Inv X pins U H1 {s1 with heap:=h'}:=I1.kept (t':=s1.toks) fun b o q=>hk b o (k0 b o q)
 rw [s0];refine AbB z1' ?_;have key2:∀ n l:Nat,l < n->n+1≠l/\l≠n:=fun n l h=>⟨by omega,by omega⟩
 refine ⟨s1.heap.objs.size+1,_,_,_,H1,rfl,J1,Di (n:=xs.length) (Nat.succ_ne_self _) (key2 _ _ lt).1 (key2 _ _ lt).2,⟨⟨_,z1'⟩,Z7 _,z2⟩,fun b hb=>?_,q⟩
 have hb':s1.heap.objs.size<=b:=by
  simp only [Zb,ZL,or_false] at hb;have key:∀ n c:Nat,(c=n+1\/c=n)->n<=c:=fun n c h=>by omega
  exact key _ _ hb
 exact I1.fpOk hb' (I1.hok.fresh hb')⟩
section
variable {K:W.Frag} {U:St} {H:Hp}
theorem jK {ta:TE} {R:It->Hp->Prop} (h:ta U H fun x H1=>∃ l xs,x= .ref l/\SqL K H1 l xs/\R (Hq K l xs.length) H1):Aw K ta U H R:=h
theorem Hr {a:Addr} {xs:List V} {g:TG} {tb:TS} {D:Ends} (Pv:Nat->St->Hp->Prop) (h0:Pv 0 U H) (hq:∀ i U H,i<=xs.length->Pv i U H->SqL K H a xs)
  (hs:∀ i U H T x,i < xs.length->xs[xs.length - 1 - i]?=some x->Pv i U H->H T=none->g (.ref T) U (upd H T (.tup [.int i,x])) fun σ2 H2=>tb {D with nx:=Pv (i+1),ct:=Pv (i+1),bk:=D.nx} σ2 H2) (hd:∀ U H,Pv xs.length U H->D.nx U H):
  ∃ W:Nat->Nat->St->Hp->Prop,(∃ m,W 0 m U H)/\∀ i m U H,W i m U H->
   ((Hq K a xs.length).stop i H/\D.nx U H)\/((Hq K a xs.length).go i H/\∃ N:St->Hp->Prop,(∀ U' H',N U' H'->∃ m',m' < m/\W (i+1) m' U' H')/\∀ x H',(Hq K a xs.length).yld i H x H'->g x U H' fun σ2 H2=>tb {D with nx:=N,ct:=N,bk:=D.nx} σ2 H2):=by
 refine ⟨fun i m U H=>m=xs.length - i/\i<=xs.length/\Pv i U H,⟨xs.length,by simp,Z7 _,h0⟩,?_⟩;rintro i m U H ⟨rfl,hi,p⟩;have q1:=hq i U H hi p;by_cases hlt:i < xs.length
 ·refine .inr ⟨⟨hlt,xs,q1,rfl⟩,Pv (i+1),fun U' H' p'=>⟨xs.length - (i+1),by omega,rfl,hlt,p'⟩,fun x H' y=>?_⟩
  obtain ⟨T,u,hT,e1,e2,e4⟩:=y;subst e1 e4;exact hs i U H T u hlt (e2 xs q1) p hT
 ·have e:i=xs.length:=by omega
  subst e;exact .inl ⟨rfl,hd U H p⟩
end
end L2
namespace L2
open PySem PySem.Spec PyProof.Rows
open PySem.Sem (wp)
end L2
namespace L2
open PySem PySem.Spec PyProof.Rows
end L2
namespace L2
open PySem PySem.Spec PyProof.Rows
open PySem.Sem (wp)
structure wD (z TI TO i1 i2:Addr) (fp1 fp2:List Addr):Prop where
 TIz:TI≠z
 TOz:TO≠z
 i1z:i1≠z
 i2z:i2≠z
 TITO:TI≠TO
 TIi1:TI≠i1
 TIi2:TI≠i2
 TOi1:TO≠i1
 TOi2:TO≠i2
 i12:i1≠i2
 f1:∀ b∈fp1,b≠z/\b≠TO/\b≠i2
 f2:∀ b∈fp2,b≠z/\b≠TO/\b≠i1
section
variable {prog:Program} {w:World} {A:Around} {E:Value->Shared->Prop} {s:Shared} {z TI TO i1 i2:Addr} {fp1 fp2:List Addr} {n1 n2 k1 k2:Nat} {P1 P2:Nat->Value->Prop} {St1 St2:Nat->Heap->Prop} {a b:Value}
theorem Hs {Q:Value->Shared->Prop} (D1:Draws prog w A i1 fp1 n1 P1 St1) (D2:Draws prog w A i2 fp2 n2 P2 St2) (D:wD z TI TO i1 i2 fp1 fp2)
  (hz:IsZip s.heap z TI TO .none) (hTI:IsPair s.heap TI (.ref i1) (.ref i2)) (hTO:IsPair s.heap TO a b) (s1:St1 k1 s.heap) (s2:St2 k2 s.heap) (l1:k1 < n1) (l2:k2 < n2)
  (hQ:∀ x y h' tk,P1 k1 x->P2 k2 y->IsZip h' z TI TO (rawInt s.heap.objs.size)->IsPair h' TO x y->St1 (k1+1) h'->St2 (k2+1) h'->IsPair h' s.heap.objs.size x y->
   (∀ c o,c≠z->c≠TO->c≠i1->c≠i2->s.heap.get? c=some o->h'.get? c=some o)->Q (.ref s.heap.objs.size) {s with heap:=h',toks:=tk}):
  wpAny (model prog w) A (Builtin.«zip.__next__» ⟨[.ref z],[]⟩) (fun fin s'=>∃ v,fin= .done (.ret v)/\Q v s') E s:=by
 have sb:∀ {x:Addr} {h h':Heap},Heap.SameBut x h h'->∀ c o,c≠x->h.get? c=some o->h'.get? c=some o:=fun g c o n e=>g.extBut _ _ n e
 show wpAny _ _ (field (.ref z) 2 >>=_) _ _ _;refine YW (Z8 hz rfl (x:=.bool false) rfl ?_);show wpAny _ _ (field (.ref z) 3 >>=_) _ _ _;refine YW (Z8 hz rfl (x:=.ref TI) rfl (YW (AaN hTI rfl ?_)));show wpAny _ _ (Builtin.SmallTypes.ownedTupleIsFree (.ref z) >>=_) _ _ _;unfold Builtin.SmallTypes.ownedTupleIsFree;refine YW (YW (Z8 hz rfl (x:=.none) rfl (Y5 ?_)));simp only [if_true];refine YW (Abj (YW (Z8 hz rfl (x:=.ref TO) rfl ?_)));refine YW (Abr hz (by simp) fun g1 y1 e1=>?_);replace y1:IsZip g1 z TI TO .ellipsis:=y1;refine YW ?_;simp only [List.zipIdx_cons,List.zipIdx_nil,List.forIn_cons,List.forIn_nil];refine YW (YW (wpAny_onRaise ?_));show wpAny _ _ (Builtin.SmallTypes.nextOf (.ref i1) >>=_) _ _ _;have t1:St1 k1 g1:=D1.frame _ _ _ s1 fun c hc o e=>sb e1 c o (D.f1 c hc).1 e
 have t2:St2 k2 g1:=D2.frame _ _ _ s2 fun c hc o e=>sb e1 c o (D.f2 c hc).1 e
 refine YW (D1.item k1 _ _ _ l1 t1 fun x g2 tk px u1 e2=>Y5 ?_);have p2:IsPair g2 TO a b:=sb e2 _ _ D.TOi1 (sb e1 _ _ D.TOz hTO);refine YW (AaN p2 rfl (YW (wpAny_updateSeq_pair p2 fun g3 p3 e3=>?_)));replace p3:IsPair g3 TO x b:=p3;refine YW (wpAny_letGo (Y5 ?_));refine YW (YW (wpAny_onRaise ?_));show wpAny _ _ (Builtin.SmallTypes.nextOf (.ref i2) >>=_) _ _ _;have t3:St2 k2 g3:=D2.frame _ _ _ t2 fun c hc o e=>sb e3 c o (D.f2 c hc).2.1 (sb e2 c o (D.f2 c hc).2.2 e)
 refine YW (D2.item k2 _ _ _ l2 t3 fun y g4 tk2 py u2 e4=>Y5 ?_);have p4:IsPair g4 TO x b:=sb e4 _ _ D.TOi2 p3;refine YW (AaN p4 rfl (YW (wpAny_updateSeq_pair p4 fun g5 p5 e5=>?_)));replace p5:IsPair g5 TO x y:=p5;refine YW (wpAny_letGo (Y5 (Y5 ?_)));refine YW (AaN p5 rfl (YW (wpAny_newTuple ?_)));have sz:g5.objs.size=s.heap.objs.size:=by rw [e5.1,e4.1,e3.1,e2.1,e1.1]
 have z5:IsZip g5 z TI TO .ellipsis:=sb e5 _ _ D.TOz.symm (sb e4 _ _ D.i2z.symm (sb e3 _ _ D.TOz.symm (sb e2 _ _ D.i1z.symm y1)))
 have k5:∀ c o,c≠z->c≠TO->c≠i1->c≠i2->s.heap.get? c=some o->g5.get? c=some o:=fun c o c1 c2 c3 c4 e=>
  sb e5 _ _ c2 (sb e4 _ _ c4 (sb e3 _ _ c2 (sb e2 _ _ c3 (sb e1 _ _ c1 e))))
 have v1:St1 (k1+1) g5:=D1.frame _ _ _ u1 fun c hc o e=>sb e5 c o (D.f1 c hc).2.1 (sb e4 c o (D.f1 c hc).2.2 (sb e3 c o (D.f1 c hc).2.1 e))
 have v2:St2 (k2+1) g5:=D2.frame _ _ _ u2 fun c hc o e=>sb e5 c o (D.f2 c hc).2.1 e
 have zlt:z < g5.objs.size:=Za z5;show wpAny _ _ (Builtin.SmallTypes.ownedTupleHandOut (.ref z) (.ref g5.objs.size) >>=_) _ _ _;unfold Builtin.SmallTypes.ownedTupleHandOut;have z6:IsZip (g5.push {cls:=.type "tuple",data:=.seq #[x,y]}) z TI TO .ellipsis:=YZ _ z5;refine YW (YW (Abr z6 (by simp) fun g7 z7 e7=>?_));replace z7:IsZip g7 z TI TO (rawInt g5.objs.size):=z7;refine Abr z7 (by simp) fun g8 z8 e8=>?_
 replace z8:IsZip g8 z TI TO (rawInt g5.objs.size):=z8;have up:∀ c o,c≠z->g5.get? c=some o->g8.get? c=some o:=fun c o c1 e=>sb e8 _ _ c1 (sb e7 _ _ c1 (YZ _ e))
 have pT:IsPair g8 g5.objs.size x y:=sb e8 _ _ (AaJ zlt) (sb e7 _ _ (AaJ zlt) (Y8 _ rfl));rw [sz] at z8 pT;refine Y5 ⟨_,rfl,?_⟩;show Q (.ref g5.objs.size) _;rw [sz];exact hQ x y g8 _ px py z8 (up _ _ D.TOz p5) (D1.frame _ _ _ v1 fun c hc o e=>up c o (D.f1 c hc).1 e) (D2.frame _ _ _ v2 fun c hc o e=>up c o (D.f2 c hc).1 e) pT fun c o c1 c2 c3 c4 e=>up c o c1 (k5 c o c1 c2 c3 c4 e)
theorem Lx {Q:Fin->Shared->Prop} (D1:Draws prog w A i1 fp1 n1 P1 St1) (D:wD z TI TO i1 i2 fp1 fp2)
  (hz:IsZip s.heap z TI TO .none) (hTI:IsPair s.heap TI (.ref i1) (.ref i2)) (s1:St1 n1 s.heap)
  (hE:∀ h' e,(∀ c o,c≠z->c≠i1->s.heap.get? c=some o->h'.get? c=some o)->(∃ o,h'.get? e=some o/\o.cls= .type "StopIteration")->E (.ref e) {s with heap:=h'}):
  wpAny (model prog w) A (Builtin.«zip.__next__» ⟨[.ref z],[]⟩) Q E s:=by
 have sb:∀ {x:Addr} {h h':Heap},Heap.SameBut x h h'->∀ c o,c≠x->h.get? c=some o->h'.get? c=some o:=fun g c o n e=>g.extBut _ _ n e
 show wpAny _ _ (field (.ref z) 2 >>=_) _ _ _;refine YW (Z8 hz rfl (x:=.bool false) rfl ?_);show wpAny _ _ (field (.ref z) 3 >>=_) _ _ _;refine YW (Z8 hz rfl (x:=.ref TI) rfl (YW (AaN hTI rfl ?_)));show wpAny _ _ (Builtin.SmallTypes.ownedTupleIsFree (.ref z) >>=_) _ _ _;unfold Builtin.SmallTypes.ownedTupleIsFree;refine YW (YW (Z8 hz rfl (x:=.none) rfl (Y5 ?_)));simp only [if_true];refine YW (Abj (YW (Z8 hz rfl (x:=.ref TO) rfl ?_)));refine YW (Abr hz (by simp) fun g1 y1 e1=>?_);replace y1:IsZip g1 z TI TO .ellipsis:=y1;refine YW ?_;simp only [List.zipIdx_cons,List.zipIdx_nil,List.forIn_cons,List.forIn_nil];refine YW (YW (wpAny_onRaise ?_));show wpAny _ _ (Builtin.SmallTypes.nextOf (.ref i1) >>=_) _ _ _;have t1:St1 n1 g1:=D1.frame _ _ _ s1 fun c hc o e=>sb e1 c o (D.f1 c hc).1 e
 refine YW (D1.done _ _ _ t1 fun g2 e e2 he=>?_);obtain ⟨oe,hoe,hce⟩:=he;have y2:IsZip g2 z TI TO .ellipsis:=e2 _ _ D.i1z.symm y1;have hez:e≠z:=fun x=>by subst x;rw [y2] at hoe;cases hoe;simp at hce
 exact Abr y2 (by simp) fun g3 _ e3=>hE g3 e (fun c o c1 c3 x=>sb e3 _ _ c1 (e2 _ _ c3 (sb e1 _ _ c1 x))) ⟨oe,sb e3 _ _ hez hoe,hce⟩
end
abbrev YH (h:Heap) (x:Str) (t:Tok):Heap:=h.push {cls:=.type (strIterType x),data:=.fields #[.str x t,.int 0 0]}
abbrev YJ (h:Heap) (x:Str) (t:Tok) (l:Addr):Heap:=(YH h x t).push {cls:=.type "list_iterator",data:=.fields #[.ref l,.int 0 0]}
abbrev YK (h:Heap) (x:Str) (t:Tok) (l:Addr):Heap:=(YJ h x t l).push {cls:=.type "tuple",data:=.seq #[.ref h.objs.size,.ref (YH h x t).objs.size]}
abbrev YL (h:Heap) (x:Str) (t:Tok) (l:Addr):Heap:=(YK h x t l).push {cls:=.type "tuple",data:=.seq #[.none,.none]}
abbrev Wm (h:Heap) (x:Str) (t:Tok) (l:Addr):Heap:=(YL h x t l).push {cls:=.type "zip",data:=.fields #[.none,.bool false,.bool false,.ref (YJ h x t l).objs.size,.ref (YK h x t l).objs.size]}
theorem u5 (x:Str) (t:Tok) (l2:Addr) (ys:Array Value):
  Meets (Builtin.«zip.__new__» ⟨[.type "zip",.str x t,.ref l2],[]⟩) (fun _ R s=>s.heap.IsList l2 ys/\R (.ok (.ret (.ref (YL s.heap x t l2).objs.size))) {s with heap:=Wm s.heap x t l2}):=
 .of_wp fun prog w A R s h=>by
  obtain ⟨hp,g,d,tk,os⟩:=s;obtain ⟨hl2,h⟩:=h;have hsub:=sub_zip;have hL2:Heap.IsList (Shared.heap ⟨hp.push {cls:=.type (strIterType x),data:=.fields #[.str x t,.int 0 0]},g,d,tk,os⟩) l2 ys:=Heap.IsList.push hl2 _
  wp_walk using wpAny_pyIter_strU,AbA hL2
  exact ⟨_,rfl,h⟩
theorem Dk {prog:Program} {w:World} {A:Around} {E:Value->Shared->Prop} {s:Shared} {x:Str} {t:Tok} {l:Addr} {ys:Array Value} {Q:Value->Shared->Prop} (hl:s.heap.IsList l ys)
  (h:∀ h',IsZip h' (s.heap.objs.size+4) (s.heap.objs.size+2) (s.heap.objs.size+3) .none->IsPair h' (s.heap.objs.size+2) (.ref s.heap.objs.size) (.ref (s.heap.objs.size+1))->
   IsPair h' (s.heap.objs.size+3) .none .none->h'.IsStrIter s.heap.objs.size (strIterType x) x t 0->h'.IsListIter (s.heap.objs.size+1) l 0->
   (∀ c o,s.heap.get? c=some o->h'.get? c=some o)->Q (.ref (s.heap.objs.size+4)) {s with heap:=h'}):
  wpAny (model prog w) A (call (.type "zip") [.str x t,.ref l]) Q E s:=by
 refine callType_new F.called_zip (by decide) (F.typeCall_zip_2 _ _) (F.newCall_zip_2 _ _) (fun obj=>F.args_object_init_3 obj _ _) F.entry_zip_new (u5 x t l ys) ⟨hl,?_⟩;have a1:(YH s.heap x t).objs.size=s.heap.objs.size+1:=Aaj ..;have a2:(YJ s.heap x t l).objs.size=s.heap.objs.size+2:=by rw [Aaj,a1]
 have a3:(YK s.heap x t l).objs.size=s.heap.objs.size+3:=by rw [Aaj,a2]
 have a4:(YL s.heap x t l).objs.size=s.heap.objs.size+4:=by rw [Aaj,a3]
 have pu:∀ {g:Heap} {o u:Obj} {c:Addr},g.get? c=some u->(g.push o).get? c=some u:=fun e=>YZ _ e
 have g5:(Wm s.heap x t l).get? (YL s.heap x t l).objs.size=some _:=Y8 _ rfl;have g4:(Wm s.heap x t l).get? (YK s.heap x t l).objs.size=some _:=pu (Y8 _ rfl);have g3:(Wm s.heap x t l).get? (YJ s.heap x t l).objs.size=some _:=pu (pu (Y8 _ rfl));have g2:(Wm s.heap x t l).get? (YH s.heap x t).objs.size=some _:=pu (pu (pu (Y8 _ rfl)));have g1:(Wm s.heap x t l).get? s.heap.objs.size=some _:=pu (pu (pu (pu (Y8 _ rfl))));show _/\_;rw [a2,a3,a4] at g5;rw [a1,a2] at g3;rw [a3] at g4;rw [a1] at g2;rw [a4];exact ⟨⟨_,g5,rfl⟩,h _ g5 g3 g4 ⟨_,g1,rfl,rfl⟩ ⟨_,g2,rfl,rfl⟩ fun c o e=>pu (pu (pu (pu (pu e))))⟩
def Ht (K:W.Frag) (x:Str) (b:Addr):It:=
 ⟨fun i H=>i < x.cps.size/\∃ ys y,SqL K H b ys/\ys[i]?=some y,
  fun i H v H'=>∃ T y,H T=none/\v= .ref T/\(∀ ys,SqL K H b ys->ys[i]?=some y)/\H'=upd H T (.tup [.str ⟨#[x.cps.getD i 0]⟩,y]),
  fun i _=>i=x.cps.size⟩
theorem wF {P:Program} {w:World} {K:W.Frag} {elts:List Expr} {k:Nat} {pos:Pos} {z TI TO i1 i2 b:Addr} {x:Str} {t:Tok} {ty:String} (D:wD z TI TO i1 i2 [i1] [i2,b]) (hb2:b≠i2)
  (Dr:∀ A:Around,A.handled=none->Draws P w A i1 [i1] x.cps.size (fun i v=>∃ c u,x.cps[i]?=some c/\v= .str ⟨#[c]⟩ u) (fun i h=>h.IsStrIter i1 ty x t i)):
  Turn P w K (.Tuple elts k pos) (Ht K x b) [z,TI,TO,i1,i2] z (fun i h=>IsZip h z TI TO .none/\IsPair h TI (.ref i1) (.ref i2)/\(∃ c d,IsPair h TO c d)/\h.IsStrIter i1 ty x t i/\h.IsListIter i2 b i) where
 mem:=by simp
 obj:=fun i h st c hc=>by
  obtain ⟨hz,hTI,⟨_,_,hTO⟩,⟨o1,e1,_,d1⟩,⟨o2,e2,_,d2⟩⟩:=st;simp only [Zb,ZL,or_false] at hc;rcases hc with rfl | rfl | rfl | rfl | rfl
  ·exact ⟨_,hz,nofun⟩
  ·exact ⟨_,hTI,nofun⟩
  ·exact ⟨_,hTO,nofun⟩
  ·exact ⟨_,e1,fun v z=>by rw [d1] at z;cases z⟩
  ·exact ⟨_,e2,fun v z=>by rw [d2] at z;cases z⟩
 keep:=fun i h h' st kk=>by
  obtain ⟨hz,hTI,⟨_,_,hTO⟩,⟨o1,e1,r1⟩,h2⟩:=st;exact ⟨kk z (by simp) _ hz,kk TI (by simp) _ hTI,⟨_,_,kk TO (by simp) _ hTO⟩,⟨o1,kk i1 (by simp) _ e1,r1⟩,h2.at fun o e=>kk i2 (by simp) o e⟩
 item:=by
  intro X hP hw hK hc i pins s U H E I hf st hg;subst hP hw hK;obtain ⟨hz,hTI,⟨c,d,hTO⟩,h1,h2⟩:=st;obtain ⟨hlt,ys,y,hq,hy⟩:=hg;obtain ⟨its,rv,p,_⟩:=I.list hq;obtain ⟨u,hu,ru⟩:=rv.get hy
  have hlt2:i < its.toArray.size:=by
   have:=(Y0.mp hu).1;simpa using this
  have hT:s.TypeIs (.ref z) "zip":=⟨_,hz,rfl⟩;have hh:X.A.in1.handled=none:=I.ok.hd hc;unfold pyNext
  refine YW (AaV (Aae (name:=Str.ofString "__next__") hT F.slot_zip_next (Aav F.slot_zip_next hT F.entry_zip_next
   (Hs (Dr X.A.in1 hh) (Draws.list hh i2 b hb2 its.toArray) D hz hTI hTO h1 ⟨h2,p.isList⟩ hlt hlt2 fun a1 a2 h' tk px py b1 b2 b3 b4 b5 hk=>Y5 ?_) (F.args_zip_next_1 _))))
  obtain ⟨ch,tu,hch,rfl⟩:=px
  have eu:a2=u:=by
   have h2:its[i]?=some a2:=by simpa using py
   rw [hu] at h2;exact (Zm h2).symm
  subst eu;refine ⟨_,rfl,wpAny_letOwnedTupleGo_zip b1 fun h'' b1' sb=>?_⟩;have lt:∀ {c o},s.heap.get? c=some o->s.heap.objs.size≠c:=fun e=>AaJ (Za e)
  have isT:h''.IsTuple s.heap.objs.size #[.str ⟨#[ch]⟩ tu,a2]:=⟨_,sb.extBut _ _ (lt hz) b5,rfl,_,rfl⟩
  have kall:∀ b o,b ∉ [z,TI,TO,i1,i2]->s.heap.get? b=some o->h''.get? b=some o:=fun b o hb e=>by
   simp only [Zb,ZL,or_false,not_or] at hb;exact sb.extBut _ _ hb.1 (hk b o hb.1 hb.2.2.1 hb.2.2.2.1 hb.2.2.2.2 e)
  have hTn:H s.heap.objs.size=none:=I.hok.fresh (Y4 _);have ech:x.cps.getD i 0=ch:=by simp [Aaw,hch]
  refine ⟨.ref s.heap.objs.size,_,I.newtup (tk:=tk) hf (Y4 _) kall isT (xs:=[.str ⟨#[x.cps.getD i 0]⟩,y]) (.cons ⟨tu,by rw [ech]⟩ (.cons ru .nil)) (by simp;decide),rfl,⟨_,y,hTn,rfl,fun zs hs=>by rw [I.list_inj hs hq];exact hy,rfl⟩,?_,fun b hb=>?_⟩
  ·obtain ⟨o1,e1,r1⟩:=b3
   exact ⟨b1',sb.extBut _ _ D.TIz (hk _ _ D.TIz D.TITO D.TIi1 D.TIi2 hTI),⟨_,_,sb.extBut _ _ D.TOz b2⟩,⟨o1,sb.extBut _ _ D.i1z e1,r1⟩,b4.1.extBut sb.extBut D.i2z⟩
  ·have:s.heap.objs.size≠b:=by
    simp only [Zb,ZL,or_false] at hb;rcases hb with rfl | rfl | rfl | rfl | rfl
    ·exact lt hz
    ·exact lt hTI
    ·exact lt hTO
    ·obtain ⟨o,e,_⟩:=h1;exact lt e
    ·obtain ⟨o,e,_⟩:=h2;exact lt e
   rw [aC (Ne.symm this)];exact (hf b hb).1
 done:=by
  intro X hP hw hK hc i pins s U H E I hf st hg;subst hP hw hK;obtain ⟨hz,hTI,⟨c,d,hTO⟩,h1,h2⟩:=st;have hin:i=x.cps.size:=hg;subst hin;have hT:s.TypeIs (.ref z) "zip":=⟨_,hz,rfl⟩;have hh:X.A.in1.handled=none:=I.ok.hd hc;unfold pyNext
  refine YW (AaV (Aae (name:=Str.ofString "__next__") hT F.slot_zip_next (Aav F.slot_zip_next hT F.entry_zip_next
   (Lx (Dr X.A.in1 hh) D hz hTI h1 fun h' e hk he=>?_) (F.args_zip_next_1 _))))
  obtain ⟨o,ho,hcl⟩:=he;refine YW (AbK (T:="StopIteration") (b:=true) ⟨o,ho,hcl⟩ isSubtype_stop ?_);refine Y5 ⟨rfl,I.only (tk:=s.toks) hf fun b o hb e=>?_⟩;simp only [Zb,ZL,or_false,not_or] at hb;exact hk b o hb.1 hb.2.2.2.1 e
 self:=fun _ _ _ _ _ st h=>wpAny_pyIter_zip st.1 h
def Ly (K:W.Frag) (ta:TA):TI:=fun U H R=>ta U H fun vs H1=>∃ x b ys,vs=[.str x,.ref b]/\SqL K H1 b ys/\R (Ht K x b) H1
theorem Lz {X:Cx} {K:W.Frag} {a b:Expr} {ta:TA} {elts:List Expr} {k:Nat} {tp p pos:Pos} (hc:X.calm=true) (hK:X.K=K) (hg:Gl X "zip") (hm:X.mg "zip"=none) (ha:JA X [a,b] ta) (h:autoParam (notStar a=true) L2.auto4._auto_1) (h2:autoParam (notStar b=true) L2.auto4._auto_1):
  JI X (.Tuple elts k tp) (.Call (.Name "zip" p) [a,b] [] pos) (Ly K ta):=⟨by
 subst hK;intro pins s U H R I hq;refine Call_ (iR I hg hm UT (ZX (eQ (ha.run pos pins s U H _ I hq) fun us s1 qq0=>?_) (bI h) (by rw [bI h2];rfl)));obtain ⟨vs,H1,I1,r1,q1⟩:=qq0;obtain ⟨x,l,ys,e,hl,q⟩:=q1;subst e
 obtain ⟨u,u2,rfl,e1,e2⟩:∃ u u2,us=[u,u2]/\RelV (.str x) u/\RelV (.ref l) u2:=by
  cases r1 with
  | cons x r=>cases r with
   | cons y r=>cases r with
    | nil=>exact ⟨_,_,rfl,x,y⟩
 obtain ⟨t,rfl⟩:=e1;cases e2;obtain ⟨its,rv,p1,_⟩:=I1.list hl;have lt1:l < s1.heap.objs.size:=by obtain ⟨o,ho,_⟩:=p1.isList;exact Za ho
 refine Dk p1.isList fun h' z1 z2 z3 z4 z5 hk=>?_
 have J1:Inv X pins U H1 {s1 with heap:=h'}:=I1.kept (t':=s1.toks) hk
 have D:wD (s1.heap.objs.size+4) (s1.heap.objs.size+2) (s1.heap.objs.size+3) s1.heap.objs.size (s1.heap.objs.size+1) [s1.heap.objs.size] [s1.heap.objs.size+1,l]:=by
  have key:∀ n b:Nat,b < n->wD (n+4) (n+2) (n+3) n (n+1) [n] [n+1,b]:=fun n b h2=>by
   have k1:∀ c:Nat,c=n->c≠n+4/\c≠n+3/\c≠n+1:=fun c hc=>by omega
   have k2:∀ c:Nat,(c=n+1\/c=b)->c≠n+4/\c≠n+3/\c≠n:=fun c hc=>by omega
   refine ⟨?_,?_,?_,?_,?_,?_,?_,?_,?_,?_,fun c hc=>k1 c (ZD.mp hc),fun c hc=>k2 c (by simpa only [Zb,ZL,or_false] using hc)⟩;all_goals (show (_:Nat)≠_;omega)
  exact key _ _ lt1
 have nb:l≠s1.heap.objs.size+1:=ZR (Nat.lt_succ_of_lt lt1);refine wpAny_pyIter_zip z1 ?_
 have fpk:∀ b∈[s1.heap.objs.size+4,s1.heap.objs.size+2,s1.heap.objs.size+3,s1.heap.objs.size,s1.heap.objs.size+1],s1.heap.objs.size<=b:=by
  intro b hb;simp only [Zb,ZL,or_false] at hb;have key:∀ n c:Nat,(c=n+4\/c=n+2\/c=n+3\/c=n\/c=n+1)->n<=c:=fun n c h=>by omega
  exact key _ _ hb
 cases hx:x.cps.all (· < 128)
 ·exact ⟨s1.heap.objs.size+4,_,_,_,H1,rfl,J1,wF (ty:="str_iterator") (x:=x) (t:=t) D nb (fun A hA=>Draws.strWide hA _ x t),⟨z1,z2,⟨_,_,z3⟩,by simpa [strIterType,hx] using z4,z5⟩,fun b hb=>I1.fpOk (fpk b hb) (I1.hok.fresh (fpk b hb)),q⟩
 ·exact ⟨s1.heap.objs.size+4,_,_,_,H1,rfl,J1,wF (ty:="str_ascii_iterator") (x:=x) (t:=t) D nb (fun A hA=>Draws.strAscii hA _ x t),⟨z1,z2,⟨_,_,z3⟩,by simpa [strIterType,hx] using z4,z5⟩,fun b hb=>I1.fpOk (fpk b hb) (I1.hok.fresh (fpk b hb)),q⟩⟩
section
variable {U:St} {H:Hp} {K:W.Frag}
theorem pZ {a:TA} {R:It->Hp->Prop} (h:a U H fun vs H1=>∃ x b ys,vs=[.str x,.ref b]/\SqL K H1 b ys/\R (Ht K x b) H1):Ly K a U H R:=h
theorem Hw {x:Str} {b:Addr} {ys:List V} {g:TG} {tb:TS} {D:Ends} (Pv:Nat->St->Hp->Prop) (hl:x.cps.size=ys.length) (h0:Pv 0 U H) (hq:∀ i U H,i<=ys.length->Pv i U H->SqL K H b ys)
  (hs:∀ i U H T y,ys[i]?=some y->Pv i U H->H T=none->g (.ref T) U (upd H T (.tup [.str ⟨#[x.cps.getD i 0]⟩,y])) fun σ2 H2=>tb {D with nx:=Pv (i+1),ct:=Pv (i+1),bk:=D.nx} σ2 H2) (hd:∀ U H,Pv ys.length U H->D.nx U H):
  ∃ W:Nat->Nat->St->Hp->Prop,(∃ m,W 0 m U H)/\∀ i m U H,W i m U H->
   ((Ht K x b).stop i H/\D.nx U H)\/((Ht K x b).go i H/\∃ N:St->Hp->Prop,(∀ U' H',N U' H'->∃ m',m' < m/\W (i+1) m' U' H')/\∀ z H',(Ht K x b).yld i H z H'->g z U H' fun σ2 H2=>tb {D with nx:=N,ct:=N,bk:=D.nx} σ2 H2):=by
 refine ⟨fun i m U H=>m=ys.length - i/\i<=ys.length/\Pv i U H,⟨ys.length,by simp,Z7 _,h0⟩,?_⟩;rintro i m U H ⟨rfl,hi,p⟩;have q1:=hq i U H hi p;by_cases hlt:i < ys.length
 ·refine .inr ⟨⟨by omega,ys,ys[i],q1,YX hlt⟩,Pv (i+1),fun U' H' p'=>⟨ys.length - (i+1),by omega,rfl,hlt,p'⟩,fun z H' y=>?_⟩
  obtain ⟨T,u,hT,e1,e2,e4⟩:=y;subst e1 e4;exact hs i U H T u (e2 ys q1) p hT
 ·have e:i=ys.length:=by omega
  subst e;exact .inl ⟨hl.symm,hd U H p⟩
end
end L2
namespace L2
open PySem PySem.Spec PyProof.Rows
open PySem.Sem (wp)
open AutoSeq1 (wpAny_loadPart')
end L2
namespace L2
open PySem PySem.W PySem.Spec PyProof.Rows
section
variable {prog:Program} {w:World} {A:Around} {E:Value->Shared->Prop} {s:Shared}
def X3 (a:Addr) (h h':Heap):Prop:=∀ b o,b≠a->h.get? b=some o->h'.get? b=some o
theorem Hy {h:Heap} {a:Addr} {f:Obj->Obj} {x y:Obj}:X3 a h (((h.update a f).push x).push y):=fun b o nb e=>by
 have e1:(h.update a f).get? b=some o:=by rw [Heap.get?_update_ne _ _ _ _ nb];exact e
 exact YZ _ (YZ _ e1)
theorem Fe (vs:List Value):(vs.toArray.zip vs.toArray).map (·.2)=vs.toArray:=by
 apply Array.toList_inj.mp;simp only [Array.toList_map,Array.toList_zip];exact List.map_snd_zip (Y4 _)
end
theorem LC:∀ a:List Int,HT.lexLt a a=false
 | []=>rfl
 | x :: xs=>by rw [HT.lexLt_cons,if_pos rfl];exact LC xs
theorem su:∀ {a b c:List Int},HT.lexLt a b=true->HT.lexLt b c=true->HT.lexLt a c=true
 | [],[],_,h,_=>by cases h
 | [],_ :: _,[],_,h=>by cases h
 | [],_ :: _,_ :: _,_,_=>rfl
 | _ :: _,[],_,h,_=>by cases h
 | _ :: _,_ :: _,[],_,h=>by cases h
 | x :: xs,y :: ys,z :: zs,h1,h2=>by
  rw [HT.lexLt_cons] at h1 h2 ⊢;by_cases e1:x=y
  ·rw [if_pos e1] at h1
   by_cases e2:y=z
   ·rw [if_pos e2] at h2
    rw [if_pos (by omega)];exact su h1 h2
   ·rw [if_neg e2] at h2
    rw [if_neg (by omega),e1];exact h2
  ·rw [if_neg e1] at h1
   have h1':=ZF h1;by_cases e2:y=z
   ·rw [if_neg (by omega)];exact Zc (by omega)
   ·rw [if_neg e2] at h2
    have h2':=ZF h2;rw [if_neg (by omega)];exact Zc (by omega)
theorem wG:∀ {a b:List Int},HT.lexLt a b=false->HT.lexLt b a=false->a=b
 | [],[],_,_=>rfl
 | [],_ :: _,h,_=>by cases h
 | _ :: _,[],_,h=>by cases h
 | x :: xs,y :: ys,h1,h2=>by
  rw [HT.lexLt_cons] at h1 h2;by_cases e:x=y
  ·rw [if_pos e] at h1
   rw [if_pos e.symm] at h2;rw [e,wG h1 h2]
  ·rw [if_neg e] at h1
   rw [if_neg (fun z=>e z.symm)] at h2;have h1':=Aas h1;have h2':=Aas h2;omega
section
variable {prog:Program} {w:World} {A:Around} {E:Value->Shared->Prop} {s:Shared}
theorem Vr {b fin:Bool} {Q:Bool->Shared->Prop}:∀ (n:Nat) {vs us:List Value} {ns ms:List Int},IntsAre vs ns->IntsAre us ms->fin=decide (ns.length < ms.length)->Q (HT.lexLt ns ms) s->KatLex prog w A b fin Q (vs.zip us) n s:=by
 intro n vs us ns ms h1
 induction h1 generalizing n us ms with
 | nil=>
  intro h2 hf q;cases h2 with
  | nil=>rw [hf];exact q
  | cons y t h2=>rw [hf];exact q
 | cons x t h1 ih=>
  intro h2 hf q;cases h2 with
  | nil=>rw [hf];exact q
  | cons y u h2=>
   rw [List.zip_cons_cons];refine kat_cons (wpAny_eqBool_int ?_);rw [HT.lexLt_cons] at q;by_cases e:x=y
   ·rw [if_pos e] at q
    rw [show (x == y)=true by rw [e];exact beq_self_eq_true y];refine kat_yes (ih (n+1) h2 ?_ q);rw [hf];simp
   ·rw [if_neg e] at q
    rw [show (x == y)=false by simpa using e];refine kat_no ?_;cases hb:(b && n == 0) with
    | true=>exact oneLt_int q
    | false=>exact kat_one _ _ (lt_int q)
theorem X4 {Q:Bool->Shared->Prop} {x y:Addr} {vs us:List Value} {ns ms:List Int} (hx:IsTup s.heap x vs.toArray) (hy:IsTup s.heap y us.toArray) (h1:IntsAre vs ns) (h2:IntsAre us ms) (q:Q (HT.lexLt ns ms) s):
  wpAny (model prog w) A (keyLt' (tuples' true) (.ref x) (.ref y)) Q E s:=by
 obtain ⟨ox,gx,_,n1,dx⟩:=hx;obtain ⟨oy,gy,_,n2,dy⟩:=hy;refine kat_lt gx dx gy dy (Vr 0 h1 h2 ?_ q);have l1:=h1.length;have l2:=h2.length;simp [l1,l2]
theorem Hz {vs:List Value} {ts:List (List Int)} {Q:SortKind->Shared->Prop} (h2:2<=vs.length) (h:∀ i,i < vs.length->∃ a its,vs[i]?=some (.ref a)/\IsTup s.heap a its.toArray/\IntsAre its (ts.getD i [])/\ts.getD i []≠[]) (q:Q (tuples' true) s):
  wpAny (model prog w) A (keyKind' vs.toArray) Q E s:=by
 have key:∀ (l:List Value),(∀ v∈l,∃ a its ns,v= .ref a/\IsTup s.heap a its.toArray/\IntsAre its ns/\ns≠[])->∃ fs:List Value,fs.length=l.length/\KatTups s.heap l fs/\∀ v∈fs,∃ n t,v=Value.int n t:=by
  intro l
  induction l with
  | nil=>exact fun _=>⟨[],rfl,KatTups.nil,fun v hv=>by cases hv⟩
  | cons v l ih=>
   intro hl;obtain ⟨fs,lf,kf,inf⟩:=ih fun u hu=>hl u (Zz _ hu)
   obtain ⟨a,its,ns,rfl,⟨o,go,co,n,dn⟩,hI,hne⟩:=hl v Z6;cases hI with
   | nil=>exact absurd rfl hne
   | cons x t hI=>
    refine ⟨.int x t :: fs,by simp [lf],KatTups.cons go co dn (by simp) kf,fun v hv=>?_⟩;rcases Zb.mp hv with rfl | hv
    ·exact ⟨x,t,rfl⟩
    ·exact inf v hv
 obtain ⟨fs,lf,kf,inf⟩:=key vs fun v hv=>by
  obtain ⟨i,hi,rfl⟩:=ZQ.mp hv;obtain ⟨a,its,e,it,ia,ne⟩:=h i hi;rw [YX hi] at e;exact ⟨a,its,_,Zm e,it,ia,ne⟩
 refine kat_kind (T:=.type "int") kf (by omega) (fun v hv=>?_) rfl q;obtain ⟨n,t,rfl⟩:=inf v hv;exact Looks.of_pure rfl
end
end L2
namespace L2
open PySem PySem.Spec PyProof.Rows
open PySem.Sem (wp)
end L2
namespace L2
open PySem PySem.Spec PyProof.Rows
open PySem.Sem (wp)
open PySem.AutoSeq1 (wpAny_loadPart')
end L2
namespace L2
open PySem PySem.Spec PyProof.Rows
open PySem.Sem (wp)
end L2
namespace L2
open PySem PySem.Spec PyProof.Rows
def Wn (K:W.Frag) (a:Addr) (n:Nat):It:=
 ⟨fun i H=>i < n/\∃ xs,SqL K H a xs/\xs.length=n,
  fun i H v H'=>H'=H/\∀ xs,SqL K H a xs->xs[n - 1 - i]?=some v,
  fun i _=>i=n⟩
theorem LK {P:Program} {w:World} {K:W.Frag} {tg:Expr} {n:Nat} {it a:Addr} (hai:a≠it):
  Turn P w K tg (Wn K a n) [it] it (fun i h=>i<=n/\h.IsRevIter it a ((n:Int) - 1 - (i:Int))) where
 mem:=by simp
 obj:=fun i h st c hc=>by
  obtain ⟨_,⟨o1,e1,c1,d1⟩⟩:=st;have e:c=it:=by simpa using hc
  subst e;exact ⟨_,e1,fun v z=>by rw [d1] at z;cases z⟩
 keep:=fun i h h' st kk=>⟨st.1,st.2.at fun o q=>kk it (by simp) o q⟩
 item:=by
  intro X hP hw hK hc i pins s U H E I hf st hg;subst hP hw hK;obtain ⟨hi,h1⟩:=st;obtain ⟨hlt,xs,hq,hlen⟩:=hg;obtain ⟨its,rv,p,_⟩:=I.list hq;have l1:=rv.length;obtain ⟨x,hx⟩:∃ x,xs[n - 1 - i]?=some x:=⟨_,YX (by omega)⟩;obtain ⟨u,hu,ru⟩:=rv.get hx;obtain ⟨f0,f1,f2,f3,f4,f5⟩:=hf it (by simp);have e:(n:Int) - 1 - (i:Int)=((n - 1 - i:Nat):Int):=by omega
  rw [e] at h1;refine wpAny_pyNext_rev_item h1 p.isList (x:=u) (by simpa using hu) fun h' st' sb=>?_
  have I1:Inv X pins U H {s with heap:=h'}:=I.turned (t':=s.toks) (fun b o hb e=>(sb.2 b hb).trans e) f0 f1 f3 f4 f5;obtain ⟨o,eo,c,d⟩:=id st';refine ⟨u,rfl,vO (s:={s with heap:=h'}) eo c d (by decide) ⟨x,H,I1,ru,⟨rfl,fun ys hy=>by rw [I.list_inj hy hq];exact hx⟩,⟨hlt,?_⟩,fun b hb=>(hf b hb).1⟩⟩;have e2:((n - 1 - i:Nat):Int) - 1=(n:Int) - 1 - ((i+1:Nat):Int):=by omega
  rw [← e2];exact st'
 done:=by
  intro X hP hw hK hc i pins s U H E I hf st hg;subst hP hw hK;obtain ⟨hi,h1⟩:=st;have hin:i=n:=hg;subst hin;rw [show (i:Int) - 1 - (i:Int)= -1 by omega] at h1;obtain ⟨f0,f1,f2,f3,f4,f5⟩:=hf it (by simp);exact wpAny_pyNext_rev_end (I.ok.hd hc) h1 fun h' eb=>⟨rfl,I.turned (t':=s.toks) (fun b o hb e=>eb b o hb e) f0 f1 f3 f4 f5⟩
 self:=fun _ _ _ _ _ st h=>AaW st.2 h
structure sy (K:W.Frag) (mg:Str->Option Value) (x:Str):Prop where
 at_:mg x=some (.ref (aP mg x))
 cl:Cls K (aP mg x)
 makes:PySem.W.makesIn K (aP mg x)=true
 kp:PySem.W.keepIn K (.ref (aP mg x))=true
def clsIn (K:W.Frag) (C:Addr):Bool:=PySem.W.plainGet K C Str.empty && PySem.W.hasDictIn K C && PySem.W.plainOver K C
theorem Ff {K:W.Frag} {mg:Str->Option Value} {h:Heap} (X:K.In h) (G:h.Ns mainGlobals mg) {x:Str} {C:Addr} (a:PySem.W.nsIn K mainGlobals x=some (some (.ref C))) (b:clsIn K C=true)
  (s:PySem.W.findIn K (.ref C) "__setattr__"=some (some (.builtin "object.__setattr__"))) (m:PySem.W.makesIn K C=true) (k:PySem.W.keepIn K (.ref C)=true):sy K mg x:=by
 have e0:=Aa6 X G a;have e:=m5 e0;unfold clsIn at b;simp only [Zt] at b;exact ⟨by rw [e];exact e0,by rw [e];exact ⟨b.1.1,b.1.2,b.2,s⟩,by rw [e];exact m,by rw [e];exact k⟩
structure jo (K:W.Frag) (mg:Str->Option Value) (x m qual:Str) (st:Stmt):Prop where
 ex:∃ f fd,Meth K (aP mg x) m f/\Fun K m qual st f fd
theorem ou {K:W.Frag} {mg:Str->Option Value} {h:Heap} (X:K.In h) (G:h.Ns mainGlobals mg) {x m qual:Str} {C f:Addr} {st:Stmt} {oc:Value} {od an:Option Addr} {osl:Array (Option Value)} {kV doc pm cdv ct:Value}
  (a:PySem.W.nsIn K mainGlobals x=some (some (.ref C))) (i:PySem.W.findIn K (.ref C) m=some (some (.ref f))) (n:PySem.W.isFn K (.ref f)=true)
  (l:K.lookup f=some ⟨oc,od,.func (PySem.W.fnOf m qual (fW st) (bR st) (az st) .none kV doc pm an cdv ct),osl⟩) (c:PySem.W.codeIn K cdv qual=true) (k:PySem.W.keepIn K (.ref f)=true):jo K mg x m qual st:=by
 have e:=m5 (Aa6 X G a);exact ⟨f,_,by rw [e];exact ⟨i,n,k⟩,Cz l c k⟩
theorem Fg {K:W.Frag} {mg:Str->Option Value} {h:Heap} (X:K.In h) (G:h.Ns mainGlobals mg) {x:Str} {C:Addr} {fl:List Str} (a:PySem.W.nsIn K mainGlobals x=some (some (.ref C))) (b:Lj K C fl=true):∀ f∈fl,NoAttr K (aP mg x) f:=fun n hn=>by
 rw [m5 (Aa6 X G a)];have:=AaC.mp b n hn;first | exact ZF this | exact AaK.mp this | simpa using this
def oA (j:Nat):Stmt->Stmt
 | .ClassDef _ _ _ ss _ _ _ _ _ _ _=>ss.getD j (.Pass ⟨0,0,0,0⟩)
 | s=>s
def oF (P:Program) (w:World) (K:W.Frag) (mg:Str->Option Value) (base:Heap) (k:Nat) (x m:Str) (ps:List Str) (sp:Sp):Prop:=
 ∃ f fd,Meth K (aP mg x) m f/\Binds K fd ps []/\rH P w K mg base (Qf P w) k f fd ps sp
section
variable {P:Program} {w:World} {K:W.Frag} {mg:Str->Option Value} {base:Heap}
theorem u6 {x m qual:Str} {st:Stmt} {N ps:List Str} {k:Nat} {sp:Sp} (D:jo K mg x m qual st) (S:aD N ps (az st))
  (hb:∀ (kV doc pm:Value) (an:Option Addr) (cdv ct:Value) (us:List Value),us.length=ps.length->bindArgs (PySem.W.fnOf m qual (fW st) (bR st) (az st) .none kV doc pm an cdv ct) ⟨us,[]⟩=pure (ps.zip us))
  (len:∀ vs H Q E,sp vs H Q E->vs.length=ps.length)
  (hbody:∀ (f:Addr) (cdv:Value) (A:Around) (outer:List Env) (s:Shared) (H:Hp) (vs:List V) (Q:VK) (E:XK),Room k (A.deeper (envOfC qual (az st) s.heap.objs.size f cdv))->sp vs H Q E->
   ∃ t,JB (qG (Qf P w) P w K mg base N qual (az st) f cdv A outer s H E) (bR st) t/\t {nx:=fun _ H'=>Q .non H',rt:=Q} (start N vs) H):oF P w K mg base (k+1) x m ps sp:=by
 obtain ⟨f,fd,hm,F⟩:=D.ex;refine ⟨f,fd,hm,F.binds hb,?_⟩;obtain ⟨oc,od,kV,doc,pm,an,cdv,ct,osl,rfl,lk,hcd⟩:=F.ex;exact JK lk hcd S len fun A outer s H vs Q E hr h=>let ⟨t,j,q⟩:=hbody f cdv A outer s H vs Q E hr h;⟨t,j.run,q⟩
end
def zb (C:Addr) (m:Str) (sp:Sp) (R:St->XK) (ta:TE) (t:TA):TE:=fun U H Q=>ta U H fun x H1=>∃ a dx fs,x= .ref a/\H1 a=some (.ins C dx fs)/\fs.lookup m=none/\t U H1 fun vs H2=>sp (x :: vs) H2 Q (R U)
def LQ (C:Addr) (sp:Sp) (R:St->XK) (t:TA):TE:=fun U H Q=>t U H fun vs H1=>∀ x dx,H1 x=none->H1 dx=none->dx≠x->
 sp (.ref x :: vs) (upd (upd H1 dx (.own x)) x (.ins C dx [])) (fun v H2=>v= .non/\Q (.ref x) H2) (R U)
section
variable {X:Cx} {K:W.Frag} {k:Nat} {f C:Addr} {ps:List Str} {sp:Sp} {R:St->XK} {x m fn:Str} {p pos apos pos':Pos} {e o value:Expr} {es:List Expr} {ta tv:TE} {t:TA} {pins:List (Addr×Obj)} {U:St} {H:Hp} {s:Shared} {Q:VK} {us:List Value} {vs:List V}
theorem sE {pl:Sem Bool} (he:JE X o ta) (c:sy X.K X.mg x) (F:oF X.prog X.w X.K X.mg X.base k x m ps sp) (hr:Room k X.A) (hx:kj X R) (ha:JA X (e :: es) t)
  (hs:autoParam ((e :: es).all notStar=true) L2.auto4._auto_1)
  (ht:eval (.Call (.Attribute o m apos) (e :: es) [] pos) X.env=(do
   let ov ← eval o X.env
   standAt apos.atName
   let (f,first) ← holding [ov] (getMethod ov m pl)
   callWith pos f first (backTo pos (starEach (e :: es) X.env)) (backToKw pos (keywordEach [] X.env))):=by rfl):
  JE X (.Call (.Attribute o m apos) (e :: es) [] pos) (zb (aP X.mg x) m sp R ta t):=⟨by
 have h1:notStar e=true:=by simp only [Aaf,Zt] at hs;exact hs.1
 have h2:es.all notStar=true:=by simp only [Aaf,Zt] at hs;exact hs.2
 obtain ⟨f,fd,hm,hb,F⟩:=F;intro pins s U H Q I h;refine PySem.W.methodCall_KW (pl:=pl) (eQ (he.run pins s U H _ I h) fun u s1 qq0=>?_) ht;obtain ⟨x,H1,I1,rx,a,dx,fs,ex,ea,l,q⟩:=qq0;subst ex;obtain rfl:u=Value.ref a:=rx;refine vR I1 ea c.cl hm l ?_;refine Abq (first:=[.ref a]) (h₀:=X.base) I.ok.mod.kin hm.kp (eQ (ha.run pos pins s1 U H1 _ I1 q) fun us s2 ⟨vs,H2,I2,r,q2⟩=>⟨I2.kIn,?_⟩) (bI h1) (lg h2);exact yW (us:=.ref a :: us) (vs:=.ref a :: vs) F hr hb hx I2 (.cons rfl r) q2⟩
theorem Ax {pl:Sem Bool} (he:JE X o ta) (c:sy X.K X.mg x) (F:oF X.prog X.w X.K X.mg X.base k x m ps sp) (hr:Room k X.A) (hx:kj X R)
  (ht:eval (.Call (.Attribute o m apos) [] [] pos) X.env=(do
   let ov ← eval o X.env
   standAt apos.atName
   let (f,first) ← holding [ov] (getMethod ov m pl)
   callWith pos f first (backTo pos (starEach [] X.env)) (backToKw pos (keywordEach [] X.env))):=by rfl):
  JE X (.Call (.Attribute o m apos) [] [] pos) (zb (aP X.mg x) m sp R ta O5):=⟨by
 obtain ⟨f,fd,hm,hb,F⟩:=F;intro pins s U H Q I h;refine PySem.W.methodCall_KW (pl:=pl) (eQ (he.run pins s U H _ I h) fun u s1 qq0=>?_) ht;obtain ⟨x,H1,I1,rx,a,dx,fs,ex,ea,l,q⟩:=qq0;subst ex;obtain rfl:u=Value.ref a:=rx;refine vR I1 ea c.cl hm l ?_;exact PySem.W.callWith_K0 (first:=[.ref a]) I1.kIn hm.kp (yW (us:=[.ref a]) (vs:=[.ref a]) F hr hb hx I1 (.cons rfl .nil) q)⟩
theorem HB (c:sy X.K X.mg x) (F:oF X.prog X.w X.K X.mg X.base k x "__init__" ps sp) (hr:Room (k+1) X.A) (hx:kj X R) (I:Inv X pins U H s) (r:Vals vs us)
  (h:∀ y dx,H y=none->H dx=none->dx≠y->sp (.ref y :: vs) (upd (upd H dx (.own y)) y (.ins (aP X.mg x) dx [])) (fun v H2=>v= .non/\Q (.ref y) H2) (R U)):
  wpAny (model X.prog X.w) X.A (call (.ref (aP X.mg x)) us) (EP X pins U Q) X.xe s:=by
 obtain ⟨f,fd,hm,hb,F⟩:=F;have hq:=h (s.heap.objs.size+1) s.heap.objs.size (I.hok.fresh (Abg _)) (I.hok.fresh (Y4 _)) (ZR (Nat.lt_succ_self _));have I2:=Inv.made (C:=aP X.mg x) I;have r2:Vals (V.ref (s.heap.objs.size+1) :: vs) (Value.ref (s.heap.objs.size+1) :: us):=.cons rfl r
 have hl:((Value.ref (s.heap.objs.size+1) :: us) ++ []).length=ps.length:=by
  have e:=r2.length;rw [F.len _ _ _ _ hq] at e;rw [Z5];exact e.symm
 have bd:=hb _ (Value.ref (s.heap.objs.size+1) :: us) I2.kIn hl;rw [Z5] at bd
 refine AbE (JF (f:=f) I.kIn c.makes hm.at_ (AaK.mp hm.fn) (codeAny_mono (F.run _ X.stack _ _ ⟨Value.ref (s.heap.objs.size+1) :: us,[]⟩ (Value.ref (s.heap.objs.size+1) :: us) _ _ (R U) (hr.make (aP X.mg x) us [])
  (I2.env0.make (aP X.mg x) us []) bd r2 hq) fun r s' hq'=>?_))
 cases r with
 | error e=>exact hx pins e s' (Ex I2 hq')
 | ok fl=>
  cases fl with
  | ret u=>
   obtain ⟨v,H',I3,rv,ev,q3⟩:=I2.after hq';subst ev;exact ⟨rv,⟨V.ref (s.heap.objs.size+1),H',I3,rfl,q3⟩⟩
  | next=>exact False.elim hq'
  | brk=>exact False.elim hq'
  | cont=>exact False.elim hq'
theorem vB (c:sy X.K X.mg x) (F:oF X.prog X.w X.K X.mg X.base k x "__init__" ps sp) (hr:Room (k+1) X.A) (hg:Gl X x) (hx:kj X R) (ha:JA X (e :: es) t) (hdb:(x == ("__debug__":Str))=false) (h:autoParam ((e :: es).all notStar=true) L2.auto4._auto_1):
  JE X (.Call (.Name x p) (e :: es) [] pos) (LQ (aP X.mg x) sp R t):=⟨by
 have h1:notStar e=true:=by simp only [Aaf,Zt] at h;exact h.1
 have h2:es.all notStar=true:=by simp only [Aaf,Zt] at h;exact h.2
 intro pins s U H Q I h;refine Aax (pR I hg c.at_ ?_ hdb);refine Abq (h₀:=X.base) I.ok.mod.kin c.kp (eQ (ha.run pos pins s U H _ I h) fun us s1 ⟨vs,H1,I1,r,q⟩=>⟨I1.kIn,?_⟩) (bI h1) (lg h2);exact HB c F hr hx I1 r q⟩
theorem mK (hK:X.K=K) (he:JE X e ta) (h:autoParam (rR e=true) L2.auto4._auto_1):JE X (.Attribute e fn pos) (T6 K ta fn):=by
 subst hK;exact ⟨T8 he.run (by cases e <;> first | rfl | cases h)⟩
theorem iH (hK:X.K=K) (ha:JE X o ta) (hv:JE X value tv) (h:autoParam (jC value=true) L2.auto4._auto_1):JS X (.Assign [.Attribute o fn pos'] value pos) (T7 K ta tv fn):=by
 subst hK;exact ⟨T9 ha.run hv.run (yf h)⟩
end
section
variable {U:St} {H:Hp} {D:Ends} {Q:VK} {sp:Sp} {R:St->XK} {a:TA} {K:W.Frag} {C:Addr} {ta tv:TE} {f m:Str}
theorem bZ (h:ta U H fun x H1=>∃ b dx fs,x= .ref b/\H1 b=some (.ins C dx fs)/\fs.lookup m=none/\a U H1 fun vs H2=>sp (x :: vs) H2 Q (R U)):zb C m sp R ta a U H Q:=h
theorem b7 (h:a U H fun vs H1=>∀ x dx,H1 x=none->H1 dx=none->dx≠x->sp (.ref x :: vs) (upd (upd H1 dx (.own x)) x (.ins C dx [])) (fun v H2=>v= .non/\Q (.ref x) H2) (R U)):LQ C sp R a U H Q:=h
theorem iu (h:ta U H fun x H1=>∃ a C dx fs v,x= .ref a/\H1 a=some (.ins C dx fs)/\Cls K C/\NoAttr K C f/\fs.lookup f=some v/\Q v H1):T6 K ta f U H Q:=h
theorem dZ (h:tv U H fun y H1=>ta U H1 fun x H2=>∃ a C dx fs,x= .ref a/\H2 a=some (.ins C dx fs)/\Cls K C/\NoAttr K C f/\fs.length < 1000/\D.nx U (upd H2 a (.ins C dx (kY f y fs)))):T7 K ta tv f D U H:=h
end
section
variable {X:Cx} {mg:Str->Option Value} {o:Expr} {ta:TE} {t:TA} {x m:Str} {ps:List Str} {sp:Sp} {k:Nat} {R:St->XK} {e:Expr} {es:List Expr} {pos apos:Pos}
theorem Ay {pl:Sem Bool} (hmg:X.mg=mg) (he:JE X o ta) (c:sy X.K X.mg x) (F:oF X.prog X.w X.K X.mg X.base k x m ps sp) (hr:Room k X.A) (hx:kj X R) (ha:JA X (e :: es) t)
  (hs:autoParam ((e :: es).all notStar=true) L2.auto4._auto_1)
  (ht:eval (.Call (.Attribute o m apos) (e :: es) [] pos) X.env=(do
   let ov ← eval o X.env
   standAt apos.atName
   let (f,first) ← holding [ov] (getMethod ov m pl)
   callWith pos f first (backTo pos (starEach (e :: es) X.env)) (backToKw pos (keywordEach [] X.env))):=by rfl):
  JE X (.Call (.Attribute o m apos) (e :: es) [] pos) (zb (aP mg x) m sp R ta t):=by
 subst hmg;exact sE he c F hr hx ha hs ht
end
section
variable {U:St} {H:Hp} {Q:VK}
def Vs (o:HO) (n:Nat) (H:Hp) (Q:VK):Prop:=n<=sizeLine/\∀ p,H p=none->Q (.ref p) (upd H p o)
theorem lu {a:TA} (h:a U H fun xs H1=>Vs (.lst xs) xs.length H1 Q):O8 a U H Q:=h
theorem lw {a:TA} (h:a U H fun xs H1=>Vs (.tup xs) xs.length H1 Q):O7 a U H Q:=h
theorem fG {o:HO} {n:Nat} (c:Nat.ble n 64=true) (h:∀ p H',H p=none->Same H H'->H' p=some o->Q (.ref p) H'):Vs o n H Q:=
 ⟨ZP (Nat.le_of_ble_eq_true c) (by decide),fun p np=>h p _ np ((Same.refl H).upd np) aj⟩
end
section
variable {sub:List (Option Nat)} {g:TG} {tt:TT} {te:TE} {U:St} {Q:VK} {H:Hp} {K:W.Frag} {a:Addr} {xs:List V} {lo:Int} {n:Nat} {z:Str}
theorem yq (Pv:Nat->List V->Hp->Prop) (hn:n<=sizeLine) (h0:Pv 0 [] H) (hl:∀ i ys H,Pv i ys H->ys.length<=i)
  (hs:∀ i ys H,i < n->Pv i ys H->g (.int (lo+i)) (cX sub U) H fun σ2 H2=>KeepSt (cX sub U) σ2/\tt σ2 H2 fun b H3=>if b=true then te σ2 H3 fun y H4=>Pv (i+1) (ys ++ [y]) H4 else Pv (i+1) ys H3)
  (hd:∀ ys H D H',Pv n ys H->H D=none->Same H H'->H' D=some (.lst ys)->Q (.ref D) H'):rO sub g tt te U Q (Jb lo n) H:=
 mF Pv hn h0 hl hs fun ys H p D nD=>hd ys H D _ p nD ((Same.refl H).upd nD) aj
theorem wH (Pv:Nat->List V->Hp->Prop) (hn:xs.length<=sizeLine) (h0:Pv 0 [] H) (hl:∀ i ys H,Pv i ys H->ys.length<=i) (hq:∀ i ys H,Pv i ys H->SqL K H a xs)
  (hs:∀ i ys H x,xs[i]?=some x->Pv i ys H->g x (cX sub U) H fun σ2 H2=>KeepSt (cX sub U) σ2/\tt σ2 H2 fun b H3=>if b=true then te σ2 H3 fun y H4=>Pv (i+1) (ys ++ [y]) H4 else Pv (i+1) ys H3)
  (hd:∀ ys H D H',Pv xs.length ys H->H D=none->Same H H'->H' D=some (.lst ys)->Q (.ref D) H'):rO sub g tt te U Q (Rz K a) H:=
 t6 Pv hn h0 hl hq hs fun ys H p D nD=>hd ys H D _ p nD ((Same.refl H).upd nD) aj
theorem yr (Pv:Nat->List V->Hp->Prop) (hn:z.cps.size<=sizeLine) (h0:Pv 0 [] H) (hl:∀ i ys H,Pv i ys H->ys.length<=i)
  (hs:∀ i ys H c,z.cps.toList[i]?=some c->Pv i ys H->g (.str ⟨#[c]⟩) (cX sub U) H fun σ2 H2=>KeepSt (cX sub U) σ2/\tt σ2 H2 fun b H3=>if b=true then te σ2 H3 fun y H4=>Pv (i+1) (ys ++ [y]) H4 else Pv (i+1) ys H3)
  (hd:∀ ys H D H',Pv z.cps.size ys H->H D=none->Same H H'->H' D=some (.lst ys)->Q (.ref D) H'):rO sub g tt te U Q (Pn z) H:=
 Ah Pv hn h0 hl hs fun ys H p D nD=>hd ys H D _ p nD ((Same.refl H).upd nD) aj
theorem p6 {f:Nat->V} {i:Nat} {y:V} (h:y=f i):(List.range i).map f ++ [y]=(List.range (i+1)).map f:=by rw [h,Aah,Zg];rfl
theorem p7 (f:Nat->V) (hn:n<=sizeLine)
  (hs:∀ i,i < n->g (.int (lo+i)) (cX sub U) H fun σ2 H2=>KeepSt (cX sub U) σ2/\tt σ2 H2 fun b H3=>if b=true then te σ2 H3 fun y H4=>H4=H/\(List.range i).map f ++ [y]=(List.range (i+1)).map f else H3=H/\(List.range i).map f=(List.range (i+1)).map f)
  (hd:∀ D H',H D=none->Same H H'->H' D=some (.lst ((List.range n).map f))->Q (.ref D) H'):rO sub g tt te U Q (Jb lo n) H:=by
 refine yq (fun i ys H'=>H'=H/\ys=(List.range i).map f) hn ⟨rfl,rfl⟩ ?_ ?_ ?_
 ·rintro i ys H' ⟨_,rfl⟩
  simp
 ·rintro i ys H' hi ⟨rfl,rfl⟩
  exact hs i hi
 ·rintro ys H1 D H' ⟨rfl,rfl⟩ nD s e
  exact hd D H' nD s e
end
def Kr (rk:Keyed->Int) (xs:Array Keyed) (i:Nat):Int:=match xs[i]? with
 | some p=>rk p
 | none=>0
def Seg (rk:Keyed->Int) (xs:Array Keyed) (lo hi:Nat):Prop:=∀ i j,lo<=i->i<=j->j < hi->Kr rk xs i<=Kr rk xs j
def HD (rk:Keyed->Int) (xs:Array Keyed) (lo hi:Nat):Prop:=∀ i j,lo<=i->i<=j->j < hi->Kr rk xs j<=Kr rk xs i
structure SB (a₀:Array Keyed) (kd:SortKind) (st:SortSt):Prop where
 perm:(arrOf st).Perm a₀
 kind:kindOf st=kd
 failed:failedOf st=none
def sH (M:Model) (A:Around) (E:Value->Shared->Prop) (s:Shared) (kd:SortKind) (rk:Keyed->Int) (a₀:Array Keyed):Prop:=
 ∀ (p q:Keyed) (st:SortSt) (Q:Option Bool->SortSt->Prop),p∈a₀.toList->q∈a₀.toList->kindOf st=kd->Q (some (decide (rk p < rk q))) st->wpS M A E s (lt' p q) Q st
section
variable {M:Model} {A:Around} {E:Value->Shared->Prop} {s:Shared} {kd:SortKind} {rk:Keyed->Int} {a₀:Array Keyed}
theorem oZ {xs ys:Array Keyed} {i j:Nat} (h:xs[i]?=ys[j]?):Kr rk xs i=Kr rk ys j:=by unfold Kr;rw [h]
theorem cu {xs:Array Keyed} {i:Nat} {p:Keyed} (h:xs[i]?=some p):Kr rk xs i=rk p:=by unfold Kr;rw [h]
theorem SB.size {st:SortSt} (h:SB a₀ kd st):(arrOf st).size=a₀.size:=h.perm.size_eq
theorem SB.mem {st:SortSt} (h:SB a₀ kd st) {p:Keyed} (hp:p∈(arrOf st).toList):p∈a₀.toList:=(Array.perm_iff_toList_perm.mp h.perm).mem_iff.mp hp
theorem SB.at {st:SortSt} (h:SB a₀ kd st) {i:Nat} (hi:i < a₀.size):∃ p,(arrOf st)[i]?=some p/\p∈a₀.toList:=by
 have hi':i < (arrOf st).size:=by rw [h.size];exact hi
 exact ⟨(arrOf st)[i],Aat _ i hi',h.mem (by simp)⟩
theorem aW {U:Type} {xs:Array Keyed} {i:Nat} {p:Keyed} {Q:Keyed->SortSt->Prop} {st:SortSt} (h:xs[i]?=some p) (q:Q p st):wpS M A E s (elem' xs i) Q st:=by
 rw [elem'_eq,h];exact wpS_pure q
theorem sI {st:SortSt} {i j:Nat} {Q:Option Bool->SortSt->Prop} (L:sH M A E s kd rk a₀) (hB:SB a₀ kd st) (hi:i < a₀.size) (hj:j < a₀.size)
  (h:Q (some (decide (Kr rk (arrOf st) i < Kr rk (arrOf st) j))) st):wpS M A E s (ltAt' i j) Q st:=by
 obtain ⟨p,e1,m1⟩:=hB.at hi;obtain ⟨q,e2,m2⟩:=hB.at hj;rw [ltAt'_eq];refine wpS_bind (wpS_get ?_);refine wpS_bind (aW (U:=Unit) e1 (wpS_bind (aW (U:=Unit) e2 ?_)));rw [cu e1,cu e2] at h;exact L p q st Q m1 m2 hB.kind h
theorem p8 {xs:Array Keyed} {i j:Nat} (hj:j<=xs.size) (k:Nat):Kr rk (mirror xs i j ((j - i) / 2)) k=if i<=k/\k < j then Kr rk xs (i+j - 1 - k) else Kr rk xs k:=by
 have e:=getElem?_mirror_all (i:=i) hj k;by_cases h1:i<=k/\k < j
 ·rw [if_pos h1] at e ⊢;exact oZ e
 ·rw [if_neg h1] at e ⊢;exact oZ e
theorem eZ {xs:Array Keyed} {i j:Nat} (hj:j<=xs.size) (heq:∀ k,i<=k->k < j->Kr rk xs k=Kr rk xs (j - 1)) (k:Nat):Kr rk (mirror xs i j ((j - i) / 2)) k=Kr rk xs k:=by
 rw [p8 hj]
 split
 ·rw [heq _ (by omega) (by omega),heq k (by omega) (by omega)]
 ·rfl
theorem ue {xs:Array Keyed} {src d:Nat} (hs:src < xs.size) (hd:d<=src) (k:Nat):
  Kr rk (bubble xs src d) k=if k=src - d then Kr rk xs src else if src - d < k/\k<=src then Kr rk xs (k - 1) else Kr rk xs k:=by
 have e:=getElem?_bubble hs d hd k;by_cases h1:k=src - d
 ·rw [if_pos h1] at e ⊢;exact oZ e
 ·rw [if_neg h1] at e ⊢
  by_cases h2:src - d < k/\k<=src
  ·rw [if_pos h2] at e ⊢;exact oZ e
  ·rw [if_neg h2] at e ⊢;exact oZ e
structure Nx (a₀:Array Keyed) (kd:SortKind) (rk:Keyed->Int) (lo:Nat) (st st':SortSt):Prop where
 sb:SB a₀ kd st'
 fr:∀ k,k < lo->Kr rk (arrOf st') k=Kr rk (arrOf st) k
 pe:pendingOf st'=pendingOf st
theorem Nx.refl {lo:Nat} {st:SortSt} (h:SB a₀ kd st):Nx a₀ kd rk lo st st:=⟨h,fun _ _=>rfl,rfl⟩
theorem Nx.trans {lo:Nat} {st st' st'':SortSt} (h:Nx a₀ kd rk lo st st') (h':Nx a₀ kd rk lo st' st''):Nx a₀ kd rk lo st st'':=⟨h'.sb,fun k hk=>(h'.fr k hk).trans (h.fr k hk),h'.pe.trans h.pe⟩
theorem Nx.mir {lo i j:Nat} {st st':SortSt} (h:Nx a₀ kd rk lo st st') (hi:lo<=i) (hj:j<=a₀.size):Nx a₀ kd rk lo st (setArr st' (mirror (arrOf st') i j ((j - i) / 2))):=
 ⟨⟨(mirror_perm _ _ _ _).trans h.sb.perm,h.sb.kind,h.sb.failed⟩,fun k hk=>by
  show Kr rk (mirror (arrOf st') i j ((j - i) / 2)) k=_;rw [p8 (by rw [h.sb.size];exact hj),if_neg (by omega)];exact h.fr k hk,h.pe⟩
theorem Nx.bub {lo src d:Nat} {st st':SortSt} (h:Nx a₀ kd rk lo st st') (hs:src < a₀.size) (hd:d<=src) (hi:lo<=src - d):Nx a₀ kd rk lo st (setArr st' (bubble (arrOf st') src d)):=
 ⟨⟨(bubble_perm _ _ _).trans h.sb.perm,h.sb.kind,h.sb.failed⟩,fun k hk=>by
  show Kr rk (bubble (arrOf st') src d) k=_;rw [ue (by rw [h.sb.size];exact hs) hd,if_neg (by omega),if_neg (by omega)];exact h.fr k hk,h.pe⟩
theorem vC {st:SortSt} {i j:Nat} {Q:Unit->SortSt->Prop} (h:Q () (setArr st (mirror (arrOf st) i j ((j - i) / 2)))):wpS M A E s (reverseSlice' i j) Q st:=by
 rw [reverseSlice'_eq];exact Abk h
def LR (lo a nrem:Nat):StateT SortSt Sem AscSt:=
 forIn [a:nrem] ((none,a):AscSt) fun _ __s=>do
  let __x ← ltAt' (lo+__s.snd) (lo+__s.snd - 1)
  match __x with
  | some smaller=>if smaller=true then pure (ForInStep.done (none,__s.snd)) else pure (ForInStep.yield (none,__s.snd+1))
  | _=>pure (ForInStep.done (some none,__s.snd))
def wI (lo n nrem:Nat):StateT SortSt Sem (Option Nat):=do
 reverseSlice' lo (lo+n)
 let __s ← LR lo n nrem
 match __s.fst with
 | some r=>pure r
 | none=>pure (some __s.snd)
def Fi (lo n nrem:Nat):StateT SortSt Sem DescSt:=
 forIn [n:nrem] ((none,n,0):DescSt) fun _ __s=>do
  let __x ← ltAt' (lo+__s.snd.fst) (lo+__s.snd.fst - 1)
  match __x with
  | some smaller=>
   if smaller=true then
    if __s.snd.snd > 0 then do
     reverseSlice' (lo+__s.snd.fst - (__s.snd.snd+1)) (lo+__s.snd.fst)
     pure (ForInStep.yield (none,__s.snd.fst+1,0))
    else pure (ForInStep.yield (none,__s.snd.fst+1,0))
   else do
    let __x ← ltAt' (lo+__s.snd.fst - 1) (lo+__s.snd.fst)
    match __x with
    | some larger=>
     if larger=true then pure (ForInStep.done (none,__s.snd.fst,__s.snd.snd))
     else pure (ForInStep.yield (none,__s.snd.fst+1,__s.snd.snd+1))
    | _=>pure (ForInStep.done (some none,__s.snd.fst,__s.snd.snd))
  | _=>pure (ForInStep.done (some none,__s.snd.fst,__s.snd.snd))
def wK (lo n nrem:Nat):StateT SortSt Sem (Option Nat):=do
 liftM (rule "list.sort.descending-run")
 let __s ← Fi lo (n+1) nrem
 match __s.fst with
 | some r=>pure r
 | none=>
  if __s.snd.snd > 0 then do
   reverseSlice' (lo+__s.snd.fst - (__s.snd.snd+1)) (lo+__s.snd.fst)
   wI lo __s.snd.fst nrem
  else wI lo __s.snd.fst nrem
theorem HF (lo nrem:Nat):countRun' lo nrem=(do
  let __s ← LR lo 1 nrem
  match __s.fst with
  | some r=>pure r
  | none=>
   if (__s.snd == nrem)=true then pure (some __s.snd)
   else if __s.snd > 1 then do
    let __x ← ltAt' lo (lo+__s.snd - 1)
    match __x with
    | some rose=>if rose=true then pure (some __s.snd) else do
      reverseSlice' lo (lo+__s.snd)
      wK lo __s.snd nrem
    | _=>pure none
   else wK lo __s.snd nrem):=by
 rw [countRun'_eq];unfold wK wI Fi LR;dsimp only
 congr 1
 funext __s;obtain ⟨r,n⟩:=__s;cases r with
 | some r=>rfl
 | none=>
  dsimp only
  split
  ·rfl
  ·split
   ·congr 1
    funext x;cases x with
    | none=>rfl
    | some rose=>
     dsimp only
     split
     ·rfl
     ·congr 1
      funext _r
      congr 1
      funext _u
      congr 1
      congr 1
      funext s2;obtain ⟨r2,n2,q2⟩:=s2;cases r2 with
      | some r2=>rfl
      | none=>
       dsimp only
       split
       ·congr 1
        funext _v
        (congr 1;funext _w;congr 1;(funext s3;obtain ⟨r3,n3⟩:=s3;cases r3 <;> rfl))
       ·(congr 1;funext _w;congr 1;(funext s3;obtain ⟨r3,n3⟩:=s3;cases r3 <;> rfl))
   ·congr 1
    funext _u
    congr 1
    congr 1
    funext s2;obtain ⟨r2,n2,q2⟩:=s2;cases r2 with
    | some r2=>rfl
    | none=>
     dsimp only
     split
     ·congr 1
      funext _v
      (congr 1;funext _w;congr 1;(funext s3;obtain ⟨r3,n3⟩:=s3;cases r3 <;> rfl))
     ·(congr 1;funext _w;congr 1;(funext s3;obtain ⟨r3,n3⟩:=s3;cases r3 <;> rfl))
theorem Az {st:SortSt} {lo a nrem:Nat} {Q:AscSt->SortSt->Prop} (L:sH M A E s kd rk a₀) (hn:lo+nrem<=a₀.size) (ha:1<=a) (han:a<=nrem) (hB:SB a₀ kd st) (hs:Seg rk (arrOf st) lo (lo+a))
  (h:∀ n,a<=n->n<=nrem->Seg rk (arrOf st) lo (lo+n)->(n=nrem\/Kr rk (arrOf st) (lo+n) < Kr rk (arrOf st) (lo+n - 1))->Q (none,n) st):
  wpS M A E s (LR lo a nrem) Q st:=by
 unfold LR;refine Aao (I:=fun x c st'=>st'=st/\c=(none,x)/\Seg rk (arrOf st) lo (lo+x)) ?step ?fin ⟨rfl,rfl,hs⟩
 case fin=>
  rintro c st' ⟨rfl,rfl,hs'⟩;rw [show max a nrem=nrem by omega] at hs' ⊢;exact h nrem han (Y4 _) hs' (.inl rfl)
 case step=>
  rintro x c st' hax hxn ⟨rfl,rfl,hs'⟩;dsimp only;refine wpS_bind (sI L hB (by omega) (by omega) ?_);by_cases hless:Kr rk (arrOf st') (lo+x) < Kr rk (arrOf st') (lo+x - 1)
  ·simp only [hless,decide_true,if_true]
   exact wpS_pure (h x hax (by omega) hs' (.inr hless))
  ·simp only [hless,decide_false,Z4,if_false]
   refine wpS_pure ⟨rfl,rfl,fun i j hl hij hj=>?_⟩;by_cases hjx:j < lo+x
   ·exact hs' i j hl hij hjx
   ·have hj':j=lo+x:=by omega
    subst hj';by_cases hi':i=lo+x
    ·subst hi';exact Aa7 _
    ·exact Aak (hs' i (lo+x - 1) hl (by omega) (by omega)) (Int.not_lt.mp hless)
theorem wL {st:SortSt} {lo n nrem:Nat} {Q:Option Nat->SortSt->Prop} (L:sH M A E s kd rk a₀) (hn:lo+nrem<=a₀.size) (h1:1<=n) (hnn:n<=nrem) (hB:SB a₀ kd st)
  (hs:HD rk (arrOf st) lo (lo+n)) (h:∀ m st',Nx a₀ kd rk lo st st'->1<=m->m<=nrem->Seg rk (arrOf st') lo (lo+m)->Q (some m) st'):
  wpS M A E s (wI lo n nrem) Q st:=by
 unfold wI;have hsz:lo+n<=(arrOf st).size:=by rw [hB.size];omega
 refine wpS_bind (vC ?_);have hN:Nx a₀ kd rk lo st (setArr st (mirror (arrOf st) lo (lo+n) ((lo+n - lo) / 2))):=(Nx.refl hB).mir (Y4 _) (by omega);refine wpS_bind (Az L hn h1 hnn hN.sb ?_ fun m hm1 hm2 hsm _=>wpS_pure (h m _ hN (by omega) hm2 hsm));intro i j hl hij hj;show Kr rk (mirror (arrOf st) lo (lo+n) ((lo+n - lo) / 2)) i<=Kr rk (mirror (arrOf st) lo (lo+n) ((lo+n - lo) / 2)) j;rw [p8 hsz,p8 hsz,if_pos (by omega),if_pos (by omega)];exact hs _ _ (by omega) (by omega) (by omega)
theorem HH {st:SortSt} {lo n nrem:Nat} {Q:DescSt->SortSt->Prop} (L:sH M A E s kd rk a₀) (hn:lo+nrem<=a₀.size) (h1:1<=n) (hnn:n<=nrem) (hB:SB a₀ kd st)
  (hs:HD rk (arrOf st) lo (lo+n))
  (h:∀ m neq st',Nx a₀ kd rk lo st st'->n<=m->m<=nrem->HD rk (arrOf st') lo (lo+m)->neq+1<=m->(∀ i,lo+m - (neq+1)<=i->i < lo+m->Kr rk (arrOf st') i=Kr rk (arrOf st') (lo+m - 1))->Q (none,m,neq) st'):
  wpS M A E s (Fi lo n nrem) Q st:=by
 unfold Fi
 refine Aao (I:=fun x c st'=>∃ neq,c=(none,x,neq)/\Nx a₀ kd rk lo st st'/\HD rk (arrOf st') lo (lo+x)/\neq+1<=x/\
   (∀ i,lo+x - (neq+1)<=i->i < lo+x->Kr rk (arrOf st') i=Kr rk (arrOf st') (lo+x - 1))) ?step ?fin ⟨0,rfl,Nx.refl hB,hs,by omega,fun i h1 h2=>by congr 1;omega⟩
 case fin=>
  rintro c st' ⟨neq,rfl,hB',hs',hq,he⟩;rw [show max n nrem=nrem by omega] at hs' hq he ⊢;exact h nrem neq st' hB' hnn (Y4 _) hs' hq he
 case step=>
  rintro x c st' hax hxn ⟨neq,rfl,hB',hs',hq,he⟩;dsimp only;have hsz:lo+x<=(arrOf st').size:=by rw [hB'.sb.size];omega
  refine wpS_bind (sI L hB'.sb (by omega) (by omega) ?_);by_cases hless:Kr rk (arrOf st') (lo+x) < Kr rk (arrOf st') (lo+x - 1)
  ·simp only [hless,decide_true,if_true]
   have step1:∀ xs:Array Keyed,(∀ k,Kr rk xs k=Kr rk (arrOf st') k)->HD rk xs lo (lo+(x+1)):=by
    intro xs hk i j hl hij hj;rw [hk,hk];by_cases hjx:j < lo+x
    ·exact hs' i j hl hij hjx
    ·have hj':j=lo+x:=by omega
     subst hj';by_cases hi':i=lo+x
     ·subst hi';exact Aa7 _
     ·exact Aak (AbM hless) (hs' i (lo+x - 1) hl (by omega) (by omega))
   by_cases hneq:neq > 0
   ·rw [if_pos hneq]
    refine wpS_bind (vC (wpS_pure ⟨0,rfl,hB'.mir (by omega) (by omega),step1 _ (eZ hsz he),by omega,fun i h1 h2=>by congr 1;omega⟩))
   ·rw [if_neg hneq]
    exact wpS_pure ⟨0,rfl,hB',step1 _ (fun _=>rfl),by omega,fun i h1 h2=>by congr 1;omega⟩
  ·simp only [hless,decide_false,Z4,if_false]
   refine wpS_bind (sI L hB'.sb (by omega) (by omega) ?_);by_cases hlarger:Kr rk (arrOf st') (lo+x - 1) < Kr rk (arrOf st') (lo+x)
   ·simp only [hlarger,decide_true,if_true]
    exact wpS_pure (h x neq st' hB' hax (by omega) hs' hq he)
   ·simp only [hlarger,decide_false,Z4,if_false]
    have heqx:Kr rk (arrOf st') (lo+x)=Kr rk (arrOf st') (lo+x - 1):=by omega
    refine wpS_pure ⟨neq+1,rfl,hB',fun i j hl hij hj=>?_,by omega,fun i h1 h2=>?_⟩
    ·by_cases hjx:j < lo+x
     ·exact hs' i j hl hij hjx
     ·have hj':j=lo+x:=by omega
      subst hj';by_cases hi':i=lo+x
      ·subst hi';exact Aa7 _
      ·rw [heqx];exact hs' i (lo+x - 1) hl (by omega) (by omega)
    ·rw [show lo+(x+1) - 1=lo+x by omega]
     by_cases hix:i=lo+x
     ·subst hix;rfl
     ·rw [heqx];exact he i (by omega) (by omega)
theorem wM {st:SortSt} {lo n nrem:Nat} {Q:Option Nat->SortSt->Prop} (L:sH M A E s kd rk a₀) (hn:lo+nrem<=a₀.size) (hnn:n+1<=nrem) (hB:SB a₀ kd st)
  (hs:HD rk (arrOf st) lo (lo+(n+1))) (h:∀ m st',Nx a₀ kd rk lo st st'->1<=m->m<=nrem->Seg rk (arrOf st') lo (lo+m)->Q (some m) st'):
  wpS M A E s (wK lo n nrem) Q st:=by
 unfold wK;refine wpS_bind (wpS_lift (Abj ⟨rfl,?_⟩));refine wpS_bind (HH L hn (by omega) hnn hB hs fun m neq st' hB' hm1 hm2 hs' hq he=>?_);dsimp only;have hsz:lo+m<=(arrOf st').size:=by rw [hB'.sb.size];omega
 by_cases hneq:neq > 0
 ·rw [if_pos hneq]
  have N2:=hB'.mir (i:=lo+m - (neq+1)) (j:=lo+m) (by omega) (by omega);refine wpS_bind (vC (wL L hn (by omega) hm2 N2.sb ?_ fun m' st2 N a b c=>h m' st2 (N2.trans N) a b c));intro i j hl hij hj;show Kr rk (mirror (arrOf st') _ _ _) j<=Kr rk (mirror (arrOf st') _ _ _) i;rw [eZ hsz he,eZ hsz he];exact hs' i j hl hij hj
 ·rw [if_neg hneq]
  exact wL L hn (by omega) hm2 hB'.sb hs' fun m' st2 N a b c=>h m' st2 (hB'.trans N) a b c
theorem Dl {st:SortSt} {lo nrem:Nat} {Q:Option Nat->SortSt->Prop} (L:sH M A E s kd rk a₀) (hn:lo+nrem<=a₀.size) (h1:1<=nrem) (hB:SB a₀ kd st)
  (h:∀ m st',Nx a₀ kd rk lo st st'->1<=m->m<=nrem->Seg rk (arrOf st') lo (lo+m)->Q (some m) st'):
  wpS M A E s (countRun' lo nrem) Q st:=by
 rw [HF]
 have one:∀ xs:Array Keyed,Seg rk xs lo (lo+1):=fun xs i j hl hij hj=>by
  have:i=j:=by omega
  subst this;exact Aa7 _
 refine wpS_bind (Az L hn (Y4 1) h1 hB (one _) fun n hn1 hn2 hsn hor=>?_);dsimp only;by_cases hnn:n=nrem
 ·rw [if_pos (by simpa using hnn)]
  exact wpS_pure (h n st (Nx.refl hB) hn1 hn2 hsn)
 ·rw [if_neg (by simpa using hnn)]
  have hlt:Kr rk (arrOf st) (lo+n) < Kr rk (arrOf st) (lo+n - 1):=hor.resolve_left hnn;by_cases hgt:n > 1
  ·rw [if_pos hgt]
   refine wpS_bind (sI L hB (by omega) (by omega) ?_);by_cases hrose:Kr rk (arrOf st) lo < Kr rk (arrOf st) (lo+n - 1)
   ·simp only [hrose,decide_true,if_true]
    exact wpS_pure (h n st (Nx.refl hB) hn1 hn2 hsn)
   ·simp only [hrose,decide_false,Z4,if_false]
    have hsz:lo+n<=(arrOf st).size:=by rw [hB.size];omega
    have hall:∀ k,lo<=k->k < lo+n->Kr rk (arrOf st) k=Kr rk (arrOf st) (lo+n - 1):=by
     intro k h0 hk;have a1:=hsn lo k (by omega) h0 hk;have a2:=hsn k (lo+n - 1) h0 (by omega) (by omega);omega
    have N2:=(Nx.refl (rk:=rk) (lo:=lo) hB).mir (i:=lo) (j:=lo+n) (by omega) (by omega);refine wpS_bind (vC (wM L hn (by omega) N2.sb ?_ fun m' st2 N a b c=>h m' st2 (N2.trans N) a b c));intro i j hl hij hj;show Kr rk (mirror (arrOf st) _ _ _) j<=Kr rk (mirror (arrOf st) _ _ _) i;rw [eZ hsz hall,eZ hsz hall];by_cases hjn:j < lo+n
    ·rw [hall i hl (by omega),hall j (by omega) hjn];exact Aa7 _
    ·have hj':j=lo+n:=by omega
     subst hj';by_cases hi':i=lo+n
     ·subst hi';exact Aa7 _
     ·rw [hall i hl (by omega)];exact AbM hlt
  ·rw [if_neg hgt]
   have hn1':n=1:=by omega
   subst hn1';refine wM L hn (by omega) hB ?_ h;intro i j hl hij hj;by_cases hi':i=j
   ·subst hi';exact Aa7 _
   ·have hi0:i=lo:=by omega
    have hj1:j=lo+1:=by omega
    subst hi0;subst hj1;exact AbM hlt
theorem Ma {st:SortSt} {lo n ok:Nat} {Q:Bool->SortSt->Prop} (L:sH M A E s kd rk a₀) (hn:lo+n<=a₀.size) (hok:ok<=n) (hB:SB a₀ kd st) (hs:Seg rk (arrOf st) lo (lo+ok))
  (h:∀ st',Nx a₀ kd rk lo st st'->Seg rk (arrOf st') lo (lo+n)->Q true st'):wpS M A E s (binarySort' lo n ok) Q st:=by
 rw [binarySort'_eq]
 refine wpS_bind (wpS_mono (Aao (I:=fun k c st'=>c=(none,())/\Nx a₀ kd rk lo st st'/\Seg rk (arrOf st') lo (lo+min k n))
  (Q:=fun c st'=>c=(none,())/\Nx a₀ kd rk lo st st'/\Seg rk (arrOf st') lo (lo+n)) ?step ?fin ?init) ?post)
 case post=>
  rintro c st' ⟨rfl,hB',hs'⟩;exact wpS_pure (h st' hB' hs')
 case init=>
  refine ⟨rfl,Nx.refl hB,fun i j hl hij hj=>?_⟩;by_cases h1:ok=0
  ·have:i=j:=by omega
   subst this;exact Aa7 _
  ·exact hs i j hl hij (by omega)
 case fin=>
  rintro c st' ⟨hc,hB',hs'⟩;refine ⟨hc,hB',?_⟩;rwa [show min (max (max ok 1) n) n=n by omega] at hs'
 case step=>
  rintro k c st' hak hkn ⟨rfl,hB',hs'⟩;rw [show min k n=k by omega] at hs';have hk:lo+k < a₀.size:=by omega
  refine wpS_bind (wpS_mono (Aao (I:=fun x c st''=>st''=st'/\∃ l r,c=(none,l,r)/\l<=r/\r<=k/\r - l<=k - x/\
    (∀ i,i < l->Kr rk (arrOf st') (lo+i)<=Kr rk (arrOf st') (lo+k))/\(∀ i,r<=i->i < k->Kr rk (arrOf st') (lo+k) < Kr rk (arrOf st') (lo+i)))
   (Q:=fun c st''=>st''=st'/\∃ l r,c=(none,l,r)/\l<=k/\
    (∀ i,i < l->Kr rk (arrOf st') (lo+i)<=Kr rk (arrOf st') (lo+k))/\(∀ i,l<=i->i < k->Kr rk (arrOf st') (lo+k) < Kr rk (arrOf st') (lo+i))) ?istep ?ifin ?iinit) ?ipost)
  case iinit=>exact ⟨rfl,0,k,rfl,by omega,by omega,by omega,fun i hi=>by omega,fun i h1 h2=>by omega⟩
  case ifin=>
   rintro c st'' ⟨rfl,l,r,rfl,hlr,hrk,hm,hlo,hhi⟩;have:l=r:=by omega
   subst this;exact ⟨rfl,l,l,rfl,hrk,hlo,hhi⟩
  case istep=>
   rintro x c st'' _ hxk ⟨rfl,l,r,rfl,hlr,hrk,hm,hlo,hhi⟩;dsimp only;by_cases hge:l>=r
   ·rw [if_pos hge]
    have:l=r:=by omega
    subst this;exact wpS_pure ⟨rfl,l,l,rfl,hrk,hlo,hhi⟩
   ·rw [if_neg hge]
    refine wpS_bind (sI L hB'.sb hk (by omega) ?_);by_cases hless:Kr rk (arrOf st'') (lo+k) < Kr rk (arrOf st'') (lo+(l+r) / 2)
    ·simp only [hless,decide_true,if_true]
     refine wpS_pure ⟨rfl,l,(l+r) / 2,rfl,by omega,by omega,by omega,hlo,fun i h1 h2=>?_⟩;exact Int.lt_of_lt_of_le hless (hs' _ _ (by omega) (by omega) (by omega))
    ·simp only [hless,decide_false,Z4,if_false]
     refine wpS_pure ⟨rfl,(l+r) / 2+1,r,rfl,by omega,by omega,by omega,fun i h1=>?_,hhi⟩;exact Aak (hs' (lo+i) (lo+(l+r) / 2) (by omega) (by omega) (by omega)) (Int.not_lt.mp hless)
  case ipost=>
   rintro c st'' ⟨rfl,l,r,rfl,hlk,hlo,hhi⟩;show wpS _ _ _ _ (do moveDown' (lo+k) (lo+l);pure (ForInStep.yield (none,()))) _ _;rw [moveDown'_eq];refine wpS_bind (Abk (wpS_pure ⟨rfl,hB'.bub hk (by omega) (by omega),?_⟩));rw [show min (k+1) n=k+1 by omega];have hks:lo+k < (arrOf st'').size:=by rw [hB'.sb.size];exact hk
   intro i j hl hij hj;obtain ⟨i,rfl⟩:∃ i',i=lo+i':=⟨i - lo,by omega⟩;obtain ⟨j,rfl⟩:∃ j',j=lo+j':=⟨j - lo,by omega⟩;show Kr rk (bubble (arrOf st'') (lo+k) (lo+k - (lo+l))) (lo+i)<=Kr rk (bubble (arrOf st'') (lo+k) (lo+k - (lo+l))) (lo+j);rw [ue hks (by omega),ue hks (by omega),show lo+k - (lo+k - (lo+l))=lo+l by omega]
   repeat' split
   all_goals first
    | (exfalso;omega)
    | exact Aa7 _
    | exact hlo _ (by omega)
    | exact AbM (by rw [show lo+j - 1=lo+(j - 1) by omega];exact hhi _ (by omega) (by omega))
    | exact hs' _ _ (by omega) (by omega) (by omega)
end
def Qt:Bool->Keyed->Array Keyed->Nat->Nat->Nat->StateT SortSt Sem (Option Nat):=sortPriv% PySem.Builtin.gallop
def Wo (left:Bool) (key:Keyed) (arr:Array Keyed) (base i:Nat):StateT SortSt Sem (Option Bool):=do
  let x ← elem' arr (base+i)
  if left then lt' x key else return (← lt' key x).map (!·)
section
variable {M:Model} {A:Around} {E:Value->Shared->Prop} {s:Shared} {kd:SortKind} {rk:Keyed->Int} {a₀:Array Keyed}
def HJ (left:Bool) (key:Keyed) (arr:Array Keyed) (base n lo hi:Nat):StateT SortSt Sem (Option Nat):=do
 let __s ← forIn [:n] ((none,lo,hi):Option (Option Nat)×Nat×Nat) fun x __s=>
   if __s.snd.fst>=__s.snd.snd then pure (ForInStep.done (none,__s.snd.fst,__s.snd.snd))
   else do
    let __x ← Wo left key arr base (__s.snd.fst+(__s.snd.snd - __s.snd.fst) / 2)
    match __x with
     | some more=>
      if more=true then
       pure (ForInStep.yield (none,__s.snd.fst+(__s.snd.snd - __s.snd.fst) / 2+1,__s.snd.snd))
      else pure (ForInStep.yield (none,__s.snd.fst,__s.snd.fst+(__s.snd.snd - __s.snd.fst) / 2))
     | x=>pure (ForInStep.done (some none,__s.snd.fst,__s.snd.snd))
 match __s.fst with
  | some r=>pure r
  | none=>pure (some __s.snd.snd)
theorem Ba {left:Bool} {key:Keyed} {arr:Array Keyed} {base n lo hi:Nat} {st:SortSt} {Q:Option Nat->SortSt->Prop} (P:Nat->Bool)
  (hP:∀ i (R:Option Bool->SortSt->Prop),i < n->R (some (P i)) st->wpS M A E s (Wo left key arr base i) R st) (hm:∀ i j,i<=j->j < n->P j=true->P i=true)
  (h1:lo<=hi) (h2:hi<=n) (hlo:∀ i,i < lo->P i=true) (hhi:∀ i,hi<=i->i < n->P i=false)
  (h:∀ k,k<=n->(∀ i,i < k->P i=true)->(∀ i,k<=i->i < n->P i=false)->Q (some k) st):wpS M A E s (HJ left key arr base n lo hi) Q st:=by
 unfold HJ
 refine wpS_bind (wpS_mono (Aao (I:=fun x c st'=>st'=st/\∃ l r,c=(none,l,r)/\l<=r/\r<=n/\r - l<=n - x/\(∀ i,i < l->P i=true)/\(∀ i,r<=i->i < n->P i=false))
   (Q:=fun c st'=>st'=st/\∃ l,c=(none,l,l)/\l<=n/\(∀ i,i < l->P i=true)/\(∀ i,l<=i->i < n->P i=false)) ?step ?fin ⟨rfl,lo,hi,rfl,h1,h2,by omega,hlo,hhi⟩) ?post)
 case fin=>
  rintro c st' ⟨rfl,l,r,rfl,a,b,d,e,f⟩;obtain rfl:l=r:=by omega
  exact ⟨rfl,l,rfl,b,e,f⟩
 case post=>
  rintro c st' ⟨rfl,l,rfl,b,e,f⟩;exact wpS_pure (h l b e f)
 case step=>
  rintro x c st' _ hx ⟨rfl,l,r,rfl,a,b,d,e,f⟩;dsimp only;by_cases hge:l>=r
  ·rw [if_pos hge]
   obtain rfl:l=r:=by omega
   exact wpS_pure ⟨rfl,l,rfl,b,e,f⟩
  ·rw [if_neg hge]
   refine wpS_bind (hP _ _ (by omega) ?_);dsimp only;by_cases hb:P (l+(r - l) / 2)=true
   ·rw [if_pos hb]
    exact wpS_pure ⟨rfl,_,_,rfl,by omega,b,by omega,fun i hi=>hm i _ (by omega) (by omega) hb,f⟩
   ·rw [if_neg hb]
    refine wpS_pure ⟨rfl,_,_,rfl,by omega,by omega,by omega,e,fun i h3 h4=>?_⟩;cases hq:P i with
    | false=>rfl
    | true=>exact absurd (hm _ _ h3 h4 hq) hb
theorem fQ {left:Bool} {key:Keyed} {arr:Array Keyed} {base n hint:Nat} {st:SortSt} {Q:Option Nat->SortSt->Prop} (P:Nat->Bool) (hh:hint < n)
  (hP:∀ i (R:Option Bool->SortSt->Prop),i < n->R (some (P i)) st->wpS M A E s (Wo left key arr base i) R st) (hm:∀ i j,i<=j->j < n->P j=true->P i=true)
  (h:∀ k,k<=n->(∀ i,i < k->P i=true)->(∀ i,k<=i->i < n->P i=false)->Q (some k) st):wpS M A E s (Qt left key arr base n hint) Q st:=by
 refine wpS_bind (m:=Wo left key arr base hint) (hP hint _ hh ?_);dsimp only;by_cases hr:P hint=true
 ·rw [if_pos hr]
  refine wpS_bind (wpS_mono (Aao (I:=fun x c st'=>st'=st/\∃ la of,c=(none,la,of)/\la < of/\hint+la < n/\P (hint+la)=true/\x+1<=of)
    (Q:=fun c st'=>st'=st/\∃ la of,c=(none,la,of)/\la < of/\hint+la < n/\P (hint+la)=true/\(n - hint<=of\/(hint+of < n/\P (hint+of)=false))) ?step ?fin ⟨rfl,0,1,rfl,by omega,by omega,hr,by omega⟩) ?post)
  case fin=>
   rintro c st' ⟨rfl,la,of,rfl,a,b,d,e⟩;exact ⟨rfl,la,of,rfl,a,b,d,.inl (by omega)⟩
  case step=>
   rintro x c st' _ hx ⟨rfl,la,of,rfl,a,b,d,e⟩;dsimp only;by_cases hge:of>=n - hint
   ·rw [if_pos hge]
    exact wpS_pure ⟨rfl,la,of,rfl,a,b,d,.inl hge⟩
   ·rw [if_neg hge]
    refine wpS_bind (hP _ _ (by omega) ?_);dsimp only;cases hq:P (hint+of) with
    | false=>
     rw [if_pos (by decide)];exact wpS_pure ⟨rfl,la,of,rfl,a,b,d,.inr ⟨by omega,hq⟩⟩
    | true=>
     rw [if_neg (by decide)];exact wpS_pure ⟨rfl,of,2*of+1,rfl,by omega,by omega,hq,by omega⟩
  case post=>
   rintro c st' ⟨rfl,la,of,rfl,a,b,d,e⟩;dsimp only;refine Eq.mpr (congrArg (fun m=>wpS M A E s m Q st') (?eq:_=HJ left key arr base n (hint+la+1) (hint+min of (n - hint)))) ?_
   case eq=>
    unfold HJ
    congr 1
    funext c;obtain ⟨r,l,h⟩:=c;cases r <;> rfl
   refine Ba P hP hm (by omega) (by omega) (fun i hi=>hm i _ (by omega) b d) (fun i h3 h4=>?_) h;rcases e with e | ⟨e1,e2⟩
   ·omega
   ·cases hq:P i with
    | false=>rfl
    | true=>
     have:=hm (hint+of) i (by omega) h4 hq;rw [this] at e2;cases e2
 ·rw [if_neg hr]
  have hr':P hint=false:=by simpa using hr
  refine wpS_bind (wpS_mono (Aao (I:=fun x c st'=>st'=st/\∃ la of,c=(none,la,of)/\la < of/\la<=hint/\P (hint - la)=false/\x+1<=of)
    (Q:=fun c st'=>st'=st/\∃ la of,c=(none,la,of)/\la < of/\la<=hint/\P (hint - la)=false/\(hint+1<=of\/(of<=hint/\P (hint - of)=true))) ?step2 ?fin2 ⟨rfl,0,1,rfl,by omega,by omega,hr',by omega⟩) ?post2)
  case fin2=>
   rintro c st' ⟨rfl,la,of,rfl,a,b,d,e⟩;exact ⟨rfl,la,of,rfl,a,b,d,.inl (by omega)⟩
  case step2=>
   rintro x c st' _ hx ⟨rfl,la,of,rfl,a,b,d,e⟩;dsimp only;by_cases hge:of>=hint+1
   ·rw [if_pos hge]
    exact wpS_pure ⟨rfl,la,of,rfl,a,b,d,.inl hge⟩
   ·rw [if_neg hge]
    refine wpS_bind (hP _ _ (by omega) ?_);dsimp only;by_cases hq:P (hint - of)=true
    ·rw [if_pos hq]
     exact wpS_pure ⟨rfl,la,of,rfl,a,b,d,.inr ⟨by omega,hq⟩⟩
    ·rw [if_neg hq]
     exact wpS_pure ⟨rfl,of,2*of+1,rfl,by omega,by omega,by simpa using hq,by omega⟩
  case post2=>
   rintro c st' ⟨rfl,la,of,rfl,a,b,d,e⟩;dsimp only;refine Eq.mpr (congrArg (fun m=>wpS M A E s m Q st') (?eq:_=HJ left key arr base n (hint+1 - min of (hint+1)) (hint - la))) ?_
   case eq=>
    unfold HJ
    congr 1
    funext c;obtain ⟨r,l,h⟩:=c;cases r <;> rfl
   refine Ba P hP hm (by omega) (by omega) (fun i hi=>?_) (fun i h3 h4=>?_) h
   ·rcases e with e | ⟨e1,e2⟩
    ·omega
    ·exact hm i _ (by omega) (by omega) e2
   ·cases hq:P i with
    | false=>rfl
    | true=>
     have:=hm (hint - la) i (by omega) h4 hq;rw [this] at d;cases d
theorem kE {left:Bool} {key:Keyed} {arr:Array Keyed} {base i:Nat} {st:SortSt} {R:Option Bool->SortSt->Prop} (L:sH M A E s kd rk a₀) (hk:key∈a₀.toList) (ha:∀ p∈arr.toList,p∈a₀.toList) (hi:base+i < arr.size) (kind:kindOf st=kd)
  (h:R (some (if left=true then decide (Kr rk arr (base+i) < rk key) else decide (Kr rk arr (base+i)<=rk key))) st):wpS M A E s (Wo left key arr base i) R st:=by
 unfold Wo;have e:arr[base+i]?=some arr[base+i]:=Aat arr (base+i) hi;have hm:arr[base+i]∈a₀.toList:=ha _ (by simp);rw [cu e] at h;refine wpS_bind (aW (U:=Unit) e ?_);cases left with
 | true=>
  simp only [if_true] at h ⊢;exact L _ _ st R hm hk kind h
 | false=>
  simp only [Z4,if_false] at h ⊢;refine wpS_bind (L _ _ st _ hk hm kind (wpS_pure ?_))
  have:(some (decide (rk key < rk arr[base+i]))).map (fun x=>!x)=some (decide (rk arr[base+i]<=rk key)):=by
   show some (!decide (rk key < rk arr[base+i]))=_
   congr 1
   rw [← decide_not];exact decide_eq_decide.mpr (by omega)
  rw [this];exact h
end
def R7:Nat->StateT SortSt Sem Unit:=sortPriv% PySem.Builtin.setMinGallop
theorem Mf (g:Nat):R7 g=modify fun s=>SortSt.mk' (kindOf s) (arrOf s) (pendingOf s) g (failedOf s):=rfl
def Mg:Array Keyed->Array Keyed->StateT SortSt Sem (Array Keyed):=sortPriv% PySem.Builtin.mergeLo
def Mh:Array Keyed->Array Keyed->StateT SortSt Sem (Array Keyed):=sortPriv% PySem.Builtin.mergeHi
section
variable {M:Model} {A:Around} {E:Value->Shared->Prop} {s:Shared} {kd:SortKind} {rk:Keyed->Int} {a₀:Array Keyed}
abbrev qd (rk:Keyed->Int) (l:List Keyed):Prop:=l.Pairwise fun p q=>rk p<=rk q
structure Sm (st st':SortSt):Prop where
 arr:arrOf st'=arrOf st
 kind:kindOf st'=kindOf st
 failed:failedOf st'=failedOf st
 pend:pendingOf st'=pendingOf st
theorem Sm.refl (st:SortSt):Sm st st:=⟨rfl,rfl,rfl,rfl⟩
theorem Sm.trans {a b c:SortSt} (h:Sm a b) (h':Sm b c):Sm a c:=⟨h'.arr.trans h.arr,h'.kind.trans h.kind,h'.failed.trans h.failed,h'.pend.trans h.pend⟩
theorem sO {st st0:SortSt} {g:Nat} {Q:Unit->SortSt->Prop} (h0:Sm st0 st) (h:∀ st',Sm st0 st'->Q () st'):wpS M A E s (R7 g) Q st:=by
 rw [Mf];exact Abk (h _ (h0.trans ⟨rfl,rfl,rfl,rfl⟩))
structure MI (rk:Keyed->Int) (a b out:Array Keyed) (ia ib:Nat):Prop where
 ha:ia<=a.size
 hb:ib<=b.size
 so:qd rk out.toList
 le:∀ p∈out.toList,∀ q∈a.toList.drop ia ++ b.toList.drop ib,rk p<=rk q
 pm:(out.toList ++ (a.toList.drop ia ++ b.toList.drop ib)).Perm (a.toList ++ b.toList)
def Res (rk:Keyed->Int) (a b r:Array Keyed):Prop:=qd rk r.toList/\r.toList.Perm (a.toList ++ b.toList)
theorem m6 {α:Type} (l:List α) (i k:Nat):l.drop i=(l.drop i).take k ++ l.drop (i+k):=by
 have e:l.drop (i+k)=(l.drop i).drop k:=by rw [List.drop_drop]
 rw [e,Aba]
theorem ext_toList (a:Array Keyed) (i k:Nat):(a.extract i (i+k)).toList=(a.toList.drop i).take k:=by
 rw [Array.toList_extract,List.extract_eq_drop_take]
 congr 1
 omega
theorem MI.takeA {a b out:Array Keyed} {ia ib:Nat} (h:MI rk a b out ia ib) (Sa:qd rk a.toList) (k:Nat) (hk:ia+k<=a.size) (hc:∀ p∈(a.toList.drop ia).take k,∀ q∈b.toList.drop ib,rk p<=rk q):MI rk a b (out ++ a.extract ia (ia+k)) (ia+k) ib:=by
 have e:=m6 a.toList ia k;have Sd:qd rk (a.toList.drop ia):=Sa.sublist (AaZ _ _);rw [e] at Sd;obtain ⟨s1,s2,s3⟩:=Zy.mp Sd;have tl:(out ++ a.extract ia (ia+k)).toList=out.toList ++ (a.toList.drop ia).take k:=by rw [ZJ,ext_toList]
 refine ⟨hk,h.hb,?_,?_,?_⟩
 ·rw [tl]
  exact Zy.mpr ⟨h.so,s1,fun p hp q hq=>h.le p hp q (Zw _ (Aaz hq))⟩
 ·rw [tl]
  intro p hp q hq;rcases Zh.mp hp with hp | hp
  ·refine h.le p hp q ?_
   rcases Zh.mp hq with hq | hq
   ·exact Zw _ (by rw [e];exact Zf _ hq)
   ·exact Zf _ hq
  ·rcases Zh.mp hq with hq | hq
   ·exact s3 p hp q hq
   ·exact hc p hp q hq
 ·rw [tl]
  refine List.Perm.trans (List.Perm.of_eq ?_) h.pm
  conv=>rhs;rw [e]
  simp only [ZM]
theorem MI.takeB {a b out:Array Keyed} {ia ib:Nat} (h:MI rk a b out ia ib) (Sb:qd rk b.toList) (k:Nat) (hk:ib+k<=b.size) (hc:∀ p∈(b.toList.drop ib).take k,∀ q∈a.toList.drop ia,rk p<=rk q):MI rk a b (out ++ b.extract ib (ib+k)) ia (ib+k):=by
 have e:=m6 b.toList ib k;have Sd:qd rk (b.toList.drop ib):=Sb.sublist (AaZ _ _);rw [e] at Sd;obtain ⟨s1,s2,s3⟩:=Zy.mp Sd;have tl:(out ++ b.extract ib (ib+k)).toList=out.toList ++ (b.toList.drop ib).take k:=by rw [ZJ,ext_toList]
 refine ⟨h.ha,hk,?_,?_,?_⟩
 ·rw [tl]
  exact Zy.mpr ⟨h.so,s1,fun p hp q hq=>h.le p hp q (Zf _ (Aaz hq))⟩
 ·rw [tl]
  intro p hp q hq;rcases Zh.mp hp with hp | hp
  ·refine h.le p hp q ?_
   rcases Zh.mp hq with hq | hq
   ·exact Zw _ hq
   ·exact Zf _ (by rw [e];exact Zf _ hq)
  ·rcases Zh.mp hq with hq | hq
   ·exact hc p hp q hq
   ·exact s3 p hp q hq
 ·rw [tl]
  refine List.Perm.trans ?_ h.pm
  conv=>rhs;rw [e]
  rw [ZM];refine AaE _ ?_;rw [← ZM,← ZM];exact Aa4 _ Abz
theorem wN {out a:Array Keyed} {i:Nat} {p:Keyed} (h:a[i]?=some p):out.push p=out ++ a.extract i (i+1):=by
 apply Array.ext';rw [ZJ,ext_toList,AbC]
 congr 1
 obtain ⟨hi,e⟩:=Zk.mp h;rw [ZW (by simpa using hi)];simp [e]
theorem take1 {a:Array Keyed} {i:Nat} {p q:Keyed} (h:a[i]?=some p) (hq:q∈(a.toList.drop i).take 1):q=p:=by
 obtain ⟨hi,e⟩:=Zk.mp h;rw [ZW (by simpa using hi)] at hq;simpa [e] using hq
theorem iI {a:Array Keyed} {i:Nat} {p q:Keyed} (Sa:qd rk a.toList) (h:a[i]?=some p) (hq:q∈a.toList.drop i):rk p<=rk q:=by
 obtain ⟨hi,e⟩:=Zk.mp h;have Sd:qd rk (a.toList.drop i):=Sa.sublist (AaZ _ _);rw [ZW (by simpa using hi)] at Sd hq;rcases Zb.mp hq with rfl | hq
 ·simp [e]
 ·have:=(List.pairwise_cons.mp Sd).1 q hq
  simpa [e] using this
theorem zc {a:Array Keyed} {i:Nat} {q:Keyed} (hq:q∈a.toList.drop i):∃ j,i<=j/\j < a.size/\a[j]?=some q:=by
 obtain ⟨k,hk,e⟩:=ZQ.mp hq;have hk':i+k < a.size:=by simp at hk;omega
 refine ⟨i+k,by omega,hk',?_⟩;rw [Aat a (i+k) hk',← e];simp
theorem vD {a:Array Keyed} {i k:Nat} {q:Keyed} (hq:q∈(a.toList.drop i).take k):∃ j,j < k/\a[i+j]?=some q:=by
 obtain ⟨j,hj,e⟩:=ZQ.mp hq;have hj':j < k/\i+j < a.size:=by simp at hj;omega
 refine ⟨j,hj'.1,?_⟩;rw [Aat a (i+j) hj'.2,← e];simp
theorem MI.pushA {a b out:Array Keyed} {ia ib:Nat} {p:Keyed} (h:MI rk a b out ia ib) (Sa:qd rk a.toList) (e:a[ia]?=some p) (hc:∀ q∈b.toList.drop ib,rk p<=rk q):MI rk a b (out.push p) (ia+1) ib:=by
 rw [wN e];exact h.takeA Sa 1 (by have:=(Zk.mp e).1;omega) fun q hq r hr=>by rw [take1 e hq];exact hc r hr
theorem MI.pushB {a b out:Array Keyed} {ia ib:Nat} {p:Keyed} (h:MI rk a b out ia ib) (Sb:qd rk b.toList) (e:b[ib]?=some p) (hc:∀ q∈a.toList.drop ia,rk p<=rk q):MI rk a b (out.push p) ia (ib+1):=by
 rw [wN e];exact h.takeB Sb 1 (by have:=(Zk.mp e).1;omega) fun q hq r hr=>by rw [take1 e hq];exact hc r hr
theorem qe (a:Array Keyed) (i:Nat):(a.extract i a.size).toList=a.toList.drop i:=by
 rw [Array.toList_extract,List.extract_eq_drop_take,ZC (by simp)]
theorem MI.doneB {a b out:Array Keyed} {ia ib:Nat} (h:MI rk a b out ia ib) (Sa:qd rk a.toList) (e:ib=b.size):Res rk a b (out ++ a.extract ia a.size ++ b.extract ib b.size):=by
 have hd:b.toList.drop ib=[]:=Aa3 (by simp [e]);unfold Res;rw [ZJ,ZJ,qe,qe,hd,Z5];have hp:=h.pm;rw [hd,Z5] at hp;exact ⟨Zy.mpr ⟨h.so,Sa.sublist (AaZ _ _),fun p hp q hq=>h.le p hp q (Zw _ hq)⟩,hp⟩
theorem MI.doneA {a b out:Array Keyed} {ia ib:Nat} (h:MI rk a b out ia ib) (Sb:qd rk b.toList) (e:ia=a.size):Res rk a b (out ++ a.extract ia a.size ++ b.extract ib b.size):=by
 have hd:a.toList.drop ia=[]:=Aa3 (by simp [e]);unfold Res;rw [ZJ,ZJ,qe,qe,hd,Z5];have hp:=h.pm;rw [hd,List.nil_append] at hp;exact ⟨Zy.mpr ⟨h.so,Sb.sublist (AaZ _ _),fun p hp q hq=>h.le p hp q (Zf _ hq)⟩,hp⟩
theorem MI.lastA {a b out:Array Keyed} {ia ib:Nat} (h:MI rk a b out ia ib) (Sb:qd rk b.toList) (e:ia+1=a.size) (hl:∀ p,a[a.size - 1]?=some p->∀ q∈b.toList,rk q<=rk p):Res rk a b (out ++ b.extract ib b.size ++ a.extract ia a.size):=by
 unfold Res;rw [ZJ,ZJ,qe,qe];have hi:ia < a.size:=by omega
 have ea:a.toList.drop ia=[a[ia]]:=by
  rw [ZW (by simpa using hi),Aa3 (by simp;omega)];simp
 refine ⟨?_,?_⟩
 ·refine Zy.mpr ⟨Zy.mpr ⟨h.so,Sb.sublist (AaZ _ _),fun p hp q hq=>h.le p hp q (Zf _ hq)⟩,by rw [ea];exact Aa0 _ _,fun p hp q hq=>?_⟩
  rcases Zh.mp hp with hp | hp
  ·exact h.le p hp q (Zw _ hq)
  ·rw [ea] at hq
   rw [ZD.mp hq];refine hl _ ?_ p (Abh hp);rw [show a.size - 1=ia by omega];exact Aat a ia hi
 ·refine List.Perm.trans ?_ h.pm
  rw [ZM];exact AaE _ Abz
end
end L2
set_option maxHeartbeats 8000000
namespace L2
open PySem PySem.Spec PyProof.Rows
section
variable {M:Model} {A:Around} {E:Value->Shared->Prop} {s:Shared} {kd:SortKind} {rk:Keyed->Int} {a₀:Array Keyed}
theorem aM {U α:Type} {c:Prop} [Decidable c] {x y:StateT U Sem α} {Q:α->U->Prop} {st:U} (h1:c->wpS M A E s x Q st) (h2:¬ c->wpS M A E s y Q st):wpS M A E s (if c then x else y) Q st:=by
 split
 ·exact h1 ‹_›
 ·exact h2 ‹_›
def Go (rk:Keyed->Int) (a b:Array Keyed) (n:Nat) (r:Option (Array Keyed)) (out:Array Keyed) (ia ib:Nat):Prop:=(∃ x,r=some x/\Res rk a b x)\/(r=none/\MI rk a b out ia ib/\ib < b.size/\ia+1 < a.size/\n<=ia+ib)
theorem Bb {a b:Array Keyed} {st:SortSt} {Q:Array Keyed->SortSt->Prop} (L:sH M A E s kd rk a₀) (ha:∀ p∈a.toList,p∈a₀.toList) (hb:∀ p∈b.toList,p∈a₀.toList) (Sa:qd rk a.toList) (Sb:qd rk b.toList)
  (n1:1<=a.size) (n2:1<=b.size) (hf:∀ p,b[0]?=some p->∀ q∈a.toList,rk p<=rk q) (hl:∀ p,a[a.size - 1]?=some p->∀ q∈b.toList,rk q<=rk p) (kind:kindOf st=kd)
  (h:∀ r st',Sm st st'->Res rk a b r->Q r st'):wpS M A E s (Mg a b) Q st:=by
 have atA:∀ {i:Nat},i < a.size->∃ p,a[i]?=some p/\p∈a₀.toList:=fun {i} hi=>⟨a[i],Aat a i hi,ha _ (by simp)⟩
 have atB:∀ {i:Nat},i < b.size->∃ p,b[i]?=some p/\p∈a₀.toList:=fun {i} hi=>⟨b[i],Aat b i hi,hb _ (by simp)⟩
 have KA:∀ {i:Nat} {p:Keyed},a[i]?=some p->Kr rk a i=rk p:=fun e=>cu e
 have SKa:∀ i j,i<=j->j < a.size->Kr rk a i<=Kr rk a j:=fun i j hij hj=>by
  obtain ⟨p,ep,_⟩:=atA (show i < a.size by omega);obtain ⟨q,eq,_⟩:=atA hj;rw [cu ep,cu eq];refine iI Sa ep ?_;obtain ⟨hq,e⟩:=Zk.mp eq;rw [← e];exact ZQ.mpr ⟨j - i,by simp;omega,by simp [show i+(j - i)=j by omega]⟩
 have SKb:∀ i j,i<=j->j < b.size->Kr rk b i<=Kr rk b j:=fun i j hij hj=>by
  obtain ⟨p,ep,_⟩:=atB (show i < b.size by omega);obtain ⟨q,eq,_⟩:=atB hj;rw [cu ep,cu eq];refine iI Sb ep ?_;obtain ⟨hq,e⟩:=Zk.mp eq;rw [← e];exact ZQ.mpr ⟨j - i,by simp;omega,by simp [show i+(j - i)=j by omega]⟩
 refine wpS_bind (wpS_lift (Abj ⟨rfl,?_⟩));dsimp only;obtain ⟨p0,e0,m0⟩:=atB (i:=0) (by omega);refine wpS_bind (aW (U:=Unit) e0 ?_)
 have I0:MI rk a b #[p0] 0 1:=by
  have eb:b.toList=p0 :: b.toList.drop 1:=by
   obtain ⟨hi,e⟩:=Zk.mp e0;have:=ZW (l:=b.toList) (i:=0) (by simpa using hi);rw [AaM] at this
   conv=>lhs;rw [this]
   simp [e]
  refine ⟨by omega,by omega,Aa0 _ _,fun p hp q hq=>?_,?_⟩
  ·obtain rfl:p=p0:=by simpa using hp
   rcases Zh.mp hq with hq | hq
   ·exact hf p e0 q (Abh hq)
   ·exact iI Sb e0 (by rw [AaM];exact Abh hq)
  ·show ([p0] ++ (a.toList.drop 0 ++ b.toList.drop 1)).Perm _
   rw [AaM]
   conv=>rhs;rw [eb]
   exact (List.perm_middle (a:=p0) (l₁:=a.toList) (l₂:=b.toList.drop 1)).symm
 by_cases h1:1=b.size
 ·rw [if_pos (by simpa using h1)]
  exact wpS_pure (h _ _ (Sm.refl _) (I0.doneB Sa h1))
 rw [if_neg (by simpa using h1)];by_cases h2:0+1=a.size
 ·rw [if_pos (by simpa using h2)]
  exact wpS_pure (h _ _ (Sm.refl _) (I0.lastA Sb h2 hl))
 rw [if_neg (by simpa using h2)];refine wpS_bind (wpS_get ?_)
 refine wpS_bind (wpS_mono (Aao (I:=fun x c st'=>Sm st st'/\∃ out ia ib mg,c=(none,out,ia,ib,mg)/\MI rk a b out ia ib/\ib < b.size/\ia+1 < a.size/\x+1<=ia+ib)
   (Q:=fun c st'=>Sm st st'/\∃ r,c.1=some r/\Res rk a b r) ?step ?fin ⟨Sm.refl _,_,_,_,_,rfl,I0,by omega,by omega,by omega⟩) ?post)
 case fin=>
  rintro c st' ⟨_,out,ia,ib,mg,rfl,I,x1,x2,x3⟩;exact absurd x3 (by omega)
 case post=>
  rintro ⟨r0,c⟩ st' ⟨S,r,rfl,hr⟩;exact wpS_pure (h r st' S hr)
 case step=>
  rintro x c st1 _ hx ⟨S1,out,ia,ib,mg,rfl,I,x1,x2,x3⟩;dsimp only;have kd1:kindOf st1=kd:=S1.kind.trans kind
  refine wpS_bind (wpS_mono (Aao (I:=fun y c st'=>st'=st1/\∃ out' ia' ib' ac bc,c=(none,out',ia',ib',ac,bc)/\MI rk a b out' ia' ib'/\ib' < b.size/\ia'+1 < a.size/\x+1+y<=ia'+ib')
   (Q:=fun c st'=>st'=st1/\Go rk a b (x+2) c.1 c.2.1 c.2.2.1 c.2.2.2.1) ?istep ?ifin ⟨rfl,_,_,_,_,_,rfl,I,x1,x2,by omega⟩) ?ipost)
  case ifin=>
   rintro c st' ⟨rfl,out',ia',ib',ac,bc,rfl,I',y1,y2,y3⟩;exact ⟨rfl,.inr ⟨rfl,I',y1,y2,by show x+2<=ia'+ib';omega⟩⟩
  case istep=>
   rintro y c st' _ hy ⟨rfl,out',ia',ib',ac,bc,rfl,I',y1,y2,y3⟩;dsimp only;obtain ⟨pb,eb,mb⟩:=atB y1;obtain ⟨pa,ea,ma⟩:=atA (show ia' < a.size by omega);refine wpS_bind (aW (U:=Unit) eb (wpS_bind (aW (U:=Unit) ea (wpS_bind (L _ _ _ _ mb ma kd1 ?_)))));dsimp only;by_cases hw:rk pb < rk pa
   ·rw [if_pos (Zc hw)]
    refine wpS_bind (aW (U:=Unit) eb ?_);have I2:=I'.pushB Sb eb fun q hq=>Aak (AbM hw) (iI Sa ea hq)
    by_cases h3:ib'+1=b.size
    ·rw [if_pos (by simpa using h3)]
     exact wpS_pure ⟨rfl,.inl ⟨_,rfl,I2.doneB Sa h3⟩⟩
    ·rw [if_neg (by simpa using h3)]
     split
     ·exact wpS_pure ⟨rfl,.inr ⟨rfl,I2,by show ib'+1 < _;omega,y2,by show x+2<=ia'+(ib'+1);omega⟩⟩
     ·exact wpS_pure ⟨rfl,_,_,_,_,_,rfl,I2,by omega,y2,by omega⟩
   ·rw [if_neg (by rw [Zd hw];decide)]
    refine wpS_bind (aW (U:=Unit) ea ?_);have I2:=I'.pushA Sa ea fun q hq=>Aak (by omega) (iI Sb eb hq)
    by_cases h3:ia'+1+1=a.size
    ·rw [if_pos (by simpa using h3)]
     exact wpS_pure ⟨rfl,.inl ⟨_,rfl,I2.lastA Sb h3 hl⟩⟩
    ·rw [if_neg (by simpa using h3)]
     split
     ·exact wpS_pure ⟨rfl,.inr ⟨rfl,I2,y1,by show ia'+1+1 < _;omega,by show x+2<=ia'+1+ib';omega⟩⟩
     ·exact wpS_pure ⟨rfl,_,_,_,_,_,rfl,I2,y1,by omega,by omega⟩
  case ipost=>
   rintro ⟨r0,out1,ia1,ib1,ac1,bc1⟩ st' ⟨rfl,G⟩;dsimp only at G ⊢;rcases G with ⟨r,rfl,hr⟩ | ⟨rfl,I1,y1,y2,y3⟩
   ·exact wpS_pure ⟨S1,r,rfl,hr⟩
   dsimp only;refine wpS_bind (wpS_lift (Abj ⟨rfl,?_⟩))
   refine wpS_bind (wpS_mono (Aao (I:=fun y c st'=>Sm st st'/\∃ out' ia' ib' mg ac bc,c=(none,out',ia',ib',mg,ac,bc)/\MI rk a b out' ia' ib'/\ib' < b.size/\ia'+1 < a.size/\x+2<=ia'+ib')
    (Q:=fun c st'=>Sm st st'/\Go rk a b (x+2) c.1 c.2.1 c.2.2.1 c.2.2.2.1) ?gstep ?gfin ⟨S1,_,_,_,_,_,_,rfl,I1,y1,y2,y3⟩) ?gpost)
   case gfin=>
    rintro c st' ⟨S2,out',ia',ib',mg',ac,bc,rfl,I',y1,y2,y3⟩;exact ⟨S2,.inr ⟨rfl,I',y1,y2,y3⟩⟩
   case gpost=>
    rintro ⟨r0,out1,ia1,ib1,mg1,ac1,bc1⟩ st' ⟨S2,G⟩;dsimp only at G ⊢;rcases G with ⟨r,rfl,hr⟩ | ⟨rfl,I1,y1,y2,y3⟩
    ·exact wpS_pure ⟨S2,r,rfl,hr⟩
    dsimp only;refine wpS_bind (sO S2 fun st2 S3=>?_);exact wpS_pure ⟨S3,_,_,_,_,rfl,I1,y1,y2,y3⟩
   case gstep=>
    rintro y c st' _ hy ⟨S2,out',ia',ib',mg',ac,bc,rfl,I',y1,y2,y3⟩;dsimp only;obtain ⟨pb,eb,mb⟩:=atB y1;refine aM (fun _=>?_) (fun _=>?_)
    all_goals
     refine wpS_bind (sO S2 fun st3 S3=>?_);have kd3:kindOf st3=kd:=S3.kind.trans kind;refine wpS_bind (aW (U:=Unit) eb ?_);refine wpS_bind (fQ (fun i=>decide (Kr rk a (ia'+i)<=rk pb)) (by omega) (fun i R hi r=>kE L mb ha (by omega) kd3 (by simpa using r)) (fun i j hij hj hq=>Zc (Aak (SKa _ _ (by omega) (by omega)) (ZF hq))) fun k hk hk1 hk2=>?_);dsimp only
     have I2:=I'.takeA Sa k (by omega) fun p hp q hq=>by
      obtain ⟨j,hj,e⟩:=vD hp;have:=ZF (hk1 j hj);rw [cu e] at this;exact Aak this (iI Sb eb hq)
     have hgt:∀ q∈a.toList.drop (ia'+k),rk pb<=rk q:=fun q hq=>by
      obtain ⟨j,h3,h4,e⟩:=zc hq;have:=Aas (hk2 (j - ia') (by omega) (by omega));rw [show ia'+(j - ia')=j by omega,cu e] at this;omega
     refine aM (fun hk0=>?_) (fun hk0=>?_)
     ·refine aM (fun h3=>?_) (fun h3=>aM (fun h4=>?_) (fun h4=>?_))
      ·exact wpS_pure ⟨S3,.inl ⟨_,rfl,I2.lastA Sb (by simpa using h3) hl⟩⟩
      ·exact wpS_pure ⟨S3,.inl ⟨_,rfl,I2.doneA Sb (by simpa using h4)⟩⟩
      have hi1:ia'+k+1 < a.size:=by
       have z1:¬ ia'+k+1=a.size:=by simpa using h3
       have z2:¬ ia'+k=a.size:=by simpa using h4
       omega
      have J:=I2;have hg2:=hgt;refine wpS_bind (aW (U:=Unit) eb ?_);have J2:=J.pushB Sb eb hg2;refine aM (fun h5=>?_) (fun h5=>?_)
      ·exact wpS_pure ⟨S3,.inl ⟨_,rfl,J2.doneB Sa (by simpa using h5)⟩⟩
      have h5':ib'+1 < b.size:=by
       have:¬ ib'+1=b.size:=by simpa using h5
       omega
      obtain ⟨pa,ea,ma⟩:=atA (Nat.lt_of_succ_lt hi1);refine wpS_bind (aW (U:=Unit) ea ?_);refine wpS_bind (fQ (fun i=>decide (Kr rk b (ib'+1+i) < rk pa)) (by omega) (fun i R hi r=>kE L ma hb (by omega) kd3 (by simpa using r)) (fun i j hij hj hq=>Zc (Abs (SKb _ _ (by omega) (by omega)) (ZF hq))) fun k1 hk1 hk11 hk12=>?_);dsimp only
      have J3:=J2.takeB Sb k1 (by omega) fun p hp q hq=>by
       obtain ⟨j,hj,e⟩:=vD hp;have:=ZF (hk11 j hj);rw [cu e] at this;exact Aak (AbM this) (iI Sa ea hq)
      have hle:∀ q∈b.toList.drop (ib'+1+k1),rk pa<=rk q:=fun q hq=>by
       obtain ⟨j,h3,h4,e⟩:=zc hq;have:=Aas (hk12 (j - (ib'+1)) (by omega) (by omega));rw [show ib'+1+(j - (ib'+1))=j by omega,cu e] at this;omega
      refine aM (fun hk10=>?_) (fun hk10=>?_)
      ·refine aM (fun h6=>?_) (fun h6=>?_)
       ·exact wpS_pure ⟨S3,.inl ⟨_,rfl,J3.doneB Sa (by simpa using h6)⟩⟩
       have h6':ib'+1+k1 < b.size:=by
        have:¬ ib'+1+k1=b.size:=by simpa using h6
        omega
       refine wpS_bind (aW (U:=Unit) ea ?_);have J5:=J3.pushA Sa ea hle;refine aM (fun h7=>?_) (fun h7=>?_)
       ·exact wpS_pure ⟨S3,.inl ⟨_,rfl,J5.lastA Sb (by simpa using h7) hl⟩⟩
       have h7':=by simpa using h7
       refine aM (fun _=>?_) (fun _=>?_)
       ·exact wpS_pure ⟨S3,.inr ⟨rfl,J5,h6',by dsimp only;omega,by dsimp only;omega⟩⟩
       ·exact wpS_pure ⟨S3,_,_,_,_,_,_,rfl,J5,h6',by omega,by omega⟩
      ·obtain rfl:k1=0:=by omega
       refine wpS_bind (aW (U:=Unit) ea ?_);have J5:=J2.pushA Sa ea hle;refine aM (fun h7=>?_) (fun h7=>?_)
       ·exact wpS_pure ⟨S3,.inl ⟨_,rfl,J5.lastA Sb (by simpa using h7) hl⟩⟩
       have h7':=by simpa using h7
       refine aM (fun _=>?_) (fun _=>?_)
       ·exact wpS_pure ⟨S3,.inr ⟨rfl,J5,h5',by dsimp only;omega,by dsimp only;omega⟩⟩
       ·exact wpS_pure ⟨S3,_,_,_,_,_,_,rfl,J5,h5',by omega,by omega⟩
     ·obtain rfl:k=0:=by omega
      have hi1:ia'+1 < a.size:=y2;have J:=I';have hg2:∀ q∈a.toList.drop ia',rk pb<=rk q:=hgt;refine wpS_bind (aW (U:=Unit) eb ?_);have J2:=J.pushB Sb eb hg2;refine aM (fun h5=>?_) (fun h5=>?_)
      ·exact wpS_pure ⟨S3,.inl ⟨_,rfl,J2.doneB Sa (by simpa using h5)⟩⟩
      have h5':ib'+1 < b.size:=by
       have:¬ ib'+1=b.size:=by simpa using h5
       omega
      obtain ⟨pa,ea,ma⟩:=atA (Nat.lt_of_succ_lt hi1);refine wpS_bind (aW (U:=Unit) ea ?_);refine wpS_bind (fQ (fun i=>decide (Kr rk b (ib'+1+i) < rk pa)) (by omega) (fun i R hi r=>kE L ma hb (by omega) kd3 (by simpa using r)) (fun i j hij hj hq=>Zc (Abs (SKb _ _ (by omega) (by omega)) (ZF hq))) fun k1 hk1 hk11 hk12=>?_);dsimp only
      have J3:=J2.takeB Sb k1 (by omega) fun p hp q hq=>by
       obtain ⟨j,hj,e⟩:=vD hp;have:=ZF (hk11 j hj);rw [cu e] at this;exact Aak (AbM this) (iI Sa ea hq)
      have hle:∀ q∈b.toList.drop (ib'+1+k1),rk pa<=rk q:=fun q hq=>by
       obtain ⟨j,h3,h4,e⟩:=zc hq;have:=Aas (hk12 (j - (ib'+1)) (by omega) (by omega));rw [show ib'+1+(j - (ib'+1))=j by omega,cu e] at this;omega
      refine aM (fun hk10=>?_) (fun hk10=>?_)
      ·refine aM (fun h6=>?_) (fun h6=>?_)
       ·exact wpS_pure ⟨S3,.inl ⟨_,rfl,J3.doneB Sa (by simpa using h6)⟩⟩
       have h6':ib'+1+k1 < b.size:=by
        have:¬ ib'+1+k1=b.size:=by simpa using h6
        omega
       refine wpS_bind (aW (U:=Unit) ea ?_);have J5:=J3.pushA Sa ea hle;refine aM (fun h7=>?_) (fun h7=>?_)
       ·exact wpS_pure ⟨S3,.inl ⟨_,rfl,J5.lastA Sb (by simpa using h7) hl⟩⟩
       have h7':=by simpa using h7
       refine aM (fun _=>?_) (fun _=>?_)
       ·exact wpS_pure ⟨S3,.inr ⟨rfl,J5,h6',by dsimp only;omega,by dsimp only;omega⟩⟩
       ·exact wpS_pure ⟨S3,_,_,_,_,_,_,rfl,J5,h6',by omega,by omega⟩
      ·obtain rfl:k1=0:=by omega
       refine wpS_bind (aW (U:=Unit) ea ?_);have J5:=J2.pushA Sa ea hle;refine aM (fun h7=>?_) (fun h7=>?_)
       ·exact wpS_pure ⟨S3,.inl ⟨_,rfl,J5.lastA Sb (by simpa using h7) hl⟩⟩
       have h7':=by simpa using h7
       refine aM (fun _=>?_) (fun _=>?_)
       ·exact wpS_pure ⟨S3,.inr ⟨rfl,J5,h5',by dsimp only;omega,by dsimp only;omega⟩⟩
       ·exact wpS_pure ⟨S3,_,_,_,_,_,_,rfl,J5,h5',by omega,by omega⟩
structure MH (rk:Keyed->Int) (a b out:Array Keyed) (na nb:Nat):Prop where
 ha:na<=a.size
 hb:nb<=b.size
 so:qd rk out.toList.reverse
 le:∀ p∈a.toList.take na ++ b.toList.take nb,∀ q∈out.toList,rk p<=rk q
 pm:((a.toList.take na ++ b.toList.take nb) ++ out.toList.reverse).Perm (a.toList ++ b.toList)
theorem m7 {α:Type} (l:List α) {i n:Nat} (h:i<=n):l.take n=l.take i ++ (l.drop i).take (n - i):=by
 rw [List.take_drop,show i+(n - i)=n by omega]
 conv=>lhs;rw [← Aba i (l.take n)]
 rw [List.take_take,Nat.min_eq_left h]
theorem jk (a:Array Keyed) {i n:Nat} (h:i<=n):(a.extract i n).toList=(a.toList.drop i).take (n - i):=by
 rw [Array.toList_extract,List.extract_eq_drop_take]
theorem MH.takeA {a b out:Array Keyed} {na nb:Nat} (h:MH rk a b out na nb) (Sa:qd rk a.toList) (i:Nat) (hi:i<=na) (hc:∀ q∈(a.toList.drop i).take (na - i),∀ p∈b.toList.take nb,rk p<=rk q):MH rk a b (out ++ (a.extract i na).reverse) i nb:=by
 have e:=m7 a.toList hi;have Sd:qd rk (a.toList.take na):=Sa.sublist (Abd _ _);rw [e] at Sd;obtain ⟨s1,s2,s3⟩:=Zy.mp Sd;have tl:(out ++ (a.extract i na).reverse).toList=out.toList ++ ((a.toList.drop i).take (na - i)).reverse:=by rw [ZJ,AaX,jk a hi]
 have rl:(out ++ (a.extract i na).reverse).toList.reverse=(a.toList.drop i).take (na - i) ++ out.toList.reverse:=by rw [tl,List.reverse_append,List.reverse_reverse]
 refine ⟨by have:=h.ha;omega,h.hb,?_,?_,?_⟩
 ·rw [rl]
  exact Zy.mpr ⟨s2,h.so,fun p hp q hq=>h.le p (Zw _ (by rw [e];exact Zf _ hp)) q (AaI.mp hq)⟩
 ·rw [tl]
  intro p hp q hq;rcases Zh.mp hq with hq | hq
  ·refine h.le p ?_ q hq
   rcases Zh.mp hp with hp | hp
   ·exact Zw _ (by rw [e];exact Zw _ hp)
   ·exact Zf _ hp
  ·have hq:=AaI.mp hq
   rcases Zh.mp hp with hp | hp
   ·exact s3 p hp q hq
   ·exact hc q hq p hp
 ·rw [rl]
  refine List.Perm.trans ?_ h.pm
  conv=>rhs;rw [e]
  rw [← ZM];refine Aa4 _ ?_;rw [ZM,ZM];exact AaE _ Abz
theorem MH.takeB {a b out:Array Keyed} {na nb:Nat} (h:MH rk a b out na nb) (Sb:qd rk b.toList) (i:Nat) (hi:i<=nb) (hc:∀ q∈(b.toList.drop i).take (nb - i),∀ p∈a.toList.take na,rk p<=rk q):MH rk a b (out ++ (b.extract i nb).reverse) na i:=by
 have e:=m7 b.toList hi;have Sd:qd rk (b.toList.take nb):=Sb.sublist (Abd _ _);rw [e] at Sd;obtain ⟨s1,s2,s3⟩:=Zy.mp Sd;have tl:(out ++ (b.extract i nb).reverse).toList=out.toList ++ ((b.toList.drop i).take (nb - i)).reverse:=by rw [ZJ,AaX,jk b hi]
 have rl:(out ++ (b.extract i nb).reverse).toList.reverse=(b.toList.drop i).take (nb - i) ++ out.toList.reverse:=by rw [tl,List.reverse_append,List.reverse_reverse]
 refine ⟨h.ha,by have:=h.hb;omega,?_,?_,?_⟩
 ·rw [rl]
  exact Zy.mpr ⟨s2,h.so,fun p hp q hq=>h.le p (Zf _ (by rw [e];exact Zf _ hp)) q (AaI.mp hq)⟩
 ·rw [tl]
  intro p hp q hq;rcases Zh.mp hq with hq | hq
  ·refine h.le p ?_ q hq
   rcases Zh.mp hp with hp | hp
   ·exact Zw _ hp
   ·exact Zf _ (by rw [e];exact Zw _ hp)
  ·have hq:=AaI.mp hq
   rcases Zh.mp hp with hp | hp
   ·exact hc q hq p hp
   ·exact s3 p hp q hq
 ·rw [rl]
  refine List.Perm.trans (List.Perm.of_eq ?_) h.pm
  conv=>rhs;rw [e]
  simp only [ZM]
theorem Bc {out a:Array Keyed} {n:Nat} {p:Keyed} (hn:1<=n) (h:a[n - 1]?=some p):out.push p=out ++ (a.extract (n - 1) n).reverse:=by
 rw [wN h,show n - 1+1=n by omega]
 congr 1
 apply Array.ext';rw [AaX,jk a (by omega),show n - (n - 1)=1 by omega];obtain ⟨hi,e⟩:=Zk.mp h;rw [ZW (by simpa using hi)];simp
theorem sS {a:Array Keyed} {n:Nat} {p q:Keyed} (Sa:qd rk a.toList) (hn:1<=n) (h:a[n - 1]?=some p) (hq:q∈a.toList.take n):rk q<=rk p:=by
 obtain ⟨hi,e⟩:=Zk.mp h;obtain ⟨k,hk,ek⟩:=ZQ.mp hq;have hk':k < n/\k < a.size:=by simp at hk;omega
 have hqk:a[k]?=some q:=by rw [Aat a k hk'.2,← ek];simp
 refine iI Sa hqk ?_;rw [← e];exact ZQ.mpr ⟨n - 1 - k,by simp;omega,by simp [show k+(n - 1 - k)=n - 1 by omega]⟩
theorem MH.pushA {a b out:Array Keyed} {na nb:Nat} {p:Keyed} (h:MH rk a b out na nb) (Sa:qd rk a.toList) (hn:1<=na) (e:a[na - 1]?=some p) (hc:∀ q∈b.toList.take nb,rk q<=rk p):MH rk a b (out.push p) (na - 1) nb:=by
 rw [Bc hn e];refine h.takeA Sa (na - 1) (by omega) fun q hq r hr=>?_
 rw [show na - (na - 1)=1 by omega] at hq;rw [take1 e hq];exact hc r hr
theorem MH.pushB {a b out:Array Keyed} {na nb:Nat} {p:Keyed} (h:MH rk a b out na nb) (Sb:qd rk b.toList) (hn:1<=nb) (e:b[nb - 1]?=some p) (hc:∀ q∈a.toList.take na,rk q<=rk p):MH rk a b (out.push p) na (nb - 1):=by
 rw [Bc hn e];refine h.takeB Sb (nb - 1) (by omega) fun q hq r hr=>?_
 rw [show nb - (nb - 1)=1 by omega] at hq;rw [take1 e hq];exact hc r hr
theorem HN (a:Array Keyed) (n:Nat):(a.extract 0 n).toList=a.toList.take n:=by
 rw [jk a (Z7 n),AaM,AbL]
theorem MH.doneA {a b out:Array Keyed} {na nb:Nat} (h:MH rk a b out na nb) (Sb:qd rk b.toList) (e:na=0):Res rk a b (a.extract 0 na ++ b.extract 0 nb ++ out.reverse):=by
 unfold Res;rw [ZJ,ZJ,HN,HN,AaX];refine ⟨?_,h.pm⟩;have:a.toList.take na=[]:=by rw [e];rfl
 rw [this,List.nil_append];exact Zy.mpr ⟨Sb.sublist (Abd _ _),h.so,fun p hp q hq=>h.le p (Zf _ hp) q (AaI.mp hq)⟩
theorem MH.doneB {a b out:Array Keyed} {na nb:Nat} (h:MH rk a b out na nb) (Sa:qd rk a.toList) (e:nb=0):Res rk a b (a.extract 0 na ++ b.extract 0 nb ++ out.reverse):=by
 unfold Res;rw [ZJ,ZJ,HN,HN,AaX];refine ⟨?_,h.pm⟩;have:b.toList.take nb=[]:=by rw [e];rfl
 rw [this,Z5];exact Zy.mpr ⟨Sa.sublist (Abd _ _),h.so,fun p hp q hq=>h.le p (Zw _ hp) q (AaI.mp hq)⟩
theorem MH.firstB {a b out:Array Keyed} {na nb:Nat} (h:MH rk a b out na nb) (Sa:qd rk a.toList) (e:nb=1) (hf:∀ p,b[0]?=some p->∀ q∈a.toList,rk p<=rk q):Res rk a b (b.extract 0 nb ++ a.extract 0 na ++ out.reverse):=by
 unfold Res;rw [ZJ,ZJ,HN,HN,AaX];have hi:0 < b.size:=by have:=h.hb;omega
 have eb:b.toList.take nb=[b[0]]:=by
  rw [e];have:=ZW (l:=b.toList) (i:=0) (by simpa using hi);rw [AaM] at this;rw [this];simp
 refine ⟨?_,(Aa4 _ Abz).trans h.pm⟩;refine Zy.mpr ⟨Zy.mpr ⟨by rw [eb];exact Aa0 _ _,Sa.sublist (Abd _ _),fun p hp q hq=>?_⟩,h.so,fun p hp q hq=>h.le p ?_ q (AaI.mp hq)⟩
 ·rw [eb] at hp
  rw [ZD.mp hp];exact hf _ (Aat b 0 hi) q (Aaz hq)
 ·rcases Zh.mp hp with hp | hp
  ·exact Zf _ hp
  ·exact Zw _ hp
theorem lA {a:Array Keyed} {i k:Nat} {q:Keyed} (hq:q∈(a.toList.drop i).take k):∃ j,i<=j/\j < i+k/\a[j]?=some q:=by
 obtain ⟨j,hj,e⟩:=vD hq;exact ⟨i+j,by omega,by omega,e⟩
theorem Dm {a:Array Keyed} {n:Nat} {q:Keyed} (hq:q∈a.toList.take n):∃ j,j < n/\a[j]?=some q:=by
 obtain ⟨k,hk,e⟩:=ZQ.mp hq;have hk':k < n/\k < a.size:=by simp at hk;omega
 exact ⟨k,hk'.1,by rw [Aat a k hk'.2,← e];simp⟩
def GoH (rk:Keyed->Int) (a b:Array Keyed) (n:Nat) (r:Option (Array Keyed)) (na nb:Nat) (out:Array Keyed):Prop:=(∃ x,r=some x/\Res rk a b x)\/(r=none/\MH rk a b out na nb/\1<=na/\2<=nb/\n+na+nb<=a.size+b.size)
theorem Be {a b:Array Keyed} {st:SortSt} {Q:Array Keyed->SortSt->Prop} (L:sH M A E s kd rk a₀) (ha:∀ p∈a.toList,p∈a₀.toList) (hb:∀ p∈b.toList,p∈a₀.toList) (Sa:qd rk a.toList) (Sb:qd rk b.toList)
  (n1:1<=a.size) (n2:1<=b.size) (hf:∀ p,b[0]?=some p->∀ q∈a.toList,rk p<=rk q) (hl:∀ p,a[a.size - 1]?=some p->∀ q∈b.toList,rk q<=rk p) (kind:kindOf st=kd)
  (h:∀ r st',Sm st st'->Res rk a b r->Q r st'):wpS M A E s (Mh a b) Q st:=by
 have atA:∀ {i:Nat},i < a.size->∃ p,a[i]?=some p/\p∈a₀.toList:=fun {i} hi=>⟨a[i],Aat a i hi,ha _ (by simp)⟩
 have atB:∀ {i:Nat},i < b.size->∃ p,b[i]?=some p/\p∈a₀.toList:=fun {i} hi=>⟨b[i],Aat b i hi,hb _ (by simp)⟩
 have KA:∀ {i:Nat} {p:Keyed},a[i]?=some p->Kr rk a i=rk p:=fun e=>cu e
 have SKa:∀ i j,i<=j->j < a.size->Kr rk a i<=Kr rk a j:=fun i j hij hj=>by
  obtain ⟨p,ep,_⟩:=atA (show i < a.size by omega);obtain ⟨q,eq,_⟩:=atA hj;rw [cu ep,cu eq];refine iI Sa ep ?_;obtain ⟨hq,e⟩:=Zk.mp eq;rw [← e];exact ZQ.mpr ⟨j - i,by simp;omega,by simp [show i+(j - i)=j by omega]⟩
 have SKb:∀ i j,i<=j->j < b.size->Kr rk b i<=Kr rk b j:=fun i j hij hj=>by
  obtain ⟨p,ep,_⟩:=atB (show i < b.size by omega);obtain ⟨q,eq,_⟩:=atB hj;rw [cu ep,cu eq];refine iI Sb ep ?_;obtain ⟨hq,e⟩:=Zk.mp eq;rw [← e];exact ZQ.mpr ⟨j - i,by simp;omega,by simp [show i+(j - i)=j by omega]⟩
 refine wpS_bind (wpS_lift (Abj ⟨rfl,?_⟩));dsimp only;obtain ⟨p0,e0,m0⟩:=atA (i:=a.size - 1) (by omega);refine wpS_bind (aW (U:=Unit) e0 ?_)
 have I0:MH rk a b #[p0] (a.size - 1) b.size:=by
  have Z:MH rk a b #[] a.size b.size:=⟨Y4 _,Y4 _,List.Pairwise.nil,fun p _ q hq=>by simp at hq,by
   rw [ZC (by simp),ZC (by simp)];simp⟩
  exact Z.pushA Sa n1 e0 fun q hq=>hl p0 e0 q (Aaz hq)
 by_cases h1:a.size - 1=0
 ·rw [if_pos (by simpa using h1)]
  exact wpS_pure (h _ _ (Sm.refl _) (I0.doneA Sb h1))
 rw [if_neg (by simpa using h1)];by_cases h2:b.size=1
 ·rw [if_pos (by simpa using h2)]
  exact wpS_pure (h _ _ (Sm.refl _) (I0.firstB Sa h2 hf))
 rw [if_neg (by simpa using h2)];refine wpS_bind (wpS_get ?_)
 refine wpS_bind (wpS_mono (Aao (I:=fun x c st'=>Sm st st'/\∃ na nb out mg,c=(none,na,nb,out,mg)/\MH rk a b out na nb/\1<=na/\2<=nb/\x+1+na+nb<=a.size+b.size)
   (Q:=fun c st'=>Sm st st'/\∃ r,c.1=some r/\Res rk a b r) ?step ?fin ⟨Sm.refl _,_,_,_,_,rfl,I0,by omega,by omega,by omega⟩) ?post)
 case fin=>
  rintro c st' ⟨_,na,nb,out,mg,rfl,I,x1,x2,x3⟩;exact absurd x3 (by omega)
 case post=>
  rintro ⟨r0,c⟩ st' ⟨S,r,rfl,hr⟩;exact wpS_pure (h r st' S hr)
 case step=>
  rintro x c st1 _ hx ⟨S1,na,nb,out,mg,rfl,I,x1,x2,x3⟩;dsimp only;have kd1:kindOf st1=kd:=S1.kind.trans kind
  refine wpS_bind (wpS_mono (Aao (I:=fun y c st'=>st'=st1/\∃ na' nb' out' ac bc,c=(none,na',nb',out',ac,bc)/\MH rk a b out' na' nb'/\1<=na'/\2<=nb'/\x+1+y+na'+nb'<=a.size+b.size)
   (Q:=fun c st'=>st'=st1/\GoH rk a b (x+2) c.1 c.2.1 c.2.2.1 c.2.2.2.1) ?istep ?ifin ⟨rfl,_,_,_,_,_,rfl,I,x1,x2,by omega⟩) ?ipost)
  case ifin=>
   rintro c st' ⟨rfl,na',nb',out',ac,bc,rfl,I',y1,y2,y3⟩;exact ⟨rfl,.inr ⟨rfl,I',y1,y2,by dsimp only;omega⟩⟩
  case istep=>
   rintro y c st' _ hy ⟨rfl,na',nb',out',ac,bc,rfl,I',y1,y2,y3⟩;dsimp only;obtain ⟨pb,eb,mb⟩:=atB (i:=nb' - 1) (by have:=I'.hb;omega);obtain ⟨pa,ea,ma⟩:=atA (i:=na' - 1) (by have:=I'.ha;omega);refine wpS_bind (aW (U:=Unit) eb (wpS_bind (aW (U:=Unit) ea (wpS_bind (L _ _ _ _ mb ma kd1 ?_)))));dsimp only;refine aM (fun hw=>?_) (fun hw=>?_)
   ·have hw:=ZF hw
    refine wpS_bind (aW (U:=Unit) ea ?_);have I2:=I'.pushA Sa y1 ea fun q hq=>Aak (sS Sb (by omega) eb hq) (by omega)
    refine aM (fun h3=>?_) (fun h3=>?_)
    ·exact wpS_pure ⟨rfl,.inl ⟨_,rfl,I2.doneA Sb (by simpa using h3)⟩⟩
    have h3':¬ na' - 1=0:=by simpa using h3
    refine aM (fun _=>?_) (fun _=>?_)
    ·exact wpS_pure ⟨rfl,.inr ⟨rfl,I2,by dsimp only;omega,by dsimp only;omega,by dsimp only;omega⟩⟩
    ·exact wpS_pure ⟨rfl,_,_,_,_,_,rfl,I2,by omega,by omega,by omega⟩
   ·have hw:¬ rk pb < rk pa:=fun z=>hw (Zc z)
    refine wpS_bind (aW (U:=Unit) eb ?_);have I2:=I'.pushB Sb (by omega) eb fun q hq=>Aak (sS Sa y1 ea hq) (by omega)
    refine aM (fun h3=>?_) (fun h3=>?_)
    ·exact wpS_pure ⟨rfl,.inl ⟨_,rfl,I2.firstB Sa (by simpa using h3) hf⟩⟩
    have h3':¬ nb' - 1=1:=by simpa using h3
    refine aM (fun _=>?_) (fun _=>?_)
    ·exact wpS_pure ⟨rfl,.inr ⟨rfl,I2,by dsimp only;omega,by dsimp only;omega,by dsimp only;omega⟩⟩
    ·exact wpS_pure ⟨rfl,_,_,_,_,_,rfl,I2,by omega,by omega,by omega⟩
  case ipost=>
   rintro ⟨r0,na1,nb1,out1,ac1,bc1⟩ st' ⟨rfl,G⟩;dsimp only at G ⊢;rcases G with ⟨r,rfl,hr⟩ | ⟨rfl,I1,y1,y2,y3⟩
   ·exact wpS_pure ⟨S1,r,rfl,hr⟩
   dsimp only;refine wpS_bind (wpS_lift (Abj ⟨rfl,?_⟩))
   refine wpS_bind (wpS_mono (Aao (I:=fun y c st'=>Sm st st'/\∃ na' nb' out' mg ac bc,c=(none,na',nb',out',mg,ac,bc)/\MH rk a b out' na' nb'/\1<=na'/\2<=nb'/\x+2+na'+nb'<=a.size+b.size)
    (Q:=fun c st'=>Sm st st'/\GoH rk a b (x+2) c.1 c.2.1 c.2.2.1 c.2.2.2.1) ?gstep ?gfin ⟨S1,_,_,_,_,_,_,rfl,I1,y1,y2,y3⟩) ?gpost)
   case gfin=>
    rintro c st' ⟨S2,na',nb',out',mg',ac,bc,rfl,I',y1,y2,y3⟩;exact ⟨S2,.inr ⟨rfl,I',y1,y2,y3⟩⟩
   case gpost=>
    rintro ⟨r0,na1,nb1,out1,mg1,ac1,bc1⟩ st' ⟨S2,G⟩;dsimp only at G ⊢;rcases G with ⟨r,rfl,hr⟩ | ⟨rfl,I1,y1,y2,y3⟩
    ·exact wpS_pure ⟨S2,r,rfl,hr⟩
    dsimp only;refine wpS_bind (sO S2 fun st2 S3=>?_);exact wpS_pure ⟨S3,_,_,_,_,rfl,I1,y1,y2,by omega⟩
   case gstep=>
    rintro y c st' _ hy ⟨S2,na',nb',out',mg',ac,bc,rfl,I',y1,y2,y3⟩;dsimp only;obtain ⟨pb,eb,mb⟩:=atB (i:=nb' - 1) (by have:=I'.hb;omega);have hna:=I'.ha;have hnb:=I'.hb;refine aM (fun _=>?_) (fun _=>?_)
    all_goals
     refine wpS_bind (sO S2 fun st3 S3=>?_);have kd3:kindOf st3=kd:=S3.kind.trans kind;refine wpS_bind (aW (U:=Unit) eb ?_);refine wpS_bind (fQ (fun i=>decide (Kr rk a (0+i)<=rk pb)) (by omega) (fun i R hi r=>kE L mb ha (by omega) kd3 (by simpa using r)) (fun i j hij hj hq=>Zc (Aak (SKa _ _ (by omega) (by omega)) (ZF hq))) fun k hk hk1 hk2=>?_);dsimp only
     have I2:=I'.takeA Sa k (by omega) fun q hq p hp=>by
      obtain ⟨j,h3,h4,e⟩:=lA hq;have:=Aas (hk2 j (by omega) (by omega));rw [Aa5,cu e] at this;exact Aak (sS Sb (by omega) eb hp) (by omega)
     have hgt:∀ q∈a.toList.take k,rk q<=rk pb:=fun q hq=>by
      obtain ⟨j,h3,e⟩:=Dm hq;have:=ZF (hk1 j h3);rw [Aa5,cu e] at this;exact this
     refine aM (fun hk0=>?_) (fun hk0=>?_)
     ·refine aM (fun h3=>?_) (fun h3=>?_)
      ·exact wpS_pure ⟨S3,.inl ⟨_,rfl,I2.doneA Sb (by simpa using h3)⟩⟩
      have h3':¬ k=0:=by simpa using h3
      have hi1:1<=k:=by omega
      have J:=I2;have hg2:=hgt;refine wpS_bind (aW (U:=Unit) eb ?_);have J2:=J.pushB Sb (by omega) eb hg2;refine aM (fun h5=>?_) (fun h5=>?_)
      ·exact wpS_pure ⟨S3,.inl ⟨_,rfl,J2.firstB Sa (by simpa using h5) hf⟩⟩
      have h5':¬ nb' - 1=1:=by simpa using h5
      obtain ⟨pa,ea,ma⟩:=atA (i:=k - 1) (by have:=J.ha;omega);refine wpS_bind (aW (U:=Unit) ea ?_);refine wpS_bind (fQ (fun i=>decide (Kr rk b (0+i) < rk pa)) (by omega) (fun i R hi r=>kE L ma hb (by omega) kd3 (by simpa using r)) (fun i j hij hj hq=>Zc (Abs (SKb _ _ (by omega) (by omega)) (ZF hq))) fun k1 hk1 hk11 hk12=>?_);dsimp only
      have J3:=J2.takeB Sb k1 (by omega) fun q hq p hp=>by
       obtain ⟨j,h3,h4,e⟩:=lA hq;have:=Aas (hk12 j (by omega) (by omega));rw [Aa5,cu e] at this;exact Aak (sS Sa hi1 ea hp) (by omega)
      have hle:∀ q∈b.toList.take k1,rk q<=rk pa:=fun q hq=>by
       obtain ⟨j,h3,e⟩:=Dm hq;have:=ZF (hk11 j h3);rw [Aa5,cu e] at this;omega
      refine aM (fun hk10=>?_) (fun hk10=>?_)
      ·refine aM (fun h6=>?_) (fun h6=>aM (fun h8=>?_) (fun h8=>?_))
       ·exact wpS_pure ⟨S3,.inl ⟨_,rfl,J3.firstB Sa (by simpa using h6) hf⟩⟩
       ·exact wpS_pure ⟨S3,.inl ⟨_,rfl,J3.doneB Sa (by simpa using h8)⟩⟩
       have h6':¬ k1=1:=by simpa using h6
       have h8':¬ k1=0:=by simpa using h8
       refine wpS_bind (aW (U:=Unit) ea ?_);have J5:=J3.pushA Sa hi1 ea hle;refine aM (fun h7=>?_) (fun h7=>?_)
       ·exact wpS_pure ⟨S3,.inl ⟨_,rfl,J5.doneA Sb (by simpa using h7)⟩⟩
       have h7':¬ k - 1=0:=by simpa using h7
       refine aM (fun _=>?_) (fun _=>?_)
       ·exact wpS_pure ⟨S3,.inr ⟨rfl,J5,by dsimp only;omega,by dsimp only;omega,by dsimp only;omega⟩⟩
       ·exact wpS_pure ⟨S3,_,_,_,_,_,_,rfl,J5,by omega,by omega,by omega⟩
      ·obtain rfl:k1=nb' - 1:=by omega
       refine wpS_bind (aW (U:=Unit) ea ?_);have J5:=J2.pushA Sa hi1 ea hle;refine aM (fun h7=>?_) (fun h7=>?_)
       ·exact wpS_pure ⟨S3,.inl ⟨_,rfl,J5.doneA Sb (by simpa using h7)⟩⟩
       have h7':¬ k - 1=0:=by simpa using h7
       refine aM (fun _=>?_) (fun _=>?_)
       ·exact wpS_pure ⟨S3,.inr ⟨rfl,J5,by dsimp only;omega,by dsimp only;omega,by dsimp only;omega⟩⟩
       ·exact wpS_pure ⟨S3,_,_,_,_,_,_,rfl,J5,by omega,by omega,by omega⟩
     ·obtain rfl:k=na':=by omega
      have hi1:1<=k:=y1;have J:=I';have hg2:=hgt;refine wpS_bind (aW (U:=Unit) eb ?_);have J2:=J.pushB Sb (by omega) eb hg2;refine aM (fun h5=>?_) (fun h5=>?_)
      ·exact wpS_pure ⟨S3,.inl ⟨_,rfl,J2.firstB Sa (by simpa using h5) hf⟩⟩
      have h5':¬ nb' - 1=1:=by simpa using h5
      obtain ⟨pa,ea,ma⟩:=atA (i:=k - 1) (by have:=J.ha;omega);refine wpS_bind (aW (U:=Unit) ea ?_);refine wpS_bind (fQ (fun i=>decide (Kr rk b (0+i) < rk pa)) (by omega) (fun i R hi r=>kE L ma hb (by omega) kd3 (by simpa using r)) (fun i j hij hj hq=>Zc (Abs (SKb _ _ (by omega) (by omega)) (ZF hq))) fun k1 hk1 hk11 hk12=>?_);dsimp only
      have J3:=J2.takeB Sb k1 (by omega) fun q hq p hp=>by
       obtain ⟨j,h3,h4,e⟩:=lA hq;have:=Aas (hk12 j (by omega) (by omega));rw [Aa5,cu e] at this;exact Aak (sS Sa hi1 ea hp) (by omega)
      have hle:∀ q∈b.toList.take k1,rk q<=rk pa:=fun q hq=>by
       obtain ⟨j,h3,e⟩:=Dm hq;have:=ZF (hk11 j h3);rw [Aa5,cu e] at this;omega
      refine aM (fun hk10=>?_) (fun hk10=>?_)
      ·refine aM (fun h6=>?_) (fun h6=>aM (fun h8=>?_) (fun h8=>?_))
       ·exact wpS_pure ⟨S3,.inl ⟨_,rfl,J3.firstB Sa (by simpa using h6) hf⟩⟩
       ·exact wpS_pure ⟨S3,.inl ⟨_,rfl,J3.doneB Sa (by simpa using h8)⟩⟩
       have h6':¬ k1=1:=by simpa using h6
       have h8':¬ k1=0:=by simpa using h8
       refine wpS_bind (aW (U:=Unit) ea ?_);have J5:=J3.pushA Sa hi1 ea hle;refine aM (fun h7=>?_) (fun h7=>?_)
       ·exact wpS_pure ⟨S3,.inl ⟨_,rfl,J5.doneA Sb (by simpa using h7)⟩⟩
       have h7':¬ k - 1=0:=by simpa using h7
       refine aM (fun _=>?_) (fun _=>?_)
       ·exact wpS_pure ⟨S3,.inr ⟨rfl,J5,by dsimp only;omega,by dsimp only;omega,by dsimp only;omega⟩⟩
       ·exact wpS_pure ⟨S3,_,_,_,_,_,_,rfl,J5,by omega,by omega,by omega⟩
      ·obtain rfl:k1=nb' - 1:=by omega
       refine wpS_bind (aW (U:=Unit) ea ?_);have J5:=J2.pushA Sa hi1 ea hle;refine aM (fun h7=>?_) (fun h7=>?_)
       ·exact wpS_pure ⟨S3,.inl ⟨_,rfl,J5.doneA Sb (by simpa using h7)⟩⟩
       have h7':¬ k - 1=0:=by simpa using h7
       refine aM (fun _=>?_) (fun _=>?_)
       ·exact wpS_pure ⟨S3,.inr ⟨rfl,J5,by dsimp only;omega,by dsimp only;omega,by dsimp only;omega⟩⟩
       ·exact wpS_pure ⟨S3,_,_,_,_,_,_,rfl,J5,by omega,by omega,by omega⟩
theorem vG (xs:Array Keyed) (i:Nat):Kr rk xs i=match xs.toList[i]? with | some p=>rk p | none=>0:=by
 unfold Kr;rw [Aad];all_goals (cases xs[i]? <;> rfl)
theorem wO {xs:Array Keyed} {lo hi:Nat} (h:Seg rk xs lo hi):qd rk ((xs.toList.drop lo).take (hi - lo)):=by
 refine Aar.mpr fun i j hi' hj hij=>?_
 have hj2:j < hi - lo/\lo+j < xs.size:=by simp at hj;omega
 have:=h (lo+i) (lo+j) (by omega) (by omega) (by omega);rw [cu (Aat xs (lo+i) (by omega)),cu (Aat xs (lo+j) hj2.2)] at this;simpa using this
theorem Vt {xs:Array Keyed} {P S D:List Keyed} (e:xs.toList=P ++ S ++ D) (h:qd rk S):Seg rk xs P.length (P.length+S.length):=by
 intro i j h1 h2 h3
 have at_:∀ k,P.length<=k->k < P.length+S.length->xs.toList[k]?=S[k - P.length]?:=fun k a b=>by
  rw [e,ZM,Zx a,ZK (by omega)]
 have hi:i - P.length < S.length:=by omega
 have hj:j - P.length < S.length:=by omega
 rw [vG,vG,at_ i h1 (by omega),at_ j (by omega) h3,YX hi,YX hj];show rk _<=rk _;by_cases hij:i=j
 ·subst hij;exact Aa7 _
 ·exact Aar.mp h _ _ hi hj (by omega)
theorem Mi:∀ (l:List Keyed) (off n:Nat) (xs:Array Keyed),off+n+l.length<=xs.size->∀ k,((l.zipIdx n).foldl (fun a (x:Keyed×Nat)=>a.setIfInBounds (off+x.2) x.1) xs)[k]?=if off+n<=k/\k < off+n+l.length then l[k - (off+n)]? else xs[k]?
 | [],off,n,xs,h,k=>by
  rw [if_neg (by rw [List.length_nil];omega)];rfl
 | p :: l,off,n,xs,h,k=>by
  have hl:(p :: l).length=l.length+1:=rfl;show ((l.zipIdx (n+1)).foldl (fun a (x:Keyed×Nat)=>a.setIfInBounds (off+x.2) x.1) (xs.setIfInBounds (off+n) p))[k]?=_;rw [Mi l off (n+1) (xs.setIfInBounds (off+n) p) (by rw [Array.size_setIfInBounds];omega)];by_cases h1:k=off+n
  ·subst h1
   rw [if_neg (by omega),if_pos (by omega),Array.getElem?_setIfInBounds,if_pos rfl,if_pos (by omega),AaO];rfl
  ·by_cases h2:off+(n+1)<=k/\k < off+(n+1)+l.length
   ·rw [if_pos h2,if_pos (by omega),show k - (off+n)=(k - (off+(n+1)))+1 by omega,List.getElem?_cons_succ]
   ·rw [if_neg h2,if_neg (by omega),Array.getElem?_setIfInBounds,if_neg (by omega)]
theorem Mj (l:List Keyed) (off:Nat) (xs:Array Keyed) (h:off+l.length<=xs.size):(l.zipIdx.foldl (fun a (x:Keyed×Nat)=>a.setIfInBounds (off+x.2) x.1) xs).toList=xs.toList.take off ++ l ++ xs.toList.drop (off+l.length):=by
 refine List.ext_getElem? fun k=>?_
 rw [Aad,Mi l off 0 xs (by omega) k];have t1:(xs.toList.take off).length=off:=by rw [Aac,ZG];omega
 rw [ZM];by_cases h1:k < off
 ·rw [if_neg (by omega),ZK (by omega),List.getElem?_take_of_lt h1,Aad]
 ·rw [Zx (by omega),t1]
  by_cases h2:k < off+l.length
  ·rw [if_pos ⟨by omega,by omega⟩,ZK (by omega),Nat.add_zero]
  ·rw [if_neg (by omega),Zx (by omega),AaU,show off+l.length+(k - off - l.length)=k by omega,Aad]
theorem Fj {xs:Array Keyed} {sa na nb:Nat} (g1:Seg rk xs sa (sa+na)) (g2:Seg rk xs (sa+na) (sa+na+nb)) (n2:1<=nb) (h:∀ i,sa<=i->i < sa+na->Kr rk xs i<=Kr rk xs (sa+na)):Seg rk xs sa (sa+na+nb):=fun i j h1 h2 h3=>by
 by_cases a:j < sa+na
 ·exact g1 i j h1 h2 a
 ·by_cases b:i < sa+na
  ·exact Aak (h i h1 b) (g2 _ _ (Y4 _) (by omega) h3)
  ·exact g2 i j (by omega) h2 h3
theorem HQ {xs m:Array Keyed} {sa na nb k n':Nat} (hsz:sa+na+nb<=xs.size) (g1:Seg rk xs sa (sa+na)) (g2:Seg rk xs (sa+na) (sa+na+nb)) (hk:k < na) (hn:n'<=nb) (n2:1<=nb)
  (hA:∀ i,i < k->Kr rk xs (sa+i)<=Kr rk xs (sa+na)) (hX:∀ i,k<=i->i < na->Kr rk xs (sa+na) < Kr rk xs (sa+i)) (hB2:∀ i,n'<=i->i < nb->Kr rk xs (sa+na - 1)<=Kr rk xs (sa+na+i))
  (hm:Res rk (xs.extract (sa+k) (sa+na)) (xs.extract (sa+na) (sa+na+n')) m):
  (m.toList.zipIdx.foldl (fun a (x:Keyed×Nat)=>a.setIfInBounds (sa+k+x.2) x.1) xs).Perm xs/\Seg rk (m.toList.zipIdx.foldl (fun a (x:Keyed×Nat)=>a.setIfInBounds (sa+k+x.2) x.1) xs) sa (sa+na+nb)/\
  ∀ i,i < sa\/sa+na+nb<=i->Kr rk (m.toList.zipIdx.foldl (fun a (x:Keyed×Nat)=>a.setIfInBounds (sa+k+x.2) x.1) xs) i=Kr rk xs i:=by
 obtain ⟨hm1,hm2⟩:=hm;rw [jk xs (by omega),jk xs (by omega),show sa+na - (sa+k)=na - k by omega,show sa+na+n' - (sa+na)=n' by omega] at hm2;have lt:xs.toList.length=xs.size:=by simp
 have lm:m.toList.length=na - k+n':=by
  rw [hm2.length_eq,Zv,Aac,Aac,AaS,AaS,lt];omega
 have e:=Mj m.toList (sa+k) xs (by omega);rw [lm,show sa+k+(na - k+n')=sa+na+n' by omega] at e;generalize m.toList.zipIdx.foldl (fun a (x:Keyed×Nat)=>a.setIfInBounds (sa+k+x.2) x.1) xs=W at e ⊢
 have t0:xs.toList.take (sa+k)=xs.toList.take sa ++ (xs.toList.drop sa).take k:=by
  have:=m7 xs.toList (i:=sa) (n:=sa+k) (by omega);rwa [show sa+k - sa=k by omega] at this
 have t1:xs.toList.take (sa+na)=xs.toList.take (sa+k) ++ (xs.toList.drop (sa+k)).take (na - k):=by
  have:=m7 xs.toList (i:=sa+k) (n:=sa+na) (by omega);rwa [show sa+na - (sa+k)=na - k by omega] at this
 have t2:xs.toList.drop (sa+na)=(xs.toList.drop (sa+na)).take n' ++ xs.toList.drop (sa+na+n'):=m6 _ _ _
 have t3:xs.toList.drop (sa+na+n')=(xs.toList.drop (sa+na+n')).take (nb - n') ++ xs.toList.drop (sa+na+nb):=by
  have:=m6 xs.toList (sa+na+n') (nb - n');rwa [show sa+na+n'+(nb - n')=sa+na+nb by omega] at this
 have eW:W.toList=xs.toList.take sa ++ ((xs.toList.drop sa).take k ++ m.toList ++ (xs.toList.drop (sa+na+n')).take (nb - n')) ++ xs.toList.drop (sa+na+nb):=by
  rw [e,t0]
  conv=>lhs;rw [t3]
  simp only [ZM]
 have lP:(xs.toList.take sa).length=sa:=by rw [Aac,lt];omega
 have lS:((xs.toList.drop sa).take k ++ m.toList ++ (xs.toList.drop (sa+na+n')).take (nb - n')).length=na+nb:=by
  rw [Zv,Zv,lm,Aac,Aac,AaS,AaS,lt];omega
 have kr:∀ {i:Nat} {p:Keyed},xs[i]?=some p->Kr rk xs i=rk p:=fun e=>cu e
 have memM:∀ {q:Keyed},q∈m.toList->(∃ i,k<=i/\i < na/\xs[sa+i]?=some q)\/∃ i,i < n'/\xs[sa+na+i]?=some q:=fun {q} hq=>by
  rcases Zh.mp (hm2.mem_iff.mp hq) with hq | hq
  ·obtain ⟨j,h1,h2,e⟩:=lA hq
   exact .inl ⟨j - sa,by omega,by omega,by rw [show sa+(j - sa)=j by omega];exact e⟩
  ·obtain ⟨j,h1,h2,e⟩:=lA hq
   exact .inr ⟨j - (sa+na),by omega,by rw [show sa+na+(j - (sa+na))=j by omega];exact e⟩
 refine ⟨?_,?_,?_⟩
 ·rw [Array.perm_iff_toList_perm,e]
  have ex:xs.toList=xs.toList.take (sa+k) ++ ((xs.toList.drop (sa+k)).take (na - k) ++ (xs.toList.drop (sa+na)).take n') ++ xs.toList.drop (sa+na+n'):=by
   conv=>lhs;rw [← Aba (sa+na) xs.toList,t1,t2]
   simp only [ZM]
  conv=>rhs;rw [ex]
  exact Aa4 _ (AaE _ hm2)
 ·have:=Vt (rk:=rk) eW ?_
  ·rw [lP,lS,← Nat.add_assoc] at this;exact this
  have s1:qd rk ((xs.toList.drop sa).take k):=by
   have:=wO (rk:=rk) (xs:=xs) (lo:=sa) (hi:=sa+k) fun i j a b c=>g1 i j a b (by omega)
   rwa [show sa+k - sa=k by omega] at this
  have s2:qd rk ((xs.toList.drop (sa+na+n')).take (nb - n')):=by
   have:=wO (rk:=rk) (xs:=xs) (lo:=sa+na+n') (hi:=sa+na+nb) fun i j a b c=>g2 i j (by omega) b c
   rwa [show sa+na+nb - (sa+na+n')=nb - n' by omega] at this
  refine Zy.mpr ⟨Zy.mpr ⟨s1,hm1,fun p hp q hq=>?_⟩,s2,fun p hp q hq=>?_⟩
  ·obtain ⟨j,h1,h2,ep⟩:=lA hp
   have a1:=hA (j - sa) (by omega);rw [show sa+(j - sa)=j by omega,kr ep] at a1;rcases memM hq with ⟨i,h3,h4,eq⟩ | ⟨i,h3,eq⟩
   ·have:=hX i h3 h4
    rw [kr eq] at this;omega
   ·have:=g2 (sa+na) (sa+na+i) (by omega) (by omega) (by omega)
    rw [kr eq] at this;omega
  ·obtain ⟨j,h1,h2,eq⟩:=lA hq
   rcases Zh.mp hp with hp | hp
   ·obtain ⟨i,h3,h4,ep⟩:=lA hp
    have a1:=hA (i - sa) (by omega);rw [show sa+(i - sa)=i by omega,kr ep] at a1;have:=g2 (sa+na) j (by omega) (by omega) (by omega);rw [kr eq] at this;omega
   ·rcases memM hp with ⟨i,h3,h4,ep⟩ | ⟨i,h3,ep⟩
    ·have a1:=g1 (sa+i) (sa+na - 1) (by omega) (by omega) (by omega)
     have a2:=hB2 (j - (sa+na)) (by omega) (by omega);rw [show sa+na+(j - (sa+na))=j by omega,kr eq] at a2;rw [kr ep] at a1;omega
    ·have:=g2 (sa+na+i) j (by omega) (by omega) (by omega)
     rw [kr ep,kr eq] at this;exact this
 ·intro i hi
  rw [vG,vG,eW];rcases hi with hi | hi
  ·rw [ZM,ZK (by omega),List.getElem?_take_of_lt hi]
  ·rw [Zx (by rw [Zv,lP,lS];omega),Zv,lP,lS,AaU,show sa+na+nb+(i - (sa+(na+nb)))=i by omega]
theorem Bf {st:SortSt} {i sa na nb pw pw2:Nat} {Q:Bool->SortSt->Prop} (L:sH M A E s kd rk a₀) (hB:SB a₀ kd st) (e1:(pendingOf st)[i]?=some (sa,na,pw)) (e2:(pendingOf st)[i+1]?=some (sa+na,nb,pw2)) (n1:1<=na) (n2:1<=nb)
  (hsz:sa+na+nb<=a₀.size) (g1:Seg rk (arrOf st) sa (sa+na)) (g2:Seg rk (arrOf st) (sa+na) (sa+na+nb))
  (h:∀ st',SB a₀ kd st'->pendingOf st'=((pendingOf st).setIfInBounds i (sa,na+nb,pw)).eraseIdxIfInBounds (i+1)->Seg rk (arrOf st') sa (sa+na+nb)->(∀ k,k < sa\/sa+na+nb<=k->Kr rk (arrOf st') k=Kr rk (arrOf st) k)->Q true st'):
  wpS M A E s (mergeAt' i) Q st:=by
 refine wpS_bind (wpS_get ?_);dsimp only;rw [e1,e2];dsimp only;have hsz':sa+na+nb<=(arrOf st).size:=by rw [hB.size];exact hsz
 refine wpS_bind (m:=set _) ?_;show wpS M A E s (modify fun _=>setPending st (((pendingOf st).setIfInBounds i (sa,na+nb,pw)).eraseIdxIfInBounds (i+1))) _ st;refine Abk ?_;obtain ⟨p0,ep0,m0⟩:=hB.at (i:=sa+na) (by omega);refine wpS_bind (aW (U:=Unit) ep0 ?_);have hmem:∀ p∈(arrOf st).toList,p∈a₀.toList:=fun p hp=>hB.mem hp
 have hK0:Kr rk (arrOf st) (sa+na)=rk p0:=cu ep0;have hB1:SB a₀ kd (setPending st (((pendingOf st).setIfInBounds i (sa,na+nb,pw)).eraseIdxIfInBounds (i+1))):=⟨hB.perm,hB.kind,hB.failed⟩;refine wpS_bind (fQ (arr:=arrOf st) (fun i=>decide (Kr rk (arrOf st) (sa+i)<=rk p0)) (by omega) (fun i R hi r=>kE L m0 hmem (by omega) hB1.kind (by simpa using r)) (fun i j hij hj hq=>Zc (Aak (g1 _ _ (by omega) (by omega) (by omega)) (ZF hq))) fun k hk hk1 hk2=>?_);dsimp only;refine aM (fun h3=>?_) (fun h3=>?_)
 ·have h3':na - k=0:=by simpa using h3
  refine wpS_pure (h _ hB1 rfl (Fj g1 g2 n2 fun i a b=>?_) fun _ _=>rfl);have:=ZF (hk1 (i - sa) (by omega));rw [show sa+(i - sa)=i by omega] at this;rw [hK0];exact this
 have h3':¬ na - k=0:=by simpa using h3
 obtain ⟨p1,ep1,m1⟩:=hB.at (i:=sa+k+(na - k) - 1) (by omega);refine wpS_bind (aW (U:=Unit) ep1 ?_);have hK1:Kr rk (arrOf st) (sa+na - 1)=rk p1:=by rw [show sa+na - 1=sa+k+(na - k) - 1 by omega];exact cu ep1
 refine wpS_bind (fQ (arr:=arrOf st) (fun i=>decide (Kr rk (arrOf st) (sa+na+i) < rk p1)) (by omega) (fun i R hi r=>kE L m1 hmem (by omega) hB1.kind (by simpa using r)) (fun i j hij hj hq=>Zc (Abs (g2 _ _ (by omega) (by omega) (by omega)) (ZF hq))) fun n' hn' hn1 hn2=>?_);dsimp only
 have hB2:∀ i,n'<=i->i < nb->Kr rk (arrOf st) (sa+na - 1)<=Kr rk (arrOf st) (sa+na+i):=fun i a b=>by
  have:=Aas (hn2 i a b);rw [hK1];omega
 refine aM (fun h4=>?_) (fun h4=>?_)
 ·have h4':n'=0:=by simpa using h4
  refine wpS_pure (h _ hB1 rfl (Fj g1 g2 n2 fun i a b=>?_) fun _ _=>rfl);have a1:=g1 i (sa+na - 1) a (by omega) (by omega);have a2:=hB2 0 (by omega) (by omega);exact Aak a1 a2
 have h4':¬ n'=0:=by simpa using h4
 have hA:∀ i,i < k->Kr rk (arrOf st) (sa+i)<=Kr rk (arrOf st) (sa+na):=fun i hi=>by rw [hK0];exact ZF (hk1 i hi)
 have hX:∀ i,k<=i->i < na->Kr rk (arrOf st) (sa+na) < Kr rk (arrOf st) (sa+i):=fun i a b=>by
  have:=Aas (hk2 i a b);rw [hK0];omega
 have memX:∀ p∈((arrOf st).extract (sa+k) (sa+na)).toList,∃ j,sa+k<=j/\j < sa+na/\(arrOf st)[j]?=some p:=fun p hp=>by
  rw [jk _ (by omega)] at hp;obtain ⟨j,a,b,c⟩:=lA hp;exact ⟨j,a,by omega,c⟩
 have memY:∀ p∈((arrOf st).extract (sa+na) (sa+na+n')).toList,∃ j,sa+na<=j/\j < sa+na+n'/\(arrOf st)[j]?=some p:=fun p hp=>by
  rw [jk _ (by omega)] at hp;obtain ⟨j,a,b,c⟩:=lA hp;exact ⟨j,a,by omega,c⟩
 have fin:∀ (m:Array Keyed) (st2:SortSt),Sm (setPending st (((pendingOf st).setIfInBounds i (sa,na+nb,pw)).eraseIdxIfInBounds (i+1))) st2->Res rk ((arrOf st).extract (sa+k) (sa+na)) ((arrOf st).extract (sa+na) (sa+na+n')) m->
   wpS M A E s (do
    modify fun s=>setArr s (List.foldl (fun a (x:Keyed×Nat)=>a.setIfInBounds (sa+k+x.snd) x.fst) (arrOf s) m.toList.zipIdx)
    let __do_lift ← get
    pure (failedOf __do_lift).isNone) Q st2:=fun m st2 S R=>by
  obtain ⟨q1,q2,q3⟩:=HQ hsz' g1 g2 (by omega) hn' n2 hA hX hB2 R;refine wpS_bind (Abk (wpS_bind (wpS_get (wpS_pure ?_))));have ea:arrOf st2=arrOf st:=S.arr;have ef:failedOf st2=none:=S.failed.trans hB.failed;show Q (failedOf st2).isNone _;rw [ef];refine h _ ⟨?_,S.kind.trans hB.kind,ef⟩ S.pend ?_ ?_
  ·show (List.foldl _ (arrOf st2) _).Perm a₀
   rw [ea];exact q1.trans hB.perm
  ·show Seg rk (List.foldl _ (arrOf st2) _) _ _
   rw [ea];exact q2
  ·intro k' hk'
   show Kr rk (List.foldl _ (arrOf st2) _) _=_;rw [ea];exact q3 k' hk'
 have szX:((arrOf st).extract (sa+k) (sa+na)).size=na - k:=by rw [Array.size_extract];omega
 have szY:((arrOf st).extract (sa+na) (sa+na+n')).size=n':=by rw [Array.size_extract];omega
 have haX:∀ p∈((arrOf st).extract (sa+k) (sa+na)).toList,p∈a₀.toList:=fun p hp=>by
  obtain ⟨j,_,_,e⟩:=memX p hp;exact hmem p (by rw [← (Zk.mp e).2];simp)
 have haY:∀ p∈((arrOf st).extract (sa+na) (sa+na+n')).toList,p∈a₀.toList:=fun p hp=>by
  obtain ⟨j,_,_,e⟩:=memY p hp;exact hmem p (by rw [← (Zk.mp e).2];simp)
 have SX:qd rk ((arrOf st).extract (sa+k) (sa+na)).toList:=by
  rw [jk _ (by omega)];exact wO fun i j a b c=>g1 i j (by omega) b c
 have SY:qd rk ((arrOf st).extract (sa+na) (sa+na+n')).toList:=by
  rw [jk _ (by omega)];exact wO fun i j a b c=>g2 i j (by omega) b (by omega)
 have hf:∀ p,((arrOf st).extract (sa+na) (sa+na+n'))[0]?=some p->∀ q∈((arrOf st).extract (sa+k) (sa+na)).toList,rk p<=rk q:=fun p ep q hq=>by
  rw [Array.getElem?_extract,if_pos (by omega),Nat.add_zero] at ep;obtain ⟨j,a,b,c⟩:=memX q hq;have:=hX (j - sa) (by omega) (by omega);rw [show sa+(j - sa)=j by omega,cu c,cu ep] at this;omega
 have hl:∀ p,((arrOf st).extract (sa+k) (sa+na))[((arrOf st).extract (sa+k) (sa+na)).size - 1]?=some p->∀ q∈((arrOf st).extract (sa+na) (sa+na+n')).toList,rk q<=rk p:=fun p ep q hq=>by
  rw [szX,Array.getElem?_extract,if_pos (by omega),show sa+k+(na - k - 1)=sa+k+(na - k) - 1 by omega,ep1] at ep;have ep:p1=p:=Zm ep;obtain ⟨j,a,b,c⟩:=memY q hq;have:=ZF (hn1 (j - (sa+na)) (by omega));rw [show sa+na+(j - (sa+na))=j by omega,cu c] at this;rw [← ep];omega
 refine aM (fun _=>?_) (fun _=>?_)
 ·exact wpS_bind (Bb (a:=(arrOf st).extract (sa+k) (sa+na)) (b:=(arrOf st).extract (sa+na) (sa+na+n')) L haX haY SX SY (by omega) (by omega) hf hl hB1.kind fun r st2 S R=>fin r st2 S R)
 ·exact wpS_bind (Be (a:=(arrOf st).extract (sa+k) (sa+na)) (b:=(arrOf st).extract (sa+na) (sa+na+n')) L haX haY SX SY (by omega) (by omega) hf hl hB1.kind fun r st2 S R=>fin r st2 S R)
def Runs (rk:Keyed->Int) (xs:Array Keyed):List (Nat×Nat×Nat)->Nat->Nat->Prop
 | [],s,e=>s=e
 | (st,n,_) :: l,s,e=>st=s/\1<=n/\Seg rk xs s (s+n)/\Runs rk xs l (s+n) e
theorem Runs.le {xs:Array Keyed}:∀ {l:List (Nat×Nat×Nat)} {s e:Nat},Runs rk xs l s e->s+l.length<=e
 | [],s,e,h=>Nat.le_of_eq h
 | (st,n,p) :: l,s,e,⟨_,h1,_,h2⟩=>by
  have:=Runs.le h2;show s+(l.length+1)<=e;omega
theorem Runs.app {xs:Array Keyed}:∀ {l:List (Nat×Nat×Nat)} {m:List (Nat×Nat×Nat)} {s e:Nat},Runs rk xs (l ++ m) s e↔∃ k,Runs rk xs l s k/\Runs rk xs m k e
 | [],m,s,e=>⟨fun h=>⟨s,rfl,h⟩,fun ⟨k,h1,h2⟩=>by
   have h1:s=k:=h1;subst h1;exact h2⟩
 | (st,n,p) :: l,m,s,e=>⟨fun ⟨h1,h2,h3,h4⟩=>by
   obtain ⟨k,h5,h6⟩:=Runs.app.mp h4;exact ⟨k,⟨h1,h2,h3,h5⟩,h6⟩,fun ⟨k,⟨h1,h2,h3,h4⟩,h5⟩=>⟨h1,h2,h3,Runs.app.mpr ⟨k,h4,h5⟩⟩⟩
theorem Runs.congr {xs ys:Array Keyed}:∀ {l:List (Nat×Nat×Nat)} {s e:Nat},(∀ k,s<=k->k < e->Kr rk ys k=Kr rk xs k)->Runs rk xs l s e->Runs rk ys l s e
 | [],s,e,_,h=>h
 | (st,n,p) :: l,s,e,hk,⟨h1,h2,h3,h4⟩=>by
  have hle:=Runs.le h4;refine ⟨h1,h2,fun i j a b c=>?_,Runs.congr (fun k a b=>hk k (by omega) b) h4⟩;rw [hk i (by omega) (by omega),hk j (by omega) (by omega)];exact h3 i j a b c
theorem Vu {α:Type} {l:List α} {i:Nat} (h:i+1 < l.length):∃ P a b D,l=P ++ a :: b :: D/\P.length=i:=by
 refine ⟨l.take i,l[i],l[i+1],l.drop (i+2),?_,by rw [Aac];omega⟩
 conv=>lhs;rw [← Aba i l]
 rw [ZW (by omega),ZW h]
theorem qQ {st:SortSt} {i lo:Nat} {Q:Bool->SortSt->Prop} (L:sH M A E s kd rk a₀) (hB:SB a₀ kd st) (hR:Runs rk (arrOf st) (pendingOf st).toList 0 lo) (hi:i+1 < (pendingOf st).size) (hlo:lo<=a₀.size)
  (h:∀ st',SB a₀ kd st'->Runs rk (arrOf st') (pendingOf st').toList 0 lo->(pendingOf st').size+1=(pendingOf st).size->(∀ k,lo<=k->Kr rk (arrOf st') k=Kr rk (arrOf st) k)->Q true st'):wpS M A E s (mergeAt' i) Q st:=by
 obtain ⟨P,⟨sa,na,pw⟩,⟨sb,nb,pw2⟩,D,e,hP⟩:=Vu (l:=(pendingOf st).toList) (i:=i) (by simpa using hi);have hR0:=hR;rw [e] at hR;obtain ⟨k,r1,h1,n1,g1,h2,n2,g2,r2⟩:=Runs.app.mp hR;subst h1 h2;have le1:=r1.le;have le2:=r2.le;have e1:(pendingOf st)[i]?=some (sa,na,pw):=by rw [← Aad,e,Zx (by omega),hP,AaO];rfl
 have e2:(pendingOf st)[i+1]?=some (sa+na,nb,pw2):=by rw [← Aad,e,Zx (by omega),hP,show i+1 - i=1 by omega];rfl
 refine Bf L hB e1 e2 n1 n2 (by omega) g1 g2 fun st' hB' hp hS hF=>?_
 have tl:(pendingOf st').toList=P ++ (sa,na+nb,pw) :: D:=by
  rw [hp,Array.toList_eraseIdxIfInBounds,Array.toList_setIfInBounds,e,List.set_append_right _ _ (by omega),hP,AaO,List.set_cons_zero,List.eraseIdx_append_of_length_le (by omega),hP,show i+1 - i=1 by omega];rfl
 refine h st' hB' ?_ ?_ fun k hk=>hF k (.inr (by omega))
 ·rw [tl]
  refine Runs.app.mpr ⟨sa,Runs.congr (fun k a b=>hF k (.inl b)) r1,rfl,by omega,by rw [← Nat.add_assoc];exact hS,?_⟩;rw [← Nat.add_assoc];exact Runs.congr (fun k a b=>hF k (.inr a)) r2
 ·have l1:=congrArg List.length tl
  have l2:=congrArg List.length e;simp at l1 l2;omega
theorem Runs.mod {xs:Array Keyed} {f:Nat×Nat×Nat->Nat×Nat×Nat} (hf:∀ q,(f q).1=q.1/\(f q).2.1=q.2.1):∀ {l:List (Nat×Nat×Nat)} {i s e:Nat},Runs rk xs l s e->Runs rk xs (l.modify i f) s e
 | [],i,s,e,h=>by rw [List.modify_nil];exact h
 | (st,n,p) :: l,0,s,e,⟨h1,h2,h3,h4⟩=>by
  rw [List.modify_zero_cons];obtain ⟨a,b⟩:=hf (st,n,p);generalize f (st,n,p)=q at a b;obtain ⟨x,y,z⟩:=q;dsimp only at a b;subst a b;exact ⟨h1,h2,h3,h4⟩
 | (st,n,p) :: l,i+1,s,e,⟨h1,h2,h3,h4⟩=>by
  rw [List.modify_succ_cons];exact ⟨h1,h2,h3,Runs.mod hf h4⟩
theorem HR {st:SortSt} {Q:Unit->SortSt->Prop} (L:sH M A E s kd rk a₀) (hB:SB a₀ kd st) (hp:pendingOf st= #[]) (h2:2<=a₀.size)
  (h:∀ st',SB a₀ kd st'->Seg rk (arrOf st') 0 a₀.size->Q () st'):wpS M A E s sortRuns' Q st:=by
 rw [sortRuns'_eq];refine wpS_bind (wpS_get ?_);dsimp only;generalize minRun' (arrOf st).size (arrOf st).size 0=mr;rw [hB.size]
 refine wpS_bind (wpS_mono (Aao
  (I:=fun x c st'=>∃ lo,c=(none,lo)/\SB a₀ kd st'/\Runs rk (arrOf st') (pendingOf st').toList 0 lo/\lo<=a₀.size/\x<=lo)
  (Q:=fun c st'=>c=(none,a₀.size)/\SB a₀ kd st'/\Runs rk (arrOf st') (pendingOf st').toList 0 a₀.size) ?step ?fin ⟨0,rfl,hB,by rw [hp];rfl,by omega,by omega⟩) ?post)
 case fin=>
  rintro c st' ⟨lo,rfl,hB',hR,a,b⟩;obtain rfl:lo=a₀.size:=by omega
  exact ⟨rfl,hB',hR⟩
 case step=>
  rintro x c st' _ hx ⟨lo,rfl,hB',hR,a,b⟩;dsimp only;by_cases hge:lo>=a₀.size
  ·rw [if_pos hge]
   obtain rfl:lo=a₀.size:=by omega
   exact wpS_pure ⟨rfl,hB',hR⟩
  rw [if_neg hge];refine wpS_bind (Dl (rk:=rk) L (by omega) (by omega) hB' fun m st1 N1 m1 m2 S1=>?_);dsimp only
  have R1:Runs rk (arrOf st1) (pendingOf st1).toList 0 lo:=by
   rw [N1.pe];exact Runs.congr (fun k _ hk=>N1.fr k hk) hR
  by_cases hmr:m < mr
  ·rw [if_pos hmr]
   refine wpS_bind (wpS_lift (Abj ⟨rfl,?_⟩));refine wpS_bind (Ma L (by omega) (by omega) N1.sb S1 fun st2 N2 S2=>?_);rw [if_neg (by decide)]
   have R2:Runs rk (arrOf st2) (pendingOf st2).toList 0 lo:=by
    rw [N2.pe];exact Runs.congr (fun k _ hk=>N2.fr k hk) R1
   have B2:=N2.sb;have N1:1<=min (a₀.size - lo) mr:=by omega
   have LE:lo+min (a₀.size - lo) mr<=a₀.size:=by omega
   refine wpS_bind (wpS_get ?_);rcases hbk:(pendingOf st2).back? with _ | ⟨s1,n1,p1⟩
   ·dsimp only
    refine wpS_bind (Abk (wpS_pure ⟨_,rfl,⟨B2.perm,B2.kind,B2.failed⟩,?_,LE,by omega⟩));show Runs rk (arrOf st2) ((pendingOf st2).push _).toList 0 _;rw [AbC];exact Runs.app.mpr ⟨lo,R2,rfl,N1,S2,rfl⟩
   ·dsimp only
    refine wpS_bind (wpS_mono (Aao (I:=fun _ c st3=>c=(none,())/\SB a₀ kd st3/\Runs rk (arrOf st3) (pendingOf st3).toList 0 lo/\Seg rk (arrOf st3) lo (lo+min (a₀.size - lo) mr))
     (Q:=fun c st3=>c=(none,())/\SB a₀ kd st3/\Runs rk (arrOf st3) (pendingOf st3).toList 0 lo/\Seg rk (arrOf st3) lo (lo+min (a₀.size - lo) mr)) ?_ (fun _ _ hh=>hh) ⟨rfl,B2,R2,S2⟩) ?_)
    ·rintro y c st3 _ _ ⟨rfl,B3,R3,S3⟩
     refine wpS_bind (wpS_get ?_);by_cases hs1:(pendingOf st3).size > 1
     ·rw [if_pos hs1,Aat (pendingOf st3) ((pendingOf st3).size - 2) (by omega)]
      generalize (pendingOf st3)[(pendingOf st3).size - 2]=pq;obtain ⟨q1,q2,q3⟩:=pq;dsimp only;refine aM (fun _=>wpS_pure ⟨rfl,B3,R3,S3⟩) (fun _=>?_);refine wpS_bind (qQ L B3 R3 (by omega) a fun st4 B4 R4 _ F4=>?_);rw [if_neg (by decide)];refine wpS_pure ⟨rfl,B4,R4,fun i j h5 h6 h7=>?_⟩;rw [F4 i h5,F4 j (by omega)];exact S3 i j h5 h6 h7
     ·rw [if_neg hs1]
      exact wpS_pure ⟨rfl,B3,R3,S3⟩
    ·rintro c st3 ⟨rfl,B3,R3,S3⟩
     dsimp only;refine wpS_bind (Abk (wpS_bind (Abk (wpS_pure ⟨_,rfl,⟨B3.perm,B3.kind,B3.failed⟩,?_,LE,by omega⟩))));show Runs rk (arrOf st3) (((pendingOf st3).modify _ _).push _).toList 0 _;rw [AbC,Array.toList_modify];refine Runs.app.mpr ⟨lo,?_,rfl,N1,S3,rfl⟩;refine Runs.mod ?_ R3;exact fun q=>⟨rfl,rfl⟩
  ·rw [if_neg hmr]
   obtain ⟨st2,rfl⟩:∃ st2,st1=st2:=⟨_,rfl⟩;have R2:=R1;have S2:=S1;have B2:=N1.sb;have N1:=m1;have LE:lo+m<=a₀.size:=by omega
   refine wpS_bind (wpS_get ?_);rcases hbk:(pendingOf st1).back? with _ | ⟨s1,n1,p1⟩
   ·dsimp only
    refine wpS_bind (Abk (wpS_pure ⟨_,rfl,⟨B2.perm,B2.kind,B2.failed⟩,?_,LE,by omega⟩));show Runs rk (arrOf st1) ((pendingOf st1).push _).toList 0 _;rw [AbC];exact Runs.app.mpr ⟨lo,R2,rfl,N1,S2,rfl⟩
   ·dsimp only
    refine wpS_bind (wpS_mono (Aao (I:=fun _ c st3=>c=(none,())/\SB a₀ kd st3/\Runs rk (arrOf st3) (pendingOf st3).toList 0 lo/\Seg rk (arrOf st3) lo (lo+m))
     (Q:=fun c st3=>c=(none,())/\SB a₀ kd st3/\Runs rk (arrOf st3) (pendingOf st3).toList 0 lo/\Seg rk (arrOf st3) lo (lo+m)) ?_ (fun _ _ hh=>hh) ⟨rfl,B2,R2,S2⟩) ?_)
    ·rintro y c st3 _ _ ⟨rfl,B3,R3,S3⟩
     refine wpS_bind (wpS_get ?_);by_cases hs1:(pendingOf st3).size > 1
     ·rw [if_pos hs1,Aat (pendingOf st3) ((pendingOf st3).size - 2) (by omega)]
      generalize (pendingOf st3)[(pendingOf st3).size - 2]=pq;obtain ⟨q1,q2,q3⟩:=pq;dsimp only;refine aM (fun _=>wpS_pure ⟨rfl,B3,R3,S3⟩) (fun _=>?_);refine wpS_bind (qQ L B3 R3 (by omega) a fun st4 B4 R4 _ F4=>?_);rw [if_neg (by decide)];refine wpS_pure ⟨rfl,B4,R4,fun i j h5 h6 h7=>?_⟩;rw [F4 i h5,F4 j (by omega)];exact S3 i j h5 h6 h7
     ·rw [if_neg hs1]
      exact wpS_pure ⟨rfl,B3,R3,S3⟩
    ·rintro c st3 ⟨rfl,B3,R3,S3⟩
     dsimp only;refine wpS_bind (Abk (wpS_bind (Abk (wpS_pure ⟨_,rfl,⟨B3.perm,B3.kind,B3.failed⟩,?_,LE,by omega⟩))));show Runs rk (arrOf st3) (((pendingOf st3).modify _ _).push _).toList 0 _;rw [AbC,Array.toList_modify];refine Runs.app.mpr ⟨lo,?_,rfl,N1,S3,rfl⟩;refine Runs.mod ?_ R3;exact fun q=>⟨rfl,rfl⟩
 case post=>
  rintro c st' ⟨rfl,hB',hR⟩;dsimp only;have hle:=hR.le
  refine wpS_bind (wpS_mono (Aao (I:=fun x c st3=>c=(none,())/\SB a₀ kd st3/\Runs rk (arrOf st3) (pendingOf st3).toList 0 a₀.size/\(pendingOf st3).size+x<=a₀.size)
   (Q:=fun c st3=>c=(none,())/\SB a₀ kd st3/\Runs rk (arrOf st3) (pendingOf st3).toList 0 a₀.size/\(pendingOf st3).size<=1) ?_ ?_ ⟨rfl,hB',hR,by simp at hle;omega⟩) ?_)
  ·rintro y c st3 _ hy ⟨rfl,B3,R3,P3⟩
   refine wpS_bind (wpS_get ?_);by_cases hs1:(pendingOf st3).size<=1
   ·rw [if_pos hs1]
    exact wpS_pure ⟨rfl,B3,R3,hs1⟩
   ·rw [if_neg hs1]
    refine wpS_bind (qQ L B3 R3 ?_ (Y4 _) fun st4 B4 R4 P4 _=>?_)
    ·have gen:∀ (c:Prop) [Decidable c],(if c then (pendingOf st3).size - 2 - 1 else (pendingOf st3).size - 2)+1 < (pendingOf st3).size:=fun c _=>by split <;> omega
     exact gen _
    ·rw [if_neg (by decide)]
     exact wpS_pure ⟨rfl,B4,R4,by omega⟩
  ·rintro c st3 ⟨rfl,B3,R3,P3⟩
   exact ⟨rfl,B3,R3,by omega⟩
  ·rintro c st3 ⟨rfl,B3,R3,P3⟩
   refine wpS_pure (h st3 B3 ?_);have hl:(pendingOf st3).toList.length<=1:=by simpa using P3
   generalize (pendingOf st3).toList=l at hl R3
   match l,hl,R3 with
   | [],_,R3=>
    have:0=a₀.size:=R3;omega
   | [(x,n,p)],_,⟨h5,h6,h7,h8⟩=>
    have h8:0+n=a₀.size:=h8;rw [h8] at h7;exact h7
end
end L2
namespace L2
open PySem PySem.W PySem.Spec PyProof.Rows
section
variable {prog:Program} {w:World} {A:Around} {E:Value->Shared->Prop} {s:Shared}
theorem jE {vs:List Value} {p:Keyed} (h:p∈(vs.toArray.zip vs.toArray).toList):p.1=p.2/\p.1∈vs:=by
 rw [Array.toList_zip] at h;exact mem_zip_self h
theorem Ml {a:Addr} {vs:List Value} {n:Nat} {κ:SortKind} {rv:Value->Int} {P:PySem.Fin->Shared->Prop}
  (ho:s.heap.get? a=some (seqObj "list" vs.toArray n)) (few:vs.length<=100000)
  (hK:2<=vs.length->∀ (s':Shared) (R:SortKind->Shared->Prop),X3 a s.heap s'.heap->R κ s'->wpAny (model prog w) A (keyKind' vs.toArray) R E s')
  (hC:∀ (s':Shared) (x y:Value) (R:Bool->Shared->Prop) (E':Value->Shared->Prop),X3 a s.heap s'.heap->x∈vs->y∈vs->R (decide (rv x < rv y)) s'->wpAny (model prog w) A (keyLt' κ x y) R E' s')
  (h:∀ out:List Value,out.Perm vs->(out.Pairwise fun x y=>rv x<=rv y)->P (.done (.ret .none)) {s with heap:=sortedHeap s.heap a vs out.toArray}):
  wpAny (model prog w) A (Builtin.«list.sort» ⟨[.ref a],[]⟩) P E s:=by
 rw [list_sort_plain];refine YW (listItems_at ho rfl (YW (listUpdate_at ho rfl ?_)));obtain ⟨k,hk⟩:∃ k,(s.heap.update a (Obj.mapSeq fun _=>#[])).get? a=some (seqObj "list" #[] k):=⟨_,get?_update_seq ho (fun _=>#[])⟩;refine YW (seqEpoch_at hk rfl (YW (wpAny_newTuple (YW (wpAny_newList (Z2 ?_))))));have hk2:=YZ (seqObj "list" #[] 0) (YZ (seqObj "tuple" vs.toArray 0) hk);have bt:=Hy (h:=s.heap) (a:=a) (f:=Obj.mapSeq fun _=>#[]) (x:=seqObj "tuple" vs.toArray 0) (y:=seqObj "list" #[] 0);show wpAny (model prog w) A _ P E {s with heap:=(((s.heap.update a (Obj.mapSeq fun _=>#[])).push (seqObj "tuple" vs.toArray 0)).push (seqObj "list" #[] 0))};generalize hS:({s with heap:=(((s.heap.update a (Obj.mapSeq fun _=>#[])).push (seqObj "tuple" vs.toArray 0)).push (seqObj "list" #[] 0))}:Shared)=s2;dsimp only;have sz:vs.toArray.size=vs.length:=by simp
 have hs:200000<=sizeLine:=by decide
 have hk3:s2.heap.get? a=some (seqObj "list" #[] k):=by rw [← hS];exact hk2
 have bt2:X3 a s.heap s2.heap:=by rw [← hS];exact bt
 have fin:∀ out:List Value,out.Perm vs->(out.Pairwise fun x y=>rv x<=rv y)->P (.done (.ret .none)) {s2 with heap:=s2.heap.update a (Obj.mapSeq fun _=>out.toArray)}:=fun out h1 h2=>by
  rw [← hS];exact h out h1 h2
 by_cases h2:vs.toArray.size < 2
 ·rw [if_pos h2,if_pos h2]
  refine YW (Y5 ?_);rw [StateT.run_pure];refine YW (Y5 ?_);dsimp only;have ez:(arrOf (SortSt.mk' general' (vs.toArray.zip vs.toArray) #[] 7 none)).map (·.2)=vs.toArray:=Fe vs;rw [ez];refine YW (seqEpoch_at hk3 rfl (YW (listUpdate_at hk3 rfl ?_ (hsz2:=by rw [sz];omega))));simp only [bne_self_eq_false,Z4,if_false];refine Y5 (fin vs (List.Perm.refl _) ?_)
  match vs,h2 with
  | [],_=>exact List.Pairwise.nil
  | [_],_=>exact Aa0 _ _
  | _ :: _ :: _,h2=>simp at h2;omega
 ·rw [if_neg h2,if_neg h2]
  refine YW (hK (by omega) _ _ bt2 ?_)
  have L:sH (model prog w) A E s2 κ (fun p=>rv p.1) (vs.toArray.zip vs.toArray):=fun p q st R hp hq hkd hr=>by
   rw [lt'_eq];refine wpS_bind (wpS_get ?_);rw [hkd];refine wpS_bind (wpS_lift (AaV (hC _ _ _ _ _ bt2 (jE hp).2 (jE hq).2 ⟨rfl,?_⟩)));exact wpS_pure hr
  refine YW (Aal (HR (st:=SortSt.mk' κ (vs.toArray.zip vs.toArray) #[] 7 none) (Q:=fun _ st'=>SB (vs.toArray.zip vs.toArray) κ st'/\Seg (fun p=>rv p.1) (arrOf st') 0 (vs.toArray.zip vs.toArray).size)
   L ⟨Array.Perm.refl _,rfl,rfl⟩ rfl (by rw [Array.size_zip];omega) fun st' a1 a2=>⟨a1,a2⟩) ?_ fun _ _ e=>e)
  rintro ⟨⟨⟩,st'⟩ s' ⟨rfl,hB,hg⟩;dsimp only;dsimp only at hB hg
  have hp:((arrOf st').map (·.2)).toList.Perm vs:=by
   rw [Array.toList_map];refine ((Array.perm_iff_toList_perm.mp hB.perm).map _).trans (List.Perm.of_eq ?_);rw [← Array.toList_map,Fe]
  have hz:(vs.toArray.zip vs.toArray).size=vs.length:=by rw [Array.size_zip];omega
  have hpw:((arrOf st').map (·.2)).toList.Pairwise fun x y=>rv x<=rv y:=by
   rw [Array.toList_map];have:=wO hg;rw [AbL,AaM,ZC (by rw [ZG,hB.size];exact Y4 _)] at this;rw [Aa1];refine this.imp_of_mem fun {p q} hp hq hpq=>?_
   rw [← (jE (hB.mem hp)).1,← (jE (hB.mem hq)).1];exact hpq
  refine YW (seqEpoch_at hk3 rfl (YW (listUpdate_at hk3 rfl ?_ (hsz2:=by
   have:=hp.length_eq;rw [ZG] at this;show ((arrOf st').map (·.2)).size<=_;omega))))
  rw [hB.failed];simp only [bne_self_eq_false,Z4,if_false];refine Y5 ?_;have:=fin _ hp hpw;rwa [Array.toArray_toList] at this
end
theorem wQ {vs:List Value} {ns:List Int} (h:IntsAre vs ns) {v:Value} (hv:v∈vs):∃ n t,v= .int n t:=h.all v hv
end L2
namespace L2
open PySem PySem.Spec PyProof.Rows
theorem yt:Manifest.owners.lookup (String.ofList ['d','e','s','r','e','v','e','r'].reverse)=some Manifest.sig_reversed:=by kernel_rfl
theorem gn:Slot "reversed" "__next__" "reversed.__next__":=
 .of (owner:="reversed") (n:="__next__") (by rw [Abv,AaR];kernel_rfl) (by trivial) (by trivial) (by trivial)
  (by first | exact .inl (by trivial) | exact .inr (by trivial)) (by rw [AbF];kernel_rfl)
theorem o5:entryFor table "reversed.__next__"=some Builtin.«reversed.__next__»:=entryFor_of_tree (by kernel_rfl)
theorem qy (a:Value):argsOk "reversed.__next__" ⟨[a],[]⟩:=by
 unfold argsOk;rw [signature?_of (id:="reversed.__next__") (n:=['_','_','t','x','e','n','_','_']) (o:=['d','e','s','r','e','v','e','r']) (by kernel_rfl) yt];kernel_rfl
theorem qz:Slot "reversed" "__iter__" "reversed.__iter__":=
 .of (owner:="reversed") (n:="__iter__") (by rw [Abv,AaR];kernel_rfl) (by trivial) (by trivial) (by trivial)
  (by first | exact .inl (by trivial) | exact .inr (by trivial)) (by rw [AbF];kernel_rfl)
theorem xH (a:Value):argsOk "reversed.__iter__" ⟨[a],[]⟩:=by
 unfold argsOk;rw [signature?_of (id:="reversed.__iter__") (n:=['_','_','r','e','t','i','_','_']) (o:=['d','e','s','r','e','v','e','r']) (by kernel_rfl) yt];kernel_rfl
theorem wR:entryFor table "reversed.__iter__"=some Builtin.«dict_keyiterator.__iter__»:=
 entryFor_alias (id':="dict_keyiterator.__iter__") (by kernel_rfl) (by first | rfl | trivial | (unfold String.splitOn;simp+decide [String.splitOnAux])) (by trivial) (by kernel_rfl)
theorem uf:typeLookup (.type "tuple") "__reversed__"=pure none:=by rw [Abv,AaR];kernel_rfl
theorem sub_tuple_dict:isSubtype (.type "tuple") (.type "dict")=pure false:=by rw [AbF];kernel_rfl
theorem xJ:Slot "reversed" "__init__" "object.__init__":=
 .of (owner:="object") (n:="__init__") (by rw [Abv,AaR];kernel_rfl) (by trivial) (by trivial) (by trivial)
  (by first | exact .inl (by trivial) | exact .inr (by trivial)) (by rw [AbF];kernel_rfl)
theorem qR:TypeCalled "reversed" "reversed.__new__" "object.__init__":=
 ⟨by trivial,F.create_reversed,⟨_,_,F.mro_reversed⟩,F.made_reversed,F.plain_reversed_new,F.sub_reversed_self,xJ⟩
section
variable {prog:Program} {w:World} {A:Around} {E:Value->Shared->Prop} {s:Shared}
def qT (l:Addr) (i:Int):Obj:={cls:=.type "reversed",data:=.fields #[.ref l,rawInt i]}
def IsRvd (h:Heap) (a l:Addr) (i:Int):Prop:=∃ o,h.get? a=some o/\o.cls= .type "reversed"/\o.data= .fields #[.ref l,rawInt i]
theorem IsRvd.typeIs {a l:Addr} {i:Int} (x:IsRvd s.heap a l i):s.TypeIs (.ref a) "reversed":=let ⟨o,ho,hc,_⟩:=x;⟨o,ho,hc⟩
theorem IsRvd.at {h h':Heap} {a l:Addr} {i:Int} (x:IsRvd h a l i) (e:∀ o,h.get? a=some o->h'.get? a=some o):IsRvd h' a l i:=let ⟨o,ho,r⟩:=x;⟨o,e _ ho,r⟩
theorem Mm {l:Addr} {items:Array Value} {Q₁:Value->Shared->Prop} (hl:IsTup s.heap l items) (hz:items.size < 2 ^ 62)
  (h:∀ k,Q₁ (.ref s.heap.objs.size) {s with heap:=s.heap.push (qT l ((items.size:Int) - 1)),toks:=k}):
  codeAny (model prog w) A (.call (.builtin "reversed.__new__") ⟨[.type "reversed",.ref l],[]⟩) (wants Q₁ E) s:=by
 refine codeAny_of_tree ?_;show wpAny _ A.in1 (do checkBuiltinCall "reversed.__new__" ⟨[.type "reversed",.ref l],[]⟩;again (.builtin "reversed.__new__" ⟨[.type "reversed",.ref l],[]⟩)) _ _ s;refine YW (AaH (F.newCall_reversed_1 _) (Y5 ⟨AbQ F.plain_reversed_new _,Abw F.entry_reversed_new ?_⟩));rw [AbH F.plain_reversed_new _];unfold Builtin.«reversed.__new__»;refine YW (AaH (newClass_reversed _) ?_);try dsimp only
 refine YW (AaH (a:=()) (by first | rfl | kernel_rfl) ?_);refine YW (AaH (a:=()) (by first | rfl | kernel_rfl) ?_);try dsimp only
 refine YW (Abu hl.typeIs uf ?_);try dsimp only
 refine YW ?_;refine YW (AbK hl.typeIs sub_tuple_dict ?_);rw [if_neg (by decide)];refine YW (Abu hl.typeIs F.slot_tuple_getitem.lookup ?_);dsimp only;rw [if_pos (by trivial)];refine Y5 ?_;rw [if_neg (by decide)];refine YW (len_tuple hl (by omega) ?_);refine YW (AaH (a:=some ((items.size:Nat):Int)) rfl ?_);dsimp only;refine YW ?_;unfold Builtin.SmallTypes.newRecord;refine Aaq ?_;exact Y5 (h _)
theorem Mp {l:Addr} {items:Array Value} {Q:Value->Shared->Prop} (hl:IsTup s.heap l items) (hz:items.size < 2 ^ 62)
  (h:∀ k,Q (.ref s.heap.objs.size) {s with heap:=s.heap.push (qT l ((items.size:Int) - 1)),toks:=k}):wpAny (model prog w) A (call (.type "reversed") [.ref l]) Q E s:=by
 refine callType_codes qR (F.typeCall_reversed_1 _) F.entry_object_init (Mm (Q₁:=fun obj s₁=>obj= .ref s.heap.objs.size/\∃ k,s₁={s with heap:=s.heap.push (qT l ((items.size:Int) - 1)),toks:=k}) hl hz fun k=>⟨rfl,k,rfl⟩) ?_;rintro obj s₁ ⟨rfl,k,rfl⟩;have hT:Shared.TypeIs {s with heap:=s.heap.push (qT l ((items.size:Int) - 1)),toks:=k} (.ref s.heap.objs.size) "reversed":=⟨_,Y8 _ rfl,rfl⟩;exact ⟨hT,F.args_object_init_2 _ _,(object_init_meets qR.init.lookup qR.made (by decide)) prog w A.in1 _ _ ⟨hT,rfl,h k⟩⟩
theorem Mq {it l:Addr} {i:Nat} {items:Array Value} {x:Value} {Q:Option Value->Shared->Prop} (hit:IsRvd s.heap it l (i:Int)) (hl:IsTup s.heap l items) (hx:items[i]?=some x) (hz:items.size < 2 ^ 62)
  (hQ:∀ h' k,IsRvd h' it l ((i:Int) - 1)->Heap.SameBut it s.heap h'->Q (some x) {s with heap:=h',toks:=k}):wpAny (model prog w) A (pyNext (.ref it)) Q E s:=by
 obtain ⟨o,ho,hc,hd⟩:=id hit;have hi:i < items.size:=(Zk.mp hx).1;unfold pyNext
 refine YW (AaV (Aae (name:=Str.ofString "__next__") hit.typeIs gn
  (Aav gn hit.typeIs o5 ?_ (qy _))))
 unfold Builtin.«reversed.__next__»;refine YW (AaH (a:=(Value.ref it,[])) rfl ?_);try dsimp only
 refine YW (Z8 ho hd (x:=.ref l) rfl ?_);refine YW (Z8 ho hd (x:=rawInt (i:Int)) rfl ?_);show wpAny _ _ (if (i:Int) < 0 then _ else _) _ _ s;rw [if_neg (by omega)];refine YW (Abu hl.typeIs F.slot_tuple_getitem.lookup ?_);rw [if_neg (by decide)];refine YW (wpAny_mkInt ?_);refine YW (AaV (getItem_tuple (j:=i) hl (by omega) (by omega) ?_ hx ?_))
 ·unfold seqIndex?
  simp;omega
 dsimp only;refine YW (Z8 (s:={s with toks:=s.toks+1}) ho hd (x:=rawInt (i:Int)) rfl ?_);refine YW (Abp (s:={s with toks:=s.toks+1}) ho hd (by simp) ?_);refine Y5 ⟨x,rfl,Y5 (hQ _ _ ?_ (Abn ..))⟩
 exact ⟨_,gV _ ho (Aa9 (AaF hd _)),(Obj.cls_mapFields ..).trans hc,by
  rw [AaF hd];simp⟩
theorem Qu {it l:Addr} {Q:Option Value->Shared->Prop} (hh:A.handled=none) (hit:IsRvd s.heap it l (-1))
  (hQ:∀ h',Heap.ExtBut it s.heap h'->Q none {s with heap:=h'}):wpAny (model prog w) A (pyNext (.ref it)) Q E s:=by
 obtain ⟨o,ho,hc,hd⟩:=id hit;unfold pyNext
 refine YW (AaV (Aae (name:=Str.ofString "__next__") hit.typeIs gn
  (Aav gn hit.typeIs o5 ?_ (qy _))))
 unfold Builtin.«reversed.__next__»;refine YW (AaH (a:=(Value.ref it,[])) rfl ?_);try dsimp only
 refine YW (Z8 ho hd (x:=.ref l) rfl ?_);refine YW (Z8 ho hd (x:=rawInt (-1)) rfl ?_);show wpAny _ _ (if (-1:Int) < 0 then _ else _) _ _ s;rw [if_pos (by decide)];refine YW (Abj ?_);refine YW ?_;refine YW (Abp ho hd (by simp) ?_);have sb1:Heap.SameBut it s.heap (s.heap.update it (Obj.mapFields (·.setIfInBounds 1 (rawInt (-1))))):=Abn ..;have ho2:=gV (Obj.mapFields (·.setIfInBounds 1 (rawInt (-1)))) ho (Aa9 (AaF hd _));refine Abp ho2 (AaF hd _) (by simp) ?_;have sb2:Heap.SameBut it (s.heap.update it (Obj.mapFields (·.setIfInBounds 1 (rawInt (-1))))) ((s.heap.update it (Obj.mapFields (·.setIfInBounds 1 (rawInt (-1))))).update it (Obj.mapFields (·.setIfInBounds 0 .none))):=Abn ..;have eb:Heap.ExtBut it s.heap ((s.heap.update it (Obj.mapFields (·.setIfInBounds 1 (rawInt (-1))))).update it (Obj.mapFields (·.setIfInBounds 0 .none))):=sb1.extBut.trans sb2.extBut;show wpAny _ _ _ _ _ {s with heap:=((s.heap.update it (Obj.mapFields (·.setIfInBounds 1 (rawInt (-1))))).update it (Obj.mapFields (·.setIfInBounds 0 .none)))};generalize ((s.heap.update it (Obj.mapFields (·.setIfInBounds 1 (rawInt (-1))))).update it (Obj.mapFields (·.setIfInBounds 0 .none)))=h2 at eb ⊢;refine YW ?_;show wpAny _ _ (newExc (.type "StopIteration") [] >>=_) _ _ _;refine YW ?_;simp only [newExc,newTuple];refine YW (Aaq ?_ (by size_fits));refine YW (m:=firstArgMember _ _) (AaH (a:=Value.none) (by first | rfl | (simp only [firstArgMember];rfl)) ?_);refine Aaq ?_ (by size_fits);simp only [raiseNew];refine YW (wpAny_handled ?_);first | rw [show A.in1.handled=none from hh] | rw [hh]
 refine YW (Y5 (wpAny_throw ?_));refine YW (AbK (T:="StopIteration") (b:=true) ⟨_,Y8 _ rfl,rfl⟩ isSubtype_stop ?_);exact Y5 (hQ _ ((eb.push _).push _))
theorem Bg {it l:Addr} {i:Int} {Q:Value->Shared->Prop} (hit:IsRvd s.heap it l i) (h:Q (.ref it) s):wpAny (model prog w) A (pyIter (.ref it)) Q E s:=by
 refine wpAny_pyIter_slot hit.typeIs qz (Aav qz hit.typeIs wR ?_ (xH _));show wpAny _ _ (ret (.ref it)) _ _ s;exact Y5 ⟨_,rfl,"reversed",_,hit.typeIs,gn.lookup,h⟩
end
def Wq (K:W.Frag) (a:Addr) (n:Nat):It:=
 ⟨fun i H=>i < n/\n < 2 ^ 62/\∃ xs,SqT K H a xs/\xs.length=n,
  fun i H v H'=>H'=H/\∀ xs,SqT K H a xs->xs[n - 1 - i]?=some v,
  fun i _=>i=n⟩
theorem Mr {P:Program} {w:World} {K:W.Frag} {tg:Expr} {n:Nat} {it a:Addr} (hai:a≠it):
  Turn P w K tg (Wq K a n) [it] it (fun i h=>i<=n/\IsRvd h it a ((n:Int) - 1 - (i:Int))) where
 mem:=by simp
 obj:=fun i h st c hc=>by
  obtain ⟨_,⟨o1,e1,c1,d1⟩⟩:=st;have e:c=it:=by simpa using hc
  subst e;exact ⟨_,e1,fun v z=>by rw [d1] at z;cases z⟩
 keep:=fun i h h' st kk=>⟨st.1,st.2.at fun o q=>kk it (by simp) o q⟩
 item:=by
  intro X hP hw hK hc i pins s U H E I hf st hg;subst hP hw hK;obtain ⟨hi,h1⟩:=st;obtain ⟨hlt,h62,xs,hq,hlen⟩:=hg;obtain ⟨its,rv,p,_⟩:=I.tuple hq;have l1:=rv.length;obtain ⟨x,hx⟩:∃ x,xs[n - 1 - i]?=some x:=⟨_,YX (by omega)⟩;obtain ⟨u,hu,ru⟩:=rv.get hx;obtain ⟨f0,f1,f2,f3,f4,f5⟩:=hf it (by simp);have e:(n:Int) - 1 - (i:Int)=((n - 1 - i:Nat):Int):=by omega
  rw [e] at h1;refine Mq h1 p (x:=u) (by simpa using hu) (by simp;omega) fun h' k st' sb=>?_
  have I1:Inv X pins U H {s with heap:=h',toks:=k}:=I.turned (t':=k) (fun b o hb e=>(sb.2 b hb).trans e) f0 f1 f3 f4 f5;obtain ⟨o,eo,c,d⟩:=id st';refine ⟨u,rfl,vO (s:={s with heap:=h',toks:=k}) eo c d (by decide) ⟨x,H,I1,ru,⟨rfl,fun ys hy=>by rw [I.tuple_inj hy hq];exact hx⟩,⟨hlt,?_⟩,fun b hb=>(hf b hb).1⟩⟩;have e2:((n - 1 - i:Nat):Int) - 1=(n:Int) - 1 - ((i+1:Nat):Int):=by omega
  rw [← e2];exact st'
 done:=by
  intro X hP hw hK hc i pins s U H E I hf st hg;subst hP hw hK;obtain ⟨hi,h1⟩:=st;have hin:i=n:=hg;subst hin;rw [show (i:Int) - 1 - (i:Int)= -1 by omega] at h1;obtain ⟨f0,f1,f2,f3,f4,f5⟩:=hf it (by simp);exact Qu (I.ok.hd hc) h1 fun h' eb=>⟨rfl,I.turned (t':=s.toks) (fun b o hb e=>eb b o hb e) f0 f1 f3 f4 f5⟩
 self:=fun _ _ _ _ _ st h=>Bg st.2 h
def R8 (K:W.Frag) (ta:TE):TI:=fun U H R=>ta U H fun x H1=>(∃ l xs,x= .ref l/\SqL K H1 l xs/\R (Wn K l xs.length) H1)\/∃ l xs,x= .ref l/\SqT K H1 l xs/\xs.length < 2 ^ 62/\R (Wq K l xs.length) H1
theorem Qv {X:Cx} {K:W.Frag} {a tg:Expr} {ta:TE} {p pos:Pos} (hK:X.K=K) (hg:Gl X "reversed") (hm:X.mg "reversed"=none) (ha:JE X a ta) (h:autoParam (notStar a=true) L2.auto4._auto_1):
  JI X tg (.Call (.Name "reversed" p) [a] [] pos) (R8 K ta):=⟨by
 subst hK;intro pins s U H R I hq;refine Call_ (iR I hg hm oR (ZX (arg1 h (eQ (ha.run pins s U H _ I hq) fun u s1 qq0=>?_)) (bI h) rfl));obtain ⟨x,H1,I1,rx,hx⟩:=qq0;rcases hx with ⟨l,xs,ex,hx,q⟩ | ⟨l,xs,ex,hx,h62,q⟩
 ·subst ex
  cases rx;obtain ⟨its,rv,ht,hz⟩:=I1.list hx;have hlen:=rv.length;have lt:l < s1.heap.objs.size:=by obtain ⟨o,ho,_⟩:=ht.isList;exact Za ho
  refine call_reversed_list ht.isList ?_;have e0:(s1.heap.push (PySem.revObj l ((its.toArray.size:Int) - 1))).get? s1.heap.objs.size=some (PySem.revObj l ((its.toArray.size:Int) - 1)):=Y8 _ rfl
  have z2:(s1.heap.push (PySem.revObj l ((its.toArray.size:Int) - 1))).IsRevIter s1.heap.objs.size l ((xs.length:Int) - 1 - ((0:Nat):Int)):=⟨_,e0,rfl,by
   show Data.fields #[.ref l,rawInt ((its.toArray.size:Int) - 1)]=_;rw [show ((its.toArray.size:Int) - 1)=(xs.length:Int) - 1 - ((0:Nat):Int) by rw [Zi];omega]⟩
  refine AaW z2 ?_;refine ⟨s1.heap.objs.size,[s1.heap.objs.size],_,_,H1,rfl,I1.kept (t':=s1.toks) fun b o q=>YZ _ q,LK (n:=xs.length) (ZR lt),⟨Z7 _,z2⟩,fun b hb=>?_,q⟩;have e:b=s1.heap.objs.size:=by simpa using hb
  subst e;exact I1.fpOk (Y4 _) (I1.hok.fresh (Y4 _))
 ·subst ex
  cases rx;obtain ⟨its,rv,ht,hz⟩:=I1.tuple hx;have hlen:=rv.length;have lt:l < s1.heap.objs.size:=by obtain ⟨o,ho,_⟩:=id ht;exact Za ho
  refine Mp ht (by simp;omega) fun k=>?_
  have e0:(s1.heap.push (qT l ((its.toArray.size:Int) - 1))).get? s1.heap.objs.size=some (qT l ((its.toArray.size:Int) - 1)):=Y8 _ rfl
  have z2:IsRvd (s1.heap.push (qT l ((its.toArray.size:Int) - 1))) s1.heap.objs.size l ((xs.length:Int) - 1 - ((0:Nat):Int)):=⟨_,e0,rfl,by
   show Data.fields #[.ref l,rawInt ((its.toArray.size:Int) - 1)]=_;rw [show ((its.toArray.size:Int) - 1)=(xs.length:Int) - 1 - ((0:Nat):Int) by rw [Zi];omega]⟩
  refine Bg z2 ?_;refine ⟨s1.heap.objs.size,[s1.heap.objs.size],_,_,H1,rfl,I1.kept (t':=k) fun b o q=>YZ _ q,Mr (n:=xs.length) (ZR lt),⟨Z7 _,z2⟩,fun b hb=>?_,q⟩;have e:b=s1.heap.objs.size:=by simpa using hb
  subst e;exact I1.fpOk (Y4 _) (I1.hok.fresh (Y4 _))⟩
section
variable {K:W.Frag} {U:St} {H:Hp}
theorem Ms {ta:TE} {R:It->Hp->Prop} (h:ta U H fun x H1=>(∃ l xs,x= .ref l/\SqL K H1 l xs/\R (Wn K l xs.length) H1)\/∃ l xs,x= .ref l/\SqT K H1 l xs/\xs.length < 2 ^ 62/\R (Wq K l xs.length) H1):R8 K ta U H R:=h
theorem Qw {a:Addr} {xs:List V} {g:TG} {tb:TS} {D:Ends} (Pv:Nat->St->Hp->Prop) (h0:Pv 0 U H) (hl:∀ i U H,i<=xs.length->Pv i U H->SqL K H a xs)
  (hs:∀ i x U H,i < xs.length->xs[xs.length - 1 - i]?=some x->Pv i U H->g x U H fun σ2 H2=>tb {D with nx:=Pv (i+1),ct:=Pv (i+1),bk:=D.nx} σ2 H2) (hd:∀ U H,Pv xs.length U H->D.nx U H):
  ∃ W:Nat->Nat->St->Hp->Prop,(∃ m,W 0 m U H)/\∀ i m U H,W i m U H->
   ((Wn K a xs.length).stop i H/\D.nx U H)\/((Wn K a xs.length).go i H/\∃ N:St->Hp->Prop,(∀ U' H',N U' H'->∃ m',m' < m/\W (i+1) m' U' H')/\∀ x H',(Wn K a xs.length).yld i H x H'->g x U H' fun σ2 H2=>tb {D with nx:=N,ct:=N,bk:=D.nx} σ2 H2):=by
 refine ⟨fun i m U H=>m=xs.length - i/\i<=xs.length/\Pv i U H,⟨xs.length,by simp,Z7 _,h0⟩,?_⟩;rintro i m U H ⟨rfl,hi,p⟩;have hq:=hl i U H hi p;by_cases hlt:i < xs.length
 ·refine .inr ⟨⟨hlt,xs,hq,rfl⟩,Pv (i+1),fun U' H' h=>⟨xs.length - (i+1),by omega,rfl,by omega,h⟩,fun x H' y=>?_⟩
  obtain ⟨rfl,hy⟩:=y;exact hs i x U _ hlt (hy xs hq) p
 ·obtain rfl:i=xs.length:=by omega
  exact .inl ⟨rfl,hd U H p⟩
theorem Qx {a:Addr} {xs:List V} {g:TG} {tb:TS} {D:Ends} (h62:xs.length < 2 ^ 62) (Pv:Nat->St->Hp->Prop) (h0:Pv 0 U H) (hl:∀ i U H,i<=xs.length->Pv i U H->SqT K H a xs)
  (hs:∀ i x U H,i < xs.length->xs[xs.length - 1 - i]?=some x->Pv i U H->g x U H fun σ2 H2=>tb {D with nx:=Pv (i+1),ct:=Pv (i+1),bk:=D.nx} σ2 H2) (hd:∀ U H,Pv xs.length U H->D.nx U H):
  ∃ W:Nat->Nat->St->Hp->Prop,(∃ m,W 0 m U H)/\∀ i m U H,W i m U H->
   ((Wq K a xs.length).stop i H/\D.nx U H)\/((Wq K a xs.length).go i H/\∃ N:St->Hp->Prop,(∀ U' H',N U' H'->∃ m',m' < m/\W (i+1) m' U' H')/\∀ x H',(Wq K a xs.length).yld i H x H'->g x U H' fun σ2 H2=>tb {D with nx:=N,ct:=N,bk:=D.nx} σ2 H2):=by
 refine ⟨fun i m U H=>m=xs.length - i/\i<=xs.length/\Pv i U H,⟨xs.length,by simp,Z7 _,h0⟩,?_⟩;rintro i m U H ⟨rfl,hi,p⟩;have hq:=hl i U H hi p;by_cases hlt:i < xs.length
 ·refine .inr ⟨⟨hlt,h62,xs,hq,rfl⟩,Pv (i+1),fun U' H' h=>⟨xs.length - (i+1),by omega,rfl,by omega,h⟩,fun x H' y=>?_⟩
  obtain ⟨rfl,hy⟩:=y;exact hs i x U _ hlt (hy xs hq) p
 ·obtain rfl:i=xs.length:=by omega
  exact .inl ⟨rfl,hd U H p⟩
end
end L2
namespace L2
open PySem PySem.W PySem.Spec PyProof.Rows
section
variable {prog:Program} {w:World} {A:Around} {E:Value->Shared->Prop} {s:Shared}
theorem Bh {l:Addr} {vs:List Value} {Q:List Value->Shared->Prop} (hl:IsTup s.heap l vs.toArray) (hsz:vs.length<=sizeLine)
  (h:Q vs {s with heap:=(s.heap.push (seqObj "list" #[] 0)).update s.heap.objs.size (Obj.mapSeq (· ++ vs.toArray))}):
  wpAny (model prog w) A (collect (.ref l)) Q E s:=by
 obtain ⟨o,ho,hc,n,hd⟩:=id hl;unfold collect;refine YW (wpAny_runValue (Abw entry_proto_collect' ?_));show wpAny _ _ (do again (.builtin "list.__iadd__" ⟨[← newList [],.ref l],[]⟩)) _ _ s;refine YW (wpAny_newList (Y5 ⟨Code.quiet_builtin _ (by trivial),Abw entry_list_iadd' ?_⟩));show wpAny _ _ (Builtin.List.listExtendWith (.ref s.heap.objs.size) (.ref l) (.ref s.heap.objs.size)) _ _ {s with heap:=s.heap.push (seqObj "list" #[] 0)};unfold Builtin.List.listExtendWith;have ho':(s.heap.push (seqObj "list" #[] 0)).get? l=some o:=YZ _ ho;refine YW (wpAny_typeOf (T:="tuple") ⟨o,ho',hc⟩ ?_);have ht:(Value.type "tuple" == Value.type "tuple")=true:=by rfl
 rw [if_pos (by rw [ht];simp)];refine YW (listItems_at ho' hd ?_);refine YW (listItems_at (xs:=#[]) (n:=0) (Y8 _ rfl) rfl ?_);rw [if_neg (by simp)];refine YW (listUpdate_at (xs:=#[]) (n:=0) (Y8 _ rfl) rfl ?_ (Z7 _) (by show (#[] ++ vs.toArray).size<=sizeLine+1;simp only [Array.size_append,Zi,List.length_nil];omega));refine Y5 ?_
 show wpAny (model prog w) A (do
   let o ← load s.heap.objs.size
   match o.data with
   | .seq xs _=>pure xs.toList
   | _=>unsupported "internal:collect") Q E {s with heap:=(s.heap.push (seqObj "list" #[] 0)).update s.heap.objs.size (Obj.mapSeq (· ++ vs.toArray))}
 refine YW (wpAny_load (get?_update_seq (Y8 _ rfl) _) ?_);show wpAny _ _ (pure ((#[]:Array Value) ++ vs.toArray).toList) Q E _;rw [show ((#[]:Array Value) ++ vs.toArray).toList=vs by simp];exact Y5 h
theorem uU {l:Addr} {vs:List Value} {κ:SortKind} {rv:Value->Int} {Q:Value->Shared->Prop} (hl:∀ (A':Around) (Q':List Value->Shared->Prop),Q' vs {s with heap:=(s.heap.push (seqObj "list" #[] 0)).update s.heap.objs.size (Obj.mapSeq (· ++ vs.toArray))}->wpAny (model prog w) A' (collect (.ref l)) Q' E s) (few:vs.length<=100000)
  (hK:2<=vs.length->∀ (A':Around) (s':Shared) (R:SortKind->Shared->Prop),(∀ b o,s.heap.get? b=some o->s'.heap.get? b=some o)->R κ s'->wpAny (model prog w) A' (keyKind' vs.toArray) R E s')
  (hC:∀ (A':Around) (s':Shared) (x y:Value) (R:Bool->Shared->Prop) (E':Value->Shared->Prop),(∀ b o,s.heap.get? b=some o->s'.heap.get? b=some o)->x∈vs->y∈vs->R (decide (rv x < rv y)) s'->wpAny (model prog w) A' (keyLt' κ x y) R E' s')
  (h:∀ out:List Value,out.Perm vs->(out.Pairwise fun x y=>rv x<=rv y)->Q (.ref (s.heap.objs.size+1)) {s with heap:=sortedAll s.heap vs out.toArray}):
  wpAny (model prog w) A (call (.builtin "sorted") [.ref l]) Q E s:=by
 refine Calls.call_function_entry kind_sorted plain_sorted entry_sorted (args_sorted1 _) ?_;unfold Builtin.«sorted»;have hs:200000<=sizeLine:=by decide
 refine YW (m:=checkCount "sorted" 1 1 _) (Y5 (YW (hl _ _ ?_)));refine YW (wpAny_newList ?_);have z1:((s.heap.push (seqObj "list" #[] 0)).update s.heap.objs.size (Obj.mapSeq (· ++ vs.toArray))).objs.size=s.heap.objs.size+1:=by rw [Heap.size_update,size_push']
 have old:∀ b o,s.heap.get? b=some o->(((s.heap.push (seqObj "list" #[] 0)).update s.heap.objs.size (Obj.mapSeq (· ++ vs.toArray))).push (seqObj "list" vs.toArray 0)).get? b=some o:=fun b o e=>by
  have lb:=Za e;refine YZ _ ?_;rw [Heap.get?_update_ne _ _ _ _ (ZR lb)];exact YZ _ e
 have hoL:(((s.heap.push (seqObj "list" #[] 0)).update s.heap.objs.size (Obj.mapSeq (· ++ vs.toArray))).push (seqObj "list" vs.toArray 0)).get? (s.heap.objs.size+1)=some (seqObj "list" vs.toArray 0):=
  z1 ▸ Y8 _ rfl
 show wpAny _ _ _ _ _ {s with heap:=(((s.heap.push (seqObj "list" #[] 0)).update s.heap.objs.size (Obj.mapSeq (· ++ vs.toArray))).push (seqObj "list" vs.toArray 0))};rw [z1];have ok:∀ {s':Shared},X3 (s.heap.objs.size+1) (((s.heap.push (seqObj "list" #[] 0)).update s.heap.objs.size (Obj.mapSeq (· ++ vs.toArray))).push (seqObj "list" vs.toArray 0)) s'.heap->∀ b o,s.heap.get? b=some o->s'.heap.get? b=some o:=fun bt b o e=>bt b o (ZR (Nat.lt_succ_of_lt (Za e))) (old b o e)
 refine YW (Z2 (Aav slot_list_sort ⟨_,hoL,rfl⟩ entry_list_sort (Ml (κ:=κ) (rv:=rv) hoL few (fun h2 s' R bt r=>hK h2 _ s' R (ok bt) r) (fun s' x y R E' bt hx hy r=>hC _ s' x y R E' (ok bt) hx hy r) fun out h1 h2=>⟨_,rfl,?_⟩) (args_list_sort _)));exact Y5 ⟨_,rfl,h out h1 h2⟩
end
section
variable {X:Cx}
def Dn:List V->Hp->VK->Prop:=fun xs H Q=>(∃ (p:Addr) (ns:List Int),xs=[.ref p]/\(H p=some (.lst (ns.map V.int))\/H p=some (.tup (ns.map V.int)))/\ns.length<=100000/\
  ∀ (q:Addr) (ms:List Int),H q=none->ms.Perm ns->ms.Pairwise (· <= ·)->Q (.ref q) (upd H q (.lst (ms.map V.int))))\/
 ∃ (p:Addr) (as:List Addr) (ct:Addr->List Int),xs=[.ref p]/\H p=some (.lst (as.map V.ref))/\as.length<=100000/\(∀ a∈as,H a=some (.tup ((ct a).map V.int))/\ct a≠[])/\
  ∀ (q:Addr) (bs:List Addr),H q=none->bs.Perm as->bs.Pairwise (fun a b=>HT.lexLt (ct b) (ct a)=false)->Q (.ref q) (upd H q (.lst (bs.map V.ref)))
theorem ug:∀ {as:List Addr} {its:List Value},Vals (as.map V.ref) its->its=as.map Value.ref
 | [],_,h=>by cases h;rfl
 | a :: as,_,h=>by
  cases h with
  | cons h1 h2=>
   cases h1;rw [ug h2];rfl
theorem yu:∀ (as:List Addr),Vals (as.map V.ref) (as.map Value.ref)
 | []=>.nil
 | a :: as=>.cons rfl (yu as)
theorem HS {as:List Addr} {out:List Value} (h:out.Perm (as.map Value.ref)):∃ bs:List Addr,out=bs.map Value.ref/\bs.Perm as:=by
 have key:∀ out:List Value,(∀ v∈out,∃ a,v=Value.ref a)->∃ bs:List Addr,out=bs.map Value.ref:=by
  intro out
  induction out with
  | nil=>exact fun _=>⟨[],rfl⟩
  | cons v out ih=>
   intro hv;obtain ⟨a,rfl⟩:=hv v Z6;obtain ⟨bs,rfl⟩:=ih fun u hu=>hv u (Zz _ hu)
   exact ⟨a :: bs,rfl⟩
 obtain ⟨bs,rfl⟩:=key out fun v hv=>by
  obtain ⟨a,_,rfl⟩:=Z0.mp (h.mem_iff.mp hv);exact ⟨a,rfl⟩
 refine ⟨bs,rfl,?_⟩;have:=h.map (fun v=>match v with | Value.ref a=>a | _=>0);rwa [Aap,Aap,show ((fun v:Value=>match v with | Value.ref a=>a | _=>0) ∘ Value.ref)=id from rfl,AbI,AbI] at this
def HW (ts:List (List Int)) (t:List Int):Int:=((ts.countP fun u=>HT.lexLt u t):Nat)
theorem Fl {ts:List (List Int)} {a b:List Int} (ha:a∈ts):decide (HW ts a < HW ts b)=HT.lexLt a b:=by
 unfold HW;cases h:HT.lexLt a b with
 | true=>
  refine Zc ?_
  have key:∀ l:List (List Int),a∈l->l.countP (fun u=>HT.lexLt u a) < l.countP (fun u=>HT.lexLt u b):=by
   intro l
   induction l with
   | nil=>intro h;cases h
   | cons u l ih=>
    intro hm;rw [AbN,AbN];have le:l.countP (fun u=>HT.lexLt u a)<=l.countP (fun u=>HT.lexLt u b):=List.countP_mono_left fun x _ hx=>su hx h
    by_cases e:u=a
    ·rw [e,LC,h,if_neg (by decide),if_pos rfl]
     omega
    ·have hm':a∈l:=(Zb.mp hm).resolve_left fun z=>e z.symm
     have:=ih hm';by_cases c:HT.lexLt u a=true
     ·rw [if_pos c,if_pos (su c h)];omega
     ·rw [if_neg c];split <;> omega
  have:=key ts ha;omega
 | false=>
  refine Zd ?_
  have le:ts.countP (fun u=>HT.lexLt u b)<=ts.countP (fun u=>HT.lexLt u a):=List.countP_mono_left fun x _ hx=>by
   cases c:HT.lexLt b a with
   | true=>exact su hx c
   | false=>rw [wG h c];exact hx
  omega
theorem Do {prog:Program} {w:World} {A:Around} {E:Value->Shared->Prop} {s:Shared} {as:List Addr} {ct:Addr->List Int} {Q:SortKind->Shared->Prop} (h2:2<=as.length) (h:∀ a∈as,∃ its,IsTup s.heap a its.toArray/\IntsAre its (ct a)/\ct a≠[]) (q:Q (tuples' true) s):
  wpAny (model prog w) A (keyKind' (as.map Value.ref).toArray) Q E s:=by
 refine Hz (ts:=as.map ct) (by rw [Y6];exact h2) (fun i hi=>?_) q;rw [Y6] at hi;obtain ⟨its,it,ia,ne⟩:=h as[i] (AaT hi);have e:(as.map ct).getD i []=ct as[i]:=by rw [Y7,Y9,YX hi];rfl
 rw [e];exact ⟨as[i],its,by rw [Y9,YX hi];rfl,it,ia,ne⟩
theorem sU:CallR X (.builtin "sorted") Dn:=by
 intro pins s U H xs us Q I r h;have hs2:200000<=sizeLine:=by decide
 rcases h with ⟨p,ns,rfl,hp,few,q⟩ | ⟨p,as,ct,rfl,hp,few,ht,q⟩
 ·obtain ⟨u,rfl,ru⟩:=vals1 r
  cases ru
  obtain ⟨its,rv,hcol⟩:∃ its:List Value,Vals (ns.map V.int) its/\∀ (A':Around) (E':Value->Shared->Prop) (Q':List Value->Shared->Prop),Q' its {s with heap:=(s.heap.push (seqObj "list" #[] 0)).update s.heap.objs.size (Obj.mapSeq (· ++ its.toArray))}->wpAny (model X.prog X.w) A' (collect (.ref p)) Q' E' s:=by
   rcases hp with hp | hp
   ·obtain ⟨hz,its,n,rv,g⟩:=I.hok p _ hp
    refine ⟨its,rv,fun A' E' Q' hq=>collect_list ⟨_,g,rfl,n,rfl⟩ hq (hsz:=?_)⟩;rw [← rv.length];exact hz
   ·obtain ⟨hz,its,rv,g⟩:=I.hok p _ hp
    exact ⟨its,rv,fun A' E' Q' hq=>Bh g (by rw [← rv.length];exact hz) hq⟩
  have hi:IntsAre its ns:=intsAre_of rv;have hl:=rv.length;rw [Y6] at hl;refine uU (vs:=its) (κ:=oneType') (rv:=numOf) (fun A' Q' hq=>hcol A' _ Q' hq) (by omega) ?_ ?_ fun out hperm hs=>?_
  ·intro h2 A' s' R _ hr
   obtain ⟨v₁,v₂,rest,rfl⟩:∃ v₁ v₂ rest,its=v₁ :: v₂ :: rest:=by
    match its,h2 with
    | v₁ :: v₂ :: rest,_=>exact ⟨v₁,v₂,rest,rfl⟩
   rw [keyKind_ints hi];exact Y5 hr
  ·intro A' s' x y R E' _ hx hy hr
   obtain ⟨a,t,rfl⟩:=wQ hi hx;obtain ⟨b,u,rfl⟩:=wQ hi hy;rw [keyLt'_oneType];exact oneLt_int hr
  ·obtain ⟨e,he⟩:=sortedAll_at s.heap its out.toArray
   have ho:IntsAre out (out.map numOf):=intsAre_map out fun v hv=>wQ hi (hperm.mem_iff.mp hv)
   have hm:(out.map numOf).Perm ns:=(hperm.map _).trans (List.Perm.of_eq hi.nums);have hml:(out.map numOf).length=ns.length:=hm.length_eq;exact ⟨.ref (s.heap.objs.size+1),_,I.laid (t':=s.toks) (o:=.lst ((out.map numOf).map V.int)) (fun b ob q=>sortedAll_old q) (Abg _) ⟨by rw [Y6];omega,out,e,yo ho,by simpa using he⟩,rfl,q _ _ (I.hok.fresh (Abg _)) hm (Aa1.mpr hs)⟩
 ·obtain ⟨u,rfl,ru⟩:=vals1 r
  cases ru;obtain ⟨hz,its,n,rv,g⟩:=I.hok p _ hp;obtain rfl:=ug rv
  have tup:∀ a∈as,∃ its,IsTup s.heap a its.toArray/\IntsAre its (ct a)/\ct a≠[]:=fun a ha=>by
   obtain ⟨h1,h2⟩:=ht a ha;obtain ⟨_,it,rt,tt⟩:=I.hok a _ h1;exact ⟨it,tt,intsAre_of rt,h2⟩
  have tupK:∀ s':Shared,(∀ b o,s.heap.get? b=some o->s'.heap.get? b=some o)->∀ a∈as,∃ its,IsTup s'.heap a its.toArray/\IntsAre its (ct a)/\ct a≠[]:=fun s' hk a ha=>by
   obtain ⟨its,⟨o,go,rr⟩,h2⟩:=tup a ha;exact ⟨its,⟨o,hk _ _ go,rr⟩,h2⟩
  refine uU (vs:=as.map Value.ref) (κ:=tuples' true) (rv:=fun v=>match v with | .ref a=>HW (as.map ct) (ct a) | _=>0) (fun A' Q' hq=>collect_list ⟨_,g,rfl,n,rfl⟩ hq (hsz:=by rw [Y6];omega)) (by rw [Y6];omega) ?_ ?_ fun out hperm hs=>?_
  ·intro h2 A' s' R hk hr
   exact Do (by rwa [Y6] at h2) (tupK s' hk) hr
  ·intro A' s' x y R E' hk hx hy hr
   obtain ⟨a,ha,rfl⟩:=Z0.mp hx;obtain ⟨b,hb,rfl⟩:=Z0.mp hy;obtain ⟨i1,t1,n1,_⟩:=tupK s' hk a ha;obtain ⟨i2,t2,n2,_⟩:=tupK s' hk b hb;refine X4 t1 t2 n1 n2 ?_;rw [← Fl (ts:=as.map ct) (Z0.mpr ⟨a,ha,rfl⟩)];exact hr
  ·obtain ⟨e,he⟩:=sortedAll_at s.heap (as.map Value.ref) out.toArray
   obtain ⟨bs,rfl,hb⟩:=HS hperm;have hbl:=hb.length_eq;refine ⟨.ref (s.heap.objs.size+1),_,I.laid (t':=s.toks) (o:=.lst (bs.map V.ref)) (fun b ob q=>sortedAll_old q) (Abg _) ⟨by rw [Y6];omega,_,e,yu bs,by simpa using he⟩,rfl,q _ bs (I.hok.fresh (Abg _)) hb ?_⟩;rw [Aa1] at hs;refine hs.imp_of_mem fun {a b} ha hb' hab=>?_
   have:=Fl (ts:=as.map ct) (a:=ct b) (b:=ct a) (Z0.mpr ⟨b,hb.mem_iff.mp hb',rfl⟩);rw [← this];exact Zd (by have:HW (as.map ct) (ct a)<=HW (as.map ct) (ct b):=hab;omega)
end
section
variable {H:Hp} {Q:VK}
theorem Mt {p:Addr} {as:List Addr} (ct:Addr->List Int) (hp:H p=some (.lst (as.map V.ref))) (hn:as.length<=100000) (ht:∀ a∈as,H a=some (.tup ((ct a).map V.int))/\ct a≠[]) (h:∀ (q:Addr) (bs:List Addr) (H':Hp),H q=none->Same H H'->H' q=some (.lst (bs.map V.ref))->bs.Perm as->bs.Pairwise (fun a b=>HT.lexLt (ct b) (ct a)=false)->Q (.ref q) H'):Dn [.ref p] H Q:=
 .inr ⟨p,as,ct,rfl,hp,hn,ht,fun q bs nq a b=>h q bs _ nq ((Same.refl H).upd nq) aj a b⟩
end
end L2
namespace L2
open PySem PySem.Spec PyProof.Rows
def Mu:List V->Hp->VK->Prop:=fun xs H Q=>(∃ i j,xs=[.int i,.int j]/\Q (.int (if j < i then j else i)) H)\/(∃ i j k,xs=[.int i,.int j,.int k]/\∀ M,(M=i\/M=j\/M=k)->M<=i->M<=j->M<=k->Q (.int M) H)\/
 ∃ (p:Addr) (ns:List Int),xs=[.ref p]/\H p=some (.lst (ns.map V.int))/\ns≠[]/\∀ M,M∈ns->(∀ a∈ns,M<=a)->Q (.int M) H
section
variable {X:Cx}
theorem vals3 {v1 v2 v3:V} {us:List Value} (r:Vals [v1,v2,v3] us):∃ u1 u2 u3,us=[u1,u2,u3]/\RelV v1 u1/\RelV v2 u2/\RelV v3 u3:=by
 cases r with
 | cons a r=>cases r with
  | cons b r=>cases r with
   | cons c r=>
    cases r;exact ⟨_,_,_,rfl,a,b,c⟩
theorem HX (hc:X.calm=true):CallR X (.builtin "min") Mu:=by
 intro pins s U H xs us Q I r h;rcases h with h | ⟨i,j,k,rfl,q⟩ | ⟨p,ns,rfl,hp,hne,q⟩
 ·exact Gr hc pins s U H xs us Q I r h
 ·obtain ⟨u1,u2,u3,rfl,⟨t1,rfl⟩,⟨t2,rfl⟩,⟨t3,rfl⟩⟩:=vals3 r
  refine min_three_ints (I.ok.hd hc) fun h' tk hk=>?_
  have key:∀ (M:Int) (t:Tok),(M=i\/M=j\/M=k)->M<=i->M<=j->M<=k->EP X pins U Q (.int M t) {s with heap:=h',toks:=tk}:=fun M t h0 h1 h2 h3=>⟨.int M,H,I.kept hk,⟨t,rfl⟩,q M h0 h1 h2 h3⟩
  by_cases hba:j < i <;> by_cases hc1:k < j <;> by_cases hc2:k < i <;> simp only [hba,hc1,hc2,if_true,if_false] <;> exact key _ _ (by omega) (by omega) (by omega) (by omega)
 ·obtain ⟨u,rfl,ru⟩:=vals1 r
  cases ru;obtain ⟨hz,its,n,rv,g⟩:=I.hok p _ hp;have hi:IntsAre its ns:=intsAre_of rv;have hl:=rv.length;obtain ⟨ys,ey⟩:=hi.allInts.items;have hn:=hi.numsOf
  have hsz:0 < ys.size:=by
   have e1:=congrArg Array.size ey;have:0 < ns.length:=Abm.mpr hne;rw [Y6] at hl;simp [intItems] at e1;omega
  have hL:s.heap.IsList p (intItems ys):=⟨_,g,rfl,n,by rw [← ey]⟩;have en:ys.toList.map (·.1)=ns:=by rw [← nums_intItems,← ey,← hn]
  refine min_intList (I.ok.hd hc) hL hsz fun v h' tk hv hk=>?_
  obtain ⟨t,rfl⟩:=intItems_at hv;obtain ⟨h1,h2⟩:=argBest_lt (numAt ys) (ys.size - 1);refine ⟨.int _,H,I.kept hk,⟨t,rfl⟩,q _ ?_ fun a ha=>?_⟩
  ·rw [← en,numAt_eq];exact getD_mem (by rw [Y6,ZG];omega)
  ·rw [← en] at ha
   obtain ⟨j,hj,rfl⟩:=mem_getD ha;rw [Y6,ZG] at hj;rw [← numAt_eq];exact h2 j (by omega)
end
section
variable {H:Hp} {Q:VK}
theorem Vv {i j k:Int} (h:∀ M,(M=i\/M=j\/M=k)->M<=i->M<=j->M<=k->Q (.int M) H):Mu [.int i,.int j,.int k] H Q:=.inr (.inl ⟨_,_,_,rfl,h⟩)
end
end L2
namespace HT
open PySem PySem.Spec PyProof.Rows
section
variable {prog:Program} {w:World} {A:Around} {E:Value->Shared->Prop} {s:Shared}
theorem getItem_tuple_whole {t sl:Addr} {items:Array Value} {vl vu:Value} {lo hi:Option Int} {Q:Value->Shared->Prop} (ht:IsTup s.heap t items) (hs:s.heap.IsSliceOf sl vl vu .none) (pl:IsPart vl lo) (pu:IsPart vu hi)
  (hw:sIx items.size 0 lo=0/\sIx items.size items.size hi=items.size) (h:Q (.ref t) s):wpAny (model prog w) A (getItem (.ref t) (.ref sl)) Q E s:=by
 obtain ⟨os,hos,hcs,hds⟩:=id hs;have hTs:s.TypeIs (.ref sl) "slice":=⟨os,hos,hcs⟩;unfold getItem;try with_reducible refine Z2 ?_
 first | refine YW (Y5 ?_) | skip
 refine YW (wpAny_sequenceKey ht.typeIs (by decide) ?_)
 refine YW (Aae (name:=Str.ofString "__getitem__") ht.typeIs AaQ
  (Aav AaQ ht.typeIs entry_tuple_getitem ?_ (args_tuple_getitem _ _)))
 show wpAny _ _ (Builtin.Tuple.tupleItemsOf (.ref t) >>=_) _ _ s;refine YW (tupleItemsOf_ ht ?_);refine YW (wpAny_typeOf hTs ?_);rw [if_pos (by decide)];refine YW (lQ hs pl pu ?_)
 have hyes:((((sIx items.size 0 lo:Nat):Int) == 0 && (1:Int) == 1 && (sIx items.size items.size hi - sIx items.size 0 lo) == items.size)=true):=by
  rw [hw.1,hw.2];simp
 show wpAny _ _ (if (((sIx items.size 0 lo:Nat):Int) == 0 && (1:Int) == 1 && (sIx items.size items.size hi - sIx items.size 0 lo) == items.size)=true then _ else _) _ _ s;rw [if_pos hyes];unfold Builtin.Tuple.tupleIsExact;refine YW (YW (wpAny_typeOf ht.typeIs (Y5 ?_)));rw [if_pos (by decide)];exact YW (Abj (Y5 ⟨_,rfl,Y5 h⟩))
end
end HT
namespace L2
open PySem PySem.Spec PyProof.Rows
section
variable {X:Cx}
def X5 (K:W.Frag):V->Option Int->Option Int->Hp->VK->Prop:=fun x lo hi H Q=>∃ a xs,x= .ref a/\SqT K H a xs/\(HT.sIx xs.length 0 lo=0/\HT.sIx xs.length xs.length hi=xs.length)/\Q (.ref a) H
theorem Qy:SlR X (X5 X.K):=by
 intro pins s U H x v vl vu lo hi sl Q I rx hs pl pu h;obtain ⟨a,xs,rfl,hx,hw,q⟩:=h;cases rx;obtain ⟨its,r,ht,hz⟩:=I.tuple hx;have hlen:its.toArray.size=xs.length:=by rw [Zi];exact r.length.symm
 refine ⟨"tuple",_,PyProof.Rows.slot_tuple_getitem.lookup,ht.typeIs,?_⟩;exact HT.getItem_tuple_whole ht hs pl pu (by rw [hlen];exact hw) ⟨.ref a,H,I,rfl,q⟩
def X6 (K:W.Frag):V->Option Int->Option Int->Hp->VK->Prop:=fun x lo hi H Q=>Xg K x lo hi H Q\/X5 K x lo hi H Q
theorem m8 {K:W.Frag} (hK:X.K=K):SlR X (X6 K):=by
 subst hK;exact Km.or Qy
end
section
variable {H:Hp} {Q:VK} {K:W.Frag} {p:Addr} {xs:List V} {lo hi:Option Int}
theorem uh {x:Str} (hz:x.length<=sizeLine) (h:Q (.str (Txt.slice x lo hi)) H):X6 K (.str x) lo hi H Q:=.inl (Xp hz h)
end
def X7 (xs:Array Value) (c:Nat):Obj:={cls:=.type "list",dict:=none,data:=.seq xs c,slots:=#[]}
end L2
namespace L2
open PySem PySem.Spec PyProof.Rows
open PySem.Sem (wp)
open AutoSeq1 (wpAny_loadPart')
end L2
namespace L2
open PySem PySem.Spec PyProof.Rows
section
open PySem.SeqAt PySem.MeetsSeq PySem.MeetsSeq2 PySem.MeetsSeq3
open PySem.AutoSeq1 (wpAny_loadPart')
end
section
variable {X:Cx} {pins:List (Addr×Obj)} {U:St} {H0:Hp} {p It S f:Addr} {d:Value} {as:List Addr} {kf:Nat->List Int} {R:Result->Shared->Prop} {fo:Obj}
theorem HY {H:Hp} {s:Shared} (I:Inv X pins U H s) (hp:H p=some (.lst (as.map V.ref))):s.heap.IsList p (as.map Value.ref).toArray:=by
 obtain ⟨_,its,n,rv,g⟩:=I.hok p _ hp;rw [ug rv] at g;exact ⟨_,g,rfl,n,rfl⟩
end
section
variable {X:Cx} {x:Str} {pos:Pos} {sc:Scope}
theorem ao (i:Nat) (h:autoParam (X.env.scope.names.lookup x=some .local) L2.auto7._auto_1) (hN:autoParam (X.N[i]?=some x) L2.auto4._auto_1) (hd:autoParam ((x == ("__debug__":Str))=false) L2.auto6._auto_1) (hcd:autoParam ((x == ("__classdict__":Str))=false) L2.auto6._auto_1):JE X (.Name x pos) (rF i):=KC i h hN rfl hd hcd
theorem o6 (i:Nat) (h:autoParam (X.env.scope.names.lookup x=some .cell) L2.auto7._auto_1) (hN:autoParam (X.N[i]?=some x) L2.auto4._auto_1) (hd:autoParam ((x == ("__debug__":Str))=false) L2.auto6._auto_1) (hcd:autoParam ((x == ("__classdict__":Str))=false) L2.auto6._auto_1):JE X (.Name x pos) (rF i):=j_vC i h hN rfl hd hcd
theorem aQ (h:autoParam (X.env.scope.names.lookup x=some .globalImplicit) L2.auto7._auto_1):Gl X x:=h
theorem bO (h:autoParam (sc.names.lookup x=some .local) L2.auto7._auto_1):Loc sc x:=.inl h
theorem X8 (h:autoParam (sc.names.lookup x=some .cell) L2.auto7._auto_1):Loc sc x:=.inr h
end
def ltV:V->V->Bool
 | .int a,.int b=>decide (a < b)
 | .str a,.str b=>decide (a.cps.toList < b.cps.toList)
 | _,_=>false
def Bj:List V->List V->Bool
 | x :: xs,y :: ys=>if x=y then Bj xs ys else ltV x y
 | _,_=>false
inductive SameK:List V->List V->Prop
 | nil:SameK [] []
 | int {a b:Int} {xs ys:List V}:SameK xs ys->SameK (.int a :: xs) (.int b :: ys)
 | str {a b:Str} {xs ys:List V}:SameK xs ys->SameK (.str a :: xs) (.str b :: ys)
theorem SameK.hd {x y:V} {xs ys:List V} (h:SameK (x :: xs) (y :: ys)):SameK [x] [y]/\SameK xs ys:=by
 cases h with
 | int h=>exact ⟨.int .nil,h⟩
 | str h=>exact ⟨.str .nil,h⟩
theorem Qz (x:V):ltV x x=false:=by
 cases x <;> simp [ltV]
theorem Ia {x y z:V} (h1:ltV x y=true) (h2:ltV y z=true):ltV x z=true:=by
 cases x <;> cases y <;> simp only [ltV,Z4,Abe] at h1 <;> cases z <;> simp only [ltV,Z4,Abe] at h2 ⊢
 ·exact Int.lt_trans h1 h2
 ·exact List.lt_trans h1 h2
theorem Fo:∀ xs:List V,Bj xs xs=false
 | []=>rfl
 | x :: xs=>by
  show (if x=x then Bj xs xs else ltV x x)=false;rw [if_pos rfl];exact Fo xs
theorem yw:∀ {xs ys zs:List V},Bj xs ys=true->Bj ys zs=true->Bj xs zs=true
 | [],_,_,h1,_=>by cases h1
 | _ :: _,[],_,h1,_=>by cases h1
 | _ :: _,_ :: _,[],_,h2=>by cases h2
 | x :: xs,y :: ys,z :: zs,h1,h2=>by
  replace h1:(if x=y then Bj xs ys else ltV x y)=true:=h1;replace h2:(if y=z then Bj ys zs else ltV y z)=true:=h2;show (if x=z then Bj xs zs else ltV x z)=true;by_cases e1:x=y
  ·subst e1
   rw [if_pos rfl] at h1;by_cases e2:x=z
   ·subst e2
    rw [if_pos rfl] at h2 ⊢;exact yw h1 h2
   ·rw [if_neg e2] at h2 ⊢;exact h2
  ·rw [if_neg e1] at h1
   by_cases e2:y=z
   ·subst e2
    rw [if_neg e1];exact h1
   ·rw [if_neg e2] at h2
    have h3:=Ia h1 h2;rw [if_neg (fun z=>by rw [z,Qz] at h3;cases h3)];exact h3
theorem Vw {x y:V} (h:SameK [x] [y]):jO x=true/\jO y=true/\Cy x y=decide (x=y):=by
 cases h with
 | @int a b _ _ _=>
  refine ⟨rfl,rfl,?_⟩;show (a == b)=_;by_cases h:a=b <;> simp [h]
 | @str a b _ _ _=>
  refine ⟨rfl,rfl,?_⟩;show (a == b)=_;by_cases h:a=b <;> simp [h]
section
open PySem.SeqAt PySem.MeetsSeq PySem.MeetsSeq2 PySem.MeetsSeq3
open PySem.AutoSeq1 (wpAny_loadPart')
theorem QB {x y:V} {u v:Value} (h:SameK [x] [y]) (ru:RelV x u) (rv:RelV y v) (A:Around) (s:Shared) (prog:Program) (w:World) (E:Value->Shared->Prop) (Q:Value->Shared->Prop) (q:Q (.bool (ltV x y)) s):
  wpAny (model prog w) A (richCompare .Lt u v) Q E s:=by
 cases h with
 | int _=>
  obtain ⟨t,rfl⟩:=ru;obtain ⟨t',rfl⟩:=rv;exact (PyProof.Rows.lt_int q:wpAny (model prog w) A (compareOp .Lt _ _) Q E s)
 | str _=>
  obtain ⟨t,rfl⟩:=ru;obtain ⟨t',rfl⟩:=rv;exact (PyProof.Rows.lt_str q:wpAny (model prog w) A (compareOp .Lt _ _) Q E s)
theorem wU (l b:Addr) (us ws:Array Value) (n n2:Nat) (dd dd2:Option Addr) (sl sl2:Array (Option Value)) (xs ys:List V) (hi:Vals xs us.toList) (hj:Vals ys ws.toList) (hk:SameK xs ys):
  Meets (Builtin.«tuple.__lt__» ⟨[.ref l,.ref b],[]⟩)
   (fun _ R s=>s.heap.get? l=some {cls:=.type "tuple",dict:=dd,data:=.seq us n,slots:=sl}/\s.heap.get? b=some {cls:=.type "tuple",dict:=dd2,data:=.seq ws n2,slots:=sl2}/\
    R (.ok (.ret (.bool (Bj xs ys)))) s):=
 .of_wp fun prog w A R s h=>by
  obtain ⟨hp,g,d,tk,os⟩:=s;obtain ⟨hl,hb,h⟩:=h;have f2:=AutoSeq1.sub_tuple_tuple
  have lk:∀ {as bs:List V},SameK as bs->as.length=bs.length:=fun h=>by
   induction h with
   | nil=>rfl
   | int _ ih=>simp [ih]
   | str _ ih=>simp [ih]
  have z1:us.size=ws.size:=by
   have e1:=hi.length;have e2:=hj.length;simp only [ZG] at e1 e2;rw [← e1,← e2,lk hk]
  wp_walk using wpAny_loadPart' hl,wpAny_loadPart' hb,wpAny_forIn_list _ (fun rest st s'=>st.1=none/\s'=⟨hp,g,d,tk,os⟩/\∃ (va wa:List Value) (na ma:List V),rest=va.zip wa/\
   Vals na va/\Vals ma wa/\SameK na ma/\R (.ok (.ret (.bool (Bj na ma)))) ⟨hp,g,d,tk,os⟩) _
  case turn=>
   rintro ⟨y,x⟩ rest st s' ⟨hst,rfl,va,wa,na,ma,hz,hva,hwa,hsk,hR⟩;cases hva with
   | nil=>rw [List.zip_nil_left] at hz;cases hz
   | cons ru hva'=>
    cases hwa with
    | nil=>rw [List.zip_nil_right] at hz;cases hz
    | cons rv hwa'=>
     rw [List.zip_cons_cons] at hz;injection hz with hyx hrest;injection hyx with hy hx;subst hy hx;obtain ⟨hh,hsk'⟩:=SameK.hd hsk;simp only [Bj] at hR;obtain ⟨f1,f2',e⟩:=Vw hh;have he:=vV (A:=A.in1) (s:=⟨hp,g,d,tk,os⟩) ru rv f1 f2';rw [e] at he;refine YW (he prog w _ _ ?_)
     split at hR
     ·rename_i e
      rw [Zc e]
      wp_walk
      exact ⟨rfl,rfl,_,_,_,_,hrest,hva',hwa',hsk',hR⟩
     ·rename_i e
      rw [Zd e];have hri:=QB hh ru rv A.in1 ⟨hp,g,d,tk,os⟩ prog w
      wp_walk using hri
      exact ⟨_,rfl,by simpa using hR⟩
  case fin=>
   rintro ⟨b1,b2⟩ s' ⟨hst,rfl,va,wa,na,ma,hz,hva,hwa,hsk,hR⟩;simp only at hst;subst hst
   have hv:Bj na ma=decide (us.size < ws.size):=by
    rw [z1,Zd (by omega)];cases hsk with
    | nil=>rfl
    | int _=>
     cases hva;cases hwa;rw [List.zip_cons_cons] at hz;cases hz
    | str _=>
     cases hva;cases hwa;rw [List.zip_cons_cons] at hz;cases hz
   rw [hv] at hR
   wp_walk
   exact ⟨_,rfl,by simpa [Builtin.Tuple.tupleCompareSizes] using hR⟩
  case h=>
   exact ⟨rfl,rfl,us.toList,ws.toList,xs,ys,rfl,hi,hj,hk,h⟩
end
theorem Vx {A:Around} (h:A.units+64 < cLine):A.in1.units < cLine:=by
 have:A.in1.units=A.units+1:=rfl;omega
abbrev mnp (I S:Addr):Code:=.builtin "min.loop" ⟨[.ref I,.none,.ref S],[]⟩
def Vy (prog:Program) (w:World) (A:Around) (G:Heap->Prop) (P:Nat->Value->Prop) (bt:Nat->Nat->Bool):Prop:=
 ∀ (i j:Nat) (vi vj:Value) (s:Shared) (Q E:Value->Shared->Prop),G s.heap->P i vi->P j vj->Q (.bool (bt i j)) s->wpAny (model prog w) A (richCompare .Lt vi vj) Q E s
section
variable {prog:Program} {w:World} {A:Around} {R:Result->Shared->Prop} {I S:Addr} {fp wr:List Addr} {n:Nat} {P:Nat->Value->Prop} {St:Nat->Heap->Prop} {bt:Nat->Nat->Bool} {G:Heap->Prop}
theorem QC (W:Walks prog w A.in1 I fp wr n P St) (hcmp:Vy prog w A.in1 G P bt) (hSf:S ∉ fp) (hG:∀ h h':Heap,G h->(∀ b o,b ∉ wr->b≠S->h.get? b=some o->h'.get? b=some o)->G h'):∀ (k j:Nat) (s:Shared) (v:Value) (c:Nat),j+k+1=n->St (j+1) s.heap->G s.heap->P (argBest bt j) v->s.heap.get? S=some (X7 #[v,v] c)->
  (∀ v h' tk,P (argBest bt (n - 1)) v->(∀ b o,b ∉ wr->b≠S->s.heap.get? b=some o->h'.get? b=some o)->R (.ok (.ret v)) {s with heap:=h',toks:=tk})->codeAny (model prog w) A (mnp I S) R s:=by
 have hSw:S ∉ wr:=fun h=>hSf (W.sub _ h)
 have nm:(toString "min" ++ toString ".loop":String)="min.loop":=by decide
 intro k
 induction k with
 | zero=>
  intro j s v c e hst hg hv hS hR;refine Abw F.entry_min_loop ?_;rw [AbH Aa8 _];show wpAny _ A.in1 (seqItems? (.ref S) >>=_) _ _ s;refine YW (AaN hS rfl ?_);show wpAny _ A.in1 (tryCatch (pyNext (.ref I)) _ >>=_) _ _ s;have e':j+1=n:=e;refine YW (wpAny_tryCatch (W.done s _ _ (e' ▸ hst) fun h' tk kp=>?_));refine YW (m:=updateSeq S fun _=>#[]) ?_;refine wpAny_updateSeq (kp S _ hSw hS) rfl (YW (wpAny_letGo (Y5 (hR v _ tk ?_ fun b o n1 n2 q=>?_))))
  ·rw [← e'];exact hv
  ·exact (ZV _ _ (Ne.symm n2)).trans (kp b o n1 q)
 | succ k ih=>
  intro j s v c e hst hg hv hS hR;refine Abw F.entry_min_loop ?_;rw [AbH Aa8 _];show wpAny _ A.in1 (seqItems? (.ref S) >>=_) _ _ s;refine YW (AaN hS rfl ?_);show wpAny _ A.in1 (tryCatch (pyNext (.ref I)) _ >>=_) _ _ s;refine YW (wpAny_tryCatch (W.item (j+1) s _ _ (by omega) hst fun u h' tk hu hst' kp=>?_));have hS':=kp S _ hSw hS;have hg':G h':=hG _ _ hg fun b o n1 _ q=>kp b o n1 q
  show wpAny _ A.in1 (tryCatch (holding [u,u] (richCompare .Lt u v >>=_)) _ >>=_) _ _ _;refine YW (wpAny_tryCatch (Z2 (YW (hcmp (j+1) (argBest bt j) u v _ _ _ hg' hu hv ?_))));refine YW (Z2 (AaY (YW (wpAny_letGo (Y5 ?_)))));have eb:argBest bt (j+1)=if bt (j+1) (argBest bt j) then j+1 else argBest bt j:=rfl
  cases hb:bt (j+1) (argBest bt j) with
  | true=>
   rw [hb,if_pos rfl] at eb;rw [if_pos rfl];refine YW (wpAny_updateSeq hS' rfl (YW (wpAny_letGo ?_)));rw [nm];refine Y5 ⟨AbQ Aa8 _,ih (j+1) _ u _ (by omega) (W.frame _ _ _ hst' fun b hf o q=>?_) (hG _ _ hg' fun b o n1 n2 q=>?_) (by rw [eb];exact hu) (gV _ hS' rfl) fun v' h2 tk2 hv' k2=>hR v' h2 tk2 hv' fun b o n1 n2 q=>?_⟩
   ·exact (ZV _ _ (fun z:S=b=>hSf (z ▸ hf))).trans q
   ·exact (ZV _ _ (Ne.symm n2)).trans q
   ·exact k2 b o n1 n2 ((ZV _ _ (Ne.symm n2)).trans (kp b o n1 q))
  | false=>
   rw [hb,if_neg (by decide)] at eb;rw [if_neg (by decide)];refine YW (wpAny_letGo ?_);rw [nm];exact Y5 ⟨AbQ Aa8 _,ih (j+1) _ v c (by omega) hst' hg' (by rw [eb];exact hv) hS' fun v' h2 tk2 hv' k2=>hR v' h2 tk2 hv' fun b o n1 n2 q=>k2 b o n1 n2 (kp b o n1 q)⟩
theorem Dp (W:Walks prog w A.in1 I fp wr n P St) (hcmp:Vy prog w A.in1 G P bt) (hSf:S ∉ fp) (hG:∀ h h':Heap,G h->(∀ b o,b ∉ wr->b≠S->h.get? b=some o->h'.get? b=some o)->G h') {s:Shared} {c:Nat} (hst:St 0 s.heap) (hg:G s.heap) (hS:s.heap.get? S=some (X7 #[] c)) (hn:0 < n)
  (hR:∀ v h' tk,P (argBest bt (n - 1)) v->(∀ b o,b ∉ wr->b≠S->s.heap.get? b=some o->h'.get? b=some o)->R (.ok (.ret v)) {s with heap:=h',toks:=tk}):codeAny (model prog w) A (mnp I S) R s:=by
 have hSw:S ∉ wr:=fun h=>hSf (W.sub _ h)
 have nm:(toString "min" ++ toString ".loop":String)="min.loop":=by decide
 refine Abw F.entry_min_loop ?_;rw [AbH Aa8 _];show wpAny _ A.in1 (seqItems? (.ref S) >>=_) _ _ s;refine YW (AaN hS rfl ?_);show wpAny _ A.in1 (tryCatch (pyNext (.ref I)) _ >>=_) _ _ s;refine YW (wpAny_tryCatch (W.item 0 s _ _ (by omega) hst fun u h' tk hu hst' kp=>?_));have hS':=kp S _ hSw hS;show wpAny _ A.in1 (updateSeq S (fun _=>#[u,u]) >>=_) _ _ _;refine YW (wpAny_updateSeq hS' rfl ?_);rw [nm];refine Y5 ⟨AbQ Aa8 _,QC W hcmp hSf hG (n - 1) 0 _ u _ (by omega) (W.frame _ _ _ hst' fun b hf o q=>?_) (hG _ _ hg fun b o n1 n2 q=>?_) hu (gV _ hS' rfl) fun v' h2 tk2 hv' k2=>hR v' h2 tk2 hv' fun b o n1 n2 q=>?_⟩
 ·exact (ZV _ _ (fun z:S=b=>hSf (z ▸ hf))).trans q
 ·exact (ZV _ _ (Ne.symm n2)).trans (kp b o n1 q)
 ·exact k2 b o n1 n2 ((ZV _ _ (Ne.symm n2)).trans (kp b o n1 q))
theorem Ib (a:Value):argsOk "min" ⟨[a],[]⟩:=by unfold argsOk;kernel_rfl
theorem yx {E:Value->Shared->Prop} {s:Shared} {p:Addr} {its:List Value} {Q:Value->Shared->Prop} (hh:A.handled=none) (hl:s.heap.IsList p its.toArray) (hn:its≠[])
  (hcmp:Vy prog w A.in1 G (fun i v=>its[i]?=some v) bt) (hg:G s.heap) (hG:∀ h h':Heap,G h->(∀ b o,b < s.heap.objs.size->h.get? b=some o->h'.get? b=some o)->G h')
  (q:∀ v h' tk,its[argBest bt (its.length - 1)]?=some v->(∀ b o,s.heap.get? b=some o->h'.get? b=some o)->Q v {s with heap:=h',toks:=tk}):
  wpAny (model prog w) A (call (.builtin "min") [.ref p]) Q E s:=by
 have nm:(toString "min" ++ toString ".loop":String)="min.loop":=by decide
 refine kmk_tree F.kind_min F.plain_min F.entry_min (Ib _) ?_;show wpAny _ A.in1 (Builtin.Builtins.bindParams "min" ["key","default"] 0 ⟨[],[]⟩ >>=_) _ _ s;refine YW (AaH (show Builtin.Builtins.bindParams "min" ["key","default"] 0 ⟨[],[]⟩=pure [none,none] from rfl) ?_);refine YW (Y5 ?_);obtain ⟨ol,hol,holr⟩:=id hl;have hll:p < s.heap.objs.size:=Za hol;refine YW (AbA hl ?_);refine YW (wpAny_newList ?_ (Z7 _));rw [nm];have sz:∀ o:Obj,(s.heap.push o).objs.size=s.heap.objs.size+1:=fun o=>Aaj ..
 have lt:∀ {b o},s.heap.get? b=some o->b < s.heap.objs.size:=fun e=>Za e
 have szl:its.toArray.size=its.length:=by simp
 refine Y5 ⟨AbQ Aa8 _,Dp (Walks.list (prog:=prog) (w:=w) (A:=A.in1) hh _ p (ZR hll) its.toArray) (bt:=bt) (G:=G) (fun i j vi vj s' Q' E' g' h1 h2 q'=>hcmp i j vi vj s' Q' E' g' (by simpa using h1) (by simpa using h2) q') ?_ (fun h h' g kp=>hG _ _ g fun b o hb e=>kp b o ?_ ?_ e) ⟨⟨_,YZ _ (Y8 _ rfl),rfl,rfl⟩,⟨ol,YZ _ (YZ _ hol),holr⟩⟩ (hG _ _ hg fun b o hb e=>YZ _ (YZ _ e)) (Y8 _ rfl) (by rw [szl];exact Abm.mpr hn) fun v h' tk hv kp=>?_⟩
 ·intro hm
  rcases Zb.mp hm with z | z
  ·have z':(s.heap.push _).objs.size=s.heap.objs.size:=z
   rw [sz] at z';omega
  ·have z':(s.heap.push _).objs.size=p:=ZD.mp z
   rw [sz] at z';have hll': @LT.lt Nat _ p s.heap.objs.size:=hll;omega
 ·exact fun z=>by
   have z': @Eq Nat b s.heap.objs.size:=ZD.mp z;omega
 ·exact fun z=>by
   have z': @Eq Nat b (s.heap.push _).objs.size:=z;rw [sz] at z';omega
 ·refine q v h' tk (by rw [← szl];exact (by simpa using hv)) fun b o e=>kp b o (fun z=>?_) (fun z=>?_) (YZ _ (YZ _ e))
  ·have hb': @LT.lt Nat _ b s.heap.objs.size:=lt e
   have z': @Eq Nat b s.heap.objs.size:=ZD.mp z;omega
  ·have hb': @LT.lt Nat _ b s.heap.objs.size:=lt e
   have z': @Eq Nat b (s.heap.push _).objs.size:=z;rw [sz] at z';omega
end
theorem o7 {bt:Nat->Nat->Bool} {n:Nat} (irr:∀ i,i<=n->bt i i=false) (tr:∀ i j k,i<=n->j<=n->k<=n->bt i j=true->bt j k=true->bt i k=true):∀ k,k<=n->argBest bt k<=k/\∀ j,j<=k->bt j (argBest bt k)=false
 | 0,_=>⟨Y4 _,fun j hj=>by
  have:j=0:=by omega
  subst this;exact irr 0 (Z7 _)⟩
 | k+1,hk=>by
  obtain ⟨h1,h2⟩:=o7 irr tr k (by omega);have eb:argBest bt (k+1)=if bt (k+1) (argBest bt k) then k+1 else argBest bt k:=rfl
  cases hb:bt (k+1) (argBest bt k) with
  | true=>
   rw [hb,if_pos rfl] at eb;rw [eb];refine ⟨Y4 _,fun j hj=>?_⟩;by_cases e:j=k+1
   ·subst e;exact irr _ hk
   ·cases h:bt j (k+1) with
    | false=>rfl
    | true=>
     have:=tr _ _ _ (by omega) hk (by omega) h hb;rw [h2 j (by omega)] at this;cases this
  | false=>
   rw [hb,if_neg (by decide)] at eb;rw [eb];refine ⟨by omega,fun j hj=>?_⟩;by_cases e:j=k+1
   ·subst e;exact hb
   ·exact h2 j (by omega)
def R9 (K:W.Frag):List V->Hp->VK->Prop:=fun xs H Q=>Mu xs H Q\/
 (∃ (p:Addr) (ts:List Str),xs=[.ref p]/\H p=some (.lst (ts.map V.str))/\ts≠[]/\∀ M,M∈ts->(∀ a∈ts,¬ a.cps.toList < M.cps.toList)->Q (.str M) H)\/
 ∃ (p:Addr) (as:List Addr) (ks:Nat->List V),xs=[.ref p]/\H p=some (.lst (as.map V.ref))/\as≠[]/\(∀ i a,as[i]?=some a->H a=some (.tup (ks i)))/\(∀ i j,i < as.length->j < as.length->SameK (ks i) (ks j))/\
  ∀ i a,as[i]?=some a->(∀ j,j < as.length->Bj (ks j) (ks i)=false)->Q (.ref a) H
section
variable {X:Cx}
theorem Ie:∀ {ts:List Str} {us:List Value},Vals (ts.map V.str) us->∀ (i:Nat) (v:Value),us[i]?=some v->∃ (t:Str) (tk:Tok),ts[i]?=some t/\v=Value.str t tk:=by
 intro ts
 induction ts with
 | nil=>intro us h i v e;cases h;simp at e
 | cons t ts ih=>
  intro us h i v e;cases h with
  | cons a b=>
   cases i with
   | zero=>
    obtain ⟨tk,rfl⟩:=a;simp at e;exact ⟨t,tk,by simp,e.symm⟩
   | succ i=>exact ih b i v (by simpa using e)
theorem Ig (hc:X.calm=true) (hu:X.A.in1.units < cLine):CallR X (.builtin "min") (R9 X.K):=by
 intro pins s U H xs us Q I r h;rcases h with h | ⟨p,ts,rfl,hp,hne,q⟩ | ⟨p,as,ks,rfl,hp,hne,hk,hsk,q⟩
 ·exact HX hc pins s U H xs us Q I r h
 ·obtain ⟨u,rfl,ru⟩:=vals1 r
  cases ru;obtain ⟨hz,its,n,rv,g⟩:=I.hok p _ hp;have hl:its.length=ts.length:=by rw [← rv.length];simp
  have hst:=Ie rv;have hne':its≠[]:=fun z=>hne (List.eq_nil_of_length_eq_zero (by rw [← hl,z];rfl))
  have hpos:0 < its.length:=Abm.mpr hne'
  have at_:∀ (i:Nat) (v:Value),its[i]?=some v->∃ tk,v=Value.str (ts.getD i (⟨#[]⟩:Str)) tk:=fun i v e=>by
   obtain ⟨t,tk,e1,e2⟩:=hst i v e;exact ⟨tk,by rw [e2,Y7,e1];rfl⟩
  refine yx (G:=fun _=>True) (bt:=fun i j=>decide ((ts.getD i (⟨#[]⟩:Str)).cps.toList < (ts.getD j (⟨#[]⟩:Str)).cps.toList)) (I.ok.hd hc) ⟨_,g,rfl,n,rfl⟩ hne' (fun i j vi vj s' Q' E' _ h1 h2 q'=>?_) trivial (fun _ _ _ _=>trivial) fun v h' tk hv hk=>?_
  ·obtain ⟨t1,rfl⟩:=at_ i vi h1
   obtain ⟨t2,rfl⟩:=at_ j vj h2;exact (PyProof.Rows.lt_str q':wpAny (model X.prog X.w) X.A.in1 (compareOp .Lt _ _) Q' E' s')
  ·obtain ⟨h1,h2⟩:=o7 (bt:=fun i j=>decide ((ts.getD i (⟨#[]⟩:Str)).cps.toList < (ts.getD j (⟨#[]⟩:Str)).cps.toList)) (n:=its.length - 1) (fun i _=>by simp) (fun i j k _ _ _ a b=>by
    simp only [Abe] at a b ⊢;exact List.lt_trans a b) _ (Y4 _)
   obtain ⟨t,tk',e1,rfl⟩:=hst _ v hv;refine ⟨.str t,H,I.kept hk,⟨tk',rfl⟩,q t (Zj e1) fun a ha=>?_⟩;obtain ⟨j,hj⟩:=List.mem_iff_getElem?.mp ha
   have hj':j < ts.length:=by
    obtain ⟨z,_⟩:=Y0.mp hj;exact z
   have:=h2 j (by omega);generalize argBest _ _=m at this e1 hv;simp only [decide_eq_false_iff_not,Y7,hj] at this;rw [e1] at this;exact this
 ·obtain ⟨u,rfl,ru⟩:=vals1 r
  cases ru;have hL:=HY I hp;have hpos:0 < as.length:=Abm.mpr hne
  have at_:∀ (i:Nat) (v:Value),(as.map Value.ref)[i]?=some v->∃ a,as[i]?=some a/\v=Value.ref a:=fun i v e=>by
   rw [Y9] at e;cases e1:as[i]? with
   | none=>rw [e1] at e;cases e
   | some a=>rw [e1] at e;cases e;exact ⟨a,rfl,rfl⟩
  refine yx (G:=fun h=>∀ i a,as[i]?=some a->∃ its,Vals (ks i) its/\h.IsTuple a its.toArray/\a < s.heap.objs.size) (bt:=fun i j=>Bj (ks i) (ks j)) (its:=as.map Value.ref) (I.ok.hd hc) hL (fun z=>hne (List.map_eq_nil_iff.mp z)) (fun i j vi vj s' Q' E' g h1 h2 q'=>?_) (fun i a e=>?_) (fun h h' g kp i a e=>?_) fun v h' tk hv hk'=>?_
  ·obtain ⟨a,e1,rfl⟩:=at_ i vi h1
   obtain ⟨b,e2,rfl⟩:=at_ j vj h2;obtain ⟨u1,r1,p1,_⟩:=g i a e1;obtain ⟨u2,r2,p2,_⟩:=g j b e2;obtain ⟨⟨cls,dd,data,sl⟩,ho,hcl,n,hd⟩:=id p1;obtain ⟨⟨cls2,dd2,data2,sl2⟩,ho2,hc2,n2,hd2⟩:=id p2;simp only at hcl hd hc2 hd2;subst hcl hd hc2 hd2
   have li:i < as.length:=by
    obtain ⟨z,_⟩:=Y0.mp e1;exact z
   have lj:j < as.length:=by
    obtain ⟨z,_⟩:=Y0.mp e2;exact z
   exact richCompare_meets_room (op:=.Lt) ⟨_,ho,rfl⟩ ⟨_,ho2,rfl⟩ PySem.F.slot_tuple_lt PySem.F.entry_tuple_lt (PySem.F.args_tuple_lt_2 _ _) (wU a b u1.toArray u2.toArray n n2 dd dd2 sl sl2 (ks i) (ks j) (by simpa using r1) (by simpa using r2) (hsk i j li lj))
    ⟨ho,ho2,⟨(fun x=>nomatch x),q'⟩⟩ hu
  ·obtain ⟨its,r1,p1,_⟩:=I.tuple (SqT.of (hk i a e))
   obtain ⟨o,ho,_⟩:=id p1;exact ⟨its,r1,p1,Za ho⟩
  ·obtain ⟨its,r1,⟨o,ho,hr⟩,l⟩:=g i a e
   exact ⟨its,r1,⟨o,kp _ _ l ho,hr⟩,l⟩
  ·rw [Y6] at hv
   obtain ⟨h1,h2⟩:=o7 (bt:=fun i j=>Bj (ks i) (ks j)) (n:=as.length - 1) (fun i _=>Fo _) (fun i j k _ _ _ a b=>yw a b) _ (Y4 _);obtain ⟨a,e1,rfl⟩:=at_ _ v hv;exact ⟨.ref a,H,I.kept hk',rfl,q _ a e1 fun j hj=>h2 j (by omega)⟩
end
section
variable {K:W.Frag} {H:Hp} {Q:VK}
theorem Fp {i j k:Int} (h:∀ M,(M=i\/M=j\/M=k)->M<=i->M<=j->M<=k->Q (.int M) H):R9 K [.int i,.int j,.int k] H Q:=.inl (Vv h)
end
end L2
namespace My
open PySem L2
local macro_rules | `(tactic| walk_at "p") => `(tactic| first | exact bu _ | with_unfolding_all rfl)
local macro_rules | `(tactic| walk_at "h") => `(tactic| (with_unfolding_all first | assumption | omega | (dsimp only <;> omega) | exact ⟨by omega, by omega⟩ | exact .inl ⟨by omega, by omega⟩ | exact .inr ⟨by omega, by omega⟩ | exact ⟨by decide, by decide, by decide⟩))
local macro_rules | `(tactic| walk_at "b") => do
 let r (x:String):=(x.splitOn " ").toArray.mapM fun n=>do `(Lean.Parser.Tactic.tacticSeq| refine $(Lean.mkIdent (.mkSimple n)) ?_)
 let a:=(←r "lY jP kZ il ir")++#[←`(Lean.Parser.Tactic.tacticSeq| (refine' gW ?hz0 ?_; (case hz0 => with_unfolding_all rfl)))]++(←r "yg mz dF dj gY gK cZ gO cY lV dg mC mj dm lW gP gQ lX dh di gU gM c7 lZ mq my gZ dq du dw dz dB dD ie yh bT dJ")++#[←`(Lean.Parser.Tactic.tacticSeq| (refine' bx (SqT.of ?hz0) ?hz1 ?_; (case hz0 => first | assumption | exact aj); (case hz1 => rfl)))]++(←r "bV bY ig bW dR dU dW cU cV dX dY ik mD cR dM cT dN dO bU gb dH")++#[←`(Lean.Parser.Tactic.tacticSeq| (refine' xG ?hz0 ?_; (case hz0 => walk_at "h")))]++#[←`(Lean.Parser.Tactic.tacticSeq| (refine' dG ?hz0 ?_; (case hz0 => walk_at "h")))]++#[←`(Lean.Parser.Tactic.tacticSeq| (refine' aU (SqL.of ?hz0) ?hz1 ?_; (case hz0 => first | assumption | exact aj); (case hz1 => with_unfolding_all rfl)))]++#[←`(Lean.Parser.Tactic.tacticSeq| (refine' fK (SqT.of ?hz0) ?hz1 ?_; (case hz0 => first | assumption | exact aj); (case hz1 => with_unfolding_all rfl)))]++#[←`(Lean.Parser.Tactic.tacticSeq| (refine' bK ?hz0 ?hz1 ?_; (case hz0 => first | assumption | exact aj); (case hz1 => with_unfolding_all rfl)))]++(←r "bZ b7 iu dZ")
 `(tactic| first $[| $a]*)
local macro_rules | `(tactic| walk_at "0") => `(tactic| (first | walk_at "b" | refine qu ?_ | refine qw ?_ | refine pZ ?_ | refine jK ?_))
local macro_rules | `(tactic| walk_at "1") => `(tactic| (first | walk_at "b" | refine qu ?_ | refine qw ?_ | refine jr ?_))
local macro_rules | `(tactic| walk_at "2") => `(tactic| (first | walk_at "b" | refine lw ?_ | refine lu ?_ | refine jr ?_ | refine Ms ?_))
local macro_rules | `(tactic| walk_at "3") => `(tactic| (first | walk_at "b" | refine lw ?_ | refine lu ?_ | refine jr ?_))
local macro_rules | `(tactic| walk_at "4") => `(tactic| (first | walk_at "b" | refine qu ?_ | refine qw ?_ | (refine' R5 ?hz0 ?_; (case hz0 => with_unfolding_all rfl))))
local macro_rules | `(tactic| walk_at "5") => `(tactic| (first | walk_at "b" | refine lw ?_ | refine lu ?_ | refine Fp ?_ | refine jr ?_))
abbrev Yb (d:Stmt) (x:Str):Prop:=(az d).names.lookup x=some NameKind.local
def nI (cs:List Nat):List Int:=cs.map fun i:Nat=>(i:Int)
theorem Mv {E:List Nat} (hn:E.Nodup) {i x:Nat} (h:E[i]?=some x):E.idxOf x=i:=by
 obtain ⟨hi,rfl⟩:=Y0.mp h;exact hn.idxOf_getElem i hi
structure Prm (t:List Nat):Prop where
 le:t.length<=96
 pm:t.Perm (List.range t.length)
theorem Prm.nd {t:List Nat} (h:Prm t):t.Nodup:=h.pm.nodup_iff.mpr List.nodup_range
theorem Prm.lt {t:List Nat} (h:Prm t) {x:Nat} (hx:x∈t):x < t.length:=ZS.mp (h.pm.mem_iff.mp hx)
def top (i:Nat):Stmt:=PySem.Challenge.pw_panethread_k75_near_ones_apart.main.body.getD i (.Pass ⟨0,0,0,0⟩)
abbrev o8:Stmt:=top 15
abbrev o9:Stmt:=top 16
abbrev um:Stmt:=top 17
abbrev m9:Stmt:=top 18
abbrev ph:Stmt:=top 19
abbrev sV:Stmt:=top 21
abbrev ni:Stmt:=top 22
abbrev qU:Stmt:=top 23
abbrev pA:Stmt:=top 24
abbrev nj:Stmt:=top 25
abbrev sW:Stmt:=top 26
abbrev jl:Stmt:=top 30
abbrev jU:Stmt:=top 31
abbrev qW:Stmt:=top 32
abbrev qX:Stmt:=top 33
abbrev uo:Stmt:=top 34
abbrev nu:Stmt:=top 35
abbrev qg:Stmt:=top 36
abbrev nF:Stmt:=top 39
abbrev jV:Stmt:=top 40
abbrev sX:Stmt:=top 41
abbrev uq:Stmt:=top 46
abbrev Dq:Stmt:=top 51
abbrev pB:Stmt:=top 55
abbrev fX:Stmt:=top 56
abbrev jm:Stmt:=top 57
abbrev gG:Stmt:=top 58
abbrev lB:Stmt:=top 59
abbrev vH:Stmt:=top 60
abbrev jF:Stmt:=top 61
abbrev wV:Stmt:=top 63
abbrev ur:Stmt:=top 64
abbrev ut:Stmt:=top 65
abbrev uv:Stmt:=top 66
abbrev pC:Stmt:=top 67
abbrev nG:Stmt:=top 68
abbrev jG:Stmt:=top 69
abbrev nH:Stmt:=top 70
abbrev pG:Stmt:=top 71
abbrev kI:Stmt:=top 72
abbrev kJ:Stmt:=top 73
abbrev jn:Stmt:=top 74
abbrev Bk:Stmt:=top 75
abbrev iV:Stmt:=oA 0 (top 37)
abbrev lC:Stmt:=oA 3 (top 37)
abbrev iW:Stmt:=oA 0 (top 43)
abbrev lD:Stmt:=oA 1 (top 43)
abbrev jt:Stmt:=oA 0 (top 45)
abbrev ju:Stmt:=oA 1 (top 45)
abbrev d7:Stmt:=oA 2 (top 45)
abbrev jW:Stmt:=oA 4 (top 45)
abbrev iY:Stmt:=oA 0 (top 48)
abbrev fH:Stmt:=oA 3 (top 48)
abbrev iJ:Stmt:=oA 5 (top 48)
abbrev gw:Stmt:=oA 6 (top 48)
abbrev Fq:Stmt:=initOf (top 3)
abbrev mL:Stmt:=initOf (top 4)
abbrev mO:Stmt:=initOf (top 5)
abbrev Bl:Stmt:=initOf (top 6)
abbrev uV:Stmt:=initOf (top 7)
abbrev qC:Stmt:=initOf (top 8)
local macro_rules | `(tactic| walk_at "s") => `(tactic| (with_reducible repeat (first | refine j9 ?_ | walk_at "0")))
local macro_rules | `(tactic| apply $t) => `(tactic| (refine $t;walk_at "s"))
local macro_rules | `(tactic| walk_at "n") => `(tactic| (with_reducible repeat (walk_at "0")))
local macro_rules | `(tactic| walk_at $s:str) => do
 let t:=s.getString.toList
 let i (x:String):=Lean.mkIdent (x.splitOn "." |>.foldl (fun a b=>Lean.Name.str a b) .anonymous)
 if t.head?==some '@' then
  let l:=((s.getString.drop 1).toString.splitOn " ")
  let a:=l.drop 2|>.map fun x=>(i x:Lean.Term)
  let hs:=List.toArray ((List.replicate l[1]!.toNat! "_").map fun x=>(i x:Lean.Term))
  let some nm:=("- L2.tU L2.lO L2.oJ L2.Oh L2.Sw".splitOn " ")[l[1]!.toNat!]? | Lean.Macro.throwUnsupported
  let fk←`(fun _ _ _ _ _ _ us hl=>$(i nm) (fun $hs* =>rfl) us hl)
  let e:=(a.toArray.push fk).push (←`(?_))
  let b:=#["f","cdv","A","outer","s","H","vs","Q","E","hr","h"].map i
  let e:=e.push (←`(fun $b* =>?_))
  let w:=Lean.Syntax.mkApp (i l[0]!) e
  return ←`(tactic| (refine $w;(·intro _ _ _ _ h;repeat (first | (obtain ⟨e,_⟩:=h;subst e;rfl) | obtain ⟨_,h⟩:=h));have $(i "hu"):ident:=$(i "hr.units0");have $(i "hu64"):ident:=$(i "hr.units")))
 unless t.head?==some '=' do Lean.Macro.throwUnsupported
 let nx:StateT (List Char) Lean.MacroM Char:=do match ←get with
  |c::r=>do set r;pure c
  |[]=>throw .unsupportedSyntax
 let up (e:Char):StateT (List Char) Lean.MacroM String:=modifyGet fun l=>(String.ofList (l.takeWhile (·!=e)),(l.dropWhile (·!=e)).drop 1)
 let tb:=("!au ? ?
$aa ? aq
%aA ?
&aa ? ?
'ao #2
}Uhr.mono *0
(aK ? =}U aQ ?
)aL i:=? ? rfl bO ? rfl
*ao #3
+ao #4
,aH ?
-ao #5
}VaG K:=K rfl
.aF =}V aQ T.b_len bw ?
/bj K:=K rfl ? ?
0ao #1
1bj K:=K rfl ? aB
2aN i:=? ? rfl bO rfl
3ao #0
4bh ?
}Wao #1
5aa =}W aq
}Xao #0
6aa =}X ?
7bJ Zq rfl ? ? ?
8ao #6
9aa =}X aq
:bL ?
=aa aB ?
?aO aJ ? ?
AbQ ?
Bhr.mono *0
Caa =}W ?
DaO aJ ? aB
}Yao #2
Eaa =}Y aq
Fgf #0
}ZaH gB
}_aA =}Z
GbN ? =}_ bA
HoE ? *1 ?
IaV ? ?
JdI K:=K rfl Zu Zn Zo bB ? ?
Kaa aB aq
Lb8 N:=? sc:=? N':=? *1
MjB ?
NaV ? eV
OeY ?
PjR ? ?
QgC K:=K rfl ?
RaO cN ? aB
SaO cM ? ?
TbN ? ? bA
UiH K:=K rfl =}X ?
VcB aQ T.b_range ?
WiC K:=K rfl rfl ?
Xao #7
}`cA K:=K rfl
YaF =}` aQ T.b_isinstance aX ?
ZiT ?
_mK K:=K rfl ?
`aN i:=#5 =^ rfl bO rfl
aoU ?
beY aq
cqx ? ?
dlq K:=K rfl hu64
emX sub:=? ? rfl rfl rfl ? λC,s₀,H₀,ex=>? λC,s₀,H₀,ex=>eU λC,s₀,H₀,ex=>?
fmG #1
gbH ? ? ? *2
hjD K:=K rfl rfl aQ T.b_enumerate ?
iao #8
juP ?
kiD ? ? aQ cj ?
luT λ_,_=>rfl
mqJ aQ ?
nrW ? ? ? *2
oAi oN aB
po6 #2
qm8 K:=K rfl
raO cM ? aB
sbH uJ ? ? *2
taO j7 ? aB
ujj ?
vaO cN ? ?
wao ?
}aao #9
}bao #10
xbj K:=K rfl =}a =}b
yqL ? ? set_list
zaA oV
|aO ji aB ?
~!wk K:=K rfl hu64
~$mY ts:=uM ? ?
~%qI Xh ?
~&mZ i:=? ? rfl bO sub:=? ? rfl rfl rfl ? λC,s₀,H₀,ex=>? λC,s₀,H₀,ex=>eU λC,s₀,H₀,ex=>? rfl
}cqK aQ T.b_bool vq
~'aa =}c aq
}dpY K:=K rfl
~(aF =}d aQ T.b_isinstance aX ?
~)qK aQ T.b_list mV
~*mG ?
~+sE ? ? ? ? cj ?
~,pW aQ T.b_range ?
~-o6 ?
~.kh ? ? pU ?
~/jj aB
~0aa gB aq
~1bN ? ? ?
~2qI aQ ?
~3aO ji ? ?
~4aF ? aQ ? CP ?
~5v5 rfl
~6KD ?
}eqK aQ T.b_tuple v9
~7aa =}e aq
~8aH gB
~9aL i:=? ? rfl X8 ? rfl
~:bH zR ? ? *2
~=CW ? ?
~?yU ?
~AbH zU ? ? *2
~BbH ? ? aB *2
~Caa mH aq
~DLk aQ ? *1
~EDg K:=K rfl ?
~FDd K:=K rfl hu64
~GqK aQ ? Kv
~HdI K:=K rfl PySem.F.plainAttrs_str PySem.F.slot_str_join PySem.F.type_str_join Eo mH ?
~Iwg ? aQ ? mV ?
~Jv8 K:=K rfl rfl
~KqK aQ ? CQ
~LAo ? ? rfl aQ cj ? *1
~M? P:=P w:=w base:=base ?
~NLw K:=K rfl hu64
~OqL ? ? ?
~PFd hu64
~QaN i:=? ? rfl X8 rfl
~RvB ? ? ? aQ cj ? *1
~SvB ? ? ? aQ ? ? *1
~TAx ? ? ? ? ?
~UAy mg:=mg rfl ? ? ? ? ? ?
~VbH uJ ? aB *2
~WaF sU aQ ? tY ?
~XiD ? ? aQ ? ?
~YbH RC ? ? *2
~ZaF ? aQ ? Ku ?
~_yp rfl
~`kh ? ? ? ?
~aaL i:=? ? rfl bO mH rfl
~baO Jw aB aB
~caO j7 ? ?
~daO aJ aB ?
~ekh ? ? ? pU
~faa mH ?
~ggf ?
~haO aJ ? mH
~iaa Es ?
~jaa gB ?
~kaz jl
~lLz K:=K rfl rfl aQ ? ?
~mDj K:=K rfl aQ ? aQ ? ?
~naz sV
~oKo K:=K rfl
~paz qg
~qQd zU zU ? ? ?
~raL i:=? ? rfl bO Qm rfl
~smY ts:=Ls gB ?
~tQv K:=K rfl aQ ? ?
~uaz sX
~vj_if ? aB aB
~wG9 K:=K rfl rfl aQ ? aQ ? ?
~xaz ni
~yaz sW
~zaz iJ
~|az gw
}!Vg ?
}$rW zR ? ? *2
}%az fX
}&aK ? ? Xh ?
}'mZ i:=? ? rfl bO sub:=? ? rfl rfl rfl ? λC,s₀,H₀,ex=>? λC,s₀,H₀,ex=>? λC,s₀,H₀,ex=>? rfl
}(az jm
})PL ?
}*aF ? aQ ? UJ ?
}+Hl rfl
},aH Es
}-KH Zq ? ?
}.bH Vm ? Es *2
}/Vp i:=? ? rfl bO aB OJ rfl
}0aF za aQ ? tY ?
}1az vH
}2aH aB
}3aO ji ? aB
}4mZ i:=? ? rfl bO sub:=? ? rfl rfl rfl ? λC,s₀,H₀,ex=>? λC,s₀,H₀,ex=>eU λC,s₀,H₀,ex=>aB rfl
}5az nG
}6Hi aQ ? ?
}7mZ i:=? ? rfl bO sub:=? ? rfl rfl rfl ? λC,s₀,H₀,ex=>? λC,s₀,H₀,ex=>eU λC,s₀,H₀,ex=>gB rfl
}8az jG
}9mY ts:=uM gB ?
}:rW ? ? aB *2
}=bH zR ? aB *2
}?Px K:=K rfl
}Aaz jF
}BaL i:=? ? rfl bO aB rfl
}CmY ts:=Ls ? ?
}Daz kI
}EaF ? aQ ? UL ?
}FIg rfl ?
}GVx hu64
}Hwg Gs aQ ? CQ ?
}Iaz kJ
}JiC K:=K n:=? rfl rfl ?
}KVi rfl rfl λpins,R=>? ?
}LiD ? ? aQ Lh ?
}MRV K:=K i:=? rfl ? aQ *1 ? rfl ? λx=>? ?
}NRV K:=K i:=? rfl ? aQ *1 ? rfl ? λx=>? Vh
}OPP ? ?
}PPN K:=K rfl rfl ?
}QaO cM aB ?
}RaO aJ mH ?
}SaO ji mH aB
}TAi oN ?".splitOn "\n")
 let sc:=String.ofList ((t.drop 1).takeWhile (·!=';'))
 let by_ (n:String):Lean.MacroM Lean.Term:=match n with
  |"0"=>`(by decide)
  |"1"=>`(by trivial)
  |"2"=>`(by walk_at "p")
  |_=>throw .unsupportedSyntax
 let rec g:Nat->StateT (List Char) Lean.MacroM Lean.Term
 |0=>throw .unsupportedSyntax
 |n+1=>do
  let h:=g n
  let c←nx
  match c with
  |'{'=>return i (←up '}')
  |'^'=>return i (sc++".nd")
  |'#'=>return Lean.quote ((←nx).toNat-48)
  |'['=>do
   let l:=((←up ']').splitOn " ").map fun x:String=>(Lean.quote x:Lean.Term)
   `([$(l.toArray),*])
  |'<'=>do
   let l:=(←up '>').toList.map fun c=>if c=='.' then (i "none":Lean.Term) else Lean.Syntax.mkApp (i "some") #[Lean.quote (c.toNat-48)]
   `([$(l.toArray),*])
  |_=>do
  let c←if c=='~'||c=='}'||c==';' then (fun d=>String.ofList [c,d])<$>nx else pure c.toString
  let some e:=tb.find? (·.startsWith c) | throw .unsupportedSyntax
  let ar (x:String):StateT (List Char) Lean.MacroM Lean.Term:=fun s=>
   let y:=(x.drop 1).toString
   match x.front with
   |'?'=>h s
   |'='=>do return ((←h y.toList).1,s)
   |'*'=>do return (←by_ y,s)
   |'#'=>pure (Lean.quote y.toNat!,s)
   |'$'=>pure (Lean.quote y,s)
   |_=>pure (i x,s)
  let mut a:=#[]
  for x in ((e.drop c.length).toString).splitOn " " do
   let v←ar ((x.splitOn ":=").getLast!.splitOn "=>").getLast!
   if x.front=='λ' then
    let b:=((((x.drop 1).toString.splitOn "=>").head!.splitOn ",").map fun x=>(i x:Lean.Term)).toArray
    a:=a.push (←`(fun $b* =>$v))
   else if let [k,_]:=x.splitOn ":=" then a:=a.push ⟨←`(Lean.Parser.Term.namedArgument| ($(i k):ident:=$v))⟩
   else a:=a.push v
  return Lean.Syntax.mkApp a[0]! (a.extract 1 a.size)
 let (d,_)←(g 500).run ((t.dropWhile (·!=';')).drop 1)
 `(tactic| (refine ⟨_,$d,?_⟩;walk_at "s"))
mutual
def gA (m:Nat) (C:Nat->Nat->Bool) (i:Nat):Nat->Nat
 | 0=>m - 1 - i
 | j+1=>if C i j=true then gD m C j i else gA m C i j
termination_by j=>i+j
def gD (m:Nat) (C:Nat->Nat->Bool) (j:Nat):Nat->Nat
 | 0=>m+j
 | i+1=>if C i j=true then gA m C i j else gD m C j i
termination_by i=>i+j
end
section
variable {m:Nat} {C:Nat->Nat->Bool}
theorem jH (i:Nat):gA m C i 0=m - 1 - i:=by rw [gA]
theorem kO (i j:Nat):gA m C i (j+1)=if C i j=true then gD m C j i else gA m C i j:=by rw [gA]
theorem nJ (j:Nat):gD m C j 0=m+j:=by rw [gD]
theorem jJ (i j:Nat):gD m C j (i+1)=if C i j=true then gA m C i j else gD m C j i:=by rw [gD]
theorem Bm (i far:Nat):∀ j,j<=far->((List.range j).map (fun l=>gD m C l (i+1)) ++ gA m C i j :: (List.range' j (far - j)).map (fun l=>gD m C l i)).Perm (gA m C i 0 :: (List.range far).map (fun l=>gD m C l i))
 | 0,_=>by rw [List.range_eq_range' (n:=far)];exact List.Perm.refl _
 | j+1,h=>by
  refine List.Perm.trans ?_ (Bm i far j (by omega));rw [Aah,Zg,ZM,show far - j=(far - (j+1))+1 by omega,List.range'_succ,Z3];refine AaE _ ?_;show (gD m C j (i+1) :: gA m C i (j+1) :: _).Perm _;rw [kO,jJ];by_cases hc:C i j=true
  ·rw [if_pos hc,if_pos hc];exact List.Perm.refl _
  ·rw [if_neg hc,if_neg hc]
   exact List.Perm.swap _ _ _
theorem row_end (i far:Nat):((List.range far).map (fun l=>gD m C l (i+1)) ++ [gA m C i far]).Perm ((m - 1 - i) :: (List.range far).map (fun l=>gD m C l i)):=by
 have h:=Bm (m:=m) (C:=C) i far far (Y4 _);rw [AaO,jH] at h;exact h
theorem Bo (far:Nat):∀ i,((List.range i).map (fun k=>gA m C k far) ++ (List.range far).map (fun l=>gD m C l i)).Perm ((List.range i).map (fun k=>m - 1 - k) ++ (List.range far).map (fun l=>m+l))
 | 0=>by
  simp only [List.range_zero,List.map_nil,List.nil_append,nJ];exact List.Perm.refl _
 | i+1=>by
  have ih:=Bo far i;rw [Aah,Zg,Zg,ZM,ZM];refine List.Perm.trans (AaE _ (List.perm_append_comm.trans (row_end i far))) ?_;show ((List.range i).map _ ++ ([m - 1 - i] ++ _)).Perm _;refine List.Perm.trans (List.perm_append_comm_assoc _ _ _) ?_;refine List.Perm.trans ?_ (List.perm_append_comm_assoc _ _ _);exact AaE _ ih
theorem uw (far:Nat):((List.range m).map (fun k=>gA m C k far) ++ (List.range far).map (fun l=>gD m C l m)).Perm (List.range (m+far)):=by
 refine (Bo far m).trans ?_;rw [List.range_add];refine Aa4 _ ?_
 have e:(List.range m).map (fun k=>m - 1 - k)=(List.range m).reverse:=by
  refine List.ext_getElem (by simp) fun i h1 h2=>?_
  simp
 rw [e];exact List.reverse_perm _
end
def iZ (z:Nat->Bool) (ab:List Int) (left:Int):Nat->List Int×Int
 | 0=>([],left)
 | j+1=>if z j=true then ((iZ z ab left j).1 ++ [(iZ z ab left j).2],ab.getD j 0) else ((iZ z ab left j).1 ++ [ab.getD j 0],(iZ z ab left j).2)
theorem Bp (z:Nat->Bool) (ab:List Int) (left:Int):∀ j,(iZ z ab left j).1.length=j
 | 0=>rfl
 | j+1=>by
  have ih:=Bp z ab left j;rw [iZ]
  split <;> simp [ih]
def ux (m:Nat) (C:Nat->Nat->Bool) (far i:Nat):List Int:=(List.range far).map fun l=>((gD m C l i:Nat):Int)
def Ih (m:Nat) (C:Nat->Nat->Bool) (far i:Nat):List Int:=(List.range i).map fun k=>((gA m C k far:Nat):Int)
theorem Ds {m:Nat} {C:Nat->Nat->Bool} {far i j:Nat} (h:j < far):(ux m C far i).getD j 0=((gD m C j i:Nat):Int):=by
 unfold ux;rw [Y7,Y9,Aab h];rfl
theorem Vz {m:Nat} {C:Nat->Nat->Bool} {far i j:Nat} (h:j < i):(Ih m C far i)[j]?=some ((gA m C j far:Nat):Int):=by
 unfold Ih;rw [Y9,Aab h];rfl
theorem QD {m:Nat} {C:Nat->Nat->Bool} {far i j:Nat} (h:j < far):(ux m C far i)[j]?=some ((gD m C j i:Nat):Int):=by
 unfold ux;rw [Y9,Aab h];rfl
theorem zf {m:Nat} {C:Nat->Nat->Bool} {far i:Nat}:∀ j,j<=far->iZ (C i) (ux m C far i) ((gA m C i 0:Nat):Int) j=(ux m C j (i+1),((gA m C i j:Nat):Int))
 | 0,_=>rfl
 | j+1,h=>by
  have ih:=zf (m:=m) (C:=C) (far:=far) (i:=i) j (by omega);rw [iZ,ih,Ds (by omega),kO];have e:ux m C (j+1) (i+1)=ux m C j (i+1) ++ [((gD m C j (i+1):Nat):Int)]:=by unfold ux;rw [Aah,Zg];rfl
  rw [e,jJ];by_cases hc:C i j=true
  ·rw [if_pos hc,if_pos hc,if_pos hc]
  ·rw [if_neg hc,if_neg hc,if_neg hc]
theorem Bq {m:Nat} {C:Nat->Nat->Bool} {far:Nat}:(∀ i,i < m->gA m C i far < m+far)/\∀ j,j < far->gD m C j m < m+far:=by
 have p:=uw (m:=m) (C:=C) far;refine ⟨fun i hi=>?_,fun j hj=>?_⟩
 ·exact ZS.mp (p.mem_iff.mp (Zw _ (Z0.mpr ⟨i,ZS.mpr hi,rfl⟩)))
 ·exact ZS.mp (p.mem_iff.mp (Zf _ (Z0.mpr ⟨j,ZS.mpr hj,rfl⟩)))
theorem wW {m:Nat} {C:Nat->Nat->Bool} {far:Nat}:((List.range m).map (fun k=>gA m C k far) ++ (List.range far).map (fun l=>gD m C l m)).Nodup:=
 (uw (m:=m) (C:=C) far).nodup_iff.mpr List.nodup_range
theorem Yc {m:Nat} {C:Nat->Nat->Bool} {far i k:Nat} (hi:i < m) (hk:k < m) (h:i≠k):gA m C i far≠gA m C k far:=by
 have n:=(List.nodup_append.mp (wW (m:=m) (C:=C) (far:=far))).1;have key:=Aar.mp n;intro z;rcases Nat.lt_or_gt_of_ne h with l | l
 ·exact key i k (by simpa using hi) (by simpa using hk) l (by simpa using z)
 ·exact key k i (by simpa using hk) (by simpa using hi) l (by simpa using z.symm)
theorem Yd {m:Nat} {C:Nat->Nat->Bool} {far i k:Nat} (hi:i < far) (hk:k < far) (h:i≠k):gD m C i m≠gD m C k m:=by
 have n:=(List.nodup_append.mp (wW (m:=m) (C:=C) (far:=far))).2.1;have key:=Aar.mp n;intro z;rcases Nat.lt_or_gt_of_ne h with l | l
 ·exact key i k (by simpa using hi) (by simpa using hk) l (by simpa using z)
 ·exact key k i (by simpa using hk) (by simpa using hi) l (by simpa using z.symm)
theorem Ye {m:Nat} {C:Nat->Nat->Bool} {far i j:Nat} (hi:i < m) (hj:j < far):gA m C i far≠gD m C j m:=
 (List.nodup_append.mp (wW (m:=m) (C:=C) (far:=far))).2.2 _ (Z0.mpr ⟨i,ZS.mpr hi,rfl⟩) _ (Z0.mpr ⟨j,ZS.mpr hj,rfl⟩)
def qY (m:Nat) (C:Nat->Nat->Bool) (far:Nat) (R:List Int):Prop:=R.length=m+far/\(∀ j,j < far->R[gD m C j m]?=some (j:Int))/\∀ i,i < m->R[gA m C i far]?=some (((far+(m - 1 - i):Nat)):Int)
def oG:Str:=Str.ofString "abcdefghijklmnopqrstuvwxyz"
def qZ (l:Str) (c:Nat):Bool:=(Builtin.Str.occurrences l ⟨#[c]⟩ 0 l.length 1).isEmpty
def VB (K:W.Frag):Sp:=fun vs H Q _=>∃ (a:Addr) (ns:List Int) (k:Int),vs=[.ref a,.int k]/\SqL K H a (ns.map V.int)/\0<=k/\∀ n,Q (.int n) H
def QF:Sp:=fun vs H Q _=>∃ n:Int,vs=[.int n]/\Q (.bl true) H
theorem over {H H':Hp} {r:Addr} {o:HO} (s:Same H H') (hn:H r=none):Same H (upd H' r o):=fun b u e=>by
 rw [aC (fun z=>by rw [z,hn] at e;cases e)];exact s b u e
def Thing (K:W.Frag) (H:Hp) (v:V):Prop:=(∃ z,v= .str z/\z.length<=5000)\/∃ T,TyOf K H v (.type T)/\PySem.W.kitOne K (.type T) (.type "str")=some false
def among (z l:Str):Bool:=z.cps.toList.all fun c=>!(Builtin.Str.occurrences l ⟨#[c]⟩ 0 l.length 1).isEmpty
def mQ (v:V) (l:Str) (m:Int):Bool:=match v with
 | .str z=>decide ((z.length:Int)<=m) && among z l
 | _=>false
def spIs (K:W.Frag) (l:Str) (m:Int):Sp:=fun vs H Q _=>∃ (v:V),vs=[v]/\Thing K H v/\∀ H',Same H H'->Q (.bl (mQ v l m)) H'
structure Txt (K:W.Frag) (mg:Str->Option Value):Prop where
 b_all:mg "all"=none
 b_bool:mg "bool"=none
 b_enumerate:mg "enumerate"=none
 b_int:mg "int"=none
 b_isinstance:mg "isinstance"=none
 b_len:mg "len"=none
 b_list:mg "list"=none
 b_max:mg "max"=none
 b_min:mg "min"=none
 b_range:mg "range"=none
 b_reversed:mg "reversed"=none
 b_sorted:mg "sorted"=none
 b_str:mg "str"=none
 b_sum:mg "sum"=none
 b_tuple:mg "tuple"=none
 b_zip:mg "zip"=none
 c_CROSS:∃ t,mg "CROSS"=some (.str "x" t)
 c_LETTERS:∃ t,mg "LETTERS"=some (.str "abcdefghijklmnopqrstuvwxyz" t)
 c_MOST_COST:∃ t,mg "MOST_COST"=some (.int 48 t)
 c_MOST_LETTERS:∃ t,mg "MOST_LETTERS"=some (.int 24 t)
 c_MOST_LINES:∃ t,mg "MOST_LINES"=some (.int 96 t)
 c_MOST_SIGNS:∃ t,mg "MOST_SIGNS"=some (.int 48 t)
 c_MOST_STRETCHES:∃ t,mg "MOST_STRETCHES"=some (.int 400 t)
 c_MOST_WORTH:∃ t,mg "MOST_WORTH"=some (.int 1000000 t)
 c_POINT:∃ t,mg "POINT"=some (.str "." t)
 c_TOUCH:∃ t,mg "TOUCH"=some (.str "o" t)
 d_is_number:cH K mg "is_number" o8
 d_is_within:cH K mg "is_within" o9
 d_is_span:cH K mg "is_span" um
 d_need_place:cH K mg "need_place" m9
 d_need_span:cH K mg "need_span" ph
 d_is_row:cH K mg "is_row" sV
 d_is_plain:cH K mg "is_plain" ni
 d_need_row:cH K mg "need_row" qU
 d_need_rows:cH K mg "need_rows" pA
 d_need_plain:cH K mg "need_plain" nj
 d_parted:cH K mg "parted" sW
 d_lines_above:cH K mg "lines_above" jl
 d_signs_of_row:cH K mg "signs_of_row" jU
 d_over_row:cH K mg "over_row" qW
 d_cells_of:cH K mg "cells_of" qX
 d_ends_of:cH K mg "ends_of" uo
 d_over_cells:cH K mg "over_cells" nu
 d_ways_of:cH K mg "ways_of" qg
 d_is_turning:cH K mg "is_turning" nF
 d_need_turning:cH K mg "need_turning" jV
 d_counts:cH K mg "counts" sX
 d_asks_of:cH K mg "asks_of" uq
 d_near:cH K mg "near" Dq
 d_is_worthy:cH K mg "is_worthy" pB
 d_need_stretches:cH K mg "need_stretches" fX
 d_sums_by_end:cH K mg "sums_by_end" jm
 d_last_of_the_most:cH K mg "last_of_the_most" gG
 d_chosen_from:cH K mg "chosen_from" lB
 d_apart:cH K mg "apart" vH
 d_apart_near:cH K mg "apart_near" jF
 d_law_at:cH K mg "_law_at" wV
 d_law_mix:cH K mg "_law_mix" ur
 d_law_put:cH K mg "_law_put" ut
 d_law_two:cH K mg "_law_two" uv
 d_law_whole:cH K mg "_law_whole" pC
 d_law_best:cH K mg "_law_best" nG
 d_law_chosen:cH K mg "_law_chosen" jG
 d_law_prices:cH K mg "_law_prices" nH
 d_law_right:cH K mg "_law_right" pG
 d_law_costs:cH K mg "_law_costs" kI
 d_law_spans:cH K mg "_law_spans" kJ
 d_law_refused:cH K mg "_law_refused" jn
 d_law:cH K mg "law" Bk
 x_PaneError:Li K mg "PaneError"
 x_NoRow:sr K mg "NoRow" ["found"] "NoRow.__init__" Fq
 x_NoPlain:sr K mg "NoPlain" ["found"] "NoPlain.__init__" mL
 x_NoPlace:sr K mg "NoPlace" ["found"] "NoPlace.__init__" mO
 x_NoSpan:sr K mg "NoSpan" ["begin","end"] "NoSpan.__init__" Bl
 x_NoTurning:sr K mg "NoTurning" ["found"] "NoTurning.__init__" uV
 x_NoStretches:sr K mg "NoStretches" ["found"] "NoStretches.__init__" qC
 o_Board:sy K mg "Board"
 n_Board:∀ f∈(["held_side","held_top","held_cells","held_coming","held_lines","held_ways"]:List Str),NoAttr K (aP mg "Board") f
 o_Tally:sy K mg "Tally"
 n_Tally:∀ f∈(["held_ends","held_counts"]:List Str),NoAttr K (aP mg "Tally") f
 o_Asks:sy K mg "Asks"
 n_Asks:∀ f∈(["held_tally","held_many","held_far"]:List Str),NoAttr K (aP mg "Asks") f
 o_Costs:sy K mg "Costs"
 n_Costs:∀ f∈(["held_asks","held_side","held_top"]:List Str),NoAttr K (aP mg "Costs") f
 m_Board___init__:jo K mg "Board" "__init__" "Board.__init__" iV
 m_Board_lines:jo K mg "Board" "lines" "Board.lines" lC
 m_Tally___init__:jo K mg "Tally" "__init__" "Tally.__init__" iW
 m_Tally_below:jo K mg "Tally" "below" "Tally.below" lD
 m_Asks___init__:jo K mg "Asks" "__init__" "Asks.__init__" jt
 m_Asks_reckoned:jo K mg "Asks" "reckoned" "Asks.reckoned" ju
 m_Asks_reckoned_stretch:jo K mg "Asks" "reckoned_stretch" "Asks.reckoned_stretch" d7
 m_Asks_stretch:jo K mg "Asks" "stretch" "Asks.stretch" jW
 m_Costs___init__:jo K mg "Costs" "__init__" "Costs.__init__" iY
 m_Costs_reckoned_cost:jo K mg "Costs" "reckoned_cost" "Costs.reckoned_cost" fH
 m_Costs_row_of:jo K mg "Costs" "row_of" "Costs.row_of" iJ
 m_Costs_rows_of:jo K mg "Costs" "rows_of" "Costs.rows_of" gw
 u_NoPlain_PaneError:Sub K mg "NoPlain" "PaneError" true
 u_NoPlain_NoPlain:Sub K mg "NoPlain" "NoPlain" true
 u_NoPlain_NoPlace:Sub K mg "NoPlain" "NoPlace" false
 u_NoPlace_PaneError:Sub K mg "NoPlace" "PaneError" true
 u_NoPlace_NoPlain:Sub K mg "NoPlace" "NoPlain" false
 u_NoPlace_NoPlace:Sub K mg "NoPlace" "NoPlace" true
section
variable {P:Program} {w:World} {K:W.Frag} {mg:Str->Option Value} {base:Heap}
theorem uy:(["column","many"]:List Str).Nodup:=by trivial
def QG:Sp:=fun vs H Q _=>∃ m f:Nat,vs=[.int m,.int f]/\m<=48/\f<=48/\∀ D,H D=none->Q (.ref D) (upd H D (.lst (((List.range f).map fun l=>((m+l:Nat):Int)).map V.int)))
theorem wX:aD ["many","far"] ["many","far"] (az jl):=⟨rfl,rfl,rfl,by trivial,rfl,by trivial,by trivial⟩
theorem fj (T:Txt K mg):lN P w K mg base 1 "lines_above" ["many","far"] QG:=by
 walk_at "@fB 2 T.d_lines_above wX";obtain ⟨m,f,rfl,hm,hf,q⟩:=h;walk_at "=_;%,e<.0>L[many far]~k[column many]V5H#0{uy}?fF";refine ⟨_,rfl,by omega,by omega,?_⟩;refine mF (n:=f) (fun i ys H'=>H'=H/\ys=((List.range i).map fun l=>((m+l:Nat):Int)).map V.int) (ZP hf (by decide)) ⟨rfl,rfl⟩ ?_ ?_ ?_
 ·rintro i ys H' ⟨_,rfl⟩
  simp
 ·rintro i ys H' hi ⟨rfl,rfl⟩
  walk_at "s";apply ⟨KeepSt.set rfl,?_⟩;refine ⟨rfl,?_⟩;rw [Aah,Zg,Zg];simp
 ·rintro ys H' ⟨rfl,rfl⟩ D hD
  walk_at "s";exact q D hD
def PrI (H:Hp):List V->List (Int×Int)->Prop
 | [],[]=>True
 | v :: vs,(x,y) :: L=>(∃ p,v= .ref p/\H p=some (.tup [.int x,.int y]))/\PrI H vs L
 | _,_=>False
theorem PrI.imp {H H':Hp} (h:∀ p us,H p=some (.tup us)->H' p=some (.tup us)):∀ {ws:List V} {L:List (Int×Int)},PrI H ws L->PrI H' ws L
 | [],[],_=>trivial
 | v :: vs,(x,y) :: L,⟨⟨p,e,hp⟩,r⟩=>⟨⟨p,e,h _ _ hp⟩,PrI.imp h r⟩
 | [],_ :: _,z=>z.elim
 | _ :: _,[],z=>z.elim
theorem PrI.same {H H':Hp} {ws:List V} {L:List (Int×Int)} (h:PrI H ws L) (s:Same H H'):PrI H' ws L:=h.imp fun p us e=>s _ _ e
theorem PrI.upd {H:Hp} {ws us:List V} {L:List (Int×Int)} {f:Addr} {o:HO} (h:PrI H ws L) (hf:H f=some (.lst us)):PrI (upd H f o) ws L:=h.imp fun p vs e=>by rw [aC (fun z=>by rw [z,hf] at e;cases e)];exact e
theorem PrI.push {H:Hp} {p:Addr} {x y:Int} (hp:H p=some (.tup [.int x,.int y])):∀ {ws:List V} {L:List (Int×Int)},PrI H ws L->PrI H (ws ++ [.ref p]) (L ++ [(x,y)])
 | [],[],_=>⟨⟨p,rfl,hp⟩,trivial⟩
 | v :: vs,(x,y) :: L,⟨a,r⟩=>⟨a,PrI.push hp r⟩
 | [],_ :: _,z=>z.elim
 | _ :: _,[],z=>z.elim
theorem PrI.len {H:Hp}:∀ {ws:List V} {L:List (Int×Int)},PrI H ws L->ws.length=L.length
 | [],[],_=>rfl
 | v :: vs,(x,y) :: L,⟨_,r⟩=>congrArg (· +1) (PrI.len r)
 | [],_ :: _,z=>z.elim
 | _ :: _,[],z=>z.elim
theorem PrI.get {H:Hp}:∀ {ws:List V} {L:List (Int×Int)} {k:Nat} {q:Int×Int},PrI H ws L->L[k]?=some q->∃ r,ws[k]?=some (.ref r)/\H r=some (.tup [.int q.1,.int q.2])
 | v :: vs,(x,y) :: L,0,q,⟨⟨p,e,hp⟩,_⟩,h=>by
  have h':(x,y)=q:=by simpa using h
  subst h';exact ⟨p,by rw [e];rfl,hp⟩
 | v :: vs,(x,y) :: L,k+1,q,⟨_,r⟩,h=>by
  obtain ⟨a,h1,h2⟩:=PrI.get (k:=k) r (by simpa using h);exact ⟨a,by simpa using h1,h2⟩
 | [],[],k,q,_,h=>by simp at h
 | [],_ :: _,_,_,z,_=>z.elim
 | _ :: _,[],_,_,z,_=>z.elim
def Br (z:Nat->Bool) (ab:List Int) (left:Int) (n:Nat):List (Int×Int):=(List.range n).map fun j=>((iZ z ab left j).2,ab.getD j 0)
theorem Ii (z:Nat->Bool) (ab:List Int) (left:Int) (n:Nat):Br z ab left (n+1)=Br z ab left n ++ [((iZ z ab left n).2,ab.getD n 0)]:=by unfold Br;rw [Aah,Zg];rfl
def u9 (z:Str) (j:Nat):Bool:=decide ((⟨#[z.cps.getD j 0]⟩:Str)=Str.ofString "o")
def VD:Sp:=fun vs H Q _=>∃ (z:Str) (left:Int) (a:Addr) (ab:List Int),vs=[.str z,.int left,.ref a]/\H a=some (.lst (ab.map V.int))/\z.cps.size=ab.length/\ab.length<=48/\
 ∀ t c b H',H b=none->H c=none->Same H H'->H' t=some (.tup [.ref c,.ref b,.int (iZ (u9 z) ab left ab.length).2])->H' b=some (.lst ((iZ (u9 z) ab left ab.length).1.map V.int))->(∃ cs,H' c=some (.lst cs)/\PrI H' cs (Br (u9 z) ab left ab.length))->Q (.ref t) H'
theorem iw:aD ["signs","left","above","coming","below","sign","line"] ["signs","left","above"] (az qW):=⟨rfl,rfl,rfl,by trivial,rfl,by trivial,by trivial⟩
theorem jb (T:Txt K mg):lN P w K mg base 1 "over_row" ["signs","left","above"] VD:=by
 walk_at "@fB 3 T.d_over_row iw";obtain ⟨z,left,a,ab,rfl,ha,hz,hl,q⟩:=h;walk_at "=iw;!)#3^b!)#4^b!7~l{T.b_zip}6EWI`N2#6^!4J*$aC$8%~1g~F-~2{T.c_TOUCH}!4J+5%)#1^8%4J+$8%,a&*&+5";apply iG rfl fun C nC=>?_
 refine iG rfl fun B nB=>?_
 have nBH:H B=none:=((Same.refl H).upd nC).free nB;have nCB:C≠B:=fun z=>by rw [z,aj] at nB;cases nB
 have e0:upd (upd H C (.lst [])) B (.lst []) C=some (.lst []):=by rw [aC nCB];exact aj
 have S0:Same H (upd (upd H C (.lst [])) B (.lst [])):=((Same.refl H).upd nC).upd nB;walk_at "s";refine ⟨z,a,ab.map V.int,rfl,SqL.of (S0 _ _ ha),?_⟩
 refine Hw (ys:=ab.map V.int) (fun j U H'=>Same H H'/\(∃ cs,H' C=some (.lst cs)/\cs.length=j/\PrI H' cs (Br (u9 z) ab left j))/\H' B=some (.lst ((iZ (u9 z) ab left j).1.map V.int))/\
   ∃ x5 x6,U=[some (.str z),some (.int (iZ (u9 z) ab left j).2),some (.ref a),some (.ref C),some (.ref B),x5,x6])
  (by rw [Y6];exact hz) ⟨S0,⟨[],e0,rfl,trivial⟩,aj,none,none,rfl⟩ (fun i U H' _ h=>SqL.of (h.1 _ _ ha)) ?_ ?_
 ·rintro j U H1 T0 y hy ⟨S1,⟨cs,hC,hcs,hW⟩,hB,x5,x6,rfl⟩ nT
  obtain ⟨n,hn,rfl⟩:∃ n,ab[j]?=some n/\y=V.int n:=by
   rw [Y9] at hy;cases e:ab[j]? with
   | none=>rw [e] at hy;cases hy
   | some n=>rw [e] at hy;exact ⟨n,rfl,(Zm hy).symm⟩
  have hj:j < ab.length:=(Y0.mp hn).1;have en:ab.getD j 0=n:=by rw [Y7,hn];rfl
  refine bx (xs:=[.str ⟨#[z.cps.getD j 0]⟩,.int n]) (SqT.of aj) rfl ?_;have hC2:=aY nT hC (o:=.tup [.str ⟨#[z.cps.getD j 0]⟩,.int n]);have hB2:=aY nT hB (o:=.tup [.str ⟨#[z.cps.getD j 0]⟩,.int n]);have hW2:=hW.same ((Same.refl H1).upd nT (o:=.tup [.str ⟨#[z.cps.getD j 0]⟩,.int n]));have S2:=S1.upd nT (o:=.tup [.str ⟨#[z.cps.getD j 0]⟩,.int n]);generalize upd H1 T0 (.tup [.str ⟨#[z.cps.getD j 0]⟩,.int n])=H2 at hC2 hB2 S2 hW2 ⊢;have hs:100<=sizeLine:=by decide
  walk_at "s";apply ⟨.inl ⟨rfl,_,SqL.of hC2⟩,?_⟩;refine iG rfl fun p np=>?_
  have hC3:=aY np hC2 (o:=.tup [.int (iZ (u9 z) ab left j).2,.int n]);have hB3:=aY np hB2 (o:=.tup [.int (iZ (u9 z) ab left j).2,.int n]);have S3:=S2.upd np (o:=.tup [.int (iZ (u9 z) ab left j).2,.int n])
  have hW3:PrI (upd H2 p (.tup [.int (iZ (u9 z) ab left j).2,.int n])) (cs ++ [.ref p]) (Br (u9 z) ab left (j+1)):=by
   rw [Ii,en];exact (hW2.same ((Same.refl H2).upd np)).push aj
  generalize upd H2 p (.tup [.int (iZ (u9 z) ab left j).2,.int n])=H3 at hC3 hB3 S3 hW3 ⊢;walk_at "s";refine bF hC3 (by omega) ?_;have S4:=over (o:=.lst (cs ++ [.ref p])) S3 nC;have hC4:upd H3 C (.lst (cs ++ [.ref p])) C=some (.lst (cs ++ [.ref p])):=aj;have hB4:upd H3 C (.lst (cs ++ [.ref p])) B=some (.lst ((iZ (u9 z) ab left j).1.map V.int)):=by rw [aC nCB.symm];exact hB3
  have hW4:=hW3.upd hC3 (o:=.lst (cs ++ [.ref p]));generalize upd H3 C (.lst (cs ++ [.ref p]))=H4 at hC4 hB4 S4 hW4 ⊢;have hlB:((iZ (u9 z) ab left j).1.map V.int).length < sizeLine:=by rw [Y6,Bp];omega
  walk_at "s";refine qm (fun hk=>?_) (fun hk=>?_)
  ·have hk':u9 z j=true:=Zc (V.str.inj hk)
   walk_at "s";apply ⟨.inl ⟨rfl,_,SqL.of hB4⟩,?_⟩;apply bF hB4 hlB ?_;refine ⟨over S4 nBH,⟨cs ++ [.ref p],by rw [aC nCB];exact hC4,by simp [hcs],hW4.upd hB4⟩,?_,some (.str ⟨#[z.cps.getD j 0]⟩),some (.int n),?_⟩
   ·rw [aj,iZ,if_pos hk',Zg];rfl
   ·rw [iZ,if_pos hk',en];rfl
  ·have hk':¬ u9 z j=true:=fun h=>hk (congrArg V.str (ZF h))
   walk_at "s";apply ⟨.inl ⟨rfl,_,SqL.of hB4⟩,?_⟩;refine bF hB4 hlB ?_;refine ⟨over S4 nBH,⟨cs ++ [.ref p],by rw [aC nCB];exact hC4,by simp [hcs],hW4.upd hB4⟩,?_,some (.str ⟨#[z.cps.getD j 0]⟩),some (.int n),?_⟩
   ·rw [aj,iZ,if_neg hk',en,Zg];rfl
   ·rw [iZ,if_neg hk'];rfl
 ·rintro U H1 ⟨S1,⟨cs,hC,hcs,hW⟩,hB,x5,x6,rfl⟩
  rw [Y6] at hB hW;walk_at "s";apply iG rfl fun p np=>?_
  rw [Y6];exact q p C B _ nBH nC (S1.upd np) aj (aY np hB) ⟨cs,aY np hC,hW.same ((Same.refl H1).upd np)⟩
def VF:Sp:=fun vs H Q _=>∃ (m far:Nat) (C:Nat->Nat->Bool) (b r:Addr),vs=[.ref b,.ref r]/\m<=48/\far<=48/\H b=some (.lst ((ux m C far m).map V.int))/\H r=some (.lst ((Ih m C far m).map V.int))/\
 ∀ e R H',H e=none->Same H H'->qY m C far R->H' e=some (.lst (R.map V.int))->Q (.ref e) H'
theorem Sg {n k:Nat} (h:k < n):Gx n (k:Int)=some k:=by
 unfold Gx;rw [if_pos (by omega),if_pos (by omega)];rfl
theorem VG (n:Nat):(List.replicate n [V.int 0]).flatten=(List.replicate n (0:Int)).map V.int:=by
 induction n with
 | zero=>rfl
 | succ n ih=>rw [AaP,AaL,ih,AaP];rfl
theorem jc:aD ["below","right","ends","column","line","place"] ["below","right"] (az uo):=⟨rfl,rfl,rfl,by trivial,rfl,by trivial,by trivial⟩
theorem uz (T:Txt K mg):lN P w K mg base 1 "ends_of" ["below","right"] VF:=by
 walk_at "@fB 2 T.d_ends_of jc";obtain ⟨m,far,C,b,r,rfl,hm,hf,hb,hr',q⟩:=h;walk_at "=jc;!)#2^~3OK?.9.5!7h9WI2#3^N2#4^%~$*y'+!7~m{T.b_enumerate}{T.b_reversed}0WI`N2#4^%~$?.9-y'+%,'";have hs:1000<=sizeLine:=by decide
 have lb:((ux m C far m).map V.int).length=far:=by simp [ux]
 have lr:((Ih m C far m).map V.int).length=m:=by simp [Ih]
 apply ⟨by decide,fun z nz=>?_⟩;refine iB (SqL.of (aY nz hb)) ?_;rw [lb];walk_at "s";refine iB (SqL.of (aY nz hr')) ?_;rw [lr];walk_at "s";have eN:((far:Int)+(m:Int)).toNat=m+far:=by omega
 refine KN aj (by omega) (by omega) (by rw [eN];simp;omega) fun e ne=>?_
 rw [eN,VG];have neH:H e=none:=((Same.refl H).upd nz).free ne;have S0:=((Same.refl H).upd (o:=.lst [.int 0]) nz).upd (o:=.lst ((List.replicate (m+far) (0:Int)).map V.int)) ne;have e0:=aj (H:=upd H z (.lst [.int 0])) (a:=e) (o:=.lst ((List.replicate (m+far) (0:Int)).map V.int));generalize upd (upd H z (.lst [.int 0])) e (.lst ((List.replicate (m+far) (0:Int)).map V.int))=H1 at S0 e0 ⊢;have nbe:b≠e:=fun z=>by rw [z,neH] at hb;cases hb
 have nre:r≠e:=fun z=>by rw [z,neH] at hr';cases hr'
 walk_at "s";refine .inr ⟨b,_,rfl,SqL.of (S0 _ _ hb),?_⟩
 refine iU (xs:=(ux m C far m).map V.int) (fun j U H'=>Same H H'/\(∃ R:List Int,H' e=some (.lst (R.map V.int))/\R.length=m+far/\∀ l,l < j->R[gD m C l m]?=some (l:Int))/\∃ x3 x4 x5,U=[some (.ref b),some (.ref r),some (.ref e),x3,x4,x5])
  ⟨S0,⟨_,e0,by simp,fun l hl=>absurd hl (by omega)⟩,none,none,none,rfl⟩ (fun i U H' _ h=>SqL.of (h.1 _ _ hb)) ?_ ?_
 ·rintro j U H2 T0 x hx ⟨S2,⟨R,hR,lR,gR⟩,x3,x4,x5,rfl⟩ nT
  have hj:j < far:=by
   have:=(Y0.mp hx).1;rw [lb] at this;exact this
  obtain rfl:x=V.int ((gD m C j m:Nat):Int):=by
   rw [Y9,QD hj] at hx;exact (Zm hx).symm
  have hlt:=Bq (m:=m) (C:=C) (far:=far) |>.2 j hj;refine bx (xs:=[.int j,.int ((gD m C j m:Nat):Int)]) (SqT.of aj) rfl ?_;have hR2:=aY nT hR (o:=.tup [.int j,.int ((gD m C j m:Nat):Int)]);have S3:=S2.upd nT (o:=.tup [.int j,.int ((gD m C j m:Nat):Int)]);generalize upd H2 T0 (.tup [.int j,.int ((gD m C j m:Nat):Int)])=H3 at hR2 S3 ⊢;walk_at "s";refine bK hR2 (Sg (by rw [Y6,lR];exact hlt)) ?_;rw [← List.map_set];refine ⟨over S3 neH,⟨R.set (gD m C j m) j,aj,by simp [lR],fun l hl=>?_⟩,some (.int j),some (.int ((gD m C j m:Nat):Int)),x5,rfl⟩;by_cases hlj:l=j
  ·subst hlj
   rw [AaB (by omega)]
  ·rw [Aai (Yd (m:=m) (C:=C) (far:=far) hj (by omega) (fun z=>hlj z.symm))]
   exact gR l (by omega)
 ·rintro U H2 ⟨S2,⟨R,hR,lR,gR⟩,x3,x4,x5,rfl⟩
  rw [lb] at gR;walk_at "s";refine ⟨r,(Ih m C far m).map V.int,rfl,SqL.of (S2 _ _ hr'),?_⟩
  refine Hr (xs:=(Ih m C far m).map V.int) (fun j U H'=>Same H H'/\(∃ R:List Int,H' e=some (.lst (R.map V.int))/\R.length=m+far/\(∀ l,l < far->R[gD m C l m]?=some (l:Int))/\∀ l,l < j->R[gA m C (m - 1 - l) far]?=some ((far+l:Nat):Int))/\∃ x3 x4 x5,U=[some (.ref b),some (.ref r),some (.ref e),x3,x4,x5])
   ⟨S2,⟨R,hR,lR,gR,fun l hl=>absurd hl (by omega)⟩,_,_,_,rfl⟩ (fun i U H' _ h=>SqL.of (h.1 _ _ hr')) ?_ ?_
  ·rintro j U H3 T0 x hj hx ⟨S3,⟨R,hR,lR,gR,aR⟩,x3,x4,x5,rfl⟩ nT
   rw [lr] at hj hx
   obtain rfl:x=V.int ((gA m C (m - 1 - j) far:Nat):Int):=by
    rw [Y9,Vz (by omega)] at hx;exact (Zm hx).symm
   have hlt:=Bq (m:=m) (C:=C) (far:=far) |>.1 (m - 1 - j) (by omega);refine bx (xs:=[.int j,.int ((gA m C (m - 1 - j) far:Nat):Int)]) (SqT.of aj) rfl ?_;have hR2:=aY nT hR (o:=.tup [.int j,.int ((gA m C (m - 1 - j) far:Nat):Int)]);have S4:=S3.upd nT (o:=.tup [.int j,.int ((gA m C (m - 1 - j) far:Nat):Int)]);generalize upd H3 T0 (.tup [.int j,.int ((gA m C (m - 1 - j) far:Nat):Int)])=H4 at hR2 S4 ⊢;walk_at "s";refine iB (SqL.of (S4 _ _ hb)) ?_;rw [lb];walk_at "s";refine bK hR2 (Sg (by rw [Y6,lR];exact hlt)) ?_;rw [← List.map_set];refine ⟨over S4 neH,⟨R.set (gA m C (m - 1 - j) far) ((far:Int)+j),aj,by simp [lR],fun l hl=>?_,fun l hl=>?_⟩,x3,some (.int ((gA m C (m - 1 - j) far:Nat):Int)),some (.int j),rfl⟩
   ·rw [Aai (Ye (m:=m) (C:=C) (far:=far) (by omega) hl)]
    exact gR l hl
   ·by_cases hlj:l=j
    ·subst hlj
     rw [AaB (by omega)]
     congr 1
    ·rw [Aai (Yc (m:=m) (C:=C) (far:=far) (by omega) (by omega) (by omega))]
     exact aR l (by omega)
  ·rintro U H3 ⟨S3,⟨R,hR,lR,gR,aR⟩,x3,x4,x5,rfl⟩
   rw [lr] at aR;walk_at "s";refine q e R H3 neH S3 ⟨lR,gR,fun i hi=>?_⟩ hR;have:=aR (m - 1 - i) (by omega);rw [show m - 1 - (m - 1 - i)=i by omega] at this;exact this
def cC (rows:List Str) (i:Nat):Nat->Bool:=u9 (rows.getD i ⟨#[]⟩)
def Bs (m:Nat) (C:Nat->Nat->Bool) (far i:Nat):List (Int×Int):=(List.range far).map fun j=>(((gA m C i j:Nat):Int),((gD m C j i:Nat):Int))
def Cmg (H:Hp) (P:Addr->Prop) (m:Nat) (C:Nat->Nat->Bool) (far:Nat) (cs:List V) (n:Nat):Prop:=cs.length=n/\∀ i,i < n->∃ c ws,cs[i]?=some (.ref c)/\P c/\H c=some (.lst ws)/\PrI H ws (Bs m C far i)
theorem Cmg.imp {H H':Hp} {P P':Addr->Prop} {m:Nat} {C:Nat->Nat->Bool} {far:Nat} {cs:List V} {n:Nat} (h:Cmg H P m C far cs n) (ht:∀ p us,H p=some (.tup us)->H' p=some (.tup us)) (hl:∀ c ws,P c->H c=some (.lst ws)->H' c=some (.lst ws)) (hp:∀ c,P c->P' c):Cmg H' P' m C far cs n:=
 ⟨h.1,fun i hi=>by
  obtain ⟨c,ws,e1,e2,e3,e4⟩:=h.2 i hi;exact ⟨c,ws,e1,hp c e2,hl c ws e2 e3,e4.imp ht⟩⟩
theorem Cmg.same {H H':Hp} {P:Addr->Prop} {m:Nat} {C:Nat->Nat->Bool} {far:Nat} {cs:List V} {n:Nat} (h:Cmg H P m C far cs n) (s:Same H H'):Cmg H' P m C far cs n:=h.imp (fun p us e=>s _ _ e) (fun c ws _ e=>s _ _ e) fun _ z=>z
theorem Cmg.push {H:Hp} {P:Addr->Prop} {m:Nat} {C:Nat->Nat->Bool} {far:Nat} {cs:List V} {n:Nat} {c:Addr} {ws:List V} (h:Cmg H P m C far cs n) (hP:P c) (hc:H c=some (.lst ws)) (hw:PrI H ws (Bs m C far n)):Cmg H P m C far (cs ++ [.ref c]) (n+1):=by
 refine ⟨by rw [Zv,h.1];rfl,fun i hi=>?_⟩;by_cases e:i=n
 ·subst e
  exact ⟨c,ws,by rw [Zx (by rw [h.1];exact Y4 _),h.1,AaO];rfl,hP,hc,hw⟩
 ·obtain ⟨d,us,e1,e2⟩:=h.2 i (by omega)
  exact ⟨d,us,by rw [ZK (by rw [h.1];omega)];exact e1,e2⟩
theorem Cmg.upd {H:Hp} {P:Addr->Prop} {m:Nat} {C:Nat->Nat->Bool} {far:Nat} {cs us:List V} {n:Nat} {f:Addr} {o:HO} (h:Cmg H P m C far cs n) (hf:H f=some (.lst us)) (hP:∀ c,P c->c≠f):Cmg (upd H f o) P m C far cs n:=
 h.imp (fun p vs e=>by rw [aC (fun z=>by rw [z,hf] at e;cases e)];exact e) (fun c ws pc e=>by rw [aC (hP c pc)];exact e) fun _ z=>z
def QH:Sp:=fun vs H Q _=>∃ (m far:Nat) (rows:List Str) (c:Addr),vs=[.int m,.int far,.ref c]/\H c=some (.lst (rows.map V.str))/\rows.length=m/\m<=48/\far<=48/\(∀ z∈rows,z.cps.size=far)/\
 ∀ t cm e R H',H e=none->Same H H'->H' t=some (.tup [.ref cm,.ref e])->qY m (cC rows) far R->H' e=some (.lst (R.map V.int))->(∃ cs,H' cm=some (.lst cs)/\Cmg H' (fun _=>True) m (cC rows) far cs m)->Q (.ref t) H'
theorem VH {m:Nat} {C:Nat->Nat->Bool} {far i:Nat}:Br (C i) (ux m C far i) ((gA m C i 0:Nat):Int) far=Bs m C far i:=by
 unfold Br Bs;refine Aan fun j hj=>?_
 have hj':=ZS.mp hj;rw [zf j (by omega),Ds hj']
theorem Mw {m:Nat} {C:Nat->Nat->Bool} {far:Nat}:ux m C far 0=(List.range far).map fun l=>((m+l:Nat):Int):=by
 unfold ux;simp only [nJ]
theorem vI {m:Nat} {C:Nat->Nat->Bool} {far i:Nat}:(ux m C far i).length=far:=by simp [ux]
theorem QJ {m:Nat} {C:Nat->Nat->Bool} {far i:Nat}:(Ih m C far i).length=i:=by simp [Ih]
theorem cz:aD ["many","far","cells","above","coming","right","row","signs","gone"] ["many","far","cells"] (az nu):=⟨rfl,rfl,rfl,by trivial,rfl,by trivial,by trivial⟩
theorem nM (T:Txt K mg):lN P w K mg base 2 "over_cells" ["many","far","cells"] QH:=by
 have fj:=@fj P w K mg base T;have jb:=@jb P w K mg base T;have uz:=@uz P w K mg base T;walk_at "@fB 3 T.d_over_cells cz";obtain ⟨m,far,rows,c,rfl,hc,hr',hm,hf,hz,q⟩:=h;walk_at "=cz;!)#3^({fj}65!)#4^b!)#5^b!7hEWI2#6^N2#7^!)#8^({jb}&X&Sr38$*!4J+$1i!)#3^1i%4J-$1i%,a&+$({uz}&*$-";have hs:1000<=sizeLine:=by decide
 refine ⟨m,far,rfl,hm,hf,fun A0 nA=>?_⟩;rw [← Mw (C:=cC rows)];have SA:=(Same.refl H).upd nA (o:=.lst ((ux m (cC rows) far 0).map V.int));have eA:=aj (H:=H) (a:=A0) (o:=.lst ((ux m (cC rows) far 0).map V.int));generalize upd H A0 (.lst ((ux m (cC rows) far 0).map V.int))=H1 at SA eA ⊢;walk_at "s";refine iG rfl fun CM nC=>?_
 have SC:=SA.upd nC (o:=.lst []);have eC:=aj (H:=H1) (a:=CM) (o:=.lst []);have eA2:=aY nC eA (o:=.lst []);have nCH:=SA.free nC;generalize upd H1 CM (.lst [])=H2 at SC eC eA2 ⊢;walk_at "s";refine iG rfl fun RT nR=>?_
 have SR:=SC.upd nR (o:=.lst []);have eR:=aj (H:=H2) (a:=RT) (o:=.lst []);have eA3:=aY nR eA2 (o:=.lst []);have eC3:=aY nR eC (o:=.lst []);have nRH:=SC.free nR;have nCR:CM≠RT:=fun z=>by rw [z,nR] at eC;cases eC
 generalize upd H2 RT (.lst [])=H3 at SR eR eA3 eC3 ⊢;walk_at "s";refine .inr ⟨c,_,rfl,SqL.of (SR _ _ hc),?_⟩
 refine iU (xs:=rows.map V.str) (fun i U H'=>Same H H'/\(∃ cs,H' CM=some (.lst cs)/\cs.length=i/\Cmg H' (fun c=>c≠CM/\c≠RT) m (cC rows) far cs i)/\H' RT=some (.lst ((Ih m (cC rows) far i).map V.int))/\
   ∃ a x6 x7 x8,H' a=some (.lst ((ux m (cC rows) far i).map V.int))/\a≠CM/\a≠RT/\U=[some (.int m),some (.int far),some (.ref c),some (.ref a),some (.ref CM),some (.ref RT),x6,x7,x8])
  ⟨SR,⟨[],eC3,rfl,rfl,fun i hi=>absurd hi (Nat.not_lt_zero _)⟩,eR,A0,none,none,none,eA3,(fun z=>by rw [z,nC] at eA;cases eA),(fun z=>by rw [z,nR] at eA2;cases eA2),rfl⟩ (fun i U H' _ h=>SqL.of (h.1 _ _ hc)) ?_ ?_
 ·rintro i U H4 T0 x hx ⟨S4,⟨cs,hC,hcs,hG⟩,hR,a,x6,x7,x8,ha,nac,nar,rfl⟩ nT
  have hi:i < rows.length:=by
   have:=(Y0.mp hx).1;simpa using this
  obtain ⟨z,hzi,rfl⟩:∃ z,rows[i]?=some z/\x=V.str z:=by
   rw [Y9] at hx;cases e:rows[i]? with
   | none=>rw [e] at hx;cases hx
   | some n=>rw [e] at hx;exact ⟨n,rfl,(Zm hx).symm⟩
  have ez:rows.getD i ⟨#[]⟩=z:=by rw [Y7,hzi];rfl
  refine bx (xs:=[.int i,.str z]) (SqT.of aj) rfl ?_;have hC5:=aY nT hC (o:=.tup [.int i,.str z]);have hR5:=aY nT hR (o:=.tup [.int i,.str z]);have ha5:=aY nT ha (o:=.tup [.int i,.str z]);have S5:=S4.upd nT (o:=.tup [.int i,.str z]);have hG5:=hG.same ((Same.refl H4).upd nT (o:=.tup [.int i,.str z]));generalize upd H4 T0 (.tup [.int i,.str z])=H5 at hC5 hR5 ha5 S5 hG5 ⊢;walk_at "s";rw [show ((m:Int) - 1 - (i:Int))=((gA m (cC rows) i 0:Nat):Int) by rw [jH];omega];refine ⟨z,_,a,_,rfl,ha5,by rw [vI];exact hz z (Zj hzi),by rw [vI];exact hf,fun t c1 b H6 nb nc1 S6 ht hb hcc=>?_⟩;have eC':u9 z=cC rows i:=by unfold cC;rw [ez]
  rw [eC',vI,zf far (Y4 _)] at ht hb;rw [eC',vI,VH] at hcc;obtain ⟨ws,hc1,hws⟩:=hcc;have nc1C:c1≠CM:=fun z=>by rw [z,hC5] at nc1;cases nc1
  have nc1R:c1≠RT:=fun z=>by rw [z,hR5] at nc1;cases nc1
  have hG6:=(hG5.same S6).push ⟨nc1C,nc1R⟩ hc1 hws;have hC6:=S6 _ _ hC5;have hR6:=S6 _ _ hR5;have nbC:b≠CM:=fun z=>by rw [z,hC5] at nb;cases nb
  have nbR:b≠RT:=fun z=>by rw [z,hR5] at nb;cases nb
  have tC:t≠CM:=fun z=>by rw [z,hC6] at ht;cases ht
  have tR:t≠RT:=fun z=>by rw [z,hR6] at ht;cases ht
  walk_at "s";apply ⟨.inl ⟨rfl,_,SqL.of hC6⟩,?_⟩;refine bF hC6 (by omega) ?_;have S7:=over (o:=.lst (cs ++ [.ref c1])) (S5.trans S6) nCH;have hC7:=aj (H:=H6) (a:=CM) (o:=.lst (cs ++ [.ref c1]));have hR7:upd H6 CM (.lst (cs ++ [.ref c1])) RT=_:=(aC nCR.symm).trans hR6;have ht7:upd H6 CM (.lst (cs ++ [.ref c1])) t=_:=(aC tC).trans ht;have hb7:upd H6 CM (.lst (cs ++ [.ref c1])) b=_:=(aC nbC).trans hb;have hG7:=hG6.upd hC6 (o:=.lst (cs ++ [.ref c1])) fun c hc=>hc.1
  generalize upd H6 CM (.lst (cs ++ [.ref c1]))=H7 at S7 hC7 hR7 ht7 hb7 hG7 ⊢;clear ht hb;walk_at "s";apply ⟨.inl ⟨rfl,_,SqL.of hR7⟩,?_⟩;refine bF hR7 (by rw [Y6,QJ];omega) ?_;refine ⟨over S7 nRH,⟨cs ++ [.ref c1],(aC nCR).trans hC7,by simp [hcs],hG7.upd hR7 fun c hc=>hc.2⟩,?_,b,some (.int i),some (.str z),some (.ref t),(aC nbR).trans hb7,nbC,nbR,rfl⟩;rw [aj];have e:Ih m (cC rows) far (i+1)=Ih m (cC rows) far i ++ [((gA m (cC rows) i far:Nat):Int)]:=by unfold Ih;rw [Aah,Zg];rfl
  rw [e,Zg];rfl
 ·rintro U H4 ⟨S4,⟨cs,hC,hcs,hG⟩,hR,a,x6,x7,x8,ha,nac,nar,rfl⟩
  rw [Y6,hr'] at hR ha hG;walk_at "s";apply ⟨m,far,cC rows,a,RT,rfl,hm,hf,ha,hR,fun e R H5 ne S5 hE hR5=>?_⟩;apply iG rfl fun t nt=>?_
  exact q t CM e R _ (S4.free ne) ((S4.trans S5).upd nt) aj hE (aY nt hR5) ⟨cs,aY nt (S5 _ _ hC),(hG.same (S5.upd nt)).imp (fun _ _ z=>z) (fun _ _ _ z=>z) fun _ _=>trivial⟩
end
def Kd (K:W.Frag) (H:Hp) (v:V):Prop:=(∃ n,v= .int n)\/(∃ b,v= .bl b)\/∃ T,TyOf K H v (.type T)/\PySem.W.kitOne K (.type T) (.type "int")=some false
theorem Kd.same {K:W.Frag} {H H':Hp} {v:V} (h:Kd K H v) (s:Same H H'):Kd K H' v:=by
 rcases h with h | h | ⟨T,a,c⟩
 ·exact .inl h
 ·exact .inr (.inl h)
 ·exact .inr (.inr ⟨T,a.mono fun b o e _=>s b o e,c⟩)
def Yg:V->Bool
 | .int _=>true
 | _=>false
def inB (v:V) (lo hi:Int):Bool:=match v with
 | .int n=>decide (lo<=n) && decide (n<=hi)
 | _=>false
section
variable {P:Program} {w:World} {K:W.Frag} {mg:Str->Option Value} {base:Heap}
theorem Same.put {H H':Hp} {p:Addr} {o:HO} (s:Same H H') (hn:H p=none):Same H (upd H' p o):=fun b u e=>by
 rw [aC (fun z=>by rw [z,hn] at e;cases e)];exact s b u e
theorem Same.back {H H':Hp} {p:Addr} (s:Same H H') (h:H' p=none):H p=none:=by
 cases e:H p with
 | none=>rfl
 | some o=>rw [s _ _ e] at h;cases h
theorem Thing.same {H H':Hp} {v:V} (h:Thing K H v) (s:Same H H'):Thing K H' v:=by
 rcases h with h | ⟨T,t,k⟩
 ·exact .inl h
 ·exact .inr ⟨T,t.mono fun b o e _=>s b o e,k⟩
theorem Bt:(["sign"]:List Str).Nodup:=by trivial
def LP:Str:=oG ++ Str.ofString "."
def RB (v:V):Bool:=mQ v (oG ++ Str.ofString ".") 48
def wY (z:Str):Prop:=z.length<=48/\RB (.str z)=true
theorem Mx {H:Hp} {v:V} {ty:String} {l:Str} {m:Int} (h:TyOf K H v (.type ty)) (k:PySem.W.kitOne K (.type ty) (.type "str")=some false):mQ v l m=false:=by
 cases v with
 | str z=>
  cases h;have:PySem.W.kitOne K (.type "str") (.type "str")=some true:=rfl;rw [this] at k;cases k
 | _=>rfl
theorem Ij:aD ["thing"] ["thing"] (az sV):=⟨rfl,rfl,rfl,by trivial,rfl,by trivial,by trivial⟩
theorem wZ (T:Txt K mg):lN P w K mg base 1 "is_row" ["thing"] (spIs K (oG ++ Str.ofString ".") 48):=by
 walk_at "@fB 1 T.d_is_row Ij";obtain ⟨v,rfl,hT,q⟩:=h;walk_at "=_;!GMPA:Y6$~G{T.b_str}Zs.9m{T.c_MOST_SIGNS}%,~4~5{T.b_all}$e<.>L[thing]~n[sign]Q3H#0{Bt}n~oF?~%{T.c_LETTERS}~%{T.c_POINT}";rcases hT with ⟨z,rfl,hz⟩ | ⟨ty,hty,hk⟩
 ·have hz1:z.length<=sizeLine:=ZP hz (by decide)
  apply iQ (.str z) rfl ?_;try with_reducible refine kZ ?_
  walk_at "s";apply cQ hz1 ?_;refine qm (fun h1=>?_) (fun h1=>?_)
  ·walk_at "s"
   have:mQ (.str z) (oG ++ Str.ofString ".") 48=false:=by
    unfold mQ;dsimp only;rw [Zd (by omega)];rfl
   have q':=q H (Same.refl H);rw [this] at q';exact q'
  ·walk_at "s"
   refine .inr (.inr ⟨z,rfl,?_⟩);refine Ah (fun i us H'=>H'=H/\us=((z.cps.toList.take i).map fun c=>!qZ (oG ++ Str.ofString ".") c).map V.bl) hz1 ⟨rfl,rfl⟩ ?_ ?_ ?_
   ·rintro i us H' ⟨rfl,rfl⟩
    simp;omega
   ·rintro i us H' c hc ⟨rfl,rfl⟩
    walk_at "s";apply ⟨KeepSt.set rfl,?_⟩;try with_reducible refine jP ?_
    walk_at "s";apply mW (ZP (show (Str.ofString "abcdefghijklmnopqrstuvwxyz").length+(Str.ofString ".").length<=1000 by trivial) (by decide)) ?_;refine ⟨rfl,?_⟩;rw [Z9,hc];simp [oG,qZ]
   ·rintro us H' ⟨rfl,rfl⟩ D hD
    walk_at "s";refine ⟨D,_,rfl,aj,?_⟩;have e1:z.cps.toList.take z.cps.size=z.cps.toList:=ZC (by simp)
    have e2:mQ (.str z) (oG ++ Str.ofString ".") 48=(List.map (fun c=>!qZ (oG ++ Str.ofString ".") c) (z.cps.toList.take z.cps.size)).all id:=by
     unfold mQ;dsimp only;rw [Zc (by omega),Bool.true_and,e1,List.all_map];rfl
    have q':=q _ ((Same.refl H').upd hD (o:=.lst (List.map V.bl (List.map (fun c=>!qZ (oG ++ Str.ofString ".") c) (List.take z.cps.size z.cps.toList)))));rw [e2] at q';exact q'
 ·apply iQ hty hk ?_
  try with_reducible refine jP ?_
  walk_at "s";try with_reducible refine jP ?_
  walk_at "s";have q':=q H (Same.refl H);rw [Mx hty hk] at q';exact q'
theorem Ik {H:Hp} {z:Str} (h:wY z):Thing K H (.str z):=.inl ⟨z,rfl,by have:=h.1;omega⟩
def QK:Sp:=fun vs H Q _=>∃ z:Str,vs=[.str z]/\wY z/\∀ H',Same H H'->Q .non H'
theorem Bu:aD ["thing"] ["thing"] (az qU):=⟨rfl,rfl,rfl,by trivial,rfl,by trivial,by trivial⟩
theorem nO (T:Txt K mg):lN P w K mg base 3 "need_row" ["thing"] QK:=by
 have wZ:=@wZ P w K mg base T;walk_at "@fB 1 T.d_need_row Bu";obtain ⟨z,rfl,hz,q⟩:=h;walk_at "=_;%TA:({wZ}9z";refine ⟨.str z,rfl,Ik hz,fun H1 S1=>?_⟩;rw [show mQ (.str z) (oG ++ Str.ofString ".") 48=true from hz.2];walk_at "s";exact q _ S1
def Mz:Sp:=fun vs H Q _=>∃ z y:Str,vs=[.str z,.str y]/\wY z/\wY y/\∀ H',Same H H'->Q .non H'
theorem zg:aD ["side","top"] ["side","top"] (az pA):=⟨rfl,rfl,rfl,by trivial,rfl,by trivial,by trivial⟩
theorem pH (T:Txt K mg):lN P w K mg base 4 "need_rows" ["side","top"] Mz:=by
 have nO:=@nO P w K mg base T;walk_at "@fB 2 T.d_need_rows zg";obtain ⟨z,y,rfl,hz,hy,q⟩:=h;walk_at "=_;!4({nO}9%4({nO}5";apply ⟨z,rfl,hz,fun H1 S1=>?_⟩;apply ⟨y,rfl,hy,fun H2 S2=>?_⟩;exact q H2 (S1.trans S2)
def Dt (c:Nat) (top:Str) (ab:List Int) (left:Int):Nat->Int
 | 0=>left
 | j+1=>if (decide (c=top.cps.getD j 0) || decide (ab.getD j 0 < Dt c top ab left j))=true then ab.getD j 0 else Dt c top ab left j
def xK (c:Nat) (top:Str) (ab:List Int) (left:Int) (j:Nat):Bool:=decide (c=top.cps.getD j 0) || decide (ab.getD j 0 < Dt c top ab left j)
def Yh (b:Bool):Str:=if b=true then Str.ofString "o" else Str.ofString "x"
def yz (c:Nat) (top:Str) (ab:List Int) (left:Int) (j:Nat):List Str:=(List.range j).map fun k=>Yh (xK c top ab left k)
theorem MF {c:Nat} {top:Str} {ab:List Int} {left:Int} {j:Nat}:∀ y∈yz c top ab left j,y.length=1:=fun y hy=>by
 obtain ⟨k,_,rfl⟩:=Z0.mp hy;unfold Yh
 split <;> trivial
def QL:Sp:=fun vs H Q _=>∃ (c:Nat) (top:Str) (left:Int) (a:Addr) (ab:List Int),vs=[.str ⟨#[c]⟩,.str top,.int left,.ref a]/\H a=some (.lst (ab.map V.int))/\top.cps.size=ab.length/\ab.length<=48/\
 ∀ H',Same H H'->Q (.str (Txt.join (Str.ofString "") (yz c top ab left ab.length))) H'
theorem fc:aD ["sign","top","left","above","signs","column","other"] ["sign","top","left","above"] (az jU):=⟨rfl,rfl,rfl,by trivial,rfl,by trivial,by trivial⟩
theorem jX (T:Txt K mg):lN P w K mg base 1 "signs_of_row" ["sign","top","left","above"] QL:=by
 walk_at "@fB 4 T.d_signs_of_row fc";obtain ⟨c,top,left,a,ab,rfl,ha,hz,hl,q⟩:=h;walk_at "=fc;!)#4^b!7h5WI`N2#6^%~1MPg~F38Zs'/*-!4J+$~2{T.c_TOUCH}%)#2^/*-%4J+$~2{T.c_CROSS}%,~H$+";have hs:20000<=sizeLine:=by decide
 refine iG rfl fun S0 nS=>?_
 have e0:=aj (H:=H) (a:=S0) (o:=.lst []);have Sm:=(Same.refl H).upd nS (o:=.lst []);generalize upd H S0 (.lst [])=H1 at e0 Sm ⊢;walk_at "s";refine .inl ⟨top,rfl,?_⟩
 refine KJ (fun j U H'=>Same H H'/\H' S0=some (.lst ((yz c top ab left j).map V.str))/\∃ x5 x6,U=[some (.str ⟨#[c]⟩),some (.str top),some (.int (Dt c top ab left j)),some (.ref a),some (.ref S0),x5,x6])
  ⟨Sm,e0,none,none,rfl⟩ ?_ ?_
 ·rintro j U H2 T0 hj ⟨S2,hS,x5,x6,rfl⟩ nT
  have hj':j < ab.length:=by rw [← hz];exact hj
  refine bx (xs:=[.int j,.str ⟨#[top.cps.getD j 0]⟩]) (SqT.of aj) rfl ?_;have hS3:=aY nT hS (o:=.tup (oh top j));have S3:=S2.upd nT (o:=.tup (oh top j));generalize upd H2 T0 (.tup (oh top j))=H3 at hS3 S3 ⊢;have ha3:=S3 _ _ ha
  have hix:uX (ab.map V.int) (j:Int)=some (.int (ab.getD j 0)):=by
   refine cG ?_;rw [Y9,Y7,YX hj'];rfl
  walk_at "s";have hlS:((yz c top ab left j).map V.str).length < sizeLine:=by unfold yz;simp;omega
  have step:(yz c top ab left (j+1)).map V.str=(yz c top ab left j).map V.str ++ [.str (Yh (xK c top ab left j))]:=by unfold yz;rw [Aah,Zg,Zg];rfl
  have stepT:xK c top ab left j=true->Dt c top ab left (j+1)=ab.getD j 0:=fun h=>by rw [Dt];exact if_pos h
  have stepF:xK c top ab left j=false->Dt c top ab left (j+1)=Dt c top ab left j:=fun h=>by rw [Dt];exact if_neg (fun z=>by unfold xK at h;rw [h] at z;cases z)
  refine qm (fun hk=>?_) (fun hk=>?_)
  ·have ec:c=top.cps.getD j 0:=by
    have:=Str.mk.inj (V.str.inj hk);simpa using this
   have hB:xK c top ab left j=true:=by unfold xK;rw [Zc ec];rfl
   walk_at "s";apply ⟨.inl ⟨rfl,_,SqL.of hS3⟩,?_⟩;refine bF hS3 hlS ?_;have S4:=over (o:=.lst ((yz c top ab left j).map V.str ++ [.str (Str.ofString "o")])) S3 nS;have hS4:=aj (H:=H3) (a:=S0) (o:=.lst ((yz c top ab left j).map V.str ++ [.str (Str.ofString "o")]));generalize upd H3 S0 (.lst ((yz c top ab left j).map V.str ++ [.str (Str.ofString "o")]))=H4 at S4 hS4 ⊢;have ha4:=S4 _ _ ha;walk_at "s";apply aU (SqL.of ha4) hix ?_;exact ⟨S4,by rw [hS4,step,hB];rfl,some (.int j),some (.str ⟨#[top.cps.getD j 0]⟩),by rw [stepT hB];rfl⟩
  ·have ec:¬ c=top.cps.getD j 0:=fun z=>hk (by rw [z])
   walk_at "s";apply aU (SqL.of ha3) hix ?_;refine qm (fun hg=>?_) (fun hg=>?_)
   ·have hB:xK c top ab left j=true:=by unfold xK;rw [Zd ec,Bool.false_or];exact Zc (by omega)
    walk_at "s";apply ⟨.inl ⟨rfl,_,SqL.of hS3⟩,?_⟩;refine bF hS3 hlS ?_;have S4:=over (o:=.lst ((yz c top ab left j).map V.str ++ [.str (Str.ofString "o")])) S3 nS;have hS4:=aj (H:=H3) (a:=S0) (o:=.lst ((yz c top ab left j).map V.str ++ [.str (Str.ofString "o")]));generalize upd H3 S0 (.lst ((yz c top ab left j).map V.str ++ [.str (Str.ofString "o")]))=H4 at S4 hS4 ⊢;have ha4:=S4 _ _ ha;walk_at "s";apply aU (SqL.of ha4) hix ?_;exact ⟨S4,by rw [hS4,step,hB];rfl,some (.int j),some (.str ⟨#[top.cps.getD j 0]⟩),by rw [stepT hB];rfl⟩
   ·have hB:xK c top ab left j=false:=by unfold xK;rw [Zd ec,Bool.false_or];exact Zd (by omega)
    walk_at "s";apply ⟨.inl ⟨rfl,_,SqL.of hS3⟩,?_⟩;refine bF hS3 hlS ?_;have S4:=over (o:=.lst ((yz c top ab left j).map V.str ++ [.str (Str.ofString "x")])) S3 nS;have hS4:=aj (H:=H3) (a:=S0) (o:=.lst ((yz c top ab left j).map V.str ++ [.str (Str.ofString "x")]));generalize upd H3 S0 (.lst ((yz c top ab left j).map V.str ++ [.str (Str.ofString "x")]))=H4 at S4 hS4 ⊢;exact ⟨S4,by rw [hS4,step,hB];rfl,some (.int j),some (.str ⟨#[top.cps.getD j 0]⟩),by rw [stepF hB];rfl⟩
 ·rintro U H2 ⟨S2,hS,x5,x6,rfl⟩
  rw [hz] at hS;walk_at "s";apply ⟨rfl,?_⟩;have hs1:=Ky (MF (c:=c) (top:=top) (ab:=ab) (left:=left) (j:=ab.length));have e0:(Str.ofString "").length=0:=by trivial
  refine Kz hS (by rw [hs1,e0];unfold yz;simp;omega) ?_;exact q _ S2
end
section
variable {P:Program} {w:World} {K:W.Frag} {mg:Str->Option Value} {base:Heap}
def MJ (c:Nat) (top:Str) (ab:List Int) (left:Int) (j:Nat):Int:=if xK c top ab left j=true then Dt c top ab left j else ab.getD j 0
def QM (c:Nat) (top:Str) (ab:List Int) (left:Int) (n:Nat):List Int:=(List.range n).map (MJ c top ab left)
theorem QQ {c:Nat} {top:Str} {ab:List Int} {left:Int} {n:Nat}:(QM c top ab left n).length=n:=by simp [QM]
theorem MK (c:Nat) (top:Str) (ab:List Int) (left:Int) (j:Nat):Dt c top ab left (j+1)=if xK c top ab left j=true then ab.getD j 0 else Dt c top ab left j:=rfl
def Yi (b:Bool):Nat:=if b=true then 111 else 120
theorem VJ (b:Bool):(Yh b).cps.toList=[Yi b]:=by cases b <;> trivial
def Bv (c:Nat) (top:Str) (ab:List Int) (left:Int) (n:Nat):Str:=⟨((List.range n).map fun k=>Yi (xK c top ab left k)).toArray⟩
theorem QR {a b:Str} (h:a.cps.toList=b.cps.toList):a=b:=by
 cases a;cases b;exact congrArg Str.mk (Array.toList_inj.mp h)
theorem yC {α β:Type} (f:α->β):∀ l:List α,(l.map fun k=>[f k]).flatten=l.map f
 | []=>rfl
 | a :: l=>by rw [Z3,AaL,yC f l];rfl
theorem Il {c:Nat} {top:Str} {ab:List Int} {left:Int} {n:Nat}:Txt.join (Str.ofString "") (yz c top ab left n)=Bv c top ab left n:=by
 apply QR;rw [Ag];unfold yz Bv;rw [Aap]
 have:((fun y:Str=>y.cps.toList) ∘ fun k=>Yh (xK c top ab left k))=fun k=>[Yi (xK c top ab left k)]:=by
  funext k;exact VJ _
 rw [this,yC]
theorem yD {c:Nat} {top:Str} {ab:List Int} {left:Int} {n:Nat}:(Bv c top ab left n).cps.size=n:=by simp [Bv]
theorem Ft {c:Nat} {top:Str} {ab:List Int} {left:Int} {n j:Nat} (h:j < n):(Bv c top ab left n).cps.getD j 0=Yi (xK c top ab left j):=by
 unfold Bv;simp [Array.getD,h]
theorem MN {z:Str} {j:Nat} {b:Bool} (h:z.cps.getD j 0=Yi b):u9 z j=b:=by
 unfold u9;rw [h];cases b <;> trivial
theorem zj {z:Str} {c:Nat} {top:Str} {ab:List Int} {left:Int} {n:Nat} (hz:∀ j,j < n->u9 z j=xK c top ab left j):∀ j,j<=n->iZ (u9 z) ab left j=(QM c top ab left j,Dt c top ab left j)
 | 0,_=>rfl
 | j+1,h=>by
  have ih:=zj hz j (by omega);have e:QM c top ab left (j+1)=QM c top ab left j ++ [MJ c top ab left j]:=by unfold QM;rw [Aah,Zg];rfl
  rw [iZ,ih,hz j (by omega),e,MK];unfold MJ;by_cases hc:xK c top ab left j=true
  ·rw [if_pos hc,if_pos hc,if_pos hc]
  ·rw [if_neg hc,if_neg hc,if_neg hc]
def yE (m:Nat) (side top:Str):Nat->List Int
 | 0=>(List.range top.cps.size).map fun l=>((m+l:Nat):Int)
 | i+1=>QM (side.cps.getD i 0) top (yE m side top i) ((m:Int) - 1 - i) top.cps.size
theorem qi {m:Nat} {side top:Str}:∀ i,(yE m side top i).length=top.cps.size
 | 0=>by simp [yE]
 | i+1=>by rw [yE,QQ]
def MP (m:Nat) (side top:Str) (i:Nat):Str:=Bv (side.cps.getD i 0) top (yE m side top i) ((m:Int) - 1 - i) top.cps.size
def Du (m:Nat) (side top:Str) (n:Nat):List Str:=(List.range n).map (MP m side top)
def lE (side top:Str):List Str:=Du side.cps.size side top side.cps.size
theorem MT (m:Nat) (side top:Str) (n:Nat):Du m side top (n+1)=Du m side top n ++ [MP m side top n]:=by unfold Du;rw [Aah,Zg];rfl
theorem Fv (m:Nat) (side top:Str) (n:Nat):(Du m side top n).length=n:=by simp [Du]
def QS:Sp:=fun vs H Q _=>∃ (side top:Str),vs=[.str side,.str top]/\side.cps.size<=48/\top.cps.size<=48/\
 ∀ D H',H D=none->Same H H'->H' D=some (.lst ((lE side top).map V.str))->Q (.ref D) H'
theorem eO:aD ["side","top","above","cells","row","sign","left","signs"] ["side","top"] (az qX):=⟨rfl,rfl,rfl,by trivial,rfl,by trivial,by trivial⟩
theorem q9 (T:Txt K mg):lN P w K mg base 2 "cells_of" ["side","top"] QS:=by
 have fj:=@fj P w K mg base T;have jX:=@jX P w K mg base T;have jb:=@jb P w K mg base T;walk_at "@fB 2 T.d_cells_of eO";obtain ⟨side,top,rfl,hs,ht,q⟩:=h;walk_at "=eO;!)#2^({fj}&.9$.5!)#3^b!7h9WI2#4^N`!)#6^Sr.9+!)#7^({jX}&-C&8E!4J*$X%)#2^1({jb}&X&8E%,*";have hz:1000<=sizeLine:=by decide
 have lz:side.length<=sizeLine:=ZP hs (by decide);have ly:top.length<=sizeLine:=ZP ht (by decide);apply cQ lz ?_;apply cQ ly ?_;refine ⟨side.cps.size,top.cps.size,rfl,hs,ht,fun A0 nA=>?_⟩;have e0:((List.range top.cps.size).map fun l=>((side.cps.size+l:Nat):Int))=yE side.cps.size side top 0:=rfl;rw [e0];have SA:=(Same.refl H).upd nA (o:=.lst ((yE side.cps.size side top 0).map V.int));have eA:=aj (H:=H) (a:=A0) (o:=.lst ((yE side.cps.size side top 0).map V.int));generalize upd H A0 (.lst ((yE side.cps.size side top 0).map V.int))=H1 at SA eA ⊢;walk_at "s";refine iG rfl fun D nD=>?_
 have SD:=SA.upd nD (o:=.lst []);have eD:=aj (H:=H1) (a:=D) (o:=.lst []);have eA2:=aY nD eA (o:=.lst []);have nDH:=SA.free nD;have nAD:A0≠D:=fun z=>by rw [z,nD] at eA;cases eA
 generalize upd H1 D (.lst [])=H2 at SD eD eA2 ⊢;walk_at "s";refine .inl ⟨side,rfl,?_⟩
 refine KJ (fun i U H'=>Same H H'/\H' D=some (.lst ((Du side.cps.size side top i).map V.str))/\∃ a x4 x5 x6 x7,H' a=some (.lst ((yE side.cps.size side top i).map V.int))/\a≠D/\U=[some (.str side),some (.str top),some (.ref a),some (.ref D),x4,x5,x6,x7])
  ⟨SD,eD,A0,none,none,none,none,eA2,nAD,rfl⟩ ?_ ?_
 ·rintro i U H3 T0 hi ⟨S3,hD,a,x4,x5,x6,x7,ha,nad,rfl⟩ nT
  have hi':i < side.cps.size:=hi;refine bx (xs:=[.int i,.str ⟨#[side.cps.getD i 0]⟩]) (SqT.of aj) rfl ?_;have hD4:=aY nT hD (o:=.tup (oh side i));have ha4:=aY nT ha (o:=.tup (oh side i));have S4:=S3.upd nT (o:=.tup (oh side i));generalize upd H3 T0 (.tup (oh side i))=H4 at hD4 ha4 S4 ⊢;walk_at "s";apply cQ lz ?_;refine ⟨_,top,_,a,_,rfl,ha4,(qi i).symm,by rw [qi];exact ht,fun H5 S5=>?_⟩;rw [Il,qi];have hD5:=S5 _ _ hD4;have ha5:=S5 _ _ ha4;walk_at "s";apply ⟨.inl ⟨rfl,_,SqL.of hD5⟩,?_⟩;refine bF hD5 (by rw [Y6,Fv];omega) ?_;have e1:(Du side.cps.size side top i).map V.str ++ [.str (Bv (side.cps.getD i 0) top (yE side.cps.size side top i) ((side.length:Int) - 1 - i) top.cps.size)]=(Du side.cps.size side top (i+1)).map V.str:=by rw [MT,Zg];rfl
  rw [e1];have S6:=over (o:=.lst ((Du side.cps.size side top (i+1)).map V.str)) (S4.trans S5) nDH;have hD6:=aj (H:=H5) (a:=D) (o:=.lst ((Du side.cps.size side top (i+1)).map V.str));have ha6:upd H5 D (.lst ((Du side.cps.size side top (i+1)).map V.str)) a=_:=(aC nad).trans ha5;generalize upd H5 D (.lst ((Du side.cps.size side top (i+1)).map V.str))=H6 at S6 hD6 ha6 ⊢;walk_at "s";refine ⟨_,_,a,_,rfl,ha6,by rw [yD,qi],by rw [qi];exact ht,fun t c1 b H7 nb _ S7 ht' hb _=>?_⟩;rw [qi,zj (n:=top.cps.size) (fun j hj=>MN (Ft hj)) _ (Y4 _)] at ht' hb;have hD7:=S7 _ _ hD6;have nbD:b≠D:=fun z=>by rw [z,hD6] at nb;cases nb
  walk_at "s";exact ⟨S6.trans S7,hD7,b,_,_,_,_,hb,nbD,rfl⟩
 ·rintro U H3 ⟨S3,hD,a,x4,x5,x6,x7,ha,nad,rfl⟩
  walk_at "s";exact q D H3 nDH S3 hD
def CB (side top:Str):Nat->Nat->Bool:=cC (lE side top)
theorem Im {side top:Str} {i:Nat} (h:i < side.cps.size):(lE side top).getD i ⟨#[]⟩=MP side.cps.size side top i:=by
 unfold lE Du;rw [Y7,Y9,Aab h];rfl
theorem Dv {side top:Str} {i:Nat} (h:i < side.cps.size):CB side top i=u9 (MP side.cps.size side top i):=by unfold CB cC;rw [Im h]
theorem Sh {side top:Str} {i j:Nat} (h:i < side.cps.size) (hj:j < top.cps.size):CB side top i j=xK (side.cps.getD i 0) top (yE side.cps.size side top i) ((side.cps.size:Int) - 1 - i) j:=by
 rw [Dv h];exact MN (Ft hj)
theorem ag {side top:Str}:∀ i,i<=side.cps.size->yE side.cps.size side top i=ux side.cps.size (CB side top) top.cps.size i/\
  (i < side.cps.size->∀ j,j<=top.cps.size->Dt (side.cps.getD i 0) top (yE side.cps.size side top i) ((side.cps.size:Int) - 1 - i) j=((gA side.cps.size (CB side top) i j:Nat):Int)/\QM (side.cps.getD i 0) top (yE side.cps.size side top i) ((side.cps.size:Int) - 1 - i) j=ux side.cps.size (CB side top) j (i+1))
 | 0,h=>⟨by rw [Mw];rfl,fun hi j hj=>ag_step (by rw [Mw];rfl) hi hj⟩
 | i+1,h=>by
  have ih:=(ag (side:=side) (top:=top) i (by omega)).2 (by omega) top.cps.size (Y4 _);have e:yE side.cps.size side top (i+1)=ux side.cps.size (CB side top) top.cps.size (i+1):=ih.2;exact ⟨e,fun hi j hj=>ag_step e hi hj⟩
where
 ag_step {side top:Str} {i j:Nat} (e:yE side.cps.size side top i=ux side.cps.size (CB side top) top.cps.size i) (hi:i < side.cps.size) (hj:j<=top.cps.size):
   Dt (side.cps.getD i 0) top (yE side.cps.size side top i) ((side.cps.size:Int) - 1 - i) j=((gA side.cps.size (CB side top) i j:Nat):Int)/\QM (side.cps.getD i 0) top (yE side.cps.size side top i) ((side.cps.size:Int) - 1 - i) j=ux side.cps.size (CB side top) j (i+1):=by
  have h1:=zj (z:=MP side.cps.size side top i) (c:=side.cps.getD i 0) (top:=top) (ab:=yE side.cps.size side top i) (left:=(side.cps.size:Int) - 1 - i) (n:=top.cps.size) (fun l hl=>by rw [← Dv hi];exact Sh hi hl) j hj;have h2:=zf (m:=side.cps.size) (C:=CB side top) (far:=top.cps.size) (i:=i) j hj;rw [← Dv hi] at h1;rw [← e,show ((gA side.cps.size (CB side top) i 0:Nat):Int)=(side.cps.size:Int) - 1 - i by rw [jH];omega,h1] at h2;exact ⟨congrArg Prod.snd h2,congrArg Prod.fst h2⟩
theorem QT {side top:Str} {i j:Nat} (hi:i < side.cps.size) (hj:j < top.cps.size):CB side top i j=(decide (side.cps.getD i 0=top.cps.getD j 0) || decide (gD side.cps.size (CB side top) j i < gA side.cps.size (CB side top) i j)):=by
 rw [Sh hi hj];unfold xK;rw [((ag i (by omega)).2 hi j (by omega)).1,(ag i (by omega)).1,Ds hj]
 congr 1
 exact decide_eq_decide.mpr (by omega)
end
section
variable {P:Program} {w:World} {K:W.Frag} {mg:Str->Option Value} {base:Heap}
theorem zm:(["line"]:List Str).Nodup:=by trivial
theorem Yj {m:Nat} {C:Nat->Nat->Bool} {far:Nat}:∀ n i j,i+j<=n->i < m->j < far->gA m C i j < m+far/\gD m C j i < m+far
 | n,0,0,_,hi,hj=>by rw [jH,nJ];omega
 | 0,0,j+1,h,_,_=>absurd h (by omega)
 | 0,i+1,j,h,_,_=>absurd h (by omega)
 | n+1,0,j+1,h,hi,hj=>by
  have ih:=Yj (m:=m) (C:=C) (far:=far) n 0 j (by omega) hi (by omega);refine ⟨?_,by rw [nJ];omega⟩;rw [kO];split
  ·exact ih.2
  ·exact ih.1
 | n+1,i+1,0,h,hi,hj=>by
  have ih:=Yj (m:=m) (C:=C) (far:=far) n i 0 (by omega) (by omega) hj;refine ⟨by rw [jH];omega,?_⟩;rw [jJ];split
  ·exact ih.1
  ·exact ih.2
 | n+1,i+1,j+1,h,hi,hj=>by
  have h1:=Yj (m:=m) (C:=C) (far:=far) n (i+1) j (by omega) hi (by omega);have h2:=Yj (m:=m) (C:=C) (far:=far) n i (j+1) (by omega) (by omega) hj;refine ⟨?_,?_⟩
  ·rw [kO];split
   ·exact h1.2
   ·exact h1.1
  ·rw [jJ];split
   ·exact h2.1
   ·exact h2.2
def stp (w:Nat->List (Int×Int)) (l:Nat) (q:Int×Int):Nat->List (Int×Int):=fun k=>if k=l then w k ++ [q] else w k
def QV (m:Nat) (C:Nat->Nat->Bool) (i:Nat) (w0:Nat->List (Int×Int)):Nat->Nat->List (Int×Int)
 | 0=>w0
 | j+1=>stp (stp (QV m C i w0 j) (gA m C i j) ((i:Int),(j:Int))) (gD m C j i) ((i:Int),(j:Int))
def Jd (m:Nat) (C:Nat->Nat->Bool) (far:Nat):Nat->Nat->List (Int×Int)
 | 0=>fun _=>[]
 | i+1=>QV m C i (Jd m C far i) far
theorem zp (w:Nat->List (Int×Int)) (l:Nat) (q:Int×Int) (k:Nat):(stp w l q k).length<=(w k).length+1:=by
 unfold stp;split <;> simp
theorem zq {m:Nat} {C:Nat->Nat->Bool} {i:Nat} {w0:Nat->List (Int×Int)} (k:Nat):∀ j,(QV m C i w0 j k).length<=(w0 k).length+2*j
 | 0=>by simp [QV]
 | j+1=>by
  have ih:=zq (m:=m) (C:=C) (i:=i) (w0:=w0) k j;have h1:=zp (stp (QV m C i w0 j) (gA m C i j) ((i:Int),(j:Int))) (gD m C j i) ((i:Int),(j:Int)) k;have h2:=zp (QV m C i w0 j) (gA m C i j) ((i:Int),(j:Int)) k;show (stp _ _ _ k).length<=_;omega
theorem Fw {m:Nat} {C:Nat->Nat->Bool} {far:Nat} (k:Nat):∀ i,(Jd m C far i k).length<=2*(i*far)
 | 0=>by simp [Jd]
 | i+1=>by
  have ih:=Fw (m:=m) (C:=C) (far:=far) k i;have h1:=zq (m:=m) (C:=C) (i:=i) (w0:=Jd m C far i) k far;show (QV m C i (Jd m C far i) far k).length<=_;have e:(i+1)*far=i*far+far:=Nat.succ_mul i far;omega
def Wys (H:Hp) (Pd:Addr->Prop) (refs:List V) (n:Nat) (w:Nat->List (Int×Int)):Prop:=refs.length=n/\(∀ l,l < n->∃ p ws,refs[l]?=some (.ref p)/\Pd p/\H p=some (.lst ws)/\PrI H ws (w l))/\
 ∀ (l k:Nat) (p:Addr),l≠k->refs[l]?=some (.ref p)->refs[k]?≠some (.ref p)
theorem Wys.imp {H H':Hp} {Pd Pd':Addr->Prop} {refs:List V} {n:Nat} {w:Nat->List (Int×Int)} (h:Wys H Pd refs n w) (ht:∀ p us,H p=some (.tup us)->H' p=some (.tup us)) (hl:∀ c ws,Pd c->H c=some (.lst ws)->H' c=some (.lst ws)) (hp:∀ c,Pd c->Pd' c):Wys H' Pd' refs n w:=
 ⟨h.1,fun l hl'=>by
  obtain ⟨p,ws,e1,e2,e3,e4⟩:=h.2.1 l hl';exact ⟨p,ws,e1,hp p e2,hl p ws e2 e3,e4.imp ht⟩,h.2.2⟩
theorem Wys.same {H H':Hp} {Pd:Addr->Prop} {refs:List V} {n:Nat} {w:Nat->List (Int×Int)} (h:Wys H Pd refs n w) (s:Same H H'):Wys H' Pd refs n w:=h.imp (fun p us e=>s _ _ e) (fun c ws _ e=>s _ _ e) fun _ z=>z
theorem Wys.new {H:Hp} {Pd:Addr->Prop} {refs:List V} {n:Nat} {w:Nat->List (Int×Int)} {p:Addr} (h:Wys H Pd refs n w) (hn:H p=none) (hP:Pd p) (hw:w n=[]):Wys (upd H p (.lst [])) Pd (refs ++ [.ref p]) (n+1) w:=by
 have s:Same H (upd H p (.lst [])):=(Same.refl H).upd hn;obtain ⟨h1,h2,h3⟩:=h
 have ne:∀ l:Nat,refs[l]?≠some (V.ref p):=fun l e=>by
  have hl:l < n:=by rw [← h1];exact (Y0.mp e).1
  obtain ⟨p',ws,e1,_,e3,_⟩:=h2 l hl;rw [e] at e1;cases e1;rw [hn] at e3;cases e3
 refine ⟨by rw [Zv,h1];rfl,fun l hl=>?_,fun l k q hlk e1 e2=>?_⟩
 ·by_cases e:l=n
  ·subst e
   exact ⟨p,[],by rw [Zx (by omega),h1,AaO];rfl,hP,aj,by rw [hw];trivial⟩
  ·obtain ⟨p',ws,e1,e2,e3,e4⟩:=h2 l (by omega)
   exact ⟨p',ws,by rw [ZK (by omega)];exact e1,e2,s _ _ e3,e4.same s⟩
 ·by_cases hl:l < refs.length
  ·rw [ZK hl] at e1
   by_cases hk:k < refs.length
   ·rw [ZK hk] at e2
    exact h3 l k q hlk e1 e2
   ·rw [Zx (by omega)] at e2
    have:k - refs.length=0:=by
     have:=(Y0.mp e2).1;simp at this;omega
    rw [this] at e2;cases e2;exact ne l e1
  ·rw [Zx (by omega)] at e1
   have:l - refs.length=0:=by
    have:=(Y0.mp e1).1;simp at this;omega
   rw [this] at e1;cases e1;by_cases hk:k < refs.length
   ·rw [ZK hk] at e2
    exact ne k e2
   ·have:=(Y0.mp e2).1
    simp at this;omega
theorem Wys.app {H:Hp} {Pd:Addr->Prop} {refs ws:List V} {n l:Nat} {w:Nat->List (Int×Int)} {p q:Addr} {x y:Int} (h:Wys H Pd refs n w) (hl:l < n) (hp:refs[l]?=some (.ref p)) (hw:H p=some (.lst ws)) (hq:H q=some (.tup [.int x,.int y])):
  Wys (upd H p (.lst (ws ++ [.ref q]))) Pd refs n (stp w l (x,y)):=by
 obtain ⟨h1,h2,h3⟩:=h;have ht:∀ r us,H r=some (.tup us)->upd H p (.lst (ws ++ [.ref q])) r=some (.tup us):=fun r us e=>by rw [aC (fun z=>by rw [z,hw] at e;cases e)];exact e
 refine ⟨h1,fun k hk=>?_,h3⟩;obtain ⟨p',us,e1,e2,e3,e4⟩:=h2 k hk;by_cases e:k=l
 ·subst e
  rw [hp] at e1;cases e1;rw [hw] at e3;cases e3;refine ⟨p,_,hp,e2,aj,?_⟩;unfold stp;rw [if_pos rfl];exact PrI.push (ht _ _ hq) (e4.imp ht)
 ·have ne:p'≠p:=fun z=>by subst z;exact h3 k l p' e e1 hp
  refine ⟨p',us,e1,e2,by rw [aC ne];exact e3,?_⟩;unfold stp;rw [if_neg e];exact e4.imp ht
theorem QW {m:Nat} {C:Nat->Nat->Bool} {far i j:Nat} (h:j < far):(Bs m C far i)[j]?=some (((gA m C i j:Nat):Int),((gD m C j i:Nat):Int)):=by
 unfold Bs;rw [Y9,Aab h];rfl
theorem M5 {m:Nat} {C:Nat->Nat->Bool} {far i:Nat}:(Bs m C far i).length=far:=by simp [Bs]
def VL:Sp:=fun vs H Q _=>∃ (m far:Nat) (C:Nat->Nat->Bool) (cm:Addr) (cs:List V),vs=[.int ((m:Int)+(far:Int)),.ref cm]/\m<=48/\far<=48/\H cm=some (.lst cs)/\Cmg H (fun _=>True) m C far cs m/\
 ∀ aw refs H',H aw=none->Same H H'->H' aw=some (.lst refs)->Wys H' (fun p=>H p=none) refs (m+far) (Jd m C far m)->Q (.ref aw) H'
theorem jd:aD ["many","coming","ways","row","pairs","column","pair"] ["many","coming"] (az qg):=⟨rfl,rfl,rfl,by trivial,rfl,by trivial,by trivial⟩
theorem uA (T:Txt K mg):lN P w K mg base 1 "ways_of" ["many","coming"] VL:=by
 walk_at "@fB 2 T.d_ways_of jd";obtain ⟨m,far,C,cm,cs,rfl,hm,hf,hcm,hG,q⟩:=h;walk_at "=jd;!~&#2^<.>L[many coming ways row pairs column pair]~p[line]V9H#0{zm}b!7h5WI2#3^N2#4^%7h$+WI`N2#6^!4J/'18$a&*$-%4J/'18$a&*$-%,'";have hs:20000<=sizeLine:=by decide
 refine ⟨_,rfl,by omega,by omega,?_⟩;rw [show ((m:Int)+(far:Int)).toNat=m+far by omega];refine mF (n:=m+far) (fun i ys H'=>Same H H'/\Wys H' (fun p=>H p=none) ys i (fun _=>[])) (by omega) ⟨Same.refl H,rfl,(fun l hl=>absurd hl (Nat.not_lt_zero _)),fun l k p _ e=>by simp at e⟩ ?_ ?_ ?_
 ·rintro i ys H' ⟨_,h⟩
  exact Nat.le_of_eq h.1
 ·rintro i ys H' hi ⟨s,h⟩
  walk_at "s";apply ⟨KeepSt.set rfl,?_⟩;apply iG rfl fun p np=>?_
  exact ⟨s.upd np,h.new np (Same.back s np) rfl⟩
 ·rintro refs H1 ⟨s1,hW⟩ aw naw
  have naw0:=Same.back s1 naw;have s2:=s1.upd naw (o:=.lst refs);have haw:=aj (H:=H1) (a:=aw) (o:=.lst refs)
  have hW2:Wys (upd H1 aw (.lst refs)) (fun p=>H p=none/\p≠aw) refs (m+far) (Jd m C far 0):=by
   obtain ⟨w1,w2,w3⟩:=hW;refine ⟨w1,fun l hl=>?_,w3⟩;obtain ⟨p,ws,e1,e2,e3,e4⟩:=w2 l hl;exact ⟨p,ws,e1,⟨e2,fun z=>by rw [z,naw] at e3;cases e3⟩,aY naw e3,e4.same ((Same.refl H1).upd naw)⟩
  generalize upd H1 aw (.lst refs)=H2 at s2 haw hW2 ⊢;walk_at "s";refine .inr ⟨cm,_,rfl,SqL.of (s2 _ _ hcm),?_⟩
  refine iU (xs:=cs) (fun i U H'=>Same H H'/\H' aw=some (.lst refs)/\Wys H' (fun p=>H p=none/\p≠aw) refs (m+far) (Jd m C far i)/\∃ x3 x4 x5 x6,U=[some (.int ((m:Int)+(far:Int))),some (.ref cm),some (.ref aw),x3,x4,x5,x6])
   ⟨s2,haw,hW2,_,_,_,_,rfl⟩ (fun i U H' _ h=>SqL.of (h.1 _ _ hcm)) ?_ ?_
  ·rintro i U H3 T0 x hx ⟨S3,h3,W3,x3,x4,x5,x6,rfl⟩ nT
   have hi:i < m:=by
    have:=(Y0.mp hx).1;rw [hG.1] at this;exact this
   obtain ⟨c,ws,e1,_,hc,hws⟩:=hG.2 i hi;rw [hx] at e1;cases e1;have wl:=hws.len;rw [M5] at wl;refine bx (xs:=[.int i,.ref c]) (SqT.of aj) rfl ?_;have S4:=S3.upd nT (o:=.tup [.int i,.ref c]);have h4:=aY nT h3 (o:=.tup [.int i,.ref c]);have W4:=W3.same ((Same.refl H3).upd nT (o:=.tup [.int i,.ref c]));generalize upd H3 T0 (.tup [.int i,.ref c])=H4 at S4 h4 W4 ⊢;walk_at "s";refine .inr ⟨c,_,rfl,SqL.of (S4 _ _ hc),?_⟩
   refine iU (xs:=ws) (fun j U H'=>Same H H'/\H' aw=some (.lst refs)/\Wys H' (fun p=>H p=none/\p≠aw) refs (m+far) (QV m C i (Jd m C far i) j)/\∃ x5 x6,U=[some (.int ((m:Int)+(far:Int))),some (.ref cm),some (.ref aw),some (.int i),some (.ref c),x5,x6])
    ⟨S4,h4,W4,_,_,rfl⟩ (fun i U H' _ h=>SqL.of (h.1 _ _ hc)) ?_ ?_
   ·rintro j U H5 T1 y hy ⟨S5,h5,W5,x5,x6,rfl⟩ nT1
    have hj:j < far:=by
     have:=(Y0.mp hy).1;omega
    obtain ⟨r,e2,hr'⟩:=hws.get (QW (m:=m) (C:=C) (i:=i) hj);rw [hy] at e2;cases e2;obtain ⟨l1,l2⟩:=Yj (m:=m) (C:=C) (far:=far) (i+j) i j (Y4 _) hi hj;have wA:=Fw (m:=m) (C:=C) (far:=far);have wJ:=zq (m:=m) (C:=C) (i:=i) (w0:=Jd m C far i);have him:i*far<=48*48:=Nat.mul_le_mul (by omega) hf;refine bx (xs:=[.int j,.ref r]) (SqT.of aj) rfl ?_;have S6:=S5.upd nT1 (o:=.tup [.int j,.ref r]);have h6:=aY nT1 h5 (o:=.tup [.int j,.ref r]);have W6:=W5.same ((Same.refl H5).upd nT1 (o:=.tup [.int j,.ref r]));generalize upd H5 T1 (.tup [.int j,.ref r])=H6 at S6 h6 W6 ⊢;obtain ⟨p,us,r1,⟨pn,pa⟩,hp,hpu⟩:=W6.2.1 _ l1;have ul:=hpu.len;have:=wA (gA m C i j) i;have:=wJ (gA m C i j) j;walk_at "s";apply fK (SqT.of (S6 _ _ hr')) rfl ?_;apply aU (SqL.of h6) (cG r1) ?_;apply ⟨.inl ⟨rfl,_,SqL.of hp⟩,?_⟩;apply iG rfl fun q1 nq1=>?_
    have S7:=S6.upd nq1 (o:=.tup [.int i,.int j]);have h7:=aY nq1 h6 (o:=.tup [.int i,.int j]);have W7:=W6.same ((Same.refl H6).upd nq1 (o:=.tup [.int i,.int j]));have hp7:=aY nq1 hp (o:=.tup [.int i,.int j]);have hq7:=aj (H:=H6) (a:=q1) (o:=.tup [.int i,.int j]);generalize upd H6 q1 (.tup [.int i,.int j])=H7 at S7 h7 W7 hp7 hq7 ⊢;apply bF hp7 (by omega) ?_;have S8:=Same.put (o:=.lst (us ++ [.ref q1])) S7 pn;have h8:upd H7 p (.lst (us ++ [.ref q1])) aw=_:=(aC (Ne.symm pa)).trans h7;have W8:=W7.app l1 r1 hp7 hq7;generalize upd H7 p (.lst (us ++ [.ref q1]))=H8 at S8 h8 W8 ⊢;obtain ⟨p',us',r2,⟨pn',pa'⟩,hp',hpu'⟩:=W8.2.1 _ l2;have ul':=hpu'.len;have:=zp (QV m C i (Jd m C far i) j) (gA m C i j) ((i:Int),(j:Int)) (gD m C j i);have:=wA (gD m C j i) i;have:=wJ (gD m C j i) j;walk_at "s";apply fK (SqT.of (S8 _ _ hr')) rfl ?_;apply aU (SqL.of h8) (cG r2) ?_;apply ⟨.inl ⟨rfl,_,SqL.of hp'⟩,?_⟩;apply iG rfl fun q2 nq2=>?_
    have S9:=S8.upd nq2 (o:=.tup [.int i,.int j]);have h9:=aY nq2 h8 (o:=.tup [.int i,.int j]);have W9:=W8.same ((Same.refl H8).upd nq2 (o:=.tup [.int i,.int j]));have hp9:=aY nq2 hp' (o:=.tup [.int i,.int j]);have hq9:=aj (H:=H8) (a:=q2) (o:=.tup [.int i,.int j]);generalize upd H8 q2 (.tup [.int i,.int j])=H9 at S9 h9 W9 hp9 hq9 ⊢;apply bF hp9 (by omega) ?_;exact ⟨Same.put S9 pn',(aC (Ne.symm pa')).trans h9,W9.app l2 r2 hp9 hq9,_,_,rfl⟩
   ·rintro U H5 ⟨S5,h5,W5,x5,x6,rfl⟩
    rw [wl] at W5;exact ⟨S5,h5,W5,_,_,_,_,rfl⟩
  ·rintro U H3 ⟨S3,h3,W3,x3,x4,x5,x6,rfl⟩
   rw [hG.1] at W3;walk_at "s";exact q aw refs H3 naw0 S3 h3 (W3.imp (fun _ _ z=>z) (fun _ _ _ z=>z) fun c z=>z.1)
abbrev mS (z:Str):Nat:=z.cps.size
structure BdO (H:Hp) (side top:Str) (ac am al aw:Addr):Prop where
 cells:H ac=some (.lst ((lE side top).map V.str))
 com:∃ cs,H am=some (.lst cs)/\Cmg H (fun _=>True) (mS side) (CB side top) (mS top) cs (mS side)
 lines:∃ R,H al=some (.lst (R.map V.int))/\qY (mS side) (CB side top) (mS top) R
 ways:∃ refs,H aw=some (.lst refs)/\Wys H (fun _=>True) refs (mS side+mS top) (Jd (mS side) (CB side top) (mS top) (mS side))
def bdF (side top:Str) (ac am al aw:Addr):List (Str×V):=[("held_side",.str side),("held_top",.str top),("held_cells",.ref ac),("held_coming",.ref am),("held_lines",.ref al),("held_ways",.ref aw)]
def Bd (mg:Str->Option Value) (H:Hp) (b:Addr) (side top:Str):Prop:=wY side/\wY top/\∃ dx ac am al aw,H b=some (.ins (aP mg "Board") dx (bdF side top ac am al aw))/\BdO H side top ac am al aw
theorem Dw (side top:Str):(lE side top).length=side.cps.size:=Fv _ _ _ _
theorem Bw {side top:Str}:∀ z∈lE side top,z.cps.size=top.cps.size:=fun z hz=>by
 unfold lE Du at hz;obtain ⟨i,_,rfl⟩:=Z0.mp hz;exact yD
def QX (mg:Str->Option Value):Sp:=fun vs H Q _=>∃ (x dx:Addr) (side top:Str),vs=[.ref x,.str side,.str top]/\H x=some (.ins (aP mg "Board") dx [])/\wY side/\wY top/\∀ H',Chg x H H'->Bd mg H' x side top->Q .non H'
theorem Chg.same {x:Addr} {H H1 H2:Hp} (c:Chg x H H1) (s:Same H1 H2):Chg x H H2:=fun b o n e=>s _ _ (c b o n e)
theorem Chg.put {x:Addr} {H H1:Hp} {o:HO} (c:Chg x H H1):Chg x H (upd H1 x o):=fun b u n e=>by rw [aC n];exact c b u n e
theorem cF {f:Str} {y:V}:∀ {fs:List (Str×V)},(fs.map (·.1)).contains f=false->kY f y fs=fs ++ [(f,y)]
 | [],_=>rfl
 | (g,z) :: fs,h=>by
  simp only [Z3,Aay,Abi] at h;have hne:¬ g=f:=fun e=>by rw [e] at h;simp at h
  have ih:=cF (y:=y) (fs:=fs) h.2;unfold kY;simp [hne,ih]
theorem kW:aD ["self","side","top","gone"] ["self","side","top"] (az iV):=⟨rfl,rfl,rfl,by trivial,rfl,by trivial,by trivial⟩
theorem je (T:Txt K mg):oF P w K mg base 5 "Board" "__init__" ["self","side","top"] (QX mg):=by
 have pH:=@pH P w K mg base T;have q9:=@q9 P w K mg base T;have nM:=@nM P w K mg base T;have uA:=@uA P w K mg base T;walk_at "@u6 3 T.m_Board___init__ kW";obtain ⟨x,dx,side,top,rfl,hx,hs,ht,q'⟩:=h;walk_at "=kW;!4({pH}CE!U0!U'!U({q9}CE!)#3^({nM}&.5&.E$_3!U1*!U1*%U({uA}&?.5.E$1*";refine ⟨side,top,rfl,hs,ht,fun H1 S1=>?_⟩;have cl:=T.o_Board.cl;have na:=T.n_Board;have lz:side.length<=sizeLine:=ZP hs.1 (by decide);have ly:top.length<=sizeLine:=ZP ht.1 (by decide);have hx1:=S1 _ _ hx;have C1:Chg x H H1:=fun b o _ e=>S1 _ _ e
 walk_at "s";apply ⟨x,_,dx,_,rfl,hx1,cl,na _ (by simp),by simp,?_⟩;rw [cF (by show ([]:List Str).contains "held_side"=false;trivial)];have hx2:=aj (H:=H1) (a:=x) (o:=.ins (aP mg "Board") dx (([]:List (Str×V)) ++ ([("held_side",.str side)]:List (Str×V))));have C2:=Chg.put (o:=.ins (aP mg "Board") dx (([]:List (Str×V)) ++ ([("held_side",.str side)]:List (Str×V)))) C1;generalize hG2:upd H1 x (.ins (aP mg "Board") dx (([]:List (Str×V)) ++ ([("held_side",.str side)]:List (Str×V))))=H2 at hx2 C2 ⊢;replace hx2:H2 x=some (.ins (aP mg "Board") dx ([("held_side",.str side)]:List (Str×V))):=hx2;walk_at "s";apply ⟨x,_,dx,_,rfl,hx2,cl,na _ (by simp),by simp,?_⟩;rw [cF (by show (["held_side"]:List Str).contains "held_top"=false;trivial)];have hx3:=aj (H:=H2) (a:=x) (o:=.ins (aP mg "Board") dx (([("held_side",.str side)]:List (Str×V)) ++ ([("held_top",.str top)]:List (Str×V))));have C3:=Chg.put (o:=.ins (aP mg "Board") dx (([("held_side",.str side)]:List (Str×V)) ++ ([("held_top",.str top)]:List (Str×V)))) C2;generalize hG3:upd H2 x (.ins (aP mg "Board") dx (([("held_side",.str side)]:List (Str×V)) ++ ([("held_top",.str top)]:List (Str×V))))=H3 at hx3 C3 ⊢;replace hx3:H3 x=some (.ins (aP mg "Board") dx ([("held_side",.str side),("held_top",.str top)]:List (Str×V))):=hx3;walk_at "s";apply ⟨side,top,rfl,hs.1,ht.1,fun ac H4 nac S4 hac=>?_⟩;have hx4:=S4 _ _ hx3;have C4:=Chg.same C3 S4;apply ⟨x,_,dx,_,rfl,hx4,cl,na _ (by simp),by simp,?_⟩;rw [cF (by show (["held_side","held_top"]:List Str).contains "held_cells"=false;trivial)];have hx5:=aj (H:=H4) (a:=x) (o:=.ins (aP mg "Board") dx (([("held_side",.str side),("held_top",.str top)]:List (Str×V)) ++ ([("held_cells",.ref ac)]:List (Str×V))));have C5:=Chg.put (o:=.ins (aP mg "Board") dx (([("held_side",.str side),("held_top",.str top)]:List (Str×V)) ++ ([("held_cells",.ref ac)]:List (Str×V)))) C4;generalize hG5:upd H4 x (.ins (aP mg "Board") dx (([("held_side",.str side),("held_top",.str top)]:List (Str×V)) ++ ([("held_cells",.ref ac)]:List (Str×V))))=H5 at hx5 C5 ⊢;replace hx5:H5 x=some (.ins (aP mg "Board") dx ([("held_side",.str side),("held_top",.str top),("held_cells",.ref ac)]:List (Str×V))):=hx5;have nx4:∀ {a:Addr} {us:List V},H4 a=some (.lst us)->a≠x:=fun {a us} h z=>by rw [z,hx4] at h;cases h
 have hac5:H5 ac=some (.lst ((lE side top).map V.str)):=by rw [← hG5,aC (nx4 hac)];exact hac
 walk_at "s";apply cQ lz ?_;apply cQ ly ?_;apply ⟨x,_,dx,_,_,rfl,hx5,cl,na _ (by simp),rfl,?_⟩;apply ⟨mS side,mS top,lE side top,ac,rfl,hac5,Dw side top,hs.1,ht.1,Bw,fun t am al R H6 nal S6 ht6 hE hal hcm=>?_⟩;obtain ⟨cs,hcm,hG⟩:=hcm;have hx6:=S6 _ _ hx5;have C6:=Chg.same C5 S6;apply ⟨x,_,dx,_,rfl,hx6,cl,na _ (by simp),by simp,?_⟩;rw [cF (by show (["held_side","held_top","held_cells"]:List Str).contains "held_coming"=false;trivial)];have hx7:=aj (H:=H6) (a:=x) (o:=.ins (aP mg "Board") dx (([("held_side",.str side),("held_top",.str top),("held_cells",.ref ac)]:List (Str×V)) ++ ([("held_coming",.ref am)]:List (Str×V))));have C7:=Chg.put (o:=.ins (aP mg "Board") dx (([("held_side",.str side),("held_top",.str top),("held_cells",.ref ac)]:List (Str×V)) ++ ([("held_coming",.ref am)]:List (Str×V)))) C6;generalize hG7:upd H6 x (.ins (aP mg "Board") dx (([("held_side",.str side),("held_top",.str top),("held_cells",.ref ac)]:List (Str×V)) ++ ([("held_coming",.ref am)]:List (Str×V))))=H7 at hx7 C7 ⊢;replace hx7:H7 x=some (.ins (aP mg "Board") dx ([("held_side",.str side),("held_top",.str top),("held_cells",.ref ac),("held_coming",.ref am)]:List (Str×V))):=hx7;have M7:Chg x H6 H7:=by rw [← hG7];exact Chg.put (Chg.refl x H6)
 have nt:t≠x:=fun z=>by rw [z,hx6] at ht6;cases ht6
 have ht7:=M7 t _ nt ht6;walk_at "s";apply ⟨x,_,dx,_,rfl,hx7,cl,na _ (by simp),by simp,?_⟩;rw [cF (by show (["held_side","held_top","held_cells","held_coming"]:List Str).contains "held_lines"=false;trivial)];have hx8:=aj (H:=H7) (a:=x) (o:=.ins (aP mg "Board") dx (([("held_side",.str side),("held_top",.str top),("held_cells",.ref ac),("held_coming",.ref am)]:List (Str×V)) ++ ([("held_lines",.ref al)]:List (Str×V))));have C8:=Chg.put (o:=.ins (aP mg "Board") dx (([("held_side",.str side),("held_top",.str top),("held_cells",.ref ac),("held_coming",.ref am)]:List (Str×V)) ++ ([("held_lines",.ref al)]:List (Str×V)))) C7;generalize hG8:upd H7 x (.ins (aP mg "Board") dx (([("held_side",.str side),("held_top",.str top),("held_cells",.ref ac),("held_coming",.ref am)]:List (Str×V)) ++ ([("held_lines",.ref al)]:List (Str×V))))=H8 at hx8 C8 ⊢;replace hx8:H8 x=some (.ins (aP mg "Board") dx ([("held_side",.str side),("held_top",.str top),("held_cells",.ref ac),("held_coming",.ref am),("held_lines",.ref al)]:List (Str×V))):=hx8;have M8:Chg x H6 H8:=M7.trans (by rw [← hG8];exact Chg.put (Chg.refl x H7));have nx6:∀ {a:Addr} {us:List V},H6 a=some (.lst us)->a≠x:=fun {a us} h z=>by rw [z,hx6] at h;cases h
 have nxt6:∀ {a:Addr} {us:List V},H6 a=some (.tup us)->a≠x:=fun {a us} h z=>by rw [z,hx6] at h;cases h
 have ht8:=M8 t _ nt ht6;have hcm8:=M8 am _ (nx6 hcm) hcm;have hG8':Cmg H8 (fun _=>True) (mS side) (CB side top) (mS top) cs (mS side):=hG.imp (fun p us e=>M8 p _ (nxt6 e) e) (fun c ws _ e=>M8 c _ (nx6 e) e) fun _ z=>z
 have hal8:=M8 al _ (nx6 hal) hal;have hac8:=M8 ac _ (nx6 (S6 _ _ hac5)) (S6 _ _ hac5);walk_at "s";apply cQ lz ?_;apply cQ ly ?_;apply ⟨mS side,mS top,CB side top,am,cs,rfl,hs.1,ht.1,hcm8,hG8',fun aw refs H9 naw S9 haw hW=>?_⟩;have hx9:=S9 _ _ hx8;have C9:=Chg.same C8 S9;have nx9:∀ {a:Addr} {us:List V},H9 a=some (.lst us)->a≠x:=fun {a us} h z=>by rw [z,hx9] at h;cases h
 have nxt9:∀ {a:Addr} {us:List V},H9 a=some (.tup us)->a≠x:=fun {a us} h z=>by rw [z,hx9] at h;cases h
 apply ⟨x,_,dx,_,rfl,hx9,cl,na _ (by simp),by simp,?_⟩;rw [cF (by show (["held_side","held_top","held_cells","held_coming","held_lines"]:List Str).contains "held_ways"=false;trivial)];have hx10:=aj (H:=H9) (a:=x) (o:=.ins (aP mg "Board") dx (([("held_side",.str side),("held_top",.str top),("held_cells",.ref ac),("held_coming",.ref am),("held_lines",.ref al)]:List (Str×V)) ++ ([("held_ways",.ref aw)]:List (Str×V))));have C10:=Chg.put (o:=.ins (aP mg "Board") dx (([("held_side",.str side),("held_top",.str top),("held_cells",.ref ac),("held_coming",.ref am),("held_lines",.ref al)]:List (Str×V)) ++ ([("held_ways",.ref aw)]:List (Str×V)))) C9;generalize hG10:upd H9 x (.ins (aP mg "Board") dx (([("held_side",.str side),("held_top",.str top),("held_cells",.ref ac),("held_coming",.ref am),("held_lines",.ref al)]:List (Str×V)) ++ ([("held_ways",.ref aw)]:List (Str×V))))=H10 at hx10 C10 ⊢;replace hx10:H10 x=some (.ins (aP mg "Board") dx ([("held_side",.str side),("held_top",.str top),("held_cells",.ref ac),("held_coming",.ref am),("held_lines",.ref al),("held_ways",.ref aw)]:List (Str×V))):=hx10;have M10:Chg x H9 H10:=by rw [← hG10];exact Chg.put (Chg.refl x H9)
 refine q' H10 C10 ⟨hs,ht,dx,ac,am,al,aw,hx10,M10 ac _ (nx9 (S9 _ _ hac8)) (S9 _ _ hac8),⟨cs,M10 am _ (nx9 (S9 _ _ hcm8)) (S9 _ _ hcm8),(hG8'.same S9).imp (fun p us e=>M10 p _ (nxt9 e) e) (fun c ws _ e=>M10 c _ (nx9 e) e) fun _ z=>z⟩,⟨R,M10 al _ (nx9 (S9 _ _ hal8)) (S9 _ _ hal8),hE⟩,refs,M10 aw _ (nx9 haw) haw,hW.imp (fun p us e=>M10 p _ (nxt9 e) e) (fun c ws _ e=>M10 c _ (nx9 e) e) fun _ _=>trivial⟩
theorem bdM {side top:Str} {ac am al aw:Addr} {m:Str} (h:(["held_side","held_top","held_cells","held_coming","held_lines","held_ways"]:List Str).contains m=false):(bdF side top ac am al aw).lookup m=none:=by
 unfold bdF;simp only [Aay,Abi] at h;obtain ⟨h1,h2,h3,h4,h5,h6,_⟩:=h;simp only [ZZ,h1,h2,h3,h4,h5,h6,List.lookup_nil]
def QZ (mg:Str->Option Value):Sp:=fun vs H Q _=>∃ (b:Addr) (side top:Str),vs=[.ref b]/\Bd mg H b side top/\∀ q R H',H q=none->Same H H'->qY (mS side) (CB side top) (mS top) R->H' q=some (.lst (R.map V.int))->Q (.ref q) H'
theorem w5:aD ["self"] ["self"] (az lC):=⟨rfl,rfl,rfl,by trivial,rfl,by trivial,by trivial⟩
theorem lF (T:Txt K mg):oF P w K mg base 1 "Board" "lines" ["self"] (QZ mg):=by
 walk_at "@u6 1 T.m_Board_lines w5";obtain ⟨b,side,top,rfl,⟨hs,ht,dx,ac,am,al,aw,hb,hO⟩,q⟩:=h;walk_at "=_;%,~I~J{T.b_list}$_3";obtain ⟨R,hR,hE⟩:=hO.lines;apply ⟨b,_,dx,_,_,rfl,hb,T.o_Board.cl,T.n_Board _ (by simp),rfl,?_⟩;apply PJ (SqL.of hR) fun l nl=>?_
 exact q l R _ nl ((Same.refl H).upd nl) hE aj
end
local macro_rules | `(tactic| walk_at "s") => `(tactic| (with_reducible repeat (first | refine j9 ?_ | walk_at "1")))
local macro_rules | `(tactic| walk_at "n") => `(tactic| (with_reducible repeat (walk_at "1")))
section
variable {P:Program} {w:World} {K:W.Frag} {mg:Str->Option Value} {base:Heap}
theorem vd:Yb mO "self":=by trivial
theorem uB:Yb mO "found":=by trivial
theorem VM {H:Hp} {v:V} {T:String} (h:TyOf K H v (.type T)) (k:PySem.W.kitOne K (.type T) (.type "int")=some false):Yg v=false/\∀ lo hi,inB v lo hi=false:=by
 cases v with
 | int z=>
  cases h;have:PySem.W.kitOne K (.type "int") (.type "int")=some true:=rfl;rw [this] at k;cases k
 | _=>exact ⟨rfl,fun _ _=>rfl⟩
theorem Bx:aD ["self","found"] ["self","found"] (az mO):=⟨rfl,rfl,rfl,by trivial,rfl,by trivial,by trivial⟩
theorem Dy (T:Txt K mg):Wl P w K mg base 1 "NoPlace" (aP mg "NoPlace") ["found"]:=mkX T.x_NoPlace Bx (fun _ _ _ _ _ _ us hl=>L2.lO (fun _ _=>rfl) us hl) rfl fun f cdv A outer s H vs Q E hr h=>⟨_,(aA (EY (K:=K) rfl (KC 0 vd) (KC 1 uB))),rd1 T.x_NoPlace.c.cl.cls (T.x_NoPlace.na _ (by simp)) h⟩
def M6 (K:W.Frag):Sp:=fun vs H Q _=>∃ v:V,vs=[v]/\Kd K H v/\Q (.bl (Yg v)) H
theorem zr:aD ["thing"] ["thing"] (az o8):=⟨rfl,rfl,rfl,by trivial,rfl,by trivial,by trivial⟩
theorem pI (T:Txt K mg):lN P w K mg base 1 "is_number" ["thing"] (M6 K):=by
 walk_at "@fB 1 T.d_is_number zr";obtain ⟨v,rfl,hT,q⟩:=h;walk_at "=_;%,cY6$~K{T.b_int}j~6Y6~'";rcases hT with ⟨n,rfl⟩ | ⟨b,rfl⟩ | ⟨T',hty,hk⟩
 ·apply iQ (.int _) rfl ?_
  apply iQ (.int _) rfl ?_;exact q
 ·apply iQ (.bl _) (b:=true) (by rfl) ?_
  apply iQ (.bl _) (b:=true) (by rfl) ?_;exact q
 ·apply iQ hty hk ?_
  rw [(VM hty hk).1] at q;exact q
def M9 (K:W.Frag):Sp:=fun vs H Q _=>∃ (v:V) (lo hi:Int),vs=[v,.int lo,.int hi]/\Kd K H v/\Q (.bl (inB v lo hi)) H
theorem zu:aD ["thing","low","high"] ["thing","low","high"] (az o9):=⟨rfl,rfl,rfl,by trivial,rfl,by trivial,by trivial⟩
theorem bG (T:Txt K mg):lN P w K mg base 2 "is_within" ["thing","low","high"] (M9 K):=by
 have pI:=@pI P w K mg base T;walk_at "@fB 3 T.d_is_within zu";obtain ⟨v,lo,hi,rfl,hT,q⟩:=h;walk_at "=_;%,c({pI}9j~q03'";apply ⟨v,rfl,hT,?_⟩;cases v with
 | int n=>
  show if true=true then _ else _
  walk_at "s";show if decide (lo<=n)=true then _ else _
  unfold inB at q;dsimp only at q;by_cases h:lo<=n
  ·rw [Zc h] at q ⊢
   rw [Bool.true_and] at q;walk_at "s";exact q
  ·rw [Zd h] at q ⊢
   rw [Bool.false_and] at q;walk_at "s";exact q
 | _=>exact q
def Fx (K:W.Frag) (mg:Str->Option Value):Sp:=fun vs H Q E=>∃ (v:V) (lo hi:Int),vs=[v,.int lo,.int hi]/\Kd K H v/\(inB v lo hi=true->Q .non H)/\
 (inB v lo hi=false->∀ e H',Same H H'->Od H' e (aP mg "NoPlace") [("found",v)]->E (.ref (aP mg "NoPlace")) (some e) H')
theorem xM:aD ["thing","low","high"] ["thing","low","high"] (az m9):=⟨rfl,rfl,rfl,by trivial,rfl,by trivial,by trivial⟩
theorem bz (T:Txt K mg):Am P w K mg base 3 "need_place" ["thing","low","high"] (Fx K mg):=by
 have bG:=@bG P w K mg base T;walk_at "@Aq 3 T.d_need_place xM";obtain ⟨v,lo,hi,rfl,hT,q1,q2⟩:=h;walk_at "=_;%TA:({bG}6CE%~L~M{Dy}{T}B9";apply ⟨v,lo,hi,rfl,hT,?_⟩;cases hb:inB v lo hi with
 | true=>
  walk_at "s";exact q1 hb
 | false=>
  walk_at "s";exact ⟨rfl,(show 1<=sizeLine by decide),fun x H2 S2 X2=>q2 hb x H2 S2 X2⟩
theorem jY (i j:Int):decide (V.int i=V.int j)=decide (i=j):=decide_eq_decide.mpr ⟨fun h=>V.int.inj h,fun h=>by rw [h]⟩
theorem fU (t:List Nat):((nI t).map V.int).length=t.length:=by unfold nI;rw [Y6,Y6]
theorem Sq {t:List Nat} {k:Nat} {v:V} (h:((nI t).map V.int)[k]?=some v):∃ i,t[k]?=some i/\v= .int (i:Int):=by
 unfold nI at h;rw [Y9,Y9] at h;cases e:t[k]? with
 | none=>rw [e] at h;cases h
 | some y=>rw [e] at h;exact ⟨y,rfl,(Zm h).symm⟩
theorem Nb {n p:Nat} {j:Int} (hj:j=(p:Int)) (h:p < n):Gx n j=some p:=by
 subst hj;unfold Gx;rw [if_pos (by omega),if_pos (by omega)];simp
def VN (K:W.Frag):Sp:=fun vs H Q _=>∃ (b e m:Int),vs=[.int b,.int e,.int m]/\0<=b/\b<=e/\e<=m/\Q (.bl true) H
theorem Dz:aD ["begin","end","many"] ["begin","end","many"] (az um):=⟨rfl,rfl,rfl,by trivial,rfl,by trivial,by trivial⟩
theorem jL (T:Txt K mg):lN P w K mg base 3 "is_span" ["begin","end","many"] (VN K):=by
 have bG:=@bG P w K mg base T;walk_at "@fB 3 T.d_is_span Dz";obtain ⟨b,e,m,rfl,h1,h2,h3,q⟩:=h;walk_at "=_;%,c({bG}6=Ej({bG}C6E";apply ⟨_,_,_,rfl,.inl ⟨_,rfl⟩,?_⟩;rw [show inB (.int b) 0 m=true by unfold inB;simp;omega];walk_at "s";apply ⟨_,_,_,rfl,.inl ⟨_,rfl⟩,?_⟩;rw [show inB (.int e) b m=true by unfold inB;simp;omega];exact q
def Q0 (K:W.Frag):Sp:=fun vs H Q _=>∃ (b e m:Int),vs=[.int b,.int e,.int m]/\0<=b/\b<=e/\e<=m/\Q .non H
theorem zx:aD ["begin","end","many"] ["begin","end","many"] (az ph):=⟨rfl,rfl,rfl,by trivial,rfl,by trivial,by trivial⟩
theorem pJ (T:Txt K mg):lN P w K mg base 4 "need_span" ["begin","end","many"] (Q0 K):=by
 have jL:=@jL P w K mg base T;walk_at "@fB 3 T.d_need_span zx";obtain ⟨b,e,m,rfl,h1,h2,h3,q⟩:=h;walk_at "=_;%TA:({jL}6CEz";apply ⟨b,e,m,rfl,h1,h2,h3,?_⟩;exact q
theorem sY {H:Hp} {Q:VK} {E:XK} {n lo hi:Int} (h1:lo<=n) (h2:n<=hi) (h:Q .non H):Fx K mg [.int n,.int lo,.int hi] H Q E:=
 ⟨_,_,_,rfl,.inl ⟨_,rfl⟩,fun _=>h,fun hb=>by unfold inB at hb;simp at hb;omega⟩
def Tn (H:Hp) (a:Addr) (t:List Nat):Prop:=H a=some (.lst ((nI t).map V.int))\/H a=some (.tup ((nI t).map V.int))
theorem Tn.same {H H':Hp} {a:Addr} {t:List Nat} (h:Tn H a t) (s:Same H H'):Tn H' a t:=h.imp (s _ _) (s _ _)
def Q3 (us:List V):Bool:=decide (us.length<=96) && (us.all fun u=>inB u 0 ((us.length:Int) - 1)) && decide us.Nodup
theorem Fy {us:List V} (h:96 < us.length):Q3 us=false:=by unfold Q3;rw [Zd (by omega)];rfl
theorem Nf {us:List V} {u:V} (h:u∈us) (hb:inB u 0 ((us.length:Int) - 1)=false):Q3 us=false:=by
 unfold Q3;have:(us.all fun u=>inB u 0 ((us.length:Int) - 1))=false:=List.all_eq_false.mpr ⟨u,h,by rw [hb];simp⟩;rw [this,Bool.and_false,Bool.false_and]
theorem Ng {us:List V} {k:Nat} {u:V} (h:us[k]?=some u) (hm:u∈us.take k):Q3 us=false:=by
 have:¬ us.Nodup:=fun nd=>by
  obtain ⟨i,hi,e⟩:=ZQ.mp hm;obtain ⟨hk,e2⟩:=Y0.mp h;rw [Aac] at hi;rw [List.getElem_take] at e;exact Aar.mp nd i k (by omega) hk (by omega) (e.trans e2.symm)
 unfold Q3;rw [Zd this,Bool.and_false]
theorem Nh {us:List V} (h:us.length<=96) (hin:∀ u∈us,inB u 0 ((us.length:Int) - 1)=true) (hnd:us.Nodup):Q3 us=true:=by
 unfold Q3;rw [Zc h,Zc hnd,AaC.mpr hin];rfl
theorem w6 {us:List V} {v:V} (h:us.Nodup) (hm:v ∉ us):(us ++ [v]).Nodup:=by
 refine List.nodup_append.mpr ⟨h,by simp,fun a ha b hb=>?_⟩;rw [ZD.mp hb];exact fun z=>hm (z ▸ ha)
theorem Fz {v:V} {h:Int} (hb:inB v 0 h=true):∃ i:Nat,v= .int (i:Int)/\(i:Int)<=h:=by
 cases v with
 | int n=>
  unfold inB at hb;simp at hb;exact ⟨n.toNat,by rw [Aa2 hb.1],by omega⟩
 | _=>cases hb
def TnK (K:W.Frag) (H:Hp) (v:V) (b:Bool):Prop:=(∃ a us,v= .ref a/\(H a=some (.lst us)\/H a=some (.tup us))/\us.length<=10000/\(∀ u∈us,Kd K H u)/\b=Q3 us)\/
 ∃ T,TyOf K H v (.type T)/\PySem.W.kitAny K (.type T) [.type "list",.type "tuple"]=some false/\b=false
theorem Q4 {H:Hp} {a:Addr} {t:List Nat} (h:Tn H a t) (hP:Prm t):TnK K H (.ref a) true:=by
 have hle:=hP.le;refine .inl ⟨a,_,rfl,h,by rw [fU];omega,fun u hu=>?_,?_⟩
 ·obtain ⟨x,_,rfl⟩:=Z0.mp hu
  exact .inl ⟨x,rfl⟩
 ·refine (Nh (by rw [fU];exact hle) (fun u hu=>?_) ?_).symm
  ·obtain ⟨x,hx,rfl⟩:=Z0.mp hu
   unfold nI at hx;obtain ⟨y,hy,rfl⟩:=Z0.mp hx;have:=hP.lt hy;rw [fU];unfold inB;simp;omega
  ·unfold nI List.Nodup
   rw [Aap,Aa1];exact hP.nd.imp fun {x y} h z=>h (by have e:((x:Nat):Int)=((y:Nat):Int):=V.int.inj z;omega)
def VP (K:W.Frag):Sp:=fun vs H Q _=>∃ (v:V) (b:Bool),vs=[v]/\TnK K H v b/\∀ H',Same H H'->Q (.bl b) H'
theorem lG:aD ["thing","seen","end"] ["thing"] (az nF):=⟨rfl,rfl,rfl,by trivial,rfl,by trivial,by trivial⟩
theorem nP (T:Txt K mg):lN P w K mg base 3 "is_turning" ["thing"] (VP K):=by
 have bG:=@bG P w K mg base T;walk_at "@fB 1 T.d_is_turning lG";obtain ⟨v,bb,rfl,h,q⟩:=h;walk_at "=lG;!GMPA:~(6$a&~)~7Zs.9m{T.c_MOST_LINES}!~r#1^!7Q32#2^!GMPA:({bG}&'=$r.9Zg~N'0%~s~O0'~P%~8";have hs:20000<=sizeLine:=by decide
 rcases h with ⟨a,us,rfl,ha,hlen,hkd,rfl⟩ | ⟨T',hty,hk,rfl⟩
 ·rcases ha with ha | ha
  ·skip
   apply iG rfl fun p np=>?_
   have ha1:upd H p (.tup [.ty "list",.ty "tuple"]) a=some (.lst us):=aY np ha;apply yZ (.lst ha1) aj rfl (b:=true) (by rfl) ?_;apply iB (SqL.of ha1) ?_;by_cases h96:96 < us.length
   ·rw [Zc (show (96:Int) < (us.length:Int) by omega)]
    rw [Fy h96] at q;walk_at "s";exact q _ ((Same.refl H).upd np)
   rw [Zd (show ¬ (96:Int) < (us.length:Int) by omega)];walk_at "s";intro d nd;have S1:Same H (upd (upd H p (.tup [.ty "list",.ty "tuple"])) d (.dK [])):=((Same.refl H).upd np).upd nd;have hd0:upd (upd H p (.tup [.ty "list",.ty "tuple"])) d (.dK []) d=some (.dK []):=aj;have nd':H d=none:=Same.back ((Same.refl H).upd np) nd;generalize upd (upd H p (.tup [.ty "list",.ty "tuple"])) d (.dK [])=H1 at S1 hd0 ⊢;walk_at "s";refine .inl ⟨a,rfl,⟨_,SqL.of (S1 _ _ ha)⟩,?_⟩
   refine jN (xs:=us) (fun k U H'=>∃ (kvs:List (Key×V)) (x2:Option V),U=[some (.ref a),some (.ref d),x2]/\Same H H'/\H' d=some (.dK kvs)/\kvs.length<=k/\(∀ n:Nat,jQ kvs (Sum.inl (n:Int))=if V.int (n:Int)∈us.take k then some (.bl true) else none)/\(∀ u∈us.take k,inB u 0 ((us.length:Int) - 1)=true)/\(us.take k).Nodup)
    ⟨[],_,rfl,S1,hd0,by simp,fun n=>by simp [Aa],by simp,by simp⟩ (fun i U H' _ h=>?_) ?_ ?_
   ·obtain ⟨_,_,_,s,_⟩:=h
    exact SqL.of (s _ _ ha)
   ·rintro k v U H' hk ⟨kvs,x2,rfl,s,hd,hkl,hv,hin,hnd⟩
    have hkt:k < us.length:=(Y0.mp hk).1;have hmem:=Zj hk;walk_at "s";apply iB (SqL.of (s _ _ ha)) ?_;apply ⟨_,_,_,rfl,(hkd v hmem).same s,?_⟩;cases hb:inB v 0 ((us.length:Int) - 1) with
    | false=>
     rw [Nf hmem hb] at q;walk_at "s";exact q _ s
    | true=>
     obtain ⟨i,rfl,hi⟩:=Fz hb;walk_at "s";refine .inr ⟨d,_,rfl,DGet.k (k:=Sum.inl (i:Int)) hd,?_⟩;rw [hv i];by_cases hm:V.int (i:Int)∈us.take k
     ·rw [if_pos hm,show (some (V.bl true)).isSome=true from rfl]
      rw [Ng hk hm] at q;walk_at "s";exact q _ s
     ·rw [if_neg hm,show (none:Option V).isSome=false from rfl]
      walk_at "s";refine .inr ⟨d,_,rfl,DPut.k (k:=Sum.inl (i:Int)) hd (by omega),?_⟩;have tk:us.take (k+1)=us.take k ++ [V.int (i:Int)]:=by rw [Z9,hk];rfl
      refine ⟨_,_,rfl,Same.put s nd',aj,ZP (j8 _ _ _) (by omega),fun n=>?_,fun u hu=>?_,?_⟩
      ·rw [Ac,hv n,tk]
       by_cases hn:n=i
       ·subst hn;simp
       ·rw [if_neg (fun z=>hn (by have:=Sum.inl.inj z;omega))]
        have hne:¬ V.int (n:Int)=V.int (i:Int):=fun z=>hn (by have:=V.int.inj z;omega)
        simp [hne]
      ·rw [tk] at hu
       rcases Zh.mp hu with h | h
       ·exact hin u h
       ·rw [ZD.mp h];exact hb
      ·rw [tk]
       exact w6 hnd hm
   ·rintro U H' ⟨kvs,x2,rfl,s,hd,_,_,hin,hnd⟩
    rw [AbO] at hin hnd;rw [Nh (by omega) hin hnd] at q;walk_at "s";exact q _ s
  ·skip
   apply iG rfl fun p np=>?_
   have ha1:upd H p (.tup [.ty "list",.ty "tuple"]) a=some (.tup us):=aY np ha;apply yZ (.tup ha1) aj rfl (b:=true) (by rfl) ?_;apply tZ (SqT.of ha1) ?_;by_cases h96:96 < us.length
   ·rw [Zc (show (96:Int) < (us.length:Int) by omega)]
    rw [Fy h96] at q;walk_at "s";exact q _ ((Same.refl H).upd np)
   rw [Zd (show ¬ (96:Int) < (us.length:Int) by omega)];walk_at "s";intro d nd;have S1:Same H (upd (upd H p (.tup [.ty "list",.ty "tuple"])) d (.dK [])):=((Same.refl H).upd np).upd nd;have hd0:upd (upd H p (.tup [.ty "list",.ty "tuple"])) d (.dK []) d=some (.dK []):=aj;have nd':H d=none:=Same.back ((Same.refl H).upd np) nd;generalize upd (upd H p (.tup [.ty "list",.ty "tuple"])) d (.dK [])=H1 at S1 hd0 ⊢;walk_at "s";refine .inr (.inl ⟨a,rfl,⟨_,SqT.of (S1 _ _ ha)⟩,?_⟩)
   refine Oz (xs:=us) (fun k U H'=>∃ (kvs:List (Key×V)) (x2:Option V),U=[some (.ref a),some (.ref d),x2]/\Same H H'/\H' d=some (.dK kvs)/\kvs.length<=k/\(∀ n:Nat,jQ kvs (Sum.inl (n:Int))=if V.int (n:Int)∈us.take k then some (.bl true) else none)/\(∀ u∈us.take k,inB u 0 ((us.length:Int) - 1)=true)/\(us.take k).Nodup)
    ⟨[],_,rfl,S1,hd0,by simp,fun n=>by simp [Aa],by simp,by simp⟩ (fun i U H' _ h=>?_) ?_ ?_
   ·obtain ⟨_,_,_,s,_⟩:=h
    exact SqT.of (s _ _ ha)
   ·rintro k v U H' hk ⟨kvs,x2,rfl,s,hd,hkl,hv,hin,hnd⟩
    have hkt:k < us.length:=(Y0.mp hk).1;have hmem:=Zj hk;walk_at "s";apply tZ (SqT.of (s _ _ ha)) ?_;apply ⟨_,_,_,rfl,(hkd v hmem).same s,?_⟩;cases hb:inB v 0 ((us.length:Int) - 1) with
    | false=>
     rw [Nf hmem hb] at q;walk_at "s";exact q _ s
    | true=>
     obtain ⟨i,rfl,hi⟩:=Fz hb;walk_at "s";refine .inr ⟨d,_,rfl,DGet.k (k:=Sum.inl (i:Int)) hd,?_⟩;rw [hv i];by_cases hm:V.int (i:Int)∈us.take k
     ·rw [if_pos hm,show (some (V.bl true)).isSome=true from rfl]
      rw [Ng hk hm] at q;walk_at "s";exact q _ s
     ·rw [if_neg hm,show (none:Option V).isSome=false from rfl]
      walk_at "s";refine .inr ⟨d,_,rfl,DPut.k (k:=Sum.inl (i:Int)) hd (by omega),?_⟩;have tk:us.take (k+1)=us.take k ++ [V.int (i:Int)]:=by rw [Z9,hk];rfl
      refine ⟨_,_,rfl,Same.put s nd',aj,ZP (j8 _ _ _) (by omega),fun n=>?_,fun u hu=>?_,?_⟩
      ·rw [Ac,hv n,tk]
       by_cases hn:n=i
       ·subst hn;simp
       ·rw [if_neg (fun z=>hn (by have:=Sum.inl.inj z;omega))]
        have hne:¬ V.int (n:Int)=V.int (i:Int):=fun z=>hn (by have:=V.int.inj z;omega)
        simp [hne]
      ·rw [tk] at hu
       rcases Zh.mp hu with h | h
       ·exact hin u h
       ·rw [ZD.mp h];exact hb
      ·rw [tk]
       exact w6 hnd hm
   ·rintro U H' ⟨kvs,x2,rfl,s,hd,_,_,hin,hnd⟩
    rw [AbO] at hin hnd;rw [Nh (by omega) hin hnd] at q;walk_at "s";exact q _ s
 ·apply iG rfl fun p np=>?_
  apply yZ (hty.mono fun b o e _=>aY np e) aj rfl hk ?_;exact q _ ((Same.refl H).upd np)
def Q5 (K:W.Frag):Sp:=fun vs H Q _=>∃ (a:Addr) (t:List Nat),vs=[.ref a]/\Tn H a t/\Prm t/\∀ H',Same H H'->Q .non H'
theorem vf:aD ["thing"] ["thing"] (az jV):=⟨rfl,rfl,rfl,by trivial,rfl,by trivial,by trivial⟩
theorem d8 (T:Txt K mg):lN P w K mg base 4 "need_turning" ["thing"] (Q5 K):=by
 have nP:=@nP P w K mg base T;walk_at "@fB 1 T.d_need_turning vf";obtain ⟨a,t,rfl,ha,hP,q⟩:=h;walk_at "=_;%TA:({nP}9z";apply ⟨.ref a,true,rfl,Q4 ha hP,fun H1 S1=>?_⟩;walk_at "s";exact q H1 S1
end
local macro_rules | `(tactic| walk_at "s") => `(tactic| (with_reducible repeat (first | refine j9 ?_ | walk_at "2")))
local macro_rules | `(tactic| walk_at "n") => `(tactic| (with_reducible repeat (walk_at "2")))
section
variable {P:Program} {w:World} {K:W.Frag} {mg:Str->Option Value} {base:Heap}
theorem By:(["end","behind","line_end"]:List Str).Nodup:=by trivial
def DG (t:List Nat) (b e:Nat):Nat:=(t.drop b).countP fun x=>decide (x < e)
def zy (t:List Nat) (b:Nat):List Int:=(List.range (t.length+1)).map fun e=>((DG t b e:Nat):Int)
theorem DK {t:List Nat} {b e:Nat} {j:Int} (hj:j=(e:Int)) (h:e<=t.length):uX ((zy t b).map V.int) j=some (.int ((DG t b e:Nat):Int)):=by
 subst hj;refine cG ?_;unfold zy;rw [Y9,Y9,Aab (by omega)];rfl
theorem BJ {t:List Nat} {b x:Nat} (h:t[b]?=some x) (e:Nat):DG t b e=DG t (b+1) e+if x < e then 1 else 0:=by
 obtain ⟨hb,hx⟩:=Y0.mp h;unfold DG;rw [ZW hb,AbN,hx];by_cases c:x < e
 ·rw [if_pos (by simpa using c),if_pos c]
 ·rw [if_neg (by simpa using c),if_neg c]
theorem Q6 (t:List Nat) (e:Nat):DG t t.length e=0:=by unfold DG;rw [List.drop_length];rfl
def CT (H:Hp) (rs:List V) (n:Nat) (f:Nat->List Int):Prop:=rs.length=n/\∀ k,k < n->∃ a,rs[k]?=some (.ref a)/\H a=some (.lst ((f k).map V.int))
theorem CT.same {H H':Hp} {rs:List V} {n:Nat} {f:Nat->List Int} (h:CT H rs n f) (s:Same H H'):CT H' rs n f:=⟨h.1,fun k hk=>by
 obtain ⟨a,e,ha⟩:=h.2 k hk;exact ⟨a,e,s _ _ ha⟩⟩
theorem CT.push {H:Hp} {rs:List V} {n:Nat} {f:Nat->List Int} {a:Addr} (h:CT H rs n f) (ha:H a=some (.lst ((f n).map V.int))):CT H (rs ++ [.ref a]) (n+1) f:=⟨by rw [Zv,h.1];rfl,fun k hk=>by
 by_cases e:k=n
 ·subst e
  exact ⟨a,by rw [Zx (by rw [h.1];exact Y4 _),h.1,AaO];rfl,ha⟩
 ·obtain ⟨b,e1,hb⟩:=h.2 k (by omega)
  exact ⟨b,by rw [ZK (by rw [h.1];omega)];exact e1,hb⟩⟩
theorem CT.rev {H:Hp} {rs:List V} {n:Nat} {f:Nat->List Int} (h:CT H rs n f):CT H rs.reverse n fun k=>f (n - 1 - k):=⟨by rw [List.length_reverse];exact h.1,fun k hk=>by
 obtain ⟨a,e,ha⟩:=h.2 (n - 1 - k) (by omega);exact ⟨a,by rw [List.getElem?_reverse (by rw [h.1];exact hk),h.1];exact e,ha⟩⟩
def Ni:Sp:=fun vs H Q _=>∃ (a:Addr) (t:List Nat),vs=[.ref a]/\Tn H a t/\Prm t/\∀ q rs H',H q=none->Same H H'->H' q=some (.lst rs)->CT H' rs (t.length+1) (zy t)->(∀ r,V.ref r∈rs->H r=none)->Q (.ref q) H'
theorem mR:aD ["turning","many","table","line_end","behind"] ["turning"] (az sX):=⟨rfl,rfl,rfl,by trivial,rfl,by trivial,by trivial⟩
theorem xf (T:Txt K mg):lN P w K mg base 5 "counts" ["turning"] Ni:=by
 have d8:=@d8 P w K mg base T;walk_at "@fB 1 T.d_counts mR";obtain ⟨a,t,rfl,ha,hP,q⟩:=h;walk_at "=mR;!4({d8}9!)#1^.9!)#2^O$~3OKD0!7~t{T.b_reversed}3~Q#3^!~9#4^/'o%4J'$e<.43>L[turning many table line_end behind]~u[end behind line_end]V$D0H#0{By}?/fF~v~:~*#2F%,~w{T.b_list}{T.b_reversed}'";have hsz:20000<=sizeLine:=by decide
 have hle:=hP.le;apply ⟨a,t,rfl,ha,hP,fun H1 S1=>?_⟩;have hlen:∀ (n:Nat),n=t.length->n=t.length:=fun _ h=>h
 have step:∀ (R:V->Hp->Prop),R (.int (t.length:Int)) H1->GX K [.ref a] H1 R:=fun R hR=>by
  rcases ha.same S1 with h | h
  ·refine iB (SqL.of h) ?_
   rw [fU];exact hR
  ·refine tZ (SqT.of h) ?_
   rw [fU];exact hR
 apply step _ ?_;apply fG rfl fun p0 H2 _ S2 f2=>?_
 refine KN f2 (by omega) (by omega) (by simp;omega) fun p1 np1=>?_
 have S3:=(Same.refl H2).upd np1 (o:=.lst (List.replicate ((t.length:Int)+1).toNat [V.int 0]).flatten);have f3:=aj (H:=H2) (a:=p1) (o:=.lst (List.replicate ((t.length:Int)+1).toNat [V.int 0]).flatten);generalize upd H2 p1 (.lst (List.replicate ((t.length:Int)+1).toNat [V.int 0]).flatten)=H3 at S3 f3 ⊢
 have f3':H3 p1=some (.lst ((zy t (t.length - 0)).map V.int)):=by
  rw [f3,show ((t.length:Int)+1).toNat=t.length+1 by omega]
  congr 2
  unfold zy;rw [Aap]
  have:∀ n,(List.replicate n [V.int 0]).flatten=(List.range n).map fun _=>V.int 0:=fun n=>by
   induction n with
   | zero=>rfl
   | succ n ih=>rw [AbJ,List.flatten_append,ih,Aah,Zg];rfl
  rw [this];refine Aan fun e _=>?_
  show V.int 0=V.int ((DG t (t.length - 0) e:Nat):Int);rw [AbL,Q6];rfl
 walk_at "s";apply fG rfl fun tb H4 ntb S4 f4=>?_
 have U4:=S1.trans (S2.trans (S3.trans S4))
 have ntb0:H tb=none:=by
  have:=Same.back (S1.trans (S2.trans S3)) ntb;exact this
 have C4:CT H4 [.ref p1] (0+1) fun k=>zy t (t.length - k):=⟨rfl,fun k hk=>by
  obtain rfl:k=0:=by omega
  exact ⟨p1,rfl,S4 _ _ f3'⟩⟩
 have N4:∀ r,V.ref r∈[V.ref p1]->H r=none:=fun r hr=>by
  simp only [Zb,ZL,or_false] at hr;cases hr;exact Same.back (S1.trans S2) np1
 rcases ha with ha | ha
 ·refine .inl ⟨a,_,rfl,SqL.of (U4 _ _ ha),?_⟩
  refine Qw (xs:=(nI t).map V.int) (fun i U G=>Same H G/\(∃ rs,G tb=some (.lst rs)/\(CT G rs (i+1) fun k=>zy t (t.length - k))/\∀ r,V.ref r∈rs->H r=none)/\∃ x3 x4,U=[some (.ref a),some (.int (t.length:Int)),some (.ref tb),x3,x4])
   ⟨U4,⟨_,f4,C4,N4⟩,_,_,rfl⟩ (fun i U G _ h=>SqL.of (h.1 _ _ ha)) ?_ ?_
  ·rintro i x U G hi hx ⟨sG,⟨rs,htb,hC,hN⟩,x3,x4,rfl⟩
   rw [fU] at hi;rw [fU] at hx;obtain ⟨le,hle2,rfl⟩:=Sq hx;obtain ⟨pb,epb,hpb⟩:=hC.2 i (by omega);have hrl:rs.length=i+1:=hC.1;walk_at "s";apply aU (SqL.of htb) (Vo (n:=i) hrl epb) ?_;apply ⟨.inl ⟨rfl,_,SqL.of htb⟩,?_⟩;refine ⟨_,rfl,by omega,by omega,?_⟩;rw [show ((t.length:Int)+1).toNat=t.length+1 by omega];refine p7 (n:=t.length+1) (fun e=>.int ((DG t (t.length - (i+1)) e:Nat):Int)) (by omega) ?_ ?_
   ·intro e he
    have ec:=BJ (t:=t) (b:=t.length - (i+1)) (x:=le) (by rw [show t.length - (i+1)=t.length - 1 - i by omega];exact hle2) e;rw [show t.length - (i+1)+1=t.length - i by omega] at ec;rw [Int.zero_add];walk_at "s";apply ⟨KeepSt.set rfl,?_⟩;apply aU (SqL.of hpb) (DK rfl (by omega)) ?_;refine qm (fun h=>?_) (fun h=>?_)
    ·walk_at "s"
     exact ⟨rfl,p6 (by rw [ec,if_pos (by omega)];rfl)⟩
    ·walk_at "s"
     exact ⟨rfl,p6 (by rw [ec,if_neg (by omega)];rfl)⟩
   ·intro nw G2 nnw s2 hnw
    walk_at "s";apply bF (s2 _ _ htb) (by omega) ?_
    have hnw':G2 nw=some (.lst ((zy t (t.length - (i+1))).map V.int)):=by
     rw [hnw];unfold zy;rw [Aap];rfl
    have hne:∀ {b:Addr} {xs:List V},G2 b=some (.lst xs)->True:=fun _=>trivial
    have C2:=(hC.same s2).push hnw'
    refine ⟨Same.put (sG.trans s2) ntb0,⟨_,aj,⟨C2.1,fun k hk=>?_⟩,fun r hr=>(Zh.mp hr).elim (hN r) fun hr=>by
     simp only [Zb,ZL,or_false] at hr;cases hr;exact Same.back sG nnw⟩,_,_,rfl⟩
    obtain ⟨b,e1,hb⟩:=C2.2 k hk;refine ⟨b,e1,?_⟩;rw [aC (fun z=>?_)]
    ·exact hb
    ·rw [z,s2 _ _ htb] at hb
     have e0:rs=(zy t (t.length - k)).map V.int:=by injection hb with hb;injection hb
     obtain ⟨a0,ea0,_⟩:=hC.2 0 (by omega);rw [e0,Y9] at ea0;cases hq:(zy t (t.length - k))[0]? with
     | none=>rw [hq] at ea0;cases ea0
     | some v=>rw [hq] at ea0;cases ea0
  ·rintro U G ⟨sG,⟨rs,htb,hC,hN⟩,x3,x4,rfl⟩
   rw [fU] at hC;walk_at "s";refine ⟨_,rfl,tb,rs,rfl,SqL.of htb,fun qq nqq=>?_⟩;have s5:=(Same.refl G).upd nqq (o:=.lst rs.reverse);refine q qq rs.reverse _ (Same.back sG nqq) (sG.trans s5) aj ?_ fun r hr=>hN r (AaI.mp hr)
   have:=hC.rev.same s5;refine ⟨this.1,fun k hk=>?_⟩;obtain ⟨b,e1,hb⟩:=this.2 k hk;refine ⟨b,e1,?_⟩;rw [hb];show some (HO.lst (List.map V.int (zy t (t.length - (t.length+1 - 1 - k)))))=_;rw [show t.length - (t.length+1 - 1 - k)=k by omega]
 ·refine .inr ⟨a,_,rfl,SqT.of (U4 _ _ ha),by rw [fU];omega,?_⟩
  refine Qx (xs:=(nI t).map V.int) (by rw [fU];omega) (fun i U G=>Same H G/\(∃ rs,G tb=some (.lst rs)/\(CT G rs (i+1) fun k=>zy t (t.length - k))/\∀ r,V.ref r∈rs->H r=none)/\∃ x3 x4,U=[some (.ref a),some (.int (t.length:Int)),some (.ref tb),x3,x4])
   ⟨U4,⟨_,f4,C4,N4⟩,_,_,rfl⟩ (fun i U G _ h=>SqT.of (h.1 _ _ ha)) ?_ ?_
  ·rintro i x U G hi hx ⟨sG,⟨rs,htb,hC,hN⟩,x3,x4,rfl⟩
   rw [fU] at hi;rw [fU] at hx;obtain ⟨le,hle2,rfl⟩:=Sq hx;obtain ⟨pb,epb,hpb⟩:=hC.2 i (by omega);have hrl:rs.length=i+1:=hC.1;walk_at "s";apply aU (SqL.of htb) (Vo (n:=i) hrl epb) ?_;apply ⟨.inl ⟨rfl,_,SqL.of htb⟩,?_⟩;refine ⟨_,rfl,by omega,by omega,?_⟩;rw [show ((t.length:Int)+1).toNat=t.length+1 by omega];refine p7 (n:=t.length+1) (fun e=>.int ((DG t (t.length - (i+1)) e:Nat):Int)) (by omega) ?_ ?_
   ·intro e he
    have ec:=BJ (t:=t) (b:=t.length - (i+1)) (x:=le) (by rw [show t.length - (i+1)=t.length - 1 - i by omega];exact hle2) e;rw [show t.length - (i+1)+1=t.length - i by omega] at ec;rw [Int.zero_add];walk_at "s";apply ⟨KeepSt.set rfl,?_⟩;apply aU (SqL.of hpb) (DK rfl (by omega)) ?_;refine qm (fun h=>?_) (fun h=>?_)
    ·walk_at "s"
     exact ⟨rfl,p6 (by rw [ec,if_pos (by omega)];rfl)⟩
    ·walk_at "s"
     exact ⟨rfl,p6 (by rw [ec,if_neg (by omega)];rfl)⟩
   ·intro nw G2 nnw s2 hnw
    walk_at "s";apply bF (s2 _ _ htb) (by omega) ?_
    have hnw':G2 nw=some (.lst ((zy t (t.length - (i+1))).map V.int)):=by
     rw [hnw];unfold zy;rw [Aap];rfl
    have hne:∀ {b:Addr} {xs:List V},G2 b=some (.lst xs)->True:=fun _=>trivial
    have C2:=(hC.same s2).push hnw'
    refine ⟨Same.put (sG.trans s2) ntb0,⟨_,aj,⟨C2.1,fun k hk=>?_⟩,fun r hr=>(Zh.mp hr).elim (hN r) fun hr=>by
     simp only [Zb,ZL,or_false] at hr;cases hr;exact Same.back sG nnw⟩,_,_,rfl⟩
    obtain ⟨b,e1,hb⟩:=C2.2 k hk;refine ⟨b,e1,?_⟩;rw [aC (fun z=>?_)]
    ·exact hb
    ·rw [z,s2 _ _ htb] at hb
     have e0:rs=(zy t (t.length - k)).map V.int:=by injection hb with hb;injection hb
     obtain ⟨a0,ea0,_⟩:=hC.2 0 (by omega);rw [e0,Y9] at ea0;cases hq:(zy t (t.length - k))[0]? with
     | none=>rw [hq] at ea0;cases ea0
     | some v=>rw [hq] at ea0;cases ea0
  ·rintro U G ⟨sG,⟨rs,htb,hC,hN⟩,x3,x4,rfl⟩
   rw [fU] at hC;walk_at "s";refine ⟨_,rfl,tb,rs,rfl,SqL.of htb,fun qq nqq=>?_⟩;have s5:=(Same.refl G).upd nqq (o:=.lst rs.reverse);refine q qq rs.reverse _ (Same.back sG nqq) (sG.trans s5) aj ?_ fun r hr=>hN r (AaI.mp hr)
   have:=hC.rev.same s5;refine ⟨this.1,fun k hk=>?_⟩;obtain ⟨b,e1,hb⟩:=this.2 k hk;refine ⟨b,e1,?_⟩;rw [hb];show some (HO.lst (List.map V.int (zy t (t.length - (t.length+1 - 1 - k)))))=_;rw [show t.length - (t.length+1 - 1 - k)=k by omega]
end
local macro_rules | `(tactic| walk_at "s") => `(tactic| (with_reducible repeat (first | refine j9 ?_ | walk_at "3")))
local macro_rules | `(tactic| walk_at "n") => `(tactic| (with_reducible repeat (walk_at "3")))
section
variable {P:Program} {w:World} {K:W.Frag} {mg:Str->Option Value} {base:Heap}
def YM (ae ac:Addr):List (Str×V):=[("held_ends",.ref ae),("held_counts",.ref ac)]
structure TyO (H:Hp) (t:List Nat) (ae ac:Addr) (rs:List V):Prop where
 ends:H ae=some (.lst ((nI t).map V.int))
 cnts:H ac=some (.lst rs)
 rows:CT H rs (t.length+1) (zy t)
theorem TyO.same {H H':Hp} {t:List Nat} {ae ac:Addr} {rs:List V} (h:TyO H t ae ac rs) (s:Same H H'):TyO H' t ae ac rs:=⟨s _ _ h.ends,s _ _ h.cnts,h.rows.same s⟩
def Ty (mg:Str->Option Value) (H:Hp) (x:Addr) (t:List Nat):Prop:=Prm t/\∃ dx ae ac rs,H x=some (.ins (aP mg "Tally") dx (YM ae ac))/\TyO H t ae ac rs
theorem Ty.same {H H':Hp} {x:Addr} {t:List Nat} (h:Ty mg H x t) (s:Same H H'):Ty mg H' x t:=by
 obtain ⟨hP,dx,ae,ac,rs,hx,hO⟩:=h;exact ⟨hP,dx,ae,ac,rs,s _ _ hx,hO.same s⟩
def TyD (mg:Str->Option Value) (D:Addr->Prop) (H:Hp) (x:Addr) (t:List Nat):Prop:=Prm t/\∃ dx ae ac rs,H x=some (.ins (aP mg "Tally") dx (YM ae ac))/\TyO H t ae ac rs/\¬ D x/\¬ D ae/\¬ D ac/\∀ r,V.ref r∈rs->¬ D r
theorem TyD.ty {H:Hp} {D:Addr->Prop} {x:Addr} {t:List Nat} (h:TyD mg D H x t):Ty mg H x t:=by
 obtain ⟨hP,dx,ae,ac,rs,hx,hO,_⟩:=h;exact ⟨hP,dx,ae,ac,rs,hx,hO⟩
theorem TyD.sub {H:Hp} {D D':Addr->Prop} {x:Addr} {t:List Nat} (h:TyD mg D H x t) (s:∀ g,D' g->D g):TyD mg D' H x t:=by
 obtain ⟨hP,dx,ae,ac,rs,hx,hO,n1,n2,n3,n4⟩:=h;exact ⟨hP,dx,ae,ac,rs,hx,hO,fun z=>n1 (s _ z),fun z=>n2 (s _ z),fun z=>n3 (s _ z),fun r hr z=>n4 r hr (s _ z)⟩
theorem Yk {D:Addr->Prop} {x g:Addr} (h:¬ D x) (hg:D g):x≠g:=fun z=>h (by rw [z];exact hg)
theorem TyD.put {H:Hp} {D:Addr->Prop} {g x:Addr} {t:List Nat} {o:HO} (h:TyD mg D H x t) (hg:D g):TyD mg D (upd H g o) x t:=by
 obtain ⟨hP,dx,ae,ac,rs,hx,hO,n1,n2,n3,n4⟩:=h;refine ⟨hP,dx,ae,ac,rs,by rw [aC (Yk n1 hg)];exact hx,⟨by rw [aC (Yk n2 hg)];exact hO.ends,by rw [aC (Yk n3 hg)];exact hO.cnts,hO.rows.1,fun k hk=>?_⟩,n1,n2,n3,n4⟩;obtain ⟨b,e,hb⟩:=hO.rows.2 k hk;exact ⟨b,e,by rw [aC (Yk (n4 b (Zj e)) hg)];exact hb⟩
def Q7 (mg:Str->Option Value):Sp:=fun vs H Q _=>∃ (x dx a:Addr) (t:List Nat),vs=[.ref x,.ref a]/\H x=some (.ins (aP mg "Tally") dx [])/\Tn H a t/\Prm t/\∀ H',Chg x H H'->TyD mg (fun g=>g≠x/\∃ o,H g=some o) H' x t->Q .non H'
theorem sZ:aD ["self","turning"] ["self","turning"] (az iW):=⟨rfl,rfl,rfl,by trivial,rfl,by trivial,by trivial⟩
theorem jf (T:Txt K mg):oF P w K mg base 6 "Tally" "__init__" ["self","turning"] (Q7 mg):=by
 have d8:=@d8 P w K mg base T;have xf:=@xf P w K mg base T;walk_at "@u6 2 T.m_Tally___init__ sZ";obtain ⟨x,dx,a,t,rfl,hx,ha,hP,q⟩:=h;walk_at "=_;!4({d8}5!U~I~J{T.b_list}5%U({xf}5";have hsz:20000<=sizeLine:=by decide
 have cl:=T.o_Tally.cl;have na:=T.n_Tally;apply ⟨a,t,rfl,ha,hP,fun H1 S1=>?_⟩;refine .inl ⟨a,(nI t).map V.int,rfl,(ha.same S1).imp SqL.of SqT.of,fun ae nae=>?_⟩;have S2:=(Same.refl H1).upd nae (o:=.lst ((nI t).map V.int));have f2:=aj (H:=H1) (a:=ae) (o:=.lst ((nI t).map V.int));generalize upd H1 ae (.lst ((nI t).map V.int))=H2 at S2 f2 ⊢;have U2:=S1.trans S2;have hx2:=U2 _ _ hx
 have nx:∀ {G:Hp} {b:Addr} {fs:List (Str×V)} {us:List V},G x=some (.ins (aP mg "Tally") dx fs)->(G b=some (.lst us)\/G b=some (.tup us))->b≠x:=fun {G b fs us} h1 h2 z=>by
  rw [z,h1] at h2;rcases h2 with h2 | h2 <;> cases h2
 walk_at "s";apply ⟨x,_,dx,_,rfl,hx2,cl,na _ (by simp),by simp,?_⟩;rw [cF (by show ([]:List Str).contains "held_ends"=false;trivial)];have hx3:=aj (H:=H2) (a:=x) (o:=.ins (aP mg "Tally") dx (([]:List (Str×V)) ++ ([("held_ends",.ref ae)]:List (Str×V))));have C3:Chg x H2 (upd H2 x (.ins (aP mg "Tally") dx (([]:List (Str×V)) ++ ([("held_ends",.ref ae)]:List (Str×V))))):=Chg.put (Chg.refl x H2);generalize upd H2 x (.ins (aP mg "Tally") dx (([]:List (Str×V)) ++ ([("held_ends",.ref ae)]:List (Str×V))))=H3 at hx3 C3 ⊢;replace hx3:H3 x=some (.ins (aP mg "Tally") dx ([("held_ends",.ref ae)]:List (Str×V))):=hx3;have ha2:=ha.same U2
 have ha3:Tn H3 a t:=by
  have nxa:=nx hx2 ha2;rcases ha2 with h | h
  ·exact .inl (C3 _ _ nxa h)
  ·exact .inr (C3 _ _ nxa h)
 have f3:=C3 _ _ (nx hx2 (.inl f2)) f2;walk_at "s";apply ⟨a,t,rfl,ha3,hP,fun ac rs H4 nac S4 hac hrs hfr=>?_⟩;have hx4:=S4 _ _ hx3;apply ⟨x,_,dx,_,rfl,hx4,cl,na _ (by simp),by simp,?_⟩;rw [cF (by show (["held_ends"]:List Str).contains "held_counts"=false;trivial)];have hx5:=aj (H:=H4) (a:=x) (o:=.ins (aP mg "Tally") dx (([("held_ends",.ref ae)]:List (Str×V)) ++ ([("held_counts",.ref ac)]:List (Str×V))));have C5:Chg x H4 (upd H4 x (.ins (aP mg "Tally") dx (([("held_ends",.ref ae)]:List (Str×V)) ++ ([("held_counts",.ref ac)]:List (Str×V))))):=Chg.put (Chg.refl x H4);generalize upd H4 x (.ins (aP mg "Tally") dx (([("held_ends",.ref ae)]:List (Str×V)) ++ ([("held_counts",.ref ac)]:List (Str×V))))=H5 at hx5 C5 ⊢
 have hO5:TyO H5 t ae ac rs:=by
  refine ⟨?_,?_,hrs.1,fun k hk=>?_⟩
  ·exact C5 _ _ (nx hx4 (.inl (S4 _ _ f3))) (S4 _ _ f3)
  ·exact C5 _ _ (nx hx4 (.inl hac)) hac
  ·obtain ⟨b,e,hb⟩:=hrs.2 k hk
   exact ⟨b,e,C5 _ _ (nx hx4 (.inl hb)) hb⟩
 refine q H5 ?_ ⟨hP,dx,ae,ac,rs,hx5,hO5,fun z=>z.1 rfl,?_,?_,fun r hr z=>?_⟩
 ·intro b o nb e
  exact C5 b o nb (S4 _ _ (C3 b o nb (U2 _ _ e)))
 ·rintro ⟨ng,o,hg⟩
  rw [S1 _ _ hg] at nae;cases nae
 ·rintro ⟨ng,o,hg⟩
  rw [C3 _ o ng (U2 _ _ hg)] at nac;cases nac
 ·obtain ⟨ng,o,hg⟩:=z
  have:=hfr r hr;rw [C3 _ o ng (U2 _ _ hg)] at this;cases this
theorem tyM {ae ac:Addr} {m:Str} (h:(["held_ends","held_counts"]:List Str).contains m=false):(YM ae ac).lookup m=none:=by
 unfold YM;simp only [Aay,Abi] at h;obtain ⟨h1,h2,_⟩:=h;simp only [ZZ,h1,h2,List.lookup_nil]
def Nj (mg:Str->Option Value):Sp:=fun vs H Q _=>∃ (x:Addr) (t:List Nat) (b e:Nat),vs=[.ref x,.int b,.int e]/\Ty mg H x t/\b<=t.length/\e<=t.length/\Q (.int ((DG t b e:Nat):Int)) H
theorem xg:aD ["self","begin","end"] ["self","begin","end"] (az lD):=⟨rfl,rfl,rfl,by trivial,rfl,by trivial,by trivial⟩
theorem lH (T:Txt K mg):oF P w K mg base 4 "Tally" "below" ["self","begin","end"] (Nj mg):=by
 have bz:=@bz P w K mg base T;walk_at "@u6 3 T.m_Tally_below xg";obtain ⟨x,t,b,e,rfl,⟨hP,dx,ae,ac,rs,hx,hO⟩,hb,he,q⟩:=h;walk_at "=_;!4k{bz}BC=$.$_3!4k{bz}B&'=$.$_3%,//_30'";have cl:=T.o_Tally.cl;have na:=T.n_Tally;apply ⟨x,_,dx,_,_,rfl,hx,cl,na _ (by simp),rfl,?_⟩;apply iB (SqL.of hO.ends) ?_;rw [fU];walk_at "s";apply sY (by omega) (by omega) ?_;apply ⟨x,_,dx,_,_,rfl,hx,cl,na _ (by simp),rfl,?_⟩;apply iB (SqL.of hO.ends) ?_;rw [fU];walk_at "s";apply sY (by omega) (by omega) ?_;apply ⟨x,_,dx,_,_,rfl,hx,cl,na _ (by simp),rfl,?_⟩;obtain ⟨pb,epb,hpb⟩:=hO.rows.2 b (by omega);apply aU (SqL.of hO.cnts) (cG epb) ?_;apply aU (SqL.of hpb) (DK rfl he) ?_;exact q
theorem made {H1 H2:Hp} {x dx:Addr} {o o':HO} (nx:H1 x=none) (ndx:H1 dx=none) (c:Chg x (upd (upd H1 dx o) x o') H2):Same H1 H2:=fun b u e=>by
 have n1:b≠x:=fun z=>by rw [z,nx] at e;cases e
 have n2:b≠dx:=fun z=>by rw [z,ndx] at e;cases e
 exact c b u n1 (by rw [aC n1,aC n2];exact e)
theorem Io {H1:Hp} {x dx g:Addr} {o o' u:HO} (nx:H1 x=none) (ndx:H1 dx=none) (e:H1 g=some u):upd (upd H1 dx o) x o' g=some u/\g≠x:=by
 have n1:g≠x:=fun z=>by rw [z,nx] at e;cases e
 have n2:g≠dx:=fun z=>by rw [z,ndx] at e;cases e
 exact ⟨by rw [aC n1,aC n2];exact e,n1⟩
theorem gNe {H1:Hp} {x g:Addr} {u:HO} (nx:H1 x=none) (e:H1 g=some u):g≠x:=fun z=>by rw [z,nx] at e;cases e
def YQ (ty:Addr) (m f:Nat):List (Str×V):=[("held_tally",.ref ty),("held_many",.int (m:Int)),("held_far",.int (f:Int))]
theorem akM {ty:Addr} {m' f:Nat} {m:Str} (h:(["held_tally","held_many","held_far"]:List Str).contains m=false):(YQ ty m' f).lookup m=none:=by
 unfold YQ;simp only [Aay,Abi] at h;obtain ⟨h1,h2,h3,_⟩:=h;simp only [ZZ,h1,h2,h3,List.lookup_nil]
def Ak (mg:Str->Option Value) (H:Hp) (x:Addr) (t:List Nat) (m f:Nat):Prop:=m+f=t.length/\∃ dx ty,H x=some (.ins (aP mg "Asks") dx (YQ ty m f))/\Ty mg H ty t
theorem Ak.same {H H':Hp} {x:Addr} {t:List Nat} {m f:Nat} (h:Ak mg H x t m f) (s:Same H H'):Ak mg H' x t m f:=by
 obtain ⟨hl,dx,ty,hx,hT⟩:=h;exact ⟨hl,dx,ty,s _ _ hx,hT.same s⟩
def AkD (mg:Str->Option Value) (D:Addr->Prop) (H:Hp) (x:Addr) (t:List Nat) (m f:Nat):Prop:=m+f=t.length/\∃ dx ty,H x=some (.ins (aP mg "Asks") dx (YQ ty m f))/\TyD mg D H ty t/\¬ D x
theorem AkD.ak {H:Hp} {D:Addr->Prop} {x:Addr} {t:List Nat} {m f:Nat} (h:AkD mg D H x t m f):Ak mg H x t m f:=by
 obtain ⟨hl,dx,ty,hx,hT,_⟩:=h;exact ⟨hl,dx,ty,hx,hT.ty⟩
theorem AkD.sub {H:Hp} {D D':Addr->Prop} {x:Addr} {t:List Nat} {m f:Nat} (h:AkD mg D H x t m f) (s:∀ g,D' g->D g):AkD mg D' H x t m f:=by
 obtain ⟨hl,dx,ty,hx,hT,n⟩:=h;exact ⟨hl,dx,ty,hx,hT.sub s,fun z=>n (s _ z)⟩
theorem AkD.put {H:Hp} {D:Addr->Prop} {g x:Addr} {t:List Nat} {m f:Nat} {o:HO} (h:AkD mg D H x t m f) (hg:D g):AkD mg D (upd H g o) x t m f:=by
 obtain ⟨hl,dx,ty,hx,hT,n⟩:=h;exact ⟨hl,dx,ty,by rw [aC (Yk n hg)];exact hx,hT.put hg,n⟩
def Q8 (mg:Str->Option Value):Sp:=fun vs H Q _=>∃ (x dx a:Addr) (t:List Nat) (m f:Nat),vs=[.ref x,.ref a,.int m]/\H x=some (.ins (aP mg "Asks") dx [])/\Tn H a t/\Prm t/\m+f=t.length/\∀ H',Chg x H H'->AkD mg (fun g=>g≠x/\∃ o,H g=some o) H' x t m f->Q .non H'
theorem uC:aD ["self","lines","many"] ["self","lines","many"] (az jt):=⟨rfl,rfl,rfl,by trivial,rfl,by trivial,by trivial⟩
theorem jw (T:Txt K mg):oF P w K mg base 8 "Asks" "__init__" ["self","lines","many"] (Q8 mg):=by
 have jf:=@jf P w K mg base T;have bz:=@bz P w K mg base T;walk_at "@u6 3 T.m_Asks___init__ uC";obtain ⟨x,dx,a,t,m,f',rfl,hx,ha,hP,hmf,q⟩:=h;walk_at "=_;!U~R{T.o_Tally}{jf}B5!4k{bz}B&'=$.5!U'%US.5'";have hsz:20000<=sizeLine:=by decide
 have cl:=T.o_Asks.cl;have na:=T.n_Asks;intro ty dty nty ndty ne;have hat:Tn (upd (upd H dty (.own ty)) ty (.ins (aP mg "Tally") dty [])) a t:=ha.imp (fun h=>(Io nty ndty h).1) (fun h=>(Io nty ndty h).1);apply ⟨ty,dty,a,t,rfl,aj,hat,hP,fun H1 c1 hT1=>⟨rfl,?_⟩⟩;have S1:=made nty ndty c1
 replace hT1:=hT1.sub (D':=fun g=>∃ o,H g=some o) (fun g hg=>by
  obtain ⟨o,hg⟩:=hg;exact ⟨gNe nty hg,o,(Io nty ndty hg).1⟩)
 clear c1;have hx1:=S1 _ _ hx
 have ax:a≠x:=fun z=>by
  rcases ha with h | h <;> rw [z,hx] at h <;> cases h
 apply ⟨x,_,dx,_,rfl,hx1,cl,na _ (by simp),by simp,?_⟩;rw [cF (by show ([]:List Str).contains "held_tally"=false;trivial)];have hx2:=aj (H:=H1) (a:=x) (o:=.ins (aP mg "Asks") dx (([]:List (Str×V)) ++ ([("held_tally",.ref ty)]:List (Str×V))));have C2:Chg x H (upd H1 x (.ins (aP mg "Asks") dx (([]:List (Str×V)) ++ ([("held_tally",.ref ty)]:List (Str×V))))):=Chg.put (fun b o n e=>S1 _ _ e);have hT2:=hT1.put (g:=x) (o:=.ins (aP mg "Asks") dx (([]:List (Str×V)) ++ ([("held_tally",.ref ty)]:List (Str×V)))) ⟨_,hx⟩;generalize upd H1 x (.ins (aP mg "Asks") dx (([]:List (Str×V)) ++ ([("held_tally",.ref ty)]:List (Str×V))))=H2 at hx2 C2 hT2 ⊢;replace hx2:H2 x=some (.ins (aP mg "Asks") dx ([("held_tally",.ref ty)]:List (Str×V))):=hx2;have ha2:Tn H2 a t:=ha.imp (C2 _ _ ax) (C2 _ _ ax)
 have len:∀ (G:Hp) (R:V->Hp->Prop),Tn G a t->R (.int (t.length:Int)) G->GX K [.ref a] G R:=fun G R hG hR=>by
  rcases hG with h | h
  ·refine iB (SqL.of h) ?_
   rw [fU];exact hR
  ·refine tZ (SqT.of h) ?_
   rw [fU];exact hR
 walk_at "s";apply len _ _ ha2 ?_;apply sY (by omega) (by omega) ?_;apply ⟨x,_,dx,_,rfl,hx2,cl,na _ (by simp),by simp,?_⟩;rw [cF (by show (["held_tally"]:List Str).contains "held_many"=false;trivial)];have hx3:=aj (H:=H2) (a:=x) (o:=.ins (aP mg "Asks") dx (([("held_tally",.ref ty)]:List (Str×V)) ++ ([("held_many",.int (m:Int))]:List (Str×V))));have C3:Chg x H (upd H2 x (.ins (aP mg "Asks") dx (([("held_tally",.ref ty)]:List (Str×V)) ++ ([("held_many",.int (m:Int))]:List (Str×V))))):=Chg.put C2;have hT3:=hT2.put (g:=x) (o:=.ins (aP mg "Asks") dx (([("held_tally",.ref ty)]:List (Str×V)) ++ ([("held_many",.int (m:Int))]:List (Str×V)))) ⟨_,hx⟩;generalize upd H2 x (.ins (aP mg "Asks") dx (([("held_tally",.ref ty)]:List (Str×V)) ++ ([("held_many",.int (m:Int))]:List (Str×V))))=H3 at hx3 C3 hT3 ⊢;replace hx3:H3 x=some (.ins (aP mg "Asks") dx ([("held_tally",.ref ty),("held_many",.int (m:Int))]:List (Str×V))):=hx3;have ha3:Tn H3 a t:=ha.imp (C3 _ _ ax) (C3 _ _ ax);walk_at "s";apply len _ _ ha3 ?_;apply ⟨x,_,dx,_,rfl,hx3,cl,na _ (by simp),by simp,?_⟩;rw [cF (by show (["held_tally","held_many"]:List Str).contains "held_far"=false;trivial),show (t.length:Int) - (m:Int)=(f':Int) by omega];exact q _ (Chg.put C3) ⟨hmf,dx,ty,aj,(hT3.put ⟨_,hx⟩).sub (fun g hg=>hg.2),fun z=>z.1 rfl⟩
def rk (t:List Nat) (m a b c d:Nat):Int:=(d:Int) - (c:Int) - ((DG t (m - a+c) (m - b+d):Nat):Int)
def VR (mg:Str->Option Value):Sp:=fun vs H Q _=>∃ (x:Addr) (t:List Nat) (m f a b c d:Nat),vs=[.ref x,.int a,.int b,.int c,.int d]/\Ak mg H x t m f/\a<=m/\b<=m/\c<=f/\d<=f/\Q (.int (rk t m a b c d)) H
theorem mU:aD ["self","first","last","begin","end","many"] ["self","first","last","begin","end"] (az ju):=⟨rfl,rfl,rfl,by trivial,rfl,by trivial,by trivial⟩
theorem jx (T:Txt K mg):oF P w K mg base 5 "Asks" "reckoned" ["self","first","last","begin","end"] (VR mg):=by
 have lH:=@lH P w K mg base T;walk_at "@u6 5 T.m_Asks_reckoned mU";obtain ⟨x,t,m,f',a,b,c,d,rfl,⟨hl,dx,ty,hx,hT⟩,h1,h2,h3,h4,q⟩:=h;walk_at "=mU;!)#5^_3%,SS+*~+_3{T.o_Tally}{lH}B&?S-0*$?S-'+";have cl:=T.o_Asks.cl;have na:=T.n_Asks;apply ⟨x,_,dx,_,_,rfl,hx,cl,na _ (by simp),rfl,?_⟩;apply ⟨x,_,dx,_,_,rfl,hx,cl,na _ (by simp),rfl,?_⟩;have hT':=hT;obtain ⟨_,dt,ae,ac,rs,ht,_⟩:=hT';apply ⟨ty,dt,_,rfl,ht,tyM (by trivial),?_⟩;rw [show (m:Int) - (a:Int)+(c:Int)=((m - a+c:Nat):Int) by omega,show (m:Int) - (b:Int)+(d:Int)=((m - b+d:Nat):Int) by omega];apply ⟨ty,t,m - a+c,m - b+d,rfl,hT,by omega,by omega,?_⟩;exact q
def VV (mg:Str->Option Value):Sp:=fun vs H Q _=>∃ (x:Addr) (t:List Nat) (m f c d:Nat),vs=[.ref x,.int c,.int d]/\Ak mg H x t m f/\c<=f/\d<=f/\Q (.int (rk t m 0 m c d)) H
theorem lJ:aD ["self","begin","end"] ["self","begin","end"] (az d7):=⟨rfl,rfl,rfl,by trivial,rfl,by trivial,by trivial⟩
theorem d9 (T:Txt K mg):oF P w K mg base 6 "Asks" "reckoned_stretch" ["self","begin","end"] (VV mg):=by
 have jx:=@jx P w K mg base T;walk_at "@u6 3 T.m_Asks_reckoned_stretch lJ";obtain ⟨x,t,m,f',c,d,rfl,hA,h3,h4,q⟩:=h;walk_at "=_;%,~+3{T.o_Asks}{jx}B=&_3CE";have cl:=T.o_Asks.cl;have na:=T.n_Asks;obtain ⟨hl,dx,ty,hx,hT⟩:=id hA;apply ⟨x,dx,_,rfl,hx,akM (by trivial),?_⟩;apply ⟨x,_,dx,_,_,rfl,hx,cl,na _ (by simp),rfl,?_⟩;apply ⟨x,t,m,f',0,m,c,d,rfl,hA,by omega,by omega,h3,h4,?_⟩;exact q
def Ip (mg:Str->Option Value):Sp:=fun vs H Q _=>∃ (x:Addr) (t:List Nat) (m f c d:Nat),vs=[.ref x,.int c,.int d]/\Ak mg H x t m f/\c<=d/\d<=f/\Q (.int (rk t m 0 m c d)) H
theorem vg:aD ["self","begin","end"] ["self","begin","end"] (az jW):=⟨rfl,rfl,rfl,by trivial,rfl,by trivial,by trivial⟩
theorem jZ (T:Txt K mg):oF P w K mg base 7 "Asks" "stretch" ["self","begin","end"] (Ip mg):=by
 have pJ:=@pJ P w K mg base T;have d9:=@d9 P w K mg base T;walk_at "@u6 3 T.m_Asks_stretch vg";obtain ⟨x,t,m,f',c,d,rfl,hA,h3,h4,q⟩:=h;walk_at "=_;!4({pJ}C&'$_3%,~+3{T.o_Asks}{d9}BCE";have cl:=T.o_Asks.cl;have na:=T.n_Asks;obtain ⟨hl,dx,ty,hx,hT⟩:=id hA;apply ⟨x,_,dx,_,_,rfl,hx,cl,na _ (by simp),rfl,?_⟩;apply ⟨_,_,_,rfl,by omega,by omega,by omega,?_⟩;apply ⟨x,dx,_,rfl,hx,akM (by trivial),?_⟩;apply ⟨x,t,m,f',c,d,rfl,hA,by omega,h4,?_⟩;exact q
def Rule (m far:Nat) (e:Nat->Nat->Bool) (C:Nat->Nat->Bool):Prop:=∀ i j,i < m->j < far->C i j=(e i j || decide (gD m C j i < gA m C i j))
theorem tD {m:Nat} {C:Nat->Nat->Bool}:∀ n i j,i+j<=n->(i<=m->gD m C j i<=m+j)/\(i < m->gA m C i j < m+j)
 | n,0,0,_=>by rw [nJ,jH];omega
 | 0,0,j+1,h=>absurd h (by omega)
 | 0,i+1,j,h=>absurd h (by omega)
 | n+1,0,j+1,h=>by
  have h1:=tD (m:=m) (C:=C) n 0 j (by omega);refine ⟨fun _=>by rw [nJ];omega,fun hi=>?_⟩;rw [kO];have a:=h1.1 (by omega);have b:=h1.2 hi
  split <;> omega
 | n+1,i+1,0,h=>by
  have h1:=tD (m:=m) (C:=C) n i 0 (by omega);refine ⟨fun hi=>?_,fun hi=>by rw [jH];omega⟩;rw [jJ];have a:=h1.1 (by omega);have b:=h1.2 (by omega)
  split <;> omega
 | n+1,i+1,j+1,h=>by
  have h1:=tD (m:=m) (C:=C) n (i+1) j (by omega);have h2:=tD (m:=m) (C:=C) n i (j+1) (by omega);refine ⟨fun hi=>?_,fun hi=>?_⟩
  ·rw [jJ]
   have a:=h2.1 (by omega);have b:=h2.2 (by omega)
   split <;> omega
  ·rw [kO]
   have a:=h1.1 (by omega);have b:=h1.2 hi
   split <;> omega
def cn (m:Nat) (C:Nat->Nat->Bool) (i B:Nat):Nat->Nat
 | 0=>0
 | e+1=>cn m C i B e+(if B<=gD m C e i then 1 else 0)
theorem FJ {m:Nat} {C:Nat->Nat->Bool} {i B:Nat} (hB:m<=B) (hi:i < m):∀ e,cn m C (i+1) B e+(if B<=gA m C i e then 1 else 0)=cn m C i B e
 | 0=>by
  show 0+_=0;rw [jH,if_neg (by omega)]
 | e+1=>by
  have ih:=FJ (C:=C) hB hi e;show cn m C (i+1) B e+(if B<=gD m C e (i+1) then 1 else 0)+(if B<=gA m C i (e+1) then 1 else 0)=cn m C i B e+(if B<=gD m C e i then 1 else 0);rw [jJ,kO];by_cases hC:C i e=true
  ·rw [if_pos hC,if_pos hC];omega
  ·rw [if_neg hC,if_neg hC];omega
theorem zA {m:Nat} {C:Nat->Nat->Bool} {i b:Nat} (hi:i<=m):∀ e,e<=b->cn m C i (m+b) e=0
 | 0,_=>rfl
 | e+1,h=>by
  show cn m C i (m+b) e+_=0;have:=(tD (m:=m) (C:=C) (i+e) i e (Y4 _)).1 hi;rw [zA hi e (by omega),if_neg (by omega)]
theorem BK {m:Nat} {C:Nat->Nat->Bool} {B:Nat} (b:Nat) (hB:B=m+b):∀ k,cn m C 0 B (b+k)=k
 | 0=>by rw [hB];exact zA (by omega) b (Y4 _)
 | k+1=>by
  show cn m C 0 B (b+k)+(if B<=gD m C (b+k) 0 then 1 else 0)=k+1;rw [BK b hB k,nJ,if_pos (by omega)]
def Q9 (i j:Int):Int:=if j > i then j else i
def tb (e:Nat->Nat->Bool) (b:Nat):Nat->Nat->Int
 | 0,_=>0
 | _+1,0=>0
 | i+1,k+1=>if e i (b+k)=true then tb e b i k+1 else Q9 (tb e b (i+1) k) (tb e b i (k+1))
termination_by i k=>i+k
theorem Ir (e:Nat->Nat->Bool) (b k:Nat):tb e b 0 k=0:=by rw [tb]
theorem Nk (e:Nat->Nat->Bool) (b i:Nat):tb e b i 0=0:=by cases i <;> rw [tb]
theorem DN (e:Nat->Nat->Bool) (b i k:Nat):tb e b (i+1) (k+1)=if e i (b+k)=true then tb e b i k+1 else Q9 (tb e b (i+1) k) (tb e b i (k+1)):=by rw [tb]
theorem tE {m far:Nat} {e C:Nat->Nat->Bool} (h:Rule m far e C) (b:Nat):∀ i,i<=m->∀ k,b+k<=far->tb e b i k+(cn m C i (m+b) (b+k):Nat)=k
 | 0,_,k,_=>by rw [Ir,BK b rfl];omega
 | i+1,hi,0,_=>by
  rw [Nk,zA hi _ (by omega)];rfl
 | i+1,hi,k+1,hk=>by
  have h1:=tE h b i (by omega) k (by omega);have h2:=tE h b i (by omega) (k+1) hk;have h3:=tE h b (i+1) hi k (by omega);have r:=h i (b+k) (by omega) (by omega);have kp:=FJ (m:=m) (C:=C) (i:=i) (B:=m+b) (by omega) (by omega) (b+k);rw [DN];have e2:cn m C i (m+b) (b+(k+1))=cn m C i (m+b) (b+k)+(if m+b<=gD m C (b+k) i then 1 else 0):=rfl;have e3:cn m C (i+1) (m+b) (b+(k+1))=cn m C (i+1) (m+b) (b+k)+(if m+b<=gD m C (b+k) (i+1) then 1 else 0):=rfl;rw [e2] at h2;rw [e3,jJ];by_cases he:e i (b+k)=true
  ·rw [he,Bool.true_or] at r
   rw [if_pos he,if_pos r];omega
  ·have he':e i (b+k)=false:=by simpa using he
   rw [he',Bool.false_or] at r;rw [if_neg he];by_cases hg:gD m C (b+k) i < gA m C i (b+k)
   ·have hC:C i (b+k)=true:=by rw [r];exact Zc hg
    rw [if_pos hC];unfold Q9;by_cases c1:m+b<=gA m C i (b+k)
    ·rw [if_pos c1] at kp ⊢
     by_cases c2:m+b<=gD m C (b+k) i
     ·rw [if_pos c2] at h2
      split <;> omega
     ·rw [if_neg c2] at h2
      split <;> omega
    ·rw [if_neg c1] at kp ⊢
     rw [if_neg (by omega)] at h2
     split <;> omega
   ·have hC:¬ C i (b+k)=true:=by rw [r,Zd hg];decide
    rw [if_neg hC];unfold Q9;by_cases c2:m+b<=gD m C (b+k) i
    ·rw [if_pos c2] at h2 ⊢
     by_cases c1:m+b<=gA m C i (b+k)
     ·rw [if_pos c1] at kp
      split <;> omega
     ·rw [if_neg c1] at kp
      split <;> omega
    ·rw [if_neg c2] at h2 ⊢
     rw [if_neg (by omega)] at kp
     split <;> omega
theorem BL {m:Nat} {C:Nat->Nat->Bool} {i B:Nat} (hB:m<=B+i) (hi:i < m):∀ e,cn m C (i+1) B e+(if B<=gA m C i e then 1 else 0)=cn m C i B e
 | 0=>by
  show 0+_=0;rw [jH,if_neg (by omega)]
 | e+1=>by
  have ih:=BL (C:=C) hB hi e;show cn m C (i+1) B e+(if B<=gD m C e (i+1) then 1 else 0)+(if B<=gA m C i (e+1) then 1 else 0)=cn m C i B e+(if B<=gD m C e i then 1 else 0);rw [jJ,kO];by_cases hC:C i e=true
  ·rw [if_pos hC,if_pos hC];omega
  ·rw [if_neg hC,if_neg hC];omega
def BX (m far:Nat) (C:Nat->Nat->Bool) (p:Nat):Nat:=if p < far then gD m C p m else gA m C (m+far - 1 - p) far
theorem Nm {m far:Nat} {C:Nat->Nat->Bool} {R:List Int} (hR:qY m C far R) {p:Nat} (hp:p < m+far):R[BX m far C p]?=some (p:Int):=by
 obtain ⟨h1,h2,h3⟩:=hR;unfold BX;by_cases h:p < far
 ·rw [if_pos h];exact h2 p h
 ·rw [if_neg h,h3 _ (by omega)]
  congr 1
  omega
theorem Iu {m:Nat} {C:Nat->Nat->Bool} {far l:Nat} (h:l < m+far):∃ p,p < m+far/\BX m far C p=l:=by
 have:=(uw (m:=m) (C:=C) far).mem_iff.mpr (ZS.mpr h);rcases Zh.mp this with h | h
 ·obtain ⟨i,hi,e⟩:=Z0.mp h
  have hi:=ZS.mp hi;refine ⟨m+far - 1 - i,by omega,?_⟩;unfold BX;rw [if_neg (by omega),show m+far - 1 - (m+far - 1 - i)=i by omega];exact e
 ·obtain ⟨i,hi,e⟩:=Z0.mp h
  have hi:=ZS.mp hi;refine ⟨i,by omega,?_⟩;unfold BX;rw [if_pos hi];exact e
theorem V0 {m far:Nat} {C:Nat->Nat->Bool} {R:List Int} (hR:qY m C far R):R.Perm ((List.range (m+far)).map fun k=>((k:Nat):Int)):=by
 have hnd:((List.range (m+far)).map fun k=>((k:Nat):Int)).Nodup:=by
  rw [List.nodup_iff_pairwise_ne,Aa1];exact List.nodup_range.imp fun h e=>h (by omega)
 have at_:∀ l,l < m+far->∃ p,p < m+far/\BX m far C p=l/\R[l]?=some (p:Int):=fun l hl=>by
  obtain ⟨p,hp,e⟩:=Iu (m:=m) (C:=C) (far:=far) hl;exact ⟨p,hp,e,by rw [← e];exact Nm hR hp⟩
 have hRn:R.Nodup:=by
  rw [List.nodup_iff_pairwise_ne,Aar];intro i j hi hj hij e;rw [hR.1] at hi hj;obtain ⟨p,_,e1,e2⟩:=at_ i hi;obtain ⟨p',_,e3,e4⟩:=at_ j hj;rw [YX (by rw [hR.1];exact hi)] at e2;rw [YX (by rw [hR.1];exact hj)] at e4;rw [e,Zm e4] at e2;have:p'=p:=by have:=Zm e2;omega
  rw [this,e1] at e3;omega
 refine (List.perm_ext_iff_of_nodup hRn hnd).mpr fun x=>⟨fun hx=>?_,fun hx=>?_⟩
 ·obtain ⟨l,hl,e⟩:=ZQ.mp hx
  rw [hR.1] at hl;obtain ⟨p,hp,_,e2⟩:=at_ l hl;rw [YX (by rw [hR.1];exact hl),e] at e2;rw [Zm e2];exact Z0.mpr ⟨p,ZS.mpr hp,rfl⟩
 ·obtain ⟨p,hp,rfl⟩:=Z0.mp hx
  exact Zj (Nm hR (ZS.mp hp))
theorem Ra (z y:Str):Rule (mS z) (mS y) (fun i j=>decide (z.cps.getD i 0=y.cps.getD j 0)) (CB z y):=fun i j hi hj=>QT (side:=z) (top:=y) hi hj
theorem V1 {m far:Nat} {C:Nat->Nat->Bool} {R:List Int} (hR:qY m C far R) (hle:m+far<=96):∃ t:List Nat,R=nI t/\Prm t/\t.length=m+far/\∀ p,p < m+far->t[BX m far C p]?=some p:=by
 have hp:=V0 hR
 have hpos:∀ x∈R,0<=x:=fun x hx=>by
  obtain ⟨k,_,rfl⟩:=Z0.mp (hp.mem_iff.mp hx);omega
 have e:R=nI (R.map Int.toNat):=by
  unfold nI;rw [Aap];refine (AbI R).symm.trans (Aan fun x hx=>?_);have:=hpos x hx;show x=((x.toNat:Nat):Int);omega
 have hl:(R.map Int.toNat).length=m+far:=by rw [Y6,hR.1]
 refine ⟨R.map Int.toNat,e,⟨by omega,?_⟩,hl,fun p hp2=>?_⟩
 ·rw [hl]
  have:=hp.map Int.toNat;rw [Aap] at this;refine this.trans (List.Perm.of_eq ?_);refine (Aan fun k _=>?_).trans (AbI _);show ((k:Nat):Int).toNat=k;omega
 ·rw [Y9,Nm hR hp2];rfl
def cm (m far:Nat) (C:Nat->Nat->Bool) (B:Nat):Nat->Nat
 | 0=>0
 | p+1=>cm m far C B p+(if B<=BX m far C p then 1 else 0)
theorem zB {m far:Nat} {C:Nat->Nat->Bool} {B:Nat}:∀ q,q<=far->cm m far C B q=cn m C m B q
 | 0,_=>rfl
 | q+1,h=>by
  show cm m far C B q+_=cn m C m B q+_;rw [zB q (by omega)];unfold BX;rw [if_pos (show q < far by omega)]
theorem FN {m far:Nat} {C:Nat->Nat->Bool} {B:Nat}:∀ s,s<=m->m<=B+(m - s)->cm m far C B (far+s)=cn m C (m - s) B far
 | 0,_,_=>zB far (Y4 _)
 | s+1,h,hB=>by
  have ea:BX m far C (far+s)=gA m C (m - (s+1)) far:=by
   unfold BX;rw [if_neg (by omega),show m+far - 1 - (far+s)=m - (s+1) by omega]
  show cm m far C B (far+s)+(if B<=BX m far C (far+s) then 1 else 0)=_;have kp:=BL (m:=m) (C:=C) (i:=m - (s+1)) (B:=B) hB (by omega) far;rw [show m - (s+1)+1=m - s by omega] at kp;rw [ea,FN s (by omega) (by omega)];exact kp
theorem DP {t:List Nat} (hn:t.Nodup) {l q B:Nat} (h:t[l]?=some q):(t.drop B).count q=if B<=l then 1 else 0:=by
 have hd:(t.drop B).Nodup:=hn.sublist (AaZ B t);by_cases hB:B<=l
 ·rw [if_pos hB]
  have hm:q∈t.drop B:=Zj (i:=l - B) (by rw [AaU,show B+(l - B)=l by omega];exact h);have h1:=List.nodup_iff_count.mp hd q;have h2:=List.count_pos_iff.mpr hm;omega
 ·rw [if_neg hB]
  refine List.count_eq_zero.mpr fun hm=>?_
  obtain ⟨i,hi⟩:=List.getElem?_of_mem hm;rw [AaU] at hi;have e1:=Mv hn h;have e2:=Mv hn hi;omega
theorem xN (u:List Nat) (q:Nat):u.countP (fun x=>decide (x < q+1))=u.countP (fun x=>decide (x < q))+u.count q:=by
 induction u with
 | nil=>rfl
 | cons x u ih=>
  rw [AbN,AbN,List.count_cons,ih];by_cases h1:x < q
  ·have:x < q+1:=by omega
   have:¬ x=q:=by omega
   simp [*];omega
  ·by_cases h2:x=q
   ·subst h2
    simp;omega
   ·have:¬ x < q+1:=by omega
    simp [*]
theorem Np {m far:Nat} {C:Nat->Nat->Bool} {t:List Nat} (hn:t.Nodup) (ht:∀ p,p < m+far->t[BX m far C p]?=some p) (B:Nat):∀ q,q<=m+far->DG t B q=cm m far C B q
 | 0,_=>by unfold DG cm;simp
 | q+1,h=>by
  have ih:=Np hn ht B q (by omega);unfold DG at ih ⊢;rw [xN,ih,DP hn (ht q (by omega))];rfl
theorem V2 {m far:Nat} {e C:Nat->Nat->Bool} (h:Rule m far e C) {t:List Nat} (hn:t.Nodup) (ht:∀ p,p < m+far->t[BX m far C p]?=some p) {b c d:Nat} (hb:b<=m) (hc:c<=d) (hd:d<=far) (hw:b=m\/d=far):rk t m 0 b c d=tb e c b (d - c):=by
 unfold rk;have h1:=tE h c b hb (d - c) (by omega);rw [show c+(d - c)=d by omega] at h1;rw [AbL,Np hn ht _ _ (by omega)]
 have h2:cm m far C (m+c) (m - b+d)=cn m C b (m+c) d:=by
  rcases hw with rfl | rfl
  ·rw [AaO,Aa5];exact zB d hd
  ·rw [show m - b+d=d+(m - b) by omega,FN (m - b) (by omega) (by omega),show m - (m - b)=b by omega]
 rw [h2];omega
def AkB (mg:Str->Option Value) (H:Hp) (x:Addr) (z y:Str):Prop:=∃ t,Ak mg H x t (mS z) (mS y)/\Prm t/\t.length=mS z+mS y/\∀ p,p < mS z+mS y->t[BX (mS z) (mS y) (CB z y) p]?=some p
theorem AkB.same {H H':Hp} {x:Addr} {z y:Str} (h:AkB mg H x z y) (s:Same H H'):AkB mg H' x z y:=by
 obtain ⟨t,h1,h2⟩:=h;exact ⟨t,h1.same s,h2⟩
def AkBD (mg:Str->Option Value) (D:Addr->Prop) (H:Hp) (x:Addr) (z y:Str):Prop:=∃ t,AkD mg D H x t (mS z) (mS y)/\Prm t/\t.length=mS z+mS y/\∀ p,p < mS z+mS y->t[BX (mS z) (mS y) (CB z y) p]?=some p
theorem AkBD.put {H:Hp} {D:Addr->Prop} {g x:Addr} {z y:Str} {o:HO} (h:AkBD mg D H x z y) (hg:D g):AkBD mg D (upd H g o) x z y:=by
 obtain ⟨t,a,b⟩:=h;exact ⟨t,a.put hg,b⟩
theorem AkBD.ak {H:Hp} {D:Addr->Prop} {x:Addr} {z y:Str} (h:AkBD mg D H x z y):AkB mg H x z y:=by
 obtain ⟨t,a,b⟩:=h;exact ⟨t,a.ak,b⟩
def Nq (mg:Str->Option Value):Sp:=fun vs H Q _=>∃ (z y:Str),vs=[.str z,.str y]/\wY z/\wY y/\∀ x H',Same H H'->AkBD mg (fun g=>∃ o,H g=some o) H' x z y->Q (.ref x) H'
theorem DQ:aD ["side","top"] ["side","top"] (az uq):=⟨rfl,rfl,rfl,by trivial,rfl,by trivial,by trivial⟩
theorem uD (T:Txt K mg):lN P w K mg base 10 "asks_of" ["side","top"] (Nq mg):=by
 have jw:=@jw P w K mg base T;have lF:=@lF P w K mg base T;have je:=@je P w K mg base T;walk_at "@fB 2 T.d_asks_of DQ";obtain ⟨z,y,rfl,rz,ry,q⟩:=h;walk_at "=_;%,~S{T.o_Asks}{jw}Bl&~T~S{T.o_Board}{je}Bl65{T.o_Board}{lF}Bl$.9";have hsz:20000<=sizeLine:=by decide
 have hzl:=rz.1;have hyl:=ry.1;have ez:z.length=mS z:=rfl;have ey:y.length=mS y:=rfl;have lz:z.length<=sizeLine:=by omega
 rintro b0 db0 nx nd _;refine ⟨b0,db0,z,y,rfl,aj,rz,ry,fun H1 C B0=>⟨rfl,?_⟩⟩;have S1:=made nx nd C;obtain ⟨_,_,e0,_,_,_,_,hb0,hO⟩:=id B0;clear C nx nd hO;walk_at "s";apply ⟨b0,e0,_,rfl,hb0,bdM (by trivial),?_⟩;apply ⟨b0,z,y,rfl,B0,fun pl R H2 _ S2 hE hpl=>?_⟩;obtain ⟨t,rfl,hP,hl,ht⟩:=V1 hE (by omega);apply cQ lz ?_;rintro x dx nx nd _;apply ⟨x,dx,pl,t,mS z,mS y,rfl,aj,.inl (Io nx nd hpl).1,hP,hl.symm,fun H3 C3 A3=>⟨rfl,?_⟩⟩
 exact q x _ (S1.trans (S2.trans (made nx nd C3))) ⟨t,A3.sub (fun g hg=>by
  obtain ⟨o,hg⟩:=hg;have hg2:=(S1.trans S2) _ _ hg;exact ⟨gNe nx hg2,o,(Io nx nd hg2).1⟩),hP,hl,ht⟩
theorem xO:(["sign"]:List Str).Nodup:=by trivial
theorem BP:(["letter"]:List Str).Nodup:=by trivial
theorem vh:Yb mL "self":=by trivial
theorem uE:Yb mL "found":=by trivial
def Pln (z:Str):Prop:=z.length<=24/\∀ c∈z.cps.toList,97<=c/\c < 123
theorem Rb:∀ k∈List.range 26,qZ oG (97+k)=false/\qZ LP (97+k)=false:=by trivial
theorem Pln.ok {z:Str} (h:Pln z) {c:Nat} (hc:c∈z.cps.toList):qZ oG c=false/\qZ LP c=false:=by
 have:=h.2 c hc;have k:=Rb (c - 97) (ZS.mpr (by omega));rw [show 97+(c - 97)=c by omega] at k;exact k
theorem BR:aD ["self","found"] ["self","found"] (az mL):=⟨rfl,rfl,rfl,by trivial,rfl,by trivial,by trivial⟩
theorem DW (T:Txt K mg):Wl P w K mg base 1 "NoPlain" (aP mg "NoPlain") ["found"]:=mkX T.x_NoPlain BR (fun _ _ _ _ _ _ us hl=>L2.lO (fun _ _=>rfl) us hl) rfl fun f cdv A outer s H vs Q E hr h=>⟨_,(aA (EY (K:=K) rfl (KC 0 vh) (KC 1 uE))),rd1 T.x_NoPlain.c.cl.cls (T.x_NoPlain.na _ (by simp)) h⟩
theorem Pln.th {z:Str} (h:Pln z) {H:Hp}:Thing K H (.str z):=.inl ⟨z,rfl,by have:=h.1;omega⟩
def oH (v:V):Bool:=mQ v oG 24
theorem Pln.pl {z:Str} (h:Pln z):oH (.str z)=true:=by
 unfold oH mQ;dsimp only;rw [Zc (by have:=h.1;omega),Bool.true_and];unfold among;rw [AaC];intro c hc;have:=(h.ok hc).1;unfold qZ at this;rw [this];rfl
def V3 (K:W.Frag):Sp:=fun vs H Q _=>∃ v:V,vs=[v]/\Thing K H v/\∀ H',Same H H'->Q (.bl (oH v)) H'
theorem BV:aD ["thing"] ["thing"] (az ni):=⟨rfl,rfl,rfl,by trivial,rfl,by trivial,by trivial⟩
theorem rm (T:Txt K mg):lN P w K mg base 1 "is_plain" ["thing"] (V3 K):=by
 walk_at "@fB 1 T.d_is_plain BV";obtain ⟨v,rfl,hT,q⟩:=h;walk_at "=_;!GMPA:Y6$~G{T.b_str}Zs.9m{T.c_MOST_LETTERS}%,~4~5{T.b_all}$e<.>L[thing]~x[sign]Q3H#0{xO}n~NF~%{T.c_LETTERS}";rcases hT with ⟨z,rfl,hz⟩ | ⟨ty,hty,hk⟩
 ·have hz1:z.length<=sizeLine:=ZP hz (by decide)
  apply iQ (.str z) rfl ?_;apply cQ hz1 ?_;refine qm (fun h1=>?_) (fun h1=>?_)
  ·walk_at "s"
   have:oH (.str z)=false:=by
    unfold oH mQ;dsimp only;rw [Zd (by omega)];rfl
   have q':=q H (Same.refl H);rw [this] at q';exact q'
  ·walk_at "s"
   refine .inr (.inr ⟨z,rfl,?_⟩);refine yr (fun i us G=>G=H/\us=((z.cps.toList.take i).map fun c=>!qZ oG c).map V.bl) hz1 ⟨rfl,rfl⟩ ?_ ?_ ?_
   ·rintro i us G ⟨rfl,rfl⟩
    simp;omega
   ·rintro i us G c hc ⟨rfl,rfl⟩
    walk_at "s";apply ⟨KeepSt.set rfl,?_⟩;refine ⟨rfl,?_⟩;rw [Z9,hc];simp [oG,qZ]
   ·rintro us G D H' ⟨rfl,rfl⟩ nD S hD
    try walk_at "s"
    refine ⟨D,_,rfl,hD,?_⟩;have e1:z.cps.toList.take z.cps.size=z.cps.toList:=ZC (by simp)
    have e2:oH (.str z)=(List.map (fun c=>!qZ oG c) (z.cps.toList.take z.cps.size)).all id:=by
     unfold oH mQ;dsimp only;rw [Zc (by omega),Bool.true_and,e1,List.all_map];rfl
    have q':=q _ S;rw [e2] at q';exact q'
 ·apply iQ hty hk ?_
  have q':=q H (Same.refl H);rw [show oH v=false from Mx hty hk] at q';exact q'
def Oe (mg:Str->Option Value) (C:Str) (H:Hp) (E:XK) (v:V):Prop:=∀ e H',Same H H'->Od H' e (aP mg C) [("found",v)]->E (.ref (aP mg C)) (some e) H'
def PT (K:W.Frag) (H:Hp) (v:V):Prop:=Thing K H v/\(oH v=true->∃ z,v= .str z/\Pln z)
theorem PT.same {H H':Hp} {v:V} (h:PT K H v) (s:Same H H'):PT K H' v:=⟨h.1.same s,h.2⟩
theorem Pln.pt {z:Str} (h:Pln z) {H:Hp}:PT K H (.str z):=⟨h.th,fun _=>⟨z,rfl,h⟩⟩
def V4 (K:W.Frag) (mg:Str->Option Value):Sp:=fun vs H Q E=>∃ v:V,vs=[v]/\Thing K H v/\(oH v=true->∀ H',Same H H'->Q .non H')/\(oH v=false->Oe mg "NoPlain" H E v)
theorem xP:aD ["thing"] ["thing"] (az nj):=⟨rfl,rfl,rfl,by trivial,rfl,by trivial,by trivial⟩
theorem nQ (T:Txt K mg):Am P w K mg base 3 "need_plain" ["thing"] (V4 K mg):=by
 have rm:=@rm P w K mg base T;walk_at "@Aq 1 T.d_need_plain xP";obtain ⟨v,rfl,hT,q1,q2⟩:=h;walk_at "=_;%TA:({rm}9%~L~M{DW}{T}B9";apply ⟨v,rfl,hT,fun H1 S1=>?_⟩;cases hb:oH v with
 | true=>
  walk_at "s";exact q1 hb H1 S1
 | false=>
  walk_at "s";exact ⟨rfl,(show 1<=sizeLine by decide),fun x H2 S2 X2=>q2 hb x H2 (S1.trans S2) X2⟩
def uW (z:Str):Str:=⟨(z.cps.toList.flatMap fun c=>[46,c]).toArray⟩
theorem vJ (z:Str):(uW z).cps.toList=z.cps.toList.flatMap fun c=>[46,c]:=by unfold uW;simp
theorem V5 (l:List Nat):(l.flatMap fun c=>[46,c]).length=2*l.length:=by
 induction l with
 | nil=>rfl
 | cons c l ih=>rw [List.flatMap_cons,Zv,ih];simp;omega
theorem Yl (l:List Nat) (k:Nat):(l.flatMap fun c=>[46,c]).getD (2*k) 0=(if k < l.length then 46 else 0)/\(l.flatMap fun c=>[46,c]).getD (2*k+1) 0=l.getD k 0:=by
 induction l generalizing k with
 | nil=>simp
 | cons c l ih=>
  cases k with
  | zero=>simp
  | succ k=>
   have:=ih k;rw [List.flatMap_cons,show 2*(k+1)=2*k+1+1 by omega];simpa using this
theorem xj (z:Str):(uW z).cps.size=2*z.cps.size:=by
 rw [← ZG,vJ,V5,ZG]
theorem FP {z:Str} (h:Pln z):wY (uW z):=by
 have hl:(uW z).length=2*z.cps.size:=xj z;have h1:z.cps.size<=24:=h.1;refine ⟨by omega,?_⟩;show (decide (((uW z).length:Int)<=48) && (uW z).cps.toList.all fun c=>!qZ LP c)=true;rw [Zc (by omega),Bool.true_and,AaC];intro c hc;rw [vJ] at hc;obtain ⟨d,hd,hc⟩:=List.mem_flatMap.mp hc;simp only [Zb,ZL,or_false] at hc;rcases hc with rfl | rfl
 ·decide+kernel
 ·rw [(h.ok hd).2];rfl
theorem pK (a b:Str):(a ++ b).length=a.length+b.length:=by
 show (a.cps ++ b.cps).size=_;simp [Str.length]
def Nr (K:W.Frag) (mg:Str->Option Value):Sp:=fun vs H Q E=>∃ v:V,vs=[v]/\PT K H v/\(oH v=false->Oe mg "NoPlain" H E v)/\(∀ z,v= .str z->Pln z->∀ H',Same H H'->Q (.str (uW z)) H')
theorem Nt:∀ (l:List Nat),(Txt.join (Str.ofString "") (l.map fun c=>Str.ofString "." ++ ⟨#[c]⟩)).cps.toList=l.flatMap fun c=>[46,c]:=by
 intro l;rw [Ag,Aap]
 induction l with
 | nil=>rfl
 | cons c l ih=>rw [Z3,AaL,ih];rfl
theorem Rc (l:List Nat):((l.map fun c=>Str.ofString "." ++ ⟨#[c]⟩).map (·.length)).sum=2*l.length:=by
 induction l with
 | nil=>rfl
 | cons c l ih=>
  have e:(Str.ofString "." ++ ⟨#[c]⟩:Str).length=2:=by rw [pK,PB,show (Str.ofString ".").length=1 by trivial]
  rw [Z3,Z3,List.sum_cons,ih,e,Aag];omega
theorem Iv:aD ["row"] ["row"] (az sW):=⟨rfl,rfl,rfl,by trivial,rfl,by trivial,by trivial⟩
theorem tG (T:Txt K mg):Am P w K mg base 4 "parted" ["row"] (Nr K mg):=by
 have nQ:=@nQ P w K mg base T;walk_at "@Aq 1 T.d_parted Iv";obtain ⟨v,rfl,⟨tv,pv⟩,q1,q⟩:=h;walk_at "=_;!4k{nQ}B9%,~H$e<.>L[row]~y[letter]Q3H#0{BP}?~%{T.c_POINT}F";have hs:20000<=sizeLine:=by decide
 apply ⟨v,rfl,tv,fun hv H1 S1=>?_,fun hv=>q1 hv⟩;obtain ⟨z,rfl,hp⟩:=pv hv;replace q:=q z rfl hp;have hl:=hp.1;have el:z.length=z.cps.size:=rfl;walk_at "s";apply ⟨rfl,?_⟩;refine .inr (.inr ⟨z,rfl,?_⟩);refine yr (fun i us G=>G=H1/\us=((z.cps.toList.take i).map fun c=>Str.ofString "." ++ ⟨#[c]⟩).map V.str) (by omega) ⟨rfl,rfl⟩ ?_ ?_ ?_
 ·rintro i us G ⟨rfl,rfl⟩
  simp;omega
 ·rintro i us G c hc ⟨rfl,rfl⟩
  walk_at "s";apply ⟨KeepSt.set rfl,?_⟩;apply mW (by rw [PB,show (Str.ofString ".").length=1 by trivial];omega) ?_;refine ⟨rfl,?_⟩;rw [Z9,hc,Zg,Zg];rfl
 ·rintro us G D H' ⟨rfl,rfl⟩ nD S hD
  have et:z.cps.toList.take z.cps.size=z.cps.toList:=ZC (by simp);rw [et] at hD;try walk_at "s"
  apply Kz hD ?_ ?_
  ·rw [Rc,show (Str.ofString "").length=0 by trivial,Y6,ZG];omega
  ·have:Txt.join (Str.ofString "") (z.cps.toList.map fun c=>Str.ofString "." ++ ⟨#[c]⟩)=uW z:=by
    have e:=Nt z.cps.toList;rw [← vJ] at e;cases hj:Txt.join (Str.ofString "") (z.cps.toList.map fun c=>Str.ofString "." ++ ⟨#[c]⟩) with
    | mk a=>rw [hj] at e;cases hz:uW z with
     | mk b=>rw [hz] at e;congr;exact Array.ext' e
   rw [this];exact q _ (S1.trans S)
def csF (ak:Addr) (side top:Str):List (Str×V):=[("held_asks",.ref ak),("held_side",.str side),("held_top",.str top)]
theorem csM {ak:Addr} {side top:Str} {m:Str} (h:(["held_asks","held_side","held_top"]:List Str).contains m=false):(csF ak side top).lookup m=none:=by
 unfold csF;simp only [Aay,List.contains_nil,Bool.or_false,Abi,Aam] at h;obtain ⟨h1,h2,h3⟩:=h;simp only [List.lookup,Aam.mpr h1,Aam.mpr h2,Aam.mpr h3]
def Cs (mg:Str->Option Value) (H:Hp) (x:Addr) (side top:Str):Prop:=Pln side/\Pln top/\∃ dx ak,H x=some (.ins (aP mg "Costs") dx (csF ak side top))/\AkB mg H ak (uW side) (uW top)
theorem Cs.same {H H':Hp} {x:Addr} {side top:Str} (h:Cs mg H x side top) (s:Same H H'):Cs mg H' x side top:=by
 obtain ⟨a,b,dx,ak,c,d⟩:=h;exact ⟨a,b,dx,ak,s _ _ c,d.same s⟩
def Rf (K:W.Frag) (mg:Str->Option Value):Sp:=fun vs H Q E=>∃ (x dx:Addr) (v u:V),vs=[.ref x,v,u]/\H x=some (.ins (aP mg "Costs") dx [])/\PT K H v/\PT K H u/\(oH v=false->Oe mg "NoPlain" H E v)/\(oH v=true->oH u=false->Oe mg "NoPlain" H E u)/\
 ∀ side top,v= .str side->u= .str top->Pln side->Pln top->∀ H',Chg x H H'->Cs mg H' x side top->Q .non H'
theorem tH:aD ["self","side","top"] ["self","side","top"] (az iY):=⟨rfl,rfl,rfl,by trivial,rfl,by trivial,by trivial⟩
theorem jg (T:Txt K mg):oF P w K mg base 11 "Costs" "__init__" ["self","side","top"] (Rf K mg):=by
 have uD:=@uD P w K mg base T;have tG:=@tG P w K mg base T;walk_at "@u6 3 T.m_Costs___init__ tH";obtain ⟨x,dx,v,u,rfl,hx,tv,tu,q1,q2,q⟩:=h;walk_at "=_;!U({uD}&k{tG}B5$k{tG}BE!U0%U'";have cl:=T.o_Costs.cl;have na:=T.n_Costs;apply ⟨v,rfl,tv,fun hv=>q1 hv,fun side ev ps H1 S1=>?_⟩;subst ev;apply ⟨u,rfl,tu.same S1,fun hu' e H2 S2 X2=>q2 ps.pl hu' e H2 (S1.trans S2) X2,fun top eu pt H2 S2=>?_⟩;subst eu;replace q:=q side top rfl rfl ps pt;have U2:=S1.trans S2;apply ⟨uW side,uW top,rfl,FP ps,FP pt,fun ak H3 S3 hA=>?_⟩;have U3:=U2.trans S3;have dx3:(fun g=>∃ o,H2 g=some o) x:=⟨_,U2 _ _ hx⟩;apply ⟨x,_,dx,_,rfl,U3 _ _ hx,cl,na _ (by simp),by simp,?_⟩;rw [cF (by show ([]:List Str).contains "held_asks"=false;trivial)];have hx4:=aj (H:=H3) (a:=x) (o:=.ins (aP mg "Costs") dx (([]:List (Str×V)) ++ ([("held_asks",.ref ak)]:List (Str×V))));have C4:Chg x H (upd H3 x (.ins (aP mg "Costs") dx (([]:List (Str×V)) ++ ([("held_asks",.ref ak)]:List (Str×V))))):=Chg.put (fun b o n e=>U3 _ _ e);have hA4:=hA.put (g:=x) (o:=.ins (aP mg "Costs") dx (([]:List (Str×V)) ++ ([("held_asks",.ref ak)]:List (Str×V)))) dx3;generalize upd H3 x (.ins (aP mg "Costs") dx (([]:List (Str×V)) ++ ([("held_asks",.ref ak)]:List (Str×V))))=H4 at hx4 C4 hA4 ⊢;walk_at "s";apply ⟨x,_,dx,_,rfl,hx4,cl,na _ (by simp),by simp,?_⟩;rw [cF (by show (["held_asks"]:List Str).contains "held_side"=false;trivial)];have hx5:=aj (H:=H4) (a:=x) (o:=.ins (aP mg "Costs") dx (([]:List (Str×V)) ++ ([("held_asks",.ref ak)]:List (Str×V)) ++ ([("held_side",.str side)]:List (Str×V))));have C5:Chg x H (upd H4 x (.ins (aP mg "Costs") dx (([]:List (Str×V)) ++ ([("held_asks",.ref ak)]:List (Str×V)) ++ ([("held_side",.str side)]:List (Str×V))))):=Chg.put C4;have hA5:=hA4.put (g:=x) (o:=.ins (aP mg "Costs") dx (([]:List (Str×V)) ++ ([("held_asks",.ref ak)]:List (Str×V)) ++ ([("held_side",.str side)]:List (Str×V)))) dx3;generalize upd H4 x (.ins (aP mg "Costs") dx (([]:List (Str×V)) ++ ([("held_asks",.ref ak)]:List (Str×V)) ++ ([("held_side",.str side)]:List (Str×V))))=H5 at hx5 C5 hA5 ⊢;walk_at "s";refine ⟨x,_,dx,_,rfl,hx5,cl,na _ (by simp),by simp,?_⟩;rw [cF (by show (["held_asks","held_side"]:List Str).contains "held_top"=false;trivial)];exact q _ (Chg.put C5) ⟨ps,pt,dx,ak,aj,(hA5.put dx3).ak⟩
theorem yF (e:Nat->Nat->Bool) (b:Nat):∀ n i k,i+k<=n->(tb e b i k<=tb e b i (k+1)/\tb e b i (k+1)<=tb e b i k+1)/\(tb e b i k<=tb e b (i+1) k/\tb e b (i+1) k<=tb e b i k+1)
 | 0,i,k,h=>by
  obtain rfl:i=0:=by omega
  obtain rfl:k=0:=by omega
  rw [Ir,Ir,Nk];omega
 | n+1,i,k,h=>by
  constructor
  ·cases i with
   | zero=>rw [Ir,Ir];omega
   | succ i=>
    obtain ⟨⟨a1,a2⟩,b1,b2⟩:=yF e b n i k (by omega);rw [DN]
    split
    ·omega
    ·unfold Q9
     split <;> omega
  ·cases k with
   | zero=>rw [Nk,Nk];omega
   | succ k=>
    obtain ⟨⟨a1,a2⟩,b1,b2⟩:=yF e b n i k (by omega);rw [DN]
    split
    ·omega
    ·unfold Q9
     split <;> omega
def dd (g:Nat->Nat->Bool) (b:Nat):Nat->Nat->Nat
 | 0,k=>k
 | i+1,0=>i+1
 | i+1,k+1=>min (min (dd g b i (k+1)+1) (dd g b (i+1) k+1)) (dd g b i k+if g i (b+k)=true then 0 else 1)
theorem Rg (g:Nat->Nat->Bool) (b k:Nat):dd g b 0 k=k:=by rw [dd]
theorem Rh (g:Nat->Nat->Bool) (b i:Nat):dd g b i 0=i:=by cases i <;> rw [dd]
theorem Ri (g:Nat->Nat->Bool) (b i k:Nat):dd g b (i+1) (k+1)=min (min (dd g b i (k+1)+1) (dd g b (i+1) k+1)) (dd g b i k+if g i (b+k)=true then 0 else 1):=by rw [dd]
theorem Ym {e g:Nat->Nat->Bool} {b m n:Nat} (h0:∀ i j,i < m->j < n->e (2*i) (2*j)=true) (h1:∀ i j,i < m->j < n->e (2*i+1) (2*j+1)=g i j) (h2:∀ i j,i < m->j < n->e (2*i) (2*j+1)=false) (h3:∀ i j,i < m->j < n->e (2*i+1) (2*j)=false):
  ∀ i,i<=m->∀ k,b+k<=n->(dd g b i k:Int)+tb e (2*b) (2*i) (2*k)=(i:Int)+k:=by
 intro i
 induction i with
 | zero=>intro _ k _;rw [Rg,show 2*0=0 by rfl,Ir];simp
 | succ i ih=>
  intro hi k
  induction k with
  | zero=>intro _;rw [Rh,show 2*0=0 by rfl,Nk];simp
  | succ k ihk=>
   intro hk;have q1:=ih (by omega) k (by omega);have q2:=ih (by omega) (k+1) hk;have q3:=ihk (by omega);have e0:e (2*i) (2*b+2*k)=true:=by rw [show 2*b+2*k=2*(b+k) by omega];exact h0 i (b+k) (by omega) (by omega)
   have e1:e (2*i+1) (2*b+(2*k+1))=g i (b+k):=by rw [show 2*b+(2*k+1)=2*(b+k)+1 by omega];exact h1 i (b+k) (by omega) (by omega)
   have e2:e (2*i) (2*b+(2*k+1))=false:=by rw [show 2*b+(2*k+1)=2*(b+k)+1 by omega];exact h2 i (b+k) (by omega) (by omega)
   have e3:e (2*i+1) (2*b+2*k)=false:=by rw [show 2*b+2*k=2*(b+k) by omega];exact h3 i (b+k) (by omega) (by omega)
   have t1:tb e (2*b) (2*i+1) (2*k+1)=tb e (2*b) (2*i) (2*k)+1:=by rw [DN,e0,if_pos rfl]
   have t2:tb e (2*b) (2*i+1+1) (2*k+1)=Q9 (tb e (2*b) (2*i+1+1) (2*k)) (tb e (2*b) (2*i+1) (2*k+1)):=by rw [DN,e3,if_neg (by decide)]
   have t3:tb e (2*b) (2*i+1) (2*k+1+1)=Q9 (tb e (2*b) (2*i+1) (2*k+1)) (tb e (2*b) (2*i) (2*k+1+1)):=by rw [DN,e2,if_neg (by decide)]
   have t4:=DN e (2*b) (2*i+1) (2*k+1);rw [e1] at t4;have l1:=(yF e (2*b) _ (2*i) (2*k) (Y4 _)).1;have l2:=(yF e (2*b) _ (2*i) (2*k+1) (Y4 _)).1;have l3:=(yF e (2*b) _ (2*i) (2*k) (Y4 _)).2;have l4:=(yF e (2*b) _ (2*i+1) (2*k) (Y4 _)).2;rw [show 2*(i+1)=2*i+1+1 by omega] at q3 ⊢;rw [show 2*(k+1)=2*k+1+1 by omega] at q2 ⊢;rw [Ri];unfold Q9 at t2 t3 t4;cases hg:g i (b+k) with
   | true=>
    rw [hg,if_pos rfl] at t4;rw [if_pos rfl];omega
   | false=>
    rw [hg,if_neg (by decide)] at t4;rw [if_neg (by decide)]
    split at t2 <;> split at t3 <;> split at t4 <;> omega
def tQ (side top:Str) (i j:Nat):Bool:=decide (side.cps.getD i 0=top.cps.getD j 0)
theorem pL {z:Str} (k:Nat):(uW z).cps.getD (2*k) 0=(if k < z.cps.size then 46 else 0)/\(uW z).cps.getD (2*k+1) 0=z.cps.getD k 0:=by
 have h:=Yl z.cps.toList k;rw [← vJ] at h
 have g:∀ (y:Str) (i:Nat),y.cps.getD i 0=y.cps.toList.getD i 0:=fun y i=>by
  rw [Y7,Aad,Aaw]
 rw [g,g,g,← ZG];exact h
theorem Nu {z:Str} (h:Pln z) {k:Nat} (hk:k < z.cps.size):z.cps.getD k 0≠46:=by
 have:z.cps.getD k 0∈z.cps.toList:=by
  rw [show z.cps.getD k 0=z.cps[k] by simp [Array.getD,hk]];exact Array.mem_toList_iff.mpr (Array.getElem_mem hk)
 have:=h.2 _ this;omega
theorem Rj {side top:Str} (ps:Pln side) (pt:Pln top) {b k:Nat} (hk:b+k<=top.cps.size):(dd (tQ side top) b side.cps.size k:Int)+tb (fun i j=>decide ((uW side).cps.getD i 0=(uW top).cps.getD j 0)) (2*b) (2*side.cps.size) (2*k)=(side.cps.size:Int)+k:=by
 refine Ym (m:=side.cps.size) (n:=top.cps.size) ?_ ?_ ?_ ?_ _ (Y4 _) _ hk
 ·intro i j hi hj
  rw [(pL i).1,(pL j).1,if_pos hi,if_pos hj];rfl
 ·intro i j hi hj
  rw [(pL i).2,(pL j).2];rfl
 ·intro i j hi hj
  rw [(pL i).1,(pL j).2,if_pos hi];exact Zd fun z=>Nu pt hj z.symm
 ·intro i j hi hj
  rw [(pL i).2,(pL j).1,if_pos hj];exact Zd fun z=>Nu ps hi z
def Rk (mg:Str->Option Value):Sp:=fun vs H Q _=>∃ (x:Addr) (side top:Str) (b k:Nat),vs=[.ref x,.int b,.int ((b+k:Nat):Int)]/\Cs mg H x side top/\b+k<=top.cps.size/\Q (.int (dd (tQ side top) b side.cps.size k:Nat)) H
theorem nU:aD ["self","begin","end"] ["self","begin","end"] (az fH):=⟨rfl,rfl,rfl,by trivial,rfl,by trivial,by trivial⟩
theorem fJ (T:Txt K mg):oF P w K mg base 8 "Costs" "reckoned_cost" ["self","begin","end"] (Rk mg):=by
 have jZ:=@jZ P w K mg base T;walk_at "@u6 3 T.m_Costs_reckoned_cost nU";obtain ⟨x,side,top,b,k,rfl,⟨ps,pt,dx,ak,hx,hA⟩,hk,q⟩:=h;walk_at "=_;%,SS?.$_3'0~+_3{T.o_Asks}{jZ}B&|0$|'";have hs:20000<=sizeLine:=by decide
 have cl:=T.o_Costs.cl;have na:=T.n_Costs;have l1:=ps.1;obtain ⟨t,hT,hP,hl,ht⟩:=hA;obtain ⟨_,dk,ty,hxk,_⟩:=id hT;apply ⟨x,_,dx,_,_,rfl,hx,cl,na _ (by simp),rfl,?_⟩;apply cQ (by omega) ?_;apply ⟨x,_,dx,_,_,rfl,hx,cl,na _ (by simp),rfl,?_⟩;apply ⟨ak,dk,_,rfl,hxk,akM (by trivial),?_⟩;have e2:mS (uW top)=2*top.cps.size:=xj top;have e1:mS (uW side)=2*side.cps.size:=xj side;apply ⟨ak,t,mS (uW side),mS (uW top),2*b,2*(b+k),by rw [show (2:Int)*(b:Int)=((2*b:Nat):Int) by omega,show (2:Int)*((b+k:Nat):Int)=((2*(b+k):Nat):Int) by omega],hT,by omega,by omega,?_⟩;have hn:t.Nodup:=hP.nd;rw [V2 (Ra (uW side) (uW top)) hn ht (Y4 _) (by omega) (by omega) (.inl rfl),e1,show 2*(b+k) - 2*b=2*k by omega];have:=Rj ps pt hk;have es:(side.length:Int)=(side.cps.size:Int):=rfl;rw [es,show (side.cps.size:Int)+((b+k:Nat):Int) - (b:Int) - tb (fun i j=>decide ((uW side).cps.getD i 0=(uW top).cps.getD j 0)) (2*b) (2*side.cps.size) (2*k)=((dd (tQ side top) b side.cps.size k:Nat):Int) by omega];exact q
abbrev P3:=Nat×(Nat×Nat)
def v3 (p:P3):List V:=[.int (p.1:Int),.int (p.2.1:Int),.int (p.2.2:Int)]
def A3 (H:Hp) (v:V) (p:P3):Prop:=∃ a,v= .ref a/\H a=some (.tup (v3 p))
theorem A3.same {H H':Hp} {v:V} {p:P3} (h:A3 H v p) (s:Same H H'):A3 H' v p:=by
 obtain ⟨a,e,ha⟩:=h;exact ⟨a,e,s _ _ ha⟩
def R3 (H:Hp) (vs:List V) (L:List P3):Prop:=vs.length=L.length/\∀ (i:Nat) (v:V) (p:P3),vs[i]?=some v->L[i]?=some p->A3 H v p
theorem R3.same {H H':Hp} {vs:List V} {L:List P3} (h:R3 H vs L) (s:Same H H'):R3 H' vs L:=⟨h.1,fun i v p e1 e2=>(h.2 i v p e1 e2).same s⟩
theorem R3.nil {H:Hp}:R3 H [] []:=⟨rfl,fun i v p e=>by simp at e⟩
theorem R3.push {H:Hp} {vs:List V} {L:List P3} {v:V} {p:P3} (h:R3 H vs L) (a:A3 H v p):R3 H (vs ++ [v]) (L ++ [p]):=by
 refine ⟨by simp [h.1],fun i u r e1 e2=>?_⟩;by_cases hi:i < vs.length
 ·rw [ZK hi] at e1
  rw [ZK (by rw [← h.1];exact hi)] at e2;exact h.2 i u r e1 e2
 ·rw [Zx (by omega)] at e1
  rw [Zx (by rw [← h.1];omega),← h.1] at e2
  have hz:i - vs.length=0:=by
   have:=(Y0.mp e1).1;simp at this;omega
  rw [hz] at e1 e2;cases e1;cases e2;exact a
theorem R3.at {H:Hp} {vs:List V} {L:List P3} (h:R3 H vs L) {i:Nat} {v:V} (e:vs[i]?=some v):∃ p,L[i]?=some p/\A3 H v p:=by
 have hi:=(Y0.mp e).1;have hj:i < L.length:=by rw [← h.1];exact hi
 exact ⟨L[i],YX hj,h.2 i v _ e (YX hj)⟩
def i3 (p:P3):List Int:=[(p.1:Int),(p.2.1:Int),(p.2.2:Int)]
theorem V6 {p q:P3} (h:i3 p=i3 q):p=q:=by
 unfold i3 at h;simp only [List.cons.injEq,and_true] at h;exact Prod.ext (by omega) (Prod.ext (by omega) (by omega))
def Wr (p q:P3):Prop:=HT.lexLt (i3 q) (i3 p)=false
theorem Yn {L M:List P3} (h1:L.Pairwise Wr) (h2:M.Pairwise Wr) (h:L.Perm M):L=M:=
 List.Perm.eq_of_pairwise (fun a b _ _ x y=>V6 (wG (show HT.lexLt (i3 a) (i3 b)=false from y) x)) h1 h2 h
def Og (H:Hp) (a:Addr):List Int:=match H a with
 | some (.tup xs)=>xs.map fun v=>match v with | .int n=>n | _=>0
 | _=>[]
theorem DX {H:Hp} {a:Addr} {t:List Int} (h:H a=some (.tup (t.map V.int))):Og H a=t:=by
 unfold Og;rw [h];dsimp only;rw [Aap]
 conv=>rhs;rw [← AbI t]
 rfl
def c3 (t:List Int):P3:=((t.getD 0 0).toNat,(t.getD 1 0).toNat,(t.getD 2 0).toNat)
theorem FQ (p:P3):c3 (i3 p)=p:=Prod.ext (by simp [c3,i3]) (Prod.ext (by simp [c3,i3]) (by simp [c3,i3]))
def YS:V->Addr
 | .ref a=>a
 | _=>0
theorem FT {H:Hp} {Q:VK} {p:Addr} {us:List V} {W:List P3} (hp:H p=some (.lst us)) (hW:R3 H us W) (hl:W.length<=1000)
  (h:∀ (q:Addr) (ys:List V) (H':Hp) (L:List P3),H q=none->Same H H'->H' q=some (.lst ys)->R3 H' ys L->L.Perm W->L.Pairwise Wr->Q (.ref q) H'):Dn [.ref p] H Q:=by
 have hul:=hW.1
 have hus:us=(us.map YS).map V.ref:=by
  rw [Aap]
  conv=>lhs;rw [← AbI us]
  refine Aan fun v hv=>?_
  obtain ⟨i,hi,e⟩:=ZQ.mp hv;obtain ⟨p,_,a,rfl,_⟩:=hW.at (i:=i) (v:=v) (by rw [YX hi,e]);rfl
 have hc:∀ a∈us.map YS,∃ p,H a=some (.tup (v3 p)):=fun a ha=>by
  obtain ⟨v,hv,rfl⟩:=Z0.mp ha;obtain ⟨i,hi,e⟩:=ZQ.mp hv;obtain ⟨p,_,a,rfl,hh⟩:=hW.at (i:=i) (v:=v) (by rw [YX hi,e]);exact ⟨p,hh⟩
 have hWm:(us.map YS).map (fun a=>c3 (Og H a))=W:=by
  refine List.ext_getElem? fun i=>?_
  rw [Aap,Y9];cases e:us[i]? with
  | none=>
   rw [List.getElem?_eq_none_iff] at e;rw [Aby (by omega)];rfl
  | some v=>
   obtain ⟨p,hp,a,rfl,hh⟩:=hW.at e;rw [hp];show some (c3 (Og H a))=_;rw [DX (t:=i3 p) hh,FQ]
 refine Mt (as:=us.map YS) (Og H) (by rw [← hus];exact hp) (by rw [Y6];omega) (fun a ha=>?_) fun q bs H' nq S hq pe pw=>?_
 ·obtain ⟨p,hh⟩:=hc a ha
  rw [DX (t:=i3 p) hh];exact ⟨hh,by simp [i3]⟩
 ·have hbs:∀ a∈bs,∃ p,H a=some (.tup (v3 p))/\Og H a=i3 p:=fun a ha=>by
   obtain ⟨p,hh⟩:=hc a (pe.mem_iff.mp ha);exact ⟨p,hh,DX (t:=i3 p) hh⟩
  refine h q (bs.map V.ref) H' (bs.map fun a=>c3 (Og H a)) nq S hq ⟨by simp,fun i v r e1 e2=>?_⟩ ?_ ?_
  ·rw [Y9] at e1 e2
   cases e:bs[i]? with
   | none=>rw [e] at e1;cases e1
   | some a=>
    rw [e] at e1 e2;cases e1;cases e2;obtain ⟨p,hh,ec⟩:=hbs a (Zj e);exact ⟨a,rfl,S _ _ (by show H a=some (.tup (v3 (c3 (Og H a))));rw [ec,FQ];exact hh)⟩
  ·rw [← hWm];exact pe.map _
  ·rw [Aa1]
   refine pw.imp_of_mem fun {a b} ha hb hab=>?_
   obtain ⟨p,_,ep⟩:=hbs a ha;obtain ⟨r,_,er⟩:=hbs b hb;show HT.lexLt (i3 (c3 (Og H b))) (i3 (c3 (Og H a)))=false;rw [ep,er,FQ,FQ,← ep,← er];exact hab
theorem R3.put {H:Hp} {vs:List V} {L:List P3} {g:Addr} {o:HO} (h:R3 H vs L) (hg:∀ xs,H g≠some (.tup xs)):R3 (upd H g o) vs L:=⟨h.1,fun i v p e1 e2=>by
 obtain ⟨a,rfl,ha⟩:=h.2 i v p e1 e2;exact ⟨a,rfl,by rw [aC (fun z=>hg _ (by rw [← z];exact ha))];exact ha⟩⟩
theorem Nv {H:Hp} {g:Addr} {xs:List V} (h:H g=some (.lst xs)):∀ ys,H g≠some (.tup ys):=fun ys z=>by rw [h] at z;cases z
theorem tK:(["end","self","begin"]:List Str).Nodup:=by trivial
theorem rn:(["begin","self"]:List Str).Nodup:=by trivial
theorem Rm {v:V} {hi:Int} (h:inB v 0 hi=true):∃ n:Nat,v= .int n/\(n:Int)<=hi:=by
 cases v with
 | int z=>
  unfold inB at h;simp at h;exact ⟨z.toNat,by rw [Aa2 h.1],by omega⟩
 | _=>cases h
def tL (side top:Str) (b:Nat):List Int:=(List.range (top.cps.size - b+1)).map fun k=>((dd (tQ side top) b side.cps.size k:Nat):Int)
theorem xm (side top:Str) (b:Nat):(tL side top b).length=top.cps.size - b+1:=by unfold tL;simp
theorem FW {side top:Str} {b k:Nat} (h:k < top.cps.size - b+1):(tL side top b)[k]?=some ((dd (tQ side top) b side.cps.size k:Nat):Int):=by
 unfold tL;rw [Y9,Aab h];rfl
def V7 (mg:Str->Option Value):Sp:=fun vs H Q _=>∃ (x:Addr) (side top:Str) (b:Nat),vs=[.ref x,.int b]/\Cs mg H x side top/\b<=top.cps.size/\∀ q H',H q=none->Same H H'->H' q=some (.lst ((tL side top b).map V.int))->Q (.ref q) H'
theorem vm:aD ["self","begin"] ["self","begin"] (az iJ):=⟨rfl,rfl,rfl,by trivial,rfl,by trivial,by trivial⟩
theorem j0 (T:Txt K mg):oF P w K mg base 9 "Costs" "row_of" ["self","begin"] (V7 mg):=by
 have fJ:=@fJ P w K mg base T;walk_at "@u6 2 T.m_Costs_row_of vm";obtain ⟨x,side,top,b,rfl,hC,hb,q⟩:=h;walk_at "=_;%,e<.01>L[self begin]~z[end self begin]~,&~-#1$D.$_~-#0H#0{tK}~Uf{T.o_Costs}{fJ}Bl&~*#2$F";have hs:20000<=sizeLine:=by decide
 have cl:=T.o_Costs.cl;have na:=T.n_Costs;obtain ⟨ps,pt,dx,ak,hx,_⟩:=id hC;have l2:=pt.1;have e2:top.length=top.cps.size:=rfl;apply ⟨x,_,dx,_,_,rfl,hx,cl,na _ (by simp),rfl,?_⟩;apply cQ (by omega) ?_;rw [show ((top.length:Int)+1 - (b:Int)).toNat=top.cps.size - b+1 by omega];refine ⟨by omega,?_⟩;refine p7 (fun k=>V.int ((dd (tQ side top) b side.cps.size k:Nat):Int)) (by omega) (fun i hi=>?_) fun D H' nD S hD=>?_
 ·walk_at "s"
  apply ⟨KeepSt.set rfl,?_⟩;apply ⟨x,dx,_,rfl,hx,csM (by trivial),?_⟩;rw [show (b:Int)+(i:Int)=((b+i:Nat):Int) by omega];apply ⟨x,side,top,b,i,rfl,hC,by omega,?_⟩;exact ⟨rfl,p6 rfl⟩
 ·try walk_at "s"
  refine q D H' nD S ?_;rw [hD];unfold tL;rw [Aap];rfl
def Rn (mg:Str->Option Value):Sp:=fun vs H Q _=>∃ (x:Addr) (side top:Str),vs=[.ref x]/\Cs mg H x side top/\∀ q rs H',H q=none->Same H H'->H' q=some (.lst rs)->CT H' rs (top.cps.size+1) (tL side top)->Q (.ref q) H'
theorem uF:aD ["self"] ["self"] (az gw):=⟨rfl,rfl,rfl,by trivial,rfl,by trivial,by trivial⟩
theorem jy (T:Txt K mg):oF P w K mg base 10 "Costs" "rows_of" ["self"] (Rn mg):=by
 have j0:=@j0 P w K mg base T;walk_at "@u6 1 T.m_Costs_rows_of uF";obtain ⟨x,side,top,rfl,hC,q⟩:=h;walk_at "=_;%,e<.0>L[self]~|[begin self]V$D.$_~-#0H#0{rn}~Uf{T.o_Costs}{j0}Bl$F";have hs:20000<=sizeLine:=by decide
 have cl:=T.o_Costs.cl;have na:=T.n_Costs;obtain ⟨ps,pt,dx,ak,hx,_⟩:=id hC;have l2:=pt.1;have e2:top.length=top.cps.size:=rfl;apply ⟨x,_,dx,_,_,rfl,hx,cl,na _ (by simp),rfl,?_⟩;apply cQ (by omega) ?_;refine ⟨_,rfl,by omega,by omega,?_⟩;rw [show ((top.length:Int)+1).toNat=top.cps.size+1 by omega];refine yq (fun i zs G=>Same H G/\CT G zs i (tL side top)) (by omega) ⟨Same.refl H,rfl,fun k hk=>absurd hk (Nat.not_lt_zero _)⟩ ?_ ?_ ?_
 ·rintro i zs G ⟨_,h⟩
  rw [h.1];exact Y4 _
 ·rintro i zs G hi ⟨s,h⟩
  walk_at "s";apply ⟨KeepSt.set rfl,?_⟩;apply ⟨x,dx,_,rfl,s _ _ hx,csM (by trivial),?_⟩;rw [show (0:Int)+(i:Int)=(i:Int) by omega];apply ⟨x,side,top,i,rfl,hC.same s,by omega,fun r G2 nr S2 hr2=>?_⟩;exact ⟨s.trans S2,(h.same S2).push hr2⟩
 ·rintro zs G D H' ⟨s,h⟩ nD S hD
  try walk_at "s"
  exact q D zs H' (Same.back s nD) (s.trans S) hD (h.same S)
def nr (side top:Str) (most b:Nat) (n:Nat):List P3:=(List.range n).flatMap fun k=>if dd (tQ side top) b side.cps.size (k+1)<=most then [(dd (tQ side top) b side.cps.size (k+1),b,b+(k+1))] else []
def vK (side top:Str) (most:Nat) (n:Nat):List P3:=(List.range n).flatMap fun b=>nr side top most b (top.cps.size - b)
theorem tM (side top:Str) (most b n:Nat):nr side top most b (n+1)=nr side top most b n ++ (if dd (tQ side top) b side.cps.size (n+1)<=most then [(dd (tQ side top) b side.cps.size (n+1),b,b+(n+1))] else []):=by
 unfold nr;rw [Aah,List.flatMap_append];simp
theorem pM (side top:Str) (most n:Nat):vK side top most (n+1)=vK side top most n ++ nr side top most n (top.cps.size - n):=by
 unfold vK;rw [Aah,List.flatMap_append];simp
theorem zE (side top:Str) (most b n:Nat):(nr side top most b n).length<=n:=by
 induction n with
 | zero=>simp [nr]
 | succ n ih=>rw [tM,Zv];split <;> simp <;> omega
theorem Ro (side top:Str) (most n:Nat):(vK side top most n).length<=n*top.cps.size:=by
 induction n with
 | zero=>simp [vK]
 | succ n ih=>
  rw [pM,Zv,Nat.succ_mul];have:=zE side top most n (top.cps.size - n);omega
theorem vL {side top:Str} {most n:Nat} (h:top.cps.size<=24) (hn:n<=25):(vK side top most n).length<=600:=by
 have:=Ro side top most n;have:n*top.cps.size<=25*24:=Nat.mul_le_mul hn h;omega
def NrL (H:Hp) (q:Addr) (side top:Str) (most:Nat) (L:List P3):Prop:=∃ ys,H q=some (.lst ys)/\R3 H ys L/\L.Perm (vK side top most (top.cps.size+1))/\L.Pairwise Wr
def Hx (p:Addr) (H:Hp):Hp:=fun b=>if b=p then none else H b
theorem FZ (p:Addr) (H:Hp):Same (Hx p H) H:=fun b o e=>by
 unfold Hx at e
 split at e
 ·cases e
 ·exact e
theorem Ny {p b:Addr} {H:Hp} {o:HO} (h:H b=some o) (n:b≠p):Hx p H b=some o:=by unfold Hx;rw [if_neg n];exact h
theorem Yo {p b:Addr} {H:Hp} {o:HO} (h:Hx p H b=some o):b≠p:=fun z=>by rw [z] at h;unfold Hx at h;rw [if_pos rfl] at h;cases h
def V8 (K:W.Frag) (mg:Str->Option Value):Sp:=fun vs H Q E=>∃ (v u m:V),vs=[v,u,m]/\PT K H v/\PT K H u/\Kd K H m/\(oH v=false->Oe mg "NoPlain" H E v)/\(oH v=true->oH u=false->Oe mg "NoPlain" H E u)/\(oH v=true->oH u=true->inB m 0 48=false->Oe mg "NoPlace" H E m)/\
 ∀ (side top:Str) (most:Nat),v= .str side->u= .str top->m= .int (most:Int)->Pln side->Pln top->most<=48->∀ q L H',H q=none->Same H H'->NrL H' q side top most L->Q (.ref q) H'
theorem nY:aD ["side","top","most","costs","found","begin","row","many","cost"] ["side","top","most"] (az Dq):=⟨rfl,rfl,rfl,by trivial,rfl,by trivial,by trivial⟩
theorem DY (T:Txt K mg):Am P w K mg base 13 "near" ["side","top","most"] (V8 K mg):=by
 have jg:=@jg P w K mg base T;have bz:=@bz P w K mg base T;have jy:=@jy P w K mg base T;walk_at "@Aq 3 T.d_near nY";obtain ⟨v,u,m,rfl,tv,tu,km,q1,q2,q3,q⟩:=h;walk_at "=nY;!)#3^~R{T.o_Costs}{jg}B65!4k{bz}B&'=$m{T.c_MOST_COST}!)#4^b!}!7h$~T*{T.o_Costs}{jy}BlWI`N2#6^%7h$8WI2#7^N2#8^%TM~=~VX~?~Ai'%4J+$a&i&-$?-X%,~W{T.b_sorted}$+";have hs:20000<=sizeLine:=by decide
 intro x dx nx nd ne;have S0:Same H (upd (upd H dx (.own x)) x (.ins (aP mg "Costs") dx [])):=fun b o e=>(Io nx nd e).1
 refine ⟨x,dx,v,u,rfl,aj,tv.same S0,tu.same S0,fun hv e H1 S1 X2=>q1 hv e H1 (S0.trans S1) X2,fun hv hu' e H1 S1 X2=>q2 hv hu' e H1 (S0.trans S1) X2,fun side top ev eu ps pt H1 C1 hC=>⟨rfl,?_⟩⟩;have S1:=made nx nd C1;clear C1 nx nd S0;subst ev eu;have l2:top.cps.size<=24:=pt.1;try walk_at "s"
 apply ⟨m,0,48,rfl,km.same S1,fun hb=>?_,fun hb e H2 S2 X2=>q3 ps.pl pt.pl hb e H2 (S1.trans S2) X2⟩;obtain ⟨most,rfl,hm⟩:=Rm hb;replace q:=q side top most rfl rfl rfl ps pt (by omega);apply fG rfl fun f H2 nf S2 hf=>?_
 have hC2:=hC.same S2;obtain ⟨_,_,dx',ak,hx,_⟩:=id hC2;apply ⟨x,dx',_,rfl,hx,csM (by trivial),?_⟩;apply ⟨x,side,top,rfl,hC2,fun t rs H3 nt S3 ht hT=>?_⟩;have hf3:=S3 _ _ hf;have tf:t≠f:=fun z=>by rw [z,hf] at nt;cases nt
 have ht3:Hx f H3 t=some (.lst rs):=Ny ht tf
 have hT3:CT (Hx f H3) rs (top.cps.size+1) (tL side top):=⟨hT.1,fun k hk=>by
  obtain ⟨a,e,ha⟩:=hT.2 k hk;refine ⟨a,e,Ny ha fun z=>?_⟩;rw [z,hf3] at ha;have:=congrArg List.length (HO.lst.inj (Zm ha));rw [Y6,xm] at this;simp at this⟩
 have U1:Same H1 (Hx f H3):=fun b o e=>Ny ((S2.trans S3) _ _ e) (fun z=>by rw [z,nf] at e;cases e)
 have hrl:rs.length=top.cps.size+1:=hT.1;clear S2 S3 hf ht hT hC2 hx nt;refine .inr ⟨t,_,rfl,SqL.of (FZ f H3 _ _ ht3),?_⟩;refine iU (K:=K) (xs:=rs) (fun i U G=>Same (Hx f H3) G/\(∃ ys,G f=some (.lst ys)/\R3 G ys (vK side top most i))/\∃ x5 x6 x7 x8,U=[some (.str side),some (.str top),some (.int most),some (.ref x),some (.ref f),x5,x6,x7,x8]) ⟨FZ f H3,⟨[],hf3,R3.nil⟩,_,_,_,_,rfl⟩ (fun i U G _ h=>SqL.of (h.1 _ _ ht3)) ?_ ?_
 ·rintro i U G T' v hv ⟨sG,⟨ys,hfG,hR⟩,x5,x6,x7,x8,rfl⟩ nT
  have hi:i < top.cps.size+1:=by rw [← hrl];exact (Y0.mp hv).1
  obtain ⟨a,ea,ha⟩:=hT3.2 i hi;rw [ea] at hv;cases hv;have S4:=(Same.refl G).upd nT (o:=.tup [.int (i:Int),.ref a]);have hT4:=aj (H:=G) (a:=T') (o:=.tup [.int (i:Int),.ref a]);generalize upd G T' (.tup [.int (i:Int),.ref a])=G4 at S4 hT4 ⊢;have s4:=sG.trans S4;apply bx (SqT.of hT4) rfl ?_;refine .inr ⟨a,_,rfl,SqL.of (s4 _ _ ha),?_⟩
  refine iU (K:=K) (xs:=(tL side top i).map V.int) (fun j U J=>Same (Hx f H3) J/\(∃ ys,J f=some (.lst ys)/\R3 J ys (vK side top most i ++ nr side top most i (j - 1)))/\∃ x7 x8,U=[some (.str side),some (.str top),some (.int most),some (.ref x),some (.ref f),some (.int (i:Int)),some (.ref a),x7,x8])
   ⟨s4,⟨ys,S4 _ _ hfG,by rw [show nr side top most i (0 - 1)=[] from rfl,Z5];exact hR.same S4⟩,_,_,rfl⟩ (fun j U J _ h=>SqL.of (h.1 _ _ ha)) ?_ ?_
  ·rintro j U J T2 v hv ⟨sJ,⟨zs,hfJ,hRJ⟩,y7,y8,rfl⟩ nT2
   have hj:j < top.cps.size - i+1:=by
    have:=(Y0.mp hv).1;rw [Y6,xm] at this;exact this
   rw [Y9,FW hj] at hv;cases hv;have S5:=(Same.refl J).upd nT2 (o:=.tup [.int (j:Int),.int ((dd (tQ side top) i side.cps.size j:Nat):Int)]);have hT5:=aj (H:=J) (a:=T2) (o:=.tup [.int (j:Int),.int ((dd (tQ side top) i side.cps.size j:Nat):Int)]);generalize upd J T2 (.tup [.int (j:Int),.int ((dd (tQ side top) i side.cps.size j:Nat):Int)])=J5 at S5 hT5 ⊢;have s5:=sJ.trans S5;have hf5:=S5 _ _ hfJ;have hR5:=hRJ.same S5
   have hzl:zs.length<=700:=by
    have e1:=hRJ.1;rw [Zv] at e1;have:=zE side top most i (j - 1);have:=vL (side:=side) (most:=most) l2 (n:=i) (by omega);omega
   apply bx (SqT.of hT5) rfl ?_;cases j with
   | zero=>
    rw [Zd (show ¬ (0:Int) < ((0:Nat):Int) by omega)];walk_at "s";exact ⟨s5,⟨zs,hf5,hR5⟩,_,_,rfl⟩
   | succ j=>
    rw [Zc (show (0:Int) < ((j+1:Nat):Int) by omega)];walk_at "s";by_cases hle:dd (tQ side top) i side.cps.size (j+1)<=most
    ·rw [Zc (show ((dd (tQ side top) i side.cps.size (j+1):Nat):Int)<=(most:Int) by omega)]
     walk_at "s";apply ⟨.inl ⟨rfl,_,SqL.of hf5⟩,?_⟩;apply fG rfl fun w J6 nw S6 hw=>?_
     apply bF (S6 _ _ hf5) (by omega) ?_;refine ⟨fun b o e=>?_,⟨_,aj,?_⟩,_,_,rfl⟩
     ·rw [aC (Yo e)];exact S6 _ _ (s5 _ _ e)
     ·rw [show j+1+1 - 1=j+1 by omega,tM,if_pos hle,← ZM]
      refine R3.put ((hR5.same S6).push ⟨w,rfl,?_⟩) (Nv (S6 _ _ hf5));rw [hw];unfold v3
      congr 4
    ·rw [Zd (show ¬ ((dd (tQ side top) i side.cps.size (j+1):Nat):Int)<=(most:Int) by omega)]
     walk_at "s";refine ⟨s5,⟨zs,hf5,?_⟩,_,_,rfl⟩;rw [show j+1+1 - 1=j+1 by omega,tM,if_neg hle,Z5];exact hR5
  ·rintro U J ⟨sJ,⟨zs,hfJ,hRJ⟩,y7,y8,rfl⟩
   refine ⟨sJ,⟨zs,hfJ,?_⟩,_,_,_,_,rfl⟩;rw [Y6,xm,show top.cps.size - i+1 - 1=top.cps.size - i by omega] at hRJ;rw [pM];exact hRJ
 ·rintro U G ⟨sG,⟨ys,hfG,hR⟩,x5,x6,x7,x8,rfl⟩
  rw [hrl] at hR;walk_at "s";refine FT hfG hR (ZP (vL l2 (by omega)) (by omega)) fun r zs G2 L nr S2 hr2 hRL pe pw=>?_
  have U:=S1.trans (U1.trans sG);exact q r L G2 (Same.back U nr) (U.trans S2) ⟨zs,hr2,hRL,pe,pw⟩
end
local macro_rules | `(tactic| walk_at "s") => `(tactic| (with_reducible repeat (first | refine j9 ?_ | walk_at "4")))
local macro_rules | `(tactic| walk_at "n") => `(tactic| (with_reducible repeat (walk_at "4")))
structure Sn where
 w:Nat
 b:Nat
 e:Nat
def Sn.ok (m:Nat) (s:Sn):Prop:=1<=s.w/\s.w<=1000000/\s.b < s.e/\s.e<=m
def Sn.dat (s:Sn):PyData:=.tuple [.int s.w,.int s.b,.int s.e]
theorem Nz {H:Hp} {s:Sn} {u:V}:DR H s.dat u↔∃ t,u= .ref t/\H t=some (.tup [.int s.w,.int s.b,.int s.e]):=by
 unfold Sn.dat;rw [KR];constructor
 ·rintro ⟨t,vs,rfl,h,r⟩
  rw [gk] at r;obtain ⟨v1,r1,rfl,d1,r⟩:=r;rw [gk] at r;obtain ⟨v2,r2,rfl,d2,r⟩:=r;rw [gk] at r;obtain ⟨v3,r3,rfl,d3,r⟩:=r;rw [pX] at r;subst r;rw [oW.mp d1,oW.mp d2,oW.mp d3] at h;exact ⟨t,rfl,h⟩
 ·rintro ⟨t,rfl,h⟩
  exact ⟨t,_,rfl,h,gk.mpr ⟨_,_,rfl,oW.mpr rfl,gk.mpr ⟨_,_,rfl,oW.mpr rfl,vz (oW.mpr rfl)⟩⟩⟩
def Lsn (H:Hp) (a:Addr) (us:List V) (S:List Sn):Prop:=H a=some (.lst us)/\DRs H (S.map Sn.dat) us
theorem Lsn.same {H H':Hp} {a:Addr} {us:List V} {S:List Sn} (h:Lsn H a us S) (s:Same H H'):Lsn H' a us S:=⟨s _ _ h.1,DRs.same s _ _ h.2⟩
theorem Lsn.len {H:Hp} {a:Addr} {us:List V} {S:List Sn} (h:Lsn H a us S):us.length=S.length:=by
 have:=rZ h.2;rwa [Y6] at this
theorem rB {H:Hp} {S:List Sn} {us:List V} (h:DRs H (S.map Sn.dat) us) {i:Nat} {u:V} (e:us[i]?=some u):∃ s t,S[i]?=some s/\u= .ref t/\H t=some (.tup [.int s.w,.int s.b,.int s.e]):=by
 have hl:=rZ h;rw [Y6] at hl;have hi:i < S.length:=by rw [← hl];exact (Y0.mp e).1
 obtain ⟨v,h1,h2⟩:=KY (d:=S[i].dat) h (i:=i) (by rw [Y9,YX hi];rfl);rw [e] at h1;cases h1;obtain ⟨t,rfl,ht⟩:=Nz.mp h2;exact ⟨S[i],t,YX hi,rfl,ht⟩
structure SumsOk (S:List Sn) (L:List Int):Prop where
 zero:L.getD 0 0=0
 up:∀ e,0 < e->e < L.length->L.getD (e - 1) 0<=L.getD e 0
 put:∀ s∈S,s.e < L.length->L.getD s.b 0+s.w<=L.getD s.e 0
 why:∀ e,0 < e->e < L.length->L.getD e 0=L.getD (e - 1) 0\/∃ s∈S,s.e=e/\L.getD e 0=L.getD s.b 0+s.w
structure NB (S:List Sn) (m:Nat) (B:List Int):Prop where
 last:B.getD m 0=0
 up:∀ p,p < m->B.getD (p+1) 0<=B.getD p 0
 put:∀ s∈S,s.w+B.getD s.e 0<=B.getD s.b 0
 why:∀ p,p < m->B.getD p 0=B.getD (p+1) 0\/∃ s∈S,s.b=p/\B.getD p 0=s.w+B.getD s.e 0
theorem Iw {S:List Sn} {m:Nat} {L B:List Int} (hS:∀ s∈S,s.ok m) (hl:L.length=m+1) (h1:SumsOk S L) (h2:NB S m B):B.getD 0 0=L.getD m 0:=by
 have a:∀ e,e<=m->L.getD e 0+B.getD e 0<=B.getD 0 0:=by
  intro e
  induction e using Nat.strongRecOn with
  | ind e ih=>
   intro he;rcases Nat.eq_zero_or_pos e with rfl | hp
   ·rw [h1.zero];omega
   ·rcases h1.why e hp (by omega) with h | ⟨s,hs,rfl,h⟩
    ·have:=ih (e - 1) (by omega) (by omega)
     have u:=h2.up (e - 1) (by omega);rw [show e - 1+1=e by omega] at u;omega
    ·have ok:=hS s hs
     have:=ih s.b ok.2.2.1 (by have:=ok.2.2;omega);have p:=h2.put s hs;omega
 have b:∀ k,k<=m->B.getD (m - k) 0<=L.getD m 0 - L.getD (m - k) 0:=by
  intro k
  induction k using Nat.strongRecOn with
  | ind k ih=>
   intro hk;rcases Nat.eq_zero_or_pos k with rfl | hp
   ·rw [AbL,h2.last];omega
   ·rcases h2.why (m - k) (by omega) with h | ⟨s,hs,hb,h⟩
    ·have:=ih (k - 1) (by omega) (by omega)
     have u:=h1.up (m - k+1) (by omega) (by omega);rw [show m - (k - 1)=m - k+1 by omega] at this;rw [show m - k+1 - 1=m - k by omega] at u;omega
    ·have ok:=hS s hs
     have:=ih (m - s.e) (by have:=ok.2.2;omega) (by omega);rw [show m - (m - s.e)=s.e by have:=ok.2.2;omega] at this;have p:=h1.put s hs (by have:=ok.2.2;omega);rw [hb] at p;omega
 have a':=a m (Y4 _);have b':=b m (Y4 _);rw [h2.last] at a';rw [AaO,h1.zero] at b';omega
def prs (L:List Int) (m:Nat):List Int:=(List.range m).map fun p=>L.getD (p+1) 0 - L.getD p 0
theorem qj (L:List Int) (m:Nat):(prs L m).length=m:=by simp [prs]
theorem zF (L:List Int) (m:Nat):∀ (b k:Nat),b+k<=m->(((prs L m).drop b).take k).sum=L.getD (b+k) 0 - L.getD b 0
 | b,0,_=>by simp
 | b,k+1,h=>by
  have ih:=zF L m b k (by omega)
  have e:((prs L m).drop b)[k]?=some (L.getD (b+k+1) 0 - L.getD (b+k) 0):=by
   rw [AaU];unfold prs;rw [Y9,Aab (by omega)];rfl
  rw [Z9,e,List.sum_append,ih];show _+([L.getD (b+k+1) 0 - L.getD (b+k) 0]).sum=_;rw [List.sum_singleton,show b+(k+1)=b+k+1 by omega];omega
theorem Rp (L:List Int) (m:Nat):(prs L m).sum=L.getD m 0 - L.getD 0 0:=by
 have:=zF L m 0 m (by omega);rw [AaM,ZC (by rw [qj];exact Y4 _),Aa5] at this;exact this
section
variable {P:Program} {w:World} {K:W.Frag} {mg:Str->Option Value} {base:Heap}
theorem qp:(["stretch","many"]:List Str).Nodup:=by trivial
def NK:Sp:=fun vs H Q _=>∃ (m:Nat) (u:V) (t:Addr) (s:Sn),vs=[.int m,u]/\u= .ref t/\H t=some (.tup [.int s.w,.int s.b,.int s.e])/\s.ok m/\Q (.bl true) H
theorem zG:aD ["many","thing"] ["many","thing"] (az pB):=⟨rfl,rfl,rfl,by trivial,rfl,by trivial,by trivial⟩
theorem pN (T:Txt K mg):lN P w K mg base 4 "is_worthy" ["many","thing"] NK:=by
 have bG:=@bG P w K mg base T;have jL:=@jL P w K mg base T;walk_at "@fB 2 T.d_is_worthy zG";obtain ⟨m,u,t,s,rfl,eu,ht,ok,q⟩:=h;walk_at "=_;!GMPA:YC~7P~B~!.5ZA:({bG}&10=$m{T.c_MOST_WORTH}%,c({jL}&10&109j}$1010";subst eu;obtain ⟨o1,o2,o3,o4⟩:=ok;apply iQ (.tup ht) rfl ?_;apply tZ (SqT.of ht) ?_;rw [show decide (V.int (([V.int s.w,.int s.b,.int s.e]:List V).length:Int)=V.int 3)=true from Zc rfl];walk_at "s";apply ⟨_,_,_,rfl,.inl ⟨_,rfl⟩,?_⟩;rw [show inB (.int (s.w:Int)) 1 1000000=true by unfold inB;simp;omega];walk_at "s";apply ⟨_,_,_,rfl,by omega,by omega,by omega,?_⟩;rw [Zc (by omega)];exact q
def V9:Sp:=fun vs H Q _=>∃ (m:Nat) (a:Addr) (us:List V) (S:List Sn),vs=[.int m,.ref a]/\m<=24/\Lsn H a us S/\S.length<=400/\(∀ s∈S,s.ok m)/\∀ H',Same H H'->Q .non H'
theorem tO:aD ["many","thing"] ["many","thing"] (az fX):=⟨rfl,rfl,rfl,by trivial,rfl,by trivial,by trivial⟩
theorem jh (T:Txt K mg):lN P w K mg base 5 "need_stretches" ["many","thing"] V9:=by
 have bz:=@bz P w K mg base T;have pN:=@pN P w K mg base T;walk_at "@fB 2 T.d_need_stretches tO";obtain ⟨m,a,us,S,rfl,hm,hL,hl,hok,q⟩:=h;walk_at "=_;!4~X{bz}Bl&~-#0=$m{T.c_MOST_LETTERS}!TMPA:YC$~)Zs.5m{T.c_MOST_STRETCHES}z%TA:~4~5{T.b_all}$e<.0>L[many thing]}%[stretch many]Q0H#0{qp}}&{pN}B&f$Fz";have hul:=hL.len;have hs:1000<=sizeLine:=by decide
 apply sY (by omega) (by omega) ?_;apply iQ (.lst hL.1) rfl ?_;apply iB (SqL.of hL.1) ?_;rw [Zd (show ¬ (400:Int) < (us.length:Int) by omega)];walk_at "s";refine .inl ⟨a,rfl,⟨_,SqL.of hL.1⟩,?_⟩;refine t6 (xs:=us) (fun i ys H'=>H'=H/\ys=List.replicate i (V.bl true)) (by omega) ⟨rfl,rfl⟩ ?_ ?_ ?_ ?_
 ·rintro i ys H' ⟨_,rfl⟩
  simp
 ·rintro i ys H' ⟨rfl,rfl⟩
  exact SqL.of hL.1
 ·rintro i ys H' x hx ⟨rfl,rfl⟩
  obtain ⟨s,t,hsi,rfl,ht⟩:=rB hL.2 hx;walk_at "s";apply ⟨KeepSt.set rfl,?_⟩;refine ⟨m,_,t,s,rfl,rfl,ht,hok s (Zj hsi),rfl,?_⟩;rw [AbJ]
 ·rintro ys H' ⟨rfl,rfl⟩ D hD
  walk_at "s";apply ⟨D,List.replicate us.length true,rfl,by rw [aj,List.map_replicate],?_⟩;rw [show (List.replicate us.length true).all id=true by simp];walk_at "s";exact q _ ((Same.refl H').upd hD)
theorem uG:(["stretch","sums","end"]:List Str).Nodup:=by trivial
theorem lK {L:List Int} {k:Nat} {j:Int} (hk:k < L.length) (hj:j=(k:Int)):uX (L.map V.int) j=some (.int (L.getD k 0)):=by
 subst hj;refine cG ?_;rw [Y9,YX hk,Y7,YX hk];rfl
theorem Ga {L:List Int} {k:Nat} (hk:L.length=k+1):uX (L.map V.int) (-1)=some (.int (L.getD k 0)):=by
 refine Vo (n:=k) (by rw [Y6];exact hk) ?_;rw [Y9,YX (by omega),Y7,YX (by omega)];rfl
theorem bD {L:List Int} {M:Int} {i:Nat} (h:i < L.length):(L ++ [M]).getD i 0=L.getD i 0:=by
 rw [Y7,Y7,ZK h]
theorem nZ {L:List Int} {M:Int}:(L ++ [M]).getD L.length 0=M:=by
 rw [Y7,Zx (Y4 _),AaO];rfl
theorem SumsOk.push {S:List Sn} {L:List Int} {M:Int} {m:Nat} (h:SumsOk S L) (hS:∀ s∈S,s.ok m) (hl:0 < L.length) (h1:L.getD (L.length - 1) 0<=M) (h2:∀ s∈S,s.e=L.length->L.getD s.b 0+s.w<=M)
  (h3:M=L.getD (L.length - 1) 0\/∃ s∈S,s.e=L.length/\M=L.getD s.b 0+s.w):SumsOk S (L ++ [M]):=by
 refine ⟨?_,fun e h0 he=>?_,fun s hs he=>?_,fun e h0 he=>?_⟩
 ·rw [bD hl];exact h.zero
 ·rw [Zv] at he
  simp at he;by_cases hlt:e < L.length
  ·rw [bD hlt,bD (by omega)];exact h.up e h0 hlt
  ·obtain rfl:e=L.length:=by omega
   rw [nZ,bD (by omega)];exact h1
 ·rw [Zv] at he
  simp at he;have ok:=hS s hs;by_cases hlt:s.e < L.length
  ·rw [bD hlt,bD (by have:=ok.2.2;omega)];exact h.put s hs hlt
  ·have e:s.e=L.length:=by omega
   rw [bD (by have:=ok.2.2;omega),e,nZ];exact h2 s hs e
 ·rw [Zv] at he
  simp at he;by_cases hlt:e < L.length
  ·rw [bD hlt,bD (by omega)]
   rcases h.why e h0 hlt with a | ⟨s,hs,a,b⟩
   ·exact .inl a
   ·exact .inr ⟨s,hs,a,by rw [bD (by have:=(hS s hs).2.2;omega)];exact b⟩
  ·obtain rfl:e=L.length:=by omega
   rw [nZ,bD (by omega)];rcases h3 with a | ⟨s,hs,a,b⟩
   ·exact .inl a
   ·exact .inr ⟨s,hs,a,by rw [bD (by have:=(hS s hs).2.2;omega)];exact b⟩
theorem Iz {α:Type} {p:α->Bool} {cs:List α} {i:Nat} {c:α} (h:cs[i]?=some c):(cs.take (i+1)).filter p=(cs.take i).filter p ++ (if p c=true then [c] else []):=by
 rw [Z9,h,List.filter_append]
 congr 1
 show List.filter p [c]=_;by_cases hp:p c=true
 ·rw [if_pos hp,List.filter_cons_of_pos hp];rfl
 ·rw [if_neg hp,List.filter_cons_of_neg hp];rfl
def Wa:Sp:=fun vs H Q _=>∃ (m:Nat) (a:Addr) (us:List V) (S:List Sn),vs=[.int m,.ref a]/\m<=24/\Lsn H a us S/\S.length<=400/\(∀ s∈S,s.ok m)/\
 ∀ (q:Addr) (L:List Int) (H':Hp),H q=none->Same H H'->H' q=some (.lst (L.map V.int))->L.length=m+1->SumsOk S L->Q (.ref q) H'
theorem iK:aD ["many","stretches","sums","end","ending"] ["many","stretches"] (az jm):=⟨rfl,rfl,rfl,by trivial,rfl,by trivial,by trivial⟩
theorem lL (T:Txt K mg):lN P w K mg base 1 "sums_by_end" ["many","stretches"] Wa:=by
 walk_at "@fB 2 T.d_sums_by_end iK";obtain ⟨m,a,us,S,rfl,hm,hL,hl,hok,q⟩:=h;walk_at "=iK;!~9#2^OK!7~,=$D3~Q#3^!}'#4^<.23>L[many stretches sums end ending]}([stretch sums end]Q0H#0{uG}})gd1F~*#2?/f1F1F%4Jp$}*}+{T.b_max}$?+O$/po%,p";have hul:=hL.len;have hs:1000<=sizeLine:=by decide
 apply iG rfl fun sm nsm=>?_
 refine ⟨⟨by decide,by decide,by omega,by omega⟩,?_⟩;have em:((m:Int)+1 - 1).toNat=m:=by omega
 rw [em]
 refine gJ (n:=m) (fun k U H'=>∃ (L:List Int) (x3 x4:Option V),U=[some (.int m),some (.ref a),some (.ref sm),x3,x4]/\Same H H'/\H' sm=some (.lst (L.map V.int))/\L.length=k+1/\SumsOk S L)
  ⟨[0],none,none,rfl,(Same.refl H).upd nsm,aj,rfl,⟨rfl,(fun e h0 he=>by simp at he;omega),(fun s hs he=>by have:=(hok s hs).2.2;simp at he;omega),fun e h0 he=>by simp at he;omega⟩⟩ ?_ ?_
 ·rintro k U H' hk ⟨L,x3,x4,rfl,s,hsm,hLl,hSO⟩
  have hL':=hL.same s;walk_at "s";refine .inl ⟨a,rfl,⟨_,SqL.of hL'.1⟩,?_⟩;refine t6 (xs:=us) (fun i ys H''=>H''=H'/\ys=(((S.take i).filter fun s=>decide ((s.e:Int)=1+(k:Int))).map fun s=>L.getD s.b 0+s.w).map V.int) (by omega) ⟨rfl,rfl⟩ ?_ ?_ ?_ ?_
  ·rintro i ys H'' ⟨_,rfl⟩
   rw [Y6,Y6];exact ZP (List.length_filter_le _ _) (by rw [Aac];omega)
  ·rintro i ys H'' ⟨rfl,rfl⟩
   exact SqL.of hL'.1
  ·rintro i ys H'' x hx ⟨rfl,rfl⟩
   obtain ⟨t,ad,hsi,rfl,ht⟩:=rB hL'.2 hx;have okt:=hok t (Zj hsi);have tks:=Iz (p:=fun s:Sn=>decide ((s.e:Int)=1+(k:Int))) hsi;walk_at "s";apply ⟨KeepSt.set rfl,?_⟩;rw [jY,tks];refine qm (fun h=>?_) (fun h=>?_)
   ·have hb:t.b < L.length:=by have:=okt.2.2;omega
    walk_at "s";apply aU (SqL.of hsm) (lK hb rfl) ?_;refine ⟨rfl,?_⟩;rw [if_pos (Zc h),Zg,Zg];rfl
   ·refine ⟨rfl,?_⟩
    rw [if_neg (by rw [Zd h];simp),Z5]
  ·rintro ys H'' ⟨rfl,rfl⟩ D hD
   rw [ZC (by omega)];have hfl:((S.filter fun s=>decide ((s.e:Int)=1+(k:Int))).map fun s=>L.getD s.b 0+s.w).length<=400:=by rw [Y6];exact ZP (List.length_filter_le _ _) hl
   have hmem:∀ x,x∈((S.filter fun s=>decide ((s.e:Int)=1+(k:Int))).map fun s=>L.getD s.b 0+s.w)↔∃ t∈S,t.e=k+1/\L.getD t.b 0+t.w=x:=by
    intro x;simp only [Z0,List.mem_filter,Abe];constructor
    ·rintro ⟨t,⟨h1,h2⟩,h3⟩;exact ⟨t,h1,by omega,h3⟩
    ·rintro ⟨t,h1,h2,h3⟩;exact ⟨t,⟨h1,by omega⟩,h3⟩
   generalize ((S.filter fun s=>decide ((s.e:Int)=1+(k:Int))).map fun s=>L.getD s.b 0+s.w)=es at hfl hmem ⊢;have S1:Same H'' (upd H'' D (.lst (es.map V.int))):=(Same.refl H'').upd hD;have hD1:upd H'' D (.lst (es.map V.int)) D=some (.lst (es.map V.int)):=aj;generalize upd H'' D (.lst (es.map V.int))=H1 at S1 hD1 ⊢;have hsm1:=S1 _ _ hsm;walk_at "s";apply ⟨.inl ⟨rfl,_,SqL.of hsm1⟩,?_⟩;apply aU (SqL.of hsm1) (Ga hLl) ?_;apply iG rfl fun p np=>?_
   apply UV (aY np hD1) aj (by simp;omega) fun p2 np2=>?_
   have hsm2:=aY np2 (o:=.lst (es.map V.int ++ [V.int (L.getD k 0)])) (aY np (o:=.lst [.int (L.getD k 0)]) hsm1);apply Vq (ns:=es ++ [L.getD k 0]) (by rw [Zg];exact aj) (by simp) fun M hM hMM=>?_
   apply bF hsm2 (by simp;omega) ?_;have hL1:L.length - 1=k:=by omega
   refine ⟨L ++ [M],_,_,rfl,Same.put (((s.trans S1).upd np).upd np2) nsm,?_,by simp;omega,hSO.push hok (by omega) (by rw [hL1];exact hMM _ (by simp)) (fun t ht he=>hMM _ (Zw _ ((hmem _).mpr ⟨t,ht,by omega,rfl⟩))) ?_⟩
   ·rw [Zg];exact aj
   ·rcases Zh.mp hM with h | h
    ·obtain ⟨t,h1,h2,h3⟩:=(hmem _).mp h
     exact .inr ⟨t,h1,by omega,h3.symm⟩
    ·rw [hL1];exact .inl (ZD.mp h)
 ·rintro U H' ⟨L,x3,x4,rfl,s,hsm,hLl,hSO⟩
  walk_at "s";exact q sm L H' nsm s hsm hLl hSO
def Wb (K:W.Frag):Sp:=fun vs H Q _=>∃ (a l:Addr) (us:List V) (S:List Sn) (L:List Int) (e:Nat),vs=[.ref a,.ref l,.int e]/\Lsn H a us S/\S.length<=400/\H l=some (.lst (L.map V.int))/\e < L.length/\(∀ s∈S,s.ok (L.length - 1))/\
 (∀ (i:Nat) (s:Sn),S[i]?=some s->s.e=e->L.getD s.b 0+s.w=L.getD e 0->∀ H',Same H H'->Q (.int i) H')/\
 ((∀ s∈S,s.e=e->L.getD s.b 0+s.w≠L.getD e 0)->∀ H',Same H H'->Q .non H')
theorem f9:aD ["stretches","sums","end","place","stretch"] ["stretches","sums","end"] (az gG):=⟨rfl,rfl,rfl,by trivial,rfl,by trivial,by trivial⟩
theorem gH (T:Txt K mg):lN P w K mg base 1 "last_of_the_most" ["stretches","sums","end"] (Wb K):=by
 walk_at "@fB 3 T.d_last_of_the_most f9";obtain ⟨a,l,us,S,L,e,rfl,hL,hl,hLs,he,hok,q1,q2⟩:=h;walk_at "=f9;!7h9WI2#3^N2#4^%TM~=gd1+'~?gd?/01+1+/0'%,*%},";have hul:=hL.len;refine .inr ⟨a,us,rfl,SqL.of hL.1,?_⟩
 refine iU (K:=K) (xs:=us) (fun i U H'=>Same H H'/\(∃ x3 x4:Option V,U=[some (.ref a),some (.ref l),some (.int e),x3,x4])/\∀ (j:Nat) (s:Sn),j < i->S[j]?=some s->s.e=e->L.getD s.b 0+s.w≠L.getD e 0)
  ⟨Same.refl _,⟨_,_,rfl⟩,fun j s hj=>by omega⟩ (fun i U H' _ h=>SqL.of (h.1 _ _ hL.1)) ?_ ?_
 ·rintro i U H' T x hx ⟨s,⟨x3,x4,rfl⟩,hno⟩ nT
  obtain ⟨t,ad,hsi,rfl,ht0⟩:=rB (hL.same s).2 hx;have okt:=hok t (Zj hsi);have S1:Same H' (upd H' T (.tup [.int i,.ref ad])):=(Same.refl H').upd nT;have hT1:upd H' T (.tup [.int i,.ref ad]) T=some (.tup [.int i,.ref ad]):=aj;generalize upd H' T (.tup [.int i,.ref ad])=H1 at S1 hT1 ⊢;have ht:=S1 _ _ ht0;have hL1:=(s.trans S1) _ _ hLs;apply bx (SqT.of hT1) rfl ?_;rw [jY];refine qm (fun h=>?_) (fun h=>?_)
  ·have hb:t.b < L.length:=by have:=okt.2.2;omega
   walk_at "s";apply aU (SqL.of hL1) (lK hb rfl) ?_;apply aU (SqL.of hL1) (lK he rfl) ?_;rw [jY];refine qm (fun h2=>?_) (fun h2=>?_)
   ·walk_at "s"
    exact q1 i t hsi (by omega) (by omega) _ (s.trans S1)
   ·walk_at "s"
    refine ⟨s.trans S1,⟨_,_,rfl⟩,fun j t' hj e1 e2=>?_⟩;by_cases hji:j=i
    ·subst hji
     rw [hsi] at e1;cases e1;exact h2
    ·exact hno j t' (by omega) e1 e2
  ·walk_at "s"
   refine ⟨s.trans S1,⟨_,_,rfl⟩,fun j t' hj e1 e2=>?_⟩;by_cases hji:j=i
   ·subst hji
    rw [hsi] at e1;cases e1;omega
   ·exact hno j t' (by omega) e1 e2
 ·rintro U H' ⟨s,⟨x3,x4,rfl⟩,hno⟩
  walk_at "s";refine q2 (fun t ht h1=>?_) _ s;obtain ⟨j,hj,e1⟩:=ZQ.mp ht;exact hno j t (by omega) (by rw [YX hj,e1]) h1
theorem Ea:(["place","sums"]:List Str).Nodup:=by trivial
def ww (S:List Sn) (i:Nat):Int:=match S[i]? with | some s=>s.w | none=>0
def bb (S:List Sn) (i:Nat):Nat:=match S[i]? with | some s=>s.b | none=>0
def ee (S:List Sn) (i:Nat):Nat:=match S[i]? with | some s=>s.e | none=>0
theorem Ss {S:List Sn} {i:Nat} {s:Sn} (h:S[i]?=some s):ww S i=s.w:=by unfold ww;rw [h]
theorem Gb {S:List Sn} {i:Nat} {s:Sn} (h:S[i]?=some s):bb S i=s.b:=by unfold bb;rw [h]
theorem Gd {S:List Sn} {i:Nat} {s:Sn} (h:S[i]?=some s):ee S i=s.e:=by unfold ee;rw [h]
def wsum (S:List Sn) (cs:List Nat):Int:=(cs.map (ww S)).sum
structure NP (S:List Sn) (ms:List Nat):Prop where
 lt:∀ i∈ms,i < S.length
 up:ms.Pairwise (· < ·)
 ap:∀ i∈ms,∀ j∈ms,i≠j->ee S i<=bb S j\/ee S j<=bb S i
def mu3 (U:St) (_:Hp):Nat:=match U[3]? with
 | some (some (V.int e))=>e.toNat
 | _=>0
theorem NQ {ms:List Int} {cs:List Nat} (h:ms.Perm (nI cs)):∃ ns:List Nat,ms=nI ns/\ns.Perm cs:=by
 refine ⟨ms.map Int.toNat,?_,?_⟩
 ·unfold nI
  rw [Aap];refine (AbI ms).symm.trans (Aan fun x hx=>?_);obtain ⟨i,_,rfl⟩:=Z0.mp (h.mem_iff.mp hx);rfl
 ·have:=h.map Int.toNat
  unfold nI at this;rw [Aap] at this
  have e:(cs.map (Int.toNat ∘ fun i:Nat=>(i:Int)))=cs:=by
   refine (Aan fun x _=>?_).trans (AbI cs);rfl
  rwa [e] at this
theorem strict {ns:List Nat} (h1:(nI ns).Pairwise (· <= ·)) (h2:ns.Nodup):ns.Pairwise (· < ·):=by
 unfold nI at h1;rw [Aa1] at h1;exact (h1.and h2).imp fun h=>by omega
theorem NT {l1 l2:List Int} (h:l1.Perm l2):l1.sum=l2.sum:=by
 induction h with
 | nil=>rfl
 | cons x _ ih=>simp only [List.sum_cons,ih]
 | swap x y l=>simp only [List.sum_cons];omega
 | trans _ _ a b=>exact a.trans b
theorem IK {S:List Sn} {ms cs:List Nat} (h:ms.Perm cs):wsum S ms=wsum S cs:=NT (h.map _)
theorem yG (S:List Sn) (cs:List Nat) (i:Nat):wsum S (cs ++ [i])=wsum S cs+ww S i:=by
 unfold wsum;rw [Zg,List.sum_append];show _+([ww S i]).sum=_;rw [List.sum_singleton]
theorem yH {R:Nat->Nat->Prop} (hs:∀ i j,R i j->R j i):∀ {l:List Nat},l.Pairwise R->∀ i∈l,∀ j∈l,i≠j->R i j
 | [],_,i,hi,_,_,_=>by cases hi
 | x :: l,h,i,hi,j,hj,ne=>by
  rw [List.pairwise_cons] at h;rcases Zb.mp hi with e1 | hi'
  ·rcases Zb.mp hj with e2 | hj'
   ·exact absurd (e1.trans e2.symm) ne
   ·rw [e1];exact h.1 j hj'
  ·rcases Zb.mp hj with e2 | hj'
   ·rw [e2];exact hs _ _ (h.1 i hi')
   ·exact yH hs h.2 i hi' j hj' ne
def NZ (K:W.Frag):Sp:=fun vs H Q _=>∃ (a l:Addr) (us:List V) (S:List Sn) (L:List Int) (m:Nat),vs=[.ref a,.ref l]/\Lsn H a us S/\S.length<=400/\H l=some (.lst (L.map V.int))/\L.length=m+1/\m<=24/\(∀ s∈S,s.ok m)/\SumsOk S L/\
 ∀ (q:Addr) (ms:List Nat) (H':Hp),H q=none->Same H H'->H' q=some (.lst ((nI ms).map V.int))->ms.length<=24->NP S ms->wsum S ms=L.getD m 0->Q (.ref q) H'
theorem eG:aD ["stretches","sums","chosen","end","place"] ["stretches","sums"] (az lB):=⟨rfl,rfl,rfl,by trivial,rfl,by trivial,by trivial⟩
theorem lM (T:Txt K mg):lN P w K mg base 2 "chosen_from" ["stretches","sums"] (NZ K):=by
 have gH:=@gH P w K mg base T;walk_at "@fB 2 T.d_chosen_from eG";obtain ⟨a,l,us,S,L,m,rfl,hL,hl,hLs,hLl,hm,hok,hSO,q⟩:=h;walk_at "=eG;!)#2^b!)#3^r.5!}-~V*!)#4^({gH}6C$*%~1}.+%}/#3^!4J'$+%)#3^1/3+%,}0{T.b_sorted}E";have hs:1000<=sizeLine:=by decide
 have hul:=hL.len;apply iG rfl fun c nc=>?_
 apply iB (SqL.of (aY nc hLs)) ?_;have em:(((L.map V.int).length:Nat):Int) - 1=(m:Int):=by rw [Y6,hLl];omega
 rw [em]
 refine Jv (fun U H'=>∃ (e:Nat) (cs:List Nat) (x4:Option V),U=[some (.ref a),some (.ref l),some (.ref c),some (.int e),x4]/\e<=m/\Same H H'/\H' c=some (.lst ((nI cs).map V.int))/\cs.length+e<=m/\(∀ i∈cs,i < S.length/\e<=bb S i)/\cs.Pairwise (fun i j=>ee S j<=bb S i)/\wsum S cs+L.getD e 0=L.getD m 0) mu3
  ⟨m,[],none,rfl,Y4 _,(Same.refl H).upd nc,aj,by simp,(fun i hi=>by cases hi),.nil,by unfold wsum;simp⟩ ?_ ?_
 ·rintro U H' ⟨e,cs,x4,rfl,he,s,hc,hcl,hin,hpw,hw⟩
  have hL':=hL.same s;have hLs':=s _ _ hLs;walk_at "s";refine qm (fun h0=>?_) (fun h0=>?_)
  ·walk_at "s"
   refine ⟨a,l,us,S,L,e,rfl,hL',hl,hLs',by omega,by rw [hLl];exact hok,fun i t hti hte htw H1 S1=>?_,fun hno H1 S1=>?_⟩
   ·have okt:=hok t (Zj hti)
    have hil:i < S.length:=(Y0.mp hti).1;have hc1:=S1 _ _ hc;walk_at "s";rw [Zd (fun h=>by cases h)];walk_at "s";apply ⟨.inl ⟨rfl,_,SqL.of hc1⟩,?_⟩;apply bF hc1 (by unfold nI;simp;omega) ?_;have hus:us[i]?=some (us[i]'(by omega)):=YX _;obtain ⟨t',ad,hti',hua,hta⟩:=rB (hL'.same S1).2 hus;rw [hti] at hti';cases hti'
    have hca:a≠c:=fun z=>by
     have h1:=hL.1;rw [z,nc] at h1;cases h1
    have hta2:upd H1 c (.lst ((nI cs).map V.int ++ [.int i])) ad=some (.tup [.int t.w,.int t.b,.int t.e]):=by
     rw [aC (fun z=>by rw [z,hc1] at hta;cases hta)];exact hta
    have ha2:upd H1 c (.lst ((nI cs).map V.int ++ [.int i])) a=some (.lst us):=by rw [aC hca];exact (hL'.same S1).1
    apply aU (SqL.of ha2) (cG (j:=i) (hus.trans (by rw [hua]))) ?_;try refine fK (SqT.of hta2) (cG (j:=1) rfl) ?_
    walk_at "s";refine ⟨⟨t.b,cs ++ [i],_,rfl,by have:=okt.2.2;omega,Same.put (s.trans S1) nc,?_,by simp;have:=okt.2.2;omega,fun j hj=>?_,?_,?_⟩,?_⟩
    ·unfold nI
     rw [Zg,Zg];exact aj
    ·rcases Zh.mp hj with h | h
     ·have:=hin j h
      exact ⟨this.1,by have:=okt.2.2;omega⟩
     ·rw [ZD.mp h,Gb hti];exact ⟨hil,Y4 _⟩
    ·rw [Zy]
     refine ⟨hpw,Aa0 _ _,fun j hj k hk=>?_⟩;rw [ZD.mp hk,Gd hti,hte];exact (hin j hj).2
    ·rw [yG,Ss hti]
     omega
    ·show t.b < (e:Int).toNat
     have:=okt.2.2;omega
   ·walk_at "s"
    rw [Zc rfl];walk_at "s"
    have hep:L.getD e 0=L.getD (e - 1) 0:=by
     rcases hSO.why e (by omega) (by omega) with h | ⟨t,ht,h1,h2⟩
     ·exact h
     ·exact absurd h2.symm (hno t ht h1)
    refine ⟨⟨e - 1,cs,some .non,?_,by omega,s.trans S1,S1 _ _ hc,by omega,fun i hi=>⟨(hin i hi).1,by have:=(hin i hi).2;omega⟩,hpw,by omega⟩,?_⟩
    ·rw [show ((e - 1:Nat):Int)=(e:Int) - 1 by omega];rfl
    ·show ((e:Int) - 1).toNat < (e:Int).toNat
     omega
  ·have e0:e=0:=by omega
   subst e0;walk_at "s";have hcl2:cs.length<=24:=by omega
   apply Lr hc (by unfold nI;simp;omega) fun q1 ms nq perm pw=>?_
   obtain ⟨ns,rfl,hp⟩:=NQ perm
   have nod:cs.Nodup:=by
    refine hpw.imp_of_mem fun {i j} hi hj h=>?_
    intro e;subst e;obtain ⟨t,ht⟩:∃ t,S[i]?=some t:=⟨_,YX (hin i hi).1⟩;rw [Gb ht,Gd ht] at h;have:=(hok t (Zj ht)).2.2;omega
   refine q q1 ns _ (Same.back s nq) (s.upd nq) aj (by rw [hp.length_eq];exact hcl2) ⟨fun i hi=>(hin i (hp.mem_iff.mp hi)).1,strict pw (hp.nodup_iff.mpr nod),fun i hi j hj ne=>?_⟩ ?_
   ·have sym:cs.Pairwise (fun i j=>ee S i<=bb S j\/ee S j<=bb S i):=hpw.imp fun h=>.inr h
    exact yH (fun _ _ h=>h.symm) sym i (hp.mem_iff.mp hi) j (hp.mem_iff.mp hj) ne
   ·rw [IK hp]
    have:=hSO.zero;omega
 ·rintro U H Q Q' h ⟨v,e,i,j,e1,e2,k,e3,q⟩
  exact ⟨v,e,i,j,e1,e2,k,e3,h _ _ q⟩
def Rq (K:W.Frag):Sp:=fun vs H Q _=>∃ (m:Nat) (a:Addr) (us:List V) (S:List Sn),vs=[.int m,.ref a]/\m<=24/\Lsn H a us S/\S.length<=400/\(∀ s∈S,s.ok m)/\
 ∀ (t ch pr:Addr) (L:List Int) (ms:List Nat) (H':Hp),H ch=none->H pr=none->ch≠pr->Same H H'->H' t=some (.tup [.int (L.getD m 0),.ref ch,.ref pr])->H' ch=some (.lst ((nI ms).map V.int))->H' pr=some (.lst ((prs L m).map V.int))->
  L.length=m+1->SumsOk S L->ms.length<=24->NP S ms->wsum S ms=L.getD m 0->Q (.ref t) H'
theorem xn:aD ["many","stretches","sums","prices"] ["many","stretches"] (az vH):=⟨rfl,rfl,rfl,by trivial,rfl,by trivial,by trivial⟩
theorem zH (T:Txt K mg):lN P w K mg base 6 "apart" ["many","stretches"] (Rq K):=by
 have jh:=@jh P w K mg base T;have lL:=@lL P w K mg base T;have lM:=@lM P w K mg base T;walk_at "@fB 2 T.d_apart xn";obtain ⟨m,a,us,S,rfl,hm,hL,hl,hok,q⟩:=h;walk_at "=xn;!4({jh}65!~9#2^({lL}65!~&#3^<.2>L[many stretches sums prices]}1[place sums]V9H#0{Ea}S/fDF/fF%,a&/po&({lM}C$p$*";have hs:1000<=sizeLine:=by decide
 apply ⟨m,a,us,S,rfl,hm,hL,hl,hok,fun H1 S1=>?_⟩;apply ⟨m,a,us,S,rfl,hm,hL.same S1,hl,hok,fun sm L H2 nsm S2 hsm hLl hSO=>?_⟩;refine ⟨_,rfl,by omega,by omega,?_⟩;refine mF (n:=m) (fun i ys H'=>H'=H2/\ys=((prs L m).take i).map V.int) (by omega) ⟨rfl,rfl⟩ ?_ ?_ ?_
 ·rintro i ys H' ⟨_,rfl⟩
  simp;omega
 ·rintro i ys H' hi ⟨rfl,rfl⟩
  have ep:(prs L m)[i]?=some (L.getD (i+1) 0 - L.getD i 0):=by
   unfold prs;rw [Y9,Aab hi];rfl
  walk_at "s";apply ⟨KeepSt.set rfl,?_⟩;apply aU (SqL.of hsm) (lK (k:=i+1) (by omega) (by omega)) ?_;apply aU (SqL.of hsm) (lK (k:=i) (by omega) (by omega)) ?_;refine ⟨rfl,?_⟩;rw [Z9,ep,Zg];rfl
 ·rintro ys H' ⟨rfl,rfl⟩ pr npr
  rw [ZC (by rw [qj];exact Y4 _)];have hpr:upd H' pr (.lst ((prs L m).map V.int)) pr=some (.lst ((prs L m).map V.int)):=aj;have S3:Same H' (upd H' pr (.lst ((prs L m).map V.int))):=(Same.refl H').upd npr;generalize upd H' pr (.lst ((prs L m).map V.int))=H3 at hpr S3 ⊢;have hsm3:=S3 _ _ hsm;have S13:=(S1.trans S2).trans S3;walk_at "s";apply aU (SqL.of hsm3) (Ga hLl) ?_;apply ⟨a,sm,us,S,L,m,rfl,hL.same S13,hl,hsm3,hLl,hm,hok,hSO,fun ch ms H4 nch S4 hch hml hC hw=>?_⟩;refine iG rfl fun t nt=>?_
  refine q t ch pr L ms _ (Same.back S13 nch) (Same.back (S1.trans S2) npr) (fun z=>by rw [z,hpr] at nch;cases nch) ((S13.trans S4).upd nt) aj (aY nt hch) (aY nt (S4 _ _ hpr)) hLl hSO hml hC hw
theorem IV:aD ["_law_script","_law_k"] ["_law_script","_law_k"] (az wV):=⟨rfl,rfl,rfl,by trivial,rfl,by trivial,by trivial⟩
theorem gq (T:Txt K mg):lN P w K mg base 1 "_law_at" ["_law_script","_law_k"] (VB K):=by
 walk_at "@fB 2 T.d_law_at IV";obtain ⟨a,ns,k,rfl,hS,h0,q⟩:=h;walk_at "=_;!T~:0.9%,/30%}2";apply ⟨_,_,rfl,.inl ⟨_,hS,rfl⟩,?_⟩;refine qm (fun hk=>?_) (fun hk=>?_)
 ·rw [Y6] at hk
  walk_at "s";refine aU hS (vy (v:=.int (ns.getD k.toNat 0)) h0 ?_) (q _);rw [Y9,Y7,YX (by omega)];rfl
 ·walk_at "s"
  exact q _
def Yp:Sp:=fun vs H Q _=>∃ n k:Int,vs=[.int n,.int k]/\∀ r,Q (.int r) H
theorem rC:aD ["_law_cell","_law_k","_law_one","_law_two_here"] ["_law_cell","_law_k"] (az ur):=⟨rfl,rfl,rfl,by trivial,rfl,by trivial,by trivial⟩
theorem iy (T:Txt K mg):lN P w K mg base 1 "_law_mix" ["_law_cell","_law_k"] Yp:=by
 walk_at "@fB 2 T.d_law_mix rC";obtain ⟨n,k,rfl,q⟩:=h;walk_at "=rC;!)#2^R}3D?R3|0!)#3^R~3DR'D?t'Rt3%,t*";exact q _
theorem zJ:aD ["_law_found"] ["_law_found"] (az pC):=⟨rfl,rfl,rfl,by trivial,rfl,by trivial,by trivial⟩
theorem cL (T:Txt K mg):lN P w K mg base 1 "_law_whole" ["_law_found"] QF:=by
 walk_at "@fB 1 T.d_law_whole zJ";obtain ⟨n,rfl,q⟩:=h;walk_at "=_;%,cY6$~K{T.b_int}j~6Y6~'";apply iQ (.int _) rfl ?_;apply iQ (.int _) rfl ?_;exact q
theorem xQ:(["_law_k"]:List Str).Nodup:=by trivial
structure N5 (S:List Sn) (m:Nat) (B:List Int) (p0:Nat):Prop where
 len:B.length=m+1
 last:B.getD m 0=0
 up:∀ p,p0<=p->p < m->B.getD (p+1) 0<=B.getD p 0
 put:∀ s∈S,p0<=s.b->s.w+B.getD s.e 0<=B.getD s.b 0
 why:∀ p,p0<=p->p < m->B.getD p 0=B.getD (p+1) 0\/∃ s∈S,s.b=p/\B.getD p 0=s.w+B.getD s.e 0
theorem jq {B:List Int} {p:Nat} {v:Int} (h:p < B.length):(B.set p v).getD p 0=v:=by
 rw [Y7,AaB h];rfl
theorem fV {B:List Int} {p q:Nat} {v:Int} (h:q≠p):(B.set p v).getD q 0=B.getD q 0:=by
 rw [Y7,Y7,Aai (fun z=>h z.symm)]
def Wc (K:W.Frag):Sp:=fun vs H Q _=>∃ (m:Nat) (a:Addr) (us:List V) (S:List Sn),vs=[.int m,.ref a]/\m<=24/\Lsn H a us S/\S.length<=400/\(∀ s∈S,s.ok m)/\∀ (B:List Int) H',Same H H'->NB S m B->Q (.int (B.getD 0 0)) H'
theorem iz:aD ["_law_many","_law_spans_here","_law_best_here","_law_place","_law_worth","_law_begin","_law_end"] ["_law_many","_law_spans_here"] (az nG):=⟨rfl,rfl,rfl,by trivial,rfl,by trivial,by trivial⟩
theorem rD (T:Txt K mg):lN P w K mg base 1 "_law_best" ["_law_many","_law_spans_here"] (Wc K):=by
 walk_at "@fB 2 T.d_law_best iz";obtain ⟨m,a,us,S,rfl,hm,hL,hl,hok,q⟩:=h;walk_at "=iz;!}4#2^<.>L[_law_many _law_spans_here _law_best_here _law_place _law_worth _law_begin _law_end]}5[_law_k]V$D3H#0{xQ}!7}6{T.b_range}&r3&o$o2#3^!~$/'D*y'*%7Q0WI2#4^I`N2#6^%TM~=gd-*~?s?+/'8/'*%~$?+/'8y'*%,1'";have hs:2000<=sizeLine:=by decide
 have hul:=hL.len;refine ⟨_,rfl,by omega,by omega,?_⟩;have em:((m:Int)+1).toNat=m+1:=by omega
 rw [em];refine mF (n:=m+1) (fun i ys H'=>H'=H/\ys=(List.replicate i (0:Int)).map V.int) (by omega) ⟨rfl,rfl⟩ ?_ ?_ ?_
 ·rintro i ys H' ⟨_,rfl⟩
  simp
 ·rintro i ys H' hi ⟨rfl,rfl⟩
  walk_at "s";apply ⟨KeepSt.set rfl,?_⟩;refine ⟨rfl,?_⟩;rw [AbJ,Zg];rfl
 rintro ys H' ⟨rfl,rfl⟩ bt nbt;have S1:Same H' (upd H' bt (.lst ((List.replicate (m+1) (0:Int)).map V.int))):=(Same.refl H').upd nbt;have hb1:upd H' bt (.lst ((List.replicate (m+1) (0:Int)).map V.int)) bt=some (.lst ((List.replicate (m+1) (0:Int)).map V.int)):=aj;generalize upd H' bt (.lst ((List.replicate (m+1) (0:Int)).map V.int))=H1 at S1 hb1 ⊢;walk_at "s";refine ⟨(m:Int) - 1,-1,-1,m,rfl,by decide,PyProof.noPylong_small (by decide),small_down (by omega) (by omega),Hn,?_⟩
 refine Lq (n:=m) (fun i U H2=>∃ (B:List Int) (x3 x4 x5 x6:Option V),U=[some (.int m),some (.ref a),some (.ref bt),x3,x4,x5,x6]/\Same H' H2/\H2 bt=some (.lst (B.map V.int))/\i<=m/\N5 S m B (m - i))
  ⟨List.replicate (m+1) 0,_,_,_,_,rfl,S1,hb1,by omega,by simp,by simp [Y7],(fun p h1 h2=>by omega),(fun s hs h1=>by have:=(hok s hs).2.2;omega),fun p h1 h2=>by omega⟩ ?_ ?_
 ·rintro i U H2 hi ⟨B,x3,x4,x5,x6,rfl,s,hb,_,bf⟩
  obtain ⟨p,hp⟩:∃ p:Nat,p+1+i=m:=⟨m - 1 - i,by omega⟩;have ep:(m:Int) - 1+(i:Int)*(-1)=(p:Int):=by omega
  have bl:=bf.len;rw [ep];walk_at "s";apply aU (SqL.of hb) (lK (k:=p+1) (by omega) (by omega)) ?_;apply bK hb (Nb (p:=p) rfl (by rw [Y6];omega)) ?_;have hb3:upd H2 bt (.lst ((B.map V.int).set p (.int (B.getD (p+1) 0)))) bt=some (.lst ((B.set p (B.getD (p+1) 0)).map V.int)):=by rw [aj,List.map_set]
  have s3:Same H' (upd H2 bt (.lst ((B.map V.int).set p (.int (B.getD (p+1) 0))))):=Same.put s nbt;generalize upd H2 bt (.lst ((B.map V.int).set p (.int (B.getD (p+1) 0))))=H3 at hb3 s3 ⊢;refine .inl ⟨a,rfl,⟨_,SqL.of (hL.same s3).1⟩,?_⟩
  refine jN (xs:=us) (fun j U H4=>∃ (B':List Int) (x4 x5 x6:Option V),U=[some (.int m),some (.ref a),some (.ref bt),some (.int p),x4,x5,x6]/\Same H' H4/\H4 bt=some (.lst (B'.map V.int))/\B'.length=m+1/\(∀ q,q≠p->B'.getD q 0=B.getD q 0)/\B'.getD (p+1) 0<=B'.getD p 0/\
    (∀ s∈S.take j,s.b=p->s.w+B'.getD s.e 0<=B'.getD p 0)/\(B'.getD p 0=B'.getD (p+1) 0\/∃ s∈S,s.b=p/\B'.getD p 0=s.w+B'.getD s.e 0))
   ⟨B.set p (B.getD (p+1) 0),_,_,_,rfl,s3,hb3,by simp;omega,fun q hq=>fV hq,by rw [jq (by omega),fV (by omega)];exact Aa7 _,(fun s hs=>by simp at hs),.inl (by rw [jq (by omega),fV (by omega)])⟩ (fun i U H4 _ h=>?_) ?_ ?_
  ·obtain ⟨_,_,_,_,_,s,_⟩:=h
   exact SqL.of (hL.same s).1
  ·rintro j v U H4 hj ⟨B',x4,x5,x6,rfl,s4,hb4,hl4,hne,hup,hput,hwhy⟩
   obtain ⟨t,ad,hti,rfl,ht⟩:=rB (hL.same s4).2 hj;have okt:=hok t (Zj hti);have tk:S.take (j+1)=S.take j ++ [t]:=by rw [Z9,hti];rfl
   apply bx (SqT.of ht) rfl ?_;rw [jY];refine qm (fun hb=>?_) (fun hb=>?_)
   ·have hbp:t.b=p:=by omega
    have hte:t.e < B'.length:=by have:=okt.2.2;omega
    walk_at "s";apply aU (SqL.of hb4) (lK (k:=t.e) hte rfl) ?_;apply aU (SqL.of hb4) (lK (k:=p) (by omega) rfl) ?_;refine qm (fun hgt=>?_) (fun hgt=>?_)
    ·walk_at "s"
     apply aU (SqL.of hb4) (lK (k:=t.e) hte rfl) ?_;apply bK hb4 (Nb (p:=p) rfl (by rw [Y6];omega)) ?_;refine ⟨B'.set p (t.w+B'.getD t.e 0),_,_,_,rfl,Same.put s4 nbt,by rw [aj,List.map_set],by simp;omega,fun q hq=>by rw [fV hq];exact hne q hq,?_,?_,?_⟩
     ·rw [jq (by omega),fV (by omega)];omega
     ·intro u hu hub
      have oku:=hok u (by rcases Zh.mp (tk ▸ hu) with h | h;exact Aaz h;rw [ZD.mp h];exact Zj hti);rw [jq (by omega),fV (by have:=oku.2.2;omega)];rw [tk] at hu;rcases Zh.mp hu with h | h
      ·have:=hput u h hub;omega
      ·rw [ZD.mp h];omega
     ·refine .inr ⟨t,Zj hti,hbp,?_⟩
      rw [jq (by omega),fV (by have:=okt.2.2;omega)]
    ·walk_at "s"
     refine ⟨B',_,_,_,rfl,s4,hb4,hl4,hne,hup,fun u hu hub=>?_,hwhy⟩;rw [tk] at hu;rcases Zh.mp hu with h | h
     ·exact hput u h hub
     ·rw [ZD.mp h];omega
   ·walk_at "s"
    refine ⟨B',_,_,_,rfl,s4,hb4,hl4,hne,hup,fun u hu hub=>?_,hwhy⟩;rw [tk] at hu;rcases Zh.mp hu with h | h
    ·exact hput u h hub
    ·rw [ZD.mp h] at hub;omega
  ·rintro U H4 ⟨B',x4,x5,x6,rfl,s4,hb4,hl4,hne,hup,hput,hwhy⟩
   rw [ZC (by omega)] at hput;refine ⟨B',_,_,_,_,rfl,s4,hb4,by omega,hl4,by rw [hne m (by omega)];exact bf.last,fun r h1 h2=>?_,fun u hu h1=>?_,fun r h1 h2=>?_⟩
   ·by_cases hr:r=p
    ·subst hr;exact hup
    ·rw [hne r hr,hne (r+1) (by omega)];exact bf.up r (by omega) h2
   ·have oku:=hok u hu
    by_cases hr:u.b=p
    ·have:=hput u hu hr
     rw [hr];exact this
    ·rw [hne u.b hr,hne u.e (by have:=oku.2.2;omega)];exact bf.put u hu (by omega)
   ·by_cases hr:r=p
    ·subst hr;exact hwhy
    ·rw [hne r hr,hne (r+1) (by omega)]
     rcases bf.why r (by omega) h2 with h | ⟨u,hu,h3,h4⟩
     ·exact .inl h
     ·exact .inr ⟨u,hu,h3,by rw [hne u.e (by have:=(hok u hu).2.2;omega)];exact h4⟩
 ·rintro U H2 ⟨B,x3,x4,x5,x6,rfl,s,hb,_,bf⟩
  rw [AaO] at bf;walk_at "s";exact aU (SqL.of hb) (lK (k:=0) (by rw [bf.len];omega) rfl) (q B _ s ⟨bf.last,fun p h=>bf.up p (by omega) h,fun t ht=>bf.put t ht (by omega),fun p h=>bf.why p (by omega) h⟩)
theorem vo:(["_law_k"]:List Str).Nodup:=by trivial
theorem Rr {F:List Bool} {k:Nat} {j:Int} (hk:k < F.length) (hj:j=(k:Int)):uX (F.map V.bl) j=some (.bl (F.getD k false)):=by
 subst hj;refine cG ?_;rw [Y9,YX hk,Y7,YX hk];rfl
theorem IW {S:List Sn} {ms:List Nat} {k i:Nat} (h:ms[k]?=some i):wsum S (ms.take (k+1))=wsum S (ms.take k)+ww S i:=by
 rw [Z9,h];exact yG S _ i
def Yq (K:W.Frag):Sp:=fun vs H Q _=>∃ (m:Nat) (a ch:Addr) (us:List V) (S:List Sn) (ms:List Nat) (W:Int),vs=[.int m,.ref a,.ref ch,.int W]/\m<=24/\Lsn H a us S/\S.length<=400/\(∀ s∈S,s.ok m)/\H ch=some (.lst ((nI ms).map V.int))/\ms.length<=24/\NP S ms/\W=wsum S ms/\∀ H',Same H H'->Q (.bl true) H'
theorem cW:aD ["_law_many","_law_spans_here","_law_chosen_here","_law_worth","_law_free","_law_last","_law_at_here","_law_place"] ["_law_many","_law_spans_here","_law_chosen_here","_law_worth"] (az jG):=⟨rfl,rfl,rfl,by trivial,rfl,by trivial,by trivial⟩
theorem n6 (T:Txt K mg):lN P w K mg base 2 "_law_chosen" ["_law_many","_law_spans_here","_law_chosen_here","_law_worth"] (Yq K):=by
 have cL:=@cL P w K mg base T;walk_at "@fB 4 T.d_law_chosen cW";obtain ⟨m,a,ch,us,S,ms,W,rfl,hm,hL,hl,hok,hch,hml,hC,hW,q⟩:=h;walk_at "=cW;!GA:Y&'$~)!}7#4^<.>L[_law_many _law_spans_here _law_chosen_here _law_worth _law_free _law_last _law_at_here _law_place]}8[_law_k]V9H#0{vo}!)#5^o!7Q'2#6^!GMPA:({cL}$8P~A8-Z~Y8.5!)#5^8!)#3^S*1/08%7~,&1/08$1/082#7^!GA:/+X%}9y+X%,}:d*";have hs:2000<=sizeLine:=by decide
 have hul:=hL.len;apply iQ (.lst hch) rfl ?_;refine ⟨_,rfl,by omega,by omega,?_⟩;have em:((m:Nat):Int).toNat=m:=by omega
 rw [em];refine mF (n:=m) (fun i ys H'=>H'=H/\ys=(List.replicate i true).map V.bl) (by omega) ⟨rfl,rfl⟩ ?_ ?_ ?_
 ·rintro i ys H' ⟨_,rfl⟩
  simp
 ·rintro i ys H' hi ⟨rfl,rfl⟩
  walk_at "s";apply ⟨KeepSt.set rfl,?_⟩;refine ⟨rfl,?_⟩;rw [AbJ,Zg];rfl
 rintro ys H' ⟨rfl,rfl⟩ fr nfr;have S1:Same H' (upd H' fr (.lst ((List.replicate m true).map V.bl))):=(Same.refl H').upd nfr;have hf1:upd H' fr (.lst ((List.replicate m true).map V.bl)) fr=some (.lst ((List.replicate m true).map V.bl)):=aj;generalize upd H' fr (.lst ((List.replicate m true).map V.bl))=H1 at S1 hf1 ⊢;walk_at "s";refine .inl ⟨ch,rfl,⟨_,SqL.of (S1 _ _ hch)⟩,?_⟩
 refine jN (xs:=(nI ms).map V.int) (fun k U H2=>∃ (F:List Bool) (la:Int) (x6 x7:Option V),U=[some (.int m),some (.ref a),some (.ref ch),some (.int (W - wsum S (ms.take k))),some (.ref fr),some (.int la),x6,x7]/\Same H' H2/\H2 fr=some (.lst (F.map V.bl))/\F.length=m/\
   (∀ i∈ms.drop k,la < (i:Int))/\∀ p,p < m->(∀ i∈ms.take k,¬ (bb S i<=p/\p < ee S i))->F.getD p false=true)
  ⟨List.replicate m true,-1,_,_,by rw [List.take_zero,show wsum S []=0 from rfl,Int.sub_zero];rfl,S1,hf1,by simp,(fun i _=>by omega),fun p hp _=>by simp [Y7,List.getElem?_replicate,hp]⟩ (fun i U H2 _ h=>?_) ?_ ?_
 ·obtain ⟨_,_,_,_,_,s,_⟩:=h
  exact SqL.of (s _ _ hch)
 ·rintro k v U H2 hk ⟨F,la,x6,x7,rfl,s,hf,hFl,hla,hF⟩
  obtain ⟨i,hi,rfl⟩:∃ i,ms[k]?=some i/\v=V.int (i:Int):=by
   unfold nI at hk;rw [Y9,Y9] at hk;cases e:ms[k]? with
   | none=>rw [e] at hk;cases hk
   | some y=>rw [e] at hk;exact ⟨y,rfl,(Zm hk).symm⟩
  have himem:=Zj hi;have hkl:k < ms.length:=(Y0.mp hi).1
  have hdrop:ms.drop k=i :: ms.drop (k+1):=by
   rw [ZW hkl]
   congr 1
   rw [YX hkl] at hi;exact Zm hi
  have hil:=hC.lt i himem;obtain ⟨t,ht⟩:∃ t,S[i]?=some t:=⟨_,YX hil⟩;have okt:=hok t (Zj ht);have hus:us[i]?=some (us[i]'(by omega)):=YX _;have hL2:=hL.same s;obtain ⟨t',ad,ht',hua,had⟩:=rB hL2.2 hus;rw [ht] at ht';cases ht';rw [hua] at hus;have hlai:la < (i:Int):=hla i (by rw [hdrop];simp);walk_at "s";apply ⟨_,rfl,?_⟩;rw [Zd (show ¬ (i:Int)<=la by omega)];walk_at "s";apply iB (SqL.of hL2.1) ?_;rw [Zd (show ¬ ((us.length:Int))<=(i:Int) by omega)];walk_at "s";apply aU (SqL.of hL2.1) (cG (j:=i) hus) ?_;apply aU (SqL.of hL2.1) (cG (j:=i) hus) ?_;apply aU (SqL.of hL2.1) (cG (j:=i) hus) ?_;refine ⟨⟨by omega,by have:=okt.2.2;omega,by omega,by have:=okt.2.2;omega⟩,?_⟩;have en:((t.e:Int) - (t.b:Int)).toNat=t.e - t.b:=by omega
  rw [en];have hwt:W - wsum S (ms.take k) - (t.w:Int)=W - wsum S (ms.take (k+1)):=by rw [IW hi,Ss ht];omega
  rw [hwt]
  have hdis:∀ p,t.b<=p->p < t.e->∀ j∈ms.take k,¬ (bb S j<=p/\p < ee S j):=fun p h1 h2 j hj h3=>by
   have hji:j≠i:=by
    have:=Aar.mp hC.up;obtain ⟨x,hx,e⟩:=ZQ.mp hj;rw [Aac] at hx;rw [List.getElem_take] at e;have:=this x k (by omega) hkl (by omega);rw [YX hkl] at hi;have:=Zm hi;omega
   have:=hC.ap j (Aaz hj) i himem hji;rw [Gb ht,Gd ht] at this;omega
  refine gJ (n:=t.e - t.b) (fun j U H3=>∃ (F':List Bool) (x7:Option V),U=[some (.int m),some (.ref a),some (.ref ch),some (.int (W - wsum S (ms.take (k+1)))),some (.ref fr),some (.int i),some (.int i),x7]/\Same H' H3/\H3 fr=some (.lst (F'.map V.bl))/\F'.length=m/\
    ∀ p,p < m->(∀ i∈ms.take k,¬ (bb S i<=p/\p < ee S i))->¬ (t.b<=p/\p < t.b+j)->F'.getD p false=true)
   ⟨F,_,rfl,s,hf,hFl,fun p hp h _=>hF p hp h⟩ ?_ ?_
  ·rintro j U H3 hj ⟨F',x7,rfl,s3,hf3,hl3,hF3⟩
   have hp:t.b+j < m:=by have:=okt.2.2;omega
   have hval:F'.getD (t.b+j) false=true:=hF3 _ hp (hdis _ (by omega) (by omega)) (by omega);walk_at "s";apply aU (SqL.of hf3) (Rr (k:=t.b+j) (by omega) (by omega)) ?_;rw [hval];walk_at "s";apply bK hf3 (Nb (p:=t.b+j) (by omega) (by rw [Y6];omega)) ?_;refine ⟨F'.set (t.b+j) false,_,rfl,Same.put s3 nfr,by rw [aj,List.map_set],by simp;omega,fun p hp h1 h2=>?_⟩;have hne:p≠t.b+j:=by omega
   rw [Y7,Aai (fun z=>hne z.symm),← Y7];exact hF3 p hp h1 (by omega)
  ·rintro U H3 ⟨F',x7,rfl,s3,hf3,hl3,hF3⟩
   refine ⟨F',i,_,_,rfl,s3,hf3,hl3,fun j hj=>?_,fun p hp h=>hF3 p hp (fun j hj=>h j ?_) (fun h4=>h i ?_ ?_)⟩
   ·have:=hC.up
    rw [← Aba k ms,Zy] at this;have:=this.2.1;rw [hdrop,List.pairwise_cons] at this;have:=this.1 j hj;omega
   ·rw [Z9];exact Zw _ hj
   ·rw [Z9,hi];simp
   ·rw [Gb ht,Gd ht];omega
 ·rintro U H2 ⟨F,la,x6,x7,rfl,s,hf,hFl,hla,hF⟩
  have e1:W - wsum S (ms.take ((nI ms).map V.int).length)=0:=by
   unfold nI;rw [Y6,Y6,AbO];omega
  rw [e1];walk_at "s";exact q _ s
def Yr (K:W.Frag):Sp:=fun vs H Q _=>∃ (m:Nat) (a pr:Addr) (us:List V) (S:List Sn) (L:List Int) (W:Int),vs=[.int m,.ref a,.ref pr,.int W]/\m<=24/\Lsn H a us S/\S.length<=400/\(∀ s∈S,s.ok m)/\H pr=some (.lst ((prs L m).map V.int))/\L.length=m+1/\SumsOk S L/\W=L.getD m 0/\∀ H',Same H H'->Q (.bl true) H'
theorem gr:aD ["_law_many","_law_spans_here","_law_prices_here","_law_worth","_law_price","_law_least","_law_begin","_law_end"] ["_law_many","_law_spans_here","_law_prices_here","_law_worth"] (az nH):=⟨rfl,rfl,rfl,by trivial,rfl,by trivial,by trivial⟩
theorem n8 (T:Txt K mg):lN P w K mg base 2 "_law_prices" ["_law_many","_law_spans_here","_law_prices_here","_law_worth"] (Yr K):=by
 have cL:=@cL P w K mg base T;walk_at "@fB 4 T.d_law_prices gr";obtain ⟨m,a,pr,us,S,L,W,rfl,hm,hL,hl,hok,hpr,hLl,hSO,hW,q⟩:=h;walk_at "=gr;!GMPA:Y&'$~)Zg~!.E3!7Q'2#4^%GMPA:({cL}$+Z}=+!7Q0WI`I2#6^N2#7^%G~:~Z~_{T.b_sum}$~`}?'u8uX-%,nd~Z~_{T.b_sum}E*";have hul:=hL.len;apply iQ (.lst hpr) rfl ?_;apply iB (SqL.of hpr) ?_;rw [jY,Zc (show (((prs L m).map V.int).length:Int)=(m:Int) by rw [Y6,qj])];walk_at "s";refine .inl ⟨pr,rfl,⟨_,SqL.of hpr⟩,?_⟩;refine jN (xs:=(prs L m).map V.int) (fun k U H2=>H2=H/\∃ x4:Option V,U=[some (.int m),some (.ref a),some (.ref pr),some (.int W),x4,none,none,none]) ⟨rfl,_,rfl⟩ (fun i U H2 _ h=>by rw [h.1];exact SqL.of hpr) ?_ ?_
 ·rintro k v U H2 hk ⟨rfl,x4,rfl⟩
  have hkm:k < m:=by have:=(Y0.mp hk).1;rw [Y6,qj] at this;exact this
  obtain ⟨x,hx0,rfl⟩:∃ x,0<=x/\v=V.int x:=by
   unfold prs at hk;rw [Y9,Y9,Aab hkm] at hk;refine ⟨_,?_,(Zm hk).symm⟩;have:=hSO.up (k+1) (by omega) (by omega);rw [show k+1 - 1=k by omega] at this;show 0<=L.getD (k+1) 0 - L.getD k 0;omega
  walk_at "s";apply ⟨_,rfl,?_⟩;rw [Zd (show ¬ x < 0 by omega)];walk_at "s";exact ⟨rfl,_,rfl⟩
 ·rintro U H2 ⟨rfl,x4,rfl⟩
  walk_at "s";refine .inl ⟨a,rfl,⟨_,SqL.of hL.1⟩,?_⟩;refine jN (xs:=us) (fun k U H3=>Same H2 H3/\∃ x5 x6 x7:Option V,U=[some (.int m),some (.ref a),some (.ref pr),some (.int W),x4,x5,x6,x7]) ⟨Same.refl _,_,_,_,rfl⟩ (fun i U H3 _ h=>SqL.of (h.1 _ _ hL.1)) ?_ ?_
  ·rintro k v U H3 hk ⟨s,x5,x6,x7,rfl⟩
   obtain ⟨t,ad,hti,rfl,ht⟩:=rB (hL.same s).2 hk;have okt:=hok t (Zj hti);apply bx (SqT.of ht) rfl ?_;apply RL (SqL.of (s _ _ hpr)) fun p np=>?_
   have ec:ql ((prs L m).map V.int) (some (t.b:Int)) (some (t.e:Int))=(((prs L m).drop t.b).take (t.e - t.b)).map V.int:=by
    unfold ql;rw [HT.sIx_nat,HT.sIx_nat,Y6,qj,Nat.min_eq_left (by have:=okt.2.2;omega),Nat.min_eq_left (by have:=okt.2.2;omega),List.map_take,List.map_drop]
   rw [ec];apply R6 aj ?_;rw [zF L m t.b (t.e - t.b) (by have:=okt.2.2;omega)];have hp:=hSO.put t (Zj hti) (by have:=okt.2.2;omega);rw [show t.b+(t.e - t.b)=t.e by have:=okt.2.2;omega,Zd (show ¬ L.getD t.e 0 - L.getD t.b 0 < (t.w:Int) by omega)];walk_at "s";exact ⟨s.upd np,_,_,_,rfl⟩
  ·rintro U H3 ⟨s,x5,x6,x7,rfl⟩
   walk_at "s";apply R6 (s _ _ hpr) ?_;rw [Rp,hSO.zero,jY,Zc (show L.getD m 0 - 0=W by omega)];exact q _ s
def Rt (K:W.Frag):Sp:=fun vs H Q _=>∃ (m:Nat) (a t ch pr:Addr) (us:List V) (S:List Sn) (L:List Int) (ms:List Nat) (W:Int),vs=[.int m,.ref a,.ref t,.int W]/\m<=24/\Lsn H a us S/\S.length<=400/\(∀ s∈S,s.ok m)/\H t=some (.tup [.int (L.getD m 0),.ref ch,.ref pr])/\H ch=some (.lst ((nI ms).map V.int))/\H pr=some (.lst ((prs L m).map V.int))/\
 L.length=m+1/\SumsOk S L/\ms.length<=24/\NP S ms/\wsum S ms=L.getD m 0/\W=L.getD m 0/\∀ H',Same H H'->Q (.bl true) H'
theorem zK:aD ["_law_many","_law_spans_here","_law_found","_law_worth"] ["_law_many","_law_spans_here","_law_found","_law_worth"] (az pG):=⟨rfl,rfl,rfl,by trivial,rfl,by trivial,by trivial⟩
theorem pO (T:Txt K mg):lN P w K mg base 3 "_law_right" ["_law_many","_law_spans_here","_law_found","_law_worth"] (Rt K):=by
 have cL:=@cL P w K mg base T;have n6:=@n6 P w K mg base T;have n8:=@n8 P w K mg base T;walk_at "@fB 4 T.d_law_right zK";obtain ⟨m,a,t,ch,pr,us,S,L,ms,W,rfl,hm,hL,hl,hok,ht,hch,hpr,hLl,hSO,hml,hC,hw,hW,q⟩:=h;walk_at "=_;!GMPA:Y&'~7Z~B~!.E!GMPA:({cL}$1'Zg~!1'*%,c({n6}6C&1'$*j({n8}6C&1'$*";subst hW;apply iQ (.tup ht) rfl ?_;apply tZ (SqT.of ht) ?_;rw [show decide (V.int (([V.int (L.getD m 0),.ref ch,.ref pr]:List V).length:Int)=V.int 3)=true from Zc rfl];walk_at "s";apply ⟨_,rfl,?_⟩;rw [jY,Zc rfl];walk_at "s";apply ⟨m,a,ch,us,S,ms,_,rfl,hm,hL,hl,hok,hch,hml,hC,hw.symm,fun H1 S1=>?_⟩;apply fK (SqT.of (S1 _ _ ht)) (cG (j:=2) rfl) ?_;exact ⟨m,a,pr,us,S,L,_,rfl,hm,hL.same S1,hl,hok,S1 _ _ hpr,hLl,hSO,rfl,fun H2 S2=>q _ (S1.trans S2)⟩
end
local macro_rules | `(tactic| walk_at "s") => `(tactic| (with_reducible repeat (first | refine j9 ?_ | walk_at "3")))
local macro_rules | `(tactic| walk_at "n") => `(tactic| (with_reducible repeat (walk_at "3")))
section
variable {P:Program} {w:World} {K:W.Frag} {mg:Str->Option Value} {base:Heap}
theorem vp:(["priced","most"]:List Str).Nodup:=by trivial
def Ja (most:Nat) (p:P3):Sn:=⟨most+1 - p.1,p.2.1,p.2.2⟩
theorem zL {side top:Str} {most n:Nat} {p:P3} (h:p∈vK side top most n) (hn:n<=top.cps.size+1):p.1<=most/\p.2.1 < p.2.2/\p.2.2<=top.cps.size:=by
 unfold vK at h;obtain ⟨b,hb,h⟩:=List.mem_flatMap.mp h;have hb:=ZS.mp hb;unfold nr at h;obtain ⟨k,hk,h⟩:=List.mem_flatMap.mp h;have hk:=ZS.mp hk
 split at h
 ·rename_i hle
  rw [ZD.mp h];exact ⟨hle,by show b < b+(k+1);omega,by show b+(k+1)<=_;omega⟩
 ·cases h
def tri (m:Nat):Nat->Nat
 | 0=>0
 | n+1=>tri m n+(m - n)
theorem Ru:∀ m∈List.range 25,∀ n∈List.range 26,tri m n<=400:=by trivial
theorem Ge (side top:Str) (most:Nat):∀ n,(vK side top most n).length<=tri top.cps.size n
 | 0=>by simp [vK]
 | n+1=>by
  rw [pM,Zv,tri];have:=zE side top most n (top.cps.size - n);have:=Ge side top most n;omega
theorem N6 {most:Nat} (hm:most<=48) {side top:Str} {L:List P3} (hp:L.Perm (vK side top most (top.cps.size+1))):∀ s∈L.map (Ja most),s.ok top.cps.size:=fun s hs=>by
 obtain ⟨p,h,rfl⟩:=Z0.mp hs;obtain ⟨a,b,c⟩:=zL (hp.mem_iff.mp h) (Y4 _);refine ⟨?_,?_,b,c⟩
 ·show 1<=most+1 - p.1;omega
 ·show most+1 - p.1<=1000000;omega
theorem vM {most:Nat} {side top:Str} (ht:top.cps.size<=24) {L:List P3} (hp:L.Perm (vK side top most (top.cps.size+1))):(L.map (Ja most)).length<=400:=by
 rw [Y6,hp.length_eq];exact ZP (Ge side top most _) (Ru _ (ZS.mpr (by omega)) _ (ZS.mpr (by omega)))
def Ys (K:W.Frag) (mg:Str->Option Value):Sp:=fun vs H Q E=>∃ (v u m:V),vs=[v,u,m]/\PT K H v/\PT K H u/\Kd K H m/\(oH v=false->Oe mg "NoPlain" H E v)/\(oH v=true->oH u=false->Oe mg "NoPlain" H E u)/\(oH v=true->oH u=true->inB m 0 48=false->Oe mg "NoPlace" H E m)/\
 ∀ (side top:Str) (most:Nat),v= .str side->u= .str top->m= .int (most:Int)->Pln side->Pln top->most<=48->∀ (L:List P3) (t ch pr:Addr) (W:List Int) (ms:List Nat) (H':Hp),L.Perm (vK side top most (top.cps.size+1))->L.Pairwise Wr->H ch=none->H pr=none->ch≠pr->Same H H'->H' t=some (.tup [.int (W.getD top.cps.size 0),.ref ch,.ref pr])->H' ch=some (.lst ((nI ms).map V.int))->H' pr=some (.lst ((prs W top.cps.size).map V.int))->
  W.length=top.cps.size+1->SumsOk (L.map (Ja most)) W->ms.length<=24->NP (L.map (Ja most)) ms->wsum (L.map (Ja most)) ms=W.getD top.cps.size 0->Q (.ref t) H'
theorem qD:aD ["side","top","most","stretches"] ["side","top","most"] (az jF):=⟨rfl,rfl,rfl,by trivial,rfl,by trivial,by trivial⟩
theorem fY (T:Txt K mg):Am P w K mg base 14 "apart_near" ["side","top","most"] (Ys K mg):=by
 have DY:=@DY P w K mg base T;have zH:=@zH P w K mg base T;walk_at "@Aq 3 T.d_apart_near qD";obtain ⟨v,u,m,rfl,tv,tu,km,q1,q2,q3,q⟩:=h;walk_at "=qD;!~&#3^<.2>L[side top most stretches]}A[priced most]Qk{DY}B6C$pH#0{vp}a&SDf1F&1F$1F%,({zH}&.5$*";have hz:20000<=sizeLine:=by decide
 refine ⟨v,u,m,rfl,tv,tu,km,q1,q2,q3,fun side top most ev eu em ps pt hm f L H1 nf S1 hN=>?_⟩;replace q:=q side top most ev eu em ps pt hm L;subst ev eu em;obtain ⟨ys,hf,hR,hp,hw⟩:=hN;have l2:top.cps.size<=24:=pt.1;have e2:top.length=top.cps.size:=rfl;have hLl:L.length<=400:=by have:=vM l2 hp;rwa [Y6] at this
 have hyl:=hR.1;try walk_at "s"
 refine .inl ⟨f,rfl,⟨_,SqL.of hf⟩,?_⟩;refine wH (xs:=ys) (fun i zs G=>Same H1 G/\DRs G (((L.take i).map (Ja most)).map Sn.dat) zs) (by omega) ⟨Same.refl _,pX.mpr rfl⟩ ?_ (fun i zs G h=>SqL.of (h.1 _ _ hf)) ?_ ?_
 ·rintro i zs G ⟨_,h⟩
  have:=rZ h;simp at this;omega
 ·rintro i zs G v hv ⟨s,h⟩
  have hi:i < L.length:=by rw [← hyl];exact (Y0.mp hv).1
  have ei:=YX hi;obtain ⟨b,rfl,hb⟩:=hR.2 i v _ hv ei;obtain ⟨m1,_,_⟩:=zL (hp.mem_iff.mp (AaT hi)) (Y4 _);generalize L[i]=p at ei hb m1;replace hb:G b=some (.tup [.int (p.1:Int),.int (p.2.1:Int),.int (p.2.2:Int)]):=s _ _ hb;walk_at "s";apply ⟨KeepSt.set rfl,?_⟩;apply fG rfl fun c G2 nc s2 hc=>?_
  refine ⟨s.trans s2,?_⟩;rw [Z9,ei,Zg,Zg];refine qN (DRs.same s2 _ _ h) (vz (Nz.mpr ⟨c,rfl,?_⟩));rw [hc];unfold Ja;rw [show (most:Int)+1 - (p.1:Int)=((most+1 - p.1:Nat):Int) by omega]
 rintro zs G D H2 ⟨s,h⟩ nD S2 hD;try walk_at "s"
 rw [hyl,AbO] at h;apply cQ (by omega) ?_;refine ⟨top.cps.size,D,zs,L.map (Ja most),rfl,l2,⟨hD,DRs.same S2 _ _ h⟩,vM l2 hp,N6 hm hp,fun t ch pr W ms H3 nch npr cp S3 ht hch hpr hWl hSO hml hC hw2=>?_⟩;have U2:=S1.trans (s.trans S2);exact q t ch pr W ms H3 hp hw (Same.back U2 nch) (Same.back U2 npr) cp (U2.trans S3) ht hch hpr hWl hSO hml hC hw2
def YT (n:Nat):Nat:=(Str.ofString "abcdefghijklmnopqrstuvwxyz").cps.toList.getD n 0
theorem Yt:∀ n∈List.range 26,97<=YT n/\YT n < 123:=by trivial
theorem N7 {n:Int} (h0:0<=n) (h1:n < 26):∃ c,uX (Str.ofString "abcdefghijklmnopqrstuvwxyz").cps.toList n=some c/\97<=c/\c < 123:=by
 have hl:(Str.ofString "abcdefghijklmnopqrstuvwxyz").cps.toList.length=26:=by trivial
 have hk:=Yt n.toNat (ZS.mpr (by omega));refine ⟨YT n.toNat,vy h0 ?_,hk⟩;unfold YT;rw [Y7,YX (by rw [hl];omega)];rfl
def Ltr (z:Str):Prop:=∀ c∈z.cps.toList,97<=c/\c < 123
theorem Ltr.nil:Ltr (Str.ofString ""):=fun c hc=>by revert c;trivial
theorem Ltr.app {a b:Str} (ha:Ltr a) (hb:Ltr b):Ltr (a ++ b):=fun c hc=>by
 rw [cps_append] at hc;rcases Zh.mp hc with h | h
 ·exact ha c h
 ·exact hb c h
theorem Ltr.one {c:Nat} (h1:97<=c) (h2:c < 123):Ltr ⟨#[c]⟩:=fun d hd=>by simp at hd;subst hd;exact ⟨h1,h2⟩
theorem zM (z:Str) (k:Nat):(Txt.slice z none (some (k:Int))).length=min k z.length:=by
 have h:=congrArg List.length (Av z k);rw [Aac] at h;have e1:(Txt.slice z none (some (k:Int))).cps.toList.length=(Txt.slice z none (some (k:Int))).length:=ZG;have e2:z.cps.toList.length=z.length:=ZG;rw [e1,e2] at h;exact h
theorem xq (z:Str) (k:Nat):(Txt.slice z (some (k:Int)) none).length=z.length - k:=by
 have h:=congrArg List.length (qO z k);rw [AaS] at h;have e1:(Txt.slice z (some (k:Int)) none).cps.toList.length=(Txt.slice z (some (k:Int)) none).length:=ZG;have e2:z.cps.toList.length=z.length:=ZG;rw [e1,e2] at h;exact h
theorem Ltr.to {z:Str} (h:Ltr z) (k:Nat):Ltr (Txt.slice z none (some (k:Int))):=fun c hc=>h c (by rw [Av] at hc;exact Aaz hc)
theorem Ltr.from {z:Str} (h:Ltr z) (k:Nat):Ltr (Txt.slice z (some (k:Int)) none):=fun c hc=>h c (by rw [qO] at hc;exact Abh hc)
def Yu:Sp:=fun vs H Q _=>∃ (row:Str) (n:Int) (cap:Nat) (wide shift:Int),vs=[.str row,.int n,.int (cap:Int),.int wide,.int shift]/\Ltr row/\row.length<=24/\cap<=24/\0 < wide/\wide<=26/\∀ z H',Same H H'->Ltr z->z.length<=cap->Q (.str z) H'
theorem bM:aD ["_law_row","_law_cell","_law_cap","_law_wide","_law_shift","_law_signs","_law_new","_law_many","_law_k","_law_at_here"] ["_law_row","_law_cell","_law_cap","_law_wide","_law_shift"] (az ut):=⟨rfl,rfl,rfl,by trivial,rfl,by trivial,by trivial⟩
theorem uH (T:Txt K mg):lN P w K mg base 2 "_law_put" ["_law_row","_law_cell","_law_cap","_law_wide","_law_shift"] Yu:=by
 have iy:=@iy P w K mg base T;walk_at "@fB 5 T.d_law_put bM";obtain ⟨row,n,cap,wide,shift,rfl,hL,hl,hc,hw0,hw1,q⟩:=h;refine ⟨_,(au (aL (i:=5) bM.nd rfl bO mH rfl) (au (aL (i:=6) bM.nd rfl bO mH rfl) (au (bN (bH RC (ao 1) (aO Jw aB aB) (by walk_at "p")) (au (aL (i:=7) bM.nd rfl bO (aO cN (ao 1) (aO aJ (ao 2) aB)) rfl) (au (aL (i:=1) bM.nd rfl bO (aO j7 (ao 1) (aO aJ (ao 2) aB)) rfl) (au (bJ Zq rfl (cB aQ T.b_range (aa (ao 7) aq)) (aN (i:=8) bM.nd rfl bO rfl) (au (aL (i:=6) bM.nd rfl bO (aO aJ (ao 6) (bj (K:=K) rfl (ao 5) (aO cN (aO aJ (ao 4) (aO ji aB (aO cN (ao 1) (ao 3)))) aB))) rfl) (aA (aL (i:=1) bM.nd rfl bO (aO j7 (ao 1) (ao 3)) rfl)))) (aA (aH (ao 6)))))) bA) (au (aL (i:=7) bM.nd rfl bO aB rfl) (au (bN (bH (lq (K:=K) rfl hu64) (aO cN (ao 1) aB) aB (by walk_at "p")) (aA (aL (i:=7) bM.nd rfl bO (aO aJ aB (aO cN (aK iy (hr.mono (by decide)) aQ (aa (ao 1) (aa aB aq))) aB)) rfl)) bA) (au (bJ Zq rfl (cB aQ T.b_range (aa (ao 7) aq)) (aN (i:=8) bM.nd rfl bO rfl) (aA (aL (i:=6) bM.nd rfl bO (aO aJ (ao 6) (bj (K:=K) rfl (ao 5) (aO cN (aO aJ (ao 4) (aO ji aB (aO cN (aK iy (hr.mono (by decide)) aQ (aa (ao 1) (aa (aO aJ (ao 8) aB) aq))) (ao 3)))) aB))) rfl))) (au (aL (i:=9) bM.nd rfl bO (aO cN (aK iy (hr.mono (by decide)) aQ (aa (ao 1) (aa aB aq))) (aO aJ (aF (aG (K:=K) rfl) aQ T.b_len bw (aa (ao 0) aq)) aB)) rfl) (aA (aH (kh (m8 (K:=K) rfl) (aO aJ (aO aJ (kh (m8 (K:=K) rfl) (ao 0) pU (jj (ao 9))) (ao 6)) (kh (m8 (K:=K) rfl) (ao 0) (jj (ao 9)) pU)) pU (jj (ao 2)))))))))))),?_⟩;walk_at "n";have hz:20000<=sizeLine:=by decide
 have e0:(Str.ofString "").length=0:=by trivial
 with_reducible refine j9 ?_
 walk_at "n";with_reducible refine j9 ?_
 walk_at "n";with_reducible refine j9 ?_
 walk_at "n";refine qm (fun h18=>?_) (fun h18=>?_)
 ·obtain ⟨K,eK,hK⟩:∃ K:Nat,n % ((cap:Int)+1)=K/\K<=cap:=⟨(n % ((cap:Int)+1)).toNat,by rw [Aa2 (Abx _ (by omega))],by have:=Int.emod_lt_of_pos n (show (0:Int) < (cap:Int)+1 by omega);have:=Abx n (show (cap:Int)+1≠0 by omega);omega⟩
  walk_at "s";rw [eK];refine ⟨_,rfl,by omega,by omega,?_⟩;rw [show ((K:Nat):Int).toNat=K from rfl];refine gJ (n:=K) (fun i U G=>G=H/\∃ (z:Str) (c:Int) (x8:Option V),Ltr z/\z.length=i/\U=[some (.str row),some (.int c),some (.int (cap:Int)),some (.int wide),some (.int shift),some (.str (Str.ofString "abcdefghijklmnopqrstuvwxyz")),some (.str z),some (.int (K:Int)),x8,none]) ⟨rfl,_,_,_,Ltr.nil,e0,rfl⟩ ?_ ?_
  ·rintro i U G hi ⟨rfl,z,c,x8,hz',hzl,rfl⟩
   walk_at "s";obtain ⟨d,ed,d1,d2⟩:=N7 (n:=(shift+5*(c % wide)) % 26) (by omega) (by omega);apply Kw (by trivial) ed ?_;apply mW (by rw [PB];omega) ?_;exact ⟨rfl,_,_,_,hz'.app (.one d1 d2),by rw [pK,hzl];rfl,rfl⟩
  ·rintro U G ⟨rfl,z,c,x8,hz',hzl,rfl⟩
   walk_at "s";exact q z G (Same.refl _) hz' (by omega)
 ·walk_at "n"
  with_reducible refine j9 ?_
  walk_at "n";with_reducible refine XR (fun U G=>G=H/\∃ K:Nat,K<=12/\U=[some (.str row),some (.int n),some (.int (cap:Int)),some (.int wide),some (.int shift),some (.str (Str.ofString "abcdefghijklmnopqrstuvwxyz")),some (.str (Str.ofString "")),some (.int (K:Int)),none,none]) ?_ ?_
  rotate_left
  ·intro N hN
   walk_at "n";refine qm (fun h5=>?_) (fun h5=>?_)
   ·walk_at "n"
    refine ⟨_,_,rfl,fun r=>?_⟩;walk_at "n";exact hN _ _ ⟨rfl,(2+r % 11).toNat,by omega,by rw [Aa2 (by omega)];rfl⟩
   ·walk_at "n"
    exact hN _ _ ⟨rfl,1,by omega,rfl⟩
  rintro U G ⟨rfl,K,hK,rfl⟩;walk_at "s";refine ⟨_,rfl,by omega,by omega,?_⟩;rw [show ((K:Nat):Int).toNat=K from rfl];refine gJ (n:=K) (fun i U G'=>G'=G/\∃ (z:Str) (x8:Option V),Ltr z/\z.length=i/\U=[some (.str row),some (.int n),some (.int (cap:Int)),some (.int wide),some (.int shift),some (.str (Str.ofString "abcdefghijklmnopqrstuvwxyz")),some (.str z),some (.int (K:Int)),x8,none]) ⟨rfl,_,_,Ltr.nil,e0,rfl⟩ ?_ ?_
  ·rintro i U G' hi ⟨rfl,z,x8,hz',hzl,rfl⟩
   walk_at "s";apply ⟨_,_,rfl,fun r=>?_⟩;obtain ⟨d,ed,d1,d2⟩:=N7 (n:=(shift+5*(r % wide)) % 26) (by omega) (by omega);apply Kw (by trivial) ed ?_;apply mW (by rw [PB];omega) ?_;exact ⟨rfl,_,_,hz'.app (.one d1 d2),by rw [pK,hzl];rfl,rfl⟩
  ·rintro U G' ⟨rfl,z,x8,hz',hzl,rfl⟩
   walk_at "s";apply ⟨_,_,rfl,fun r=>?_⟩;apply cQ (by omega) ?_;obtain ⟨p,ep,hp⟩:∃ p:Nat,r % ((row.length:Int)+1)=p/\p<=row.length:=⟨(r % ((row.length:Int)+1)).toNat,by rw [Aa2 (Abx _ (by omega))],by have:=Int.emod_lt_of_pos r (show (0:Int) < (row.length:Int)+1 by omega);have:=Abx r (show (row.length:Int)+1≠0 by omega);omega⟩;rw [ep];walk_at "s";have l1:=zM row p;have l2:=xq row p;apply uh (by omega) ?_;apply mW (by omega) ?_;apply uh (by omega) ?_;apply mW (by rw [pK];omega) ?_;apply uh (by rw [pK,pK];omega) ?_;exact q _ G' (Same.refl _) ((((hL.to p).app hz').app (hL.from p)).to cap) (by rw [zM];omega)
theorem Rv {xs:List V} {lo hi:Option Int} {v:V} (h:v∈ql xs lo hi):v∈xs:=by
 unfold ql at h;exact Abh (Aaz h)
theorem Rw (d:Int) (h0:0<=d) (h1:d < 6):∃ w:Int,uX ([.int 2,.int 3,.int 1,.int 4,.int 6,.int 26]:List V) d=some (.int w)/\0 < w/\w<=26:=by
 obtain ⟨n,rfl⟩:∃ n:Nat,d=n:=⟨d.toNat,by omega⟩;have hn:n=0\/n=1\/n=2\/n=3\/n=4\/n=5:=by omega
 rcases hn with rfl | rfl | rfl | rfl | rfl | rfl
 ·exact ⟨2,rfl,by decide,by decide⟩
 ·exact ⟨3,rfl,by decide,by decide⟩
 ·exact ⟨1,rfl,by decide,by decide⟩
 ·exact ⟨4,rfl,by decide,by decide⟩
 ·exact ⟨6,rfl,by decide,by decide⟩
 ·exact ⟨26,rfl,by decide,by decide⟩
def Yv (K:W.Frag):Sp:=fun vs H Q _=>∃ (a:Addr) (ns:List Int) (cap:Nat),vs=[.ref a,.int (cap:Int)]/\SqL K H a (ns.map V.int)/\cap<=24/\∀ q s t H',Same H H'->H' q=some (.lst [.str s,.str t])->Pln s->Pln t->Q (.ref q) H'
theorem j4:aD ["_law_script","_law_cap","_law_wide","_law_shift","_law_rows","_law_cell"] ["_law_script","_law_cap"] (az uv):=⟨rfl,rfl,rfl,by trivial,rfl,by trivial,by trivial⟩
theorem uI (T:Txt K mg):lN P w K mg base 3 "_law_two" ["_law_script","_law_cap"] (Yv K):=by
 have gq:=@gq P w K mg base T;have uH:=@uH P w K mg base T;walk_at "@fB 2 T.d_law_two j4";obtain ⟨a,ns,cap,rfl,hS,hc,q⟩:=h;walk_at "=j4;!)#2^/O=====KR({gq}6K!)#3^Rt({gq}6K!)#4^O~f~C!7Q~`q3~/~/`%}C({uH}&/+R-&t-C&'$*~O+R-~P%,+";have hz:20000<=sizeLine:=by decide
 have e0:(Str.ofString "").length=0:=by trivial
 apply fG rfl fun p2 H2 n2 S2 h2=>?_
 apply ⟨a,ns,0,rfl,S2.seq hS,by omega,fun c0=>?_⟩;obtain ⟨w,ew,hw0,hw1⟩:=Rw (c0 % 6) (by omega) (by omega);apply aU (SqL.of h2) ew ?_;apply ⟨a,ns,0,rfl,S2.seq hS,by omega,fun c1=>?_⟩;apply fG rfl fun r H3 nr S3 hr=>?_
 have S23:=S2.trans S3;apply .inl (RL (S23.seq hS) fun sl nsl=>?_);have S9:=(Same.refl H3).upd nsl (o:=.lst (ql (ns.map V.int) (some 1) (some 63)));have hsl:=aj (H:=H3) (a:=sl) (o:=.lst (ql (ns.map V.int) (some 1) (some 63)));generalize upd H3 sl (.lst (ql (ns.map V.int) (some 1) (some 63)))=H4 at S9 hsl ⊢;have vK:sl≠r:=fun z=>by rw [z,hr] at nsl;cases nsl
 have nrH:=Same.back S2 nr;refine .inl ⟨sl,rfl,⟨_,SqL.of hsl⟩,?_⟩
 refine jN (xs:=ql (ns.map V.int) (some 1) (some 63)) (fun k U G=>Same H G/\G sl=some (.lst (ql (ns.map V.int) (some 1) (some 63)))/\∃ s t,G r=some (.lst [.str s,.str t])/\Ltr s/\Ltr t/\s.length<=cap/\t.length<=cap/\∃ x5,U=[some (.ref a),some (.int (cap:Int)),some (.int w),some (.int (c1 / 6 % 26)),some (.ref r),x5])
  ⟨S23.trans S9,hsl,_,_,S9 _ _ hr,Ltr.nil,Ltr.nil,by omega,by omega,_,rfl⟩ (fun i U G _ h=>SqL.of h.2.1) ?_ ?_
 ·rintro k v U G hv ⟨S,hsl,s,t,hr,hs,ht,ls,lt,x5,rfl⟩
  obtain ⟨c,_,rfl⟩:=Z0.mp (Rv (Zj hv));have h2:c % 2=0\/c % 2=1:=by omega
  rcases h2 with h2 | h2
  ·walk_at "s"
   rw [h2];apply aU (SqL.of hr) (i:=0) rfl ?_;apply ⟨s,_,cap,w,_,rfl,hs,by omega,hc,hw0,hw1,fun z G2 s2 hz' hzl=>?_⟩;rw [h2];refine .inl (bK (i:=0) (n:=0) (s2 _ _ hr) rfl ?_);exact ⟨Same.put (S.trans s2) nrH,(aC vK).trans (s2 _ _ hsl),z,t,aj,hz',ht,hzl,lt,_,rfl⟩
  ·walk_at "s"
   rw [h2];apply aU (SqL.of hr) (i:=1) rfl ?_;apply ⟨t,_,cap,w,_,rfl,ht,by omega,hc,hw0,hw1,fun z G2 s2 hz' hzl=>?_⟩;rw [h2];refine .inl (bK (i:=1) (n:=1) (s2 _ _ hr) rfl ?_);exact ⟨Same.put (S.trans s2) nrH,(aC vK).trans (s2 _ _ hsl),s,z,aj,hs,hz',ls,hzl,_,rfl⟩
 ·rintro U G ⟨S,_,s,t,hr,hs,ht,ls,lt,x5,rfl⟩
  walk_at "s";exact q r s t G S hr ⟨by omega,hs⟩ ⟨by omega,ht⟩
end
local macro_rules | `(tactic| walk_at "s") => `(tactic| (with_reducible repeat (first | refine j9 ?_ | walk_at "5")))
local macro_rules | `(tactic| walk_at "n") => `(tactic| (with_reducible repeat (walk_at "5")))
section
variable {P:Program} {w:World} {K:W.Frag} {mg:Str->Option Value} {base:Heap}
theorem xr:(["_law_k"]:List Str).Nodup:=by trivial
theorem Rx (a b:Nat):decide (V.str ⟨#[a]⟩=V.str ⟨#[b]⟩)=decide (a=b):=by
 refine decide_eq_decide.mpr ⟨fun h=>?_,fun h=>by rw [h]⟩;have:=Str.mk.inj (V.str.inj h);simpa using this
theorem Gf {g g':Nat->Nat->Bool} {b b' m n:Nat} (h:∀ i k,i < m->k < n->g i (b+k)=g' i (b'+k)):∀ i,i<=m->∀ k,k<=n->dd g b i k=dd g' b' i k
 | 0,_,k,_=>by rw [Rg,Rg]
 | i+1,hi,0,_=>by rw [Rh,Rh]
 | i+1,hi,k+1,hk=>by
  rw [Ri,Ri,Gf h i (by omega) (k+1) hk,Gf h (i+1) hi k (by omega),Gf h i (by omega) k (by omega),h i k (by omega) (by omega)]
def BZ (side z:Str) (i n:Nat):List Int:=(List.range n).map fun k=>((dd (tQ side z) 0 i k:Nat):Int)
theorem Ry (side z:Str) (i n:Nat):(BZ side z i n).length=n:=by unfold BZ;simp
theorem zN {side z:Str} {i n k:Nat} (h:k < n):((BZ side z i n).map V.int)[k]?=some (.int ((dd (tQ side z) 0 i k:Nat):Int)):=by
 unfold BZ;rw [Y9,Y9,Aab h];rfl
theorem N8 (side z:Str) (i n:Nat):(BZ side z i n).map V.int ++ [.int ((dd (tQ side z) 0 i n:Nat):Int)]=(BZ side z i (n+1)).map V.int:=by
 unfold BZ;rw [Aah,Zg,Zg];rfl
def Yw:Sp:=fun vs H Q _=>∃ (side z:Str),vs=[.str side,.str z]/\side.length<=24/\z.length<=24/\∀ q H',H q=none->Same H H'->H' q=some (.lst ((BZ side z side.cps.size (z.cps.size+1)).map V.int))->Q (.ref q) H'
theorem fZ:aD ["_law_side","_law_part","_law_last","_law_sign","_law_row","_law_k"] ["_law_side","_law_part"] (az kI):=⟨rfl,rfl,rfl,by trivial,rfl,by trivial,by trivial⟩
theorem pP (T:Txt K mg):lN P w K mg base 1 "_law_costs" ["_law_side","_law_part"] Yw:=by
 walk_at "@fB 2 T.d_law_costs fZ";obtain ⟨side,z,rfl,l1,l2,q⟩:=h;walk_at "=fZ;!~&#2^<.>L[_law_side _law_part _law_last _law_sign _law_row _law_k]}D[_law_k]V$D.5H#0{xr}F!7Q32#3^!)#4^O$D1'!7V$.5`%4J+$}E}F}G{T.b_min}&D/+-&D/'D-$?/'-}H{T.b_int}$n~!*/0-%)#2^+%,'";have hs:20000<=sizeLine:=by decide
 have e1:side.length=side.cps.size:=rfl;have e2:z.length=z.cps.size:=rfl;apply cQ (by omega) ?_;refine ⟨_,rfl,by omega,by omega,?_⟩;rw [show ((z.length:Int)+1).toNat=z.cps.size+1 by omega];refine p7 (n:=z.cps.size+1) (fun i=>.int (i:Int)) (by omega) (fun i hi=>?_) fun r H1 nr S1 hr1=>?_
 ·walk_at "s"
  apply ⟨KeepSt.set rfl,?_⟩;exact ⟨rfl,p6 (by congr 1;omega)⟩
 replace hr1:H1 r=some (.lst ((BZ side z 0 (z.cps.size+1)).map V.int)):=by
  rw [hr1];unfold BZ;rw [Aap]
  congr 2
  refine Aan fun p _=>?_
  show V.int (p:Int)=V.int ((dd (tQ side z) 0 0 p:Nat):Int);rw [Rg]
 walk_at "s";refine .inr (.inr ⟨side,rfl,?_⟩);refine PX (fun i U G=>Same H G/\(∃ r,H r=none/\G r=some (.lst ((BZ side z i (z.cps.size+1)).map V.int))/\∃ x3 x4 x5,U=[some (.str side),some (.str z),some (.ref r),x3,x4,x5])) ⟨S1,r,nr,hr1,_,_,_,rfl⟩ ?_ ?_
 ·rintro i U G d hd ⟨sG,r,nr,hrG,x3,x4,x5,rfl⟩
  have hi:i < side.cps.size:=by simpa using (Y0.mp hd).1
  have hds:side.cps.getD i 0=d:=by
   rw [Aaw,← Aad,hd];rfl
  walk_at "s";apply aU (SqL.of hrG) (cG (j:=0) (zN (by omega))) ?_;apply fG rfl fun b G2 nb T2 hb=>?_
  replace hb:G2 b=some (.lst ((BZ side z (i+1) 1).map V.int)):=by
   rw [hb];unfold BZ;simp [Rh]
  apply cQ (by omega) ?_;refine ⟨_,rfl,by omega,by omega,?_⟩;rw [show ((z.length:Nat):Int).toNat=z.cps.size by omega];refine gJ (n:=z.cps.size) (fun k U L=>Same G L/\L b=some (.lst ((BZ side z (i+1) (k+1)).map V.int))/\∃ x5,U=[some (.str side),some (.str z),some (.ref r),some (.str ⟨#[d]⟩),some (.ref b),x5]) ⟨T2,hb,_,rfl⟩ ?_ ?_
  ·rintro k U L hk ⟨sL,hbL,z8,rfl⟩
   rw [Int.zero_add]
   have hzk:z.cps.toList[k]?=some (z.cps.getD k 0):=by
    rw [Aaw,← Aad,YX (by simpa using hk)];rfl
   have hrL:=sL _ _ hrG;walk_at "s";apply ⟨.inl ⟨rfl,_,SqL.of hbL⟩,?_⟩;apply aU (SqL.of hbL) (cG (zN (by omega))) ?_;apply aU (SqL.of hrL) (vy (by omega) (by rw [show ((k:Int)+1).toNat=k+1 by omega];exact zN (by omega))) ?_;apply aU (SqL.of hrL) (cG (zN (by omega))) ?_;apply Kw (by omega) (cG hzk) ?_
   have hch:(!decide (V.str ⟨#[d]⟩=V.str ⟨#[z.cps.getD k 0]⟩))=!tQ side z i k:=by
    rw [Rx,← hds];rfl
   rw [hch];apply .inr ⟨_,rfl,?_⟩;intro M hM m1 m2 m3;walk_at "s"
   have eM:M=((dd (tQ side z) 0 (i+1) (k+1):Nat):Int):=by
    rw [Ri,Aa5];cases hb:tQ side z i k with
    | true=>
     rw [hb,if_neg (by decide)] at hM m3;rw [if_pos rfl];omega
    | false=>
     rw [hb,if_pos (show (!false)=true from rfl)] at hM m3;rw [if_neg (by decide)];omega
   rw [eM];apply bF hbL (by rw [Y6,Ry];omega) ?_;rw [N8];exact ⟨Same.put sL nb,aj,_,rfl⟩
  ·rintro U L ⟨sL,hbL,z8,rfl⟩
   walk_at "s";exact ⟨sG.trans sL,b,Same.back sG nb,hbL,_,_,_,rfl⟩
 ·rintro U G ⟨sG,r,nr,hrG,x3,x4,x5,rfl⟩
  walk_at "s";exact q r G nr sG hrG
end
local macro_rules | `(tactic| walk_at "s") => `(tactic| (with_reducible repeat (first | refine j9 ?_ | walk_at "3")))
local macro_rules | `(tactic| walk_at "n") => `(tactic| (with_reducible repeat (walk_at "3")))
section
variable {P:Program} {w:World} {K:W.Frag} {mg:Str->Option Value} {base:Heap}
theorem j5:(["_law_far","_law_begin","_law_end","_law_most"]:List Str).Nodup:=by trivial
theorem gdL (z:Str) (i:Nat):z.cps.toList.getD i 0=z.cps.getD i 0:=by
 rw [Y7,Aad,Aaw]
theorem Yx {side top:Str} {i:Nat}:BZ side (Txt.slice top (some (i:Int)) none) side.cps.size ((Txt.slice top (some (i:Int)) none).cps.size+1)=tL side top i:=by
 have e:(Txt.slice top (some (i:Int)) none).cps.size=top.cps.size - i:=xq top i;unfold BZ tL;rw [e];refine Aan fun k hk=>?_
 have hk:=ZS.mp hk
 congr 1
 refine Gf (m:=side.cps.size) (n:=top.cps.size - i) (fun a b _ hb=>?_) _ (Y4 _) _ (by omega);unfold tQ;rw [← gdL (Txt.slice top (some (i:Int)) none),← gdL top,qO,Aa5,Y7,AaU,← Y7]
def Yy:Sp:=fun vs H Q _=>∃ (side top:Str) (most:Nat),vs=[.str side,.str top,.int (most:Int)]/\Pln side/\Pln top/\most<=48/\∀ (q:Addr) (us:List V) (L:List P3) (H':Hp),H q=none->Same H H'->L.Perm (vK side top most (top.cps.size+1))->L.Pairwise Wr->Lsn H' q us (L.map (Ja most))->Q (.ref q) H'
theorem iM:aD ["_law_side","_law_top","_law_most","_law_near_by","_law_begin","_law_costs_here","_law_size"] ["_law_side","_law_top","_law_most"] (az kJ):=⟨rfl,rfl,rfl,by trivial,rfl,by trivial,by trivial⟩
theorem pQ (T:Txt K mg):lN P w K mg base 2 "_law_spans" ["_law_side","_law_top","_law_most"] Yy:=by
 have pP:=@pP P w K mg base T;walk_at "@fB 3 T.d_law_spans iM";obtain ⟨side,top,most,rfl,ps,pt,hm,q⟩:=h;walk_at "=iM;!)#3^b!7V$.52#4^!)#5^({pP}6$~eq0u+%7~,=$DS.5+2#6^%T~A/-8p%4J*$a&/-8&+$?+8%,e<...2>L[_law_side _law_top _law_most _law_near_by _law_begin _law_costs_here _law_size]}I[_law_far _law_begin _law_end _law_most]Q~W{T.b_sorted}$*}J#3IH#0{j5}IH#1{j5}NH#2{j5}a&SD~*#3F&~g#1$~g#2";have hz:20000<=sizeLine:=by decide
 have l1:side.cps.size<=24:=ps.1;have l2:top.cps.size<=24:=pt.1;have e1:side.length=side.cps.size:=rfl;have e2:top.length=top.cps.size:=rfl;apply fG rfl fun f H1 nf S1 hf=>?_
 apply cQ (by omega) ?_;refine ⟨_,rfl,by omega,by omega,?_⟩;rw [show ((top.length:Nat):Int).toNat=top.cps.size by omega];refine gJ (n:=top.cps.size) (fun i U G=>Same H G/\(∃ ys,G f=some (.lst ys)/\R3 G ys (vK side top most i))/\∃ x4 x5 x6,U=[some (.str side),some (.str top),some (.int (most:Int)),some (.ref f),x4,x5,x6]) ⟨S1,⟨[],hf,R3.nil⟩,_,_,_,rfl⟩ ?_ ?_
 ·rintro i U G hi ⟨sG,⟨ys,hfG,hR⟩,x4,x5,x6,rfl⟩
  rw [Int.zero_add];walk_at "s";apply uh (by omega) ?_;have lf:=xq top i;apply ⟨side,_,rfl,ps.1,by omega,fun a G2 na s2 ha=>?_⟩;rw [Yx] at ha;apply cQ (by omega) ?_;refine ⟨by omega,?_⟩;rw [show (((top.length:Int) - (i:Int)+1) - 1).toNat=top.cps.size - i by omega];have af:a≠f:=fun z=>by rw [z,hfG] at na;cases na
  refine gJ (n:=top.cps.size - i) (fun j U J=>Same H J/\J a=some (.lst ((tL side top i).map V.int))/\(∃ ys,J f=some (.lst ys)/\R3 J ys (vK side top most i ++ nr side top most i j))/\∃ x6,U=[some (.str side),some (.str top),some (.int (most:Int)),some (.ref f),some (.int (i:Int)),some (.ref a),x6])
   ⟨sG.trans s2,ha,⟨ys,s2 _ _ hfG,by rw [show nr side top most i 0=[] from rfl,Z5];exact hR.same s2⟩,_,rfl⟩ ?_ ?_
  ·rintro j U J hj ⟨sJ,haJ,⟨zs,hfJ,hRJ⟩,y6,rfl⟩
   have hzl:zs.length<=700:=by
    have e1:=hRJ.1;rw [Zv] at e1;have:=zE side top most i j;have:=vL (side:=side) (most:=most) l2 (n:=i) (by omega);omega
   have hat:uX ((tL side top i).map V.int) ((1:Int)+(j:Int))=some (.int ((dd (tQ side top) i side.cps.size (j+1):Nat):Int)):=vy (by omega) (by rw [show ((1:Int)+(j:Int)).toNat=j+1 by omega,Y9,FW (by omega)];rfl);walk_at "s";apply aU (SqL.of haJ) hat ?_;by_cases hle:dd (tQ side top) i side.cps.size (j+1)<=most
   ·rw [Zc (show ((dd (tQ side top) i side.cps.size (j+1):Nat):Int)<=(most:Int) by omega)]
    walk_at "s";apply ⟨.inl ⟨rfl,_,SqL.of hfJ⟩,?_⟩;apply aU (SqL.of haJ) hat ?_;apply fG rfl fun w J6 nw S6 hw=>?_
    apply bF (S6 _ _ hfJ) (by omega) ?_;refine ⟨Same.put (sJ.trans S6) nf,(aC af).trans (S6 _ _ haJ),⟨_,aj,?_⟩,_,rfl⟩;rw [tM,if_pos hle,← ZM];refine R3.put ((hRJ.same S6).push ⟨w,rfl,?_⟩) (Nv (S6 _ _ hfJ));rw [hw];unfold v3;rw [show (i:Int)+(1+(j:Int))=((i+(j+1):Nat):Int) by omega]
   ·rw [Zd (show ¬ ((dd (tQ side top) i side.cps.size (j+1):Nat):Int)<=(most:Int) by omega)]
    walk_at "s";refine ⟨sJ,haJ,⟨zs,hfJ,?_⟩,_,rfl⟩;rw [tM,if_neg hle,Z5];exact hRJ
  ·rintro U J ⟨sJ,_,⟨zs,hfJ,hRJ⟩,y6,rfl⟩
   refine ⟨sJ,⟨zs,hfJ,?_⟩,_,_,_,rfl⟩;rw [pM];exact hRJ
 rintro U G ⟨sG,⟨ys,hfG,hR⟩,x4,x5,x6,rfl⟩
 have elast:vK side top most (top.cps.size+1)=vK side top most top.cps.size:=by
  rw [pM,AaO,show nr side top most top.cps.size 0=[] from rfl,Z5]
 walk_at "s";refine FT hfG hR (ZP (vL l2 (by omega)) (by omega)) fun r zs G2 L nr S2 hr2 hRL pe pw=>?_
 rw [← elast] at pe;have hLl:L.length<=400:=by have:=vM l2 pe;rwa [Y6] at this
 have hyl:=hRL.1;refine .inl ⟨r,rfl,⟨_,SqL.of hr2⟩,?_⟩;refine wH (xs:=zs) (fun i ys J=>Same G2 J/\DRs J (((L.take i).map (Ja most)).map Sn.dat) ys) (by omega) ⟨Same.refl _,pX.mpr rfl⟩ ?_ (fun i ys J h=>SqL.of (h.1 _ _ hr2)) ?_ ?_
 ·rintro i ys J ⟨_,h⟩
  have:=rZ h;simp at this;omega
 ·rintro i ys J v hv ⟨s,h⟩
  have hi:i < L.length:=by rw [← hyl];exact (Y0.mp hv).1
  have ei:=YX hi;obtain ⟨b,rfl,hb⟩:=hRL.2 i v _ hv ei;obtain ⟨m1,_,_⟩:=zL (pe.mem_iff.mp (AaT hi)) (Y4 _);generalize L[i]=p at ei hb m1;replace hb:J b=some (.tup [.int (p.1:Int),.int (p.2.1:Int),.int (p.2.2:Int)]):=s _ _ hb;apply bx (SqT.of hb) rfl ?_;apply ⟨((KeepSt.set rfl).trans (KeepSt.set rfl)).trans (KeepSt.set rfl),?_⟩;apply fG rfl fun c J2 nc s2 hc=>?_
  refine ⟨s.trans s2,?_⟩;rw [Z9,ei,Zg,Zg];refine qN (DRs.same s2 _ _ h) (vz (Nz.mpr ⟨c,rfl,?_⟩));rw [hc];unfold Ja;rw [show (most:Int)+1 - (p.1:Int)=((most+1 - p.1:Nat):Int) by omega]
 rintro ys J D H2 ⟨s,h⟩ nD S3 hD;try walk_at "s"
 rw [hyl,AbO] at h;exact q D ys L H2 (Same.back (sG.trans (S2.trans s)) nD) (sG.trans (S2.trans (s.trans S3))) pe pw ⟨hD,DRs.same S3 _ _ h⟩
theorem Yz:Yb jn "e":=by trivial
structure W5 (K:W.Frag) (H:Hp) (v:V):Prop where
 s:∃ d,DR H d v/\PySem.SeqAt.shaped d=true
 b:∃ T b,TyOf K H v (.type T)/\PySem.W.kitOne K (.type T) (.type "bool")=some b
theorem W5.same {H H':Hp} {v:V} (h:W5 K H v) (s:Same H H'):W5 K H' v:=⟨let ⟨d,a,b⟩:=h.s;⟨d,DR.same s _ _ a,b⟩,let ⟨T,b,a,c⟩:=h.b;⟨T,b,a.mono fun b o e _=>s b o e,c⟩⟩
def YB (K:W.Frag) (mg:Str->Option Value):Sp:=fun vs H Q _=>∃ (v u m t:V) (pl:Bool),vs=[v,u,m,t,.bl pl]/\PT K H v/\PT K H u/\Kd K H m/\W5 K H t/\
 ((pl=true/\oH v=false/\t=v)\/(pl=true/\oH v=true/\oH u=false/\t=u)\/(pl=false/\oH v=true/\oH u=true/\inB m 0 48=false/\t=m))/\∀ H',Same H H'->Q (.bl true) H'
theorem j6:aD ["_law_side","_law_top","_law_most","_law_due","_law_plain","e"] ["_law_side","_law_top","_law_most","_law_due","_law_plain"] (az jn):=⟨rfl,rfl,rfl,by trivial,rfl,by trivial,by trivial⟩
theorem fu (T:Txt K mg):lN P w K mg base 15 "_law_refused" ["_law_side","_law_top","_law_most","_law_due","_law_plain"] (YB K mg):=by
 have fY:=@fY P w K mg base T;walk_at "@fB 5 T.d_law_refused j6";obtain ⟨v,u,m,t,pl,rfl,tv,tu,km,hW,hc,q⟩:=h;walk_at "=j6;!}K%4}L{fY}B6CE}M#5{T.x_NoPlain.c}^{Yz}%,c+c~(&-$~D{T.x_PaneError.at_}c~6~(&-$~D{T.x_NoPlace.c.at_}jnd~E-*}N#5{T.x_NoPlace.c}^{Yz}!GMP:+ZA:~(&-$~D{T.x_PaneError.at_}%,cnd~E-*jndY&~E-~'Y&*~'%~8";obtain ⟨d,hd,sd⟩:=hW.s;refine ⟨v,u,m,rfl,tv,tu,km,?_,?_,?_,?_⟩
 ·intro hv e H2 S2 X2
  obtain ⟨rfl,rfl⟩:pl=true/\t=v:=by
   rcases hc with ⟨h,_,h'⟩ | ⟨_,h,_⟩ | ⟨_,h,_⟩
   ·exact ⟨h,h'⟩
   ·rw [hv] at h;cases h
   ·rw [hv] at h;cases h
  refine ⟨_,e,rfl,rfl,?_⟩;apply Ln T.x_NoPlain.c.cl.cls T.u_NoPlain_NoPlain.mro ?_;apply wC X2 T.x_NoPlain.c.cl rfl T.u_NoPlain_PaneError.one ?_;apply wC X2 T.x_NoPlain.c.cl rfl T.u_NoPlain_NoPlace.one ?_;apply ⟨e,_,_,_,rfl,X2,T.x_NoPlain.c.cl.cls,T.x_NoPlain.na _ (by simp),rfl,?_⟩;apply .inl (.inl (wu (DR.same S2 _ _ hd) (DR.same S2 _ _ hd) sd ?_));exact q _ S2
 ·intro hv hu' e H2 S2 X2
  obtain ⟨rfl,rfl⟩:pl=true/\t=u:=by
   rcases hc with ⟨_,h,_⟩ | ⟨h,_,_,h'⟩ | ⟨_,_,h,_⟩
   ·rw [hv] at h;cases h
   ·exact ⟨h,h'⟩
   ·rw [hu'] at h;cases h
  refine ⟨_,e,rfl,rfl,?_⟩;apply Ln T.x_NoPlain.c.cl.cls T.u_NoPlain_NoPlain.mro ?_;apply wC X2 T.x_NoPlain.c.cl rfl T.u_NoPlain_PaneError.one ?_;apply wC X2 T.x_NoPlain.c.cl rfl T.u_NoPlain_NoPlace.one ?_;apply ⟨e,_,_,_,rfl,X2,T.x_NoPlain.c.cl.cls,T.x_NoPlain.na _ (by simp),rfl,?_⟩;apply .inl (.inl (wu (DR.same S2 _ _ hd) (DR.same S2 _ _ hd) sd ?_));exact q _ S2
 ·intro hv hu' hm e H2 S2 X2
  obtain ⟨rfl,rfl⟩:pl=false/\t=m:=by
   rcases hc with ⟨_,h,_⟩ | ⟨_,_,h,_⟩ | ⟨h,_,_,_,h'⟩
   ·rw [hv] at h;cases h
   ·rw [hu'] at h;cases h
   ·exact ⟨h,h'⟩
  refine ⟨_,e,rfl,rfl,?_⟩;refine XM T.x_NoPlace.c.cl.cls T.u_NoPlace_NoPlain.mro ?_;apply Ln T.x_NoPlace.c.cl.cls T.u_NoPlace_NoPlace.mro ?_;apply wC X2 T.x_NoPlace.c.cl rfl T.u_NoPlace_PaneError.one ?_;apply ⟨e,_,_,_,rfl,X2,T.x_NoPlace.c.cl.cls,T.x_NoPlace.na _ (by simp),rfl,?_⟩;apply .inl (.inl (wu (DR.same S2 _ _ hd) (DR.same S2 _ _ hd) sd ?_));apply ⟨e,_,_,_,rfl,X2,T.x_NoPlace.c.cl.cls,T.x_NoPlace.na _ (by simp),rfl,?_⟩;obtain ⟨T0,b0,hty,hk⟩:=(hW.same S2).b;apply iQ hty hk ?_;apply iQ hty hk ?_;rw [Zc rfl];exact q _ S2
 ·intro side top most ev eu em ps pt hm
  exfalso;subst ev eu em;rcases hc with ⟨_,h,_⟩ | ⟨_,_,h,_⟩ | ⟨_,_,_,h,_⟩
  ·rw [ps.pl] at h;cases h
  ·rw [pt.pl] at h;cases h
  ·unfold inB at h;simp at h;omega
theorem Wd {x:Str} {n:Nat} (h:x.length<=100) (hn:n<=100):MulOk x (n:Int):=by
 have h1:x.length*n<=100*100:=Nat.mul_le_mul h hn;refine ⟨?_,fun a b=>?_,fun a b=>?_⟩
 ·simp;omega
 ·have:((x.length:Int))<=(2 ^ 63 - 1) / (n:Int):=by
   rw [Int.le_ediv_iff_mul_le (by omega)];have:((x.length*n:Nat):Int)<=10000:=by omega
   push_cast at this
   omega
  omega
 ·have e:Int.toNat (n:Int)=n:=by omega
  rw [e];have hs2:sizeLine=16777216:=sizeLine_eq;unfold Builtin.Str.tooLong;rw [hs2];simp;omega
theorem Oa {z:Str} {c:Nat} (hc:c∈z.cps.toList) (hb:qZ oG c=true):oH (.str z)=false:=by
 unfold oH mQ;dsimp only
 have:among z oG=false:=by
  unfold among;rw [List.all_eq_false];exact ⟨c,hc,by unfold qZ at hb;simp [hb]⟩
 rw [this,Bool.and_false]
theorem Su {z:Str} (h:∀ c∈z.cps.toList,c < 1114112):PyData.strOk z=true:=by
 unfold PyData.strOk;rw [← Array.all_toList,AaC];intro c hc;exact Zc (h c hc)
theorem W5.str {H:Hp} {z:Str} (o:PyData.strOk z=true):W5 K H (.str z):=⟨⟨.str z,KQ.mpr rfl,Dh (n:=0) (Qs o) (by omega)⟩,"str",false,.str _,by rfl⟩
theorem W5.int {H:Hp} {z:Int}:W5 K H (.int z):=⟨⟨.int z,oW.mpr rfl,rfl⟩,"int",false,.int _,by rfl⟩
theorem W5.tr {H:Hp}:W5 K H (.bl true):=⟨⟨.bool true,P0.mpr rfl,rfl⟩,"bool",true,.bl _,by rfl⟩
theorem W5.non {H:Hp}:W5 K H .non:=⟨⟨.none,Qa.mpr rfl,rfl⟩,"NoneType",false,.non,by rfl⟩
theorem W5.ls {H:Hp} {a:Addr} {d:PyData} {v:V} (h:H a=some (.lst [v])) (hd:DR H d v) (sd:PySem.SeqAt.shaped (.list [d])=true):W5 K H (.ref a):=⟨⟨.list [d],Qc.mpr ⟨a,_,rfl,h,vz hd⟩,sd⟩,"list",false,.lst h,by rfl⟩
def RwB (K:W.Frag) (H:Hp) (v:V):Prop:=PT K H v/\oH v=false/\W5 K H v
theorem RwB.same {H H':Hp} {v:V} (h:RwB K H v) (s:Same H H'):RwB K H' v:=⟨h.1.same s,h.2.1,h.2.2.same s⟩
theorem RwB.str {H:Hp} {z:Str} (hl:z.length<=5000) (hb:oH (.str z)=false) (o:PyData.strOk z=true):RwB K H (.str z):=⟨⟨.inl ⟨z,rfl,hl⟩,fun e=>by rw [hb] at e;cases e⟩,hb,.str o⟩
theorem RwB.oth {H:Hp} {v:V} {T:String} (h:TyOf K H v (.type T)) (k:PySem.W.kitOne K (.type T) (.type "str")=some false) (hb:oH v=false) (w:W5 K H v):RwB K H v:=⟨⟨.inr ⟨T,h,k⟩,fun e=>by rw [hb] at e;cases e⟩,hb,w⟩
def LmB (K:W.Frag) (H:Hp) (v:V):Prop:=Kd K H v/\inB v 0 48=false/\W5 K H v
theorem LmB.same {H H':Hp} {v:V} (h:LmB K H v) (s:Same H H'):LmB K H' v:=⟨h.1.same s,h.2.1,h.2.2.same s⟩
theorem LmB.int {H:Hp} {z:Int} (h:z < 0\/48 < z):LmB K H (.int z):=⟨.inl ⟨_,rfl⟩,by unfold inB;simp;omega,.int⟩
theorem We (d:Int) (h0:0<=d) (h1:d < 8):∃ w:Nat,uX ([.int 8,.int 8,.int 8,.int 6,.int 8,.int 24,.int 8,.int 8]:List V) d=some (.int (w:Int))/\w<=24:=by
 obtain ⟨n,rfl⟩:∃ n:Nat,d=n:=⟨d.toNat,by omega⟩;have hn:n=0\/n=1\/n=2\/n=3\/n=4\/n=5\/n=6\/n=7:=by omega
 rcases hn with rfl | rfl | rfl | rfl | rfl | rfl | rfl | rfl
 ·exact ⟨8,rfl,by decide⟩
 ·exact ⟨8,rfl,by decide⟩
 ·exact ⟨8,rfl,by decide⟩
 ·exact ⟨6,rfl,by decide⟩
 ·exact ⟨8,rfl,by decide⟩
 ·exact ⟨24,rfl,by decide⟩
 ·exact ⟨8,rfl,by decide⟩
 ·exact ⟨8,rfl,by decide⟩
theorem Wf (d:Int) (h0:0<=d) (h1:d < 3):∃ w:Int,uX ([.int 4,.int 49,.int 9]:List V) d=some (.int w)/\0 < w/\w<=49:=by
 have hn:d=0\/d=1\/d=2:=by omega
 rcases hn with rfl | rfl | rfl
 ·exact ⟨4,rfl,by decide,by decide⟩
 ·exact ⟨49,rfl,by decide,by decide⟩
 ·exact ⟨9,rfl,by decide,by decide⟩
theorem of8 {a b c d e f g h:V} {k:Nat} (hk:k < 8):(∃ v,uX [a,b,c,d,e,f,g,h] ((k:Nat):Int)=some v/\v∈[a,b,c,d,e,f,g,h])/\∃ v,uX [a,b,c,d,e,f,g,h] ((k:Int) - 1)=some v/\v∈[a,b,c,d,e,f,g,h]:=by
 have hn:k=0\/k=1\/k=2\/k=3\/k=4\/k=5\/k=6\/k=7:=by omega
 rcases hn with rfl | rfl | rfl | rfl | rfl | rfl | rfl | rfl <;> exact ⟨⟨_,rfl,by simp⟩,_,rfl,by simp⟩
def Sv (K:W.Frag):Sp:=fun vs H Q _=>∃ (a:Addr) (ns:List Int),vs=[.ref a]/\SqL K H a (ns.map V.int)/\∀ H',Q (.bl true) H'
theorem jz:aD ["_law_script","_law_pick","_law_side","_law_top","_law_most","_law_limit","_law_spans_here","_law_found","_law_far","_law_rows","_law_k"] ["_law_script"] (az Bk):=⟨rfl,rfl,rfl,by trivial,rfl,by trivial,by trivial⟩
theorem Wg (T:Txt K mg) {f0:Addr} {fd0:FuncData} (F0:Fun K "law" "law" Bk f0 fd0):rH P w K mg base GD 16 f0 fd0 ["_law_script"] (Sv K):=by
 have iy:=@iy P w K mg base T;have gq:=@gq P w K mg base T;have uI:=@uI P w K mg base T;have pQ:=@pQ P w K mg base T;have fY:=@fY P w K mg base T;have pO:=@pO P w K mg base T;have rD:=@rD P w K mg base T;have fu:=@fu P w K mg base T;refine okJ F0 jz ?_ fun f cdv A outer s H vs Q E hr h=>?_
 ·rintro vs H Q E ⟨a,ns,rfl,_⟩;rfl
 obtain ⟨a,ns,rfl,hS,q⟩:=h;have hu:=hr.units0;have hu64:=hr.units;walk_at "=jz;!)#1^R({iy}&({gq}6KK!}O({uI}6$/O=======K0}PI2#2^N2#3^!)#4^vt({gq}6K/O==KR({gq}6K!7QO&+&}Q+$+`!)#6^({pQ}&'&*$-!)#7^~X{fY}Bl&'&*$-!GA:({pO}&.$*&8&X$({rD}&.$*$8!4J1XK%4J1XK!)#8^~dv({gq}6K~b!)#9^O&~h~.q'~/&}R~.q*~/&~h}S~i=&O~C~j~C!7V$.$w#92#:^!)#5^/O&i&o~j~i~f&OK=$}Tiw#:!GA:({fu}&x&*&-&x~0!GA:({fu}&'&x&-&x~0!GA:({fu}&x&/w#9rw#:&+&x~0%GA:({fu}&'&*&-&-~0%~8";have hz:20000<=sizeLine:=by decide
 apply ⟨a,ns,0,rfl,hS,by omega,fun c0=>?_⟩;apply ⟨c0,0,rfl,fun r0=>?_⟩;apply fG rfl fun p H1 np S1 hp=>?_
 obtain ⟨cap,ec,hcap⟩:=We (r0 % 8) (by omega) (by omega);apply aU (SqL.of hp) ec ?_;apply ⟨a,ns,cap,rfl,S1.seq hS,hcap,fun q0 side top H2 S2 hq0 ps pt=>?_⟩;refine PQ (xs:=[.str side,.str top]) (SqL.of hq0) rfl ?_;have hS2:=(S1.trans S2).seq hS;have a1:side.length<=24:=ps.1;have l2:top.cps.size<=24:=pt.1;have e2:top.length=top.cps.size:=rfl;clear hq0 S1 S2 hp hS;walk_at "s";apply ⟨a,ns,0,rfl,hS2,by omega,fun c1=>?_⟩;apply fG rfl fun p3 H3 n3 S3 h3=>?_
 apply ⟨a,ns,0,rfl,S3.seq hS2,by omega,fun c2=>?_⟩;obtain ⟨d,ed,hd0,hd1⟩:=Wf (c2 % 3) (by omega) (by omega);apply aU (SqL.of h3) ed ?_;have hS3:=S3.seq hS2;obtain ⟨most,em,hm⟩:∃ most:Nat,c1 / 156 % d=most/\most<=48:=⟨(c1 / 156 % d).toNat,by rw [Aa2 (Abx _ (by omega))],by have:=Int.emod_lt_of_pos (c1 / 156) hd0;omega⟩;rw [em];clear hS2 S3 h3 em ed hd0 hd1 ec;walk_at "s";apply fG rfl fun w0 H4 n4 S4 h4=>?_
 have hS4:=S4.seq hS3;clear hS3 S4;refine .inl ⟨w0,rfl,⟨_,SqL.of h4⟩,?_⟩
 refine jN (xs:=[.int (most:Int),.int (48 - (most:Int)),.int (most:Int)]) (fun k U G=>Same H4 G/\∃ x5 x6 x7,U=[some (.ref a),some (.int (r0 % 8)),some (.str side),some (.str top),some (.int (most:Int)),x5,x6,x7,none,none,none])
  ⟨Same.refl _,_,_,_,rfl⟩ (fun i U G _ h=>SqL.of (h.1 _ _ h4)) ?_ ?_
 ·rintro k v U G hv ⟨s,x5,x6,x7,rfl⟩
  obtain ⟨l,rfl,hl⟩:∃ l:Nat,v= .int (l:Int)/\l<=48:=by
   have:=Zj hv;simp only [Zb,ZL,or_false] at this;rcases this with rfl | rfl | rfl
   ·exact ⟨most,rfl,hm⟩
   ·exact ⟨48 - most,by congr 1;omega,by omega⟩
   ·exact ⟨most,rfl,hm⟩
  walk_at "s";apply ⟨side,top,l,rfl,ps,pt,hl,fun sp us L G1 nsp S1 hp hw hL=>?_⟩;refine ⟨.str side,.str top,.int (l:Int),rfl,ps.pt,pt.pt,.inl ⟨_,rfl⟩,fun h=>by (rw [ps.pl] at h;cases h),fun _ h=>by (rw [pt.pl] at h;cases h),fun _ _ h=>by (unfold inB at h;simp at h;omega),fun side' top' l' e1 e2 e3 _ _ _ L' t ch pr W ms G2 hp' hw' nch npr cp S2 ht hch hpr hWl hSO hml hC hw2=>?_⟩;obtain rfl:=V.str.inj e1;obtain rfl:=V.str.inj e2;obtain rfl:l=l':=by injection e3 with e3;omega
  obtain rfl:L=L':=Yn hw hw' (hp.trans hp'.symm);have hok:=N6 hl hp;have h400:=vM l2 hp;have hL2:=hL.same S2;walk_at "s";apply cQ (by omega) ?_;apply cQ (by omega) ?_;refine ⟨top.cps.size,sp,us,L.map (Ja l),rfl,l2,hL2,h400,hok,fun B G3 S3 hB=>?_⟩;have hWB:=Iw hok hWl hSO hB;walk_at "s";apply ⟨top.cps.size,sp,t,ch,pr,us,L.map (Ja l),W,ms,_,rfl,l2,hL2.same S3,h400,hok,S3 _ _ ht,S3 _ _ hch,S3 _ _ hpr,hWl,hSO,hml,hC,hw2,hWB,fun G4 S4=>?_⟩;have S34:=S3.trans S4;have ht4:=S34 _ _ ht;have hch4:=S34 _ _ hch;have hpr4:=S34 _ _ hpr;have nil:(nI ms).length<=24:=by unfold nI;rw [Y6];exact hml
  walk_at "s";apply ⟨.inl ⟨rfl,_,SqL.of hch4⟩,?_⟩;refine bF hch4 (by rw [Y6];omega) ?_;have U:Same H4 (upd G4 ch (.lst ((nI ms).map V.int ++ [.int 0]))):=Same.put (s.trans (S1.trans (S2.trans S34))) (Same.back (s.trans S1) nch);have u9:t≠ch:=fun z=>by rw [z,hch4] at ht4;cases ht4
  have ht5:=(aC u9 (H:=G4) (o:=.lst ((nI ms).map V.int ++ [.int 0]))).trans ht4;have hpr5:=(aC (Ne.symm cp) (H:=G4) (o:=.lst ((nI ms).map V.int ++ [.int 0]))).trans hpr4;generalize upd G4 ch (.lst ((nI ms).map V.int ++ [.int 0]))=G5 at U ht5 hpr5 ⊢;walk_at "s";apply ⟨.inl ⟨rfl,_,SqL.of hpr5⟩,?_⟩;apply bF hpr5 (by rw [Y6,qj];omega) ?_;exact ⟨Same.put U (Same.back (s.trans S1) npr),_,_,_,rfl⟩
 rintro U L0 ⟨s,x5,x6,x7,rfl⟩;have hS5:=s.seq hS4;clear hS4 s h4;walk_at "s";apply ⟨a,ns,0,rfl,hS5,by omega,fun c3=>?_⟩;obtain ⟨far,ef,hf⟩:∃ far:Int,49+c3 % 10 ^ Int.toNat 30=far/\48 < far:=⟨_,rfl,by have:=Abx c3 (show (10:Int) ^ Int.toNat 30≠0 by decide);omega⟩;rw [ef];clear ef;walk_at "s";have t1:=zM side 23;have t2:=zM top 23;have o1:(Str.ofString ".").length=1:=by trivial
 have o2:(Str.ofString "A").length=1:=by trivial
 apply uh (by omega) ?_;apply mW (show (Txt.slice side none (some ((23:Nat):Int))).length+(Str.ofString ".").length<=sizeLine by omega) ?_;apply uh (by omega) ?_;apply mW (show (Str.ofString "A").length+(Txt.slice top none (some ((23:Nat):Int))).length<=sizeLine by omega) ?_;apply UW (Wd (n:=12) (by trivial) (by decide)) ?_;apply mW (show (Txt.mul (Str.ofString "ab") 12).length+(Str.ofString "c").length<=sizeLine from ZP (show (Txt.mul (Str.ofString "ab") 12).length+(Str.ofString "c").length<=1000 by trivial) (by omega)) ?_;apply fG rfl fun la L1 _ s1 hla=>?_
 apply fG rfl fun wr L2 _ s2 hwr=>?_
 have lls:=Ltr.to (z:=side) ps.2 23;have llt:=Ltr.to (z:=top) pt.2 23;have lo:∀ z:Str,Ltr z->∀ c∈z.cps.toList,c < 1114112:=fun z h c hc=>by have:=h c hc;omega
 have hV:∀ v∈([.str (Txt.slice side none (some 23) ++ Str.ofString "."),.str (Str.ofString "A" ++ Txt.slice top none (some 23)),.str (Txt.mul (Str.ofString "ab") 12 ++ Str.ofString "c"),.non,.int 3,.ref la,.bl true,.str (Str.ofString "a b")]:List V),RwB K L2 v:=fun v hv=>by
  simp only [Zb,ZL,or_false] at hv;rcases hv with rfl | rfl | rfl | rfl | rfl | rfl | rfl | rfl
  ·refine .str (by show (Txt.slice side none (some ((23:Nat):Int)) ++ _).length<=_;rw [pK];omega) (Oa (c:=46) (by rw [cps_append];exact Zf _ (by trivial)) (by trivial)) (Su fun c hc=>?_)
   rw [cps_append] at hc;rcases Zh.mp hc with h | h
   ·exact lo _ lls c h
   ·clear hc;revert c;trivial
  ·refine .str (by show (_ ++ Txt.slice top none (some ((23:Nat):Int))).length<=_;rw [pK];omega) (Oa (c:=65) (by rw [cps_append];exact Zw _ (by trivial)) (by trivial)) (Su fun c hc=>?_)
   rw [cps_append] at hc;rcases Zh.mp hc with h | h
   ·clear hc;revert c;trivial
   ·exact lo _ llt c h
  ·exact .str (by trivial) (by trivial) (by trivial)
  ·exact .oth .non (by rfl) rfl .non
  ·exact .oth (.int _) (by rfl) rfl .int
  ·exact .oth (.lst (s2 _ _ hla)) (by rfl) rfl (.ls (s2 _ _ hla) (d:=.str (Str.ofString "a")) (KQ.mpr rfl) (by trivial))
  ·exact .oth (.bl _) (by rfl) rfl .tr
  ·exact .str (by trivial) (by trivial) (by trivial)
 generalize Txt.slice side none (some 23) ++ Str.ofString "."=z1 at hV hwr ⊢;generalize Str.ofString "A" ++ Txt.slice top none (some 23)=z2 at hV hwr ⊢;generalize Txt.mul (Str.ofString "ab") 12 ++ Str.ofString "c"=z3 at hV hwr ⊢;clear hla s1 s2 lls llt lo t1 t2 o1 o2;walk_at "s";apply iB (SqL.of hwr) ?_;refine ⟨8,rfl,by omega,by omega,?_⟩;refine gJ (n:=8) (fun k U G=>Same L2 G/\∃ x1 x5 x6 x7 x10,U=[some (.ref a),x1,some (.str side),some (.str top),some (.int (most:Int)),x5,x6,x7,some (.int far),some (.ref wr),x10]) ⟨Same.refl _,_,_,_,_,_,rfl⟩ ?_ ?_
 ·rintro k U G hk ⟨s,x1,x5,x6,x7,x10,rfl⟩
  rw [Int.zero_add];walk_at "s";apply fG rfl fun l1 G1 _ s1 hl1=>?_
  apply fG rfl fun wl G2 _ s2 hwl=>?_
  have hM:∀ v∈([.int far,.int (-1),.bl true,.non,.str (Str.ofString "1"),.ref l1,.int 49,.int (-far)]:List V),LmB K G2 v:=fun v hv=>by
   simp only [Zb,ZL,or_false] at hv;rcases hv with rfl | rfl | rfl | rfl | rfl | rfl | rfl | rfl
   ·exact .int (by omega)
   ·exact .int (by omega)
   ·exact ⟨.inr (.inl ⟨_,rfl⟩),rfl,.tr⟩
   ·exact ⟨.inr (.inr ⟨_,.non,by rfl⟩),rfl,.non⟩
   ·exact ⟨.inr (.inr ⟨_,.str _,by rfl⟩),rfl,.str (by trivial)⟩
   ·exact ⟨.inr (.inr ⟨_,.lst (s2 _ _ hl1),by rfl⟩),rfl,.ls (s2 _ _ hl1) (d:=.int 1) (oW.mpr rfl) rfl⟩
   ·exact .int (by omega)
   ·exact .int (by omega)
  obtain ⟨⟨v,ev,mv⟩,u,eu,mu⟩:=of8 (a:=.str z1) (b:=.str z2) (c:=.str z3) (d:=.non) (e:=.int 3) (f:=.ref la) (g:=.bl true) (h:=.str (Str.ofString "a b")) hk;obtain ⟨⟨m,em,mm⟩,_⟩:=of8 (a:=.int far) (b:=.int (-1)) (c:=.bl true) (d:=.non) (e:=.str (Str.ofString "1")) (f:=.ref l1) (g:=.int 49) (h:=.int (-far)) hk;have U2:=s.trans (s1.trans s2);have Hv:=(hV v mv).same U2;have Hu:=(hV u mu).same U2;have Hm:=hM m mm;have hr2:=U2 _ _ hwr;apply aU (SqL.of hwl) em ?_;apply aU (SqL.of hr2) ev ?_;apply aU (SqL.of hr2) ev ?_;apply ⟨v,.str top,m,v,true,rfl,Hv.1,pt.pt,Hm.1,Hv.2.2,.inl ⟨rfl,Hv.2.1,rfl⟩,fun G3 s3=>?_⟩;apply aU (SqL.of (s3 _ _ hr2)) ev ?_;apply aU (SqL.of (s3 _ _ hr2)) ev ?_;apply ⟨.str side,v,m,v,true,rfl,ps.pt,(Hv.same s3).1,(Hm.same s3).1,(Hv.same s3).2.2,.inr (.inl ⟨rfl,ps.pl,Hv.2.1,rfl⟩),fun G4 s4=>?_⟩;have s34:=s3.trans s4;apply aU (SqL.of (s34 _ _ hr2)) ev ?_;apply aU (SqL.of (s34 _ _ hr2)) eu ?_;apply aU (SqL.of (s34 _ _ hr2)) ev ?_;apply ⟨v,u,.int (most:Int),v,true,rfl,(Hv.same s34).1,(Hu.same s34).1,.inl ⟨_,rfl⟩,(Hv.same s34).2.2,.inl ⟨rfl,Hv.2.1,rfl⟩,fun G5 s5=>?_⟩;have s35:=s34.trans s5;apply ⟨.str side,.str top,m,m,false,rfl,ps.pt,pt.pt,(Hm.same s35).1,(Hm.same s35).2.2,.inr (.inr ⟨rfl,ps.pl,pt.pl,Hm.2.1,rfl⟩),fun G6 s6=>?_⟩;exact ⟨U2.trans (s35.trans s6),_,_,_,_,_,rfl⟩
 ·rintro U G ⟨s,x1,x5,x6,x7,x10,rfl⟩
  walk_at "s";exact q _
end
end My
namespace PySem.W.Fast
def tw1677995576536895107:=0
def tw5877088592483939776:=0
def tw13342004047919120849:=0
def tw433103726080329248:=0
def tw3262710239724479622:=0
def tw14729764754104770849:=0
def tw3243295827495040092:=0
def tw15518448294441639227:=0
def tw4920879365168046661:=0
def tw1666523158900056316:=0
def tw5384379115857804563:=0
def tw8368013826455292163:=0
def tw10466927161777564553:=0
def tw14929172519846035650:=0
def tw7496484032951982989:=0
def tw12036409021292960326:=0
def tw18159033268938221568:=0
def tw11739734826150140950:=0
def tw6492973563258111033:=0
def tw14634814967696810591:=0
def tw3554827560062589350:=0
def tw7713183416382015830:=0
def tw16476644775316433064:=0
def tw8017085878355253276:=0
def tw10039934741817261345:=0
def tw8638434533881097739:=0
def tw4982676736946885275:=0
def tw17518412967891650112:=0
def tw16212786889211338901:=0
def tw7257990825946005181:=0
def tw1751393081978865727:=0
def tw17112001774837623473:=0
def tw5607692945825271172:=0
def tw8455873527381712927:=0
def tw9185855365292781963:=0
def tw1744971323172184816:=0
def tw9415906752212950260:=0
def tw4023242412974602288:=0
def tw4077355001430042241:=0
def tw13307783061315086313:=0
def tw8873184237738657529:=0
def tw3573423934767964129:=0
def tw2544088478381697247:=0
def tw9669294878403680289:=0
def tw5088383868405585400:=0
def tw14455147596340305520:=0
def tw15508362897558143946:=0
def tw3699980240432699914:=0
def tw5530363042728678310:=0
def tw12415901543257783258:=0
def tw12545185450224022990:=0
def tw10834470621459764227:=0
def tw14882407159508243328:=0
def tw7769072529727377349:=0
def tw17193328545941741682:=0
def tw6207237266070612181:=0
def tw4655690534888105859:=0
def tw11477751414790236135:=0
def tw2337229789292381696:=0
def tw4055302103102602543:=0
def tw1099445713847898419:=0
def tw6265790791126278151:=0
def tw278680337447458363:=0
def tw11331847081902568597:=0
def tw2598016711887448803:=0
def tw15410854980401022450:=0
def tw14009903315789811617:=0
def tw5911281295479082389:=0
def tw11978993375432414084:=0
def tw2722482565182083847:=0
def tw9720176342711634277:=0
def tw11467156251161257641:=0
def tw12703331417536363316:=0
def tw9087226180802224171:=0
def tw14530509473307976436:=0
def tw5821387135312610545:=0
def tw15808710421747262851:=0
def tw14264995546034236661:=0
def tw4206119338722262991:=0
def tw1269141857922205365:=0
def tw6055773392400029043:=0
def tw2216940261802668681:=0
def tw13539717071023602321:=0
def tw16333457871301283277:=0
def tw6003094921241096979:=0
def tw5437648080635140437:=0
def tw12034160475913794135:=0
def tw18422049232260605003:=0
def tw11620616857663120623:=0
def tw1046380866386410548:=0
def tw15578902160435815691:=0
def tw2291168016146576939:=0
def tw9903807671956773449:=0
def tw15828327640924115245:=0
def tw5531510573094562706:=0
def tw599746591756215479:=0
def tw1233559227814771133:=0
def tw7595530891810862362:=0
def tw16356495857724682207:=0
def tw11323775889846342842:=0
def tw11125584372845386074:=0
def tw10781230558229320789:=0
def tw1505176496796602973:=0
def tw8032458205001686486:=0
def tw1641171344417530646:=0
def tw18093560399072722430:=0
def tw9328218775177943660:=0
def tw15660665030326583063:=0
def tw543358097616919522:=0
def tw5815718717990164930:=0
def tw15682607534675655987:=0
def tw8524919574127846937:=0
def tw2140010007452849440:=0
def tw3133164204137835630:=0
def tw1391739052370689233:=0
def tw9213700504937688223:=0
def tw14213689962527277872:=0
def tw11879699466660313710:=0
def tw5212725699316332524:=0
def tw2854339619247043984:=0
def tw18272167158306742942:=0
def tw9512248674098132098:=0
def tw9522590045154382484:=0
def tw9300987723830758510:=0
def tw3447794954335996902:=0
def tw16922852545987965408:=0
def tw2756949919722172080:=0
def tw3925937366327174622:=0
def tw3452219793398594847:=0
def tw3618841048292022440:=0
def tw3708222404555429748:=0
def tw15353552294228084745:=0
def tw1875667904960122973:=0
def tw15222861735730585778:=0
def tw4268622903214969829:=0
def tw5980763299544199377:=0
def tw16875719697928085589:=0
def tw7209659651369606523:=0
def tw9041622205730168294:=0
def tw9029120522372233517:=0
def tw9136042106433970407:=0
def tw717434644626088374:=0
def tw16308686586277331001:=0
def tw12662863673919529622:=0
def tw15696796557623505372:=0
def tw16540404369972957781:=0
def tw6518214868479202882:=0
def tw1622234633313320610:=0
def tw10429606303622989269:=0
def tw17640616608967629739:=0
def tw17160944369021599745:=0
def tw14854108243830258660:=0
def tw15669547946333012278:=0
def tw11492461212598341004:=0
def tw5966115494775884700:=0
def tw14244506941249959228:=0
def tw15522451535429613492:=0
def tw17448420343315184598:=0
def tw13458944425998255020:=0
def tw14176922110452056534:=0
def tw841666115303424860:=0
def tw2464313756662754694:=0
def tw1136837914341880246:=0
def tw3331189706574808842:=0
def tw14233624432354292917:=0
def tw13675350643769453643:=0
def tw4325778668849028789:=0
def tw17052470770456769801:=0
def tw7650382072534186830:=0
def tw15914245408382503158:=0
def tw3379758486766849508:=0
def tw14801579240696211026:=0
def tw7671731779011073082:=0
def tw6026822070779442399:=0
def tw10500111405350564376:=0
def tw3890104872135511780:=0
def tw11906791960950938507:=0
def tw6473083626019304234:=0
def tw8374401182501171600:=0
def tw6013647116578425540:=0
def tw15987293393600909540:=0
def tw4717897506810615326:=0
def tw4316186601731175995:=0
def tw11973455739610418153:=0
def tw2132116732606566649:=0
def tw11857100094751358768:=0
def tw11584892718063732455:=0
def tw2525454745529393937:=0
def tw11822724425911022626:=0
def tw7920593777844468490:=0
def tw7309457006491019868:=0
def tw6906627628855226805:=0
def tw109497077659922513:=0
def tw3163062551327170292:=0
def tw206434115462921021:=0
def tw16293873294336357948:=0
def tw7804321619107573754:=0
def tw1836083089344718058:=0
def tw12362261430504808794:=0
def tw6825949862229886000:=0
def tw11853460946290929982:=0
def tw8195193860788866115:=0
def tw9001741245866768435:=0
def tw14131777497587721445:=0
def tw4605108507254395444:=0
def tw3423264719260831491:=0
def tw15862229033541430283:=0
def tw964152830764428382:=0
def tw8011871875892696275:=0
def tw4981310203518897951:=0
def tw7666268905943060104:=0
def tw17728736365199632577:=0
def tw2224434519625469296:=0
def tw1923561988524698455:=0
def tw14927272411041623745:=0
def tw10813306127846402806:=0
def tw17582630820368027745:=0
def tw4579241168788154230:=0
def tw13152353578406485514:=0
def tw3728340142922163780:=0
def tw16952116913441431526:=0
def tw16400829551867693938:=0
def tw5575734145499695746:=0
def tw5373570765465853601:=0
def tw15945578083246200376:=0
def tw7518439105769469041:=0
def tw16029566168343107587:=0
def tw13581889175634138149:=0
def tw7544870113854705527:=0
def tw697875333128949869:=0
def tw9615297959971185485:=0
def tw1950085685088878505:=0
def tw17905419265335975057:=0
def tw3930162786222411306:=0
def tw4831984932113792903:=0
def tw15611636018752527743:=0
def tw9317147319260472825:=0
def tw11991821371751843068:=0
def tw11459308271185498228:=0
def tw857360751806235823:=0
def tw8158744672944467304:=0
def tw5411854924265539141:=0
def tw13937589517941817931:=0
def tw12760807469088265291:=0
def tw11095430948003367443:=0
def tw12038127507715448489:=0
def tw8364852739219827541:=0
def tw4232049561076484261:=0
def tw11613973502474496929:=0
def tw17469431662249636796:=0
def tw12178154655794064826:=0
def tw8186675060752287964:=0
def tw5219258873329958057:=0
def tw18072296978499427458:=0
def tw5467786820068903571:=0
def tw8182804701250909190:=0
def tw16182685441197380429:=0
def tw7512281690559789832:=0
def tw364675565506875451:=0
def tw17059514236092822878:=0
def tw14464533121020017382:=0
def tw12020601404365218723:=0
def tw10999902670630624968:=0
def tw1034494137951462704:=0
def tw4544621686416785854:=0
def tw433785126852391496:=0
def tw17077480848497429628:=0
def tw17716669648791273410:=0
def tw15531214228116322250:=0
def tw6129437616302556809:=0
def tw14958917449754893156:=0
def tw2410116882684766327:=0
def tw9308181115520471386:=0
def tw5044246096637838367:=0
def tw13562509320084141381:=0
def tw915901323676923689:=0
def tw850415496705556341:=0
def tw16841571046398709027:=0
def tw13078437747505430446:=0
def tw3341409102313105647:=0
def tw9419347371292438450:=0
def tw8731442903185968025:=0
def tw12108857011130385099:=0
def tw7708720324024381376:=0
def tw6475331621722083372:=0
def tw7581613472565752316:=0
def tw3406616815499716478:=0
def tw16629301883951675641:=0
def tw3374312470401606386:=0
def tw2967645558660572553:=0
def tw5853024692447112134:=0
def tw17942302648944173291:=0
def tw17818029303115678243:=0
def tw16218555868632975670:=0
def tw8086928453651306683:=0
def tw4845438253809712466:=0
def tw17539854706840929917:=0
def tw8908286448914362349:=0
def tw17968634537278088180:=0
def tw16097804985617482040:=0
def tw7834208419012706364:=0
def tw4264762749810384100:=0
def tw604977888788244046:=0
def tw4544384133487335693:=0
def tw1872868424501215583:=0
def tw17783581944216124742:=0
def tw1641932650973292496:=0
def tw1492741824358148464:=0
def tw15739115252596178317:=0
def tw17463230909170767219:=0
def tw13378530294405050449:=0
def tw10451236083190660852:=0
def tw12094524323838890418:=0
def tw7541784730288052728:=0
def tw10661652042014897423:=0
def tw1808920484179966929:=0
def tw14558617753407775297:=0
def tw7354467546891549068:=0
def tw469803588091617052:=0
def tw13700870791044606626:=0
def tw13990218695844922933:=0
def tw131430479940501947:=0
def tw10492878693783680640:=0
def tw16535857830886530333:=0
def tw15461274763011606350:=0
def tw11739408762035813749:=0
def tw12993191140479370836:=0
def tw2943648623416678798:=0
def tw17003139006798272110:=0
def tw14998647845489996149:=0
def tw12056186679002557779:=0
def tw9956714235731883859:=0
def tw2724413555414001090:=0
def tw185398196907597884:=0
def tw4297547684431183034:=0
def tw10481117199650524995:=0
def tw4452905516481010406:=0
def tw11519729921866952470:=0
def tw16901607393490453304:=0
def tw13836554107961377601:=0
def tw9596314527614181155:=0
def tw270691197920404403:=0
def tw16717659926607098015:=0
def tw16992454167645631802:=0
def tw1641809795464258231:=0
def tw975901915287211578:=0
def tw3689388498732942072:=0
def tw15911340047068590171:=0
def tw8923107581806622181:=0
def tw7596893302346823760:=0
def tw3476555279726209324:=0
def tw2863245359261036226:=0
def tw12372397167287304755:=0
def tw9221597927037537741:=0
def tw4517133473553137072:=0
def tw15506329046443880022:=0
def tw12837965931967235277:=0
def tw1207342392976765821:=0
def tw9425282981923312448:=0
def tw4084410906251588000:=0
def tw2222958084168181106:=0
def tw16073904018630757658:=0
def tw13069496801363924738:=0
def tw1859008796705643993:=0
def tw6616545327671245366:=0
def tw6437728123521021682:=0
def tw18416136955828326646:=0
def tw18030789090867799139:=0
def tw16361600424258186900:=0
def tw16724706840416988410:=0
def tw5405050824401915001:=0
def tw17852906531266516416:=0
def tw18229689830727442942:=0
def tw607160508231698471:=0
def tw4896199547940829628:=0
def tw14149364778997645646:=0
def tw17513813885017301398:=0
def tw6177242984950452427:=0
def tw4575940616747381328:=0
def tw16945728014253306525:=0
def tw13765228631553853429:=0
def tw12847049764015876736:=0
def tw6567240073350270624:=0
def tw18238873038628705115:=0
def tw16158954664164603477:=0
def tw6526608736140406633:=0
def tw2752213623378842773:=0
def tw14678247067334161810:=0
def tw11209751467673426029:=0
def tw7878025345110879875:=0
def tw10914216244592564455:=0
def tw17888018074950036443:=0
def tw16864669964452489036:=0
def tw13933084466700363290:=0
def tw2807088652819866407:=0
def tw2498148522451633697:=0
def tw4896770164903256764:=0
def tw3085979970593089378:=0
def tw80879894485944533:=0
def tw15931802631720579486:=0
def tw18052545205183031074:=0
def tw13685913784832015925:=0
def tw2757840152618391188:=0
def tw5220827183631363739:=0
def tw2336908835437198440:=0
def tw9218764173504162911:=0
def tw18307956574199069076:=0
def tw10547976190619789735:=0
def tw2102222429846542813:=0
def tw15511607870766691571:=0
def tw9487629437611899610:=0
def tw16520717087065410402:=0
def tw6059793802734118997:=0
def tw13435387186747691479:=0
def tw4816139790568044936:=0
def tw10460400813459654583:=0
def tw3500255741875175575:=0
def tw1948137461597260940:=0
def tw11389682829253559418:=0
def tw1226589086813907771:=0
def tw425798077504301456:=0
def tw1362196196699817111:=0
def tw9063615459277033174:=0
def tw4507586249376521022:=0
def tw8470407170435890342:=0
def tw11542721321924584755:=0
def tw5291749514899591984:=0
def tw3936276453646727907:=0
def tw1159460313034022608:=0
def tw6503375615959194356:=0
def tw675307997312734284:=0
def tw1403236044295859546:=0
def tw3706793232251350777:=0
def tw2722858838307515085:=0
def tw7558923740158146722:=0
def tw13307497575672909034:=0
def tw7208249607442840660:=0
def tw17850542203252919167:=0
def tw7646271815609077781:=0
def tw3856496473623931432:=0
def tw17708609380689003881:=0
def tw16922429749045430061:=0
def tw12726725331824042199:=0
def tw805498918665177345:=0
def tw6859274176733253219:=0
def tw5514890380063425915:=0
def tw12672746479190403875:=0
def tw4545068089758631711:=0
def tw4541069213669146692:=0
def tw7977782496513939887:=0
def tw5668898285011819875:=0
def tw3979201237168801085:=0
def tw3809435482854705301:=0
def tw3377532827459977527:=0
def tw3047982756628961112:=0
def tw18067087341746090323:=0
def tw12428629660578021997:=0
def tw115349035246249970:=0
def tw10965475715054103161:=0
def tw10397175329188466936:=0
def tw10272117264267330496:=0
def tw12532569167571195384:=0
def tw2091993459761194273:=0
def tw16179831043223036983:=0
def tw11636116353809437938:=0
def tw4111810793824706839:=0
def tw12584324570919850579:=0
def tw1635474536886767736:=0
def tw7082878419857999173:=0
def tw1533109682839069119:=0
def tw3375721264851655243:=0
def tw15983123806045338771:=0
def tw14763380681462626261:=0
def tw14085274468673444634:=0
def tw15071815910708926481:=0
def tw9824823822850033513:=0
def tw981782733246628375:=0
def tw6269012044636573637:=0
def tw9462102549136521855:=0
def tw4331065857474281315:=0
def tw3817340035365823484:=0
def tw14667672699180155981:=0
def tw11336640566122189020:=0
def tw6318931077229992200:=0
def tw11347577177967583137:=0
def tw521313252931384814:=0
def tw2247907274706574420:=0
def tw16641522025161727116:=0
def tw15885789848362494333:=0
def tw18402198368319384327:=0
def tw12219024257656856442:=0
def tw6929961639291981757:=0
def tw573589902682765868:=0
def tw466321743776862803:=0
def tw2757294684664506019:=0
def tw2405664588035973971:=0
def tw17880319592993654382:=0
def tw15949243020942254651:=0
def tw9602946297075058022:=0
def tw6682630816780252871:=0
def tw6280329397326688009:=0
def tw15384511854453574429:=0
def tw13677207887830700697:=0
def tw8546299260849391986:=0
def tw3564784308993876029:=0
def tw9719873631929956169:=0
def tw2175442008352453544:=0
def tw14916227035632744274:=0
def tw555801678915454806:=0
def tw16542924343440476369:=0
def tw9321535896677593024:=0
def tw1857741480023550203:=0
def tw12359846934584158154:=0
def tw9760551302301162681:=0
def tw8481858053374281896:=0
def tw6411541237906621350:=0
def tw5085432266472774966:=0
def tw4436332401433977360:=0
def tw17011840540405572556:=0
def tw15163153112317424331:=0
def tw13660924738116060062:=0
def tw1011680312891208981:=0
def tw7416811032055079807:=0
def tw2171703890846449975:=0
def tw1963824693810297898:=0
def tw17006884816286130567:=0
def tw15250836392081072523:=0
def tw14718513920586103037:=0
def tw10889498852761177004:=0
def tw17714715676287578260:=0
def tw879219526764468321:=0
def tw8322847956117373594:=0
def tw7232935321984991916:=0
def tw6056111335183263245:=0
def tw5098033550622651087:=0
def tw3761168643607495108:=0
def tw3742884548428647229:=0
def tw2303238317382212558:=0
def tw1723958032760854364:=0
def tw14726686928839825309:=0
def tw11641955202351366482:=0
def tw10068227142285237731:=0
def tw15794546027111545222:=0
def tw9512103794906518020:=0
def tw8999368017358920642:=0
def tw865542924796558622:=0
def tw8599750984804493582:=0
def tw7555861408314518668:=0
def tw7171547797237153717:=0
def tw6439044646998474253:=0
def tw6335216690780546717:=0
def tw5092837392654193292:=0
def tw12239983297459394609:=0
def tw11791768474598783625:=0
def tw9119024410859953216:=0
def tw6844994477391208365:=0
def tw2781987146362858449:=0
def tw2463948072506390825:=0
def tw16322901343787776040:=0
def tw16128516789011020403:=0
def tw13738811250534898909:=0
def tw8734259926441428656:=0
def tw7443440633158926112:=0
def tw7063092876980019446:=0
def tw5058132938925654345:=0
def tw3719709820683394116:=0
def tw17528143556469974780:=0
def tw17140199591655241236:=0
def tw16059197887557545489:=0
def tw14872893378815041966:=0
def tw1454022912198515021:=0
def tw12499625594344722257:=0
def tw9881345634010702800:=0
def tw9834634638107365642:=0
def tw9613541139832849216:=0
def tw9585803841616250648:=0
def tw9582653337463512344:=0
def tw955647098887231669:=0
def tw9324964023033771237:=0
def tw9288662599675403090:=0
def tw9270910143236042601:=0
def tw9270581668010701166:=0
def tw924786856802486073:=0
def tw9207884638395565458:=0
def tw9076937950685234656:=0
def tw9022782123396789303:=0
def tw8895342316504609600:=0
def tw8802355623805566322:=0
def tw874028590292163684:=0
def tw8719879781958678536:=0
def tw8659875375201633266:=0
def tw8557947619811887729:=0
def tw8436387183326162500:=0
def tw8392301037037301677:=0
def tw8372203135820522896:=0
def tw8296015640710317675:=0
def tw8228550391397277810:=0
def tw8186634906347868129:=0
def tw8027945042311580141:=0
def tw7953613615024063987:=0
end PySem.W.Fast
open PySem PySem.W PyProof.Rows
local macro_rules | `(tactic| walk_at "!a") => do let k:=Lean.mkIdent `KX;let g:=Lean.mkIdent `G;`(tactic| (dsimp only [L2.KOf];refine' L2.aZ $k $g ?a ?l ?c ?k;(case a=>k_is);(case l=>k_is);(case c=>k_is);(case k=>k_is)))
local macro_rules | `(tactic| walk_at "!b") => do let k:=Lean.mkIdent `KX;let g:=Lean.mkIdent `G;`(tactic| (refine' Z1 $k $g ?a;(case a=>k_is)))
local macro_rules | `(tactic| walk_at "!c") => do let k:=Lean.mkIdent `KX;let g:=Lean.mkIdent `G;`(tactic| (dsimp only [L2.KOf];refine' L2.ou $k $g ?a ?i ?n ?l ?c ?k;(case a=>k_is);(case i=>k_is);(case n=>first | k_is | kernel_rfl);(case l=>k_is);(case c=>k_is);(case k=>k_is)))
local macro_rules | `(tactic| walk_at "!d") => do let k:=Lean.mkIdent `KX;let g:=Lean.mkIdent `G;`(tactic| (refine' L2.gj $k $g ?a ?h;(case a=>k_is);(case h=>exact ⟨_,by with_unfolding_all rfl⟩)))
local macro_rules | `(tactic| walk_at "!e") => do let k:=Lean.mkIdent `KX;let g:=Lean.mkIdent `G;`(tactic| (dsimp only [L2.KOf];refine' L2.yl $k $g ?a ?b ?kp ?na ?i ?t ?l ?c ?k;(case a=>k_is);(case b=>kernel_rfl);(case kp=>k_is);(case na=>kernel_rfl);(case i=>k_is);(case t=>k_is);(case l=>k_is);(case c=>k_is);(case k=>k_is)))
local macro_rules | `(tactic| walk_at "!f") => do let k:=Lean.mkIdent `KX;let g:=Lean.mkIdent `G;`(tactic| (dsimp only [L2.KOf];refine' L2.ud $k $g ?a ?b ?m ?o;(case a=>k_is);(case b=>k_is);(case m=>k_is);(case o=>kernel_rfl)))
local macro_rules | `(tactic| walk_at "!g") => do let k:=Lean.mkIdent `KX;let g:=Lean.mkIdent `G;`(tactic| (dsimp only [L2.KOf];refine' L2.Ff $k $g ?a ?b ?s ?m ?k;(case a=>k_is);(case b=>kernel_rfl);(case s=>k_is);(case m=>first | k_is | kernel_rfl);(case k=>k_is)))
local macro_rules | `(tactic| walk_at "!h") => do let k:=Lean.mkIdent `KX;let g:=Lean.mkIdent `G;`(tactic| (dsimp only [L2.KOf];refine' L2.Fg $k $g ?a ?b;(case a=>k_is);(case b=>kernel_rfl)))
set_option maxRecDepth 100000 in
set_option maxHeartbeats 0 in
theorem PySem.Challenge.cw_panethread_k75_near_ones_apart_holds : PySem.Challenge.rw_panethread_k75_near_ones_apart.Holds := by
 w_on;o_law;k_head;(case hw=>w_witness2)
 k_fill
 refine L2.Xr (l:=PySem.Challenge.rw_panethread_k75_near_ones_apart) (st:=My.Bk) (k:=16) (x:="_law_script") (sp:=My.Sv) rfl rfl rfl ⟨rfl,by decide,by decide,rfl⟩ (fun w h Y=>PySem.W.kIn_of Y) (fun _ _ _ _ _ _ us hl=>L2.tU (fun _=>rfl) us hl) ?F (fun K H a ns hl hS=>⟨a,ns,rfl,hS,fun _=>rfl⟩)
 case F=>
  intro w mg h KX G
  have T:My.Txt (L2.KOf KX) mg:=by
   constructor;(iterate 16 walk_at "!b");(iterate 10 walk_at "!d");(iterate 43 walk_at "!a");(dsimp only [L2.KOf];refine' L2.RQ KX G ?a ?b;(case a=>k_is);(case b=>kernel_rfl));(iterate 6 walk_at "!e");walk_at "!g";walk_at "!h";walk_at "!g";walk_at "!h";walk_at "!g";walk_at "!h";walk_at "!g";walk_at "!h";(iterate 12 walk_at "!c");(iterate 6 walk_at "!f")
  exact ⟨T.d_law,fun base f fd F=>My.Wg T F⟩
