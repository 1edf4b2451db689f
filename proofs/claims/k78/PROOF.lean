import PyProof.Rows.All
import Wide.All
import OpenK.AllK
import Wide.FinOn
import Lean
import PyProof.EqAt
import PyProof.EqKinds
import PyProof.TupleCall
import PyProof.ReprRoads
import KE.KSortTup
import KE.KDictList
import KE.KMinKey
import KE.KIntText
import KE.KLam
import KE.KNestM
import PySem.Challenge.RW_panethread_k78_papers_of_openings
noncomputable section
abbrev gV:=@PySem.wpAny_bind
abbrev Aaa:=@List.getElem?_eq_getElem
abbrev Aab:=@List.getElem?_eq_some_iff
abbrev Aac:=@List.getD_eq_getElem?_getD
abbrev Aad:=@Nat.le_refl
abbrev Aae:=@PySem.Heap.get?_push_of_some
abbrev Aaf:=@List.length_map
abbrev Aag:=@PySem.wpAny_pure
abbrev Aah:=@List.getElem?_map
abbrev Aai:=@List.mem_of_getElem?
abbrev Aaj:=@List.mem_cons
abbrev Aak:=@Bool.false_ne_true
abbrev Aal:=@PySem.Heap.lt_size
abbrev Aam:=@List.mem_singleton
abbrev Aan:=@Nat.lt_of_lt_of_le
abbrev Aao:=@decide_eq_false
abbrev Aap:=@List.mem_cons_of_mem
abbrev Aaq:=@PySem.Heap.get?_push_size
abbrev Aar:=@decide_eq_true
abbrev Aas:=@List.getElem?_append_right
abbrev Aat:=@List.getElem?_range
abbrev Aau:=@List.map_append
abbrev Aav:=@Bool.and_eq_true
abbrev Aaw:=@List.getElem?_append_left
abbrev Aax:=@List.size_toArray
abbrev Aay:=@Nat.le_trans
abbrev Aaz:=@List.mem_append
abbrev AaA:=@List.mem_range
abbrev AaB:=@PySem.F.plainAttrs_list
abbrev AaC:=@PySem.F.slot_list_append
abbrev AaD:=@PySem.F.type_list_append
abbrev AaE:=@Option.some.inj
abbrev AaF:=@PySem.PassesOwn.never
abbrev AaG:=@Array.length_toList
abbrev AaH:=@List.mem_cons_self
abbrev AaI:=@PyProof.Rows.callWith_type1
abbrev AaJ:=@Nat.ne_of_lt
abbrev AaK:=@List.lookup_cons
abbrev AaL:=@List.append_nil
abbrev AaM:=@List.getElem?_set_ne
abbrev AaN:=@List.mem_nil_iff
abbrev AaO:=@List.mem_map
abbrev AaP:=@PySem.wpAny_mono
abbrev AaQ:=@PySem.Heap.get?_update_other
abbrev AaR:=@List.length_append
abbrev AaS:=@List.getElem?_set_self
abbrev AaT:=@Option.map_eq_some_iff
abbrev AaU:=@List.take_of_length_le
abbrev AaV:=@List.mem_append_right
abbrev AaW:=@List.map_cons
abbrev AaX:=@List.all_cons
abbrev AaY:=@List.getElem?_eq_none
abbrev AaZ:=@PySem.wpAny_Call_Name_kw
abbrev Aa0:=@PySem.W.mg_none_of
abbrev Aa1:=@PySem.mem_of_lookup
abbrev Aa2:=@PySem.W.mg_of
abbrev Aa3:=@PySem.Heap.get?_update_self
abbrev Aa4:=@List.take_add_one
abbrev Aa5:=@PySem.wpAny_holding
abbrev Aa6:=@List.getElem_mem
abbrev Aa7:=@Nat.lt_irrefl
abbrev Aa8:=@PySem.wpAny_newObj_type
abbrev Aa9:=@PySem.W.kia_one
abbrev Aba:=@List.length_cons
abbrev Abb:=@Nat.zero_le
abbrev Abd:=@PySem.wpAny_truthy_bool
abbrev Abe:=@List.mem_iff_getElem
abbrev Abf:=@PySem.wpAny_loadPart_at
abbrev Abg:=@List.contains_cons
abbrev Abh:=@PySem.W.looks_findIn
abbrev Abi:=@List.all_eq_true
abbrev Abj:=@List.take_length
abbrev Abk:=@PySem.Heap.size_push
abbrev Abl:=@List.append_assoc
abbrev Abm:=@List.replicate_succ
abbrev Abn:=@List.range_succ
abbrev Abo:=@PyProof.Rows.slot_tuple_getitem
abbrev Abp:=@Array.getElem?_eq_getElem
abbrev Abq:=@PySem.builtinLookup_eq_fast
abbrev Abr:=@beq_iff_eq
abbrev Abs:=@List.length_take
abbrev Abt:=@Nat.sub_self
abbrev Abu:=@PySem.wpAny_field
abbrev Abv:=@PySem.wpAny_getItem_str_slice
abbrev Abw:=@Nat.add_sub_cancel_left
abbrev Abx:=@beq_eq_false_iff_ne
abbrev Aby:=@List.filterMap_cons
abbrev Abz:=@Array.getD_eq_getD_getElem?
abbrev AbA:=@PySem.wpAny_of_eq
abbrev AbB:=@PySem.F.plain_max_loop
abbrev AbC:=@PySem.W.callWith_K
abbrev AbD:=@PySem.Obj.data_mapFields
abbrev AbE:=@List.getElem?_drop
abbrev AbF:=@List.range_add
abbrev AbG:=@List.length_filter_le
abbrev AbH:=@PySem.wpAny_passesOwn
abbrev AbI:=@Nat.le_of_succ_le
abbrev AbJ:=@List.ext_getElem?
abbrev AbK:=@List.length_range
abbrev AbL:=@List.mem_of_mem_take
abbrev AbM:=@Bool.or_eq_false_iff
abbrev AbN:=@PySem.wpAny_isSubtype_exc
abbrev AbO:=@List.map_congr_left
abbrev AbP:=@Int.toNat_of_nonneg
abbrev AbQ:=@List.length_reverse
abbrev AbR:=@Nat.lt_succ_self
abbrev AbS:=@List.length_drop
abbrev AbT:=@PySem.wpAny_callSpecial?_slot
abbrev AbU:=@List.mem_reverse
abbrev AbV:=@Nat.ne_of_gt
abbrev AbW:=@List.drop_eq_nil_of_le
abbrev AbX:=@List.map_map
abbrev AbY:=@List.length_eq_one_iff
abbrev AbZ:=@List.length_set
abbrev Ab0:=@List.find?_cons
abbrev Ab1:=@PySem.wpAny_specialOf
abbrev Ab2:=@PySem.typeLookup_type
abbrev Ab3:=@PySem.Obj.isFreed_of_fields
abbrev Ab4:=@PySem.W.methodCall_KW
abbrev Ab5:=@List.flatten_cons
abbrev Ab6:=@of_decide_eq_true
abbrev Ab7:=@List.nodup_append
abbrev Ab8:=@List.mem_append_left
abbrev Ab9:=@PySem.wpAny_loadPart
abbrev Aca:=@PySem.wpAny_call
abbrev Acb:=@PySem.isSubtype_type
abbrev Acd:=@PySem.wpAny_setField
abbrev Ace:=@PySem.codeAny_call_builtin
abbrev Acf:=@PySem.Around.under_plainId
abbrev Acg:=@PySem.wpAny_call_entry
abbrev Ach:=@Nat.le_add_right
abbrev Aci:=@Nat.min_eq_right
abbrev Acj:=@List.mem_flatMap
abbrev Ack:=@List.nodup_range
abbrev Acl:=@PySem.wpAny_standAt
abbrev Acm:=@PySem.plainId_quiet
abbrev Acn:=@PySem.wpAny_attempt
local macro_rules | `(tactic| trivial) => `(tactic| decide +kernel)
set_option compiler.extract_closed false
set_option Elab.async false
set_option linter.all false
set_option maxRecDepth 100000
namespace L2
@[elab_as_elim] theorem jE {p:List PySem.Value->Prop} (h:∀ a0:PySem.Value,p [a0]) (us:List PySem.Value) (hl:us.length=1):p us:=by
 rcases us with _ | ⟨a0,us0⟩
 ·cases hl
 rcases us0 with _ | ⟨b,us⟩
 ·exact h a0
 ·cases hl
@[elab_as_elim] theorem mJ {p:List PySem.Value->Prop} (h:∀ a0 a1:PySem.Value,p [a0,a1]) (us:List PySem.Value) (hl:us.length=2):p us:=by
 rcases us with _ | ⟨a0,us0⟩
 ·cases hl
 rcases us0 with _ | ⟨a1,us1⟩
 ·cases hl
 rcases us1 with _ | ⟨b,us⟩
 ·exact h a0 a1
 ·cases hl
@[elab_as_elim] theorem pI {p:List PySem.Value->Prop} (h:∀ a0 a1 a2:PySem.Value,p [a0,a1,a2]) (us:List PySem.Value) (hl:us.length=3):p us:=by
 rcases us with _ | ⟨a0,us0⟩
 ·cases hl
 rcases us0 with _ | ⟨a1,us1⟩
 ·cases hl
 rcases us1 with _ | ⟨a2,us2⟩
 ·cases hl
 rcases us2 with _ | ⟨b,us⟩
 ·exact h a0 a1 a2
 ·cases hl
@[elab_as_elim] theorem usN4 {p:List PySem.Value->Prop} (h:∀ a0 a1 a2 a3:PySem.Value,p [a0,a1,a2,a3]) (us:List PySem.Value) (hl:us.length=4):p us:=by
 rcases us with _ | ⟨a0,us0⟩
 ·cases hl
 rcases us0 with _ | ⟨a1,us1⟩
 ·cases hl
 rcases us1 with _ | ⟨a2,us2⟩
 ·cases hl
 rcases us2 with _ | ⟨a3,us3⟩
 ·cases hl
 rcases us3 with _ | ⟨b,us⟩
 ·exact h a0 a1 a2 a3
 ·cases hl
@[elab_as_elim] theorem usN5 {p:List PySem.Value->Prop} (h:∀ a0 a1 a2 a3 a4:PySem.Value,p [a0,a1,a2,a3,a4]) (us:List PySem.Value) (hl:us.length=5):p us:=by
 rcases us with _ | ⟨a0,us0⟩
 ·cases hl
 rcases us0 with _ | ⟨a1,us1⟩
 ·cases hl
 rcases us1 with _ | ⟨a2,us2⟩
 ·cases hl
 rcases us2 with _ | ⟨a3,us3⟩
 ·cases hl
 rcases us3 with _ | ⟨a4,us4⟩
 ·cases hl
 rcases us4 with _ | ⟨b,us⟩
 ·exact h a0 a1 a2 a3 a4
 ·cases hl
@[elab_as_elim] theorem usN6 {p:List PySem.Value->Prop} (h:∀ a0 a1 a2 a3 a4 a5:PySem.Value,p [a0,a1,a2,a3,a4,a5]) (us:List PySem.Value) (hl:us.length=6):p us:=by
 rcases us with _ | ⟨a0,us0⟩
 ·cases hl
 rcases us0 with _ | ⟨a1,us1⟩
 ·cases hl
 rcases us1 with _ | ⟨a2,us2⟩
 ·cases hl
 rcases us2 with _ | ⟨a3,us3⟩
 ·cases hl
 rcases us3 with _ | ⟨a4,us4⟩
 ·cases hl
 rcases us4 with _ | ⟨a5,us5⟩
 ·cases hl
 rcases us5 with _ | ⟨b,us⟩
 ·exact h a0 a1 a2 a3 a4 a5
 ·cases hl
theorem auto1 (h:True:=by first | exact .inl rfl | exact .inr rfl | assumption):True:=h
theorem auto2 (h:True:=by decide):True:=h
theorem auto3 (h:True:=by intro _;rfl):True:=h
theorem auto4 (h:True:=by rfl):True:=h
theorem auto5 (h:True:=by with_unfolding_all rfl):True:=h
theorem auto6 (h:True:=by trivial):True:=h
theorem auto7 (h:True:=by kernel_rfl):True:=h
open PySem PySem.Spec PyProof.Rows
abbrev Key:=Sum Int Str
def Aa:Key->Value->Bool
 | .inl k,v=>Value.isInt k v
 | .inr x,v=>Value.isStrOf x v
def keyH (w:World):Key->Int
 | .inl k=>hashInt k
 | .inr x=>hashStr w x
theorem eV:∀ {k:Key} {v:Value},Aa k v=true->(∃ i t,k=Sum.inl i/\v=Value.int i t)\/(∃ x t,k=Sum.inr x/\v=Value.str x t)
 | .inl i,v,h=>by
  obtain ⟨t,e⟩:=Value.isInt_shape (k:=i) (v:=v) h;exact .inl ⟨i,t,rfl,e⟩
 | .inr x,v,h=>by
  obtain ⟨t,e⟩:=Value.isStrOf_shape (x:=x) (v:=v) h;exact .inr ⟨x,t,rfl,e⟩
theorem Ka (i:Int) (t:Tok):Aa (.inl i) (.int i t)=true:=by simp [Aa,Value.isInt]
theorem Kc (x:Str) (t:Tok):Aa (.inr x) (.str x t)=true:=by simp [Aa,Value.isStrOf]
theorem Vw (a b:Int):decide ((Sum.inl a:Key)=Sum.inl b)=(a == b):=by
 by_cases e:a=b
 ·subst e;simp
 ·have h:¬ (Sum.inl a:Key)=Sum.inl b:=fun q=>e (Sum.inl.inj q)
  rw [Aao h];exact (Abx.mpr e).symm
theorem Vx (a b:Str):decide ((Sum.inr a:Key)=Sum.inr b)=decide (a=b):=by
 by_cases e:a=b
 ·subst e;simp
 ·have h:¬ (Sum.inr a:Key)=Sum.inr b:=fun q=>e (Sum.inr.inj q)
  rw [Aao h,Aao e]
theorem Vy (a:Int) (b:Str):decide ((Sum.inl a:Key)=Sum.inr b)=false:=Aao (fun q=>nomatch q)
theorem Vz (a:Str) (b:Int):decide ((Sum.inr a:Key)=Sum.inl b)=false:=Aao (fun q=>nomatch q)
def eY (prog:Program) (w:World):PySem.KeyKind prog w Key where
 is:=Aa
 hash:=keyH w
 inj:=fun v a b ha hb=>by
  rcases eV ha with ⟨i,t,rfl,rfl⟩ | ⟨x,t,rfl,rfl⟩
  ·rcases eV hb with ⟨j,u,rfl,e⟩ | ⟨y,u,rfl,e⟩
   ·injection e with e1 _;rw [e1]
   ·exact nomatch e
  ·rcases eV hb with ⟨j,u,rfl,e⟩ | ⟨y,u,rfl,e⟩
   ·exact nomatch e
   ·injection e with e1 _;rw [e1]
 byValue:=fun k v h=>by
  rcases eV h with ⟨i,t,rfl,rfl⟩ | ⟨x,t,rfl,rfl⟩ <;> rfl
 pyHash:=fun hv h=>by
  rcases eV hv with ⟨i,t,rfl,rfl⟩ | ⟨x,t,rfl,rfl⟩
  ·exact wpAny_pyHash_int h
  ·exact wpAny_pyHash_str h
 eqBool:=fun hu hv h=>by
  rcases eV hu with ⟨i,t,rfl,rfl⟩ | ⟨x,t,rfl,rfl⟩
  ·rcases eV hv with ⟨j,u,rfl,rfl⟩ | ⟨y,u,rfl,rfl⟩
   ·rw [Vw] at h;exact wpAny_eqBool_int h
   ·rw [Vy] at h;exact SeqAt.EqAt.int_str i t y u _ _ _ _ h
  ·rcases eV hv with ⟨j,u,rfl,rfl⟩ | ⟨y,u,rfl,rfl⟩
   ·rw [Vz] at h;exact SeqAt.EqAt.str_int x t j u _ _ _ _ h
   ·rw [Vx] at h;exact wpAny_eqBool_str h
 «strs»:=fun k x t v h=>by
  rcases eV h with ⟨i,u,rfl,e⟩ | ⟨y,u,rfl,e⟩
  ·exact nomatch e
  ·injection e with e1 _
   subst e1;cases v <;> rfl
theorem DN (prog:Program) (w:World) (i:Int) (t:Tok):(eY prog w).is (.inl i) (.int i t)=true:=Ka i t
theorem DP (prog:Program) (w:World) (x:Str) (t:Tok):(eY prog w).is (.inr x) (.str x t)=true:=Kc x t
end L2
namespace L2
open PySem PySem.Spec PyProof.Rows
inductive V where
 | non | bl (b:Bool) | int (i:Int) | str (x:Str) | byt (b:Array UInt8) | flt (b:UInt64) | ref (a:Addr) | ty (n:String)
 deriving DecidableEq
def RelV:V->Value->Prop
 | .non,u=>u=Value.none
 | .bl b,u=>u=Value.bool b
 | .int i,u=>∃ t,u=Value.int i t
 | .str x,u=>∃ t,u=Value.str x t
 | .byt b,u=>∃ t,u=Value.bytes b t
 | .flt b,u=>∃ t,u=Value.float b t
 | .ref a,u=>u=Value.ref a
 | .ty n,u=>u=Value.type n
abbrev Vals:List V->List Value->Prop:=Paired RelV
theorem Vals.length {xs:List V} {us:List Value} (r:Vals xs us):xs.length=us.length:=Paired.length r
theorem Vals.get:∀ {xs:List V} {us:List Value} {i:Nat} {x:V},Vals xs us->xs[i]?=some x->∃ u,us[i]?=some u/\RelV x u
 | _,_,_,_,.nil,e=>by simp at e
 | _,_,0,_,.cons r _,e=>by simp at e;subst e;exact ⟨_,rfl,r⟩
 | _,_,i+1,x,.cons _ t,e=>by
  obtain ⟨u,h1,h2⟩:=Vals.get (i:=i) (x:=x) t (by simpa using e);exact ⟨u,by simpa using h1,h2⟩
theorem Vals.set {x:V} {u:Value} (r:RelV x u):∀ {xs:List V} {us:List Value} (i:Nat),Vals xs us->Vals (xs.set i x) (us.set i u)
 | _,_,_,.nil=>.nil
 | _,_,0,.cons _ t=>.cons r t
 | _,_,i+1,.cons q t=>.cons q (Vals.set r i t)
theorem Vals.append:∀ {xs ys:List V} {us ws:List Value},Vals xs us->Vals ys ws->Vals (xs ++ ys) (us ++ ws)
 | _,_,_,_,.nil,s=>s
 | _,_,_,_,.cons r t,s=>.cons r (Vals.append t s)
theorem Vals.take:∀ {xs:List V} {us:List Value} (n:Nat),Vals xs us->Vals (xs.take n) (us.take n)
 | _,_,0,_=>.nil
 | _,_,_+1,.nil=>.nil
 | _,_,n+1,.cons r t=>.cons r (Vals.take n t)
theorem Vals.drop:∀ {xs:List V} {us:List Value} (n:Nat),Vals xs us->Vals (xs.drop n) (us.drop n)
 | _,_,0,r=>r
 | _,_,_+1,.nil=>.nil
 | _,_,n+1,.cons _ t=>Vals.drop n t
def RelO:Option V->Option Value->Prop
 | some v,some u=>RelV v u
 | none,none=>True
 | _,_=>False
def KV {κ:Type}:List (κ×V)->List (κ×Value)->Prop:=Paired fun (p:κ×V) (q:κ×Value)=>p.1=q.1/\RelV p.2 q.2
def kV:Key->V
 | .inl i=>.int i
 | .inr x=>.str x
inductive HO where
 /-- a list -/
 | lst (xs:List V)
 /-- a tuple (never changes) -/
 | tup (xs:List V)
 /-- a dict whose keys are ints and texts;one whose keys are tuples of ints and texts (the empty one is both) -/
 | dK (kvs:List (Key×V)) | dT (kvs:List (List Key×V))
 /-- a set of ints:its members,its size -/
 | set (S:Int->Bool) (n:Nat)
 /-- an instance of the class at C,its dict at dx,its attributes -/
 | ins (C dx:Addr) (fs:List (Str×V))
 /-- the dict of the instance at x -/
 | own (x:Addr)
 /-- the dict of an exception -/
 | xd (fs:List (Str×V))
 /-- a bound method,f of x -/
 | met (f x:Addr)
 /-- a range object lo,lo+1,.. below hi -/
 | rng (lo hi:Int)
 /-- a thing that is known to the object (the script;a dict while a loop walks it):read,never written while it is so -/
 | frz (o:Obj) (u:HO)
 /-- a code object's table -/
 | tbl (ps:Array Value)
 /-- any other thing,by what is true of its one object (a def of one's own:SetO a S n:=HO.ext fun h=>..) -/
 | ext (φ:Heap->Prop)
abbrev Hp:=Addr->Option HO
def upd (H:Hp) (a:Addr) (o:HO):Hp:=fun b=>if b=a then some o else H b
theorem aj {H:Hp} {a:Addr} {o:HO}:upd H a o a=some o:=by unfold upd;rw [if_pos rfl]
theorem aD {H:Hp} {a b:Addr} {o:HO} (h:b≠a):upd H a o b=H b:=by unfold upd;rw [if_neg h]
theorem Ra {H:Hp} {a:Addr} {o u:HO}:upd (upd H a o) a u=upd H a u:=by
 funext b;unfold upd;split <;> rfl
theorem YJ {H:Hp} {a b:Addr} {o u:HO} (h:H a=some o) (h':H b=some u) (d:o≠u):a≠b:=by
 intro e;subst e;rw [h] at h';exact d (AaE h')
theorem mK {H:Hp} {a b:Addr} {o:HO} (h:H a=some o) (h':H b=none):a≠b:=by
 intro e;subst e;rw [h] at h';cases h'
section
variable (P:Program) (w:World)
def ObjOk (H:Hp) (h:Heap) (a:Addr):HO->Prop
 | .lst xs=>xs.length<=sizeLine/\∃ (its:List Value) (n:Nat),Vals xs its/\h.get? a=some {cls:=.type "list",data:=.seq its.toArray n}
 | .tup xs=>xs.length<=sizeLine/\∃ its:List Value,Vals xs its/\IsTup h a its.toArray
 | .dK kvs=>kvs.length<=sizeLine/\(a == sysModules)=false/\∃ vs,KV kvs vs/\h.DictOf (eY P w) a vs
 | .dT kvs=>kvs.length<=sizeLine/\(a == sysModules)=false/\∃ xs:List (List Key×Addr×Value),
   Paired (fun (p:List Key×V) (q:List Key×Addr×Value)=>p.1=q.1/\H q.2.1=some (.tup (p.1.map kV))/\RelV p.2 q.2.2) kvs xs/\
   ∃ o es ep,h.get? a=some o/\o.ExactDict/\o.data= .dict es ep/\es.toList=xs.map (entryOfKey (tupleKind (eY P w)))/\(xs.map (·.1)).Nodup
 | .set S n=>h.SetOf (intKind P w) a S n
 | .ins C dx fs=>H dx=some (.own a)/\fs.length<=1000/\dx≠a/\h.get? a=some (PySem.W.instObj C dx)/\
   ∃ mA,h.Ns1 dx mA/\(∀ f,RelO (fs.lookup f) (mA f))/\PySem.Within mA (fs.map (·.1))
 | .own _=>∃ o,h.get? a=some o
 | .xd fs=>∃ mA,h.Ns1 a mA/\∀ f,RelO (fs.lookup f) (mA f)
 | .rng lo hi=>∃ t u v,h.get? a=some {cls:=.type "range",data:=.fields #[.int lo t,.int hi u,.int 1 v]}
 | .frz o u=>h.get? a=some o/\ObjOk H h a u
 | .tbl ps=>h.get? a=some {cls:=.none,data:=.fields ps}
 | .met f x=>h.get? a=some (PySem.W.methodObj (.ref f) (.ref x))
 | .ext φ=>φ h/\(∃ o,h.get? a=some o)/\∀ h1 h2:Heap,φ h1->(∀ o,h1.get? a=some o->h2.get? a=some o)->φ h2
def HOk (H:Hp) (h:Heap):Prop:=∀ a o,H a=some o->ObjOk P w H h a o
end
section
variable {P:Program} {w:World} {H H':Hp} {h h':Heap} {a:Addr} {o:HO}
theorem ObjOk.lt (x:ObjOk P w H h a o):a < h.objs.size:=by
 cases o with
 | lst xs=>obtain ⟨_,_,_,_,e⟩:=x;exact Aal e
 | tup xs=>obtain ⟨_,_,_,p⟩:=x;exact p.lt
 | dK kvs=>obtain ⟨_,_,_,_,o,_,_,e,_⟩:=x;exact Aal e
 | dT kvs=>obtain ⟨_,_,_,_,o,_,_,e,_⟩:=x;exact Aal e
 | set S n=>obtain ⟨o,_,_,_,e,_⟩:=x;exact Aal e
 | ins C dx fs=>obtain ⟨_,_,_,e,_⟩:=x;exact Aal e
 | own y=>obtain ⟨_,e⟩:=x;exact Aal e
 | xd fs=>obtain ⟨_,⟨_,_,_,e,_⟩,_⟩:=x;exact Aal e
 | rng lo hi=>obtain ⟨_,_,_,e⟩:=x;exact Aal e
 | frz ob u=>obtain ⟨e,_⟩:=x;exact Aal e
 | tbl ps=>exact Aal (show h.get? a=some _ from x)
 | met f y=>exact Aal (show h.get? a=some _ from x)
 | ext φ=>obtain ⟨_,⟨_,e⟩,_⟩:=x;exact Aal e
theorem Paired.mapP {α β:Type} {F G:α->β->Prop}:∀ {l₁:List α} {l₂:List β},Paired F l₁ l₂->(∀ a b,F a b->G a b)->Paired G l₁ l₂
 | _,_,.nil,_=>.nil
 | _,_,.cons r t,f=>.cons (f _ _ r) (Paired.mapP t f)
theorem ObjOk.stay (x:ObjOk P w H h a o) (k:∀ b u,(b=a\/H b=some (.own a))->h.get? b=some u->h'.get? b=some u)
  (ho:∀ b,H b=some (.own a)->H' b=some (.own a)) (ht:∀ b xs,H b=some (.tup xs)->H' b=some (.tup xs)):ObjOk P w H' h' a o:=by
 induction o with
 | lst xs=>obtain ⟨z,its,n,r,e⟩:=x;exact ⟨z,its,n,r,k _ _ (.inl rfl) e⟩
 | tup xs=>obtain ⟨z,its,r,ob,e,c⟩:=x;exact ⟨z,its,r,ob,k _ _ (.inl rfl) e,c⟩
 | dK kvs=>obtain ⟨z,y,vs,r,ob,es,ep,e,c⟩:=x;exact ⟨z,y,vs,r,ob,es,ep,k _ _ (.inl rfl) e,c⟩
 | dT kvs=>
  obtain ⟨z,y,xs,r,ob,es,ep,e,c⟩:=x;exact ⟨z,y,xs,Paired.mapP r fun p q z=>⟨z.1,ht _ _ z.2.1,z.2.2⟩,ob,es,ep,k _ _ (.inl rfl) e,c⟩
 | set S n=>obtain ⟨ob,es,ep,t,e,c⟩:=x;exact ⟨ob,es,ep,t,k _ _ (.inl rfl) e,c⟩
 | ins C dx fs=>
  obtain ⟨d,z,ne,e,mA,⟨od,es,ep,e2,c⟩,r⟩:=x;exact ⟨ho _ d,z,ne,k _ _ (.inl rfl) e,mA,⟨od,es,ep,k _ _ (.inr d) e2,c⟩,r⟩
 | own y=>obtain ⟨ob,e⟩:=x;exact ⟨ob,k _ _ (.inl rfl) e⟩
 | xd fs=>obtain ⟨mA,⟨od,es,ep,e,c⟩,r⟩:=x;exact ⟨mA,⟨od,es,ep,k _ _ (.inl rfl) e,c⟩,r⟩
 | rng lo hi=>obtain ⟨t,u,v,e⟩:=x;exact ⟨t,u,v,k _ _ (.inl rfl) e⟩
 | frz ob u ih=>obtain ⟨e,q⟩:=x;exact ⟨k _ _ (.inl rfl) e,ih q⟩
 | tbl ps=>
  have e:h.get? a=some {cls:=.none,data:=.fields ps}:=x;show h'.get? a=some {cls:=.none,data:=.fields ps};exact k a _ (.inl rfl) e
 | met f y=>
  have e:h.get? a=some (PySem.W.methodObj (.ref f) (.ref y)):=x;show h'.get? a=some (PySem.W.methodObj (.ref f) (.ref y));exact k a _ (.inl rfl) e
 | ext φ=>obtain ⟨p,⟨o,e⟩,st⟩:=x;exact ⟨st _ _ p fun o q=>k _ _ (.inl rfl) q,⟨o,k _ _ (.inl rfl) e⟩,st⟩
theorem HOk.lt (x:HOk P w H h) (e:H a=some o):a < h.objs.size:=(x a o e).lt
theorem HOk.fresh (x:HOk P w H h) (e:h.objs.size<=a):H a=none:=by
 cases q:H a with
 | none=>rfl
 | some u=>exact absurd (Aan (x.lt q) e) (Aa7 _)
theorem HOk.kept (x:HOk P w H h) (k:∀ b u,h.get? b=some u->h'.get? b=some u):HOk P w H h':=fun a o e=>
 (x a o e).stay (fun b u _ q=>k b u q) (fun _ q=>q) fun _ _ q=>q
theorem HOk.laid (x:HOk P w H h) (k:∀ b u,h.get? b=some u->h'.get? b=some u) (hp:h.objs.size<=a) (new:ObjOk P w (upd H a o) h' a o):HOk P w (upd H a o) h':=fun b u e=>by
 have hn:=x.fresh hp;by_cases hb:b=a
 ·subst hb;rw [aj] at e;cases e;exact new
 ·rw [aD hb] at e
  exact (x b u e).stay (fun c v _ q=>k c v q) (fun c q=>by rw [aD (mK q hn)];exact q) fun c xs q=>by rw [aD (mK q hn)];exact q
end
def Rd (H:Hp) (a:Addr) (u:HO):Prop:=H a=some u\/∃ o,H a=some (.frz o u)
theorem Rd.ok {P:Program} {w:World} {H:Hp} {h:Heap} {a:Addr} {u:HO} (r:Rd H a u) (x:HOk P w H h):ObjOk P w H h a u:=by
 rcases r with r | ⟨o,r⟩
 ·exact x a u r
 ·obtain ⟨_,q⟩:=x a _ r
  exact q
def YK:Option HO->Prop
 | some (.lst _)=>True
 | some (.dK _)=>True
 | some (.dT _)=>True
 | some (.set _ _)=>True
 | some (.ins _ _ _)=>True
 | some (.ext _)=>True
 | _=>False
section
variable {P:Program} {w:World} {H:Hp} {h h':Heap} {x e:Addr} {o':HO}
theorem HOk.write (ok:HOk P w H h) (mu:YK (H x)) (he:e=x\/H e=some (.own x)) (k:∀ b u,b≠e->h.get? b=some u->h'.get? b=some u) (heo:∃ u,h'.get? e=some u)
  (new:ObjOk P w (upd H x o') h' x o'):HOk P w (upd H x o') h':=fun b u q=>by
 have nown:∀ c y,H c=some (.own y)->c≠x:=fun c y r z=>by subst z;rw [r] at mu;exact mu
 have ntup:∀ c xs,H c=some (.tup xs)->c≠x:=fun c xs r z=>by subst z;rw [r] at mu;exact mu
 by_cases hb:b=x
 ·subst hb;rw [aj] at q;cases q;exact new
 ·rw [aD hb] at q
  by_cases hbe:b=e
  ·have q':H b=some (.own x):=by
    rcases he with z | z
    ·exact absurd (hbe.trans z) hb
    ·rw [hbe];exact z
   rw [q] at q';cases q';obtain ⟨v,hv⟩:=heo;exact ⟨v,by rw [hbe];exact hv⟩
  ·refine (ok b u q).stay (fun c v hc r=>k c v ?_ r) (fun c r=>by rw [aD (nown c b r)];exact r) fun c xs r=>by rw [aD (ntup c xs r)];exact r
   rcases hc with rfl | hc
   ·exact hbe
   ·rintro rfl
    rcases he with z | z
    ·exact nown c b hc z
    ·rw [hc] at z;cases z;exact hb rfl
end
structure Un (fs ex:List Addr) (H H':Hp) (h h':Heap):Prop where
 keep:∀ b o,h.get? b=some o->H b=none->b ∉ fs->b ∉ ex->h'.get? b=some o
 slot:∀ b o,h.get? b=some o->H b=none->b∈fs->b ∉ ex->∃ sl,h'.get? b=some {o with slots:=sl}
 free:∀ b o,h.get? b=some o->H b=none->b ∉ ex->H' b=none
 there:∀ b o,h.get? b=some o->b ∉ ex->∃ o',h'.get? b=some o'
 tups:∀ b xs,H b=some (.tup xs)->H' b=some (.tup xs)
 frzs:∀ b o u,H b=some (.frz o u)->H' b=some (.frz o u)
 tbls:∀ b ps,H b=some (.tbl ps)->∃ more,H' b=some (.tbl (ps ++ more))
section
variable {fs fs' ex ex':List Addr} {H H1 H2:Hp} {h h1 h2 h':Heap} {a x e:Addr} {o:HO}
theorem Un.any (u:Un fs ex H H1 h h1) {b:Addr} {ob:Obj} (q:h.get? b=some ob) (n:H b=none) (hx:b ∉ ex):∃ sl,h1.get? b=some {ob with slots:=sl}:=by
 by_cases hb:b∈fs
 ·exact u.slot b ob q n hb hx
 ·exact ⟨ob.slots,u.keep b ob q n hb hx⟩
theorem Un.kept (k:∀ b u,h.get? b=some u->h'.get? b=some u):Un fs ex H H h h':=
 ⟨fun b ob q _ _ _=>k b ob q,fun b ob q _ _ _=>⟨ob.slots,k b ob q⟩,fun _ _ _ n _=>n,fun b ob q _=>⟨ob,k b ob q⟩,fun _ _ q=>q,fun _ _ _ q=>q,fun _ ps q=>⟨#[],by rw [q];simp⟩⟩
theorem Un.refl:Un fs ex H H h h:=Un.kept fun _ _ q=>q
theorem Un.laid (k:∀ b u,h.get? b=some u->h'.get? b=some u) (hp:h.objs.size<=a) (hn:H a=none):Un fs ex H (upd H a o) h h' where
 keep:=fun b u q _ _ _=>k b u q
 slot:=fun b u q _ _ _=>⟨u.slots,k b u q⟩
 free:=fun b u q n _=>by rw [aD (AaJ (Aan (Aal q) hp))];exact n
 there:=fun b u q _=>⟨u,k b u q⟩
 tups:=fun b xs q=>by rw [aD (mK q hn)];exact q
 frzs:=fun b u xs q=>by rw [aD (mK q hn)];exact q
 tbls:=fun b ps q=>⟨#[],by rw [aD (mK q hn),q];simp⟩
theorem Un.write (mu:YK (H x)) (he:e=x\/H e=some (.own x)) (k:∀ b u,b≠e->h.get? b=some u->h'.get? b=some u) (heo:∃ u,h'.get? e=some u):Un fs ex H (upd H x o) h h':=by
 have hx:∀ b,H b=none->b≠x:=fun b n z=>by subst z;rw [n] at mu;exact mu
 have hb:∀ b,H b=none->b≠e:=fun b n z=>by
  subst z;rcases he with r | r
  ·exact hx b n r
  ·rw [n] at r;cases r
 have hm:∀ b u,H b=some u->¬ YK (some u)->b≠x:=fun b u q nm z=>by subst z;rw [q] at mu;exact nm mu
 refine ⟨fun b u q n _ _=>k b u (hb b n) q,fun b u q n _ _=>⟨u.slots,k b u (hb b n) q⟩,fun b u q n _=>by rw [aD (hx b n)];exact n,fun b u q _=>?_,
  fun b xs q=>by rw [aD (hm b _ q fun z=>z)];exact q,fun b u xs q=>by rw [aD (hm b _ q fun z=>z)];exact q,fun b ps q=>⟨#[],by rw [aD (hm b _ q fun z=>z),q];simp⟩⟩
 by_cases hbe:b=e
 ·subst hbe;exact heo
 ·exact ⟨u,k b u hbe q⟩
end
def Q7 (h:Heap) (H:Hp):List Addr:=(List.range h.objs.size).filter fun a=>(H a).isSome
def Bs (h:Heap) (H:Hp):Heap:=PySem.W.hideAll h (Q7 h H)
theorem Ke (h:Heap) (H:Hp):(Bs h H).objs.size=h.objs.size:=PySem.W.hideAll_size _ _
theorem Ms {h:Heap} {H:Hp} {b:Addr} {o:Obj} (e:h.get? b=some o) (n:H b=none):(Bs h H).get? b=some o:=
 PySem.W.hideAll_get _ e fun hm=>by
  have q:(H b).isSome=true:=(List.mem_filter.mp hm).2;rw [n] at q;simp at q
theorem Rb {h:Heap} {H:Hp} {b:Addr} {o:Obj} (e:(Bs h H).get? b=some o):h.get? b=some o/\H b=none:=by
 have e':h.get? b=some o:=PySem.W.of_hideAll (Q7 h H) e;refine ⟨e',?_⟩;cases q:H b with
 | none=>rfl
 | some x=>
  have hm:b∈Q7 h H:=List.mem_filter.mpr ⟨AaA.mpr (Aal e'),by simp [q]⟩;have z:(Bs h H).get? b=none:=PySem.W.hideAll_none (Q7 h H) hm;rw [z] at e;cases e
structure Mod (K:W.Frag) (mg:Str->Option Value) (base:Heap):Prop where
 kin:K.In base
 glob:base.Ns mainGlobals mg
 blt:∃ mb,base.Ns builtinsNs mb/\∀ x:Str,x≠"__name__"->mb x=bootBuiltins x
 nolimit:base.NoLimit
 sysm:∃ mm,base.Ns sysModules mm
 bmn:∃ bm ob,mg "__builtins__"=some (.ref bm)/\bm≠builtinsNs/\base.get? bm=some ob/\ob.cls= .type "module"/\ob.dict=some builtinsNs/\ob.data= .plain
structure Cx where
 prog:Program
 w:World
 K:W.Frag
 mg:Str->Option Value
 base:Heap
 A:Around
 N:List Str
 s₀:Shared
 H₀:Hp
 env:Env
 outer:List Env
 stack:List Env
 ex:List Addr
 fn:Str->Bool
 calm:Bool
 pn:List (Addr×Obj)
 xe:Value->Shared->Prop
def frs (l:List Env):List Addr:=l.filterMap (·.frame)
abbrev Cx.fs (X:Cx):List Addr:=frs X.outer
def YL (sc:Scope) (x:Str):Prop:=sc.names.lookup x=some .local\/sc.names.lookup x=some .cell\/sc.names.lookup x=some .free
def Loc (sc:Scope) (x:Str):Prop:=sc.names.lookup x=some .local\/sc.names.lookup x=some .cell
def Look (env:Env) (h:Heap) (m:Str->Option Value) (x:Str) (u:Value):Prop:=
 (env.kindOf x=some .local/\m x=some u)\/((env.kindOf x=some .cell\/env.kindOf x=some .free)/\∃ c,env.cells.lookup x=some c/\h.IsCell c (some u))
structure Cx.Ok (X:Cx):Prop where
 mod:Mod X.K X.mg X.base
 kind:X.env.scope.kind= .function
 glob:X.env.globals=mainGlobals
 blt:X.env.builtins=builtinsNs
 above:X.s₀.heap.objs.size<=X.env.locals
 inj:∀ x y c,X.env.cells.lookup x=some c->X.env.cells.lookup y=some c->x=y
 has:∀ x,(X.env.kindOf x=some .cell\/X.env.kindOf x=some .free)->∃ c,X.env.cells.lookup x=some c
 cab:∀ x c,X.fn x=true->X.env.cells.lookup x=some c->X.s₀.heap.objs.size<=c
 hd:X.calm=true->X.A.handled=none
 frames:X.A.frames=some X.stack
 stk:X.stack=X.outer\/(X.stack=X.env :: X.outer/\X.env.frame=some X.env.locals)
 exf:∀ b∈X.ex,b≠X.env.locals/\∀ x c,X.env.cells.lookup x=some c->c≠b
 bs:∀ b o,X.base.get? b=some o->X.s₀.heap.get? b=some o/\X.H₀ b=none
 bsz:X.base.objs.size<=X.s₀.heap.objs.size
 noex:∀ b o,X.base.get? b=some o->b ∉ X.ex
 exfs:∀ b∈X.ex,b ∉ X.fs
 funs:X.s₀.heap.FunFrames X.base X.outer
 frf:∀ b∈X.fs,X.H₀ b=none
structure Inv (X:Cx) (pins:List (Addr×Obj)) (U:List (Option V)) (H:Hp) (s:Shared):Prop where
 ok:X.Ok
 os:s.os=X.s₀.os
 bare:AllBare s.gens
 base:Un X.fs X.ex X.H₀ H X.s₀.heap s.heap
 loc:∃ m,s.heap.Ns X.env.locals m/\∀ (i:Nat) (x:Str) (v:V),X.N[i]?=some x->U[i]?=some (some v)->YL X.env.scope x->∃ u,RelV v u/\Look X.env s.heap m x u
 cell:∀ x c,X.env.cells.lookup x=some c->∃ v,s.heap.IsCell c v
 free:H X.env.locals=none
 freeC:∀ x c,X.env.cells.lookup x=some c->H c=none
 pin:∀ p∈X.pn ++ pins,s.heap.get? p.1=some p.2/\H p.1=none/\p.1≠X.env.locals/\p.1 ∉ X.fs/\∀ v,p.2.data≠.cell v
 hok:HOk X.prog X.w H s.heap
 len:U.length=X.N.length
section
variable {X:Cx} {pins:List (Addr×Obj)} {U:List (Option V)} {H H':Hp} {s:Shared} {h':Heap}
theorem Cx.Ok.nofr (ok:X.Ok) {b:Addr} {o:Obj} (e:X.base.get? b=some o):b ∉ X.fs:=fun hb=>by
 have:=(ok.funs.mem hb).1;rw [e] at this;cases this
theorem Inv.bs (I:Inv X pins U H s):∀ b o,X.base.get? b=some o->s.heap.get? b=some o/\H b=none:=fun b o e=>
 ⟨I.base.keep b o (I.ok.bs b o e).1 (I.ok.bs b o e).2 (I.ok.nofr e) (I.ok.noex b o e),I.base.free b o (I.ok.bs b o e).1 (I.ok.bs b o e).2 (I.ok.noex b o e)⟩
theorem Inv.bk (I:Inv X pins U H s):∀ b o,X.base.get? b=some o->s.heap.get? b=some o:=fun b o e=>(I.bs b o e).1
theorem Inv.mod (I:Inv X pins U H s):Mod X.K X.mg X.base:=I.ok.mod
theorem Inv.kIn (I:Inv X pins U H s):X.K.In s.heap:=I.ok.mod.kin.keeps I.bk
theorem Inv.lt (I:Inv X pins U H s):X.env.locals < s.heap.objs.size:=let ⟨_,hn,_⟩:=I.loc;hn.lt
theorem Inv.sz (I:Inv X pins U H s):X.s₀.heap.objs.size<=s.heap.objs.size:=Aay I.ok.above (Nat.le_of_lt I.lt)
theorem Inv.nofs (I:Inv X pins U H s) {a:Addr} (h:s.heap.objs.size<=a):a ∉ X.fs:=fun hb=>by
 obtain ⟨_,o,ho,_⟩:=I.ok.funs.mem hb;exact absurd (Aan (Aal ho) (Aay I.sz h)) (Aa7 _)
theorem Inv.cne (I:Inv X pins U H s):∀ x c,X.env.cells.lookup x=some c->c≠X.env.locals:=fun x c e z=>by
 obtain ⟨v,o,ho,hd⟩:=I.cell x c e;obtain ⟨m,⟨o',es,ep,ho',hd',_⟩,_⟩:=I.loc;rw [z,ho'] at ho;cases ho;rw [hd'] at hd;cases hd
theorem Inv.funs (I:Inv X pins U H s):s.heap.FunFrames X.base X.outer:=by
 have all:∀ (l:List Env),(∀ b∈frs l,b∈X.fs)->X.s₀.heap.FunFrames X.base l->s.heap.FunFrames X.base l:=by
  intro l
  induction l with
  | nil=>intro _ _;trivial
  | cons env r ih=>
   intro hs hl;obtain ⟨hk,⟨L,o,hf,hn,ho,hd⟩,hr⟩:=hl;have hL:L∈X.fs:=hs L (by unfold frs;rw [Aby,hf];exact AaH);obtain ⟨sl,e⟩:=I.base.slot L o ho (I.ok.frf L hL) hL fun z=>I.ok.exfs L z hL
   exact ⟨hk,⟨L,_,hf,hn,e,hd⟩,ih (fun b hb=>hs b (by unfold frs;rw [Aby,hf];exact Aap _ hb)) hr⟩
 exact all X.outer (fun _ hb=>hb) I.ok.funs
theorem Inv.stack (I:Inv X pins U H s):s.heap.FunFrames X.base X.stack:=by
 rcases I.ok.stk with e | ⟨e,hf⟩
 ·rw [e];exact I.funs
 ·rw [e]
  obtain ⟨m,hn,_⟩:=I.loc;refine .cons (by rw [I.ok.kind];decide) hf hn ?_ I.funs;exact Heap.get?_none_of_le (Aay I.ok.bsz I.ok.above)
theorem Inv.stkSub (I:Inv X pins U H s):∀ b∈frs X.stack,b∈X.env.locals :: X.fs:=fun b hb=>by
 rcases I.ok.stk with e | ⟨e,hf⟩
 ·rw [e] at hb;exact Aap _ hb
 ·rw [e] at hb
  unfold frs at hb;rw [Aby,hf] at hb;exact hb
theorem Inv.stkFree (I:Inv X pins U H s):∀ b∈frs X.stack,H b=none:=fun b hb=>by
 rcases Aaj.mp (I.stkSub b hb) with e | hb
 ·rw [e];exact I.free
 ·obtain ⟨_,o,ho,_⟩:=I.ok.funs.mem hb
  exact I.base.free b o ho (I.ok.frf b hb) fun z=>I.ok.exfs b z hb
theorem Inv.step {g':Array GenState} {t':Nat} {d':Drawn} {ch:List Addr} (I:Inv X pins U H s)
  (hch:∀ b∈ch,(b∈X.ex\/X.s₀.heap.objs.size<=b)/\b≠X.env.locals/\(∀ x c,X.env.cells.lookup x=some c->c≠b)/\∀ p∈X.pn ++ pins,p.1≠b)
  (keep:∀ b o,b≠X.env.locals->b ∉ X.fs->b ∉ ch->s.heap.get? b=some o->H b=none->h'.get? b=some o)
  (slot:∀ b o,b≠X.env.locals->b∈X.fs->b ∉ ch->s.heap.get? b=some o->H b=none->∃ sl,h'.get? b=some {o with slots:=sl}) (free:∀ b o,b ∉ ch->s.heap.get? b=some o->H b=none->H' b=none)
  (there:∀ b o,b ∉ ch->s.heap.get? b=some o->∃ o',h'.get? b=some o')
  (tups:∀ b xs,H b=some (.tup xs)->H' b=some (.tup xs)) (frzs:∀ b o u,H b=some (.frz o u)->H' b=some (.frz o u)) (tbls:∀ b ps,H b=some (.tbl ps)->∃ more,H' b=some (.tbl (ps ++ more)))
  (ns:∀ m,s.heap.Ns X.env.locals m->h'.Ns X.env.locals m) (hok:HOk X.prog X.w H' h') (hg:AllBare g'):
  Inv X pins U H' {s with heap:=h',gens:=g',drawn:=d',toks:=t'}:=by
 have neL:∀ b o,X.s₀.heap.get? b=some o->b≠X.env.locals:=fun b o e=>AaJ (Aan (Aal e) I.ok.above)
 have neC:∀ b o,X.s₀.heap.get? b=some o->b ∉ X.ex->b ∉ ch:=fun b o e hx hb=>by
  rcases (hch b hb).1 with z | z
  ·exact hx z
  ·exact absurd (Aan (Aal e) z) (Aa7 _)
 have cellK:∀ x c,X.env.cells.lookup x=some c->∀ v,s.heap.IsCell c v->h'.IsCell c v:=fun x c e v ⟨o,ho,hd⟩=>by
  have nch:c ∉ ch:=fun z=>(hch c z).2.2.1 x c e rfl
  by_cases hc:c∈X.fs
  ·obtain ⟨sl,q⟩:=slot c o (I.cne x c e) hc nch ho (I.freeC x c e)
   exact ⟨_,q,hd⟩
  ·exact ⟨o,keep c o (I.cne x c e) hc nch ho (I.freeC x c e),hd⟩
 refine ⟨I.ok,I.os,hg,⟨fun b o e n hb hx=>?_,fun b o e n hb hx=>?_,fun b o e n hx=>?_,fun b o e hx=>?_,fun b xs e=>tups b xs (I.base.tups b xs e),fun b o xs e=>frzs b o xs (I.base.frzs b o xs e),fun b ps e=>?_⟩,?_,fun x c e=>?_,?_,fun x c e=>?_,fun p hp=>?_,hok,I.len⟩
 ·exact keep b o (neL b o e) hb (neC b o e hx) (I.base.keep b o e n hb hx) (I.base.free b o e n hx)
 ·obtain ⟨sl,e1⟩:=I.base.slot b o e n hb hx
  obtain ⟨sl',e2⟩:=slot b _ (neL b o e) hb (neC b o e hx) e1 (I.base.free b o e n hx);exact ⟨sl',e2⟩
 ·obtain ⟨o',e1⟩:=I.base.there b o e hx
  exact free b o' (neC b o e hx) e1 (I.base.free b o e n hx)
 ·obtain ⟨o',e1⟩:=I.base.there b o e hx
  exact there b o' (neC b o e hx) e1
 ·obtain ⟨m1,e1⟩:=I.base.tbls b ps e
  obtain ⟨m2,e2⟩:=tbls b _ e1;exact ⟨m1 ++ m2,by rw [e2,Array.append_assoc]⟩
 ·obtain ⟨m,hn,hl⟩:=I.loc
  refine ⟨m,ns m hn,fun i x v e1 e2 e3=>?_⟩;obtain ⟨u,r,l⟩:=hl i x v e1 e2 e3;refine ⟨u,r,?_⟩;rcases l with l | ⟨k,c,e,z⟩
  ·exact .inl l
  ·exact .inr ⟨k,c,e,cellK x c e _ z⟩
 ·obtain ⟨v,z⟩:=I.cell x c e
  exact ⟨v,cellK x c e v z⟩
 ·obtain ⟨m,⟨o,_,_,ho,_⟩,_⟩:=I.loc
  exact free _ o (fun z=>(hch _ z).2.1 rfl) ho I.free
 ·obtain ⟨v,o,ho,hd⟩:=I.cell x c e
  exact free c o (fun z=>(hch c z).2.2.1 x c e rfl) ho (I.freeC x c e)
 ·obtain ⟨e,n,ne,nf,d⟩:=I.pin p hp
  have nch:p.1 ∉ ch:=fun z=>(hch p.1 z).2.2.2 p hp rfl
  exact ⟨keep p.1 p.2 ne nf nch e n,free p.1 p.2 nch e n,ne,nf,d⟩
theorem Inv.un {t':Nat} (I:Inv X pins U H s) (u:Un X.fs [] H H' s.heap h') (hok:HOk X.prog X.w H' h'):Inv X pins U H' {s with heap:=h',toks:=t'}:=by
 obtain ⟨m,⟨o,es,ep,ho,r⟩,_⟩:=id I.loc;obtain ⟨sl,hL⟩:=u.any ho I.free (by simp)
 exact I.step (g':=s.gens) (d':=s.drawn) (ch:=[]) (fun _ z=>nomatch z) (fun b o _ hb _ e n=>u.keep b o e n hb (by simp)) (fun b o _ hb _ e n=>u.slot b o e n hb (by simp)) (fun b o _ e n=>u.free b o e n (by simp)) (fun b o _ e=>u.there b o e (by simp)) u.tups u.frzs u.tbls (fun m' hm=>by
  obtain ⟨o',es',ep',ho',r'⟩:=hm;rw [ho] at ho';cases ho';exact ⟨_,es',ep',hL,r'⟩) hok I.bare
theorem Inv.call {g':Array GenState} {t':Nat} {d':Drawn} {ch:List Addr} (I:Inv X pins U H s) (u:Un (frs X.stack) ch H H' s.heap h') (hok:HOk X.prog X.w H' h') (hg:AllBare g')
  (hch:∀ b∈ch,(b∈X.ex\/X.s₀.heap.objs.size<=b)/\b≠X.env.locals/\(∀ x c,X.env.cells.lookup x=some c->c≠b)/\∀ p∈X.pn ++ pins,p.1≠b):
  Inv X pins U H' {s with heap:=h',gens:=g',drawn:=d',toks:=t'}:=by
 obtain ⟨m,⟨o,es,ep,ho,r⟩,_⟩:=id I.loc;obtain ⟨sl,hL⟩:=u.any ho I.free fun z=>(hch _ z).2.1 rfl
 exact I.step (ch:=ch) hch (fun b o hL hb hc e n=>u.keep b o e n (fun z=>(Aaj.mp (I.stkSub b z)).elim hL hb) hc) (fun b o _ _ hc e n=>u.any e n hc) (fun b o hc e n=>u.free b o e n hc) (fun b o hc e=>u.there b o e hc) u.tups u.frzs u.tbls (fun m' hm=>by
  obtain ⟨o',es',ep',ho',r'⟩:=hm;rw [ho] at ho';cases ho';exact ⟨_,es',ep',hL,r'⟩) hok hg
theorem Inv.turned {t':Nat} {it:Addr} (I:Inv X pins U H s) (k:∀ b o,b≠it->s.heap.get? b=some o->h'.get? b=some o) (hn:H it=none) (hL:it≠X.env.locals)
  (h1:it∈X.ex\/X.s₀.heap.objs.size<=it) (h2:∀ x c,X.env.cells.lookup x=some c->c≠it) (h3:∀ p∈X.pn ++ pins,p.1≠it):Inv X pins U H {s with heap:=h',toks:=t'}:=by
 have nit:∀ b u,H b=some u->b≠it:=fun b u e z=>by rw [z,hn] at e;cases e
 refine I.step (g':=s.gens) (d':=s.drawn) (ch:=[it]) (fun b hb=>?_) (fun b o _ _ hc e _=>k b o (fun z=>hc (by simp [z])) e) (fun b o _ _ hc e _=>⟨o.slots,k b o (fun z=>hc (by simp [z])) e⟩) (fun _ _ _ _ n=>n)
  (fun b o hc e=>⟨o,k b o (fun z=>hc (by simp [z])) e⟩) (fun _ _ e=>e) (fun _ _ _ e=>e) (fun b ps e=>⟨#[],by rw [e];simp⟩) (fun m hm=>?_) (fun b u e=>?_) I.bare
 ·have e:b=it:=by simpa using hb
  subst e;exact ⟨h1,hL,h2,h3⟩
 ·obtain ⟨o,es,ep,ho,r⟩:=hm
  exact ⟨o,es,ep,k _ o (Ne.symm hL) ho,r⟩
 ·refine (I.hok b u e).stay (fun c v hc q=>k c v ?_ q) (fun _ q=>q) fun _ _ q=>q
  rcases hc with z | z
  ·rw [z];exact nit b u e
  ·exact nit c _ z
theorem Inv.tok (I:Inv X pins U H s) (t:Nat):Inv X pins U H {s with toks:=t}:=I.un (h':=s.heap) (t':=t) Un.refl I.hok
theorem Inv.kept {t':Nat} (I:Inv X pins U H s) (k:∀ b u,s.heap.get? b=some u->h'.get? b=some u):Inv X pins U H {s with heap:=h',toks:=t'}:=I.un (Un.kept k) (I.hok.kept k)
theorem Inv.laid {a:Addr} {o:HO} {t':Nat} (I:Inv X pins U H s) (k:∀ b u,s.heap.get? b=some u->h'.get? b=some u) (hp:s.heap.objs.size<=a) (new:ObjOk X.prog X.w (upd H a o) h' a o):
  Inv X pins U (upd H a o) {s with heap:=h',toks:=t'}:=I.un (Un.laid k hp (I.hok.fresh hp)) (I.hok.laid k hp new)
theorem Inv.write {x e:Addr} {o:HO} {t':Nat} (I:Inv X pins U H s) (mu:YK (H x)) (he:e=x\/H e=some (.own x)) (k:∀ b u,b≠e->s.heap.get? b=some u->h'.get? b=some u) (heo:∃ u,h'.get? e=some u)
  (new:ObjOk X.prog X.w (upd H x o) h' x o):Inv X pins U (upd H x o) {s with heap:=h',toks:=t'}:=I.un (Un.write mu he k heo) (I.hok.write mu he k heo new)
theorem Inv.weak {U':List (Option V)} (I:Inv X pins U H s) (hl:U'.length=U.length) (w:∀ (i:Nat) v,U'[i]?=some (some v)->U[i]?=some (some v)):Inv X pins U' H s:=
 ⟨I.ok,I.os,I.bare,I.base,let ⟨m,hn,hl'⟩:=I.loc;⟨m,hn,fun i x v e1 e2 e3=>hl' i x v e1 (w i v e2) e3⟩,I.cell,I.free,I.freeC,I.pin,I.hok,hl.trans I.len⟩
theorem Inv.pins_of {pins':List (Addr×Obj)} (I:Inv X pins U H s) (h:∀ p∈pins',s.heap.get? p.1=some p.2/\H p.1=none/\p.1≠X.env.locals/\p.1 ∉ X.fs/\∀ v,p.2.data≠.cell v):Inv X pins' U H s:=
 ⟨I.ok,I.os,I.bare,I.base,I.loc,I.cell,I.free,I.freeC,fun p hp=>(Aaz.mp hp).elim (fun z=>I.pin p (Ab8 _ z)) (h p),I.hok,I.len⟩
theorem yh {N:List Str} (hN:N.Nodup) {i j:Nat} {x:Str} (a:N[i]?=some x) (b:N[j]?=some x):i=j:=by
 obtain ⟨h1,e1⟩:=Aab.mp a;obtain ⟨h2,e2⟩:=Aab.mp b;exact (List.getElem_inj hN).mp (e1.trans e2.symm)
theorem Ab {M:Model} {A:Around} {E:Value->Shared->Prop} {i:Nat} {x:Str} {v:V} {u:Value} {Q:Unit->Shared->Prop} (I:Inv X pins U H s) (hN:X.N.Nodup) (hi:X.N[i]?=some x) (hx:Loc X.env.scope x) (r:RelV v u)
  (h:∀ s',Inv X pins (U.set i (some v)) H s'->(∃ a,Heap.SameBut a s.heap s'.heap/\(a=X.env.locals\/X.env.cells.lookup x=some a))->Q () s') (hf:autoParam (X.fn x=true\/X.env.scope.names.lookup x=some .local) L2.auto1._auto_1):wpAny M A (storeName X.env x u) Q E s:=by
 obtain ⟨m,hn,hl⟩:=id I.loc;have hcls:(X.env.scope.kind == .class || (X.env.scope.kind == .module && X.env.locals != X.env.globals))=false:=by rw [I.ok.kind];rfl
 have hiU:i < U.length:=by rw [I.len];exact (Aab.mp hi).1
 have cne:=I.cne
 have tracked:∀ {a:Addr} {h':Heap},(∃ o,s.heap.get? a=some o/\H a=none)->Heap.SameBut a s.heap h'->HOk X.prog X.w H h':=fun {a h'} ha hs b ob e=>by
  obtain ⟨_,_,hfree⟩:=ha;refine (I.hok b ob e).stay (fun c w' hc q=>(hs.2 c ?_).trans q) (fun _ q=>q) fun _ _ q=>q
  rintro rfl;rcases hc with rfl | hc
  ·rw [hfree] at e;cases e
  ·rw [hfree] at hc;cases hc
 rcases hx with hk | hk
 ·refine wpAny_storeName_local hk hn (fun h' hn' hs=>?_) hcls
  obtain ⟨oL,_,_,hoL,_⟩:=id hn;refine h _ ⟨I.ok,I.os,I.bare,⟨fun b o e n hb hx=>?_,fun b o e n hb hx=>?_,I.base.free,fun b o e hx=>?_,I.base.tups,I.base.frzs,I.base.tbls⟩,⟨_,hn',fun j y v' e1 e2 e3=>?_⟩,fun y c e=>?_,I.free,I.freeC,fun p hp=>?_,tracked ⟨oL,hoL,I.free⟩ hs,by simpa using I.len⟩ ⟨_,hs,.inl rfl⟩
  ·exact (hs.2 b (AaJ (Aan (Aal e) I.ok.above))).trans (I.base.keep b o e n hb hx)
  ·obtain ⟨sl,e1⟩:=I.base.slot b o e n hb hx
   exact ⟨sl,(hs.2 b (AaJ (Aan (Aal e) I.ok.above))).trans e1⟩
  ·obtain ⟨o',e1⟩:=I.base.there b o e hx
   exact ⟨o',(hs.2 b (AaJ (Aan (Aal e) I.ok.above))).trans e1⟩
  ·by_cases hj:j=i
   ·subst hj
    rw [hi] at e1;cases e1;rw [AaS hiU] at e2;cases e2;exact ⟨u,r,.inl ⟨hk,by simp⟩⟩
   ·rw [AaM (Ne.symm hj)] at e2
    obtain ⟨u',r',q⟩:=hl j y v' e1 e2 e3;refine ⟨u',r',?_⟩;rcases q with ⟨k,e⟩ | ⟨k,c,e,z⟩
    ·refine .inl ⟨k,?_⟩
     have:y≠x:=fun e=>hj (yh hN e1 (e ▸ hi))
     simp [this,e]
    ·exact .inr ⟨k,c,e,z.sameBut hs (cne y c e)⟩
  ·obtain ⟨w',z⟩:=I.cell y c e
   exact ⟨w',z.sameBut hs (cne y c e)⟩
  ·obtain ⟨e,n,ne,nf,d⟩:=I.pin p hp
   exact ⟨(hs.2 p.1 ne).trans e,n,ne,nf,d⟩
 ·have hfn:X.fn x=true:=by
   rcases hf with z | z
   ·exact z
   ·rw [z] at hk;cases hk
  obtain ⟨c,hc⟩:=I.ok.has x (.inl hk);obtain ⟨w',z⟩:=I.cell x c hc;refine wpAny_storeName_cell I.ok.kind hk hc z (fun h' hc' hs=>?_);obtain ⟨oc,hoc,hocd⟩:=id z;refine h {s with heap:=h'} ⟨I.ok,I.os,I.bare,⟨fun b o e n hb hx=>?_,fun b o e n hb hx=>?_,I.base.free,fun b o e hx=>?_,I.base.tups,I.base.frzs,I.base.tbls⟩,⟨m,hn.sameBut hs (Ne.symm (cne x c hc)),fun j y v' e1 e2 e3=>?_⟩,fun y c' e=>?_,I.free,I.freeC,fun p hp=>?_,tracked ⟨oc,hoc,I.freeC x c hc⟩ hs,by simpa using I.len⟩ ⟨c,hs,.inr hc⟩
  ·exact (hs.2 b (AaJ (Aan (Aal e) (I.ok.cab x c hfn hc)))).trans (I.base.keep b o e n hb hx)
  ·obtain ⟨sl,e1⟩:=I.base.slot b o e n hb hx
   exact ⟨sl,(hs.2 b (AaJ (Aan (Aal e) (I.ok.cab x c hfn hc)))).trans e1⟩
  ·obtain ⟨o',e1⟩:=I.base.there b o e hx
   exact ⟨o',(hs.2 b (AaJ (Aan (Aal e) (I.ok.cab x c hfn hc)))).trans e1⟩
  ·by_cases hj:j=i
   ·subst hj
    rw [hi] at e1;cases e1;rw [AaS hiU] at e2;cases e2;exact ⟨u,r,.inr ⟨.inl hk,c,hc,hc'⟩⟩
   ·rw [AaM (Ne.symm hj)] at e2
    obtain ⟨u',r',q⟩:=hl j y v' e1 e2 e3;refine ⟨u',r',?_⟩;rcases q with q | ⟨k,c',e,z'⟩
    ·exact .inl q
    ·refine .inr ⟨k,c',e,z'.sameBut hs ?_⟩
     rintro rfl;exact hj (yh hN e1 (I.ok.inj _ _ _ e hc ▸ hi))
  ·by_cases hcc:c'=c
   ·subst hcc;exact ⟨_,hc'⟩
   ·obtain ⟨w2,z2⟩:=I.cell y c' e
    exact ⟨w2,z2.sameBut hs hcc⟩
  ·obtain ⟨e,n,ne,nf,d⟩:=I.pin p hp
   refine ⟨(hs.2 p.1 ?_).trans e,n,ne,nf,d⟩;intro q;rw [q,hoc] at e;have q':oc=p.2:=AaE e;exact d w' (by rw [← q'];exact hocd)
theorem qx {M:Model} {A:Around} {E:Value->Shared->Prop} {i:Nat} {x:Str} {v:V} {u:Value} {Q:Unit->Shared->Prop} (I:Inv X pins U H s) (hN:X.N.Nodup) (hi:X.N[i]?=some x) (hx:Loc X.env.scope x) (r:RelV v u)
  (h:∀ s',Inv X pins (U.set i (some v)) H s'->Q () s') (hf:autoParam (X.fn x=true\/X.env.scope.names.lookup x=some .local) L2.auto1._auto_1):wpAny M A (storeName X.env x u) Q E s:=
 Ab I hN hi hx r (fun s' I' _=>h s' I') hf
theorem Inv.call' {s':Shared} {ch:List Addr} (I:Inv X pins U H s) (ho:s'.os=s.os) (u:Un (frs X.stack) ch H H' s.heap s'.heap) (hok:HOk X.prog X.w H' s'.heap) (hg:AllBare s'.gens)
  (hch:∀ b∈ch,(b∈X.ex\/X.s₀.heap.objs.size<=b)/\b≠X.env.locals/\(∀ x c,X.env.cells.lookup x=some c->c≠b)/\∀ p∈X.pn ++ pins,p.1≠b):Inv X pins U H' s':=by
 obtain ⟨h',g',d',t',o'⟩:=s';have e:o'=s.os:=ho;subst e;exact I.call (g':=g') (t':=t') (d':=d') u hok hg hch
end
abbrev XK:=Value->Option Addr->Hp->Prop
abbrev St:=List (Option V)
abbrev VK:=V->Hp->Prop
abbrev TE:=St->Hp->VK->Prop
abbrev TT:=St->Hp->(Bool->Hp->Prop)->Prop
abbrev TA:=St->Hp->(List V->Hp->Prop)->Prop
structure Ends where
 nx:St->Hp->Prop
 rt:VK
 bk:St->Hp->Prop:=fun _ _=>False
 ct:St->Hp->Prop:=fun _ _=>False
abbrev TS:=Ends->St->Hp->Prop
def EP (X:Cx) (pins:List (Addr×Obj)) (U:St) (Q:VK) (u:Value) (s':Shared):Prop:=∃ v H',Inv X pins U H' s'/\RelV v u/\Q v H'
def TP (X:Cx) (pins:List (Addr×Obj)) (U:St) (Q:Bool->Hp->Prop) (b:Bool) (s':Shared):Prop:=∃ H',Inv X pins U H' s'/\Q b H'
def AP (X:Cx) (pins:List (Addr×Obj)) (U:St) (Q:List V->Hp->Prop) (us:List Value) (s':Shared):Prop:=∃ vs H',Inv X pins U H' s'/\Vals vs us/\Q vs H'
def SP (X:Cx) (pins:List (Addr×Obj)) (D:Ends) (f:Flow) (s':Shared):Prop:=
 match f with
 | .next=>∃ U' H',Inv X pins U' H' s'/\D.nx U' H'
 | .brk=>∃ U' H',Inv X pins U' H' s'/\D.bk U' H'
 | .cont=>∃ U' H',Inv X pins U' H' s'/\D.ct U' H'
 | .ret u=>∃ v U' H',Inv X pins U' H' s'/\RelV v u/\D.rt v H'
def PE (X:Cx) (e:Expr) (t:TE):Prop:=
 ∀ (pins:List (Addr×Obj)) (s:Shared) (U:St) (H:Hp) (Q:VK),Inv X pins U H s->t U H Q->wpAny (model X.prog X.w) X.A (eval e X.env) (EP X pins U Q) X.xe s
def PT (X:Cx) (e:Expr) (t:TT):Prop:=
 ∀ (pins:List (Addr×Obj)) (s:Shared) (U:St) (H:Hp) (Q:Bool->Hp->Prop),Inv X pins U H s->t U H Q->wpAny (model X.prog X.w) X.A (isTrue e X.env (eval e X.env)) (TP X pins U Q) X.xe s
def PW (X:Cx) (e:Expr) (t:TT):Prop:=
 ∀ (whole:Sem Value) (pins:List (Addr×Obj)) (s:Shared) (U:St) (H:Hp) (Q:Bool->Hp->Prop),Inv X pins U H s->t U H Q->wpAny (model X.prog X.w) X.A (isTrue e X.env whole) (TP X pins U Q) X.xe s
theorem PW.pt {X:Cx} {e:Expr} {t:TT} (h:PW X e t):PT X e t:=h _
def PA (X:Cx) (es:List Expr) (t:TA):Prop:=
 ∀ (pos:Pos) (pins:List (Addr×Obj)) (s:Shared) (U:St) (H:Hp) (Q:List V->Hp->Prop),Inv X pins U H s->t U H Q->wpAny (model X.prog X.w) X.A (spliced (backTo pos (starEach es X.env))) (AP X pins U Q) X.xe s
def PS (X:Cx) (st:Stmt) (t:TS):Prop:=
 ∀ (pins:List (Addr×Obj)) (s:Shared) (U:St) (H:Hp) (D:Ends),Inv X pins U H s->t D U H->wpAny (model X.prog X.w) X.A (exec st X.env) (SP X pins D) X.xe s
def PSs (X:Cx) (st:List Stmt) (t:TS):Prop:=
 ∀ (pins:List (Addr×Obj)) (s:Shared) (U:St) (H:Hp) (D:Ends),Inv X pins U H s->t D U H->wpAny (model X.prog X.w) X.A (execs st X.env) (SP X pins D) X.xe s
theorem d7 {α:Type} {t:Sem α} {Q Q':α->Shared->Prop} {M:Model} {A:Around} {E:Value->Shared->Prop} {s:Shared} (h:wpAny M A t Q E s) (hQ:∀ a s,Q a s->Q' a s):wpAny M A t Q' E s:=AaP h hQ fun _ _ x=>x
section
variable {X:Cx}
def tY (i:Nat):TE:=fun U H Q=>∃ v,U[i]?=some (some v)/\Q v H
def tC (v:V):TE:=fun _ H Q=>Q v H
theorem Bt {i:Nat} {x:Str} {pos:Pos} (hN:X.N[i]?=some x) (hv:YL X.env.scope x) (hd:autoParam ((x == ("__debug__":Str))=false) L2.auto2._auto_1) (hcd:autoParam ((x == ("__classdict__":Str))=false) L2.auto2._auto_1):PE X (.Name x pos) (tY i):=by
 intro pins s U H Q I h;obtain ⟨v,e,h⟩:=h;obtain ⟨m,hn,hl⟩:=I.loc;obtain ⟨u,r,l⟩:=hl i x v hN e hv;have fin:EP X pins U Q u s:=⟨v,H,I,r,h⟩;rcases l with ⟨hk,hm⟩ | ⟨hk,c,hc,hcell⟩
 ·exact wpAny_Name (wpAny_loadName_local I.ok.kind hk hn hm fin) hd
 ·rcases hk with hk | hk
  ·exact wpAny_Name (wpAny_loadName_cell I.ok.kind hk hc hcell fin) hd
  ·exact wpAny_Name (wpAny_loadName_free I.ok.kind hk hc hcell fin hcd) hd
theorem VB {i j pos}:PE X (.Constant (.int i) j pos) (tC (.int i)):=fun _ _ _ H _ I h=>wpAny_Constant_int ⟨.int i,H,I.tok _,⟨_,rfl⟩,h⟩
theorem YM {b j pos}:PE X (.Constant (.bool b) j pos) (tC (.bl b)):=fun _ _ _ H _ I h=>Constant_bool ⟨.bl b,H,I,rfl,h⟩
theorem VD {j pos}:PE X (.Constant .none j pos) (tC .non):=fun _ _ _ H _ I h=>Constant_none ⟨.non,H,I,rfl,h⟩
theorem VF {x j pos}:PE X (.Constant (.str x) j pos) (tC (.str x)):=fun _ _ _ H _ I h=>Calls.Constant_str ⟨.str x,H,I.tok _,⟨_,rfl⟩,h⟩
def Gl (X:Cx) (x:Str):Prop:=X.env.kindOf x=some .globalImplicit
theorem nP {E:Value->Shared->Prop} {pins:List (Addr×Obj)} {s:Shared} {U:St} {H:Hp} {x:Str} {u:Value} {pos:Pos} {Q:Value->Shared->Prop} (I:Inv X pins U H s) (hg:Gl X x) (hm:X.mg x=some u) (h:Q u s)
  (hd:autoParam ((x == ("__debug__":Str))=false) L2.auto2._auto_1):wpAny (model X.prog X.w) X.A (eval (.Name x pos) X.env) Q E s:=
 Calls.Name_function_global I.ok.kind hg (Calls.loadGlobal_global (by rw [I.ok.glob];exact I.mod.glob.keeps I.bk) hm h) hd
theorem jF {E:Value->Shared->Prop} {pins:List (Addr×Obj)} {s:Shared} {U:St} {H:Hp} {x:Str} {u:Value} {pos:Pos} {Q:Value->Shared->Prop} (I:Inv X pins U H s) (hg:Gl X x) (hm:X.mg x=none) (hv:bootBuiltins x=some u) (h:Q u s)
  (hn:autoParam (x≠"__name__") L2.auto2._auto_1) (hd:autoParam ((x == ("__debug__":Str))=false) L2.auto2._auto_1):wpAny (model X.prog X.w) X.A (eval (.Name x pos) X.env) Q E s:=by
 obtain ⟨mb,h1,h2⟩:=I.mod.blt;exact Calls.Name_function_global I.ok.kind hg (Calls.loadGlobal_builtin (by rw [I.ok.glob];exact I.mod.glob.keeps I.bk) hm (by rw [I.ok.blt];exact h1.keeps I.bk) ((h2 x hn).trans hv) h) hd
theorem Bu {x:Str} {v:V} {u:Value} {pos:Pos} (hg:Gl X x) (hm:X.mg x=some u) (r:RelV v u) (hd:autoParam ((x == ("__debug__":Str))=false) L2.auto2._auto_1):PE X (.Name x pos) (tC v):=
 fun _ _ _ H _ I h=>nP I hg hm ⟨v,H,I,r,h⟩ hd
theorem Rc {x:Str} {v:V} {u:Value} {pos:Pos} (hg:Gl X x) (hm:X.mg x=none) (hv:bootBuiltins x=some u) (r:RelV v u) (hn:autoParam (x≠"__name__") L2.auto2._auto_1) (hd:autoParam ((x == ("__debug__":Str))=false) L2.auto2._auto_1):PE X (.Name x pos) (tC v):=
 fun _ _ _ H _ I h=>jF I hg hm hv ⟨v,H,I,r,h⟩ hn hd
variable {a b:Expr} {ta tb:TE} {pos:Pos}
def tB (t:TE):TT:=fun U H Q=>t U H fun x H1=>∃ c,x= .bl c/\Q c H1
theorem VG {e:Expr} {t:TE} (h:PE X e t) (he:autoParam (∀ whole,isTrue e X.env whole=(do let v ← whole;standAt e.pos;holding [v] (truthy v))) L2.auto3._auto_1):PT X e (tB t):=by
 intro pins s U H Q I hw;refine isTrue_plain (d7 (h pins s U H _ I hw) fun v s1 qq0=>?_) (he _);obtain ⟨x,H1,I1,r1,q1⟩:=qq0;obtain ⟨d,rfl,q⟩:=q1;cases r1;exact Abd ⟨H1,I1,q⟩
variable {tA tB':TT} {rest:List Expr}
def Rf (t u:TT):TT:=fun U H Q=>t U H fun c H1=>if c=true then u U H1 Q else Q false H1
def tOr (t u:TT):TT:=fun U H Q=>t U H fun c H1=>if c=true then Q true H1 else u U H1 Q
def VH (t:TT):TT:=fun U H Q=>t U H fun c H1=>Q (!c) H1
theorem Rh (ha:PT X a tA):PW X (.BoolOp .And [a] pos) tA:=by
 intro wh pins s U H Q I h;refine isTrue_and (d7 (ha pins s U H Q I h) fun c s1 e=>?_);cases c with
 | true=>exact isTrue_and_nil e
 | false=>exact e
theorem VJ (ha:PT X a tA):PW X (.BoolOp .Or [a] pos) tA:=by
 intro wh pins s U H Q I h;refine isTrue_or (d7 (ha pins s U H Q I h) fun c s1 e=>?_);cases c with
 | false=>exact isTrue_or_nil e
 | true=>exact e
theorem VL (ha:PT X a tA) (hb:PW X (.BoolOp .And (b :: rest) pos) tB'):PW X (.BoolOp .And (a :: b :: rest) pos) (Rf tA tB'):=by
 intro wh pins s U H Q I h;refine isTrue_and (d7 (ha pins s U H _ I h) fun c s1 qq0=>?_);obtain ⟨H1,I1,q1⟩:=qq0;cases c with
 | true=>exact hb wh pins s1 U H1 Q I1 q1
 | false=>exact ⟨H1,I1,q1⟩
theorem YQ (ha:PT X a tA) (hb:PW X (.BoolOp .Or (b :: rest) pos) tB'):PW X (.BoolOp .Or (a :: b :: rest) pos) (tOr tA tB'):=by
 intro wh pins s U H Q I h;refine isTrue_or (d7 (ha pins s U H _ I h) fun c s1 qq0=>?_);obtain ⟨H1,I1,q1⟩:=qq0;cases c with
 | true=>exact ⟨H1,I1,q1⟩
 | false=>exact hb wh pins s1 U H1 Q I1 q1
theorem VM (ha:PT X a tA):PT X (.UnaryOp .Not a pos) (VH tA):=by
 intro pins s U H Q I h;exact isTrue_not (ha pins s U H (fun c H1=>Q (!c) H1) I h)
def Mt (ta tb:TE):TE:=fun U H Q=>ta U H fun x H1=>∃ c,x= .bl c/\if c=true then tb U H1 Q else Q (.bl false) H1
def VN (ta tb:TE):TE:=fun U H Q=>ta U H fun x H1=>∃ c,x= .bl c/\if c=true then Q (.bl true) H1 else tb U H1 Q
def Mu (ta:TE):TE:=fun U H Q=>ta U H fun x H1=>∃ c,x= .bl c/\Q (.bl (!c)) H1
theorem VP {op} {t:TE} (h:PE X a t):PE X (.BoolOp op [a] pos) t:=fun pins s U H Q I hw=>BoolOp_one (h pins s U H Q I hw)
theorem VR (ha:PE X a ta) (hb:PE X (.BoolOp .And (b :: rest) pos) tb):PE X (.BoolOp .And (a :: b :: rest) pos) (Mt ta tb):=by
 intro pins s U H Q I h;refine BoolOp_and (d7 (ha pins s U H _ I h) fun v s1 qq0=>?_);obtain ⟨x,H1,I1,r1,q1⟩:=qq0;obtain ⟨c,rfl,q1⟩:=q1;cases r1;refine Abd ?_;cases c with
 | true=>exact hb pins s1 U H1 Q I1 q1
 | false=>exact ⟨.bl false,H1,I1,rfl,q1⟩
theorem YS (ha:PE X a ta) (hb:PE X (.BoolOp .Or (b :: rest) pos) tb):PE X (.BoolOp .Or (a :: b :: rest) pos) (VN ta tb):=by
 intro pins s U H Q I h;refine BoolOp_or (d7 (ha pins s U H _ I h) fun v s1 qq0=>?_);obtain ⟨x,H1,I1,r1,q1⟩:=qq0;obtain ⟨c,rfl,q1⟩:=q1;cases r1;refine Abd ?_;cases c with
 | false=>exact hb pins s1 U H1 Q I1 q1
 | true=>exact ⟨.bl true,H1,I1,rfl,q1⟩
theorem VV (ha:PE X a ta):PE X (.UnaryOp .Not a pos) (Mu ta):=by
 intro pins s U H Q I h;refine UnaryOp_ (d7 (ha pins s U H _ I h) fun v s1 qq0=>?_);obtain ⟨x,H1,I1,r1,q1⟩:=qq0;obtain ⟨c,rfl,q1⟩:=q1;cases r1;exact not_of (Abd ⟨.bl (!c),H1,I1,rfl,q1⟩)
def tIf (t:TT) (ta tb:TE):TE:=fun U H Q=>t U H fun c H1=>if c=true then ta U H1 Q else tb U H1 Q
theorem Mv {c:Expr} (hc:PT X c tA) (ha:PE X a ta) (hb:PE X b tb):PE X (.IfExp c a b pos) (tIf tA ta tb):=by
 intro pins s U H Q I h;refine wpAny_IfExp (d7 (hc pins s U H _ I h) fun d s1 qq0=>?_);obtain ⟨H1,I1,q1⟩:=qq0;cases d with
 | true=>exact ha pins s1 U H1 Q I1 q1
 | false=>exact hb pins s1 U H1 Q I1 q1
end
def SqL (K:W.Frag) (H:Hp) (a:Addr) (xs:List V):Prop:=
 Rd H a (.lst xs)\/
  ∃ (o:Obj) (its:Array Value) (n:Nat),K.lookup a=some o/\o.cls= .type "list"/\o.dict=none/\o.data= .seq its n/\its.size<=sizeLine/\Vals xs its.toList
def SqT (K:W.Frag) (H:Hp) (a:Addr) (xs:List V):Prop:=
 Rd H a (.tup xs)\/
  ∃ (o:Obj) (its:Array Value) (n:Nat),K.lookup a=some o/\o.cls= .type "tuple"/\o.data= .seq its n/\its.size<=sizeLine/\Vals xs its.toList
def absV:Value->Option V
 | .none=>some .non
 | .bool b=>some (.bl b)
 | .int i _=>some (.int i)
 | .str x _=>some (.str x)
 | .bytes b _=>some (.byt b)
 | .float b _=>some (.flt b)
 | .ref a=>some (.ref a)
 | .type n=>some (.ty n)
 | _=>none
theorem RelV.abs {x:V} {u:Value} (r:RelV x u):absV u=some x:=by
 cases x with
 | non=>cases r;rfl
 | bl _=>cases r;rfl
 | int _=>obtain ⟨t,rfl⟩:=r;rfl
 | str _=>obtain ⟨t,rfl⟩:=r;rfl
 | byt _=>obtain ⟨t,rfl⟩:=r;rfl
 | flt _=>obtain ⟨t,rfl⟩:=r;rfl
 | ref _=>cases r;rfl
 | ty _=>cases r;rfl
theorem RelV.inj {x y:V} {u:Value} (r:RelV x u) (q:RelV y u):x=y:=AaE (r.abs.symm.trans q.abs)
theorem Vals.inj:∀ {xs ys:List V} {us:List Value},Vals xs us->Vals ys us->xs=ys
 | _,_,_,.nil,.nil=>rfl
 | _,_,_,.cons r t,.cons r' t'=>by rw [r.inj r',Vals.inj t t']
section
variable {X:Cx} {pins:List (Addr×Obj)} {U:St} {H:Hp} {s:Shared} {a:Addr} {xs ys:List V}
theorem SqL.of {K:W.Frag} (h:H a=some (.lst xs)):SqL K H a xs:=.inl (.inl h)
theorem SqT.of {K:W.Frag} (h:H a=some (.tup xs)):SqT K H a xs:=.inl (.inl h)
theorem Inv.list (I:Inv X pins U H s) (h:SqL X.K H a xs):∃ its:List Value,Vals xs its/\PlainL s.heap a its.toArray/\xs.length<=sizeLine:=by
 rcases h with h | ⟨o,its,n,hk,hc,hd,hs,hz,r⟩
 ·obtain ⟨z,its,n,r,e⟩:=h.ok I.hok
  exact ⟨its,r,⟨_,n,e,rfl,rfl,rfl⟩,z⟩
 ·refine ⟨its.toList,r,⟨o,n,I.kIn a o hk,hc,hd,by simpa using hs⟩,?_⟩
  have e:=r.length;simp only [AaG] at e;omega
theorem Inv.tuple (I:Inv X pins U H s) (h:SqT X.K H a xs):∃ its:List Value,Vals xs its/\IsTup s.heap a its.toArray/\xs.length<=sizeLine:=by
 rcases h with h | ⟨o,its,n,hk,hc,hs,hz,r⟩
 ·obtain ⟨z,its,r,p⟩:=h.ok I.hok
  exact ⟨its,r,p,z⟩
 ·refine ⟨its.toList,r,⟨o,I.kIn a o hk,hc,n,by simpa using hs⟩,?_⟩
  have e:=r.length;simp only [AaG] at e;omega
theorem Inv.list_inj (I:Inv X pins U H s) (h:SqL X.K H a xs) (h':SqL X.K H a ys):xs=ys:=by
 obtain ⟨its,r,⟨o,n,e,_,_,d⟩,_⟩:=I.list h;obtain ⟨its',r',⟨o',n',e',_,_,d'⟩,_⟩:=I.list h';rw [e] at e';cases e';rw [d] at d';injection d' with d1 _;have:its=its':=by simpa using congrArg Array.toList d1
 subst this;exact r.inj r'
theorem Inv.tuple_inj (I:Inv X pins U H s) (h:SqT X.K H a xs) (h':SqT X.K H a ys):xs=ys:=by
 obtain ⟨its,r,⟨o,e,_,n,d⟩,_⟩:=I.tuple h;obtain ⟨its',r',⟨o',e',_,n',d'⟩,_⟩:=I.tuple h';rw [e] at e';cases e';rw [d] at d';injection d' with d1 _;have:its=its':=by simpa using congrArg Array.toList d1
 subst this;exact r.inj r'
end
abbrev Cx.wish (X:Cx) (E:Value->Shared->Prop):Cx:={X with xe:=E}
abbrev Cx.nox (X:Cx):Cx:=X.wish fun _ _=>False
theorem Cx.Ok.wish {X:Cx} (ok:X.Ok) (E:Value->Shared->Prop):(X.wish E).Ok:=
 ⟨ok.mod,ok.kind,ok.glob,ok.blt,ok.above,ok.inj,ok.has,ok.cab,ok.hd,ok.frames,ok.stk,ok.exf,ok.bs,ok.bsz,ok.noex,ok.exfs,ok.funs,ok.frf⟩
theorem Cx.Ok.unwish {X:Cx} {E:Value->Shared->Prop} (ok:(X.wish E).Ok):X.Ok:=
 ⟨ok.mod,ok.kind,ok.glob,ok.blt,ok.above,ok.inj,ok.has,ok.cab,ok.hd,ok.frames,ok.stk,ok.exf,ok.bs,ok.bsz,ok.noex,ok.exfs,ok.funs,ok.frf⟩
section
variable {X:Cx} {pins:List (Addr×Obj)} {U:St} {H:Hp} {s:Shared} {E:Value->Shared->Prop}
theorem Inv.wish (I:Inv X pins U H s) (E:Value->Shared->Prop):Inv (X.wish E) pins U H s:=⟨I.ok.wish E,I.os,I.bare,I.base,I.loc,I.cell,I.free,I.freeC,I.pin,I.hok,I.len⟩
theorem Inv.unwish (I:Inv (X.wish E) pins U H s):Inv X pins U H s:=⟨I.ok.unwish,I.os,I.bare,I.base,I.loc,I.cell,I.free,I.freeC,I.pin,I.hok,I.len⟩
theorem SP.unwish {D:Ends} {f:Flow} {s':Shared} (h:SP (X.wish E) pins D f s'):SP X pins D f s':=by
 cases f with
 | next=>obtain ⟨U',H',I,q⟩:=h;exact ⟨U',H',I.unwish,q⟩
 | brk=>obtain ⟨U',H',I,q⟩:=h;exact ⟨U',H',I.unwish,q⟩
 | cont=>obtain ⟨U',H',I,q⟩:=h;exact ⟨U',H',I.unwish,q⟩
 | ret u=>obtain ⟨v,U',H',I,r,q⟩:=h;exact ⟨v,U',H',I.unwish,r,q⟩
theorem PSs.nox {st:List Stmt} {t:TS} (h:PSs X.nox st t):PSs X st t:=fun pins s U H D I hw=>
 AaP (h pins s U H D (I.wish _) hw) (fun _ _ q=>q.unwish) fun _ _ z=>False.elim z
end
section
variable {X:Cx} {st:Stmt} {rest:List Stmt} {t u:TS} {e:Expr} {te:TE} {pos:Pos}
def Mw:TS:=fun D U H=>D.nx U H
def Ri (t u:TS):TS:=fun D U H=>t {D with nx:=u D} U H
theorem Rj:PSs X [] Mw:=fun _ _ U H _ I h=>wpAny_execs_nil ⟨U,H,I,h⟩
theorem Mz (h1:PS X st t) (h2:PSs X rest u):PSs X (st :: rest) (Ri t u):=by
 intro pins s U H D I h;refine wpAny_execs_cons (d7 (h1 pins s U H {D with nx:=u D} I h) fun f s1 q=>?_);cases f with
 | next=>
  obtain ⟨U',H',I',q⟩:=q;exact h2 pins s1 U' H' D I' q
 | ret v=>exact q
 | brk=>exact q
 | cont=>exact q
theorem Rk (h1:PS X st t):PSs X [st] t:=by
 intro pins s U H D I h;refine wpAny_execs_cons (d7 (h1 pins s U H D I h) fun f s1 q=>?_);cases f with
 | next=>exact wpAny_execs_nil q
 | ret v=>exact q
 | brk=>exact q
 | cont=>exact q
theorem Inv.quiet {pins:List (Addr×Obj)} {U:St} {H:Hp} {s:Shared} (I:Inv X pins U H s):interactive X.env=false:=by simp [interactive,I.ok.kind]
def Ib (te:TE):TS:=fun D U H=>te U H fun _ H1=>D.nx U H1
theorem Rm (he:PE X e te) (hs:autoParam (swapsWith e none pos.line X.env=pure false) L2.auto4._auto_1):PS X (.Expr e pos) (Ib te):=by
 intro pins s U H D I h;exact wpAny_Expr_any (d7 (he pins s U H _ I h) fun v s1 ⟨x,H1,I1,r1,q1⟩=>⟨U,H1,I1,q1⟩) I.quiet hs
def V0 (te:TE):TS:=fun D U H=>te U H D.rt
theorem V3 (he:PE X e te):PS X (.Return (some e) pos) (V0 te):=by
 intro pins s U H D I h;exact wpAny_Return_some (d7 (he pins s U H _ I h) fun v s1 ⟨x,H1,I1,r1,q1⟩=>⟨x,U,H1,I1,r1,q1⟩)
def V4 (c:TT) (t u:TS):TS:=fun D U H=>c U H fun b H1=>if b=true then t D U H1 else u D U H1
theorem YT {c:Expr} {a b:List Stmt} {tc:TT} (hc:PT X c tc) (ha:PSs X a t) (hb:PSs X b u):PS X (.If c a b pos) (V4 tc t u):=by
 intro pins s U H D I h;refine wpAny_If (d7 (hc pins s U H _ I h) fun d s1 qq0=>?_);obtain ⟨H1,I1,q1⟩:=qq0;cases d with
 | true=>exact ha pins s1 U H1 D I1 q1
 | false=>exact hb pins s1 U H1 D I1 q1
def MF:TS:=fun _ _ _=>False
theorem MJ:PS X st MF:=fun _ _ _ _ _ _ h=>h.elim
end
abbrev TG:=V->St->Hp->(St->Hp->Prop)->Prop
abbrev Kf:=List V->St->Hp->(St->Hp->Prop)->Prop
def PG (X:Cx) (target:Expr) (t:TG):Prop:=
 ∀ (pins:List (Addr×Obj)) (s:Shared) (U:St) (H:Hp) (v:V) (u:Value) (Q:St->Hp->Prop),Inv X pins U H s->RelV v u->t v U H Q->
  wpAny (model X.prog X.w) X.A (assign target X.env u) (fun _ s'=>∃ U' H',Inv X pins U' H' s'/\Q U' H') X.xe s
def Yw (X:Cx) (ts:List Expr) (t:Kf):Prop:=
 ∀ (pins:List (Addr×Obj)) (s:Shared) (U:St) (H:Hp) (vs:List V) (us:List Value) (Q:St->Hp->Prop),Inv X pins U H s->Vals vs us->t vs U H Q->
  wpAny (model X.prog X.w) X.A (assignInOrder ((assignEach ts X.env).map (·.2)) us) (fun _ s'=>∃ U' H',Inv X pins U' H' s'/\Q U' H') X.xe s
abbrev Gv:=V->V->V->Hp->(Hp->Prop)->Prop
def Rn (X:Cx) (t:Gv):Prop:=
 ∀ (pins:List (Addr×Obj)) (s:Shared) (U:St) (H:Hp) (o i v:V) (ov iv u:Value) (Q:Hp->Prop),Inv X pins U H s->RelV o ov->RelV i iv->RelV v u->t o i v H Q->
  wpAny (model X.prog X.w) X.A (setItem ov iv u) (fun _ s'=>∃ H',Inv X pins U H' s'/\Q H') X.xe s
abbrev TIp:=V->V->Hp->VK->Prop
def PIp (X:Cx) (op:Operator) (t:TIp):Prop:=
 ∀ (pins:List (Addr×Obj)) (s:Shared) (U:St) (H:Hp) (x y:V) (v u:Value) (Q:VK),Inv X pins U H s->RelV x v->RelV y u->t x y H Q->
  wpAny (model X.prog X.w) X.A (inplaceOp op v u) (EP X pins U Q) X.xe s
section
variable {X:Cx} {pos:Pos}
def tG (i:Nat):TG:=fun v U H Q=>Q (U.set i (some v)) H
theorem Ie {i:Nat} {x:Str} (hN:X.N.Nodup) (hi:X.N[i]?=some x) (hx:Loc X.env.scope x) (hf:autoParam (X.fn x=true\/X.env.scope.names.lookup x=some .local) L2.auto1._auto_1):PG X (.Name x pos) (tG i):=by
 intro pins s U H v u Q I r h;exact wpAny_assign_Name (qx I hN hi hx r (fun s' I'=>⟨_,H,I',h⟩) hf)
def V5:Kf:=fun vs U H Q=>vs=[]/\Q U H
def MK (t:TG) (u:Kf):Kf:=fun vs U H Q=>∃ v r,vs=v :: r/\t v U H fun U' H'=>u r U' H' Q
theorem Ro:Yw X [] V5:=by
 intro pins s U H vs us Q I r h;obtain ⟨e,h⟩:=h;subst e;cases r;exact assignInOrder_nil ⟨U,H,I,h⟩
theorem MN {e:Expr} {es:List Expr} {t:TG} {u:Kf} (h1:PG X e t) (h2:Yw X es u)
  (hs:autoParam ((assignEach (e :: es) X.env).map (·.2)=assign e X.env :: (assignEach es X.env).map (·.2)) L2.auto4._auto_1):Yw X (e :: es) (MK t u):=by
 intro pins s U H vs us Q I r h;obtain ⟨v,vr,e1,h⟩:=h;subst e1;cases r with
 | cons r rr=>
  rw [hs];refine assignInOrder_cons (d7 (h1 pins s U H _ _ _ I r h) fun _ s1 qq0=>?_);obtain ⟨σ1,H1,I1,q1⟩:=qq0;exact h2 pins s1 σ1 H1 _ _ Q I1 rr q1
def Rp (K:W.Frag) (n:Nat) (t:Kf):TG:=fun v U H Q=>∃ a xs,v= .ref a/\SqT K H a xs/\xs.length=n/\t xs U H Q
theorem V6 {es:List Expr} {k:Nat} {t:Kf} {n:Nat} (hc:X.calm=true) (h:Yw X es t)
  (hn:autoParam ((assignEach es X.env).length=n) L2.auto4._auto_1) (hst:autoParam ((assignEach es X.env).findIdx? (·.1)=none) L2.auto4._auto_1):PG X (.Tuple es k pos) (Rp X.K n t):=by
 intro pins s U H v u Q I r hw;obtain ⟨a,xs,e1,hq,hl,hw⟩:=hw;subst e1;cases r;obtain ⟨its,rv,ht,hz⟩:=I.tuple hq;refine assign_Tuple_tuple (I.ok.hd hc) ht (by simp [hn,← hl,rv.length]) hst fun h' hx=>?_
 have I1:Inv X pins U H {s with heap:=h'}:=I.kept (t':=s.toks) fun b o e=>hx b o (AaJ (Aal e)) e
 exact h pins _ U H xs _ Q I1 (by simpa using rv) hw
def V7 (to ti:TE) (t:Gv):TG:=fun v U H Q=>to U H fun o H1=>ti U H1 fun i H2=>t o i v H2 fun H3=>Q U H3
theorem V8 {o i:Expr} {to ti:TE} {t:Gv} (ho:PE X o to) (hi:PE X i ti) (hs:Rn X t)
  (ha:∀ v,assign (.Subscript o i pos) X.env v=(do
   let ov ← holding [v] (eval o X.env)
   let iv ← holding [v,ov] (eval i X.env)
   standAt pos
   holding [v,ov,iv] (setItem ov iv v)
   release [v,ov,iv] []):=by intro _;rfl):PG X (.Subscript o i pos) (V7 to ti t):=by
 intro pins s U H v u Q I r h;rw [ha];refine gV (Aa5 (d7 (ho pins s U H _ I h) fun ov s1 qq0=>?_));obtain ⟨x,H1,I1,r1,q1⟩:=qq0;refine gV (Aa5 (d7 (hi pins s1 U H1 _ I1 q1) fun iv s2 qq0=>?_));obtain ⟨y,H2,I2,r2,q2⟩:=qq0;refine gV (Acl (gV (Aa5 (d7 (hs pins s2 U H2 x y v ov iv u _ I2 r1 r2 r q2) fun _ s3 qq0=>?_))));obtain ⟨H3,I3,q3⟩:=qq0;exact wpAny_release ⟨U,H3,I3,q3⟩
def DQ (te:TE) (g:TG):TS:=fun D U H=>te U H fun x H1=>g x U H1 D.nx
theorem Wa {tg e:Expr} {te:TE} {g:TG} (he:PE X e te) (hg:PG X tg g) (hs:autoParam (swapsWithSole [tg] e pos.line X.env=pure false) L2.auto4._auto_1) (hw:autoParam (swappedStores [tg] e X.env=pure none) L2.auto4._auto_1)
  (h1:autoParam ((assignEach [tg] X.env).map (·.2)=[assign tg X.env]) L2.auto4._auto_1):PS X (.Assign [tg] e pos) (DQ te g):=by
 intro pins s U H D I h;refine wpAny_Assign_stores (d7 (he pins s U H _ I h) fun v s1 qq0=>?_) hs hw;obtain ⟨x,H1,I1,r1,q1⟩:=qq0;rw [h1];exact d7 (hg pins s1 U H1 x v _ I1 r1 q1) fun _ s2 q=>q
theorem MP {i:Nat} {x:Str} {e:Expr} {te:TE} {pos':Pos} (hN:X.N.Nodup) (hi:X.N[i]?=some x) (hx:Loc X.env.scope x) (he:PE X e te) (hs:autoParam (swapsWith e (some (.Name x pos')) pos.line X.env=pure false) L2.auto4._auto_1) (hf:autoParam (X.fn x=true\/X.env.scope.names.lookup x=some .local) L2.auto1._auto_1):
  PS X (.Assign [.Name x pos'] e pos) (DQ te (tG i)):=by
 intro pins s U H D I h;refine wpAny_Assign_Name (d7 (he pins s U H _ I h) fun v s1 qq0=>?_) hs;obtain ⟨y,H1,I1,r1,q1⟩:=qq0;exact qx I1 hN hi hx r1 (fun s2 I2=>⟨_,H1,I2,q1⟩) hf
def Wb (i:Nat) (te:TE) (ti:TIp):TS:=fun D U H=>∃ x,U[i]?=some (some x)/\te U H fun y H1=>ti x y H1 fun z H2=>D.nx (U.set i (some z)) H2
theorem Wc {i:Nat} {x:Str} {e:Expr} {te:TE} {op:Operator} {ti:TIp} {pos':Pos} (hN:X.N.Nodup) (hi:X.N[i]?=some x) (hx:Loc X.env.scope x) (he:PE X e te) (ho:PIp X op ti) (hf:autoParam (X.fn x=true\/X.env.scope.names.lookup x=some .local) L2.auto1._auto_1):
  PS X (.AugAssign (.Name x pos') op e pos) (Wb i te ti):=by
 intro pins s U H D I h;obtain ⟨v,e1,h⟩:=h;obtain ⟨m,hn,hl⟩:=I.loc;have vis:YL X.env.scope x:=by rcases hx with k | k;exact .inl k;exact .inr (.inl k)
 obtain ⟨u,r,l⟩:=hl i x v hi e1 vis;refine wpAny_AugAssign_Name ?_
 have go:wpAny (model X.prog X.w) X.A (eval e X.env) (fun w s₂=>wpAny (model X.prog X.w) X.A (inplaceOp op u w) (fun r s₃=>wpAny (model X.prog X.w) X.A (storeName X.env x r) (fun _=>SP X pins D .next) X.xe s₃) X.xe s₂) X.xe s:=by
  refine d7 (he pins s U H _ I h) fun w s1 qq0=>?_
  obtain ⟨y,H1,I1,r1,q1⟩:=qq0;refine d7 (ho pins s1 U H1 v y u w _ I1 r r1 q1) fun z s2 qq0=>?_
  obtain ⟨zv,H2,I2,r2,q2⟩:=qq0;exact qx I2 hN hi hx r2 (fun s3 I3=>⟨_,H2,I3,q2⟩) hf
 rcases l with ⟨hk,hm⟩ | ⟨hk,c,hc,hcell⟩
 ·exact wpAny_loadName_local I.ok.kind hk hn hm go
 ·rcases hk with hk | hk
  ·exact wpAny_loadName_cell I.ok.kind hk hc hcell go
  ·rcases hx with k | k
   ·have:X.env.scope.names.lookup x=some .free:=hk
    rw [k] at this;cases this
   ·have:X.env.scope.names.lookup x=some .free:=hk
    rw [k] at this;cases this
def Gw (c:TT) (tb:TS):TS:=fun D U H=>∃ W:Nat->St->Hp->Prop,(∃ m,W m U H)/\∀ m U H,W m U H->
 c U H fun b H1=>if b=true then ∃ N:St->Hp->Prop,(∀ U' H',N U' H'->∃ m',m' < m/\W m' U' H')/\tb {D with nx:=N,ct:=N,bk:=D.nx} U H1 else D.nx U H1
theorem M6 {c:Expr} {body:List Stmt} {tc:TT} {tb:TS} (hp:PassesOwn (model X.prog X.w) X.A X.env X.xe) (hc:PT X c tc) (hb:PSs X body tb):PS X (.While c body [] pos) (Gw tc tb):=by
 intro pins s U H D I h;obtain ⟨W,⟨m0,w0⟩,turn⟩:=h;refine wpAny_While (codeAny_whileLoop (fun n s'=>∃ U' H',Inv X pins U' H' s'/\W n U' H') ?_ m0 ⟨U,H,I,w0⟩);rintro n s1 ⟨σ1,H1,I1,w1⟩;refine AbH hp (d7 (hc pins s1 σ1 H1 _ I1 (turn n σ1 H1 w1)) fun b s2 qq0=>?_);obtain ⟨H2,I2,q2⟩:=qq0;cases b with
 | true=>
  obtain ⟨N,hN,q2⟩:=q2;rw [if_pos rfl];refine AbH hp (d7 (hb pins s2 σ1 H2 _ I2 q2) fun f s3 q3=>?_);cases f with
  | next=>
   obtain ⟨σ3,H3,I3,n3⟩:=q3;obtain ⟨m',hm,w3⟩:=hN σ3 H3 n3;exact ⟨m',hm,σ3,H3,I3,w3⟩
  | cont=>
   obtain ⟨σ3,H3,I3,n3⟩:=q3;obtain ⟨m',hm,w3⟩:=hN σ3 H3 n3;exact ⟨m',hm,σ3,H3,I3,w3⟩
  | brk=>exact q3
  | ret v=>exact q3
 | false=>
  rw [if_neg Aak];exact wpAny_execs_nil ⟨σ1,H2,I2,q2⟩
end
structure It where
 go:Nat->Hp->Prop
 yld:Nat->Hp->V->Hp->Prop
 stop:Nat->Hp->Prop
def oV (X:Cx) (pins:List (Addr×Obj)) (H:Hp) (b:Addr):Prop:=
 H b=none/\b≠X.env.locals/\b ∉ X.fs/\(b∈X.ex\/X.s₀.heap.objs.size<=b)/\(∀ x c,X.env.cells.lookup x=some c->c≠b)/\∀ p∈X.pn ++ pins,p.1≠b
theorem Inv.fpOk {X:Cx} {pins:List (Addr×Obj)} {U:St} {H H':Hp} {s:Shared} {b:Addr} (I:Inv X pins U H s) (hb:s.heap.objs.size<=b) (hn:H' b=none):oV X pins H' b:=by
 refine ⟨hn,AbV (Aan I.lt hb),I.nofs hb,.inr (Aay I.sz hb),fun x c e z=>?_,fun p hp z=>?_⟩
 ·obtain ⟨v,q⟩:=I.cell x c e
  exact absurd (Aan q.lt (by rw [z];exact hb)) (Aa7 _)
 ·exact absurd (Aan (Aal (I.pin p hp).1) (by rw [z];exact hb)) (Aa7 _)
structure Turn (P:Program) (w:World) (K:W.Frag) (tg:Expr) (J:It) (fp:List Addr) (it:Addr) (tn:Nat->Heap->Prop):Prop where
 mem:it∈fp
 obj:∀ i h,tn i h->∀ b∈fp,∃ o,h.get? b=some o/\∀ v,o.data≠.cell v
 keep:∀ i h h',tn i h->(∀ b∈fp,∀ o,h.get? b=some o->h'.get? b=some o)->tn i h'
 item:∀ (X:Cx),X.prog=P->X.w=w->X.K=K->X.calm=true->∀ (i:Nat) (pins:List (Addr×Obj)) (s:Shared) (U:St) (H:Hp) (E:Value->Shared->Prop),Inv X pins U H s->(∀ b∈fp,oV X pins H b)->tn i s.heap->J.go i H->
  wpAny (model P w) X.A (pyNext (.ref it)) (fun r s1=>∃ u,r=some u/\
   wpAny (model P w) X.A (letOwnedTupleGo tg (.ref it) u) (fun _ s2=>∃ x H',Inv X pins U H' s2/\RelV x u/\J.yld i H x H'/\tn (i+1) s2.heap/\∀ b∈fp,H' b=none) E s1) E s
 done:∀ (X:Cx),X.prog=P->X.w=w->X.K=K->X.calm=true->∀ (i:Nat) (pins:List (Addr×Obj)) (s:Shared) (U:St) (H:Hp) (E:Value->Shared->Prop),Inv X pins U H s->(∀ b∈fp,oV X pins H b)->tn i s.heap->J.stop i H->
  wpAny (model P w) X.A (pyNext (.ref it)) (fun r s1=>r=none/\Inv X pins U H s1) E s
 self:∀ (A:Around) (i:Nat) (s:Shared) (Q:Value->Shared->Prop) (E:Value->Shared->Prop),tn i s.heap->Q (.ref it) s->wpAny (model P w) A (pyIter (.ref it)) Q E s
abbrev TI:=St->Hp->(It->Hp->Prop)->Prop
def PIE (X:Cx) (pins:List (Addr×Obj)) (U:St) (tg:Expr) (R:It->Hp->Prop) (itv:Value) (s2:Shared):Prop:=
 ∃ (it:Addr) (fp:List Addr) (tn:Nat->Heap->Prop) (J:It) (H':Hp),itv= .ref it/\Inv X pins U H' s2/\Turn X.prog X.w X.K tg J fp it tn/\tn 0 s2.heap/\(∀ b∈fp,oV X pins H' b)/\R J H'
def PI (X:Cx) (tg iter:Expr) (wi:TI):Prop:=
 ∀ (pins:List (Addr×Obj)) (s:Shared) (U:St) (H:Hp) (R:It->Hp->Prop),Inv X pins U H s->wi U H R->
  wpAny (model X.prog X.w) X.A (eval iter X.env) (fun v s1=>wpAny (model X.prog X.w) X.A (pyIter v) (PIE X pins U tg R) X.xe s1) X.xe s
theorem Ac {M:Model} {A:Around} {E:Value->Shared->Prop} {s:Shared} {tg:Expr} {it:Addr} {u:Value} {o:Obj} {n:String} {vs:Array Value} {Q:Unit->Shared->Prop} (ho:s.heap.get? it=some o) (hc:o.cls= .type n) (hd:o.data= .fields vs)
  (hn:["enumerate","zip","dict_itemiterator","dict_reverseitemiterator","odict_iterator","itertools.zip_longest","itertools.pairwise"].contains n=false) (hQ:Q () s):wpAny M A (letOwnedTupleGo tg (.ref it) u) Q E s:=by
 unfold letOwnedTupleGo
 cases tg <;> first
  | exact Aag hQ
  | (cases u <;> first
    | exact Aag hQ
    | (refine gV (wpAny_load ho ?_)
       rw [hc,hd];show wpAny M A (if (["enumerate","zip","dict_itemiterator","dict_reverseitemiterator","odict_iterator","itertools.zip_longest","itertools.pairwise"].contains n && vs[0]? == some (rawInt _))=true then _ else _) Q E s;rw [if_neg (by intro h;rw [hn,Bool.false_and] at h;cases h)];exact Aag hQ))
def UT (K:W.Frag) (a:Addr):It:=
 ⟨fun i H=>∃ xs x,SqL K H a xs/\xs[i]?=some x,fun i H x H'=>H'=H/\∀ xs,SqL K H a xs->xs[i]?=some x,fun i H=>∃ xs,SqL K H a xs/\xs.length<=i⟩
def Yx (K:W.Frag) (a:Addr):It:=
 ⟨fun i H=>∃ xs x,SqT K H a xs/\xs[i]?=some x,fun i H x H'=>H'=H/\∀ xs,SqT K H a xs->xs[i]?=some x,fun i H=>∃ xs,SqT K H a xs/\xs.length<=i⟩
def Mm (lo:Int) (n:Nat):It:=⟨fun i _=>i < n,fun i H x H'=>H'=H/\x= .int (lo+i),fun i _=>n<=i⟩
theorem Kg {P:Program} {w:World} {K:W.Frag} {tg:Expr} (a it:Addr):Turn P w K tg (UT K a) [it] it (fun i h=>h.IsListIter it a i) where
 mem:=by simp
 obj:=fun i h st b hb=>by
  have e:b=it:=by simpa using hb
  subst e;obtain ⟨o,e,c,d⟩:=st;exact ⟨o,e,fun v z=>by rw [d] at z;cases z⟩
 keep:=fun i h h' st k=>st.at fun o e=>k it (by simp) o e
 item:=by
  intro X hP hw hK hc i pins s U H E I hf st hg;subst hP hw hK;obtain ⟨xs,x,hq,hx⟩:=hg;obtain ⟨its,rv,p,hz⟩:=I.list hq;obtain ⟨u,hu,ru⟩:=rv.get hx;obtain ⟨f0,f1,f2,f3,f4,f5⟩:=hf it (by simp);refine wpAny_pyNext_list_item st p.isList (x:=u) (by simpa using hu) fun h' st' sb=>?_
  have I1:Inv X pins U H {s with heap:=h'}:=I.turned (t':=s.toks) (fun b o hb e=>(sb.2 b hb).trans e) f0 f1 f3 f4 f5;obtain ⟨o,e,c,d⟩:=id st';exact ⟨u,rfl,Ac (s:={s with heap:=h'}) e c d (by decide) ⟨x,H,I1,ru,⟨rfl,fun ys hy=>by rw [I.list_inj hy hq];exact hx⟩,st',fun b hb=>(hf b hb).1⟩⟩
 done:=by
  intro X hP hw hK hc i pins s U H E I hf st hg;subst hP hw hK;obtain ⟨xs,hq,hx⟩:=hg;obtain ⟨its,rv,p,hz⟩:=I.list hq;obtain ⟨f0,f1,f2,f3,f4,f5⟩:=hf it (by simp);have hl:=rv.length;exact wpAny_pyNext_list_end (I.ok.hd hc) st p.isList (by simp;omega) fun h' eb=>⟨rfl,I.turned (t':=s.toks) (fun b o hb e=>eb b o hb e) f0 f1 f3 f4 f5⟩
 self:=fun _ _ _ _ _ st h=>wpAny_pyIter_listiter st h
theorem Gx {P:Program} {w:World} {K:W.Frag} {tg:Expr} (a it:Addr):Turn P w K tg (Yx K a) [it] it (fun i h=>h.IsTupleIter it a i) where
 mem:=by simp
 obj:=fun i h st b hb=>by
  have e:b=it:=by simpa using hb
  subst e;obtain ⟨o,e,c,d⟩:=st;exact ⟨o,e,fun v z=>by rw [d] at z;cases z⟩
 keep:=fun i h h' st k=>st.at fun o e=>k it (by simp) o e
 item:=by
  intro X hP hw hK hc i pins s U H E I hf st hg;subst hP hw hK;obtain ⟨xs,x,hq,hx⟩:=hg;obtain ⟨its,rv,p,hz⟩:=I.tuple hq;obtain ⟨u,hu,ru⟩:=rv.get hx;obtain ⟨f0,f1,f2,f3,f4,f5⟩:=hf it (by simp);refine wpAny_pyNext_tuple_item st (show s.heap.IsTuple a its.toArray from p) (x:=u) (by simpa using hu) fun h' st' sb=>?_
  have I1:Inv X pins U H {s with heap:=h'}:=I.turned (t':=s.toks) (fun b o hb e=>(sb.2 b hb).trans e) f0 f1 f3 f4 f5;obtain ⟨o,e,c,d⟩:=id st';exact ⟨u,rfl,Ac (s:={s with heap:=h'}) e c d (by decide) ⟨x,H,I1,ru,⟨rfl,fun ys hy=>by rw [I.tuple_inj hy hq];exact hx⟩,st',fun b hb=>(hf b hb).1⟩⟩
 done:=by
  intro X hP hw hK hc i pins s U H E I hf st hg;subst hP hw hK;obtain ⟨xs,hq,hx⟩:=hg;obtain ⟨its,rv,p,hz⟩:=I.tuple hq;obtain ⟨f0,f1,f2,f3,f4,f5⟩:=hf it (by simp);have hl:=rv.length;exact wpAny_pyNext_tuple_end (I.ok.hd hc) st (show s.heap.IsTuple a its.toArray from p) (by simp;omega) fun h' eb=>⟨rfl,I.turned (t':=s.toks) (fun b o hb e=>eb b o hb e) f0 f1 f3 f4 f5⟩
 self:=fun _ _ _ _ _ st h=>wpAny_pyIter_tupleiter st h
theorem Gy {P:Program} {w:World} {K:W.Frag} {tg:Expr} (it:Addr) (lo:Int) (n:Nat):Turn P w K tg (Mm lo n) [it] it (fun i h=>IsRangeIter h it (lo+(i:Nat)*1) ((n:Int) - (i:Nat)) 1) where
 mem:=by simp
 obj:=fun i h st b hb=>by
  have e:b=it:=by simpa using hb
  subst e
  exact ⟨_,st,fun v z=>by
   have z':Data.fields _=Data.cell v:=z;cases z'⟩
 keep:=fun i h h' st k=>k it (by simp) _ st
 item:=by
  intro X hP hw hK hc i pins s U H E I hf st hg;subst hP hw hK;obtain ⟨f0,f1,f2,f3,f4,f5⟩:=hf it (by simp);have W:=Walks.range (prog:=X.prog) (w:=X.w) (I.ok.hd hc) it lo 1 n;refine W.item i s _ _ hg st fun v h' tk hv st' kk=>?_
  obtain ⟨t,rfl⟩:=hv;have I1:Inv X pins U H {s with heap:=h',toks:=tk}:=I.turned (fun b o hb e=>kk b o (by simpa using hb) e) f0 f1 f3 f4 f5;refine ⟨_,rfl,Ac (s:={s with heap:=h',toks:=tk}) (n:="range_iterator") st' rfl rfl (by decide) ⟨.int (lo+i),H,I1,⟨t,?_⟩,⟨rfl,rfl⟩,st',fun b hb=>(hf b hb).1⟩⟩;rw [Int.mul_one]
 done:=by
  intro X hP hw hK hc i pins s U H E I hf st hg;subst hP hw hK;obtain ⟨f0,f1,f2,f3,f4,f5⟩:=hf it (by simp);exact wpAny_pyNext_range_end (I.ok.hd hc) st (by have:n<=i:=hg;omega) fun h' eb=>⟨rfl,I.turned (t':=s.toks) (fun b o hb e=>eb b o hb e) f0 f1 f3 f4 f5⟩
 self:=fun _ _ _ _ _ st h=>wpAny_pyIter_rangeiter st h
section
variable {X:Cx} {tg:Expr}
theorem DW {pins:List (Addr×Obj)} {U:St} {H:Hp} {s:Shared} {R:It->Hp->Prop} {E:Value->Shared->Prop} {lo hi:Int} {t u v:Tok} {tk:Nat} (I:Inv X pins U H s) (h1: -(2 ^ 62)<=lo) (h2:lo < 2 ^ 62) (h3: -(2 ^ 62)<=hi) (h4:hi < 2 ^ 62)
  (q:R (Mm lo (hi - lo).toNat) H):wpAny (model X.prog X.w) X.A (pyIter (.ref s.heap.objs.size)) (PIE X pins U tg R) E {s with heap:=s.heap.push {cls:=.type "range",data:=.fields #[.int lo t,.int hi u,.int 1 v]},toks:=tk}:=by
 refine wpAny_pyIter_range (IsRange.new ..) (small_one h1 h2 h3 h4) ?_;have I1:Inv X pins U H {s with heap:=s.heap.push {cls:=.type "range",data:=.fields #[.int lo t,.int hi u,.int 1 v]},toks:=tk}:=I.kept fun b o e=>Aae _ e
 refine ⟨(s.heap.push {cls:=.type "range",data:=.fields #[.int lo t,.int hi u,.int 1 v]}).objs.size,[(s.heap.push {cls:=.type "range",data:=.fields #[.int lo t,.int hi u,.int 1 v]}).objs.size],_,_,H,rfl,
  I1.kept (t':=tk) fun b o e=>Aae _ e,Gy _ lo (hi - lo).toNat,?_,fun b hb=>?_,q⟩
 ·have e1:lo+((0:Nat):Int)*1=lo:=by simp
  have e2:(((hi - lo).toNat:Nat):Int) - ((0:Nat):Int)=Builtin.Range.rangeSize lo hi 1:=by rw [rangeSize_one];split <;> omega
  show IsRangeIter _ _ (lo+((0:Nat):Int)*1) ((((hi - lo).toNat:Nat):Int) - ((0:Nat):Int)) 1;rw [e1,e2];exact Aaq _ rfl
 ·have e:b=(s.heap.push {cls:=.type "range",data:=.fields #[.int lo t,.int hi u,.int 1 v]}).objs.size:=by simpa using hb
  subst e;exact I1.fpOk (Aad _) (I1.hok.fresh (Aad _))
def M8 (ta:TA):TI:=fun U H R=>ta U H fun vs H1=>∃ j:Int,vs=[.int j]/\-(2 ^ 62)<=j/\j < 2 ^ 62/\R (Mm 0 j.toNat) H1
def Nb (ta:TA):TI:=fun U H R=>ta U H fun vs H1=>∃ i j:Int,vs=[.int i,.int j]/\(-(2 ^ 62)<=i/\i < 2 ^ 62/\-(2 ^ 62)<=j/\j < 2 ^ 62)/\R (Mm i (j - i).toNat) H1
theorem Kh {a:Expr} {ta:TA} {p pos:Pos} (hg:Gl X "range") (hm:X.mg "range"=none) (ha:PA X [a] ta) (hs:autoParam (starEach [a] X.env=[(false,eval a X.env)]) L2.auto4._auto_1):PI X tg (.Call (.Name "range" p) [a] [] pos) (M8 ta):=by
 intro pins s U H R I h;refine Call_ (jF I hg hm boot_range (AaI (d7 (ha pos pins s U H _ I h) fun us s1 ⟨vs,H1,I1,r1,q1⟩=>?_) hs rfl));obtain ⟨j,e,q1,q2,q⟩:=q1;subst e;cases r1 with
 | cons r rr=>
  cases rr;obtain ⟨t,rfl⟩:=r;exact call_range_1 (DW I1 (by omega) (by omega) q1 q2 (by simpa using q))
theorem Kl {a b:Expr} {ta:TA} {p pos:Pos} (hg:Gl X "range") (hm:X.mg "range"=none) (ha:PA X [a,b] ta) (hs:autoParam (starEach [a,b] X.env=[(false,eval a X.env),(false,eval b X.env)]) L2.auto4._auto_1) (hs2:autoParam (starEach [b] X.env=[(false,eval b X.env)]) L2.auto4._auto_1):
  PI X tg (.Call (.Name "range" p) [a,b] [] pos) (Nb ta):=by
 intro pins s U H R I h;refine Call_ (jF I hg hm boot_range (AaI (d7 (ha pos pins s U H _ I h) fun us s1 qq0=>?_) (by rw [hs,hs2]) (by rw [hs2];rfl)));obtain ⟨vs,H1,I1,r1,q1⟩:=qq0;obtain ⟨i,j,e,⟨q1,q2,q3,q4⟩,q⟩:=q1;subst e;cases r1 with
 | cons r rr=>
  cases rr with
  | cons r' rr=>
   cases rr;obtain ⟨t,rfl⟩:=r;obtain ⟨t',rfl⟩:=r';exact call_range_2 (DW I1 q1 q2 q3 q4 q)
def Rq (wi:TI) (g:TG) (tb:TS):TS:=fun D U H=>wi U H fun J H1=>∃ W:Nat->Nat->St->Hp->Prop,(∃ m,W 0 m U H1)/\∀ i m U H,W i m U H->
 (J.stop i H/\D.nx U H)\/(J.go i H/\∃ N:St->Hp->Prop,(∀ U' H',N U' H'->∃ m',m' < m/\W (i+1) m' U' H')/\∀ x H',J.yld i H x H'->g x U H' fun σ2 H2=>tb {D with nx:=N,ct:=N,bk:=D.nx} σ2 H2)
def vR (fp:List Addr) (h:Heap):List (Addr×Obj):=fp.filterMap fun b=>(h.get? b).map fun o=>(b,o)
theorem pJ {fp:List Addr} {h:Heap} {b:Addr} {o:Obj} (hb:b∈fp) (e:h.get? b=some o):(b,o)∈vR fp h:=List.mem_filterMap.mpr ⟨b,hb,by rw [e];rfl⟩
theorem Km {fp:List Addr} {h:Heap} {p:Addr×Obj} (hp:p∈vR fp h):p.1∈fp/\h.get? p.1=some p.2:=by
 obtain ⟨b,hb,e⟩:=List.mem_filterMap.mp hp;cases q:h.get? b with
 | none=>rw [q] at e;cases e
 | some o=>
  rw [q] at e;have e':(b,o)=p:=AaE e;subst e';exact ⟨hb,q⟩
theorem Inv.pinned {pins:List (Addr×Obj)} {U:St} {H:Hp} {s:Shared} {fp:List Addr} (I:Inv X pins U H s) (hf:∀ b∈fp,oV X pins H b) (ho:∀ b∈fp,∃ o,s.heap.get? b=some o/\∀ v,o.data≠.cell v):Inv X (pins ++ vR fp s.heap) U H s:=
 I.pins_of fun p hp=>(Aaz.mp hp).elim (fun z=>I.pin p (AaV _ z)) fun z=>by
  obtain ⟨hb,e⟩:=Km z;obtain ⟨f0,f1,f2,_⟩:=hf p.1 hb;obtain ⟨o,e',d⟩:=ho p.1 hb;rw [e] at e';cases e';exact ⟨e,f0,f1,f2,d⟩
theorem Inv.unpinned {pins pl:List (Addr×Obj)} {U:St} {H:Hp} {s:Shared} (I:Inv X (pins ++ pl) U H s):Inv X pins U H s:=I.pins_of fun p hp=>I.pin p (AaV _ (Ab8 _ hp))
theorem Wd {iter:Expr} {body:List Stmt} {wi:TI} {g:TG} {tb:TS} {pos:Pos} (hp:PassesOwn (model X.prog X.w) X.A X.env X.xe) (hc:X.calm=true) (hi:PI X tg iter wi) (hg:PG X tg g) (hb:PSs X body tb)
  (hs:autoParam (∀ x,foldedSetIterable iter X.env x=pure x) L2.auto3._auto_1):PS X (.For tg iter body [] pos) (Rq wi g tb):=by
 intro pins s U H D I h;refine wpAny_For (d7 (hi pins s U H _ I h) fun v s1 h1=>d7 h1 fun itv s2 h2=>?_) hs;obtain ⟨it,fp,tn,J,H2,e,I2,T,st2,f2,W,⟨m0,w0⟩,turn⟩:=h2;subst e;have stat:∀ {H':Hp},(∀ b∈fp,H' b=none)->∀ b∈fp,oV X pins H' b:=fun hn b hb=>⟨hn b hb,(f2 b hb).2⟩
 refine codeAny_forLoop_any (fun n s'=>∃ i U' H',Inv X pins U' H' s'/\tn i s'.heap/\(∀ b∈fp,H' b=none)/\W i n U' H') ?_ m0 ⟨0,U,H2,I2,st2,fun b hb=>(f2 b hb).1,w0⟩;rintro n s3 ⟨i,σ3,H3,I3,st3,fr3,w3⟩;rcases turn i n σ3 H3 w3 with ⟨stop,qn⟩ | ⟨go,N,hN,step⟩
 ·refine AbH hp (d7 (T.done X rfl rfl rfl hc i pins s3 σ3 H3 X.xe I3 (stat fr3) st3 stop) fun r s4 qq0=>?_)
  obtain ⟨hr,I4⟩:=qq0;subst hr;exact wpAny_execs_nil ⟨σ3,H3,I4,qn⟩
 ·refine AbH hp (d7 (T.item X rfl rfl rfl hc i pins s3 σ3 H3 X.xe I3 (stat fr3) st3 go) fun r s4 qq0=>?_)
  obtain ⟨u,hr,h4⟩:=qq0;subst hr;refine AbH hp (d7 h4 fun _ s5 qq0=>?_);obtain ⟨x,H5,I5,r5,y5,st5,fr5⟩:=qq0;have I5':=I5.pinned (stat fr5) (T.obj _ _ st5);refine AbH hp (d7 (hg _ s5 σ3 H5 x u _ I5' r5 (step x H5 y5)) fun _ s6 qq0=>?_);obtain ⟨σ6,H6,I6,q6⟩:=qq0;refine AbH hp (d7 (hb _ s6 σ6 H6 _ I6 q6) fun f s7 q7=>?_)
  have again:∀ {σ7:St} {H7:Hp},Inv X (pins ++ vR fp s5.heap) σ7 H7 s7->N σ7 H7->∃ m,m < n/\∃ i U' H',Inv X pins U' H' s7/\tn i s7.heap/\(∀ b∈fp,H' b=none)/\W i m U' H':=fun {σ7 H7} I7 n7=>by
   obtain ⟨m',hm,w7⟩:=hN σ7 H7 n7;refine ⟨m',hm,i+1,σ7,H7,I7.unpinned,T.keep _ _ _ st5 fun b hb o e=>(I7.pin (b,o) (AaV _ (AaV _ (pJ hb e)))).1,fun b hb=>?_,w7⟩;obtain ⟨o,e,d⟩:=T.obj _ _ st5 b hb;exact (I7.pin (b,o) (AaV _ (AaV _ (pJ hb e)))).2.1
  cases f with
  | next=>obtain ⟨σ7,H7,I7,n7⟩:=q7;exact again I7 n7
  | cont=>obtain ⟨σ7,H7,I7,n7⟩:=q7;exact again I7 n7
  | brk=>obtain ⟨σ7,H7,I7,q7⟩:=q7;exact ⟨σ7,H7,I7.unpinned,q7⟩
  | ret v=>obtain ⟨x7,σ7,H7,I7,r7,q7⟩:=q7;exact ⟨x7,σ7,H7,I7.unpinned,r7,q7⟩
end
theorem lw {K:W.Frag} {a:Addr} {xs:List V} {g:TG} {tb:TS} {D:Ends} {U:St} {H:Hp} (Pv:Nat->St->Hp->Prop) (h0:Pv 0 U H) (hl:∀ i U H,i<=xs.length->Pv i U H->SqL K H a xs)
  (hs:∀ i x U H,xs[i]?=some x->Pv i U H->g x U H fun σ2 H2=>tb {D with nx:=Pv (i+1),ct:=Pv (i+1),bk:=D.nx} σ2 H2) (hd:∀ U H,Pv xs.length U H->D.nx U H):
  ∃ W:Nat->Nat->St->Hp->Prop,(∃ m,W 0 m U H)/\∀ i m U H,W i m U H->
   ((UT K a).stop i H/\D.nx U H)\/((UT K a).go i H/\∃ N:St->Hp->Prop,(∀ U' H',N U' H'->∃ m',m' < m/\W (i+1) m' U' H')/\∀ x H',(UT K a).yld i H x H'->g x U H' fun σ2 H2=>tb {D with nx:=N,ct:=N,bk:=D.nx} σ2 H2):=by
 refine ⟨fun i m U H=>m=xs.length - i/\i<=xs.length/\Pv i U H,⟨xs.length,by simp,Abb _,h0⟩,?_⟩;rintro i m U H ⟨rfl,hi,p⟩;have q:=hl i U H hi p;by_cases hlt:i < xs.length
 ·refine .inr ⟨⟨xs,xs[i],q,by simp [hlt]⟩,Pv (i+1),fun U' H' p'=>⟨xs.length - (i+1),by omega,rfl,hlt,p'⟩,fun x H' y=>?_⟩
  obtain ⟨e,y⟩:=y;subst e;exact hs i x U _ (y xs q) p
 ·have e:i=xs.length:=by omega
  subst e;exact .inl ⟨⟨xs,q,Aad _⟩,hd U H p⟩
theorem Bv {K:W.Frag} {a:Addr} {xs:List V} {g:TG} {tb:TS} {D:Ends} {U:St} {H:Hp} (Pv:Nat->St->Hp->Prop) (h0:Pv 0 U H) (hl:∀ i U H,i<=xs.length->Pv i U H->SqT K H a xs)
  (hs:∀ i x U H,xs[i]?=some x->Pv i U H->g x U H fun σ2 H2=>tb {D with nx:=Pv (i+1),ct:=Pv (i+1),bk:=D.nx} σ2 H2) (hd:∀ U H,Pv xs.length U H->D.nx U H):
  ∃ W:Nat->Nat->St->Hp->Prop,(∃ m,W 0 m U H)/\∀ i m U H,W i m U H->
   ((Yx K a).stop i H/\D.nx U H)\/((Yx K a).go i H/\∃ N:St->Hp->Prop,(∀ U' H',N U' H'->∃ m',m' < m/\W (i+1) m' U' H')/\∀ x H',(Yx K a).yld i H x H'->g x U H' fun σ2 H2=>tb {D with nx:=N,ct:=N,bk:=D.nx} σ2 H2):=by
 refine ⟨fun i m U H=>m=xs.length - i/\i<=xs.length/\Pv i U H,⟨xs.length,by simp,Abb _,h0⟩,?_⟩;rintro i m U H ⟨rfl,hi,p⟩;have q:=hl i U H hi p;by_cases hlt:i < xs.length
 ·refine .inr ⟨⟨xs,xs[i],q,by simp [hlt]⟩,Pv (i+1),fun U' H' p'=>⟨xs.length - (i+1),by omega,rfl,hlt,p'⟩,fun x H' y=>?_⟩
  obtain ⟨e,y⟩:=y;subst e;exact hs i x U _ (y xs q) p
 ·have e:i=xs.length:=by omega
  subst e;exact .inl ⟨⟨xs,q,Aad _⟩,hd U H p⟩
theorem oW {lo:Int} {n:Nat} {g:TG} {tb:TS} {D:Ends} {U:St} {H:Hp} (Pv:Nat->St->Hp->Prop) (h0:Pv 0 U H)
  (hs:∀ i U H,i < n->Pv i U H->g (.int (lo+i)) U H fun σ2 H2=>tb {D with nx:=Pv (i+1),ct:=Pv (i+1),bk:=D.nx} σ2 H2) (hd:∀ U H,Pv n U H->D.nx U H):
  ∃ W:Nat->Nat->St->Hp->Prop,(∃ m,W 0 m U H)/\∀ i m U H,W i m U H->
   ((Mm lo n).stop i H/\D.nx U H)\/((Mm lo n).go i H/\∃ N:St->Hp->Prop,(∀ U' H',N U' H'->∃ m',m' < m/\W (i+1) m' U' H')/\∀ x H',(Mm lo n).yld i H x H'->g x U H' fun σ2 H2=>tb {D with nx:=N,ct:=N,bk:=D.nx} σ2 H2):=by
 refine ⟨fun i m U H=>m=n - i/\i<=n/\Pv i U H,⟨n,by simp,Abb _,h0⟩,?_⟩;rintro i m U H ⟨rfl,hi,p⟩;by_cases hlt:i < n
 ·refine .inr ⟨hlt,Pv (i+1),fun U' H' p'=>⟨n - (i+1),by omega,rfl,hlt,p'⟩,fun x H' y=>?_⟩
  obtain ⟨e,y⟩:=y;subst e y;exact hs i U _ hlt p
 ·have e:i=n:=by omega
  subst e;exact .inl ⟨Aad _,hd U H p⟩
theorem DX {c:TT} {tb:TS} {D:Ends} {U:St} {H:Hp} (Pv:St->Hp->Prop) (μ:St->Hp->Nat) (h0:Pv U H)
  (hs:∀ U H,Pv U H->c U H fun b H1=>if b=true then tb {D with nx:=fun U' H'=>Pv U' H'/\μ U' H' < μ U H,ct:=fun U' H'=>Pv U' H'/\μ U' H' < μ U H,bk:=D.nx} U H1 else D.nx U H1)
  (mono:∀ U H Q Q',(∀ b H1,Q b H1->Q' b H1)->c U H Q->c U H Q'):Gw c tb D U H:=by
 refine ⟨fun m U H=>m=μ U H/\Pv U H,⟨_,rfl,h0⟩,?_⟩;rintro m U H ⟨rfl,p⟩;refine mono U H _ _ (fun b H1 q=>?_) (hs U H p);cases b with
 | true=>exact ⟨_,fun U' H' ⟨p',l⟩=>⟨_,l,rfl,p'⟩,q⟩
 | false=>exact q
abbrev R2:=V->V->Hp->VK->Prop
def OpR (X:Cx) (f:Value->Value->Sem Value) (r:R2):Prop:=
 ∀ (pins:List (Addr×Obj)) (s:Shared) (U:St) (H:Hp) (x y:V) (v u:Value) (Q:VK),Inv X pins U H s->RelV x v->RelV y u->r x y H Q->
  wpAny (model X.prog X.w) X.A (f v u) (EP X pins U Q) X.xe s
def UnR (X:Cx) (f:Value->Sem Value) (r:V->Hp->VK->Prop):Prop:=
 ∀ (pins:List (Addr×Obj)) (s:Shared) (U:St) (H:Hp) (x:V) (v:Value) (Q:VK),Inv X pins U H s->RelV x v->r x H Q->
  wpAny (model X.prog X.w) X.A (f v) (EP X pins U Q) X.xe s
def CallR (X:Cx) (f:Value) (r:List V->Hp->VK->Prop):Prop:=
 ∀ (pins:List (Addr×Obj)) (s:Shared) (U:St) (H:Hp) (xs:List V) (us:List Value) (Q:VK),Inv X pins U H s->Vals xs us->r xs H Q->
  wpAny (model X.prog X.w) X.A (call f us) (EP X pins U Q) X.xe s
def Nf (r:R2) (ta tb:TE):TE:=fun U H Q=>ta U H fun x H1=>tb U H1 fun y H2=>r x y H2 Q
def tUn (r:V->Hp->VK->Prop) (ta:TE):TE:=fun U H Q=>ta U H fun x H1=>r x H1 Q
def rI (C:Int->Int->Prop) (g:Int->Int->V):R2:=fun x y H Q=>∃ i j,x= .int i/\y= .int j/\C i j/\Q (g i j) H
def Ng (g:Int->Int->V):R2:=fun x y H Q=>∃ i j,x= .int i/\y= .int j/\Q (g i j) H
def rU (g:Int->V):V->Hp->VK->Prop:=fun x H Q=>∃ i,x= .int i/\Q (g i) H
section
variable {X:Cx} {a b c:Expr} {ta tb tc:TE} {pos:Pos}
theorem We (ha:PE X a ta) (hb:PE X b tb) {pins:List (Addr×Obj)} {s:Shared} {U:St} {H:Hp} {R:V->V->Hp->Prop} (I:Inv X pins U H s)
  (h:ta U H fun x H1=>tb U H1 fun y H2=>R x y H2) {Q:Value->Shared->Prop} {f:Value->Value->Sem Value}
  (hf:∀ v u s2 x y H2,Inv X pins U H2 s2->RelV x v->RelV y u->R x y H2->wpAny (model X.prog X.w) X.A (f v u) Q X.xe s2):
  wpAny (model X.prog X.w) X.A (eval a X.env) (fun v s₁=>wpAny (model X.prog X.w) X.A (eval b X.env) (fun u s₂=>wpAny (model X.prog X.w) X.A (f v u) Q X.xe s₂) X.xe s₁) X.xe s:=by
 refine d7 (ha pins s U H _ I h) fun v s1 qq0=>?_
 obtain ⟨x,H1,I1,r1,q1⟩:=qq0;refine d7 (hb pins s1 U H1 _ I1 q1) fun u s2 qq0=>?_
 obtain ⟨y,H2,I2,r2,q2⟩:=qq0;exact hf v u s2 x y H2 I2 r1 r2 q2
theorem YW {op:Operator} {r:R2} (ho:OpR X (binaryOp op) r) (ha:PE X a ta) (hb:PE X b tb):PE X (.BinOp a op b pos) (Nf r ta tb):=by
 intro pins s U H Q I h;exact wpAny_BinOp (We ha hb I h fun v u s2 x y H2 I2 rx ry q=>ho pins s2 U H2 x y v u Q I2 rx ry q)
theorem YX {op:UnaryOp} {r:V->Hp->VK->Prop} (ho:UnR X (unaryOp op) r) (ha:PE X a ta):PE X (.UnaryOp op a pos) (tUn r ta):=by
 intro pins s U H Q I h;exact UnaryOp_ (d7 (ha pins s U H _ I h) fun v s1 ⟨x,H1,I1,r1,q1⟩=>ho pins s1 U H1 x v Q I1 r1 q1)
theorem opI {f:Value->Value->Sem Value} {C:Int->Int->Prop} {g:Int->Int->Int}
  (rule:∀ (i j:Int) (t u:Tok) (s:Shared) (Q:Value->Shared->Prop) (E:Value->Shared->Prop),C i j->Q (.int (g i j) s.toks) {s with toks:=s.toks+1}->wpAny (model X.prog X.w) X.A (f (.int i t) (.int j u)) Q E s):
  OpR X f (rI C fun i j=>.int (g i j)):=by
 intro pins s U H x y v u Q I rx ry h;obtain ⟨i,j,rfl,rfl,hc,q⟩:=h;obtain ⟨t,rfl⟩:=rx;obtain ⟨t',rfl⟩:=ry;exact rule i j t t' s _ _ hc ⟨.int (g i j),H,I.tok _,⟨_,rfl⟩,q⟩
theorem Wf {f:Value->Value->Sem Value} {g:Int->Int->Int}
  (rule:∀ (i j:Int) (t u:Tok) (s:Shared) (Q:Value->Shared->Prop) (E:Value->Shared->Prop),Q (.int (g i j) s.toks) {s with toks:=s.toks+1}->wpAny (model X.prog X.w) X.A (f (.int i t) (.int j u)) Q E s):
  OpR X f (Ng fun i j=>.int (g i j)):=by
 intro pins s U H x y v u Q I rx ry h;obtain ⟨i,j,rfl,rfl,q⟩:=h;obtain ⟨t,rfl⟩:=rx;obtain ⟨t',rfl⟩:=ry;exact rule i j t t' s _ _ ⟨.int (g i j),H,I.tok _,⟨_,rfl⟩,q⟩
theorem Rr {f:Value->Value->Sem Value} {g:Int->Int->Bool}
  (rule:∀ (i j:Int) (t u:Tok) (s:Shared) (Q:Value->Shared->Prop) (E:Value->Shared->Prop),Q (.bool (g i j)) s->wpAny (model X.prog X.w) X.A (f (.int i t) (.int j u)) Q E s):
  OpR X f (Ng fun i j=>.bl (g i j)):=by
 intro pins s U H x y v u Q I rx ry h;obtain ⟨i,j,rfl,rfl,q⟩:=h;obtain ⟨t,rfl⟩:=rx;obtain ⟨t',rfl⟩:=ry;exact rule i j t t' s _ _ ⟨.bl (g i j),H,I,rfl,q⟩
def CDiv (i j:Int):Prop:=0 < j/\j < 1073741824
def CPow (i j:Int):Prop:=0<=j/\j<=1000000/\i.natAbs < 2 ^ 64
def CMul (i j:Int):Prop:=(-(2 ^ 64) < i/\i < 2 ^ 64)\/(-(2 ^ 64) < j/\j < 2 ^ 64)
theorem CMul.ok {i j:Int} (h:CMul i j):IntMulOk i j:=by
 rcases h with ⟨h1,h2⟩ | ⟨h1,h2⟩
 ·exact .of_left (intBits_le_64 h1 h2)
 ·exact .of_right (intBits_le_64 h1 h2)
theorem Wg:OpR X (binaryOp .Add) (Ng fun i j=>.int (i+j)):=Wf fun _ _ _ _ _ _ _ q=>add_int q
theorem iu:OpR X (binaryOp .Sub) (Ng fun i j=>.int (i - j)):=Wf fun _ _ _ _ _ _ _ q=>sub_int q
theorem Wh:OpR X (binaryOp .Mult) (rI CMul fun i j=>.int (i*j)):=opI fun _ _ _ _ _ _ _ hc q=>mul_int q hc.ok
theorem mq:OpR X (binaryOp .FloorDiv) (rI CDiv fun i j=>.int (i / j)):=opI fun i j _ _ _ _ _ hc q=>by
 have h1:(0:Int) < j:=hc.1;have h2:j < 1073741824:=hc.2;exact floordiv_int (by omega) (by rw [Int.fdiv_eq_ediv_of_nonneg i (by omega)];exact q) (.inl (PyProof.noPylong_small (by omega)))
theorem jn:OpR X (binaryOp .Mod) (rI (fun _ j=>0 < j) fun i j=>.int (i % j)):=opI fun i j _ _ _ _ _ hc q=>by
 have h1:(0:Int) < j:=hc;exact mod_int' (by omega) (by rw [Int.fmod_eq_emod_of_nonneg i (by omega)];exact q)
theorem Wi:OpR X (binaryOp .Pow) (rI CPow fun i j=>.int (i ^ j.toNat)):=opI fun _ _ _ _ _ _ _ hc q=>pow_int_small hc.1 hc.2.1 hc.2.2 q
theorem uL:OpR X (inplaceOp .Sub) (Ng fun i j=>.int (i - j)):=Wf fun _ _ _ _ _ _ _ q=>isub_int q
theorem unI {f:Value->Sem Value} {g:Int->Int}
  (rule:∀ (i:Int) (t:Tok) (s:Shared) (Q:Value->Shared->Prop) (E:Value->Shared->Prop),Q (.int (g i) s.toks) {s with toks:=s.toks+1}->wpAny (model X.prog X.w) X.A (f (.int i t)) Q E s):
  UnR X f (rU fun i=>.int (g i)):=by
 intro pins s U H x v Q I rx h;obtain ⟨i,rfl,q⟩:=h;obtain ⟨t,rfl⟩:=rx;exact rule i t s _ _ ⟨.int (g i),H,I.tok _,⟨_,rfl⟩,q⟩
theorem kj:UnR X (unaryOp .USub) (rU fun i=>.int (-i)):=unI fun _ _ _ _ _ q=>neg_int q
end
def YZ:V->V->Bool
 | .non,.non=>true | .non,.int _=>true | .int _,.non=>true | .non,.bl _=>true | .bl _,.non=>true | .non,.str _=>true | .str _,.non=>true
 | .int _,.int _=>true | .bl _,.bl _=>true | .str _,.str _=>true | .byt _,.byt _=>true
 | .int _,.str _=>true | .str _,.int _=>true | .bl _,.str _=>true | .str _,.bl _=>true
 | _,_=>false
def rEq:R2:=fun x y H Q=>YZ x y=true/\Q (.bl (decide (x=y))) H
def rNe:R2:=fun x y H Q=>YZ x y=true/\Q (.bl (!decide (x=y))) H
theorem Ig {i j:Int}:decide (V.int i=V.int j)=(i == j):=by
 rw [Bool.eq_iff_iff];simp
theorem Nh {i j:Bool}:decide (V.bl i=V.bl j)=(i == j):=by
 rw [Bool.eq_iff_iff];simp
theorem Ih {i j:Str}:decide (V.str i=V.str j)=(i == j):=by
 rw [Bool.eq_iff_iff];simp
theorem Ii {i j:Array UInt8}:decide (V.byt i=V.byt j)=(i.toList == j.toList):=by
 rw [Bool.eq_iff_iff];cases i;cases j;simp
section
variable {X:Cx} {a b c:Expr} {ta tb tc:TE} {pos:Pos}
theorem bY {pins:List (Addr×Obj)} {U:St} {H:Hp} {s:Shared} {Q:VK} {k k':Bool} (I:Inv X pins U H s) (q:Q (.bl k) H) (e:k=k'):EP X pins U Q (.bool k') s:=by
 subst e;exact ⟨.bl k,H,I,rfl,q⟩
theorem Y0:OpR X (compareOp .Eq) rEq:=by
 intro pins s U H x y v u Q I rx ry h;obtain ⟨hs,q⟩:=h;cases x with
 | non=>
  cases rx;cases y with
  | non=>cases ry;exact PySem.EqNone.eq_none_none (bY I q (by simp))
  | bl j=>cases ry;exact PySem.EqNone.eq_none_bool (bY I q (by simp))
  | int j=>obtain ⟨t',rfl⟩:=ry;exact PySem.EqNone.eq_none_int (bY I q (by simp))
  | str j=>obtain ⟨t',rfl⟩:=ry;exact PySem.EqNone.eq_none_str (bY I q (by simp))
  | _=>exact absurd (show false=true from hs) Aak
 | bl i=>
  cases rx;cases y with
  | non=>cases ry;exact PySem.EqNone.eq_bool_none (bY I q (by simp))
  | bl j=>cases ry;exact eq_bool (bY I q Nh)
  | str j=>obtain ⟨t',rfl⟩:=ry;exact PySem.EqMixed.eq_bool_str (bY I q (by simp))
  | _=>exact absurd (show false=true from hs) Aak
 | int i=>
  obtain ⟨t,rfl⟩:=rx;cases y with
  | non=>cases ry;exact PySem.EqNone.eq_int_none (bY I q (by simp))
  | int j=>obtain ⟨t',rfl⟩:=ry;exact eq_int (bY I q Ig)
  | str j=>obtain ⟨t',rfl⟩:=ry;exact PySem.EqMixed.eq_int_str (bY I q (by simp))
  | _=>exact absurd (show false=true from hs) Aak
 | str i=>
  obtain ⟨t,rfl⟩:=rx;cases y with
  | non=>cases ry;exact PySem.EqNone.eq_str_none (bY I q (by simp))
  | bl j=>cases ry;exact PySem.EqMixed.eq_str_bool (bY I q (by simp))
  | int j=>obtain ⟨t',rfl⟩:=ry;exact PySem.EqMixed.eq_str_int (bY I q (by simp))
  | str j=>obtain ⟨t',rfl⟩:=ry;exact eq_str (bY I q Ih)
  | _=>exact absurd (show false=true from hs) Aak
 | byt i=>
  obtain ⟨t,rfl⟩:=rx;cases y with
  | byt j=>obtain ⟨t',rfl⟩:=ry;exact PySem.W.eq_bytes (bY I q Ii)
  | _=>exact absurd (show false=true from hs) Aak
 | _=>cases y <;> exact absurd (show false=true from hs) Aak
theorem Y4:OpR X (compareOp .NotEq) rNe:=by
 intro pins s U H x y v u Q I rx ry h;obtain ⟨hs,q⟩:=h;cases x with
 | non=>
  cases rx;cases y with
  | non=>cases ry;exact PySem.EqNone.ne_none_none (bY I q (by simp))
  | bl j=>cases ry;exact PySem.EqNone.ne_none_bool (bY I q (by simp))
  | int j=>obtain ⟨t',rfl⟩:=ry;exact PySem.EqNone.ne_none_int (bY I q (by simp))
  | str j=>obtain ⟨t',rfl⟩:=ry;exact PySem.EqNone.ne_none_str (bY I q (by simp))
  | _=>exact absurd (show false=true from hs) Aak
 | bl i=>
  cases rx;cases y with
  | non=>cases ry;exact PySem.EqNone.ne_bool_none (bY I q (by simp))
  | bl j=>cases ry;exact ne_bool (bY I q (congrArg not Nh))
  | str j=>obtain ⟨t',rfl⟩:=ry;exact PySem.EqMixed.ne_bool_str (bY I q (by simp))
  | _=>exact absurd (show false=true from hs) Aak
 | int i=>
  obtain ⟨t,rfl⟩:=rx;cases y with
  | non=>cases ry;exact PySem.EqNone.ne_int_none (bY I q (by simp))
  | int j=>obtain ⟨t',rfl⟩:=ry;exact ne_int (bY I q (congrArg not Ig))
  | str j=>obtain ⟨t',rfl⟩:=ry;exact PySem.EqMixed.ne_int_str (bY I q (by simp))
  | _=>exact absurd (show false=true from hs) Aak
 | str i=>
  obtain ⟨t,rfl⟩:=rx;cases y with
  | non=>cases ry;exact PySem.EqNone.ne_str_none (bY I q (by simp))
  | bl j=>cases ry;exact PySem.EqMixed.ne_str_bool (bY I q (by simp))
  | int j=>obtain ⟨t',rfl⟩:=ry;exact PySem.EqMixed.ne_str_int (bY I q (by simp))
  | str j=>obtain ⟨t',rfl⟩:=ry;exact ne_str (bY I q (congrArg not Ih))
  | _=>exact absurd (show false=true from hs) Aak
 | byt i=>
  obtain ⟨t,rfl⟩:=rx;cases y with
  | byt j=>obtain ⟨t',rfl⟩:=ry;exact PySem.W.ne_bytes (bY I q (congrArg not Ii))
  | _=>exact absurd (show false=true from hs) Aak
 | _=>cases y <;> exact absurd (show false=true from hs) Aak
theorem DY:OpR X (compareOp .Lt) (Ng fun i j=>.bl (decide (i < j))):=Rr fun _ _ _ _ _ _ _ q=>lt_int q
theorem Ad:OpR X (compareOp .LtE) (Ng fun i j=>.bl (decide (i<=j))):=Rr fun _ _ _ _ _ _ _ q=>le_int q
theorem uM:OpR X (compareOp .Gt) (Ng fun i j=>.bl (decide (j < i))):=Rr fun _ _ _ _ _ _ _ q=>gt_int q
theorem Ij:OpR X (compareOp .GtE) (Ng fun i j=>.bl (decide (j<=i))):=Rr fun _ _ _ _ _ _ _ q=>ge_int q
theorem Ko:OpR X (compareOp .In) (fun x y H Q=>∃ i j,x= .str i/\y= .str j/\Q (.bl (!(Builtin.Str.occurrences j i 0 j.length 1).isEmpty)) H):=by
 intro pins s U H x y v u Q I rx ry h;obtain ⟨i,j,rfl,rfl,q⟩:=h;obtain ⟨t,rfl⟩:=rx;obtain ⟨t',rfl⟩:=ry;exact in_str (bY I q rfl)
theorem OpR.or {f:Value->Value->Sem Value} {r r':R2} (h:OpR X f r) (h':OpR X f r'):OpR X f (fun x y H Q=>r x y H Q\/r' x y H Q):=by
 intro pins s U H x y v u Q I rx ry q;rcases q with q | q
 ·exact h pins s U H x y v u Q I rx ry q
 ·exact h' pins s U H x y v u Q I rx ry q
theorem aX (b:Expr) {op:CmpOp} (h:autoParam (op≠.In) L2.auto2._auto_1) (h2:autoParam (op≠.NotIn) L2.auto2._auto_1):behindInMarks op b=false:=by
 have e1:(op == CmpOp.In)=false:=by cases op <;> first | rfl | exact absurd rfl h
 have e2:(op == CmpOp.NotIn)=false:=by cases op <;> first | rfl | exact absurd rfl h2
 cases b <;> simp [behindInMarks,e1,e2]
theorem Rt {op:CmpOp} {r:R2} (ho:OpR X (compareOp op) r) (ha:PE X a ta) (hb:PE X b tb) (hm:behindInMarks op b=false):PE X (.Compare a [op] [b] pos) (Nf r ta tb):=by
 intro pins s U H Q I h;exact wpAny_Compare1 (We ha hb I h fun v u s2 x y H2 I2 rx ry q=>ho pins s2 U H2 x y v u Q I2 rx ry q) hm
def Ae (t:TE):TT:=fun U H Q=>t U H fun x H'=>∃ k,x= .bl k/\Q k H'
theorem Ru {op:CmpOp} {r:R2} (ho:OpR X (compareOp op) r) (ha:PE X a ta) (hb:PE X b tb) (hm:behindInMarks op b=false):PT X (.Compare a [op] [b] pos) (Ae (Nf r ta tb)):=by
 intro pins s U H Q I h
 refine wpAny_isTrue_Compare1 (d7 (ha pins s U H _ I h) fun v s1 ⟨x,H1,I1,r1,q1⟩=>d7 (hb pins s1 U H1 _ I1 q1) fun u s2 ⟨y,H2,I2,r2,q2⟩=>
  d7 (ho pins s2 U H2 x y v u _ I2 r1 r2 q2) fun c s3 ⟨z,H3,I3,r3,k,e,q3⟩=>?_) hm
 subst e;cases r3;exact Abd ⟨H3,I3,q3⟩
def yj (r r':R2) (ta tb tc:TE):TE:=fun U H Q=>ta U H fun x H1=>tb U H1 fun y H2=>r x y H2 fun z H3=>∃ k,z= .bl k/\
 (if k=true then tc U H3 fun w' H4=>r' y w' H4 Q else Q (.bl false) H3)
theorem Ni {op op':CmpOp} {r r':R2} (ho:OpR X (compareOp op) r) (ho':OpR X (compareOp op') r') (ha:PE X a ta) (hb:PE X b tb) (hc:PE X c tc)
  (hm:autoParam (lastMarks [op,op'] [b,c]=false) L2.auto5._auto_1):PE X (.Compare a [op,op'] [b,c] pos) (yj r r' ta tb tc):=by
 intro pins s U H Q I h
 refine Compare_chain (d7 (ha pins s U H _ I h) fun v s1 ⟨x,H1,I1,r1,q1⟩=>chain_link (d7 (hb pins s1 U H1 _ I1 q1) fun u s2 ⟨y,H2,I2,r2,q2⟩=>
  d7 (ho pins s2 U H2 x y v u _ I2 r1 r2 q2) fun d s3 ⟨z,H3,I3,r3,k,e,q3⟩=>?_)) hm
 subst e;cases r3;refine Abd ?_;cases k with
 | false=>exact ite_ff ⟨.bl false,H3,I3,rfl,q3⟩
 | true=>exact ite_tt (chain_last (d7 (hc pins s3 U H3 _ I3 q3) fun w' s4 ⟨z',H4,I4,r4,q4⟩=>ho' pins s4 U H4 y z' u w' Q I4 r2 r4 q4))
theorem Nj {op op':CmpOp} {r r':R2} (ho:OpR X (compareOp op) r) (ho':OpR X (compareOp op') r') (ha:PE X a ta) (hb:PE X b tb) (hc:PE X c tc)
  (hm:autoParam (lastMarks [op,op'] [b,c]=false) L2.auto5._auto_1):PT X (.Compare a [op,op'] [b,c] pos) (Ae (yj r r' ta tb tc)):=by
 intro pins s U H Q I h
 refine isTrue_chain (d7 (ha pins s U H _ I h) fun v s1 ⟨x,H1,I1,r1,q1⟩=>test_link (d7 (hb pins s1 U H1 _ I1 q1) fun u s2 ⟨y,H2,I2,r2,q2⟩=>
  d7 (ho pins s2 U H2 x y v u _ I2 r1 r2 q2) fun d s3 ⟨z,H3,I3,r3,k,e,q3⟩=>?_)) hm
 subst e;cases r3;refine Abd ?_;cases k with
 | false=>
  obtain ⟨k',e',q'⟩:=q3;cases e';exact ite_ff ⟨H3,I3,q'⟩
 | true=>
  refine ite_tt (test_last (d7 (hc pins s3 U H3 _ I3 q3) fun w' s4 ⟨z',H4,I4,r4,q4⟩=>d7 (ho' pins s4 U H4 y z' u w' _ I4 r2 r4 q4) fun d' s5 qq0=>?_));obtain ⟨z2,H5,I5,r5,k2,e2,q5⟩:=qq0;subst e2;cases r5;exact Abd ⟨H5,I5,q5⟩
theorem ym:(sizeLine:Nat) < 2 ^ 63:=by rw [sizeLine_eq];decide
theorem Gz:OpR X (binaryOp .Add) (fun x y H Q=>∃ i j,x= .str i/\y= .str j/\i.length+j.length<=sizeLine/\Q (.str (i ++ j)) H):=by
 intro pins s U H x y v u Q I rx ry h;obtain ⟨i,j,rfl,rfl,hz,q⟩:=h;obtain ⟨t,rfl⟩:=rx;obtain ⟨t',rfl⟩:=ry;exact add_str (fun t' tk=>⟨.str (i ++ j),H,I.tok _,⟨_,rfl⟩,q⟩) hz
theorem vals1 {x:V} {us:List Value} (r:Vals [x] us):∃ u,us=[u]/\RelV x u:=by
 cases r with
 | cons r1 r2=>cases r2;exact ⟨_,rfl,r1⟩
theorem vals2 {x y:V} {us:List Value} (r:Vals [x,y] us):∃ u w',us=[u,w']/\RelV x u/\RelV y w':=by
 cases r with
 | cons r1 r2=>
  cases r2 with
  | cons r3 r4=>cases r4;exact ⟨_,_,rfl,r1,r3⟩
theorem sy (hc:X.calm=true):CallR X (.builtin "max") (fun xs H Q=>∃ i j,xs=[.int i,.int j]/\Q (.int (if j > i then j else i)) H):=by
 intro pins s U H xs us Q I r h;obtain ⟨i,j,rfl,q⟩:=h;obtain ⟨u,w',rfl,⟨t,rfl⟩,⟨t',rfl⟩⟩:=vals2 r;refine max_two_ints (I.ok.hd hc) fun h' tk k=>⟨_,H,I.kept k,?_,q⟩
 by_cases hj:j > i
 ·rw [if_pos hj,if_pos hj];exact ⟨_,rfl⟩
 ·rw [if_neg hj,if_neg hj];exact ⟨_,rfl⟩
def Y5 (K:W.Frag) (x:V) (H:Hp) (n:Nat):Prop:=
 match x with
 | .str y=>y.length<=sizeLine/\n=y.length
 | .byt y=>y.size<=sizeLine/\n=y.size
 | .ref p=>(∃ xs,SqL K H p xs/\n=xs.length)\/∃ xs,SqT K H p xs/\n=xs.length
 | _=>False
theorem Nk:CallR X (.builtin "len") (fun xs H Q=>∃ x n,xs=[x]/\Y5 X.K x H n/\Q (.int n) H):=by
 intro pins s U H xs us Q I r h;obtain ⟨x,n,rfl,e,q⟩:=h;obtain ⟨u,rfl,rx⟩:=vals1 r;have hl:=ym;have hs:sizeLine=16777216:=sizeLine_eq;cases x with
 | str y=>
  obtain ⟨t,rfl⟩:=rx;obtain ⟨hy,e'⟩:y.length<=sizeLine/\n=y.length:=e;subst e';exact len_str (by omega) ⟨.int _,H,I.tok _,⟨_,rfl⟩,q⟩
 | byt y=>
  obtain ⟨t,rfl⟩:=rx;obtain ⟨hy,e'⟩:y.size<=sizeLine/\n=y.size:=e;subst e';exact PySem.W.len_bytes (by omega) ⟨.int _,H,I.tok _,⟨_,rfl⟩,q⟩
 | ref p=>
  cases rx;have e':(∃ xs,SqL X.K H p xs/\n=xs.length)\/∃ xs,SqT X.K H p xs/\n=xs.length:=e;rcases e' with ⟨xs,hx,e'⟩ | ⟨xs,hx,e'⟩
  ·subst e'
   obtain ⟨its,r',pl,hz⟩:=I.list hx;have hlen:=r'.length;exact Calls.call_len_list pl.isList (by simp only [Aax];omega) ⟨.int xs.length,H,I.tok _,⟨_,by simp only [Aax];rw [hlen]⟩,q⟩
  ·subst e'
   obtain ⟨its,r',pl,hz⟩:=I.tuple hx;have hlen:=r'.length;exact len_tuple pl (by simp only [Aax];omega) ⟨.int xs.length,H,I.tok _,⟨_,by simp only [Aax];rw [hlen]⟩,q⟩
 | _=>exact (show False from e).elim
end
structure ObjM (h:Heap) (x dx C:Addr) (mA:Str->Option Value):Prop where
 obj:h.get? x=some (PySem.W.instObj C dx)
 ns:h.Ns1 dx mA
 ne:dx≠x
theorem vU {h:Heap} {dx:Addr} {mA:Str->Option Value} (n:h.Ns1 dx mA):∃ od,h.get? dx=some od/\∀ name,PySem.W.lookIn name od=some (mA name):=by
 obtain ⟨o,es,ep,ho,hd,hk,_,hm⟩:=n;refine ⟨o,ho,fun name=>?_⟩;have e:=hm name;unfold nsFind findBy at e;rw [← Array.find?_toList] at e;unfold PySem.W.lookIn;rw [hd];dsimp only
 split
 ·rename_i y q
  rw [q] at e;exact congrArg some e
 ·rename_i q
  rw [q] at e
  have a:es.toList.any (·.refKey)=false:=by
   rw [List.any_eq_false];intro y hy;obtain ⟨z,t,hkey⟩:=hk y (Array.mem_toList_iff.mp hy);simp [DictEntry.refKey,hkey]
  have a':¬ es.toList.any (·.refKey)=true:=by rw [a];exact Aak
  rw [if_neg a'];exact congrArg some e
theorem ObjM.look {h:Heap} {x dx C:Addr} {mA:Str->Option Value} (I:ObjM h x dx C mA):∃ od,PySem.W.InstAt h x (PySem.W.instObj C dx) C (some od)/\∀ name,PySem.W.lookIn name od=some (mA name):=
 let ⟨od,ho,hl⟩:=vU I.ns
 ⟨od,⟨I.obj,rfl,rfl,ho⟩,hl⟩
section
variable {prog:Program} {w:World} {A:Around} {E:Value->Shared->Prop} {s:Shared} {K:W.Frag} {x dx C f:Addr} {mA:Str->Option Value} {name:Str} {v:Value}
theorem Rv {expr:Bool} {Q:Value->Shared->Prop} (X:K.In s.heap) (I:ObjM s.heap x dx C mA) (hg:PySem.W.plainGet K C name=true) (hh:PySem.W.hasDictIn K C=true)
  (ha:PySem.W.findIn K (.ref C) name=some none) (hv:mA name=some v) (hv':PySem.W.handedIn v=true) (h:Q v {s with toks:=s.toks+1}):
  wpAny (model prog w) A (getAttr (.ref x) name expr) Q E s:=by
 obtain ⟨od,J,hl⟩:=I.look;exact PySem.W.get_value X J (PySem.W.plainGet_of hg).1 (PySem.W.findObj_own hh ha rfl (by rw [hl,hv])) hv' h
theorem Nm {pl:Sem Bool} {Q:Value×List Value->Shared->Prop} (X:K.In s.heap) (I:ObjM s.heap x dx C mA) (hg:PySem.W.plainGet K C name=true)
  (hf:PySem.W.findIn K (.ref C) name=some (some (.ref f))) (ht:PySem.W.isFn K (.ref f)=true) (hv:mA name=none) (h:Q (.ref f,[.ref x]) s):
  wpAny (model prog w) A (getMethod (.ref x) name pl) Q E s:=by
 obtain ⟨od,J,hl⟩:=I.look;exact PySem.W.method_fn X J (PySem.W.plainGet_of hg).1 (PySem.W.plainGet_of hg).2 hf (Abr.mp ht) (by show (PySem.W.lookIn name od).map (·.isSome)=some false;rw [hl,hv];rfl) h
theorem Rw {ns:List Str} {Q:Unit->Shared->Prop} (X:K.In s.heap) (I:ObjM s.heap x dx C mA)
  (hs:PySem.W.findIn K (.ref C) "__setattr__"=some (some (.builtin "object.__setattr__"))) (hp:PySem.W.plainOver K C=true) (ht:PySem.W.takerIn K C name=some none) (hh:PySem.W.hasDictIn K C=true)
  (hw:PySem.Within mA ns) (hsz:ns.length<=sizeLine)
  (h:∀ h',ObjM h' x dx C (fun y=>if y=name then some v else mA y)->Heap.SameBut dx s.heap h'->Q () {s with heap:=h',toks:=s.toks+2}):
  wpAny (model prog w) A (setAttr (.ref x) name v) Q E s:=by
 obtain ⟨od,J,hl⟩:=I.look;refine PySem.W.set_plain X J hs (PySem.W.osa_open (s:={s with toks:=s.toks+1}) (r:=none) X J hp ht fun b=>?_);obtain ⟨cd,hc,hd'⟩:=PySem.W.any_some hh;have hx:s.heap.get? x=some ⟨.ref C,some dx,.plain,#[]⟩:=I.obj;refine gV (Aag (gV (gV (Ab9 hx (gV (PySem.W.Looks.here (s:={s with toks:=s.toks+1}) (PySem.W.looks_clsIn X hc) ?_))))));rw [hd'];refine Aag (a:=some dx) (gV (Aag (gV ?_)));refine wpAny_nsSet1 (s:={s with toks:=s.toks+1}) I.ns fun h' hn2 hs2=>?_
 obtain ⟨oD,esD,epD,hoD,hdD,hcD⟩:=hn2.count (PySem.Within.cons name v hw);refine gV (wpAny_lookBehind hoD (by rw [hdD];exact pastItsLine_dict (Aay hcD (by rw [Aba];omega))) ?_);exact Aag (h _ ⟨(hs2.2 _ (Ne.symm I.ne)).trans I.obj,hn2,I.ne⟩ hs2)
theorem Np {R:Result->Shared->Prop} {vs:List Value} {kw:List (Str×Value)} (X:K.In s.heap) (hm:PySem.W.makesIn K C=true)
  (hi:PySem.W.findIn K (.ref C) "__init__"=some (some (.ref f))) (hf:PySem.W.typeIn K (.ref f)=some (.type "function"))
  (h:codeAny (model prog w) (A.under (.builtin "type.__call__" ⟨.ref C :: vs,kw⟩)) (.call (.ref f) ⟨.ref (s.heap.objs.size+1) :: vs,kw⟩) (PySem.W.InitBack (s.heap.objs.size+1) R)
   {s with heap:=(s.heap.push PySem.W.emptyDict).push (PySem.W.instObj C s.heap.objs.size)}):
  codeAny (model prog w) A (.call (.ref C) ⟨vs,kw⟩) R s:=by
 obtain ⟨hh,g,d,t,os⟩:=s;exact PySem.W.make_core (PySem.W.makes_of X hm) (Abh X hi) (fun self=>PySem.W.bind_fn X self hf) (.inl rfl) h
end
def mL (f:Str) (v:V):List (Str×V)->List (Str×V)
 | []=>[(f,v)]
 | (g,x) :: r=>if g=f then (g,v) :: r else (g,x) :: mL f v r
theorem qy (f g:Str) (v:V):∀ fs:List (Str×V),(mL f v fs).lookup g=if g=f then some v else fs.lookup g
 | []=>by
  show List.lookup g [(f,v)]=_;by_cases h:g=f
  ·have hb:(g == f)=true:=Abr.mpr h
   simp only [List.lookup,hb,if_pos h]
  ·have hb:(g == f)=false:=Abx.mpr h
   simp only [List.lookup,hb,if_neg h]
 | (k,x) :: r=>by
  have ih:=qy f g v r;rw [show mL f v ((k,x) :: r)=(if k=f then (k,v) :: r else (k,x) :: mL f v r) from rfl];by_cases hk:k=f
  ·rw [if_pos hk]
   by_cases h:g=k
   ·have hb:(g == k)=true:=Abr.mpr h
    simp only [List.lookup,hb,if_pos (h.trans hk)]
   ·have hb:(g == k)=false:=Abx.mpr h
    simp only [List.lookup,hb,if_neg (fun e:g=f=>h (e.trans hk.symm))]
  ·rw [if_neg hk]
   by_cases h:g=k
   ·have hb:(g == k)=true:=Abr.mpr h
    simp only [List.lookup,hb,if_neg (fun e:g=f=>hk (h.symm.trans e))]
   ·have hb:(g == k)=false:=Abx.mpr h
    simp only [List.lookup,hb];exact ih
theorem vV (f:Str) (v:V):∀ fs:List (Str×V),f∈(mL f v fs).map (·.1)/\∀ g,g∈fs.map (·.1)->g∈(mL f v fs).map (·.1)
 | []=>⟨by simp [mL],fun g h=>by simp at h⟩
 | (k,x) :: r=>by
  obtain ⟨i1,i2⟩:=vV f v r;rw [show mL f v ((k,x) :: r)=(if k=f then (k,v) :: r else (k,x) :: mL f v r) from rfl];by_cases hk:k=f
  ·rw [if_pos hk]
   subst hk;exact ⟨by simp,fun g h=>by simpa using h⟩
  ·rw [if_neg hk]
   refine ⟨?_,fun g h=>?_⟩
   ·rw [AaW]
    exact Aap _ i1
   ·rw [AaW] at h ⊢
    rcases Aaj.mp h with e | e
    ·exact Aaj.mpr (.inl e)
    ·exact Aap _ (i2 g e)
theorem wK (f:Str) (v:V):∀ fs:List (Str×V),(mL f v fs).length<=fs.length+1
 | []=>by simp [mL]
 | (k,x) :: r=>by
  have ih:=wK f v r;rw [show mL f v ((k,x) :: r)=(if k=f then (k,v) :: r else (k,x) :: mL f v r) from rfl];by_cases hk:k=f
  ·rw [if_pos hk,Aba,Aba];omega
  ·rw [if_neg hk,Aba,Aba];omega
theorem RelO.some_of {v:V} {o:Option Value} (r:RelO (some v) o):∃ u,o=some u/\RelV v u:=by
 cases o with
 | none=>exact (show False from r).elim
 | some u=>exact ⟨u,rfl,r⟩
theorem RelO.none_of {o:Option Value} (r:RelO none o):o=none:=by
 cases o with
 | none=>rfl
 | some u=>exact (show False from r).elim
theorem Af {v:V} {u:Value} (r:RelV v u):PySem.W.handedIn u=true:=by
 cases v with
 | non=>cases (show u=Value.none from r);rfl
 | bl b=>cases (show u=Value.bool b from r);rfl
 | int i=>obtain ⟨t,e⟩:=(show ∃ t,u=Value.int i t from r);cases e;rfl
 | str x=>obtain ⟨t,e⟩:=(show ∃ t,u=Value.str x t from r);cases e;rfl
 | byt b=>obtain ⟨t,e⟩:=(show ∃ t,u=Value.bytes b t from r);cases e;rfl
 | flt b=>obtain ⟨t,e⟩:=(show ∃ t,u=Value.float b t from r);cases e;rfl
 | ref a=>cases (show u=Value.ref a from r);rfl
 | ty n=>cases (show u=Value.type n from r);rfl
section
variable {P:Program} {w:World} {H H':Hp} {h h':Heap} {a C dx:Addr} {fs fs':List (Str×V)}
theorem uN (hok:HOk P w H h) (e:H a=some (.ins C dx fs)):∃ mA,ObjM h a dx C mA/\(∀ f,RelO (fs.lookup f) (mA f))/\PySem.Within mA (fs.map (·.1))/\fs.length<=1000/\H dx=some (.own a):=by
 obtain ⟨d,z,ne,ob,mA,n,r,q⟩:=(show ObjOk P w H h a (.ins C dx fs) from hok a _ e);exact ⟨mA,⟨ob,n,ne⟩,r,q,z,d⟩
end
structure Cls (K:W.Frag) (C:Addr):Prop where
 pg:PySem.W.plainGet K C Str.empty=true
 hd:PySem.W.hasDictIn K C=true
 po:PySem.W.plainOver K C=true
 sa:PySem.W.findIn K (.ref C) "__setattr__"=some (some (.builtin "object.__setattr__"))
theorem Cls.get {K:W.Frag} {C:Addr} (c:Cls K C) (f:Str):PySem.W.plainGet K C f=true:=c.pg
def NoAttr (K:W.Frag) (C:Addr) (f:Str):Prop:=PySem.W.findIn K (.ref C) f=some none
theorem NoAttr.taker {K:W.Frag} {C:Addr} {f:Str} (n:NoAttr K C f):PySem.W.takerIn K C f=some none:=by
 unfold PySem.W.takerIn;rw [show PySem.W.findIn K (.ref C) f=some none from n];rfl
structure Meth (K:W.Frag) (C:Addr) (m:Str) (f:Addr):Prop where
 at_:PySem.W.findIn K (.ref C) m=some (some (.ref f))
 fn:PySem.W.isFn K (.ref f)=true
 kp:PySem.W.keepIn K (.ref f)=true
section
variable {X:Cx} {pins:List (Addr×Obj)} {U:St} {H:Hp} {s:Shared} {a C dx:Addr} {fs:List (Str×V)} {f:Str} {v:V} {A:Around} {E:Value->Shared->Prop}
theorem GC {b:Bool} {Q:Value->Shared->Prop} (I:Inv X pins U H s) (e:H a=some (.ins C dx fs)) (c:Cls X.K C) (n:NoAttr X.K C f) (l:fs.lookup f=some v)
  (h:∀ u s',Inv X pins U H s'->RelV v u->Q u s'):wpAny (model X.prog X.w) A (getAttr (.ref a) f b) Q E s:=by
 obtain ⟨mA,O,r,_,_,_⟩:=uN I.hok e;obtain ⟨u,hu,ru⟩:=RelO.some_of (v:=v) (o:=mA f) (by rw [← l];exact r f);exact Rv I.kIn O (c.get f) c.hd n hu (Af ru) (h u _ (I.tok _) ru)
theorem tZ {m:Str} {g:Addr} {pl:Sem Bool} {Q:Value×List Value->Shared->Prop} (I:Inv X pins U H s) (e:H a=some (.ins C dx fs)) (c:Cls X.K C) (k:Meth X.K C m g) (l:fs.lookup m=none)
  (h:Q (.ref g,[.ref a]) s):wpAny (model X.prog X.w) A (getMethod (.ref a) m pl) Q E s:=by
 obtain ⟨mA,O,r,_,_,_⟩:=uN I.hok e;have hn:mA m=none:=RelO.none_of (by rw [← l];exact r m);exact Nm I.kIn O (c.get m) k.at_ k.fn hn h
theorem GD {y:V} {u:Value} {Q:Unit->Shared->Prop} (I:Inv X pins U H s) (e:H a=some (.ins C dx fs)) (c:Cls X.K C) (n:NoAttr X.K C f) (hl:fs.length < 1000) (ry:RelV y u)
  (h:∀ s',Inv X pins U (upd H a (.ins C dx (mL f y fs))) s'->Q () s'):wpAny (model X.prog X.w) A (setAttr (.ref a) f u) Q E s:=by
 obtain ⟨mA,O,r,wi,_,ho⟩:=uN I.hok e;have hz:(fs.map (·.1)).length<=sizeLine:=by rw [Aaf,sizeLine_eq];omega
 refine Rw I.kIn O c.sa c.po n.taker c.hd wi hz fun h' O' sb=>h _ ?_
 have hd:∃ o,h'.get? dx=some o:=let ⟨o,_,_,e',_⟩:=O'.ns;⟨o,e'⟩
 refine I.write (x:=a) (e:=dx) (by rw [e];exact True.intro) (.inr ho) (fun b q hb z=>(sb.2 b hb).trans z) hd ?_;refine ⟨by rw [aD O.ne];exact ho,?_,O.ne,O'.obj,_,O'.ns,fun g=>?_,fun g hg=>?_⟩
 ·have:=wK f y fs;omega
 ·show RelO ((mL f y fs).lookup g) (if g=f then some u else mA g)
  rw [qy];by_cases q:g=f
  ·rw [if_pos q,if_pos q];exact ry
  ·rw [if_neg q,if_neg q];exact r g
 ·by_cases q:g=f
  ·rw [q];exact (vV f y fs).1
  ·refine (vV f y fs).2 g (wi g fun z=>hg ?_)
   show (if g=f then some u else mA g)=none;rw [if_neg q];exact z
theorem Inv.made (I:Inv X pins U H s):Inv X pins U (upd (upd H s.heap.objs.size (.own (s.heap.objs.size+1))) (s.heap.objs.size+1) (.ins C s.heap.objs.size []))
  {s with heap:=(s.heap.push PySem.W.emptyDict).push (PySem.W.instObj C s.heap.objs.size)}:=by
 have e1:(s.heap.push PySem.W.emptyDict).get? s.heap.objs.size=some PySem.W.emptyDict:=Aaq s.heap rfl
 have e2:((s.heap.push PySem.W.emptyDict).push (PySem.W.instObj C s.heap.objs.size)).get? (s.heap.objs.size+1)=some (PySem.W.instObj C s.heap.objs.size):=by
  have:=Aaq (s.heap.push PySem.W.emptyDict) (o:=PySem.W.instObj C s.heap.objs.size) rfl;rwa [Abk] at this
 have e3:(s.heap.push PySem.W.emptyDict).Ns s.heap.objs.size (fun _=>none):=⟨PySem.W.emptyDict,#[],_,e1,rfl,(fun e he=>absurd he (by simp)),fun _=>rfl⟩;have I1:=I.laid (a:=s.heap.objs.size) (o:=.own (s.heap.objs.size+1)) (h':=s.heap.push PySem.W.emptyDict) (t':=s.toks) (fun b u q=>Aae _ q) (Aad _) ⟨_,e1⟩;refine I1.laid (a:=s.heap.objs.size+1) (o:=.ins C s.heap.objs.size []) (t':=s.toks) (fun b u q=>Aae _ q) (Nat.le_of_eq (Abk _ _)) ?_;have ne:s.heap.objs.size≠s.heap.objs.size+1:=AaJ (AbR _);refine ⟨by rw [aD ne,aj],Abb _,ne,e2,fun _=>none,(Heap.Ns1.of_empty e3).at fun o q=>Aae _ q,fun _=>True.intro,fun y hy=>absurd rfl hy⟩
theorem Ik {prog:Program} {w:World} {env:Env} {e:Expr} {f:Str} {pos:Pos} {s:Shared} {Q:Value->Shared->Prop} (hb:attributeBase e f env (eval e env)=eval e env)
  (h:wpAny (model prog w) A (eval e env) (fun o s₁=>wpAny (model prog w) A (getAttr o f true) Q E s₁) E s):wpAny (model prog w) A (eval (.Attribute e f pos) env) Q E s:=
 Attribute_any_ h (by rw [arm_eval_Attribute,hb])
end
def Wj (K:W.Frag) (ta:TE) (f:Str):TE:=fun U H Q=>ta U H fun x H1=>∃ a C dx fs v,x= .ref a/\H1 a=some (.ins C dx fs)/\Cls K C/\NoAttr K C f/\fs.lookup f=some v/\Q v H1
def Wl (K:W.Frag) (ta tv:TE) (f:Str):TS:=fun D U H=>tv U H fun y H1=>ta U H1 fun x H2=>∃ a C dx fs,x= .ref a/\H2 a=some (.ins C dx fs)/\Cls K C/\NoAttr K C f/\fs.length < 1000/\
 D.nx U (upd H2 a (.ins C dx (mL f y fs)))
section
variable {X:Cx} {o e value:Expr} {f:Str} {pos pos' tpos:Pos} {ta tv:TE}
theorem Wm (he:PE X e ta) (hb:attributeBase e f X.env (eval e X.env)=eval e X.env):PE X (.Attribute e f pos) (Wj X.K ta f):=by
 intro pins s U H Q I h;refine Ik hb (d7 (he pins s U H _ I h) fun u s1 qq0=>?_);obtain ⟨x,H1,I1,rx,a,C,dx,fs,v,ex,ea,c,n,l,q⟩:=qq0;subst ex;obtain rfl:u=Value.ref a:=rx;exact GC I1 ea c n l fun u' s2 I2 ru=>⟨v,H1,I2,ru,q⟩
theorem Wn (ha:PE X o ta) (hv:PE X value tv) (hs:swapsWith value (some (.Attribute o f pos')) pos.line X.env=pure false):PS X (.Assign [.Attribute o f pos'] value pos) (Wl X.K ta tv f):=by
 intro pins s U H D I h;refine plainObj_wpAny_Assign_Attribute (d7 (hv pins s U H _ I h) fun u s1 ⟨y,H1,I1,ry,q⟩=>d7 (ha pins s1 U H1 _ I1 q) fun ov s2 qq0=>?_) hs;obtain ⟨x,H2,I2,rx,a,C,dx,fs,ex,ea,c,n,l,q2⟩:=qq0;subst ex;obtain rfl:ov=Value.ref a:=rx;exact GD I2 ea c n l ry fun s3 I3=>⟨U,_,I3,q2⟩
end
section
variable {X:Cx} {pins:List (Addr×Obj)} {U:St} {H:Hp} {s:Shared} {A:Around} {E:Value->Shared->Prop} {Q:Value->Shared->Prop} {c:Value} {b:Bool}
inductive TyOf (K:W.Frag) (H:Hp):V->Value->Prop where
 | non:TyOf K H .non (.type "NoneType")
 | bl (x:Bool):TyOf K H (.bl x) (.type "bool")
 | int (i:Int):TyOf K H (.int i) (.type "int")
 | str (x:Str):TyOf K H (.str x) (.type "str")
 | flt (x:UInt64):TyOf K H (.flt x) (.type "float")
 | lst {a:Addr} {xs:List V} (e:H a=some (.lst xs)):TyOf K H (.ref a) (.type "list")
 | frz {a:Addr} {o:Obj} {xs:List V} (e:H a=some (.frz o (.lst xs))):TyOf K H (.ref a) (.type "list")
 | tup {a:Addr} {xs:List V} (e:H a=some (.tup xs)):TyOf K H (.ref a) (.type "tuple")
 | dK {a:Addr} {kvs:List (Key×V)} (e:H a=some (.dK kvs)):TyOf K H (.ref a) (.type "dict")
 | dT {a:Addr} {kvs:List (List Key×V)} (e:H a=some (.dT kvs)):TyOf K H (.ref a) (.type "dict")
 | ins {a C dx:Addr} {fs:List (Str×V)} (e:H a=some (.ins C dx fs)) (cl:Cls K C) (ha:PySem.W.findIn K (.ref C) "__class__"=some (some (.builtin "object.__class__")))
   (hn:PySem.W.specialIn K (.builtin "object.__class__") "__get__"=some (some (.builtin "getset_descriptor.__get__"))) (htk:PySem.W.takesIn K (.builtin "object.__class__")=some true)
   (hm:PySem.W.mroIn K C (.type "object")=some true):TyOf K H (.ref a) (.ref C)
theorem Kp {x:V} {u t:Value} (I:Inv X pins U H s) (rx:RelV x u) (ty:TyOf X.K H x t) (e:PySem.W.kitOne X.K t c=some b) (h:∀ tk,Q (.bool b) {s with toks:=tk}):
  wpAny (model X.prog X.w) A (call (.builtin "isinstance") [u,c]) Q E s:=by
 cases ty with
 | non=>cases (show u=Value.none from rx);exact Aa9 PySem.W.kitx_none I.kIn True.intro e (fun z=>nomatch z) h
 | bl y=>cases (show u=Value.bool y from rx);exact Aa9 PySem.W.kitx_bool I.kIn True.intro e (fun z=>nomatch z) h
 | int i=>obtain ⟨t,q⟩:=(show ∃ t,u=Value.int i t from rx);cases q;exact Aa9 PySem.W.kitx_int I.kIn True.intro e (fun z=>nomatch z) h
 | str y=>obtain ⟨t,q⟩:=(show ∃ t,u=Value.str y t from rx);cases q;exact Aa9 PySem.W.kitx_str I.kIn True.intro e (fun z=>nomatch z) h
 | flt y=>obtain ⟨t,q⟩:=(show ∃ t,u=Value.float y t from rx);cases q;exact Aa9 PySem.W.kitx_float I.kIn True.intro e (fun z=>nomatch z) h
 | @lst a xs ea=>
  cases (show u=Value.ref a from rx);obtain ⟨_,_,n,_,h1⟩:=(show ObjOk X.prog X.w H s.heap a (.lst xs) from I.hok a _ ea);exact Aa9 PySem.W.kitx_list I.kIn ⟨_,h1,rfl⟩ e (fun z=>nomatch z) h
 | @frz a ob xs ea=>
  cases (show u=Value.ref a from rx);obtain ⟨_,_,_,n,_,h1⟩:=(show ObjOk X.prog X.w H s.heap a (.frz ob (.lst xs)) from I.hok a _ ea);exact Aa9 PySem.W.kitx_list I.kIn ⟨_,h1,rfl⟩ e (fun z=>nomatch z) h
 | @tup a xs ea=>
  cases (show u=Value.ref a from rx);obtain ⟨_,_,_,p⟩:=(show ObjOk X.prog X.w H s.heap a (.tup xs) from I.hok a _ ea);obtain ⟨o,h1,h2,_⟩:=p;exact Aa9 PySem.W.kitx_tuple I.kIn ⟨o,h1,h2⟩ e (fun z=>nomatch z) h
 | @dK a kvs ea=>
  cases (show u=Value.ref a from rx);obtain ⟨_,_,vs,_,p⟩:=(show ObjOk X.prog X.w H s.heap a (.dK kvs) from I.hok a _ ea);obtain ⟨o,es,ep,h1,h2,_⟩:=p;exact Aa9 PySem.W.kitx_dict I.kIn ⟨o,h1,h2.1⟩ e (fun z=>nomatch z) h
 | @dT a kvs ea=>
  cases (show u=Value.ref a from rx);obtain ⟨_,_,xs,_,o,es,ep,h1,h2,_⟩:=(show ObjOk X.prog X.w H s.heap a (.dT kvs) from I.hok a _ ea);exact Aa9 PySem.W.kitx_dict I.kIn ⟨o,h1,h2.1⟩ e (fun z=>nomatch z) h
 | @ins a C dx fs ea cl ha hn htk hm=>
  cases (show u=Value.ref a from rx);obtain ⟨mA,O,_⟩:=uN I.hok ea;obtain ⟨od,J,_⟩:=O.look;exact Aa9 (PySem.W.kitx_own (cl.get _) cl.hd ha hn htk hm) I.kIn J e (fun z=>nomatch z) h
end
structure Room (k:Nat) (A:Around):Prop where
 hd:A.handled=none
 dp:A.depth+3*k+5 < recursionLimit
 un:A.units+16*k+200 < cLine
 gd:A.guards=some []
theorem Room.mono {j k:Nat} {A:Around} (r:Room k A) (h:j<=k):Room j A:=⟨r.hd,by have:=r.dp;omega,by have:=r.un;omega,r.gd⟩
theorem Room.deeper {k:Nat} {A:Around} (r:Room (k+1) A) (env:Env):Room k (A.deeper env):=
 ⟨r.hd,by have:=r.dp;show A.depth+1+3*k+5 < _;omega,by have:=r.un;show A.units+3+16*k+200 < _;omega,r.gd⟩
theorem GF {A:Around} {C:Addr} {us:List Value} {kw:List (Str×Value)}:(A.under (.builtin "type.__call__" ⟨.ref C :: us,kw⟩)).depth=A.depth+1:=by
 first | rfl | simp [Around.under,Code.weight,Code.isCreation,Code.isGuard,Code.isCaller,Code.frames,Code.isFrame,guardIds]
theorem GJ {A:Around} {C:Addr} {us:List Value} {kw:List (Str×Value)}:(A.under (.builtin "type.__call__" ⟨.ref C :: us,kw⟩)).units=A.units+1:=by
 first | rfl | simp [Around.under,Code.cUnits,Code.frames,Code.isFrame]
theorem Ea {A:Around} {C:Addr} {us:List Value} {kw:List (Str×Value)}:(A.under (.builtin "type.__call__" ⟨.ref C :: us,kw⟩)).guards=pushGuards [] A.guards:=by
 first | rfl | simp [Around.under,Code.guards,Code.isGuard,guardIds]
theorem Room.make {k:Nat} {A:Around} (r:Room (k+1) A) (C:Addr) (us:List Value) (kw:List (Str×Value)):Room k (A.under (.builtin "type.__call__" ⟨.ref C :: us,kw⟩)):=
 ⟨r.hd,by have:=r.dp;rw [GF];omega,by have:=r.un;rw [GJ];omega,(Ea.trans (by rw [r.gd];rfl))⟩
theorem Room.depth {k:Nat} {A:Around} (r:Room k A):A.depth < recursionLimit:=by have:=r.dp;omega
theorem Room.units {k:Nat} {A:Around} (r:Room k A):A.units+64 < cLine:=by have:=r.un;omega
theorem Room.units0 {k:Nat} {A:Around} (r:Room k A):A.units < cLine:=by have:=r.un;omega
def Nq:TA:=fun _ H Q=>Q [] H
def Il (ta:TE) (tr:TA):TA:=fun U H Q=>ta U H fun x H1=>tr U H1 fun xs H2=>Q (x :: xs) H2
section
variable {X:Cx} {e:Expr} {es:List Expr} {te:TE} {t:TA} {pos:Pos}
theorem Wo:PA X [] Nq:=fun _ _ _ _ H Q I h=>Calls.spliced_nil ⟨[],H,I,.nil,h⟩
theorem Rx (ha:PE X e te) (hr:PA X es t) (hs:autoParam (starEach (e :: es) X.env=(false,eval e X.env) :: starEach es X.env) L2.auto4._auto_1):PA X (e :: es) (Il te t):=by
 intro pos pins s U H Q I h;rw [hs];show wpAny _ _ (spliced ((false,eval e X.env) :: backTo pos (starEach es X.env))) _ _ s;refine Calls.spliced_cons (d7 (ha pins s U H _ I h) fun u s1 qq0=>?_);obtain ⟨x,H1,I1,r1,q1⟩:=qq0;exact d7 (hr pos pins s1 U H1 _ I1 q1) fun us s2 ⟨xs,H2,I2,r2,q2⟩=>⟨x :: xs,H2,I2,.cons r1 r2,q2⟩
def Ry (t:TA):TE:=fun U H Q=>t U H fun xs H1=>xs.length<=sizeLine/\∀ p,H1 p=none->Q (.ref p) (upd H1 p (.tup xs))
def Rz (t:TA):TE:=fun U H Q=>t U H fun xs H1=>xs.length<=sizeLine/\∀ p,H1 p=none->Q (.ref p) (upd H1 p (.lst xs))
theorem Wq {x1} (h:PA X es t):PE X (.Tuple es x1 pos) (Ry t):=by
 intro pins s U H Q I hq;refine wpAny_Tuple_spliced (d7 (h pos pins s U H _ I hq) fun us s1 ⟨xs,H1,I1,r,z,q⟩=>⟨by rw [← r.length];exact z,?_⟩);have hf:H1 s1.heap.objs.size=none:=I1.hok.fresh (Aad _);refine ⟨.ref s1.heap.objs.size,upd H1 s1.heap.objs.size (.tup xs),I1.laid (t':=s1.toks) (fun b u e=>Aae _ e) (Aad _) ?_,rfl,q _ hf⟩;exact ⟨z,us,r,⟨_,Aaq _ rfl,rfl,_,rfl⟩⟩
theorem Wr (h:PA X es t):PE X (.List es pos) (Rz t):=by
 intro pins s U H Q I hq;refine wpAny_List_spliced (d7 (h pos pins s U H _ I hq) fun us s1 ⟨xs,H1,I1,r,z,q⟩=>⟨by rw [← r.length];exact z,?_⟩);have hf:H1 s1.heap.objs.size=none:=I1.hok.fresh (Aad _);refine ⟨.ref s1.heap.objs.size,upd H1 s1.heap.objs.size (.lst xs),I1.laid (t':=s1.toks) (fun b u e=>Aae _ e) (Aad _) ?_,rfl,q _ hf⟩;exact ⟨z,us,0,r,Aaq _ rfl⟩
end
abbrev Sp:=List V->Hp->VK->XK->Prop
abbrev Kq:=List Env->Hp->Shared->XK->Value->Shared->Prop
structure Env0 (P:Program) (w:World) (K:W.Frag) (mg:Str->Option Value) (base:Heap) (A:Around) (outer:List Env) (s:Shared) (H:Hp):Prop where
 frames:A.frames=some outer
 mod:Mod K mg base
 bs:∀ b o,base.get? b=some o->s.heap.get? b=some o/\H b=none
 bsz:base.objs.size<=s.heap.objs.size
 funs:s.heap.FunFrames base outer
 frf:∀ b∈frs outer,H b=none
 hok:HOk P w H s.heap
 bare:AllBare s.gens
def CE (outer:List Env) (P:Program) (w:World) (H:Hp) (s:Shared) (Q:VK) (u:Value) (s':Shared):Prop:=
 ∃ v H',s'.os=s.os/\AllBare s'.gens/\Un (frs outer) [] H H' s.heap s'.heap/\HOk P w H' s'.heap/\RelV v u/\Q v H'
def CR (CX:Kq) (outer:List Env) (P:Program) (w:World) (H:Hp) (s:Shared) (Q:VK) (E:XK) (r:Result) (s':Shared):Prop:=
 match r with
 | .ok (.ret u)=>CE outer P w H s Q u s'
 | .ok _=>False
 | .error e=>CX outer H s E e s'
structure FnOk (P:Program) (w:World) (K:W.Frag) (mg:Str->Option Value) (base:Heap) (CX:Kq) (k:Nat) (f:Addr) (fd:FuncData) (ps:List Str) (sp:Sp):Prop where
 len:∀ vs H Q E,sp vs H Q E->vs.length=ps.length
 run:∀ (A:Around) (outer:List Env) (s:Shared) (H:Hp) (args:Args) (us:List Value) (vs:List V) (Q:VK) (E:XK),Room k A->Env0 P w K mg base A outer s H->BindsTo s fd args (ps.zip us)->Vals vs us->sp vs H Q E->
  codeAny (model P w) A (.call (.ref f) args) (CR CX outer P w H s Q E) s
theorem FnOk.mono {P:Program} {w:World} {K:W.Frag} {mg:Str->Option Value} {base:Heap} {CX:Kq} {j k:Nat} {f:Addr} {fd:FuncData} {ps:List Str} {sp:Sp} (F:FnOk P w K mg base CX j f fd ps sp) (h:j<=k):
  FnOk P w K mg base CX k f fd ps sp:=⟨F.len,fun A outer s H args us vs Q E hr=>F.run A outer s H args us vs Q E (hr.mono h)⟩
theorem Env0.make {P:Program} {w:World} {K:W.Frag} {mg:Str->Option Value} {base:Heap} {A:Around} {outer:List Env} {s:Shared} {H:Hp} (e:Env0 P w K mg base A outer s H) (C:Addr) (us:List Value) (kw:List (Str×Value)):
  Env0 P w K mg base (A.under (.builtin "type.__call__" ⟨.ref C :: us,kw⟩)) outer s H:=⟨by first | exact e.frames | (simpa [Around.under,Code.envs,Code.isFrame,pushEnvs] using e.frames),e.mod,e.bs,e.bsz,e.funs,e.frf,e.hok,e.bare⟩
section
variable {X:Cx} {pins:List (Addr×Obj)} {U:St} {H:Hp} {s s':Shared}
theorem Inv.env0 (I:Inv X pins U H s):Env0 X.prog X.w X.K X.mg X.base X.A X.stack s H:=
 ⟨I.ok.frames,I.ok.mod,I.bs,Aay I.ok.bsz I.sz,I.stack,I.stkFree,I.hok,I.bare⟩
theorem Inv.after {Q:VK} {u:Value} (I:Inv X pins U H s) (h:CE X.stack X.prog X.w H s Q u s'):EP X pins U Q u s':=by
 obtain ⟨v,H',os,bare,un,hok,r,q⟩:=h;obtain ⟨hh,g,d,t,os'⟩:=s';obtain rfl:os'=s.os:=os;exact ⟨v,H',I.call (h':=hh) (g':=g) (d':=d) (t':=t) (ch:=[]) un hok bare (fun b z=>absurd z (by simp)),r,q⟩
end
def Ag (sp:Sp) (dvs:List V) (E:XK) (t:TA):TE:=fun U H Q=>t U H fun vs H1=>sp (vs ++ dvs) H1 Q E
def Binds (K:W.Frag) (fd:FuncData) (ps:List Str) (ds:List Value):Prop:=
 ∀ (s:Shared) (us:List Value),K.In s.heap->(us ++ ds).length=ps.length->BindsTo s fd ⟨us,[]⟩ (ps.zip (us ++ ds))
theorem Binds.all {K:W.Frag} {fd:FuncData} {ps:List Str} (h:∀ us:List Value,us.length=ps.length->bindArgs fd ⟨us,[]⟩=pure (ps.zip us)):Binds K fd ps []:=fun s us _ hl=>by
 rw [AaL] at hl ⊢;exact .of_eq (h us hl)
def GK (CX:Kq) (X:Cx) (E:XK):Prop:=∀ (pins:List (Addr×Obj)) (U:St) (H:Hp) (s:Shared) (e:Value) (s':Shared),Inv X pins U H s->CX X.stack H s E e s'->X.xe e s'
section
variable {X:Cx} {CX:Kq} {k:Nat} {f C:Addr} {fd:FuncData} {ps:List Str} {sp:Sp} {dvs:List V} {ds:List Value} {E:XK} {x m:Str} {p pos apos:Pos} {e o:Expr} {es:List Expr} {ta:TE} {t:TA}
theorem Ws {pins:List (Addr×Obj)} {U:St} {H:Hp} {s:Shared} {Q:VK} {us:List Value} {vs:List V} (F:FnOk X.prog X.w X.K X.mg X.base CX k f fd ps sp) (hr:Room k X.A) (hb:Binds X.K fd ps ds) (hd:Vals dvs ds) (hx:GK CX X E)
  (I:Inv X pins U H s) (r:Vals vs us) (h:sp (vs ++ dvs) H Q E):wpAny (model X.prog X.w) X.A (call (.ref f) us) (EP X pins U Q) X.xe s:=by
 have r2:Vals (vs ++ dvs) (us ++ ds):=r.append hd;have hl:(us ++ ds).length=ps.length:=by rw [← r2.length];exact F.len _ _ _ _ h
 refine Aca (codeAny_mono (F.run X.A X.stack s H ⟨us,[]⟩ (us ++ ds) (vs ++ dvs) Q E hr I.env0 (hb s us I.kIn hl) r2 h) fun r s' hq=>?_);cases r with
 | error e=>exact hx pins U H s e s' I hq
 | ok fl=>
  cases fl with
  | ret u=>exact I.after hq
  | next=>exact False.elim hq
  | brk=>exact False.elim hq
  | cont=>exact False.elim hq
theorem RB (F:FnOk X.prog X.w X.K X.mg X.base CX k f fd ps sp) (hr:Room k X.A) (hg:Gl X x) (hm:X.mg x=some (.ref f)) (hk:PySem.W.keepIn X.K (.ref f)=true) (hb:Binds X.K fd ps ds) (hd:Vals dvs ds) (hx:GK CX X E)
  (ha:PA X (e :: es) t) (hdb:autoParam ((x == ("__debug__":Str))=false) L2.auto2._auto_1) (he:autoParam (starEach (e :: es) X.env=(false,eval e X.env) :: starEach es X.env) L2.auto4._auto_1) (hpl:autoParam ((backTo pos (starEach es X.env)).any (·.1)=false) L2.auto4._auto_1):
  PE X (.Call (.Name x p) (e :: es) [] pos) (Ag sp dvs E t):=by
 intro pins s U H Q I h;refine AaZ (nP I hg hm ?_ hdb);refine AbC (h₀:=X.base) I.ok.mod.kin hk (d7 (ha pos pins s U H _ I h) fun us s1 ⟨vs,H1,I1,r,q⟩=>⟨I1.kIn,?_⟩) he hpl;exact Ws F hr hb hd hx I1 r q
end
structure aG (N P:List Str) (sc:Scope):Prop where
 kind:sc.kind= .function
 co:sc.isCoroutine=false
 gen:sc.isGenerator=false
 nd:N.Nodup
 pre:N.take P.length=P
 par:∀ x∈P,sc.names.lookup x=some .local\/sc.names.lookup x=some .cell
 nofree:∀ y∈sc.names,y.2≠.free
theorem Ah {kindOf:Str->Option NameKind} {x:Str}:∀ {binds:List (Str×Value)} {m:Str->Option Value},(∀ v,(x,v) ∉ binds)->bindL kindOf binds m x=m x
 | [],_,_=>rfl
 | (n,v) :: r,m,h=>by
  unfold bindL;rw [Ah fun w hw=>h w (Aap _ hw)]
  split
  ·have:x≠n:=by rintro rfl;exact h v AaH
   simp [this]
  ·rfl
theorem Ai {kindOf:Str->Option NameKind} {x:Str}:∀ {binds:List (Str×Value)} {m:Str->Option Value},(∀ v,(x,v) ∉ binds)->bindC kindOf binds m x=m x
 | [],_,_=>rfl
 | (n,v) :: r,m,h=>by
  unfold bindC;rw [Ai fun w hw=>h w (Aap _ hw)]
  split
  ·rfl
  ·have:x≠n:=by rintro rfl;exact h v AaH
   simp [this]
theorem Aj {kindOf:Str->Option NameKind} {x:Str} {v:Value}:∀ {P:List Str} {vs:List Value} {i:Nat} {m:Str->Option Value},P.Nodup->P[i]?=some x->vs[i]?=some v->kindOf x=some .local->
  bindL kindOf (P.zip vs) m x=some v
 | [],_,_,_,_,h,_,_=>by simp at h
 | _ :: _,[],_,_,_,_,h,_=>by simp at h
 | p :: P,w :: vs,0,m,nd,h1,h2,hk=>by
  simp at h1 h2;subst h1;subst h2;show bindL kindOf ((p,w) :: P.zip vs) m p=_;unfold bindL;rw [Ah fun v hv=>(List.nodup_cons.mp nd).1 (List.of_mem_zip hv).1,if_pos hk];simp
 | p :: P,w :: vs,i+1,m,nd,h1,h2,hk=>by
  show bindL kindOf ((p,w) :: P.zip vs) m x=_;unfold bindL;exact Aj (i:=i) (List.nodup_cons.mp nd).2 (by simpa using h1) (by simpa using h2) hk
theorem Al {kindOf:Str->Option NameKind} {x:Str} {v:Value}:∀ {P:List Str} {vs:List Value} {i:Nat} {m:Str->Option Value},P.Nodup->P[i]?=some x->vs[i]?=some v->kindOf x≠some .local->
  bindC kindOf (P.zip vs) m x=some v
 | [],_,_,_,_,h,_,_=>by simp at h
 | _ :: _,[],_,_,_,_,h,_=>by simp at h
 | p :: P,w :: vs,0,m,nd,h1,h2,hk=>by
  simp at h1 h2;subst h1;subst h2;show bindC kindOf ((p,w) :: P.zip vs) m p=_;unfold bindC;rw [Ai fun v hv=>(List.nodup_cons.mp nd).1 (List.of_mem_zip hv).1,if_neg hk];simp
 | p :: P,w :: vs,i+1,m,nd,h1,h2,hk=>by
  show bindC kindOf ((p,w) :: P.zip vs) m x=_;unfold bindC;exact Al (i:=i) (List.nodup_cons.mp nd).2 (by simpa using h1) (by simpa using h2) hk
def start (N:List Str) (vs:List V):St:=vs.map some ++ List.replicate (N.length - vs.length) none
def qz (CX:Kq) (P:Program) (w:World) (K:W.Frag) (mg:Str->Option Value) (base:Heap) (N:List Str) (qual:Str) (scope:Scope) (f:Addr) (cd:Value) (A:Around) (outer:List Env) (s:Shared) (H:Hp) (E:XK):Cx where
 prog:=P
 w:=w
 K:=K
 mg:=mg
 base:=base
 A:=A.deeper (envOfC qual scope s.heap.objs.size f cd)
 N:=N
 s₀:=s
 H₀:=H
 env:=envOfC qual scope s.heap.objs.size f cd
 outer:=outer
 stack:=envOfC qual scope s.heap.objs.size f cd :: outer
 ex:=[]
 calm:=true
 fn:=fun _=>true
 pn:=[]
 xe:=fun e s'=>wpAny (model P w) (A.deeper (envOfC qual scope s.heap.objs.size f cd)) (leaving (envOfC qual scope s.heap.objs.size f cd) e) (fun _ s''=>CX outer H s E e s'') (fun e' s''=>CX outer H s E e' s'') s'
theorem Eb {sc:Scope} {n:Nat} {x:Str} (h:sc.names.lookup x=some .cell):∃ c,(cellsFrom n sc.names []).lookup x=some c:=by
 have q:=PySem.W.cellsFrom_some sc.names n [] (.inl h);exact Option.isSome_iff_exists.mp q
theorem Kr {CX:Kq} {P:Program} {w:World} {K:W.Frag} {mg:Str->Option Value} {base:Heap} {N ps:List Str} {qual:Str} {scope:Scope} {f:Addr} {cd:Value} {A:Around} {outer:List Env} {s s1:Shared} {H:Hp} {E:XK} {us:List Value} {vs:List V}
  (S:aG N ps scope) (hd:A.handled=none) (e0:Env0 P w K mg base A outer s H) (hl:vs.length=ps.length) (r:Vals vs us)
  (x:InCallC s s.heap.objs.size (bindL (envOfC qual scope s.heap.objs.size f cd).kindOf (ps.zip us) fun _=>none) (cellsFrom (s.heap.objs.size+1) scope.names []) (bindC (envOfC qual scope s.heap.objs.size f cd).kindOf (ps.zip us) fun _=>none) s1):
  Inv (qz CX P w K mg base N qual scope f cd A outer s H E) [] (start N vs) H s1:=by
 have hpl:ps.length<=N.length:=by have:=congrArg List.length S.pre;rw [Abs] at this;omega
 obtain ⟨h1,tk,rfl,hk⟩:=x.done;have noA:∀ b:Addr,b ∉ (qz CX P w K mg base N qual scope f cd A outer s H E).ex:=fun b z=>absurd (show b∈([]:List Addr) from z) (by simp)
 refine ⟨⟨e0.mod,S.kind,rfl,rfl,Aad _,fun y z c h1 h2=>?_,fun y hy=>?_,fun y c _ h=>?_,fun _=>hd,Around.frames_deeper e0.frames,.inr ⟨rfl,rfl⟩,fun b z=>absurd z (noA b),e0.bs,e0.bsz,fun b _ _=>noA b,fun b z=>absurd z (noA b),e0.funs,e0.frf⟩,
  rfl,e0.bare,Un.kept hk,⟨_,x.toInCall.ns,fun i y v h1 h2 h3=>?_⟩,fun y c h=>⟨_,x.cell y c h⟩,e0.hok.fresh (Aad _),fun y c h=>?_,fun p hp=>absurd (show p∈([]:List (Addr×Obj)) from hp) (by simp),e0.hok.kept hk,?_⟩
 ·exact name_of_addr x.apart (Aa1 h1) (Aa1 h2)
 ·have hy:scope.names.lookup y=some .cell\/scope.names.lookup y=some .free:=hy
  rcases hy with hy | hy
  ·exact Eb hy
  ·exact absurd rfl (S.nofree _ (Aa1 hy))
 ·exact Nat.le_of_lt (x.above y c (Aa1 h))
 ·have hi:i < vs.length:=by
   unfold start at h2;by_cases hi:i < vs.length
   ·exact hi
   ·rw [Aas (by simpa using hi)] at h2
    rw [List.getElem?_replicate] at h2
    split at h2 <;> cases h2
  have ha:vs[i]?=some v:=by
   unfold start at h2;rw [Aaw (by simpa using hi),Aah] at h2;cases e:vs[i]? with
   | none=>rw [e] at h2;cases h2
   | some a=>rw [e] at h2;cases h2;rfl
  obtain ⟨u,hu,rv⟩:=r.get ha
  have hp:ps[i]?=some y:=by
   rw [← S.pre,List.getElem?_take_of_lt (by omega)];exact h1
  have ndP:ps.Nodup:=by rw [← S.pre];exact S.nd.sublist (List.take_sublist _ _)
  refine ⟨u,rv,?_⟩;rcases S.par y (Aai hp) with k | k
  ·exact .inl ⟨k,Aj ndP hp hu k⟩
  ·obtain ⟨c,e⟩:=Eb (n:=s.heap.objs.size+1) k
   refine .inr ⟨.inl k,c,e,?_⟩;have q:=x.cell y c e;rw [Al ndP hp hu (by show scope.names.lookup y≠_;rw [k];decide)] at q;exact q
 ·exact e0.hok.fresh (Nat.le_of_lt (x.above y c (Aa1 h)))
 ·unfold start
  show _=N.length;rw [AaR,Aaf,List.length_replicate];omega
theorem Ec {CX:Kq} {P:Program} {w:World} {K:W.Frag} {mg:Str->Option Value} {base:Heap} {k:Nat} {f:Addr} {name qual:Str} {params:Arguments} {body:List Stmt} {scope:Scope} {dV kV doc pm cdv ct oc:Value} {an od:Option Addr}
  {osl:Array (Option Value)} {N ps:List Str} {sp:Sp} (lk:K.lookup f=some ⟨oc,od,.func (PySem.W.fnOf name qual params body scope dV kV doc pm an cdv ct),osl⟩) (hcd:PySem.W.codeIn K cdv qual=true) (S:aG N ps scope)
  (len:∀ vs H Q E,sp vs H Q E->vs.length=ps.length)
  (hbody:∀ (A:Around) (outer:List Env) (s:Shared) (H:Hp) (vs:List V) (Q:VK) (E:XK),Room k (A.deeper (envOfC qual scope s.heap.objs.size f cdv))->sp vs H Q E->
   ∃ t,PSs (qz CX P w K mg base N qual scope f cdv A outer s H E) body t/\t {nx:=fun _ H'=>Q .non H',rt:=Q} (start N vs) H):
  FnOk P w K mg base CX (k+1) f (PySem.W.fnOf name qual params body scope dV kV doc pm an cdv ct) ps sp:=by
 refine ⟨len,fun A outer s H args us vs Q E hr e0 hb r hsp=>?_⟩;have hl:=len _ _ _ _ hsp;have KX:K.In s.heap:=e0.mod.kin.keeps fun b o e=>(e0.bs b o e).1
 have lim:s.heap.NoLimit:=e0.mod.nolimit.keeps fun b o e=>(e0.bs b o e).1
 have hkind:∀ y∈ps.zip us,scope.names.lookup y.1=some .local\/(scope.names.lookup y.1=some .cell/\((cellsFrom (s.heap.objs.size+1) scope.names []).lookup y.1).isSome=true):=fun ⟨n,v⟩ hy=>by
  rcases S.par n (List.of_mem_zip hy).1 with q | q
  ·exact .inl q
  ·exact .inr ⟨q,PySem.W.cellsFrom_some _ _ _ (.inl q)⟩
 refine codeAny_call_function hr.depth (KX _ _ lk) rfl S.co S.gen rfl (PySem.W.codeRec_of KX hcd) (hb _ _ _ _ ?_);refine wpAny_newFunctionEnv_cells S.kind hkind fun env he s1 x=>?_
 subst he;refine ⟨lim.keeps x.toInCall.keep,codeAny_func ?_⟩;obtain ⟨t,ht,hq⟩:=hbody A outer s H vs Q E (hr.deeper _) hsp;have I:Inv (qz CX P w K mg base N qual scope f cdv A outer s H E) [] (start N vs) H s1:=Kr S hr.hd e0 hl r x;refine AaP (ht [] s1 (start N vs) H _ I hq) (fun fl s' hs=>?_) fun e s' hs=>hs
 have fin:∀ {U':St} {H':Hp} {v:V} {u:Value},Inv (qz CX P w K mg base N qual scope f cdv A outer s H E) [] U' H' s'->RelV v u->Q v H'->CE outer P w H s Q u s':=
  fun {U' H' v u} J rv q=>⟨v,H',J.os,J.bare,J.base,J.hok,rv,q⟩
 cases fl with
 | ret u=>
  obtain ⟨v,U',H',J,rv,q⟩:=hs;exact fin J rv q
 | next=>
  obtain ⟨U',H',J,q⟩:=hs;exact fin (v:=V.non) (u:=Value.none) J rfl q
 | brk=>
  obtain ⟨_,_,_,q⟩:=hs;exact False.elim q
 | cont=>
  obtain ⟨_,_,_,q⟩:=hs;exact False.elim q
section
variable {X:Cx} {x:Str} {p pos:Pos} {e:Expr} {es:List Expr} {t:TA} {id T:String} {r:List V->Hp->VK->Prop}
def Wt (r:List V->Hp->VK->Prop) (t:TA):TE:=fun U H Q=>t U H fun vs H1=>r vs H1 Q
theorem Nr (hc:CallR X (.builtin id) r) (hg:Gl X x) (hm:X.mg x=none) (hv:bootBuiltins x=some (.builtin id)) (ha:PA X (e :: es) t) (hn:autoParam (x≠"__name__") L2.auto2._auto_1) (hdb:autoParam ((x == ("__debug__":Str))=false) L2.auto2._auto_1)
  (he:autoParam (starEach (e :: es) X.env=(false,eval e X.env) :: starEach es X.env) L2.auto4._auto_1) (hpl:autoParam ((backTo pos (starEach es X.env)).any (·.1)=false) L2.auto4._auto_1):PE X (.Call (.Name x p) (e :: es) [] pos) (Wt r t):=by
 intro pins s U H Q I h;refine AaZ (jF I hg hm hv ?_ hn hdb);exact PyProof.Rows.callWith_builtin1 (d7 (ha pos pins s U H _ I h) fun us s1 ⟨vs,H1,I1,r1,q1⟩=>hc pins s1 U H1 vs us Q I1 r1 q1) he hpl
theorem Ks (hc:CallR X (.type T) r) (hg:Gl X x) (hm:X.mg x=none) (hv:bootBuiltins x=some (.type T)) (ha:PA X (e :: es) t) (hn:autoParam (x≠"__name__") L2.auto2._auto_1) (hdb:autoParam ((x == ("__debug__":Str))=false) L2.auto2._auto_1)
  (he:autoParam (starEach (e :: es) X.env=(false,eval e X.env) :: starEach es X.env) L2.auto4._auto_1) (hpl:autoParam ((backTo pos (starEach es X.env)).any (·.1)=false) L2.auto4._auto_1):PE X (.Call (.Name x p) (e :: es) [] pos) (Wt r t):=by
 intro pins s U H Q I h;refine AaZ (jF I hg hm hv ?_ hn hdb);exact AaI (d7 (ha pos pins s U H _ I h) fun us s1 ⟨vs,H1,I1,r1,q1⟩=>hc pins s1 U H1 vs us Q I1 r1 q1) he hpl
end
end L2
namespace HT
open PySem PyProof.Rows
section
open PySem.SeqAt
open PySem.AutoSeq1 (wpAny_loadPart')
open PySem.MeetsSeq PySem.MeetsSeq2 PySem.MeetsSeq3
end
section
variable {prog:Program} {w:World} {A:Around} {E:Value->Shared->Prop} {s:Shared}
def sIx (n d:Nat):Option Int->Nat
 | none=>d
 | some v=>if v < 0 then (v+(n:Int)).toNat else min v.toNat n
theorem sIx_none (n d:Nat):sIx n d none=d:=rfl
theorem sIx_nat (n d k:Nat):sIx n d (some (k:Int))=min k n:=by
 show (if (k:Int) < 0 then ((k:Int)+(n:Int)).toNat else min (k:Int).toNat n)=min k n;rw [if_neg (by omega),Int.toNat_natCast]
theorem sIx_le (n d:Nat) (hd:d<=n) (o:Option Int):sIx n d o<=n:=by
 cases o with
 | none=>exact hd
 | some v=>
  show (if v < 0 then (v+(n:Int)).toNat else min v.toNat n)<=n;by_cases hv:v < 0
  ·rw [if_pos hv];omega
  ·rw [if_neg hv];exact Nat.min_le_right _ _
theorem clip_eq (v:Int) (n d:Nat):(if v < 0 then max (v+(n:Int)) 0 else min v (n:Int))=((sIx n d (some v):Nat):Int):=by
 show (if v < 0 then max (v+(n:Int)) 0 else min v (n:Int))=(((if v < 0 then (v+(n:Int)).toNat else min v.toNat n):Nat):Int);by_cases hv:v < 0
 ·simp only [if_pos hv];omega
 ·simp only [if_neg hv];omega
theorem GQ (lo hi:Option Int) (n:Nat):Builtin.Slice.sliceAdjust lo hi 1 (n:Int)=(((sIx n 0 lo:Nat):Int),((sIx n n hi:Nat):Int)):=by
 have h1:¬ ((1:Int) < 0):=by omega
 unfold Builtin.Slice.sliceAdjust;simp only [h1,if_false];refine Prod.ext ?_ ?_
 ·cases lo with
  | none=>rfl
  | some v=>exact clip_eq v n 0
 ·cases hi with
  | none=>rfl
  | some v=>exact clip_eq v n n
theorem GR (i j:Nat):Builtin.Slice.slicePlaces (i:Int) (j:Int) 1=j - i:=by
 unfold Builtin.Slice.slicePlaces;have h1:(1:Int) > 0:=by omega
 simp only [h1,if_true,Int.ediv_one]
 split <;> omega
theorem yo {v:Value} {o:Option Int} {Q:Option Int->Shared->Prop} (p:IsPart v o) (h:Q o s):wpAny (model prog w) A (Builtin.Slice.slicePartIndex v) Q E s:=by
 cases p with
 | none=>exact slicePart_none h
 | int i t=>exact slicePart_int h
theorem oX {sl:Addr} {vl vu:Value} {lo hi:Option Int} {n:Nat} {Q:Int×Int×Nat->Shared->Prop} (hs:s.heap.IsSliceOf sl vl vu .none) (pl:IsPart vl lo) (pu:IsPart vu hi)
  (h:Q (((sIx n 0 lo:Nat):Int),1,sIx n n hi - sIx n 0 lo) s):wpAny (model prog w) A (Builtin.Slice.sliceApplied (.ref sl) (pure (n:Int))) Q E s:=by
 obtain ⟨os,hos,hcs,hds⟩:=id hs;unfold Builtin.Slice.sliceApplied Builtin.Slice.sliceFields;refine gV (gV (Abu hos hds (x:=vl) rfl (gV (Abu hos hds (x:=vu) rfl (gV (Abu hos hds (x:=.none) rfl (Aag ?_)))))));refine gV (slicePart_none ?_);show wpAny _ _ (if ((1:Int) == 0)=true then _ else _) _ _ s;rw [if_neg (by decide)];refine gV (yo pl (gV (yo pu (gV (Aag ?_)))));show wpAny _ _ (match Builtin.Slice.sliceAdjust lo hi 1 (n:Int) with | (lo,hi)=>pure (lo,(1:Int),Builtin.Slice.slicePlaces lo hi 1)) _ _ s;rw [GQ lo hi n];show wpAny _ _ (pure (((sIx n 0 lo:Nat):Int),(1:Int),Builtin.Slice.slicePlaces ((sIx n 0 lo:Nat):Int) ((sIx n n hi:Nat):Int) 1)) _ _ s;rw [GR];exact Aag h
theorem Nt (xs:Array Value) (i k:Nat):((List.range k).filterMap fun (m:Nat)=>xs[((i:Int)+(m:Int)*1).toNat]?).toArray=((xs.toList.drop i).take k).toArray:=by
 have e:(fun (m:Nat)=>xs[((i:Int)+(m:Int)*1).toNat]?)=fun m=>xs[i+m]?:=by
  funext m;have:((i:Int)+(m:Int)*1).toNat=i+m:=by omega
  rw [this]
 rw [e];have:=pick_run xs i k;rw [List.filterMap_map] at this;have e2:((fun x=>xs[x]?) ∘ fun x=>i+x)=fun m=>xs[i+m]?:=rfl
 rw [e2] at this;rw [this]
theorem getItem_tuple_cut {t sl:Addr} {items:Array Value} {vl vu:Value} {lo hi:Option Int} {Q:Value->Shared->Prop} (ht:IsTup s.heap t items) (hs:s.heap.IsSliceOf sl vl vu .none) (pl:IsPart vl lo) (pu:IsPart vu hi)
  (hw:¬ (sIx items.size 0 lo=0/\sIx items.size items.size hi=items.size))
  (h:Q (.ref s.heap.objs.size) {s with heap:=s.heap.push {cls:=.type "tuple",data:=.seq ((items.toList.drop (sIx items.size 0 lo)).take (sIx items.size items.size hi - sIx items.size 0 lo)).toArray}})
  (hsz:items.size<=sizeLine):wpAny (model prog w) A (getItem (.ref t) (.ref sl)) Q E s:=by
 have htake:sizeOk (.seq ((items.toList.drop (sIx items.size 0 lo)).take (sIx items.size items.size hi - sIx items.size 0 lo)).toArray):=by
  show ((items.toList.drop (sIx items.size 0 lo)).take (sIx items.size items.size hi - sIx items.size 0 lo)).toArray.size<=sizeLine;rw [Aax,Abs,AbS,AaG];omega
 have hj:sIx items.size items.size hi<=items.size:=sIx_le _ _ (Aad _) hi;obtain ⟨os,hos,hcs,hds⟩:=id hs;have hTs:s.TypeIs (.ref sl) "slice":=⟨os,hos,hcs⟩;unfold getItem;try with_reducible refine Aa5 ?_
 first | refine gV (Aag ?_) | skip
 refine gV (wpAny_sequenceKey ht.typeIs (by decide) ?_)
 refine gV (AbT (name:=Str.ofString "__getitem__") ht.typeIs Abo
  (Acg Abo ht.typeIs entry_tuple_getitem ?_ (args_tuple_getitem _ _)))
 show wpAny _ _ (Builtin.Tuple.tupleItemsOf (.ref t) >>=_) _ _ s;refine gV (tupleItemsOf_ ht ?_);refine gV (wpAny_typeOf hTs ?_);rw [if_pos (by decide)];refine gV (oX hs pl pu ?_)
 have hno:¬ ((((sIx items.size 0 lo:Nat):Int) == 0 && (1:Int) == 1 && (sIx items.size items.size hi - sIx items.size 0 lo) == items.size)=true):=by
  intro q;rw [Aav,Aav] at q;have q1:((sIx items.size 0 lo:Nat):Int)=0:=eq_of_beq q.1.1;have q2:sIx items.size items.size hi - sIx items.size 0 lo=items.size:=eq_of_beq q.2;exact hw ⟨by omega,by omega⟩
 show wpAny _ _ (if (((sIx items.size 0 lo:Nat):Int) == 0 && (1:Int) == 1 && (sIx items.size items.size hi - sIx items.size 0 lo) == items.size)=true then _ else _) _ _ s;rw [if_neg hno,Nt]
 first
  | exact gV (m:=Builtin.Tuple.tupleExact _) (Aa8 (Aag ⟨_,rfl,Aag h⟩) htake)
  | exact gV (m:=Builtin.Tuple.tupleExact _) (Aa8 (gV (Aag (Aag ⟨_,rfl,Aag h⟩))) htake)
  | exact gV (gV (m:=Builtin.Tuple.tupleExact _) (Aa8 (Aag (Aag ⟨_,rfl,Aag h⟩)) htake))
  | exact gV (gV (m:=Builtin.Tuple.tupleExact _) (Aa8 (Aag ⟨_,rfl,Aag h⟩) htake))
end
end HT
namespace L2
open PySem PySem.Spec PyProof.Rows
abbrev TO:=St->Hp->(Option Int->Hp->Prop)->Prop
def PO (X:Cx) (e:Option Expr) (t:TO):Prop:=
 ∀ (pins:List (Addr×Obj)) (s:Shared) (U:St) (H:Hp) (Q:Option Int->Hp->Prop),Inv X pins U H s->t U H Q->
  wpAny (model X.prog X.w) X.A (evalPart e X.env) (fun u s'=>∃ o H',Inv X pins U H' s'/\IsPart u o/\Q o H') X.xe s
def Bw:TO:=fun _ H Q=>Q none H
def Nu (t:TE):TO:=fun U H Q=>t U H fun x H1=>∃ i,x= .int i/\Q (some i) H1
theorem intsAre_of {ns:List Int}:∀ {us:List Value},Vals (ns.map V.int) us->IntsAre us ns:=by
 induction ns with
 | nil=>intro us r;rw [List.map_nil] at r;cases r;exact .nil
 | cons n ns ih=>
  intro us r;rw [AaW] at r;cases r with
  | cons r1 r2=>
   obtain ⟨t,e⟩:=r1;subst e;exact .cons n t (ih r2)
section
variable {X:Cx} {e:Expr} {te:TE} {lo hi:Option Expr} {tl th:TO} {pos p2:Pos}
theorem RC:PO X none Bw:=by
 intro pins s U H Q I h;rw [evalPart_none];exact Aag ⟨none,H,I,.none,h⟩
theorem RD (h:PE X e te):PO X (some e) (Nu te):=by
 intro pins s U H Q I hw;rw [evalPart_some];refine d7 (h pins s U H _ I hw) fun u s1 qq0=>?_
 obtain ⟨x,H1,I1,r1,q1⟩:=qq0;obtain ⟨i,rfl,q⟩:=q1;obtain ⟨t,rfl⟩:=r1;exact ⟨some i,H1,I1,.int i t,q⟩
def SlR (X:Cx) (r:V->Option Int->Option Int->Hp->VK->Prop):Prop:=
 ∀ (pins:List (Addr×Obj)) (s:Shared) (U:St) (H:Hp) (x:V) (v vl vu:Value) (lo hi:Option Int) (sl:Addr) (Q:VK),Inv X pins U H s->RelV x v->s.heap.IsSliceOf sl vl vu .none->IsPart vl lo->IsPart vu hi->r x lo hi H Q->
  ∃ T id,typeLookup (.type T) "__getitem__"=pure (some (.builtin id))/\s.TypeIs v T/\wpAny (model X.prog X.w) X.A (getItem v (.ref sl)) (EP X pins U Q) X.xe s
theorem SlR.or {r r':V->Option Int->Option Int->Hp->VK->Prop} (h:SlR X r) (h':SlR X r'):SlR X (fun x lo hi H Q=>r x lo hi H Q\/r' x lo hi H Q):=by
 intro pins s U H x v vl vu lo hi sl Q I rx hs pl pu q;rcases q with q | q
 ·exact h pins s U H x v vl vu lo hi sl Q I rx hs pl pu q
 ·exact h' pins s U H x v vl vu lo hi sl Q I rx hs pl pu q
def tSl (r:V->Option Int->Option Int->Hp->VK->Prop) (te:TE) (tl th:TO):TE:=fun U H Q=>te U H fun x H1=>tl U H1 fun l H2=>th U H2 fun u H3=>r x l u H3 Q
theorem Nv {r:V->Option Int->Option Int->Hp->VK->Prop} (hr:SlR X r) (he:PE X e te) (hl:PO X lo tl) (hu:PO X hi th):PE X (.Subscript e (.Slice lo hi none p2) pos) (tSl r te tl th):=by
 intro pins s U H Q I h;refine Subscript_ (d7 (he pins s U H _ I h) fun v s1 qq0=>?_);obtain ⟨x,H1,I1,r1,q1⟩:=qq0;refine wpAny_Slice (d7 (hl pins s1 U H1 _ I1 q1) fun vl s2 ⟨l,H2,I2,pl,q2⟩=>d7 (hu pins s2 U H2 _ I2 q2) fun vu s3 qq0=>?_);obtain ⟨u,H3,I3,pu,q3⟩:=qq0;rw [evalPart_none];refine Aag ?_;have I4:Inv X pins U H3 {s3 with heap:=s3.heap.push {cls:=.type "slice",data:=.fields #[vl,vu,.none]}}:=I3.kept (t':=s3.toks) fun b ob q=>Aae _ q
 obtain ⟨T,id,hT,ht,hg⟩:=hr pins {s3 with heap:=s3.heap.push {cls:=.type "slice",data:=.fields #[vl,vu,.none]}} U H3 x v vl vu l u s3.heap.objs.size Q I4 r1 (Heap.IsSliceOf.new ..) pl pu q3;show wpAny (model X.prog X.w) X.A (subscriptTail e (.Slice lo hi none p2) v (.ref s3.heap.objs.size)) (EP X pins U Q) X.xe {s3 with heap:=s3.heap.push {cls:=.type "slice",data:=.fields #[vl,vu,.none]}};exact tail_any (ops:=[.ref s3.heap.objs.size,v]) ht hT hg (by with_unfolding_all rfl)
def qC (xs:List V) (lo hi:Option Int):List V:=(xs.drop (HT.sIx xs.length 0 lo)).take (HT.sIx xs.length xs.length hi - HT.sIx xs.length 0 lo)
theorem wL (xs:List V) (lo hi:Option Int):(qC xs lo hi).length<=xs.length:=by
 unfold qC;rw [Abs,AbS];omega
def Y6 (K:W.Frag):V->Option Int->Option Int->Hp->VK->Prop:=fun x lo hi H Q=>∃ a xs,x= .ref a/\SqT K H a xs/\
 ¬ (HT.sIx xs.length 0 lo=0/\HT.sIx xs.length xs.length hi=xs.length)/\∀ p,H p=none->Q (.ref p) (upd H p (.tup (qC xs lo hi)))
theorem Wu:SlR X (Y6 X.K):=by
 intro pins s U H x v vl vu lo hi sl Q I rx hs pl pu h;obtain ⟨a,xs,rfl,hx,hw,q⟩:=h;cases rx;obtain ⟨its,r,ht,hz⟩:=I.tuple hx;have hlen:its.toArray.size=xs.length:=by rw [Aax];exact r.length.symm
 refine ⟨"tuple",_,PyProof.Rows.slot_tuple_getitem.lookup,ht.typeIs,?_⟩;refine HT.getItem_tuple_cut ht hs pl pu (by rw [hlen];exact hw) ?_ (by rw [hlen];exact hz);rw [hlen];refine ⟨.ref s.heap.objs.size,_,I.laid (t':=s.toks) (o:=.tup (qC xs lo hi)) (fun b ob q=>Aae _ q) (Aad _) ?_,rfl,q _ (I.hok.fresh (Aad _))⟩;exact ⟨Aay (wL xs lo hi) hz,_,(r.drop (HT.sIx xs.length 0 lo)).take (HT.sIx xs.length xs.length hi - HT.sIx xs.length 0 lo),IsTup.new _ _⟩
end
def Ku (n:Nat) (i:Int):Option Nat:=if 0<=i then (if i < n then some i.toNat else none) else if -(n:Int)<=i then some (i+n).toNat else none
def zE {α:Type} (xs:List α) (i:Int):Option α:=(Ku xs.length i).bind fun j=>xs[j]?
theorem Im {n:Nat} {i:Int} {j:Nat} (h:Ku n i=some j):seqIndex? i n=some j/\j < n/\-(n:Int)<=i/\i < n:=by
 unfold Ku at h;by_cases h0:0<=i
 ·rw [if_pos h0] at h
  by_cases h1:i < n
  ·rw [if_pos h1] at h
   have e:i.toNat=j:=AaE h;exact ⟨by rw [seqIndex_of h0 h1,e],by omega,by omega,h1⟩
  ·rw [if_neg h1] at h;cases h
 ·rw [if_neg h0] at h
  by_cases h1: -(n:Int)<=i
  ·rw [if_pos h1] at h
   have e:(i+n).toNat=j:=AaE h;exact ⟨by rw [seqIndex_neg (by omega) h1,e],by omega,h1,by omega⟩
  ·rw [if_neg h1] at h;cases h
theorem Bx {α:Type} {xs:List α} {i:Int} {v:α} (h:zE xs i=some v):∃ j,seqIndex? i xs.length=some j/\xs[j]?=some v/\j < xs.length/\-(xs.length:Int)<=i/\i < xs.length:=by
 unfold zE at h;cases e:Ku xs.length i with
 | none=>rw [e] at h;cases h
 | some j=>
  rw [e] at h;obtain ⟨h1,h2,h3,h4⟩:=Im e;exact ⟨j,h1,h,h2,h3,h4⟩
theorem jG {α:Type} {xs:List α} {j:Nat} {v:α} (h:xs[j]?=some v):zE xs (j:Int)=some v:=by
 have hj:j < xs.length:=(Aab.mp h).1
 have e:Ku xs.length (j:Int)=some j:=by
  unfold Ku;rw [if_pos (by omega),if_pos (by omega)];simp
 unfold zE;rw [e];exact h
def Io (b:Expr):Prop:=∀ o i,subscripted b false o i=operate [o,i] (getItem o i)
def IxR (X:Cx) (r:R2):Prop:=
 ∀ (value slice:Expr) (pins:List (Addr×Obj)) (s:Shared) (U:St) (H:Hp) (x y:V) (v u:Value) (Q:VK),Inv X pins U H s->RelV x v->RelV y u->r x y H Q->
  subscripted slice false v u=operate [v,u] (getItem v u)->wpAny (model X.prog X.w) X.A (subscriptTail value slice v u) (EP X pins U Q) X.xe s
def Y7 (X:Cx) (id:String) (r:V->List V->Hp->VK->Prop):Prop:=
 ∀ (pins:List (Addr×Obj)) (s:Shared) (U:St) (H:Hp) (x:V) (xs:List V) (v:Value) (us:List Value) (Q:VK),Inv X pins U H s->RelV x v->Vals xs us->r x xs H Q->
  wpAny (model X.prog X.w) X.A (call (.builtin id) (v :: us)) (EP X pins U Q) X.xe s
section
variable {X:Cx} {a b:Expr} {ta tb:TE} {pos:Pos}
theorem IxR.or {r r':R2} (h:IxR X r) (h':IxR X r'):IxR X (fun x y H Q=>r x y H Q\/r' x y H Q):=by
 intro value slice pins s U H x y v u Q I rx ry q hs;rcases q with q | q
 ·exact h value slice pins s U H x y v u Q I rx ry q hs
 ·exact h' value slice pins s U H x y v u Q I rx ry q hs
theorem Y8 {r:R2} (hr:IxR X r) (ha:PE X a ta) (hb:PE X b tb) (hs:Io b):PE X (.Subscript a b pos) (Nf r ta tb):=by
 intro pins s U H Q I h;exact Subscript_ (We ha hb I h fun v u s2 x y H2 I2 rx ry q=>hr a b pins s2 U H2 x y v u Q I2 rx ry q (hs _ _))
def Y9 (K:W.Frag):R2:=fun x y H Q=>∃ p xs i v,x= .ref p/\y= .int i/\SqL K H p xs/\zE xs i=some v/\Q v H
def Za (K:W.Frag):R2:=fun x y H Q=>∃ p xs i v,x= .ref p/\y= .int i/\SqT K H p xs/\zE xs i=some v/\Q v H
def Zb:R2:=fun x y H Q=>∃ z i c,x= .str z/\y= .int i/\z.length<=sizeLine/\zE z.cps.toList i=some c/\Q (.str ⟨#[c]⟩) H
theorem RG:IxR X (Y9 X.K):=by
 intro value slice pins s U H x y v u Q I rx ry h hs;obtain ⟨p,xs,i,z,rfl,rfl,hq,he,q⟩:=h;cases rx;obtain ⟨t,rfl⟩:=ry;obtain ⟨its,r,pl,hz⟩:=I.list hq;obtain ⟨j,h1,h2,h3,h4,h5⟩:=Bx he;obtain ⟨w,ew,rw'⟩:=r.get h2;have hl:=r.length;have hn:=ym;have fin:EP X pins U Q w s:=⟨z,H,I,rw',q⟩;by_cases h0:0<=i
 ·have hj:i.toNat=j:=by
   rw [seqIndex_of h0 h5] at h1;exact AaE h1
  exact item_listR pl.isList h0 (by omega) (by rw [hj];simpa using ew) fin hs
 ·have hj:(i+(its.toArray.size:Int)).toNat=j:=by
   rw [seqIndex_neg (by omega) h4] at h1;rw [Aax,← hl];exact AaE h1
  exact subscriptTail_builtinR (x:=w) pl.isList.typeIs slot_list_getitem.lookup
   (wpAny_getItem_list_neg (Q:=fun r s'=>r=w/\EP X pins U Q r s') pl.isList (by omega) (by rw [Aax] <;> omega) (by omega) (by rw [hj];simpa using ew) ⟨rfl,fin⟩) hs
theorem Wv:IxR X (Za X.K):=by
 intro value slice pins s U H x y v u Q I rx ry h hs;obtain ⟨p,xs,i,z,rfl,rfl,hq,he,q⟩:=h;cases rx;obtain ⟨t,rfl⟩:=ry;obtain ⟨its,r,pl,hz⟩:=I.tuple hq;obtain ⟨j,h1,h2,h3,h4,h5⟩:=Bx he;obtain ⟨w,ew,rw'⟩:=r.get h2;have hl:=r.length;have hn:=ym;have fin:EP X pins U Q w s:=⟨z,H,I,rw',q⟩
 exact subscriptTail_builtinR (x:=w) pl.typeIs slot_tuple_getitem.lookup
  (getItem_tuple (j:=j) (Q:=fun r s'=>r=w/\EP X pins U Q r s') pl (by omega) (by omega) (by rw [Aax,← hl];exact h1) (by simpa using ew) ⟨rfl,fin⟩) hs
theorem Ww:IxR X Zb:=by
 intro value slice pins s U H x y v u Q I rx ry h hs;obtain ⟨z,i,c,rfl,rfl,hz,he,q⟩:=h;obtain ⟨t,rfl⟩:=rx;obtain ⟨t',rfl⟩:=ry;obtain ⟨j,h1,h2,h3,h4,h5⟩:=Bx he;have hl:z.cps.toList.length=z.length:=by simp [Str.length]
 rw [hl] at h1 h4 h5;have hn:=ym
 exact tail_any (typeIs_str s z t) slot_str_getitem.lookup (getItem_str (c:=c) (by
  have e1:decide (i < -(2 ^ 63:Int))=false:=Aao (by omega);have e2:decide (i>=2 ^ 63)=false:=Aao (by omega);rw [e1,e2,Bool.or_false]) (by rw [h1];simpa using h2) ⟨.str ⟨#[c]⟩,H,I.tok _,⟨_,rfl⟩,q⟩) hs
def UV (K:W.Frag):R2:=fun x y H Q=>Y9 K x y H Q\/Za K x y H Q\/Zb x y H Q
theorem Wx:IxR X (UV X.K):=RG.or (Wv.or Ww)
theorem GX (its:List Value) (n j:Nat) (u:Value):Obj.mapSeq (·.setIfInBounds j u) {cls:=.type "list",data:=.seq its.toArray n}={cls:=.type "list",data:=.seq (its.set j u).toArray n}:=by
 simp [Obj.mapSeq]
theorem Inv.lst {pins:List (Addr×Obj)} {U:St} {H:Hp} {s:Shared} {p:Addr} {xs:List V} (I:Inv X pins U H s) (h:H p=some (.lst xs)):
  ∃ (its:List Value) (n:Nat),Vals xs its/\s.heap.get? p=some {cls:=.type "list",data:=.seq its.toArray n}/\xs.length<=sizeLine:=by
 obtain ⟨z,its,n,r,e⟩:=I.hok p _ h;exact ⟨its,n,r,e,z⟩
theorem Inv.lstUpd {pins:List (Addr×Obj)} {U:St} {H:Hp} {s:Shared} {p:Addr} {xs ys:List V} {its its':List Value} {n n':Nat} {f:Obj->Obj} (I:Inv X pins U H s) (h:H p=some (.lst xs))
  (ho:s.heap.get? p=some {cls:=.type "list",data:=.seq its.toArray n}) (hf:f {cls:=.type "list",data:=.seq its.toArray n}={cls:=.type "list",data:=.seq its'.toArray n'}) (r:Vals ys its') (hz:ys.length<=sizeLine) (t:Nat):
  Inv X pins U (upd H p (.lst ys)) {s with heap:=s.heap.update p f,toks:=t}:=by
 have e:(s.heap.update p f).get? p=some {cls:=.type "list",data:=.seq its'.toArray n'}:=by
  rw [Aa3 f ho (by rw [hf] <;> rfl),hf]
 refine I.write (x:=p) (e:=p) (by rw [h];trivial) (.inl rfl) (fun b u hb q=>(AaQ _ _ (Ne.symm hb)).trans q) ⟨_,e⟩ ?_;exact ⟨hz,its',n',r,e⟩
def Ip:V->V->V->Hp->(Hp->Prop)->Prop:=fun o i v H Q=>∃ p xs k j,o= .ref p/\i= .int k/\H p=some (.lst xs)/\Ku xs.length k=some j/\Q (upd H p (.lst (xs.set j v)))
theorem set_list:Rn X Ip:=by
 intro pins s U H o i v ov iv u Q I ro ri rv h;obtain ⟨p,xs,k,j,rfl,rfl,hp,hj,q⟩:=h;cases ro;obtain ⟨t,rfl⟩:=ri;obtain ⟨its,n,r,ho,hz⟩:=I.lst hp;obtain ⟨h1,h2,h3,h4⟩:=Im hj;have hl:=r.length;have hn:=ym
 have I':Inv X pins U (upd H p (.lst (xs.set j v))) {s with heap:=s.heap.update p (Obj.mapSeq (·.setIfInBounds j u))}:=
  I.lstUpd hp ho (GX its n j u) (r.set rv j) (by rw [AbZ];exact hz) s.toks
 by_cases h0:0<=k
 ·have hk:k.toNat=j:=by
   rw [seqIndex_of h0 h4] at h1;exact AaE h1
  exact PySem.W.ki_setAt ho h0 (by omega) (by rw [Aax,← hl];exact h4) (by rw [hk];exact ⟨_,I',q⟩)
 ·have hk:(k+(its.toArray.size:Int)).toNat=j:=by
   rw [seqIndex_neg (by omega) h3] at h1;rw [Aax,← hl];exact AaE h1
  exact PySem.W.ki_setBack ho (by omega) (by rw [Aax,← hl];exact h3) (by omega) (by rw [hk];exact ⟨_,I',q⟩)
theorem By (lo hi:Option Int) (n:Nat):(sliceBounds lo hi none n).1=((HT.sIx n 0 lo:Nat):Int)/\(sliceBounds lo hi none n).2.1=((HT.sIx n n hi:Nat):Int)/\(sliceBounds lo hi none n).2.2=1:=by
 refine ⟨?_,?_,rfl⟩
 ·cases lo with
  | none=>simp [sliceBounds,HT.sIx]
  | some i=>
   simp only [sliceBounds,HT.sIx,Option.getD_none,show (1:Int) > 0 by decide,if_true];by_cases h:i < 0
   ·simp only [h,if_true] <;> omega
   ·simp only [h,if_false] <;> omega
 ·cases hi with
  | none=>simp [sliceBounds,HT.sIx]
  | some i=>
   simp only [sliceBounds,HT.sIx,Option.getD_none,show (1:Int) > 0 by decide,if_true];by_cases h:i < 0
   ·simp only [h,if_true] <;> omega
   ·simp only [h,if_false] <;> omega
theorem zJ (its:List Value) (lo hi:Option Int):slicePick its.toArray lo hi none=((its.drop (HT.sIx its.length 0 lo)).take (HT.sIx its.length its.length hi - HT.sIx its.length 0 lo)).toArray:=by
 obtain ⟨h1,h2,h3⟩:=By lo hi its.toArray.size;unfold slicePick;rw [h1,h2,h3];simp only [sliceRange_one,pick_run,Aax] <;> rfl
def Zc (K:W.Frag):V->Option Int->Option Int->Hp->VK->Prop:=fun x lo hi H Q=>∃ a xs,x= .ref a/\SqL K H a xs/\∀ p,H p=none->Q (.ref p) (upd H p (.lst (qC xs lo hi)))
theorem RJ:SlR X (Zc X.K):=by
 intro pins s U H x v vl vu lo hi sl Q I rx hs pl pu h;obtain ⟨a,xs,rfl,hx,q⟩:=h;cases rx;obtain ⟨its,r,ht,hz⟩:=I.list hx;have hlen:=r.length;refine ⟨"list",_,slot_list_getitem.lookup,ht.isList.typeIs,?_⟩;refine wpAny_getItem_list_slice ht.isList hs pl pu .none (by simp) ?_ (by rw [Aax] <;> omega);rw [zJ,← hlen];refine ⟨.ref s.heap.objs.size,_,I.laid (t':=s.toks) (o:=.lst (qC xs lo hi)) (fun b ob q=>Aae _ q) (Aad _) ?_,rfl,q _ (I.hok.fresh (Aad _))⟩;exact ⟨Aay (wL xs lo hi) hz,_,0,(r.drop (HT.sIx xs.length 0 lo)).take (HT.sIx xs.length xs.length hi - HT.sIx xs.length 0 lo),Aaq _ rfl⟩
def oY:V->Bool
 | .non=>true
 | .bl _=>true
 | .int _=>true
 | .str _=>true
 | _=>false
def Ir:V->V->Bool
 | .non,.non=>true
 | .bl a,.bl b=>a == b
 | .bl a,.int b=>(if a then 1 else 0) == b
 | .int a,.bl b=>a == (if b then 1 else 0)
 | .int a,.int b=>a == b
 | .str a,.str b=>a == b
 | _,_=>false
theorem BJ {A:Around} {s:Shared} {y x:V} {u v:Value} (ry:RelV y u) (rx:RelV x v) (fy:oY y=true) (fx:oY x=true):SeqAt.EqAt A s u v (Ir y x):=by
 cases y with
 | non=>
  cases ry;cases x with
  | non=>cases rx;exact SeqAt.EqAt.same _
  | bl b=>cases rx;exact SeqAt.EqAt.none_bool b
  | int b=>obtain ⟨t,rfl⟩:=rx;exact SeqAt.EqAt.none_int b t
  | str b=>obtain ⟨t,rfl⟩:=rx;exact SeqAt.EqAt.none_str b t
  | _=>exact absurd (show false=true from fx) Aak
 | bl a=>
  cases ry;cases x with
  | non=>cases rx;exact SeqAt.EqAt.bool_none a
  | bl b=>cases rx;exact SeqAt.EqAt.bool_bool a b
  | int b=>obtain ⟨t,rfl⟩:=rx;exact SeqAt.EqAt.bool_int a b t
  | str b=>obtain ⟨t,rfl⟩:=rx;exact SeqAt.EqAt.bool_str a b t
  | _=>exact absurd (show false=true from fx) Aak
 | int a=>
  obtain ⟨t',rfl⟩:=ry;cases x with
  | non=>cases rx;exact SeqAt.EqAt.int_none a t'
  | bl b=>cases rx;exact SeqAt.EqAt.int_bool a t' b
  | int b=>obtain ⟨t,rfl⟩:=rx;exact SeqAt.EqAt.int_int a t' b t
  | str b=>obtain ⟨t,rfl⟩:=rx;exact SeqAt.EqAt.int_str a t' b t
  | _=>exact absurd (show false=true from fx) Aak
 | str a=>
  obtain ⟨t',rfl⟩:=ry;cases x with
  | non=>cases rx;exact SeqAt.EqAt.str_none a t'
  | bl b=>cases rx;exact SeqAt.EqAt.str_bool a t' b
  | int b=>obtain ⟨t,rfl⟩:=rx;exact SeqAt.EqAt.str_int a t' b t
  | str b=>obtain ⟨t,rfl⟩:=rx;exact SeqAt.EqAt.str_str a t' b t
  | _=>exact absurd (show false=true from fx) Aak
 | _=>exact absurd (show false=true from fy) Aak
def GZ (x:V) (u:Value):Bool:=match u with
 | .none=>Ir .non x
 | .bool b=>Ir (.bl b) x
 | .int i _=>Ir (.int i) x
 | .str z _=>Ir (.str z) x
 | _=>false
theorem Nx {x y:V} {u:Value} (r:RelV y u) (f:oY y=true):GZ x u=Ir y x:=by
 cases y with
 | non=>cases r;rfl
 | bl b=>cases r;rfl
 | int i=>obtain ⟨t,rfl⟩:=r;rfl
 | str z=>obtain ⟨t,rfl⟩:=r;rfl
 | _=>exact absurd (show false=true from f) Aak
theorem uO {x:V}:∀ {xs:List V} {us:List Value},Vals xs us->xs.all oY=true->us.any (GZ x)=xs.any fun y=>Ir y x
 | _,_,.nil,_=>rfl
 | y :: xs,u :: us,.cons r t,f=>by
  rw [AaX,Aav] at f;rw [List.any_cons,List.any_cons,Nx r f.1,uO t f.2]
theorem qD {A:Around} {s:Shared} {x:V} {v:Value} (rx:RelV x v) (fx:oY x=true):∀ {xs:List V} {us:List Value},Vals xs us->xs.all oY=true->∀ u∈us,SeqAt.EqAt A s u v (GZ x u)
 | _,_,.nil,_=>fun u hu=>by cases hu
 | y :: xs,u :: us,.cons r t,f=>fun u' hu=>by
  rw [AaX,Aav] at f;rcases Aaj.mp hu with rfl | hu
  ·rw [Nx r f.1];exact BJ r rx f.1 fx
  ·exact qD rx fx t f.2 u' hu
def inV (x:V) (xs:List V):Bool:=xs.any fun y=>Ir y x
def rIn (K:W.Frag) (neg:Bool):R2:=fun x y H Q=>∃ p xs,y= .ref p/\(SqL K H p xs\/SqT K H p xs)/\oY x=true/\xs.all oY=true/\Q (.bl (if neg then !inV x xs else inV x xs)) H
theorem Kv:OpR X (compareOp .In) (rIn X.K false):=by
 intro pins s U H x y v u Q I rx ry h;obtain ⟨p,xs,rfl,hq,fx,fs,q⟩:=h;cases ry;rcases hq with hq | hq
 ·obtain ⟨its,r,pl,hz⟩:=I.list hq
  refine SeqAt.in_listAt (GZ x) pl.isList (fun w hw=>qD rx fx r fs w (by simpa using hw)) ⟨.bl _,H,I,rfl,?_⟩;rw [show its.toArray.any (GZ x)=its.any (GZ x) by simp,uO r fs];exact q
 ·obtain ⟨its,r,pl,hz⟩:=I.tuple hq
  refine SeqAt.in_tupleAt (GZ x) pl (fun w hw=>qD rx fx r fs w (by simpa using hw)) ⟨.bl _,H,I,rfl,?_⟩;rw [show its.toArray.any (GZ x)=its.any (GZ x) by simp,uO r fs];exact q
theorem BK:OpR X (compareOp .NotIn) (rIn X.K true):=by
 intro pins s U H x y v u Q I rx ry h;obtain ⟨p,xs,rfl,hq,fx,fs,q⟩:=h;cases ry;rcases hq with hq | hq
 ·obtain ⟨its,r,pl,hz⟩:=I.list hq
  refine SeqAt.notIn_listAt (GZ x) pl.isList (fun w hw=>qD rx fx r fs w (by simpa using hw)) ⟨.bl _,H,I,rfl,?_⟩;rw [show its.toArray.any (GZ x)=its.any (GZ x) by simp,uO r fs];exact q
 ·obtain ⟨its,r,pl,hz⟩:=I.tuple hq
  refine SeqAt.notIn_tupleAt (GZ x) pl (fun w hw=>qD rx fx r fs w (by simpa using hw)) ⟨.bl _,H,I,rfl,?_⟩;rw [show its.toArray.any (GZ x)=its.any (GZ x) by simp,uO r fs];exact q
theorem BL:OpR X (compareOp .NotIn) (fun x y H Q=>∃ i j,x= .str i/\y= .str j/\Q (.bl (!(!(Builtin.Str.occurrences j i 0 j.length 1).isEmpty))) H):=by
 intro pins s U H x y v u Q I rx ry h;obtain ⟨i,j,rfl,rfl,q⟩:=h;obtain ⟨t,rfl⟩:=rx;obtain ⟨t',rfl⟩:=ry;exact notIn_str ⟨.bl _,H,I,rfl,q⟩
theorem CallR.or {f:Value} {r r':List V->Hp->VK->Prop} (h:CallR X f r) (h':CallR X f r'):CallR X f (fun xs H Q=>r xs H Q\/r' xs H Q):=by
 intro pins s U H xs us Q I rs q;rcases q with q | q
 ·exact h pins s U H xs us Q I rs q
 ·exact h' pins s U H xs us Q I rs q
theorem BP:CallR X (.type "list") (fun xs H Q=>∃ p ys,xs=[.ref p]/\(SqL X.K H p ys\/SqT X.K H p ys)/\∀ l,H l=none->Q (.ref l) (upd H l (.lst ys))):=by
 intro pins s U H xs us Q I r h;obtain ⟨p,ys,rfl,hq,q⟩:=h;obtain ⟨u,rfl,rx⟩:=vals1 r;cases rx
 have fin:∀ (its:List Value),Vals ys its->ys.length<=sizeLine->∀ (h':Heap) (c':Nat),(∀ b o',s.heap.get? b=some o'->h'.get? b=some o')->
   h'.get? s.heap.objs.size=some {cls:=.type "list",dict:=none,data:=.seq its.toArray c',slots:=#[]}->EP X pins U Q (.ref s.heap.objs.size) {s with heap:=h'}:=fun its r' hz h' c' kp e=>
  ⟨.ref s.heap.objs.size,_,I.laid (t':=s.toks) kp (Aad _) (show ObjOk X.prog X.w _ h' _ (.lst ys) from ⟨hz,its,c',r',e⟩),rfl,q _ (I.hok.fresh (Aad _))⟩
 rcases hq with hq | hq
 ·obtain ⟨its,r',pl,hz⟩:=I.list hq
  have hlen:=r'.length;obtain ⟨o,ho,hc,n,hd⟩:=pl.isList;exact call_list_seq p (.inl rfl) ho hc hd (fun h' c' kp e=>fin its r' hz h' c' kp e) (by simp only [Aax] <;> omega)
 ·obtain ⟨its,r',pl,hz⟩:=I.tuple hq
  have hlen:=r'.length;obtain ⟨o,ho,hc,n,hd⟩:=pl;exact call_list_seq p (.inr rfl) ho hc hd (fun h' c' kp e=>fin its r' hz h' c' kp e) (by simp only [Aax] <;> omega)
def tyV (K:W.Frag) (T:String) (x:V) (H:Hp):Prop:=match x with
 | .str _=>T="str"
 | .int _=>T="int"
 | .ref p=>(T="list"/\∃ xs,SqL K H p xs)\/(T="tuple"/\∃ o,K.lookup p=some o/\o.cls= .type "tuple"/\o.dict=none)\/
   (T="dict"/\((∃ kvs,H p=some (.dK kvs))\/∃ kvs,H p=some (.dT kvs)))\/(T="set"/\∃ S n,H p=some (.set S n))
 | _=>False
theorem Wy {pins:List (Addr×Obj)} {U:St} {H:Hp} {s:Shared} {T:String} {x:V} {v:Value} (I:Inv X pins U H s) (r:RelV x v) (ty:tyV X.K T x H):
  s.TypeIs v T/\∀ a,v= .ref a->∃ ob,s.heap.get? a=some ob/\ob.dict=none:=by
 cases x with
 | str z=>
  obtain ⟨t,rfl⟩:=r;cases (show T="str" from ty);exact ⟨typeIs_str s z t,fun _ e=>nomatch e⟩
 | int i=>
  obtain ⟨t,rfl⟩:=r;cases (show T="int" from ty);exact ⟨typeIs_int s i t,fun _ e=>nomatch e⟩
 | ref p=>
  cases r;rcases ty with ⟨rfl,xs,hq⟩ | ⟨rfl,o,hk,hc,hd⟩ | ⟨rfl,hk⟩ | ⟨rfl,S,n,hk⟩
  ·obtain ⟨its,_,pl,_⟩:=I.list hq
   refine ⟨pl.isList.typeIs,fun a e=>?_⟩;cases e;obtain ⟨o,n,e,c,hd,_⟩:=pl;exact ⟨o,e,hd⟩
  ·refine ⟨⟨o,I.kIn p o hk,hc⟩,fun a e=>?_⟩
   cases e;exact ⟨o,I.kIn _ o hk,hd⟩
  ·have z:∃ o,s.heap.get? p=some o/\o.ExactDict:=by
    rcases hk with ⟨kvs,hk⟩ | ⟨kvs,hk⟩
    ·obtain ⟨_,_,_,_,o,_,_,e,ex,_⟩:=I.hok p _ hk
     exact ⟨o,e,ex⟩
    ·obtain ⟨_,_,_,_,o,_,_,e,ex,_⟩:=I.hok p _ hk
     exact ⟨o,e,ex⟩
   obtain ⟨o,e,ex⟩:=z;refine ⟨⟨o,e,ex.1⟩,fun a e2=>?_⟩;cases e2;exact ⟨o,e,ex.2.1⟩
  ·obtain ⟨o,_,_,_,e,ex,_⟩:=I.hok p _ hk
   refine ⟨⟨o,e,ex.1⟩,fun a e2=>?_⟩;cases e2;exact ⟨o,e,ex.2.1⟩
 | _=>exact False.elim ty
def Zd (K:W.Frag) (T:String) (r:V->List V->Hp->VK->Prop) (to:TE) (t:TA):TE:=fun U H Q=>to U H fun x H1=>tyV K T x H1/\t U H1 fun xs H2=>r x xs H2 Q
variable {o e:Expr} {es:List Expr} {to:TE} {t:TA} {name:Str} {apos cpos:Pos} {T id:String} {r:V->List V->Hp->VK->Prop}
theorem Ze (pa:PlainAttrs T) (slot:Slot T name id) (hty:typeOf (.builtin id)=pure (.type "method_descriptor")) (hm:Y7 X id r) (ho:PE X o to) (ha:PA X (e :: es) t)
  (hbase:autoParam (attributeBase o name X.env (eval o X.env)=eval o X.env) L2.auto4._auto_1)
  (hfew:((backTo cpos (starEach (e :: es) X.env)).all (fun x=>!x.1) && (backToKw cpos (keywordEach [] X.env)).all (fun x=>x.1.isSome)
   && decide ((e :: es).length+([]:List Keyword).length+(if ([]:List Keyword).isEmpty then 0 else 1) < 30))=true:=by rfl)
  (hline:autoParam ((apos.endLine == cpos.line)=true) L2.auto4._auto_1) (hs:autoParam (starEach (e :: es) X.env=(false,eval e X.env) :: starEach es X.env) L2.auto4._auto_1) (hplain:autoParam ((backTo cpos (starEach es X.env)).any (·.1)=false) L2.auto4._auto_1):
  PE X (.Call (.Attribute o name apos) (e :: es) [] cpos) (Zd X.K T r to t):=by
 intro pins s U H Q I h;refine wpAny_Call_method_late hbase hfew hline rfl (d7 (ho pins s U H _ I h) fun v s1 qq0=>?_);obtain ⟨x,H1,I1,r1,ty,q1⟩:=qq0;obtain ⟨h1,h2⟩:=Wy I1 r1 ty;refine ⟨T,id,pa,slot,hty,h1,h2,?_⟩;have hA:=ha cpos pins s1 U H1 _ I1 q1;rw [hs] at hA ⊢;refine Calls.callWith_builtin (by show (false || (backTo cpos (starEach es X.env)).any (·.1))=false;rw [hplain] <;> rfl) (Calls.evalArgs_plain ?_);exact d7 hA fun us s2 ⟨vs,H2,I2,r2,q2⟩=>hm pins s2 U H2 x vs v us Q I2 r1 r2 q2
end
def MtM (X:Cx) (id:String) (r:V->List V->Hp->VK->Prop):Prop:=
 ∀ (pins:List (Addr×Obj)) (s:Shared) (U:St) (H:Hp) (x:V) (xs:List V) (v:Value) (us:List Value) (Q:VK),Inv X pins U H s->RelV x v->Vals xs us->r x xs H Q->
  wpAny (model X.prog X.w) X.A (call (.builtin id) (v :: us)) (EP X pins U Q) X.xe s
theorem Vals.one:∀ {x:V} {us:List Value},Vals [x] us->∃ u,us=[u]/\RelV x u
 | _,_,.cons r .nil=>⟨_,rfl,r⟩
theorem Vals.reverse {xs:List V} {us:List Value} (h:Vals xs us):Vals xs.reverse us.reverse:=by
 induction h with
 | nil=>exact .nil
 | cons r t ih=>rw [List.reverse_cons,List.reverse_cons];exact Vals.append ih (.cons r .nil)
theorem Vals.rep {xs:List V} {us:List Value} (h:Vals xs us):∀ k:Nat,Vals (List.replicate k xs).flatten (List.replicate k us).flatten
 | 0=>.nil
 | k+1=>by
  rw [Abm,Abm,Ab5,Ab5];exact Vals.append h (Vals.rep h k)
theorem foldl_rep (its:List Value):∀ (k:Nat) (acc:List Value),
  List.foldl (fun x1 x2=>x1 ++ x2) acc.toArray (List.replicate k its.toArray)=(acc ++ (List.replicate k its).flatten).toArray
 | 0,acc=>by simp
 | k+1,acc=>by
  have e:acc.toArray ++ its.toArray=(acc ++ its).toArray:=by simp
  have e2:(acc ++ its) ++ (List.replicate k its).flatten=acc ++ (List.replicate (k+1) its).flatten:=by
   rw [Abm,Ab5,Abl]
  rw [← e2,← foldl_rep its k (acc ++ its),← e,Abm,List.foldl_cons]
section
variable {X:Cx} {pins:List (Addr×Obj)} {U:St} {H:Hp} {s:Shared} {l b:Addr} {xs ys zs:List V}
theorem Inv.lset {its its':List Value} {n:Nat} {f:Array Value->Array Value} {t':Nat} (I:Inv X pins U H s) (hH:H l=some (.lst xs))
  (e:s.heap.get? l=some {cls:=.type "list",data:=.seq its.toArray n}) (hf:f its.toArray=its'.toArray) (hv:Vals ys its') (hz:ys.length<=sizeLine):
  Inv X pins U (upd H l (.lst ys)) {s with heap:=s.heap.update l (Obj.mapSeq f),toks:=t'}:=by
 have q:=PySem.IsL.update e f;rw [hf] at q;refine I.write (x:=l) (e:=l) (by rw [hH];exact trivial) (.inl rfl) (fun b' u hb hu=>(AaQ s.heap (Obj.mapSeq f) (Ne.symm hb)).trans hu) ⟨_,q⟩ ?_;exact ⟨hz,its',_,hv,q⟩
theorem Inv.lnew {its:List Value} {t':Nat} (I:Inv X pins U H s) (hv:Vals ys its) (hz:ys.length<=sizeLine):
  Inv X pins U (upd H s.heap.objs.size (.lst ys)) {s with heap:=s.heap.push {cls:=.type "list",data:=.seq its.toArray},toks:=t'}:=
 I.laid (fun _ _ q=>Aae _ q) (Aad _) ⟨hz,its,0,hv,Aaq _ rfl⟩
theorem Inv.fresh (I:Inv X pins U H s):H s.heap.objs.size=none:=I.hok.fresh (Aad _)
theorem Inv.lstM (I:Inv X pins U H s) (hH:H l=some (.lst xs)):xs.length<=sizeLine/\∃ (its:List Value) (n:Nat),Vals xs its/\xs.length=its.length/\s.heap.get? l=some {cls:=.type "list",data:=.seq its.toArray n}:=by
 obtain ⟨z,its,n,r,e⟩:=I.hok l _ hH;exact ⟨z,its,n,r,r.length,e⟩
theorem Ny {n:Nat} (h:n<=sizeLine):Builtin.List.listTooLong n=false:=by
 unfold Builtin.List.listTooLong;exact Aao (by omega)
end
section
variable {X:Cx}
def Iu:V->List V->Hp->VK->Prop:=fun x vs H Q=>∃ l xs y,x= .ref l/\vs=[y]/\H l=some (.lst xs)/\xs.length < sizeLine/\Q .non (upd H l (.lst (xs ++ [y])))
theorem dF:MtM X "list.append" Iu:=by
 intro pins s U H x vs v us Q I rx rv h;obtain ⟨l,xs,y,rfl,rfl,hH,hz,q⟩:=h;cases rx;obtain ⟨u,rfl,ru⟩:=rv.one;obtain ⟨z,its,n,r,hl,e⟩:=I.lstM hH;refine call_meets F.slot_list_append ⟨_,e,rfl⟩ F.entry_list_append (F.args_list_append_2 _ _) (PySem.list_append l its.toArray n u (by rw [Aax];omega)) ⟨e,?_⟩;refine ⟨.non,_,I.lset (its':=its ++ [u]) hH e (by simp) (r.append (.cons ru .nil)) ?_,rfl,q⟩;rw [AaR,List.length_singleton];omega
def Zf:R2:=fun x y H Q=>∃ l b xs zs,x= .ref l/\y= .ref b/\H l=some (.lst xs)/\H b=some (.lst zs)/\xs.length+zs.length<=sizeLine/\∀ p,H p=none->Q (.ref p) (upd H p (.lst (xs ++ zs)))
theorem Wz:OpR X (binaryOp .Add) Zf:=by
 intro pins s U H x y v u Q I rx ry h;obtain ⟨l,b,xs,zs,rfl,rfl,hH,hB,hz,q⟩:=h;cases rx;cases ry;obtain ⟨z,its,n,r,hl,e⟩:=I.lstM hH;obtain ⟨z2,its2,n2,r2,hl2,e2⟩:=I.lstM hB;refine PySem.P.add_list e e2 ?_ (by rw [Aax,Aax];omega);have ea:its.toArray ++ its2.toArray=(its ++ its2).toArray:=by simp
 rw [ea];exact ⟨.ref _,_,I.lnew (t':=s.toks) (r.append r2) (by rw [AaR];omega),rfl,q _ I.fresh⟩
def Zg:R2:=fun x y H Q=>∃ l k xs,x= .ref l/\y= .int k/\H l=some (.lst xs)/\-(2 ^ 63)<=k/\k < 2 ^ 63/\xs.length*k.toNat<=sizeLine/\
 ∀ p,H p=none->Q (.ref p) (upd H p (.lst (List.replicate k.toNat xs).flatten))
theorem len_rep {α:Type} (xs:List α) (k:Nat):(List.replicate k xs).flatten.length=k*xs.length:=by
 induction k with
 | zero=>simp
 | succ k ih=>rw [Abm,Ab5,AaR,ih,Nat.succ_mul,Nat.add_comm]
theorem WD:OpR X (binaryOp .Mult) Zg:=by
 intro pins s U H x y v u Q I rx ry h;obtain ⟨l,k,xs,rfl,rfl,hH,h1,h2,hz,q⟩:=h;cases rx;obtain ⟨t,rfl⟩:=ry;obtain ⟨z,its,n,r,hl,e⟩:=I.lstM hH;have hlen:its.toArray.size*k.toNat<=sizeLine:=by rw [Aax,← hl];exact hz
 have hcap:¬ its.toArray.size*k.toNat > (2 ^ 63 - 1) / 8:=by
  have:(sizeLine:Nat)<=(2 ^ 63 - 1) / 8:=by decide
  omega
 have hfit:¬ (!Builtin.List.listFitsIndex k)=true:=by
  rw [fitsIndex_both h1 h2];exact Aak
 have hlong:¬ Builtin.List.listTooLong (its.toArray.size*k.toNat)=true:=by
  rw [Ny hlen];exact Aak
 have hnew:List.foldl (fun x1 x2=>x1 ++ x2) #[] (List.replicate (if its.toArray.isEmpty=true then 0 else k.toNat) its.toArray)=(List.replicate k.toNat its).flatten.toArray:=by
  have f0:∀ m:Nat,List.foldl (fun x1 x2=>x1 ++ x2) #[] (List.replicate m its.toArray)=(List.replicate m its).flatten.toArray:=fun m=>by
   have:=foldl_rep its m [];rw [List.nil_append] at this;exact this
  rw [f0];cases its with
  | nil=>simp
  | cons a r'=>rw [if_neg (by simp)]
 refine wpAny_binaryOp_repeat_ref (T:="list") (U:="int") (by decide) ⟨_,e,rfl⟩ (fun s'=>typeIs_int s' k t) noFill_list_mul F.fills_int_mul F.slot_int_rmul repeat_list F.slot_int_index.lookup
  (call_meets F.slot_int_rmul (typeIs_int s k t) F.entry_int_rmul (F.args_int_rmul_2 _ _) (int___rmul___int_list k t l its.toArray n)
   ⟨e,rfl,⟨_,e,rfl⟩,call_meets F.slot_list_mul ⟨_,e,rfl⟩ F.entry_list_mul (F.args_list_mul_2 _ _) (AutoListH.list___mul___list_int_3 l its.toArray n k t hfit hcap hlong) ⟨e,?_⟩⟩)
 rw [hnew];exact ⟨.ref _,_,I.lnew (t':=s.toks) (r.rep k.toNat) (by rw [len_rep,Nat.mul_comm];exact hz),rfl,q _ I.fresh⟩
end
end L2
namespace Att
open PySem PySem.W PySem.Calls PyProof.Rows
theorem xm {P:Params} {h:Heap}:∀ (ns:List Int) (vs:List Value),WellAll P h vs (ns.map WData.int)->IntsAre vs ns:=by
 intro ns
 induction ns with
 | nil=>
  intro vs w;rw [List.map_nil] at w;cases w;exact .nil
 | cons n ns ih=>
  intro vs w;rw [AaW] at w;cases w with
  | cons a b=>
   cases a;exact .cons _ _ (ih _ b)
theorem Kw {l:OpenLaw} {n:Nat} (hn:l.most=some n) {P:Params} {h:Heap} {args:List WData} {vals:List Value}
  (hpre:l.row.toRowW.claim.pre args=true) (hwl:WellAll P h vals args):
  ∃ a vs ns,vals=[Value.ref a]/\args=[WData.list (ns.map WData.int)]/\h.get? a=some {cls:=.type "list",data:=.seq vs.toArray}/\IntsAre vs ns/\ns.length<=n:=by
 have hsh:WShape.hasAll [] args [.list .int]=true:=(pre_splitW hpre).1;have hc:l.pre.holds [] {args:=args}=true:=(pre_splitW hpre).2;obtain ⟨d,r,rfl,h1,h2⟩:=hasAllW_cons hsh;obtain rfl:=hasAllW_nil h2;obtain ⟨xs,rfl,h3⟩:=hasW_list h1;obtain ⟨ns,rfl⟩:=items_int h3
 have hlen:ns.length<=n:=by
  unfold OpenLaw.pre at hc
  have h4:(WTm.not (.lt (.lit (.int (n:Int))) (.len (.arg 0)))).holds [] {args:=[.list (ns.map .int)]}=true:=by
   have h4:=(holds_andW hc).1;rw [hn] at h4;exact h4
  have h5:=condW_of h4 (w_not (w_lt w_lit (w_len_list (w_arg rfl))));rw [Aaf] at h5;refine Nat.le_of_not_lt fun q=>?_
  have q':(n:Int) < ((ns.length:Nat):Int):=by omega
  first
   | (rw [Aar q'] at h5;exact absurd h5 (by decide))
   | (simp at h5;omega)
 cases hwl with
 | cons w1 w2=>
  cases w2;cases w1 with
  | list ho hall=>exact ⟨_,_,ns,rfl,rfl,ho,xm ns _ hall,hlen⟩
theorem Ky (l:OpenLaw) (args:List WData):l.row.toRowW.claim.post args (.bool true) args=true:=
 postW_of (r:=l.row.toRowW) (X:=(true == true))
  (show WShape.has [] (.bool true) .bool=true by first | rfl | decide | simp [WShape.has,WShape.arms,WShape.armsAll])
  (show (WTm.eq .res (.lit (.bool true))).value [] {args:=args,res:=some (.bool true),after:=args}=some (.bool (true == true)) from w_eq_bool (w_res rfl) w_lit) rfl
theorem attach_call {l:OpenLaw} {n:Nat} {q:Program} {loose:List Str} {XP:(Str->Option Value)->Heap->Prop} {YP:World->Heap->Prop} {d:DefRec}
  (hn:l.most=some n) (hdf:d.params.defaults=[])
  (call:∀ (w:World) (s₀ s₁:Shared) (mg mb:Str->Option Value) (fa:Addr) (o:Obj) (pm cd doc:Value) (a:Addr) (vs:List Value) (ns:List Int),
   Ground q loose [] XP w s₀ mg mb s₁.heap->YP w s₁.heap->
   s₁.heap.get? fa=some o->o.data= .func (docDef d.name d.params d.body d.scope pm cd doc)->s₁.heap.CodeRec cd d.name->mg d.name=some (.ref fa)->
   s₁.heap.get? a=some {cls:=.type "list",data:=.seq vs.toArray}->IntsAre vs ns->ns.length<=n->s₁.gens= #[]->
   codeAny (model l.prog w) callerA (.call (.ref fa) ⟨[.ref a],[]⟩) (fun r s'=>r= .ok (.ret (.bool true))/\OldK s₁.heap s'.heap/\s'.os=s₁.os/\AllBare s'.gens) s₁):
  WalkO q loose XP YP l.row.toRowW d [] (fun f vs=>PySem.call f vs):=by
 intro w s₀ s₁ mg mb G Y fa o pm cd doc dV kV ho hd hcd hD hmg hg args vals as hpre hlay hrd hwl hlo;obtain rfl:dV= .none:=Dflts.none hD hdf;obtain rfl:kV= .none:=Dflts.noKw hD;obtain ⟨a,vs,ns,rfl,rfl,hobj,hints,hlen⟩:=Kw hn hpre hwl;refine enter_call (codeAny_mono (call w s₀ s₁ mg mb fa o pm cd doc a vs ns G Y ho (fd_plain hd) hcd hmg hobj hints hlen hg) fun r s' hq=>?_);obtain ⟨rfl,h2,h3,h4⟩:=hq;exact ⟨.inl ⟨.bool true,.bool true,[],rfl,fun _=>rfl,.bool true,Ky l _,fun _=>⟨List.Pairwise.nil,fun _ hm=>(nomatch hm)⟩⟩,h2,h3,h4⟩
end Att
namespace L2
open PySem PySem.Spec PyProof.Rows
theorem Am:∀ {vs:List Value} {ns:List Int},IntsAre vs ns->Vals (ns.map V.int) vs
 | _,_,.nil=>.nil
 | _,_,.cons n t h=>.cons ⟨t,rfl⟩ (Am h)
def Only (H:Hp):Prop:=∀ b,H b=none\/∃ o xs,H b=some (.frz o (.lst xs))
theorem Nz {P:Program} {w:World} {K:W.Frag} {mg mb:Str->Option Value} {CX:Kq} {k:Nat} {fa a:Addr} {fd:FuncData} {x:Str} {sp:Sp} {s₁:Shared} {vs:List Value} {ns:List Int}
  (KX:K.In s₁.heap) (hns:s₁.heap.Ns mainGlobals mg) (hb:s₁.heap.Ns builtinsNs mb) (hbb:∀ x:Str,x≠"__name__"->mb x=bootBuiltins x) (hlim:s₁.heap.NoLimit) (hsm:∃ mm,s₁.heap.Ns sysModules mm) (hbm:∃ bm ob,mg "__builtins__"=some (.ref bm)/\bm≠builtinsNs/\s₁.heap.get? bm=some ob/\ob.cls= .type "module"/\ob.dict=some builtinsNs/\ob.data= .plain) (hg:s₁.gens= #[])
  (ha:s₁.heap.get? a=some {cls:=.type "list",data:=.seq vs.toArray}) (hi:IntsAre vs ns) (hl:ns.length<=sizeLine) (hr:Room k callerA)
  (F:∀ base:Heap,K.In base->base.Ns mainGlobals mg->FnOk P w K mg base CX k fa fd [x] sp) (hbind:∀ (s:Shared) (u:Value),BindsTo s fd ⟨[u],[]⟩ [(x,u)])
  (hsp:∀ H:Hp,Only H->SqL K H a (ns.map V.int)->sp [.ref a] H (fun v _=>v= .bl true) fun _ _ _=>False)
  (hCX:∀ H e s',CX [] H s₁ (fun _ _ _=>False) e s'->False):
  codeAny (model P w) callerA (.call (.ref fa) ⟨[.ref a],[]⟩) (fun r s'=>r= .ok (.ret (.bool true))/\OldK s₁.heap s'.heap/\s'.os=s₁.os/\AllBare s'.gens) s₁:=by
 have rv:=Am hi;have lenV:=hi.length
 have core:∀ H:Hp,Only H->SqL K H a (ns.map V.int)->HOk P w H s₁.heap->(∀ b,H b≠none->b=a)->(H a≠none->K.lookup a=none)->
   codeAny (model P w) callerA (.call (.ref fa) ⟨[.ref a],[]⟩) (fun r s'=>r= .ok (.ret (.bool true))/\OldK s₁.heap s'.heap/\s'.os=s₁.os/\AllBare s'.gens) s₁:=by
  intro H hO hS hok hA hK;have base_of:∀ {b:Addr} {o:Obj},s₁.heap.get? b=some o->H b=none->(Bs s₁.heap H).get? b=some o:=fun e n=>Ms e n
  have noA:∀ {b:Addr} {o:Obj} {es:Array DictEntry} {ep:Nat},s₁.heap.get? b=some o->o.data= .dict es ep->H b=none:=fun {b o es ep} e d=>by
   cases q:H b with
   | none=>rfl
   | some u=>
    have e':b=a:=hA b (by rw [q];simp);subst e';rw [ha] at e;cases e;have d':Data.seq vs.toArray _=Data.dict es ep:=d;cases d'
  have noM:∀ {b:Addr} {o:Obj},s₁.heap.get? b=some o->o.cls= .type "module"->H b=none:=fun {b o} e d=>by
   cases q:H b with
   | none=>rfl
   | some u=>
    have e':b=a:=hA b (by rw [q];simp);subst e';rw [ha] at e;cases e;exact absurd (show (Value.type "list":Value)= .type "module" from d) (fun z=>absurd (Value.type.inj z) (by decide))
  have nsK:∀ {b:Addr} {m:Str->Option Value},s₁.heap.Ns b m->(Bs s₁.heap H).Ns b m:=fun {b m} ⟨o,es,ep,e,d,r⟩=>⟨o,es,ep,base_of e (noA e d),d,r⟩
  have hKb:K.In (Bs s₁.heap H):=fun b o e=>base_of (KX b o e) (by
   cases q:H b with
   | none=>rfl
   | some u=>
    have e':b=a:=hA b (by rw [q];simp);subst e';rw [hK (by rw [q];simp)] at e;cases e)
  have hM:Mod K mg (Bs s₁.heap H):=⟨hKb,nsK hns,⟨mb,nsK hb,hbb⟩,(let ⟨mc,h1,h2⟩:=hlim;⟨mc,nsK h1,h2⟩),(let ⟨mm,h1⟩:=hsm;⟨mm,nsK h1⟩),let ⟨bm,ob,b1,b2,b3,b4,b5⟩:=hbm;⟨bm,ob,b1,b2,base_of b3 (noM b3 b4),b4,b5⟩⟩;have e0:Env0 P w K mg (Bs s₁.heap H) callerA [] s₁ H:=⟨rfl,hM,fun b o e=>Rb e,Nat.le_of_eq (Ke _ _),trivial,fun b hb=>absurd (show b∈([]:List Addr) from hb) (by simp),hok,.of_eq hg⟩;refine codeAny_mono ((F _ hKb (nsK hns)).run callerA [] s₁ H ⟨[.ref a],[]⟩ [.ref a] [.ref a] _ _ hr e0 (hbind s₁ (.ref a)) (.cons rfl .nil) (hsp H hO hS)) fun r s' h=>?_
  cases r with
  | error e=>exact (hCX H e s' h).elim
  | ok fl=>
   cases fl with
   | next=>exact False.elim h
   | brk=>exact False.elim h
   | cont=>exact False.elim h
   | ret u=>
    obtain ⟨v,H',os,bare,un,hok',r',q⟩:=h;have q':v= .bl true:=q;subst q';obtain rfl:u=Value.bool true:=r';refine ⟨rfl,OldK.of_keep fun b o e=>?_,os,bare⟩;cases q:H b with
    | none=>exact un.keep b o e q (by intro z;exact absurd (show b∈([]:List Addr) from z) (by simp)) (by simp)
    | some u=>
     rcases hO b with z | ⟨ob,xs,z⟩
     ·rw [q] at z;cases z
     ·have z2:=un.frzs b ob _ z
      obtain ⟨e1,_⟩:=hok b _ z;obtain ⟨e2,_⟩:=hok' b _ z2;rw [e] at e1;cases e1;exact e2
 cases hk:K.lookup a with
 | some o=>
  have e:=KX a o hk;rw [ha] at e;cases e;refine core (fun _=>none) (fun _=>.inl rfl) (.inr ⟨_,vs.toArray,_,hk,rfl,rfl,rfl,by rw [Aax,lenV];exact hl,by simpa using rv⟩) (fun b u z=>by have z':(none:Option HO)=some u:=z;cases z') (fun b z=>absurd rfl z) fun z=>absurd rfl z
 | none=>
  refine core (fun b=>if b=a then some (.frz {cls:=.type "list",data:=.seq vs.toArray} (.lst (ns.map V.int))) else none) (fun b=>?_) (.inl (.inr ⟨{cls:=.type "list",data:=.seq vs.toArray},if_pos rfl⟩)) (fun b u z=>?_) (fun b z=>?_) fun _=>hk
  ·by_cases hb:b=a
   ·exact .inr ⟨_,_,if_pos hb⟩
   ·exact .inl (if_neg hb)
  ·by_cases hb:b=a
   ·have z':=(if_pos hb).symm.trans z
    cases z';subst hb;exact ⟨ha,by rw [Aaf];exact hl,vs,_,rv,ha⟩
   ·have z':=(if_neg hb).symm.trans z
    cases z'
  ·by_cases hb:b=a
   ·exact hb
   ·exact absurd (if_neg hb) z
abbrev KOf {K:W.Frag} {h:Heap} (_:K.In h):W.Frag:=K
theorem RK {l:PySem.W.OpenLaw} {n k:Nat} {q:Program} {loose:List Str} {XP:(Str->Option Value)->Heap->Prop} {YP:World->Heap->Prop} {d:DefRec} {K:Params->W.Frag} {CX:World->Kq} {sp:World->Sp} {x:Str}
  (hn:l.most=some n) (hn2:n<=sizeLine) (hdf:d.params.defaults=[]) (hr:Room k callerA)
  (hY:∀ (w:World) (h:Heap),YP w h->(K w.params).In h)
  (F:∀ (w:World) (mg:Str->Option Value) (fa:Addr) (h:Heap),(K w.params).In h->h.Ns mainGlobals mg->mg d.name=some (.ref fa)->
   ∃ fd:FuncData,(∀ (s:Shared) (u:Value),BindsTo s fd ⟨[u],[]⟩ [(x,u)])/\
    ∀ base:Heap,(K w.params).In base->base.Ns mainGlobals mg->FnOk l.prog w (K w.params) mg base (CX w) k fa fd [x] (sp w))
  (hsp:∀ (w:World) (H:Hp) (a:Addr) (ns:List Int),ns.length<=n->Only H->SqL (K w.params) H a (ns.map V.int)->sp w [.ref a] H (fun v _=>v= .bl true) fun _ _ _=>False)
  (hCX:∀ (w:World) (H:Hp) (s:Shared) (e:Value) (s':Shared),CX w [] H s (fun _ _ _=>False) e s'->False) (him:importsNone q=true):
  PySem.W.WalkO q loose XP YP l.row.toRowW d [] (fun f vs=>PySem.call f vs):=by
 refine Att.attach_call hn hdf fun w s₀ s₁ mg mb fa o pm cd doc a vs ns G Y ho hd hcd hmg hobj hints hlen hg=>?_
 have KX:=hY w _ Y;obtain ⟨fd,hb,hF⟩:=F w mg fa _ KX G.T.g hmg;exact Nz KX G.T.g G.T.b G.T.builtins G.T.nolimit (let ⟨mm,h1,_⟩:=(G.T.seer him).mods;⟨mm,h1⟩) G.T.bmain hg hobj hints (Aay hlen hn2) hr hF hb (fun H hO hS=>hsp w H a ns hlen hO hS) fun H e s'=>hCX w H s₁ e s'
def eZ (s:Stmt):Arguments:=match s with
 | .FunctionDef _ a _ _ _ _ _ _ _ _=>a
 | _=>{posonlyargs:=[],args:=[],vararg:=none,kwonlyargs:=[],kw_defaults:=[],kwarg:=none,defaults:=[]}
def bU (s:Stmt):List Stmt:=match s with
 | .FunctionDef _ _ b _ _ _ _ _ _ _=>b
 | _=>[]
def aB (s:Stmt):Scope:=match s with
 | .FunctionDef _ _ _ _ _ _ sc _ _ _=>sc
 | _=>{kind:=.function,names:=[],isGenerator:=false,isCoroutine:=false}
abbrev Kz:Kq:=fun _ _ _ _ _ _=>False
abbrev E0:XK:=fun _ _ _=>False
theorem Zh {X:Cx}:GK Kz X E0:=fun _ _ _ _ _ _ _ h=>h.elim
structure Fun (K:W.Frag) (x qual:Str) (st:Stmt) (f:Addr) (fd:FuncData):Prop where
 ex:∃ (oc:Value) (od:Option Addr) (kV doc pm:Value) (an:Option Addr) (cdv ct:Value) (osl:Array (Option Value)),
  fd=PySem.W.fnOf x qual (eZ st) (bU st) (aB st) .none kV doc pm an cdv ct/\K.lookup f=some ⟨oc,od,.func fd,osl⟩/\PySem.W.codeIn K cdv qual=true
 kp:PySem.W.keepIn K (.ref f)=true
section
variable {P:Program} {w:World} {K:W.Frag} {mg:Str->Option Value} {base:Heap}
theorem Fun.ok {x qual:Str} {st:Stmt} {f:Addr} {fd:FuncData} {N ps:List Str} {k:Nat} {sp:Sp} (F:Fun K x qual st f fd) (S:aG N ps (aB st)) (len:∀ vs H Q E,sp vs H Q E->vs.length=ps.length)
  (hbody:∀ (cdv:Value) (A:Around) (outer:List Env) (s:Shared) (H:Hp) (vs:List V) (Q:VK) (E:XK),Room k (A.deeper (envOfC qual (aB st) s.heap.objs.size f cdv))->sp vs H Q E->
   ∃ t,PSs (qz Kz P w K mg base N qual (aB st) f cdv A outer s H E).nox (bU st) t/\t {nx:=fun _ H'=>Q .non H',rt:=Q} (start N vs) H):FnOk P w K mg base Kz (k+1) f fd ps sp:=by
 obtain ⟨oc,od,kV,doc,pm,an,cdv,ct,osl,rfl,lk,hcd⟩:=F.ex;refine Ec lk hcd S len fun A outer s H vs Q E hr hsp=>?_
 obtain ⟨t,h,q⟩:=hbody cdv A outer s H vs Q E hr hsp;exact ⟨t,h.nox,q⟩
theorem Fun.binds {x qual:Str} {st:Stmt} {f:Addr} {fd:FuncData} {ps:List Str} (F:Fun K x qual st f fd)
  (h:∀ (kV doc pm:Value) (an:Option Addr) (cdv ct:Value) (us:List Value),us.length=ps.length->bindArgs (PySem.W.fnOf x qual (eZ st) (bU st) (aB st) .none kV doc pm an cdv ct) ⟨us,[]⟩=pure (ps.zip us)):Binds K fd ps []:=by
 obtain ⟨oc,od,kV,doc,pm,an,cdv,ct,osl,rfl,lk,hcd⟩:=F.ex;exact .all (h kV doc pm an cdv ct)
theorem yp {x qual:Str} {st:Stmt} {f:Addr} {oc:Value} {od an:Option Addr} {osl:Array (Option Value)} {kV doc pm cdv ct:Value} (l:K.lookup f=some ⟨oc,od,.func (PySem.W.fnOf x qual (eZ st) (bU st) (aB st) .none kV doc pm an cdv ct),osl⟩)
  (c:PySem.W.codeIn K cdv qual=true) (k:PySem.W.keepIn K (.ref f)=true):Fun K x qual st f (PySem.W.fnOf x qual (eZ st) (bU st) (aB st) .none kV doc pm an cdv ct):=⟨⟨oc,od,kV,doc,pm,an,cdv,ct,osl,rfl,l,c⟩,k⟩
end
theorem jC {A B:Prop} (h:B):if false=true then A else B:=by
 rw [if_neg Aak];exact h
theorem jD {A B:Prop} (h:A):if true=true then A else B:=by
 rw [if_pos rfl];exact h
def Same (H H':Hp):Prop:=∀ b o,H b=some o->H' b=some o
theorem Same.refl (H:Hp):Same H H:=fun _ _ h=>h
theorem Same.trans {H H1 H2:Hp} (a:Same H H1) (b:Same H1 H2):Same H H2:=fun c o h=>b c o (a c o h)
theorem Same.free {H H':Hp} (e:Same H H') {l:Addr} (h:H' l=Option.none):H l=Option.none:=by
 cases q:H l with
 | none=>rfl
 | some o=>
  rw [e l o q] at h;cases h
theorem Same.seq {K:W.Frag} {H H':Hp} {a:Addr} {xs:List V} (e:Same H H') (h:SqL K H a xs):SqL K H' a xs:=by
 rcases h with (h | ⟨o,h⟩) | h
 ·exact .inl (.inl (e _ _ h))
 ·exact .inl (.inr ⟨o,e _ _ h⟩)
 ·exact .inr h
end L2
set_option maxHeartbeats 4000000
namespace L2
open PySem PySem.Spec PyProof.Rows
def xn (env:Env):List (Str×NameKind)->List (Str×Addr)->List (Str×Addr)
 | [],acc=>acc
 | (n,k) :: r,acc=>xn env r (if k == .free then (match env.cells.lookup n with | some c=>(n,c) :: acc | none=>acc) else acc)
theorem yq {env:Env}:∀ {names:List (Str×NameKind)} {acc:List (Str×Addr)},(∀ x c,(x,c)∈acc->env.cells.lookup x=some c)->∀ x c,(x,c)∈xn env names acc->env.cells.lookup x=some c
 | [],_,h,x,c,m=>h x c m
 | (n,k) :: r,acc,h,x,c,m=>by
  refine yq (names:=r) ?_ x c m;intro y d hm;cases hk:(k == NameKind.free) with
  | false=>rw [hk] at hm;exact h y d hm
  | true=>
   rw [hk] at hm;simp only [if_true] at hm;cases e:env.cells.lookup n with
   | none=>rw [e] at hm;exact h y d hm
   | some c'=>
    rw [e] at hm;rcases Aaj.mp hm with z | z
    ·cases z;exact e
    ·exact h y d z
theorem Ed {env:Env}:∀ {names:List (Str×NameKind)} {acc:List (Str×Addr)} {p:Str×Addr},p∈acc->p∈xn env names acc
 | [],_,_,h=>h
 | (n,k) :: r,acc,p,h=>by
  refine Ed (names:=r) ?_
  split
  ·split
   ·exact Aap _ h
   ·exact h
  ·exact h
theorem yr {env:Env} {x:Str} {c:Addr} (e:env.cells.lookup x=some c):∀ {names:List (Str×NameKind)} {acc:List (Str×Addr)},(x,NameKind.free)∈names->(x,c)∈xn env names acc
 | [],_,h=>by simp at h
 | (n,k) :: r,acc,h=>by
  rcases Aaj.mp h with z | z
  ·cases z
   refine Ed (names:=r) ?_;rw [e];simp
  ·exact yr e (names:=r) z
theorem zK {l:List (Str×Addr)} {x:Str} {c:Addr} (hm:(x,c)∈l) (ha:∀ d,(x,d)∈l->d=c):l.lookup x=some c:=by
 induction l with
 | nil=>simp at hm
 | cons p r ih=>
  obtain ⟨n,d⟩:=p;by_cases e:x=n
  ·subst e
   have:d=c:=ha d (by simp);subst this;simp [AaK]
  ·have hb:(x == n)=false:=by simpa using e
   rw [AaK,hb];refine ih ?_ fun d' h'=>ha d' (Aap _ h')
   rcases Aaj.mp hm with z | z
   ·cases z;exact absurd rfl e
   ·exact z
theorem Ef {env:Env} {names:List (Str×NameKind)} {x:Str} {c:Addr} (e:env.cells.lookup x=some c) (h:(x,NameKind.free)∈names):(xn env names []).lookup x=some c:=
 zK (yr e h) fun d hd=>by
  have q:=yq (names:=names) (acc:=[]) (env:=env) (by simp) x d hd;rw [e] at q;exact (AaE q).symm
theorem KC {env:Env} {names:List (Str×NameKind)} {x:Str} {c:Addr} (e:(xn env names []).lookup x=some c):env.cells.lookup x=some c:=
 yq (names:=names) (acc:=[]) (env:=env) (by simp) x c (Aa1 e)
theorem t6 {env:Env}:∀ (names:List (Str×NameKind)) (acc:List (Str×Addr)),(∀ x∈names,x.2=NameKind.free->∃ c,env.cells.lookup x.1=some c)->
  (forIn (m:=Sem) names acc fun x r=>match x with
   | (name,kind)=>if (kind == NameKind.free)=true then do let c ← cellOf env name;pure (ForInStep.yield ((name,c) :: r)) else pure (ForInStep.yield r))=pure (xn env names acc)
 | [],acc,_=>rfl
 | (n,k) :: r,acc,h=>by
  rw [List.forIn_cons];cases hk:(k == NameKind.free) with
  | false=>
   simp only [hk,Bool.false_eq_true,if_false,pure_bind,xn];exact t6 r acc fun x hx=>h x (Aap _ hx)
  | true=>
   obtain ⟨c,e⟩:=h (n,k) AaH (by simpa using hk);simp only [hk,if_true,pure_bind,xn,cellOf,e];exact t6 r ((n,c) :: acc) fun x hx=>h x (Aap _ hx)
theorem tH {scope:Scope} {env:Env} (h:∀ x∈scope.names,x.2=NameKind.free->∃ c,env.cells.lookup x.1=some c):closureFor scope env=pure (xn env scope.names []):=by
 unfold closureFor;have:=t6 (env:=env) scope.names [] h;simp only [this,pure_bind]
theorem An {prog:Program} {w:World} {A:Around} {R:Result->Shared->Prop} {s:Shared} {elt target iter:Expr} {ifs:List Expr} {scope:Scope} {pos:Pos} {it acc:Value} {env:Env} (I:Nat->Shared->Prop)
  (turn:∀ n s,I n s->wpAny (model prog w) A (pyNext it) (fun r s₁=>match r with
   | none=>R (.ok .next) s₁
   | some v=>wpAny (model prog w) A (letOwnedTupleGo target it v) (fun _ s₁'=>wpAny (model prog w) A (assign target env v) (fun _ s₂=>
     wpAny (model prog w) A (forIn ifs true fun c r=>if r=true then do let ok ← isTrue c env (eval c env);pure (ForInStep.yield ok) else pure (ForInStep.yield r)) (fun ok s₃=>
      if ok=true then wpAny (model prog w) A (eval elt env) (fun x s₄=>
       wpAny (model prog w) A (call (.builtin "list.append") [acc,x]) (fun _ s₅=>∃ m,m < n/\I m s₅) (fun _ _=>False) s₄) (fun _ _=>False) s₃
      else ∃ m,m < n/\I m s₃) (fun _ _=>False) s₂) (fun _ _=>False) s₁') (fun _ _=>False) s₁) (fun _ _=>False) s)
  (n:Nat) (h:I n s):
  codeAny (model prog w) A (.compLoop (.ListComp elt [⟨target,iter,ifs,0⟩] scope pos) 0 it acc env) R s:=by
 refine codeAny_loop rfl I (fun n s hI=>?_) n h;show wpAny _ A ((compTurn (.ListComp elt [⟨target,iter,ifs,0⟩] scope pos) 0 it acc env).onRaise (fun x=>do noteFrame x env;theTreesLotGoes x)) _ _ s;refine wpAny_noted ?_;rw [compTurn_list];refine gV (Acl (gV (AaP (turn n s hI) (fun r s₁ h₁=>?_) fun _ _ h'=>h'.elim)));cases r with
 | none=>exact Aag h₁
 | some v=>
  refine gV (AaP h₁ (fun _ s₁' h₁'=>?_) fun _ _ h'=>h'.elim);refine gV (AaP h₁' (fun _ s₂ h₂=>gV (AaP h₂ (fun ok s₃ h₃=>?_) fun _ _ h'=>h'.elim)) fun _ _ h'=>h'.elim);cases ok with
  | false=>exact Aag ⟨rfl,h₃⟩
  | true=>
   exact gV (gV (AaP h₃ (fun x s₄ h₄=>gV (AaP h₄ (fun _ s₅ h₅=>Aag (Aag ⟨rfl,h₅⟩)) fun _ _ h'=>h'.elim)) fun _ _ h'=>h'.elim))
theorem fG:∀ (names:List (Str×NameKind)) (n:Nat) (acc:List (Str×Addr)),cellsFrom n names acc=cellsFrom n names [] ++ acc
 | [],_,_=>rfl
 | (x,k) :: r,n,acc=>by
  unfold cellsFrom
  split
  ·rw [fG r (n+1) ((x,n) :: acc),fG r (n+1) [(x,n)],Abl];rfl
  ·exact fG r n acc
theorem uP {α:Type}:∀ {A B:List (Str×α)} {x:Str},(A ++ B).lookup x=(match A.lookup x with | some c=>some c | none=>B.lookup x)
 | [],_,_=>rfl
 | (y,c) :: A,B,x=>by
  rw [List.cons_append,AaK,AaK];cases x == y with
  | true=>rfl
  | false=>exact uP (A:=A)
theorem yt:∀ {names:List (Str×NameKind)} {n:Nat} {acc:List (Str×Addr)} {x:Str} {c:Addr},(x,c)∈cellsFrom n names acc->(x,c)∈acc\/(x,NameKind.cell)∈names
 | [],_,_,_,_,h=>.inl h
 | (y,k) :: r,n,acc,x,c,h=>by
  unfold cellsFrom at h
  split at h
  ·rename_i hk
   rcases yt h with z | z
   ·rcases Aaj.mp z with z | z
    ·cases z
     have:k= .cell:=by simpa using hk
     rw [this];exact .inr AaH
    ·exact .inl z
   ·exact .inr (Aap _ z)
  ·exact (yt h).imp id (Aap _)
theorem uQ {α:Type}:∀ {l:List (Str×α)} {x:Str} {c:α},(x,c)∈l->∃ d,l.lookup x=some d
 | (y,d) :: r,x,c,h=>by
  by_cases e:x=y
  ·subst e;exact ⟨d,by simp [AaK]⟩
  ·have hb:(x == y)=false:=by simpa using e
   rw [AaK,hb];rcases Aaj.mp h with z | z
   ·cases z;exact absurd rfl e
   ·exact uQ z
theorem uR:∀ {names:List (Str×NameKind)} {n:Nat} {acc:List (Str×Addr)} {x:Str},(x,NameKind.cell)∈names\/(∃ c,(x,c)∈acc)->∃ c,(x,c)∈cellsFrom n names acc
 | [],_,_,_,h=>h.elim (fun h=>by simp at h) id
 | (y,k) :: r,n,acc,x,h=>by
  unfold cellsFrom
  split
  ·refine uR ?_
   rcases h with h | ⟨c,h⟩
   ·rcases Aaj.mp h with z | z
    ·cases z;exact .inr ⟨n,AaH⟩
    ·exact .inl z
   ·exact .inr ⟨c,Aap _ h⟩
  ·rename_i hk
   refine uR ?_;rcases h with h | h
   ·rcases Aaj.mp h with z | z
    ·cases z;exact absurd (by decide) hk
    ·exact .inl z
   ·exact .inr h
def KD (X:Cx) (scope:Scope) (C:Addr):List (Str×Addr):=cellsFrom (C+1) scope.names (xn X.env scope.names [])
section
variable {M:Model} {A:Around} {E:Value->Shared->Prop} {s:Shared}
theorem ju {scope:Scope} {globals:Addr} {cl:List (Str×Addr)} {qual:Str} {env:Env} {Q:Env->Shared->Prop}
  (hQ:∀ h':Heap,h'.Ns s.heap.objs.size (fun _=>none)->(∀ b o,s.heap.get? b=some o->h'.get? b=some o)->CellsOk h' (s.heap.objs.size+1) (cellsFrom (s.heap.objs.size+1) scope.names [])->
   Q (newEnv scope s.heap.objs.size globals (cellsFrom (s.heap.objs.size+1) scope.names cl) qual none .none (some env) builtinsNs) {s with heap:=h',toks:=s.toks+([]:List (Str×Value)).length}):
  wpAny M A (newFunctionEnv scope globals cl [] qual none .none (some env)) Q E s:=by
 simp only [newFunctionEnv,Option.isSome_some,if_true];refine gV (wpAny_alloc ?_);refine gV (wpAny_layCells _ (fun name kind cells=>by cases hkc:kind == NameKind.cell <;> simp [hkc]) _ _ _ _ ?_);have ok:=cellsFrom_ok scope.names (s.heap.push {cls:=.type "dict",data:=.dict #[]}) (s.heap.objs.size+1) [] ⟨fun _ _ hm=>(nomatch hm),List.Pairwise.nil⟩ (by rw [Abk];exact Aad _);rw [Abk] at ok;rw [show ({s with heap:=s.heap.push {cls:=.type "dict",data:=.dict #[]}}:Shared).heap.objs.size=s.heap.objs.size+1 from Abk ..];exact gV (Aag (Aag (hQ _ ((Heap.Ns.new s.heap (.type "dict")).keeps (pushCells_keeps _ _)) (fun b o e=>pushCells_keeps _ _ b o (Aae _ e)) ok)))
end
def sZ (X:Cx) (N':List Str) (scope:Scope) (C:Addr) (s₀:Shared) (H₀:Hp) (ex:List Addr):Cx:=
 {X with N:=N',s₀:=s₀,H₀:=H₀,env:=compEnvC scope (KD X scope C) C X.env,outer:=X.stack,ex:=ex,fn:=fun x=>decide (scope.names.lookup x=some .cell),pn:=[],xe:=fun _ _=>False}
def eU (sub:List (Option Nat)) (U:St):St:=sub.map fun o=>o.bind fun j=>(U[j]?).join
structure wM (N:List Str) (sc:Scope) (N':List Str) (scope:Scope) (sub:List (Option Nat)):Prop where
 kind:scope.kind= .function
 cel:∀ x∈scope.names,x.2= .cell->scope.names.lookup x.1=some .cell
 loc:∀ x∈scope.names,x.2= .local->scope.names.lookup x.1=some .local
 free:∀ x∈scope.names,x.2= .free->sc.names.lookup x.1=some .cell\/sc.names.lookup x.1=some .free
 len:sub.length=N'.length
 at_:∀ (i j:Nat) (x:Str),sub[i]?=some (some j)->N'[i]?=some x->N[j]?=some x/\(x,NameKind.free)∈scope.names/\scope.names.lookup x=some .free
def NB (N:List Str) (sc:Scope) (N':List Str) (scope:Scope) (sub:List (Option Nat)):Bool:=
 decide (scope.kind= .function) && scope.names.all (fun x=>decide (x.2= .cell->scope.names.lookup x.1=some .cell)) && scope.names.all (fun x=>decide (x.2= .local->scope.names.lookup x.1=some .local)) &&
 scope.names.all (fun x=>decide (x.2= .free->sc.names.lookup x.1=some .cell\/sc.names.lookup x.1=some .free)) && decide (sub.length=N'.length) &&
 (List.range sub.length).all fun i=>match sub[i]?,N'[i]? with
  | some (some j),some x=>decide (N[j]?=some x/\(x,NameKind.free)∈scope.names/\scope.names.lookup x=some .free)
  | _,_=>true
theorem d8 {N:List Str} {sc:Scope} {N':List Str} {scope:Scope} {sub:List (Option Nat)} (h:NB N sc N' scope sub=true):wM N sc N' scope sub:=by
 simp only [NB,Aav,decide_eq_true_eq,Abi] at h;obtain ⟨⟨⟨⟨⟨h1,h2⟩,h3⟩,h4⟩,h5⟩,h6⟩:=h;refine ⟨h1,h2,h3,h4,h5,fun i j x e1 e2=>?_⟩;have hi:i < sub.length:=(Aab.mp e1).1;have q:=h6 i (AaA.mpr hi);rw [e1,e2] at q;simpa using q
def NK:TT:=fun _ H Q=>Q true H
def Eg (X:Cx) (ifs:List Expr) (t:TT):Prop:=
 ∀ (pins:List (Addr×Obj)) (s:Shared) (U:St) (H:Hp) (Q:Bool->Hp->Prop),Inv X pins U H s->t U H Q->
  wpAny (model X.prog X.w) X.A (forIn ifs true fun c r=>if r=true then do let ok ← isTrue c X.env (eval c X.env);pure (ForInStep.yield ok) else pure (ForInStep.yield r)) (TP X pins U Q) X.xe s
theorem NP {X:Cx}:Eg X [] NK:=fun _ _ _ H _ I h=>wpAny_tests_nil ⟨H,I,h⟩
def KeepSt (U U':St):Prop:=U'.length=U.length/\∀ (i:Nat) (v:V),U[i]?=some (some v)->U'[i]?=some (some v)
theorem KeepSt.set {U:St} {i:Nat} {v:V} (h:U[i]?=some none):KeepSt U (U.set i (some v)):=by
 refine ⟨by simp,fun j u e=>?_⟩;by_cases hj:i=j
 ·subst hj;rw [h] at e;cases e
 ·rw [AaM hj];exact e
theorem KeepSt.trans {σ1 σ2 σ3:St} (a:KeepSt σ1 σ2) (b:KeepSt σ2 σ3):KeepSt σ1 σ3:=⟨b.1.trans a.1,fun i v e=>b.2 i v (a.2 i v e)⟩
def yw (sub:List (Option Nat)) (wi:TI) (g:TG) (tt:TT) (te:TE):TE:=fun U H Q=>wi U H fun J H1=>∃ W:Nat->Nat->List V->Hp->Prop,(∃ m,W 0 m [] H1)/\∀ i m ys H,W i m ys H->
 (J.stop i H/\ys.length<=sizeLine/\∀ D,H D=none->Q (.ref D) (upd H D (.lst ys)))\/
 (J.go i H/\ys.length < sizeLine/\∃ N:List V->Hp->Prop,(∀ ys' H',N ys' H'->∃ m',m' < m/\W (i+1) m' ys' H')/\
  ∀ x H',J.yld i H x H'->g x (eU sub U) H' fun σ2 H2=>KeepSt (eU sub U) σ2/\tt σ2 H2 fun b H3=>if b=true then te σ2 H3 fun y H4=>N (ys ++ [y]) H4 else N ys H3)
theorem uT {scope:Scope} {env:Env} {x:Str} (hx:scope.names.lookup x=some .free):(relabel scope env).names.lookup x=some .cell\/(relabel scope env).names.lookup x=some .free:=by
 have:∀ names:List (Str×NameKind),names.lookup x=some .free->
  (names.map fun (n,k)=>if (k == NameKind.free && env.scope.kind == .function && env.kindOf n == some .cell) then (n,NameKind.cell) else (n,k)).lookup x=some .cell\/
  (names.map fun (n,k)=>if (k == NameKind.free && env.scope.kind == .function && env.kindOf n == some .cell) then (n,NameKind.cell) else (n,k)).lookup x=some .free:=by
  intro names
  induction names with
  | nil=>intro h;simp at h
  | cons p r ih=>
   obtain ⟨n,k⟩:=p;intro h;by_cases e:x=n
   ·subst e
    have hk:k= .free:=by simpa [AaK] using h
    subst hk;by_cases hc:((NameKind.free == NameKind.free && env.scope.kind == .function && env.kindOf x == some .cell)=true)
    ·left;simp only [AaW];rw [if_pos hc];simp [AaK]
    ·right;simp only [AaW];rw [if_neg hc];simp [AaK]
   ·have hb:(x == n)=false:=by simpa using e
    rw [AaK,hb] at h;have q:=ih h;simp only [AaW]
    split <;> (rw [AaK,hb];exact q)
 exact this scope.names hx
theorem BR {scope:Scope} {env:Env} {x:Str} (h:(relabel scope env).names.lookup x=some .cell\/(relabel scope env).names.lookup x=some .free):(x,NameKind.cell)∈scope.names\/(x,NameKind.free)∈scope.names:=by
 have key:∀ k,(k=NameKind.cell\/k=NameKind.free)->(relabel scope env).names.lookup x=some k->(x,NameKind.cell)∈scope.names\/(x,NameKind.free)∈scope.names:=by
  intro k hk hl;have hm:=Aa1 hl;unfold relabel at hm;obtain ⟨⟨n,k'⟩,hm1,hm2⟩:=AaO.mp hm;dsimp only at hm2;by_cases hc:(k' == NameKind.free && env.scope.kind == .function && env.kindOf n == some .cell)=true
  ·rw [if_pos hc] at hm2
   cases hm2;simp only [Aav,Abr] at hc;rw [← hc.1.1];exact .inr hm1
  ·rw [if_neg hc] at hm2
   cases hm2;rcases hk with hk | hk
   ·subst hk;exact .inl hm1
   ·subst hk;exact .inr hm1
 rcases h with h | h
 ·exact key _ (.inl rfl) h
 ·exact key _ (.inr rfl) h
section
variable {X:Cx} {tg iter elt:Expr} {ifs:List Expr} {scope:Scope} {pos:Pos} {N':List Str} {sub:List (Option Nat)} {wi:TI} {g:TG} {tt:TT} {te:TE}
theorem Ao {pins:List (Addr×Obj)} {U:St} {H:Hp} {s:Shared} {fp:List Addr} {D:Addr} {h':Heap} {tk:Nat} {N:List Str} {sc:Scope} (S:wM N sc N' scope sub) (hN:X.N=N) (hsc:X.env.scope=sc) (I:Inv X pins U H s) (hf:∀ b∈fp,oV X pins H b) (hfo:∀ b∈fp,b < s.heap.objs.size)
  (hD:D < s.heap.objs.size) (fD:oV X pins H D) (hns:h'.Ns s.heap.objs.size fun _=>none) (hk:∀ b o,s.heap.get? b=some o->h'.get? b=some o) (hc:CellsOk h' (s.heap.objs.size+1) (cellsFrom (s.heap.objs.size+1) scope.names [])):
  Inv (sZ X N' scope s.heap.objs.size s H (D :: fp)) [] (eU sub U) H {s with heap:=h',toks:=tk}:=by
 have hex:∀ b∈D :: fp,oV X pins H b/\b < s.heap.objs.size:=fun b hb=>by
  rcases Aaj.mp hb with rfl | z
  ·exact ⟨fD,hD⟩
  ·exact ⟨hf b z,hfo b z⟩
 have spl:∀ {x c},(KD X scope s.heap.objs.size).lookup x=some c->(h'.IsCell c none/\s.heap.objs.size+1<=c/\(x,c)∈cellsFrom (s.heap.objs.size+1) scope.names [])\/(X.env.cells.lookup x=some c/\∃ o,s.heap.get? c=some o):=fun {x c} h=>by
  unfold KD at h;rw [fG,uP] at h;cases e:(cellsFrom (s.heap.objs.size+1) scope.names []).lookup x with
  | some d=>
   rw [e] at h;cases h;have m:=Aa1 e;exact .inl ⟨(hc.empty _ _ m).1,(hc.empty _ _ m).2,m⟩
  | none=>
   rw [e] at h;have z:=KC h;obtain ⟨v,o,ho,_⟩:=I.cell x c z;exact .inr ⟨z,o,ho⟩
 have fre:∀ {x c},(x,NameKind.free)∈scope.names->scope.names.lookup x=some .free->X.env.cells.lookup x=some c->(KD X scope s.heap.objs.size).lookup x=some c:=fun {x c} h1 h2 h3=>by
  unfold KD;rw [fG,uP];cases e:(cellsFrom (s.heap.objs.size+1) scope.names []).lookup x with
  | some d=>
   rcases yt (Aa1 e) with z | z
   ·cases z
   ·have:=S.cel _ z rfl
    rw [h2] at this;cases this
  | none=>exact Ef h3 h1
 refine ⟨⟨I.ok.mod,S.kind,I.ok.glob,I.ok.blt,Aad _,fun x y c h1 h2=>?_,fun x hx=>?_,fun x c hx h=>?_,I.ok.hd,I.ok.frames,.inl rfl,fun b hb=>?_,I.bs,Aay I.ok.bsz I.sz,fun b o e hb=>?_,fun b hb=>?_,I.stack,I.stkFree⟩,
  rfl,I.bare,Un.kept hk,⟨_,hns,fun i x v h1 h2 h3=>?_⟩,fun x c h=>?_,I.hok.fresh (Aad _),fun x c h=>?_,fun p hp=>(nomatch hp),I.hok.kept hk,?_⟩
 ·rcases spl h1 with ⟨_,l1,m1⟩ | ⟨z1,o1,q1⟩ <;> rcases spl h2 with ⟨_,l2,m2⟩ | ⟨z2,o2,q2⟩
  ·exact PySem.name_of_addr hc.apart m1 m2
  ·exact absurd (Aan (Aal q2) (AbI l1)) (Aa7 _)
  ·exact absurd (Aan (Aal q1) (AbI l2)) (Aa7 _)
  ·exact I.ok.inj x y c z1 z2
 ·rcases BR hx with z | z
  ·obtain ⟨c,m⟩:=uR (n:=s.heap.objs.size+1) (acc:=xn X.env scope.names []) (.inl z)
   exact uQ m
  ·obtain ⟨c,e⟩:=I.ok.has x (by have:=S.free _ z rfl;rw [← hsc] at this;exact this)
   show ∃ c,(KD X scope s.heap.objs.size).lookup x=some c;unfold KD;rw [fG];exact uQ (c:=c) (AaV _ (yr e z))
 ·have hx':scope.names.lookup x=some .cell:=by simpa [sZ] using hx
  rcases spl h with ⟨_,l,_⟩ | ⟨z,o,q⟩
  ·exact AbI l
  ·exfalso
   have m:(x,NameKind.cell)∈scope.names:=Aa1 hx';obtain ⟨d,md⟩:=uR (n:=s.heap.objs.size+1) (acc:=[]) (.inl m);obtain ⟨d',e'⟩:=uQ md;have h:(KD X scope s.heap.objs.size).lookup x=some c:=h;unfold KD at h;rw [fG,uP,e'] at h;cases h;exact absurd (Aan (Aal q) (AbI (hc.empty _ _ (Aa1 e')).2)) (Aa7 _)
 ·obtain ⟨⟨f0,f1,f2,f3,f4,f5⟩,hlt⟩:=hex b hb
  refine ⟨AaJ hlt,fun x c h=>?_⟩;rcases spl h with ⟨_,l,_⟩ | ⟨z,_⟩
  ·exact fun z=>absurd (Aan hlt (AbI (z ▸ l))) (Aa7 _)
  ·exact f4 x c z
 ·obtain ⟨⟨f0,f1,f2,f3,f4,f5⟩,hlt⟩:=hex b hb
  rcases f3 with z | z
  ·exact I.ok.noex b o e z
  ·exact absurd (Aan (Aal (I.ok.bs b o e).1) z) (Aa7 _)
 ·obtain ⟨⟨f0,f1,f2,f3,f4,f5⟩,hlt⟩:=hex b hb
  intro z;rcases Aaj.mp (I.stkSub b z) with z | z
  ·exact f1 z
  ·exact f2 z
 ·have hs:∃ j,sub[i]?=some (some j)/\U[j]?=some (some v):=by
   unfold eU at h2;rw [Aah] at h2;cases e:sub[i]? with
   | none=>rw [e] at h2;cases h2
   | some o=>
    rw [e] at h2;cases o with
    | none=>cases h2
    | some j=>
     refine ⟨j,rfl,?_⟩;have h3:(U[j]?).join=some v:=AaE h2;cases e2:U[j]? with
     | none=>rw [e2] at h3;cases h3
     | some z=>rw [e2] at h3;cases z with
      | none=>cases h3
      | some z=>cases h3;rfl
  obtain ⟨j,e1,e2⟩:=hs;obtain ⟨g1,g2,g3⟩:=S.at_ i j x e1 h1;rw [← hN] at g1;obtain ⟨m,hn,hl⟩:=I.loc;have hkf:X.env.kindOf x=some .cell\/X.env.kindOf x=some .free:=by have:=S.free _ g2 rfl;rw [← hsc] at this;exact this
  have hvis:YL X.env.scope x:=by
   rcases hkf with z | z
   ·exact .inr (.inl z)
   ·exact .inr (.inr z)
  obtain ⟨u,r,l⟩:=hl j x v g1 e2 hvis;refine ⟨u,r,.inr ⟨uT g3,?_⟩⟩;rcases l with ⟨k,_⟩ | ⟨_,c,e,o,ho,hd⟩
  ·have k':X.env.kindOf x=some .local:=k
   rcases hkf with z | z <;> (rw [k'] at z;cases z)
  ·exact ⟨c,fre g2 g3 e,o,hk _ _ ho,hd⟩
 ·rcases spl h with ⟨z,_⟩ | ⟨z,_⟩
  ·exact ⟨_,z⟩
  ·obtain ⟨v,o,ho,hd⟩:=I.cell x c z
   exact ⟨v,o,hk _ _ ho,hd⟩
 ·rcases spl h with ⟨_,l,_⟩ | ⟨z,_⟩
  ·exact I.hok.fresh (AbI l)
  ·exact I.freeC x c z
 ·show (eU sub U).length=N'.length
  unfold eU;rw [Aaf];exact S.len
theorem Iv {N:List Str} {sc:Scope} (S:wM N sc N' scope sub) (hc:X.calm=true) (hN:X.N=N) (hsc:X.env.scope=sc) (hi:PI X tg iter wi)
  (hg:∀ (C:Addr) (s₀:Shared) (H₀:Hp) (ex:List Addr),PG (sZ X N' scope C s₀ H₀ ex) tg g)
  (ht:∀ (C:Addr) (s₀:Shared) (H₀:Hp) (ex:List Addr),Eg (sZ X N' scope C s₀ H₀ ex) ifs tt)
  (he:∀ (C:Addr) (s₀:Shared) (H₀:Hp) (ex:List Addr),PE (sZ X N' scope C s₀ H₀ ex) elt te)
  (hs:autoParam (∀ x,foldedSetIterable iter X.env x=pure x) L2.auto3._auto_1):
  PE X (.ListComp elt [⟨tg,iter,ifs,0⟩] scope pos) (yw sub wi g tt te):=by
 intro pins s U H Q I h;rw [eval_ListComp];have hcl:∀ x∈scope.names,x.2=NameKind.free->∃ c,X.env.cells.lookup x.1=some c:=fun x hx hk=>I.ok.has x.1 (by have:=S.free x hx hk;rw [← hsc] at this;exact this)
 refine wpAny_comprehension_free (use:=none) rfl hs (tH hcl) S.kind S.loc ?_;refine d7 (hi pins s U H _ I h) fun v s1 h1=>d7 h1 fun itv s2 h2=>?_
 obtain ⟨it,fp,tn,J,H2,e,I2,T,st2,f2,W,⟨m0,w0⟩,turn⟩:=h2;subst e;refine Aa8 (ju fun h₁ hns₁ hk31 hcl₁=>?_);dsimp only at hns₁ hk31 hcl₁ ⊢;generalize hs3:({s2 with heap:=s2.heap.push {cls:=.type "list",dict:=none,data:=.seq ([]:List Value).toArray}}:Shared)=s3;have e3:s2.heap.push {cls:=.type "list",dict:=none,data:=.seq ([]:List Value).toArray}=s3.heap:=by rw [← hs3]
 rw [e3] at hns₁ hk31 hcl₁ ⊢;have hD3:s3.heap.get? s2.heap.objs.size=some {cls:=.type "list",dict:=none,data:=.seq ([]:List Value).toArray}:=by rw [← e3];exact Aaq _ rfl
 have I3:Inv X pins U H2 s3:=by
  rw [← hs3];exact I2.kept (t':=s2.toks) fun b o e=>Aae _ e
 have k23:∀ b o,s2.heap.get? b=some o->s3.heap.get? b=some o:=fun b o e=>by rw [← e3];exact Aae _ e
 have hsz:s3.heap.objs.size=s2.heap.objs.size+1:=by rw [← e3,Abk]
 have hDn:H2 s2.heap.objs.size=none:=I2.hok.fresh (Aad _);have fD:oV X pins H2 s2.heap.objs.size:=I2.fpOk (Aad _) hDn;have hfo:∀ b∈fp,b < s2.heap.objs.size:=fun b hb=>let ⟨o,e,_⟩:=T.obj _ _ st2 b hb;Aal e
 have hDfp:s2.heap.objs.size ∉ fp:=fun z=>absurd (hfo _ z) (Aa7 _)
 have I4:=Ao (tk:=s3.toks+([]:List (Str×Value)).length) S hN hsc I3 f2 (fun b hb=>by rw [hsz];exact Nat.lt_succ_of_lt (hfo b hb)) (D:=s2.heap.objs.size) (by rw [hsz];exact AbR _) fD hns₁ hk31 hcl₁
 have stat:∀ {H':Hp} {ob:Obj},(∀ b∈fp,H' b=none)->∀ b∈fp,oV (sZ X N' scope s3.heap.objs.size s3 H2 (s2.heap.objs.size :: fp)) [(s2.heap.objs.size,ob)] H' b:=fun {H' ob} hn b hb=>by
  obtain ⟨q1,q2⟩:=I4.ok.exf b (Aap _ hb);refine ⟨hn b hb,q1,I4.ok.exfs b (Aap _ hb),.inl (Aap _ hb),q2,fun p hp z=>?_⟩;have hp':p=(s2.heap.objs.size,ob):=by simpa [sZ] using hp
  subst hp';have z':s2.heap.objs.size=b:=z;exact hDfp (by rw [z'];exact hb)
 generalize hXC:sZ X N' scope s3.heap.objs.size s3 H2 (s2.heap.objs.size :: fp)=XC at I4 stat;have eP:XC.prog=X.prog:=by rw [← hXC];rfl
 have eW:XC.w=X.w:=by rw [← hXC];rfl
 have eK:XC.K=X.K:=by rw [← hXC];rfl
 have eA:XC.A=X.A:=by rw [← hXC];rfl
 have eE:XC.env=compEnvC scope (KD X scope s3.heap.objs.size) s3.heap.objs.size X.env:=by rw [← hXC];rfl
 have eC:XC.calm=true:=by rw [← hXC];exact hc
 have eX:XC.xe=fun _ _=>False:=by rw [← hXC];rfl
 have eH:XC.H₀=H2:=by rw [← hXC];rfl
 have eS:XC.s₀=s3:=by rw [← hXC];rfl
 have eF:XC.fs=frs X.stack:=by rw [← hXC];rfl
 have eEx:XC.ex=s2.heap.objs.size :: fp:=by rw [← hXC];rfl
 have ePn:XC.pn=[]:=by rw [← hXC];rfl
 have hgC:PG XC tg g:=by rw [← hXC];exact hg _ _ _ _
 have htC:Eg XC ifs tt:=by rw [← hXC];exact ht _ _ _ _
 have heC:PE XC elt te:=by rw [← hXC];exact he _ _ _ _
 have pinD:∀ {U':St} {H':Hp} {s':Shared} {ob:Obj},Inv XC [] U' H' s'->H' s2.heap.objs.size=none->s'.heap.get? s2.heap.objs.size=some ob->(∀ v,ob.data≠.cell v)->Inv XC [(s2.heap.objs.size,ob)] U' H' s':=fun {U' H' s' ob} J hn hg hd=>
  J.pins_of fun p hp=>by
   have hp':p=(s2.heap.objs.size,ob):=by simpa using hp
   subst hp';refine ⟨hg,hn,(J.ok.exf _ (by rw [eEx];exact AaH)).1,J.ok.exfs _ (by rw [eEx];exact AaH),hd⟩
 have loop:codeAny (model X.prog X.w) X.A (.compLoop (.ListComp elt [⟨tg,iter,ifs,0⟩] scope pos) 0 (.ref it) (.ref s2.heap.objs.size) (compEnvC scope (KD X scope s3.heap.objs.size) s3.heap.objs.size X.env))
   (compPost (model X.prog X.w) X.A X.xe none (EP X pins U Q) (.ref s2.heap.objs.size) s3.heap.objs.size) {s3 with heap:=h₁,toks:=s3.toks+([]:List (Str×Value)).length}:=by
  refine An (fun n s'=>∃ (i:Nat) (ys:List V) (its:List Value) (nn:Nat) (H':Hp),Inv XC [] (eU sub U) H' s'/\tn i s'.heap/\(∀ b∈fp,H' b=none)/\H' s2.heap.objs.size=none/\
   s'.heap.get? s2.heap.objs.size=some {cls:=.type "list",data:=.seq its.toArray nn}/\Vals ys its/\W i n ys H') ?_ m0
   ⟨0,[],[],_,H2,I4,T.keep _ _ _ st2 fun b _ o e=>hk31 b o (k23 b o e),fun b hb=>(f2 b hb).1,hDn,hk31 _ _ hD3,.nil,w0⟩
  rintro n s4 ⟨i,ys,its,nn,H4,J4,st4,fr4,dn4,dg4,rv4,w4⟩;have P4:=pinD J4 dn4 dg4 (fun v z=>by cases z);rcases turn i n ys H4 w4 with ⟨stop,hyl,qn⟩ | ⟨go,hyl,N,hN,step⟩
  ·have hdone:=T.done XC eP eW eK eC i _ s4 _ H4 (fun _ _=>False) P4 (stat fr4) st4 stop
   rw [eA] at hdone;refine AaP hdone (fun r s5 ⟨hr,I5⟩=>?_) fun _ _ z=>z
   subst hr;obtain ⟨m,hn,_⟩:=id I5.loc;have hCe:XC.env.locals=s3.heap.objs.size:=by rw [eE];rfl
   rw [hCe] at hn;refine ⟨m,hn,fun h6 hs6=>?_⟩;have hDg:=(I5.pin (s2.heap.objs.size,_) (by rw [ePn];exact AaH)).1;have hDne:s2.heap.objs.size≠s3.heap.objs.size:=by rw [hsz];exact AaJ (AbR _)
   have hHC:H4 s3.heap.objs.size=none:=by have:=I5.free;rw [hCe] at this;exact this
   have k56:∀ b o,b≠s3.heap.objs.size->s5.heap.get? b=some o->h6.get? b=some o:=fun b o hb e=>hs6.extBut b o hb e
   have un:=I5.base;rw [eF,eEx,eH,eS] at un;have nC:∀ b o,s3.heap.get? b=some o->b≠s3.heap.objs.size:=fun b o e=>AaJ (Aal e)
   have hok6:HOk X.prog X.w (upd H4 s2.heap.objs.size (.lst ys)) h6:=by
    have h5:=I5.hok;rw [eP,eW] at h5;have Q7:∀ b u,H4 b=some u->b≠s3.heap.objs.size:=fun b u e z=>by rw [z,hHC] at e;cases e
    intro b u e;by_cases hb:b=s2.heap.objs.size
    ·subst hb
     rw [aj] at e;cases e;exact ⟨hyl,its,nn,rv4,k56 _ _ hDne hDg⟩
    ·rw [aD hb] at e
     have nD:∀ c u,H4 c=some u->c≠s2.heap.objs.size:=fun c u e z=>by rw [z,dn4] at e;cases e
     refine (h5 b u e).stay (fun c v hc' q=>k56 c v ?_ q) (fun c q=>by rw [aD (nD c _ q)];exact q) fun c xs q=>by rw [aD (nD c _ q)];exact q
     rcases hc' with z | z
     ·rw [z];exact Q7 b u e
     ·exact Q7 c _ z
   have nD2:∀ c u,H4 c=some u->c≠s2.heap.objs.size:=fun c u e z=>by rw [z,dn4] at e;cases e
   have un6:Un (frs X.stack) (s2.heap.objs.size :: fp) H2 (upd H4 s2.heap.objs.size (.lst ys)) s3.heap h6:=
    ⟨fun b o e nn' hb hx=>k56 b o (nC b o e) (un.keep b o e nn' hb hx),fun b o e nn' hb hx=>let ⟨sl,q⟩:=un.slot b o e nn' hb hx;⟨sl,k56 b _ (nC b o e) q⟩,
     fun b o e nn' hx=>by rw [aD (fun z=>hx (by rw [z];exact AaH))];exact un.free b o e nn' hx,
     fun b o e hx=>let ⟨o',q⟩:=un.there b o e hx;⟨o',k56 b o' (nC b o e) q⟩,
     fun b xs e=>by have q:=un.tups b xs e;rw [aD (nD2 b _ q)];exact q,
     fun b o u e=>by have q:=un.frzs b o u e;rw [aD (nD2 b _ q)];exact q,
     fun b ps e=>let ⟨more,q⟩:=un.tbls b ps e;⟨more,by rw [aD (nD2 b _ q)];exact q⟩⟩
   have I6:Inv X pins U (upd H4 s2.heap.objs.size (.lst ys)) {s5 with heap:=h6}:=by
    refine I3.call' (s':={s5 with heap:=h6}) (ch:=s2.heap.objs.size :: fp) ?_ un6 hok6 I5.bare fun b hb=>?_
    ·show s5.os=s3.os
     have:=I5.os;rw [eS] at this;exact this
    ·have q:oV X pins H2 b:=by
      rcases Aaj.mp hb with rfl | z
      ·exact fD
      ·exact f2 b z
     obtain ⟨f0,f1,f2',f3,f4,f5⟩:=q;exact ⟨f3,f1,f4,f5⟩
   exact ⟨.ref s2.heap.objs.size,_,I6,rfl,qn _ dn4⟩
  ·have hitem:=T.item XC eP eW eK eC i _ s4 _ H4 (fun _ _=>False) P4 (stat fr4) st4 go
   rw [eA] at hitem;refine AaP hitem (fun r s5 ⟨u,hr,h5⟩=>?_) fun _ _ z=>z
   subst hr;dsimp only;refine AaP h5 (fun _ s6 ⟨x,H6,I6,r6,y6,st6,fr6⟩=>?_) fun _ _ z=>z
   have P6:=I6.pinned (stat fr6) (T.obj _ _ st6);rw [← eE,← eP,← eW,← eA];refine AaP (hgC _ s6 _ H6 x u _ P6 r6 (step x H6 y6)) (fun _ s7 ⟨σ7,H7,I7,kp7,q7⟩=>?_) fun _ _ z=>by rw [eX] at z;exact z
   refine AaP (htC _ s7 σ7 H7 _ I7 q7) (fun ok s8 ⟨H8,I8,q8⟩=>?_) fun _ _ z=>by rw [eX] at z;exact z
   have fin:∀ {H9:Hp} {s9:Shared},Inv XC ([(s2.heap.objs.size,({cls:=.type "list",data:=.seq its.toArray nn}:Obj))] ++ vR fp s6.heap) σ7 H9 s9->Inv XC [] (eU sub U) H9 s9/\tn (i+1) s9.heap/\(∀ b∈fp,H9 b=none)/\H9 s2.heap.objs.size=none/\
     s9.heap.get? s2.heap.objs.size=some {cls:=.type "list",data:=.seq its.toArray nn}:=fun {H9 s9} J=>by
    have pD:=J.pin (s2.heap.objs.size,({cls:=.type "list",data:=.seq its.toArray nn}:Obj)) (by rw [ePn];simp)
    have pF:∀ b∈fp,∀ o,s6.heap.get? b=some o->s9.heap.get? b=some o/\H9 b=none:=fun b hb o e=>by
     have q:=J.pin (b,o) (by rw [ePn];exact AaV _ (AaV _ (pJ hb e)));exact ⟨q.1,q.2.1⟩
    refine ⟨?_,T.keep _ _ _ st6 fun b hb o e=>(pF b hb o e).1,fun b hb=>?_,pD.2.1,pD.1⟩
    ·have J0:Inv XC [] σ7 H9 s9:=J.pins_of fun p hp=>nomatch hp
     exact J0.weak kp7.1.symm fun j v e=>kp7.2 j v e
    ·obtain ⟨o,e,_⟩:=T.obj _ _ st6 b hb
     exact (pF b hb o e).2
   cases ok with
   | false=>
    rw [if_neg (by simp)];rw [if_neg (by simp)] at q8;obtain ⟨m',hm,w8⟩:=hN _ _ q8;obtain ⟨a1,a2,a3,a4,a5⟩:=fin I8;exact ⟨m',hm,i+1,ys,its,nn,H8,a1,a2,a3,a4,a5,rv4,w8⟩
   | true=>
    rw [if_pos rfl];rw [if_pos rfl] at q8;refine AaP (heC _ s8 σ7 H8 _ I8 q8) (fun xv s9 ⟨y,H9,I9,r9,n9⟩=>?_) fun _ _ z=>by rw [eX] at z;exact z
    obtain ⟨m',hm,w9⟩:=hN _ _ n9;obtain ⟨a1,a2,a3,a4,a5⟩:=fin I9;refine wpAny_list_append_plain (items:=its.toArray) ⟨nn,a5⟩ (fun h' ⟨n',hp'⟩ sb=>?_) (by simp;rw [← rv4.length];omega);obtain ⟨q1,q2⟩:=I4.ok.exf s2.heap.objs.size (by rw [eEx];exact AaH);have a1':Inv XC [] (eU sub U) H9 {s9 with heap:=h'}:=a1.turned (t':=s9.toks) (fun b o hb e=>(sb.2 b hb).trans e) a4 q1 (.inl (by rw [eEx];exact AaH)) q2 (fun p hp=>by rw [ePn] at hp;exact nomatch hp);refine ⟨m',hm,i+1,ys ++ [y],its ++ [xv],n',H9,a1',T.keep _ _ _ a2 fun b hb o e=>(sb.2 b (fun z=>hDfp (by rw [← z];exact hb))).trans e,a3,a4,?_,rv4.append (.cons r9 .nil),w9⟩;rw [hp'];simp
 subst hs3;exact codeAny_compStart_list loop (T.self _ 0 _ _ _ (T.keep _ _ _ st2 fun b _ o e=>hk31 b o (k23 b o e)) loop)
end
abbrev uU (sub:List (Option Nat)) (g:TG) (tt:TT) (te:TE) (U:St) (Q:VK) (J:It) (H1:Hp):Prop:=∃ W:Nat->Nat->List V->Hp->Prop,(∃ m,W 0 m [] H1)/\∀ i m ys H,W i m ys H->
 (J.stop i H/\ys.length<=sizeLine/\∀ D,H D=none->Q (.ref D) (upd H D (.lst ys)))\/
 (J.go i H/\ys.length < sizeLine/\∃ N:List V->Hp->Prop,(∀ ys' H',N ys' H'->∃ m',m' < m/\W (i+1) m' ys' H')/\
  ∀ x H',J.yld i H x H'->g x (eU sub U) H' fun σ2 H2=>KeepSt (eU sub U) σ2/\tt σ2 H2 fun b H3=>if b=true then te σ2 H3 fun y H4=>N (ys ++ [y]) H4 else N ys H3)
theorem BV {sub:List (Option Nat)} {g:TG} {tt:TT} {te:TE} {U:St} {Q:VK} {J:It} {H:Hp} {n:Nat} (Pv:Nat->List V->Hp->Prop) (hn:n<=sizeLine) (h0:Pv 0 [] H) (hl:∀ i ys H,Pv i ys H->ys.length<=i)
  (hgo:∀ i ys H,i < n->Pv i ys H->J.go i H) (hstop:∀ ys H,Pv n ys H->J.stop n H)
  (hs:∀ i ys H x H',i < n->Pv i ys H->J.yld i H x H'->g x (eU sub U) H' fun σ2 H2=>KeepSt (eU sub U) σ2/\tt σ2 H2 fun b H3=>if b=true then te σ2 H3 fun y H4=>Pv (i+1) (ys ++ [y]) H4 else Pv (i+1) ys H3)
  (hd:∀ ys H,Pv n ys H->∀ D,H D=none->Q (.ref D) (upd H D (.lst ys))):uU sub g tt te U Q J H:=by
 refine ⟨fun i m ys H=>m=n - i/\i<=n/\Pv i ys H,⟨n,by simp,Abb _,h0⟩,?_⟩;rintro i m ys H ⟨rfl,hi,p⟩;have hl':=hl i ys H p;by_cases hlt:i < n
 ·exact .inr ⟨hgo i ys H hlt p,by omega,fun ys' H'=>Pv (i+1) ys' H',fun ys' H' p'=>⟨n - (i+1),by omega,rfl,hlt,p'⟩,fun x H' y=>hs i ys H x H' hlt p y⟩
 ·have e:i=n:=by omega
  subst e;exact .inl ⟨hstop ys H p,by omega,hd ys H p⟩
section
variable {κ:Type} [DecidableEq κ]
def lA (kvs:List (κ×V)) (k:κ):Option V:=(kvs.find? fun kv=>decide (kv.1=k)).map (·.2)
def putK (kvs:List (κ×V)) (k:κ) (v:V):List (κ×V):=
 if (kvs.any fun kv=>decide (kv.1=k))=true then kvs.map (fun kv=>if kv.1=k then (kv.1,v) else kv) else kvs ++ [(k,v)]
theorem Eh {k:κ}:lA ([]:List (κ×V)) k=none:=rfl
theorem iJ {p:κ×V} {r:List (κ×V)} {k:κ} (e:p.1=k):lA (p :: r) k=some p.2:=by simp [lA,Ab0,e]
theorem iK {p:κ×V} {r:List (κ×V)} {k:κ} (e:¬ p.1=k):lA (p :: r) k=lA r k:=by simp [lA,Ab0,e]
theorem uV (k:κ):∀ kvs:List (κ×V),(kvs.any fun kv=>decide (kv.1=k))=(lA kvs k).isSome
 | []=>rfl
 | p :: r=>by
  rw [List.any_cons];by_cases e:p.1=k
  ·simp only [iJ e,Aar e,Bool.true_or,Option.isSome_some]
  ·rw [iK e,Aao e,Bool.false_or];exact uV k r
theorem Ei (k j:κ) (y:V):∀ kvs:List (κ×V),lA (kvs.map fun kv=>if kv.1=k then (kv.1,y) else kv) j=(lA kvs j).map fun x=>if j=k then y else x
 | []=>rfl
 | p :: r=>by
  have ih:=Ei k j y r;rw [AaW];by_cases h:p.1=k
  ·rw [if_pos h]
   by_cases e:p.1=j
   ·rw [iJ (p:=(p.1,y)) e,iJ e,Option.map_some,if_pos (e.symm.trans h)]
   ·rw [iK (p:=(p.1,y)) e,iK e,ih]
  ·rw [if_neg h]
   by_cases e:p.1=j
   ·rw [iJ (p:=p) e,iJ e,Option.map_some,if_neg (fun z=>h (e.trans z))]
   ·rw [iK (p:=p) e,iK e,ih]
theorem Aq (k j:κ) (y:V):∀ kvs:List (κ×V),lA kvs k=none->lA (kvs ++ [(k,y)]) j=if j=k then some y else lA kvs j
 | [],_=>by
  by_cases e:k=j
  ·rw [if_pos e.symm];exact iJ (p:=(k,y)) e
  ·rw [if_neg (fun z=>e z.symm)];exact iK (p:=(k,y)) e
 | p :: r,hn=>by
  rw [List.cons_append];have hk:¬ p.1=k:=fun z=>by rw [iJ z] at hn;cases hn
  rw [iK hk] at hn;have ih:=Aq k j y r hn;by_cases e:p.1=j
  ·rw [iJ e,iJ e,if_neg (fun z=>hk (e.trans z))]
  ·rw [iK e,iK e,ih]
theorem uW (kvs:List (κ×V)) (k j:κ) (y:V):lA (putK kvs k y) j=if j=k then some y else lA kvs j:=by
 unfold putK;by_cases a:(kvs.any fun kv=>decide (kv.1=k))=true
 ·rw [if_pos a,Ei]
  rw [uV] at a;by_cases e:j=k
  ·obtain ⟨x,hx⟩:=Option.isSome_iff_exists.mp a
   rw [if_pos e,e,hx,Option.map_some,if_pos rfl]
  ·rw [if_neg e]
   cases lA kvs j with
   | none=>rfl
   | some x=>rw [Option.map_some,if_neg e]
 ·rw [if_neg a]
  refine Aq k j y kvs ?_;rw [uV] at a;cases q:lA kvs k with
  | none=>rfl
  | some x=>rw [q] at a;exact (a rfl).elim
theorem lB (kvs:List (κ×V)) (k:κ) (v:V):(putK kvs k v).length<=kvs.length+1:=by
 unfold putK
 split
 ·rw [Aaf];omega
 ·rw [AaR,Aba,List.length_nil];omega
theorem RelO.isSome_eq {o:Option V} {u:Option Value} (r:RelO o u):o.isSome=u.isSome:=by
 cases o with
 | none=>cases u with
  | none=>rfl
  | some _=>exact (show False from r).elim
 | some _=>cases u with
  | none=>exact (show False from r).elim
  | some _=>rfl
theorem KV.val {kvs:List (κ×V)} {vs:List (κ×Value)} (r:KV kvs vs) (k:κ):RelO (lA kvs k) (valueAt vs k):=by
 unfold KV at r
 induction r with
 | nil=>exact True.intro
 | @cons p q ps qs h t ih=>
  obtain ⟨h1,h2⟩:=h;by_cases e:p.1=k
  ·have e':q.1=k:=h1.symm.trans e
   have b:valueAt (q :: qs) k=some q.2:=by simp [valueAt,Ab0,e']
   rw [iJ e,b];exact h2
  ·have e':¬ q.1=k:=fun z=>e (h1.trans z)
   have b:valueAt (q :: qs) k=valueAt qs k:=by simp [valueAt,Ab0,e']
   rw [iK e,b];exact ih
theorem KV.any {kvs:List (κ×V)} {vs:List (κ×Value)} (r:KV kvs vs) (k:κ):(kvs.any fun kv=>decide (kv.1=k))=vs.any fun kv=>decide (kv.1=k):=by
 unfold KV at r
 induction r with
 | nil=>rfl
 | cons h t ih=>rw [List.any_cons,List.any_cons,ih,h.1]
theorem KV.repl {kvs:List (κ×V)} {vs:List (κ×Value)} (r:KV kvs vs) (k:κ) {y:V} {u:Value} (ry:RelV y u):
  KV (kvs.map fun kv=>if kv.1=k then (kv.1,y) else kv) (vs.map fun kv=>if kv.1=k then (kv.1,u) else kv):=by
 unfold KV at r ⊢
 induction r with
 | nil=>exact .nil
 | @cons p q ps qs h t ih=>
  rw [AaW,AaW];refine .cons ?_ ih;obtain ⟨h1,h2⟩:=h;by_cases e:p.1=k
  ·rw [if_pos e,if_pos (h1.symm.trans e)];exact ⟨h1,ry⟩
  ·rw [if_neg e,if_neg (fun z=>e (h1.trans z))];exact ⟨h1,h2⟩
theorem KV.put {kvs:List (κ×V)} {vs:List (κ×Value)} (r:KV kvs vs) (k:κ) {y:V} {u:Value} (ry:RelV y u):KV (putK kvs k y) (stored vs k u):=by
 unfold putK stored;rw [r.any k];by_cases e:(vs.any fun kv=>decide (kv.1=k))=true
 ·rw [if_pos e,if_pos e];exact r.repl k ry
 ·rw [if_neg e,if_neg e];exact Paired.snoc r ⟨rfl,ry⟩
theorem KV.length {kvs:List (κ×V)} {vs:List (κ×Value)} (r:KV kvs vs):kvs.length=vs.length:=Paired.length r
end
theorem Ej {P:Program} {w:World} {k:Key} {u:Value} (r:RelV (kV k) u):(eY P w).is k u=true:=by
 cases k with
 | inl i=>obtain ⟨t,e⟩:=(show ∃ t,u=Value.int i t from r);subst e;exact DN P w i t
 | inr x=>obtain ⟨t,e⟩:=(show ∃ t,u=Value.str x t from r);subst e;exact DP P w x t
theorem Ar {P:Program} {w:World}:∀ {ks:List Key} {us:List Value},Vals (ks.map kV) us->ItemsAre (eY P w) ks us
 | [],_,r=>by rw [List.map_nil] at r;cases r;exact .nil
 | k :: ks,_,r=>by
  rw [AaW] at r;cases r with
  | cons h t=>exact .cons (Ej h) (Ar t)
abbrev KT (H:Hp):List (List Key×V)->List (List Key×Addr×Value)->Prop:=Paired fun p q=>p.1=q.1/\H q.2.1=some (.tup (p.1.map kV))/\RelV p.2 q.2.2
theorem KT.val {H:Hp} {kvs:List (List Key×V)} {xs:List (List Key×Addr×Value)} (r:KT H kvs xs) (k:List Key):RelO (lA kvs k) ((atKey xs k).map (·.2)):=by
 induction r with
 | nil=>exact True.intro
 | @cons p q ps qs h t ih=>
  obtain ⟨h1,_,h2⟩:=h;by_cases e:p.1=k
  ·have e':q.1=k:=h1.symm.trans e
   have b:atKey (q :: qs) k=some q.2:=by simp [atKey,Ab0,e']
   rw [iJ e,b];exact h2
  ·have e':¬ q.1=k:=fun z=>e (h1.trans z)
   have b:atKey (q :: qs) k=atKey qs k:=by simp [atKey,Ab0,e']
   rw [iK e,b];exact ih
theorem KT.repl {H:Hp} {kvs:List (List Key×V)} {xs:List (List Key×Addr×Value)} (r:KT H kvs xs) (k:List Key) {y:V} {u:Value} (ry:RelV y u):
  KT H (kvs.map fun kv=>if kv.1=k then (kv.1,y) else kv) (xs.map (putAt k u)):=by
 induction r with
 | nil=>exact .nil
 | @cons p q ps qs h t ih=>
  rw [AaW,AaW];refine .cons ?_ ih;obtain ⟨h1,h2,h3⟩:=h;unfold putAt;by_cases e:p.1=k
  ·rw [if_pos e,if_pos (h1.symm.trans e)];exact ⟨h1,h2,ry⟩
  ·rw [if_neg e,if_neg (fun z=>e (h1.trans z))];exact ⟨h1,h2,h3⟩
theorem KT.put {H:Hp} {kvs:List (List Key×V)} {xs:List (List Key×Addr×Value)} (r:KT H kvs xs) (k:List Key) {b:Addr} {y:V} {u:Value} (hb:H b=some (.tup (k.map kV))) (ry:RelV y u):
  KT H (putK kvs k y) (storedH xs k b u):=by
 have e:(kvs.any fun kv=>decide (kv.1=k))=(atKey xs k).isSome:=by
  rw [uV,(r.val k).isSome_eq,Option.isSome_map]
 unfold putK storedH;rw [e];by_cases q:(atKey xs k).isSome=true
 ·rw [if_pos q,if_pos q];exact r.repl k ry
 ·rw [if_neg q,if_neg q];exact Paired.snoc r ⟨rfl,hb,ry⟩
theorem KT.keeps {H H':Hp} {kvs:List (List Key×V)} {xs:List (List Key×Addr×Value)} (r:KT H kvs xs) (ht:∀ b ys,H b=some (.tup ys)->H' b=some (.tup ys)):KT H' kvs xs:=
 Paired.mapP r fun _ _ z=>⟨z.1,ht _ _ z.2.1,z.2.2⟩
section
variable {P:Program} {w:World} {H:Hp} {h:Heap} {a:Addr}
theorem UW {u:HO} (ok:HOk P w H h) (e:Rd H a u):ObjOk P w H h a u:=e.ok ok
theorem Ek {kvs:List (Key×V)} (ok:HOk P w H h) (e:Rd H a (.dK kvs)):kvs.length<=sizeLine/\(a == sysModules)=false/\∃ vs,KV kvs vs/\h.DictOf (eY P w) a vs:=
 show ObjOk P w H h a (.dK kvs) from UW ok e
theorem Zi {kvs:List (Key×V)} (ok:HOk P w H h) (e:H a=some (.dK kvs)):kvs.length<=sizeLine/\(a == sysModules)=false/\∃ vs,KV kvs vs/\h.DictOf (eY P w) a vs:=Ek ok (.inl e)
theorem yx {ks:List Key} (ok:HOk P w H h) (e:H a=some (.tup (ks.map kV))):(tupleKind (eY P w)).is h ks a:=by
 obtain ⟨_,its,r,o,h1,h2,n,h3⟩:=(show ObjOk P w H h a (.tup (ks.map kV)) from ok a _ e);exact ⟨o,its.toArray,n,h1,h2,h3,by simpa using Ar r⟩
theorem El {kvs:List (List Key×V)} (ok:HOk P w H h) (e:Rd H a (.dT kvs)):kvs.length<=sizeLine/\(a == sysModules)=false/\
  ∃ xs,KT H kvs xs/\h.DictOfH (tupleKind (eY P w)) a xs:=by
 obtain ⟨z,y,xs,r,o,es,ep,h1,h2,h3,h4,h5⟩:=(show ObjOk P w H h a (.dT kvs) from UW ok e);refine ⟨z,y,xs,r,o,es,ep,h1,h2,h3,h4,fun x hx=>?_,h5⟩
 have all:∀ {l:List (List Key×V)} {m:List (List Key×Addr×Value)},KT H l m->∀ x∈m,(tupleKind (eY P w)).is h x.1 x.2.1:=by
  intro l m q
  induction q with
  | nil=>intro x hx;exact nomatch hx
  | @cons p q ps qs hq t ih=>
   intro x hx;rcases Aaj.mp hx with e | hx
   ·subst e
    exact yx ok (by rw [← hq.1];exact hq.2.1)
   ·exact ih x hx
 exact all r x hx
theorem Zj {kvs:List (List Key×V)} (ok:HOk P w H h) (e:H a=some (.dT kvs)):kvs.length<=sizeLine/\(a == sysModules)=false/\
  ∃ xs,KT H kvs xs/\h.DictOfH (tupleKind (eY P w)) a xs:=El ok (.inl e)
end
def DGet (H:Hp) (a:Addr) (y:V) (r:Option V):Prop:=
 (∃ kvs k,Rd H a (.dK kvs)/\y=kV k/\r=lA kvs k)\/∃ kvs k b,Rd H a (.dT kvs)/\y= .ref b/\H b=some (.tup (k.map kV))/\r=lA kvs k
def DPut (H:Hp) (a:Addr) (y v:V) (H':Hp):Prop:=
 (∃ kvs k,H a=some (.dK kvs)/\y=kV k/\kvs.length < sizeLine/\H'=upd H a (.dK (putK kvs k v)))\/
 ∃ kvs k b,H a=some (.dT kvs)/\y= .ref b/\H b=some (.tup (k.map kV))/\kvs.length < sizeLine/\H'=upd H a (.dT (putK kvs k v))
theorem DGet.k {H:Hp} {a:Addr} {kvs:List (Key×V)} {k:Key} (e:H a=some (.dK kvs)):DGet H a (kV k) (lA kvs k):=.inl ⟨kvs,k,.inl e,rfl,rfl⟩
theorem DPut.k {H:Hp} {a:Addr} {kvs:List (Key×V)} {k:Key} {v:V} (e:H a=some (.dK kvs)) (hl:kvs.length < sizeLine):DPut H a (kV k) v (upd H a (.dK (putK kvs k v))):=.inl ⟨kvs,k,e,rfl,hl,rfl⟩
section
variable {X:Cx} {pins:List (Addr×Obj)} {U:St} {H:Hp} {s:Shared} {a:Addr} {y v:V} {u r:Value} {o:Option V} {A:Around} {E:Value->Shared->Prop}
theorem Inv.big (I:Inv X pins U H s):sysModules < s.heap.objs.size:=by
 have h:mainGlobals < s.heap.objs.size:=(I.mod.glob.keeps I.bk).lt;exact Nat.lt_trans (by decide) h
theorem KH {Q:Value->Shared->Prop} (hu:A.units+1 < cLine) (I:Inv X pins U H s) (g:DGet H a y (some v)) (ry:RelV y u) (h:∀ w' s',Inv X pins U H s'->RelV v w'->Q w' s'):
  wpAny (model X.prog X.w) A (getItem (.ref a) u) Q E s:=by
 rcases g with ⟨kvs,k,e,ey,l⟩ | ⟨kvs,k,b,e,ey,eb,l⟩
 ·subst ey
  obtain ⟨z,hd,vs,rel,dd⟩:=Ek I.hok e;obtain ⟨w',hw,rw'⟩:=RelO.some_of (v:=v) (o:=valueAt vs k) (by rw [l];exact rel.val k);exact wpAny_getItem_of (Ej ry) dd.mapOf hw (h w' _ (I.tok _) rw')
 ·subst ey
  cases (show u=Value.ref b from ry);obtain ⟨z,hd,xs,rel,dd⟩:=El I.hok e;obtain ⟨w',hw,rw'⟩:=RelO.some_of (v:=v) (o:=(atKey xs k).map (·.2)) (by rw [l];exact rel.val k);obtain ⟨p,hp,hp2⟩:=AaT.mp hw;refine wpAny_getItem_heap (tupleKind_room_in1 hu) (yx I.hok eb) dd hp ?_;rw [hp2];exact h w' _ (I.tok _) rw'
theorem d_in {Q:Value->Shared->Prop} (hu:A.units+1 < cLine) (I:Inv X pins U H s) (g:DGet H a y o) (ry:RelV y u) (h:∀ s',Inv X pins U H s'->Q (.bool o.isSome) s'):
  wpAny (model X.prog X.w) A (compareOp .In u (.ref a)) Q E s:=by
 rcases g with ⟨kvs,k,e,ey,l⟩ | ⟨kvs,k,b,e,ey,eb,l⟩
 ·subst ey
  obtain ⟨z,hd,vs,rel,dd⟩:=Ek I.hok e;refine wpAny_in_of (Ej ry) hd dd.mapOf ?_;rw [← (rel.val k).isSome_eq,← l];exact h _ (I.tok _)
 ·subst ey
  cases (show u=Value.ref b from ry);obtain ⟨z,hd,xs,rel,dd⟩:=El I.hok e;refine wpAny_in_heap (tupleKind_room_in1 hu) (yx I.hok eb) hd dd ?_;have q:=(rel.val k).isSome_eq;rw [Option.isSome_map] at q;rw [← q,← l];exact h _ (I.tok _)
theorem RL {Q:Value->Shared->Prop} (hu:A.units+1 < cLine) (I:Inv X pins U H s) (g:DGet H a y o) (ry:RelV y u) (h:∀ s',Inv X pins U H s'->Q (.bool (!o.isSome)) s'):
  wpAny (model X.prog X.w) A (compareOp .NotIn u (.ref a)) Q E s:=by
 rcases g with ⟨kvs,k,e,ey,l⟩ | ⟨kvs,k,b,e,ey,eb,l⟩
 ·subst ey
  obtain ⟨z,hd,vs,rel,dd⟩:=Ek I.hok e;refine wpAny_notIn_of (Ej ry) hd dd.mapOf ?_;rw [← (rel.val k).isSome_eq,← l];exact h _ (I.tok _)
 ·subst ey
  cases (show u=Value.ref b from ry);obtain ⟨z,hd,xs,rel,dd⟩:=El I.hok e;refine wpAny_notIn_heap (tupleKind_room_in1 hu) (yx I.hok eb) hd dd ?_;have q:=(rel.val k).isSome_eq;rw [Option.isSome_map] at q;rw [← q,← l];exact h _ (I.tok _)
theorem Iw {h':Heap} {t':Nat} {ob:HO} (I:Inv X pins U H s) (mu:YK (H a)) (hs:Heap.SameBut a s.heap h') (he:∃ q,h'.get? a=some q) (new:ObjOk X.prog X.w (upd H a ob) h' a ob):
  Inv X pins U (upd H a ob) {s with heap:=h',toks:=t'}:=
 I.write (x:=a) (e:=a) mu (.inl rfl) (fun b q hb z=>(hs.2 b hb).trans z) he new
theorem WF {P:Program} {w:World} {H':Hp} {h':Heap} {kvs:List (Key×V)} {vs:List (Key×Value)} (z:kvs.length<=sizeLine) (hd:(a == sysModules)=false) (rel:KV kvs vs) (dd:h'.DictOf (eY P w) a vs):
  ObjOk P w H' h' a (.dK kvs):=⟨z,hd,vs,rel,dd⟩
theorem KJ {H':Hp} {Q:Unit->Shared->Prop} (hu:A.units+1 < cLine) (I:Inv X pins U H s) (g:DPut H a y v H') (ry:RelV y u) (rv:RelV v r) (h:∀ s',Inv X pins U H' s'->Q () s'):
  wpAny (model X.prog X.w) A (setItem (.ref a) u r) Q E s:=by
 rcases g with ⟨kvs,k,e,ey,l,eH⟩ | ⟨kvs,k,b,e,ey,eb,l,eH⟩
 ·subst ey eH
  obtain ⟨z,hd,vs,rel,dd⟩:=Zi I.hok e;have hz:vs.length<=sizeLine:=by rw [← rel.length];exact z
  have hl:(putK kvs k v).length<=sizeLine:=by have:=lB kvs k v;omega
  refine wpAny_setItem_pairs (hsz:=hz) (Ej ry) dd fun h' dd' hs=>h _ ?_
  have he:∃ q,h'.get? a=some q:=let ⟨q,_,_,hq,_⟩:=dd';⟨q,hq⟩
  exact Iw I (by rw [e];exact True.intro) hs he (WF hl hd (rel.put k rv) dd')
 ·subst ey eH
  cases (show u=Value.ref b from ry);obtain ⟨z,hd,xs,rel,dd⟩:=Zj I.hok e;have hz:xs.length<=sizeLine:=by rw [← Paired.length rel];exact z
  have hl:(putK kvs k v).length<=sizeLine:=by have:=lB kvs k v;omega
  refine wpAny_setItem_heap (hsz:=hz) (tupleKind_room_in1 hu) (yx I.hok eb) dd fun h' dd' hs=>h _ ?_
  obtain ⟨q,es,ep,hq,h2,h3,h4,_,h5⟩:=dd';refine Iw I (by rw [e];exact True.intro) hs ⟨q,hq⟩ ⟨hl,hd,_,(rel.put k eb rv).keeps fun c ys ec=>?_,q,es,ep,hq,h2,h3,h4,h5⟩;rw [aD (YJ ec e (fun z=>nomatch z))];exact ec
end
def Zk (i:Expr):Prop:=∀ ov iv,subscripted i false ov iv=operate [ov,iv] (getItem ov iv)
theorem RM {prog:Program} {w:World} {A:Around} {E:Value->Shared->Prop} {s:Shared} {env:Env} {value slice:Expr} {pos:Pos} {T id:String} {Q:Value->Shared->Prop}
  (hl:typeLookup (.type T) "__getitem__"=pure (some (.builtin id))) (hs:Zk slice)
  (h:wpAny (model prog w) A (eval value env) (fun o s₁=>wpAny (model prog w) A (eval slice env) (fun i s₂=>s₂.TypeIs o T/\wpAny (model prog w) A (getItem o i) Q E s₂) E s₁) E s):
  wpAny (model prog w) A (eval (.Subscript value slice pos) env) Q E s:=by
 refine Subscript_ (AaP h (fun o s₁ h₁=>AaP h₁ (fun i s₂ h₂=>?_) fun _ _ x=>x) fun _ _ x=>x);obtain ⟨hT,h₂⟩:=h₂;unfold subscriptTail;refine gV ?_;rw [getitemInPython_of_ne hT.not_modules];refine gV (Ab1 hT hl ?_)
 have fin:wpAny (model prog w) A (subscripted slice false o i) (fun r s₃=>wpAny (model prog w) A (letTemporaryGo value o r >>=fun _=>pure r) Q E s₃) E s₂:=by
  rw [hs o i];exact wpAny_operating (AaP h₂ (fun r s₃ h₃=>gV (wpAny_letTemporaryGo (Aag h₃))) fun _ _ x=>x)
 first
  | exact Aag (gV fin)
  | exact gV (Aag (gV fin))
  | exact gV fin
theorem Em {X:Cx} {pins:List (Addr×Obj)} {U:St} {H:Hp} {s:Shared} {a:Addr} {y:V} {o:Option V} (I:Inv X pins U H s) (g:DGet H a y o):s.TypeIs (.ref a) "dict":=by
 rcases g with ⟨kvs,k,e,_,_⟩ | ⟨kvs,k,b,e,_,_,_⟩
 ·obtain ⟨_,_,vs,_,dd⟩:=Ek I.hok e
  exact dd.typeIs
 ·obtain ⟨_,_,xs,_,dd⟩:=El I.hok e
  exact dd.typeIs
def NQ (td ty:TE):TE:=fun U H Q=>td U H fun x H1=>ty U H1 fun y H2=>∃ a v,x= .ref a/\DGet H2 a y (some v)/\Q v H2
section
variable {X:Cx} {o i e value:Expr} {pos pos' tpos:Pos} {td ty tv:TE}
theorem RN (hu:X.A.units+1 < cLine) (ho:PE X o td) (hi:PE X i ty) (hs:Zk i):PE X (.Subscript o i pos) (NQ td ty):=by
 intro pins s U H Q I h;refine RM PySem.F.slot_dict_getitem.lookup hs (d7 (ho pins s U H _ I h) fun u s1 ⟨x,H1,I1,rx,q1⟩=>d7 (hi pins s1 U H1 _ I1 q1) fun iv s2 qq0=>?_);obtain ⟨y,H2,I2,ry,a,v,ex,g,q2⟩:=qq0;subst ex;obtain rfl:u=Value.ref a:=rx;exact ⟨Em I2 g,KH hu I2 g ry fun w' s3 I3 rw'=>⟨v,H2,I3,rw',q2⟩⟩
end
theorem NT {P:Program} {w:World} {H:Hp} (h:Heap) (hb:sysModules < h.objs.size):ObjOk P w H (h.push {cls:=.type "dict",data:=.dict #[]}) h.objs.size (.dK []):=
 ⟨Abb _,Abx.mpr (Ne.symm (AaJ hb)),[],.nil,Heap.DictOf.new h⟩
def G5:TE:=fun _ H Q=>∀ p,H p=none->Q (.ref p) (upd H p (.dK []))
section
variable {X:Cx} {pos:Pos}
theorem NZ:PE X (.Dict [] [] pos) G5:=fun pins s U H Q I h=>
 wpAny_Dict_empty ⟨.ref s.heap.objs.size,_,I.laid (a:=s.heap.objs.size) (o:=.dK []) (t':=s.toks) (fun _ _ q=>Aae _ q) (Aad _) (NT s.heap I.big),rfl,h _ (I.hok.fresh (Aad _))⟩
end
def RP (x:Str):It:=⟨fun i _=>i < x.cps.size,fun i H v H'=>H'=H/\∃ c,x.cps[i]?=some c/\v= .str ⟨#[c]⟩,fun i _=>i=x.cps.size⟩
theorem En {P:Program} {w:World} {K:W.Frag} {tg:Expr} (it:Addr) (x:Str) (t:Tok) (ty:String)
  (hty:["enumerate","zip","dict_itemiterator","dict_reverseitemiterator","odict_iterator","itertools.zip_longest","itertools.pairwise"].contains ty=false)
  (W:∀ A:Around,A.handled=none->Walks P w A it [it] [it] x.cps.size (SignAt x) fun i h=>h.IsStrIter it ty x t i)
  (hself:∀ (A:Around) (i:Nat) (s:Shared) (Q:Value->Shared->Prop) (E:Value->Shared->Prop),s.heap.IsStrIter it ty x t i->Q (.ref it) s->wpAny (model P w) A (pyIter (.ref it)) Q E s):Turn P w K tg (RP x) [it] it (fun i h=>h.IsStrIter it ty x t i) where
 mem:=by simp
 obj:=fun i h st b hb=>by
  have e:b=it:=by simpa using hb
  subst e;obtain ⟨o,e,c,d⟩:=st;exact ⟨o,e,fun v z=>by rw [d] at z;cases z⟩
 keep:=fun i h h' st k=>by
  obtain ⟨o,e,r⟩:=st;exact ⟨o,k it (by simp) o e,r⟩
 item:=by
  intro X hP hw hK hc i pins s U H E I hf st hg;subst hP hw hK;obtain ⟨f0,f1,f2,f3,f4,f5⟩:=hf it (by simp);refine (W X.A (I.ok.hd hc)).item i s _ _ hg st fun v h' tk hv st' kk=>?_
  obtain ⟨c,u,e1,rfl⟩:=hv;have I1:Inv X pins U H {s with heap:=h',toks:=tk}:=I.turned (fun b o hb e=>kk b o (by simpa using hb) e) f0 f1 f3 f4 f5;obtain ⟨o,e,cl,d⟩:=id st';exact ⟨_,rfl,Ac (s:={s with heap:=h',toks:=tk}) e cl d hty ⟨.str ⟨#[c]⟩,H,I1,⟨u,rfl⟩,⟨rfl,c,e1,rfl⟩,st',fun b hb=>(hf b hb).1⟩⟩
 done:=by
  intro X hP hw hK hc i pins s U H E I hf st hg;subst hP hw hK;obtain ⟨f0,f1,f2,f3,f4,f5⟩:=hf it (by simp);have hg:i=x.cps.size:=hg;subst hg;exact (W X.A (I.ok.hd hc)).done s _ _ st fun h' tk kk=>⟨rfl,I.turned (fun b o hb e=>kk b o (by simpa using hb) e) f0 f1 f3 f4 f5⟩
 self:=hself
section
variable {X:Cx}
theorem all_range {bs:List Bool}:(List.range bs.length).all (fun i=>bs.getD i false)=bs.all id:=by
 rw [Bool.eq_iff_iff];simp only [Abi,AaA];constructor
 ·intro h b hb
  obtain ⟨i,hi,e⟩:=Abe.mp hb;have:=h i hi;rw [Aac,Aaa hi] at this;simp only [Option.getD_some] at this;rw [← e];exact this
 ·intro h i hi
  rw [Aac,Aaa hi];exact h _ (Aa6 hi)
theorem wN:∀ {bs:List Bool} {us:List Value} {i:Nat} {v:Value},Vals (bs.map V.bl) us->us[i]?=some v->v= .bool (bs.getD i false)
 | [],_,i,v,.nil,e=>by simp at e
 | b :: bs,_,0,v,.cons r t,e=>by simp at e;subst e;exact r
 | b :: bs,_,i+1,v,.cons r t,e=>by
  simp at e;have:=wN (bs:=bs) t e;simpa using this
def rAll:List V->Hp->VK->Prop:=fun xs H Q=>∃ (p:Addr) (bs:List Bool),xs=[.ref p]/\H p=some (.lst (bs.map V.bl))/\Q (.bl (bs.all id)) H
theorem yz (hc:X.calm=true):CallR X (.builtin "all") rAll:=by
 intro pins s U H xs us Q I r h;obtain ⟨p,bs,rfl,hp,q⟩:=h;obtain ⟨u,rfl,ru⟩:=vals1 r;cases ru;obtain ⟨hz,its,n,rv,e⟩:=I.hok p _ hp;refine call_all_walk (wpAny_pyIter_list (items:=its.toArray) ⟨_,e,rfl,n,rfl⟩ ?_);refine ⟨s.heap.objs.size,_,_,_,_,_,fun i=>bs.getD i false,rfl,Walks.list (A:=X.A.in1) (I.ok.hd hc) s.heap.objs.size p (AaJ (Aal e)) its.toArray,⟨⟨_,Aaq _ rfl,rfl,rfl⟩,⟨_,Aae _ e,rfl,n,rfl⟩⟩,?_,fun h' tk hk=>?_⟩
 ·intro i v s' Q' E' hv hq
  have:=wN rv (by simpa using hv);subst this;exact Abd hq
 ·have hl:its.toArray.size=bs.length:=by have:=rv.length;simpa using this.symm
  rw [hl,all_range];refine ⟨.bl _,H,?_,rfl,q⟩;exact I.kept fun b o e=>hk b o (by simp;exact AaJ (Aal e)) (Aae _ e)
def Zm:V->Option Int->Option Int->Hp->VK->Prop:=fun v lo hi H Q=>∃ x,v= .str x/\x.length<=sizeLine/\Q (.str (Txt.slice x lo hi)) H
theorem WK:SlR X Zm:=by
 intro pins s U H x v vl vu lo hi sl Q I rx hs pl pu h;obtain ⟨z,rfl,hz,q⟩:=h;obtain ⟨t,rfl⟩:=rx;refine ⟨"str",_,F.slot_str_getitem.lookup,typeIs_str _ _ _,?_⟩;have fin:∀ (t' k:Nat),EP X pins U Q (.str (Txt.slice z lo hi) t') {s with toks:=k}:=fun t' k=>⟨.str _,H,I.tok _,⟨_,rfl⟩,q⟩
 have sz:=Aay (Txt.slice_le z lo hi) hz;obtain ⟨o,ho,hc,hd⟩:=hs;cases pl with
 | none=>
  cases pu with
  | none=>exact Abv (l:=none) (u:=none) (st:=none) ⟨o,ho,hc,hd⟩ rfl (post_val_or_str ⟨sz,fin⟩)
  | int j tj=>exact Abv (l:=none) (u:=some (j,tj)) (st:=none) ⟨o,ho,hc,hd⟩ rfl (post_val_or_str ⟨sz,fin⟩)
 | int i ti=>
  cases pu with
  | none=>exact Abv (l:=some (i,ti)) (u:=none) (st:=none) ⟨o,ho,hc,hd⟩ rfl (post_val_or_str ⟨sz,fin⟩)
  | int j tj=>exact Abv (l:=some (i,ti)) (u:=some (j,tj)) (st:=none) ⟨o,ho,hc,hd⟩ rfl (post_val_or_str ⟨sz,fin⟩)
def U0:R2:=fun x y H Q=>∃ i n,x= .str i/\y= .int n/\MulOk i n/\Q (.str (Txt.mul i n)) H
theorem G6:OpR X (binaryOp .Mult) U0:=by
 intro pins s U H x y v u Q I rx ry h;obtain ⟨i,n,rfl,rfl,hk,q⟩:=h;obtain ⟨t,rfl⟩:=rx;obtain ⟨t',rfl⟩:=ry;exact SB.mul hk fun t' k=>⟨.str _,H,I.tok _,⟨_,rfl⟩,q⟩
def sgn (x:Str):List V:=x.cps.toList.map fun c=>V.str ⟨#[c]⟩
theorem KN {x:Str} {acc:Array Value} (h:ItemsOf (SignAt x) acc x.cps.size):Vals (sgn x) acc.toList:=by
 obtain ⟨h1,h2⟩:=h
 have key:∀ (l:List Nat) (a:List Value),l.length=a.length->(∀ (j:Nat) (v:Value),a[j]?=some v->∃ (c:Nat) (u:Tok),l[j]?=some c/\v=Value.str ⟨#[c]⟩ u)->Vals (l.map fun c=>V.str ⟨#[c]⟩) a:=by
  intro l
  induction l with
  | nil=>intro a hl _;cases a with
   | nil=>exact .nil
   | cons _ _=>simp at hl
  | cons c l ih=>
   intro a hl hh;cases a with
   | nil=>simp at hl
   | cons v a=>
    obtain ⟨c',u,e1,e2⟩:=hh 0 v (by simp);simp at e1;subst e1;refine .cons ⟨u,e2⟩ (ih a (by simpa using hl) fun j v' e=>?_);obtain ⟨c',u,e1,e2⟩:=hh (j+1) v' (by simpa using e);exact ⟨c',u,by simpa using e1,e2⟩
 refine key x.cps.toList acc.toList (by simp [h1]) fun j v e=>?_
 obtain ⟨c,u,e1,e2⟩:=h2 j v (by simpa using e);exact ⟨c,u,by simpa using e1,e2⟩
theorem Eo (hc:X.calm=true):CallR X (.type "list") (fun xs H Q=>∃ x,xs=[.str x]/\x.cps.size<=sizeLine/\∀ p,H p=none->Q (.ref p) (upd H p (.lst (sgn x)))):=by
 intro pins s U H xs us Q I r h;obtain ⟨x,rfl,hz,q⟩:=h;obtain ⟨u,rfl,t,rfl⟩:=vals1 r;refine call_list_str (I.ok.hd hc) x t (hn:=hz) fun h' tk acc' c' hk hS hacc=>?_
 refine ⟨.ref s.heap.objs.size,_,I.laid (o:=.lst (sgn x)) hk (Aad _) ⟨by simp [sgn];exact hz,acc'.toList,c',KN hacc,by simpa using hS⟩,rfl,q _ I.fresh⟩
def WL (K:W.Frag):List V->Hp->VK->Prop:=fun xs H Q=>∃ x T t b,xs=[x,.ty T]/\TyOf K H x t/\PySem.W.kitOne K t (.type T)=some b/\Q (.bl b) H
theorem N5:CallR X (.builtin "isinstance") (WL X.K):=by
 intro pins s U H xs us Q I r h;obtain ⟨x,T,t,b,rfl,ty,e,q⟩:=h;obtain ⟨u,v,rfl,ru,rv⟩:=vals2 r;cases rv;exact Kp I ru ty e fun tk=>⟨.bl b,H,I.tok _,rfl,q⟩
def G7:List V->List V->Bool
 | [],[]=>true
 | x :: xs,y :: ys=>Ir x y && G7 xs ys
 | _,_=>false
theorem yC:∀ (xs ys:List V),xs.length=ys.length->(List.range xs.length).all (fun j=>Ir (xs.getD j .non) (ys.getD j .non))=G7 xs ys
 | [],[],_=>rfl
 | x :: xs,y :: ys,h=>by
  have ih:=yC xs ys (by simpa using h);rw [Aba,List.range_succ_eq_map,AaX,List.all_map];simp only [G7];rw [← ih];rfl
 | [],y :: ys,h=>by simp at h
 | x :: xs,[],h=>by simp at h
theorem Ep:∀ {xs ys:List V},xs.length≠ys.length->G7 xs ys=false
 | [],[],h=>absurd rfl h
 | [],y :: ys,_=>rfl
 | x :: xs,[],_=>rfl
 | x :: xs,y :: ys,h=>by simp [G7,Ep (xs:=xs) (ys:=ys) (by simpa using h)]
def Zn (K:W.Frag) (neg:Bool):R2:=fun x y H Q=>∃ a b xs ys,x= .ref a/\y= .ref b/\SqL K H a xs/\SqL K H b ys/\xs.all oY=true/\ys.all oY=true/\Q (.bl (if neg then !G7 xs ys else G7 xs ys)) H
theorem KQ (hu:X.A.units < cLine):OpR X (compareOp .Eq) (Zn X.K false):=by
 intro pins s U H x y v u Q I rx ry h;obtain ⟨a,b,xs,ys,rfl,rfl,ha,hb,fx,fy,q⟩:=h;cases rx;cases ry;obtain ⟨its,r1,p1,z1⟩:=I.list ha;obtain ⟨jts,r2,p2,z2⟩:=I.list hb;have l1:its.toArray.size=xs.length:=by simpa using r1.length.symm
 have l2:jts.toArray.size=ys.length:=by simpa using r2.length.symm
 by_cases hl:xs.length=ys.length
 ·refine SeqAt.eq_listAt (e:=fun j=>Ir (xs.getD j .non) (ys.getD j .non)) p1.isList p2.isList (by rw [l1,l2];exact hl) hu (fun j h1 h2=>?_) ?_
  ·have h1':j < xs.length:=by omega
   have h2':j < ys.length:=by omega
   obtain ⟨u1,e1,q1⟩:=r1.get (Aaa h1');obtain ⟨u2,e2,q2⟩:=r2.get (Aaa h2')
   have e1':its.toArray[j]=u1:=by
    have:=Aab.mp e1;obtain ⟨_,z⟩:=this;simpa using z
   have e2':jts.toArray[j]=u2:=by
    have:=Aab.mp e2;obtain ⟨_,z⟩:=this;simpa using z
   rw [e1',e2'];have g1:xs.getD j .non=xs[j]:=by rw [Aac,Aaa h1'];rfl
   have g2:ys.getD j .non=ys[j]:=by rw [Aac,Aaa h2'];rfl
   show SeqAt.EqAt X.A.in1 s u1 u2 (Ir (xs.getD j .non) (ys.getD j .non));rw [g1,g2];exact BJ q1 q2 (Abi.mp fx _ (Aa6 h1')) (Abi.mp fy _ (Aa6 h2'))
  ·rw [l1,yC xs ys hl]
   exact ⟨.bl _,H,I,rfl,q⟩
 ·refine SeqAt.eq_list_lengthsAt p1.isList p2.isList (by rw [l1,l2];simpa using hl) hu ?_
  rw [if_neg (by simp),Ep hl] at q;exact ⟨.bl false,H,I,rfl,q⟩
end
def dM (K:W.Frag) (mg:Str->Option Value) (x:Str) (st:Stmt):Prop:=∃ f fd,Fun K x x st f fd/\mg x=some (.ref f)
theorem aZ {K:W.Frag} {mg:Str->Option Value} {h:Heap} (X:K.In h) (G:h.Ns mainGlobals mg) {x:Str} {st:Stmt} {f:Addr} {oc:Value} {od an:Option Addr} {osl:Array (Option Value)} {kV doc pm cdv ct:Value}
  (a:PySem.W.nsIn K mainGlobals x=some (some (.ref f)))
  (l:K.lookup f=some ⟨oc,od,.func (PySem.W.fnOf x x (eZ st) (bU st) (aB st) .none kV doc pm an cdv ct),osl⟩)
  (c:PySem.W.codeIn K cdv x=true) (k:PySem.W.keepIn K (.ref f)=true):dM K mg x st:=⟨f,_,yp l c k,Aa2 X G a⟩
def Has (P:Program) (w:World) (K:W.Frag) (mg:Str->Option Value) (base:Heap) (k:Nat) (x:Str) (ps:List Str) (sp:Sp):Prop:=
 ∃ f fd,mg x=some (.ref f)/\PySem.W.keepIn K (.ref f)=true/\Binds K fd ps []/\FnOk P w K mg base Kz k f fd ps sp
section
variable {P:Program} {w:World} {K:W.Frag} {mg:Str->Option Value} {base:Heap}
theorem Has.mono {j k:Nat} {x:Str} {ps:List Str} {sp:Sp} (h:Has P w K mg base j x ps sp) (hk:j<=k):Has P w K mg base k x ps sp:=
 let ⟨f,fd,a,b,c,d⟩:=h;⟨f,fd,a,b,c,d.mono hk⟩
theorem WM {x:Str} {st:Stmt} {N ps:List Str} {k:Nat} {sp:Sp} (D:dM K mg x st) (S:aG N ps (aB st))
  (hb:∀ (kV doc pm:Value) (an:Option Addr) (cdv ct:Value) (us:List Value),us.length=ps.length->bindArgs (PySem.W.fnOf x x (eZ st) (bU st) (aB st) .none kV doc pm an cdv ct) ⟨us,[]⟩=pure (ps.zip us))
  (len:∀ vs H Q E,sp vs H Q E->vs.length=ps.length)
  (hbody:∀ (f:Addr) (cdv:Value) (A:Around) (outer:List Env) (s:Shared) (H:Hp) (vs:List V) (Q:VK) (E:XK),Room k (A.deeper (envOfC x (aB st) s.heap.objs.size f cdv))->sp vs H Q E->
   ∃ t,PSs (qz Kz P w K mg base N x (aB st) f cdv A outer s H E).nox (bU st) t/\t {nx:=fun _ H'=>Q .non H',rt:=Q} (start N vs) H):Has P w K mg base (k+1) x ps sp:=by
 obtain ⟨f,fd,F,hm⟩:=D;exact ⟨f,fd,hm,F.kp,F.binds hb,F.ok S len fun cdv A outer s H vs Q E hr h=>hbody f cdv A outer s H vs Q E hr h⟩
end
section
variable {X:Cx}
theorem N7 {k:Nat} {x:Str} {ps:List Str} {sp:Sp} {p pos:Pos} {e:Expr} {es:List Expr} {t:TA} (F:Has X.prog X.w X.K X.mg X.base k x ps sp) (hr:Room k X.A) (hg:Gl X x)
  (ha:PA X (e :: es) t) (hdb:autoParam ((x == ("__debug__":Str))=false) L2.auto2._auto_1) (he:autoParam (starEach (e :: es) X.env=(false,eval e X.env) :: starEach es X.env) L2.auto4._auto_1) (hpl:autoParam ((backTo pos (starEach es X.env)).any (·.1)=false) L2.auto4._auto_1):
  PE X (.Call (.Name x p) (e :: es) [] pos) (Ag sp [] E0 t):=by
 obtain ⟨f,fd,a,b,c,d⟩:=F;exact RB d hr hg a b c .nil Zh ha hdb he hpl
def Er:R2:=fun x y H Q=>(∃ i j,x= .int i/\y= .int j/\Q (.int (i+j)) H)\/(∃ i j,x= .str i/\y= .str j/\i.length+j.length<=sizeLine/\Q (.str (i ++ j)) H)\/Zf x y H Q
theorem aQ:OpR X (binaryOp .Add) Er:=Wg.or (Gz.or Wz)
def N8:R2:=fun x y H Q=>(∃ i j,x= .int i/\y= .int j/\CMul i j/\Q (.int (i*j)) H)\/U0 x y H Q\/Zg x y H Q
theorem nQ:OpR X (binaryOp .Mult) N8:=Wh.or (G6.or WD)
theorem Oa {x:Str} {z:Str} {pos:Pos} (hg:Gl X x) (hm:∃ t,X.mg x=some (.str z t)) (hd:autoParam ((x == ("__debug__":Str))=false) L2.auto2._auto_1):PE X (.Name x pos) (tC (.str z)):=
 let ⟨t,e⟩:=hm;Bu hg e ⟨t,rfl⟩ hd
theorem Ob {x:Str} {z:Int} {pos:Pos} (hg:Gl X x) (hm:∃ t,X.mg x=some (.int z t)) (hd:autoParam ((x == ("__debug__":Str))=false) L2.auto2._auto_1):PE X (.Name x pos) (tC (.int z)):=
 let ⟨t,e⟩:=hm;Bu hg e ⟨t,rfl⟩ hd
theorem Zo {x:Str} {T:String} {pos:Pos} (hg:Gl X x) (hm:X.mg x=none) (hv:bootBuiltins x=some (.type T)) (hn:autoParam (x≠"__name__") L2.auto2._auto_1) (hd:autoParam ((x == ("__debug__":Str))=false) L2.auto2._auto_1):PE X (.Name x pos) (tC (.ty T)):=
 Rc hg hm hv rfl hn hd
def RQ (K:W.Frag):R2:=fun x y H Q=>(∃ i j,x= .str i/\y= .str j/\Q (.bl (!(Builtin.Str.occurrences j i 0 j.length 1).isEmpty)) H)\/rIn K false x y H Q
theorem WN:OpR X (compareOp .In) (RQ X.K):=Ko.or Kv
def BW (K:W.Frag):R2:=fun x y H Q=>(∃ i j,x= .str i/\y= .str j/\Q (.bl (!(!(Builtin.Str.occurrences j i 0 j.length 1).isEmpty))) H)\/rIn K true x y H Q
theorem KR:OpR X (compareOp .NotIn) (BW X.K):=BL.or BK
def WP (K:W.Frag):R2:=fun x y H Q=>rEq x y H Q\/Zn K false x y H Q
theorem WQ (hu:X.A.units < cLine):OpR X (compareOp .Eq) (WP X.K):=Y0.or (KQ hu)
def Zq (K:W.Frag):V->Option Int->Option Int->Hp->VK->Prop:=fun x lo hi H Q=>Zc K x lo hi H Q\/Y6 K x lo hi H Q\/Zm x lo hi H Q
theorem Oc:SlR X (Zq X.K):=RJ.or (Wu.or WK)
def RT (K:W.Frag) (tl:TE):TI:=fun U H R=>tl U H fun x H1=>(∃ a,x= .ref a/\(∃ xs,SqL K H1 a xs)/\R (UT K a) H1)\/(∃ a,x= .ref a/\(∃ xs,SqT K H1 a xs)/\R (Yx K a) H1)\/(∃ z,x= .str z/\R (RP z) H1)
theorem WR {tg l:Expr} {tl:TE} (hl:PE X l tl):PI X tg l (RT X.K tl):=by
 intro pins s U H R I h;refine d7 (hl pins s U H _ I h) fun v s1 qq0=>?_
 obtain ⟨x,H1,I1,r1,q1⟩:=qq0;rcases q1 with ⟨a,rfl,⟨xs,hq⟩,q⟩ | ⟨a,rfl,⟨xs,hq⟩,q⟩ | ⟨z,rfl,q⟩
 ·cases r1
  obtain ⟨its,rv,p,hz⟩:=I1.list hq;refine wpAny_pyIter_list p.isList ?_;refine ⟨s1.heap.objs.size,[s1.heap.objs.size],_,_,H1,rfl,I1.kept (t':=s1.toks) fun b o e=>Aae _ e,Kg a _,⟨_,Aaq _ rfl,rfl,rfl⟩,fun b hb=>?_,q⟩;have e:b=s1.heap.objs.size:=by simpa using hb
  subst e;exact I1.fpOk (Aad _) (I1.hok.fresh (Aad _))
 ·cases r1
  obtain ⟨its,rv,p,hz⟩:=I1.tuple hq;refine wpAny_pyIter_tuple (show s1.heap.IsTuple a its.toArray from p) ?_;refine ⟨s1.heap.objs.size,[s1.heap.objs.size],_,_,H1,rfl,I1.kept (t':=s1.toks) fun b o e=>Aae _ e,Gx a _,⟨_,Aaq _ rfl,rfl,rfl⟩,fun b hb=>?_,q⟩;have e:b=s1.heap.objs.size:=by simpa using hb
  subst e;exact I1.fpOk (Aad _) (I1.hok.fresh (Aad _))
 ·obtain ⟨t,rfl⟩:=r1
  have fin:∀ (ty:String) (T:Turn X.prog X.w X.K tg (RP z) [s1.heap.objs.size] s1.heap.objs.size (fun i h=>h.IsStrIter s1.heap.objs.size ty z t i)) (o:Obj),(s1.heap.push o).IsStrIter s1.heap.objs.size ty z t 0->PIE X pins U tg R (.ref s1.heap.objs.size) {s1 with heap:=s1.heap.push o}:=
   fun ty T o st=>⟨s1.heap.objs.size,[s1.heap.objs.size],_,_,H1,rfl,I1.kept (t':=s1.toks) fun b o e=>Aae _ e,T,st,fun b hb=>by
    have e:b=s1.heap.objs.size:=by simpa using hb
    subst e;exact I1.fpOk (Aad _) (I1.hok.fresh (Aad _)),q⟩
  cases ha:z.cps.all (· < 128)
  ·exact wpAny_pyIter_wide ha (fin "str_iterator" (En _ z t _ (by decide) (fun A' hA=>Walks.strWide hA _ z t) fun A i s Q E st h=>wpAny_pyIter_striter_wide st h) _ ⟨_,Aaq _ rfl,rfl,rfl⟩)
  ·exact wpAny_pyIter_ascii ha (fin "str_ascii_iterator" (En _ z t _ (by decide) (fun A' hA=>Walks.strAscii hA _ z t) fun A i s Q E st h=>wpAny_pyIter_striter_ascii st h) _ ⟨_,Aaq _ rfl,rfl,rfl⟩)
end
section
variable {X:Cx} {K:W.Frag}
theorem RV (hK:X.K=K):IxR X (UV K):=hK ▸ Wx
theorem G8 (hK:X.K=K):OpR X (compareOp .In) (RQ K):=hK ▸ WN
theorem KY (hK:X.K=K):OpR X (compareOp .NotIn) (BW K):=hK ▸ KR
theorem WT (hK:X.K=K) (hu:X.A.units < cLine):OpR X (compareOp .Eq) (WP K):=hK ▸ WQ hu
theorem xP (hK:X.K=K):SlR X (Zq K):=hK ▸ Oc
theorem RW {tg l:Expr} {tl:TE} (hK:X.K=K) (hl:PE X l tl):PI X tg l (RT K tl):=hK ▸ WR hl
def KZ (K:W.Frag):List V->Hp->VK->Prop:=fun xs H Q=>∃ x n,xs=[x]/\Y5 K x H n/\Q (.int n) H
theorem aH (hK:X.K=K):CallR X (.builtin "len") (KZ K):=hK ▸ Nk
theorem gH (hK:X.K=K):CallR X (.builtin "isinstance") (WL K):=hK ▸ N5
def Od (K:W.Frag):List V->Hp->VK->Prop:=fun xs H Q=>(∃ p ys,xs=[.ref p]/\(SqL K H p ys\/SqT K H p ys)/\∀ l,H l=none->Q (.ref l) (upd H l (.lst ys)))\/(∃ x,xs=[.str x]/\x.cps.size<=sizeLine/\∀ p,H p=none->Q (.ref p) (upd H p (.lst (sgn x))))
theorem mO (hK:X.K=K) (hc:X.calm=true):CallR X (.type "list") (Od K):=hK ▸ BP.or (Eo hc)
variable {o e:Expr} {es:List Expr} {to:TE} {t:TA} {name:Str} {apos cpos:Pos} {T id:String} {r:V->List V->Hp->VK->Prop}
theorem WW (hK:X.K=K) (pa:PlainAttrs T) (slot:Slot T name id) (hty:typeOf (.builtin id)=pure (.type "method_descriptor")) (hm:Y7 X id r) (ho:PE X o to) (ha:PA X (e :: es) t)
  (hbase:autoParam (attributeBase o name X.env (eval o X.env)=eval o X.env) L2.auto4._auto_1)
  (hfew:((backTo cpos (starEach (e :: es) X.env)).all (fun x=>!x.1) && (backToKw cpos (keywordEach [] X.env)).all (fun x=>x.1.isSome)
   && decide ((e :: es).length+([]:List Keyword).length+(if ([]:List Keyword).isEmpty then 0 else 1) < 30))=true:=by rfl)
  (hline:autoParam ((apos.endLine == cpos.line)=true) L2.auto4._auto_1) (hs:autoParam (starEach (e :: es) X.env=(false,eval e X.env) :: starEach es X.env) L2.auto4._auto_1) (hplain:autoParam ((backTo cpos (starEach es X.env)).any (·.1)=false) L2.auto4._auto_1):
  PE X (.Call (.Attribute o name apos) (e :: es) [] cpos) (Zd K T r to t):=by
 subst hK;exact Ze pa slot hty hm ho ha hbase hfew hline hs hplain
theorem RX {ts:List Expr} {k:Nat} {gs:Kf} {n:Nat} {pos:Pos} (hK:X.K=K) (hc:X.calm=true) (h:Yw X ts gs)
  (hn:autoParam ((assignEach ts X.env).length=n) L2.auto4._auto_1) (hst:autoParam ((assignEach ts X.env).findIdx? (·.1)=none) L2.auto4._auto_1):PG X (.Tuple ts k pos) (Rp K n gs):=by
 subst hK;exact V6 hc h hn hst
end
section
variable {X:Cx} {sc scope:Scope} {N':List Str} {C:Addr} {s₀:Shared} {H₀:Hp} {ex:List Addr} {x:Str} {pos:Pos}
theorem pvL (i:Nat) (h:sc.names.lookup x=some .local) (hN:autoParam (X.N[i]?=some x) L2.auto4._auto_1) (hsc:autoParam (X.env.scope=sc) L2.auto4._auto_1) (hd:autoParam ((x == ("__debug__":Str))=false) L2.auto6._auto_1) (hcd:autoParam ((x == ("__classdict__":Str))=false) L2.auto6._auto_1):
  PE X (.Name x pos) (tY i):=Bt hN (.inl (by rw [hsc];exact h)) hd hcd
theorem pvC (i:Nat) (h:sc.names.lookup x=some .cell) (hN:autoParam (X.N[i]?=some x) L2.auto4._auto_1) (hsc:autoParam (X.env.scope=sc) L2.auto4._auto_1) (hd:autoParam ((x == ("__debug__":Str))=false) L2.auto6._auto_1) (hcd:autoParam ((x == ("__classdict__":Str))=false) L2.auto6._auto_1):
  PE X (.Name x pos) (tY i):=Bt hN (.inr (.inl (by rw [hsc];exact h))) hd hcd
theorem pvBL (i:Nat) (h:scope.names.lookup x=some .local) (hN:autoParam (N'[i]?=some x) L2.auto4._auto_1) (hd:autoParam ((x == ("__debug__":Str))=false) L2.auto6._auto_1) (hcd:autoParam ((x == ("__classdict__":Str))=false) L2.auto6._auto_1):
  PE (sZ X N' scope C s₀ H₀ ex) (.Name x pos) (tY i):=Bt hN (.inl (lookup_relabel_local h)) hd hcd
theorem pvBF (i:Nat) (h:scope.names.lookup x=some .free) (hN:autoParam (N'[i]?=some x) L2.auto4._auto_1) (hd:autoParam ((x == ("__debug__":Str))=false) L2.auto6._auto_1) (hcd:autoParam ((x == ("__classdict__":Str))=false) L2.auto6._auto_1):
  PE (sZ X N' scope C s₀ H₀ ex) (.Name x pos) (tY i):=Bt hN (by
   rcases uT (env:=X.env) h with z | z
   ·exact .inr (.inl z)
   ·exact .inr (.inr z)) hd hcd
theorem lY {env:Env}:∀ {names:List (Str×NameKind)} {x:Str},names.lookup x=some .globalImplicit->
  (names.map fun (n,k)=>if (k == NameKind.free && env.scope.kind == .function && env.kindOf n == some .cell) then (n,NameKind.cell) else (n,k)).lookup x=some .globalImplicit
 | [],_,h=>by simp at h
 | (n,k) :: r,x,h=>by
  have ih:=@lY env r x;show List.lookup x ((if (k == NameKind.free && env.scope.kind == .function && env.kindOf n == some .cell)=true then (n,NameKind.cell) else (n,k)) :: _)=_;cases hx:x == n with
  | true=>
   simp only [AaK,hx] at h;cases h;simp [AaK,hx]
  | false=>
   simp only [AaK,hx] at h;by_cases hc:(k == NameKind.free && env.scope.kind == .function && env.kindOf n == some .cell)=true
   ·rw [if_pos hc];simp only [AaK,hx];exact ih h
   ·rw [if_neg hc];simp only [AaK,hx];exact ih h
theorem RZ (h:scope.names.lookup x=some .globalImplicit):Gl (sZ X N' scope C s₀ H₀ ex) x:=lY h
theorem pgB (i:Nat) (h:scope.names.lookup x=some .local) (hN:N'.Nodup) (hi:autoParam (N'[i]?=some x) L2.auto4._auto_1):PG (sZ X N' scope C s₀ H₀ ex) (.Name x pos) (tG i):=
 Ie hN hi (.inl (lookup_relabel_local h)) (.inr (lookup_relabel_local h))
end
def nR:Expr->Bool
 | .ListComp ..=>false | .SetComp ..=>false | .DictComp ..=>false | _=>true
theorem Es {value:Expr} {target:Option Expr} {line:Nat} {env:Env} (h:nR value=true):swapsWith value target line env=pure false:=by
 cases value <;> first | rfl | cases h
def qF:Expr->Bool
 | .Slice ..=>false | _=>true
theorem pix {b:Expr} (h:qF b=true):Io b:=by
 intro o i;cases b <;> first | rfl | cases h
def vW:Expr->Bool
 | .Set ..=>false | _=>true
theorem Oe {e:Expr} {env:Env} (h:vW e=true):∀ x,foldedSetIterable e env x=pure x:=by
 intro x;cases e <;> first | rfl | cases h
def notStar:Expr->Bool
 | .Starred ..=>false | _=>true
theorem bW {e:Expr} {es:List Expr} {env:Env} (h:notStar e=true):starEach (e :: es) env=(false,eval e env) :: starEach es env:=by
 cases e <;> first | rfl | cases h
theorem oF {env:Env} {pos:Pos}:∀ {es:List Expr},es.all notStar=true->(backTo pos (starEach es env)).any (·.1)=false
 | [],_=>rfl
 | e :: es,h=>by
  simp only [AaX,Aav] at h;rw [bW h.1];show (false || (backTo pos (starEach es env)).any (·.1))=false;rw [oF h.2];rfl
theorem Og {env:Env} {pos:Pos}:∀ {es:List Expr},es.all notStar=true->(backTo pos (starEach es env)).all (fun x=>!x.1)=true
 | [],_=>rfl
 | e :: es,h=>by
  simp only [AaX,Aav] at h;rw [bW h.1];show (true && (backTo pos (starEach es env)).all (fun x=>!x.1))=true;rw [Og h.2];rfl
section
variable {X:Cx} {K:W.Frag} {e:Expr} {es:List Expr} {te:TE} {t:TA} {pos p:Pos}
theorem paC (ha:PE X e te) (hr:PA X es t) (h:autoParam (notStar e=true) L2.auto4._auto_1):PA X (e :: es) (Il te t):=Rx ha hr (bW h)
theorem Zr {k:Nat} {x:Str} {ps:List Str} {sp:Sp} (F:Has X.prog X.w X.K X.mg X.base k x ps sp) (hr:Room k X.A) (hg:Gl X x) (ha:PA X (e :: es) t) (hdb:(x == ("__debug__":Str))=false) (h:autoParam ((e :: es).all notStar=true) L2.auto4._auto_1):
  PE X (.Call (.Name x p) (e :: es) [] pos) (Ag sp [] E0 t):=by
 simp only [AaX,Aav] at h;exact N7 F hr hg ha hdb (bW h.1) (oF h.2)
theorem Zt {x:Str} {id:String} {r:List V->Hp->VK->Prop} (hc:CallR X (.builtin id) r) (hg:Gl X x) (hm:X.mg x=none) (hv:bootBuiltins x=some (.builtin id)) (ha:PA X (e :: es) t) (hn:x≠"__name__") (hdb:(x == ("__debug__":Str))=false) (h:autoParam ((e :: es).all notStar=true) L2.auto4._auto_1):
  PE X (.Call (.Name x p) (e :: es) [] pos) (Wt r t):=by
 simp only [AaX,Aav] at h;exact Nr hc hg hm hv ha hn hdb (bW h.1) (oF h.2)
theorem WX {x:Str} {T:String} {r:List V->Hp->VK->Prop} (hc:CallR X (.type T) r) (hg:Gl X x) (hm:X.mg x=none) (hv:bootBuiltins x=some (.type T)) (ha:PA X (e :: es) t) (hn:x≠"__name__") (hdb:(x == ("__debug__":Str))=false) (h:autoParam ((e :: es).all notStar=true) L2.auto4._auto_1):
  PE X (.Call (.Name x p) (e :: es) [] pos) (Wt r t):=by
 simp only [AaX,Aav] at h;exact Ks hc hg hm hv ha hn hdb (bW h.1) (oF h.2)
def uX:Expr->Bool
 | .Call ..=>false | _=>true
theorem Zu {o:Expr} {f:Str} {env:Env} {w:Sem Value} (h:uX o=true):attributeBase o f env w=w:=by
 cases o <;> first | rfl | cases h
theorem Zv {o:Expr} {to:TE} {name:Str} {apos cpos:Pos} {T id:String} {r:V->List V->Hp->VK->Prop} (hK:X.K=K) (pa:PlainAttrs T) (slot:Slot T name id) (hty:typeOf (.builtin id)=pure (.type "method_descriptor")) (hm:Y7 X id r) (ho:PE X o to) (ha:PA X (e :: es) t)
  (hbase:autoParam (uX o=true) L2.auto4._auto_1) (hl:autoParam (es.length < 20) L2.auto2._auto_1) (hline:autoParam ((apos.endLine == cpos.line)=true) L2.auto4._auto_1) (h:autoParam ((e :: es).all notStar=true) L2.auto4._auto_1):
  PE X (.Call (.Attribute o name apos) (e :: es) [] cpos) (Zd K T r to t):=by
 have hA:=Og (env:=X.env) (pos:=cpos) h;simp only [AaX,Aav] at h;refine WW hK pa slot hty hm ho ha (Zu hbase) ?_ hline (bW h.1) (oF h.2);rw [hA];have:(e :: es).length+([]:List Keyword).length+(if ([]:List Keyword).isEmpty then 0 else 1) < 30:=by simp;omega
 rw [Aar this];rfl
theorem Zw {i:Nat} {x:Str} {pos':Pos} (hN:X.N.Nodup) (hi:X.N[i]?=some x) (hx:Loc X.env.scope x) (he:PE X e te) (hf:X.fn x=true) (h:autoParam (nR e=true) L2.auto4._auto_1):PS X (.Assign [.Name x pos'] e pos) (DQ te (tG i)):=
 MP hN hi hx he (Es h) (.inl hf)
theorem WY (he:PE X e te) (h:autoParam (nR e=true) L2.auto4._auto_1):PS X (.Expr e pos) (Ib te):=Rm he (Es h)
theorem ixE {a b:Expr} {ta tb:TE} (hK:X.K=K) (ha:PE X a ta) (hb:PE X b tb) (h:autoParam (qF b=true) L2.auto4._auto_1):PE X (.Subscript a b pos) (Nf (UV K) ta tb):=Y8 (RV hK) ha hb (pix h)
theorem Zx {tg iter:Expr} {body:List Stmt} {wi:TI} {g:TG} {tb:TS} (hp:PassesOwn (model X.prog X.w) X.A X.env X.xe) (hc:X.calm=true) (hi:PI X tg iter wi) (hg:PG X tg g) (hb:PSs X body tb) (h:autoParam (vW iter=true) L2.auto4._auto_1):PS X (.For tg iter body [] pos) (Rq wi g tb):=
 Wd hp hc hi hg hb (Oe h)
end
section
variable {X:Cx} {tg iter elt:Expr} {ifs:List Expr} {scope:Scope} {pos:Pos} {N':List Str} {sub:List (Option Nat)} {wi:TI} {g:TG} {tt:TT} {te:TE} {N:List Str} {sc:Scope}
theorem Zy (S:wM N sc N' scope sub) (hc:X.calm=true) (hN:X.N=N) (hsc:X.env.scope=sc) (hi:PI X tg iter wi)
  (hg:∀ (C:Addr) (s₀:Shared) (H₀:Hp) (ex:List Addr),PG (sZ X N' scope C s₀ H₀ ex) tg g)
  (ht:∀ (C:Addr) (s₀:Shared) (H₀:Hp) (ex:List Addr),Eg (sZ X N' scope C s₀ H₀ ex) ifs tt)
  (he:∀ (C:Addr) (s₀:Shared) (H₀:Hp) (ex:List Addr),PE (sZ X N' scope C s₀ H₀ ex) elt te) (h:autoParam (vW iter=true) L2.auto4._auto_1):
  PE X (.ListComp elt [⟨tg,iter,ifs,0⟩] scope pos) (yw sub wi g tt te):=Iv S hc hN hsc hi hg ht he (Oe h)
end
theorem aR:bootBuiltins "len"=some (.builtin "len"):=by trivial
theorem vX:bootBuiltins "max"=some (.builtin "max"):=by trivial
theorem bf:bootBuiltins "isinstance"=some (.builtin "isinstance"):=by trivial
theorem G9:bootBuiltins "all"=some (.builtin "all"):=by trivial
theorem jH:bootBuiltins "list"=some (.type "list"):=by trivial
theorem yD:bootBuiltins "tuple"=some (.type "tuple"):=by trivial
theorem Oh:bootBuiltins "int"=some (.type "int"):=by trivial
theorem Ha:bootBuiltins "str"=some (.type "str"):=by trivial
theorem BX:bootBuiltins "enumerate"=some (.type "enumerate"):=by trivial
theorem wO:bootBuiltins "reversed"=some (.type "reversed"):=by trivial
theorem Iz:bootBuiltins "bool"=some (.type "bool"):=by trivial
theorem qG {c A B:Prop} [Decidable c] (h1:c->A) (h2:¬ c->B):if decide c=true then A else B:=by
 by_cases h:c
 ·rw [if_pos (Aar h)];exact h1 h
 ·rw [if_neg (by rw [Aao h];exact Aak)];exact h2 h
theorem iteB {b:Bool} {A B:Prop} (h1:b=true->A) (h2:b=false->B):if b=true then A else B:=by
 cases b with
 | true=>rw [if_pos rfl];exact h1 rfl
 | false=>rw [if_neg Aak];exact h2 rfl
theorem xQ {α:Type} {xs:List α} {k:Int} {v:α} (h0:0<=k) (h:xs[k.toNat]?=some v):zE xs k=some v:=by
 have e:((k.toNat:Nat):Int)=k:=by omega
 rw [← e];exact jG h
section
variable {U:St} {H:Hp} {D:Ends} {ta tb te tc:TE} {tt tu:TT} {Q:VK} {t u:TS} {g:TG}
theorem lZ (h:t {D with nx:=u D} U H):Ri t u D U H:=h
theorem cH (h:D.nx U H):Mw D U H:=h
theorem fJ (h:te U H fun x H1=>g x U H1 D.nx):DQ te g D U H:=h
theorem cI {i:Nat} {v:V} {R:St->Hp->Prop} (h:R (U.set i (some v)) H):tG i v U H R:=h
theorem fK {to ti:TE} {ts:Gv} {v:V} {R:St->Hp->Prop} (h:to U H fun o H1=>ti U H1 fun i H2=>ts o i v H2 fun H3=>R U H3):V7 to ti ts v U H R:=h
theorem fO (h:te U H D.rt):V0 te D U H:=h
theorem cJ (h:te U H fun _ H1=>D.nx U H1):Ib te D U H:=h
theorem jV (h:tt U H fun b H1=>if b=true then t D U H1 else u D U H1):V4 tt t u D U H:=h
theorem cL {R:Bool->Hp->Prop} (h:te U H fun x H1=>∃ k,x= .bl k/\R k H1):Ae te U H R:=h
theorem jW {R:Bool->Hp->Prop} (h:te U H fun x H1=>∃ k,x= .bl k/\R k H1):tB te U H R:=h
theorem fP {R:Bool->Hp->Prop} (h:tt U H fun c H1=>R (!c) H1):VH tt U H R:=h
theorem fQ {R:Bool->Hp->Prop} (h:tt U H fun c H1=>if c=true then tu U H1 R else R false H1):Rf tt tu U H R:=h
theorem jX {R:Bool->Hp->Prop} (h:tt U H fun c H1=>if c=true then R true H1 else tu U H1 R):tOr tt tu U H R:=h
theorem cM (h:ta U H fun x H1=>∃ c,x= .bl c/\if c=true then tb U H1 Q else Q (.bl false) H1):Mt ta tb U H Q:=h
theorem fU (h:ta U H fun x H1=>∃ c,x= .bl c/\if c=true then Q (.bl true) H1 else tb U H1 Q):VN ta tb U H Q:=h
theorem cO (h:ta U H fun x H1=>∃ c,x= .bl c/\Q (.bl (!c)) H1):Mu ta U H Q:=h
theorem fV (h:tt U H fun c H1=>if c=true then ta U H1 Q else tb U H1 Q):tIf tt ta tb U H Q:=h
theorem fW {i:Nat} {v:V} (e:U[i]?=some (some v)) (h:Q v H):tY i U H Q:=⟨v,e,h⟩
theorem vO {v:V} (h:Q v H):tC v U H Q:=h
theorem jY {r:R2} (h:ta U H fun x H1=>tb U H1 fun y H2=>r x y H2 Q):Nf r ta tb U H Q:=h
theorem jZ {r:V->Hp->VK->Prop} (h:ta U H fun x H1=>r x H1 Q):tUn r ta U H Q:=h
theorem j0 {r:List V->Hp->VK->Prop} {a:TA} (h:a U H fun vs H1=>r vs H1 Q):Wt r a U H Q:=h
theorem cQ {a:TA} {R:List V->Hp->Prop} (h:te U H fun x H1=>a U H1 fun xs H2=>R (x :: xs) H2):Il te a U H R:=h
theorem fX {R:List V->Hp->Prop} (h:R [] H):Nq U H R:=h
theorem cR {sp:Sp} {E:XK} {a:TA} (h:a U H fun vs H1=>sp vs H1 Q E):Ag sp [] E a U H Q:=by
 unfold Ag;simpa only [AaL] using h
theorem tK {a:TA} (h:a U H fun xs H1=>xs.length<=sizeLine/\∀ p,H1 p=none->Q (.ref p) (upd H1 p (.tup xs))):Ry a U H Q:=h
theorem tL {a:TA} (h:a U H fun xs H1=>xs.length<=sizeLine/\∀ p,H1 p=none->Q (.ref p) (upd H1 p (.lst xs))):Rz a U H Q:=h
theorem j4 {K:W.Frag} {T:String} {r:V->List V->Hp->VK->Prop} {a:TA} (h:te U H fun x H1=>tyV K T x H1/\a U H1 fun xs H2=>r x xs H2 Q):Zd K T r te a U H Q:=h
theorem j5 {r:V->Option Int->Option Int->Hp->VK->Prop} {tl th:TO} (h:te U H fun x H1=>tl U H1 fun l H2=>th U H2 fun u H3=>r x l u H3 Q):tSl r te tl th U H Q:=h
theorem fY {R:Option Int->Hp->Prop} (h:R none H):Bw U H R:=h
theorem cT {R:Option Int->Hp->Prop} (h:te U H fun x H1=>∃ i,x= .int i/\R (some i) H1):Nu te U H R:=h
theorem cU {R:Bool->Hp->Prop} (h:R true H):NK U H R:=h
theorem cV {a:TA} {R:It->Hp->Prop} (h:a U H fun vs H1=>∃ j:Int,vs=[.int j]/\-(2 ^ 62)<=j/\j < 2 ^ 62/\R (Mm 0 j.toNat) H1):M8 a U H R:=h
theorem cW {a:TA} {R:It->Hp->Prop} (h:a U H fun vs H1=>∃ i j:Int,vs=[.int i,.int j]/\(-(2 ^ 62)<=i/\i < 2 ^ 62/\-(2 ^ 62)<=j/\j < 2 ^ 62)/\R (Mm i (j - i).toNat) H1):Nb a U H R:=h
theorem cX {K:W.Frag} {R:It->Hp->Prop} (h:te U H fun x H1=>(∃ a,x= .ref a/\(∃ xs,SqL K H1 a xs)/\R (UT K a) H1)\/(∃ a,x= .ref a/\(∃ xs,SqT K H1 a xs)/\R (Yx K a) H1)\/(∃ z,x= .str z/\R (RP z) H1)):RT K te U H R:=h
theorem cY {sub:List (Option Nat)} {wi:TI} (h:wi U H fun J H1=>uU sub g tt te U Q J H1):yw sub wi g tt te U H Q:=h
theorem fZ {wi:TI} {tbd:TS} (h:wi U H fun J H1=>∃ W:Nat->Nat->St->Hp->Prop,(∃ m,W 0 m U H1)/\∀ i m U H,W i m U H->
 (J.stop i H/\D.nx U H)\/(J.go i H/\∃ N:St->Hp->Prop,(∀ U' H',N U' H'->∃ m',m' < m/\W (i+1) m' U' H')/\∀ x H',J.yld i H x H'->g x U H' fun σ2 H2=>tbd {D with nx:=N,ct:=N,bk:=D.nx} σ2 H2)):Rq wi g tbd D U H:=h
variable {i j:Int} {x y:Str} {f:Int->Int->V} {C:Int->Int->Prop} {K:W.Frag}
theorem j6 (h:Q (f i j) H):Ng f (.int i) (.int j) H Q:=⟨_,_,rfl,rfl,h⟩
theorem vP (c:C i j) (h:Q (f i j) H):rI C f (.int i) (.int j) H Q:=⟨_,_,rfl,rfl,c,h⟩
theorem cZ (h:Q (.int (i+j)) H):Er (.int i) (.int j) H Q:=.inl ⟨_,_,rfl,rfl,h⟩
theorem t7 (c:x.length+y.length<=sizeLine) (h:Q (.str (x ++ y)) H):Er (.str x) (.str y) H Q:=.inr (.inl ⟨_,_,rfl,rfl,c,h⟩)
theorem BZ {a b:Addr} {xs ys:List V} (ha:H a=some (.lst xs)) (hb:H b=some (.lst ys)) (c:xs.length+ys.length<=sizeLine) (h:∀ p,H p=none->Q (.ref p) (upd H p (.lst (xs ++ ys)))):Er (.ref a) (.ref b) H Q:=
 .inr (.inr ⟨a,b,xs,ys,rfl,rfl,ha,hb,c,h⟩)
theorem c7 (c:CMul i j) (h:Q (.int (i*j)) H):N8 (.int i) (.int j) H Q:=.inl ⟨_,_,rfl,rfl,c,h⟩
theorem bc {p:Addr} {xs:List V} {v:V} (s:SqL K H p xs) (e:zE xs i=some v) (h:Q v H):UV K (.ref p) (.int i) H Q:=.inl ⟨p,xs,i,v,rfl,rfl,s,e,h⟩
theorem f9 {p:Addr} {xs:List V} {v:V} (s:SqT K H p xs) (e:zE xs i=some v) (h:Q v H):UV K (.ref p) (.int i) H Q:=.inr (.inl ⟨p,xs,i,v,rfl,rfl,s,e,h⟩)
theorem yE {c:Nat} (s:x.length<=sizeLine) (e:zE x.cps.toList i=some c) (h:Q (.str ⟨#[c]⟩) H):UV K (.str x) (.int i) H Q:=.inr (.inr ⟨x,i,c,rfl,rfl,s,e,h⟩)
theorem b7 {p:Addr} {xs:List V} {n:Nat} {v:V} {R:Hp->Prop} (hp:H p=some (.lst xs)) (e:Ku xs.length i=some n) (h:R (upd H p (.lst (xs.set n v)))):Ip (.ref p) (.int i) v H R:=⟨p,xs,i,n,rfl,rfl,hp,e,h⟩
theorem fj (h:Q (.bl (!(Builtin.Str.occurrences y x 0 y.length 1).isEmpty)) H):RQ K (.str x) (.str y) H Q:=.inl ⟨_,_,rfl,rfl,h⟩
theorem j7 {b:Bool} {R:Bool->Prop} (h:R b):∃ k,V.bl b= .bl k/\R k:=⟨b,rfl,h⟩
theorem dg {n:Int} {R:Int->Prop} (h:R n):∃ k,V.int n= .int k/\R k:=⟨n,rfl,h⟩
end
theorem Same.upd {H H':Hp} {p:Addr} {o:HO} (s:Same H H') (hn:H' p=none):Same H (upd H' p o):=fun b u e=>by
 have q:=s b u e;rw [aD (fun z=>by rw [z,hn] at q;cases q)];exact q
def Chg (p:Addr) (H H':Hp):Prop:=∀ b o,b≠p->H b=some o->H' b=some o
theorem Chg.refl (p:Addr) (H:Hp):Chg p H H:=fun _ _ _ e=>e
theorem Chg.trans {p:Addr} {H H1 H2:Hp} (a:Chg p H H1) (b:Chg p H1 H2):Chg p H H2:=fun c o n e=>b c o n (a c o n e)
theorem Chg.new {p q:Addr} {H H1:Hp} {o:HO} (a:Chg p H H1) (hn:H1 q=none):Chg p H (upd H1 q o):=fun b u n e=>by
 have z:=a b u n e;rw [aD (fun k=>by rw [k,hn] at z;cases z)];exact z
theorem fu {H:Hp} {q b:Addr} {o u:HO} (hq:H q=none) (hb:H b=some u):upd H q o b=some u:=by
 rw [aD (fun z=>by rw [z,hq] at hb;cases hb)];exact hb
theorem IK (x:Str):x.length=x.cps.toList.length:=by simp [Str.length]
theorem Oi (c:Nat):(⟨#[c]⟩:Str).length=1:=by simp [Str.length]
section
variable {H:Hp} {Q:VK} {K:W.Frag}
theorem d9 {p:Addr} {xs:List V} (s:SqL K H p xs) (h:Q (.int xs.length) H):KZ K [V.ref p] H Q:=⟨_,_,rfl,.inl ⟨_,s,rfl⟩,h⟩
theorem vY {p:Addr} {xs:List V} (s:SqT K H p xs) (h:Q (.int xs.length) H):KZ K [V.ref p] H Q:=⟨_,_,rfl,.inr ⟨_,s,rfl⟩,h⟩
theorem bM {z:Str} (s:z.length<=sizeLine) (h:Q (.int z.length) H):KZ K [V.str z] H Q:=⟨_,_,rfl,⟨s,rfl⟩,h⟩
theorem j8 {i j:Int} {R:Int->Int->Prop} (h:R i j):∃ a b,[V.int i,V.int j]=[.int a,.int b]/\R a b:=⟨_,_,rfl,h⟩
theorem nU {x:V} {T:String} {t:Value} {b:Bool} (ty:TyOf K H x t) (e:PySem.W.kitOne K t (.type T)=some b) (h:Q (.bl b) H):WL K [x,.ty T] H Q:=⟨x,T,t,b,rfl,ty,e,h⟩
theorem Zz {x:Str} {lo hi:Option Int} (hz:x.length<=sizeLine) (h:Q (.str (Txt.slice x lo hi)) H):Zq K (.str x) lo hi H Q:=.inr (.inr ⟨x,rfl,hz,h⟩)
theorem Et {p:Addr} {xs:List V} {lo hi:Option Int} (s:SqL K H p xs) (h:∀ q,H q=none->Q (.ref q) (upd H q (.lst (qC xs lo hi)))):Zq K (.ref p) lo hi H Q:=.inl ⟨p,xs,rfl,s,h⟩
end
section
variable {U:St} {H:Hp} {Q:VK}
theorem xR {K:W.Frag} {a:Addr} {xs:List V} (s:SqL K H a xs) (h:∀ p,H p=none->Q (.ref p) (upd H p (.lst xs))):Od K [.ref a] H Q:=.inl ⟨a,xs,rfl,.inl s,h⟩
end
theorem TyOf.mono {K:W.Frag} {H H':Hp} {v:V} {T:String} (h:TyOf K H v (.type T)) (s:∀ b o,H b=some o->v= .ref b->H' b=some o):TyOf K H' v (.type T):=by
 generalize e:(Value.type T)=t at h;cases h with
 | non=>exact .non
 | bl x=>exact .bl x
 | int i=>exact .int i
 | str x=>exact .str x
 | flt x=>exact .flt x
 | lst z=>exact .lst (s _ _ z rfl)
 | frz z=>exact .frz (s _ _ z rfl)
 | tup z=>exact .tup (s _ _ z rfl)
 | dK z=>exact .dK (s _ _ z rfl)
 | dT z=>exact .dT (s _ _ z rfl)
 | ins=>cases e
theorem Eu {sub:List (Option Nat)} {g:TG} {tt:TT} {te:TE} {U:St} {Q:VK} {H:Hp} {lo:Int} {n:Nat} (Pv:Nat->List V->Hp->Prop) (hn:n<=sizeLine) (h0:Pv 0 [] H) (hl:∀ i ys H,Pv i ys H->ys.length<=i)
  (hs:∀ i ys H,i < n->Pv i ys H->g (.int (lo+i)) (eU sub U) H fun σ2 H2=>KeepSt (eU sub U) σ2/\tt σ2 H2 fun b H3=>if b=true then te σ2 H3 fun y H4=>Pv (i+1) (ys ++ [y]) H4 else Pv (i+1) ys H3)
  (hd:∀ ys H,Pv n ys H->∀ D,H D=none->Q (.ref D) (upd H D (.lst ys))):uU sub g tt te U Q (Mm lo n) H:=
 BV (n:=n) Pv hn h0 hl (fun i ys H hi _=>hi) (fun ys H _=>Aad _) (fun i ys H x H' hi p y=>by
  obtain ⟨e1,e2⟩:=y;subst e1 e2;exact hs i ys _ hi p) hd
theorem Ew {sub:List (Option Nat)} {g:TG} {tt:TT} {te:TE} {U:St} {Q:VK} {H:Hp} {z:Str} (Pv:Nat->List V->Hp->Prop) (hn:z.cps.size<=sizeLine) (h0:Pv 0 [] H) (hl:∀ i ys H,Pv i ys H->ys.length<=i)
  (hs:∀ i ys H c,z.cps.toList[i]?=some c->Pv i ys H->g (.str ⟨#[c]⟩) (eU sub U) H fun σ2 H2=>KeepSt (eU sub U) σ2/\tt σ2 H2 fun b H3=>if b=true then te σ2 H3 fun y H4=>Pv (i+1) (ys ++ [y]) H4 else Pv (i+1) ys H3)
  (hd:∀ ys H,Pv z.cps.size ys H->∀ D,H D=none->Q (.ref D) (upd H D (.lst ys))):uU sub g tt te U Q (RP z) H:=
 BV (n:=z.cps.size) Pv hn h0 hl (fun i ys H hi _=>hi) (fun ys H _=>rfl) (fun i ys H x H' hi p y=>by
  obtain ⟨e1,c,e2,e3⟩:=y;subst e1 e3;exact hs i ys _ c (by simpa using e2) p) hd
theorem K1 {sub:List (Option Nat)} {g:TG} {tt:TT} {te:TE} {U:St} {Q:VK} {H:Hp} {K:W.Frag} {a:Addr} {xs:List V} (Pv:Nat->List V->Hp->Prop) (hn:xs.length<=sizeLine) (h0:Pv 0 [] H) (hl:∀ i ys H,Pv i ys H->ys.length<=i)
  (hq:∀ i ys H,Pv i ys H->SqL K H a xs)
  (hs:∀ i ys H x,xs[i]?=some x->Pv i ys H->g x (eU sub U) H fun σ2 H2=>KeepSt (eU sub U) σ2/\tt σ2 H2 fun b H3=>if b=true then te σ2 H3 fun y H4=>Pv (i+1) (ys ++ [y]) H4 else Pv (i+1) ys H3)
  (hd:∀ ys H,Pv xs.length ys H->∀ D,H D=none->Q (.ref D) (upd H D (.lst ys))):uU sub g tt te U Q (UT K a) H:=
 BV (n:=xs.length) Pv hn h0 hl (fun i ys H hi p=>⟨xs,xs[i],hq i ys H p,Aaa hi⟩) (fun ys H p=>⟨xs,hq _ ys H p,Aad _⟩) (fun i ys H x H' hi p y=>by
  obtain ⟨e1,e2⟩:=y;subst e1;exact hs i ys _ x (e2 xs (hq i ys _ p)) p) hd
structure JE (X:Cx) (e:Expr) (t:TE):Prop where
 run:PE X e t
structure JT (X:Cx) (e:Expr) (t:TT):Prop where
 run:PT X e t
structure JW (X:Cx) (e:Expr) (t:TT):Prop where
 run:PW X e t
structure JA (X:Cx) (es:List Expr) (t:TA):Prop where
 run:PA X es t
structure JS (X:Cx) (s:Stmt) (t:TS):Prop where
 run:PS X s t
structure JB (X:Cx) (s:List Stmt) (t:TS):Prop where
 run:PSs X s t
structure JI (X:Cx) (tg iter:Expr) (t:TI):Prop where
 run:PI X tg iter t
structure JG (X:Cx) (tg:Expr) (t:TG):Prop where
 run:PG X tg t
structure JGs (X:Cx) (tg:List Expr) (t:Kf):Prop where
 run:Yw X tg t
structure JO (X:Cx) (e:Option Expr) (t:TO):Prop where
 run:PO X e t
structure W0 (X:Cx) (ifs:List Expr) (t:TT):Prop where
 run:Eg X ifs t
section
variable {X:Cx} {K:W.Frag} {sc scope:Scope} {N':List Str} {C:Addr} {s₀:Shared} {H₀:Hp} {ex:List Addr} {x:Str} {pos p p2 pos' apos cpos tpos:Pos} {a b c e o:Expr} {es:List Expr} {ta tb tc te to ti:TE} {t:TA} {tA tB' tt:TT} {rest:List Expr}
theorem W2 (i:Nat) (h:sc.names.lookup x=some .local) (hN:autoParam (X.N[i]?=some x) L2.auto4._auto_1) (hsc:autoParam (X.env.scope=sc) L2.auto4._auto_1) (hd:autoParam ((x == ("__debug__":Str))=false) L2.auto6._auto_1) (hcd:autoParam ((x == ("__classdict__":Str))=false) L2.auto6._auto_1):JE X (.Name x pos) (tY i):=⟨pvL i h hN hsc hd hcd⟩
theorem j_vC (i:Nat) (h:sc.names.lookup x=some .cell) (hN:autoParam (X.N[i]?=some x) L2.auto4._auto_1) (hsc:autoParam (X.env.scope=sc) L2.auto4._auto_1) (hd:autoParam ((x == ("__debug__":Str))=false) L2.auto6._auto_1) (hcd:autoParam ((x == ("__classdict__":Str))=false) L2.auto6._auto_1):JE X (.Name x pos) (tY i):=⟨pvC i h hN hsc hd hcd⟩
theorem kh (i:Nat) (h:scope.names.lookup x=some .local) (hN:autoParam (N'[i]?=some x) L2.auto4._auto_1) (hd:autoParam ((x == ("__debug__":Str))=false) L2.auto6._auto_1) (hcd:autoParam ((x == ("__classdict__":Str))=false) L2.auto6._auto_1):JE (sZ X N' scope C s₀ H₀ ex) (.Name x pos) (tY i):=⟨pvBL i h hN hd hcd⟩
theorem mj (i:Nat) (h:scope.names.lookup x=some .free) (hN:autoParam (N'[i]?=some x) L2.auto4._auto_1) (hd:autoParam ((x == ("__debug__":Str))=false) L2.auto6._auto_1) (hcd:autoParam ((x == ("__classdict__":Str))=false) L2.auto6._auto_1):JE (sZ X N' scope C s₀ H₀ ex) (.Name x pos) (tY i):=⟨pvBF i h hN hd hcd⟩
theorem aF {i j}:JE X (.Constant (.int i) j pos) (tC (.int i)):=⟨VB⟩
theorem lJ {i j}:JE X (.Constant (.bool i) j pos) (tC (.bl i)):=⟨YM⟩
theorem U6 {j}:JE X (.Constant .none j pos) (tC .non):=⟨VD⟩
theorem qt {i j}:JE X (.Constant (.str i) j pos) (tC (.str i)):=⟨VF⟩
theorem yF {z:Str} (hg:Gl X x) (hm:∃ t,X.mg x=some (.str z t)) (hd:(x == ("__debug__":Str))=false):JE X (.Name x pos) (tC (.str z)):=⟨Oa hg hm hd⟩
theorem yG {z:Int} (hg:Gl X x) (hm:∃ t,X.mg x=some (.int z t)) (hd:(x == ("__debug__":Str))=false):JE X (.Name x pos) (tC (.int z)):=⟨Ob hg hm hd⟩
theorem uY {T:String} (hg:Gl X x) (hm:X.mg x=none) (hv:bootBuiltins x=some (.type T)) (hn:x≠"__name__") (hd:(x == ("__debug__":Str))=false):JE X (.Name x pos) (tC (.ty T)):=⟨Zo hg hm hv hn hd⟩
theorem aY {op:Operator} {r:R2} (ho:OpR X (binaryOp op) r) (ha:JE X a ta) (hb:JE X b tb):JE X (.BinOp a op b pos) (Nf r ta tb):=⟨YW ho ha.run hb.run⟩
theorem vZ {op:UnaryOp} {r:V->Hp->VK->Prop} (ho:UnR X (unaryOp op) r) (ha:JE X a ta):JE X (.UnaryOp op a pos) (tUn r ta):=⟨YX ho ha.run⟩
theorem uZ {op:CmpOp} {r:R2} (ho:OpR X (compareOp op) r) (ha:JE X a ta) (hb:JE X b tb) (hm:behindInMarks op b=false):JE X (.Compare a [op] [b] pos) (Nf r ta tb):=⟨Rt ho ha.run hb.run hm⟩
theorem bh {op:CmpOp} {r:R2} (ho:OpR X (compareOp op) r) (ha:JE X a ta) (hb:JE X b tb) (hm:behindInMarks op b=false):JT X (.Compare a [op] [b] pos) (Ae (Nf r ta tb)):=⟨Ru ho ha.run hb.run hm⟩
theorem xT (ha:JT X a tA):JW X (.BoolOp .And [a] pos) tA:=⟨Rh ha.run⟩
theorem mQ (ha:JT X a tA):JW X (.BoolOp .Or [a] pos) tA:=⟨VJ ha.run⟩
theorem Ca (ha:JT X a tA) (hb:JW X (.BoolOp .And (b :: rest) pos) tB'):JW X (.BoolOp .And (a :: b :: rest) pos) (Rf tA tB'):=⟨VL ha.run hb.run⟩
theorem mR (ha:JT X a tA) (hb:JW X (.BoolOp .Or (b :: rest) pos) tB'):JW X (.BoolOp .Or (a :: b :: rest) pos) (tOr tA tB'):=⟨YQ ha.run hb.run⟩
theorem mU (h:JW X e tt):JT X e tt:=⟨h.run.pt⟩
theorem dN (ha:JT X a tA):JT X (.UnaryOp .Not a pos) (VH tA):=⟨VM ha.run⟩
def plainT:Expr->Bool
 | .BoolOp ..=>false | .UnaryOp ..=>false | .Compare ..=>false | .IfExp ..=>false | _=>true
theorem dO (h:JE X e te) (hp:autoParam (plainT e=true) L2.auto4._auto_1):JT X e (tB te):=⟨VG h.run (by
 intro whole;cases e <;> first | rfl | cases hp)⟩
theorem wQ {op} (h:JE X a te):JE X (.BoolOp op [a] pos) te:=⟨VP h.run⟩
theorem tM (ha:JE X a ta) (hb:JE X (.BoolOp .And (b :: rest) pos) tb):JE X (.BoolOp .And (a :: b :: rest) pos) (Mt ta tb):=⟨VR ha.run hb.run⟩
theorem j_or (ha:JE X a ta) (hb:JE X (.BoolOp .Or (b :: rest) pos) tb):JE X (.BoolOp .Or (a :: b :: rest) pos) (VN ta tb):=⟨YS ha.run hb.run⟩
theorem U9 (ha:JE X a ta):JE X (.UnaryOp .Not a pos) (Mu ta):=⟨VV ha.run⟩
theorem ZC (hc:JT X c tA) (ha:JE X a ta) (hb:JE X b tb):JE X (.IfExp c a b pos) (tIf tA ta tb):=⟨Mv hc.run ha.run hb.run⟩
theorem oZ {x1} (h:JA X es t):JE X (.Tuple es x1 pos) (Ry t):=⟨Wq h.run⟩
theorem gJ (h:JA X es t):JE X (.List es pos) (Rz t):=⟨Wr h.run⟩
theorem ao:JA X [] Nq:=⟨Wo⟩
theorem aa (ha:JE X e te) (hr:JA X es t) (h:autoParam (notStar e=true) L2.auto4._auto_1):JA X (e :: es) (Il te t):=⟨paC ha.run hr.run h⟩
theorem dH:JO X none Bw:=⟨RC⟩
theorem gB (h:JE X e te):JO X (some e) (Nu te):=⟨RD h.run⟩
theorem my {r:V->Option Int->Option Int->Hp->VK->Prop} {lo hi:Option Expr} {tl th:TO} (hr:SlR X r) (he:JE X e te) (hl:JO X lo tl) (hu:JO X hi th):JE X (.Subscript e (.Slice lo hi none p2) pos) (tSl r te tl th):=⟨Nv hr he.run hl.run hu.run⟩
theorem bT (hK:X.K=K) (ha:JE X a ta) (hb:JE X b tb) (h:autoParam (qF b=true) L2.auto4._auto_1):JE X (.Subscript a b pos) (Nf (UV K) ta tb):=⟨ixE hK ha.run hb.run h⟩
theorem aK {k:Nat} {ps:List Str} {sp:Sp} (F:Has X.prog X.w X.K X.mg X.base k x ps sp) (hr:Room k X.A) (hg:Gl X x) (ha:JA X (e :: es) t) (hdb:(x == ("__debug__":Str))=false) (h:autoParam ((e :: es).all notStar=true) L2.auto4._auto_1):
  JE X (.Call (.Name x p) (e :: es) [] pos) (Ag sp [] E0 t):=⟨Zr F hr hg ha.run hdb h⟩
theorem aJ {id:String} {r:List V->Hp->VK->Prop} (hc:CallR X (.builtin id) r) (hg:Gl X x) (hm:X.mg x=none) (hv:bootBuiltins x=some (.builtin id)) (ha:JA X (e :: es) t) (hn:x≠"__name__") (hdb:(x == ("__debug__":Str))=false) (h:autoParam ((e :: es).all notStar=true) L2.auto4._auto_1):
  JE X (.Call (.Name x p) (e :: es) [] pos) (Wt r t):=⟨Zt hc hg hm hv ha.run hn hdb h⟩
theorem qH {T:String} {r:List V->Hp->VK->Prop} (hc:CallR X (.type T) r) (hg:Gl X x) (hm:X.mg x=none) (hv:bootBuiltins x=some (.type T)) (ha:JA X (e :: es) t) (hn:x≠"__name__") (hdb:(x == ("__debug__":Str))=false) (h:autoParam ((e :: es).all notStar=true) L2.auto4._auto_1):
  JE X (.Call (.Name x p) (e :: es) [] pos) (Wt r t):=⟨WX hc hg hm hv ha.run hn hdb h⟩
theorem je {name:Str} {T id:String} {r:V->List V->Hp->VK->Prop} (hK:X.K=K) (pa:PlainAttrs T) (slot:Slot T name id) (hty:typeOf (.builtin id)=pure (.type "method_descriptor")) (hm:Y7 X id r) (ho:JE X o to) (ha:JA X (e :: es) t)
  (hbase:autoParam (uX o=true) L2.auto4._auto_1) (hl:autoParam (es.length < 20) L2.auto2._auto_1) (hline:autoParam ((apos.endLine == cpos.line)=true) L2.auto4._auto_1) (h:autoParam ((e :: es).all notStar=true) L2.auto4._auto_1):JE X (.Call (.Attribute o name apos) (e :: es) [] cpos) (Zd K T r to t):=⟨Zv hK pa slot hty hm ho.run ha.run hbase hl hline h⟩
theorem gW:W0 X [] NK:=⟨NP⟩
variable {tg iter elt:Expr} {ifs:List Expr} {sub:List (Option Nat)} {wi:TI} {g:TG} {N:List Str}
theorem km {ta:TA} (hg:Gl X "range") (hm:X.mg "range"=none) (ha:JA X [a] ta) (h:autoParam (notStar a=true) L2.auto4._auto_1):JI X tg (.Call (.Name "range" p) [a] [] pos) (M8 ta):=⟨Kh hg hm ha.run (bW h)⟩
theorem K3 {ta:TA} (hg:Gl X "range") (hm:X.mg "range"=none) (ha:JA X [a,b] ta) (h:autoParam (notStar a=true) L2.auto4._auto_1) (h2:autoParam (notStar b=true) L2.auto4._auto_1):JI X tg (.Call (.Name "range" p) [a,b] [] pos) (Nb ta):=⟨Kl hg hm ha.run (by rw [bW h,bW h2];rfl) (by rw [bW h2];rfl)⟩
theorem dR (hK:X.K=K) (hl:JE X e te):JI X tg e (RT K te):=⟨RW hK hl.run⟩
theorem bB {i:Nat} (hN:X.N.Nodup) (hi:X.N[i]?=some x) (hx:Loc X.env.scope x) (hf:X.fn x=true):JG X (.Name x pos) (tG i):=⟨Ie hN hi hx (.inl hf)⟩
theorem qI (i:Nat) (h:scope.names.lookup x=some .local) (hN:N'.Nodup) (hi:autoParam (N'[i]?=some x) L2.auto4._auto_1):JG (sZ X N' scope C s₀ H₀ ex) (.Name x pos) (tG i):=⟨pgB i h hN hi⟩
theorem pK:JGs X [] V5:=⟨Ro⟩
theorem fB {gs:Kf} (h1:JG X e g) (h2:JGs X es gs) (hs:autoParam ((assignEach (e :: es) X.env).map (·.2)=assign e X.env :: (assignEach es X.env).map (·.2)) L2.auto4._auto_1):JGs X (e :: es) (MK g gs):=⟨MN h1.run h2.run hs⟩
theorem t8 {ts:List Expr} {k:Nat} {gs:Kf} {n:Nat} (hK:X.K=K) (hc:X.calm=true) (h:JGs X ts gs) (hn:autoParam ((assignEach ts X.env).length=n) L2.auto4._auto_1) (hst:autoParam ((assignEach ts X.env).findIdx? (·.1)=none) L2.auto4._auto_1):JG X (.Tuple ts k pos) (Rp K n gs):=⟨RX hK hc h.run hn hst⟩
theorem qJ {ts:Gv} (ho:JE X a ta) (hi:JE X b tb) (hs:Rn X ts) (h:autoParam (qF b=true) L2.auto4._auto_1):JG X (.Subscript a b pos) (V7 ta tb ts):=⟨V8 ho.run hi.run hs (by
 intro v;cases b <;> first | rfl | cases h)⟩
theorem jJ (S:wM N sc N' scope sub) (hc:X.calm=true) (hN:X.N=N) (hsc:X.env.scope=sc) (hi:JI X tg iter wi)
  (hg:∀ (C:Addr) (s₀:Shared) (H₀:Hp) (ex:List Addr),JG (sZ X N' scope C s₀ H₀ ex) tg g)
  (ht:∀ (C:Addr) (s₀:Shared) (H₀:Hp) (ex:List Addr),W0 (sZ X N' scope C s₀ H₀ ex) ifs tt)
  (he:∀ (C:Addr) (s₀:Shared) (H₀:Hp) (ex:List Addr),JE (sZ X N' scope C s₀ H₀ ex) elt te) (h:autoParam (vW iter=true) L2.auto4._auto_1):
  JE X (.ListComp elt [⟨tg,iter,ifs,0⟩] scope pos) (yw sub wi g tt te):=⟨Zy S hc hN hsc hi.run (fun C s₀ H₀ ex=>(hg C s₀ H₀ ex).run) (fun C s₀ H₀ ex=>(ht C s₀ H₀ ex).run) (fun C s₀ H₀ ex=>(he C s₀ H₀ ex).run) h⟩
variable {st:Stmt} {sts:List Stmt} {u v:TS}
theorem aM {i:Nat} (hN:X.N.Nodup) (hi:X.N[i]?=some x) (hx:Loc X.env.scope x) (he:JE X e te) (hf:X.fn x=true) (h:autoParam (nR e=true) L2.auto4._auto_1):JS X (.Assign [.Name x pos'] e pos) (DQ te (tG i)):=⟨Zw hN hi hx he.run hf h⟩
theorem nY {ts:Gv} (he:JE X e te) (hg:JG X (.Subscript a b pos') g) (h:autoParam (nR e=true) L2.auto4._auto_1):JS X (.Assign [.Subscript a b pos'] e pos) (DQ te g):=⟨Wa he.run hg.run (by show swapsWith e (some (.Subscript a b pos')) pos.line X.env=pure false;exact Es h) (by cases e <;> rfl) rfl⟩
theorem aL (he:JE X e te):JS X (.Return (some e) pos) (V0 te):=⟨V3 he.run⟩
theorem aO (he:JE X e te) (h:autoParam (nR e=true) L2.auto4._auto_1):JS X (.Expr e pos) (Ib te):=⟨WY he.run h⟩
theorem bQ {sa sb:List Stmt} (hc:JT X c tt) (ha:JB X sa u) (hb:JB X sb v):JS X (.If c sa sb pos) (V4 tt u v):=⟨YT hc.run ha.run hb.run⟩
theorem eN {body:List Stmt} (hp:PassesOwn (model X.prog X.w) X.A X.env X.xe) (hc:X.calm=true) (hi:JI X tg iter wi) (hg:JG X tg g) (hb:JB X body u) (h:autoParam (vW iter=true) L2.auto4._auto_1):JS X (.For tg iter body [] pos) (Rq wi g u):=⟨Zx hp hc hi.run hg.run hb.run h⟩
theorem Ex {body:List Stmt} (hp:PassesOwn (model X.prog X.w) X.A X.env X.xe) (hc:JT X c tt) (hb:JB X body u):JS X (.While c body [] pos) (Gw tt u):=⟨M6 hp hc.run hb.run⟩
theorem iM:JS X st MF:=⟨MJ⟩
theorem bj:JB X [] Mw:=⟨Rj⟩
theorem aC (h:JS X st u):JB X [st] u:=⟨Rk h.run⟩
theorem aA (h:JS X st u) (h2:JB X sts v):JB X (st :: sts) (Ri u v):=⟨Mz h.run h2.run⟩
end
section
variable {P:Program} {w:World} {K:W.Frag} {mg:Str->Option Value} {base:Heap}
theorem eO {x:Str} {st:Stmt} {N ps:List Str} {k:Nat} {sp:Sp} (D:dM K mg x st) (S:aG N ps (aB st))
  (hb:∀ (kV doc pm:Value) (an:Option Addr) (cdv ct:Value) (us:List Value),us.length=ps.length->bindArgs (PySem.W.fnOf x x (eZ st) (bU st) (aB st) .none kV doc pm an cdv ct) ⟨us,[]⟩=pure (ps.zip us))
  (len:∀ vs H Q E,sp vs H Q E->vs.length=ps.length)
  (hbody:∀ (f:Addr) (cdv:Value) (A:Around) (outer:List Env) (s:Shared) (H:Hp) (vs:List V) (Q:VK) (E:XK),Room k (A.deeper (envOfC x (aB st) s.heap.objs.size f cdv))->sp vs H Q E->
   ∃ t,JB (qz Kz P w K mg base N x (aB st) f cdv A outer s H E).nox (bU st) t/\t {nx:=fun _ H'=>Q .non H',rt:=Q} (start N vs) H):Has P w K mg base (k+1) x ps sp:=
 WM D S hb len fun f cdv A outer s H vs Q E hr h=>let ⟨t,j,q⟩:=hbody f cdv A outer s H vs Q E hr h;⟨t,j.run,q⟩
theorem okJ {x:Str} {st:Stmt} {N ps:List Str} {k:Nat} {sp:Sp} {f:Addr} {fd:FuncData} (F:Fun K x x st f fd) (S:aG N ps (aB st)) (len:∀ vs H Q E,sp vs H Q E->vs.length=ps.length)
  (hbody:∀ (f:Addr) (cdv:Value) (A:Around) (outer:List Env) (s:Shared) (H:Hp) (vs:List V) (Q:VK) (E:XK),Room k (A.deeper (envOfC x (aB st) s.heap.objs.size f cdv))->sp vs H Q E->
   ∃ t,JB (qz Kz P w K mg base N x (aB st) f cdv A outer s H E).nox (bU st) t/\t {nx:=fun _ H'=>Q .non H',rt:=Q} (start N vs) H):FnOk P w K mg base Kz (k+1) f fd ps sp:=
 F.ok S len fun cdv A outer s H vs Q E hr h=>let ⟨t,j,q⟩:=hbody f cdv A outer s H vs Q E hr h;⟨t,j.run,q⟩
end
theorem qK {K:W.Frag} {mg:Str->Option Value} {h:Heap} (X:K.In h) (G:h.Ns mainGlobals mg) {x:Str} {v:Value} {f:Tok->Value} (a:PySem.W.nsIn K mainGlobals x=some (some v)) (e:∃ t,v=f t):∃ t,mg x=some (f t):=by
 obtain ⟨t,rfl⟩:=e;exact ⟨t,Aa2 X G a⟩
theorem ZD {l:PySem.W.OpenLaw} {q:Program} {loose:List Str} {XP:(Str->Option Value)->Heap->Prop} {YP:World->Heap->Prop} {d:DefRec} {K:Params->W.Frag} {st:Stmt} {k:Nat} {sp:W.Frag->Sp} {x:Str}
  (hn:l.most=some 63) (hdf:d.params.defaults=[]) (hdn:d.name="law") (hk:Room k callerA) (hY:∀ (w:World) (h:Heap),YP w h->(K w.params).In h)
  (hb:∀ (kV doc pm:Value) (an:Option Addr) (cdv ct:Value) (us:List Value),us.length=[x].length->bindArgs (PySem.W.fnOf "law" "law" (eZ st) (bU st) (aB st) .none kV doc pm an cdv ct) ⟨us,[]⟩=pure ([x].zip us))
  (F:∀ (w:World) (mg:Str->Option Value) (h:Heap),(K w.params).In h->h.Ns mainGlobals mg->dM (K w.params) mg "law" st/\∀ (base:Heap) (f:Addr) (fd:FuncData),Fun (K w.params) "law" "law" st f fd->FnOk l.prog w (K w.params) mg base Kz k f fd [x] (sp (K w.params)))
  (hsp:∀ (K:W.Frag) (H:Hp) (a:Addr) (ns:List Int),ns.length<=63->SqL K H a (ns.map V.int)->sp K [.ref a] H (fun v _=>v= .bl true) fun _ _ _=>False) (him:autoParam (importsNone q=true) L2.auto6._auto_1):
  PySem.W.WalkO q loose XP YP l.row.toRowW d [] (fun f vs=>PySem.call f vs):=
 L2.RK (n:=63) (k:=k) (x:=x) (CX:=fun _=>Kz) (sp:=fun w=>sp (K w.params)) hn (by decide) hdf hk hY (fun w mg fa h X G e=>by
  obtain ⟨⟨f,fd,Fn,hm⟩,ok⟩:=F w mg h X G;rw [hdn,hm] at e;have ef:f=fa:=by injection (AaE e)
  subst ef;refine ⟨fd,fun s u=>?_,fun base _ _=>ok base f fd Fn⟩;obtain ⟨oc,od,kV,doc,pm,an,cdv,ct,osl,rfl,lk,hcd⟩:=Fn.ex;exact .of_eq (hb kV doc pm an cdv ct [u] rfl)) (fun w H a ns hl _ hS=>hsp _ H a ns hl hS) (fun _ _ _ _ _ z=>z) him
def W5 (xs:Nat->List V) (n:Nat):It:=⟨fun i _=>i < n,fun i H v H'=>∃ T,H T=none/\v= .ref T/\H'=upd H T (.tup (xs i)),fun i _=>i=n⟩
theorem W6 {P:Program} {w:World} {K:W.Frag} {elts:List Expr} {k:Nat} {pos:Pos} {it:Addr} {fp wr:List Addr} {n:Nat} {xs:Nat->List V} {Pt:Nat->Array Value->Prop} {St:Nat->Heap->Prop} {Mid:Nat->Addr->Heap->Prop}
  (W:∀ A:Around,A.handled=none->WalksT P w A it fp wr n Pt St Mid) (hxs:∀ i,(xs i).length<=sizeLine) (hPt:∀ i vals,Pt i vals->Vals (xs i) vals.toList) (hmem:it∈fp)
  (hobj:∀ i h,St i h->∀ b∈fp,∃ o,h.get? b=some o/\∀ v,o.data≠.cell v)
  (hself:∀ (A:Around) (i:Nat) (s:Shared) (Q:Value->Shared->Prop) (E:Value->Shared->Prop),St i s.heap->Q (.ref it) s->wpAny (model P w) A (pyIter (.ref it)) Q E s):
  Turn P w K (.Tuple elts k pos) (W5 xs n) fp it St where
 mem:=hmem
 obj:=hobj
 keep:=fun i h h' st kk=>(W {} rfl).frame i h h' st kk
 item:=by
  intro X hP hw hK hc i pins s U H E I hf st hg;subst hP hw hK;have W':=W X.A (I.ok.hd hc);refine W'.item i s _ _ hg st fun T vals h' tk hPv hT isT mid kk=>?_
  refine ⟨.ref T,rfl,W'.go elts k pos i T _ _ _ mid fun h'' st'' kk2=>?_⟩;have hTn:H T=none:=I.hok.fresh hT;have hTw:T ∉ wr:=W'.apart i T h' mid;have kall:∀ b o,b ∉ wr->s.heap.get? b=some o->h''.get? b=some o:=fun b o hb e=>kk2 b o hb (kk b o hb e)
  have nT:∀ b o,s.heap.get? b=some o->b≠T:=fun b o e=>AaJ (Aan (Aal e) hT)
  have nTH:∀ b u,H b=some u->b≠T:=fun b u e z=>by rw [z,hTn] at e;cases e
  have nW:∀ b u,H b=some u->b ∉ wr:=fun b u e hb=>by rw [(hf b (W'.sub b hb)).1] at e;cases e
  have isT':h''.IsTuple T vals:=by
   obtain ⟨o,ho,r⟩:=isT;exact ⟨o,kk2 T o hTw ho,r⟩
  have hlT:∃ o,h''.get? T=some o:=let ⟨o,ho,_⟩:=isT';⟨o,ho⟩
  have I':Inv X pins U (upd H T (.tup (xs i))) {s with heap:=h'',toks:=tk}:=by
   refine I.step (g':=s.gens) (d':=s.drawn) (ch:=wr) (fun b hb=>?_) (fun b o _ _ hc e _=>kall b o hc e) (fun b o _ _ hc e _=>⟨o.slots,kall b o hc e⟩) (fun b o _ e hn=>by rw [aD (nT b o e)];exact hn)
    (fun b o hc e=>⟨o,kall b o hc e⟩) (fun b ys e=>by rw [aD (nTH b _ e)];exact e) (fun b o u e=>by rw [aD (nTH b _ e)];exact e) (fun b ps e=>⟨#[],by rw [aD (nTH b _ e),e];simp⟩) (fun m hm=>?_) (fun b u e=>?_) I.bare
   ·obtain ⟨f0,f1,f2,f3,f4,f5⟩:=hf b (W'.sub b hb)
    exact ⟨f3,f1,f4,f5⟩
   ·obtain ⟨o,es,ep,ho,r⟩:=hm
    exact ⟨o,es,ep,kall _ o (fun hb=>(hf _ (W'.sub _ hb)).2.1 rfl) ho,r⟩
   ·by_cases hb:b=T
    ·subst hb
     rw [aj] at e;cases e;obtain ⟨o,ho,hcl,nn,hd⟩:=isT';exact ⟨hxs i,vals.toList,hPt i vals hPv,o,ho,hcl,nn,by simpa using hd⟩
    ·rw [aD hb] at e
     refine (I.hok b u e).stay (fun c v hc' q=>kall c v ?_ q) (fun c q=>by rw [aD (nTH c _ q)];exact q) fun c ys q=>by rw [aD (nTH c _ q)];exact q
     rcases hc' with z | z
     ·rw [z];exact nW b u e
     ·exact nW c _ z
  refine ⟨.ref T,upd H T (.tup (xs i)),I',rfl,⟨T,hTn,rfl,rfl⟩,st'',fun b hb=>?_⟩;obtain ⟨o,e,_⟩:=hobj i _ st b hb;rw [aD (nT b o e)];exact (hf b hb).1
 done:=by
  intro X hP hw hK hc i pins s U H E I hf st hg;subst hP hw hK;have W':=W X.A (I.ok.hd hc);have hg:i=n:=hg;subst hg;refine W'.done s _ _ st fun h' tk kk=>⟨rfl,?_⟩
  have nW:∀ b u,H b=some u->b ∉ wr:=fun b u e hb=>by rw [(hf b (W'.sub b hb)).1] at e;cases e
  refine I.step (g':=s.gens) (d':=s.drawn) (ch:=wr) (fun b hb=>?_) (fun b o _ _ hc e _=>kk b o hc e) (fun b o _ _ hc e _=>⟨o.slots,kk b o hc e⟩) (fun b o _ e hn=>hn)
    (fun b o hc e=>⟨o,kk b o hc e⟩) (fun b ys e=>e) (fun b o u e=>e) (fun b ps e=>⟨#[],by rw [e];simp⟩) (fun m hm=>?_) (fun b u e=>?_) I.bare
  ·obtain ⟨f0,f1,f2,f3,f4,f5⟩:=hf b (W'.sub b hb)
   exact ⟨f3,f1,f4,f5⟩
  ·obtain ⟨o,es,ep,ho,r⟩:=hm
   exact ⟨o,es,ep,kk _ o (fun hb=>(hf _ (W'.sub _ hb)).2.1 rfl) ho,r⟩
  ·refine (I.hok b u e).stay (fun c v hc' q=>kk c v ?_ q) (fun c q=>q) fun c ys q=>q
   rcases hc' with z | z
   ·rw [z];exact nW b u e
   ·exact nW c _ z
 self:=hself
def qu (x:Str) (i:Nat):List V:=[.int i,.str ⟨#[x.cps.getD i 0]⟩]
def ZF (K:W.Frag):R2:=fun x y H Q=>rNe x y H Q\/∃ (a b:Addr) (ns ms:List Int),x= .ref a/\y= .ref b/\SqL K H a (ns.map V.int)/\SqL K H b (ms.map V.int)/\Q (.bl (!decide (ns=ms))) H
theorem W7 {X:Cx} {K:W.Frag} (hK:X.K=K) (hu:X.A.units+64 < cLine):OpR X (compareOp .NotEq) (ZF K):=by
 subst hK;intro pins s U H x y v u Q I rx ry h;rcases h with h | ⟨a,b,ns,ms,rfl,rfl,ha,hb,q⟩
 ·exact Y4 pins s U H x y v u Q I rx ry h
 ·cases rx
  cases ry;obtain ⟨its,r1,p1,z1⟩:=I.list ha;obtain ⟨jts,r2,p2,z2⟩:=I.list hb;exact PySem.W.ne_intsK p1.isList (intsAre_of r1) p2.isList (intsAre_of r2) hu ⟨.bl _,H,I,rfl,q⟩
section
variable {H:Hp} {Q:VK} {K:W.Frag} {U:St}
theorem bN {n:Nat} {gs:Kf} {p:Addr} {xs:List V} {R:St->Hp->Prop} (s:SqT K H p xs) (hl:xs.length=n) (h:gs xs U H R):Rp K n gs (.ref p) U H R:=⟨p,xs,rfl,s,hl,h⟩
theorem bC {t:TG} {u:Kf} {v:V} {vs:List V} {R:St->Hp->Prop} (h:t v U H fun U' H'=>u vs U' H' R):MK t u (v :: vs) U H R:=⟨v,vs,rfl,h⟩
theorem dh {R:St->Hp->Prop} (h:R U H):V5 [] U H R:=⟨rfl,h⟩
theorem dG {p:Addr} {xs:List V} {y:V} (hp:H p=some (.lst xs)) (c:xs.length < sizeLine) (h:Q .non (upd H p (.lst (xs ++ [y])))):Iu (.ref p) [y] H Q:=⟨p,xs,y,rfl,rfl,hp,c,h⟩
theorem Hb {xs:Nat->List V} {n:Nat} {g:TG} {tb:TS} {D:Ends} {H:Hp} (Pv:Nat->St->Hp->Prop) (h0:Pv 0 U H)
  (hs:∀ i U H T,i < n->Pv i U H->H T=none->g (.ref T) U (upd H T (.tup (xs i))) fun σ2 H2=>tb {D with nx:=Pv (i+1),ct:=Pv (i+1),bk:=D.nx} σ2 H2) (hd:∀ U H,Pv n U H->D.nx U H):
  ∃ W:Nat->Nat->St->Hp->Prop,(∃ m,W 0 m U H)/\∀ i m U H,W i m U H->
   ((W5 xs n).stop i H/\D.nx U H)\/((W5 xs n).go i H/\∃ N:St->Hp->Prop,(∀ U' H',N U' H'->∃ m',m' < m/\W (i+1) m' U' H')/\∀ x H',(W5 xs n).yld i H x H'->g x U H' fun σ2 H2=>tb {D with nx:=N,ct:=N,bk:=D.nx} σ2 H2):=by
 refine ⟨fun i m U H=>m=n - i/\i<=n/\Pv i U H,⟨n,by simp,Abb _,h0⟩,?_⟩;rintro i m U H ⟨rfl,hi,p⟩;by_cases hlt:i < n
 ·refine .inr ⟨hlt,Pv (i+1),fun U' H' p'=>⟨n - (i+1),by omega,rfl,hlt,p'⟩,fun x H' y=>?_⟩
  obtain ⟨T,hT,e1,e2⟩:=y;subst e1 e2;exact hs i U H T hlt p hT
 ·have e:i=n:=by omega
  subst e;exact .inl ⟨rfl,hd U H p⟩
theorem vQ {f:Int->V} {i:Int} (h:Q (f i) H):rU f (.int i) H Q:=⟨i,rfl,h⟩
theorem Cd {a:Addr} {xs:List V} {k:Int} (ha:H a=some (.lst xs)) (h0: -(2 ^ 63)<=k) (h1:k < 2 ^ 63) (hz:xs.length*k.toNat<=sizeLine) (h:∀ p,H p=none->Q (.ref p) (upd H p (.lst (List.replicate k.toNat xs).flatten))):N8 (.ref a) (.int k) H Q:=
 .inr (.inr ⟨a,k,xs,rfl,rfl,ha,h0,h1,hz,h⟩)
theorem IV {z:Str} {g:TG} {tb:TS} {D:Ends} {H:Hp} (Pv:Nat->St->Hp->Prop) (h0:Pv 0 U H)
  (hs:∀ i U H c,z.cps.toList[i]?=some c->Pv i U H->g (.str ⟨#[c]⟩) U H fun σ2 H2=>tb {D with nx:=Pv (i+1),ct:=Pv (i+1),bk:=D.nx} σ2 H2) (hd:∀ U H,Pv z.length U H->D.nx U H):
  ∃ W:Nat->Nat->St->Hp->Prop,(∃ m,W 0 m U H)/\∀ i m U H,W i m U H->
   ((RP z).stop i H/\D.nx U H)\/((RP z).go i H/\∃ N:St->Hp->Prop,(∀ U' H',N U' H'->∃ m',m' < m/\W (i+1) m' U' H')/\∀ x H',(RP z).yld i H x H'->g x U H' fun σ2 H2=>tb {D with nx:=N,ct:=N,bk:=D.nx} σ2 H2):=by
 refine ⟨fun i m U H=>m=z.cps.size - i/\i<=z.cps.size/\Pv i U H,⟨z.cps.size,by simp,Abb _,h0⟩,?_⟩;rintro i m U H ⟨rfl,hi,p⟩;by_cases hlt:i < z.cps.size
 ·refine .inr ⟨hlt,Pv (i+1),fun U' H' p'=>⟨z.cps.size - (i+1),by omega,rfl,hlt,p'⟩,fun x H' y=>?_⟩
  obtain ⟨e1,c,e2,e3⟩:=y;subst e1 e3;exact hs i U _ c (by simpa using e2) p
 ·have e:i=z.cps.size:=by omega
  subst e;exact .inl ⟨rfl,hd U H p⟩
end
section
variable {X:Cx} {tg iter elt:Expr} {ifs:List Expr} {scope:Scope} {pos:Pos} {N':List Str} {sub:List (Option Nat)} {wi:TI} {g:TG} {tt:TT} {te:TE}
theorem Oj {N:List Str} {sc:Scope} {use:Option (Value->Sem Unit)} {R:Value->Shared->Prop} {p0:Pos} (S:wM N sc N' scope sub) (hc:X.calm=true) (hN:X.N=N) (hsc:X.env.scope=sc) (hi:PI X tg iter wi)
  (hg:∀ (C:Addr) (s₀:Shared) (H₀:Hp) (ex:List Addr),PG (sZ X N' scope C s₀ H₀ ex) tg g)
  (ht:∀ (C:Addr) (s₀:Shared) (H₀:Hp) (ex:List Addr),Eg (sZ X N' scope C s₀ H₀ ex) ifs tt)
  (he:∀ (C:Addr) (s₀:Shared) (H₀:Hp) (ex:List Addr),PE (sZ X N' scope C s₀ H₀ ex) elt te)
  (hs:∀ x,foldedSetIterable iter X.env x=pure x) (pins:List (Addr×Obj)) (s:Shared) (U:St) (H:Hp) (Q:VK) (I:Inv X pins U H s) (h:yw sub wi g tt te U H Q)
  (hend:∀ (D C:Addr) (s5:Shared) (H5:Hp) (m:Str->Option Value),Inv X pins U H5 s5->oV X pins H5 C->s5.heap.Ns C m->Q (.ref D) H5->compPost (model X.prog X.w) X.A X.xe use R (.ref D) C (.ok .next) s5):
  wpAny (model X.prog X.w) X.A (comprehension (.ListComp elt [⟨tg,iter,ifs,0⟩] scope pos) scope X.env p0 (newList []) false (eval iter X.env) use) R X.xe s:=by
 have hcl:∀ x∈scope.names,x.2=NameKind.free->∃ c,X.env.cells.lookup x.1=some c:=fun x hx hk=>I.ok.has x.1 (by have:=S.free x hx hk;rw [← hsc] at this;exact this)
 refine wpAny_comprehension_free (use:=use) rfl hs (tH hcl) S.kind S.loc ?_;refine d7 (hi pins s U H _ I h) fun v s1 h1=>d7 h1 fun itv s2 h2=>?_
 obtain ⟨it,fp,tn,J,H2,e,I2,T,st2,f2,W,⟨m0,w0⟩,turn⟩:=h2;subst e;refine Aa8 (ju fun h₁ hns₁ hk31 hcl₁=>?_);dsimp only at hns₁ hk31 hcl₁ ⊢;generalize hs3:({s2 with heap:=s2.heap.push {cls:=.type "list",dict:=none,data:=.seq ([]:List Value).toArray}}:Shared)=s3;have e3:s2.heap.push {cls:=.type "list",dict:=none,data:=.seq ([]:List Value).toArray}=s3.heap:=by rw [← hs3]
 rw [e3] at hns₁ hk31 hcl₁ ⊢;have hD3:s3.heap.get? s2.heap.objs.size=some {cls:=.type "list",dict:=none,data:=.seq ([]:List Value).toArray}:=by rw [← e3];exact Aaq _ rfl
 have I3:Inv X pins U H2 s3:=by
  rw [← hs3];exact I2.kept (t':=s2.toks) fun b o e=>Aae _ e
 have k23:∀ b o,s2.heap.get? b=some o->s3.heap.get? b=some o:=fun b o e=>by rw [← e3];exact Aae _ e
 have hsz:s3.heap.objs.size=s2.heap.objs.size+1:=by rw [← e3,Abk]
 have hDn:H2 s2.heap.objs.size=none:=I2.hok.fresh (Aad _);have fD:oV X pins H2 s2.heap.objs.size:=I2.fpOk (Aad _) hDn;have hfo:∀ b∈fp,b < s2.heap.objs.size:=fun b hb=>let ⟨o,e,_⟩:=T.obj _ _ st2 b hb;Aal e
 have hDfp:s2.heap.objs.size ∉ fp:=fun z=>absurd (hfo _ z) (Aa7 _)
 have I4:=Ao (tk:=s3.toks+([]:List (Str×Value)).length) S hN hsc I3 f2 (fun b hb=>by rw [hsz];exact Nat.lt_succ_of_lt (hfo b hb)) (D:=s2.heap.objs.size) (by rw [hsz];exact AbR _) fD hns₁ hk31 hcl₁
 have stat:∀ {H':Hp} {ob:Obj},(∀ b∈fp,H' b=none)->∀ b∈fp,oV (sZ X N' scope s3.heap.objs.size s3 H2 (s2.heap.objs.size :: fp)) [(s2.heap.objs.size,ob)] H' b:=fun {H' ob} hn b hb=>by
  obtain ⟨q1,q2⟩:=I4.ok.exf b (Aap _ hb);refine ⟨hn b hb,q1,I4.ok.exfs b (Aap _ hb),.inl (Aap _ hb),q2,fun p hp z=>?_⟩;have hp':p=(s2.heap.objs.size,ob):=by simpa [sZ] using hp
  subst hp';have z':s2.heap.objs.size=b:=z;exact hDfp (by rw [z'];exact hb)
 generalize hXC:sZ X N' scope s3.heap.objs.size s3 H2 (s2.heap.objs.size :: fp)=XC at I4 stat;have eP:XC.prog=X.prog:=by rw [← hXC];rfl
 have eW:XC.w=X.w:=by rw [← hXC];rfl
 have eK:XC.K=X.K:=by rw [← hXC];rfl
 have eA:XC.A=X.A:=by rw [← hXC];rfl
 have eE:XC.env=compEnvC scope (KD X scope s3.heap.objs.size) s3.heap.objs.size X.env:=by rw [← hXC];rfl
 have eC:XC.calm=true:=by rw [← hXC];exact hc
 have eX:XC.xe=fun _ _=>False:=by rw [← hXC];rfl
 have eH:XC.H₀=H2:=by rw [← hXC];rfl
 have eS:XC.s₀=s3:=by rw [← hXC];rfl
 have eF:XC.fs=frs X.stack:=by rw [← hXC];rfl
 have eEx:XC.ex=s2.heap.objs.size :: fp:=by rw [← hXC];rfl
 have ePn:XC.pn=[]:=by rw [← hXC];rfl
 have hgC:PG XC tg g:=by rw [← hXC];exact hg _ _ _ _
 have htC:Eg XC ifs tt:=by rw [← hXC];exact ht _ _ _ _
 have heC:PE XC elt te:=by rw [← hXC];exact he _ _ _ _
 have pinD:∀ {U':St} {H':Hp} {s':Shared} {ob:Obj},Inv XC [] U' H' s'->H' s2.heap.objs.size=none->s'.heap.get? s2.heap.objs.size=some ob->(∀ v,ob.data≠.cell v)->Inv XC [(s2.heap.objs.size,ob)] U' H' s':=fun {U' H' s' ob} J hn hg hd=>
  J.pins_of fun p hp=>by
   have hp':p=(s2.heap.objs.size,ob):=by simpa using hp
   subst hp';refine ⟨hg,hn,(J.ok.exf _ (by rw [eEx];exact AaH)).1,J.ok.exfs _ (by rw [eEx];exact AaH),hd⟩
 have loop:codeAny (model X.prog X.w) X.A (.compLoop (.ListComp elt [⟨tg,iter,ifs,0⟩] scope pos) 0 (.ref it) (.ref s2.heap.objs.size) (compEnvC scope (KD X scope s3.heap.objs.size) s3.heap.objs.size X.env))
   (compPost (model X.prog X.w) X.A X.xe use R (.ref s2.heap.objs.size) s3.heap.objs.size) {s3 with heap:=h₁,toks:=s3.toks+([]:List (Str×Value)).length}:=by
  refine An (fun n s'=>∃ (i:Nat) (ys:List V) (its:List Value) (nn:Nat) (H':Hp),Inv XC [] (eU sub U) H' s'/\tn i s'.heap/\(∀ b∈fp,H' b=none)/\H' s2.heap.objs.size=none/\
   s'.heap.get? s2.heap.objs.size=some {cls:=.type "list",data:=.seq its.toArray nn}/\Vals ys its/\W i n ys H') ?_ m0
   ⟨0,[],[],_,H2,I4,T.keep _ _ _ st2 fun b _ o e=>hk31 b o (k23 b o e),fun b hb=>(f2 b hb).1,hDn,hk31 _ _ hD3,.nil,w0⟩
  rintro n s4 ⟨i,ys,its,nn,H4,J4,st4,fr4,dn4,dg4,rv4,w4⟩;have P4:=pinD J4 dn4 dg4 (fun v z=>by cases z);rcases turn i n ys H4 w4 with ⟨stop,hyl,qn⟩ | ⟨go,hyl,N,hN,step⟩
  ·have hdone:=T.done XC eP eW eK eC i _ s4 _ H4 (fun _ _=>False) P4 (stat fr4) st4 stop
   rw [eA] at hdone;refine AaP hdone (fun r s5 ⟨hr,I5⟩=>?_) fun _ _ z=>z
   subst hr;obtain ⟨m,hn,_⟩:=id I5.loc;have hCe:XC.env.locals=s3.heap.objs.size:=by rw [eE];rfl
   rw [hCe] at hn;have hDg:=(I5.pin (s2.heap.objs.size,_) (by rw [ePn];exact AaH)).1;have hDne:s2.heap.objs.size≠s3.heap.objs.size:=by rw [hsz];exact AaJ (AbR _)
   have hHC:H4 s3.heap.objs.size=none:=by have:=I5.free;rw [hCe] at this;exact this
   have k56:∀ b o,b≠s3.heap.objs.size->s5.heap.get? b=some o->s5.heap.get? b=some o:=fun b o hb e=>e
   have un:=I5.base;rw [eF,eEx,eH,eS] at un;have nC:∀ b o,s3.heap.get? b=some o->b≠s3.heap.objs.size:=fun b o e=>AaJ (Aal e)
   have hok6:HOk X.prog X.w (upd H4 s2.heap.objs.size (.lst ys)) s5.heap:=by
    have h5:=I5.hok;rw [eP,eW] at h5;have Q7:∀ b u,H4 b=some u->b≠s3.heap.objs.size:=fun b u e z=>by rw [z,hHC] at e;cases e
    intro b u e;by_cases hb:b=s2.heap.objs.size
    ·subst hb
     rw [aj] at e;cases e;exact ⟨hyl,its,nn,rv4,k56 _ _ hDne hDg⟩
    ·rw [aD hb] at e
     have nD:∀ c u,H4 c=some u->c≠s2.heap.objs.size:=fun c u e z=>by rw [z,dn4] at e;cases e
     refine (h5 b u e).stay (fun c v hc' q=>k56 c v ?_ q) (fun c q=>by rw [aD (nD c _ q)];exact q) fun c xs q=>by rw [aD (nD c _ q)];exact q
     rcases hc' with z | z
     ·rw [z];exact Q7 b u e
     ·exact Q7 c _ z
   have nD2:∀ c u,H4 c=some u->c≠s2.heap.objs.size:=fun c u e z=>by rw [z,dn4] at e;cases e
   have un6:Un (frs X.stack) (s2.heap.objs.size :: fp) H2 (upd H4 s2.heap.objs.size (.lst ys)) s3.heap s5.heap:=
    ⟨fun b o e nn' hb hx=>k56 b o (nC b o e) (un.keep b o e nn' hb hx),fun b o e nn' hb hx=>let ⟨sl,q⟩:=un.slot b o e nn' hb hx;⟨sl,k56 b _ (nC b o e) q⟩,
     fun b o e nn' hx=>by rw [aD (fun z=>hx (by rw [z];exact AaH))];exact un.free b o e nn' hx,
     fun b o e hx=>let ⟨o',q⟩:=un.there b o e hx;⟨o',k56 b o' (nC b o e) q⟩,
     fun b xs e=>by have q:=un.tups b xs e;rw [aD (nD2 b _ q)];exact q,
     fun b o u e=>by have q:=un.frzs b o u e;rw [aD (nD2 b _ q)];exact q,
     fun b ps e=>let ⟨more,q⟩:=un.tbls b ps e;⟨more,by rw [aD (nD2 b _ q)];exact q⟩⟩
   have I6:Inv X pins U (upd H4 s2.heap.objs.size (.lst ys)) s5:=by
    refine I3.call' (s':=s5) (ch:=s2.heap.objs.size :: fp) ?_ un6 hok6 I5.bare fun b hb=>?_
    ·show s5.os=s3.os
     have:=I5.os;rw [eS] at this;exact this
    ·have q:oV X pins H2 b:=by
      rcases Aaj.mp hb with rfl | z
      ·exact fD
      ·exact f2 b z
     obtain ⟨f0,f1,f2',f3,f4,f5⟩:=q;exact ⟨f3,f1,f4,f5⟩
   have dC:upd H4 s2.heap.objs.size (.lst ys) s3.heap.objs.size=none:=by rw [aD (Ne.symm hDne)];exact hHC
   exact hend _ _ s5 _ m I6 (I3.fpOk (Aad _) dC) hn (qn _ dn4)
  ·have hitem:=T.item XC eP eW eK eC i _ s4 _ H4 (fun _ _=>False) P4 (stat fr4) st4 go
   rw [eA] at hitem;refine AaP hitem (fun r s5 ⟨u,hr,h5⟩=>?_) fun _ _ z=>z
   subst hr;dsimp only;refine AaP h5 (fun _ s6 ⟨x,H6,I6,r6,y6,st6,fr6⟩=>?_) fun _ _ z=>z
   have P6:=I6.pinned (stat fr6) (T.obj _ _ st6);rw [← eE,← eP,← eW,← eA];refine AaP (hgC _ s6 _ H6 x u _ P6 r6 (step x H6 y6)) (fun _ s7 ⟨σ7,H7,I7,kp7,q7⟩=>?_) fun _ _ z=>by rw [eX] at z;exact z
   refine AaP (htC _ s7 σ7 H7 _ I7 q7) (fun ok s8 ⟨H8,I8,q8⟩=>?_) fun _ _ z=>by rw [eX] at z;exact z
   have fin:∀ {H9:Hp} {s9:Shared},Inv XC ([(s2.heap.objs.size,({cls:=.type "list",data:=.seq its.toArray nn}:Obj))] ++ vR fp s6.heap) σ7 H9 s9->Inv XC [] (eU sub U) H9 s9/\tn (i+1) s9.heap/\(∀ b∈fp,H9 b=none)/\H9 s2.heap.objs.size=none/\
     s9.heap.get? s2.heap.objs.size=some {cls:=.type "list",data:=.seq its.toArray nn}:=fun {H9 s9} J=>by
    have pD:=J.pin (s2.heap.objs.size,({cls:=.type "list",data:=.seq its.toArray nn}:Obj)) (by rw [ePn];simp)
    have pF:∀ b∈fp,∀ o,s6.heap.get? b=some o->s9.heap.get? b=some o/\H9 b=none:=fun b hb o e=>by
     have q:=J.pin (b,o) (by rw [ePn];exact AaV _ (AaV _ (pJ hb e)));exact ⟨q.1,q.2.1⟩
    refine ⟨?_,T.keep _ _ _ st6 fun b hb o e=>(pF b hb o e).1,fun b hb=>?_,pD.2.1,pD.1⟩
    ·have J0:Inv XC [] σ7 H9 s9:=J.pins_of fun p hp=>nomatch hp
     exact J0.weak kp7.1.symm fun j v e=>kp7.2 j v e
    ·obtain ⟨o,e,_⟩:=T.obj _ _ st6 b hb
     exact (pF b hb o e).2
   cases ok with
   | false=>
    rw [if_neg (by simp)];rw [if_neg (by simp)] at q8;obtain ⟨m',hm,w8⟩:=hN _ _ q8;obtain ⟨a1,a2,a3,a4,a5⟩:=fin I8;exact ⟨m',hm,i+1,ys,its,nn,H8,a1,a2,a3,a4,a5,rv4,w8⟩
   | true=>
    rw [if_pos rfl];rw [if_pos rfl] at q8;refine AaP (heC _ s8 σ7 H8 _ I8 q8) (fun xv s9 ⟨y,H9,I9,r9,n9⟩=>?_) fun _ _ z=>by rw [eX] at z;exact z
    obtain ⟨m',hm,w9⟩:=hN _ _ n9;obtain ⟨a1,a2,a3,a4,a5⟩:=fin I9;refine wpAny_list_append_plain (items:=its.toArray) ⟨nn,a5⟩ (fun h' ⟨n',hp'⟩ sb=>?_) (by simp;rw [← rv4.length];omega);obtain ⟨q1,q2⟩:=I4.ok.exf s2.heap.objs.size (by rw [eEx];exact AaH);have a1':Inv XC [] (eU sub U) H9 {s9 with heap:=h'}:=a1.turned (t':=s9.toks) (fun b o hb e=>(sb.2 b hb).trans e) a4 q1 (.inl (by rw [eEx];exact AaH)) q2 (fun p hp=>by rw [ePn] at hp;exact nomatch hp);refine ⟨m',hm,i+1,ys ++ [y],its ++ [xv],n',H9,a1',T.keep _ _ _ a2 fun b hb o e=>(sb.2 b (fun z=>hDfp (by rw [← z];exact hb))).trans e,a3,a4,?_,rv4.append (.cons r9 .nil),w9⟩;rw [hp'];simp
 subst hs3;exact codeAny_compStart_list loop (T.self _ 0 _ _ _ (T.keep _ _ _ st2 fun b _ o e=>hk31 b o (k23 b o e)) loop)
theorem Hc {N:List Str} {sc:Scope} {i:Nat} {x:Str} {pos' spos:Pos} (hNd:X.N.Nodup) (hxi:X.N[i]?=some x) (hx:Loc X.env.scope x) (hf:X.fn x=true) (S:wM N sc N' scope sub) (hc:X.calm=true) (hN:X.N=N) (hsc:X.env.scope=sc) (hi:PI X tg iter wi)
  (hg:∀ (C:Addr) (s₀:Shared) (H₀:Hp) (ex:List Addr),PG (sZ X N' scope C s₀ H₀ ex) tg g)
  (ht:∀ (C:Addr) (s₀:Shared) (H₀:Hp) (ex:List Addr),Eg (sZ X N' scope C s₀ H₀ ex) ifs tt)
  (he:∀ (C:Addr) (s₀:Shared) (H₀:Hp) (ex:List Addr),PE (sZ X N' scope C s₀ H₀ ex) elt te)
  (hs:∀ x,foldedSetIterable iter X.env x=pure x):PS X (.Assign [.Name x pos'] (.ListComp elt [⟨tg,iter,ifs,0⟩] scope pos) spos) (DQ (yw sub wi g tt te) (tG i)):=by
 intro pins s U H D I h;have hsw:∃ b,swapsWith (.ListComp elt [⟨tg,iter,ifs,0⟩] scope pos) (some (.Name x pos')) spos.line X.env=pure b:=⟨_,rfl⟩;obtain ⟨b,hsw⟩:=hsw;cases b with
 | false=>exact MP hNd hxi hx (Iv S hc hN hsc hi hg ht he hs) hsw (.inl hf) pins s U H D I h
 | true=>
  rw [exec_Assign_Name_used _ _ _ _ hsw];refine gV (Acl (gV ?_));show wpAny _ X.A (do let _ ← comprehension (.ListComp elt [⟨tg,iter,ifs,0⟩] scope pos) scope X.env _ (newList []) false (eval iter X.env) (some (assign (.Name x pos') X.env))) _ _ s;refine gV (AaP (Oj (use:=some (assign (.Name x pos') X.env)) (R:=fun _ s'=>SP X pins D .next s') S hc hN hsc hi hg ht he hs pins s U H _ I h ?_) (fun _ s' hq=>Aag (Aag hq)) fun _ _ e=>e);intro Da C s5 H5 m I5 fC hn q;show wpAny _ X.A (assign (.Name x pos') X.env (.ref Da)) _ _ _;refine wpAny_assign_Name (Ab I5 hNd hxi hx (v:=.ref Da) rfl (fun s6 I6 qq0=>?_) (.inl hf));obtain ⟨a,sb,ha⟩:=qq0;obtain ⟨f0,f1,f2,f3,f4,f5⟩:=fC
  have hCa:C≠a:=fun z=>by
   rcases ha with e | e
   ·exact f1 (z.trans e)
   ·exact f4 x a e z.symm
  exact ⟨m,hn.sameBut sb hCa,fun h' hs'=>⟨_,H5,I6.turned (t':=s6.toks) (fun b o hb e=>hs'.extBut b o hb e) f0 f1 f3 f4 f5,q⟩⟩
end
section
variable {X:Cx} {tg iter elt:Expr} {ifs:List Expr} {scope:Scope} {pos:Pos} {N':List Str} {sub:List (Option Nat)} {wi:TI} {g:TG} {tt:TT} {te:TE} {N:List Str} {sc:Scope}
theorem R0 {i:Nat} {x:Str} {pos' spos:Pos} (hNd:X.N.Nodup) (hxi:X.N[i]?=some x) (hx:Loc X.env.scope x) (S:wM N sc N' scope sub) (hc:X.calm=true) (hN:X.N=N) (hsc:X.env.scope=sc) (hi:JI X tg iter wi)
  (hg:∀ (C:Addr) (s₀:Shared) (H₀:Hp) (ex:List Addr),JG (sZ X N' scope C s₀ H₀ ex) tg g)
  (ht:∀ (C:Addr) (s₀:Shared) (H₀:Hp) (ex:List Addr),W0 (sZ X N' scope C s₀ H₀ ex) ifs tt)
  (he:∀ (C:Addr) (s₀:Shared) (H₀:Hp) (ex:List Addr),JE (sZ X N' scope C s₀ H₀ ex) elt te) (hf:X.fn x=true) (h:autoParam (vW iter=true) L2.auto4._auto_1):
  JS X (.Assign [.Name x pos'] (.ListComp elt [⟨tg,iter,ifs,0⟩] scope pos) spos) (DQ (yw sub wi g tt te) (tG i)):=
 ⟨Hc hNd hxi hx hf S hc hN hsc hi.run (fun C s₀ H₀ ex=>(hg C s₀ H₀ ex).run) (fun C s₀ H₀ ex=>(ht C s₀ H₀ ex).run) (fun C s₀ H₀ ex=>(he C s₀ H₀ ex).run) (Oe h)⟩
end
section
variable {X:Cx} {pins:List (Addr×Obj)} {U:St} {H:Hp} {s:Shared}
theorem Inv.newtup {wr:List Addr} {T:Addr} {vals:Array Value} {xs:List V} {h'':Heap} {tk:Nat} (I:Inv X pins U H s) (hf:∀ b∈wr,oV X pins H b) (hT:s.heap.objs.size<=T)
  (kall:∀ b o,b ∉ wr->s.heap.get? b=some o->h''.get? b=some o) (isT':h''.IsTuple T vals) (hv:Vals xs vals.toList) (hx:xs.length<=sizeLine):Inv X pins U (upd H T (.tup xs)) {s with heap:=h'',toks:=tk}:=by
 have hTn:H T=none:=I.hok.fresh hT;have nT:∀ b o,s.heap.get? b=some o->b≠T:=fun b o e=>AaJ (Aan (Aal e) hT)
 have nTH:∀ b u,H b=some u->b≠T:=fun b u e z=>by rw [z,hTn] at e;cases e
 have nW:∀ b u,H b=some u->b ∉ wr:=fun b u e hb=>by rw [(hf b hb).1] at e;cases e
 refine I.step (g':=s.gens) (d':=s.drawn) (ch:=wr) (fun b hb=>?_) (fun b o _ _ hc e _=>kall b o hc e) (fun b o _ _ hc e _=>⟨o.slots,kall b o hc e⟩) (fun b o _ e hn=>by rw [aD (nT b o e)];exact hn)
  (fun b o hc e=>⟨o,kall b o hc e⟩) (fun b ys e=>by rw [aD (nTH b _ e)];exact e) (fun b o u e=>by rw [aD (nTH b _ e)];exact e) (fun b ps e=>⟨#[],by rw [aD (nTH b _ e),e];simp⟩) (fun m hm=>?_) (fun b u e=>?_) I.bare
 ·obtain ⟨f0,f1,f2,f3,f4,f5⟩:=hf b hb
  exact ⟨f3,f1,f4,f5⟩
 ·obtain ⟨o,es,ep,ho,r⟩:=hm
  exact ⟨o,es,ep,kall _ o (fun hb=>(hf _ hb).2.1 rfl) ho,r⟩
 ·by_cases hb:b=T
  ·subst hb
   rw [aj] at e;cases e;obtain ⟨o,ho,hcl,nn,hd⟩:=isT';exact ⟨hx,vals.toList,hv,o,ho,hcl,nn,by simpa using hd⟩
  ·rw [aD hb] at e
   refine (I.hok b u e).stay (fun c v hc' q=>kall c v ?_ q) (fun c q=>by rw [aD (nTH c _ q)];exact q) fun c ys q=>by rw [aD (nTH c _ q)];exact q
   rcases hc' with z | z
   ·rw [z];exact nW b u e
   ·exact nW c _ z
theorem Inv.only {wr:List Addr} {h':Heap} {tk:Nat} (I:Inv X pins U H s) (hf:∀ b∈wr,oV X pins H b) (kk:∀ b o,b ∉ wr->s.heap.get? b=some o->h'.get? b=some o):Inv X pins U H {s with heap:=h',toks:=tk}:=by
 have nW:∀ b u,H b=some u->b ∉ wr:=fun b u e hb=>by rw [(hf b hb).1] at e;cases e
 refine I.step (g':=s.gens) (d':=s.drawn) (ch:=wr) (fun b hb=>?_) (fun b o _ _ hc e _=>kk b o hc e) (fun b o _ _ hc e _=>⟨o.slots,kk b o hc e⟩) (fun b o _ e hn=>hn)
   (fun b o hc e=>⟨o,kk b o hc e⟩) (fun b ys e=>e) (fun b o u e=>e) (fun b ps e=>⟨#[],by rw [e];simp⟩) (fun m hm=>?_) (fun b u e=>?_) I.bare
 ·obtain ⟨f0,f1,f2,f3,f4,f5⟩:=hf b hb
  exact ⟨f3,f1,f4,f5⟩
 ·obtain ⟨o,es,ep,ho,r⟩:=hm
  exact ⟨o,es,ep,kk _ o (fun hb=>(hf _ hb).2.1 rfl) ho,r⟩
 ·refine (I.hok b u e).stay (fun c v hc' q=>kk c v ?_ q) (fun c q=>q) fun c ys q=>q
  rcases hc' with z | z
  ·rw [z];exact nW b u e
  ·exact nW c _ z
end
def Yy (K:W.Frag) (a:Addr):It:=
 ⟨fun i H=>∃ xs x,SqL K H a xs/\xs[i]?=some x,
  fun i H v H'=>∃ T x,H T=none/\v= .ref T/\(∀ xs,SqL K H a xs->xs[i]?=some x)/\H'=upd H T (.tup [.int i,x]),
  fun i H=>∃ xs,SqL K H a xs/\xs.length<=i⟩
theorem Hd {P:Program} {w:World} {K:W.Frag} {elts:List Expr} {k:Nat} {pos:Pos} {e it a:Addr} (hne:e≠it):
  Turn P w K (.Tuple elts k pos) (Yy K a) [e,it] e (fun i h=>(∃ old,IsEnum h e it i old)/\h.IsListIter it a i) where
 mem:=by simp
 obj:=fun i h st c hc=>by
  obtain ⟨⟨old,he⟩,⟨o1,e1,c1,d1⟩⟩:=st;simp only [Aaj,AaN,or_false] at hc;rcases hc with rfl | rfl
  ·exact ⟨_,he,fun v z=>by cases z⟩
  ·exact ⟨_,e1,fun v z=>by rw [d1] at z;cases z⟩
 keep:=fun i h h' st kk=>by
  obtain ⟨⟨old,he⟩,h1⟩:=st;exact ⟨⟨old,kk e (by simp) _ he⟩,h1.at fun o q=>kk it (by simp) o q⟩
 item:=by
  intro X hP hw hK hc i pins s U H E I hf st hg;subst hP hw hK;obtain ⟨⟨old,he⟩,h1⟩:=st;obtain ⟨xs,x,hq,hx⟩:=hg;obtain ⟨its,rv,p,_⟩:=I.list hq;obtain ⟨u,hu,ru⟩:=rv.get hx;refine wpAny_pyNext_enum_item he h1 p.isList (x:=u) (by simpa using hu) hne fun h' a1 a2 a3 a4 hk=>?_
  refine ⟨_,rfl,wpAny_letOwnedTupleGo_enum a1 fun h'' a1' sb=>?_⟩;have lt:∀ {c o},s.heap.get? c=some o->s.heap.objs.size≠c:=fun e=>AbV (Aal e)
  have lti:s.heap.objs.size≠it:=by obtain ⟨o,q,_⟩:=h1;exact lt q
  have isT:h''.IsTuple s.heap.objs.size #[.int i s.toks,u]:=⟨_,sb.extBut _ _ (lt he) a3,rfl,_,rfl⟩
  have kall:∀ b o,b ∉ [e,it]->s.heap.get? b=some o->h''.get? b=some o:=fun b o hb q=>by
   simp only [Aaj,AaN,or_false,not_or] at hb;exact sb.extBut _ _ hb.1 (hk b o hb.1 hb.2 q)
  have hTn:H s.heap.objs.size=none:=I.hok.fresh (Aad _);refine ⟨.ref s.heap.objs.size,_,I.newtup (tk:=s.toks+1) hf (Aad _) kall isT (xs:=[.int i,x]) (.cons ⟨_,rfl⟩ (.cons ru .nil)) (by simp;decide),rfl,⟨_,x,hTn,rfl,fun zs hs=>by rw [I.list_inj hs hq];exact hx,rfl⟩,?_,fun b hb=>?_⟩
  ·exact ⟨⟨_,a1'⟩,a2.extBut sb.extBut (Ne.symm hne)⟩
  ·have:s.heap.objs.size≠b:=by
    simp only [Aaj,AaN,or_false] at hb;rcases hb with rfl | rfl
    ·exact lt he
    ·exact lti
   rw [aD (Ne.symm this)];exact (hf b hb).1
 done:=by
  intro X hP hw hK hc i pins s U H E I hf st hg;subst hP hw hK;obtain ⟨⟨old,he⟩,h1⟩:=st;obtain ⟨xs,hq,hx⟩:=hg;obtain ⟨its,rv,p,_⟩:=I.list hq;have l1:=rv.length;refine wpAny_pyNext_enum_end (I.ok.hd hc) he h1 p.isList (by simp;omega) fun h' hk=>⟨rfl,I.only (tk:=s.toks) hf fun b o hb q=>?_⟩
  simp only [Aaj,AaN,or_false,not_or] at hb;exact hk b o hb.2 q
 self:=fun _ _ _ _ _ st h=>let ⟨⟨_,he⟩,_⟩:=st;wpAny_pyIter_enum he h
theorem K4 {X:Cx} {elts:List Expr} {k:Nat} {tp:Pos} {pins:List (Addr×Obj)} {U:St} {H1:Hp} {s1:Shared} {x:Str} {t:Tok} {R:It->Hp->Prop} (hc:X.calm=true) (I1:Inv X pins U H1 s1) (q:R (W5 (qu x) x.cps.size) H1):
  wpAny (model X.prog X.w) X.A (call (.type "enumerate") [.str x t]) (fun v s1=>wpAny (model X.prog X.w) X.A (pyIter v) (PIE X pins U (.Tuple elts k tp) R) X.xe s1) X.xe s1:=by
 refine call_enumerate_str fun h' he hit hsz hk=>?_
 have J1:Inv X pins U H1 {s1 with heap:=h'}:=I1.kept (t':=s1.toks) hk;have ne1:s1.heap.objs.size+1≠s1.heap.objs.size:=Nat.succ_ne_self _;have nm:s1.heap.objs.size+1 ∉ [s1.heap.objs.size]:=fun z=>ne1 (Aam.mp z)
 have hPt:∀ (i:Nat) (vals:Array Value),(∃ t y,SignAt x i y/\vals= #[.int i t,y])->Vals (qu x i) vals.toList:=by
  rintro i vals ⟨t,y,⟨c,u,e1,rfl⟩,rfl⟩;refine .cons ⟨t,rfl⟩ (.cons ⟨u,?_⟩ .nil);rw [show x.cps.getD i 0=c by simp [Abz,e1]]
 have fin:∀ (ty:String) (Dr:∀ A:Around,A.handled=none->Draws X.prog X.w A s1.heap.objs.size [s1.heap.objs.size] x.cps.size (SignAt x) fun i h=>h.IsStrIter s1.heap.objs.size ty x t i),h'.IsStrIter s1.heap.objs.size ty x t 0->
   wpAny (model X.prog X.w) X.A (pyIter (.ref (s1.heap.objs.size+1))) (PIE X pins U (.Tuple elts k tp) R) X.xe {s1 with heap:=h'}:=by
  intro ty Dr hit'
  have W:∀ A:Around,A.handled=none->WalksT X.prog X.w A (s1.heap.objs.size+1) [s1.heap.objs.size+1,s1.heap.objs.size] [s1.heap.objs.size+1,s1.heap.objs.size] x.cps.size
    (fun i vals=>∃ t y,SignAt x i y/\vals= #[.int i t,y]) (fun i h=>(∃ old,IsEnum h (s1.heap.objs.size+1) s1.heap.objs.size i old)/\h.IsStrIter s1.heap.objs.size ty x t i)
    (fun i T h=>(∃ y,IsEnumOut h (s1.heap.objs.size+1) s1.heap.objs.size ((i:Int)+1) y T)/\h.IsStrIter s1.heap.objs.size ty x t (i+1)/\T≠s1.heap.objs.size+1/\T≠s1.heap.objs.size):=
   fun A hA=>WalksT.enumerateD (Dr A.in1 hA) (s1.heap.objs.size+1) ne1 nm (by simp)
  have hself:∀ (A:Around) (i:Nat) (s:Shared) (Q:Value->Shared->Prop) (E:Value->Shared->Prop),((∃ old,IsEnum s.heap (s1.heap.objs.size+1) s1.heap.objs.size i old)/\s.heap.IsStrIter s1.heap.objs.size ty x t i)->Q (.ref (s1.heap.objs.size+1)) s->wpAny (model X.prog X.w) A (pyIter (.ref (s1.heap.objs.size+1))) Q E s:=by
   rintro A i s Q E ⟨⟨old,he⟩,_⟩ hQ;exact wpAny_pyIter_enum he hQ
  refine hself _ 0 _ _ _ ⟨⟨_,he⟩,hit'⟩ ?_;refine ⟨s1.heap.objs.size+1,[s1.heap.objs.size+1,s1.heap.objs.size],_,_,H1,rfl,J1,W6 W (fun i=>by simp [qu];decide) hPt (by simp) ?_ hself,⟨⟨_,he⟩,hit'⟩,fun b hb=>?_,q⟩
  ·rintro i h ⟨⟨old,he⟩,o,ho,hcl,hd⟩ b hb
   rcases Aaj.mp hb with rfl | hb
   ·exact ⟨_,he,fun v z=>by cases z⟩
   ·rw [Aam.mp hb]
    exact ⟨o,ho,fun v z=>by rw [hd] at z;cases z⟩
  ·have hb':s1.heap.objs.size<=b:=by
    rcases Aaj.mp hb with rfl | hb
    ·exact Nat.le_succ _
    ·rw [Aam.mp hb];exact Aad _
   exact I1.fpOk hb' (I1.hok.fresh hb')
 cases hx:x.cps.all (· < 128)
 ·exact fin "str_iterator" (fun A hA=>Draws.strWide hA _ x t) (by simpa [strIterType,hx] using hit)
 ·exact fin "str_ascii_iterator" (fun A hA=>Draws.strAscii hA _ x t) (by simpa [strIterType,hx] using hit)
def Va (K:W.Frag) (ta:TA):TI:=fun U H R=>ta U H fun vs H1=>(∃ x:Str,vs=[.str x]/\R (W5 (qu x) x.cps.size) H1)\/∃ a xs,vs=[.ref a]/\SqL K H1 a xs/\R (Yy K a) H1
theorem u0 {X:Cx} {K:W.Frag} {a:Expr} {ta:TA} {elts:List Expr} {k:Nat} {tp p pos:Pos} (hK:X.K=K) (hc:X.calm=true) (hg:Gl X "enumerate") (hm:X.mg "enumerate"=none) (ha:JA X [a] ta) (h:autoParam (notStar a=true) L2.auto4._auto_1):
  JI X (.Tuple elts k tp) (.Call (.Name "enumerate" p) [a] [] pos) (Va K ta):=⟨by
 subst hK;intro pins s U H R I hq;refine Call_ (jF I hg hm BX (AaI (d7 (ha.run pos pins s U H _ I hq) fun us s1 qq0=>?_) (bW h) rfl));obtain ⟨vs,H1,I1,r1,q1⟩:=qq0;rcases q1 with ⟨x,e,q⟩ | ⟨l,xs,e,hl,q⟩
 ·subst e
  obtain ⟨u,rfl,t,rfl⟩:=vals1 r1;exact K4 hc I1 q
 ·subst e
  obtain ⟨u,rfl,ru⟩:=vals1 r1;cases ru;obtain ⟨its,rv,p1,_⟩:=I1.list hl;refine call_enumerate_list p1.isList fun h' z1 z2 z3 hk=>?_
  have J1:Inv X pins U H1 {s1 with heap:=h'}:=I1.kept (t':=s1.toks) hk;refine wpAny_pyIter_enum z1 ?_;refine ⟨s1.heap.objs.size+1,_,_,_,H1,rfl,J1,Hd (Nat.succ_ne_self _),⟨⟨_,z1⟩,z2⟩,fun b hb=>?_,q⟩
  have hb':s1.heap.objs.size<=b:=by
   simp only [Aaj,AaN,or_false] at hb;have key:∀ n c:Nat,(c=n+1\/c=n)->n<=c:=fun n c h=>by omega
   exact key _ _ hb
  exact I1.fpOk hb' (I1.hok.fresh hb')⟩
end L2
namespace L2
open PySem PySem.Spec PyProof.Rows PySem.SeqAt
mutual
def DR (H:Hp):PyData->V->Prop
 | .none,v=>v= .non
 | .bool b,v=>v= .bl b
 | .int n,v=>v= .int n
 | .str x,v=>v= .str x
 | .list ds,v=>∃ a vs,v= .ref a/\H a=some (.lst vs)/\DRs H ds vs
 | .tuple ds,v=>∃ a vs,v= .ref a/\H a=some (.tup vs)/\DRs H ds vs
 | .dict _,_=>False
def DRs (H:Hp):List PyData->List V->Prop
 | [],vs=>vs=[]
 | d :: ds,vs=>∃ v r,vs=v :: r/\DR H d v/\DRs H ds r
end
mutual
theorem DR.same {H H':Hp} (s:Same H H'):∀ (d:PyData) (v:V),DR H d v->DR H' d v
 | .none,_,h=>by rw [DR] at h ⊢;exact h
 | .bool _,_,h=>by rw [DR] at h ⊢;exact h
 | .int _,_,h=>by rw [DR] at h ⊢;exact h
 | .str _,_,h=>by rw [DR] at h ⊢;exact h
 | .list ds,v,h=>by rw [DR] at h ⊢;obtain ⟨a,vs,e,q,r⟩:=h;exact ⟨a,vs,e,s _ _ q,DRs.same s ds vs r⟩
 | .tuple ds,v,h=>by rw [DR] at h ⊢;obtain ⟨a,vs,e,q,r⟩:=h;exact ⟨a,vs,e,s _ _ q,DRs.same s ds vs r⟩
 | .dict _,_,h=>by rw [DR] at h;exact h.elim
theorem DRs.same {H H':Hp} (s:Same H H'):∀ (ds:List PyData) (vs:List V),DRs H ds vs->DRs H' ds vs
 | [],_,h=>by rw [DRs] at h ⊢;exact h
 | d :: ds,vs,h=>by rw [DRs] at h ⊢;obtain ⟨v,r,e,q,t⟩:=h;exact ⟨v,r,e,DR.same s d v q,DRs.same s ds r t⟩
end
theorem Ce {H:Hp} {n:Int} {v:V}:DR H (.int n) v↔v= .int n:=by rw [DR]
theorem Cg {H:Hp} {ds:List PyData} {v:V}:DR H (.list ds) v↔∃ a vs,v= .ref a/\H a=some (.lst vs)/\DRs H ds vs:=by rw [DR]
theorem Ol {H:Hp} {ds:List PyData} {v:V}:DR H (.tuple ds) v↔∃ a vs,v= .ref a/\H a=some (.tup vs)/\DRs H ds vs:=by rw [DR]
theorem gC {H:Hp} {vs:List V}:DRs H [] vs↔vs=[]:=by rw [DRs]
theorem ie {H:Hp} {d:PyData} {ds:List PyData} {vs:List V}:DRs H (d :: ds) vs↔∃ v r,vs=v :: r/\DR H d v/\DRs H ds r:=by rw [DRs]
theorem kE {H:Hp}:∀ {ds es:List PyData} {vs ws:List V},DRs H ds vs->DRs H es ws->DRs H (ds ++ es) (vs ++ ws)
 | [],_,_,_,h,q=>by rw [gC] at h;subst h;exact q
 | d :: ds,_,_,_,h,q=>by
  rw [ie] at h;obtain ⟨v,r,rfl,hd,hr⟩:=h;exact ie.mpr ⟨v,r ++ _,rfl,hd,kE hr q⟩
theorem sE {H:Hp} {d:PyData} {v:V} (h:DR H d v):DRs H [d] [v]:=ie.mpr ⟨v,[],rfl,h,gC.mpr rfl⟩
theorem Ci {H:Hp}:∀ {ds:List PyData} {vs:List V},DRs H ds vs->vs.length=ds.length
 | [],_,h=>by rw [gC] at h;subst h;rfl
 | d :: ds,_,h=>by rw [ie] at h;obtain ⟨v,r,rfl,_,hr⟩:=h;simp [Ci hr]
theorem Om {H:Hp}:∀ {ds:List PyData} {vs:List V} {i:Nat} {d:PyData},DRs H ds vs->ds[i]?=some d->∃ v,vs[i]?=some v/\DR H d v
 | [],_,_,_,_,e=>by simp at e
 | d :: ds,_,i,d',h,e=>by
  rw [ie] at h;obtain ⟨v,r,rfl,hd,hr⟩:=h;cases i with
  | zero=>simp at e;subst e;exact ⟨v,rfl,hd⟩
  | succ i=>simp at e;obtain ⟨u,h1,h2⟩:=Om hr e;exact ⟨u,by simpa using h1,h2⟩
mutual
theorem DR.reads {P:Program} {w:World} {H:Hp} {h:Heap} (ok:HOk P w H h):∀ (d:PyData) (v:V) (u:Value),DR H d v->RelV v u->∃ as,Reads h u d as
 | .none,_,u,q,r=>by rw [DR] at q;subst q;cases r;exact ⟨_,.none⟩
 | .bool b,_,u,q,r=>by rw [DR] at q;subst q;cases r;exact ⟨_,.bool _⟩
 | .int n,_,u,q,r=>by rw [DR] at q;subst q;obtain ⟨t,rfl⟩:=r;exact ⟨_,.int _ _⟩
 | .str n,_,u,q,r=>by rw [DR] at q;subst q;obtain ⟨t,rfl⟩:=r;exact ⟨_,.str _ _⟩
 | .list ds,v,u,q,r=>by
  rw [DR] at q;obtain ⟨a,vs,rfl,e,t⟩:=q;cases r;obtain ⟨_,its,n,rv,g⟩:=ok a _ e;obtain ⟨as,ra⟩:=DRs.reads ok ds vs its t rv;exact ⟨_,.list g rfl rfl (by simpa using ra)⟩
 | .tuple ds,v,u,q,r=>by
  rw [DR] at q;obtain ⟨a,vs,rfl,e,t⟩:=q;cases r;obtain ⟨_,its,rv,g⟩:=ok a _ e;obtain ⟨as,ra⟩:=DRs.reads ok ds vs its t rv;obtain ⟨o,ho,hc,n,hd⟩:=g;exact ⟨_,.tuple ho hc hd (by simpa using ra)⟩
 | .dict _,_,_,q,_=>by rw [DR] at q;exact q.elim
theorem DRs.reads {P:Program} {w:World} {H:Hp} {h:Heap} (ok:HOk P w H h):∀ (ds:List PyData) (vs:List V) (us:List Value),DRs H ds vs->Vals vs us->∃ as,ReadsAll h us ds as
 | [],_,us,q,r=>by rw [DRs] at q;subst q;cases r;exact ⟨_,.nil⟩
 | d :: ds,_,us,q,r=>by
  rw [DRs] at q;obtain ⟨v,r',rfl,q1,q2⟩:=q;cases r with
  | cons a b=>
   obtain ⟨as,h1⟩:=DR.reads ok d v _ q1 a;obtain ⟨bs,h2⟩:=DRs.reads ok ds r' _ q2 b;exact ⟨_,.cons h1 h2⟩
end
def ZG:R2:=fun x y H Q=>∃ d e,DR H d x/\DR H e y/\shaped d=true/\shaped e=true/\Q (.bl (PyData.eqv d e)) H
def ZJ:R2:=fun x y H Q=>∃ d e,DR H d x/\DR H e y/\shaped d=true/\shaped e=true/\Q (.bl (!PyData.eqv d e)) H
section
variable {X:Cx}
theorem Xa (hu:X.A.units+64 < cLine):OpR X (compareOp .Eq) ZG:=by
 intro pins s U H x y v u Q I rx ry h;obtain ⟨d,e,h1,h2,h3,h4,q⟩:=h;obtain ⟨as,r1⟩:=DR.reads I.hok d x v h1 rx;obtain ⟨bs,r2⟩:=DR.reads I.hok e y u h2 ry;exact eq_dataH r1 r2 h3 h4 hu ⟨.bl _,H,I,rfl,q⟩
theorem Xb (hu:X.A.units+64 < cLine):OpR X (compareOp .NotEq) ZJ:=by
 intro pins s U H x y v u Q I rx ry h;obtain ⟨d,e,h1,h2,h3,h4,q⟩:=h;obtain ⟨as,r1⟩:=DR.reads I.hok d x v h1 rx;obtain ⟨bs,r2⟩:=DR.reads I.hok e y u h2 ry;exact ne_dataH r1 r2 h3 h4 hu ⟨.bl _,H,I,rfl,q⟩
def Oo (K:W.Frag):R2:=fun x y H Q=>WP K x y H Q\/ZG x y H Q
def R1 (K:W.Frag):R2:=fun x y H Q=>ZF K x y H Q\/ZJ x y H Q
theorem Xc {K:W.Frag} (hK:X.K=K) (hu:X.A.units+64 < cLine):OpR X (compareOp .Eq) (Oo K):=(WT hK (Nat.lt_of_le_of_lt (Ach _ _) hu)).or (Xa hu)
theorem qL {K:W.Frag} (hK:X.K=K) (hu:X.A.units+64 < cLine):OpR X (compareOp .NotEq) (R1 K):=(W7 hK hu).or (Xb hu)
end
section
variable {H:Hp} {Q:VK} {K:W.Frag} {U:St}
theorem cj {i j:Int} (h:Q (.bl (decide (V.int i=V.int j))) H):Oo K (.int i) (.int j) H Q:=.inl (.inl ⟨rfl,h⟩)
theorem cu {i j:Str} (h:Q (.bl (decide (V.str i=V.str j))) H):Oo K (.str i) (.str j) H Q:=.inl (.inl ⟨rfl,h⟩)
theorem di {i j:Int} (h:Q (.bl (!decide (V.int i=V.int j))) H):R1 K (.int i) (.int j) H Q:=.inl (.inl ⟨rfl,h⟩)
theorem dj {i j:Str} (h:Q (.bl (!decide (V.str i=V.str j))) H):R1 K (.str i) (.str j) H Q:=.inl (.inl ⟨rfl,h⟩)
theorem yH {x y:V} {d:PyData} (h1:DR H d x) (h2:DR H d y) (hs:shaped d=true) (h:Q (.bl true) H):Oo K x y H Q:=
 .inr ⟨d,d,h1,h2,hs,hs,by rw [PySem.SeqAt.eqv_refl d (canLay_of_shaped hs)];exact h⟩
theorem Oq {x y:V} {d:PyData} (h1:DR H d x) (h2:DR H d y) (hs:shaped d=true) (h:Q (.bl false) H):R1 K x y H Q:=
 .inr ⟨d,d,h1,h2,hs,hs,by rw [PySem.SeqAt.eqv_refl d (canLay_of_shaped hs)];exact h⟩
theorem bD {a:TA} {R:It->Hp->Prop} (h:a U H fun vs H1=>(∃ x:Str,vs=[.str x]/\R (W5 (qu x) x.cps.size) H1)\/∃ a xs,vs=[.ref a]/\SqL K H1 a xs/\R (Yy K a) H1):Va K a U H R:=h
theorem Av {a:Addr} {xs:List V} {g:TG} {tb:TS} {D:Ends} (Pv:Nat->St->Hp->Prop) (h0:Pv 0 U H) (hq:∀ i U H,i<=xs.length->Pv i U H->SqL K H a xs)
  (hs:∀ i U H T x,xs[i]?=some x->Pv i U H->H T=none->g (.ref T) U (upd H T (.tup [.int i,x])) fun σ2 H2=>tb {D with nx:=Pv (i+1),ct:=Pv (i+1),bk:=D.nx} σ2 H2) (hd:∀ U H,Pv xs.length U H->D.nx U H):
  ∃ W:Nat->Nat->St->Hp->Prop,(∃ m,W 0 m U H)/\∀ i m U H,W i m U H->
   ((Yy K a).stop i H/\D.nx U H)\/((Yy K a).go i H/\∃ N:St->Hp->Prop,(∀ U' H',N U' H'->∃ m',m' < m/\W (i+1) m' U' H')/\∀ x H',(Yy K a).yld i H x H'->g x U H' fun σ2 H2=>tb {D with nx:=N,ct:=N,bk:=D.nx} σ2 H2):=by
 refine ⟨fun i m U H=>m=xs.length - i/\i<=xs.length/\Pv i U H,⟨xs.length,by simp,Abb _,h0⟩,?_⟩;rintro i m U H ⟨rfl,hi,p⟩;have q1:=hq i U H hi p;by_cases hlt:i < xs.length
 ·refine .inr ⟨⟨xs,xs[i],q1,Aaa hlt⟩,Pv (i+1),fun U' H' p'=>⟨xs.length - (i+1),by omega,rfl,hlt,p'⟩,fun x H' y=>?_⟩
  obtain ⟨T,u,hT,e1,e2,e4⟩:=y;subst e1 e4;exact hs i U H T u (e2 xs q1) p hT
 ·have e:i=xs.length:=by omega
  subst e;exact .inl ⟨⟨xs,q1,Aad _⟩,hd U H p⟩
end
end L2
namespace L2
open PySem PySem.Spec PyProof.Rows
theorem Ot:typeLookup (.type "list_reverseiterator") "__len__"=pure none:=by rw [Ab2,Abq];kernel_rfl
theorem K5:typeLookup (.type "list_reverseiterator") "__length_hint__"=pure (some (.builtin "list_reverseiterator.__length_hint__")):=by rw [Ab2,Abq];kernel_rfl
section
variable {prog:Program} {w:World} {A:Around} {E:Value->Shared->Prop} {s:Shared}
theorem Ou {it l:Addr} {i:Int} {Q:Bool->Shared->Prop} (hit:s.heap.IsRevIter it l i) (h:Q false s):wpAny (model prog w) A (Builtin.List.listLengthHint (.ref it)) Q E s:=by
 unfold Builtin.List.listLengthHint;refine gV (Ab1 hit.typeIs Ot ?_);show wpAny _ _ (specialOf (Value.ref it) (Str.ofString "__length_hint__") >>=_) _ _ _;refine gV (Ab1 hit.typeIs K5 ?_);generalize hid:("list_reverseiterator.__length_hint__":String)=id0
 wp_delta
 rw [show splitId id0=some ("list_reverseiterator","__length_hint__") from by subst hid;trivial];subst hid;refine gV (wpAny_isInstance (T:="list_reverseiterator") (b:=true) hit.typeIs (by rw [Acb];kernel_rfl) ?_);refine wpAny_ite_split (fun hab=>absurd hab (by decide)) (fun _=>?_);refine wpAny_ite_split (fun _=>?_) (fun hab=>absurd (by trivial) hab);refine wpAny_ite_split (fun hab=>absurd hab (by trivial)) (fun _=>?_);exact Aag h
theorem Ov {it l:Addr} {items:Array Value} {Q:Value->Shared->Prop} (hh:A.handled=none) (hit:s.heap.IsRevIter it l ((items.size:Int) - 1)) (hl:s.heap.IsList l items) (hne:l≠it) (hn:items.size<=sizeLine)
  (hQ:∀ h' tk acc' c',(∀ b o,b≠it->s.heap.get? b=some o->h'.get? b=some o)->h'.get? s.heap.objs.size=some {cls:=.type "list",dict:=none,data:=.seq acc' c',slots:=#[]}->
   ItemsOf (fun i v=>items[items.size - 1 - i]?=some v) acc' items.size->Q (.ref s.heap.objs.size) {s with heap:=h',toks:=tk}):
  wpAny (model prog w) A (call (.type "list") [.ref it]) Q E s:=by
 refine callType_codes (Q₁:=fun obj s₁=>obj= .ref s.heap.objs.size/\s₁={s with heap:=s.heap.push {cls:=.type "list",data:=.seq #[]}}) F.called_list (F.typeCall_list_1 _) F.entry_list_init
  (code_list_new _ ⟨rfl,rfl⟩) fun obj s₁ h₁=>?_
 obtain ⟨rfl,rfl⟩:=h₁;have iti:it < s.heap.objs.size:=by obtain ⟨o,e,_⟩:=hit;exact Aal e
 have itl:l < s.heap.objs.size:=by obtain ⟨o,e,_⟩:=hl;exact Aal e
 generalize hS0:s.heap.objs.size=S at iti itl hQ;have hS:(s.heap.push {cls:=.type "list",data:=.seq #[]}).get? S=some {cls:=.type "list",data:=.seq #[]}:=by rw [← hS0];exact Aaq _ rfl
 have kp:∀ b o,s.heap.get? b=some o->(s.heap.push {cls:=.type "list",data:=.seq #[]}).get? b=some o:=fun b o e=>Aae _ e
 generalize s.heap.push {cls:=.type "list",data:=.seq #[]}=h1 at hS kp;have hit1:h1.IsRevIter it l ((items.size:Int) - 1):=hit.at fun o e=>kp it o e
 have hl1:h1.IsList l items:=hl.at fun o e=>kp l o e
 refine ⟨⟨_,hS,rfl⟩,F.args_list_init_2 _ _,?_⟩;have nSi:S≠it:=AbV iti;have nSl:S≠l:=AbV itl;have hSf:S ∉ [it,l]:=by simp [nSi,nSl]
 have W:=(Walks.listRev (prog:=prog) (w:=w) (A:=A.in1.in1) hh it l hne items).toS;show wpAny _ A.in1.in1 (do let old ← Builtin.List.listItems (.ref S);Builtin.List.listUpdate (.ref S) (fun _=>#[]);letGo old.toList.reverse;Builtin.List.listExtendWith (.ref S) (.ref it) .none) _ _ _;unfold Builtin.List.listItems;refine gV (gV (wpAny_seqItems hS rfl (Aag ?_)));show wpAny _ A.in1.in1 (updateSeq S (fun _=>#[]) >>=fun _=>letGo (#[]:Array Value).toList.reverse >>=fun _=>Builtin.List.listExtendWith (.ref S) (.ref it) .none) _ _ _;refine gV (wpAny_updateSeq hS rfl ?_);have hS2:=Aa3 (Obj.mapSeq (fun _=>(#[]:Array Value))) hS rfl;have k2:∀ b o,b≠S->h1.get? b=some o->(h1.update S (Obj.mapSeq (fun _=>(#[]:Array Value)))).get? b=some o:=fun b o hb e=>(AaQ _ _ (Ne.symm hb)).trans e
 generalize h1.update S (Obj.mapSeq (fun _=>(#[]:Array Value)))=h2 at hS2 k2;have hit2:=hit1.at (h':=h2) fun o e=>k2 it o (Ne.symm nSi) e
 have hl2:=hl1.at (h':=h2) fun o e=>k2 l o (Ne.symm nSl) e
 refine gV (wpAny_letGo ?_);unfold Builtin.List.listExtendWith;refine gV (wpAny_typeOf (T:="list_reverseiterator") (Heap.IsRevIter.typeIs (s:={s with heap:=h2}) hit2) ?_);have e1:Builtin.List.listSameRef (.ref S) (.ref it)=false:=by simp [Builtin.List.listSameRef,nSi]
 have e2:(Value.type "list_reverseiterator" == Value.type "list")=false:=by decide
 have e3:(Value.type "list_reverseiterator" == Value.type "tuple")=false:=by decide
 simp only [e1,e2,e3,Bool.or_false,Bool.false_eq_true,if_false];refine gV (wpAny_pyIter_revIter (s:={s with heap:=h2}) hit2 ?_);refine gV (Aa5 (Ou (s:={s with heap:=h2}) hit2 ?_));refine wpAny_ite_split (fun hab=>absurd hab (by trivial)) (fun _=>?_);refine Aag ⟨Acm F.plain_extend_loop _,?_⟩;refine codeAny_extend_loopS W hn S hSf .none items.size 0 _ #[] _ rfl (Abb _) ⟨Abb _,by simpa using hit2,hl2⟩ hS2 (ItemsOf.nil _) fun s' acc' c' hm hS' hacc=>?_
 rw [Moved.eq_with hm];refine ⟨rfl,hQ s'.heap s'.toks acc' c' (fun b o hb e=>hm.heap b o (fun hmem=>?_) (k2 b o (fun z=>?_) (kp b o e))) hS' hacc⟩
 ·rcases Aaj.mp hmem with e' | hmem
  ·exact absurd (Aal e) (by rw [e',hS0];exact Aa7 _)
  ·exact hb (Aam.mp hmem)
 ·exact absurd (Aal e) (by rw [z,hS0];exact Aa7 _)
end
section
variable {X:Cx} {K:W.Frag} {a b c e:Expr} {ta tb tc te:TE} {pos p p2 p3:Pos}
theorem R3 {op op':CmpOp} {r r':R2} (ho:OpR X (compareOp op) r) (ho':OpR X (compareOp op') r') (ha:JE X a ta) (hb:JE X b tb) (hc:JE X c tc) (hm:autoParam (lastMarks [op,op'] [b,c]=false) L2.auto5._auto_1):
  JE X (.Compare a [op,op'] [b,c] pos) (yj r r' ta tb tc):=⟨Ni ho ho' ha.run hb.run hc.run hm⟩
theorem Ey {op op':CmpOp} {r r':R2} (ho:OpR X (compareOp op) r) (ho':OpR X (compareOp op') r') (ha:JE X a ta) (hb:JE X b tb) (hc:JE X c tc) (hm:autoParam (lastMarks [op,op'] [b,c]=false) L2.auto5._auto_1):
  JT X (.Compare a [op,op'] [b,c] pos) (Ae (yj r r' ta tb tc)):=⟨Nj ho ho' ha.run hb.run hc.run hm⟩
theorem arg1 {Q:List Value->Shared->Prop} {E:Value->Shared->Prop} {s:Shared} (hs:notStar e=true) (h:wpAny (model X.prog X.w) X.A (eval e X.env) (fun u s1=>Q [u] s1) E s):wpAny (model X.prog X.w) X.A (spliced (backTo pos (starEach [e] X.env))) Q E s:=by
 rw [bW hs];show wpAny _ _ (spliced ((false,eval e X.env) :: backTo pos (starEach [] X.env))) _ _ s;exact Calls.spliced_cons (AaP h (fun u s1 q=>Calls.spliced_nil q) fun _ _ z=>z)
def Ow (K:W.Frag) (ta:TE):TE:=fun U H Q=>ta U H fun x H1=>∃ l xs,x= .ref l/\SqL K H1 l xs/\∀ q,H1 q=none->Q (.ref q) (upd H1 q (.lst xs.reverse))
theorem v4 (hK:X.K=K) (hc:X.calm=true) (hg:Gl X "list") (hm:X.mg "list"=none) (hg2:Gl X "reversed") (hm2:X.mg "reversed"=none) (ha:JE X a ta) (h:autoParam (notStar a=true) L2.auto4._auto_1):
  JE X (.Call (.Name "list" p) [.Call (.Name "reversed" p2) [a] [] p3] [] pos) (Ow K ta):=⟨by
 subst hK;intro pins s U H Q I hq;refine AaZ (jF I hg hm jH (AaI (arg1 rfl (AaZ (jF I hg2 hm2 wO (AaI (arg1 h (d7 (ha.run pins s U H _ I hq) fun u s1 qq0=>?_)) (bW h) rfl)))) rfl rfl));obtain ⟨x,H1,I1,rx,l,xs,ex,hx,q⟩:=qq0;subst ex;cases rx;obtain ⟨its,r,ht,hz⟩:=I1.list hx;have hlen:=r.length;refine call_reversed_list ht.isList ?_;have lt:l < s1.heap.objs.size:=by obtain ⟨o,ho,_⟩:=ht.isList;exact Aal ho
 have e0:(s1.heap.push (PySem.revObj l ((its.toArray.size:Int) - 1))).get? s1.heap.objs.size=some (PySem.revObj l ((its.toArray.size:Int) - 1)):=Aaq _ rfl;have k0:∀ b o,s1.heap.get? b=some o->(s1.heap.push (PySem.revObj l ((its.toArray.size:Int) - 1))).get? b=some o:=fun b o q=>Aae _ q
 have s0:(s1.heap.push (PySem.revObj l ((its.toArray.size:Int) - 1))).objs.size=s1.heap.objs.size+1:=Abk ..;refine Ov (it:=s1.heap.objs.size) (l:=l) (I1.ok.hd hc) ⟨_,e0,rfl,rfl⟩ (ht.isList.at fun o q=>k0 l o q) (AaJ lt) (by simp;omega) fun h' tk acc' c' hk hS hacc=>?_
 have eacc:acc'.toList=its.reverse:=by
  apply AbJ;intro i;have a1:acc'.size=its.length:=by have:=hacc.1;simpa using this
  by_cases hi:i < its.length
  ·have hi':i < acc'.size:=by omega
   have a2:=hacc.2 i acc'[i] (Abp hi');rw [List.getElem?_reverse hi];simp at a2;rw [a2];simp [hi']
  ·rw [AaY (by simp;omega),AaY (by simp;omega)]
 have rr:Vals xs.reverse acc'.toList:=by rw [eacc];exact r.reverse
 have k1:∀ b o,s1.heap.get? b=some o->h'.get? b=some o:=fun b o z=>hk b o (AaJ (Aal z)) (k0 b o z)
 have hle:s1.heap.objs.size<=(s1.heap.push (PySem.revObj l ((its.toArray.size:Int) - 1))).objs.size:=by rw [s0];exact Nat.le_succ _
 refine ⟨.ref _,_,I1.laid (t':=tk) (o:=.lst xs.reverse) k1 hle ⟨by simp;omega,acc'.toList,c',rr,by simpa using hS⟩,rfl,q _ (I1.hok.fresh hle)⟩⟩
end
def K6 (h:Heap) (T:Addr):Prop:=∃ oT ts,h.get? T=some oT/\oT.data= .fields ts/\3 < ts.size
def iH (C:Addr) (dd:Option Addr) (vs:Array Value):Obj:={cls:=.ref C,dict:=dd,data:=.fields vs}
def R4 (l:List Env):List Addr:=l.filterMap (·.frame)
section
variable {M:Model} {A:Around} {E:Value->Shared->Prop}
theorem Aw {base:Heap} {env:Env} {outer:List Env} {L x C:Addr} {dd:Option Addr} {vs:Array Value} {hd:Value} {had:Bool} {Q:Unit->Shared->Prop} {s:Shared}
  (fr:A.frames=some (env :: outer)) (ff:s.heap.FunFrames base (env :: outer)) (fL:env.frame=some L) (ex:s.heap.get? x=some (iH C dd vs)) (sz:1 < vs.size) (nx:x ∉ R4 (env :: outer))
  (k:∀ h' T,h'.get? x=some (iH C dd (vs.setIfInBounds 1 (.ref T)))->s.heap.objs.size<=T->K6 h' T->(∀ b o,b≠x->b ∉ R4 (env :: outer)->s.heap.get? b=some o->h'.get? b=some o)->
   (∀ b o,b≠x->s.heap.get? b=some o->∃ sl,h'.get? b=some {o with slots:=sl})->Q () {s with heap:=h'}):
  wpAny M A (do let c ← frameOf env;let pl ← entryPlaceOf L had;let t ← EntryCells.newEntry hd c .none (rawInt L) .none pl;setField (.ref x) 1 t) Q E s:=by
 refine gV (wpAny_frameOf_fun fr ff fL fun g1 so=>?_);refine gV (wpAny_entryPlaceOf fun pl isp=>?_);unfold EntryCells.newEntry newFields;refine gV (Aa8 ?_ (isp.sizeOk5 _ _ _ _ _));have x1:g1.get? x=some (iH C dd vs):=(so.2.1 x nx).trans ex
 have lts:([hd,Value.ref L,.none,rawInt L,.none] ++ (if pl.isEmpty then List.replicate 6 Value.none else pl)).toArray.size > 3:=by
  simp only [Aax,AaR,Aba,List.length_nil];omega
 generalize ([hd,Value.ref L,.none,rawInt L,.none] ++ (if pl.isEmpty then List.replicate 6 Value.none else pl)).toArray=tv at lts;have x2:(g1.push {cls:=.type "traceback",dict:=none,data:=.fields tv}).get? x=some (iH C dd vs):=Aae _ x1;have nTx:g1.objs.size≠x:=AbV (Aal x1);have t2:(g1.push {cls:=.type "traceback",dict:=none,data:=.fields tv}).get? g1.objs.size=some {cls:=.type "traceback",dict:=none,data:=.fields tv}:=Aaq _ rfl;have o2:∀ b o,g1.get? b=some o->(g1.push {cls:=.type "traceback",dict:=none,data:=.fields tv}).get? b=some o:=fun b o e=>Aae _ e
 refine Acd (vs:=vs) x2 rfl sz ?_;have e3:=Aa3 (Obj.mapFields (·.setIfInBounds 1 (Value.ref g1.objs.size))) x2 rfl;have ot:∀ b,b≠x->((g1.push {cls:=.type "traceback",dict:=none,data:=.fields tv}).update x (Obj.mapFields (·.setIfInBounds 1 (Value.ref g1.objs.size)))).get? b=(g1.push {cls:=.type "traceback",dict:=none,data:=.fields tv}).get? b:=fun b hb=>AaQ _ _ (Ne.symm hb)
 refine k _ g1.objs.size e3 (by rw [so.1];exact Aad _) ⟨_,tv,(ot _ nTx).trans t2,rfl,lts⟩ (fun b o hb hf e=>?_) (fun b o hb e=>?_)
 ·rw [ot b hb];exact o2 b o ((so.2.1 b hf).trans e)
 ·obtain ⟨sl,q⟩:=so.2.2 b o e
  exact ⟨sl,by rw [ot b hb];exact o2 b _ q⟩
structure IW (fs:List Addr) (x C:Addr) (dd:Option Addr) (hd:Option Addr) (h h':Heap) (T:Addr):Prop where
 obj:∃ vs,h'.get? x=some (iH C dd vs)/\vs[1]?=some (.ref T)/\vs[2]?=some .none
 tb:K6 h' T
 ne:T≠x
 new:h.objs.size<=T\/hd=some T
 keep:∀ b o,b≠x->some b≠hd->b ∉ fs->h.get? b=some o->h'.get? b=some o
 slot:∀ b o,b≠x->some b≠hd->h.get? b=some o->∃ sl,h'.get? b=some {o with slots:=sl}
 tail:∀ b o,hd=some b->h.get? b=some o->∃ o',h'.get? b=some o'
theorem ZK {base:Heap} {env:Env} {outer:List Env} {L x C:Addr} {dd:Option Addr} {vs:Array Value} {Q:Unit->Shared->Prop} {s:Shared}
  (fr:A.frames=some (env :: outer)) (ff:s.heap.FunFrames base (env :: outer)) (fL:env.frame=some L) (ex:s.heap.get? x=some (iH C dd vs)) (h1:vs[1]?=some .none/\vs[2]?=some .none) (nx:x ∉ R4 (env :: outer))
  (k:∀ h' T,IW (R4 (env :: outer)) x C dd none s.heap h' T->Q () {s with heap:=h'}):wpAny M A (noteFrame (.ref x) env) Q E s:=by
 unfold noteFrame;simp only [fL];refine gV (Abu ex rfl h1.1 ?_);rw [if_neg (by decide)];have sz:1 < vs.size:=(Array.getElem?_eq_some_iff.mp h1.1).1;refine Aw fr ff fL ex sz nx fun h' T a1 a2 a3 a4 a5=>k h' T ⟨⟨_,a1,by simp [sz],by rw [Array.getElem?_setIfInBounds_ne (by decide)];exact h1.2⟩,a3,?_,.inl a2,fun b o hb _ hf e=>a4 b o hb hf e,fun b o hb _ e=>a5 b o hb e,fun b o z=>by cases z⟩
 exact AbV (Aan (Aal ex) a2)
theorem ZL {base:Heap} {env:Env} {outer:List Env} {L x C T0:Addr} {dd:Option Addr} {vs:Array Value} {Q:Unit->Shared->Prop} {s:Shared}
  (fr:A.frames=some (env :: outer)) (ff:s.heap.FunFrames base (env :: outer)) (fL:env.frame=some L) (ex:s.heap.get? x=some (iH C dd vs)) (h1:vs[1]?=some (.ref T0)/\vs[2]?=some .none) (t0:K6 s.heap T0) (ne:T0≠x) (nx:x ∉ R4 (env :: outer)) (nT:T0 ∉ R4 (env :: outer))
  (k:∀ h' T,IW (R4 (env :: outer)) x C dd (some T0) s.heap h' T->Q () {s with heap:=h'}):wpAny M A (noteFrame (.ref x) env) Q E s:=by
 obtain ⟨oT,ts,g,d,l3⟩:=id t0;unfold noteFrame;simp only [fL];refine gV (Abu ex rfl h1.1 ?_);rw [if_pos (show (Value.ref T0 != Value.none)=true from by simp)];refine gV (Abu g d (Abp l3) ?_);by_cases q:(ts[3] == rawInt L)=true
 ·rw [if_pos q]
  exact Aag (k _ T0 ⟨⟨vs,ex,h1⟩,t0,ne,.inr rfl,fun b o _ _ _ e=>e,fun b o _ _ e=>⟨o.slots,e⟩,fun b o _ e=>⟨o,e⟩⟩)
 ·rw [if_neg q]
  refine gV (Acd g d l3 ?_);have tT:=Aa3 (Obj.mapFields (·.setIfInBounds 3 Value.none)) g (Ab3 (AbD d _));have ot:∀ b,b≠T0->(s.heap.update T0 (Obj.mapFields (·.setIfInBounds 3 Value.none))).get? b=s.heap.get? b:=fun b hb=>AaQ _ _ (Ne.symm hb)
  have sz:1 < vs.size:=(Array.getElem?_eq_some_iff.mp h1.1).1
  have ff2:(s.heap.update T0 (Obj.mapFields (·.setIfInBounds 3 Value.none))).FunFrames base (env :: outer):=ff.of_keeps fun b o hb hn=>by
   refine ⟨o,(ot b (fun z=>?_)).trans hb,rfl⟩;rw [z,g] at hb;cases hb;exact hn _ d
  refine Aw (s:={s with heap:=s.heap.update T0 (Obj.mapFields (·.setIfInBounds 3 Value.none))}) fr ff2 fL ((ot x (Ne.symm ne)).trans ex) sz nx fun h' T a1 a2 a3 a4 a5=>k h' T ⟨⟨_,a1,by simp [sz],by rw [Array.getElem?_setIfInBounds_ne (by decide)];exact h1.2⟩,a3,?_,.inl (by rw [Heap.size_update] at a2;exact a2),fun b o hb h0 hf e=>a4 b o hb hf ((ot b (fun z=>h0 (by rw [z]))).trans e),fun b o hb h0 e=>a5 b o hb ((ot b (fun z=>h0 (by rw [z]))).trans e),fun b o hb e=>?_⟩
  ·exact AbV (Aan (Aal ex) (by rw [Heap.size_update] at a2;exact a2))
  ·cases hb
   obtain ⟨sl,z⟩:=a5 T0 _ ne tT;exact ⟨_,z⟩
theorem ZM {x C T0:Addr} {dd:Option Addr} {vs:Array Value} {Q:Unit->Shared->Prop} {s:Shared} (ex:s.heap.get? x=some (iH C dd vs)) (h1:vs[1]?=some (.ref T0)/\vs[2]?=some .none) (t0:K6 s.heap T0) (ne:T0≠x)
  (k:∀ h',IW [] x C dd (some T0) s.heap h' T0->Q () {s with heap:=h'}):wpAny M A (setFlight (.ref x) none) Q E s:=by
 obtain ⟨oT,ts,g,d,l3⟩:=id t0;unfold setFlight;refine gV (Abu ex rfl h1.1 ?_);rw [if_pos (show (Value.ref T0 != Value.none)=true from by simp)];refine Acd g d l3 (k _ ?_);have d2:=AbD d (·.setIfInBounds 3 ((none:Option Addr).elim Value.none fun f=>rawInt f));have tT:=Aa3 (Obj.mapFields (·.setIfInBounds 3 ((none:Option Addr).elim Value.none fun f=>rawInt f))) g (Ab3 d2);have ot:∀ b,b≠T0->(s.heap.update T0 (Obj.mapFields (·.setIfInBounds 3 ((none:Option Addr).elim Value.none fun f=>rawInt f)))).get? b=s.heap.get? b:=fun b hb=>AaQ _ _ (Ne.symm hb)
 exact ⟨⟨vs,(ot x (Ne.symm ne)).trans ex,h1⟩,⟨_,_,tT,d2,by simpa using l3⟩,ne,.inr rfl,fun b o _ h0 _ e=>(ot b (fun z=>h0 (by rw [z]))).trans e,fun b o _ h0 e=>⟨o.slots,(ot b (fun z=>h0 (by rw [z]))).trans e⟩,fun b o hb e=>by cases hb;exact ⟨_,tT⟩⟩
end
def ZP:List Value:=[.type "ValueError",.type "Exception",.type "BaseException",.type "object"]
def Yz (K:W.Frag) (D:Addr):Bool:=match K.lookup D with
 | some ⟨.type "type",_,.cls cd,sl⟩=>(match cd.mro,sl.toList with
  | .ref E :: bm,[_,_,_,_,some (.builtin n),_]=>E == D && n == "ValueError.__new__" && cd.hasDel == false && cd.hasDict && PySem.W.tailIn K ZP bm
  | _,_=>false)
 | _=>false
theorem yI {K:W.Frag} {D:Addr} (q:Yz K D=true):∃ nm qn N bs bm sn sub ab col dd k0 k1 k2 k3 k5,K.lookup D=some (excClassObj nm qn D N bs bm true sn sub ab col dd k0 k1 k2 k3 k5 "ValueError.__new__")/\∀ h,K.In h->OwnTail h ZP bm:=by
 unfold Yz at q
 split at q
 ·rename_i dd cd sl ho
  split at q
  ·rename_i D' bm k0 k1 k2 k3 n k5 hm hs
   simp only [Aav,Abr] at q;obtain ⟨⟨⟨⟨e1,e2⟩,e3⟩,e4⟩,e5⟩:=q;subst e1 e2;obtain ⟨nm,bs,mro,ns,qn,hd,sn,sub,ab,col,del⟩:=cd;dsimp only at hm e3 e4;subst hm e3 e4
   have hsl:sl= #[k0,k1,k2,k3,some (.builtin "ValueError.__new__"),k5]:=by
    obtain ⟨l⟩:=sl;dsimp only at hs;rw [hs]
   subst hsl;exact ⟨nm,qn,ns,bs,bm,sn,sub,ab,col,dd,k0,k1,k2,k3,k5,ho,fun h X=>PySem.W.tail_of_in X e5⟩
  ·cases q
 ·cases q
section
variable {prog:Program} {w:World} {A:Around} {K:W.Frag} {D f:Addr} {E:Value->Shared->Prop}
theorem Ez {h:Heap} {g:Array GenState} {d:Drawn} {t:Nat} {os:OsState} {us:List Value} {Q:Fin->Shared->Prop} (X:K.In h) (hx:Yz K D=true)
  (hi:PySem.W.findIn K (.ref D) "__init__"=some (some (.ref f))) (hf:PySem.W.typeIn K (.ref f)=some (.type "function")) (hl:us.length<=sizeLine)
  (k:wpAny (model prog w) A (call (.ref f) (.ref (h.objs.size+1) :: us)) (fun r s'=>r= .none/\Q (.done (.ret (.ref (h.objs.size+1)))) s') E
   ⟨(h.push {cls:=.type "tuple",data:=.seq us.toArray}).push (iH D none #[.ref h.objs.size,.none,.none,.none,.bool false,.none]),g,d,t,os⟩):
  wpAny (model prog w) A (Builtin.«type.__call__» ⟨.ref D :: us,[]⟩) Q E ⟨h,g,d,t,os⟩:=by
 obtain ⟨nm,qn,N,bs,bm,sn,sub,ab,col,dd,k0,k1,k2,k3,k5,lk0,tl⟩:=yI hx;have T:=tl h X;have hD:=X _ _ lk0;have L3:=Abh (M:=model prog w) X hi;have L4:=PySem.W.bind_fn (M:=model prog w) X (.ref (h.objs.size+1)) hf;repeat (first | with_reducible refine Abf hD ?_ | with_reducible refine wpAny_madeBy_exc hD ?_ | wp_step)
 refine codeAny_call_builtin_code (Code.quiet_builtin _ F.excBase_ValueError.quiet) (wpAny_check_new_subT F.excBase_ValueError T hD (codeAny_exc_new_subT F.excBase_ValueError T hD ?_ hl));show wpAny _ _ _ _ _ _;have keep:∀ b o,h.get? b=some o->((h.push {cls:=.type "tuple",data:=.seq us.toArray}).push (iH D none #[.ref h.objs.size,.none,.none,.none,.bool false,.none])).get? b=some o:=fun b o q=>Aae _ (Aae _ q)
 have gx:((h.push {cls:=.type "tuple",data:=.seq us.toArray}).push (iH D none #[.ref h.objs.size,.none,.none,.none,.bool false,.none])).get? (h.objs.size+1)=some (iH D none #[.ref h.objs.size,.none,.none,.none,.bool false,.none]):=by
  have:=Aaq (h.push {cls:=.type "tuple",data:=.seq us.toArray}) (o:=iH D none #[.ref h.objs.size,.none,.none,.none,.bool false,.none]) rfl;rwa [Abk] at this
 have hD1:=keep _ _ hD;have M3:=L3.keeps keep;have M4:=L4.keeps keep;have cD:(Value.ref D :: bm).contains (.ref D)=true:=by simp
 unfold iH at gx M3 M4 hD1 k;unfold isInstance;repeat (first | with_reducible refine Abf gx ?_ | (with_reducible refine AbN hD1 ?_;rw [cD]) | wp_step)
 show wpAny _ _ (typeLookup (.ref D) _) _ _ _;refine M3.at ?_;refine Aa5 (gV (M4.at ?_));dsimp only;refine gV (AaP k (fun r s' hr=>?_) fun _ _ z=>z);obtain ⟨rfl,z⟩:=hr
 wp_walk
 exact z
theorem Xd {s:Shared} {us:List Value} {Q:Value->Shared->Prop} (X:K.In s.heap) (hx:Yz K D=true)
  (hi:PySem.W.findIn K (.ref D) "__init__"=some (some (.ref f))) (hf:PySem.W.typeIn K (.ref f)=some (.type "function")) (hl:us.length<=sizeLine)
  (k:wpAny (model prog w) (A.under (.builtin "type.__call__" ⟨.ref D :: us,[]⟩)) (call (.ref f) (.ref (s.heap.objs.size+1) :: us)) (fun r s'=>r= .none/\Q (.ref (s.heap.objs.size+1)) s') E
   {s with heap:=(s.heap.push {cls:=.type "tuple",data:=.seq us.toArray}).push (iH D none #[.ref s.heap.objs.size,.none,.none,.none,.bool false,.none])}):
  wpAny (model prog w) A (call (.ref D) us) Q E s:=by
 obtain ⟨h,g,d,t,os⟩:=s;obtain ⟨nm,qn,N,bs,bm,sn,sub,ab,col,dd,k0,k1,k2,k3,k5,lk0,tl⟩:=yI hx;have hD:=X _ _ lk0;have f1:=tc_lookup;have f2:=tc_bind (.ref D);have hT:(⟨h,g,d,t,os⟩:Shared).TypeIs (.ref D) "type":=⟨_,hD,rfl⟩;refine Aca (codeAny_of_tree ?_);show wpAny _ _ (callAny (.ref D) _) _ _ _;repeat (any_goals (first | assumption | with_reducible refine Abf hD ?_ | wp_step))
 refine ⟨rfl,codeAny_call_builtin_at (Code.quiet_builtin _ (by trivial)) entry_typeCall (wpAny_check_type_call_sub hD (Ez X hx hi hf hl ?_))⟩;exact k
end
def v5 (x C dx:Addr):HO:=.ext fun h=>∃ vs,h.get? x=some (iH C (some dx) vs)/\vs[2]?=some .none
def mV (x C:Addr):HO:=.ext fun h=>∃ t,h.get? x=some (iH C none #[.ref t,.none,.none,.none,.bool false,.none])
theorem Ja {P:Program} {w:World} {H:Hp} {h:Heap} {x C dx:Addr} {vs:Array Value} (e:h.get? x=some (iH C (some dx) vs)) (h2:vs[2]?=some .none):ObjOk P w H h x (v5 x C dx):=
 ⟨⟨vs,e,h2⟩,⟨_,e⟩,fun h1 h2 ⟨vs,e,z⟩ k=>⟨vs,k _ e,z⟩⟩
theorem Jb {P:Program} {w:World} {H:Hp} {h:Heap} {x C dx:Addr} (ok:HOk P w H h) (e:H x=some (v5 x C dx)):∃ vs,h.get? x=some (iH C (some dx) vs)/\vs[2]?=some .none:=(ok _ _ e).1
structure Head (X:Cx) (pins:List (Addr×Obj)) (H:Hp) (x C dx T:Addr) (h:Heap):Prop where
 obj:∃ vs,h.get? x=some (iH C (some dx) vs)/\vs[1]?=some (.ref T)/\vs[2]?=some .none
 tb:K6 h T
 fp:oV X pins H T
 tr:H x=some (v5 x C dx)
theorem Head.ne {X:Cx} {pins:List (Addr×Obj)} {H:Hp} {x C dx T:Addr} {h:Heap} (a:Head X pins H x C dx T h):T≠x:=fun z=>by
 have:=a.fp.1;rw [z,a.tr] at this;cases this
def Fly (X:Cx) (pins:List (Addr×Obj)) (H:Hp) (x C dx:Addr) (h:Heap):Prop:=
 H x=some (v5 x C dx)/\((∃ vs,h.get? x=some (iH C (some dx) vs)/\vs[1]?=some .none/\vs[2]?=some .none)\/∃ T,Head X pins H x C dx T h)
section
variable {X:Cx} {pins:List (Addr×Obj)} {U:St} {H:Hp} {s:Shared} {x C dx:Addr} {h':Heap} {T:Addr} {hd:Option Addr}
theorem Inv.noted {fs:List Addr} (I:Inv X pins U H s) (hx:H x=some (v5 x C dx)) (hh:∀ b,hd=some b->oV X pins H b) (hf:∀ b∈fs,b∈X.env.locals :: X.fs) (N:IW fs x C (some dx) hd s.heap h' T):Inv X pins U H {s with heap:=h'}:=by
 obtain ⟨m,⟨oL,esL,epL,hoL,rL⟩,_⟩:=id I.loc
 have fsF:∀ b∈fs,H b=none:=fun b hb=>by
  rcases Aaj.mp (hf b hb) with e | hb
  ·rw [e];exact I.free
  ·obtain ⟨_,o,ho,_⟩:=I.ok.funs.mem hb
   exact I.base.free b o ho (I.ok.frf b hb) fun z=>I.ok.exfs b z hb
 have nx:∀ b,H b=none->b≠x:=fun b n z=>by rw [z,hx] at n;cases n
 have hdF:∀ b,hd=some b->H b=none:=fun b e=>(hh b e).1
 have mem:∀ b,b ∉ hd.toList->some b≠hd:=fun b nb z=>nb (by rw [← z];simp)
 refine I.step (g':=s.gens) (d':=s.drawn) (t':=s.toks) (ch:=hd.toList) (fun b hb=>?_) (fun b o hL hb hc e n=>?_) (fun b o hL hb hc e n=>?_) (fun _ _ _ _ n=>n) (fun b o hc e=>?_) (fun _ _ e=>e) (fun _ _ _ e=>e) (fun b ps e=>⟨#[],by rw [e];simp⟩) (fun m hm=>?_) (fun b u e=>?_) I.bare
 ·have e:hd=some b:=by cases hd <;> simp_all
  obtain ⟨_,a2,_,a4,a5,a6⟩:=hh b e;exact ⟨a4,a2,a5,a6⟩
 ·refine N.keep b o (nx b n) (mem b hc) (fun z=>?_) e
  rcases Aaj.mp (hf b z) with q | q
  ·exact hL q
  ·exact hb q
 ·exact N.slot b o (nx b n) (mem b hc) e
 ·by_cases q:b=x
  ·obtain ⟨vs,z,_⟩:=N.obj
   exact ⟨_,by rw [q];exact z⟩
  ·obtain ⟨sl,z⟩:=N.slot b o q (mem b hc) e
   exact ⟨_,z⟩
 ·obtain ⟨o,es,ep,ho,r⟩:=hm
  obtain ⟨sl,z⟩:=N.slot _ o (nx _ I.free) (fun q=>(hh _ q.symm).2.1 rfl) ho;exact ⟨_,es,ep,z,r⟩
 ·by_cases q:b=x
  ·subst q
   rw [hx] at e;cases e;obtain ⟨vs,z,_,z2⟩:=N.obj;exact Ja z z2
  ·refine (I.hok b u e).stay (fun c v hc z=>?_) (fun _ q=>q) fun _ _ q=>q
   have tc:∃ u,H c=some u:=by
    rcases hc with rfl | hc
    ·exact ⟨_,e⟩
    ·exact ⟨_,hc⟩
   obtain ⟨uc,tc⟩:=tc;refine N.keep c v (fun zz=>?_) (fun zz=>?_) (fun zz=>?_) z
   ·rcases hc with rfl | hc
    ·exact q zz
    ·rw [zz,hx] at hc;cases hc
   ·rw [hdF c zz.symm] at tc;cases tc
   ·rw [fsF c zz] at tc;cases tc
theorem EY {A:Around} {E:Value->Shared->Prop} {Q:Unit->Shared->Prop} (I:Inv X pins U H s) (hst:X.stack=X.env :: X.outer) (hfr:X.env.frame=some X.env.locals) (hA:A.frames=some X.stack) (F:Fly X pins H x C dx s.heap)
  (k:∀ h' T,Inv X pins U H {s with heap:=h'}->Head X pins H x C dx T h'->Q () {s with heap:=h'}):wpAny (model X.prog X.w) A (noteFrame (.ref x) X.env) Q E s:=by
 have ff:s.heap.FunFrames X.base (X.env :: X.outer):=hst ▸ I.stack;have sub:∀ b∈R4 (X.env :: X.outer),b∈X.env.locals :: X.fs:=fun b hb=>I.stkSub b (by rw [hst];exact hb)
 have nf:∀ b u,H b=some u->b ∉ R4 (X.env :: X.outer):=fun b u e z=>by
  rw [I.stkFree b (by rw [hst];exact z)] at e;cases e
 obtain ⟨hx,⟨vs,e,h1⟩ | ⟨T0,hT⟩⟩:=F
 ·refine ZK (hst ▸ hA) ff hfr e h1 (nf x _ hx) fun h' T N=>?_
  have J:=I.noted hx (fun b z=>by cases z) sub N;refine k h' T J ⟨N.obj,N.tb,?_,hx⟩;have zT:s.heap.objs.size<=T:=by rcases N.new with z | z;exact z;cases z
  exact I.fpOk zT (I.hok.fresh zT)
 ·obtain ⟨vs,e,h1⟩:=hT.obj
  refine ZL (hst ▸ hA) ff hfr e h1 hT.tb hT.ne (nf x _ hx) (fun z=>?_) fun h' T N=>?_
  ·rcases Aaj.mp (sub T0 z) with q | q
   ·exact hT.fp.2.1 q
   ·exact hT.fp.2.2.1 q
  ·have J:=I.noted hx (fun b z=>by cases z;exact hT.fp) sub N
   refine k h' T J ⟨N.obj,N.tb,?_,hx⟩;rcases N.new with z | z
   ·exact I.fpOk z (I.hok.fresh z)
   ·cases z;exact hT.fp
theorem u5 {A:Around} {E:Value->Shared->Prop} {Q:Unit->Shared->Prop} (I:Inv X pins U H s) (F:Head X pins H x C dx T s.heap)
  (k:∀ h',Inv X pins U H {s with heap:=h'}->Head X pins H x C dx T h'->Q () {s with heap:=h'}):wpAny (model X.prog X.w) A (setFlight (.ref x) none) Q E s:=by
 obtain ⟨vs,e,h1⟩:=F.obj;refine ZM e h1 F.tb F.ne fun h' N=>?_
 exact k h' (I.noted F.tr (fun b z=>by cases z;exact F.fp) (fun b z=>absurd z (by simp)) N) ⟨N.obj,N.tb,F.fp,F.tr⟩
def K7 (P:Program) (w:World):Kq:=fun outer H s E e s'=>∃ x C dx T H',e= .ref x/\s'.os=s.os/\AllBare s'.gens/\Un (frs outer) [] H H' s.heap s'.heap/\HOk P w H' s'.heap/\H' x=some (v5 x C dx)/\H' T=none/\s.heap.objs.size<=T/\
 (∃ vs,s'.heap.get? x=some (iH C (some dx) vs)/\vs[1]?=some (.ref T)/\vs[2]?=some .none)/\K6 s'.heap T/\E (.ref C) (some x) H'
def XE (X:Cx) (pins:List (Addr×Obj)) (R:St->XK) (e:Value) (s':Shared):Prop:=∃ x C dx U H',e= .ref x/\Inv X pins U H' s'/\Fly X pins H' x C dx s'.heap/\R U (.ref C) (some x) H'
theorem Jc {R:St->XK} {e:Value} {s':Shared} (I:Inv X pins U H s) (c:K7 X.prog X.w X.stack H s (R U) e s'):XE X pins R e s':=by
 obtain ⟨x,C,dx,T,H',rfl,os,bare,un,hok,tx,tT,zT,ob,tb,r⟩:=c;obtain ⟨hh,g,d,t,os'⟩:=s';obtain rfl:os'=s.os:=os;have J:=I.call (h':=hh) (g':=g) (d':=d) (t':=t) (ch:=[]) un hok bare (fun b z=>absurd z (by simp));exact ⟨x,C,dx,U,H',rfl,J,⟨tx,.inr ⟨T,ob,tb,I.fpOk zT tT,tx⟩⟩,r⟩
def lC (X:Cx) (R:St->XK):Prop:=∀ (pins:List (Addr×Obj)) (e:Value) (s':Shared),XE X pins R e s'->X.xe e s'
end
theorem aP {P:Program} {w:World} {K:W.Frag} {mg:Str->Option Value} {base:Heap} {N:List Str} {qual:Str} {scope:Scope} {f:Addr} {cd:Value} {A:Around} {outer:List Env} {s:Shared} {H:Hp} {E:XK}:
  lC (qz (K7 P w) P w K mg base N qual scope f cd A outer s H E) (fun _=>E):=by
 rintro pins e s' ⟨x,C,dx,U,H',he,I,F,r⟩;subst he;show wpAny _ _ (leaving _ _) _ _ _;unfold leaving;refine gV (EY (X:=qz (K7 P w) P w K mg base N qual scope f cd A outer s H E) I rfl rfl I.ok.frames F fun h1 T J1 F1=>?_);refine u5 (X:=qz (K7 P w) P w K mg base N qual scope f cd A outer s H E) J1 F1 fun h2 J2 F2=>?_
 refine ⟨x,C,dx,T,H',rfl,J2.os,J2.bare,J2.base,J2.hok,F2.tr,F2.fp.1,?_,F2.obj,F2.tb,r⟩;rcases F2.fp.2.2.2.1 with z | z
 ·exact absurd (show T∈([]:List Addr) from z) (by simp)
 ·exact z
def o4 (d:Addr) (fs:List (Str×V)):HO:=.ext fun h=>∃ mA,h.Ns1 d mA/\∀ f,RelO (fs.lookup f) (mA f)
theorem Cj {P:Program} {w:World} {H:Hp} {h:Heap} {d:Addr} {fs:List (Str×V)} {mA:Str->Option Value} (n:h.Ns1 d mA) (r:∀ f,RelO (fs.lookup f) (mA f)):ObjOk P w H h d (o4 d fs):=by
 refine ⟨⟨mA,n,r⟩,let ⟨o,_,_,e,_⟩:=n;⟨o,e⟩,fun h1 h2 ⟨m,n,r⟩ k=>⟨m,?_,r⟩⟩;obtain ⟨o,es,ep,e,q⟩:=n;exact ⟨o,es,ep,k _ e,q⟩
theorem xU {P:Program} {w:World} {H:Hp} {h:Heap} {d:Addr} {fs:List (Str×V)} (ok:HOk P w H h) (e:H d=some (o4 d fs)):∃ mA,h.Ns1 d mA/\∀ f,RelO (fs.lookup f) (mA f):=(ok _ _ e).1
def jo (x C d:Addr):HO:=.ext fun h=>∃ t,h.get? x=some (iH C (some d) #[.ref t,.none,.none,.none,.bool false,.none])
theorem K8 {P:Program} {w:World} {H:Hp} {h:Heap} {x C d t:Addr} (e:h.get? x=some (iH C (some d) #[.ref t,.none,.none,.none,.bool false,.none])):ObjOk P w H h x (jo x C d):=
 ⟨⟨t,e⟩,⟨_,e⟩,fun h1 h2 ⟨t,e⟩ k=>⟨t,k _ e⟩⟩
theorem v6 {P:Program} {w:World} {H:Hp} {h:Heap} {x C d:Addr} (ok:HOk P w H h) (e:H x=some (jo x C d)):∃ t,h.get? x=some (iH C (some d) #[.ref t,.none,.none,.none,.bool false,.none]):=(ok _ _ e).1
def jh:List Value->Bool
 | [.type a,.type b,.type c,.type d]=>a == "ValueError" && b == "Exception" && c == "BaseException" && d == "object"
 | .ref _ :: r=>jh r
 | _=>false
theorem wR {l:List Value} (e:jh l=true):(∃ a r,l= .ref a :: r/\jh r=true)\/l=ZP:=by
 unfold jh at e
 split at e
 ·simp only [Aav,Abr] at e
  obtain ⟨⟨⟨rfl,rfl⟩,rfl⟩,rfl⟩:=e;exact .inr rfl
 ·exact .inl ⟨_,_,rfl,e⟩
 ·cases e
theorem wU (self:Value):∀ (l:List Value),jh l=true->refuseLoop self "__setattr__" l=pure ()
 | [],e=>by cases e
 | v :: r,e=>by
  rcases wR e with ⟨a,r',q,e'⟩ | q
  ·cases q
   rw [refuseLoop_ref];exact wU self r e'
  ·rw [q]
   exact F.store_ValueError.passes self
theorem yJ:∀ (l:List Value),jh l=true->l.contains (.type "object")=true/\l.contains (.type "BaseException")=true
 | [],e=>by cases e
 | v :: r,e=>by
  rcases wR e with ⟨a,r',q,e'⟩ | q
  ·cases q
   obtain ⟨h1,h2⟩:=yJ r e';exact ⟨by rw [Abg,h1,Bool.or_true],by rw [Abg,h2,Bool.or_true]⟩
  ·rw [q]
   decide
def Xe (K:W.Frag) (C:Addr):Bool:=Yz K C && (PySem.W.clsIn K C).any (fun cd=>jh cd.mro && cd.hasDict) && PySem.W.findIn K (.ref C) "__setattr__" == some (some (.builtin "object.__setattr__")) &&
 PySem.W.findIn K (.ref C) "__getattribute__" == some (some (.builtin "BaseException.__getattribute__")) && PySem.W.findIn K (.ref C) "__getattr__" == some none
structure XCls (K:W.Frag) (C:Addr):Prop where
 xi:Yz K C=true
 ov:∃ cd,PySem.W.clsIn K C=some cd/\jh cd.mro=true/\cd.hasDict=true
 sa:PySem.W.findIn K (.ref C) "__setattr__"=some (some (.builtin "object.__setattr__"))
 ga:PySem.W.findIn K (.ref C) "__getattribute__"=some (some (.builtin "BaseException.__getattribute__"))
 gh:PySem.W.findIn K (.ref C) "__getattr__"=some none
theorem R5 {K:W.Frag} {C:Addr} (h:Xe K C=true):XCls K C:=by
 unfold Xe at h;simp only [Aav,Abr] at h;obtain ⟨⟨⟨⟨h1,h2⟩,h3⟩,h4⟩,h5⟩:=h;obtain ⟨cd,a,b⟩:=PySem.W.any_some h2;simp only [Aav] at b;exact ⟨h1,⟨cd,a,b.1,b.2⟩,h3,h4,h5⟩
theorem R6 {l:List Value} (e:jh l=true):l.isEmpty=false:=by
 cases l with
 | nil=>cases e
 | cons _ _=>rfl
section
variable {prog:Program} {w:World} {A:Around} {s:Shared} {K:W.Frag} {x C:Addr} {R:Result->Shared->Prop}
theorem XCls.mro {c:Value} {b:Bool} (k:XCls K C) (h:∀ cd,PySem.W.clsIn K C=some cd->jh cd.mro=true->cd.mro.contains c=b):PySem.W.mroIn K C c=some b:=by
 obtain ⟨cd,a,o,_⟩:=k.ov;unfold PySem.W.mroIn;rw [a,Option.bind_some,if_neg (by rw [R6 o];decide),h cd a o]
theorem XCls.isObj (k:XCls K C):PySem.W.mroIn K C (.type "object")=some true:=k.mro fun cd _ o=>(yJ _ o).1
theorem XCls.isExc (k:XCls K C):PySem.W.mroIn K C (.type "BaseException")=some true:=k.mro fun cd _ o=>(yJ _ o).2
theorem Vb {ox:Obj} {od:Option Obj} {name:Str} {tk:Tok} {v:Value} (X:K.In s.heap) (I:PySem.W.InstAt s.heap x ox C od) (c:XCls K C) (ht:NoAttr K C name)
  (h:wpAny (model prog w) A.in1 (Builtin.ObjectAttr.storeInOwnDict (.ref x) (.ref C) (.str name tk) name v false)
   (fun fin s'=>match fin with | .done f=>R (.ok f) s' | .again c'=>c'.quiet=true/\codeAny (model prog w) A c' R s') (fun e s'=>R (.error e) s') s):
  codeAny (model prog w) A (.call (.builtin "object.__setattr__") ⟨[.ref x,.str name tk,v],[]⟩) R s:=by
 obtain ⟨cd,hc,ho,_⟩:=c.ov;have sub:PySem.W.Looks (model prog w) s.heap (isInstance (.ref x) (.type "object")) true:=I.type.andThen (PySem.W.looks_mroIn X c.isObj);refine Ace F.store_object.slot.plain F.store_object.entry (@PySem.W.check_slot (model prog w) _ _ s "object.__setattr__" "object" "__setattr__" (.ref x) [.str name tk,v] [] _ F.store_object.kind F.store_object.split sub (F.store_object.args (.ref x) (.str name tk) v) ?_);have hm:PySem.W.Looks (model prog w) s.heap (mroOf (.ref C)) cd.mro:=(PySem.W.looks_clsIn X hc).andThen .now;have L3:PySem.W.Looks (model prog w) s.heap (Builtin.ObjectAttr.storeTaker? none) none:=.now;rw [PySem.W.osa_eq,refuse_eq];refine gV (gV (I.type.here (gV (hm.here ?_))));rw [wU _ _ ho];refine Aag (gV (I.type.here (gV ((Abh X ht).here (gV (L3.here ?_))))));exact h
end
theorem Ox {H:Hp} {d x:Addr} {a b c:HO} (n:d≠x):upd (upd (upd H d a) x b) d c=upd (upd H x b) d c:=by
 funext y;unfold upd;by_cases h:y=d
 ·simp [h]
 ·simp [h]
section
variable {X:Cx} {pins:List (Addr×Obj)} {U:St} {H:Hp} {s:Shared} {x C d:Addr} {fs:List (Str×V)} {f:Str} {v y:V} {u:Value} {A:Around} {E:Value->Shared->Prop}
theorem ZQ {Q:Unit->Shared->Prop} (I:Inv X pins U H s) (e:H x=some (mV x C)) (c:XCls X.K C) (n:NoAttr X.K C f) (ry:RelV y u)
  (h:∀ s' d,H d=none->d≠x->Inv X pins U (upd (upd H x (jo x C d)) d (o4 d [(f,y)])) s'->Q () s'):wpAny (model X.prog X.w) A (setAttr (.ref x) f u) Q E s:=by
 obtain ⟨⟨t,hx⟩,-,-⟩:ObjOk X.prog X.w H s.heap x (mV x C):=I.hok x _ e;obtain ⟨cd,hc,ho,hd⟩:=c.ov;have J:PySem.W.InstAt s.heap x (iH C none #[.ref t,.none,.none,.none,.bool false,.none]) C none:=⟨hx,rfl,rfl,True.intro⟩;refine PySem.W.set_plain I.kIn J c.sa (Vb (s:={s with toks:=s.toks+1}) I.kIn J c n ?_);refine gV (Aag (gV (gV (Ab9 hx (gV ((PySem.W.looks_clsIn (M:=model X.prog X.w) I.kIn hc).here (s:={s with toks:=s.toks+1}) ?_))))));rw [hd];have hp:s.heap.objs.size≠x:=AbV (Aal hx);have hx1:(s.heap.push {cls:=.type "dict",data:=.dict #[]}).get? x=some (iH C none #[.ref t,.none,.none,.none,.bool false,.none]):=Aae _ hx;have d1:(s.heap.push {cls:=.type "dict",data:=.dict #[]}).get? s.heap.objs.size=some {cls:=.type "dict",data:=.dict #[]}:=Aaq _ rfl;have n1:∀ {hh:Heap},hh.get? s.heap.objs.size=some {cls:=.type "dict",data:=.dict #[]}->hh.Ns1 s.heap.objs.size (fun _=>none):=fun q=>Heap.Ns1.of_empty ⟨_,#[],_,q,rfl,fun e he=>absurd he (by simp),fun _=>rfl⟩
 have I1:Inv X pins U (upd H s.heap.objs.size (o4 s.heap.objs.size [])) {s with heap:=s.heap.push {cls:=.type "dict",data:=.dict #[]},toks:=s.toks+1}:=
  I.laid (t':=s.toks+1) (fun b o q=>Aae _ q) (Aad _) (Cj (n1 d1) fun g=>True.intro)
 refine gV (wpAny_alloc' ?_);refine gV (wpAny_update' hx1 ?_);have hx2:=Aa3 (fun o:Obj=>({o with dict:=some s.heap.objs.size}:Obj)) hx1 rfl;have ot:∀ b,b≠x->((s.heap.push {cls:=.type "dict",data:=.dict #[]}).update x fun o=>{o with dict:=some s.heap.objs.size}).get? b=(s.heap.push {cls:=.type "dict",data:=.dict #[]}).get? b:=fun b hb=>AaQ _ _ (Ne.symm hb)
 have e1:upd H s.heap.objs.size (o4 s.heap.objs.size []) x=some (mV x C):=(aD (Ne.symm hp)).trans e
 have I2:Inv X pins U (upd (upd H s.heap.objs.size (o4 s.heap.objs.size [])) x (jo x C s.heap.objs.size)) {s with heap:=(s.heap.push {cls:=.type "dict",data:=.dict #[]}).update x fun o=>{o with dict:=some s.heap.objs.size},toks:=s.toks+1}:=
  I1.write (t':=s.toks+1) (x:=x) (e:=x) (by rw [e1];exact True.intro) (.inl rfl) (fun b o hb q=>(ot b hb).trans q) ⟨_,hx2⟩ (K8 hx2)
 refine Aag (gV (Aag (gV ?_)));refine wpAny_nsSet1 (n1 ((ot _ hp).trans d1)) fun h' hn' hs=>?_
 obtain ⟨oD,esD,epD,hoD,hdD,hcD⟩:=hn'.count (PySem.Within.cons f u PySem.Within.nil);refine gV (wpAny_lookBehind hoD (by rw [hdD];exact pastItsLine_dict (Aay hcD (by rw [Aba,List.length_nil,sizeLine_eq];omega))) ?_);refine Aag (h _ s.heap.objs.size (I.hok.fresh (Aad _)) hp ?_);rw [← Ox (a:=o4 s.heap.objs.size []) hp];refine I2.write (x:=s.heap.objs.size) (e:=s.heap.objs.size) (by rw [aD hp,aj];exact True.intro) (.inl rfl) (fun b o hb q=>(hs.2 b hb).trans q) ⟨_,hoD⟩ (Cj hn' fun g=>?_);by_cases q:g=f
 ·have qb:(g == f)=true:=Abr.mpr q
  simp only [List.lookup,qb,if_pos q];exact ry
 ·have qb:(g == f)=false:=Abx.mpr q
  simp only [List.lookup,qb,if_neg q];exact True.intro
theorem R7 {h:Heap} {P:Program} {w:World} (ok:HOk P w H h) (e:H x=some (jo x C d)) (e2:H d=some (o4 d fs)):d≠x:=fun z=>by
 subst z;obtain ⟨t,a⟩:=v6 ok e;obtain ⟨mA,⟨o,es,ep,b,q,_⟩,_⟩:=xU ok e2;rw [a] at b;cases b;cases q
theorem ZR {Q:Unit->Shared->Prop} (I:Inv X pins U H s) (e:H x=some (jo x C d)) (e2:H d=some (o4 d fs)) (hl:fs.length < 1000) (c:XCls X.K C) (n:NoAttr X.K C f) (ry:RelV y u)
  (h:∀ s',Inv X pins U (upd H d (o4 d (mL f y fs))) s'->Q () s'):wpAny (model X.prog X.w) A (setAttr (.ref x) f u) Q E s:=by
 have ne:=R7 I.hok e e2;obtain ⟨vs,hx⟩:=v6 I.hok e;obtain ⟨mA,nA,rA⟩:=xU I.hok e2;obtain ⟨cd,hc,ho,hd⟩:=c.ov;have J:PySem.W.InstAt s.heap x (iH C (some d) #[.ref vs,.none,.none,.none,.bool false,.none]) C (some (Classical.choose nA)):=⟨hx,rfl,rfl,let ⟨_,_,q,_⟩:=Classical.choose_spec nA;q⟩;refine PySem.W.set_plain I.kIn J c.sa (Vb (s:={s with toks:=s.toks+1}) I.kIn J c n ?_);refine gV (Aag (gV (gV (Ab9 hx (gV ((PySem.W.looks_clsIn (M:=model X.prog X.w) I.kIn hc).here (s:={s with toks:=s.toks+1}) ?_))))));rw [hd];refine Aag (a:=some d) (gV (Aag (gV ?_)));refine wpAny_nsSet1 (s:={s with toks:=s.toks+1}) nA fun h' hn' hs=>?_
 have wi:PySem.Within mA (fs.map (·.1)):=fun z hz=>by
  have r:=rA z;cases q:fs.lookup z with
  | none=>rw [q] at r;exact absurd (RelO.none_of r) hz
  | some a=>exact AaO.mpr ⟨(z,a),Aa1 q,rfl⟩
 obtain ⟨oD,esD,epD,hoD,hdD,hcD⟩:=hn'.count (PySem.Within.cons f u wi);refine gV (wpAny_lookBehind hoD (by rw [hdD];exact pastItsLine_dict (Aay hcD (by rw [Aba,Aaf,sizeLine_eq];omega))) ?_);refine Aag (h _ ?_);refine I.write (x:=d) (e:=d) (by rw [e2];exact True.intro) (.inl rfl) (fun b o hb q=>(hs.2 b hb).trans q) ⟨_,hoD⟩ (Cj hn' fun g=>?_);rw [qy];by_cases q:g=f
 ·rw [if_pos q,if_pos q];exact ry
 ·rw [if_neg q,if_neg q];exact rA g
theorem getx {b:Bool} {Q:Value->Shared->Prop} (I:Inv X pins U H s) (e:H x=some (v5 x C d)) (e2:H d=some (o4 d fs)) (c:XCls X.K C) (n:NoAttr X.K C f) (l:fs.lookup f=some v)
  (h:∀ u s',Inv X pins U H s'->RelV v u->Q u s'):wpAny (model X.prog X.w) A (getAttr (.ref x) f b) Q E s:=by
 obtain ⟨vs,hx,_⟩:=Jb I.hok e;obtain ⟨mA,nA,rA⟩:=xU I.hok e2;obtain ⟨cd,hc,ho,hd⟩:=c.ov;obtain ⟨od,hod,lk⟩:=vU nA;obtain ⟨u,hu,ru⟩:=RelO.some_of (v:=v) (o:=mA f) (by rw [← l];exact rA f);have J:PySem.W.InstAt s.heap x (iH C (some d) vs) C (some od):=⟨hx,rfl,rfl,hod⟩;have hf:PySem.W.findObj X.K C (some od) f=some (.value u):=PySem.W.findObj_own (by unfold PySem.W.hasDictIn;rw [hc];exact hd) n rfl (by rw [lk,hu]);have Z:=h u {s with toks:=s.toks+1} (I.tok _) ru;have KI:=I.kIn;obtain ⟨hh,g,dr,t,os⟩:=s;have L0:=J.type (M:=model X.prog X.w);have L1:=Abh (M:=model X.prog X.w) KI c.ga;have L2:=Abh (M:=model X.prog X.w) KI c.gh;have L3:=PySem.W.looks_find (M:=model X.prog X.w) KI J hf;have sub:PySem.W.Looks (model X.prog X.w) hh (isInstance (.ref x) (.type "BaseException")) true:=L0.andThen (PySem.W.looks_mroIn KI c.isExc)
 have hb0:(onTheHeap (Value.ref C) && Value.builtin "BaseException.__getattribute__" == Value.builtin "object.__getattribute__")=false:=by
  rw [show (Value.builtin "BaseException.__getattribute__" == Value.builtin "object.__getattribute__")=false from by trivial,Bool.and_false]
 unfold getAttr getAttrBy;refine gV (wpAny_mkText (Aa5 (gV (L0.at (gV (L1.at ?_))))));dsimp only;rw [hb0];rw [if_neg Aak];unfold getAttrByItsOwn hookBefore;refine gV ?_;rw [if_pos (show onTheHeap (Value.ref C)=true from rfl)];refine L2.at ?_;refine gV (Acn (Aa5 ?_));have hb1:(b && onTheHeap (Value.builtin "BaseException.__getattribute__"))=false:=by cases b <;> rfl
 unfold callGetattribute;rw [hb1,if_neg Aak];unfold boundAndCalled;refine gV (AbA (F.attrBase_ValueError.ga.bind (.ref x)) ?_);refine Aca (Ace F.attrBase_ValueError.ga.plain F.entry_bexc_ga (@PySem.W.check_slot (model X.prog X.w) _ _ ⟨hh,g,dr,t+1,os⟩ "BaseException.__getattribute__" "BaseException" "__getattribute__" (.ref x) [.str f t] [] _ (by trivial) (by trivial) sub (F.args_bexc_ga (.ref x) (.str f t)) ?_));refine gV (Aag (gV (Aag (gV (L0.at (gV (L3.at ?_)))))));refine Aag ?_;show wpAny _ _ (handedOut u) _ _ _;rw [PySem.W.handedOut_of (Af ru)];exact Aag Z
end
def Jd (K:W.Frag) (C:Addr):Bool:=Xe K C && PySem.W.findIn K (.ref C) "__class__" == some (some (.builtin "object.__class__")) && PySem.W.specialIn K (.builtin "object.__class__") "__get__" == some (some (.builtin "getset_descriptor.__get__")) && PySem.W.takesIn K (.builtin "object.__class__") == some true
structure R8 (K:W.Frag) (C:Addr):Prop where
 cls:XCls K C
 ca:PySem.W.findIn K (.ref C) "__class__"=some (some (.builtin "object.__class__"))
 cg:PySem.W.specialIn K (.builtin "object.__class__") "__get__"=some (some (.builtin "getset_descriptor.__get__"))
 ct:PySem.W.takesIn K (.builtin "object.__class__")=some true
theorem Oz {K:W.Frag} {C:Addr} (h:Jd K C=true):R8 K C:=by
 unfold Jd at h;simp only [Aav,Abr] at h;exact ⟨R5 h.1.1.1,h.1.1.2,h.1.2,h.2⟩
section
variable {prog:Program} {w:World} {A:Around} {E:Value->Shared->Prop} {s:Shared} {K:W.Frag} {x C:Addr} {ox od:Obj}
theorem K9 {Q:Option Value->Shared->Prop} (c:R8 K C) (KI:K.In s.heap) (J:PySem.W.InstAt s.heap x ox C (some od)) (h:Q (some (.ref C)) {s with toks:=s.toks+1}):wpAny (model prog w) A (getAttr? (.ref x) "__class__") Q E s:=by
 obtain ⟨cd,hc,ho,hd⟩:=c.cls.ov;have hf:PySem.W.findObj K C (some od) "__class__"=some (.bind (.builtin "getset_descriptor.__get__") (.builtin "object.__class__")):=PySem.W.findObj_data (by rw [hc];rfl) c.ca c.cg c.ct;obtain ⟨hh,g,dr,t,os⟩:=s;have L0:=J.type (M:=model prog w);have L1:=Abh (M:=model prog w) KI c.cls.ga;have L2:=Abh (M:=model prog w) KI c.cls.gh;have L3:=PySem.W.looks_find (M:=model prog w) KI J hf;have sub:PySem.W.Looks (model prog w) hh (isInstance (.ref x) (.type "BaseException")) true:=L0.andThen (PySem.W.looks_mroIn KI c.cls.isExc)
 have hb0:(onTheHeap (Value.ref C) && Value.builtin "BaseException.__getattribute__" == Value.builtin "object.__getattribute__")=false:=by
  rw [show (Value.builtin "BaseException.__getattribute__" == Value.builtin "object.__getattribute__")=false from by trivial,Bool.and_false]
 unfold getAttr? getAttrBy? getAttrBy;refine gV (wpAny_mkText (gV (Acn (Aa5 (gV (L0.at (gV (L1.at ?_))))))));dsimp only;rw [hb0,if_neg Aak];unfold getAttrByItsOwn hookBefore;refine gV ?_;rw [if_pos (show onTheHeap (Value.ref C)=true from rfl)];refine L2.at ?_;refine gV (Acn (Aa5 ?_));unfold callGetattribute;rw [if_neg (show ¬ ((false && onTheHeap (Value.builtin "BaseException.__getattribute__"))=true) from by decide)];unfold boundAndCalled;refine gV (AbA (F.attrBase_ValueError.ga.bind (.ref x)) ?_);refine Aca (Ace F.attrBase_ValueError.ga.plain F.entry_bexc_ga (@PySem.W.check_slot (model prog w) _ _ ⟨hh,g,dr,t+1,os⟩ "BaseException.__getattribute__" "BaseException" "__getattribute__" (.ref x) [.str "__class__" t] [] _ (by trivial) (by trivial) sub (F.args_bexc_ga (.ref x) (.str "__class__" t)) ?_));refine gV (Aag (gV (Aag (gV (L0.at (gV (L3.at ?_)))))));show wpAny _ _ (holding [.builtin "object.__class__"] (call (.builtin "getset_descriptor.__get__") [.builtin "object.__class__",.ref x,.ref C]) >>=ret) _ _ _;refine gV (Aa5 (Aca (PySem.W.class_get (s:=⟨hh,g,dr,t+1,os⟩) KI J c.cls.isObj ?_)));refine Aag ?_;show wpAny _ _ (handedOut (.ref C)) _ _ _;rw [PySem.W.handedOut_of rfl];exact Aag (Aag h)
theorem OD (c:R8 K C):PySem.W.KitX K (.ref x) (.ref C) (fun h=>PySem.W.InstAt h x ox C (some od)) where
 ty:=fun _ _ _ I=>I.type
 it:=fun _ _ X _=>by
  obtain ⟨cd,hc,_⟩:=c.cls.ov;unfold PySem.W.clsIn at hc
  split at hc
  ·rename_i a1 a2 a3 a4 ho
   intro A1 Q1 E1 s1 k q;unfold isType loadHead;exact gV (Ab9 (k _ _ (X _ _ ho)) (Aag q))
  ·cases hc
 ne:=fun h tp dd its n sl X htp=>by
  obtain ⟨cd,hc,_⟩:=c.cls.ov;refine Bool.eq_false_iff.mpr fun q=>?_
  obtain rfl:C=tp:=Value.ref.inj (Abr.mp q);unfold PySem.W.clsIn at hc
  split at hc
  ·rename_i a1 a2 a3 a4 ho
   cases (X _ _ ho).symm.trans htp
  ·cases hc
 ca:=fun X I k=>K9 c X I k
end
def Q8 (H:Hp) (x C:Addr) (fs:List (Str×V)):Prop:=∃ d,H x=some (v5 x C d)/\H d=some (o4 d fs)
def ZS:V->Option Value
 | .ty T=>some (.type T)
 | .ref C=>some (.ref C)
 | _=>none
theorem OJ {v:V} {u c:Value} (e:ZS v=some c) (r:RelV v u):u=c:=by
 cases v <;> first | cases e;exact r | cases e
def O3:List V->Option (List Value)
 | []=>some []
 | v :: r=>match ZS v,O3 r with
  | some c,some l=>some (c :: l)
  | _,_=>none
theorem Je:∀ {vs:List V} {us cs:List Value},O3 vs=some cs->Vals vs us->us=cs
 | [],us,cs,e,r=>by cases r;cases e;rfl
 | v :: vs,us,cs,e,r=>by
  cases r with
  | cons r1 r2=>
   unfold O3 at e
   split at e
   ·rename_i c l h1 h2
    cases e;rw [OJ h1 r1,Je h2 r2]
   ·cases e
def Fb (K:W.Frag):List V->Hp->VK->Prop:=fun xs H Q=>∃ x t b,(TyOf K H x t\/∃ a C fs,x= .ref a/\Q8 H a C fs/\R8 K C/\t= .ref C)/\
 ((∃ v c,xs=[x,v]/\ZS v=some c/\PySem.W.kitOne K t c=some b)\/(∃ p vs cs,xs=[x,.ref p]/\H p=some (.tup vs)/\O3 vs=some cs/\PySem.W.kitAny K t cs=some b))/\Q (.bl b) H
section
variable {X:Cx} {pins:List (Addr×Obj)} {U:St} {H:Hp} {s:Shared} {A:Around} {E:Value->Shared->Prop} {Q:Value->Shared->Prop} {c:Value} {b:Bool}
theorem O5 {x:V} {u t:Value} (I:Inv X pins U H s) (rx:RelV x u) (ty:TyOf X.K H x t\/∃ a C fs,x= .ref a/\Q8 H a C fs/\R8 X.K C/\t= .ref C):
  ∃ φ:Heap->Prop,PySem.W.KitX X.K u t φ/\φ s.heap/\u≠.builtin "__main__.__loader__#opaque":=by
 rcases ty with ty | ⟨a,C,fs,rfl,⟨d,e1,e2⟩,c,rfl⟩
 ·cases ty with
  | non=>cases (show u=Value.none from rx);exact ⟨_,PySem.W.kitx_none,True.intro,(fun z=>nomatch z)⟩
  | bl y=>cases (show u=Value.bool y from rx);exact ⟨_,PySem.W.kitx_bool,True.intro,(fun z=>nomatch z)⟩
  | int i=>obtain ⟨t,q⟩:=(show ∃ t,u=Value.int i t from rx);cases q;exact ⟨_,PySem.W.kitx_int,True.intro,(fun z=>nomatch z)⟩
  | str y=>obtain ⟨t,q⟩:=(show ∃ t,u=Value.str y t from rx);cases q;exact ⟨_,PySem.W.kitx_str,True.intro,(fun z=>nomatch z)⟩
  | flt y=>obtain ⟨t,q⟩:=(show ∃ t,u=Value.float y t from rx);cases q;exact ⟨_,PySem.W.kitx_float,True.intro,(fun z=>nomatch z)⟩
  | @lst a xs ea=>
   cases (show u=Value.ref a from rx);obtain ⟨_,_,n,_,h1⟩:=(show ObjOk X.prog X.w H s.heap a (.lst xs) from I.hok a _ ea);exact ⟨_,PySem.W.kitx_list,⟨_,h1,rfl⟩,(fun z=>nomatch z)⟩
  | @frz a ob xs ea=>
   cases (show u=Value.ref a from rx);obtain ⟨_,_,_,n,_,h1⟩:=(show ObjOk X.prog X.w H s.heap a (.frz ob (.lst xs)) from I.hok a _ ea);exact ⟨_,PySem.W.kitx_list,⟨_,h1,rfl⟩,(fun z=>nomatch z)⟩
  | @tup a xs ea=>
   cases (show u=Value.ref a from rx);obtain ⟨_,_,_,p⟩:=(show ObjOk X.prog X.w H s.heap a (.tup xs) from I.hok a _ ea);obtain ⟨o,h1,h2,_⟩:=p;exact ⟨_,PySem.W.kitx_tuple,⟨o,h1,h2⟩,(fun z=>nomatch z)⟩
  | @dK a kvs ea=>
   cases (show u=Value.ref a from rx);obtain ⟨_,_,vs,_,p⟩:=(show ObjOk X.prog X.w H s.heap a (.dK kvs) from I.hok a _ ea);obtain ⟨o,es,ep,h1,h2,_⟩:=p;exact ⟨_,PySem.W.kitx_dict,⟨o,h1,h2.1⟩,(fun z=>nomatch z)⟩
  | @dT a kvs ea=>
   cases (show u=Value.ref a from rx);obtain ⟨_,_,xs,_,o,es,ep,h1,h2,_⟩:=(show ObjOk X.prog X.w H s.heap a (.dT kvs) from I.hok a _ ea);exact ⟨_,PySem.W.kitx_dict,⟨o,h1,h2.1⟩,(fun z=>nomatch z)⟩
  | @ins a C dx fs ea cl ha hn htk hm=>
   cases (show u=Value.ref a from rx);obtain ⟨mA,O,_⟩:=uN I.hok ea;obtain ⟨od,J,_⟩:=O.look;exact ⟨_,PySem.W.kitx_own (cl.get _) cl.hd ha hn htk hm,J,(fun z=>nomatch z)⟩
 ·cases (show u=Value.ref a from rx)
  obtain ⟨vs,hx,_⟩:=Jb I.hok e1;obtain ⟨mA,nA,rA⟩:=xU I.hok e2;obtain ⟨od,hod,lk⟩:=vU nA;exact ⟨_,OD (ox:=iH C (some d) vs) (od:=od) c,⟨hx,rfl,rfl,hod⟩,(fun z=>nomatch z)⟩
theorem sH {K:W.Frag} (hK:X.K=K):CallR X (.builtin "isinstance") (Fb K):=by
 subst hK;intro pins s U H xs us Q I r h;obtain ⟨x,t,b,ty,w,q⟩:=h;rcases w with ⟨v,c,rfl,ec,e⟩ | ⟨p,vs,cs,rfl,ep,ec,e⟩
 ·obtain ⟨u,u2,rfl,ru,rv⟩:=vals2 r
  obtain rfl:=OJ ec rv;obtain ⟨φ,Z,hφ,hne⟩:=O5 I ru ty;exact Aa9 Z I.kIn hφ e hne fun tk=>⟨.bl b,H,I.tok _,rfl,q⟩
 ·obtain ⟨u,u2,rfl,ru,rv⟩:=vals2 r
  cases (show u2=Value.ref p from rv);obtain ⟨φ,Z,hφ,hne⟩:=O5 I ru ty;obtain ⟨_,its,rt,o,h1,h2,n,h3⟩:=(show ObjOk X.prog X.w H s.heap p (.tup vs) from I.hok p _ ep);obtain rfl:=Je ec rt;obtain ⟨oc,odd,oda,osl⟩:=o;dsimp only at h2 h3;subst h2 h3;exact PySem.W.kia_tup Z I.kIn hφ h1 e hne fun tk=>⟨.bl b,H,I.tok _,rfl,q⟩
end
def R9 (P:Program) (w:World) (K:W.Frag) (mg:Str->Option Value) (base:Heap) (k:Nat) (x:Str) (ps:List Str) (sp:Sp):Prop:=
 ∃ f fd,mg x=some (.ref f)/\PySem.W.keepIn K (.ref f)=true/\Binds K fd ps []/\FnOk P w K mg base (K7 P w) k f fd ps sp
def Hf (sp:Sp) (R:St->XK) (t:TA):TE:=fun U H Q=>t U H fun vs H1=>sp vs H1 Q (R U)
theorem mW {X:Cx} (h:∀ (e:Value) (s:Shared),X.xe e s=False):lC X (fun _ _ _ _=>False):=fun _ _ _ ⟨_,_,_,_,_,_,_,_,z⟩=>z.elim
section
variable {X:Cx} {k:Nat} {f C:Addr} {fd:FuncData} {ps:List Str} {sp:Sp} {R:St->XK} {x:Str} {p pos:Pos} {e:Expr} {es:List Expr} {t:TA} {pins:List (Addr×Obj)} {U:St} {H:Hp} {s:Shared} {Q:VK} {us:List Value} {vs:List V}
theorem u6 (F:FnOk X.prog X.w X.K X.mg X.base (K7 X.prog X.w) k f fd ps sp) (hr:Room k X.A) (hb:Binds X.K fd ps []) (hx:lC X R) (I:Inv X pins U H s) (r:Vals vs us) (h:sp vs H Q (R U)):
  wpAny (model X.prog X.w) X.A (call (.ref f) us) (EP X pins U Q) X.xe s:=by
 have hl:(us ++ []).length=ps.length:=by rw [AaL,← r.length];exact F.len _ _ _ _ h
 have bd:=hb s us I.kIn hl;rw [AaL] at bd;refine Aca (codeAny_mono (F.run X.A X.stack s H ⟨us,[]⟩ us vs Q (R U) hr I.env0 bd r h) fun rr s' hq=>?_);cases rr with
 | error e=>exact hx pins e s' (Jc I hq)
 | ok fl=>
  cases fl with
  | ret u=>exact I.after hq
  | next=>exact False.elim hq
  | brk=>exact False.elim hq
  | cont=>exact False.elim hq
theorem O6 (F:R9 X.prog X.w X.K X.mg X.base k x ps sp) (hr:Room k X.A) (hg:Gl X x) (hx:lC X R) (ha:PA X (e :: es) t) (hdb:(x == ("__debug__":Str))=false)
  (he:starEach (e :: es) X.env=(false,eval e X.env) :: starEach es X.env) (hpl:(backTo pos (starEach es X.env)).any (·.1)=false):PE X (.Call (.Name x p) (e :: es) [] pos) (Hf sp R t):=by
 obtain ⟨f,fd,a,b,c,d⟩:=F;intro pins s U H Q I h;refine AaZ (nP I hg a ?_ hdb);refine AbC (h₀:=X.base) I.ok.mod.kin b (d7 (ha pos pins s U H _ I h) fun us s1 ⟨vs,H1,I1,r,q⟩=>⟨I1.kIn,?_⟩) he hpl;exact u6 d hr c hx I1 r q
def O7 (K:W.Frag) (ta tv:TE) (f:Str):TS:=fun D U H=>tv U H fun y H1=>ta U H1 fun x H2=>∃ a C,x= .ref a/\XCls K C/\NoAttr K C f/\
 ((H2 a=some (mV a C)/\∀ d,H2 d=none->d≠a->D.nx U (upd (upd H2 a (jo a C d)) d (o4 d [(f,y)])))\/
  (∃ d fs,H2 a=some (jo a C d)/\H2 d=some (o4 d fs)/\fs.length < 1000/\D.nx U (upd H2 d (o4 d (mL f y fs)))))
theorem Sd {o value:Expr} {ta tv:TE} {fn:Str} {pos':Pos} (ha:PE X o ta) (hv:PE X value tv) (hs:swapsWith value (some (.Attribute o fn pos')) pos.line X.env=pure false):PS X (.Assign [.Attribute o fn pos'] value pos) (O7 X.K ta tv fn):=by
 intro pins s U H D I h;refine plainObj_wpAny_Assign_Attribute (d7 (hv pins s U H _ I h) fun u s1 ⟨y,H1,I1,ry,q⟩=>d7 (ha pins s1 U H1 _ I1 q) fun ov s2 qq0=>?_) hs;obtain ⟨x,H2,I2,rx,a,C,ex,c,n,q2⟩:=qq0;subst ex;obtain rfl:ov=Value.ref a:=rx;rcases q2 with ⟨e,q2⟩ | ⟨d,fs,e,e2,hl,q2⟩
 ·exact ZQ I2 e c n ry fun s3 d z1 z2 I3=>⟨U,_,I3,q2 d z1 z2⟩
 ·exact ZR I2 e e2 hl c n ry fun s3 I3=>⟨U,_,I3,q2⟩
def O8 (K:W.Frag) (ta:TE) (f:Str):TE:=fun U H Q=>ta U H fun x H1=>∃ a C fs v,x= .ref a/\Q8 H1 a C fs/\XCls K C/\NoAttr K C f/\fs.lookup f=some v/\Q v H1
theorem Sg {ta:TE} {fn:Str} (he:PE X e ta) (hb:attributeBase e fn X.env (eval e X.env)=eval e X.env):PE X (.Attribute e fn pos) (O8 X.K ta fn):=by
 intro pins s U H Q I h;refine Ik hb (d7 (he pins s U H _ I h) fun u s1 qq0=>?_);obtain ⟨x,H1,I1,rx,a,C,fs,v,ex,⟨d,e1,e2⟩,c,n,l,q⟩:=qq0;subst ex;obtain rfl:u=Value.ref a:=rx;exact getx I1 e1 e2 c n l fun u2 s2 I2 ru=>⟨v,H1,I2,ru,q⟩
def Ck (C:Addr) (fl:List Str):Sp:=fun vs H Q E=>∃ x ws,vs= .ref x :: ws/\ws.length=fl.length/\H x=some (mV x C)/\∀ d,H d=none->d≠x->Q .non (upd (upd H x (jo x C d)) d (o4 d (fl.zip ws)))
structure ZV (P:Program) (w:World) (K:W.Frag) (mg:Str->Option Value) (base:Heap) (k:Nat) (x:Str) (C:Addr) (fl:List Str):Prop where
 at_:mg x=some (.ref C)
 cl:R8 K C
 kp:PySem.W.keepIn K (.ref C)=true
 na:∀ f∈fl,NoAttr K C f
 run:∃ f fd ps,PySem.W.findIn K (.ref C) "__init__"=some (some (.ref f))/\PySem.W.typeIn K (.ref f)=some (.type "function")/\Binds K fd ps []/\FnOk P w K mg base Kz k f fd ps (Ck C fl)
def Hg (C:Addr) (fl:List Str) (R:St->XK) (t:TA):TS:=fun _ U H=>t U H fun vs H1=>vs.length=fl.length/\vs.length<=sizeLine/\∀ x H2,Same H1 H2->Q8 H2 x C (fl.zip vs)->R U (.ref C) (some x) H2
theorem Xf {Q:Value->Shared->Prop} {E:Value->Shared->Prop} {fl:List Str} (M:ZV X.prog X.w X.K X.mg X.base k x C fl) (hr:Room (k+1) X.A) (I:Inv X pins U H s) (r:Vals vs us) (hl:vs.length=fl.length) (hz:vs.length<=sizeLine)
  (q:∀ a d s',H a=none->H d=none->d≠a->Inv X pins U (upd (upd (upd H a (mV a C)) a (jo a C d)) d (o4 d (fl.zip vs))) s'->Q (.ref a) s'):wpAny (model X.prog X.w) X.A (call (.ref C) us) Q E s:=by
 obtain ⟨f,fd,ps,hi,hf,hb,F⟩:=M.run;refine Xd I.kIn M.cl.cls.xi hi hf (by rw [← r.length];exact hz) ?_;have I1:Inv X pins U H {s with heap:=s.heap.push {cls:=.type "tuple",data:=.seq us.toArray}}:=I.kept (t':=s.toks) fun b o e=>Aae _ e
 have sz1:(s.heap.push {cls:=.type "tuple",data:=.seq us.toArray}).objs.size=s.heap.objs.size+1:=Abk _ _;have hfr:H (s.heap.objs.size+1)=none:=I.hok.fresh (Nat.le_succ _)
 have gx:((s.heap.push {cls:=.type "tuple",data:=.seq us.toArray}).push (iH C none #[.ref s.heap.objs.size,.none,.none,.none,.bool false,.none])).get? (s.heap.objs.size+1)=some (iH C none #[.ref s.heap.objs.size,.none,.none,.none,.bool false,.none]):=by
  rw [← sz1];exact Aaq _ rfl
 have I2:Inv X pins U (upd H (s.heap.objs.size+1) (mV (s.heap.objs.size+1) C)) {s with heap:=(s.heap.push {cls:=.type "tuple",data:=.seq us.toArray}).push (iH C none #[.ref s.heap.objs.size,.none,.none,.none,.bool false,.none])}:=
  I1.laid (t':=s.toks) (fun b o e=>Aae _ e) (by show (s.heap.push _).objs.size<=_;rw [sz1];exact Aad _) ⟨⟨_,gx⟩,⟨_,gx⟩,fun h1 h2 ⟨t,z⟩ kk=>⟨t,kk _ z⟩⟩
 have r2:Vals (V.ref (s.heap.objs.size+1) :: vs) (Value.ref (s.heap.objs.size+1) :: us):=.cons rfl r
 have sp0:Ck C fl (V.ref (s.heap.objs.size+1) :: vs) (upd H (s.heap.objs.size+1) (mV (s.heap.objs.size+1) C)) (fun v H2=>v= .non/\∃ d,H d=none/\d≠s.heap.objs.size+1/\H2=upd (upd (upd H (s.heap.objs.size+1) (mV (s.heap.objs.size+1) C)) (s.heap.objs.size+1) (jo (s.heap.objs.size+1) C d)) d (o4 d (fl.zip vs))) E0:=
  ⟨_,_,rfl,hl,aj,fun d hd ne=>⟨rfl,d,by rw [aD ne] at hd;exact hd,ne,rfl⟩⟩
 have hl2:((Value.ref (s.heap.objs.size+1) :: us) ++ []).length=ps.length:=by rw [AaL,← r2.length];exact F.len _ _ _ _ sp0
 have bd:=hb _ (Value.ref (s.heap.objs.size+1) :: us) I2.kIn hl2;rw [AaL] at bd;refine Aca (codeAny_mono (F.run _ X.stack _ _ ⟨Value.ref (s.heap.objs.size+1) :: us,[]⟩ (Value.ref (s.heap.objs.size+1) :: us) _ _ E0 (hr.make C us []) (I2.env0.make C us []) bd r2 sp0) fun rr s' hq=>?_);cases rr with
 | error e=>exact False.elim hq
 | ok fl=>
  cases fl with
  | ret u=>
   obtain ⟨v,H',I3,rv,ev,d,hd,ne,eH⟩:=I2.after hq;subst ev;rw [eH] at I3;exact ⟨rv,q _ d s' hfr hd ne I3⟩
  | next=>exact False.elim hq
  | brk=>exact False.elim hq
  | cont=>exact False.elim hq
theorem thrown {env:Env} {C:Addr} {Q:Flow->Shared->Prop} {m:Sem Value} (hc:X.calm=true) (c:R8 X.K C) (hx:lC X R)
  (h:wpAny (model X.prog X.w) X.A m (fun v s1=>∃ x d H1,v= .ref x/\Inv X pins U H1 s1/\H1 x=some (jo x C d)/\R U (.ref C) (some x) (upd H1 x (v5 x C d))) X.xe s):
  wpAny (model X.prog X.w) X.A (raiseStmt env (some m) none) Q X.xe s:=by
 obtain ⟨nm,qn,N,bs,bm,sn,sub,ab,col,dd,k0,k1,k2,k3,k5,lk0,tl⟩:=yI c.cls.xi;unfold raiseStmt;refine gV (d7 h fun v s1 qq0=>?_);obtain ⟨x,d,H1,ev,I1,e1,r1⟩:=qq0;subst ev;have KI:=I1.kIn;obtain ⟨t,he⟩:=v6 I1.hok e1;have hh:X.A.handled=none:=I1.ok.hd hc
 have hcB:(Value.ref C :: bm).contains (.type "BaseException")=true:=by
  rw [Abg,(tl _ KI).hasType (show ZP.contains (.type "BaseException")=true from by decide)];rfl
 have fin:X.xe (.ref x) s1:=by
  have I2:Inv X pins U (upd H1 x (v5 x C d)) s1:=I1.write (t':=s1.toks) (x:=x) (e:=x) (h':=s1.heap) (by rw [e1];exact True.intro) (.inl rfl) (fun b o _ z=>z) ⟨_,he⟩ (Ja he rfl);exact hx pins _ s1 ⟨x,C,d,U,_,rfl,I2,⟨aj,.inl ⟨_,he,rfl,rfl⟩⟩,r1⟩
 have hD:=KI _ _ lk0;obtain ⟨hp,g,dr,tk,os⟩:=s1;unfold iH at he;repeat (first | with_reducible refine Abf he ?_ | with_reducible refine Abf hD ?_ | (with_reducible refine AbN hD ?_;rw [hcB]) | wp_step)
 exact wpAny_raiseNew_none hh fin
end
section
variable {X:Cx} {k:Nat} {C:Addr} {R:St->XK} {x:Str} {p cpos pos:Pos} {e:Expr} {es:List Expr} {t:TA} {fl:List Str}
theorem Fd {H:Hp} {a d:Addr} {vs:List V} (ha:H a=none) (hd:H d=none) (ne:d≠a):Same H (upd (upd (upd (upd H a (mV a C)) a (jo a C d)) d (o4 d (fl.zip vs))) a (v5 a C d))/\
  Q8 (upd (upd (upd (upd H a (mV a C)) a (jo a C d)) d (o4 d (fl.zip vs))) a (v5 a C d)) a C (fl.zip vs):=by
 refine ⟨fun b o h=>?_,d,aj,by rw [aD ne,aj]⟩;have na:b≠a:=fun z=>by rw [z,ha] at h;cases h
 have nd:b≠d:=fun z=>by rw [z,hd] at h;cases h
 rw [aD na,aD nd,aD na,aD na];exact h
theorem O9 (M:ZV X.prog X.w X.K X.mg X.base k x C fl) (hr:Room (k+1) X.A) (hc:X.calm=true) (hg:Gl X x) (hx:lC X R) (ha:PA X (e :: es) t) (hdb:(x == ("__debug__":Str))=false)
  (he:starEach (e :: es) X.env=(false,eval e X.env) :: starEach es X.env) (hpl:(backTo cpos (starEach es X.env)).any (·.1)=false):PS X (.Raise (some (.Call (.Name x p) (e :: es) [] cpos)) none pos) (Hg C fl R t):=by
 intro pins s U H D I h;rw [arm_exec_Raise];refine gV (Acl (thrown (pins:=pins) (U:=U) (C:=C) hc M.cl hx (gV (d7 (Q:=fun v s1=>∃ x d H1,v= .ref x/\Inv X pins U H1 s1/\H1 x=some (jo x C d)/\R U (.ref C) (some x) (upd H1 x (v5 x C d))) ?_ fun v s3 h3=>gV (Acl (Aag h3))))));refine AaZ (nP I hg M.at_ ?_ hdb);refine AbC (h₀:=X.base) I.ok.mod.kin M.kp (d7 (ha cpos pins s U H _ I h) fun us s1 ⟨vs,H1,I1,r,hl,hz,q⟩=>⟨I1.kIn,?_⟩) he hpl;refine Xf M hr I1 r hl hz fun a d s2 z1 z2 ne I2=>⟨a,d,_,rfl,I2,?_,?_⟩
 ·rw [aD (Ne.symm ne),aj]
 ·obtain ⟨w1,w2⟩:=Fd (C:=C) (fl:=fl) (vs:=vs) z1 z2 ne
  exact q a _ w1 w2
end
section
variable {X:Cx} {pins:List (Addr×Obj)} {U U':St} {H:Hp} {s:Shared} {h':Heap}
theorem Inv.reloc {t':Nat} (I:Inv X pins U H s) (hs:Heap.SameBut X.env.locals s.heap h') (len:U'.length=U.length)
  (l:∃ m',h'.Ns X.env.locals m'/\∀ (i:Nat) (x:Str) (v:V),X.N[i]?=some x->U'[i]?=some (some v)->YL X.env.scope x->∃ u,RelV v u/\Look X.env h' m' x u):Inv X pins U' H {s with heap:=h',toks:=t'}:=by
 have cne:=I.cne;obtain ⟨mm,⟨oL,_,_,hoL,_⟩,_⟩:=id I.loc;have away:∀ b o,X.s₀.heap.get? b=some o->b≠X.env.locals:=fun b o e=>AaJ (Aan (Aal e) I.ok.above)
 refine ⟨I.ok,I.os,I.bare,⟨fun b o e n hb hx=>(hs.2 b (away b o e)).trans (I.base.keep b o e n hb hx),fun b o e n hb hx=>?_,I.base.free,fun b o e hx=>?_,I.base.tups,I.base.frzs,I.base.tbls⟩,l,fun y c e=>?_,I.free,I.freeC,fun q hq=>?_,fun b ob e=>?_,len.trans I.len⟩
 ·obtain ⟨sl,e1⟩:=I.base.slot b o e n hb hx
  exact ⟨sl,(hs.2 b (away b o e)).trans e1⟩
 ·obtain ⟨o2,e1⟩:=I.base.there b o e hx
  exact ⟨o2,(hs.2 b (away b o e)).trans e1⟩
 ·obtain ⟨w2,z⟩:=I.cell y c e
  exact ⟨w2,z.sameBut hs (cne y c e)⟩
 ·obtain ⟨e,n,ne,nf,d⟩:=I.pin q hq
  exact ⟨(hs.2 q.1 ne).trans e,n,ne,nf,d⟩
 ·refine (I.hok b ob e).stay (fun c w2 hc q=>(hs.2 c ?_).trans q) (fun _ q=>q) fun _ _ q=>q
  rintro rfl;rcases hc with rfl | hc
  ·rw [I.free] at e;cases e
  ·rw [I.free] at hc;cases hc
theorem name_goes {A:Around} {E:Value->Shared->Prop} {i:Nat} {n:Str} {pos:Pos} {Q:Unit->Shared->Prop} (I:Inv X pins U H s) (hN:X.N.Nodup) (hi:X.N[i]?=some n) (hl:X.env.scope.names.lookup n=some .local)
  (h:∀ s',Inv X pins (U.set i none) H s'->Q () s'):wpAny (model X.prog X.w) A (do bindName X.env n .none;unbindBehindTheSuite X.env n pos) Q E s:=by
 have hcls:(X.env.scope.kind == .class || (X.env.scope.kind == .module && X.env.locals != X.env.globals))=false:=by rw [I.ok.kind];rfl
 have hk:X.env.kindOf n=some .local:=hl;refine gV (wpAny_bindName (qx (v:=.non) I hN hi (.inl hl) rfl (fun s1 I1=>?_) (.inr hl)));obtain ⟨m1,hn1,hl1⟩:=id I1.loc;have hiU:i < U.length:=by rw [I.len];exact (Aab.mp hi).1
 obtain ⟨u1,ru1,lk1⟩:=hl1 i n .non hi (by rw [AaS hiU]) (.inl hl)
 have m1n:m1 n=some u1:=by
  rcases lk1 with ⟨_,z⟩ | ⟨z | z,_⟩
  ·exact z
  ·rw [hk] at z;cases z
  ·rw [hk] at z;cases z
 unfold unbindBehindTheSuite;refine wpAny_onRaise ?_;unfold unbindName;refine gV (wpAny_point (gV ?_));unfold deleteName;simp only [hk,hcls];rw [if_neg (by decide)];refine gV (wpAny_nsDel_keeps hn1 fun h2 v2 hn2 hs2=>?_);rw [m1n];simp only [if_true,Option.isSome_some,Bool.not_true,Bool.false_eq_true,if_false];refine Aag (wpAny_point (h _ (I1.reloc (t':=s1.toks) hs2 (by rw [AbZ,AbZ]) ⟨_,hn2,fun j y v e1 e2 e3=>?_⟩)))
 have hj:j≠i:=fun z=>by
  subst z;rw [AaS hiU] at e2;cases e2
 rw [AaM (Ne.symm hj)] at e2;obtain ⟨u,r,q⟩:=hl1 j y v e1 (by rw [AaM (Ne.symm hj)];exact e2) e3;refine ⟨u,r,?_⟩;rcases q with ⟨k,z⟩ | ⟨k,c,z1,z2⟩
 ·have ny:y≠n:=fun z=>hj (yh hN e1 (z ▸ hi))
  exact .inl ⟨k,by show (if y=n then v2 else m1 y)=some u;rw [if_neg ny];exact z⟩
 ·exact .inr ⟨k,c,z1,z2.sameBut hs2 (I1.cne y c z1)⟩
end
abbrev Cx.sui (X:Cx) (x:Addr):Cx:={X with A:=X.A.mark (some (.ref x)),calm:=false,xe:=fun _ _=>False}
abbrev Cx.bod (X:Cx) (pins:List (Addr×Obj)) (R:St->XK):Cx:={X with pn:=X.pn ++ pins,xe:=XE X pins R}
section
variable {X:Cx} {pins pins':List (Addr×Obj)} {U:St} {H:Hp} {s:Shared} {x C d T:Addr} {R:St->XK} {D:Ends}
theorem Inv.sui (I:Inv X pins U H s) (x:Addr):Inv (X.sui x) pins U H s:=
 ⟨⟨I.ok.mod,I.ok.kind,I.ok.glob,I.ok.blt,I.ok.above,I.ok.inj,I.ok.has,I.ok.cab,fun h=>absurd h Aak,I.ok.frames,I.ok.stk,I.ok.exf,I.ok.bs,I.ok.bsz,I.ok.noex,I.ok.exfs,I.ok.funs,I.ok.frf⟩,I.os,I.bare,I.base,I.loc,I.cell,I.free,I.freeC,I.pin,I.hok,I.len⟩
theorem Inv.unsui (ok:X.Ok) (I:Inv (X.sui x) pins U H s):Inv X pins U H s:=⟨ok,I.os,I.bare,I.base,I.loc,I.cell,I.free,I.freeC,I.pin,I.hok,I.len⟩
theorem Inv.bod (I:Inv X pins U H s) (R:St->XK):Inv (X.bod pins R) [] U H s:=
 ⟨⟨I.ok.mod,I.ok.kind,I.ok.glob,I.ok.blt,I.ok.above,I.ok.inj,I.ok.has,I.ok.cab,I.ok.hd,I.ok.frames,I.ok.stk,I.ok.exf,I.ok.bs,I.ok.bsz,I.ok.noex,I.ok.exfs,I.ok.funs,I.ok.frf⟩,I.os,I.bare,I.base,I.loc,I.cell,I.free,I.freeC,fun p hp=>I.pin p (by simpa using hp),I.hok,I.len⟩
theorem Inv.unbod (I:Inv (X.bod pins R) pins' U H s):Inv X pins U H s:=
 ⟨⟨I.ok.mod,I.ok.kind,I.ok.glob,I.ok.blt,I.ok.above,I.ok.inj,I.ok.has,I.ok.cab,I.ok.hd,I.ok.frames,I.ok.stk,I.ok.exf,I.ok.bs,I.ok.bsz,I.ok.noex,I.ok.exfs,I.ok.funs,I.ok.frf⟩,I.os,I.bare,I.base,I.loc,I.cell,I.free,I.freeC,fun p hp=>I.pin p (Ab8 _ hp),I.hok,I.len⟩
theorem SP.unbod {f:Flow} (h:SP (X.bod pins R) pins' D f s):SP X pins D f s:=by
 cases f with
 | next=>obtain ⟨U',H',I,q⟩:=h;exact ⟨U',H',I.unbod,q⟩
 | brk=>obtain ⟨U',H',I,q⟩:=h;exact ⟨U',H',I.unbod,q⟩
 | cont=>obtain ⟨U',H',I,q⟩:=h;exact ⟨U',H',I.unbod,q⟩
 | ret u=>obtain ⟨v,U',H',I,r,q⟩:=h;exact ⟨v,U',H',I.unbod,r,q⟩
theorem SP.unsui (ok:X.Ok) {f:Flow} (h:SP (X.sui x) pins D f s):SP X pins D f s:=by
 cases f with
 | next=>obtain ⟨U',H',I,q⟩:=h;exact ⟨U',H',I.unsui ok,q⟩
 | brk=>obtain ⟨U',H',I,q⟩:=h;exact ⟨U',H',I.unsui ok,q⟩
 | cont=>obtain ⟨U',H',I,q⟩:=h;exact ⟨U',H',I.unsui ok,q⟩
 | ret u=>obtain ⟨v,U',H',I,r,q⟩:=h;exact ⟨v,U',H',I.unsui ok,r,q⟩
theorem Pa:lC (X.bod pins R) R:=by
 rintro pins' e s' ⟨x,C,d,U,H',he,I,⟨tx,F⟩,r⟩;refine ⟨x,C,d,U,H',he,I.unbod,⟨tx,?_⟩,r⟩;rcases F with F | ⟨T,F⟩
 ·exact .inl F
 ·obtain ⟨a1,a2,a3,a4,a5,a6⟩:=F.fp
  exact .inr ⟨T,F.obj,F.tb,⟨a1,a2,a3,a4,a5,fun p hp=>a6 p (Ab8 _ hp)⟩,F.tr⟩
theorem Ax {A:Around} {E:Value->Shared->Prop} {P:Addr} {b:Bool} {Q:Bool->Shared->Prop} {vs:Array Value} {M:Model} {K:W.Frag} (KI:K.In s.heap) (c:XCls K C) (cP:XCls K P) (e:s.heap.get? x=some (iH C (some d) vs)) (hm:PySem.W.mroIn K C (.ref P)=some b) (h:Q b s):
  wpAny M A (excMatches (.ref x) (.ref P)) Q E s:=by
 obtain ⟨nm,qn,N,bs,bm,sn,sub,ab,col,dd,k0,k1,k2,k3,k5,lk,tl⟩:=yI c.xi;obtain ⟨nm',qn',N',bs',bm',sn',sub',ab',col',dd',k0',k1',k2',k3',k5',lk',tl'⟩:=yI cP.xi;have hC:=KI _ _ lk;have hP:=KI _ _ lk'
 have hPB:(Value.ref P :: bm').contains (.type "BaseException")=true:=by
  rw [Abg,(tl' _ KI).hasType (show ZP.contains (.type "BaseException")=true from by decide)];rfl
 have hCP:(Value.ref C :: bm).contains (.ref P)=b:=by
  unfold PySem.W.mroIn PySem.W.clsIn at hm;rw [lk] at hm;exact AaE hm
 have f:=tc_notTuple;obtain ⟨hp,g,dr,tk,os⟩:=s;unfold iH at e;unfold excMatches;by_cases hh:P=C
 ·subst hh
  have hb:b=true:=by rw [← hCP];simp
  subst hb;rw [lk] at lk';cases lk';repeat (first | with_reducible refine Abf e ?_ | with_reducible refine Abf hC ?_ | (with_reducible refine AbN hC ?_;first | rw [hPB] | rw [hCP]) | wp_step)
  exact h
 ·repeat (first | with_reducible refine Abf e ?_ | with_reducible refine Abf hP ?_ | (with_reducible refine AbN hP ?_;rw [hPB]) | (with_reducible refine AbN hC ?_;rw [hCP]) | wp_step)
  cases b <;> (wp_walk;exact h)
abbrev TH:=Ends->St->Addr->Addr->Hp->Prop
def PH (X:Cx) (hs:List ExceptHandler) (th:TH):Prop:=∀ (pins:List (Addr×Obj)) (s:Shared) (U:St) (H:Hp) (D:Ends) (x C d T:Addr),Inv X pins U H s->Head X pins H x C d T s.heap->th D U x C H->
 wpAny (model X.prog X.w) X.A (handleBy (.ref x) X.env hs) (SP X pins D) X.xe s
theorem Xg:PH X [] (fun _ _ _ _ _=>False):=fun _ _ _ _ _ _ _ _ _ _ _ h=>h.elim
def Ends.gone (D:Ends) (i:Nat):Ends:={nx:=fun U H=>D.nx (U.set i none) H,rt:=D.rt,bk:=fun U H=>D.bk (U.set i none) H,ct:=fun U H=>D.ct (U.set i none) H}
def hAs (K:W.Frag) (P:Addr) (i:Nat) (ts:TS) (th:TH):TH:=fun D U x C H=>∃ b,XCls K C/\PySem.W.mroIn K C (.ref P)=some b/\if b=true then ts (D.gone i) (U.set i (some (.ref x))) H else th D U x C H
def hNo (K:W.Frag) (P:Addr) (ts:TS) (th:TH):TH:=fun D U x C H=>∃ b,XCls K C/\PySem.W.mroIn K C (.ref P)=some b/\if b=true then ts D U H else th D U x C H
variable {nm n:Str} {P:Addr} {i:Nat} {p pos:Pos} {b0:Stmt} {suite:List Stmt} {ts:TS} {th:TH} {hs:List ExceptHandler}
theorem ZW (hg:Gl X nm) (hm:X.mg nm=some (.ref P)) (cP:XCls X.K P) (hdb:(nm == ("__debug__":Str))=false) (hN:X.N.Nodup) (hi:X.N[i]?=some n) (hl:X.env.scope.names.lookup n=some .local)
  (hsu:∀ x,PSs (X.sui x) (b0 :: suite) ts) (hr:PH X hs th):PH X (.ExceptHandler (some (.Name nm p)) (some n) (b0 :: suite) pos :: hs) (hAs X.K P i ts th):=by
 rintro pins s U H D x C d T I F ⟨b,c,mb,q⟩;obtain ⟨vs,ex,h1⟩:=F.obj;refine wpAny_handleBy_cons (codeAny_handlers_test (nP (I.sui x) hg hm ?_ hdb)) (fun z=>nomatch z);refine Ax I.kIn c cP ex mb ?_;cases b with
 | false=>
  rw [if_neg Aak] at q;exact hr pins s U H D x C d T I F q
 | true=>
  rw [if_pos rfl] at q;refine codeAny_handlers_suite_as ?_;refine u5 I F fun h2 I2 F2=>?_
  refine qx (X:=X.sui x) (v:=.ref x) (I2.sui x) hN hi (.inl hl) rfl (fun s3 I3=>?_) (.inr hl);refine AaP (hsu x pins s3 _ H (D.gone i) I3 q) (fun f s4 w=>?_) fun _ _ z=>False.elim z
  cases f with
  | next=>obtain ⟨U',H',J,r⟩:=w;exact name_goes (J.unsui I.ok) hN hi hl fun s5 I5=>⟨_,H',I5,r⟩
  | brk=>obtain ⟨U',H',J,r⟩:=w;exact name_goes (J.unsui I.ok) hN hi hl fun s5 I5=>⟨_,H',I5,r⟩
  | cont=>obtain ⟨U',H',J,r⟩:=w;exact name_goes (J.unsui I.ok) hN hi hl fun s5 I5=>⟨_,H',I5,r⟩
  | ret u=>obtain ⟨v,U',H',J,rv,r⟩:=w;exact name_goes (J.unsui I.ok) hN hi hl fun s5 I5=>⟨v,_,H',I5,rv,r⟩
theorem ZX (hg:Gl X nm) (hm:X.mg nm=some (.ref P)) (cP:XCls X.K P) (hdb:(nm == ("__debug__":Str))=false) (hsu:∀ x,PSs (X.sui x) (b0 :: suite) ts) (hr:PH X hs th):
  PH X (.ExceptHandler (some (.Name nm p)) none (b0 :: suite) pos :: hs) (hNo X.K P ts th):=by
 rintro pins s U H D x C d T I F ⟨b,c,mb,q⟩;obtain ⟨vs,ex,h1⟩:=F.obj;refine wpAny_handleBy_cons (codeAny_handlers_test (nP (I.sui x) hg hm ?_ hdb)) (fun z=>nomatch z);refine Ax I.kIn c cP ex mb ?_;cases b with
 | false=>
  rw [if_neg Aak] at q;exact hr pins s U H D x C d T I F q
 | true=>
  rw [if_pos rfl] at q;refine codeAny_handlers_suite ?_;refine u5 I F fun h2 I2 F2=>?_
  exact AaP (hsu x pins _ _ H D (I2.sui x) q) (fun f s4 w=>w.unsui I.ok) fun _ _ z=>False.elim z
def Xh (tb:(St->XK)->TS) (th:TH):TS:=fun D U H=>tb (fun U' c x H'=>∃ C a,c= .ref C/\x=some a/\th D U' a C H') D U H
theorem Xi {body:List Stmt} {h0:ExceptHandler} {tb:(St->XK)->TS} (hst:X.stack=X.env :: X.outer) (hfr:X.env.frame=some X.env.locals) (hb:∀ (pins:List (Addr×Obj)) (R:St->XK),PSs (X.bod pins R) body (tb R)) (hh:PH X (h0 :: hs) th):
  PS X (.Try body (h0 :: hs) [] [] pos) (Xh tb th):=by
 intro pins s U H D I h;refine wpAny_Try_except (AaP (hb pins _ [] s U H D (I.bod _) h) (fun f s1 q=>?_) fun e s1 q=>?_)
 ·have q':=q.unbod
  cases f with
  | next=>exact wpAny_execs_nil q'
  | brk=>exact q'
  | cont=>exact q'
  | ret u=>exact q'
 ·obtain ⟨x,C,d,U',H',rfl,I1,F1,C',a',eC,ea,r⟩:=q
  cases eC;cases ea;refine EY I1 hst hfr I1.ok.frames F1 fun h2 T I2 F2=>?_
  refine u5 I2 F2 fun h3 I3 F3=>?_
  exact hh pins _ U' H' D x C d T I3 F3 r
end
def aN (mg:Str->Option Value) (x:Str):Addr:=match mg x with
 | some (.ref a)=>a
 | _=>0
theorem gG {mg:Str->Option Value} {x:Str} {C:Addr} (h:mg x=some (.ref C)):aN mg x=C:=by unfold aN;rw [h]
structure La (K:W.Frag) (mg:Str->Option Value) (x:Str):Prop where
 at_:mg x=some (.ref (aN mg x))
 cl:R8 K (aN mg x)
theorem Vc {K:W.Frag} {mg:Str->Option Value} {h:Heap} (X:K.In h) (G:h.Ns mainGlobals mg) {x:Str} {C:Addr} (a:PySem.W.nsIn K mainGlobals x=some (some (.ref C))) (b:Jd K C=true):La K mg x:=by
 have m:=Aa2 X G a;have e:=gG m;exact ⟨by rw [e];exact m,by rw [e];exact Oz b⟩
structure o5 (K:W.Frag) (mg:Str->Option Value) (x:Str) (fl:List Str) (qual:Str) (st:Stmt):Prop where
 c:La K mg x
 kp:PySem.W.keepIn K (.ref (aN mg x))=true
 na:∀ f∈fl,NoAttr K (aN mg x) f
 ini:∃ f fd,PySem.W.findIn K (.ref (aN mg x)) "__init__"=some (some (.ref f))/\PySem.W.typeIn K (.ref f)=some (.type "function")/\Fun K "__init__" qual st f fd
def Pb (K:W.Frag) (C:Addr) (fl:List Str):Bool:=fl.all fun n=>PySem.W.findIn K (.ref C) n == some none
theorem u9 {K:W.Frag} {mg:Str->Option Value} {h:Heap} (X:K.In h) (G:h.Ns mainGlobals mg) {x qual:Str} {C f:Addr} {fl:List Str} {st:Stmt} {oc:Value} {od an:Option Addr} {osl:Array (Option Value)} {kV doc pm cdv ct:Value}
  (a:PySem.W.nsIn K mainGlobals x=some (some (.ref C))) (b:Jd K C=true) (kp:PySem.W.keepIn K (.ref C)=true) (na:Pb K C fl=true)
  (i:PySem.W.findIn K (.ref C) "__init__"=some (some (.ref f))) (t:PySem.W.typeIn K (.ref f)=some (.type "function"))
  (l:K.lookup f=some ⟨oc,od,.func (PySem.W.fnOf "__init__" qual (eZ st) (bU st) (aB st) .none kV doc pm an cdv ct),osl⟩) (c:PySem.W.codeIn K cdv qual=true) (k:PySem.W.keepIn K (.ref f)=true):o5 K mg x fl qual st:=by
 have m:=Aa2 X G a;have e:=gG m;refine ⟨Vc X G a b,by rw [e];exact kp,fun n hn=>?_,f,_,by rw [e];exact i,t,yp l c k⟩;rw [e];have:=Abi.mp na n hn;exact Abr.mp this
structure Sub (K:W.Frag) (mg:Str->Option Value) (x y:Str) (b:Bool):Prop where
 mro:PySem.W.mroIn K (aN mg x) (.ref (aN mg y))=some b
 one:PySem.W.kitOne K (.ref (aN mg x)) (.ref (aN mg y))=some b
theorem qM {K:W.Frag} {mg:Str->Option Value} {h:Heap} (X:K.In h) (G:h.Ns mainGlobals mg) {x y:Str} {C P:Addr} {r:Bool} (a:PySem.W.nsIn K mainGlobals x=some (some (.ref C))) (b:PySem.W.nsIn K mainGlobals y=some (some (.ref P)))
  (m:PySem.W.mroIn K C (.ref P)=some r) (o:PySem.W.kitOne K (.ref C) (.ref P)=some r):Sub K mg x y r:=by
 have e:=gG (Aa2 X G a);have e2:=gG (Aa2 X G b);exact ⟨by rw [e,e2];exact m,by rw [e,e2];exact o⟩
theorem Sh {K:W.Frag} {mg:Str->Option Value} {h:Heap} (X:K.In h) (G:h.Ns mainGlobals mg) {x:Str} {T:String} {C:Addr} {r:Bool} (a:PySem.W.nsIn K mainGlobals x=some (some (.ref C)))
  (o:PySem.W.kitOne K (.ref C) (.type T)=some r):PySem.W.kitOne K (.ref (aN mg x)) (.type T)=some r:=by
 rw [gG (Aa2 X G a)];exact o
structure JH (X:Cx) (hs:List ExceptHandler) (th:TH):Prop where
 run:PH X hs th
section
variable {X:Cx} {K:W.Frag} {k:Nat} {x n fn:Str} {ps:List Str} {sp:Sp} {R:St->XK} {p pos cpos pos':Pos} {e o value:Expr} {es:List Expr} {t:TA} {ta tv:TE} {st:Stmt} {u ts:TS} {th:TH} {hs:List ExceptHandler} {i:Nat}
theorem sI (F:R9 X.prog X.w X.K X.mg X.base k x ps sp) (hr:Room k X.A) (hg:Gl X x) (hx:lC X R) (ha:JA X (e :: es) t) (hdb:(x == ("__debug__":Str))=false) (h:autoParam ((e :: es).all notStar=true) L2.auto4._auto_1):
  JE X (.Call (.Name x p) (e :: es) [] pos) (Hf sp R t):=by
 have h1:notStar e=true:=by simp only [AaX,Aav] at h;exact h.1
 have h2:es.all notStar=true:=by simp only [AaX,Aav] at h;exact h.2
 exact ⟨O6 F hr hg hx ha.run hdb (bW h1) (oF h2)⟩
theorem Vd {C:Addr} (hg:Gl X x) (hm:X.mg x=some (.ref C)) (hd:(x == ("__debug__":Str))=false):JE X (.Name x pos) (tC (.ref C)):=⟨Bu hg hm rfl hd⟩
theorem Xj (hK:X.K=K) (he:JE X e ta) (h:autoParam (uX e=true) L2.auto4._auto_1):JE X (.Attribute e fn pos) (O8 K ta fn):=by
 subst hK;exact ⟨Sg he.run (by cases e <;> first | rfl | cases h)⟩
theorem Sq (hK:X.K=K) (ha:JE X o ta) (hv:JE X value tv) (h:autoParam (nR value=true) L2.auto4._auto_1):JS X (.Assign [.Attribute o fn pos'] value pos) (O7 K ta tv fn):=by
 subst hK;exact ⟨Sd ha.run hv.run (Es h)⟩
theorem Pg {fl:List Str} (M:ZV X.prog X.w X.K X.mg X.base k x (aN X.mg x) fl) (hr:Room (k+1) X.A) (hc:X.calm=true) (hg:Gl X x) (hx:lC X R) (ha:JA X (e :: es) t) (hdb:(x == ("__debug__":Str))=false) (h:autoParam ((e :: es).all notStar=true) L2.auto4._auto_1):
  JS X (.Raise (some (.Call (.Name x p) (e :: es) [] cpos)) none pos) (Hg (aN X.mg x) fl R t):=by
 have h1:notStar e=true:=by simp only [AaX,Aav] at h;exact h.1
 have h2:es.all notStar=true:=by simp only [AaX,Aav] at h;exact h.2
 exact ⟨O9 M hr hc hg hx ha.run hdb (bW h1) (oF h2)⟩
theorem Xk:JH X [] (fun _ _ _ _ _=>False):=⟨Xg⟩
theorem ZZ {b0:Stmt} {suite:List Stmt} (hK:X.K=K) (c:La K X.mg x) (hg:Gl X x) (hdb:(x == ("__debug__":Str))=false) (hN:X.N.Nodup) (hi:X.N[i]?=some n) (hl:X.env.scope.names.lookup n=some .local)
  (hsu:∀ x,JB (X.sui x) (b0 :: suite) ts) (hr:JH X hs th):JH X (.ExceptHandler (some (.Name x p)) (some n) (b0 :: suite) pos :: hs) (hAs K (aN X.mg x) i ts th):=by
 subst hK;exact ⟨ZW hg c.at_ c.cl.cls hdb hN hi hl (fun x=>(hsu x).run) hr.run⟩
theorem Z0 {b0:Stmt} {suite:List Stmt} (hK:X.K=K) (c:La K X.mg x) (hg:Gl X x) (hdb:(x == ("__debug__":Str))=false)
  (hsu:∀ x,JB (X.sui x) (b0 :: suite) ts) (hr:JH X hs th):JH X (.ExceptHandler (some (.Name x p)) none (b0 :: suite) pos :: hs) (hNo K (aN X.mg x) ts th):=by
 subst hK;exact ⟨ZX hg c.at_ c.cl.cls hdb (fun x=>(hsu x).run) hr.run⟩
theorem Xl {body:List Stmt} {h0:ExceptHandler} {tb:(St->XK)->TS} (hst:X.stack=X.env :: X.outer) (hfr:X.env.frame=some X.env.locals) (hb:∀ (pins:List (Addr×Obj)) (R:St->XK),JB (X.bod pins R) body (tb R)) (hh:JH X (h0 :: hs) th):
  JS X (.Try body (h0 :: hs) [] [] pos) (Xh tb th):=⟨Xi hst hfr (fun pins R=>(hb pins R).run) hh.run⟩
end
section
variable {P:Program} {w:World} {K:W.Frag} {mg:Str->Option Value} {base:Heap}
theorem Z1 {x:Str} {st:Stmt} {N ps:List Str} {k:Nat} {sp:Sp} (D:dM K mg x st) (S:aG N ps (aB st))
  (hb:∀ (kV doc pm:Value) (an:Option Addr) (cdv ct:Value) (us:List Value),us.length=ps.length->bindArgs (PySem.W.fnOf x x (eZ st) (bU st) (aB st) .none kV doc pm an cdv ct) ⟨us,[]⟩=pure (ps.zip us))
  (len:∀ vs H Q E,sp vs H Q E->vs.length=ps.length)
  (hbody:∀ (f:Addr) (cdv:Value) (A:Around) (outer:List Env) (s:Shared) (H:Hp) (vs:List V) (Q:VK) (E:XK),Room k (A.deeper (envOfC x (aB st) s.heap.objs.size f cdv))->sp vs H Q E->
   ∃ t,JB (qz (K7 P w) P w K mg base N x (aB st) f cdv A outer s H E) (bU st) t/\t {nx:=fun _ H'=>Q .non H',rt:=Q} (start N vs) H):R9 P w K mg base (k+1) x ps sp:=by
 obtain ⟨f,fd,F,hm⟩:=D;refine ⟨f,fd,hm,F.kp,F.binds hb,?_⟩;obtain ⟨oc,od,kV,doc,pm,an,cdv,ct,osl,rfl,lk,hcd⟩:=F.ex;exact Ec lk hcd S len fun A outer s H vs Q E hr h=>let ⟨t,j,q⟩:=hbody f cdv A outer s H vs Q E hr h;⟨t,j.run,q⟩
theorem mkX {x qual:Str} {st:Stmt} {N ps:List Str} {fl:List Str} {k:Nat} (D:o5 K mg x fl qual st) (S:aG N ps (aB st))
  (hb:∀ (kV doc pm:Value) (an:Option Addr) (cdv ct:Value) (us:List Value),us.length=ps.length->bindArgs (PySem.W.fnOf "__init__" qual (eZ st) (bU st) (aB st) .none kV doc pm an cdv ct) ⟨us,[]⟩=pure (ps.zip us))
  (hl:ps.length=fl.length+1)
  (hbody:∀ (f:Addr) (cdv:Value) (A:Around) (outer:List Env) (s:Shared) (H:Hp) (vs:List V) (Q:VK) (E:XK),Room k (A.deeper (envOfC qual (aB st) s.heap.objs.size f cdv))->Ck (aN mg x) fl vs H Q E->
   ∃ t,JB (qz Kz P w K mg base N qual (aB st) f cdv A outer s H E).nox (bU st) t/\t {nx:=fun _ H'=>Q .non H',rt:=Q} (start N vs) H):ZV P w K mg base (k+1) x (aN mg x) fl:=by
 obtain ⟨f,fd,a,b,F⟩:=D.ini;refine ⟨D.c.at_,D.c.cl,D.kp,D.na,f,fd,ps,a,b,F.binds hb,F.ok S (fun vs H Q E h=>?_) fun cdv A outer s H vs Q E hr h=>let ⟨t,j,q⟩:=hbody f cdv A outer s H vs Q E hr h;⟨t,j.run,q⟩⟩;obtain ⟨y,ws,rfl,hw,_⟩:=h;rw [Aba,hw,hl]
end
def initOf:Stmt->Stmt
 | .ClassDef _ _ _ (s :: _) _ _ _ _ _ _ _=>s
 | s=>s
section
variable {U:St} {H:Hp} {D:Ends} {Q:VK} {sp:Sp} {R:St->XK} {a:TA} {K:W.Frag} {C P:Addr} {fl:List Str} {th:TH} {ts:TS} {i:Nat} {ta:TE} {f:Str}
theorem bF (h:a U H fun vs H1=>sp vs H1 Q (R U)):Hf sp R a U H Q:=h
theorem gf {tb:(St->XK)->TS} (h:tb (fun U' c x H'=>∃ C a,c= .ref C/\x=some a/\th D U' a C H') D U H):Xh tb th D U H:=h
theorem bG (h:a U H fun vs H1=>vs.length=fl.length/\vs.length<=sizeLine/\∀ x H2,Same H1 H2->Q8 H2 x C (fl.zip vs)->R U (.ref C) (some x) H2):Hg C fl R a D U H:=h
theorem dm (h:ta U H fun x H1=>∃ a C fs v,x= .ref a/\Q8 H1 a C fs/\XCls K C/\NoAttr K C f/\fs.lookup f=some v/\Q v H1):O8 K ta f U H Q:=h
theorem Z2 {x C:Addr} (c:XCls K C) (m:PySem.W.mroIn K C (.ref P)=some true) (h:ts (D.gone i) (U.set i (some (.ref x))) H):hAs K P i ts th D U x C H:=⟨true,c,m,by rw [if_pos rfl];exact h⟩
theorem Xm {x v:V} {t c:Value} {b:Bool} (ty:TyOf K H x t) (e:ZS v=some c) (o:PySem.W.kitOne K t c=some b) (h:Q (.bl b) H):Fb K [x,v] H Q:=⟨x,t,b,.inl ty,.inl ⟨v,c,rfl,e,o⟩,h⟩
theorem Ph {x C:Addr} {v:V} {c:Value} {fs:List (Str×V)} {b:Bool} (ex:Q8 H x C fs) (cl:R8 K C) (e:ZS v=some c) (o:PySem.W.kitOne K (.ref C) c=some b) (h:Q (.bl b) H):Fb K [.ref x,v] H Q:=
 ⟨.ref x,.ref C,b,.inr ⟨x,C,fs,rfl,ex,cl,rfl⟩,.inl ⟨v,c,rfl,e,o⟩,h⟩
theorem Cm {x:V} {t:Value} {p:Addr} {vs:List V} {cs:List Value} {b:Bool} (ty:TyOf K H x t) (hp:H p=some (.tup vs)) (e:O3 vs=some cs) (o:PySem.W.kitAny K t cs=some b) (h:Q (.bl b) H):Fb K [x,.ref p] H Q:=
 ⟨x,t,b,.inl ty,.inr ⟨p,vs,cs,rfl,hp,e,o⟩,h⟩
theorem rd1 {f1 p0 p1:Str} {vs:List V} {E:XK} (c:XCls K C) (n:NoAttr K C f1) (h:Ck C [f1] vs H Q E):O7 K (tY 0) (tY 1) f1 {nx:=fun _ H'=>Q .non H',rt:=Q} (start [p0,p1] vs) H:=by
 obtain ⟨x,ws,rfl,hw,hx,q⟩:=h
 match ws,hw with
 | [v],_=>exact ⟨v,rfl,.ref x,rfl,x,C,rfl,c,n,.inl ⟨hx,fun d hd ne=>q d hd ne⟩⟩
end
def zL (z:Str) (lo hi:Option Int) (c:Int):Str:=⟨((Builtin.Str.strSliceIndices lo hi c z.length).filterMap (z.cps[·]?)).toArray⟩
def Xn (te:TE) (tl th ts:TO):TE:=fun U H Q=>te U H fun x H1=>tl U H1 fun l H2=>th U H2 fun u H3=>ts U H3 fun c H4=>∃ z c',x= .str z/\c=some c'/\c'≠0/\c'≠1/\(zL z l u c').length<=sizeLine/\Q (.str (zL z l u c')) H4
def Mq:Option Int->Tok->Option (Int×Tok)
 | none,_=>none
 | some i,t=>some (i,t)
theorem ue {v:Value} {l:Option Int} (h:IsPart v l):∃ t,v=partValue (Mq l t):=by
 cases h with
 | none=>exact ⟨0,rfl⟩
 | int i t=>exact ⟨t,rfl⟩
theorem Jf (l:Option Int) (t:Tok):(Mq l t).map (·.1)=l:=by cases l <;> rfl
section
variable {X:Cx} {e:Expr} {te:TE} {lo hi:Option Expr} {st:Expr} {tl th ts:TO} {pos p2:Pos}
theorem Lb (he:PE X e te) (hl:PO X lo tl) (hu:PO X hi th) (hs:PO X (some st) ts):PE X (.Subscript e (.Slice lo hi (some st) p2) pos) (Xn te tl th ts):=by
 intro pins s U H Q I h;refine Subscript_ (d7 (he pins s U H _ I h) fun v s1 qq0=>?_);obtain ⟨x,H1,I1,r1,q1⟩:=qq0;refine wpAny_Slice (d7 (hl pins s1 U H1 _ I1 q1) fun vl s2 ⟨l,H2,I2,pl,q2⟩=>d7 (hu pins s2 U H2 _ I2 q2) fun vu s3 ⟨u,H3,I3,pu,q3⟩=>d7 (hs pins s3 U H3 _ I3 q3) fun vc s4 qq0=>?_);obtain ⟨c,H4,I4,pc,q4⟩:=qq0;obtain ⟨z,c',rfl,rfl,hc0,hc1,hz,q⟩:=q4;obtain ⟨t,rfl⟩:=r1;obtain ⟨t1,rfl⟩:=ue pl;obtain ⟨t2,rfl⟩:=ue pu;obtain ⟨t3,rfl⟩:=ue pc;have I5:Inv X pins U H4 {s4 with heap:=s4.heap.push {cls:=.type "slice",data:=.fields #[partValue (Mq l t1),partValue (Mq u t2),partValue (Mq (some c') t3)]}}:=I4.kept (t':=s4.toks) fun b ob q=>Aae _ q
 show wpAny (model X.prog X.w) X.A (subscriptTail e (.Slice lo hi (some st) p2) (.str z t) (.ref s4.heap.objs.size)) (EP X pins U Q) X.xe _;refine tail_any (T:="str") (ops:=[.str z t,.ref s4.heap.objs.size]) (typeIs_str _ _ _) F.slot_str_getitem.lookup ?_ (by with_unfolding_all rfl);refine Abv (l:=Mq l t1) (u:=Mq u t2) (st:=Mq (some c') t3) ⟨_,Aaq _ rfl,rfl,rfl⟩ (by show (c' == 0)=false;simpa using hc0) ?_;unfold sliceMade;have e1:(((Mq (some c') t3).map (·.1)).getD 1 == 1)=false:=by show (c' == 1)=false;simpa using hc1
 rw [e1,Bool.false_and,if_neg Aak]
 have e2:(⟨((slicePicked z (Mq l t1) (Mq u t2) (Mq (some c') t3)).filterMap (z.cps[·]?)).toArray⟩:Str)=zL z l u c':=by
  unfold slicePicked zL;rw [Jf,Jf];rfl
 rw [e2];exact ⟨hz,⟨.str _,H4,I5.tok _,⟨_,rfl⟩,q⟩⟩
theorem o6 (he:JE X e te) (hl:JO X lo tl) (hu:JO X hi th) (hs:JO X (some st) ts):JE X (.Subscript e (.Slice lo hi (some st) p2) pos) (Xn te tl th ts):=⟨Lb he.run hl.run hu.run hs.run⟩
theorem Jg:JE X (.Dict [] [] pos) G5:=⟨NZ⟩
end
section
variable {U:St} {H:Hp} {Q:VK} {te:TE}
theorem gj {tl th ts:TO} (h:te U H fun x H1=>tl U H1 fun l H2=>th U H2 fun u H3=>ts U H3 fun c H4=>∃ z c',x= .str z/\c=some c'/\c'≠0/\c'≠1/\(zL z l u c').length<=sizeLine/\Q (.str (zL z l u c')) H4):Xn te tl th ts U H Q:=h
theorem dq (h:∀ p,H p=none->Q (.ref p) (upd H p (.dK []))):G5 U H Q:=h
end
def Z3 (K:W.Frag) (neg:Bool):R2:=fun x y H Q=>∃ a b xs,x= .ref a/\y= .ref b/\SqL K H a xs/\SqL K H b xs/\(∀ v∈xs,oY v=true\/∃ r,v= .ref r)/\Q (.bl (!neg)) H
theorem Fe {v:V} (f:oY v=true):Ir v v=true:=by
 cases v <;> first | (cases f;done) | rfl | (simp [Ir])
section
variable {X:Cx}
theorem Xo (hu:X.A.units < cLine):OpR X (compareOp .Eq) (Z3 X.K false):=by
 intro pins s U H x y v u Q I rx ry h;obtain ⟨a,b,xs,rfl,rfl,ha,hb,fx,q⟩:=h;cases rx;cases ry;obtain ⟨its,r1,p1,z1⟩:=I.list ha;obtain ⟨jts,r2,p2,z2⟩:=I.list hb;have l1:its.toArray.size=xs.length:=by simpa using r1.length.symm
 have l2:jts.toArray.size=xs.length:=by simpa using r2.length.symm
 refine SeqAt.eq_listAt (e:=fun _=>true) p1.isList p2.isList (by rw [l1,l2]) hu (fun j h1 h2=>?_) ?_
 ·have hj:j < xs.length:=by omega
  obtain ⟨u1,e1,q1⟩:=r1.get (Aaa hj);obtain ⟨u2,e2,q2⟩:=r2.get (Aaa hj)
  have f1:its.toArray[j]=u1:=by
   obtain ⟨_,z⟩:=Aab.mp e1;simpa using z
  have f2:jts.toArray[j]=u2:=by
   obtain ⟨_,z⟩:=Aab.mp e2;simpa using z
  rw [f1,f2];rcases fx _ (Aa6 hj) with f | ⟨r,f⟩
  ·rw [← Fe f]
   exact BJ q1 q2 f f
  ·rw [f] at q1 q2
   cases (show u1=Value.ref r from q1);cases (show u2=Value.ref r from q2);exact SeqAt.EqAt.same _
 ·have e:(List.range its.toArray.size).all (fun _=>true)=true:=by simp
  rw [e];exact ⟨.bl true,H,I,rfl,q⟩
def Ss (K:W.Frag):R2:=fun x y H Q=>Oo K x y H Q\/Z3 K false x y H Q
theorem Xp {K:W.Frag} (hK:X.K=K) (hu:X.A.units+64 < cLine):OpR X (compareOp .Eq) (Ss K):=by
 subst hK;exact (Xc rfl hu).or (Xo (Nat.lt_of_le_of_lt (Ach _ _) hu))
end
section
variable {H:Hp} {Q:VK} {K:W.Frag}
theorem cz {i j:Int} (h:Q (.bl (decide (V.int i=V.int j))) H):Ss K (.int i) (.int j) H Q:=.inl (cj h)
theorem cC {i j:Str} (h:Q (.bl (decide (V.str i=V.str j))) H):Ss K (.str i) (.str j) H Q:=.inl (cu h)
end
end L2
namespace L2
open PySem PySem.Spec PyProof.Rows
open AutoSeq1 (wpAny_loadPart')
theorem Xq:isSubtype (.type "dict") (.type "dict")=pure true:=by rw [Acb];kernel_rfl
theorem Ld {prog:Program} {w:World} {A:Around} {E:Value->Shared->Prop} {s:Shared} {Q:Value->Shared->Prop} {a:Addr} {o:Obj} {e:DictEntry} {ep:Nat} {k:Key} (ho:s.heap.get? a=some o) (hc:o.cls= .type "dict") (hd:o.data= .dict #[e] ep)
  (hkey:(eY prog w).is k e.key=true) (hh:e.hash=(eY prog w).hash k) (hsm:(a == sysModules)=false) (hu:A.units < cLine) (h:Q (.bool true) s):wpAny (model prog w) A (compareOp .Eq (.ref a) (.ref a)) Q E s:=by
 show wpAny _ _ (richCompare .Eq (.ref a) (.ref a)) _ _ _;refine wpAny_richCompare_same_room ⟨o,ho,hc⟩ ⟨o,ho,hc⟩ F.slot_dict_eq (Aca (Ace F.slot_dict_eq.plain F.entry_dict_eq (F.slot_dict_eq.check _ _ _ _ _ _ _ _ ⟨o,ho,hc⟩ (F.args_dict_eq_2 _ _) ?_))) hu
 have ko:KeysOf (eY prog w) #[e]:=fun x hx=>by
  simp at hx;subst hx;exact ⟨k,hkey,hh⟩
 have f2:=Xq;obtain ⟨hp,g,d,tk,os⟩:=s;have hT:(⟨hp,g,d,tk,os⟩:Shared).TypeIs (.ref a) "dict":=⟨_,ho,hc⟩;unfold Builtin.«dict.__eq__»
 wp_walk using wpAny_loadPart' ho
 have en:∀ (Q:Array DictEntry->Shared->Prop) (E:Value->Shared->Prop),Q #[e] ⟨hp,g,d,tk,os⟩->wpAny (model prog w) A.in1 (dictEntries a) Q E ⟨hp,g,d,tk,os⟩:=fun Q E q=>by
  unfold dictEntries;refine gV (Ab9 ho ?_);simp only [hd];exact Aag q
 have eo:∀ (Q:Nat->Shared->Prop) (E:Value->Shared->Prop),Q ep ⟨hp,g,d,tk,os⟩->wpAny (model prog w) A.in1 (dictEpoch a) Q E ⟨hp,g,d,tk,os⟩:=fun Q E q=>by
  unfold dictEpoch;refine gV (Ab9 ho ?_);simp only [hd];exact Aag q
 simp only [hd];refine Aag ?_;refine gV (en _ _ ?_);rw [if_neg (by simp)];refine gV (eo _ _ ?_);refine gV ?_;rw [Std.Legacy.Range.forIn_eq_forIn_range'];simp only [Std.Legacy.Range.size,Nat.sub_zero,Nat.add_sub_cancel,Nat.div_one];show wpAny _ _ (forIn [0] _ _) _ _ _;rw [List.forIn_cons];refine gV (gV (en _ _ ?_));show wpAny _ _ (holding [e.key,e.val] _ >>=_) _ _ _;refine gV (Aa5 ?_);refine gV (show wpAny (model prog w) A.in1 (dictFind a e.key e.hash) _ _ _ from ?_);rw [hh];refine wpAny_dictFind_of hkey ho hd ko ?_;have fi:(#[e]:Array DictEntry).findIdx? (fun e=>(eY prog w).is k e.key)=some 0:=by simp [hkey]
 rw [fi];refine gV (en _ _ ?_);show wpAny _ _ (holding [e.val] (eqBool e.val e.val)) _ _ _;refine Aa5 (SeqAt.EqAt.same e.val prog w _ _ ?_);rw [if_neg (by simp)];refine gV (eo _ _ ?_);rw [if_neg (by simp)];refine Aag ?_;show wpAny _ _ (forIn [] _ _) _ _ _;rw [List.forIn_nil];refine Aag (Aag ?_);exact Aag ⟨(fun z=>nomatch z),h⟩
section
variable {X:Cx}
def Ve (K:W.Frag):R2:=fun x y H Q=>∃ a b xs,x= .ref a/\y= .ref b/\SqT K H a xs/\SqT K H b xs/\(∀ v∈xs,oY v=true\/∃ r,v= .ref r)/\Q (.bl true) H
theorem Su (hu:X.A.units < cLine):OpR X (compareOp .Eq) (Ve X.K):=by
 intro pins s U H x y v u Q I rx ry h;obtain ⟨a,b,xs,rfl,rfl,ha,hb,fx,q⟩:=h;cases rx;cases ry;obtain ⟨its,r1,p1,z1⟩:=I.tuple ha;obtain ⟨jts,r2,p2,z2⟩:=I.tuple hb;have l1:its.toArray.size=xs.length:=by simpa using r1.length.symm
 have l2:jts.toArray.size=xs.length:=by simpa using r2.length.symm
 refine SeqAt.eq_tupleAt (e:=fun _=>true) p1 p2 hu (fun j h1 h2=>?_) ?_
 ·have hj:j < xs.length:=by omega
  obtain ⟨u1,e1,q1⟩:=r1.get (Aaa hj);obtain ⟨u2,e2,q2⟩:=r2.get (Aaa hj)
  have f1:its.toArray[j]=u1:=by
   obtain ⟨_,z⟩:=Aab.mp e1;simpa using z
  have f2:jts.toArray[j]=u2:=by
   obtain ⟨_,z⟩:=Aab.mp e2;simpa using z
  rw [f1,f2];rcases fx _ (Aa6 hj) with f | ⟨r,f⟩
  ·rw [← Fe f]
   exact BJ q1 q2 f f
  ·rw [f] at q1 q2
   cases (show u1=Value.ref r from q1);cases (show u2=Value.ref r from q2);exact SeqAt.EqAt.same _
 ·have e:((List.range (min its.toArray.size jts.toArray.size)).all (fun _=>true) && its.toArray.size == jts.toArray.size)=true:=by rw [l1,l2];simp
  rw [e];exact ⟨.bl true,H,I,rfl,q⟩
def Vf:R2:=fun x y H Q=>∃ a k v,x= .ref a/\y= .ref a/\H a=some (.dK [(k,v)])/\Q (.bl true) H
theorem Sv (hu:X.A.units < cLine):OpR X (compareOp .Eq) Vf:=by
 intro pins s U H x y v u Q I rx ry h;obtain ⟨a,k,z,rfl,rfl,ha,q⟩:=h;cases rx;cases ry;obtain ⟨_,hsm,vs,kv,o,es,ep,h1,h2,h3,h4,h5,h6⟩:=(show ObjOk X.prog X.w H s.heap a (.dK [(k,z)]) from I.hok a _ ha);cases kv with
 | cons a1 a2=>
  cases a2;obtain ⟨l⟩:=es;dsimp only at h5;cases h5 with
  | @cons en _ _ _ p1 p2 p3=>
   cases p3;obtain ⟨k',b1,b2⟩:=h4 en (by simp);exact Ld (e:=en) h1 h2.1 h3 b1 b2 hsm hu ⟨.bl true,H,I,rfl,q⟩
def Xr (K:W.Frag):R2:=fun x y H Q=>Ss K x y H Q\/Ve K x y H Q\/Vf x y H Q
theorem fH {K:W.Frag} (hK:X.K=K) (hu:X.A.units+64 < cLine):OpR X (compareOp .Eq) (Xr K):=by
 subst hK;exact (Xp rfl hu).or ((Su (Nat.lt_of_le_of_lt (Ach _ _) hu)).or (Sv (Nat.lt_of_le_of_lt (Ach _ _) hu)))
end
section
variable {H:Hp} {Q:VK} {K:W.Frag}
theorem bH {U:St} {r r':R2} {ta tb tc:TE} (h:ta U H fun x H1=>tb U H1 fun y H2=>r x y H2 fun z H3=>∃ k,z= .bl k/\if k=true then tc U H3 fun w H4=>r' y w H4 Q else Q (.bl false) H3):yj r r' ta tb tc U H Q:=h
theorem dw {i j:Int} (h:Q (.bl (decide (V.int i=V.int j))) H):Xr K (.int i) (.int j) H Q:=.inl (cz h)
theorem dz {i j:Str} (h:Q (.bl (decide (V.str i=V.str j))) H):Xr K (.str i) (.str j) H Q:=.inl (cC h)
end
end L2
namespace L2
open PySem PySem.Spec PyProof.Rows PySem.SeqAt
theorem cps_append (a b:Str):(a ++ b).cps.toList=a.cps.toList ++ b.cps.toList:=by
 show (a.cps ++ b.cps).toList=_;rw [Array.toList_append]
theorem Sw (lo hi:Option Int) (n:Nat):Builtin.Str.strSliceIndices lo hi 1 n=(List.range (HT.sIx n n hi - HT.sIx n 0 lo)).map fun k=>HT.sIx n 0 lo+k:=by
 have c:∀ (i:Int) (d:Nat),max 0 (min (if i < 0 then i+(n:Int) else i) (n:Int))=((HT.sIx n d (some i):Nat):Int):=by
  intro i d;rw [← HT.clip_eq]
  split <;> omega
 have key:∀ a b:Nat,(List.range (if (a:Int) < (b:Int) then ((b:Int) - a+1 - 1) / 1 else 0).toNat).map (fun k:Nat=>((a:Int)+1*(k:Int)).toNat)=(List.range (b - a)).map fun k=>a+k:=by
  intro a b;have e3:(if (a:Int) < (b:Int) then ((b:Int) - a+1 - 1) / 1 else 0).toNat=b - a:=by split <;> omega
  rw [e3];refine AbO fun k _=>?_
  omega
 unfold Builtin.Str.strSliceIndices sliceRange;simp only [show (1:Int) > 0 by decide,if_true];cases lo with
 | none=>
  cases hi with
  | none=>exact key 0 n
  | some j=>rw [← key,← c j n];rfl
 | some i=>
  cases hi with
  | none=>rw [← key,← c i 0];rfl
  | some j=>rw [← key,← c i 0,← c j n]
theorem Vg {α β:Type} {f:α->Option β} {g:α->β}:∀ (l:List α),(∀ k∈l,f k=some (g k))->l.filterMap f=l.map g
 | [],_=>rfl
 | k :: l,h=>by rw [Aby,h k (by simp),AaW,Vg l fun j hj=>h j (Aap _ hj)]
theorem Le (l:List Nat) (a m:Nat) (h:a+m<=l.length):((List.range m).map fun k=>a+k).filterMap (fun i=>l[i]?)=(l.drop a).take m:=by
 rw [List.filterMap_map,Vg (g:=fun k=>l.getD (a+k) 0)]
 ·refine AbJ fun i=>?_
  rw [Aah,List.getElem?_take];by_cases hi:i < m
  ·rw [if_pos hi,Aat hi,AbE,Aaa (by omega)]
   simp [Aaa (show a+i < l.length by omega)]
  ·rw [if_neg hi,AaY (by simp;omega)];rfl
 ·intro k hk
  have hk:=AaA.mp hk;show l[a+k]?=_;rw [Aac,Aaa (by omega)];rfl
theorem Ay (z:Str) (lo hi:Option Int):(Txt.slice z lo hi).cps.toList=(z.cps.toList.drop (HT.sIx z.length 0 lo)).take (HT.sIx z.length z.length hi - HT.sIx z.length 0 lo):=by
 have hn:z.cps.toList.length=z.length:=by simp [Str.length]
 have la:=HT.sIx_le z.length 0 (Abb _) lo;have lb:=HT.sIx_le z.length z.length (Aad _) hi;unfold Txt.slice;rw [Sw];generalize HT.sIx z.length 0 lo=a at la ⊢;generalize HT.sIx z.length z.length hi=b at lb ⊢
 split
 ·rename_i h
  simp at h
  have ha:a=0:=by
   rcases Nat.eq_zero_or_pos z.length with h0 | h0
   ·omega
   ·omega
  subst ha;rw [List.drop_zero,AaU (by omega)]
 ·show List.filterMap (fun x=>z.cps[x]?) _=_
  have e:(fun x:Nat=>z.cps[x]?)=fun x=>z.cps.toList[x]?:=by funext x;simp
  rw [e];by_cases h:a<=b
  ·exact Le _ a (b - a) (by omega)
  ·rw [show b - a=0 by omega];simp
theorem Pj (z:Str) (k:Nat):(Txt.slice z none (some (k:Int))).cps.toList=z.cps.toList.take k:=by
 rw [Ay,HT.sIx_none,HT.sIx_nat,List.drop_zero,Nat.sub_zero];have hn:z.cps.toList.length=z.length:=by simp [Str.length]
 by_cases h:k<=z.length
 ·rw [Nat.min_eq_left h]
 ·rw [Aci (by omega),AaU (by omega),AaU (by omega)]
theorem Hh (z:Str) (k:Nat):(Txt.slice z (some (k:Int)) none).cps.toList=z.cps.toList.drop k:=by
 rw [Ay,HT.sIx_none,HT.sIx_nat];have hn:z.cps.toList.length=z.length:=by simp [Str.length]
 by_cases h:k<=z.length
 ·rw [Nat.min_eq_left h,AaU (by rw [AbS];omega)]
 ·rw [Aci (by omega),AbW (by omega),AbW (by omega)];simp
theorem Hi {n:Nat}:∀ {ds:List PyData},(∀ d∈ds,d.canLay0=true/\d.depth<=n)->PyData.canLayAll0 ds=true/\PyData.depthAll ds<=n
 | [],_=>⟨rfl,by simp [PyData.depthAll]⟩
 | d :: ds,h=>by
  obtain ⟨a,b⟩:=Hi fun e he=>h e (Aap _ he)
  obtain ⟨c,e⟩:=h d (by simp);rw [PyData.canLayAll0,PyData.depthAll,a,c];exact ⟨rfl,by omega⟩
theorem yK {n:Nat} {ds:List PyData} (h:∀ d∈ds,d.canLay0=true/\d.depth<=n):(PyData.list ds).canLay0=true/\(PyData.list ds).depth<=n+1:=by
 obtain ⟨a,b⟩:=Hi h;rw [PyData.canLay0,PyData.depth];exact ⟨a,by omega⟩
theorem Lf {n:Nat} {ds:List PyData} (h:∀ d∈ds,d.canLay0=true/\d.depth<=n):(PyData.tuple ds).canLay0=true/\(PyData.tuple ds).depth<=n+1:=by
 obtain ⟨a,b⟩:=Hi h;rw [PyData.canLay0,PyData.depth];exact ⟨a,by omega⟩
theorem Sy (s:Int):(PyData.int s).canLay0=true/\(PyData.int s).depth<=0:=by simp [PyData.canLay0,PyData.depth]
theorem uf {d:PyData} {n:Nat} (h:d.canLay0=true/\d.depth<=n) (hn:n<=64):shaped d=true:=by
 unfold shaped;rw [h.1,Aar (by omega)];rfl
theorem yL {xs:List V} {H:Hp} {R:Addr->Prop} (c:Nat.ble xs.length 64=true) (h:∀ p,H p=none->R p):xs.length<=sizeLine/\∀ p,H p=none->R p:=
 ⟨Aay (Nat.le_of_ble_eq_true c) (by decide),h⟩
theorem gn {A B:Prop} (h:A):if (!false)=true then A else B:=(if_pos (show (!false)=true from rfl)).mpr h
theorem gq {A B:Prop} (h:B):if (!true)=true then A else B:=by rw [if_neg (by simp)];exact h
theorem Pk {t u:TS} {D:Ends} {U:St} {H:Hp} (M:St->Hp->Prop) (h1:∀ U H,M U H->u D U H) (h2:∀ N,(∀ U H,M U H->N U H)->t {D with nx:=N} U H):Ri t u D U H:=h2 _ h1
theorem Z4 {α:Type} {xs:List α} {n:Nat} {v:α} (h:xs.length=n+1) (e:xs[n]?=some v):zE xs (-1)=some v:=by
 unfold zE Ku;rw [h,if_neg (by omega),if_pos (by omega)];show xs[((-1:Int)+((n+1:Nat):Int)).toNat]?=some v;rw [show ((-1:Int)+((n+1:Nat):Int)).toNat=n by omega];exact e
end L2
namespace L2
open PySem PySem.Spec PyProof.Rows PySem.SeqAt
open AutoSeq1 (wpAny_loadPart')
end L2
namespace L2
open PySem PySem.Spec PyProof.Rows
def Vh:List V->Hp->VK->Prop:=fun xs H Q=>(∃ i j,xs=[.int i,.int j]/\Q (.int (if j > i then j else i)) H)\/∃ (p:Addr) (ns:List Int),xs=[.ref p]/\H p=some (.lst (ns.map V.int))/\ns≠[]/\∀ M,M∈ns->(∀ a∈ns,a<=M)->Q (.int M) H
section
variable {X:Cx}
theorem v7 (hc:X.calm=true):CallR X (.builtin "max") Vh:=by
 intro pins s U H xs us Q I r h;rcases h with h | ⟨p,ns,rfl,hp,hne,q⟩
 ·exact sy hc pins s U H xs us Q I r h
 ·obtain ⟨u,rfl,ru⟩:=vals1 r
  cases ru;obtain ⟨hz,its,n,rv,g⟩:=I.hok p _ hp;have hi:IntsAre its ns:=intsAre_of rv;have hl:=rv.length;obtain ⟨ys,ey⟩:=hi.allInts.items;have hn:=hi.numsOf
  have hsz:0 < ys.size:=by
   have e1:=congrArg Array.size ey;have:0 < ns.length:=List.length_pos_iff.mpr hne;rw [Aaf] at hl;simp [intItems] at e1;omega
  have hL:s.heap.IsList p (intItems ys):=⟨_,g,rfl,n,by rw [← ey]⟩;have en:ys.toList.map (·.1)=ns:=by rw [← nums_intItems,← ey,← hn]
  refine max_intList (I.ok.hd hc) hL hsz fun v h' tk hv hk=>?_
  obtain ⟨t,rfl⟩:=intItems_at hv;obtain ⟨h1,h2⟩:=argBest_gt (numAt ys) (ys.size - 1);refine ⟨.int _,H,I.kept hk,⟨t,rfl⟩,q _ ?_ fun a ha=>?_⟩
  ·rw [← en,numAt_eq];exact getD_mem (by rw [Aaf,AaG];omega)
  ·rw [← en] at ha
   obtain ⟨j,hj,rfl⟩:=mem_getD ha;rw [Aaf,AaG] at hj;rw [← numAt_eq];exact h2 j (by omega)
theorem yM {i:Nat} {x:Str} {e:Expr} {te:TE} {op:Operator} {r:R2} {pos pos':Pos} (hN:X.N.Nodup) (hi:X.N[i]?=some x) (hx:Loc X.env.scope x) (he:JE X e te) (ho:OpR X (inplaceOp op) r) (hf:X.fn x=true):
  JS X (.AugAssign (.Name x pos') op e pos) (Wb i te r):=⟨Wc hN hi hx he.run ho (.inl hf)⟩
end
section
variable {U:St} {H:Hp} {Q:VK} {D:Ends}
theorem tO {i:Nat} {te:TE} {r:R2} {v:V} (e:U[i]?=some (some v)) (h:te U H fun y H1=>r v y H1 fun z H2=>D.nx (U.set i (some z)) H2):Wb i te r D U H:=⟨v,e,h⟩
theorem Hj {p:Addr} {ns:List Int} (hp:H p=some (.lst (ns.map V.int))) (hn:ns≠[]) (h:∀ M,M∈ns->(∀ a∈ns,a<=M)->Q (.int M) H):Vh [.ref p] H Q:=.inr ⟨p,ns,rfl,hp,hn,h⟩
end
def Z5 (K:W.Frag):R2:=fun x y H Q=>RQ K x y H Q\/∃ a o,y= .ref a/\DGet H a x o/\Q (.bl o.isSome) H
def SM (K:W.Frag):R2:=fun x y H Q=>BW K x y H Q\/∃ a o,y= .ref a/\DGet H a x o/\Q (.bl (!o.isSome)) H
def vd:Gv:=fun o i v H R=>Ip o i v H R\/∃ a H4,o= .ref a/\DPut H a i v H4/\R H4
def Pq:V->List V->Hp->VK->Prop:=fun x vs H Q=>∃ (l:Addr) (ns:List Int) (k:Int),x= .ref l/\vs=[.int k]/\H l=some (.lst (ns.map V.int))/\ns.length<=1000/\(∀ x∈ns,0<=x/\x < 1000)/\k∈ns/\Q (.int (ns.idxOf k:Nat)) H
theorem wV:∀ {ns:List Int},(∀ x∈ns,0<=x/\x < 1000)->PyData.weightAll (ns.map PyData.int)<=12*ns.length/\PyData.canLayAll0 (ns.map PyData.int)=true/\PyData.depthAll (ns.map PyData.int)=0
 | [],_=>⟨by simp [PyData.weightAll],rfl,by simp [PyData.depthAll]⟩
 | n :: ns,h=>by
  obtain ⟨a,b,c⟩:=wV fun x hx=>h x (Aap _ hx)
  have hn:=h n (by simp)
  have hw:PyData.weight (.int n)<=11:=by
   rw [PyData.weight]
   split
   ·omega
   ·rename_i h0
    have h1:n.natAbs≠0:=fun z=>h0 (by simp;omega)
    have:n.natAbs.log2 < 10:=(Nat.log2_lt h1).mpr (by omega);omega
  rw [AaW,PyData.weightAll,PyData.canLayAll0,PyData.depthAll,b,c];refine ⟨by simp;omega,by simp [PyData.canLay0],by simp [PyData.depth]⟩
theorem Cp {ns:List Int} (hl:ns.length<=1000) (h:∀ x∈ns,0<=x/\x < 1000):PyData.layable0 (.list (ns.map PyData.int))=true:=by
 obtain ⟨a,b,c⟩:=wV h;unfold PyData.layable0;rw [PyData.canLay0,b,PyData.depth,c,PyData.weight,Aar (show 0+1<=64 by omega),Aar (show PyData.weightAll (ns.map PyData.int)<=2 ^ 20 by omega)];rfl
def yN (n0:List V->Hp->(Int->Int->Nat->Prop)->Prop) (ta:TA):TE:=fun U H Q=>ta U H fun vs H1=>n0 vs H1 fun lo c n=>∀ q,H1 q=none->Q (.ref q) (upd H1 q (.lst ((List.range n).map fun i:Nat=>V.int (lo+(i:Int)*c))))
def Z6:List V->Hp->(Int->Int->Nat->Prop)->Prop:=fun vs _ R=>∃ n:Nat,vs=[.int n]/\n<=1000000/\R 0 1 n
theorem Lg {lo c:Int} {n:Nat} {acc:Array Value} (h:ItemsOf (fun i v=>∃ t,v= .int (lo+i*c) t) acc n):Vals ((List.range n).map fun i:Nat=>V.int (lo+(i:Int)*c)) acc.toList:=by
 obtain ⟨h1,h2⟩:=h
 have key:∀ (k:Nat) (a:List Value) (b:Nat),a.length=k->(∀ (j:Nat) (v:Value),a[j]?=some v->∃ t,v= .int (lo+((b+j:Nat):Int)*c) t)->Vals ((List.range' b k).map fun i:Nat=>V.int (lo+(i:Int)*c)) a:=by
  intro k
  induction k with
  | zero=>intro a b hl _;cases a with
   | nil=>exact .nil
   | cons _ _=>simp at hl
  | succ k ih=>
   intro a b hl hh;cases a with
   | nil=>simp at hl
   | cons v a=>
    obtain ⟨t,e⟩:=hh 0 v (by simp);rw [List.range'_succ,AaW];refine .cons ⟨t,by simpa using e⟩ (ih a (b+1) (by simpa using hl) fun j v' e=>?_);obtain ⟨t,e⟩:=hh (j+1) v' (by simpa using e);exact ⟨t,by rw [e];congr 3;omega⟩
 rw [List.range_eq_range'];refine key n acc.toList 0 (by simpa using h1) fun j v e=>?_
 obtain ⟨t,e⟩:=h2 j v (by simpa using e);exact ⟨t,by rw [e];congr 3;simp⟩
section
variable {X:Cx}
theorem Pr:Y7 X "list.index" Pq:=by
 intro pins s U H x xs v us Q I rx r h;obtain ⟨l,ns,k,rfl,rfl,hl,hn,hb,hk,q⟩:=h;obtain ⟨u,rfl,t,rfl⟩:=vals1 r;cases rx;obtain ⟨hz,its,n,rv,g⟩:=I.hok l _ hl;exact index_list_ints (vs:=its) ⟨_,g,rfl,n,rfl⟩ (intsAre_of rv) (Cp hn hb) hk ⟨.int _,H,I.tok _,⟨_,rfl⟩,q⟩
theorem vf {pins:List (Addr×Obj)} {U:St} {H1:Hp} {s1:Shared} {Q:VK} {E:Value->Shared->Prop} {lo hi c:Int} {t u v:Tok} {tk n:Nat} (hc:X.calm=true) (I1:Inv X pins U H1 s1) (hs:Builtin.Range.small lo hi c=true) (hn:Builtin.Range.rangeSize lo hi c=(n:Int)) (hl:n<=1000000)
  (q:∀ q,H1 q=none->Q (.ref q) (upd H1 q (.lst ((List.range n).map fun i:Nat=>V.int (lo+(i:Int)*c))))):
  wpAny (model X.prog X.w) X.A (call (.type "list") [.ref s1.heap.objs.size]) (EP X pins U Q) E {s1 with heap:=s1.heap.push {cls:=.type "range",data:=.fields #[.int lo t,.int hi u,.int c v]},toks:=tk}:=by
 have I2:Inv X pins U H1 {s1 with heap:=s1.heap.push {cls:=.type "range",data:=.fields #[.int lo t,.int hi u,.int c v]},toks:=tk}:=I1.kept fun b o e=>Aae _ e
 refine call_list_range (n:=n) (I1.ok.hd hc) (IsRange.new ..) hs hn (by omega) fun h' tk' acc' c' hk hS hacc=>?_
 have hsl:n<=sizeLine:=Aay hl (by decide);exact ⟨.ref _,_,I2.laid (t':=tk') (o:=.lst ((List.range n).map fun i:Nat=>V.int (lo+(i:Int)*c))) hk (Aad _) ⟨by simpa using hsl,acc'.toList,c',Lg hacc,by simpa using hS⟩,rfl,q _ I2.fresh⟩
theorem Hk {a:Expr} {ta:TA} {p p2 p3 pos:Pos} (hc:X.calm=true) (hg:Gl X "list") (hm:X.mg "list"=none) (hg2:Gl X "range") (hm2:X.mg "range"=none) (ha:JA X [a] ta) (h:autoParam (notStar a=true) L2.auto4._auto_1):
  JE X (.Call (.Name "list" p) [.Call (.Name "range" p2) [a] [] p3] [] pos) (yN Z6 ta):=⟨by
 intro pins s U H Q I hq;refine AaZ (jF I hg hm jH (AaI (arg1 rfl (AaZ (jF I hg2 hm2 boot_range (AaI (d7 (ha.run p3 pins s U H _ I hq) fun us s1 qq0=>?_) (bW h) rfl)))) rfl rfl));obtain ⟨vs,H1,I1,r1,q1⟩:=qq0;obtain ⟨n,rfl,hn,q⟩:=q1;obtain ⟨u,rfl,t,rfl⟩:=vals1 r1;exact call_range_1 (vf hc I1 (small_one (by omega) (by omega) (by omega) (by omega)) (by rw [rangeSize_one];split <;> omega) hn q)⟩
theorem Pu {K:W.Frag} (hK:X.K=K) (hu:X.A.units+64 < cLine):OpR X (compareOp .In) (Z5 K):=(G8 hK).or (by
 intro pins s U H x y v u Q I rx ry h;obtain ⟨a,o,rfl,g,q⟩:=h;obtain rfl:u=Value.ref a:=ry;exact d_in (by omega) I g rx fun s3 I3=>⟨.bl o.isSome,H,I3,rfl,q⟩)
theorem Lh {K:W.Frag} (hK:X.K=K) (hu:X.A.units+64 < cLine):OpR X (compareOp .NotIn) (SM K):=(KY hK).or (by
 intro pins s U H x y v u Q I rx ry h;obtain ⟨a,o,rfl,g,q⟩:=h;obtain rfl:u=Value.ref a:=ry;exact RL (by omega) I g rx fun s3 I3=>⟨.bl (!o.isSome),H,I3,rfl,q⟩)
theorem pL (hu:X.A.units+64 < cLine):Rn X vd:=by
 intro pins s U H o i v ov iv u Q I ro ri rv h;rcases h with h | ⟨a,H4,rfl,g,q⟩
 ·exact set_list pins s U H o i v ov iv u Q I ro ri rv h
 ·obtain rfl:ov=Value.ref a:=ro
  exact KJ (by omega) I g ri rv fun s4 I4=>⟨H4,I4,q⟩
end
section
variable {U:St} {H:Hp} {Q:VK} {K:W.Frag}
theorem gK {n0:List V->Hp->(Int->Int->Nat->Prop)->Prop} {ta:TA} (h:ta U H fun vs H1=>n0 vs H1 fun lo c n=>∀ q,H1 q=none->Q (.ref q) (upd H1 q (.lst ((List.range n).map fun i:Nat=>V.int (lo+(i:Int)*c))))):yN n0 ta U H Q:=h
theorem SN {n:Nat} {R:Int->Int->Nat->Prop} (hn:n<=1000000) (h:R 0 1 n):Z6 [.int n] H R:=⟨n,rfl,hn,h⟩
theorem SQ {l:Addr} {ns:List Int} {k:Int} (hl:H l=some (.lst (ns.map V.int))) (hn:ns.length<=1000) (hb:∀ x∈ns,0<=x/\x < 1000) (hk:k∈ns) (h:Q (.int (ns.idxOf k:Nat)) H):Pq (.ref l) [.int k] H Q:=⟨l,ns,k,rfl,rfl,hl,hn,hb,hk,h⟩
theorem gM {x y:Str} (h:Q (.bl (!(Builtin.Str.occurrences y x 0 y.length 1).isEmpty)) H):Z5 K (.str x) (.str y) H Q:=.inl (fj h)
theorem vg {p:Addr} {xs:List V} {i:Int} {n:Nat} {v:V} {R:Hp->Prop} (hp:H p=some (.lst xs)) (e:Ku xs.length i=some n) (h:R (upd H p (.lst (xs.set n v)))):vd (.ref p) (.int i) v H R:=.inl (b7 hp e h)
end
end L2
namespace L2
open PySem PySem.Spec PyProof.Rows
open PySem.Sem (wp)
open PySem.AutoSeq1 (wpAny_loadPart')
end L2
namespace L2
open PySem PySem.Spec PyProof.Rows
end L2
namespace L2
open PySem PySem.Spec PyProof.Rows
open PySem.Sem (wp)
open PySem.AutoSeq1 (wpAny_loadPart')
end L2
namespace L2
open PySem PySem.Spec PyProof.Rows
end L2
namespace L2
open PySem PySem.Spec PyProof.Rows
open PySem.Sem (wp)
end L2
namespace L2
open PySem PySem.Spec PyProof.Rows
end L2
namespace L2
open PySem PySem.Spec PyProof.Rows
open PySem.Sem (wp)
end L2
namespace L2
open PySem PySem.Spec PyProof.Rows
open PySem.Sem (wp)
open AutoSeq1 (wpAny_loadPart')
end L2
namespace L2
open PySem PySem.W PySem.Spec PyProof.Rows
end L2
namespace L2
open PySem PySem.Spec PyProof.Rows
open PySem.Sem (wp)
end L2
namespace L2
open PySem PySem.Spec PyProof.Rows
open PySem.Sem (wp)
open PySem.AutoSeq1 (wpAny_loadPart')
end L2
namespace L2
open PySem PySem.Spec PyProof.Rows
open PySem.Sem (wp)
end L2
namespace L2
open PySem PySem.Spec PyProof.Rows
def YB (K:W.Frag) (a:Addr) (n:Nat):It:=
 ⟨fun i H=>i < n/\∃ xs,SqL K H a xs/\xs.length=n,
  fun i H v H'=>H'=H/\∀ xs,SqL K H a xs->xs[n - 1 - i]?=some v,
  fun i _=>i=n⟩
theorem Px {P:Program} {w:World} {K:W.Frag} {tg:Expr} {n:Nat} {it a:Addr} (hai:a≠it):
  Turn P w K tg (YB K a n) [it] it (fun i h=>i<=n/\h.IsRevIter it a ((n:Int) - 1 - (i:Int))) where
 mem:=by simp
 obj:=fun i h st c hc=>by
  obtain ⟨_,⟨o1,e1,c1,d1⟩⟩:=st;have e:c=it:=by simpa using hc
  subst e;exact ⟨_,e1,fun v z=>by rw [d1] at z;cases z⟩
 keep:=fun i h h' st kk=>⟨st.1,st.2.at fun o q=>kk it (by simp) o q⟩
 item:=by
  intro X hP hw hK hc i pins s U H E I hf st hg;subst hP hw hK;obtain ⟨hi,h1⟩:=st;obtain ⟨hlt,xs,hq,hlen⟩:=hg;obtain ⟨its,rv,p,_⟩:=I.list hq;have l1:=rv.length;obtain ⟨x,hx⟩:∃ x,xs[n - 1 - i]?=some x:=⟨_,Aaa (by omega)⟩;obtain ⟨u,hu,ru⟩:=rv.get hx;obtain ⟨f0,f1,f2,f3,f4,f5⟩:=hf it (by simp);have e:(n:Int) - 1 - (i:Int)=((n - 1 - i:Nat):Int):=by omega
  rw [e] at h1;refine wpAny_pyNext_rev_item h1 p.isList (x:=u) (by simpa using hu) fun h' st' sb=>?_
  have I1:Inv X pins U H {s with heap:=h'}:=I.turned (t':=s.toks) (fun b o hb e=>(sb.2 b hb).trans e) f0 f1 f3 f4 f5;obtain ⟨o,eo,c,d⟩:=id st';refine ⟨u,rfl,Ac (s:={s with heap:=h'}) eo c d (by decide) ⟨x,H,I1,ru,⟨rfl,fun ys hy=>by rw [I.list_inj hy hq];exact hx⟩,⟨hlt,?_⟩,fun b hb=>(hf b hb).1⟩⟩;have e2:((n - 1 - i:Nat):Int) - 1=(n:Int) - 1 - ((i+1:Nat):Int):=by omega
  rw [← e2];exact st'
 done:=by
  intro X hP hw hK hc i pins s U H E I hf st hg;subst hP hw hK;obtain ⟨hi,h1⟩:=st;have hin:i=n:=hg;subst hin;rw [show (i:Int) - 1 - (i:Int)= -1 by omega] at h1;obtain ⟨f0,f1,f2,f3,f4,f5⟩:=hf it (by simp);exact wpAny_pyNext_rev_end (I.ok.hd hc) h1 fun h' eb=>⟨rfl,I.turned (t':=s.toks) (fun b o hb e=>eb b o hb e) f0 f1 f3 f4 f5⟩
 self:=fun _ _ _ _ _ st h=>wpAny_pyIter_revIter st.2 h
structure j9 (K:W.Frag) (mg:Str->Option Value) (x:Str):Prop where
 at_:mg x=some (.ref (aN mg x))
 cl:Cls K (aN mg x)
 makes:PySem.W.makesIn K (aN mg x)=true
 kp:PySem.W.keepIn K (.ref (aN mg x))=true
def clsIn (K:W.Frag) (C:Addr):Bool:=PySem.W.plainGet K C Str.empty && PySem.W.hasDictIn K C && PySem.W.plainOver K C
theorem wW {K:W.Frag} {mg:Str->Option Value} {h:Heap} (X:K.In h) (G:h.Ns mainGlobals mg) {x:Str} {C:Addr} (a:PySem.W.nsIn K mainGlobals x=some (some (.ref C))) (b:clsIn K C=true)
  (s:PySem.W.findIn K (.ref C) "__setattr__"=some (some (.builtin "object.__setattr__"))) (m:PySem.W.makesIn K C=true) (k:PySem.W.keepIn K (.ref C)=true):j9 K mg x:=by
 have e0:=Aa2 X G a;have e:=gG e0;unfold clsIn at b;simp only [Aav] at b;exact ⟨by rw [e];exact e0,by rw [e];exact ⟨b.1.1,b.1.2,b.2,s⟩,by rw [e];exact m,by rw [e];exact k⟩
structure gU (K:W.Frag) (mg:Str->Option Value) (x m qual:Str) (st:Stmt):Prop where
 ex:∃ f fd,Meth K (aN mg x) m f/\Fun K m qual st f fd
theorem jK {K:W.Frag} {mg:Str->Option Value} {h:Heap} (X:K.In h) (G:h.Ns mainGlobals mg) {x m qual:Str} {C f:Addr} {st:Stmt} {oc:Value} {od an:Option Addr} {osl:Array (Option Value)} {kV doc pm cdv ct:Value}
  (a:PySem.W.nsIn K mainGlobals x=some (some (.ref C))) (i:PySem.W.findIn K (.ref C) m=some (some (.ref f))) (n:PySem.W.isFn K (.ref f)=true)
  (l:K.lookup f=some ⟨oc,od,.func (PySem.W.fnOf m qual (eZ st) (bU st) (aB st) .none kV doc pm an cdv ct),osl⟩) (c:PySem.W.codeIn K cdv qual=true) (k:PySem.W.keepIn K (.ref f)=true):gU K mg x m qual st:=by
 have e:=gG (Aa2 X G a);exact ⟨f,_,by rw [e];exact ⟨i,n,k⟩,yp l c k⟩
theorem wX {K:W.Frag} {mg:Str->Option Value} {h:Heap} (X:K.In h) (G:h.Ns mainGlobals mg) {x:Str} {C:Addr} {fl:List Str} (a:PySem.W.nsIn K mainGlobals x=some (some (.ref C))) (b:Pb K C fl=true):∀ f∈fl,NoAttr K (aN mg x) f:=fun n hn=>by
 rw [gG (Aa2 X G a)];have:=Abi.mp b n hn;first | exact Ab6 this | exact Abr.mp this | simpa using this
def iB (j:Nat):Stmt->Stmt
 | .ClassDef _ _ _ ss _ _ _ _ _ _ _=>ss.getD j (.Pass ⟨0,0,0,0⟩)
 | s=>s
def lD (P:Program) (w:World) (K:W.Frag) (mg:Str->Option Value) (base:Heap) (k:Nat) (x m:Str) (ps:List Str) (sp:Sp):Prop:=
 ∃ f fd,Meth K (aN mg x) m f/\Binds K fd ps []/\FnOk P w K mg base (K7 P w) k f fd ps sp
section
variable {P:Program} {w:World} {K:W.Frag} {mg:Str->Option Value} {base:Heap}
theorem pM {x m qual:Str} {st:Stmt} {N ps:List Str} {k:Nat} {sp:Sp} (D:gU K mg x m qual st) (S:aG N ps (aB st))
  (hb:∀ (kV doc pm:Value) (an:Option Addr) (cdv ct:Value) (us:List Value),us.length=ps.length->bindArgs (PySem.W.fnOf m qual (eZ st) (bU st) (aB st) .none kV doc pm an cdv ct) ⟨us,[]⟩=pure (ps.zip us))
  (len:∀ vs H Q E,sp vs H Q E->vs.length=ps.length)
  (hbody:∀ (f:Addr) (cdv:Value) (A:Around) (outer:List Env) (s:Shared) (H:Hp) (vs:List V) (Q:VK) (E:XK),Room k (A.deeper (envOfC qual (aB st) s.heap.objs.size f cdv))->sp vs H Q E->
   ∃ t,JB (qz (K7 P w) P w K mg base N qual (aB st) f cdv A outer s H E) (bU st) t/\t {nx:=fun _ H'=>Q .non H',rt:=Q} (start N vs) H):lD P w K mg base (k+1) x m ps sp:=by
 obtain ⟨f,fd,hm,F⟩:=D.ex;refine ⟨f,fd,hm,F.binds hb,?_⟩;obtain ⟨oc,od,kV,doc,pm,an,cdv,ct,osl,rfl,lk,hcd⟩:=F.ex;exact Ec lk hcd S len fun A outer s H vs Q E hr h=>let ⟨t,j,q⟩:=hbody f cdv A outer s H vs Q E hr h;⟨t,j.run,q⟩
end
def Cq (C:Addr) (m:Str) (sp:Sp) (R:St->XK) (ta:TE) (t:TA):TE:=fun U H Q=>ta U H fun x H1=>∃ a dx fs,x= .ref a/\H1 a=some (.ins C dx fs)/\fs.lookup m=none/\t U H1 fun vs H2=>sp (x :: vs) H2 Q (R U)
def Hl (C:Addr) (sp:Sp) (R:St->XK) (t:TA):TE:=fun U H Q=>t U H fun vs H1=>∀ x dx,H1 x=none->H1 dx=none->dx≠x->
 sp (.ref x :: vs) (upd (upd H1 dx (.own x)) x (.ins C dx [])) (fun v H2=>v= .non/\Q (.ref x) H2) (R U)
section
variable {X:Cx} {K:W.Frag} {k:Nat} {f C:Addr} {ps:List Str} {sp:Sp} {R:St->XK} {x m fn:Str} {p pos apos pos':Pos} {e o value:Expr} {es:List Expr} {ta tv:TE} {t:TA} {pins:List (Addr×Obj)} {U:St} {H:Hp} {s:Shared} {Q:VK} {us:List Value} {vs:List V}
theorem iU {pl:Sem Bool} (he:JE X o ta) (c:j9 X.K X.mg x) (F:lD X.prog X.w X.K X.mg X.base k x m ps sp) (hr:Room k X.A) (hx:lC X R) (ha:JA X (e :: es) t)
  (hs:autoParam ((e :: es).all notStar=true) L2.auto4._auto_1)
  (ht:eval (.Call (.Attribute o m apos) (e :: es) [] pos) X.env=(do
   let ov ← eval o X.env
   standAt apos.atName
   let (f,first) ← holding [ov] (getMethod ov m pl)
   callWith pos f first (backTo pos (starEach (e :: es) X.env)) (backToKw pos (keywordEach [] X.env))):=by rfl):
  JE X (.Call (.Attribute o m apos) (e :: es) [] pos) (Cq (aN X.mg x) m sp R ta t):=⟨by
 have h1:notStar e=true:=by simp only [AaX,Aav] at hs;exact hs.1
 have h2:es.all notStar=true:=by simp only [AaX,Aav] at hs;exact hs.2
 obtain ⟨f,fd,hm,hb,F⟩:=F;intro pins s U H Q I h;refine Ab4 (pl:=pl) (d7 (he.run pins s U H _ I h) fun u s1 qq0=>?_) ht;obtain ⟨x,H1,I1,rx,a,dx,fs,ex,ea,l,q⟩:=qq0;subst ex;obtain rfl:u=Value.ref a:=rx;refine tZ I1 ea c.cl hm l ?_;refine AbC (first:=[.ref a]) (h₀:=X.base) I.ok.mod.kin hm.kp (d7 (ha.run pos pins s1 U H1 _ I1 q) fun us s2 ⟨vs,H2,I2,r,q2⟩=>⟨I2.kIn,?_⟩) (bW h1) (oF h2);exact u6 (us:=.ref a :: us) (vs:=.ref a :: vs) F hr hb hx I2 (.cons rfl r) q2⟩
theorem yO {pl:Sem Bool} (he:JE X o ta) (c:j9 X.K X.mg x) (F:lD X.prog X.w X.K X.mg X.base k x m ps sp) (hr:Room k X.A) (hx:lC X R)
  (ht:eval (.Call (.Attribute o m apos) [] [] pos) X.env=(do
   let ov ← eval o X.env
   standAt apos.atName
   let (f,first) ← holding [ov] (getMethod ov m pl)
   callWith pos f first (backTo pos (starEach [] X.env)) (backToKw pos (keywordEach [] X.env))):=by rfl):
  JE X (.Call (.Attribute o m apos) [] [] pos) (Cq (aN X.mg x) m sp R ta Nq):=⟨by
 obtain ⟨f,fd,hm,hb,F⟩:=F;intro pins s U H Q I h;refine Ab4 (pl:=pl) (d7 (he.run pins s U H _ I h) fun u s1 qq0=>?_) ht;obtain ⟨x,H1,I1,rx,a,dx,fs,ex,ea,l,q⟩:=qq0;subst ex;obtain rfl:u=Value.ref a:=rx;refine tZ I1 ea c.cl hm l ?_;exact PySem.W.callWith_K0 (first:=[.ref a]) I1.kIn hm.kp (u6 (us:=[.ref a]) (vs:=[.ref a]) F hr hb hx I1 (.cons rfl .nil) q)⟩
theorem Li (c:j9 X.K X.mg x) (F:lD X.prog X.w X.K X.mg X.base k x "__init__" ps sp) (hr:Room (k+1) X.A) (hx:lC X R) (I:Inv X pins U H s) (r:Vals vs us)
  (h:∀ y dx,H y=none->H dx=none->dx≠y->sp (.ref y :: vs) (upd (upd H dx (.own y)) y (.ins (aN X.mg x) dx [])) (fun v H2=>v= .non/\Q (.ref y) H2) (R U)):
  wpAny (model X.prog X.w) X.A (call (.ref (aN X.mg x)) us) (EP X pins U Q) X.xe s:=by
 obtain ⟨f,fd,hm,hb,F⟩:=F;have hq:=h (s.heap.objs.size+1) s.heap.objs.size (I.hok.fresh (Nat.le_succ _)) (I.hok.fresh (Aad _)) (AaJ (AbR _));have I2:=Inv.made (C:=aN X.mg x) I;have r2:Vals (V.ref (s.heap.objs.size+1) :: vs) (Value.ref (s.heap.objs.size+1) :: us):=.cons rfl r
 have hl:((Value.ref (s.heap.objs.size+1) :: us) ++ []).length=ps.length:=by
  have e:=r2.length;rw [F.len _ _ _ _ hq] at e;rw [AaL];exact e.symm
 have bd:=hb _ (Value.ref (s.heap.objs.size+1) :: us) I2.kIn hl;rw [AaL] at bd
 refine Aca (Np (f:=f) I.kIn c.makes hm.at_ (Abr.mp hm.fn) (codeAny_mono (F.run _ X.stack _ _ ⟨Value.ref (s.heap.objs.size+1) :: us,[]⟩ (Value.ref (s.heap.objs.size+1) :: us) _ _ (R U) (hr.make (aN X.mg x) us [])
  (I2.env0.make (aN X.mg x) us []) bd r2 hq) fun r s' hq'=>?_))
 cases r with
 | error e=>exact hx pins e s' (Jc I2 hq')
 | ok fl=>
  cases fl with
  | ret u=>
   obtain ⟨v,H',I3,rv,ev,q3⟩:=I2.after hq';subst ev;exact ⟨rv,⟨V.ref (s.heap.objs.size+1),H',I3,rfl,q3⟩⟩
  | next=>exact False.elim hq'
  | brk=>exact False.elim hq'
  | cont=>exact False.elim hq'
theorem nZ (c:j9 X.K X.mg x) (F:lD X.prog X.w X.K X.mg X.base k x "__init__" ps sp) (hr:Room (k+1) X.A) (hg:Gl X x) (hx:lC X R) (ha:JA X (e :: es) t) (hdb:(x == ("__debug__":Str))=false) (h:autoParam ((e :: es).all notStar=true) L2.auto4._auto_1):
  JE X (.Call (.Name x p) (e :: es) [] pos) (Hl (aN X.mg x) sp R t):=⟨by
 have h1:notStar e=true:=by simp only [AaX,Aav] at h;exact h.1
 have h2:es.all notStar=true:=by simp only [AaX,Aav] at h;exact h.2
 intro pins s U H Q I h;refine AaZ (nP I hg c.at_ ?_ hdb);refine AbC (h₀:=X.base) I.ok.mod.kin c.kp (d7 (ha.run pos pins s U H _ I h) fun us s1 ⟨vs,H1,I1,r,q⟩=>⟨I1.kIn,?_⟩) (bW h1) (oF h2);exact Li c F hr hx I1 r q⟩
theorem jL (hK:X.K=K) (he:JE X e ta) (h:autoParam (uX e=true) L2.auto4._auto_1):JE X (.Attribute e fn pos) (Wj K ta fn):=by
 subst hK;exact ⟨Wm he.run (by cases e <;> first | rfl | cases h)⟩
theorem kI (hK:X.K=K) (ha:JE X o ta) (hv:JE X value tv) (h:autoParam (nR value=true) L2.auto4._auto_1):JS X (.Assign [.Attribute o fn pos'] value pos) (Wl K ta tv fn):=by
 subst hK;exact ⟨Wn ha.run hv.run (Es h)⟩
end
section
variable {U:St} {H:Hp} {D:Ends} {Q:VK} {sp:Sp} {R:St->XK} {a:TA} {K:W.Frag} {C:Addr} {ta tv:TE} {f m:Str}
theorem bI (h:ta U H fun x H1=>∃ b dx fs,x= .ref b/\H1 b=some (.ins C dx fs)/\fs.lookup m=none/\a U H1 fun vs H2=>sp (x :: vs) H2 Q (R U)):Cq C m sp R ta a U H Q:=h
theorem bJ (h:a U H fun vs H1=>∀ x dx,H1 x=none->H1 dx=none->dx≠x->sp (.ref x :: vs) (upd (upd H1 dx (.own x)) x (.ins C dx [])) (fun v H2=>v= .non/\Q (.ref x) H2) (R U)):Hl C sp R a U H Q:=h
theorem gw (h:ta U H fun x H1=>∃ a C dx fs v,x= .ref a/\H1 a=some (.ins C dx fs)/\Cls K C/\NoAttr K C f/\fs.lookup f=some v/\Q v H1):Wj K ta f U H Q:=h
theorem dB (h:tv U H fun y H1=>ta U H1 fun x H2=>∃ a C dx fs,x= .ref a/\H2 a=some (.ins C dx fs)/\Cls K C/\NoAttr K C f/\fs.length < 1000/\D.nx U (upd H2 a (.ins C dx (mL f y fs)))):Wl K ta tv f D U H:=h
end
section
variable {X:Cx} {mg:Str->Option Value} {o:Expr} {ta:TE} {t:TA} {x m:Str} {ps:List Str} {sp:Sp} {k:Nat} {R:St->XK} {e:Expr} {es:List Expr} {pos apos:Pos}
theorem yP {pl:Sem Bool} (hmg:X.mg=mg) (he:JE X o ta) (c:j9 X.K X.mg x) (F:lD X.prog X.w X.K X.mg X.base k x m ps sp) (hr:Room k X.A) (hx:lC X R) (ha:JA X (e :: es) t)
  (hs:autoParam ((e :: es).all notStar=true) L2.auto4._auto_1)
  (ht:eval (.Call (.Attribute o m apos) (e :: es) [] pos) X.env=(do
   let ov ← eval o X.env
   standAt apos.atName
   let (f,first) ← holding [ov] (getMethod ov m pl)
   callWith pos f first (backTo pos (starEach (e :: es) X.env)) (backToKw pos (keywordEach [] X.env))):=by rfl):
  JE X (.Call (.Attribute o m apos) (e :: es) [] pos) (Cq (aN mg x) m sp R ta t):=by
 subst hmg;exact iU he c F hr hx ha hs ht
theorem Py {p:Pos} (hmg:X.mg=mg) (c:j9 X.K X.mg x) (F:lD X.prog X.w X.K X.mg X.base k x "__init__" ps sp) (hr:Room (k+1) X.A) (hg:Gl X x) (hx:lC X R) (ha:JA X (e :: es) t) (hdb:(x == ("__debug__":Str))=false) (h:autoParam ((e :: es).all notStar=true) L2.auto4._auto_1):
  JE X (.Call (.Name x p) (e :: es) [] pos) (Hl (aN mg x) sp R t):=by
 subst hmg;exact nZ c F hr hg hx ha hdb h
end
section
variable {U:St} {H:Hp} {Q:VK}
def Xu (o:HO) (n:Nat) (H:Hp) (Q:VK):Prop:=n<=sizeLine/\∀ p,H p=none->Q (.ref p) (upd H p o)
theorem iw {a:TA} (h:a U H fun xs H1=>Xu (.lst xs) xs.length H1 Q):Rz a U H Q:=h
theorem iy {a:TA} (h:a U H fun xs H1=>Xu (.tup xs) xs.length H1 Q):Ry a U H Q:=h
theorem b8 {o:HO} {n:Nat} (c:Nat.ble n 64=true) (h:∀ p H',H p=none->Same H H'->H' p=some o->Q (.ref p) H'):Xu o n H Q:=
 ⟨Aay (Nat.le_of_ble_eq_true c) (by decide),fun p np=>h p _ np ((Same.refl H).upd np) aj⟩
end
section
variable {sub:List (Option Nat)} {g:TG} {tt:TT} {te:TE} {U:St} {Q:VK} {H:Hp} {K:W.Frag} {a:Addr} {xs:List V} {lo:Int} {n:Nat} {z:Str}
theorem Lj (Pv:Nat->List V->Hp->Prop) (hn:n<=sizeLine) (h0:Pv 0 [] H) (hl:∀ i ys H,Pv i ys H->ys.length<=i)
  (hs:∀ i ys H,i < n->Pv i ys H->g (.int (lo+i)) (eU sub U) H fun σ2 H2=>KeepSt (eU sub U) σ2/\tt σ2 H2 fun b H3=>if b=true then te σ2 H3 fun y H4=>Pv (i+1) (ys ++ [y]) H4 else Pv (i+1) ys H3)
  (hd:∀ ys H D H',Pv n ys H->H D=none->Same H H'->H' D=some (.lst ys)->Q (.ref D) H'):uU sub g tt te U Q (Mm lo n) H:=
 Eu Pv hn h0 hl hs fun ys H p D nD=>hd ys H D _ p nD ((Same.refl H).upd nD) aj
theorem iQ (Pv:Nat->List V->Hp->Prop) (hn:xs.length<=sizeLine) (h0:Pv 0 [] H) (hl:∀ i ys H,Pv i ys H->ys.length<=i) (hq:∀ i ys H,Pv i ys H->SqL K H a xs)
  (hs:∀ i ys H x,xs[i]?=some x->Pv i ys H->g x (eU sub U) H fun σ2 H2=>KeepSt (eU sub U) σ2/\tt σ2 H2 fun b H3=>if b=true then te σ2 H3 fun y H4=>Pv (i+1) (ys ++ [y]) H4 else Pv (i+1) ys H3)
  (hd:∀ ys H D H',Pv xs.length ys H->H D=none->Same H H'->H' D=some (.lst ys)->Q (.ref D) H'):uU sub g tt te U Q (UT K a) H:=
 K1 Pv hn h0 hl hq hs fun ys H p D nD=>hd ys H D _ p nD ((Same.refl H).upd nD) aj
theorem v8 (Pv:Nat->List V->Hp->Prop) (hn:z.cps.size<=sizeLine) (h0:Pv 0 [] H) (hl:∀ i ys H,Pv i ys H->ys.length<=i)
  (hs:∀ i ys H c,z.cps.toList[i]?=some c->Pv i ys H->g (.str ⟨#[c]⟩) (eU sub U) H fun σ2 H2=>KeepSt (eU sub U) σ2/\tt σ2 H2 fun b H3=>if b=true then te σ2 H3 fun y H4=>Pv (i+1) (ys ++ [y]) H4 else Pv (i+1) ys H3)
  (hd:∀ ys H D H',Pv z.cps.size ys H->H D=none->Same H H'->H' D=some (.lst ys)->Q (.ref D) H'):uU sub g tt te U Q (RP z) H:=
 Ew Pv hn h0 hl hs fun ys H p D nD=>hd ys H D _ p nD ((Same.refl H).upd nD) aj
theorem vh {f:Nat->V} {i:Nat} {y:V} (h:y=f i):(List.range i).map f ++ [y]=(List.range (i+1)).map f:=by rw [h,Abn,Aau];rfl
theorem v9 (f:Nat->V) (hn:n<=sizeLine)
  (hs:∀ i,i < n->g (.int (lo+i)) (eU sub U) H fun σ2 H2=>KeepSt (eU sub U) σ2/\tt σ2 H2 fun b H3=>if b=true then te σ2 H3 fun y H4=>H4=H/\(List.range i).map f ++ [y]=(List.range (i+1)).map f else H3=H/\(List.range i).map f=(List.range (i+1)).map f)
  (hd:∀ D H',H D=none->Same H H'->H' D=some (.lst ((List.range n).map f))->Q (.ref D) H'):uU sub g tt te U Q (Mm lo n) H:=by
 refine Lj (fun i ys H'=>H'=H/\ys=(List.range i).map f) hn ⟨rfl,rfl⟩ ?_ ?_ ?_
 ·rintro i ys H' ⟨_,rfl⟩
  simp
 ·rintro i ys H' hi ⟨rfl,rfl⟩
  exact hs i hi
 ·rintro ys H1 D H' ⟨rfl,rfl⟩ nD s e
  exact hd D H' nD s e
end
end L2
set_option maxHeartbeats 8000000
namespace L2
open PySem PySem.Spec PyProof.Rows
end L2
namespace L2
open PySem PySem.W PySem.Spec PyProof.Rows
end L2
namespace L2
open PySem PySem.Spec PyProof.Rows
theorem Az:Manifest.owners.lookup (String.ofList ['d','e','s','r','e','v','e','r'].reverse)=some Manifest.sig_reversed:=by kernel_rfl
theorem ji:Slot "reversed" "__next__" "reversed.__next__":=
 .of (owner:="reversed") (n:="__next__") (by rw [Ab2,Abq];kernel_rfl) (by trivial) (by trivial) (by trivial)
  (by first | exact .inl (by trivial) | exact .inr (by trivial)) (by rw [Acb];kernel_rfl)
theorem qN:entryFor table "reversed.__next__"=some Builtin.«reversed.__next__»:=entryFor_of_tree (by kernel_rfl)
theorem tQ (a:Value):argsOk "reversed.__next__" ⟨[a],[]⟩:=by
 unfold argsOk;rw [signature?_of (id:="reversed.__next__") (n:=['_','_','t','x','e','n','_','_']) (o:=['d','e','s','r','e','v','e','r']) (by kernel_rfl) Az];kernel_rfl
theorem tR:Slot "reversed" "__iter__" "reversed.__iter__":=
 .of (owner:="reversed") (n:="__iter__") (by rw [Ab2,Abq];kernel_rfl) (by trivial) (by trivial) (by trivial)
  (by first | exact .inl (by trivial) | exact .inr (by trivial)) (by rw [Acb];kernel_rfl)
theorem zM (a:Value):argsOk "reversed.__iter__" ⟨[a],[]⟩:=by
 unfold argsOk;rw [signature?_of (id:="reversed.__iter__") (n:=['_','_','r','e','t','i','_','_']) (o:=['d','e','s','r','e','v','e','r']) (by kernel_rfl) Az];kernel_rfl
theorem yQ:entryFor table "reversed.__iter__"=some Builtin.«dict_keyiterator.__iter__»:=
 entryFor_alias (id':="dict_keyiterator.__iter__") (by kernel_rfl) (by first | rfl | trivial | (unfold String.splitOn;simp+decide [String.splitOnAux])) (by trivial) (by kernel_rfl)
theorem wg:typeLookup (.type "tuple") "__reversed__"=pure none:=by rw [Ab2,Abq];kernel_rfl
theorem sub_tuple_dict:isSubtype (.type "tuple") (.type "dict")=pure false:=by rw [Acb];kernel_rfl
theorem zN:Slot "reversed" "__init__" "object.__init__":=
 .of (owner:="object") (n:="__init__") (by rw [Ab2,Abq];kernel_rfl) (by trivial) (by trivial) (by trivial)
  (by first | exact .inl (by trivial) | exact .inr (by trivial)) (by rw [Acb];kernel_rfl)
theorem ug:TypeCalled "reversed" "reversed.__new__" "object.__init__":=
 ⟨by trivial,F.create_reversed,⟨_,_,F.mro_reversed⟩,F.made_reversed,F.plain_reversed_new,F.sub_reversed_self,zN⟩
section
variable {prog:Program} {w:World} {A:Around} {E:Value->Shared->Prop} {s:Shared}
def uh (l:Addr) (i:Int):Obj:={cls:=.type "reversed",data:=.fields #[.ref l,rawInt i]}
def IsRvd (h:Heap) (a l:Addr) (i:Int):Prop:=∃ o,h.get? a=some o/\o.cls= .type "reversed"/\o.data= .fields #[.ref l,rawInt i]
theorem IsRvd.typeIs {a l:Addr} {i:Int} (x:IsRvd s.heap a l i):s.TypeIs (.ref a) "reversed":=let ⟨o,ho,hc,_⟩:=x;⟨o,ho,hc⟩
theorem IsRvd.at {h h':Heap} {a l:Addr} {i:Int} (x:IsRvd h a l i) (e:∀ o,h.get? a=some o->h'.get? a=some o):IsRvd h' a l i:=let ⟨o,ho,r⟩:=x;⟨o,e _ ho,r⟩
theorem Pz {l:Addr} {items:Array Value} {Q₁:Value->Shared->Prop} (hl:IsTup s.heap l items) (hz:items.size < 2 ^ 62)
  (h:∀ k,Q₁ (.ref s.heap.objs.size) {s with heap:=s.heap.push (uh l ((items.size:Int) - 1)),toks:=k}):
  codeAny (model prog w) A (.call (.builtin "reversed.__new__") ⟨[.type "reversed",.ref l],[]⟩) (wants Q₁ E) s:=by
 refine codeAny_of_tree ?_;show wpAny _ A.in1 (do checkBuiltinCall "reversed.__new__" ⟨[.type "reversed",.ref l],[]⟩;again (.builtin "reversed.__new__" ⟨[.type "reversed",.ref l],[]⟩)) _ _ s;refine gV (AbA (F.newCall_reversed_1 _) (Aag ⟨Acm F.plain_reversed_new _,codeAny_builtin F.entry_reversed_new ?_⟩));rw [Acf F.plain_reversed_new _];unfold Builtin.«reversed.__new__»;refine gV (AbA (newClass_reversed _) ?_);try dsimp only
 refine gV (AbA (a:=()) (by first | rfl | kernel_rfl) ?_);refine gV (AbA (a:=()) (by first | rfl | kernel_rfl) ?_);try dsimp only
 refine gV (Ab1 hl.typeIs wg ?_);try dsimp only
 refine gV ?_;refine gV (wpAny_isInstance hl.typeIs sub_tuple_dict ?_);rw [if_neg (by decide)];refine gV (Ab1 hl.typeIs F.slot_tuple_getitem.lookup ?_);dsimp only;rw [if_pos (by trivial)];refine Aag ?_;rw [if_neg (by decide)];refine gV (len_tuple hl (by omega) ?_);refine gV (AbA (a:=some ((items.size:Nat):Int)) rfl ?_);dsimp only;refine gV ?_;unfold Builtin.SmallTypes.newRecord;refine Aa8 ?_;exact Aag (h _)
theorem PB {l:Addr} {items:Array Value} {Q:Value->Shared->Prop} (hl:IsTup s.heap l items) (hz:items.size < 2 ^ 62)
  (h:∀ k,Q (.ref s.heap.objs.size) {s with heap:=s.heap.push (uh l ((items.size:Int) - 1)),toks:=k}):wpAny (model prog w) A (call (.type "reversed") [.ref l]) Q E s:=by
 refine callType_codes ug (F.typeCall_reversed_1 _) F.entry_object_init (Pz (Q₁:=fun obj s₁=>obj= .ref s.heap.objs.size/\∃ k,s₁={s with heap:=s.heap.push (uh l ((items.size:Int) - 1)),toks:=k}) hl hz fun k=>⟨rfl,k,rfl⟩) ?_;rintro obj s₁ ⟨rfl,k,rfl⟩;have hT:Shared.TypeIs {s with heap:=s.heap.push (uh l ((items.size:Int) - 1)),toks:=k} (.ref s.heap.objs.size) "reversed":=⟨_,Aaq _ rfl,rfl⟩;exact ⟨hT,F.args_object_init_2 _ _,(object_init_meets ug.init.lookup ug.made (by decide)) prog w A.in1 _ _ ⟨hT,rfl,h k⟩⟩
theorem PJ {it l:Addr} {i:Nat} {items:Array Value} {x:Value} {Q:Option Value->Shared->Prop} (hit:IsRvd s.heap it l (i:Int)) (hl:IsTup s.heap l items) (hx:items[i]?=some x) (hz:items.size < 2 ^ 62)
  (hQ:∀ h' k,IsRvd h' it l ((i:Int) - 1)->Heap.SameBut it s.heap h'->Q (some x) {s with heap:=h',toks:=k}):wpAny (model prog w) A (pyNext (.ref it)) Q E s:=by
 obtain ⟨o,ho,hc,hd⟩:=id hit;have hi:i < items.size:=(Array.getElem?_eq_some_iff.mp hx).1;unfold pyNext
 refine gV (Acn (AbT (name:=Str.ofString "__next__") hit.typeIs ji
  (Acg ji hit.typeIs qN ?_ (tQ _))))
 unfold Builtin.«reversed.__next__»;refine gV (AbA (a:=(Value.ref it,[])) rfl ?_);try dsimp only
 refine gV (Abu ho hd (x:=.ref l) rfl ?_);refine gV (Abu ho hd (x:=rawInt (i:Int)) rfl ?_);show wpAny _ _ (if (i:Int) < 0 then _ else _) _ _ s;rw [if_neg (by omega)];refine gV (Ab1 hl.typeIs F.slot_tuple_getitem.lookup ?_);rw [if_neg (by decide)];refine gV (wpAny_mkInt ?_);refine gV (Acn (getItem_tuple (j:=i) hl (by omega) (by omega) ?_ hx ?_))
 ·unfold seqIndex?
  simp;omega
 dsimp only;refine gV (Abu (s:={s with toks:=s.toks+1}) ho hd (x:=rawInt (i:Int)) rfl ?_);refine gV (Acd (s:={s with toks:=s.toks+1}) ho hd (by simp) ?_);refine Aag ⟨x,rfl,Aag (hQ _ _ ?_ (Heap.SameBut.update ..))⟩
 exact ⟨_,Aa3 _ ho (Ab3 (AbD hd _)),(Obj.cls_mapFields ..).trans hc,by
  rw [AbD hd];simp⟩
theorem SX {it l:Addr} {Q:Option Value->Shared->Prop} (hh:A.handled=none) (hit:IsRvd s.heap it l (-1))
  (hQ:∀ h',Heap.ExtBut it s.heap h'->Q none {s with heap:=h'}):wpAny (model prog w) A (pyNext (.ref it)) Q E s:=by
 obtain ⟨o,ho,hc,hd⟩:=id hit;unfold pyNext
 refine gV (Acn (AbT (name:=Str.ofString "__next__") hit.typeIs ji
  (Acg ji hit.typeIs qN ?_ (tQ _))))
 unfold Builtin.«reversed.__next__»;refine gV (AbA (a:=(Value.ref it,[])) rfl ?_);try dsimp only
 refine gV (Abu ho hd (x:=.ref l) rfl ?_);refine gV (Abu ho hd (x:=rawInt (-1)) rfl ?_);show wpAny _ _ (if (-1:Int) < 0 then _ else _) _ _ s;rw [if_pos (by decide)];refine gV (wpAny_rule ?_);refine gV ?_;refine gV (Acd ho hd (by simp) ?_);have sb1:Heap.SameBut it s.heap (s.heap.update it (Obj.mapFields (·.setIfInBounds 1 (rawInt (-1))))):=Heap.SameBut.update ..;have ho2:=Aa3 (Obj.mapFields (·.setIfInBounds 1 (rawInt (-1)))) ho (Ab3 (AbD hd _));refine Acd ho2 (AbD hd _) (by simp) ?_;have sb2:Heap.SameBut it (s.heap.update it (Obj.mapFields (·.setIfInBounds 1 (rawInt (-1))))) ((s.heap.update it (Obj.mapFields (·.setIfInBounds 1 (rawInt (-1))))).update it (Obj.mapFields (·.setIfInBounds 0 .none))):=Heap.SameBut.update ..;have eb:Heap.ExtBut it s.heap ((s.heap.update it (Obj.mapFields (·.setIfInBounds 1 (rawInt (-1))))).update it (Obj.mapFields (·.setIfInBounds 0 .none))):=sb1.extBut.trans sb2.extBut;show wpAny _ _ _ _ _ {s with heap:=((s.heap.update it (Obj.mapFields (·.setIfInBounds 1 (rawInt (-1))))).update it (Obj.mapFields (·.setIfInBounds 0 .none)))};generalize ((s.heap.update it (Obj.mapFields (·.setIfInBounds 1 (rawInt (-1))))).update it (Obj.mapFields (·.setIfInBounds 0 .none)))=h2 at eb ⊢;refine gV ?_;show wpAny _ _ (newExc (.type "StopIteration") [] >>=_) _ _ _;refine gV ?_;simp only [newExc,newTuple];refine gV (Aa8 ?_ (by size_fits));refine gV (m:=firstArgMember _ _) (AbA (a:=Value.none) (by first | rfl | (simp only [firstArgMember];rfl)) ?_);refine Aa8 ?_ (by size_fits);simp only [raiseNew];refine gV (wpAny_handled ?_);first | rw [show A.in1.handled=none from hh] | rw [hh]
 refine gV (Aag (wpAny_throw ?_));refine gV (wpAny_isInstance (T:="StopIteration") (b:=true) ⟨_,Aaq _ rfl,rfl⟩ isSubtype_stop ?_);exact Aag (hQ _ ((eb.push _).push _))
theorem Ff {it l:Addr} {i:Int} {Q:Value->Shared->Prop} (hit:IsRvd s.heap it l i) (h:Q (.ref it) s):wpAny (model prog w) A (pyIter (.ref it)) Q E s:=by
 refine wpAny_pyIter_slot hit.typeIs tR (Acg tR hit.typeIs yQ ?_ (zM _));show wpAny _ _ (ret (.ref it)) _ _ s;exact Aag ⟨_,rfl,"reversed",_,hit.typeIs,ji.lookup,h⟩
end
def YC (K:W.Frag) (a:Addr) (n:Nat):It:=
 ⟨fun i H=>i < n/\n < 2 ^ 62/\∃ xs,SqT K H a xs/\xs.length=n,
  fun i H v H'=>H'=H/\∀ xs,SqT K H a xs->xs[n - 1 - i]?=some v,
  fun i _=>i=n⟩
theorem PK {P:Program} {w:World} {K:W.Frag} {tg:Expr} {n:Nat} {it a:Addr} (hai:a≠it):
  Turn P w K tg (YC K a n) [it] it (fun i h=>i<=n/\IsRvd h it a ((n:Int) - 1 - (i:Int))) where
 mem:=by simp
 obj:=fun i h st c hc=>by
  obtain ⟨_,⟨o1,e1,c1,d1⟩⟩:=st;have e:c=it:=by simpa using hc
  subst e;exact ⟨_,e1,fun v z=>by rw [d1] at z;cases z⟩
 keep:=fun i h h' st kk=>⟨st.1,st.2.at fun o q=>kk it (by simp) o q⟩
 item:=by
  intro X hP hw hK hc i pins s U H E I hf st hg;subst hP hw hK;obtain ⟨hi,h1⟩:=st;obtain ⟨hlt,h62,xs,hq,hlen⟩:=hg;obtain ⟨its,rv,p,_⟩:=I.tuple hq;have l1:=rv.length;obtain ⟨x,hx⟩:∃ x,xs[n - 1 - i]?=some x:=⟨_,Aaa (by omega)⟩;obtain ⟨u,hu,ru⟩:=rv.get hx;obtain ⟨f0,f1,f2,f3,f4,f5⟩:=hf it (by simp);have e:(n:Int) - 1 - (i:Int)=((n - 1 - i:Nat):Int):=by omega
  rw [e] at h1;refine PJ h1 p (x:=u) (by simpa using hu) (by simp;omega) fun h' k st' sb=>?_
  have I1:Inv X pins U H {s with heap:=h',toks:=k}:=I.turned (t':=k) (fun b o hb e=>(sb.2 b hb).trans e) f0 f1 f3 f4 f5;obtain ⟨o,eo,c,d⟩:=id st';refine ⟨u,rfl,Ac (s:={s with heap:=h',toks:=k}) eo c d (by decide) ⟨x,H,I1,ru,⟨rfl,fun ys hy=>by rw [I.tuple_inj hy hq];exact hx⟩,⟨hlt,?_⟩,fun b hb=>(hf b hb).1⟩⟩;have e2:((n - 1 - i:Nat):Int) - 1=(n:Int) - 1 - ((i+1:Nat):Int):=by omega
  rw [← e2];exact st'
 done:=by
  intro X hP hw hK hc i pins s U H E I hf st hg;subst hP hw hK;obtain ⟨hi,h1⟩:=st;have hin:i=n:=hg;subst hin;rw [show (i:Int) - 1 - (i:Int)= -1 by omega] at h1;obtain ⟨f0,f1,f2,f3,f4,f5⟩:=hf it (by simp);exact SX (I.ok.hd hc) h1 fun h' eb=>⟨rfl,I.turned (t':=s.toks) (fun b o hb e=>eb b o hb e) f0 f1 f3 f4 f5⟩
 self:=fun _ _ _ _ _ st h=>Ff st.2 h
def Vi (K:W.Frag) (ta:TE):TI:=fun U H R=>ta U H fun x H1=>(∃ l xs,x= .ref l/\SqL K H1 l xs/\R (YB K l xs.length) H1)\/∃ l xs,x= .ref l/\SqT K H1 l xs/\xs.length < 2 ^ 62/\R (YC K l xs.length) H1
theorem Tc {X:Cx} {K:W.Frag} {a tg:Expr} {ta:TE} {p pos:Pos} (hK:X.K=K) (hg:Gl X "reversed") (hm:X.mg "reversed"=none) (ha:JE X a ta) (h:autoParam (notStar a=true) L2.auto4._auto_1):
  JI X tg (.Call (.Name "reversed" p) [a] [] pos) (Vi K ta):=⟨by
 subst hK;intro pins s U H R I hq;refine Call_ (jF I hg hm wO (AaI (arg1 h (d7 (ha.run pins s U H _ I hq) fun u s1 qq0=>?_)) (bW h) rfl));obtain ⟨x,H1,I1,rx,hx⟩:=qq0;rcases hx with ⟨l,xs,ex,hx,q⟩ | ⟨l,xs,ex,hx,h62,q⟩
 ·subst ex
  cases rx;obtain ⟨its,rv,ht,hz⟩:=I1.list hx;have hlen:=rv.length;have lt:l < s1.heap.objs.size:=by obtain ⟨o,ho,_⟩:=ht.isList;exact Aal ho
  refine call_reversed_list ht.isList ?_;have e0:(s1.heap.push (PySem.revObj l ((its.toArray.size:Int) - 1))).get? s1.heap.objs.size=some (PySem.revObj l ((its.toArray.size:Int) - 1)):=Aaq _ rfl
  have z2:(s1.heap.push (PySem.revObj l ((its.toArray.size:Int) - 1))).IsRevIter s1.heap.objs.size l ((xs.length:Int) - 1 - ((0:Nat):Int)):=⟨_,e0,rfl,by
   show Data.fields #[.ref l,rawInt ((its.toArray.size:Int) - 1)]=_;rw [show ((its.toArray.size:Int) - 1)=(xs.length:Int) - 1 - ((0:Nat):Int) by rw [Aax];omega]⟩
  refine wpAny_pyIter_revIter z2 ?_;refine ⟨s1.heap.objs.size,[s1.heap.objs.size],_,_,H1,rfl,I1.kept (t':=s1.toks) fun b o q=>Aae _ q,Px (n:=xs.length) (AaJ lt),⟨Abb _,z2⟩,fun b hb=>?_,q⟩;have e:b=s1.heap.objs.size:=by simpa using hb
  subst e;exact I1.fpOk (Aad _) (I1.hok.fresh (Aad _))
 ·subst ex
  cases rx;obtain ⟨its,rv,ht,hz⟩:=I1.tuple hx;have hlen:=rv.length;have lt:l < s1.heap.objs.size:=by obtain ⟨o,ho,_⟩:=id ht;exact Aal ho
  refine PB ht (by simp;omega) fun k=>?_
  have e0:(s1.heap.push (uh l ((its.toArray.size:Int) - 1))).get? s1.heap.objs.size=some (uh l ((its.toArray.size:Int) - 1)):=Aaq _ rfl
  have z2:IsRvd (s1.heap.push (uh l ((its.toArray.size:Int) - 1))) s1.heap.objs.size l ((xs.length:Int) - 1 - ((0:Nat):Int)):=⟨_,e0,rfl,by
   show Data.fields #[.ref l,rawInt ((its.toArray.size:Int) - 1)]=_;rw [show ((its.toArray.size:Int) - 1)=(xs.length:Int) - 1 - ((0:Nat):Int) by rw [Aax];omega]⟩
  refine Ff z2 ?_;refine ⟨s1.heap.objs.size,[s1.heap.objs.size],_,_,H1,rfl,I1.kept (t':=k) fun b o q=>Aae _ q,PK (n:=xs.length) (AaJ lt),⟨Abb _,z2⟩,fun b hb=>?_,q⟩;have e:b=s1.heap.objs.size:=by simpa using hb
  subst e;exact I1.fpOk (Aad _) (I1.hok.fresh (Aad _))⟩
section
variable {K:W.Frag} {U:St} {H:Hp}
theorem PN {ta:TE} {R:It->Hp->Prop} (h:ta U H fun x H1=>(∃ l xs,x= .ref l/\SqL K H1 l xs/\R (YB K l xs.length) H1)\/∃ l xs,x= .ref l/\SqT K H1 l xs/\xs.length < 2 ^ 62/\R (YC K l xs.length) H1):Vi K ta U H R:=h
theorem Td {a:Addr} {xs:List V} {g:TG} {tb:TS} {D:Ends} (Pv:Nat->St->Hp->Prop) (h0:Pv 0 U H) (hl:∀ i U H,i<=xs.length->Pv i U H->SqL K H a xs)
  (hs:∀ i x U H,i < xs.length->xs[xs.length - 1 - i]?=some x->Pv i U H->g x U H fun σ2 H2=>tb {D with nx:=Pv (i+1),ct:=Pv (i+1),bk:=D.nx} σ2 H2) (hd:∀ U H,Pv xs.length U H->D.nx U H):
  ∃ W:Nat->Nat->St->Hp->Prop,(∃ m,W 0 m U H)/\∀ i m U H,W i m U H->
   ((YB K a xs.length).stop i H/\D.nx U H)\/((YB K a xs.length).go i H/\∃ N:St->Hp->Prop,(∀ U' H',N U' H'->∃ m',m' < m/\W (i+1) m' U' H')/\∀ x H',(YB K a xs.length).yld i H x H'->g x U H' fun σ2 H2=>tb {D with nx:=N,ct:=N,bk:=D.nx} σ2 H2):=by
 refine ⟨fun i m U H=>m=xs.length - i/\i<=xs.length/\Pv i U H,⟨xs.length,by simp,Abb _,h0⟩,?_⟩;rintro i m U H ⟨rfl,hi,p⟩;have hq:=hl i U H hi p;by_cases hlt:i < xs.length
 ·refine .inr ⟨⟨hlt,xs,hq,rfl⟩,Pv (i+1),fun U' H' h=>⟨xs.length - (i+1),by omega,rfl,by omega,h⟩,fun x H' y=>?_⟩
  obtain ⟨rfl,hy⟩:=y;exact hs i x U _ hlt (hy xs hq) p
 ·obtain rfl:i=xs.length:=by omega
  exact .inl ⟨rfl,hd U H p⟩
theorem Te {a:Addr} {xs:List V} {g:TG} {tb:TS} {D:Ends} (h62:xs.length < 2 ^ 62) (Pv:Nat->St->Hp->Prop) (h0:Pv 0 U H) (hl:∀ i U H,i<=xs.length->Pv i U H->SqT K H a xs)
  (hs:∀ i x U H,i < xs.length->xs[xs.length - 1 - i]?=some x->Pv i U H->g x U H fun σ2 H2=>tb {D with nx:=Pv (i+1),ct:=Pv (i+1),bk:=D.nx} σ2 H2) (hd:∀ U H,Pv xs.length U H->D.nx U H):
  ∃ W:Nat->Nat->St->Hp->Prop,(∃ m,W 0 m U H)/\∀ i m U H,W i m U H->
   ((YC K a xs.length).stop i H/\D.nx U H)\/((YC K a xs.length).go i H/\∃ N:St->Hp->Prop,(∀ U' H',N U' H'->∃ m',m' < m/\W (i+1) m' U' H')/\∀ x H',(YC K a xs.length).yld i H x H'->g x U H' fun σ2 H2=>tb {D with nx:=N,ct:=N,bk:=D.nx} σ2 H2):=by
 refine ⟨fun i m U H=>m=xs.length - i/\i<=xs.length/\Pv i U H,⟨xs.length,by simp,Abb _,h0⟩,?_⟩;rintro i m U H ⟨rfl,hi,p⟩;have hq:=hl i U H hi p;by_cases hlt:i < xs.length
 ·refine .inr ⟨⟨hlt,h62,xs,hq,rfl⟩,Pv (i+1),fun U' H' h=>⟨xs.length - (i+1),by omega,rfl,by omega,h⟩,fun x H' y=>?_⟩
  obtain ⟨rfl,hy⟩:=y;exact hs i x U _ hlt (hy xs hq) p
 ·obtain rfl:i=xs.length:=by omega
  exact .inl ⟨rfl,hd U H p⟩
end
end L2
namespace L2
open PySem PySem.W PySem.Spec PyProof.Rows
end L2
namespace L2
open PySem PySem.Spec PyProof.Rows
end L2
namespace HT
open PySem PySem.Spec PyProof.Rows
section
variable {prog:Program} {w:World} {A:Around} {E:Value->Shared->Prop} {s:Shared}
theorem getItem_tuple_whole {t sl:Addr} {items:Array Value} {vl vu:Value} {lo hi:Option Int} {Q:Value->Shared->Prop} (ht:IsTup s.heap t items) (hs:s.heap.IsSliceOf sl vl vu .none) (pl:IsPart vl lo) (pu:IsPart vu hi)
  (hw:sIx items.size 0 lo=0/\sIx items.size items.size hi=items.size) (h:Q (.ref t) s):wpAny (model prog w) A (getItem (.ref t) (.ref sl)) Q E s:=by
 obtain ⟨os,hos,hcs,hds⟩:=id hs;have hTs:s.TypeIs (.ref sl) "slice":=⟨os,hos,hcs⟩;unfold getItem;try with_reducible refine Aa5 ?_
 first | refine gV (Aag ?_) | skip
 refine gV (wpAny_sequenceKey ht.typeIs (by decide) ?_)
 refine gV (AbT (name:=Str.ofString "__getitem__") ht.typeIs Abo
  (Acg Abo ht.typeIs entry_tuple_getitem ?_ (args_tuple_getitem _ _)))
 show wpAny _ _ (Builtin.Tuple.tupleItemsOf (.ref t) >>=_) _ _ s;refine gV (tupleItemsOf_ ht ?_);refine gV (wpAny_typeOf hTs ?_);rw [if_pos (by decide)];refine gV (oX hs pl pu ?_)
 have hyes:((((sIx items.size 0 lo:Nat):Int) == 0 && (1:Int) == 1 && (sIx items.size items.size hi - sIx items.size 0 lo) == items.size)=true):=by
  rw [hw.1,hw.2];simp
 show wpAny _ _ (if (((sIx items.size 0 lo:Nat):Int) == 0 && (1:Int) == 1 && (sIx items.size items.size hi - sIx items.size 0 lo) == items.size)=true then _ else _) _ _ s;rw [if_pos hyes];unfold Builtin.Tuple.tupleIsExact;refine gV (gV (wpAny_typeOf ht.typeIs (Aag ?_)));rw [if_pos (by decide)];exact gV (wpAny_rule (Aag ⟨_,rfl,Aag h⟩))
end
end HT
namespace L2
open PySem PySem.Spec PyProof.Rows
section
variable {X:Cx}
def Z7 (K:W.Frag):V->Option Int->Option Int->Hp->VK->Prop:=fun x lo hi H Q=>∃ a xs,x= .ref a/\SqT K H a xs/\(HT.sIx xs.length 0 lo=0/\HT.sIx xs.length xs.length hi=xs.length)/\Q (.ref a) H
theorem Tf:SlR X (Z7 X.K):=by
 intro pins s U H x v vl vu lo hi sl Q I rx hs pl pu h;obtain ⟨a,xs,rfl,hx,hw,q⟩:=h;cases rx;obtain ⟨its,r,ht,hz⟩:=I.tuple hx;have hlen:its.toArray.size=xs.length:=by rw [Aax];exact r.length.symm
 refine ⟨"tuple",_,PyProof.Rows.slot_tuple_getitem.lookup,ht.typeIs,?_⟩;exact HT.getItem_tuple_whole ht hs pl pu (by rw [hlen];exact hw) ⟨.ref a,H,I,rfl,q⟩
def Z8 (K:W.Frag):V->Option Int->Option Int->Hp->VK->Prop:=fun x lo hi H Q=>Zq K x lo hi H Q\/Z7 K x lo hi H Q
theorem vm {K:W.Frag} (hK:X.K=K):SlR X (Z8 K):=by
 subst hK;exact Oc.or Tf
end
section
variable {H:Hp} {Q:VK} {K:W.Frag} {p:Addr} {xs:List V} {lo hi:Option Int}
theorem Cr {x:Str} (hz:x.length<=sizeLine) (h:Q (.str (Txt.slice x lo hi)) H):Z8 K (.str x) lo hi H Q:=.inl (Zz hz h)
end
theorem yR {xs:List V} {k:Nat}:qC xs (some (k:Int)) none=xs.drop k:=by
 unfold qC;rw [HT.sIx_none,HT.sIx_nat];by_cases h:k<=xs.length
 ·rw [Nat.min_eq_left h,AaU (by rw [AbS];omega)]
 ·rw [Aci (by omega),AbW (by omega),AbW (by omega)];simp
theorem Fg {xs:List V} {k:Nat}:qC xs none (some (k:Int))=xs.take k:=by
 unfold qC;rw [HT.sIx_none,HT.sIx_nat,List.drop_zero,Nat.sub_zero];by_cases h:k<=xs.length
 ·rw [Nat.min_eq_left h]
 ·rw [Aci (by omega),AaU (by omega),AaU (by omega)]
section
variable {X:Cx} {K:W.Frag} {a b e f o:Expr} {ta tb tc:TE} {pos apos cpos:Pos} {H:Hp} {Q:VK} {U:St}
theorem Xv (hu:X.A.units+64 < cLine) (ha:JE X a ta) (hb:JE X b tb) (h:autoParam (qF b=true) L2.auto4._auto_1):JE X (.Subscript a b pos) (NQ ta tb):=⟨RN (by omega) ha.run hb.run (pix h)⟩
theorem PQ (h:ta U H fun x H1=>tb U H1 fun y H2=>∃ a v,x= .ref a/\DGet H2 a y (some v)/\Q v H2):NQ ta tb U H Q:=h
end
structure tU (K:W.Frag) (mg:Str->Option Value) (xs:List Str) (m qual:Str) (st:Stmt):Prop where
 ex:∃ f fd,(∀ x∈xs,Meth K (aN mg x) m f)/\Fun K m qual st f fd
def Lk (P:Program) (w:World) (K:W.Frag) (mg:Str->Option Value) (base:Heap) (k:Nat) (xs:List Str) (m:Str) (ps:List Str) (sp:Sp):Prop:=
 ∃ f fd,(∀ x∈xs,Meth K (aN mg x) m f)/\Binds K fd ps []/\FnOk P w K mg base (K7 P w) k f fd ps sp
section
variable {P:Program} {w:World} {K:W.Frag} {mg:Str->Option Value} {base:Heap}
theorem Tg {xs:List Str} {m qual:Str} {st:Stmt} {N ps:List Str} {k:Nat} {sp:Sp} (D:tU K mg xs m qual st) (S:aG N ps (aB st))
  (hb:∀ (kV doc pm:Value) (an:Option Addr) (cdv ct:Value) (us:List Value),us.length=ps.length->bindArgs (PySem.W.fnOf m qual (eZ st) (bU st) (aB st) .none kV doc pm an cdv ct) ⟨us,[]⟩=pure (ps.zip us))
  (len:∀ vs H Q E,sp vs H Q E->vs.length=ps.length)
  (hbody:∀ (f:Addr) (cdv:Value) (A:Around) (outer:List Env) (s:Shared) (H:Hp) (vs:List V) (Q:VK) (E:XK),Room k (A.deeper (envOfC qual (aB st) s.heap.objs.size f cdv))->sp vs H Q E->
   ∃ t,JB (qz (K7 P w) P w K mg base N qual (aB st) f cdv A outer s H E) (bU st) t/\t {nx:=fun _ H'=>Q .non H',rt:=Q} (start N vs) H):Lk P w K mg base (k+1) xs m ps sp:=by
 obtain ⟨f,fd,hm,F⟩:=D.ex;refine ⟨f,fd,hm,F.binds hb,?_⟩;obtain ⟨oc,od,kV,doc,pm,an,cdv,ct,osl,rfl,lk,hcd⟩:=F.ex;exact Ec lk hcd S len fun A outer s H vs Q E hr h=>let ⟨t,j,q⟩:=hbody f cdv A outer s H vs Q E hr h;⟨t,j.run,q⟩
end
def PX (mg:Str->Option Value) (xs:List Str) (m:Str) (sp:Sp) (R:St->XK) (ta:TE) (t:TA):TE:=fun U H Q=>ta U H fun x H1=>∃ a y dx fs,x= .ref a/\y∈xs/\H1 a=some (.ins (aN mg y) dx fs)/\fs.lookup m=none/\t U H1 fun vs H2=>sp (x :: vs) H2 Q (R U)
def Vj (sp:Sp) (R:St->XK) (t:TA):TE:=fun U H Q=>t U H fun vs H1=>sp vs H1 Q (R U)
def OTs (K:W.Frag) (mg:Str->Option Value) (xs:List Str):Prop:=∀ x∈xs,Cls K (aN mg x)
structure Jh (K:W.Frag) (mg:Str->Option Value) (x m qual:Str) (st:Stmt):Prop where
 at_:mg x=some (.ref (aN mg x))
 sp:PySem.W.specialIn K (.ref (aN mg x)) "__getattribute__"=some (some (.builtin "type.__getattribute__"))
 rd:PySem.W.readsIn K (aN mg x) (.type "type")=true
 ex:∃ f fd,PySem.W.findCls K (.ref (aN mg x)) (.type "type") m=some (.val (.ref f))/\PySem.W.keepIn K (.ref f)=true/\Fun K m qual st f fd
theorem Z9 {K:W.Frag} {mg:Str->Option Value} {h:Heap} (X:K.In h) (G:h.Ns mainGlobals mg) {x m qual:Str} {C f:Addr} {st:Stmt} {oc:Value} {od an:Option Addr} {osl:Array (Option Value)} {kV doc pm cdv ct:Value}
  (a:PySem.W.nsIn K mainGlobals x=some (some (.ref C))) (s:PySem.W.specialIn K (.ref C) "__getattribute__"=some (some (.builtin "type.__getattribute__"))) (r:PySem.W.readsIn K C (.type "type")=true)
  (i:PySem.W.findCls K (.ref C) (.type "type") m=some (.val (.ref f)))
  (l:K.lookup f=some ⟨oc,od,.func (PySem.W.fnOf m qual (eZ st) (bU st) (aB st) .none kV doc pm an cdv ct),osl⟩) (c:PySem.W.codeIn K cdv qual=true) (k:PySem.W.keepIn K (.ref f)=true):Jh K mg x m qual st:=by
 have e0:=Aa2 X G a;have e:=gG e0;exact ⟨by rw [e];exact e0,by rw [e];exact s,by rw [e];exact r,f,_,by rw [e];exact i,k,yp l c k⟩
def Xw (P:Program) (w:World) (K:W.Frag) (mg:Str->Option Value) (base:Heap) (k:Nat) (x m:Str) (ps:List Str) (sp:Sp):Prop:=
 mg x=some (.ref (aN mg x))/\PySem.W.specialIn K (.ref (aN mg x)) "__getattribute__"=some (some (.builtin "type.__getattribute__"))/\PySem.W.readsIn K (aN mg x) (.type "type")=true/\
 ∃ f fd,PySem.W.findCls K (.ref (aN mg x)) (.type "type") m=some (.val (.ref f))/\PySem.W.keepIn K (.ref f)=true/\Binds K fd ps []/\FnOk P w K mg base (K7 P w) k f fd ps sp
section
variable {P:Program} {w:World} {K:W.Frag} {mg:Str->Option Value} {base:Heap}
theorem hasC {x m qual:Str} {st:Stmt} {N ps:List Str} {k:Nat} {sp:Sp} (D:Jh K mg x m qual st) (S:aG N ps (aB st))
  (hb:∀ (kV doc pm:Value) (an:Option Addr) (cdv ct:Value) (us:List Value),us.length=ps.length->bindArgs (PySem.W.fnOf m qual (eZ st) (bU st) (aB st) .none kV doc pm an cdv ct) ⟨us,[]⟩=pure (ps.zip us))
  (len:∀ vs H Q E,sp vs H Q E->vs.length=ps.length)
  (hbody:∀ (f:Addr) (cdv:Value) (A:Around) (outer:List Env) (s:Shared) (H:Hp) (vs:List V) (Q:VK) (E:XK),Room k (A.deeper (envOfC qual (aB st) s.heap.objs.size f cdv))->sp vs H Q E->
   ∃ t,JB (qz (K7 P w) P w K mg base N qual (aB st) f cdv A outer s H E) (bU st) t/\t {nx:=fun _ H'=>Q .non H',rt:=Q} (start N vs) H):Xw P w K mg base (k+1) x m ps sp:=by
 obtain ⟨f,fd,hm,kp,F⟩:=D.ex;refine ⟨D.at_,D.sp,D.rd,f,fd,hm,kp,F.binds hb,?_⟩;obtain ⟨oc,od,kV,doc,pm,an,cdv,ct,osl,rfl,lk,hcd⟩:=F.ex;exact Ec lk hcd S len fun A outer s H vs Q E hr h=>let ⟨t,j,q⟩:=hbody f cdv A outer s H vs Q E hr h;⟨t,j.run,q⟩
end
section
variable {X:Cx} {K:W.Frag} {k:Nat} {f C:Addr} {ps xs:List Str} {sp:Sp} {R:St->XK} {x m fn:Str} {p pos apos pos':Pos} {e o value:Expr} {es:List Expr} {ta tv:TE} {t:TA} {pins:List (Addr×Obj)} {U:St} {H:Hp} {s:Shared} {Q:VK} {us:List Value} {vs:List V} {mg:Str->Option Value}
theorem bZ {pl:Sem Bool} (hmg:X.mg=mg) (he:JE X o ta) (c:OTs X.K X.mg xs) (F:Lk X.prog X.w X.K X.mg X.base k xs m ps sp) (hr:Room k X.A) (hx:lC X R)
  (ht:eval (.Call (.Attribute o m apos) [] [] pos) X.env=(do
   let ov ← eval o X.env
   standAt apos.atName
   let (f,first) ← holding [ov] (getMethod ov m pl)
   callWith pos f first (backTo pos (starEach [] X.env)) (backToKw pos (keywordEach [] X.env))):=by rfl):
  JE X (.Call (.Attribute o m apos) [] [] pos) (PX mg xs m sp R ta Nq):=⟨by
 subst hmg;obtain ⟨f,fd,hm,hb,F⟩:=F;intro pins s U H Q I h;refine Ab4 (pl:=pl) (d7 (he.run pins s U H _ I h) fun u s1 qq0=>?_) ht;obtain ⟨x,H1,I1,rx,a,y,dx,fs,ex,hy,ea,l,q⟩:=qq0;subst ex;obtain rfl:u=Value.ref a:=rx;refine tZ I1 ea (c y hy) (hm y hy) l ?_;exact PySem.W.callWith_K0 (first:=[.ref a]) I1.kIn (hm y hy).kp (u6 (us:=[.ref a]) (vs:=[.ref a]) F hr hb hx I1 (.cons rfl .nil) q)⟩
theorem yS {pl:Sem Bool} (F:Xw X.prog X.w X.K X.mg X.base k x m ps sp) (hr:Room k X.A) (hg:Gl X x) (hx:lC X R) (ha:JA X (e :: es) t) (hdb:(x == ("__debug__":Str))=false)
  (hs:autoParam ((e :: es).all notStar=true) L2.auto4._auto_1)
  (ht:eval (.Call (.Attribute (.Name x p) m apos) (e :: es) [] pos) X.env=(do
   let ov ← eval (.Name x p) X.env
   standAt apos.atName
   let (f,first) ← holding [ov] (getMethod ov m pl)
   callWith pos f first (backTo pos (starEach (e :: es) X.env)) (backToKw pos (keywordEach [] X.env))):=by rfl):
  JE X (.Call (.Attribute (.Name x p) m apos) (e :: es) [] pos) (Vj sp R t):=⟨by
 have h1:notStar e=true:=by simp only [AaX,Aav] at hs;exact hs.1
 have h2:es.all notStar=true:=by simp only [AaX,Aav] at hs;exact hs.2
 obtain ⟨at_,sg,rd,f,fd,fc,kp,hb,F⟩:=F;intro pins s U H Q I h;refine Ab4 (pl:=pl) (nP I hg at_ ?_ hdb) ht;refine PySem.W.method_cls I.kIn sg (PySem.W.cls_value I.kIn rd fc rfl ?_);have I1:=I.tok (s.toks+1);refine AbC (first:=[]) (h₀:=X.base) I.ok.mod.kin kp (d7 (ha.run pos pins _ U H _ I1 h) fun us s2 ⟨vs,H2,I2,r,q2⟩=>⟨I2.kIn,?_⟩) (bW h1) (oF h2);exact u6 F hr hb hx I2 r q2⟩
end
section
variable {U:St} {H:Hp} {D:Ends} {Q:VK} {sp:Sp} {R:St->XK} {a:TA} {K:W.Frag} {xs:List Str} {mg:Str->Option Value} {ta tv:TE} {f m:Str}
theorem bK (h:ta U H fun x H1=>∃ b y dx fs,x= .ref b/\y∈xs/\H1 b=some (.ins (aN mg y) dx fs)/\fs.lookup m=none/\a U H1 fun vs H2=>sp (x :: vs) H2 Q (R U)):PX mg xs m sp R ta a U H Q:=h
theorem dD (h:a U H fun vs H1=>sp vs H1 Q (R U)):Vj sp R a U H Q:=h
end
def aaa (xs:Array Value) (c:Nat):Obj:={cls:=.type "list",dict:=none,data:=.seq xs c,slots:=#[]}
section
variable {prog:Program} {w:World} {A:Around} {R:Result->Shared->Prop} {I S:Addr} {fp wr:List Addr} {n:Nat} {P:Nat->Value->Prop} {St:Nat->Heap->Prop} {d:Value} {bt:Nat->Nat->Bool}
abbrev mdl (I S:Addr) (d:Value):Code:=.builtin "max.loop" ⟨[.ref I,.none,.ref S],[(Str.ofString "default",d)]⟩
theorem Th (W:Walks prog w A.in1 I fp wr n P St) (hcmp:CmpOf prog w A.in1 .Gt P bt) (hSf:S ∉ fp):∀ (k j:Nat) (s:Shared) (v:Value) (c:Nat),j+k+1=n->St (j+1) s.heap->P (argBest bt j) v->s.heap.get? S=some (aaa #[v,v] c)->
  (∀ v h' tk,P (argBest bt (n - 1)) v->(∀ b o,b ∉ wr->b≠S->s.heap.get? b=some o->h'.get? b=some o)->R (.ok (.ret v)) {s with heap:=h',toks:=tk})->codeAny (model prog w) A (mdl I S d) R s:=by
 have hSw:S ∉ wr:=fun h=>hSf (W.sub _ h)
 have nm:(toString "max" ++ toString ".loop":String)="max.loop":=by decide
 intro k
 induction k with
 | zero=>
  intro j s v c e hst hv hS hR;refine codeAny_builtin F.entry_max_loop ?_;rw [Acf AbB _];show wpAny _ A.in1 (seqItems? (.ref S) >>=_) _ _ s;refine gV (wpAny_seqItems hS rfl ?_);show wpAny _ A.in1 (tryCatch (pyNext (.ref I)) _ >>=_) _ _ s;have e':j+1=n:=e;refine gV (wpAny_tryCatch (W.done s _ _ (e' ▸ hst) fun h' tk kp=>?_));refine gV (m:=updateSeq S fun _=>#[]) ?_;refine wpAny_updateSeq (kp S _ hSw hS) rfl (gV (wpAny_letGo (Aag (hR v _ tk ?_ fun b o n1 n2 q=>?_))))
  ·rw [← e'];exact hv
  ·exact (AaQ _ _ (Ne.symm n2)).trans (kp b o n1 q)
 | succ k ih=>
  intro j s v c e hst hv hS hR;refine codeAny_builtin F.entry_max_loop ?_;rw [Acf AbB _];show wpAny _ A.in1 (seqItems? (.ref S) >>=_) _ _ s;refine gV (wpAny_seqItems hS rfl ?_);show wpAny _ A.in1 (tryCatch (pyNext (.ref I)) _ >>=_) _ _ s;refine gV (wpAny_tryCatch (W.item (j+1) s _ _ (by omega) hst fun u h' tk hu hst' kp=>?_));have hS':=kp S _ hSw hS;show wpAny _ A.in1 (tryCatch (holding [u,u] (richCompare .Gt u v >>=_)) _ >>=_) _ _ _;refine gV (wpAny_tryCatch (Aa5 (gV (hcmp (j+1) (argBest bt j) u v _ _ _ hu hv ?_))));refine gV (Aa5 (Abd (gV (wpAny_letGo (Aag ?_)))));have eb:argBest bt (j+1)=if bt (j+1) (argBest bt j) then j+1 else argBest bt j:=rfl
  cases hb:bt (j+1) (argBest bt j) with
  | true=>
   rw [hb,if_pos rfl] at eb;rw [if_pos rfl];refine gV (wpAny_updateSeq hS' rfl (gV (wpAny_letGo ?_)));rw [nm];refine Aag ⟨Acm AbB _,ih (j+1) _ u _ (by omega) (W.frame _ _ _ hst' fun b hf o q=>?_) (by rw [eb];exact hu) (Aa3 _ hS' rfl) fun v' h2 tk2 hv' k2=>hR v' h2 tk2 hv' fun b o n1 n2 q=>?_⟩
   ·exact (AaQ _ _ (fun z:S=b=>hSf (z ▸ hf))).trans q
   ·exact k2 b o n1 n2 ((AaQ _ _ (Ne.symm n2)).trans (kp b o n1 q))
  | false=>
   rw [hb,if_neg (by decide)] at eb;rw [if_neg (by decide)];refine gV (wpAny_letGo ?_);rw [nm];exact Aag ⟨Acm AbB _,ih (j+1) _ v c (by omega) hst' (by rw [eb];exact hv) hS' fun v' h2 tk2 hv' k2=>hR v' h2 tk2 hv' fun b o n1 n2 q=>k2 b o n1 n2 (kp b o n1 q)⟩
theorem Hn (W:Walks prog w A.in1 I fp wr n P St) (hcmp:CmpOf prog w A.in1 .Gt P bt) (hSf:S ∉ fp) {s:Shared} {c:Nat} (hst:St 0 s.heap) (hS:s.heap.get? S=some (aaa #[] c))
  (h0:n=0->∀ h' tk,(∀ b o,b ∉ wr->b≠S->s.heap.get? b=some o->h'.get? b=some o)->R (.ok (.ret d)) {s with heap:=h',toks:=tk})
  (hR:0 < n->∀ v h' tk,P (argBest bt (n - 1)) v->(∀ b o,b ∉ wr->b≠S->s.heap.get? b=some o->h'.get? b=some o)->R (.ok (.ret v)) {s with heap:=h',toks:=tk}):codeAny (model prog w) A (mdl I S d) R s:=by
 have hSw:S ∉ wr:=fun h=>hSf (W.sub _ h)
 have nm:(toString "max" ++ toString ".loop":String)="max.loop":=by decide
 refine codeAny_builtin F.entry_max_loop ?_;rw [Acf AbB _];show wpAny _ A.in1 (seqItems? (.ref S) >>=_) _ _ s;refine gV (wpAny_seqItems hS rfl ?_);show wpAny _ A.in1 (tryCatch (pyNext (.ref I)) _ >>=_) _ _ s;by_cases hn:n=0
 ·refine gV (wpAny_tryCatch (W.done s _ _ (hn ▸ hst) fun h' tk kp=>?_))
  show wpAny _ A.in1 (rule _ >>=_) _ _ _;exact gV (wpAny_rule (Aag (h0 hn h' tk fun b o n1 _ q=>kp b o n1 q)))
 ·refine gV (wpAny_tryCatch (W.item 0 s _ _ (by omega) hst fun u h' tk hu hst' kp=>?_))
  have hS':=kp S _ hSw hS;show wpAny _ A.in1 (updateSeq S (fun _=>#[u,u]) >>=_) _ _ _;refine gV (wpAny_updateSeq hS' rfl ?_);rw [nm];refine Aag ⟨Acm AbB _,Th W hcmp hSf (n - 1) 0 _ u _ (by omega) (W.frame _ _ _ hst' fun b hf o q=>?_) hu (Aa3 _ hS' rfl) fun v' h2 tk2 hv' k2=>hR (by omega) v' h2 tk2 hv' fun b o n1 n2 q=>?_⟩
  ·exact (AaQ _ _ (fun z:S=b=>hSf (z ▸ hf))).trans q
  ·exact k2 b o n1 n2 ((AaQ _ _ (Ne.symm n2)).trans (kp b o n1 q))
theorem Ln (a v:Value):argsOk "max" ⟨[a],[(Str.ofString "default",v)]⟩:=by unfold argsOk;kernel_rfl
theorem Lp {E:Value->Shared->Prop} {s:Shared} {x:Value} {Q:Value->Shared->Prop} (h:wpAny (model prog w) A.in1 (pyIter x) (fun it s₂=>∃ I fp wr n P St bt,it= .ref I/\Walks prog w A.in1 I fp wr n P St/\St 0 s₂.heap/\(∀ b∈fp,b < s₂.heap.objs.size)/\CmpOf prog w A.in1 .Gt P bt/\
   (n=0->∀ h' tk,(∀ b o,b ∉ wr->s₂.heap.get? b=some o->h'.get? b=some o)->Q d {s₂ with heap:=h',toks:=tk})/\
   (0 < n->∀ v h' tk,P (argBest bt (n - 1)) v->(∀ b o,b ∉ wr->s₂.heap.get? b=some o->h'.get? b=some o)->Q v {s₂ with heap:=h',toks:=tk})) E s):
  wpAny (model prog w) A (call (.builtin "max") [x] [(Str.ofString "default",d)]) Q E s:=by
 have nm:(toString "max" ++ toString ".loop":String)="max.loop":=by decide
 refine kmk_tree F.kind_max F.plain_max F.entry_max (Ln _ _) ?_;show wpAny _ A.in1 (Builtin.Builtins.bindParams "max" ["key","default"] 0 ⟨[],[(Str.ofString "default",d)]⟩ >>=_) _ _ s;refine gV (AbA (show Builtin.Builtins.bindParams "max" ["key","default"] 0 ⟨[],[(Str.ofString "default",d)]⟩=pure [none,some d] from rfl) ?_);refine gV (Aag ?_);refine gV (AaP h (fun it s₂ h₂=>?_) fun _ _ e=>e);obtain ⟨I,fp,wr,n,P,St,bt,rfl,W,hst,hfp,hcmp,q0,q1⟩:=h₂;refine gV (Aa8 ?_);have hSf:s₂.heap.objs.size ∉ fp:=fun hm=>Aa7 _ (hfp _ hm)
 rw [nm];have lt:∀ {b o},s₂.heap.get? b=some o->b≠s₂.heap.objs.size:=fun e=>AaJ (Aal e)
 exact Aag ⟨Acm AbB _,Hn W hcmp hSf (W.frame _ _ _ hst fun b _ o e=>Aae _ e) (Aaq _ rfl)
  (fun hn h' tk kp=>q0 hn h' tk fun b o n1 e=>kp b o n1 (lt e) (Aae _ e)) (fun hn v h' tk hv kp=>q1 hn v h' tk hv fun b o n1 e=>kp b o n1 (lt e) (Aae _ e))⟩
end
def P0:V->V->Hp->VK->Prop:=fun x y H Q=>∃ (p:Addr) (ns:List Int),x= .ref p/\H p=some (.lst (ns.map V.int))/\(ns=[]->Q y H)/\∀ M,M∈ns->(∀ a∈ns,a<=M)->Q (.int M) H
def Vk (ta td:TE):TE:=fun U H Q=>ta U H fun x H1=>td U H1 fun y H2=>P0 x y H2 Q
section
variable {X:Cx} {pins:List (Addr×Obj)} {U:St} {H:Hp} {s:Shared} {Q:VK} {x:Str} {p pos kpos:Pos} {e dv:Expr} {ta td:TE}
theorem Qa {u ud:Value} {v y:V} (hc:X.calm=true) (I:Inv X pins U H s) (rv:RelV v u) (ry:RelV y ud) (h:P0 v y H Q):
  wpAny (model X.prog X.w) X.A (call (.builtin "max") [u] [(Str.ofString "default",ud)]) (EP X pins U Q) X.xe s:=by
 obtain ⟨p,ns,rfl,hp,q0,q1⟩:=h;obtain rfl:u= .ref p:=rv;obtain ⟨hz,its,n,rv,g⟩:=I.hok p _ hp;have hi:IntsAre its ns:=intsAre_of rv;have hl:=rv.length;obtain ⟨ys,ey⟩:=hi.allInts.items;have hn:=hi.numsOf;have hL:s.heap.IsList p (intItems ys):=⟨_,g,rfl,n,by rw [← ey]⟩;have en:ys.toList.map (·.1)=ns:=by rw [← nums_intItems,← ey,← hn]
 have el:ys.size=ns.length:=by rw [← en];simp
 have ez:(intItems ys).size=ys.size:=by simp [intItems]
 refine Lp (iter_intList hL fun s₂ e st hfp hlI=>?_);subst e;refine ⟨_,_,_,_,_,_,_,rfl,Walks.list (A:=X.A.in1) (I.ok.hd hc) _ p hlI (intItems ys),st,hfp,CmpOf.ints_gt (numAt ys) (fun _ _=>intItems_at),fun h0 h' tk hk=>?_,fun h0 v h' tk hP hk=>?_⟩
 ·exact ⟨y,H,I.kept (old_kept hk),ry,q0 (List.eq_nil_of_length_eq_zero (by omega))⟩
 ·have hP':(intItems ys)[argBest (fun i j=>decide (numAt ys i > numAt ys j)) (ys.size - 1)]?=some v:=by rw [← ez];exact hP
  obtain ⟨t,rfl⟩:=intItems_at hP';obtain ⟨h1,h2⟩:=argBest_gt (numAt ys) (ys.size - 1);refine ⟨.int _,H,I.kept (old_kept hk),⟨t,rfl⟩,q1 _ ?_ fun a ha=>?_⟩
  ·rw [← en,numAt_eq];exact getD_mem (by rw [Aaf,AaG];omega)
  ·rw [← en] at ha
   obtain ⟨j,hj,rfl⟩:=mem_getD ha;rw [Aaf,AaG] at hj;rw [← numAt_eq];exact h2 j (by omega)
theorem Xx (hc:X.calm=true) (hg:Gl X "max") (hm:X.mg "max"=none) (ha:JE X e ta) (hd:JE X dv td) (h:autoParam (notStar e=true) L2.auto4._auto_1):
  JE X (.Call (.Name "max" p) [e] [⟨some "default",dv,kpos⟩] pos) (Vk ta td):=⟨by
 intro pins s U H Q I hq;refine AaZ (jF I hg hm (show bootBuiltins "max"=some (.builtin "max") from by trivial) ?_);refine PyProof.Rows.callWith_kw (arg1 h (d7 (ha.run pins s U H _ I hq) fun u s1 qq0=>?_)) (by rw [bW h];rfl) (by rw [bW h];rfl);obtain ⟨v,H1,I1,rv,q1⟩:=qq0;refine wpAny_evalAll_cons (gV (d7 (hd.run pins s1 U H1 _ I1 q1) fun ud s2 ⟨y,H2,I2,ry,q2⟩=>gV (Acl (Aag (wpAny_evalAll_nil ?_)))));exact Qa hc I2 rv ry q2⟩
end
section
variable {U:St} {H:Hp} {Q:VK} {ta td:TE}
theorem bL (h:ta U H fun x H1=>td U H1 fun y H2=>P0 x y H2 Q):Vk ta td U H Q:=h
end
structure ITxt (K:W.Frag) (mg:Str->Option Value) (x:Str):Prop where
 ha:PySem.W.findIn K (.ref (aN mg x)) "__class__"=some (some (.builtin "object.__class__"))
 hn:PySem.W.specialIn K (.builtin "object.__class__") "__get__"=some (some (.builtin "getset_descriptor.__get__"))
 htk:PySem.W.takesIn K (.builtin "object.__class__")=some true
 hm:PySem.W.mroIn K (aN mg x) (.type "object")=some true
theorem Fi {K:W.Frag} {mg:Str->Option Value} {h:Heap} (X:K.In h) (G:h.Ns mainGlobals mg) {x:Str} {C:Addr} (a:PySem.W.nsIn K mainGlobals x=some (some (.ref C)))
  (b:PySem.W.findIn K (.ref C) "__class__"=some (some (.builtin "object.__class__"))) (c:PySem.W.specialIn K (.builtin "object.__class__") "__get__"=some (some (.builtin "getset_descriptor.__get__")))
  (d:PySem.W.takesIn K (.builtin "object.__class__")=some true) (e:PySem.W.mroIn K C (.type "object")=some true):ITxt K mg x:=by
 have q:=gG (Aa2 X G a);exact ⟨by rw [q];exact b,c,d,by rw [q];exact e⟩
theorem ITxt.ty {K:W.Frag} {mg:Str->Option Value} {x:Str} (i:ITxt K mg x) (cl:Cls K (aN mg x)) {H:Hp} {a dx:Addr} {fs:List (Str×V)} (h:H a=some (.ins (aN mg x) dx fs)):TyOf K H (.ref a) (.ref (aN mg x)):=.ins h cl i.ha i.hn i.htk i.hm
theorem mX {K:W.Frag} {mg:Str->Option Value} {h:Heap} (X:K.In h) (G:h.Ns mainGlobals mg) {x:Str} {C:Addr} {t:Value} {r:Option Bool} (a:PySem.W.nsIn K mainGlobals x=some (some (.ref C))) (o:PySem.W.kitOne K t (.ref C)=r):PySem.W.kitOne K t (.ref (aN mg x))=r:=by
 rw [gG (Aa2 X G a)];exact o
def aab:List V->Hp->(Int->Int->Nat->Prop)->Prop:=fun vs _ R=>∃ (lo:Int) (n:Nat),vs=[.int lo,.int (lo+n)]/\0<=lo/\lo<=1000000/\n<=1000000/\R lo 1 n
section
variable {X:Cx}
theorem yU {a b:Expr} {ta:TA} {p p2 p3 pos:Pos} (hc:X.calm=true) (hg:Gl X "list") (hm:X.mg "list"=none) (hg2:Gl X "range") (hm2:X.mg "range"=none) (ha:JA X [a,b] ta) (h:autoParam (notStar a=true) L2.auto4._auto_1) (h2:autoParam (notStar b=true) L2.auto4._auto_1):
  JE X (.Call (.Name "list" p) [.Call (.Name "range" p2) [a,b] [] p3] [] pos) (yN aab ta):=⟨by
 intro pins s U H Q I hq;refine AaZ (jF I hg hm jH (AaI (arg1 rfl (AaZ (jF I hg2 hm2 boot_range (AaI (d7 (ha.run p3 pins s U H _ I hq) fun us s1 qq0=>?_) (bW h) (by rw [bW h2];rfl))))) rfl rfl));obtain ⟨vs,H1,I1,r1,q1⟩:=qq0;obtain ⟨lo,n,rfl,h0,h1,hn,q⟩:=q1;obtain ⟨u,w',rfl,⟨t,rfl⟩,⟨t',rfl⟩⟩:=vals2 r1;exact call_range_2 (vf hc I1 (small_one (by omega) (by omega) (by omega) (by omega)) (by rw [rangeSize_one];split <;> omega) hn q)⟩
end
section
variable {H:Hp}
theorem Ji {lo hi:Int} {n:Nat} {R:Int->Int->Nat->Prop} (e:hi=lo+n) (h0:0<=lo) (h1:lo<=1000000) (hn:n<=1000000) (h:R lo 1 n):aab [.int lo,.int hi] H R:=⟨lo,n,by rw [e],h0,h1,hn,h⟩
end
end L2
namespace L2
open PySem PySem.Spec PyProof.Rows
open PySem.Sem (wp)
open AutoSeq1 (wpAny_loadPart')
end L2
namespace L2
open PySem PySem.Spec PyProof.Rows
section
open PySem.SeqAt PySem.MeetsSeq PySem.MeetsSeq2 PySem.MeetsSeq3
open PySem.AutoSeq1 (wpAny_loadPart')
end
section
variable {X:Cx} {x:Str} {pos:Pos} {sc:Scope}
theorem aq (i:Nat) (h:autoParam (X.env.scope.names.lookup x=some .local) L2.auto7._auto_1) (hN:autoParam (X.N[i]?=some x) L2.auto4._auto_1) (hd:autoParam ((x == ("__debug__":Str))=false) L2.auto6._auto_1) (hcd:autoParam ((x == ("__classdict__":Str))=false) L2.auto6._auto_1):JE X (.Name x pos) (tY i):=W2 i h hN rfl hd hcd
theorem iC (i:Nat) (h:autoParam (X.env.scope.names.lookup x=some .cell) L2.auto7._auto_1) (hN:autoParam (X.N[i]?=some x) L2.auto4._auto_1) (hd:autoParam ((x == ("__debug__":Str))=false) L2.auto6._auto_1) (hcd:autoParam ((x == ("__classdict__":Str))=false) L2.auto6._auto_1):JE X (.Name x pos) (tY i):=j_vC i h hN rfl hd hcd
theorem aU (h:autoParam (X.env.scope.names.lookup x=some .globalImplicit) L2.auto7._auto_1):Gl X x:=h
theorem dI (h:autoParam (sc.names.lookup x=some .local) L2.auto7._auto_1):Loc sc x:=.inl h
theorem YD (h:autoParam (sc.names.lookup x=some .cell) L2.auto7._auto_1):Loc sc x:=.inr h
end
theorem Cu {K:W.Frag} {mg:Str->Option Value} {h:Heap} (X:K.In h) (G:h.Ns mainGlobals mg) {x1 x2 x3 x4 x5 m qual:Str} {C1 C2 C3 C4 C5 f:Addr} {st:Stmt} {oc:Value} {od an:Option Addr} {osl:Array (Option Value)} {kV doc pm cdv ct:Value}
  (a1:PySem.W.nsIn K mainGlobals x1=some (some (.ref C1))) (a2:PySem.W.nsIn K mainGlobals x2=some (some (.ref C2))) (a3:PySem.W.nsIn K mainGlobals x3=some (some (.ref C3))) (a4:PySem.W.nsIn K mainGlobals x4=some (some (.ref C4))) (a5:PySem.W.nsIn K mainGlobals x5=some (some (.ref C5)))
  (i1:PySem.W.findIn K (.ref C1) m=some (some (.ref f))) (i2:PySem.W.findIn K (.ref C2) m=some (some (.ref f))) (i3:PySem.W.findIn K (.ref C3) m=some (some (.ref f))) (i4:PySem.W.findIn K (.ref C4) m=some (some (.ref f))) (i5:PySem.W.findIn K (.ref C5) m=some (some (.ref f)))
  (n:PySem.W.isFn K (.ref f)=true)
  (l:K.lookup f=some ⟨oc,od,.func (PySem.W.fnOf m qual (eZ st) (bU st) (aB st) .none kV doc pm an cdv ct),osl⟩) (c:PySem.W.codeIn K cdv qual=true) (k:PySem.W.keepIn K (.ref f)=true):tU K mg [x1,x2,x3,x4,x5] m qual st:=by
 have e1:=gG (Aa2 X G a1);have e2:=gG (Aa2 X G a2);have e3:=gG (Aa2 X G a3);have e4:=gG (Aa2 X G a4);have e5:=gG (Aa2 X G a5);refine ⟨f,_,fun x hx=>?_,yp l c k⟩;simp only [Aaj,AaN,or_false] at hx;rcases hx with rfl | rfl | rfl | rfl | rfl
 ·rw [e1];exact ⟨i1,n,k⟩
 ·rw [e2];exact ⟨i2,n,k⟩
 ·rw [e3];exact ⟨i3,n,k⟩
 ·rw [e4];exact ⟨i4,n,k⟩
 ·rw [e5];exact ⟨i5,n,k⟩
theorem Ti {K:W.Frag} {mg:Str->Option Value} {x1 x2 x3 x4 x5:Str} (h1:j9 K mg x1) (h2:j9 K mg x2) (h3:j9 K mg x3) (h4:j9 K mg x4) (h5:j9 K mg x5):OTs K mg [x1,x2,x3,x4,x5]:=fun x hx=>by
 simp only [Aaj,AaN,or_false] at hx;rcases hx with rfl | rfl | rfl | rfl | rfl
 ·exact h1.cl
 ·exact h2.cl
 ·exact h3.cl
 ·exact h4.cl
 ·exact h5.cl
section
open PySem.SeqAt PySem.MeetsSeq PySem.MeetsSeq2 PySem.MeetsSeq3
open PySem.AutoSeq1 (wpAny_loadPart')
end
end L2
namespace My
open PySem L2
local macro_rules | `(tactic| walk_at "p") => `(tactic| first | exact aX _ | with_unfolding_all rfl)
local macro_rules | `(tactic| walk_at "b") => `(tactic| (first | refine jY ?_ | refine jD ?_ | refine jC ?_ | refine gn ?_ | refine gq ?_ | (refine' fW ?hz0 ?_; (case hz0 => with_unfolding_all rfl)) | refine vO ?_ | refine j6 ?_ | refine cZ ?_ | refine cQ ?_ | refine fX ?_ | refine fJ ?_ | refine cI ?_ | refine fO ?_ | refine cH ?_ | refine jV ?_ | refine cL ?_ | refine j7 ?_ | refine j0 ?_ | refine cR ?_ | refine jW ?_ | refine fP ?_ | refine fQ ?_ | refine jX ?_ | refine cM ?_ | refine fU ?_ | refine cO ?_ | refine fV ?_ | refine fK ?_ | refine cJ ?_ | refine jZ ?_ | refine j4 ?_ | refine j5 ?_ | refine fY ?_ | refine cT ?_ | refine cU ?_ | refine cV ?_ | refine cW ?_ | refine cX ?_ | refine cY ?_ | refine fZ ?_ | refine vQ ?_ | refine bC ?_ | refine dh ?_ | (refine' bN (SqT.of ?hz0) ?hz1 ?_; (case hz0 => first | assumption | exact aj); (case hz1 => rfl)) | refine bF ?_ | refine bH ?_ | refine gf ?_ | refine bG ?_ | refine dm ?_ | refine gj ?_ | refine dq ?_ | refine cz ?_ | refine cC ?_ | refine dw ?_ | refine dz ?_ | refine j8 ?_ | refine cj ?_ | refine cu ?_ | refine di ?_ | refine dj ?_ | refine bD ?_ | refine fj ?_ | refine dg ?_ | (refine' vP ?hz0 ?_; (case hz0 => with_unfolding_all first | assumption | omega | (dsimp only <;> omega) | exact ⟨by omega, by omega⟩ | exact .inl ⟨by omega, by omega⟩ | exact .inr ⟨by omega, by omega⟩ | exact ⟨by decide, by decide, by decide⟩)) | (refine' c7 ?hz0 ?_; (case hz0 => with_unfolding_all first | assumption | omega | (dsimp only <;> omega) | exact ⟨by omega, by omega⟩ | exact .inl ⟨by omega, by omega⟩ | exact .inr ⟨by omega, by omega⟩ | exact ⟨by decide, by decide, by decide⟩)) | (refine' bc (SqL.of ?hz0) ?hz1 ?_; (case hz0 => first | assumption | exact aj); (case hz1 => with_unfolding_all rfl)) | (refine' f9 (SqT.of ?hz0) ?hz1 ?_; (case hz0 => first | assumption | exact aj); (case hz1 => with_unfolding_all rfl)) | (refine' b7 ?hz0 ?hz1 ?_; (case hz0 => first | assumption | exact aj); (case hz1 => with_unfolding_all rfl)) | refine bI ?_ | refine bJ ?_ | refine gw ?_ | refine dB ?_ | refine bK ?_ | refine dD ?_ | refine bL ?_))
local macro_rules | `(tactic| walk_at "0") => `(tactic| (first | walk_at "b" | refine tK ?_ | refine tL ?_ | refine gM ?_ | refine gK ?_))
local macro_rules | `(tactic| walk_at "1") => `(tactic| (first | walk_at "b" | refine tK ?_ | refine tL ?_ | (refine' tO ?hz0 ?_; (case hz0 => with_unfolding_all rfl)) | refine gM ?_ | refine gK ?_))
local macro_rules | `(tactic| walk_at "2") => `(tactic| (first | walk_at "b" | refine tK ?_ | refine tL ?_))
local macro_rules | `(tactic| walk_at "3") => `(tactic| (first | walk_at "b" | refine iy ?_ | refine iw ?_ | refine gM ?_ | refine gK ?_))
local macro_rules | `(tactic| walk_at "4") => `(tactic| (first | walk_at "b" | refine iy ?_ | refine iw ?_ | refine PQ ?_ | refine gM ?_ | refine gK ?_))
local macro_rules | `(tactic| walk_at "5") => `(tactic| (first | walk_at "b" | refine iy ?_ | refine iw ?_ | refine gM ?_ | refine gK ?_ | refine PN ?_))
local macro_rules | `(tactic| walk_at "6") => `(tactic| (first | walk_at "b" | refine iy ?_ | refine iw ?_ | (refine' tO ?hz0 ?_; (case hz0 => with_unfolding_all rfl)) | refine gM ?_ | refine gK ?_))
local macro_rules | `(tactic| walk_at "7") => `(tactic| (first | walk_at "b" | refine iy ?_ | refine iw ?_))
abbrev KLl (d:Stmt) (x:Str):Prop:=(aB d).names.lookup x=some NameKind.local
def nI (cs:List Nat):List Int:=cs.map fun i:Nat=>(i:Int)
def tD (E:List Nat) (p:Nat):Bool:=decide (E.getD p 0 < E.getD (p+1) 0)
def aW (E:List Nat) (p:Nat):List Nat:=if tD E p=true then (E.set p (E.getD (p+1) 0)).set (p+1) (E.getD p 0) else E
def bA (E:List Nat) (ps:List Nat):List Nat:=ps.foldl aW E
theorem o7 (E ps:List Nat) (p:Nat):bA E (ps ++ [p])=aW (bA E ps) p:=by unfold bA;rw [List.foldl_append];rfl
theorem sO (E:List Nat) (p:Nat):(aW E p).length=E.length:=by unfold aW;split <;> simp
theorem lE (E ps:List Nat):(bA E ps).length=E.length:=by
 induction ps generalizing E with
 | nil=>rfl
 | cons p ps ih=>exact (ih (aW E p)).trans (sO E p)
theorem Ba {E:List Nat} {p:Nat} (h:p+1 < E.length):E=E.take p ++ E.getD p 0 :: E.getD (p+1) 0 :: E.drop (p+2)/\(E.set p (E.getD (p+1) 0)).set (p+1) (E.getD p 0)=E.take p ++ E.getD (p+1) 0 :: E.getD p 0 :: E.drop (p+2):=by
 have e1:E.getD p 0=E[p]:=by rw [Aac,Aaa (by omega)];rfl
 have e2:E.getD (p+1) 0=E[p+1]:=by rw [Aac,Aaa h];rfl
 have f:E=E.take p ++ E.getD p 0 :: E.getD (p+1) 0 :: E.drop (p+2):=by
  rw [e1,e2]
  conv=>lhs;rw [← List.take_append_drop p E]
  rw [List.drop_eq_getElem_cons (by omega),List.drop_eq_getElem_cons h]
 refine ⟨f,?_⟩;generalize E.getD p 0=a at f ⊢;generalize E.getD (p+1) 0=b at f ⊢;have lt:(E.take p).length=p:=by rw [Abs];omega
 conv=>lhs;rw [f]
 rw [List.set_append_right _ _ (by omega),lt,Abt,List.set_cons_zero,List.set_append_right _ _ (by omega),lt,show p+1 - p=1 by omega];rfl
theorem um {E:List Nat} {p:Nat} (h:p+1 < E.length):(aW E p).Perm E:=by
 unfold aW
 split
 ·obtain ⟨f1,f2⟩:=Ba h
  rw [f2]
  conv=>rhs;rw [f1]
  exact (List.Perm.swap _ _ _).append_left _
 ·exact List.Perm.refl _
theorem sS {ps:List Nat}:∀ {E:List Nat},(∀ p∈ps,p+1 < E.length)->(bA E ps).Perm E:=by
 induction ps with
 | nil=>intro E _;exact List.Perm.refl _
 | cons p ps ih=>
  intro E h;have h1:=um (h p (by simp));exact (ih (E:=aW E p) fun q hq=>by rw [sO];exact h q (Aap _ hq)).trans h1
def Qc (E:List Nat) (ps:List Nat) (i:Nat):List Nat:=(List.range i).filter fun j=>tD (bA E (ps.take j)) (ps.getD j 0)
theorem Fj (E ps:List Nat) (i:Nat):Qc E ps (i+1)=Qc E ps i ++ (if tD (bA E (ps.take i)) (ps.getD i 0)=true then [i] else []):=by
 unfold Qc;rw [Abn,List.filter_append]
 congr 1
 by_cases h:tD (bA E (ps.take i)) (ps.getD i 0)=true
 ·rw [if_pos h,List.filter_cons_of_pos (p:=fun j=>tD (bA E (ps.take j)) (ps.getD j 0)) h];rfl
 ·rw [if_neg h,List.filter_cons_of_neg (p:=fun j=>tD (bA E (ps.take j)) (ps.getD j 0)) h];rfl
theorem Tj (E ps:List Nat) (i:Nat):(Qc E ps i).length<=i:=Aay (AbG _ _) (by simp)
theorem wj {ps:List Nat} {i:Nat} (h:i < ps.length):ps.take (i+1)=ps.take i ++ [ps.getD i 0]:=by
 rw [Aa4,Aac,Aaa h];rfl
def uo (n:Nat):List (Nat×Nat):=(List.range n).flatMap fun x=>(List.range' (x+1) (n - (x+1))).map fun y=>(x,y)
def cr (t:List Nat):Nat:=(uo t.length).countP fun p=>decide (t.getD p.2 0 < t.getD p.1 0)
theorem uq {n:Nat} {p:Nat×Nat}:p∈uo n↔p.1 < p.2/\p.2 < n:=by
 unfold uo;simp only [Acj,AaO,AaA,List.mem_range'];constructor
 ·rintro ⟨x,hx,y,⟨i,hi,rfl⟩,rfl⟩
  exact ⟨by show x < x+1+1*i;omega,by show x+1+1*i < n;omega⟩
 ·rintro ⟨h1,h2⟩
  exact ⟨p.1,by omega,p.2,⟨p.2 - (p.1+1),by omega,by omega⟩,rfl⟩
theorem Cv (n:Nat):(uo n).Nodup:=by
 unfold uo List.Nodup;rw [List.pairwise_flatMap];refine ⟨fun x _=>?_,?_⟩
 ·rw [List.pairwise_map]
  exact (List.nodup_range' (s:=x+1) (n:=n - (x+1))).imp fun h e=>h (by injection e)
 ·refine List.nodup_range.imp fun {x y} h p hp q hq e=>?_
  obtain ⟨_,_,rfl⟩:=AaO.mp hp;obtain ⟨_,_,rfl⟩:=AaO.mp hq;injection e with e1 e2;exact h e1
theorem Bb {α:Type} {P Q:α->Bool} {a:α}:∀ {l:List α},l.Nodup->a∈l->(∀ b∈l,b≠a->P b=Q b)->P a=false->Q a=true->l.countP Q=l.countP P+1
 | [],_,h,_,_,_=>by cases h
 | b :: l,hn,h,he,hP,hQ=>by
  obtain ⟨hb,hn'⟩:=List.nodup_cons.mp hn;by_cases hab:b=a
  ·subst hab
   rw [List.countP_cons_of_pos hQ,List.countP_cons_of_neg (by rw [hP];simp)]
   congr 1
   exact List.countP_congr fun c hc=>by rw [he c (Aap _ hc) (fun z=>hb (z ▸ hc))]
  ·have ih:=Bb hn' ((Aaj.mp h).resolve_left fun z=>hab z.symm) (fun c hc=>he c (Aap _ hc)) hP hQ
   have e:=he b (by simp) hab;cases hq:Q b with
   | true=>rw [List.countP_cons_of_pos hq,List.countP_cons_of_pos (by rw [e,hq]),ih]
   | false=>rw [List.countP_cons_of_neg (by rw [hq];simp),List.countP_cons_of_neg (by rw [e,hq];simp),ih]
def inv (E:List Nat):List Nat:=(List.range E.length).map fun x=>E.idxOf x
theorem bV (E:List Nat):(inv E).length=E.length:=by simp [inv]
theorem kJ {E:List Nat} {x:Nat} (h:x < E.length):(inv E).getD x 0=E.idxOf x:=by
 unfold inv;rw [Aac,Aah,Aat h];rfl
theorem iz {E:List Nat} (hn:E.Nodup) {i x:Nat} (h:E[i]?=some x):E.idxOf x=i:=by
 obtain ⟨hi,rfl⟩:=Aab.mp h;exact hn.idxOf_getElem i hi
theorem Tp {E:List Nat} {n p:Nat} (hE:E.Perm (List.range n)) (hp:p+1 < n) (hw:tD E p=true):cr (inv (aW E p))=cr (inv E)+1:=by
 have hl:E.length=n:=by rw [hE.length_eq];simp
 have nd:E.Nodup:=hE.nodup_iff.mpr Ack;have hlt:∀ x∈E,x < n:=fun x hx=>AaA.mp (hE.mem_iff.mp hx)
 have hin:∀ x,x < n->x∈E:=fun x hx=>hE.mem_iff.mpr (AaA.mpr hx)
 obtain ⟨a,ha⟩:∃ a,E[p]?=some a:=⟨_,Aaa (by omega)⟩;obtain ⟨b,hb⟩:∃ b,E[p+1]?=some b:=⟨_,Aaa (by omega)⟩;have da:E.getD p 0=a:=by rw [Aac,ha];rfl
 have db:E.getD (p+1) 0=b:=by rw [Aac,hb];rfl
 have hab:a < b:=by
  unfold tD at hw;rw [da,db] at hw;exact Ab6 hw
 have eF:aW E p=(E.set p b).set (p+1) a:=by unfold aW;rw [if_pos hw,da,db]
 have fp:=um (E:=E) (p:=p) (by omega);have nF:(aW E p).Nodup:=fp.nodup_iff.mpr nd;have lF:(aW E p).length=n:=by rw [sO];exact hl
 have gF:∀ i,(aW E p)[i]?=if i=p+1 then some a else if i=p then some b else E[i]?:=fun i=>by
  rw [eF];by_cases h1:i=p+1
  ·subst h1
   rw [if_pos rfl,AaS (by simp;omega)]
  ·rw [if_neg h1,AaM (fun z=>h1 z.symm)]
   by_cases h2:i=p
   ·subst h2
    rw [if_pos rfl,AaS (by omega)]
   ·rw [if_neg h2,AaM (fun z=>h2 z.symm)]
 have ia:E.idxOf a=p:=iz nd ha;have ib:E.idxOf b=p+1:=iz nd hb;have ja:(aW E p).idxOf a=p+1:=iz nF (by rw [gF,if_pos rfl]);have jb:(aW E p).idxOf b=p:=iz nF (by rw [gF,if_neg (by omega),if_pos rfl])
 have other:∀ x,x < n->x≠a->x≠b->(aW E p).idxOf x=E.idxOf x/\E.idxOf x≠p/\E.idxOf x≠p+1:=fun x hx h1 h2=>by
  obtain ⟨i,hi,e⟩:=Abe.mp (hin x hx);have ei:E[i]?=some x:=by rw [Aaa hi,e]
  have n1:i≠p:=fun z=>h1 (by subst z;rw [ha] at ei;exact (AaE ei).symm)
  have n2:i≠p+1:=fun z=>h2 (by subst z;rw [hb] at ei;exact (AaE ei).symm)
  rw [iz nd ei];exact ⟨iz nF (by rw [gF,if_neg n2,if_neg n1,ei]),n1,n2⟩
 have han:a < n:=hlt a (Aai ha);have hbn:b < n:=hlt b (Aai hb);unfold cr;rw [bV,bV,lF,hl];refine Bb (a:=(a,b)) (Cv n) (uq.mpr ⟨hab,hbn⟩) ?_ ?_ ?_
 ·rintro ⟨x,y⟩ hxy hne
  obtain ⟨h1,h2⟩:=uq.mp hxy;dsimp only at h1 h2 ⊢;have hx:x < n:=by omega
  rw [kJ (by omega),kJ (by omega),kJ (by omega),kJ (by omega)]
  congr 1
  rw [eq_iff_iff];by_cases xa:x=a
  ·subst xa
   have yb:y≠b:=fun z=>hne (by rw [z])
   obtain ⟨o1,o2,o3⟩:=other y h2 (by omega) yb;rw [o1,ia,ja];omega
  ·by_cases xb:x=b
   ·subst xb
    obtain ⟨o1,o2,o3⟩:=other y h2 (by omega) (by omega);rw [o1,ib,jb];omega
   ·obtain ⟨q1,q2,q3⟩:=other x hx xa xb
    by_cases ya:y=a
    ·subst ya
     rw [q1,ia,ja];omega
    ·by_cases yb:y=b
     ·subst yb
      rw [q1,ib,jb];omega
     ·obtain ⟨o1,_,_⟩:=other y h2 ya yb
      rw [q1,o1]
 ·dsimp only
  rw [kJ (by omega),kJ (by omega),ia,ib];exact Aao (by omega)
 ·dsimp only
  rw [kJ (by omega),kJ (by omega),ja,jb];exact Aar (by omega)
theorem Qd (n:Nat):cr (inv (List.range n))=0:=by
 unfold cr;rw [List.countP_eq_zero];rintro ⟨x,y⟩ h;rw [bV,AbK] at h;obtain ⟨h1,h2⟩:=uq.mp h;dsimp only at h1 h2 ⊢;have e:∀ z,z < n->(List.range n).idxOf z=z:=fun z hz=>iz Ack (Aat hz)
 rw [kJ (by simpa using h2),kJ (by simp;omega),e y h2,e x (by omega)];simp;omega
theorem Qe {n:Nat} {ps:List Nat} (hp:∀ p∈ps,p+1 < n):∀ i,i<=ps.length->cr (inv (bA (List.range n) (ps.take i)))=(Qc (List.range n) ps i).length
 | 0,_=>by rw [List.take_zero];exact Qd n
 | i+1,h=>by
  have ih:=Qe hp i (by omega);have hmem:ps.getD i 0∈ps:=by rw [Aac,Aaa (by omega)];exact Aa6 _
  have hpm:(bA (List.range n) (ps.take i)).Perm (List.range n):=sS fun q hq=>by simpa using hp q (AbL hq)
  rw [wj (by omega),o7,Fj];by_cases hw:tD (bA (List.range n) (ps.take i)) (ps.getD i 0)=true
  ·rw [Tp hpm (hp _ hmem) hw,ih,if_pos hw];simp
  ·rw [if_neg hw,AaL,← ih]
   unfold aW;rw [if_neg hw]
structure Prm (t:List Nat):Prop where
 le:t.length<=96
 pm:t.Perm (List.range t.length)
theorem Prm.nd {t:List Nat} (h:Prm t):t.Nodup:=h.pm.nodup_iff.mpr Ack
theorem Prm.lt {t:List Nat} (h:Prm t) {x:Nat} (hx:x∈t):x < t.length:=AaA.mp (h.pm.mem_iff.mp hx)
theorem Prm.mem {t:List Nat} (h:Prm t) {x:Nat} (hx:x < t.length):x∈t:=h.pm.mem_iff.mpr (AaA.mpr hx)
theorem Lq {n:Nat} (h:n<=96):Prm (List.range n):=⟨by simpa using h,by simp⟩
theorem Jj {n:Nat} {ps:List Nat} (h:n<=96) (hp:∀ p∈ps,p+1 < n):Prm (bA (List.range n) ps):=by
 have hl:(bA (List.range n) ps).length=n:=by rw [lE];simp
 refine ⟨by omega,?_⟩;rw [hl];exact sS fun p hp'=>by simpa using hp p hp'
theorem wu {t r:List Nat} (hP:Prm t) (hl:r.length=t.length) (h:∀ (i x:Nat),t[i]?=some x->r[x]?=some i):r=inv t:=by
 refine AbJ fun x=>?_
 by_cases hx:x < t.length
 ·obtain ⟨i,hi,e⟩:=Abe.mp (hP.mem hx)
  have ei:t[i]?=some x:=by rw [Aaa hi,e]
  rw [h i x ei];unfold inv;rw [Aah,Aat hx];show some i=some (t.idxOf x);rw [iz hP.nd ei]
 ·rw [AaY (by omega),AaY (by rw [bV];omega)]
theorem n6 {E:List Nat} (h:Prm E):Prm (inv E):=by
 have hl:=bV E;refine ⟨by rw [hl];exact h.le,?_⟩;rw [hl]
 have nd:(inv E).Nodup:=by
  unfold inv;unfold List.Nodup;rw [List.pairwise_map];refine List.nodup_range.imp_of_mem fun {x y} hx hy ne e=>ne ?_
  have key:∀ z,z∈List.range E.length->E.getD (E.idxOf z) 0=z:=fun z hz=>by
   have hi:E.idxOf z < E.length:=List.idxOf_lt_length_iff.mpr (h.mem (AaA.mp hz));rw [Aac,Aaa hi];exact List.getElem_idxOf hi
  rw [← key x hx,← key y hy,e]
 refine (List.perm_ext_iff_of_nodup nd Ack).mpr fun x=>?_
 rw [AaA];constructor
 ·intro hx
  unfold inv at hx;obtain ⟨y,hy,rfl⟩:=AaO.mp hx;exact List.idxOf_lt_length_iff.mpr (h.mem (AaA.mp hy))
 ·intro hx
  unfold inv;refine AaO.mpr ⟨E[x],AaA.mpr (h.lt (Aa6 hx)),?_⟩;exact iz h.nd (Aaa hx)
theorem sU {t:List Nat} (h:Prm t):inv (inv t)=t:=by
 refine (wu (n6 h) (by rw [bV]) fun i x e=>?_).symm;have hi:i < t.length:=by have:=(Aab.mp e).1;rwa [bV] at this
 have e2:(inv t)[i]?=some (t.idxOf i):=by unfold inv;rw [Aah,Aat hi];rfl
 rw [e] at e2;cases e2;have hx:t.idxOf i < t.length:=List.idxOf_lt_length_iff.mpr (h.mem hi);rw [Aaa hx];exact congrArg some (List.getElem_idxOf hx)
def zF (B:List Nat) (p:Nat):List Nat:=(B.set p (B.getD (p+1) 0)).set (p+1) (B.getD p 0)
theorem pN (B:List Nat) (p:Nat):(zF B p).length=B.length:=by unfold zF;simp
theorem getD_some {B:List Nat} {i:Nat} (h:i < B.length):B[i]?=some (B.getD i 0):=by rw [Aac,Aaa h];rfl
theorem jq {B:List Nat} {p:Nat} (h:p+1 < B.length) (i:Nat):(zF B p).getD i 0=if i=p+1 then B.getD p 0 else if i=p then B.getD (p+1) 0 else B.getD i 0:=by
 unfold zF;rw [Aac];by_cases h1:i=p+1
 ·subst h1
  rw [if_pos rfl,AaS (by simp;omega)];rfl
 ·rw [if_neg h1,AaM (fun z=>h1 z.symm)]
  by_cases h2:i=p
  ·subst h2
   rw [if_pos rfl,AaS (by omega)];rfl
  ·rw [if_neg h2,AaM (fun z=>h2 z.symm),← Aac]
theorem yV {A B:List Nat} (hl:A.length=B.length) (h:∀ i,i < A.length->A.getD i 0=B.getD i 0):A=B:=by
 refine AbJ fun i=>?_
 by_cases hi:i < A.length
 ·rw [getD_some hi,getD_some (by omega),h i hi]
 ·rw [AaY (by omega),AaY (by omega)]
theorem Tq {B:List Nat} {p:Nat} (h:p+1 < B.length):zF (zF B p) p=B:=by
 refine yV (by rw [pN,pN]) fun i _=>?_
 rw [jq (by rw [pN];exact h),jq h,jq h,jq h];by_cases h1:i=p+1
 ·subst h1;simp
 ·by_cases h2:i=p
  ·subst h2;simp
  ·simp [h1,h2]
theorem yW {B:List Nat} {p:Nat} (h:tD B p=true):aW B p=zF B p:=by unfold aW zF;rw [if_pos h]
def inn:Nat->List Nat->List Nat->List Nat×List Nat
 | 0,B,u=>(B,u)
 | p+1,B,u=>if B.getD (p+1) 0 < B.getD p 0 then inn p (zF B p) (u ++ [p]) else (B,u)
def ww (B:List Nat):Nat->List Nat×List Nat
 | 0=>(B,[])
 | k+1=>inn (k+1) (ww B k).1 (ww B k).2
def Wk:List Nat->List Nat->Prop
 | _,[]=>True
 | B,p :: us=>tD B p=true/\Wk (aW B p) us
theorem Vl:∀ {us B:List Nat} {j:Nat},Wk B us->j < us.length->tD (bA B (us.take j)) (us.getD j 0)=true
 | p :: us,B,0,h,_=>h.1
 | p :: us,B,j+1,h,hj=>Vl (us:=us) (B:=aW B p) (j:=j) h.2 (by simpa using hj)
theorem Xy {B us:List Nat} (h:Wk B us):Qc B us us.length=List.range us.length:=by
 unfold Qc;rw [List.filter_eq_self];intro j hj;exact Vl h (AaA.mp hj)
structure Sx (B0:List Nat) (n:Nat) (B u:List Nat):Prop where
 len:B.length=n
 pm:B.Perm (List.range n)
 lt:∀ p∈u,p+1 < n
 back:bA B u.reverse=B0
 wk:Wk B u.reverse
 link:∀ i,i < n->B.getD i 0=B0.getD ((bA (List.range n) u).getD i 0) 0
theorem Vm {n:Nat} {u:List Nat} (h:∀ p∈u,p+1 < n):(bA (List.range n) u).Perm (List.range n):=sS fun p hp=>by simpa using h p hp
theorem Cw {G:List Nat} {n i j:Nat} (h:G.Perm (List.range n)) (hi:i < n) (hj:j < n) (e:G.getD i 0=G.getD j 0):i=j:=by
 have nd:G.Nodup:=h.nodup_iff.mpr Ack;have hl:G.length=n:=by rw [h.length_eq];simp
 have h1:=iz nd (getD_some (B:=G) (i:=i) (by omega));have h2:=iz nd (getD_some (B:=G) (i:=j) (by omega));rw [e] at h1;omega
theorem Qf {G:List Nat} {n i:Nat} (h:G.Perm (List.range n)) (hi:i < n):G.getD i 0 < n:=by
 have hl:G.length=n:=by rw [h.length_eq];simp
 exact AaA.mp (h.mem_iff.mp (Aai (getD_some (by omega))))
theorem Qg {B0:List Nat} {n m:Nat} (hm:m < n):∀ (p:Nat) (B u:List Nat),p<=m->Sx B0 n B u->(∀ i j,i < j->j<=m->j≠p->B.getD i 0 < B.getD j 0)->
  (bA (List.range n) u).getD p 0=m->(∀ i,i<=m->(bA (List.range n) u).getD i 0<=m)->(∀ i,m < i->i < n->(bA (List.range n) u).getD i 0=i)->
  Sx B0 n (inn p B u).1 (inn p B u).2/\(∀ i j,i < j->j<=m->(inn p B u).1.getD i 0 < (inn p B u).1.getD j 0)/\(∀ i,i<=m->(bA (List.range n) (inn p B u).2).getD i 0<=m)/\(∀ i,m < i->i < n->(bA (List.range n) (inn p B u).2).getD i 0=i)
 | 0,B,u,_,S,srt,_,gle,gid=>⟨S,fun i j h1 h2=>srt i j h1 h2 (by omega),gle,gid⟩
 | p+1,B,u,hp,S,srt,gm,gle,gid=>by
  have hB:=S.len;have hG:=Vm S.lt;have lG:(bA (List.range n) u).length=n:=by rw [hG.length_eq];simp
  unfold inn;by_cases hc:B.getD (p+1) 0 < B.getD p 0
  ·rw [if_pos hc]
   have hp1:p+1 < B.length:=by omega
   have w1:tD (zF B p) p=true:=by
    unfold tD;rw [jq hp1,jq hp1,if_neg (by omega),if_pos rfl,if_pos rfl];exact Aar hc
   have w2:tD (bA (List.range n) u) p=true:=by
    unfold tD;rw [gm];refine Aar ?_;have h1:=gle p (by omega)
    have h2:(bA (List.range n) u).getD p 0≠m:=fun z=>by
     have:=Cw hG (i:=p) (j:=p+1) (by omega) (by omega) (by rw [z,gm]);omega
    omega
   have eG:bA (List.range n) (u ++ [p])=zF (bA (List.range n) u) p:=by rw [o7,yW w2]
   have bk:aW (zF B p) p=B:=by rw [yW w1,Tq hp1]
   have S':Sx B0 n (zF B p) (u ++ [p]):=by
    refine ⟨by rw [pN];exact hB,?_,?_,?_,?_,?_⟩
    ·have:=um (E:=zF B p) (p:=p) (by rw [pN];exact hp1)
     rw [bk] at this;exact this.symm.trans S.pm
    ·intro q hq
     rcases Aaz.mp hq with h | h
     ·exact S.lt q h
     ·rw [Aam.mp h];omega
    ·rw [List.reverse_append]
     show bA (aW (zF B p) p) u.reverse=B0;rw [bk];exact S.back
    ·rw [List.reverse_append]
     show tD (zF B p) p=true/\Wk (aW (zF B p) p) u.reverse;rw [bk];exact ⟨w1,S.wk⟩
    ·intro i hi
     rw [eG,jq hp1,jq (by omega)];by_cases h1:i=p+1
     ·rw [if_pos h1,if_pos h1];exact S.link p (by omega)
     ·rw [if_neg h1,if_neg h1]
      by_cases h2:i=p
      ·rw [if_pos h2,if_pos h2];exact S.link (p+1) (by omega)
      ·rw [if_neg h2,if_neg h2];exact S.link i hi
   refine Qg hm p (zF B p) (u ++ [p]) (by omega) S' (fun i j h1 h2 h3=>?_) ?_ (fun i hi=>?_) fun i h1 h2=>?_
   ·rw [jq hp1,jq hp1]
    by_cases j1:j=p+1
    ·subst j1
     rw [if_neg (show ¬ i=p+1 by omega),if_pos rfl];by_cases i2:i=p
     ·rw [if_pos i2];exact hc
     ·rw [if_neg i2];exact srt i p (by omega) (by omega) (by omega)
    ·rw [if_neg j1,if_neg h3]
     by_cases i1:i=p+1
     ·rw [if_pos i1];exact srt p j (by omega) h2 j1
     ·rw [if_neg i1]
      by_cases i2:i=p
      ·rw [if_pos i2];exact srt (p+1) j (by omega) h2 j1
      ·rw [if_neg i2];exact srt i j h1 h2 j1
   ·rw [eG,jq (by omega),if_neg (by omega),if_pos rfl];exact gm
   ·rw [eG,jq (by omega)]
    by_cases i1:i=p+1
    ·rw [if_pos i1];exact gle p (by omega)
    ·rw [if_neg i1]
     by_cases i2:i=p
     ·rw [if_pos i2];exact gle (p+1) hp
     ·rw [if_neg i2];exact gle i hi
   ·rw [eG,jq (by omega),if_neg (by omega),if_neg (by omega)];exact gid i h1 h2
  ·rw [if_neg hc]
   refine ⟨S,fun i j h1 h2=>?_,gle,gid⟩;show B.getD i 0 < B.getD j 0;by_cases hj:j=p+1
   ·subst hj
    have hne:B.getD p 0≠B.getD (p+1) 0:=fun z=>by
     have:=Cw S.pm (i:=p) (j:=p+1) (by omega) (by omega) z;omega
    by_cases hi:i=p
    ·subst hi;omega
    ·have:=srt i p (by omega) (by omega) (by omega)
     omega
   ·exact srt i j h1 h2 hj
theorem Qh {B0:List Nat} {n:Nat} (hB:B0.Perm (List.range n)):∀ k,k < n->Sx B0 n (ww B0 k).1 (ww B0 k).2/\(∀ i j,i < j->j<=k->(ww B0 k).1.getD i 0 < (ww B0 k).1.getD j 0)/\(∀ i,i<=k->(bA (List.range n) (ww B0 k).2).getD i 0<=k)/\(∀ i,k < i->i < n->(bA (List.range n) (ww B0 k).2).getD i 0=i)
 | 0,h=>by
  have hl:B0.length=n:=by rw [hB.length_eq];simp
  have hr:∀ i,i < n->(List.range n).getD i 0=i:=fun i hi=>by rw [Aac,Aat hi];rfl
  refine ⟨⟨hl,hB,(fun p hp=>by cases hp),rfl,trivial,fun i hi=>?_⟩,(fun i j h1 h2=>by omega),fun i hi=>?_,fun i _ hi=>hr i hi⟩
  ·show B0.getD i 0=B0.getD ((List.range n).getD i 0) 0
   rw [hr i hi]
  ·have:i=0:=by omega
   subst this;show (List.range n).getD 0 0<=0;rw [hr 0 h];exact Aad _
 | k+1,h=>by
  obtain ⟨S,srt,gle,gid⟩:=Qh hB k (by omega);show Sx B0 n (inn (k+1) (ww B0 k).1 (ww B0 k).2).1 (inn (k+1) (ww B0 k).1 (ww B0 k).2).2/\_;refine Qg h (k+1) _ _ (Aad _) S (fun i j h1 h2 h3=>srt i j h1 (by omega)) (gid (k+1) (by omega) h) (fun i hi=>?_) fun i h1 h2=>gid i (by omega) h2
  by_cases e:i=k+1
  ·subst e;rw [gid (k+1) (by omega) h];exact Aad _
  ·have:=gle i (by omega);omega
theorem Cy {B:List Nat} {n:Nat} (hl:B.length=n) (hlt:∀ i,i < n->B.getD i 0 < n) (h:∀ i j,i < j->j < n->B.getD i 0 < B.getD j 0):B=List.range n:=by
 have mono:∀ d i,i+d < n->B.getD i 0+d<=B.getD (i+d) 0:=fun d=>by
  induction d with
  | zero=>intro i _;exact Aad _
  | succ d ih=>
   intro i hi;have h1:=ih i (by omega);have h2:=h (i+d) (i+(d+1)) (by omega) hi;omega
 refine yV (by rw [hl];simp) fun i hi=>?_
 rw [hl] at hi;rw [show (List.range n).getD i 0=i by rw [Aac,Aat hi];rfl];have h1:=mono i 0 (by omega);have h2:=mono (n - 1 - i) i (by omega);have h3:=hlt (i+(n - 1 - i)) (by omega);rw [Nat.zero_add] at h1;omega
def Lr (t:List Nat):List Nat:=(ww (inv t) (t.length - 1)).2
structure Und (t u:List Nat):Prop where
 lt:∀ p∈u,p+1 < t.length
 back:bA (List.range t.length) u.reverse=inv t
 wk:Qc (List.range t.length) u.reverse u.reverse.length=List.range u.reverse.length
 fw:bA (List.range t.length) u=t
theorem Ho {t:List Nat} (h:Prm t):Und t (Lr t):=by
 have hP:=n6 h;have hl:=bV t;by_cases h0:t.length=0
 ·have e:t=[]:=List.length_eq_zero_iff.mp h0
  subst e;exact ⟨(fun p hp=>by cases hp),rfl,rfl,rfl⟩
 ·have pm:(inv t).Perm (List.range t.length):=by have:=hP.pm;rwa [hl] at this
  obtain ⟨S,srt,_,_⟩:=Qh pm (t.length - 1) (by omega);have e:(ww (inv t) (t.length - 1)).1=List.range t.length:=Cy S.len (fun i hi=>Qf S.pm hi) fun i j h1 h2=>srt i j h1 (by omega)
  have bk:=S.back;have wk:=S.wk;have lk:=S.link;rw [e] at bk wk lk;refine ⟨S.lt,bk,Xy wk,?_⟩;have hG:=Vm S.lt;have lG:(bA (List.range t.length) (ww (inv t) (t.length - 1)).2).length=t.length:=by rw [hG.length_eq];simp
  refine (wu (t:=inv t) hP (by rw [hl];exact lG) fun i x ex=>?_).trans (sU h);have hi:i < t.length:=by have:=(Aab.mp ex).1;omega
  have dx:(inv t).getD i 0=x:=by rw [Aac,ex];rfl
  have hx:x < t.length:=by rw [← dx];exact Qf pm hi
  have l1:=lk x hx;rw [show (List.range t.length).getD x 0=x by rw [Aac,Aat hx];rfl,← dx] at l1;have gx:=Qf hG hx;have:=Cw pm hi gx (by rw [← dx];exact l1);exact (getD_some (B:=bA (List.range t.length) (ww (inv t) (t.length - 1)).2) (by rw [lG];exact hx)).trans (congrArg some this.symm)
theorem pairs_len {n:Nat} (h:n<=96):(uo n).length<=6000:=by
 have key:∀ n,n < 97->((List.range n).map fun x=>n - (x+1)).sum<=6000:=by trivial
 unfold uo;rw [List.length_flatMap];have:=key n (by omega);simpa using this
theorem aac {t:List Nat} (h:t.length<=96):cr t<=6000:=Aay List.countP_le_length (pairs_len h)
theorem Tr {t:List Nat} (h:Prm t):(Lr t).reverse.length=cr t:=by
 have U:=Ho h;have hp:∀ p∈(Lr t).reverse,p+1 < t.length:=fun p hp=>U.lt p (AbU.mp hp)
 have e:=Qe hp (Lr t).reverse.length (Aad _);rw [Abj,U.back,sU h,U.wk,AbK] at e;exact e.symm
def cN (p x:Nat):Nat:=if p<=x then 1 else 0
def N:List Nat->Nat->Nat->Nat
 | [],_,_=>0
 | _ :: _,_,0=>0
 | x :: B,p,q+1=>cN p x+N B p q
theorem qO (B:List Nat) (p:Nat):N B p 0=0:=by cases B <;> rfl
theorem Fl:∀ (L M:List Nat) (p q:Nat),N (L ++ M) p q=N L p q+N M p (q - L.length)
 | [],M,p,q=>by simp [N]
 | x :: L,M,p,0=>by simp [N,qO]
 | x :: L,M,p,q+1=>by
  rw [List.cons_append];show cN p x+N (L ++ M) p q=cN p x+N L p q+N M p (q+1 - (L.length+1));rw [Fl L M p q,show q+1 - (L.length+1)=q - L.length by omega];omega
theorem Cz:∀ (L:List Nat) (p q:Nat),L.length<=q->N L p q=N L p L.length
 | [],p,q,_=>rfl
 | x :: L,p,0,h=>by simp at h
 | x :: L,p,q+1,h=>by
  show cN p x+N L p q=cN p x+N L p L.length;rw [Cz L p q (by simpa using h)]
theorem yX:∀ {B:List Nat} {p q:Nat},q < B.length->N B p (q+1)=N B p q+cN p (B.getD q 0)
 | x :: B,p,0,_=>by
  show cN p x+N B p 0=0+cN p x;rw [qO];omega
 | x :: B,p,q+1,h=>by
  show cN p x+N B p (q+1)=cN p x+N B p q+cN p ((x :: B).getD (q+1) 0);rw [yX (B:=B) (q:=q) (by simpa using h)];simp;omega
theorem aad {A B:List Nat} {n:Nat} (ha:A.length=n) (hb:B.length=n) (la:∀ x∈A,x < n) (lb:∀ x∈B,x < n) (h:∀ p q,p<=n->q<=n->N A p q=N B p q):A=B:=by
 refine yV (by omega) fun i hi=>?_
 have key:∀ p,p<=n->cN p (A.getD i 0)=cN p (B.getD i 0):=fun p hp=>by
  have h1:=h p (i+1) hp (by omega);rw [yX (by omega),yX (by omega),h p i hp (by omega)] at h1;omega
 have ma:=la _ (Aai (getD_some (B:=A) (i:=i) (by omega)));have mb:=lb _ (Aai (getD_some (B:=B) (i:=i) (by omega)));have k1:=key (A.getD i 0) (by omega);have k2:=key (B.getD i 0) (by omega);unfold cN at k1 k2;rw [if_pos (Aad _)] at k1;rw [if_pos (Aad (B.getD i 0))] at k2
 split at k1
 ·split at k2
  ·omega
  ·cases k2
 ·cases k1
theorem Qi {B:List Nat} {i:Nat} (h:i+1 < B.length) (p q:Nat):N (aW B i) p q=if q=i+1 then min (N B p i+1) (N B p (i+2)) else N B p q:=by
 obtain ⟨f1,f2⟩:=Ba h
 have e:aW B i=B.take i ++ max (B.getD i 0) (B.getD (i+1) 0) :: min (B.getD i 0) (B.getD (i+1) 0) :: B.drop (i+2):=by
  unfold aW
  split
  ·rename_i hw
   have hw':B.getD i 0 < B.getD (i+1) 0:=Ab6 hw;rw [f2,Nat.max_eq_right (by omega),Nat.min_eq_left (by omega)]
  ·rename_i hw
   have hw':¬ B.getD i 0 < B.getD (i+1) 0:=fun z=>hw (Aar z)
   rw [Nat.max_eq_left (by omega),Aci (by omega)];exact f1
 have lL:(B.take i).length=i:=by rw [Abs];omega
 generalize B.getD i 0=a at f1 e;generalize B.getD (i+1) 0=b at f1 e;generalize B.take i=L at f1 e lL;generalize B.drop (i+2)=R at f1 e;rw [e,f1,Fl,Fl,Fl,Fl,lL];have hc:cN p (max a b)+cN p (min a b)=cN p a+cN p b:=by unfold cN;split <;> split <;> split <;> split <;> omega
 have hm:cN p (max a b)=min 1 (cN p a+cN p b):=by unfold cN;split <;> split <;> split <;> omega
 by_cases h1:q=i+1
 ·subst h1
  rw [if_pos rfl,show i+1 - i=1 by omega,show i - i=0 by omega,show i+2 - i=2 by omega,Cz L p (i+1) (by omega),Cz L p i (by omega),Cz L p (i+2) (by omega),qO];show N L p L.length+(cN p (max a b)+N (min a b :: R) p 0)=min (N L p L.length+0+1) (N L p L.length+(cN p a+(cN p b+N R p 0)));rw [qO,qO,hm];omega
 ·rw [if_neg h1]
  congr 1
  by_cases h2:q<=i
  ·rw [show q - i=0 by omega,qO,qO]
  ·obtain ⟨k,hk⟩:∃ k,q - i=k+2:=⟨q - i - 2,by omega⟩
   rw [hk];show cN p (max a b)+(cN p (min a b)+N R p k)=cN p a+(cN p b+N R p k);omega
theorem CG (n p:Nat):∀ q,q<=n->N (List.range n) p q=q - p
 | 0,_=>by rw [qO];omega
 | q+1,h=>by
  rw [yX (by simp;omega),CG n p q (by omega),show (List.range n).getD q 0=q by rw [Aac,Aat (by omega)];rfl];unfold cN
  split <;> omega
theorem Hq {B:List Nat} {p:Nat} {m:Nat}:∀ d,m+d<=B.length->N B p m<=N B p (m+d)/\N B p (m+d)<=N B p m+d
 | 0,_=>⟨Aad _,Aad _⟩
 | d+1,h=>by
  have:=Hq (B:=B) (p:=p) (m:=m) d (by omega);have e:=yX (B:=B) (p:=p) (q:=m+d) (by omega);have:cN p (B.getD (m+d) 0)<=1:=by unfold cN;split <;> omega
  rw [show m+(d+1)=m+d+1 by omega,e];omega
theorem Xz {B:List Nat} {p q m:Nat} (hq:q<=B.length) (hm:m<=B.length):N B p q<=N B p m+(q - m):=by
 by_cases h:m<=q
 ·have:=(Hq (B:=B) (p:=p) (m:=m) (q - m) (by omega)).2
  rw [show m+(q - m)=q by omega] at this;exact this
 ·have:=(Hq (B:=B) (p:=p) (m:=q) (m - q) (by omega)).1
  rw [show q+(m - q)=m by omega] at this;omega
def Mp (n:Nat) (A B C:List Nat):Prop:=∀ p q,p<=n->q<=n->(∀ m,m<=n->N A p q<=N B p m+N C m q)/\∃ m,m<=n/\N A p q=N B p m+N C m q
theorem Tt {E:List Nat} {n:Nat} (hl:E.length=n):Mp n E E (List.range n):=fun p q hp hq=>by
 refine ⟨fun m hm=>?_,q,hq,?_⟩
 ·rw [CG n m q hq]
  exact Xz (by omega) (by omega)
 ·rw [CG n q q hq];omega
theorem Hr {E:List Nat} {n:Nat} {s:List Nat} (hl:E.length=n) (hs:∀ p∈s,p+1 < n):∀ k,k<=s.length->Mp n (bA E (s.take k)) E (bA (List.range n) (s.take k))
 | 0,_=>by rw [List.take_zero];exact Tt hl
 | k+1,hk=>by
  have ih:=Hr hl hs k (by omega);have hi:s.getD k 0+1 < n:=hs _ (Aai (getD_some (by omega)));rw [wj (by omega),o7,o7];have l1:(bA E (s.take k)).length=n:=by rw [lE];exact hl
  have l2:(bA (List.range n) (s.take k)).length=n:=by rw [lE];simp
  generalize bA E (s.take k)=F at ih l1;generalize bA (List.range n) (s.take k)=D at ih l2;generalize s.getD k 0=i at hi;intro p q hp hq;rw [Qi (by omega)];have st:∀ m,N (aW D i) m q=if q=i+1 then min (N D m i+1) (N D m (i+2)) else N D m q:=fun m=>Qi (by omega) m q
  by_cases h1:q=i+1
  ·subst h1
   rw [if_pos rfl];obtain ⟨a1,m1,b1,c1⟩:=ih p i hp (by omega);obtain ⟨a2,m2,b2,c2⟩:=ih p (i+2) hp (by omega);refine ⟨fun m hm=>?_,?_⟩
   ·rw [st m,if_pos rfl]
    have:=a1 m hm;have:=a2 m hm;omega
   ·by_cases hc:N F p i+1<=N F p (i+2)
    ·refine ⟨m1,b1,?_⟩
     rw [st m1,if_pos rfl];have:=a2 m1 b1;omega
    ·refine ⟨m2,b2,?_⟩
     rw [st m2,if_pos rfl];have:=a1 m2 b2;omega
  ·rw [if_neg h1]
   obtain ⟨a1,m1,b1,c1⟩:=ih p q hp hq;refine ⟨fun m hm=>?_,m1,b1,?_⟩
   ·rw [st m,if_neg h1];exact a1 m hm
   ·rw [st m1,if_neg h1];exact c1
theorem Vn {n:Nat} {A A' B C:List Nat} (h:Mp n A B C) (h':Mp n A' B C) {p q:Nat} (hp:p<=n) (hq:q<=n):N A p q<=N A' p q:=by
 obtain ⟨m,hm,e⟩:=(h' p q hp hq).2;rw [e];exact (h p q hp hq).1 m hm
structure Pn (n:Nat) (A:List Nat):Prop where
 len:A.length=n
 lt:∀ x∈A,x < n
theorem Prm.pn {t:List Nat} {n:Nat} (h:Prm t) (hn:t.length=n):Pn n t:=⟨hn,fun x hx=>by rw [← hn];exact h.lt hx⟩
theorem Ls {n:Nat} {A A' B C:List Nat} (a:Pn n A) (a':Pn n A') (h:Mp n A B C) (h':Mp n A' B C):A=A':=
 aad a.len a'.len a.lt a'.lt fun p q hp hq=>Nat.le_antisymm (Vn h h' hp hq) (Vn h' h hp hq)
theorem Tu {t:List Nat} (h:Prm t) {i:Nat} (hi:i < t.length):(inv t).getD (t.getD i 0) 0=i:=by
 have hx:=h.lt (Aai (getD_some hi));rw [kJ hx];exact iz h.nd (getD_some hi)
def lay (x y:List Nat):List Nat:=inv (bA (inv x) (Lr y).reverse)
structure Two (n:Nat) (x y:List Nat):Prop where
 px:Prm x
 py:Prm y
 lx:x.length=n
 ly:y.length=n
theorem Two.lt {n:Nat} {x y:List Nat} (h:Two n x y):∀ p∈(Lr y).reverse,p+1 < n:=fun p hp=>by
 have:=(Ho h.py).lt p (AbU.mp hp);rw [h.ly] at this;exact this
theorem Qj {E ps:List Nat} (h:Prm E) (hp:∀ p∈ps,p+1 < E.length):Prm (bA E ps):=by
 have hl:=lE E ps;refine ⟨by rw [hl];exact h.le,?_⟩;rw [hl];exact (sS hp).trans h.pm
theorem Two.run {n:Nat} {x y:List Nat} (h:Two n x y):Prm (bA (inv x) (Lr y).reverse)/\(bA (inv x) (Lr y).reverse).length=n:=
 ⟨Qj (n6 h.px) fun p hp=>by rw [bV,h.lx];exact h.lt p hp,by rw [lE,bV,h.lx]⟩
theorem Two.lay {n:Nat} {x y:List Nat} (h:Two n x y):Prm (lay x y)/\(lay x y).length=n/\Mp n (inv (lay x y)) (inv x) (inv y):=by
 obtain ⟨hP,hl⟩:=h.run;unfold My.lay;refine ⟨n6 hP,by rw [bV];exact hl,?_⟩;rw [sU hP];have:=Hr (E:=inv x) (n:=n) (s:=(Lr y).reverse) (by rw [bV,h.lx]) h.lt (Lr y).reverse.length (Aad _);rw [Abj] at this;have e:=(Ho h.py).back;rw [h.ly] at e;rw [e] at this;exact this
theorem Lw (n:Nat) (h:n<=96):inv (List.range n)=List.range n:=
 (wu (Lq h) rfl fun i x e=>by
  obtain ⟨hi,e⟩:=Aab.mp e;rw [List.getElem_range] at e;rw [← e,Aat (by simpa using hi)]).symm
def rs (m:Nat) (e:Nat->Nat->Bool) (far i:Nat):List Nat:=(List.range far).flatMap fun j=>if e i j=true then [] else [m - 1 - i+j]
def al (m far:Nat) (e:Nat->Nat->Bool) (n:Nat):List Nat:=(List.range n).flatMap fun i=>rs m e far i
def Dn (n:Nat) (ps:List Nat):List Nat:=bA (List.range n) ps
theorem n8 (E a b:List Nat):bA E (a ++ b)=bA (bA E a) b:=by unfold bA;rw [List.foldl_append]
theorem qP {n:Nat} {ps:List Nat} (h:n<=96) (hp:∀ p∈ps,p+1 < n):Prm (Dn n ps):=Jj h hp
theorem pO (n:Nat) (ps:List Nat):(Dn n ps).length=n:=by unfold Dn;rw [lE];simp
theorem aae {n:Nat} {a b:List Nat} (hb:∀ p∈b,p+1 < n):Mp n (Dn n (a ++ b)) (Dn n a) (Dn n b):=by
 have:=Hr (E:=Dn n a) (n:=n) (s:=b) (pO n a) hb b.length (Aad _);rw [Abj] at this;unfold Dn at this ⊢;rw [n8];exact this
theorem iR {α β:Type} {f g:α->List β}:∀ {l:List α},(∀ x∈l,f x=g x)->l.flatMap f=l.flatMap g
 | [],_=>rfl
 | x :: l,h=>by rw [List.flatMap_cons,List.flatMap_cons,h x (by simp),iR fun y hy=>h y (by simp [hy])]
theorem CJ {m far n:Nat} {e:Nat->Nat->Bool} {p:Nat} (hp:p∈al m far e n):∃ i j,i < n/\j < far/\p=m - 1 - i+j:=by
 unfold al rs at hp;obtain ⟨i,hi,h⟩:=Acj.mp hp;obtain ⟨j,hj,h⟩:=Acj.mp h;refine ⟨i,j,AaA.mp hi,AaA.mp hj,?_⟩
 split at h
 ·cases h
 ·exact Aam.mp h
theorem o8 {m far:Nat} {e:Nat->Nat->Bool}:∀ p∈al m far e m,p+1 < m+far:=fun p hp=>by
 obtain ⟨i,j,hi,hj,rfl⟩:=CJ hp;omega
theorem Qk {A E B:List Nat} {k p:Nat} (h:p+1 < E.length):aW (A ++ (E.map (k+ ·) ++ B)) (A.length+p)=A ++ ((aW E p).map (k+ ·) ++ B):=by
 have g:∀ i,i < E.length->(A ++ (E.map (k+ ·) ++ B)).getD (A.length+i) 0=k+E.getD i 0:=fun i hi=>by
  rw [Aac,Aas (by omega),Abw,Aaw (by simpa using hi),Aah,getD_some hi];rfl
 have w:tD (A ++ (E.map (k+ ·) ++ B)) (A.length+p)=tD E p:=by
  unfold tD;rw [g p (by omega),Nat.add_assoc,g (p+1) h];exact decide_eq_decide.mpr (by omega)
 unfold aW;rw [w]
 split
 ·rw [g p (by omega),Nat.add_assoc,g (p+1) h]
  have st:∀ (M:List Nat) (x i:Nat),i < M.length->(A ++ (M ++ B)).set (A.length+i) x=A ++ (M.set i x ++ B):=fun M x i hi=>by
   rw [List.set_append_right _ _ (by omega),Abw,List.set_append_left _ _ hi]
  rw [st _ _ p (by rw [Aaf];omega),st _ _ (p+1) (by rw [AbZ,Aaf];omega),List.map_set,List.map_set]
 ·rfl
theorem CK {A B:List Nat} {k:Nat}:∀ {ps E:List Nat},(∀ p∈ps,p+1 < E.length)->bA (A ++ (E.map (k+ ·) ++ B)) (ps.map (A.length+ ·))=A ++ ((bA E ps).map (k+ ·) ++ B)
 | [],_,_=>rfl
 | p :: ps,E,h=>by
  show bA (aW _ (A.length+p)) (ps.map (A.length+ ·))=_;rw [Qk (h p (by simp))];exact CK (ps:=ps) (E:=aW E p) fun q hq=>by rw [sO];exact h q (by simp [hq])
theorem Ql {k n:Nat} {ps:List Nat} (h:∀ p∈ps,p+1 < n):Dn (k+n) (ps.map (k+ ·))=List.range k ++ (Dn n ps).map (k+ ·):=by
 have:=CK (A:=List.range k) (B:=[]) (k:=k) (ps:=ps) (E:=List.range n) (fun p hp=>by simpa using h p hp);rw [AaL,AaL,AbK,← AbF] at this;exact this
theorem Jk {n r:Nat} {ps:List Nat} (h:∀ p∈ps,p+1 < n):Dn (n+r) ps=Dn n ps ++ (List.range r).map (n+ ·):=by
 have:=CK (A:=[]) (B:=(List.range r).map (n+ ·)) (k:=0) (ps:=ps) (E:=List.range n) (fun p hp=>by simpa using h p hp);have z:∀ l:List Nat,l.map (0+ ·)=l:=fun l=>by simp
 simp only [List.nil_append,List.length_nil,z] at this;unfold Dn;rw [AbF];exact this
theorem Jl {k:Nat} {G:List Nat} (hG:Prm G) (hk:k+G.length<=96):inv (List.range k ++ G.map (k+ ·))=List.range k ++ (inv G).map (k+ ·):=by
 have pm:Prm (List.range k ++ G.map (k+ ·)):=by
  have hl:(List.range k ++ G.map (k+ ·)).length=k+G.length:=by simp
  refine ⟨by omega,?_⟩;rw [hl,AbF];exact List.Perm.append_left _ (hG.pm.map _)
 refine (wu pm (by simp [bV]) fun i x e=>?_).symm;by_cases hi:i < k
 ·rw [Aaw (by simpa using hi),Aat hi] at e
  obtain rfl:i=x:=AaE e;rw [Aaw (by simpa using hi),Aat hi]
 ·rw [Aas (by simp;omega),AbK,Aah] at e
  obtain ⟨y,hy,rfl⟩:=AaT.mp e;have yl:y < G.length:=hG.lt (Aai hy);rw [Aas (by simp),AbK,Abw,Aah,getD_some (by rw [bV];exact yl),kJ yl,iz hG.nd hy];show some (k+(i - k))=some i;rw [Nat.add_sub_cancel' (by omega)]
theorem Fo {r:Nat} {G:List Nat} (hG:Prm G) (hk:G.length+r<=96):inv (G ++ (List.range r).map (G.length+ ·))=inv G ++ (List.range r).map (G.length+ ·):=by
 have pm:Prm (G ++ (List.range r).map (G.length+ ·)):=by
  have hl:(G ++ (List.range r).map (G.length+ ·)).length=G.length+r:=by simp
  refine ⟨by omega,?_⟩;rw [hl,AbF];exact hG.pm.append_right _
 refine (wu pm (by simp [bV]) fun i x e=>?_).symm;by_cases hi:i < G.length
 ·rw [Aaw hi] at e
  have yl:x < G.length:=hG.lt (Aai e);rw [Aaw (by rw [bV];exact yl),getD_some (by rw [bV];exact yl),kJ yl,iz hG.nd e]
 ·rw [Aas (by omega),Aah] at e
  obtain ⟨y,hy,rfl⟩:=AaT.mp e;obtain ⟨h1,h2⟩:=Aab.mp hy;rw [List.getElem_range] at h2;rw [AbK] at h1;subst h2;rw [Aas (by rw [bV];omega),bV,Abw,Aah,Aat h1];show some (G.length+(i - G.length))=some i;rw [Nat.add_sub_cancel' (by omega)]
theorem step_get {E:List Nat} {q i:Nat} (h:i < q\/q+1 < i):(aW E q).getD i 0=E.getD i 0:=by
 unfold aW
 split
 ·rw [Aac,AaM (by omega),AaM (by omega),← Aac]
 ·rfl
theorem Fp {E:List Nat} {q p:Nat} (h:p+2<=q\/q+2<=p):tD (aW E q) p=tD E p:=by
 unfold tD;rw [step_get (by omega),step_get (by omega)]
theorem Lx {E:List Nat} {p q:Nat} (h:q+2<=p):aW (aW E q) p=aW (aW E p) q:=by
 have a:=Fp (E:=E) (q:=q) (p:=p) (.inr h);have b:=Fp (E:=E) (q:=p) (p:=q) (.inl h);have g1:=step_get (E:=E) (q:=q) (i:=p) (by omega);have g2:=step_get (E:=E) (q:=q) (i:=p+1) (by omega);have g3:=step_get (E:=E) (q:=p) (i:=q) (by omega);have g4:=step_get (E:=E) (q:=p) (i:=q+1) (by omega)
 rw [show aW (aW E q) p=if tD (aW E q) p=true then ((aW E q).set p ((aW E q).getD (p+1) 0)).set (p+1) ((aW E q).getD p 0) else aW E q from rfl,
  show aW (aW E p) q=if tD (aW E p) q=true then ((aW E p).set q ((aW E p).getD (q+1) 0)).set (q+1) ((aW E p).getD q 0) else aW E p from rfl,a,b,g1,g2,g3,g4]
 unfold aW;by_cases h1:tD E p=true <;> by_cases h2:tD E q=true
 ·rw [if_pos h1,if_pos h2,if_pos h2,if_pos h1]
  rw [List.set_comm (E.getD q 0) (E.getD (p+1) 0) (by omega),List.set_comm (E.getD (q+1) 0) (E.getD (p+1) 0) (by omega),List.set_comm (E.getD q 0) (E.getD p 0) (by omega),List.set_comm (E.getD (q+1) 0) (E.getD p 0) (by omega)]
 ·rw [if_pos h1,if_neg h2,if_neg h2,if_pos h1]
 ·rw [if_neg h1,if_pos h2,if_pos h2,if_neg h1]
 ·rw [if_neg h1,if_neg h2,if_neg h2,if_neg h1]
theorem Jm:∀ {R E:List Nat} {q:Nat},(∀ p∈R,q+2<=p)->bA (aW E q) R=aW (bA E R) q
 | [],_,_,_=>rfl
 | p :: R,E,q,h=>by
  show bA (aW (aW E q) p) R=aW (bA (aW E p) R) q;rw [Lx (h p (by simp))];exact Jm fun z hz=>h z (by simp [hz])
theorem Fq:∀ {L R E:List Nat},(∀ p∈R,∀ q∈L,q+2<=p)->bA (bA E R) L=bA (bA E L) R
 | [],_,_,_=>rfl
 | q :: L,R,E,h=>by
  show bA (aW (bA E R) q) L=bA (bA (aW E q) L) R;rw [← Jm fun p hp=>h p hp q (by simp)];exact Fq fun p hp z hz=>h p hp z (by simp [hz])
def LN (m far:Nat) (e:Nat->Nat->Bool):List Nat:=inv (Dn (m+far) (al m far e m))
theorem jf (m far:Nat) (e:Nat->Nat->Bool):(LN m far e).length=m+far:=by unfold LN;rw [bV,pO]
theorem wy {m far:Nat} {e:Nat->Nat->Bool} (h:m+far<=96):Prm (LN m far e):=n6 (qP h o8)
theorem Tv (mu ml far:Nat) (e:Nat->Nat->Bool):al (mu+ml) far e (mu+ml)=(al mu far e mu).map (ml+ ·) ++ al ml far (fun i j=>e (mu+i) j) ml:=by
 unfold al;rw [AbF,List.flatMap_append,List.flatMap_map,List.map_flatMap]
 congr 1
 ·refine iR fun i hi=>?_
  have hi:=AaA.mp hi;unfold rs;rw [List.map_flatMap];refine iR fun j hj=>?_
  split
  ·rfl
  ·show [mu+ml - 1 - i+j]=[ml+(mu - 1 - i+j)];congr 1;omega
 ·refine iR fun i hi=>?_
  have hi:=AaA.mp hi;unfold rs;refine iR fun j hj=>?_
  show (if e (mu+i) j=true then [] else [mu+ml - 1 - (mu+i)+j])=_;rw [show mu+ml - 1 - (mu+i)+j=ml - 1 - i+j by omega]
theorem Bc {n:Nat} {a b:List Nat} (h:n<=96) (ha:∀ p∈a,p+1 < n) (hb:∀ p∈b,p+1 < n):lay (inv (Dn n a)) (inv (Dn n b))=inv (Dn n (a ++ b)):=by
 have pa:=qP h ha;have pb:=qP h hb;have pab:Prm (Dn n (a ++ b)):=qP h fun p hp=>(Aaz.mp hp).elim (ha p) (hb p)
 have T:Two n (inv (Dn n a)) (inv (Dn n b)):=⟨n6 pa,n6 pb,by rw [bV,pO],by rw [bV,pO]⟩;obtain ⟨p1,l1,m1⟩:=T.lay;rw [sU pa,sU pb] at m1;have e:=Ls ((n6 p1).pn (by rw [bV];exact l1)) (pab.pn (pO _ _)) m1 (aae hb);rw [← e,sU p1]
theorem Qm {mu ml far:Nat} {e:Nat->Nat->Bool} (h:mu+ml+far<=96):
  lay (List.range ml ++ (LN mu far e).map (ml+ ·)) (LN ml far (fun i j=>e (mu+i) j) ++ (List.range mu).map (ml+far+ ·))=LN (mu+ml) far e:=by
 have p1:=qP (n:=mu+far) (by omega) (o8 (m:=mu) (far:=far) (e:=e));have p2:=qP (n:=ml+far) (by omega) (o8 (m:=ml) (far:=far) (e:=fun i j=>e (mu+i) j));have l2:=pO (ml+far) (al ml far (fun i j=>e (mu+i) j) ml)
 have e1:List.range ml ++ (LN mu far e).map (ml+ ·)=inv (Dn (mu+ml+far) ((al mu far e mu).map (ml+ ·))):=by
  rw [show mu+ml+far=ml+(mu+far) by omega,Ql o8,Jl p1 (by rw [pO];omega)];rfl
 have e2:LN ml far (fun i j=>e (mu+i) j) ++ (List.range mu).map (ml+far+ ·)=inv (Dn (mu+ml+far) (al ml far (fun i j=>e (mu+i) j) ml)):=by
  have:=Fo (r:=mu) p2 (by rw [l2];omega);rw [l2] at this;rw [show mu+ml+far=(ml+far)+mu by omega,Jk o8,this];rfl
 rw [e1,e2,Bc h,← Tv]
 ·rfl
 ·intro p hp
  obtain ⟨q,hq,rfl⟩:=AaO.mp hp;have:=o8 q hq;omega
 ·intro p hp
  have:=o8 p hp;omega
theorem Ly (m fl fr:Nat) (e:Nat->Nat->Bool) (i:Nat):rs m e (fl+fr) i=rs m e fl i ++ (rs m (fun i j=>e i (fl+j)) fr i).map (fl+ ·):=by
 unfold rs;rw [AbF,List.flatMap_append,List.flatMap_map,List.map_flatMap]
 congr 1
 refine iR fun j hj=>?_
 show (if e i (fl+j)=true then [] else [m - 1 - i+(fl+j)])=_
 split
 ·rfl
 ·show [m - 1 - i+(fl+j)]=[fl+(m - 1 - i+j)];congr 1;omega
theorem xV (m far:Nat) (e:Nat->Nat->Bool) (n:Nat):al m far e (n+1)=al m far e n ++ rs m e far n:=by
 unfold al;rw [Abn,List.flatMap_append];simp
theorem Bd {m fl fr:Nat} {e:Nat->Nat->Bool} (E:List Nat):∀ n,n<=m->bA E (al m (fl+fr) e n)=bA E (al m fl e n ++ (al m fr (fun i j=>e i (fl+j)) n).map (fl+ ·))
 | 0,_=>rfl
 | n+1,h=>by
  rw [xV,xV,xV,Ly,n8,Bd E n (by omega),Aau,n8,n8,n8,n8,n8];refine congrArg (fun z=>bA z _) (Fq fun p hp q hq=>?_);obtain ⟨p',hp',rfl⟩:=AaO.mp hp;obtain ⟨i,j,hi,hj,rfl⟩:=CJ hp';unfold rs at hq;obtain ⟨j',hj',hq⟩:=Acj.mp hq;have hj':=AaA.mp hj'
  split at hq
  ·cases hq
  ·rw [Aam.mp hq];omega
theorem Hs {m fl fr:Nat} {e:Nat->Nat->Bool} (h:m+(fl+fr)<=96):
  lay (LN m fl e ++ (List.range fr).map (m+fl+ ·)) (List.range fl ++ (LN m fr (fun i j=>e i (fl+j))).map (fl+ ·))=LN m (fl+fr) e:=by
 have p1:=qP (n:=m+fr) (by omega) (o8 (m:=m) (far:=fr) (e:=fun i j=>e i (fl+j)));have p2:=qP (n:=m+fl) (by omega) (o8 (m:=m) (far:=fl) (e:=e));have l2:=pO (m+fl) (al m fl e m)
 have e1:List.range fl ++ (LN m fr (fun i j=>e i (fl+j))).map (fl+ ·)=inv (Dn (m+(fl+fr)) ((al m fr (fun i j=>e i (fl+j)) m).map (fl+ ·))):=by
  rw [show m+(fl+fr)=fl+(m+fr) by omega,Ql o8,Jl p1 (by rw [pO];omega)];rfl
 have e2:LN m fl e ++ (List.range fr).map (m+fl+ ·)=inv (Dn (m+(fl+fr)) (al m fl e m)):=by
  have:=Fo (r:=fr) p2 (by rw [l2];omega);rw [l2] at this;rw [show m+(fl+fr)=(m+fl)+fr by omega,Jk o8,this];rfl
 rw [e1,e2,Bc h]
 ·unfold LN Dn
  rw [Bd _ m (Aad _)]
 ·intro p hp
  have:=o8 p hp;omega
 ·intro p hp
  obtain ⟨q,hq,rfl⟩:=AaO.mp hp;have:=o8 q hq;omega
def top (i:Nat):Stmt:=PySem.Challenge.pw_panethread_k78_papers_of_openings.main.body.getD i (.Pass ⟨0,0,0,0⟩)
abbrev qQ:Stmt:=top 18
abbrev qR:Stmt:=top 19
abbrev qT:Stmt:=top 20
abbrev wz:Stmt:=top 21
abbrev wA:Stmt:=top 22
abbrev pP:Stmt:=top 23
abbrev qU:Stmt:=top 24
abbrev qW:Stmt:=top 25
abbrev vo:Stmt:=top 27
abbrev pQ:Stmt:=top 28
abbrev ur:Stmt:=top 29
abbrev qX:Stmt:=top 30
abbrev pR:Stmt:=top 31
abbrev pU:Stmt:=top 33
abbrev mY:Stmt:=top 34
abbrev ut:Stmt:=top 35
abbrev uv:Stmt:=top 36
abbrev vp:Stmt:=top 37
abbrev lK:Stmt:=top 43
abbrev wB:Stmt:=top 44
abbrev qY:Stmt:=top 45
abbrev uw:Stmt:=top 47
abbrev pW:Stmt:=top 48
abbrev ux:Stmt:=top 49
abbrev uy:Stmt:=top 51
abbrev uz:Stmt:=top 52
abbrev pX:Stmt:=top 53
abbrev Ht:Stmt:=top 54
abbrev oG:Stmt:=top 57
abbrev qZ:Stmt:=top 58
abbrev pY:Stmt:=top 59
abbrev mz:Stmt:=top 60
abbrev jM:Stmt:=top 61
abbrev pZ:Stmt:=top 66
abbrev uA:Stmt:=top 67
abbrev mZ:Stmt:=top 68
abbrev oH:Stmt:=top 72
abbrev q9:Stmt:=top 73
abbrev p6:Stmt:=top 74
abbrev wC:Stmt:=top 75
abbrev rm:Stmt:=top 76
abbrev rn:Stmt:=top 77
abbrev p7:Stmt:=top 78
abbrev rB:Stmt:=top 79
abbrev jw:Stmt:=top 80
abbrev jN:Stmt:=top 81
abbrev Ft:Stmt:=top 82
abbrev kO:Stmt:=iB 0 (top 39)
abbrev oJ:Stmt:=iB 1 (top 39)
abbrev lN:Stmt:=iB 0 (top 41)
abbrev lO:Stmt:=iB 1 (top 41)
abbrev gO:Stmt:=iB 2 (top 41)
abbrev m5:Stmt:=iB 4 (top 41)
abbrev iV:Stmt:=iB 0 (top 56)
abbrev p8:Stmt:=iB 1 (top 56)
abbrev rC:Stmt:=iB 2 (top 56)
abbrev oK:Stmt:=iB 4 (top 56)
abbrev m7:Stmt:=iB 6 (top 56)
abbrev kW:Stmt:=iB 0 (top 62)
abbrev m8:Stmt:=iB 0 (top 63)
abbrev lQ:Stmt:=iB 0 (top 64)
abbrev jO:Stmt:=iB 0 (top 65)
abbrev lR:Stmt:=iB 0 (top 70)
abbrev jg:Stmt:=iB 1 (top 70)
abbrev m9:Stmt:=iB 2 (top 70)
abbrev oM:Stmt:=iB 4 (top 70)
abbrev jP:Stmt:=iB 5 (top 70)
abbrev ni:Stmt:=iB 6 (top 70)
abbrev rD:Stmt:=iB 7 (top 70)
abbrev iD:Stmt:=iB 8 (top 70)
abbrev mC:Stmt:=iB 9 (top 70)
abbrev Jo:Stmt:=initOf (top 3)
abbrev Be:Stmt:=initOf (top 4)
abbrev yZ:Stmt:=initOf (top 5)
abbrev o9:Stmt:=initOf (top 6)
abbrev Fv:Stmt:=initOf (top 7)
abbrev wY:Stmt:=initOf (top 8)
abbrev Bf:Stmt:=initOf (top 9)
abbrev Fw:Stmt:=initOf (top 10)
abbrev Bg:Stmt:=initOf (top 11)
local macro_rules | `(tactic| walk_at "s") => `(tactic| (with_reducible repeat (first | refine lZ ?_ | walk_at "0")))
local macro_rules | `(tactic| apply $t) => `(tactic| (refine $t;walk_at "s"))
local macro_rules | `(tactic| walk_at "n") => `(tactic| (with_reducible repeat (walk_at "0")))
structure Txt (K:W.Frag) (mg:Str->Option Value):Prop where
 b_ValueError:mg "ValueError"=none
 b_all:mg "all"=none
 b_bool:mg "bool"=none
 b_enumerate:mg "enumerate"=none
 b_int:mg "int"=none
 b_isinstance:mg "isinstance"=none
 b_len:mg "len"=none
 b_list:mg "list"=none
 b_max:mg "max"=none
 b_range:mg "range"=none
 b_reversed:mg "reversed"=none
 b_str:mg "str"=none
 b_tuple:mg "tuple"=none
 c_LETTERS:∃ t,mg "LETTERS"=some (.str "abcdefghijklmnopqrstuvwxyz" t)
 c_MOST_LETTERS:∃ t,mg "MOST_LETTERS"=some (.int 24 t)
 c_MOST_LINES:∃ t,mg "MOST_LINES"=some (.int 96 t)
 c_MOST_SIGNS:∃ t,mg "MOST_SIGNS"=some (.int 48 t)
 c_POINT:∃ t,mg "POINT"=some (.str "." t)
 d_is_number:dM K mg "is_number" qQ
 d_is_within:dM K mg "is_within" qR
 d_is_letter:dM K mg "is_letter" qT
 d_is_sign:dM K mg "is_sign" wz
 d_is_span:dM K mg "is_span" wA
 d_need_place:dM K mg "need_place" pP
 d_need_span:dM K mg "need_span" qU
 d_need_sign:dM K mg "need_sign" qW
 d_is_row:dM K mg "is_row" vo
 d_is_plain:dM K mg "is_plain" pQ
 d_need_row:dM K mg "need_row" ur
 d_need_rows:dM K mg "need_rows" qX
 d_need_plain:dM K mg "need_plain" pR
 d_is_turning:dM K mg "is_turning" pU
 d_need_turning:dM K mg "need_turning" mY
 d_straight:dM K mg "straight" ut
 d_opposite:dM K mg "opposite" uv
 d_counts:dM K mg "counts" vp
 d_lengths_below:dM K mg "lengths_below" lK
 d_lengths:dM K mg "lengths" wB
 d_thread_of:dM K mg "thread_of" qY
 d_pairs_of:dM K mg "pairs_of" uw
 d_heaps_of:dM K mg "heaps_of" pW
 d_paper_of:dM K mg "paper_of" ux
 d_do_steps:dM K mg "do_steps" uy
 d_steps_of:dM K mg "steps_of" uz
 d_need_alike:dM K mg "need_alike" pX
 d_laid:dM K mg "laid" Ht
 d_need_pieces:dM K mg "need_pieces" oG
 d_need_same:dM K mg "need_same" qZ
 d_need_short:dM K mg "need_short" pY
 d_lines_over:dM K mg "lines_over" mz
 d_lines_beside:dM K mg "lines_beside" jM
 d_all_beside:dM K mg "all_beside" pZ
 d_all_over:dM K mg "all_over" uA
 d_balanced:dM K mg "balanced" mZ
 d_law_cell_at:dM K mg "_law_cell_at" oH
 d_law_great:dM K mg "_law_great" q9
 d_law_letter:dM K mg "_law_letter" p6
 d_law_row:dM K mg "_law_row" wC
 d_law_heaps:dM K mg "_law_heaps" rm
 d_law_round:dM K mg "_law_round" rn
 d_law_thread:dM K mg "_law_thread" p7
 d_law_pairs:dM K mg "_law_pairs" rB
 d_law_right:dM K mg "_law_right" jw
 d_law_no_place:dM K mg "_law_no_place" jN
 d_law:dM K mg "law" Ft
 x_PaneError:La K mg "PaneError"
 x_NoRow:o5 K mg "NoRow" ["found"] "NoRow.__init__" Jo
 x_NoPlain:o5 K mg "NoPlain" ["found"] "NoPlain.__init__" Be
 x_NoLetter:o5 K mg "NoLetter" ["found"] "NoLetter.__init__" yZ
 x_NoPlace:o5 K mg "NoPlace" ["found"] "NoPlace.__init__" o9
 x_NoSpan:o5 K mg "NoSpan" ["begin","end"] "NoSpan.__init__" Fv
 x_NoTurning:o5 K mg "NoTurning" ["found"] "NoTurning.__init__" wY
 x_NoPiece:o5 K mg "NoPiece" ["found"] "NoPiece.__init__" Bf
 x_Unlike:o5 K mg "Unlike" ["one","other"] "Unlike.__init__" Fw
 x_TooLong:o5 K mg "TooLong" ["found"] "TooLong.__init__" Bg
 o_Tally:j9 K mg "Tally"
 n_Tally:∀ f∈(["held_ends","held_counts"]:List Str),NoAttr K (aN mg "Tally") f
 o_Asks:j9 K mg "Asks"
 n_Asks:∀ f∈(["held_tally","held_many","held_far"]:List Str),NoAttr K (aN mg "Asks") f
 o_Piece:j9 K mg "Piece"
 n_Piece:∀ f∈(["held_side","held_top","held_kind","held_lines","held_parts","held_height"]:List Str),NoAttr K (aN mg "Piece") f
 o_Blank:j9 K mg "Blank"
 n_Blank:∀ f∈(["held_side","held_top","held_kind","held_lines","held_parts","held_height"]:List Str),NoAttr K (aN mg "Blank") f
 o_One:j9 K mg "One"
 n_One:∀ f∈(["held_side","held_top","held_kind","held_lines","held_parts","held_height"]:List Str),NoAttr K (aN mg "One") f
 o_Over:j9 K mg "Over"
 n_Over:∀ f∈(["held_side","held_top","held_kind","held_lines","held_parts","held_height"]:List Str),NoAttr K (aN mg "Over") f
 o_Beside:j9 K mg "Beside"
 n_Beside:∀ f∈(["held_side","held_top","held_kind","held_lines","held_parts","held_height"]:List Str),NoAttr K (aN mg "Beside") f
 o_Ring:j9 K mg "Ring"
 n_Ring:∀ f∈(["held_side","held_top","held_kind","held_lines","held_parts","held_height","held_row","held_asks"]:List Str),NoAttr K (aN mg "Ring") f
 os_Piece:OTs K mg ["Blank","One","Over","Beside","Ring"]
 t_Blank:ITxt K mg "Blank"
 t_One:ITxt K mg "One"
 t_Over:ITxt K mg "Over"
 t_Beside:ITxt K mg "Beside"
 t_Ring:ITxt K mg "Ring"
 u_Blank_Piece:Sub K mg "Blank" "Piece" true
 u_One_Piece:Sub K mg "One" "Piece" true
 u_Over_Piece:Sub K mg "Over" "Piece" true
 u_Beside_Piece:Sub K mg "Beside" "Piece" true
 u_Ring_Piece:Sub K mg "Ring" "Piece" true
 w_Piece_str:PySem.W.kitOne K (.type "str") (.ref (aN mg "Piece"))=some false
 w_Piece_int:PySem.W.kitOne K (.type "int") (.ref (aN mg "Piece"))=some false
 w_Piece_list:PySem.W.kitOne K (.type "list") (.ref (aN mg "Piece"))=some false
 w_Piece_tuple:PySem.W.kitOne K (.type "tuple") (.ref (aN mg "Piece"))=some false
 w_Piece_NoneType:PySem.W.kitOne K (.type "NoneType") (.ref (aN mg "Piece"))=some false
 w_Piece_bool:PySem.W.kitOne K (.type "bool") (.ref (aN mg "Piece"))=some false
 w_Piece_dict:PySem.W.kitOne K (.type "dict") (.ref (aN mg "Piece"))=some false
 m_Piece___init__:Jh K mg "Piece" "__init__" "Piece.__init__" iV
 m_Piece_side:tU K mg ["Blank","One","Over","Beside","Ring"] "side" "Piece.side" p8
 m_Piece_top:tU K mg ["Blank","One","Over","Beside","Ring"] "top" "Piece.top" rC
 m_Piece_lines:tU K mg ["Blank","One","Over","Beside","Ring"] "lines" "Piece.lines" oK
 m_Piece_height:tU K mg ["Blank","One","Over","Beside","Ring"] "height" "Piece.height" m7
 m_Tally___init__:gU K mg "Tally" "__init__" "Tally.__init__" kO
 m_Tally_below:gU K mg "Tally" "below" "Tally.below" oJ
 m_Asks___init__:gU K mg "Asks" "__init__" "Asks.__init__" lN
 m_Asks_reckoned:gU K mg "Asks" "reckoned" "Asks.reckoned" lO
 m_Asks_reckoned_stretch:gU K mg "Asks" "reckoned_stretch" "Asks.reckoned_stretch" gO
 m_Asks_stretch:gU K mg "Asks" "stretch" "Asks.stretch" m5
 m_Blank___init__:gU K mg "Blank" "__init__" "Blank.__init__" kW
 m_One___init__:gU K mg "One" "__init__" "One.__init__" m8
 m_Over___init__:gU K mg "Over" "__init__" "Over.__init__" lQ
 m_Beside___init__:gU K mg "Beside" "__init__" "Beside.__init__" jO
 m_Ring___init__:gU K mg "Ring" "__init__" "Ring.__init__" lR
 m_Ring_need_opening:gU K mg "Ring" "need_opening" "Ring.need_opening" jg
 m_Ring_opening:gU K mg "Ring" "opening" "Ring.opening" m9
 m_Ring_length:gU K mg "Ring" "length" "Ring.length" oM
 m_Ring_lengths:gU K mg "Ring" "lengths" "Ring.lengths" jP
 m_Ring_stretch:gU K mg "Ring" "stretch" "Ring.stretch" ni
 m_Ring_best:gU K mg "Ring" "best" "Ring.best" rD
 m_Ring_gone_round:gU K mg "Ring" "gone_round" "Ring.gone_round" iD
 m_Ring_paper:gU K mg "Ring" "paper" "Ring.paper" mC
 u_NoPlace_PaneError:Sub K mg "NoPlace" "PaneError" true
 u_NoPlace_NoPlace:Sub K mg "NoPlace" "NoPlace" true
 u_NoPlace_NoPiece:Sub K mg "NoPlace" "NoPiece" false
 v_NoPlace:PySem.W.kitOne K (.ref (aN mg "NoPlace")) (.type "ValueError")=some true
def Kd (K:W.Frag) (H:Hp) (v:V):Prop:=(∃ n,v= .int n)\/(∃ b,v= .bl b)\/∃ T,TyOf K H v (.type T)/\PySem.W.kitOne K (.type T) (.type "int")=some false
theorem Kd.same {K:W.Frag} {H H':Hp} {v:V} (h:Kd K H v) (s:Same H H'):Kd K H' v:=by
 rcases h with h | h | ⟨T,a,c⟩
 ·exact .inl h
 ·exact .inr (.inl h)
 ·exact .inr (.inr ⟨T,a.mono fun b o e _=>s b o e,c⟩)
def aaf:V->Bool
 | .int _=>true
 | _=>false
def inB (v:V) (lo hi:Int):Bool:=match v with
 | .int n=>decide (lo<=n) && decide (n<=hi)
 | _=>false
section
variable {P:Program} {w:World} {K:W.Frag} {mg:Str->Option Value} {base:Heap}
theorem xq:KLl o9 "self":=by trivial
theorem wD:KLl o9 "found":=by trivial
theorem Same.put {H H':Hp} {p:Addr} {o:HO} (s:Same H H') (hn:H p=none):Same H (upd H' p o):=fun b u e=>by
 rw [aD (fun z=>by rw [z,hn] at e;cases e)];exact s b u e
theorem Same.back {H H':Hp} {p:Addr} (s:Same H H') (h:H' p=none):H p=none:=by
 cases e:H p with
 | none=>rfl
 | some o=>rw [s _ _ e] at h;cases h
theorem XD {H:Hp} {v:V} {T:String} (h:TyOf K H v (.type T)) (k:PySem.W.kitOne K (.type T) (.type "int")=some false):aaf v=false/\∀ lo hi,inB v lo hi=false:=by
 cases v with
 | int z=>
  cases h;have:PySem.W.kitOne K (.type "int") (.type "int")=some true:=rfl;rw [this] at k;cases k
 | _=>exact ⟨rfl,fun _ _=>rfl⟩
theorem Fx:aG ["self","found"] ["self","found"] (aB o9):=⟨rfl,rfl,rfl,by trivial,rfl,by trivial,by trivial⟩
theorem Hu (T:Txt K mg):ZV P w K mg base 1 "NoPlace" (aN mg "NoPlace") ["found"]:=mkX T.x_NoPlace Fx (fun _ _ _ _ _ _ us hl=>L2.mJ (fun _ _=>rfl) us hl) rfl fun f cdv A outer s H vs Q E hr h=>⟨_,(aC (Sq (K:=K) rfl (W2 0 xq) (W2 1 wD))),rd1 T.x_NoPlace.c.cl.cls (T.x_NoPlace.na _ (by simp)) h⟩
def Qn (K:W.Frag):Sp:=fun vs H Q _=>∃ v:V,vs=[v]/\Kd K H v/\Q (.bl (aaf v)) H
theorem CN:aG ["thing"] ["thing"] (aB qQ):=⟨rfl,rfl,rfl,by trivial,rfl,by trivial,by trivial⟩
theorem rE (T:Txt K mg):Has P w K mg base 1 "is_number" ["thing"] (Qn K):=by
 refine eO T.d_is_number CN (fun _ _ _ _ _ _ us hl=>L2.jE (fun _=>rfl) us hl) ?_ fun f cdv A outer s H vs Q E hr h=>?_
 ·rintro vs H Q E ⟨v,rfl,_⟩;rfl
 obtain ⟨v,rfl,hT,q⟩:=h;apply ⟨_,(aC (aL (tM (aJ (gH (K:=K) rfl) aU T.b_isinstance bf (aa (aq 0) (aa (uY aU T.b_int Oh (by trivial) (by trivial)) ao)) (by trivial) (by trivial)) (wQ (U9 (aJ (gH (K:=K) rfl) aU T.b_isinstance bf (aa (aq 0) (aa (uY aU T.b_bool Iz (by trivial) (by trivial)) ao)) (by trivial) (by trivial))))))),?_⟩;rcases hT with ⟨n,rfl⟩ | ⟨b,rfl⟩ | ⟨T',hty,hk⟩
 ·apply nU (.int _) rfl ?_
  apply nU (.int _) rfl ?_;exact q
 ·apply nU (.bl _) (b:=true) (by rfl) ?_
  apply nU (.bl _) (b:=true) (by rfl) ?_;exact q
 ·apply nU hty hk ?_
  rw [(XD hty hk).1] at q;exact q
def Qo (K:W.Frag):Sp:=fun vs H Q _=>∃ (v:V) (lo hi:Int),vs=[v,.int lo,.int hi]/\Kd K H v/\Q (.bl (inB v lo hi)) H
theorem CP:aG ["thing","low","high"] ["thing","low","high"] (aB qR):=⟨rfl,rfl,rfl,by trivial,rfl,by trivial,by trivial⟩
theorem dX (T:Txt K mg):Has P w K mg base 2 "is_within" ["thing","low","high"] (Qo K):=by
 have rE:=rE (P:=P) (w:=w) (base:=base) T;refine eO T.d_is_within CP (fun _ _ _ _ _ _ us hl=>L2.pI (fun _ _ _=>rfl) us hl) ?_ fun f cdv A outer s H vs Q E hr h=>?_
 ·rintro vs H Q E ⟨v,lo,hi,rfl,_⟩;rfl
 obtain ⟨v,lo,hi,rfl,hT,q⟩:=h;apply ⟨_,(aC (aL (tM (aK rE (hr.mono (by decide)) aU (aa (aq 0) ao) (by trivial)) (wQ (R3 Ad Ad (aq 1) (aq 0) (aq 2)))))),?_⟩;apply ⟨v,rfl,hT,?_⟩;cases v with
 | int n=>
  show if true=true then _ else _
  walk_at "s";show if decide (lo<=n)=true then _ else _
  unfold inB at q;dsimp only at q;by_cases h:lo<=n
  ·rw [Aar h] at q ⊢
   rw [Bool.true_and] at q;walk_at "s";exact q
  ·rw [Aao h] at q ⊢
   rw [Bool.false_and] at q;walk_at "s";exact q
 | _=>exact q
def Jp (K:W.Frag) (mg:Str->Option Value):Sp:=fun vs H Q E=>∃ (v:V) (lo hi:Int),vs=[v,.int lo,.int hi]/\Kd K H v/\(inB v lo hi=true->Q .non H)/\
 (inB v lo hi=false->∀ e H',Same H H'->Q8 H' e (aN mg "NoPlace") [("found",v)]->E (.ref (aN mg "NoPlace")) (some e) H')
theorem zO:aG ["thing","low","high"] ["thing","low","high"] (aB pP):=⟨rfl,rfl,rfl,by trivial,rfl,by trivial,by trivial⟩
theorem bx (T:Txt K mg):R9 P w K mg base 3 "need_place" ["thing","low","high"] (Jp K mg):=by
 have dX:=dX (P:=P) (w:=w) (base:=base) T;refine Z1 T.d_need_place zO (fun _ _ _ _ _ _ us hl=>L2.pI (fun _ _ _=>rfl) us hl) ?_ fun f cdv A outer s H vs Q E hr h=>?_
 ·rintro vs H Q E ⟨v,lo,hi,rfl,_⟩;rfl
 obtain ⟨v,lo,hi,rfl,hT,q1,q2⟩:=h;apply ⟨_,(aC (bQ (dN (dO (aK dX (hr.mono (by decide)) aU (aa (aq 0) (aa (aq 1) (aa (aq 2) ao))) (by trivial)))) (aC (Pg (Hu (P:=P) (w:=w) (base:=base) T) (hr.mono (by decide)) rfl aU aP (aa (aq 0) ao) (by trivial))) bj)),?_⟩;apply ⟨v,lo,hi,rfl,hT,?_⟩;cases hb:inB v lo hi with
 | true=>
  walk_at "s";exact q1 hb
 | false=>
  walk_at "s";exact ⟨rfl,(show 1<=sizeLine by decide),fun x H2 S2 X2=>q2 hb x H2 S2 X2⟩
theorem Qp (i j:Int):decide (V.int i=V.int j)=decide (i=j):=decide_eq_decide.mpr ⟨fun h=>V.int.inj h,fun h=>by rw [h]⟩
theorem bw (t:List Nat):((nI t).map V.int).length=t.length:=by unfold nI;rw [Aaf,Aaf]
theorem aag {t:List Nat} {k i:Nat} (h:t[k]?=some i):((nI t).map V.int)[k]?=some (.int (i:Int)):=by unfold nI;rw [Aah,Aah,h];rfl
theorem Bh {t:List Nat} {k:Nat} {v:V} (h:((nI t).map V.int)[k]?=some v):∃ i,t[k]?=some i/\v= .int (i:Int):=by
 unfold nI at h;rw [Aah,Aah] at h;cases e:t[k]? with
 | none=>rw [e] at h;cases h
 | some y=>rw [e] at h;exact ⟨y,rfl,(AaE h).symm⟩
theorem Bj {t:List Nat} {k:Nat} {j:Int} (hk:k < t.length) (hj:j=(k:Int)):zE ((nI t).map V.int) j=some (.int ((t.getD k 0:Nat):Int)):=by
 subst hj;refine jG (aag ?_);rw [Aac,Aaa hk];rfl
theorem za (t:List Nat) (k x:Nat):((nI t).map V.int).set k (.int (x:Int))=(nI (t.set k x)).map V.int:=by unfold nI;rw [List.map_set,List.map_set]
theorem CQ (t:List Nat) (x:Nat):(nI t).map V.int ++ [.int (x:Int)]=(nI (t ++ [x])).map V.int:=by unfold nI;rw [Aau,Aau];rfl
theorem Bk {n p:Nat} {j:Int} (hj:j=(p:Int)) (h:p < n):Ku n j=some p:=by
 subst hj;unfold Ku;rw [if_pos (by omega),if_pos (by omega)];simp
def XF (K:W.Frag):Sp:=fun vs H Q _=>∃ (b e m:Int),vs=[.int b,.int e,.int m]/\0<=b/\b<=e/\e<=m/\Q (.bl true) H
theorem Hv:aG ["begin","end","many"] ["begin","end","many"] (aB wA):=⟨rfl,rfl,rfl,by trivial,rfl,by trivial,by trivial⟩
theorem wF (T:Txt K mg):Has P w K mg base 3 "is_span" ["begin","end","many"] (XF K):=by
 have dX:=dX (P:=P) (w:=w) (base:=base) T;refine eO T.d_is_span Hv (fun _ _ _ _ _ _ us hl=>L2.pI (fun _ _ _=>rfl) us hl) ?_ fun f cdv A outer s H vs Q E hr h=>?_
 ·rintro vs H Q E ⟨b,e,m,rfl,_⟩;rfl
 obtain ⟨b,e,m,rfl,h1,h2,h3,q⟩:=h;have hu:=hr.units0;have hu64:=hr.units;apply ⟨_,(aC (aL (tM (aK dX (hr.mono (by decide)) aU (aa (aq 0) (aa aF (aa (aq 2) ao))) (by trivial)) (wQ (aK dX (hr.mono (by decide)) aU (aa (aq 1) (aa (aq 0) (aa (aq 2) ao))) (by trivial)))))),?_⟩;apply ⟨_,_,_,rfl,.inl ⟨_,rfl⟩,?_⟩;rw [show inB (.int b) 0 m=true by unfold inB;simp;omega];walk_at "s";apply ⟨_,_,_,rfl,.inl ⟨_,rfl⟩,?_⟩;rw [show inB (.int e) b m=true by unfold inB;simp;omega];exact q
def Tw (K:W.Frag):Sp:=fun vs H Q _=>∃ (b e m:Int),vs=[.int b,.int e,.int m]/\0<=b/\b<=e/\e<=m/\Q .non H
theorem CV:aG ["begin","end","many"] ["begin","end","many"] (aB qU):=⟨rfl,rfl,rfl,by trivial,rfl,by trivial,by trivial⟩
theorem rF (T:Txt K mg):Has P w K mg base 4 "need_span" ["begin","end","many"] (Tw K):=by
 have wF:=wF (P:=P) (w:=w) (base:=base) T;refine eO T.d_need_span CV (fun _ _ _ _ _ _ us hl=>L2.pI (fun _ _ _=>rfl) us hl) ?_ fun f cdv A outer s H vs Q E hr h=>?_
 ·rintro vs H Q E ⟨b,e,m,rfl,_⟩;rfl
 obtain ⟨b,e,m,rfl,h1,h2,h3,q⟩:=h;apply ⟨_,(aC (bQ (dN (dO (aK wF (hr.mono (by decide)) aU (aa (aq 0) (aa (aq 1) (aa (aq 2) ao))) (by trivial)))) (aC iM) bj)),?_⟩;apply ⟨b,e,m,rfl,h1,h2,h3,?_⟩;exact q
theorem vq {H:Hp} {Q:VK} {E:XK} {n lo hi:Int} (h1:lo<=n) (h2:n<=hi) (h:Q .non H):Jp K mg [.int n,.int lo,.int hi] H Q E:=
 ⟨_,_,_,rfl,.inl ⟨_,rfl⟩,fun _=>h,fun hb=>by unfold inB at hb;simp at hb;omega⟩
def Tn (H:Hp) (a:Addr) (t:List Nat):Prop:=H a=some (.lst ((nI t).map V.int))\/H a=some (.tup ((nI t).map V.int))
theorem Tn.same {H H':Hp} {a:Addr} {t:List Nat} (h:Tn H a t) (s:Same H H'):Tn H' a t:=h.imp (s _ _) (s _ _)
def Tz (us:List V):Bool:=decide (us.length<=96) && (us.all fun u=>inB u 0 ((us.length:Int) - 1)) && decide us.Nodup
theorem Jq {us:List V} (h:96 < us.length):Tz us=false:=by unfold Tz;rw [Aao (by omega)];rfl
theorem Qq {us:List V} {u:V} (h:u∈us) (hb:inB u 0 ((us.length:Int) - 1)=false):Tz us=false:=by
 unfold Tz;have:(us.all fun u=>inB u 0 ((us.length:Int) - 1))=false:=List.all_eq_false.mpr ⟨u,h,by rw [hb];simp⟩;rw [this,Bool.and_false,Bool.false_and]
theorem Qs {us:List V} {k:Nat} {u:V} (h:us[k]?=some u) (hm:u∈us.take k):Tz us=false:=by
 have:¬ us.Nodup:=fun nd=>by
  obtain ⟨i,hi,e⟩:=Abe.mp hm;obtain ⟨hk,e2⟩:=Aab.mp h;rw [Abs] at hi;rw [List.getElem_take] at e;exact List.pairwise_iff_getElem.mp nd i k (by omega) hk (by omega) (e.trans e2.symm)
 unfold Tz;rw [Aao this,Bool.and_false]
theorem Qt {us:List V} (h:us.length<=96) (hin:∀ u∈us,inB u 0 ((us.length:Int) - 1)=true) (hnd:us.Nodup):Tz us=true:=by
 unfold Tz;rw [Aar h,Aar hnd,Abi.mpr hin];rfl
theorem zb {us:List V} {v:V} (h:us.Nodup) (hm:v ∉ us):(us ++ [v]).Nodup:=by
 refine Ab7.mpr ⟨h,by simp,fun a ha b hb=>?_⟩;rw [Aam.mp hb];exact fun z=>hm (z ▸ ha)
theorem Jr {v:V} {h:Int} (hb:inB v 0 h=true):∃ i:Nat,v= .int (i:Int)/\(i:Int)<=h:=by
 cases v with
 | int n=>
  unfold inB at hb;simp at hb;exact ⟨n.toNat,by rw [AbP hb.1],by omega⟩
 | _=>cases hb
def TnK (K:W.Frag) (H:Hp) (v:V) (b:Bool):Prop:=(∃ a us,v= .ref a/\(H a=some (.lst us)\/H a=some (.tup us))/\us.length<=10000/\(∀ u∈us,Kd K H u)/\b=Tz us)\/
 ∃ T,TyOf K H v (.type T)/\PySem.W.kitAny K (.type T) [.type "list",.type "tuple"]=some false/\b=false
theorem TF {H:Hp} {a:Addr} {t:List Nat} (h:Tn H a t) (hP:Prm t):TnK K H (.ref a) true:=by
 have hle:=hP.le;refine .inl ⟨a,_,rfl,h,by rw [bw];omega,fun u hu=>?_,?_⟩
 ·obtain ⟨x,_,rfl⟩:=AaO.mp hu
  exact .inl ⟨x,rfl⟩
 ·refine (Qt (by rw [bw];exact hle) (fun u hu=>?_) ?_).symm
  ·obtain ⟨x,hx,rfl⟩:=AaO.mp hu
   unfold nI at hx;obtain ⟨y,hy,rfl⟩:=AaO.mp hx;have:=hP.lt hy;rw [bw];unfold inB;simp;omega
  ·unfold nI List.Nodup
   rw [AbX,List.pairwise_map];exact hP.nd.imp fun {x y} h z=>h (by have e:((x:Nat):Int)=((y:Nat):Int):=V.int.inj z;omega)
def XH (K:W.Frag):Sp:=fun vs H Q _=>∃ (v:V) (b:Bool),vs=[v]/\TnK K H v b/\∀ H',Same H H'->Q (.bl b) H'
theorem oN:aG ["thing","seen","end"] ["thing"] (aB pU):=⟨rfl,rfl,rfl,by trivial,rfl,by trivial,by trivial⟩
theorem qd (T:Txt K mg):Has P w K mg base 3 "is_turning" ["thing"] (XH K):=by
 have dX:=dX (P:=P) (w:=w) (base:=base) T;refine eO T.d_is_turning oN (fun _ _ _ _ _ _ us hl=>L2.jE (fun _=>rfl) us hl) ?_ fun f cdv A outer s H vs Q E hr h=>?_
 ·rintro vs H Q E ⟨v,bb,rfl,_⟩;rfl
 obtain ⟨v,bb,rfl,h,q⟩:=h;have hu:=hr.units0;have hu64:=hr.units;apply ⟨_,(aA (bQ (mU (mR (dN (dO (aJ (sH (K:=K) rfl) aU T.b_isinstance bf (aa (aq 0) (aa (oZ (aa (uY aU T.b_list jH (by trivial) (by trivial)) (aa (uY aU T.b_tuple yD (by trivial) (by trivial)) ao))) ao)) (by trivial) (by trivial)))) (mQ (bh uM (aJ (aH (K:=K) rfl) aU T.b_len aR (aa (aq 0) ao) (by trivial) (by trivial)) (yG aU T.c_MOST_LINES (by trivial)) (by walk_at "p"))))) (aC (aL lJ)) bj) (aA (aM (i:=1) oN.nd rfl dI Jg rfl) (aA (eN AaF rfl (dR (K:=K) rfl (aq 0)) (bB (i:=2) oN.nd rfl dI rfl) (aA (bQ (mU (mR (dN (dO (aK dX (hr.mono (by decide)) aU (aa (aq 2) (aa aF (aa (aY iu (aJ (aH (K:=K) rfl) aU T.b_len aR (aa (aq 0) ao) (by trivial) (by trivial)) aF) ao))) (by trivial)))) (mQ (bh (Pu (K:=K) rfl hu64) (aq 2) (aq 1) (by walk_at "p"))))) (aC (aL lJ)) bj) (aC (nY (ts:=vd) lJ (qJ (aq 1) (aq 2) (pL hu64)))))) (aC (aL lJ))))),?_⟩;have hs:20000<=sizeLine:=by decide
 rcases h with ⟨a,us,rfl,ha,hlen,hkd,rfl⟩ | ⟨T',hty,hk,rfl⟩
 ·rcases ha with ha | ha
  ·skip
   apply yL rfl fun p np=>?_
   have ha1:upd H p (.tup [.ty "list",.ty "tuple"]) a=some (.lst us):=fu np ha;apply Cm (.lst ha1) aj rfl (b:=true) (by rfl) ?_;apply d9 (SqL.of ha1) ?_;by_cases h96:96 < us.length
   ·rw [Aar (show (96:Int) < (us.length:Int) by omega)]
    rw [Jq h96] at q;walk_at "s";exact q _ ((Same.refl H).upd np)
   rw [Aao (show ¬ (96:Int) < (us.length:Int) by omega)];walk_at "s";intro d nd;have S1:Same H (upd (upd H p (.tup [.ty "list",.ty "tuple"])) d (.dK [])):=((Same.refl H).upd np).upd nd;have hd0:upd (upd H p (.tup [.ty "list",.ty "tuple"])) d (.dK []) d=some (.dK []):=aj;have nd':H d=none:=Same.back ((Same.refl H).upd np) nd;generalize upd (upd H p (.tup [.ty "list",.ty "tuple"])) d (.dK [])=H1 at S1 hd0 ⊢;walk_at "s";refine .inl ⟨a,rfl,⟨_,SqL.of (S1 _ _ ha)⟩,?_⟩
   refine lw (xs:=us) (fun k U H'=>∃ (kvs:List (Key×V)) (x2:Option V),U=[some (.ref a),some (.ref d),x2]/\Same H H'/\H' d=some (.dK kvs)/\kvs.length<=k/\(∀ n:Nat,lA kvs (Sum.inl (n:Int))=if V.int (n:Int)∈us.take k then some (.bl true) else none)/\(∀ u∈us.take k,inB u 0 ((us.length:Int) - 1)=true)/\(us.take k).Nodup)
    ⟨[],_,rfl,S1,hd0,by simp,fun n=>by simp [Eh],by simp,by simp⟩ (fun i U H' _ h=>?_) ?_ ?_
   ·obtain ⟨_,_,_,s,_⟩:=h
    exact SqL.of (s _ _ ha)
   ·rintro k v U H' hk ⟨kvs,x2,rfl,s,hd,hkl,hv,hin,hnd⟩
    have hkt:k < us.length:=(Aab.mp hk).1;have hmem:=Aai hk;walk_at "s";apply d9 (SqL.of (s _ _ ha)) ?_;apply ⟨_,_,_,rfl,(hkd v hmem).same s,?_⟩;cases hb:inB v 0 ((us.length:Int) - 1) with
    | false=>
     rw [Qq hmem hb] at q;walk_at "s";exact q _ s
    | true=>
     obtain ⟨i,rfl,hi⟩:=Jr hb;walk_at "s";refine .inr ⟨d,_,rfl,DGet.k (k:=Sum.inl (i:Int)) hd,?_⟩;rw [hv i];by_cases hm:V.int (i:Int)∈us.take k
     ·rw [if_pos hm,show (some (V.bl true)).isSome=true from rfl]
      rw [Qs hk hm] at q;walk_at "s";exact q _ s
     ·rw [if_neg hm,show (none:Option V).isSome=false from rfl]
      walk_at "s";refine .inr ⟨d,_,rfl,DPut.k (k:=Sum.inl (i:Int)) hd (by omega),?_⟩;have tk:us.take (k+1)=us.take k ++ [V.int (i:Int)]:=by rw [Aa4,hk];rfl
      refine ⟨_,_,rfl,Same.put s nd',aj,Aay (lB _ _ _) (by omega),fun n=>?_,fun u hu=>?_,?_⟩
      ·rw [uW,hv n,tk]
       by_cases hn:n=i
       ·subst hn;simp
       ·rw [if_neg (fun z=>hn (by have:=Sum.inl.inj z;omega))]
        have hne:¬ V.int (n:Int)=V.int (i:Int):=fun z=>hn (by have:=V.int.inj z;omega)
        simp [hne]
      ·rw [tk] at hu
       rcases Aaz.mp hu with h | h
       ·exact hin u h
       ·rw [Aam.mp h];exact hb
      ·rw [tk]
       exact zb hnd hm
   ·rintro U H' ⟨kvs,x2,rfl,s,hd,_,_,hin,hnd⟩
    rw [Abj] at hin hnd;rw [Qt (by omega) hin hnd] at q;walk_at "s";exact q _ s
  ·skip
   apply yL rfl fun p np=>?_
   have ha1:upd H p (.tup [.ty "list",.ty "tuple"]) a=some (.tup us):=fu np ha;apply Cm (.tup ha1) aj rfl (b:=true) (by rfl) ?_;apply vY (SqT.of ha1) ?_;by_cases h96:96 < us.length
   ·rw [Aar (show (96:Int) < (us.length:Int) by omega)]
    rw [Jq h96] at q;walk_at "s";exact q _ ((Same.refl H).upd np)
   rw [Aao (show ¬ (96:Int) < (us.length:Int) by omega)];walk_at "s";intro d nd;have S1:Same H (upd (upd H p (.tup [.ty "list",.ty "tuple"])) d (.dK [])):=((Same.refl H).upd np).upd nd;have hd0:upd (upd H p (.tup [.ty "list",.ty "tuple"])) d (.dK []) d=some (.dK []):=aj;have nd':H d=none:=Same.back ((Same.refl H).upd np) nd;generalize upd (upd H p (.tup [.ty "list",.ty "tuple"])) d (.dK [])=H1 at S1 hd0 ⊢;walk_at "s";refine .inr (.inl ⟨a,rfl,⟨_,SqT.of (S1 _ _ ha)⟩,?_⟩)
   refine Bv (xs:=us) (fun k U H'=>∃ (kvs:List (Key×V)) (x2:Option V),U=[some (.ref a),some (.ref d),x2]/\Same H H'/\H' d=some (.dK kvs)/\kvs.length<=k/\(∀ n:Nat,lA kvs (Sum.inl (n:Int))=if V.int (n:Int)∈us.take k then some (.bl true) else none)/\(∀ u∈us.take k,inB u 0 ((us.length:Int) - 1)=true)/\(us.take k).Nodup)
    ⟨[],_,rfl,S1,hd0,by simp,fun n=>by simp [Eh],by simp,by simp⟩ (fun i U H' _ h=>?_) ?_ ?_
   ·obtain ⟨_,_,_,s,_⟩:=h
    exact SqT.of (s _ _ ha)
   ·rintro k v U H' hk ⟨kvs,x2,rfl,s,hd,hkl,hv,hin,hnd⟩
    have hkt:k < us.length:=(Aab.mp hk).1;have hmem:=Aai hk;walk_at "s";apply vY (SqT.of (s _ _ ha)) ?_;apply ⟨_,_,_,rfl,(hkd v hmem).same s,?_⟩;cases hb:inB v 0 ((us.length:Int) - 1) with
    | false=>
     rw [Qq hmem hb] at q;walk_at "s";exact q _ s
    | true=>
     obtain ⟨i,rfl,hi⟩:=Jr hb;walk_at "s";refine .inr ⟨d,_,rfl,DGet.k (k:=Sum.inl (i:Int)) hd,?_⟩;rw [hv i];by_cases hm:V.int (i:Int)∈us.take k
     ·rw [if_pos hm,show (some (V.bl true)).isSome=true from rfl]
      rw [Qs hk hm] at q;walk_at "s";exact q _ s
     ·rw [if_neg hm,show (none:Option V).isSome=false from rfl]
      walk_at "s";refine .inr ⟨d,_,rfl,DPut.k (k:=Sum.inl (i:Int)) hd (by omega),?_⟩;have tk:us.take (k+1)=us.take k ++ [V.int (i:Int)]:=by rw [Aa4,hk];rfl
      refine ⟨_,_,rfl,Same.put s nd',aj,Aay (lB _ _ _) (by omega),fun n=>?_,fun u hu=>?_,?_⟩
      ·rw [uW,hv n,tk]
       by_cases hn:n=i
       ·subst hn;simp
       ·rw [if_neg (fun z=>hn (by have:=Sum.inl.inj z;omega))]
        have hne:¬ V.int (n:Int)=V.int (i:Int):=fun z=>hn (by have:=V.int.inj z;omega)
        simp [hne]
      ·rw [tk] at hu
       rcases Aaz.mp hu with h | h
       ·exact hin u h
       ·rw [Aam.mp h];exact hb
      ·rw [tk]
       exact zb hnd hm
   ·rintro U H' ⟨kvs,x2,rfl,s,hd,_,_,hin,hnd⟩
    rw [Abj] at hin hnd;rw [Qt (by omega) hin hnd] at q;walk_at "s";exact q _ s
 ·apply yL rfl fun p np=>?_
  apply Cm (hty.mono fun b o e _=>fu np e) aj rfl hk ?_;exact q _ ((Same.refl H).upd np)
def TJ (K:W.Frag):Sp:=fun vs H Q _=>∃ (a:Addr) (t:List Nat),vs=[.ref a]/\Tn H a t/\Prm t/\∀ H',Same H H'->Q .non H'
theorem xr:aG ["thing"] ["thing"] (aB mY):=⟨rfl,rfl,rfl,by trivial,rfl,by trivial,by trivial⟩
theorem bz (T:Txt K mg):Has P w K mg base 4 "need_turning" ["thing"] (TJ K):=by
 have qd:=qd (P:=P) (w:=w) (base:=base) T;refine eO T.d_need_turning xr (fun _ _ _ _ _ _ us hl=>L2.jE (fun _=>rfl) us hl) ?_ fun f cdv A outer s H vs Q E hr h=>?_
 ·rintro vs H Q E ⟨a,t,rfl,_⟩;rfl
 obtain ⟨a,t,rfl,ha,hP,q⟩:=h;apply ⟨_,(aC (bQ (dN (dO (aK qd (hr.mono (by decide)) aU (aa (aq 0) ao) (by trivial)))) (aC iM) bj)),?_⟩;apply ⟨.ref a,true,rfl,TF ha hP,fun H1 S1=>?_⟩;walk_at "s";exact q H1 S1
theorem XJ (n:Nat):((List.range n).map fun i:Nat=>V.int (0+(i:Int)*1))=(nI (List.range n)).map V.int:=by
 unfold nI;rw [AbX];refine AbO fun x _=>?_
 show V.int (0+(x:Int)*1)=V.int (x:Int)
 congr 1;omega
def Hw:Sp:=fun vs H Q _=>∃ n:Nat,vs=[.int n]/\n<=96/\∀ q H',H q=none->Same H H'->H' q=some (.lst ((nI (List.range n)).map V.int))->Q (.ref q) H'
theorem Fy:aG ["many"] ["many"] (aB ut):=⟨rfl,rfl,rfl,by trivial,rfl,by trivial,by trivial⟩
theorem gY (T:Txt K mg):Has P w K mg base 4 "straight" ["many"] Hw:=by
 have bx:=bx (P:=P) (w:=w) (base:=base) T;refine eO T.d_straight Fy (fun _ _ _ _ _ _ us hl=>L2.jE (fun _=>rfl) us hl) ?_ fun f cdv A outer s H vs Q E hr h=>?_
 ·rintro vs H Q E ⟨n,rfl,_⟩;rfl
 obtain ⟨n,rfl,hn,q⟩:=h;have hu:=hr.units0;have hu64:=hr.units;apply ⟨_,(aA (aO (sI bx (hr.mono (by decide)) aU (mW fun _ _=>rfl) (aa (aq 0) (aa aF (aa (yG aU T.c_MOST_LINES (by trivial)) ao))) (by trivial))) (aC (aL (Hk rfl aU T.b_list aU T.b_range (aa (aq 0) ao))))),?_⟩;apply vq (by omega) (by omega) ?_;apply SN (n:=n) (by omega) ?_;intro p np;rw [XJ];exact q p _ np ((Same.refl H).upd np) aj
def aah:Sp:=fun vs H Q _=>∃ (a:Addr) (t:List Nat),vs=[.ref a]/\H a=some (.lst ((nI t).map V.int))/\Prm t/\∀ q H',H q=none->Same H H'->H' q=some (.lst ((nI (inv t)).map V.int))->Q (.ref q) H'
theorem oh:aG ["turning","begins","begin","end"] ["turning"] (aB uv):=⟨rfl,rfl,rfl,by trivial,rfl,by trivial,by trivial⟩
theorem jr (T:Txt K mg):Has P w K mg base 5 "opposite" ["turning"] aah:=by
 have bz:=bz (P:=P) (w:=w) (base:=base) T;refine eO T.d_opposite oh (fun _ _ _ _ _ _ us hl=>L2.jE (fun _=>rfl) us hl) ?_ fun f cdv A outer s H vs Q E hr h=>?_
 ·rintro vs H Q E ⟨a,t,rfl,_⟩;rfl
 obtain ⟨a,t,rfl,ha,hP,q⟩:=h;have hu:=hr.units0;have hu64:=hr.units;apply ⟨_,(aA (aO (aK bz (hr.mono (by decide)) aU (aa (aq 0) ao) (by trivial))) (aA (aM (i:=1) oh.nd rfl dI (aY nQ (gJ (aa aF ao)) (aJ (aH (K:=K) rfl) aU T.b_len aR (aa (aq 0) ao) (by trivial) (by trivial))) rfl) (aA (eN AaF rfl (u0 (K:=K) rfl rfl aU T.b_enumerate (aa (aq 0) ao)) (t8 (K:=K) rfl rfl (fB (bB (i:=2) oh.nd rfl dI rfl) (fB (bB (i:=3) oh.nd rfl dI rfl) pK))) (aC (nY (ts:=vd) (aq 2) (qJ (aq 1) (aq 3) (pL hu64))))) (aC (aL (aq 1)))))),?_⟩;have hs:20000<=sizeLine:=by decide
 have hle:=hP.le;apply ⟨_,t,rfl,.inl ha,hP,fun H1 S1=>?_⟩
 ·skip
  apply yL rfl fun p np=>?_
  apply d9 (SqL.of (fu np (S1 _ _ ha))) ?_;rw [bw];apply Cd (k:=(t.length:Int)) aj (by omega) (by omega) (by simp;omega) fun b nb=>?_
  have S2:Same H (upd (upd H1 p (.lst [.int 0])) b (.lst (List.replicate ((t.length:Int)).toNat [V.int 0]).flatten)):=(S1.upd np).upd nb;have nb0:H b=none:=Same.back (S1.upd np) nb
  have hb0:upd (upd H1 p (.lst [.int 0])) b (.lst (List.replicate ((t.length:Int)).toNat [V.int 0]).flatten) b=some (.lst ((nI (List.replicate t.length 0)).map V.int)):=by
   rw [aj]
   congr 2
   unfold nI;rw [List.map_replicate,List.map_replicate,show ((t.length:Int)).toNat=t.length by omega];generalize t.length=n
   induction n with
   | zero=>rfl
   | succ n ih=>rw [Abm,Ab5,ih,Abm];rfl
  generalize upd (upd H1 p (.lst [.int 0])) b (.lst (List.replicate ((t.length:Int)).toNat [V.int 0]).flatten)=H2 at S2 hb0 ⊢;refine .inr ⟨a,_,rfl,SqL.of (S2 _ _ ha),?_⟩
  refine Av (K:=K) (xs:=(nI t).map V.int) (fun k U H'=>∃ (r:List Nat) (x2 x3:Option V),U=[some (.ref a),some (.ref b),x2,x3]/\Same H H'/\H' b=some (.lst ((nI r).map V.int))/\r.length=t.length/\∀ (i x:Nat),i < k->t[i]?=some x->r[x]?=some i)
   ⟨List.replicate t.length 0,_,_,rfl,S2,hb0,by simp,fun i x h=>by omega⟩ (fun i U H' _ h=>?_) ?_ ?_
  ·obtain ⟨_,_,_,_,s,_⟩:=h
   exact SqL.of (s _ _ ha)
  ·rintro k U H' T v hk ⟨r,x2,x3,rfl,s,hb,hrl,hr⟩ nT
   obtain ⟨i,hi,rfl⟩:=Bh hk;have hit:=hP.lt (Aai hi);apply bN (SqT.of aj) rfl ?_;apply vg (fu nT hb) (Bk (p:=i) rfl (by rw [bw];omega)) ?_;rw [za];refine ⟨r.set i k,_,_,rfl,Same.put (s.upd nT) nb0,aj,by simp;omega,fun j x hj e=>?_⟩;by_cases hjk:j=k
   ·subst hjk
    rw [hi] at e;cases e;rw [AaS (by omega)]
   ·have hx:x≠i:=fun z=>hjk (by
     subst z;have h1:=iz hP.nd e;have h2:=iz hP.nd hi;omega)
    rw [AaM (fun z=>hx z.symm)];exact hr j x (by omega) e
  ·rintro U H' ⟨r,x2,x3,rfl,s,hb,hrl,hr⟩
   walk_at "s";rw [bw] at hr;have e:=wu hP hrl fun i x h=>hr i x (Aab.mp h).1 h
   rw [e] at hb;exact q b _ nb0 s hb
end
local macro_rules | `(tactic| walk_at "s") => `(tactic| (with_reducible repeat (first | refine lZ ?_ | walk_at "1")))
local macro_rules | `(tactic| walk_at "n") => `(tactic| (with_reducible repeat (walk_at "1")))
section
variable {P:Program} {w:World} {K:W.Frag} {mg:Str->Option Value} {base:Heap}
def spDo (K:W.Frag):Sp:=fun vs H Q _=>∃ (bg st:Addr) (E ps:List Nat),vs=[.ref bg,.ref st]/\H bg=some (.lst ((nI E).map V.int))/\H st=some (.lst ((nI ps).map V.int))/\bg≠st/\(∀ p∈ps,p+1 < E.length)/\ps.length<=6000/\
 ∀ q H',H q=none->Chg bg H H'->H' bg=some (.lst ((nI (bA E ps)).map V.int))->H' q=some (.lst ((nI (Qc E ps ps.length)).map V.int))->Q (.ref q) H'
theorem jx:aG ["begins","steps","working","place","step","lesser","greater"] ["begins","steps"] (aB uy):=⟨rfl,rfl,rfl,by trivial,rfl,by trivial,by trivial⟩
theorem uB (T:Txt K mg):Has P w K mg base 1 "do_steps" ["begins","steps"] (spDo K):=by
 refine eO T.d_do_steps jx (fun _ _ _ _ _ _ us hl=>L2.mJ (fun _ _=>rfl) us hl) ?_ fun f cdv A outer s H vs Q E hr h=>?_
 ·rintro vs H Q E ⟨bg,st,E,ps,rfl,_⟩;rfl
 obtain ⟨bg,st,E,ps,rfl,hb,hst,hne,hp,hpl,q⟩:=h;have hu:=hr.units0;have hu64:=hr.units;apply ⟨_,(aA (aM (i:=2) jx.nd rfl dI (gJ ao) rfl) (aA (eN AaF rfl (u0 (K:=K) rfl rfl aU T.b_enumerate (aa (aq 1) ao)) (t8 (K:=K) rfl rfl (fB (bB (i:=3) jx.nd rfl dI rfl) (fB (bB (i:=4) jx.nd rfl dI rfl) pK))) (aA (aM (i:=5) jx.nd rfl dI (bT (K:=K) rfl (aq 0) (aq 4)) rfl) (aA (aM (i:=6) jx.nd rfl dI (bT (K:=K) rfl (aq 0) (aY aQ (aq 4) aF)) rfl) (aC (bQ (bh DY (aq 5) (aq 6) (by walk_at "p")) (aA (nY (ts:=vd) (aq 6) (qJ (aq 0) (aq 4) (pL hu64))) (aA (nY (ts:=vd) (aq 5) (qJ (aq 0) (aY aQ (aq 4) aF) (pL hu64))) (aC (aO (je (K:=K) rfl AaB AaC AaD dF (aq 2) (aa (aq 3) ao)))))) bj))))) (aC (aL (aq 2))))),?_⟩;have hs:20000<=sizeLine:=by decide
 apply yL rfl fun wk nwk=>?_
 have wb:wk≠bg:=fun z=>by rw [z,hb] at nwk;cases nwk
 have ws:wk≠st:=fun z=>by rw [z,hst] at nwk;cases nwk
 refine .inr ⟨st,_,rfl,SqL.of (fu nwk hst),?_⟩
 refine Av (K:=K) (xs:=(nI ps).map V.int) (fun k U H'=>∃ (x3 x4 x5 x6:Option V),U=[some (.ref bg),some (.ref st),some (.ref wk),x3,x4,x5,x6]/\Chg bg H H'/\H' st=some (.lst ((nI ps).map V.int))/\H' bg=some (.lst ((nI (bA E (ps.take k))).map V.int))/\H' wk=some (.lst ((nI (Qc E ps k)).map V.int)))
  ⟨_,_,_,_,rfl,(Chg.refl bg H).new nwk,fu nwk hst,fu nwk hb,aj⟩ (fun i U H' _ h=>?_) ?_ ?_
 ·obtain ⟨_,_,_,_,_,_,h,_⟩:=h
  exact SqL.of h
 ·rintro k U H' T v hk ⟨x3,x4,x5,x6,rfl,c,hst',hb',hw'⟩ nT
  obtain ⟨p,hpk,rfl⟩:=Bh hk;have hkl:k < ps.length:=(Aab.mp hpk).1;have hpd:ps.getD k 0=p:=by rw [Aac,hpk];rfl
  have hpE:p+1 < (bA E (ps.take k)).length:=by rw [lE];exact hp p (Aai hpk)
  have tk:ps.take (k+1)=ps.take k ++ [p]:=by rw [wj hkl,hpd]
  have wsu:=Fj E ps k;rw [hpd] at wsu;have wl:=Tj E ps k;have c1:Chg bg H (upd H' T (.tup [.int k,.int p])):=c.new nT;have hT:upd H' T (.tup [.int k,.int p]) T=some (.tup [.int k,.int p]):=aj;have hst1:=fu nT (o:=.tup [.int k,.int p]) hst';have hb1:=fu nT (o:=.tup [.int k,.int p]) hb';have hw1:=fu nT (o:=.tup [.int k,.int p]) hw';generalize upd H' T (.tup [.int k,.int p])=H1 at c1 hT hst1 hb1 hw1 ⊢;have eR:bA E (ps.take (k+1))=aW (bA E (ps.take k)) p:=by rw [tk,o7]
  generalize bA E (ps.take k)=F at hpE hb1 eR wsu;apply bN (SqT.of hT) rfl ?_;apply bc (SqL.of hb1) (Bj (k:=p) (by omega) rfl) ?_;apply bc (SqL.of hb1) (Bj (k:=p+1) (by omega) (by omega)) ?_;have ew:tD F p=decide (((F.getD p 0:Nat):Int) < ((F.getD (p+1) 0:Nat):Int)):=by unfold tD;exact decide_eq_decide.mpr (by omega)
  rw [← ew];refine iteB (fun hw=>?_) (fun hw=>?_)
  ·rw [if_pos hw] at wsu
   walk_at "s";apply vg hb1 (Bk (p:=p) rfl (by rw [bw];omega)) ?_;rw [za];apply vg aj (Bk (p:=p+1) (by omega) (by rw [bw];simp;omega)) ?_;rw [za,Ra];have hw2:upd H1 bg (.lst ((nI ((F.set p (F.getD (p+1) 0)).set (p+1) (F.getD p 0))).map V.int)) wk=some (.lst ((nI (Qc E ps k)).map V.int)):=by rw [aD wb];exact hw1
   apply ⟨.inl ⟨rfl,_,SqL.of hw2⟩,?_⟩;apply dG hw2 (by rw [bw];omega) ?_;rw [CQ];refine ⟨_,_,_,_,rfl,?_,?_,?_,?_⟩
   ·intro b o nb e
    have nw:b≠wk:=fun z=>by rw [z,nwk] at e;cases e
    rw [aD nw,aD nb];exact c1 b o nb e
   ·rw [aD (Ne.symm ws),aD (Ne.symm hne)];exact hst1
   ·rw [aD (Ne.symm wb),aj,eR]
    unfold aW;rw [if_pos hw]
   ·rw [aj,wsu]
  ·rw [if_neg (by rw [hw];simp),AaL] at wsu
   walk_at "s";refine ⟨_,_,_,_,rfl,c1,hst1,?_,?_⟩
   ·rw [hb1,eR]
    unfold aW;rw [if_neg (by rw [hw];simp)]
   ·rw [hw1,wsu]
 ·rintro U H' ⟨x3,x4,x5,x6,rfl,c,hst',hb',hw'⟩
  rw [bw] at hb' hw';rw [Abj] at hb';walk_at "s";exact q wk H' nwk c hb' hw'
def MR (r:R2):Prop:=∀ x y H Q Q',(∀ v H1,Q v H1->Q' v H1)->r x y H Q->r x y H Q'
def ME (te:TE):Prop:=∀ U H Q Q',(∀ v H1,Q v H1->Q' v H1)->te U H Q->te U H Q'
def MT (te:TT):Prop:=∀ U H Q Q',(∀ v H1,Q v H1->Q' v H1)->te U H Q->te U H Q'
theorem Js (g:Int->Int->V):MR (Ng g):=by
 rintro x y H Q Q' h ⟨i,j,e1,e2,q⟩;exact ⟨i,j,e1,e2,h _ _ q⟩
theorem Vo:MR (UV K):=by
 rintro x y H Q Q' h (⟨p,xs,i,v,a,b,c,d,q⟩ | ⟨p,xs,i,v,a,b,c,d,q⟩ | ⟨z,i,c,a,b,d,e,q⟩)
 ·exact .inl ⟨p,xs,i,v,a,b,c,d,h _ _ q⟩
 ·exact .inr (.inl ⟨p,xs,i,v,a,b,c,d,h _ _ q⟩)
 ·exact .inr (.inr ⟨z,i,c,a,b,d,e,h _ _ q⟩)
theorem TQ:MR Er:=by
 rintro x y H Q Q' h (⟨i,j,a,b,q⟩ | ⟨i,j,a,b,c,q⟩ | ⟨p,q',xs,ys,a,b,c,d,e,q⟩)
 ·exact .inl ⟨i,j,a,b,h _ _ q⟩
 ·exact .inr (.inl ⟨i,j,a,b,c,h _ _ q⟩)
 ·exact .inr (.inr ⟨p,q',xs,ys,a,b,c,d,e,fun r hr=>h _ _ (q r hr)⟩)
theorem uC (i:Nat):ME (tY i):=by
 rintro U H Q Q' h ⟨v,e,q⟩;exact ⟨v,e,h _ _ q⟩
theorem TV (v:V):ME (tC v):=fun U H Q Q' h q=>h _ _ q
theorem zc {r:R2} {ta tb:TE} (hr:MR r) (ha:ME ta) (hb:ME tb):ME (Nf r ta tb):=fun U H Q Q' h q=>ha U H _ _ (fun x H1 q1=>hb U H1 _ _ (fun y H2 q2=>hr _ _ _ _ _ h q2) q1) q
theorem xW {te:TE} (h:ME te):MT (Ae te):=fun U H Q Q' hq q=>h U H _ _ (fun x H1 ⟨k,e,q1⟩=>⟨k,e,hq _ _ q1⟩) q
theorem Qu {t u:TT} (h:MT t) (h2:MT u):MT (Rf t u):=fun U H Q Q' hq q=>h U H _ _ (fun c H1 q1=>by
 cases c with
 | true=>rw [if_pos rfl] at q1 ⊢;exact h2 _ _ _ _ hq q1
 | false=>rw [if_neg Aak] at q1 ⊢;exact hq _ _ q1) q
def mu4 (U:St) (_:Hp):Nat:=match U[4]? with
 | some (some (V.int z))=>(z+1).toNat
 | _=>0
theorem wZ:∀ (p:Nat) (B u:List Nat),(inn p B u).1.length=B.length
 | 0,_,_=>rfl
 | p+1,B,u=>by
  unfold inn
  split
  ·rw [wZ p,pN]
  ·rfl
theorem w5:∀ (p:Nat) (B u:List Nat),(inn p B u).2.length<=u.length+p
 | 0,_,_=>Aad _
 | p+1,B,u=>by
  unfold inn
  split
  ·have:=w5 p (zF B p) (u ++ [p])
   rw [AaR,List.length_singleton] at this;omega
  ·exact Ach _ _
theorem w6 (B:List Nat):∀ k,(ww B k).1.length=B.length
 | 0=>rfl
 | k+1=>(wZ _ _ _).trans (w6 B k)
theorem xf (B:List Nat):∀ k,k<=96->(ww B k).2.length<=96*k
 | 0,_=>Aad _
 | k+1,h=>by
  have h1:=w5 (k+1) (ww B k).1 (ww B k).2;have h2:=xf B k (by omega);show (inn (k+1) (ww B k).1 (ww B k).2).2.length<=_;omega
def Lz:Sp:=fun vs H Q _=>∃ (a:Addr) (t:List Nat),vs=[.ref a]/\H a=some (.lst ((nI t).map V.int))/\Prm t/\∀ q H',H q=none->Same H H'->H' q=some (.lst ((nI (Lr t).reverse).map V.int))->Q (.ref q) H'
theorem iT:aG ["turning","begins","undone","place","step","greater"] ["turning"] (aB uz):=⟨rfl,rfl,rfl,by trivial,rfl,by trivial,by trivial⟩
theorem uD (T:Txt K mg):Has P w K mg base 6 "steps_of" ["turning"] Lz:=by
 have jr:=jr (P:=P) (w:=w) (base:=base) T;refine eO T.d_steps_of iT (fun _ _ _ _ _ _ us hl=>L2.jE (fun _=>rfl) us hl) ?_ fun f cdv A outer s H vs Q E hr h=>?_
 ·rintro vs H Q E ⟨a,t,rfl,_⟩;rfl
 obtain ⟨a,t,rfl,hT,hP,q⟩:=h;have hu:=hr.units0;have hu64:=hr.units;apply ⟨_,(aA (aM (i:=1) iT.nd rfl dI (aK jr (hr.mono (by decide)) aU (aa (aq 0) ao) (by trivial)) rfl) (aA (aM (i:=2) iT.nd rfl dI (gJ ao) rfl) (aA (eN AaF rfl (K3 aU T.b_range (aa aF (aa (aJ (aH (K:=K) rfl) aU T.b_len aR (aa (aq 1) ao) (by trivial) (by trivial)) ao))) (bB (i:=3) iT.nd rfl dI rfl) (aA (aM (i:=4) iT.nd rfl dI (aY iu (aq 3) aF) rfl) (aC (Ex AaF (mU (Ca (bh Ij (aq 4) aF (by walk_at "p")) (xT (bh uM (bT (K:=K) rfl (aq 1) (aq 4)) (bT (K:=K) rfl (aq 1) (aY aQ (aq 4) aF)) (by walk_at "p"))))) (aA (aM (i:=5) iT.nd rfl dI (bT (K:=K) rfl (aq 1) (aq 4)) rfl) (aA (nY (ts:=vd) (bT (K:=K) rfl (aq 1) (aY aQ (aq 4) aF)) (qJ (aq 1) (aq 4) (pL hu64))) (aA (nY (ts:=vd) (aq 5) (qJ (aq 1) (aY aQ (aq 4) aF) (pL hu64))) (aA (aO (je (K:=K) rfl AaB AaC AaD dF (aq 2) (aa (aq 4) ao))) (aC (yM (i:=4) iT.nd rfl dI aF uL rfl)))))))))) (aC (aL (v4 (K:=K) rfl rfl aU T.b_list aU T.b_reversed (aq 2))))))),?_⟩;have hs:20000<=sizeLine:=by decide
 have hle:=hP.le;have il:=bV t;apply ⟨a,t,rfl,hT,hP,fun b H1 nb S1 hb=>?_⟩;apply yL rfl fun ud nud=>?_
 have nud0:=Same.back S1 nud;have bu:b≠ud:=fun z=>by rw [z,nud] at hb;cases hb
 apply d9 (SqL.of (fu nud hb)) ?_;rw [bw];refine ⟨⟨by omega,by omega,by omega,by omega⟩,?_⟩;rw [show (((inv t).length:Int) - 1).toNat=t.length - 1 by omega]
 refine oW (n:=t.length - 1) (fun k U H'=>∃ (x3 x4 x5:Option V),U=[some (.ref a),some (.ref b),some (.ref ud),x3,x4,x5]/\Same H H'/\H' b=some (.lst ((nI (ww (inv t) k).1).map V.int))/\H' ud=some (.lst ((nI (ww (inv t) k).2).map V.int)))
  ⟨_,_,_,rfl,S1.upd nud,fu nud hb,aj⟩ ?_ ?_
 ·rintro k U H' hk ⟨x3,x4,x5,rfl,s,hb1,hu1⟩
  walk_at "s";have ol:=w6 (inv t) k;have ul:=xf (inv t) k (by omega)
  refine DX (fun U H'=>∃ (p:Nat) (B u:List Nat) (x5:Option V),U=[some (.ref a),some (.ref b),some (.ref ud),some (.int (1+(k:Int))),some (.int ((p:Int) - 1)),x5]/\Same H H'/\H' b=some (.lst ((nI B).map V.int))/\H' ud=some (.lst ((nI u).map V.int))/\p<=k+1/\B.length=t.length/\u.length+p<=96*k+k+1/\inn p B u=ww (inv t) (k+1)) mu4
   ⟨k+1,_,_,x5,by rw [show (((k+1:Nat):Int) - 1)=1+(k:Int) - 1 by omega];rfl,s,hb1,hu1,Aad _,by omega,by omega,rfl⟩ ?_ ?_
  ·rintro U H' ⟨p,B,u,x5,rfl,s,hb2,hu2,hp,hB,hul,hin⟩
   walk_at "s";cases p with
   | zero=>
    rw [Aao (by omega)];walk_at "s";exact ⟨_,_,_,rfl,s,by rw [← hin];exact hb2,by rw [← hin];exact hu2⟩
   | succ p=>
    rw [show (((p+1:Nat):Int) - 1)=(p:Int) by omega,Aar (show (0:Int)<=(p:Int) by omega)];walk_at "s";apply bc (SqL.of hb2) (Bj (k:=p) (by omega) rfl) ?_;apply bc (SqL.of hb2) (Bj (k:=p+1) (by omega) (by omega)) ?_;refine qG (fun hc=>?_) (fun hc=>?_)
    ·have hin2:inn p (zF B p) (u ++ [p])=ww (inv t) (k+1):=by
      rw [← hin]
      conv=>rhs;unfold inn
      rw [if_pos (by omega)]
     walk_at "s";apply bc (SqL.of hb2) (Bj (k:=p) (by omega) rfl) ?_;apply bc (SqL.of hb2) (Bj (k:=p+1) (by omega) (by omega)) ?_;apply vg hb2 (Bk (p:=p) rfl (by rw [bw];omega)) ?_;rw [za];apply vg aj (Bk (p:=p+1) (by omega) (by rw [bw];simp;omega)) ?_;rw [za];have s3:Same H (upd (upd H' b (.lst ((nI (B.set p (B.getD (p+1) 0))).map V.int))) b (.lst ((nI ((B.set p (B.getD (p+1) 0)).set (p+1) (B.getD p 0))).map V.int))):=Same.put (Same.put s nb) nb;have hb3:upd (upd H' b (.lst ((nI (B.set p (B.getD (p+1) 0))).map V.int))) b (.lst ((nI ((B.set p (B.getD (p+1) 0)).set (p+1) (B.getD p 0))).map V.int)) b=some (.lst ((nI (zF B p)).map V.int)):=aj;have hu3:upd (upd H' b (.lst ((nI (B.set p (B.getD (p+1) 0))).map V.int))) b (.lst ((nI ((B.set p (B.getD (p+1) 0)).set (p+1) (B.getD p 0))).map V.int)) ud=some (.lst ((nI u).map V.int)):=by rw [aD (Ne.symm bu),aD (Ne.symm bu)];exact hu2
     generalize upd (upd H' b (.lst ((nI (B.set p (B.getD (p+1) 0))).map V.int))) b (.lst ((nI ((B.set p (B.getD (p+1) 0)).set (p+1) (B.getD p 0))).map V.int))=H3 at s3 hb3 hu3 ⊢;apply ⟨.inl ⟨rfl,_,SqL.of hu3⟩,?_⟩;apply dG hu3 (by rw [bw];omega) ?_;rw [CQ];refine ⟨⟨p,zF B p,u ++ [p],_,rfl,Same.put s3 nud0,by rw [aD bu];exact hb3,aj,by omega,by rw [pN];exact hB,by simp;omega,hin2⟩,?_⟩;show ((p:Int) - 1+1).toNat < ((p:Int)+1).toNat;omega
    ·have hin2:(B,u)=ww (inv t) (k+1):=by
      rw [← hin]
      conv=>rhs;unfold inn
      rw [if_neg (by omega)]
     walk_at "s";exact ⟨_,_,_,rfl,s,by rw [← hin2];exact hb2,by rw [← hin2];exact hu2⟩
  ·exact Qu (xW (zc (Js _) (uC _) (TV _))) (xW (zc (Js _) (zc Vo (uC _) (uC _)) (zc Vo (uC _) (zc TQ (uC _) (TV _)))))
 ·rintro U H' ⟨x3,x4,x5,rfl,s,hb1,hu1⟩
  walk_at "s";refine ⟨_,rfl,_,_,rfl,SqL.of hu1,fun r nr=>?_⟩;refine q r _ (Same.back s nr) (s.upd nr) ?_;rw [aj];unfold nI Lr;rw [List.map_reverse,List.map_reverse]
def TX (K:W.Frag):Sp:=fun vs H Q _=>∃ a b x y,vs=[.ref a,.ref b]/\H a=some (.lst ((nI x).map V.int))/\H b=some (.lst ((nI y).map V.int))/\Prm x/\Prm y/\x.length=y.length/\∀ H',Same H H'->Q .non H'
theorem zP:aG ["one","other"] ["one","other"] (aB pX):=⟨rfl,rfl,rfl,by trivial,rfl,by trivial,by trivial⟩
theorem qe (T:Txt K mg):Has P w K mg base 5 "need_alike" ["one","other"] (TX K):=by
 have bz:=bz (P:=P) (w:=w) (base:=base) T;refine eO T.d_need_alike zP (fun _ _ _ _ _ _ us hl=>L2.mJ (fun _ _=>rfl) us hl) ?_ fun f cdv A outer s H vs Q E hr h=>?_
 ·rintro vs H Q E ⟨a,b,x,y,rfl,_⟩;rfl
 obtain ⟨a,b,x,y,rfl,ha,hb,px,py,he,q⟩:=h;have hu:=hr.units0;have hu64:=hr.units;apply ⟨_,(aA (aO (aK bz (hr.mono (by decide)) aU (aa (aq 0) ao) (by trivial))) (aA (aO (aK bz (hr.mono (by decide)) aU (aa (aq 1) ao) (by trivial))) (aC (bQ (bh (qL (K:=K) rfl hu64) (aJ (aH (K:=K) rfl) aU T.b_len aR (aa (aq 0) ao) (by trivial) (by trivial)) (aJ (aH (K:=K) rfl) aU T.b_len aR (aa (aq 1) ao) (by trivial) (by trivial)) (by walk_at "p")) (aC iM) bj)))),?_⟩;apply ⟨a,x,rfl,.inl ha,px,fun H1 S1=>?_⟩;apply ⟨b,y,rfl,.inl (S1 _ _ hb),py,fun H2 S2=>?_⟩;have U2:=S1.trans S2;apply d9 (SqL.of (U2 _ _ ha)) ?_;apply d9 (SqL.of (U2 _ _ hb)) ?_;rw [bw,bw,Qp,Aar (show (x.length:Int)=(y.length:Int) by omega)];walk_at "s";exact q _ U2
def XM (K:W.Frag):Sp:=fun vs H Q _=>∃ a b x y n,vs=[.ref a,.ref b]/\H a=some (.lst ((nI x).map V.int))/\H b=some (.lst ((nI y).map V.int))/\Two n x y/\∀ q H',H q=none->Same H H'->H' q=some (.lst ((nI (lay x y)).map V.int))->Q (.ref q) H'
theorem Jt:aG ["one","other","begins"] ["one","other"] (aB Ht):=⟨rfl,rfl,rfl,by trivial,rfl,by trivial,by trivial⟩
theorem wG (T:Txt K mg):Has P w K mg base 7 "laid" ["one","other"] (XM K):=by
 have qe:=qe (P:=P) (w:=w) (base:=base) T;have jr:=jr (P:=P) (w:=w) (base:=base) T;have uB:=uB (P:=P) (w:=w) (base:=base) T;have uD:=uD (P:=P) (w:=w) (base:=base) T;refine eO T.d_laid Jt (fun _ _ _ _ _ _ us hl=>L2.mJ (fun _ _=>rfl) us hl) ?_ fun f cdv A outer s H vs Q E hr h=>?_
 ·rintro vs H Q E ⟨a,b,x,y,n,rfl,_⟩;rfl
 obtain ⟨a,b,x,y,n,rfl,ha,hb,h2,q⟩:=h;apply ⟨_,(aA (aO (aK qe (hr.mono (by decide)) aU (aa (aq 0) (aa (aq 1) ao)) (by trivial))) (aA (aM (i:=2) Jt.nd rfl dI (aK jr (hr.mono (by decide)) aU (aa (aq 0) ao) (by trivial)) rfl) (aA (aO (aK uB (hr.mono (by decide)) aU (aa (aq 2) (aa (aK uD (hr.mono (by decide)) aU (aa (aq 1) ao) (by trivial)) ao)) (by trivial))) (aC (aL (aK jr (hr.mono (by decide)) aU (aa (aq 2) ao) (by trivial))))))),?_⟩;have cl:=aac h2.py.le;apply ⟨a,b,x,y,rfl,ha,hb,h2.px,h2.py,by rw [h2.lx,h2.ly],fun H1 S1=>?_⟩;apply ⟨a,x,rfl,S1 _ _ ha,h2.px,fun bg H2 nb S2 hb2=>?_⟩;apply ⟨b,y,rfl,(S1.trans S2) _ _ hb,h2.py,fun st H3 nst S3 hst=>?_⟩;have nb0:=Same.back S1 nb;have hne:bg≠st:=fun z=>by rw [z] at hb2;rw [hb2] at nst;cases nst
 apply ⟨bg,st,inv x,(Lr y).reverse,rfl,S3 _ _ hb2,hst,hne,(fun p hp=>by rw [bV,h2.lx];exact h2.lt p hp),(by rw [Tr h2.py];exact cl),fun wk H4 nwk C4 hb4 hw4=>?_⟩;have S4:Same H H4:=fun c o e=>C4 c o (fun z=>by rw [z,nb0] at e;cases e) (S3 _ _ (S2 _ _ (S1 _ _ e)))
 refine ⟨bg,_,rfl,hb4,h2.run.1,fun r H5 nr S5 hr=>?_⟩;exact q r H5 (Same.back S4 nr) (S4.trans S5) hr
end
local macro_rules | `(tactic| walk_at "s") => `(tactic| (with_reducible repeat (first | refine lZ ?_ | walk_at "2")))
local macro_rules | `(tactic| walk_at "n") => `(tactic| (with_reducible repeat (walk_at "2")))
section
variable {P:Program} {w:World} {K:W.Frag} {mg:Str->Option Value} {base:Heap}
theorem Fz:(["sign"]:List Str).Nodup:=by trivial
def wH:Str:=Str.ofString "abcdefghijklmnopqrstuvwxyz"
def GOOD:List Nat:=(wH ++ Str.ofString ".").cps.toList
def Row (z:Str):Prop:=z.length<=48/\∀ c∈z.cps.toList,c∈GOOD
def xx (l:Str) (c:Nat):Bool:=(Builtin.Str.occurrences l ⟨#[c]⟩ 0 l.length 1).isEmpty
theorem TY:∀ c∈GOOD,xx (wH ++ Str.ofString ".") c=false:=by trivial
def T4:Sp:=fun vs H Q _=>∃ z:Str,vs=[.str z]/\Row z/\∀ H',Same H H'->Q (.bl true) H'
def XN:Sp:=fun vs H Q _=>∃ z:Str,vs=[.str z]/\Row z/\∀ H',Same H H'->Q .non H'
def T5:Sp:=fun vs H Q _=>∃ z y:Str,vs=[.str z,.str y]/\Row z/\Row y/\∀ H',Same H H'->Q .non H'
theorem LC:aG ["thing"] ["thing"] (aB vo):=⟨rfl,rfl,rfl,by trivial,rfl,by trivial,by trivial⟩
theorem zf (T:Txt K mg):Has P w K mg base 1 "is_row" ["thing"] T4:=by
 refine eO T.d_is_row LC (fun _ _ _ _ _ _ us hl=>L2.jE (fun _=>rfl) us hl) ?_ fun f cdv A outer s H vs Q E hr h=>?_
 ·rintro vs H Q E ⟨p,rfl,_⟩;rfl
 obtain ⟨z,rfl,⟨hz,hg⟩,q⟩:=h;have hu:=hr.units0;have hu64:=hr.units;apply ⟨_,(aA (bQ (mU (mR (dN (dO (aJ (gH (K:=K) rfl) aU T.b_isinstance bf (aa (aq 0) (aa (uY aU T.b_str Ha (by trivial) (by trivial)) ao)) (by trivial) (by trivial)))) (mQ (bh uM (aJ (aH (K:=K) rfl) aU T.b_len aR (aa (aq 0) ao) (by trivial) (by trivial)) (yG aU T.c_MOST_SIGNS (by trivial)) (by walk_at "p"))))) (aC (aL lJ)) bj) (aC (aL (aJ (yz rfl) aU T.b_all G9 (aa (jJ (sub:=[none]) (d8 (N:=["thing"]) (sc:=aB vo) (N':=["sign"]) (by trivial)) rfl rfl rfl (dR (K:=K) rfl (aq 0)) (fun C s₀ H₀ ex=>(qI 0 (by trivial) Fz)) (fun C s₀ H₀ ex=>gW) (fun C s₀ H₀ ex=>(uZ (G8 (K:=K) rfl) (kh 0 (by trivial)) (aY aQ (yF (RZ (by trivial)) T.c_LETTERS (by trivial)) (yF (RZ (by trivial)) T.c_POINT (by trivial))) (by walk_at "p")))) ao) (by trivial) (by trivial))))),?_⟩;have hz1:z.length<=sizeLine:=Aay hz (by decide);apply nU (.str z) rfl ?_;try with_reducible refine jC ?_
 walk_at "s";apply bM hz1 ?_;refine qG (fun h1=>?_) (fun h1=>?_)
 ·omega
 walk_at "s";refine .inr (.inr ⟨z,rfl,?_⟩);refine Ew (fun i us H'=>H'=H/\us=((z.cps.toList.take i).map fun c=>!xx (wH ++ Str.ofString ".") c).map V.bl) hz1 ⟨rfl,rfl⟩ ?_ ?_ ?_
 ·rintro i us H' ⟨rfl,rfl⟩
  simp;omega
 ·rintro i us H' c hc ⟨rfl,rfl⟩
  walk_at "s";apply ⟨KeepSt.set rfl,?_⟩;try with_reducible refine jD ?_
  walk_at "s";apply t7 (Aay (show (Str.ofString "abcdefghijklmnopqrstuvwxyz").length+(Str.ofString ".").length<=1000 by trivial) (by decide)) ?_;refine ⟨rfl,?_⟩;rw [Aa4,hc];simp [wH,xx]
 ·rintro us H' ⟨rfl,rfl⟩ D hD
  walk_at "s";refine ⟨D,_,rfl,aj,?_⟩
  have e2:(List.map (fun c=>!xx (wH ++ Str.ofString ".") c) (z.cps.toList.take z.cps.size)).all id=true:=by
   rw [List.all_map,Abi];intro c hc;have:=TY c (hg c (AbL hc));simp [this]
  rw [e2];exact q _ ((Same.refl H').upd hD)
theorem FJ:aG ["thing"] ["thing"] (aB ur):=⟨rfl,rfl,rfl,by trivial,rfl,by trivial,by trivial⟩
theorem qg (T:Txt K mg):Has P w K mg base 2 "need_row" ["thing"] XN:=by
 have zf:=zf (P:=P) (w:=w) (base:=base) T;refine eO T.d_need_row FJ (fun _ _ _ _ _ _ us hl=>L2.jE (fun _=>rfl) us hl) ?_ fun f cdv A outer s H vs Q E hr h=>?_
 ·rintro vs H Q E ⟨p,rfl,_⟩;rfl
 obtain ⟨z,rfl,hz,q⟩:=h;apply ⟨_,(aC (bQ (dN (dO (aK zf (hr.mono (by decide)) aU (aa (aq 0) ao) (by trivial)))) (aC iM) bj)),?_⟩;apply ⟨z,rfl,hz,fun H1 S1=>?_⟩;try with_reducible refine jC ?_
 walk_at "s";exact q _ S1
theorem CW:aG ["side","top"] ["side","top"] (aB qX):=⟨rfl,rfl,rfl,by trivial,rfl,by trivial,by trivial⟩
theorem cG (T:Txt K mg):Has P w K mg base 3 "need_rows" ["side","top"] T5:=by
 have qg:=qg (P:=P) (w:=w) (base:=base) T;refine eO T.d_need_rows CW (fun _ _ _ _ _ _ us hl=>L2.mJ (fun _ _=>rfl) us hl) ?_ fun f cdv A outer s H vs Q E hr h=>?_
 ·rintro vs H Q E ⟨p,y,rfl,_⟩;rfl
 obtain ⟨z,y,rfl,hz,hy,q⟩:=h;apply ⟨_,(aA (aO (aK qg (hr.mono (by decide)) aU (aa (aq 0) ao) (by trivial))) (aC (aO (aK qg (hr.mono (by decide)) aU (aa (aq 1) ao) (by trivial))))),?_⟩;apply ⟨z,rfl,hz,fun H1 S1=>?_⟩;refine ⟨y,rfl,hy,fun H2 S2=>?_⟩;exact q _ (S1.trans S2)
def LK:Sp:=fun vs H Q _=>∃ c:Nat,vs=[.str ⟨#[c]⟩]/\Q (.bl (!xx wH c)) H
theorem Qv:∀ c∈GOOD,xx wH c=true->c=46:=by trivial
theorem CZ:aG ["thing"] ["thing"] (aB qT):=⟨rfl,rfl,rfl,by trivial,rfl,by trivial,by trivial⟩
theorem rG (T:Txt K mg):Has P w K mg base 1 "is_letter" ["thing"] LK:=by
 refine eO T.d_is_letter CZ (fun _ _ _ _ _ _ us hl=>L2.jE (fun _=>rfl) us hl) ?_ fun f cdv A outer s H vs Q E hr h=>?_
 ·rintro vs H Q E ⟨c,rfl,_⟩;rfl
 obtain ⟨c,rfl,q⟩:=h;have hu64:=hr.units;apply ⟨_,(aC (aL (tM (aJ (gH (K:=K) rfl) aU T.b_isinstance bf (aa (aq 0) (aa (uY aU T.b_str Ha (by trivial) (by trivial)) ao)) (by trivial) (by trivial)) (tM (uZ (fH (K:=K) rfl hu64) (aJ (aH (K:=K) rfl) aU T.b_len aR (aa (aq 0) ao) (by trivial) (by trivial)) aF (by walk_at "p")) (wQ (uZ (G8 (K:=K) rfl) (aq 0) (yF aU T.c_LETTERS (by trivial)) (by walk_at "p"))))))),?_⟩;apply nU (.str _) rfl ?_;apply bM (by rw [Oi];decide) ?_;rw [Oi,show decide (V.int ((1:Nat):Int)=V.int 1)=true from rfl];walk_at "s";exact q
def T6:Sp:=fun vs H Q _=>∃ c:Nat,vs=[.str ⟨#[c]⟩]/\c∈GOOD/\Q (.bl true) H
theorem Hy:aG ["thing"] ["thing"] (aB wz):=⟨rfl,rfl,rfl,by trivial,rfl,by trivial,by trivial⟩
theorem wI (T:Txt K mg):Has P w K mg base 2 "is_sign" ["thing"] T6:=by
 have rG:=rG (P:=P) (w:=w) (base:=base) T;refine eO T.d_is_sign Hy (fun _ _ _ _ _ _ us hl=>L2.jE (fun _=>rfl) us hl) ?_ fun f cdv A outer s H vs Q E hr h=>?_
 ·rintro vs H Q E ⟨c,rfl,_⟩;rfl
 obtain ⟨c,rfl,hc,q⟩:=h;have hu64:=hr.units;apply ⟨_,(aC (aL (j_or (aK rG (hr.mono (by decide)) aU (aa (aq 0) ao) (by trivial)) (wQ (uZ (fH (K:=K) rfl hu64) (aq 0) (yF aU T.c_POINT (by trivial)) (by walk_at "p")))))),?_⟩;apply ⟨c,rfl,?_⟩;cases hb:xx wH c with
 | false=>
  show if true=true then _ else _
  walk_at "s";exact q
 | true=>
  obtain rfl:=Qv c hc hb;show if false=true then _ else _
  walk_at "s";rw [show decide (V.str ⟨#[46]⟩=V.str (Str.ofString "."))=true by trivial];exact q
def Hz:Sp:=fun vs H Q _=>∃ c:Nat,vs=[.str ⟨#[c]⟩]/\c∈GOOD/\Q .non H
theorem Dc:aG ["thing"] ["thing"] (aB qW):=⟨rfl,rfl,rfl,by trivial,rfl,by trivial,by trivial⟩
theorem ou (T:Txt K mg):Has P w K mg base 3 "need_sign" ["thing"] Hz:=by
 have wI:=wI (P:=P) (w:=w) (base:=base) T;refine eO T.d_need_sign Dc (fun _ _ _ _ _ _ us hl=>L2.jE (fun _=>rfl) us hl) ?_ fun f cdv A outer s H vs Q E hr h=>?_
 ·rintro vs H Q E ⟨c,rfl,_⟩;rfl
 obtain ⟨c,rfl,hc,q⟩:=h;apply ⟨_,(aC (bQ (dN (dO (aK wI (hr.mono (by decide)) aU (aa (aq 0) ao) (by trivial)))) (aC iM) bj)),?_⟩;apply ⟨c,rfl,hc,?_⟩;walk_at "s";exact q
end
local macro_rules | `(tactic| walk_at "s") => `(tactic| (with_reducible repeat (first | refine lZ ?_ | walk_at "3")))
local macro_rules | `(tactic| walk_at "n") => `(tactic| (with_reducible repeat (walk_at "3")))
section
variable {P:Program} {w:World} {K:W.Frag} {mg:Str->Option Value} {base:Heap}
def Hx (p:Addr) (H:Hp):Hp:=fun b=>if b=p then none else H b
theorem Ju (p:Addr) (H:Hp):Same (Hx p H) H:=fun b o e=>by
 unfold Hx at e
 split at e
 ·cases e
 ·exact e
theorem Bl {p b:Addr} {H:Hp} {o:HO} (h:H b=some o) (n:b≠p):Hx p H b=some o:=by unfold Hx;rw [if_neg n];exact h
theorem XQ {p:Addr} {H:Hp} {o:HO}:Hx p (upd H p o)=Hx p H:=by
 funext b;unfold Hx;by_cases h:b=p
 ·rw [if_pos h,if_pos h]
 ·rw [if_neg h,if_neg h,aD h]
def LQ:List Str:=["Blank","One","Over","Beside","Ring"]
def Q9 (side top kind:Str) (al ap:Addr) (h:Nat):List (Str×V):=[("held_side",.str side),("held_top",.str top),("held_kind",.str kind),("held_lines",.ref al),("held_parts",.ref ap),("held_height",.int (h:Int))]
def Pc (mg:Str->Option Value) (H:Hp) (x:Addr) (y side top kind:Str) (L:List Nat) (ps:List V) (h:Nat):Prop:=y∈LQ/\∃ dx al ap,H x=some (.ins (aN mg y) dx (Q9 side top kind al ap h))/\H al=some (.lst ((nI L).map V.int))/\H ap=some (.lst ps)
theorem Pc.same {H H':Hp} {x:Addr} {y side top kind:Str} {L:List Nat} {ps:List V} {h:Nat} (p:Pc mg H x y side top kind L ps h) (s:Same H H'):Pc mg H' x y side top kind L ps h:=by
 obtain ⟨hy,dx,al,ap,a,b,c⟩:=p;exact ⟨hy,dx,al,ap,s _ _ a,s _ _ b,s _ _ c⟩
theorem pcN (T:Txt K mg) {y:Str} (hy:y∈LQ):∀ f∈(["held_side","held_top","held_kind","held_lines","held_parts","held_height"]:List Str),NoAttr K (aN mg y) f:=by
 unfold LQ at hy;simp only [Aaj,AaN,or_false] at hy;rcases hy with rfl | rfl | rfl | rfl | rfl
 ·exact T.n_Blank
 ·exact T.n_One
 ·exact T.n_Over
 ·exact T.n_Beside
 ·exact fun f hf=>T.n_Ring f (by simp only [Aaj,AaN,or_false] at hf ⊢;rcases hf with h | h | h | h | h | h <;> simp [h])
def Jv (mg:Str->Option Value):Sp:=fun vs H Q _=>∃ (x:Addr) (y:Str) (dx:Addr) (fs:List (Str×V)) (side:Str),vs=[.ref x]/\y∈LQ/\H x=some (.ins (aN mg y) dx fs)/\fs.lookup ("held_side":Str)=some (V.str side)/\Q (.str side) H
theorem Pc.sd {H:Hp} {x:Addr} {y side top kind:Str} {L:List Nat} {ps:List V} {h:Nat} {Q:VK} {E:XK} (p:Pc mg H x y side top kind L ps h) (q:Q (.str side) H):Jv mg [.ref x] H Q E:=by
 obtain ⟨hy,dx,al,ap,a,_,_⟩:=p;exact ⟨x,y,dx,_,side,rfl,hy,a,rfl,q⟩
theorem zQ:aG ["self"] ["self"] (aB p8):=⟨rfl,rfl,rfl,by trivial,rfl,by trivial,by trivial⟩
theorem bR (T:Txt K mg):Lk P w K mg base 1 ["Blank","One","Over","Beside","Ring"] "side" ["self"] (Jv mg):=by
 refine Tg T.m_Piece_side zQ (fun _ _ _ _ _ _ us hl=>L2.jE (fun _=>rfl) us hl) ?_ fun f cdv A outer s H vs Q E hr h=>?_
 ·rintro vs H Q E ⟨x,y,dx,fs,side,rfl,_⟩;rfl
 obtain ⟨x,y,dx,fs,side,rfl,hy,hx,hf,q⟩:=h;apply ⟨_,(aC (aL (jL (K:=K) rfl (aq 0)))),?_⟩;apply ⟨x,_,dx,_,_,rfl,hx,T.os_Piece y hy,pcN T hy _ (by simp),hf,?_⟩;exact q
def XR (mg:Str->Option Value):Sp:=fun vs H Q _=>∃ x y side top kind L ps h,vs=[.ref x]/\Pc mg H x y side top kind L ps h/\Q (.str top) H
theorem Dd:aG ["self"] ["self"] (aB rC):=⟨rfl,rfl,rfl,by trivial,rfl,by trivial,by trivial⟩
theorem dY (T:Txt K mg):Lk P w K mg base 1 ["Blank","One","Over","Beside","Ring"] "top" ["self"] (XR mg):=by
 refine Tg T.m_Piece_top Dd (fun _ _ _ _ _ _ us hl=>L2.jE (fun _=>rfl) us hl) ?_ fun f cdv A outer s H vs Q E hr h=>?_
 ·rintro vs H Q E ⟨x,y,side,top,kind,L,ps,h,rfl,_⟩;rfl
 obtain ⟨x,y,side,top,kind,L,ps,h,rfl,⟨hy,dx,al,ap,hx,_,_⟩,q⟩:=h;apply ⟨_,(aC (aL (jL (K:=K) rfl (aq 0)))),?_⟩;apply ⟨x,_,dx,_,_,rfl,hx,T.os_Piece y hy,pcN T hy _ (by simp),rfl,?_⟩;exact q
def LR (mg:Str->Option Value):Sp:=fun vs H Q _=>∃ x y side top kind L ps h,vs=[.ref x]/\Pc mg H x y side top kind L ps h/\Q (.int (h:Int)) H
theorem xF:aG ["self"] ["self"] (aB m7):=⟨rfl,rfl,rfl,by trivial,rfl,by trivial,by trivial⟩
theorem nj (T:Txt K mg):Lk P w K mg base 1 ["Blank","One","Over","Beside","Ring"] "height" ["self"] (LR mg):=by
 refine Tg T.m_Piece_height xF (fun _ _ _ _ _ _ us hl=>L2.jE (fun _=>rfl) us hl) ?_ fun f cdv A outer s H vs Q E hr h=>?_
 ·rintro vs H Q E ⟨x,y,side,top,kind,L,ps,h,rfl,_⟩;rfl
 obtain ⟨x,y,side,top,kind,L,ps,h,rfl,⟨hy,dx,al,ap,hx,_,_⟩,q⟩:=h;apply ⟨_,(aC (aL (jL (K:=K) rfl (aq 0)))),?_⟩;apply ⟨x,_,dx,_,_,rfl,hx,T.os_Piece y hy,pcN T hy _ (by simp),rfl,?_⟩;exact q
def Qw (mg:Str->Option Value):Sp:=fun vs H Q _=>∃ x y side top kind L ps h,vs=[.ref x]/\Pc mg H x y side top kind L ps h/\∀ q H',H q=none->Same H H'->H' q=some (.lst ((nI L).map V.int))->Q (.ref q) H'
theorem zg:aG ["self"] ["self"] (aB oK):=⟨rfl,rfl,rfl,by trivial,rfl,by trivial,by trivial⟩
theorem bO (T:Txt K mg):Lk P w K mg base 1 ["Blank","One","Over","Beside","Ring"] "lines" ["self"] (Qw mg):=by
 refine Tg T.m_Piece_lines zg (fun _ _ _ _ _ _ us hl=>L2.jE (fun _=>rfl) us hl) ?_ fun f cdv A outer s H vs Q E hr h=>?_
 ·rintro vs H Q E ⟨x,y,side,top,kind,L,ps,h,rfl,_⟩;rfl
 obtain ⟨x,y,side,top,kind,L,ps,h,rfl,⟨hy,dx,al,ap,hx,hal,_⟩,q⟩:=h;apply ⟨_,(aC (aL (qH (mO (K:=K) rfl rfl) aU T.b_list jH (aa (jL (K:=K) rfl (aq 0)) ao) (by trivial) (by trivial)))),?_⟩;apply ⟨x,_,dx,_,_,rfl,hx,T.os_Piece y hy,pcN T hy _ (by simp),rfl,?_⟩;apply xR (SqL.of hal) fun l nl=>?_
 exact q l _ nl ((Same.refl H).upd nl) aj
theorem tE:(["part"]:List Str).Nodup:=by trivial
theorem Chg.same {x:Addr} {H H1 H2:Hp} (c:Chg x H H1) (s:Same H1 H2):Chg x H H2:=fun b o n e=>s _ _ (c b o n e)
theorem Chg.put {x:Addr} {H H1:Hp} {o:HO} (c:Chg x H H1):Chg x H (upd H1 x o):=fun b u n e=>by rw [aD n];exact c b u n e
theorem jQ {f:Str} {y:V}:∀ {fs:List (Str×V)},(fs.map (·.1)).contains f=false->mL f y fs=fs ++ [(f,y)]
 | [],_=>rfl
 | (g,z) :: fs,h=>by
  simp only [AaW,Abg,AbM] at h;have hne:¬ g=f:=fun e=>by rw [e] at h;simp at h
  have ih:=jQ (y:=y) (fs:=fs) h.2;unfold mL;simp [hne,ih]
theorem ph {H:Hp} {x C dx:Addr} {fs:List (Str×V)} {f:Str} {y:V} (hf:(fs.map (·.1)).contains f=false):∃ H',upd H x (.ins C dx (mL f y fs))=H'/\H' x=some (.ins C dx (fs ++ [(f,y)]))/\Chg x H H':=
 ⟨_,rfl,by rw [aj,jQ hf],Chg.put (Chg.refl x H)⟩
def PsH (mg:Str->Option Value) (H:Hp) (ps:List V) (hs:List Nat):Prop:=ps.length=hs.length/\∀ (i:Nat) (v:V) (h:Nat),ps[i]?=some v->hs[i]?=some h->∃ q y s t k L qs,v= .ref q/\Pc mg H q y s t k L qs h
theorem PsH.chg {H H':Hp} {x C dx:Addr} {ps:List V} {hs:List Nat} (p:PsH mg H ps hs) (hx:H x=some (.ins C dx [])) (c:Chg x H H'):PsH mg H' ps hs:=⟨p.1,fun i v h e1 e2=>by
 obtain ⟨q,y,s,t,k,L,qs,rfl,hy,ex,al,ap,h1,h2,h3⟩:=p.2 i v h e1 e2;refine ⟨q,y,s,t,k,L,qs,rfl,hy,ex,al,ap,c _ _ ?_ h1,c _ _ ?_ h2,c _ _ ?_ h3⟩
 ·intro z;rw [z,hx] at h1;cases h1
 ·intro z;rw [z,hx] at h2;cases h2
 ·intro z;rw [z,hx] at h3;cases h3⟩
def zR (hs:List Nat) (h:Nat):Prop:=(hs=[]/\h=0)\/((∃ a∈hs,h=a+1)/\∀ a∈hs,a+1<=h)
def De (mg:Str->Option Value):Sp:=fun vs H Q _=>∃ (x dx l p:Addr) (y side top kind:Str) (L:List Nat) (ps:List V) (hs:List Nat),vs=[.ref x,.str side,.str top,.str kind,.ref l,.ref p]/\y∈LQ/\H x=some (.ins (aN mg y) dx [])/\H l=some (.lst ((nI L).map V.int))/\H p=some (.lst ps)/\ps.length<=1000/\PsH mg H ps hs/\
 ∀ h H',zR hs h->Chg x H H'->Pc mg H' x y side top kind L ps h->(∀ m o,H m=some o->m≠x->Pc mg (Hx m H') x y side top kind L ps h)->Q .non H'
theorem vy:aG ["self","side","top","kind","lines","parts"] ["self","side","top","kind","lines","parts"] (aB iV):=⟨rfl,rfl,rfl,by trivial,rfl,by trivial,by trivial⟩
theorem aV (T:Txt K mg):Xw P w K mg base 2 "Piece" "__init__" ["self","side","top","kind","lines","parts"] (De mg):=by
 have nj:=nj (P:=P) (w:=w) (base:=base) T;refine hasC T.m_Piece___init__ vy (fun _ _ _ _ _ _ us hl=>L2.usN6 (fun _ _ _ _ _ _=>rfl) us hl) ?_ fun f cdv A outer s H vs Q E hr h=>?_
 ·rintro vs H Q E ⟨x,dx,l,p,y,side,top,kind,L,ps,hs,rfl,_⟩;rfl
 obtain ⟨x,dx,l,p,y,side,top,kind,L,ps,hs,rfl,hy,hx,hl,hp,hpl,hH,q⟩:=h;have hu:=hr.units0;have hu64:=hr.units;apply ⟨_,(aA (kI (K:=K) rfl (aq 0) (aq 1)) (aA (kI (K:=K) rfl (aq 0) (aq 2)) (aA (kI (K:=K) rfl (aq 0) (aq 3)) (aA (kI (K:=K) rfl (aq 0) (qH (mO (K:=K) rfl rfl) aU T.b_list jH (aa (aq 4) ao) (by trivial) (by trivial))) (aA (kI (K:=K) rfl (aq 0) (qH (mO (K:=K) rfl rfl) aU T.b_list jH (aa (aq 5) ao) (by trivial) (by trivial))) (aC (kI (K:=K) rfl (aq 0) (Xx rfl aU T.b_max (jJ (sub:=[none]) (d8 (N:=["self","side","top","kind","lines","parts"]) (sc:=aB iV) (N':=["part"]) (by trivial)) rfl rfl rfl (dR (K:=K) rfl (aq 5)) (fun C s₀ H₀ ex=>(qI 0 (by trivial) tE)) (fun C s₀ H₀ ex=>gW) (fun C s₀ H₀ ex=>(aY aQ (bZ (mg:=mg) rfl (kh 0 (by trivial)) T.os_Piece nj (hr.mono (by decide)) (mW fun _ _=>rfl)) aF))) aF)))))))),?_⟩;have hz:20000<=sizeLine:=by decide
 have cl:=T.os_Piece y hy;have na:=pcN T hy;have lx:∀ {G:Hp} {C ex:Addr} {fs:List (Str×V)} {a:Addr} {us:List V},G x=some (.ins C ex fs)->G a=some (.lst us)->a≠x:=fun h1 h2 z=>by rw [z,h1] at h2;cases h2
 apply ⟨x,_,dx,_,rfl,hx,cl,na _ (by simp),by simp,?_⟩;obtain ⟨H1,e1,hx1,M1⟩:=ph (H:=H) (x:=x) (C:=aN mg y) (dx:=dx) (fs:=[]) (f:="held_side") (y:=.str side) rfl;rw [e1];walk_at "s";apply ⟨x,_,dx,_,rfl,hx1,cl,na _ (by simp),by simp,?_⟩;obtain ⟨H2,e2,hx2,M2⟩:=ph (H:=H1) (x:=x) (C:=aN mg y) (dx:=dx) (fs:=[] ++ [(Str.ofString "held_side",V.str side)]) (f:="held_top") (y:=.str top) (by show (["held_side"]:List Str).contains "held_top"=false;trivial);rw [e2];walk_at "s";apply ⟨x,_,dx,_,rfl,hx2,cl,na _ (by simp),by simp,?_⟩;obtain ⟨H3,e3,hx3,M3⟩:=ph (H:=H2) (x:=x) (C:=aN mg y) (dx:=dx) (fs:=[] ++ [(Str.ofString "held_side",V.str side)] ++ [(Str.ofString "held_top",V.str top)]) (f:="held_kind") (y:=.str kind) (by show (["held_side","held_top"]:List Str).contains "held_kind"=false;trivial);rw [e3];have C3:=(M1.trans M2).trans M3;have hl3:=C3 l _ (lx hx hl) hl;walk_at "s";apply xR (SqL.of hl3) fun al nal=>?_
 have S4:=(Same.refl H3).upd nal (o:=.lst ((nI L).map V.int));have hal:=aj (H:=H3) (a:=al) (o:=.lst ((nI L).map V.int));generalize upd H3 al (.lst ((nI L).map V.int))=H4 at S4 hal ⊢;walk_at "s";apply ⟨x,_,dx,_,rfl,S4 _ _ hx3,cl,na _ (by simp),by simp,?_⟩;obtain ⟨H5,e5,hx5,M5⟩:=ph (H:=H4) (x:=x) (C:=aN mg y) (dx:=dx) (fs:=[] ++ [(Str.ofString "held_side",V.str side)] ++ [(Str.ofString "held_top",V.str top)] ++ [(Str.ofString "held_kind",V.str kind)]) (f:="held_lines") (y:=.ref al) (by show (["held_side","held_top","held_kind"]:List Str).contains "held_lines"=false;trivial);rw [e5];have C5:=(Chg.same C3 S4).trans M5;have hp5:=C5 p _ (lx hx hp) hp;have hal5:=M5 al _ (lx (S4 _ _ hx3) hal) hal;walk_at "s";apply xR (SqL.of hp5) fun ap nap=>?_
 have S6:=(Same.refl H5).upd nap (o:=.lst ps);have hap:=aj (H:=H5) (a:=ap) (o:=.lst ps);generalize upd H5 ap (.lst ps)=H6 at S6 hap ⊢;walk_at "s";apply ⟨x,_,dx,_,rfl,S6 _ _ hx5,cl,na _ (by simp),by simp,?_⟩;obtain ⟨H7,e7,hx7,M7⟩:=ph (H:=H6) (x:=x) (C:=aN mg y) (dx:=dx) (fs:=[] ++ [(Str.ofString "held_side",V.str side)] ++ [(Str.ofString "held_top",V.str top)] ++ [(Str.ofString "held_kind",V.str kind)] ++ [(Str.ofString "held_lines",V.ref al)]) (f:="held_parts") (y:=.ref ap) (by show (["held_side","held_top","held_kind","held_lines"]:List Str).contains "held_parts"=false;trivial);rw [e7];have C7:=(Chg.same C5 S6).trans M7;have hp7:=C7 p _ (lx hx hp) hp;have hal7:=M7 al _ (lx (S6 _ _ hx5) (S6 _ _ hal5)) (S6 _ _ hal5);have hap7:=M7 ap _ (lx (S6 _ _ hx5) hap) hap;have hH7:=hH.chg hx C7;walk_at "s";refine .inl ⟨p,rfl,⟨_,SqL.of hp7⟩,?_⟩;have hul:=hH.1;refine iQ (xs:=ps) (fun i zs G=>G=H7/\zs=(nI ((hs.take i).map (· +1))).map V.int) (by omega) ⟨rfl,rfl⟩ ?_ ?_ ?_ ?_
 ·rintro i zs G ⟨_,rfl⟩
  rw [bw];simp;omega
 ·rintro i zs G ⟨rfl,_⟩
  exact SqL.of hp7
 ·rintro i zs G v hv ⟨rfl,rfl⟩
  have hi:i < hs.length:=by rw [← hul];exact (Aab.mp hv).1
  obtain ⟨hh,eh⟩:∃ hh,hs[i]?=some hh:=⟨_,Aaa hi⟩;obtain ⟨r,y',s',t',k',L',qs,rfl,hP⟩:=hH7.2 i v hh hv eh;obtain ⟨hy',ex,al',ap',h1,_,_⟩:=id hP;walk_at "s";apply ⟨KeepSt.set rfl,?_⟩;apply ⟨r,y',ex,_,rfl,hy',h1,rfl,?_⟩;apply ⟨r,y',s',t',k',L',qs,hh,rfl,hP,?_⟩;refine ⟨rfl,?_⟩;rw [Aa4,eh,Aau,show ((hh:Int)+1)=((hh+1:Nat):Int) by omega,CQ];rfl
 ·rintro zs G D H8 ⟨rfl,rfl⟩ nD S8 hD
  rw [hul,Abj] at hD;try walk_at "s"
  have C8:=Chg.same C7 S8;have hx8:=S8 _ _ hx7
  have key:∀ h:Nat,zR hs h->Q .non (upd H8 x (.ins (aN mg y) dx (mL (Str.ofString "held_height") (.int (h:Int)) ([] ++ [(Str.ofString "held_side",V.str side)] ++ [(Str.ofString "held_top",V.str top)] ++ [(Str.ofString "held_kind",V.str kind)] ++ [(Str.ofString "held_lines",V.ref al)] ++ [(Str.ofString "held_parts",V.ref ap)])))):=fun h hh=>by
   obtain ⟨H9,e9,hx9,M9⟩:=ph (H:=H8) (x:=x) (C:=aN mg y) (dx:=dx) (fs:=([] ++ [(Str.ofString "held_side",V.str side)] ++ [(Str.ofString "held_top",V.str top)] ++ [(Str.ofString "held_kind",V.str kind)] ++ [(Str.ofString "held_lines",V.ref al)] ++ [(Str.ofString "held_parts",V.ref ap)])) (f:=Str.ofString "held_height") (y:=.int (h:Int)) (by show (["held_side","held_top","held_kind","held_lines","held_parts"]:List Str).contains "held_height"=false;trivial);rw [e9];have hal9:=M9 al _ (lx hx8 (S8 _ _ hal7)) (S8 _ _ hal7);have hap9:=M9 ap _ (lx hx8 (S8 _ _ hap7)) (S8 _ _ hap7);refine q h H9 hh (C8.trans M9) ⟨hy,dx,al,ap,hx9,hal9,hap9⟩ fun m o hm nm=>⟨hy,dx,al,ap,Bl hx9 (Ne.symm nm),Bl hal9 ?_,Bl hap9 ?_⟩
   ·intro z;rw [z,C3 m o nm hm] at nal;cases nal
   ·intro z;rw [z,C5 m o nm hm] at nap;cases nap
  refine ⟨D,_,rfl,hD,fun e=>?_,fun M hM hmx=>?_⟩
  ·have e0:hs=[]:=by
    cases hs with
    | nil=>rfl
    | cons a b=>cases e
   walk_at "s";exact ⟨x,_,dx,_,rfl,hx8,cl,na _ (by simp),by simp,key 0 (.inl ⟨e0,rfl⟩)⟩
  ·unfold nI at hM hmx
   obtain ⟨a',ha',rfl⟩:=AaO.mp hM;obtain ⟨a,ha,rfl⟩:=AaO.mp ha';walk_at "s";refine ⟨x,_,dx,_,rfl,hx8,cl,na _ (by simp),by simp,key (a+1) (.inr ⟨⟨a,ha,rfl⟩,fun b hb=>?_⟩)⟩;have:=hmx ((b+1:Nat):Int) (AaO.mpr ⟨b+1,AaO.mpr ⟨b,hb,rfl⟩,rfl⟩);omega
theorem xG:(["end","low"]:List Str).Nodup:=by trivial
theorem pcT (T:Txt K mg) {y:Str} (hy:y∈LQ):ITxt K mg y/\Sub K mg y "Piece" true:=by
 unfold LQ at hy;simp only [Aaj,AaN,or_false] at hy;rcases hy with rfl | rfl | rfl | rfl | rfl
 ·exact ⟨T.t_Blank,T.u_Blank_Piece⟩
 ·exact ⟨T.t_One,T.u_One_Piece⟩
 ·exact ⟨T.t_Over,T.u_Over_Piece⟩
 ·exact ⟨T.t_Beside,T.u_Beside_Piece⟩
 ·exact ⟨T.t_Ring,T.u_Ring_Piece⟩
def IsP (mg:Str->Option Value) (H:Hp) (v:V):Prop:=∃ x y s t k L ps h,v= .ref x/\Pc mg H x y s t k L ps h
theorem T7 (T:Txt K mg) {H:Hp} {v:V} {Q:VK} (h:IsP mg H v) (q:Q (.bl true) H):Fb K [v,.ref (aN mg "Piece")] H Q:=by
 obtain ⟨x,y,s,t,k,L,ps,n,rfl,hy,dx,al,ap,hx,_,_⟩:=h;exact Xm ((pcT T hy).1.ty (T.os_Piece y hy) hx) rfl (pcT T hy).2.one q
def Ma (mg:Str->Option Value):Sp:=fun vs H Q _=>∃ u v,vs=[u,v]/\IsP mg H u/\IsP mg H v/\∀ H',Same H H'->Q .non H'
theorem IsP.same {H H':Hp} {v:V} (h:IsP mg H v) (s:Same H H'):IsP mg H' v:=by
 obtain ⟨x,y,a,b,c,L,ps,n,rfl,h⟩:=h;exact ⟨x,y,a,b,c,L,ps,n,rfl,h.same s⟩
theorem rH:aG ["one","other","thing"] ["one","other"] (aB oG):=⟨rfl,rfl,rfl,by trivial,rfl,by trivial,by trivial⟩
theorem ik (T:Txt K mg):Has P w K mg base 3 "need_pieces" ["one","other"] (Ma mg):=by
 refine eO T.d_need_pieces rH (fun _ _ _ _ _ _ us hl=>L2.mJ (fun _ _=>rfl) us hl) ?_ fun f cdv A outer s H vs Q E hr h=>?_
 ·rintro vs H Q E ⟨u,v,rfl,_⟩;rfl
 obtain ⟨u,v,rfl,hu1,hv1,q⟩:=h;apply ⟨_,(aC (eN AaF rfl (dR (K:=K) rfl (oZ (aa (aq 0) (aa (aq 1) ao)))) (bB (i:=2) rH.nd rfl dI rfl) (aC (bQ (dN (dO (aJ (sH (K:=K) rfl) aU T.b_isinstance bf (aa (aq 2) (aa (Vd aU T.o_Piece.at_ (by trivial)) ao)) (by trivial) (by trivial)))) (aC iM) bj)))),?_⟩;apply b8 rfl fun t H1 nt S1 ht=>?_
 refine .inr (.inl ⟨t,rfl,⟨_,SqT.of ht⟩,?_⟩);refine Bv (xs:=[u,v]) (fun i U G=>Same H1 G/\∃ x2,U=[some u,some v,x2]) ⟨Same.refl H1,_,rfl⟩ (fun i U G _ h=>SqT.of (h.1 _ _ ht)) ?_ ?_
 ·rintro i w U G hw ⟨s,x2,rfl⟩
  have hP:IsP mg G w:=by
   have:=Aai hw;simp only [Aaj,AaN,or_false] at this;rcases this with rfl | rfl
   ·exact hu1.same (S1.trans s)
   ·exact hv1.same (S1.trans s)
  walk_at "s";apply T7 T hP ?_;exact ⟨s,_,rfl⟩
 ·rintro U G ⟨s,x2,rfl⟩
  exact q G (S1.trans s)
def HD:Sp:=fun vs H Q _=>∃ z:Str,vs=[.str z,.str z]/\Q .non H
theorem Df:aG ["one","other"] ["one","other"] (aB qZ):=⟨rfl,rfl,rfl,by trivial,rfl,by trivial,by trivial⟩
theorem jy (T:Txt K mg):Has P w K mg base 3 "need_same" ["one","other"] HD:=by
 refine eO T.d_need_same Df (fun _ _ _ _ _ _ us hl=>L2.mJ (fun _ _=>rfl) us hl) ?_ fun f cdv A outer s H vs Q E hr h=>?_
 ·rintro vs H Q E ⟨z,rfl,_⟩;rfl
 obtain ⟨z,rfl,q⟩:=h;have hu64:=hr.units;apply ⟨_,(aC (bQ (bh (qL (K:=K) rfl hu64) (aq 0) (aq 1) (by walk_at "p")) (aC iM) bj)),?_⟩;rw [Aar (rfl:V.str z=V.str z)];walk_at "s";exact q
def FN:Sp:=fun vs H Q _=>∃ z:Str,vs=[.str z]/\z.length<=48/\Q .non H
theorem zU:aG ["row"] ["row"] (aB pY):=⟨rfl,rfl,rfl,by trivial,rfl,by trivial,by trivial⟩
theorem iW (T:Txt K mg):Has P w K mg base 3 "need_short" ["row"] FN:=by
 refine eO T.d_need_short zU (fun _ _ _ _ _ _ us hl=>L2.jE (fun _=>rfl) us hl) ?_ fun f cdv A outer s H vs Q E hr h=>?_
 ·rintro vs H Q E ⟨z,rfl,_⟩;rfl
 obtain ⟨z,rfl,hz,q⟩:=h;have hu:=hr.units0;have hu64:=hr.units;apply ⟨_,(aC (bQ (bh uM (aJ (aH (K:=K) rfl) aU T.b_len aR (aa (aq 0) ao) (by trivial) (by trivial)) (yG aU T.c_MOST_SIGNS (by trivial)) (by walk_at "p")) (aC iM) bj)),?_⟩;apply bM (Aay hz (by decide)) ?_;rw [Aao (show ¬ (48:Int) < (z.length:Int) by omega)];walk_at "s";exact q
theorem Dg (a b:List Nat):(nI a).map V.int ++ (nI b).map V.int=(nI (a ++ b)).map V.int:=by unfold nI;rw [Aau,Aau]
theorem jz {m far:Nat} {e:Nat->Nat->Bool}:((nI (LN m far e)).map V.int).length=m+far:=by rw [bw,jf]
theorem Jw {k:Nat} {G:List Nat} (hG:Prm G) (hk:k+G.length<=96):Prm (List.range k ++ G.map (k+ ·)):=by
 have hl:(List.range k ++ G.map (k+ ·)).length=k+G.length:=by simp
 refine ⟨by omega,?_⟩;rw [hl,AbF];exact List.Perm.append_left _ (hG.pm.map _)
theorem FP {r n:Nat} {G:List Nat} (hG:Prm G) (hn:G.length=n) (hk:n+r<=96):Prm (G ++ (List.range r).map (n+ ·)):=by
 subst hn;have hl:(G ++ (List.range r).map (G.length+ ·)).length=G.length+r:=by simp
 refine ⟨by omega,?_⟩;rw [hl,AbF];exact hG.pm.append_right _
theorem FQ (lo:Int) (k n:Nat) (e:lo=(k:Int)):((List.range n).map fun i:Nat=>V.int (lo+(i:Int)*1))=(nI ((List.range n).map (k+ ·))).map V.int:=by
 subst e;unfold nI;rw [AbX,AbX];refine AbO fun x _=>?_
 show V.int ((k:Int)+(x:Int)*1)=V.int ((k+x:Nat):Int)
 congr 1;omega
def T8 (K:W.Frag):Sp:=fun vs H Q _=>∃ (u l:Addr) (mu ml far:Nat) (e:Nat->Nat->Bool),vs=[.ref u,.ref l,.int far]/\mu+ml+far<=96/\H u=some (.lst ((nI (LN mu far e)).map V.int))/\H l=some (.lst ((nI (LN ml far fun i j=>e (mu+i) j)).map V.int))/\
 ∀ q H',H q=none->Same H H'->H' q=some (.lst ((nI (LN (mu+ml) far e)).map V.int))->Q (.ref q) H'
theorem jj:aG ["upper","lower","far","high","low","one","other"] ["upper","lower","far"] (aB mz):=⟨rfl,rfl,rfl,by trivial,rfl,by trivial,by trivial⟩
theorem qi (T:Txt K mg):Has P w K mg base 8 "lines_over" ["upper","lower","far"] (T8 K):=by
 have gY:=gY (P:=P) (w:=w) (base:=base) T;have wG:=wG (P:=P) (w:=w) (base:=base) T;refine eO T.d_lines_over jj (fun _ _ _ _ _ _ us hl=>L2.pI (fun _ _ _=>rfl) us hl) ?_ fun f cdv A outer s H vs Q E hr h=>?_
 ·rintro vs H Q E ⟨u,l,mu,ml,far,e,rfl,_⟩;rfl
 obtain ⟨u,l,mu,ml,far,e,rfl,hn,hu1,hl,q⟩:=h;have hu:=hr.units0;have hu64:=hr.units;apply ⟨_,(aA (aM (i:=3) jj.nd rfl dI (aY iu (aJ (aH (K:=K) rfl) aU T.b_len aR (aa (aq 0) ao) (by trivial) (by trivial)) (aq 2)) rfl) (aA (aM (i:=4) jj.nd rfl YD (aY iu (aJ (aH (K:=K) rfl) aU T.b_len aR (aa (aq 1) ao) (by trivial) (by trivial)) (aq 2)) rfl) (aA (aM (i:=5) jj.nd rfl dI (aY aQ (aK gY (hr.mono (by decide)) aU (aa (iC 4) ao) (by trivial)) (jJ (sub:=[none,some 4]) (d8 (N:=["upper","lower","far","high","low","one","other"]) (sc:=aB mz) (N':=["end","low"]) (by trivial)) rfl rfl rfl (dR (K:=K) rfl (aq 0)) (fun C s₀ H₀ ex=>(qI 0 (by trivial) xG)) (fun C s₀ H₀ ex=>gW) (fun C s₀ H₀ ex=>(aY aQ (mj 1 (by trivial)) (kh 0 (by trivial)))))) rfl) (aA (aM (i:=6) jj.nd rfl dI (aY aQ (aq 1) (yU rfl aU T.b_list aU T.b_range (aa (aY aQ (iC 4) (aq 2)) (aa (aY aQ (aY aQ (iC 4) (aq 2)) (aq 3)) ao)))) rfl) (aC (aL (aK wG (hr.mono (by decide)) aU (aa (aq 5) (aa (aq 6) ao)) (by trivial)))))))),?_⟩;have hz:20000<=sizeLine:=by decide
 apply d9 (SqL.of hu1) ?_;rw [jz];walk_at "s";apply d9 (SqL.of hl) ?_;rw [jz,show ((mu+far:Nat):Int) - (far:Int)=(mu:Int) by omega,show ((ml+far:Nat):Int) - (far:Int)=(ml:Int) by omega];walk_at "s";apply ⟨ml,rfl,by omega,fun a H1 na S1 ha=>?_⟩;refine .inl ⟨u,rfl,⟨_,SqL.of (S1 _ _ hu1)⟩,?_⟩;refine iQ (xs:=(nI (LN mu far e)).map V.int) (fun i zs G=>G=H1/\zs=(nI (((LN mu far e).take i).map (ml+ ·))).map V.int) (by rw [jz];omega) ⟨rfl,rfl⟩ ?_ ?_ ?_ ?_
 ·rintro i zs G ⟨_,rfl⟩
  rw [bw];simp;omega
 ·rintro i zs G ⟨rfl,_⟩
  exact SqL.of (S1 _ _ hu1)
 ·rintro i zs G v hv ⟨rfl,rfl⟩
  obtain ⟨a',ea,rfl⟩:=Bh hv;walk_at "s";apply ⟨KeepSt.set rfl,?_⟩;refine ⟨rfl,?_⟩;rw [Aa4,ea,Aau,show ((ml:Int)+(a':Int))=((ml+a':Nat):Int) by omega];unfold nI;rw [Aau,Aau];rfl
 rintro zs G D H2 ⟨rfl,rfl⟩ nD S2 hD;rw [jz,← jf mu far e,Abj] at hD;try walk_at "s"
 apply BZ (S2 _ _ ha) hD (by rw [bw,bw];simp [jf];omega) fun o1 no1=>?_
 rw [Dg];have S3:=(Same.refl H2).upd no1 (o:=.lst ((nI (List.range ml ++ (LN mu far e).map (ml+ ·))).map V.int));have ho1:=aj (H:=H2) (a:=o1) (o:=.lst ((nI (List.range ml ++ (LN mu far e).map (ml+ ·))).map V.int));generalize upd H2 o1 (.lst ((nI (List.range ml ++ (LN mu far e).map (ml+ ·))).map V.int))=H3 at S3 ho1 ⊢;have U3:=S1.trans (S2.trans S3);walk_at "s";apply Ji (n:=mu) (by omega) (by omega) (by omega) (by omega) fun r nr=>?_
 rw [FQ _ (ml+far) mu (by omega)] at ⊢;have S4:=(Same.refl H3).upd nr (o:=.lst ((nI ((List.range mu).map (ml+far+ ·))).map V.int));have hr4:=aj (H:=H3) (a:=r) (o:=.lst ((nI ((List.range mu).map (ml+far+ ·))).map V.int));generalize upd H3 r (.lst ((nI ((List.range mu).map (ml+far+ ·))).map V.int))=H4 at S4 hr4 ⊢;walk_at "s";apply BZ (S4 _ _ (U3 _ _ hl)) hr4 (by rw [bw,bw];simp [jf];omega) fun o2 no2=>?_
 rw [Dg];have S5:=(Same.refl H4).upd no2 (o:=.lst ((nI (LN ml far (fun i j=>e (mu+i) j) ++ (List.range mu).map (ml+far+ ·))).map V.int));have ho2:=aj (H:=H4) (a:=o2) (o:=.lst ((nI (LN ml far (fun i j=>e (mu+i) j) ++ (List.range mu).map (ml+far+ ·))).map V.int));generalize upd H4 o2 (.lst ((nI (LN ml far (fun i j=>e (mu+i) j) ++ (List.range mu).map (ml+far+ ·))).map V.int))=H5 at S5 ho2 ⊢;have U5:=U3.trans (S4.trans S5);walk_at "s";refine ⟨o1,o2,_,_,mu+ml+far,rfl,(S4.trans S5) _ _ ho1,ho2,⟨Jw (wy (by omega)) (by rw [jf];omega),FP (wy (by omega)) (jf _ _ _) (by omega),by simp [jf];omega,by simp [jf];omega⟩,fun r' H6 nr' S6 hr'=>?_⟩;rw [Qm hn] at hr';exact q r' H6 (Same.back U5 nr') (U5.trans S6) hr'
theorem vz:(["end","near"]:List Str).Nodup:=by trivial
def Mf (K:W.Frag):Sp:=fun vs H Q _=>∃ (l r:Addr) (m fl fr:Nat) (e:Nat->Nat->Bool),vs=[.ref l,.ref r,.int m]/\m+(fl+fr)<=96/\H l=some (.lst ((nI (LN m fl e)).map V.int))/\H r=some (.lst ((nI (LN m fr fun i j=>e i (fl+j))).map V.int))/\
 ∀ q H',H q=none->Same H H'->H' q=some (.lst ((nI (LN m (fl+fr) e)).map V.int))->Q (.ref q) H'
theorem ig:aG ["left","right","many","near","far","one","other"] ["left","right","many"] (aB jM):=⟨rfl,rfl,rfl,by trivial,rfl,by trivial,by trivial⟩
theorem gP (T:Txt K mg):Has P w K mg base 8 "lines_beside" ["left","right","many"] (Mf K):=by
 have gY:=gY (P:=P) (w:=w) (base:=base) T;have wG:=wG (P:=P) (w:=w) (base:=base) T;refine eO T.d_lines_beside ig (fun _ _ _ _ _ _ us hl=>L2.pI (fun _ _ _=>rfl) us hl) ?_ fun f cdv A outer s H vs Q E hr h=>?_
 ·rintro vs H Q E ⟨l,r,m,fl,fr,e,rfl,_⟩;rfl
 obtain ⟨l,r,m,fl,fr,e,rfl,hn,hl,hr1,q⟩:=h;have hu:=hr.units0;have hu64:=hr.units;apply ⟨_,(aA (aM (i:=3) ig.nd rfl YD (aY iu (aJ (aH (K:=K) rfl) aU T.b_len aR (aa (aq 0) ao) (by trivial) (by trivial)) (aq 2)) rfl) (aA (aM (i:=4) ig.nd rfl dI (aY iu (aJ (aH (K:=K) rfl) aU T.b_len aR (aa (aq 1) ao) (by trivial) (by trivial)) (aq 2)) rfl) (aA (aM (i:=5) ig.nd rfl dI (aY aQ (aq 0) (yU rfl aU T.b_list aU T.b_range (aa (aY aQ (aq 2) (iC 3)) (aa (aY aQ (aY aQ (aq 2) (iC 3)) (aq 4)) ao)))) rfl) (aA (aM (i:=6) ig.nd rfl dI (aY aQ (aK gY (hr.mono (by decide)) aU (aa (iC 3) ao) (by trivial)) (jJ (sub:=[none,some 3]) (d8 (N:=["left","right","many","near","far","one","other"]) (sc:=aB jM) (N':=["end","near"]) (by trivial)) rfl rfl rfl (dR (K:=K) rfl (aq 1)) (fun C s₀ H₀ ex=>(qI 0 (by trivial) vz)) (fun C s₀ H₀ ex=>gW) (fun C s₀ H₀ ex=>(aY aQ (mj 1 (by trivial)) (kh 0 (by trivial)))))) rfl) (aC (aL (aK wG (hr.mono (by decide)) aU (aa (aq 5) (aa (aq 6) ao)) (by trivial)))))))),?_⟩;have hz:20000<=sizeLine:=by decide
 apply d9 (SqL.of hl) ?_;rw [jz];walk_at "s";apply d9 (SqL.of hr1) ?_;rw [jz,show ((m+fl:Nat):Int) - (m:Int)=(fl:Int) by omega,show ((m+fr:Nat):Int) - (m:Int)=(fr:Int) by omega];walk_at "s";apply Ji (n:=fr) (by omega) (by omega) (by omega) (by omega) fun p np=>?_
 rw [FQ _ (m+fl) fr (by omega)];have S1:=(Same.refl H).upd np (o:=.lst ((nI ((List.range fr).map (m+fl+ ·))).map V.int));have hp1:=aj (H:=H) (a:=p) (o:=.lst ((nI ((List.range fr).map (m+fl+ ·))).map V.int));generalize upd H p (.lst ((nI ((List.range fr).map (m+fl+ ·))).map V.int))=H1 at S1 hp1 ⊢;walk_at "s";apply BZ (S1 _ _ hl) hp1 (by rw [bw,bw];simp [jf];omega) fun o1 no1=>?_
 rw [Dg];have S2:=(Same.refl H1).upd no1 (o:=.lst ((nI (LN m fl e ++ (List.range fr).map (m+fl+ ·))).map V.int));have ho1:=aj (H:=H1) (a:=o1) (o:=.lst ((nI (LN m fl e ++ (List.range fr).map (m+fl+ ·))).map V.int));generalize upd H1 o1 (.lst ((nI (LN m fl e ++ (List.range fr).map (m+fl+ ·))).map V.int))=H2 at S2 ho1 ⊢;walk_at "s";apply ⟨fl,rfl,by omega,fun a H3 na S3 ha=>?_⟩;have U3:=S1.trans (S2.trans S3);refine .inl ⟨r,rfl,⟨_,SqL.of (U3 _ _ hr1)⟩,?_⟩;refine iQ (xs:=(nI (LN m fr fun i j=>e i (fl+j))).map V.int) (fun i zs G=>G=H3/\zs=(nI (((LN m fr fun i j=>e i (fl+j)).take i).map (fl+ ·))).map V.int) (by rw [jz];omega) ⟨rfl,rfl⟩ ?_ ?_ ?_ ?_
 ·rintro i zs G ⟨_,rfl⟩
  rw [bw];simp;omega
 ·rintro i zs G ⟨rfl,_⟩
  exact SqL.of (U3 _ _ hr1)
 ·rintro i zs G v hv ⟨rfl,rfl⟩
  obtain ⟨a',ea,rfl⟩:=Bh hv;walk_at "s";apply ⟨KeepSt.set rfl,?_⟩;refine ⟨rfl,?_⟩;rw [Aa4,ea,Aau,show ((fl:Int)+(a':Int))=((fl+a':Nat):Int) by omega];unfold nI;rw [Aau,Aau];rfl
 rintro zs G D H4 ⟨rfl,rfl⟩ nD S4 hD;rw [jz,← jf m fr (fun i j=>e i (fl+j)),Abj] at hD;try walk_at "s"
 apply BZ (S4 _ _ ha) hD (by rw [bw,bw];simp [jf];omega) fun o2 no2=>?_
 rw [Dg];have S5:=(Same.refl H4).upd no2 (o:=.lst ((nI (List.range fl ++ (LN m fr fun i j=>e i (fl+j)).map (fl+ ·))).map V.int));have ho2:=aj (H:=H4) (a:=o2) (o:=.lst ((nI (List.range fl ++ (LN m fr fun i j=>e i (fl+j)).map (fl+ ·))).map V.int));generalize upd H4 o2 (.lst ((nI (List.range fl ++ (LN m fr fun i j=>e i (fl+j)).map (fl+ ·))).map V.int))=H5 at S5 ho2 ⊢;have U5:=U3.trans (S4.trans S5);walk_at "s";refine ⟨o1,o2,_,_,m+(fl+fr),rfl,(S3.trans (S4.trans S5)) _ _ ho1,ho2,⟨FP (wy (by omega)) (jf _ _ _) (by omega),Jw (wy (by omega)) (by rw [jf];omega),by simp [jf];omega,by simp [jf];omega⟩,fun r' H6 nr' S6 hr'=>?_⟩;rw [Hs hn] at hr';exact q r' H6 (Same.back U5 nr') (U5.trans S6) hr'
def zG (side top:Str) (i j:Nat):Bool:=decide (side.cps.getD i 0=top.cps.getD j 0)
theorem Qx {m far:Nat} {e e':Nat->Nat->Bool} (h:∀ i j,i < m->j < far->e i j=e' i j):al m far e m=al m far e' m:=by
 unfold al rs;refine iR fun i hi=>iR fun j hj=>?_
 rw [h i j (AaA.mp hi) (AaA.mp hj)]
theorem pA {m far:Nat} {e e':Nat->Nat->Bool} (h:∀ i j,i < m->j < far->e i j=e' i j):LN m far e=LN m far e':=by unfold LN;rw [Qx h]
theorem Qy {m far:Nat} {e:Nat->Nat->Bool} (h:m=0\/far=0) (hn:m+far<=96):LN m far e=List.range (m+far):=by
 have:al m far e m=[]:=by
  unfold al rs;rcases h with rfl | rfl
  ·rfl
  ·simp
 unfold LN;rw [this];exact Lw _ hn
theorem Qz (e:Nat->Nat->Bool):LN 1 1 e=if e 0 0=true then [0,1] else [1,0]:=by
 have:al 1 1 e 1=if e 0 0=true then [] else [0]:=by
  unfold al rs;simp
 unfold LN;rw [this];cases e 0 0 <;> trivial
structure PG (mg:Str->Option Value) (H:Hp) (x:Addr) (y side top kind:Str) (ps:List V) (h:Nat):Prop where
 pc:Pc mg H x y side top kind (LN side.cps.size top.cps.size (zG side top)) ps h
 rs:Row side
 rt:Row top
theorem PG.same {H H':Hp} {x:Addr} {y side top kind:Str} {ps:List V} {h:Nat} (p:PG mg H x y side top kind ps h) (s:Same H H'):PG mg H' x y side top kind ps h:=⟨p.pc.same s,p.rs,p.rt⟩
theorem xX {H:Hp}:PsH mg H [] []:=⟨rfl,fun i v h e=>by cases e⟩
theorem QB {h:Nat} (k:zR [] h):h=0:=by
 rcases k with ⟨_,e⟩ | ⟨⟨a,ha,_⟩,_⟩
 ·exact e
 ·cases ha
def Jx (mg:Str->Option Value):Sp:=fun vs H Q _=>∃ (x dx:Addr) (side top:Str),vs=[.ref x,.str side,.str top]/\H x=some (.ins (aN mg "Blank") dx [])/\Row side/\Row top/\(side.cps.size=0\/top.cps.size=0)/\
 ∀ H',Chg x H H'->PG mg H' x "Blank" side top (Str.ofString "blank") [] 0->(∀ m o,H m=some o->m≠x->PG mg (Hx m H') x "Blank" side top (Str.ofString "blank") [] 0)->Q .non H'
theorem vA:aG ["self","side","top"] ["self","side","top"] (aB kW):=⟨rfl,rfl,rfl,by trivial,rfl,by trivial,by trivial⟩
theorem kY (T:Txt K mg):lD P w K mg base 5 "Blank" "__init__" ["self","side","top"] (Jx mg):=by
 have cG:=cG (P:=P) (w:=w) (base:=base) T;have aV:=aV (P:=P) (w:=w) (base:=base) T;have gY:=gY (P:=P) (w:=w) (base:=base) T;refine pM T.m_Blank___init__ vA (fun _ _ _ _ _ _ us hl=>L2.pI (fun _ _ _=>rfl) us hl) ?_ fun f cdv A outer s H vs Q E hr h=>?_
 ·rintro vs H Q E ⟨x,dx,side,top,rfl,_⟩;rfl
 obtain ⟨x,dx,side,top,rfl,hx,rs,rt,he,q⟩:=h;have hu:=hr.units0;have hu64:=hr.units;apply ⟨_,(aA (aO (aK cG (hr.mono (by decide)) aU (aa (aq 1) (aa (aq 2) ao)) (by trivial))) (aA (bQ (mU (Ca (bh uM (aJ (aH (K:=K) rfl) aU T.b_len aR (aa (aq 1) ao) (by trivial) (by trivial)) aF (by walk_at "p")) (xT (bh uM (aJ (aH (K:=K) rfl) aU T.b_len aR (aa (aq 2) ao) (by trivial) (by trivial)) aF (by walk_at "p"))))) (aC iM) bj) (aC (aO (yS aV (hr.mono (by decide)) aU aP (aa (aq 0) (aa (aq 1) (aa (aq 2) (aa qt (aa (aK gY (hr.mono (by decide)) aU (aa (aY aQ (aJ (aH (K:=K) rfl) aU T.b_len aR (aa (aq 1) ao) (by trivial) (by trivial)) (aJ (aH (K:=K) rfl) aU T.b_len aR (aa (aq 2) ao) (by trivial) (by trivial))) ao) (by trivial)) (aa (gJ ao) ao)))))) (by trivial)))))),?_⟩;have lz:side.length<=sizeLine:=Aay rs.1 (by decide);have ly:top.length<=sizeLine:=Aay rt.1 (by decide);have es:side.length=side.cps.size:=rfl;have et:top.length=top.cps.size:=rfl;have h1:=rs.1;have h2:=rt.1;apply ⟨side,top,rfl,rs,rt,fun H1 S1=>?_⟩;apply bM lz ?_
 have fin:∀ (l p:Addr) (H2:Hp) (Q':VK),(∀ G,Q .non G->Q' .non G)->Same H1 H2->H2 l=some (.lst ((nI (List.range (side.cps.size+top.cps.size))).map V.int))->H2 p=some (.lst [])->De mg [.ref x,.str side,.str top,.str (Str.ofString "blank"),.ref l,.ref p] H2 Q' E:=fun l p H2 Q' hQ S2 hl hp=>by
  have U:=S1.trans S2;refine ⟨x,dx,l,p,"Blank",side,top,_,_,[],[],rfl,by unfold LQ;simp,U _ _ hx,hl,hp,by simp,xX,fun h H3 hh C3 P3 N3=>?_⟩;obtain rfl:=QB hh;rw [← Qy (e:=zG side top) he (by omega)] at P3 N3;exact hQ _ (q H3 (fun b o n e=>C3 b o n (U _ _ e)) ⟨P3,rs,rt⟩ fun m o hm nm=>⟨N3 m o (U _ _ hm) nm,rs,rt⟩)
 by_cases h0:side.cps.size=0
 ·rw [Aao (show ¬ (0:Int) < (side.length:Int) by omega)]
  walk_at "s";apply bM lz ?_;apply bM ly ?_;apply ⟨side.cps.size+top.cps.size,by rw [es,et];congr 2,by omega,fun l H2 nl S2 hl=>?_⟩;apply b8 rfl fun p H3 np S3 hp=>?_
  exact fin l p H3 _ (fun G z=>z) (S2.trans S3) (S3 _ _ hl) hp
 ·rw [Aar (show (0:Int) < (side.length:Int) by omega)]
  walk_at "s";apply bM ly ?_;rw [Aao (show ¬ (0:Int) < (top.length:Int) by omega)];walk_at "s";apply bM lz ?_;apply bM ly ?_;apply ⟨side.cps.size+top.cps.size,by rw [es,et];congr 2,by omega,fun l H2 nl S2 hl=>?_⟩;apply b8 rfl fun p H3 np S3 hp=>?_
  exact fin l p H3 _ (fun G z=>z) (S2.trans S3) (S3 _ _ hl) hp
def Vp (mg:Str->Option Value):Sp:=fun vs H Q _=>∃ (x dx:Addr) (c d:Nat),vs=[.ref x,.str ⟨#[c]⟩,.str ⟨#[d]⟩]/\H x=some (.ins (aN mg "One") dx [])/\c∈GOOD/\d∈GOOD/\
 ∀ H',Chg x H H'->PG mg H' x "One" ⟨#[c]⟩ ⟨#[d]⟩ (Str.ofString "one") [] 0->(∀ m o,H m=some o->m≠x->PG mg (Hx m H') x "One" ⟨#[c]⟩ ⟨#[d]⟩ (Str.ofString "one") [] 0)->Q .non H'
theorem xY {c:Nat} (h:c∈GOOD):Row ⟨#[c]⟩:=⟨by rw [Oi];decide,fun d hd=>by simp at hd;rw [hd];exact h⟩
theorem XS (a b:Nat):decide (V.str ⟨#[a]⟩=V.str ⟨#[b]⟩)=decide (a=b):=by
 refine decide_eq_decide.mpr ⟨fun h=>?_,fun h=>by rw [h]⟩;have:=Str.mk.inj (V.str.inj h);simpa using this
theorem xH:aG ["self","letter","sign"] ["self","letter","sign"] (aB m8):=⟨rfl,rfl,rfl,by trivial,rfl,by trivial,by trivial⟩
theorem nq (T:Txt K mg):lD P w K mg base 4 "One" "__init__" ["self","letter","sign"] (Vp mg):=by
 have ou:=ou (P:=P) (w:=w) (base:=base) T;have aV:=aV (P:=P) (w:=w) (base:=base) T;refine pM T.m_One___init__ xH (fun _ _ _ _ _ _ us hl=>L2.pI (fun _ _ _=>rfl) us hl) ?_ fun f cdv A outer s H vs Q E hr h=>?_
 ·rintro vs H Q E ⟨x,dx,c,d,rfl,_⟩;rfl
 obtain ⟨x,dx,c,d,rfl,hx,hc,hd,q⟩:=h;have hu64:=hr.units;apply ⟨_,(aA (aO (aK ou (hr.mono (by decide)) aU (aa (aq 1) ao) (by trivial))) (aA (aO (aK ou (hr.mono (by decide)) aU (aa (aq 2) ao) (by trivial))) (aC (aO (yS aV (hr.mono (by decide)) aU aP (aa (aq 0) (aa (aq 1) (aa (aq 2) (aa qt (aa (ZC (bh (fH (K:=K) rfl hu64) (aq 1) (aq 2) (by walk_at "p")) (gJ (aa aF (aa aF ao))) (gJ (aa aF (aa aF ao)))) (aa (gJ ao) ao)))))) (by trivial)))))),?_⟩;apply ⟨c,rfl,hc,?_⟩;apply ⟨d,rfl,hd,?_⟩
 have fin:∀ (l p:Addr) (H2:Hp) (Q':VK),(∀ G,Q .non G->Q' .non G)->Same H H2->H2 l=some (.lst ((nI (LN 1 1 (zG ⟨#[c]⟩ ⟨#[d]⟩))).map V.int))->H2 p=some (.lst [])->De mg [.ref x,.str ⟨#[c]⟩,.str ⟨#[d]⟩,.str (Str.ofString "one"),.ref l,.ref p] H2 Q' E:=fun l p H2 Q' hQ U hl hp=>by
  refine ⟨x,dx,l,p,"One",_,_,_,_,[],[],rfl,by unfold LQ;simp,U _ _ hx,hl,hp,by simp,xX,fun h H3 hh C3 P3 N3=>?_⟩;obtain rfl:=QB hh;exact hQ _ (q H3 (fun b o n e=>C3 b o n (U _ _ e)) ⟨P3,xY hc,xY hd⟩ fun m o hm nm=>⟨N3 m o (U _ _ hm) nm,xY hc,xY hd⟩)
 rw [XS];have eE:zG ⟨#[c]⟩ ⟨#[d]⟩ 0 0=decide (c=d):=rfl;by_cases h:c=d
 ·rw [Aar h]
  walk_at "s";apply b8 rfl fun l H2 nl S2 hl=>?_
  apply b8 rfl fun p H3 np S3 hp=>?_
  refine fin l p H3 _ (fun G z=>z) (S2.trans S3) ?_ hp;rw [Qz,eE,Aar h,if_pos rfl];exact S3 _ _ hl
 ·rw [Aao h]
  walk_at "s";apply b8 rfl fun l H2 nl S2 hl=>?_
  apply b8 rfl fun p H3 np S3 hp=>?_
  refine fin l p H3 _ (fun G z=>z) (S2.trans S3) ?_ hp;rw [Qz,eE,Aao h,if_neg (by decide)];exact S3 _ _ hl
theorem jR (a b:Str):(a ++ b).cps.toList=a.cps.toList ++ b.cps.toList:=by
 show (a.cps ++ b.cps).toList=_;simp
theorem jk (a b:Str):(a ++ b).cps.size=a.cps.size+b.cps.size:=by
 rw [← AaG,jR,AaR,AaG,AaG]
theorem getD_list (z:Str) (i:Nat):z.cps.getD i 0=z.cps.toList.getD i 0:=by
 rw [Aac,Array.getElem?_toList,Abz]
theorem HF {a b:Str} {i:Nat} (h:i < a.cps.size):(a ++ b).cps.getD i 0=a.cps.getD i 0:=by
 rw [getD_list,getD_list,jR,Aac,Aaw (by simpa using h),Aac]
theorem HH {a b:Str} {i:Nat}:(a ++ b).cps.getD (a.cps.size+i) 0=b.cps.getD i 0:=by
 rw [getD_list,getD_list,jR,Aac,Aas (by simp),AaG,Abw,Aac]
theorem xZ {a b:Str} (ha:Row a) (hb:Row b) (h:(a ++ b).length<=48):Row (a ++ b):=⟨h,fun c hc=>by
 rw [jR] at hc;exact (Aaz.mp hc).elim (ha.2 c) (hb.2 c)⟩
theorem PG.isP {H:Hp} {x:Addr} {y side top kind:Str} {ps:List V} {h:Nat} (p:PG mg H x y side top kind ps h):IsP mg H (.ref x):=⟨x,y,side,top,kind,_,ps,h,rfl,p.pc⟩
theorem yc {H:Hp} {u l:Addr} {y s t k y' s' t' k':Str} {ps ps':List V} {h h':Nat} (p:PG mg H u y s t k ps h) (p':PG mg H l y' s' t' k' ps' h'):PsH mg H [.ref u,.ref l] [h,h']:=⟨rfl,fun i v n e1 e2=>by
 match i,e1,e2 with
 | 0,e1,e2=>cases e1;cases e2;exact ⟨u,y,s,t,k,_,ps,rfl,p.pc⟩
 | 1,e1,e2=>cases e1;cases e2;exact ⟨l,y',s',t',k',_,ps',rfl,p'.pc⟩
 | i+2,e1,e2=>cases e1⟩
def Jy (mg:Str->Option Value):Sp:=fun vs H Q _=>∃ (x dx u l:Addr) (yu yl su sl top ku kl:Str) (pu pl:List V) (hu hl:Nat),vs=[.ref x,.ref u,.ref l]/\H x=some (.ins (aN mg "Over") dx [])/\PG mg H u yu su top ku pu hu/\PG mg H l yl sl top kl pl hl/\(su ++ sl).length<=48/\
 ∀ h H',zR [hu,hl] h->Chg x H H'->PG mg H' x "Over" (su ++ sl) top (Str.ofString "over") [.ref u,.ref l] h->(∀ m o,H m=some o->m≠x->PG mg (Hx m H') x "Over" (su ++ sl) top (Str.ofString "over") [.ref u,.ref l] h)->Q .non H'
theorem kZ:aG ["self","upper","lower","side","lines"] ["self","upper","lower"] (aB lQ):=⟨rfl,rfl,rfl,by trivial,rfl,by trivial,by trivial⟩
theorem lU (T:Txt K mg):lD P w K mg base 9 "Over" "__init__" ["self","upper","lower"] (Jy mg):=by
 have ik:=ik (P:=P) (w:=w) (base:=base) T;have jy:=jy (P:=P) (w:=w) (base:=base) T;have dY:=dY (P:=P) (w:=w) (base:=base) T;have bR:=bR (P:=P) (w:=w) (base:=base) T;have iW:=iW (P:=P) (w:=w) (base:=base) T;have qi:=qi (P:=P) (w:=w) (base:=base) T;have bO:=bO (P:=P) (w:=w) (base:=base) T;have aV:=aV (P:=P) (w:=w) (base:=base) T;refine pM T.m_Over___init__ kZ (fun _ _ _ _ _ _ us hl=>L2.pI (fun _ _ _=>rfl) us hl) ?_ fun f cdv A outer s H vs Q E hr h=>?_
 ·rintro vs H Q E ⟨x,dx,u,l,yu,yl,su,sl,top,ku,kl,pu,pl,nu,nl,rfl,_⟩;rfl
 obtain ⟨x,dx,u,l,yu,yl,su,sl,top,ku,kl,pu,pl,nu,nl,rfl,hx,gu,gl,hlen,q⟩:=h;have hu:=hr.units0;have hu64:=hr.units;apply ⟨_,(aA (aO (aK ik (hr.mono (by decide)) aU (aa (aq 1) (aa (aq 2) ao)) (by trivial))) (aA (aO (aK jy (hr.mono (by decide)) aU (aa (bZ (mg:=mg) rfl (aq 1) T.os_Piece dY (hr.mono (by decide)) aP) (aa (bZ (mg:=mg) rfl (aq 2) T.os_Piece dY (hr.mono (by decide)) aP) ao)) (by trivial))) (aA (aM (i:=3) kZ.nd rfl dI (aY aQ (bZ (mg:=mg) rfl (aq 1) T.os_Piece bR (hr.mono (by decide)) aP) (bZ (mg:=mg) rfl (aq 2) T.os_Piece bR (hr.mono (by decide)) aP)) rfl) (aA (aO (aK iW (hr.mono (by decide)) aU (aa (aq 3) ao) (by trivial))) (aA (aM (i:=4) kZ.nd rfl dI (aK qi (hr.mono (by decide)) aU (aa (bZ (mg:=mg) rfl (aq 1) T.os_Piece bO (hr.mono (by decide)) aP) (aa (bZ (mg:=mg) rfl (aq 2) T.os_Piece bO (hr.mono (by decide)) aP) (aa (aJ (aH (K:=K) rfl) aU T.b_len aR (aa (bZ (mg:=mg) rfl (aq 1) T.os_Piece dY (hr.mono (by decide)) aP) ao) (by trivial) (by trivial)) ao))) (by trivial)) rfl) (aC (aO (yS aV (hr.mono (by decide)) aU aP (aa (aq 0) (aa (aq 3) (aa (bZ (mg:=mg) rfl (aq 1) T.os_Piece dY (hr.mono (by decide)) aP) (aa qt (aa (aq 4) (aa (gJ (aa (aq 1) (aa (aq 2) ao))) ao)))))) (by trivial))))))))),?_⟩;have hz:20000<=sizeLine:=by decide
 have h2:top.length<=48:=gu.rt.1;have ly:top.length<=sizeLine:=by omega
 have et:top.length=top.cps.size:=rfl;have es:(su ++ sl).length=(su ++ sl).cps.size:=rfl;have ec:=jk su sl;have el:(su ++ sl).length=su.length+sl.length:=jk su sl;apply ⟨_,_,rfl,gu.isP,gl.isP,fun H1 S1=>?_⟩;have gu1:=gu.same S1;have gl1:=gl.same S1;obtain ⟨hyu,du,au,bu,xu,_,_⟩:=id gu1.pc;obtain ⟨hyl,dl,al',bl,xl,_,_⟩:=id gl1.pc;apply ⟨u,yu,du,_,rfl,hyu,xu,rfl,?_⟩;apply ⟨u,yu,_,_,_,_,_,_,rfl,gu1.pc,?_⟩;apply ⟨l,yl,dl,_,rfl,hyl,xl,rfl,?_⟩;apply ⟨l,yl,_,_,_,_,_,_,rfl,gl1.pc,?_⟩;apply ⟨top,rfl,?_⟩;apply ⟨u,yu,du,_,rfl,hyu,xu,rfl,?_⟩;apply gu1.pc.sd ?_;apply ⟨l,yl,dl,_,rfl,hyl,xl,rfl,?_⟩;apply gl1.pc.sd ?_;apply t7 (by omega) ?_;apply ⟨su ++ sl,rfl,hlen,?_⟩;apply ⟨u,yu,du,_,rfl,hyu,xu,rfl,?_⟩;apply ⟨u,yu,_,_,_,_,_,_,rfl,gu1.pc,fun ru H2 nru S2 hru=>?_⟩;apply ⟨l,yl,dl,_,rfl,hyl,S2 _ _ xl,rfl,?_⟩;apply ⟨l,yl,_,_,_,_,_,_,rfl,gl1.pc.same S2,fun rl H3 nrl S3 hrl=>?_⟩;have U3:=S2.trans S3;apply ⟨u,yu,du,_,rfl,hyu,U3 _ _ xu,rfl,?_⟩;apply ⟨u,yu,_,_,_,_,_,_,rfl,gu1.pc.same U3,?_⟩;apply bM ly ?_;apply ⟨ru,rl,su.cps.size,sl.cps.size,top.cps.size,zG (su ++ sl) top,rfl,by omega,?_,?_,fun rr H4 nrr S4 hrr=>?_⟩
 ·rw [pA (e':=zG su top) fun i j hi hj=>by unfold zG;rw [HF hi]]
  exact S3 _ _ hru
 ·rw [pA (e':=zG sl top) fun i j hi hj=>by unfold zG;rw [HH]]
  exact hrl
 have U4:=U3.trans S4;walk_at "s";apply ⟨u,yu,du,_,rfl,hyu,U4 _ _ xu,rfl,?_⟩;apply ⟨u,yu,_,_,_,_,_,_,rfl,gu1.pc.same U4,?_⟩;apply b8 rfl fun pp H5 npp S5 hpp=>?_
 have U5:=S1.trans (U4.trans S5);refine ⟨x,dx,rr,pp,"Over",su ++ sl,top,_,_,_,[nu,nl],rfl,by unfold LQ;simp,U5 _ _ hx,S5 _ _ hrr,hpp,by simp,yc (gu.same U5) (gl.same U5),fun h H6 hh C6 P6 N6=>?_⟩;rw [← ec] at P6 N6;exact q h H6 hh (fun b o n e=>C6 b o n (U5 _ _ e)) ⟨P6,xZ gu.rs gl.rs hlen,gu.rt⟩ fun m o hm nm=>⟨N6 m o (U5 _ _ hm) nm,xZ gu.rs gl.rs hlen,gu.rt⟩
def Bm (mg:Str->Option Value):Sp:=fun vs H Q _=>∃ (x dx u l:Addr) (yu yl side tu tl ku kl:Str) (pu pl:List V) (hu hl:Nat),vs=[.ref x,.ref u,.ref l]/\H x=some (.ins (aN mg "Beside") dx [])/\PG mg H u yu side tu ku pu hu/\PG mg H l yl side tl kl pl hl/\(tu ++ tl).length<=48/\
 ∀ h H',zR [hu,hl] h->Chg x H H'->PG mg H' x "Beside" side (tu ++ tl) (Str.ofString "beside") [.ref u,.ref l] h->(∀ m o,H m=some o->m≠x->PG mg (Hx m H') x "Beside" side (tu ++ tl) (Str.ofString "beside") [.ref u,.ref l] h)->Q .non H'
theorem jt:aG ["self","left","right","top","lines"] ["self","left","right"] (aB jO):=⟨rfl,rfl,rfl,by trivial,rfl,by trivial,by trivial⟩
theorem jT (T:Txt K mg):lD P w K mg base 9 "Beside" "__init__" ["self","left","right"] (Bm mg):=by
 have ik:=ik (P:=P) (w:=w) (base:=base) T;have jy:=jy (P:=P) (w:=w) (base:=base) T;have bR:=bR (P:=P) (w:=w) (base:=base) T;have dY:=dY (P:=P) (w:=w) (base:=base) T;have iW:=iW (P:=P) (w:=w) (base:=base) T;have gP:=gP (P:=P) (w:=w) (base:=base) T;have bO:=bO (P:=P) (w:=w) (base:=base) T;have aV:=aV (P:=P) (w:=w) (base:=base) T;refine pM T.m_Beside___init__ jt (fun _ _ _ _ _ _ us hl=>L2.pI (fun _ _ _=>rfl) us hl) ?_ fun f cdv A outer s H vs Q E hr h=>?_
 ·rintro vs H Q E ⟨x,dx,u,l,yu,yl,side,tu,tl,ku,kl,pu,pl,nu,nl,rfl,_⟩;rfl
 obtain ⟨x,dx,u,l,yu,yl,side,tu,tl,ku,kl,pu,pl,nu,nl,rfl,hx,gu,gl,hlen,q⟩:=h;have hu:=hr.units0;have hu64:=hr.units;apply ⟨_,(aA (aO (aK ik (hr.mono (by decide)) aU (aa (aq 1) (aa (aq 2) ao)) (by trivial))) (aA (aO (aK jy (hr.mono (by decide)) aU (aa (bZ (mg:=mg) rfl (aq 1) T.os_Piece bR (hr.mono (by decide)) aP) (aa (bZ (mg:=mg) rfl (aq 2) T.os_Piece bR (hr.mono (by decide)) aP) ao)) (by trivial))) (aA (aM (i:=3) jt.nd rfl dI (aY aQ (bZ (mg:=mg) rfl (aq 1) T.os_Piece dY (hr.mono (by decide)) aP) (bZ (mg:=mg) rfl (aq 2) T.os_Piece dY (hr.mono (by decide)) aP)) rfl) (aA (aO (aK iW (hr.mono (by decide)) aU (aa (aq 3) ao) (by trivial))) (aA (aM (i:=4) jt.nd rfl dI (aK gP (hr.mono (by decide)) aU (aa (bZ (mg:=mg) rfl (aq 1) T.os_Piece bO (hr.mono (by decide)) aP) (aa (bZ (mg:=mg) rfl (aq 2) T.os_Piece bO (hr.mono (by decide)) aP) (aa (aJ (aH (K:=K) rfl) aU T.b_len aR (aa (bZ (mg:=mg) rfl (aq 1) T.os_Piece bR (hr.mono (by decide)) aP) ao) (by trivial) (by trivial)) ao))) (by trivial)) rfl) (aC (aO (yS aV (hr.mono (by decide)) aU aP (aa (aq 0) (aa (bZ (mg:=mg) rfl (aq 1) T.os_Piece bR (hr.mono (by decide)) aP) (aa (aq 3) (aa qt (aa (aq 4) (aa (gJ (aa (aq 1) (aa (aq 2) ao))) ao)))))) (by trivial))))))))),?_⟩;have hz:20000<=sizeLine:=by decide
 have h2:side.length<=48:=gu.rs.1;have ly:side.length<=sizeLine:=by omega
 have et:side.length=side.cps.size:=rfl;have es:(tu ++ tl).length=(tu ++ tl).cps.size:=rfl;have ec:=jk tu tl;have el:(tu ++ tl).length=tu.length+tl.length:=jk tu tl;apply ⟨_,_,rfl,gu.isP,gl.isP,fun H1 S1=>?_⟩;have gu1:=gu.same S1;have gl1:=gl.same S1;obtain ⟨hyu,du,au,bu,xu,_,_⟩:=id gu1.pc;obtain ⟨hyl,dl,al',bl,xl,_,_⟩:=id gl1.pc;apply ⟨u,yu,du,_,rfl,hyu,xu,rfl,?_⟩;apply gu1.pc.sd ?_;apply ⟨l,yl,dl,_,rfl,hyl,xl,rfl,?_⟩;apply gl1.pc.sd ?_;apply ⟨side,rfl,?_⟩;apply ⟨u,yu,du,_,rfl,hyu,xu,rfl,?_⟩;apply ⟨u,yu,_,_,_,_,_,_,rfl,gu1.pc,?_⟩;apply ⟨l,yl,dl,_,rfl,hyl,xl,rfl,?_⟩;apply ⟨l,yl,_,_,_,_,_,_,rfl,gl1.pc,?_⟩;apply t7 (by omega) ?_;apply ⟨tu ++ tl,rfl,hlen,?_⟩;apply ⟨u,yu,du,_,rfl,hyu,xu,rfl,?_⟩;apply ⟨u,yu,_,_,_,_,_,_,rfl,gu1.pc,fun ru H2 nru S2 hru=>?_⟩;apply ⟨l,yl,dl,_,rfl,hyl,S2 _ _ xl,rfl,?_⟩;apply ⟨l,yl,_,_,_,_,_,_,rfl,gl1.pc.same S2,fun rl H3 nrl S3 hrl=>?_⟩;have U3:=S2.trans S3;apply ⟨u,yu,du,_,rfl,hyu,U3 _ _ xu,rfl,?_⟩;apply (gu1.pc.same U3).sd ?_;apply bM ly ?_;apply ⟨ru,rl,side.cps.size,tu.cps.size,tl.cps.size,zG side (tu ++ tl),rfl,by omega,?_,?_,fun rr H4 nrr S4 hrr=>?_⟩
 ·rw [pA (e':=zG side tu) fun i j hi hj=>by unfold zG;rw [HF hj]]
  exact S3 _ _ hru
 ·rw [pA (e':=zG side tl) fun i j hi hj=>by unfold zG;rw [HH]]
  exact hrl
 have U4:=U3.trans S4;walk_at "s";apply ⟨u,yu,du,_,rfl,hyu,U4 _ _ xu,rfl,?_⟩;apply (gu1.pc.same U4).sd ?_;apply b8 rfl fun pp H5 npp S5 hpp=>?_
 have U5:=S1.trans (U4.trans S5);refine ⟨x,dx,rr,pp,"Beside",side,tu ++ tl,_,_,_,[nu,nl],rfl,by unfold LQ;simp,U5 _ _ hx,S5 _ _ hrr,hpp,by simp,yc (gu.same U5) (gl.same U5),fun h H6 hh C6 P6 N6=>?_⟩;rw [← ec] at P6 N6;exact q h H6 hh (fun b o n e=>C6 b o n (U5 _ _ e)) ⟨P6,gu.rs,xZ gu.rt gl.rt hlen⟩ fun m o hm nm=>⟨N6 m o (U5 _ _ hm) nm,gu.rs,xZ gu.rt gl.rt hlen⟩
def YF (m:Nat) (e:Nat->Nat->Bool) (i j:Nat):List Nat:=(List.range j).flatMap fun j=>if e i j=true then [] else [m - 1 - i+j]
def stE (m far:Nat) (e:Nat->Nat->Bool) (i j:Nat):List Nat:=bA (List.range (m+far)) (al m far e i ++ YF m e i j)
theorem FT (m far:Nat) (e:Nat->Nat->Bool) (i j:Nat):stE m far e i (j+1)=if e i j=true then stE m far e i j else aW (stE m far e i j) (m - 1 - i+j):=by
 unfold stE YF;rw [Abn,List.flatMap_append,← Abl,n8];simp only [List.flatMap_cons,List.flatMap_nil,AaL]
 split
 ·rfl
 ·rfl
theorem T9 (m far:Nat) (e:Nat->Nat->Bool) (i:Nat):stE m far e (i+1) 0=stE m far e i far:=by
 unfold stE YF;rw [xV];simp only [List.range_zero,List.flatMap_nil,AaL];rfl
theorem Ua (m far:Nat) (e:Nat->Nat->Bool):stE m far e m 0=Dn (m+far) (al m far e m):=by
 unfold stE YF Dn;simp
theorem QC (m far:Nat) (e:Nat->Nat->Bool):stE m far e 0 0=List.range (m+far):=rfl
theorem Jz {m i j p:Nat} {e:Nat->Nat->Bool} (h:p∈YF m e i j):∃ k,k < j/\p=m - 1 - i+k:=by
 unfold YF at h;obtain ⟨k,hk,h⟩:=Acj.mp h;refine ⟨k,AaA.mp hk,?_⟩
 split at h
 ·cases h
 ·exact Aam.mp h
theorem JC {m far i j:Nat} {e:Nat->Nat->Bool} (hn:m+far<=96) (hi:i < m/\j<=far\/i<=m/\j=0):Prm (stE m far e i j):=by
 refine Jj hn fun p hp=>?_
 rcases Aaz.mp hp with h | h
 ·obtain ⟨a,b,ha,hb,rfl⟩:=CJ h
  omega
 ·obtain ⟨k,hk,rfl⟩:=Jz h
  omega
theorem JD (m far:Nat) (e:Nat->Nat->Bool) (i j:Nat):(stE m far e i j).length=m+far:=by unfold stE;rw [lE];simp
theorem run_get {E ps:List Nat} {q:Nat} (h:∀ p∈ps,q < p):(bA E ps).getD q 0=E.getD q 0:=by
 induction ps generalizing E with
 | nil=>rfl
 | cons p ps ih=>
  show (bA (aW E p) ps).getD q 0=_;rw [ih fun x hx=>h x (by simp [hx]),step_get (.inl (h p (by simp)))]
theorem JF {m far i j q:Nat} {e:Nat->Nat->Bool} (hi:i < m) (hq:q < m - 1 - i\/(q=m - 1 - i/\j=0)):(stE m far e i j).getD q 0=q:=by
 have hr:(List.range (m+far)).getD q 0=q:=by
  rw [Aac,Aat (by omega)];rfl
 unfold stE;rw [run_get,hr];intro p hp;rcases Aaz.mp hp with h | h
 ·obtain ⟨a,b,ha,hb,rfl⟩:=CJ h
  omega
 ·obtain ⟨k,hk,rfl⟩:=Jz h
  omega
theorem Ub {E:List Nat} {p:Nat} (h:p+1 < E.length) (hw:tD E p=true):(aW E p).getD p 0=E.getD (p+1) 0/\(aW E p).getD (p+1) 0=E.getD p 0:=by
 rw [yW hw];refine ⟨?_,?_⟩
 ·rw [jq h,if_neg (by omega),if_pos rfl]
 ·rw [jq h,if_pos rfl]
def TK (y kind:Str):Prop:=(y="Blank"/\kind=Str.ofString "blank")\/(y="One"/\kind=Str.ofString "one")\/(y="Over"/\kind=Str.ofString "over")\/(y="Beside"/\kind=Str.ofString "beside")
theorem Dh {H H2:Hp} {x dx:Addr} {o1 o2:HO} (nx:H x=none) (nd:H dx=none) (c:Chg x (upd (upd H dx o1) x o2) H2):Same H H2:=fun b o e=>by
 have h1:b≠x:=fun z=>by rw [z,nx] at e;cases e
 have h2:b≠dx:=fun z=>by rw [z,nd] at e;cases e
 exact c b o h1 (by rw [aD h1,aD h2];exact e)
theorem FW {H:Hp} {x dx m:Addr} {o o1 o2:HO} (nx:H x=none) (nd:H dx=none) (hm:H m=some o):upd (upd H dx o1) x o2 m=some o/\m≠x:=by
 have h1:m≠x:=fun z=>by rw [z,nx] at hm;cases hm
 have h2:m≠dx:=fun z=>by rw [z,nd] at hm;cases hm
 exact ⟨by rw [aD h1,aD h2];exact hm,h1⟩
theorem Uc {H:Hp} {x dx:Addr} {o1 o2:HO} (nx:H x=none) (nd:H dx=none):Same H (upd (upd H dx o1) x o2):=fun b o e=>(FW nx nd e).1
theorem PsH.same {H H':Hp} {ps:List V} {hs:List Nat} (p:PsH mg H ps hs) (c:Same H H'):PsH mg H' ps hs:=⟨p.1,fun i v h e1 e2=>by
 obtain ⟨q,y,s,t,k,L,qs,rfl,z⟩:=p.2 i v h e1 e2;exact ⟨q,y,s,t,k,L,qs,rfl,z.same c⟩⟩
def GP1 (mg:Str->Option Value) (H:Hp) (x:Addr) (side top:Str) (h:Nat):Prop:=∃ (y kind:Str) (ps:List V) (hs:List Nat),PG mg H x y side top kind ps h/\TK y kind/\PsH mg H ps hs/\zR hs h/\((ps=[]/\(kind=Str.ofString "blank"\/kind=Str.ofString "one"))\/ps.length=2)
theorem GP1.same {H H':Hp} {x:Addr} {side top:Str} {h:Nat} (p:GP1 mg H x side top h) (c:Same H H'):GP1 mg H' x side top h:=by
 obtain ⟨y,k,ps,hs,a,b,d,e,f⟩:=p;exact ⟨y,k,ps,hs,a.same c,b,d.same c,e,f⟩
theorem GP1.blank {H:Hp} {x:Addr} {side top:Str} (p:PG mg H x "Blank" side top (Str.ofString "blank") [] 0):GP1 mg H x side top 0:=⟨_,_,_,[],p,.inl ⟨rfl,rfl⟩,xX,.inl ⟨rfl,rfl⟩,.inl ⟨rfl,.inl rfl⟩⟩
theorem GP1.one {H:Hp} {x:Addr} {side top:Str} (p:PG mg H x "One" side top (Str.ofString "one") [] 0):GP1 mg H x side top 0:=⟨_,_,_,[],p,.inr (.inl ⟨rfl,rfl⟩),xX,.inl ⟨rfl,rfl⟩,.inl ⟨rfl,.inr rfl⟩⟩
theorem GP1.two {H:Hp} {x u l:Addr} {y kind side top s1 t1 s2 t2:Str} {h hu hl:Nat} (tk:TK y kind) (p:PG mg H x y side top kind [.ref u,.ref l] h) (hh:zR [hu,hl] h) (gu:GP1 mg H u s1 t1 hu) (gl:GP1 mg H l s2 t2 hl):GP1 mg H x side top h:=by
 obtain ⟨_,_,_,_,a,_⟩:=gu;obtain ⟨_,_,_,_,b,_⟩:=gl;exact ⟨y,kind,_,[hu,hl],p,tk,yc a b,hh,.inr rfl⟩
def Hm (H0 H:Hp):Hp:=fun b=>match H0 b with
 | some _=>none
 | none=>H b
theorem QD {H0 H:Hp} {b:Addr} {o:HO} (h:Hm H0 H b=some o):H0 b=none/\H b=some o:=by
 unfold Hm at h
 split at h
 ·cases h
 ·exact ⟨by assumption,h⟩
theorem Bo {H0 H:Hp} {b:Addr} {o:HO} (h:H b=some o) (n:H0 b=none):Hm H0 H b=some o:=by unfold Hm;rw [n];exact h
theorem Ud {H0 H:Hp}:Same (Hm H0 H) H:=fun b o e=>(QD e).2
theorem aaj {H0 H H':Hp} (c:Same H H'):Same (Hm H0 H) (Hm H0 H'):=fun b o e=>Bo (c _ _ (QD e).2) (QD e).1
def Dm (H0 H:Hp):Prop:=∀ m o,H0 m=some o->∃ o',H m=some o'
theorem Dm.of {H0 H:Hp} (s:Same H0 H):Dm H0 H:=fun m o e=>⟨o,s _ _ e⟩
theorem Dm.same {H0 H H':Hp} (d:Dm H0 H) (s:Same H H'):Dm H0 H':=fun m o e=>let ⟨o',e'⟩:=d m o e;⟨o',s _ _ e'⟩
theorem PG.hm {H0 H:Hp} {x:Addr} {y side top kind:Str} {ps:List V} {h:Nat} (p:PG mg H x y side top kind ps h) (N:∀ m o,H0 m=some o->PG mg (Hx m H) x y side top kind ps h):PG mg (Hm H0 H) x y side top kind ps h:=by
 obtain ⟨⟨hy,dx,al,ap,a,b,c⟩,rs,rt⟩:=p
 have key:∀ m o,H0 m=some o->x≠m/\al≠m/\ap≠m:=fun m o hm=>by
  obtain ⟨⟨_,dx',al',ap',a',b',c'⟩,_,_⟩:=N m o hm;have e:=Ju m H _ _ a';rw [a] at e;simp only [Option.some.injEq,HO.ins.injEq,Q9,List.cons.injEq,Prod.mk.injEq,V.ref.injEq,true_and,and_true] at e;obtain ⟨_,rfl,rfl⟩:=e;have nn:∀ {b:Addr} {o:HO},Hx m H b=some o->b≠m:=fun {b o} hb z=>by rw [z] at hb;unfold Hx at hb;rw [if_pos rfl] at hb;cases hb
  exact ⟨nn a',nn b',nn c'⟩
 have out:∀ b,(∀ m o,H0 m=some o->b≠m)->H0 b=none:=fun b hb=>by
  cases h:H0 b with
  | none=>rfl
  | some o=>exact absurd rfl (hb b o h)
 exact ⟨⟨hy,dx,al,ap,Bo a (out x fun m o hm=>(key m o hm).1),Bo b (out al fun m o hm=>(key m o hm).2.1),Bo c (out ap fun m o hm=>(key m o hm).2.2)⟩,rs,rt⟩
def GP (mg:Str->Option Value) (H0 H:Hp) (x:Addr) (side top:Str) (h:Nat):Prop:=GP1 mg (Hm H0 H) x side top h
theorem GP.g {H0 H:Hp} {x:Addr} {side top:Str} {h:Nat} (p:GP mg H0 H x side top h):GP1 mg H x side top h:=GP1.same p Ud
theorem GP.same {H0 H H':Hp} {x:Addr} {side top:Str} {h:Nat} (p:GP mg H0 H x side top h) (c:Same H H'):GP mg H0 H' x side top h:=GP1.same p (aaj c)
theorem Ue {H:Hp} {a m:Addr} {o:HO} (hm:H m=some o) (n:H a=none):a≠m:=fun z=>by rw [z,hm] at n;cases n
theorem FZ {H0 H:Hp} {side top:Str} {R:Addr->Hp->Prop} {E:XK} (S0:Dm H0 H) (rs:Row side) (rt:Row top) (he:side.cps.size=0\/top.cps.size=0) (q:∀ x H',Same H H'->PG mg H' x "Blank" side top (Str.ofString "blank") [] 0->GP mg H0 H' x side top 0->R x H') (x dx:Addr) (nx:H x=none) (nd:H dx=none) (_:dx≠x):
  Jx mg [.ref x,.str side,.str top] (upd (upd H dx (.own x)) x (.ins (aN mg "Blank") dx [])) (fun v H2=>v= .non/\R x H2) E:=
 ⟨x,dx,side,top,rfl,aj,rs,rt,he,fun H2 C P2 N2=>⟨rfl,q x H2 (Dh nx nd C) P2 (GP1.blank (P2.hm fun m o hm=>let ⟨o',e⟩:=S0 m o hm;N2 m o' (FW nx nd e).1 (Ue e nx).symm))⟩⟩
theorem XX {H0 H:Hp} {c d:Nat} {R:Addr->Hp->Prop} {E:XK} (S0:Dm H0 H) (hc:c∈GOOD) (hd:d∈GOOD) (q:∀ x H',Same H H'->PG mg H' x "One" ⟨#[c]⟩ ⟨#[d]⟩ (Str.ofString "one") [] 0->GP mg H0 H' x ⟨#[c]⟩ ⟨#[d]⟩ 0->R x H') (x dx:Addr) (nx:H x=none) (nd:H dx=none) (_:dx≠x):
  Vp mg [.ref x,.str ⟨#[c]⟩,.str ⟨#[d]⟩] (upd (upd H dx (.own x)) x (.ins (aN mg "One") dx [])) (fun v H2=>v= .non/\R x H2) E:=
 ⟨x,dx,c,d,rfl,aj,hc,hd,fun H2 C P2 N2=>⟨rfl,q x H2 (Dh nx nd C) P2 (GP1.one (P2.hm fun m o hm=>let ⟨o',e⟩:=S0 m o hm;N2 m o' (FW nx nd e).1 (Ue e nx).symm))⟩⟩
theorem Ug {H0 H:Hp} {u l:Addr} {su sl top:Str} {hu hl:Nat} {R:Addr->Hp->Prop} {E:XK} (S0:Dm H0 H) (gu:GP mg H0 H u su top hu) (gl:GP mg H0 H l sl top hl) (hlen:(su ++ sl).length<=48) (q:∀ x h H',Same H H'->zR [hu,hl] h->PG mg H' x "Over" (su ++ sl) top (Str.ofString "over") [.ref u,.ref l] h->GP mg H0 H' x (su ++ sl) top h->R x H') (x dx:Addr) (nx:H x=none) (nd:H dx=none) (_:dx≠x):
  Jy mg [.ref x,.ref u,.ref l] (upd (upd H dx (.own x)) x (.ins (aN mg "Over") dx [])) (fun v H2=>v= .non/\R x H2) E:=by
 obtain ⟨_,_,_,_,a,_⟩:=id gu.g;obtain ⟨_,_,_,_,b,_⟩:=id gl.g;refine ⟨x,dx,u,l,_,_,su,sl,top,_,_,_,_,hu,hl,rfl,aj,a.same (Uc nx nd),b.same (Uc nx nd),hlen,fun h H2 hh C P2 N2=>⟨rfl,?_⟩⟩;have S:=Dh nx nd C;have tk:TK "Over" (Str.ofString "over"):=.inr (.inr (.inl ⟨rfl,rfl⟩));exact q x h H2 S hh P2 (GP1.two tk (P2.hm fun m o hm=>let ⟨o',e⟩:=S0 m o hm;N2 m o' (FW nx nd e).1 (Ue e nx).symm) hh (gu.same S) (gl.same S))
theorem Mg {H0 H:Hp} {u l:Addr} {side tu tl:Str} {hu hl:Nat} {R:Addr->Hp->Prop} {E:XK} (S0:Dm H0 H) (gu:GP mg H0 H u side tu hu) (gl:GP mg H0 H l side tl hl) (hlen:(tu ++ tl).length<=48) (q:∀ x h H',Same H H'->zR [hu,hl] h->PG mg H' x "Beside" side (tu ++ tl) (Str.ofString "beside") [.ref u,.ref l] h->GP mg H0 H' x side (tu ++ tl) h->R x H') (x dx:Addr) (nx:H x=none) (nd:H dx=none) (_:dx≠x):
  Bm mg [.ref x,.ref u,.ref l] (upd (upd H dx (.own x)) x (.ins (aN mg "Beside") dx [])) (fun v H2=>v= .non/\R x H2) E:=by
 obtain ⟨_,_,_,_,a,_⟩:=id gu.g;obtain ⟨_,_,_,_,b,_⟩:=id gl.g;refine ⟨x,dx,u,l,_,_,side,tu,tl,_,_,_,_,hu,hl,rfl,aj,a.same (Uc nx nd),b.same (Uc nx nd),hlen,fun h H2 hh C P2 N2=>⟨rfl,?_⟩⟩;have S:=Dh nx nd C;have tk:TK "Beside" (Str.ofString "beside"):=.inr (.inr (.inr ⟨rfl,rfl⟩));exact q x h H2 S hh P2 (GP1.two tk (P2.hm fun m o hm=>let ⟨o',e⟩:=S0 m o hm;N2 m o' (FW nx nd e).1 (Ue e nx).symm) hh (gu.same S) (gl.same S))
theorem Vq {a b h n:Nat} (k:zR [a,b] h) (ha:a<=n) (hb:b<=n):h<=n+1:=by
 rcases k with ⟨e,_⟩ | ⟨⟨c,hc,e⟩,_⟩
 ·cases e
 ·simp only [Aaj,AaN,or_false] at hc
  rcases hc with rfl | rfl <;> omega
theorem vB {a b:Str} (h:a.cps.toList=b.cps.toList):a=b:=by
 cases a;cases b;congr;exact Array.ext' h
def mD:List Str->Str
 | []=>Str.ofString ""
 | s :: ss=>s ++ mD ss
theorem yd:(Str.ofString "").cps.toList=[]:=by trivial
theorem JK (s:Str):s ++ Str.ofString ""=s:=vB (by rw [jR,yd,AaL])
theorem Uh (s:Str):Str.ofString "" ++ s=s:=vB (by rw [jR,yd,List.nil_append])
theorem Mh (a b c:Str):a ++ b ++ c=a ++ (b ++ c):=vB (by rw [jR,jR,jR,jR,Abl])
theorem Ga:∀ (a b:List Str),mD (a ++ b)=mD a ++ mD b
 | [],b=>(Uh _).symm
 | s :: a,b=>by show s ++ mD (a ++ b)=s ++ mD a ++ mD b;rw [Ga a b,Mh]
def tV (z:Str):List Str:=z.cps.toList.map fun c=>⟨#[c]⟩
theorem sV (z:Str):mD (tV z)=z:=by
 refine vB ?_;unfold tV
 induction z.cps.toList with
 | nil=>exact yd
 | cons c l ih=>show (⟨#[c]⟩ ++ mD _:Str).cps.toList=_;rw [jR,ih];rfl
theorem len_cat (a b:Str):(a ++ b).length=a.length+b.length:=jk a b
def QF (K:W.Frag) (mg:Str->Option Value) (d:Nat):Sp:=fun vs H Q _=>∃ (p:Addr) (xs:List Addr) (side:Str) (ts:List Str) (h0:Nat) (H0:Hp),vs=[.ref p]/\Dm H0 H/\H p=some (.lst (xs.map V.ref))/\xs.length=ts.length/\0 < xs.length/\xs.length<=2 ^ d/\(mD ts).length<=48/\(∀ (i:Nat) (x:Addr) (t:Str),xs[i]?=some x->ts[i]?=some t->∃ h,h<=h0/\GP mg H0 H x side t h)/\
 ∀ x h H',Same H H'->h<=h0+d->GP mg H0 H' x side (mD ts) h->Q (.ref x) H'
def aak (K:W.Frag) (mg:Str->Option Value):Nat->Sp
 | 0=>fun _ _ _ _=>False
 | d+1=>QF K mg d
def QG (K:W.Frag) (mg:Str->Option Value) (d:Nat):Sp:=fun vs H Q _=>∃ (p:Addr) (xs:List Addr) (top:Str) (ts:List Str) (h0:Nat) (H0:Hp),vs=[.ref p]/\Dm H0 H/\H p=some (.lst (xs.map V.ref))/\xs.length=ts.length/\0 < xs.length/\xs.length<=2 ^ d/\(mD ts).length<=48/\(∀ (i:Nat) (x:Addr) (t:Str),xs[i]?=some x->ts[i]?=some t->∃ h,h<=h0/\GP mg H0 H x t top h)/\
 ∀ x h H',Same H H'->h<=h0+d->GP mg H0 H' x (mD ts) top h->Q (.ref x) H'
def aal (K:W.Frag) (mg:Str->Option Value):Nat->Sp
 | 0=>fun _ _ _ _=>False
 | d+1=>QG K mg d
theorem Bp {ts:List Str} {c:Nat} (h:(mD ts).length<=48):mD ts=mD (ts.take c) ++ mD (ts.drop c)/\(mD (ts.take c)).length+(mD (ts.drop c)).length<=48:=by
 have e:mD ts=mD (ts.take c) ++ mD (ts.drop c):=by rw [← Ga,List.take_append_drop]
 refine ⟨e,?_⟩;rw [e,len_cat] at h;exact h
theorem half {n d:Nat} (h:n<=2 ^ (d+1)):n / 2<=2 ^ d/\n - n / 2<=2 ^ d:=by
 rw [Nat.pow_succ] at h;omega
theorem oO:aG ["pieces","cut"] ["pieces"] (aB pZ):=⟨rfl,rfl,rfl,by trivial,rfl,by trivial,by trivial⟩
theorem zV (T:Txt K mg):Has P w K mg base 1 "all_beside" ["pieces"] (fun _ _ _ _=>False):=eO (k:=0) T.d_all_beside oO (fun _ _ _ _ _ _ us hl=>L2.jE (fun _=>rfl) us hl) (fun _ _ _ _ h=>h.elim) (fun _ _ _ _ _ _ _ _ _ _ h=>h.elim)
theorem tW (T:Txt K mg) (d:Nat) (iY:Has P w K mg base (10+d) "all_beside" ["pieces"] (aak K mg d)):Has P w K mg base (10+d+1) "all_beside" ["pieces"] (QF K mg d):=by
 have jT:=jT (P:=P) (w:=w) (base:=base) T;refine eO T.d_all_beside oO (fun _ _ _ _ _ _ us hl=>L2.jE (fun _=>rfl) us hl) ?_ fun f cdv A outer s H vs Q E hr h=>?_
 ·rintro vs H Q E ⟨p,xs,side,ts,h0,H0,rfl,_⟩;rfl
 obtain ⟨p,xs,side,ts,h0,H0,rfl,hS0,hp,hl,h1,h2,hlen,hG,q⟩:=h;have hu:=hr.units0;have hu64:=hr.units;apply ⟨_,(aA (bQ (bh (fH (K:=K) rfl hu64) (aJ (aH (K:=K) rfl) aU T.b_len aR (aa (aq 0) ao) (by trivial) (by trivial)) aF (by walk_at "p")) (aC (aL (bT (K:=K) rfl (aq 0) aF))) bj) (aA (aM (i:=1) oO.nd rfl dI (aY mq (aJ (aH (K:=K) rfl) aU T.b_len aR (aa (aq 0) ao) (by trivial) (by trivial)) aF) rfl) (aC (aL (nZ T.o_Beside jT (hr.mono (by omega)) aU (mW fun _ _=>rfl) (aa (aK iY (hr.mono (by omega)) aU (aa (my (xP (K:=K) rfl) (aq 0) dH (gB (aq 1))) ao) (by trivial)) (aa (aK iY (hr.mono (by omega)) aU (aa (my (xP (K:=K) rfl) (aq 0) (gB (aq 1)) dH) ao) (by trivial)) ao)) (by trivial)))))),?_⟩;have hz:20000<=sizeLine:=by decide
 apply d9 (SqL.of hp) ?_;rw [Aaf];by_cases e1:xs.length=1
 ·rw [Aar (show V.int (xs.length:Int)=V.int 1 by rw [e1];rfl)]
  obtain ⟨x,rfl⟩:=AbY.mp e1;obtain ⟨t,rfl⟩:=AbY.mp (hl.symm.trans e1);obtain ⟨h,hh,g⟩:=hG 0 x t rfl rfl;have hp':H p=some (.lst [.ref x]):=hp;walk_at "s";refine q x h H (Same.refl H) (by omega) ?_;rw [show mD [t]=t from JK t];exact g
 ·rw [Aao (show ¬ V.int (xs.length:Int)=V.int 1 from fun z=>e1 (by have:=V.int.inj z;omega))]
  obtain ⟨e,rfl⟩:∃ e,d=e+1:=by
   cases d with
   | zero=>simp at h2;omega
   | succ e=>exact ⟨e,rfl⟩
  obtain ⟨k1,k2⟩:=half h2;walk_at "s";apply d9 (SqL.of hp) ?_;rw [Aaf,show ((xs.length:Nat):Int) / 2=((xs.length / 2:Nat):Int) by omega];generalize hc:xs.length / 2=c at k1 k2 ⊢;obtain ⟨c1,c2⟩:=Bp (c:=c) hlen;walk_at "s";apply Et (SqL.of hp) fun p1 np1=>?_
  rw [Fg,← List.map_take];have S1:=(Same.refl H).upd np1 (o:=.lst ((xs.take c).map V.ref));have hp1:=aj (H:=H) (a:=p1) (o:=.lst ((xs.take c).map V.ref));generalize upd H p1 (.lst ((xs.take c).map V.ref))=H1 at S1 hp1 ⊢;walk_at "s";apply ⟨p1,xs.take c,side,ts.take c,h0,H0,rfl,hS0.same S1,hp1,by simp;omega,by simp;omega,by simp;omega,by omega,(fun i x t ex et=>?_),fun x1 g1 H2 S2 l1 G1=>?_⟩
  ·obtain ⟨ei,ex'⟩:i < c/\xs[i]?=some x:=by
    rw [List.getElem?_take] at ex
    split at ex
    ·exact ⟨by assumption,ex⟩
    ·cases ex
   rw [List.getElem?_take_of_lt ei] at et;obtain ⟨h,hh,g⟩:=hG i x t ex' et;exact ⟨h,hh,g.same S1⟩
  have U2:=S1.trans S2;try walk_at "s"
  apply Et (SqL.of (U2 _ _ hp)) fun p2 np2=>?_
  rw [yR,← List.map_drop];have S3:=(Same.refl H2).upd np2 (o:=.lst ((xs.drop c).map V.ref));have hp3:=aj (H:=H2) (a:=p2) (o:=.lst ((xs.drop c).map V.ref));generalize upd H2 p2 (.lst ((xs.drop c).map V.ref))=H3 at S3 hp3 ⊢;walk_at "s";apply ⟨p2,xs.drop c,side,ts.drop c,h0,H0,rfl,hS0.same (U2.trans S3),hp3,by simp;omega,by simp;omega,by simp;omega,by omega,(fun i x t ex et=>?_),fun x2 g2 H4 S4 l2 G2=>?_⟩
  ·rw [AbE] at ex et
   obtain ⟨h,hh,g⟩:=hG _ x t ex et;exact ⟨h,hh,g.same (U2.trans S3)⟩
  try walk_at "s"
  refine Mg (hS0.same (U2.trans (S3.trans S4))) (G1.same (S3.trans S4)) G2 (by rw [len_cat];omega) fun x h H5 S5 hh _ g=>?_
  refine q x h H5 (U2.trans (S3.trans (S4.trans S5))) (by have:=Vq hh l1 l2;omega) ?_;rw [c1];exact g
theorem rJ:aG ["pieces","cut"] ["pieces"] (aB uA):=⟨rfl,rfl,rfl,by trivial,rfl,by trivial,by trivial⟩
theorem Gb (T:Txt K mg):Has P w K mg base 1 "all_over" ["pieces"] (fun _ _ _ _=>False):=eO (k:=0) T.d_all_over rJ (fun _ _ _ _ _ _ us hl=>L2.jE (fun _=>rfl) us hl) (fun _ _ _ _ h=>h.elim) (fun _ _ _ _ _ _ _ _ _ _ h=>h.elim)
theorem xg (T:Txt K mg) (d:Nat) (lg:Has P w K mg base (10+d) "all_over" ["pieces"] (aal K mg d)):Has P w K mg base (10+d+1) "all_over" ["pieces"] (QG K mg d):=by
 have lU:=lU (P:=P) (w:=w) (base:=base) T;refine eO T.d_all_over rJ (fun _ _ _ _ _ _ us hl=>L2.jE (fun _=>rfl) us hl) ?_ fun f cdv A outer s H vs Q E hr h=>?_
 ·rintro vs H Q E ⟨p,xs,top,ts,h0,H0,rfl,_⟩;rfl
 obtain ⟨p,xs,top,ts,h0,H0,rfl,hS0,hp,hl,h1,h2,hlen,hG,q⟩:=h;have hu:=hr.units0;have hu64:=hr.units;apply ⟨_,(aA (bQ (bh (fH (K:=K) rfl hu64) (aJ (aH (K:=K) rfl) aU T.b_len aR (aa (aq 0) ao) (by trivial) (by trivial)) aF (by walk_at "p")) (aC (aL (bT (K:=K) rfl (aq 0) aF))) bj) (aA (aM (i:=1) rJ.nd rfl dI (aY mq (aJ (aH (K:=K) rfl) aU T.b_len aR (aa (aq 0) ao) (by trivial) (by trivial)) aF) rfl) (aC (aL (nZ T.o_Over lU (hr.mono (by omega)) aU (mW fun _ _=>rfl) (aa (aK lg (hr.mono (by omega)) aU (aa (my (xP (K:=K) rfl) (aq 0) dH (gB (aq 1))) ao) (by trivial)) (aa (aK lg (hr.mono (by omega)) aU (aa (my (xP (K:=K) rfl) (aq 0) (gB (aq 1)) dH) ao) (by trivial)) ao)) (by trivial)))))),?_⟩;have hz:20000<=sizeLine:=by decide
 apply d9 (SqL.of hp) ?_;rw [Aaf];by_cases e1:xs.length=1
 ·rw [Aar (show V.int (xs.length:Int)=V.int 1 by rw [e1];rfl)]
  obtain ⟨x,rfl⟩:=AbY.mp e1;obtain ⟨t,rfl⟩:=AbY.mp (hl.symm.trans e1);obtain ⟨h,hh,g⟩:=hG 0 x t rfl rfl;have hp':H p=some (.lst [.ref x]):=hp;walk_at "s";refine q x h H (Same.refl H) (by omega) ?_;rw [show mD [t]=t from JK t];exact g
 ·rw [Aao (show ¬ V.int (xs.length:Int)=V.int 1 from fun z=>e1 (by have:=V.int.inj z;omega))]
  obtain ⟨e,rfl⟩:∃ e,d=e+1:=by
   cases d with
   | zero=>simp at h2;omega
   | succ e=>exact ⟨e,rfl⟩
  obtain ⟨k1,k2⟩:=half h2;walk_at "s";apply d9 (SqL.of hp) ?_;rw [Aaf,show ((xs.length:Nat):Int) / 2=((xs.length / 2:Nat):Int) by omega];generalize hc:xs.length / 2=c at k1 k2 ⊢;obtain ⟨c1,c2⟩:=Bp (c:=c) hlen;walk_at "s";apply Et (SqL.of hp) fun p1 np1=>?_
  rw [Fg,← List.map_take];have S1:=(Same.refl H).upd np1 (o:=.lst ((xs.take c).map V.ref));have hp1:=aj (H:=H) (a:=p1) (o:=.lst ((xs.take c).map V.ref));generalize upd H p1 (.lst ((xs.take c).map V.ref))=H1 at S1 hp1 ⊢;walk_at "s";apply ⟨p1,xs.take c,top,ts.take c,h0,H0,rfl,hS0.same S1,hp1,by simp;omega,by simp;omega,by simp;omega,by omega,(fun i x t ex et=>?_),fun x1 g1 H2 S2 l1 G1=>?_⟩
  ·obtain ⟨ei,ex'⟩:i < c/\xs[i]?=some x:=by
    rw [List.getElem?_take] at ex
    split at ex
    ·exact ⟨by assumption,ex⟩
    ·cases ex
   rw [List.getElem?_take_of_lt ei] at et;obtain ⟨h,hh,g⟩:=hG i x t ex' et;exact ⟨h,hh,g.same S1⟩
  have U2:=S1.trans S2;try walk_at "s"
  apply Et (SqL.of (U2 _ _ hp)) fun p2 np2=>?_
  rw [yR,← List.map_drop];have S3:=(Same.refl H2).upd np2 (o:=.lst ((xs.drop c).map V.ref));have hp3:=aj (H:=H2) (a:=p2) (o:=.lst ((xs.drop c).map V.ref));generalize upd H2 p2 (.lst ((xs.drop c).map V.ref))=H3 at S3 hp3 ⊢;walk_at "s";apply ⟨p2,xs.drop c,top,ts.drop c,h0,H0,rfl,hS0.same (U2.trans S3),hp3,by simp;omega,by simp;omega,by simp;omega,by omega,(fun i x t ex et=>?_),fun x2 g2 H4 S4 l2 G2=>?_⟩
  ·rw [AbE] at ex et
   obtain ⟨h,hh,g⟩:=hG _ x t ex et;exact ⟨h,hh,g.same (U2.trans S3)⟩
  try walk_at "s"
  refine Ug (hS0.same (U2.trans (S3.trans S4))) (G1.same (S3.trans S4)) G2 (by rw [len_cat];omega) fun x h H5 S5 hh _ g=>?_
  refine q x h H5 (U2.trans (S3.trans (S4.trans S5))) (by have:=Vq hh l1 l2;omega) ?_;rw [c1];exact g
theorem Mi (T:Txt K mg):∀ d:Nat,Has P w K mg base (11+d) "all_beside" ["pieces"] (QF K mg d):=fun d=>by
 have key:∀ d:Nat,Has P w K mg base (11 - 1+d+1) "all_beside" ["pieces"] (QF K mg d):=fun d=>by
  induction d with
  | zero=>exact tW T 0 ((zV T).mono (by decide))
  | succ d ih=>exact tW T (d+1) (ih.mono (by omega))
 exact (key d).mono (by omega)
theorem Ui (T:Txt K mg):∀ d:Nat,Has P w K mg base (11+d) "all_over" ["pieces"] (QG K mg d):=fun d=>by
 have key:∀ d:Nat,Has P w K mg base (11 - 1+d+1) "all_over" ["pieces"] (QG K mg d):=fun d=>by
  induction d with
  | zero=>exact xg T 0 ((Gb T).mono (by decide))
  | succ d ih=>exact xg T (d+1) (ih.mono (by omega))
 exact (key d).mono (by omega)
theorem iY (T:Txt K mg):Has P w K mg base (11+6) "all_beside" ["pieces"] (QF K mg 6):=Mi T 6
theorem lg (T:Txt K mg):Has P w K mg base (11+6) "all_over" ["pieces"] (QG K mg 6):=Ui T 6
theorem sW {z:Str}:z=Str.ofString ""↔z.cps.size=0:=⟨fun h=>by rw [h];trivial,fun h=>vB (by rw [yd];exact List.eq_nil_of_length_eq_zero (by simpa using h))⟩
end
local macro_rules | `(tactic| walk_at "s") => `(tactic| (with_reducible repeat (first | refine lZ ?_ | walk_at "4")))
local macro_rules | `(tactic| walk_at "n") => `(tactic| (with_reducible repeat (walk_at "4")))
section
variable {P:Program} {w:World} {K:W.Frag} {mg:Str->Option Value} {base:Heap}
theorem zW:(["sign","bands"]:List Str).Nodup:=by trivial
theorem zX:(["other","sign"]:List Str).Nodup:=by trivial
theorem Pc.off {H:Hp} {x d:Addr} {y side top kind:Str} {L:List Nat} {ps:List V} {h:Nat} {kvs:List (Key×V)} (p:Pc mg H x y side top kind L ps h) (hd:H d=some (.dK kvs)):Pc mg (Hx d H) x y side top kind L ps h:=by
 obtain ⟨hy,dx,al,ap,a,b,c⟩:=p;exact ⟨hy,dx,al,ap,Bl a (fun z=>by rw [z,hd] at a;cases a),Bl b (fun z=>by rw [z,hd] at b;cases b),Bl c (fun z=>by rw [z,hd] at c;cases c)⟩
theorem GP1.off {H:Hp} {x d:Addr} {side top:Str} {h:Nat} {kvs:List (Key×V)} (p:GP1 mg H x side top h) (hd:H d=some (.dK kvs)):GP1 mg (Hx d H) x side top h:=by
 obtain ⟨y,k,ps,hs,a,b,c,e,f⟩:=p
 exact ⟨y,k,ps,hs,⟨a.pc.off hd,a.rs,a.rt⟩,b,⟨c.1,fun i v n e1 e2=>by
  obtain ⟨q,y',s',t',k',L,qs,rfl,z⟩:=c.2 i v n e1 e2;exact ⟨q,y',s',t',k',L,qs,rfl,z.off hd⟩⟩,e,f⟩
theorem GP1.put {H:Hp} {x d:Addr} {side top:Str} {h:Nat} {kvs:List (Key×V)} {o:HO} (p:GP1 mg H x side top h) (hd:H d=some (.dK kvs)):GP1 mg (upd H d o) x side top h:=(p.off hd).same (by rw [← XQ (o:=o)];exact Ju d _)
theorem X3 {H0 H:Hp} {d:Addr} {o:HO} (n:H0 d=none):Hm H0 (upd H d o)=upd (Hm H0 H) d o:=by
 funext b;by_cases h2:b=d
 ·rw [h2,aj];exact Bo aj n
 ·rw [aD h2];unfold Hm;rw [aD h2]
theorem GP.put {H0 H:Hp} {x d:Addr} {side top:Str} {h:Nat} {kvs:List (Key×V)} {o:HO} (p:GP mg H0 H x side top h) (hd:H d=some (.dK kvs)) (n0:H0 d=none):GP mg H0 (upd H d o) x side top h:=by
 unfold GP;rw [X3 n0];exact GP1.put p (Bo hd n0)
def aam (mg:Str->Option Value):Sp:=fun vs H Q _=>∃ (side top:Str),vs=[.str side,.str top]/\Row side/\Row top/\∀ x h H',Same H H'->h<=12->GP mg H H' x side top h->Q (.ref x) H'
theorem Ge (z:Str):(tV z).length=z.cps.size:=by unfold tV;simp
theorem JL {z:Str} {i c:Nat} (h:z.cps.toList[i]?=some c):(tV z)[i]?=some ⟨#[c]⟩:=by unfold tV;rw [Aah,h];rfl
theorem rK:aG ["side","top","bands","sign"] ["side","top"] (aB mZ):=⟨rfl,rfl,rfl,by trivial,rfl,by trivial,by trivial⟩
theorem qj (T:Txt K mg):Has P w K mg base 18 "balanced" ["side","top"] (aam mg):=by
 have cG:=cG (P:=P) (w:=w) (base:=base) T;have kY:=kY (P:=P) (w:=w) (base:=base) T;have iY:=iY (P:=P) (w:=w) (base:=base) T;have nq:=nq (P:=P) (w:=w) (base:=base) T;have lg:=lg (P:=P) (w:=w) (base:=base) T;refine eO T.d_balanced rK (fun _ _ _ _ _ _ us hl=>L2.mJ (fun _ _=>rfl) us hl) ?_ fun f cdv A outer s H vs Q E hr h=>?_
 ·rintro vs H Q E ⟨side,top,rfl,_⟩;rfl
 obtain ⟨side,top,rfl,rs,rt,q⟩:=h;have hu:=hr.units0;have hu64:=hr.units;apply ⟨_,(aA (aO (aK cG (hr.mono (by decide)) aU (aa (aq 0) (aa (aq 1) ao)) (by trivial))) (aA (bQ (mU (mR (bh (fH (K:=K) rfl hu64) (aq 0) qt (by walk_at "p")) (mQ (bh (fH (K:=K) rfl hu64) (aq 1) qt (by walk_at "p"))))) (aC (aL (nZ T.o_Blank kY (hr.mono (by decide)) aU (mW fun _ _=>rfl) (aa (aq 0) (aa (aq 1) ao)) (by trivial)))) bj) (aA (aM (i:=2) rK.nd rfl YD Jg rfl) (aA (eN AaF rfl (dR (K:=K) rfl (aq 0)) (bB (i:=3) rK.nd rfl YD rfl) (aC (bQ (bh (Lh (K:=K) rfl hu64) (iC 3) (iC 2) (by walk_at "p")) (aC (nY (ts:=vd) (aK iY (hr.mono (by decide)) aU (aa (jJ (sub:=[none,some 3]) (d8 (N:=["side","top","bands","sign"]) (sc:=aB mZ) (N':=["other","sign"]) (by trivial)) rfl rfl rfl (dR (K:=K) rfl (aq 1)) (fun C s₀ H₀ ex=>(qI 0 (by trivial) zX)) (fun C s₀ H₀ ex=>gW) (fun C s₀ H₀ ex=>(Py (mg:=mg) rfl T.o_One nq (hr.mono (by decide)) (RZ (by trivial)) (mW fun _ _=>rfl) (aa (mj 1 (by trivial)) (aa (kh 0 (by trivial)) ao)) (by trivial)))) ao) (by trivial)) (qJ (iC 2) (iC 3) (pL hu64)))) bj))) (aC (aL (aK lg (hr.mono (by decide)) aU (aa (jJ (sub:=[none,some 2]) (d8 (N:=["side","top","bands","sign"]) (sc:=aB mZ) (N':=["sign","bands"]) (by trivial)) rfl rfl rfl (dR (K:=K) rfl (aq 0)) (fun C s₀ H₀ ex=>(qI 0 (by trivial) zW)) (fun C s₀ H₀ ex=>gW) (fun C s₀ H₀ ex=>(Xv hu64 (mj 1 (by trivial)) (kh 0 (by trivial))))) ao) (by trivial)))))))),?_⟩;have hz:20000<=sizeLine:=by decide
 have l1:=rs.1;have l2:=rt.1;have el1:side.length=side.cps.size:=rfl;have el2:top.length=top.cps.size:=rfl;apply ⟨side,top,rfl,rs,rt,fun H1 S1=>?_⟩;by_cases h0:side.cps.size=0
 ·rw [Aar (show V.str side=V.str (Str.ofString "") by rw [sW.mpr h0])]
  show if true=true then _ else _
  walk_at "s";refine FZ (.of S1) rs rt (.inl h0) fun x H2 S2 p2 g2=>?_
  exact q x 0 H2 (S1.trans S2) (by omega) g2
 rw [Aao (show ¬ V.str side=V.str (Str.ofString "") from fun z=>h0 (sW.mp (V.str.inj z)))];show if false=true then _ else _
 walk_at "s";by_cases h1:top.cps.size=0
 ·rw [Aar (show V.str top=V.str (Str.ofString "") by rw [sW.mpr h1])]
  walk_at "s";refine FZ (.of S1) rs rt (.inr h1) fun x H2 S2 p2 g2=>?_
  exact q x 0 H2 (S1.trans S2) (by omega) g2
 rw [Aao (show ¬ V.str top=V.str (Str.ofString "") from fun z=>h1 (sW.mp (V.str.inj z)))];walk_at "s";intro d nd;have nd0:=Same.back S1 nd;have S2:=S1.trans ((Same.refl H1).upd nd (o:=.dK []));have hd2:=aj (H:=H1) (a:=d) (o:=.dK []);generalize upd H1 d (.dK [])=H2 at S2 hd2 ⊢;walk_at "s";refine .inr (.inr ⟨side,rfl,?_⟩);refine IV (fun i U G=>Same H G/\(∃ kvs,G d=some (.dK kvs)/\kvs.length<=i/\(∀ c v,lA kvs (Sum.inr ⟨#[c]⟩)=some v->∃ x h,v= .ref x/\h<=6/\GP mg H G x ⟨#[c]⟩ top h)/\(∀ j c,j < i->side.cps.toList[j]?=some c->∃ v,lA kvs (Sum.inr ⟨#[c]⟩)=some v))/\∃ x3,U=[some (.str side),some (.str top),some (.ref d),x3]) ⟨S2,⟨[],hd2,Aad _,(fun c v h=>by cases h),fun j c h=>absurd h (Nat.not_lt_zero _)⟩,_,rfl⟩ ?_ ?_
 ·rintro i U G c hc ⟨s,⟨kvs,hd,hkl,hg,hk⟩,x3,rfl⟩
  have hi:i < side.cps.size:=by simpa using (Aab.mp hc).1
  have hcg:c∈GOOD:=rs.2 c (Aai hc);walk_at "s";refine .inr ⟨d,_,rfl,DGet.k (k:=Sum.inr ⟨#[c]⟩) hd,?_⟩;cases hv:lA kvs (Sum.inr ⟨#[c]⟩) with
  | some v=>
   rw [show (!(some v).isSome)=false from rfl];walk_at "s";refine ⟨s,⟨kvs,hd,by omega,hg,fun j c' hj hc'=>?_⟩,_,rfl⟩;by_cases hji:j < i
   ·exact hk j c' hji hc'
   ·obtain rfl:j=i:=by omega
    rw [hc] at hc';cases hc';exact ⟨v,hv⟩
  | none=>
   rw [show (!(none:Option V).isSome)=true from rfl];walk_at "s";refine .inr (.inr ⟨top,rfl,?_⟩);refine v8 (fun i zs J=>Same G J/\∃ xs:List Addr,zs=xs.map V.ref/\xs.length=i/\∀ (j:Nat) (x:Addr) (t:Str),xs[j]?=some x->(tV top)[j]?=some t->∃ h,h<=0/\GP mg H J x ⟨#[c]⟩ t h) (by omega) ⟨Same.refl G,[],rfl,rfl,fun j x t e=>by cases e⟩ ?_ ?_ ?_
   ·rintro i zs J ⟨_,xs,rfl,e,_⟩
    rw [Aaf];omega
   ·rintro i zs J t ht ⟨sJ,xs,rfl,e,hx⟩
    walk_at "s";apply ⟨KeepSt.set rfl,?_⟩;refine XX (.of (s.trans sJ)) hcg (rt.2 t (Aai ht)) fun x J2 T2 p2 g2=>?_
    refine ⟨sJ.trans T2,xs ++ [x],by rw [Aau];rfl,by simp;omega,fun j x' t' e1 e2=>?_⟩;by_cases hj:j < xs.length
    ·rw [Aaw hj] at e1
     obtain ⟨h,h1,h2⟩:=hx j x' t' e1 e2;exact ⟨h,h1,h2.same T2⟩
    ·have hj2:j < xs.length+1:=by have:=(Aab.mp e1).1;simpa using this
     obtain rfl:j=xs.length:=by omega
     rw [Aas (by omega),Abt] at e1;cases e1;subst e;rw [JL ht] at e2;cases e2;exact ⟨0,Aad _,g2⟩
   rintro zs J D J2 ⟨sJ,xs,rfl,e,hx⟩ nD T2 hD;try walk_at "s"
   refine ⟨D,xs,⟨#[c]⟩,tV top,0,H,rfl,.of (s.trans (sJ.trans T2)),hD,by rw [Ge];exact e,by omega,Aay (by omega:xs.length<=48) (by decide),by rw [sV];exact l2,(fun j x t e1 e2=>by
    obtain ⟨h,h1,h2⟩:=hx j x t e1 e2;exact ⟨h,h1,h2.same T2⟩),fun x h J3 T3 hh g3=>?_⟩
   rw [sV] at g3;have W3:=sJ.trans (T2.trans T3);have hd3:=W3 _ _ hd;try walk_at "s"
   refine .inr ⟨d,_,rfl,DPut.k (k:=Sum.inr ⟨#[c]⟩) hd3 (by omega),?_⟩;try walk_at "s"
   have lk:=lB kvs (Sum.inr ⟨#[c]⟩:Key) (V.ref x);refine ⟨Same.put (s.trans W3) nd0,⟨_,aj,by omega,(fun c' v hv'=>?_),fun j c' hj hc'=>?_⟩,_,rfl⟩
   ·rw [uW] at hv'
    split at hv'
    ·rename_i e1
     cases hv';have:=Sum.inr.inj e1;rw [this];exact ⟨x,h,rfl,by omega,g3.put hd3 nd0⟩
    ·obtain ⟨x',h',e1,e2,e3⟩:=hg c' v hv'
     exact ⟨x',h',e1,e2,(e3.same W3).put hd3 nd0⟩
   ·rw [uW]
    split
    ·exact ⟨_,rfl⟩
    ·rename_i e1
     by_cases hji:j < i
     ·exact hk j c' hji hc'
     ·obtain rfl:j=i:=by omega
      rw [hc] at hc';cases hc';exact absurd rfl e1
 ·rintro U G ⟨s,⟨kvs,hd,hkl,hg,hk⟩,x3,rfl⟩
  walk_at "s";refine .inr (.inr ⟨side,rfl,?_⟩);refine v8 (fun i zs J=>J=G/\∃ xs:List Addr,zs=xs.map V.ref/\xs.length=i/\∀ (j:Nat) (x:Addr) (t:Str),xs[j]?=some x->(tV side)[j]?=some t->∃ h,h<=6/\GP mg H J x t top h) (by omega) ⟨rfl,[],rfl,rfl,fun j x t e=>by cases e⟩ ?_ ?_ ?_
  ·rintro i zs J ⟨_,xs,rfl,e,_⟩
   rw [Aaf];omega
  ·rintro i zs J c hc ⟨rfl,xs,rfl,e,hx⟩
   have hi:i < side.cps.size:=by simpa using (Aab.mp hc).1
   obtain ⟨v,hv⟩:=hk i c (by show i < side.cps.size;exact hi) hc;obtain ⟨x,h,rfl,h6,g⟩:=hg c v hv;have hgt:=DGet.k (k:=Sum.inr ⟨#[c]⟩) hd;rw [hv] at hgt;walk_at "s";apply ⟨KeepSt.set rfl,?_⟩;refine ⟨d,_,rfl,hgt,?_⟩;refine ⟨rfl,xs ++ [x],by rw [Aau];rfl,by simp;omega,fun j x' t' e1 e2=>?_⟩;by_cases hj:j < xs.length
   ·rw [Aaw hj] at e1
    exact hx j x' t' e1 e2
   ·have hj2:j < xs.length+1:=by have:=(Aab.mp e1).1;simpa using this
    obtain rfl:j=xs.length:=by omega
    rw [Aas (by omega),Abt] at e1;cases e1;subst e;rw [JL hc] at e2;cases e2;exact ⟨h,h6,g⟩
  rintro zs J D J2 ⟨rfl,xs,rfl,e,hx⟩ nD T2 hD;try walk_at "s"
  refine ⟨D,xs,top,tV side,6,H,rfl,.of (s.trans T2),hD,by rw [Ge];exact e,by omega,Aay (by omega:xs.length<=48) (by decide),by rw [sV];exact l1,(fun j x t e1 e2=>by
   obtain ⟨h,h1,h2⟩:=hx j x t e1 e2;exact ⟨h,h1,h2.same T2⟩),fun x h J3 T3 hh g3=>?_⟩
  rw [sV] at g3;exact q x h J3 (s.trans (T2.trans T3)) (by omega) g3
end
local macro_rules | `(tactic| walk_at "s") => `(tactic| (with_reducible repeat (first | refine lZ ?_ | walk_at "5")))
local macro_rules | `(tactic| walk_at "n") => `(tactic| (with_reducible repeat (walk_at "5")))
section
variable {P:Program} {w:World} {K:W.Frag} {mg:Str->Option Value} {base:Heap}
theorem Gf:(["end","behind","line_end"]:List Str).Nodup:=by trivial
def HN (t:List Nat) (b e:Nat):Nat:=(t.drop b).countP fun x=>decide (x < e)
def Di (t:List Nat) (b:Nat):List Int:=(List.range (t.length+1)).map fun e=>((HN t b e:Nat):Int)
theorem HQ {t:List Nat} {b e:Nat} {j:Int} (hj:j=(e:Int)) (h:e<=t.length):zE ((Di t b).map V.int) j=some (.int ((HN t b e:Nat):Int)):=by
 subst hj;refine jG ?_;unfold Di;rw [Aah,Aah,Aat (by omega)];rfl
theorem Gg {t:List Nat} {b x:Nat} (h:t[b]?=some x) (e:Nat):HN t b e=HN t (b+1) e+if x < e then 1 else 0:=by
 obtain ⟨hb,hx⟩:=Aab.mp h;unfold HN;rw [List.drop_eq_getElem_cons hb,List.countP_cons,hx];by_cases c:x < e
 ·rw [if_pos (by simpa using c),if_pos c]
 ·rw [if_neg (by simpa using c),if_neg c]
theorem Uj (t:List Nat) (e:Nat):HN t t.length e=0:=by unfold HN;rw [List.drop_length];rfl
def CT (H:Hp) (rs:List V) (n:Nat) (f:Nat->List Int):Prop:=rs.length=n/\∀ k,k < n->∃ a,rs[k]?=some (.ref a)/\H a=some (.lst ((f k).map V.int))
theorem CT.same {H H':Hp} {rs:List V} {n:Nat} {f:Nat->List Int} (h:CT H rs n f) (s:Same H H'):CT H' rs n f:=⟨h.1,fun k hk=>by
 obtain ⟨a,e,ha⟩:=h.2 k hk;exact ⟨a,e,s _ _ ha⟩⟩
theorem CT.push {H:Hp} {rs:List V} {n:Nat} {f:Nat->List Int} {a:Addr} (h:CT H rs n f) (ha:H a=some (.lst ((f n).map V.int))):CT H (rs ++ [.ref a]) (n+1) f:=⟨by rw [AaR,h.1];rfl,fun k hk=>by
 by_cases e:k=n
 ·subst e
  exact ⟨a,by rw [Aas (by rw [h.1];exact Aad _),h.1,Abt];rfl,ha⟩
 ·obtain ⟨b,e1,hb⟩:=h.2 k (by omega)
  exact ⟨b,by rw [Aaw (by rw [h.1];omega)];exact e1,hb⟩⟩
theorem CT.rev {H:Hp} {rs:List V} {n:Nat} {f:Nat->List Int} (h:CT H rs n f):CT H rs.reverse n fun k=>f (n - 1 - k):=⟨by rw [AbQ];exact h.1,fun k hk=>by
 obtain ⟨a,e,ha⟩:=h.2 (n - 1 - k) (by omega);exact ⟨a,by rw [List.getElem?_reverse (by rw [h.1];exact hk),h.1];exact e,ha⟩⟩
def QH:Sp:=fun vs H Q _=>∃ (a:Addr) (t:List Nat),vs=[.ref a]/\Tn H a t/\Prm t/\∀ q rs H',H q=none->Same H H'->H' q=some (.lst rs)->CT H' rs (t.length+1) (Di t)->(∀ r,V.ref r∈rs->H r=none)->Q (.ref q) H'
theorem pB:aG ["turning","many","table","line_end","behind"] ["turning"] (aB vp):=⟨rfl,rfl,rfl,by trivial,rfl,by trivial,by trivial⟩
theorem zj (T:Txt K mg):Has P w K mg base 5 "counts" ["turning"] QH:=by
 have bz:=bz (P:=P) (w:=w) (base:=base) T;refine eO T.d_counts pB (fun _ _ _ _ _ _ us hl=>L2.jE (fun _=>rfl) us hl) ?_ fun f cdv A outer s H vs Q E hr h=>?_
 ·rintro vs H Q E ⟨a,t,rfl,_⟩;rfl
 obtain ⟨a,t,rfl,ha,hP,q⟩:=h;have hu:=hr.units0;have hu64:=hr.units;apply ⟨_,(aA (aO (aK bz (hr.mono (by decide)) aU (aa (aq 0) ao) (by trivial))) (aA (aM (i:=1) pB.nd rfl dI (aJ (aH (K:=K) rfl) aU T.b_len aR (aa (aq 0) ao) (by trivial) (by trivial)) rfl) (aA (aM (i:=2) pB.nd rfl dI (gJ (aa (aY nQ (gJ (aa aF ao)) (aY aQ (aq 1) aF)) ao)) rfl) (aA (eN AaF rfl (Tc (K:=K) rfl aU T.b_reversed (aq 0)) (bB (i:=3) pB.nd rfl YD rfl) (aA (aM (i:=4) pB.nd rfl YD (bT (K:=K) rfl (aq 2) (vZ kj aF)) rfl) (aC (aO (je (K:=K) rfl AaB AaC AaD dF (aq 2) (aa (jJ (sub:=[none,some 4,some 3]) (d8 (N:=["turning","many","table","line_end","behind"]) (sc:=aB vp) (N':=["end","behind","line_end"]) (by trivial)) rfl rfl rfl (km aU T.b_range (aa (aY aQ (aq 1) aF) ao)) (fun C s₀ H₀ ex=>(qI 0 (by trivial) Gf)) (fun C s₀ H₀ ex=>gW) (fun C s₀ H₀ ex=>(aY aQ (bT (K:=K) rfl (mj 1 (by trivial)) (kh 0 (by trivial))) (ZC (bh DY (mj 2 (by trivial)) (kh 0 (by trivial)) (by walk_at "p")) aF aF)))) ao)))))) (aC (aL (v4 (K:=K) rfl rfl aU T.b_list aU T.b_reversed (aq 2)))))))),?_⟩;have hsz:20000<=sizeLine:=by decide
 have hle:=hP.le;apply ⟨a,t,rfl,ha,hP,fun H1 S1=>?_⟩;have hlen:∀ (n:Nat),n=t.length->n=t.length:=fun _ h=>h
 have step:∀ (R:V->Hp->Prop),R (.int (t.length:Int)) H1->KZ K [.ref a] H1 R:=fun R hR=>by
  rcases ha.same S1 with h | h
  ·refine d9 (SqL.of h) ?_
   rw [bw];exact hR
  ·refine vY (SqT.of h) ?_
   rw [bw];exact hR
 apply step _ ?_;apply b8 rfl fun p0 H2 _ S2 f2=>?_
 refine Cd f2 (by omega) (by omega) (by simp;omega) fun p1 np1=>?_
 have S3:=(Same.refl H2).upd np1 (o:=.lst (List.replicate ((t.length:Int)+1).toNat [V.int 0]).flatten);have f3:=aj (H:=H2) (a:=p1) (o:=.lst (List.replicate ((t.length:Int)+1).toNat [V.int 0]).flatten);generalize upd H2 p1 (.lst (List.replicate ((t.length:Int)+1).toNat [V.int 0]).flatten)=H3 at S3 f3 ⊢
 have f3':H3 p1=some (.lst ((Di t (t.length - 0)).map V.int)):=by
  rw [f3,show ((t.length:Int)+1).toNat=t.length+1 by omega]
  congr 2
  unfold Di;rw [AbX]
  have:∀ n,(List.replicate n [V.int 0]).flatten=(List.range n).map fun _=>V.int 0:=fun n=>by
   induction n with
   | zero=>rfl
   | succ n ih=>rw [List.replicate_succ',List.flatten_append,ih,Abn,Aau];rfl
  rw [this];refine AbO fun e _=>?_
  show V.int 0=V.int ((HN t (t.length - 0) e:Nat):Int);rw [Nat.sub_zero,Uj];rfl
 walk_at "s";apply b8 rfl fun tb H4 ntb S4 f4=>?_
 have U4:=S1.trans (S2.trans (S3.trans S4))
 have ntb0:H tb=none:=by
  have:=Same.back (S1.trans (S2.trans S3)) ntb;exact this
 have C4:CT H4 [.ref p1] (0+1) fun k=>Di t (t.length - k):=⟨rfl,fun k hk=>by
  obtain rfl:k=0:=by omega
  exact ⟨p1,rfl,S4 _ _ f3'⟩⟩
 have N4:∀ r,V.ref r∈[V.ref p1]->H r=none:=fun r hr=>by
  simp only [Aaj,AaN,or_false] at hr;cases hr;exact Same.back (S1.trans S2) np1
 rcases ha with ha | ha
 ·refine .inl ⟨a,_,rfl,SqL.of (U4 _ _ ha),?_⟩
  refine Td (xs:=(nI t).map V.int) (fun i U G=>Same H G/\(∃ rs,G tb=some (.lst rs)/\(CT G rs (i+1) fun k=>Di t (t.length - k))/\∀ r,V.ref r∈rs->H r=none)/\∃ x3 x4,U=[some (.ref a),some (.int (t.length:Int)),some (.ref tb),x3,x4])
   ⟨U4,⟨_,f4,C4,N4⟩,_,_,rfl⟩ (fun i U G _ h=>SqL.of (h.1 _ _ ha)) ?_ ?_
  ·rintro i x U G hi hx ⟨sG,⟨rs,htb,hC,hN⟩,x3,x4,rfl⟩
   rw [bw] at hi;rw [bw] at hx;obtain ⟨le,hle2,rfl⟩:=Bh hx;obtain ⟨pb,epb,hpb⟩:=hC.2 i (by omega);have hrl:rs.length=i+1:=hC.1;walk_at "s";apply bc (SqL.of htb) (Z4 (n:=i) hrl epb) ?_;apply ⟨.inl ⟨rfl,_,SqL.of htb⟩,?_⟩;refine ⟨_,rfl,by omega,by omega,?_⟩;rw [show ((t.length:Int)+1).toNat=t.length+1 by omega];refine v9 (n:=t.length+1) (fun e=>.int ((HN t (t.length - (i+1)) e:Nat):Int)) (by omega) ?_ ?_
   ·intro e he
    have ec:=Gg (t:=t) (b:=t.length - (i+1)) (x:=le) (by rw [show t.length - (i+1)=t.length - 1 - i by omega];exact hle2) e;rw [show t.length - (i+1)+1=t.length - i by omega] at ec;rw [Int.zero_add];walk_at "s";apply ⟨KeepSt.set rfl,?_⟩;apply bc (SqL.of hpb) (HQ rfl (by omega)) ?_;refine qG (fun h=>?_) (fun h=>?_)
    ·walk_at "s"
     exact ⟨rfl,vh (by rw [ec,if_pos (by omega)];rfl)⟩
    ·walk_at "s"
     exact ⟨rfl,vh (by rw [ec,if_neg (by omega)];rfl)⟩
   ·intro nw G2 nnw s2 hnw
    walk_at "s";apply dG (s2 _ _ htb) (by omega) ?_
    have hnw':G2 nw=some (.lst ((Di t (t.length - (i+1))).map V.int)):=by
     rw [hnw];unfold Di;rw [AbX];rfl
    have hne:∀ {b:Addr} {xs:List V},G2 b=some (.lst xs)->True:=fun _=>trivial
    have C2:=(hC.same s2).push hnw'
    refine ⟨Same.put (sG.trans s2) ntb0,⟨_,aj,⟨C2.1,fun k hk=>?_⟩,fun r hr=>(Aaz.mp hr).elim (hN r) fun hr=>by
     simp only [Aaj,AaN,or_false] at hr;cases hr;exact Same.back sG nnw⟩,_,_,rfl⟩
    obtain ⟨b,e1,hb⟩:=C2.2 k hk;refine ⟨b,e1,?_⟩;rw [aD (fun z=>?_)]
    ·exact hb
    ·rw [z,s2 _ _ htb] at hb
     have e0:rs=(Di t (t.length - k)).map V.int:=by injection hb with hb;injection hb
     obtain ⟨a0,ea0,_⟩:=hC.2 0 (by omega);rw [e0,Aah] at ea0;cases hq:(Di t (t.length - k))[0]? with
     | none=>rw [hq] at ea0;cases ea0
     | some v=>rw [hq] at ea0;cases ea0
  ·rintro U G ⟨sG,⟨rs,htb,hC,hN⟩,x3,x4,rfl⟩
   rw [bw] at hC;walk_at "s";refine ⟨_,rfl,tb,rs,rfl,SqL.of htb,fun qq nqq=>?_⟩;have s5:=(Same.refl G).upd nqq (o:=.lst rs.reverse);refine q qq rs.reverse _ (Same.back sG nqq) (sG.trans s5) aj ?_ fun r hr=>hN r (AbU.mp hr)
   have:=hC.rev.same s5;refine ⟨this.1,fun k hk=>?_⟩;obtain ⟨b,e1,hb⟩:=this.2 k hk;refine ⟨b,e1,?_⟩;rw [hb];show some (HO.lst (List.map V.int (Di t (t.length - (t.length+1 - 1 - k)))))=_;rw [show t.length - (t.length+1 - 1 - k)=k by omega]
 ·refine .inr ⟨a,_,rfl,SqT.of (U4 _ _ ha),by rw [bw];omega,?_⟩
  refine Te (xs:=(nI t).map V.int) (by rw [bw];omega) (fun i U G=>Same H G/\(∃ rs,G tb=some (.lst rs)/\(CT G rs (i+1) fun k=>Di t (t.length - k))/\∀ r,V.ref r∈rs->H r=none)/\∃ x3 x4,U=[some (.ref a),some (.int (t.length:Int)),some (.ref tb),x3,x4])
   ⟨U4,⟨_,f4,C4,N4⟩,_,_,rfl⟩ (fun i U G _ h=>SqT.of (h.1 _ _ ha)) ?_ ?_
  ·rintro i x U G hi hx ⟨sG,⟨rs,htb,hC,hN⟩,x3,x4,rfl⟩
   rw [bw] at hi;rw [bw] at hx;obtain ⟨le,hle2,rfl⟩:=Bh hx;obtain ⟨pb,epb,hpb⟩:=hC.2 i (by omega);have hrl:rs.length=i+1:=hC.1;walk_at "s";apply bc (SqL.of htb) (Z4 (n:=i) hrl epb) ?_;apply ⟨.inl ⟨rfl,_,SqL.of htb⟩,?_⟩;refine ⟨_,rfl,by omega,by omega,?_⟩;rw [show ((t.length:Int)+1).toNat=t.length+1 by omega];refine v9 (n:=t.length+1) (fun e=>.int ((HN t (t.length - (i+1)) e:Nat):Int)) (by omega) ?_ ?_
   ·intro e he
    have ec:=Gg (t:=t) (b:=t.length - (i+1)) (x:=le) (by rw [show t.length - (i+1)=t.length - 1 - i by omega];exact hle2) e;rw [show t.length - (i+1)+1=t.length - i by omega] at ec;rw [Int.zero_add];walk_at "s";apply ⟨KeepSt.set rfl,?_⟩;apply bc (SqL.of hpb) (HQ rfl (by omega)) ?_;refine qG (fun h=>?_) (fun h=>?_)
    ·walk_at "s"
     exact ⟨rfl,vh (by rw [ec,if_pos (by omega)];rfl)⟩
    ·walk_at "s"
     exact ⟨rfl,vh (by rw [ec,if_neg (by omega)];rfl)⟩
   ·intro nw G2 nnw s2 hnw
    walk_at "s";apply dG (s2 _ _ htb) (by omega) ?_
    have hnw':G2 nw=some (.lst ((Di t (t.length - (i+1))).map V.int)):=by
     rw [hnw];unfold Di;rw [AbX];rfl
    have hne:∀ {b:Addr} {xs:List V},G2 b=some (.lst xs)->True:=fun _=>trivial
    have C2:=(hC.same s2).push hnw'
    refine ⟨Same.put (sG.trans s2) ntb0,⟨_,aj,⟨C2.1,fun k hk=>?_⟩,fun r hr=>(Aaz.mp hr).elim (hN r) fun hr=>by
     simp only [Aaj,AaN,or_false] at hr;cases hr;exact Same.back sG nnw⟩,_,_,rfl⟩
    obtain ⟨b,e1,hb⟩:=C2.2 k hk;refine ⟨b,e1,?_⟩;rw [aD (fun z=>?_)]
    ·exact hb
    ·rw [z,s2 _ _ htb] at hb
     have e0:rs=(Di t (t.length - k)).map V.int:=by injection hb with hb;injection hb
     obtain ⟨a0,ea0,_⟩:=hC.2 0 (by omega);rw [e0,Aah] at ea0;cases hq:(Di t (t.length - k))[0]? with
     | none=>rw [hq] at ea0;cases ea0
     | some v=>rw [hq] at ea0;cases ea0
  ·rintro U G ⟨sG,⟨rs,htb,hC,hN⟩,x3,x4,rfl⟩
   rw [bw] at hC;walk_at "s";refine ⟨_,rfl,tb,rs,rfl,SqL.of htb,fun qq nqq=>?_⟩;have s5:=(Same.refl G).upd nqq (o:=.lst rs.reverse);refine q qq rs.reverse _ (Same.back sG nqq) (sG.trans s5) aj ?_ fun r hr=>hN r (AbU.mp hr)
   have:=hC.rev.same s5;refine ⟨this.1,fun k hk=>?_⟩;obtain ⟨b,e1,hb⟩:=this.2 k hk;refine ⟨b,e1,?_⟩;rw [hb];show some (HO.lst (List.map V.int (Di t (t.length - (t.length+1 - 1 - k)))))=_;rw [show t.length - (t.length+1 - 1 - k)=k by omega]
end
local macro_rules | `(tactic| walk_at "s") => `(tactic| (with_reducible repeat (first | refine lZ ?_ | walk_at "3")))
local macro_rules | `(tactic| walk_at "n") => `(tactic| (with_reducible repeat (walk_at "3")))
section
variable {P:Program} {w:World} {K:W.Frag} {mg:Str->Option Value} {base:Heap}
def tyF (ae ac:Addr):List (Str×V):=[("held_ends",.ref ae),("held_counts",.ref ac)]
structure TyO (H:Hp) (t:List Nat) (ae ac:Addr) (rs:List V):Prop where
 ends:H ae=some (.lst ((nI t).map V.int))
 cnts:H ac=some (.lst rs)
 rows:CT H rs (t.length+1) (Di t)
theorem TyO.same {H H':Hp} {t:List Nat} {ae ac:Addr} {rs:List V} (h:TyO H t ae ac rs) (s:Same H H'):TyO H' t ae ac rs:=⟨s _ _ h.ends,s _ _ h.cnts,h.rows.same s⟩
def Ty (mg:Str->Option Value) (H:Hp) (x:Addr) (t:List Nat):Prop:=Prm t/\∃ dx ae ac rs,H x=some (.ins (aN mg "Tally") dx (tyF ae ac))/\TyO H t ae ac rs
theorem Ty.same {H H':Hp} {x:Addr} {t:List Nat} (h:Ty mg H x t) (s:Same H H'):Ty mg H' x t:=by
 obtain ⟨hP,dx,ae,ac,rs,hx,hO⟩:=h;exact ⟨hP,dx,ae,ac,rs,s _ _ hx,hO.same s⟩
def TyD (mg:Str->Option Value) (D:Addr->Prop) (H:Hp) (x:Addr) (t:List Nat):Prop:=Prm t/\∃ dx ae ac rs,H x=some (.ins (aN mg "Tally") dx (tyF ae ac))/\TyO H t ae ac rs/\¬ D x/\¬ D ae/\¬ D ac/\∀ r,V.ref r∈rs->¬ D r
theorem TyD.ty {H:Hp} {D:Addr->Prop} {x:Addr} {t:List Nat} (h:TyD mg D H x t):Ty mg H x t:=by
 obtain ⟨hP,dx,ae,ac,rs,hx,hO,_⟩:=h;exact ⟨hP,dx,ae,ac,rs,hx,hO⟩
theorem TyD.sub {H:Hp} {D D':Addr->Prop} {x:Addr} {t:List Nat} (h:TyD mg D H x t) (s:∀ g,D' g->D g):TyD mg D' H x t:=by
 obtain ⟨hP,dx,ae,ac,rs,hx,hO,n1,n2,n3,n4⟩:=h;exact ⟨hP,dx,ae,ac,rs,hx,hO,fun z=>n1 (s _ z),fun z=>n2 (s _ z),fun z=>n3 (s _ z),fun r hr z=>n4 r hr (s _ z)⟩
theorem neD {D:Addr->Prop} {x g:Addr} (h:¬ D x) (hg:D g):x≠g:=fun z=>h (by rw [z];exact hg)
theorem TyD.put {H:Hp} {D:Addr->Prop} {g x:Addr} {t:List Nat} {o:HO} (h:TyD mg D H x t) (hg:D g):TyD mg D (upd H g o) x t:=by
 obtain ⟨hP,dx,ae,ac,rs,hx,hO,n1,n2,n3,n4⟩:=h;refine ⟨hP,dx,ae,ac,rs,by rw [aD (neD n1 hg)];exact hx,⟨by rw [aD (neD n2 hg)];exact hO.ends,by rw [aD (neD n3 hg)];exact hO.cnts,hO.rows.1,fun k hk=>?_⟩,n1,n2,n3,n4⟩;obtain ⟨b,e,hb⟩:=hO.rows.2 k hk;exact ⟨b,e,by rw [aD (neD (n4 b (Aai e)) hg)];exact hb⟩
def Uk (mg:Str->Option Value):Sp:=fun vs H Q _=>∃ (x dx a:Addr) (t:List Nat),vs=[.ref x,.ref a]/\H x=some (.ins (aN mg "Tally") dx [])/\Tn H a t/\Prm t/\∀ H',Chg x H H'->TyD mg (fun g=>g≠x/\∃ o,H g=some o) H' x t->Q .non H'
theorem vC:aG ["self","turning"] ["self","turning"] (aB kO):=⟨rfl,rfl,rfl,by trivial,rfl,by trivial,by trivial⟩
theorem lq (T:Txt K mg):lD P w K mg base 6 "Tally" "__init__" ["self","turning"] (Uk mg):=by
 have bz:=bz (P:=P) (w:=w) (base:=base) T;have zj:=zj (P:=P) (w:=w) (base:=base) T;refine pM T.m_Tally___init__ vC (fun _ _ _ _ _ _ us hl=>L2.mJ (fun _ _=>rfl) us hl) ?_ fun f cdv A outer s H vs Q E hr h=>?_
 ·rintro vs H Q E ⟨x,dx,a,t,rfl,_⟩;rfl
 obtain ⟨x,dx,a,t,rfl,hx,ha,hP,q⟩:=h;apply ⟨_,(aA (aO (aK bz (hr.mono (by decide)) aU (aa (aq 1) ao) (by trivial))) (aA (kI (K:=K) rfl (aq 0) (qH (mO (K:=K) rfl rfl) aU T.b_list jH (aa (aq 1) ao) (by trivial) (by trivial))) (aC (kI (K:=K) rfl (aq 0) (aK zj (hr.mono (by decide)) aU (aa (aq 1) ao) (by trivial)))))),?_⟩;have hsz:20000<=sizeLine:=by decide
 have cl:=T.o_Tally.cl;have na:=T.n_Tally;apply ⟨a,t,rfl,ha,hP,fun H1 S1=>?_⟩;refine .inl ⟨a,(nI t).map V.int,rfl,(ha.same S1).imp SqL.of SqT.of,fun ae nae=>?_⟩;have S2:=(Same.refl H1).upd nae (o:=.lst ((nI t).map V.int));have f2:=aj (H:=H1) (a:=ae) (o:=.lst ((nI t).map V.int));generalize upd H1 ae (.lst ((nI t).map V.int))=H2 at S2 f2 ⊢;have U2:=S1.trans S2;have hx2:=U2 _ _ hx
 have nx:∀ {G:Hp} {b:Addr} {fs:List (Str×V)} {us:List V},G x=some (.ins (aN mg "Tally") dx fs)->(G b=some (.lst us)\/G b=some (.tup us))->b≠x:=fun {G b fs us} h1 h2 z=>by
  rw [z,h1] at h2;rcases h2 with h2 | h2 <;> cases h2
 walk_at "s";apply ⟨x,_,dx,_,rfl,hx2,cl,na _ (by simp),by simp,?_⟩;rw [jQ (by show ([]:List Str).contains "held_ends"=false;trivial)];have hx3:=aj (H:=H2) (a:=x) (o:=.ins (aN mg "Tally") dx (([]:List (Str×V)) ++ ([("held_ends",.ref ae)]:List (Str×V))));have C3:Chg x H2 (upd H2 x (.ins (aN mg "Tally") dx (([]:List (Str×V)) ++ ([("held_ends",.ref ae)]:List (Str×V))))):=Chg.put (Chg.refl x H2);generalize upd H2 x (.ins (aN mg "Tally") dx (([]:List (Str×V)) ++ ([("held_ends",.ref ae)]:List (Str×V))))=H3 at hx3 C3 ⊢;replace hx3:H3 x=some (.ins (aN mg "Tally") dx ([("held_ends",.ref ae)]:List (Str×V))):=hx3;have ha2:=ha.same U2
 have ha3:Tn H3 a t:=by
  have nxa:=nx hx2 ha2;rcases ha2 with h | h
  ·exact .inl (C3 _ _ nxa h)
  ·exact .inr (C3 _ _ nxa h)
 have f3:=C3 _ _ (nx hx2 (.inl f2)) f2;walk_at "s";apply ⟨a,t,rfl,ha3,hP,fun ac rs H4 nac S4 hac hrs hfr=>?_⟩;have hx4:=S4 _ _ hx3;apply ⟨x,_,dx,_,rfl,hx4,cl,na _ (by simp),by simp,?_⟩;rw [jQ (by show (["held_ends"]:List Str).contains "held_counts"=false;trivial)];have hx5:=aj (H:=H4) (a:=x) (o:=.ins (aN mg "Tally") dx (([("held_ends",.ref ae)]:List (Str×V)) ++ ([("held_counts",.ref ac)]:List (Str×V))));have C5:Chg x H4 (upd H4 x (.ins (aN mg "Tally") dx (([("held_ends",.ref ae)]:List (Str×V)) ++ ([("held_counts",.ref ac)]:List (Str×V))))):=Chg.put (Chg.refl x H4);generalize upd H4 x (.ins (aN mg "Tally") dx (([("held_ends",.ref ae)]:List (Str×V)) ++ ([("held_counts",.ref ac)]:List (Str×V))))=H5 at hx5 C5 ⊢
 have hO5:TyO H5 t ae ac rs:=by
  refine ⟨?_,?_,hrs.1,fun k hk=>?_⟩
  ·exact C5 _ _ (nx hx4 (.inl (S4 _ _ f3))) (S4 _ _ f3)
  ·exact C5 _ _ (nx hx4 (.inl hac)) hac
  ·obtain ⟨b,e,hb⟩:=hrs.2 k hk
   exact ⟨b,e,C5 _ _ (nx hx4 (.inl hb)) hb⟩
 refine q H5 ?_ ⟨hP,dx,ae,ac,rs,hx5,hO5,fun z=>z.1 rfl,?_,?_,fun r hr z=>?_⟩
 ·intro b o nb e
  exact C5 b o nb (S4 _ _ (C3 b o nb (U2 _ _ e)))
 ·rintro ⟨ng,o,hg⟩
  rw [S1 _ _ hg] at nae;cases nae
 ·rintro ⟨ng,o,hg⟩
  rw [C3 _ o ng (U2 _ _ hg)] at nac;cases nac
 ·obtain ⟨ng,o,hg⟩:=z
  have:=hfr r hr;rw [C3 _ o ng (U2 _ _ hg)] at this;cases this
theorem tyM {ae ac:Addr} {m:Str} (h:(["held_ends","held_counts"]:List Str).contains m=false):(tyF ae ac).lookup m=none:=by
 unfold tyF;simp only [Abg,AbM] at h;obtain ⟨h1,h2,_⟩:=h;simp only [AaK,h1,h2,List.lookup_nil]
def QJ (mg:Str->Option Value):Sp:=fun vs H Q _=>∃ (x:Addr) (t:List Nat) (b e:Nat),vs=[.ref x,.int b,.int e]/\Ty mg H x t/\b<=t.length/\e<=t.length/\Q (.int ((HN t b e:Nat):Int)) H
theorem zm:aG ["self","begin","end"] ["self","begin","end"] (aB oJ):=⟨rfl,rfl,rfl,by trivial,rfl,by trivial,by trivial⟩
theorem oR (T:Txt K mg):lD P w K mg base 4 "Tally" "below" ["self","begin","end"] (QJ mg):=by
 have bx:=bx (P:=P) (w:=w) (base:=base) T;refine pM T.m_Tally_below zm (fun _ _ _ _ _ _ us hl=>L2.pI (fun _ _ _=>rfl) us hl) ?_ fun f cdv A outer s H vs Q E hr h=>?_
 ·rintro vs H Q E ⟨x,t,b,e,rfl,_⟩;rfl
 obtain ⟨x,t,b,e,rfl,⟨hP,dx,ae,ac,rs,hx,hO⟩,hb,he,q⟩:=h;have hu:=hr.units0;have hu64:=hr.units;apply ⟨_,(aA (aO (sI bx (hr.mono (by decide)) aU aP (aa (aq 1) (aa aF (aa (aJ (aH (K:=K) rfl) aU T.b_len aR (aa (jL (K:=K) rfl (aq 0)) ao) (by trivial) (by trivial)) ao))) (by trivial))) (aA (aO (sI bx (hr.mono (by decide)) aU aP (aa (aq 2) (aa aF (aa (aJ (aH (K:=K) rfl) aU T.b_len aR (aa (jL (K:=K) rfl (aq 0)) ao) (by trivial) (by trivial)) ao))) (by trivial))) (aC (aL (bT (K:=K) rfl (bT (K:=K) rfl (jL (K:=K) rfl (aq 0)) (aq 1)) (aq 2)))))),?_⟩;have cl:=T.o_Tally.cl;have na:=T.n_Tally;apply ⟨x,_,dx,_,_,rfl,hx,cl,na _ (by simp),rfl,?_⟩;apply d9 (SqL.of hO.ends) ?_;rw [bw];walk_at "s";apply vq (by omega) (by omega) ?_;apply ⟨x,_,dx,_,_,rfl,hx,cl,na _ (by simp),rfl,?_⟩;apply d9 (SqL.of hO.ends) ?_;rw [bw];walk_at "s";apply vq (by omega) (by omega) ?_;apply ⟨x,_,dx,_,_,rfl,hx,cl,na _ (by simp),rfl,?_⟩;obtain ⟨pb,epb,hpb⟩:=hO.rows.2 b (by omega);apply bc (SqL.of hO.cnts) (jG epb) ?_;apply bc (SqL.of hpb) (HQ rfl he) ?_;exact q
theorem made {H1 H2:Hp} {x dx:Addr} {o o':HO} (nx:H1 x=none) (ndx:H1 dx=none) (c:Chg x (upd (upd H1 dx o) x o') H2):Same H1 H2:=fun b u e=>by
 have n1:b≠x:=fun z=>by rw [z,nx] at e;cases e
 have n2:b≠dx:=fun z=>by rw [z,ndx] at e;cases e
 exact c b u n1 (by rw [aD n1,aD n2];exact e)
theorem QK {H1:Hp} {x dx g:Addr} {o o' u:HO} (nx:H1 x=none) (ndx:H1 dx=none) (e:H1 g=some u):upd (upd H1 dx o) x o' g=some u/\g≠x:=by
 have n1:g≠x:=fun z=>by rw [z,nx] at e;cases e
 have n2:g≠dx:=fun z=>by rw [z,ndx] at e;cases e
 exact ⟨by rw [aD n1,aD n2];exact e,n1⟩
theorem gNe {H1:Hp} {x g:Addr} {u:HO} (nx:H1 x=none) (e:H1 g=some u):g≠x:=fun z=>by rw [z,nx] at e;cases e
def akF (ty:Addr) (m f:Nat):List (Str×V):=[("held_tally",.ref ty),("held_many",.int (m:Int)),("held_far",.int (f:Int))]
theorem akM {ty:Addr} {m' f:Nat} {m:Str} (h:(["held_tally","held_many","held_far"]:List Str).contains m=false):(akF ty m' f).lookup m=none:=by
 unfold akF;simp only [Abg,AbM] at h;obtain ⟨h1,h2,h3,_⟩:=h;simp only [AaK,h1,h2,h3,List.lookup_nil]
def Ak (mg:Str->Option Value) (H:Hp) (x:Addr) (t:List Nat) (m f:Nat):Prop:=m+f=t.length/\∃ dx ty,H x=some (.ins (aN mg "Asks") dx (akF ty m f))/\Ty mg H ty t
theorem Ak.same {H H':Hp} {x:Addr} {t:List Nat} {m f:Nat} (h:Ak mg H x t m f) (s:Same H H'):Ak mg H' x t m f:=by
 obtain ⟨hl,dx,ty,hx,hT⟩:=h;exact ⟨hl,dx,ty,s _ _ hx,hT.same s⟩
def AkD (mg:Str->Option Value) (D:Addr->Prop) (H:Hp) (x:Addr) (t:List Nat) (m f:Nat):Prop:=m+f=t.length/\∃ dx ty,H x=some (.ins (aN mg "Asks") dx (akF ty m f))/\TyD mg D H ty t/\¬ D x
theorem AkD.ak {H:Hp} {D:Addr->Prop} {x:Addr} {t:List Nat} {m f:Nat} (h:AkD mg D H x t m f):Ak mg H x t m f:=by
 obtain ⟨hl,dx,ty,hx,hT,_⟩:=h;exact ⟨hl,dx,ty,hx,hT.ty⟩
theorem AkD.sub {H:Hp} {D D':Addr->Prop} {x:Addr} {t:List Nat} {m f:Nat} (h:AkD mg D H x t m f) (s:∀ g,D' g->D g):AkD mg D' H x t m f:=by
 obtain ⟨hl,dx,ty,hx,hT,n⟩:=h;exact ⟨hl,dx,ty,hx,hT.sub s,fun z=>n (s _ z)⟩
theorem AkD.put {H:Hp} {D:Addr->Prop} {g x:Addr} {t:List Nat} {m f:Nat} {o:HO} (h:AkD mg D H x t m f) (hg:D g):AkD mg D (upd H g o) x t m f:=by
 obtain ⟨hl,dx,ty,hx,hT,n⟩:=h;exact ⟨hl,dx,ty,by rw [aD (neD n hg)];exact hx,hT.put hg,n⟩
def Ul (mg:Str->Option Value):Sp:=fun vs H Q _=>∃ (x dx a:Addr) (t:List Nat) (m f:Nat),vs=[.ref x,.ref a,.int m]/\H x=some (.ins (aN mg "Asks") dx [])/\Tn H a t/\Prm t/\m+f=t.length/\∀ H',Chg x H H'->AkD mg (fun g=>g≠x/\∃ o,H g=some o) H' x t m f->Q .non H'
theorem wJ:aG ["self","lines","many"] ["self","lines","many"] (aB lN):=⟨rfl,rfl,rfl,by trivial,rfl,by trivial,by trivial⟩
theorem lV (T:Txt K mg):lD P w K mg base 8 "Asks" "__init__" ["self","lines","many"] (Ul mg):=by
 have lq:=lq (P:=P) (w:=w) (base:=base) T;have bx:=bx (P:=P) (w:=w) (base:=base) T;refine pM T.m_Asks___init__ wJ (fun _ _ _ _ _ _ us hl=>L2.pI (fun _ _ _=>rfl) us hl) ?_ fun f cdv A outer s H vs Q E hr h=>?_
 ·rintro vs H Q E ⟨x,dx,a,t,m,f',rfl,_⟩;rfl
 obtain ⟨x,dx,a,t,m,f',rfl,hx,ha,hP,hmf,q⟩:=h;have hu:=hr.units0;have hu64:=hr.units;apply ⟨_,(aA (kI (K:=K) rfl (aq 0) (nZ T.o_Tally lq (hr.mono (by decide)) aU aP (aa (aq 1) ao) (by trivial))) (aA (aO (sI bx (hr.mono (by decide)) aU aP (aa (aq 2) (aa aF (aa (aJ (aH (K:=K) rfl) aU T.b_len aR (aa (aq 1) ao) (by trivial) (by trivial)) ao))) (by trivial))) (aA (kI (K:=K) rfl (aq 0) (aq 2)) (aC (kI (K:=K) rfl (aq 0) (aY iu (aJ (aH (K:=K) rfl) aU T.b_len aR (aa (aq 1) ao) (by trivial) (by trivial)) (aq 2))))))),?_⟩;have hsz:20000<=sizeLine:=by decide
 have cl:=T.o_Asks.cl;have na:=T.n_Asks;intro ty dty nty ndty ne;have hat:Tn (upd (upd H dty (.own ty)) ty (.ins (aN mg "Tally") dty [])) a t:=ha.imp (fun h=>(QK nty ndty h).1) (fun h=>(QK nty ndty h).1);apply ⟨ty,dty,a,t,rfl,aj,hat,hP,fun H1 c1 hT1=>⟨rfl,?_⟩⟩;have S1:=made nty ndty c1
 replace hT1:=hT1.sub (D':=fun g=>∃ o,H g=some o) (fun g hg=>by
  obtain ⟨o,hg⟩:=hg;exact ⟨gNe nty hg,o,(QK nty ndty hg).1⟩)
 clear c1;have hx1:=S1 _ _ hx
 have ax:a≠x:=fun z=>by
  rcases ha with h | h <;> rw [z,hx] at h <;> cases h
 apply ⟨x,_,dx,_,rfl,hx1,cl,na _ (by simp),by simp,?_⟩;rw [jQ (by show ([]:List Str).contains "held_tally"=false;trivial)];have hx2:=aj (H:=H1) (a:=x) (o:=.ins (aN mg "Asks") dx (([]:List (Str×V)) ++ ([("held_tally",.ref ty)]:List (Str×V))));have C2:Chg x H (upd H1 x (.ins (aN mg "Asks") dx (([]:List (Str×V)) ++ ([("held_tally",.ref ty)]:List (Str×V))))):=Chg.put (fun b o n e=>S1 _ _ e);have hT2:=hT1.put (g:=x) (o:=.ins (aN mg "Asks") dx (([]:List (Str×V)) ++ ([("held_tally",.ref ty)]:List (Str×V)))) ⟨_,hx⟩;generalize upd H1 x (.ins (aN mg "Asks") dx (([]:List (Str×V)) ++ ([("held_tally",.ref ty)]:List (Str×V))))=H2 at hx2 C2 hT2 ⊢;replace hx2:H2 x=some (.ins (aN mg "Asks") dx ([("held_tally",.ref ty)]:List (Str×V))):=hx2;have ha2:Tn H2 a t:=ha.imp (C2 _ _ ax) (C2 _ _ ax)
 have len:∀ (G:Hp) (R:V->Hp->Prop),Tn G a t->R (.int (t.length:Int)) G->KZ K [.ref a] G R:=fun G R hG hR=>by
  rcases hG with h | h
  ·refine d9 (SqL.of h) ?_
   rw [bw];exact hR
  ·refine vY (SqT.of h) ?_
   rw [bw];exact hR
 walk_at "s";apply len _ _ ha2 ?_;apply vq (by omega) (by omega) ?_;apply ⟨x,_,dx,_,rfl,hx2,cl,na _ (by simp),by simp,?_⟩;rw [jQ (by show (["held_tally"]:List Str).contains "held_many"=false;trivial)];have hx3:=aj (H:=H2) (a:=x) (o:=.ins (aN mg "Asks") dx (([("held_tally",.ref ty)]:List (Str×V)) ++ ([("held_many",.int (m:Int))]:List (Str×V))));have C3:Chg x H (upd H2 x (.ins (aN mg "Asks") dx (([("held_tally",.ref ty)]:List (Str×V)) ++ ([("held_many",.int (m:Int))]:List (Str×V))))):=Chg.put C2;have hT3:=hT2.put (g:=x) (o:=.ins (aN mg "Asks") dx (([("held_tally",.ref ty)]:List (Str×V)) ++ ([("held_many",.int (m:Int))]:List (Str×V)))) ⟨_,hx⟩;generalize upd H2 x (.ins (aN mg "Asks") dx (([("held_tally",.ref ty)]:List (Str×V)) ++ ([("held_many",.int (m:Int))]:List (Str×V))))=H3 at hx3 C3 hT3 ⊢;replace hx3:H3 x=some (.ins (aN mg "Asks") dx ([("held_tally",.ref ty),("held_many",.int (m:Int))]:List (Str×V))):=hx3;have ha3:Tn H3 a t:=ha.imp (C3 _ _ ax) (C3 _ _ ax);walk_at "s";apply len _ _ ha3 ?_;apply ⟨x,_,dx,_,rfl,hx3,cl,na _ (by simp),by simp,?_⟩;rw [jQ (by show (["held_tally","held_many"]:List Str).contains "held_far"=false;trivial),show (t.length:Int) - (m:Int)=(f':Int) by omega];exact q _ (Chg.put C3) ⟨hmf,dx,ty,aj,(hT3.put ⟨_,hx⟩).sub (fun g hg=>hg.2),fun z=>z.1 rfl⟩
def rk (t:List Nat) (m a b c d:Nat):Int:=(d:Int) - (c:Int) - ((HN t (m - a+c) (m - b+d):Nat):Int)
def X4 (mg:Str->Option Value):Sp:=fun vs H Q _=>∃ (x:Addr) (t:List Nat) (m f a b c d:Nat),vs=[.ref x,.int a,.int b,.int c,.int d]/\Ak mg H x t m f/\a<=m/\b<=m/\c<=f/\d<=f/\Q (.int (rk t m a b c d)) H
theorem pC:aG ["self","first","last","begin","end","many"] ["self","first","last","begin","end"] (aB lO):=⟨rfl,rfl,rfl,by trivial,rfl,by trivial,by trivial⟩
theorem lW (T:Txt K mg):lD P w K mg base 5 "Asks" "reckoned" ["self","first","last","begin","end"] (X4 mg):=by
 have oR:=oR (P:=P) (w:=w) (base:=base) T;refine pM T.m_Asks_reckoned pC (fun _ _ _ _ _ _ us hl=>L2.usN5 (fun _ _ _ _ _=>rfl) us hl) ?_ fun f cdv A outer s H vs Q E hr h=>?_
 ·rintro vs H Q E ⟨x,t,m,f',a,b,c,d,rfl,_⟩;rfl
 obtain ⟨x,t,m,f',a,b,c,d,rfl,⟨hl,dx,ty,hx,hT⟩,h1,h2,h3,h4,q⟩:=h;have hu:=hr.units0;have hu64:=hr.units;apply ⟨_,(aA (aM (i:=5) pC.nd rfl dI (jL (K:=K) rfl (aq 0)) rfl) (aC (aL (aY iu (aY iu (aq 4) (aq 3)) (iU (jL (K:=K) rfl (aq 0)) T.o_Tally oR (hr.mono (by decide)) aP (aa (aY aQ (aY iu (aq 5) (aq 1)) (aq 3)) (aa (aY aQ (aY iu (aq 5) (aq 2)) (aq 4)) ao))))))),?_⟩;have cl:=T.o_Asks.cl;have na:=T.n_Asks;apply ⟨x,_,dx,_,_,rfl,hx,cl,na _ (by simp),rfl,?_⟩;apply ⟨x,_,dx,_,_,rfl,hx,cl,na _ (by simp),rfl,?_⟩;have hT':=hT;obtain ⟨_,dt,ae,ac,rs,ht,_⟩:=hT';apply ⟨ty,dt,_,rfl,ht,tyM (by trivial),?_⟩;rw [show (m:Int) - (a:Int)+(c:Int)=((m - a+c:Nat):Int) by omega,show (m:Int) - (b:Int)+(d:Int)=((m - b+d:Nat):Int) by omega];apply ⟨ty,t,m - a+c,m - b+d,rfl,hT,by omega,by omega,?_⟩;exact q
def X5 (mg:Str->Option Value):Sp:=fun vs H Q _=>∃ (x:Addr) (t:List Nat) (m f c d:Nat),vs=[.ref x,.int c,.int d]/\Ak mg H x t m f/\c<=f/\d<=f/\Q (.int (rk t m 0 m c d)) H
theorem oU:aG ["self","begin","end"] ["self","begin","end"] (aB gO):=⟨rfl,rfl,rfl,by trivial,rfl,by trivial,by trivial⟩
theorem gQ (T:Txt K mg):lD P w K mg base 6 "Asks" "reckoned_stretch" ["self","begin","end"] (X5 mg):=by
 have lW:=lW (P:=P) (w:=w) (base:=base) T;refine pM T.m_Asks_reckoned_stretch oU (fun _ _ _ _ _ _ us hl=>L2.pI (fun _ _ _=>rfl) us hl) ?_ fun f cdv A outer s H vs Q E hr h=>?_
 ·rintro vs H Q E ⟨x,t,m,f',c,d,rfl,_⟩;rfl
 obtain ⟨x,t,m,f',c,d,rfl,hA,h3,h4,q⟩:=h;have hu:=hr.units0;have hu64:=hr.units;apply ⟨_,(aC (aL (iU (aq 0) T.o_Asks lW (hr.mono (by decide)) aP (aa aF (aa (jL (K:=K) rfl (aq 0)) (aa (aq 1) (aa (aq 2) ao))))))),?_⟩;have cl:=T.o_Asks.cl;have na:=T.n_Asks;obtain ⟨hl,dx,ty,hx,hT⟩:=id hA;apply ⟨x,dx,_,rfl,hx,akM (by trivial),?_⟩;apply ⟨x,_,dx,_,_,rfl,hx,cl,na _ (by simp),rfl,?_⟩;apply ⟨x,t,m,f',0,m,c,d,rfl,hA,by omega,by omega,h3,h4,?_⟩;exact q
def Mj (mg:Str->Option Value):Sp:=fun vs H Q _=>∃ (x:Addr) (t:List Nat) (m f c d:Nat),vs=[.ref x,.int c,.int d]/\Ak mg H x t m f/\c<=d/\d<=f/\Q (.int (rk t m 0 m c d)) H
theorem xJ:aG ["self","begin","end"] ["self","begin","end"] (aB m5):=⟨rfl,rfl,rfl,by trivial,rfl,by trivial,by trivial⟩
theorem nG (T:Txt K mg):lD P w K mg base 7 "Asks" "stretch" ["self","begin","end"] (Mj mg):=by
 have rF:=rF (P:=P) (w:=w) (base:=base) T;have gQ:=gQ (P:=P) (w:=w) (base:=base) T;refine pM T.m_Asks_stretch xJ (fun _ _ _ _ _ _ us hl=>L2.pI (fun _ _ _=>rfl) us hl) ?_ fun f cdv A outer s H vs Q E hr h=>?_
 ·rintro vs H Q E ⟨x,t,m,f',c,d,rfl,_⟩;rfl
 obtain ⟨x,t,m,f',c,d,rfl,hA,h3,h4,q⟩:=h;have hu:=hr.units0;have hu64:=hr.units;apply ⟨_,(aA (aO (aK rF (hr.mono (by decide)) aU (aa (aq 1) (aa (aq 2) (aa (jL (K:=K) rfl (aq 0)) ao))) (by trivial))) (aC (aL (iU (aq 0) T.o_Asks gQ (hr.mono (by decide)) aP (aa (aq 1) (aa (aq 2) ao)))))),?_⟩;have cl:=T.o_Asks.cl;have na:=T.n_Asks;obtain ⟨hl,dx,ty,hx,hT⟩:=id hA;apply ⟨x,_,dx,_,_,rfl,hx,cl,na _ (by simp),rfl,?_⟩;apply ⟨_,_,_,rfl,by omega,by omega,by omega,?_⟩;apply ⟨x,dx,_,rfl,hx,akM (by trivial),?_⟩;apply ⟨x,t,m,f',c,d,rfl,hA,by omega,h4,?_⟩;exact q
theorem zY:(["sign"]:List Str).Nodup:=by trivial
def Pln (z:Str):Prop:=z.length<=24/\∀ c∈z.cps.toList,97<=c/\c < 123
theorem Um:∀ k∈List.range 26,xx wH (97+k)=false/\(97+k)∈GOOD:=by trivial
theorem Pln.ok {z:Str} (h:Pln z) {c:Nat} (hc:c∈z.cps.toList):xx wH c=false/\c∈GOOD:=by
 have:=h.2 c hc;have k:=Um (c - 97) (AaA.mpr (by omega));rw [show 97+(c - 97)=c by omega] at k;exact k
theorem Pln.row {z:Str} (h:Pln z):Row z:=⟨by have:=h.1;omega,fun c hc=>(h.ok hc).2⟩
def X6:Sp:=fun vs H Q _=>∃ z:Str,vs=[.str z]/\Pln z/\∀ H',Same H H'->Q (.bl true) H'
theorem Gh:aG ["thing"] ["thing"] (aB pQ):=⟨rfl,rfl,rfl,by trivial,rfl,by trivial,by trivial⟩
theorem uE (T:Txt K mg):Has P w K mg base 1 "is_plain" ["thing"] X6:=by
 refine eO T.d_is_plain Gh (fun _ _ _ _ _ _ us hl=>L2.jE (fun _=>rfl) us hl) ?_ fun f cdv A outer s H vs Q E hr h=>?_
 ·rintro vs H Q E ⟨z,rfl,_⟩;rfl
 obtain ⟨z,rfl,hp,q⟩:=h;have hu:=hr.units0;have hu64:=hr.units;apply ⟨_,(aA (bQ (mU (mR (dN (dO (aJ (gH (K:=K) rfl) aU T.b_isinstance bf (aa (aq 0) (aa (uY aU T.b_str Ha (by trivial) (by trivial)) ao)) (by trivial) (by trivial)))) (mQ (bh uM (aJ (aH (K:=K) rfl) aU T.b_len aR (aa (aq 0) ao) (by trivial) (by trivial)) (yG aU T.c_MOST_LETTERS (by trivial)) (by walk_at "p"))))) (aC (aL lJ)) bj) (aC (aL (aJ (yz rfl) aU T.b_all G9 (aa (jJ (sub:=[none]) (d8 (N:=["thing"]) (sc:=aB pQ) (N':=["sign"]) (by trivial)) rfl rfl rfl (dR (K:=K) rfl (aq 0)) (fun C s₀ H₀ ex=>(qI 0 (by trivial) zY)) (fun C s₀ H₀ ex=>gW) (fun C s₀ H₀ ex=>(uZ (Pu (K:=K) rfl hu64) (kh 0 (by trivial)) (yF (RZ (by trivial)) T.c_LETTERS (by trivial)) (by walk_at "p")))) ao) (by trivial) (by trivial))))),?_⟩;have hl:=hp.1;have hz1:z.length<=sizeLine:=Aay hl (by decide);apply nU (.str z) rfl ?_;apply bM hz1 ?_;rw [Aao (show ¬ (24:Int) < (z.length:Int) by omega)];walk_at "s";refine .inr (.inr ⟨z,rfl,?_⟩);refine v8 (fun i us G=>G=H/\us=((z.cps.toList.take i).map fun c=>!xx wH c).map V.bl) hz1 ⟨rfl,rfl⟩ ?_ ?_ ?_
 ·rintro i us G ⟨rfl,rfl⟩
  simp;omega
 ·rintro i us G c hc ⟨rfl,rfl⟩
  walk_at "s";apply ⟨KeepSt.set rfl,?_⟩;refine ⟨rfl,?_⟩;rw [Aa4,hc];simp [wH,xx]
 ·rintro us G D H' ⟨rfl,rfl⟩ nD S hD
  try walk_at "s"
  refine ⟨D,_,rfl,hD,?_⟩
  have e2:(List.map (fun c=>!xx wH c) (z.cps.toList.take z.cps.size)).all id=true:=by
   rw [List.all_map,Abi];intro c hc;have:=(hp.ok (AbL hc)).1;simp [this]
  rw [e2];exact q _ S
def X7:Sp:=fun vs H Q _=>∃ z:Str,vs=[.str z]/\Pln z/\∀ H',Same H H'->Q .non H'
theorem zZ:aG ["thing"] ["thing"] (aB pR):=⟨rfl,rfl,rfl,by trivial,rfl,by trivial,by trivial⟩
theorem mF (T:Txt K mg):Has P w K mg base 3 "need_plain" ["thing"] X7:=by
 have uE:=uE (P:=P) (w:=w) (base:=base) T;refine eO T.d_need_plain zZ (fun _ _ _ _ _ _ us hl=>L2.jE (fun _=>rfl) us hl) ?_ fun f cdv A outer s H vs Q E hr h=>?_
 ·rintro vs H Q E ⟨z,rfl,_⟩;rfl
 obtain ⟨z,rfl,hp,q⟩:=h;apply ⟨_,(aC (bQ (dN (dO (aK uE (hr.mono (by decide)) aU (aa (aq 0) ao) (by trivial)))) (aC iM) bj)),?_⟩;apply ⟨z,rfl,hp,fun H' S=>?_⟩;exact q H' S
def rgF (side row:Str) (al ap:Addr) (h:Nat) (ak:Addr):List (Str×V):=Q9 side (row ++ row) (Str.ofString "ring") al ap h ++ ([("held_row",.str row),("held_asks",.ref ak)]:List (Str×V))
def X8 (side row:Str):List Nat:=LN side.cps.size (row.cps.size+row.cps.size) (zG side (row ++ row))
def Rg (mg:Str->Option Value) (H:Hp) (x:Addr) (side row:Str):Prop:=Pln side/\Pln row/\row.cps.size≠0/\∃ dx al ap h ak,H x=some (.ins (aN mg "Ring") dx (rgF side row al ap h ak))/\Ak mg H ak (X8 side row) side.cps.size (row.cps.size+row.cps.size)
theorem Rg.same {H H':Hp} {x:Addr} {side row:Str} (h:Rg mg H x side row) (s:Same H H'):Rg mg H' x side row:=by
 obtain ⟨a,b,c,dx,al,ap,h,ak,e,k⟩:=h;exact ⟨a,b,c,dx,al,ap,h,ak,s _ _ e,k.same s⟩
def aao (mg:Str->Option Value):Sp:=fun vs H Q _=>∃ (x dx:Addr) (side row:Str),vs=[.ref x,.str side,.str row]/\H x=some (.ins (aN mg "Ring") dx [])/\Pln side/\Pln row/\row.cps.size≠0/\∀ H',Chg x H H'->Rg mg H' x side row->Q .non H'
theorem iZ:aG ["self","side","row","left","right","lines"] ["self","side","row"] (aB lR):=⟨rfl,rfl,rfl,by trivial,rfl,by trivial,by trivial⟩
theorem jm (T:Txt K mg):lD P w K mg base 19 "Ring" "__init__" ["self","side","row"] (aao mg):=by
 have mF:=mF (P:=P) (w:=w) (base:=base) T;have qj:=qj (P:=P) (w:=w) (base:=base) T;have gP:=gP (P:=P) (w:=w) (base:=base) T;have bO:=bO (P:=P) (w:=w) (base:=base) T;have aV:=aV (P:=P) (w:=w) (base:=base) T;have lV:=lV (P:=P) (w:=w) (base:=base) T;refine pM T.m_Ring___init__ iZ (fun _ _ _ _ _ _ us hl=>L2.pI (fun _ _ _=>rfl) us hl) ?_ fun f cdv A outer s H vs Q E hr h=>?_
 ·rintro vs H Q E ⟨x,dx,side,row,rfl,_⟩;rfl
 obtain ⟨x,dx,side,row,rfl,hx,hs,hr',h0,q⟩:=h;have hu:=hr.units0;have hu64:=hr.units;apply ⟨_,(aA (aO (aK mF (hr.mono (by decide)) aU (aa (aq 1) ao) (by trivial))) (aA (aO (aK mF (hr.mono (by decide)) aU (aa (aq 2) ao) (by trivial))) (aA (bQ (bh (fH (K:=K) rfl hu64) (aq 2) qt (by walk_at "p")) (aC iM) bj) (aA (aM (i:=3) iZ.nd rfl dI (aK qj (hr.mono (by decide)) aU (aa (aq 1) (aa (aq 2) ao)) (by trivial)) rfl) (aA (aM (i:=4) iZ.nd rfl dI (aK qj (hr.mono (by decide)) aU (aa (aq 1) (aa (aq 2) ao)) (by trivial)) rfl) (aA (aM (i:=5) iZ.nd rfl dI (aK gP (hr.mono (by decide)) aU (aa (bZ (mg:=mg) rfl (aq 3) T.os_Piece bO (hr.mono (by decide)) aP) (aa (bZ (mg:=mg) rfl (aq 4) T.os_Piece bO (hr.mono (by decide)) aP) (aa (aJ (aH (K:=K) rfl) aU T.b_len aR (aa (aq 1) ao) (by trivial) (by trivial)) ao))) (by trivial)) rfl) (aA (aO (yS aV (hr.mono (by decide)) aU aP (aa (aq 0) (aa (aq 1) (aa (aY aQ (aq 2) (aq 2)) (aa qt (aa (aq 5) (aa (gJ (aa (aq 3) (aa (aq 4) ao))) ao)))))) (by trivial))) (aA (kI (K:=K) rfl (aq 0) (aq 2)) (aC (kI (K:=K) rfl (aq 0) (nZ T.o_Asks lV (hr.mono (by decide)) aU aP (aa (aq 5) (aa (aJ (aH (K:=K) rfl) aU T.b_len aR (aa (aq 1) ao) (by trivial) (by trivial)) ao)) (by trivial)))))))))))),?_⟩;have hz:20000<=sizeLine:=by decide
 have l1:side.length<=24:=hs.1;have l2:row.length<=24:=hr'.1;have e1:side.length=side.cps.size:=rfl;have e2:row.length=row.cps.size:=rfl;have ec:=jk row row;have el:(row ++ row).length=row.length+row.length:=jk row row;apply ⟨side,rfl,hs,fun H1 S1=>?_⟩;apply ⟨row,rfl,hr',fun H2 S2=>?_⟩;rw [Aao (show ¬ V.str row=V.str (Str.ofString "") from fun z=>h0 (sW.mp (V.str.inj z)))];walk_at "s";apply ⟨side,row,rfl,hs.row,hr'.row,fun u nu H3 S3 hnu gu=>?_⟩;apply ⟨side,row,rfl,hs.row,hr'.row,fun l nl H4 S4 hnl gl=>?_⟩;obtain ⟨yu,ku,pu,hu0,gu0,_⟩:=gu.g;obtain ⟨yl,kl,pl,hl0,gl0,_⟩:=gl.g;have gu1:=gu0.same S4;have gl1:=gl0;obtain ⟨hyu,du,au,bu,xu,_,_⟩:=id gu1.pc;obtain ⟨hyl,dl,al',bl,xl,_,_⟩:=id gl1.pc;apply ⟨u,yu,du,_,rfl,hyu,xu,rfl,?_⟩;apply ⟨u,yu,_,_,_,_,_,_,rfl,gu1.pc,fun ru H5 nru S5 hru=>?_⟩;apply ⟨l,yl,dl,_,rfl,hyl,S5 _ _ xl,rfl,?_⟩;apply ⟨l,yl,_,_,_,_,_,_,rfl,gl1.pc.same S5,fun rl H6 nrl S6 hrl=>?_⟩;apply bM (by omega) ?_;apply ⟨ru,rl,side.cps.size,row.cps.size,row.cps.size,zG side (row ++ row),rfl,by omega,?_,?_,fun rr H7 nrr S7 hrr=>?_⟩
 ·rw [pA (e':=zG side row) fun i j hi hj=>by unfold zG;rw [HF hj]]
  exact S6 _ _ hru
 ·rw [pA (e':=zG side row) fun i j hi hj=>by unfold zG;rw [HH]]
  exact hrl
 have U7:=S1.trans (S2.trans (S3.trans (S4.trans (S5.trans (S6.trans S7)))));walk_at "s";apply t7 (by omega) ?_;apply b8 rfl fun pp H8 npp S8 hpp=>?_
 have U8:=U7.trans S8;have W8:=S5.trans (S6.trans (S7.trans S8));apply ⟨x,dx,rr,pp,"Ring",side,row ++ row,_,_,_,[nu,nl],rfl,by unfold LQ;simp,U8 _ _ hx,S8 _ _ hrr,hpp,by simp,yc (gu1.same W8) (gl1.same W8),fun h H9 hh C9 P9 N9=>?_⟩;obtain ⟨_,dx',al,ap,hx9,hal9,hap9⟩:=P9;have rrx:rr≠x:=fun z=>by rw [z,U7 _ _ hx] at hrr;cases hrr
 have hrr9:=C9 _ _ rrx (S8 _ _ hrr);have C9':Chg x H H9:=fun b o n e=>C9 b o n (U8 _ _ e)
 clear hal9 hap9 N9;apply ⟨x,_,dx',_,rfl,hx9,T.o_Ring.cl,T.n_Ring _ (by simp),by simp [Q9],?_⟩;rw [jQ (by show (["held_side","held_top","held_kind","held_lines","held_parts","held_height"]:List Str).contains "held_row"=false;trivial)];have hxA:=aj (H:=H9) (a:=x) (o:=.ins (aN mg "Ring") dx' (Q9 side (row ++ row) (Str.ofString "ring") al ap h ++ ([("held_row",.str row)]:List (Str×V))));have CA:Chg x H (upd H9 x (.ins (aN mg "Ring") dx' (Q9 side (row ++ row) (Str.ofString "ring") al ap h ++ ([("held_row",.str row)]:List (Str×V))))):=Chg.put C9';have hrrA:upd H9 x (.ins (aN mg "Ring") dx' (Q9 side (row ++ row) (Str.ofString "ring") al ap h ++ ([("held_row",.str row)]:List (Str×V)))) rr=some (.lst ((nI (X8 side row)).map V.int)):=by rw [aD rrx];exact hrr9
 generalize upd H9 x (.ins (aN mg "Ring") dx' (Q9 side (row ++ row) (Str.ofString "ring") al ap h ++ ([("held_row",.str row)]:List (Str×V))))=HA at hxA CA hrrA ⊢;walk_at "s";apply bM (by omega) ?_;intro ak dak nak ndak ne;have lr:(X8 side row).length=side.cps.size+(row.cps.size+row.cps.size):=jf _ _ _;apply ⟨ak,dak,rr,X8 side row,side.cps.size,row.cps.size+row.cps.size,rfl,aj,.inl (QK nak ndak hrrA).1,wy (by omega),by rw [lr],fun HB cB hN=>⟨rfl,?_⟩⟩;have SB:=made nak ndak cB
 replace hN:=hN.sub (D':=fun g=>g=x) (by
  rintro g rfl;exact ⟨gNe nak hxA,_,(QK nak ndak hxA).1⟩)
 apply ⟨x,_,dx',_,rfl,SB _ _ hxA,T.o_Ring.cl,T.n_Ring _ (by simp),by simp [Q9],?_⟩;rw [jQ (by show (["held_side","held_top","held_kind","held_lines","held_parts","held_height","held_row"]:List Str).contains "held_asks"=false;trivial)];refine q _ (Chg.put fun b o n e=>SB _ _ (CA b o n e)) ⟨hs,hr',h0,dx',al,ap,h,ak,?_,(hN.put rfl).ak⟩;rw [aj];unfold rgF;rw [Abl];rfl
end
local macro_rules | `(tactic| walk_at "s") => `(tactic| (with_reducible repeat (first | refine lZ ?_ | walk_at "6")))
local macro_rules | `(tactic| walk_at "n") => `(tactic| (with_reducible repeat (walk_at "6")))
section
variable {P:Program} {w:World} {K:W.Frag} {mg:Str->Option Value} {base:Heap}
theorem vD:(["place","self"]:List Str).Nodup:=by trivial
def YG (mg:Str->Option Value) (H:Hp) (E:XK) (v:V):Prop:=∀ e H',Same H H'->Q8 H' e (aN mg "NoPlace") [("found",v)]->E (.ref (aN mg "NoPlace")) (some e) H'
theorem Dj {v:V} {hi:Int} (h:inB v 0 hi=true):∃ n:Nat,v= .int n/\(n:Int)<=hi:=by
 cases v with
 | int z=>
  unfold inB at h;simp at h;exact ⟨z.toNat,by rw [AbP h.1],by omega⟩
 | _=>cases h
theorem JM {side row:Str} {al ap ak:Addr} {h:Nat} {m:Str} (g:(["held_side","held_top","held_kind","held_lines","held_parts","held_height","held_row","held_asks"]:List Str).contains m=false):(rgF side row al ap h ak).lookup m=none:=by
 unfold rgF Q9;simp only [Abg,AbM] at g;obtain ⟨h1,h2,h3,h4,h5,h6,h7,h8,_⟩:=g;simp only [List.cons_append,List.nil_append,AaK,h1,h2,h3,h4,h5,h6,h7,h8,List.lookup_nil]
def Vr (side row:Str) (p k:Nat):Int:=rk (X8 side row) side.cps.size 0 side.cps.size p (p+k)
def aap (K:W.Frag) (mg:Str->Option Value):Sp:=fun vs H Q E=>∃ (x:Addr) (side row:Str) (v:V),vs=[.ref x,v]/\Rg mg H x side row/\Kd K H v/\(inB v 0 ((row.cps.size:Int) - 1)=false->YG mg H E v)/\(inB v 0 ((row.cps.size:Int) - 1)=true->Q .non H)
theorem rM:aG ["self","place"] ["self","place"] (aB jg):=⟨rfl,rfl,rfl,by trivial,rfl,by trivial,by trivial⟩
theorem cF (T:Txt K mg):lD P w K mg base 4 "Ring" "need_opening" ["self","place"] (aap K mg):=by
 have bx:=bx (P:=P) (w:=w) (base:=base) T;refine pM T.m_Ring_need_opening rM (fun _ _ _ _ _ _ us hl=>L2.mJ (fun _ _=>rfl) us hl) ?_ fun f cdv A outer s H vs Q E hr h=>?_
 ·rintro vs H Q E ⟨x,side,row,v,rfl,_⟩;rfl
 obtain ⟨x,side,row,v,rfl,hR,kv,q1,q2⟩:=h;have hu:=hr.units0;have hu64:=hr.units;apply ⟨_,(aC (aO (sI bx (hr.mono (by decide)) aU aP (aa (aq 1) (aa aF (aa (aY iu (aJ (aH (K:=K) rfl) aU T.b_len aR (aa (jL (K:=K) rfl (aq 0)) ao) (by trivial) (by trivial)) aF) ao))) (by trivial)))),?_⟩;obtain ⟨hs,hr',h0,dx,al,ap,h,ak,hx,hA⟩:=id hR;have hz:20000<=sizeLine:=by decide
 have l2:row.length<=24:=hr'.1;have e2:row.length=row.cps.size:=rfl;apply ⟨x,_,dx,_,_,rfl,hx,T.o_Ring.cl,T.n_Ring _ (by simp),rfl,?_⟩;apply bM (by omega) ?_;apply ⟨v,_,_,rfl,kv,fun hv=>?_,fun hv=>q1 hv⟩;exact q2 hv
def aaq (K:W.Frag) (mg:Str->Option Value):Sp:=fun vs H Q E=>∃ (x:Addr) (side row:Str) (v u:V),vs=[.ref x,v,u]/\Rg mg H x side row/\Kd K H v/\Kd K H u/\
 (inB v 0 ((row.cps.size:Int) - 1)=false->YG mg H E v)/\(inB v 0 ((row.cps.size:Int) - 1)=true->inB u 0 (row.cps.size:Int)=false->YG mg H E u)/\
 (∀ p k:Nat,v= .int p->u= .int k->p < row.cps.size->k<=row.cps.size->Q (.int (Vr side row p k)) H)
theorem xK:aG ["self","place","many"] ["self","place","many"] (aB ni):=⟨rfl,rfl,rfl,by trivial,rfl,by trivial,by trivial⟩
theorem nJ (T:Txt K mg):lD P w K mg base 8 "Ring" "stretch" ["self","place","many"] (aaq K mg):=by
 have cF:=cF (P:=P) (w:=w) (base:=base) T;have bx:=bx (P:=P) (w:=w) (base:=base) T;have nG:=nG (P:=P) (w:=w) (base:=base) T;refine pM T.m_Ring_stretch xK (fun _ _ _ _ _ _ us hl=>L2.pI (fun _ _ _=>rfl) us hl) ?_ fun f cdv A outer s H vs Q E hr h=>?_
 ·rintro vs H Q E ⟨x,side,row,v,u,rfl,_⟩;rfl
 obtain ⟨x,side,row,v,u,rfl,hR,kv,ku,q1,q2,q3⟩:=h;have hu:=hr.units0;have hu64:=hr.units;apply ⟨_,(aA (aO (iU (aq 0) T.o_Ring cF (hr.mono (by decide)) aP (aa (aq 1) ao))) (aA (aO (sI bx (hr.mono (by decide)) aU aP (aa (aq 2) (aa aF (aa (aJ (aH (K:=K) rfl) aU T.b_len aR (aa (jL (K:=K) rfl (aq 0)) ao) (by trivial) (by trivial)) ao))) (by trivial))) (aC (aL (iU (jL (K:=K) rfl (aq 0)) T.o_Asks nG (hr.mono (by decide)) aP (aa (aq 1) (aa (aY aQ (aq 1) (aq 2)) ao))))))),?_⟩;obtain ⟨hs,hr',h0,dx,al,ap,h,ak,hx,hA⟩:=id hR;have hz:20000<=sizeLine:=by decide
 have l2:row.length<=24:=hr'.1;have e2:row.length=row.cps.size:=rfl;apply ⟨x,dx,_,rfl,hx,JM (by trivial),?_⟩;apply ⟨x,side,row,v,rfl,hR,kv,fun hv=>q1 hv,fun hv=>?_⟩;apply ⟨x,_,dx,_,_,rfl,hx,T.o_Ring.cl,T.n_Ring _ (by simp),rfl,?_⟩;apply bM (by omega) ?_;apply ⟨u,_,_,rfl,ku,fun hu'=>?_,fun hu'=>q2 hv hu'⟩;obtain ⟨p,rfl,hp⟩:=Dj hv;obtain ⟨k,rfl,hk⟩:=Dj hu';have hA':=hA;obtain ⟨_,dk,ty,hk1,_⟩:=hA';apply ⟨x,_,dx,_,_,rfl,hx,T.o_Ring.cl,T.n_Ring _ (by simp),rfl,?_⟩;apply ⟨ak,dk,_,rfl,hk1,akM (by trivial),?_⟩;rw [show (p:Int)+(k:Int)=((p+k:Nat):Int) by omega];apply ⟨ak,_,_,_,p,p+k,rfl,hA,by omega,by omega,?_⟩;exact q3 p k rfl rfl (by omega) (by omega)
def aar (K:W.Frag) (mg:Str->Option Value):Sp:=fun vs H Q E=>∃ (x:Addr) (side row:Str) (v:V),vs=[.ref x,v]/\Rg mg H x side row/\Kd K H v/\
 (inB v 0 ((row.cps.size:Int) - 1)=false->YG mg H E v)/\(∀ p:Nat,v= .int p->p < row.cps.size->Q (.int (Vr side row p row.cps.size)) H)
theorem zp:aG ["self","place"] ["self","place"] (aB oM):=⟨rfl,rfl,rfl,by trivial,rfl,by trivial,by trivial⟩
theorem ir (T:Txt K mg):lD P w K mg base 9 "Ring" "length" ["self","place"] (aar K mg):=by
 have nJ:=nJ (P:=P) (w:=w) (base:=base) T;refine pM T.m_Ring_length zp (fun _ _ _ _ _ _ us hl=>L2.mJ (fun _ _=>rfl) us hl) ?_ fun f cdv A outer s H vs Q E hr h=>?_
 ·rintro vs H Q E ⟨x,side,row,v,rfl,_⟩;rfl
 obtain ⟨x,side,row,v,rfl,hR,kv,q1,q2⟩:=h;have hu:=hr.units0;have hu64:=hr.units;apply ⟨_,(aC (aL (iU (aq 0) T.o_Ring nJ (hr.mono (by decide)) aP (aa (aq 1) (aa (aJ (aH (K:=K) rfl) aU T.b_len aR (aa (jL (K:=K) rfl (aq 0)) ao) (by trivial) (by trivial)) ao))))),?_⟩;obtain ⟨hs,hr',h0,dx,al,ap,h,ak,hx,hA⟩:=id hR;have hz:20000<=sizeLine:=by decide
 have l2:row.length<=24:=hr'.1;have e2:row.length=row.cps.size:=rfl;apply ⟨x,dx,_,rfl,hx,JM (by trivial),?_⟩;apply ⟨x,_,dx,_,_,rfl,hx,T.o_Ring.cl,T.n_Ring _ (by simp),rfl,?_⟩;apply bM (by omega) ?_;apply ⟨x,side,row,v,.int (row.cps.size:Int),rfl,hR,kv,.inl ⟨_,rfl⟩,fun hv=>q1 hv,fun _ hu'=>?_,fun p k e1 e2 hp hk=>?_⟩
 ·unfold inB at hu'
  simp at hu'
 ·injection e2 with e2
  have:k=row.cps.size:=by omega
  subst this;exact q2 p e1 hp
def Mr (side row:Str):List Int:=(List.range row.cps.size).map fun p=>Vr side row p row.cps.size
def Yb (mg:Str->Option Value):Sp:=fun vs H Q _=>∃ (x:Addr) (side row:Str),vs=[.ref x]/\Rg mg H x side row/\∀ q H',H q=none->Same H H'->H' q=some (.lst ((Mr side row).map V.int))->Q (.ref q) H'
theorem xM:aG ["self"] ["self"] (aB jP):=⟨rfl,rfl,rfl,by trivial,rfl,by trivial,by trivial⟩
theorem gR (T:Txt K mg):lD P w K mg base 10 "Ring" "lengths" ["self"] (Yb mg):=by
 have ir:=ir (P:=P) (w:=w) (base:=base) T;refine pM T.m_Ring_lengths xM (fun _ _ _ _ _ _ us hl=>L2.jE (fun _=>rfl) us hl) ?_ fun f cdv A outer s H vs Q E hr h=>?_
 ·rintro vs H Q E ⟨x,side,row,rfl,_⟩;rfl
 obtain ⟨x,side,row,rfl,hR,q⟩:=h;have hu:=hr.units0;have hu64:=hr.units;apply ⟨_,(aC (aL (jJ (sub:=[none,some 0]) (d8 (N:=["self"]) (sc:=aB jP) (N':=["place","self"]) (by trivial)) rfl rfl rfl (km aU T.b_range (aa (aJ (aH (K:=K) rfl) aU T.b_len aR (aa (jL (K:=K) rfl (iC 0)) ao) (by trivial) (by trivial)) ao)) (fun C s₀ H₀ ex=>(qI 0 (by trivial) vD)) (fun C s₀ H₀ ex=>gW) (fun C s₀ H₀ ex=>(yP (mg:=mg) rfl (mj 1 (by trivial)) T.o_Ring ir (hr.mono (by decide)) (mW fun _ _=>rfl) (aa (kh 0 (by trivial)) ao)))))),?_⟩;obtain ⟨hs,hr',h0,dx,al,ap,h,ak,hx,hA⟩:=id hR;have hz:20000<=sizeLine:=by decide
 have l2:row.length<=24:=hr'.1;have e2:row.length=row.cps.size:=rfl;apply ⟨x,_,dx,_,_,rfl,hx,T.o_Ring.cl,T.n_Ring _ (by simp),rfl,?_⟩;apply bM (by omega) ?_;refine ⟨_,rfl,by omega,by omega,?_⟩;rw [show ((row.length:Int)).toNat=row.cps.size from rfl];refine v9 (n:=row.cps.size) (fun i=>.int (Vr side row i row.cps.size)) (by omega) ?_ ?_
 ·intro i hi
  walk_at "s";apply ⟨KeepSt.set rfl,?_⟩;apply ⟨x,dx,_,rfl,hx,JM (by trivial),?_⟩;rw [show (0:Int)+(i:Int)=i by omega];apply ⟨x,side,row,.int i,rfl,hR,.inl ⟨_,rfl⟩,fun hv=>?_,fun p e hp=>?_⟩
  ·unfold inB at hv
   simp at hv;omega
  ·injection e with e
   have:p=i:=by omega
   subst this;exact ⟨rfl,vh rfl⟩
 ·intro D H' nD s hD
  try walk_at "s"
  refine q D H' nD s ?_;rw [hD];unfold Mr;rw [AbX];rfl
def Best (ns:List Int) (a b:V):Prop:=∃ M,M∈ns/\(∀ z∈ns,z<=M)/\a= .int M/\b= .int (ns.idxOf M:Nat)
def Yc (mg:Str->Option Value):Sp:=fun vs H Q _=>∃ (x:Addr) (side row:Str),vs=[.ref x]/\Rg mg H x side row/\(∀ z∈Mr side row,0<=z/\z < 1000)/\∀ q a b H',Same H H'->Best (Mr side row) a b->H' q=some (.tup [a,b])->Q (.ref q) H'
theorem Mx.uni {ns:List Int} {M N:Int} (h1:M∈ns) (h2:∀ z∈ns,z<=M) (h3:N∈ns) (h4:∀ z∈ns,z<=N):N=M:=by
 have:=h2 _ h3;have:=h4 _ h1;omega
theorem vG:aG ["self","told"] ["self"] (aB rD):=⟨rfl,rfl,rfl,by trivial,rfl,by trivial,by trivial⟩
theorem rN (T:Txt K mg):lD P w K mg base 11 "Ring" "best" ["self"] (Yc mg):=by
 have gR:=gR (P:=P) (w:=w) (base:=base) T;refine pM T.m_Ring_best vG (fun _ _ _ _ _ _ us hl=>L2.jE (fun _=>rfl) us hl) ?_ fun f cdv A outer s H vs Q E hr h=>?_
 ·rintro vs H Q E ⟨x,side,row,rfl,_⟩;rfl
 obtain ⟨x,side,row,rfl,hR,hB,q⟩:=h;have hu:=hr.units0;have hu64:=hr.units;apply ⟨_,(aA (aM (i:=1) vG.nd rfl dI (yO (aq 0) T.o_Ring gR (hr.mono (by decide)) aP) rfl) (aC (aL (oZ (aa (aJ (v7 rfl) aU T.b_max vX (aa (aq 1) ao) (by trivial) (by trivial)) (aa (je (K:=K) rfl AaB PySem.F.slot_list_index PySem.F.type_list_index Pr (aq 1) (aa (aJ (v7 rfl) aU T.b_max vX (aa (aq 1) ao) (by trivial) (by trivial)) ao)) ao)))))),?_⟩;obtain ⟨hs,hr',h0,dx,al,ap,h,ak,hx,hA⟩:=id hR;have l2:row.length<=24:=hr'.1;have e2:row.length=row.cps.size:=rfl;have hne:Mr side row≠[]:=fun z=>h0 (by have:=congrArg List.length z;unfold Mr at this;simpa using this)
 have hl:(Mr side row).length=row.cps.size:=by unfold Mr;simp
 apply ⟨x,dx,_,rfl,hx,JM (by trivial),?_⟩;apply ⟨x,side,row,rfl,hR,fun d H1 nd S1 hd=>?_⟩;apply Hj hd hne fun M hM hMM=>?_
 apply ⟨.inl ⟨rfl,_,SqL.of hd⟩,?_⟩;apply Hj hd hne fun N hN hNN=>?_
 have e:=Mx.uni hM hMM hN hNN;subst e;apply SQ hd (by omega) hB hN ?_;apply b8 rfl fun p H2 np S2 hp=>?_
 exact q p _ _ H2 (S1.trans S2) ⟨_,hN,hNN,rfl,rfl⟩ hp
end
mutual
def gA (m:Nat) (C:Nat->Nat->Bool) (i:Nat):Nat->Nat
 | 0=>m - 1 - i
 | j+1=>if C i j=true then gD m C j i else gA m C i j
termination_by j=>i+j
def gD (m:Nat) (C:Nat->Nat->Bool) (j:Nat):Nat->Nat
 | 0=>m+j
 | i+1=>if C i j=true then gA m C i j else gD m C j i
termination_by i=>i+j
end
section
variable {m:Nat} {C:Nat->Nat->Bool}
theorem vH (i:Nat):gA m C i 0=m - 1 - i:=by rw [gA]
theorem vI (i j:Nat):gA m C i (j+1)=if C i j=true then gD m C j i else gA m C i j:=by rw [gA]
theorem ye (j:Nat):gD m C j 0=m+j:=by rw [gD]
theorem sX (i j:Nat):gD m C j (i+1)=if C i j=true then gA m C i j else gD m C j i:=by rw [gD]
end
def Rule (m far:Nat) (e:Nat->Nat->Bool) (C:Nat->Nat->Bool):Prop:=∀ i j,i < m->j < far->C i j=(e i j || decide (gD m C j i < gA m C i j))
theorem vJ {m:Nat} {C:Nat->Nat->Bool}:∀ n i j,i+j<=n->(i<=m->gD m C j i<=m+j)/\(i < m->gA m C i j < m+j)
 | n,0,0,_=>by rw [ye,vH];omega
 | 0,0,j+1,h=>absurd h (by omega)
 | 0,i+1,j,h=>absurd h (by omega)
 | n+1,0,j+1,h=>by
  have h1:=vJ (m:=m) (C:=C) n 0 j (by omega);refine ⟨fun _=>by rw [ye];omega,fun hi=>?_⟩;rw [vI];have a:=h1.1 (by omega);have b:=h1.2 hi
  split <;> omega
 | n+1,i+1,0,h=>by
  have h1:=vJ (m:=m) (C:=C) n i 0 (by omega);refine ⟨fun hi=>?_,fun hi=>by rw [vH];omega⟩;rw [sX];have a:=h1.1 (by omega);have b:=h1.2 (by omega)
  split <;> omega
 | n+1,i+1,j+1,h=>by
  have h1:=vJ (m:=m) (C:=C) n (i+1) j (by omega);have h2:=vJ (m:=m) (C:=C) n i (j+1) (by omega);refine ⟨fun hi=>?_,fun hi=>?_⟩
  ·rw [sX]
   have a:=h2.1 (by omega);have b:=h2.2 (by omega)
   split <;> omega
  ·rw [vI]
   have a:=h1.1 (by omega);have b:=h1.2 hi
   split <;> omega
def cn (m:Nat) (C:Nat->Nat->Bool) (i B:Nat):Nat->Nat
 | 0=>0
 | e+1=>cn m C i B e+(if B<=gD m C e i then 1 else 0)
theorem JN {m:Nat} {C:Nat->Nat->Bool} {i B:Nat} (hB:m<=B) (hi:i < m):∀ e,cn m C (i+1) B e+(if B<=gA m C i e then 1 else 0)=cn m C i B e
 | 0=>by
  show 0+_=0;rw [vH,if_neg (by omega)]
 | e+1=>by
  have ih:=JN (C:=C) hB hi e;show cn m C (i+1) B e+(if B<=gD m C e (i+1) then 1 else 0)+(if B<=gA m C i (e+1) then 1 else 0)=cn m C i B e+(if B<=gD m C e i then 1 else 0);rw [sX,vI];by_cases hC:C i e=true
  ·rw [if_pos hC,if_pos hC];omega
  ·rw [if_neg hC,if_neg hC];omega
theorem Dk {m:Nat} {C:Nat->Nat->Bool} {i b:Nat} (hi:i<=m):∀ e,e<=b->cn m C i (m+b) e=0
 | 0,_=>rfl
 | e+1,h=>by
  show cn m C i (m+b) e+_=0;have:=(vJ (m:=m) (C:=C) (i+e) i e (Aad _)).1 hi;rw [Dk hi e (by omega),if_neg (by omega)]
theorem Gi {m:Nat} {C:Nat->Nat->Bool} {B:Nat} (b:Nat) (hB:B=m+b):∀ k,cn m C 0 B (b+k)=k
 | 0=>by rw [hB];exact Dk (by omega) b (Aad _)
 | k+1=>by
  show cn m C 0 B (b+k)+(if B<=gD m C (b+k) 0 then 1 else 0)=k+1;rw [Gi b hB k,ye,if_pos (by omega)]
def Vs (i j:Int):Int:=if j > i then j else i
def tb (e:Nat->Nat->Bool) (b:Nat):Nat->Nat->Int
 | 0,_=>0
 | _+1,0=>0
 | i+1,k+1=>if e i (b+k)=true then tb e b i k+1 else Vs (tb e b (i+1) k) (tb e b i (k+1))
termination_by i k=>i+k
theorem Dl (e:Nat->Nat->Bool) (b k:Nat):tb e b 0 k=0:=by rw [tb]
theorem Gj (e:Nat->Nat->Bool) (b i:Nat):tb e b i 0=0:=by cases i <;> rw [tb]
theorem HR (e:Nat->Nat->Bool) (b i k:Nat):tb e b (i+1) (k+1)=if e i (b+k)=true then tb e b i k+1 else Vs (tb e b (i+1) k) (tb e b i (k+1)):=by rw [tb]
theorem vK {m far:Nat} {e C:Nat->Nat->Bool} (h:Rule m far e C) (b:Nat):∀ i,i<=m->∀ k,b+k<=far->tb e b i k+(cn m C i (m+b) (b+k):Nat)=k
 | 0,_,k,_=>by rw [Dl,Gi b rfl];omega
 | i+1,hi,0,_=>by
  rw [Gj,Dk hi _ (by omega)];rfl
 | i+1,hi,k+1,hk=>by
  have h1:=vK h b i (by omega) k (by omega);have h2:=vK h b i (by omega) (k+1) hk;have h3:=vK h b (i+1) hi k (by omega);have r:=h i (b+k) (by omega) (by omega);have kp:=JN (m:=m) (C:=C) (i:=i) (B:=m+b) (by omega) (by omega) (b+k);rw [HR];have e2:cn m C i (m+b) (b+(k+1))=cn m C i (m+b) (b+k)+(if m+b<=gD m C (b+k) i then 1 else 0):=rfl;have e3:cn m C (i+1) (m+b) (b+(k+1))=cn m C (i+1) (m+b) (b+k)+(if m+b<=gD m C (b+k) (i+1) then 1 else 0):=rfl;rw [e2] at h2;rw [e3,sX];by_cases he:e i (b+k)=true
  ·rw [he,Bool.true_or] at r
   rw [if_pos he,if_pos r];omega
  ·have he':e i (b+k)=false:=by simpa using he
   rw [he',Bool.false_or] at r;rw [if_neg he];by_cases hg:gD m C (b+k) i < gA m C i (b+k)
   ·have hC:C i (b+k)=true:=by rw [r];exact Aar hg
    rw [if_pos hC];unfold Vs;by_cases c1:m+b<=gA m C i (b+k)
    ·rw [if_pos c1] at kp ⊢
     by_cases c2:m+b<=gD m C (b+k) i
     ·rw [if_pos c2] at h2
      split <;> omega
     ·rw [if_neg c2] at h2
      split <;> omega
    ·rw [if_neg c1] at kp ⊢
     rw [if_neg (by omega)] at h2
     split <;> omega
   ·have hC:¬ C i (b+k)=true:=by rw [r,Aao hg];decide
    rw [if_neg hC];unfold Vs;by_cases c2:m+b<=gD m C (b+k) i
    ·rw [if_pos c2] at h2 ⊢
     by_cases c1:m+b<=gA m C i (b+k)
     ·rw [if_pos c1] at kp
      split <;> omega
     ·rw [if_neg c1] at kp
      split <;> omega
    ·rw [if_neg c2] at h2 ⊢
     rw [if_neg (by omega)] at kp
     split <;> omega
theorem JP {e e':Nat->Nat->Bool} {b b' m n:Nat} (h:∀ i k,i < m->k < n->e i (b+k)=e' i (b'+k)):∀ i,i<=m->∀ k,k<=n->tb e b i k=tb e' b' i k
 | 0,_,k,_=>by rw [Dl,Dl]
 | i+1,hi,0,_=>by rw [Gj,Gj]
 | i+1,hi,k+1,hk=>by
  rw [HR,HR,JP h i (by omega) k (by omega),JP h (i+1) hi k (by omega),JP h i (by omega) (k+1) hk,h i k (by omega) (by omega)]
theorem HS {t:List Nat} (hn:t.Nodup) {l q B:Nat} (h:t[l]?=some q):(t.drop B).count q=if B<=l then 1 else 0:=by
 have hd:(t.drop B).Nodup:=hn.sublist (List.drop_sublist B t);by_cases hB:B<=l
 ·rw [if_pos hB]
  have hm:q∈t.drop B:=Aai (i:=l - B) (by rw [AbE,show B+(l - B)=l by omega];exact h);have h1:=List.nodup_iff_count.mp hd q;have h2:=List.count_pos_iff.mpr hm;omega
 ·rw [if_neg hB]
  refine List.count_eq_zero.mpr fun hm=>?_
  obtain ⟨i,hi⟩:=List.getElem?_of_mem hm;rw [AbE] at hi;have e1:=iz hn h;have e2:=iz hn hi;omega
theorem z6 (u:List Nat) (q:Nat):u.countP (fun x=>decide (x < q+1))=u.countP (fun x=>decide (x < q))+u.count q:=by
 induction u with
 | nil=>rfl
 | cons x u ih=>
  rw [List.countP_cons,List.countP_cons,List.count_cons,ih];by_cases h1:x < q
  ·have:x < q+1:=by omega
   have:¬ x=q:=by omega
   simp [*];omega
  ·by_cases h2:x=q
   ·subst h2
    simp;omega
   ·have:¬ x < q+1:=by omega
    simp [*]
def cA (m far:Nat) (e:Nat->Nat->Bool) (i j:Nat):Bool:=e i j || decide ((stE m far e i j).getD (m - i+j) 0 < (stE m far e i j).getD (m - 1 - i+j) 0)
structure Gd (m far:Nat) (e:Nat->Nat->Bool) (i j:Nat):Prop where
 ln:gA m (cA m far e) i j=(stE m far e i j).getD (m - 1 - i+j) 0
 lo:∀ k,k < j->gD m (cA m far e) k (i+1)=(stE m far e i j).getD (m - 1 - i+k) 0
 hi:∀ k,j<=k->k < far->gD m (cA m far e) k i=(stE m far e i j).getD (m - i+k) 0
theorem Uo {m far:Nat} {e:Nat->Nat->Bool} {i j:Nat} (hn:m+far<=96) (hi:i < m) (hj:j < far) (w:Gd m far e i j):Gd m far e i (j+1):=by
 have hP:=JC (e:=e) hn (.inl ⟨hi,Nat.le_of_lt hj⟩);have hl:=JD m far e i j;have h2:=w.hi j (Aad _) hj;by_cases hc:cA m far e i j=true
 ·have eE:stE m far e i (j+1)=stE m far e i j:=by
   rw [FT]
   split
   ·rfl
   ·rename_i hne
    unfold cA at hc;have hlt:=Ab6 ((Bool.or_eq_true _ _ ▸ hc).resolve_left hne);unfold aW;rw [if_neg];unfold tD;rw [show m - 1 - i+j+1=m - i+j by omega];simp only [decide_eq_true_eq];omega
  refine ⟨?_,fun k hk=>?_,fun k hk hk2=>?_⟩
  ·rw [vI,if_pos hc,eE,h2,show m - 1 - i+(j+1)=m - i+j by omega]
  ·rw [eE]
   by_cases e1:k=j
   ·subst e1
    rw [sX,if_pos hc];exact w.ln
   ·exact w.lo k (by omega)
  ·rw [eE];exact w.hi k (by omega) hk2
 ·have hcF:cA m far e i j=false:=by simpa using hc
  unfold cA at hcF;obtain ⟨h3,h4⟩:=AbM.mp hcF;have h4:=of_decide_eq_false h4
  have hne:(stE m far e i j).getD (m - 1 - i+j) 0≠(stE m far e i j).getD (m - i+j) 0:=fun z=>by
   have:=Cw (n:=m+far) (by have:=hP.pm;rw [hl] at this;exact this) (by omega) (by omega) z;omega
  have hw:tD (stE m far e i j) (m - 1 - i+j)=true:=by
   unfold tD;rw [show m - 1 - i+j+1=m - i+j by omega];simp only [decide_eq_true_eq];omega
  have eE:stE m far e i (j+1)=aW (stE m far e i j) (m - 1 - i+j):=by rw [FT,h3];rfl
  obtain ⟨s1,s2⟩:=Ub (by rw [hl];omega) hw;refine ⟨?_,fun k hk=>?_,fun k hk hk2=>?_⟩
  ·rw [vI,if_neg hc,eE,show m - 1 - i+(j+1)=m - 1 - i+j+1 by omega,s2];exact w.ln
  ·rw [eE]
   by_cases e1:k=j
   ·subst e1
    rw [sX,if_neg hc,s1,show m - 1 - i+k+1=m - i+k by omega];exact h2
   ·rw [step_get (.inl (by omega))]
    exact w.lo k (by omega)
  ·rw [eE,step_get (.inr (by omega))]
   exact w.hi k (by omega) hk2
theorem Do {m far:Nat} {e:Nat->Nat->Bool} {i:Nat} (hn:m+far<=96) (hi:i < m) (h:Gd m far e i 0):∀ j,j<=far->Gd m far e i j
 | 0,_=>h
 | j+1,hj=>Uo hn hi (by omega) (Do hn hi h j (by omega))
theorem HW {m far:Nat} {e:Nat->Nat->Bool} (hn:m+far<=96):∀ i,i<=m->∀ k,k < far->gD m (cA m far e) k i=(stE m far e i 0).getD (m - i+k) 0
 | 0,_,k,hk=>by
  rw [ye,QC,Aac,Aat (by omega)];rfl
 | i+1,hi,k,hk=>by
  have ih:=HW (e:=e) hn i (by omega);have g0:Gd m far e i 0:=⟨by rw [vH,Nat.add_zero,JF (by omega) (.inr ⟨rfl,rfl⟩)],fun k hk=>absurd hk (Nat.not_lt_zero _),fun k _ hk=>ih k hk⟩;rw [(Do hn (by omega) g0 far (Aad _)).lo k hk,T9,show m - (i+1)+k=m - 1 - i+k by omega]
theorem Up {m far:Nat} {e:Nat->Nat->Bool} (hn:m+far<=96):Rule m far e (cA m far e):=fun i j hi hj=>by
 have g0:Gd m far e i 0:=⟨by rw [vH,Nat.add_zero,JF hi (.inr ⟨rfl,rfl⟩)],fun k hk=>absurd hk (Nat.not_lt_zero _),fun k _ hk=>HW hn i (by omega) k hk⟩;have g:=Do hn hi g0 j (by omega);rw [g.hi j (Aad _) hj,g.ln];rfl
theorem aas {m far:Nat} {e:Nat->Nat->Bool} (hn:m+far<=96) {p:Nat} (hp:p < far):(LN m far e)[gD m (cA m far e) p m]?=some p:=by
 have hP:=JC (m:=m) (far:=far) (e:=e) hn (.inr ⟨Aad m,rfl⟩);have hl:=JD m far e m 0;rw [HW hn m (Aad _) p hp,Abt,Nat.zero_add];unfold LN;rw [← Ua];have hx:=hP.lt (Aai (getD_some (B:=stE m far e m 0) (i:=p) (by omega)));rw [getD_some (by rw [bV];exact hx),Tu hP (by omega)]
theorem QL {m far:Nat} {C:Nat->Nat->Bool} {t:List Nat} (hn:t.Nodup) (ht:∀ p,p < far->t[gD m C p m]?=some p) (B:Nat):∀ q,q<=far->HN t B q=cn m C m B q
 | 0,_=>by unfold HN cn;simp
 | q+1,h=>by
  have ih:=QL hn ht B q (by omega);unfold HN at ih ⊢;rw [z6,ih,HS hn (ht q (by omega))];rfl
theorem Vt {m far:Nat} {e:Nat->Nat->Bool} (hm:m+far<=96) {c d:Nat} (hc:c<=d) (hd:d<=far):rk (LN m far e) m 0 m c d=tb e c m (d - c):=by
 have h1:=vK (Up (e:=e) hm) c m (Aad _) (d - c) (by omega);rw [show c+(d - c)=d by omega] at h1;unfold rk;rw [Nat.sub_zero,Abt,Nat.zero_add,QL (wy hm).nd (fun p hp=>aas hm hp) _ _ hd];omega
theorem JQ (e:Nat->Nat->Bool) (b:Nat):∀ i k,0<=tb e b i k/\tb e b i k<=k
 | 0,k=>by rw [Dl];omega
 | i+1,0=>by rw [Gj];omega
 | i+1,k+1=>by
  have h1:=JQ e b i k;have h2:=JQ e b (i+1) k;have h3:=JQ e b i (k+1);rw [HR];unfold Vs
  split
  ·omega
  ·split <;> omega
section
variable {P:Program} {w:World} {K:W.Frag} {mg:Str->Option Value} {base:Heap}
def Yd (K:W.Frag):Sp:=fun vs H Q _=>∃ (a:Addr) (ns:List Int) (k:Int),vs=[.ref a,.int k]/\SqL K H a (ns.map V.int)/\0<=k/\∀ n,Q (.int n) H
theorem zq:aG ["_law_script","_law_k"] ["_law_script","_law_k"] (aB oH):=⟨rfl,rfl,rfl,by trivial,rfl,by trivial,by trivial⟩
theorem jl (T:Txt K mg):Has P w K mg base 1 "_law_cell_at" ["_law_script","_law_k"] (Yd K):=by
 refine eO T.d_law_cell_at zq (fun _ _ _ _ _ _ us hl=>L2.mJ (fun _ _=>rfl) us hl) ?_ fun f cdv A outer s H vs Q E hr h=>?_
 ·rintro vs H Q E ⟨a,ns,k,rfl,_⟩;rfl
 obtain ⟨a,ns,k,rfl,hS,h0,q⟩:=h;have hu:=hr.units0;have hu64:=hr.units;apply ⟨_,(aA (bQ (bh DY (aq 1) (aJ (aH (K:=K) rfl) aU T.b_len aR (aa (aq 0) ao) (by trivial) (by trivial)) (by walk_at "p")) (aC (aL (bT (K:=K) rfl (aq 0) (aq 1)))) bj) (aC (aL aF))),?_⟩;apply d9 hS ?_;refine qG (fun hk=>?_) (fun hk=>?_)
 ·rw [Aaf] at hk
  walk_at "s";refine bc hS (xQ (v:=.int (ns.getD k.toNat 0)) h0 ?_) (q _);rw [Aah,Aac,Aaa (by omega)];rfl
 ·walk_at "s"
  exact q _
def lc' (n:Nat):Nat:=(Str.ofString "abcdefghijklmnopqrstuvwxyz").cps.toList.getD n 0
theorem aat:∀ n∈List.range 26,97<=lc' n/\lc' n < 123:=by trivial
def aau:Sp:=fun vs H Q _=>∃ n:Int,vs=[.int n]/\∀ c,97<=c->c < 123->Q (.str ⟨#[c]⟩) H
theorem z7:aG ["_law_number"] ["_law_number"] (aB p6):=⟨rfl,rfl,rfl,by trivial,rfl,by trivial,by trivial⟩
theorem jc (T:Txt K mg):Has P w K mg base 1 "_law_letter" ["_law_number"] aau:=by
 refine eO T.d_law_letter z7 (fun _ _ _ _ _ _ us hl=>L2.jE (fun _=>rfl) us hl) ?_ fun f cdv A outer s H vs Q E hr h=>?_
 ·rintro vs H Q E ⟨n,rfl,_⟩;rfl
 obtain ⟨n,rfl,q⟩:=h;have hu:=hr.units0;have hu64:=hr.units;apply ⟨_,(aC (aL (bT (K:=K) rfl qt (aY jn (aq 0) aF)))),?_⟩;have hl:(Str.ofString "abcdefghijklmnopqrstuvwxyz").cps.toList.length=26:=by trivial
 have hk:=aat (n % 26).toNat (AaA.mpr (by omega));refine yE (c:=lc' (n % 26).toNat) (by trivial) ?_ (q _ hk.1 hk.2);refine xQ (by omega) ?_;have hi:(n % 26).toNat < (Str.ofString "abcdefghijklmnopqrstuvwxyz").cps.toList.length:=by rw [hl];omega
 unfold lc';rw [Aac,Aaa hi];rfl
def Uq:Sp:=fun vs H Q _=>∃ n:Int,vs=[.int n]/\∀ m:Int,Q (.int m) H
theorem jd:aG ["_law_cell","_law_found","_law_number","_law_k"] ["_law_cell"] (aB q9):=⟨rfl,rfl,rfl,by trivial,rfl,by trivial,by trivial⟩
theorem rO (T:Txt K mg):Has P w K mg base 1 "_law_great" ["_law_cell"] Uq:=by
 refine eO T.d_law_great jd (fun _ _ _ _ _ _ us hl=>L2.jE (fun _=>rfl) us hl) ?_ fun f cdv A outer s H vs Q E hr h=>?_
 ·rintro vs H Q E ⟨n,rfl,_⟩;rfl
 obtain ⟨n,rfl,q⟩:=h;have hu:=hr.units0;have hu64:=hr.units;apply ⟨_,(aA (bQ (bh Ij (aq 0) (aY Wi aF aF) (by walk_at "p")) (aC (aL (aq 0))) bj) (aA (aM (i:=1) jd.nd rfl dI aF rfl) (aA (aM (i:=2) jd.nd rfl dI (aY aQ (aY jn (aq 0) aF) aF) rfl) (aA (eN AaF rfl (km aU T.b_range (aa aF ao)) (bB (i:=3) jd.nd rfl dI rfl) (aA (aM (i:=2) jd.nd rfl dI (aY jn (aY aQ (aY aQ (aY nQ (aq 2) (aq 2)) (aY nQ aF (aq 2))) (aq 3)) aF) rfl) (aC (aM (i:=1) jd.nd rfl dI (aY aQ (aY nQ (aq 1) aF) (aY jn (aY nQ (aq 2) aF) aF)) rfl)))) (aC (aL (aq 1))))))),?_⟩;refine qG (fun h1=>?_) (fun h1=>?_)
 ·walk_at "s"
  exact q _
 ·walk_at "s"
  refine ⟨8,rfl,by decide,by decide,?_⟩;refine oW (lo:=0) (n:=8) (fun k U H'=>∃ (f m:Int) (x:Option V),H'=H/\0<=m/\m < 2147500000/\U=[some (.int n),some (.int f),some (.int m),x]) ⟨0,n % 2147483647+12345,none,rfl,by omega,by omega,rfl⟩ ?_ ?_
  ·rintro i U H' hi ⟨f,m,x,rfl,h1,h2,rfl⟩
   walk_at "s";refine ⟨_,_,_,rfl,?_,?_,rfl⟩
   ·omega
   ·omega
  ·rintro U H' ⟨f,m,x,rfl,h1,h2,rfl⟩
   walk_at "s";exact q _
theorem Pln.nil:Pln (Str.ofString ""):=⟨by trivial,fun c hc=>by revert c;trivial⟩
theorem Pln.push {z:Str} {c:Nat} (h:∀ c∈z.cps.toList,97<=c/\c < 123) (h1:97<=c) (h2:c < 123):∀ d∈(z ++ (⟨#[c]⟩:Str)).cps.toList,97<=d/\d < 123:=fun d hd=>by
 rw [cps_append] at hd;rcases Aaz.mp hd with g | g
 ·exact h d g
 ·simp at g;subst g;exact ⟨h1,h2⟩
theorem Ur (d:Int) (h0:0<=d) (h1:d < 6):∃ w:Int,zE ([.int 1,.int 2,.int 2,.int 3,.int 4,.int 26]:List V) d=some (.int w)/\0 < w/\w<=26:=by
 obtain ⟨n,rfl⟩:∃ n:Nat,d=n:=⟨d.toNat,by omega⟩;have hn:n=0\/n=1\/n=2\/n=3\/n=4\/n=5:=by omega
 rcases hn with rfl | rfl | rfl | rfl | rfl | rfl
 ·exact ⟨1,rfl,by decide,by decide⟩
 ·exact ⟨2,rfl,by decide,by decide⟩
 ·exact ⟨2,rfl,by decide,by decide⟩
 ·exact ⟨3,rfl,by decide,by decide⟩
 ·exact ⟨4,rfl,by decide,by decide⟩
 ·exact ⟨26,rfl,by decide,by decide⟩
def Ye:Sp:=fun vs H Q _=>∃ (n:Int),vs=[.int n,.int 24]/\∀ z H',Same H H'->Pln z->Q (.str z) H'
theorem dJ:aG ["_law_cell","_law_most","_law_number","_law_many","_law_wide","_law_first","_law_row_here","_law_k"] ["_law_cell","_law_most"] (aB wC):=⟨rfl,rfl,rfl,by trivial,rfl,by trivial,by trivial⟩
theorem mG (T:Txt K mg):Has P w K mg base 2 "_law_row" ["_law_cell","_law_most"] Ye:=by
 have rO:=rO (P:=P) (w:=w) (base:=base) T;have jc:=jc (P:=P) (w:=w) (base:=base) T;refine eO T.d_law_row dJ (fun _ _ _ _ _ _ us hl=>L2.mJ (fun _ _=>rfl) us hl) ?_ fun f cdv A outer s H vs Q E hr h=>?_
 ·rintro vs H Q E ⟨n,rfl,_⟩;rfl
 obtain ⟨n,rfl,q⟩:=h;have hu:=hr.units0;have hu64:=hr.units;refine ⟨_,(aA (aM (i:=2) dJ.nd rfl dI (aK rO (hr.mono (by decide)) aU (aa (aq 0) ao) (by trivial)) rfl) (aA (aM (i:=3) dJ.nd rfl dI (aY jn (aq 2) aF) rfl) (aA (bQ (bh (fH (K:=K) rfl hu64) (aY jn (aY mq (aq 2) aF) aF) aF (by walk_at "p")) (aC (aM (i:=3) dJ.nd rfl dI (aY jn (aY mq (aq 2) aF) (aY aQ (aq 1) aF)) rfl)) bj) (aA (aM (i:=2) dJ.nd rfl dI (aY mq (aq 2) aF) rfl) (aA (aM (i:=4) dJ.nd rfl dI (bT (K:=K) rfl (gJ (aa aF (aa aF (aa aF (aa aF (aa aF (aa aF ao))))))) (aY jn (aq 2) aF)) rfl) (aA (aM (i:=5) dJ.nd rfl dI (aY mq (aq 2) aF) rfl) (aA (aM (i:=2) dJ.nd rfl dI (aY mq (aq 5) aF) rfl) (aA (aM (i:=6) dJ.nd rfl dI qt rfl) (aA (eN AaF rfl (km aU T.b_range (aa (aq 3) ao)) (bB (i:=7) dJ.nd rfl dI rfl) (aA (aM (i:=6) dJ.nd rfl dI (aY aQ (aq 6) (aK jc (hr.mono (by decide)) aU (aa (aY aQ (aY jn (aq 5) aF) (aY jn (aq 2) (aq 4))) ao) (by trivial))) rfl) (aC (aM (i:=2) dJ.nd rfl dI (aY mq (aq 2) (aq 4)) rfl)))) (aC (aL (aq 6)))))))))))),?_⟩;walk_at "n";with_reducible refine lZ ?_
 walk_at "n";refine ⟨_,rfl,fun m=>?_⟩;walk_at "n";with_reducible refine lZ ?_
 walk_at "n";with_reducible refine Pk (fun U H1=>∃ k:Nat,k<=24/\H1=H/\U=[some (.int n),some (.int 24),some (.int m),some (.int k),none,none,none,none]) ?_ ?_
 rotate_left
 ·intro N hN
  walk_at "n";refine qG (fun h3=>?_) (fun h3=>?_)
  ·walk_at "n"
   exact hN _ _ ⟨(m / 72 % 25).toNat,by omega,rfl,by rw [AbP (by omega)];rfl⟩
  ·walk_at "n"
   exact hN _ _ ⟨(m % 9).toNat,by omega,rfl,by rw [AbP (by omega)];rfl⟩
 ·rintro U H1 ⟨k,hk,rfl,rfl⟩
  walk_at "s";apply b8 rfl fun p2 H2 n2 S2 h2=>?_
  obtain ⟨w,ew,hw0,hw1⟩:=Ur (m / 1800 % 6) (by omega) (by omega);apply bc (SqL.of h2) ew ?_;refine ⟨k,rfl,by omega,by omega,?_⟩;refine oW (lo:=0) (n:=k) (fun i U H'=>∃ (z:Str) (j f:Int) (x:Option V),H'=H2/\(∀ c∈z.cps.toList,97<=c/\c < 123)/\z.length=i/\U=[some (.int n),some (.int 24),some (.int j),some (.int k),some (.int w),some (.int f),some (.str z),x]) ⟨_,_,_,_,rfl,Pln.nil.2,by trivial,rfl⟩ ?_ ?_
  ·rintro i U H' hi ⟨z,j,f,x,rfl,hR,hl,rfl⟩
   have s1000:1000<=sizeLine:=by decide
   walk_at "s";apply ⟨_,rfl,fun c hc1 hc2=>?_⟩;apply t7 (by rw [Oi];omega) ?_;refine ⟨_,_,_,_,rfl,Pln.push hR hc1 hc2,?_,rfl⟩;have:=jk z ⟨#[c]⟩;show (z ++ (⟨#[c]⟩:Str)).cps.size=i+1;rw [this,show z.cps.size=z.length from rfl,hl];rfl
  ·rintro U H' ⟨z,j,f,x,rfl,hR,hl,rfl⟩
   walk_at "s";exact q z H' S2 ⟨by omega,hR⟩
theorem Pln.one {c:Nat} (h1:97<=c) (h2:c < 123):Pln ⟨#[c]⟩:=⟨by rw [Oi];omega,fun d hd=>by simp at hd;subst hd;exact ⟨h1,h2⟩⟩
def Us:Sp:=fun vs H Q _=>∃ (n:Int),vs=[.int n]/\∀ z H',Same H H'->Pln z->z.cps.size≠0->Q (.str z) H'
theorem vL:aG ["_law_cell","_law_row_here"] ["_law_cell"] (aB rn):=⟨rfl,rfl,rfl,by trivial,rfl,by trivial,by trivial⟩
theorem rP (T:Txt K mg):Has P w K mg base 3 "_law_round" ["_law_cell"] Us:=by
 have mG:=mG (P:=P) (w:=w) (base:=base) T;have jc:=jc (P:=P) (w:=w) (base:=base) T;refine eO T.d_law_round vL (fun _ _ _ _ _ _ us hl=>L2.jE (fun _=>rfl) us hl) ?_ fun f cdv A outer s H vs Q E hr h=>?_
 ·rintro vs H Q E ⟨n,rfl,_⟩;rfl
 obtain ⟨n,rfl,q⟩:=h;have hu64:=hr.units;apply ⟨_,(aA (aM (i:=1) vL.nd rfl dI (aK mG (hr.mono (by decide)) aU (aa (aq 0) (aa aF ao)) (by trivial)) rfl) (aA (bQ (bh (fH (K:=K) rfl hu64) (aq 1) qt (by walk_at "p")) (aC (aL (aK jc (hr.mono (by decide)) aU (aa (aq 0) ao) (by trivial)))) bj) (aC (aL (aq 1))))),?_⟩;apply ⟨n,rfl,fun z H1 S1 hz=>?_⟩;refine qG (fun h=>?_) (fun h=>?_)
 ·walk_at "s"
  apply ⟨_,rfl,fun c h1 h2=>?_⟩;exact q _ H1 S1 (Pln.one h1 h2) (by show 1≠0;decide)
 ·walk_at "s"
  exact q z H1 S1 hz fun e=>h (by rw [sW.mpr e])
end
local macro_rules | `(tactic| walk_at "s") => `(tactic| (with_reducible repeat (first | refine lZ ?_ | walk_at "2")))
local macro_rules | `(tactic| walk_at "n") => `(tactic| (with_reducible repeat (walk_at "2")))
section
variable {P:Program} {w:World} {K:W.Frag} {mg:Str->Option Value} {base:Heap}
def mx (i j:Int):Int:=if j > i then j else i
def lt (S P:List Nat) (i j:Nat):Int:=match i,j with
 | 0,_=>0
 | _+1,0=>0
 | i+1,j+1=>if S[i]?=P[j]? then mx (mx (lt S P i (j+1)) (lt S P (i+1) j)) (lt S P i j+1) else mx (lt S P i (j+1)) (lt S P (i+1) j)
termination_by i+j
theorem lt_0 (S P:List Nat) (j:Nat):lt S P 0 j=0:=by rw [lt]
theorem Dp (S P:List Nat) (i:Nat):lt S P i 0=0:=by cases i <;> rw [lt]
theorem zr (S P:List Nat) (i j:Nat):lt S P (i+1) (j+1)=if S[i]?=P[j]? then mx (mx (lt S P i (j+1)) (lt S P (i+1) j)) (lt S P i j+1) else mx (lt S P i (j+1)) (lt S P (i+1) j):=by rw [lt]
def eQ (S P:List Nat) (i n:Nat):List Int:=(List.range n).map (lt S P i)
theorem pG (S P:List Nat) (i n:Nat):(eQ S P i n).length=n:=by simp [eQ]
theorem JR {S P:List Nat} {i n j:Nat} (h:j < n):(eQ S P i n)[j]?=some (lt S P i j):=by
 unfold eQ;rw [Aah,Aat h];rfl
theorem pH (S P:List Nat) (i n:Nat):eQ S P i (n+1)=eQ S P i n ++ [lt S P i n]:=by
 unfold eQ;rw [Abn,Aau];rfl
def Ut:Sp:=fun vs H Q _=>∃ (a:Addr) (S:List Nat) (i c:Nat) (top:Str),vs=[.ref a,.str ⟨#[c]⟩,.str top]/\S[i]?=some c/\top.length<=48/\H a=some (.lst ((eQ S top.cps.toList i (top.length+1)).map V.int))/\
 ∀ r H',H r=none->Same H H'->H' r=some (.lst ((eQ S top.cps.toList (i+1) (top.length+1)).map V.int))->Q (.ref r) H'
theorem over {H H':Hp} {r:Addr} {o:HO} (s:Same H H') (hn:H r=none):Same H (upd H' r o):=fun b u e=>by
 rw [aD (fun z=>by rw [z,hn] at e;cases e)];exact s b u e
theorem rQ {S P:List Nat} {i n j:Nat} (h:j < n):zE ((eQ S P i n).map V.int) (j:Int)=some (.int (lt S P i j)):=by
 refine jG ?_;rw [Aah,JR h];rfl
theorem dZ:aG ["above","sign","top","row","column","other","length"] ["above","sign","top"] (aB lK):=⟨rfl,rfl,rfl,by trivial,rfl,by trivial,by trivial⟩
theorem lX (T:Txt K mg):Has P w K mg base 1 "lengths_below" ["above","sign","top"] Ut:=by
 refine eO T.d_lengths_below dZ (fun _ _ _ _ _ _ us hl=>L2.pI (fun _ _ _=>rfl) us hl) ?_ fun f cdv A outer s H vs Q E hr h=>?_
 ·rintro vs H Q E ⟨a,S,i,c,top,rfl,_⟩;rfl
 obtain ⟨a,S,i,c,top,rfl,hc,ht,ha,q⟩:=h;have hu:=hr.units0;have hu64:=hr.units;apply ⟨_,(aA (aM (i:=3) dZ.nd rfl dI (gJ (aa aF ao)) rfl) (aA (eN AaF rfl (u0 (K:=K) rfl rfl aU T.b_enumerate (aa (aq 2) ao)) (t8 (K:=K) rfl rfl (fB (bB (i:=4) dZ.nd rfl dI rfl) (fB (bB (i:=5) dZ.nd rfl dI rfl) pK))) (aA (aM (i:=6) dZ.nd rfl dI (aJ (sy rfl) aU T.b_max vX (aa (bT (K:=K) rfl (aq 0) (aY aQ (aq 4) aF)) (aa (bT (K:=K) rfl (aq 3) (aq 4)) ao)) (by trivial) (by trivial)) rfl) (aA (bQ (bh (fH (K:=K) rfl hu64) (aq 1) (aq 5) (by walk_at "p")) (aC (aM (i:=6) dZ.nd rfl dI (aJ (sy rfl) aU T.b_max vX (aa (aq 6) (aa (aY aQ (bT (K:=K) rfl (aq 0) (aq 4)) aF) ao)) (by trivial) (by trivial)) rfl)) bj) (aC (aO (je (K:=K) rfl AaB AaC AaD dF (aq 3) (aa (aq 6) ao))))))) (aC (aL (aq 3))))),?_⟩;apply ⟨by decide,fun r nr=>?_⟩;refine .inl ⟨top,rfl,?_⟩;have hsz:top.cps.size=top.length:=rfl
 refine Hb (fun j U H'=>Same H H'/\H' r=some (.lst ((eQ S top.cps.toList (i+1) (j+1)).map V.int))/\∃ x4 x5 x6,U=[some (.ref a),some (.str ⟨#[c]⟩),some (.str top),some (.ref r),x4,x5,x6])
  ⟨(Same.refl H).upd nr,by rw [aj];unfold eQ;simp [Dp],none,none,none,rfl⟩ ?_ ?_
 ·rintro j U H1 T0 hj ⟨S1,hr1,x4,x5,x6,rfl⟩ nT
  have hj':j < top.length:=hj
  have ed:top.cps.toList[j]?=some (top.cps.getD j 0):=by
   rw [Abz];have:top.cps[j]?=some top.cps[j]:=Abp hj;simp [this,hj]
  refine bN (xs:=[.int j,.str ⟨#[top.cps.getD j 0]⟩]) (SqT.of aj) rfl ?_;have ha2:upd H1 T0 (.tup (qu top j)) a=some (.lst ((eQ S top.cps.toList i (top.length+1)).map V.int)):=fu nT (S1 _ _ ha);have hr2:upd H1 T0 (.tup (qu top j)) r=some (.lst ((eQ S top.cps.toList (i+1) (j+1)).map V.int)):=fu nT hr1;have S2:Same H (upd H1 T0 (.tup (qu top j))):=S1.upd nT
  have hl:((eQ S top.cps.toList (i+1) (j+1)).map V.int).length < sizeLine:=by
   rw [Aaf,pG];exact Aan (show j+1 < 1000 by omega) (by decide)
  walk_at "s";apply bc (SqL.of ha2) (rQ (j:=j+1) (by omega)) ?_;apply bc (SqL.of hr2) (rQ (j:=j) (by omega)) ?_;refine qG (fun hk=>?_) (fun hk=>?_)
  ·have ec:c=top.cps.getD j 0:=by
    have:=Str.mk.inj (V.str.inj hk);simpa using this
   walk_at "s";apply bc (SqL.of ha2) (rQ (j:=j) (by omega)) ?_;apply ⟨.inl ⟨rfl,_,SqL.of hr2⟩,?_⟩;refine dG hr2 hl ?_;refine ⟨over S2 nr,?_,_,_,_,rfl⟩;have ev:lt S top.cps.toList (i+1) (j+1)=mx (mx (lt S top.cps.toList i (j+1)) (lt S top.cps.toList (i+1) j)) (lt S top.cps.toList i j+1):=by rw [zr,if_pos (by rw [hc,ed,ec])]
   rw [aj,pH S _ (i+1) (j+1),ev,Aau];rfl
  ·have ec:¬ S[i]?=top.cps.toList[j]?:=by
    rw [hc,ed];intro z;exact hk (by rw [AaE z])
   walk_at "s";apply ⟨.inl ⟨rfl,_,SqL.of hr2⟩,?_⟩;refine dG hr2 hl ?_;refine ⟨over S2 nr,?_,_,_,_,rfl⟩;have ev:lt S top.cps.toList (i+1) (j+1)=mx (lt S top.cps.toList i (j+1)) (lt S top.cps.toList (i+1) j):=by rw [zr,if_neg ec]
   rw [aj,pH S _ (i+1) (j+1),ev,Aau];rfl
 ·rintro U H1 ⟨S1,hr1,x4,x5,x6,rfl⟩
  walk_at "s";exact q r H1 nr S1 hr1
structure Tab (H:Hp) (t:Addr) (rs:List Addr) (rows:List (List Int)):Prop where
 at_:H t=some (.lst (rs.map V.ref))
 len:rs.length=rows.length
 nd:rs.Nodup
 ne:t ∉ rs
 row:∀ (i:Nat) (r:Addr) (xs:List Int),rs[i]?=some r->rows[i]?=some xs->H r=some (.lst (xs.map V.int))
theorem zeros (S P:List Nat) (n:Nat):(List.replicate n [V.int 0]).flatten=(eQ S P 0 n).map V.int:=by
 induction n with
 | zero=>rfl
 | succ n ih=>
  rw [pH,Aau,← ih,lt_0,List.replicate_succ',List.flatten_append];rfl
theorem HX {α:Type} {xs:List α} {n:Nat} {v:α} (h:xs.length=n+1) (e:xs[n]?=some v):zE xs (-1)=some v:=by
 unfold zE Ku;rw [h,if_neg (by omega),if_pos (by omega)];show xs[((-1:Int)+((n+1:Nat):Int)).toNat]?=some v;rw [show ((-1:Int)+((n+1:Nat):Int)).toNat=n by omega];exact e
def uF (S P:List Nat) (m n:Nat):List (List Int):=(List.range m).map fun i=>eQ S P i n
def aav:Sp:=fun vs H Q _=>∃ side top:Str,vs=[.str side,.str top]/\Row side/\Row top/\∀ t rs H',H t=none->(∀ r∈rs,H r=none)->Same H H'->Tab H' t rs (uF side.cps.toList top.cps.toList (side.length+1) (top.length+1))->Q (.ref t) H'
theorem uG:aG ["side","top","table","sign"] ["side","top"] (aB wB):=⟨rfl,rfl,rfl,by trivial,rfl,by trivial,by trivial⟩
theorem mH (T:Txt K mg):Has P w K mg base 5 "lengths" ["side","top"] aav:=by
 have cG:=cG (P:=P) (w:=w) (base:=base) T;have lX:=lX (P:=P) (w:=w) (base:=base) T;refine eO T.d_lengths uG (fun _ _ _ _ _ _ us hl=>L2.mJ (fun _ _=>rfl) us hl) ?_ fun f cdv A outer s H vs Q E hr h=>?_
 ·rintro vs H Q E ⟨side,top,rfl,_⟩;rfl
 obtain ⟨side,top,rfl,hs,ht,q0⟩:=h;have hu:=hr.units0;have hu64:=hr.units;apply ⟨_,(aA (aO (aK cG (hr.mono (by decide)) aU (aa (aq 0) (aa (aq 1) ao)) (by trivial))) (aA (aM (i:=2) uG.nd rfl dI (gJ (aa (aY nQ (gJ (aa aF ao)) (aY aQ (aJ (aH (K:=K) rfl) aU T.b_len aR (aa (aq 1) ao) (by trivial) (by trivial)) aF)) ao)) rfl) (aA (eN AaF rfl (dR (K:=K) rfl (aq 0)) (bB (i:=3) uG.nd rfl dI rfl) (aC (aO (je (K:=K) rfl AaB AaC AaD dF (aq 2) (aa (aK lX (hr.mono (by decide)) aU (aa (bT (K:=K) rfl (aq 2) (vZ kj aF)) (aa (aq 3) (aa (aq 1) ao))) (by trivial)) ao))))) (aC (aL (aq 2)))))),?_⟩;apply ⟨side,top,rfl,hs,ht,fun H1 S1=>?_⟩;have lt1:top.length<=sizeLine:=Aay ht.1 (by decide);walk_at "s";apply ⟨by simp;decide,fun p0 n0=>?_⟩;apply bM lt1 ?_;apply Cd aj (by omega) (by have:=ht.1;omega) (Aay (show [V.int 0].length*((top.length:Int)+1).toNat<=1000 by have:=ht.1;simp;omega) (by decide)) fun p1 n1=>?_
 apply ⟨by simp;decide,fun t n2=>?_⟩;refine .inr (.inr ⟨side,rfl,?_⟩)
 have e0:(List.replicate ((top.length:Int)+1).toNat [V.int 0]).flatten=(eQ side.cps.toList top.cps.toList 0 (top.length+1)).map V.int:=by
  rw [show ((top.length:Int)+1).toNat=top.length+1 by omega];exact zeros _ _ _
 rw [e0] at n2 ⊢;have nt1:H1 t=none:=(((Same.refl H1).upd n0).upd n1).free n2;have nt:H t=none:=S1.free nt1;have npt:p1≠t:=fun z=>by rw [z,aj] at n2;cases n2
 refine IV (z:=side) (fun i U H'=>Same H H'/\(∃ rs,(∀ r∈rs,H r=none)/\Tab H' t rs (uF side.cps.toList top.cps.toList (i+1) (top.length+1)))/\∃ x3,U=[some (.str side),some (.str top),some (.ref t),x3])
  ⟨(((S1.upd n0).upd n1).upd n2),⟨[p1],fun r hr=>by rw [Aam.mp hr];exact S1.free (((Same.refl H1).upd n0).free n1),⟨aj,by simp [uF],by simp,by simpa using Ne.symm npt,fun i r xs e1 e2=>?_⟩⟩,none,rfl⟩ ?_ ?_
 ·have hi:i=0:=by
   have:=(Aab.mp e1).1;simp at this;exact this
  subst hi;simp [uF] at e1 e2;subst e1 e2;exact fu n2 aj
 ·rintro i U H2 c hc ⟨S2,⟨rs,fr,TB⟩,x3,rfl⟩
  have hi:i < side.length:=by
   have:=(Aab.mp hc).1;simpa [Str.length] using this
  have hrl:rs.length=i+1:=by rw [TB.len];simp [uF]
  obtain ⟨r,er⟩:∃ r,rs[i]?=some r:=⟨_,Aaa (show i < rs.length by omega)⟩;have hrow:=TB.row i r (eQ side.cps.toList top.cps.toList i (top.length+1)) er (by unfold uF;rw [Aah,Aat (by omega)];rfl);walk_at "s";apply ⟨.inl ⟨rfl,_,SqL.of TB.at_⟩,?_⟩;apply bc (SqL.of TB.at_) (HX (n:=i) (v:=.ref r) (by simp [hrl]) (by rw [Aah,er];rfl)) ?_;apply ⟨r,side.cps.toList,i,c,top,rfl,hc,ht.1,hrow,fun r2 H3 nr2 S3 hr2=>?_⟩;refine dG (S3 _ _ TB.at_) (by rw [Aaf,hrl];exact Aan (show i+1 < 1000 by have:=hs.1;omega) (by decide)) ?_;have nr2t:r2≠t:=fun z=>by rw [z,TB.at_] at nr2;cases nr2
  have nrs:∀ r'∈rs,r'≠t:=fun r' hr' z=>TB.ne (by rw [← z];exact hr')
  have nin:r2 ∉ rs:=fun z=>by
   obtain ⟨k,hk,ek⟩:=Abe.mp z;have hk2:k < (uF side.cps.toList top.cps.toList (i+1) (top.length+1)).length:=by rw [← TB.len];exact hk
   have:=TB.row k r2 _ (by rw [Aaa hk,ek]) (Aaa hk2);rw [this] at nr2;cases nr2
  refine ⟨over (S2.trans S3) nt,⟨rs ++ [r2],fun r hr=>(Aaz.mp hr).elim (fr r) fun z=>by rw [Aam.mp z];exact S2.free nr2,⟨by rw [aj];simp,by simp [hrl,uF],?_,?_,fun k r' xs e1 e2=>?_⟩⟩,_,rfl⟩
  ·rw [Ab7]
   exact ⟨TB.nd,by simp,fun a ha b hb z=>nin (by rw [Aam.mp hb] at z;rw [← z];exact ha)⟩
  ·intro z
   rcases Aaz.mp z with z | z
   ·exact TB.ne z
   ·exact nr2t (Aam.mp z).symm
  ·by_cases hk:k < rs.length
   ·rw [Aaw hk] at e1
    rw [aD (nrs r' (Aai e1))];refine S3 _ _ (TB.row k r' xs e1 ?_);unfold uF at e2 ⊢;rw [Aah,Aat (by omega)] at e2;rw [Aah,Aat (by omega)];exact e2
   ·have hk2:k < (rs ++ [r2]).length:=(Aab.mp e1).1
    simp at hk2;have hk3:k=i+1:=by omega
    subst hk3;rw [Aas (by omega),hrl] at e1;simp at e1;subst e1;unfold uF at e2;rw [Aah,Aat (by omega)] at e2;have e3:=AaE e2;rw [aD nr2t,← e3];exact hr2
 ·rintro U H2 ⟨S2,⟨rs,fr,TB⟩,x3,rfl⟩
  walk_at "s";exact q0 t rs H2 nt fr S2 TB
end
theorem QM (i j:Int):i<=mx i j:=by unfold mx;split <;> omega
theorem Uu (i j:Int):j<=mx i j:=by unfold mx;split <;> omega
theorem xj {i j k:Int} (h:i<=k) (h':j<=k):mx i j<=k:=by unfold mx;split <;> omega
theorem JV (S P:List Nat) (i j:Nat):lt S P i j<=lt S P (i+1) j:=by
 cases j with
 | zero=>rw [Dp,Dp];exact Int.le_refl _
 | succ j=>
  rw [zr]
  split
  ·exact Int.le_trans (QM _ _) (QM _ _)
  ·exact QM _ _
theorem Vu (S P:List Nat) (i j:Nat):lt S P i j<=lt S P i (j+1):=by
 cases i with
 | zero=>rw [lt_0,lt_0];exact Int.le_refl _
 | succ i=>
  rw [zr S P i j]
  split
  ·exact Int.le_trans (Uu _ _) (QM _ _)
  ·exact Uu _ _
theorem Gk (S P:List Nat):∀ (n i j:Nat),i+j<=n->lt S P (i+1) j<=lt S P i j+1/\lt S P i (j+1)<=lt S P i j+1
 | n,i,j,h=>by
  have key1:lt S P (i+1) j<=lt S P i j+1:=by
   cases j with
   | zero=>rw [Dp,Dp];omega
   | succ j=>
    cases n with
    | zero=>omega
    | succ n=>
     have a:=(Gk S P n i j (by omega)).1;have b:=Vu S P i j;rw [zr]
     split
     ·exact xj (xj (by omega) (by omega)) (by omega)
     ·exact xj (by omega) (by omega)
  have key2:lt S P i (j+1)<=lt S P i j+1:=by
   cases i with
   | zero=>rw [lt_0,lt_0];omega
   | succ i=>
    cases n with
    | zero=>omega
    | succ n=>
     have a:=(Gk S P n i j (by omega)).2;have b:=JV S P i j;rw [zr]
     split
     ·exact xj (xj (by omega) (by omega)) (by omega)
     ·exact xj (by omega) (by omega)
  exact ⟨key1,key2⟩
theorem Gm {S P:List Nat} {i j:Nat} (h:S[i]?=P[j]?):lt S P (i+1) (j+1)=lt S P i j+1:=by
 have a:=Gk S P (i+j) i j (Aad _);rw [zr,if_pos h];have l:mx (mx (lt S P i (j+1)) (lt S P (i+1) j)) (lt S P i j+1)<=lt S P i j+1:=xj (xj a.2 a.1) (Int.le_refl _);have r:=Uu (mx (lt S P i (j+1)) (lt S P (i+1) j)) (lt S P i j+1);omega
theorem Yg (S P:List Nat) (i j k:Nat):lt S P i j<=lt S P (i+k) j:=by
 induction k with
 | zero=>exact Int.le_refl _
 | succ k ih=>exact Int.le_trans ih (JV S P (i+k) j)
theorem Yh (S P:List Nat) (i j k:Nat):lt S P i j<=lt S P i (j+k):=by
 induction k with
 | zero=>exact Int.le_refl _
 | succ k ih=>exact Int.le_trans ih (Vu S P i (j+k))
theorem Bq {S P:List Nat} {i j i' j':Nat} (h:i<=i') (h':j<=j'):lt S P i j<=lt S P i' j':=by
 obtain ⟨k,rfl⟩:=Nat.le.dest h;obtain ⟨l,rfl⟩:=Nat.le.dest h';exact Int.le_trans (Yg S P i j k) (Yh S P (i+k) j l)
theorem Gn (S P:List Nat) (i j:Nat):0<=lt S P i j:=by
 have:=Bq (S:=S) (P:=P) (Abb i) (Aad j);rwa [lt_0] at this
theorem zu (S P:List Nat):∀ (i j:Nat),lt S P i j<=i
 | 0,j=>by rw [lt_0];omega
 | i+1,j=>by
  have a:=(Gk S P (i+j) i j (Aad _)).1;have b:=zu S P i j;omega
abbrev PP:=Nat×Nat
def pD (p:PP):PyData:=.tuple [.int p.1,.int p.2]
def DG (S P:List Nat) (i n:Nat):List PP:=((List.range n).filter fun j=>decide (S[i]?=P[j]?)).map fun j=>(i,j)
def prs (S P:List Nat):Nat->List PP
 | 0=>[]
 | m+1=>prs S P m ++ DG S P m P.length
theorem vM (S P:List Nat) (i n:Nat):DG S P i (n+1)=DG S P i n ++ if S[i]?=P[n]? then [(i,n)] else []:=by
 unfold DG;rw [Abn,List.filter_append,Aau];by_cases h:S[i]?=P[n]?
 ·simp [List.filter_cons,h]
 ·simp [List.filter_cons,h]
theorem Dq (S P:List Nat) (i n:Nat):(DG S P i n).length<=n:=by
 unfold DG;rw [Aaf];exact Aay (AbG _ _) (by simp)
theorem yf (S P:List Nat) (m:Nat):(prs S P m).length<=m*P.length:=by
 induction m with
 | zero=>simp [prs]
 | succ m ih=>
  have:=Dq S P m P.length;rw [prs,AaR,Nat.succ_mul];omega
theorem Gp {S P:List Nat} {i n:Nat} {p:PP} (h:p∈DG S P i n):p.1=i/\p.2 < n/\S[p.1]?=P[p.2]?:=by
 unfold DG at h;obtain ⟨j,hj,rfl⟩:=AaO.mp h;obtain ⟨h1,h2⟩:=List.mem_filter.mp hj;exact ⟨rfl,AaA.mp h1,Ab6 h2⟩
theorem JX {S P:List Nat} {m:Nat} {p:PP} (h:p∈prs S P m):p.1 < m/\p.2 < P.length/\S[p.1]?=P[p.2]?:=by
 induction m with
 | zero=>cases h
 | succ m ih=>
  rw [prs] at h;rcases Aaz.mp h with h | h
  ·obtain ⟨a,b,c⟩:=ih h
   exact ⟨by omega,b,c⟩
  ·obtain ⟨a,b,c⟩:=Gp h
   exact ⟨by omega,b,c⟩
def TKt (H H':Hp):Prop:=∀ b xs,H b=some (.tup xs)->H' b=some (.tup xs)
theorem TKt.same {H H':Hp} (s:Same H H'):TKt H H':=fun b xs e=>s b _ e
theorem TKt.lst {H:Hp} {q:Addr} {xs:List V} {o:HO} (h:H q=some (.lst xs)):TKt H (upd H q o):=fun b ys e=>by
 rw [aD (fun z=>by rw [z,h] at e;cases e)];exact e
theorem zx {H:Hp} {p:PP} {v:V}:DR H (pD p) v↔∃ a,v= .ref a/\H a=some (.tup [.int p.1,.int p.2]):=by
 unfold pD;rw [Ol];constructor
 ·rintro ⟨a,vs,e,h,r⟩
  rw [ie] at r;obtain ⟨v1,r1,rfl,h1,r2⟩:=r;rw [ie] at r2;obtain ⟨v2,r3,rfl,h2,r4⟩:=r2;rw [gC] at r4;rw [Ce] at h1 h2;subst h1 h2 r4;exact ⟨a,e,h⟩
 ·rintro ⟨a,e,h⟩
  exact ⟨a,_,e,h,ie.mpr ⟨_,_,rfl,Ce.mpr rfl,sE (Ce.mpr rfl)⟩⟩
theorem vN {H H':Hp} (t:TKt H H'):∀ (ps:List PP) (vs:List V),DRs H (ps.map pD) vs->DRs H' (ps.map pD) vs
 | [],vs,h=>by rw [List.map_nil,gC] at h ⊢;exact h
 | p :: ps,vs,h=>by
  rw [AaW,ie] at h ⊢;obtain ⟨v,r,e,hd,hr⟩:=h;obtain ⟨a,ea,ha⟩:=zx.mp hd;exact ⟨v,r,e,zx.mpr ⟨a,ea,t _ _ ha⟩,vN t ps r hr⟩
def PL (H:Hp) (q:Addr) (ps:List PP):Prop:=∃ vs,H q=some (.lst vs)/\DRs H (ps.map pD) vs
theorem PL.keep {H H':Hp} {q:Addr} {ps:List PP} (h:PL H q ps) (t:TKt H H') (e:∀ vs,H q=some (.lst vs)->H' q=some (.lst vs)):PL H' q ps:=by
 obtain ⟨vs,h1,h2⟩:=h;exact ⟨vs,e vs h1,vN t ps vs h2⟩
theorem PL.same {H H':Hp} {q:Addr} {ps:List PP} (h:PL H q ps) (s:Same H H'):PL H' q ps:=h.keep (TKt.same s) fun _ e=>s _ _ e
theorem PL.len {H:Hp} {q:Addr} {ps:List PP} (h:PL H q ps):∃ vs,H q=some (.lst vs)/\vs.length=ps.length/\DRs H (ps.map pD) vs:=by
 obtain ⟨vs,h1,h2⟩:=h;exact ⟨vs,h1,by have:=Ci h2;simpa using this,h2⟩
theorem PL.push {H:Hp} {q T:Addr} {ps:List PP} {i j:Nat} (h:PL H q ps) (hT:H T=some (.tup [.int i,.int j])):∃ vs,H q=some (.lst vs)/\vs.length=ps.length/\PL (upd H q (.lst (vs ++ [.ref T]))) q (ps ++ [(i,j)]):=by
 obtain ⟨vs,h1,hl,h2⟩:=h.len;refine ⟨vs,h1,hl,vs ++ [.ref T],aj,?_⟩;rw [Aau];refine kE (vN (TKt.lst h1) ps vs h2) (sE (zx.mpr ⟨T,rfl,TKt.lst h1 _ _ hT⟩))
theorem PL.at_ {H:Hp} {q:Addr} {ps:List PP} {vs:List V} {k:Nat} {v:V} (h:DRs H (ps.map pD) vs) (e:vs[k]?=some v):∃ p a,ps[k]?=some p/\v= .ref a/\H a=some (.tup [.int p.1,.int p.2]):=by
 have hl:=Ci h;rw [Aaf] at hl;have hk:k < ps.length:=by have:=(Aab.mp e).1;omega
 obtain ⟨u,h1,h2⟩:=Om (i:=k) (d:=pD ps[k]) h (by rw [Aah,Aaa hk];rfl);rw [e] at h1;cases h1;obtain ⟨a,ea,ha⟩:=zx.mp h2;exact ⟨ps[k],a,Aaa hk,ea,ha⟩
structure HTab (H:Hp) (t:Addr) (rs:List Addr) (hs:List (List PP)):Prop where
 at_:H t=some (.lst (rs.map V.ref))
 len:rs.length=hs.length
 nd:rs.Nodup
 ne:t ∉ rs
 row:∀ (i:Nat) (r:Addr) (ps:List PP),rs[i]?=some r->hs[i]?=some ps->PL H r ps
theorem HTab.same {H H':Hp} {t:Addr} {rs:List Addr} {hs:List (List PP)} (h:HTab H t rs hs) (s:Same H H'):HTab H' t rs hs:=
 ⟨s _ _ h.at_,h.len,h.nd,h.ne,fun i r ps e1 e2=>(h.row i r ps e1 e2).same s⟩
theorem Tab.same {H H':Hp} {t:Addr} {rs:List Addr} {hs:List (List Int)} (h:Tab H t rs hs) (s:Same H H'):Tab H' t rs hs:=
 ⟨s _ _ h.at_,h.len,h.nd,h.ne,fun i r ps e1 e2=>s _ _ (h.row i r ps e1 e2)⟩
theorem HTab.push {H:Hp} {t:Addr} {rs:List Addr} {hs:List (List PP)} {k:Nat} {r T:Addr} {ps:List PP} {i j:Nat} (h:HTab H t rs hs) (er:rs[k]?=some r) (eh:hs[k]?=some ps) (hT:H T=some (.tup [.int i,.int j])):
  ∃ vs,H r=some (.lst vs)/\vs.length=ps.length/\HTab (upd H r (.lst (vs ++ [.ref T]))) t rs (hs.set k (ps ++ [(i,j)])):=by
 obtain ⟨vs,h1,hl,h2⟩:=(h.row k r ps er eh).push hT;have hm:r∈rs:=Aai er;have ntr:t≠r:=fun z=>h.ne (by rw [z];exact hm)
 refine ⟨vs,h1,hl,⟨by rw [aD ntr];exact h.at_,by rw [AbZ];exact h.len,h.nd,h.ne,fun i' r' ps' e1 e2=>?_⟩⟩;by_cases hik:i'=k
 ·subst hik
  rw [er] at e1;cases e1;rw [AaS (by rw [← h.len];exact (Aab.mp er).1)] at e2;cases e2;exact h2
 ·rw [AaM (Ne.symm hik)] at e2
  have nrr:r'≠r:=fun z=>by
   subst z;obtain ⟨q1,_⟩:=Aab.mp e1;exact hik ((List.getElem?_inj q1 h.nd).mp (e1.trans er.symm))
  exact (h.row i' r' ps' e1 e2).keep (TKt.lst h1) fun _ e=>by rw [aD nrr];exact e
def zH (S P:List Nat) (L:Nat) (ps:List PP):List (List PP):=(List.range L).map fun (k:Nat)=>ps.filter fun p=>decide (lt S P p.1 p.2=(k:Int))
theorem zy {S P:List Nat} {L k:Nat} {ps:List PP} (h:k < L):(zH S P L ps)[k]?=some (ps.filter fun p=>decide (lt S P p.1 p.2=(k:Int))):=by
 unfold zH;rw [Aah,Aat h];rfl
theorem ql (S P:List Nat) (L:Nat) (ps:List PP):(zH S P L ps).length=L:=by simp [zH]
theorem Gq {S P:List Nat} {L k:Nat} {ps:List PP} {p:PP} (hk:lt S P p.1 p.2=(k:Int)) (h:k < L):zH S P L (ps ++ [p])=(zH S P L ps).set k ((ps.filter fun p=>decide (lt S P p.1 p.2=(k:Int))) ++ [p]):=by
 apply AbJ;intro i;by_cases hi:i < L
 ·rw [zy hi,List.filter_append]
  by_cases hik:i=k
  ·subst hik
   rw [AaS (by rw [ql];exact hi)];simp [List.filter_cons,hk]
  ·rw [AaM (Ne.symm hik),zy hi]
   have:¬ lt S P p.1 p.2=(i:Int):=by omega
   simp [List.filter_cons,this]
 ·rw [AaY (by rw [ql];omega),AaY (by rw [AbZ,ql];omega)]
theorem JZ {S P:List Nat} {m n:Nat} {p:PP} (hn:n=P.length) (h:p∈prs S P m):0<=lt S P p.1 p.2/\lt S P p.1 p.2 < lt S P m n:=by
 obtain ⟨a,b,c⟩:=JX h;refine ⟨Gn _ _ _ _,?_⟩;have e:=Gm c;have:lt S P (p.1+1) (p.2+1)<=lt S P m n:=Bq (by omega) (by omega);omega
theorem zA {z:Str} {j:Nat} (hj:j < z.cps.size):z.cps.toList[j]?=some (z.cps.getD j 0):=by
 rw [Abz];have:z.cps[j]?=some z.cps[j]:=Abp hj;simp [this,hj]
theorem Ds {a b:Nat}:V.str ⟨#[a]⟩=V.str ⟨#[b]⟩↔a=b:=by
 constructor
 ·intro h
  have:=Str.mk.inj (V.str.inj h);simpa using this
 ·rintro rfl;rfl
def Out (rs:List Addr) (H H':Hp):Prop:=∀ b o,b ∉ rs->H b=some o->H' b=some o
theorem Out.refl (rs:List Addr) (H:Hp):Out rs H H:=fun _ _ _ e=>e
theorem Out.step {rs:List Addr} {H H':Hp} {r:Addr} {o:HO} (h:Out rs H H') (hr:r∈rs):Out rs H (upd H' r o):=fun b u hb e=>by
 rw [aD (fun z=>hb (by rw [z];exact hr))];exact h b u hb e
theorem Out.same {rs:List Addr} {H0 H H':Hp} (h:Out rs H H') (s:Same H0 H) (n:∀ r∈rs,H0 r=none):Same H0 H':=fun b o e=>
 h b o (fun hb=>by rw [n b hb] at e;cases e) (s b o e)
theorem TKt.out {rs:List Addr} {H H':Hp} (h:Out rs H H') (l:∀ r∈rs,∃ xs,H r=some (.lst xs)):TKt H H':=fun b xs e=>
 h b _ (fun hb=>by obtain ⟨ys,q⟩:=l b hb;rw [q] at e;cases e) e
theorem Tab.out {rs:List Addr} {H H':Hp} {t:Addr} {ts:List Addr} {rows:List (List Int)} (h:Tab H t ts rows) (o:Out rs H H') (n:t ∉ rs) (m:∀ r∈ts,r ∉ rs):Tab H' t ts rows:=
 ⟨o _ _ n h.at_,h.len,h.nd,h.ne,fun i r xs e1 e2=>o _ _ (m r (Aai e1)) (h.row i r xs e1 e2)⟩
theorem Tab.mem {H:Hp} {t:Addr} {rs:List Addr} {rows:List (List Int)} (h:Tab H t rs rows) {r:Addr} (hr:r∈rs):∃ xs,H r=some (.lst xs):=by
 obtain ⟨k,hk,ek⟩:=Abe.mp hr;have hk2:k < rows.length:=by rw [← h.len];exact hk
 exact ⟨_,h.row k r _ (by rw [Aaa hk,ek]) (Aaa hk2)⟩
theorem HTab.mem {H:Hp} {t:Addr} {rs:List Addr} {rows:List (List PP)} (h:HTab H t rs rows) {r:Addr} (hr:r∈rs):∃ xs,H r=some (.lst xs):=by
 obtain ⟨k,hk,ek⟩:=Abe.mp hr;have hk2:k < rows.length:=by rw [← h.len];exact hk
 obtain ⟨vs,e,_⟩:=h.row k r _ (by rw [Aaa hk,ek]) (Aaa hk2);exact ⟨_,e⟩
theorem HTab.out {rs:List Addr} {H H':Hp} {t:Addr} {ts:List Addr} {rows:List (List PP)} (h:HTab H t ts rows) (o:Out rs H H') (l:∀ r∈rs,∃ xs,H r=some (.lst xs)) (n:t ∉ rs) (m:∀ r∈ts,r ∉ rs):HTab H' t ts rows:=
 ⟨o _ _ n h.at_,h.len,h.nd,h.ne,fun i r xs e1 e2=>(h.row i r xs e1 e2).keep (TKt.out o l) fun vs e=>o _ _ (m r (Aai e1)) e⟩
theorem HTab.start {S P:List Nat} {H1 H2:Hp} {D:Addr} {rs:List Addr} {L:Nat} (hl:rs.length=L) (hnd:rs.Nodup) (hrs:∀ r∈rs,H1 r=none/\H2 r=some (.lst [])) (hD:H2 D=none):HTab (upd H2 D (.lst (rs.map V.ref))) D rs (zH S P L []):=by
 have nD:D ∉ rs:=fun z=>by rw [(hrs D z).2] at hD;cases hD
 refine ⟨aj,by rw [ql];exact hl,hnd,nD,fun i r ps e1 e2=>?_⟩;have hm:=Aai e1;have hi:i < L:=by have:=(Aab.mp e1).1;omega
 rw [zy hi] at e2;have e3:=AaE e2;subst e3;refine ⟨[],?_,gC.mpr rfl⟩;rw [aD (fun z=>nD (by rw [← z];exact hm))];exact (hrs r hm).2
theorem Dt {H:Hp} {t:Addr} {rs:List Addr} {S P:List Nat} {m n:Nat} (TB:Tab H t rs (uF S P m n)) {k:Int} {i:Nat} (hk:k=(i:Int)) (hi:i < m):∃ r,zE (rs.map V.ref) k=some (.ref r)/\rs[i]?=some r/\H r=some (.lst ((eQ S P i n).map V.int)):=by
 subst hk;have hrl:rs.length=m:=by rw [TB.len];simp [uF]
 obtain ⟨r,er⟩:∃ r,rs[i]?=some r:=⟨_,Aaa (show i < rs.length by omega)⟩;refine ⟨r,jG (by rw [Aah,er];rfl),er,TB.row i r _ er (by unfold uF;rw [Aah,Aat hi];rfl)⟩
theorem Du {S P:List Nat} {i n j:Nat} {k:Int} (hk:k=(j:Int)) (h:j < n):zE ((eQ S P i n).map V.int) k=some (.int (lt S P i j)):=by
 subst hk;exact rQ h
theorem QQ {z:Str} {k:Int} {j:Nat} (hk:k=(j:Int)) (h:j < z.length):∃ c,z.cps.toList[j]?=some c/\zE z.cps.toList k=some c:=by
 subst hk;have:j < z.cps.toList.length:=by simpa [Str.length] using h
 exact ⟨_,Aaa this,jG (Aaa this)⟩
section
variable {P:Program} {w:World} {K:W.Frag} {mg:Str->Option Value} {base:Heap}
def wb (S P:List Nat) (i j:Nat):List PP:=match i,j with
 | 0,_=>[]
 | _+1,0=>[]
 | i+1,j+1=>if S[i]?=P[j]? then (i,j) :: wb S P i j else if lt S P i (j+1)=lt S P (i+1) (j+1) then wb S P i (j+1) else wb S P (i+1) j
termination_by i+j
theorem Yi (S P:List Nat) (j:Nat):wb S P 0 j=[]:=by rw [wb]
theorem Yj (S P:List Nat) (i:Nat):wb S P i 0=[]:=by cases i <;> rw [wb]
theorem QR (S P:List Nat) (i j:Nat):wb S P (i+1) (j+1)=if S[i]?=P[j]? then (i,j) :: wb S P i j else if lt S P i (j+1)=lt S P (i+1) (j+1) then wb S P i (j+1) else wb S P (i+1) j:=by rw [wb]
theorem Dv (S P:List Nat):∀ (n i j:Nat),i+j<=n->(wb S P i j).length<=i
 | _,0,j,_=>by rw [Yi];simp
 | _,i+1,0,_=>by rw [Yj];simp
 | 0,i+1,j+1,h=>by omega
 | n+1,i+1,j+1,h=>by
  rw [QR]
  split
  ·have:=Dv S P n i j (by omega);simp;omega
  ·split
   ·have:=Dv S P n i (j+1) (by omega);omega
   ·have:=Dv S P n (i+1) j (by omega);omega
def mu34 (U:St) (_:Hp):Nat:=match U[3]?,U[4]? with
 | some (some (V.int z)),some (some (V.int y))=>z.toNat+y.toNat
 | _,_=>0
theorem Dw {H:Hp}:∀ {ds:List PyData} {vs:List V},DRs H ds vs->DRs H ds.reverse vs.reverse
 | [],_,h=>by rw [gC] at h;subst h;exact gC.mpr rfl
 | d :: ds,_,h=>by
  rw [ie] at h;obtain ⟨v,r,rfl,hd,hr⟩:=h;rw [List.reverse_cons,List.reverse_cons];exact kE (Dw hr) (sE hd)
def spG (g:Str->Str->Hp->VK->Prop):Sp:=fun vs H Q _=>∃ side top:Str,vs=[.str side,.str top]/\Row side/\Row top/\g side top H Q
def Uv:Str->Str->Hp->VK->Prop:=fun side top H Q=>∀ (q:Addr) (H':Hp),H q=none->Same H H'->PL H' q (wb side.cps.toList top.cps.toList side.length top.length).reverse->Q (.ref q) H'
theorem dU:aG ["side","top","table","i","j","found"] ["side","top"] (aB qY):=⟨rfl,rfl,rfl,by trivial,rfl,by trivial,by trivial⟩
theorem rR (T:Txt K mg):Has P w K mg base 6 "thread_of" ["side","top"] (spG Uv):=by
 have mH:=mH (P:=P) (w:=w) (base:=base) T;refine eO T.d_thread_of dU (fun _ _ _ _ _ _ us hl=>L2.mJ (fun _ _=>rfl) us hl) ?_ fun f cdv A outer s H vs Q E hr h=>?_
 ·rintro vs H Q E ⟨side,top,rfl,_⟩;rfl
 obtain ⟨side,top,rfl,hs,ht,q⟩:=h;have hu:=hr.units0;have hu64:=hr.units;apply ⟨_,(aA (aM (i:=2) dU.nd rfl dI (aK mH (hr.mono (by decide)) aU (aa (aq 0) (aa (aq 1) ao)) (by trivial)) rfl) (aA (aM (i:=3) dU.nd rfl dI (aJ (aH (K:=K) rfl) aU T.b_len aR (aa (aq 0) ao) (by trivial) (by trivial)) rfl) (aA (aM (i:=4) dU.nd rfl dI (aJ (aH (K:=K) rfl) aU T.b_len aR (aa (aq 1) ao) (by trivial) (by trivial)) rfl) (aA (aM (i:=5) dU.nd rfl dI (gJ ao) rfl) (aA (Ex AaF (mU (Ca (bh uM (aq 3) aF (by walk_at "p")) (xT (bh uM (aq 4) aF (by walk_at "p"))))) (aC (bQ (bh (fH (K:=K) rfl hu64) (bT (K:=K) rfl (aq 0) (aY iu (aq 3) aF)) (bT (K:=K) rfl (aq 1) (aY iu (aq 4) aF)) (by walk_at "p")) (aA (yM (i:=3) dU.nd rfl dI aF uL rfl) (aA (yM (i:=4) dU.nd rfl dI aF uL rfl) (aC (aO (je (K:=K) rfl AaB AaC AaD dF (aq 5) (aa (oZ (aa (aq 3) (aa (aq 4) ao))) ao)))))) (aC (bQ (bh (fH (K:=K) rfl hu64) (bT (K:=K) rfl (bT (K:=K) rfl (aq 2) (aY iu (aq 3) aF)) (aq 4)) (bT (K:=K) rfl (bT (K:=K) rfl (aq 2) (aq 3)) (aq 4)) (by walk_at "p")) (aC (yM (i:=3) dU.nd rfl dI aF uL rfl)) (aC (yM (i:=4) dU.nd rfl dI aF uL rfl))))))) (aC (aL (v4 (K:=K) rfl rfl aU T.b_list aU T.b_reversed (aq 5))))))))),?_⟩;refine ⟨side,top,rfl,hs,ht,fun t rs H1 nt fr S1 TB=>?_⟩;have lz:side.length<=sizeLine:=Aay hs.1 (by decide);have ly:top.length<=sizeLine:=Aay ht.1 (by decide);walk_at "s";apply bM lz ?_;apply bM ly ?_;apply yL rfl fun fd nfd=>?_
 have nH:H fd=none:=S1.free nfd
 refine DX (fun U H'=>∃ (i j:Nat) (fs:List PP),U=[some (.str side),some (.str top),some (.ref t),some (.int i),some (.int j),some (.ref fd)]/\Same H H'/\Tab H' t rs (uF side.cps.toList top.cps.toList (side.length+1) (top.length+1))/\PL H' fd fs/\i<=side.length/\j<=top.length/\fs.length+i<=side.length/\fs ++ wb side.cps.toList top.cps.toList i j=wb side.cps.toList top.cps.toList side.length top.length) mu34
  ⟨side.length,top.length,[],rfl,S1.upd nfd,TB.same ((Same.refl H1).upd nfd),⟨[],aj,gC.mpr rfl⟩,Aad _,Aad _,by simp,rfl⟩ ?_ ?_
 ·rintro U H' ⟨i,j,fs,rfl,s,TB',hf,hi,hj,hfl,hb⟩
  walk_at "s";cases i with
  | zero=>
   rw [Aao (by omega)];walk_at "s";rw [Yi,AaL] at hb;obtain ⟨vs,h1,h2⟩:=hf;refine ⟨_,rfl,_,_,rfl,SqL.of h1,fun r nr=>?_⟩;exact q r _ (s.free nr) (s.upd nr) ⟨_,aj,by rw [← hb,List.map_reverse];exact DRs.same ((Same.refl H').upd nr) _ _ (Dw h2)⟩
  | succ i=>
   rw [Aar (by omega)];walk_at "s";cases j with
   | zero=>
    rw [Aao (by omega)];walk_at "s";rw [Yj,AaL] at hb;obtain ⟨vs,h1,h2⟩:=hf;refine ⟨_,rfl,_,_,rfl,SqL.of h1,fun r nr=>?_⟩;exact q r _ (s.free nr) (s.upd nr) ⟨_,aj,by rw [← hb,List.map_reverse];exact DRs.same ((Same.refl H').upd nr) _ _ (Dw h2)⟩
   | succ j=>
    rw [Aar (by omega)];walk_at "s";obtain ⟨c,hc,ac⟩:=QQ (z:=side) (k:=((i+1:Nat):Int) - 1) (j:=i) (by omega) (by omega);obtain ⟨d,hd,ad⟩:=QQ (z:=top) (k:=((j+1:Nat):Int) - 1) (j:=j) (by omega) (by omega);apply yE lz ac ?_;apply yE ly ad ?_;refine qG (fun hk=>?_) (fun hk=>?_)
    ·have ec:side.cps.toList[i]?=top.cps.toList[j]?:=by rw [hc,hd,Ds.mp hk]
     walk_at "s";apply tO (by with_unfolding_all rfl) ?_;apply tO (by with_unfolding_all rfl) ?_;rw [show ((i+1:Nat):Int) - 1=(i:Int) by omega,show ((j+1:Nat):Int) - 1=(j:Int) by omega];obtain ⟨vs0,h0,_⟩:=id hf;apply ⟨.inl ⟨rfl,_,SqL.of h0⟩,?_⟩;apply ⟨by simp;decide,fun T1 nT1=>?_⟩;have s1:=(Same.refl H').upd nT1 (o:=.tup [.int i,.int j]);obtain ⟨vs,h1,hl,h2⟩:=(hf.same s1).push (T:=T1) aj;refine dG h1 (by rw [hl];exact Aan (show fs.length < 1000 by have:=hs.1;omega) (by decide)) ?_
     have nfT:∀ r∈t :: rs,r≠fd:=fun r hr z=>by
      subst z
      have:H1 r≠none:=by
       rcases Aaj.mp hr with rfl | hr
       ·rw [TB.at_];simp
       ·obtain ⟨xs,e⟩:=TB.mem hr;rw [e];simp
      exact this nfd
     refine ⟨⟨i,j,fs ++ [(i,j)],rfl,over (s.trans s1) nH,(TB'.same s1).out (rs:=[fd]) ((Out.refl [fd] _).step (by simp)) (by simpa using nfT t (by simp)) (fun r hr=>by simpa using nfT r (Aap _ hr)),h2,by omega,by omega,by simp;omega,?_⟩,?_⟩
     ·rw [← hb,QR,if_pos ec,Abl];rfl
     ·show (i:Int).toNat+(j:Int).toNat < ((i+1:Nat):Int).toNat+((j+1:Nat):Int).toNat
      omega
    ·have ec:¬ side.cps.toList[i]?=top.cps.toList[j]?:=by
      rw [hc,hd];intro z;exact hk (by rw [AaE z])
     obtain ⟨r1,a1,_,b1⟩:=Dt TB' (k:=((i+1:Nat):Int) - 1) (i:=i) (by omega) (by omega);obtain ⟨r2,a2,_,b2⟩:=Dt TB' (k:=((i+1:Nat):Int)) (i:=i+1) rfl (by omega);walk_at "s";apply bc (SqL.of TB'.at_) a1 ?_;apply bc (SqL.of b1) (Du (j:=j+1) rfl (by omega)) ?_;apply bc (SqL.of TB'.at_) a2 ?_;apply bc (SqL.of b2) (Du (j:=j+1) rfl (by omega)) ?_;refine qG (fun hk2=>?_) (fun hk2=>?_)
     ·have el:lt side.cps.toList top.cps.toList i (j+1)=lt side.cps.toList top.cps.toList (i+1) (j+1):=by injection hk2
      walk_at "s";apply tO (by with_unfolding_all rfl) ?_;refine ⟨⟨i,j+1,fs,by rw [show ((i+1:Nat):Int) - 1=(i:Int) by omega];rfl,s,TB',hf,by omega,by omega,by omega,?_⟩,?_⟩
      ·rw [← hb,QR,if_neg ec,if_pos el]
      ·show (((i+1:Nat):Int) - 1).toNat+((j+1:Nat):Int).toNat < ((i+1:Nat):Int).toNat+((j+1:Nat):Int).toNat
       omega
     ·have el:¬ lt side.cps.toList top.cps.toList i (j+1)=lt side.cps.toList top.cps.toList (i+1) (j+1):=fun z=>hk2 (by rw [z])
      walk_at "s";apply tO (by with_unfolding_all rfl) ?_;refine ⟨⟨i+1,j,fs,by rw [show ((j+1:Nat):Int) - 1=(j:Int) by omega];rfl,s,TB',hf,by omega,by omega,by omega,?_⟩,?_⟩
      ·rw [← hb,QR,if_neg ec,if_neg el]
      ·show ((i+1:Nat):Int).toNat+(((j+1:Nat):Int) - 1).toNat < ((i+1:Nat):Int).toNat+((j+1:Nat):Int).toNat
       omega
 ·exact Qu (xW (zc (Js _) (uC _) (TV _))) (xW (zc (Js _) (uC _) (TV _)))
def Yk:Str->Str->Hp->VK->Prop:=fun side top H Q=>∀ (q:Addr) (H':Hp),H q=none->Same H H'->PL H' q (prs side.cps.toList top.cps.toList side.length)->Q (.ref q) H'
theorem jA:aG ["side","top","pairs","i","sign","j","other"] ["side","top"] (aB uw):=⟨rfl,rfl,rfl,by trivial,rfl,by trivial,by trivial⟩
theorem uH (T:Txt K mg):Has P w K mg base 5 "pairs_of" ["side","top"] (spG Yk):=by
 have cG:=cG (P:=P) (w:=w) (base:=base) T;refine eO T.d_pairs_of jA (fun _ _ _ _ _ _ us hl=>L2.mJ (fun _ _=>rfl) us hl) ?_ fun f cdv A outer s H vs Q E hr h=>?_
 ·rintro vs H Q E ⟨side,top,rfl,_⟩;rfl
 obtain ⟨side,top,rfl,hs,ht,q⟩:=h;have hu:=hr.units0;have hu64:=hr.units;apply ⟨_,(aA (aO (aK cG (hr.mono (by decide)) aU (aa (aq 0) (aa (aq 1) ao)) (by trivial))) (aA (aM (i:=2) jA.nd rfl dI (gJ ao) rfl) (aA (eN AaF rfl (u0 (K:=K) rfl rfl aU T.b_enumerate (aa (aq 0) ao)) (t8 (K:=K) rfl rfl (fB (bB (i:=3) jA.nd rfl dI rfl) (fB (bB (i:=4) jA.nd rfl dI rfl) pK))) (aC (eN AaF rfl (u0 (K:=K) rfl rfl aU T.b_enumerate (aa (aq 1) ao)) (t8 (K:=K) rfl rfl (fB (bB (i:=5) jA.nd rfl dI rfl) (fB (bB (i:=6) jA.nd rfl dI rfl) pK))) (aC (bQ (bh (fH (K:=K) rfl hu64) (aq 4) (aq 6) (by walk_at "p")) (aC (aO (je (K:=K) rfl AaB AaC AaD dF (aq 2) (aa (oZ (aa (aq 3) (aa (aq 5) ao))) ao)))) bj))))) (aC (aL (aq 2)))))),?_⟩;apply ⟨side,top,rfl,hs,ht,fun H1 S1=>?_⟩;apply ⟨by simp,fun pq npq=>?_⟩;refine .inl ⟨side,rfl,?_⟩;have nH:H pq=none:=S1.free npq
 refine Hb (fun i U H'=>Same H H'/\PL H' pq (prs side.cps.toList top.cps.toList i)/\∃ x3 x4 x5 x6,U=[some (.str side),some (.str top),some (.ref pq),x3,x4,x5,x6])
  ⟨S1.upd npq,⟨[],aj,gC.mpr rfl⟩,none,none,none,none,rfl⟩ ?_ ?_
 ·rintro i U H2 T0 hi ⟨S2,PL2,x3,x4,x5,x6,rfl⟩ nT
  refine bN (xs:=[.int i,.str ⟨#[side.cps.getD i 0]⟩]) (SqT.of aj) rfl ?_;have PL3:=PL2.same ((Same.refl H2).upd nT (o:=.tup (qu side i)));have S3:=S2.upd nT (o:=.tup (qu side i));walk_at "s";refine .inl ⟨top,rfl,?_⟩
  refine Hb (fun j U H'=>Same H H'/\PL H' pq (prs side.cps.toList top.cps.toList i ++ DG side.cps.toList top.cps.toList i j)/\∃ x5 x6,U=[some (.str side),some (.str top),some (.ref pq),some (.int i),some (.str ⟨#[side.cps.getD i 0]⟩),x5,x6])
   ⟨S3,by simpa [DG] using PL3,_,_,rfl⟩ ?_ ?_
  ·rintro j U H4 T1 hj ⟨S4,PL4,x5,x6,rfl⟩ nT1
   refine bN (xs:=[.int j,.str ⟨#[top.cps.getD j 0]⟩]) (SqT.of aj) rfl ?_;have PL5:=PL4.same ((Same.refl H4).upd nT1 (o:=.tup (qu top j)));have S5:=S4.upd nT1 (o:=.tup (qu top j));obtain ⟨vs0,e0,_⟩:=id PL5;have es:=zA (z:=side) hi;have et:=zA (z:=top) hj;walk_at "s";refine qG (fun hk=>?_) (fun hk=>?_)
   ·have ec:side.cps.toList[i]?=top.cps.toList[j]?:=by rw [es,et,Ds.mp hk]
    walk_at "s";apply ⟨.inl ⟨rfl,_,SqL.of e0⟩,?_⟩;apply ⟨by simp;decide,fun T2 nT2=>?_⟩;obtain ⟨vs,h1,hl,h2⟩:=(PL5.same ((Same.refl _).upd nT2 (o:=.tup [.int i,.int j]))).push (T:=T2) aj
    have hz:vs.length < sizeLine:=by
     have a:=yf side.cps.toList top.cps.toList i;have b:=Dq side.cps.toList top.cps.toList i j;have c:i*top.cps.toList.length<=48*48:=Nat.mul_le_mul (by have:=hs.1;have:side.cps.size=side.length:=rfl;omega) (by have:=ht.1;rw [IK] at this;exact this);have d:j < 48:=by have:=ht.1;have:top.cps.size=top.length:=rfl;omega
     rw [hl,AaR];exact Aan (show _ < 5000 by omega) (by decide)
    refine dG h1 hz ⟨over (S5.upd nT2) nH,?_,_,_,rfl⟩;rw [vM,if_pos ec,← Abl];exact h2
   ·have ec:¬ side.cps.toList[i]?=top.cps.toList[j]?:=by
     rw [es,et];intro z;exact hk (by rw [AaE z])
    walk_at "s";refine ⟨S5,?_,_,_,rfl⟩;rw [vM,if_neg ec,AaL];exact PL5
  ·rintro U H4 ⟨S4,PL4,x5,x6,rfl⟩
   refine ⟨S4,?_,_,_,_,_,rfl⟩;have e:top.cps.size=top.cps.toList.length:=by simp
   rw [e] at PL4;exact PL4
 ·rintro U H2 ⟨S2,PL2,x3,x4,x5,x6,rfl⟩
  walk_at "s";exact q pq H2 nH S2 PL2
theorem z8:(["number"]:List Str).Nodup:=by trivial
def Yl:Str->Str->Hp->VK->Prop:=fun side top H Q=>∀ (t:Addr) (rs:List Addr) (H':Hp),H t=none->(∀ r∈rs,H r=none)->Same H H'->
 HTab H' t rs (zH side.cps.toList top.cps.toList (lt side.cps.toList top.cps.toList side.length top.length).toNat (prs side.cps.toList top.cps.toList side.length))->Q (.ref t) H'
theorem oA:aG ["side","top","table","heaps","pair"] ["side","top"] (aB pW):=⟨rfl,rfl,rfl,by trivial,rfl,by trivial,by trivial⟩
theorem uI (T:Txt K mg):Has P w K mg base 6 "heaps_of" ["side","top"] (spG Yl):=by
 have mH:=mH (P:=P) (w:=w) (base:=base) T;have uH:=uH (P:=P) (w:=w) (base:=base) T;refine eO T.d_heaps_of oA (fun _ _ _ _ _ _ us hl=>L2.mJ (fun _ _=>rfl) us hl) ?_ fun f cdv A outer s H vs Q E hr h=>?_
 ·rintro vs H Q E ⟨side,top,rfl,_⟩;rfl
 obtain ⟨side,top,rfl,hs,ht,q⟩:=h;have hu:=hr.units0;have hu64:=hr.units;apply ⟨_,(aA (aM (i:=2) oA.nd rfl dI (aK mH (hr.mono (by decide)) aU (aa (aq 0) (aa (aq 1) ao)) (by trivial)) rfl) (aA (R0 (i:=3) oA.nd rfl dI (sub:=[none]) (d8 (N:=["side","top","table","heaps","pair"]) (sc:=aB pW) (N':=["number"]) (by trivial)) rfl rfl rfl (km aU T.b_range (aa (bT (K:=K) rfl (bT (K:=K) rfl (aq 2) (vZ kj aF)) (vZ kj aF)) ao)) (fun C s₀ H₀ ex=>(qI 0 (by trivial) z8)) (fun C s₀ H₀ ex=>gW) (fun C s₀ H₀ ex=>(gJ ao)) rfl) (aA (eN AaF rfl (dR (K:=K) rfl (aK uH (hr.mono (by decide)) aU (aa (aq 0) (aa (aq 1) ao)) (by trivial))) (bB (i:=4) oA.nd rfl dI rfl) (aC (aO (je (K:=K) rfl AaB AaC AaD dF (bT (K:=K) rfl (aq 3) (bT (K:=K) rfl (bT (K:=K) rfl (aq 2) (bT (K:=K) rfl (aq 4) aF)) (bT (K:=K) rfl (aq 4) aF))) (aa (aq 4) ao))))) (aC (aL (aq 3)))))),?_⟩;refine ⟨side,top,rfl,hs,ht,fun t rs H1 nt fr S1 TB=>?_⟩;have hrl:rs.length=side.length+1:=by rw [TB.len];simp [uF]
 obtain ⟨r1,a1,er1,b1⟩:=Dt TB (k:=(side.length:Int)) (i:=side.length) rfl (by omega);have l0:=Gn side.cps.toList top.cps.toList side.length top.length;have l1:=zu side.cps.toList top.cps.toList side.length top.length;have hs1:=hs.1;walk_at "s";apply bc (SqL.of TB.at_) (HX (n:=side.length) (v:=.ref r1) (by simp [hrl]) (by rw [Aah,er1];rfl)) ?_;apply bc (SqL.of b1) (HX (n:=top.length) (v:=.int (lt side.cps.toList top.cps.toList side.length top.length)) (by rw [Aaf,pG]) (by rw [Aah,JR (by omega)];rfl)) ?_;refine ⟨_,rfl,by omega,by omega,?_⟩;refine Eu (fun i ys H'=>Same H1 H'/\∃ rs':List Addr,ys=rs'.map V.ref/\rs'.length=i/\rs'.Nodup/\∀ r∈rs',H1 r=none/\H' r=some (.lst [])) (Aay (show _<=1000 by omega) (by decide)) ⟨Same.refl _,[],rfl,rfl,by simp,by simp⟩ (by rintro i ys H ⟨_,zs,rfl,hl,_⟩;simp [hl]) ?_ ?_
 ·rintro i ys H2 hi ⟨S2,rs',rfl,hl,hnd,hrs⟩
  walk_at "s";apply ⟨KeepSt.set rfl,?_⟩;try with_reducible refine jD ?_
  walk_at "s";refine ⟨by simp,fun r nr=>⟨S2.upd nr,rs' ++ [r],by simp,by simp [hl],?_,fun r' hr'=>?_⟩⟩
  ·rw [Ab7]
   exact ⟨hnd,by simp,fun a ha b hb z=>by rw [Aam.mp hb] at z;rw [z] at ha;rw [(hrs r ha).2] at nr;cases nr⟩
  ·rcases Aaz.mp hr' with h | h
   ·exact ⟨(hrs r' h).1,fu nr (hrs r' h).2⟩
   ·rw [Aam.mp h];exact ⟨S2.free nr,aj⟩
 ·rintro ys H2 ⟨S2,rs',rfl,hl,hnd,hrs⟩ D hD
  walk_at "s";refine ⟨_,_,rfl,hs,ht,fun q1 H3 nq1 S3 PL3=>?_⟩;obtain ⟨vs,hv,hvl,hvd⟩:=PL3.len;have S12:Same H1 (upd H2 D (.lst (rs'.map V.ref))):=S2.upd hD;have HT2:HTab (upd H2 D (.lst (rs'.map V.ref))) D rs' (zH side.cps.toList top.cps.toList (lt side.cps.toList top.cps.toList side.length top.length).toNat []):=HTab.start (H1:=H1) hl hnd hrs hD;have HT3:=HT2.same S3;have TB3:=TB.same (S12.trans S3);have lrs:∀ r∈rs',∃ xs,H3 r=some (.lst xs):=fun r hr=>HT3.mem hr
  have nH1:∀ r∈rs',H1 r=none:=fun r hr=>(hrs r hr).1
  have ntr:t ∉ rs':=fun z=>by have:=nH1 t z;rw [TB.at_] at this;cases this
  have nrr:∀ r∈rs,r ∉ rs':=fun r hr z=>by have:=nH1 r z;obtain ⟨xs,e⟩:=TB.mem hr;rw [e] at this;cases this
  have nqr:q1 ∉ rs':=fun z=>by obtain ⟨xs,e⟩:=HT2.mem z;rw [e] at nq1;cases nq1
  refine .inl ⟨q1,rfl,⟨_,SqL.of hv⟩,?_⟩
  refine lw (xs:=vs) (fun k U H'=>Out rs' H3 H'/\HTab H' D rs' (zH side.cps.toList top.cps.toList (lt side.cps.toList top.cps.toList side.length top.length).toNat ((prs side.cps.toList top.cps.toList side.length).take k))/\∃ x4,U=[some (.str side),some (.str top),some (.ref t),some (.ref D),x4])
   ⟨Out.refl _ _,by simpa using HT3,none,rfl⟩ (fun i U H' _ h=>SqL.of (h.1 _ _ nqr hv)) ?_ ?_
  ·rintro k v U H4 hk ⟨O4,HT4,x4,rfl⟩
   have tk4:=TKt.out O4 lrs;have TB4:=TB3.out O4 ntr nrr;obtain ⟨p,a,ep,rfl,ha⟩:=PL.at_ (q:=q1) (vN tk4 _ _ hvd) hk;have hm:=Aai ep;obtain ⟨m1,m2,m3⟩:=JX hm;obtain ⟨v1,v2⟩:=JZ (n:=top.length) (by simp [Str.length]) hm;have m2':p.2 < top.length:=by simpa [Str.length] using m2
   obtain ⟨r5,a5,er5,b5⟩:=Dt TB4 (k:=(p.1:Int)) (i:=p.1) rfl (by omega);have hL:(lt side.cps.toList top.cps.toList p.1 p.2).toNat < rs'.length:=by omega
   have er6:rs'[(lt side.cps.toList top.cps.toList p.1 p.2).toNat]?=some rs'[(lt side.cps.toList top.cps.toList p.1 p.2).toNat]:=Aaa hL;obtain ⟨ws,hw,hwl,HT5⟩:=HT4.push er6 (zy (by omega)) ha;walk_at "s";apply bc (SqL.of TB4.at_) a5 ?_;apply bc (SqL.of b5) (Du (j:=p.2) rfl (by omega)) ?_;refine bc (SqL.of HT4.at_) (xQ v1 (v:=.ref rs'[(lt side.cps.toList top.cps.toList p.1 p.2).toNat]) (by rw [Aah,er6];rfl)) ?_;apply ⟨.inl ⟨rfl,_,SqL.of hw⟩,?_⟩
   have hz:ws.length < sizeLine:=by
    have a:=yf side.cps.toList top.cps.toList side.length;have c:side.length*top.cps.toList.length<=48*48:=Nat.mul_le_mul hs1 (by have:=ht.1;rw [IK] at this;exact this);have e:=AbG (fun p':PP=>decide (lt side.cps.toList top.cps.toList p'.1 p'.2=(((lt side.cps.toList top.cps.toList p.1 p.2).toNat:Nat):Int))) ((prs side.cps.toList top.cps.toList side.length).take k);have f:((prs side.cps.toList top.cps.toList side.length).take k).length<=(prs side.cps.toList top.cps.toList side.length).length:=by rw [Abs];omega
    exact Aan (show ws.length < 5000 by omega) (by decide)
   refine dG hw hz ⟨O4.step (Aa6 hL),?_,_,rfl⟩;have et:(prs side.cps.toList top.cps.toList side.length).take (k+1)=(prs side.cps.toList top.cps.toList side.length).take k ++ [p]:=by rw [Aa4,ep];rfl
   rw [et,Gq (k:=(lt side.cps.toList top.cps.toList p.1 p.2).toNat) (by omega) (by omega)];exact HT5
  ·rintro U H4 ⟨O4,HT4,x4,rfl⟩
   walk_at "s";have nHD:H D=none:=S1.free (S2.free hD);refine q D rs' H4 nHD (fun r hr=>S1.free (nH1 r hr)) (O4.same ((S1.trans S12).trans S3) fun r hr=>S1.free (nH1 r hr)) ?_;rw [hvl,AaU (Aad _)] at HT4;exact HT4
end
local macro_rules | `(tactic| walk_at "s") => `(tactic| (with_reducible repeat (first | refine lZ ?_ | walk_at "3")))
local macro_rules | `(tactic| walk_at "n") => `(tactic| (with_reducible repeat (walk_at "3")))
section
variable {P:Program} {w:World} {K:W.Frag} {mg:Str->Option Value} {base:Heap}
def Ym:Str->Str->Hp->VK->Prop:=fun side top H Q=>∀ (kp th hp:Addr) (rs:List Addr) (H':Hp),Same H H'->H' kp=some (.tup [.ref th,.ref hp])->H th=none->H hp=none->(∀ r∈rs,H r=none)->th≠hp->th ∉ rs->
 PL H' th (wb side.cps.toList top.cps.toList side.length top.length).reverse->HTab H' hp rs (zH side.cps.toList top.cps.toList (lt side.cps.toList top.cps.toList side.length top.length).toNat (prs side.cps.toList top.cps.toList side.length))->Q (.ref kp) H'
theorem Gr:aG ["side","top"] ["side","top"] (aB ux):=⟨rfl,rfl,rfl,by trivial,rfl,by trivial,by trivial⟩
theorem uJ (T:Txt K mg):Has P w K mg base 7 "paper_of" ["side","top"] (spG Ym):=by
 have rR:=rR (P:=P) (w:=w) (base:=base) T;have uI:=uI (P:=P) (w:=w) (base:=base) T;refine eO T.d_paper_of Gr (fun _ _ _ _ _ _ us hl=>L2.mJ (fun _ _=>rfl) us hl) ?_ fun f cdv A outer s H vs Q E hr h=>?_
 ·rintro vs H Q E ⟨side,top,rfl,_⟩;rfl
 obtain ⟨side,top,rfl,hs,ht,q⟩:=h;apply ⟨_,(aC (aL (oZ (aa (aK rR (hr.mono (by decide)) aU (aa (aq 0) (aa (aq 1) ao)) (by trivial)) (aa (aK uI (hr.mono (by decide)) aU (aa (aq 0) (aa (aq 1) ao)) (by trivial)) ao))))),?_⟩;apply ⟨side,top,rfl,hs,ht,fun r H1 nr S1 PL1=>?_⟩;apply ⟨_,_,rfl,hs,ht,fun t rs H2 nt fr S2 HT=>?_⟩;refine b8 rfl fun kp H3 nk S3 gk=>?_
 obtain ⟨vs,ev,dv⟩:=id PL1;refine q kp r t rs H3 ((S1.trans S2).trans S3) gk nr (S1.free nt) (fun x hx=>S1.free (fr x hx)) (fun z=>?_) (fun z=>?_) ((PL1.same S2).same S3) (HT.same S3)
 ·rw [← z,ev] at nt;cases nt
 ·have:=fr r z;rw [ev] at this;cases this
end
local macro_rules | `(tactic| walk_at "s") => `(tactic| (with_reducible repeat (first | refine lZ ?_ | walk_at "2")))
local macro_rules | `(tactic| walk_at "n") => `(tactic| (with_reducible repeat (walk_at "2")))
section
variable {P:Program} {w:World} {K:W.Frag} {mg:Str->Option Value} {base:Heap}
theorem HTab.addE2 {G:Hp} {t N:Addr} {rs:List Addr} {hs:List (List PP)} (h:HTab G t rs hs) (gN:G N=some (.lst [])) (ntN:t≠N) (nNr:N ∉ rs):
  HTab (upd G t (.lst (rs.map V.ref ++ [.ref N]))) t (rs ++ [N]) (hs ++ [[]]):=by
 have tk:TKt G (upd G t (.lst (rs.map V.ref ++ [.ref N]))):=TKt.lst h.at_;refine ⟨by rw [aj];simp,by simp [h.len],?_,?_,fun i r ps e1 e2=>?_⟩
 ·rw [Ab7]
  exact ⟨h.nd,by simp,fun a ha b hb e=>by rw [Aam.mp hb] at e;rw [e] at ha;exact nNr ha⟩
 ·intro z
  rcases Aaz.mp z with z | z
  ·exact h.ne z
  ·exact ntN (Aam.mp z)
 ·by_cases hi:i < rs.length
  ·rw [Aaw hi] at e1
   rw [Aaw (by rw [← h.len];exact hi)] at e2;have mr:=Aai e1;refine (h.row i r ps e1 e2).keep tk fun vs e=>?_
   rw [aD (fun z=>h.ne (by rw [← z];exact mr))];exact e
  ·have hi2:i < rs.length+1:=by have:=(Aab.mp e1).1;simpa using this
   have ei:i=rs.length:=by omega
   subst ei;rw [Aas (Aad _),Abt] at e1;rw [Aas (by rw [h.len];exact Aad _),h.len,Abt] at e2;cases e1;cases e2;exact ⟨[],by rw [aD ntN.symm];exact gN,gC.mpr rfl⟩
theorem QS {S P:List Nat} {L:Nat} {ps:List PP} (h:∀ p∈ps,lt S P p.1 p.2 < (L:Int)):zH S P (L+1) ps=zH S P L ps ++ [[]]:=by
 unfold zH;rw [Abn,Aau]
 congr 1
 show [_]=_
 congr 1
 rw [List.filter_eq_nil_iff];intro p hp;have:=h p hp;simp;omega
def lH (S P:List Nat) (n i j:Nat):Int:=mx (lt S P i n) (lt S P (i+1) j)
theorem Yn (S P:List Nat) (n i:Nat):lH S P n i 0=lt S P i n:=by
 unfold lH;rw [Dp];have:=Gn S P i n;unfold mx
 split <;> omega
theorem Yo (S P:List Nat) (n i:Nat):lH S P n i n=lt S P (i+1) n:=by
 unfold lH;have:=JV S P i n;unfold mx
 split <;> omega
theorem Uw {S P:List Nat} {n i j:Nat} (hj:j < n) (h:¬ S[i]?=P[j]?):lH S P n i (j+1)=lH S P n i j:=by
 unfold lH;rw [zr,if_neg h];have a:lt S P i (j+1)<=lt S P i n:=Bq (Aad _) (by omega);unfold mx
 repeat' split
 all_goals omega
theorem QT {S P:List Nat} {n i j:Nat} (hj:j < n) (h:S[i]?=P[j]?):lt S P i j<=lH S P n i j/\lH S P n i (j+1)=if lt S P i j=lH S P n i j then lH S P n i j+1 else lH S P n i j:=by
 unfold lH;rw [Gm h];have a:lt S P i j<=lt S P i n:=Bq (Aad _) (by omega);have b:=JV S P i j;have c:=(Gk S P _ i j (Aad _)).1;unfold mx
 repeat' split
 all_goals omega
theorem Ux {S P:List Nat} {n i j:Nat} (hn:n=P.length) (hj:j<=n):∀ p∈prs S P i ++ DG S P i j,lt S P p.1 p.2 < lH S P n i j:=by
 intro p hp;unfold lH;have l:=QM (lt S P i n) (lt S P (i+1) j);have r:=Uu (lt S P i n) (lt S P (i+1) j);rcases Aaz.mp hp with h | h
 ·have:=(JZ hn h).2
  omega
 ·obtain ⟨a,b,c⟩:=Gp h
  have e:=Gm c;have:lt S P (p.1+1) (p.2+1)<=lt S P (i+1) j:=Bq (by omega) (by omega);omega
end
local macro_rules | `(tactic| walk_at "s") => `(tactic| (with_reducible repeat (first | refine lZ ?_ | walk_at "7")))
local macro_rules | `(tactic| walk_at "n") => `(tactic| (with_reducible repeat (walk_at "7")))
section
variable {P:Program} {w:World} {K:W.Frag} {mg:Str->Option Value} {base:Heap}
def QV:Sp:=fun vs H Q _=>∃ side top:Str,vs=[.str side,.str top]/\side.length<=24/\top.length<=24/\∀ t rs H',H t=none->(∀ r∈rs,H r=none)->Same H H'->HTab H' t rs (zH side.cps.toList top.cps.toList (lt side.cps.toList top.cps.toList side.length top.length).toNat (prs side.cps.toList top.cps.toList side.length))->Q (.ref t) H'
theorem gZ:aG ["_law_side","_law_top","_law_found","_law_row_here","_law_i","_law_below","_law_j"] ["_law_side","_law_top"] (aB rm):=⟨rfl,rfl,rfl,by trivial,rfl,by trivial,by trivial⟩
theorem rT (T:Txt K mg):Has P w K mg base 1 "_law_heaps" ["_law_side","_law_top"] QV:=by
 refine eO T.d_law_heaps gZ (fun _ _ _ _ _ _ us hl=>L2.mJ (fun _ _=>rfl) us hl) ?_ fun f cdv A outer s H vs Q E hr h=>?_
 ·rintro vs H Q E ⟨side,top,rfl,_⟩;rfl
 obtain ⟨side,top,rfl,hs,ht,q⟩:=h;have hu:=hr.units0;have hu64:=hr.units;apply ⟨_,(aA (aM (i:=2) gZ.nd rfl dI (gJ ao) rfl) (aA (aM (i:=3) gZ.nd rfl dI (aY nQ (gJ (aa aF ao)) (aY aQ (aJ (aH (K:=K) rfl) aU T.b_len aR (aa (aq 1) ao) (by trivial) (by trivial)) aF)) rfl) (aA (eN AaF rfl (km aU T.b_range (aa (aJ (aH (K:=K) rfl) aU T.b_len aR (aa (aq 0) ao) (by trivial) (by trivial)) ao)) (bB (i:=4) gZ.nd rfl dI rfl) (aA (aM (i:=5) gZ.nd rfl dI (gJ (aa aF ao)) rfl) (aA (eN AaF rfl (km aU T.b_range (aa (aJ (aH (K:=K) rfl) aU T.b_len aR (aa (aq 1) ao) (by trivial) (by trivial)) ao)) (bB (i:=6) gZ.nd rfl dI rfl) (aA (aO (je (K:=K) rfl AaB AaC AaD dF (aq 5) (aa (aJ (sy rfl) aU T.b_max vX (aa (bT (K:=K) rfl (aq 3) (aY aQ (aq 6) aF)) (aa (bT (K:=K) rfl (aq 5) (aq 6)) ao)) (by trivial) (by trivial)) ao))) (aC (bQ (bh (fH (K:=K) rfl hu64) (bT (K:=K) rfl (aq 0) (aq 4)) (bT (K:=K) rfl (aq 1) (aq 6)) (by walk_at "p")) (aA (nY (ts:=Ip) (aY aQ (bT (K:=K) rfl (aq 3) (aq 6)) aF) (qJ (aq 5) (aY aQ (aq 6) aF) set_list)) (aA (bQ (bh (fH (K:=K) rfl hu64) (bT (K:=K) rfl (aq 3) (aq 6)) (aJ (aH (K:=K) rfl) aU T.b_len aR (aa (aq 2) ao) (by trivial) (by trivial)) (by walk_at "p")) (aC (aO (je (K:=K) rfl AaB AaC AaD dF (aq 2) (aa (gJ ao) ao)))) bj) (aC (aO (je (K:=K) rfl AaB AaC AaD dF (bT (K:=K) rfl (aq 2) (bT (K:=K) rfl (aq 3) (aq 6))) (aa (oZ (aa (aq 4) (aa (aq 6) ao))) ao)))))) bj)))) (aC (aM (i:=3) gZ.nd rfl dI (aq 5) rfl))))) (aC (aL (aq 2)))))),?_⟩;have hz:20000<=sizeLine:=by decide
 have e1:side.length=side.cps.size:=rfl;have e2:top.length=top.cps.size:=rfl;apply b8 rfl fun t G1 nt S1 gt=>?_
 apply b8 rfl fun p0 G2 n0 S2 g0=>?_
 apply bM (by omega) ?_;apply Cd g0 (by omega) (by omega) (Aay (show [V.int 0].length*((top.length:Int)+1).toNat<=1000 by simp;omega) (by decide)) fun r nr=>?_
 have e0:(List.replicate ((top.length:Int)+1).toNat [V.int 0]).flatten=(eQ side.cps.toList top.cps.toList 0 (top.length+1)).map V.int:=by
  rw [show ((top.length:Int)+1).toNat=top.length+1 by omega];exact zeros _ _ _
 rw [e0];have S3:=((Same.refl G2).upd nr (o:=.lst ((eQ side.cps.toList top.cps.toList 0 (top.length+1)).map V.int)));have gr:=aj (H:=G2) (a:=r) (o:=.lst ((eQ side.cps.toList top.cps.toList 0 (top.length+1)).map V.int));generalize upd G2 r (.lst ((eQ side.cps.toList top.cps.toList 0 (top.length+1)).map V.int))=G3 at S3 gr ⊢;have U2:=S1.trans S2
 have hT3:HTab G3 t [] (zH side.cps.toList top.cps.toList (lt side.cps.toList top.cps.toList 0 top.length).toNat (prs side.cps.toList top.cps.toList 0)):=by
  rw [lt_0];exact ⟨S3 _ _ (S2 _ _ gt),rfl,by simp,by simp,fun i r ps e=>by simp at e⟩
 have nrt:r≠t:=fun z=>by rw [z,S2 _ _ gt] at nr;cases nr
 apply bM (by omega) ?_;refine ⟨_,rfl,by omega,by omega,?_⟩;rw [show ((side.length:Nat):Int).toNat=side.length by omega]
 refine oW (n:=side.length) (fun i U G=>Same H G/\∃ (rs:List Addr) (r:Addr) (x4 x5 x6:Option V),U=[some (.str side),some (.str top),some (.ref t),some (.ref r),x4,x5,x6]/\(∀ x∈rs,H x=none)/\H r=none/\r≠t/\r ∉ rs/\G r=some (.lst ((eQ side.cps.toList top.cps.toList i (top.length+1)).map V.int))/\HTab G t rs (zH side.cps.toList top.cps.toList (lt side.cps.toList top.cps.toList i top.length).toNat (prs side.cps.toList top.cps.toList i)))
  ⟨U2.trans S3,[],r,_,_,_,rfl,by simp,Same.back U2 nr,nrt,by simp,gr,hT3⟩ ?_ ?_
 ·rintro i U G hi ⟨s,rs,r,x4,x5,x6,rfl,hrs,nr,nrt,nrr,gr,hT⟩
  rw [Int.zero_add];walk_at "s";apply b8 rfl fun b G4 nb S4 gb=>?_
  have hb0:G4 b=some (.lst ((eQ side.cps.toList top.cps.toList (i+1) 1).map V.int)):=by
   rw [gb];unfold eQ;simp [Dp]
  have nbt:b≠t:=fun z=>by rw [z,hT.at_] at nb;cases nb
  have nbr:b≠r:=fun z=>by rw [z,gr] at nb;cases nb
  have nbs:b ∉ rs:=fun z=>by obtain ⟨xs,e⟩:=hT.mem z;rw [e] at nb;cases nb
  have hcS:side.cps.toList[i]?=some (side.cps.getD i 0):=zA (by omega);apply bM (by omega) ?_;refine ⟨_,rfl,by omega,by omega,?_⟩;rw [show ((top.length:Nat):Int).toNat=top.length by omega]
  have h0:HTab G4 t rs (zH side.cps.toList top.cps.toList (lH side.cps.toList top.cps.toList top.length i 0).toNat (prs side.cps.toList top.cps.toList i ++ DG side.cps.toList top.cps.toList i 0)):=by
   rw [Yn,show DG side.cps.toList top.cps.toList i 0=[] from rfl,AaL];exact hT.same S4
  refine oW (n:=top.length) (fun j U L=>Same H L/\∃ (rs:List Addr) (x6:Option V),U=[some (.str side),some (.str top),some (.ref t),some (.ref r),some (.int (i:Int)),some (.ref b),x6]/\(∀ x∈rs,H x=none)/\r ∉ rs/\b ∉ rs/\L r=some (.lst ((eQ side.cps.toList top.cps.toList i (top.length+1)).map V.int))/\L b=some (.lst ((eQ side.cps.toList top.cps.toList (i+1) (j+1)).map V.int))/\HTab L t rs (zH side.cps.toList top.cps.toList (lH side.cps.toList top.cps.toList top.length i j).toNat (prs side.cps.toList top.cps.toList i ++ DG side.cps.toList top.cps.toList i j)))
   ⟨s.trans S4,rs,_,rfl,hrs,nrr,nbs,S4 _ _ gr,hb0,h0⟩ ?_ ?_
  ·rintro j U L hj ⟨sL,rs,x6,rfl,hrs,nrr,nbs,hr',hb,hT⟩
   rw [Int.zero_add];have hcP:top.cps.toList[j]?=some (top.cps.getD j 0):=zA (by omega);walk_at "s";apply ⟨.inl ⟨rfl,_,SqL.of hb⟩,?_⟩;apply bc (SqL.of hr') (Du (j:=j+1) (by omega) (by omega)) ?_;apply bc (SqL.of hb) (rQ (j:=j) (by omega)) ?_;refine dG hb (by rw [Aaf,pG];omega) ?_;generalize hM:(if lt side.cps.toList top.cps.toList (i+1) j > lt side.cps.toList top.cps.toList i (j+1) then lt side.cps.toList top.cps.toList (i+1) j else lt side.cps.toList top.cps.toList i (j+1))=M;have hM':mx (lt side.cps.toList top.cps.toList i (j+1)) (lt side.cps.toList top.cps.toList (i+1) j)=M:=hM;have nHb:H b=none:=Same.back s nb;have oB:∀ o,HTab (upd L b o) t rs _:=fun o=>hT.out (rs:=[b]) ((Out.refl [b] L).step (by simp)) (fun x hx=>by rw [Aam.mp hx];exact ⟨_,hb⟩) (by simpa using fun z:t=b=>nbt z.symm) (fun x hx z=>nbs (by rw [← Aam.mp z];exact hx))
   have nrb:r≠b:=fun z=>nbr z.symm
   have hrB:∀ o,upd L b o r=some (.lst ((eQ side.cps.toList top.cps.toList i (top.length+1)).map V.int)):=fun o=>(aD nrb).trans hr'
   walk_at "s";apply yE (by omega) (jG hcS) ?_;apply yE (by omega) (jG hcP) ?_;refine qG (fun hk=>?_) (fun hk=>?_)
   ·have ec:side.cps.toList[i]?=top.cps.toList[j]?:=by rw [hcS,hcP,Ds.mp hk]
    obtain ⟨y1,y2⟩:=QT (n:=top.length) hj ec;walk_at "s";apply bc (SqL.of (hrB _)) (rQ (j:=j) (by omega)) ?_;refine b7 aj (Bk (p:=j+1) (by omega) (by rw [AaR,Aaf,pG];simp)) ?_;have oB2:∀ o o',HTab (upd (upd L b o) b o') t rs _:=fun o o'=>hT.out (rs:=[b]) (((Out.refl [b] L).step (by simp)).step (by simp)) (fun x hx=>by rw [Aam.mp hx];exact ⟨_,hb⟩) (by simpa using fun z:t=b=>nbt z.symm) (fun x hx z=>nbs (by rw [← Aam.mp z];exact hx))
    have eb:∀ v:V,((eQ side.cps.toList top.cps.toList (i+1) (j+1)).map V.int ++ [v]).set (j+1) (.int (lt side.cps.toList top.cps.toList i j+1))=(eQ side.cps.toList top.cps.toList (i+1) (j+2)).map V.int:=fun v=>by
     rw [List.set_append,if_neg (by rw [Aaf,pG];omega),Aaf,pG,Abt,pH _ _ (i+1) (j+1),Gm ec,Aau];rfl
    rw [eb];have hr2:∀ o o',upd (upd L b o) b o' r=some (.lst ((eQ side.cps.toList top.cps.toList i (top.length+1)).map V.int)):=fun o o'=>(aD nrb).trans ((aD nrb).trans hr')
    have hT2:=oB2 (.lst ((eQ side.cps.toList top.cps.toList (i+1) (j+1)).map V.int ++ [.int (M)])) (.lst ((eQ side.cps.toList top.cps.toList (i+1) (j+2)).map V.int));replace hr2:=hr2 (.lst ((eQ side.cps.toList top.cps.toList (i+1) (j+1)).map V.int ++ [.int (M)])) (.lst ((eQ side.cps.toList top.cps.toList (i+1) (j+2)).map V.int));have hb2:=aj (H:=upd L b (.lst ((eQ side.cps.toList top.cps.toList (i+1) (j+1)).map V.int ++ [.int (M)]))) (a:=b) (o:=.lst ((eQ side.cps.toList top.cps.toList (i+1) (j+2)).map V.int));have s2:Same H _:=Same.put (o:=.lst ((eQ side.cps.toList top.cps.toList (i+1) (j+2)).map V.int)) (Same.put (o:=.lst ((eQ side.cps.toList top.cps.toList (i+1) (j+1)).map V.int ++ [.int (M)])) sL nHb) nHb;clear oB oB2 hT hr' hrB hb;generalize upd (upd L b (.lst ((eQ side.cps.toList top.cps.toList (i+1) (j+1)).map V.int ++ [.int (M)]))) b (.lst ((eQ side.cps.toList top.cps.toList (i+1) (j+2)).map V.int))=L2 at s2 hT2 hr2 hb2 ⊢;have lnn:=Gn side.cps.toList top.cps.toList i j;have hl2:rs.length=(lH side.cps.toList top.cps.toList top.length i j).toNat:=by rw [hT2.len,ql]
    have low:=Ux (S:=side.cps.toList) (P:=top.cps.toList) (n:=top.length) (i:=i) (j:=j) (by simp [Str.length]) (by omega);with_reducible refine Pk (fun U L3=>U=[some (.str side),some (.str top),some (.ref t),some (.ref r),some (.int (i:Int)),some (.ref b),some (.int (j:Int))]/\Same H L3/\∃ rs:List Addr,(∀ x∈rs,H x=none)/\r ∉ rs/\b ∉ rs/\L3 r=some (.lst ((eQ side.cps.toList top.cps.toList i (top.length+1)).map V.int))/\L3 b=some (.lst ((eQ side.cps.toList top.cps.toList (i+1) (j+2)).map V.int))/\HTab L3 t rs (zH side.cps.toList top.cps.toList (lH side.cps.toList top.cps.toList top.length i (j+1)).toNat (prs side.cps.toList top.cps.toList i ++ DG side.cps.toList top.cps.toList i j))) ?_ ?_
    rotate_left
    ·intro N hN
     walk_at "n";refine bc (SqL.of hr2) (rQ (j:=j) (by omega)) ?_;walk_at "n";refine d9 (SqL.of hT2.at_) ?_;walk_at "n";refine qG (fun hk2=>?_) (fun hk2=>?_)
     ·have ek:lt side.cps.toList top.cps.toList i j=lH side.cps.toList top.cps.toList top.length i j:=by
       have:=V.int.inj hk2;rw [Aaf] at this;omega
      rw [if_pos ek] at y2;walk_at "n";refine ⟨.inl ⟨rfl,_,SqL.of hT2.at_⟩,?_⟩;walk_at "n";refine b8 rfl fun z L4 nz S4 gz=>?_
      walk_at "n";have ntz:t≠z:=fun e=>by rw [← e,hT2.at_] at nz;cases nz
      have nzr:z ∉ rs:=fun e=>by obtain ⟨xs,e'⟩:=hT2.mem e;rw [e'] at nz;cases nz
      refine dG (S4 _ _ hT2.at_) (by rw [Aaf];have:=(zu side.cps.toList top.cps.toList (i+1) j);have:=Bq (S:=side.cps.toList) (P:=top.cps.toList) (i:=i) (i':=i) (j:=j) (j':=top.length) (Aad _) (by omega);have:=zu side.cps.toList top.cps.toList i top.length;omega) ?_;walk_at "n";have hT4:=(hT2.same S4).addE2 gz ntz nzr;rw [← QS (by rw [AbP (by omega)];exact low),show (lH side.cps.toList top.cps.toList top.length i j).toNat+1=(lH side.cps.toList top.cps.toList top.length i (j+1)).toNat by omega] at hT4;have tr:r≠t:=nrt;refine hN _ _ ⟨rfl,Same.put (s2.trans S4) nt,rs ++ [z],fun x hx=>?_,?_,?_,(aD tr).trans (S4 _ _ hr2),(aD nbt).trans (S4 _ _ hb2),hT4⟩
      ·rcases Aaz.mp hx with h | h
       ·exact hrs x h
       ·rw [Aam.mp h];exact Same.back s2 nz
      ·intro h
       rcases Aaz.mp h with h | h
       ·exact nrr h
       ·rw [Aam.mp h,nz] at hr2;cases hr2
      ·intro h
       rcases Aaz.mp h with h | h
       ·exact nbs h
       ·rw [Aam.mp h,nz] at hb2;cases hb2
     ·have ek:¬ lt side.cps.toList top.cps.toList i j=lH side.cps.toList top.cps.toList top.length i j:=fun e=>by
       apply hk2;rw [Aaf]
       congr 1
       omega
      rw [if_neg ek] at y2;walk_at "n";exact hN _ _ ⟨rfl,s2,rs,hrs,nrr,nbs,hr2,hb2,by rw [y2];exact hT2⟩
    ·rintro U L3 ⟨rfl,s3,rs,hrs,nrr,nbs,hr3,hb3,hT3⟩
     have hl3:rs.length=(lH side.cps.toList top.cps.toList top.length i (j+1)).toNat:=by rw [hT3.len,ql]
     have lhm:lt side.cps.toList top.cps.toList i j < lH side.cps.toList top.cps.toList top.length i (j+1):=by
      rw [y2]
      split <;> omega
     have hL:(lt side.cps.toList top.cps.toList i j).toNat < rs.length:=by omega
     have er6:rs[(lt side.cps.toList top.cps.toList i j).toNat]?=some rs[(lt side.cps.toList top.cps.toList i j).toNat]:=Aaa hL;have el6:=zy (S:=side.cps.toList) (P:=top.cps.toList) (L:=(lH side.cps.toList top.cps.toList top.length i (j+1)).toNat) (k:=(lt side.cps.toList top.cps.toList i j).toNat) (ps:=prs side.cps.toList top.cps.toList i ++ DG side.cps.toList top.cps.toList i j) (by omega);obtain ⟨ws,hw,_⟩:=hT3.row _ _ _ er6 el6;walk_at "s";apply bc (SqL.of hr3) (rQ (j:=j) (by omega)) ?_;apply bc (SqL.of hT3.at_) (xQ lnn (v:=.ref rs[(lt side.cps.toList top.cps.toList i j).toNat]) (by rw [Aah,er6];rfl)) ?_;apply ⟨.inl ⟨rfl,_,SqL.of hw⟩,?_⟩;apply b8 rfl fun T1 L5 nT S5 hT1=>?_
     obtain ⟨ws2,hw2,hwl,HT5⟩:=(hT3.same S5).push er6 el6 hT1
     have hz:ws2.length < sizeLine:=by
      have a:=yf side.cps.toList top.cps.toList i;have a2:=Dq side.cps.toList top.cps.toList i j;have c:i*top.cps.toList.length<=24*24:=Nat.mul_le_mul (by omega) (by simp [Str.length] at ht;simpa using ht);have e:=AbG (fun p':PP=>decide (lt side.cps.toList top.cps.toList p'.1 p'.2=(((lt side.cps.toList top.cps.toList i j).toNat:Nat):Int))) (prs side.cps.toList top.cps.toList i ++ DG side.cps.toList top.cps.toList i j);rw [AaR] at e;exact Aan (show ws2.length < 5000 by omega) (by decide)
     apply dG hw2 hz ?_;have m6:=Aa6 hL;refine ⟨Same.put (s3.trans S5) (hrs _ m6),rs,_,rfl,hrs,nrr,nbs,(aD fun e=>nrr (by rw [e];exact m6)).trans (S5 _ _ hr3),(aD fun e=>nbs (by rw [e];exact m6)).trans (S5 _ _ hb3),?_⟩;rw [vM,if_pos ec,← Abl,Gq (k:=(lt side.cps.toList top.cps.toList i j).toNat) (by show lt side.cps.toList top.cps.toList i j=_;omega) (by omega)];exact HT5
   ·have ec:¬ side.cps.toList[i]?=top.cps.toList[j]?:=by
     rw [hcS,hcP];intro z;exact hk (by rw [AaE z])
    walk_at "s";refine ⟨Same.put sL nHb,rs,_,rfl,hrs,nrr,nbs,hrB _,?_,?_⟩
    ·have ev:lt side.cps.toList top.cps.toList (i+1) (j+1)=mx (lt side.cps.toList top.cps.toList i (j+1)) (lt side.cps.toList top.cps.toList (i+1) j):=by rw [zr,if_neg ec]
     rw [aj,pH _ _ (i+1) (j+1),ev,hM',Aau];rfl
    ·rw [Uw hj ec,vM,if_neg ec,AaL]
     exact oB _
  ·rintro U L ⟨sL,rs,x6,rfl,hrs,nrr,nbs,hr',hb,hT⟩
   walk_at "s";rw [Yo,show prs side.cps.toList top.cps.toList i ++ DG side.cps.toList top.cps.toList i top.length=prs side.cps.toList top.cps.toList (i+1) by rw [e2,show top.cps.size=top.cps.toList.length by simp];rfl] at hT;exact ⟨sL,rs,b,_,_,_,rfl,hrs,Same.back s nb,nbt,nbs,hb,hT⟩
 ·rintro U G ⟨s,rs,r,x4,x5,x6,rfl,hrs,nr,nrt,nrr,gr,hT⟩
  walk_at "s";exact q t rs G nt hrs s hT
end
local macro_rules | `(tactic| walk_at "s") => `(tactic| (with_reducible repeat (first | refine lZ ?_ | walk_at "3")))
local macro_rules | `(tactic| walk_at "n") => `(tactic| (with_reducible repeat (walk_at "3")))
section
variable {P:Program} {w:World} {K:W.Frag} {mg:Str->Option Value} {base:Heap}
theorem rW:(["pair","place","self"]:List Str).Nodup:=by trivial
theorem xN:(["heap","self","place"]:List Str).Nodup:=by trivial
def iI (row:Str) (i:Nat):Str:=Txt.slice row (some (i:Int)) none ++ Txt.slice row none (some (i:Int))
theorem Dy (row:Str) (i:Nat):(iI row i).cps.toList=row.cps.toList.drop i ++ row.cps.toList.take i:=by
 unfold iI;rw [cps_append,Hh,Pj]
theorem sY {row:Str} {i:Nat} (hi:i < row.cps.size):(iI row i).length=row.cps.size:=by
 have h:=congrArg List.length (Dy row i);rw [AaR,AbS,Abs] at h;have h2:row.cps.toList.length=row.cps.size:=AaG;have h3:(iI row i).cps.toList.length=(iI row i).length:=AaG;omega
theorem Uy {row:Str} (h:Pln row) {i:Nat} (hi:i < row.cps.size):Pln (iI row i):=⟨by rw [sY hi];exact h.1,fun c hc=>by
 rw [Dy] at hc;rcases Aaz.mp hc with h' | h'
 ·exact h.2 c (List.mem_of_mem_drop h')
 ·exact h.2 c (AbL h')⟩
theorem QW {row:Str} {i:Nat} (hi:i < row.cps.size) {n:Nat} (hn:row.cps.size<=n):(Txt.slice row (some (i:Int)) none).length+(Txt.slice row none (some (i:Int))).length<=n:=by
 have lr:=sY hi;have e:=jk (Txt.slice row (some (i:Int)) none) (Txt.slice row none (some (i:Int)));unfold iI at lr;have e3:∀ z:Str,z.length=z.cps.size:=fun _=>rfl
 rw [e3] at lr ⊢;rw [e3];omega
def Ml (K:W.Frag) (mg:Str->Option Value):Sp:=fun vs H Q E=>∃ (x:Addr) (side row:Str) (v:V),vs=[.ref x,v]/\Rg mg H x side row/\Kd K H v/\
 (inB v 0 ((row.cps.size:Int) - 1)=false->YG mg H E v)/\(∀ p:Nat,v= .int p->p < row.cps.size->Q (.str (iI row p)) H)
theorem xO:aG ["self","place"] ["self","place"] (aB m9):=⟨rfl,rfl,rfl,by trivial,rfl,by trivial,by trivial⟩
theorem nO (T:Txt K mg):lD P w K mg base 5 "Ring" "opening" ["self","place"] (Ml K mg):=by
 have cF:=cF (P:=P) (w:=w) (base:=base) T;refine pM T.m_Ring_opening xO (fun _ _ _ _ _ _ us hl=>L2.mJ (fun _ _=>rfl) us hl) ?_ fun f cdv A outer s H vs Q E hr h=>?_
 ·rintro vs H Q E ⟨x,side,row,v,rfl,_⟩;rfl
 obtain ⟨x,side,row,v,rfl,hR,kv,q1,q2⟩:=h;have hu:=hr.units0;have hu64:=hr.units;apply ⟨_,(aA (aO (iU (aq 0) T.o_Ring cF (hr.mono (by decide)) aP (aa (aq 1) ao))) (aC (aL (aY aQ (my (vm (K:=K) rfl) (jL (K:=K) rfl (aq 0)) (gB (aq 1)) dH) (my (vm (K:=K) rfl) (jL (K:=K) rfl (aq 0)) dH (gB (aq 1))))))),?_⟩;obtain ⟨hs,hr',h0,dx,al,ap,h,ak,hx,_⟩:=id hR;have hz:20000<=sizeLine:=by decide
 have l2:row.length<=24:=hr'.1;have e2:row.length=row.cps.size:=rfl;apply ⟨x,dx,_,rfl,hx,JM (by trivial),?_⟩;apply ⟨x,side,row,v,rfl,hR,kv,fun hv=>q1 hv,fun hv=>?_⟩;obtain ⟨p,rfl,hp⟩:=Dj hv;have hp':p < row.cps.size:=by omega
 apply ⟨x,_,dx,_,_,rfl,hx,T.o_Ring.cl,T.n_Ring _ (by simp),rfl,?_⟩;apply Cr (by omega) ?_;apply ⟨x,_,dx,_,_,rfl,hx,T.o_Ring.cl,T.n_Ring _ (by simp),rfl,?_⟩;apply Cr (by omega) ?_;apply t7 (by have:=QW hp' (Aad _);omega) ?_;exact q2 p rfl hp'
theorem Dz {H:Hp}:∀ {ds:List PyData} {vs:List V},DRs H ds vs->vs.length=ds.length
 | [],_,h=>by rw [gC] at h;subst h;rfl
 | d :: ds,_,h=>by
  rw [ie] at h;obtain ⟨v,r,rfl,_,hr⟩:=h;simp [Dz hr]
theorem QX (e:Nat->Nat->Bool) (b:Nat):∀ n i k,i+k<=n->(tb e b i k<=tb e b i (k+1)/\tb e b i (k+1)<=tb e b i k+1)/\(tb e b i k<=tb e b (i+1) k/\tb e b (i+1) k<=tb e b i k+1)
 | 0,i,k,h=>by
  obtain rfl:i=0:=by omega
  obtain rfl:k=0:=by omega
  rw [Dl,Dl,Gj];omega
 | n+1,i,k,h=>by
  constructor
  ·cases i with
   | zero=>rw [Dl,Dl];omega
   | succ i=>
    obtain ⟨⟨a1,a2⟩,b1,b2⟩:=QX e b n i k (by omega);rw [HR]
    split
    ·omega
    ·unfold Vs
     split <;> omega
  ·cases k with
   | zero=>rw [Gj,Gj];omega
   | succ k=>
    obtain ⟨⟨a1,a2⟩,b1,b2⟩:=QX e b n i k (by omega);rw [HR]
    split
    ·omega
    ·unfold Vs
     split <;> omega
theorem aaw {a b c:Int} (h1:a<=c+1) (h2:b<=c+1):mx (mx a b) (c+1)=c+1:=by unfold mx;split <;> split <;> omega
theorem J5 {S P:List Nat}:∀ (n i k:Nat),i+k<=n->i<=S.length->k<=P.length->lt S P i k=tb (fun i j=>decide (S.getD i 0=P.getD j 0)) 0 i k
 | _,0,k,_,_,_=>by rw [lt_0,Dl]
 | _,i+1,0,_,_,_=>by rw [Dp,Gj]
 | 0,i+1,k+1,h,_,_=>by omega
 | n+1,i+1,k+1,h,hi,hk=>by
  have e1:=J5 (S:=S) (P:=P) n i (k+1) (by omega) (by omega) hk;have e2:=J5 (S:=S) (P:=P) n (i+1) k (by omega) hi (by omega);have e3:=J5 (S:=S) (P:=P) n i k (by omega) (by omega) (by omega);rw [zr,HR,e1,e2,e3,Nat.zero_add];have hi0:i < S.length:=by omega
  have hk0:k < P.length:=by omega
  have es:S[i]?=some (S.getD i 0):=by simp [Aac,hi0]
  have ep:P[k]?=some (P.getD k 0):=by simp [Aac,hk0]
  rw [es,ep];obtain ⟨⟨_,b1⟩,_,b2⟩:=QX (fun i j=>decide (S.getD i 0=P.getD j 0)) 0 (i+k) i k (Aad _);by_cases h:S.getD i 0=P.getD k 0
  ·rw [if_pos (by rw [h]),if_pos (Aar h)]
   exact aaw b1 b2
  ·rw [if_neg (fun z=>h (AaE z)),if_neg (by rw [Aao h];decide)]
   unfold mx Vs
   split <;> split <;> omega
def dec (p q:PP):Prop:=q.1 < p.1/\q.2 < p.2
theorem J6 (S P:List Nat):∀ (n i j:Nat),i+j<=n->(∀ p∈wb S P i j,p.1 < i/\p.2 < j/\S[p.1]?=P[p.2]?)/\(wb S P i j).Pairwise dec/\((wb S P i j).length:Int)=lt S P i j
 | _,0,j,_=>by rw [Yi,lt_0];exact ⟨by simp,.nil,rfl⟩
 | _,i+1,0,_=>by rw [Yj,Dp];exact ⟨by simp,.nil,rfl⟩
 | 0,i+1,j+1,h=>by omega
 | n+1,i+1,j+1,h=>by
  rw [QR];by_cases e:S[i]?=P[j]?
  ·rw [if_pos e,Gm e]
   obtain ⟨a,b,c⟩:=J6 S P n i j (by omega);refine ⟨fun p hp=>?_,.cons (fun p hp=>?_) b,by rw [← c];simp⟩
   ·rcases Aaj.mp hp with rfl | hp
    ·exact ⟨by simp,by simp,e⟩
    ·obtain ⟨x,y,z⟩:=a p hp;exact ⟨by omega,by omega,z⟩
   ·obtain ⟨x,y,z⟩:=a p hp;exact ⟨x,y⟩
  ·rw [if_neg e]
   by_cases e2:lt S P i (j+1)=lt S P (i+1) (j+1)
   ·rw [if_pos e2,← e2]
    obtain ⟨a,b,c⟩:=J6 S P n i (j+1) (by omega);exact ⟨fun p hp=>by obtain ⟨x,y,z⟩:=a p hp;exact ⟨by omega,by omega,z⟩,b,c⟩
   ·rw [if_neg e2]
    obtain ⟨a,b,c⟩:=J6 S P n (i+1) j (by omega);refine ⟨fun p hp=>by obtain ⟨x,y,z⟩:=a p hp;exact ⟨by omega,by omega,z⟩,b,?_⟩;rw [c];rw [zr,if_neg e] at e2 ⊢;unfold mx at e2 ⊢
    split <;> split at e2 <;> omega
def HY (n p:Nat) (q:PP):PP:=(q.1,(p+q.2) % n)
def Yp (mg:Str->Option Value):Sp:=fun vs H Q _=>∃ (x a:Addr) (side row:Str) (ps:List PP) (p:Nat),vs=[.ref x,.ref a,.int (p:Int)]/\Rg mg H x side row/\PL H a ps/\ps.length<=5000/\∀ q H',H q=none->Same H H'->PL H' q (ps.map (HY row.length p))->Q (.ref q) H'
theorem uK:aG ["self","pairs","place"] ["self","pairs","place"] (aB iD):=⟨rfl,rfl,rfl,by trivial,rfl,by trivial,by trivial⟩
theorem iG (T:Txt K mg):lD P w K mg base 1 "Ring" "gone_round" ["self","pairs","place"] (Yp mg):=by
 refine pM T.m_Ring_gone_round uK (fun _ _ _ _ _ _ us hl=>L2.pI (fun _ _ _=>rfl) us hl) ?_ fun f cdv A outer s H vs Q E hr h=>?_
 ·rintro vs H Q E ⟨x,a,side,row,ps,p,rfl,_⟩;rfl
 obtain ⟨x,a,side,row,ps,p,rfl,hR,hP,hl,q⟩:=h;have hu:=hr.units0;have hu64:=hr.units;apply ⟨_,(aC (aL (jJ (sub:=[none,some 2,some 0]) (d8 (N:=["self","pairs","place"]) (sc:=aB iD) (N':=["pair","place","self"]) (by trivial)) rfl rfl rfl (dR (K:=K) rfl (aq 1)) (fun C s₀ H₀ ex=>(qI 0 (by trivial) rW)) (fun C s₀ H₀ ex=>gW) (fun C s₀ H₀ ex=>(oZ (aa (bT (K:=K) rfl (kh 0 (by trivial)) aF) (aa (aY jn (aY aQ (mj 1 (by trivial)) (bT (K:=K) rfl (kh 0 (by trivial)) aF)) (aJ (aH (K:=K) rfl) (RZ (by trivial)) T.b_len aR (aa (jL (K:=K) rfl (mj 2 (by trivial))) ao) (by trivial) (by trivial))) ao))))))),?_⟩;obtain ⟨hs,hr',h0,dx,al,ap,h,ak,hx,_⟩:=id hR;have hz:20000<=sizeLine:=by decide
 have l2:row.length<=24:=hr'.1;have e2:row.length=row.cps.size:=rfl;obtain ⟨vs,hv,hvl,hvd⟩:=hP.len;refine .inl ⟨a,rfl,⟨_,SqL.of hv⟩,?_⟩;refine iQ (xs:=vs) (fun i ys G=>Same H G/\DRs G (((ps.take i).map (HY row.length p)).map pD) ys) (by omega) ⟨Same.refl H,gC.mpr rfl⟩ ?_ (fun i ys G h=>SqL.of (h.1 _ _ hv)) ?_ ?_
 ·rintro i ys G ⟨_,h⟩
  have:=Dz h;simp at this;omega
 ·rintro i ys G v hk ⟨s,h⟩
  obtain ⟨q,b,ep,rfl,hb⟩:=PL.at_ (q:=a) (DRs.same s _ _ hvd) hk;walk_at "s";apply ⟨KeepSt.set rfl,?_⟩;apply ⟨x,_,dx,_,_,rfl,s _ _ hx,T.o_Ring.cl,T.n_Ring _ (by simp),rfl,?_⟩;apply bM (by omega) ?_;apply b8 rfl fun c G2 nc s2 hc=>?_
  refine ⟨s.trans s2,?_⟩;rw [Aa4,ep,Aau,Aau];exact kE (DRs.same s2 _ _ h) (sE (zx.mpr ⟨c,rfl,by rw [hc];unfold HY;simp only [Int.natCast_add,Int.natCast_emod]⟩))
 ·rintro ys G D H' ⟨s,h⟩ nD S hD
  try walk_at "s"
  rw [AaU (by omega)] at h;exact q D H' (Same.back s nD) (s.trans S) ⟨ys,hD,DRs.same S _ _ h⟩
def YH (side row:Str) (p:Nat):List PP:=((wb side.cps.toList (iI row p).cps.toList side.length row.length).reverse).map (HY row.length p)
def DK (side row:Str) (p:Nat):List (List PP):=zH side.cps.toList (iI row p).cps.toList (lt side.cps.toList (iI row p).cps.toList side.length row.length).toNat (prs side.cps.toList (iI row p).cps.toList side.length)
theorem Ia (S P:List Nat) (i j:Nat):0<=lt S P i j/\lt S P i j<=i:=⟨Gn S P i j,zu S P i j⟩
theorem J7 (side row:Str) (p:Nat):((DK side row p).length:Int)=lt side.cps.toList (iI row p).cps.toList side.length row.length:=by
 unfold DK;rw [ql];have:=Ia side.cps.toList (iI row p).cps.toList side.length row.length;omega
theorem Gs {side row:Str} (hs:Pln side) (hr:Pln row) {p:Nat} (hp:p < row.cps.size) {h:List PP} (hh:h∈DK side row p):h.length<=5000:=by
 unfold DK zH at hh;obtain ⟨k,_,rfl⟩:=AaO.mp hh;have a1:=yf side.cps.toList (iI row p).cps.toList side.length;have e3:(iI row p).cps.toList.length=row.cps.size:=by rw [AaG];exact sY hp
 have a2:side.length*(iI row p).cps.toList.length<=24*24:=Nat.mul_le_mul hs.1 (by rw [e3];exact hr.1);exact Aay (AbG _ _) (by omega)
def Uz (K:W.Frag) (mg:Str->Option Value):Sp:=fun vs H Q E=>∃ (x:Addr) (side row:Str) (v:V),vs=[.ref x,v]/\Rg mg H x side row/\Kd K H v/\
 (inB v 0 ((row.cps.size:Int) - 1)=false->YG mg H E v)/\(∀ p:Nat,v= .int p->p < row.cps.size->∀ kp th hp rs H',H th=none->H hp=none->(∀ r∈rs,H r=none)->th≠hp->th ∉ rs->Same H H'->H' kp=some (.tup [.ref th,.ref hp])->PL H' th (YH side row p)->HTab H' hp rs ((DK side row p).map (List.map (HY row.length p)))->Q (.ref kp) H')
theorem tX:aG ["self","place","told"] ["self","place"] (aB mC):=⟨rfl,rfl,rfl,by trivial,rfl,by trivial,by trivial⟩
theorem g8 (T:Txt K mg):lD P w K mg base 8 "Ring" "paper" ["self","place"] (Uz K mg):=by
 have uJ:=uJ (P:=P) (w:=w) (base:=base) T;have bR:=bR (P:=P) (w:=w) (base:=base) T;have nO:=nO (P:=P) (w:=w) (base:=base) T;have iG:=iG (P:=P) (w:=w) (base:=base) T;refine pM T.m_Ring_paper tX (fun _ _ _ _ _ _ us hl=>L2.mJ (fun _ _=>rfl) us hl) ?_ fun f cdv A outer s H vs Q E hr h=>?_
 ·rintro vs H Q E ⟨x,side,row,v,rfl,_⟩;rfl
 obtain ⟨x,side,row,v,rfl,hR,kv,q1,q2⟩:=h;have hu:=hr.units0;have hu64:=hr.units;apply ⟨_,(aA (aM (i:=2) tX.nd rfl dI (aK uJ (hr.mono (by decide)) aU (aa (bZ (mg:=mg) rfl (iC 0) T.os_Piece bR (hr.mono (by decide)) aP) (aa (iU (iC 0) T.o_Ring nO (hr.mono (by decide)) aP (aa (iC 1) ao)) ao)) (by trivial)) rfl) (aC (aL (oZ (aa (iU (iC 0) T.o_Ring iG (hr.mono (by decide)) aP (aa (bT (K:=K) rfl (aq 2) aF) (aa (iC 1) ao))) (aa (jJ (sub:=[none,some 0,some 1]) (d8 (N:=["self","place","told"]) (sc:=aB mC) (N':=["heap","self","place"]) (by trivial)) rfl rfl rfl (dR (K:=K) rfl (bT (K:=K) rfl (aq 2) aF)) (fun C s₀ H₀ ex=>(qI 0 (by trivial) xN)) (fun C s₀ H₀ ex=>gW) (fun C s₀ H₀ ex=>(yP (mg:=mg) rfl (mj 1 (by trivial)) T.o_Ring iG (hr.mono (by decide)) (mW fun _ _=>rfl) (aa (kh 0 (by trivial)) (aa (mj 2 (by trivial)) ao))))) ao)))))),?_⟩;obtain ⟨hs,hr',h0,dx,al,ap,h,ak,hx,_⟩:=id hR;have hz:20000<=sizeLine:=by decide
 have l1:side.length<=24:=hs.1;have l2:row.length<=24:=hr'.1;have e2:row.length=row.cps.size:=rfl;apply ⟨x,"Ring",dx,_,rfl,by simp,hx,rfl,?_⟩;apply ⟨x,"Ring",dx,_,side,rfl,by unfold LQ;simp,hx,rfl,?_⟩;apply ⟨x,dx,_,rfl,hx,JM (by trivial),?_⟩;apply ⟨x,side,row,v,rfl,hR,kv,fun hv=>q1 hv,fun p e hp=>?_⟩;replace q2:=q2 p e hp;have lr:(iI row p).length=row.length:=sY hp;apply ⟨side,iI row p,rfl,hs.row,(Uy hr' hp).row,fun kp th hp' rs H1 S1 hk nt nh nr nth ntr PLt HT=>?_⟩;rw [lr] at PLt HT;subst e;have h5:=fun h=>Gs (side:=side) hs hr' hp (h:=h)
 have hle:=J7 side row p;have hlr:=Ia side.cps.toList (iI row p).cps.toList side.length row.length;replace HT:HTab H1 hp' rs (DK side row p):=HT;have hR1:=hR.same S1;walk_at "s";apply ⟨x,dx,_,rfl,S1 _ _ hx,JM (by trivial),?_⟩;apply ⟨x,th,side,row,_,p,rfl,hR1,PLt,by rw [AbQ];have:=Dv side.cps.toList (iI row p).cps.toList _ side.length row.length (Aad _);omega,fun t2 H2 n2 S2 P2=>?_⟩;have hk2:=S2 _ _ hk;have HT2:=HT.same S2;walk_at "s";refine .inl ⟨hp',rfl,⟨_,SqL.of HT2.at_⟩,?_⟩;refine iQ (xs:=rs.map V.ref) (fun i ys G=>Same H2 G/\∃ as:List Addr,ys=as.map V.ref/\as.length=i/\as.Nodup/\(∀ r∈as,H2 r=none)/\(∀ r∈as,∃ xs,G r=some (.lst xs))/\∀ (k:Nat) (b:Addr) (ps:List PP),as[k]?=some b->(DK side row p)[k]?=some ps->PL G b (ps.map (HY row.length p))) (by rw [Aaf,HT2.len];omega) ⟨Same.refl H2,[],rfl,rfl,by simp,by simp,by simp,fun k b ps e=>by simp at e⟩ ?_ (fun i ys G h=>SqL.of (h.1 _ _ HT2.at_)) ?_ ?_
 ·rintro i ys G ⟨_,as,rfl,rfl,_⟩
  simp
 ·rintro i ys G v hk ⟨s,as,rfl,hla,hnd,hno,hls,has⟩
  rw [Aah] at hk;obtain ⟨b,eb,rfl⟩:=AaT.mp hk;have hi:i < (DK side row p).length:=by rw [← HT2.len];exact (Aab.mp eb).1
  have ei:=Aaa hi;have hb:=(HT2.row i b _ eb ei).same s;walk_at "s";apply ⟨KeepSt.set rfl,?_⟩;apply ⟨x,dx,_,rfl,s _ _ (S2 _ _ (S1 _ _ hx)),JM (by trivial),?_⟩;apply ⟨x,b,side,row,_,p,rfl,(hR1.same S2).same s,hb,h5 _ (Aa6 hi),fun c G2 nc s2 hc=>?_⟩;have hcl:∃ xs,G2 c=some (.lst xs):=let ⟨vs,e,_⟩:=hc;⟨vs,e⟩
  refine ⟨s.trans s2,as ++ [c],by simp,by simp [hla],?_,fun r hr=>?_,fun r hr=>?_,fun k b' ps e1 e2=>?_⟩
  ·rw [Ab7]
   exact ⟨hnd,by simp,fun a ha b hb e=>by rw [Aam.mp hb] at e;obtain ⟨xs,e'⟩:=hls a ha;rw [e,nc] at e';cases e'⟩
  ·rcases Aaz.mp hr with h | h
   ·exact hno r h
   ·rw [Aam.mp h];exact Same.back s nc
  ·rcases Aaz.mp hr with h | h
   ·obtain ⟨xs,e⟩:=hls r h;exact ⟨xs,s2 _ _ e⟩
   ·rw [Aam.mp h];exact hcl
  by_cases ek:k < as.length
  ·rw [Aaw ek] at e1
   exact (has k b' ps e1 e2).same s2
  ·have ek':k=i:=by
    have:=(Aab.mp e1).1;simp at this;omega
   subst ek';rw [Aas (by omega),hla,Abt] at e1;cases e1;rw [ei] at e2;cases e2;exact hc
 rintro ys G D H3 ⟨s,as,rfl,hla,hnd,hno,hls,has⟩ nD S3 hD;rw [Aaf] at hla;try walk_at "s"
 apply b8 rfl fun kq H4 nk S4 hq=>?_
 have U2:=S1.trans S2;have neq:∀ {a b:Addr} {G:Hp} {o:HO},G a=none->G b=some o->a≠b:=fun h1 h2 z=>by rw [z,h2] at h1;cases h1
 obtain ⟨vt,et,_⟩:=id P2;refine q2 kq t2 D as H4 (Same.back S1 n2) (Same.back (U2.trans s) nD) (fun r hr=>Same.back U2 (hno r hr)) (neq nD (s _ _ et)).symm (fun z=>by have:=hno _ z;rw [et] at this;cases this) (U2.trans (s.trans (S3.trans S4))) hq (((P2.same s).same S3).same S4) ⟨S4 _ _ hD,by rw [Aaf,hla,HT2.len],hnd,fun z=>?_,fun i r ps e1 e2=>?_⟩
 ·obtain ⟨xs,e⟩:=hls _ z
  rw [e] at nD;cases nD
 ·rw [Aah] at e2
  obtain ⟨p0,e3,rfl⟩:=AaT.mp e2;exact ((has i r p0 e1 e3).same S3).same S4
theorem kz00:KLl jN "e":=by trivial
theorem z9:bootBuiltins "ValueError"=some (.type "ValueError"):=by trivial
def aax:Sp:=fun vs H Q _=>∃ (side top:Str) (a:Addr) (ps:List PP),vs=[.str side,.str top,.ref a]/\side.length<=24/\top.length<=24/\PL H a ps/\(∀ p∈ps,p.1 < side.length/\p.2 < top.length/\side.cps.toList[p.1]?=top.cps.toList[p.2]?)/\ps.Pairwise (fun p q=>p.1 < q.1/\p.2 < q.2)/\∀ H',Same H H'->Q (.bl true) H'
theorem lu:aG ["_law_side","_law_top","_law_thread_here","_law_before","_law_pair"] ["_law_side","_law_top","_law_thread_here"] (aB p7):=⟨rfl,rfl,rfl,by trivial,rfl,by trivial,by trivial⟩
theorem qm (T:Txt K mg):Has P w K mg base 1 "_law_thread" ["_law_side","_law_top","_law_thread_here"] aax:=by
 refine eO T.d_law_thread lu (fun _ _ _ _ _ _ us hl=>L2.pI (fun _ _ _=>rfl) us hl) ?_ fun f cdv A outer s H vs Q E hr h=>?_
 ·rintro vs H Q E ⟨side,top,a,ps,rfl,_⟩;rfl
 obtain ⟨side,top,a,ps,rfl,h1,h2,hP,hm,hp,q⟩:=h;have hu:=hr.units0;have hu64:=hr.units;apply ⟨_,(aA (aM (i:=3) lu.nd rfl dI (oZ (aa (vZ kj aF) (aa (vZ kj aF) ao))) rfl) (aA (eN AaF rfl (dR (K:=K) rfl (aq 2)) (bB (i:=4) lu.nd rfl dI rfl) (aA (bQ (mU (mR (bh Ad (bT (K:=K) rfl (aq 4) aF) (bT (K:=K) rfl (aq 3) aF) (by walk_at "p")) (mR (bh Ad (bT (K:=K) rfl (aq 4) aF) (bT (K:=K) rfl (aq 3) aF) (by walk_at "p")) (mR (bh Ij (bT (K:=K) rfl (aq 4) aF) (aJ (aH (K:=K) rfl) aU T.b_len aR (aa (aq 0) ao) (by trivial) (by trivial)) (by walk_at "p")) (mQ (bh Ij (bT (K:=K) rfl (aq 4) aF) (aJ (aH (K:=K) rfl) aU T.b_len aR (aa (aq 1) ao) (by trivial) (by trivial)) (by walk_at "p"))))))) (aC (aL lJ)) bj) (aA (bQ (bh (qL (K:=K) rfl hu64) (bT (K:=K) rfl (aq 0) (bT (K:=K) rfl (aq 4) aF)) (bT (K:=K) rfl (aq 1) (bT (K:=K) rfl (aq 4) aF)) (by walk_at "p")) (aC (aL lJ)) bj) (aC (aM (i:=3) lu.nd rfl dI (aq 4) rfl))))) (aC (aL lJ)))),?_⟩;have hz:20000<=sizeLine:=by decide
 obtain ⟨vs,hv,hvl,hvd⟩:=hP.len;apply b8 rfl fun b0 H1 nb S1 hb0=>?_
 refine .inl ⟨a,rfl,⟨_,SqL.of (S1 _ _ hv)⟩,?_⟩
 refine lw (xs:=vs) (fun k U G=>G=H1/\∃ (b:Addr) (i j:Int) (x4:Option V),U=[some (.str side),some (.str top),some (.ref a),some (.ref b),x4]/\H1 b=some (.tup [.int i,.int j])/\∀ p,ps[k]?=some p->i < p.1/\j < p.2)
  ⟨rfl,b0,-1,-1,_,rfl,hb0,fun p _=>by omega⟩ (fun i U G _ h=>by rw [h.1];exact SqL.of (S1 _ _ hv)) ?_ ?_
 ·rintro k v U G hk ⟨rfl,b,i,j,x4,rfl,hb,hlt⟩
  obtain ⟨p,t,ep,rfl,ht⟩:=PL.at_ (q:=a) (DRs.same S1 _ _ hvd) hk;obtain ⟨l1,l2⟩:=hlt p ep;obtain ⟨m1,m2,m3⟩:=hm p (Aai ep);have c1:side.cps.toList[p.1]?=some (side.cps.getD p.1 0):=zA m1;have c2:=m3.symm.trans c1;walk_at "s";rw [Aao (by omega)];walk_at "s";rw [Aao (by omega)];walk_at "s";apply bM (by omega) ?_;rw [Aao (by omega)];walk_at "s";apply bM (by omega) ?_;rw [Aao (by omega)];walk_at "s";apply yE (by omega) (jG c1) ?_;apply yE (by omega) (jG c2) ?_;rw [Aar rfl];walk_at "s";refine ⟨rfl,t,_,_,_,rfl,ht,fun p' ep'=>?_⟩;obtain ⟨w1,e1⟩:=Aab.mp ep;obtain ⟨w2,e2⟩:=Aab.mp ep';have:=(List.pairwise_iff_getElem.mp hp) k (k+1) w1 w2 (by omega);rw [e1,e2] at this;omega
 ·rintro U G ⟨rfl,b,i,j,x4,rfl,hb,hlt⟩
  walk_at "s";exact q _ S1
def aay:Sp:=fun vs H Q _=>∃ (a:Addr) (ps:List PP) (n:Nat),vs=[.ref a,.int (n:Int)]/\PL H a ps/\(∀ p∈ps,p.2 < n)/\∀ H',Same H H'->Q (.bl true) H'
theorem qp:aG ["_law_found","_law_most","_law_pair","_law_part"] ["_law_found","_law_most"] (aB rB):=⟨rfl,rfl,rfl,by trivial,rfl,by trivial,by trivial⟩
theorem oE (T:Txt K mg):Has P w K mg base 1 "_law_pairs" ["_law_found","_law_most"] aay:=by
 refine eO T.d_law_pairs qp (fun _ _ _ _ _ _ us hl=>L2.mJ (fun _ _=>rfl) us hl) ?_ fun f cdv A outer s H vs Q E hr h=>?_
 ·rintro vs H Q E ⟨a,ps,n,rfl,_⟩;rfl
 obtain ⟨a,ps,n,rfl,hP,hm,q⟩:=h;have hu:=hr.units0;have hu64:=hr.units;apply ⟨_,(aA (bQ (dN (dO (aJ (gH (K:=K) rfl) aU T.b_isinstance bf (aa (aq 0) (aa (uY aU T.b_list jH (by trivial) (by trivial)) ao)) (by trivial) (by trivial)))) (aC (aL lJ)) bj) (aA (eN AaF rfl (dR (K:=K) rfl (aq 0)) (bB (i:=2) qp.nd rfl dI rfl) (aA (bQ (mU (mR (dN (dO (aJ (gH (K:=K) rfl) aU T.b_isinstance bf (aa (aq 2) (aa (uY aU T.b_tuple yD (by trivial) (by trivial)) ao)) (by trivial) (by trivial)))) (mQ (bh (qL (K:=K) rfl hu64) (aJ (aH (K:=K) rfl) aU T.b_len aR (aa (aq 2) ao) (by trivial) (by trivial)) aF (by walk_at "p"))))) (aC (aL lJ)) bj) (aA (eN AaF rfl (dR (K:=K) rfl (aq 2)) (bB (i:=3) qp.nd rfl dI rfl) (aC (bQ (mU (mR (dN (dO (aJ (gH (K:=K) rfl) aU T.b_isinstance bf (aa (aq 3) (aa (uY aU T.b_int Oh (by trivial) (by trivial)) ao)) (by trivial) (by trivial)))) (mQ (dO (aJ (gH (K:=K) rfl) aU T.b_isinstance bf (aa (aq 3) (aa (uY aU T.b_bool Iz (by trivial) (by trivial)) ao)) (by trivial) (by trivial)))))) (aC (aL lJ)) bj))) (aC (bQ (dN (Ey Ad DY aF (bT (K:=K) rfl (aq 2) aF) (aq 1))) (aC (aL lJ)) bj))))) (aC (aL lJ)))),?_⟩;obtain ⟨vs,hv,hvl,hvd⟩:=hP.len;apply nU (.lst hv) (b:=true) (by rfl) ?_;refine .inl ⟨a,rfl,⟨_,SqL.of hv⟩,?_⟩
 refine lw (xs:=vs) (fun k U G=>G=H/\∃ (x2 x3:Option V),U=[some (.ref a),some (.int (n:Int)),x2,x3])
  ⟨rfl,_,_,rfl⟩ (fun i U G _ h=>by rw [h.1];exact SqL.of hv) ?_ ?_
 ·rintro k v U G hk ⟨rfl,x2,x3,rfl⟩
  obtain ⟨p,t,ep,rfl,ht⟩:=PL.at_ (q:=a) hvd hk;have m1:=hm p (Aai ep);walk_at "s";apply nU (.tup ht) (b:=true) (by rfl) ?_;apply vY (SqT.of ht) ?_;rw [show (!decide (V.int (([.int (p.1:Int),.int (p.2:Int)]:List V).length:Int)=V.int 2))=false by simp];walk_at "s";refine .inr (.inl ⟨t,rfl,⟨_,SqT.of ht⟩,?_⟩);refine Bv (xs:=[.int (p.1:Int),.int (p.2:Int)]) (fun k U G'=>G'=G/\∃ (x3:Option V),U=[some (.ref a),some (.int (n:Int)),some (.ref t),x3]) ⟨rfl,_,rfl⟩ (fun i U G' _ h=>by rw [h.1];exact SqT.of ht) ?_ ?_
  ·rintro i w U G' hw ⟨rfl,x3,rfl⟩
   obtain ⟨z,rfl⟩:∃ z:Int,w= .int z:=by
    have:=Aai hw;simp only [Aaj,AaN,or_false] at this;rcases this with rfl | rfl <;> exact ⟨_,rfl⟩
   walk_at "s";apply nU (.int _) (b:=true) (by rfl) ?_;apply nU (.int _) (b:=false) (by rfl) ?_;exact ⟨rfl,_,rfl⟩
  ·rintro U G' ⟨rfl,x3,rfl⟩
   walk_at "s";rw [Aar (show (0:Int)<=(p.2:Int) by omega)];walk_at "s";rw [Aar (show (p.2:Int) < (n:Int) by omega)];walk_at "s";exact ⟨rfl,_,_,rfl⟩
 ·rintro U G ⟨rfl,x2,x3,rfl⟩
  walk_at "s";exact q _ (Same.refl _)
structure W4 (K:W.Frag) (H:Hp) (n:Nat) (v:V):Prop where
 k:Kd K H v
 n:inB v 0 ((n:Int) - 1)=false
 s:∃ d,DR H d v/\PySem.SeqAt.shaped d=true
theorem W4.same {H H':Hp} {n:Nat} {v:V} (h:W4 K H n v) (s:Same H H'):W4 K H' n v:=⟨h.k.same s,h.n,let ⟨d,a,b⟩:=h.s;⟨d,DR.same s _ _ a,b⟩⟩
def Yq (K:W.Frag) (mg:Str->Option Value):Sp:=fun vs H Q _=>∃ (x:Addr) (side row:Str) (v:V),vs=[.ref x,v]/\Rg mg H x side row/\W4 K H row.cps.size v/\∀ H',Same H H'->Q (.bl true) H'
theorem qw:aG ["_law_ring","_law_place","e"] ["_law_ring","_law_place"] (aB jN):=⟨rfl,rfl,rfl,by trivial,rfl,by trivial,by trivial⟩
theorem jU (T:Txt K mg):Has P w K mg base 9 "_law_no_place" ["_law_ring","_law_place"] (Yq K mg):=by
 have g8:=g8 (P:=P) (w:=w) (base:=base) T;refine eO T.d_law_no_place qw (fun _ _ _ _ _ _ us hl=>L2.mJ (fun _ _=>rfl) us hl) ?_ fun f cdv A outer s H vs Q E hr h=>?_
 ·rintro vs H Q E ⟨x,side,row,v,rfl,_⟩;rfl
 obtain ⟨x,side,row,v,rfl,hR,hW,q⟩:=h;have hu:=hr.units0;have hu64:=hr.units;apply ⟨_,(aA (Xl rfl rfl (fun pins R=>(aC (aO (yP (mg:=mg) rfl (aq 0) T.o_Ring g8 (hr.mono (by decide)) Pa (aa (aq 1) ao))))) (ZZ (K:=K) (i:=2) rfl T.x_NoPlace.c aU (by trivial) qw.nd rfl kz00 (fun x=>(aC (aL (tM (uZ (fH (K:=K) rfl hu64) (Xj (K:=K) rfl (aq 2)) (aq 1) (by walk_at "p")) (tM (aJ (sH (K:=K) rfl) aU T.b_isinstance bf (aa (aq 2) (aa (uY aU T.b_ValueError z9 (by trivial) (by trivial)) ao)) (by trivial) (by trivial)) (wQ (U9 (aJ (sH (K:=K) rfl) aU T.b_isinstance bf (aa (aq 2) (aa (Vd aU T.x_NoPiece.c.at_ (by trivial)) ao)) (by trivial) (by trivial))))))))) (Z0 (K:=K) rfl T.x_PaneError aU (by trivial) (fun x=>(aC (aL lJ))) Xk))) (aC (aL lJ))),?_⟩;obtain ⟨hs,hr',h0,dx,al,ap,h,ak,hx,_⟩:=id hR;apply ⟨x,dx,_,rfl,hx,JM (by trivial),?_⟩;refine ⟨x,side,row,v,rfl,hR,hW.k,?_,?_⟩
 ·intro hv e H2 S2 X2
  refine ⟨_,e,rfl,rfl,?_⟩;apply Z2 T.x_NoPlace.c.cl.cls T.u_NoPlace_NoPlace.mro ?_;apply ⟨e,_,_,_,rfl,X2,T.x_NoPlace.c.cl.cls,T.x_NoPlace.na _ (by simp),rfl,?_⟩;obtain ⟨d,hd,sd⟩:=hW.s;apply .inl (.inl (yH (DR.same S2 _ _ hd) (DR.same S2 _ _ hd) sd ?_));apply Ph X2 T.x_NoPlace.c.cl rfl T.v_NoPlace ?_;apply Ph X2 T.x_NoPlace.c.cl rfl T.u_NoPlace_NoPiece.one ?_;exact q _ S2
 ·intro p e hp
  have hv:=hW.n;subst e;unfold inB at hv;simp at hv;omega
theorem zB:(["_law_heap","_law_row_here"]:List Str).Nodup:=by trivial
theorem rY:(["_law_i","_law_j","_law_place","_law_row_here"]:List Str).Nodup:=by trivial
theorem rZ:(["_law_i","_law_q","_law_place","_law_row_here"]:List Str).Nodup:=by trivial
def eqL (S P:List Nat) (i k:Nat):Bool:=decide (S.getD i 0=P.getD k 0)
theorem QZ {z:Str} {i:Nat} (h:i < z.cps.size):z.cps.toList.getD i 0=z.cps.getD i 0:=by simp [Array.getD,Aac,h]
def Bdd (ns:List Int):Prop:=∀ z∈ns,0<=z/\z < 1000
theorem Yr {side row:Str} (h1:Pln side) (h2:Pln row) {p k:Nat} {r:Str} (hp:p < row.cps.size) (hk:k<=row.cps.size) (hr:∀ j,j < row.cps.size->r.cps.toList.getD j 0=(row ++ row).cps.getD (p+j) 0):Vr side row p k=tb (eqL side.cps.toList r.cps.toList) 0 side.cps.size k:=by
 have a1:side.cps.size<=24:=h1.1;have a2:row.cps.size<=24:=h2.1;unfold Vr X8;rw [Vt (by omega) (by omega) (by omega),show p+k - p=k by omega];refine JP (m:=side.cps.size) (n:=k) (fun i j hi hj=>?_) _ (Aad _) _ (Aad _);unfold zG eqL;rw [Nat.zero_add,hr j (by omega),QZ hi]
theorem UG {side row:Str} (h1:Pln side) (h2:Pln row):Bdd (Mr side row):=fun z hz=>by
 have a1:side.cps.size<=24:=h1.1;have a2:row.cps.size<=24:=h2.1;unfold Mr at hz;obtain ⟨p,hp,rfl⟩:=AaO.mp hz;have hp:=AaA.mp hp;unfold Vr X8;rw [Vt (by omega) (by omega) (by omega)];have:=JQ (zG side (row ++ row)) p side.cps.size (p+row.cps.size - p);omega
theorem Ys {L:List Nat} {i j:Nat} (hi:i < L.length) (hj:j < L.length):(L.drop i ++ L.take i)[j]?=(L ++ L)[i+j]?:=by
 by_cases h:j < L.length - i
 ·rw [Aaw (by simp;omega),AbE,Aaw (by omega)]
 ·rw [Aas (by simp;omega),AbS,List.getElem?_take,if_pos (by omega),Aas (by omega)]
  congr 1
  omega
theorem Yt {side row:Str} (h1:Pln side) (h2:Pln row) {i:Nat} (hi:i < row.cps.size):Vr side row i row.cps.size=lt side.cps.toList (iI row i).cps.toList side.length row.length:=by
 have e3:(iI row i).cps.toList.length=row.cps.size:=by rw [AaG];exact sY hi
 have e4:side.cps.toList.length=side.cps.size:=AaG;rw [J5 _ _ _ (Aad _) (by rw [e4];exact Aad _) (by rw [e3];exact Aad _)];refine Yr h1 h2 hi (Aad _) fun j hj=>?_
 have h2:row.cps.toList.length=row.cps.size:=AaG;have h3:=jk row row;rw [← QZ (by omega),Aac,Aac,Dy,cps_append,Ys (by omega) (by omega)]
def HL (H:Hp) (t:Addr) (hs:List (List PP)):Prop:=∃ rs:List Addr,H t=some (.lst (rs.map V.ref))/\rs.length=hs.length/\∀ (i:Nat) (r:Addr) (ps:List PP),rs[i]?=some r->hs[i]?=some ps->PL H r ps
theorem HL.same {H H':Hp} {t:Addr} {hs:List (List PP)} (h:HL H t hs) (s:Same H H'):HL H' t hs:=by
 obtain ⟨rs,a,b,c⟩:=h;exact ⟨rs,s _ _ a,b,fun i r ps e1 e2=>(c i r ps e1 e2).same s⟩
theorem HTab.hl {H:Hp} {t:Addr} {rs:List Addr} {hs:List (List PP)} (h:HTab H t rs hs):HL H t hs:=⟨rs,h.at_,h.len,h.row⟩
theorem aaz {n:Nat}:(List.range n).map (fun _=>V.bl true)=(List.replicate n true).map V.bl:=by
 rw [List.map_replicate];refine List.ext_getElem (by simp) fun i h1 h2=>by simp
theorem Q0 {α:Type} {H:Hp} {f:α->PyData}:∀ {xs:List α} {vs:List V},vs.length=xs.length->(∀ (i:Nat) (x:α) (v:V),xs[i]?=some x->vs[i]?=some v->DR H (f x) v)->DRs H (xs.map f) vs
 | [],[],_,_=>gC.mpr rfl
 | [],_ :: _,hl,_=>by simp at hl
 | _ :: _,[],hl,_=>by simp at hl
 | x :: xs,v :: vs,hl,h=>by
  rw [AaW];exact ie.mpr ⟨v,vs,rfl,h 0 x v rfl rfl,Q0 (by simpa using hl) fun i y u e1 e2=>h (i+1) y u (by simpa using e1) (by simpa using e2)⟩
def hlD (hs:List (List PP)):PyData:=.list (hs.map fun h=>.list (h.map pD))
theorem HL.dr {H:Hp} {t:Addr} {hs:List (List PP)} (h:HL H t hs):DR H (hlD hs) (.ref t):=by
 obtain ⟨rs,h1,h2,h3⟩:=h;refine Cg.mpr ⟨t,_,rfl,h1,Q0 (by rw [Aaf];exact h2) fun i x v e1 e2=>?_⟩;rw [Aah] at e2;obtain ⟨r,er,rfl⟩:=AaT.mp e2;obtain ⟨vs,a,b⟩:=h3 i r x er e1;exact Cg.mpr ⟨r,vs,rfl,a,b⟩
theorem Q3 (p:PP):(pD p).canLay0=true/\(pD p).depth<=1:=Lf (n:=0) fun d hd=>by
 simp only [Aaj,AaN,or_false] at hd;rcases hd with rfl | rfl <;> exact Sy _
theorem Q4 (hs:List (List PP)):(hlD hs).canLay0=true/\(hlD hs).depth<=3:=yK (n:=2) fun d hd=>by
 obtain ⟨h,_,rfl⟩:=AaO.mp hd;refine yK (n:=1) fun d hd=>?_
 obtain ⟨p,_,rfl⟩:=AaO.mp hd;exact Q3 p
theorem Yu (ps:List PP):(PyData.list (ps.map pD)).canLay0=true/\(PyData.list (ps.map pD)).depth<=2:=yK (n:=1) fun d hd=>by
 obtain ⟨p,_,rfl⟩:=AaO.mp hd;exact Q3 p
theorem PL.dr {H:Hp} {a:Addr} {ps:List PP} (h:PL H a ps):DR H (.list (ps.map pD)) (.ref a):=let ⟨vs,e,d⟩:=h;Cg.mpr ⟨a,vs,rfl,e,d⟩
theorem Q5 {n p:Nat} {q:PP} (h:q.2 < n):(((HY n p q).2:Nat) - (p:Int)) % (n:Int)=(q.2:Int):=by
 show ((((p+q.2) % n:Nat):Int) - (p:Int)) % (n:Int)=(q.2:Int);rw [Int.natCast_emod,Int.sub_emod,Int.emod_emod,← Int.sub_emod,show ((p+q.2:Nat):Int) - (p:Int)=(q.2:Int) by omega];exact Int.emod_eq_of_lt (by omega) (by omega)
theorem wbR {side row:Str} {p:Nat} (hp:p < row.cps.size):(∀ q∈(wb side.cps.toList (iI row p).cps.toList side.length row.length).reverse,q.1 < side.length/\q.2 < row.length/\side.cps.toList[q.1]?=(iI row p).cps.toList[q.2]?)/\(wb side.cps.toList (iI row p).cps.toList side.length row.length).reverse.Pairwise (fun p q=>p.1 < q.1/\p.2 < q.2)/\((YH side row p).length:Int)=lt side.cps.toList (iI row p).cps.toList side.length row.length:=by
 obtain ⟨a,b,c⟩:=J6 side.cps.toList (iI row p).cps.toList _ side.length row.length (Aad _);refine ⟨fun q hq=>a q (AbU.mp hq),List.pairwise_reverse.mpr (b.imp fun {p q} h=>h),?_⟩;unfold YH;rw [Aaf,AbQ];exact c
theorem Q6 {n p:Nat} (h:0 < n) {qs:List PP}:∀ q∈qs.map (HY n p),q.2 < n:=fun q hq=>by
 obtain ⟨q0,_,rfl⟩:=AaO.mp hq;exact Nat.mod_lt _ h
theorem Out.step' {rs:List Addr} {H H':Hp} {r:Addr} {o:HO} (h:Out rs H H') (hr:r∈rs\/H r=none):Out rs H (upd H' r o):=fun b u hb e=>by
 rw [aD (fun z=>by exact hr.elim (fun hr=>hb (by rw [z];exact hr)) fun hr=>by rw [z,hr] at e;cases e)];exact h b u hb e
theorem HL.out {M:List Addr} {H G:Hp} {f:Addr} {as:List Addr} {hs:List (List PP)} (O:Out M H G) (l:∀ r∈M,∃ xs,H r=some (.lst xs)) (hf:H f=some (.lst (as.map V.ref))) (nf:f ∉ M) (na:∀ b∈as,b ∉ M) (hl:as.length=hs.length) (h:∀ (i:Nat) (b:Addr) (ps:List PP),as[i]?=some b->hs[i]?=some ps->PL H b ps):HL G f hs:=
 ⟨as,O _ _ nf hf,hl,fun i b ps e1 e2=>(h i b ps e1 e2).keep (TKt.out O l) fun vs e=>O _ _ (na b (Aai e1)) e⟩
def UJ (K:W.Frag) (mg:Str->Option Value):Sp:=fun vs H Q _=>∃ (x:Addr) (side row:Str) (p:Nat),vs=[.ref x,.str side,.str row,.int (p:Int)]/\Rg mg H x side row/\p < row.cps.size/\∀ H',Same H H'->Q (.bl true) H'
theorem dW:aG ["_law_ring","_law_side","_law_row_here","_law_place","_law_opened","_law_heaps_here","_law_found","_law_due","_law_heap","_law_thread_here","_law_again"] ["_law_ring","_law_side","_law_row_here","_law_place"] (aB jw):=⟨rfl,rfl,rfl,by trivial,rfl,by trivial,by trivial⟩
theorem jB (T:Txt K mg):Has P w K mg base 10 "_law_right" ["_law_ring","_law_side","_law_row_here","_law_place"] (UJ K mg):=by
 have rT:=rT (P:=P) (w:=w) (base:=base) T;have g8:=g8 (P:=P) (w:=w) (base:=base) T;have oE:=oE (P:=P) (w:=w) (base:=base) T;have qm:=qm (P:=P) (w:=w) (base:=base) T;have ir:=ir (P:=P) (w:=w) (base:=base) T;refine eO T.d_law_right dW (fun _ _ _ _ _ _ us hl=>L2.usN4 (fun _ _ _ _=>rfl) us hl) ?_ fun f cdv A outer s H vs Q E hr h=>?_
 ·rintro vs H Q E ⟨x,side,row,p,rfl,_⟩;rfl
 obtain ⟨x,side,row,p,rfl,hR,hp,q⟩:=h;have hu:=hr.units0;have hu64:=hr.units;apply ⟨_,(aA (aM (i:=4) dW.nd rfl dI (aY aQ (my (vm (K:=K) rfl) (iC 2) (gB (iC 3)) dH) (my (vm (K:=K) rfl) (iC 2) dH (gB (iC 3)))) rfl) (aA (aM (i:=5) dW.nd rfl dI (aK rT (hr.mono (by decide)) aU (aa (aq 1) (aa (aq 4) ao)) (by trivial)) rfl) (aA (aM (i:=6) dW.nd rfl dI (iU (aq 0) T.o_Ring g8 (hr.mono (by decide)) (mW fun _ _=>rfl) (aa (iC 3) ao)) rfl) (aA (bQ (mU (mR (dN (dO (aJ (gH (K:=K) rfl) aU T.b_isinstance bf (aa (aq 6) (aa (uY aU T.b_tuple yD (by trivial) (by trivial)) ao)) (by trivial) (by trivial)))) (mR (bh (qL (K:=K) rfl hu64) (aJ (aH (K:=K) rfl) aU T.b_len aR (aa (aq 6) ao) (by trivial) (by trivial)) aF (by walk_at "p")) (mQ (dN (dO (aK oE (hr.mono (by decide)) aU (aa (bT (K:=K) rfl (aq 6) aF) (aa (aJ (aH (K:=K) rfl) aU T.b_len aR (aa (iC 2) ao) (by trivial) (by trivial)) ao)) (by trivial)))))))) (aC (aL lJ)) bj) (aA (bQ (bh (qL (K:=K) rfl hu64) (aJ (aH (K:=K) rfl) aU T.b_len aR (aa (bT (K:=K) rfl (aq 6) aF) ao) (by trivial) (by trivial)) (aJ (aH (K:=K) rfl) aU T.b_len aR (aa (aq 5) ao) (by trivial) (by trivial)) (by walk_at "p")) (aC (aL lJ)) bj) (aA (bQ (dN (dO (aK qm (hr.mono (by decide)) aU (aa (aq 1) (aa (aq 4) (aa (jJ (sub:=[none,none,some 3,some 2]) (d8 (N:=["_law_ring","_law_side","_law_row_here","_law_place","_law_opened","_law_heaps_here","_law_found","_law_due","_law_heap","_law_thread_here","_law_again"]) (sc:=aB jw) (N':=["_law_i","_law_q","_law_place","_law_row_here"]) (by trivial)) rfl rfl rfl (dR (K:=K) rfl (bT (K:=K) rfl (aq 6) aF)) (fun C s₀ H₀ ex=>(t8 (K:=K) (n:=2) rfl rfl (fB (qI 0 (by trivial) rZ) (fB (qI 1 (by trivial) rZ) pK)))) (fun C s₀ H₀ ex=>gW) (fun C s₀ H₀ ex=>(oZ (aa (kh 0 (by trivial)) (aa (aY jn (aY iu (kh 1 (by trivial)) (mj 2 (by trivial))) (aJ (aH (K:=K) rfl) (RZ (by trivial)) T.b_len aR (aa (mj 3 (by trivial)) ao) (by trivial) (by trivial))) ao))))) ao))) (by trivial)))) (aC (aL lJ)) bj) (aA (aM (i:=7) dW.nd rfl dI (gJ ao) rfl) (aA (eN AaF rfl (dR (K:=K) rfl (aq 5)) (bB (i:=8) dW.nd rfl dI rfl) (aC (aO (je (K:=K) rfl AaB AaC AaD dF (aq 7) (aa (jJ (sub:=[none,none,some 3,some 2]) (d8 (N:=["_law_ring","_law_side","_law_row_here","_law_place","_law_opened","_law_heaps_here","_law_found","_law_due","_law_heap","_law_thread_here","_law_again"]) (sc:=aB jw) (N':=["_law_i","_law_j","_law_place","_law_row_here"]) (by trivial)) rfl rfl rfl (dR (K:=K) rfl (aq 8)) (fun C s₀ H₀ ex=>(t8 (K:=K) (n:=2) rfl rfl (fB (qI 0 (by trivial) rY) (fB (qI 1 (by trivial) rY) pK)))) (fun C s₀ H₀ ex=>gW) (fun C s₀ H₀ ex=>(oZ (aa (kh 0 (by trivial)) (aa (aY jn (aY aQ (mj 2 (by trivial)) (kh 1 (by trivial))) (aJ (aH (K:=K) rfl) (RZ (by trivial)) T.b_len aR (aa (mj 3 (by trivial)) ao) (by trivial) (by trivial))) ao))))) ao))))) (aA (bQ (mU (mR (dN (dO (aJ (gH (K:=K) rfl) aU T.b_isinstance bf (aa (bT (K:=K) rfl (aq 6) aF) (aa (uY aU T.b_list jH (by trivial) (by trivial)) ao)) (by trivial) (by trivial)))) (mR (dN (dO (aJ (yz rfl) aU T.b_all G9 (aa (jJ (sub:=[none,some 2]) (d8 (N:=["_law_ring","_law_side","_law_row_here","_law_place","_law_opened","_law_heaps_here","_law_found","_law_due","_law_heap","_law_thread_here","_law_again"]) (sc:=aB jw) (N':=["_law_heap","_law_row_here"]) (by trivial)) rfl rfl rfl (dR (K:=K) rfl (bT (K:=K) rfl (aq 6) aF)) (fun C s₀ H₀ ex=>(qI 0 (by trivial) zB)) (fun C s₀ H₀ ex=>gW) (fun C s₀ H₀ ex=>(aK oE (hr.mono (by decide)) (RZ (by trivial)) (aa (kh 0 (by trivial)) (aa (aJ (aH (K:=K) rfl) (RZ (by trivial)) T.b_len aR (aa (mj 1 (by trivial)) ao) (by trivial) (by trivial)) ao)) (by trivial)))) ao) (by trivial) (by trivial)))) (mQ (bh (qL (K:=K) rfl hu64) (bT (K:=K) rfl (aq 6) aF) (aq 7) (by walk_at "p")))))) (aC (aL lJ)) bj) (aA (aM (i:=9) dW.nd rfl dI (qH (mO (K:=K) rfl rfl) aU T.b_list jH (aa (bT (K:=K) rfl (aq 6) aF) ao) (by trivial) (by trivial)) rfl) (aA (aO (je (K:=K) rfl AaB AaC AaD dF (bT (K:=K) rfl (aq 6) aF) (aa U6 ao))) (aA (aO (je (K:=K) rfl AaB AaC AaD dF (bT (K:=K) rfl (aq 6) aF) (aa (gJ ao) ao))) (aA (eN AaF rfl (dR (K:=K) rfl (bT (K:=K) rfl (aq 6) aF)) (bB (i:=8) dW.nd rfl dI rfl) (aC (aO (je (K:=K) rfl AaB AaC AaD dF (aq 8) (aa (oZ (aa aF (aa aF ao))) ao))))) (aA (aM (i:=10) dW.nd rfl dI (iU (aq 0) T.o_Ring g8 (hr.mono (by decide)) (mW fun _ _=>rfl) (aa (iC 3) ao)) rfl) (aC (aL (tM (uZ (fH (K:=K) rfl hu64) (bT (K:=K) rfl (aq 10) aF) (aq 7) (by walk_at "p")) (tM (uZ (fH (K:=K) rfl hu64) (bT (K:=K) rfl (aq 10) aF) (aq 9) (by walk_at "p")) (wQ (uZ (fH (K:=K) rfl hu64) (iU (aq 0) T.o_Ring ir (hr.mono (by decide)) (mW fun _ _=>rfl) (aa (iC 3) ao)) (aJ (aH (K:=K) rfl) aU T.b_len aR (aa (aq 7) ao) (by trivial) (by trivial)) (by walk_at "p"))))))))))))))))))))),?_⟩;obtain ⟨hs,hr',h0,dx,al,ap,h,ak,hx,_⟩:=id hR;have hz:20000<=sizeLine:=by decide
 have l1:side.length<=24:=hs.1;have l2:row.length<=24:=hr'.1;have e2:row.length=row.cps.size:=rfl;have lr:(iI row p).length=row.length:=sY hp;obtain ⟨wm,wp,wl⟩:=wbR (side:=side) hp;have hle:=J7 side row p;have hlr:=Ia side.cps.toList (iI row p).cps.toList side.length row.length;have h5:=fun h=>Gs (side:=side) hs hr' hp (h:=h)
 have nv:inB (.int (p:Int)) 0 ((row.cps.size:Int) - 1)≠false:=fun hv=>by unfold inB at hv;simp at hv;omega
 apply Cr (by omega) ?_;apply Cr (by omega) ?_;apply t7 (by have:=QW hp (Aad _);omega) ?_;rw [show Txt.slice row (some (p:Int)) none ++ Txt.slice row none (some (p:Int))=iI row p from rfl];apply ⟨side,iI row p,rfl,l1,by omega,fun t rs H1 nt nrs S1 HT=>?_⟩;rw [lr] at HT;replace HT:HTab H1 t rs (DK side row p):=HT;apply ⟨x,dx,_,rfl,S1 _ _ hx,JM (by trivial),?_⟩;refine ⟨x,side,row,.int (p:Int),rfl,hR.same S1,.inl ⟨_,rfl⟩,fun hv=>absurd hv nv,fun p' e _ kp th hp' rs2 H2 nth nhp nrs2 d1 d2 S2 hk PT HP=>?_⟩;obtain rfl:p'=p:=by injection e with e;omega
 walk_at "s";apply nU (.tup hk) (b:=true) (by rfl) ?_;apply vY (SqT.of hk) ?_;rw [show (!decide (V.int (([.ref th,.ref hp']:List V).length:Int)=V.int 2))=false by simp];walk_at "s";apply bM (by omega) ?_;apply ⟨th,_,row.length,rfl,PT,Q6 (by omega),fun H3 S3=>?_⟩;have U3:=S2.trans S3;have hk3:=S3 _ _ hk;have PT3:=PT.same S3;have HT3:=(HT.same S2).same S3;have HP3:=HP.same S3;obtain ⟨vt,ht,htl,htd⟩:=PT3.len;walk_at "s";apply d9 (SqL.of ht) ?_;apply d9 (SqL.of HT3.at_) ?_;rw [show (vt.length:Int)=((rs.map V.ref).length:Int) by rw [htl,wl,Aaf,HT3.len,hle],Aar rfl];walk_at "s";refine .inl ⟨th,rfl,⟨_,SqL.of ht⟩,?_⟩;refine iQ (xs:=vt) (fun i ys J=>Same H3 J/\DRs J (((wb side.cps.toList (iI row p').cps.toList side.length row.length).reverse.take i).map pD) ys) (by omega) ⟨Same.refl _,gC.mpr rfl⟩ ?_ (fun i ys J h=>SqL.of (h.1 _ _ ht)) ?_ ?_
 ·rintro i ys J ⟨_,h⟩
  have:=Dz h;simp at this;omega
 ·rintro i ys J v hv ⟨s,h⟩
  obtain ⟨q0,b,ep,rfl,hb⟩:=PL.at_ (q:=th) (DRs.same s _ _ htd) hv;unfold YH at ep;rw [Aah] at ep;obtain ⟨q1,eq1,rfl⟩:=AaT.mp ep;have hq1:=(wm q1 (Aai eq1)).2.1;apply bN (SqT.of hb) rfl ?_;apply ⟨(KeepSt.set rfl).trans (KeepSt.set rfl),?_⟩;apply bM (by omega) ?_;apply b8 rfl fun c G2 nc s2 hc=>?_
  refine ⟨s.trans s2,?_⟩;rw [Q5 hq1] at hc;rw [Aa4,eq1,Aau];exact kE (DRs.same s2 _ _ h) (sE (zx.mpr ⟨c,rfl,hc⟩))
 rintro ys J D H4 ⟨s,hys⟩ nD S4 hD;try walk_at "s"
 rw [AaU (by unfold YH at htl;rw [Aaf] at htl;omega)] at hys;apply ⟨side,iI row p',D,_,rfl,l1,by omega,⟨ys,hD,DRs.same S4 _ _ hys⟩,fun q hq=>by rw [lr];exact wm q hq,wp,fun H5 S5=>?_⟩;have U5:=s.trans (S4.trans S5);have HT5:=HT3.same U5;have HP5:=HP3.same U5;have PT5:=PT3.same U5;have hk5:=U5 _ _ hk3;clear hys hD nD ht htd PT3 HT3 HP3 hk3 PT HP HT;apply b8 rfl fun f H6 nf S6 hf=>?_
 have nft:t≠f:=fun z=>by rw [← z,HT5.at_] at nf;cases nf
 refine .inl ⟨t,rfl,⟨_,SqL.of (S6 _ _ HT5.at_)⟩,?_⟩
 refine lw (xs:=rs.map V.ref) (fun k U G=>Same H5 G/\∃ (as:List Addr) (x8:Option V),U=[some (.ref x),some (.str side),some (.str row),some (.int (p':Int)),some (.str (iI row p')),some (.ref t),some (.ref kp),some (.ref f),x8,none,none]/\G f=some (.lst (as.map V.ref))/\as.length=k/\f ∉ as/\(∀ b∈as,H5 b=none)/\∀ (i:Nat) (b:Addr) (ps:List PP),as[i]?=some b->(DK side row p')[i]?=some ps->PL G b (ps.map (HY row.length p')))
  ⟨S6,[],_,rfl,hf,rfl,by simp,by simp,fun i b ps e=>by simp at e⟩ (fun i U G _ h=>SqL.of (h.1 _ _ HT5.at_)) ?_ ?_
 ·rintro k v U G hv ⟨s,as,x8,rfl,hg,hla,nfa,nas,has⟩
  rw [Aah] at hv;obtain ⟨r,er,rfl⟩:=AaT.mp hv;have hk':k < (DK side row p').length:=by rw [← HT5.len];exact (Aab.mp er).1
  have ep:=Aaa hk';have hps5:=h5 _ (Aa6 hk');have hP:=(HT5.row k r _ er ep).same s;generalize (DK side row p')[k]=ps at ep hps5 hP;obtain ⟨vs,hv,hvl,hvd⟩:=hP.len;walk_at "s";apply ⟨.inl ⟨rfl,_,SqL.of hg⟩,?_⟩;refine .inl ⟨r,rfl,⟨_,SqL.of hv⟩,?_⟩;refine iQ (xs:=vs) (fun i ys J=>Same G J/\DRs J (((ps.take i).map (HY row.length p')).map pD) ys) (by omega) ⟨Same.refl _,gC.mpr rfl⟩ ?_ (fun i ys J h=>SqL.of (h.1 _ _ hv)) ?_ ?_
  ·rintro i ys J ⟨_,h⟩
   have:=Dz h;simp at this;omega
  ·rintro i ys J v hk ⟨s,h⟩
   obtain ⟨p,b,ep,rfl,hb⟩:=PL.at_ (q:=r) (DRs.same s _ _ hvd) hk;apply bN (SqT.of hb) rfl ?_;apply ⟨(KeepSt.set rfl).trans (KeepSt.set rfl),?_⟩;apply bM (by omega) ?_;apply b8 rfl fun c G2 nc s2 hc=>?_
   refine ⟨s.trans s2,?_⟩;rw [Aa4,ep,Aau,Aau];exact kE (DRs.same s2 _ _ h) (sE (zx.mpr ⟨c,rfl,by rw [hc];unfold HY;simp only [Int.natCast_add,Int.natCast_emod]⟩))
  rintro ys J D J2 ⟨sJ,h⟩ nD S3 hD;try walk_at "s"
  rw [AaU (by omega)] at h;have hg2:=S3 _ _ (sJ _ _ hg);apply dG hg2 (by rw [Aaf];omega) ?_;have nDf:D≠f:=fun z=>by rw [z,sJ _ _ hg] at nD;cases nD
  have tk:=TKt.lst (o:=.lst (as.map V.ref ++ [.ref D])) hg2;refine ⟨Same.put ((s.trans sJ).trans S3) nf,as ++ [D],_,rfl,by rw [aj];simp,by simp [hla],by simp [nfa,nDf.symm],fun b hb=>?_,fun i b qs e1 e2=>?_⟩
  ·rcases Aaz.mp hb with h | h
   ·exact nas b h
   ·rw [Aam.mp h];exact Same.back (s.trans sJ) nD
  by_cases ei:i < as.length
  ·rw [Aaw ei] at e1
   exact ((((has i b qs e1 e2).same sJ).same S3)).keep tk fun vs e=>by rw [aD (fun z=>nfa (by rw [← z];exact Aai e1))];exact e
  ·have ek:i=k:=by
    have:=(Aab.mp e1).1;simp at this;omega
   subst ek;rw [Aas (by omega),hla,Abt] at e1;cases e1;rw [ep] at e2;cases e2;exact PL.keep ⟨ys,hD,DRs.same S3 _ _ h⟩ tk fun vs e=>by rw [aD nDf];exact e
 rintro U H7 ⟨S7,as,x8,rfl,hg,hla,nfa,nas,has⟩;rw [Aaf,HT5.len] at hla
 have has':∀ (i:Nat) (b:Addr) (ps:List PP),as[i]?=some b->((DK side row p').map (List.map (HY row.length p')))[i]?=some ps->PL H7 b ps:=fun i b ps e1 e2=>by
  rw [Aah] at e2;obtain ⟨p0,e3,rfl⟩:=AaT.mp e2;exact has i b p0 e1 e3
 have HD7:HL H7 f ((DK side row p').map (List.map (HY row.length p'))):=⟨as,hg,by rw [Aaf];exact hla,has'⟩;have HP7:=HP5.same S7;have PT7:=PT5.same S7;have hk7:=S7 _ _ hk5;walk_at "s";apply nU (.lst HP7.at_) (b:=true) (by rfl) ?_;refine .inl ⟨hp',rfl,⟨_,SqL.of HP7.at_⟩,?_⟩;refine iQ (xs:=rs2.map V.ref) (fun i ys J=>Same H7 J/\ys=(List.range i).map fun _=>V.bl true) (by rw [Aaf,HP7.len,Aaf];omega) ⟨Same.refl _,rfl⟩ ?_ (fun i ys J h=>SqL.of (h.1 _ _ HP7.at_)) ?_ ?_
 ·rintro i ys J ⟨_,rfl⟩
  simp
 ·rintro i ys J v hv ⟨s,rfl⟩
  rw [Aah] at hv;obtain ⟨r,er,rfl⟩:=AaT.mp hv;have hi:i < ((DK side row p').map (List.map (HY row.length p'))).length:=by rw [← HP7.len];exact (Aab.mp er).1
  have ep:=Aaa hi;have hP:=(HP7.row i r _ er ep).same s;rw [List.getElem_map] at hP;walk_at "s";apply ⟨KeepSt.set rfl,?_⟩;apply bM (by omega) ?_;apply ⟨r,_,row.length,rfl,hP,Q6 (by omega),fun J2 s2=>?_⟩;exact ⟨s.trans s2,by rw [Abn,Aau];rfl⟩
 rintro ys J D8 H8 ⟨sJ,rfl⟩ nD8 S8 hD8;try walk_at "s"
 rw [aaz] at hD8;refine ⟨D8,_,rfl,hD8,?_⟩;rw [show (List.replicate (rs2.map V.ref).length true).all id=true by simp];have U8:=sJ.trans S8;have HP8:=HP7.same U8;have PT8:=PT7.same U8;have hk8:=U8 _ _ hk7;have HD8:=HD7.same U8;clear HP7 PT7 hk7 HD7 hD8 nD8;walk_at "s";apply Oq HP8.hl.dr HD8.dr (uf (Q4 _) (by decide)) ?_;obtain ⟨vt,ht,htl,htd⟩:=PT8.len;apply xR (SqL.of ht) fun l nl=>?_
 have S9:=(Same.refl H8).upd nl (o:=.lst vt);have hl9:=aj (H:=H8) (a:=l) (o:=.lst vt);generalize upd H8 l (.lst vt)=H9 at S9 hl9 ⊢;have HP9:=HP8.same S9;have hk9:=S9 _ _ hk8;have ht9:=S9 _ _ ht;have PL9:PL H9 l (YH side row p'):=⟨vt,hl9,DRs.same S9 _ _ htd⟩;have V9:Same H H9:=S1.trans (U3.trans (U5.trans (S7.trans (U8.trans S9))));have W9:=S7.trans (U8.trans S9)
 have ll:∀ r∈th :: hp' :: rs2,∃ xs,H5 r=some (.lst xs):=fun r hr=>by
  rcases Aaj.mp hr with rfl | hr
  ·obtain ⟨vs,e,_⟩:=PT5;exact ⟨vs,e⟩
  ·rcases Aaj.mp hr with rfl | hr
   ·exact ⟨_,HP5.at_⟩
   ·exact HP5.mem hr
 have ll9:∀ r∈th :: hp' :: rs2,∃ xs,H9 r=some (.lst xs):=fun r hr=>let ⟨xs,e⟩:=ll r hr;⟨xs,W9 _ _ e⟩
 have nM:∀ b,H5 b=none->b ∉ th :: hp' :: rs2:=fun b hb hr=>by obtain ⟨xs,e⟩:=ll b hr;rw [hb] at e;cases e
 have fM:=nM f nf;have asM:∀ b∈as,b ∉ th :: hp' :: rs2:=fun b hb=>nM b (nas b hb)
 have lM:l ∉ th :: hp' :: rs2:=fun hr=>by obtain ⟨xs,e⟩:=ll l hr;rw [U8 _ _ (S7 _ _ e)] at nl;cases nl
 have hg9:=S9 _ _ (U8 _ _ hg);have has9:∀ (i:Nat) (b:Addr) (ps:List PP),as[i]?=some b->((DK side row p').map (List.map (HY row.length p')))[i]?=some ps->PL H9 b ps:=fun i b ps e1 e2=>((has' i b ps e1 e2).same U8).same S9
 have nthH:=Same.back S1 nth;have nhpH:=Same.back S1 nhp;have nkt:kp≠th:=fun z=>by rw [z,ht9] at hk9;cases hk9
 have hsl:(DK side row p').length<=24:=by omega
 have hr2:∀ r∈rs2,∃ xs,H9 r=some (.lst xs)/\xs.length<=6000:=fun r hr=>by
  obtain ⟨i,hi,e⟩:=Abe.mp hr;have hi2:i < (DK side row p').length:=by have:=HP9.len;rw [Aaf] at this;omega
  obtain ⟨vs,h1,h2,_⟩:=(HP9.row i r _ (by rw [Aaa hi,e]) (by rw [Aah,Aaa hi2];rfl)).len;refine ⟨vs,h1,?_⟩;rw [h2,Aaf];have:=h5 _ (Aa6 hi2);omega
 have nne:=HP9.ne;have hpl:rs2.length<=24:=by have:=HP9.len;rw [Aaf] at this;omega
 have hp9:=HP9.at_;clear HT5 HP5 PT5 HP8 PT8 hk8 HD8 has has' htd hl9 HP9 S9 U8 U5 U3 S7 S6 hf ll nM;walk_at "s";apply ⟨.inl ⟨rfl,_,SqL.of ht9⟩,?_⟩;refine dG ht9 (by omega) ?_;have O1:Out (th :: hp' :: rs2) H9 (upd H9 th (.lst (vt ++ [.non]))):=(Out.refl _ _).step (by simp);have V1:Same H (upd H9 th (.lst (vt ++ [.non]))):=Same.put V9 nthH;have hk1:=(aD nkt (H:=H9) (o:=.lst (vt ++ [.non]))).trans hk9;have hp1:=(aD (Ne.symm d1) (H:=H9) (o:=.lst (vt ++ [.non]))).trans hp9;have hr1:∀ r∈rs2,∃ xs,upd H9 th (.lst (vt ++ [.non])) r=some (.lst xs)/\xs.length<=6000:=fun r hr=>let ⟨xs,e,g⟩:=hr2 r hr;⟨xs,(aD fun z=>d2 (by rw [← z];exact hr)).trans e,g⟩
 have ht1:=aj (H:=H9) (a:=th) (o:=.lst (vt ++ [.non]));generalize upd H9 th (.lst (vt ++ [.non]))=HA at O1 V1 hk1 hp1 hr1 ht1 ⊢;walk_at "s";apply ⟨.inl ⟨rfl,_,SqL.of hp1⟩,?_⟩;apply b8 rfl fun e0 HB ne0 SB he0=>?_
 refine dG (SB _ _ hp1) (by rw [Aaf];omega) ?_
 have eM:e0 ∉ th :: hp' :: rs2:=fun hm=>by
  rcases Aaj.mp hm with rfl | hm
  ·rw [ht1] at ne0;cases ne0
  ·rcases Aaj.mp hm with rfl | hm
   ·rw [hp1] at ne0;cases ne0
   ·obtain ⟨xs,e,_⟩:=hr1 _ hm;rw [e] at ne0;cases ne0
 have ne9:H9 e0=none:=by
  cases q:H9 e0 with
  | none=>rfl
  | some o=>rw [O1 _ _ eM q] at ne0;cases ne0
 have neH:H e0=none:=Same.back V9 ne9;have eh:e0≠hp':=fun z=>eM (by rw [z];simp)
 have O2:Out (th :: hp' :: rs2) H9 (upd HB hp' (.lst (rs2.map V.ref ++ [.ref e0]))):=Out.step (fun b o hb e=>SB _ _ (O1 b o hb e)) (by simp);have V2:Same H (upd HB hp' (.lst (rs2.map V.ref ++ [.ref e0]))):=Same.put (V1.trans SB) nhpH;have nkh:kp≠hp':=fun z=>by rw [z,hp1] at hk1;cases hk1
 have hk2:=(aD nkh (H:=HB) (o:=.lst (rs2.map V.ref ++ [.ref e0]))).trans (SB _ _ hk1);have hp2:upd HB hp' (.lst (rs2.map V.ref ++ [.ref e0])) hp'=some (.lst ((rs2 ++ [e0]).map V.ref)):=by rw [aj];simp
 have hr3:∀ r∈rs2 ++ [e0],∃ xs,upd HB hp' (.lst (rs2.map V.ref ++ [.ref e0])) r=some (.lst xs)/\xs.length<=6000+0:=fun r hr=>by
  rcases Aaz.mp hr with h | h
  ·obtain ⟨xs,e,g⟩:=hr1 r h
   exact ⟨xs,(aD fun z=>nne (by rw [← z];exact h)).trans (SB _ _ e),g⟩
  ·rw [Aam.mp h]
   exact ⟨[],(aD eh).trans he0,by simp⟩
 have hne:∀ r∈rs2 ++ [e0],H r=none/\r≠hp'/\(r∈th :: hp' :: rs2\/H9 r=none):=fun r hr=>by
  rcases Aaz.mp hr with h | h
  ·exact ⟨Same.back S1 (nrs2 r h),fun z=>nne (by rw [← z];exact h),.inl (by simp [h])⟩
  ·rw [Aam.mp h];exact ⟨neH,eh,.inr ne9⟩
 have hxl:((rs2 ++ [e0]).map V.ref).length<=25:=by simp;omega
 generalize upd HB hp' (.lst (rs2.map V.ref ++ [.ref e0]))=HC at O2 V2 hk2 hp2 hr3 ⊢;generalize rs2 ++ [e0]=rz at hp2 hr3 hne hxl;clear hr1 hr2 hp1 hk1 ht1 V1 SB he0 ne0 nne O1;walk_at "s";refine .inl ⟨hp',rfl,⟨_,SqL.of hp2⟩,?_⟩
 refine lw (xs:=rz.map V.ref) (fun k U G=>Out (th :: hp' :: rs2) H9 G/\Same H G/\k<=25/\G kp=some (.tup [.ref th,.ref hp'])/\G hp'=some (.lst (rz.map V.ref))/\(∀ r∈rz,∃ xs,G r=some (.lst xs)/\xs.length<=6000+k)/\∃ (x8:Option V),U=[some (.ref x),some (.str side),some (.str row),some (.int (p':Int)),some (.str (iI row p')),some (.ref t),some (.ref kp),some (.ref f),x8,some (.ref l),none])
  ⟨O2,V2,by omega,hk2,hp2,hr3,_,rfl⟩ (fun i U G _ h=>SqL.of h.2.2.2.2.1) ?_ ?_
 ·rintro k v U G hv ⟨O,V,hk25,hkp,hhp,hls,x8,rfl⟩
  have hkx:=(Aab.mp hv).1;rw [Aah] at hv;obtain ⟨r,er,rfl⟩:=AaT.mp hv;have mr:=Aai er;obtain ⟨xs,hr,hxs⟩:=hls r mr;obtain ⟨n1,n2,n3⟩:=hne r mr;walk_at "s";apply ⟨.inl ⟨rfl,_,SqL.of hr⟩,?_⟩;apply b8 rfl fun c G2 nc s2 hc=>?_
  apply dG (s2 _ _ hr) (by omega) ?_;refine ⟨Out.step' (fun b o hb e=>s2 _ _ (O b o hb e)) n3,Same.put (V.trans s2) n1,by omega,(aD fun z=>by rw [z,hr] at hkp;cases hkp).trans (s2 _ _ hkp),(aD (Ne.symm n2)).trans (s2 _ _ hhp),fun r' hr'=>?_,_,rfl⟩;by_cases e:r'=r
  ·subst e
   exact ⟨_,aj,by simp;omega⟩
  ·obtain ⟨ys,e',g⟩:=hls r' hr'
   exact ⟨ys,(aD e).trans (s2 _ _ e'),by omega⟩
 rintro U G ⟨O,V,_,hkp,hhp,hls,x8,rfl⟩;have HG:=HL.out O ll9 hg9 fM asM (by rw [Aaf];exact hla) has9;have PG:=PL9.keep (TKt.out O ll9) fun vs e=>O _ _ lM e
 have hRG:=hR.same V;have hxG:=V _ _ hx;clear hls hhp O O2 has9 hg9 PL9 hne hr3 hp2 hk2 ll9 V9 hk9 ht9;walk_at "s";apply ⟨x,dx,_,rfl,hxG,JM (by trivial),?_⟩;refine ⟨x,side,row,.int (p':Int),rfl,hRG,.inl ⟨_,rfl⟩,fun hv=>absurd hv nv,fun p2 e hq2 kq t2 h2 rs4 HJ _ _ _ _ _ SJ hkq PT2 HP2=>?_⟩;obtain rfl:p2=p':=by injection e with e;omega
 walk_at "s";apply .inl (.inl (yH HP2.hl.dr (HG.same SJ).dr (uf (Q4 _) (by decide)) ?_));apply .inl (.inl (yH PT2.dr (PG.same SJ).dr (uf (Yu _) (by decide)) ?_));apply ⟨x,dx,_,rfl,SJ _ _ hxG,JM (by trivial),?_⟩;apply ⟨x,side,row,.int (p2:Int),rfl,hRG.same SJ,.inl ⟨_,rfl⟩,fun hv=>absurd hv nv,fun p3 e hp3=>?_⟩;obtain rfl:p3=p2:=by injection e with e;omega
 obtain ⟨az,hz1,hz2,_⟩:=HG.same SJ;walk_at "s";apply d9 (SqL.of hz1) ?_;rw [Aaf,hz2,Aaf,hle,Yt hs hr' hp,Aar rfl];exact q _ (V.trans SJ)
end
local macro_rules | `(tactic| walk_at "s") => `(tactic| (with_reducible repeat (first | refine lZ ?_ | walk_at "6")))
local macro_rules | `(tactic| walk_at "n") => `(tactic| (with_reducible repeat (walk_at "6")))
section
variable {P:Program} {w:World} {K:W.Frag} {mg:Str->Option Value} {base:Heap}
theorem Gu (z:Str):(zL z none none (-1)).cps.toList=z.cps.toList.reverse:=by
 have e:∀ n:Nat,Builtin.Str.strSliceIndices none none (-1) n=(List.range n).map fun k=>n - 1 - k:=fun n=>by
  show sliceRange ((n:Int) - 1) (-1) (-1)=_;unfold sliceRange;rw [if_neg (by decide)]
  have ec:(if (n:Int) - 1 > -1 then ((n:Int) - 1 - -1 - -1 - 1) / (- -1) else 0).toNat=n:=by
   by_cases h:(n:Int) - 1 > -1
   ·rw [if_pos h]
    have:((n:Int) - 1 - -1 - -1 - 1) / (- -1)=n:=by
     rw [show (- -1:Int)=1 from rfl,Int.ediv_one];omega
    rw [this];simp
   ·rw [if_neg h]
    show 0=n;omega
  show List.map _ (List.range (if (n:Int) - 1 > -1 then ((n:Int) - 1 - -1 - -1 - 1) / (- -1) else 0).toNat)=_;rw [ec];refine AbO fun k hk=>?_
  have:=AaA.mp hk;omega
 unfold zL;rw [e,List.filterMap_map];show List.filterMap _ _=_;refine AbJ fun i=>?_
 have f:((List.range z.length).filterMap ((fun x=>z.cps[x]?) ∘ fun k=>z.length - 1 - k))=(List.range z.length).map fun k=>z.cps.toList.getD (z.length - 1 - k) 0:=by
  rw [← List.filterMap_eq_map]
  have gen:∀ (l:List Nat) (f g:Nat->Option Nat),(∀ k∈l,f k=g k)->l.filterMap f=l.filterMap g:=fun l f g h=>by
   induction l with
   | nil=>rfl
   | cons a l ih=>rw [Aby,Aby,h a (by simp),ih fun k hk=>h k (by simp [hk])]
  refine gen _ _ _ fun k hk=>?_
  have hk:k < z.cps.size:=AaA.mp hk;have hk2:z.length=z.cps.size:=rfl;show z.cps[z.length - 1 - k]?=some (z.cps.toList.getD (z.length - 1 - k) 0);rw [Aac,hk2,Array.getElem?_toList,Abp (by omega)];rfl
 rw [f];have hl:z.cps.toList.length=z.length:=by simp [Str.length]
 by_cases hi:i < z.length
 ·rw [Aah,Aat hi,List.getElem?_reverse (by omega),hl]
  show some (z.cps.toList.getD (z.length - 1 - i) 0)=_;rw [Aac,Aaa (by omega)];rfl
 ·rw [AaY (by simp;omega),AaY (by rw [AbQ,hl];omega)]
def J8 (z:Str):Str:=zL z none none (-1)
theorem yg (z:Str):(J8 z).length=z.length:=by
 have:=congrArg List.length (Gu z);rw [AbQ] at this;simpa [J8,Str.length] using this
theorem J9 {z:Str} (h:Pln z):Pln (J8 z):=⟨by rw [yg];exact h.1,fun c hc=>h.2 c (by unfold J8 at hc;rw [Gu] at hc;exact AbU.mp hc)⟩
theorem UL {xs:List V} {lo hi:Option Int} {v:V} (h:v∈qC xs lo hi):v∈xs:=by
 unfold qC at h;exact List.mem_of_mem_drop (AbL h)
theorem aaA {z:Str} (h:z.cps.size≠0):(J8 z).cps.size≠0:=by
 have:=yg z;have e:∀ y:Str,y.length=y.cps.size:=fun _=>rfl
 rw [e,e] at this;omega
theorem Br {row:Str} {n:Nat} (h:row.length<=n) (hn:n<=24):(zL row none none (-1)).length<=sizeLine:=by
 have hz:20000<=sizeLine:=by decide
 have:=yg row;show (J8 row).length<=_;omega
def Vv (K:W.Frag):Sp:=fun vs H Q _=>∃ (a:Addr) (ns:List Int),vs=[.ref a]/\SqL K H a (ns.map V.int)/\∀ H',Q (.bl true) H'
theorem sr:aG ["_law_script","_law_side","_law_row_here","_law_ring","_law_other","_law_cell","_law_place","_law_wrong"] ["_law_script"] (aB Ft):=⟨rfl,rfl,rfl,by trivial,rfl,by trivial,by trivial⟩
theorem Yv (T:Txt K mg) {f0:Addr} {fd0:FuncData} (F0:Fun K "law" "law" Ft f0 fd0):FnOk P w K mg base Kz 21 f0 fd0 ["_law_script"] (Vv K):=by
 have mG:=mG (P:=P) (w:=w) (base:=base) T;have jl:=jl (P:=P) (w:=w) (base:=base) T;have rP:=rP (P:=P) (w:=w) (base:=base) T;have jm:=jm (P:=P) (w:=w) (base:=base) T;have rN:=rN (P:=P) (w:=w) (base:=base) T;have gR:=gR (P:=P) (w:=w) (base:=base) T;have jU:=jU (P:=P) (w:=w) (base:=base) T;have jB:=jB (P:=P) (w:=w) (base:=base) T;refine okJ F0 sr ?_ fun f cdv A outer s H vs Q E hr h=>?_
 ·rintro vs H Q E ⟨a,ns,rfl,_⟩;rfl
 obtain ⟨a,ns,rfl,hS,q⟩:=h;have hu:=hr.units0;have hu64:=hr.units;apply ⟨_,(aA (aM (i:=1) sr.nd rfl dI (aK mG (hr.mono (by decide)) aU (aa (aK jl (hr.mono (by decide)) aU (aa (aq 0) (aa aF ao)) (by trivial)) (aa aF ao)) (by trivial)) rfl) (aA (aM (i:=2) sr.nd rfl dI (aK rP (hr.mono (by decide)) aU (aa (aK jl (hr.mono (by decide)) aU (aa (aq 0) (aa aF ao)) (by trivial)) ao) (by trivial)) rfl) (aA (aM (i:=3) sr.nd rfl dI (nZ T.o_Ring jm (hr.mono (by decide)) aU (mW fun _ _=>rfl) (aa (aq 1) (aa (aq 2) ao)) (by trivial)) rfl) (aA (aM (i:=4) sr.nd rfl dI (nZ T.o_Ring jm (hr.mono (by decide)) aU (mW fun _ _=>rfl) (aa (o6 (aq 1) dH dH (gB (vZ kj aF))) (aa (o6 (aq 2) dH dH (gB (vZ kj aF))) ao)) (by trivial)) rfl) (aA (bQ (mU (Ca (bh (fH (K:=K) rfl hu64) (aY jn (aK jl (hr.mono (by decide)) aU (aa (aq 0) (aa aF ao)) (by trivial)) aF) aF (by walk_at "p")) (xT (bh (qL (K:=K) rfl hu64) (bT (K:=K) rfl (yO (aq 3) T.o_Ring rN (hr.mono (by decide)) (mW fun _ _=>rfl)) aF) (aJ (v7 rfl) aU T.b_max vX (aa (yO (aq 3) T.o_Ring gR (hr.mono (by decide)) (mW fun _ _=>rfl)) ao) (by trivial) (by trivial)) (by walk_at "p"))))) (aC (aL lJ)) bj) (aA (eN AaF rfl (dR (K:=K) rfl (my (vm (K:=K) rfl) (aq 0) (gB aF) (gB aF))) (bB (i:=5) sr.nd rfl dI rfl) (aA (aM (i:=6) sr.nd rfl dI (aY iu (aY jn (aY mq (aq 5) aF) (aY aQ (aJ (aH (K:=K) rfl) aU T.b_len aR (aa (aq 2) ao) (by trivial) (by trivial)) aF)) aF) rfl) (aC (bQ (Ey Ad DY aF (aq 6) (aJ (aH (K:=K) rfl) aU T.b_len aR (aa (aq 2) ao) (by trivial) (by trivial))) (aC (bQ (mU (mR (dN (dO (aK jB (hr.mono (by decide)) aU (aa (aq 3) (aa (aq 1) (aa (aq 2) (aa (aq 6) ao)))) (by trivial)))) (mQ (dN (dO (aK jB (hr.mono (by decide)) aU (aa (aq 4) (aa (o6 (aq 1) dH dH (gB (vZ kj aF))) (aa (o6 (aq 2) dH dH (gB (vZ kj aF))) (aa (aq 6) ao)))) (by trivial))))))) (aC (aL lJ)) bj)) (aC (bQ (dN (dO (aK jU (hr.mono (by decide)) aU (aa (aq 3) (aa (aq 6) ao)) (by trivial)))) (aC (aL lJ)) bj)))))) (aA (eN AaF rfl (dR (K:=K) rfl (gJ (aa U6 (aa qt (aa lJ (aa (gJ (aa aF ao)) (aa (aJ (aH (K:=K) rfl) aU T.b_len aR (aa (aq 2) ao) (by trivial) (by trivial)) (aa (vZ kj aF) ao)))))))) (bB (i:=7) sr.nd rfl dI rfl) (aC (bQ (dN (dO (aK jU (hr.mono (by decide)) aU (aa (aq 3) (aa (aq 7) ao)) (by trivial)))) (aC (aL lJ)) bj))) (aC (aL (tM (aK jB (hr.mono (by decide)) aU (aa (aq 3) (aa (aq 1) (aa (aq 2) (aa (aY iu (aJ (aH (K:=K) rfl) aU T.b_len aR (aa (aq 2) ao) (by trivial) (by trivial)) aF) ao)))) (by trivial)) (wQ (aK jB (hr.mono (by decide)) aU (aa (aq 4) (aa (o6 (aq 1) dH dH (gB (vZ kj aF))) (aa (o6 (aq 2) dH dH (gB (vZ kj aF))) (aa aF ao)))) (by trivial))))))))))))),?_⟩;have hz:20000<=sizeLine:=by decide
 apply ⟨a,ns,0,rfl,hS,by omega,fun c0=>?_⟩;apply ⟨c0,rfl,fun side H1 S1 hs=>?_⟩;apply ⟨a,ns,1,rfl,S1.seq hS,by omega,fun c1=>?_⟩;apply ⟨c1,rfl,fun row H2 S2 hr' h0=>?_⟩;have a1:side.length<=24:=hs.1;have a2:row.length<=24:=hr'.1;have e2:row.length=row.cps.size:=rfl;have hv:=J9 hr';have hsv:=J9 hs;have hv0:=aaA h0;have ev:(J8 row).length=(J8 row).cps.size:=rfl;have lv:=yg row;intro x dx nx ndx ne;apply ⟨x,dx,side,row,rfl,aj,hs,hr',h0,fun H5 c5 hR5=>⟨rfl,?_⟩⟩;have S5:=made nx ndx c5;apply ⟨side,-1,rfl,rfl,by decide,by decide,Br a1 (Aad _),?_⟩;apply ⟨row,-1,rfl,rfl,by decide,by decide,Br a2 (Aad _),?_⟩;intro x2 dx2 nx2 ndx2 ne2;refine ⟨x2,dx2,J8 side,J8 row,rfl,aj,hsv,hv,hv0,fun H6 c6 hR6=>⟨rfl,?_⟩⟩;walk_at "n";have S6:=made nx2 ndx2 c6;have hRx:=hR5.same S6;have hS6:=(S1.trans (S2.trans (S5.trans S6))).seq hS;have hB:=UG hs hr';have hne:Mr side row≠[]:=fun z=>h0 (by have:=congrArg List.length z;unfold Mr at this;simpa using this)
 clear hR5 c5 c6 nx ndx ne nx2 ndx2 ne2 S1 S2 S5 S6;with_reducible refine Pk (fun U H8=>Same H6 H8/\U=[some (.ref a),some (.str side),some (.str row),some (.ref x),some (.ref x2),none,none,none]) ?_ ?_
 rotate_left
 ·intro N hN
  walk_at "n";refine ⟨a,ns,2,rfl,hS6,by omega,fun c2=>?_⟩;walk_at "n";obtain ⟨_,_,_,dy,al,ap,h,ak,hx,_⟩:=id hRx;refine qG (fun h=>?_) (fun h=>?_)
  ·walk_at "n"
   refine ⟨x,dy,_,rfl,hx,JM (by trivial),?_⟩;walk_at "n";refine ⟨x,side,row,rfl,hRx,hB,fun q1 b1 b2 H7 S7 hb hq1=>?_⟩;walk_at "n";obtain ⟨M,hM,hMM,rfl,rfl⟩:=hb;refine ⟨x,dy,_,rfl,S7 _ _ hx,JM (by trivial),?_⟩;walk_at "n";refine ⟨x,side,row,rfl,hRx.same S7,fun d H8 nd S8 hd=>?_⟩;walk_at "n";refine Hj hd hne fun N2 hN2 hNN=>?_
   walk_at "n";rw [Mx.uni hM hMM hN2 hNN,Aar rfl];walk_at "n";exact hN _ _ ⟨S7.trans S8,rfl⟩
  ·walk_at "n"
   exact hN _ _ ⟨Same.refl _,rfl⟩
 rintro U H8 ⟨S8,rfl⟩;have hRx:=hRx.same S8;have hRy:=hR6.same S8;have hS8:=S8.seq hS6;clear hS6 S8 hR6;walk_at "s";apply .inl (Et hS8 fun sl nsl=>?_);have S9:=(Same.refl H8).upd nsl (o:=.lst (qC (ns.map V.int) (some 2) (some 8)));have hsl:=aj (H:=H8) (a:=sl) (o:=.lst (qC (ns.map V.int) (some 2) (some 8)));generalize upd H8 sl (.lst (qC (ns.map V.int) (some 2) (some 8)))=H9 at S9 hsl ⊢;have hRx:=hRx.same S9;have hRy:=hRy.same S9;clear hS8 S9;have hno:∀ {H:Hp} (n:Int),inB (.int n) 0 ((row.cps.size:Int) - 1)=false->W4 K H row.cps.size (.int n):=fun n h=>⟨.inl ⟨_,rfl⟩,h,.int n,Ce.mpr rfl,rfl⟩
 refine .inl ⟨sl,rfl,⟨_,SqL.of hsl⟩,?_⟩
 refine lw (xs:=qC (ns.map V.int) (some 2) (some 8)) (fun k U G=>Same H9 G/\∃ x5 x6 x7,U=[some (.ref a),some (.str side),some (.str row),some (.ref x),some (.ref x2),x5,x6,x7])
  ⟨Same.refl H9,_,_,_,rfl⟩ (fun i U G _ h=>SqL.of (h.1 _ _ hsl)) ?_ ?_
 ·rintro k v U G hv ⟨s,x5,x6,x7,rfl⟩
  obtain ⟨c,_,rfl⟩:=AaO.mp (UL (Aai hv));have hRg:=hRx.same s;have hRh:=hRy.same s;walk_at "s";apply bM (by omega) ?_;generalize hpl:c / 2 % ((row.length:Int)+2) - 1=pl;have hb1: -1<=pl:=by have:=Int.emod_nonneg (c / 2) (show (row.length:Int)+2≠0 by omega);omega
  walk_at "s";refine qG (fun h1=>?_) (fun h1=>?_)
  ·walk_at "s"
   apply bM (by omega) ?_;refine qG (fun h2=>?_) (fun h2=>?_)
   ·obtain ⟨p,rfl⟩:∃ p:Nat,pl=p:=⟨pl.toNat,by omega⟩
    walk_at "s";apply ⟨x,side,row,p,rfl,hRg,by omega,fun G1 s1=>?_⟩;apply ⟨side,-1,rfl,rfl,by decide,by decide,Br a1 (Aad _),?_⟩;apply ⟨row,-1,rfl,rfl,by decide,by decide,Br a2 (Aad _),?_⟩;apply ⟨x2,J8 side,J8 row,p,rfl,hRh.same s1,by omega,fun G2 s2=>?_⟩;exact ⟨s.trans (s1.trans s2),_,_,_,rfl⟩
   ·walk_at "s"
    apply ⟨x,side,row,.int pl,rfl,hRg,hno _ (by unfold inB;simp;omega),fun G1 s1=>?_⟩;exact ⟨s.trans s1,_,_,_,rfl⟩
  ·walk_at "s"
   apply ⟨x,side,row,.int pl,rfl,hRg,hno _ (by unfold inB;simp;omega),fun G1 s1=>?_⟩;exact ⟨s.trans s1,_,_,_,rfl⟩
 rintro U L0 ⟨s,x5,x6,x7,rfl⟩;have hRx:=hRx.same s;have hRy:=hRy.same s;clear hsl s;walk_at "s";apply b8 rfl fun l0 L1 _ s1 hl0=>?_
 apply bM (by omega) ?_;apply b8 rfl fun w0 L2 _ s2 hw0=>?_
 have hW:∀ v∈([.non,.str (Str.ofString "0"),.bl true,.ref l0,.int (row.length:Int),.int (-1)]:List V),W4 K L2 row.cps.size v:=fun v hv=>by
  simp only [Aaj,AaN,or_false] at hv;rcases hv with rfl | rfl | rfl | rfl | rfl | rfl
  ·exact ⟨.inr (.inr ⟨_,.non,by rfl⟩),rfl,.none,by rw [DR],rfl⟩
  ·exact ⟨.inr (.inr ⟨_,.str _,by rfl⟩),rfl,.str (Str.ofString "0"),by rw [DR],by trivial⟩
  ·exact ⟨.inr (.inl ⟨_,rfl⟩),rfl,.bool true,by rw [DR],rfl⟩
  ·exact ⟨.inr (.inr ⟨_,.lst (s2 _ _ hl0),by rfl⟩),rfl,.list [.int 0],by rw [DR];exact ⟨l0,_,rfl,s2 _ _ hl0,by rw [DRs];exact ⟨_,_,rfl,by rw [DR],by rw [DRs]⟩⟩,by trivial⟩
  ·exact hno _ (by unfold inB;simp;omega)
  ·exact hno _ (by unfold inB;simp)
 have hRx:=hRx.same (s1.trans s2);have hRy:=hRy.same (s1.trans s2);refine .inl ⟨w0,rfl,⟨_,SqL.of hw0⟩,?_⟩
 refine lw (xs:=[.non,.str (Str.ofString "0"),.bl true,.ref l0,.int (row.length:Int),.int (-1)]) (fun k U G=>Same L2 G/\∃ x5 x6 x7,U=[some (.ref a),some (.str side),some (.str row),some (.ref x),some (.ref x2),x5,x6,x7])
  ⟨Same.refl L2,_,_,_,rfl⟩ (fun i U G _ h=>SqL.of (h.1 _ _ hw0)) ?_ ?_
 ·rintro k v U G hv ⟨s,x5,x6,x7,rfl⟩
  have hw:=(hW v (Aai hv)).same s;walk_at "s";apply ⟨x,side,row,v,rfl,hRx.same s,hw,fun G1 s1=>?_⟩;exact ⟨s.trans s1,_,_,_,rfl⟩
 rintro U L3 ⟨s,x5,x6,x7,rfl⟩;walk_at "s";apply bM (by omega) ?_;rw [show (row.length:Int) - 1=((row.cps.size - 1:Nat):Int) by omega];apply ⟨x,side,row,row.cps.size - 1,rfl,hRx.same s,by omega,fun L4 s4=>?_⟩;apply ⟨side,-1,rfl,rfl,by decide,by decide,Br a1 (Aad _),?_⟩;apply ⟨row,-1,rfl,rfl,by decide,by decide,Br a2 (Aad _),?_⟩;exact ⟨x2,J8 side,J8 row,0,rfl,(hRy.same s).same s4,by omega,fun L5 _=>q _⟩
end
end My
namespace PySem.W.Fast
def tw6027050519538221600:=0
def tw10174462266895456182:=0
def tw17917691533680814793:=0
def tw3701890522711618571:=0
def tw10379448657521167392:=0
def tw11920207890254421616:=0
def tw13714066069321891580:=0
def tw9729410371803594287:=0
def tw376275502225173729:=0
def tw7479892199706415890:=0
def tw4663112824355765879:=0
def tw3851903656099246278:=0
def tw1162767634147224718:=0
def tw15243892541749711732:=0
def tw7529727788815749614:=0
def tw16605153999776792662:=0
def tw10458247327263109631:=0
def tw6753242225746484274:=0
def tw5822844203685107179:=0
def tw2232756012977012037:=0
def tw6610429929651659456:=0
def tw10921466627815200565:=0
def tw16761163670761249154:=0
def tw6506185735378999303:=0
def tw6998164343339854885:=0
def tw6224846580712388022:=0
def tw51577537506181861:=0
def tw14969670309617036881:=0
def tw7440261488491949504:=0
def tw6989976680856266966:=0
def tw9383734502188920671:=0
def tw15780330249265107580:=0
def tw7723958858182724457:=0
def tw9111246426314914543:=0
def tw4971950880331335071:=0
def tw18220366572571748138:=0
def tw7337445505509166948:=0
def tw12309641771685969940:=0
def tw15243415459093884537:=0
def tw13459175318731525669:=0
def tw11263255890649675957:=0
def tw9712965133533171802:=0
def tw13639121442426565105:=0
def tw10099518329063830591:=0
def tw18189906965505000285:=0
def tw13082818415211249500:=0
def tw3045655979586424639:=0
def tw8750319965381395938:=0
def tw9718015544744662820:=0
def tw17632971345313555784:=0
def tw17347189222696559945:=0
def tw1262162332708742117:=0
def tw13658323811184047393:=0
def tw1137326611882403272:=0
def tw152392410612387597:=0
def tw6673841876307000011:=0
def tw7524724887521538819:=0
def tw16884802935559603545:=0
def tw9172181233512257432:=0
def tw10269822043351591345:=0
def tw646338454327323320:=0
def tw8797191595243531672:=0
def tw7532672678187138706:=0
def tw16729190449703748214:=0
def tw10751299491885025639:=0
def tw12542038753931579034:=0
def tw5110778003346346750:=0
def tw1761933093548701178:=0
def tw14866460773037082742:=0
def tw12670783579957507575:=0
def tw16815937582408370131:=0
def tw11343882387905335145:=0
def tw368769097111663464:=0
def tw13543642028672115484:=0
def tw14257586260958553601:=0
def tw1613852945926690703:=0
def tw2758232379136091417:=0
def tw17642947767055182461:=0
def tw1895254386773648308:=0
def tw10765561667488059888:=0
def tw1350356154217581591:=0
def tw15374897453514088042:=0
def tw10319756844346976025:=0
def tw9207999153831780865:=0
def tw5647381521743483025:=0
def tw6473641140168471226:=0
def tw7943267625861256341:=0
def tw10599077694252649667:=0
def tw16863904840074493896:=0
def tw16503103313914375724:=0
def tw6877535536561125030:=0
def tw11641545868958587165:=0
def tw6818058388120755351:=0
def tw12707918345012224945:=0
def tw16578547261693121318:=0
def tw18082973607183227225:=0
def tw11279640775091840610:=0
def tw10875395787657724326:=0
def tw3559601978959398437:=0
def tw831654883426711616:=0
def tw14855658045733791265:=0
def tw6782698727780245386:=0
def tw4162630161771742686:=0
def tw16719201610494509589:=0
def tw7159844817154575108:=0
def tw2207897727427806378:=0
def tw8157626529919374725:=0
def tw13769686571860534429:=0
def tw5507420365925742094:=0
def tw15494983393998257153:=0
def tw7925155670228478057:=0
def tw4872085176028049737:=0
def tw13172424096094689455:=0
def tw7394089347959239629:=0
def tw16714686542777067668:=0
def tw16147768380703109013:=0
def tw1835181855411183620:=0
def tw7836563559120234125:=0
def tw16063381173804161854:=0
def tw18179051148093970726:=0
def tw17744017373037871341:=0
def tw5311825185525778059:=0
def tw1725116970781746539:=0
def tw15573115281379730395:=0
def tw6044433951249255648:=0
def tw2348850262053130817:=0
def tw4520363500395407032:=0
def tw11141934260157603737:=0
def tw550878192908701728:=0
def tw8385883592978534652:=0
def tw15295189490797400983:=0
def tw17538840388229282364:=0
def tw5058637091371020969:=0
def tw16082083411502765984:=0
def tw9503773614961363325:=0
def tw12125373195556439961:=0
def tw7035532442917387801:=0
def tw9353847764478839882:=0
def tw6434916417367430019:=0
def tw15963794200048800760:=0
def tw15419469614195466614:=0
def tw13096024712636668211:=0
def tw243418248882939779:=0
def tw1995971557043083454:=0
def tw2782808873263303221:=0
def tw14821717349131407952:=0
def tw17532979904601589694:=0
def tw9923041244039027437:=0
def tw9820349092006799317:=0
def tw14021711200785640235:=0
def tw95352039618550452:=0
def tw3465105450777418510:=0
def tw8116849506960948380:=0
def tw1275668227745023463:=0
def tw10663224154994462845:=0
def tw4976713596949122150:=0
def tw16455499422401924550:=0
def tw4940546405601916926:=0
def tw7808749161672241272:=0
def tw400944206487136317:=0
def tw9848008728564595921:=0
def tw16272653038787600215:=0
def tw6232410498622930362:=0
def tw13978982252013664258:=0
def tw11717784141180304596:=0
def tw17655004112436738732:=0
def tw9896712324492090852:=0
def tw11486117973036440300:=0
def tw7748243075821175034:=0
def tw12064283991000731158:=0
def tw10368098435129080159:=0
def tw9034726238334630267:=0
def tw4298639877716349658:=0
def tw2542560515336770490:=0
def tw11122469063978611101:=0
def tw5012666790555505699:=0
def tw12880076131088599659:=0
def tw7258560722204049424:=0
def tw16190599335821501683:=0
def tw11881386289846195776:=0
def tw2187865655260398001:=0
def tw11545282454652549838:=0
def tw4823445422056134283:=0
def tw4741089148115792042:=0
def tw163910648617092776:=0
def tw16120279618994443261:=0
def tw9357826874526838:=0
def tw9129648927426845341:=0
def tw18093335109951101154:=0
def tw2450900370646676783:=0
def tw5020457875896673337:=0
def tw12588615882850368219:=0
def tw534452751221281166:=0
def tw5331863038151792924:=0
def tw1768800202586483882:=0
def tw11323914942077285686:=0
def tw4321909077969782766:=0
def tw17293422598471973760:=0
def tw15011639764678887187:=0
def tw9401891929816114123:=0
def tw5928030447353895714:=0
def tw14572404482745222262:=0
def tw4394848589882042645:=0
def tw15724150543326008496:=0
def tw13724254855227379252:=0
def tw12205786272641163124:=0
def tw3261142540401767038:=0
def tw947380047019563117:=0
def tw15205297269320240187:=0
def tw15874909015975201730:=0
def tw15870990778593710856:=0
def tw3014171882369457375:=0
def tw7471715558844046578:=0
def tw18183994611201356871:=0
def tw15533473279668135995:=0
def tw12274161668024385003:=0
def tw16484049680960498018:=0
def tw10777213183840455194:=0
def tw5353858721191554937:=0
def tw4077605763575444342:=0
def tw429382344619972214:=0
def tw6021765888423023694:=0
def tw717085739195400519:=0
def tw16485758465202829455:=0
def tw6534884861790728991:=0
def tw13154481839874106703:=0
def tw6301171432876781601:=0
def tw7962037640681283453:=0
def tw5151214850972030966:=0
def tw1701580479323276143:=0
def tw4566605083834518262:=0
def tw17910747917834109077:=0
def tw14819702798143994471:=0
def tw7092187254873097255:=0
def tw16316245330183970987:=0
def tw10418252356064833544:=0
def tw7419410902940046808:=0
def tw13563109520216878280:=0
def tw17860991524513353959:=0
def tw2725724870910445912:=0
def tw2321921084329637740:=0
def tw6444511571096973525:=0
def tw8453144278789350382:=0
def tw54662084766498503:=0
def tw16139538232645143532:=0
def tw12549928200277576995:=0
def tw4336167978050507667:=0
def tw7615930671257867675:=0
def tw3958471793635286523:=0
def tw13852606954641953912:=0
def tw11669685469128646913:=0
def tw9209016745316441684:=0
def tw17399726045999028894:=0
def tw5939965631559736225:=0
def tw1943973571486076062:=0
def tw14617774384415351438:=0
def tw14493196869241061899:=0
def tw13746524363004378261:=0
def tw15238197171888499588:=0
def tw17306070620669754575:=0
def tw16420697515919058864:=0
def tw13463317218977104535:=0
def tw12611540720250374098:=0
def tw17511697597832652899:=0
def tw8851711896810455003:=0
def tw11291714856056062266:=0
def tw9151891660318256896:=0
def tw796051365066531480:=0
def tw18002712273186009821:=0
def tw16699924482767770628:=0
def tw13541714562018284610:=0
def tw9561058850135505133:=0
def tw9814876780179081814:=0
def tw13986406392267076468:=0
def tw16343296919906230074:=0
def tw8973338185136089491:=0
def tw17769965273069779171:=0
def tw2598845343664804642:=0
def tw1413392769871197339:=0
def tw5393315853067856151:=0
def tw3456912852452843814:=0
def tw15536036261518032426:=0
def tw13188992828914681544:=0
def tw4314105844677648590:=0
def tw4056257632292716009:=0
def tw7836803924263308516:=0
def tw6740156737945640585:=0
def tw4902061932551860514:=0
def tw8995525416052766760:=0
def tw4972326079309119760:=0
def tw15580417235037150873:=0
def tw6317190453049877304:=0
def tw2490223894592945118:=0
def tw11109170518039152479:=0
def tw6873760048346138075:=0
def tw2708591630841881667:=0
def tw16979084733729349160:=0
def tw16858911242936840992:=0
def tw15314652188988734710:=0
def tw1498010007882118573:=0
end PySem.W.Fast
open PySem PySem.W PyProof.Rows
set_option maxRecDepth 100000 in
set_option maxHeartbeats 0 in
theorem PySem.Challenge.cw_panethread_k78_papers_of_openings_holds : PySem.Challenge.rw_panethread_k78_papers_of_openings.Holds := by
 w_on;o_law;k_head;(case hw=>w_witness2)
 k_fill
 refine L2.ZD (l:=PySem.Challenge.rw_panethread_k78_papers_of_openings) (st:=My.Ft) (k:=21) (x:="_law_script") (sp:=My.Vv) rfl rfl rfl ⟨rfl,by decide,by decide,rfl⟩ (fun w h Y=>PySem.W.kIn_of Y) (fun _ _ _ _ _ _ us hl=>L2.jE (fun _=>rfl) us hl) ?F (fun K H a ns hl hS=>⟨a,ns,rfl,hS,fun _=>rfl⟩)
 case F=>
  intro w mg h KX G
  have b_ValueError:mg "ValueError"=none:=by
   refine' Aa0 KX G ?a
   (case a=>k_is)
  have b_all:mg "all"=none:=by
   refine' Aa0 KX G ?a
   (case a=>k_is)
  have b_bool:mg "bool"=none:=by
   refine' Aa0 KX G ?a
   (case a=>k_is)
  have b_enumerate:mg "enumerate"=none:=by
   refine' Aa0 KX G ?a
   (case a=>k_is)
  have b_int:mg "int"=none:=by
   refine' Aa0 KX G ?a
   (case a=>k_is)
  have b_isinstance:mg "isinstance"=none:=by
   refine' Aa0 KX G ?a
   (case a=>k_is)
  have b_len:mg "len"=none:=by
   refine' Aa0 KX G ?a
   (case a=>k_is)
  have b_list:mg "list"=none:=by
   refine' Aa0 KX G ?a
   (case a=>k_is)
  have b_max:mg "max"=none:=by
   refine' Aa0 KX G ?a
   (case a=>k_is)
  have b_range:mg "range"=none:=by
   refine' Aa0 KX G ?a
   (case a=>k_is)
  have b_reversed:mg "reversed"=none:=by
   refine' Aa0 KX G ?a
   (case a=>k_is)
  have b_str:mg "str"=none:=by
   refine' Aa0 KX G ?a
   (case a=>k_is)
  have b_tuple:mg "tuple"=none:=by
   refine' Aa0 KX G ?a
   (case a=>k_is)
  have c_LETTERS:∃ t,mg "LETTERS"=some (.str "abcdefghijklmnopqrstuvwxyz" t):=by
   refine' L2.qK KX G ?a ?h
   (case a=>k_is);(case h=>exact ⟨_,by with_unfolding_all rfl⟩)
  have c_MOST_LETTERS:∃ t,mg "MOST_LETTERS"=some (.int 24 t):=by
   refine' L2.qK KX G ?a ?h
   (case a=>k_is);(case h=>exact ⟨_,by with_unfolding_all rfl⟩)
  have c_MOST_LINES:∃ t,mg "MOST_LINES"=some (.int 96 t):=by
   refine' L2.qK KX G ?a ?h
   (case a=>k_is);(case h=>exact ⟨_,by with_unfolding_all rfl⟩)
  have c_MOST_SIGNS:∃ t,mg "MOST_SIGNS"=some (.int 48 t):=by
   refine' L2.qK KX G ?a ?h
   (case a=>k_is);(case h=>exact ⟨_,by with_unfolding_all rfl⟩)
  have c_POINT:∃ t,mg "POINT"=some (.str "." t):=by
   refine' L2.qK KX G ?a ?h
   (case a=>k_is);(case h=>exact ⟨_,by with_unfolding_all rfl⟩)
  have d_is_number:L2.dM (L2.KOf KX) mg "is_number" My.qQ:=by
   dsimp only [L2.KOf];refine' L2.aZ KX G ?a ?l ?c ?k
   (case a=>k_is);(case l=>k_is);(case c=>k_is);(case k=>k_is)
  have d_is_within:L2.dM (L2.KOf KX) mg "is_within" My.qR:=by
   dsimp only [L2.KOf];refine' L2.aZ KX G ?a ?l ?c ?k
   (case a=>k_is);(case l=>k_is);(case c=>k_is);(case k=>k_is)
  have d_is_letter:L2.dM (L2.KOf KX) mg "is_letter" My.qT:=by
   dsimp only [L2.KOf];refine' L2.aZ KX G ?a ?l ?c ?k
   (case a=>k_is);(case l=>k_is);(case c=>k_is);(case k=>k_is)
  have d_is_sign:L2.dM (L2.KOf KX) mg "is_sign" My.wz:=by
   dsimp only [L2.KOf];refine' L2.aZ KX G ?a ?l ?c ?k
   (case a=>k_is);(case l=>k_is);(case c=>k_is);(case k=>k_is)
  have d_is_span:L2.dM (L2.KOf KX) mg "is_span" My.wA:=by
   dsimp only [L2.KOf];refine' L2.aZ KX G ?a ?l ?c ?k
   (case a=>k_is);(case l=>k_is);(case c=>k_is);(case k=>k_is)
  have d_need_place:L2.dM (L2.KOf KX) mg "need_place" My.pP:=by
   dsimp only [L2.KOf];refine' L2.aZ KX G ?a ?l ?c ?k
   (case a=>k_is);(case l=>k_is);(case c=>k_is);(case k=>k_is)
  have d_need_span:L2.dM (L2.KOf KX) mg "need_span" My.qU:=by
   dsimp only [L2.KOf];refine' L2.aZ KX G ?a ?l ?c ?k
   (case a=>k_is);(case l=>k_is);(case c=>k_is);(case k=>k_is)
  have d_need_sign:L2.dM (L2.KOf KX) mg "need_sign" My.qW:=by
   dsimp only [L2.KOf];refine' L2.aZ KX G ?a ?l ?c ?k
   (case a=>k_is);(case l=>k_is);(case c=>k_is);(case k=>k_is)
  have d_is_row:L2.dM (L2.KOf KX) mg "is_row" My.vo:=by
   dsimp only [L2.KOf];refine' L2.aZ KX G ?a ?l ?c ?k
   (case a=>k_is);(case l=>k_is);(case c=>k_is);(case k=>k_is)
  have d_is_plain:L2.dM (L2.KOf KX) mg "is_plain" My.pQ:=by
   dsimp only [L2.KOf];refine' L2.aZ KX G ?a ?l ?c ?k
   (case a=>k_is);(case l=>k_is);(case c=>k_is);(case k=>k_is)
  have d_need_row:L2.dM (L2.KOf KX) mg "need_row" My.ur:=by
   dsimp only [L2.KOf];refine' L2.aZ KX G ?a ?l ?c ?k
   (case a=>k_is);(case l=>k_is);(case c=>k_is);(case k=>k_is)
  have d_need_rows:L2.dM (L2.KOf KX) mg "need_rows" My.qX:=by
   dsimp only [L2.KOf];refine' L2.aZ KX G ?a ?l ?c ?k
   (case a=>k_is);(case l=>k_is);(case c=>k_is);(case k=>k_is)
  have d_need_plain:L2.dM (L2.KOf KX) mg "need_plain" My.pR:=by
   dsimp only [L2.KOf];refine' L2.aZ KX G ?a ?l ?c ?k
   (case a=>k_is);(case l=>k_is);(case c=>k_is);(case k=>k_is)
  have d_is_turning:L2.dM (L2.KOf KX) mg "is_turning" My.pU:=by
   dsimp only [L2.KOf];refine' L2.aZ KX G ?a ?l ?c ?k
   (case a=>k_is);(case l=>k_is);(case c=>k_is);(case k=>k_is)
  have d_need_turning:L2.dM (L2.KOf KX) mg "need_turning" My.mY:=by
   dsimp only [L2.KOf];refine' L2.aZ KX G ?a ?l ?c ?k
   (case a=>k_is);(case l=>k_is);(case c=>k_is);(case k=>k_is)
  have d_straight:L2.dM (L2.KOf KX) mg "straight" My.ut:=by
   dsimp only [L2.KOf];refine' L2.aZ KX G ?a ?l ?c ?k
   (case a=>k_is);(case l=>k_is);(case c=>k_is);(case k=>k_is)
  have d_opposite:L2.dM (L2.KOf KX) mg "opposite" My.uv:=by
   dsimp only [L2.KOf];refine' L2.aZ KX G ?a ?l ?c ?k
   (case a=>k_is);(case l=>k_is);(case c=>k_is);(case k=>k_is)
  have d_counts:L2.dM (L2.KOf KX) mg "counts" My.vp:=by
   dsimp only [L2.KOf];refine' L2.aZ KX G ?a ?l ?c ?k
   (case a=>k_is);(case l=>k_is);(case c=>k_is);(case k=>k_is)
  have d_lengths_below:L2.dM (L2.KOf KX) mg "lengths_below" My.lK:=by
   dsimp only [L2.KOf];refine' L2.aZ KX G ?a ?l ?c ?k
   (case a=>k_is);(case l=>k_is);(case c=>k_is);(case k=>k_is)
  have d_lengths:L2.dM (L2.KOf KX) mg "lengths" My.wB:=by
   dsimp only [L2.KOf];refine' L2.aZ KX G ?a ?l ?c ?k
   (case a=>k_is);(case l=>k_is);(case c=>k_is);(case k=>k_is)
  have d_thread_of:L2.dM (L2.KOf KX) mg "thread_of" My.qY:=by
   dsimp only [L2.KOf];refine' L2.aZ KX G ?a ?l ?c ?k
   (case a=>k_is);(case l=>k_is);(case c=>k_is);(case k=>k_is)
  have d_pairs_of:L2.dM (L2.KOf KX) mg "pairs_of" My.uw:=by
   dsimp only [L2.KOf];refine' L2.aZ KX G ?a ?l ?c ?k
   (case a=>k_is);(case l=>k_is);(case c=>k_is);(case k=>k_is)
  have d_heaps_of:L2.dM (L2.KOf KX) mg "heaps_of" My.pW:=by
   dsimp only [L2.KOf];refine' L2.aZ KX G ?a ?l ?c ?k
   (case a=>k_is);(case l=>k_is);(case c=>k_is);(case k=>k_is)
  have d_paper_of:L2.dM (L2.KOf KX) mg "paper_of" My.ux:=by
   dsimp only [L2.KOf];refine' L2.aZ KX G ?a ?l ?c ?k
   (case a=>k_is);(case l=>k_is);(case c=>k_is);(case k=>k_is)
  have d_do_steps:L2.dM (L2.KOf KX) mg "do_steps" My.uy:=by
   dsimp only [L2.KOf];refine' L2.aZ KX G ?a ?l ?c ?k
   (case a=>k_is);(case l=>k_is);(case c=>k_is);(case k=>k_is)
  have d_steps_of:L2.dM (L2.KOf KX) mg "steps_of" My.uz:=by
   dsimp only [L2.KOf];refine' L2.aZ KX G ?a ?l ?c ?k
   (case a=>k_is);(case l=>k_is);(case c=>k_is);(case k=>k_is)
  have d_need_alike:L2.dM (L2.KOf KX) mg "need_alike" My.pX:=by
   dsimp only [L2.KOf];refine' L2.aZ KX G ?a ?l ?c ?k
   (case a=>k_is);(case l=>k_is);(case c=>k_is);(case k=>k_is)
  have d_laid:L2.dM (L2.KOf KX) mg "laid" My.Ht:=by
   dsimp only [L2.KOf];refine' L2.aZ KX G ?a ?l ?c ?k
   (case a=>k_is);(case l=>k_is);(case c=>k_is);(case k=>k_is)
  have d_need_pieces:L2.dM (L2.KOf KX) mg "need_pieces" My.oG:=by
   dsimp only [L2.KOf];refine' L2.aZ KX G ?a ?l ?c ?k
   (case a=>k_is);(case l=>k_is);(case c=>k_is);(case k=>k_is)
  have d_need_same:L2.dM (L2.KOf KX) mg "need_same" My.qZ:=by
   dsimp only [L2.KOf];refine' L2.aZ KX G ?a ?l ?c ?k
   (case a=>k_is);(case l=>k_is);(case c=>k_is);(case k=>k_is)
  have d_need_short:L2.dM (L2.KOf KX) mg "need_short" My.pY:=by
   dsimp only [L2.KOf];refine' L2.aZ KX G ?a ?l ?c ?k
   (case a=>k_is);(case l=>k_is);(case c=>k_is);(case k=>k_is)
  have d_lines_over:L2.dM (L2.KOf KX) mg "lines_over" My.mz:=by
   dsimp only [L2.KOf];refine' L2.aZ KX G ?a ?l ?c ?k
   (case a=>k_is);(case l=>k_is);(case c=>k_is);(case k=>k_is)
  have d_lines_beside:L2.dM (L2.KOf KX) mg "lines_beside" My.jM:=by
   dsimp only [L2.KOf];refine' L2.aZ KX G ?a ?l ?c ?k
   (case a=>k_is);(case l=>k_is);(case c=>k_is);(case k=>k_is)
  have d_all_beside:L2.dM (L2.KOf KX) mg "all_beside" My.pZ:=by
   dsimp only [L2.KOf];refine' L2.aZ KX G ?a ?l ?c ?k
   (case a=>k_is);(case l=>k_is);(case c=>k_is);(case k=>k_is)
  have d_all_over:L2.dM (L2.KOf KX) mg "all_over" My.uA:=by
   dsimp only [L2.KOf];refine' L2.aZ KX G ?a ?l ?c ?k
   (case a=>k_is);(case l=>k_is);(case c=>k_is);(case k=>k_is)
  have d_balanced:L2.dM (L2.KOf KX) mg "balanced" My.mZ:=by
   dsimp only [L2.KOf];refine' L2.aZ KX G ?a ?l ?c ?k
   (case a=>k_is);(case l=>k_is);(case c=>k_is);(case k=>k_is)
  have d_law_cell_at:L2.dM (L2.KOf KX) mg "_law_cell_at" My.oH:=by
   dsimp only [L2.KOf];refine' L2.aZ KX G ?a ?l ?c ?k
   (case a=>k_is);(case l=>k_is);(case c=>k_is);(case k=>k_is)
  have d_law_great:L2.dM (L2.KOf KX) mg "_law_great" My.q9:=by
   dsimp only [L2.KOf];refine' L2.aZ KX G ?a ?l ?c ?k
   (case a=>k_is);(case l=>k_is);(case c=>k_is);(case k=>k_is)
  have d_law_letter:L2.dM (L2.KOf KX) mg "_law_letter" My.p6:=by
   dsimp only [L2.KOf];refine' L2.aZ KX G ?a ?l ?c ?k
   (case a=>k_is);(case l=>k_is);(case c=>k_is);(case k=>k_is)
  have d_law_row:L2.dM (L2.KOf KX) mg "_law_row" My.wC:=by
   dsimp only [L2.KOf];refine' L2.aZ KX G ?a ?l ?c ?k
   (case a=>k_is);(case l=>k_is);(case c=>k_is);(case k=>k_is)
  have d_law_heaps:L2.dM (L2.KOf KX) mg "_law_heaps" My.rm:=by
   dsimp only [L2.KOf];refine' L2.aZ KX G ?a ?l ?c ?k
   (case a=>k_is);(case l=>k_is);(case c=>k_is);(case k=>k_is)
  have d_law_round:L2.dM (L2.KOf KX) mg "_law_round" My.rn:=by
   dsimp only [L2.KOf];refine' L2.aZ KX G ?a ?l ?c ?k
   (case a=>k_is);(case l=>k_is);(case c=>k_is);(case k=>k_is)
  have d_law_thread:L2.dM (L2.KOf KX) mg "_law_thread" My.p7:=by
   dsimp only [L2.KOf];refine' L2.aZ KX G ?a ?l ?c ?k
   (case a=>k_is);(case l=>k_is);(case c=>k_is);(case k=>k_is)
  have d_law_pairs:L2.dM (L2.KOf KX) mg "_law_pairs" My.rB:=by
   dsimp only [L2.KOf];refine' L2.aZ KX G ?a ?l ?c ?k
   (case a=>k_is);(case l=>k_is);(case c=>k_is);(case k=>k_is)
  have d_law_right:L2.dM (L2.KOf KX) mg "_law_right" My.jw:=by
   dsimp only [L2.KOf];refine' L2.aZ KX G ?a ?l ?c ?k
   (case a=>k_is);(case l=>k_is);(case c=>k_is);(case k=>k_is)
  have d_law_no_place:L2.dM (L2.KOf KX) mg "_law_no_place" My.jN:=by
   dsimp only [L2.KOf];refine' L2.aZ KX G ?a ?l ?c ?k
   (case a=>k_is);(case l=>k_is);(case c=>k_is);(case k=>k_is)
  have d_law:L2.dM (L2.KOf KX) mg "law" My.Ft:=by
   dsimp only [L2.KOf];refine' L2.aZ KX G ?a ?l ?c ?k
   (case a=>k_is);(case l=>k_is);(case c=>k_is);(case k=>k_is)
  have x_PaneError:L2.La (L2.KOf KX) mg "PaneError":=by
   dsimp only [L2.KOf];refine' L2.Vc KX G ?a ?b
   (case a=>k_is);(case b=>kernel_rfl)
  have x_NoRow:L2.o5 (L2.KOf KX) mg "NoRow" ["found"] "NoRow.__init__" My.Jo:=by
   dsimp only [L2.KOf];refine' L2.u9 KX G ?a ?b ?kp ?na ?i ?t ?l ?c ?k
   (case a=>k_is);(case b=>kernel_rfl);(case kp=>k_is);(case na=>kernel_rfl);(case i=>k_is);(case t=>k_is);(case l=>k_is);(case c=>k_is);(case k=>k_is)
  have x_NoPlain:L2.o5 (L2.KOf KX) mg "NoPlain" ["found"] "NoPlain.__init__" My.Be:=by
   dsimp only [L2.KOf];refine' L2.u9 KX G ?a ?b ?kp ?na ?i ?t ?l ?c ?k
   (case a=>k_is);(case b=>kernel_rfl);(case kp=>k_is);(case na=>kernel_rfl);(case i=>k_is);(case t=>k_is);(case l=>k_is);(case c=>k_is);(case k=>k_is)
  have x_NoLetter:L2.o5 (L2.KOf KX) mg "NoLetter" ["found"] "NoLetter.__init__" My.yZ:=by
   dsimp only [L2.KOf];refine' L2.u9 KX G ?a ?b ?kp ?na ?i ?t ?l ?c ?k
   (case a=>k_is);(case b=>kernel_rfl);(case kp=>k_is);(case na=>kernel_rfl);(case i=>k_is);(case t=>k_is);(case l=>k_is);(case c=>k_is);(case k=>k_is)
  have x_NoPlace:L2.o5 (L2.KOf KX) mg "NoPlace" ["found"] "NoPlace.__init__" My.o9:=by
   dsimp only [L2.KOf];refine' L2.u9 KX G ?a ?b ?kp ?na ?i ?t ?l ?c ?k
   (case a=>k_is);(case b=>kernel_rfl);(case kp=>k_is);(case na=>kernel_rfl);(case i=>k_is);(case t=>k_is);(case l=>k_is);(case c=>k_is);(case k=>k_is)
  have x_NoSpan:L2.o5 (L2.KOf KX) mg "NoSpan" ["begin","end"] "NoSpan.__init__" My.Fv:=by
   dsimp only [L2.KOf];refine' L2.u9 KX G ?a ?b ?kp ?na ?i ?t ?l ?c ?k
   (case a=>k_is);(case b=>kernel_rfl);(case kp=>k_is);(case na=>kernel_rfl);(case i=>k_is);(case t=>k_is);(case l=>k_is);(case c=>k_is);(case k=>k_is)
  have x_NoTurning:L2.o5 (L2.KOf KX) mg "NoTurning" ["found"] "NoTurning.__init__" My.wY:=by
   dsimp only [L2.KOf];refine' L2.u9 KX G ?a ?b ?kp ?na ?i ?t ?l ?c ?k
   (case a=>k_is);(case b=>kernel_rfl);(case kp=>k_is);(case na=>kernel_rfl);(case i=>k_is);(case t=>k_is);(case l=>k_is);(case c=>k_is);(case k=>k_is)
  have x_NoPiece:L2.o5 (L2.KOf KX) mg "NoPiece" ["found"] "NoPiece.__init__" My.Bf:=by
   dsimp only [L2.KOf];refine' L2.u9 KX G ?a ?b ?kp ?na ?i ?t ?l ?c ?k
   (case a=>k_is);(case b=>kernel_rfl);(case kp=>k_is);(case na=>kernel_rfl);(case i=>k_is);(case t=>k_is);(case l=>k_is);(case c=>k_is);(case k=>k_is)
  have x_Unlike:L2.o5 (L2.KOf KX) mg "Unlike" ["one","other"] "Unlike.__init__" My.Fw:=by
   dsimp only [L2.KOf];refine' L2.u9 KX G ?a ?b ?kp ?na ?i ?t ?l ?c ?k
   (case a=>k_is);(case b=>kernel_rfl);(case kp=>k_is);(case na=>kernel_rfl);(case i=>k_is);(case t=>k_is);(case l=>k_is);(case c=>k_is);(case k=>k_is)
  have x_TooLong:L2.o5 (L2.KOf KX) mg "TooLong" ["found"] "TooLong.__init__" My.Bg:=by
   dsimp only [L2.KOf];refine' L2.u9 KX G ?a ?b ?kp ?na ?i ?t ?l ?c ?k
   (case a=>k_is);(case b=>kernel_rfl);(case kp=>k_is);(case na=>kernel_rfl);(case i=>k_is);(case t=>k_is);(case l=>k_is);(case c=>k_is);(case k=>k_is)
  have o_Tally:L2.j9 (L2.KOf KX) mg "Tally":=by
   dsimp only [L2.KOf];refine' L2.wW KX G ?a ?b ?s ?m ?k
   (case a=>k_is);(case b=>kernel_rfl);(case s=>k_is);(case m=>first | k_is | kernel_rfl);(case k=>k_is)
  have n_Tally:∀ f∈(["held_ends","held_counts"]:List Str),L2.NoAttr (L2.KOf KX) (L2.aN mg "Tally") f:=by
   dsimp only [L2.KOf];refine' L2.wX KX G ?a ?b
   (case a=>k_is);(case b=>kernel_rfl)
  have o_Asks:L2.j9 (L2.KOf KX) mg "Asks":=by
   dsimp only [L2.KOf];refine' L2.wW KX G ?a ?b ?s ?m ?k
   (case a=>k_is);(case b=>kernel_rfl);(case s=>k_is);(case m=>first | k_is | kernel_rfl);(case k=>k_is)
  have n_Asks:∀ f∈(["held_tally","held_many","held_far"]:List Str),L2.NoAttr (L2.KOf KX) (L2.aN mg "Asks") f:=by
   dsimp only [L2.KOf];refine' L2.wX KX G ?a ?b
   (case a=>k_is);(case b=>kernel_rfl)
  have o_Piece:L2.j9 (L2.KOf KX) mg "Piece":=by
   dsimp only [L2.KOf];refine' L2.wW KX G ?a ?b ?s ?m ?k
   (case a=>k_is);(case b=>kernel_rfl);(case s=>k_is);(case m=>first | k_is | kernel_rfl);(case k=>k_is)
  have n_Piece:∀ f∈(["held_side","held_top","held_kind","held_lines","held_parts","held_height"]:List Str),L2.NoAttr (L2.KOf KX) (L2.aN mg "Piece") f:=by
   dsimp only [L2.KOf];refine' L2.wX KX G ?a ?b
   (case a=>k_is);(case b=>kernel_rfl)
  have o_Blank:L2.j9 (L2.KOf KX) mg "Blank":=by
   dsimp only [L2.KOf];refine' L2.wW KX G ?a ?b ?s ?m ?k
   (case a=>k_is);(case b=>kernel_rfl);(case s=>k_is);(case m=>first | k_is | kernel_rfl);(case k=>k_is)
  have n_Blank:∀ f∈(["held_side","held_top","held_kind","held_lines","held_parts","held_height"]:List Str),L2.NoAttr (L2.KOf KX) (L2.aN mg "Blank") f:=by
   dsimp only [L2.KOf];refine' L2.wX KX G ?a ?b
   (case a=>k_is);(case b=>kernel_rfl)
  have o_One:L2.j9 (L2.KOf KX) mg "One":=by
   dsimp only [L2.KOf];refine' L2.wW KX G ?a ?b ?s ?m ?k
   (case a=>k_is);(case b=>kernel_rfl);(case s=>k_is);(case m=>first | k_is | kernel_rfl);(case k=>k_is)
  have n_One:∀ f∈(["held_side","held_top","held_kind","held_lines","held_parts","held_height"]:List Str),L2.NoAttr (L2.KOf KX) (L2.aN mg "One") f:=by
   dsimp only [L2.KOf];refine' L2.wX KX G ?a ?b
   (case a=>k_is);(case b=>kernel_rfl)
  have o_Over:L2.j9 (L2.KOf KX) mg "Over":=by
   dsimp only [L2.KOf];refine' L2.wW KX G ?a ?b ?s ?m ?k
   (case a=>k_is);(case b=>kernel_rfl);(case s=>k_is);(case m=>first | k_is | kernel_rfl);(case k=>k_is)
  have n_Over:∀ f∈(["held_side","held_top","held_kind","held_lines","held_parts","held_height"]:List Str),L2.NoAttr (L2.KOf KX) (L2.aN mg "Over") f:=by
   dsimp only [L2.KOf];refine' L2.wX KX G ?a ?b
   (case a=>k_is);(case b=>kernel_rfl)
  have o_Beside:L2.j9 (L2.KOf KX) mg "Beside":=by
   dsimp only [L2.KOf];refine' L2.wW KX G ?a ?b ?s ?m ?k
   (case a=>k_is);(case b=>kernel_rfl);(case s=>k_is);(case m=>first | k_is | kernel_rfl);(case k=>k_is)
  have n_Beside:∀ f∈(["held_side","held_top","held_kind","held_lines","held_parts","held_height"]:List Str),L2.NoAttr (L2.KOf KX) (L2.aN mg "Beside") f:=by
   dsimp only [L2.KOf];refine' L2.wX KX G ?a ?b
   (case a=>k_is);(case b=>kernel_rfl)
  have o_Ring:L2.j9 (L2.KOf KX) mg "Ring":=by
   dsimp only [L2.KOf];refine' L2.wW KX G ?a ?b ?s ?m ?k
   (case a=>k_is);(case b=>kernel_rfl);(case s=>k_is);(case m=>first | k_is | kernel_rfl);(case k=>k_is)
  have n_Ring:∀ f∈(["held_side","held_top","held_kind","held_lines","held_parts","held_height","held_row","held_asks"]:List Str),L2.NoAttr (L2.KOf KX) (L2.aN mg "Ring") f:=by
   dsimp only [L2.KOf];refine' L2.wX KX G ?a ?b
   (case a=>k_is);(case b=>kernel_rfl)
  have os_Piece:L2.OTs (L2.KOf KX) mg ["Blank","One","Over","Beside","Ring"]:=L2.Ti o_Blank o_One o_Over o_Beside o_Ring
  have t_Blank:L2.ITxt (L2.KOf KX) mg "Blank":=by
   dsimp only [L2.KOf];refine' L2.Fi KX G ?a ?b ?c ?d ?e
   (case a=>k_is);(case b=>k_is);(case c=>first | k_is | kernel_rfl);(case d=>first | k_is | kernel_rfl);(case e=>first | k_is | kernel_rfl)
  have t_One:L2.ITxt (L2.KOf KX) mg "One":=by
   dsimp only [L2.KOf];refine' L2.Fi KX G ?a ?b ?c ?d ?e
   (case a=>k_is);(case b=>k_is);(case c=>first | k_is | kernel_rfl);(case d=>first | k_is | kernel_rfl);(case e=>first | k_is | kernel_rfl)
  have t_Over:L2.ITxt (L2.KOf KX) mg "Over":=by
   dsimp only [L2.KOf];refine' L2.Fi KX G ?a ?b ?c ?d ?e
   (case a=>k_is);(case b=>k_is);(case c=>first | k_is | kernel_rfl);(case d=>first | k_is | kernel_rfl);(case e=>first | k_is | kernel_rfl)
  have t_Beside:L2.ITxt (L2.KOf KX) mg "Beside":=by
   dsimp only [L2.KOf];refine' L2.Fi KX G ?a ?b ?c ?d ?e
   (case a=>k_is);(case b=>k_is);(case c=>first | k_is | kernel_rfl);(case d=>first | k_is | kernel_rfl);(case e=>first | k_is | kernel_rfl)
  have t_Ring:L2.ITxt (L2.KOf KX) mg "Ring":=by
   dsimp only [L2.KOf];refine' L2.Fi KX G ?a ?b ?c ?d ?e
   (case a=>k_is);(case b=>k_is);(case c=>first | k_is | kernel_rfl);(case d=>first | k_is | kernel_rfl);(case e=>first | k_is | kernel_rfl)
  have u_Blank_Piece:L2.Sub (L2.KOf KX) mg "Blank" "Piece" true:=by
   dsimp only [L2.KOf];refine' L2.qM KX G ?a ?b ?m ?o
   (case a=>k_is);(case b=>k_is);(case m=>k_is);(case o=>kernel_rfl)
  have u_One_Piece:L2.Sub (L2.KOf KX) mg "One" "Piece" true:=by
   dsimp only [L2.KOf];refine' L2.qM KX G ?a ?b ?m ?o
   (case a=>k_is);(case b=>k_is);(case m=>k_is);(case o=>kernel_rfl)
  have u_Over_Piece:L2.Sub (L2.KOf KX) mg "Over" "Piece" true:=by
   dsimp only [L2.KOf];refine' L2.qM KX G ?a ?b ?m ?o
   (case a=>k_is);(case b=>k_is);(case m=>k_is);(case o=>kernel_rfl)
  have u_Beside_Piece:L2.Sub (L2.KOf KX) mg "Beside" "Piece" true:=by
   dsimp only [L2.KOf];refine' L2.qM KX G ?a ?b ?m ?o
   (case a=>k_is);(case b=>k_is);(case m=>k_is);(case o=>kernel_rfl)
  have u_Ring_Piece:L2.Sub (L2.KOf KX) mg "Ring" "Piece" true:=by
   dsimp only [L2.KOf];refine' L2.qM KX G ?a ?b ?m ?o
   (case a=>k_is);(case b=>k_is);(case m=>k_is);(case o=>kernel_rfl)
  have w_Piece_str:PySem.W.kitOne (L2.KOf KX) (.type "str") (.ref (L2.aN mg "Piece"))=some false:=by
   dsimp only [L2.KOf];refine' L2.mX KX G ?a ?o
   (case a=>k_is);(case o=>kernel_rfl)
  have w_Piece_int:PySem.W.kitOne (L2.KOf KX) (.type "int") (.ref (L2.aN mg "Piece"))=some false:=by
   dsimp only [L2.KOf];refine' L2.mX KX G ?a ?o
   (case a=>k_is);(case o=>kernel_rfl)
  have w_Piece_list:PySem.W.kitOne (L2.KOf KX) (.type "list") (.ref (L2.aN mg "Piece"))=some false:=by
   dsimp only [L2.KOf];refine' L2.mX KX G ?a ?o
   (case a=>k_is);(case o=>kernel_rfl)
  have w_Piece_tuple:PySem.W.kitOne (L2.KOf KX) (.type "tuple") (.ref (L2.aN mg "Piece"))=some false:=by
   dsimp only [L2.KOf];refine' L2.mX KX G ?a ?o
   (case a=>k_is);(case o=>kernel_rfl)
  have w_Piece_NoneType:PySem.W.kitOne (L2.KOf KX) (.type "NoneType") (.ref (L2.aN mg "Piece"))=some false:=by
   dsimp only [L2.KOf];refine' L2.mX KX G ?a ?o
   (case a=>k_is);(case o=>kernel_rfl)
  have w_Piece_bool:PySem.W.kitOne (L2.KOf KX) (.type "bool") (.ref (L2.aN mg "Piece"))=some false:=by
   dsimp only [L2.KOf];refine' L2.mX KX G ?a ?o
   (case a=>k_is);(case o=>kernel_rfl)
  have w_Piece_dict:PySem.W.kitOne (L2.KOf KX) (.type "dict") (.ref (L2.aN mg "Piece"))=some false:=by
   dsimp only [L2.KOf];refine' L2.mX KX G ?a ?o
   (case a=>k_is);(case o=>kernel_rfl)
  have m_Piece___init__:L2.Jh (L2.KOf KX) mg "Piece" "__init__" "Piece.__init__" My.iV:=by
   dsimp only [L2.KOf];refine' L2.Z9 KX G ?a ?s ?r ?i ?l ?c ?k
   (case a=>k_is);(case s=>first | k_is | kernel_rfl);(case r=>kernel_rfl);(case i=>first | k_is | kernel_rfl);(case l=>k_is);(case c=>k_is);(case k=>k_is)
  have m_Piece_side:L2.tU (L2.KOf KX) mg ["Blank","One","Over","Beside","Ring"] "side" "Piece.side" My.p8:=by
   dsimp only [L2.KOf];refine' L2.Cu KX G ?a1 ?a2 ?a3 ?a4 ?a5 ?i1 ?i2 ?i3 ?i4 ?i5 ?n ?l ?c ?k
   (case a1=>k_is);(case a2=>k_is);(case a3=>k_is);(case a4=>k_is);(case a5=>k_is);(case i1=>k_is);(case i2=>k_is);(case i3=>k_is);(case i4=>k_is);(case i5=>k_is);(case n=>first | k_is | kernel_rfl);(case l=>k_is);(case c=>k_is);(case k=>k_is)
  have m_Piece_top:L2.tU (L2.KOf KX) mg ["Blank","One","Over","Beside","Ring"] "top" "Piece.top" My.rC:=by
   dsimp only [L2.KOf];refine' L2.Cu KX G ?a1 ?a2 ?a3 ?a4 ?a5 ?i1 ?i2 ?i3 ?i4 ?i5 ?n ?l ?c ?k
   (case a1=>k_is);(case a2=>k_is);(case a3=>k_is);(case a4=>k_is);(case a5=>k_is);(case i1=>k_is);(case i2=>k_is);(case i3=>k_is);(case i4=>k_is);(case i5=>k_is);(case n=>first | k_is | kernel_rfl);(case l=>k_is);(case c=>k_is);(case k=>k_is)
  have m_Piece_lines:L2.tU (L2.KOf KX) mg ["Blank","One","Over","Beside","Ring"] "lines" "Piece.lines" My.oK:=by
   dsimp only [L2.KOf];refine' L2.Cu KX G ?a1 ?a2 ?a3 ?a4 ?a5 ?i1 ?i2 ?i3 ?i4 ?i5 ?n ?l ?c ?k
   (case a1=>k_is);(case a2=>k_is);(case a3=>k_is);(case a4=>k_is);(case a5=>k_is);(case i1=>k_is);(case i2=>k_is);(case i3=>k_is);(case i4=>k_is);(case i5=>k_is);(case n=>first | k_is | kernel_rfl);(case l=>k_is);(case c=>k_is);(case k=>k_is)
  have m_Piece_height:L2.tU (L2.KOf KX) mg ["Blank","One","Over","Beside","Ring"] "height" "Piece.height" My.m7:=by
   dsimp only [L2.KOf];refine' L2.Cu KX G ?a1 ?a2 ?a3 ?a4 ?a5 ?i1 ?i2 ?i3 ?i4 ?i5 ?n ?l ?c ?k
   (case a1=>k_is);(case a2=>k_is);(case a3=>k_is);(case a4=>k_is);(case a5=>k_is);(case i1=>k_is);(case i2=>k_is);(case i3=>k_is);(case i4=>k_is);(case i5=>k_is);(case n=>first | k_is | kernel_rfl);(case l=>k_is);(case c=>k_is);(case k=>k_is)
  have m_Tally___init__:L2.gU (L2.KOf KX) mg "Tally" "__init__" "Tally.__init__" My.kO:=by
   dsimp only [L2.KOf];refine' L2.jK KX G ?a ?i ?n ?l ?c ?k
   (case a=>k_is);(case i=>k_is);(case n=>first | k_is | kernel_rfl);(case l=>k_is);(case c=>k_is);(case k=>k_is)
  have m_Tally_below:L2.gU (L2.KOf KX) mg "Tally" "below" "Tally.below" My.oJ:=by
   dsimp only [L2.KOf];refine' L2.jK KX G ?a ?i ?n ?l ?c ?k
   (case a=>k_is);(case i=>k_is);(case n=>first | k_is | kernel_rfl);(case l=>k_is);(case c=>k_is);(case k=>k_is)
  have m_Asks___init__:L2.gU (L2.KOf KX) mg "Asks" "__init__" "Asks.__init__" My.lN:=by
   dsimp only [L2.KOf];refine' L2.jK KX G ?a ?i ?n ?l ?c ?k
   (case a=>k_is);(case i=>k_is);(case n=>first | k_is | kernel_rfl);(case l=>k_is);(case c=>k_is);(case k=>k_is)
  have m_Asks_reckoned:L2.gU (L2.KOf KX) mg "Asks" "reckoned" "Asks.reckoned" My.lO:=by
   dsimp only [L2.KOf];refine' L2.jK KX G ?a ?i ?n ?l ?c ?k
   (case a=>k_is);(case i=>k_is);(case n=>first | k_is | kernel_rfl);(case l=>k_is);(case c=>k_is);(case k=>k_is)
  have m_Asks_reckoned_stretch:L2.gU (L2.KOf KX) mg "Asks" "reckoned_stretch" "Asks.reckoned_stretch" My.gO:=by
   dsimp only [L2.KOf];refine' L2.jK KX G ?a ?i ?n ?l ?c ?k
   (case a=>k_is);(case i=>k_is);(case n=>first | k_is | kernel_rfl);(case l=>k_is);(case c=>k_is);(case k=>k_is)
  have m_Asks_stretch:L2.gU (L2.KOf KX) mg "Asks" "stretch" "Asks.stretch" My.m5:=by
   dsimp only [L2.KOf];refine' L2.jK KX G ?a ?i ?n ?l ?c ?k
   (case a=>k_is);(case i=>k_is);(case n=>first | k_is | kernel_rfl);(case l=>k_is);(case c=>k_is);(case k=>k_is)
  have m_Blank___init__:L2.gU (L2.KOf KX) mg "Blank" "__init__" "Blank.__init__" My.kW:=by
   dsimp only [L2.KOf];refine' L2.jK KX G ?a ?i ?n ?l ?c ?k
   (case a=>k_is);(case i=>k_is);(case n=>first | k_is | kernel_rfl);(case l=>k_is);(case c=>k_is);(case k=>k_is)
  have m_One___init__:L2.gU (L2.KOf KX) mg "One" "__init__" "One.__init__" My.m8:=by
   dsimp only [L2.KOf];refine' L2.jK KX G ?a ?i ?n ?l ?c ?k
   (case a=>k_is);(case i=>k_is);(case n=>first | k_is | kernel_rfl);(case l=>k_is);(case c=>k_is);(case k=>k_is)
  have m_Over___init__:L2.gU (L2.KOf KX) mg "Over" "__init__" "Over.__init__" My.lQ:=by
   dsimp only [L2.KOf];refine' L2.jK KX G ?a ?i ?n ?l ?c ?k
   (case a=>k_is);(case i=>k_is);(case n=>first | k_is | kernel_rfl);(case l=>k_is);(case c=>k_is);(case k=>k_is)
  have m_Beside___init__:L2.gU (L2.KOf KX) mg "Beside" "__init__" "Beside.__init__" My.jO:=by
   dsimp only [L2.KOf];refine' L2.jK KX G ?a ?i ?n ?l ?c ?k
   (case a=>k_is);(case i=>k_is);(case n=>first | k_is | kernel_rfl);(case l=>k_is);(case c=>k_is);(case k=>k_is)
  have m_Ring___init__:L2.gU (L2.KOf KX) mg "Ring" "__init__" "Ring.__init__" My.lR:=by
   dsimp only [L2.KOf];refine' L2.jK KX G ?a ?i ?n ?l ?c ?k
   (case a=>k_is);(case i=>k_is);(case n=>first | k_is | kernel_rfl);(case l=>k_is);(case c=>k_is);(case k=>k_is)
  have m_Ring_need_opening:L2.gU (L2.KOf KX) mg "Ring" "need_opening" "Ring.need_opening" My.jg:=by
   dsimp only [L2.KOf];refine' L2.jK KX G ?a ?i ?n ?l ?c ?k
   (case a=>k_is);(case i=>k_is);(case n=>first | k_is | kernel_rfl);(case l=>k_is);(case c=>k_is);(case k=>k_is)
  have m_Ring_opening:L2.gU (L2.KOf KX) mg "Ring" "opening" "Ring.opening" My.m9:=by
   dsimp only [L2.KOf];refine' L2.jK KX G ?a ?i ?n ?l ?c ?k
   (case a=>k_is);(case i=>k_is);(case n=>first | k_is | kernel_rfl);(case l=>k_is);(case c=>k_is);(case k=>k_is)
  have m_Ring_length:L2.gU (L2.KOf KX) mg "Ring" "length" "Ring.length" My.oM:=by
   dsimp only [L2.KOf];refine' L2.jK KX G ?a ?i ?n ?l ?c ?k
   (case a=>k_is);(case i=>k_is);(case n=>first | k_is | kernel_rfl);(case l=>k_is);(case c=>k_is);(case k=>k_is)
  have m_Ring_lengths:L2.gU (L2.KOf KX) mg "Ring" "lengths" "Ring.lengths" My.jP:=by
   dsimp only [L2.KOf];refine' L2.jK KX G ?a ?i ?n ?l ?c ?k
   (case a=>k_is);(case i=>k_is);(case n=>first | k_is | kernel_rfl);(case l=>k_is);(case c=>k_is);(case k=>k_is)
  have m_Ring_stretch:L2.gU (L2.KOf KX) mg "Ring" "stretch" "Ring.stretch" My.ni:=by
   dsimp only [L2.KOf];refine' L2.jK KX G ?a ?i ?n ?l ?c ?k
   (case a=>k_is);(case i=>k_is);(case n=>first | k_is | kernel_rfl);(case l=>k_is);(case c=>k_is);(case k=>k_is)
  have m_Ring_best:L2.gU (L2.KOf KX) mg "Ring" "best" "Ring.best" My.rD:=by
   dsimp only [L2.KOf];refine' L2.jK KX G ?a ?i ?n ?l ?c ?k
   (case a=>k_is);(case i=>k_is);(case n=>first | k_is | kernel_rfl);(case l=>k_is);(case c=>k_is);(case k=>k_is)
  have m_Ring_gone_round:L2.gU (L2.KOf KX) mg "Ring" "gone_round" "Ring.gone_round" My.iD:=by
   dsimp only [L2.KOf];refine' L2.jK KX G ?a ?i ?n ?l ?c ?k
   (case a=>k_is);(case i=>k_is);(case n=>first | k_is | kernel_rfl);(case l=>k_is);(case c=>k_is);(case k=>k_is)
  have m_Ring_paper:L2.gU (L2.KOf KX) mg "Ring" "paper" "Ring.paper" My.mC:=by
   dsimp only [L2.KOf];refine' L2.jK KX G ?a ?i ?n ?l ?c ?k
   (case a=>k_is);(case i=>k_is);(case n=>first | k_is | kernel_rfl);(case l=>k_is);(case c=>k_is);(case k=>k_is)
  have u_NoPlace_PaneError:L2.Sub (L2.KOf KX) mg "NoPlace" "PaneError" true:=by
   dsimp only [L2.KOf];refine' L2.qM KX G ?a ?b ?m ?o
   (case a=>k_is);(case b=>k_is);(case m=>k_is);(case o=>kernel_rfl)
  have u_NoPlace_NoPlace:L2.Sub (L2.KOf KX) mg "NoPlace" "NoPlace" true:=by
   dsimp only [L2.KOf];refine' L2.qM KX G ?a ?b ?m ?o
   (case a=>k_is);(case b=>k_is);(case m=>k_is);(case o=>kernel_rfl)
  have u_NoPlace_NoPiece:L2.Sub (L2.KOf KX) mg "NoPlace" "NoPiece" false:=by
   dsimp only [L2.KOf];refine' L2.qM KX G ?a ?b ?m ?o
   (case a=>k_is);(case b=>k_is);(case m=>k_is);(case o=>kernel_rfl)
  have v_NoPlace:PySem.W.kitOne (L2.KOf KX) (.ref (L2.aN mg "NoPlace")) (.type "ValueError")=some true:=by
   dsimp only [L2.KOf];refine' L2.Sh KX G ?a ?o
   (case a=>k_is);(case o=>kernel_rfl)
  exact ⟨d_law,fun base f fd F=>My.Yv ⟨b_ValueError,b_all,b_bool,b_enumerate,b_int,b_isinstance,b_len,b_list,b_max,b_range,b_reversed,b_str,b_tuple,c_LETTERS,c_MOST_LETTERS,c_MOST_LINES,c_MOST_SIGNS,c_POINT,d_is_number,d_is_within,d_is_letter,d_is_sign,d_is_span,d_need_place,d_need_span,d_need_sign,d_is_row,d_is_plain,d_need_row,d_need_rows,d_need_plain,d_is_turning,d_need_turning,d_straight,d_opposite,d_counts,d_lengths_below,d_lengths,d_thread_of,d_pairs_of,d_heaps_of,d_paper_of,d_do_steps,d_steps_of,d_need_alike,d_laid,d_need_pieces,d_need_same,d_need_short,d_lines_over,d_lines_beside,d_all_beside,d_all_over,d_balanced,d_law_cell_at,d_law_great,d_law_letter,d_law_row,d_law_heaps,d_law_round,d_law_thread,d_law_pairs,d_law_right,d_law_no_place,d_law,x_PaneError,x_NoRow,x_NoPlain,x_NoLetter,x_NoPlace,x_NoSpan,x_NoTurning,x_NoPiece,x_Unlike,x_TooLong,o_Tally,n_Tally,o_Asks,n_Asks,o_Piece,n_Piece,o_Blank,n_Blank,o_One,n_One,o_Over,n_Over,o_Beside,n_Beside,o_Ring,n_Ring,os_Piece,t_Blank,t_One,t_Over,t_Beside,t_Ring,u_Blank_Piece,u_One_Piece,u_Over_Piece,u_Beside_Piece,u_Ring_Piece,w_Piece_str,w_Piece_int,w_Piece_list,w_Piece_tuple,w_Piece_NoneType,w_Piece_bool,w_Piece_dict,m_Piece___init__,m_Piece_side,m_Piece_top,m_Piece_lines,m_Piece_height,m_Tally___init__,m_Tally_below,m_Asks___init__,m_Asks_reckoned,m_Asks_reckoned_stretch,m_Asks_stretch,m_Blank___init__,m_One___init__,m_Over___init__,m_Beside___init__,m_Ring___init__,m_Ring_need_opening,m_Ring_opening,m_Ring_length,m_Ring_lengths,m_Ring_stretch,m_Ring_best,m_Ring_gone_round,m_Ring_paper,u_NoPlace_PaneError,u_NoPlace_NoPlace,u_NoPlace_NoPiece,v_NoPlace⟩ F⟩
