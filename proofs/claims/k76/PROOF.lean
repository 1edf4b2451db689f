import PyProof.Rows.All
import Wide.All
import OpenK.AllK
import Wide.FinOn
import Lean
import PyProof.EqAt
import PyProof.EqKinds
import PyProof.TupleCall
import PyProof.ReprRoads
import KE.KSortTup
import KE.KDictList
import KE.KMinKey
import KE.KIntText
import KE.KLam
import KE.KNestM
import PySem.Challenge.RW_panethread_k76_openings_of_rings
noncomputable section
abbrev YS:=@PySem.wpAny_bind
abbrev YT:=@List.getElem?_eq_getElem
abbrev YW:=@List.getElem?_eq_some_iff
abbrev YX:=@PySem.wpAny_pure
abbrev YZ:=@List.getD_eq_getElem?_getD
abbrev Y0:=@PySem.Heap.get?_push_of_some
abbrev Y4:=@Nat.le_refl
abbrev Y5:=@PySem.Heap.lt_size
abbrev Y6:=@Bool.false_ne_true
abbrev Y7:=@List.mem_cons
abbrev Y8:=@List.mem_of_getElem?
abbrev Y9:=@decide_eq_true
abbrev Za:=@PySem.Heap.get?_push_size
abbrev Zb:=@Bool.and_eq_true
abbrev Zc:=@decide_eq_false
abbrev Zd:=@List.getElem?_map
abbrev Ze:=@Nat.lt_of_lt_of_le
abbrev Zf:=@PySem.Heap.get?_update_other
abbrev Zg:=@List.mem_cons_of_mem
abbrev Zh:=@List.size_toArray
abbrev Zi:=@Array.length_toList
abbrev Zj:=@List.length_map
abbrev Zk:=@List.mem_range
abbrev Zm:=@Nat.le_trans
abbrev Zn:=@PyProof.Rows.callWith_type1
abbrev Zo:=@List.getElem?_range
abbrev Zq:=@List.mem_nil_iff
abbrev Zr:=@List.getElem?_append_right
abbrev Zt:=@Nat.ne_of_lt
abbrev Zu:=@List.getElem?_append_left
abbrev Zv:=@Option.some.inj
abbrev Zw:=@PySem.wpAny_holding
abbrev Zx:=@List.lookup_cons
abbrev Zy:=@PySem.Heap.get?_update_self
abbrev Zz:=@PySem.W.mg_none_of
abbrev ZC:=@List.all_cons
abbrev ZD:=@List.getElem?_set_ne
abbrev ZF:=@PySem.W.mg_of
abbrev ZG:=@PySem.wpAny_Call_Name_kw
abbrev ZJ:=@List.mem_singleton
abbrev ZK:=@List.map_append
abbrev ZL:=@PySem.mem_of_lookup
abbrev ZM:=@PySem.wpAny_mono
abbrev ZP:=@List.mem_map
abbrev ZQ:=@List.map_cons
abbrev ZR:=@PySem.PassesOwn.never
abbrev ZS:=@List.mem_cons_self
abbrev ZV:=@List.append_nil
abbrev ZW:=@List.getElem?_set_self
abbrev ZX:=@List.mem_append_right
abbrev ZZ:=@List.getElem?_eq_none
abbrev Z0:=@List.mem_append
abbrev Z1:=@PySem.wpAny_truthy_bool
abbrev Z2:=@List.length_append
abbrev Z3:=@List.take_of_length_le
abbrev Z4:=@PySem.W.kia_one
abbrev Z5:=@Nat.lt_irrefl
abbrev Z6:=@List.length_cons
abbrev Z7:=@Nat.zero_le
abbrev Z8:=@PySem.wpAny_newObj_type
abbrev Z9:=@PySem.W.looks_findIn
abbrev gV:=@List.all_eq_true
abbrev Aaa:=@List.replicate_succ
abbrev Aab:=@PySem.wpAny_loadPart_at
abbrev Aac:=@List.idxOf_lt_length_iff
abbrev Aad:=@List.getElem_mem
abbrev Aae:=@PySem.codeAny_call_builtin
abbrev Aaf:=@PySem.wpAny_of_eq
abbrev Aag:=@PySem.Around.under_plainId
abbrev Aah:=@List.take_length
abbrev Aai:=@PySem.wpAny_loadPart
abbrev Aaj:=@PySem.Heap.size_push
abbrev Aak:=@PySem.wpAny_tryCatch
abbrev Aal:=@List.take_add_one
abbrev Aam:=@PyProof.Rows.slot_tuple_getitem
abbrev Aan:=@PySem.builtinLookup_eq_fast
abbrev Aao:=@beq_iff_eq
abbrev Aap:=@List.length_take
abbrev Aaq:=@Nat.lt_of_le_of_lt
abbrev Aar:=@Nat.le_add_right
abbrev Aas:=@PySem.plainId_quiet
abbrev Aat:=@PySem.wpAny_field
abbrev Aau:=@Std.Legacy.Range.forIn_eq_forIn_range'
abbrev Aav:=@PySem.wpAny_getItem_str_slice
abbrev Aaw:=@Nat.add_sub_cancel_left
abbrev Aax:=@beq_eq_false_iff_ne
abbrev Aay:=@List.filterMap_cons
abbrev Aaz:=@PySem.F.plain_max_loop
abbrev AaA:=@PySem.F.plain_min_loop
abbrev AaB:=@PySem.wpAny_call
abbrev AaC:=@PySem.W.callWith_K
abbrev AaD:=@PySem.Obj.data_mapFields
abbrev AaE:=@List.contains_cons
abbrev AaF:=@List.range_add
abbrev AaG:=@PySem.wpAny_passesOwn
abbrev AaH:=@PySem.SeqAt.EqAt.same
abbrev AaI:=@PySem.wpAny_updateSeq
abbrev AaJ:=@PySem.codeAny_builtin
abbrev AaK:=@decide_eq_true_eq
abbrev AaL:=@Nat.le_of_succ_le
abbrev AaM:=@List.length_range
abbrev AaN:=@List.mem_of_mem_take
abbrev AaO:=@List.map_map
abbrev AaP:=@PySem.wpAny_isSubtype_exc
abbrev AaQ:=@List.map_congr_left
abbrev AaR:=@List.length_drop
abbrev AaS:=@PySem.wpAny_callSpecial?_slot
abbrev AaT:=@PySem.wpAny_seqItems
abbrev AaU:=@decide_eq_false_iff_not
abbrev AaV:=@PySem.F.plainAttrs_list
abbrev AaW:=@PySem.wpAny_letGo
abbrev AaX:=@List.eq_nil_of_length_eq_zero
abbrev AaY:=@Nat.ne_of_gt
abbrev AaZ:=@Bool.false_eq_true
abbrev Aa0:=@List.drop_eq_nil_of_le
abbrev Aa1:=@List.length_eq_one_iff
abbrev Aa2:=@List.find?_cons
abbrev Aa3:=@PySem.wpAny_specialOf
abbrev Aa4:=@PySem.typeLookup_type
abbrev Aa5:=@PySem.Obj.isFreed_of_fields
abbrev Aa6:=@PySem.W.methodCall_KW
abbrev Aa7:=@List.flatten_cons
abbrev Aa8:=@List.ext_getElem?
abbrev Aa9:=@List.mem_append_left
abbrev Aba:=@List.mem_iff_getElem
abbrev Abb:=@PySem.isSubtype_type
abbrev Abd:=@PySem.wpAny_setField
abbrev Abe:=@PySem.wpAny_call_entry
abbrev Abf:=@Nat.sub_zero
abbrev Abg:=@Nat.min_eq_right
abbrev Abh:=@List.nodup_range
abbrev Abi:=@List.mem_reverse
abbrev Abj:=@List.any_cons
abbrev Abk:=@PySem.wpAny_attempt
local macro_rules | `(tactic| trivial) => `(tactic| decide +kernel)
set_option compiler.extract_closed false
set_option Elab.async false
set_option linter.all false
set_option maxRecDepth 100000
namespace L2
@[elab_as_elim] theorem iG {p:List PySem.Value->Prop} (h:∀ a0:PySem.Value,p [a0]) (us:List PySem.Value) (hl:us.length=1):p us:=by
 rcases us with _ | ⟨a0,us0⟩
 ·cases hl
 rcases us0 with _ | ⟨b,us⟩
 ·exact h a0
 ·cases hl
@[elab_as_elim] theorem nP {p:List PySem.Value->Prop} (h:∀ a0 a1:PySem.Value,p [a0,a1]) (us:List PySem.Value) (hl:us.length=2):p us:=by
 rcases us with _ | ⟨a0,us0⟩
 ·cases hl
 rcases us0 with _ | ⟨a1,us1⟩
 ·cases hl
 rcases us1 with _ | ⟨b,us⟩
 ·exact h a0 a1
 ·cases hl
@[elab_as_elim] theorem uf {p:List PySem.Value->Prop} (h:∀ a0 a1 a2:PySem.Value,p [a0,a1,a2]) (us:List PySem.Value) (hl:us.length=3):p us:=by
 rcases us with _ | ⟨a0,us0⟩
 ·cases hl
 rcases us0 with _ | ⟨a1,us1⟩
 ·cases hl
 rcases us1 with _ | ⟨a2,us2⟩
 ·cases hl
 rcases us2 with _ | ⟨b,us⟩
 ·exact h a0 a1 a2
 ·cases hl
@[elab_as_elim] theorem usN4 {p:List PySem.Value->Prop} (h:∀ a0 a1 a2 a3:PySem.Value,p [a0,a1,a2,a3]) (us:List PySem.Value) (hl:us.length=4):p us:=by
 rcases us with _ | ⟨a0,us0⟩
 ·cases hl
 rcases us0 with _ | ⟨a1,us1⟩
 ·cases hl
 rcases us1 with _ | ⟨a2,us2⟩
 ·cases hl
 rcases us2 with _ | ⟨a3,us3⟩
 ·cases hl
 rcases us3 with _ | ⟨b,us⟩
 ·exact h a0 a1 a2 a3
 ·cases hl
@[elab_as_elim] theorem usN6 {p:List PySem.Value->Prop} (h:∀ a0 a1 a2 a3 a4 a5:PySem.Value,p [a0,a1,a2,a3,a4,a5]) (us:List PySem.Value) (hl:us.length=6):p us:=by
 rcases us with _ | ⟨a0,us0⟩
 ·cases hl
 rcases us0 with _ | ⟨a1,us1⟩
 ·cases hl
 rcases us1 with _ | ⟨a2,us2⟩
 ·cases hl
 rcases us2 with _ | ⟨a3,us3⟩
 ·cases hl
 rcases us3 with _ | ⟨a4,us4⟩
 ·cases hl
 rcases us4 with _ | ⟨a5,us5⟩
 ·cases hl
 rcases us5 with _ | ⟨b,us⟩
 ·exact h a0 a1 a2 a3 a4 a5
 ·cases hl
theorem auto1 (h:True:=by first | exact .inl rfl | exact .inr rfl | assumption):True:=h
theorem auto2 (h:True:=by decide):True:=h
theorem auto3 (h:True:=by intro _;rfl):True:=h
theorem auto4 (h:True:=by rfl):True:=h
theorem auto5 (h:True:=by with_unfolding_all rfl):True:=h
theorem auto6 (h:True:=by trivial):True:=h
theorem auto7 (h:True:=by kernel_rfl):True:=h
open PySem PySem.Spec PyProof.Rows
abbrev Key:=Sum Int Str
def yh:Key->Value->Bool
 | .inl k,v=>Value.isInt k v
 | .inr x,v=>Value.isStrOf x v
def keyH (w:World):Key->Int
 | .inl k=>hashInt k
 | .inr x=>hashStr w x
theorem d8:∀ {k:Key} {v:Value},yh k v=true->(∃ i t,k=Sum.inl i/\v=Value.int i t)\/(∃ x t,k=Sum.inr x/\v=Value.str x t)
 | .inl i,v,h=>by
  obtain ⟨t,e⟩:=Value.isInt_shape (k:=i) (v:=v) h
  exact .inl ⟨i,t,rfl,e⟩
 | .inr x,v,h=>by
  obtain ⟨t,e⟩:=Value.isStrOf_shape (x:=x) (v:=v) h
  exact .inr ⟨x,t,rfl,e⟩
theorem Hl (i:Int) (t:Tok):yh (.inl i) (.int i t)=true:=by simp [yh,Value.isInt]
theorem Hn (x:Str) (t:Tok):yh (.inr x) (.str x t)=true:=by simp [yh,Value.isStrOf]
theorem Tt (a b:Int):decide ((Sum.inl a:Key)=Sum.inl b)=(a == b):=by
 by_cases e:a=b
 ·subst e;simp
 ·have h:¬ (Sum.inl a:Key)=Sum.inl b:=fun q=>e (Sum.inl.inj q)
  rw [Zc h]
  exact (Aax.mpr e).symm
theorem Tu (a b:Str):decide ((Sum.inr a:Key)=Sum.inr b)=decide (a=b):=by
 by_cases e:a=b
 ·subst e;simp
 ·have h:¬ (Sum.inr a:Key)=Sum.inr b:=fun q=>e (Sum.inr.inj q)
  rw [Zc h,Zc e]
theorem Tv (a:Int) (b:Str):decide ((Sum.inl a:Key)=Sum.inr b)=false:=Zc (fun q=>nomatch q)
theorem Tw (a:Str) (b:Int):decide ((Sum.inr a:Key)=Sum.inl b)=false:=Zc (fun q=>nomatch q)
def b8 (prog:Program) (w:World):PySem.KeyKind prog w Key where
 is:=yh
 hash:=keyH w
 inj:=fun v a b ha hb=>by
  rcases d8 ha with ⟨i,t,rfl,rfl⟩ | ⟨x,t,rfl,rfl⟩
  ·rcases d8 hb with ⟨j,u,rfl,e⟩ | ⟨y,u,rfl,e⟩
   ·injection e with e1 _;rw [e1]
   ·exact nomatch e
  ·rcases d8 hb with ⟨j,u,rfl,e⟩ | ⟨y,u,rfl,e⟩
   ·exact nomatch e
   ·injection e with e1 _;rw [e1]
 byValue:=fun k v h=>by
  rcases d8 h with ⟨i,t,rfl,rfl⟩ | ⟨x,t,rfl,rfl⟩ <;> rfl
 pyHash:=fun hv h=>by
  rcases d8 hv with ⟨i,t,rfl,rfl⟩ | ⟨x,t,rfl,rfl⟩
  ·exact wpAny_pyHash_int h
  ·exact wpAny_pyHash_str h
 eqBool:=fun hu hv h=>by
  rcases d8 hu with ⟨i,t,rfl,rfl⟩ | ⟨x,t,rfl,rfl⟩
  ·rcases d8 hv with ⟨j,u,rfl,rfl⟩ | ⟨y,u,rfl,rfl⟩
   ·rw [Tt] at h;exact wpAny_eqBool_int h
   ·rw [Tv] at h;exact SeqAt.EqAt.int_str i t y u _ _ _ _ h
  ·rcases d8 hv with ⟨j,u,rfl,rfl⟩ | ⟨y,u,rfl,rfl⟩
   ·rw [Tw] at h;exact SeqAt.EqAt.str_int x t j u _ _ _ _ h
   ·rw [Tu] at h;exact wpAny_eqBool_str h
 «strs»:=fun k x t v h=>by
  rcases d8 h with ⟨i,u,rfl,e⟩ | ⟨y,u,rfl,e⟩
  ·exact nomatch e
  ·injection e with e1 _
   subst e1
   cases v <;> rfl
theorem Bb (prog:Program) (w:World) (i:Int) (t:Tok):(b8 prog w).is (.inl i) (.int i t)=true:=Hl i t
theorem Bc (prog:Program) (w:World) (x:Str) (t:Tok):(b8 prog w).is (.inr x) (.str x t)=true:=Hn x t
end L2
namespace L2
open PySem PySem.Spec PyProof.Rows
inductive V where
 | non | bl (b:Bool) | int (i:Int) | str (x:Str) | byt (b:Array UInt8) | flt (b:UInt64) | ref (a:Addr) | ty (n:String)
 deriving DecidableEq
def RelV:V->Value->Prop
 | .non,u=>u=Value.none
 | .bl b,u=>u=Value.bool b
 | .int i,u=>∃ t,u=Value.int i t
 | .str x,u=>∃ t,u=Value.str x t
 | .byt b,u=>∃ t,u=Value.bytes b t
 | .flt b,u=>∃ t,u=Value.float b t
 | .ref a,u=>u=Value.ref a
 | .ty n,u=>u=Value.type n
abbrev Vals:List V->List Value->Prop:=Paired RelV
theorem Vals.length {xs:List V} {us:List Value} (r:Vals xs us):xs.length=us.length:=Paired.length r
theorem Vals.get:∀ {xs:List V} {us:List Value} {i:Nat} {x:V},Vals xs us->xs[i]?=some x->∃ u,us[i]?=some u/\RelV x u
 | _,_,_,_,.nil,e=>by simp at e
 | _,_,0,_,.cons r _,e=>by simp at e;subst e;exact ⟨_,rfl,r⟩
 | _,_,i+1,x,.cons _ t,e=>by
  obtain ⟨u,h1,h2⟩:=Vals.get (i:=i) (x:=x) t (by simpa using e)
  exact ⟨u,by simpa using h1,h2⟩
theorem Vals.set {x:V} {u:Value} (r:RelV x u):∀ {xs:List V} {us:List Value} (i:Nat),Vals xs us->Vals (xs.set i x) (us.set i u)
 | _,_,_,.nil=>.nil
 | _,_,0,.cons _ t=>.cons r t
 | _,_,i+1,.cons q t=>.cons q (Vals.set r i t)
theorem Vals.append:∀ {xs ys:List V} {us ws:List Value},Vals xs us->Vals ys ws->Vals (xs ++ ys) (us ++ ws)
 | _,_,_,_,.nil,s=>s
 | _,_,_,_,.cons r t,s=>.cons r (Vals.append t s)
theorem Vals.take:∀ {xs:List V} {us:List Value} (n:Nat),Vals xs us->Vals (xs.take n) (us.take n)
 | _,_,0,_=>.nil
 | _,_,_+1,.nil=>.nil
 | _,_,n+1,.cons r t=>.cons r (Vals.take n t)
theorem Vals.drop:∀ {xs:List V} {us:List Value} (n:Nat),Vals xs us->Vals (xs.drop n) (us.drop n)
 | _,_,0,r=>r
 | _,_,_+1,.nil=>.nil
 | _,_,n+1,.cons _ t=>Vals.drop n t
def RelO:Option V->Option Value->Prop
 | some v,some u=>RelV v u
 | none,none=>True
 | _,_=>False
def KV {κ:Type}:List (κ×V)->List (κ×Value)->Prop:=Paired fun (p:κ×V) (q:κ×Value)=>p.1=q.1/\RelV p.2 q.2
def kV:Key->V
 | .inl i=>.int i
 | .inr x=>.str x
inductive HO where
 /-- a list -/
 | lst (xs:List V)
 /-- a tuple (never changes) -/
 | tup (xs:List V)
 /-- a dict whose keys are ints and texts;one whose keys are tuples of ints and texts (the empty one is both) -/
 | dK (kvs:List (Key×V)) | dT (kvs:List (List Key×V))
 /-- a set of ints:its members,its size -/
 | set (S:Int->Bool) (n:Nat)
 /-- an instance of the class at C,its dict at dx,its attributes -/
 | ins (C dx:Addr) (fs:List (Str×V))
 /-- the dict of the instance at x -/
 | own (x:Addr)
 /-- the dict of an exception -/
 | xd (fs:List (Str×V))
 /-- a bound method,f of x -/
 | met (f x:Addr)
 /-- a range object lo,lo+1,.. below hi -/
 | rng (lo hi:Int)
 /-- a thing that is known to the object (the script;a dict while a loop walks it):read,never written while it is so -/
 | frz (o:Obj) (u:HO)
 /-- a code object's table -/
 | tbl (ps:Array Value)
 /-- any other thing,by what is true of its one object (a def of one's own:SetO a S n:=HO.ext fun h=>..) -/
 | ext (φ:Heap->Prop)
abbrev Hp:=Addr->Option HO
def upd (H:Hp) (a:Addr) (o:HO):Hp:=fun b=>if b=a then some o else H b
theorem aj {H:Hp} {a:Addr} {o:HO}:upd H a o a=some o:=by unfold upd;rw [if_pos rfl]
theorem aG {H:Hp} {a b:Addr} {o:HO} (h:b≠a):upd H a o b=H b:=by unfold upd;rw [if_neg h]
theorem O6 {H:Hp} {a:Addr} {o u:HO}:upd (upd H a o) a u=upd H a u:=by
 funext b;unfold upd;split <;> rfl
theorem WF {H:Hp} {a b:Addr} {o u:HO} (h:H a=some o) (h':H b=some u) (d:o≠u):a≠b:=by
 intro e;subst e;rw [h] at h';exact d (Zv h')
theorem lw {H:Hp} {a b:Addr} {o:HO} (h:H a=some o) (h':H b=none):a≠b:=by
 intro e;subst e;rw [h] at h';cases h'
section
variable (P:Program) (w:World)
def ObjOk (H:Hp) (h:Heap) (a:Addr):HO->Prop
 | .lst xs=>xs.length<=sizeLine/\∃ (its:List Value) (n:Nat),Vals xs its/\h.get? a=some {cls:=.type "list",data:=.seq its.toArray n}
 | .tup xs=>xs.length<=sizeLine/\∃ its:List Value,Vals xs its/\IsTup h a its.toArray
 | .dK kvs=>kvs.length<=sizeLine/\(a == sysModules)=false/\∃ vs,KV kvs vs/\h.DictOf (b8 P w) a vs
 | .dT kvs=>kvs.length<=sizeLine/\(a == sysModules)=false/\∃ xs:List (List Key×Addr×Value),
   Paired (fun (p:List Key×V) (q:List Key×Addr×Value)=>p.1=q.1/\H q.2.1=some (.tup (p.1.map kV))/\RelV p.2 q.2.2) kvs xs/\
   ∃ o es ep,h.get? a=some o/\o.ExactDict/\o.data= .dict es ep/\es.toList=xs.map (entryOfKey (tupleKind (b8 P w)))/\(xs.map (·.1)).Nodup
 | .set S n=>h.SetOf (intKind P w) a S n
 | .ins C dx fs=>H dx=some (.own a)/\fs.length<=1000/\dx≠a/\h.get? a=some (PySem.W.instObj C dx)/\
   ∃ mA,h.Ns1 dx mA/\(∀ f,RelO (fs.lookup f) (mA f))/\PySem.Within mA (fs.map (·.1))
 | .own _=>∃ o,h.get? a=some o
 | .xd fs=>∃ mA,h.Ns1 a mA/\∀ f,RelO (fs.lookup f) (mA f)
 | .rng lo hi=>∃ t u v,h.get? a=some {cls:=.type "range",data:=.fields #[.int lo t,.int hi u,.int 1 v]}
 | .frz o u=>h.get? a=some o/\ObjOk H h a u
 | .tbl ps=>h.get? a=some {cls:=.none,data:=.fields ps}
 | .met f x=>h.get? a=some (PySem.W.methodObj (.ref f) (.ref x))
 | .ext φ=>φ h/\(∃ o,h.get? a=some o)/\∀ h1 h2:Heap,φ h1->(∀ o,h1.get? a=some o->h2.get? a=some o)->φ h2
def HOk (H:Hp) (h:Heap):Prop:=∀ a o,H a=some o->ObjOk P w H h a o
end
section
variable {P:Program} {w:World} {H H':Hp} {h h':Heap} {a:Addr} {o:HO}
theorem ObjOk.lt (x:ObjOk P w H h a o):a < h.objs.size:=by
 cases o with
 | lst xs=>obtain ⟨_,_,_,_,e⟩:=x;exact Y5 e
 | tup xs=>obtain ⟨_,_,_,p⟩:=x;exact p.lt
 | dK kvs=>obtain ⟨_,_,_,_,o,_,_,e,_⟩:=x;exact Y5 e
 | dT kvs=>obtain ⟨_,_,_,_,o,_,_,e,_⟩:=x;exact Y5 e
 | set S n=>obtain ⟨o,_,_,_,e,_⟩:=x;exact Y5 e
 | ins C dx fs=>obtain ⟨_,_,_,e,_⟩:=x;exact Y5 e
 | own y=>obtain ⟨_,e⟩:=x;exact Y5 e
 | xd fs=>obtain ⟨_,⟨_,_,_,e,_⟩,_⟩:=x;exact Y5 e
 | rng lo hi=>obtain ⟨_,_,_,e⟩:=x;exact Y5 e
 | frz ob u=>obtain ⟨e,_⟩:=x;exact Y5 e
 | tbl ps=>exact Y5 (show h.get? a=some _ from x)
 | met f y=>exact Y5 (show h.get? a=some _ from x)
 | ext φ=>obtain ⟨_,⟨_,e⟩,_⟩:=x;exact Y5 e
theorem Paired.mapP {α β:Type} {F G:α->β->Prop}:∀ {l₁:List α} {l₂:List β},Paired F l₁ l₂->(∀ a b,F a b->G a b)->Paired G l₁ l₂
 | _,_,.nil,_=>.nil
 | _,_,.cons r t,f=>.cons (f _ _ r) (Paired.mapP t f)
theorem ObjOk.stay (x:ObjOk P w H h a o) (k:∀ b u,(b=a\/H b=some (.own a))->h.get? b=some u->h'.get? b=some u)
  (ho:∀ b,H b=some (.own a)->H' b=some (.own a)) (ht:∀ b xs,H b=some (.tup xs)->H' b=some (.tup xs)):ObjOk P w H' h' a o:=by
 induction o with
 | lst xs=>obtain ⟨z,its,n,r,e⟩:=x;exact ⟨z,its,n,r,k _ _ (.inl rfl) e⟩
 | tup xs=>obtain ⟨z,its,r,ob,e,c⟩:=x;exact ⟨z,its,r,ob,k _ _ (.inl rfl) e,c⟩
 | dK kvs=>obtain ⟨z,y,vs,r,ob,es,ep,e,c⟩:=x;exact ⟨z,y,vs,r,ob,es,ep,k _ _ (.inl rfl) e,c⟩
 | dT kvs=>
  obtain ⟨z,y,xs,r,ob,es,ep,e,c⟩:=x
  exact ⟨z,y,xs,Paired.mapP r fun p q z=>⟨z.1,ht _ _ z.2.1,z.2.2⟩,ob,es,ep,k _ _ (.inl rfl) e,c⟩
 | set S n=>obtain ⟨ob,es,ep,t,e,c⟩:=x;exact ⟨ob,es,ep,t,k _ _ (.inl rfl) e,c⟩
 | ins C dx fs=>
  obtain ⟨d,z,ne,e,mA,⟨od,es,ep,e2,c⟩,r⟩:=x
  exact ⟨ho _ d,z,ne,k _ _ (.inl rfl) e,mA,⟨od,es,ep,k _ _ (.inr d) e2,c⟩,r⟩
 | own y=>obtain ⟨ob,e⟩:=x;exact ⟨ob,k _ _ (.inl rfl) e⟩
 | xd fs=>obtain ⟨mA,⟨od,es,ep,e,c⟩,r⟩:=x;exact ⟨mA,⟨od,es,ep,k _ _ (.inl rfl) e,c⟩,r⟩
 | rng lo hi=>obtain ⟨t,u,v,e⟩:=x;exact ⟨t,u,v,k _ _ (.inl rfl) e⟩
 | frz ob u ih=>obtain ⟨e,q⟩:=x;exact ⟨k _ _ (.inl rfl) e,ih q⟩
 | tbl ps=>
  have e:h.get? a=some {cls:=.none,data:=.fields ps}:=x
  show h'.get? a=some {cls:=.none,data:=.fields ps}
  exact k a _ (.inl rfl) e
 | met f y=>
  have e:h.get? a=some (PySem.W.methodObj (.ref f) (.ref y)):=x
  show h'.get? a=some (PySem.W.methodObj (.ref f) (.ref y))
  exact k a _ (.inl rfl) e
 | ext φ=>obtain ⟨p,⟨o,e⟩,st⟩:=x;exact ⟨st _ _ p fun o q=>k _ _ (.inl rfl) q,⟨o,k _ _ (.inl rfl) e⟩,st⟩
theorem HOk.lt (x:HOk P w H h) (e:H a=some o):a < h.objs.size:=(x a o e).lt
theorem HOk.fresh (x:HOk P w H h) (e:h.objs.size<=a):H a=none:=by
 cases q:H a with
 | none=>rfl
 | some u=>exact absurd (Ze (x.lt q) e) (Z5 _)
theorem HOk.kept (x:HOk P w H h) (k:∀ b u,h.get? b=some u->h'.get? b=some u):HOk P w H h':=fun a o e=>
 (x a o e).stay (fun b u _ q=>k b u q) (fun _ q=>q) fun _ _ q=>q
theorem HOk.laid (x:HOk P w H h) (k:∀ b u,h.get? b=some u->h'.get? b=some u) (hp:h.objs.size<=a) (new:ObjOk P w (upd H a o) h' a o):HOk P w (upd H a o) h':=fun b u e=>by
 have hn:=x.fresh hp
 by_cases hb:b=a
 ·subst hb;rw [aj] at e;cases e;exact new
 ·rw [aG hb] at e
  exact (x b u e).stay (fun c v _ q=>k c v q) (fun c q=>by rw [aG (lw q hn)];exact q) fun c xs q=>by rw [aG (lw q hn)];exact q
end
def Rd (H:Hp) (a:Addr) (u:HO):Prop:=H a=some u\/∃ o,H a=some (.frz o u)
theorem Rd.ok {P:Program} {w:World} {H:Hp} {h:Heap} {a:Addr} {u:HO} (r:Rd H a u) (x:HOk P w H h):ObjOk P w H h a u:=by
 rcases r with r | ⟨o,r⟩
 ·exact x a u r
 ·obtain ⟨_,q⟩:=x a _ r
  exact q
def WK:Option HO->Prop
 | some (.lst _)=>True
 | some (.dK _)=>True
 | some (.dT _)=>True
 | some (.set _ _)=>True
 | some (.ins _ _ _)=>True
 | some (.ext _)=>True
 | _=>False
section
variable {P:Program} {w:World} {H:Hp} {h h':Heap} {x e:Addr} {o':HO}
theorem HOk.write (ok:HOk P w H h) (mu:WK (H x)) (he:e=x\/H e=some (.own x)) (k:∀ b u,b≠e->h.get? b=some u->h'.get? b=some u) (heo:∃ u,h'.get? e=some u)
  (new:ObjOk P w (upd H x o') h' x o'):HOk P w (upd H x o') h':=fun b u q=>by
 have nown:∀ c y,H c=some (.own y)->c≠x:=fun c y r z=>by subst z;rw [r] at mu;exact mu
 have ntup:∀ c xs,H c=some (.tup xs)->c≠x:=fun c xs r z=>by subst z;rw [r] at mu;exact mu
 by_cases hb:b=x
 ·subst hb;rw [aj] at q;cases q;exact new
 ·rw [aG hb] at q
  by_cases hbe:b=e
  ·have q':H b=some (.own x):=by
    rcases he with z | z
    ·exact absurd (hbe.trans z) hb
    ·rw [hbe];exact z
   rw [q] at q';cases q'
   obtain ⟨v,hv⟩:=heo
   exact ⟨v,by rw [hbe];exact hv⟩
  ·refine (ok b u q).stay (fun c v hc r=>k c v ?_ r) (fun c r=>by rw [aG (nown c b r)];exact r) fun c xs r=>by rw [aG (ntup c xs r)];exact r
   rcases hc with rfl | hc
   ·exact hbe
   ·rintro rfl
    rcases he with z | z
    ·exact nown c b hc z
    ·rw [hc] at z;cases z;exact hb rfl
end
structure Un (fs ex:List Addr) (H H':Hp) (h h':Heap):Prop where
 keep:∀ b o,h.get? b=some o->H b=none->b ∉ fs->b ∉ ex->h'.get? b=some o
 slot:∀ b o,h.get? b=some o->H b=none->b∈fs->b ∉ ex->∃ sl,h'.get? b=some {o with slots:=sl}
 free:∀ b o,h.get? b=some o->H b=none->b ∉ ex->H' b=none
 there:∀ b o,h.get? b=some o->b ∉ ex->∃ o',h'.get? b=some o'
 tups:∀ b xs,H b=some (.tup xs)->H' b=some (.tup xs)
 frzs:∀ b o u,H b=some (.frz o u)->H' b=some (.frz o u)
 tbls:∀ b ps,H b=some (.tbl ps)->∃ more,H' b=some (.tbl (ps ++ more))
section
variable {fs fs' ex ex':List Addr} {H H1 H2:Hp} {h h1 h2 h':Heap} {a x e:Addr} {o:HO}
theorem Un.any (u:Un fs ex H H1 h h1) {b:Addr} {ob:Obj} (q:h.get? b=some ob) (n:H b=none) (hx:b ∉ ex):∃ sl,h1.get? b=some {ob with slots:=sl}:=by
 by_cases hb:b∈fs
 ·exact u.slot b ob q n hb hx
 ·exact ⟨ob.slots,u.keep b ob q n hb hx⟩
theorem Un.kept (k:∀ b u,h.get? b=some u->h'.get? b=some u):Un fs ex H H h h':=
 ⟨fun b ob q _ _ _=>k b ob q,fun b ob q _ _ _=>⟨ob.slots,k b ob q⟩,fun _ _ _ n _=>n,fun b ob q _=>⟨ob,k b ob q⟩,fun _ _ q=>q,fun _ _ _ q=>q,fun _ ps q=>⟨#[],by rw [q];simp⟩⟩
theorem Un.refl:Un fs ex H H h h:=Un.kept fun _ _ q=>q
theorem Un.laid (k:∀ b u,h.get? b=some u->h'.get? b=some u) (hp:h.objs.size<=a) (hn:H a=none):Un fs ex H (upd H a o) h h' where
 keep:=fun b u q _ _ _=>k b u q
 slot:=fun b u q _ _ _=>⟨u.slots,k b u q⟩
 free:=fun b u q n _=>by rw [aG (Zt (Ze (Y5 q) hp))];exact n
 there:=fun b u q _=>⟨u,k b u q⟩
 tups:=fun b xs q=>by rw [aG (lw q hn)];exact q
 frzs:=fun b u xs q=>by rw [aG (lw q hn)];exact q
 tbls:=fun b ps q=>⟨#[],by rw [aG (lw q hn),q];simp⟩
theorem Un.write (mu:WK (H x)) (he:e=x\/H e=some (.own x)) (k:∀ b u,b≠e->h.get? b=some u->h'.get? b=some u) (heo:∃ u,h'.get? e=some u):Un fs ex H (upd H x o) h h':=by
 have hx:∀ b,H b=none->b≠x:=fun b n z=>by subst z;rw [n] at mu;exact mu
 have hb:∀ b,H b=none->b≠e:=fun b n z=>by
  subst z
  rcases he with r | r
  ·exact hx b n r
  ·rw [n] at r;cases r
 have hm:∀ b u,H b=some u->¬ WK (some u)->b≠x:=fun b u q nm z=>by subst z;rw [q] at mu;exact nm mu
 refine ⟨fun b u q n _ _=>k b u (hb b n) q,fun b u q n _ _=>⟨u.slots,k b u (hb b n) q⟩,fun b u q n _=>by rw [aG (hx b n)];exact n,fun b u q _=>?_,
  fun b xs q=>by rw [aG (hm b _ q fun z=>z)];exact q,fun b u xs q=>by rw [aG (hm b _ q fun z=>z)];exact q,fun b ps q=>⟨#[],by rw [aG (hm b _ q fun z=>z),q];simp⟩⟩
 by_cases hbe:b=e
 ·subst hbe;exact heo
 ·exact ⟨u,k b u hbe q⟩
end
def Tz (h:Heap) (H:Hp):List Addr:=(List.range h.objs.size).filter fun a=>(H a).isSome
def zm (h:Heap) (H:Hp):Heap:=PySem.W.hideAll h (Tz h H)
theorem Ho (h:Heap) (H:Hp):(zm h H).objs.size=h.objs.size:=PySem.W.hideAll_size _ _
theorem JX {h:Heap} {H:Hp} {b:Addr} {o:Obj} (e:h.get? b=some o) (n:H b=none):(zm h H).get? b=some o:=
 PySem.W.hideAll_get _ e fun hm=>by
  have q:(H b).isSome=true:=(List.mem_filter.mp hm).2
  rw [n] at q;simp at q
theorem O7 {h:Heap} {H:Hp} {b:Addr} {o:Obj} (e:(zm h H).get? b=some o):h.get? b=some o/\H b=none:=by
 have e':h.get? b=some o:=PySem.W.of_hideAll (Tz h H) e
 refine ⟨e',?_⟩
 cases q:H b with
 | none=>rfl
 | some x=>
  have hm:b∈Tz h H:=List.mem_filter.mpr ⟨Zk.mpr (Y5 e'),by simp [q]⟩
  have z:(zm h H).get? b=none:=PySem.W.hideAll_none (Tz h H) hm
  rw [z] at e;cases e
structure Mod (K:W.Frag) (mg:Str->Option Value) (base:Heap):Prop where
 kin:K.In base
 glob:base.Ns mainGlobals mg
 blt:∃ mb,base.Ns builtinsNs mb/\∀ x:Str,x≠"__name__"->mb x=bootBuiltins x
 nolimit:base.NoLimit
 sysm:∃ mm,base.Ns sysModules mm
 bmn:∃ bm ob,mg "__builtins__"=some (.ref bm)/\bm≠builtinsNs/\base.get? bm=some ob/\ob.cls= .type "module"/\ob.dict=some builtinsNs/\ob.data= .plain
structure Cx where
 prog:Program
 w:World
 K:W.Frag
 mg:Str->Option Value
 base:Heap
 A:Around
 N:List Str
 s₀:Shared
 H₀:Hp
 env:Env
 outer:List Env
 stack:List Env
 ex:List Addr
 fn:Str->Bool
 calm:Bool
 pn:List (Addr×Obj)
 xe:Value->Shared->Prop
def frs (l:List Env):List Addr:=l.filterMap (·.frame)
abbrev Cx.fs (X:Cx):List Addr:=frs X.outer
def WL (sc:Scope) (x:Str):Prop:=sc.names.lookup x=some .local\/sc.names.lookup x=some .cell\/sc.names.lookup x=some .free
def Loc (sc:Scope) (x:Str):Prop:=sc.names.lookup x=some .local\/sc.names.lookup x=some .cell
def Look (env:Env) (h:Heap) (m:Str->Option Value) (x:Str) (u:Value):Prop:=
 (env.kindOf x=some .local/\m x=some u)\/((env.kindOf x=some .cell\/env.kindOf x=some .free)/\∃ c,env.cells.lookup x=some c/\h.IsCell c (some u))
structure Cx.Ok (X:Cx):Prop where
 mod:Mod X.K X.mg X.base
 kind:X.env.scope.kind= .function
 glob:X.env.globals=mainGlobals
 blt:X.env.builtins=builtinsNs
 above:X.s₀.heap.objs.size<=X.env.locals
 inj:∀ x y c,X.env.cells.lookup x=some c->X.env.cells.lookup y=some c->x=y
 has:∀ x,(X.env.kindOf x=some .cell\/X.env.kindOf x=some .free)->∃ c,X.env.cells.lookup x=some c
 cab:∀ x c,X.fn x=true->X.env.cells.lookup x=some c->X.s₀.heap.objs.size<=c
 hd:X.calm=true->X.A.handled=none
 frames:X.A.frames=some X.stack
 stk:X.stack=X.outer\/(X.stack=X.env :: X.outer/\X.env.frame=some X.env.locals)
 exf:∀ b∈X.ex,b≠X.env.locals/\∀ x c,X.env.cells.lookup x=some c->c≠b
 bs:∀ b o,X.base.get? b=some o->X.s₀.heap.get? b=some o/\X.H₀ b=none
 bsz:X.base.objs.size<=X.s₀.heap.objs.size
 noex:∀ b o,X.base.get? b=some o->b ∉ X.ex
 exfs:∀ b∈X.ex,b ∉ X.fs
 funs:X.s₀.heap.FunFrames X.base X.outer
 frf:∀ b∈X.fs,X.H₀ b=none
structure Inv (X:Cx) (pins:List (Addr×Obj)) (U:List (Option V)) (H:Hp) (s:Shared):Prop where
 ok:X.Ok
 os:s.os=X.s₀.os
 bare:AllBare s.gens
 base:Un X.fs X.ex X.H₀ H X.s₀.heap s.heap
 loc:∃ m,s.heap.Ns X.env.locals m/\∀ (i:Nat) (x:Str) (v:V),X.N[i]?=some x->U[i]?=some (some v)->WL X.env.scope x->∃ u,RelV v u/\Look X.env s.heap m x u
 cell:∀ x c,X.env.cells.lookup x=some c->∃ v,s.heap.IsCell c v
 free:H X.env.locals=none
 freeC:∀ x c,X.env.cells.lookup x=some c->H c=none
 pin:∀ p∈X.pn ++ pins,s.heap.get? p.1=some p.2/\H p.1=none/\p.1≠X.env.locals/\p.1 ∉ X.fs/\∀ v,p.2.data≠.cell v
 hok:HOk X.prog X.w H s.heap
 len:U.length=X.N.length
section
variable {X:Cx} {pins:List (Addr×Obj)} {U:List (Option V)} {H H':Hp} {s:Shared} {h':Heap}
theorem Cx.Ok.nofr (ok:X.Ok) {b:Addr} {o:Obj} (e:X.base.get? b=some o):b ∉ X.fs:=fun hb=>by
 have:=(ok.funs.mem hb).1
 rw [e] at this;cases this
theorem Inv.bs (I:Inv X pins U H s):∀ b o,X.base.get? b=some o->s.heap.get? b=some o/\H b=none:=fun b o e=>
 ⟨I.base.keep b o (I.ok.bs b o e).1 (I.ok.bs b o e).2 (I.ok.nofr e) (I.ok.noex b o e),I.base.free b o (I.ok.bs b o e).1 (I.ok.bs b o e).2 (I.ok.noex b o e)⟩
theorem Inv.bk (I:Inv X pins U H s):∀ b o,X.base.get? b=some o->s.heap.get? b=some o:=fun b o e=>(I.bs b o e).1
theorem Inv.mod (I:Inv X pins U H s):Mod X.K X.mg X.base:=I.ok.mod
theorem Inv.kIn (I:Inv X pins U H s):X.K.In s.heap:=I.ok.mod.kin.keeps I.bk
theorem Inv.lt (I:Inv X pins U H s):X.env.locals < s.heap.objs.size:=let ⟨_,hn,_⟩:=I.loc;hn.lt
theorem Inv.sz (I:Inv X pins U H s):X.s₀.heap.objs.size<=s.heap.objs.size:=Zm I.ok.above (Nat.le_of_lt I.lt)
theorem Inv.nofs (I:Inv X pins U H s) {a:Addr} (h:s.heap.objs.size<=a):a ∉ X.fs:=fun hb=>by
 obtain ⟨_,o,ho,_⟩:=I.ok.funs.mem hb
 exact absurd (Ze (Y5 ho) (Zm I.sz h)) (Z5 _)
theorem Inv.cne (I:Inv X pins U H s):∀ x c,X.env.cells.lookup x=some c->c≠X.env.locals:=fun x c e z=>by
 obtain ⟨v,o,ho,hd⟩:=I.cell x c e
 obtain ⟨m,⟨o',es,ep,ho',hd',_⟩,_⟩:=I.loc
 rw [z,ho'] at ho;cases ho;rw [hd'] at hd;cases hd
theorem Inv.funs (I:Inv X pins U H s):s.heap.FunFrames X.base X.outer:=by
 have all:∀ (l:List Env),(∀ b∈frs l,b∈X.fs)->X.s₀.heap.FunFrames X.base l->s.heap.FunFrames X.base l:=by
  intro l
  induction l with
  | nil=>intro _ _;trivial
  | cons env r ih=>
   intro hs hl
   obtain ⟨hk,⟨L,o,hf,hn,ho,hd⟩,hr⟩:=hl
   have hL:L∈X.fs:=hs L (by unfold frs;rw [Aay,hf];exact ZS)
   obtain ⟨sl,e⟩:=I.base.slot L o ho (I.ok.frf L hL) hL fun z=>I.ok.exfs L z hL
   exact ⟨hk,⟨L,_,hf,hn,e,hd⟩,ih (fun b hb=>hs b (by unfold frs;rw [Aay,hf];exact Zg _ hb)) hr⟩
 exact all X.outer (fun _ hb=>hb) I.ok.funs
theorem Inv.stack (I:Inv X pins U H s):s.heap.FunFrames X.base X.stack:=by
 rcases I.ok.stk with e | ⟨e,hf⟩
 ·rw [e];exact I.funs
 ·rw [e]
  obtain ⟨m,hn,_⟩:=I.loc
  refine .cons (by rw [I.ok.kind];decide) hf hn ?_ I.funs
  exact Heap.get?_none_of_le (Zm I.ok.bsz I.ok.above)
theorem Inv.stkSub (I:Inv X pins U H s):∀ b∈frs X.stack,b∈X.env.locals :: X.fs:=fun b hb=>by
 rcases I.ok.stk with e | ⟨e,hf⟩
 ·rw [e] at hb;exact Zg _ hb
 ·rw [e] at hb
  unfold frs at hb
  rw [Aay,hf] at hb
  exact hb
theorem Inv.stkFree (I:Inv X pins U H s):∀ b∈frs X.stack,H b=none:=fun b hb=>by
 rcases Y7.mp (I.stkSub b hb) with e | hb
 ·rw [e];exact I.free
 ·obtain ⟨_,o,ho,_⟩:=I.ok.funs.mem hb
  exact I.base.free b o ho (I.ok.frf b hb) fun z=>I.ok.exfs b z hb
theorem Inv.step {g':Array GenState} {t':Nat} {d':Drawn} {ch:List Addr} (I:Inv X pins U H s)
  (hch:∀ b∈ch,(b∈X.ex\/X.s₀.heap.objs.size<=b)/\b≠X.env.locals/\(∀ x c,X.env.cells.lookup x=some c->c≠b)/\∀ p∈X.pn ++ pins,p.1≠b)
  (keep:∀ b o,b≠X.env.locals->b ∉ X.fs->b ∉ ch->s.heap.get? b=some o->H b=none->h'.get? b=some o)
  (slot:∀ b o,b≠X.env.locals->b∈X.fs->b ∉ ch->s.heap.get? b=some o->H b=none->∃ sl,h'.get? b=some {o with slots:=sl}) (free:∀ b o,b ∉ ch->s.heap.get? b=some o->H b=none->H' b=none)
  (there:∀ b o,b ∉ ch->s.heap.get? b=some o->∃ o',h'.get? b=some o')
  (tups:∀ b xs,H b=some (.tup xs)->H' b=some (.tup xs)) (frzs:∀ b o u,H b=some (.frz o u)->H' b=some (.frz o u)) (tbls:∀ b ps,H b=some (.tbl ps)->∃ more,H' b=some (.tbl (ps ++ more)))
  (ns:∀ m,s.heap.Ns X.env.locals m->h'.Ns X.env.locals m) (hok:HOk X.prog X.w H' h') (hg:AllBare g'):
  Inv X pins U H' {s with heap:=h',gens:=g',drawn:=d',toks:=t'}:=by
 have neL:∀ b o,X.s₀.heap.get? b=some o->b≠X.env.locals:=fun b o e=>Zt (Ze (Y5 e) I.ok.above)
 have neC:∀ b o,X.s₀.heap.get? b=some o->b ∉ X.ex->b ∉ ch:=fun b o e hx hb=>by
  rcases (hch b hb).1 with z | z
  ·exact hx z
  ·exact absurd (Ze (Y5 e) z) (Z5 _)
 have cellK:∀ x c,X.env.cells.lookup x=some c->∀ v,s.heap.IsCell c v->h'.IsCell c v:=fun x c e v ⟨o,ho,hd⟩=>by
  have nch:c ∉ ch:=fun z=>(hch c z).2.2.1 x c e rfl
  by_cases hc:c∈X.fs
  ·obtain ⟨sl,q⟩:=slot c o (I.cne x c e) hc nch ho (I.freeC x c e)
   exact ⟨_,q,hd⟩
  ·exact ⟨o,keep c o (I.cne x c e) hc nch ho (I.freeC x c e),hd⟩
 refine ⟨I.ok,I.os,hg,⟨fun b o e n hb hx=>?_,fun b o e n hb hx=>?_,fun b o e n hx=>?_,fun b o e hx=>?_,fun b xs e=>tups b xs (I.base.tups b xs e),fun b o xs e=>frzs b o xs (I.base.frzs b o xs e),fun b ps e=>?_⟩,?_,fun x c e=>?_,?_,fun x c e=>?_,fun p hp=>?_,hok,I.len⟩
 ·exact keep b o (neL b o e) hb (neC b o e hx) (I.base.keep b o e n hb hx) (I.base.free b o e n hx)
 ·obtain ⟨sl,e1⟩:=I.base.slot b o e n hb hx
  obtain ⟨sl',e2⟩:=slot b _ (neL b o e) hb (neC b o e hx) e1 (I.base.free b o e n hx)
  exact ⟨sl',e2⟩
 ·obtain ⟨o',e1⟩:=I.base.there b o e hx
  exact free b o' (neC b o e hx) e1 (I.base.free b o e n hx)
 ·obtain ⟨o',e1⟩:=I.base.there b o e hx
  exact there b o' (neC b o e hx) e1
 ·obtain ⟨m1,e1⟩:=I.base.tbls b ps e
  obtain ⟨m2,e2⟩:=tbls b _ e1
  exact ⟨m1 ++ m2,by rw [e2,Array.append_assoc]⟩
 ·obtain ⟨m,hn,hl⟩:=I.loc
  refine ⟨m,ns m hn,fun i x v e1 e2 e3=>?_⟩
  obtain ⟨u,r,l⟩:=hl i x v e1 e2 e3
  refine ⟨u,r,?_⟩
  rcases l with l | ⟨k,c,e,z⟩
  ·exact .inl l
  ·exact .inr ⟨k,c,e,cellK x c e _ z⟩
 ·obtain ⟨v,z⟩:=I.cell x c e
  exact ⟨v,cellK x c e v z⟩
 ·obtain ⟨m,⟨o,_,_,ho,_⟩,_⟩:=I.loc
  exact free _ o (fun z=>(hch _ z).2.1 rfl) ho I.free
 ·obtain ⟨v,o,ho,hd⟩:=I.cell x c e
  exact free c o (fun z=>(hch c z).2.2.1 x c e rfl) ho (I.freeC x c e)
 ·obtain ⟨e,n,ne,nf,d⟩:=I.pin p hp
  have nch:p.1 ∉ ch:=fun z=>(hch p.1 z).2.2.2 p hp rfl
  exact ⟨keep p.1 p.2 ne nf nch e n,free p.1 p.2 nch e n,ne,nf,d⟩
theorem Inv.un {t':Nat} (I:Inv X pins U H s) (u:Un X.fs [] H H' s.heap h') (hok:HOk X.prog X.w H' h'):Inv X pins U H' {s with heap:=h',toks:=t'}:=by
 obtain ⟨m,⟨o,es,ep,ho,r⟩,_⟩:=id I.loc
 obtain ⟨sl,hL⟩:=u.any ho I.free (by simp)
 exact I.step (g':=s.gens) (d':=s.drawn) (ch:=[]) (fun _ z=>nomatch z) (fun b o _ hb _ e n=>u.keep b o e n hb (by simp)) (fun b o _ hb _ e n=>u.slot b o e n hb (by simp)) (fun b o _ e n=>u.free b o e n (by simp)) (fun b o _ e=>u.there b o e (by simp)) u.tups u.frzs u.tbls (fun m' hm=>by
  obtain ⟨o',es',ep',ho',r'⟩:=hm
  rw [ho] at ho';cases ho'
  exact ⟨_,es',ep',hL,r'⟩) hok I.bare
theorem Inv.call {g':Array GenState} {t':Nat} {d':Drawn} {ch:List Addr} (I:Inv X pins U H s) (u:Un (frs X.stack) ch H H' s.heap h') (hok:HOk X.prog X.w H' h') (hg:AllBare g')
  (hch:∀ b∈ch,(b∈X.ex\/X.s₀.heap.objs.size<=b)/\b≠X.env.locals/\(∀ x c,X.env.cells.lookup x=some c->c≠b)/\∀ p∈X.pn ++ pins,p.1≠b):
  Inv X pins U H' {s with heap:=h',gens:=g',drawn:=d',toks:=t'}:=by
 obtain ⟨m,⟨o,es,ep,ho,r⟩,_⟩:=id I.loc
 obtain ⟨sl,hL⟩:=u.any ho I.free fun z=>(hch _ z).2.1 rfl
 exact I.step (ch:=ch) hch (fun b o hL hb hc e n=>u.keep b o e n (fun z=>(Y7.mp (I.stkSub b z)).elim hL hb) hc) (fun b o _ _ hc e n=>u.any e n hc) (fun b o hc e n=>u.free b o e n hc) (fun b o hc e=>u.there b o e hc) u.tups u.frzs u.tbls (fun m' hm=>by
  obtain ⟨o',es',ep',ho',r'⟩:=hm
  rw [ho] at ho';cases ho'
  exact ⟨_,es',ep',hL,r'⟩) hok hg
theorem Inv.turned {t':Nat} {it:Addr} (I:Inv X pins U H s) (k:∀ b o,b≠it->s.heap.get? b=some o->h'.get? b=some o) (hn:H it=none) (hL:it≠X.env.locals)
  (h1:it∈X.ex\/X.s₀.heap.objs.size<=it) (h2:∀ x c,X.env.cells.lookup x=some c->c≠it) (h3:∀ p∈X.pn ++ pins,p.1≠it):Inv X pins U H {s with heap:=h',toks:=t'}:=by
 have nit:∀ b u,H b=some u->b≠it:=fun b u e z=>by rw [z,hn] at e;cases e
 refine I.step (g':=s.gens) (d':=s.drawn) (ch:=[it]) (fun b hb=>?_) (fun b o _ _ hc e _=>k b o (fun z=>hc (by simp [z])) e) (fun b o _ _ hc e _=>⟨o.slots,k b o (fun z=>hc (by simp [z])) e⟩) (fun _ _ _ _ n=>n)
  (fun b o hc e=>⟨o,k b o (fun z=>hc (by simp [z])) e⟩) (fun _ _ e=>e) (fun _ _ _ e=>e) (fun b ps e=>⟨#[],by rw [e];simp⟩) (fun m hm=>?_) (fun b u e=>?_) I.bare
 ·have e:b=it:=by simpa using hb
  subst e
  exact ⟨h1,hL,h2,h3⟩
 ·obtain ⟨o,es,ep,ho,r⟩:=hm
  exact ⟨o,es,ep,k _ o (Ne.symm hL) ho,r⟩
 ·refine (I.hok b u e).stay (fun c v hc q=>k c v ?_ q) (fun _ q=>q) fun _ _ q=>q
  rcases hc with z | z
  ·rw [z];exact nit b u e
  ·exact nit c _ z
theorem Inv.tok (I:Inv X pins U H s) (t:Nat):Inv X pins U H {s with toks:=t}:=I.un (h':=s.heap) (t':=t) Un.refl I.hok
theorem Inv.kept {t':Nat} (I:Inv X pins U H s) (k:∀ b u,s.heap.get? b=some u->h'.get? b=some u):Inv X pins U H {s with heap:=h',toks:=t'}:=I.un (Un.kept k) (I.hok.kept k)
theorem Inv.laid {a:Addr} {o:HO} {t':Nat} (I:Inv X pins U H s) (k:∀ b u,s.heap.get? b=some u->h'.get? b=some u) (hp:s.heap.objs.size<=a) (new:ObjOk X.prog X.w (upd H a o) h' a o):
  Inv X pins U (upd H a o) {s with heap:=h',toks:=t'}:=I.un (Un.laid k hp (I.hok.fresh hp)) (I.hok.laid k hp new)
theorem Inv.write {x e:Addr} {o:HO} {t':Nat} (I:Inv X pins U H s) (mu:WK (H x)) (he:e=x\/H e=some (.own x)) (k:∀ b u,b≠e->s.heap.get? b=some u->h'.get? b=some u) (heo:∃ u,h'.get? e=some u)
  (new:ObjOk X.prog X.w (upd H x o) h' x o):Inv X pins U (upd H x o) {s with heap:=h',toks:=t'}:=I.un (Un.write mu he k heo) (I.hok.write mu he k heo new)
theorem Inv.weak {U':List (Option V)} (I:Inv X pins U H s) (hl:U'.length=U.length) (w:∀ (i:Nat) v,U'[i]?=some (some v)->U[i]?=some (some v)):Inv X pins U' H s:=
 ⟨I.ok,I.os,I.bare,I.base,let ⟨m,hn,hl'⟩:=I.loc;⟨m,hn,fun i x v e1 e2 e3=>hl' i x v e1 (w i v e2) e3⟩,I.cell,I.free,I.freeC,I.pin,I.hok,hl.trans I.len⟩
theorem Inv.pins_of {pins':List (Addr×Obj)} (I:Inv X pins U H s) (h:∀ p∈pins',s.heap.get? p.1=some p.2/\H p.1=none/\p.1≠X.env.locals/\p.1 ∉ X.fs/\∀ v,p.2.data≠.cell v):Inv X pins' U H s:=
 ⟨I.ok,I.os,I.bare,I.base,I.loc,I.cell,I.free,I.freeC,fun p hp=>(Z0.mp hp).elim (fun z=>I.pin p (Aa9 _ z)) (h p),I.hok,I.len⟩
theorem vW {N:List Str} (hN:N.Nodup) {i j:Nat} {x:Str} (a:N[i]?=some x) (b:N[j]?=some x):i=j:=by
 obtain ⟨h1,e1⟩:=YW.mp a
 obtain ⟨h2,e2⟩:=YW.mp b
 exact (List.getElem_inj hN).mp (e1.trans e2.symm)
theorem Hq {M:Model} {A:Around} {E:Value->Shared->Prop} {i:Nat} {x:Str} {v:V} {u:Value} {Q:Unit->Shared->Prop} (I:Inv X pins U H s) (hN:X.N.Nodup) (hi:X.N[i]?=some x) (hx:Loc X.env.scope x) (r:RelV v u)
  (h:∀ s',Inv X pins (U.set i (some v)) H s'->(∃ a,Heap.SameBut a s.heap s'.heap/\(a=X.env.locals\/X.env.cells.lookup x=some a))->Q () s') (hf:autoParam (X.fn x=true\/X.env.scope.names.lookup x=some .local) L2.auto1._auto_1):wpAny M A (storeName X.env x u) Q E s:=by
 obtain ⟨m,hn,hl⟩:=id I.loc
 have hcls:(X.env.scope.kind == .class || (X.env.scope.kind == .module && X.env.locals != X.env.globals))=false:=by rw [I.ok.kind];rfl
 have hiU:i < U.length:=by rw [I.len];exact (YW.mp hi).1
 have cne:=I.cne
 have tracked:∀ {a:Addr} {h':Heap},(∃ o,s.heap.get? a=some o/\H a=none)->Heap.SameBut a s.heap h'->HOk X.prog X.w H h':=fun {a h'} ha hs b ob e=>by
  obtain ⟨_,_,hfree⟩:=ha
  refine (I.hok b ob e).stay (fun c w' hc q=>(hs.2 c ?_).trans q) (fun _ q=>q) fun _ _ q=>q
  rintro rfl
  rcases hc with rfl | hc
  ·rw [hfree] at e;cases e
  ·rw [hfree] at hc;cases hc
 rcases hx with hk | hk
 ·refine wpAny_storeName_local hk hn (fun h' hn' hs=>?_) hcls
  obtain ⟨oL,_,_,hoL,_⟩:=id hn
  refine h _ ⟨I.ok,I.os,I.bare,⟨fun b o e n hb hx=>?_,fun b o e n hb hx=>?_,I.base.free,fun b o e hx=>?_,I.base.tups,I.base.frzs,I.base.tbls⟩,⟨_,hn',fun j y v' e1 e2 e3=>?_⟩,fun y c e=>?_,I.free,I.freeC,fun p hp=>?_,tracked ⟨oL,hoL,I.free⟩ hs,by simpa using I.len⟩ ⟨_,hs,.inl rfl⟩
  ·exact (hs.2 b (Zt (Ze (Y5 e) I.ok.above))).trans (I.base.keep b o e n hb hx)
  ·obtain ⟨sl,e1⟩:=I.base.slot b o e n hb hx
   exact ⟨sl,(hs.2 b (Zt (Ze (Y5 e) I.ok.above))).trans e1⟩
  ·obtain ⟨o',e1⟩:=I.base.there b o e hx
   exact ⟨o',(hs.2 b (Zt (Ze (Y5 e) I.ok.above))).trans e1⟩
  ·by_cases hj:j=i
   ·subst hj
    rw [hi] at e1;cases e1
    rw [ZW hiU] at e2
    cases e2
    exact ⟨u,r,.inl ⟨hk,by simp⟩⟩
   ·rw [ZD (Ne.symm hj)] at e2
    obtain ⟨u',r',q⟩:=hl j y v' e1 e2 e3
    refine ⟨u',r',?_⟩
    rcases q with ⟨k,e⟩ | ⟨k,c,e,z⟩
    ·refine .inl ⟨k,?_⟩
     have:y≠x:=fun e=>hj (vW hN e1 (e ▸ hi))
     simp [this,e]
    ·exact .inr ⟨k,c,e,z.sameBut hs (cne y c e)⟩
  ·obtain ⟨w',z⟩:=I.cell y c e
   exact ⟨w',z.sameBut hs (cne y c e)⟩
  ·obtain ⟨e,n,ne,nf,d⟩:=I.pin p hp
   exact ⟨(hs.2 p.1 ne).trans e,n,ne,nf,d⟩
 ·have hfn:X.fn x=true:=by
   rcases hf with z | z
   ·exact z
   ·rw [z] at hk;cases hk
  obtain ⟨c,hc⟩:=I.ok.has x (.inl hk)
  obtain ⟨w',z⟩:=I.cell x c hc
  refine wpAny_storeName_cell I.ok.kind hk hc z (fun h' hc' hs=>?_)
  obtain ⟨oc,hoc,hocd⟩:=id z
  refine h {s with heap:=h'} ⟨I.ok,I.os,I.bare,⟨fun b o e n hb hx=>?_,fun b o e n hb hx=>?_,I.base.free,fun b o e hx=>?_,I.base.tups,I.base.frzs,I.base.tbls⟩,⟨m,hn.sameBut hs (Ne.symm (cne x c hc)),fun j y v' e1 e2 e3=>?_⟩,fun y c' e=>?_,I.free,I.freeC,fun p hp=>?_,tracked ⟨oc,hoc,I.freeC x c hc⟩ hs,by simpa using I.len⟩ ⟨c,hs,.inr hc⟩
  ·exact (hs.2 b (Zt (Ze (Y5 e) (I.ok.cab x c hfn hc)))).trans (I.base.keep b o e n hb hx)
  ·obtain ⟨sl,e1⟩:=I.base.slot b o e n hb hx
   exact ⟨sl,(hs.2 b (Zt (Ze (Y5 e) (I.ok.cab x c hfn hc)))).trans e1⟩
  ·obtain ⟨o',e1⟩:=I.base.there b o e hx
   exact ⟨o',(hs.2 b (Zt (Ze (Y5 e) (I.ok.cab x c hfn hc)))).trans e1⟩
  ·by_cases hj:j=i
   ·subst hj
    rw [hi] at e1;cases e1
    rw [ZW hiU] at e2
    cases e2
    exact ⟨u,r,.inr ⟨.inl hk,c,hc,hc'⟩⟩
   ·rw [ZD (Ne.symm hj)] at e2
    obtain ⟨u',r',q⟩:=hl j y v' e1 e2 e3
    refine ⟨u',r',?_⟩
    rcases q with q | ⟨k,c',e,z'⟩
    ·exact .inl q
    ·refine .inr ⟨k,c',e,z'.sameBut hs ?_⟩
     rintro rfl
     exact hj (vW hN e1 (I.ok.inj _ _ _ e hc ▸ hi))
  ·by_cases hcc:c'=c
   ·subst hcc;exact ⟨_,hc'⟩
   ·obtain ⟨w2,z2⟩:=I.cell y c' e
    exact ⟨w2,z2.sameBut hs hcc⟩
  ·obtain ⟨e,n,ne,nf,d⟩:=I.pin p hp
   refine ⟨(hs.2 p.1 ?_).trans e,n,ne,nf,d⟩
   intro q
   rw [q,hoc] at e
   have q':oc=p.2:=Zv e
   exact d w' (by rw [← q'];exact hocd)
theorem pC {M:Model} {A:Around} {E:Value->Shared->Prop} {i:Nat} {x:Str} {v:V} {u:Value} {Q:Unit->Shared->Prop} (I:Inv X pins U H s) (hN:X.N.Nodup) (hi:X.N[i]?=some x) (hx:Loc X.env.scope x) (r:RelV v u)
  (h:∀ s',Inv X pins (U.set i (some v)) H s'->Q () s') (hf:autoParam (X.fn x=true\/X.env.scope.names.lookup x=some .local) L2.auto1._auto_1):wpAny M A (storeName X.env x u) Q E s:=
 Hq I hN hi hx r (fun s' I' _=>h s' I') hf
theorem Inv.call' {s':Shared} {ch:List Addr} (I:Inv X pins U H s) (ho:s'.os=s.os) (u:Un (frs X.stack) ch H H' s.heap s'.heap) (hok:HOk X.prog X.w H' s'.heap) (hg:AllBare s'.gens)
  (hch:∀ b∈ch,(b∈X.ex\/X.s₀.heap.objs.size<=b)/\b≠X.env.locals/\(∀ x c,X.env.cells.lookup x=some c->c≠b)/\∀ p∈X.pn ++ pins,p.1≠b):Inv X pins U H' s':=by
 obtain ⟨h',g',d',t',o'⟩:=s'
 have e:o'=s.os:=ho
 subst e
 exact I.call (g':=g') (t':=t') (d':=d') u hok hg hch
end
abbrev XK:=Value->Option Addr->Hp->Prop
abbrev St:=List (Option V)
abbrev VK:=V->Hp->Prop
abbrev TE:=St->Hp->VK->Prop
abbrev TT:=St->Hp->(Bool->Hp->Prop)->Prop
abbrev TA:=St->Hp->(List V->Hp->Prop)->Prop
structure Ends where
 nx:St->Hp->Prop
 rt:VK
 bk:St->Hp->Prop:=fun _ _=>False
 ct:St->Hp->Prop:=fun _ _=>False
abbrev TS:=Ends->St->Hp->Prop
def EP (X:Cx) (pins:List (Addr×Obj)) (U:St) (Q:VK) (u:Value) (s':Shared):Prop:=∃ v H',Inv X pins U H' s'/\RelV v u/\Q v H'
def TP (X:Cx) (pins:List (Addr×Obj)) (U:St) (Q:Bool->Hp->Prop) (b:Bool) (s':Shared):Prop:=∃ H',Inv X pins U H' s'/\Q b H'
def AP (X:Cx) (pins:List (Addr×Obj)) (U:St) (Q:List V->Hp->Prop) (us:List Value) (s':Shared):Prop:=∃ vs H',Inv X pins U H' s'/\Vals vs us/\Q vs H'
def SP (X:Cx) (pins:List (Addr×Obj)) (D:Ends) (f:Flow) (s':Shared):Prop:=
 match f with
 | .next=>∃ U' H',Inv X pins U' H' s'/\D.nx U' H'
 | .brk=>∃ U' H',Inv X pins U' H' s'/\D.bk U' H'
 | .cont=>∃ U' H',Inv X pins U' H' s'/\D.ct U' H'
 | .ret u=>∃ v U' H',Inv X pins U' H' s'/\RelV v u/\D.rt v H'
def PE (X:Cx) (e:Expr) (t:TE):Prop:=
 ∀ (pins:List (Addr×Obj)) (s:Shared) (U:St) (H:Hp) (Q:VK),Inv X pins U H s->t U H Q->wpAny (model X.prog X.w) X.A (eval e X.env) (EP X pins U Q) X.xe s
def PT (X:Cx) (e:Expr) (t:TT):Prop:=
 ∀ (pins:List (Addr×Obj)) (s:Shared) (U:St) (H:Hp) (Q:Bool->Hp->Prop),Inv X pins U H s->t U H Q->wpAny (model X.prog X.w) X.A (isTrue e X.env (eval e X.env)) (TP X pins U Q) X.xe s
def PW (X:Cx) (e:Expr) (t:TT):Prop:=
 ∀ (whole:Sem Value) (pins:List (Addr×Obj)) (s:Shared) (U:St) (H:Hp) (Q:Bool->Hp->Prop),Inv X pins U H s->t U H Q->wpAny (model X.prog X.w) X.A (isTrue e X.env whole) (TP X pins U Q) X.xe s
theorem PW.pt {X:Cx} {e:Expr} {t:TT} (h:PW X e t):PT X e t:=h _
def PA (X:Cx) (es:List Expr) (t:TA):Prop:=
 ∀ (pos:Pos) (pins:List (Addr×Obj)) (s:Shared) (U:St) (H:Hp) (Q:List V->Hp->Prop),Inv X pins U H s->t U H Q->wpAny (model X.prog X.w) X.A (spliced (backTo pos (starEach es X.env))) (AP X pins U Q) X.xe s
def PS (X:Cx) (st:Stmt) (t:TS):Prop:=
 ∀ (pins:List (Addr×Obj)) (s:Shared) (U:St) (H:Hp) (D:Ends),Inv X pins U H s->t D U H->wpAny (model X.prog X.w) X.A (exec st X.env) (SP X pins D) X.xe s
def PSs (X:Cx) (st:List Stmt) (t:TS):Prop:=
 ∀ (pins:List (Addr×Obj)) (s:Shared) (U:St) (H:Hp) (D:Ends),Inv X pins U H s->t D U H->wpAny (model X.prog X.w) X.A (execs st X.env) (SP X pins D) X.xe s
theorem dW {α:Type} {t:Sem α} {Q Q':α->Shared->Prop} {M:Model} {A:Around} {E:Value->Shared->Prop} {s:Shared} (h:wpAny M A t Q E s) (hQ:∀ a s,Q a s->Q' a s):wpAny M A t Q' E s:=ZM h hQ fun _ _ x=>x
section
variable {X:Cx}
def qW (i:Nat):TE:=fun U H Q=>∃ v,U[i]?=some (some v)/\Q v H
def tC (v:V):TE:=fun _ H Q=>Q v H
theorem zp {i:Nat} {x:Str} {pos:Pos} (hN:X.N[i]?=some x) (hv:WL X.env.scope x) (hd:autoParam ((x == ("__debug__":Str))=false) L2.auto2._auto_1) (hcd:autoParam ((x == ("__classdict__":Str))=false) L2.auto2._auto_1):PE X (.Name x pos) (qW i):=by
 intro pins s U H Q I h
 obtain ⟨v,e,h⟩:=h
 obtain ⟨m,hn,hl⟩:=I.loc
 obtain ⟨u,r,l⟩:=hl i x v hN e hv
 have fin:EP X pins U Q u s:=⟨v,H,I,r,h⟩
 rcases l with ⟨hk,hm⟩ | ⟨hk,c,hc,hcell⟩
 ·exact wpAny_Name (wpAny_loadName_local I.ok.kind hk hn hm fin) hd
 ·rcases hk with hk | hk
  ·exact wpAny_Name (wpAny_loadName_cell I.ok.kind hk hc hcell fin) hd
  ·exact wpAny_Name (wpAny_loadName_free I.ok.kind hk hc hcell fin hcd) hd
theorem TF {i j pos}:PE X (.Constant (.int i) j pos) (tC (.int i)):=fun _ _ _ H _ I h=>wpAny_Constant_int ⟨.int i,H,I.tok _,⟨_,rfl⟩,h⟩
theorem WM {b j pos}:PE X (.Constant (.bool b) j pos) (tC (.bl b)):=fun _ _ _ H _ I h=>Constant_bool ⟨.bl b,H,I,rfl,h⟩
theorem TJ {j pos}:PE X (.Constant .none j pos) (tC .non):=fun _ _ _ H _ I h=>Constant_none ⟨.non,H,I,rfl,h⟩
theorem TQ {x j pos}:PE X (.Constant (.str x) j pos) (tC (.str x)):=fun _ _ _ H _ I h=>Calls.Constant_str ⟨.str x,H,I.tok _,⟨_,rfl⟩,h⟩
def Gl (X:Cx) (x:Str):Prop:=X.env.kindOf x=some .globalImplicit
theorem lZ {E:Value->Shared->Prop} {pins:List (Addr×Obj)} {s:Shared} {U:St} {H:Hp} {x:Str} {u:Value} {pos:Pos} {Q:Value->Shared->Prop} (I:Inv X pins U H s) (hg:Gl X x) (hm:X.mg x=some u) (h:Q u s)
  (hd:autoParam ((x == ("__debug__":Str))=false) L2.auto2._auto_1):wpAny (model X.prog X.w) X.A (eval (.Name x pos) X.env) Q E s:=
 Calls.Name_function_global I.ok.kind hg (Calls.loadGlobal_global (by rw [I.ok.glob];exact I.mod.glob.keeps I.bk) hm h) hd
theorem jc {E:Value->Shared->Prop} {pins:List (Addr×Obj)} {s:Shared} {U:St} {H:Hp} {x:Str} {u:Value} {pos:Pos} {Q:Value->Shared->Prop} (I:Inv X pins U H s) (hg:Gl X x) (hm:X.mg x=none) (hv:bootBuiltins x=some u) (h:Q u s)
  (hn:autoParam (x≠"__name__") L2.auto2._auto_1) (hd:autoParam ((x == ("__debug__":Str))=false) L2.auto2._auto_1):wpAny (model X.prog X.w) X.A (eval (.Name x pos) X.env) Q E s:=by
 obtain ⟨mb,h1,h2⟩:=I.mod.blt
 exact Calls.Name_function_global I.ok.kind hg (Calls.loadGlobal_builtin (by rw [I.ok.glob];exact I.mod.glob.keeps I.bk) hm (by rw [I.ok.blt];exact h1.keeps I.bk) ((h2 x hn).trans hv) h) hd
theorem zq {x:Str} {v:V} {u:Value} {pos:Pos} (hg:Gl X x) (hm:X.mg x=some u) (r:RelV v u) (hd:autoParam ((x == ("__debug__":Str))=false) L2.auto2._auto_1):PE X (.Name x pos) (tC v):=
 fun _ _ _ H _ I h=>lZ I hg hm ⟨v,H,I,r,h⟩ hd
theorem O8 {x:Str} {v:V} {u:Value} {pos:Pos} (hg:Gl X x) (hm:X.mg x=none) (hv:bootBuiltins x=some u) (r:RelV v u) (hn:autoParam (x≠"__name__") L2.auto2._auto_1) (hd:autoParam ((x == ("__debug__":Str))=false) L2.auto2._auto_1):PE X (.Name x pos) (tC v):=
 fun _ _ _ H _ I h=>jc I hg hm hv ⟨v,H,I,r,h⟩ hn hd
variable {a b:Expr} {ta tb:TE} {pos:Pos}
def tB (t:TE):TT:=fun U H Q=>t U H fun x H1=>∃ c,x= .bl c/\Q c H1
theorem TV {e:Expr} {t:TE} (h:PE X e t) (he:autoParam (∀ whole,isTrue e X.env whole=(do let v ← whole;standAt e.pos;holding [v] (truthy v))) L2.auto3._auto_1):PT X e (tB t):=by
 intro pins s U H Q I hw
 refine isTrue_plain (dW (h pins s U H _ I hw) fun v s1 qq0=>?_) (he _)
 obtain ⟨x,H1,I1,r1,q1⟩:=qq0
 obtain ⟨d,rfl,q⟩:=q1
 cases r1
 exact Z1 ⟨H1,I1,q⟩
variable {tA tB':TT} {rest:List Expr}
def O9 (t u:TT):TT:=fun U H Q=>t U H fun c H1=>if c=true then u U H1 Q else Q false H1
def tOr (t u:TT):TT:=fun U H Q=>t U H fun c H1=>if c=true then Q true H1 else u U H1 Q
def TX (t:TT):TT:=fun U H Q=>t U H fun c H1=>Q (!c) H1
theorem Pa (ha:PT X a tA):PW X (.BoolOp .And [a] pos) tA:=by
 intro wh pins s U H Q I h
 refine isTrue_and (dW (ha pins s U H Q I h) fun c s1 e=>?_)
 cases c with
 | true=>exact isTrue_and_nil e
 | false=>exact e
theorem TY (ha:PT X a tA):PW X (.BoolOp .Or [a] pos) tA:=by
 intro wh pins s U H Q I h
 refine isTrue_or (dW (ha pins s U H Q I h) fun c s1 e=>?_)
 cases c with
 | false=>exact isTrue_or_nil e
 | true=>exact e
theorem T4 (ha:PT X a tA) (hb:PW X (.BoolOp .And (b :: rest) pos) tB'):PW X (.BoolOp .And (a :: b :: rest) pos) (O9 tA tB'):=by
 intro wh pins s U H Q I h
 refine isTrue_and (dW (ha pins s U H _ I h) fun c s1 qq0=>?_)
 obtain ⟨H1,I1,q1⟩:=qq0
 cases c with
 | true=>exact hb wh pins s1 U H1 Q I1 q1
 | false=>exact ⟨H1,I1,q1⟩
theorem WN (ha:PT X a tA) (hb:PW X (.BoolOp .Or (b :: rest) pos) tB'):PW X (.BoolOp .Or (a :: b :: rest) pos) (tOr tA tB'):=by
 intro wh pins s U H Q I h
 refine isTrue_or (dW (ha pins s U H _ I h) fun c s1 qq0=>?_)
 obtain ⟨H1,I1,q1⟩:=qq0
 cases c with
 | true=>exact ⟨H1,I1,q1⟩
 | false=>exact hb wh pins s1 U H1 Q I1 q1
theorem T5 (ha:PT X a tA):PT X (.UnaryOp .Not a pos) (TX tA):=by
 intro pins s U H Q I h
 exact isTrue_not (ha pins s U H (fun c H1=>Q (!c) H1) I h)
def JZ (ta tb:TE):TE:=fun U H Q=>ta U H fun x H1=>∃ c,x= .bl c/\if c=true then tb U H1 Q else Q (.bl false) H1
def T6 (ta tb:TE):TE:=fun U H Q=>ta U H fun x H1=>∃ c,x= .bl c/\if c=true then Q (.bl true) H1 else tb U H1 Q
def J5 (ta:TE):TE:=fun U H Q=>ta U H fun x H1=>∃ c,x= .bl c/\Q (.bl (!c)) H1
theorem T7 {op} {t:TE} (h:PE X a t):PE X (.BoolOp op [a] pos) t:=fun pins s U H Q I hw=>BoolOp_one (h pins s U H Q I hw)
theorem T8 (ha:PE X a ta) (hb:PE X (.BoolOp .And (b :: rest) pos) tb):PE X (.BoolOp .And (a :: b :: rest) pos) (JZ ta tb):=by
 intro pins s U H Q I h
 refine BoolOp_and (dW (ha pins s U H _ I h) fun v s1 qq0=>?_)
 obtain ⟨x,H1,I1,r1,q1⟩:=qq0
 obtain ⟨c,rfl,q1⟩:=q1
 cases r1
 refine Z1 ?_
 cases c with
 | true=>exact hb pins s1 U H1 Q I1 q1
 | false=>exact ⟨.bl false,H1,I1,rfl,q1⟩
theorem WP (ha:PE X a ta) (hb:PE X (.BoolOp .Or (b :: rest) pos) tb):PE X (.BoolOp .Or (a :: b :: rest) pos) (T6 ta tb):=by
 intro pins s U H Q I h
 refine BoolOp_or (dW (ha pins s U H _ I h) fun v s1 qq0=>?_)
 obtain ⟨x,H1,I1,r1,q1⟩:=qq0
 obtain ⟨c,rfl,q1⟩:=q1
 cases r1
 refine Z1 ?_
 cases c with
 | false=>exact hb pins s1 U H1 Q I1 q1
 | true=>exact ⟨.bl true,H1,I1,rfl,q1⟩
theorem T9 (ha:PE X a ta):PE X (.UnaryOp .Not a pos) (J5 ta):=by
 intro pins s U H Q I h
 refine UnaryOp_ (dW (ha pins s U H _ I h) fun v s1 qq0=>?_)
 obtain ⟨x,H1,I1,r1,q1⟩:=qq0
 obtain ⟨c,rfl,q1⟩:=q1
 cases r1
 exact not_of (Z1 ⟨.bl (!c),H1,I1,rfl,q1⟩)
def tIf (t:TT) (ta tb:TE):TE:=fun U H Q=>t U H fun c H1=>if c=true then ta U H1 Q else tb U H1 Q
theorem J6 {c:Expr} (hc:PT X c tA) (ha:PE X a ta) (hb:PE X b tb):PE X (.IfExp c a b pos) (tIf tA ta tb):=by
 intro pins s U H Q I h
 refine wpAny_IfExp (dW (hc pins s U H _ I h) fun d s1 qq0=>?_)
 obtain ⟨H1,I1,q1⟩:=qq0
 cases d with
 | true=>exact ha pins s1 U H1 Q I1 q1
 | false=>exact hb pins s1 U H1 Q I1 q1
end
def SqL (K:W.Frag) (H:Hp) (a:Addr) (xs:List V):Prop:=
 Rd H a (.lst xs)\/
  ∃ (o:Obj) (its:Array Value) (n:Nat),K.lookup a=some o/\o.cls= .type "list"/\o.dict=none/\o.data= .seq its n/\its.size<=sizeLine/\Vals xs its.toList
def SqT (K:W.Frag) (H:Hp) (a:Addr) (xs:List V):Prop:=
 Rd H a (.tup xs)\/
  ∃ (o:Obj) (its:Array Value) (n:Nat),K.lookup a=some o/\o.cls= .type "tuple"/\o.data= .seq its n/\its.size<=sizeLine/\Vals xs its.toList
def absV:Value->Option V
 | .none=>some .non
 | .bool b=>some (.bl b)
 | .int i _=>some (.int i)
 | .str x _=>some (.str x)
 | .bytes b _=>some (.byt b)
 | .float b _=>some (.flt b)
 | .ref a=>some (.ref a)
 | .type n=>some (.ty n)
 | _=>none
theorem RelV.abs {x:V} {u:Value} (r:RelV x u):absV u=some x:=by
 cases x with
 | non=>cases r;rfl
 | bl _=>cases r;rfl
 | int _=>obtain ⟨t,rfl⟩:=r;rfl
 | str _=>obtain ⟨t,rfl⟩:=r;rfl
 | byt _=>obtain ⟨t,rfl⟩:=r;rfl
 | flt _=>obtain ⟨t,rfl⟩:=r;rfl
 | ref _=>cases r;rfl
 | ty _=>cases r;rfl
theorem RelV.inj {x y:V} {u:Value} (r:RelV x u) (q:RelV y u):x=y:=Zv (r.abs.symm.trans q.abs)
theorem Vals.inj:∀ {xs ys:List V} {us:List Value},Vals xs us->Vals ys us->xs=ys
 | _,_,_,.nil,.nil=>rfl
 | _,_,_,.cons r t,.cons r' t'=>by rw [r.inj r',Vals.inj t t']
section
variable {X:Cx} {pins:List (Addr×Obj)} {U:St} {H:Hp} {s:Shared} {a:Addr} {xs ys:List V}
theorem SqL.of {K:W.Frag} (h:H a=some (.lst xs)):SqL K H a xs:=.inl (.inl h)
theorem SqT.of {K:W.Frag} (h:H a=some (.tup xs)):SqT K H a xs:=.inl (.inl h)
theorem Inv.list (I:Inv X pins U H s) (h:SqL X.K H a xs):∃ its:List Value,Vals xs its/\PlainL s.heap a its.toArray/\xs.length<=sizeLine:=by
 rcases h with h | ⟨o,its,n,hk,hc,hd,hs,hz,r⟩
 ·obtain ⟨z,its,n,r,e⟩:=h.ok I.hok
  exact ⟨its,r,⟨_,n,e,rfl,rfl,rfl⟩,z⟩
 ·refine ⟨its.toList,r,⟨o,n,I.kIn a o hk,hc,hd,by simpa using hs⟩,?_⟩
  have e:=r.length
  simp only [Zi] at e
  omega
theorem Inv.tuple (I:Inv X pins U H s) (h:SqT X.K H a xs):∃ its:List Value,Vals xs its/\IsTup s.heap a its.toArray/\xs.length<=sizeLine:=by
 rcases h with h | ⟨o,its,n,hk,hc,hs,hz,r⟩
 ·obtain ⟨z,its,r,p⟩:=h.ok I.hok
  exact ⟨its,r,p,z⟩
 ·refine ⟨its.toList,r,⟨o,I.kIn a o hk,hc,n,by simpa using hs⟩,?_⟩
  have e:=r.length
  simp only [Zi] at e
  omega
theorem Inv.list_inj (I:Inv X pins U H s) (h:SqL X.K H a xs) (h':SqL X.K H a ys):xs=ys:=by
 obtain ⟨its,r,⟨o,n,e,_,_,d⟩,_⟩:=I.list h
 obtain ⟨its',r',⟨o',n',e',_,_,d'⟩,_⟩:=I.list h'
 rw [e] at e';cases e'
 rw [d] at d'
 injection d' with d1 _
 have:its=its':=by simpa using congrArg Array.toList d1
 subst this
 exact r.inj r'
theorem Inv.tuple_inj (I:Inv X pins U H s) (h:SqT X.K H a xs) (h':SqT X.K H a ys):xs=ys:=by
 obtain ⟨its,r,⟨o,e,_,n,d⟩,_⟩:=I.tuple h
 obtain ⟨its',r',⟨o',e',_,n',d'⟩,_⟩:=I.tuple h'
 rw [e] at e';cases e'
 rw [d] at d'
 injection d' with d1 _
 have:its=its':=by simpa using congrArg Array.toList d1
 subst this
 exact r.inj r'
end
abbrev Cx.wish (X:Cx) (E:Value->Shared->Prop):Cx:={X with xe:=E}
abbrev Cx.nox (X:Cx):Cx:=X.wish fun _ _=>False
theorem Cx.Ok.wish {X:Cx} (ok:X.Ok) (E:Value->Shared->Prop):(X.wish E).Ok:=
 ⟨ok.mod,ok.kind,ok.glob,ok.blt,ok.above,ok.inj,ok.has,ok.cab,ok.hd,ok.frames,ok.stk,ok.exf,ok.bs,ok.bsz,ok.noex,ok.exfs,ok.funs,ok.frf⟩
theorem Cx.Ok.unwish {X:Cx} {E:Value->Shared->Prop} (ok:(X.wish E).Ok):X.Ok:=
 ⟨ok.mod,ok.kind,ok.glob,ok.blt,ok.above,ok.inj,ok.has,ok.cab,ok.hd,ok.frames,ok.stk,ok.exf,ok.bs,ok.bsz,ok.noex,ok.exfs,ok.funs,ok.frf⟩
section
variable {X:Cx} {pins:List (Addr×Obj)} {U:St} {H:Hp} {s:Shared} {E:Value->Shared->Prop}
theorem Inv.wish (I:Inv X pins U H s) (E:Value->Shared->Prop):Inv (X.wish E) pins U H s:=⟨I.ok.wish E,I.os,I.bare,I.base,I.loc,I.cell,I.free,I.freeC,I.pin,I.hok,I.len⟩
theorem Inv.unwish (I:Inv (X.wish E) pins U H s):Inv X pins U H s:=⟨I.ok.unwish,I.os,I.bare,I.base,I.loc,I.cell,I.free,I.freeC,I.pin,I.hok,I.len⟩
theorem SP.unwish {D:Ends} {f:Flow} {s':Shared} (h:SP (X.wish E) pins D f s'):SP X pins D f s':=by
 cases f with
 | next=>obtain ⟨U',H',I,q⟩:=h;exact ⟨U',H',I.unwish,q⟩
 | brk=>obtain ⟨U',H',I,q⟩:=h;exact ⟨U',H',I.unwish,q⟩
 | cont=>obtain ⟨U',H',I,q⟩:=h;exact ⟨U',H',I.unwish,q⟩
 | ret u=>obtain ⟨v,U',H',I,r,q⟩:=h;exact ⟨v,U',H',I.unwish,r,q⟩
theorem PSs.nox {st:List Stmt} {t:TS} (h:PSs X.nox st t):PSs X st t:=fun pins s U H D I hw=>
 ZM (h pins s U H D (I.wish _) hw) (fun _ _ q=>q.unwish) fun _ _ z=>False.elim z
end
section
variable {X:Cx} {st:Stmt} {rest:List Stmt} {t u:TS} {e:Expr} {te:TE} {pos:Pos}
def J7:TS:=fun D U H=>D.nx U H
def Pb (t u:TS):TS:=fun D U H=>t {D with nx:=u D} U H
theorem Pg:PSs X [] J7:=fun _ _ U H _ I h=>wpAny_execs_nil ⟨U,H,I,h⟩
theorem J8 (h1:PS X st t) (h2:PSs X rest u):PSs X (st :: rest) (Pb t u):=by
 intro pins s U H D I h
 refine wpAny_execs_cons (dW (h1 pins s U H {D with nx:=u D} I h) fun f s1 q=>?_)
 cases f with
 | next=>
  obtain ⟨U',H',I',q⟩:=q
  exact h2 pins s1 U' H' D I' q
 | ret v=>exact q
 | brk=>exact q
 | cont=>exact q
theorem Ph (h1:PS X st t):PSs X [st] t:=by
 intro pins s U H D I h
 refine wpAny_execs_cons (dW (h1 pins s U H D I h) fun f s1 q=>?_)
 cases f with
 | next=>exact wpAny_execs_nil q
 | ret v=>exact q
 | brk=>exact q
 | cont=>exact q
theorem Inv.quiet {pins:List (Addr×Obj)} {U:St} {H:Hp} {s:Shared} (I:Inv X pins U H s):interactive X.env=false:=by simp [interactive,I.ok.kind]
def Ft (te:TE):TS:=fun D U H=>te U H fun _ H1=>D.nx U H1
theorem Pj (he:PE X e te) (hs:autoParam (swapsWith e none pos.line X.env=pure false) L2.auto4._auto_1):PS X (.Expr e pos) (Ft te):=by
 intro pins s U H D I h
 exact wpAny_Expr_any (dW (he pins s U H _ I h) fun v s1 ⟨x,H1,I1,r1,q1⟩=>⟨U,H1,I1,q1⟩) I.quiet hs
def Ua (te:TE):TS:=fun D U H=>te U H D.rt
theorem Ub (he:PE X e te):PS X (.Return (some e) pos) (Ua te):=by
 intro pins s U H D I h
 exact wpAny_Return_some (dW (he pins s U H _ I h) fun v s1 ⟨x,H1,I1,r1,q1⟩=>⟨x,U,H1,I1,r1,q1⟩)
def Uc (c:TT) (t u:TS):TS:=fun D U H=>c U H fun b H1=>if b=true then t D U H1 else u D U H1
theorem WQ {c:Expr} {a b:List Stmt} {tc:TT} (hc:PT X c tc) (ha:PSs X a t) (hb:PSs X b u):PS X (.If c a b pos) (Uc tc t u):=by
 intro pins s U H D I h
 refine wpAny_If (dW (hc pins s U H _ I h) fun d s1 qq0=>?_)
 obtain ⟨H1,I1,q1⟩:=qq0
 cases d with
 | true=>exact ha pins s1 U H1 D I1 q1
 | false=>exact hb pins s1 U H1 D I1 q1
def J9:TS:=fun _ _ _=>False
theorem Ka:PS X st J9:=fun _ _ _ _ _ _ h=>h.elim
end
abbrev TG:=V->St->Hp->(St->Hp->Prop)->Prop
abbrev Hr:=List V->St->Hp->(St->Hp->Prop)->Prop
def PG (X:Cx) (target:Expr) (t:TG):Prop:=
 ∀ (pins:List (Addr×Obj)) (s:Shared) (U:St) (H:Hp) (v:V) (u:Value) (Q:St->Hp->Prop),Inv X pins U H s->RelV v u->t v U H Q->
  wpAny (model X.prog X.w) X.A (assign target X.env u) (fun _ s'=>∃ U' H',Inv X pins U' H' s'/\Q U' H') X.xe s
def Wt (X:Cx) (ts:List Expr) (t:Hr):Prop:=
 ∀ (pins:List (Addr×Obj)) (s:Shared) (U:St) (H:Hp) (vs:List V) (us:List Value) (Q:St->Hp->Prop),Inv X pins U H s->Vals vs us->t vs U H Q->
  wpAny (model X.prog X.w) X.A (assignInOrder ((assignEach ts X.env).map (·.2)) us) (fun _ s'=>∃ U' H',Inv X pins U' H' s'/\Q U' H') X.xe s
abbrev Dq:=V->V->V->Hp->(Hp->Prop)->Prop
def Pk (X:Cx) (t:Dq):Prop:=
 ∀ (pins:List (Addr×Obj)) (s:Shared) (U:St) (H:Hp) (o i v:V) (ov iv u:Value) (Q:Hp->Prop),Inv X pins U H s->RelV o ov->RelV i iv->RelV v u->t o i v H Q->
  wpAny (model X.prog X.w) X.A (setItem ov iv u) (fun _ s'=>∃ H',Inv X pins U H' s'/\Q H') X.xe s
abbrev TIp:=V->V->Hp->VK->Prop
def PIp (X:Cx) (op:Operator) (t:TIp):Prop:=
 ∀ (pins:List (Addr×Obj)) (s:Shared) (U:St) (H:Hp) (x y:V) (v u:Value) (Q:VK),Inv X pins U H s->RelV x v->RelV y u->t x y H Q->
  wpAny (model X.prog X.w) X.A (inplaceOp op v u) (EP X pins U Q) X.xe s
section
variable {X:Cx} {pos:Pos}
def uL (i:Nat):TG:=fun v U H Q=>Q (U.set i (some v)) H
theorem Fv {i:Nat} {x:Str} (hN:X.N.Nodup) (hi:X.N[i]?=some x) (hx:Loc X.env.scope x) (hf:autoParam (X.fn x=true\/X.env.scope.names.lookup x=some .local) L2.auto1._auto_1):PG X (.Name x pos) (uL i):=by
 intro pins s U H v u Q I r h
 exact wpAny_assign_Name (pC I hN hi hx r (fun s' I'=>⟨_,H,I',h⟩) hf)
def Ud:Hr:=fun vs U H Q=>vs=[]/\Q U H
def Kc (t:TG) (u:Hr):Hr:=fun vs U H Q=>∃ v r,vs=v :: r/\t v U H fun U' H'=>u r U' H' Q
theorem Pq:Wt X [] Ud:=by
 intro pins s U H vs us Q I r h
 obtain ⟨e,h⟩:=h
 subst e
 cases r
 exact assignInOrder_nil ⟨U,H,I,h⟩
theorem Ke {e:Expr} {es:List Expr} {t:TG} {u:Hr} (h1:PG X e t) (h2:Wt X es u)
  (hs:autoParam ((assignEach (e :: es) X.env).map (·.2)=assign e X.env :: (assignEach es X.env).map (·.2)) L2.auto4._auto_1):Wt X (e :: es) (Kc t u):=by
 intro pins s U H vs us Q I r h
 obtain ⟨v,vr,e1,h⟩:=h
 subst e1
 cases r with
 | cons r rr=>
  rw [hs]
  refine assignInOrder_cons (dW (h1 pins s U H _ _ _ I r h) fun _ s1 qq0=>?_)
  obtain ⟨σ1,H1,I1,q1⟩:=qq0
  exact h2 pins s1 σ1 H1 _ _ Q I1 rr q1
def Pr (K:W.Frag) (n:Nat) (t:Hr):TG:=fun v U H Q=>∃ a xs,v= .ref a/\SqT K H a xs/\xs.length=n/\t xs U H Q
theorem Ue {es:List Expr} {k:Nat} {t:Hr} {n:Nat} (hc:X.calm=true) (h:Wt X es t)
  (hn:autoParam ((assignEach es X.env).length=n) L2.auto4._auto_1) (hst:autoParam ((assignEach es X.env).findIdx? (·.1)=none) L2.auto4._auto_1):PG X (.Tuple es k pos) (Pr X.K n t):=by
 intro pins s U H v u Q I r hw
 obtain ⟨a,xs,e1,hq,hl,hw⟩:=hw
 subst e1
 cases r
 obtain ⟨its,rv,ht,hz⟩:=I.tuple hq
 refine assign_Tuple_tuple (I.ok.hd hc) ht (by simp [hn,← hl,rv.length]) hst fun h' hx=>?_
 have I1:Inv X pins U H {s with heap:=h'}:=I.kept (t':=s.toks) fun b o e=>hx b o (Zt (Y5 e)) e
 exact h pins _ U H xs _ Q I1 (by simpa using rv) hw
def Ug (to ti:TE) (t:Dq):TG:=fun v U H Q=>to U H fun o H1=>ti U H1 fun i H2=>t o i v H2 fun H3=>Q U H3
theorem Uh {o i:Expr} {to ti:TE} {t:Dq} (ho:PE X o to) (hi:PE X i ti) (hs:Pk X t)
  (ha:∀ v,assign (.Subscript o i pos) X.env v=(do
   let ov ← holding [v] (eval o X.env)
   let iv ← holding [v,ov] (eval i X.env)
   standAt pos
   holding [v,ov,iv] (setItem ov iv v)
   release [v,ov,iv] []):=by intro _;rfl):PG X (.Subscript o i pos) (Ug to ti t):=by
 intro pins s U H v u Q I r h
 rw [ha]
 refine YS (Zw (dW (ho pins s U H _ I h) fun ov s1 qq0=>?_))
 obtain ⟨x,H1,I1,r1,q1⟩:=qq0
 refine YS (Zw (dW (hi pins s1 U H1 _ I1 q1) fun iv s2 qq0=>?_))
 obtain ⟨y,H2,I2,r2,q2⟩:=qq0
 refine YS (wpAny_standAt (YS (Zw (dW (hs pins s2 U H2 x y v ov iv u _ I2 r1 r2 r q2) fun _ s3 qq0=>?_))))
 obtain ⟨H3,I3,q3⟩:=qq0
 exact wpAny_release ⟨U,H3,I3,q3⟩
def Hs (te:TE) (g:TG):TS:=fun D U H=>te U H fun x H1=>g x U H1 D.nx
theorem Ui {tg e:Expr} {te:TE} {g:TG} (he:PE X e te) (hg:PG X tg g) (hs:autoParam (swapsWithSole [tg] e pos.line X.env=pure false) L2.auto4._auto_1) (hw:autoParam (swappedStores [tg] e X.env=pure none) L2.auto4._auto_1)
  (h1:autoParam ((assignEach [tg] X.env).map (·.2)=[assign tg X.env]) L2.auto4._auto_1):PS X (.Assign [tg] e pos) (Hs te g):=by
 intro pins s U H D I h
 refine wpAny_Assign_stores (dW (he pins s U H _ I h) fun v s1 qq0=>?_) hs hw
 obtain ⟨x,H1,I1,r1,q1⟩:=qq0
 rw [h1]
 exact dW (hg pins s1 U H1 x v _ I1 r1 q1) fun _ s2 q=>q
theorem Uj {i:Nat} {x:Str} {e:Expr} {te:TE} {pos':Pos} (hN:X.N.Nodup) (hi:X.N[i]?=some x) (hx:Loc X.env.scope x) (he:PE X e te) (hs:autoParam (swapsWith e (some (.Name x pos')) pos.line X.env=pure false) L2.auto4._auto_1) (hf:autoParam (X.fn x=true\/X.env.scope.names.lookup x=some .local) L2.auto1._auto_1):
  PS X (.Assign [.Name x pos'] e pos) (Hs te (uL i)):=by
 intro pins s U H D I h
 refine wpAny_Assign_Name (dW (he pins s U H _ I h) fun v s1 qq0=>?_) hs
 obtain ⟨y,H1,I1,r1,q1⟩:=qq0
 exact pC I1 hN hi hx r1 (fun s2 I2=>⟨_,H1,I2,q1⟩) hf
def Uk (i:Nat) (te:TE) (ti:TIp):TS:=fun D U H=>∃ x,U[i]?=some (some x)/\te U H fun y H1=>ti x y H1 fun z H2=>D.nx (U.set i (some z)) H2
theorem Ul {i:Nat} {x:Str} {e:Expr} {te:TE} {op:Operator} {ti:TIp} {pos':Pos} (hN:X.N.Nodup) (hi:X.N[i]?=some x) (hx:Loc X.env.scope x) (he:PE X e te) (ho:PIp X op ti) (hf:autoParam (X.fn x=true\/X.env.scope.names.lookup x=some .local) L2.auto1._auto_1):
  PS X (.AugAssign (.Name x pos') op e pos) (Uk i te ti):=by
 intro pins s U H D I h
 obtain ⟨v,e1,h⟩:=h
 obtain ⟨m,hn,hl⟩:=I.loc
 have vis:WL X.env.scope x:=by rcases hx with k | k;exact .inl k;exact .inr (.inl k)
 obtain ⟨u,r,l⟩:=hl i x v hi e1 vis
 refine wpAny_AugAssign_Name ?_
 have go:wpAny (model X.prog X.w) X.A (eval e X.env) (fun w s₂=>wpAny (model X.prog X.w) X.A (inplaceOp op u w) (fun r s₃=>wpAny (model X.prog X.w) X.A (storeName X.env x r) (fun _=>SP X pins D .next) X.xe s₃) X.xe s₂) X.xe s:=by
  refine dW (he pins s U H _ I h) fun w s1 qq0=>?_
  obtain ⟨y,H1,I1,r1,q1⟩:=qq0
  refine dW (ho pins s1 U H1 v y u w _ I1 r r1 q1) fun z s2 qq0=>?_
  obtain ⟨zv,H2,I2,r2,q2⟩:=qq0
  exact pC I2 hN hi hx r2 (fun s3 I3=>⟨_,H2,I3,q2⟩) hf
 rcases l with ⟨hk,hm⟩ | ⟨hk,c,hc,hcell⟩
 ·exact wpAny_loadName_local I.ok.kind hk hn hm go
 ·rcases hk with hk | hk
  ·exact wpAny_loadName_cell I.ok.kind hk hc hcell go
  ·rcases hx with k | k
   ·have:X.env.scope.names.lookup x=some .free:=hk
    rw [k] at this;cases this
   ·have:X.env.scope.names.lookup x=some .free:=hk
    rw [k] at this;cases this
def Ds (c:TT) (tb:TS):TS:=fun D U H=>∃ W:Nat->St->Hp->Prop,(∃ m,W m U H)/\∀ m U H,W m U H->
 c U H fun b H1=>if b=true then ∃ N:St->Hp->Prop,(∀ U' H',N U' H'->∃ m',m' < m/\W m' U' H')/\tb {D with nx:=N,ct:=N,bk:=D.nx} U H1 else D.nx U H1
theorem Kf {c:Expr} {body:List Stmt} {tc:TT} {tb:TS} (hp:PassesOwn (model X.prog X.w) X.A X.env X.xe) (hc:PT X c tc) (hb:PSs X body tb):PS X (.While c body [] pos) (Ds tc tb):=by
 intro pins s U H D I h
 obtain ⟨W,⟨m0,w0⟩,turn⟩:=h
 refine wpAny_While (codeAny_whileLoop (fun n s'=>∃ U' H',Inv X pins U' H' s'/\W n U' H') ?_ m0 ⟨U,H,I,w0⟩)
 rintro n s1 ⟨σ1,H1,I1,w1⟩
 refine AaG hp (dW (hc pins s1 σ1 H1 _ I1 (turn n σ1 H1 w1)) fun b s2 qq0=>?_)
 obtain ⟨H2,I2,q2⟩:=qq0
 cases b with
 | true=>
  obtain ⟨N,hN,q2⟩:=q2
  rw [if_pos rfl]
  refine AaG hp (dW (hb pins s2 σ1 H2 _ I2 q2) fun f s3 q3=>?_)
  cases f with
  | next=>
   obtain ⟨σ3,H3,I3,n3⟩:=q3
   obtain ⟨m',hm,w3⟩:=hN σ3 H3 n3
   exact ⟨m',hm,σ3,H3,I3,w3⟩
  | cont=>
   obtain ⟨σ3,H3,I3,n3⟩:=q3
   obtain ⟨m',hm,w3⟩:=hN σ3 H3 n3
   exact ⟨m',hm,σ3,H3,I3,w3⟩
  | brk=>exact q3
  | ret v=>exact q3
 | false=>
  rw [if_neg Y6]
  exact wpAny_execs_nil ⟨σ1,H2,I2,q2⟩
end
structure It where
 go:Nat->Hp->Prop
 yld:Nat->Hp->V->Hp->Prop
 stop:Nat->Hp->Prop
def qM (X:Cx) (pins:List (Addr×Obj)) (H:Hp) (b:Addr):Prop:=
 H b=none/\b≠X.env.locals/\b ∉ X.fs/\(b∈X.ex\/X.s₀.heap.objs.size<=b)/\(∀ x c,X.env.cells.lookup x=some c->c≠b)/\∀ p∈X.pn ++ pins,p.1≠b
theorem Inv.fpOk {X:Cx} {pins:List (Addr×Obj)} {U:St} {H H':Hp} {s:Shared} {b:Addr} (I:Inv X pins U H s) (hb:s.heap.objs.size<=b) (hn:H' b=none):qM X pins H' b:=by
 refine ⟨hn,AaY (Ze I.lt hb),I.nofs hb,.inr (Zm I.sz hb),fun x c e z=>?_,fun p hp z=>?_⟩
 ·obtain ⟨v,q⟩:=I.cell x c e
  exact absurd (Ze q.lt (by rw [z];exact hb)) (Z5 _)
 ·exact absurd (Ze (Y5 (I.pin p hp).1) (by rw [z];exact hb)) (Z5 _)
structure Turn (P:Program) (w:World) (K:W.Frag) (tg:Expr) (J:It) (fp:List Addr) (it:Addr) (tn:Nat->Heap->Prop):Prop where
 mem:it∈fp
 obj:∀ i h,tn i h->∀ b∈fp,∃ o,h.get? b=some o/\∀ v,o.data≠.cell v
 keep:∀ i h h',tn i h->(∀ b∈fp,∀ o,h.get? b=some o->h'.get? b=some o)->tn i h'
 item:∀ (X:Cx),X.prog=P->X.w=w->X.K=K->X.calm=true->∀ (i:Nat) (pins:List (Addr×Obj)) (s:Shared) (U:St) (H:Hp) (E:Value->Shared->Prop),Inv X pins U H s->(∀ b∈fp,qM X pins H b)->tn i s.heap->J.go i H->
  wpAny (model P w) X.A (pyNext (.ref it)) (fun r s1=>∃ u,r=some u/\
   wpAny (model P w) X.A (letOwnedTupleGo tg (.ref it) u) (fun _ s2=>∃ x H',Inv X pins U H' s2/\RelV x u/\J.yld i H x H'/\tn (i+1) s2.heap/\∀ b∈fp,H' b=none) E s1) E s
 done:∀ (X:Cx),X.prog=P->X.w=w->X.K=K->X.calm=true->∀ (i:Nat) (pins:List (Addr×Obj)) (s:Shared) (U:St) (H:Hp) (E:Value->Shared->Prop),Inv X pins U H s->(∀ b∈fp,qM X pins H b)->tn i s.heap->J.stop i H->
  wpAny (model P w) X.A (pyNext (.ref it)) (fun r s1=>r=none/\Inv X pins U H s1) E s
 self:∀ (A:Around) (i:Nat) (s:Shared) (Q:Value->Shared->Prop) (E:Value->Shared->Prop),tn i s.heap->Q (.ref it) s->wpAny (model P w) A (pyIter (.ref it)) Q E s
abbrev TI:=St->Hp->(It->Hp->Prop)->Prop
def PIE (X:Cx) (pins:List (Addr×Obj)) (U:St) (tg:Expr) (R:It->Hp->Prop) (itv:Value) (s2:Shared):Prop:=
 ∃ (it:Addr) (fp:List Addr) (tn:Nat->Heap->Prop) (J:It) (H':Hp),itv= .ref it/\Inv X pins U H' s2/\Turn X.prog X.w X.K tg J fp it tn/\tn 0 s2.heap/\(∀ b∈fp,qM X pins H' b)/\R J H'
def PI (X:Cx) (tg iter:Expr) (wi:TI):Prop:=
 ∀ (pins:List (Addr×Obj)) (s:Shared) (U:St) (H:Hp) (R:It->Hp->Prop),Inv X pins U H s->wi U H R->
  wpAny (model X.prog X.w) X.A (eval iter X.env) (fun v s1=>wpAny (model X.prog X.w) X.A (pyIter v) (PIE X pins U tg R) X.xe s1) X.xe s
theorem yj {M:Model} {A:Around} {E:Value->Shared->Prop} {s:Shared} {tg:Expr} {it:Addr} {u:Value} {o:Obj} {n:String} {vs:Array Value} {Q:Unit->Shared->Prop} (ho:s.heap.get? it=some o) (hc:o.cls= .type n) (hd:o.data= .fields vs)
  (hn:["enumerate","zip","dict_itemiterator","dict_reverseitemiterator","odict_iterator","itertools.zip_longest","itertools.pairwise"].contains n=false) (hQ:Q () s):wpAny M A (letOwnedTupleGo tg (.ref it) u) Q E s:=by
 unfold letOwnedTupleGo
 cases tg <;> first
  | exact YX hQ
  | (cases u <;> first
    | exact YX hQ
    | (refine YS (wpAny_load ho ?_)
       rw [hc,hd]
       show wpAny M A (if (["enumerate","zip","dict_itemiterator","dict_reverseitemiterator","odict_iterator","itertools.zip_longest","itertools.pairwise"].contains n && vs[0]? == some (rawInt _))=true then _ else _) Q E s
       rw [if_neg (by intro h;rw [hn,Bool.false_and] at h;cases h)]
       exact YX hQ))
def R3 (K:W.Frag) (a:Addr):It:=
 ⟨fun i H=>∃ xs x,SqL K H a xs/\xs[i]?=some x,fun i H x H'=>H'=H/\∀ xs,SqL K H a xs->xs[i]?=some x,fun i H=>∃ xs,SqL K H a xs/\xs.length<=i⟩
def Wu (K:W.Frag) (a:Addr):It:=
 ⟨fun i H=>∃ xs x,SqT K H a xs/\xs[i]?=some x,fun i H x H'=>H'=H/\∀ xs,SqT K H a xs->xs[i]?=some x,fun i H=>∃ xs,SqT K H a xs/\xs.length<=i⟩
def JQ (lo:Int) (n:Nat):It:=⟨fun i _=>i < n,fun i H x H'=>H'=H/\x= .int (lo+i),fun i _=>n<=i⟩
theorem Ht {P:Program} {w:World} {K:W.Frag} {tg:Expr} (a it:Addr):Turn P w K tg (R3 K a) [it] it (fun i h=>h.IsListIter it a i) where
 mem:=by simp
 obj:=fun i h st b hb=>by
  have e:b=it:=by simpa using hb
  subst e
  obtain ⟨o,e,c,d⟩:=st
  exact ⟨o,e,fun v z=>by rw [d] at z;cases z⟩
 keep:=fun i h h' st k=>st.at fun o e=>k it (by simp) o e
 item:=by
  intro X hP hw hK hc i pins s U H E I hf st hg
  subst hP hw hK
  obtain ⟨xs,x,hq,hx⟩:=hg
  obtain ⟨its,rv,p,hz⟩:=I.list hq
  obtain ⟨u,hu,ru⟩:=rv.get hx
  obtain ⟨f0,f1,f2,f3,f4,f5⟩:=hf it (by simp)
  refine wpAny_pyNext_list_item st p.isList (x:=u) (by simpa using hu) fun h' st' sb=>?_
  have I1:Inv X pins U H {s with heap:=h'}:=I.turned (t':=s.toks) (fun b o hb e=>(sb.2 b hb).trans e) f0 f1 f3 f4 f5
  obtain ⟨o,e,c,d⟩:=id st'
  exact ⟨u,rfl,yj (s:={s with heap:=h'}) e c d (by decide) ⟨x,H,I1,ru,⟨rfl,fun ys hy=>by rw [I.list_inj hy hq];exact hx⟩,st',fun b hb=>(hf b hb).1⟩⟩
 done:=by
  intro X hP hw hK hc i pins s U H E I hf st hg
  subst hP hw hK
  obtain ⟨xs,hq,hx⟩:=hg
  obtain ⟨its,rv,p,hz⟩:=I.list hq
  obtain ⟨f0,f1,f2,f3,f4,f5⟩:=hf it (by simp)
  have hl:=rv.length
  exact wpAny_pyNext_list_end (I.ok.hd hc) st p.isList (by simp;omega) fun h' eb=>⟨rfl,I.turned (t':=s.toks) (fun b o hb e=>eb b o hb e) f0 f1 f3 f4 f5⟩
 self:=fun _ _ _ _ _ st h=>wpAny_pyIter_listiter st h
theorem Dt {P:Program} {w:World} {K:W.Frag} {tg:Expr} (a it:Addr):Turn P w K tg (Wu K a) [it] it (fun i h=>h.IsTupleIter it a i) where
 mem:=by simp
 obj:=fun i h st b hb=>by
  have e:b=it:=by simpa using hb
  subst e
  obtain ⟨o,e,c,d⟩:=st
  exact ⟨o,e,fun v z=>by rw [d] at z;cases z⟩
 keep:=fun i h h' st k=>st.at fun o e=>k it (by simp) o e
 item:=by
  intro X hP hw hK hc i pins s U H E I hf st hg
  subst hP hw hK
  obtain ⟨xs,x,hq,hx⟩:=hg
  obtain ⟨its,rv,p,hz⟩:=I.tuple hq
  obtain ⟨u,hu,ru⟩:=rv.get hx
  obtain ⟨f0,f1,f2,f3,f4,f5⟩:=hf it (by simp)
  refine wpAny_pyNext_tuple_item st (show s.heap.IsTuple a its.toArray from p) (x:=u) (by simpa using hu) fun h' st' sb=>?_
  have I1:Inv X pins U H {s with heap:=h'}:=I.turned (t':=s.toks) (fun b o hb e=>(sb.2 b hb).trans e) f0 f1 f3 f4 f5
  obtain ⟨o,e,c,d⟩:=id st'
  exact ⟨u,rfl,yj (s:={s with heap:=h'}) e c d (by decide) ⟨x,H,I1,ru,⟨rfl,fun ys hy=>by rw [I.tuple_inj hy hq];exact hx⟩,st',fun b hb=>(hf b hb).1⟩⟩
 done:=by
  intro X hP hw hK hc i pins s U H E I hf st hg
  subst hP hw hK
  obtain ⟨xs,hq,hx⟩:=hg
  obtain ⟨its,rv,p,hz⟩:=I.tuple hq
  obtain ⟨f0,f1,f2,f3,f4,f5⟩:=hf it (by simp)
  have hl:=rv.length
  exact wpAny_pyNext_tuple_end (I.ok.hd hc) st (show s.heap.IsTuple a its.toArray from p) (by simp;omega) fun h' eb=>⟨rfl,I.turned (t':=s.toks) (fun b o hb e=>eb b o hb e) f0 f1 f3 f4 f5⟩
 self:=fun _ _ _ _ _ st h=>wpAny_pyIter_tupleiter st h
theorem Du {P:Program} {w:World} {K:W.Frag} {tg:Expr} (it:Addr) (lo:Int) (n:Nat):Turn P w K tg (JQ lo n) [it] it (fun i h=>IsRangeIter h it (lo+(i:Nat)*1) ((n:Int) - (i:Nat)) 1) where
 mem:=by simp
 obj:=fun i h st b hb=>by
  have e:b=it:=by simpa using hb
  subst e
  exact ⟨_,st,fun v z=>by
   have z':Data.fields _=Data.cell v:=z
   cases z'⟩
 keep:=fun i h h' st k=>k it (by simp) _ st
 item:=by
  intro X hP hw hK hc i pins s U H E I hf st hg
  subst hP hw hK
  obtain ⟨f0,f1,f2,f3,f4,f5⟩:=hf it (by simp)
  have W:=Walks.range (prog:=X.prog) (w:=X.w) (I.ok.hd hc) it lo 1 n
  refine W.item i s _ _ hg st fun v h' tk hv st' kk=>?_
  obtain ⟨t,rfl⟩:=hv
  have I1:Inv X pins U H {s with heap:=h',toks:=tk}:=I.turned (fun b o hb e=>kk b o (by simpa using hb) e) f0 f1 f3 f4 f5
  refine ⟨_,rfl,yj (s:={s with heap:=h',toks:=tk}) (n:="range_iterator") st' rfl rfl (by decide) ⟨.int (lo+i),H,I1,⟨t,?_⟩,⟨rfl,rfl⟩,st',fun b hb=>(hf b hb).1⟩⟩
  rw [Int.mul_one]
 done:=by
  intro X hP hw hK hc i pins s U H E I hf st hg
  subst hP hw hK
  obtain ⟨f0,f1,f2,f3,f4,f5⟩:=hf it (by simp)
  exact wpAny_pyNext_range_end (I.ok.hd hc) st (by have:n<=i:=hg;omega) fun h' eb=>⟨rfl,I.turned (t':=s.toks) (fun b o hb e=>eb b o hb e) f0 f1 f3 f4 f5⟩
 self:=fun _ _ _ _ _ st h=>wpAny_pyIter_rangeiter st h
section
variable {X:Cx} {tg:Expr}
theorem Bd {pins:List (Addr×Obj)} {U:St} {H:Hp} {s:Shared} {R:It->Hp->Prop} {E:Value->Shared->Prop} {lo hi:Int} {t u v:Tok} {tk:Nat} (I:Inv X pins U H s) (h1: -(2 ^ 62)<=lo) (h2:lo < 2 ^ 62) (h3: -(2 ^ 62)<=hi) (h4:hi < 2 ^ 62)
  (q:R (JQ lo (hi - lo).toNat) H):wpAny (model X.prog X.w) X.A (pyIter (.ref s.heap.objs.size)) (PIE X pins U tg R) E {s with heap:=s.heap.push {cls:=.type "range",data:=.fields #[.int lo t,.int hi u,.int 1 v]},toks:=tk}:=by
 refine wpAny_pyIter_range (IsRange.new ..) (small_one h1 h2 h3 h4) ?_
 have I1:Inv X pins U H {s with heap:=s.heap.push {cls:=.type "range",data:=.fields #[.int lo t,.int hi u,.int 1 v]},toks:=tk}:=I.kept fun b o e=>Y0 _ e
 refine ⟨(s.heap.push {cls:=.type "range",data:=.fields #[.int lo t,.int hi u,.int 1 v]}).objs.size,[(s.heap.push {cls:=.type "range",data:=.fields #[.int lo t,.int hi u,.int 1 v]}).objs.size],_,_,H,rfl,
  I1.kept (t':=tk) fun b o e=>Y0 _ e,Du _ lo (hi - lo).toNat,?_,fun b hb=>?_,q⟩
 ·have e1:lo+((0:Nat):Int)*1=lo:=by simp
  have e2:(((hi - lo).toNat:Nat):Int) - ((0:Nat):Int)=Builtin.Range.rangeSize lo hi 1:=by rw [rangeSize_one];split <;> omega
  show IsRangeIter _ _ (lo+((0:Nat):Int)*1) ((((hi - lo).toNat:Nat):Int) - ((0:Nat):Int)) 1
  rw [e1,e2]
  exact Za _ rfl
 ·have e:b=(s.heap.push {cls:=.type "range",data:=.fields #[.int lo t,.int hi u,.int 1 v]}).objs.size:=by simpa using hb
  subst e
  exact I1.fpOk (Y4 _) (I1.hok.fresh (Y4 _))
def Kg (ta:TA):TI:=fun U H R=>ta U H fun vs H1=>∃ j:Int,vs=[.int j]/\-(2 ^ 62)<=j/\j < 2 ^ 62/\R (JQ 0 j.toNat) H1
def Kh (ta:TA):TI:=fun U H R=>ta U H fun vs H1=>∃ i j:Int,vs=[.int i,.int j]/\(-(2 ^ 62)<=i/\i < 2 ^ 62/\-(2 ^ 62)<=j/\j < 2 ^ 62)/\R (JQ i (j - i).toNat) H1
theorem Hu {a:Expr} {ta:TA} {p pos:Pos} (hg:Gl X "range") (hm:X.mg "range"=none) (ha:PA X [a] ta) (hs:autoParam (starEach [a] X.env=[(false,eval a X.env)]) L2.auto4._auto_1):PI X tg (.Call (.Name "range" p) [a] [] pos) (Kg ta):=by
 intro pins s U H R I h
 refine Call_ (jc I hg hm boot_range (Zn (dW (ha pos pins s U H _ I h) fun us s1 ⟨vs,H1,I1,r1,q1⟩=>?_) hs rfl))
 obtain ⟨j,e,q1,q2,q⟩:=q1
 subst e
 cases r1 with
 | cons r rr=>
  cases rr
  obtain ⟨t,rfl⟩:=r
  exact call_range_1 (Bd I1 (by omega) (by omega) q1 q2 (by simpa using q))
theorem Hv {a b:Expr} {ta:TA} {p pos:Pos} (hg:Gl X "range") (hm:X.mg "range"=none) (ha:PA X [a,b] ta) (hs:autoParam (starEach [a,b] X.env=[(false,eval a X.env),(false,eval b X.env)]) L2.auto4._auto_1) (hs2:autoParam (starEach [b] X.env=[(false,eval b X.env)]) L2.auto4._auto_1):
  PI X tg (.Call (.Name "range" p) [a,b] [] pos) (Kh ta):=by
 intro pins s U H R I h
 refine Call_ (jc I hg hm boot_range (Zn (dW (ha pos pins s U H _ I h) fun us s1 qq0=>?_) (by rw [hs,hs2]) (by rw [hs2];rfl)))
 obtain ⟨vs,H1,I1,r1,q1⟩:=qq0
 obtain ⟨i,j,e,⟨q1,q2,q3,q4⟩,q⟩:=q1
 subst e
 cases r1 with
 | cons r rr=>
  cases rr with
  | cons r' rr=>
   cases rr
   obtain ⟨t,rfl⟩:=r
   obtain ⟨t',rfl⟩:=r'
   exact call_range_2 (Bd I1 q1 q2 q3 q4 q)
def Pu (wi:TI) (g:TG) (tb:TS):TS:=fun D U H=>wi U H fun J H1=>∃ W:Nat->Nat->St->Hp->Prop,(∃ m,W 0 m U H1)/\∀ i m U H,W i m U H->
 (J.stop i H/\D.nx U H)\/(J.go i H/\∃ N:St->Hp->Prop,(∀ U' H',N U' H'->∃ m',m' < m/\W (i+1) m' U' H')/\∀ x H',J.yld i H x H'->g x U H' fun σ2 H2=>tb {D with nx:=N,ct:=N,bk:=D.nx} σ2 H2)
def vX (fp:List Addr) (h:Heap):List (Addr×Obj):=fp.filterMap fun b=>(h.get? b).map fun o=>(b,o)
theorem qX {fp:List Addr} {h:Heap} {b:Addr} {o:Obj} (hb:b∈fp) (e:h.get? b=some o):(b,o)∈vX fp h:=List.mem_filterMap.mpr ⟨b,hb,by rw [e];rfl⟩
theorem Hw {fp:List Addr} {h:Heap} {p:Addr×Obj} (hp:p∈vX fp h):p.1∈fp/\h.get? p.1=some p.2:=by
 obtain ⟨b,hb,e⟩:=List.mem_filterMap.mp hp
 cases q:h.get? b with
 | none=>rw [q] at e;cases e
 | some o=>
  rw [q] at e
  have e':(b,o)=p:=Zv e
  subst e'
  exact ⟨hb,q⟩
theorem Inv.pinned {pins:List (Addr×Obj)} {U:St} {H:Hp} {s:Shared} {fp:List Addr} (I:Inv X pins U H s) (hf:∀ b∈fp,qM X pins H b) (ho:∀ b∈fp,∃ o,s.heap.get? b=some o/\∀ v,o.data≠.cell v):Inv X (pins ++ vX fp s.heap) U H s:=
 I.pins_of fun p hp=>(Z0.mp hp).elim (fun z=>I.pin p (ZX _ z)) fun z=>by
  obtain ⟨hb,e⟩:=Hw z
  obtain ⟨f0,f1,f2,_⟩:=hf p.1 hb
  obtain ⟨o,e',d⟩:=ho p.1 hb
  rw [e] at e';cases e'
  exact ⟨e,f0,f1,f2,d⟩
theorem Inv.unpinned {pins pl:List (Addr×Obj)} {U:St} {H:Hp} {s:Shared} (I:Inv X (pins ++ pl) U H s):Inv X pins U H s:=I.pins_of fun p hp=>I.pin p (ZX _ (Aa9 _ hp))
theorem Um {iter:Expr} {body:List Stmt} {wi:TI} {g:TG} {tb:TS} {pos:Pos} (hp:PassesOwn (model X.prog X.w) X.A X.env X.xe) (hc:X.calm=true) (hi:PI X tg iter wi) (hg:PG X tg g) (hb:PSs X body tb)
  (hs:autoParam (∀ x,foldedSetIterable iter X.env x=pure x) L2.auto3._auto_1):PS X (.For tg iter body [] pos) (Pu wi g tb):=by
 intro pins s U H D I h
 refine wpAny_For (dW (hi pins s U H _ I h) fun v s1 h1=>dW h1 fun itv s2 h2=>?_) hs
 obtain ⟨it,fp,tn,J,H2,e,I2,T,st2,f2,W,⟨m0,w0⟩,turn⟩:=h2
 subst e
 have stat:∀ {H':Hp},(∀ b∈fp,H' b=none)->∀ b∈fp,qM X pins H' b:=fun hn b hb=>⟨hn b hb,(f2 b hb).2⟩
 refine codeAny_forLoop_any (fun n s'=>∃ i U' H',Inv X pins U' H' s'/\tn i s'.heap/\(∀ b∈fp,H' b=none)/\W i n U' H') ?_ m0 ⟨0,U,H2,I2,st2,fun b hb=>(f2 b hb).1,w0⟩
 rintro n s3 ⟨i,σ3,H3,I3,st3,fr3,w3⟩
 rcases turn i n σ3 H3 w3 with ⟨stop,qn⟩ | ⟨go,N,hN,step⟩
 ·refine AaG hp (dW (T.done X rfl rfl rfl hc i pins s3 σ3 H3 X.xe I3 (stat fr3) st3 stop) fun r s4 qq0=>?_)
  obtain ⟨hr,I4⟩:=qq0
  subst hr
  exact wpAny_execs_nil ⟨σ3,H3,I4,qn⟩
 ·refine AaG hp (dW (T.item X rfl rfl rfl hc i pins s3 σ3 H3 X.xe I3 (stat fr3) st3 go) fun r s4 qq0=>?_)
  obtain ⟨u,hr,h4⟩:=qq0
  subst hr
  refine AaG hp (dW h4 fun _ s5 qq0=>?_)
  obtain ⟨x,H5,I5,r5,y5,st5,fr5⟩:=qq0
  have I5':=I5.pinned (stat fr5) (T.obj _ _ st5)
  refine AaG hp (dW (hg _ s5 σ3 H5 x u _ I5' r5 (step x H5 y5)) fun _ s6 qq0=>?_)
  obtain ⟨σ6,H6,I6,q6⟩:=qq0
  refine AaG hp (dW (hb _ s6 σ6 H6 _ I6 q6) fun f s7 q7=>?_)
  have again:∀ {σ7:St} {H7:Hp},Inv X (pins ++ vX fp s5.heap) σ7 H7 s7->N σ7 H7->∃ m,m < n/\∃ i U' H',Inv X pins U' H' s7/\tn i s7.heap/\(∀ b∈fp,H' b=none)/\W i m U' H':=fun {σ7 H7} I7 n7=>by
   obtain ⟨m',hm,w7⟩:=hN σ7 H7 n7
   refine ⟨m',hm,i+1,σ7,H7,I7.unpinned,T.keep _ _ _ st5 fun b hb o e=>(I7.pin (b,o) (ZX _ (ZX _ (qX hb e)))).1,fun b hb=>?_,w7⟩
   obtain ⟨o,e,d⟩:=T.obj _ _ st5 b hb
   exact (I7.pin (b,o) (ZX _ (ZX _ (qX hb e)))).2.1
  cases f with
  | next=>obtain ⟨σ7,H7,I7,n7⟩:=q7;exact again I7 n7
  | cont=>obtain ⟨σ7,H7,I7,n7⟩:=q7;exact again I7 n7
  | brk=>obtain ⟨σ7,H7,I7,q7⟩:=q7;exact ⟨σ7,H7,I7.unpinned,q7⟩
  | ret v=>obtain ⟨x7,σ7,H7,I7,r7,q7⟩:=q7;exact ⟨x7,σ7,H7,I7.unpinned,r7,q7⟩
end
theorem mY {K:W.Frag} {a:Addr} {xs:List V} {g:TG} {tb:TS} {D:Ends} {U:St} {H:Hp} (Pv:Nat->St->Hp->Prop) (h0:Pv 0 U H) (hl:∀ i U H,i<=xs.length->Pv i U H->SqL K H a xs)
  (hs:∀ i x U H,xs[i]?=some x->Pv i U H->g x U H fun σ2 H2=>tb {D with nx:=Pv (i+1),ct:=Pv (i+1),bk:=D.nx} σ2 H2) (hd:∀ U H,Pv xs.length U H->D.nx U H):
  ∃ W:Nat->Nat->St->Hp->Prop,(∃ m,W 0 m U H)/\∀ i m U H,W i m U H->
   ((R3 K a).stop i H/\D.nx U H)\/((R3 K a).go i H/\∃ N:St->Hp->Prop,(∀ U' H',N U' H'->∃ m',m' < m/\W (i+1) m' U' H')/\∀ x H',(R3 K a).yld i H x H'->g x U H' fun σ2 H2=>tb {D with nx:=N,ct:=N,bk:=D.nx} σ2 H2):=by
 refine ⟨fun i m U H=>m=xs.length - i/\i<=xs.length/\Pv i U H,⟨xs.length,by simp,Z7 _,h0⟩,?_⟩
 rintro i m U H ⟨rfl,hi,p⟩
 have q:=hl i U H hi p
 by_cases hlt:i < xs.length
 ·refine .inr ⟨⟨xs,xs[i],q,by simp [hlt]⟩,Pv (i+1),fun U' H' p'=>⟨xs.length - (i+1),by omega,rfl,hlt,p'⟩,fun x H' y=>?_⟩
  obtain ⟨e,y⟩:=y
  subst e
  exact hs i x U _ (y xs q) p
 ·have e:i=xs.length:=by omega
  subst e
  exact .inl ⟨⟨xs,q,Y4 _⟩,hd U H p⟩
theorem Fw {K:W.Frag} {a:Addr} {xs:List V} {g:TG} {tb:TS} {D:Ends} {U:St} {H:Hp} (Pv:Nat->St->Hp->Prop) (h0:Pv 0 U H) (hl:∀ i U H,i<=xs.length->Pv i U H->SqT K H a xs)
  (hs:∀ i x U H,xs[i]?=some x->Pv i U H->g x U H fun σ2 H2=>tb {D with nx:=Pv (i+1),ct:=Pv (i+1),bk:=D.nx} σ2 H2) (hd:∀ U H,Pv xs.length U H->D.nx U H):
  ∃ W:Nat->Nat->St->Hp->Prop,(∃ m,W 0 m U H)/\∀ i m U H,W i m U H->
   ((Wu K a).stop i H/\D.nx U H)\/((Wu K a).go i H/\∃ N:St->Hp->Prop,(∀ U' H',N U' H'->∃ m',m' < m/\W (i+1) m' U' H')/\∀ x H',(Wu K a).yld i H x H'->g x U H' fun σ2 H2=>tb {D with nx:=N,ct:=N,bk:=D.nx} σ2 H2):=by
 refine ⟨fun i m U H=>m=xs.length - i/\i<=xs.length/\Pv i U H,⟨xs.length,by simp,Z7 _,h0⟩,?_⟩
 rintro i m U H ⟨rfl,hi,p⟩
 have q:=hl i U H hi p
 by_cases hlt:i < xs.length
 ·refine .inr ⟨⟨xs,xs[i],q,by simp [hlt]⟩,Pv (i+1),fun U' H' p'=>⟨xs.length - (i+1),by omega,rfl,hlt,p'⟩,fun x H' y=>?_⟩
  obtain ⟨e,y⟩:=y
  subst e
  exact hs i x U _ (y xs q) p
 ·have e:i=xs.length:=by omega
  subst e
  exact .inl ⟨⟨xs,q,Y4 _⟩,hd U H p⟩
theorem ug {lo:Int} {n:Nat} {g:TG} {tb:TS} {D:Ends} {U:St} {H:Hp} (Pv:Nat->St->Hp->Prop) (h0:Pv 0 U H)
  (hs:∀ i U H,i < n->Pv i U H->g (.int (lo+i)) U H fun σ2 H2=>tb {D with nx:=Pv (i+1),ct:=Pv (i+1),bk:=D.nx} σ2 H2) (hd:∀ U H,Pv n U H->D.nx U H):
  ∃ W:Nat->Nat->St->Hp->Prop,(∃ m,W 0 m U H)/\∀ i m U H,W i m U H->
   ((JQ lo n).stop i H/\D.nx U H)\/((JQ lo n).go i H/\∃ N:St->Hp->Prop,(∀ U' H',N U' H'->∃ m',m' < m/\W (i+1) m' U' H')/\∀ x H',(JQ lo n).yld i H x H'->g x U H' fun σ2 H2=>tb {D with nx:=N,ct:=N,bk:=D.nx} σ2 H2):=by
 refine ⟨fun i m U H=>m=n - i/\i<=n/\Pv i U H,⟨n,by simp,Z7 _,h0⟩,?_⟩
 rintro i m U H ⟨rfl,hi,p⟩
 by_cases hlt:i < n
 ·refine .inr ⟨hlt,Pv (i+1),fun U' H' p'=>⟨n - (i+1),by omega,rfl,hlt,p'⟩,fun x H' y=>?_⟩
  obtain ⟨e,y⟩:=y
  subst e y
  exact hs i U _ hlt p
 ·have e:i=n:=by omega
  subst e
  exact .inl ⟨Y4 _,hd U H p⟩
theorem Kl {c:TT} {tb:TS} {D:Ends} {U:St} {H:Hp} (Pv:St->Hp->Prop) (μ:St->Hp->Nat) (h0:Pv U H)
  (hs:∀ U H,Pv U H->c U H fun b H1=>if b=true then tb {D with nx:=fun U' H'=>Pv U' H'/\μ U' H' < μ U H,ct:=fun U' H'=>Pv U' H'/\μ U' H' < μ U H,bk:=D.nx} U H1 else D.nx U H1)
  (mono:∀ U H Q Q',(∀ b H1,Q b H1->Q' b H1)->c U H Q->c U H Q'):Ds c tb D U H:=by
 refine ⟨fun m U H=>m=μ U H/\Pv U H,⟨_,rfl,h0⟩,?_⟩
 rintro m U H ⟨rfl,p⟩
 refine mono U H _ _ (fun b H1 q=>?_) (hs U H p)
 cases b with
 | true=>exact ⟨_,fun U' H' ⟨p',l⟩=>⟨_,l,rfl,p'⟩,q⟩
 | false=>exact q
abbrev R2:=V->V->Hp->VK->Prop
def OpR (X:Cx) (f:Value->Value->Sem Value) (r:R2):Prop:=
 ∀ (pins:List (Addr×Obj)) (s:Shared) (U:St) (H:Hp) (x y:V) (v u:Value) (Q:VK),Inv X pins U H s->RelV x v->RelV y u->r x y H Q->
  wpAny (model X.prog X.w) X.A (f v u) (EP X pins U Q) X.xe s
def YC (X:Cx) (f:Value->Sem Value) (r:V->Hp->VK->Prop):Prop:=
 ∀ (pins:List (Addr×Obj)) (s:Shared) (U:St) (H:Hp) (x:V) (v:Value) (Q:VK),Inv X pins U H s->RelV x v->r x H Q->
  wpAny (model X.prog X.w) X.A (f v) (EP X pins U Q) X.xe s
def CallR (X:Cx) (f:Value) (r:List V->Hp->VK->Prop):Prop:=
 ∀ (pins:List (Addr×Obj)) (s:Shared) (U:St) (H:Hp) (xs:List V) (us:List Value) (Q:VK),Inv X pins U H s->Vals xs us->r xs H Q->
  wpAny (model X.prog X.w) X.A (call f us) (EP X pins U Q) X.xe s
def Km (r:R2) (ta tb:TE):TE:=fun U H Q=>ta U H fun x H1=>tb U H1 fun y H2=>r x y H2 Q
def tUn (r:V->Hp->VK->Prop) (ta:TE):TE:=fun U H Q=>ta U H fun x H1=>r x H1 Q
def rI (C:Int->Int->Prop) (g:Int->Int->V):R2:=fun x y H Q=>∃ i j,x= .int i/\y= .int j/\C i j/\Q (g i j) H
def Ko (g:Int->Int->V):R2:=fun x y H Q=>∃ i j,x= .int i/\y= .int j/\Q (g i j) H
def rU (g:Int->V):V->Hp->VK->Prop:=fun x H Q=>∃ i,x= .int i/\Q (g i) H
section
variable {X:Cx} {a b c:Expr} {ta tb tc:TE} {pos:Pos}
theorem Uo (ha:PE X a ta) (hb:PE X b tb) {pins:List (Addr×Obj)} {s:Shared} {U:St} {H:Hp} {R:V->V->Hp->Prop} (I:Inv X pins U H s)
  (h:ta U H fun x H1=>tb U H1 fun y H2=>R x y H2) {Q:Value->Shared->Prop} {f:Value->Value->Sem Value}
  (hf:∀ v u s2 x y H2,Inv X pins U H2 s2->RelV x v->RelV y u->R x y H2->wpAny (model X.prog X.w) X.A (f v u) Q X.xe s2):
  wpAny (model X.prog X.w) X.A (eval a X.env) (fun v s₁=>wpAny (model X.prog X.w) X.A (eval b X.env) (fun u s₂=>wpAny (model X.prog X.w) X.A (f v u) Q X.xe s₂) X.xe s₁) X.xe s:=by
 refine dW (ha pins s U H _ I h) fun v s1 qq0=>?_
 obtain ⟨x,H1,I1,r1,q1⟩:=qq0
 refine dW (hb pins s1 U H1 _ I1 q1) fun u s2 qq0=>?_
 obtain ⟨y,H2,I2,r2,q2⟩:=qq0
 exact hf v u s2 x y H2 I2 r1 r2 q2
theorem WR {op:Operator} {r:R2} (ho:OpR X (binaryOp op) r) (ha:PE X a ta) (hb:PE X b tb):PE X (.BinOp a op b pos) (Km r ta tb):=by
 intro pins s U H Q I h
 exact wpAny_BinOp (Uo ha hb I h fun v u s2 x y H2 I2 rx ry q=>ho pins s2 U H2 x y v u Q I2 rx ry q)
theorem WT {op:UnaryOp} {r:V->Hp->VK->Prop} (ho:YC X (unaryOp op) r) (ha:PE X a ta):PE X (.UnaryOp op a pos) (tUn r ta):=by
 intro pins s U H Q I h
 exact UnaryOp_ (dW (ha pins s U H _ I h) fun v s1 ⟨x,H1,I1,r1,q1⟩=>ho pins s1 U H1 x v Q I1 r1 q1)
theorem YD {f:Value->Value->Sem Value} {C:Int->Int->Prop} {g:Int->Int->Int}
  (rule:∀ (i j:Int) (t u:Tok) (s:Shared) (Q:Value->Shared->Prop) (E:Value->Shared->Prop),C i j->Q (.int (g i j) s.toks) {s with toks:=s.toks+1}->wpAny (model X.prog X.w) X.A (f (.int i t) (.int j u)) Q E s):
  OpR X f (rI C fun i j=>.int (g i j)):=by
 intro pins s U H x y v u Q I rx ry h
 obtain ⟨i,j,rfl,rfl,hc,q⟩:=h
 obtain ⟨t,rfl⟩:=rx
 obtain ⟨t',rfl⟩:=ry
 exact rule i j t t' s _ _ hc ⟨.int (g i j),H,I.tok _,⟨_,rfl⟩,q⟩
theorem Up {f:Value->Value->Sem Value} {g:Int->Int->Int}
  (rule:∀ (i j:Int) (t u:Tok) (s:Shared) (Q:Value->Shared->Prop) (E:Value->Shared->Prop),Q (.int (g i j) s.toks) {s with toks:=s.toks+1}->wpAny (model X.prog X.w) X.A (f (.int i t) (.int j u)) Q E s):
  OpR X f (Ko fun i j=>.int (g i j)):=by
 intro pins s U H x y v u Q I rx ry h
 obtain ⟨i,j,rfl,rfl,q⟩:=h
 obtain ⟨t,rfl⟩:=rx
 obtain ⟨t',rfl⟩:=ry
 exact rule i j t t' s _ _ ⟨.int (g i j),H,I.tok _,⟨_,rfl⟩,q⟩
theorem Px {f:Value->Value->Sem Value} {g:Int->Int->Bool}
  (rule:∀ (i j:Int) (t u:Tok) (s:Shared) (Q:Value->Shared->Prop) (E:Value->Shared->Prop),Q (.bool (g i j)) s->wpAny (model X.prog X.w) X.A (f (.int i t) (.int j u)) Q E s):
  OpR X f (Ko fun i j=>.bl (g i j)):=by
 intro pins s U H x y v u Q I rx ry h
 obtain ⟨i,j,rfl,rfl,q⟩:=h
 obtain ⟨t,rfl⟩:=rx
 obtain ⟨t',rfl⟩:=ry
 exact rule i j t t' s _ _ ⟨.bl (g i j),H,I,rfl,q⟩
def CDiv (i j:Int):Prop:=0 < j/\j < 1073741824
def CPow (i j:Int):Prop:=0<=j/\j<=1000000/\i.natAbs < 2 ^ 64
def CMul (i j:Int):Prop:=(-(2 ^ 64) < i/\i < 2 ^ 64)\/(-(2 ^ 64) < j/\j < 2 ^ 64)
theorem CMul.ok {i j:Int} (h:CMul i j):IntMulOk i j:=by
 rcases h with ⟨h1,h2⟩ | ⟨h1,h2⟩
 ·exact .of_left (intBits_le_64 h1 h2)
 ·exact .of_right (intBits_le_64 h1 h2)
theorem Uq:OpR X (binaryOp .Add) (Ko fun i j=>.int (i+j)):=Up fun _ _ _ _ _ _ _ q=>add_int q
theorem mL:OpR X (binaryOp .Sub) (Ko fun i j=>.int (i - j)):=Up fun _ _ _ _ _ _ _ q=>sub_int q
theorem Ur:OpR X (binaryOp .Mult) (rI CMul fun i j=>.int (i*j)):=YD fun _ _ _ _ _ _ _ hc q=>mul_int q hc.ok
theorem fG:OpR X (binaryOp .FloorDiv) (rI CDiv fun i j=>.int (i / j)):=YD fun i j _ _ _ _ _ hc q=>by
 have h1:(0:Int) < j:=hc.1
 have h2:j < 1073741824:=hc.2
 exact floordiv_int (by omega) (by rw [Int.fdiv_eq_ediv_of_nonneg i (by omega)];exact q) (.inl (PyProof.noPylong_small (by omega)))
theorem dX:OpR X (binaryOp .Mod) (rI (fun _ j=>0 < j) fun i j=>.int (i % j)):=YD fun i j _ _ _ _ _ hc q=>by
 have h1:(0:Int) < j:=hc
 exact mod_int' (by omega) (by rw [Int.fmod_eq_emod_of_nonneg i (by omega)];exact q)
theorem Us:OpR X (binaryOp .Pow) (rI CPow fun i j=>.int (i ^ j.toNat)):=YD fun _ _ _ _ _ _ _ hc q=>pow_int_small hc.1 hc.2.1 hc.2.2 q
theorem Py:OpR X (inplaceOp .Sub) (Ko fun i j=>.int (i - j)):=Up fun _ _ _ _ _ _ _ q=>isub_int q
theorem unI {f:Value->Sem Value} {g:Int->Int}
  (rule:∀ (i:Int) (t:Tok) (s:Shared) (Q:Value->Shared->Prop) (E:Value->Shared->Prop),Q (.int (g i) s.toks) {s with toks:=s.toks+1}->wpAny (model X.prog X.w) X.A (f (.int i t)) Q E s):
  YC X f (rU fun i=>.int (g i)):=by
 intro pins s U H x v Q I rx h
 obtain ⟨i,rfl,q⟩:=h
 obtain ⟨t,rfl⟩:=rx
 exact rule i t s _ _ ⟨.int (g i),H,I.tok _,⟨_,rfl⟩,q⟩
theorem vY:YC X (unaryOp .USub) (rU fun i=>.int (-i)):=unI fun _ _ _ _ _ q=>neg_int q
end
def WW:V->V->Bool
 | .non,.non=>true | .non,.int _=>true | .int _,.non=>true | .non,.bl _=>true | .bl _,.non=>true | .non,.str _=>true | .str _,.non=>true
 | .int _,.int _=>true | .bl _,.bl _=>true | .str _,.str _=>true | .byt _,.byt _=>true
 | .int _,.str _=>true | .str _,.int _=>true | .bl _,.str _=>true | .str _,.bl _=>true
 | _,_=>false
def rEq:R2:=fun x y H Q=>WW x y=true/\Q (.bl (decide (x=y))) H
def rNe:R2:=fun x y H Q=>WW x y=true/\Q (.bl (!decide (x=y))) H
theorem Fx {i j:Int}:decide (V.int i=V.int j)=(i == j):=by
 rw [Bool.eq_iff_iff]
 simp
theorem Kp {i j:Bool}:decide (V.bl i=V.bl j)=(i == j):=by
 rw [Bool.eq_iff_iff]
 simp
theorem Fy {i j:Str}:decide (V.str i=V.str j)=(i == j):=by
 rw [Bool.eq_iff_iff]
 simp
theorem Fz {i j:Array UInt8}:decide (V.byt i=V.byt j)=(i.toList == j.toList):=by
 rw [Bool.eq_iff_iff]
 cases i
 cases j
 simp
section
variable {X:Cx} {a b c:Expr} {ta tb tc:TE} {pos:Pos}
theorem bF {pins:List (Addr×Obj)} {U:St} {H:Hp} {s:Shared} {Q:VK} {k k':Bool} (I:Inv X pins U H s) (q:Q (.bl k) H) (e:k=k'):EP X pins U Q (.bool k') s:=by
 subst e
 exact ⟨.bl k,H,I,rfl,q⟩
theorem WX:OpR X (compareOp .Eq) rEq:=by
 intro pins s U H x y v u Q I rx ry h
 obtain ⟨hs,q⟩:=h
 cases x with
 | non=>
  cases rx
  cases y with
  | non=>cases ry;exact PySem.EqNone.eq_none_none (bF I q (by simp))
  | bl j=>cases ry;exact PySem.EqNone.eq_none_bool (bF I q (by simp))
  | int j=>obtain ⟨t',rfl⟩:=ry;exact PySem.EqNone.eq_none_int (bF I q (by simp))
  | str j=>obtain ⟨t',rfl⟩:=ry;exact PySem.EqNone.eq_none_str (bF I q (by simp))
  | _=>exact absurd (show false=true from hs) Y6
 | bl i=>
  cases rx
  cases y with
  | non=>cases ry;exact PySem.EqNone.eq_bool_none (bF I q (by simp))
  | bl j=>cases ry;exact eq_bool (bF I q Kp)
  | str j=>obtain ⟨t',rfl⟩:=ry;exact PySem.EqMixed.eq_bool_str (bF I q (by simp))
  | _=>exact absurd (show false=true from hs) Y6
 | int i=>
  obtain ⟨t,rfl⟩:=rx
  cases y with
  | non=>cases ry;exact PySem.EqNone.eq_int_none (bF I q (by simp))
  | int j=>obtain ⟨t',rfl⟩:=ry;exact eq_int (bF I q Fx)
  | str j=>obtain ⟨t',rfl⟩:=ry;exact PySem.EqMixed.eq_int_str (bF I q (by simp))
  | _=>exact absurd (show false=true from hs) Y6
 | str i=>
  obtain ⟨t,rfl⟩:=rx
  cases y with
  | non=>cases ry;exact PySem.EqNone.eq_str_none (bF I q (by simp))
  | bl j=>cases ry;exact PySem.EqMixed.eq_str_bool (bF I q (by simp))
  | int j=>obtain ⟨t',rfl⟩:=ry;exact PySem.EqMixed.eq_str_int (bF I q (by simp))
  | str j=>obtain ⟨t',rfl⟩:=ry;exact eq_str (bF I q Fy)
  | _=>exact absurd (show false=true from hs) Y6
 | byt i=>
  obtain ⟨t,rfl⟩:=rx
  cases y with
  | byt j=>obtain ⟨t',rfl⟩:=ry;exact PySem.W.eq_bytes (bF I q Fz)
  | _=>exact absurd (show false=true from hs) Y6
 | _=>cases y <;> exact absurd (show false=true from hs) Y6
theorem WY:OpR X (compareOp .NotEq) rNe:=by
 intro pins s U H x y v u Q I rx ry h
 obtain ⟨hs,q⟩:=h
 cases x with
 | non=>
  cases rx
  cases y with
  | non=>cases ry;exact PySem.EqNone.ne_none_none (bF I q (by simp))
  | bl j=>cases ry;exact PySem.EqNone.ne_none_bool (bF I q (by simp))
  | int j=>obtain ⟨t',rfl⟩:=ry;exact PySem.EqNone.ne_none_int (bF I q (by simp))
  | str j=>obtain ⟨t',rfl⟩:=ry;exact PySem.EqNone.ne_none_str (bF I q (by simp))
  | _=>exact absurd (show false=true from hs) Y6
 | bl i=>
  cases rx
  cases y with
  | non=>cases ry;exact PySem.EqNone.ne_bool_none (bF I q (by simp))
  | bl j=>cases ry;exact ne_bool (bF I q (congrArg not Kp))
  | str j=>obtain ⟨t',rfl⟩:=ry;exact PySem.EqMixed.ne_bool_str (bF I q (by simp))
  | _=>exact absurd (show false=true from hs) Y6
 | int i=>
  obtain ⟨t,rfl⟩:=rx
  cases y with
  | non=>cases ry;exact PySem.EqNone.ne_int_none (bF I q (by simp))
  | int j=>obtain ⟨t',rfl⟩:=ry;exact ne_int (bF I q (congrArg not Fx))
  | str j=>obtain ⟨t',rfl⟩:=ry;exact PySem.EqMixed.ne_int_str (bF I q (by simp))
  | _=>exact absurd (show false=true from hs) Y6
 | str i=>
  obtain ⟨t,rfl⟩:=rx
  cases y with
  | non=>cases ry;exact PySem.EqNone.ne_str_none (bF I q (by simp))
  | bl j=>cases ry;exact PySem.EqMixed.ne_str_bool (bF I q (by simp))
  | int j=>obtain ⟨t',rfl⟩:=ry;exact PySem.EqMixed.ne_str_int (bF I q (by simp))
  | str j=>obtain ⟨t',rfl⟩:=ry;exact ne_str (bF I q (congrArg not Fy))
  | _=>exact absurd (show false=true from hs) Y6
 | byt i=>
  obtain ⟨t,rfl⟩:=rx
  cases y with
  | byt j=>obtain ⟨t',rfl⟩:=ry;exact PySem.W.ne_bytes (bF I q (congrArg not Fz))
  | _=>exact absurd (show false=true from hs) Y6
 | _=>cases y <;> exact absurd (show false=true from hs) Y6
theorem Be:OpR X (compareOp .Lt) (Ko fun i j=>.bl (decide (i < j))):=Px fun _ _ _ _ _ _ _ q=>lt_int q
theorem Kq:OpR X (compareOp .LtE) (Ko fun i j=>.bl (decide (i<=j))):=Px fun _ _ _ _ _ _ _ q=>le_int q
theorem uM:OpR X (compareOp .Gt) (Ko fun i j=>.bl (decide (j < i))):=Px fun _ _ _ _ _ _ _ q=>gt_int q
theorem R4:OpR X (compareOp .GtE) (Ko fun i j=>.bl (decide (j<=i))):=Px fun _ _ _ _ _ _ _ q=>ge_int q
theorem Hy:OpR X (compareOp .In) (fun x y H Q=>∃ i j,x= .str i/\y= .str j/\Q (.bl (!(Builtin.Str.occurrences j i 0 j.length 1).isEmpty)) H):=by
 intro pins s U H x y v u Q I rx ry h
 obtain ⟨i,j,rfl,rfl,q⟩:=h
 obtain ⟨t,rfl⟩:=rx
 obtain ⟨t',rfl⟩:=ry
 exact in_str (bF I q rfl)
theorem Ut:OpR X (compareOp .Is) (fun x y H Q=>y= .non/\Q (.bl (decide (x= .non))) H):=by
 intro pins s U H x y v u Q I rx ry h
 obtain ⟨rfl,q⟩:=h
 cases ry
 refine is_none_gen (bF I q ?_)
 cases x <;> first
  | (cases rx;rfl)
  | (obtain ⟨t,rfl⟩:=rx;rfl)
theorem Pz:OpR X (compareOp .IsNot) (fun x y H Q=>y= .non/\Q (.bl (!decide (x= .non))) H):=by
 intro pins s U H x y v u Q I rx ry h
 obtain ⟨rfl,q⟩:=h
 cases ry
 refine isnot_none_gen (bF I q ?_)
 cases x <;> first
  | (cases rx;rfl)
  | (obtain ⟨t,rfl⟩:=rx;rfl)
theorem OpR.or {f:Value->Value->Sem Value} {r r':R2} (h:OpR X f r) (h':OpR X f r'):OpR X f (fun x y H Q=>r x y H Q\/r' x y H Q):=by
 intro pins s U H x y v u Q I rx ry q
 rcases q with q | q
 ·exact h pins s U H x y v u Q I rx ry q
 ·exact h' pins s U H x y v u Q I rx ry q
theorem aR (b:Expr) {op:CmpOp} (h:autoParam (op≠.In) L2.auto2._auto_1) (h2:autoParam (op≠.NotIn) L2.auto2._auto_1):behindInMarks op b=false:=by
 have e1:(op == CmpOp.In)=false:=by cases op <;> first | rfl | exact absurd rfl h
 have e2:(op == CmpOp.NotIn)=false:=by cases op <;> first | rfl | exact absurd rfl h2
 cases b <;> simp [behindInMarks,e1,e2]
theorem PB {op:CmpOp} {r:R2} (ho:OpR X (compareOp op) r) (ha:PE X a ta) (hb:PE X b tb) (hm:behindInMarks op b=false):PE X (.Compare a [op] [b] pos) (Km r ta tb):=by
 intro pins s U H Q I h
 exact wpAny_Compare1 (Uo ha hb I h fun v u s2 x y H2 I2 rx ry q=>ho pins s2 U H2 x y v u Q I2 rx ry q) hm
def ym (t:TE):TT:=fun U H Q=>t U H fun x H'=>∃ k,x= .bl k/\Q k H'
theorem PJ {op:CmpOp} {r:R2} (ho:OpR X (compareOp op) r) (ha:PE X a ta) (hb:PE X b tb) (hm:behindInMarks op b=false):PT X (.Compare a [op] [b] pos) (ym (Km r ta tb)):=by
 intro pins s U H Q I h
 refine wpAny_isTrue_Compare1 (dW (ha pins s U H _ I h) fun v s1 ⟨x,H1,I1,r1,q1⟩=>dW (hb pins s1 U H1 _ I1 q1) fun u s2 ⟨y,H2,I2,r2,q2⟩=>
  dW (ho pins s2 U H2 x y v u _ I2 r1 r2 q2) fun c s3 ⟨z,H3,I3,r3,k,e,q3⟩=>?_) hm
 subst e
 cases r3
 exact Z1 ⟨H3,I3,q3⟩
def vZ (r r':R2) (ta tb tc:TE):TE:=fun U H Q=>ta U H fun x H1=>tb U H1 fun y H2=>r x y H2 fun z H3=>∃ k,z= .bl k/\
 (if k=true then tc U H3 fun w' H4=>r' y w' H4 Q else Q (.bl false) H3)
theorem Kr {op op':CmpOp} {r r':R2} (ho:OpR X (compareOp op) r) (ho':OpR X (compareOp op') r') (ha:PE X a ta) (hb:PE X b tb) (hc:PE X c tc)
  (hm:autoParam (lastMarks [op,op'] [b,c]=false) L2.auto5._auto_1):PE X (.Compare a [op,op'] [b,c] pos) (vZ r r' ta tb tc):=by
 intro pins s U H Q I h
 refine Compare_chain (dW (ha pins s U H _ I h) fun v s1 ⟨x,H1,I1,r1,q1⟩=>chain_link (dW (hb pins s1 U H1 _ I1 q1) fun u s2 ⟨y,H2,I2,r2,q2⟩=>
  dW (ho pins s2 U H2 x y v u _ I2 r1 r2 q2) fun d s3 ⟨z,H3,I3,r3,k,e,q3⟩=>?_)) hm
 subst e
 cases r3
 refine Z1 ?_
 cases k with
 | false=>exact ite_ff ⟨.bl false,H3,I3,rfl,q3⟩
 | true=>exact ite_tt (chain_last (dW (hc pins s3 U H3 _ I3 q3) fun w' s4 ⟨z',H4,I4,r4,q4⟩=>ho' pins s4 U H4 y z' u w' Q I4 r2 r4 q4))
theorem Ks {op op':CmpOp} {r r':R2} (ho:OpR X (compareOp op) r) (ho':OpR X (compareOp op') r') (ha:PE X a ta) (hb:PE X b tb) (hc:PE X c tc)
  (hm:autoParam (lastMarks [op,op'] [b,c]=false) L2.auto5._auto_1):PT X (.Compare a [op,op'] [b,c] pos) (ym (vZ r r' ta tb tc)):=by
 intro pins s U H Q I h
 refine isTrue_chain (dW (ha pins s U H _ I h) fun v s1 ⟨x,H1,I1,r1,q1⟩=>test_link (dW (hb pins s1 U H1 _ I1 q1) fun u s2 ⟨y,H2,I2,r2,q2⟩=>
  dW (ho pins s2 U H2 x y v u _ I2 r1 r2 q2) fun d s3 ⟨z,H3,I3,r3,k,e,q3⟩=>?_)) hm
 subst e
 cases r3
 refine Z1 ?_
 cases k with
 | false=>
  obtain ⟨k',e',q'⟩:=q3
  cases e'
  exact ite_ff ⟨H3,I3,q'⟩
 | true=>
  refine ite_tt (test_last (dW (hc pins s3 U H3 _ I3 q3) fun w' s4 ⟨z',H4,I4,r4,q4⟩=>dW (ho' pins s4 U H4 y z' u w' _ I4 r2 r4 q4) fun d' s5 qq0=>?_))
  obtain ⟨z2,H5,I5,r5,k2,e2,q5⟩:=qq0
  subst e2
  cases r5
  exact Z1 ⟨H5,I5,q5⟩
theorem v8:(sizeLine:Nat) < 2 ^ 63:=by rw [sizeLine_eq];decide
theorem Dv:OpR X (binaryOp .Add) (fun x y H Q=>∃ i j,x= .str i/\y= .str j/\i.length+j.length<=sizeLine/\Q (.str (i ++ j)) H):=by
 intro pins s U H x y v u Q I rx ry h
 obtain ⟨i,j,rfl,rfl,hz,q⟩:=h
 obtain ⟨t,rfl⟩:=rx
 obtain ⟨t',rfl⟩:=ry
 exact add_str (fun t' tk=>⟨.str (i ++ j),H,I.tok _,⟨_,rfl⟩,q⟩) hz
theorem vals1 {x:V} {us:List Value} (r:Vals [x] us):∃ u,us=[u]/\RelV x u:=by
 cases r with
 | cons r1 r2=>cases r2;exact ⟨_,rfl,r1⟩
theorem vals2 {x y:V} {us:List Value} (r:Vals [x,y] us):∃ u w',us=[u,w']/\RelV x u/\RelV y w':=by
 cases r with
 | cons r1 r2=>
  cases r2 with
  | cons r3 r4=>cases r4;exact ⟨_,_,rfl,r1,r3⟩
theorem Hz (hc:X.calm=true):CallR X (.builtin "min") (fun xs H Q=>∃ i j,xs=[.int i,.int j]/\Q (.int (if j < i then j else i)) H):=by
 intro pins s U H xs us Q I r h
 obtain ⟨i,j,rfl,q⟩:=h
 obtain ⟨u,w',rfl,⟨t,rfl⟩,⟨t',rfl⟩⟩:=vals2 r
 refine min_two_ints (I.ok.hd hc) fun h' tk k=>⟨_,H,I.kept k,?_,q⟩
 by_cases hj:j < i
 ·rw [if_pos hj,if_pos hj];exact ⟨_,rfl⟩
 ·rw [if_neg hj,if_neg hj];exact ⟨_,rfl⟩
def W0 (K:W.Frag) (x:V) (H:Hp) (n:Nat):Prop:=
 match x with
 | .str y=>y.length<=sizeLine/\n=y.length
 | .byt y=>y.size<=sizeLine/\n=y.size
 | .ref p=>(∃ xs,SqL K H p xs/\n=xs.length)\/∃ xs,SqT K H p xs/\n=xs.length
 | _=>False
theorem Ku:CallR X (.builtin "len") (fun xs H Q=>∃ x n,xs=[x]/\W0 X.K x H n/\Q (.int n) H):=by
 intro pins s U H xs us Q I r h
 obtain ⟨x,n,rfl,e,q⟩:=h
 obtain ⟨u,rfl,rx⟩:=vals1 r
 have hl:=v8
 have hs:sizeLine=16777216:=sizeLine_eq
 cases x with
 | str y=>
  obtain ⟨t,rfl⟩:=rx
  obtain ⟨hy,e'⟩:y.length<=sizeLine/\n=y.length:=e
  subst e'
  exact len_str (by omega) ⟨.int _,H,I.tok _,⟨_,rfl⟩,q⟩
 | byt y=>
  obtain ⟨t,rfl⟩:=rx
  obtain ⟨hy,e'⟩:y.size<=sizeLine/\n=y.size:=e
  subst e'
  exact PySem.W.len_bytes (by omega) ⟨.int _,H,I.tok _,⟨_,rfl⟩,q⟩
 | ref p=>
  cases rx
  have e':(∃ xs,SqL X.K H p xs/\n=xs.length)\/∃ xs,SqT X.K H p xs/\n=xs.length:=e
  rcases e' with ⟨xs,hx,e'⟩ | ⟨xs,hx,e'⟩
  ·subst e'
   obtain ⟨its,r',pl,hz⟩:=I.list hx
   have hlen:=r'.length
   exact Calls.call_len_list pl.isList (by simp only [Zh];omega) ⟨.int xs.length,H,I.tok _,⟨_,by simp only [Zh];rw [hlen]⟩,q⟩
  ·subst e'
   obtain ⟨its,r',pl,hz⟩:=I.tuple hx
   have hlen:=r'.length
   exact len_tuple pl (by simp only [Zh];omega) ⟨.int xs.length,H,I.tok _,⟨_,by simp only [Zh];rw [hlen]⟩,q⟩
 | _=>exact (show False from e).elim
end
structure ObjM (h:Heap) (x dx C:Addr) (mA:Str->Option Value):Prop where
 obj:h.get? x=some (PySem.W.instObj C dx)
 ns:h.Ns1 dx mA
 ne:dx≠x
theorem uh {h:Heap} {dx:Addr} {mA:Str->Option Value} (n:h.Ns1 dx mA):∃ od,h.get? dx=some od/\∀ name,PySem.W.lookIn name od=some (mA name):=by
 obtain ⟨o,es,ep,ho,hd,hk,_,hm⟩:=n
 refine ⟨o,ho,fun name=>?_⟩
 have e:=hm name
 unfold nsFind findBy at e
 rw [← Array.find?_toList] at e
 unfold PySem.W.lookIn
 rw [hd]
 dsimp only
 split
 ·rename_i y q
  rw [q] at e
  exact congrArg some e
 ·rename_i q
  rw [q] at e
  have a:es.toList.any (·.refKey)=false:=by
   rw [List.any_eq_false]
   intro y hy
   obtain ⟨z,t,hkey⟩:=hk y (Array.mem_toList_iff.mp hy)
   simp [DictEntry.refKey,hkey]
  have a':¬ es.toList.any (·.refKey)=true:=by rw [a];exact Y6
  rw [if_neg a']
  exact congrArg some e
theorem ObjM.look {h:Heap} {x dx C:Addr} {mA:Str->Option Value} (I:ObjM h x dx C mA):∃ od,PySem.W.InstAt h x (PySem.W.instObj C dx) C (some od)/\∀ name,PySem.W.lookIn name od=some (mA name):=
 let ⟨od,ho,hl⟩:=uh I.ns
 ⟨od,⟨I.obj,rfl,rfl,ho⟩,hl⟩
section
variable {prog:Program} {w:World} {A:Around} {E:Value->Shared->Prop} {s:Shared} {K:W.Frag} {x dx C f:Addr} {mA:Str->Option Value} {name:Str} {v:Value}
theorem PK {expr:Bool} {Q:Value->Shared->Prop} (X:K.In s.heap) (I:ObjM s.heap x dx C mA) (hg:PySem.W.plainGet K C name=true) (hh:PySem.W.hasDictIn K C=true)
  (ha:PySem.W.findIn K (.ref C) name=some none) (hv:mA name=some v) (hv':PySem.W.handedIn v=true) (h:Q v {s with toks:=s.toks+1}):
  wpAny (model prog w) A (getAttr (.ref x) name expr) Q E s:=by
 obtain ⟨od,J,hl⟩:=I.look
 exact PySem.W.get_value X J (PySem.W.plainGet_of hg).1 (PySem.W.findObj_own hh ha rfl (by rw [hl,hv])) hv' h
theorem Kv {pl:Sem Bool} {Q:Value×List Value->Shared->Prop} (X:K.In s.heap) (I:ObjM s.heap x dx C mA) (hg:PySem.W.plainGet K C name=true)
  (hf:PySem.W.findIn K (.ref C) name=some (some (.ref f))) (ht:PySem.W.isFn K (.ref f)=true) (hv:mA name=none) (h:Q (.ref f,[.ref x]) s):
  wpAny (model prog w) A (getMethod (.ref x) name pl) Q E s:=by
 obtain ⟨od,J,hl⟩:=I.look
 exact PySem.W.method_fn X J (PySem.W.plainGet_of hg).1 (PySem.W.plainGet_of hg).2 hf (Aao.mp ht) (by show (PySem.W.lookIn name od).map (·.isSome)=some false;rw [hl,hv];rfl) h
theorem PL {ns:List Str} {Q:Unit->Shared->Prop} (X:K.In s.heap) (I:ObjM s.heap x dx C mA)
  (hs:PySem.W.findIn K (.ref C) "__setattr__"=some (some (.builtin "object.__setattr__"))) (hp:PySem.W.plainOver K C=true) (ht:PySem.W.takerIn K C name=some none) (hh:PySem.W.hasDictIn K C=true)
  (hw:PySem.Within mA ns) (hsz:ns.length<=sizeLine)
  (h:∀ h',ObjM h' x dx C (fun y=>if y=name then some v else mA y)->Heap.SameBut dx s.heap h'->Q () {s with heap:=h',toks:=s.toks+2}):
  wpAny (model prog w) A (setAttr (.ref x) name v) Q E s:=by
 obtain ⟨od,J,hl⟩:=I.look
 refine PySem.W.set_plain X J hs (PySem.W.osa_open (s:={s with toks:=s.toks+1}) (r:=none) X J hp ht fun b=>?_)
 obtain ⟨cd,hc,hd'⟩:=PySem.W.any_some hh
 have hx:s.heap.get? x=some ⟨.ref C,some dx,.plain,#[]⟩:=I.obj
 refine YS (YX (YS (YS (Aai hx (YS (PySem.W.Looks.here (s:={s with toks:=s.toks+1}) (PySem.W.looks_clsIn X hc) ?_))))))
 rw [hd']
 refine YX (a:=some dx) (YS (YX (YS ?_)))
 refine wpAny_nsSet1 (s:={s with toks:=s.toks+1}) I.ns fun h' hn2 hs2=>?_
 obtain ⟨oD,esD,epD,hoD,hdD,hcD⟩:=hn2.count (PySem.Within.cons name v hw)
 refine YS (wpAny_lookBehind hoD (by rw [hdD];exact pastItsLine_dict (Zm hcD (by rw [Z6];omega))) ?_)
 exact YX (h _ ⟨(hs2.2 _ (Ne.symm I.ne)).trans I.obj,hn2,I.ne⟩ hs2)
theorem Kw {R:Result->Shared->Prop} {vs:List Value} {kw:List (Str×Value)} (X:K.In s.heap) (hm:PySem.W.makesIn K C=true)
  (hi:PySem.W.findIn K (.ref C) "__init__"=some (some (.ref f))) (hf:PySem.W.typeIn K (.ref f)=some (.type "function"))
  (h:codeAny (model prog w) (A.under (.builtin "type.__call__" ⟨.ref C :: vs,kw⟩)) (.call (.ref f) ⟨.ref (s.heap.objs.size+1) :: vs,kw⟩) (PySem.W.InitBack (s.heap.objs.size+1) R)
   {s with heap:=(s.heap.push PySem.W.emptyDict).push (PySem.W.instObj C s.heap.objs.size)}):
  codeAny (model prog w) A (.call (.ref C) ⟨vs,kw⟩) R s:=by
 obtain ⟨hh,g,d,t,os⟩:=s
 exact PySem.W.make_core (PySem.W.makes_of X hm) (Z9 X hi) (fun self=>PySem.W.bind_fn X self hf) (.inl rfl) h
end
def lA (f:Str) (v:V):List (Str×V)->List (Str×V)
 | []=>[(f,v)]
 | (g,x) :: r=>if g=f then (g,v) :: r else (g,x) :: lA f v r
theorem pG (f g:Str) (v:V):∀ fs:List (Str×V),(lA f v fs).lookup g=if g=f then some v else fs.lookup g
 | []=>by
  show List.lookup g [(f,v)]=_
  by_cases h:g=f
  ·have hb:(g == f)=true:=Aao.mpr h
   simp only [List.lookup,hb,if_pos h]
  ·have hb:(g == f)=false:=Aax.mpr h
   simp only [List.lookup,hb,if_neg h]
 | (k,x) :: r=>by
  have ih:=pG f g v r
  rw [show lA f v ((k,x) :: r)=(if k=f then (k,v) :: r else (k,x) :: lA f v r) from rfl]
  by_cases hk:k=f
  ·rw [if_pos hk]
   by_cases h:g=k
   ·have hb:(g == k)=true:=Aao.mpr h
    simp only [List.lookup,hb,if_pos (h.trans hk)]
   ·have hb:(g == k)=false:=Aax.mpr h
    simp only [List.lookup,hb,if_neg (fun e:g=f=>h (e.trans hk.symm))]
  ·rw [if_neg hk]
   by_cases h:g=k
   ·have hb:(g == k)=true:=Aao.mpr h
    simp only [List.lookup,hb,if_neg (fun e:g=f=>hk (h.symm.trans e))]
   ·have hb:(g == k)=false:=Aax.mpr h
    simp only [List.lookup,hb]
    exact ih
theorem um (f:Str) (v:V):∀ fs:List (Str×V),f∈(lA f v fs).map (·.1)/\∀ g,g∈fs.map (·.1)->g∈(lA f v fs).map (·.1)
 | []=>⟨by simp [lA],fun g h=>by simp at h⟩
 | (k,x) :: r=>by
  obtain ⟨i1,i2⟩:=um f v r
  rw [show lA f v ((k,x) :: r)=(if k=f then (k,v) :: r else (k,x) :: lA f v r) from rfl]
  by_cases hk:k=f
  ·rw [if_pos hk]
   subst hk
   exact ⟨by simp,fun g h=>by simpa using h⟩
  ·rw [if_neg hk]
   refine ⟨?_,fun g h=>?_⟩
   ·rw [ZQ]
    exact Zg _ i1
   ·rw [ZQ] at h ⊢
    rcases Y7.mp h with e | e
    ·exact Y7.mpr (.inl e)
    ·exact Zg _ (i2 g e)
theorem uN (f:Str) (v:V):∀ fs:List (Str×V),(lA f v fs).length<=fs.length+1
 | []=>by simp [lA]
 | (k,x) :: r=>by
  have ih:=uN f v r
  rw [show lA f v ((k,x) :: r)=(if k=f then (k,v) :: r else (k,x) :: lA f v r) from rfl]
  by_cases hk:k=f
  ·rw [if_pos hk,Z6,Z6];omega
  ·rw [if_neg hk,Z6,Z6];omega
theorem RelO.some_of {v:V} {o:Option Value} (r:RelO (some v) o):∃ u,o=some u/\RelV v u:=by
 cases o with
 | none=>exact (show False from r).elim
 | some u=>exact ⟨u,rfl,r⟩
theorem RelO.none_of {o:Option Value} (r:RelO none o):o=none:=by
 cases o with
 | none=>rfl
 | some u=>exact (show False from r).elim
theorem yo {v:V} {u:Value} (r:RelV v u):PySem.W.handedIn u=true:=by
 cases v with
 | non=>cases (show u=Value.none from r);rfl
 | bl b=>cases (show u=Value.bool b from r);rfl
 | int i=>obtain ⟨t,e⟩:=(show ∃ t,u=Value.int i t from r);cases e;rfl
 | str x=>obtain ⟨t,e⟩:=(show ∃ t,u=Value.str x t from r);cases e;rfl
 | byt b=>obtain ⟨t,e⟩:=(show ∃ t,u=Value.bytes b t from r);cases e;rfl
 | flt b=>obtain ⟨t,e⟩:=(show ∃ t,u=Value.float b t from r);cases e;rfl
 | ref a=>cases (show u=Value.ref a from r);rfl
 | ty n=>cases (show u=Value.type n from r);rfl
section
variable {P:Program} {w:World} {H H':Hp} {h h':Heap} {a C dx:Addr} {fs fs':List (Str×V)}
theorem qC (hok:HOk P w H h) (e:H a=some (.ins C dx fs)):∃ mA,ObjM h a dx C mA/\(∀ f,RelO (fs.lookup f) (mA f))/\PySem.Within mA (fs.map (·.1))/\fs.length<=1000/\H dx=some (.own a):=by
 obtain ⟨d,z,ne,ob,mA,n,r,q⟩:=(show ObjOk P w H h a (.ins C dx fs) from hok a _ e)
 exact ⟨mA,⟨ob,n,ne⟩,r,q,z,d⟩
end
structure Cls (K:W.Frag) (C:Addr):Prop where
 pg:PySem.W.plainGet K C Str.empty=true
 hd:PySem.W.hasDictIn K C=true
 po:PySem.W.plainOver K C=true
 sa:PySem.W.findIn K (.ref C) "__setattr__"=some (some (.builtin "object.__setattr__"))
theorem Cls.get {K:W.Frag} {C:Addr} (c:Cls K C) (f:Str):PySem.W.plainGet K C f=true:=c.pg
def NoAttr (K:W.Frag) (C:Addr) (f:Str):Prop:=PySem.W.findIn K (.ref C) f=some none
theorem NoAttr.taker {K:W.Frag} {C:Addr} {f:Str} (n:NoAttr K C f):PySem.W.takerIn K C f=some none:=by
 unfold PySem.W.takerIn
 rw [show PySem.W.findIn K (.ref C) f=some none from n]
 rfl
structure Meth (K:W.Frag) (C:Addr) (m:Str) (f:Addr):Prop where
 at_:PySem.W.findIn K (.ref C) m=some (some (.ref f))
 fn:PySem.W.isFn K (.ref f)=true
 kp:PySem.W.keepIn K (.ref f)=true
section
variable {X:Cx} {pins:List (Addr×Obj)} {U:St} {H:Hp} {s:Shared} {a C dx:Addr} {fs:List (Str×V)} {f:Str} {v:V} {A:Around} {E:Value->Shared->Prop}
theorem Dw {b:Bool} {Q:Value->Shared->Prop} (I:Inv X pins U H s) (e:H a=some (.ins C dx fs)) (c:Cls X.K C) (n:NoAttr X.K C f) (l:fs.lookup f=some v)
  (h:∀ u s',Inv X pins U H s'->RelV v u->Q u s'):wpAny (model X.prog X.w) A (getAttr (.ref a) f b) Q E s:=by
 obtain ⟨mA,O,r,_,_,_⟩:=qC I.hok e
 obtain ⟨u,hu,ru⟩:=RelO.some_of (v:=v) (o:=mA f) (by rw [← l];exact r f)
 exact PK I.kIn O (c.get f) c.hd n hu (yo ru) (h u _ (I.tok _) ru)
theorem qY {m:Str} {g:Addr} {pl:Sem Bool} {Q:Value×List Value->Shared->Prop} (I:Inv X pins U H s) (e:H a=some (.ins C dx fs)) (c:Cls X.K C) (k:Meth X.K C m g) (l:fs.lookup m=none)
  (h:Q (.ref g,[.ref a]) s):wpAny (model X.prog X.w) A (getMethod (.ref a) m pl) Q E s:=by
 obtain ⟨mA,O,r,_,_,_⟩:=qC I.hok e
 have hn:mA m=none:=RelO.none_of (by rw [← l];exact r m)
 exact Kv I.kIn O (c.get m) k.at_ k.fn hn h
theorem Dy {y:V} {u:Value} {Q:Unit->Shared->Prop} (I:Inv X pins U H s) (e:H a=some (.ins C dx fs)) (c:Cls X.K C) (n:NoAttr X.K C f) (hl:fs.length < 1000) (ry:RelV y u)
  (h:∀ s',Inv X pins U (upd H a (.ins C dx (lA f y fs))) s'->Q () s'):wpAny (model X.prog X.w) A (setAttr (.ref a) f u) Q E s:=by
 obtain ⟨mA,O,r,wi,_,ho⟩:=qC I.hok e
 have hz:(fs.map (·.1)).length<=sizeLine:=by rw [Zj,sizeLine_eq];omega
 refine PL I.kIn O c.sa c.po n.taker c.hd wi hz fun h' O' sb=>h _ ?_
 have hd:∃ o,h'.get? dx=some o:=let ⟨o,_,_,e',_⟩:=O'.ns;⟨o,e'⟩
 refine I.write (x:=a) (e:=dx) (by rw [e];exact True.intro) (.inr ho) (fun b q hb z=>(sb.2 b hb).trans z) hd ?_
 refine ⟨by rw [aG O.ne];exact ho,?_,O.ne,O'.obj,_,O'.ns,fun g=>?_,fun g hg=>?_⟩
 ·have:=uN f y fs;omega
 ·show RelO ((lA f y fs).lookup g) (if g=f then some u else mA g)
  rw [pG]
  by_cases q:g=f
  ·rw [if_pos q,if_pos q];exact ry
  ·rw [if_neg q,if_neg q];exact r g
 ·by_cases q:g=f
  ·rw [q];exact (um f y fs).1
  ·refine (um f y fs).2 g (wi g fun z=>hg ?_)
   show (if g=f then some u else mA g)=none
   rw [if_neg q];exact z
theorem Inv.made (I:Inv X pins U H s):Inv X pins U (upd (upd H s.heap.objs.size (.own (s.heap.objs.size+1))) (s.heap.objs.size+1) (.ins C s.heap.objs.size []))
  {s with heap:=(s.heap.push PySem.W.emptyDict).push (PySem.W.instObj C s.heap.objs.size)}:=by
 have e1:(s.heap.push PySem.W.emptyDict).get? s.heap.objs.size=some PySem.W.emptyDict:=Za s.heap rfl
 have e2:((s.heap.push PySem.W.emptyDict).push (PySem.W.instObj C s.heap.objs.size)).get? (s.heap.objs.size+1)=some (PySem.W.instObj C s.heap.objs.size):=by
  have:=Za (s.heap.push PySem.W.emptyDict) (o:=PySem.W.instObj C s.heap.objs.size) rfl
  rwa [Aaj] at this
 have e3:(s.heap.push PySem.W.emptyDict).Ns s.heap.objs.size (fun _=>none):=⟨PySem.W.emptyDict,#[],_,e1,rfl,(fun e he=>absurd he (by simp)),fun _=>rfl⟩
 have I1:=I.laid (a:=s.heap.objs.size) (o:=.own (s.heap.objs.size+1)) (h':=s.heap.push PySem.W.emptyDict) (t':=s.toks) (fun b u q=>Y0 _ q) (Y4 _) ⟨_,e1⟩
 refine I1.laid (a:=s.heap.objs.size+1) (o:=.ins C s.heap.objs.size []) (t':=s.toks) (fun b u q=>Y0 _ q) (Nat.le_of_eq (Aaj _ _)) ?_
 have ne:s.heap.objs.size≠s.heap.objs.size+1:=Zt (Nat.lt_succ_self _)
 refine ⟨by rw [aG ne,aj],Z7 _,ne,e2,fun _=>none,(Heap.Ns1.of_empty e3).at fun o q=>Y0 _ q,fun _=>True.intro,fun y hy=>absurd rfl hy⟩
theorem FJ {prog:Program} {w:World} {env:Env} {e:Expr} {f:Str} {pos:Pos} {s:Shared} {Q:Value->Shared->Prop} (hb:attributeBase e f env (eval e env)=eval e env)
  (h:wpAny (model prog w) A (eval e env) (fun o s₁=>wpAny (model prog w) A (getAttr o f true) Q E s₁) E s):wpAny (model prog w) A (eval (.Attribute e f pos) env) Q E s:=
 Attribute_any_ h (by rw [arm_eval_Attribute,hb])
end
def Uu (K:W.Frag) (ta:TE) (f:Str):TE:=fun U H Q=>ta U H fun x H1=>∃ a C dx fs v,x= .ref a/\H1 a=some (.ins C dx fs)/\Cls K C/\NoAttr K C f/\fs.lookup f=some v/\Q v H1
def Uv (K:W.Frag) (ta tv:TE) (f:Str):TS:=fun D U H=>tv U H fun y H1=>ta U H1 fun x H2=>∃ a C dx fs,x= .ref a/\H2 a=some (.ins C dx fs)/\Cls K C/\NoAttr K C f/\fs.length < 1000/\
 D.nx U (upd H2 a (.ins C dx (lA f y fs)))
section
variable {X:Cx} {o e value:Expr} {f:Str} {pos pos' tpos:Pos} {ta tv:TE}
theorem Uw (he:PE X e ta) (hb:attributeBase e f X.env (eval e X.env)=eval e X.env):PE X (.Attribute e f pos) (Uu X.K ta f):=by
 intro pins s U H Q I h
 refine FJ hb (dW (he pins s U H _ I h) fun u s1 qq0=>?_)
 obtain ⟨x,H1,I1,rx,a,C,dx,fs,v,ex,ea,c,n,l,q⟩:=qq0
 subst ex
 obtain rfl:u=Value.ref a:=rx
 exact Dw I1 ea c n l fun u' s2 I2 ru=>⟨v,H1,I2,ru,q⟩
theorem Ux (ha:PE X o ta) (hv:PE X value tv) (hs:swapsWith value (some (.Attribute o f pos')) pos.line X.env=pure false):PS X (.Assign [.Attribute o f pos'] value pos) (Uv X.K ta tv f):=by
 intro pins s U H D I h
 refine plainObj_wpAny_Assign_Attribute (dW (hv pins s U H _ I h) fun u s1 ⟨y,H1,I1,ry,q⟩=>dW (ha pins s1 U H1 _ I1 q) fun ov s2 qq0=>?_) hs
 obtain ⟨x,H2,I2,rx,a,C,dx,fs,ex,ea,c,n,l,q2⟩:=qq0
 subst ex
 obtain rfl:ov=Value.ref a:=rx
 exact Dy I2 ea c n l ry fun s3 I3=>⟨U,_,I3,q2⟩
end
section
variable {X:Cx} {pins:List (Addr×Obj)} {U:St} {H:Hp} {s:Shared} {A:Around} {E:Value->Shared->Prop} {Q:Value->Shared->Prop} {c:Value} {b:Bool}
inductive TyOf (K:W.Frag) (H:Hp):V->Value->Prop where
 | non:TyOf K H .non (.type "NoneType")
 | bl (x:Bool):TyOf K H (.bl x) (.type "bool")
 | int (i:Int):TyOf K H (.int i) (.type "int")
 | str (x:Str):TyOf K H (.str x) (.type "str")
 | flt (x:UInt64):TyOf K H (.flt x) (.type "float")
 | lst {a:Addr} {xs:List V} (e:H a=some (.lst xs)):TyOf K H (.ref a) (.type "list")
 | frz {a:Addr} {o:Obj} {xs:List V} (e:H a=some (.frz o (.lst xs))):TyOf K H (.ref a) (.type "list")
 | tup {a:Addr} {xs:List V} (e:H a=some (.tup xs)):TyOf K H (.ref a) (.type "tuple")
 | dK {a:Addr} {kvs:List (Key×V)} (e:H a=some (.dK kvs)):TyOf K H (.ref a) (.type "dict")
 | dT {a:Addr} {kvs:List (List Key×V)} (e:H a=some (.dT kvs)):TyOf K H (.ref a) (.type "dict")
 | ins {a C dx:Addr} {fs:List (Str×V)} (e:H a=some (.ins C dx fs)) (cl:Cls K C) (ha:PySem.W.findIn K (.ref C) "__class__"=some (some (.builtin "object.__class__")))
   (hn:PySem.W.specialIn K (.builtin "object.__class__") "__get__"=some (some (.builtin "getset_descriptor.__get__"))) (htk:PySem.W.takesIn K (.builtin "object.__class__")=some true)
   (hm:PySem.W.mroIn K C (.type "object")=some true):TyOf K H (.ref a) (.ref C)
theorem HD {x:V} {u t:Value} (I:Inv X pins U H s) (rx:RelV x u) (ty:TyOf X.K H x t) (e:PySem.W.kitOne X.K t c=some b) (h:∀ tk,Q (.bool b) {s with toks:=tk}):
  wpAny (model X.prog X.w) A (call (.builtin "isinstance") [u,c]) Q E s:=by
 cases ty with
 | non=>cases (show u=Value.none from rx);exact Z4 PySem.W.kitx_none I.kIn True.intro e (fun z=>nomatch z) h
 | bl y=>cases (show u=Value.bool y from rx);exact Z4 PySem.W.kitx_bool I.kIn True.intro e (fun z=>nomatch z) h
 | int i=>obtain ⟨t,q⟩:=(show ∃ t,u=Value.int i t from rx);cases q;exact Z4 PySem.W.kitx_int I.kIn True.intro e (fun z=>nomatch z) h
 | str y=>obtain ⟨t,q⟩:=(show ∃ t,u=Value.str y t from rx);cases q;exact Z4 PySem.W.kitx_str I.kIn True.intro e (fun z=>nomatch z) h
 | flt y=>obtain ⟨t,q⟩:=(show ∃ t,u=Value.float y t from rx);cases q;exact Z4 PySem.W.kitx_float I.kIn True.intro e (fun z=>nomatch z) h
 | @lst a xs ea=>
  cases (show u=Value.ref a from rx)
  obtain ⟨_,_,n,_,h1⟩:=(show ObjOk X.prog X.w H s.heap a (.lst xs) from I.hok a _ ea)
  exact Z4 PySem.W.kitx_list I.kIn ⟨_,h1,rfl⟩ e (fun z=>nomatch z) h
 | @frz a ob xs ea=>
  cases (show u=Value.ref a from rx)
  obtain ⟨_,_,_,n,_,h1⟩:=(show ObjOk X.prog X.w H s.heap a (.frz ob (.lst xs)) from I.hok a _ ea)
  exact Z4 PySem.W.kitx_list I.kIn ⟨_,h1,rfl⟩ e (fun z=>nomatch z) h
 | @tup a xs ea=>
  cases (show u=Value.ref a from rx)
  obtain ⟨_,_,_,p⟩:=(show ObjOk X.prog X.w H s.heap a (.tup xs) from I.hok a _ ea)
  obtain ⟨o,h1,h2,_⟩:=p
  exact Z4 PySem.W.kitx_tuple I.kIn ⟨o,h1,h2⟩ e (fun z=>nomatch z) h
 | @dK a kvs ea=>
  cases (show u=Value.ref a from rx)
  obtain ⟨_,_,vs,_,p⟩:=(show ObjOk X.prog X.w H s.heap a (.dK kvs) from I.hok a _ ea)
  obtain ⟨o,es,ep,h1,h2,_⟩:=p
  exact Z4 PySem.W.kitx_dict I.kIn ⟨o,h1,h2.1⟩ e (fun z=>nomatch z) h
 | @dT a kvs ea=>
  cases (show u=Value.ref a from rx)
  obtain ⟨_,_,xs,_,o,es,ep,h1,h2,_⟩:=(show ObjOk X.prog X.w H s.heap a (.dT kvs) from I.hok a _ ea)
  exact Z4 PySem.W.kitx_dict I.kIn ⟨o,h1,h2.1⟩ e (fun z=>nomatch z) h
 | @ins a C dx fs ea cl ha hn htk hm=>
  cases (show u=Value.ref a from rx)
  obtain ⟨mA,O,_⟩:=qC I.hok ea
  obtain ⟨od,J,_⟩:=O.look
  exact Z4 (PySem.W.kitx_own (cl.get _) cl.hd ha hn htk hm) I.kIn J e (fun z=>nomatch z) h
end
structure Room (k:Nat) (A:Around):Prop where
 hd:A.handled=none
 dp:A.depth+3*k+5 < recursionLimit
 un:A.units+16*k+200 < cLine
 gd:A.guards=some []
theorem Room.mono {j k:Nat} {A:Around} (r:Room k A) (h:j<=k):Room j A:=⟨r.hd,by have:=r.dp;omega,by have:=r.un;omega,r.gd⟩
theorem Room.deeper {k:Nat} {A:Around} (r:Room (k+1) A) (env:Env):Room k (A.deeper env):=
 ⟨r.hd,by have:=r.dp;show A.depth+1+3*k+5 < _;omega,by have:=r.un;show A.units+3+16*k+200 < _;omega,r.gd⟩
theorem Dz {A:Around} {C:Addr} {us:List Value} {kw:List (Str×Value)}:(A.under (.builtin "type.__call__" ⟨.ref C :: us,kw⟩)).depth=A.depth+1:=by
 first | rfl | simp [Around.under,Code.weight,Code.isCreation,Code.isGuard,Code.isCaller,Code.frames,Code.isFrame,guardIds]
theorem DG {A:Around} {C:Addr} {us:List Value} {kw:List (Str×Value)}:(A.under (.builtin "type.__call__" ⟨.ref C :: us,kw⟩)).units=A.units+1:=by
 first | rfl | simp [Around.under,Code.cUnits,Code.frames,Code.isFrame]
theorem Bf {A:Around} {C:Addr} {us:List Value} {kw:List (Str×Value)}:(A.under (.builtin "type.__call__" ⟨.ref C :: us,kw⟩)).guards=pushGuards [] A.guards:=by
 first | rfl | simp [Around.under,Code.guards,Code.isGuard,guardIds]
theorem Room.make {k:Nat} {A:Around} (r:Room (k+1) A) (C:Addr) (us:List Value) (kw:List (Str×Value)):Room k (A.under (.builtin "type.__call__" ⟨.ref C :: us,kw⟩)):=
 ⟨r.hd,by have:=r.dp;rw [Dz];omega,by have:=r.un;rw [DG];omega,(Bf.trans (by rw [r.gd];rfl))⟩
theorem Room.depth {k:Nat} {A:Around} (r:Room k A):A.depth < recursionLimit:=by have:=r.dp;omega
theorem Room.units {k:Nat} {A:Around} (r:Room k A):A.units+64 < cLine:=by have:=r.un;omega
theorem Room.units0 {k:Nat} {A:Around} (r:Room k A):A.units < cLine:=by have:=r.un;omega
def Ky:TA:=fun _ H Q=>Q [] H
def FN (ta:TE) (tr:TA):TA:=fun U H Q=>ta U H fun x H1=>tr U H1 fun xs H2=>Q (x :: xs) H2
section
variable {X:Cx} {e:Expr} {es:List Expr} {te:TE} {t:TA} {pos:Pos}
theorem Uy:PA X [] Ky:=fun _ _ _ _ H Q I h=>Calls.spliced_nil ⟨[],H,I,.nil,h⟩
theorem PN (ha:PE X e te) (hr:PA X es t) (hs:autoParam (starEach (e :: es) X.env=(false,eval e X.env) :: starEach es X.env) L2.auto4._auto_1):PA X (e :: es) (FN te t):=by
 intro pos pins s U H Q I h
 rw [hs]
 show wpAny _ _ (spliced ((false,eval e X.env) :: backTo pos (starEach es X.env))) _ _ s
 refine Calls.spliced_cons (dW (ha pins s U H _ I h) fun u s1 qq0=>?_)
 obtain ⟨x,H1,I1,r1,q1⟩:=qq0
 exact dW (hr pos pins s1 U H1 _ I1 q1) fun us s2 ⟨xs,H2,I2,r2,q2⟩=>⟨x :: xs,H2,I2,.cons r1 r2,q2⟩
def PP (t:TA):TE:=fun U H Q=>t U H fun xs H1=>xs.length<=sizeLine/\∀ p,H1 p=none->Q (.ref p) (upd H1 p (.tup xs))
def PQ (t:TA):TE:=fun U H Q=>t U H fun xs H1=>xs.length<=sizeLine/\∀ p,H1 p=none->Q (.ref p) (upd H1 p (.lst xs))
theorem Uz {x1} (h:PA X es t):PE X (.Tuple es x1 pos) (PP t):=by
 intro pins s U H Q I hq
 refine wpAny_Tuple_spliced (dW (h pos pins s U H _ I hq) fun us s1 ⟨xs,H1,I1,r,z,q⟩=>⟨by rw [← r.length];exact z,?_⟩)
 have hf:H1 s1.heap.objs.size=none:=I1.hok.fresh (Y4 _)
 refine ⟨.ref s1.heap.objs.size,upd H1 s1.heap.objs.size (.tup xs),I1.laid (t':=s1.toks) (fun b u e=>Y0 _ e) (Y4 _) ?_,rfl,q _ hf⟩
 exact ⟨z,us,r,⟨_,Za _ rfl,rfl,_,rfl⟩⟩
theorem UG (h:PA X es t):PE X (.List es pos) (PQ t):=by
 intro pins s U H Q I hq
 refine wpAny_List_spliced (dW (h pos pins s U H _ I hq) fun us s1 ⟨xs,H1,I1,r,z,q⟩=>⟨by rw [← r.length];exact z,?_⟩)
 have hf:H1 s1.heap.objs.size=none:=I1.hok.fresh (Y4 _)
 refine ⟨.ref s1.heap.objs.size,upd H1 s1.heap.objs.size (.lst xs),I1.laid (t':=s1.toks) (fun b u e=>Y0 _ e) (Y4 _) ?_,rfl,q _ hf⟩
 exact ⟨z,us,0,r,Za _ rfl⟩
end
abbrev Sp:=List V->Hp->VK->XK->Prop
abbrev HF:=List Env->Hp->Shared->XK->Value->Shared->Prop
structure Env0 (P:Program) (w:World) (K:W.Frag) (mg:Str->Option Value) (base:Heap) (A:Around) (outer:List Env) (s:Shared) (H:Hp):Prop where
 frames:A.frames=some outer
 mod:Mod K mg base
 bs:∀ b o,base.get? b=some o->s.heap.get? b=some o/\H b=none
 bsz:base.objs.size<=s.heap.objs.size
 funs:s.heap.FunFrames base outer
 frf:∀ b∈frs outer,H b=none
 hok:HOk P w H s.heap
 bare:AllBare s.gens
def CE (outer:List Env) (P:Program) (w:World) (H:Hp) (s:Shared) (Q:VK) (u:Value) (s':Shared):Prop:=
 ∃ v H',s'.os=s.os/\AllBare s'.gens/\Un (frs outer) [] H H' s.heap s'.heap/\HOk P w H' s'.heap/\RelV v u/\Q v H'
def CR (CX:HF) (outer:List Env) (P:Program) (w:World) (H:Hp) (s:Shared) (Q:VK) (E:XK) (r:Result) (s':Shared):Prop:=
 match r with
 | .ok (.ret u)=>CE outer P w H s Q u s'
 | .ok _=>False
 | .error e=>CX outer H s E e s'
structure FnOk (P:Program) (w:World) (K:W.Frag) (mg:Str->Option Value) (base:Heap) (CX:HF) (k:Nat) (f:Addr) (fd:FuncData) (ps:List Str) (sp:Sp):Prop where
 len:∀ vs H Q E,sp vs H Q E->vs.length=ps.length
 run:∀ (A:Around) (outer:List Env) (s:Shared) (H:Hp) (args:Args) (us:List Value) (vs:List V) (Q:VK) (E:XK),Room k A->Env0 P w K mg base A outer s H->BindsTo s fd args (ps.zip us)->Vals vs us->sp vs H Q E->
  codeAny (model P w) A (.call (.ref f) args) (CR CX outer P w H s Q E) s
theorem FnOk.mono {P:Program} {w:World} {K:W.Frag} {mg:Str->Option Value} {base:Heap} {CX:HF} {j k:Nat} {f:Addr} {fd:FuncData} {ps:List Str} {sp:Sp} (F:FnOk P w K mg base CX j f fd ps sp) (h:j<=k):
  FnOk P w K mg base CX k f fd ps sp:=⟨F.len,fun A outer s H args us vs Q E hr=>F.run A outer s H args us vs Q E (hr.mono h)⟩
theorem Env0.make {P:Program} {w:World} {K:W.Frag} {mg:Str->Option Value} {base:Heap} {A:Around} {outer:List Env} {s:Shared} {H:Hp} (e:Env0 P w K mg base A outer s H) (C:Addr) (us:List Value) (kw:List (Str×Value)):
  Env0 P w K mg base (A.under (.builtin "type.__call__" ⟨.ref C :: us,kw⟩)) outer s H:=⟨by first | exact e.frames | (simpa [Around.under,Code.envs,Code.isFrame,pushEnvs] using e.frames),e.mod,e.bs,e.bsz,e.funs,e.frf,e.hok,e.bare⟩
section
variable {X:Cx} {pins:List (Addr×Obj)} {U:St} {H:Hp} {s s':Shared}
theorem Inv.env0 (I:Inv X pins U H s):Env0 X.prog X.w X.K X.mg X.base X.A X.stack s H:=
 ⟨I.ok.frames,I.ok.mod,I.bs,Zm I.ok.bsz I.sz,I.stack,I.stkFree,I.hok,I.bare⟩
theorem Inv.after {Q:VK} {u:Value} (I:Inv X pins U H s) (h:CE X.stack X.prog X.w H s Q u s'):EP X pins U Q u s':=by
 obtain ⟨v,H',os,bare,un,hok,r,q⟩:=h
 obtain ⟨hh,g,d,t,os'⟩:=s'
 obtain rfl:os'=s.os:=os
 exact ⟨v,H',I.call (h':=hh) (g':=g) (d':=d) (t':=t) (ch:=[]) un hok bare (fun b z=>absurd z (by simp)),r,q⟩
end
def yp (sp:Sp) (dvs:List V) (E:XK) (t:TA):TE:=fun U H Q=>t U H fun vs H1=>sp (vs ++ dvs) H1 Q E
def Binds (K:W.Frag) (fd:FuncData) (ps:List Str) (ds:List Value):Prop:=
 ∀ (s:Shared) (us:List Value),K.In s.heap->(us ++ ds).length=ps.length->BindsTo s fd ⟨us,[]⟩ (ps.zip (us ++ ds))
theorem Binds.all {K:W.Frag} {fd:FuncData} {ps:List Str} (h:∀ us:List Value,us.length=ps.length->bindArgs fd ⟨us,[]⟩=pure (ps.zip us)):Binds K fd ps []:=fun s us _ hl=>by
 rw [ZV] at hl ⊢
 exact .of_eq (h us hl)
def DK (CX:HF) (X:Cx) (E:XK):Prop:=∀ (pins:List (Addr×Obj)) (U:St) (H:Hp) (s:Shared) (e:Value) (s':Shared),Inv X pins U H s->CX X.stack H s E e s'->X.xe e s'
section
variable {X:Cx} {CX:HF} {k:Nat} {f C:Addr} {fd:FuncData} {ps:List Str} {sp:Sp} {dvs:List V} {ds:List Value} {E:XK} {x m:Str} {p pos apos:Pos} {e o:Expr} {es:List Expr} {ta:TE} {t:TA}
theorem UJ {pins:List (Addr×Obj)} {U:St} {H:Hp} {s:Shared} {Q:VK} {us:List Value} {vs:List V} (F:FnOk X.prog X.w X.K X.mg X.base CX k f fd ps sp) (hr:Room k X.A) (hb:Binds X.K fd ps ds) (hd:Vals dvs ds) (hx:DK CX X E)
  (I:Inv X pins U H s) (r:Vals vs us) (h:sp (vs ++ dvs) H Q E):wpAny (model X.prog X.w) X.A (call (.ref f) us) (EP X pins U Q) X.xe s:=by
 have r2:Vals (vs ++ dvs) (us ++ ds):=r.append hd
 have hl:(us ++ ds).length=ps.length:=by rw [← r2.length];exact F.len _ _ _ _ h
 refine AaB (codeAny_mono (F.run X.A X.stack s H ⟨us,[]⟩ (us ++ ds) (vs ++ dvs) Q E hr I.env0 (hb s us I.kIn hl) r2 h) fun r s' hq=>?_)
 cases r with
 | error e=>exact hx pins U H s e s' I hq
 | ok fl=>
  cases fl with
  | ret u=>exact I.after hq
  | next=>exact False.elim hq
  | brk=>exact False.elim hq
  | cont=>exact False.elim hq
theorem PX (F:FnOk X.prog X.w X.K X.mg X.base CX k f fd ps sp) (hr:Room k X.A) (hg:Gl X x) (hm:X.mg x=some (.ref f)) (hk:PySem.W.keepIn X.K (.ref f)=true) (hb:Binds X.K fd ps ds) (hd:Vals dvs ds) (hx:DK CX X E)
  (ha:PA X (e :: es) t) (hdb:autoParam ((x == ("__debug__":Str))=false) L2.auto2._auto_1) (he:autoParam (starEach (e :: es) X.env=(false,eval e X.env) :: starEach es X.env) L2.auto4._auto_1) (hpl:autoParam ((backTo pos (starEach es X.env)).any (·.1)=false) L2.auto4._auto_1):
  PE X (.Call (.Name x p) (e :: es) [] pos) (yp sp dvs E t):=by
 intro pins s U H Q I h
 refine ZG (lZ I hg hm ?_ hdb)
 refine AaC (h₀:=X.base) I.ok.mod.kin hk (dW (ha pos pins s U H _ I h) fun us s1 ⟨vs,H1,I1,r,q⟩=>⟨I1.kIn,?_⟩) he hpl
 exact UJ F hr hb hd hx I1 r q
end
structure aC (N P:List Str) (sc:Scope):Prop where
 kind:sc.kind= .function
 co:sc.isCoroutine=false
 gen:sc.isGenerator=false
 nd:N.Nodup
 pre:N.take P.length=P
 par:∀ x∈P,sc.names.lookup x=some .local\/sc.names.lookup x=some .cell
 nofree:∀ y∈sc.names,y.2≠.free
theorem yq {kindOf:Str->Option NameKind} {x:Str}:∀ {binds:List (Str×Value)} {m:Str->Option Value},(∀ v,(x,v) ∉ binds)->bindL kindOf binds m x=m x
 | [],_,_=>rfl
 | (n,v) :: r,m,h=>by
  unfold bindL
  rw [yq fun w hw=>h w (Zg _ hw)]
  split
  ·have:x≠n:=by rintro rfl;exact h v ZS
   simp [this]
  ·rfl
theorem yr {kindOf:Str->Option NameKind} {x:Str}:∀ {binds:List (Str×Value)} {m:Str->Option Value},(∀ v,(x,v) ∉ binds)->bindC kindOf binds m x=m x
 | [],_,_=>rfl
 | (n,v) :: r,m,h=>by
  unfold bindC
  rw [yr fun w hw=>h w (Zg _ hw)]
  split
  ·rfl
  ·have:x≠n:=by rintro rfl;exact h v ZS
   simp [this]
theorem yt {kindOf:Str->Option NameKind} {x:Str} {v:Value}:∀ {P:List Str} {vs:List Value} {i:Nat} {m:Str->Option Value},P.Nodup->P[i]?=some x->vs[i]?=some v->kindOf x=some .local->
  bindL kindOf (P.zip vs) m x=some v
 | [],_,_,_,_,h,_,_=>by simp at h
 | _ :: _,[],_,_,_,_,h,_=>by simp at h
 | p :: P,w :: vs,0,m,nd,h1,h2,hk=>by
  simp at h1 h2;subst h1;subst h2
  show bindL kindOf ((p,w) :: P.zip vs) m p=_
  unfold bindL
  rw [yq fun v hv=>(List.nodup_cons.mp nd).1 (List.of_mem_zip hv).1,if_pos hk]
  simp
 | p :: P,w :: vs,i+1,m,nd,h1,h2,hk=>by
  show bindL kindOf ((p,w) :: P.zip vs) m x=_
  unfold bindL
  exact yt (i:=i) (List.nodup_cons.mp nd).2 (by simpa using h1) (by simpa using h2) hk
theorem yw {kindOf:Str->Option NameKind} {x:Str} {v:Value}:∀ {P:List Str} {vs:List Value} {i:Nat} {m:Str->Option Value},P.Nodup->P[i]?=some x->vs[i]?=some v->kindOf x≠some .local->
  bindC kindOf (P.zip vs) m x=some v
 | [],_,_,_,_,h,_,_=>by simp at h
 | _ :: _,[],_,_,_,_,h,_=>by simp at h
 | p :: P,w :: vs,0,m,nd,h1,h2,hk=>by
  simp at h1 h2;subst h1;subst h2
  show bindC kindOf ((p,w) :: P.zip vs) m p=_
  unfold bindC
  rw [yr fun v hv=>(List.nodup_cons.mp nd).1 (List.of_mem_zip hv).1,if_neg hk]
  simp
 | p :: P,w :: vs,i+1,m,nd,h1,h2,hk=>by
  show bindC kindOf ((p,w) :: P.zip vs) m x=_
  unfold bindC
  exact yw (i:=i) (List.nodup_cons.mp nd).2 (by simpa using h1) (by simpa using h2) hk
def start (N:List Str) (vs:List V):St:=vs.map some ++ List.replicate (N.length - vs.length) none
def pH (CX:HF) (P:Program) (w:World) (K:W.Frag) (mg:Str->Option Value) (base:Heap) (N:List Str) (qual:Str) (scope:Scope) (f:Addr) (cd:Value) (A:Around) (outer:List Env) (s:Shared) (H:Hp) (E:XK):Cx where
 prog:=P
 w:=w
 K:=K
 mg:=mg
 base:=base
 A:=A.deeper (envOfC qual scope s.heap.objs.size f cd)
 N:=N
 s₀:=s
 H₀:=H
 env:=envOfC qual scope s.heap.objs.size f cd
 outer:=outer
 stack:=envOfC qual scope s.heap.objs.size f cd :: outer
 ex:=[]
 calm:=true
 fn:=fun _=>true
 pn:=[]
 xe:=fun e s'=>wpAny (model P w) (A.deeper (envOfC qual scope s.heap.objs.size f cd)) (leaving (envOfC qual scope s.heap.objs.size f cd) e) (fun _ s''=>CX outer H s E e s'') (fun e' s''=>CX outer H s E e' s'') s'
theorem Bg {sc:Scope} {n:Nat} {x:Str} (h:sc.names.lookup x=some .cell):∃ c,(cellsFrom n sc.names []).lookup x=some c:=by
 have q:=PySem.W.cellsFrom_some sc.names n [] (.inl h)
 exact Option.isSome_iff_exists.mp q
theorem HH {CX:HF} {P:Program} {w:World} {K:W.Frag} {mg:Str->Option Value} {base:Heap} {N ps:List Str} {qual:Str} {scope:Scope} {f:Addr} {cd:Value} {A:Around} {outer:List Env} {s s1:Shared} {H:Hp} {E:XK} {us:List Value} {vs:List V}
  (S:aC N ps scope) (hd:A.handled=none) (e0:Env0 P w K mg base A outer s H) (hl:vs.length=ps.length) (r:Vals vs us)
  (x:InCallC s s.heap.objs.size (bindL (envOfC qual scope s.heap.objs.size f cd).kindOf (ps.zip us) fun _=>none) (cellsFrom (s.heap.objs.size+1) scope.names []) (bindC (envOfC qual scope s.heap.objs.size f cd).kindOf (ps.zip us) fun _=>none) s1):
  Inv (pH CX P w K mg base N qual scope f cd A outer s H E) [] (start N vs) H s1:=by
 have hpl:ps.length<=N.length:=by have:=congrArg List.length S.pre;rw [Aap] at this;omega
 obtain ⟨h1,tk,rfl,hk⟩:=x.done
 have noA:∀ b:Addr,b ∉ (pH CX P w K mg base N qual scope f cd A outer s H E).ex:=fun b z=>absurd (show b∈([]:List Addr) from z) (by simp)
 refine ⟨⟨e0.mod,S.kind,rfl,rfl,Y4 _,fun y z c h1 h2=>?_,fun y hy=>?_,fun y c _ h=>?_,fun _=>hd,Around.frames_deeper e0.frames,.inr ⟨rfl,rfl⟩,fun b z=>absurd z (noA b),e0.bs,e0.bsz,fun b _ _=>noA b,fun b z=>absurd z (noA b),e0.funs,e0.frf⟩,
  rfl,e0.bare,Un.kept hk,⟨_,x.toInCall.ns,fun i y v h1 h2 h3=>?_⟩,fun y c h=>⟨_,x.cell y c h⟩,e0.hok.fresh (Y4 _),fun y c h=>?_,fun p hp=>absurd (show p∈([]:List (Addr×Obj)) from hp) (by simp),e0.hok.kept hk,?_⟩
 ·exact name_of_addr x.apart (ZL h1) (ZL h2)
 ·have hy:scope.names.lookup y=some .cell\/scope.names.lookup y=some .free:=hy
  rcases hy with hy | hy
  ·exact Bg hy
  ·exact absurd rfl (S.nofree _ (ZL hy))
 ·exact Nat.le_of_lt (x.above y c (ZL h))
 ·have hi:i < vs.length:=by
   unfold start at h2
   by_cases hi:i < vs.length
   ·exact hi
   ·rw [Zr (by simpa using hi)] at h2
    rw [List.getElem?_replicate] at h2
    split at h2 <;> cases h2
  have ha:vs[i]?=some v:=by
   unfold start at h2
   rw [Zu (by simpa using hi),Zd] at h2
   cases e:vs[i]? with
   | none=>rw [e] at h2;cases h2
   | some a=>rw [e] at h2;cases h2;rfl
  obtain ⟨u,hu,rv⟩:=r.get ha
  have hp:ps[i]?=some y:=by
   rw [← S.pre,List.getElem?_take_of_lt (by omega)];exact h1
  have ndP:ps.Nodup:=by rw [← S.pre];exact S.nd.sublist (List.take_sublist _ _)
  refine ⟨u,rv,?_⟩
  rcases S.par y (Y8 hp) with k | k
  ·exact .inl ⟨k,yt ndP hp hu k⟩
  ·obtain ⟨c,e⟩:=Bg (n:=s.heap.objs.size+1) k
   refine .inr ⟨.inl k,c,e,?_⟩
   have q:=x.cell y c e
   rw [yw ndP hp hu (by show scope.names.lookup y≠_;rw [k];decide)] at q
   exact q
 ·exact e0.hok.fresh (Nat.le_of_lt (x.above y c (ZL h)))
 ·unfold start
  show _=N.length
  rw [Z2,Zj,List.length_replicate]
  omega
theorem Bh {CX:HF} {P:Program} {w:World} {K:W.Frag} {mg:Str->Option Value} {base:Heap} {k:Nat} {f:Addr} {name qual:Str} {params:Arguments} {body:List Stmt} {scope:Scope} {dV kV doc pm cdv ct oc:Value} {an od:Option Addr}
  {osl:Array (Option Value)} {N ps:List Str} {sp:Sp} (lk:K.lookup f=some ⟨oc,od,.func (PySem.W.fnOf name qual params body scope dV kV doc pm an cdv ct),osl⟩) (hcd:PySem.W.codeIn K cdv qual=true) (S:aC N ps scope)
  (len:∀ vs H Q E,sp vs H Q E->vs.length=ps.length)
  (hbody:∀ (A:Around) (outer:List Env) (s:Shared) (H:Hp) (vs:List V) (Q:VK) (E:XK),Room k (A.deeper (envOfC qual scope s.heap.objs.size f cdv))->sp vs H Q E->
   ∃ t,PSs (pH CX P w K mg base N qual scope f cdv A outer s H E) body t/\t {nx:=fun _ H'=>Q .non H',rt:=Q} (start N vs) H):
  FnOk P w K mg base CX (k+1) f (PySem.W.fnOf name qual params body scope dV kV doc pm an cdv ct) ps sp:=by
 refine ⟨len,fun A outer s H args us vs Q E hr e0 hb r hsp=>?_⟩
 have hl:=len _ _ _ _ hsp
 have KX:K.In s.heap:=e0.mod.kin.keeps fun b o e=>(e0.bs b o e).1
 have lim:s.heap.NoLimit:=e0.mod.nolimit.keeps fun b o e=>(e0.bs b o e).1
 have hkind:∀ y∈ps.zip us,scope.names.lookup y.1=some .local\/(scope.names.lookup y.1=some .cell/\((cellsFrom (s.heap.objs.size+1) scope.names []).lookup y.1).isSome=true):=fun ⟨n,v⟩ hy=>by
  rcases S.par n (List.of_mem_zip hy).1 with q | q
  ·exact .inl q
  ·exact .inr ⟨q,PySem.W.cellsFrom_some _ _ _ (.inl q)⟩
 refine codeAny_call_function hr.depth (KX _ _ lk) rfl S.co S.gen rfl (PySem.W.codeRec_of KX hcd) (hb _ _ _ _ ?_)
 refine wpAny_newFunctionEnv_cells S.kind hkind fun env he s1 x=>?_
 subst he
 refine ⟨lim.keeps x.toInCall.keep,codeAny_func ?_⟩
 obtain ⟨t,ht,hq⟩:=hbody A outer s H vs Q E (hr.deeper _) hsp
 have I:Inv (pH CX P w K mg base N qual scope f cdv A outer s H E) [] (start N vs) H s1:=HH S hr.hd e0 hl r x
 refine ZM (ht [] s1 (start N vs) H _ I hq) (fun fl s' hs=>?_) fun e s' hs=>hs
 have fin:∀ {U':St} {H':Hp} {v:V} {u:Value},Inv (pH CX P w K mg base N qual scope f cdv A outer s H E) [] U' H' s'->RelV v u->Q v H'->CE outer P w H s Q u s':=
  fun {U' H' v u} J rv q=>⟨v,H',J.os,J.bare,J.base,J.hok,rv,q⟩
 cases fl with
 | ret u=>
  obtain ⟨v,U',H',J,rv,q⟩:=hs
  exact fin J rv q
 | next=>
  obtain ⟨U',H',J,q⟩:=hs
  exact fin (v:=V.non) (u:=Value.none) J rfl q
 | brk=>
  obtain ⟨_,_,_,q⟩:=hs
  exact False.elim q
 | cont=>
  obtain ⟨_,_,_,q⟩:=hs
  exact False.elim q
section
variable {X:Cx} {x:Str} {p pos:Pos} {e:Expr} {es:List Expr} {t:TA} {id T:String} {r:List V->Hp->VK->Prop}
def UL (r:List V->Hp->VK->Prop) (t:TA):TE:=fun U H Q=>t U H fun vs H1=>r vs H1 Q
theorem Kz (hc:CallR X (.builtin id) r) (hg:Gl X x) (hm:X.mg x=none) (hv:bootBuiltins x=some (.builtin id)) (ha:PA X (e :: es) t) (hn:autoParam (x≠"__name__") L2.auto2._auto_1) (hdb:autoParam ((x == ("__debug__":Str))=false) L2.auto2._auto_1)
  (he:autoParam (starEach (e :: es) X.env=(false,eval e X.env) :: starEach es X.env) L2.auto4._auto_1) (hpl:autoParam ((backTo pos (starEach es X.env)).any (·.1)=false) L2.auto4._auto_1):PE X (.Call (.Name x p) (e :: es) [] pos) (UL r t):=by
 intro pins s U H Q I h
 refine ZG (jc I hg hm hv ?_ hn hdb)
 exact PyProof.Rows.callWith_builtin1 (dW (ha pos pins s U H _ I h) fun us s1 ⟨vs,H1,I1,r1,q1⟩=>hc pins s1 U H1 vs us Q I1 r1 q1) he hpl
theorem HJ (hc:CallR X (.type T) r) (hg:Gl X x) (hm:X.mg x=none) (hv:bootBuiltins x=some (.type T)) (ha:PA X (e :: es) t) (hn:autoParam (x≠"__name__") L2.auto2._auto_1) (hdb:autoParam ((x == ("__debug__":Str))=false) L2.auto2._auto_1)
  (he:autoParam (starEach (e :: es) X.env=(false,eval e X.env) :: starEach es X.env) L2.auto4._auto_1) (hpl:autoParam ((backTo pos (starEach es X.env)).any (·.1)=false) L2.auto4._auto_1):PE X (.Call (.Name x p) (e :: es) [] pos) (UL r t):=by
 intro pins s U H Q I h
 refine ZG (jc I hg hm hv ?_ hn hdb)
 exact Zn (dW (ha pos pins s U H _ I h) fun us s1 ⟨vs,H1,I1,r1,q1⟩=>hc pins s1 U H1 vs us Q I1 r1 q1) he hpl
end
end L2
namespace HT
open PySem PyProof.Rows
section
open PySem.SeqAt
open PySem.AutoSeq1 (wpAny_loadPart')
open PySem.MeetsSeq PySem.MeetsSeq2 PySem.MeetsSeq3
end
section
variable {prog:Program} {w:World} {A:Around} {E:Value->Shared->Prop} {s:Shared}
def sIx (n d:Nat):Option Int->Nat
 | none=>d
 | some v=>if v < 0 then (v+(n:Int)).toNat else min v.toNat n
theorem sIx_none (n d:Nat):sIx n d none=d:=rfl
theorem sIx_nat (n d k:Nat):sIx n d (some (k:Int))=min k n:=by
 show (if (k:Int) < 0 then ((k:Int)+(n:Int)).toNat else min (k:Int).toNat n)=min k n
 rw [if_neg (by omega),Int.toNat_natCast]
theorem sIx_le (n d:Nat) (hd:d<=n) (o:Option Int):sIx n d o<=n:=by
 cases o with
 | none=>exact hd
 | some v=>
  show (if v < 0 then (v+(n:Int)).toNat else min v.toNat n)<=n
  by_cases hv:v < 0
  ·rw [if_pos hv];omega
  ·rw [if_neg hv];exact Nat.min_le_right _ _
theorem clip_eq (v:Int) (n d:Nat):(if v < 0 then max (v+(n:Int)) 0 else min v (n:Int))=((sIx n d (some v):Nat):Int):=by
 show (if v < 0 then max (v+(n:Int)) 0 else min v (n:Int))=(((if v < 0 then (v+(n:Int)).toNat else min v.toNat n):Nat):Int)
 by_cases hv:v < 0
 ·simp only [if_pos hv];omega
 ·simp only [if_neg hv];omega
theorem DN (lo hi:Option Int) (n:Nat):Builtin.Slice.sliceAdjust lo hi 1 (n:Int)=(((sIx n 0 lo:Nat):Int),((sIx n n hi:Nat):Int)):=by
 have h1:¬ ((1:Int) < 0):=by omega
 unfold Builtin.Slice.sliceAdjust
 simp only [h1,if_false]
 refine Prod.ext ?_ ?_
 ·cases lo with
  | none=>rfl
  | some v=>exact clip_eq v n 0
 ·cases hi with
  | none=>rfl
  | some v=>exact clip_eq v n n
theorem DP (i j:Nat):Builtin.Slice.slicePlaces (i:Int) (j:Int) 1=j - i:=by
 unfold Builtin.Slice.slicePlaces
 have h1:(1:Int) > 0:=by omega
 simp only [h1,if_true,Int.ediv_one]
 split <;> omega
theorem v9 {v:Value} {o:Option Int} {Q:Option Int->Shared->Prop} (p:IsPart v o) (h:Q o s):wpAny (model prog w) A (Builtin.Slice.slicePartIndex v) Q E s:=by
 cases p with
 | none=>exact slicePart_none h
 | int i t=>exact slicePart_int h
theorem mZ {sl:Addr} {vl vu:Value} {lo hi:Option Int} {n:Nat} {Q:Int×Int×Nat->Shared->Prop} (hs:s.heap.IsSliceOf sl vl vu .none) (pl:IsPart vl lo) (pu:IsPart vu hi)
  (h:Q (((sIx n 0 lo:Nat):Int),1,sIx n n hi - sIx n 0 lo) s):wpAny (model prog w) A (Builtin.Slice.sliceApplied (.ref sl) (pure (n:Int))) Q E s:=by
 obtain ⟨os,hos,hcs,hds⟩:=id hs
 unfold Builtin.Slice.sliceApplied Builtin.Slice.sliceFields
 refine YS (YS (Aat hos hds (x:=vl) rfl (YS (Aat hos hds (x:=vu) rfl (YS (Aat hos hds (x:=.none) rfl (YX ?_)))))))
 refine YS (slicePart_none ?_)
 show wpAny _ _ (if ((1:Int) == 0)=true then _ else _) _ _ s
 rw [if_neg (by decide)]
 refine YS (v9 pl (YS (v9 pu (YS (YX ?_)))))
 show wpAny _ _ (match Builtin.Slice.sliceAdjust lo hi 1 (n:Int) with | (lo,hi)=>pure (lo,(1:Int),Builtin.Slice.slicePlaces lo hi 1)) _ _ s
 rw [DN lo hi n]
 show wpAny _ _ (pure (((sIx n 0 lo:Nat):Int),(1:Int),Builtin.Slice.slicePlaces ((sIx n 0 lo:Nat):Int) ((sIx n n hi:Nat):Int) 1)) _ _ s
 rw [DP]
 exact YX h
theorem KC (xs:Array Value) (i k:Nat):((List.range k).filterMap fun (m:Nat)=>xs[((i:Int)+(m:Int)*1).toNat]?).toArray=((xs.toList.drop i).take k).toArray:=by
 have e:(fun (m:Nat)=>xs[((i:Int)+(m:Int)*1).toNat]?)=fun m=>xs[i+m]?:=by
  funext m
  have:((i:Int)+(m:Int)*1).toNat=i+m:=by omega
  rw [this]
 rw [e]
 have:=pick_run xs i k
 rw [List.filterMap_map] at this
 have e2:((fun x=>xs[x]?) ∘ fun x=>i+x)=fun m=>xs[i+m]?:=rfl
 rw [e2] at this
 rw [this]
theorem getItem_tuple_cut {t sl:Addr} {items:Array Value} {vl vu:Value} {lo hi:Option Int} {Q:Value->Shared->Prop} (ht:IsTup s.heap t items) (hs:s.heap.IsSliceOf sl vl vu .none) (pl:IsPart vl lo) (pu:IsPart vu hi)
  (hw:¬ (sIx items.size 0 lo=0/\sIx items.size items.size hi=items.size))
  (h:Q (.ref s.heap.objs.size) {s with heap:=s.heap.push {cls:=.type "tuple",data:=.seq ((items.toList.drop (sIx items.size 0 lo)).take (sIx items.size items.size hi - sIx items.size 0 lo)).toArray}})
  (hsz:items.size<=sizeLine):wpAny (model prog w) A (getItem (.ref t) (.ref sl)) Q E s:=by
 have htake:sizeOk (.seq ((items.toList.drop (sIx items.size 0 lo)).take (sIx items.size items.size hi - sIx items.size 0 lo)).toArray):=by
  show ((items.toList.drop (sIx items.size 0 lo)).take (sIx items.size items.size hi - sIx items.size 0 lo)).toArray.size<=sizeLine
  rw [Zh,Aap,AaR,Zi]
  omega
 have hj:sIx items.size items.size hi<=items.size:=sIx_le _ _ (Y4 _) hi
 obtain ⟨os,hos,hcs,hds⟩:=id hs
 have hTs:s.TypeIs (.ref sl) "slice":=⟨os,hos,hcs⟩
 unfold getItem
 try with_reducible refine Zw ?_
 first | refine YS (YX ?_) | skip
 refine YS (wpAny_sequenceKey ht.typeIs (by decide) ?_)
 refine YS (AaS (name:=Str.ofString "__getitem__") ht.typeIs Aam
  (Abe Aam ht.typeIs entry_tuple_getitem ?_ (args_tuple_getitem _ _)))
 show wpAny _ _ (Builtin.Tuple.tupleItemsOf (.ref t) >>=_) _ _ s
 refine YS (tupleItemsOf_ ht ?_)
 refine YS (wpAny_typeOf hTs ?_)
 rw [if_pos (by decide)]
 refine YS (mZ hs pl pu ?_)
 have hno:¬ ((((sIx items.size 0 lo:Nat):Int) == 0 && (1:Int) == 1 && (sIx items.size items.size hi - sIx items.size 0 lo) == items.size)=true):=by
  intro q
  rw [Zb,Zb] at q
  have q1:((sIx items.size 0 lo:Nat):Int)=0:=eq_of_beq q.1.1
  have q2:sIx items.size items.size hi - sIx items.size 0 lo=items.size:=eq_of_beq q.2
  exact hw ⟨by omega,by omega⟩
 show wpAny _ _ (if (((sIx items.size 0 lo:Nat):Int) == 0 && (1:Int) == 1 && (sIx items.size items.size hi - sIx items.size 0 lo) == items.size)=true then _ else _) _ _ s
 rw [if_neg hno,KC]
 first
  | exact YS (m:=Builtin.Tuple.tupleExact _) (Z8 (YX ⟨_,rfl,YX h⟩) htake)
  | exact YS (m:=Builtin.Tuple.tupleExact _) (Z8 (YS (YX (YX ⟨_,rfl,YX h⟩))) htake)
  | exact YS (YS (m:=Builtin.Tuple.tupleExact _) (Z8 (YX (YX ⟨_,rfl,YX h⟩)) htake))
  | exact YS (YS (m:=Builtin.Tuple.tupleExact _) (Z8 (YX ⟨_,rfl,YX h⟩) htake))
end
end HT
namespace L2
open PySem PySem.Spec PyProof.Rows
abbrev TO:=St->Hp->(Option Int->Hp->Prop)->Prop
def PO (X:Cx) (e:Option Expr) (t:TO):Prop:=
 ∀ (pins:List (Addr×Obj)) (s:Shared) (U:St) (H:Hp) (Q:Option Int->Hp->Prop),Inv X pins U H s->t U H Q->
  wpAny (model X.prog X.w) X.A (evalPart e X.env) (fun u s'=>∃ o H',Inv X pins U H' s'/\IsPart u o/\Q o H') X.xe s
def zr:TO:=fun _ H Q=>Q none H
def KD (t:TE):TO:=fun U H Q=>t U H fun x H1=>∃ i,x= .int i/\Q (some i) H1
theorem intsAre_of {ns:List Int}:∀ {us:List Value},Vals (ns.map V.int) us->IntsAre us ns:=by
 induction ns with
 | nil=>intro us r;rw [List.map_nil] at r;cases r;exact .nil
 | cons n ns ih=>
  intro us r
  rw [ZQ] at r
  cases r with
  | cons r1 r2=>
   obtain ⟨t,e⟩:=r1
   subst e
   exact .cons n t (ih r2)
section
variable {X:Cx} {e:Expr} {te:TE} {lo hi:Option Expr} {tl th:TO} {pos p2:Pos}
theorem P0:PO X none zr:=by
 intro pins s U H Q I h
 rw [evalPart_none]
 exact YX ⟨none,H,I,.none,h⟩
theorem Qa (h:PE X e te):PO X (some e) (KD te):=by
 intro pins s U H Q I hw
 rw [evalPart_some]
 refine dW (h pins s U H _ I hw) fun u s1 qq0=>?_
 obtain ⟨x,H1,I1,r1,q1⟩:=qq0
 obtain ⟨i,rfl,q⟩:=q1
 obtain ⟨t,rfl⟩:=r1
 exact ⟨some i,H1,I1,.int i t,q⟩
def SlR (X:Cx) (r:V->Option Int->Option Int->Hp->VK->Prop):Prop:=
 ∀ (pins:List (Addr×Obj)) (s:Shared) (U:St) (H:Hp) (x:V) (v vl vu:Value) (lo hi:Option Int) (sl:Addr) (Q:VK),Inv X pins U H s->RelV x v->s.heap.IsSliceOf sl vl vu .none->IsPart vl lo->IsPart vu hi->r x lo hi H Q->
  ∃ T id,typeLookup (.type T) "__getitem__"=pure (some (.builtin id))/\s.TypeIs v T/\wpAny (model X.prog X.w) X.A (getItem v (.ref sl)) (EP X pins U Q) X.xe s
theorem SlR.or {r r':V->Option Int->Option Int->Hp->VK->Prop} (h:SlR X r) (h':SlR X r'):SlR X (fun x lo hi H Q=>r x lo hi H Q\/r' x lo hi H Q):=by
 intro pins s U H x v vl vu lo hi sl Q I rx hs pl pu q
 rcases q with q | q
 ·exact h pins s U H x v vl vu lo hi sl Q I rx hs pl pu q
 ·exact h' pins s U H x v vl vu lo hi sl Q I rx hs pl pu q
def tSl (r:V->Option Int->Option Int->Hp->VK->Prop) (te:TE) (tl th:TO):TE:=fun U H Q=>te U H fun x H1=>tl U H1 fun l H2=>th U H2 fun u H3=>r x l u H3 Q
theorem KH {r:V->Option Int->Option Int->Hp->VK->Prop} (hr:SlR X r) (he:PE X e te) (hl:PO X lo tl) (hu:PO X hi th):PE X (.Subscript e (.Slice lo hi none p2) pos) (tSl r te tl th):=by
 intro pins s U H Q I h
 refine Subscript_ (dW (he pins s U H _ I h) fun v s1 qq0=>?_)
 obtain ⟨x,H1,I1,r1,q1⟩:=qq0
 refine wpAny_Slice (dW (hl pins s1 U H1 _ I1 q1) fun vl s2 ⟨l,H2,I2,pl,q2⟩=>dW (hu pins s2 U H2 _ I2 q2) fun vu s3 qq0=>?_)
 obtain ⟨u,H3,I3,pu,q3⟩:=qq0
 rw [evalPart_none]
 refine YX ?_
 have I4:Inv X pins U H3 {s3 with heap:=s3.heap.push {cls:=.type "slice",data:=.fields #[vl,vu,.none]}}:=I3.kept (t':=s3.toks) fun b ob q=>Y0 _ q
 obtain ⟨T,id,hT,ht,hg⟩:=hr pins {s3 with heap:=s3.heap.push {cls:=.type "slice",data:=.fields #[vl,vu,.none]}} U H3 x v vl vu l u s3.heap.objs.size Q I4 r1 (Heap.IsSliceOf.new ..) pl pu q3
 show wpAny (model X.prog X.w) X.A (subscriptTail e (.Slice lo hi none p2) v (.ref s3.heap.objs.size)) (EP X pins U Q) X.xe {s3 with heap:=s3.heap.push {cls:=.type "slice",data:=.fields #[vl,vu,.none]}}
 exact tail_any (ops:=[.ref s3.heap.objs.size,v]) ht hT hg (by with_unfolding_all rfl)
def mO (xs:List V) (lo hi:Option Int):List V:=(xs.drop (HT.sIx xs.length 0 lo)).take (HT.sIx xs.length xs.length hi - HT.sIx xs.length 0 lo)
theorem uO (xs:List V) (lo hi:Option Int):(mO xs lo hi).length<=xs.length:=by
 unfold mO
 rw [Aap,AaR]
 omega
def W4 (K:W.Frag):V->Option Int->Option Int->Hp->VK->Prop:=fun x lo hi H Q=>∃ a xs,x= .ref a/\SqT K H a xs/\
 ¬ (HT.sIx xs.length 0 lo=0/\HT.sIx xs.length xs.length hi=xs.length)/\∀ p,H p=none->Q (.ref p) (upd H p (.tup (mO xs lo hi)))
theorem UT:SlR X (W4 X.K):=by
 intro pins s U H x v vl vu lo hi sl Q I rx hs pl pu h
 obtain ⟨a,xs,rfl,hx,hw,q⟩:=h
 cases rx
 obtain ⟨its,r,ht,hz⟩:=I.tuple hx
 have hlen:its.toArray.size=xs.length:=by rw [Zh];exact r.length.symm
 refine ⟨"tuple",_,PyProof.Rows.slot_tuple_getitem.lookup,ht.typeIs,?_⟩
 refine HT.getItem_tuple_cut ht hs pl pu (by rw [hlen];exact hw) ?_ (by rw [hlen];exact hz)
 rw [hlen]
 refine ⟨.ref s.heap.objs.size,_,I.laid (t':=s.toks) (o:=.tup (mO xs lo hi)) (fun b ob q=>Y0 _ q) (Y4 _) ?_,rfl,q _ (I.hok.fresh (Y4 _))⟩
 exact ⟨Zm (uO xs lo hi) hz,_,(r.drop (HT.sIx xs.length 0 lo)).take (HT.sIx xs.length xs.length hi - HT.sIx xs.length 0 lo),IsTup.new _ _⟩
end
def JR (n:Nat) (i:Int):Option Nat:=if 0<=i then (if i < n then some i.toNat else none) else if -(n:Int)<=i then some (i+n).toNat else none
def Do {α:Type} (xs:List α) (i:Int):Option α:=(JR xs.length i).bind fun j=>xs[j]?
theorem FP {n:Nat} {i:Int} {j:Nat} (h:JR n i=some j):seqIndex? i n=some j/\j < n/\-(n:Int)<=i/\i < n:=by
 unfold JR at h
 by_cases h0:0<=i
 ·rw [if_pos h0] at h
  by_cases h1:i < n
  ·rw [if_pos h1] at h
   have e:i.toNat=j:=Zv h
   exact ⟨by rw [seqIndex_of h0 h1,e],by omega,by omega,h1⟩
  ·rw [if_neg h1] at h;cases h
 ·rw [if_neg h0] at h
  by_cases h1: -(n:Int)<=i
  ·rw [if_pos h1] at h
   have e:(i+n).toNat=j:=Zv h
   exact ⟨by rw [seqIndex_neg (by omega) h1,e],by omega,h1,by omega⟩
  ·rw [if_neg h1] at h;cases h
theorem zu {α:Type} {xs:List α} {i:Int} {v:α} (h:Do xs i=some v):∃ j,seqIndex? i xs.length=some j/\xs[j]?=some v/\j < xs.length/\-(xs.length:Int)<=i/\i < xs.length:=by
 unfold Do at h
 cases e:JR xs.length i with
 | none=>rw [e] at h;cases h
 | some j=>
  rw [e] at h
  obtain ⟨h1,h2,h3,h4⟩:=FP e
  exact ⟨j,h1,h,h2,h3,h4⟩
theorem rW {α:Type} {xs:List α} {j:Nat} {v:α} (h:xs[j]?=some v):Do xs (j:Int)=some v:=by
 have hj:j < xs.length:=(YW.mp h).1
 have e:JR xs.length (j:Int)=some j:=by
  unfold JR
  rw [if_pos (by omega),if_pos (by omega)];simp
 unfold Do;rw [e];exact h
def FQ (b:Expr):Prop:=∀ o i,subscripted b false o i=operate [o,i] (getItem o i)
def IxR (X:Cx) (r:R2):Prop:=
 ∀ (value slice:Expr) (pins:List (Addr×Obj)) (s:Shared) (U:St) (H:Hp) (x y:V) (v u:Value) (Q:VK),Inv X pins U H s->RelV x v->RelV y u->r x y H Q->
  subscripted slice false v u=operate [v,u] (getItem v u)->wpAny (model X.prog X.w) X.A (subscriptTail value slice v u) (EP X pins U Q) X.xe s
def R5 (X:Cx) (id:String) (r:V->List V->Hp->VK->Prop):Prop:=
 ∀ (pins:List (Addr×Obj)) (s:Shared) (U:St) (H:Hp) (x:V) (xs:List V) (v:Value) (us:List Value) (Q:VK),Inv X pins U H s->RelV x v->Vals xs us->r x xs H Q->
  wpAny (model X.prog X.w) X.A (call (.builtin id) (v :: us)) (EP X pins U Q) X.xe s
section
variable {X:Cx} {a b:Expr} {ta tb:TE} {pos:Pos}
theorem IxR.or {r r':R2} (h:IxR X r) (h':IxR X r'):IxR X (fun x y H Q=>r x y H Q\/r' x y H Q):=by
 intro value slice pins s U H x y v u Q I rx ry q hs
 rcases q with q | q
 ·exact h value slice pins s U H x y v u Q I rx ry q hs
 ·exact h' value slice pins s U H x y v u Q I rx ry q hs
theorem W5 {r:R2} (hr:IxR X r) (ha:PE X a ta) (hb:PE X b tb) (hs:FQ b):PE X (.Subscript a b pos) (Km r ta tb):=by
 intro pins s U H Q I h
 exact Subscript_ (Uo ha hb I h fun v u s2 x y H2 I2 rx ry q=>hr a b pins s2 U H2 x y v u Q I2 rx ry q (hs _ _))
def W6 (K:W.Frag):R2:=fun x y H Q=>∃ p xs i v,x= .ref p/\y= .int i/\SqL K H p xs/\Do xs i=some v/\Q v H
def W7 (K:W.Frag):R2:=fun x y H Q=>∃ p xs i v,x= .ref p/\y= .int i/\SqT K H p xs/\Do xs i=some v/\Q v H
def Xa:R2:=fun x y H Q=>∃ z i c,x= .str z/\y= .int i/\z.length<=sizeLine/\Do z.cps.toList i=some c/\Q (.str ⟨#[c]⟩) H
theorem Qc:IxR X (W6 X.K):=by
 intro value slice pins s U H x y v u Q I rx ry h hs
 obtain ⟨p,xs,i,z,rfl,rfl,hq,he,q⟩:=h
 cases rx
 obtain ⟨t,rfl⟩:=ry
 obtain ⟨its,r,pl,hz⟩:=I.list hq
 obtain ⟨j,h1,h2,h3,h4,h5⟩:=zu he
 obtain ⟨w,ew,rw'⟩:=r.get h2
 have hl:=r.length
 have hn:=v8
 have fin:EP X pins U Q w s:=⟨z,H,I,rw',q⟩
 by_cases h0:0<=i
 ·have hj:i.toNat=j:=by
   rw [seqIndex_of h0 h5] at h1
   exact Zv h1
  exact item_listR pl.isList h0 (by omega) (by rw [hj];simpa using ew) fin hs
 ·have hj:(i+(its.toArray.size:Int)).toNat=j:=by
   rw [seqIndex_neg (by omega) h4] at h1
   rw [Zh,← hl]
   exact Zv h1
  exact subscriptTail_builtinR (x:=w) pl.isList.typeIs slot_list_getitem.lookup
   (wpAny_getItem_list_neg (Q:=fun r s'=>r=w/\EP X pins U Q r s') pl.isList (by omega) (by rw [Zh] <;> omega) (by omega) (by rw [hj];simpa using ew) ⟨rfl,fin⟩) hs
theorem UV:IxR X (W7 X.K):=by
 intro value slice pins s U H x y v u Q I rx ry h hs
 obtain ⟨p,xs,i,z,rfl,rfl,hq,he,q⟩:=h
 cases rx
 obtain ⟨t,rfl⟩:=ry
 obtain ⟨its,r,pl,hz⟩:=I.tuple hq
 obtain ⟨j,h1,h2,h3,h4,h5⟩:=zu he
 obtain ⟨w,ew,rw'⟩:=r.get h2
 have hl:=r.length
 have hn:=v8
 have fin:EP X pins U Q w s:=⟨z,H,I,rw',q⟩
 exact subscriptTail_builtinR (x:=w) pl.typeIs slot_tuple_getitem.lookup
  (getItem_tuple (j:=j) (Q:=fun r s'=>r=w/\EP X pins U Q r s') pl (by omega) (by omega) (by rw [Zh,← hl];exact h1) (by simpa using ew) ⟨rfl,fin⟩) hs
theorem UW:IxR X Xa:=by
 intro value slice pins s U H x y v u Q I rx ry h hs
 obtain ⟨z,i,c,rfl,rfl,hz,he,q⟩:=h
 obtain ⟨t,rfl⟩:=rx
 obtain ⟨t',rfl⟩:=ry
 obtain ⟨j,h1,h2,h3,h4,h5⟩:=zu he
 have hl:z.cps.toList.length=z.length:=by simp [Str.length]
 rw [hl] at h1 h4 h5
 have hn:=v8
 exact tail_any (typeIs_str s z t) slot_str_getitem.lookup (getItem_str (c:=c) (by
  have e1:decide (i < -(2 ^ 63:Int))=false:=Zc (by omega)
  have e2:decide (i>=2 ^ 63)=false:=Zc (by omega)
  rw [e1,e2,Bool.or_false]) (by rw [h1];simpa using h2) ⟨.str ⟨#[c]⟩,H,I.tok _,⟨_,rfl⟩,q⟩) hs
def R6 (K:W.Frag):R2:=fun x y H Q=>W6 K x y H Q\/W7 K x y H Q\/Xa x y H Q
theorem U0:IxR X (R6 X.K):=Qc.or (UV.or UW)
theorem DQ (its:List Value) (n j:Nat) (u:Value):Obj.mapSeq (·.setIfInBounds j u) {cls:=.type "list",data:=.seq its.toArray n}={cls:=.type "list",data:=.seq (its.set j u).toArray n}:=by
 simp [Obj.mapSeq]
theorem Inv.lst {pins:List (Addr×Obj)} {U:St} {H:Hp} {s:Shared} {p:Addr} {xs:List V} (I:Inv X pins U H s) (h:H p=some (.lst xs)):
  ∃ (its:List Value) (n:Nat),Vals xs its/\s.heap.get? p=some {cls:=.type "list",data:=.seq its.toArray n}/\xs.length<=sizeLine:=by
 obtain ⟨z,its,n,r,e⟩:=I.hok p _ h
 exact ⟨its,n,r,e,z⟩
theorem Inv.lstUpd {pins:List (Addr×Obj)} {U:St} {H:Hp} {s:Shared} {p:Addr} {xs ys:List V} {its its':List Value} {n n':Nat} {f:Obj->Obj} (I:Inv X pins U H s) (h:H p=some (.lst xs))
  (ho:s.heap.get? p=some {cls:=.type "list",data:=.seq its.toArray n}) (hf:f {cls:=.type "list",data:=.seq its.toArray n}={cls:=.type "list",data:=.seq its'.toArray n'}) (r:Vals ys its') (hz:ys.length<=sizeLine) (t:Nat):
  Inv X pins U (upd H p (.lst ys)) {s with heap:=s.heap.update p f,toks:=t}:=by
 have e:(s.heap.update p f).get? p=some {cls:=.type "list",data:=.seq its'.toArray n'}:=by
  rw [Zy f ho (by rw [hf] <;> rfl),hf]
 refine I.write (x:=p) (e:=p) (by rw [h];trivial) (.inl rfl) (fun b u hb q=>(Zf _ _ (Ne.symm hb)).trans q) ⟨_,e⟩ ?_
 exact ⟨hz,its',n',r,e⟩
def KJ:V->V->V->Hp->(Hp->Prop)->Prop:=fun o i v H Q=>∃ p xs k j,o= .ref p/\i= .int k/\H p=some (.lst xs)/\JR xs.length k=some j/\Q (upd H p (.lst (xs.set j v)))
theorem set_list:Pk X KJ:=by
 intro pins s U H o i v ov iv u Q I ro ri rv h
 obtain ⟨p,xs,k,j,rfl,rfl,hp,hj,q⟩:=h
 cases ro
 obtain ⟨t,rfl⟩:=ri
 obtain ⟨its,n,r,ho,hz⟩:=I.lst hp
 obtain ⟨h1,h2,h3,h4⟩:=FP hj
 have hl:=r.length
 have hn:=v8
 have I':Inv X pins U (upd H p (.lst (xs.set j v))) {s with heap:=s.heap.update p (Obj.mapSeq (·.setIfInBounds j u))}:=
  I.lstUpd hp ho (DQ its n j u) (r.set rv j) (by rw [List.length_set];exact hz) s.toks
 by_cases h0:0<=k
 ·have hk:k.toNat=j:=by
   rw [seqIndex_of h0 h4] at h1
   exact Zv h1
  exact PySem.W.ki_setAt ho h0 (by omega) (by rw [Zh,← hl];exact h4) (by rw [hk];exact ⟨_,I',q⟩)
 ·have hk:(k+(its.toArray.size:Int)).toNat=j:=by
   rw [seqIndex_neg (by omega) h3] at h1
   rw [Zh,← hl]
   exact Zv h1
  exact PySem.W.ki_setBack ho (by omega) (by rw [Zh,← hl];exact h3) (by omega) (by rw [hk];exact ⟨_,I',q⟩)
theorem zx (lo hi:Option Int) (n:Nat):(sliceBounds lo hi none n).1=((HT.sIx n 0 lo:Nat):Int)/\(sliceBounds lo hi none n).2.1=((HT.sIx n n hi:Nat):Int)/\(sliceBounds lo hi none n).2.2=1:=by
 refine ⟨?_,?_,rfl⟩
 ·cases lo with
  | none=>simp [sliceBounds,HT.sIx]
  | some i=>
   simp only [sliceBounds,HT.sIx,Option.getD_none,show (1:Int) > 0 by decide,if_true]
   by_cases h:i < 0
   ·simp only [h,if_true] <;> omega
   ·simp only [h,if_false] <;> omega
 ·cases hi with
  | none=>simp [sliceBounds,HT.sIx]
  | some i=>
   simp only [sliceBounds,HT.sIx,Option.getD_none,show (1:Int) > 0 by decide,if_true]
   by_cases h:i < 0
   ·simp only [h,if_true] <;> omega
   ·simp only [h,if_false] <;> omega
theorem xJ (its:List Value) (lo hi:Option Int):slicePick its.toArray lo hi none=((its.drop (HT.sIx its.length 0 lo)).take (HT.sIx its.length its.length hi - HT.sIx its.length 0 lo)).toArray:=by
 obtain ⟨h1,h2,h3⟩:=zx lo hi its.toArray.size
 unfold slicePick
 rw [h1,h2,h3]
 simp only [sliceRange_one,pick_run,Zh] <;> rfl
def Xb (K:W.Frag):V->Option Int->Option Int->Hp->VK->Prop:=fun x lo hi H Q=>∃ a xs,x= .ref a/\SqL K H a xs/\∀ p,H p=none->Q (.ref p) (upd H p (.lst (mO xs lo hi)))
theorem Qd:SlR X (Xb X.K):=by
 intro pins s U H x v vl vu lo hi sl Q I rx hs pl pu h
 obtain ⟨a,xs,rfl,hx,q⟩:=h
 cases rx
 obtain ⟨its,r,ht,hz⟩:=I.list hx
 have hlen:=r.length
 refine ⟨"list",_,slot_list_getitem.lookup,ht.isList.typeIs,?_⟩
 refine wpAny_getItem_list_slice ht.isList hs pl pu .none (by simp) ?_ (by rw [Zh] <;> omega)
 rw [xJ,← hlen]
 refine ⟨.ref s.heap.objs.size,_,I.laid (t':=s.toks) (o:=.lst (mO xs lo hi)) (fun b ob q=>Y0 _ q) (Y4 _) ?_,rfl,q _ (I.hok.fresh (Y4 _))⟩
 exact ⟨Zm (uO xs lo hi) hz,_,0,(r.drop (HT.sIx xs.length 0 lo)).take (HT.sIx xs.length xs.length hi - HT.sIx xs.length 0 lo),Za _ rfl⟩
def jH:V->Bool
 | .non=>true
 | .bl _=>true
 | .int _=>true
 | .str _=>true
 | _=>false
def Ba:V->V->Bool
 | .non,.non=>true
 | .bl a,.bl b=>a == b
 | .bl a,.int b=>(if a then 1 else 0) == b
 | .int a,.bl b=>a == (if b then 1 else 0)
 | .int a,.int b=>a == b
 | .str a,.str b=>a == b
 | _,_=>false
theorem pI {A:Around} {s:Shared} {y x:V} {u v:Value} (ry:RelV y u) (rx:RelV x v) (fy:jH y=true) (fx:jH x=true):SeqAt.EqAt A s u v (Ba y x):=by
 cases y with
 | non=>
  cases ry
  cases x with
  | non=>cases rx;exact AaH _
  | bl b=>cases rx;exact SeqAt.EqAt.none_bool b
  | int b=>obtain ⟨t,rfl⟩:=rx;exact SeqAt.EqAt.none_int b t
  | str b=>obtain ⟨t,rfl⟩:=rx;exact SeqAt.EqAt.none_str b t
  | _=>exact absurd (show false=true from fx) Y6
 | bl a=>
  cases ry
  cases x with
  | non=>cases rx;exact SeqAt.EqAt.bool_none a
  | bl b=>cases rx;exact SeqAt.EqAt.bool_bool a b
  | int b=>obtain ⟨t,rfl⟩:=rx;exact SeqAt.EqAt.bool_int a b t
  | str b=>obtain ⟨t,rfl⟩:=rx;exact SeqAt.EqAt.bool_str a b t
  | _=>exact absurd (show false=true from fx) Y6
 | int a=>
  obtain ⟨t',rfl⟩:=ry
  cases x with
  | non=>cases rx;exact SeqAt.EqAt.int_none a t'
  | bl b=>cases rx;exact SeqAt.EqAt.int_bool a t' b
  | int b=>obtain ⟨t,rfl⟩:=rx;exact SeqAt.EqAt.int_int a t' b t
  | str b=>obtain ⟨t,rfl⟩:=rx;exact SeqAt.EqAt.int_str a t' b t
  | _=>exact absurd (show false=true from fx) Y6
 | str a=>
  obtain ⟨t',rfl⟩:=ry
  cases x with
  | non=>cases rx;exact SeqAt.EqAt.str_none a t'
  | bl b=>cases rx;exact SeqAt.EqAt.str_bool a t' b
  | int b=>obtain ⟨t,rfl⟩:=rx;exact SeqAt.EqAt.str_int a t' b t
  | str b=>obtain ⟨t,rfl⟩:=rx;exact SeqAt.EqAt.str_str a t' b t
  | _=>exact absurd (show false=true from fx) Y6
 | _=>exact absurd (show false=true from fy) Y6
def DW (x:V) (u:Value):Bool:=match u with
 | .none=>Ba .non x
 | .bool b=>Ba (.bl b) x
 | .int i _=>Ba (.int i) x
 | .str z _=>Ba (.str z) x
 | _=>false
theorem KN {x y:V} {u:Value} (r:RelV y u) (f:jH y=true):DW x u=Ba y x:=by
 cases y with
 | non=>cases r;rfl
 | bl b=>cases r;rfl
 | int i=>obtain ⟨t,rfl⟩:=r;rfl
 | str z=>obtain ⟨t,rfl⟩:=r;rfl
 | _=>exact absurd (show false=true from f) Y6
theorem rY {x:V}:∀ {xs:List V} {us:List Value},Vals xs us->xs.all jH=true->us.any (DW x)=xs.any fun y=>Ba y x
 | _,_,.nil,_=>rfl
 | y :: xs,u :: us,.cons r t,f=>by
  rw [ZC,Zb] at f
  rw [Abj,Abj,KN r f.1,rY t f.2]
theorem pJ {A:Around} {s:Shared} {x:V} {v:Value} (rx:RelV x v) (fx:jH x=true):∀ {xs:List V} {us:List Value},Vals xs us->xs.all jH=true->∀ u∈us,SeqAt.EqAt A s u v (DW x u)
 | _,_,.nil,_=>fun u hu=>by cases hu
 | y :: xs,u :: us,.cons r t,f=>fun u' hu=>by
  rw [ZC,Zb] at f
  rcases Y7.mp hu with rfl | hu
  ·rw [KN r f.1];exact pI r rx f.1 fx
  ·exact pJ rx fx t f.2 u' hu
def inV (x:V) (xs:List V):Bool:=xs.any fun y=>Ba y x
def YF (K:W.Frag) (neg:Bool):R2:=fun x y H Q=>∃ p xs,y= .ref p/\(SqL K H p xs\/SqT K H p xs)/\jH x=true/\xs.all jH=true/\Q (.bl (if neg then !inV x xs else inV x xs)) H
theorem HN:OpR X (compareOp .In) (YF X.K false):=by
 intro pins s U H x y v u Q I rx ry h
 obtain ⟨p,xs,rfl,hq,fx,fs,q⟩:=h
 cases ry
 rcases hq with hq | hq
 ·obtain ⟨its,r,pl,hz⟩:=I.list hq
  refine SeqAt.in_listAt (DW x) pl.isList (fun w hw=>pJ rx fx r fs w (by simpa using hw)) ⟨.bl _,H,I,rfl,?_⟩
  rw [show its.toArray.any (DW x)=its.any (DW x) by simp,rY r fs]
  exact q
 ·obtain ⟨its,r,pl,hz⟩:=I.tuple hq
  refine SeqAt.in_tupleAt (DW x) pl (fun w hw=>pJ rx fx r fs w (by simpa using hw)) ⟨.bl _,H,I,rfl,?_⟩
  rw [show its.toArray.any (DW x)=its.any (DW x) by simp,rY r fs]
  exact q
theorem zy:OpR X (compareOp .NotIn) (YF X.K true):=by
 intro pins s U H x y v u Q I rx ry h
 obtain ⟨p,xs,rfl,hq,fx,fs,q⟩:=h
 cases ry
 rcases hq with hq | hq
 ·obtain ⟨its,r,pl,hz⟩:=I.list hq
  refine SeqAt.notIn_listAt (DW x) pl.isList (fun w hw=>pJ rx fx r fs w (by simpa using hw)) ⟨.bl _,H,I,rfl,?_⟩
  rw [show its.toArray.any (DW x)=its.any (DW x) by simp,rY r fs]
  exact q
 ·obtain ⟨its,r,pl,hz⟩:=I.tuple hq
  refine SeqAt.notIn_tupleAt (DW x) pl (fun w hw=>pJ rx fx r fs w (by simpa using hw)) ⟨.bl _,H,I,rfl,?_⟩
  rw [show its.toArray.any (DW x)=its.any (DW x) by simp,rY r fs]
  exact q
theorem zA:OpR X (compareOp .NotIn) (fun x y H Q=>∃ i j,x= .str i/\y= .str j/\Q (.bl (!(!(Builtin.Str.occurrences j i 0 j.length 1).isEmpty))) H):=by
 intro pins s U H x y v u Q I rx ry h
 obtain ⟨i,j,rfl,rfl,q⟩:=h
 obtain ⟨t,rfl⟩:=rx
 obtain ⟨t',rfl⟩:=ry
 exact notIn_str ⟨.bl _,H,I,rfl,q⟩
theorem CallR.or {f:Value} {r r':List V->Hp->VK->Prop} (h:CallR X f r) (h':CallR X f r'):CallR X f (fun xs H Q=>r xs H Q\/r' xs H Q):=by
 intro pins s U H xs us Q I rs q
 rcases q with q | q
 ·exact h pins s U H xs us Q I rs q
 ·exact h' pins s U H xs us Q I rs q
theorem zB:CallR X (.type "list") (fun xs H Q=>∃ p ys,xs=[.ref p]/\(SqL X.K H p ys\/SqT X.K H p ys)/\∀ l,H l=none->Q (.ref l) (upd H l (.lst ys))):=by
 intro pins s U H xs us Q I r h
 obtain ⟨p,ys,rfl,hq,q⟩:=h
 obtain ⟨u,rfl,rx⟩:=vals1 r
 cases rx
 have fin:∀ (its:List Value),Vals ys its->ys.length<=sizeLine->∀ (h':Heap) (c':Nat),(∀ b o',s.heap.get? b=some o'->h'.get? b=some o')->
   h'.get? s.heap.objs.size=some {cls:=.type "list",dict:=none,data:=.seq its.toArray c',slots:=#[]}->EP X pins U Q (.ref s.heap.objs.size) {s with heap:=h'}:=fun its r' hz h' c' kp e=>
  ⟨.ref s.heap.objs.size,_,I.laid (t':=s.toks) kp (Y4 _) (show ObjOk X.prog X.w _ h' _ (.lst ys) from ⟨hz,its,c',r',e⟩),rfl,q _ (I.hok.fresh (Y4 _))⟩
 rcases hq with hq | hq
 ·obtain ⟨its,r',pl,hz⟩:=I.list hq
  have hlen:=r'.length
  obtain ⟨o,ho,hc,n,hd⟩:=pl.isList
  exact call_list_seq p (.inl rfl) ho hc hd (fun h' c' kp e=>fin its r' hz h' c' kp e) (by simp only [Zh] <;> omega)
 ·obtain ⟨its,r',pl,hz⟩:=I.tuple hq
  have hlen:=r'.length
  obtain ⟨o,ho,hc,n,hd⟩:=pl
  exact call_list_seq p (.inr rfl) ho hc hd (fun h' c' kp e=>fin its r' hz h' c' kp e) (by simp only [Zh] <;> omega)
def tyV (K:W.Frag) (T:String) (x:V) (H:Hp):Prop:=match x with
 | .str _=>T="str"
 | .int _=>T="int"
 | .ref p=>(T="list"/\∃ xs,SqL K H p xs)\/(T="tuple"/\∃ o,K.lookup p=some o/\o.cls= .type "tuple"/\o.dict=none)\/
   (T="dict"/\((∃ kvs,H p=some (.dK kvs))\/∃ kvs,H p=some (.dT kvs)))\/(T="set"/\∃ S n,H p=some (.set S n))
 | _=>False
theorem U6 {pins:List (Addr×Obj)} {U:St} {H:Hp} {s:Shared} {T:String} {x:V} {v:Value} (I:Inv X pins U H s) (r:RelV x v) (ty:tyV X.K T x H):
  s.TypeIs v T/\∀ a,v= .ref a->∃ ob,s.heap.get? a=some ob/\ob.dict=none:=by
 cases x with
 | str z=>
  obtain ⟨t,rfl⟩:=r
  cases (show T="str" from ty)
  exact ⟨typeIs_str s z t,fun _ e=>nomatch e⟩
 | int i=>
  obtain ⟨t,rfl⟩:=r
  cases (show T="int" from ty)
  exact ⟨typeIs_int s i t,fun _ e=>nomatch e⟩
 | ref p=>
  cases r
  rcases ty with ⟨rfl,xs,hq⟩ | ⟨rfl,o,hk,hc,hd⟩ | ⟨rfl,hk⟩ | ⟨rfl,S,n,hk⟩
  ·obtain ⟨its,_,pl,_⟩:=I.list hq
   refine ⟨pl.isList.typeIs,fun a e=>?_⟩
   cases e
   obtain ⟨o,n,e,c,hd,_⟩:=pl
   exact ⟨o,e,hd⟩
  ·refine ⟨⟨o,I.kIn p o hk,hc⟩,fun a e=>?_⟩
   cases e
   exact ⟨o,I.kIn _ o hk,hd⟩
  ·have z:∃ o,s.heap.get? p=some o/\o.ExactDict:=by
    rcases hk with ⟨kvs,hk⟩ | ⟨kvs,hk⟩
    ·obtain ⟨_,_,_,_,o,_,_,e,ex,_⟩:=I.hok p _ hk
     exact ⟨o,e,ex⟩
    ·obtain ⟨_,_,_,_,o,_,_,e,ex,_⟩:=I.hok p _ hk
     exact ⟨o,e,ex⟩
   obtain ⟨o,e,ex⟩:=z
   refine ⟨⟨o,e,ex.1⟩,fun a e2=>?_⟩
   cases e2
   exact ⟨o,e,ex.2.1⟩
  ·obtain ⟨o,_,_,_,e,ex,_⟩:=I.hok p _ hk
   refine ⟨⟨o,e,ex.1⟩,fun a e2=>?_⟩
   cases e2
   exact ⟨o,e,ex.2.1⟩
 | _=>exact False.elim ty
def Wv (K:W.Frag) (T:String) (r:V->List V->Hp->VK->Prop) (to:TE) (t:TA):TE:=fun U H Q=>to U H fun x H1=>tyV K T x H1/\t U H1 fun xs H2=>r x xs H2 Q
variable {o e:Expr} {es:List Expr} {to:TE} {t:TA} {name:Str} {apos cpos:Pos} {T id:String} {r:V->List V->Hp->VK->Prop}
theorem Xc (pa:PlainAttrs T) (slot:Slot T name id) (hty:typeOf (.builtin id)=pure (.type "method_descriptor")) (hm:R5 X id r) (ho:PE X o to) (ha:PA X (e :: es) t)
  (hbase:autoParam (attributeBase o name X.env (eval o X.env)=eval o X.env) L2.auto4._auto_1)
  (hfew:((backTo cpos (starEach (e :: es) X.env)).all (fun x=>!x.1) && (backToKw cpos (keywordEach [] X.env)).all (fun x=>x.1.isSome)
   && decide ((e :: es).length+([]:List Keyword).length+(if ([]:List Keyword).isEmpty then 0 else 1) < 30))=true:=by rfl)
  (hline:autoParam ((apos.endLine == cpos.line)=true) L2.auto4._auto_1) (hs:autoParam (starEach (e :: es) X.env=(false,eval e X.env) :: starEach es X.env) L2.auto4._auto_1) (hplain:autoParam ((backTo cpos (starEach es X.env)).any (·.1)=false) L2.auto4._auto_1):
  PE X (.Call (.Attribute o name apos) (e :: es) [] cpos) (Wv X.K T r to t):=by
 intro pins s U H Q I h
 refine wpAny_Call_method_late hbase hfew hline rfl (dW (ho pins s U H _ I h) fun v s1 qq0=>?_)
 obtain ⟨x,H1,I1,r1,ty,q1⟩:=qq0
 obtain ⟨h1,h2⟩:=U6 I1 r1 ty
 refine ⟨T,id,pa,slot,hty,h1,h2,?_⟩
 have hA:=ha cpos pins s1 U H1 _ I1 q1
 rw [hs] at hA ⊢
 refine Calls.callWith_builtin (by show (false || (backTo cpos (starEach es X.env)).any (·.1))=false;rw [hplain] <;> rfl) (Calls.evalArgs_plain ?_)
 exact dW hA fun us s2 ⟨vs,H2,I2,r2,q2⟩=>hm pins s2 U H2 x vs v us Q I2 r1 r2 q2
end
def MtM (X:Cx) (id:String) (r:V->List V->Hp->VK->Prop):Prop:=
 ∀ (pins:List (Addr×Obj)) (s:Shared) (U:St) (H:Hp) (x:V) (xs:List V) (v:Value) (us:List Value) (Q:VK),Inv X pins U H s->RelV x v->Vals xs us->r x xs H Q->
  wpAny (model X.prog X.w) X.A (call (.builtin id) (v :: us)) (EP X pins U Q) X.xe s
theorem Vals.one:∀ {x:V} {us:List Value},Vals [x] us->∃ u,us=[u]/\RelV x u
 | _,_,.cons r .nil=>⟨_,rfl,r⟩
theorem Vals.reverse {xs:List V} {us:List Value} (h:Vals xs us):Vals xs.reverse us.reverse:=by
 induction h with
 | nil=>exact .nil
 | cons r t ih=>rw [List.reverse_cons,List.reverse_cons];exact Vals.append ih (.cons r .nil)
theorem Vals.rep {xs:List V} {us:List Value} (h:Vals xs us):∀ k:Nat,Vals (List.replicate k xs).flatten (List.replicate k us).flatten
 | 0=>.nil
 | k+1=>by
  rw [Aaa,Aaa,Aa7,Aa7]
  exact Vals.append h (Vals.rep h k)
theorem foldl_rep (its:List Value):∀ (k:Nat) (acc:List Value),
  List.foldl (fun x1 x2=>x1 ++ x2) acc.toArray (List.replicate k its.toArray)=(acc ++ (List.replicate k its).flatten).toArray
 | 0,acc=>by simp
 | k+1,acc=>by
  have e:acc.toArray ++ its.toArray=(acc ++ its).toArray:=by simp
  have e2:(acc ++ its) ++ (List.replicate k its).flatten=acc ++ (List.replicate (k+1) its).flatten:=by
   rw [Aaa,Aa7,List.append_assoc]
  rw [← e2,← foldl_rep its k (acc ++ its),← e,Aaa,List.foldl_cons]
section
variable {X:Cx} {pins:List (Addr×Obj)} {U:St} {H:Hp} {s:Shared} {l b:Addr} {xs ys zs:List V}
theorem Inv.lset {its its':List Value} {n:Nat} {f:Array Value->Array Value} {t':Nat} (I:Inv X pins U H s) (hH:H l=some (.lst xs))
  (e:s.heap.get? l=some {cls:=.type "list",data:=.seq its.toArray n}) (hf:f its.toArray=its'.toArray) (hv:Vals ys its') (hz:ys.length<=sizeLine):
  Inv X pins U (upd H l (.lst ys)) {s with heap:=s.heap.update l (Obj.mapSeq f),toks:=t'}:=by
 have q:=PySem.IsL.update e f
 rw [hf] at q
 refine I.write (x:=l) (e:=l) (by rw [hH];exact trivial) (.inl rfl) (fun b' u hb hu=>(Zf s.heap (Obj.mapSeq f) (Ne.symm hb)).trans hu) ⟨_,q⟩ ?_
 exact ⟨hz,its',_,hv,q⟩
theorem Inv.lnew {its:List Value} {t':Nat} (I:Inv X pins U H s) (hv:Vals ys its) (hz:ys.length<=sizeLine):
  Inv X pins U (upd H s.heap.objs.size (.lst ys)) {s with heap:=s.heap.push {cls:=.type "list",data:=.seq its.toArray},toks:=t'}:=
 I.laid (fun _ _ q=>Y0 _ q) (Y4 _) ⟨hz,its,0,hv,Za _ rfl⟩
theorem Inv.fresh (I:Inv X pins U H s):H s.heap.objs.size=none:=I.hok.fresh (Y4 _)
theorem Inv.lstM (I:Inv X pins U H s) (hH:H l=some (.lst xs)):xs.length<=sizeLine/\∃ (its:List Value) (n:Nat),Vals xs its/\xs.length=its.length/\s.heap.get? l=some {cls:=.type "list",data:=.seq its.toArray n}:=by
 obtain ⟨z,its,n,r,e⟩:=I.hok l _ hH
 exact ⟨z,its,n,r,r.length,e⟩
theorem KQ {n:Nat} (h:n<=sizeLine):Builtin.List.listTooLong n=false:=by
 unfold Builtin.List.listTooLong
 exact Zc (by omega)
end
section
variable {X:Cx}
def FT:V->List V->Hp->VK->Prop:=fun x vs H Q=>∃ l xs y,x= .ref l/\vs=[y]/\H l=some (.lst xs)/\xs.length < sizeLine/\Q .non (upd H l (.lst (xs ++ [y])))
theorem uo:MtM X "list.append" FT:=by
 intro pins s U H x vs v us Q I rx rv h
 obtain ⟨l,xs,y,rfl,rfl,hH,hz,q⟩:=h
 cases rx
 obtain ⟨u,rfl,ru⟩:=rv.one
 obtain ⟨z,its,n,r,hl,e⟩:=I.lstM hH
 refine call_meets F.slot_list_append ⟨_,e,rfl⟩ F.entry_list_append (F.args_list_append_2 _ _) (PySem.list_append l its.toArray n u (by rw [Zh];omega)) ⟨e,?_⟩
 refine ⟨.non,_,I.lset (its':=its ++ [u]) hH e (by simp) (r.append (.cons ru .nil)) ?_,rfl,q⟩
 rw [Z2,List.length_singleton]
 omega
def Xd:R2:=fun x y H Q=>∃ l b xs zs,x= .ref l/\y= .ref b/\H l=some (.lst xs)/\H b=some (.lst zs)/\xs.length+zs.length<=sizeLine/\∀ p,H p=none->Q (.ref p) (upd H p (.lst (xs ++ zs)))
theorem U9:OpR X (binaryOp .Add) Xd:=by
 intro pins s U H x y v u Q I rx ry h
 obtain ⟨l,b,xs,zs,rfl,rfl,hH,hB,hz,q⟩:=h
 cases rx
 cases ry
 obtain ⟨z,its,n,r,hl,e⟩:=I.lstM hH
 obtain ⟨z2,its2,n2,r2,hl2,e2⟩:=I.lstM hB
 refine PySem.P.add_list e e2 ?_ (by rw [Zh,Zh];omega)
 have ea:its.toArray ++ its2.toArray=(its ++ its2).toArray:=by simp
 rw [ea]
 exact ⟨.ref _,_,I.lnew (t':=s.toks) (r.append r2) (by rw [Z2];omega),rfl,q _ I.fresh⟩
def Xe:R2:=fun x y H Q=>∃ l k xs,x= .ref l/\y= .int k/\H l=some (.lst xs)/\-(2 ^ 63)<=k/\k < 2 ^ 63/\xs.length*k.toNat<=sizeLine/\
 ∀ p,H p=none->Q (.ref p) (upd H p (.lst (List.replicate k.toNat xs).flatten))
theorem len_rep {α:Type} (xs:List α) (k:Nat):(List.replicate k xs).flatten.length=k*xs.length:=by
 induction k with
 | zero=>simp
 | succ k ih=>rw [Aaa,Aa7,Z2,ih,Nat.succ_mul,Nat.add_comm]
theorem Va:OpR X (binaryOp .Mult) Xe:=by
 intro pins s U H x y v u Q I rx ry h
 obtain ⟨l,k,xs,rfl,rfl,hH,h1,h2,hz,q⟩:=h
 cases rx
 obtain ⟨t,rfl⟩:=ry
 obtain ⟨z,its,n,r,hl,e⟩:=I.lstM hH
 have hlen:its.toArray.size*k.toNat<=sizeLine:=by rw [Zh,← hl];exact hz
 have hcap:¬ its.toArray.size*k.toNat > (2 ^ 63 - 1) / 8:=by
  have:(sizeLine:Nat)<=(2 ^ 63 - 1) / 8:=by decide
  omega
 have hfit:¬ (!Builtin.List.listFitsIndex k)=true:=by
  rw [fitsIndex_both h1 h2]
  exact Y6
 have hlong:¬ Builtin.List.listTooLong (its.toArray.size*k.toNat)=true:=by
  rw [KQ hlen]
  exact Y6
 have hnew:List.foldl (fun x1 x2=>x1 ++ x2) #[] (List.replicate (if its.toArray.isEmpty=true then 0 else k.toNat) its.toArray)=(List.replicate k.toNat its).flatten.toArray:=by
  have f0:∀ m:Nat,List.foldl (fun x1 x2=>x1 ++ x2) #[] (List.replicate m its.toArray)=(List.replicate m its).flatten.toArray:=fun m=>by
   have:=foldl_rep its m []
   rw [List.nil_append] at this
   exact this
  rw [f0]
  cases its with
  | nil=>simp
  | cons a r'=>rw [if_neg (by simp)]
 refine wpAny_binaryOp_repeat_ref (T:="list") (U:="int") (by decide) ⟨_,e,rfl⟩ (fun s'=>typeIs_int s' k t) noFill_list_mul F.fills_int_mul F.slot_int_rmul repeat_list F.slot_int_index.lookup
  (call_meets F.slot_int_rmul (typeIs_int s k t) F.entry_int_rmul (F.args_int_rmul_2 _ _) (int___rmul___int_list k t l its.toArray n)
   ⟨e,rfl,⟨_,e,rfl⟩,call_meets F.slot_list_mul ⟨_,e,rfl⟩ F.entry_list_mul (F.args_list_mul_2 _ _) (AutoListH.list___mul___list_int_3 l its.toArray n k t hfit hcap hlong) ⟨e,?_⟩⟩)
 rw [hnew]
 exact ⟨.ref _,_,I.lnew (t':=s.toks) (r.rep k.toNat) (by rw [len_rep,Nat.mul_comm];exact hz),rfl,q _ I.fresh⟩
end
end L2
namespace Att
open PySem PySem.W PySem.Calls PyProof.Rows
theorem vd {P:Params} {h:Heap}:∀ (ns:List Int) (vs:List Value),WellAll P h vs (ns.map WData.int)->IntsAre vs ns:=by
 intro ns
 induction ns with
 | nil=>
  intro vs w
  rw [List.map_nil] at w
  cases w
  exact .nil
 | cons n ns ih=>
  intro vs w
  rw [ZQ] at w
  cases w with
  | cons a b=>
   cases a
   exact .cons _ _ (ih _ b)
theorem HQ {l:OpenLaw} {n:Nat} (hn:l.most=some n) {P:Params} {h:Heap} {args:List WData} {vals:List Value}
  (hpre:l.row.toRowW.claim.pre args=true) (hwl:WellAll P h vals args):
  ∃ a vs ns,vals=[Value.ref a]/\args=[WData.list (ns.map WData.int)]/\h.get? a=some {cls:=.type "list",data:=.seq vs.toArray}/\IntsAre vs ns/\ns.length<=n:=by
 have hsh:WShape.hasAll [] args [.list .int]=true:=(pre_splitW hpre).1
 have hc:l.pre.holds [] {args:=args}=true:=(pre_splitW hpre).2
 obtain ⟨d,r,rfl,h1,h2⟩:=hasAllW_cons hsh
 obtain rfl:=hasAllW_nil h2
 obtain ⟨xs,rfl,h3⟩:=hasW_list h1
 obtain ⟨ns,rfl⟩:=items_int h3
 have hlen:ns.length<=n:=by
  unfold OpenLaw.pre at hc
  have h4:(WTm.not (.lt (.lit (.int (n:Int))) (.len (.arg 0)))).holds [] {args:=[.list (ns.map .int)]}=true:=by
   have h4:=(holds_andW hc).1
   rw [hn] at h4
   exact h4
  have h5:=condW_of h4 (w_not (w_lt w_lit (w_len_list (w_arg rfl))))
  rw [Zj] at h5
  refine Nat.le_of_not_lt fun q=>?_
  have q':(n:Int) < ((ns.length:Nat):Int):=by omega
  first
   | (rw [Y9 q'] at h5;exact absurd h5 (by decide))
   | (simp at h5;omega)
 cases hwl with
 | cons w1 w2=>
  cases w2
  cases w1 with
  | list ho hall=>exact ⟨_,_,ns,rfl,rfl,ho,vd ns _ hall,hlen⟩
theorem HR (l:OpenLaw) (args:List WData):l.row.toRowW.claim.post args (.bool true) args=true:=
 postW_of (r:=l.row.toRowW) (X:=(true == true))
  (show WShape.has [] (.bool true) .bool=true by first | rfl | decide | simp [WShape.has,WShape.arms,WShape.armsAll])
  (show (WTm.eq .res (.lit (.bool true))).value [] {args:=args,res:=some (.bool true),after:=args}=some (.bool (true == true)) from w_eq_bool (w_res rfl) w_lit) rfl
theorem attach_call {l:OpenLaw} {n:Nat} {q:Program} {loose:List Str} {XP:(Str->Option Value)->Heap->Prop} {YP:World->Heap->Prop} {d:DefRec}
  (hn:l.most=some n) (hdf:d.params.defaults=[])
  (call:∀ (w:World) (s₀ s₁:Shared) (mg mb:Str->Option Value) (fa:Addr) (o:Obj) (pm cd doc:Value) (a:Addr) (vs:List Value) (ns:List Int),
   Ground q loose [] XP w s₀ mg mb s₁.heap->YP w s₁.heap->
   s₁.heap.get? fa=some o->o.data= .func (docDef d.name d.params d.body d.scope pm cd doc)->s₁.heap.CodeRec cd d.name->mg d.name=some (.ref fa)->
   s₁.heap.get? a=some {cls:=.type "list",data:=.seq vs.toArray}->IntsAre vs ns->ns.length<=n->s₁.gens= #[]->
   codeAny (model l.prog w) callerA (.call (.ref fa) ⟨[.ref a],[]⟩) (fun r s'=>r= .ok (.ret (.bool true))/\OldK s₁.heap s'.heap/\s'.os=s₁.os/\AllBare s'.gens) s₁):
  WalkO q loose XP YP l.row.toRowW d [] (fun f vs=>PySem.call f vs):=by
 intro w s₀ s₁ mg mb G Y fa o pm cd doc dV kV ho hd hcd hD hmg hg args vals as hpre hlay hrd hwl hlo
 obtain rfl:dV= .none:=Dflts.none hD hdf
 obtain rfl:kV= .none:=Dflts.noKw hD
 obtain ⟨a,vs,ns,rfl,rfl,hobj,hints,hlen⟩:=HQ hn hpre hwl
 refine enter_call (codeAny_mono (call w s₀ s₁ mg mb fa o pm cd doc a vs ns G Y ho (fd_plain hd) hcd hmg hobj hints hlen hg) fun r s' hq=>?_)
 obtain ⟨rfl,h2,h3,h4⟩:=hq
 exact ⟨.inl ⟨.bool true,.bool true,[],rfl,fun _=>rfl,.bool true,HR l _,fun _=>⟨List.Pairwise.nil,fun _ hm=>(nomatch hm)⟩⟩,h2,h3,h4⟩
end Att
namespace L2
open PySem PySem.Spec PyProof.Rows
theorem yx:∀ {vs:List Value} {ns:List Int},IntsAre vs ns->Vals (ns.map V.int) vs
 | _,_,.nil=>.nil
 | _,_,.cons n t h=>.cons ⟨t,rfl⟩ (yx h)
def Only (H:Hp):Prop:=∀ b,H b=none\/∃ o xs,H b=some (.frz o (.lst xs))
theorem KR {P:Program} {w:World} {K:W.Frag} {mg mb:Str->Option Value} {CX:HF} {k:Nat} {fa a:Addr} {fd:FuncData} {x:Str} {sp:Sp} {s₁:Shared} {vs:List Value} {ns:List Int}
  (KX:K.In s₁.heap) (hns:s₁.heap.Ns mainGlobals mg) (hb:s₁.heap.Ns builtinsNs mb) (hbb:∀ x:Str,x≠"__name__"->mb x=bootBuiltins x) (hlim:s₁.heap.NoLimit) (hsm:∃ mm,s₁.heap.Ns sysModules mm) (hbm:∃ bm ob,mg "__builtins__"=some (.ref bm)/\bm≠builtinsNs/\s₁.heap.get? bm=some ob/\ob.cls= .type "module"/\ob.dict=some builtinsNs/\ob.data= .plain) (hg:s₁.gens= #[])
  (ha:s₁.heap.get? a=some {cls:=.type "list",data:=.seq vs.toArray}) (hi:IntsAre vs ns) (hl:ns.length<=sizeLine) (hr:Room k callerA)
  (F:∀ base:Heap,K.In base->base.Ns mainGlobals mg->FnOk P w K mg base CX k fa fd [x] sp) (hbind:∀ (s:Shared) (u:Value),BindsTo s fd ⟨[u],[]⟩ [(x,u)])
  (hsp:∀ H:Hp,Only H->SqL K H a (ns.map V.int)->sp [.ref a] H (fun v _=>v= .bl true) fun _ _ _=>False)
  (hCX:∀ H e s',CX [] H s₁ (fun _ _ _=>False) e s'->False):
  codeAny (model P w) callerA (.call (.ref fa) ⟨[.ref a],[]⟩) (fun r s'=>r= .ok (.ret (.bool true))/\OldK s₁.heap s'.heap/\s'.os=s₁.os/\AllBare s'.gens) s₁:=by
 have rv:=yx hi
 have lenV:=hi.length
 have core:∀ H:Hp,Only H->SqL K H a (ns.map V.int)->HOk P w H s₁.heap->(∀ b,H b≠none->b=a)->(H a≠none->K.lookup a=none)->
   codeAny (model P w) callerA (.call (.ref fa) ⟨[.ref a],[]⟩) (fun r s'=>r= .ok (.ret (.bool true))/\OldK s₁.heap s'.heap/\s'.os=s₁.os/\AllBare s'.gens) s₁:=by
  intro H hO hS hok hA hK
  have base_of:∀ {b:Addr} {o:Obj},s₁.heap.get? b=some o->H b=none->(zm s₁.heap H).get? b=some o:=fun e n=>JX e n
  have noA:∀ {b:Addr} {o:Obj} {es:Array DictEntry} {ep:Nat},s₁.heap.get? b=some o->o.data= .dict es ep->H b=none:=fun {b o es ep} e d=>by
   cases q:H b with
   | none=>rfl
   | some u=>
    have e':b=a:=hA b (by rw [q];simp)
    subst e'
    rw [ha] at e;cases e
    have d':Data.seq vs.toArray _=Data.dict es ep:=d
    cases d'
  have noM:∀ {b:Addr} {o:Obj},s₁.heap.get? b=some o->o.cls= .type "module"->H b=none:=fun {b o} e d=>by
   cases q:H b with
   | none=>rfl
   | some u=>
    have e':b=a:=hA b (by rw [q];simp)
    subst e'
    rw [ha] at e;cases e
    exact absurd (show (Value.type "list":Value)= .type "module" from d) (fun z=>absurd (Value.type.inj z) (by decide))
  have nsK:∀ {b:Addr} {m:Str->Option Value},s₁.heap.Ns b m->(zm s₁.heap H).Ns b m:=fun {b m} ⟨o,es,ep,e,d,r⟩=>⟨o,es,ep,base_of e (noA e d),d,r⟩
  have hKb:K.In (zm s₁.heap H):=fun b o e=>base_of (KX b o e) (by
   cases q:H b with
   | none=>rfl
   | some u=>
    have e':b=a:=hA b (by rw [q];simp)
    subst e'
    rw [hK (by rw [q];simp)] at e;cases e)
  have hM:Mod K mg (zm s₁.heap H):=⟨hKb,nsK hns,⟨mb,nsK hb,hbb⟩,(let ⟨mc,h1,h2⟩:=hlim;⟨mc,nsK h1,h2⟩),(let ⟨mm,h1⟩:=hsm;⟨mm,nsK h1⟩),let ⟨bm,ob,b1,b2,b3,b4,b5⟩:=hbm;⟨bm,ob,b1,b2,base_of b3 (noM b3 b4),b4,b5⟩⟩
  have e0:Env0 P w K mg (zm s₁.heap H) callerA [] s₁ H:=⟨rfl,hM,fun b o e=>O7 e,Nat.le_of_eq (Ho _ _),trivial,fun b hb=>absurd (show b∈([]:List Addr) from hb) (by simp),hok,.of_eq hg⟩
  refine codeAny_mono ((F _ hKb (nsK hns)).run callerA [] s₁ H ⟨[.ref a],[]⟩ [.ref a] [.ref a] _ _ hr e0 (hbind s₁ (.ref a)) (.cons rfl .nil) (hsp H hO hS)) fun r s' h=>?_
  cases r with
  | error e=>exact (hCX H e s' h).elim
  | ok fl=>
   cases fl with
   | next=>exact False.elim h
   | brk=>exact False.elim h
   | cont=>exact False.elim h
   | ret u=>
    obtain ⟨v,H',os,bare,un,hok',r',q⟩:=h
    have q':v= .bl true:=q
    subst q'
    obtain rfl:u=Value.bool true:=r'
    refine ⟨rfl,OldK.of_keep fun b o e=>?_,os,bare⟩
    cases q:H b with
    | none=>exact un.keep b o e q (by intro z;exact absurd (show b∈([]:List Addr) from z) (by simp)) (by simp)
    | some u=>
     rcases hO b with z | ⟨ob,xs,z⟩
     ·rw [q] at z;cases z
     ·have z2:=un.frzs b ob _ z
      obtain ⟨e1,_⟩:=hok b _ z
      obtain ⟨e2,_⟩:=hok' b _ z2
      rw [e] at e1;cases e1
      exact e2
 cases hk:K.lookup a with
 | some o=>
  have e:=KX a o hk
  rw [ha] at e
  cases e
  refine core (fun _=>none) (fun _=>.inl rfl) (.inr ⟨_,vs.toArray,_,hk,rfl,rfl,rfl,by rw [Zh,lenV];exact hl,by simpa using rv⟩) (fun b u z=>by have z':(none:Option HO)=some u:=z;cases z') (fun b z=>absurd rfl z) fun z=>absurd rfl z
 | none=>
  refine core (fun b=>if b=a then some (.frz {cls:=.type "list",data:=.seq vs.toArray} (.lst (ns.map V.int))) else none) (fun b=>?_) (.inl (.inr ⟨{cls:=.type "list",data:=.seq vs.toArray},if_pos rfl⟩)) (fun b u z=>?_) (fun b z=>?_) fun _=>hk
  ·by_cases hb:b=a
   ·exact .inr ⟨_,_,if_pos hb⟩
   ·exact .inl (if_neg hb)
  ·by_cases hb:b=a
   ·have z':=(if_pos hb).symm.trans z
    cases z'
    subst hb
    exact ⟨ha,by rw [Zj];exact hl,vs,_,rv,ha⟩
   ·have z':=(if_neg hb).symm.trans z
    cases z'
  ·by_cases hb:b=a
   ·exact hb
   ·exact absurd (if_neg hb) z
abbrev KOf {K:W.Frag} {h:Heap} (_:K.In h):W.Frag:=K
theorem Qe {l:PySem.W.OpenLaw} {n k:Nat} {q:Program} {loose:List Str} {XP:(Str->Option Value)->Heap->Prop} {YP:World->Heap->Prop} {d:DefRec} {K:Params->W.Frag} {CX:World->HF} {sp:World->Sp} {x:Str}
  (hn:l.most=some n) (hn2:n<=sizeLine) (hdf:d.params.defaults=[]) (hr:Room k callerA)
  (hY:∀ (w:World) (h:Heap),YP w h->(K w.params).In h)
  (F:∀ (w:World) (mg:Str->Option Value) (fa:Addr) (h:Heap),(K w.params).In h->h.Ns mainGlobals mg->mg d.name=some (.ref fa)->
   ∃ fd:FuncData,(∀ (s:Shared) (u:Value),BindsTo s fd ⟨[u],[]⟩ [(x,u)])/\
    ∀ base:Heap,(K w.params).In base->base.Ns mainGlobals mg->FnOk l.prog w (K w.params) mg base (CX w) k fa fd [x] (sp w))
  (hsp:∀ (w:World) (H:Hp) (a:Addr) (ns:List Int),ns.length<=n->Only H->SqL (K w.params) H a (ns.map V.int)->sp w [.ref a] H (fun v _=>v= .bl true) fun _ _ _=>False)
  (hCX:∀ (w:World) (H:Hp) (s:Shared) (e:Value) (s':Shared),CX w [] H s (fun _ _ _=>False) e s'->False) (him:importsNone q=true):
  PySem.W.WalkO q loose XP YP l.row.toRowW d [] (fun f vs=>PySem.call f vs):=by
 refine Att.attach_call hn hdf fun w s₀ s₁ mg mb fa o pm cd doc a vs ns G Y ho hd hcd hmg hobj hints hlen hg=>?_
 have KX:=hY w _ Y
 obtain ⟨fd,hb,hF⟩:=F w mg fa _ KX G.T.g hmg
 exact KR KX G.T.g G.T.b G.T.builtins G.T.nolimit (let ⟨mm,h1,_⟩:=(G.T.seer him).mods;⟨mm,h1⟩) G.T.bmain hg hobj hints (Zm hlen hn2) hr hF hb (fun H hO hS=>hsp w H a ns hlen hO hS) fun H e s'=>hCX w H s₁ e s'
def d9 (s:Stmt):Arguments:=match s with
 | .FunctionDef _ a _ _ _ _ _ _ _ _=>a
 | _=>{posonlyargs:=[],args:=[],vararg:=none,kwonlyargs:=[],kw_defaults:=[],kwarg:=none,defaults:=[]}
def bG (s:Stmt):List Stmt:=match s with
 | .FunctionDef _ _ b _ _ _ _ _ _ _=>b
 | _=>[]
def az (s:Stmt):Scope:=match s with
 | .FunctionDef _ _ _ _ _ _ sc _ _ _=>sc
 | _=>{kind:=.function,names:=[],isGenerator:=false,isCoroutine:=false}
abbrev HS:HF:=fun _ _ _ _ _ _=>False
abbrev E0:XK:=fun _ _ _=>False
theorem Xf {X:Cx}:DK HS X E0:=fun _ _ _ _ _ _ _ h=>h.elim
structure Fun (K:W.Frag) (x qual:Str) (st:Stmt) (f:Addr) (fd:FuncData):Prop where
 ex:∃ (oc:Value) (od:Option Addr) (kV doc pm:Value) (an:Option Addr) (cdv ct:Value) (osl:Array (Option Value)),
  fd=PySem.W.fnOf x qual (d9 st) (bG st) (az st) .none kV doc pm an cdv ct/\K.lookup f=some ⟨oc,od,.func fd,osl⟩/\PySem.W.codeIn K cdv qual=true
 kp:PySem.W.keepIn K (.ref f)=true
section
variable {P:Program} {w:World} {K:W.Frag} {mg:Str->Option Value} {base:Heap}
theorem Fun.ok {x qual:Str} {st:Stmt} {f:Addr} {fd:FuncData} {N ps:List Str} {k:Nat} {sp:Sp} (F:Fun K x qual st f fd) (S:aC N ps (az st)) (len:∀ vs H Q E,sp vs H Q E->vs.length=ps.length)
  (hbody:∀ (cdv:Value) (A:Around) (outer:List Env) (s:Shared) (H:Hp) (vs:List V) (Q:VK) (E:XK),Room k (A.deeper (envOfC qual (az st) s.heap.objs.size f cdv))->sp vs H Q E->
   ∃ t,PSs (pH HS P w K mg base N qual (az st) f cdv A outer s H E).nox (bG st) t/\t {nx:=fun _ H'=>Q .non H',rt:=Q} (start N vs) H):FnOk P w K mg base HS (k+1) f fd ps sp:=by
 obtain ⟨oc,od,kV,doc,pm,an,cdv,ct,osl,rfl,lk,hcd⟩:=F.ex
 refine Bh lk hcd S len fun A outer s H vs Q E hr hsp=>?_
 obtain ⟨t,h,q⟩:=hbody cdv A outer s H vs Q E hr hsp
 exact ⟨t,h.nox,q⟩
theorem Fun.binds {x qual:Str} {st:Stmt} {f:Addr} {fd:FuncData} {ps:List Str} (F:Fun K x qual st f fd)
  (h:∀ (kV doc pm:Value) (an:Option Addr) (cdv ct:Value) (us:List Value),us.length=ps.length->bindArgs (PySem.W.fnOf x qual (d9 st) (bG st) (az st) .none kV doc pm an cdv ct) ⟨us,[]⟩=pure (ps.zip us)):Binds K fd ps []:=by
 obtain ⟨oc,od,kV,doc,pm,an,cdv,ct,osl,rfl,lk,hcd⟩:=F.ex
 exact .all (h kV doc pm an cdv ct)
theorem wg {x qual:Str} {st:Stmt} {f:Addr} {oc:Value} {od an:Option Addr} {osl:Array (Option Value)} {kV doc pm cdv ct:Value} (l:K.lookup f=some ⟨oc,od,.func (PySem.W.fnOf x qual (d9 st) (bG st) (az st) .none kV doc pm an cdv ct),osl⟩)
  (c:PySem.W.codeIn K cdv qual=true) (k:PySem.W.keepIn K (.ref f)=true):Fun K x qual st f (PySem.W.fnOf x qual (d9 st) (bG st) (az st) .none kV doc pm an cdv ct):=⟨⟨oc,od,kV,doc,pm,an,cdv,ct,osl,rfl,l,c⟩,k⟩
end
theorem jJ {A B:Prop} (h:B):if false=true then A else B:=by
 rw [if_neg Y6]
 exact h
theorem jR {A B:Prop} (h:A):if true=true then A else B:=by
 rw [if_pos rfl]
 exact h
def Same (H H':Hp):Prop:=∀ b o,H b=some o->H' b=some o
theorem Same.refl (H:Hp):Same H H:=fun _ _ h=>h
theorem Same.trans {H H1 H2:Hp} (a:Same H H1) (b:Same H1 H2):Same H H2:=fun c o h=>b c o (a c o h)
theorem Same.seq {K:W.Frag} {H H':Hp} {a:Addr} {xs:List V} (e:Same H H') (h:SqL K H a xs):SqL K H' a xs:=by
 rcases h with (h | ⟨o,h⟩) | h
 ·exact .inl (.inl (e _ _ h))
 ·exact .inl (.inr ⟨o,e _ _ h⟩)
 ·exact .inr h
end L2
set_option maxHeartbeats 4000000
namespace L2
open PySem PySem.Spec PyProof.Rows
def vf (env:Env):List (Str×NameKind)->List (Str×Addr)->List (Str×Addr)
 | [],acc=>acc
 | (n,k) :: r,acc=>vf env r (if k == .free then (match env.cells.lookup n with | some c=>(n,c) :: acc | none=>acc) else acc)
theorem wj {env:Env}:∀ {names:List (Str×NameKind)} {acc:List (Str×Addr)},(∀ x c,(x,c)∈acc->env.cells.lookup x=some c)->∀ x c,(x,c)∈vf env names acc->env.cells.lookup x=some c
 | [],_,h,x,c,m=>h x c m
 | (n,k) :: r,acc,h,x,c,m=>by
  refine wj (names:=r) ?_ x c m
  intro y d hm
  cases hk:(k == NameKind.free) with
  | false=>rw [hk] at hm;exact h y d hm
  | true=>
   rw [hk] at hm
   simp only [if_true] at hm
   cases e:env.cells.lookup n with
   | none=>rw [e] at hm;exact h y d hm
   | some c'=>
    rw [e] at hm
    rcases Y7.mp hm with z | z
    ·cases z;exact e
    ·exact h y d z
theorem Bj {env:Env}:∀ {names:List (Str×NameKind)} {acc:List (Str×Addr)} {p:Str×Addr},p∈acc->p∈vf env names acc
 | [],_,_,h=>h
 | (n,k) :: r,acc,p,h=>by
  refine Bj (names:=r) ?_
  split
  ·split
   ·exact Zg _ h
   ·exact h
  ·exact h
theorem wu {env:Env} {x:Str} {c:Addr} (e:env.cells.lookup x=some c):∀ {names:List (Str×NameKind)} {acc:List (Str×Addr)},(x,NameKind.free)∈names->(x,c)∈vf env names acc
 | [],_,h=>by simp at h
 | (n,k) :: r,acc,h=>by
  rcases Y7.mp h with z | z
  ·cases z
   refine Bj (names:=r) ?_
   rw [e]
   simp
  ·exact wu e (names:=r) z
theorem xK {l:List (Str×Addr)} {x:Str} {c:Addr} (hm:(x,c)∈l) (ha:∀ d,(x,d)∈l->d=c):l.lookup x=some c:=by
 induction l with
 | nil=>simp at hm
 | cons p r ih=>
  obtain ⟨n,d⟩:=p
  by_cases e:x=n
  ·subst e
   have:d=c:=ha d (by simp)
   subst this
   simp [Zx]
  ·have hb:(x == n)=false:=by simpa using e
   rw [Zx,hb]
   refine ih ?_ fun d' h'=>ha d' (Zg _ h')
   rcases Y7.mp hm with z | z
   ·cases z;exact absurd rfl e
   ·exact z
theorem Bk {env:Env} {names:List (Str×NameKind)} {x:Str} {c:Addr} (e:env.cells.lookup x=some c) (h:(x,NameKind.free)∈names):(vf env names []).lookup x=some c:=
 xK (wu e h) fun d hd=>by
  have q:=wj (names:=names) (acc:=[]) (env:=env) (by simp) x d hd
  rw [e] at q
  exact (Zv q).symm
theorem HW {env:Env} {names:List (Str×NameKind)} {x:Str} {c:Addr} (e:(vf env names []).lookup x=some c):env.cells.lookup x=some c:=
 wj (names:=names) (acc:=[]) (env:=env) (by simp) x c (ZL e)
theorem qZ {env:Env}:∀ (names:List (Str×NameKind)) (acc:List (Str×Addr)),(∀ x∈names,x.2=NameKind.free->∃ c,env.cells.lookup x.1=some c)->
  (forIn (m:=Sem) names acc fun x r=>match x with
   | (name,kind)=>if (kind == NameKind.free)=true then do let c ← cellOf env name;pure (ForInStep.yield ((name,c) :: r)) else pure (ForInStep.yield r))=pure (vf env names acc)
 | [],acc,_=>rfl
 | (n,k) :: r,acc,h=>by
  rw [List.forIn_cons]
  cases hk:(k == NameKind.free) with
  | false=>
   simp only [hk,AaZ,if_false,pure_bind,vf]
   exact qZ r acc fun x hx=>h x (Zg _ hx)
  | true=>
   obtain ⟨c,e⟩:=h (n,k) ZS (by simpa using hk)
   simp only [hk,if_true,pure_bind,vf,cellOf,e]
   exact qZ r ((n,c) :: acc) fun x hx=>h x (Zg _ hx)
theorem xM {scope:Scope} {env:Env} (h:∀ x∈scope.names,x.2=NameKind.free->∃ c,env.cells.lookup x.1=some c):closureFor scope env=pure (vf env scope.names []):=by
 unfold closureFor
 have:=qZ (env:=env) scope.names [] h
 simp only [this,pure_bind]
theorem HX {prog:Program} {w:World} {A:Around} {R:Result->Shared->Prop} {s:Shared} {elt target iter:Expr} {ifs:List Expr} {scope:Scope} {pos:Pos} {it acc:Value} {env:Env} (I:Nat->Shared->Prop)
  (turn:∀ n s,I n s->wpAny (model prog w) A (pyNext it) (fun r s₁=>match r with
   | none=>R (.ok .next) s₁
   | some v=>wpAny (model prog w) A (letOwnedTupleGo target it v) (fun _ s₁'=>wpAny (model prog w) A (assign target env v) (fun _ s₂=>
     wpAny (model prog w) A (forIn ifs true fun c r=>if r=true then do let ok ← isTrue c env (eval c env);pure (ForInStep.yield ok) else pure (ForInStep.yield r)) (fun ok s₃=>
      if ok=true then wpAny (model prog w) A (eval elt env) (fun x s₄=>
       wpAny (model prog w) A (call (.builtin "list.append") [acc,x]) (fun _ s₅=>∃ m,m < n/\I m s₅) (fun _ _=>False) s₄) (fun _ _=>False) s₃
      else ∃ m,m < n/\I m s₃) (fun _ _=>False) s₂) (fun _ _=>False) s₁') (fun _ _=>False) s₁) (fun _ _=>False) s)
  (n:Nat) (h:I n s):
  codeAny (model prog w) A (.compLoop (.ListComp elt [⟨target,iter,ifs,0⟩] scope pos) 0 it acc env) R s:=by
 refine codeAny_loop rfl I (fun n s hI=>?_) n h
 show wpAny _ A ((compTurn (.ListComp elt [⟨target,iter,ifs,0⟩] scope pos) 0 it acc env).onRaise (fun x=>do noteFrame x env;theTreesLotGoes x)) _ _ s
 refine wpAny_noted ?_
 rw [compTurn_list]
 refine YS (wpAny_standAt (YS (ZM (turn n s hI) (fun r s₁ h₁=>?_) fun _ _ h'=>h'.elim)))
 cases r with
 | none=>exact YX h₁
 | some v=>
  refine YS (ZM h₁ (fun _ s₁' h₁'=>?_) fun _ _ h'=>h'.elim)
  refine YS (ZM h₁' (fun _ s₂ h₂=>YS (ZM h₂ (fun ok s₃ h₃=>?_) fun _ _ h'=>h'.elim)) fun _ _ h'=>h'.elim)
  cases ok with
  | false=>exact YX ⟨rfl,h₃⟩
  | true=>
   exact YS (YS (ZM h₃ (fun x s₄ h₄=>YS (ZM h₄ (fun _ s₅ h₅=>YX (YX ⟨rfl,h₅⟩)) fun _ _ h'=>h'.elim)) fun _ _ h'=>h'.elim))
theorem eY:∀ (names:List (Str×NameKind)) (n:Nat) (acc:List (Str×Addr)),cellsFrom n names acc=cellsFrom n names [] ++ acc
 | [],_,_=>rfl
 | (x,k) :: r,n,acc=>by
  unfold cellsFrom
  split
  ·rw [eY r (n+1) ((x,n) :: acc),eY r (n+1) [(x,n)],List.append_assoc];rfl
  ·exact eY r n acc
theorem rZ {α:Type}:∀ {A B:List (Str×α)} {x:Str},(A ++ B).lookup x=(match A.lookup x with | some c=>some c | none=>B.lookup x)
 | [],_,_=>rfl
 | (y,c) :: A,B,x=>by
  rw [List.cons_append,Zx,Zx]
  cases x == y with
  | true=>rfl
  | false=>exact rZ (A:=A)
theorem ww:∀ {names:List (Str×NameKind)} {n:Nat} {acc:List (Str×Addr)} {x:Str} {c:Addr},(x,c)∈cellsFrom n names acc->(x,c)∈acc\/(x,NameKind.cell)∈names
 | [],_,_,_,_,h=>.inl h
 | (y,k) :: r,n,acc,x,c,h=>by
  unfold cellsFrom at h
  split at h
  ·rename_i hk
   rcases ww h with z | z
   ·rcases Y7.mp z with z | z
    ·cases z
     have:k= .cell:=by simpa using hk
     rw [this];exact .inr ZS
    ·exact .inl z
   ·exact .inr (Zg _ z)
  ·exact (ww h).imp id (Zg _)
theorem sr {α:Type}:∀ {l:List (Str×α)} {x:Str} {c:α},(x,c)∈l->∃ d,l.lookup x=some d
 | (y,d) :: r,x,c,h=>by
  by_cases e:x=y
  ·subst e;exact ⟨d,by simp [Zx]⟩
  ·have hb:(x == y)=false:=by simpa using e
   rw [Zx,hb]
   rcases Y7.mp h with z | z
   ·cases z;exact absurd rfl e
   ·exact sr z
theorem sy:∀ {names:List (Str×NameKind)} {n:Nat} {acc:List (Str×Addr)} {x:Str},(x,NameKind.cell)∈names\/(∃ c,(x,c)∈acc)->∃ c,(x,c)∈cellsFrom n names acc
 | [],_,_,_,h=>h.elim (fun h=>by simp at h) id
 | (y,k) :: r,n,acc,x,h=>by
  unfold cellsFrom
  split
  ·refine sy ?_
   rcases h with h | ⟨c,h⟩
   ·rcases Y7.mp h with z | z
    ·cases z;exact .inr ⟨n,ZS⟩
    ·exact .inl z
   ·exact .inr ⟨c,Zg _ h⟩
  ·rename_i hk
   refine sy ?_
   rcases h with h | h
   ·rcases Y7.mp h with z | z
    ·cases z;exact absurd (by decide) hk
    ·exact .inl z
   ·exact .inr h
def KY (X:Cx) (scope:Scope) (C:Addr):List (Str×Addr):=cellsFrom (C+1) scope.names (vf X.env scope.names [])
section
variable {M:Model} {A:Around} {E:Value->Shared->Prop} {s:Shared}
theorem m5 {scope:Scope} {globals:Addr} {cl:List (Str×Addr)} {qual:Str} {env:Env} {Q:Env->Shared->Prop}
  (hQ:∀ h':Heap,h'.Ns s.heap.objs.size (fun _=>none)->(∀ b o,s.heap.get? b=some o->h'.get? b=some o)->CellsOk h' (s.heap.objs.size+1) (cellsFrom (s.heap.objs.size+1) scope.names [])->
   Q (newEnv scope s.heap.objs.size globals (cellsFrom (s.heap.objs.size+1) scope.names cl) qual none .none (some env) builtinsNs) {s with heap:=h',toks:=s.toks+([]:List (Str×Value)).length}):
  wpAny M A (newFunctionEnv scope globals cl [] qual none .none (some env)) Q E s:=by
 simp only [newFunctionEnv,Option.isSome_some,if_true]
 refine YS (wpAny_alloc ?_)
 refine YS (wpAny_layCells _ (fun name kind cells=>by cases hkc:kind == NameKind.cell <;> simp [hkc]) _ _ _ _ ?_)
 have ok:=cellsFrom_ok scope.names (s.heap.push {cls:=.type "dict",data:=.dict #[]}) (s.heap.objs.size+1) [] ⟨fun _ _ hm=>(nomatch hm),List.Pairwise.nil⟩ (by rw [Aaj];exact Y4 _)
 rw [Aaj] at ok
 rw [show ({s with heap:=s.heap.push {cls:=.type "dict",data:=.dict #[]}}:Shared).heap.objs.size=s.heap.objs.size+1 from Aaj ..]
 exact YS (YX (YX (hQ _ ((Heap.Ns.new s.heap (.type "dict")).keeps (pushCells_keeps _ _)) (fun b o e=>pushCells_keeps _ _ b o (Y0 _ e)) ok)))
end
def xN (X:Cx) (N':List Str) (scope:Scope) (C:Addr) (s₀:Shared) (H₀:Hp) (ex:List Addr):Cx:=
 {X with N:=N',s₀:=s₀,H₀:=H₀,env:=compEnvC scope (KY X scope C) C X.env,outer:=X.stack,ex:=ex,fn:=fun x=>decide (scope.names.lookup x=some .cell),pn:=[],xe:=fun _ _=>False}
def eN (sub:List (Option Nat)) (U:St):St:=sub.map fun o=>o.bind fun j=>(U[j]?).join
structure Bl (N:List Str) (sc:Scope) (N':List Str) (scope:Scope) (sub:List (Option Nat)):Prop where
 kind:scope.kind= .function
 cel:∀ x∈scope.names,x.2= .cell->scope.names.lookup x.1=some .cell
 loc:∀ x∈scope.names,x.2= .local->scope.names.lookup x.1=some .local
 free:∀ x∈scope.names,x.2= .free->sc.names.lookup x.1=some .cell\/sc.names.lookup x.1=some .free
 len:sub.length=N'.length
 at_:∀ (i j:Nat) (x:Str),sub[i]?=some (some j)->N'[i]?=some x->N[j]?=some x/\(x,NameKind.free)∈scope.names/\scope.names.lookup x=some .free
def KZ (N:List Str) (sc:Scope) (N':List Str) (scope:Scope) (sub:List (Option Nat)):Bool:=
 decide (scope.kind= .function) && scope.names.all (fun x=>decide (x.2= .cell->scope.names.lookup x.1=some .cell)) && scope.names.all (fun x=>decide (x.2= .local->scope.names.lookup x.1=some .local)) &&
 scope.names.all (fun x=>decide (x.2= .free->sc.names.lookup x.1=some .cell\/sc.names.lookup x.1=some .free)) && decide (sub.length=N'.length) &&
 (List.range sub.length).all fun i=>match sub[i]?,N'[i]? with
  | some (some j),some x=>decide (N[j]?=some x/\(x,NameKind.free)∈scope.names/\scope.names.lookup x=some .free)
  | _,_=>true
theorem gJ {N:List Str} {sc:Scope} {N':List Str} {scope:Scope} {sub:List (Option Nat)} (h:KZ N sc N' scope sub=true):Bl N sc N' scope sub:=by
 simp only [KZ,Zb,AaK,gV] at h
 obtain ⟨⟨⟨⟨⟨h1,h2⟩,h3⟩,h4⟩,h5⟩,h6⟩:=h
 refine ⟨h1,h2,h3,h4,h5,fun i j x e1 e2=>?_⟩
 have hi:i < sub.length:=(YW.mp e1).1
 have q:=h6 i (Zk.mpr hi)
 rw [e1,e2] at q
 simpa using q
def K1:TT:=fun _ H Q=>Q true H
def K3 (X:Cx) (ifs:List Expr) (t:TT):Prop:=
 ∀ (pins:List (Addr×Obj)) (s:Shared) (U:St) (H:Hp) (Q:Bool->Hp->Prop),Inv X pins U H s->t U H Q->
  wpAny (model X.prog X.w) X.A (forIn ifs true fun c r=>if r=true then do let ok ← isTrue c X.env (eval c X.env);pure (ForInStep.yield ok) else pure (ForInStep.yield r)) (TP X pins U Q) X.xe s
theorem K4 {X:Cx}:K3 X [] K1:=fun _ _ _ H _ I h=>wpAny_tests_nil ⟨H,I,h⟩
def KeepSt (U U':St):Prop:=U'.length=U.length/\∀ (i:Nat) (v:V),U[i]?=some (some v)->U'[i]?=some (some v)
theorem KeepSt.set {U:St} {i:Nat} {v:V} (h:U[i]?=some none):KeepSt U (U.set i (some v)):=by
 refine ⟨by simp,fun j u e=>?_⟩
 by_cases hj:i=j
 ·subst hj;rw [h] at e;cases e
 ·rw [ZD hj];exact e
theorem KeepSt.trans {σ1 σ2 σ3:St} (a:KeepSt σ1 σ2) (b:KeepSt σ2 σ3):KeepSt σ1 σ3:=⟨b.1.trans a.1,fun i v e=>b.2 i v (a.2 i v e)⟩
def FW (sub:List (Option Nat)) (wi:TI) (g:TG) (tt:TT) (te:TE):TE:=fun U H Q=>wi U H fun J H1=>∃ W:Nat->Nat->List V->Hp->Prop,(∃ m,W 0 m [] H1)/\∀ i m ys H,W i m ys H->
 (J.stop i H/\ys.length<=sizeLine/\∀ D,H D=none->Q (.ref D) (upd H D (.lst ys)))\/
 (J.go i H/\ys.length < sizeLine/\∃ N:List V->Hp->Prop,(∀ ys' H',N ys' H'->∃ m',m' < m/\W (i+1) m' ys' H')/\
  ∀ x H',J.yld i H x H'->g x (eN sub U) H' fun σ2 H2=>KeepSt (eN sub U) σ2/\tt σ2 H2 fun b H3=>if b=true then te σ2 H3 fun y H4=>N (ys ++ [y]) H4 else N ys H3)
theorem sE {scope:Scope} {env:Env} {x:Str} (hx:scope.names.lookup x=some .free):(relabel scope env).names.lookup x=some .cell\/(relabel scope env).names.lookup x=some .free:=by
 have:∀ names:List (Str×NameKind),names.lookup x=some .free->
  (names.map fun (n,k)=>if (k == NameKind.free && env.scope.kind == .function && env.kindOf n == some .cell) then (n,NameKind.cell) else (n,k)).lookup x=some .cell\/
  (names.map fun (n,k)=>if (k == NameKind.free && env.scope.kind == .function && env.kindOf n == some .cell) then (n,NameKind.cell) else (n,k)).lookup x=some .free:=by
  intro names
  induction names with
  | nil=>intro h;simp at h
  | cons p r ih=>
   obtain ⟨n,k⟩:=p
   intro h
   by_cases e:x=n
   ·subst e
    have hk:k= .free:=by simpa [Zx] using h
    subst hk
    by_cases hc:((NameKind.free == NameKind.free && env.scope.kind == .function && env.kindOf x == some .cell)=true)
    ·left;simp only [ZQ];rw [if_pos hc];simp [Zx]
    ·right;simp only [ZQ];rw [if_neg hc];simp [Zx]
   ·have hb:(x == n)=false:=by simpa using e
    rw [Zx,hb] at h
    have q:=ih h
    simp only [ZQ]
    split <;> (rw [Zx,hb];exact q)
 exact this scope.names hx
theorem zE {scope:Scope} {env:Env} {x:Str} (h:(relabel scope env).names.lookup x=some .cell\/(relabel scope env).names.lookup x=some .free):(x,NameKind.cell)∈scope.names\/(x,NameKind.free)∈scope.names:=by
 have key:∀ k,(k=NameKind.cell\/k=NameKind.free)->(relabel scope env).names.lookup x=some k->(x,NameKind.cell)∈scope.names\/(x,NameKind.free)∈scope.names:=by
  intro k hk hl
  have hm:=ZL hl
  unfold relabel at hm
  obtain ⟨⟨n,k'⟩,hm1,hm2⟩:=ZP.mp hm
  dsimp only at hm2
  by_cases hc:(k' == NameKind.free && env.scope.kind == .function && env.kindOf n == some .cell)=true
  ·rw [if_pos hc] at hm2
   cases hm2
   simp only [Zb,Aao] at hc
   rw [← hc.1.1];exact .inr hm1
  ·rw [if_neg hc] at hm2
   cases hm2
   rcases hk with hk | hk
   ·subst hk;exact .inl hm1
   ·subst hk;exact .inr hm1
 rcases h with h | h
 ·exact key _ (.inl rfl) h
 ·exact key _ (.inr rfl) h
section
variable {X:Cx} {tg iter elt:Expr} {ifs:List Expr} {scope:Scope} {pos:Pos} {N':List Str} {sub:List (Option Nat)} {wi:TI} {g:TG} {tt:TT} {te:TE}
theorem HY {pins:List (Addr×Obj)} {U:St} {H:Hp} {s:Shared} {fp:List Addr} {D:Addr} {h':Heap} {tk:Nat} {N:List Str} {sc:Scope} (S:Bl N sc N' scope sub) (hN:X.N=N) (hsc:X.env.scope=sc) (I:Inv X pins U H s) (hf:∀ b∈fp,qM X pins H b) (hfo:∀ b∈fp,b < s.heap.objs.size)
  (hD:D < s.heap.objs.size) (fD:qM X pins H D) (hns:h'.Ns s.heap.objs.size fun _=>none) (hk:∀ b o,s.heap.get? b=some o->h'.get? b=some o) (hc:CellsOk h' (s.heap.objs.size+1) (cellsFrom (s.heap.objs.size+1) scope.names [])):
  Inv (xN X N' scope s.heap.objs.size s H (D :: fp)) [] (eN sub U) H {s with heap:=h',toks:=tk}:=by
 have hex:∀ b∈D :: fp,qM X pins H b/\b < s.heap.objs.size:=fun b hb=>by
  rcases Y7.mp hb with rfl | z
  ·exact ⟨fD,hD⟩
  ·exact ⟨hf b z,hfo b z⟩
 have spl:∀ {x c},(KY X scope s.heap.objs.size).lookup x=some c->(h'.IsCell c none/\s.heap.objs.size+1<=c/\(x,c)∈cellsFrom (s.heap.objs.size+1) scope.names [])\/(X.env.cells.lookup x=some c/\∃ o,s.heap.get? c=some o):=fun {x c} h=>by
  unfold KY at h
  rw [eY,rZ] at h
  cases e:(cellsFrom (s.heap.objs.size+1) scope.names []).lookup x with
  | some d=>
   rw [e] at h
   cases h
   have m:=ZL e
   exact .inl ⟨(hc.empty _ _ m).1,(hc.empty _ _ m).2,m⟩
  | none=>
   rw [e] at h
   have z:=HW h
   obtain ⟨v,o,ho,_⟩:=I.cell x c z
   exact .inr ⟨z,o,ho⟩
 have fre:∀ {x c},(x,NameKind.free)∈scope.names->scope.names.lookup x=some .free->X.env.cells.lookup x=some c->(KY X scope s.heap.objs.size).lookup x=some c:=fun {x c} h1 h2 h3=>by
  unfold KY
  rw [eY,rZ]
  cases e:(cellsFrom (s.heap.objs.size+1) scope.names []).lookup x with
  | some d=>
   rcases ww (ZL e) with z | z
   ·cases z
   ·have:=S.cel _ z rfl
    rw [h2] at this;cases this
  | none=>exact Bk h3 h1
 refine ⟨⟨I.ok.mod,S.kind,I.ok.glob,I.ok.blt,Y4 _,fun x y c h1 h2=>?_,fun x hx=>?_,fun x c hx h=>?_,I.ok.hd,I.ok.frames,.inl rfl,fun b hb=>?_,I.bs,Zm I.ok.bsz I.sz,fun b o e hb=>?_,fun b hb=>?_,I.stack,I.stkFree⟩,
  rfl,I.bare,Un.kept hk,⟨_,hns,fun i x v h1 h2 h3=>?_⟩,fun x c h=>?_,I.hok.fresh (Y4 _),fun x c h=>?_,fun p hp=>(nomatch hp),I.hok.kept hk,?_⟩
 ·rcases spl h1 with ⟨_,l1,m1⟩ | ⟨z1,o1,q1⟩ <;> rcases spl h2 with ⟨_,l2,m2⟩ | ⟨z2,o2,q2⟩
  ·exact PySem.name_of_addr hc.apart m1 m2
  ·exact absurd (Ze (Y5 q2) (AaL l1)) (Z5 _)
  ·exact absurd (Ze (Y5 q1) (AaL l2)) (Z5 _)
  ·exact I.ok.inj x y c z1 z2
 ·rcases zE hx with z | z
  ·obtain ⟨c,m⟩:=sy (n:=s.heap.objs.size+1) (acc:=vf X.env scope.names []) (.inl z)
   exact sr m
  ·obtain ⟨c,e⟩:=I.ok.has x (by have:=S.free _ z rfl;rw [← hsc] at this;exact this)
   show ∃ c,(KY X scope s.heap.objs.size).lookup x=some c
   unfold KY
   rw [eY]
   exact sr (c:=c) (ZX _ (wu e z))
 ·have hx':scope.names.lookup x=some .cell:=by simpa [xN] using hx
  rcases spl h with ⟨_,l,_⟩ | ⟨z,o,q⟩
  ·exact AaL l
  ·exfalso
   have m:(x,NameKind.cell)∈scope.names:=ZL hx'
   obtain ⟨d,md⟩:=sy (n:=s.heap.objs.size+1) (acc:=[]) (.inl m)
   obtain ⟨d',e'⟩:=sr md
   have h:(KY X scope s.heap.objs.size).lookup x=some c:=h
   unfold KY at h
   rw [eY,rZ,e'] at h
   cases h
   exact absurd (Ze (Y5 q) (AaL (hc.empty _ _ (ZL e')).2)) (Z5 _)
 ·obtain ⟨⟨f0,f1,f2,f3,f4,f5⟩,hlt⟩:=hex b hb
  refine ⟨Zt hlt,fun x c h=>?_⟩
  rcases spl h with ⟨_,l,_⟩ | ⟨z,_⟩
  ·exact fun z=>absurd (Ze hlt (AaL (z ▸ l))) (Z5 _)
  ·exact f4 x c z
 ·obtain ⟨⟨f0,f1,f2,f3,f4,f5⟩,hlt⟩:=hex b hb
  rcases f3 with z | z
  ·exact I.ok.noex b o e z
  ·exact absurd (Ze (Y5 (I.ok.bs b o e).1) z) (Z5 _)
 ·obtain ⟨⟨f0,f1,f2,f3,f4,f5⟩,hlt⟩:=hex b hb
  intro z
  rcases Y7.mp (I.stkSub b z) with z | z
  ·exact f1 z
  ·exact f2 z
 ·have hs:∃ j,sub[i]?=some (some j)/\U[j]?=some (some v):=by
   unfold eN at h2
   rw [Zd] at h2
   cases e:sub[i]? with
   | none=>rw [e] at h2;cases h2
   | some o=>
    rw [e] at h2
    cases o with
    | none=>cases h2
    | some j=>
     refine ⟨j,rfl,?_⟩
     have h3:(U[j]?).join=some v:=Zv h2
     cases e2:U[j]? with
     | none=>rw [e2] at h3;cases h3
     | some z=>rw [e2] at h3;cases z with
      | none=>cases h3
      | some z=>cases h3;rfl
  obtain ⟨j,e1,e2⟩:=hs
  obtain ⟨g1,g2,g3⟩:=S.at_ i j x e1 h1
  rw [← hN] at g1
  obtain ⟨m,hn,hl⟩:=I.loc
  have hkf:X.env.kindOf x=some .cell\/X.env.kindOf x=some .free:=by have:=S.free _ g2 rfl;rw [← hsc] at this;exact this
  have hvis:WL X.env.scope x:=by
   rcases hkf with z | z
   ·exact .inr (.inl z)
   ·exact .inr (.inr z)
  obtain ⟨u,r,l⟩:=hl j x v g1 e2 hvis
  refine ⟨u,r,.inr ⟨sE g3,?_⟩⟩
  rcases l with ⟨k,_⟩ | ⟨_,c,e,o,ho,hd⟩
  ·have k':X.env.kindOf x=some .local:=k
   rcases hkf with z | z <;> (rw [k'] at z;cases z)
  ·exact ⟨c,fre g2 g3 e,o,hk _ _ ho,hd⟩
 ·rcases spl h with ⟨z,_⟩ | ⟨z,_⟩
  ·exact ⟨_,z⟩
  ·obtain ⟨v,o,ho,hd⟩:=I.cell x c z
   exact ⟨v,o,hk _ _ ho,hd⟩
 ·rcases spl h with ⟨_,l,_⟩ | ⟨z,_⟩
  ·exact I.hok.fresh (AaL l)
  ·exact I.freeC x c z
 ·show (eN sub U).length=N'.length
  unfold eN
  rw [Zj]
  exact S.len
theorem Qf {N:List Str} {sc:Scope} (S:Bl N sc N' scope sub) (hc:X.calm=true) (hN:X.N=N) (hsc:X.env.scope=sc) (hi:PI X tg iter wi)
  (hg:∀ (C:Addr) (s₀:Shared) (H₀:Hp) (ex:List Addr),PG (xN X N' scope C s₀ H₀ ex) tg g)
  (ht:∀ (C:Addr) (s₀:Shared) (H₀:Hp) (ex:List Addr),K3 (xN X N' scope C s₀ H₀ ex) ifs tt)
  (he:∀ (C:Addr) (s₀:Shared) (H₀:Hp) (ex:List Addr),PE (xN X N' scope C s₀ H₀ ex) elt te)
  (hs:autoParam (∀ x,foldedSetIterable iter X.env x=pure x) L2.auto3._auto_1):
  PE X (.ListComp elt [⟨tg,iter,ifs,0⟩] scope pos) (FW sub wi g tt te):=by
 intro pins s U H Q I h
 rw [eval_ListComp]
 have hcl:∀ x∈scope.names,x.2=NameKind.free->∃ c,X.env.cells.lookup x.1=some c:=fun x hx hk=>I.ok.has x.1 (by have:=S.free x hx hk;rw [← hsc] at this;exact this)
 refine wpAny_comprehension_free (use:=none) rfl hs (xM hcl) S.kind S.loc ?_
 refine dW (hi pins s U H _ I h) fun v s1 h1=>dW h1 fun itv s2 h2=>?_
 obtain ⟨it,fp,tn,J,H2,e,I2,T,st2,f2,W,⟨m0,w0⟩,turn⟩:=h2
 subst e
 refine Z8 (m5 fun h₁ hns₁ hk31 hcl₁=>?_)
 dsimp only at hns₁ hk31 hcl₁ ⊢
 generalize hs3:({s2 with heap:=s2.heap.push {cls:=.type "list",dict:=none,data:=.seq ([]:List Value).toArray}}:Shared)=s3
 have e3:s2.heap.push {cls:=.type "list",dict:=none,data:=.seq ([]:List Value).toArray}=s3.heap:=by rw [← hs3]
 rw [e3] at hns₁ hk31 hcl₁ ⊢
 have hD3:s3.heap.get? s2.heap.objs.size=some {cls:=.type "list",dict:=none,data:=.seq ([]:List Value).toArray}:=by rw [← e3];exact Za _ rfl
 have I3:Inv X pins U H2 s3:=by
  rw [← hs3]
  exact I2.kept (t':=s2.toks) fun b o e=>Y0 _ e
 have k23:∀ b o,s2.heap.get? b=some o->s3.heap.get? b=some o:=fun b o e=>by rw [← e3];exact Y0 _ e
 have hsz:s3.heap.objs.size=s2.heap.objs.size+1:=by rw [← e3,Aaj]
 have hDn:H2 s2.heap.objs.size=none:=I2.hok.fresh (Y4 _)
 have fD:qM X pins H2 s2.heap.objs.size:=I2.fpOk (Y4 _) hDn
 have hfo:∀ b∈fp,b < s2.heap.objs.size:=fun b hb=>let ⟨o,e,_⟩:=T.obj _ _ st2 b hb;Y5 e
 have hDfp:s2.heap.objs.size ∉ fp:=fun z=>absurd (hfo _ z) (Z5 _)
 have I4:=HY (tk:=s3.toks+([]:List (Str×Value)).length) S hN hsc I3 f2 (fun b hb=>by rw [hsz];exact Nat.lt_succ_of_lt (hfo b hb)) (D:=s2.heap.objs.size) (by rw [hsz];exact Nat.lt_succ_self _) fD hns₁ hk31 hcl₁
 have stat:∀ {H':Hp} {ob:Obj},(∀ b∈fp,H' b=none)->∀ b∈fp,qM (xN X N' scope s3.heap.objs.size s3 H2 (s2.heap.objs.size :: fp)) [(s2.heap.objs.size,ob)] H' b:=fun {H' ob} hn b hb=>by
  obtain ⟨q1,q2⟩:=I4.ok.exf b (Zg _ hb)
  refine ⟨hn b hb,q1,I4.ok.exfs b (Zg _ hb),.inl (Zg _ hb),q2,fun p hp z=>?_⟩
  have hp':p=(s2.heap.objs.size,ob):=by simpa [xN] using hp
  subst hp'
  have z':s2.heap.objs.size=b:=z
  exact hDfp (by rw [z'];exact hb)
 generalize hXC:xN X N' scope s3.heap.objs.size s3 H2 (s2.heap.objs.size :: fp)=XC at I4 stat
 have eP:XC.prog=X.prog:=by rw [← hXC];rfl
 have eW:XC.w=X.w:=by rw [← hXC];rfl
 have eK:XC.K=X.K:=by rw [← hXC];rfl
 have eA:XC.A=X.A:=by rw [← hXC];rfl
 have eE:XC.env=compEnvC scope (KY X scope s3.heap.objs.size) s3.heap.objs.size X.env:=by rw [← hXC];rfl
 have eC:XC.calm=true:=by rw [← hXC];exact hc
 have eX:XC.xe=fun _ _=>False:=by rw [← hXC];rfl
 have eH:XC.H₀=H2:=by rw [← hXC];rfl
 have eS:XC.s₀=s3:=by rw [← hXC];rfl
 have eF:XC.fs=frs X.stack:=by rw [← hXC];rfl
 have eEx:XC.ex=s2.heap.objs.size :: fp:=by rw [← hXC];rfl
 have ePn:XC.pn=[]:=by rw [← hXC];rfl
 have hgC:PG XC tg g:=by rw [← hXC];exact hg _ _ _ _
 have htC:K3 XC ifs tt:=by rw [← hXC];exact ht _ _ _ _
 have heC:PE XC elt te:=by rw [← hXC];exact he _ _ _ _
 have pinD:∀ {U':St} {H':Hp} {s':Shared} {ob:Obj},Inv XC [] U' H' s'->H' s2.heap.objs.size=none->s'.heap.get? s2.heap.objs.size=some ob->(∀ v,ob.data≠.cell v)->Inv XC [(s2.heap.objs.size,ob)] U' H' s':=fun {U' H' s' ob} J hn hg hd=>
  J.pins_of fun p hp=>by
   have hp':p=(s2.heap.objs.size,ob):=by simpa using hp
   subst hp'
   refine ⟨hg,hn,(J.ok.exf _ (by rw [eEx];exact ZS)).1,J.ok.exfs _ (by rw [eEx];exact ZS),hd⟩
 have loop:codeAny (model X.prog X.w) X.A (.compLoop (.ListComp elt [⟨tg,iter,ifs,0⟩] scope pos) 0 (.ref it) (.ref s2.heap.objs.size) (compEnvC scope (KY X scope s3.heap.objs.size) s3.heap.objs.size X.env))
   (compPost (model X.prog X.w) X.A X.xe none (EP X pins U Q) (.ref s2.heap.objs.size) s3.heap.objs.size) {s3 with heap:=h₁,toks:=s3.toks+([]:List (Str×Value)).length}:=by
  refine HX (fun n s'=>∃ (i:Nat) (ys:List V) (its:List Value) (nn:Nat) (H':Hp),Inv XC [] (eN sub U) H' s'/\tn i s'.heap/\(∀ b∈fp,H' b=none)/\H' s2.heap.objs.size=none/\
   s'.heap.get? s2.heap.objs.size=some {cls:=.type "list",data:=.seq its.toArray nn}/\Vals ys its/\W i n ys H') ?_ m0
   ⟨0,[],[],_,H2,I4,T.keep _ _ _ st2 fun b _ o e=>hk31 b o (k23 b o e),fun b hb=>(f2 b hb).1,hDn,hk31 _ _ hD3,.nil,w0⟩
  rintro n s4 ⟨i,ys,its,nn,H4,J4,st4,fr4,dn4,dg4,rv4,w4⟩
  have P4:=pinD J4 dn4 dg4 (fun v z=>by cases z)
  rcases turn i n ys H4 w4 with ⟨stop,hyl,qn⟩ | ⟨go,hyl,N,hN,step⟩
  ·have hdone:=T.done XC eP eW eK eC i _ s4 _ H4 (fun _ _=>False) P4 (stat fr4) st4 stop
   rw [eA] at hdone
   refine ZM hdone (fun r s5 ⟨hr,I5⟩=>?_) fun _ _ z=>z
   subst hr
   obtain ⟨m,hn,_⟩:=id I5.loc
   have hCe:XC.env.locals=s3.heap.objs.size:=by rw [eE];rfl
   rw [hCe] at hn
   refine ⟨m,hn,fun h6 hs6=>?_⟩
   have hDg:=(I5.pin (s2.heap.objs.size,_) (by rw [ePn];exact ZS)).1
   have hDne:s2.heap.objs.size≠s3.heap.objs.size:=by rw [hsz];exact Zt (Nat.lt_succ_self _)
   have hHC:H4 s3.heap.objs.size=none:=by have:=I5.free;rw [hCe] at this;exact this
   have k56:∀ b o,b≠s3.heap.objs.size->s5.heap.get? b=some o->h6.get? b=some o:=fun b o hb e=>hs6.extBut b o hb e
   have un:=I5.base
   rw [eF,eEx,eH,eS] at un
   have nC:∀ b o,s3.heap.get? b=some o->b≠s3.heap.objs.size:=fun b o e=>Zt (Y5 e)
   have hok6:HOk X.prog X.w (upd H4 s2.heap.objs.size (.lst ys)) h6:=by
    have h5:=I5.hok
    rw [eP,eW] at h5
    have Tz:∀ b u,H4 b=some u->b≠s3.heap.objs.size:=fun b u e z=>by rw [z,hHC] at e;cases e
    intro b u e
    by_cases hb:b=s2.heap.objs.size
    ·subst hb
     rw [aj] at e;cases e
     exact ⟨hyl,its,nn,rv4,k56 _ _ hDne hDg⟩
    ·rw [aG hb] at e
     have nD:∀ c u,H4 c=some u->c≠s2.heap.objs.size:=fun c u e z=>by rw [z,dn4] at e;cases e
     refine (h5 b u e).stay (fun c v hc' q=>k56 c v ?_ q) (fun c q=>by rw [aG (nD c _ q)];exact q) fun c xs q=>by rw [aG (nD c _ q)];exact q
     rcases hc' with z | z
     ·rw [z];exact Tz b u e
     ·exact Tz c _ z
   have nD2:∀ c u,H4 c=some u->c≠s2.heap.objs.size:=fun c u e z=>by rw [z,dn4] at e;cases e
   have un6:Un (frs X.stack) (s2.heap.objs.size :: fp) H2 (upd H4 s2.heap.objs.size (.lst ys)) s3.heap h6:=
    ⟨fun b o e nn' hb hx=>k56 b o (nC b o e) (un.keep b o e nn' hb hx),fun b o e nn' hb hx=>let ⟨sl,q⟩:=un.slot b o e nn' hb hx;⟨sl,k56 b _ (nC b o e) q⟩,
     fun b o e nn' hx=>by rw [aG (fun z=>hx (by rw [z];exact ZS))];exact un.free b o e nn' hx,
     fun b o e hx=>let ⟨o',q⟩:=un.there b o e hx;⟨o',k56 b o' (nC b o e) q⟩,
     fun b xs e=>by have q:=un.tups b xs e;rw [aG (nD2 b _ q)];exact q,
     fun b o u e=>by have q:=un.frzs b o u e;rw [aG (nD2 b _ q)];exact q,
     fun b ps e=>let ⟨more,q⟩:=un.tbls b ps e;⟨more,by rw [aG (nD2 b _ q)];exact q⟩⟩
   have I6:Inv X pins U (upd H4 s2.heap.objs.size (.lst ys)) {s5 with heap:=h6}:=by
    refine I3.call' (s':={s5 with heap:=h6}) (ch:=s2.heap.objs.size :: fp) ?_ un6 hok6 I5.bare fun b hb=>?_
    ·show s5.os=s3.os
     have:=I5.os
     rw [eS] at this
     exact this
    ·have q:qM X pins H2 b:=by
      rcases Y7.mp hb with rfl | z
      ·exact fD
      ·exact f2 b z
     obtain ⟨f0,f1,f2',f3,f4,f5⟩:=q
     exact ⟨f3,f1,f4,f5⟩
   exact ⟨.ref s2.heap.objs.size,_,I6,rfl,qn _ dn4⟩
  ·have hitem:=T.item XC eP eW eK eC i _ s4 _ H4 (fun _ _=>False) P4 (stat fr4) st4 go
   rw [eA] at hitem
   refine ZM hitem (fun r s5 ⟨u,hr,h5⟩=>?_) fun _ _ z=>z
   subst hr
   dsimp only
   refine ZM h5 (fun _ s6 ⟨x,H6,I6,r6,y6,st6,fr6⟩=>?_) fun _ _ z=>z
   have P6:=I6.pinned (stat fr6) (T.obj _ _ st6)
   rw [← eE,← eP,← eW,← eA]
   refine ZM (hgC _ s6 _ H6 x u _ P6 r6 (step x H6 y6)) (fun _ s7 ⟨σ7,H7,I7,kp7,q7⟩=>?_) fun _ _ z=>by rw [eX] at z;exact z
   refine ZM (htC _ s7 σ7 H7 _ I7 q7) (fun ok s8 ⟨H8,I8,q8⟩=>?_) fun _ _ z=>by rw [eX] at z;exact z
   have fin:∀ {H9:Hp} {s9:Shared},Inv XC ([(s2.heap.objs.size,({cls:=.type "list",data:=.seq its.toArray nn}:Obj))] ++ vX fp s6.heap) σ7 H9 s9->Inv XC [] (eN sub U) H9 s9/\tn (i+1) s9.heap/\(∀ b∈fp,H9 b=none)/\H9 s2.heap.objs.size=none/\
     s9.heap.get? s2.heap.objs.size=some {cls:=.type "list",data:=.seq its.toArray nn}:=fun {H9 s9} J=>by
    have pD:=J.pin (s2.heap.objs.size,({cls:=.type "list",data:=.seq its.toArray nn}:Obj)) (by rw [ePn];simp)
    have pF:∀ b∈fp,∀ o,s6.heap.get? b=some o->s9.heap.get? b=some o/\H9 b=none:=fun b hb o e=>by
     have q:=J.pin (b,o) (by rw [ePn];exact ZX _ (ZX _ (qX hb e)))
     exact ⟨q.1,q.2.1⟩
    refine ⟨?_,T.keep _ _ _ st6 fun b hb o e=>(pF b hb o e).1,fun b hb=>?_,pD.2.1,pD.1⟩
    ·have J0:Inv XC [] σ7 H9 s9:=J.pins_of fun p hp=>nomatch hp
     exact J0.weak kp7.1.symm fun j v e=>kp7.2 j v e
    ·obtain ⟨o,e,_⟩:=T.obj _ _ st6 b hb
     exact (pF b hb o e).2
   cases ok with
   | false=>
    rw [if_neg (by simp)]
    rw [if_neg (by simp)] at q8
    obtain ⟨m',hm,w8⟩:=hN _ _ q8
    obtain ⟨a1,a2,a3,a4,a5⟩:=fin I8
    exact ⟨m',hm,i+1,ys,its,nn,H8,a1,a2,a3,a4,a5,rv4,w8⟩
   | true=>
    rw [if_pos rfl]
    rw [if_pos rfl] at q8
    refine ZM (heC _ s8 σ7 H8 _ I8 q8) (fun xv s9 ⟨y,H9,I9,r9,n9⟩=>?_) fun _ _ z=>by rw [eX] at z;exact z
    obtain ⟨m',hm,w9⟩:=hN _ _ n9
    obtain ⟨a1,a2,a3,a4,a5⟩:=fin I9
    refine wpAny_list_append_plain (items:=its.toArray) ⟨nn,a5⟩ (fun h' ⟨n',hp'⟩ sb=>?_) (by simp;rw [← rv4.length];omega)
    obtain ⟨q1,q2⟩:=I4.ok.exf s2.heap.objs.size (by rw [eEx];exact ZS)
    have a1':Inv XC [] (eN sub U) H9 {s9 with heap:=h'}:=a1.turned (t':=s9.toks) (fun b o hb e=>(sb.2 b hb).trans e) a4 q1 (.inl (by rw [eEx];exact ZS)) q2 (fun p hp=>by rw [ePn] at hp;exact nomatch hp)
    refine ⟨m',hm,i+1,ys ++ [y],its ++ [xv],n',H9,a1',T.keep _ _ _ a2 fun b hb o e=>(sb.2 b (fun z=>hDfp (by rw [← z];exact hb))).trans e,a3,a4,?_,rv4.append (.cons r9 .nil),w9⟩
    rw [hp']
    simp
 subst hs3
 exact codeAny_compStart_list loop (T.self _ 0 _ _ _ (T.keep _ _ _ st2 fun b _ o e=>hk31 b o (k23 b o e)) loop)
end
abbrev qO (sub:List (Option Nat)) (g:TG) (tt:TT) (te:TE) (U:St) (Q:VK) (J:It) (H1:Hp):Prop:=∃ W:Nat->Nat->List V->Hp->Prop,(∃ m,W 0 m [] H1)/\∀ i m ys H,W i m ys H->
 (J.stop i H/\ys.length<=sizeLine/\∀ D,H D=none->Q (.ref D) (upd H D (.lst ys)))\/
 (J.go i H/\ys.length < sizeLine/\∃ N:List V->Hp->Prop,(∀ ys' H',N ys' H'->∃ m',m' < m/\W (i+1) m' ys' H')/\
  ∀ x H',J.yld i H x H'->g x (eN sub U) H' fun σ2 H2=>KeepSt (eN sub U) σ2/\tt σ2 H2 fun b H3=>if b=true then te σ2 H3 fun y H4=>N (ys ++ [y]) H4 else N ys H3)
theorem vG {sub:List (Option Nat)} {g:TG} {tt:TT} {te:TE} {U:St} {Q:VK} {J:It} {H:Hp} {n:Nat} (Pv:Nat->List V->Hp->Prop) (hn:n<=sizeLine) (h0:Pv 0 [] H) (hl:∀ i ys H,Pv i ys H->ys.length<=i)
  (hgo:∀ i ys H,i < n->Pv i ys H->J.go i H) (hstop:∀ ys H,Pv n ys H->J.stop n H)
  (hs:∀ i ys H x H',i < n->Pv i ys H->J.yld i H x H'->g x (eN sub U) H' fun σ2 H2=>KeepSt (eN sub U) σ2/\tt σ2 H2 fun b H3=>if b=true then te σ2 H3 fun y H4=>Pv (i+1) (ys ++ [y]) H4 else Pv (i+1) ys H3)
  (hd:∀ ys H,Pv n ys H->∀ D,H D=none->Q (.ref D) (upd H D (.lst ys))):qO sub g tt te U Q J H:=by
 refine ⟨fun i m ys H=>m=n - i/\i<=n/\Pv i ys H,⟨n,by simp,Z7 _,h0⟩,?_⟩
 rintro i m ys H ⟨rfl,hi,p⟩
 have hl':=hl i ys H p
 by_cases hlt:i < n
 ·exact .inr ⟨hgo i ys H hlt p,by omega,fun ys' H'=>Pv (i+1) ys' H',fun ys' H' p'=>⟨n - (i+1),by omega,rfl,hlt,p'⟩,fun x H' y=>hs i ys H x H' hlt p y⟩
 ·have e:i=n:=by omega
  subst e
  exact .inl ⟨hstop ys H p,by omega,hd ys H p⟩
section
variable {κ:Type} [DecidableEq κ]
def jK (kvs:List (κ×V)) (k:κ):Option V:=(kvs.find? fun kv=>decide (kv.1=k)).map (·.2)
def putK (kvs:List (κ×V)) (k:κ) (v:V):List (κ×V):=
 if (kvs.any fun kv=>decide (kv.1=k))=true then kvs.map (fun kv=>if kv.1=k then (kv.1,v) else kv) else kvs ++ [(k,v)]
theorem Bm {k:κ}:jK ([]:List (κ×V)) k=none:=rfl
theorem gK {p:κ×V} {r:List (κ×V)} {k:κ} (e:p.1=k):jK (p :: r) k=some p.2:=by simp [jK,Aa2,e]
theorem gM {p:κ×V} {r:List (κ×V)} {k:κ} (e:¬ p.1=k):jK (p :: r) k=jK r k:=by simp [jK,Aa2,e]
theorem sH (k:κ):∀ kvs:List (κ×V),(kvs.any fun kv=>decide (kv.1=k))=(jK kvs k).isSome
 | []=>rfl
 | p :: r=>by
  rw [Abj]
  by_cases e:p.1=k
  ·simp only [gK e,Y9 e,Bool.true_or,Option.isSome_some]
  ·rw [gM e,Zc e,Bool.false_or];exact sH k r
theorem Bo (k j:κ) (y:V):∀ kvs:List (κ×V),jK (kvs.map fun kv=>if kv.1=k then (kv.1,y) else kv) j=(jK kvs j).map fun x=>if j=k then y else x
 | []=>rfl
 | p :: r=>by
  have ih:=Bo k j y r
  rw [ZQ]
  by_cases h:p.1=k
  ·rw [if_pos h]
   by_cases e:p.1=j
   ·rw [gK (p:=(p.1,y)) e,gK e,Option.map_some,if_pos (e.symm.trans h)]
   ·rw [gM (p:=(p.1,y)) e,gM e,ih]
  ·rw [if_neg h]
   by_cases e:p.1=j
   ·rw [gK (p:=p) e,gK e,Option.map_some,if_neg (fun z=>h (e.trans z))]
   ·rw [gM (p:=p) e,gM e,ih]
theorem yz (k j:κ) (y:V):∀ kvs:List (κ×V),jK kvs k=none->jK (kvs ++ [(k,y)]) j=if j=k then some y else jK kvs j
 | [],_=>by
  by_cases e:k=j
  ·rw [if_pos e.symm];exact gK (p:=(k,y)) e
  ·rw [if_neg (fun z=>e z.symm)];exact gM (p:=(k,y)) e
 | p :: r,hn=>by
  rw [List.cons_append]
  have hk:¬ p.1=k:=fun z=>by rw [gK z] at hn;cases hn
  rw [gM hk] at hn
  have ih:=yz k j y r hn
  by_cases e:p.1=j
  ·rw [gK e,gK e,if_neg (fun z=>hk (e.trans z))]
  ·rw [gM e,gM e,ih]
theorem sI (kvs:List (κ×V)) (k j:κ) (y:V):jK (putK kvs k y) j=if j=k then some y else jK kvs j:=by
 unfold putK
 by_cases a:(kvs.any fun kv=>decide (kv.1=k))=true
 ·rw [if_pos a,Bo]
  rw [sH] at a
  by_cases e:j=k
  ·obtain ⟨x,hx⟩:=Option.isSome_iff_exists.mp a
   rw [if_pos e,e,hx,Option.map_some,if_pos rfl]
  ·rw [if_neg e]
   cases jK kvs j with
   | none=>rfl
   | some x=>rw [Option.map_some,if_neg e]
 ·rw [if_neg a]
  refine yz k j y kvs ?_
  rw [sH] at a
  cases q:jK kvs k with
  | none=>rfl
  | some x=>rw [q] at a;exact (a rfl).elim
theorem jL (kvs:List (κ×V)) (k:κ) (v:V):(putK kvs k v).length<=kvs.length+1:=by
 unfold putK
 split
 ·rw [Zj];omega
 ·rw [Z2,Z6,List.length_nil];omega
theorem RelO.isSome_eq {o:Option V} {u:Option Value} (r:RelO o u):o.isSome=u.isSome:=by
 cases o with
 | none=>cases u with
  | none=>rfl
  | some _=>exact (show False from r).elim
 | some _=>cases u with
  | none=>exact (show False from r).elim
  | some _=>rfl
theorem KV.val {kvs:List (κ×V)} {vs:List (κ×Value)} (r:KV kvs vs) (k:κ):RelO (jK kvs k) (valueAt vs k):=by
 unfold KV at r
 induction r with
 | nil=>exact True.intro
 | @cons p q ps qs h t ih=>
  obtain ⟨h1,h2⟩:=h
  by_cases e:p.1=k
  ·have e':q.1=k:=h1.symm.trans e
   have b:valueAt (q :: qs) k=some q.2:=by simp [valueAt,Aa2,e']
   rw [gK e,b];exact h2
  ·have e':¬ q.1=k:=fun z=>e (h1.trans z)
   have b:valueAt (q :: qs) k=valueAt qs k:=by simp [valueAt,Aa2,e']
   rw [gM e,b];exact ih
theorem KV.any {kvs:List (κ×V)} {vs:List (κ×Value)} (r:KV kvs vs) (k:κ):(kvs.any fun kv=>decide (kv.1=k))=vs.any fun kv=>decide (kv.1=k):=by
 unfold KV at r
 induction r with
 | nil=>rfl
 | cons h t ih=>rw [Abj,Abj,ih,h.1]
theorem KV.repl {kvs:List (κ×V)} {vs:List (κ×Value)} (r:KV kvs vs) (k:κ) {y:V} {u:Value} (ry:RelV y u):
  KV (kvs.map fun kv=>if kv.1=k then (kv.1,y) else kv) (vs.map fun kv=>if kv.1=k then (kv.1,u) else kv):=by
 unfold KV at r ⊢
 induction r with
 | nil=>exact .nil
 | @cons p q ps qs h t ih=>
  rw [ZQ,ZQ]
  refine .cons ?_ ih
  obtain ⟨h1,h2⟩:=h
  by_cases e:p.1=k
  ·rw [if_pos e,if_pos (h1.symm.trans e)];exact ⟨h1,ry⟩
  ·rw [if_neg e,if_neg (fun z=>e (h1.trans z))];exact ⟨h1,h2⟩
theorem KV.put {kvs:List (κ×V)} {vs:List (κ×Value)} (r:KV kvs vs) (k:κ) {y:V} {u:Value} (ry:RelV y u):KV (putK kvs k y) (stored vs k u):=by
 unfold putK stored
 rw [r.any k]
 by_cases e:(vs.any fun kv=>decide (kv.1=k))=true
 ·rw [if_pos e,if_pos e];exact r.repl k ry
 ·rw [if_neg e,if_neg e];exact Paired.snoc r ⟨rfl,ry⟩
theorem KV.length {kvs:List (κ×V)} {vs:List (κ×Value)} (r:KV kvs vs):kvs.length=vs.length:=Paired.length r
end
theorem Bp {P:Program} {w:World} {k:Key} {u:Value} (r:RelV (kV k) u):(b8 P w).is k u=true:=by
 cases k with
 | inl i=>obtain ⟨t,e⟩:=(show ∃ t,u=Value.int i t from r);subst e;exact Bb P w i t
 | inr x=>obtain ⟨t,e⟩:=(show ∃ t,u=Value.str x t from r);subst e;exact Bc P w x t
theorem yC {P:Program} {w:World}:∀ {ks:List Key} {us:List Value},Vals (ks.map kV) us->ItemsAre (b8 P w) ks us
 | [],_,r=>by rw [List.map_nil] at r;cases r;exact .nil
 | k :: ks,_,r=>by
  rw [ZQ] at r
  cases r with
  | cons h t=>exact .cons (Bp h) (yC t)
abbrev KT (H:Hp):List (List Key×V)->List (List Key×Addr×Value)->Prop:=Paired fun p q=>p.1=q.1/\H q.2.1=some (.tup (p.1.map kV))/\RelV p.2 q.2.2
theorem KT.val {H:Hp} {kvs:List (List Key×V)} {xs:List (List Key×Addr×Value)} (r:KT H kvs xs) (k:List Key):RelO (jK kvs k) ((atKey xs k).map (·.2)):=by
 induction r with
 | nil=>exact True.intro
 | @cons p q ps qs h t ih=>
  obtain ⟨h1,_,h2⟩:=h
  by_cases e:p.1=k
  ·have e':q.1=k:=h1.symm.trans e
   have b:atKey (q :: qs) k=some q.2:=by simp [atKey,Aa2,e']
   rw [gK e,b];exact h2
  ·have e':¬ q.1=k:=fun z=>e (h1.trans z)
   have b:atKey (q :: qs) k=atKey qs k:=by simp [atKey,Aa2,e']
   rw [gM e,b];exact ih
theorem KT.repl {H:Hp} {kvs:List (List Key×V)} {xs:List (List Key×Addr×Value)} (r:KT H kvs xs) (k:List Key) {y:V} {u:Value} (ry:RelV y u):
  KT H (kvs.map fun kv=>if kv.1=k then (kv.1,y) else kv) (xs.map (putAt k u)):=by
 induction r with
 | nil=>exact .nil
 | @cons p q ps qs h t ih=>
  rw [ZQ,ZQ]
  refine .cons ?_ ih
  obtain ⟨h1,h2,h3⟩:=h
  unfold putAt
  by_cases e:p.1=k
  ·rw [if_pos e,if_pos (h1.symm.trans e)];exact ⟨h1,h2,ry⟩
  ·rw [if_neg e,if_neg (fun z=>e (h1.trans z))];exact ⟨h1,h2,h3⟩
theorem KT.put {H:Hp} {kvs:List (List Key×V)} {xs:List (List Key×Addr×Value)} (r:KT H kvs xs) (k:List Key) {b:Addr} {y:V} {u:Value} (hb:H b=some (.tup (k.map kV))) (ry:RelV y u):
  KT H (putK kvs k y) (storedH xs k b u):=by
 have e:(kvs.any fun kv=>decide (kv.1=k))=(atKey xs k).isSome:=by
  rw [sH,(r.val k).isSome_eq,Option.isSome_map]
 unfold putK storedH
 rw [e]
 by_cases q:(atKey xs k).isSome=true
 ·rw [if_pos q,if_pos q];exact r.repl k ry
 ·rw [if_neg q,if_neg q];exact Paired.snoc r ⟨rfl,hb,ry⟩
theorem KT.keeps {H H':Hp} {kvs:List (List Key×V)} {xs:List (List Key×Addr×Value)} (r:KT H kvs xs) (ht:∀ b ys,H b=some (.tup ys)->H' b=some (.tup ys)):KT H' kvs xs:=
 Paired.mapP r fun _ _ z=>⟨z.1,ht _ _ z.2.1,z.2.2⟩
section
variable {P:Program} {w:World} {H:Hp} {h:Heap} {a:Addr}
theorem R7 {u:HO} (ok:HOk P w H h) (e:Rd H a u):ObjOk P w H h a u:=e.ok ok
theorem Bq {kvs:List (Key×V)} (ok:HOk P w H h) (e:Rd H a (.dK kvs)):kvs.length<=sizeLine/\(a == sysModules)=false/\∃ vs,KV kvs vs/\h.DictOf (b8 P w) a vs:=
 show ObjOk P w H h a (.dK kvs) from R7 ok e
theorem Xg {kvs:List (Key×V)} (ok:HOk P w H h) (e:H a=some (.dK kvs)):kvs.length<=sizeLine/\(a == sysModules)=false/\∃ vs,KV kvs vs/\h.DictOf (b8 P w) a vs:=Bq ok (.inl e)
theorem wy {ks:List Key} (ok:HOk P w H h) (e:H a=some (.tup (ks.map kV))):(tupleKind (b8 P w)).is h ks a:=by
 obtain ⟨_,its,r,o,h1,h2,n,h3⟩:=(show ObjOk P w H h a (.tup (ks.map kV)) from ok a _ e)
 exact ⟨o,its.toArray,n,h1,h2,h3,by simpa using yC r⟩
theorem Br {kvs:List (List Key×V)} (ok:HOk P w H h) (e:Rd H a (.dT kvs)):kvs.length<=sizeLine/\(a == sysModules)=false/\
  ∃ xs,KT H kvs xs/\h.DictOfH (tupleKind (b8 P w)) a xs:=by
 obtain ⟨z,y,xs,r,o,es,ep,h1,h2,h3,h4,h5⟩:=(show ObjOk P w H h a (.dT kvs) from R7 ok e)
 refine ⟨z,y,xs,r,o,es,ep,h1,h2,h3,h4,fun x hx=>?_,h5⟩
 have all:∀ {l:List (List Key×V)} {m:List (List Key×Addr×Value)},KT H l m->∀ x∈m,(tupleKind (b8 P w)).is h x.1 x.2.1:=by
  intro l m q
  induction q with
  | nil=>intro x hx;exact nomatch hx
  | @cons p q ps qs hq t ih=>
   intro x hx
   rcases Y7.mp hx with e | hx
   ·subst e
    exact wy ok (by rw [← hq.1];exact hq.2.1)
   ·exact ih x hx
 exact all r x hx
theorem Xh {kvs:List (List Key×V)} (ok:HOk P w H h) (e:H a=some (.dT kvs)):kvs.length<=sizeLine/\(a == sysModules)=false/\
  ∃ xs,KT H kvs xs/\h.DictOfH (tupleKind (b8 P w)) a xs:=Br ok (.inl e)
end
def DGet (H:Hp) (a:Addr) (y:V) (r:Option V):Prop:=
 (∃ kvs k,Rd H a (.dK kvs)/\y=kV k/\r=jK kvs k)\/∃ kvs k b,Rd H a (.dT kvs)/\y= .ref b/\H b=some (.tup (k.map kV))/\r=jK kvs k
def DPut (H:Hp) (a:Addr) (y v:V) (H':Hp):Prop:=
 (∃ kvs k,H a=some (.dK kvs)/\y=kV k/\kvs.length < sizeLine/\H'=upd H a (.dK (putK kvs k v)))\/
 ∃ kvs k b,H a=some (.dT kvs)/\y= .ref b/\H b=some (.tup (k.map kV))/\kvs.length < sizeLine/\H'=upd H a (.dT (putK kvs k v))
theorem DGet.k {H:Hp} {a:Addr} {kvs:List (Key×V)} {k:Key} (e:H a=some (.dK kvs)):DGet H a (kV k) (jK kvs k):=.inl ⟨kvs,k,.inl e,rfl,rfl⟩
theorem DPut.k {H:Hp} {a:Addr} {kvs:List (Key×V)} {k:Key} {v:V} (e:H a=some (.dK kvs)) (hl:kvs.length < sizeLine):DPut H a (kV k) v (upd H a (.dK (putK kvs k v))):=.inl ⟨kvs,k,e,rfl,hl,rfl⟩
section
variable {X:Cx} {pins:List (Addr×Obj)} {U:St} {H:Hp} {s:Shared} {a:Addr} {y v:V} {u r:Value} {o:Option V} {A:Around} {E:Value->Shared->Prop}
theorem Inv.big (I:Inv X pins U H s):sysModules < s.heap.objs.size:=by
 have h:mainGlobals < s.heap.objs.size:=(I.mod.glob.keeps I.bk).lt
 exact Nat.lt_trans (by decide) h
theorem Ia {Q:Value->Shared->Prop} (hu:A.units+1 < cLine) (I:Inv X pins U H s) (g:DGet H a y (some v)) (ry:RelV y u) (h:∀ w' s',Inv X pins U H s'->RelV v w'->Q w' s'):
  wpAny (model X.prog X.w) A (getItem (.ref a) u) Q E s:=by
 rcases g with ⟨kvs,k,e,ey,l⟩ | ⟨kvs,k,b,e,ey,eb,l⟩
 ·subst ey
  obtain ⟨z,hd,vs,rel,dd⟩:=Bq I.hok e
  obtain ⟨w',hw,rw'⟩:=RelO.some_of (v:=v) (o:=valueAt vs k) (by rw [l];exact rel.val k)
  exact wpAny_getItem_of (Bp ry) dd.mapOf hw (h w' _ (I.tok _) rw')
 ·subst ey
  cases (show u=Value.ref b from ry)
  obtain ⟨z,hd,xs,rel,dd⟩:=Br I.hok e
  obtain ⟨w',hw,rw'⟩:=RelO.some_of (v:=v) (o:=(atKey xs k).map (·.2)) (by rw [l];exact rel.val k)
  obtain ⟨p,hp,hp2⟩:=Option.map_eq_some_iff.mp hw
  refine wpAny_getItem_heap (tupleKind_room_in1 hu) (wy I.hok eb) dd hp ?_
  rw [hp2]
  exact h w' _ (I.tok _) rw'
theorem d_in {Q:Value->Shared->Prop} (hu:A.units+1 < cLine) (I:Inv X pins U H s) (g:DGet H a y o) (ry:RelV y u) (h:∀ s',Inv X pins U H s'->Q (.bool o.isSome) s'):
  wpAny (model X.prog X.w) A (compareOp .In u (.ref a)) Q E s:=by
 rcases g with ⟨kvs,k,e,ey,l⟩ | ⟨kvs,k,b,e,ey,eb,l⟩
 ·subst ey
  obtain ⟨z,hd,vs,rel,dd⟩:=Bq I.hok e
  refine wpAny_in_of (Bp ry) hd dd.mapOf ?_
  rw [← (rel.val k).isSome_eq,← l]
  exact h _ (I.tok _)
 ·subst ey
  cases (show u=Value.ref b from ry)
  obtain ⟨z,hd,xs,rel,dd⟩:=Br I.hok e
  refine wpAny_in_heap (tupleKind_room_in1 hu) (wy I.hok eb) hd dd ?_
  have q:=(rel.val k).isSome_eq
  rw [Option.isSome_map] at q
  rw [← q,← l]
  exact h _ (I.tok _)
theorem Qg {Q:Value->Shared->Prop} (hu:A.units+1 < cLine) (I:Inv X pins U H s) (g:DGet H a y o) (ry:RelV y u) (h:∀ s',Inv X pins U H s'->Q (.bool (!o.isSome)) s'):
  wpAny (model X.prog X.w) A (compareOp .NotIn u (.ref a)) Q E s:=by
 rcases g with ⟨kvs,k,e,ey,l⟩ | ⟨kvs,k,b,e,ey,eb,l⟩
 ·subst ey
  obtain ⟨z,hd,vs,rel,dd⟩:=Bq I.hok e
  refine wpAny_notIn_of (Bp ry) hd dd.mapOf ?_
  rw [← (rel.val k).isSome_eq,← l]
  exact h _ (I.tok _)
 ·subst ey
  cases (show u=Value.ref b from ry)
  obtain ⟨z,hd,xs,rel,dd⟩:=Br I.hok e
  refine wpAny_notIn_heap (tupleKind_room_in1 hu) (wy I.hok eb) hd dd ?_
  have q:=(rel.val k).isSome_eq
  rw [Option.isSome_map] at q
  rw [← q,← l]
  exact h _ (I.tok _)
theorem FZ {h':Heap} {t':Nat} {ob:HO} (I:Inv X pins U H s) (mu:WK (H a)) (hs:Heap.SameBut a s.heap h') (he:∃ q,h'.get? a=some q) (new:ObjOk X.prog X.w (upd H a ob) h' a ob):
  Inv X pins U (upd H a ob) {s with heap:=h',toks:=t'}:=
 I.write (x:=a) (e:=a) mu (.inl rfl) (fun b q hb z=>(hs.2 b hb).trans z) he new
theorem Vb {P:Program} {w:World} {H':Hp} {h':Heap} {kvs:List (Key×V)} {vs:List (Key×Value)} (z:kvs.length<=sizeLine) (hd:(a == sysModules)=false) (rel:KV kvs vs) (dd:h'.DictOf (b8 P w) a vs):
  ObjOk P w H' h' a (.dK kvs):=⟨z,hd,vs,rel,dd⟩
theorem Ib {H':Hp} {Q:Unit->Shared->Prop} (hu:A.units+1 < cLine) (I:Inv X pins U H s) (g:DPut H a y v H') (ry:RelV y u) (rv:RelV v r) (h:∀ s',Inv X pins U H' s'->Q () s'):
  wpAny (model X.prog X.w) A (setItem (.ref a) u r) Q E s:=by
 rcases g with ⟨kvs,k,e,ey,l,eH⟩ | ⟨kvs,k,b,e,ey,eb,l,eH⟩
 ·subst ey eH
  obtain ⟨z,hd,vs,rel,dd⟩:=Xg I.hok e
  have hz:vs.length<=sizeLine:=by rw [← rel.length];exact z
  have hl:(putK kvs k v).length<=sizeLine:=by have:=jL kvs k v;omega
  refine wpAny_setItem_pairs (hsz:=hz) (Bp ry) dd fun h' dd' hs=>h _ ?_
  have he:∃ q,h'.get? a=some q:=let ⟨q,_,_,hq,_⟩:=dd';⟨q,hq⟩
  exact FZ I (by rw [e];exact True.intro) hs he (Vb hl hd (rel.put k rv) dd')
 ·subst ey eH
  cases (show u=Value.ref b from ry)
  obtain ⟨z,hd,xs,rel,dd⟩:=Xh I.hok e
  have hz:xs.length<=sizeLine:=by rw [← Paired.length rel];exact z
  have hl:(putK kvs k v).length<=sizeLine:=by have:=jL kvs k v;omega
  refine wpAny_setItem_heap (hsz:=hz) (tupleKind_room_in1 hu) (wy I.hok eb) dd fun h' dd' hs=>h _ ?_
  obtain ⟨q,es,ep,hq,h2,h3,h4,_,h5⟩:=dd'
  refine FZ I (by rw [e];exact True.intro) hs ⟨q,hq⟩ ⟨hl,hd,_,(rel.put k eb rv).keeps fun c ys ec=>?_,q,es,ep,hq,h2,h3,h4,h5⟩
  rw [aG (WF ec e (fun z=>nomatch z))]
  exact ec
end
def Xi (i:Expr):Prop:=∀ ov iv,subscripted i false ov iv=operate [ov,iv] (getItem ov iv)
theorem Qh {prog:Program} {w:World} {A:Around} {E:Value->Shared->Prop} {s:Shared} {env:Env} {value slice:Expr} {pos:Pos} {T id:String} {Q:Value->Shared->Prop}
  (hl:typeLookup (.type T) "__getitem__"=pure (some (.builtin id))) (hs:Xi slice)
  (h:wpAny (model prog w) A (eval value env) (fun o s₁=>wpAny (model prog w) A (eval slice env) (fun i s₂=>s₂.TypeIs o T/\wpAny (model prog w) A (getItem o i) Q E s₂) E s₁) E s):
  wpAny (model prog w) A (eval (.Subscript value slice pos) env) Q E s:=by
 refine Subscript_ (ZM h (fun o s₁ h₁=>ZM h₁ (fun i s₂ h₂=>?_) fun _ _ x=>x) fun _ _ x=>x)
 obtain ⟨hT,h₂⟩:=h₂
 unfold subscriptTail
 refine YS ?_
 rw [getitemInPython_of_ne hT.not_modules]
 refine YS (Aa3 hT hl ?_)
 have fin:wpAny (model prog w) A (subscripted slice false o i) (fun r s₃=>wpAny (model prog w) A (letTemporaryGo value o r >>=fun _=>pure r) Q E s₃) E s₂:=by
  rw [hs o i]
  exact wpAny_operating (ZM h₂ (fun r s₃ h₃=>YS (wpAny_letTemporaryGo (YX h₃))) fun _ _ x=>x)
 first
  | exact YX (YS fin)
  | exact YS (YX (YS fin))
  | exact YS fin
theorem Bs {X:Cx} {pins:List (Addr×Obj)} {U:St} {H:Hp} {s:Shared} {a:Addr} {y:V} {o:Option V} (I:Inv X pins U H s) (g:DGet H a y o):s.TypeIs (.ref a) "dict":=by
 rcases g with ⟨kvs,k,e,_,_⟩ | ⟨kvs,k,b,e,_,_,_⟩
 ·obtain ⟨_,_,vs,_,dd⟩:=Bq I.hok e
  exact dd.typeIs
 ·obtain ⟨_,_,xs,_,dd⟩:=Br I.hok e
  exact dd.typeIs
def K5 (td ty:TE):TE:=fun U H Q=>td U H fun x H1=>ty U H1 fun y H2=>∃ a v,x= .ref a/\DGet H2 a y (some v)/\Q v H2
section
variable {X:Cx} {o i e value:Expr} {pos pos' tpos:Pos} {td ty tv:TE}
theorem Qi (hu:X.A.units+1 < cLine) (ho:PE X o td) (hi:PE X i ty) (hs:Xi i):PE X (.Subscript o i pos) (K5 td ty):=by
 intro pins s U H Q I h
 refine Qh PySem.F.slot_dict_getitem.lookup hs (dW (ho pins s U H _ I h) fun u s1 ⟨x,H1,I1,rx,q1⟩=>dW (hi pins s1 U H1 _ I1 q1) fun iv s2 qq0=>?_)
 obtain ⟨y,H2,I2,ry,a,v,ex,g,q2⟩:=qq0
 subst ex
 obtain rfl:u=Value.ref a:=rx
 exact ⟨Bs I2 g,Ia hu I2 g ry fun w' s3 I3 rw'=>⟨v,H2,I3,rw',q2⟩⟩
end
theorem K6 {P:Program} {w:World} {H:Hp} (h:Heap) (hb:sysModules < h.objs.size):ObjOk P w H (h.push {cls:=.type "dict",data:=.dict #[]}) h.objs.size (.dK []):=
 ⟨Z7 _,Aax.mpr (Ne.symm (Zt hb)),[],.nil,Heap.DictOf.new h⟩
def DX:TE:=fun _ H Q=>∀ p,H p=none->Q (.ref p) (upd H p (.dK []))
section
variable {X:Cx} {pos:Pos}
theorem K7:PE X (.Dict [] [] pos) DX:=fun pins s U H Q I h=>
 wpAny_Dict_empty ⟨.ref s.heap.objs.size,_,I.laid (a:=s.heap.objs.size) (o:=.dK []) (t':=s.toks) (fun _ _ q=>Y0 _ q) (Y4 _) (K6 s.heap I.big),rfl,h _ (I.hok.fresh (Y4 _))⟩
end
def Qj (x:Str):It:=⟨fun i _=>i < x.cps.size,fun i H v H'=>H'=H/\∃ c,x.cps[i]?=some c/\v= .str ⟨#[c]⟩,fun i _=>i=x.cps.size⟩
theorem Bt {P:Program} {w:World} {K:W.Frag} {tg:Expr} (it:Addr) (x:Str) (t:Tok) (ty:String)
  (hty:["enumerate","zip","dict_itemiterator","dict_reverseitemiterator","odict_iterator","itertools.zip_longest","itertools.pairwise"].contains ty=false)
  (W:∀ A:Around,A.handled=none->Walks P w A it [it] [it] x.cps.size (SignAt x) fun i h=>h.IsStrIter it ty x t i)
  (hself:∀ (A:Around) (i:Nat) (s:Shared) (Q:Value->Shared->Prop) (E:Value->Shared->Prop),s.heap.IsStrIter it ty x t i->Q (.ref it) s->wpAny (model P w) A (pyIter (.ref it)) Q E s):Turn P w K tg (Qj x) [it] it (fun i h=>h.IsStrIter it ty x t i) where
 mem:=by simp
 obj:=fun i h st b hb=>by
  have e:b=it:=by simpa using hb
  subst e
  obtain ⟨o,e,c,d⟩:=st
  exact ⟨o,e,fun v z=>by rw [d] at z;cases z⟩
 keep:=fun i h h' st k=>by
  obtain ⟨o,e,r⟩:=st
  exact ⟨o,k it (by simp) o e,r⟩
 item:=by
  intro X hP hw hK hc i pins s U H E I hf st hg
  subst hP hw hK
  obtain ⟨f0,f1,f2,f3,f4,f5⟩:=hf it (by simp)
  refine (W X.A (I.ok.hd hc)).item i s _ _ hg st fun v h' tk hv st' kk=>?_
  obtain ⟨c,u,e1,rfl⟩:=hv
  have I1:Inv X pins U H {s with heap:=h',toks:=tk}:=I.turned (fun b o hb e=>kk b o (by simpa using hb) e) f0 f1 f3 f4 f5
  obtain ⟨o,e,cl,d⟩:=id st'
  exact ⟨_,rfl,yj (s:={s with heap:=h',toks:=tk}) e cl d hty ⟨.str ⟨#[c]⟩,H,I1,⟨u,rfl⟩,⟨rfl,c,e1,rfl⟩,st',fun b hb=>(hf b hb).1⟩⟩
 done:=by
  intro X hP hw hK hc i pins s U H E I hf st hg
  subst hP hw hK
  obtain ⟨f0,f1,f2,f3,f4,f5⟩:=hf it (by simp)
  have hg:i=x.cps.size:=hg
  subst hg
  exact (W X.A (I.ok.hd hc)).done s _ _ st fun h' tk kk=>⟨rfl,I.turned (fun b o hb e=>kk b o (by simpa using hb) e) f0 f1 f3 f4 f5⟩
 self:=hself
section
variable {X:Cx}
theorem all_range {bs:List Bool}:(List.range bs.length).all (fun i=>bs.getD i false)=bs.all id:=by
 rw [Bool.eq_iff_iff]
 simp only [gV,Zk]
 constructor
 ·intro h b hb
  obtain ⟨i,hi,e⟩:=Aba.mp hb
  have:=h i hi
  rw [YZ,YT hi] at this
  simp only [Option.getD_some] at this
  rw [← e];exact this
 ·intro h i hi
  rw [YZ,YT hi]
  exact h _ (Aad hi)
theorem uP:∀ {bs:List Bool} {us:List Value} {i:Nat} {v:Value},Vals (bs.map V.bl) us->us[i]?=some v->v= .bool (bs.getD i false)
 | [],_,i,v,.nil,e=>by simp at e
 | b :: bs,_,0,v,.cons r t,e=>by simp at e;subst e;exact r
 | b :: bs,_,i+1,v,.cons r t,e=>by
  simp at e
  have:=uP (bs:=bs) t e
  simpa using this
def rAll:List V->Hp->VK->Prop:=fun xs H Q=>∃ (p:Addr) (bs:List Bool),xs=[.ref p]/\H p=some (.lst (bs.map V.bl))/\Q (.bl (bs.all id)) H
theorem Bu (hc:X.calm=true):CallR X (.builtin "all") rAll:=by
 intro pins s U H xs us Q I r h
 obtain ⟨p,bs,rfl,hp,q⟩:=h
 obtain ⟨u,rfl,ru⟩:=vals1 r
 cases ru
 obtain ⟨hz,its,n,rv,e⟩:=I.hok p _ hp
 refine call_all_walk (wpAny_pyIter_list (items:=its.toArray) ⟨_,e,rfl,n,rfl⟩ ?_)
 refine ⟨s.heap.objs.size,_,_,_,_,_,fun i=>bs.getD i false,rfl,Walks.list (A:=X.A.in1) (I.ok.hd hc) s.heap.objs.size p (Zt (Y5 e)) its.toArray,⟨⟨_,Za _ rfl,rfl,rfl⟩,⟨_,Y0 _ e,rfl,n,rfl⟩⟩,?_,fun h' tk hk=>?_⟩
 ·intro i v s' Q' E' hv hq
  have:=uP rv (by simpa using hv)
  subst this
  exact Z1 hq
 ·have hl:its.toArray.size=bs.length:=by have:=rv.length;simpa using this.symm
  rw [hl,all_range]
  refine ⟨.bl _,H,?_,rfl,q⟩
  exact I.kept fun b o e=>hk b o (by simp;exact Zt (Y5 e)) (Y0 _ e)
def Xj:V->Option Int->Option Int->Hp->VK->Prop:=fun v lo hi H Q=>∃ x,v= .str x/\x.length<=sizeLine/\Q (.str (Txt.slice x lo hi)) H
theorem Vc:SlR X Xj:=by
 intro pins s U H x v vl vu lo hi sl Q I rx hs pl pu h
 obtain ⟨z,rfl,hz,q⟩:=h
 obtain ⟨t,rfl⟩:=rx
 refine ⟨"str",_,F.slot_str_getitem.lookup,typeIs_str _ _ _,?_⟩
 have fin:∀ (t' k:Nat),EP X pins U Q (.str (Txt.slice z lo hi) t') {s with toks:=k}:=fun t' k=>⟨.str _,H,I.tok _,⟨_,rfl⟩,q⟩
 have sz:=Zm (Txt.slice_le z lo hi) hz
 obtain ⟨o,ho,hc,hd⟩:=hs
 cases pl with
 | none=>
  cases pu with
  | none=>exact Aav (l:=none) (u:=none) (st:=none) ⟨o,ho,hc,hd⟩ rfl (post_val_or_str ⟨sz,fin⟩)
  | int j tj=>exact Aav (l:=none) (u:=some (j,tj)) (st:=none) ⟨o,ho,hc,hd⟩ rfl (post_val_or_str ⟨sz,fin⟩)
 | int i ti=>
  cases pu with
  | none=>exact Aav (l:=some (i,ti)) (u:=none) (st:=none) ⟨o,ho,hc,hd⟩ rfl (post_val_or_str ⟨sz,fin⟩)
  | int j tj=>exact Aav (l:=some (i,ti)) (u:=some (j,tj)) (st:=none) ⟨o,ho,hc,hd⟩ rfl (post_val_or_str ⟨sz,fin⟩)
def R8:R2:=fun x y H Q=>∃ i n,x= .str i/\y= .int n/\MulOk i n/\Q (.str (Txt.mul i n)) H
theorem DY:OpR X (binaryOp .Mult) R8:=by
 intro pins s U H x y v u Q I rx ry h
 obtain ⟨i,n,rfl,rfl,hk,q⟩:=h
 obtain ⟨t,rfl⟩:=rx
 obtain ⟨t',rfl⟩:=ry
 exact SB.mul hk fun t' k=>⟨.str _,H,I.tok _,⟨_,rfl⟩,q⟩
def sgn (x:Str):List V:=x.cps.toList.map fun c=>V.str ⟨#[c]⟩
theorem Ie {x:Str} {acc:Array Value} (h:ItemsOf (SignAt x) acc x.cps.size):Vals (sgn x) acc.toList:=by
 obtain ⟨h1,h2⟩:=h
 have key:∀ (l:List Nat) (a:List Value),l.length=a.length->(∀ (j:Nat) (v:Value),a[j]?=some v->∃ (c:Nat) (u:Tok),l[j]?=some c/\v=Value.str ⟨#[c]⟩ u)->Vals (l.map fun c=>V.str ⟨#[c]⟩) a:=by
  intro l
  induction l with
  | nil=>intro a hl _;cases a with
   | nil=>exact .nil
   | cons _ _=>simp at hl
  | cons c l ih=>
   intro a hl hh
   cases a with
   | nil=>simp at hl
   | cons v a=>
    obtain ⟨c',u,e1,e2⟩:=hh 0 v (by simp)
    simp at e1;subst e1
    refine .cons ⟨u,e2⟩ (ih a (by simpa using hl) fun j v' e=>?_)
    obtain ⟨c',u,e1,e2⟩:=hh (j+1) v' (by simpa using e)
    exact ⟨c',u,by simpa using e1,e2⟩
 refine key x.cps.toList acc.toList (by simp [h1]) fun j v e=>?_
 obtain ⟨c,u,e1,e2⟩:=h2 j v (by simpa using e)
 exact ⟨c,u,by simpa using e1,e2⟩
theorem Bv (hc:X.calm=true):CallR X (.type "list") (fun xs H Q=>∃ x,xs=[.str x]/\x.cps.size<=sizeLine/\∀ p,H p=none->Q (.ref p) (upd H p (.lst (sgn x)))):=by
 intro pins s U H xs us Q I r h
 obtain ⟨x,rfl,hz,q⟩:=h
 obtain ⟨u,rfl,t,rfl⟩:=vals1 r
 refine call_list_str (I.ok.hd hc) x t (hn:=hz) fun h' tk acc' c' hk hS hacc=>?_
 refine ⟨.ref s.heap.objs.size,_,I.laid (o:=.lst (sgn x)) hk (Y4 _) ⟨by simp [sgn];exact hz,acc'.toList,c',Ie hacc,by simpa using hS⟩,rfl,q _ I.fresh⟩
def Vd (K:W.Frag):List V->Hp->VK->Prop:=fun xs H Q=>∃ x T t b,xs=[x,.ty T]/\TyOf K H x t/\PySem.W.kitOne K t (.type T)=some b/\Q (.bl b) H
theorem K8:CallR X (.builtin "isinstance") (Vd X.K):=by
 intro pins s U H xs us Q I r h
 obtain ⟨x,T,t,b,rfl,ty,e,q⟩:=h
 obtain ⟨u,v,rfl,ru,rv⟩:=vals2 r
 cases rv
 exact HD I ru ty e fun tk=>⟨.bl b,H,I.tok _,rfl,q⟩
def Ea:List V->List V->Bool
 | [],[]=>true
 | x :: xs,y :: ys=>Ba x y && Ea xs ys
 | _,_=>false
theorem wz:∀ (xs ys:List V),xs.length=ys.length->(List.range xs.length).all (fun j=>Ba (xs.getD j .non) (ys.getD j .non))=Ea xs ys
 | [],[],_=>rfl
 | x :: xs,y :: ys,h=>by
  have ih:=wz xs ys (by simpa using h)
  rw [Z6,List.range_succ_eq_map,ZC,List.all_map]
  simp only [Ea]
  rw [← ih]
  rfl
 | [],y :: ys,h=>by simp at h
 | x :: xs,[],h=>by simp at h
theorem Bw:∀ {xs ys:List V},xs.length≠ys.length->Ea xs ys=false
 | [],[],h=>absurd rfl h
 | [],y :: ys,_=>rfl
 | x :: xs,[],_=>rfl
 | x :: xs,y :: ys,h=>by simp [Ea,Bw (xs:=xs) (ys:=ys) (by simpa using h)]
def Xk (K:W.Frag) (neg:Bool):R2:=fun x y H Q=>∃ a b xs ys,x= .ref a/\y= .ref b/\SqL K H a xs/\SqL K H b ys/\xs.all jH=true/\ys.all jH=true/\Q (.bl (if neg then !Ea xs ys else Ea xs ys)) H
theorem Ig (hu:X.A.units < cLine):OpR X (compareOp .Eq) (Xk X.K false):=by
 intro pins s U H x y v u Q I rx ry h
 obtain ⟨a,b,xs,ys,rfl,rfl,ha,hb,fx,fy,q⟩:=h
 cases rx
 cases ry
 obtain ⟨its,r1,p1,z1⟩:=I.list ha
 obtain ⟨jts,r2,p2,z2⟩:=I.list hb
 have l1:its.toArray.size=xs.length:=by simpa using r1.length.symm
 have l2:jts.toArray.size=ys.length:=by simpa using r2.length.symm
 by_cases hl:xs.length=ys.length
 ·refine SeqAt.eq_listAt (e:=fun j=>Ba (xs.getD j .non) (ys.getD j .non)) p1.isList p2.isList (by rw [l1,l2];exact hl) hu (fun j h1 h2=>?_) ?_
  ·have h1':j < xs.length:=by omega
   have h2':j < ys.length:=by omega
   obtain ⟨u1,e1,q1⟩:=r1.get (YT h1')
   obtain ⟨u2,e2,q2⟩:=r2.get (YT h2')
   have e1':its.toArray[j]=u1:=by
    have:=YW.mp e1
    obtain ⟨_,z⟩:=this
    simpa using z
   have e2':jts.toArray[j]=u2:=by
    have:=YW.mp e2
    obtain ⟨_,z⟩:=this
    simpa using z
   rw [e1',e2']
   have g1:xs.getD j .non=xs[j]:=by rw [YZ,YT h1'];rfl
   have g2:ys.getD j .non=ys[j]:=by rw [YZ,YT h2'];rfl
   show SeqAt.EqAt X.A.in1 s u1 u2 (Ba (xs.getD j .non) (ys.getD j .non))
   rw [g1,g2]
   exact pI q1 q2 (gV.mp fx _ (Aad h1')) (gV.mp fy _ (Aad h2'))
  ·rw [l1,wz xs ys hl]
   exact ⟨.bl _,H,I,rfl,q⟩
 ·refine SeqAt.eq_list_lengthsAt p1.isList p2.isList (by rw [l1,l2];simpa using hl) hu ?_
  rw [if_neg (by simp),Bw hl] at q
  exact ⟨.bl false,H,I,rfl,q⟩
end
def eO (K:W.Frag) (mg:Str->Option Value) (x:Str) (st:Stmt):Prop:=∃ f fd,Fun K x x st f fd/\mg x=some (.ref f)
theorem aZ {K:W.Frag} {mg:Str->Option Value} {h:Heap} (X:K.In h) (G:h.Ns mainGlobals mg) {x:Str} {st:Stmt} {f:Addr} {oc:Value} {od an:Option Addr} {osl:Array (Option Value)} {kV doc pm cdv ct:Value}
  (a:PySem.W.nsIn K mainGlobals x=some (some (.ref f)))
  (l:K.lookup f=some ⟨oc,od,.func (PySem.W.fnOf x x (d9 st) (bG st) (az st) .none kV doc pm an cdv ct),osl⟩)
  (c:PySem.W.codeIn K cdv x=true) (k:PySem.W.keepIn K (.ref f)=true):eO K mg x st:=⟨f,_,wg l c k,ZF X G a⟩
def Has (P:Program) (w:World) (K:W.Frag) (mg:Str->Option Value) (base:Heap) (k:Nat) (x:Str) (ps:List Str) (sp:Sp):Prop:=
 ∃ f fd,mg x=some (.ref f)/\PySem.W.keepIn K (.ref f)=true/\Binds K fd ps []/\FnOk P w K mg base HS k f fd ps sp
section
variable {P:Program} {w:World} {K:W.Frag} {mg:Str->Option Value} {base:Heap}
theorem Has.mono {j k:Nat} {x:Str} {ps:List Str} {sp:Sp} (h:Has P w K mg base j x ps sp) (hk:j<=k):Has P w K mg base k x ps sp:=
 let ⟨f,fd,a,b,c,d⟩:=h;⟨f,fd,a,b,c,d.mono hk⟩
theorem Ve {x:Str} {st:Stmt} {N ps:List Str} {k:Nat} {sp:Sp} (D:eO K mg x st) (S:aC N ps (az st))
  (hb:∀ (kV doc pm:Value) (an:Option Addr) (cdv ct:Value) (us:List Value),us.length=ps.length->bindArgs (PySem.W.fnOf x x (d9 st) (bG st) (az st) .none kV doc pm an cdv ct) ⟨us,[]⟩=pure (ps.zip us))
  (len:∀ vs H Q E,sp vs H Q E->vs.length=ps.length)
  (hbody:∀ (f:Addr) (cdv:Value) (A:Around) (outer:List Env) (s:Shared) (H:Hp) (vs:List V) (Q:VK) (E:XK),Room k (A.deeper (envOfC x (az st) s.heap.objs.size f cdv))->sp vs H Q E->
   ∃ t,PSs (pH HS P w K mg base N x (az st) f cdv A outer s H E).nox (bG st) t/\t {nx:=fun _ H'=>Q .non H',rt:=Q} (start N vs) H):Has P w K mg base (k+1) x ps sp:=by
 obtain ⟨f,fd,F,hm⟩:=D
 exact ⟨f,fd,hm,F.kp,F.binds hb,F.ok S len fun cdv A outer s H vs Q E hr h=>hbody f cdv A outer s H vs Q E hr h⟩
end
section
variable {X:Cx}
theorem K9 {k:Nat} {x:Str} {ps:List Str} {sp:Sp} {p pos:Pos} {e:Expr} {es:List Expr} {t:TA} (F:Has X.prog X.w X.K X.mg X.base k x ps sp) (hr:Room k X.A) (hg:Gl X x)
  (ha:PA X (e :: es) t) (hdb:autoParam ((x == ("__debug__":Str))=false) L2.auto2._auto_1) (he:autoParam (starEach (e :: es) X.env=(false,eval e X.env) :: starEach es X.env) L2.auto4._auto_1) (hpl:autoParam ((backTo pos (starEach es X.env)).any (·.1)=false) L2.auto4._auto_1):
  PE X (.Call (.Name x p) (e :: es) [] pos) (yp sp [] E0 t):=by
 obtain ⟨f,fd,a,b,c,d⟩:=F
 exact PX d hr hg a b c .nil Xf ha hdb he hpl
def Bx:R2:=fun x y H Q=>(∃ i j,x= .int i/\y= .int j/\Q (.int (i+j)) H)\/(∃ i j,x= .str i/\y= .str j/\i.length+j.length<=sizeLine/\Q (.str (i ++ j)) H)\/Xd x y H Q
theorem aN:OpR X (binaryOp .Add) Bx:=Uq.or (Dv.or U9)
def Ga:R2:=fun x y H Q=>(∃ i j,x= .int i/\y= .int j/\CMul i j/\Q (.int (i*j)) H)\/R8 x y H Q\/Xe x y H Q
theorem j5:OpR X (binaryOp .Mult) Ga:=Ur.or (DY.or Va)
theorem La {x:Str} {z:Str} {pos:Pos} (hg:Gl X x) (hm:∃ t,X.mg x=some (.str z t)) (hd:autoParam ((x == ("__debug__":Str))=false) L2.auto2._auto_1):PE X (.Name x pos) (tC (.str z)):=
 let ⟨t,e⟩:=hm;zq hg e ⟨t,rfl⟩ hd
theorem Lb {x:Str} {z:Int} {pos:Pos} (hg:Gl X x) (hm:∃ t,X.mg x=some (.int z t)) (hd:autoParam ((x == ("__debug__":Str))=false) L2.auto2._auto_1):PE X (.Name x pos) (tC (.int z)):=
 let ⟨t,e⟩:=hm;zq hg e ⟨t,rfl⟩ hd
theorem Xl {x:Str} {T:String} {pos:Pos} (hg:Gl X x) (hm:X.mg x=none) (hv:bootBuiltins x=some (.type T)) (hn:autoParam (x≠"__name__") L2.auto2._auto_1) (hd:autoParam ((x == ("__debug__":Str))=false) L2.auto2._auto_1):PE X (.Name x pos) (tC (.ty T)):=
 O8 hg hm hv rfl hn hd
def Ld (K:W.Frag):R2:=fun x y H Q=>(∃ i j,x= .str i/\y= .str j/\Q (.bl (!(Builtin.Str.occurrences j i 0 j.length 1).isEmpty)) H)\/YF K false x y H Q
theorem Vf:OpR X (compareOp .In) (Ld X.K):=Hy.or HN
def zF (K:W.Frag):R2:=fun x y H Q=>(∃ i j,x= .str i/\y= .str j/\Q (.bl (!(!(Builtin.Str.occurrences j i 0 j.length 1).isEmpty))) H)\/YF K true x y H Q
theorem Ih:OpR X (compareOp .NotIn) (zF X.K):=zA.or zy
def Vg (K:W.Frag):R2:=fun x y H Q=>rEq x y H Q\/Xk K false x y H Q
theorem Vh (hu:X.A.units < cLine):OpR X (compareOp .Eq) (Vg X.K):=WX.or (Ig hu)
def Xm (K:W.Frag):V->Option Int->Option Int->Hp->VK->Prop:=fun x lo hi H Q=>Xb K x lo hi H Q\/W4 K x lo hi H Q\/Xj x lo hi H Q
theorem Le:SlR X (Xm X.K):=Qd.or (UT.or Vc)
def Qk (K:W.Frag) (tl:TE):TI:=fun U H R=>tl U H fun x H1=>(∃ a,x= .ref a/\(∃ xs,SqL K H1 a xs)/\R (R3 K a) H1)\/(∃ a,x= .ref a/\(∃ xs,SqT K H1 a xs)/\R (Wu K a) H1)\/(∃ z,x= .str z/\R (Qj z) H1)
theorem Vi {tg l:Expr} {tl:TE} (hl:PE X l tl):PI X tg l (Qk X.K tl):=by
 intro pins s U H R I h
 refine dW (hl pins s U H _ I h) fun v s1 qq0=>?_
 obtain ⟨x,H1,I1,r1,q1⟩:=qq0
 rcases q1 with ⟨a,rfl,⟨xs,hq⟩,q⟩ | ⟨a,rfl,⟨xs,hq⟩,q⟩ | ⟨z,rfl,q⟩
 ·cases r1
  obtain ⟨its,rv,p,hz⟩:=I1.list hq
  refine wpAny_pyIter_list p.isList ?_
  refine ⟨s1.heap.objs.size,[s1.heap.objs.size],_,_,H1,rfl,I1.kept (t':=s1.toks) fun b o e=>Y0 _ e,Ht a _,⟨_,Za _ rfl,rfl,rfl⟩,fun b hb=>?_,q⟩
  have e:b=s1.heap.objs.size:=by simpa using hb
  subst e
  exact I1.fpOk (Y4 _) (I1.hok.fresh (Y4 _))
 ·cases r1
  obtain ⟨its,rv,p,hz⟩:=I1.tuple hq
  refine wpAny_pyIter_tuple (show s1.heap.IsTuple a its.toArray from p) ?_
  refine ⟨s1.heap.objs.size,[s1.heap.objs.size],_,_,H1,rfl,I1.kept (t':=s1.toks) fun b o e=>Y0 _ e,Dt a _,⟨_,Za _ rfl,rfl,rfl⟩,fun b hb=>?_,q⟩
  have e:b=s1.heap.objs.size:=by simpa using hb
  subst e
  exact I1.fpOk (Y4 _) (I1.hok.fresh (Y4 _))
 ·obtain ⟨t,rfl⟩:=r1
  have fin:∀ (ty:String) (T:Turn X.prog X.w X.K tg (Qj z) [s1.heap.objs.size] s1.heap.objs.size (fun i h=>h.IsStrIter s1.heap.objs.size ty z t i)) (o:Obj),(s1.heap.push o).IsStrIter s1.heap.objs.size ty z t 0->PIE X pins U tg R (.ref s1.heap.objs.size) {s1 with heap:=s1.heap.push o}:=
   fun ty T o st=>⟨s1.heap.objs.size,[s1.heap.objs.size],_,_,H1,rfl,I1.kept (t':=s1.toks) fun b o e=>Y0 _ e,T,st,fun b hb=>by
    have e:b=s1.heap.objs.size:=by simpa using hb
    subst e
    exact I1.fpOk (Y4 _) (I1.hok.fresh (Y4 _)),q⟩
  cases ha:z.cps.all (· < 128)
  ·exact wpAny_pyIter_wide ha (fin "str_iterator" (Bt _ z t _ (by decide) (fun A' hA=>Walks.strWide hA _ z t) fun A i s Q E st h=>wpAny_pyIter_striter_wide st h) _ ⟨_,Za _ rfl,rfl,rfl⟩)
  ·exact wpAny_pyIter_ascii ha (fin "str_ascii_iterator" (Bt _ z t _ (by decide) (fun A' hA=>Walks.strAscii hA _ z t) fun A i s Q E st h=>wpAny_pyIter_striter_ascii st h) _ ⟨_,Za _ rfl,rfl,rfl⟩)
end
section
variable {X:Cx} {K:W.Frag}
theorem Ql (hK:X.K=K):IxR X (R6 K):=hK ▸ U0
theorem wA (hK:X.K=K):OpR X (compareOp .In) (Ld K):=hK ▸ Vf
theorem Ii (hK:X.K=K):OpR X (compareOp .NotIn) (zF K):=hK ▸ Ih
theorem Vj (hK:X.K=K) (hu:X.A.units < cLine):OpR X (compareOp .Eq) (Vg K):=hK ▸ Vh hu
theorem vH (hK:X.K=K):SlR X (Xm K):=hK ▸ Le
theorem Qm {tg l:Expr} {tl:TE} (hK:X.K=K) (hl:PE X l tl):PI X tg l (Qk K tl):=hK ▸ Vi hl
def Ij (K:W.Frag):List V->Hp->VK->Prop:=fun xs H Q=>∃ x n,xs=[x]/\W0 K x H n/\Q (.int n) H
theorem aK (hK:X.K=K):CallR X (.builtin "len") (Ij K):=hK ▸ Ku
theorem gU (hK:X.K=K):CallR X (.builtin "isinstance") (Vd K):=hK ▸ K8
def Lf (K:W.Frag):List V->Hp->VK->Prop:=fun xs H Q=>(∃ p ys,xs=[.ref p]/\(SqL K H p ys\/SqT K H p ys)/\∀ l,H l=none->Q (.ref l) (upd H l (.lst ys)))\/(∃ x,xs=[.str x]/\x.cps.size<=sizeLine/\∀ p,H p=none->Q (.ref p) (upd H p (.lst (sgn x))))
theorem nQ (hK:X.K=K) (hc:X.calm=true):CallR X (.type "list") (Lf K):=hK ▸ zB.or (Bv hc)
variable {o e:Expr} {es:List Expr} {to:TE} {t:TA} {name:Str} {apos cpos:Pos} {T id:String} {r:V->List V->Hp->VK->Prop}
theorem Lg (hK:X.K=K) (pa:PlainAttrs T) (slot:Slot T name id) (hty:typeOf (.builtin id)=pure (.type "method_descriptor")) (hm:R5 X id r) (ho:PE X o to) (ha:PA X (e :: es) t)
  (hbase:autoParam (attributeBase o name X.env (eval o X.env)=eval o X.env) L2.auto4._auto_1)
  (hfew:((backTo cpos (starEach (e :: es) X.env)).all (fun x=>!x.1) && (backToKw cpos (keywordEach [] X.env)).all (fun x=>x.1.isSome)
   && decide ((e :: es).length+([]:List Keyword).length+(if ([]:List Keyword).isEmpty then 0 else 1) < 30))=true:=by rfl)
  (hline:autoParam ((apos.endLine == cpos.line)=true) L2.auto4._auto_1) (hs:autoParam (starEach (e :: es) X.env=(false,eval e X.env) :: starEach es X.env) L2.auto4._auto_1) (hplain:autoParam ((backTo cpos (starEach es X.env)).any (·.1)=false) L2.auto4._auto_1):
  PE X (.Call (.Attribute o name apos) (e :: es) [] cpos) (Wv K T r to t):=by
 subst hK;exact Xc pa slot hty hm ho ha hbase hfew hline hs hplain
theorem Qn {ts:List Expr} {k:Nat} {gs:Hr} {n:Nat} {pos:Pos} (hK:X.K=K) (hc:X.calm=true) (h:Wt X ts gs)
  (hn:autoParam ((assignEach ts X.env).length=n) L2.auto4._auto_1) (hst:autoParam ((assignEach ts X.env).findIdx? (·.1)=none) L2.auto4._auto_1):PG X (.Tuple ts k pos) (Pr K n gs):=by
 subst hK;exact Ue hc h hn hst
end
section
variable {X:Cx} {sc scope:Scope} {N':List Str} {C:Addr} {s₀:Shared} {H₀:Hp} {ex:List Addr} {x:Str} {pos:Pos}
theorem pvL (i:Nat) (h:sc.names.lookup x=some .local) (hN:autoParam (X.N[i]?=some x) L2.auto4._auto_1) (hsc:autoParam (X.env.scope=sc) L2.auto4._auto_1) (hd:autoParam ((x == ("__debug__":Str))=false) L2.auto6._auto_1) (hcd:autoParam ((x == ("__classdict__":Str))=false) L2.auto6._auto_1):
  PE X (.Name x pos) (qW i):=zp hN (.inl (by rw [hsc];exact h)) hd hcd
theorem pvC (i:Nat) (h:sc.names.lookup x=some .cell) (hN:autoParam (X.N[i]?=some x) L2.auto4._auto_1) (hsc:autoParam (X.env.scope=sc) L2.auto4._auto_1) (hd:autoParam ((x == ("__debug__":Str))=false) L2.auto6._auto_1) (hcd:autoParam ((x == ("__classdict__":Str))=false) L2.auto6._auto_1):
  PE X (.Name x pos) (qW i):=zp hN (.inr (.inl (by rw [hsc];exact h))) hd hcd
theorem pvBL (i:Nat) (h:scope.names.lookup x=some .local) (hN:autoParam (N'[i]?=some x) L2.auto4._auto_1) (hd:autoParam ((x == ("__debug__":Str))=false) L2.auto6._auto_1) (hcd:autoParam ((x == ("__classdict__":Str))=false) L2.auto6._auto_1):
  PE (xN X N' scope C s₀ H₀ ex) (.Name x pos) (qW i):=zp hN (.inl (lookup_relabel_local h)) hd hcd
theorem pvBF (i:Nat) (h:scope.names.lookup x=some .free) (hN:autoParam (N'[i]?=some x) L2.auto4._auto_1) (hd:autoParam ((x == ("__debug__":Str))=false) L2.auto6._auto_1) (hcd:autoParam ((x == ("__classdict__":Str))=false) L2.auto6._auto_1):
  PE (xN X N' scope C s₀ H₀ ex) (.Name x pos) (qW i):=zp hN (by
   rcases sE (env:=X.env) h with z | z
   ·exact .inr (.inl z)
   ·exact .inr (.inr z)) hd hcd
theorem j0 {env:Env}:∀ {names:List (Str×NameKind)} {x:Str},names.lookup x=some .globalImplicit->
  (names.map fun (n,k)=>if (k == NameKind.free && env.scope.kind == .function && env.kindOf n == some .cell) then (n,NameKind.cell) else (n,k)).lookup x=some .globalImplicit
 | [],_,h=>by simp at h
 | (n,k) :: r,x,h=>by
  have ih:=@j0 env r x
  show List.lookup x ((if (k == NameKind.free && env.scope.kind == .function && env.kindOf n == some .cell)=true then (n,NameKind.cell) else (n,k)) :: _)=_
  cases hx:x == n with
  | true=>
   simp only [Zx,hx] at h
   cases h
   simp [Zx,hx]
  | false=>
   simp only [Zx,hx] at h
   by_cases hc:(k == NameKind.free && env.scope.kind == .function && env.kindOf n == some .cell)=true
   ·rw [if_pos hc];simp only [Zx,hx];exact ih h
   ·rw [if_neg hc];simp only [Zx,hx];exact ih h
theorem YG (h:scope.names.lookup x=some .globalImplicit):Gl (xN X N' scope C s₀ H₀ ex) x:=j0 h
theorem pgB (i:Nat) (h:scope.names.lookup x=some .local) (hN:N'.Nodup) (hi:autoParam (N'[i]?=some x) L2.auto4._auto_1):PG (xN X N' scope C s₀ H₀ ex) (.Name x pos) (uL i):=
 Fv hN hi (.inl (lookup_relabel_local h)) (.inr (lookup_relabel_local h))
end
def mj:Expr->Bool
 | .ListComp ..=>false | .SetComp ..=>false | .DictComp ..=>false | _=>true
theorem By {value:Expr} {target:Option Expr} {line:Nat} {env:Env} (h:mj value=true):swapsWith value target line env=pure false:=by
 cases value <;> first | rfl | cases h
def pK:Expr->Bool
 | .Slice ..=>false | _=>true
theorem pix {b:Expr} (h:pK b=true):FQ b:=by
 intro o i
 cases b <;> first | rfl | cases h
def wB:Expr->Bool
 | .Set ..=>false | _=>true
theorem R9 {e:Expr} {env:Env} (h:wB e=true):∀ x,foldedSetIterable e env x=pure x:=by
 intro x
 cases e <;> first | rfl | cases h
def notStar:Expr->Bool
 | .Starred ..=>false | _=>true
theorem bH {e:Expr} {es:List Expr} {env:Env} (h:notStar e=true):starEach (e :: es) env=(false,eval e env) :: starEach es env:=by
 cases e <;> first | rfl | cases h
theorem lB {env:Env} {pos:Pos}:∀ {es:List Expr},es.all notStar=true->(backTo pos (starEach es env)).any (·.1)=false
 | [],_=>rfl
 | e :: es,h=>by
  simp only [ZC,Zb] at h
  rw [bH h.1]
  show (false || (backTo pos (starEach es env)).any (·.1))=false
  rw [lB h.2];rfl
theorem Eb {env:Env} {pos:Pos}:∀ {es:List Expr},es.all notStar=true->(backTo pos (starEach es env)).all (fun x=>!x.1)=true
 | [],_=>rfl
 | e :: es,h=>by
  simp only [ZC,Zb] at h
  rw [bH h.1]
  show (true && (backTo pos (starEach es env)).all (fun x=>!x.1))=true
  rw [Eb h.2];rfl
section
variable {X:Cx} {K:W.Frag} {e:Expr} {es:List Expr} {te:TE} {t:TA} {pos p:Pos}
theorem paC (ha:PE X e te) (hr:PA X es t) (h:autoParam (notStar e=true) L2.auto4._auto_1):PA X (e :: es) (FN te t):=PN ha hr (bH h)
theorem Xn {k:Nat} {x:Str} {ps:List Str} {sp:Sp} (F:Has X.prog X.w X.K X.mg X.base k x ps sp) (hr:Room k X.A) (hg:Gl X x) (ha:PA X (e :: es) t) (hdb:(x == ("__debug__":Str))=false) (h:autoParam ((e :: es).all notStar=true) L2.auto4._auto_1):
  PE X (.Call (.Name x p) (e :: es) [] pos) (yp sp [] E0 t):=by
 simp only [ZC,Zb] at h
 exact K9 F hr hg ha hdb (bH h.1) (lB h.2)
theorem Xo {x:Str} {id:String} {r:List V->Hp->VK->Prop} (hc:CallR X (.builtin id) r) (hg:Gl X x) (hm:X.mg x=none) (hv:bootBuiltins x=some (.builtin id)) (ha:PA X (e :: es) t) (hn:x≠"__name__") (hdb:(x == ("__debug__":Str))=false) (h:autoParam ((e :: es).all notStar=true) L2.auto4._auto_1):
  PE X (.Call (.Name x p) (e :: es) [] pos) (UL r t):=by
 simp only [ZC,Zb] at h
 exact Kz hc hg hm hv ha hn hdb (bH h.1) (lB h.2)
theorem Vk {x:Str} {T:String} {r:List V->Hp->VK->Prop} (hc:CallR X (.type T) r) (hg:Gl X x) (hm:X.mg x=none) (hv:bootBuiltins x=some (.type T)) (ha:PA X (e :: es) t) (hn:x≠"__name__") (hdb:(x == ("__debug__":Str))=false) (h:autoParam ((e :: es).all notStar=true) L2.auto4._auto_1):
  PE X (.Call (.Name x p) (e :: es) [] pos) (UL r t):=by
 simp only [ZC,Zb] at h
 exact HJ hc hg hm hv ha hn hdb (bH h.1) (lB h.2)
def sO:Expr->Bool
 | .Call ..=>false | _=>true
theorem Xp {o:Expr} {f:Str} {env:Env} {w:Sem Value} (h:sO o=true):attributeBase o f env w=w:=by
 cases o <;> first | rfl | cases h
theorem Xq {o:Expr} {to:TE} {name:Str} {apos cpos:Pos} {T id:String} {r:V->List V->Hp->VK->Prop} (hK:X.K=K) (pa:PlainAttrs T) (slot:Slot T name id) (hty:typeOf (.builtin id)=pure (.type "method_descriptor")) (hm:R5 X id r) (ho:PE X o to) (ha:PA X (e :: es) t)
  (hbase:autoParam (sO o=true) L2.auto4._auto_1) (hl:autoParam (es.length < 20) L2.auto2._auto_1) (hline:autoParam ((apos.endLine == cpos.line)=true) L2.auto4._auto_1) (h:autoParam ((e :: es).all notStar=true) L2.auto4._auto_1):
  PE X (.Call (.Attribute o name apos) (e :: es) [] cpos) (Wv K T r to t):=by
 have hA:=Eb (env:=X.env) (pos:=cpos) h
 simp only [ZC,Zb] at h
 refine Lg hK pa slot hty hm ho ha (Xp hbase) ?_ hline (bH h.1) (lB h.2)
 rw [hA]
 have:(e :: es).length+([]:List Keyword).length+(if ([]:List Keyword).isEmpty then 0 else 1) < 30:=by simp;omega
 rw [Y9 this];rfl
theorem Xr {i:Nat} {x:Str} {pos':Pos} (hN:X.N.Nodup) (hi:X.N[i]?=some x) (hx:Loc X.env.scope x) (he:PE X e te) (hf:X.fn x=true) (h:autoParam (mj e=true) L2.auto4._auto_1):PS X (.Assign [.Name x pos'] e pos) (Hs te (uL i)):=
 Uj hN hi hx he (By h) (.inl hf)
theorem Vl (he:PE X e te) (h:autoParam (mj e=true) L2.auto4._auto_1):PS X (.Expr e pos) (Ft te):=Pj he (By h)
theorem ixE {a b:Expr} {ta tb:TE} (hK:X.K=K) (ha:PE X a ta) (hb:PE X b tb) (h:autoParam (pK b=true) L2.auto4._auto_1):PE X (.Subscript a b pos) (Km (R6 K) ta tb):=W5 (Ql hK) ha hb (pix h)
theorem Xu {tg iter:Expr} {body:List Stmt} {wi:TI} {g:TG} {tb:TS} (hp:PassesOwn (model X.prog X.w) X.A X.env X.xe) (hc:X.calm=true) (hi:PI X tg iter wi) (hg:PG X tg g) (hb:PSs X body tb) (h:autoParam (wB iter=true) L2.auto4._auto_1):PS X (.For tg iter body [] pos) (Pu wi g tb):=
 Um hp hc hi hg hb (R9 h)
end
section
variable {X:Cx} {tg iter elt:Expr} {ifs:List Expr} {scope:Scope} {pos:Pos} {N':List Str} {sub:List (Option Nat)} {wi:TI} {g:TG} {tt:TT} {te:TE} {N:List Str} {sc:Scope}
theorem Xv (S:Bl N sc N' scope sub) (hc:X.calm=true) (hN:X.N=N) (hsc:X.env.scope=sc) (hi:PI X tg iter wi)
  (hg:∀ (C:Addr) (s₀:Shared) (H₀:Hp) (ex:List Addr),PG (xN X N' scope C s₀ H₀ ex) tg g)
  (ht:∀ (C:Addr) (s₀:Shared) (H₀:Hp) (ex:List Addr),K3 (xN X N' scope C s₀ H₀ ex) ifs tt)
  (he:∀ (C:Addr) (s₀:Shared) (H₀:Hp) (ex:List Addr),PE (xN X N' scope C s₀ H₀ ex) elt te) (h:autoParam (wB iter=true) L2.auto4._auto_1):
  PE X (.ListComp elt [⟨tg,iter,ifs,0⟩] scope pos) (FW sub wi g tt te):=Qf S hc hN hsc hi hg ht he (R9 h)
end
theorem bc:bootBuiltins "len"=some (.builtin "len"):=by trivial
theorem Lh:bootBuiltins "min"=some (.builtin "min"):=by trivial
theorem aV:bootBuiltins "isinstance"=some (.builtin "isinstance"):=by trivial
theorem Li:bootBuiltins "all"=some (.builtin "all"):=by trivial
theorem mq:bootBuiltins "list"=some (.type "list"):=by trivial
theorem BJ:bootBuiltins "tuple"=some (.type "tuple"):=by trivial
theorem Vm:bootBuiltins "int"=some (.type "int"):=by trivial
theorem zG:bootBuiltins "str"=some (.type "str"):=by trivial
theorem zH:bootBuiltins "enumerate"=some (.type "enumerate"):=by trivial
theorem uQ:bootBuiltins "reversed"=some (.type "reversed"):=by trivial
theorem zJ:bootBuiltins "bool"=some (.type "bool"):=by trivial
theorem pA {c A B:Prop} [Decidable c] (h1:c->A) (h2:¬ c->B):if decide c=true then A else B:=by
 by_cases h:c
 ·rw [if_pos (Y9 h)];exact h1 h
 ·rw [if_neg (by rw [Zc h];exact Y6)];exact h2 h
theorem iteB {b:Bool} {A B:Prop} (h1:b=true->A) (h2:b=false->B):if b=true then A else B:=by
 cases b with
 | true=>rw [if_pos rfl];exact h1 rfl
 | false=>rw [if_neg Y6];exact h2 rfl
theorem Gb {α:Type} {xs:List α} {k:Int} {v:α} (h0:0<=k) (h:xs[k.toNat]?=some v):Do xs k=some v:=by
 have e:((k.toNat:Nat):Int)=k:=by omega
 rw [← e]
 exact rW h
section
variable {U:St} {H:Hp} {D:Ends} {ta tb te tc:TE} {tt tu:TT} {Q:VK} {t u:TS} {g:TG}
theorem lC (h:t {D with nx:=u D} U H):Pb t u D U H:=h
theorem cV (h:D.nx U H):J7 D U H:=h
theorem fU (h:te U H fun x H1=>g x U H1 D.nx):Hs te g D U H:=h
theorem cW {i:Nat} {v:V} {R:St->Hp->Prop} (h:R (U.set i (some v)) H):uL i v U H R:=h
theorem fV {to ti:TE} {ts:Dq} {v:V} {R:St->Hp->Prop} (h:to U H fun o H1=>ti U H1 fun i H2=>ts o i v H2 fun H3=>R U H3):Ug to ti ts v U H R:=h
theorem fW (h:te U H D.rt):Ua te D U H:=h
theorem cX (h:te U H fun _ H1=>D.nx U H1):Ft te D U H:=h
theorem j6 (h:tt U H fun b H1=>if b=true then t D U H1 else u D U H1):Uc tt t u D U H:=h
theorem cY {R:Bool->Hp->Prop} (h:te U H fun x H1=>∃ k,x= .bl k/\R k H1):ym te U H R:=h
theorem j7 {R:Bool->Hp->Prop} (h:te U H fun x H1=>∃ k,x= .bl k/\R k H1):tB te U H R:=h
theorem fX {R:Bool->Hp->Prop} (h:tt U H fun c H1=>R (!c) H1):TX tt U H R:=h
theorem fY {R:Bool->Hp->Prop} (h:tt U H fun c H1=>if c=true then tu U H1 R else R false H1):O9 tt tu U H R:=h
theorem j8 {R:Bool->Hp->Prop} (h:tt U H fun c H1=>if c=true then R true H1 else tu U H1 R):tOr tt tu U H R:=h
theorem cZ (h:ta U H fun x H1=>∃ c,x= .bl c/\if c=true then tb U H1 Q else Q (.bl false) H1):JZ ta tb U H Q:=h
theorem fZ (h:ta U H fun x H1=>∃ c,x= .bl c/\if c=true then Q (.bl true) H1 else tb U H1 Q):T6 ta tb U H Q:=h
theorem c7 (h:ta U H fun x H1=>∃ c,x= .bl c/\Q (.bl (!c)) H1):J5 ta U H Q:=h
theorem f9 (h:tt U H fun c H1=>if c=true then ta U H1 Q else tb U H1 Q):tIf tt ta tb U H Q:=h
theorem gb {i:Nat} {v:V} (e:U[i]?=some (some v)) (h:Q v H):qW i U H Q:=⟨v,e,h⟩
theorem vI {v:V} (h:Q v H):tC v U H Q:=h
theorem j9 {r:R2} (h:ta U H fun x H1=>tb U H1 fun y H2=>r x y H2 Q):Km r ta tb U H Q:=h
theorem kh {r:V->Hp->VK->Prop} (h:ta U H fun x H1=>r x H1 Q):tUn r ta U H Q:=h
theorem kj {r:List V->Hp->VK->Prop} {a:TA} (h:a U H fun vs H1=>r vs H1 Q):UL r a U H Q:=h
theorem dg {a:TA} {R:List V->Hp->Prop} (h:te U H fun x H1=>a U H1 fun xs H2=>R (x :: xs) H2):FN te a U H R:=h
theorem gf {R:List V->Hp->Prop} (h:R [] H):Ky U H R:=h
theorem dh {sp:Sp} {E:XK} {a:TA} (h:a U H fun vs H1=>sp vs H1 Q E):yp sp [] E a U H Q:=by
 unfold yp
 simpa only [ZV] using h
theorem yD {a:TA} (h:a U H fun xs H1=>xs.length<=sizeLine/\∀ p,H1 p=none->Q (.ref p) (upd H1 p (.tup xs))):PP a U H Q:=h
theorem yE {a:TA} (h:a U H fun xs H1=>xs.length<=sizeLine/\∀ p,H1 p=none->Q (.ref p) (upd H1 p (.lst xs))):PQ a U H Q:=h
theorem km {K:W.Frag} {T:String} {r:V->List V->Hp->VK->Prop} {a:TA} (h:te U H fun x H1=>tyV K T x H1/\a U H1 fun xs H2=>r x xs H2 Q):Wv K T r te a U H Q:=h
theorem kE {r:V->Option Int->Option Int->Hp->VK->Prop} {tl th:TO} (h:te U H fun x H1=>tl U H1 fun l H2=>th U H2 fun u H3=>r x l u H3 Q):tSl r te tl th U H Q:=h
theorem gj {R:Option Int->Hp->Prop} (h:R none H):zr U H R:=h
theorem di {R:Option Int->Hp->Prop} (h:te U H fun x H1=>∃ i,x= .int i/\R (some i) H1):KD te U H R:=h
theorem dj {R:Bool->Hp->Prop} (h:R true H):K1 U H R:=h
theorem dm {a:TA} {R:It->Hp->Prop} (h:a U H fun vs H1=>∃ j:Int,vs=[.int j]/\-(2 ^ 62)<=j/\j < 2 ^ 62/\R (JQ 0 j.toNat) H1):Kg a U H R:=h
theorem dq {a:TA} {R:It->Hp->Prop} (h:a U H fun vs H1=>∃ i j:Int,vs=[.int i,.int j]/\(-(2 ^ 62)<=i/\i < 2 ^ 62/\-(2 ^ 62)<=j/\j < 2 ^ 62)/\R (JQ i (j - i).toNat) H1):Kh a U H R:=h
theorem dw {K:W.Frag} {R:It->Hp->Prop} (h:te U H fun x H1=>(∃ a,x= .ref a/\(∃ xs,SqL K H1 a xs)/\R (R3 K a) H1)\/(∃ a,x= .ref a/\(∃ xs,SqT K H1 a xs)/\R (Wu K a) H1)\/(∃ z,x= .str z/\R (Qj z) H1)):Qk K te U H R:=h
theorem dz {sub:List (Option Nat)} {wi:TI} (h:wi U H fun J H1=>qO sub g tt te U Q J H1):FW sub wi g tt te U H Q:=h
theorem gk {wi:TI} {tbd:TS} (h:wi U H fun J H1=>∃ W:Nat->Nat->St->Hp->Prop,(∃ m,W 0 m U H1)/\∀ i m U H,W i m U H->
 (J.stop i H/\D.nx U H)\/(J.go i H/\∃ N:St->Hp->Prop,(∀ U' H',N U' H'->∃ m',m' < m/\W (i+1) m' U' H')/\∀ x H',J.yld i H x H'->g x U H' fun σ2 H2=>tbd {D with nx:=N,ct:=N,bk:=D.nx} σ2 H2)):Pu wi g tbd D U H:=h
variable {i j:Int} {x y:Str} {f:Int->Int->V} {C:Int->Int->Prop} {K:W.Frag}
theorem kI (h:Q (f i j) H):Ko f (.int i) (.int j) H Q:=⟨_,_,rfl,rfl,h⟩
theorem vJ (c:C i j) (h:Q (f i j) H):rI C f (.int i) (.int j) H Q:=⟨_,_,rfl,rfl,c,h⟩
theorem dB (h:Q (.int (i+j)) H):Bx (.int i) (.int j) H Q:=.inl ⟨_,_,rfl,rfl,h⟩
theorem iH (c:x.length+y.length<=sizeLine) (h:Q (.str (x ++ y)) H):Bx (.str x) (.str y) H Q:=.inr (.inl ⟨_,_,rfl,rfl,c,h⟩)
theorem zK {a b:Addr} {xs ys:List V} (ha:H a=some (.lst xs)) (hb:H b=some (.lst ys)) (c:xs.length+ys.length<=sizeLine) (h:∀ p,H p=none->Q (.ref p) (upd H p (.lst (xs ++ ys)))):Bx (.ref a) (.ref b) H Q:=
 .inr (.inr ⟨a,b,xs,ys,rfl,rfl,ha,hb,c,h⟩)
theorem dC (c:CMul i j) (h:Q (.int (i*j)) H):Ga (.int i) (.int j) H Q:=.inl ⟨_,_,rfl,rfl,c,h⟩
theorem Lj (c:MulOk x j) (h:Q (.str (Txt.mul x j)) H):Ga (.str x) (.int j) H Q:=.inr (.inl ⟨_,_,rfl,rfl,c,h⟩)
theorem bZ {p:Addr} {xs:List V} {v:V} (s:SqL K H p xs) (e:Do xs i=some v) (h:Q v H):R6 K (.ref p) (.int i) H Q:=.inl ⟨p,xs,i,v,rfl,rfl,s,e,h⟩
theorem gn {p:Addr} {xs:List V} {v:V} (s:SqT K H p xs) (e:Do xs i=some v) (h:Q v H):R6 K (.ref p) (.int i) H Q:=.inr (.inl ⟨p,xs,i,v,rfl,rfl,s,e,h⟩)
theorem Sd {c:Nat} (s:x.length<=sizeLine) (e:Do x.cps.toList i=some c) (h:Q (.str ⟨#[c]⟩) H):R6 K (.str x) (.int i) H Q:=.inr (.inr ⟨x,i,c,rfl,rfl,s,e,h⟩)
theorem cC {p:Addr} {xs:List V} {n:Nat} {v:V} {R:Hp->Prop} (hp:H p=some (.lst xs)) (e:JR xs.length i=some n) (h:R (upd H p (.lst (xs.set n v)))):KJ (.ref p) (.int i) v H R:=⟨p,xs,i,n,rfl,rfl,hp,e,h⟩
theorem fJ (h:Q (.bl (!(Builtin.Str.occurrences y x 0 y.length 1).isEmpty)) H):Ld K (.str x) (.str y) H Q:=.inl ⟨_,_,rfl,rfl,h⟩
theorem kJ {b:Bool} {R:Bool->Prop} (h:R b):∃ k,V.bl b= .bl k/\R k:=⟨b,rfl,h⟩
theorem dD {n:Int} {R:Int->Prop} (h:R n):∃ k,V.int n= .int k/\R k:=⟨n,rfl,h⟩
end
theorem Same.upd {H H':Hp} {p:Addr} {o:HO} (s:Same H H') (hn:H' p=none):Same H (upd H' p o):=fun b u e=>by
 have q:=s b u e
 rw [aG (fun z=>by rw [z,hn] at q;cases q)]
 exact q
def Chg (p:Addr) (H H':Hp):Prop:=∀ b o,b≠p->H b=some o->H' b=some o
theorem Chg.refl (p:Addr) (H:Hp):Chg p H H:=fun _ _ _ e=>e
theorem Chg.trans {p:Addr} {H H1 H2:Hp} (a:Chg p H H1) (b:Chg p H1 H2):Chg p H H2:=fun c o n e=>b c o n (a c o n e)
theorem Chg.new {p q:Addr} {H H1:Hp} {o:HO} (a:Chg p H H1) (hn:H1 q=none):Chg p H (upd H1 q o):=fun b u n e=>by
 have z:=a b u n e
 rw [aG (fun k=>by rw [k,hn] at z;cases z)]
 exact z
theorem gW {H:Hp} {q b:Addr} {o u:HO} (hq:H q=none) (hb:H b=some u):upd H q o b=some u:=by
 rw [aG (fun z=>by rw [z,hq] at hb;cases hb)];exact hb
theorem Lk (c:Nat):(⟨#[c]⟩:Str).length=1:=by simp [Str.length]
theorem Qo {x:Str} {n:Int} (h:0<=n):((Txt.mul x n).length:Int)=(x.length:Int)*n:=by
 have:=len_mul_k (x:=x) (n:=n) x.length rfl
 rw [if_neg (by omega)] at this
 exact this
section
variable {H:Hp} {Q:VK} {K:W.Frag}
theorem gO {p:Addr} {xs:List V} (s:SqL K H p xs) (h:Q (.int xs.length) H):Ij K [V.ref p] H Q:=⟨_,_,rfl,.inl ⟨_,s,rfl⟩,h⟩
theorem zL {p:Addr} {xs:List V} (s:SqT K H p xs) (h:Q (.int xs.length) H):Ij K [V.ref p] H Q:=⟨_,_,rfl,.inr ⟨_,s,rfl⟩,h⟩
theorem cz {z:Str} (s:z.length<=sizeLine) (h:Q (.int z.length) H):Ij K [V.str z] H Q:=⟨_,_,rfl,⟨s,rfl⟩,h⟩
theorem kO {i j:Int} {R:Int->Int->Prop} (h:R i j):∃ a b,[V.int i,V.int j]=[.int a,.int b]/\R a b:=⟨_,_,rfl,h⟩
theorem m6 {x:V} {T:String} {t:Value} {b:Bool} (ty:TyOf K H x t) (e:PySem.W.kitOne K t (.type T)=some b) (h:Q (.bl b) H):Vd K [x,.ty T] H Q:=⟨x,T,t,b,rfl,ty,e,h⟩
theorem Xw {x:Str} {lo hi:Option Int} (hz:x.length<=sizeLine) (h:Q (.str (Txt.slice x lo hi)) H):Xm K (.str x) lo hi H Q:=.inr (.inr ⟨x,rfl,hz,h⟩)
theorem yF {p:Addr} {xs:List V} {lo hi:Option Int} (s:SqL K H p xs) (h:∀ q,H q=none->Q (.ref q) (upd H q (.lst (mO xs lo hi)))):Xm K (.ref p) lo hi H Q:=.inl ⟨p,xs,rfl,s,h⟩
end
section
variable {U:St} {H:Hp} {Q:VK}
theorem zM {K:W.Frag} {a:Addr} {xs:List V} (s:SqL K H a xs) (h:∀ p,H p=none->Q (.ref p) (upd H p (.lst xs))):Lf K [.ref a] H Q:=.inl ⟨a,xs,rfl,.inl s,h⟩
end
theorem TyOf.mono {K:W.Frag} {H H':Hp} {v:V} {T:String} (h:TyOf K H v (.type T)) (s:∀ b o,H b=some o->v= .ref b->H' b=some o):TyOf K H' v (.type T):=by
 generalize e:(Value.type T)=t at h
 cases h with
 | non=>exact .non
 | bl x=>exact .bl x
 | int i=>exact .int i
 | str x=>exact .str x
 | flt x=>exact .flt x
 | lst z=>exact .lst (s _ _ z rfl)
 | frz z=>exact .frz (s _ _ z rfl)
 | tup z=>exact .tup (s _ _ z rfl)
 | dK z=>exact .dK (s _ _ z rfl)
 | dT z=>exact .dT (s _ _ z rfl)
 | ins=>cases e
theorem Ln {sub:List (Option Nat)} {g:TG} {tt:TT} {te:TE} {U:St} {Q:VK} {H:Hp} {lo:Int} {n:Nat} (Pv:Nat->List V->Hp->Prop) (hn:n<=sizeLine) (h0:Pv 0 [] H) (hl:∀ i ys H,Pv i ys H->ys.length<=i)
  (hs:∀ i ys H,i < n->Pv i ys H->g (.int (lo+i)) (eN sub U) H fun σ2 H2=>KeepSt (eN sub U) σ2/\tt σ2 H2 fun b H3=>if b=true then te σ2 H3 fun y H4=>Pv (i+1) (ys ++ [y]) H4 else Pv (i+1) ys H3)
  (hd:∀ ys H,Pv n ys H->∀ D,H D=none->Q (.ref D) (upd H D (.lst ys))):qO sub g tt te U Q (JQ lo n) H:=
 vG (n:=n) Pv hn h0 hl (fun i ys H hi _=>hi) (fun ys H _=>Y4 _) (fun i ys H x H' hi p y=>by
  obtain ⟨e1,e2⟩:=y
  subst e1 e2
  exact hs i ys _ hi p) hd
theorem BK {sub:List (Option Nat)} {g:TG} {tt:TT} {te:TE} {U:St} {Q:VK} {H:Hp} {z:Str} (Pv:Nat->List V->Hp->Prop) (hn:z.cps.size<=sizeLine) (h0:Pv 0 [] H) (hl:∀ i ys H,Pv i ys H->ys.length<=i)
  (hs:∀ i ys H c,z.cps.toList[i]?=some c->Pv i ys H->g (.str ⟨#[c]⟩) (eN sub U) H fun σ2 H2=>KeepSt (eN sub U) σ2/\tt σ2 H2 fun b H3=>if b=true then te σ2 H3 fun y H4=>Pv (i+1) (ys ++ [y]) H4 else Pv (i+1) ys H3)
  (hd:∀ ys H,Pv z.cps.size ys H->∀ D,H D=none->Q (.ref D) (upd H D (.lst ys))):qO sub g tt te U Q (Qj z) H:=
 vG (n:=z.cps.size) Pv hn h0 hl (fun i ys H hi _=>hi) (fun ys H _=>rfl) (fun i ys H x H' hi p y=>by
  obtain ⟨e1,c,e2,e3⟩:=y
  subst e1 e3
  exact hs i ys _ c (by simpa using e2) p) hd
theorem Ik {sub:List (Option Nat)} {g:TG} {tt:TT} {te:TE} {U:St} {Q:VK} {H:Hp} {K:W.Frag} {a:Addr} {xs:List V} (Pv:Nat->List V->Hp->Prop) (hn:xs.length<=sizeLine) (h0:Pv 0 [] H) (hl:∀ i ys H,Pv i ys H->ys.length<=i)
  (hq:∀ i ys H,Pv i ys H->SqL K H a xs)
  (hs:∀ i ys H x,xs[i]?=some x->Pv i ys H->g x (eN sub U) H fun σ2 H2=>KeepSt (eN sub U) σ2/\tt σ2 H2 fun b H3=>if b=true then te σ2 H3 fun y H4=>Pv (i+1) (ys ++ [y]) H4 else Pv (i+1) ys H3)
  (hd:∀ ys H,Pv xs.length ys H->∀ D,H D=none->Q (.ref D) (upd H D (.lst ys))):qO sub g tt te U Q (R3 K a) H:=
 vG (n:=xs.length) Pv hn h0 hl (fun i ys H hi p=>⟨xs,xs[i],hq i ys H p,YT hi⟩) (fun ys H p=>⟨xs,hq _ ys H p,Y4 _⟩) (fun i ys H x H' hi p y=>by
  obtain ⟨e1,e2⟩:=y
  subst e1
  exact hs i ys _ x (e2 xs (hq i ys _ p)) p) hd
structure JE (X:Cx) (e:Expr) (t:TE):Prop where
 run:PE X e t
structure JT (X:Cx) (e:Expr) (t:TT):Prop where
 run:PT X e t
structure JW (X:Cx) (e:Expr) (t:TT):Prop where
 run:PW X e t
structure JA (X:Cx) (es:List Expr) (t:TA):Prop where
 run:PA X es t
structure JS (X:Cx) (s:Stmt) (t:TS):Prop where
 run:PS X s t
structure JB (X:Cx) (s:List Stmt) (t:TS):Prop where
 run:PSs X s t
structure JI (X:Cx) (tg iter:Expr) (t:TI):Prop where
 run:PI X tg iter t
structure JG (X:Cx) (tg:Expr) (t:TG):Prop where
 run:PG X tg t
structure YH (X:Cx) (tg:List Expr) (t:Hr):Prop where
 run:Wt X tg t
structure JO (X:Cx) (e:Option Expr) (t:TO):Prop where
 run:PO X e t
structure Xx (X:Cx) (ifs:List Expr) (t:TT):Prop where
 run:K3 X ifs t
section
variable {X:Cx} {K:W.Frag} {sc scope:Scope} {N':List Str} {C:Addr} {s₀:Shared} {H₀:Hp} {ex:List Addr} {x:Str} {pos p p2 pos' apos cpos tpos:Pos} {a b c e o:Expr} {es:List Expr} {ta tb tc te to ti:TE} {t:TA} {tA tB' tt:TT} {rest:List Expr}
theorem Ec (i:Nat) (h:sc.names.lookup x=some .local) (hN:autoParam (X.N[i]?=some x) L2.auto4._auto_1) (hsc:autoParam (X.env.scope=sc) L2.auto4._auto_1) (hd:autoParam ((x == ("__debug__":Str))=false) L2.auto6._auto_1) (hcd:autoParam ((x == ("__classdict__":Str))=false) L2.auto6._auto_1):JE X (.Name x pos) (qW i):=⟨pvL i h hN hsc hd hcd⟩
theorem j_vC (i:Nat) (h:sc.names.lookup x=some .cell) (hN:autoParam (X.N[i]?=some x) L2.auto4._auto_1) (hsc:autoParam (X.env.scope=sc) L2.auto4._auto_1) (hd:autoParam ((x == ("__debug__":Str))=false) L2.auto6._auto_1) (hcd:autoParam ((x == ("__classdict__":Str))=false) L2.auto6._auto_1):JE X (.Name x pos) (qW i):=⟨pvC i h hN hsc hd hcd⟩
theorem my (i:Nat) (h:scope.names.lookup x=some .local) (hN:autoParam (N'[i]?=some x) L2.auto4._auto_1) (hd:autoParam ((x == ("__debug__":Str))=false) L2.auto6._auto_1) (hcd:autoParam ((x == ("__classdict__":Str))=false) L2.auto6._auto_1):JE (xN X N' scope C s₀ H₀ ex) (.Name x pos) (qW i):=⟨pvBL i h hN hd hcd⟩
theorem sS (i:Nat) (h:scope.names.lookup x=some .free) (hN:autoParam (N'[i]?=some x) L2.auto4._auto_1) (hd:autoParam ((x == ("__debug__":Str))=false) L2.auto6._auto_1) (hcd:autoParam ((x == ("__classdict__":Str))=false) L2.auto6._auto_1):JE (xN X N' scope C s₀ H₀ ex) (.Name x pos) (qW i):=⟨pvBF i h hN hd hcd⟩
theorem aD {i j}:JE X (.Constant (.int i) j pos) (tC (.int i)):=⟨TF⟩
theorem jM {i j}:JE X (.Constant (.bool i) j pos) (tC (.bl i)):=⟨WM⟩
theorem BL {j}:JE X (.Constant .none j pos) (tC .non):=⟨TJ⟩
theorem gq {i j}:JE X (.Constant (.str i) j pos) (tC (.str i)):=⟨TQ⟩
theorem wC {z:Str} (hg:Gl X x) (hm:∃ t,X.mg x=some (.str z t)) (hd:(x == ("__debug__":Str))=false):JE X (.Name x pos) (tC (.str z)):=⟨La hg hm hd⟩
theorem wD {z:Int} (hg:Gl X x) (hm:∃ t,X.mg x=some (.int z t)) (hd:(x == ("__debug__":Str))=false):JE X (.Name x pos) (tC (.int z)):=⟨Lb hg hm hd⟩
theorem uq {T:String} (hg:Gl X x) (hm:X.mg x=none) (hv:bootBuiltins x=some (.type T)) (hn:x≠"__name__") (hd:(x == ("__debug__":Str))=false):JE X (.Name x pos) (tC (.ty T)):=⟨Xl hg hm hv hn hd⟩
theorem aU {op:Operator} {r:R2} (ho:OpR X (binaryOp op) r) (ha:JE X a ta) (hb:JE X b tb):JE X (.BinOp a op b pos) (Km r ta tb):=⟨WR ho ha.run hb.run⟩
theorem Lp {op:UnaryOp} {r:V->Hp->VK->Prop} (ho:YC X (unaryOp op) r) (ha:JE X a ta):JE X (.UnaryOp op a pos) (tUn r ta):=⟨WT ho ha.run⟩
theorem j4 {op:CmpOp} {r:R2} (ho:OpR X (compareOp op) r) (ha:JE X a ta) (hb:JE X b tb) (hm:behindInMarks op b=false):JE X (.Compare a [op] [b] pos) (Km r ta tb):=⟨PB ho ha.run hb.run hm⟩
theorem bA {op:CmpOp} {r:R2} (ho:OpR X (compareOp op) r) (ha:JE X a ta) (hb:JE X b tb) (hm:behindInMarks op b=false):JT X (.Compare a [op] [b] pos) (ym (Km r ta tb)):=⟨PJ ho ha.run hb.run hm⟩
theorem vK (ha:JT X a tA):JW X (.BoolOp .And [a] pos) tA:=⟨Pa ha.run⟩
theorem mQ (ha:JT X a tA):JW X (.BoolOp .Or [a] pos) tA:=⟨TY ha.run⟩
theorem zN (ha:JT X a tA) (hb:JW X (.BoolOp .And (b :: rest) pos) tB'):JW X (.BoolOp .And (a :: b :: rest) pos) (O9 tA tB'):=⟨T4 ha.run hb.run⟩
theorem oZ (ha:JT X a tA) (hb:JW X (.BoolOp .Or (b :: rest) pos) tB'):JW X (.BoolOp .Or (a :: b :: rest) pos) (tOr tA tB'):=⟨WN ha.run hb.run⟩
theorem mz (h:JW X e tt):JT X e tt:=⟨h.run.pt⟩
theorem dY (ha:JT X a tA):JT X (.UnaryOp .Not a pos) (TX tA):=⟨T5 ha.run⟩
def plainT:Expr->Bool
 | .BoolOp ..=>false | .UnaryOp ..=>false | .Compare ..=>false | .IfExp ..=>false | _=>true
theorem dU (h:JE X e te) (hp:autoParam (plainT e=true) L2.auto4._auto_1):JT X e (tB te):=⟨TV h.run (by
 intro whole
 cases e <;> first | rfl | cases hp)⟩
theorem o4 {op} (h:JE X a te):JE X (.BoolOp op [a] pos) te:=⟨T7 h.run⟩
theorem lD (ha:JE X a ta) (hb:JE X (.BoolOp .And (b :: rest) pos) tb):JE X (.BoolOp .And (a :: b :: rest) pos) (JZ ta tb):=⟨T8 ha.run hb.run⟩
theorem j_or (ha:JE X a ta) (hb:JE X (.BoolOp .Or (b :: rest) pos) tb):JE X (.BoolOp .Or (a :: b :: rest) pos) (T6 ta tb):=⟨WP ha.run hb.run⟩
theorem Gd (ha:JE X a ta):JE X (.UnaryOp .Not a pos) (J5 ta):=⟨T9 ha.run⟩
theorem Xy (hc:JT X c tA) (ha:JE X a ta) (hb:JE X b tb):JE X (.IfExp c a b pos) (tIf tA ta tb):=⟨J6 hc.run ha.run hb.run⟩
theorem sU {x1} (h:JA X es t):JE X (.Tuple es x1 pos) (PP t):=⟨Uz h.run⟩
theorem jd (h:JA X es t):JE X (.List es pos) (PQ t):=⟨UG h.run⟩
theorem aq:JA X [] Ky:=⟨Uy⟩
theorem aa (ha:JE X e te) (hr:JA X es t) (h:autoParam (notStar e=true) L2.auto4._auto_1):JA X (e :: es) (FN te t):=⟨paC ha.run hr.run h⟩
theorem cj:JO X none zr:=⟨P0⟩
theorem bL (h:JE X e te):JO X (some e) (KD te):=⟨Qa h.run⟩
theorem cu {r:V->Option Int->Option Int->Hp->VK->Prop} {lo hi:Option Expr} {tl th:TO} (hr:SlR X r) (he:JE X e te) (hl:JO X lo tl) (hu:JO X hi th):JE X (.Subscript e (.Slice lo hi none p2) pos) (tSl r te tl th):=⟨KH hr he.run hl.run hu.run⟩
theorem pL (hK:X.K=K) (ha:JE X a ta) (hb:JE X b tb) (h:autoParam (pK b=true) L2.auto4._auto_1):JE X (.Subscript a b pos) (Km (R6 K) ta tb):=⟨ixE hK ha.run hb.run h⟩
theorem aJ {k:Nat} {ps:List Str} {sp:Sp} (F:Has X.prog X.w X.K X.mg X.base k x ps sp) (hr:Room k X.A) (hg:Gl X x) (ha:JA X (e :: es) t) (hdb:(x == ("__debug__":Str))=false) (h:autoParam ((e :: es).all notStar=true) L2.auto4._auto_1):
  JE X (.Call (.Name x p) (e :: es) [] pos) (yp sp [] E0 t):=⟨Xn F hr hg ha.run hdb h⟩
theorem aH {id:String} {r:List V->Hp->VK->Prop} (hc:CallR X (.builtin id) r) (hg:Gl X x) (hm:X.mg x=none) (hv:bootBuiltins x=some (.builtin id)) (ha:JA X (e :: es) t) (hn:x≠"__name__") (hdb:(x == ("__debug__":Str))=false) (h:autoParam ((e :: es).all notStar=true) L2.auto4._auto_1):
  JE X (.Call (.Name x p) (e :: es) [] pos) (UL r t):=⟨Xo hc hg hm hv ha.run hn hdb h⟩
theorem sV {T:String} {r:List V->Hp->VK->Prop} (hc:CallR X (.type T) r) (hg:Gl X x) (hm:X.mg x=none) (hv:bootBuiltins x=some (.type T)) (ha:JA X (e :: es) t) (hn:x≠"__name__") (hdb:(x == ("__debug__":Str))=false) (h:autoParam ((e :: es).all notStar=true) L2.auto4._auto_1):
  JE X (.Call (.Name x p) (e :: es) [] pos) (UL r t):=⟨Vk hc hg hm hv ha.run hn hdb h⟩
theorem Ed {name:Str} {T id:String} {r:V->List V->Hp->VK->Prop} (hK:X.K=K) (pa:PlainAttrs T) (slot:Slot T name id) (hty:typeOf (.builtin id)=pure (.type "method_descriptor")) (hm:R5 X id r) (ho:JE X o to) (ha:JA X (e :: es) t)
  (hbase:autoParam (sO o=true) L2.auto4._auto_1) (hl:autoParam (es.length < 20) L2.auto2._auto_1) (hline:autoParam ((apos.endLine == cpos.line)=true) L2.auto4._auto_1) (h:autoParam ((e :: es).all notStar=true) L2.auto4._auto_1):JE X (.Call (.Attribute o name apos) (e :: es) [] cpos) (Wv K T r to t):=⟨Xq hK pa slot hty hm ho.run ha.run hbase hl hline h⟩
theorem je:Xx X [] K1:=⟨K4⟩
variable {tg iter elt:Expr} {ifs:List Expr} {sub:List (Option Nat)} {wi:TI} {g:TG} {N:List Str}
theorem m7 {ta:TA} (hg:Gl X "range") (hm:X.mg "range"=none) (ha:JA X [a] ta) (h:autoParam (notStar a=true) L2.auto4._auto_1):JI X tg (.Call (.Name "range" p) [a] [] pos) (Kg ta):=⟨Hu hg hm ha.run (bH h)⟩
theorem Il {ta:TA} (hg:Gl X "range") (hm:X.mg "range"=none) (ha:JA X [a,b] ta) (h:autoParam (notStar a=true) L2.auto4._auto_1) (h2:autoParam (notStar b=true) L2.auto4._auto_1):JI X tg (.Call (.Name "range" p) [a,b] [] pos) (Kh ta):=⟨Hv hg hm ha.run (by rw [bH h,bH h2];rfl) (by rw [bH h2];rfl)⟩
theorem iI (hK:X.K=K) (hl:JE X e te):JI X tg e (Qk K te):=⟨Qm hK hl.run⟩
theorem eZ {i:Nat} (hN:X.N.Nodup) (hi:X.N[i]?=some x) (hx:Loc X.env.scope x) (hf:X.fn x=true):JG X (.Name x pos) (uL i):=⟨Fv hN hi hx (.inl hf)⟩
theorem vg (i:Nat) (h:scope.names.lookup x=some .local) (hN:N'.Nodup) (hi:autoParam (N'[i]?=some x) L2.auto4._auto_1):JG (xN X N' scope C s₀ H₀ ex) (.Name x pos) (uL i):=⟨pgB i h hN hi⟩
theorem zO:YH X [] Ud:=⟨Pq⟩
theorem m8 {gs:Hr} (h1:JG X e g) (h2:YH X es gs) (hs:autoParam ((assignEach (e :: es) X.env).map (·.2)=assign e X.env :: (assignEach es X.env).map (·.2)) L2.auto4._auto_1):YH X (e :: es) (Kc g gs):=⟨Ke h1.run h2.run hs⟩
theorem Ef {ts:List Expr} {k:Nat} {gs:Hr} {n:Nat} (hK:X.K=K) (hc:X.calm=true) (h:YH X ts gs) (hn:autoParam ((assignEach ts X.env).length=n) L2.auto4._auto_1) (hst:autoParam ((assignEach ts X.env).findIdx? (·.1)=none) L2.auto4._auto_1):JG X (.Tuple ts k pos) (Pr K n gs):=⟨Qn hK hc h.run hn hst⟩
theorem q9 {ts:Dq} (ho:JE X a ta) (hi:JE X b tb) (hs:Pk X ts) (h:autoParam (pK b=true) L2.auto4._auto_1):JG X (.Subscript a b pos) (Ug ta tb ts):=⟨Uh ho.run hi.run hs (by
 intro v
 cases b <;> first | rfl | cases h)⟩
theorem lE (S:Bl N sc N' scope sub) (hc:X.calm=true) (hN:X.N=N) (hsc:X.env.scope=sc) (hi:JI X tg iter wi)
  (hg:∀ (C:Addr) (s₀:Shared) (H₀:Hp) (ex:List Addr),JG (xN X N' scope C s₀ H₀ ex) tg g)
  (ht:∀ (C:Addr) (s₀:Shared) (H₀:Hp) (ex:List Addr),Xx (xN X N' scope C s₀ H₀ ex) ifs tt)
  (he:∀ (C:Addr) (s₀:Shared) (H₀:Hp) (ex:List Addr),JE (xN X N' scope C s₀ H₀ ex) elt te) (h:autoParam (wB iter=true) L2.auto4._auto_1):
  JE X (.ListComp elt [⟨tg,iter,ifs,0⟩] scope pos) (FW sub wi g tt te):=⟨Xv S hc hN hsc hi.run (fun C s₀ H₀ ex=>(hg C s₀ H₀ ex).run) (fun C s₀ H₀ ex=>(ht C s₀ H₀ ex).run) (fun C s₀ H₀ ex=>(he C s₀ H₀ ex).run) h⟩
variable {st:Stmt} {sts:List Stmt} {u v:TS}
theorem aM {i:Nat} (hN:X.N.Nodup) (hi:X.N[i]?=some x) (hx:Loc X.env.scope x) (he:JE X e te) (hf:X.fn x=true) (h:autoParam (mj e=true) L2.auto4._auto_1):JS X (.Assign [.Name x pos'] e pos) (Hs te (uL i)):=⟨Xr hN hi hx he.run hf h⟩
theorem nR {ts:Dq} (he:JE X e te) (hg:JG X (.Subscript a b pos') g) (h:autoParam (mj e=true) L2.auto4._auto_1):JS X (.Assign [.Subscript a b pos'] e pos) (Hs te g):=⟨Ui he.run hg.run (by show swapsWith e (some (.Subscript a b pos')) pos.line X.env=pure false;exact By h) (by cases e <;> rfl) rfl⟩
theorem aL (he:JE X e te):JS X (.Return (some e) pos) (Ua te):=⟨Ub he.run⟩
theorem aY (he:JE X e te) (h:autoParam (mj e=true) L2.auto4._auto_1):JS X (.Expr e pos) (Ft te):=⟨Vl he.run h⟩
theorem bJ {sa sb:List Stmt} (hc:JT X c tt) (ha:JB X sa u) (hb:JB X sb v):JS X (.If c sa sb pos) (Uc tt u v):=⟨WQ hc.run ha.run hb.run⟩
theorem jf {body:List Stmt} (hp:PassesOwn (model X.prog X.w) X.A X.env X.xe) (hc:X.calm=true) (hi:JI X tg iter wi) (hg:JG X tg g) (hb:JB X body u) (h:autoParam (wB iter=true) L2.auto4._auto_1):JS X (.For tg iter body [] pos) (Pu wi g u):=⟨Xu hp hc hi.run hg.run hb.run h⟩
theorem Lq {body:List Stmt} (hp:PassesOwn (model X.prog X.w) X.A X.env X.xe) (hc:JT X c tt) (hb:JB X body u):JS X (.While c body [] pos) (Ds tt u):=⟨Kf hp hc.run hb.run⟩
theorem jN:JS X st J9:=⟨Ka⟩
theorem bf:JB X [] J7:=⟨Pg⟩
theorem aB (h:JS X st u):JB X [st] u:=⟨Ph h.run⟩
theorem aA (h:JS X st u) (h2:JB X sts v):JB X (st :: sts) (Pb u v):=⟨J8 h.run h2.run⟩
end
section
variable {P:Program} {w:World} {K:W.Frag} {mg:Str->Option Value} {base:Heap}
theorem fj {x:Str} {st:Stmt} {N ps:List Str} {k:Nat} {sp:Sp} (D:eO K mg x st) (S:aC N ps (az st))
  (hb:∀ (kV doc pm:Value) (an:Option Addr) (cdv ct:Value) (us:List Value),us.length=ps.length->bindArgs (PySem.W.fnOf x x (d9 st) (bG st) (az st) .none kV doc pm an cdv ct) ⟨us,[]⟩=pure (ps.zip us))
  (len:∀ vs H Q E,sp vs H Q E->vs.length=ps.length)
  (hbody:∀ (f:Addr) (cdv:Value) (A:Around) (outer:List Env) (s:Shared) (H:Hp) (vs:List V) (Q:VK) (E:XK),Room k (A.deeper (envOfC x (az st) s.heap.objs.size f cdv))->sp vs H Q E->
   ∃ t,JB (pH HS P w K mg base N x (az st) f cdv A outer s H E).nox (bG st) t/\t {nx:=fun _ H'=>Q .non H',rt:=Q} (start N vs) H):Has P w K mg base (k+1) x ps sp:=
 Ve D S hb len fun f cdv A outer s H vs Q E hr h=>let ⟨t,j,q⟩:=hbody f cdv A outer s H vs Q E hr h;⟨t,j.run,q⟩
theorem okJ {x:Str} {st:Stmt} {N ps:List Str} {k:Nat} {sp:Sp} {f:Addr} {fd:FuncData} (F:Fun K x x st f fd) (S:aC N ps (az st)) (len:∀ vs H Q E,sp vs H Q E->vs.length=ps.length)
  (hbody:∀ (f:Addr) (cdv:Value) (A:Around) (outer:List Env) (s:Shared) (H:Hp) (vs:List V) (Q:VK) (E:XK),Room k (A.deeper (envOfC x (az st) s.heap.objs.size f cdv))->sp vs H Q E->
   ∃ t,JB (pH HS P w K mg base N x (az st) f cdv A outer s H E).nox (bG st) t/\t {nx:=fun _ H'=>Q .non H',rt:=Q} (start N vs) H):FnOk P w K mg base HS (k+1) f fd ps sp:=
 F.ok S len fun cdv A outer s H vs Q E hr h=>let ⟨t,j,q⟩:=hbody f cdv A outer s H vs Q E hr h;⟨t,j.run,q⟩
end
theorem pM {K:W.Frag} {mg:Str->Option Value} {h:Heap} (X:K.In h) (G:h.Ns mainGlobals mg) {x:Str} {v:Value} {f:Tok->Value} (a:PySem.W.nsIn K mainGlobals x=some (some v)) (e:∃ t,v=f t):∃ t,mg x=some (f t):=by
 obtain ⟨t,rfl⟩:=e
 exact ⟨t,ZF X G a⟩
theorem Xz {l:PySem.W.OpenLaw} {q:Program} {loose:List Str} {XP:(Str->Option Value)->Heap->Prop} {YP:World->Heap->Prop} {d:DefRec} {K:Params->W.Frag} {st:Stmt} {k:Nat} {sp:W.Frag->Sp} {x:Str}
  (hn:l.most=some 63) (hdf:d.params.defaults=[]) (hdn:d.name="law") (hk:Room k callerA) (hY:∀ (w:World) (h:Heap),YP w h->(K w.params).In h)
  (hb:∀ (kV doc pm:Value) (an:Option Addr) (cdv ct:Value) (us:List Value),us.length=[x].length->bindArgs (PySem.W.fnOf "law" "law" (d9 st) (bG st) (az st) .none kV doc pm an cdv ct) ⟨us,[]⟩=pure ([x].zip us))
  (F:∀ (w:World) (mg:Str->Option Value) (h:Heap),(K w.params).In h->h.Ns mainGlobals mg->eO (K w.params) mg "law" st/\∀ (base:Heap) (f:Addr) (fd:FuncData),Fun (K w.params) "law" "law" st f fd->FnOk l.prog w (K w.params) mg base HS k f fd [x] (sp (K w.params)))
  (hsp:∀ (K:W.Frag) (H:Hp) (a:Addr) (ns:List Int),ns.length<=63->SqL K H a (ns.map V.int)->sp K [.ref a] H (fun v _=>v= .bl true) fun _ _ _=>False) (him:autoParam (importsNone q=true) L2.auto6._auto_1):
  PySem.W.WalkO q loose XP YP l.row.toRowW d [] (fun f vs=>PySem.call f vs):=
 L2.Qe (n:=63) (k:=k) (x:=x) (CX:=fun _=>HS) (sp:=fun w=>sp (K w.params)) hn (by decide) hdf hk hY (fun w mg fa h X G e=>by
  obtain ⟨⟨f,fd,Fn,hm⟩,ok⟩:=F w mg h X G
  rw [hdn,hm] at e
  have ef:f=fa:=by injection (Zv e)
  subst ef
  refine ⟨fd,fun s u=>?_,fun base _ _=>ok base f fd Fn⟩
  obtain ⟨oc,od,kV,doc,pm,an,cdv,ct,osl,rfl,lk,hcd⟩:=Fn.ex
  exact .of_eq (hb kV doc pm an cdv ct [u] rfl)) (fun w H a ns hl _ hS=>hsp _ H a ns hl hS) (fun _ _ _ _ _ z=>z) him
def YJ (xs:Nat->List V) (n:Nat):It:=⟨fun i _=>i < n,fun i H v H'=>∃ T,H T=none/\v= .ref T/\H'=upd H T (.tup (xs i)),fun i _=>i=n⟩
theorem Vn {P:Program} {w:World} {K:W.Frag} {elts:List Expr} {k:Nat} {pos:Pos} {it:Addr} {fp wr:List Addr} {n:Nat} {xs:Nat->List V} {Pt:Nat->Array Value->Prop} {St:Nat->Heap->Prop} {Mid:Nat->Addr->Heap->Prop}
  (W:∀ A:Around,A.handled=none->WalksT P w A it fp wr n Pt St Mid) (hxs:∀ i,(xs i).length<=sizeLine) (hPt:∀ i vals,Pt i vals->Vals (xs i) vals.toList) (hmem:it∈fp)
  (hobj:∀ i h,St i h->∀ b∈fp,∃ o,h.get? b=some o/\∀ v,o.data≠.cell v)
  (hself:∀ (A:Around) (i:Nat) (s:Shared) (Q:Value->Shared->Prop) (E:Value->Shared->Prop),St i s.heap->Q (.ref it) s->wpAny (model P w) A (pyIter (.ref it)) Q E s):
  Turn P w K (.Tuple elts k pos) (YJ xs n) fp it St where
 mem:=hmem
 obj:=hobj
 keep:=fun i h h' st kk=>(W {} rfl).frame i h h' st kk
 item:=by
  intro X hP hw hK hc i pins s U H E I hf st hg
  subst hP hw hK
  have W':=W X.A (I.ok.hd hc)
  refine W'.item i s _ _ hg st fun T vals h' tk hPv hT isT mid kk=>?_
  refine ⟨.ref T,rfl,W'.go elts k pos i T _ _ _ mid fun h'' st'' kk2=>?_⟩
  have hTn:H T=none:=I.hok.fresh hT
  have hTw:T ∉ wr:=W'.apart i T h' mid
  have kall:∀ b o,b ∉ wr->s.heap.get? b=some o->h''.get? b=some o:=fun b o hb e=>kk2 b o hb (kk b o hb e)
  have nT:∀ b o,s.heap.get? b=some o->b≠T:=fun b o e=>Zt (Ze (Y5 e) hT)
  have nTH:∀ b u,H b=some u->b≠T:=fun b u e z=>by rw [z,hTn] at e;cases e
  have nW:∀ b u,H b=some u->b ∉ wr:=fun b u e hb=>by rw [(hf b (W'.sub b hb)).1] at e;cases e
  have isT':h''.IsTuple T vals:=by
   obtain ⟨o,ho,r⟩:=isT
   exact ⟨o,kk2 T o hTw ho,r⟩
  have hlT:∃ o,h''.get? T=some o:=let ⟨o,ho,_⟩:=isT';⟨o,ho⟩
  have I':Inv X pins U (upd H T (.tup (xs i))) {s with heap:=h'',toks:=tk}:=by
   refine I.step (g':=s.gens) (d':=s.drawn) (ch:=wr) (fun b hb=>?_) (fun b o _ _ hc e _=>kall b o hc e) (fun b o _ _ hc e _=>⟨o.slots,kall b o hc e⟩) (fun b o _ e hn=>by rw [aG (nT b o e)];exact hn)
    (fun b o hc e=>⟨o,kall b o hc e⟩) (fun b ys e=>by rw [aG (nTH b _ e)];exact e) (fun b o u e=>by rw [aG (nTH b _ e)];exact e) (fun b ps e=>⟨#[],by rw [aG (nTH b _ e),e];simp⟩) (fun m hm=>?_) (fun b u e=>?_) I.bare
   ·obtain ⟨f0,f1,f2,f3,f4,f5⟩:=hf b (W'.sub b hb)
    exact ⟨f3,f1,f4,f5⟩
   ·obtain ⟨o,es,ep,ho,r⟩:=hm
    exact ⟨o,es,ep,kall _ o (fun hb=>(hf _ (W'.sub _ hb)).2.1 rfl) ho,r⟩
   ·by_cases hb:b=T
    ·subst hb
     rw [aj] at e;cases e
     obtain ⟨o,ho,hcl,nn,hd⟩:=isT'
     exact ⟨hxs i,vals.toList,hPt i vals hPv,o,ho,hcl,nn,by simpa using hd⟩
    ·rw [aG hb] at e
     refine (I.hok b u e).stay (fun c v hc' q=>kall c v ?_ q) (fun c q=>by rw [aG (nTH c _ q)];exact q) fun c ys q=>by rw [aG (nTH c _ q)];exact q
     rcases hc' with z | z
     ·rw [z];exact nW b u e
     ·exact nW c _ z
  refine ⟨.ref T,upd H T (.tup (xs i)),I',rfl,⟨T,hTn,rfl,rfl⟩,st'',fun b hb=>?_⟩
  obtain ⟨o,e,_⟩:=hobj i _ st b hb
  rw [aG (nT b o e)]
  exact (hf b hb).1
 done:=by
  intro X hP hw hK hc i pins s U H E I hf st hg
  subst hP hw hK
  have W':=W X.A (I.ok.hd hc)
  have hg:i=n:=hg
  subst hg
  refine W'.done s _ _ st fun h' tk kk=>⟨rfl,?_⟩
  have nW:∀ b u,H b=some u->b ∉ wr:=fun b u e hb=>by rw [(hf b (W'.sub b hb)).1] at e;cases e
  refine I.step (g':=s.gens) (d':=s.drawn) (ch:=wr) (fun b hb=>?_) (fun b o _ _ hc e _=>kk b o hc e) (fun b o _ _ hc e _=>⟨o.slots,kk b o hc e⟩) (fun b o _ e hn=>hn)
    (fun b o hc e=>⟨o,kk b o hc e⟩) (fun b ys e=>e) (fun b o u e=>e) (fun b ps e=>⟨#[],by rw [e];simp⟩) (fun m hm=>?_) (fun b u e=>?_) I.bare
  ·obtain ⟨f0,f1,f2,f3,f4,f5⟩:=hf b (W'.sub b hb)
   exact ⟨f3,f1,f4,f5⟩
  ·obtain ⟨o,es,ep,ho,r⟩:=hm
   exact ⟨o,es,ep,kk _ o (fun hb=>(hf _ (W'.sub _ hb)).2.1 rfl) ho,r⟩
  ·refine (I.hok b u e).stay (fun c v hc' q=>kk c v ?_ q) (fun c q=>q) fun c ys q=>q
   rcases hc' with z | z
   ·rw [z];exact nW b u e
   ·exact nW c _ z
 self:=hself
def BP (x:Str) (i:Nat):List V:=[.int i,.str ⟨#[x.cps.getD i 0]⟩]
def XD (K:W.Frag):R2:=fun x y H Q=>rNe x y H Q\/∃ (a b:Addr) (ns ms:List Int),x= .ref a/\y= .ref b/\SqL K H a (ns.map V.int)/\SqL K H b (ms.map V.int)/\Q (.bl (!decide (ns=ms))) H
theorem Vo {X:Cx} {K:W.Frag} (hK:X.K=K) (hu:X.A.units+64 < cLine):OpR X (compareOp .NotEq) (XD K):=by
 subst hK
 intro pins s U H x y v u Q I rx ry h
 rcases h with h | ⟨a,b,ns,ms,rfl,rfl,ha,hb,q⟩
 ·exact WY pins s U H x y v u Q I rx ry h
 ·cases rx
  cases ry
  obtain ⟨its,r1,p1,z1⟩:=I.list ha
  obtain ⟨jts,r2,p2,z2⟩:=I.list hb
  exact PySem.W.ne_intsK p1.isList (intsAre_of r1) p2.isList (intsAre_of r2) hu ⟨.bl _,H,I,rfl,q⟩
section
variable {H:Hp} {Q:VK} {K:W.Frag} {U:St}
theorem b7 {n:Nat} {gs:Hr} {p:Addr} {xs:List V} {R:St->Hp->Prop} (s:SqT K H p xs) (hl:xs.length=n) (h:gs xs U H R):Pr K n gs (.ref p) U H R:=⟨p,xs,rfl,s,hl,h⟩
theorem bM {t:TG} {u:Hr} {v:V} {vs:List V} {R:St->Hp->Prop} (h:t v U H fun U' H'=>u vs U' H' R):Kc t u (v :: vs) U H R:=⟨v,vs,rfl,h⟩
theorem dF {R:St->Hp->Prop} (h:R U H):Ud [] U H R:=⟨rfl,h⟩
theorem sW {p:Addr} {xs:List V} {y:V} (hp:H p=some (.lst xs)) (c:xs.length < sizeLine) (h:Q .non (upd H p (.lst (xs ++ [y])))):FT (.ref p) [y] H Q:=⟨p,xs,y,rfl,rfl,hp,c,h⟩
theorem vL {f:Int->V} {i:Int} (h:Q (f i) H):rU f (.int i) H Q:=⟨i,rfl,h⟩
theorem Lr {a:Addr} {xs:List V} {k:Int} (ha:H a=some (.lst xs)) (h0: -(2 ^ 63)<=k) (h1:k < 2 ^ 63) (hz:xs.length*k.toNat<=sizeLine) (h:∀ p,H p=none->Q (.ref p) (upd H p (.lst (List.replicate k.toNat xs).flatten))):Ga (.ref a) (.int k) H Q:=
 .inr (.inr ⟨a,k,xs,rfl,rfl,ha,h0,h1,hz,h⟩)
theorem Qp {z:Str} {g:TG} {tb:TS} {D:Ends} {H:Hp} (Pv:Nat->St->Hp->Prop) (h0:Pv 0 U H)
  (hs:∀ i U H c,z.cps.toList[i]?=some c->Pv i U H->g (.str ⟨#[c]⟩) U H fun σ2 H2=>tb {D with nx:=Pv (i+1),ct:=Pv (i+1),bk:=D.nx} σ2 H2) (hd:∀ U H,Pv z.length U H->D.nx U H):
  ∃ W:Nat->Nat->St->Hp->Prop,(∃ m,W 0 m U H)/\∀ i m U H,W i m U H->
   ((Qj z).stop i H/\D.nx U H)\/((Qj z).go i H/\∃ N:St->Hp->Prop,(∀ U' H',N U' H'->∃ m',m' < m/\W (i+1) m' U' H')/\∀ x H',(Qj z).yld i H x H'->g x U H' fun σ2 H2=>tb {D with nx:=N,ct:=N,bk:=D.nx} σ2 H2):=by
 refine ⟨fun i m U H=>m=z.cps.size - i/\i<=z.cps.size/\Pv i U H,⟨z.cps.size,by simp,Z7 _,h0⟩,?_⟩
 rintro i m U H ⟨rfl,hi,p⟩
 by_cases hlt:i < z.cps.size
 ·refine .inr ⟨hlt,Pv (i+1),fun U' H' p'=>⟨z.cps.size - (i+1),by omega,rfl,hlt,p'⟩,fun x H' y=>?_⟩
  obtain ⟨e1,c,e2,e3⟩:=y
  subst e1 e3
  exact hs i U _ c (by simpa using e2) p
 ·have e:i=z.cps.size:=by omega
  subst e
  exact .inl ⟨rfl,hd U H p⟩
end
section
variable {X:Cx} {pins:List (Addr×Obj)} {U:St} {H:Hp} {s:Shared}
theorem Inv.newtup {wr:List Addr} {T:Addr} {vals:Array Value} {xs:List V} {h'':Heap} {tk:Nat} (I:Inv X pins U H s) (hf:∀ b∈wr,qM X pins H b) (hT:s.heap.objs.size<=T)
  (kall:∀ b o,b ∉ wr->s.heap.get? b=some o->h''.get? b=some o) (isT':h''.IsTuple T vals) (hv:Vals xs vals.toList) (hx:xs.length<=sizeLine):Inv X pins U (upd H T (.tup xs)) {s with heap:=h'',toks:=tk}:=by
 have hTn:H T=none:=I.hok.fresh hT
 have nT:∀ b o,s.heap.get? b=some o->b≠T:=fun b o e=>Zt (Ze (Y5 e) hT)
 have nTH:∀ b u,H b=some u->b≠T:=fun b u e z=>by rw [z,hTn] at e;cases e
 have nW:∀ b u,H b=some u->b ∉ wr:=fun b u e hb=>by rw [(hf b hb).1] at e;cases e
 refine I.step (g':=s.gens) (d':=s.drawn) (ch:=wr) (fun b hb=>?_) (fun b o _ _ hc e _=>kall b o hc e) (fun b o _ _ hc e _=>⟨o.slots,kall b o hc e⟩) (fun b o _ e hn=>by rw [aG (nT b o e)];exact hn)
  (fun b o hc e=>⟨o,kall b o hc e⟩) (fun b ys e=>by rw [aG (nTH b _ e)];exact e) (fun b o u e=>by rw [aG (nTH b _ e)];exact e) (fun b ps e=>⟨#[],by rw [aG (nTH b _ e),e];simp⟩) (fun m hm=>?_) (fun b u e=>?_) I.bare
 ·obtain ⟨f0,f1,f2,f3,f4,f5⟩:=hf b hb
  exact ⟨f3,f1,f4,f5⟩
 ·obtain ⟨o,es,ep,ho,r⟩:=hm
  exact ⟨o,es,ep,kall _ o (fun hb=>(hf _ hb).2.1 rfl) ho,r⟩
 ·by_cases hb:b=T
  ·subst hb
   rw [aj] at e;cases e
   obtain ⟨o,ho,hcl,nn,hd⟩:=isT'
   exact ⟨hx,vals.toList,hv,o,ho,hcl,nn,by simpa using hd⟩
  ·rw [aG hb] at e
   refine (I.hok b u e).stay (fun c v hc' q=>kall c v ?_ q) (fun c q=>by rw [aG (nTH c _ q)];exact q) fun c ys q=>by rw [aG (nTH c _ q)];exact q
   rcases hc' with z | z
   ·rw [z];exact nW b u e
   ·exact nW c _ z
theorem Inv.only {wr:List Addr} {h':Heap} {tk:Nat} (I:Inv X pins U H s) (hf:∀ b∈wr,qM X pins H b) (kk:∀ b o,b ∉ wr->s.heap.get? b=some o->h'.get? b=some o):Inv X pins U H {s with heap:=h',toks:=tk}:=by
 have nW:∀ b u,H b=some u->b ∉ wr:=fun b u e hb=>by rw [(hf b hb).1] at e;cases e
 refine I.step (g':=s.gens) (d':=s.drawn) (ch:=wr) (fun b hb=>?_) (fun b o _ _ hc e _=>kk b o hc e) (fun b o _ _ hc e _=>⟨o.slots,kk b o hc e⟩) (fun b o _ e hn=>hn)
   (fun b o hc e=>⟨o,kk b o hc e⟩) (fun b ys e=>e) (fun b o u e=>e) (fun b ps e=>⟨#[],by rw [e];simp⟩) (fun m hm=>?_) (fun b u e=>?_) I.bare
 ·obtain ⟨f0,f1,f2,f3,f4,f5⟩:=hf b hb
  exact ⟨f3,f1,f4,f5⟩
 ·obtain ⟨o,es,ep,ho,r⟩:=hm
  exact ⟨o,es,ep,kk _ o (fun hb=>(hf _ hb).2.1 rfl) ho,r⟩
 ·refine (I.hok b u e).stay (fun c v hc' q=>kk c v ?_ q) (fun c q=>q) fun c ys q=>q
  rcases hc' with z | z
  ·rw [z];exact nW b u e
  ·exact nW c _ z
end
def Vp (K:W.Frag) (a:Addr):It:=
 ⟨fun i H=>∃ xs x,SqL K H a xs/\xs[i]?=some x,
  fun i H v H'=>∃ T x,H T=none/\v= .ref T/\(∀ xs,SqL K H a xs->xs[i]?=some x)/\H'=upd H T (.tup [.int i,x]),
  fun i H=>∃ xs,SqL K H a xs/\xs.length<=i⟩
theorem Eg {P:Program} {w:World} {K:W.Frag} {elts:List Expr} {k:Nat} {pos:Pos} {e it a:Addr} (hne:e≠it):
  Turn P w K (.Tuple elts k pos) (Vp K a) [e,it] e (fun i h=>(∃ old,IsEnum h e it i old)/\h.IsListIter it a i) where
 mem:=by simp
 obj:=fun i h st c hc=>by
  obtain ⟨⟨old,he⟩,⟨o1,e1,c1,d1⟩⟩:=st
  simp only [Y7,Zq,or_false] at hc
  rcases hc with rfl | rfl
  ·exact ⟨_,he,fun v z=>by cases z⟩
  ·exact ⟨_,e1,fun v z=>by rw [d1] at z;cases z⟩
 keep:=fun i h h' st kk=>by
  obtain ⟨⟨old,he⟩,h1⟩:=st
  exact ⟨⟨old,kk e (by simp) _ he⟩,h1.at fun o q=>kk it (by simp) o q⟩
 item:=by
  intro X hP hw hK hc i pins s U H E I hf st hg
  subst hP hw hK
  obtain ⟨⟨old,he⟩,h1⟩:=st
  obtain ⟨xs,x,hq,hx⟩:=hg
  obtain ⟨its,rv,p,_⟩:=I.list hq
  obtain ⟨u,hu,ru⟩:=rv.get hx
  refine wpAny_pyNext_enum_item he h1 p.isList (x:=u) (by simpa using hu) hne fun h' a1 a2 a3 a4 hk=>?_
  refine ⟨_,rfl,wpAny_letOwnedTupleGo_enum a1 fun h'' a1' sb=>?_⟩
  have lt:∀ {c o},s.heap.get? c=some o->s.heap.objs.size≠c:=fun e=>AaY (Y5 e)
  have lti:s.heap.objs.size≠it:=by obtain ⟨o,q,_⟩:=h1;exact lt q
  have isT:h''.IsTuple s.heap.objs.size #[.int i s.toks,u]:=⟨_,sb.extBut _ _ (lt he) a3,rfl,_,rfl⟩
  have kall:∀ b o,b ∉ [e,it]->s.heap.get? b=some o->h''.get? b=some o:=fun b o hb q=>by
   simp only [Y7,Zq,or_false,not_or] at hb
   exact sb.extBut _ _ hb.1 (hk b o hb.1 hb.2 q)
  have hTn:H s.heap.objs.size=none:=I.hok.fresh (Y4 _)
  refine ⟨.ref s.heap.objs.size,_,I.newtup (tk:=s.toks+1) hf (Y4 _) kall isT (xs:=[.int i,x]) (.cons ⟨_,rfl⟩ (.cons ru .nil)) (by simp;decide),rfl,⟨_,x,hTn,rfl,fun zs hs=>by rw [I.list_inj hs hq];exact hx,rfl⟩,?_,fun b hb=>?_⟩
  ·exact ⟨⟨_,a1'⟩,a2.extBut sb.extBut (Ne.symm hne)⟩
  ·have:s.heap.objs.size≠b:=by
    simp only [Y7,Zq,or_false] at hb
    rcases hb with rfl | rfl
    ·exact lt he
    ·exact lti
   rw [aG (Ne.symm this)]
   exact (hf b hb).1
 done:=by
  intro X hP hw hK hc i pins s U H E I hf st hg
  subst hP hw hK
  obtain ⟨⟨old,he⟩,h1⟩:=st
  obtain ⟨xs,hq,hx⟩:=hg
  obtain ⟨its,rv,p,_⟩:=I.list hq
  have l1:=rv.length
  refine wpAny_pyNext_enum_end (I.ok.hd hc) he h1 p.isList (by simp;omega) fun h' hk=>⟨rfl,I.only (tk:=s.toks) hf fun b o hb q=>?_⟩
  simp only [Y7,Zq,or_false,not_or] at hb
  exact hk b o hb.2 q
 self:=fun _ _ _ _ _ st h=>let ⟨⟨_,he⟩,_⟩:=st;wpAny_pyIter_enum he h
theorem Im {X:Cx} {elts:List Expr} {k:Nat} {tp:Pos} {pins:List (Addr×Obj)} {U:St} {H1:Hp} {s1:Shared} {x:Str} {t:Tok} {R:It->Hp->Prop} (hc:X.calm=true) (I1:Inv X pins U H1 s1) (q:R (YJ (BP x) x.cps.size) H1):
  wpAny (model X.prog X.w) X.A (call (.type "enumerate") [.str x t]) (fun v s1=>wpAny (model X.prog X.w) X.A (pyIter v) (PIE X pins U (.Tuple elts k tp) R) X.xe s1) X.xe s1:=by
 refine call_enumerate_str fun h' he hit hsz hk=>?_
 have J1:Inv X pins U H1 {s1 with heap:=h'}:=I1.kept (t':=s1.toks) hk
 have ne1:s1.heap.objs.size+1≠s1.heap.objs.size:=Nat.succ_ne_self _
 have nm:s1.heap.objs.size+1 ∉ [s1.heap.objs.size]:=fun z=>ne1 (ZJ.mp z)
 have hPt:∀ (i:Nat) (vals:Array Value),(∃ t y,SignAt x i y/\vals= #[.int i t,y])->Vals (BP x i) vals.toList:=by
  rintro i vals ⟨t,y,⟨c,u,e1,rfl⟩,rfl⟩
  refine .cons ⟨t,rfl⟩ (.cons ⟨u,?_⟩ .nil)
  rw [show x.cps.getD i 0=c by simp [Array.getD_eq_getD_getElem?,e1]]
 have fin:∀ (ty:String) (Dr:∀ A:Around,A.handled=none->Draws X.prog X.w A s1.heap.objs.size [s1.heap.objs.size] x.cps.size (SignAt x) fun i h=>h.IsStrIter s1.heap.objs.size ty x t i),h'.IsStrIter s1.heap.objs.size ty x t 0->
   wpAny (model X.prog X.w) X.A (pyIter (.ref (s1.heap.objs.size+1))) (PIE X pins U (.Tuple elts k tp) R) X.xe {s1 with heap:=h'}:=by
  intro ty Dr hit'
  have W:∀ A:Around,A.handled=none->WalksT X.prog X.w A (s1.heap.objs.size+1) [s1.heap.objs.size+1,s1.heap.objs.size] [s1.heap.objs.size+1,s1.heap.objs.size] x.cps.size
    (fun i vals=>∃ t y,SignAt x i y/\vals= #[.int i t,y]) (fun i h=>(∃ old,IsEnum h (s1.heap.objs.size+1) s1.heap.objs.size i old)/\h.IsStrIter s1.heap.objs.size ty x t i)
    (fun i T h=>(∃ y,IsEnumOut h (s1.heap.objs.size+1) s1.heap.objs.size ((i:Int)+1) y T)/\h.IsStrIter s1.heap.objs.size ty x t (i+1)/\T≠s1.heap.objs.size+1/\T≠s1.heap.objs.size):=
   fun A hA=>WalksT.enumerateD (Dr A.in1 hA) (s1.heap.objs.size+1) ne1 nm (by simp)
  have hself:∀ (A:Around) (i:Nat) (s:Shared) (Q:Value->Shared->Prop) (E:Value->Shared->Prop),((∃ old,IsEnum s.heap (s1.heap.objs.size+1) s1.heap.objs.size i old)/\s.heap.IsStrIter s1.heap.objs.size ty x t i)->Q (.ref (s1.heap.objs.size+1)) s->wpAny (model X.prog X.w) A (pyIter (.ref (s1.heap.objs.size+1))) Q E s:=by
   rintro A i s Q E ⟨⟨old,he⟩,_⟩ hQ
   exact wpAny_pyIter_enum he hQ
  refine hself _ 0 _ _ _ ⟨⟨_,he⟩,hit'⟩ ?_
  refine ⟨s1.heap.objs.size+1,[s1.heap.objs.size+1,s1.heap.objs.size],_,_,H1,rfl,J1,Vn W (fun i=>by simp [BP];decide) hPt (by simp) ?_ hself,⟨⟨_,he⟩,hit'⟩,fun b hb=>?_,q⟩
  ·rintro i h ⟨⟨old,he⟩,o,ho,hcl,hd⟩ b hb
   rcases Y7.mp hb with rfl | hb
   ·exact ⟨_,he,fun v z=>by cases z⟩
   ·rw [ZJ.mp hb]
    exact ⟨o,ho,fun v z=>by rw [hd] at z;cases z⟩
  ·have hb':s1.heap.objs.size<=b:=by
    rcases Y7.mp hb with rfl | hb
    ·exact Nat.le_succ _
    ·rw [ZJ.mp hb];exact Y4 _
   exact I1.fpOk hb' (I1.hok.fresh hb')
 cases hx:x.cps.all (· < 128)
 ·exact fin "str_iterator" (fun A hA=>Draws.strWide hA _ x t) (by simpa [strIterType,hx] using hit)
 ·exact fin "str_ascii_iterator" (fun A hA=>Draws.strAscii hA _ x t) (by simpa [strIterType,hx] using hit)
def Sg (K:W.Frag) (ta:TA):TI:=fun U H R=>ta U H fun vs H1=>(∃ x:Str,vs=[.str x]/\R (YJ (BP x) x.cps.size) H1)\/∃ a xs,vs=[.ref a]/\SqL K H1 a xs/\R (Vp K a) H1
theorem zP {X:Cx} {K:W.Frag} {a:Expr} {ta:TA} {elts:List Expr} {k:Nat} {tp p pos:Pos} (hK:X.K=K) (hc:X.calm=true) (hg:Gl X "enumerate") (hm:X.mg "enumerate"=none) (ha:JA X [a] ta) (h:autoParam (notStar a=true) L2.auto4._auto_1):
  JI X (.Tuple elts k tp) (.Call (.Name "enumerate" p) [a] [] pos) (Sg K ta):=⟨by
 subst hK
 intro pins s U H R I hq
 refine Call_ (jc I hg hm zH (Zn (dW (ha.run pos pins s U H _ I hq) fun us s1 qq0=>?_) (bH h) rfl))
 obtain ⟨vs,H1,I1,r1,q1⟩:=qq0
 rcases q1 with ⟨x,e,q⟩ | ⟨l,xs,e,hl,q⟩
 ·subst e
  obtain ⟨u,rfl,t,rfl⟩:=vals1 r1
  exact Im hc I1 q
 ·subst e
  obtain ⟨u,rfl,ru⟩:=vals1 r1
  cases ru
  obtain ⟨its,rv,p1,_⟩:=I1.list hl
  refine call_enumerate_list p1.isList fun h' z1 z2 z3 hk=>?_
  have J1:Inv X pins U H1 {s1 with heap:=h'}:=I1.kept (t':=s1.toks) hk
  refine wpAny_pyIter_enum z1 ?_
  refine ⟨s1.heap.objs.size+1,_,_,_,H1,rfl,J1,Eg (Nat.succ_ne_self _),⟨⟨_,z1⟩,z2⟩,fun b hb=>?_,q⟩
  have hb':s1.heap.objs.size<=b:=by
   simp only [Y7,Zq,or_false] at hb
   have key:∀ n c:Nat,(c=n+1\/c=n)->n<=c:=fun n c h=>by omega
   exact key _ _ hb
  exact I1.fpOk hb' (I1.hok.fresh hb')⟩
end L2
namespace L2
open PySem PySem.Spec PyProof.Rows PySem.SeqAt
mutual
def DR (H:Hp):PyData->V->Prop
 | .none,v=>v= .non
 | .bool b,v=>v= .bl b
 | .int n,v=>v= .int n
 | .str x,v=>v= .str x
 | .list ds,v=>∃ a vs,v= .ref a/\H a=some (.lst vs)/\DRs H ds vs
 | .tuple ds,v=>∃ a vs,v= .ref a/\H a=some (.tup vs)/\DRs H ds vs
 | .dict _,_=>False
def DRs (H:Hp):List PyData->List V->Prop
 | [],vs=>vs=[]
 | d :: ds,vs=>∃ v r,vs=v :: r/\DR H d v/\DRs H ds r
end
mutual
theorem DR.same {H H':Hp} (s:Same H H'):∀ (d:PyData) (v:V),DR H d v->DR H' d v
 | .none,_,h=>by rw [DR] at h ⊢;exact h
 | .bool _,_,h=>by rw [DR] at h ⊢;exact h
 | .int _,_,h=>by rw [DR] at h ⊢;exact h
 | .str _,_,h=>by rw [DR] at h ⊢;exact h
 | .list ds,v,h=>by rw [DR] at h ⊢;obtain ⟨a,vs,e,q,r⟩:=h;exact ⟨a,vs,e,s _ _ q,DRs.same s ds vs r⟩
 | .tuple ds,v,h=>by rw [DR] at h ⊢;obtain ⟨a,vs,e,q,r⟩:=h;exact ⟨a,vs,e,s _ _ q,DRs.same s ds vs r⟩
 | .dict _,_,h=>by rw [DR] at h;exact h.elim
theorem DRs.same {H H':Hp} (s:Same H H'):∀ (ds:List PyData) (vs:List V),DRs H ds vs->DRs H' ds vs
 | [],_,h=>by rw [DRs] at h ⊢;exact h
 | d :: ds,vs,h=>by rw [DRs] at h ⊢;obtain ⟨v,r,e,q,t⟩:=h;exact ⟨v,r,e,DR.same s d v q,DRs.same s ds r t⟩
end
theorem Ls {H:Hp} {n:Int} {v:V}:DR H (.int n) v↔v= .int n:=by rw [DR]
theorem Lw {H:Hp} {n:Str} {v:V}:DR H (.str n) v↔v= .str n:=by rw [DR]
theorem Qq {H:Hp} {ds:List PyData} {v:V}:DR H (.list ds) v↔∃ a vs,v= .ref a/\H a=some (.lst vs)/\DRs H ds vs:=by rw [DR]
theorem Lx {H:Hp} {ds:List PyData} {v:V}:DR H (.tuple ds) v↔∃ a vs,v= .ref a/\H a=some (.tup vs)/\DRs H ds vs:=by rw [DR]
theorem Qs {H:Hp} {vs:List V}:DRs H [] vs↔vs=[]:=by rw [DRs]
theorem Ly {H:Hp} {d:PyData} {ds:List PyData} {vs:List V}:DRs H (d :: ds) vs↔∃ v r,vs=v :: r/\DR H d v/\DRs H ds r:=by rw [DRs]
mutual
theorem DR.reads {P:Program} {w:World} {H:Hp} {h:Heap} (ok:HOk P w H h):∀ (d:PyData) (v:V) (u:Value),DR H d v->RelV v u->∃ as,Reads h u d as
 | .none,_,u,q,r=>by rw [DR] at q;subst q;cases r;exact ⟨_,.none⟩
 | .bool b,_,u,q,r=>by rw [DR] at q;subst q;cases r;exact ⟨_,.bool _⟩
 | .int n,_,u,q,r=>by rw [DR] at q;subst q;obtain ⟨t,rfl⟩:=r;exact ⟨_,.int _ _⟩
 | .str n,_,u,q,r=>by rw [DR] at q;subst q;obtain ⟨t,rfl⟩:=r;exact ⟨_,.str _ _⟩
 | .list ds,v,u,q,r=>by
  rw [DR] at q
  obtain ⟨a,vs,rfl,e,t⟩:=q
  cases r
  obtain ⟨_,its,n,rv,g⟩:=ok a _ e
  obtain ⟨as,ra⟩:=DRs.reads ok ds vs its t rv
  exact ⟨_,.list g rfl rfl (by simpa using ra)⟩
 | .tuple ds,v,u,q,r=>by
  rw [DR] at q
  obtain ⟨a,vs,rfl,e,t⟩:=q
  cases r
  obtain ⟨_,its,rv,g⟩:=ok a _ e
  obtain ⟨as,ra⟩:=DRs.reads ok ds vs its t rv
  obtain ⟨o,ho,hc,n,hd⟩:=g
  exact ⟨_,.tuple ho hc hd (by simpa using ra)⟩
 | .dict _,_,_,q,_=>by rw [DR] at q;exact q.elim
theorem DRs.reads {P:Program} {w:World} {H:Hp} {h:Heap} (ok:HOk P w H h):∀ (ds:List PyData) (vs:List V) (us:List Value),DRs H ds vs->Vals vs us->∃ as,ReadsAll h us ds as
 | [],_,us,q,r=>by rw [DRs] at q;subst q;cases r;exact ⟨_,.nil⟩
 | d :: ds,_,us,q,r=>by
  rw [DRs] at q
  obtain ⟨v,r',rfl,q1,q2⟩:=q
  cases r with
  | cons a b=>
   obtain ⟨as,h1⟩:=DR.reads ok d v _ q1 a
   obtain ⟨bs,h2⟩:=DRs.reads ok ds r' _ q2 b
   exact ⟨_,.cons h1 h2⟩
end
def XF:R2:=fun x y H Q=>∃ d e,DR H d x/\DR H e y/\shaped d=true/\shaped e=true/\Q (.bl (PyData.eqv d e)) H
def XH:R2:=fun x y H Q=>∃ d e,DR H d x/\DR H e y/\shaped d=true/\shaped e=true/\Q (.bl (!PyData.eqv d e)) H
section
variable {X:Cx}
theorem Vq (hu:X.A.units+64 < cLine):OpR X (compareOp .Eq) XF:=by
 intro pins s U H x y v u Q I rx ry h
 obtain ⟨d,e,h1,h2,h3,h4,q⟩:=h
 obtain ⟨as,r1⟩:=DR.reads I.hok d x v h1 rx
 obtain ⟨bs,r2⟩:=DR.reads I.hok e y u h2 ry
 exact eq_dataH r1 r2 h3 h4 hu ⟨.bl _,H,I,rfl,q⟩
theorem Vr (hu:X.A.units+64 < cLine):OpR X (compareOp .NotEq) XH:=by
 intro pins s U H x y v u Q I rx ry h
 obtain ⟨d,e,h1,h2,h3,h4,q⟩:=h
 obtain ⟨as,r1⟩:=DR.reads I.hok d x v h1 rx
 obtain ⟨bs,r2⟩:=DR.reads I.hok e y u h2 ry
 exact ne_dataH r1 r2 h3 h4 hu ⟨.bl _,H,I,rfl,q⟩
def Io (K:W.Frag):R2:=fun x y H Q=>Vg K x y H Q\/XF x y H Q
def Qt (K:W.Frag):R2:=fun x y H Q=>XD K x y H Q\/XH x y H Q
theorem Vs {K:W.Frag} (hK:X.K=K) (hu:X.A.units+64 < cLine):OpR X (compareOp .Eq) (Io K):=(Vj hK (Aaq (Aar _ _) hu)).or (Vq hu)
theorem Eh {K:W.Frag} (hK:X.K=K) (hu:X.A.units+64 < cLine):OpR X (compareOp .NotEq) (Qt K):=(Vo hK hu).or (Vr hu)
end
section
variable {H:Hp} {Q:VK} {K:W.Frag} {U:St}
theorem cF {i j:Int} (h:Q (.bl (decide (V.int i=V.int j))) H):Io K (.int i) (.int j) H Q:=.inl (.inl ⟨rfl,h⟩)
theorem cG {i j:Str} (h:Q (.bl (decide (V.str i=V.str j))) H):Io K (.str i) (.str j) H Q:=.inl (.inl ⟨rfl,h⟩)
theorem cH {i j:Bool} (h:Q (.bl (decide (V.bl i=V.bl j))) H):Io K (.bl i) (.bl j) H Q:=.inl (.inl ⟨rfl,h⟩)
theorem dG {i j:Int} (h:Q (.bl (!decide (V.int i=V.int j))) H):Qt K (.int i) (.int j) H Q:=.inl (.inl ⟨rfl,h⟩)
theorem cI {i j:Str} (h:Q (.bl (!decide (V.str i=V.str j))) H):Qt K (.str i) (.str j) H Q:=.inl (.inl ⟨rfl,h⟩)
theorem Lz {x y:V} {d:PyData} (h1:DR H d x) (h2:DR H d y) (hs:shaped d=true) (h:Q (.bl true) H):Io K x y H Q:=
 .inr ⟨d,d,h1,h2,hs,hs,by rw [PySem.SeqAt.eqv_refl d (canLay_of_shaped hs)];exact h⟩
theorem bN {a:TA} {R:It->Hp->Prop} (h:a U H fun vs H1=>(∃ x:Str,vs=[.str x]/\R (YJ (BP x) x.cps.size) H1)\/∃ a xs,vs=[.ref a]/\SqL K H1 a xs/\R (Vp K a) H1):Sg K a U H R:=h
theorem yG {a:Addr} {xs:List V} {g:TG} {tb:TS} {D:Ends} (Pv:Nat->St->Hp->Prop) (h0:Pv 0 U H) (hq:∀ i U H,i<=xs.length->Pv i U H->SqL K H a xs)
  (hs:∀ i U H T x,xs[i]?=some x->Pv i U H->H T=none->g (.ref T) U (upd H T (.tup [.int i,x])) fun σ2 H2=>tb {D with nx:=Pv (i+1),ct:=Pv (i+1),bk:=D.nx} σ2 H2) (hd:∀ U H,Pv xs.length U H->D.nx U H):
  ∃ W:Nat->Nat->St->Hp->Prop,(∃ m,W 0 m U H)/\∀ i m U H,W i m U H->
   ((Vp K a).stop i H/\D.nx U H)\/((Vp K a).go i H/\∃ N:St->Hp->Prop,(∀ U' H',N U' H'->∃ m',m' < m/\W (i+1) m' U' H')/\∀ x H',(Vp K a).yld i H x H'->g x U H' fun σ2 H2=>tb {D with nx:=N,ct:=N,bk:=D.nx} σ2 H2):=by
 refine ⟨fun i m U H=>m=xs.length - i/\i<=xs.length/\Pv i U H,⟨xs.length,by simp,Z7 _,h0⟩,?_⟩
 rintro i m U H ⟨rfl,hi,p⟩
 have q1:=hq i U H hi p
 by_cases hlt:i < xs.length
 ·refine .inr ⟨⟨xs,xs[i],q1,YT hlt⟩,Pv (i+1),fun U' H' p'=>⟨xs.length - (i+1),by omega,rfl,hlt,p'⟩,fun x H' y=>?_⟩
  obtain ⟨T,u,hT,e1,e2,e4⟩:=y
  subst e1 e4
  exact hs i U H T u (e2 xs q1) p hT
 ·have e:i=xs.length:=by omega
  subst e
  exact .inl ⟨⟨xs,q1,Y4 _⟩,hd U H p⟩
end
end L2
namespace L2
open PySem PySem.Spec PyProof.Rows
theorem LC:typeLookup (.type "list_reverseiterator") "__len__"=pure none:=by rw [Aa4,Aan];kernel_rfl
theorem Ip:typeLookup (.type "list_reverseiterator") "__length_hint__"=pure (some (.builtin "list_reverseiterator.__length_hint__")):=by rw [Aa4,Aan];kernel_rfl
section
variable {prog:Program} {w:World} {A:Around} {E:Value->Shared->Prop} {s:Shared}
theorem LK {it l:Addr} {i:Int} {Q:Bool->Shared->Prop} (hit:s.heap.IsRevIter it l i) (h:Q false s):wpAny (model prog w) A (Builtin.List.listLengthHint (.ref it)) Q E s:=by
 unfold Builtin.List.listLengthHint
 refine YS (Aa3 hit.typeIs LC ?_)
 show wpAny _ _ (specialOf (Value.ref it) (Str.ofString "__length_hint__") >>=_) _ _ _
 refine YS (Aa3 hit.typeIs Ip ?_)
 generalize hid:("list_reverseiterator.__length_hint__":String)=id0
 wp_delta
 rw [show splitId id0=some ("list_reverseiterator","__length_hint__") from by subst hid;trivial]
 subst hid
 refine YS (wpAny_isInstance (T:="list_reverseiterator") (b:=true) hit.typeIs (by rw [Abb];kernel_rfl) ?_)
 refine wpAny_ite_split (fun hab=>absurd hab (by decide)) (fun _=>?_)
 refine wpAny_ite_split (fun _=>?_) (fun hab=>absurd (by trivial) hab)
 refine wpAny_ite_split (fun hab=>absurd hab (by trivial)) (fun _=>?_)
 exact YX h
theorem LQ {it l:Addr} {items:Array Value} {Q:Value->Shared->Prop} (hh:A.handled=none) (hit:s.heap.IsRevIter it l ((items.size:Int) - 1)) (hl:s.heap.IsList l items) (hne:l≠it) (hn:items.size<=sizeLine)
  (hQ:∀ h' tk acc' c',(∀ b o,b≠it->s.heap.get? b=some o->h'.get? b=some o)->h'.get? s.heap.objs.size=some {cls:=.type "list",dict:=none,data:=.seq acc' c',slots:=#[]}->
   ItemsOf (fun i v=>items[items.size - 1 - i]?=some v) acc' items.size->Q (.ref s.heap.objs.size) {s with heap:=h',toks:=tk}):
  wpAny (model prog w) A (call (.type "list") [.ref it]) Q E s:=by
 refine callType_codes (Q₁:=fun obj s₁=>obj= .ref s.heap.objs.size/\s₁={s with heap:=s.heap.push {cls:=.type "list",data:=.seq #[]}}) F.called_list (F.typeCall_list_1 _) F.entry_list_init
  (code_list_new _ ⟨rfl,rfl⟩) fun obj s₁ h₁=>?_
 obtain ⟨rfl,rfl⟩:=h₁
 have iti:it < s.heap.objs.size:=by obtain ⟨o,e,_⟩:=hit;exact Y5 e
 have itl:l < s.heap.objs.size:=by obtain ⟨o,e,_⟩:=hl;exact Y5 e
 generalize hS0:s.heap.objs.size=S at iti itl hQ
 have hS:(s.heap.push {cls:=.type "list",data:=.seq #[]}).get? S=some {cls:=.type "list",data:=.seq #[]}:=by rw [← hS0];exact Za _ rfl
 have kp:∀ b o,s.heap.get? b=some o->(s.heap.push {cls:=.type "list",data:=.seq #[]}).get? b=some o:=fun b o e=>Y0 _ e
 generalize s.heap.push {cls:=.type "list",data:=.seq #[]}=h1 at hS kp
 have hit1:h1.IsRevIter it l ((items.size:Int) - 1):=hit.at fun o e=>kp it o e
 have hl1:h1.IsList l items:=hl.at fun o e=>kp l o e
 refine ⟨⟨_,hS,rfl⟩,F.args_list_init_2 _ _,?_⟩
 have nSi:S≠it:=AaY iti
 have nSl:S≠l:=AaY itl
 have hSf:S ∉ [it,l]:=by simp [nSi,nSl]
 have W:=(Walks.listRev (prog:=prog) (w:=w) (A:=A.in1.in1) hh it l hne items).toS
 show wpAny _ A.in1.in1 (do let old ← Builtin.List.listItems (.ref S);Builtin.List.listUpdate (.ref S) (fun _=>#[]);letGo old.toList.reverse;Builtin.List.listExtendWith (.ref S) (.ref it) .none) _ _ _
 unfold Builtin.List.listItems
 refine YS (YS (AaT hS rfl (YX ?_)))
 show wpAny _ A.in1.in1 (updateSeq S (fun _=>#[]) >>=fun _=>letGo (#[]:Array Value).toList.reverse >>=fun _=>Builtin.List.listExtendWith (.ref S) (.ref it) .none) _ _ _
 refine YS (AaI hS rfl ?_)
 have hS2:=Zy (Obj.mapSeq (fun _=>(#[]:Array Value))) hS rfl
 have k2:∀ b o,b≠S->h1.get? b=some o->(h1.update S (Obj.mapSeq (fun _=>(#[]:Array Value)))).get? b=some o:=fun b o hb e=>(Zf _ _ (Ne.symm hb)).trans e
 generalize h1.update S (Obj.mapSeq (fun _=>(#[]:Array Value)))=h2 at hS2 k2
 have hit2:=hit1.at (h':=h2) fun o e=>k2 it o (Ne.symm nSi) e
 have hl2:=hl1.at (h':=h2) fun o e=>k2 l o (Ne.symm nSl) e
 refine YS (AaW ?_)
 unfold Builtin.List.listExtendWith
 refine YS (wpAny_typeOf (T:="list_reverseiterator") (Heap.IsRevIter.typeIs (s:={s with heap:=h2}) hit2) ?_)
 have e1:Builtin.List.listSameRef (.ref S) (.ref it)=false:=by simp [Builtin.List.listSameRef,nSi]
 have e2:(Value.type "list_reverseiterator" == Value.type "list")=false:=by decide
 have e3:(Value.type "list_reverseiterator" == Value.type "tuple")=false:=by decide
 simp only [e1,e2,e3,Bool.or_false,AaZ,if_false]
 refine YS (wpAny_pyIter_revIter (s:={s with heap:=h2}) hit2 ?_)
 refine YS (Zw (LK (s:={s with heap:=h2}) hit2 ?_))
 refine wpAny_ite_split (fun hab=>absurd hab (by trivial)) (fun _=>?_)
 refine YX ⟨Aas F.plain_extend_loop _,?_⟩
 refine codeAny_extend_loopS W hn S hSf .none items.size 0 _ #[] _ rfl (Z7 _) ⟨Z7 _,by simpa using hit2,hl2⟩ hS2 (ItemsOf.nil _) fun s' acc' c' hm hS' hacc=>?_
 rw [Moved.eq_with hm]
 refine ⟨rfl,hQ s'.heap s'.toks acc' c' (fun b o hb e=>hm.heap b o (fun hmem=>?_) (k2 b o (fun z=>?_) (kp b o e))) hS' hacc⟩
 ·rcases Y7.mp hmem with e' | hmem
  ·exact absurd (Y5 e) (by rw [e',hS0];exact Z5 _)
  ·exact hb (ZJ.mp hmem)
 ·exact absurd (Y5 e) (by rw [z,hS0];exact Z5 _)
end
section
variable {X:Cx} {K:W.Frag} {a b c e:Expr} {ta tb tc te:TE} {pos p p2 p3:Pos}
theorem Qu {op op':CmpOp} {r r':R2} (ho:OpR X (compareOp op) r) (ho':OpR X (compareOp op') r') (ha:JE X a ta) (hb:JE X b tb) (hc:JE X c tc) (hm:autoParam (lastMarks [op,op'] [b,c]=false) L2.auto5._auto_1):
  JE X (.Compare a [op,op'] [b,c] pos) (vZ r r' ta tb tc):=⟨Kr ho ho' ha.run hb.run hc.run hm⟩
theorem LR {op op':CmpOp} {r r':R2} (ho:OpR X (compareOp op) r) (ho':OpR X (compareOp op') r') (ha:JE X a ta) (hb:JE X b tb) (hc:JE X c tc) (hm:autoParam (lastMarks [op,op'] [b,c]=false) L2.auto5._auto_1):
  JT X (.Compare a [op,op'] [b,c] pos) (ym (vZ r r' ta tb tc)):=⟨Ks ho ho' ha.run hb.run hc.run hm⟩
theorem arg1 {Q:List Value->Shared->Prop} {E:Value->Shared->Prop} {s:Shared} (hs:notStar e=true) (h:wpAny (model X.prog X.w) X.A (eval e X.env) (fun u s1=>Q [u] s1) E s):wpAny (model X.prog X.w) X.A (spliced (backTo pos (starEach [e] X.env))) Q E s:=by
 rw [bH hs]
 show wpAny _ _ (spliced ((false,eval e X.env) :: backTo pos (starEach [] X.env))) _ _ s
 exact Calls.spliced_cons (ZM h (fun u s1 q=>Calls.spliced_nil q) fun _ _ z=>z)
def Ma (K:W.Frag) (ta:TE):TE:=fun U H Q=>ta U H fun x H1=>∃ l xs,x= .ref l/\SqL K H1 l xs/\∀ q,H1 q=none->Q (.ref q) (upd H1 q (.lst xs.reverse))
theorem yH (hK:X.K=K) (hc:X.calm=true) (hg:Gl X "list") (hm:X.mg "list"=none) (hg2:Gl X "reversed") (hm2:X.mg "reversed"=none) (ha:JE X a ta) (h:autoParam (notStar a=true) L2.auto4._auto_1):
  JE X (.Call (.Name "list" p) [.Call (.Name "reversed" p2) [a] [] p3] [] pos) (Ma K ta):=⟨by
 subst hK
 intro pins s U H Q I hq
 refine ZG (jc I hg hm mq (Zn (arg1 rfl (ZG (jc I hg2 hm2 uQ (Zn (arg1 h (dW (ha.run pins s U H _ I hq) fun u s1 qq0=>?_)) (bH h) rfl)))) rfl rfl))
 obtain ⟨x,H1,I1,rx,l,xs,ex,hx,q⟩:=qq0
 subst ex
 cases rx
 obtain ⟨its,r,ht,hz⟩:=I1.list hx
 have hlen:=r.length
 refine call_reversed_list ht.isList ?_
 have lt:l < s1.heap.objs.size:=by obtain ⟨o,ho,_⟩:=ht.isList;exact Y5 ho
 have e0:(s1.heap.push (PySem.revObj l ((its.toArray.size:Int) - 1))).get? s1.heap.objs.size=some (PySem.revObj l ((its.toArray.size:Int) - 1)):=Za _ rfl
 have k0:∀ b o,s1.heap.get? b=some o->(s1.heap.push (PySem.revObj l ((its.toArray.size:Int) - 1))).get? b=some o:=fun b o q=>Y0 _ q
 have s0:(s1.heap.push (PySem.revObj l ((its.toArray.size:Int) - 1))).objs.size=s1.heap.objs.size+1:=Aaj ..
 refine LQ (it:=s1.heap.objs.size) (l:=l) (I1.ok.hd hc) ⟨_,e0,rfl,rfl⟩ (ht.isList.at fun o q=>k0 l o q) (Zt lt) (by simp;omega) fun h' tk acc' c' hk hS hacc=>?_
 have eacc:acc'.toList=its.reverse:=by
  apply Aa8
  intro i
  have a1:acc'.size=its.length:=by have:=hacc.1;simpa using this
  by_cases hi:i < its.length
  ·have hi':i < acc'.size:=by omega
   have a2:=hacc.2 i acc'[i] (Array.getElem?_eq_getElem hi')
   rw [List.getElem?_reverse hi]
   simp at a2
   rw [a2]
   simp [hi']
  ·rw [ZZ (by simp;omega),ZZ (by simp;omega)]
 have rr:Vals xs.reverse acc'.toList:=by rw [eacc];exact r.reverse
 have k1:∀ b o,s1.heap.get? b=some o->h'.get? b=some o:=fun b o z=>hk b o (Zt (Y5 z)) (k0 b o z)
 have hle:s1.heap.objs.size<=(s1.heap.push (PySem.revObj l ((its.toArray.size:Int) - 1))).objs.size:=by rw [s0];exact Nat.le_succ _
 refine ⟨.ref _,_,I1.laid (t':=tk) (o:=.lst xs.reverse) k1 hle ⟨by simp;omega,acc'.toList,c',rr,by simpa using hS⟩,rfl,q _ (I1.hok.fresh hle)⟩⟩
end
def Ir (h:Heap) (T:Addr):Prop:=∃ oT ts,h.get? T=some oT/\oT.data= .fields ts/\3 < ts.size
def gG (C:Addr) (dd:Option Addr) (vs:Array Value):Obj:={cls:=.ref C,dict:=dd,data:=.fields vs}
def Qv (l:List Env):List Addr:=l.filterMap (·.frame)
section
variable {M:Model} {A:Around} {E:Value->Shared->Prop}
theorem yI {base:Heap} {env:Env} {outer:List Env} {L x C:Addr} {dd:Option Addr} {vs:Array Value} {hd:Value} {had:Bool} {Q:Unit->Shared->Prop} {s:Shared}
  (fr:A.frames=some (env :: outer)) (ff:s.heap.FunFrames base (env :: outer)) (fL:env.frame=some L) (ex:s.heap.get? x=some (gG C dd vs)) (sz:1 < vs.size) (nx:x ∉ Qv (env :: outer))
  (k:∀ h' T,h'.get? x=some (gG C dd (vs.setIfInBounds 1 (.ref T)))->s.heap.objs.size<=T->Ir h' T->(∀ b o,b≠x->b ∉ Qv (env :: outer)->s.heap.get? b=some o->h'.get? b=some o)->
   (∀ b o,b≠x->s.heap.get? b=some o->∃ sl,h'.get? b=some {o with slots:=sl})->Q () {s with heap:=h'}):
  wpAny M A (do let c ← frameOf env;let pl ← entryPlaceOf L had;let t ← EntryCells.newEntry hd c .none (rawInt L) .none pl;setField (.ref x) 1 t) Q E s:=by
 refine YS (wpAny_frameOf_fun fr ff fL fun g1 so=>?_)
 refine YS (wpAny_entryPlaceOf fun pl isp=>?_)
 unfold EntryCells.newEntry newFields
 refine YS (Z8 ?_ (isp.sizeOk5 _ _ _ _ _))
 have x1:g1.get? x=some (gG C dd vs):=(so.2.1 x nx).trans ex
 have lts:([hd,Value.ref L,.none,rawInt L,.none] ++ (if pl.isEmpty then List.replicate 6 Value.none else pl)).toArray.size > 3:=by
  simp only [Zh,Z2,Z6,List.length_nil];omega
 generalize ([hd,Value.ref L,.none,rawInt L,.none] ++ (if pl.isEmpty then List.replicate 6 Value.none else pl)).toArray=tv at lts
 have x2:(g1.push {cls:=.type "traceback",dict:=none,data:=.fields tv}).get? x=some (gG C dd vs):=Y0 _ x1
 have nTx:g1.objs.size≠x:=AaY (Y5 x1)
 have t2:(g1.push {cls:=.type "traceback",dict:=none,data:=.fields tv}).get? g1.objs.size=some {cls:=.type "traceback",dict:=none,data:=.fields tv}:=Za _ rfl
 have o2:∀ b o,g1.get? b=some o->(g1.push {cls:=.type "traceback",dict:=none,data:=.fields tv}).get? b=some o:=fun b o e=>Y0 _ e
 refine Abd (vs:=vs) x2 rfl sz ?_
 have e3:=Zy (Obj.mapFields (·.setIfInBounds 1 (Value.ref g1.objs.size))) x2 rfl
 have ot:∀ b,b≠x->((g1.push {cls:=.type "traceback",dict:=none,data:=.fields tv}).update x (Obj.mapFields (·.setIfInBounds 1 (Value.ref g1.objs.size)))).get? b=(g1.push {cls:=.type "traceback",dict:=none,data:=.fields tv}).get? b:=fun b hb=>Zf _ _ (Ne.symm hb)
 refine k _ g1.objs.size e3 (by rw [so.1];exact Y4 _) ⟨_,tv,(ot _ nTx).trans t2,rfl,lts⟩ (fun b o hb hf e=>?_) (fun b o hb e=>?_)
 ·rw [ot b hb];exact o2 b o ((so.2.1 b hf).trans e)
 ·obtain ⟨sl,q⟩:=so.2.2 b o e
  exact ⟨sl,by rw [ot b hb];exact o2 b _ q⟩
structure Ge (fs:List Addr) (x C:Addr) (dd:Option Addr) (hd:Option Addr) (h h':Heap) (T:Addr):Prop where
 obj:∃ vs,h'.get? x=some (gG C dd vs)/\vs[1]?=some (.ref T)/\vs[2]?=some .none
 tb:Ir h' T
 ne:T≠x
 new:h.objs.size<=T\/hd=some T
 keep:∀ b o,b≠x->some b≠hd->b ∉ fs->h.get? b=some o->h'.get? b=some o
 slot:∀ b o,b≠x->some b≠hd->h.get? b=some o->∃ sl,h'.get? b=some {o with slots:=sl}
 tail:∀ b o,hd=some b->h.get? b=some o->∃ o',h'.get? b=some o'
theorem XJ {base:Heap} {env:Env} {outer:List Env} {L x C:Addr} {dd:Option Addr} {vs:Array Value} {Q:Unit->Shared->Prop} {s:Shared}
  (fr:A.frames=some (env :: outer)) (ff:s.heap.FunFrames base (env :: outer)) (fL:env.frame=some L) (ex:s.heap.get? x=some (gG C dd vs)) (h1:vs[1]?=some .none/\vs[2]?=some .none) (nx:x ∉ Qv (env :: outer))
  (k:∀ h' T,Ge (Qv (env :: outer)) x C dd none s.heap h' T->Q () {s with heap:=h'}):wpAny M A (noteFrame (.ref x) env) Q E s:=by
 unfold noteFrame
 simp only [fL]
 refine YS (Aat ex rfl h1.1 ?_)
 rw [if_neg (by decide)]
 have sz:1 < vs.size:=(Array.getElem?_eq_some_iff.mp h1.1).1
 refine yI fr ff fL ex sz nx fun h' T a1 a2 a3 a4 a5=>k h' T ⟨⟨_,a1,by simp [sz],by rw [Array.getElem?_setIfInBounds_ne (by decide)];exact h1.2⟩,a3,?_,.inl a2,fun b o hb _ hf e=>a4 b o hb hf e,fun b o hb _ e=>a5 b o hb e,fun b o z=>by cases z⟩
 exact AaY (Ze (Y5 ex) a2)
theorem XM {base:Heap} {env:Env} {outer:List Env} {L x C T0:Addr} {dd:Option Addr} {vs:Array Value} {Q:Unit->Shared->Prop} {s:Shared}
  (fr:A.frames=some (env :: outer)) (ff:s.heap.FunFrames base (env :: outer)) (fL:env.frame=some L) (ex:s.heap.get? x=some (gG C dd vs)) (h1:vs[1]?=some (.ref T0)/\vs[2]?=some .none) (t0:Ir s.heap T0) (ne:T0≠x) (nx:x ∉ Qv (env :: outer)) (nT:T0 ∉ Qv (env :: outer))
  (k:∀ h' T,Ge (Qv (env :: outer)) x C dd (some T0) s.heap h' T->Q () {s with heap:=h'}):wpAny M A (noteFrame (.ref x) env) Q E s:=by
 obtain ⟨oT,ts,g,d,l3⟩:=id t0
 unfold noteFrame
 simp only [fL]
 refine YS (Aat ex rfl h1.1 ?_)
 rw [if_pos (show (Value.ref T0 != Value.none)=true from by simp)]
 refine YS (Aat g d (Array.getElem?_eq_getElem l3) ?_)
 by_cases q:(ts[3] == rawInt L)=true
 ·rw [if_pos q]
  exact YX (k _ T0 ⟨⟨vs,ex,h1⟩,t0,ne,.inr rfl,fun b o _ _ _ e=>e,fun b o _ _ e=>⟨o.slots,e⟩,fun b o _ e=>⟨o,e⟩⟩)
 ·rw [if_neg q]
  refine YS (Abd g d l3 ?_)
  have tT:=Zy (Obj.mapFields (·.setIfInBounds 3 Value.none)) g (Aa5 (AaD d _))
  have ot:∀ b,b≠T0->(s.heap.update T0 (Obj.mapFields (·.setIfInBounds 3 Value.none))).get? b=s.heap.get? b:=fun b hb=>Zf _ _ (Ne.symm hb)
  have sz:1 < vs.size:=(Array.getElem?_eq_some_iff.mp h1.1).1
  have ff2:(s.heap.update T0 (Obj.mapFields (·.setIfInBounds 3 Value.none))).FunFrames base (env :: outer):=ff.of_keeps fun b o hb hn=>by
   refine ⟨o,(ot b (fun z=>?_)).trans hb,rfl⟩
   rw [z,g] at hb;cases hb;exact hn _ d
  refine yI (s:={s with heap:=s.heap.update T0 (Obj.mapFields (·.setIfInBounds 3 Value.none))}) fr ff2 fL ((ot x (Ne.symm ne)).trans ex) sz nx fun h' T a1 a2 a3 a4 a5=>k h' T ⟨⟨_,a1,by simp [sz],by rw [Array.getElem?_setIfInBounds_ne (by decide)];exact h1.2⟩,a3,?_,.inl (by rw [Heap.size_update] at a2;exact a2),fun b o hb h0 hf e=>a4 b o hb hf ((ot b (fun z=>h0 (by rw [z]))).trans e),fun b o hb h0 e=>a5 b o hb ((ot b (fun z=>h0 (by rw [z]))).trans e),fun b o hb e=>?_⟩
  ·exact AaY (Ze (Y5 ex) (by rw [Heap.size_update] at a2;exact a2))
  ·cases hb
   obtain ⟨sl,z⟩:=a5 T0 _ ne tT
   exact ⟨_,z⟩
theorem XN {x C T0:Addr} {dd:Option Addr} {vs:Array Value} {Q:Unit->Shared->Prop} {s:Shared} (ex:s.heap.get? x=some (gG C dd vs)) (h1:vs[1]?=some (.ref T0)/\vs[2]?=some .none) (t0:Ir s.heap T0) (ne:T0≠x)
  (k:∀ h',Ge [] x C dd (some T0) s.heap h' T0->Q () {s with heap:=h'}):wpAny M A (setFlight (.ref x) none) Q E s:=by
 obtain ⟨oT,ts,g,d,l3⟩:=id t0
 unfold setFlight
 refine YS (Aat ex rfl h1.1 ?_)
 rw [if_pos (show (Value.ref T0 != Value.none)=true from by simp)]
 refine Abd g d l3 (k _ ?_)
 have d2:=AaD d (·.setIfInBounds 3 ((none:Option Addr).elim Value.none fun f=>rawInt f))
 have tT:=Zy (Obj.mapFields (·.setIfInBounds 3 ((none:Option Addr).elim Value.none fun f=>rawInt f))) g (Aa5 d2)
 have ot:∀ b,b≠T0->(s.heap.update T0 (Obj.mapFields (·.setIfInBounds 3 ((none:Option Addr).elim Value.none fun f=>rawInt f)))).get? b=s.heap.get? b:=fun b hb=>Zf _ _ (Ne.symm hb)
 exact ⟨⟨vs,(ot x (Ne.symm ne)).trans ex,h1⟩,⟨_,_,tT,d2,by simpa using l3⟩,ne,.inr rfl,fun b o _ h0 _ e=>(ot b (fun z=>h0 (by rw [z]))).trans e,fun b o _ h0 e=>⟨o.slots,(ot b (fun z=>h0 (by rw [z]))).trans e⟩,fun b o hb e=>by cases hb;exact ⟨_,tT⟩⟩
end
def XQ:List Value:=[.type "ValueError",.type "Exception",.type "BaseException",.type "object"]
def Ww (K:W.Frag) (D:Addr):Bool:=match K.lookup D with
 | some ⟨.type "type",_,.cls cd,sl⟩=>(match cd.mro,sl.toList with
  | .ref E :: bm,[_,_,_,_,some (.builtin n),_]=>E == D && n == "ValueError.__new__" && cd.hasDel == false && cd.hasDict && PySem.W.tailIn K XQ bm
  | _,_=>false)
 | _=>false
theorem wF {K:W.Frag} {D:Addr} (q:Ww K D=true):∃ nm qn N bs bm sn sub ab col dd k0 k1 k2 k3 k5,K.lookup D=some (excClassObj nm qn D N bs bm true sn sub ab col dd k0 k1 k2 k3 k5 "ValueError.__new__")/\∀ h,K.In h->OwnTail h XQ bm:=by
 unfold Ww at q
 split at q
 ·rename_i dd cd sl ho
  split at q
  ·rename_i D' bm k0 k1 k2 k3 n k5 hm hs
   simp only [Zb,Aao] at q
   obtain ⟨⟨⟨⟨e1,e2⟩,e3⟩,e4⟩,e5⟩:=q
   subst e1 e2
   obtain ⟨nm,bs,mro,ns,qn,hd,sn,sub,ab,col,del⟩:=cd
   dsimp only at hm e3 e4
   subst hm e3 e4
   have hsl:sl= #[k0,k1,k2,k3,some (.builtin "ValueError.__new__"),k5]:=by
    obtain ⟨l⟩:=sl
    dsimp only at hs
    rw [hs]
   subst hsl
   exact ⟨nm,qn,ns,bs,bm,sn,sub,ab,col,dd,k0,k1,k2,k3,k5,ho,fun h X=>PySem.W.tail_of_in X e5⟩
  ·cases q
 ·cases q
section
variable {prog:Program} {w:World} {A:Around} {K:W.Frag} {D f:Addr} {E:Value->Shared->Prop}
theorem BR {h:Heap} {g:Array GenState} {d:Drawn} {t:Nat} {os:OsState} {us:List Value} {Q:Fin->Shared->Prop} (X:K.In h) (hx:Ww K D=true)
  (hi:PySem.W.findIn K (.ref D) "__init__"=some (some (.ref f))) (hf:PySem.W.typeIn K (.ref f)=some (.type "function")) (hl:us.length<=sizeLine)
  (k:wpAny (model prog w) A (call (.ref f) (.ref (h.objs.size+1) :: us)) (fun r s'=>r= .none/\Q (.done (.ret (.ref (h.objs.size+1)))) s') E
   ⟨(h.push {cls:=.type "tuple",data:=.seq us.toArray}).push (gG D none #[.ref h.objs.size,.none,.none,.none,.bool false,.none]),g,d,t,os⟩):
  wpAny (model prog w) A (Builtin.«type.__call__» ⟨.ref D :: us,[]⟩) Q E ⟨h,g,d,t,os⟩:=by
 obtain ⟨nm,qn,N,bs,bm,sn,sub,ab,col,dd,k0,k1,k2,k3,k5,lk0,tl⟩:=wF hx
 have T:=tl h X
 have hD:=X _ _ lk0
 have L3:=Z9 (M:=model prog w) X hi
 have L4:=PySem.W.bind_fn (M:=model prog w) X (.ref (h.objs.size+1)) hf
 repeat (first | with_reducible refine Aab hD ?_ | with_reducible refine wpAny_madeBy_exc hD ?_ | wp_step)
 refine codeAny_call_builtin_code (Code.quiet_builtin _ F.excBase_ValueError.quiet) (wpAny_check_new_subT F.excBase_ValueError T hD (codeAny_exc_new_subT F.excBase_ValueError T hD ?_ hl))
 show wpAny _ _ _ _ _ _
 have keep:∀ b o,h.get? b=some o->((h.push {cls:=.type "tuple",data:=.seq us.toArray}).push (gG D none #[.ref h.objs.size,.none,.none,.none,.bool false,.none])).get? b=some o:=fun b o q=>Y0 _ (Y0 _ q)
 have gx:((h.push {cls:=.type "tuple",data:=.seq us.toArray}).push (gG D none #[.ref h.objs.size,.none,.none,.none,.bool false,.none])).get? (h.objs.size+1)=some (gG D none #[.ref h.objs.size,.none,.none,.none,.bool false,.none]):=by
  have:=Za (h.push {cls:=.type "tuple",data:=.seq us.toArray}) (o:=gG D none #[.ref h.objs.size,.none,.none,.none,.bool false,.none]) rfl
  rwa [Aaj] at this
 have hD1:=keep _ _ hD
 have M3:=L3.keeps keep
 have M4:=L4.keeps keep
 have cD:(Value.ref D :: bm).contains (.ref D)=true:=by simp
 unfold gG at gx M3 M4 hD1 k
 unfold isInstance
 repeat (first | with_reducible refine Aab gx ?_ | (with_reducible refine AaP hD1 ?_;rw [cD]) | wp_step)
 show wpAny _ _ (typeLookup (.ref D) _) _ _ _
 refine M3.at ?_
 refine Zw (YS (M4.at ?_))
 dsimp only
 refine YS (ZM k (fun r s' hr=>?_) fun _ _ z=>z)
 obtain ⟨rfl,z⟩:=hr
 wp_walk
 exact z
theorem Vt {s:Shared} {us:List Value} {Q:Value->Shared->Prop} (X:K.In s.heap) (hx:Ww K D=true)
  (hi:PySem.W.findIn K (.ref D) "__init__"=some (some (.ref f))) (hf:PySem.W.typeIn K (.ref f)=some (.type "function")) (hl:us.length<=sizeLine)
  (k:wpAny (model prog w) (A.under (.builtin "type.__call__" ⟨.ref D :: us,[]⟩)) (call (.ref f) (.ref (s.heap.objs.size+1) :: us)) (fun r s'=>r= .none/\Q (.ref (s.heap.objs.size+1)) s') E
   {s with heap:=(s.heap.push {cls:=.type "tuple",data:=.seq us.toArray}).push (gG D none #[.ref s.heap.objs.size,.none,.none,.none,.bool false,.none])}):
  wpAny (model prog w) A (call (.ref D) us) Q E s:=by
 obtain ⟨h,g,d,t,os⟩:=s
 obtain ⟨nm,qn,N,bs,bm,sn,sub,ab,col,dd,k0,k1,k2,k3,k5,lk0,tl⟩:=wF hx
 have hD:=X _ _ lk0
 have f1:=tc_lookup
 have f2:=tc_bind (.ref D)
 have hT:(⟨h,g,d,t,os⟩:Shared).TypeIs (.ref D) "type":=⟨_,hD,rfl⟩
 refine AaB (codeAny_of_tree ?_)
 show wpAny _ _ (callAny (.ref D) _) _ _ _
 repeat (any_goals (first | assumption | with_reducible refine Aab hD ?_ | wp_step))
 refine ⟨rfl,codeAny_call_builtin_at (Code.quiet_builtin _ (by trivial)) entry_typeCall (wpAny_check_type_call_sub hD (BR X hx hi hf hl ?_))⟩
 exact k
end
def ur (x C dx:Addr):HO:=.ext fun h=>∃ vs,h.get? x=some (gG C (some dx) vs)/\vs[2]?=some .none
def lH (x C:Addr):HO:=.ext fun h=>∃ t,h.get? x=some (gG C none #[.ref t,.none,.none,.none,.bool false,.none])
theorem Gf {P:Program} {w:World} {H:Hp} {h:Heap} {x C dx:Addr} {vs:Array Value} (e:h.get? x=some (gG C (some dx) vs)) (h2:vs[2]?=some .none):ObjOk P w H h x (ur x C dx):=
 ⟨⟨vs,e,h2⟩,⟨_,e⟩,fun h1 h2 ⟨vs,e,z⟩ k=>⟨vs,k _ e,z⟩⟩
theorem Gg {P:Program} {w:World} {H:Hp} {h:Heap} {x C dx:Addr} (ok:HOk P w H h) (e:H x=some (ur x C dx)):∃ vs,h.get? x=some (gG C (some dx) vs)/\vs[2]?=some .none:=(ok _ _ e).1
structure Head (X:Cx) (pins:List (Addr×Obj)) (H:Hp) (x C dx T:Addr) (h:Heap):Prop where
 obj:∃ vs,h.get? x=some (gG C (some dx) vs)/\vs[1]?=some (.ref T)/\vs[2]?=some .none
 tb:Ir h T
 fp:qM X pins H T
 tr:H x=some (ur x C dx)
theorem Head.ne {X:Cx} {pins:List (Addr×Obj)} {H:Hp} {x C dx T:Addr} {h:Heap} (a:Head X pins H x C dx T h):T≠x:=fun z=>by
 have:=a.fp.1
 rw [z,a.tr] at this;cases this
def Fly (X:Cx) (pins:List (Addr×Obj)) (H:Hp) (x C dx:Addr) (h:Heap):Prop:=
 H x=some (ur x C dx)/\((∃ vs,h.get? x=some (gG C (some dx) vs)/\vs[1]?=some .none/\vs[2]?=some .none)\/∃ T,Head X pins H x C dx T h)
section
variable {X:Cx} {pins:List (Addr×Obj)} {U:St} {H:Hp} {s:Shared} {x C dx:Addr} {h':Heap} {T:Addr} {hd:Option Addr}
theorem Inv.noted {fs:List Addr} (I:Inv X pins U H s) (hx:H x=some (ur x C dx)) (hh:∀ b,hd=some b->qM X pins H b) (hf:∀ b∈fs,b∈X.env.locals :: X.fs) (N:Ge fs x C (some dx) hd s.heap h' T):Inv X pins U H {s with heap:=h'}:=by
 obtain ⟨m,⟨oL,esL,epL,hoL,rL⟩,_⟩:=id I.loc
 have fsF:∀ b∈fs,H b=none:=fun b hb=>by
  rcases Y7.mp (hf b hb) with e | hb
  ·rw [e];exact I.free
  ·obtain ⟨_,o,ho,_⟩:=I.ok.funs.mem hb
   exact I.base.free b o ho (I.ok.frf b hb) fun z=>I.ok.exfs b z hb
 have nx:∀ b,H b=none->b≠x:=fun b n z=>by rw [z,hx] at n;cases n
 have hdF:∀ b,hd=some b->H b=none:=fun b e=>(hh b e).1
 have mem:∀ b,b ∉ hd.toList->some b≠hd:=fun b nb z=>nb (by rw [← z];simp)
 refine I.step (g':=s.gens) (d':=s.drawn) (t':=s.toks) (ch:=hd.toList) (fun b hb=>?_) (fun b o hL hb hc e n=>?_) (fun b o hL hb hc e n=>?_) (fun _ _ _ _ n=>n) (fun b o hc e=>?_) (fun _ _ e=>e) (fun _ _ _ e=>e) (fun b ps e=>⟨#[],by rw [e];simp⟩) (fun m hm=>?_) (fun b u e=>?_) I.bare
 ·have e:hd=some b:=by cases hd <;> simp_all
  obtain ⟨_,a2,_,a4,a5,a6⟩:=hh b e
  exact ⟨a4,a2,a5,a6⟩
 ·refine N.keep b o (nx b n) (mem b hc) (fun z=>?_) e
  rcases Y7.mp (hf b z) with q | q
  ·exact hL q
  ·exact hb q
 ·exact N.slot b o (nx b n) (mem b hc) e
 ·by_cases q:b=x
  ·obtain ⟨vs,z,_⟩:=N.obj
   exact ⟨_,by rw [q];exact z⟩
  ·obtain ⟨sl,z⟩:=N.slot b o q (mem b hc) e
   exact ⟨_,z⟩
 ·obtain ⟨o,es,ep,ho,r⟩:=hm
  obtain ⟨sl,z⟩:=N.slot _ o (nx _ I.free) (fun q=>(hh _ q.symm).2.1 rfl) ho
  exact ⟨_,es,ep,z,r⟩
 ·by_cases q:b=x
  ·subst q
   rw [hx] at e;cases e
   obtain ⟨vs,z,_,z2⟩:=N.obj
   exact Gf z z2
  ·refine (I.hok b u e).stay (fun c v hc z=>?_) (fun _ q=>q) fun _ _ q=>q
   have tc:∃ u,H c=some u:=by
    rcases hc with rfl | hc
    ·exact ⟨_,e⟩
    ·exact ⟨_,hc⟩
   obtain ⟨uc,tc⟩:=tc
   refine N.keep c v (fun zz=>?_) (fun zz=>?_) (fun zz=>?_) z
   ·rcases hc with rfl | hc
    ·exact q zz
    ·rw [zz,hx] at hc;cases hc
   ·rw [hdF c zz.symm] at tc;cases tc
   ·rw [fsF c zz] at tc;cases tc
theorem BV {A:Around} {E:Value->Shared->Prop} {Q:Unit->Shared->Prop} (I:Inv X pins U H s) (hst:X.stack=X.env :: X.outer) (hfr:X.env.frame=some X.env.locals) (hA:A.frames=some X.stack) (F:Fly X pins H x C dx s.heap)
  (k:∀ h' T,Inv X pins U H {s with heap:=h'}->Head X pins H x C dx T h'->Q () {s with heap:=h'}):wpAny (model X.prog X.w) A (noteFrame (.ref x) X.env) Q E s:=by
 have ff:s.heap.FunFrames X.base (X.env :: X.outer):=hst ▸ I.stack
 have sub:∀ b∈Qv (X.env :: X.outer),b∈X.env.locals :: X.fs:=fun b hb=>I.stkSub b (by rw [hst];exact hb)
 have nf:∀ b u,H b=some u->b ∉ Qv (X.env :: X.outer):=fun b u e z=>by
  rw [I.stkFree b (by rw [hst];exact z)] at e;cases e
 obtain ⟨hx,⟨vs,e,h1⟩ | ⟨T0,hT⟩⟩:=F
 ·refine XJ (hst ▸ hA) ff hfr e h1 (nf x _ hx) fun h' T N=>?_
  have J:=I.noted hx (fun b z=>by cases z) sub N
  refine k h' T J ⟨N.obj,N.tb,?_,hx⟩
  have zT:s.heap.objs.size<=T:=by rcases N.new with z | z;exact z;cases z
  exact I.fpOk zT (I.hok.fresh zT)
 ·obtain ⟨vs,e,h1⟩:=hT.obj
  refine XM (hst ▸ hA) ff hfr e h1 hT.tb hT.ne (nf x _ hx) (fun z=>?_) fun h' T N=>?_
  ·rcases Y7.mp (sub T0 z) with q | q
   ·exact hT.fp.2.1 q
   ·exact hT.fp.2.2.1 q
  ·have J:=I.noted hx (fun b z=>by cases z;exact hT.fp) sub N
   refine k h' T J ⟨N.obj,N.tb,?_,hx⟩
   rcases N.new with z | z
   ·exact I.fpOk z (I.hok.fresh z)
   ·cases z;exact hT.fp
theorem sX {A:Around} {E:Value->Shared->Prop} {Q:Unit->Shared->Prop} (I:Inv X pins U H s) (F:Head X pins H x C dx T s.heap)
  (k:∀ h',Inv X pins U H {s with heap:=h'}->Head X pins H x C dx T h'->Q () {s with heap:=h'}):wpAny (model X.prog X.w) A (setFlight (.ref x) none) Q E s:=by
 obtain ⟨vs,e,h1⟩:=F.obj
 refine XN e h1 F.tb F.ne fun h' N=>?_
 exact k h' (I.noted F.tr (fun b z=>by cases z;exact F.fp) (fun b z=>absurd z (by simp)) N) ⟨N.obj,N.tb,F.fp,F.tr⟩
def Iu (P:Program) (w:World):HF:=fun outer H s E e s'=>∃ x C dx T H',e= .ref x/\s'.os=s.os/\AllBare s'.gens/\Un (frs outer) [] H H' s.heap s'.heap/\HOk P w H' s'.heap/\H' x=some (ur x C dx)/\H' T=none/\s.heap.objs.size<=T/\
 (∃ vs,s'.heap.get? x=some (gG C (some dx) vs)/\vs[1]?=some (.ref T)/\vs[2]?=some .none)/\Ir s'.heap T/\E (.ref C) (some x) H'
def XE (X:Cx) (pins:List (Addr×Obj)) (R:St->XK) (e:Value) (s':Shared):Prop:=∃ x C dx U H',e= .ref x/\Inv X pins U H' s'/\Fly X pins H' x C dx s'.heap/\R U (.ref C) (some x) H'
theorem Gh {R:St->XK} {e:Value} {s':Shared} (I:Inv X pins U H s) (c:Iu X.prog X.w X.stack H s (R U) e s'):XE X pins R e s':=by
 obtain ⟨x,C,dx,T,H',rfl,os,bare,un,hok,tx,tT,zT,ob,tb,r⟩:=c
 obtain ⟨hh,g,d,t,os'⟩:=s'
 obtain rfl:os'=s.os:=os
 have J:=I.call (h':=hh) (g':=g) (d':=d) (t':=t) (ch:=[]) un hok bare (fun b z=>absurd z (by simp))
 exact ⟨x,C,dx,U,H',rfl,J,⟨tx,.inr ⟨T,ob,tb,I.fpOk zT tT,tx⟩⟩,r⟩
def jO (X:Cx) (R:St->XK):Prop:=∀ (pins:List (Addr×Obj)) (e:Value) (s':Shared),XE X pins R e s'->X.xe e s'
end
theorem aO {P:Program} {w:World} {K:W.Frag} {mg:Str->Option Value} {base:Heap} {N:List Str} {qual:Str} {scope:Scope} {f:Addr} {cd:Value} {A:Around} {outer:List Env} {s:Shared} {H:Hp} {E:XK}:
  jO (pH (Iu P w) P w K mg base N qual scope f cd A outer s H E) (fun _=>E):=by
 rintro pins e s' ⟨x,C,dx,U,H',he,I,F,r⟩
 subst he
 show wpAny _ _ (leaving _ _) _ _ _
 unfold leaving
 refine YS (BV (X:=pH (Iu P w) P w K mg base N qual scope f cd A outer s H E) I rfl rfl I.ok.frames F fun h1 T J1 F1=>?_)
 refine sX (X:=pH (Iu P w) P w K mg base N qual scope f cd A outer s H E) J1 F1 fun h2 J2 F2=>?_
 refine ⟨x,C,dx,T,H',rfl,J2.os,J2.bare,J2.base,J2.hok,F2.tr,F2.fp.1,?_,F2.obj,F2.tb,r⟩
 rcases F2.fp.2.2.2.1 with z | z
 ·exact absurd (show T∈([]:List Addr) from z) (by simp)
 ·exact z
def m9 (d:Addr) (fs:List (Str×V)):HO:=.ext fun h=>∃ mA,h.Ns1 d mA/\∀ f,RelO (fs.lookup f) (mA f)
theorem zQ {P:Program} {w:World} {H:Hp} {h:Heap} {d:Addr} {fs:List (Str×V)} {mA:Str->Option Value} (n:h.Ns1 d mA) (r:∀ f,RelO (fs.lookup f) (mA f)):ObjOk P w H h d (m9 d fs):=by
 refine ⟨⟨mA,n,r⟩,let ⟨o,_,_,e,_⟩:=n;⟨o,e⟩,fun h1 h2 ⟨m,n,r⟩ k=>⟨m,?_,r⟩⟩
 obtain ⟨o,es,ep,e,q⟩:=n
 exact ⟨o,es,ep,k _ e,q⟩
theorem vM {P:Program} {w:World} {H:Hp} {h:Heap} {d:Addr} {fs:List (Str×V)} (ok:HOk P w H h) (e:H d=some (m9 d fs)):∃ mA,h.Ns1 d mA/\∀ f,RelO (fs.lookup f) (mA f):=(ok _ _ e).1
def iJ (x C d:Addr):HO:=.ext fun h=>∃ t,h.get? x=some (gG C (some d) #[.ref t,.none,.none,.none,.bool false,.none])
theorem Iv {P:Program} {w:World} {H:Hp} {h:Heap} {x C d t:Addr} (e:h.get? x=some (gG C (some d) #[.ref t,.none,.none,.none,.bool false,.none])):ObjOk P w H h x (iJ x C d):=
 ⟨⟨t,e⟩,⟨_,e⟩,fun h1 h2 ⟨t,e⟩ k=>⟨t,k _ e⟩⟩
theorem ut {P:Program} {w:World} {H:Hp} {h:Heap} {x C d:Addr} (ok:HOk P w H h) (e:H x=some (iJ x C d)):∃ t,h.get? x=some (gG C (some d) #[.ref t,.none,.none,.none,.bool false,.none]):=(ok _ _ e).1
def iz:List Value->Bool
 | [.type a,.type b,.type c,.type d]=>a == "ValueError" && b == "Exception" && c == "BaseException" && d == "object"
 | .ref _ :: r=>iz r
 | _=>false
theorem uR {l:List Value} (e:iz l=true):(∃ a r,l= .ref a :: r/\iz r=true)\/l=XQ:=by
 unfold iz at e
 split at e
 ·simp only [Zb,Aao] at e
  obtain ⟨⟨⟨rfl,rfl⟩,rfl⟩,rfl⟩:=e
  exact .inr rfl
 ·exact .inl ⟨_,_,rfl,e⟩
 ·cases e
theorem uT (self:Value):∀ (l:List Value),iz l=true->refuseLoop self "__setattr__" l=pure ()
 | [],e=>by cases e
 | v :: r,e=>by
  rcases uR e with ⟨a,r',q,e'⟩ | q
  ·cases q
   rw [refuseLoop_ref]
   exact uT self r e'
  ·rw [q]
   exact F.store_ValueError.passes self
theorem wG:∀ (l:List Value),iz l=true->l.contains (.type "object")=true/\l.contains (.type "BaseException")=true
 | [],e=>by cases e
 | v :: r,e=>by
  rcases uR e with ⟨a,r',q,e'⟩ | q
  ·cases q
   obtain ⟨h1,h2⟩:=wG r e'
   exact ⟨by rw [AaE,h1,Bool.or_true],by rw [AaE,h2,Bool.or_true]⟩
  ·rw [q]
   decide
def Vu (K:W.Frag) (C:Addr):Bool:=Ww K C && (PySem.W.clsIn K C).any (fun cd=>iz cd.mro && cd.hasDict) && PySem.W.findIn K (.ref C) "__setattr__" == some (some (.builtin "object.__setattr__")) &&
 PySem.W.findIn K (.ref C) "__getattribute__" == some (some (.builtin "BaseException.__getattribute__")) && PySem.W.findIn K (.ref C) "__getattr__" == some none
structure XCls (K:W.Frag) (C:Addr):Prop where
 xi:Ww K C=true
 ov:∃ cd,PySem.W.clsIn K C=some cd/\iz cd.mro=true/\cd.hasDict=true
 sa:PySem.W.findIn K (.ref C) "__setattr__"=some (some (.builtin "object.__setattr__"))
 ga:PySem.W.findIn K (.ref C) "__getattribute__"=some (some (.builtin "BaseException.__getattribute__"))
 gh:PySem.W.findIn K (.ref C) "__getattr__"=some none
theorem Qw {K:W.Frag} {C:Addr} (h:Vu K C=true):XCls K C:=by
 unfold Vu at h
 simp only [Zb,Aao] at h
 obtain ⟨⟨⟨⟨h1,h2⟩,h3⟩,h4⟩,h5⟩:=h
 obtain ⟨cd,a,b⟩:=PySem.W.any_some h2
 simp only [Zb] at b
 exact ⟨h1,⟨cd,a,b.1,b.2⟩,h3,h4,h5⟩
theorem Qx {l:List Value} (e:iz l=true):l.isEmpty=false:=by
 cases l with
 | nil=>cases e
 | cons _ _=>rfl
section
variable {prog:Program} {w:World} {A:Around} {s:Shared} {K:W.Frag} {x C:Addr} {R:Result->Shared->Prop}
theorem XCls.mro {c:Value} {b:Bool} (k:XCls K C) (h:∀ cd,PySem.W.clsIn K C=some cd->iz cd.mro=true->cd.mro.contains c=b):PySem.W.mroIn K C c=some b:=by
 obtain ⟨cd,a,o,_⟩:=k.ov
 unfold PySem.W.mroIn
 rw [a,Option.bind_some,if_neg (by rw [Qx o];decide),h cd a o]
theorem XCls.isObj (k:XCls K C):PySem.W.mroIn K C (.type "object")=some true:=k.mro fun cd _ o=>(wG _ o).1
theorem XCls.isExc (k:XCls K C):PySem.W.mroIn K C (.type "BaseException")=some true:=k.mro fun cd _ o=>(wG _ o).2
theorem Sh {ox:Obj} {od:Option Obj} {name:Str} {tk:Tok} {v:Value} (X:K.In s.heap) (I:PySem.W.InstAt s.heap x ox C od) (c:XCls K C) (ht:NoAttr K C name)
  (h:wpAny (model prog w) A.in1 (Builtin.ObjectAttr.storeInOwnDict (.ref x) (.ref C) (.str name tk) name v false)
   (fun fin s'=>match fin with | .done f=>R (.ok f) s' | .again c'=>c'.quiet=true/\codeAny (model prog w) A c' R s') (fun e s'=>R (.error e) s') s):
  codeAny (model prog w) A (.call (.builtin "object.__setattr__") ⟨[.ref x,.str name tk,v],[]⟩) R s:=by
 obtain ⟨cd,hc,ho,_⟩:=c.ov
 have sub:PySem.W.Looks (model prog w) s.heap (isInstance (.ref x) (.type "object")) true:=I.type.andThen (PySem.W.looks_mroIn X c.isObj)
 refine Aae F.store_object.slot.plain F.store_object.entry (@PySem.W.check_slot (model prog w) _ _ s "object.__setattr__" "object" "__setattr__" (.ref x) [.str name tk,v] [] _ F.store_object.kind F.store_object.split sub (F.store_object.args (.ref x) (.str name tk) v) ?_)
 have hm:PySem.W.Looks (model prog w) s.heap (mroOf (.ref C)) cd.mro:=(PySem.W.looks_clsIn X hc).andThen .now
 have L3:PySem.W.Looks (model prog w) s.heap (Builtin.ObjectAttr.storeTaker? none) none:=.now
 rw [PySem.W.osa_eq,refuse_eq]
 refine YS (YS (I.type.here (YS (hm.here ?_))))
 rw [uT _ _ ho]
 refine YX (YS (I.type.here (YS ((Z9 X ht).here (YS (L3.here ?_))))))
 exact h
end
theorem Mf {H:Hp} {d x:Addr} {a b c:HO} (n:d≠x):upd (upd (upd H d a) x b) d c=upd (upd H x b) d c:=by
 funext y
 unfold upd
 by_cases h:y=d
 ·simp [h]
 ·simp [h]
section
variable {X:Cx} {pins:List (Addr×Obj)} {U:St} {H:Hp} {s:Shared} {x C d:Addr} {fs:List (Str×V)} {f:Str} {v y:V} {u:Value} {A:Around} {E:Value->Shared->Prop}
theorem XR {Q:Unit->Shared->Prop} (I:Inv X pins U H s) (e:H x=some (lH x C)) (c:XCls X.K C) (n:NoAttr X.K C f) (ry:RelV y u)
  (h:∀ s' d,H d=none->d≠x->Inv X pins U (upd (upd H x (iJ x C d)) d (m9 d [(f,y)])) s'->Q () s'):wpAny (model X.prog X.w) A (setAttr (.ref x) f u) Q E s:=by
 obtain ⟨⟨t,hx⟩,-,-⟩:ObjOk X.prog X.w H s.heap x (lH x C):=I.hok x _ e
 obtain ⟨cd,hc,ho,hd⟩:=c.ov
 have J:PySem.W.InstAt s.heap x (gG C none #[.ref t,.none,.none,.none,.bool false,.none]) C none:=⟨hx,rfl,rfl,True.intro⟩
 refine PySem.W.set_plain I.kIn J c.sa (Sh (s:={s with toks:=s.toks+1}) I.kIn J c n ?_)
 refine YS (YX (YS (YS (Aai hx (YS ((PySem.W.looks_clsIn (M:=model X.prog X.w) I.kIn hc).here (s:={s with toks:=s.toks+1}) ?_))))))
 rw [hd]
 have hp:s.heap.objs.size≠x:=AaY (Y5 hx)
 have hx1:(s.heap.push {cls:=.type "dict",data:=.dict #[]}).get? x=some (gG C none #[.ref t,.none,.none,.none,.bool false,.none]):=Y0 _ hx
 have d1:(s.heap.push {cls:=.type "dict",data:=.dict #[]}).get? s.heap.objs.size=some {cls:=.type "dict",data:=.dict #[]}:=Za _ rfl
 have n1:∀ {hh:Heap},hh.get? s.heap.objs.size=some {cls:=.type "dict",data:=.dict #[]}->hh.Ns1 s.heap.objs.size (fun _=>none):=fun q=>Heap.Ns1.of_empty ⟨_,#[],_,q,rfl,fun e he=>absurd he (by simp),fun _=>rfl⟩
 have I1:Inv X pins U (upd H s.heap.objs.size (m9 s.heap.objs.size [])) {s with heap:=s.heap.push {cls:=.type "dict",data:=.dict #[]},toks:=s.toks+1}:=
  I.laid (t':=s.toks+1) (fun b o q=>Y0 _ q) (Y4 _) (zQ (n1 d1) fun g=>True.intro)
 refine YS (wpAny_alloc' ?_)
 refine YS (wpAny_update' hx1 ?_)
 have hx2:=Zy (fun o:Obj=>({o with dict:=some s.heap.objs.size}:Obj)) hx1 rfl
 have ot:∀ b,b≠x->((s.heap.push {cls:=.type "dict",data:=.dict #[]}).update x fun o=>{o with dict:=some s.heap.objs.size}).get? b=(s.heap.push {cls:=.type "dict",data:=.dict #[]}).get? b:=fun b hb=>Zf _ _ (Ne.symm hb)
 have e1:upd H s.heap.objs.size (m9 s.heap.objs.size []) x=some (lH x C):=(aG (Ne.symm hp)).trans e
 have I2:Inv X pins U (upd (upd H s.heap.objs.size (m9 s.heap.objs.size [])) x (iJ x C s.heap.objs.size)) {s with heap:=(s.heap.push {cls:=.type "dict",data:=.dict #[]}).update x fun o=>{o with dict:=some s.heap.objs.size},toks:=s.toks+1}:=
  I1.write (t':=s.toks+1) (x:=x) (e:=x) (by rw [e1];exact True.intro) (.inl rfl) (fun b o hb q=>(ot b hb).trans q) ⟨_,hx2⟩ (Iv hx2)
 refine YX (YS (YX (YS ?_)))
 refine wpAny_nsSet1 (n1 ((ot _ hp).trans d1)) fun h' hn' hs=>?_
 obtain ⟨oD,esD,epD,hoD,hdD,hcD⟩:=hn'.count (PySem.Within.cons f u PySem.Within.nil)
 refine YS (wpAny_lookBehind hoD (by rw [hdD];exact pastItsLine_dict (Zm hcD (by rw [Z6,List.length_nil,sizeLine_eq];omega))) ?_)
 refine YX (h _ s.heap.objs.size (I.hok.fresh (Y4 _)) hp ?_)
 rw [← Mf (a:=m9 s.heap.objs.size []) hp]
 refine I2.write (x:=s.heap.objs.size) (e:=s.heap.objs.size) (by rw [aG hp,aj];exact True.intro) (.inl rfl) (fun b o hb q=>(hs.2 b hb).trans q) ⟨_,hoD⟩ (zQ hn' fun g=>?_)
 by_cases q:g=f
 ·have qb:(g == f)=true:=Aao.mpr q
  simp only [List.lookup,qb,if_pos q]
  exact ry
 ·have qb:(g == f)=false:=Aax.mpr q
  simp only [List.lookup,qb,if_neg q]
  exact True.intro
theorem Qy {h:Heap} {P:Program} {w:World} (ok:HOk P w H h) (e:H x=some (iJ x C d)) (e2:H d=some (m9 d fs)):d≠x:=fun z=>by
 subst z
 obtain ⟨t,a⟩:=ut ok e
 obtain ⟨mA,⟨o,es,ep,b,q,_⟩,_⟩:=vM ok e2
 rw [a] at b;cases b;cases q
theorem XS {Q:Unit->Shared->Prop} (I:Inv X pins U H s) (e:H x=some (iJ x C d)) (e2:H d=some (m9 d fs)) (hl:fs.length < 1000) (c:XCls X.K C) (n:NoAttr X.K C f) (ry:RelV y u)
  (h:∀ s',Inv X pins U (upd H d (m9 d (lA f y fs))) s'->Q () s'):wpAny (model X.prog X.w) A (setAttr (.ref x) f u) Q E s:=by
 have ne:=Qy I.hok e e2
 obtain ⟨vs,hx⟩:=ut I.hok e
 obtain ⟨mA,nA,rA⟩:=vM I.hok e2
 obtain ⟨cd,hc,ho,hd⟩:=c.ov
 have J:PySem.W.InstAt s.heap x (gG C (some d) #[.ref vs,.none,.none,.none,.bool false,.none]) C (some (Classical.choose nA)):=⟨hx,rfl,rfl,let ⟨_,_,q,_⟩:=Classical.choose_spec nA;q⟩
 refine PySem.W.set_plain I.kIn J c.sa (Sh (s:={s with toks:=s.toks+1}) I.kIn J c n ?_)
 refine YS (YX (YS (YS (Aai hx (YS ((PySem.W.looks_clsIn (M:=model X.prog X.w) I.kIn hc).here (s:={s with toks:=s.toks+1}) ?_))))))
 rw [hd]
 refine YX (a:=some d) (YS (YX (YS ?_)))
 refine wpAny_nsSet1 (s:={s with toks:=s.toks+1}) nA fun h' hn' hs=>?_
 have wi:PySem.Within mA (fs.map (·.1)):=fun z hz=>by
  have r:=rA z
  cases q:fs.lookup z with
  | none=>rw [q] at r;exact absurd (RelO.none_of r) hz
  | some a=>exact ZP.mpr ⟨(z,a),ZL q,rfl⟩
 obtain ⟨oD,esD,epD,hoD,hdD,hcD⟩:=hn'.count (PySem.Within.cons f u wi)
 refine YS (wpAny_lookBehind hoD (by rw [hdD];exact pastItsLine_dict (Zm hcD (by rw [Z6,Zj,sizeLine_eq];omega))) ?_)
 refine YX (h _ ?_)
 refine I.write (x:=d) (e:=d) (by rw [e2];exact True.intro) (.inl rfl) (fun b o hb q=>(hs.2 b hb).trans q) ⟨_,hoD⟩ (zQ hn' fun g=>?_)
 rw [pG]
 by_cases q:g=f
 ·rw [if_pos q,if_pos q];exact ry
 ·rw [if_neg q,if_neg q];exact rA g
theorem getx {b:Bool} {Q:Value->Shared->Prop} (I:Inv X pins U H s) (e:H x=some (ur x C d)) (e2:H d=some (m9 d fs)) (c:XCls X.K C) (n:NoAttr X.K C f) (l:fs.lookup f=some v)
  (h:∀ u s',Inv X pins U H s'->RelV v u->Q u s'):wpAny (model X.prog X.w) A (getAttr (.ref x) f b) Q E s:=by
 obtain ⟨vs,hx,_⟩:=Gg I.hok e
 obtain ⟨mA,nA,rA⟩:=vM I.hok e2
 obtain ⟨cd,hc,ho,hd⟩:=c.ov
 obtain ⟨od,hod,lk⟩:=uh nA
 obtain ⟨u,hu,ru⟩:=RelO.some_of (v:=v) (o:=mA f) (by rw [← l];exact rA f)
 have J:PySem.W.InstAt s.heap x (gG C (some d) vs) C (some od):=⟨hx,rfl,rfl,hod⟩
 have hf:PySem.W.findObj X.K C (some od) f=some (.value u):=PySem.W.findObj_own (by unfold PySem.W.hasDictIn;rw [hc];exact hd) n rfl (by rw [lk,hu])
 have Z:=h u {s with toks:=s.toks+1} (I.tok _) ru
 have KI:=I.kIn
 obtain ⟨hh,g,dr,t,os⟩:=s
 have L0:=J.type (M:=model X.prog X.w)
 have L1:=Z9 (M:=model X.prog X.w) KI c.ga
 have L2:=Z9 (M:=model X.prog X.w) KI c.gh
 have L3:=PySem.W.looks_find (M:=model X.prog X.w) KI J hf
 have sub:PySem.W.Looks (model X.prog X.w) hh (isInstance (.ref x) (.type "BaseException")) true:=L0.andThen (PySem.W.looks_mroIn KI c.isExc)
 have hb0:(onTheHeap (Value.ref C) && Value.builtin "BaseException.__getattribute__" == Value.builtin "object.__getattribute__")=false:=by
  rw [show (Value.builtin "BaseException.__getattribute__" == Value.builtin "object.__getattribute__")=false from by trivial,Bool.and_false]
 unfold getAttr getAttrBy
 refine YS (wpAny_mkText (Zw (YS (L0.at (YS (L1.at ?_))))))
 dsimp only
 rw [hb0]
 rw [if_neg Y6]
 unfold getAttrByItsOwn hookBefore
 refine YS ?_
 rw [if_pos (show onTheHeap (Value.ref C)=true from rfl)]
 refine L2.at ?_
 refine YS (Abk (Zw ?_))
 have hb1:(b && onTheHeap (Value.builtin "BaseException.__getattribute__"))=false:=by cases b <;> rfl
 unfold callGetattribute
 rw [hb1,if_neg Y6]
 unfold boundAndCalled
 refine YS (Aaf (F.attrBase_ValueError.ga.bind (.ref x)) ?_)
 refine AaB (Aae F.attrBase_ValueError.ga.plain F.entry_bexc_ga (@PySem.W.check_slot (model X.prog X.w) _ _ ⟨hh,g,dr,t+1,os⟩ "BaseException.__getattribute__" "BaseException" "__getattribute__" (.ref x) [.str f t] [] _ (by trivial) (by trivial) sub (F.args_bexc_ga (.ref x) (.str f t)) ?_))
 refine YS (YX (YS (YX (YS (L0.at (YS (L3.at ?_)))))))
 refine YX ?_
 show wpAny _ _ (handedOut u) _ _ _
 rw [PySem.W.handedOut_of (yo ru)]
 exact YX Z
end
def Gi (K:W.Frag) (C:Addr):Bool:=Vu K C && PySem.W.findIn K (.ref C) "__class__" == some (some (.builtin "object.__class__")) && PySem.W.specialIn K (.builtin "object.__class__") "__get__" == some (some (.builtin "getset_descriptor.__get__")) && PySem.W.takesIn K (.builtin "object.__class__") == some true
structure O3 (K:W.Frag) (C:Addr):Prop where
 cls:XCls K C
 ca:PySem.W.findIn K (.ref C) "__class__"=some (some (.builtin "object.__class__"))
 cg:PySem.W.specialIn K (.builtin "object.__class__") "__get__"=some (some (.builtin "getset_descriptor.__get__"))
 ct:PySem.W.takesIn K (.builtin "object.__class__")=some true
theorem Mg {K:W.Frag} {C:Addr} (h:Gi K C=true):O3 K C:=by
 unfold Gi at h
 simp only [Zb,Aao] at h
 exact ⟨Qw h.1.1.1,h.1.1.2,h.1.2,h.2⟩
section
variable {prog:Program} {w:World} {A:Around} {E:Value->Shared->Prop} {s:Shared} {K:W.Frag} {x C:Addr} {ox od:Obj}
theorem Iw {Q:Option Value->Shared->Prop} (c:O3 K C) (KI:K.In s.heap) (J:PySem.W.InstAt s.heap x ox C (some od)) (h:Q (some (.ref C)) {s with toks:=s.toks+1}):wpAny (model prog w) A (getAttr? (.ref x) "__class__") Q E s:=by
 obtain ⟨cd,hc,ho,hd⟩:=c.cls.ov
 have hf:PySem.W.findObj K C (some od) "__class__"=some (.bind (.builtin "getset_descriptor.__get__") (.builtin "object.__class__")):=PySem.W.findObj_data (by rw [hc];rfl) c.ca c.cg c.ct
 obtain ⟨hh,g,dr,t,os⟩:=s
 have L0:=J.type (M:=model prog w)
 have L1:=Z9 (M:=model prog w) KI c.cls.ga
 have L2:=Z9 (M:=model prog w) KI c.cls.gh
 have L3:=PySem.W.looks_find (M:=model prog w) KI J hf
 have sub:PySem.W.Looks (model prog w) hh (isInstance (.ref x) (.type "BaseException")) true:=L0.andThen (PySem.W.looks_mroIn KI c.cls.isExc)
 have hb0:(onTheHeap (Value.ref C) && Value.builtin "BaseException.__getattribute__" == Value.builtin "object.__getattribute__")=false:=by
  rw [show (Value.builtin "BaseException.__getattribute__" == Value.builtin "object.__getattribute__")=false from by trivial,Bool.and_false]
 unfold getAttr? getAttrBy? getAttrBy
 refine YS (wpAny_mkText (YS (Abk (Zw (YS (L0.at (YS (L1.at ?_))))))))
 dsimp only
 rw [hb0,if_neg Y6]
 unfold getAttrByItsOwn hookBefore
 refine YS ?_
 rw [if_pos (show onTheHeap (Value.ref C)=true from rfl)]
 refine L2.at ?_
 refine YS (Abk (Zw ?_))
 unfold callGetattribute
 rw [if_neg (show ¬ ((false && onTheHeap (Value.builtin "BaseException.__getattribute__"))=true) from by decide)]
 unfold boundAndCalled
 refine YS (Aaf (F.attrBase_ValueError.ga.bind (.ref x)) ?_)
 refine AaB (Aae F.attrBase_ValueError.ga.plain F.entry_bexc_ga (@PySem.W.check_slot (model prog w) _ _ ⟨hh,g,dr,t+1,os⟩ "BaseException.__getattribute__" "BaseException" "__getattribute__" (.ref x) [.str "__class__" t] [] _ (by trivial) (by trivial) sub (F.args_bexc_ga (.ref x) (.str "__class__" t)) ?_))
 refine YS (YX (YS (YX (YS (L0.at (YS (L3.at ?_)))))))
 show wpAny _ _ (holding [.builtin "object.__class__"] (call (.builtin "getset_descriptor.__get__") [.builtin "object.__class__",.ref x,.ref C]) >>=ret) _ _ _
 refine YS (Zw (AaB (PySem.W.class_get (s:=⟨hh,g,dr,t+1,os⟩) KI J c.cls.isObj ?_)))
 refine YX ?_
 show wpAny _ _ (handedOut (.ref C)) _ _ _
 rw [PySem.W.handedOut_of rfl]
 exact YX (YX h)
theorem Mh (c:O3 K C):PySem.W.KitX K (.ref x) (.ref C) (fun h=>PySem.W.InstAt h x ox C (some od)) where
 ty:=fun _ _ _ I=>I.type
 it:=fun _ _ X _=>by
  obtain ⟨cd,hc,_⟩:=c.cls.ov
  unfold PySem.W.clsIn at hc
  split at hc
  ·rename_i a1 a2 a3 a4 ho
   intro A1 Q1 E1 s1 k q
   unfold isType loadHead
   exact YS (Aai (k _ _ (X _ _ ho)) (YX q))
  ·cases hc
 ne:=fun h tp dd its n sl X htp=>by
  obtain ⟨cd,hc,_⟩:=c.cls.ov
  refine Bool.eq_false_iff.mpr fun q=>?_
  obtain rfl:C=tp:=Value.ref.inj (Aao.mp q)
  unfold PySem.W.clsIn at hc
  split at hc
  ·rename_i a1 a2 a3 a4 ho
   cases (X _ _ ho).symm.trans htp
  ·cases hc
 ca:=fun X I k=>Iw c X I k
end
def IsX (H:Hp) (x C:Addr) (fs:List (Str×V)):Prop:=∃ d,H x=some (ur x C d)/\H d=some (m9 d fs)
def XX:V->Option Value
 | .ty T=>some (.type T)
 | .ref C=>some (.ref C)
 | _=>none
theorem Mi {v:V} {u c:Value} (e:XX v=some c) (r:RelV v u):u=c:=by
 cases v <;> first | cases e;exact r | cases e
def Iz:List V->Option (List Value)
 | []=>some []
 | v :: r=>match XX v,Iz r with
  | some c,some l=>some (c :: l)
  | _,_=>none
theorem Gj:∀ {vs:List V} {us cs:List Value},Iz vs=some cs->Vals vs us->us=cs
 | [],us,cs,e,r=>by cases r;cases e;rfl
 | v :: vs,us,cs,e,r=>by
  cases r with
  | cons r1 r2=>
   unfold Iz at e
   split at e
   ·rename_i c l h1 h2
    cases e
    rw [Mi h1 r1,Gj h2 r2]
   ·cases e
def yJ (K:W.Frag):List V->Hp->VK->Prop:=fun xs H Q=>∃ x t b,(TyOf K H x t\/∃ a C fs,x= .ref a/\IsX H a C fs/\O3 K C/\t= .ref C)/\
 ((∃ v c,xs=[x,v]/\XX v=some c/\PySem.W.kitOne K t c=some b)\/(∃ p vs cs,xs=[x,.ref p]/\H p=some (.tup vs)/\Iz vs=some cs/\PySem.W.kitAny K t cs=some b))/\Q (.bl b) H
section
variable {X:Cx} {pins:List (Addr×Obj)} {U:St} {H:Hp} {s:Shared} {A:Around} {E:Value->Shared->Prop} {Q:Value->Shared->Prop} {c:Value} {b:Bool}
theorem Mj {x:V} {u t:Value} (I:Inv X pins U H s) (rx:RelV x u) (ty:TyOf X.K H x t\/∃ a C fs,x= .ref a/\IsX H a C fs/\O3 X.K C/\t= .ref C):
  ∃ φ:Heap->Prop,PySem.W.KitX X.K u t φ/\φ s.heap/\u≠.builtin "__main__.__loader__#opaque":=by
 rcases ty with ty | ⟨a,C,fs,rfl,⟨d,e1,e2⟩,c,rfl⟩
 ·cases ty with
  | non=>cases (show u=Value.none from rx);exact ⟨_,PySem.W.kitx_none,True.intro,(fun z=>nomatch z)⟩
  | bl y=>cases (show u=Value.bool y from rx);exact ⟨_,PySem.W.kitx_bool,True.intro,(fun z=>nomatch z)⟩
  | int i=>obtain ⟨t,q⟩:=(show ∃ t,u=Value.int i t from rx);cases q;exact ⟨_,PySem.W.kitx_int,True.intro,(fun z=>nomatch z)⟩
  | str y=>obtain ⟨t,q⟩:=(show ∃ t,u=Value.str y t from rx);cases q;exact ⟨_,PySem.W.kitx_str,True.intro,(fun z=>nomatch z)⟩
  | flt y=>obtain ⟨t,q⟩:=(show ∃ t,u=Value.float y t from rx);cases q;exact ⟨_,PySem.W.kitx_float,True.intro,(fun z=>nomatch z)⟩
  | @lst a xs ea=>
   cases (show u=Value.ref a from rx)
   obtain ⟨_,_,n,_,h1⟩:=(show ObjOk X.prog X.w H s.heap a (.lst xs) from I.hok a _ ea)
   exact ⟨_,PySem.W.kitx_list,⟨_,h1,rfl⟩,(fun z=>nomatch z)⟩
  | @frz a ob xs ea=>
   cases (show u=Value.ref a from rx)
   obtain ⟨_,_,_,n,_,h1⟩:=(show ObjOk X.prog X.w H s.heap a (.frz ob (.lst xs)) from I.hok a _ ea)
   exact ⟨_,PySem.W.kitx_list,⟨_,h1,rfl⟩,(fun z=>nomatch z)⟩
  | @tup a xs ea=>
   cases (show u=Value.ref a from rx)
   obtain ⟨_,_,_,p⟩:=(show ObjOk X.prog X.w H s.heap a (.tup xs) from I.hok a _ ea)
   obtain ⟨o,h1,h2,_⟩:=p
   exact ⟨_,PySem.W.kitx_tuple,⟨o,h1,h2⟩,(fun z=>nomatch z)⟩
  | @dK a kvs ea=>
   cases (show u=Value.ref a from rx)
   obtain ⟨_,_,vs,_,p⟩:=(show ObjOk X.prog X.w H s.heap a (.dK kvs) from I.hok a _ ea)
   obtain ⟨o,es,ep,h1,h2,_⟩:=p
   exact ⟨_,PySem.W.kitx_dict,⟨o,h1,h2.1⟩,(fun z=>nomatch z)⟩
  | @dT a kvs ea=>
   cases (show u=Value.ref a from rx)
   obtain ⟨_,_,xs,_,o,es,ep,h1,h2,_⟩:=(show ObjOk X.prog X.w H s.heap a (.dT kvs) from I.hok a _ ea)
   exact ⟨_,PySem.W.kitx_dict,⟨o,h1,h2.1⟩,(fun z=>nomatch z)⟩
  | @ins a C dx fs ea cl ha hn htk hm=>
   cases (show u=Value.ref a from rx)
   obtain ⟨mA,O,_⟩:=qC I.hok ea
   obtain ⟨od,J,_⟩:=O.look
   exact ⟨_,PySem.W.kitx_own (cl.get _) cl.hd ha hn htk hm,J,(fun z=>nomatch z)⟩
 ·cases (show u=Value.ref a from rx)
  obtain ⟨vs,hx,_⟩:=Gg I.hok e1
  obtain ⟨mA,nA,rA⟩:=vM I.hok e2
  obtain ⟨od,hod,lk⟩:=uh nA
  exact ⟨_,Mh (ox:=gG C (some d) vs) (od:=od) c,⟨hx,rfl,rfl,hod⟩,(fun z=>nomatch z)⟩
theorem gY {K:W.Frag} (hK:X.K=K):CallR X (.builtin "isinstance") (yJ K):=by
 subst hK
 intro pins s U H xs us Q I r h
 obtain ⟨x,t,b,ty,w,q⟩:=h
 rcases w with ⟨v,c,rfl,ec,e⟩ | ⟨p,vs,cs,rfl,ep,ec,e⟩
 ·obtain ⟨u,u2,rfl,ru,rv⟩:=vals2 r
  obtain rfl:=Mi ec rv
  obtain ⟨φ,Z,hφ,hne⟩:=Mj I ru ty
  exact Z4 Z I.kIn hφ e hne fun tk=>⟨.bl b,H,I.tok _,rfl,q⟩
 ·obtain ⟨u,u2,rfl,ru,rv⟩:=vals2 r
  cases (show u2=Value.ref p from rv)
  obtain ⟨φ,Z,hφ,hne⟩:=Mj I ru ty
  obtain ⟨_,its,rt,o,h1,h2,n,h3⟩:=(show ObjOk X.prog X.w H s.heap p (.tup vs) from I.hok p _ ep)
  obtain rfl:=Gj ec rt
  obtain ⟨oc,odd,oda,osl⟩:=o
  dsimp only at h2 h3
  subst h2 h3
  exact PySem.W.kia_tup Z I.kIn hφ h1 e hne fun tk=>⟨.bl b,H,I.tok _,rfl,q⟩
end
def Ml (P:Program) (w:World) (K:W.Frag) (mg:Str->Option Value) (base:Heap) (k:Nat) (x:Str) (ps:List Str) (sp:Sp):Prop:=
 ∃ f fd,mg x=some (.ref f)/\PySem.W.keepIn K (.ref f)=true/\Binds K fd ps []/\FnOk P w K mg base (Iu P w) k f fd ps sp
def Ei (sp:Sp) (R:St->XK) (t:TA):TE:=fun U H Q=>t U H fun vs H1=>sp vs H1 Q (R U)
theorem jg {X:Cx} (h:∀ (e:Value) (s:Shared),X.xe e s=False):jO X (fun _ _ _ _=>False):=fun _ _ _ ⟨_,_,_,_,_,_,_,_,z⟩=>z.elim
section
variable {X:Cx} {k:Nat} {f C:Addr} {fd:FuncData} {ps:List Str} {sp:Sp} {R:St->XK} {x:Str} {p pos:Pos} {e:Expr} {es:List Expr} {t:TA} {pins:List (Addr×Obj)} {U:St} {H:Hp} {s:Shared} {Q:VK} {us:List Value} {vs:List V}
theorem sY (F:FnOk X.prog X.w X.K X.mg X.base (Iu X.prog X.w) k f fd ps sp) (hr:Room k X.A) (hb:Binds X.K fd ps []) (hx:jO X R) (I:Inv X pins U H s) (r:Vals vs us) (h:sp vs H Q (R U)):
  wpAny (model X.prog X.w) X.A (call (.ref f) us) (EP X pins U Q) X.xe s:=by
 have hl:(us ++ []).length=ps.length:=by rw [ZV,← r.length];exact F.len _ _ _ _ h
 have bd:=hb s us I.kIn hl
 rw [ZV] at bd
 refine AaB (codeAny_mono (F.run X.A X.stack s H ⟨us,[]⟩ us vs Q (R U) hr I.env0 bd r h) fun rr s' hq=>?_)
 cases rr with
 | error e=>exact hx pins e s' (Gh I hq)
 | ok fl=>
  cases fl with
  | ret u=>exact I.after hq
  | next=>exact False.elim hq
  | brk=>exact False.elim hq
  | cont=>exact False.elim hq
theorem Mm (F:Ml X.prog X.w X.K X.mg X.base k x ps sp) (hr:Room k X.A) (hg:Gl X x) (hx:jO X R) (ha:PA X (e :: es) t) (hdb:(x == ("__debug__":Str))=false)
  (he:starEach (e :: es) X.env=(false,eval e X.env) :: starEach es X.env) (hpl:(backTo pos (starEach es X.env)).any (·.1)=false):PE X (.Call (.Name x p) (e :: es) [] pos) (Ei sp R t):=by
 obtain ⟨f,fd,a,b,c,d⟩:=F
 intro pins s U H Q I h
 refine ZG (lZ I hg a ?_ hdb)
 refine AaC (h₀:=X.base) I.ok.mod.kin b (dW (ha pos pins s U H _ I h) fun us s1 ⟨vs,H1,I1,r,q⟩=>⟨I1.kIn,?_⟩) he hpl
 exact sY d hr c hx I1 r q
def Mq (K:W.Frag) (ta tv:TE) (f:Str):TS:=fun D U H=>tv U H fun y H1=>ta U H1 fun x H2=>∃ a C,x= .ref a/\XCls K C/\NoAttr K C f/\
 ((H2 a=some (lH a C)/\∀ d,H2 d=none->d≠a->D.nx U (upd (upd H2 a (iJ a C d)) d (m9 d [(f,y)])))\/
  (∃ d fs,H2 a=some (iJ a C d)/\H2 d=some (m9 d fs)/\fs.length < 1000/\D.nx U (upd H2 d (m9 d (lA f y fs)))))
theorem Qz {o value:Expr} {ta tv:TE} {fn:Str} {pos':Pos} (ha:PE X o ta) (hv:PE X value tv) (hs:swapsWith value (some (.Attribute o fn pos')) pos.line X.env=pure false):PS X (.Assign [.Attribute o fn pos'] value pos) (Mq X.K ta tv fn):=by
 intro pins s U H D I h
 refine plainObj_wpAny_Assign_Attribute (dW (hv pins s U H _ I h) fun u s1 ⟨y,H1,I1,ry,q⟩=>dW (ha pins s1 U H1 _ I1 q) fun ov s2 qq0=>?_) hs
 obtain ⟨x,H2,I2,rx,a,C,ex,c,n,q2⟩:=qq0
 subst ex
 obtain rfl:ov=Value.ref a:=rx
 rcases q2 with ⟨e,q2⟩ | ⟨d,fs,e,e2,hl,q2⟩
 ·exact XR I2 e c n ry fun s3 d z1 z2 I3=>⟨U,_,I3,q2 d z1 z2⟩
 ·exact XS I2 e e2 hl c n ry fun s3 I3=>⟨U,_,I3,q2⟩
def Mr (K:W.Frag) (ta:TE) (f:Str):TE:=fun U H Q=>ta U H fun x H1=>∃ a C fs v,x= .ref a/\IsX H1 a C fs/\XCls K C/\NoAttr K C f/\fs.lookup f=some v/\Q v H1
theorem QB {ta:TE} {fn:Str} (he:PE X e ta) (hb:attributeBase e fn X.env (eval e X.env)=eval e X.env):PE X (.Attribute e fn pos) (Mr X.K ta fn):=by
 intro pins s U H Q I h
 refine FJ hb (dW (he pins s U H _ I h) fun u s1 qq0=>?_)
 obtain ⟨x,H1,I1,rx,a,C,fs,v,ex,⟨d,e1,e2⟩,c,n,l,q⟩:=qq0
 subst ex
 obtain rfl:u=Value.ref a:=rx
 exact getx I1 e1 e2 c n l fun u2 s2 I2 ru=>⟨v,H1,I2,ru,q⟩
def zR (C:Addr) (fl:List Str):Sp:=fun vs H Q E=>∃ x ws,vs= .ref x :: ws/\ws.length=fl.length/\H x=some (lH x C)/\∀ d,H d=none->d≠x->Q .non (upd (upd H x (iJ x C d)) d (m9 d (fl.zip ws)))
structure Vv (P:Program) (w:World) (K:W.Frag) (mg:Str->Option Value) (base:Heap) (k:Nat) (x:Str) (C:Addr) (fl:List Str):Prop where
 at_:mg x=some (.ref C)
 cl:O3 K C
 kp:PySem.W.keepIn K (.ref C)=true
 na:∀ f∈fl,NoAttr K C f
 run:∃ f fd ps,PySem.W.findIn K (.ref C) "__init__"=some (some (.ref f))/\PySem.W.typeIn K (.ref f)=some (.type "function")/\Binds K fd ps []/\FnOk P w K mg base HS k f fd ps (zR C fl)
def Ej (C:Addr) (fl:List Str) (R:St->XK) (t:TA):TS:=fun _ U H=>t U H fun vs H1=>vs.length=fl.length/\vs.length<=sizeLine/\∀ x H2,Same H1 H2->IsX H2 x C (fl.zip vs)->R U (.ref C) (some x) H2
theorem Vw {Q:Value->Shared->Prop} {E:Value->Shared->Prop} {fl:List Str} (M:Vv X.prog X.w X.K X.mg X.base k x C fl) (hr:Room (k+1) X.A) (I:Inv X pins U H s) (r:Vals vs us) (hl:vs.length=fl.length) (hz:vs.length<=sizeLine)
  (q:∀ a d s',H a=none->H d=none->d≠a->Inv X pins U (upd (upd (upd H a (lH a C)) a (iJ a C d)) d (m9 d (fl.zip vs))) s'->Q (.ref a) s'):wpAny (model X.prog X.w) X.A (call (.ref C) us) Q E s:=by
 obtain ⟨f,fd,ps,hi,hf,hb,F⟩:=M.run
 refine Vt I.kIn M.cl.cls.xi hi hf (by rw [← r.length];exact hz) ?_
 have I1:Inv X pins U H {s with heap:=s.heap.push {cls:=.type "tuple",data:=.seq us.toArray}}:=I.kept (t':=s.toks) fun b o e=>Y0 _ e
 have sz1:(s.heap.push {cls:=.type "tuple",data:=.seq us.toArray}).objs.size=s.heap.objs.size+1:=Aaj _ _
 have hfr:H (s.heap.objs.size+1)=none:=I.hok.fresh (Nat.le_succ _)
 have gx:((s.heap.push {cls:=.type "tuple",data:=.seq us.toArray}).push (gG C none #[.ref s.heap.objs.size,.none,.none,.none,.bool false,.none])).get? (s.heap.objs.size+1)=some (gG C none #[.ref s.heap.objs.size,.none,.none,.none,.bool false,.none]):=by
  rw [← sz1];exact Za _ rfl
 have I2:Inv X pins U (upd H (s.heap.objs.size+1) (lH (s.heap.objs.size+1) C)) {s with heap:=(s.heap.push {cls:=.type "tuple",data:=.seq us.toArray}).push (gG C none #[.ref s.heap.objs.size,.none,.none,.none,.bool false,.none])}:=
  I1.laid (t':=s.toks) (fun b o e=>Y0 _ e) (by show (s.heap.push _).objs.size<=_;rw [sz1];exact Y4 _) ⟨⟨_,gx⟩,⟨_,gx⟩,fun h1 h2 ⟨t,z⟩ kk=>⟨t,kk _ z⟩⟩
 have r2:Vals (V.ref (s.heap.objs.size+1) :: vs) (Value.ref (s.heap.objs.size+1) :: us):=.cons rfl r
 have sp0:zR C fl (V.ref (s.heap.objs.size+1) :: vs) (upd H (s.heap.objs.size+1) (lH (s.heap.objs.size+1) C)) (fun v H2=>v= .non/\∃ d,H d=none/\d≠s.heap.objs.size+1/\H2=upd (upd (upd H (s.heap.objs.size+1) (lH (s.heap.objs.size+1) C)) (s.heap.objs.size+1) (iJ (s.heap.objs.size+1) C d)) d (m9 d (fl.zip vs))) E0:=
  ⟨_,_,rfl,hl,aj,fun d hd ne=>⟨rfl,d,by rw [aG ne] at hd;exact hd,ne,rfl⟩⟩
 have hl2:((Value.ref (s.heap.objs.size+1) :: us) ++ []).length=ps.length:=by rw [ZV,← r2.length];exact F.len _ _ _ _ sp0
 have bd:=hb _ (Value.ref (s.heap.objs.size+1) :: us) I2.kIn hl2
 rw [ZV] at bd
 refine AaB (codeAny_mono (F.run _ X.stack _ _ ⟨Value.ref (s.heap.objs.size+1) :: us,[]⟩ (Value.ref (s.heap.objs.size+1) :: us) _ _ E0 (hr.make C us []) (I2.env0.make C us []) bd r2 sp0) fun rr s' hq=>?_)
 cases rr with
 | error e=>exact False.elim hq
 | ok fl=>
  cases fl with
  | ret u=>
   obtain ⟨v,H',I3,rv,ev,d,hd,ne,eH⟩:=I2.after hq
   subst ev
   rw [eH] at I3
   exact ⟨rv,q _ d s' hfr hd ne I3⟩
  | next=>exact False.elim hq
  | brk=>exact False.elim hq
  | cont=>exact False.elim hq
theorem thrown {env:Env} {C:Addr} {Q:Flow->Shared->Prop} {m:Sem Value} (hc:X.calm=true) (c:O3 X.K C) (hx:jO X R)
  (h:wpAny (model X.prog X.w) X.A m (fun v s1=>∃ x d H1,v= .ref x/\Inv X pins U H1 s1/\H1 x=some (iJ x C d)/\R U (.ref C) (some x) (upd H1 x (ur x C d))) X.xe s):
  wpAny (model X.prog X.w) X.A (raiseStmt env (some m) none) Q X.xe s:=by
 obtain ⟨nm,qn,N,bs,bm,sn,sub,ab,col,dd,k0,k1,k2,k3,k5,lk0,tl⟩:=wF c.cls.xi
 unfold raiseStmt
 refine YS (dW h fun v s1 qq0=>?_)
 obtain ⟨x,d,H1,ev,I1,e1,r1⟩:=qq0
 subst ev
 have KI:=I1.kIn
 obtain ⟨t,he⟩:=ut I1.hok e1
 have hh:X.A.handled=none:=I1.ok.hd hc
 have hcB:(Value.ref C :: bm).contains (.type "BaseException")=true:=by
  rw [AaE,(tl _ KI).hasType (show XQ.contains (.type "BaseException")=true from by decide)];rfl
 have fin:X.xe (.ref x) s1:=by
  have I2:Inv X pins U (upd H1 x (ur x C d)) s1:=I1.write (t':=s1.toks) (x:=x) (e:=x) (h':=s1.heap) (by rw [e1];exact True.intro) (.inl rfl) (fun b o _ z=>z) ⟨_,he⟩ (Gf he rfl)
  exact hx pins _ s1 ⟨x,C,d,U,_,rfl,I2,⟨aj,.inl ⟨_,he,rfl,rfl⟩⟩,r1⟩
 have hD:=KI _ _ lk0
 obtain ⟨hp,g,dr,tk,os⟩:=s1
 unfold gG at he
 repeat (first | with_reducible refine Aab he ?_ | with_reducible refine Aab hD ?_ | (with_reducible refine AaP hD ?_;rw [hcB]) | wp_step)
 exact wpAny_raiseNew_none hh fin
end
section
variable {X:Cx} {k:Nat} {C:Addr} {R:St->XK} {x:Str} {p cpos pos:Pos} {e:Expr} {es:List Expr} {t:TA} {fl:List Str}
theorem BW {H:Hp} {a d:Addr} {vs:List V} (ha:H a=none) (hd:H d=none) (ne:d≠a):Same H (upd (upd (upd (upd H a (lH a C)) a (iJ a C d)) d (m9 d (fl.zip vs))) a (ur a C d))/\
  IsX (upd (upd (upd (upd H a (lH a C)) a (iJ a C d)) d (m9 d (fl.zip vs))) a (ur a C d)) a C (fl.zip vs):=by
 refine ⟨fun b o h=>?_,d,aj,by rw [aG ne,aj]⟩
 have na:b≠a:=fun z=>by rw [z,ha] at h;cases h
 have nd:b≠d:=fun z=>by rw [z,hd] at h;cases h
 rw [aG na,aG nd,aG na,aG na]
 exact h
theorem Ms (M:Vv X.prog X.w X.K X.mg X.base k x C fl) (hr:Room (k+1) X.A) (hc:X.calm=true) (hg:Gl X x) (hx:jO X R) (ha:PA X (e :: es) t) (hdb:(x == ("__debug__":Str))=false)
  (he:starEach (e :: es) X.env=(false,eval e X.env) :: starEach es X.env) (hpl:(backTo cpos (starEach es X.env)).any (·.1)=false):PS X (.Raise (some (.Call (.Name x p) (e :: es) [] cpos)) none pos) (Ej C fl R t):=by
 intro pins s U H D I h
 rw [arm_exec_Raise]
 refine YS (wpAny_standAt (thrown (pins:=pins) (U:=U) (C:=C) hc M.cl hx (YS (dW (Q:=fun v s1=>∃ x d H1,v= .ref x/\Inv X pins U H1 s1/\H1 x=some (iJ x C d)/\R U (.ref C) (some x) (upd H1 x (ur x C d))) ?_ fun v s3 h3=>YS (wpAny_standAt (YX h3))))))
 refine ZG (lZ I hg M.at_ ?_ hdb)
 refine AaC (h₀:=X.base) I.ok.mod.kin M.kp (dW (ha cpos pins s U H _ I h) fun us s1 ⟨vs,H1,I1,r,hl,hz,q⟩=>⟨I1.kIn,?_⟩) he hpl
 refine Vw M hr I1 r hl hz fun a d s2 z1 z2 ne I2=>⟨a,d,_,rfl,I2,?_,?_⟩
 ·rw [aG (Ne.symm ne),aj]
 ·obtain ⟨w1,w2⟩:=BW (C:=C) (fl:=fl) (vs:=vs) z1 z2 ne
  exact q a _ w1 w2
end
section
variable {X:Cx} {pins:List (Addr×Obj)} {U U':St} {H:Hp} {s:Shared} {h':Heap}
theorem Inv.reloc {t':Nat} (I:Inv X pins U H s) (hs:Heap.SameBut X.env.locals s.heap h') (len:U'.length=U.length)
  (l:∃ m',h'.Ns X.env.locals m'/\∀ (i:Nat) (x:Str) (v:V),X.N[i]?=some x->U'[i]?=some (some v)->WL X.env.scope x->∃ u,RelV v u/\Look X.env h' m' x u):Inv X pins U' H {s with heap:=h',toks:=t'}:=by
 have cne:=I.cne
 obtain ⟨mm,⟨oL,_,_,hoL,_⟩,_⟩:=id I.loc
 have away:∀ b o,X.s₀.heap.get? b=some o->b≠X.env.locals:=fun b o e=>Zt (Ze (Y5 e) I.ok.above)
 refine ⟨I.ok,I.os,I.bare,⟨fun b o e n hb hx=>(hs.2 b (away b o e)).trans (I.base.keep b o e n hb hx),fun b o e n hb hx=>?_,I.base.free,fun b o e hx=>?_,I.base.tups,I.base.frzs,I.base.tbls⟩,l,fun y c e=>?_,I.free,I.freeC,fun q hq=>?_,fun b ob e=>?_,len.trans I.len⟩
 ·obtain ⟨sl,e1⟩:=I.base.slot b o e n hb hx
  exact ⟨sl,(hs.2 b (away b o e)).trans e1⟩
 ·obtain ⟨o2,e1⟩:=I.base.there b o e hx
  exact ⟨o2,(hs.2 b (away b o e)).trans e1⟩
 ·obtain ⟨w2,z⟩:=I.cell y c e
  exact ⟨w2,z.sameBut hs (cne y c e)⟩
 ·obtain ⟨e,n,ne,nf,d⟩:=I.pin q hq
  exact ⟨(hs.2 q.1 ne).trans e,n,ne,nf,d⟩
 ·refine (I.hok b ob e).stay (fun c w2 hc q=>(hs.2 c ?_).trans q) (fun _ q=>q) fun _ _ q=>q
  rintro rfl
  rcases hc with rfl | hc
  ·rw [I.free] at e;cases e
  ·rw [I.free] at hc;cases hc
theorem name_goes {A:Around} {E:Value->Shared->Prop} {i:Nat} {n:Str} {pos:Pos} {Q:Unit->Shared->Prop} (I:Inv X pins U H s) (hN:X.N.Nodup) (hi:X.N[i]?=some n) (hl:X.env.scope.names.lookup n=some .local)
  (h:∀ s',Inv X pins (U.set i none) H s'->Q () s'):wpAny (model X.prog X.w) A (do bindName X.env n .none;unbindBehindTheSuite X.env n pos) Q E s:=by
 have hcls:(X.env.scope.kind == .class || (X.env.scope.kind == .module && X.env.locals != X.env.globals))=false:=by rw [I.ok.kind];rfl
 have hk:X.env.kindOf n=some .local:=hl
 refine YS (wpAny_bindName (pC (v:=.non) I hN hi (.inl hl) rfl (fun s1 I1=>?_) (.inr hl)))
 obtain ⟨m1,hn1,hl1⟩:=id I1.loc
 have hiU:i < U.length:=by rw [I.len];exact (YW.mp hi).1
 obtain ⟨u1,ru1,lk1⟩:=hl1 i n .non hi (by rw [ZW hiU]) (.inl hl)
 have m1n:m1 n=some u1:=by
  rcases lk1 with ⟨_,z⟩ | ⟨z | z,_⟩
  ·exact z
  ·rw [hk] at z;cases z
  ·rw [hk] at z;cases z
 unfold unbindBehindTheSuite
 refine wpAny_onRaise ?_
 unfold unbindName
 refine YS (wpAny_point (YS ?_))
 unfold deleteName
 simp only [hk,hcls]
 rw [if_neg (by decide)]
 refine YS (wpAny_nsDel_keeps hn1 fun h2 v2 hn2 hs2=>?_)
 rw [m1n]
 simp only [if_true,Option.isSome_some,Bool.not_true,AaZ,if_false]
 refine YX (wpAny_point (h _ (I1.reloc (t':=s1.toks) hs2 (by rw [List.length_set,List.length_set]) ⟨_,hn2,fun j y v e1 e2 e3=>?_⟩)))
 have hj:j≠i:=fun z=>by
  subst z
  rw [ZW hiU] at e2;cases e2
 rw [ZD (Ne.symm hj)] at e2
 obtain ⟨u,r,q⟩:=hl1 j y v e1 (by rw [ZD (Ne.symm hj)];exact e2) e3
 refine ⟨u,r,?_⟩
 rcases q with ⟨k,z⟩ | ⟨k,c,z1,z2⟩
 ·have ny:y≠n:=fun z=>hj (vW hN e1 (z ▸ hi))
  exact .inl ⟨k,by show (if y=n then v2 else m1 y)=some u;rw [if_neg ny];exact z⟩
 ·exact .inr ⟨k,c,z1,z2.sameBut hs2 (I1.cne y c z1)⟩
end
abbrev Cx.sui (X:Cx) (x:Addr):Cx:={X with A:=X.A.mark (some (.ref x)),calm:=false,xe:=fun _ _=>False}
abbrev Cx.bod (X:Cx) (pins:List (Addr×Obj)) (R:St->XK):Cx:={X with pn:=X.pn ++ pins,xe:=XE X pins R}
section
variable {X:Cx} {pins pins':List (Addr×Obj)} {U:St} {H:Hp} {s:Shared} {x C d T:Addr} {R:St->XK} {D:Ends}
theorem Inv.sui (I:Inv X pins U H s) (x:Addr):Inv (X.sui x) pins U H s:=
 ⟨⟨I.ok.mod,I.ok.kind,I.ok.glob,I.ok.blt,I.ok.above,I.ok.inj,I.ok.has,I.ok.cab,fun h=>absurd h Y6,I.ok.frames,I.ok.stk,I.ok.exf,I.ok.bs,I.ok.bsz,I.ok.noex,I.ok.exfs,I.ok.funs,I.ok.frf⟩,I.os,I.bare,I.base,I.loc,I.cell,I.free,I.freeC,I.pin,I.hok,I.len⟩
theorem Inv.unsui (ok:X.Ok) (I:Inv (X.sui x) pins U H s):Inv X pins U H s:=⟨ok,I.os,I.bare,I.base,I.loc,I.cell,I.free,I.freeC,I.pin,I.hok,I.len⟩
theorem Inv.bod (I:Inv X pins U H s) (R:St->XK):Inv (X.bod pins R) [] U H s:=
 ⟨⟨I.ok.mod,I.ok.kind,I.ok.glob,I.ok.blt,I.ok.above,I.ok.inj,I.ok.has,I.ok.cab,I.ok.hd,I.ok.frames,I.ok.stk,I.ok.exf,I.ok.bs,I.ok.bsz,I.ok.noex,I.ok.exfs,I.ok.funs,I.ok.frf⟩,I.os,I.bare,I.base,I.loc,I.cell,I.free,I.freeC,fun p hp=>I.pin p (by simpa using hp),I.hok,I.len⟩
theorem Inv.unbod (I:Inv (X.bod pins R) pins' U H s):Inv X pins U H s:=
 ⟨⟨I.ok.mod,I.ok.kind,I.ok.glob,I.ok.blt,I.ok.above,I.ok.inj,I.ok.has,I.ok.cab,I.ok.hd,I.ok.frames,I.ok.stk,I.ok.exf,I.ok.bs,I.ok.bsz,I.ok.noex,I.ok.exfs,I.ok.funs,I.ok.frf⟩,I.os,I.bare,I.base,I.loc,I.cell,I.free,I.freeC,fun p hp=>I.pin p (Aa9 _ hp),I.hok,I.len⟩
theorem SP.unbod {f:Flow} (h:SP (X.bod pins R) pins' D f s):SP X pins D f s:=by
 cases f with
 | next=>obtain ⟨U',H',I,q⟩:=h;exact ⟨U',H',I.unbod,q⟩
 | brk=>obtain ⟨U',H',I,q⟩:=h;exact ⟨U',H',I.unbod,q⟩
 | cont=>obtain ⟨U',H',I,q⟩:=h;exact ⟨U',H',I.unbod,q⟩
 | ret u=>obtain ⟨v,U',H',I,r,q⟩:=h;exact ⟨v,U',H',I.unbod,r,q⟩
theorem SP.unsui (ok:X.Ok) {f:Flow} (h:SP (X.sui x) pins D f s):SP X pins D f s:=by
 cases f with
 | next=>obtain ⟨U',H',I,q⟩:=h;exact ⟨U',H',I.unsui ok,q⟩
 | brk=>obtain ⟨U',H',I,q⟩:=h;exact ⟨U',H',I.unsui ok,q⟩
 | cont=>obtain ⟨U',H',I,q⟩:=h;exact ⟨U',H',I.unsui ok,q⟩
 | ret u=>obtain ⟨v,U',H',I,r,q⟩:=h;exact ⟨v,U',H',I.unsui ok,r,q⟩
theorem sZ:jO (X.bod pins R) R:=by
 rintro pins' e s' ⟨x,C,d,U,H',he,I,⟨tx,F⟩,r⟩
 refine ⟨x,C,d,U,H',he,I.unbod,⟨tx,?_⟩,r⟩
 rcases F with F | ⟨T,F⟩
 ·exact .inl F
 ·obtain ⟨a1,a2,a3,a4,a5,a6⟩:=F.fp
  exact .inr ⟨T,F.obj,F.tb,⟨a1,a2,a3,a4,a5,fun p hp=>a6 p (Aa9 _ hp)⟩,F.tr⟩
theorem yK {A:Around} {E:Value->Shared->Prop} {P:Addr} {b:Bool} {Q:Bool->Shared->Prop} {vs:Array Value} {M:Model} {K:W.Frag} (KI:K.In s.heap) (c:XCls K C) (cP:XCls K P) (e:s.heap.get? x=some (gG C (some d) vs)) (hm:PySem.W.mroIn K C (.ref P)=some b) (h:Q b s):
  wpAny M A (excMatches (.ref x) (.ref P)) Q E s:=by
 obtain ⟨nm,qn,N,bs,bm,sn,sub,ab,col,dd,k0,k1,k2,k3,k5,lk,tl⟩:=wF c.xi
 obtain ⟨nm',qn',N',bs',bm',sn',sub',ab',col',dd',k0',k1',k2',k3',k5',lk',tl'⟩:=wF cP.xi
 have hC:=KI _ _ lk
 have hP:=KI _ _ lk'
 have hPB:(Value.ref P :: bm').contains (.type "BaseException")=true:=by
  rw [AaE,(tl' _ KI).hasType (show XQ.contains (.type "BaseException")=true from by decide)];rfl
 have hCP:(Value.ref C :: bm).contains (.ref P)=b:=by
  unfold PySem.W.mroIn PySem.W.clsIn at hm
  rw [lk] at hm
  exact Zv hm
 have f:=tc_notTuple
 obtain ⟨hp,g,dr,tk,os⟩:=s
 unfold gG at e
 unfold excMatches
 by_cases hh:P=C
 ·subst hh
  have hb:b=true:=by rw [← hCP];simp
  subst hb
  rw [lk] at lk'
  cases lk'
  repeat (first | with_reducible refine Aab e ?_ | with_reducible refine Aab hC ?_ | (with_reducible refine AaP hC ?_;first | rw [hPB] | rw [hCP]) | wp_step)
  exact h
 ·repeat (first | with_reducible refine Aab e ?_ | with_reducible refine Aab hP ?_ | (with_reducible refine AaP hP ?_;rw [hPB]) | (with_reducible refine AaP hC ?_;rw [hCP]) | wp_step)
  cases b <;> (wp_walk;exact h)
abbrev TH:=Ends->St->Addr->Addr->Hp->Prop
def PH (X:Cx) (hs:List ExceptHandler) (th:TH):Prop:=∀ (pins:List (Addr×Obj)) (s:Shared) (U:St) (H:Hp) (D:Ends) (x C d T:Addr),Inv X pins U H s->Head X pins H x C d T s.heap->th D U x C H->
 wpAny (model X.prog X.w) X.A (handleBy (.ref x) X.env hs) (SP X pins D) X.xe s
theorem Vx:PH X [] (fun _ _ _ _ _=>False):=fun _ _ _ _ _ _ _ _ _ _ _ h=>h.elim
def Ends.gone (D:Ends) (i:Nat):Ends:={nx:=fun U H=>D.nx (U.set i none) H,rt:=D.rt,bk:=fun U H=>D.bk (U.set i none) H,ct:=fun U H=>D.ct (U.set i none) H}
def hAs (K:W.Frag) (P:Addr) (i:Nat) (ts:TS) (th:TH):TH:=fun D U x C H=>∃ b,XCls K C/\PySem.W.mroIn K C (.ref P)=some b/\if b=true then ts (D.gone i) (U.set i (some (.ref x))) H else th D U x C H
def hNo (K:W.Frag) (P:Addr) (ts:TS) (th:TH):TH:=fun D U x C H=>∃ b,XCls K C/\PySem.W.mroIn K C (.ref P)=some b/\if b=true then ts D U H else th D U x C H
variable {nm n:Str} {P:Addr} {i:Nat} {p pos:Pos} {b0:Stmt} {suite:List Stmt} {ts:TS} {th:TH} {hs:List ExceptHandler}
theorem X4 (hg:Gl X nm) (hm:X.mg nm=some (.ref P)) (cP:XCls X.K P) (hdb:(nm == ("__debug__":Str))=false) (hN:X.N.Nodup) (hi:X.N[i]?=some n) (hl:X.env.scope.names.lookup n=some .local)
  (hsu:∀ x,PSs (X.sui x) (b0 :: suite) ts) (hr:PH X hs th):PH X (.ExceptHandler (some (.Name nm p)) (some n) (b0 :: suite) pos :: hs) (hAs X.K P i ts th):=by
 rintro pins s U H D x C d T I F ⟨b,c,mb,q⟩
 obtain ⟨vs,ex,h1⟩:=F.obj
 refine wpAny_handleBy_cons (codeAny_handlers_test (lZ (I.sui x) hg hm ?_ hdb)) (fun z=>nomatch z)
 refine yK I.kIn c cP ex mb ?_
 cases b with
 | false=>
  rw [if_neg Y6] at q
  exact hr pins s U H D x C d T I F q
 | true=>
  rw [if_pos rfl] at q
  refine codeAny_handlers_suite_as ?_
  refine sX I F fun h2 I2 F2=>?_
  refine pC (X:=X.sui x) (v:=.ref x) (I2.sui x) hN hi (.inl hl) rfl (fun s3 I3=>?_) (.inr hl)
  refine ZM (hsu x pins s3 _ H (D.gone i) I3 q) (fun f s4 w=>?_) fun _ _ z=>False.elim z
  cases f with
  | next=>obtain ⟨U',H',J,r⟩:=w;exact name_goes (J.unsui I.ok) hN hi hl fun s5 I5=>⟨_,H',I5,r⟩
  | brk=>obtain ⟨U',H',J,r⟩:=w;exact name_goes (J.unsui I.ok) hN hi hl fun s5 I5=>⟨_,H',I5,r⟩
  | cont=>obtain ⟨U',H',J,r⟩:=w;exact name_goes (J.unsui I.ok) hN hi hl fun s5 I5=>⟨_,H',I5,r⟩
  | ret u=>obtain ⟨v,U',H',J,rv,r⟩:=w;exact name_goes (J.unsui I.ok) hN hi hl fun s5 I5=>⟨v,_,H',I5,rv,r⟩
theorem X5 (hg:Gl X nm) (hm:X.mg nm=some (.ref P)) (cP:XCls X.K P) (hdb:(nm == ("__debug__":Str))=false) (hsu:∀ x,PSs (X.sui x) (b0 :: suite) ts) (hr:PH X hs th):
  PH X (.ExceptHandler (some (.Name nm p)) none (b0 :: suite) pos :: hs) (hNo X.K P ts th):=by
 rintro pins s U H D x C d T I F ⟨b,c,mb,q⟩
 obtain ⟨vs,ex,h1⟩:=F.obj
 refine wpAny_handleBy_cons (codeAny_handlers_test (lZ (I.sui x) hg hm ?_ hdb)) (fun z=>nomatch z)
 refine yK I.kIn c cP ex mb ?_
 cases b with
 | false=>
  rw [if_neg Y6] at q
  exact hr pins s U H D x C d T I F q
 | true=>
  rw [if_pos rfl] at q
  refine codeAny_handlers_suite ?_
  refine sX I F fun h2 I2 F2=>?_
  exact ZM (hsu x pins _ _ H D (I2.sui x) q) (fun f s4 w=>w.unsui I.ok) fun _ _ z=>False.elim z
def Vy (tb:(St->XK)->TS) (th:TH):TS:=fun D U H=>tb (fun U' c x H'=>∃ C a,c= .ref C/\x=some a/\th D U' a C H') D U H
theorem Vz {body:List Stmt} {h0:ExceptHandler} {tb:(St->XK)->TS} (hst:X.stack=X.env :: X.outer) (hfr:X.env.frame=some X.env.locals) (hb:∀ (pins:List (Addr×Obj)) (R:St->XK),PSs (X.bod pins R) body (tb R)) (hh:PH X (h0 :: hs) th):
  PS X (.Try body (h0 :: hs) [] [] pos) (Vy tb th):=by
 intro pins s U H D I h
 refine wpAny_Try_except (ZM (hb pins _ [] s U H D (I.bod _) h) (fun f s1 q=>?_) fun e s1 q=>?_)
 ·have q':=q.unbod
  cases f with
  | next=>exact wpAny_execs_nil q'
  | brk=>exact q'
  | cont=>exact q'
  | ret u=>exact q'
 ·obtain ⟨x,C,d,U',H',rfl,I1,F1,C',a',eC,ea,r⟩:=q
  cases eC
  cases ea
  refine BV I1 hst hfr I1.ok.frames F1 fun h2 T I2 F2=>?_
  refine sX I2 F2 fun h3 I3 F3=>?_
  exact hh pins _ U' H' D x C d T I3 F3 r
end
def aF (mg:Str->Option Value) (x:Str):Addr:=match mg x with
 | some (.ref a)=>a
 | _=>0
theorem eQ {mg:Str->Option Value} {x:Str} {C:Addr} (h:mg x=some (.ref C)):aF mg x=C:=by unfold aF;rw [h]
structure IK (K:W.Frag) (mg:Str->Option Value) (x:Str):Prop where
 at_:mg x=some (.ref (aF mg x))
 cl:O3 K (aF mg x)
theorem Sq {K:W.Frag} {mg:Str->Option Value} {h:Heap} (X:K.In h) (G:h.Ns mainGlobals mg) {x:Str} {C:Addr} (a:PySem.W.nsIn K mainGlobals x=some (some (.ref C))) (b:Gi K C=true):IK K mg x:=by
 have m:=ZF X G a
 have e:=eQ m
 exact ⟨by rw [e];exact m,by rw [e];exact Mg b⟩
structure pB (K:W.Frag) (mg:Str->Option Value) (x:Str) (fl:List Str) (qual:Str) (st:Stmt):Prop where
 c:IK K mg x
 kp:PySem.W.keepIn K (.ref (aF mg x))=true
 na:∀ f∈fl,NoAttr K (aF mg x) f
 ini:∃ f fd,PySem.W.findIn K (.ref (aF mg x)) "__init__"=some (some (.ref f))/\PySem.W.typeIn K (.ref f)=some (.type "function")/\Fun K "__init__" qual st f fd
def Mt (K:W.Frag) (C:Addr) (fl:List Str):Bool:=fl.all fun n=>PySem.W.findIn K (.ref C) n == some none
theorem uU {K:W.Frag} {mg:Str->Option Value} {h:Heap} (X:K.In h) (G:h.Ns mainGlobals mg) {x qual:Str} {C f:Addr} {fl:List Str} {st:Stmt} {oc:Value} {od an:Option Addr} {osl:Array (Option Value)} {kV doc pm cdv ct:Value}
  (a:PySem.W.nsIn K mainGlobals x=some (some (.ref C))) (b:Gi K C=true) (kp:PySem.W.keepIn K (.ref C)=true) (na:Mt K C fl=true)
  (i:PySem.W.findIn K (.ref C) "__init__"=some (some (.ref f))) (t:PySem.W.typeIn K (.ref f)=some (.type "function"))
  (l:K.lookup f=some ⟨oc,od,.func (PySem.W.fnOf "__init__" qual (d9 st) (bG st) (az st) .none kV doc pm an cdv ct),osl⟩) (c:PySem.W.codeIn K cdv qual=true) (k:PySem.W.keepIn K (.ref f)=true):pB K mg x fl qual st:=by
 have m:=ZF X G a
 have e:=eQ m
 refine ⟨Sq X G a b,by rw [e];exact kp,fun n hn=>?_,f,_,by rw [e];exact i,t,wg l c k⟩
 rw [e]
 have:=gV.mp na n hn
 exact Aao.mp this
structure Sub (K:W.Frag) (mg:Str->Option Value) (x y:Str) (b:Bool):Prop where
 mro:PySem.W.mroIn K (aF mg x) (.ref (aF mg y))=some b
 one:PySem.W.kitOne K (.ref (aF mg x)) (.ref (aF mg y))=some b
theorem dZ {K:W.Frag} {mg:Str->Option Value} {h:Heap} (X:K.In h) (G:h.Ns mainGlobals mg) {x y:Str} {C P:Addr} {r:Bool} (a:PySem.W.nsIn K mainGlobals x=some (some (.ref C))) (b:PySem.W.nsIn K mainGlobals y=some (some (.ref P)))
  (m:PySem.W.mroIn K C (.ref P)=some r) (o:PySem.W.kitOne K (.ref C) (.ref P)=some r):Sub K mg x y r:=by
 have e:=eQ (ZF X G a)
 have e2:=eQ (ZF X G b)
 exact ⟨by rw [e,e2];exact m,by rw [e,e2];exact o⟩
theorem zU {K:W.Frag} {mg:Str->Option Value} {h:Heap} (X:K.In h) (G:h.Ns mainGlobals mg) {x:Str} {T:String} {C:Addr} {r:Bool} (a:PySem.W.nsIn K mainGlobals x=some (some (.ref C)))
  (o:PySem.W.kitOne K (.ref C) (.type T)=some r):PySem.W.kitOne K (.ref (aF mg x)) (.type T)=some r:=by
 rw [eQ (ZF X G a)];exact o
structure JH (X:Cx) (hs:List ExceptHandler) (th:TH):Prop where
 run:PH X hs th
section
variable {X:Cx} {K:W.Frag} {k:Nat} {x n fn:Str} {ps:List Str} {sp:Sp} {R:St->XK} {p pos cpos pos':Pos} {e o value:Expr} {es:List Expr} {t:TA} {ta tv:TE} {st:Stmt} {u ts:TS} {th:TH} {hs:List ExceptHandler} {i:Nat}
theorem tD (F:Ml X.prog X.w X.K X.mg X.base k x ps sp) (hr:Room k X.A) (hg:Gl X x) (hx:jO X R) (ha:JA X (e :: es) t) (hdb:(x == ("__debug__":Str))=false) (h:autoParam ((e :: es).all notStar=true) L2.auto4._auto_1):
  JE X (.Call (.Name x p) (e :: es) [] pos) (Ei sp R t):=by
 have h1:notStar e=true:=by simp only [ZC,Zb] at h;exact h.1
 have h2:es.all notStar=true:=by simp only [ZC,Zb] at h;exact h.2
 exact ⟨Mm F hr hg hx ha.run hdb (bH h1) (lB h2)⟩
theorem tE {C:Addr} (hg:Gl X x) (hm:X.mg x=some (.ref C)) (hd:(x == ("__debug__":Str))=false):JE X (.Name x pos) (tC (.ref C)):=⟨zq hg hm rfl hd⟩
theorem zV (hK:X.K=K) (he:JE X e ta) (h:autoParam (sO e=true) L2.auto4._auto_1):JE X (.Attribute e fn pos) (Mr K ta fn):=by
 subst hK
 exact ⟨QB he.run (by cases e <;> first | rfl | cases h)⟩
theorem zW (hK:X.K=K) (ha:JE X o ta) (hv:JE X value tv) (h:autoParam (mj value=true) L2.auto4._auto_1):JS X (.Assign [.Attribute o fn pos'] value pos) (Mq K ta tv fn):=by
 subst hK
 exact ⟨Qz ha.run hv.run (By h)⟩
theorem tG {fl:List Str} (M:Vv X.prog X.w X.K X.mg X.base k x (aF X.mg x) fl) (hr:Room (k+1) X.A) (hc:X.calm=true) (hg:Gl X x) (hx:jO X R) (ha:JA X (e :: es) t) (hdb:(x == ("__debug__":Str))=false) (h:autoParam ((e :: es).all notStar=true) L2.auto4._auto_1):
  JS X (.Raise (some (.Call (.Name x p) (e :: es) [] cpos)) none pos) (Ej (aF X.mg x) fl R t):=by
 have h1:notStar e=true:=by simp only [ZC,Zb] at h;exact h.1
 have h2:es.all notStar=true:=by simp only [ZC,Zb] at h;exact h.2
 exact ⟨Ms M hr hc hg hx ha.run hdb (bH h1) (lB h2)⟩
theorem zX:JH X [] (fun _ _ _ _ _=>False):=⟨Vx⟩
theorem Gk {b0:Stmt} {suite:List Stmt} (hK:X.K=K) (c:IK K X.mg x) (hg:Gl X x) (hdb:(x == ("__debug__":Str))=false) (hN:X.N.Nodup) (hi:X.N[i]?=some n) (hl:X.env.scope.names.lookup n=some .local)
  (hsu:∀ x,JB (X.sui x) (b0 :: suite) ts) (hr:JH X hs th):JH X (.ExceptHandler (some (.Name x p)) (some n) (b0 :: suite) pos :: hs) (hAs K (aF X.mg x) i ts th):=by
 subst hK
 exact ⟨X4 hg c.at_ c.cl.cls hdb hN hi hl (fun x=>(hsu x).run) hr.run⟩
theorem Gm {b0:Stmt} {suite:List Stmt} (hK:X.K=K) (c:IK K X.mg x) (hg:Gl X x) (hdb:(x == ("__debug__":Str))=false)
  (hsu:∀ x,JB (X.sui x) (b0 :: suite) ts) (hr:JH X hs th):JH X (.ExceptHandler (some (.Name x p)) none (b0 :: suite) pos :: hs) (hNo K (aF X.mg x) ts th):=by
 subst hK
 exact ⟨X5 hg c.at_ c.cl.cls hdb (fun x=>(hsu x).run) hr.run⟩
theorem zY {body:List Stmt} {h0:ExceptHandler} {tb:(St->XK)->TS} (hst:X.stack=X.env :: X.outer) (hfr:X.env.frame=some X.env.locals) (hb:∀ (pins:List (Addr×Obj)) (R:St->XK),JB (X.bod pins R) body (tb R)) (hh:JH X (h0 :: hs) th):
  JS X (.Try body (h0 :: hs) [] [] pos) (Vy tb th):=⟨Vz hst hfr (fun pins R=>(hb pins R).run) hh.run⟩
end
section
variable {P:Program} {w:World} {K:W.Frag} {mg:Str->Option Value} {base:Heap}
theorem Ss {x:Str} {st:Stmt} {N ps:List Str} {k:Nat} {sp:Sp} (D:eO K mg x st) (S:aC N ps (az st))
  (hb:∀ (kV doc pm:Value) (an:Option Addr) (cdv ct:Value) (us:List Value),us.length=ps.length->bindArgs (PySem.W.fnOf x x (d9 st) (bG st) (az st) .none kV doc pm an cdv ct) ⟨us,[]⟩=pure (ps.zip us))
  (len:∀ vs H Q E,sp vs H Q E->vs.length=ps.length)
  (hbody:∀ (f:Addr) (cdv:Value) (A:Around) (outer:List Env) (s:Shared) (H:Hp) (vs:List V) (Q:VK) (E:XK),Room k (A.deeper (envOfC x (az st) s.heap.objs.size f cdv))->sp vs H Q E->
   ∃ t,JB (pH (Iu P w) P w K mg base N x (az st) f cdv A outer s H E) (bG st) t/\t {nx:=fun _ H'=>Q .non H',rt:=Q} (start N vs) H):Ml P w K mg base (k+1) x ps sp:=by
 obtain ⟨f,fd,F,hm⟩:=D
 refine ⟨f,fd,hm,F.kp,F.binds hb,?_⟩
 obtain ⟨oc,od,kV,doc,pm,an,cdv,ct,osl,rfl,lk,hcd⟩:=F.ex
 exact Bh lk hcd S len fun A outer s H vs Q E hr h=>let ⟨t,j,q⟩:=hbody f cdv A outer s H vs Q E hr h;⟨t,j.run,q⟩
theorem mkX {x qual:Str} {st:Stmt} {N ps:List Str} {fl:List Str} {k:Nat} (D:pB K mg x fl qual st) (S:aC N ps (az st))
  (hb:∀ (kV doc pm:Value) (an:Option Addr) (cdv ct:Value) (us:List Value),us.length=ps.length->bindArgs (PySem.W.fnOf "__init__" qual (d9 st) (bG st) (az st) .none kV doc pm an cdv ct) ⟨us,[]⟩=pure (ps.zip us))
  (hl:ps.length=fl.length+1)
  (hbody:∀ (f:Addr) (cdv:Value) (A:Around) (outer:List Env) (s:Shared) (H:Hp) (vs:List V) (Q:VK) (E:XK),Room k (A.deeper (envOfC qual (az st) s.heap.objs.size f cdv))->zR (aF mg x) fl vs H Q E->
   ∃ t,JB (pH HS P w K mg base N qual (az st) f cdv A outer s H E).nox (bG st) t/\t {nx:=fun _ H'=>Q .non H',rt:=Q} (start N vs) H):Vv P w K mg base (k+1) x (aF mg x) fl:=by
 obtain ⟨f,fd,a,b,F⟩:=D.ini
 refine ⟨D.c.at_,D.c.cl,D.kp,D.na,f,fd,ps,a,b,F.binds hb,F.ok S (fun vs H Q E h=>?_) fun cdv A outer s H vs Q E hr h=>let ⟨t,j,q⟩:=hbody f cdv A outer s H vs Q E hr h;⟨t,j.run,q⟩⟩
 obtain ⟨y,ws,rfl,hw,_⟩:=h
 rw [Z6,hw,hl]
end
def initOf:Stmt->Stmt
 | .ClassDef _ _ _ (s :: _) _ _ _ _ _ _ _=>s
 | s=>s
section
variable {U:St} {H:Hp} {D:Ends} {Q:VK} {sp:Sp} {R:St->XK} {a:TA} {K:W.Frag} {C P:Addr} {fl:List Str} {th:TH} {ts:TS} {i:Nat} {ta:TE} {f:Str}
theorem bO (h:a U H fun vs H1=>sp vs H1 Q (R U)):Ei sp R a U H Q:=h
theorem gr {tb:(St->XK)->TS} (h:tb (fun U' c x H'=>∃ C a,c= .ref C/\x=some a/\th D U' a C H') D U H):Vy tb th D U H:=h
theorem bQ (h:a U H fun vs H1=>vs.length=fl.length/\vs.length<=sizeLine/\∀ x H2,Same H1 H2->IsX H2 x C (fl.zip vs)->R U (.ref C) (some x) H2):Ej C fl R a D U H:=h
theorem dH (h:ta U H fun x H1=>∃ a C fs v,x= .ref a/\IsX H1 a C fs/\XCls K C/\NoAttr K C f/\fs.lookup f=some v/\Q v H1):Mr K ta f U H Q:=h
theorem Gn {x C:Addr} (c:XCls K C) (m:PySem.W.mroIn K C (.ref P)=some true) (h:ts (D.gone i) (U.set i (some (.ref x))) H):hAs K P i ts th D U x C H:=⟨true,c,m,by rw [if_pos rfl];exact h⟩
theorem Ek {x v:V} {t c:Value} {b:Bool} (ty:TyOf K H x t) (e:XX v=some c) (o:PySem.W.kitOne K t c=some b) (h:Q (.bl b) H):yJ K [x,v] H Q:=⟨x,t,b,.inl ty,.inl ⟨v,c,rfl,e,o⟩,h⟩
theorem El {x C:Addr} {v:V} {c:Value} {fs:List (Str×V)} {b:Bool} (ex:IsX H x C fs) (cl:O3 K C) (e:XX v=some c) (o:PySem.W.kitOne K (.ref C) c=some b) (h:Q (.bl b) H):yJ K [.ref x,v] H Q:=
 ⟨.ref x,.ref C,b,.inr ⟨x,C,fs,rfl,ex,cl,rfl⟩,.inl ⟨v,c,rfl,e,o⟩,h⟩
theorem zZ {x C p:Addr} {vs:List V} {cs:List Value} {fs:List (Str×V)} {b:Bool} (ex:IsX H x C fs) (cl:O3 K C) (hp:H p=some (.tup vs)) (e:Iz vs=some cs) (o:PySem.W.kitAny K (.ref C) cs=some b) (h:Q (.bl b) H):yJ K [.ref x,.ref p] H Q:=
 ⟨.ref x,.ref C,b,.inr ⟨x,C,fs,rfl,ex,cl,rfl⟩,.inr ⟨p,vs,cs,rfl,hp,e,o⟩,h⟩
theorem z8 {x:V} {t:Value} {p:Addr} {vs:List V} {cs:List Value} {b:Bool} (ty:TyOf K H x t) (hp:H p=some (.tup vs)) (e:Iz vs=some cs) (o:PySem.W.kitAny K t cs=some b) (h:Q (.bl b) H):yJ K [x,.ref p] H Q:=
 ⟨x,t,b,.inl ty,.inr ⟨p,vs,cs,rfl,hp,e,o⟩,h⟩
theorem rd1 {f1 p0 p1:Str} {vs:List V} {E:XK} (c:XCls K C) (n:NoAttr K C f1) (h:zR C [f1] vs H Q E):Mq K (qW 0) (qW 1) f1 {nx:=fun _ H'=>Q .non H',rt:=Q} (start [p0,p1] vs) H:=by
 obtain ⟨x,ws,rfl,hw,hx,q⟩:=h
 match ws,hw with
 | [v],_=>exact ⟨v,rfl,.ref x,rfl,x,C,rfl,c,n,.inl ⟨hx,fun d hd ne=>q d hd ne⟩⟩
end
theorem IsX.same {H H':Hp} {x C:Addr} {fs:List (Str×V)} (h:IsX H x C fs) (s:Same H H'):IsX H' x C fs:=let ⟨d,a,b⟩:=h;⟨d,s _ _ a,s _ _ b⟩
def z9 (z:Str) (lo hi:Option Int) (c:Int):Str:=⟨((Builtin.Str.strSliceIndices lo hi c z.length).filterMap (z.cps[·]?)).toArray⟩
def VB (te:TE) (tl th ts:TO):TE:=fun U H Q=>te U H fun x H1=>tl U H1 fun l H2=>th U H2 fun u H3=>ts U H3 fun c H4=>∃ z c',x= .str z/\c=some c'/\c'≠0/\c'≠1/\(z9 z l u c').length<=sizeLine/\Q (.str (z9 z l u c')) H4
def JV:Option Int->Tok->Option (Int×Tok)
 | none,_=>none
 | some i,t=>some (i,t)
theorem rm {v:Value} {l:Option Int} (h:IsPart v l):∃ t,v=partValue (JV l t):=by
 cases h with
 | none=>exact ⟨0,rfl⟩
 | int i t=>exact ⟨t,rfl⟩
theorem Gp (l:Option Int) (t:Tok):(JV l t).map (·.1)=l:=by cases l <;> rfl
section
variable {X:Cx} {e:Expr} {te:TE} {lo hi:Option Expr} {st:Expr} {tl th ts:TO} {pos p2:Pos}
theorem IV (he:PE X e te) (hl:PO X lo tl) (hu:PO X hi th) (hs:PO X (some st) ts):PE X (.Subscript e (.Slice lo hi (some st) p2) pos) (VB te tl th ts):=by
 intro pins s U H Q I h
 refine Subscript_ (dW (he pins s U H _ I h) fun v s1 qq0=>?_)
 obtain ⟨x,H1,I1,r1,q1⟩:=qq0
 refine wpAny_Slice (dW (hl pins s1 U H1 _ I1 q1) fun vl s2 ⟨l,H2,I2,pl,q2⟩=>dW (hu pins s2 U H2 _ I2 q2) fun vu s3 ⟨u,H3,I3,pu,q3⟩=>dW (hs pins s3 U H3 _ I3 q3) fun vc s4 qq0=>?_)
 obtain ⟨c,H4,I4,pc,q4⟩:=qq0
 obtain ⟨z,c',rfl,rfl,hc0,hc1,hz,q⟩:=q4
 obtain ⟨t,rfl⟩:=r1
 obtain ⟨t1,rfl⟩:=rm pl
 obtain ⟨t2,rfl⟩:=rm pu
 obtain ⟨t3,rfl⟩:=rm pc
 have I5:Inv X pins U H4 {s4 with heap:=s4.heap.push {cls:=.type "slice",data:=.fields #[partValue (JV l t1),partValue (JV u t2),partValue (JV (some c') t3)]}}:=I4.kept (t':=s4.toks) fun b ob q=>Y0 _ q
 show wpAny (model X.prog X.w) X.A (subscriptTail e (.Slice lo hi (some st) p2) (.str z t) (.ref s4.heap.objs.size)) (EP X pins U Q) X.xe _
 refine tail_any (T:="str") (ops:=[.str z t,.ref s4.heap.objs.size]) (typeIs_str _ _ _) F.slot_str_getitem.lookup ?_ (by with_unfolding_all rfl)
 refine Aav (l:=JV l t1) (u:=JV u t2) (st:=JV (some c') t3) ⟨_,Za _ rfl,rfl,rfl⟩ (by show (c' == 0)=false;simpa using hc0) ?_
 unfold sliceMade
 have e1:(((JV (some c') t3).map (·.1)).getD 1 == 1)=false:=by show (c' == 1)=false;simpa using hc1
 rw [e1,Bool.false_and,if_neg Y6]
 have e2:(⟨((slicePicked z (JV l t1) (JV u t2) (JV (some c') t3)).filterMap (z.cps[·]?)).toArray⟩:Str)=z9 z l u c':=by
  unfold slicePicked z9
  rw [Gp,Gp];rfl
 rw [e2]
 exact ⟨hz,⟨.str _,H4,I5.tok _,⟨_,rfl⟩,q⟩⟩
theorem Mu (he:JE X e te) (hl:JO X lo tl) (hu:JO X hi th) (hs:JO X (some st) ts):JE X (.Subscript e (.Slice lo hi (some st) p2) pos) (VB te tl th ts):=⟨IV he.run hl.run hu.run hs.run⟩
theorem Gq:JE X (.Dict [] [] pos) DX:=⟨K7⟩
end
section
variable {U:St} {H:Hp} {Q:VK} {te:TE}
theorem gw {tl th ts:TO} (h:te U H fun x H1=>tl U H1 fun l H2=>th U H2 fun u H3=>ts U H3 fun c H4=>∃ z c',x= .str z/\c=some c'/\c'≠0/\c'≠1/\(z9 z l u c').length<=sizeLine/\Q (.str (z9 z l u c')) H4):VB te tl th ts U H Q:=h
theorem dI (h:∀ p,H p=none->Q (.ref p) (upd H p (.dK []))):DX U H Q:=h
end
def X6 (K:W.Frag) (neg:Bool):R2:=fun x y H Q=>∃ a b xs,x= .ref a/\y= .ref b/\SqL K H a xs/\SqL K H b xs/\(∀ v∈xs,jH v=true\/∃ r,v= .ref r)/\Q (.bl (!neg)) H
theorem tH {v:V} (f:jH v=true):Ba v v=true:=by
 cases v <;> first | (cases f;done) | rfl | (simp [Ba])
section
variable {X:Cx}
theorem VD (hu:X.A.units < cLine):OpR X (compareOp .Eq) (X6 X.K false):=by
 intro pins s U H x y v u Q I rx ry h
 obtain ⟨a,b,xs,rfl,rfl,ha,hb,fx,q⟩:=h
 cases rx
 cases ry
 obtain ⟨its,r1,p1,z1⟩:=I.list ha
 obtain ⟨jts,r2,p2,z2⟩:=I.list hb
 have l1:its.toArray.size=xs.length:=by simpa using r1.length.symm
 have l2:jts.toArray.size=xs.length:=by simpa using r2.length.symm
 refine SeqAt.eq_listAt (e:=fun _=>true) p1.isList p2.isList (by rw [l1,l2]) hu (fun j h1 h2=>?_) ?_
 ·have hj:j < xs.length:=by omega
  obtain ⟨u1,e1,q1⟩:=r1.get (YT hj)
  obtain ⟨u2,e2,q2⟩:=r2.get (YT hj)
  have f1:its.toArray[j]=u1:=by
   obtain ⟨_,z⟩:=YW.mp e1
   simpa using z
  have f2:jts.toArray[j]=u2:=by
   obtain ⟨_,z⟩:=YW.mp e2
   simpa using z
  rw [f1,f2]
  rcases fx _ (Aad hj) with f | ⟨r,f⟩
  ·rw [← tH f]
   exact pI q1 q2 f f
  ·rw [f] at q1 q2
   cases (show u1=Value.ref r from q1)
   cases (show u2=Value.ref r from q2)
   exact AaH _
 ·have e:(List.range its.toArray.size).all (fun _=>true)=true:=by simp
  rw [e]
  exact ⟨.bl true,H,I,rfl,q⟩
def Mv (K:W.Frag):R2:=fun x y H Q=>Io K x y H Q\/X6 K false x y H Q
theorem VF {K:W.Frag} (hK:X.K=K) (hu:X.A.units+64 < cLine):OpR X (compareOp .Eq) (Mv K):=by
 subst hK
 exact (Vs rfl hu).or (VD (Aaq (Aar _ _) hu))
end
section
variable {H:Hp} {Q:VK} {K:W.Frag}
theorem cJ {i j:Int} (h:Q (.bl (decide (V.int i=V.int j))) H):Mv K (.int i) (.int j) H Q:=.inl (cF h)
theorem cL {i j:Str} (h:Q (.bl (decide (V.str i=V.str j))) H):Mv K (.str i) (.str j) H Q:=.inl (cG h)
theorem cM {i j:Bool} (h:Q (.bl (decide (V.bl i=V.bl j))) H):Mv K (.bl i) (.bl j) H Q:=.inl (cH h)
end
end L2
namespace L2
open PySem PySem.Spec PyProof.Rows
open AutoSeq1 (wpAny_loadPart')
theorem Em:isSubtype (.type "dict") (.type "dict")=pure true:=by rw [Abb];kernel_rfl
theorem IW {prog:Program} {w:World} {A:Around} {E:Value->Shared->Prop} {s:Shared} {Q:Value->Shared->Prop} {a:Addr} {o:Obj} {e:DictEntry} {ep:Nat} {k:Key} (ho:s.heap.get? a=some o) (hc:o.cls= .type "dict") (hd:o.data= .dict #[e] ep)
  (hkey:(b8 prog w).is k e.key=true) (hh:e.hash=(b8 prog w).hash k) (hsm:(a == sysModules)=false) (hu:A.units < cLine) (h:Q (.bool true) s):wpAny (model prog w) A (compareOp .Eq (.ref a) (.ref a)) Q E s:=by
 show wpAny _ _ (richCompare .Eq (.ref a) (.ref a)) _ _ _
 refine wpAny_richCompare_same_room ⟨o,ho,hc⟩ ⟨o,ho,hc⟩ F.slot_dict_eq (AaB (Aae F.slot_dict_eq.plain F.entry_dict_eq (F.slot_dict_eq.check _ _ _ _ _ _ _ _ ⟨o,ho,hc⟩ (F.args_dict_eq_2 _ _) ?_))) hu
 have ko:KeysOf (b8 prog w) #[e]:=fun x hx=>by
  simp at hx
  subst hx
  exact ⟨k,hkey,hh⟩
 have f2:=Em
 obtain ⟨hp,g,d,tk,os⟩:=s
 have hT:(⟨hp,g,d,tk,os⟩:Shared).TypeIs (.ref a) "dict":=⟨_,ho,hc⟩
 unfold Builtin.«dict.__eq__»
 wp_walk using wpAny_loadPart' ho
 have en:∀ (Q:Array DictEntry->Shared->Prop) (E:Value->Shared->Prop),Q #[e] ⟨hp,g,d,tk,os⟩->wpAny (model prog w) A.in1 (dictEntries a) Q E ⟨hp,g,d,tk,os⟩:=fun Q E q=>by
  unfold dictEntries
  refine YS (Aai ho ?_)
  simp only [hd]
  exact YX q
 have eo:∀ (Q:Nat->Shared->Prop) (E:Value->Shared->Prop),Q ep ⟨hp,g,d,tk,os⟩->wpAny (model prog w) A.in1 (dictEpoch a) Q E ⟨hp,g,d,tk,os⟩:=fun Q E q=>by
  unfold dictEpoch
  refine YS (Aai ho ?_)
  simp only [hd]
  exact YX q
 simp only [hd]
 refine YX ?_
 refine YS (en _ _ ?_)
 rw [if_neg (by simp)]
 refine YS (eo _ _ ?_)
 refine YS ?_
 rw [Aau]
 simp only [Std.Legacy.Range.size,Abf,Nat.add_sub_cancel,Nat.div_one]
 show wpAny _ _ (forIn [0] _ _) _ _ _
 rw [List.forIn_cons]
 refine YS (YS (en _ _ ?_))
 show wpAny _ _ (holding [e.key,e.val] _ >>=_) _ _ _
 refine YS (Zw ?_)
 refine YS (show wpAny (model prog w) A.in1 (dictFind a e.key e.hash) _ _ _ from ?_)
 rw [hh]
 refine wpAny_dictFind_of hkey ho hd ko ?_
 have fi:(#[e]:Array DictEntry).findIdx? (fun e=>(b8 prog w).is k e.key)=some 0:=by simp [hkey]
 rw [fi]
 refine YS (en _ _ ?_)
 show wpAny _ _ (holding [e.val] (eqBool e.val e.val)) _ _ _
 refine Zw (AaH e.val prog w _ _ ?_)
 rw [if_neg (by simp)]
 refine YS (eo _ _ ?_)
 rw [if_neg (by simp)]
 refine YX ?_
 show wpAny _ _ (forIn [] _ _) _ _ _
 rw [List.forIn_nil]
 refine YX (YX ?_)
 exact YX ⟨(fun z=>nomatch z),h⟩
def X7:R2:=fun x y H Q=>(y= .non/\Q (.bl (decide (x= .non))) H)\/∃ a b,x= .bl a/\y= .bl b/\Q (.bl (a == b)) H
def Gr:R2:=fun x y H Q=>(y= .non/\Q (.bl (!decide (x= .non))) H)\/∃ a b,x= .bl a/\y= .bl b/\Q (.bl (!(a == b))) H
section
variable {X:Cx}
theorem VG:OpR X (compareOp .Is) X7:=Ut.or (by
 intro pins s U H x y v u Q I rx ry h
 obtain ⟨a,b,rfl,rfl,q⟩:=h
 cases rx
 cases ry
 exact is_bool ⟨.bl _,H,I,rfl,q⟩)
theorem Ja:OpR X (compareOp .IsNot) Gr:=Pz.or (by
 intro pins s U H x y v u Q I rx ry h
 obtain ⟨a,b,rfl,rfl,q⟩:=h
 cases rx
 cases ry
 exact isnot_bool ⟨.bl _,H,I,rfl,q⟩)
def Su (K:W.Frag):R2:=fun x y H Q=>∃ a b xs,x= .ref a/\y= .ref b/\SqT K H a xs/\SqT K H b xs/\(∀ v∈xs,jH v=true\/∃ r,v= .ref r)/\Q (.bl true) H
theorem QC (hu:X.A.units < cLine):OpR X (compareOp .Eq) (Su X.K):=by
 intro pins s U H x y v u Q I rx ry h
 obtain ⟨a,b,xs,rfl,rfl,ha,hb,fx,q⟩:=h
 cases rx
 cases ry
 obtain ⟨its,r1,p1,z1⟩:=I.tuple ha
 obtain ⟨jts,r2,p2,z2⟩:=I.tuple hb
 have l1:its.toArray.size=xs.length:=by simpa using r1.length.symm
 have l2:jts.toArray.size=xs.length:=by simpa using r2.length.symm
 refine SeqAt.eq_tupleAt (e:=fun _=>true) p1 p2 hu (fun j h1 h2=>?_) ?_
 ·have hj:j < xs.length:=by omega
  obtain ⟨u1,e1,q1⟩:=r1.get (YT hj)
  obtain ⟨u2,e2,q2⟩:=r2.get (YT hj)
  have f1:its.toArray[j]=u1:=by
   obtain ⟨_,z⟩:=YW.mp e1
   simpa using z
  have f2:jts.toArray[j]=u2:=by
   obtain ⟨_,z⟩:=YW.mp e2
   simpa using z
  rw [f1,f2]
  rcases fx _ (Aad hj) with f | ⟨r,f⟩
  ·rw [← tH f]
   exact pI q1 q2 f f
  ·rw [f] at q1 q2
   cases (show u1=Value.ref r from q1)
   cases (show u2=Value.ref r from q2)
   exact AaH _
 ·have e:((List.range (min its.toArray.size jts.toArray.size)).all (fun _=>true) && its.toArray.size == jts.toArray.size)=true:=by rw [l1,l2];simp
  rw [e]
  exact ⟨.bl true,H,I,rfl,q⟩
def Sv:R2:=fun x y H Q=>∃ a k v,x= .ref a/\y= .ref a/\H a=some (.dK [(k,v)])/\Q (.bl true) H
theorem QD (hu:X.A.units < cLine):OpR X (compareOp .Eq) Sv:=by
 intro pins s U H x y v u Q I rx ry h
 obtain ⟨a,k,z,rfl,rfl,ha,q⟩:=h
 cases rx
 cases ry
 obtain ⟨_,hsm,vs,kv,o,es,ep,h1,h2,h3,h4,h5,h6⟩:=(show ObjOk X.prog X.w H s.heap a (.dK [(k,z)]) from I.hok a _ ha)
 cases kv with
 | cons a1 a2=>
  cases a2
  obtain ⟨l⟩:=es
  dsimp only at h5
  cases h5 with
  | @cons en _ _ _ p1 p2 p3=>
   cases p3
   obtain ⟨k',b1,b2⟩:=h4 en (by simp)
   exact IW (e:=en) h1 h2.1 h3 b1 b2 hsm hu ⟨.bl true,H,I,rfl,q⟩
def Mw (K:W.Frag):R2:=fun x y H Q=>Mv K x y H Q\/Su K x y H Q\/Sv x y H Q
theorem ir {K:W.Frag} (hK:X.K=K) (hu:X.A.units+64 < cLine):OpR X (compareOp .Eq) (Mw K):=by
 subst hK
 exact (VF rfl hu).or ((QC (Aaq (Aar _ _) hu)).or (QD (Aaq (Aar _ _) hu)))
end
section
variable {H:Hp} {Q:VK} {K:W.Frag}
theorem bR {U:St} {r r':R2} {ta tb tc:TE} (h:ta U H fun x H1=>tb U H1 fun y H2=>r x y H2 fun z H3=>∃ k,z= .bl k/\if k=true then tc U H3 fun w H4=>r' y w H4 Q else Q (.bl false) H3):vZ r r' ta tb tc U H Q:=h
theorem gA {x:V} (h:Q (.bl (decide (x= .non))) H):X7 x .non H Q:=.inl ⟨rfl,h⟩
theorem bz {a b:Bool} (h:Q (.bl (!(a == b))) H):Gr (.bl a) (.bl b) H Q:=.inr ⟨a,b,rfl,rfl,h⟩
theorem cO {i j:Int} (h:Q (.bl (decide (V.int i=V.int j))) H):Mw K (.int i) (.int j) H Q:=.inl (cJ h)
theorem cQ {i j:Str} (h:Q (.bl (decide (V.str i=V.str j))) H):Mw K (.str i) (.str j) H Q:=.inl (cL h)
theorem cR {i j:Bool} (h:Q (.bl (decide (V.bl i=V.bl j))) H):Mw K (.bl i) (.bl j) H Q:=.inl (cM h)
end
end L2
namespace L2
open PySem PySem.Spec PyProof.Rows PySem.SeqAt
theorem cps_append (a b:Str):(a ++ b).cps.toList=a.cps.toList ++ b.cps.toList:=by
 show (a.cps ++ b.cps).toList=_
 rw [Array.toList_append]
theorem QF (lo hi:Option Int) (n:Nat):Builtin.Str.strSliceIndices lo hi 1 n=(List.range (HT.sIx n n hi - HT.sIx n 0 lo)).map fun k=>HT.sIx n 0 lo+k:=by
 have c:∀ (i:Int) (d:Nat),max 0 (min (if i < 0 then i+(n:Int) else i) (n:Int))=((HT.sIx n d (some i):Nat):Int):=by
  intro i d
  rw [← HT.clip_eq]
  split <;> omega
 have key:∀ a b:Nat,(List.range (if (a:Int) < (b:Int) then ((b:Int) - a+1 - 1) / 1 else 0).toNat).map (fun k:Nat=>((a:Int)+1*(k:Int)).toNat)=(List.range (b - a)).map fun k=>a+k:=by
  intro a b
  have e3:(if (a:Int) < (b:Int) then ((b:Int) - a+1 - 1) / 1 else 0).toNat=b - a:=by split <;> omega
  rw [e3]
  refine AaQ fun k _=>?_
  omega
 unfold Builtin.Str.strSliceIndices sliceRange
 simp only [show (1:Int) > 0 by decide,if_true]
 cases lo with
 | none=>
  cases hi with
  | none=>exact key 0 n
  | some j=>rw [← key,← c j n];rfl
 | some i=>
  cases hi with
  | none=>rw [← key,← c i 0];rfl
  | some j=>rw [← key,← c i 0,← c j n]
theorem Sw {α β:Type} {f:α->Option β} {g:α->β}:∀ (l:List α),(∀ k∈l,f k=some (g k))->l.filterMap f=l.map g
 | [],_=>rfl
 | k :: l,h=>by rw [Aay,h k (by simp),ZQ,Sw l fun j hj=>h j (Zg _ hj)]
theorem Jb (l:List Nat) (a m:Nat) (h:a+m<=l.length):((List.range m).map fun k=>a+k).filterMap (fun i=>l[i]?)=(l.drop a).take m:=by
 rw [List.filterMap_map,Sw (g:=fun k=>l.getD (a+k) 0)]
 ·refine Aa8 fun i=>?_
  rw [Zd,List.getElem?_take]
  by_cases hi:i < m
  ·rw [if_pos hi,Zo hi,List.getElem?_drop,YT (by omega)]
   simp [YT (show a+i < l.length by omega)]
  ·rw [if_neg hi,ZZ (by simp;omega)];rfl
 ·intro k hk
  have hk:=Zk.mp hk
  show l[a+k]?=_
  rw [YZ,YT (by omega)];rfl
theorem uv (z:Str) (lo hi:Option Int):(Txt.slice z lo hi).cps.toList=(z.cps.toList.drop (HT.sIx z.length 0 lo)).take (HT.sIx z.length z.length hi - HT.sIx z.length 0 lo):=by
 have hn:z.cps.toList.length=z.length:=by simp [Str.length]
 have la:=HT.sIx_le z.length 0 (Z7 _) lo
 have lb:=HT.sIx_le z.length z.length (Y4 _) hi
 unfold Txt.slice
 rw [QF]
 generalize HT.sIx z.length 0 lo=a at la ⊢
 generalize HT.sIx z.length z.length hi=b at lb ⊢
 split
 ·rename_i h
  simp at h
  have ha:a=0:=by
   rcases Nat.eq_zero_or_pos z.length with h0 | h0
   ·omega
   ·omega
  subst ha
  rw [List.drop_zero,Z3 (by omega)]
 ·show List.filterMap (fun x=>z.cps[x]?) _=_
  have e:(fun x:Nat=>z.cps[x]?)=fun x=>z.cps.toList[x]?:=by funext x;simp
  rw [e]
  by_cases h:a<=b
  ·exact Jb _ a (b - a) (by omega)
  ·rw [show b - a=0 by omega];simp
theorem wH (z:Str) (k:Nat):(Txt.slice z none (some (k:Int))).cps.toList=z.cps.toList.take k:=by
 rw [uv,HT.sIx_none,HT.sIx_nat,List.drop_zero,Abf]
 have hn:z.cps.toList.length=z.length:=by simp [Str.length]
 by_cases h:k<=z.length
 ·rw [Nat.min_eq_left h]
 ·rw [Abg (by omega),Z3 (by omega),Z3 (by omega)]
theorem rn (z:Str) (k:Nat):(Txt.slice z (some (k:Int)) none).cps.toList=z.cps.toList.drop k:=by
 rw [uv,HT.sIx_none,HT.sIx_nat]
 have hn:z.cps.toList.length=z.length:=by simp [Str.length]
 by_cases h:k<=z.length
 ·rw [Nat.min_eq_left h,Z3 (by rw [AaR];omega)]
 ·rw [Abg (by omega),Aa0 (by omega),Aa0 (by omega)];simp
theorem yL {xs:List V} {H:Hp} {R:Addr->Prop} (c:Nat.ble xs.length 64=true) (h:∀ p,H p=none->R p):xs.length<=sizeLine/\∀ p,H p=none->R p:=
 ⟨Zm (Nat.le_of_ble_eq_true c) (by decide),h⟩
theorem gB {A B:Prop} (h:A):if (!false)=true then A else B:=(if_pos (show (!false)=true from rfl)).mpr h
theorem gC {A B:Prop} (h:B):if (!true)=true then A else B:=by rw [if_neg (by simp)];exact h
theorem Sy {t u:TS} {D:Ends} {U:St} {H:Hp} (M:St->Hp->Prop) (h1:∀ U H,M U H->u D U H) (h2:∀ N,(∀ U H,M U H->N U H)->t {D with nx:=N} U H):Pb t u D U H:=h2 _ h1
theorem VH {α:Type} {xs:List α} {n:Nat} {v:α} (h:xs.length=n+1) (e:xs[n]?=some v):Do xs (-1)=some v:=by
 unfold Do JR
 rw [h,if_neg (by omega),if_pos (by omega)]
 show xs[((-1:Int)+((n+1:Nat):Int)).toNat]?=some v
 rw [show ((-1:Int)+((n+1:Nat):Int)).toNat=n by omega];exact e
end L2
namespace L2
open PySem PySem.Spec PyProof.Rows PySem.SeqAt
open AutoSeq1 (wpAny_loadPart')
theorem En {prog:Program} {w:World} {A:Around} {E:Value->Shared->Prop} {s:Shared} {Q:Value->Shared->Prop} {a:Addr} {o:Obj} {e:DictEntry} {ep:Nat} {k:Key} (ho:s.heap.get? a=some o) (hc:o.cls= .type "dict") (hd:o.data= .dict #[e] ep)
  (hkey:(b8 prog w).is k e.key=true) (hh:e.hash=(b8 prog w).hash k) (hsm:(a == sysModules)=false) (hu:A.units < cLine) (h:Q (.bool false) s):wpAny (model prog w) A (compareOp .NotEq (.ref a) (.ref a)) Q E s:=by
 show wpAny _ _ (richCompare .NotEq (.ref a) (.ref a)) _ _ _
 refine wpAny_richCompare_same_room ⟨o,ho,hc⟩ ⟨o,ho,hc⟩ F.slot_dict_ne (AaB (Aae F.slot_dict_ne.plain F.entry_dict_ne (F.slot_dict_ne.check _ _ _ _ _ _ _ _ ⟨o,ho,hc⟩ (F.args_dict_ne_2 _ _) ?_))) hu
 have ko:KeysOf (b8 prog w) #[e]:=fun x hx=>by
  simp at hx
  subst hx
  exact ⟨k,hkey,hh⟩
 have f2:=Em
 obtain ⟨hp,g,d,tk,os⟩:=s
 have hT:(⟨hp,g,d,tk,os⟩:Shared).TypeIs (.ref a) "dict":=⟨_,ho,hc⟩
 unfold Builtin.«dict.__ne__»
 wp_walk using wpAny_loadPart' ho
 have en:∀ (Q:Array DictEntry->Shared->Prop) (E:Value->Shared->Prop),Q #[e] ⟨hp,g,d,tk,os⟩->wpAny (model prog w) A.in1 (dictEntries a) Q E ⟨hp,g,d,tk,os⟩:=fun Q E q=>by
  unfold dictEntries
  refine YS (Aai ho ?_)
  simp only [hd]
  exact YX q
 have eo:∀ (Q:Nat->Shared->Prop) (E:Value->Shared->Prop),Q ep ⟨hp,g,d,tk,os⟩->wpAny (model prog w) A.in1 (dictEpoch a) Q E ⟨hp,g,d,tk,os⟩:=fun Q E q=>by
  unfold dictEpoch
  refine YS (Aai ho ?_)
  simp only [hd]
  exact YX q
 simp only [hd]
 refine YX ?_
 refine YS (en _ _ ?_)
 rw [if_neg (by simp)]
 refine YS (eo _ _ ?_)
 refine YS ?_
 rw [Aau]
 simp only [Std.Legacy.Range.size,Abf,Nat.add_sub_cancel,Nat.div_one]
 show wpAny _ _ (forIn [0] _ _) _ _ _
 rw [List.forIn_cons]
 refine YS (YS (en _ _ ?_))
 show wpAny _ _ (holding [e.key,e.val] _ >>=_) _ _ _
 refine YS (Zw ?_)
 refine YS (show wpAny (model prog w) A.in1 (dictFind a e.key e.hash) _ _ _ from ?_)
 rw [hh]
 refine wpAny_dictFind_of hkey ho hd ko ?_
 have fi:(#[e]:Array DictEntry).findIdx? (fun e=>(b8 prog w).is k e.key)=some 0:=by simp [hkey]
 rw [fi]
 refine YS (en _ _ ?_)
 show wpAny _ _ (holding [e.val] (eqBool e.val e.val)) _ _ _
 refine Zw (AaH e.val prog w _ _ ?_)
 rw [if_neg (by simp)]
 refine YS (eo _ _ ?_)
 rw [if_neg (by simp)]
 refine YX ?_
 show wpAny _ _ (forIn [] _ _) _ _ _
 rw [List.forIn_nil]
 refine YX (YX ?_)
 exact YX ⟨(fun z=>nomatch z),h⟩
theorem BX {prog:Program} {w:World} {A:Around} {E:Value->Shared->Prop} {s:Shared} {Q:Value->Shared->Prop} {a:Addr} {o:Obj} {ep:Nat} (ho:s.heap.get? a=some o) (hc:o.cls= .type "dict") (hd:o.data= .dict #[] ep)
  (hsm:(a == sysModules)=false) (hu:A.units < cLine) (h:Q (.bool false) s):wpAny (model prog w) A (compareOp .NotEq (.ref a) (.ref a)) Q E s:=by
 show wpAny _ _ (richCompare .NotEq (.ref a) (.ref a)) _ _ _
 refine wpAny_richCompare_same_room ⟨o,ho,hc⟩ ⟨o,ho,hc⟩ F.slot_dict_ne (AaB (Aae F.slot_dict_ne.plain F.entry_dict_ne (F.slot_dict_ne.check _ _ _ _ _ _ _ _ ⟨o,ho,hc⟩ (F.args_dict_ne_2 _ _) ?_))) hu
 have f2:=Em
 obtain ⟨hp,g,d,tk,os⟩:=s
 have hT:(⟨hp,g,d,tk,os⟩:Shared).TypeIs (.ref a) "dict":=⟨_,ho,hc⟩
 unfold Builtin.«dict.__ne__»
 wp_walk using wpAny_loadPart' ho
 have en:∀ (Q:Array DictEntry->Shared->Prop) (E:Value->Shared->Prop),Q #[] ⟨hp,g,d,tk,os⟩->wpAny (model prog w) A.in1 (dictEntries a) Q E ⟨hp,g,d,tk,os⟩:=fun Q E q=>by
  unfold dictEntries
  refine YS (Aai ho ?_)
  simp only [hd]
  exact YX q
 have eo:∀ (Q:Nat->Shared->Prop) (E:Value->Shared->Prop),Q ep ⟨hp,g,d,tk,os⟩->wpAny (model prog w) A.in1 (dictEpoch a) Q E ⟨hp,g,d,tk,os⟩:=fun Q E q=>by
  unfold dictEpoch
  refine YS (Aai ho ?_)
  simp only [hd]
  exact YX q
 simp only [hd]
 refine YX ?_
 refine YS (en _ _ ?_)
 rw [if_neg (by simp)]
 refine YS (eo _ _ ?_)
 refine YS ?_
 rw [Aau]
 simp only [Std.Legacy.Range.size,Abf,Nat.add_sub_cancel,Nat.div_one]
 show wpAny _ _ (forIn [] _ _) _ _ _
 rw [List.forIn_nil]
 refine YX (YX ?_)
 exact YX ⟨(fun z=>nomatch z),h⟩
def SJ:R2:=fun x y H Q=>∃ a kvs,x= .ref a/\y= .ref a/\H a=some (.dK kvs)/\kvs.length<=1/\Q (.bl false) H
section
variable {X:Cx}
theorem QG (hu:X.A.units < cLine):OpR X (compareOp .NotEq) SJ:=by
 intro pins s U H x y v u Q I rx ry h
 obtain ⟨a,kvs,rfl,rfl,ha,hl,q⟩:=h
 cases rx
 cases ry
 obtain ⟨_,hsm,vs,kv,o,es,ep,h1,h2,h3,h4,h5,h6⟩:=(show ObjOk X.prog X.w H s.heap a (.dK kvs) from I.hok a _ ha)
 match kvs,hl with
 | [],_=>
  cases kv
  obtain ⟨l⟩:=es
  dsimp only at h5
  cases h5
  exact BX h1 h2.1 h3 hsm hu ⟨.bl false,H,I,rfl,q⟩
 | [(k,z)],_=>
  cases kv with
  | cons a1 a2=>
   cases a2
   obtain ⟨l⟩:=es
   dsimp only at h5
   cases h5 with
   | @cons en _ _ _ p1 p2 p3=>
    cases p3
    obtain ⟨k',b1,b2⟩:=h4 en (by simp)
    exact En (e:=en) h1 h2.1 h3 b1 b2 hsm hu ⟨.bl false,H,I,rfl,q⟩
def VJ (K:W.Frag):R2:=fun x y H Q=>Qt K x y H Q\/SJ x y H Q
theorem VL {K:W.Frag} (hK:X.K=K) (hu:X.A.units+64 < cLine):OpR X (compareOp .NotEq) (VJ K):=(Eh hK hu).or (QG (Aaq (Aar _ _) hu))
end
section
variable {H:Hp} {Q:VK} {K:W.Frag} {U:St} {D:Ends}
theorem VM {i j:Str} (h:Q (.bl (!decide (V.str i=V.str j))) H):VJ K (.str i) (.str j) H Q:=.inl (cI h)
end
end L2
namespace L2
open PySem PySem.Spec PyProof.Rows
section
variable {X:Cx}
theorem VN {i:Nat} {x:Str} {e:Expr} {te:TE} {op:Operator} {r:R2} {pos pos':Pos} (hN:X.N.Nodup) (hi:X.N[i]?=some x) (hx:Loc X.env.scope x) (he:JE X e te) (ho:OpR X (inplaceOp op) r) (hf:X.fn x=true):
  JS X (.AugAssign (.Name x pos') op e pos) (Uk i te r):=⟨Ul hN hi hx he.run ho (.inl hf)⟩
end
section
variable {U:St} {H:Hp} {Q:VK} {D:Ends}
theorem Gs {i:Nat} {te:TE} {r:R2} {v:V} (e:U[i]?=some (some v)) (h:te U H fun y H1=>r v y H1 fun z H2=>D.nx (U.set i (some z)) H2):Uk i te r D U H:=⟨v,e,h⟩
end
def X8 (K:W.Frag):R2:=fun x y H Q=>Ld K x y H Q\/∃ a o,y= .ref a/\DGet H a x o/\Q (.bl o.isSome) H
def QH (K:W.Frag):R2:=fun x y H Q=>zF K x y H Q\/∃ a o,y= .ref a/\DGet H a x o/\Q (.bl (!o.isSome)) H
def tK:Dq:=fun o i v H R=>KJ o i v H R\/∃ a H4,o= .ref a/\DPut H a i v H4/\R H4
def Mx:V->List V->Hp->VK->Prop:=fun x vs H Q=>∃ (l:Addr) (ns:List Int) (k:Int),x= .ref l/\vs=[.int k]/\H l=some (.lst (ns.map V.int))/\ns.length<=1000/\(∀ x∈ns,0<=x/\x < 1000)/\k∈ns/\Q (.int (ns.idxOf k:Nat)) H
theorem uV:∀ {ns:List Int},(∀ x∈ns,0<=x/\x < 1000)->PyData.weightAll (ns.map PyData.int)<=12*ns.length/\PyData.canLayAll0 (ns.map PyData.int)=true/\PyData.depthAll (ns.map PyData.int)=0
 | [],_=>⟨by simp [PyData.weightAll],rfl,by simp [PyData.depthAll]⟩
 | n :: ns,h=>by
  obtain ⟨a,b,c⟩:=uV fun x hx=>h x (Zg _ hx)
  have hn:=h n (by simp)
  have hw:PyData.weight (.int n)<=11:=by
   rw [PyData.weight]
   split
   ·omega
   ·rename_i h0
    have h1:n.natAbs≠0:=fun z=>h0 (by simp;omega)
    have:n.natAbs.log2 < 10:=(Nat.log2_lt h1).mpr (by omega)
    omega
  rw [ZQ,PyData.weightAll,PyData.canLayAll0,PyData.depthAll,b,c]
  refine ⟨by simp;omega,by simp [PyData.canLay0],by simp [PyData.depth]⟩
theorem Aa {ns:List Int} (hl:ns.length<=1000) (h:∀ x∈ns,0<=x/\x < 1000):PyData.layable0 (.list (ns.map PyData.int))=true:=by
 obtain ⟨a,b,c⟩:=uV h
 unfold PyData.layable0
 rw [PyData.canLay0,b,PyData.depth,c,PyData.weight,Y9 (show 0+1<=64 by omega),Y9 (show PyData.weightAll (ns.map PyData.int)<=2 ^ 20 by omega)]
 rfl
def wI (n0:List V->Hp->(Int->Int->Nat->Prop)->Prop) (ta:TA):TE:=fun U H Q=>ta U H fun vs H1=>n0 vs H1 fun lo c n=>∀ q,H1 q=none->Q (.ref q) (upd H1 q (.lst ((List.range n).map fun i:Nat=>V.int (lo+(i:Int)*c))))
def Yb:List V->Hp->(Int->Int->Nat->Prop)->Prop:=fun vs _ R=>∃ n:Nat,vs=[.int n]/\n<=1000000/\R 0 1 n
theorem Jc {lo c:Int} {n:Nat} {acc:Array Value} (h:ItemsOf (fun i v=>∃ t,v= .int (lo+i*c) t) acc n):Vals ((List.range n).map fun i:Nat=>V.int (lo+(i:Int)*c)) acc.toList:=by
 obtain ⟨h1,h2⟩:=h
 have key:∀ (k:Nat) (a:List Value) (b:Nat),a.length=k->(∀ (j:Nat) (v:Value),a[j]?=some v->∃ t,v= .int (lo+((b+j:Nat):Int)*c) t)->Vals ((List.range' b k).map fun i:Nat=>V.int (lo+(i:Int)*c)) a:=by
  intro k
  induction k with
  | zero=>intro a b hl _;cases a with
   | nil=>exact .nil
   | cons _ _=>simp at hl
  | succ k ih=>
   intro a b hl hh
   cases a with
   | nil=>simp at hl
   | cons v a=>
    obtain ⟨t,e⟩:=hh 0 v (by simp)
    rw [List.range'_succ,ZQ]
    refine .cons ⟨t,by simpa using e⟩ (ih a (b+1) (by simpa using hl) fun j v' e=>?_)
    obtain ⟨t,e⟩:=hh (j+1) v' (by simpa using e)
    exact ⟨t,by rw [e];congr 3;omega⟩
 rw [List.range_eq_range']
 refine key n acc.toList 0 (by simpa using h1) fun j v e=>?_
 obtain ⟨t,e⟩:=h2 j v (by simpa using e)
 exact ⟨t,by rw [e];congr 3;simp⟩
section
variable {X:Cx}
theorem Mz:R5 X "list.index" Mx:=by
 intro pins s U H x xs v us Q I rx r h
 obtain ⟨l,ns,k,rfl,rfl,hl,hn,hb,hk,q⟩:=h
 obtain ⟨u,rfl,t,rfl⟩:=vals1 r
 cases rx
 obtain ⟨hz,its,n,rv,g⟩:=I.hok l _ hl
 exact index_list_ints (vs:=its) ⟨_,g,rfl,n,rfl⟩ (intsAre_of rv) (Aa hn hb) hk ⟨.int _,H,I.tok _,⟨_,rfl⟩,q⟩
theorem tL {pins:List (Addr×Obj)} {U:St} {H1:Hp} {s1:Shared} {Q:VK} {E:Value->Shared->Prop} {lo hi c:Int} {t u v:Tok} {tk n:Nat} (hc:X.calm=true) (I1:Inv X pins U H1 s1) (hs:Builtin.Range.small lo hi c=true) (hn:Builtin.Range.rangeSize lo hi c=(n:Int)) (hl:n<=1000000)
  (q:∀ q,H1 q=none->Q (.ref q) (upd H1 q (.lst ((List.range n).map fun i:Nat=>V.int (lo+(i:Int)*c))))):
  wpAny (model X.prog X.w) X.A (call (.type "list") [.ref s1.heap.objs.size]) (EP X pins U Q) E {s1 with heap:=s1.heap.push {cls:=.type "range",data:=.fields #[.int lo t,.int hi u,.int c v]},toks:=tk}:=by
 have I2:Inv X pins U H1 {s1 with heap:=s1.heap.push {cls:=.type "range",data:=.fields #[.int lo t,.int hi u,.int c v]},toks:=tk}:=I1.kept fun b o e=>Y0 _ e
 refine call_list_range (n:=n) (I1.ok.hd hc) (IsRange.new ..) hs hn (by omega) fun h' tk' acc' c' hk hS hacc=>?_
 have hsl:n<=sizeLine:=Zm hl (by decide)
 exact ⟨.ref _,_,I2.laid (t':=tk') (o:=.lst ((List.range n).map fun i:Nat=>V.int (lo+(i:Int)*c))) hk (Y4 _) ⟨by simpa using hsl,acc'.toList,c',Jc hacc,by simpa using hS⟩,rfl,q _ I2.fresh⟩
theorem Eo {a:Expr} {ta:TA} {p p2 p3 pos:Pos} (hc:X.calm=true) (hg:Gl X "list") (hm:X.mg "list"=none) (hg2:Gl X "range") (hm2:X.mg "range"=none) (ha:JA X [a] ta) (h:autoParam (notStar a=true) L2.auto4._auto_1):
  JE X (.Call (.Name "list" p) [.Call (.Name "range" p2) [a] [] p3] [] pos) (wI Yb ta):=⟨by
 intro pins s U H Q I hq
 refine ZG (jc I hg hm mq (Zn (arg1 rfl (ZG (jc I hg2 hm2 boot_range (Zn (dW (ha.run p3 pins s U H _ I hq) fun us s1 qq0=>?_) (bH h) rfl)))) rfl rfl))
 obtain ⟨vs,H1,I1,r1,q1⟩:=qq0
 obtain ⟨n,rfl,hn,q⟩:=q1
 obtain ⟨u,rfl,t,rfl⟩:=vals1 r1
 exact call_range_1 (tL hc I1 (small_one (by omega) (by omega) (by omega) (by omega)) (by rw [rangeSize_one];split <;> omega) hn q)⟩
theorem MF {K:W.Frag} (hK:X.K=K) (hu:X.A.units+64 < cLine):OpR X (compareOp .In) (X8 K):=(wA hK).or (by
 intro pins s U H x y v u Q I rx ry h
 obtain ⟨a,o,rfl,g,q⟩:=h
 obtain rfl:u=Value.ref a:=ry
 exact d_in (by omega) I g rx fun s3 I3=>⟨.bl o.isSome,H,I3,rfl,q⟩)
theorem Jd {K:W.Frag} (hK:X.K=K) (hu:X.A.units+64 < cLine):OpR X (compareOp .NotIn) (QH K):=(Ii hK).or (by
 intro pins s U H x y v u Q I rx ry h
 obtain ⟨a,o,rfl,g,q⟩:=h
 obtain rfl:u=Value.ref a:=ry
 exact Qg (by omega) I g rx fun s3 I3=>⟨.bl (!o.isSome),H,I3,rfl,q⟩)
theorem nU (hu:X.A.units+64 < cLine):Pk X tK:=by
 intro pins s U H o i v ov iv u Q I ro ri rv h
 rcases h with h | ⟨a,H4,rfl,g,q⟩
 ·exact set_list pins s U H o i v ov iv u Q I ro ri rv h
 ·obtain rfl:ov=Value.ref a:=ro
  exact Ib (by omega) I g ri rv fun s4 I4=>⟨H4,I4,q⟩
end
section
variable {U:St} {H:Hp} {Q:VK} {K:W.Frag}
theorem jh {n0:List V->Hp->(Int->Int->Nat->Prop)->Prop} {ta:TA} (h:ta U H fun vs H1=>n0 vs H1 fun lo c n=>∀ q,H1 q=none->Q (.ref q) (upd H1 q (.lst ((List.range n).map fun i:Nat=>V.int (lo+(i:Int)*c))))):wI n0 ta U H Q:=h
theorem QJ {n:Nat} {R:Int->Int->Nat->Prop} (hn:n<=1000000) (h:R 0 1 n):Yb [.int n] H R:=⟨n,rfl,hn,h⟩
theorem ji {x y:Str} (h:Q (.bl (!(Builtin.Str.occurrences y x 0 y.length 1).isEmpty)) H):X8 K (.str x) (.str y) H Q:=.inl (fJ h)
theorem tM {p:Addr} {xs:List V} {i:Int} {n:Nat} {v:V} {R:Hp->Prop} (hp:H p=some (.lst xs)) (e:JR xs.length i=some n) (h:R (upd H p (.lst (xs.set n v)))):tK (.ref p) (.int i) v H R:=.inl (cC hp e h)
end
end L2
namespace L2
open PySem PySem.Spec PyProof.Rows
open PySem.Sem (wp)
open PySem.AutoSeq1 (wpAny_loadPart')
end L2
namespace L2
open PySem PySem.Spec PyProof.Rows
end L2
namespace L2
open PySem PySem.Spec PyProof.Rows
open PySem.Sem (wp)
open PySem.AutoSeq1 (wpAny_loadPart')
end L2
namespace L2
open PySem PySem.Spec PyProof.Rows
end L2
namespace L2
open PySem PySem.Spec PyProof.Rows
open PySem.Sem (wp)
end L2
namespace L2
open PySem PySem.Spec PyProof.Rows
end L2
namespace L2
open PySem PySem.Spec PyProof.Rows
open PySem.Sem (wp)
end L2
namespace L2
open PySem PySem.Spec PyProof.Rows
open PySem.Sem (wp)
open AutoSeq1 (wpAny_loadPart')
end L2
namespace L2
open PySem PySem.W PySem.Spec PyProof.Rows
end L2
namespace L2
open PySem PySem.Spec PyProof.Rows
open PySem.Sem (wp)
end L2
namespace L2
open PySem PySem.Spec PyProof.Rows
open PySem.Sem (wp)
open PySem.AutoSeq1 (wpAny_loadPart')
end L2
namespace L2
open PySem PySem.Spec PyProof.Rows
open PySem.Sem (wp)
end L2
namespace L2
open PySem PySem.Spec PyProof.Rows
def Wx (K:W.Frag) (a:Addr) (n:Nat):It:=
 ⟨fun i H=>i < n/\∃ xs,SqL K H a xs/\xs.length=n,
  fun i H v H'=>H'=H/\∀ xs,SqL K H a xs->xs[n - 1 - i]?=some v,
  fun i _=>i=n⟩
theorem MJ {P:Program} {w:World} {K:W.Frag} {tg:Expr} {n:Nat} {it a:Addr} (hai:a≠it):
  Turn P w K tg (Wx K a n) [it] it (fun i h=>i<=n/\h.IsRevIter it a ((n:Int) - 1 - (i:Int))) where
 mem:=by simp
 obj:=fun i h st c hc=>by
  obtain ⟨_,⟨o1,e1,c1,d1⟩⟩:=st
  have e:c=it:=by simpa using hc
  subst e
  exact ⟨_,e1,fun v z=>by rw [d1] at z;cases z⟩
 keep:=fun i h h' st kk=>⟨st.1,st.2.at fun o q=>kk it (by simp) o q⟩
 item:=by
  intro X hP hw hK hc i pins s U H E I hf st hg
  subst hP hw hK
  obtain ⟨hi,h1⟩:=st
  obtain ⟨hlt,xs,hq,hlen⟩:=hg
  obtain ⟨its,rv,p,_⟩:=I.list hq
  have l1:=rv.length
  obtain ⟨x,hx⟩:∃ x,xs[n - 1 - i]?=some x:=⟨_,YT (by omega)⟩
  obtain ⟨u,hu,ru⟩:=rv.get hx
  obtain ⟨f0,f1,f2,f3,f4,f5⟩:=hf it (by simp)
  have e:(n:Int) - 1 - (i:Int)=((n - 1 - i:Nat):Int):=by omega
  rw [e] at h1
  refine wpAny_pyNext_rev_item h1 p.isList (x:=u) (by simpa using hu) fun h' st' sb=>?_
  have I1:Inv X pins U H {s with heap:=h'}:=I.turned (t':=s.toks) (fun b o hb e=>(sb.2 b hb).trans e) f0 f1 f3 f4 f5
  obtain ⟨o,eo,c,d⟩:=id st'
  refine ⟨u,rfl,yj (s:={s with heap:=h'}) eo c d (by decide) ⟨x,H,I1,ru,⟨rfl,fun ys hy=>by rw [I.list_inj hy hq];exact hx⟩,⟨hlt,?_⟩,fun b hb=>(hf b hb).1⟩⟩
  have e2:((n - 1 - i:Nat):Int) - 1=(n:Int) - 1 - ((i+1:Nat):Int):=by omega
  rw [← e2]
  exact st'
 done:=by
  intro X hP hw hK hc i pins s U H E I hf st hg
  subst hP hw hK
  obtain ⟨hi,h1⟩:=st
  have hin:i=n:=hg
  subst hin
  rw [show (i:Int) - 1 - (i:Int)= -1 by omega] at h1
  obtain ⟨f0,f1,f2,f3,f4,f5⟩:=hf it (by simp)
  exact wpAny_pyNext_rev_end (I.ok.hd hc) h1 fun h' eb=>⟨rfl,I.turned (t':=s.toks) (fun b o hb e=>eb b o hb e) f0 f1 f3 f4 f5⟩
 self:=fun _ _ _ _ _ st h=>wpAny_pyIter_revIter st.2 h
def SM (K:W.Frag):R2:=fun x y H Q=>∃ a b xs,x= .ref a/\y= .ref b/\SqT K H a xs/\SqT K H b xs/\(∀ v∈xs,jH v=true\/∃ r,v= .ref r)/\Q (.bl false) H
section
variable {X:Cx}
theorem QK (hu:X.A.units < cLine):OpR X (compareOp .NotEq) (SM X.K):=by
 intro pins s U H x y v u Q I rx ry h
 obtain ⟨a,b,xs,rfl,rfl,ha,hb,fx,q⟩:=h
 cases rx
 cases ry
 obtain ⟨its,r1,p1,z1⟩:=I.tuple ha
 obtain ⟨jts,r2,p2,z2⟩:=I.tuple hb
 have l1:its.toArray.size=xs.length:=by simpa using r1.length.symm
 have l2:jts.toArray.size=xs.length:=by simpa using r2.length.symm
 refine SeqAt.RcNeAt.tuples (e:=fun _=>true) p1 p2 hu (fun j h1 h2=>?_) X.prog X.w _ _ ?_
 ·have hj:j < xs.length:=by omega
  obtain ⟨u1,e1,q1⟩:=r1.get (YT hj)
  obtain ⟨u2,e2,q2⟩:=r2.get (YT hj)
  have f1:its.toArray[j]=u1:=by
   obtain ⟨_,z⟩:=YW.mp e1
   simpa using z
  have f2:jts.toArray[j]=u2:=by
   obtain ⟨_,z⟩:=YW.mp e2
   simpa using z
  rw [f1,f2]
  rcases fx _ (Aad hj) with f | ⟨r,f⟩
  ·rw [← tH f]
   exact pI q1 q2 f f
  ·rw [f] at q1 q2
   cases (show u1=Value.ref r from q1)
   cases (show u2=Value.ref r from q2)
   exact AaH _
 ·have e:(!((List.range (min its.toArray.size jts.toArray.size)).all (fun _=>true) && its.toArray.size == jts.toArray.size))=false:=by rw [l1,l2];simp
  rw [e]
  exact ⟨.bl false,H,I,rfl,q⟩
def Yc (K:W.Frag):R2:=fun x y H Q=>VJ K x y H Q\/SM K x y H Q
theorem Ab {K:W.Frag} (hK:X.K=K) (hu:X.A.units+64 < cLine):OpR X (compareOp .NotEq) (Yc K):=by
 subst hK
 exact (VL rfl hu).or (QK (Aaq (Aar _ _) hu))
end
section
variable {K:W.Frag} {H:Hp} {Q:VK}
theorem MK {i j:Str} (h:Q (.bl (!decide (V.str i=V.str j))) H):Yc K (.str i) (.str j) H Q:=.inl (VM h)
end
structure jw (K:W.Frag) (mg:Str->Option Value) (x:Str):Prop where
 at_:mg x=some (.ref (aF mg x))
 cl:Cls K (aF mg x)
 makes:PySem.W.makesIn K (aF mg x)=true
 kp:PySem.W.keepIn K (.ref (aF mg x))=true
def clsIn (K:W.Frag) (C:Addr):Bool:=PySem.W.plainGet K C Str.empty && PySem.W.hasDictIn K C && PySem.W.plainOver K C
theorem uW {K:W.Frag} {mg:Str->Option Value} {h:Heap} (X:K.In h) (G:h.Ns mainGlobals mg) {x:Str} {C:Addr} (a:PySem.W.nsIn K mainGlobals x=some (some (.ref C))) (b:clsIn K C=true)
  (s:PySem.W.findIn K (.ref C) "__setattr__"=some (some (.builtin "object.__setattr__"))) (m:PySem.W.makesIn K C=true) (k:PySem.W.keepIn K (.ref C)=true):jw K mg x:=by
 have e0:=ZF X G a
 have e:=eQ e0
 unfold clsIn at b
 simp only [Zb] at b
 exact ⟨by rw [e];exact e0,by rw [e];exact ⟨b.1.1,b.1.2,b.2,s⟩,by rw [e];exact m,by rw [e];exact k⟩
structure jP (K:W.Frag) (mg:Str->Option Value) (x m qual:Str) (st:Stmt):Prop where
 ex:∃ f fd,Meth K (aF mg x) m f/\Fun K m qual st f fd
theorem o5 {K:W.Frag} {mg:Str->Option Value} {h:Heap} (X:K.In h) (G:h.Ns mainGlobals mg) {x m qual:Str} {C f:Addr} {st:Stmt} {oc:Value} {od an:Option Addr} {osl:Array (Option Value)} {kV doc pm cdv ct:Value}
  (a:PySem.W.nsIn K mainGlobals x=some (some (.ref C))) (i:PySem.W.findIn K (.ref C) m=some (some (.ref f))) (n:PySem.W.isFn K (.ref f)=true)
  (l:K.lookup f=some ⟨oc,od,.func (PySem.W.fnOf m qual (d9 st) (bG st) (az st) .none kV doc pm an cdv ct),osl⟩) (c:PySem.W.codeIn K cdv qual=true) (k:PySem.W.keepIn K (.ref f)=true):jP K mg x m qual st:=by
 have e:=eQ (ZF X G a)
 exact ⟨f,_,by rw [e];exact ⟨i,n,k⟩,wg l c k⟩
theorem uX {K:W.Frag} {mg:Str->Option Value} {h:Heap} (X:K.In h) (G:h.Ns mainGlobals mg) {x:Str} {C:Addr} {fl:List Str} (a:PySem.W.nsIn K mainGlobals x=some (some (.ref C))) (b:Mt K C fl=true):∀ f∈fl,NoAttr K (aF mg x) f:=fun n hn=>by
 rw [eQ (ZF X G a)]
 have:=gV.mp b n hn
 first | exact of_decide_eq_true this | exact Aao.mp this | simpa using this
def jx (j:Nat):Stmt->Stmt
 | .ClassDef _ _ _ ss _ _ _ _ _ _ _=>ss.getD j (.Pass ⟨0,0,0,0⟩)
 | s=>s
def nY (P:Program) (w:World) (K:W.Frag) (mg:Str->Option Value) (base:Heap) (k:Nat) (x m:Str) (ps:List Str) (sp:Sp):Prop:=
 ∃ f fd,Meth K (aF mg x) m f/\Binds K fd ps []/\FnOk P w K mg base (Iu P w) k f fd ps sp
section
variable {P:Program} {w:World} {K:W.Frag} {mg:Str->Option Value} {base:Heap}
theorem vh {x m qual:Str} {st:Stmt} {N ps:List Str} {k:Nat} {sp:Sp} (D:jP K mg x m qual st) (S:aC N ps (az st))
  (hb:∀ (kV doc pm:Value) (an:Option Addr) (cdv ct:Value) (us:List Value),us.length=ps.length->bindArgs (PySem.W.fnOf m qual (d9 st) (bG st) (az st) .none kV doc pm an cdv ct) ⟨us,[]⟩=pure (ps.zip us))
  (len:∀ vs H Q E,sp vs H Q E->vs.length=ps.length)
  (hbody:∀ (f:Addr) (cdv:Value) (A:Around) (outer:List Env) (s:Shared) (H:Hp) (vs:List V) (Q:VK) (E:XK),Room k (A.deeper (envOfC qual (az st) s.heap.objs.size f cdv))->sp vs H Q E->
   ∃ t,JB (pH (Iu P w) P w K mg base N qual (az st) f cdv A outer s H E) (bG st) t/\t {nx:=fun _ H'=>Q .non H',rt:=Q} (start N vs) H):nY P w K mg base (k+1) x m ps sp:=by
 obtain ⟨f,fd,hm,F⟩:=D.ex
 refine ⟨f,fd,hm,F.binds hb,?_⟩
 obtain ⟨oc,od,kV,doc,pm,an,cdv,ct,osl,rfl,lk,hcd⟩:=F.ex
 exact Bh lk hcd S len fun A outer s H vs Q E hr h=>let ⟨t,j,q⟩:=hbody f cdv A outer s H vs Q E hr h;⟨t,j.run,q⟩
end
def Ac (C:Addr) (m:Str) (sp:Sp) (R:St->XK) (ta:TE) (t:TA):TE:=fun U H Q=>ta U H fun x H1=>∃ a dx fs,x= .ref a/\H1 a=some (.ins C dx fs)/\fs.lookup m=none/\t U H1 fun vs H2=>sp (x :: vs) H2 Q (R U)
def Ep (C:Addr) (sp:Sp) (R:St->XK) (t:TA):TE:=fun U H Q=>t U H fun vs H1=>∀ x dx,H1 x=none->H1 dx=none->dx≠x->
 sp (.ref x :: vs) (upd (upd H1 dx (.own x)) x (.ins C dx [])) (fun v H2=>v= .non/\Q (.ref x) H2) (R U)
section
variable {X:Cx} {K:W.Frag} {k:Nat} {f C:Addr} {ps:List Str} {sp:Sp} {R:St->XK} {x m fn:Str} {p pos apos pos':Pos} {e o value:Expr} {es:List Expr} {ta tv:TE} {t:TA} {pins:List (Addr×Obj)} {U:St} {H:Hp} {s:Shared} {Q:VK} {us:List Value} {vs:List V}
theorem nZ {pl:Sem Bool} (he:JE X o ta) (c:jw X.K X.mg x) (F:nY X.prog X.w X.K X.mg X.base k x m ps sp) (hr:Room k X.A) (hx:jO X R) (ha:JA X (e :: es) t)
  (hs:autoParam ((e :: es).all notStar=true) L2.auto4._auto_1)
  (ht:eval (.Call (.Attribute o m apos) (e :: es) [] pos) X.env=(do
   let ov ← eval o X.env
   standAt apos.atName
   let (f,first) ← holding [ov] (getMethod ov m pl)
   callWith pos f first (backTo pos (starEach (e :: es) X.env)) (backToKw pos (keywordEach [] X.env))):=by rfl):
  JE X (.Call (.Attribute o m apos) (e :: es) [] pos) (Ac (aF X.mg x) m sp R ta t):=⟨by
 have h1:notStar e=true:=by simp only [ZC,Zb] at hs;exact hs.1
 have h2:es.all notStar=true:=by simp only [ZC,Zb] at hs;exact hs.2
 obtain ⟨f,fd,hm,hb,F⟩:=F
 intro pins s U H Q I h
 refine Aa6 (pl:=pl) (dW (he.run pins s U H _ I h) fun u s1 qq0=>?_) ht
 obtain ⟨x,H1,I1,rx,a,dx,fs,ex,ea,l,q⟩:=qq0
 subst ex
 obtain rfl:u=Value.ref a:=rx
 refine qY I1 ea c.cl hm l ?_
 refine AaC (first:=[.ref a]) (h₀:=X.base) I.ok.mod.kin hm.kp (dW (ha.run pos pins s1 U H1 _ I1 q) fun us s2 ⟨vs,H2,I2,r,q2⟩=>⟨I2.kIn,?_⟩) (bH h1) (lB h2)
 exact sY (us:=.ref a :: us) (vs:=.ref a :: vs) F hr hb hx I2 (.cons rfl r) q2⟩
theorem wJ {pl:Sem Bool} (he:JE X o ta) (c:jw X.K X.mg x) (F:nY X.prog X.w X.K X.mg X.base k x m ps sp) (hr:Room k X.A) (hx:jO X R)
  (ht:eval (.Call (.Attribute o m apos) [] [] pos) X.env=(do
   let ov ← eval o X.env
   standAt apos.atName
   let (f,first) ← holding [ov] (getMethod ov m pl)
   callWith pos f first (backTo pos (starEach [] X.env)) (backToKw pos (keywordEach [] X.env))):=by rfl):
  JE X (.Call (.Attribute o m apos) [] [] pos) (Ac (aF X.mg x) m sp R ta Ky):=⟨by
 obtain ⟨f,fd,hm,hb,F⟩:=F
 intro pins s U H Q I h
 refine Aa6 (pl:=pl) (dW (he.run pins s U H _ I h) fun u s1 qq0=>?_) ht
 obtain ⟨x,H1,I1,rx,a,dx,fs,ex,ea,l,q⟩:=qq0
 subst ex
 obtain rfl:u=Value.ref a:=rx
 refine qY I1 ea c.cl hm l ?_
 exact PySem.W.callWith_K0 (first:=[.ref a]) I1.kIn hm.kp (sY (us:=[.ref a]) (vs:=[.ref a]) F hr hb hx I1 (.cons rfl .nil) q)⟩
theorem Je (c:jw X.K X.mg x) (F:nY X.prog X.w X.K X.mg X.base k x "__init__" ps sp) (hr:Room (k+1) X.A) (hx:jO X R) (I:Inv X pins U H s) (r:Vals vs us)
  (h:∀ y dx,H y=none->H dx=none->dx≠y->sp (.ref y :: vs) (upd (upd H dx (.own y)) y (.ins (aF X.mg x) dx [])) (fun v H2=>v= .non/\Q (.ref y) H2) (R U)):
  wpAny (model X.prog X.w) X.A (call (.ref (aF X.mg x)) us) (EP X pins U Q) X.xe s:=by
 obtain ⟨f,fd,hm,hb,F⟩:=F
 have hq:=h (s.heap.objs.size+1) s.heap.objs.size (I.hok.fresh (Nat.le_succ _)) (I.hok.fresh (Y4 _)) (Zt (Nat.lt_succ_self _))
 have I2:=Inv.made (C:=aF X.mg x) I
 have r2:Vals (V.ref (s.heap.objs.size+1) :: vs) (Value.ref (s.heap.objs.size+1) :: us):=.cons rfl r
 have hl:((Value.ref (s.heap.objs.size+1) :: us) ++ []).length=ps.length:=by
  have e:=r2.length
  rw [F.len _ _ _ _ hq] at e
  rw [ZV]
  exact e.symm
 have bd:=hb _ (Value.ref (s.heap.objs.size+1) :: us) I2.kIn hl
 rw [ZV] at bd
 refine AaB (Kw (f:=f) I.kIn c.makes hm.at_ (Aao.mp hm.fn) (codeAny_mono (F.run _ X.stack _ _ ⟨Value.ref (s.heap.objs.size+1) :: us,[]⟩ (Value.ref (s.heap.objs.size+1) :: us) _ _ (R U) (hr.make (aF X.mg x) us [])
  (I2.env0.make (aF X.mg x) us []) bd r2 hq) fun r s' hq'=>?_))
 cases r with
 | error e=>exact hx pins e s' (Gh I2 hq')
 | ok fl=>
  cases fl with
  | ret u=>
   obtain ⟨v,H',I3,rv,ev,q3⟩:=I2.after hq'
   subst ev
   exact ⟨rv,⟨V.ref (s.heap.objs.size+1),H',I3,rfl,q3⟩⟩
  | next=>exact False.elim hq'
  | brk=>exact False.elim hq'
  | cont=>exact False.elim hq'
theorem jF (c:jw X.K X.mg x) (F:nY X.prog X.w X.K X.mg X.base k x "__init__" ps sp) (hr:Room (k+1) X.A) (hg:Gl X x) (hx:jO X R) (ha:JA X (e :: es) t) (hdb:(x == ("__debug__":Str))=false) (h:autoParam ((e :: es).all notStar=true) L2.auto4._auto_1):
  JE X (.Call (.Name x p) (e :: es) [] pos) (Ep (aF X.mg x) sp R t):=⟨by
 have h1:notStar e=true:=by simp only [ZC,Zb] at h;exact h.1
 have h2:es.all notStar=true:=by simp only [ZC,Zb] at h;exact h.2
 intro pins s U H Q I h
 refine ZG (lZ I hg c.at_ ?_ hdb)
 refine AaC (h₀:=X.base) I.ok.mod.kin c.kp (dW (ha.run pos pins s U H _ I h) fun us s1 ⟨vs,H1,I1,r,q⟩=>⟨I1.kIn,?_⟩) (bH h1) (lB h2)
 exact Je c F hr hx I1 r q⟩
theorem tO (hK:X.K=K) (he:JE X e ta) (h:autoParam (sO e=true) L2.auto4._auto_1):JE X (.Attribute e fn pos) (Uu K ta fn):=by
 subst hK
 exact ⟨Uw he.run (by cases e <;> first | rfl | cases h)⟩
theorem jy (hK:X.K=K) (ha:JE X o ta) (hv:JE X value tv) (h:autoParam (mj value=true) L2.auto4._auto_1):JS X (.Assign [.Attribute o fn pos'] value pos) (Uv K ta tv fn):=by
 subst hK
 exact ⟨Ux ha.run hv.run (By h)⟩
end
section
variable {U:St} {H:Hp} {D:Ends} {Q:VK} {sp:Sp} {R:St->XK} {a:TA} {K:W.Frag} {C:Addr} {ta tv:TE} {f m:Str}
theorem bT (h:ta U H fun x H1=>∃ b dx fs,x= .ref b/\H1 b=some (.ins C dx fs)/\fs.lookup m=none/\a U H1 fun vs H2=>sp (x :: vs) H2 Q (R U)):Ac C m sp R ta a U H Q:=h
theorem bU (h:a U H fun vs H1=>∀ x dx,H1 x=none->H1 dx=none->dx≠x->sp (.ref x :: vs) (upd (upd H1 dx (.own x)) x (.ins C dx [])) (fun v H2=>v= .non/\Q (.ref x) H2) (R U)):Ep C sp R a U H Q:=h
theorem gD (h:ta U H fun x H1=>∃ a C dx fs v,x= .ref a/\H1 a=some (.ins C dx fs)/\Cls K C/\NoAttr K C f/\fs.lookup f=some v/\Q v H1):Uu K ta f U H Q:=h
theorem dJ (h:tv U H fun y H1=>ta U H1 fun x H2=>∃ a C dx fs,x= .ref a/\H2 a=some (.ins C dx fs)/\Cls K C/\NoAttr K C f/\fs.length < 1000/\D.nx U (upd H2 a (.ins C dx (lA f y fs)))):Uv K ta tv f D U H:=h
end
section
variable {X:Cx} {mg:Str->Option Value} {o:Expr} {ta:TE} {t:TA} {x m:Str} {ps:List Str} {sp:Sp} {k:Nat} {R:St->XK} {e:Expr} {es:List Expr} {pos apos:Pos}
theorem tQ {pl:Sem Bool} (hmg:X.mg=mg) (he:JE X o ta) (c:jw X.K X.mg x) (F:nY X.prog X.w X.K X.mg X.base k x m ps sp) (hr:Room k X.A) (hx:jO X R) (ha:JA X (e :: es) t)
  (hs:autoParam ((e :: es).all notStar=true) L2.auto4._auto_1)
  (ht:eval (.Call (.Attribute o m apos) (e :: es) [] pos) X.env=(do
   let ov ← eval o X.env
   standAt apos.atName
   let (f,first) ← holding [ov] (getMethod ov m pl)
   callWith pos f first (backTo pos (starEach (e :: es) X.env)) (backToKw pos (keywordEach [] X.env))):=by rfl):
  JE X (.Call (.Attribute o m apos) (e :: es) [] pos) (Ac (aF mg x) m sp R ta t):=by
 subst hmg
 exact nZ he c F hr hx ha hs ht
theorem BZ {p:Pos} (hmg:X.mg=mg) (c:jw X.K X.mg x) (F:nY X.prog X.w X.K X.mg X.base k x "__init__" ps sp) (hr:Room (k+1) X.A) (hg:Gl X x) (hx:jO X R) (ha:JA X (e :: es) t) (hdb:(x == ("__debug__":Str))=false) (h:autoParam ((e :: es).all notStar=true) L2.auto4._auto_1):
  JE X (.Call (.Name x p) (e :: es) [] pos) (Ep (aF mg x) sp R t):=by
 subst hmg
 exact jF c F hr hg hx ha hdb h
end
section
variable {U:St} {H:Hp} {Q:VK}
def VP (o:HO) (n:Nat) (H:Hp) (Q:VK):Prop:=n<=sizeLine/\∀ p,H p=none->Q (.ref p) (upd H p o)
theorem fO {a:TA} (h:a U H fun xs H1=>VP (.lst xs) xs.length H1 Q):PQ a U H Q:=h
theorem fP {a:TA} (h:a U H fun xs H1=>VP (.tup xs) xs.length H1 Q):PP a U H Q:=h
theorem cA {o:HO} {n:Nat} (c:Nat.ble n 64=true) (h:∀ p H',H p=none->Same H H'->H' p=some o->Q (.ref p) H'):VP o n H Q:=
 ⟨Zm (Nat.le_of_ble_eq_true c) (by decide),fun p np=>h p _ np ((Same.refl H).upd np) aj⟩
end
section
variable {sub:List (Option Nat)} {g:TG} {tt:TT} {te:TE} {U:St} {Q:VK} {H:Hp} {K:W.Frag} {a:Addr} {xs:List V} {lo:Int} {n:Nat} {z:Str}
theorem Jf (Pv:Nat->List V->Hp->Prop) (hn:n<=sizeLine) (h0:Pv 0 [] H) (hl:∀ i ys H,Pv i ys H->ys.length<=i)
  (hs:∀ i ys H,i < n->Pv i ys H->g (.int (lo+i)) (eN sub U) H fun σ2 H2=>KeepSt (eN sub U) σ2/\tt σ2 H2 fun b H3=>if b=true then te σ2 H3 fun y H4=>Pv (i+1) (ys ++ [y]) H4 else Pv (i+1) ys H3)
  (hd:∀ ys H D H',Pv n ys H->H D=none->Same H H'->H' D=some (.lst ys)->Q (.ref D) H'):qO sub g tt te U Q (JQ lo n) H:=
 Ln Pv hn h0 hl hs fun ys H p D nD=>hd ys H D _ p nD ((Same.refl H).upd nD) aj
theorem rz (Pv:Nat->List V->Hp->Prop) (hn:xs.length<=sizeLine) (h0:Pv 0 [] H) (hl:∀ i ys H,Pv i ys H->ys.length<=i) (hq:∀ i ys H,Pv i ys H->SqL K H a xs)
  (hs:∀ i ys H x,xs[i]?=some x->Pv i ys H->g x (eN sub U) H fun σ2 H2=>KeepSt (eN sub U) σ2/\tt σ2 H2 fun b H3=>if b=true then te σ2 H3 fun y H4=>Pv (i+1) (ys ++ [y]) H4 else Pv (i+1) ys H3)
  (hd:∀ ys H D H',Pv xs.length ys H->H D=none->Same H H'->H' D=some (.lst ys)->Q (.ref D) H'):qO sub g tt te U Q (R3 K a) H:=
 Ik Pv hn h0 hl hq hs fun ys H p D nD=>hd ys H D _ p nD ((Same.refl H).upd nD) aj
theorem uw (Pv:Nat->List V->Hp->Prop) (hn:z.cps.size<=sizeLine) (h0:Pv 0 [] H) (hl:∀ i ys H,Pv i ys H->ys.length<=i)
  (hs:∀ i ys H c,z.cps.toList[i]?=some c->Pv i ys H->g (.str ⟨#[c]⟩) (eN sub U) H fun σ2 H2=>KeepSt (eN sub U) σ2/\tt σ2 H2 fun b H3=>if b=true then te σ2 H3 fun y H4=>Pv (i+1) (ys ++ [y]) H4 else Pv (i+1) ys H3)
  (hd:∀ ys H D H',Pv z.cps.size ys H->H D=none->Same H H'->H' D=some (.lst ys)->Q (.ref D) H'):qO sub g tt te U Q (Qj z) H:=
 BK Pv hn h0 hl hs fun ys H p D nD=>hd ys H D _ p nD ((Same.refl H).upd nD) aj
theorem qD {f:Nat->V} {i:Nat} {y:V} (h:y=f i):(List.range i).map f ++ [y]=(List.range (i+1)).map f:=by rw [h,List.range_succ,ZK];rfl
theorem qF (f:Nat->V) (hn:n<=sizeLine)
  (hs:∀ i,i < n->g (.int (lo+i)) (eN sub U) H fun σ2 H2=>KeepSt (eN sub U) σ2/\tt σ2 H2 fun b H3=>if b=true then te σ2 H3 fun y H4=>H4=H/\(List.range i).map f ++ [y]=(List.range (i+1)).map f else H3=H/\(List.range i).map f=(List.range (i+1)).map f)
  (hd:∀ D H',H D=none->Same H H'->H' D=some (.lst ((List.range n).map f))->Q (.ref D) H'):qO sub g tt te U Q (JQ lo n) H:=by
 refine Jf (fun i ys H'=>H'=H/\ys=(List.range i).map f) hn ⟨rfl,rfl⟩ ?_ ?_ ?_
 ·rintro i ys H' ⟨_,rfl⟩
  simp
 ·rintro i ys H' hi ⟨rfl,rfl⟩
  exact hs i hi
 ·rintro ys H1 D H' ⟨rfl,rfl⟩ nD s e
  exact hd D H' nD s e
end
end L2
set_option maxHeartbeats 8000000
namespace L2
open PySem PySem.Spec PyProof.Rows
end L2
namespace L2
open PySem PySem.W PySem.Spec PyProof.Rows
end L2
namespace L2
open PySem PySem.Spec PyProof.Rows
theorem yM:Manifest.owners.lookup (String.ofList ['d','e','s','r','e','v','e','r'].reverse)=some Manifest.sig_reversed:=by kernel_rfl
theorem iB:Slot "reversed" "__next__" "reversed.__next__":=
 .of (owner:="reversed") (n:="__next__") (by rw [Aa4,Aan];kernel_rfl) (by trivial) (by trivial) (by trivial)
  (by first | exact .inl (by trivial) | exact .inr (by trivial)) (by rw [Abb];kernel_rfl)
theorem pN:entryFor table "reversed.__next__"=some Builtin.«reversed.__next__»:=entryFor_of_tree (by kernel_rfl)
theorem qP (a:Value):argsOk "reversed.__next__" ⟨[a],[]⟩:=by
 unfold argsOk;rw [signature?_of (id:="reversed.__next__") (n:=['_','_','t','x','e','n','_','_']) (o:=['d','e','s','r','e','v','e','r']) (by kernel_rfl) yM];kernel_rfl
theorem qQ:Slot "reversed" "__iter__" "reversed.__iter__":=
 .of (owner:="reversed") (n:="__iter__") (by rw [Aa4,Aan];kernel_rfl) (by trivial) (by trivial) (by trivial)
  (by first | exact .inl (by trivial) | exact .inr (by trivial)) (by rw [Abb];kernel_rfl)
theorem xO (a:Value):argsOk "reversed.__iter__" ⟨[a],[]⟩:=by
 unfold argsOk;rw [signature?_of (id:="reversed.__iter__") (n:=['_','_','r','e','t','i','_','_']) (o:=['d','e','s','r','e','v','e','r']) (by kernel_rfl) yM];kernel_rfl
theorem wK:entryFor table "reversed.__iter__"=some Builtin.«dict_keyiterator.__iter__»:=
 entryFor_alias (id':="dict_keyiterator.__iter__") (by kernel_rfl) (by first | rfl | trivial | (unfold String.splitOn;simp+decide [String.splitOnAux])) (by trivial) (by kernel_rfl)
theorem ux:typeLookup (.type "tuple") "__reversed__"=pure none:=by rw [Aa4,Aan];kernel_rfl
theorem sub_tuple_dict:isSubtype (.type "tuple") (.type "dict")=pure false:=by rw [Abb];kernel_rfl
theorem xP:Slot "reversed" "__init__" "object.__init__":=
 .of (owner:="object") (n:="__init__") (by rw [Aa4,Aan];kernel_rfl) (by trivial) (by trivial) (by trivial)
  (by first | exact .inl (by trivial) | exact .inr (by trivial)) (by rw [Abb];kernel_rfl)
theorem rB:TypeCalled "reversed" "reversed.__new__" "object.__init__":=
 ⟨by trivial,F.create_reversed,⟨_,_,F.mro_reversed⟩,F.made_reversed,F.plain_reversed_new,F.sub_reversed_self,xP⟩
section
variable {prog:Program} {w:World} {A:Around} {E:Value->Shared->Prop} {s:Shared}
def rC (l:Addr) (i:Int):Obj:={cls:=.type "reversed",data:=.fields #[.ref l,rawInt i]}
def IsRvd (h:Heap) (a l:Addr) (i:Int):Prop:=∃ o,h.get? a=some o/\o.cls= .type "reversed"/\o.data= .fields #[.ref l,rawInt i]
theorem IsRvd.typeIs {a l:Addr} {i:Int} (x:IsRvd s.heap a l i):s.TypeIs (.ref a) "reversed":=let ⟨o,ho,hc,_⟩:=x;⟨o,ho,hc⟩
theorem IsRvd.at {h h':Heap} {a l:Addr} {i:Int} (x:IsRvd h a l i) (e:∀ o,h.get? a=some o->h'.get? a=some o):IsRvd h' a l i:=let ⟨o,ho,r⟩:=x;⟨o,e _ ho,r⟩
theorem MN {l:Addr} {items:Array Value} {Q₁:Value->Shared->Prop} (hl:IsTup s.heap l items) (hz:items.size < 2 ^ 62)
  (h:∀ k,Q₁ (.ref s.heap.objs.size) {s with heap:=s.heap.push (rC l ((items.size:Int) - 1)),toks:=k}):
  codeAny (model prog w) A (.call (.builtin "reversed.__new__") ⟨[.type "reversed",.ref l],[]⟩) (wants Q₁ E) s:=by
 refine codeAny_of_tree ?_
 show wpAny _ A.in1 (do checkBuiltinCall "reversed.__new__" ⟨[.type "reversed",.ref l],[]⟩;again (.builtin "reversed.__new__" ⟨[.type "reversed",.ref l],[]⟩)) _ _ s
 refine YS (Aaf (F.newCall_reversed_1 _) (YX ⟨Aas F.plain_reversed_new _,AaJ F.entry_reversed_new ?_⟩))
 rw [Aag F.plain_reversed_new _]
 unfold Builtin.«reversed.__new__»
 refine YS (Aaf (newClass_reversed _) ?_)
 try dsimp only
 refine YS (Aaf (a:=()) (by first | rfl | kernel_rfl) ?_)
 refine YS (Aaf (a:=()) (by first | rfl | kernel_rfl) ?_)
 try dsimp only
 refine YS (Aa3 hl.typeIs ux ?_)
 try dsimp only
 refine YS ?_
 refine YS (wpAny_isInstance hl.typeIs sub_tuple_dict ?_)
 rw [if_neg (by decide)]
 refine YS (Aa3 hl.typeIs F.slot_tuple_getitem.lookup ?_)
 dsimp only
 rw [if_pos (by trivial)]
 refine YX ?_
 rw [if_neg (by decide)]
 refine YS (len_tuple hl (by omega) ?_)
 refine YS (Aaf (a:=some ((items.size:Nat):Int)) rfl ?_)
 dsimp only
 refine YS ?_
 unfold Builtin.SmallTypes.newRecord
 refine Z8 ?_
 exact YX (h _)
theorem MP {l:Addr} {items:Array Value} {Q:Value->Shared->Prop} (hl:IsTup s.heap l items) (hz:items.size < 2 ^ 62)
  (h:∀ k,Q (.ref s.heap.objs.size) {s with heap:=s.heap.push (rC l ((items.size:Int) - 1)),toks:=k}):wpAny (model prog w) A (call (.type "reversed") [.ref l]) Q E s:=by
 refine callType_codes rB (F.typeCall_reversed_1 _) F.entry_object_init (MN (Q₁:=fun obj s₁=>obj= .ref s.heap.objs.size/\∃ k,s₁={s with heap:=s.heap.push (rC l ((items.size:Int) - 1)),toks:=k}) hl hz fun k=>⟨rfl,k,rfl⟩) ?_
 rintro obj s₁ ⟨rfl,k,rfl⟩
 have hT:Shared.TypeIs {s with heap:=s.heap.push (rC l ((items.size:Int) - 1)),toks:=k} (.ref s.heap.objs.size) "reversed":=⟨_,Za _ rfl,rfl⟩
 exact ⟨hT,F.args_object_init_2 _ _,(object_init_meets rB.init.lookup rB.made (by decide)) prog w A.in1 _ _ ⟨hT,rfl,h k⟩⟩
theorem M6 {it l:Addr} {i:Nat} {items:Array Value} {x:Value} {Q:Option Value->Shared->Prop} (hit:IsRvd s.heap it l (i:Int)) (hl:IsTup s.heap l items) (hx:items[i]?=some x) (hz:items.size < 2 ^ 62)
  (hQ:∀ h' k,IsRvd h' it l ((i:Int) - 1)->Heap.SameBut it s.heap h'->Q (some x) {s with heap:=h',toks:=k}):wpAny (model prog w) A (pyNext (.ref it)) Q E s:=by
 obtain ⟨o,ho,hc,hd⟩:=id hit
 have hi:i < items.size:=(Array.getElem?_eq_some_iff.mp hx).1
 unfold pyNext
 refine YS (Abk (AaS (name:=Str.ofString "__next__") hit.typeIs iB
  (Abe iB hit.typeIs pN ?_ (qP _))))
 unfold Builtin.«reversed.__next__»
 refine YS (Aaf (a:=(Value.ref it,[])) rfl ?_)
 try dsimp only
 refine YS (Aat ho hd (x:=.ref l) rfl ?_)
 refine YS (Aat ho hd (x:=rawInt (i:Int)) rfl ?_)
 show wpAny _ _ (if (i:Int) < 0 then _ else _) _ _ s
 rw [if_neg (by omega)]
 refine YS (Aa3 hl.typeIs F.slot_tuple_getitem.lookup ?_)
 rw [if_neg (by decide)]
 refine YS (wpAny_mkInt ?_)
 refine YS (Abk (getItem_tuple (j:=i) hl (by omega) (by omega) ?_ hx ?_))
 ·unfold seqIndex?
  simp
  omega
 dsimp only
 refine YS (Aat (s:={s with toks:=s.toks+1}) ho hd (x:=rawInt (i:Int)) rfl ?_)
 refine YS (Abd (s:={s with toks:=s.toks+1}) ho hd (by simp) ?_)
 refine YX ⟨x,rfl,YX (hQ _ _ ?_ (Heap.SameBut.update ..))⟩
 exact ⟨_,Zy _ ho (Aa5 (AaD hd _)),(Obj.cls_mapFields ..).trans hc,by
  rw [AaD hd];simp⟩
theorem QL {it l:Addr} {Q:Option Value->Shared->Prop} (hh:A.handled=none) (hit:IsRvd s.heap it l (-1))
  (hQ:∀ h',Heap.ExtBut it s.heap h'->Q none {s with heap:=h'}):wpAny (model prog w) A (pyNext (.ref it)) Q E s:=by
 obtain ⟨o,ho,hc,hd⟩:=id hit
 unfold pyNext
 refine YS (Abk (AaS (name:=Str.ofString "__next__") hit.typeIs iB
  (Abe iB hit.typeIs pN ?_ (qP _))))
 unfold Builtin.«reversed.__next__»
 refine YS (Aaf (a:=(Value.ref it,[])) rfl ?_)
 try dsimp only
 refine YS (Aat ho hd (x:=.ref l) rfl ?_)
 refine YS (Aat ho hd (x:=rawInt (-1)) rfl ?_)
 show wpAny _ _ (if (-1:Int) < 0 then _ else _) _ _ s
 rw [if_pos (by decide)]
 refine YS (wpAny_rule ?_)
 refine YS ?_
 refine YS (Abd ho hd (by simp) ?_)
 have sb1:Heap.SameBut it s.heap (s.heap.update it (Obj.mapFields (·.setIfInBounds 1 (rawInt (-1))))):=Heap.SameBut.update ..
 have ho2:=Zy (Obj.mapFields (·.setIfInBounds 1 (rawInt (-1)))) ho (Aa5 (AaD hd _))
 refine Abd ho2 (AaD hd _) (by simp) ?_
 have sb2:Heap.SameBut it (s.heap.update it (Obj.mapFields (·.setIfInBounds 1 (rawInt (-1))))) ((s.heap.update it (Obj.mapFields (·.setIfInBounds 1 (rawInt (-1))))).update it (Obj.mapFields (·.setIfInBounds 0 .none))):=Heap.SameBut.update ..
 have eb:Heap.ExtBut it s.heap ((s.heap.update it (Obj.mapFields (·.setIfInBounds 1 (rawInt (-1))))).update it (Obj.mapFields (·.setIfInBounds 0 .none))):=sb1.extBut.trans sb2.extBut
 show wpAny _ _ _ _ _ {s with heap:=((s.heap.update it (Obj.mapFields (·.setIfInBounds 1 (rawInt (-1))))).update it (Obj.mapFields (·.setIfInBounds 0 .none)))}
 generalize ((s.heap.update it (Obj.mapFields (·.setIfInBounds 1 (rawInt (-1))))).update it (Obj.mapFields (·.setIfInBounds 0 .none)))=h2 at eb ⊢
 refine YS ?_
 show wpAny _ _ (newExc (.type "StopIteration") [] >>=_) _ _ _
 refine YS ?_
 simp only [newExc,newTuple]
 refine YS (Z8 ?_ (by size_fits))
 refine YS (m:=firstArgMember _ _) (Aaf (a:=Value.none) (by first | rfl | (simp only [firstArgMember];rfl)) ?_)
 refine Z8 ?_ (by size_fits)
 simp only [raiseNew]
 refine YS (wpAny_handled ?_)
 first | rw [show A.in1.handled=none from hh] | rw [hh]
 refine YS (YX (wpAny_throw ?_))
 refine YS (wpAny_isInstance (T:="StopIteration") (b:=true) ⟨_,Za _ rfl,rfl⟩ isSubtype_stop ?_)
 exact YX (hQ _ ((eb.push _).push _))
theorem Ca {it l:Addr} {i:Int} {Q:Value->Shared->Prop} (hit:IsRvd s.heap it l i) (h:Q (.ref it) s):wpAny (model prog w) A (pyIter (.ref it)) Q E s:=by
 refine wpAny_pyIter_slot hit.typeIs qQ (Abe qQ hit.typeIs wK ?_ (xO _))
 show wpAny _ _ (ret (.ref it)) _ _ s
 exact YX ⟨_,rfl,"reversed",_,hit.typeIs,iB.lookup,h⟩
end
def Wy (K:W.Frag) (a:Addr) (n:Nat):It:=
 ⟨fun i H=>i < n/\n < 2 ^ 62/\∃ xs,SqT K H a xs/\xs.length=n,
  fun i H v H'=>H'=H/\∀ xs,SqT K H a xs->xs[n - 1 - i]?=some v,
  fun i _=>i=n⟩
theorem M8 {P:Program} {w:World} {K:W.Frag} {tg:Expr} {n:Nat} {it a:Addr} (hai:a≠it):
  Turn P w K tg (Wy K a n) [it] it (fun i h=>i<=n/\IsRvd h it a ((n:Int) - 1 - (i:Int))) where
 mem:=by simp
 obj:=fun i h st c hc=>by
  obtain ⟨_,⟨o1,e1,c1,d1⟩⟩:=st
  have e:c=it:=by simpa using hc
  subst e
  exact ⟨_,e1,fun v z=>by rw [d1] at z;cases z⟩
 keep:=fun i h h' st kk=>⟨st.1,st.2.at fun o q=>kk it (by simp) o q⟩
 item:=by
  intro X hP hw hK hc i pins s U H E I hf st hg
  subst hP hw hK
  obtain ⟨hi,h1⟩:=st
  obtain ⟨hlt,h62,xs,hq,hlen⟩:=hg
  obtain ⟨its,rv,p,_⟩:=I.tuple hq
  have l1:=rv.length
  obtain ⟨x,hx⟩:∃ x,xs[n - 1 - i]?=some x:=⟨_,YT (by omega)⟩
  obtain ⟨u,hu,ru⟩:=rv.get hx
  obtain ⟨f0,f1,f2,f3,f4,f5⟩:=hf it (by simp)
  have e:(n:Int) - 1 - (i:Int)=((n - 1 - i:Nat):Int):=by omega
  rw [e] at h1
  refine M6 h1 p (x:=u) (by simpa using hu) (by simp;omega) fun h' k st' sb=>?_
  have I1:Inv X pins U H {s with heap:=h',toks:=k}:=I.turned (t':=k) (fun b o hb e=>(sb.2 b hb).trans e) f0 f1 f3 f4 f5
  obtain ⟨o,eo,c,d⟩:=id st'
  refine ⟨u,rfl,yj (s:={s with heap:=h',toks:=k}) eo c d (by decide) ⟨x,H,I1,ru,⟨rfl,fun ys hy=>by rw [I.tuple_inj hy hq];exact hx⟩,⟨hlt,?_⟩,fun b hb=>(hf b hb).1⟩⟩
  have e2:((n - 1 - i:Nat):Int) - 1=(n:Int) - 1 - ((i+1:Nat):Int):=by omega
  rw [← e2]
  exact st'
 done:=by
  intro X hP hw hK hc i pins s U H E I hf st hg
  subst hP hw hK
  obtain ⟨hi,h1⟩:=st
  have hin:i=n:=hg
  subst hin
  rw [show (i:Int) - 1 - (i:Int)= -1 by omega] at h1
  obtain ⟨f0,f1,f2,f3,f4,f5⟩:=hf it (by simp)
  exact QL (I.ok.hd hc) h1 fun h' eb=>⟨rfl,I.turned (t':=s.toks) (fun b o hb e=>eb b o hb e) f0 f1 f3 f4 f5⟩
 self:=fun _ _ _ _ _ st h=>Ca st.2 h
def SN (K:W.Frag) (ta:TE):TI:=fun U H R=>ta U H fun x H1=>(∃ l xs,x= .ref l/\SqL K H1 l xs/\R (Wx K l xs.length) H1)\/∃ l xs,x= .ref l/\SqT K H1 l xs/\xs.length < 2 ^ 62/\R (Wy K l xs.length) H1
theorem QM {X:Cx} {K:W.Frag} {a tg:Expr} {ta:TE} {p pos:Pos} (hK:X.K=K) (hg:Gl X "reversed") (hm:X.mg "reversed"=none) (ha:JE X a ta) (h:autoParam (notStar a=true) L2.auto4._auto_1):
  JI X tg (.Call (.Name "reversed" p) [a] [] pos) (SN K ta):=⟨by
 subst hK
 intro pins s U H R I hq
 refine Call_ (jc I hg hm uQ (Zn (arg1 h (dW (ha.run pins s U H _ I hq) fun u s1 qq0=>?_)) (bH h) rfl))
 obtain ⟨x,H1,I1,rx,hx⟩:=qq0
 rcases hx with ⟨l,xs,ex,hx,q⟩ | ⟨l,xs,ex,hx,h62,q⟩
 ·subst ex
  cases rx
  obtain ⟨its,rv,ht,hz⟩:=I1.list hx
  have hlen:=rv.length
  have lt:l < s1.heap.objs.size:=by obtain ⟨o,ho,_⟩:=ht.isList;exact Y5 ho
  refine call_reversed_list ht.isList ?_
  have e0:(s1.heap.push (PySem.revObj l ((its.toArray.size:Int) - 1))).get? s1.heap.objs.size=some (PySem.revObj l ((its.toArray.size:Int) - 1)):=Za _ rfl
  have z2:(s1.heap.push (PySem.revObj l ((its.toArray.size:Int) - 1))).IsRevIter s1.heap.objs.size l ((xs.length:Int) - 1 - ((0:Nat):Int)):=⟨_,e0,rfl,by
   show Data.fields #[.ref l,rawInt ((its.toArray.size:Int) - 1)]=_
   rw [show ((its.toArray.size:Int) - 1)=(xs.length:Int) - 1 - ((0:Nat):Int) by rw [Zh];omega]⟩
  refine wpAny_pyIter_revIter z2 ?_
  refine ⟨s1.heap.objs.size,[s1.heap.objs.size],_,_,H1,rfl,I1.kept (t':=s1.toks) fun b o q=>Y0 _ q,MJ (n:=xs.length) (Zt lt),⟨Z7 _,z2⟩,fun b hb=>?_,q⟩
  have e:b=s1.heap.objs.size:=by simpa using hb
  subst e
  exact I1.fpOk (Y4 _) (I1.hok.fresh (Y4 _))
 ·subst ex
  cases rx
  obtain ⟨its,rv,ht,hz⟩:=I1.tuple hx
  have hlen:=rv.length
  have lt:l < s1.heap.objs.size:=by obtain ⟨o,ho,_⟩:=id ht;exact Y5 ho
  refine MP ht (by simp;omega) fun k=>?_
  have e0:(s1.heap.push (rC l ((its.toArray.size:Int) - 1))).get? s1.heap.objs.size=some (rC l ((its.toArray.size:Int) - 1)):=Za _ rfl
  have z2:IsRvd (s1.heap.push (rC l ((its.toArray.size:Int) - 1))) s1.heap.objs.size l ((xs.length:Int) - 1 - ((0:Nat):Int)):=⟨_,e0,rfl,by
   show Data.fields #[.ref l,rawInt ((its.toArray.size:Int) - 1)]=_
   rw [show ((its.toArray.size:Int) - 1)=(xs.length:Int) - 1 - ((0:Nat):Int) by rw [Zh];omega]⟩
  refine Ca z2 ?_
  refine ⟨s1.heap.objs.size,[s1.heap.objs.size],_,_,H1,rfl,I1.kept (t':=k) fun b o q=>Y0 _ q,M8 (n:=xs.length) (Zt lt),⟨Z7 _,z2⟩,fun b hb=>?_,q⟩
  have e:b=s1.heap.objs.size:=by simpa using hb
  subst e
  exact I1.fpOk (Y4 _) (I1.hok.fresh (Y4 _))⟩
section
variable {K:W.Frag} {U:St} {H:Hp}
theorem Nb {ta:TE} {R:It->Hp->Prop} (h:ta U H fun x H1=>(∃ l xs,x= .ref l/\SqL K H1 l xs/\R (Wx K l xs.length) H1)\/∃ l xs,x= .ref l/\SqT K H1 l xs/\xs.length < 2 ^ 62/\R (Wy K l xs.length) H1):SN K ta U H R:=h
theorem QQ {a:Addr} {xs:List V} {g:TG} {tb:TS} {D:Ends} (Pv:Nat->St->Hp->Prop) (h0:Pv 0 U H) (hl:∀ i U H,i<=xs.length->Pv i U H->SqL K H a xs)
  (hs:∀ i x U H,i < xs.length->xs[xs.length - 1 - i]?=some x->Pv i U H->g x U H fun σ2 H2=>tb {D with nx:=Pv (i+1),ct:=Pv (i+1),bk:=D.nx} σ2 H2) (hd:∀ U H,Pv xs.length U H->D.nx U H):
  ∃ W:Nat->Nat->St->Hp->Prop,(∃ m,W 0 m U H)/\∀ i m U H,W i m U H->
   ((Wx K a xs.length).stop i H/\D.nx U H)\/((Wx K a xs.length).go i H/\∃ N:St->Hp->Prop,(∀ U' H',N U' H'->∃ m',m' < m/\W (i+1) m' U' H')/\∀ x H',(Wx K a xs.length).yld i H x H'->g x U H' fun σ2 H2=>tb {D with nx:=N,ct:=N,bk:=D.nx} σ2 H2):=by
 refine ⟨fun i m U H=>m=xs.length - i/\i<=xs.length/\Pv i U H,⟨xs.length,by simp,Z7 _,h0⟩,?_⟩
 rintro i m U H ⟨rfl,hi,p⟩
 have hq:=hl i U H hi p
 by_cases hlt:i < xs.length
 ·refine .inr ⟨⟨hlt,xs,hq,rfl⟩,Pv (i+1),fun U' H' h=>⟨xs.length - (i+1),by omega,rfl,by omega,h⟩,fun x H' y=>?_⟩
  obtain ⟨rfl,hy⟩:=y
  exact hs i x U _ hlt (hy xs hq) p
 ·obtain rfl:i=xs.length:=by omega
  exact .inl ⟨rfl,hd U H p⟩
theorem QR {a:Addr} {xs:List V} {g:TG} {tb:TS} {D:Ends} (h62:xs.length < 2 ^ 62) (Pv:Nat->St->Hp->Prop) (h0:Pv 0 U H) (hl:∀ i U H,i<=xs.length->Pv i U H->SqT K H a xs)
  (hs:∀ i x U H,i < xs.length->xs[xs.length - 1 - i]?=some x->Pv i U H->g x U H fun σ2 H2=>tb {D with nx:=Pv (i+1),ct:=Pv (i+1),bk:=D.nx} σ2 H2) (hd:∀ U H,Pv xs.length U H->D.nx U H):
  ∃ W:Nat->Nat->St->Hp->Prop,(∃ m,W 0 m U H)/\∀ i m U H,W i m U H->
   ((Wy K a xs.length).stop i H/\D.nx U H)\/((Wy K a xs.length).go i H/\∃ N:St->Hp->Prop,(∀ U' H',N U' H'->∃ m',m' < m/\W (i+1) m' U' H')/\∀ x H',(Wy K a xs.length).yld i H x H'->g x U H' fun σ2 H2=>tb {D with nx:=N,ct:=N,bk:=D.nx} σ2 H2):=by
 refine ⟨fun i m U H=>m=xs.length - i/\i<=xs.length/\Pv i U H,⟨xs.length,by simp,Z7 _,h0⟩,?_⟩
 rintro i m U H ⟨rfl,hi,p⟩
 have hq:=hl i U H hi p
 by_cases hlt:i < xs.length
 ·refine .inr ⟨⟨hlt,h62,xs,hq,rfl⟩,Pv (i+1),fun U' H' h=>⟨xs.length - (i+1),by omega,rfl,by omega,h⟩,fun x H' y=>?_⟩
  obtain ⟨rfl,hy⟩:=y
  exact hs i x U _ hlt (hy xs hq) p
 ·obtain rfl:i=xs.length:=by omega
  exact .inl ⟨rfl,hd U H p⟩
end
end L2
namespace L2
open PySem PySem.W PySem.Spec PyProof.Rows
section
variable {X:Cx}
theorem yN:∀ {as:List Addr} {its:List Value},Vals (as.map V.ref) its->its=as.map Value.ref
 | [],_,h=>by cases h;rfl
 | a :: as,_,h=>by
  cases h with
  | cons h1 h2=>
   cases h1
   rw [yN h2];rfl
end
end L2
namespace L2
open PySem PySem.Spec PyProof.Rows
def SQ:List V->Hp->VK->Prop:=fun xs H Q=>(∃ i j,xs=[.int i,.int j]/\Q (.int (if j < i then j else i)) H)\/(∃ i j k,xs=[.int i,.int j,.int k]/\∀ M,(M=i\/M=j\/M=k)->M<=i->M<=j->M<=k->Q (.int M) H)\/
 ∃ (p:Addr) (ns:List Int),xs=[.ref p]/\H p=some (.lst (ns.map V.int))/\ns≠[]/\∀ M,M∈ns->(∀ a∈ns,M<=a)->Q (.int M) H
section
variable {X:Cx}
theorem vals3 {v1 v2 v3:V} {us:List Value} (r:Vals [v1,v2,v3] us):∃ u1 u2 u3,us=[u1,u2,u3]/\RelV v1 u1/\RelV v2 u2/\RelV v3 u3:=by
 cases r with
 | cons a r=>cases r with
  | cons b r=>cases r with
   | cons c r=>
    cases r
    exact ⟨_,_,_,rfl,a,b,c⟩
theorem Jg (hc:X.calm=true):CallR X (.builtin "min") SQ:=by
 intro pins s U H xs us Q I r h
 rcases h with h | ⟨i,j,k,rfl,q⟩ | ⟨p,ns,rfl,hp,hne,q⟩
 ·exact Hz hc pins s U H xs us Q I r h
 ·obtain ⟨u1,u2,u3,rfl,⟨t1,rfl⟩,⟨t2,rfl⟩,⟨t3,rfl⟩⟩:=vals3 r
  refine min_three_ints (I.ok.hd hc) fun h' tk hk=>?_
  have key:∀ (M:Int) (t:Tok),(M=i\/M=j\/M=k)->M<=i->M<=j->M<=k->EP X pins U Q (.int M t) {s with heap:=h',toks:=tk}:=fun M t h0 h1 h2 h3=>⟨.int M,H,I.kept hk,⟨t,rfl⟩,q M h0 h1 h2 h3⟩
  by_cases hba:j < i <;> by_cases hc1:k < j <;> by_cases hc2:k < i <;> simp only [hba,hc1,hc2,if_true,if_false] <;> exact key _ _ (by omega) (by omega) (by omega) (by omega)
 ·obtain ⟨u,rfl,ru⟩:=vals1 r
  cases ru
  obtain ⟨hz,its,n,rv,g⟩:=I.hok p _ hp
  have hi:IntsAre its ns:=intsAre_of rv
  have hl:=rv.length
  obtain ⟨ys,ey⟩:=hi.allInts.items
  have hn:=hi.numsOf
  have hsz:0 < ys.size:=by
   have e1:=congrArg Array.size ey
   have:0 < ns.length:=List.length_pos_iff.mpr hne
   rw [Zj] at hl
   simp [intItems] at e1
   omega
  have hL:s.heap.IsList p (intItems ys):=⟨_,g,rfl,n,by rw [← ey]⟩
  have en:ys.toList.map (·.1)=ns:=by rw [← nums_intItems,← ey,← hn]
  refine min_intList (I.ok.hd hc) hL hsz fun v h' tk hv hk=>?_
  obtain ⟨t,rfl⟩:=intItems_at hv
  obtain ⟨h1,h2⟩:=argBest_lt (numAt ys) (ys.size - 1)
  refine ⟨.int _,H,I.kept hk,⟨t,rfl⟩,q _ ?_ fun a ha=>?_⟩
  ·rw [← en,numAt_eq];exact getD_mem (by rw [Zj,Zi];omega)
  ·rw [← en] at ha
   obtain ⟨j,hj,rfl⟩:=mem_getD ha
   rw [Zj,Zi] at hj
   rw [← numAt_eq];exact h2 j (by omega)
end
section
variable {sub:List (Option Nat)} {g:TG} {tt:TT} {te:TE} {U:St} {Q:VK} {H:Hp} {K:W.Frag} {a b:Addr} {xs ys:List V}
theorem Er (Pv:Nat->List V->Hp->Prop) (hn:xs.length<=sizeLine) (h0:Pv 0 [] H) (hl:∀ i zs H,Pv i zs H->zs.length<=i) (hq:∀ i zs H,Pv i zs H->SqL K H a xs)
  (hs:∀ i zs H T x,xs[i]?=some x->Pv i zs H->H T=none->g (.ref T) (eN sub U) (upd H T (.tup [.int i,x])) fun σ2 H2=>KeepSt (eN sub U) σ2/\tt σ2 H2 fun b H3=>if b=true then te σ2 H3 fun y H4=>Pv (i+1) (zs ++ [y]) H4 else Pv (i+1) zs H3)
  (hd:∀ zs H D H',Pv xs.length zs H->H D=none->Same H H'->H' D=some (.lst zs)->Q (.ref D) H'):qO sub g tt te U Q (Vp K a) H:=
 vG (n:=xs.length) Pv hn h0 hl (fun i zs H hi p=>⟨xs,xs[i],hq i zs H p,YT hi⟩) (fun zs H p=>⟨xs,hq _ zs H p,Y4 _⟩) (fun i zs H x H' hi p y=>by
  obtain ⟨T,u,hT,e1,e2,e4⟩:=y
  subst e1 e4
  exact hs i zs H T u (e2 xs (hq i zs H p)) p hT) fun zs H p D nD=>hd zs H D _ p nD ((Same.refl H).upd nD) aj
end
end L2
namespace HT
open PySem PySem.Spec PyProof.Rows
section
variable {prog:Program} {w:World} {A:Around} {E:Value->Shared->Prop} {s:Shared}
theorem getItem_tuple_whole {t sl:Addr} {items:Array Value} {vl vu:Value} {lo hi:Option Int} {Q:Value->Shared->Prop} (ht:IsTup s.heap t items) (hs:s.heap.IsSliceOf sl vl vu .none) (pl:IsPart vl lo) (pu:IsPart vu hi)
  (hw:sIx items.size 0 lo=0/\sIx items.size items.size hi=items.size) (h:Q (.ref t) s):wpAny (model prog w) A (getItem (.ref t) (.ref sl)) Q E s:=by
 obtain ⟨os,hos,hcs,hds⟩:=id hs
 have hTs:s.TypeIs (.ref sl) "slice":=⟨os,hos,hcs⟩
 unfold getItem
 try with_reducible refine Zw ?_
 first | refine YS (YX ?_) | skip
 refine YS (wpAny_sequenceKey ht.typeIs (by decide) ?_)
 refine YS (AaS (name:=Str.ofString "__getitem__") ht.typeIs Aam
  (Abe Aam ht.typeIs entry_tuple_getitem ?_ (args_tuple_getitem _ _)))
 show wpAny _ _ (Builtin.Tuple.tupleItemsOf (.ref t) >>=_) _ _ s
 refine YS (tupleItemsOf_ ht ?_)
 refine YS (wpAny_typeOf hTs ?_)
 rw [if_pos (by decide)]
 refine YS (mZ hs pl pu ?_)
 have hyes:((((sIx items.size 0 lo:Nat):Int) == 0 && (1:Int) == 1 && (sIx items.size items.size hi - sIx items.size 0 lo) == items.size)=true):=by
  rw [hw.1,hw.2];simp
 show wpAny _ _ (if (((sIx items.size 0 lo:Nat):Int) == 0 && (1:Int) == 1 && (sIx items.size items.size hi - sIx items.size 0 lo) == items.size)=true then _ else _) _ _ s
 rw [if_pos hyes]
 unfold Builtin.Tuple.tupleIsExact
 refine YS (YS (wpAny_typeOf ht.typeIs (YX ?_)))
 rw [if_pos (by decide)]
 exact YS (wpAny_rule (YX ⟨_,rfl,YX h⟩))
end
end HT
namespace L2
open PySem PySem.Spec PyProof.Rows
section
variable {X:Cx}
def Yd (K:W.Frag):V->Option Int->Option Int->Hp->VK->Prop:=fun x lo hi H Q=>∃ a xs,x= .ref a/\SqT K H a xs/\(HT.sIx xs.length 0 lo=0/\HT.sIx xs.length xs.length hi=xs.length)/\Q (.ref a) H
theorem QS:SlR X (Yd X.K):=by
 intro pins s U H x v vl vu lo hi sl Q I rx hs pl pu h
 obtain ⟨a,xs,rfl,hx,hw,q⟩:=h
 cases rx
 obtain ⟨its,r,ht,hz⟩:=I.tuple hx
 have hlen:its.toArray.size=xs.length:=by rw [Zh];exact r.length.symm
 refine ⟨"tuple",_,PyProof.Rows.slot_tuple_getitem.lookup,ht.typeIs,?_⟩
 exact HT.getItem_tuple_whole ht hs pl pu (by rw [hlen];exact hw) ⟨.ref a,H,I,rfl,q⟩
def Ye (K:W.Frag):V->Option Int->Option Int->Hp->VK->Prop:=fun x lo hi H Q=>Xm K x lo hi H Q\/Yd K x lo hi H Q
theorem eU {K:W.Frag} (hK:X.K=K):SlR X (Ye K):=by
 subst hK
 exact Le.or QS
end
section
variable {H:Hp} {Q:VK} {K:W.Frag} {p:Addr} {xs:List V} {lo hi:Option Int}
theorem iK {x:Str} (hz:x.length<=sizeLine) (h:Q (.str (Txt.slice x lo hi)) H):Ye K (.str x) lo hi H Q:=.inl (Xw hz h)
end
theorem wL {xs:List V} {k:Nat}:mO xs (some (k:Int)) none=xs.drop k:=by
 unfold mO
 rw [HT.sIx_none,HT.sIx_nat]
 by_cases h:k<=xs.length
 ·rw [Nat.min_eq_left h,Z3 (by rw [AaR];omega)]
 ·rw [Abg (by omega),Aa0 (by omega),Aa0 (by omega)];simp
theorem Cd {xs:List V} {k:Nat}:mO xs none (some (k:Int))=xs.take k:=by
 unfold mO
 rw [HT.sIx_none,HT.sIx_nat,List.drop_zero,Abf]
 by_cases h:k<=xs.length
 ·rw [Nat.min_eq_left h]
 ·rw [Abg (by omega),Z3 (by omega),Z3 (by omega)]
section
variable {X:Cx} {K:W.Frag} {a b e f o:Expr} {ta tb tc:TE} {pos apos cpos:Pos} {H:Hp} {Q:VK} {U:St}
theorem VR (hu:X.A.units+64 < cLine) (ha:JE X a ta) (hb:JE X b tb) (h:autoParam (pK b=true) L2.auto4._auto_1):JE X (.Subscript a b pos) (K5 ta tb):=⟨Qi (by omega) ha.run hb.run (pix h)⟩
theorem Nf (h:ta U H fun x H1=>tb U H1 fun y H2=>∃ a v,x= .ref a/\DGet H2 a y (some v)/\Q v H2):K5 ta tb U H Q:=h
end
section
variable {X:Cx} {K:W.Frag} {e f o:Expr} {es:List Expr} {ta tb tc:TE} {t:TA} {pos apos cpos:Pos} {H:Hp} {Q:VK} {U:St} {D:Ends}
def SX:Expr->Bool
 | .Call (.Name ..) [] [] _=>false | _=>true
theorem Yg {o:Expr} {f:Str} {env:Env} {w:Sem Value} (h:SX o=true):attributeBase o f env w=w:=by
 unfold attributeBase
 split
 ·cases h
 ·rfl
theorem QT {name:Str} {T id:String} {r:V->List V->Hp->VK->Prop} (hK:X.K=K) (pa:PlainAttrs T) (slot:Slot T name id) (hty:typeOf (.builtin id)=pure (.type "method_descriptor")) (hm:R5 X id r) (ho:JE X o ta) (ha:JA X (e :: es) t)
  (hbase:autoParam (SX o=true) L2.auto4._auto_1) (hl:autoParam (es.length < 20) L2.auto2._auto_1) (hline:autoParam ((apos.endLine == cpos.line)=true) L2.auto4._auto_1) (h:autoParam ((e :: es).all notStar=true) L2.auto4._auto_1):JE X (.Call (.Attribute o name apos) (e :: es) [] cpos) (Wv K T r ta t):=⟨by
 have hA:=Eb (env:=X.env) (pos:=cpos) h
 simp only [ZC,Zb] at h
 refine Lg hK pa slot hty hm ho.run ha.run (Yg hbase) ?_ hline (bH h.1) (lB h.2)
 rw [hA,Y9 (show (e :: es).length+([]:List Keyword).length+(if ([]:List Keyword).isEmpty then 0 else 1) < 30 by simp;omega)];rfl⟩
end
structure o6 (K:W.Frag) (mg:Str->Option Value) (xs:List Str) (m qual:Str) (st:Stmt):Prop where
 ex:∃ f fd,(∀ x∈xs,Meth K (aF mg x) m f)/\Fun K m qual st f fd
def Es (P:Program) (w:World) (K:W.Frag) (mg:Str->Option Value) (base:Heap) (k:Nat) (xs:List Str) (m:Str) (ps:List Str) (sp:Sp):Prop:=
 ∃ f fd,(∀ x∈xs,Meth K (aF mg x) m f)/\Binds K fd ps []/\FnOk P w K mg base (Iu P w) k f fd ps sp
section
variable {P:Program} {w:World} {K:W.Frag} {mg:Str->Option Value} {base:Heap}
theorem Ng {xs:List Str} {m qual:Str} {st:Stmt} {N ps:List Str} {k:Nat} {sp:Sp} (D:o6 K mg xs m qual st) (S:aC N ps (az st))
  (hb:∀ (kV doc pm:Value) (an:Option Addr) (cdv ct:Value) (us:List Value),us.length=ps.length->bindArgs (PySem.W.fnOf m qual (d9 st) (bG st) (az st) .none kV doc pm an cdv ct) ⟨us,[]⟩=pure (ps.zip us))
  (len:∀ vs H Q E,sp vs H Q E->vs.length=ps.length)
  (hbody:∀ (f:Addr) (cdv:Value) (A:Around) (outer:List Env) (s:Shared) (H:Hp) (vs:List V) (Q:VK) (E:XK),Room k (A.deeper (envOfC qual (az st) s.heap.objs.size f cdv))->sp vs H Q E->
   ∃ t,JB (pH (Iu P w) P w K mg base N qual (az st) f cdv A outer s H E) (bG st) t/\t {nx:=fun _ H'=>Q .non H',rt:=Q} (start N vs) H):Es P w K mg base (k+1) xs m ps sp:=by
 obtain ⟨f,fd,hm,F⟩:=D.ex
 refine ⟨f,fd,hm,F.binds hb,?_⟩
 obtain ⟨oc,od,kV,doc,pm,an,cdv,ct,osl,rfl,lk,hcd⟩:=F.ex
 exact Bh lk hcd S len fun A outer s H vs Q E hr h=>let ⟨t,j,q⟩:=hbody f cdv A outer s H vs Q E hr h;⟨t,j.run,q⟩
end
def Nh (mg:Str->Option Value) (xs:List Str) (m:Str) (sp:Sp) (R:St->XK) (ta:TE) (t:TA):TE:=fun U H Q=>ta U H fun x H1=>∃ a y dx fs,x= .ref a/\y∈xs/\H1 a=some (.ins (aF mg y) dx fs)/\fs.lookup m=none/\t U H1 fun vs H2=>sp (x :: vs) H2 Q (R U)
def S9 (sp:Sp) (R:St->XK) (t:TA):TE:=fun U H Q=>t U H fun vs H1=>sp vs H1 Q (R U)
def YK (K:W.Frag) (mg:Str->Option Value) (xs:List Str):Prop:=∀ x∈xs,Cls K (aF mg x)
structure Gu (K:W.Frag) (mg:Str->Option Value) (x m qual:Str) (st:Stmt):Prop where
 at_:mg x=some (.ref (aF mg x))
 sp:PySem.W.specialIn K (.ref (aF mg x)) "__getattribute__"=some (some (.builtin "type.__getattribute__"))
 rd:PySem.W.readsIn K (aF mg x) (.type "type")=true
 ex:∃ f fd,PySem.W.findCls K (.ref (aF mg x)) (.type "type") m=some (.val (.ref f))/\PySem.W.keepIn K (.ref f)=true/\Fun K m qual st f fd
theorem Yh {K:W.Frag} {mg:Str->Option Value} {h:Heap} (X:K.In h) (G:h.Ns mainGlobals mg) {x m qual:Str} {C f:Addr} {st:Stmt} {oc:Value} {od an:Option Addr} {osl:Array (Option Value)} {kV doc pm cdv ct:Value}
  (a:PySem.W.nsIn K mainGlobals x=some (some (.ref C))) (s:PySem.W.specialIn K (.ref C) "__getattribute__"=some (some (.builtin "type.__getattribute__"))) (r:PySem.W.readsIn K C (.type "type")=true)
  (i:PySem.W.findCls K (.ref C) (.type "type") m=some (.val (.ref f)))
  (l:K.lookup f=some ⟨oc,od,.func (PySem.W.fnOf m qual (d9 st) (bG st) (az st) .none kV doc pm an cdv ct),osl⟩) (c:PySem.W.codeIn K cdv qual=true) (k:PySem.W.keepIn K (.ref f)=true):Gu K mg x m qual st:=by
 have e0:=ZF X G a
 have e:=eQ e0
 exact ⟨by rw [e];exact e0,by rw [e];exact s,by rw [e];exact r,f,_,by rw [e];exact i,k,wg l c k⟩
def VV (P:Program) (w:World) (K:W.Frag) (mg:Str->Option Value) (base:Heap) (k:Nat) (x m:Str) (ps:List Str) (sp:Sp):Prop:=
 mg x=some (.ref (aF mg x))/\PySem.W.specialIn K (.ref (aF mg x)) "__getattribute__"=some (some (.builtin "type.__getattribute__"))/\PySem.W.readsIn K (aF mg x) (.type "type")=true/\
 ∃ f fd,PySem.W.findCls K (.ref (aF mg x)) (.type "type") m=some (.val (.ref f))/\PySem.W.keepIn K (.ref f)=true/\Binds K fd ps []/\FnOk P w K mg base (Iu P w) k f fd ps sp
section
variable {P:Program} {w:World} {K:W.Frag} {mg:Str->Option Value} {base:Heap}
theorem hasC {x m qual:Str} {st:Stmt} {N ps:List Str} {k:Nat} {sp:Sp} (D:Gu K mg x m qual st) (S:aC N ps (az st))
  (hb:∀ (kV doc pm:Value) (an:Option Addr) (cdv ct:Value) (us:List Value),us.length=ps.length->bindArgs (PySem.W.fnOf m qual (d9 st) (bG st) (az st) .none kV doc pm an cdv ct) ⟨us,[]⟩=pure (ps.zip us))
  (len:∀ vs H Q E,sp vs H Q E->vs.length=ps.length)
  (hbody:∀ (f:Addr) (cdv:Value) (A:Around) (outer:List Env) (s:Shared) (H:Hp) (vs:List V) (Q:VK) (E:XK),Room k (A.deeper (envOfC qual (az st) s.heap.objs.size f cdv))->sp vs H Q E->
   ∃ t,JB (pH (Iu P w) P w K mg base N qual (az st) f cdv A outer s H E) (bG st) t/\t {nx:=fun _ H'=>Q .non H',rt:=Q} (start N vs) H):VV P w K mg base (k+1) x m ps sp:=by
 obtain ⟨f,fd,hm,kp,F⟩:=D.ex
 refine ⟨D.at_,D.sp,D.rd,f,fd,hm,kp,F.binds hb,?_⟩
 obtain ⟨oc,od,kV,doc,pm,an,cdv,ct,osl,rfl,lk,hcd⟩:=F.ex
 exact Bh lk hcd S len fun A outer s H vs Q E hr h=>let ⟨t,j,q⟩:=hbody f cdv A outer s H vs Q E hr h;⟨t,j.run,q⟩
end
section
variable {X:Cx} {K:W.Frag} {k:Nat} {f C:Addr} {ps xs:List Str} {sp:Sp} {R:St->XK} {x m fn:Str} {p pos apos pos':Pos} {e o value:Expr} {es:List Expr} {ta tv:TE} {t:TA} {pins:List (Addr×Obj)} {U:St} {H:Hp} {s:Shared} {Q:VK} {us:List Value} {vs:List V} {mg:Str->Option Value}
theorem bD {pl:Sem Bool} (hmg:X.mg=mg) (he:JE X o ta) (c:YK X.K X.mg xs) (F:Es X.prog X.w X.K X.mg X.base k xs m ps sp) (hr:Room k X.A) (hx:jO X R)
  (ht:eval (.Call (.Attribute o m apos) [] [] pos) X.env=(do
   let ov ← eval o X.env
   standAt apos.atName
   let (f,first) ← holding [ov] (getMethod ov m pl)
   callWith pos f first (backTo pos (starEach [] X.env)) (backToKw pos (keywordEach [] X.env))):=by rfl):
  JE X (.Call (.Attribute o m apos) [] [] pos) (Nh mg xs m sp R ta Ky):=⟨by
 subst hmg
 obtain ⟨f,fd,hm,hb,F⟩:=F
 intro pins s U H Q I h
 refine Aa6 (pl:=pl) (dW (he.run pins s U H _ I h) fun u s1 qq0=>?_) ht
 obtain ⟨x,H1,I1,rx,a,y,dx,fs,ex,hy,ea,l,q⟩:=qq0
 subst ex
 obtain rfl:u=Value.ref a:=rx
 refine qY I1 ea (c y hy) (hm y hy) l ?_
 exact PySem.W.callWith_K0 (first:=[.ref a]) I1.kIn (hm y hy).kp (sY (us:=[.ref a]) (vs:=[.ref a]) F hr hb hx I1 (.cons rfl .nil) q)⟩
theorem wM {pl:Sem Bool} (F:VV X.prog X.w X.K X.mg X.base k x m ps sp) (hr:Room k X.A) (hg:Gl X x) (hx:jO X R) (ha:JA X (e :: es) t) (hdb:(x == ("__debug__":Str))=false)
  (hs:autoParam ((e :: es).all notStar=true) L2.auto4._auto_1)
  (ht:eval (.Call (.Attribute (.Name x p) m apos) (e :: es) [] pos) X.env=(do
   let ov ← eval (.Name x p) X.env
   standAt apos.atName
   let (f,first) ← holding [ov] (getMethod ov m pl)
   callWith pos f first (backTo pos (starEach (e :: es) X.env)) (backToKw pos (keywordEach [] X.env))):=by rfl):
  JE X (.Call (.Attribute (.Name x p) m apos) (e :: es) [] pos) (S9 sp R t):=⟨by
 have h1:notStar e=true:=by simp only [ZC,Zb] at hs;exact hs.1
 have h2:es.all notStar=true:=by simp only [ZC,Zb] at hs;exact hs.2
 obtain ⟨at_,sg,rd,f,fd,fc,kp,hb,F⟩:=F
 intro pins s U H Q I h
 refine Aa6 (pl:=pl) (lZ I hg at_ ?_ hdb) ht
 refine PySem.W.method_cls I.kIn sg (PySem.W.cls_value I.kIn rd fc rfl ?_)
 have I1:=I.tok (s.toks+1)
 refine AaC (first:=[]) (h₀:=X.base) I.ok.mod.kin kp (dW (ha.run pos pins _ U H _ I1 h) fun us s2 ⟨vs,H2,I2,r,q2⟩=>⟨I2.kIn,?_⟩) (bH h1) (lB h2)
 exact sY F hr hb hx I2 r q2⟩
end
section
variable {U:St} {H:Hp} {D:Ends} {Q:VK} {sp:Sp} {R:St->XK} {a:TA} {K:W.Frag} {xs:List Str} {mg:Str->Option Value} {ta tv:TE} {f m:Str}
theorem bV (h:ta U H fun x H1=>∃ b y dx fs,x= .ref b/\y∈xs/\H1 b=some (.ins (aF mg y) dx fs)/\fs.lookup m=none/\a U H1 fun vs H2=>sp (x :: vs) H2 Q (R U)):Nh mg xs m sp R ta a U H Q:=h
theorem dM (h:a U H fun vs H1=>sp vs H1 Q (R U)):S9 sp R a U H Q:=h
end
def QV (xs:Array Value) (c:Nat):Obj:={cls:=.type "list",dict:=none,data:=.seq xs c,slots:=#[]}
section
variable {prog:Program} {w:World} {A:Around} {R:Result->Shared->Prop} {I S:Addr} {fp wr:List Addr} {n:Nat} {P:Nat->Value->Prop} {St:Nat->Heap->Prop} {d:Value} {bt:Nat->Nat->Bool}
abbrev mdl (I S:Addr) (d:Value):Code:=.builtin "max.loop" ⟨[.ref I,.none,.ref S],[(Str.ofString "default",d)]⟩
theorem QW (W:Walks prog w A.in1 I fp wr n P St) (hcmp:CmpOf prog w A.in1 .Gt P bt) (hSf:S ∉ fp):∀ (k j:Nat) (s:Shared) (v:Value) (c:Nat),j+k+1=n->St (j+1) s.heap->P (argBest bt j) v->s.heap.get? S=some (QV #[v,v] c)->
  (∀ v h' tk,P (argBest bt (n - 1)) v->(∀ b o,b ∉ wr->b≠S->s.heap.get? b=some o->h'.get? b=some o)->R (.ok (.ret v)) {s with heap:=h',toks:=tk})->codeAny (model prog w) A (mdl I S d) R s:=by
 have hSw:S ∉ wr:=fun h=>hSf (W.sub _ h)
 have nm:(toString "max" ++ toString ".loop":String)="max.loop":=by decide
 intro k
 induction k with
 | zero=>
  intro j s v c e hst hv hS hR
  refine AaJ F.entry_max_loop ?_
  rw [Aag Aaz _]
  show wpAny _ A.in1 (seqItems? (.ref S) >>=_) _ _ s
  refine YS (AaT hS rfl ?_)
  show wpAny _ A.in1 (tryCatch (pyNext (.ref I)) _ >>=_) _ _ s
  have e':j+1=n:=e
  refine YS (Aak (W.done s _ _ (e' ▸ hst) fun h' tk kp=>?_))
  refine YS (m:=updateSeq S fun _=>#[]) ?_
  refine AaI (kp S _ hSw hS) rfl (YS (AaW (YX (hR v _ tk ?_ fun b o n1 n2 q=>?_))))
  ·rw [← e'];exact hv
  ·exact (Zf _ _ (Ne.symm n2)).trans (kp b o n1 q)
 | succ k ih=>
  intro j s v c e hst hv hS hR
  refine AaJ F.entry_max_loop ?_
  rw [Aag Aaz _]
  show wpAny _ A.in1 (seqItems? (.ref S) >>=_) _ _ s
  refine YS (AaT hS rfl ?_)
  show wpAny _ A.in1 (tryCatch (pyNext (.ref I)) _ >>=_) _ _ s
  refine YS (Aak (W.item (j+1) s _ _ (by omega) hst fun u h' tk hu hst' kp=>?_))
  have hS':=kp S _ hSw hS
  show wpAny _ A.in1 (tryCatch (holding [u,u] (richCompare .Gt u v >>=_)) _ >>=_) _ _ _
  refine YS (Aak (Zw (YS (hcmp (j+1) (argBest bt j) u v _ _ _ hu hv ?_))))
  refine YS (Zw (Z1 (YS (AaW (YX ?_)))))
  have eb:argBest bt (j+1)=if bt (j+1) (argBest bt j) then j+1 else argBest bt j:=rfl
  cases hb:bt (j+1) (argBest bt j) with
  | true=>
   rw [hb,if_pos rfl] at eb
   rw [if_pos rfl]
   refine YS (AaI hS' rfl (YS (AaW ?_)))
   rw [nm]
   refine YX ⟨Aas Aaz _,ih (j+1) _ u _ (by omega) (W.frame _ _ _ hst' fun b hf o q=>?_) (by rw [eb];exact hu) (Zy _ hS' rfl) fun v' h2 tk2 hv' k2=>hR v' h2 tk2 hv' fun b o n1 n2 q=>?_⟩
   ·exact (Zf _ _ (fun z:S=b=>hSf (z ▸ hf))).trans q
   ·exact k2 b o n1 n2 ((Zf _ _ (Ne.symm n2)).trans (kp b o n1 q))
  | false=>
   rw [hb,if_neg (by decide)] at eb
   rw [if_neg (by decide)]
   refine YS (AaW ?_)
   rw [nm]
   exact YX ⟨Aas Aaz _,ih (j+1) _ v c (by omega) hst' (by rw [eb];exact hv) hS' fun v' h2 tk2 hv' k2=>hR v' h2 tk2 hv' fun b o n1 n2 q=>k2 b o n1 n2 (kp b o n1 q)⟩
theorem Et (W:Walks prog w A.in1 I fp wr n P St) (hcmp:CmpOf prog w A.in1 .Gt P bt) (hSf:S ∉ fp) {s:Shared} {c:Nat} (hst:St 0 s.heap) (hS:s.heap.get? S=some (QV #[] c))
  (h0:n=0->∀ h' tk,(∀ b o,b ∉ wr->b≠S->s.heap.get? b=some o->h'.get? b=some o)->R (.ok (.ret d)) {s with heap:=h',toks:=tk})
  (hR:0 < n->∀ v h' tk,P (argBest bt (n - 1)) v->(∀ b o,b ∉ wr->b≠S->s.heap.get? b=some o->h'.get? b=some o)->R (.ok (.ret v)) {s with heap:=h',toks:=tk}):codeAny (model prog w) A (mdl I S d) R s:=by
 have hSw:S ∉ wr:=fun h=>hSf (W.sub _ h)
 have nm:(toString "max" ++ toString ".loop":String)="max.loop":=by decide
 refine AaJ F.entry_max_loop ?_
 rw [Aag Aaz _]
 show wpAny _ A.in1 (seqItems? (.ref S) >>=_) _ _ s
 refine YS (AaT hS rfl ?_)
 show wpAny _ A.in1 (tryCatch (pyNext (.ref I)) _ >>=_) _ _ s
 by_cases hn:n=0
 ·refine YS (Aak (W.done s _ _ (hn ▸ hst) fun h' tk kp=>?_))
  show wpAny _ A.in1 (rule _ >>=_) _ _ _
  exact YS (wpAny_rule (YX (h0 hn h' tk fun b o n1 _ q=>kp b o n1 q)))
 ·refine YS (Aak (W.item 0 s _ _ (by omega) hst fun u h' tk hu hst' kp=>?_))
  have hS':=kp S _ hSw hS
  show wpAny _ A.in1 (updateSeq S (fun _=>#[u,u]) >>=_) _ _ _
  refine YS (AaI hS' rfl ?_)
  rw [nm]
  refine YX ⟨Aas Aaz _,QW W hcmp hSf (n - 1) 0 _ u _ (by omega) (W.frame _ _ _ hst' fun b hf o q=>?_) hu (Zy _ hS' rfl) fun v' h2 tk2 hv' k2=>hR (by omega) v' h2 tk2 hv' fun b o n1 n2 q=>?_⟩
  ·exact (Zf _ _ (fun z:S=b=>hSf (z ▸ hf))).trans q
  ·exact k2 b o n1 n2 ((Zf _ _ (Ne.symm n2)).trans (kp b o n1 q))
theorem Jh (a v:Value):argsOk "max" ⟨[a],[(Str.ofString "default",v)]⟩:=by unfold argsOk;kernel_rfl
theorem Ji {E:Value->Shared->Prop} {s:Shared} {x:Value} {Q:Value->Shared->Prop} (h:wpAny (model prog w) A.in1 (pyIter x) (fun it s₂=>∃ I fp wr n P St bt,it= .ref I/\Walks prog w A.in1 I fp wr n P St/\St 0 s₂.heap/\(∀ b∈fp,b < s₂.heap.objs.size)/\CmpOf prog w A.in1 .Gt P bt/\
   (n=0->∀ h' tk,(∀ b o,b ∉ wr->s₂.heap.get? b=some o->h'.get? b=some o)->Q d {s₂ with heap:=h',toks:=tk})/\
   (0 < n->∀ v h' tk,P (argBest bt (n - 1)) v->(∀ b o,b ∉ wr->s₂.heap.get? b=some o->h'.get? b=some o)->Q v {s₂ with heap:=h',toks:=tk})) E s):
  wpAny (model prog w) A (call (.builtin "max") [x] [(Str.ofString "default",d)]) Q E s:=by
 have nm:(toString "max" ++ toString ".loop":String)="max.loop":=by decide
 refine kmk_tree F.kind_max F.plain_max F.entry_max (Jh _ _) ?_
 show wpAny _ A.in1 (Builtin.Builtins.bindParams "max" ["key","default"] 0 ⟨[],[(Str.ofString "default",d)]⟩ >>=_) _ _ s
 refine YS (Aaf (show Builtin.Builtins.bindParams "max" ["key","default"] 0 ⟨[],[(Str.ofString "default",d)]⟩=pure [none,some d] from rfl) ?_)
 refine YS (YX ?_)
 refine YS (ZM h (fun it s₂ h₂=>?_) fun _ _ e=>e)
 obtain ⟨I,fp,wr,n,P,St,bt,rfl,W,hst,hfp,hcmp,q0,q1⟩:=h₂
 refine YS (Z8 ?_)
 have hSf:s₂.heap.objs.size ∉ fp:=fun hm=>Z5 _ (hfp _ hm)
 rw [nm]
 have lt:∀ {b o},s₂.heap.get? b=some o->b≠s₂.heap.objs.size:=fun e=>Zt (Y5 e)
 exact YX ⟨Aas Aaz _,Et W hcmp hSf (W.frame _ _ _ hst fun b _ o e=>Y0 _ e) (Za _ rfl)
  (fun hn h' tk kp=>q0 hn h' tk fun b o n1 e=>kp b o n1 (lt e) (Y0 _ e)) (fun hn v h' tk hv kp=>q1 hn v h' tk hv fun b o n1 e=>kp b o n1 (lt e) (Y0 _ e))⟩
end
def Ni:V->V->Hp->VK->Prop:=fun x y H Q=>∃ (p:Addr) (ns:List Int),x= .ref p/\H p=some (.lst (ns.map V.int))/\(ns=[]->Q y H)/\∀ M,M∈ns->(∀ a∈ns,a<=M)->Q (.int M) H
def Tc (ta td:TE):TE:=fun U H Q=>ta U H fun x H1=>td U H1 fun y H2=>Ni x y H2 Q
section
variable {X:Cx} {pins:List (Addr×Obj)} {U:St} {H:Hp} {s:Shared} {Q:VK} {x:Str} {p pos kpos:Pos} {e dv:Expr} {ta td:TE}
theorem Nj {u ud:Value} {v y:V} (hc:X.calm=true) (I:Inv X pins U H s) (rv:RelV v u) (ry:RelV y ud) (h:Ni v y H Q):
  wpAny (model X.prog X.w) X.A (call (.builtin "max") [u] [(Str.ofString "default",ud)]) (EP X pins U Q) X.xe s:=by
 obtain ⟨p,ns,rfl,hp,q0,q1⟩:=h
 obtain rfl:u= .ref p:=rv
 obtain ⟨hz,its,n,rv,g⟩:=I.hok p _ hp
 have hi:IntsAre its ns:=intsAre_of rv
 have hl:=rv.length
 obtain ⟨ys,ey⟩:=hi.allInts.items
 have hn:=hi.numsOf
 have hL:s.heap.IsList p (intItems ys):=⟨_,g,rfl,n,by rw [← ey]⟩
 have en:ys.toList.map (·.1)=ns:=by rw [← nums_intItems,← ey,← hn]
 have el:ys.size=ns.length:=by rw [← en];simp
 have ez:(intItems ys).size=ys.size:=by simp [intItems]
 refine Ji (iter_intList hL fun s₂ e st hfp hlI=>?_)
 subst e
 refine ⟨_,_,_,_,_,_,_,rfl,Walks.list (A:=X.A.in1) (I.ok.hd hc) _ p hlI (intItems ys),st,hfp,CmpOf.ints_gt (numAt ys) (fun _ _=>intItems_at),fun h0 h' tk hk=>?_,fun h0 v h' tk hP hk=>?_⟩
 ·exact ⟨y,H,I.kept (old_kept hk),ry,q0 (AaX (by omega))⟩
 ·have hP':(intItems ys)[argBest (fun i j=>decide (numAt ys i > numAt ys j)) (ys.size - 1)]?=some v:=by rw [← ez];exact hP
  obtain ⟨t,rfl⟩:=intItems_at hP'
  obtain ⟨h1,h2⟩:=argBest_gt (numAt ys) (ys.size - 1)
  refine ⟨.int _,H,I.kept (old_kept hk),⟨t,rfl⟩,q1 _ ?_ fun a ha=>?_⟩
  ·rw [← en,numAt_eq];exact getD_mem (by rw [Zj,Zi];omega)
  ·rw [← en] at ha
   obtain ⟨j,hj,rfl⟩:=mem_getD ha
   rw [Zj,Zi] at hj
   rw [← numAt_eq];exact h2 j (by omega)
theorem V0 (hc:X.calm=true) (hg:Gl X "max") (hm:X.mg "max"=none) (ha:JE X e ta) (hd:JE X dv td) (h:autoParam (notStar e=true) L2.auto4._auto_1):
  JE X (.Call (.Name "max" p) [e] [⟨some "default",dv,kpos⟩] pos) (Tc ta td):=⟨by
 intro pins s U H Q I hq
 refine ZG (jc I hg hm (show bootBuiltins "max"=some (.builtin "max") from by trivial) ?_)
 refine PyProof.Rows.callWith_kw (arg1 h (dW (ha.run pins s U H _ I hq) fun u s1 qq0=>?_)) (by rw [bH h];rfl) (by rw [bH h];rfl)
 obtain ⟨v,H1,I1,rv,q1⟩:=qq0
 refine wpAny_evalAll_cons (YS (dW (hd.run pins s1 U H1 _ I1 q1) fun ud s2 ⟨y,H2,I2,ry,q2⟩=>YS (wpAny_standAt (YX (wpAny_evalAll_nil ?_)))))
 exact Nj hc I2 rv ry q2⟩
end
section
variable {U:St} {H:Hp} {Q:VK} {ta td:TE}
theorem bW (h:ta U H fun x H1=>td U H1 fun y H2=>Ni x y H2 Q):Tc ta td U H Q:=h
end
structure ITxt (K:W.Frag) (mg:Str->Option Value) (x:Str):Prop where
 ha:PySem.W.findIn K (.ref (aF mg x)) "__class__"=some (some (.builtin "object.__class__"))
 hn:PySem.W.specialIn K (.builtin "object.__class__") "__get__"=some (some (.builtin "getset_descriptor.__get__"))
 htk:PySem.W.takesIn K (.builtin "object.__class__")=some true
 hm:PySem.W.mroIn K (aF mg x) (.type "object")=some true
theorem Ce {K:W.Frag} {mg:Str->Option Value} {h:Heap} (X:K.In h) (G:h.Ns mainGlobals mg) {x:Str} {C:Addr} (a:PySem.W.nsIn K mainGlobals x=some (some (.ref C)))
  (b:PySem.W.findIn K (.ref C) "__class__"=some (some (.builtin "object.__class__"))) (c:PySem.W.specialIn K (.builtin "object.__class__") "__get__"=some (some (.builtin "getset_descriptor.__get__")))
  (d:PySem.W.takesIn K (.builtin "object.__class__")=some true) (e:PySem.W.mroIn K C (.type "object")=some true):ITxt K mg x:=by
 have q:=eQ (ZF X G a)
 exact ⟨by rw [q];exact b,c,d,by rw [q];exact e⟩
theorem ITxt.ty {K:W.Frag} {mg:Str->Option Value} {x:Str} (i:ITxt K mg x) (cl:Cls K (aF mg x)) {H:Hp} {a dx:Addr} {fs:List (Str×V)} (h:H a=some (.ins (aF mg x) dx fs)):TyOf K H (.ref a) (.ref (aF mg x)):=.ins h cl i.ha i.hn i.htk i.hm
theorem eV {K:W.Frag} {mg:Str->Option Value} {h:Heap} (X:K.In h) (G:h.Ns mainGlobals mg) {x:Str} {C:Addr} {t:Value} {r:Option Bool} (a:PySem.W.nsIn K mainGlobals x=some (some (.ref C))) (o:PySem.W.kitOne K t (.ref C)=r):PySem.W.kitOne K t (.ref (aF mg x))=r:=by
 rw [eQ (ZF X G a)];exact o
def Yi:List V->Hp->(Int->Int->Nat->Prop)->Prop:=fun vs _ R=>∃ (lo:Int) (n:Nat),vs=[.int lo,.int (lo+n)]/\0<=lo/\lo<=1000000/\n<=1000000/\R lo 1 n
section
variable {X:Cx}
theorem wN {a b:Expr} {ta:TA} {p p2 p3 pos:Pos} (hc:X.calm=true) (hg:Gl X "list") (hm:X.mg "list"=none) (hg2:Gl X "range") (hm2:X.mg "range"=none) (ha:JA X [a,b] ta) (h:autoParam (notStar a=true) L2.auto4._auto_1) (h2:autoParam (notStar b=true) L2.auto4._auto_1):
  JE X (.Call (.Name "list" p) [.Call (.Name "range" p2) [a,b] [] p3] [] pos) (wI Yi ta):=⟨by
 intro pins s U H Q I hq
 refine ZG (jc I hg hm mq (Zn (arg1 rfl (ZG (jc I hg2 hm2 boot_range (Zn (dW (ha.run p3 pins s U H _ I hq) fun us s1 qq0=>?_) (bH h) (by rw [bH h2];rfl))))) rfl rfl))
 obtain ⟨vs,H1,I1,r1,q1⟩:=qq0
 obtain ⟨lo,n,rfl,h0,h1,hn,q⟩:=q1
 obtain ⟨u,w',rfl,⟨t,rfl⟩,⟨t',rfl⟩⟩:=vals2 r1
 exact call_range_2 (tL hc I1 (small_one (by omega) (by omega) (by omega) (by omega)) (by rw [rangeSize_one];split <;> omega) hn q)⟩
end
section
variable {H:Hp}
theorem Gv {lo hi:Int} {n:Nat} {R:Int->Int->Nat->Prop} (e:hi=lo+n) (h0:0<=lo) (h1:lo<=1000000) (hn:n<=1000000) (h:R lo 1 n):Yi [.int lo,.int hi] H R:=⟨lo,n,by rw [e],h0,h1,hn,h⟩
end
end L2
namespace L2
open PySem PySem.Spec PyProof.Rows
open PySem.Sem (wp)
open AutoSeq1 (wpAny_loadPart')
end L2
namespace L2
open PySem PySem.Spec PyProof.Rows
section
open PySem.SeqAt PySem.MeetsSeq PySem.MeetsSeq2 PySem.MeetsSeq3
open PySem.AutoSeq1 (wpAny_loadPart')
end
section
variable {X:Cx} {pins:List (Addr×Obj)} {U:St} {H0:Hp} {p It S f:Addr} {d:Value} {as:List Addr} {kf:Nat->List Int} {R:Result->Shared->Prop} {fo:Obj}
theorem Jj {H:Hp} {s:Shared} (I:Inv X pins U H s) (hp:H p=some (.lst (as.map V.ref))):s.heap.IsList p (as.map Value.ref).toArray:=by
 obtain ⟨_,its,n,rv,g⟩:=I.hok p _ hp
 rw [yN rv] at g
 exact ⟨_,g,rfl,n,rfl⟩
end
section
variable {X:Cx} {x:Str} {pos:Pos} {sc:Scope}
theorem ao (i:Nat) (h:autoParam (X.env.scope.names.lookup x=some .local) L2.auto7._auto_1) (hN:autoParam (X.N[i]?=some x) L2.auto4._auto_1) (hd:autoParam ((x == ("__debug__":Str))=false) L2.auto6._auto_1) (hcd:autoParam ((x == ("__classdict__":Str))=false) L2.auto6._auto_1):JE X (.Name x pos) (qW i):=Ec i h hN rfl hd hcd
theorem o7 (i:Nat) (h:autoParam (X.env.scope.names.lookup x=some .cell) L2.auto7._auto_1) (hN:autoParam (X.N[i]?=some x) L2.auto4._auto_1) (hd:autoParam ((x == ("__debug__":Str))=false) L2.auto6._auto_1) (hcd:autoParam ((x == ("__classdict__":Str))=false) L2.auto6._auto_1):JE X (.Name x pos) (qW i):=j_vC i h hN rfl hd hcd
theorem aP (h:autoParam (X.env.scope.names.lookup x=some .globalImplicit) L2.auto7._auto_1):Gl X x:=h
theorem gH (h:autoParam (sc.names.lookup x=some .local) L2.auto7._auto_1):Loc sc x:=.inl h
theorem Wz (h:autoParam (sc.names.lookup x=some .cell) L2.auto7._auto_1):Loc sc x:=.inr h
end
theorem wO {K:W.Frag} {mg:Str->Option Value} {h:Heap} (X:K.In h) (G:h.Ns mainGlobals mg) {x1 x2 x3 x4 x5 m qual:Str} {C1 C2 C3 C4 C5 f:Addr} {st:Stmt} {oc:Value} {od an:Option Addr} {osl:Array (Option Value)} {kV doc pm cdv ct:Value}
  (a1:PySem.W.nsIn K mainGlobals x1=some (some (.ref C1))) (a2:PySem.W.nsIn K mainGlobals x2=some (some (.ref C2))) (a3:PySem.W.nsIn K mainGlobals x3=some (some (.ref C3))) (a4:PySem.W.nsIn K mainGlobals x4=some (some (.ref C4))) (a5:PySem.W.nsIn K mainGlobals x5=some (some (.ref C5)))
  (i1:PySem.W.findIn K (.ref C1) m=some (some (.ref f))) (i2:PySem.W.findIn K (.ref C2) m=some (some (.ref f))) (i3:PySem.W.findIn K (.ref C3) m=some (some (.ref f))) (i4:PySem.W.findIn K (.ref C4) m=some (some (.ref f))) (i5:PySem.W.findIn K (.ref C5) m=some (some (.ref f)))
  (n:PySem.W.isFn K (.ref f)=true)
  (l:K.lookup f=some ⟨oc,od,.func (PySem.W.fnOf m qual (d9 st) (bG st) (az st) .none kV doc pm an cdv ct),osl⟩) (c:PySem.W.codeIn K cdv qual=true) (k:PySem.W.keepIn K (.ref f)=true):o6 K mg [x1,x2,x3,x4,x5] m qual st:=by
 have e1:=eQ (ZF X G a1)
 have e2:=eQ (ZF X G a2)
 have e3:=eQ (ZF X G a3)
 have e4:=eQ (ZF X G a4)
 have e5:=eQ (ZF X G a5)
 refine ⟨f,_,fun x hx=>?_,wg l c k⟩
 simp only [Y7,Zq,or_false] at hx
 rcases hx with rfl | rfl | rfl | rfl | rfl
 ·rw [e1];exact ⟨i1,n,k⟩
 ·rw [e2];exact ⟨i2,n,k⟩
 ·rw [e3];exact ⟨i3,n,k⟩
 ·rw [e4];exact ⟨i4,n,k⟩
 ·rw [e5];exact ⟨i5,n,k⟩
theorem QX {K:W.Frag} {mg:Str->Option Value} {x1 x2 x3 x4 x5:Str} (h1:jw K mg x1) (h2:jw K mg x2) (h3:jw K mg x3) (h4:jw K mg x4) (h5:jw K mg x5):YK K mg [x1,x2,x3,x4,x5]:=fun x hx=>by
 simp only [Y7,Zq,or_false] at hx
 rcases hx with rfl | rfl | rfl | rfl | rfl
 ·exact h1.cl
 ·exact h2.cl
 ·exact h3.cl
 ·exact h4.cl
 ·exact h5.cl
def ltV:V->V->Bool
 | .int a,.int b=>decide (a < b)
 | .str a,.str b=>decide (a.cps.toList < b.cps.toList)
 | _,_=>false
def xQ:List V->List V->Bool
 | x :: xs,y :: ys=>if x=y then xQ xs ys else ltV x y
 | _,_=>false
inductive SameK:List V->List V->Prop
 | nil:SameK [] []
 | int {a b:Int} {xs ys:List V}:SameK xs ys->SameK (.int a :: xs) (.int b :: ys)
 | str {a b:Str} {xs ys:List V}:SameK xs ys->SameK (.str a :: xs) (.str b :: ys)
theorem SameK.hd {x y:V} {xs ys:List V} (h:SameK (x :: xs) (y :: ys)):SameK [x] [y]/\SameK xs ys:=by
 cases h with
 | int h=>exact ⟨.int .nil,h⟩
 | str h=>exact ⟨.str .nil,h⟩
theorem QZ (x:V):ltV x x=false:=by
 cases x <;> simp [ltV]
theorem Jk {x y z:V} (h1:ltV x y=true) (h2:ltV y z=true):ltV x z=true:=by
 cases x <;> cases y <;> simp only [ltV,AaZ,AaK] at h1 <;> cases z <;> simp only [ltV,AaZ,AaK] at h2 ⊢
 ·exact Int.lt_trans h1 h2
 ·exact List.lt_trans h1 h2
theorem Gw:∀ xs:List V,xQ xs xs=false
 | []=>rfl
 | x :: xs=>by
  show (if x=x then xQ xs xs else ltV x x)=false
  rw [if_pos rfl];exact Gw xs
theorem yO:∀ {xs ys zs:List V},xQ xs ys=true->xQ ys zs=true->xQ xs zs=true
 | [],_,_,h1,_=>by simp [xQ] at h1
 | _ :: _,[],_,h1,_=>by simp [xQ] at h1
 | _ :: _,_ :: _,[],_,h2=>by simp [xQ] at h2
 | x :: xs,y :: ys,z :: zs,h1,h2=>by
  simp only [xQ] at h1 h2 ⊢
  by_cases e1:x=y
  ·subst e1
   rw [if_pos rfl] at h1
   by_cases e2:x=z
   ·subst e2
    rw [if_pos rfl] at h2 ⊢
    exact yO h1 h2
   ·rw [if_neg e2] at h2 ⊢;exact h2
  ·rw [if_neg e1] at h1
   by_cases e2:y=z
   ·subst e2
    rw [if_neg e1];exact h1
   ·rw [if_neg e2] at h2
    have h3:=Jk h1 h2
    rw [if_neg (fun z=>by rw [z,QZ] at h3;cases h3)]
    exact h3
theorem V1 {x y:V} (h:SameK [x] [y]):jH x=true/\jH y=true/\Ba x y=decide (x=y):=by
 cases h with
 | @int a b _ _ _=>
  refine ⟨rfl,rfl,?_⟩
  show (a == b)=_
  by_cases h:a=b <;> simp [h]
 | @str a b _ _ _=>
  refine ⟨rfl,rfl,?_⟩
  show (a == b)=_
  by_cases h:a=b <;> simp [h]
section
open PySem.SeqAt PySem.MeetsSeq PySem.MeetsSeq2 PySem.MeetsSeq3
open PySem.AutoSeq1 (wpAny_loadPart')
theorem Q0 {x y:V} {u v:Value} (h:SameK [x] [y]) (ru:RelV x u) (rv:RelV y v) (A:Around) (s:Shared) (prog:Program) (w:World) (E:Value->Shared->Prop) (Q:Value->Shared->Prop) (q:Q (.bool (ltV x y)) s):
  wpAny (model prog w) A (richCompare .Lt u v) Q E s:=by
 cases h with
 | int _=>
  obtain ⟨t,rfl⟩:=ru
  obtain ⟨t',rfl⟩:=rv
  exact (PyProof.Rows.lt_int q:wpAny (model prog w) A (compareOp .Lt _ _) Q E s)
 | str _=>
  obtain ⟨t,rfl⟩:=ru
  obtain ⟨t',rfl⟩:=rv
  exact (PyProof.Rows.lt_str q:wpAny (model prog w) A (compareOp .Lt _ _) Q E s)
theorem wQ (l b:Addr) (us ws:Array Value) (n n2:Nat) (dd dd2:Option Addr) (sl sl2:Array (Option Value)) (xs ys:List V) (hi:Vals xs us.toList) (hj:Vals ys ws.toList) (hk:SameK xs ys):
  Meets (Builtin.«tuple.__lt__» ⟨[.ref l,.ref b],[]⟩)
   (fun _ R s=>s.heap.get? l=some {cls:=.type "tuple",dict:=dd,data:=.seq us n,slots:=sl}/\s.heap.get? b=some {cls:=.type "tuple",dict:=dd2,data:=.seq ws n2,slots:=sl2}/\
    R (.ok (.ret (.bool (xQ xs ys)))) s):=
 .of_wp fun prog w A R s h=>by
  obtain ⟨hp,g,d,tk,os⟩:=s;obtain ⟨hl,hb,h⟩:=h
  have f2:=AutoSeq1.sub_tuple_tuple
  have lk:∀ {as bs:List V},SameK as bs->as.length=bs.length:=fun h=>by
   induction h with
   | nil=>rfl
   | int _ ih=>simp [ih]
   | str _ ih=>simp [ih]
  have z1:us.size=ws.size:=by
   have e1:=hi.length
   have e2:=hj.length
   simp only [Zi] at e1 e2
   rw [← e1,← e2,lk hk]
  wp_walk using wpAny_loadPart' hl,wpAny_loadPart' hb,wpAny_forIn_list _ (fun rest st s'=>st.1=none/\s'=⟨hp,g,d,tk,os⟩/\∃ (va wa:List Value) (na ma:List V),rest=va.zip wa/\
   Vals na va/\Vals ma wa/\SameK na ma/\R (.ok (.ret (.bool (xQ na ma)))) ⟨hp,g,d,tk,os⟩) _
  case turn=>
   rintro ⟨y,x⟩ rest st s' ⟨hst,rfl,va,wa,na,ma,hz,hva,hwa,hsk,hR⟩
   cases hva with
   | nil=>rw [List.zip_nil_left] at hz;cases hz
   | cons ru hva'=>
    cases hwa with
    | nil=>rw [List.zip_nil_right] at hz;cases hz
    | cons rv hwa'=>
     rw [List.zip_cons_cons] at hz
     injection hz with hyx hrest
     injection hyx with hy hx
     subst hy hx
     obtain ⟨hh,hsk'⟩:=SameK.hd hsk
     simp only [xQ] at hR
     obtain ⟨f1,f2',e⟩:=V1 hh
     have he:=pI (A:=A.in1) (s:=⟨hp,g,d,tk,os⟩) ru rv f1 f2'
     rw [e] at he
     refine YS (he prog w _ _ ?_)
     split at hR
     ·rename_i e
      rw [Y9 e]
      wp_walk
      exact ⟨rfl,rfl,_,_,_,_,hrest,hva',hwa',hsk',hR⟩
     ·rename_i e
      rw [Zc e]
      have hri:=Q0 hh ru rv A.in1 ⟨hp,g,d,tk,os⟩ prog w
      wp_walk using hri
      exact ⟨_,rfl,by simpa using hR⟩
  case fin=>
   rintro ⟨b1,b2⟩ s' ⟨hst,rfl,va,wa,na,ma,hz,hva,hwa,hsk,hR⟩
   simp only at hst
   subst hst
   have hv:xQ na ma=decide (us.size < ws.size):=by
    rw [z1,Zc (by omega)]
    cases hsk with
    | nil=>rfl
    | int _=>
     cases hva;cases hwa
     rw [List.zip_cons_cons] at hz
     cases hz
    | str _=>
     cases hva;cases hwa
     rw [List.zip_cons_cons] at hz
     cases hz
   rw [hv] at hR
   wp_walk
   exact ⟨_,rfl,by simpa [Builtin.Tuple.tupleCompareSizes] using hR⟩
  case h=>
   exact ⟨rfl,rfl,us.toList,ws.toList,xs,ys,rfl,hi,hj,hk,h⟩
end
theorem Nk {A:Around} (h:A.units+64 < cLine):A.in1.units < cLine:=by
 have:A.in1.units=A.units+1:=rfl
 omega
abbrev mnp (I S:Addr):Code:=.builtin "min.loop" ⟨[.ref I,.none,.ref S],[]⟩
def V2 (prog:Program) (w:World) (A:Around) (G:Heap->Prop) (P:Nat->Value->Prop) (bt:Nat->Nat->Bool):Prop:=
 ∀ (i j:Nat) (vi vj:Value) (s:Shared) (Q E:Value->Shared->Prop),G s.heap->P i vi->P j vj->Q (.bool (bt i j)) s->wpAny (model prog w) A (richCompare .Lt vi vj) Q E s
section
variable {prog:Program} {w:World} {A:Around} {R:Result->Shared->Prop} {I S:Addr} {fp wr:List Addr} {n:Nat} {P:Nat->Value->Prop} {St:Nat->Heap->Prop} {bt:Nat->Nat->Bool} {G:Heap->Prop}
theorem Q3 (W:Walks prog w A.in1 I fp wr n P St) (hcmp:V2 prog w A.in1 G P bt) (hSf:S ∉ fp) (hG:∀ h h':Heap,G h->(∀ b o,b ∉ wr->b≠S->h.get? b=some o->h'.get? b=some o)->G h'):∀ (k j:Nat) (s:Shared) (v:Value) (c:Nat),j+k+1=n->St (j+1) s.heap->G s.heap->P (argBest bt j) v->s.heap.get? S=some (QV #[v,v] c)->
  (∀ v h' tk,P (argBest bt (n - 1)) v->(∀ b o,b ∉ wr->b≠S->s.heap.get? b=some o->h'.get? b=some o)->R (.ok (.ret v)) {s with heap:=h',toks:=tk})->codeAny (model prog w) A (mnp I S) R s:=by
 have hSw:S ∉ wr:=fun h=>hSf (W.sub _ h)
 have nm:(toString "min" ++ toString ".loop":String)="min.loop":=by decide
 intro k
 induction k with
 | zero=>
  intro j s v c e hst hg hv hS hR
  refine AaJ F.entry_min_loop ?_
  rw [Aag AaA _]
  show wpAny _ A.in1 (seqItems? (.ref S) >>=_) _ _ s
  refine YS (AaT hS rfl ?_)
  show wpAny _ A.in1 (tryCatch (pyNext (.ref I)) _ >>=_) _ _ s
  have e':j+1=n:=e
  refine YS (Aak (W.done s _ _ (e' ▸ hst) fun h' tk kp=>?_))
  refine YS (m:=updateSeq S fun _=>#[]) ?_
  refine AaI (kp S _ hSw hS) rfl (YS (AaW (YX (hR v _ tk ?_ fun b o n1 n2 q=>?_))))
  ·rw [← e'];exact hv
  ·exact (Zf _ _ (Ne.symm n2)).trans (kp b o n1 q)
 | succ k ih=>
  intro j s v c e hst hg hv hS hR
  refine AaJ F.entry_min_loop ?_
  rw [Aag AaA _]
  show wpAny _ A.in1 (seqItems? (.ref S) >>=_) _ _ s
  refine YS (AaT hS rfl ?_)
  show wpAny _ A.in1 (tryCatch (pyNext (.ref I)) _ >>=_) _ _ s
  refine YS (Aak (W.item (j+1) s _ _ (by omega) hst fun u h' tk hu hst' kp=>?_))
  have hS':=kp S _ hSw hS
  have hg':G h':=hG _ _ hg fun b o n1 _ q=>kp b o n1 q
  show wpAny _ A.in1 (tryCatch (holding [u,u] (richCompare .Lt u v >>=_)) _ >>=_) _ _ _
  refine YS (Aak (Zw (YS (hcmp (j+1) (argBest bt j) u v _ _ _ hg' hu hv ?_))))
  refine YS (Zw (Z1 (YS (AaW (YX ?_)))))
  have eb:argBest bt (j+1)=if bt (j+1) (argBest bt j) then j+1 else argBest bt j:=rfl
  cases hb:bt (j+1) (argBest bt j) with
  | true=>
   rw [hb,if_pos rfl] at eb
   rw [if_pos rfl]
   refine YS (AaI hS' rfl (YS (AaW ?_)))
   rw [nm]
   refine YX ⟨Aas AaA _,ih (j+1) _ u _ (by omega) (W.frame _ _ _ hst' fun b hf o q=>?_) (hG _ _ hg' fun b o n1 n2 q=>?_) (by rw [eb];exact hu) (Zy _ hS' rfl) fun v' h2 tk2 hv' k2=>hR v' h2 tk2 hv' fun b o n1 n2 q=>?_⟩
   ·exact (Zf _ _ (fun z:S=b=>hSf (z ▸ hf))).trans q
   ·exact (Zf _ _ (Ne.symm n2)).trans q
   ·exact k2 b o n1 n2 ((Zf _ _ (Ne.symm n2)).trans (kp b o n1 q))
  | false=>
   rw [hb,if_neg (by decide)] at eb
   rw [if_neg (by decide)]
   refine YS (AaW ?_)
   rw [nm]
   exact YX ⟨Aas AaA _,ih (j+1) _ v c (by omega) hst' hg' (by rw [eb];exact hv) hS' fun v' h2 tk2 hv' k2=>hR v' h2 tk2 hv' fun b o n1 n2 q=>k2 b o n1 n2 (kp b o n1 q)⟩
theorem Eu (W:Walks prog w A.in1 I fp wr n P St) (hcmp:V2 prog w A.in1 G P bt) (hSf:S ∉ fp) (hG:∀ h h':Heap,G h->(∀ b o,b ∉ wr->b≠S->h.get? b=some o->h'.get? b=some o)->G h') {s:Shared} {c:Nat} (hst:St 0 s.heap) (hg:G s.heap) (hS:s.heap.get? S=some (QV #[] c)) (hn:0 < n)
  (hR:∀ v h' tk,P (argBest bt (n - 1)) v->(∀ b o,b ∉ wr->b≠S->s.heap.get? b=some o->h'.get? b=some o)->R (.ok (.ret v)) {s with heap:=h',toks:=tk}):codeAny (model prog w) A (mnp I S) R s:=by
 have hSw:S ∉ wr:=fun h=>hSf (W.sub _ h)
 have nm:(toString "min" ++ toString ".loop":String)="min.loop":=by decide
 refine AaJ F.entry_min_loop ?_
 rw [Aag AaA _]
 show wpAny _ A.in1 (seqItems? (.ref S) >>=_) _ _ s
 refine YS (AaT hS rfl ?_)
 show wpAny _ A.in1 (tryCatch (pyNext (.ref I)) _ >>=_) _ _ s
 refine YS (Aak (W.item 0 s _ _ (by omega) hst fun u h' tk hu hst' kp=>?_))
 have hS':=kp S _ hSw hS
 show wpAny _ A.in1 (updateSeq S (fun _=>#[u,u]) >>=_) _ _ _
 refine YS (AaI hS' rfl ?_)
 rw [nm]
 refine YX ⟨Aas AaA _,Q3 W hcmp hSf hG (n - 1) 0 _ u _ (by omega) (W.frame _ _ _ hst' fun b hf o q=>?_) (hG _ _ hg fun b o n1 n2 q=>?_) hu (Zy _ hS' rfl) fun v' h2 tk2 hv' k2=>hR v' h2 tk2 hv' fun b o n1 n2 q=>?_⟩
 ·exact (Zf _ _ (fun z:S=b=>hSf (z ▸ hf))).trans q
 ·exact (Zf _ _ (Ne.symm n2)).trans (kp b o n1 q)
 ·exact k2 b o n1 n2 ((Zf _ _ (Ne.symm n2)).trans (kp b o n1 q))
theorem Jl (a:Value):argsOk "min" ⟨[a],[]⟩:=by unfold argsOk;kernel_rfl
theorem yP {E:Value->Shared->Prop} {s:Shared} {p:Addr} {its:List Value} {Q:Value->Shared->Prop} (hh:A.handled=none) (hl:s.heap.IsList p its.toArray) (hn:its≠[])
  (hcmp:V2 prog w A.in1 G (fun i v=>its[i]?=some v) bt) (hg:G s.heap) (hG:∀ h h':Heap,G h->(∀ b o,b < s.heap.objs.size->h.get? b=some o->h'.get? b=some o)->G h')
  (q:∀ v h' tk,its[argBest bt (its.length - 1)]?=some v->(∀ b o,s.heap.get? b=some o->h'.get? b=some o)->Q v {s with heap:=h',toks:=tk}):
  wpAny (model prog w) A (call (.builtin "min") [.ref p]) Q E s:=by
 have nm:(toString "min" ++ toString ".loop":String)="min.loop":=by decide
 refine kmk_tree F.kind_min F.plain_min F.entry_min (Jl _) ?_
 show wpAny _ A.in1 (Builtin.Builtins.bindParams "min" ["key","default"] 0 ⟨[],[]⟩ >>=_) _ _ s
 refine YS (Aaf (show Builtin.Builtins.bindParams "min" ["key","default"] 0 ⟨[],[]⟩=pure [none,none] from rfl) ?_)
 refine YS (YX ?_)
 obtain ⟨ol,hol,holr⟩:=id hl
 have hll:p < s.heap.objs.size:=Y5 hol
 refine YS (wpAny_pyIter_list hl ?_)
 refine YS (wpAny_newList ?_ (Z7 _))
 rw [nm]
 have sz:∀ o:Obj,(s.heap.push o).objs.size=s.heap.objs.size+1:=fun o=>Aaj ..
 have lt:∀ {b o},s.heap.get? b=some o->b < s.heap.objs.size:=fun e=>Y5 e
 have szl:its.toArray.size=its.length:=by simp
 refine YX ⟨Aas AaA _,Eu (Walks.list (prog:=prog) (w:=w) (A:=A.in1) hh _ p (Zt hll) its.toArray) (bt:=bt) (G:=G) (fun i j vi vj s' Q' E' g' h1 h2 q'=>hcmp i j vi vj s' Q' E' g' (by simpa using h1) (by simpa using h2) q') ?_ (fun h h' g kp=>hG _ _ g fun b o hb e=>kp b o ?_ ?_ e) ⟨⟨_,Y0 _ (Za _ rfl),rfl,rfl⟩,⟨ol,Y0 _ (Y0 _ hol),holr⟩⟩ (hG _ _ hg fun b o hb e=>Y0 _ (Y0 _ e)) (Za _ rfl) (by rw [szl];exact List.length_pos_iff.mpr hn) fun v h' tk hv kp=>?_⟩
 ·intro hm
  rcases Y7.mp hm with z | z
  ·have z':(s.heap.push _).objs.size=s.heap.objs.size:=z
   rw [sz] at z';omega
  ·have z':(s.heap.push _).objs.size=p:=ZJ.mp z
   rw [sz] at z'
   have hll': @LT.lt Nat _ p s.heap.objs.size:=hll
   omega
 ·exact fun z=>by
   have z': @Eq Nat b s.heap.objs.size:=ZJ.mp z
   omega
 ·exact fun z=>by
   have z': @Eq Nat b (s.heap.push _).objs.size:=z
   rw [sz] at z';omega
 ·refine q v h' tk (by rw [← szl];exact (by simpa using hv)) fun b o e=>kp b o (fun z=>?_) (fun z=>?_) (Y0 _ (Y0 _ e))
  ·have hb': @LT.lt Nat _ b s.heap.objs.size:=lt e
   have z': @Eq Nat b s.heap.objs.size:=ZJ.mp z
   omega
  ·have hb': @LT.lt Nat _ b s.heap.objs.size:=lt e
   have z': @Eq Nat b (s.heap.push _).objs.size:=z
   rw [sz] at z';omega
end
theorem pO {bt:Nat->Nat->Bool} {n:Nat} (irr:∀ i,i<=n->bt i i=false) (tr:∀ i j k,i<=n->j<=n->k<=n->bt i j=true->bt j k=true->bt i k=true):∀ k,k<=n->argBest bt k<=k/\∀ j,j<=k->bt j (argBest bt k)=false
 | 0,_=>⟨Y4 _,fun j hj=>by
  have:j=0:=by omega
  subst this;exact irr 0 (Z7 _)⟩
 | k+1,hk=>by
  obtain ⟨h1,h2⟩:=pO irr tr k (by omega)
  have eb:argBest bt (k+1)=if bt (k+1) (argBest bt k) then k+1 else argBest bt k:=rfl
  cases hb:bt (k+1) (argBest bt k) with
  | true=>
   rw [hb,if_pos rfl] at eb
   rw [eb]
   refine ⟨Y4 _,fun j hj=>?_⟩
   by_cases e:j=k+1
   ·subst e;exact irr _ hk
   ·cases h:bt j (k+1) with
    | false=>rfl
    | true=>
     have:=tr _ _ _ (by omega) hk (by omega) h hb
     rw [h2 j (by omega)] at this;cases this
  | false=>
   rw [hb,if_neg (by decide)] at eb
   rw [eb]
   refine ⟨by omega,fun j hj=>?_⟩
   by_cases e:j=k+1
   ·subst e;exact hb
   ·exact h2 j (by omega)
def Nm (K:W.Frag):List V->Hp->VK->Prop:=fun xs H Q=>SQ xs H Q\/
 (∃ (p:Addr) (ts:List Str),xs=[.ref p]/\H p=some (.lst (ts.map V.str))/\ts≠[]/\∀ M,M∈ts->(∀ a∈ts,¬ a.cps.toList < M.cps.toList)->Q (.str M) H)\/
 ∃ (p:Addr) (as:List Addr) (ks:Nat->List V),xs=[.ref p]/\H p=some (.lst (as.map V.ref))/\as≠[]/\(∀ i a,as[i]?=some a->H a=some (.tup (ks i)))/\(∀ i j,i < as.length->j < as.length->SameK (ks i) (ks j))/\
  ∀ i a,as[i]?=some a->(∀ j,j < as.length->xQ (ks j) (ks i)=false)->Q (.ref a) H
section
variable {X:Cx}
theorem yQ:∀ {ts:List Str} {us:List Value},Vals (ts.map V.str) us->∀ (i:Nat) (v:Value),us[i]?=some v->∃ (t:Str) (tk:Tok),ts[i]?=some t/\v=Value.str t tk:=by
 intro ts
 induction ts with
 | nil=>intro us h i v e;cases h;simp at e
 | cons t ts ih=>
  intro us h i v e
  cases h with
  | cons a b=>
   cases i with
   | zero=>
    obtain ⟨tk,rfl⟩:=a
    simp at e
    exact ⟨t,tk,by simp,e.symm⟩
   | succ i=>exact ih b i v (by simpa using e)
theorem yR (hc:X.calm=true) (hu:X.A.in1.units < cLine):CallR X (.builtin "min") (Nm X.K):=by
 intro pins s U H xs us Q I r h
 rcases h with h | ⟨p,ts,rfl,hp,hne,q⟩ | ⟨p,as,ks,rfl,hp,hne,hk,hsk,q⟩
 ·exact Jg hc pins s U H xs us Q I r h
 ·obtain ⟨u,rfl,ru⟩:=vals1 r
  cases ru
  obtain ⟨hz,its,n,rv,g⟩:=I.hok p _ hp
  have hl:its.length=ts.length:=by rw [← rv.length];simp
  have hst:=yQ rv
  have hne':its≠[]:=fun z=>hne (AaX (by rw [← hl,z];rfl))
  have hpos:0 < its.length:=List.length_pos_iff.mpr hne'
  have at_:∀ (i:Nat) (v:Value),its[i]?=some v->∃ tk,v=Value.str (ts.getD i (⟨#[]⟩:Str)) tk:=fun i v e=>by
   obtain ⟨t,tk,e1,e2⟩:=hst i v e
   exact ⟨tk,by rw [e2,YZ,e1];rfl⟩
  refine yP (G:=fun _=>True) (bt:=fun i j=>decide ((ts.getD i (⟨#[]⟩:Str)).cps.toList < (ts.getD j (⟨#[]⟩:Str)).cps.toList)) (I.ok.hd hc) ⟨_,g,rfl,n,rfl⟩ hne' (fun i j vi vj s' Q' E' _ h1 h2 q'=>?_) trivial (fun _ _ _ _=>trivial) fun v h' tk hv hk=>?_
  ·obtain ⟨t1,rfl⟩:=at_ i vi h1
   obtain ⟨t2,rfl⟩:=at_ j vj h2
   exact (PyProof.Rows.lt_str q':wpAny (model X.prog X.w) X.A.in1 (compareOp .Lt _ _) Q' E' s')
  ·obtain ⟨h1,h2⟩:=pO (bt:=fun i j=>decide ((ts.getD i (⟨#[]⟩:Str)).cps.toList < (ts.getD j (⟨#[]⟩:Str)).cps.toList)) (n:=its.length - 1) (fun i _=>by simp) (fun i j k _ _ _ a b=>by
    simp only [AaK] at a b ⊢
    exact List.lt_trans a b) _ (Y4 _)
   obtain ⟨t,tk',e1,rfl⟩:=hst _ v hv
   refine ⟨.str t,H,I.kept hk,⟨tk',rfl⟩,q t (Y8 e1) fun a ha=>?_⟩
   obtain ⟨j,hj⟩:=List.mem_iff_getElem?.mp ha
   have hj':j < ts.length:=by
    obtain ⟨z,_⟩:=YW.mp hj
    exact z
   have:=h2 j (by omega)
   generalize argBest _ _=m at this e1 hv
   simp only [AaU,YZ,hj] at this
   rw [e1] at this
   exact this
 ·obtain ⟨u,rfl,ru⟩:=vals1 r
  cases ru
  have hL:=Jj I hp
  have hpos:0 < as.length:=List.length_pos_iff.mpr hne
  have at_:∀ (i:Nat) (v:Value),(as.map Value.ref)[i]?=some v->∃ a,as[i]?=some a/\v=Value.ref a:=fun i v e=>by
   rw [Zd] at e
   cases e1:as[i]? with
   | none=>rw [e1] at e;cases e
   | some a=>rw [e1] at e;cases e;exact ⟨a,rfl,rfl⟩
  refine yP (G:=fun h=>∀ i a,as[i]?=some a->∃ its,Vals (ks i) its/\h.IsTuple a its.toArray/\a < s.heap.objs.size) (bt:=fun i j=>xQ (ks i) (ks j)) (its:=as.map Value.ref) (I.ok.hd hc) hL (fun z=>hne (List.map_eq_nil_iff.mp z)) (fun i j vi vj s' Q' E' g h1 h2 q'=>?_) (fun i a e=>?_) (fun h h' g kp i a e=>?_) fun v h' tk hv hk'=>?_
  ·obtain ⟨a,e1,rfl⟩:=at_ i vi h1
   obtain ⟨b,e2,rfl⟩:=at_ j vj h2
   obtain ⟨u1,r1,p1,_⟩:=g i a e1
   obtain ⟨u2,r2,p2,_⟩:=g j b e2
   obtain ⟨⟨cls,dd,data,sl⟩,ho,hcl,n,hd⟩:=id p1
   obtain ⟨⟨cls2,dd2,data2,sl2⟩,ho2,hc2,n2,hd2⟩:=id p2
   simp only at hcl hd hc2 hd2
   subst hcl hd hc2 hd2
   have li:i < as.length:=by
    obtain ⟨z,_⟩:=YW.mp e1
    exact z
   have lj:j < as.length:=by
    obtain ⟨z,_⟩:=YW.mp e2
    exact z
   exact richCompare_meets_room (op:=.Lt) ⟨_,ho,rfl⟩ ⟨_,ho2,rfl⟩ PySem.F.slot_tuple_lt PySem.F.entry_tuple_lt (PySem.F.args_tuple_lt_2 _ _) (wQ a b u1.toArray u2.toArray n n2 dd dd2 sl sl2 (ks i) (ks j) (by simpa using r1) (by simpa using r2) (hsk i j li lj))
    ⟨ho,ho2,⟨(fun x=>nomatch x),q'⟩⟩ hu
  ·obtain ⟨its,r1,p1,_⟩:=I.tuple (SqT.of (hk i a e))
   obtain ⟨o,ho,_⟩:=id p1
   exact ⟨its,r1,p1,Y5 ho⟩
  ·obtain ⟨its,r1,⟨o,ho,hr⟩,l⟩:=g i a e
   exact ⟨its,r1,⟨o,kp _ _ l ho,hr⟩,l⟩
  ·rw [Zj] at hv
   obtain ⟨h1,h2⟩:=pO (bt:=fun i j=>xQ (ks i) (ks j)) (n:=as.length - 1) (fun i _=>Gw _) (fun i j k _ _ _ a b=>yO a b) _ (Y4 _)
   obtain ⟨a,e1,rfl⟩:=at_ _ v hv
   exact ⟨.ref a,H,I.kept hk',rfl,q _ a e1 fun j hj=>h2 j (by omega)⟩
def Gx:V->List V->Hp->VK->Prop:=fun x xs H Q=>∃ (l:Addr) (ts:List Str) (k:Str),x= .ref l/\xs=[.str k]/\H l=some (.lst (ts.map V.str))/\ts.length<=1000/\k∈ts/\Q (.int (ts.idxOf k:Nat)) H
theorem Jm:R5 X "list.index" Gx:=by
 intro pins s U H x xs v us Q I rx r h
 obtain ⟨l,ts,k,rfl,rfl,hl,hn,hk,q⟩:=h
 obtain ⟨u,rfl,t,rfl⟩:=vals1 r
 cases rx
 obtain ⟨hz,its,n,rv,g⟩:=I.hok l _ hl
 have hlen:its.length=ts.length:=by rw [← rv.length];simp
 have hst:=yQ rv
 have hj:=Aac.mpr hk
 let e:Value->Bool:=fun v=>match v with | .str z _=>decide (z=k) | _=>false
 have at_:∀ (i:Nat) (hi:i < its.toArray.size),∃ (z:Str) (tk:Tok),its.toArray[i]= .str z tk/\ts[i]?=some z:=fun i hi=>by
  obtain ⟨z,tk,e1,e2⟩:=hst i its.toArray[i] (by simp at hi ⊢)
  exact ⟨z,tk,e2,e1⟩
 refine call_meets F.slot_list_index ⟨_,g,rfl⟩ F.entry_list_index (F.args_list_index_2 _ _) (SeqAt.list_indexAt l its.toArray n none #[] (.str k t) e (ts.idxOf k) (by simp;omega) (by omega) ?_ ?_) ⟨g,?_,⟨.int _,H,I.tok _,⟨_,rfl⟩,q⟩⟩
 ·obtain ⟨z,tk,e1,e2⟩:=at_ (ts.idxOf k) (by simp;omega)
  rw [e1]
  have:ts[ts.idxOf k]?=some k:=by rw [YT hj];simp
  rw [this] at e2
  cases e2
  show decide (k=k)=true
  simp
 ·intro m hm hlt
  obtain ⟨z,tk,e1,e2⟩:=at_ m hm
  rw [e1]
  show decide (z=k)=false
  rw [AaU]
  intro hzk
  subst hzk
  have:=List.not_of_lt_findIdx (p:=fun x=>x == z) (xs:=ts) (i:=m) hlt
  obtain ⟨w1,w2⟩:=YW.mp e2
  rw [w2] at this
  simp at this
 ·intro y hy
  obtain ⟨i,hi,rfl⟩:=Array.mem_iff_getElem.mp hy
  obtain ⟨z,tk,e1,e2⟩:=at_ i hi
  rw [e1]
  have:=pI (A:=X.A.in1) (s:=s) (y:=.str z) (x:=.str k) (u:=.str z tk) (v:=.str k t) ⟨_,rfl⟩ ⟨_,rfl⟩ rfl rfl
  rw [show e (.str z tk)=Ba (.str z) (.str k) from by
   show decide (z=k)=(z == k)
   by_cases h:z=k <;> simp [h]]
  exact this
def Gy:V->List V->Hp->VK->Prop:=fun x xs H Q=>Mx x xs H Q\/Gx x xs H Q
theorem Jo:R5 X "list.index" Gy:=by
 intro pins s U H x xs v us Q I rx r h
 rcases h with h | h
 ·exact Mz pins s U H x xs v us Q I rx r h
 ·exact Jm pins s U H x xs v us Q I rx r h
end
section
variable {K:W.Frag} {H:Hp} {Q:VK}
theorem Q4 {p:Addr} {ts:List Str} (hp:H p=some (.lst (ts.map V.str))) (hne:ts≠[]) (h:∀ M,M∈ts->(∀ a∈ts,¬ a.cps.toList < M.cps.toList)->Q (.str M) H):Nm K [.ref p] H Q:=.inr (.inl ⟨p,ts,rfl,hp,hne,h⟩)
theorem Q5 {p:Addr} {as:List Addr} {ks:Nat->List V} (hp:H p=some (.lst (as.map V.ref))) (hne:as≠[]) (hk:∀ i a,as[i]?=some a->H a=some (.tup (ks i))) (hs:∀ i j,i < as.length->j < as.length->SameK (ks i) (ks j))
  (h:∀ i a,as[i]?=some a->(∀ j,j < as.length->xQ (ks j) (ks i)=false)->Q (.ref a) H):Nm K [.ref p] H Q:=.inr (.inr ⟨p,as,ks,rfl,hp,hne,hk,hs,h⟩)
theorem Jp {l:Addr} {ts:List Str} {k:Str} (hl:H l=some (.lst (ts.map V.str))) (hn:ts.length<=1000) (hk:k∈ts) (h:Q (.int (ts.idxOf k:Nat)) H):Gy (.ref l) [.str k] H Q:=.inr ⟨l,ts,k,rfl,rfl,hl,hn,hk,h⟩
end
structure Gz (K:W.Frag) (C:Addr):Prop where
 e:PySem.W.findIn K (.ref C) "__eq__"=some (some (.builtin "object.__eq__"))
 m:PySem.W.mroIn K C (.type "object")=some true
theorem wR {K:W.Frag} {mg:Str->Option Value} {h:Heap} (X:K.In h) (G:h.Ns mainGlobals mg) {x:Str} {C:Addr} (a:PySem.W.nsIn K mainGlobals x=some (some (.ref C)))
  (b:PySem.W.findIn K (.ref C) "__eq__"=some (some (.builtin "object.__eq__"))) (c:PySem.W.mroIn K C (.type "object")=some true):Gz K (aF mg x):=by
 rw [eQ (ZF X G a)];exact ⟨b,c⟩
section
variable {prog:Program} {w:World} {A:Around} {E:Value->Shared->Prop} {s:Shared} {K:W.Frag} {x C:Addr}
theorem Np {ox:Obj} {od:Option Obj} {Q:Value->Shared->Prop} (X:K.In s.heap) (I:PySem.W.InstAt s.heap x ox C od) (c:Gz K C) (hu:A.units < cLine) (q:Q (.bool true) s):
  wpAny (model prog w) A (compareOp .Eq (.ref x) (.ref x)) Q E s:=by
 show wpAny _ _ (richCompare .Eq (.ref x) (.ref x)) _ _ _
 have sub:PySem.W.Looks (model prog w) s.heap (isInstance (.ref x) (.type "object")) true:=I.type.andThen (PySem.W.looks_mroIn X c.m)
 have call1:∀ {A:Around} {Q:Value->Shared->Prop},Q (.bool true) s->wpAny (model prog w) A (call (.builtin "object.__eq__") [.ref x,.ref x]) Q E s:=fun {A Q} q=>
  AaB (Aae F.slot_object_eq.plain F.entry_object_eq (@PySem.W.check_slot (model prog w) _ _ s "object.__eq__" "object" "__eq__" (.ref x) [.ref x] [] _ (by trivial) (by trivial) sub (F.args_object_eq_2 _ _)
   (YS (Aaf (show slotArgs "__eq__" 1 ⟨[.ref x,.ref x],[]⟩=pure (.ref x,[.ref x]) from rfl) (YS (wpAny_isSame_ref_self (YX q)))))))
 unfold richCompare
 refine Zw (YS (wpAny_cRoomFor hu ?_))
 show wpAny _ _ (typeOf (.ref x) >>=_) _ _ _
 refine YS (I.type.here (YS (I.type.here ?_)))
 rw [if_neg (by simp)]
 refine YS (YX ?_)
 show wpAny _ _ (tryCompare (.ref x) (Str.ofString "__eq__") (.ref x) >>=_) _ _ _
 refine YS ?_
 have fin:wpAny (model prog w) A (callSpecialIfBound? (.ref x) (Str.ofString "__eq__") [.ref x]) (fun r s'=>r=some (.bool true)/\Q (.bool true) s') E s:=by
  unfold callSpecialIfBound? bindSpecialIfBound? specialOf
  refine Zw (YS (YS (YS (I.type.here ((Z9 X c.e).here ?_)))))
  have hb:∀ {E:Value->Shared->Prop} {R:Option (Value×List Value)->Shared->Prop},R (some (.builtin "object.__eq__",[.ref x])) s->wpAny (model prog w) A (bindSpecial (.builtin "object.__eq__") (.ref x) >>=fun l=>pure (some l)) R E s:=fun r=>YS (Aaf (F.slot_object_eq.bind (.ref x)) (YX r))
  have go:wpAny (model prog w) A (call (.builtin "object.__eq__") ([.ref x] ++ [.ref x]) >>=fun v=>pure (some v)) (fun r s'=>r=some (.bool true)/\Q (.bool true) s') E s:=YS (call1 (YX ⟨rfl,q⟩))
  refine YS (wpAny_askSetting ?_)
  split
  ·exact hb go
  ·exact Aak (hb go)
 unfold tryCompare
 refine YS (ZM fin (fun r s' ⟨e,q'⟩=>?_) fun _ _ h=>h)
 subst e
 exact YX (YX q')
end
def Yj (K:W.Frag):R2:=fun x y H Q=>(∃ a C dx fs,x= .ref a/\y= .ref a/\H a=some (.ins C dx fs)/\Gz K C/\Q (.bl true) H)\/
 ∃ a b xs,x= .ref a/\y= .ref b/\SqL K H a xs/\SqL K H b xs/\(∀ v∈xs,jH v=true\/∃ r,v= .ref r)/\Q (.bl true) H
section
variable {X:Cx}
theorem Nq (hu:X.A.units < cLine):OpR X (compareOp .Eq) (Yj X.K):=by
 intro pins s U H x y v u Q I rx ry h
 rcases h with ⟨a,C,dx,fs,rfl,rfl,ha,c,q⟩ | ⟨a,b,xs,rfl,rfl,ha,hb,fx,q⟩
 ·cases rx
  cases ry
  obtain ⟨mA,J,_⟩:=qC I.hok ha
  obtain ⟨od,J2,_⟩:=J.look
  exact Np I.kIn J2 c hu ⟨.bl true,H,I,rfl,q⟩
 ·cases rx
  cases ry
  obtain ⟨its,r1,p1,z1⟩:=I.list ha
  obtain ⟨jts,r2,p2,z2⟩:=I.list hb
  have l1:its.toArray.size=xs.length:=by simpa using r1.length.symm
  have l2:jts.toArray.size=xs.length:=by simpa using r2.length.symm
  refine SeqAt.eq_listAt (e:=fun _=>true) p1.isList p2.isList (by rw [l1,l2]) hu (fun j h1 h2=>?_) ?_
  ·have hj:j < xs.length:=by omega
   obtain ⟨u1,e1,q1⟩:=r1.get (YT hj)
   obtain ⟨u2,e2,q2⟩:=r2.get (YT hj)
   have f1:its.toArray[j]=u1:=by
    obtain ⟨_,z⟩:=YW.mp e1
    simpa using z
   have f2:jts.toArray[j]=u2:=by
    obtain ⟨_,z⟩:=YW.mp e2
    simpa using z
   rw [f1,f2]
   rcases fx _ (Aad hj) with f | ⟨r,f⟩
   ·rw [← tH f]
    exact pI q1 q2 f f
   ·rw [f] at q1 q2
    cases (show u1=Value.ref r from q1)
    cases (show u2=Value.ref r from q2)
    exact AaH _
  ·have e:((List.range its.toArray.size).all (fun _=>true))=true:=by simp
   rw [e]
   exact ⟨.bl true,H,I,rfl,q⟩
def Nr (K:W.Frag):R2:=fun x y H Q=>Mw K x y H Q\/Yj K x y H Q
theorem pP {K:W.Frag} (hK:X.K=K) (hu:X.A.units+64 < cLine):OpR X (compareOp .Eq) (Nr K):=by
 subst hK
 exact (ir rfl hu).or (Nq (Aaq (Aar _ _) hu))
end
section
variable {K:W.Frag} {H:Hp} {Q:VK}
theorem wU {i j:Int} (h:Q (.bl (decide (V.int i=V.int j))) H):Nr K (.int i) (.int j) H Q:=.inl (cO h)
theorem wV {i j:Str} (h:Q (.bl (decide (V.str i=V.str j))) H):Nr K (.str i) (.str j) H Q:=.inl (cQ h)
theorem wW {i j:Bool} (h:Q (.bl (decide (V.bl i=V.bl j))) H):Nr K (.bl i) (.bl j) H Q:=.inl (cR h)
end
end L2
namespace My
open PySem L2
local macro_rules | `(tactic| walk_at "p") => `(tactic| first | exact aR _ | with_unfolding_all rfl)
local macro_rules | `(tactic| walk_at "0") => `(tactic| (first | refine j9 ?_ | refine jR ?_ | refine jJ ?_ | refine gB ?_ | refine gC ?_ | (refine' gb ?hz0 ?_; (case hz0 => with_unfolding_all rfl)) | refine vI ?_ | refine kI ?_ | refine dB ?_ | refine dg ?_ | refine gf ?_ | refine fU ?_ | refine cW ?_ | refine fW ?_ | refine cV ?_ | refine j6 ?_ | refine cY ?_ | refine kJ ?_ | refine kj ?_ | refine dh ?_ | refine j7 ?_ | refine fX ?_ | refine fY ?_ | refine j8 ?_ | refine cZ ?_ | refine fZ ?_ | refine c7 ?_ | refine f9 ?_ | refine fV ?_ | refine cX ?_ | refine kh ?_ | refine yD ?_ | refine yE ?_ | refine km ?_ | refine kE ?_ | refine gj ?_ | refine di ?_ | refine dj ?_ | refine dm ?_ | refine dq ?_ | refine dw ?_ | refine dz ?_ | refine gk ?_ | refine vL ?_ | refine bM ?_ | refine dF ?_ | (refine' b7 (SqT.of ?hz0) ?hz1 ?_; (case hz0 => first | assumption | exact aj); (case hz1 => rfl)) | refine bO ?_ | refine bR ?_ | refine gr ?_ | refine bQ ?_ | refine dH ?_ | refine gw ?_ | refine dI ?_ | refine cJ ?_ | refine cL ?_ | refine cM ?_ | refine cO ?_ | refine cQ ?_ | refine cR ?_ | refine gA ?_ | refine bz ?_ | refine kO ?_ | refine cF ?_ | refine cG ?_ | refine cH ?_ | refine dG ?_ | refine cI ?_ | refine bN ?_ | refine fJ ?_ | refine dD ?_ | (refine' vJ ?hz0 ?_; (case hz0 => with_unfolding_all first | assumption | omega | (dsimp only <;> omega) | exact ⟨by omega, by omega⟩ | exact .inl ⟨by omega, by omega⟩ | exact .inr ⟨by omega, by omega⟩ | exact ⟨by decide, by decide, by decide⟩)) | (refine' dC ?hz0 ?_; (case hz0 => with_unfolding_all first | assumption | omega | (dsimp only <;> omega) | exact ⟨by omega, by omega⟩ | exact .inl ⟨by omega, by omega⟩ | exact .inr ⟨by omega, by omega⟩ | exact ⟨by decide, by decide, by decide⟩)) | (refine' bZ (SqL.of ?hz0) ?hz1 ?_; (case hz0 => first | assumption | exact aj); (case hz1 => with_unfolding_all rfl)) | (refine' gn (SqT.of ?hz0) ?hz1 ?_; (case hz0 => first | assumption | exact aj); (case hz1 => with_unfolding_all rfl)) | (refine' cC ?hz0 ?hz1 ?_; (case hz0 => first | assumption | exact aj); (case hz1 => with_unfolding_all rfl)) | refine bT ?_ | refine bU ?_ | refine gD ?_ | refine dJ ?_ | refine bV ?_ | refine dM ?_ | refine bW ?_ | refine ji ?_ | refine jh ?_))
local macro_rules | `(tactic| walk_at "1") => `(tactic| (first | refine j9 ?_ | refine jR ?_ | refine jJ ?_ | refine gB ?_ | refine gC ?_ | (refine' gb ?hz0 ?_; (case hz0 => with_unfolding_all rfl)) | refine vI ?_ | refine kI ?_ | refine dB ?_ | refine dg ?_ | refine gf ?_ | refine fU ?_ | refine cW ?_ | refine fW ?_ | refine cV ?_ | refine j6 ?_ | refine cY ?_ | refine kJ ?_ | refine kj ?_ | refine dh ?_ | refine j7 ?_ | refine fX ?_ | refine fY ?_ | refine j8 ?_ | refine cZ ?_ | refine fZ ?_ | refine c7 ?_ | refine f9 ?_ | refine fV ?_ | refine cX ?_ | refine kh ?_ | refine yD ?_ | refine yE ?_ | refine km ?_ | refine kE ?_ | refine gj ?_ | refine di ?_ | refine dj ?_ | refine dm ?_ | refine dq ?_ | refine dw ?_ | refine dz ?_ | refine gk ?_ | refine vL ?_ | refine bM ?_ | refine dF ?_ | (refine' b7 (SqT.of ?hz0) ?hz1 ?_; (case hz0 => first | assumption | exact aj); (case hz1 => rfl)) | refine bO ?_ | refine bR ?_ | refine gr ?_ | refine bQ ?_ | refine dH ?_ | refine gw ?_ | refine dI ?_ | refine cJ ?_ | refine cL ?_ | refine cM ?_ | refine cO ?_ | refine cQ ?_ | refine cR ?_ | refine gA ?_ | refine bz ?_ | refine kO ?_ | refine cF ?_ | refine cG ?_ | refine cH ?_ | refine dG ?_ | refine cI ?_ | refine bN ?_ | refine fJ ?_ | refine dD ?_ | (refine' vJ ?hz0 ?_; (case hz0 => with_unfolding_all first | assumption | omega | (dsimp only <;> omega) | exact ⟨by omega, by omega⟩ | exact .inl ⟨by omega, by omega⟩ | exact .inr ⟨by omega, by omega⟩ | exact ⟨by decide, by decide, by decide⟩)) | (refine' dC ?hz0 ?_; (case hz0 => with_unfolding_all first | assumption | omega | (dsimp only <;> omega) | exact ⟨by omega, by omega⟩ | exact .inl ⟨by omega, by omega⟩ | exact .inr ⟨by omega, by omega⟩ | exact ⟨by decide, by decide, by decide⟩)) | (refine' bZ (SqL.of ?hz0) ?hz1 ?_; (case hz0 => first | assumption | exact aj); (case hz1 => with_unfolding_all rfl)) | (refine' gn (SqT.of ?hz0) ?hz1 ?_; (case hz0 => first | assumption | exact aj); (case hz1 => with_unfolding_all rfl)) | (refine' cC ?hz0 ?hz1 ?_; (case hz0 => first | assumption | exact aj); (case hz1 => with_unfolding_all rfl)) | refine bT ?_ | refine bU ?_ | refine gD ?_ | refine dJ ?_ | refine bV ?_ | refine dM ?_ | refine bW ?_ | (refine' Gs ?hz0 ?_; (case hz0 => with_unfolding_all rfl)) | refine ji ?_ | refine jh ?_))
local macro_rules | `(tactic| walk_at "2") => `(tactic| (first | refine j9 ?_ | refine jR ?_ | refine jJ ?_ | refine gB ?_ | refine gC ?_ | (refine' gb ?hz0 ?_; (case hz0 => with_unfolding_all rfl)) | refine vI ?_ | refine kI ?_ | refine dB ?_ | refine dg ?_ | refine gf ?_ | refine fU ?_ | refine cW ?_ | refine fW ?_ | refine cV ?_ | refine j6 ?_ | refine cY ?_ | refine kJ ?_ | refine kj ?_ | refine dh ?_ | refine j7 ?_ | refine fX ?_ | refine fY ?_ | refine j8 ?_ | refine cZ ?_ | refine fZ ?_ | refine c7 ?_ | refine f9 ?_ | refine fV ?_ | refine cX ?_ | refine kh ?_ | refine yD ?_ | refine yE ?_ | refine km ?_ | refine kE ?_ | refine gj ?_ | refine di ?_ | refine dj ?_ | refine dm ?_ | refine dq ?_ | refine dw ?_ | refine dz ?_ | refine gk ?_ | refine vL ?_ | refine bM ?_ | refine dF ?_ | (refine' b7 (SqT.of ?hz0) ?hz1 ?_; (case hz0 => first | assumption | exact aj); (case hz1 => rfl)) | refine bO ?_ | refine bR ?_ | refine gr ?_ | refine bQ ?_ | refine dH ?_ | refine gw ?_ | refine dI ?_ | refine cJ ?_ | refine cL ?_ | refine cM ?_ | refine cO ?_ | refine cQ ?_ | refine cR ?_ | refine gA ?_ | refine bz ?_ | refine kO ?_ | refine cF ?_ | refine cG ?_ | refine cH ?_ | refine dG ?_ | refine cI ?_ | refine bN ?_ | refine fJ ?_ | refine dD ?_ | (refine' vJ ?hz0 ?_; (case hz0 => with_unfolding_all first | assumption | omega | (dsimp only <;> omega) | exact ⟨by omega, by omega⟩ | exact .inl ⟨by omega, by omega⟩ | exact .inr ⟨by omega, by omega⟩ | exact ⟨by decide, by decide, by decide⟩)) | (refine' dC ?hz0 ?_; (case hz0 => with_unfolding_all first | assumption | omega | (dsimp only <;> omega) | exact ⟨by omega, by omega⟩ | exact .inl ⟨by omega, by omega⟩ | exact .inr ⟨by omega, by omega⟩ | exact ⟨by decide, by decide, by decide⟩)) | (refine' bZ (SqL.of ?hz0) ?hz1 ?_; (case hz0 => first | assumption | exact aj); (case hz1 => with_unfolding_all rfl)) | (refine' gn (SqT.of ?hz0) ?hz1 ?_; (case hz0 => first | assumption | exact aj); (case hz1 => with_unfolding_all rfl)) | (refine' cC ?hz0 ?hz1 ?_; (case hz0 => first | assumption | exact aj); (case hz1 => with_unfolding_all rfl)) | refine bT ?_ | refine bU ?_ | refine gD ?_ | refine dJ ?_ | refine bV ?_ | refine dM ?_ | refine bW ?_))
local macro_rules | `(tactic| walk_at "3") => `(tactic| (first | refine j9 ?_ | refine jR ?_ | refine jJ ?_ | refine gB ?_ | refine gC ?_ | (refine' gb ?hz0 ?_; (case hz0 => with_unfolding_all rfl)) | refine vI ?_ | refine kI ?_ | refine dB ?_ | refine dg ?_ | refine gf ?_ | refine fU ?_ | refine cW ?_ | refine fW ?_ | refine cV ?_ | refine j6 ?_ | refine cY ?_ | refine kJ ?_ | refine kj ?_ | refine dh ?_ | refine j7 ?_ | refine fX ?_ | refine fY ?_ | refine j8 ?_ | refine cZ ?_ | refine fZ ?_ | refine c7 ?_ | refine f9 ?_ | refine fV ?_ | refine cX ?_ | refine kh ?_ | refine fP ?_ | refine fO ?_ | refine km ?_ | refine kE ?_ | refine gj ?_ | refine di ?_ | refine dj ?_ | refine dm ?_ | refine dq ?_ | refine dw ?_ | refine dz ?_ | refine gk ?_ | refine vL ?_ | refine bM ?_ | refine dF ?_ | (refine' b7 (SqT.of ?hz0) ?hz1 ?_; (case hz0 => first | assumption | exact aj); (case hz1 => rfl)) | refine bO ?_ | refine bR ?_ | refine gr ?_ | refine bQ ?_ | refine dH ?_ | refine gw ?_ | refine dI ?_ | refine cJ ?_ | refine cL ?_ | refine cM ?_ | refine cO ?_ | refine cQ ?_ | refine cR ?_ | refine gA ?_ | refine bz ?_ | refine kO ?_ | refine cF ?_ | refine cG ?_ | refine cH ?_ | refine dG ?_ | refine cI ?_ | refine bN ?_ | refine fJ ?_ | refine dD ?_ | (refine' vJ ?hz0 ?_; (case hz0 => with_unfolding_all first | assumption | omega | (dsimp only <;> omega) | exact ⟨by omega, by omega⟩ | exact .inl ⟨by omega, by omega⟩ | exact .inr ⟨by omega, by omega⟩ | exact ⟨by decide, by decide, by decide⟩)) | (refine' dC ?hz0 ?_; (case hz0 => with_unfolding_all first | assumption | omega | (dsimp only <;> omega) | exact ⟨by omega, by omega⟩ | exact .inl ⟨by omega, by omega⟩ | exact .inr ⟨by omega, by omega⟩ | exact ⟨by decide, by decide, by decide⟩)) | (refine' bZ (SqL.of ?hz0) ?hz1 ?_; (case hz0 => first | assumption | exact aj); (case hz1 => with_unfolding_all rfl)) | (refine' gn (SqT.of ?hz0) ?hz1 ?_; (case hz0 => first | assumption | exact aj); (case hz1 => with_unfolding_all rfl)) | (refine' cC ?hz0 ?hz1 ?_; (case hz0 => first | assumption | exact aj); (case hz1 => with_unfolding_all rfl)) | refine bT ?_ | refine bU ?_ | refine gD ?_ | refine dJ ?_ | refine bV ?_ | refine dM ?_ | refine bW ?_ | refine ji ?_ | refine jh ?_))
local macro_rules | `(tactic| walk_at "4") => `(tactic| (first | refine j9 ?_ | refine jR ?_ | refine jJ ?_ | refine gB ?_ | refine gC ?_ | (refine' gb ?hz0 ?_; (case hz0 => with_unfolding_all rfl)) | refine vI ?_ | refine kI ?_ | refine dB ?_ | refine dg ?_ | refine gf ?_ | refine fU ?_ | refine cW ?_ | refine fW ?_ | refine cV ?_ | refine j6 ?_ | refine cY ?_ | refine kJ ?_ | refine kj ?_ | refine dh ?_ | refine j7 ?_ | refine fX ?_ | refine fY ?_ | refine j8 ?_ | refine cZ ?_ | refine fZ ?_ | refine c7 ?_ | refine f9 ?_ | refine fV ?_ | refine cX ?_ | refine kh ?_ | refine fP ?_ | refine fO ?_ | refine km ?_ | refine kE ?_ | refine gj ?_ | refine di ?_ | refine dj ?_ | refine dm ?_ | refine dq ?_ | refine dw ?_ | refine dz ?_ | refine gk ?_ | refine vL ?_ | refine bM ?_ | refine dF ?_ | (refine' b7 (SqT.of ?hz0) ?hz1 ?_; (case hz0 => first | assumption | exact aj); (case hz1 => rfl)) | refine bO ?_ | refine bR ?_ | refine gr ?_ | refine bQ ?_ | refine dH ?_ | refine gw ?_ | refine dI ?_ | refine cJ ?_ | refine cL ?_ | refine cM ?_ | refine cO ?_ | refine cQ ?_ | refine cR ?_ | refine gA ?_ | refine bz ?_ | refine kO ?_ | refine cF ?_ | refine cG ?_ | refine cH ?_ | refine dG ?_ | refine cI ?_ | refine bN ?_ | refine fJ ?_ | refine dD ?_ | (refine' vJ ?hz0 ?_; (case hz0 => with_unfolding_all first | assumption | omega | (dsimp only <;> omega) | exact ⟨by omega, by omega⟩ | exact .inl ⟨by omega, by omega⟩ | exact .inr ⟨by omega, by omega⟩ | exact ⟨by decide, by decide, by decide⟩)) | (refine' dC ?hz0 ?_; (case hz0 => with_unfolding_all first | assumption | omega | (dsimp only <;> omega) | exact ⟨by omega, by omega⟩ | exact .inl ⟨by omega, by omega⟩ | exact .inr ⟨by omega, by omega⟩ | exact ⟨by decide, by decide, by decide⟩)) | (refine' bZ (SqL.of ?hz0) ?hz1 ?_; (case hz0 => first | assumption | exact aj); (case hz1 => with_unfolding_all rfl)) | (refine' gn (SqT.of ?hz0) ?hz1 ?_; (case hz0 => first | assumption | exact aj); (case hz1 => with_unfolding_all rfl)) | (refine' cC ?hz0 ?hz1 ?_; (case hz0 => first | assumption | exact aj); (case hz1 => with_unfolding_all rfl)) | refine bT ?_ | refine bU ?_ | refine gD ?_ | refine dJ ?_ | refine Nf ?_ | refine bV ?_ | refine dM ?_ | refine bW ?_ | refine ji ?_ | refine jh ?_))
local macro_rules | `(tactic| walk_at "5") => `(tactic| (first | refine j9 ?_ | refine jR ?_ | refine jJ ?_ | refine gB ?_ | refine gC ?_ | (refine' gb ?hz0 ?_; (case hz0 => with_unfolding_all rfl)) | refine vI ?_ | refine kI ?_ | refine dB ?_ | refine dg ?_ | refine gf ?_ | refine fU ?_ | refine cW ?_ | refine fW ?_ | refine cV ?_ | refine j6 ?_ | refine cY ?_ | refine kJ ?_ | refine kj ?_ | refine dh ?_ | refine j7 ?_ | refine fX ?_ | refine fY ?_ | refine j8 ?_ | refine cZ ?_ | refine fZ ?_ | refine c7 ?_ | refine f9 ?_ | refine fV ?_ | refine cX ?_ | refine kh ?_ | refine fP ?_ | refine fO ?_ | refine km ?_ | refine kE ?_ | refine gj ?_ | refine di ?_ | refine dj ?_ | refine dm ?_ | refine dq ?_ | refine dw ?_ | refine dz ?_ | refine gk ?_ | refine vL ?_ | refine bM ?_ | refine dF ?_ | (refine' b7 (SqT.of ?hz0) ?hz1 ?_; (case hz0 => first | assumption | exact aj); (case hz1 => rfl)) | refine bO ?_ | refine bR ?_ | refine gr ?_ | refine bQ ?_ | refine dH ?_ | refine gw ?_ | refine dI ?_ | refine cJ ?_ | refine cL ?_ | refine cM ?_ | refine cO ?_ | refine cQ ?_ | refine cR ?_ | refine gA ?_ | refine bz ?_ | refine kO ?_ | refine cF ?_ | refine cG ?_ | refine cH ?_ | refine dG ?_ | refine cI ?_ | refine bN ?_ | refine fJ ?_ | refine dD ?_ | (refine' vJ ?hz0 ?_; (case hz0 => with_unfolding_all first | assumption | omega | (dsimp only <;> omega) | exact ⟨by omega, by omega⟩ | exact .inl ⟨by omega, by omega⟩ | exact .inr ⟨by omega, by omega⟩ | exact ⟨by decide, by decide, by decide⟩)) | (refine' dC ?hz0 ?_; (case hz0 => with_unfolding_all first | assumption | omega | (dsimp only <;> omega) | exact ⟨by omega, by omega⟩ | exact .inl ⟨by omega, by omega⟩ | exact .inr ⟨by omega, by omega⟩ | exact ⟨by decide, by decide, by decide⟩)) | (refine' bZ (SqL.of ?hz0) ?hz1 ?_; (case hz0 => first | assumption | exact aj); (case hz1 => with_unfolding_all rfl)) | (refine' gn (SqT.of ?hz0) ?hz1 ?_; (case hz0 => first | assumption | exact aj); (case hz1 => with_unfolding_all rfl)) | (refine' cC ?hz0 ?hz1 ?_; (case hz0 => first | assumption | exact aj); (case hz1 => with_unfolding_all rfl)) | refine bT ?_ | refine bU ?_ | refine gD ?_ | refine dJ ?_ | refine bV ?_ | refine dM ?_ | refine bW ?_ | refine ji ?_ | refine jh ?_ | refine Nb ?_))
local macro_rules | `(tactic| walk_at "6") => `(tactic| (first | refine j9 ?_ | refine jR ?_ | refine jJ ?_ | refine gB ?_ | refine gC ?_ | (refine' gb ?hz0 ?_; (case hz0 => with_unfolding_all rfl)) | refine vI ?_ | refine kI ?_ | refine dB ?_ | refine dg ?_ | refine gf ?_ | refine fU ?_ | refine cW ?_ | refine fW ?_ | refine cV ?_ | refine j6 ?_ | refine cY ?_ | refine kJ ?_ | refine kj ?_ | refine dh ?_ | refine j7 ?_ | refine fX ?_ | refine fY ?_ | refine j8 ?_ | refine cZ ?_ | refine fZ ?_ | refine c7 ?_ | refine f9 ?_ | refine fV ?_ | refine cX ?_ | refine kh ?_ | refine fP ?_ | refine fO ?_ | refine km ?_ | refine kE ?_ | refine gj ?_ | refine di ?_ | refine dj ?_ | refine dm ?_ | refine dq ?_ | refine dw ?_ | refine dz ?_ | refine gk ?_ | refine vL ?_ | refine bM ?_ | refine dF ?_ | (refine' b7 (SqT.of ?hz0) ?hz1 ?_; (case hz0 => first | assumption | exact aj); (case hz1 => rfl)) | refine bO ?_ | refine bR ?_ | refine gr ?_ | refine bQ ?_ | refine dH ?_ | refine gw ?_ | refine dI ?_ | refine cJ ?_ | refine cL ?_ | refine cM ?_ | refine cO ?_ | refine cQ ?_ | refine cR ?_ | refine gA ?_ | refine bz ?_ | refine kO ?_ | refine cF ?_ | refine cG ?_ | refine cH ?_ | refine dG ?_ | refine cI ?_ | refine bN ?_ | refine fJ ?_ | refine dD ?_ | (refine' vJ ?hz0 ?_; (case hz0 => with_unfolding_all first | assumption | omega | (dsimp only <;> omega) | exact ⟨by omega, by omega⟩ | exact .inl ⟨by omega, by omega⟩ | exact .inr ⟨by omega, by omega⟩ | exact ⟨by decide, by decide, by decide⟩)) | (refine' dC ?hz0 ?_; (case hz0 => with_unfolding_all first | assumption | omega | (dsimp only <;> omega) | exact ⟨by omega, by omega⟩ | exact .inl ⟨by omega, by omega⟩ | exact .inr ⟨by omega, by omega⟩ | exact ⟨by decide, by decide, by decide⟩)) | (refine' bZ (SqL.of ?hz0) ?hz1 ?_; (case hz0 => first | assumption | exact aj); (case hz1 => with_unfolding_all rfl)) | (refine' gn (SqT.of ?hz0) ?hz1 ?_; (case hz0 => first | assumption | exact aj); (case hz1 => with_unfolding_all rfl)) | (refine' cC ?hz0 ?hz1 ?_; (case hz0 => first | assumption | exact aj); (case hz1 => with_unfolding_all rfl)) | refine bT ?_ | refine bU ?_ | refine gD ?_ | refine dJ ?_ | refine bV ?_ | refine dM ?_ | refine bW ?_))
local macro_rules | `(tactic| walk_at "7") => `(tactic| (first | refine j9 ?_ | refine jR ?_ | refine jJ ?_ | refine gB ?_ | refine gC ?_ | (refine' gb ?hz0 ?_; (case hz0 => with_unfolding_all rfl)) | refine vI ?_ | refine kI ?_ | refine dB ?_ | refine dg ?_ | refine gf ?_ | refine fU ?_ | refine cW ?_ | refine fW ?_ | refine cV ?_ | refine j6 ?_ | refine cY ?_ | refine kJ ?_ | refine kj ?_ | refine dh ?_ | refine j7 ?_ | refine fX ?_ | refine fY ?_ | refine j8 ?_ | refine cZ ?_ | refine fZ ?_ | refine c7 ?_ | refine f9 ?_ | refine fV ?_ | refine cX ?_ | refine kh ?_ | refine fP ?_ | refine fO ?_ | refine km ?_ | refine kE ?_ | refine gj ?_ | refine di ?_ | refine dj ?_ | refine dm ?_ | refine dq ?_ | refine dw ?_ | refine dz ?_ | refine gk ?_ | refine vL ?_ | refine bM ?_ | refine dF ?_ | (refine' b7 (SqT.of ?hz0) ?hz1 ?_; (case hz0 => first | assumption | exact aj); (case hz1 => rfl)) | refine bO ?_ | refine bR ?_ | refine gr ?_ | refine bQ ?_ | refine dH ?_ | refine gw ?_ | refine dI ?_ | refine cJ ?_ | refine cL ?_ | refine cM ?_ | refine cO ?_ | refine cQ ?_ | refine cR ?_ | refine gA ?_ | refine bz ?_ | refine kO ?_ | refine cF ?_ | refine cG ?_ | refine cH ?_ | refine dG ?_ | refine cI ?_ | refine bN ?_ | refine fJ ?_ | refine dD ?_ | (refine' vJ ?hz0 ?_; (case hz0 => with_unfolding_all first | assumption | omega | (dsimp only <;> omega) | exact ⟨by omega, by omega⟩ | exact .inl ⟨by omega, by omega⟩ | exact .inr ⟨by omega, by omega⟩ | exact ⟨by decide, by decide, by decide⟩)) | (refine' dC ?hz0 ?_; (case hz0 => with_unfolding_all first | assumption | omega | (dsimp only <;> omega) | exact ⟨by omega, by omega⟩ | exact .inl ⟨by omega, by omega⟩ | exact .inr ⟨by omega, by omega⟩ | exact ⟨by decide, by decide, by decide⟩)) | (refine' bZ (SqL.of ?hz0) ?hz1 ?_; (case hz0 => first | assumption | exact aj); (case hz1 => with_unfolding_all rfl)) | (refine' gn (SqT.of ?hz0) ?hz1 ?_; (case hz0 => first | assumption | exact aj); (case hz1 => with_unfolding_all rfl)) | (refine' cC ?hz0 ?hz1 ?_; (case hz0 => first | assumption | exact aj); (case hz1 => with_unfolding_all rfl)) | refine bT ?_ | refine bU ?_ | refine gD ?_ | refine dJ ?_ | refine bV ?_ | refine dM ?_ | refine bW ?_ | (refine' Gs ?hz0 ?_; (case hz0 => with_unfolding_all rfl)) | refine ji ?_ | refine jh ?_))
local macro_rules | `(tactic| walk_at "8") => `(tactic| (first | refine j9 ?_ | refine jR ?_ | refine jJ ?_ | refine gB ?_ | refine gC ?_ | (refine' gb ?hz0 ?_; (case hz0 => with_unfolding_all rfl)) | refine vI ?_ | refine kI ?_ | refine dB ?_ | refine dg ?_ | refine gf ?_ | refine fU ?_ | refine cW ?_ | refine fW ?_ | refine cV ?_ | refine j6 ?_ | refine cY ?_ | refine kJ ?_ | refine kj ?_ | refine dh ?_ | refine j7 ?_ | refine fX ?_ | refine fY ?_ | refine j8 ?_ | refine cZ ?_ | refine fZ ?_ | refine c7 ?_ | refine f9 ?_ | refine fV ?_ | refine cX ?_ | refine kh ?_ | refine fP ?_ | refine fO ?_ | refine km ?_ | refine kE ?_ | refine gj ?_ | refine di ?_ | refine dj ?_ | refine dm ?_ | refine dq ?_ | refine dw ?_ | refine dz ?_ | refine gk ?_ | refine vL ?_ | refine bM ?_ | refine dF ?_ | (refine' b7 (SqT.of ?hz0) ?hz1 ?_; (case hz0 => first | assumption | exact aj); (case hz1 => rfl)) | refine bO ?_ | refine bR ?_ | refine gr ?_ | refine bQ ?_ | refine dH ?_ | refine gw ?_ | refine dI ?_ | refine cJ ?_ | refine cL ?_ | refine cM ?_ | refine cO ?_ | refine cQ ?_ | refine cR ?_ | refine gA ?_ | refine bz ?_ | refine kO ?_ | refine cF ?_ | refine cG ?_ | refine cH ?_ | refine dG ?_ | refine cI ?_ | refine bN ?_ | refine fJ ?_ | refine dD ?_ | (refine' vJ ?hz0 ?_; (case hz0 => with_unfolding_all first | assumption | omega | (dsimp only <;> omega) | exact ⟨by omega, by omega⟩ | exact .inl ⟨by omega, by omega⟩ | exact .inr ⟨by omega, by omega⟩ | exact ⟨by decide, by decide, by decide⟩)) | (refine' dC ?hz0 ?_; (case hz0 => with_unfolding_all first | assumption | omega | (dsimp only <;> omega) | exact ⟨by omega, by omega⟩ | exact .inl ⟨by omega, by omega⟩ | exact .inr ⟨by omega, by omega⟩ | exact ⟨by decide, by decide, by decide⟩)) | (refine' bZ (SqL.of ?hz0) ?hz1 ?_; (case hz0 => first | assumption | exact aj); (case hz1 => with_unfolding_all rfl)) | (refine' gn (SqT.of ?hz0) ?hz1 ?_; (case hz0 => first | assumption | exact aj); (case hz1 => with_unfolding_all rfl)) | (refine' cC ?hz0 ?hz1 ?_; (case hz0 => first | assumption | exact aj); (case hz1 => with_unfolding_all rfl)) | refine bT ?_ | refine bU ?_ | refine gD ?_ | refine dJ ?_ | refine bV ?_ | refine dM ?_ | refine bW ?_ | refine wU ?_ | refine wV ?_ | refine wW ?_ | refine MK ?_))
local macro_rules | `(tactic| walk_at "9") => `(tactic| (first | refine j9 ?_ | refine jR ?_ | refine jJ ?_ | refine gB ?_ | refine gC ?_ | (refine' gb ?hz0 ?_; (case hz0 => with_unfolding_all rfl)) | refine vI ?_ | refine kI ?_ | refine dB ?_ | refine dg ?_ | refine gf ?_ | refine fU ?_ | refine cW ?_ | refine fW ?_ | refine cV ?_ | refine j6 ?_ | refine cY ?_ | refine kJ ?_ | refine kj ?_ | refine dh ?_ | refine j7 ?_ | refine fX ?_ | refine fY ?_ | refine j8 ?_ | refine cZ ?_ | refine fZ ?_ | refine c7 ?_ | refine f9 ?_ | refine fV ?_ | refine cX ?_ | refine kh ?_ | refine fP ?_ | refine fO ?_ | refine km ?_ | refine kE ?_ | refine gj ?_ | refine di ?_ | refine dj ?_ | refine dm ?_ | refine dq ?_ | refine dw ?_ | refine dz ?_ | refine gk ?_ | refine vL ?_ | refine bM ?_ | refine dF ?_ | (refine' b7 (SqT.of ?hz0) ?hz1 ?_; (case hz0 => first | assumption | exact aj); (case hz1 => rfl)) | refine bO ?_ | refine bR ?_ | refine gr ?_ | refine bQ ?_ | refine dH ?_ | refine gw ?_ | refine dI ?_ | refine cJ ?_ | refine cL ?_ | refine cM ?_ | refine cO ?_ | refine cQ ?_ | refine cR ?_ | refine gA ?_ | refine bz ?_ | refine kO ?_ | refine cF ?_ | refine cG ?_ | refine cH ?_ | refine dG ?_ | refine cI ?_ | refine bN ?_ | refine fJ ?_ | refine dD ?_ | (refine' vJ ?hz0 ?_; (case hz0 => with_unfolding_all first | assumption | omega | (dsimp only <;> omega) | exact ⟨by omega, by omega⟩ | exact .inl ⟨by omega, by omega⟩ | exact .inr ⟨by omega, by omega⟩ | exact ⟨by decide, by decide, by decide⟩)) | (refine' dC ?hz0 ?_; (case hz0 => with_unfolding_all first | assumption | omega | (dsimp only <;> omega) | exact ⟨by omega, by omega⟩ | exact .inl ⟨by omega, by omega⟩ | exact .inr ⟨by omega, by omega⟩ | exact ⟨by decide, by decide, by decide⟩)) | (refine' bZ (SqL.of ?hz0) ?hz1 ?_; (case hz0 => first | assumption | exact aj); (case hz1 => with_unfolding_all rfl)) | (refine' gn (SqT.of ?hz0) ?hz1 ?_; (case hz0 => first | assumption | exact aj); (case hz1 => with_unfolding_all rfl)) | (refine' cC ?hz0 ?hz1 ?_; (case hz0 => first | assumption | exact aj); (case hz1 => with_unfolding_all rfl)) | refine bT ?_ | refine bU ?_ | refine gD ?_ | refine dJ ?_ | refine bV ?_ | refine dM ?_ | refine bW ?_ | refine wU ?_ | refine wV ?_ | refine wW ?_))
abbrev O4 (d:Stmt) (x:Str):Prop:=(az d).names.lookup x=some NameKind.local
def nI (cs:List Nat):List Int:=cs.map fun i:Nat=>(i:Int)
def tR (E:List Nat) (p:Nat):Bool:=decide (E.getD p 0 < E.getD (p+1) 0)
def aW (E:List Nat) (p:Nat):List Nat:=if tR E p=true then (E.set p (E.getD (p+1) 0)).set (p+1) (E.getD p 0) else E
def bx (E:List Nat) (ps:List Nat):List Nat:=ps.foldl aW E
theorem ni (E ps:List Nat) (p:Nat):bx E (ps ++ [p])=aW (bx E ps) p:=by unfold bx;rw [List.foldl_append];rfl
theorem qG (E:List Nat) (p:Nat):(aW E p).length=E.length:=by unfold aW;split <;> simp
theorem lJ (E ps:List Nat):(bx E ps).length=E.length:=by
 induction ps generalizing E with
 | nil=>rfl
 | cons p ps ih=>exact (ih (aW E p)).trans (qG E p)
theorem yS {E:List Nat} {p:Nat} (h:p+1 < E.length):E=E.take p ++ E.getD p 0 :: E.getD (p+1) 0 :: E.drop (p+2)/\(E.set p (E.getD (p+1) 0)).set (p+1) (E.getD p 0)=E.take p ++ E.getD (p+1) 0 :: E.getD p 0 :: E.drop (p+2):=by
 have e1:E.getD p 0=E[p]:=by rw [YZ,YT (by omega)];rfl
 have e2:E.getD (p+1) 0=E[p+1]:=by rw [YZ,YT h];rfl
 have f:E=E.take p ++ E.getD p 0 :: E.getD (p+1) 0 :: E.drop (p+2):=by
  rw [e1,e2]
  conv=>lhs;rw [← List.take_append_drop p E]
  rw [List.drop_eq_getElem_cons (by omega),List.drop_eq_getElem_cons h]
 refine ⟨f,?_⟩
 generalize E.getD p 0=a at f ⊢
 generalize E.getD (p+1) 0=b at f ⊢
 have lt:(E.take p).length=p:=by rw [Aap];omega
 conv=>lhs;rw [f]
 rw [List.set_append_right _ _ (by omega),lt,Nat.sub_self,List.set_cons_zero,List.set_append_right _ _ (by omega),lt,show p+1 - p=1 by omega]
 rfl
theorem rD {E:List Nat} {p:Nat} (h:p+1 < E.length):(aW E p).Perm E:=by
 unfold aW
 split
 ·obtain ⟨f1,f2⟩:=yS h
  rw [f2]
  conv=>rhs;rw [f1]
  exact (List.Perm.swap _ _ _).append_left _
 ·exact List.Perm.refl _
theorem qH {ps:List Nat}:∀ {E:List Nat},(∀ p∈ps,p+1 < E.length)->(bx E ps).Perm E:=by
 induction ps with
 | nil=>intro E _;exact List.Perm.refl _
 | cons p ps ih=>
  intro E h
  have h1:=rD (h p (by simp))
  exact (ih (E:=aW E p) fun q hq=>by rw [qG];exact h q (Zg _ hq)).trans h1
def Nt (E:List Nat) (ps:List Nat) (i:Nat):List Nat:=(List.range i).filter fun j=>tR (bx E (ps.take j)) (ps.getD j 0)
theorem Cg (E ps:List Nat) (i:Nat):Nt E ps (i+1)=Nt E ps i ++ (if tR (bx E (ps.take i)) (ps.getD i 0)=true then [i] else []):=by
 unfold Nt
 rw [List.range_succ,List.filter_append]
 congr 1
 by_cases h:tR (bx E (ps.take i)) (ps.getD i 0)=true
 ·rw [if_pos h,List.filter_cons_of_pos (p:=fun j=>tR (bx E (ps.take j)) (ps.getD j 0)) h];rfl
 ·rw [if_neg h,List.filter_cons_of_neg (p:=fun j=>tR (bx E (ps.take j)) (ps.getD j 0)) h];rfl
theorem Q6 (E ps:List Nat) (i:Nat):(Nt E ps i).length<=i:=Zm (List.length_filter_le _ _) (by simp)
theorem uy {ps:List Nat} {i:Nat} (h:i < ps.length):ps.take (i+1)=ps.take i ++ [ps.getD i 0]:=by
 rw [Aal,YZ,YT h];rfl
def rE (n:Nat):List (Nat×Nat):=(List.range n).flatMap fun x=>(List.range' (x+1) (n - (x+1))).map fun y=>(x,y)
def cr (t:List Nat):Nat:=(rE t.length).countP fun p=>decide (t.getD p.2 0 < t.getD p.1 0)
theorem rF {n:Nat} {p:Nat×Nat}:p∈rE n↔p.1 < p.2/\p.2 < n:=by
 unfold rE
 simp only [List.mem_flatMap,ZP,Zk,List.mem_range']
 constructor
 ·rintro ⟨x,hx,y,⟨i,hi,rfl⟩,rfl⟩
  exact ⟨by show x < x+1+1*i;omega,by show x+1+1*i < n;omega⟩
 ·rintro ⟨h1,h2⟩
  exact ⟨p.1,by omega,p.2,⟨p.2 - (p.1+1),by omega,by omega⟩,rfl⟩
theorem Ad (n:Nat):(rE n).Nodup:=by
 unfold rE List.Nodup
 rw [List.pairwise_flatMap]
 refine ⟨fun x _=>?_,?_⟩
 ·rw [List.pairwise_map]
  exact (List.nodup_range' (s:=x+1) (n:=n - (x+1))).imp fun h e=>h (by injection e)
 ·refine List.nodup_range.imp fun {x y} h p hp q hq e=>?_
  obtain ⟨_,_,rfl⟩:=ZP.mp hp
  obtain ⟨_,_,rfl⟩:=ZP.mp hq
  injection e with e1 e2
  exact h e1
theorem yU {α:Type} {P Q:α->Bool} {a:α}:∀ {l:List α},l.Nodup->a∈l->(∀ b∈l,b≠a->P b=Q b)->P a=false->Q a=true->l.countP Q=l.countP P+1
 | [],_,h,_,_,_=>by cases h
 | b :: l,hn,h,he,hP,hQ=>by
  obtain ⟨hb,hn'⟩:=List.nodup_cons.mp hn
  by_cases hab:b=a
  ·subst hab
   rw [List.countP_cons_of_pos hQ,List.countP_cons_of_neg (by rw [hP];simp)]
   congr 1
   exact List.countP_congr fun c hc=>by rw [he c (Zg _ hc) (fun z=>hb (z ▸ hc))]
  ·have ih:=yU hn' ((Y7.mp h).resolve_left fun z=>hab z.symm) (fun c hc=>he c (Zg _ hc)) hP hQ
   have e:=he b (by simp) hab
   cases hq:Q b with
   | true=>rw [List.countP_cons_of_pos hq,List.countP_cons_of_pos (by rw [e,hq]),ih]
   | false=>rw [List.countP_cons_of_neg (by rw [hq];simp),List.countP_cons_of_neg (by rw [e,hq];simp),ih]
def inv (E:List Nat):List Nat:=(List.range E.length).map fun x=>E.idxOf x
theorem bI (E:List Nat):(inv E).length=E.length:=by simp [inv]
theorem jT {E:List Nat} {x:Nat} (h:x < E.length):(inv E).getD x 0=E.idxOf x:=by
 unfold inv
 rw [YZ,Zd,Zo h];rfl
theorem iM {E:List Nat} (hn:E.Nodup) {i x:Nat} (h:E[i]?=some x):E.idxOf x=i:=by
 obtain ⟨hi,rfl⟩:=YW.mp h
 exact hn.idxOf_getElem i hi
theorem Q7 {E:List Nat} {n p:Nat} (hE:E.Perm (List.range n)) (hp:p+1 < n) (hw:tR E p=true):cr (inv (aW E p))=cr (inv E)+1:=by
 have hl:E.length=n:=by rw [hE.length_eq];simp
 have nd:E.Nodup:=hE.nodup_iff.mpr Abh
 have hlt:∀ x∈E,x < n:=fun x hx=>Zk.mp (hE.mem_iff.mp hx)
 have hin:∀ x,x < n->x∈E:=fun x hx=>hE.mem_iff.mpr (Zk.mpr hx)
 obtain ⟨a,ha⟩:∃ a,E[p]?=some a:=⟨_,YT (by omega)⟩
 obtain ⟨b,hb⟩:∃ b,E[p+1]?=some b:=⟨_,YT (by omega)⟩
 have da:E.getD p 0=a:=by rw [YZ,ha];rfl
 have db:E.getD (p+1) 0=b:=by rw [YZ,hb];rfl
 have hab:a < b:=by
  unfold tR at hw
  rw [da,db] at hw
  exact of_decide_eq_true hw
 have eF:aW E p=(E.set p b).set (p+1) a:=by unfold aW;rw [if_pos hw,da,db]
 have fp:=rD (E:=E) (p:=p) (by omega)
 have nF:(aW E p).Nodup:=fp.nodup_iff.mpr nd
 have lF:(aW E p).length=n:=by rw [qG];exact hl
 have gF:∀ i,(aW E p)[i]?=if i=p+1 then some a else if i=p then some b else E[i]?:=fun i=>by
  rw [eF]
  by_cases h1:i=p+1
  ·subst h1
   rw [if_pos rfl,ZW (by simp;omega)]
  ·rw [if_neg h1,ZD (fun z=>h1 z.symm)]
   by_cases h2:i=p
   ·subst h2
    rw [if_pos rfl,ZW (by omega)]
   ·rw [if_neg h2,ZD (fun z=>h2 z.symm)]
 have ia:E.idxOf a=p:=iM nd ha
 have ib:E.idxOf b=p+1:=iM nd hb
 have ja:(aW E p).idxOf a=p+1:=iM nF (by rw [gF,if_pos rfl])
 have jb:(aW E p).idxOf b=p:=iM nF (by rw [gF,if_neg (by omega),if_pos rfl])
 have other:∀ x,x < n->x≠a->x≠b->(aW E p).idxOf x=E.idxOf x/\E.idxOf x≠p/\E.idxOf x≠p+1:=fun x hx h1 h2=>by
  obtain ⟨i,hi,e⟩:=Aba.mp (hin x hx)
  have ei:E[i]?=some x:=by rw [YT hi,e]
  have n1:i≠p:=fun z=>h1 (by subst z;rw [ha] at ei;exact (Zv ei).symm)
  have n2:i≠p+1:=fun z=>h2 (by subst z;rw [hb] at ei;exact (Zv ei).symm)
  rw [iM nd ei]
  exact ⟨iM nF (by rw [gF,if_neg n2,if_neg n1,ei]),n1,n2⟩
 have han:a < n:=hlt a (Y8 ha)
 have hbn:b < n:=hlt b (Y8 hb)
 unfold cr
 rw [bI,bI,lF,hl]
 refine yU (a:=(a,b)) (Ad n) (rF.mpr ⟨hab,hbn⟩) ?_ ?_ ?_
 ·rintro ⟨x,y⟩ hxy hne
  obtain ⟨h1,h2⟩:=rF.mp hxy
  dsimp only at h1 h2 ⊢
  have hx:x < n:=by omega
  rw [jT (by omega),jT (by omega),jT (by omega),jT (by omega)]
  congr 1
  rw [eq_iff_iff]
  by_cases xa:x=a
  ·subst xa
   have yb:y≠b:=fun z=>hne (by rw [z])
   obtain ⟨o1,o2,o3⟩:=other y h2 (by omega) yb
   rw [o1,ia,ja];omega
  ·by_cases xb:x=b
   ·subst xb
    obtain ⟨o1,o2,o3⟩:=other y h2 (by omega) (by omega)
    rw [o1,ib,jb];omega
   ·obtain ⟨q1,q2,q3⟩:=other x hx xa xb
    by_cases ya:y=a
    ·subst ya
     rw [q1,ia,ja];omega
    ·by_cases yb:y=b
     ·subst yb
      rw [q1,ib,jb];omega
     ·obtain ⟨o1,_,_⟩:=other y h2 ya yb
      rw [q1,o1]
 ·dsimp only
  rw [jT (by omega),jT (by omega),ia,ib]
  exact Zc (by omega)
 ·dsimp only
  rw [jT (by omega),jT (by omega),ja,jb]
  exact Y9 (by omega)
theorem Nu (n:Nat):cr (inv (List.range n))=0:=by
 unfold cr
 rw [List.countP_eq_zero]
 rintro ⟨x,y⟩ h
 rw [bI,AaM] at h
 obtain ⟨h1,h2⟩:=rF.mp h
 dsimp only at h1 h2 ⊢
 have e:∀ z,z < n->(List.range n).idxOf z=z:=fun z hz=>iM Abh (Zo hz)
 rw [jT (by simpa using h2),jT (by simp;omega),e y h2,e x (by omega)]
 simp;omega
theorem Nv {n:Nat} {ps:List Nat} (hp:∀ p∈ps,p+1 < n):∀ i,i<=ps.length->cr (inv (bx (List.range n) (ps.take i)))=(Nt (List.range n) ps i).length
 | 0,_=>by rw [List.take_zero];exact Nu n
 | i+1,h=>by
  have ih:=Nv hp i (by omega)
  have hmem:ps.getD i 0∈ps:=by rw [YZ,YT (by omega)];exact Aad _
  have hpm:(bx (List.range n) (ps.take i)).Perm (List.range n):=qH fun q hq=>by simpa using hp q (AaN hq)
  rw [uy (by omega),ni,Cg]
  by_cases hw:tR (bx (List.range n) (ps.take i)) (ps.getD i 0)=true
  ·rw [Q7 hpm (hp _ hmem) hw,ih,if_pos hw];simp
  ·rw [if_neg hw,ZV,← ih]
   unfold aW
   rw [if_neg hw]
structure Prm (t:List Nat):Prop where
 le:t.length<=96
 pm:t.Perm (List.range t.length)
theorem Prm.nd {t:List Nat} (h:Prm t):t.Nodup:=h.pm.nodup_iff.mpr Abh
theorem Prm.lt {t:List Nat} (h:Prm t) {x:Nat} (hx:x∈t):x < t.length:=Zk.mp (h.pm.mem_iff.mp hx)
theorem Prm.mem {t:List Nat} (h:Prm t) {x:Nat} (hx:x < t.length):x∈t:=h.pm.mem_iff.mpr (Zk.mpr hx)
theorem Jq {n:Nat} (h:n<=96):Prm (List.range n):=⟨by simpa using h,by simp⟩
theorem Q8 {n:Nat} {ps:List Nat} (h:n<=96) (hp:∀ p∈ps,p+1 < n):Prm (bx (List.range n) ps):=by
 have hl:(bx (List.range n) ps).length=n:=by rw [lJ];simp
 refine ⟨by omega,?_⟩
 rw [hl]
 exact qH fun p hp'=>by simpa using hp p hp'
theorem uz {t r:List Nat} (hP:Prm t) (hl:r.length=t.length) (h:∀ (i x:Nat),t[i]?=some x->r[x]?=some i):r=inv t:=by
 refine Aa8 fun x=>?_
 by_cases hx:x < t.length
 ·obtain ⟨i,hi,e⟩:=Aba.mp (hP.mem hx)
  have ei:t[i]?=some x:=by rw [YT hi,e]
  rw [h i x ei]
  unfold inv
  rw [Zd,Zo hx]
  show some i=some (t.idxOf x)
  rw [iM hP.nd ei]
 ·rw [ZZ (by omega),ZZ (by rw [bI];omega)]
theorem mC {E:List Nat} (h:Prm E):Prm (inv E):=by
 have hl:=bI E
 refine ⟨by rw [hl];exact h.le,?_⟩
 rw [hl]
 have nd:(inv E).Nodup:=by
  unfold inv
  unfold List.Nodup
  rw [List.pairwise_map]
  refine List.nodup_range.imp_of_mem fun {x y} hx hy ne e=>ne ?_
  have key:∀ z,z∈List.range E.length->E.getD (E.idxOf z) 0=z:=fun z hz=>by
   have hi:E.idxOf z < E.length:=Aac.mpr (h.mem (Zk.mp hz))
   rw [YZ,YT hi]
   exact List.getElem_idxOf hi
  rw [← key x hx,← key y hy,e]
 refine (List.perm_ext_iff_of_nodup nd Abh).mpr fun x=>?_
 rw [Zk]
 constructor
 ·intro hx
  unfold inv at hx
  obtain ⟨y,hy,rfl⟩:=ZP.mp hx
  exact Aac.mpr (h.mem (Zk.mp hy))
 ·intro hx
  unfold inv
  refine ZP.mpr ⟨E[x],Zk.mpr (h.lt (Aad hx)),?_⟩
  exact iM h.nd (YT hx)
theorem qI {t:List Nat} (h:Prm t):inv (inv t)=t:=by
 refine (uz (mC h) (by rw [bI]) fun i x e=>?_).symm
 have hi:i < t.length:=by have:=(YW.mp e).1;rwa [bI] at this
 have e2:(inv t)[i]?=some (t.idxOf i):=by unfold inv;rw [Zd,Zo hi];rfl
 rw [e] at e2
 cases e2
 have hx:t.idxOf i < t.length:=Aac.mpr (h.mem hi)
 rw [YT hx]
 exact congrArg some (List.getElem_idxOf hx)
def xG (B:List Nat) (p:Nat):List Nat:=(B.set p (B.getD (p+1) 0)).set (p+1) (B.getD p 0)
theorem n6 (B:List Nat) (p:Nat):(xG B p).length=B.length:=by unfold xG;simp
theorem getD_some {B:List Nat} {i:Nat} (h:i < B.length):B[i]?=some (B.getD i 0):=by rw [YZ,YT h];rfl
theorem jz {B:List Nat} {p:Nat} (h:p+1 < B.length) (i:Nat):(xG B p).getD i 0=if i=p+1 then B.getD p 0 else if i=p then B.getD (p+1) 0 else B.getD i 0:=by
 unfold xG
 rw [YZ]
 by_cases h1:i=p+1
 ·subst h1
  rw [if_pos rfl,ZW (by simp;omega)];rfl
 ·rw [if_neg h1,ZD (fun z=>h1 z.symm)]
  by_cases h2:i=p
  ·subst h2
   rw [if_pos rfl,ZW (by omega)];rfl
  ·rw [if_neg h2,ZD (fun z=>h2 z.symm),← YZ]
theorem wX {A B:List Nat} (hl:A.length=B.length) (h:∀ i,i < A.length->A.getD i 0=B.getD i 0):A=B:=by
 refine Aa8 fun i=>?_
 by_cases hi:i < A.length
 ·rw [getD_some hi,getD_some (by omega),h i hi]
 ·rw [ZZ (by omega),ZZ (by omega)]
theorem Q9 {B:List Nat} {p:Nat} (h:p+1 < B.length):xG (xG B p) p=B:=by
 refine wX (by rw [n6,n6]) fun i _=>?_
 rw [jz (by rw [n6];exact h),jz h,jz h,jz h]
 by_cases h1:i=p+1
 ·subst h1;simp
 ·by_cases h2:i=p
  ·subst h2;simp
  ·simp [h1,h2]
theorem Ci {B:List Nat} {p:Nat} (h:tR B p=true):aW B p=xG B p:=by unfold aW xG;rw [if_pos h]
def inn:Nat->List Nat->List Nat->List Nat×List Nat
 | 0,B,u=>(B,u)
 | p+1,B,u=>if B.getD (p+1) 0 < B.getD p 0 then inn p (xG B p) (u ++ [p]) else (B,u)
def uA (B:List Nat):Nat->List Nat×List Nat
 | 0=>(B,[])
 | k+1=>inn (k+1) (uA B k).1 (uA B k).2
def Wk:List Nat->List Nat->Prop
 | _,[]=>True
 | B,p :: us=>tR B p=true/\Wk (aW B p) us
theorem Td:∀ {us B:List Nat} {j:Nat},Wk B us->j < us.length->tR (bx B (us.take j)) (us.getD j 0)=true
 | p :: us,B,0,h,_=>h.1
 | p :: us,B,j+1,h,hj=>Td (us:=us) (B:=aW B p) (j:=j) h.2 (by simpa using hj)
theorem V3 {B us:List Nat} (h:Wk B us):Nt B us us.length=List.range us.length:=by
 unfold Nt
 rw [List.filter_eq_self]
 intro j hj
 exact Td h (Zk.mp hj)
structure Sx (B0:List Nat) (n:Nat) (B u:List Nat):Prop where
 len:B.length=n
 pm:B.Perm (List.range n)
 lt:∀ p∈u,p+1 < n
 back:bx B u.reverse=B0
 wk:Wk B u.reverse
 link:∀ i,i < n->B.getD i 0=B0.getD ((bx (List.range n) u).getD i 0) 0
theorem Te {n:Nat} {u:List Nat} (h:∀ p∈u,p+1 < n):(bx (List.range n) u).Perm (List.range n):=qH fun p hp=>by simpa using h p hp
theorem Ew {G:List Nat} {n i j:Nat} (h:G.Perm (List.range n)) (hi:i < n) (hj:j < n) (e:G.getD i 0=G.getD j 0):i=j:=by
 have nd:G.Nodup:=h.nodup_iff.mpr Abh
 have hl:G.length=n:=by rw [h.length_eq];simp
 have h1:=iM nd (getD_some (B:=G) (i:=i) (by omega))
 have h2:=iM nd (getD_some (B:=G) (i:=j) (by omega))
 rw [e] at h1
 omega
theorem Nx {G:List Nat} {n i:Nat} (h:G.Perm (List.range n)) (hi:i < n):G.getD i 0 < n:=by
 have hl:G.length=n:=by rw [h.length_eq];simp
 exact Zk.mp (h.mem_iff.mp (Y8 (getD_some (by omega))))
theorem Ny {B0:List Nat} {n m:Nat} (hm:m < n):∀ (p:Nat) (B u:List Nat),p<=m->Sx B0 n B u->(∀ i j,i < j->j<=m->j≠p->B.getD i 0 < B.getD j 0)->
  (bx (List.range n) u).getD p 0=m->(∀ i,i<=m->(bx (List.range n) u).getD i 0<=m)->(∀ i,m < i->i < n->(bx (List.range n) u).getD i 0=i)->
  Sx B0 n (inn p B u).1 (inn p B u).2/\(∀ i j,i < j->j<=m->(inn p B u).1.getD i 0 < (inn p B u).1.getD j 0)/\(∀ i,i<=m->(bx (List.range n) (inn p B u).2).getD i 0<=m)/\(∀ i,m < i->i < n->(bx (List.range n) (inn p B u).2).getD i 0=i)
 | 0,B,u,_,S,srt,_,gle,gid=>⟨S,fun i j h1 h2=>srt i j h1 h2 (by omega),gle,gid⟩
 | p+1,B,u,hp,S,srt,gm,gle,gid=>by
  have hB:=S.len
  have hG:=Te S.lt
  have lG:(bx (List.range n) u).length=n:=by rw [hG.length_eq];simp
  unfold inn
  by_cases hc:B.getD (p+1) 0 < B.getD p 0
  ·rw [if_pos hc]
   have hp1:p+1 < B.length:=by omega
   have w1:tR (xG B p) p=true:=by
    unfold tR
    rw [jz hp1,jz hp1,if_neg (by omega),if_pos rfl,if_pos rfl]
    exact Y9 hc
   have w2:tR (bx (List.range n) u) p=true:=by
    unfold tR
    rw [gm]
    refine Y9 ?_
    have h1:=gle p (by omega)
    have h2:(bx (List.range n) u).getD p 0≠m:=fun z=>by
     have:=Ew hG (i:=p) (j:=p+1) (by omega) (by omega) (by rw [z,gm])
     omega
    omega
   have eG:bx (List.range n) (u ++ [p])=xG (bx (List.range n) u) p:=by rw [ni,Ci w2]
   have bk:aW (xG B p) p=B:=by rw [Ci w1,Q9 hp1]
   have S':Sx B0 n (xG B p) (u ++ [p]):=by
    refine ⟨by rw [n6];exact hB,?_,?_,?_,?_,?_⟩
    ·have:=rD (E:=xG B p) (p:=p) (by rw [n6];exact hp1)
     rw [bk] at this
     exact this.symm.trans S.pm
    ·intro q hq
     rcases Z0.mp hq with h | h
     ·exact S.lt q h
     ·rw [ZJ.mp h];omega
    ·rw [List.reverse_append]
     show bx (aW (xG B p) p) u.reverse=B0
     rw [bk];exact S.back
    ·rw [List.reverse_append]
     show tR (xG B p) p=true/\Wk (aW (xG B p) p) u.reverse
     rw [bk];exact ⟨w1,S.wk⟩
    ·intro i hi
     rw [eG,jz hp1,jz (by omega)]
     by_cases h1:i=p+1
     ·rw [if_pos h1,if_pos h1];exact S.link p (by omega)
     ·rw [if_neg h1,if_neg h1]
      by_cases h2:i=p
      ·rw [if_pos h2,if_pos h2];exact S.link (p+1) (by omega)
      ·rw [if_neg h2,if_neg h2];exact S.link i hi
   refine Ny hm p (xG B p) (u ++ [p]) (by omega) S' (fun i j h1 h2 h3=>?_) ?_ (fun i hi=>?_) fun i h1 h2=>?_
   ·rw [jz hp1,jz hp1]
    by_cases j1:j=p+1
    ·subst j1
     rw [if_neg (show ¬ i=p+1 by omega),if_pos rfl]
     by_cases i2:i=p
     ·rw [if_pos i2];exact hc
     ·rw [if_neg i2];exact srt i p (by omega) (by omega) (by omega)
    ·rw [if_neg j1,if_neg h3]
     by_cases i1:i=p+1
     ·rw [if_pos i1];exact srt p j (by omega) h2 j1
     ·rw [if_neg i1]
      by_cases i2:i=p
      ·rw [if_pos i2];exact srt (p+1) j (by omega) h2 j1
      ·rw [if_neg i2];exact srt i j h1 h2 j1
   ·rw [eG,jz (by omega),if_neg (by omega),if_pos rfl];exact gm
   ·rw [eG,jz (by omega)]
    by_cases i1:i=p+1
    ·rw [if_pos i1];exact gle p (by omega)
    ·rw [if_neg i1]
     by_cases i2:i=p
     ·rw [if_pos i2];exact gle (p+1) hp
     ·rw [if_neg i2];exact gle i hi
   ·rw [eG,jz (by omega),if_neg (by omega),if_neg (by omega)];exact gid i h1 h2
  ·rw [if_neg hc]
   refine ⟨S,fun i j h1 h2=>?_,gle,gid⟩
   show B.getD i 0 < B.getD j 0
   by_cases hj:j=p+1
   ·subst hj
    have hne:B.getD p 0≠B.getD (p+1) 0:=fun z=>by
     have:=Ew S.pm (i:=p) (j:=p+1) (by omega) (by omega) z
     omega
    by_cases hi:i=p
    ·subst hi;omega
    ·have:=srt i p (by omega) (by omega) (by omega)
     omega
   ·exact srt i j h1 h2 hj
theorem Nz {B0:List Nat} {n:Nat} (hB:B0.Perm (List.range n)):∀ k,k < n->Sx B0 n (uA B0 k).1 (uA B0 k).2/\(∀ i j,i < j->j<=k->(uA B0 k).1.getD i 0 < (uA B0 k).1.getD j 0)/\(∀ i,i<=k->(bx (List.range n) (uA B0 k).2).getD i 0<=k)/\(∀ i,k < i->i < n->(bx (List.range n) (uA B0 k).2).getD i 0=i)
 | 0,h=>by
  have hl:B0.length=n:=by rw [hB.length_eq];simp
  have hr:∀ i,i < n->(List.range n).getD i 0=i:=fun i hi=>by rw [YZ,Zo hi];rfl
  refine ⟨⟨hl,hB,(fun p hp=>by cases hp),rfl,trivial,fun i hi=>?_⟩,(fun i j h1 h2=>by omega),fun i hi=>?_,fun i _ hi=>hr i hi⟩
  ·show B0.getD i 0=B0.getD ((List.range n).getD i 0) 0
   rw [hr i hi]
  ·have:i=0:=by omega
   subst this
   show (List.range n).getD 0 0<=0
   rw [hr 0 h]
   exact Y4 _
 | k+1,h=>by
  obtain ⟨S,srt,gle,gid⟩:=Nz hB k (by omega)
  show Sx B0 n (inn (k+1) (uA B0 k).1 (uA B0 k).2).1 (inn (k+1) (uA B0 k).1 (uA B0 k).2).2/\_
  refine Ny h (k+1) _ _ (Y4 _) S (fun i j h1 h2 h3=>srt i j h1 (by omega)) (gid (k+1) (by omega) h) (fun i hi=>?_) fun i h1 h2=>gid i (by omega) h2
  by_cases e:i=k+1
  ·subst e;rw [gid (k+1) (by omega) h];exact Y4 _
  ·have:=gle i (by omega);omega
theorem Ae {B:List Nat} {n:Nat} (hl:B.length=n) (hlt:∀ i,i < n->B.getD i 0 < n) (h:∀ i j,i < j->j < n->B.getD i 0 < B.getD j 0):B=List.range n:=by
 have mono:∀ d i,i+d < n->B.getD i 0+d<=B.getD (i+d) 0:=fun d=>by
  induction d with
  | zero=>intro i _;exact Y4 _
  | succ d ih=>
   intro i hi
   have h1:=ih i (by omega)
   have h2:=h (i+d) (i+(d+1)) (by omega) hi
   omega
 refine wX (by rw [hl];simp) fun i hi=>?_
 rw [hl] at hi
 rw [show (List.range n).getD i 0=i by rw [YZ,Zo hi];rfl]
 have h1:=mono i 0 (by omega)
 have h2:=mono (n - 1 - i) i (by omega)
 have h3:=hlt (i+(n - 1 - i)) (by omega)
 rw [Nat.zero_add] at h1
 omega
def Jr (t:List Nat):List Nat:=(uA (inv t) (t.length - 1)).2
structure Und (t u:List Nat):Prop where
 lt:∀ p∈u,p+1 < t.length
 back:bx (List.range t.length) u.reverse=inv t
 wk:Nt (List.range t.length) u.reverse u.reverse.length=List.range u.reverse.length
 fw:bx (List.range t.length) u=t
theorem Ex {t:List Nat} (h:Prm t):Und t (Jr t):=by
 have hP:=mC h
 have hl:=bI t
 by_cases h0:t.length=0
 ·have e:t=[]:=List.length_eq_zero_iff.mp h0
  subst e
  exact ⟨(fun p hp=>by cases hp),rfl,rfl,rfl⟩
 ·have pm:(inv t).Perm (List.range t.length):=by have:=hP.pm;rwa [hl] at this
  obtain ⟨S,srt,_,_⟩:=Nz pm (t.length - 1) (by omega)
  have e:(uA (inv t) (t.length - 1)).1=List.range t.length:=Ae S.len (fun i hi=>Nx S.pm hi) fun i j h1 h2=>srt i j h1 (by omega)
  have bk:=S.back
  have wk:=S.wk
  have lk:=S.link
  rw [e] at bk wk lk
  refine ⟨S.lt,bk,V3 wk,?_⟩
  have hG:=Te S.lt
  have lG:(bx (List.range t.length) (uA (inv t) (t.length - 1)).2).length=t.length:=by rw [hG.length_eq];simp
  refine (uz (t:=inv t) hP (by rw [hl];exact lG) fun i x ex=>?_).trans (qI h)
  have hi:i < t.length:=by have:=(YW.mp ex).1;omega
  have dx:(inv t).getD i 0=x:=by rw [YZ,ex];rfl
  have hx:x < t.length:=by rw [← dx];exact Nx pm hi
  have l1:=lk x hx
  rw [show (List.range t.length).getD x 0=x by rw [YZ,Zo hx];rfl,← dx] at l1
  have gx:=Nx hG hx
  have:=Ew pm hi gx (by rw [← dx];exact l1)
  exact (getD_some (B:=bx (List.range t.length) (uA (inv t) (t.length - 1)).2) (by rw [lG];exact hx)).trans (congrArg some this.symm)
theorem pairs_len {n:Nat} (h:n<=96):(rE n).length<=6000:=by
 have key:∀ n,n < 97->((List.range n).map fun x=>n - (x+1)).sum<=6000:=by trivial
 unfold rE
 rw [List.length_flatMap]
 have:=key n (by omega)
 simpa using this
theorem Yk {t:List Nat} (h:t.length<=96):cr t<=6000:=Zm List.countP_le_length (pairs_len h)
theorem Ra {t:List Nat} (h:Prm t):(Jr t).reverse.length=cr t:=by
 have U:=Ex h
 have hp:∀ p∈(Jr t).reverse,p+1 < t.length:=fun p hp=>U.lt p (Abi.mp hp)
 have e:=Nv hp (Jr t).reverse.length (Y4 _)
 rw [Aah,U.back,qI h,U.wk,AaM] at e
 exact e.symm
def cN (p x:Nat):Nat:=if p<=x then 1 else 0
def N:List Nat->Nat->Nat->Nat
 | [],_,_=>0
 | _ :: _,_,0=>0
 | x :: B,p,q+1=>cN p x+N B p q
theorem pQ (B:List Nat) (p:Nat):N B p 0=0:=by cases B <;> rfl
theorem Cj:∀ (L M:List Nat) (p q:Nat),N (L ++ M) p q=N L p q+N M p (q - L.length)
 | [],M,p,q=>by simp [N]
 | x :: L,M,p,0=>by simp [N,pQ]
 | x :: L,M,p,q+1=>by
  rw [List.cons_append]
  show cN p x+N (L ++ M) p q=cN p x+N L p q+N M p (q+1 - (L.length+1))
  rw [Cj L M p q,show q+1 - (L.length+1)=q - L.length by omega];omega
theorem Af:∀ (L:List Nat) (p q:Nat),L.length<=q->N L p q=N L p L.length
 | [],p,q,_=>rfl
 | x :: L,p,0,h=>by simp at h
 | x :: L,p,q+1,h=>by
  show cN p x+N L p q=cN p x+N L p L.length
  rw [Af L p q (by simpa using h)]
theorem wY:∀ {B:List Nat} {p q:Nat},q < B.length->N B p (q+1)=N B p q+cN p (B.getD q 0)
 | x :: B,p,0,_=>by
  show cN p x+N B p 0=0+cN p x
  rw [pQ];omega
 | x :: B,p,q+1,h=>by
  show cN p x+N B p (q+1)=cN p x+N B p q+cN p ((x :: B).getD (q+1) 0)
  rw [wY (B:=B) (q:=q) (by simpa using h)]
  simp;omega
theorem Yl {A B:List Nat} {n:Nat} (ha:A.length=n) (hb:B.length=n) (la:∀ x∈A,x < n) (lb:∀ x∈B,x < n) (h:∀ p q,p<=n->q<=n->N A p q=N B p q):A=B:=by
 refine wX (by omega) fun i hi=>?_
 have key:∀ p,p<=n->cN p (A.getD i 0)=cN p (B.getD i 0):=fun p hp=>by
  have h1:=h p (i+1) hp (by omega)
  rw [wY (by omega),wY (by omega),h p i hp (by omega)] at h1
  omega
 have ma:=la _ (Y8 (getD_some (B:=A) (i:=i) (by omega)))
 have mb:=lb _ (Y8 (getD_some (B:=B) (i:=i) (by omega)))
 have k1:=key (A.getD i 0) (by omega)
 have k2:=key (B.getD i 0) (by omega)
 unfold cN at k1 k2
 rw [if_pos (Y4 _)] at k1
 rw [if_pos (Y4 (B.getD i 0))] at k2
 split at k1
 ·split at k2
  ·omega
  ·cases k2
 ·cases k1
theorem NB {B:List Nat} {i:Nat} (h:i+1 < B.length) (p q:Nat):N (aW B i) p q=if q=i+1 then min (N B p i+1) (N B p (i+2)) else N B p q:=by
 obtain ⟨f1,f2⟩:=yS h
 have e:aW B i=B.take i ++ max (B.getD i 0) (B.getD (i+1) 0) :: min (B.getD i 0) (B.getD (i+1) 0) :: B.drop (i+2):=by
  unfold aW
  split
  ·rename_i hw
   have hw':B.getD i 0 < B.getD (i+1) 0:=of_decide_eq_true hw
   rw [f2,Nat.max_eq_right (by omega),Nat.min_eq_left (by omega)]
  ·rename_i hw
   have hw':¬ B.getD i 0 < B.getD (i+1) 0:=fun z=>hw (Y9 z)
   rw [Nat.max_eq_left (by omega),Abg (by omega)]
   exact f1
 have lL:(B.take i).length=i:=by rw [Aap];omega
 generalize B.getD i 0=a at f1 e
 generalize B.getD (i+1) 0=b at f1 e
 generalize B.take i=L at f1 e lL
 generalize B.drop (i+2)=R at f1 e
 rw [e,f1,Cj,Cj,Cj,Cj,lL]
 have hc:cN p (max a b)+cN p (min a b)=cN p a+cN p b:=by unfold cN;split <;> split <;> split <;> split <;> omega
 have hm:cN p (max a b)=min 1 (cN p a+cN p b):=by unfold cN;split <;> split <;> split <;> omega
 by_cases h1:q=i+1
 ·subst h1
  rw [if_pos rfl,show i+1 - i=1 by omega,show i - i=0 by omega,show i+2 - i=2 by omega,Af L p (i+1) (by omega),Af L p i (by omega),Af L p (i+2) (by omega),pQ]
  show N L p L.length+(cN p (max a b)+N (min a b :: R) p 0)=min (N L p L.length+0+1) (N L p L.length+(cN p a+(cN p b+N R p 0)))
  rw [pQ,pQ,hm];omega
 ·rw [if_neg h1]
  congr 1
  by_cases h2:q<=i
  ·rw [show q - i=0 by omega,pQ,pQ]
  ·obtain ⟨k,hk⟩:∃ k,q - i=k+2:=⟨q - i - 2,by omega⟩
   rw [hk]
   show cN p (max a b)+(cN p (min a b)+N R p k)=cN p a+(cN p b+N R p k)
   omega
theorem Ag (n p:Nat):∀ q,q<=n->N (List.range n) p q=q - p
 | 0,_=>by rw [pQ];omega
 | q+1,h=>by
  rw [wY (by simp;omega),Ag n p q (by omega),show (List.range n).getD q 0=q by rw [YZ,Zo (by omega)];rfl]
  unfold cN
  split <;> omega
theorem Ey {B:List Nat} {p:Nat} {m:Nat}:∀ d,m+d<=B.length->N B p m<=N B p (m+d)/\N B p (m+d)<=N B p m+d
 | 0,_=>⟨Y4 _,Y4 _⟩
 | d+1,h=>by
  have:=Ey (B:=B) (p:=p) (m:=m) d (by omega)
  have e:=wY (B:=B) (p:=p) (q:=m+d) (by omega)
  have:cN p (B.getD (m+d) 0)<=1:=by unfold cN;split <;> omega
  rw [show m+(d+1)=m+d+1 by omega,e]
  omega
theorem V4 {B:List Nat} {p q m:Nat} (hq:q<=B.length) (hm:m<=B.length):N B p q<=N B p m+(q - m):=by
 by_cases h:m<=q
 ·have:=(Ey (B:=B) (p:=p) (m:=m) (q - m) (by omega)).2
  rw [show m+(q - m)=q by omega] at this
  exact this
 ·have:=(Ey (B:=B) (p:=p) (m:=q) (m - q) (by omega)).1
  rw [show q+(m - q)=m by omega] at this
  omega
def Mp (n:Nat) (A B C:List Nat):Prop:=∀ p q,p<=n->q<=n->(∀ m,m<=n->N A p q<=N B p m+N C m q)/\∃ m,m<=n/\N A p q=N B p m+N C m q
theorem Rb {E:List Nat} {n:Nat} (hl:E.length=n):Mp n E E (List.range n):=fun p q hp hq=>by
 refine ⟨fun m hm=>?_,q,hq,?_⟩
 ·rw [Ag n m q hq]
  exact V4 (by omega) (by omega)
 ·rw [Ag n q q hq];omega
theorem Ez {E:List Nat} {n:Nat} {s:List Nat} (hl:E.length=n) (hs:∀ p∈s,p+1 < n):∀ k,k<=s.length->Mp n (bx E (s.take k)) E (bx (List.range n) (s.take k))
 | 0,_=>by rw [List.take_zero];exact Rb hl
 | k+1,hk=>by
  have ih:=Ez hl hs k (by omega)
  have hi:s.getD k 0+1 < n:=hs _ (Y8 (getD_some (by omega)))
  rw [uy (by omega),ni,ni]
  have l1:(bx E (s.take k)).length=n:=by rw [lJ];exact hl
  have l2:(bx (List.range n) (s.take k)).length=n:=by rw [lJ];simp
  generalize bx E (s.take k)=F at ih l1
  generalize bx (List.range n) (s.take k)=D at ih l2
  generalize s.getD k 0=i at hi
  intro p q hp hq
  rw [NB (by omega)]
  have st:∀ m,N (aW D i) m q=if q=i+1 then min (N D m i+1) (N D m (i+2)) else N D m q:=fun m=>NB (by omega) m q
  by_cases h1:q=i+1
  ·subst h1
   rw [if_pos rfl]
   obtain ⟨a1,m1,b1,c1⟩:=ih p i hp (by omega)
   obtain ⟨a2,m2,b2,c2⟩:=ih p (i+2) hp (by omega)
   refine ⟨fun m hm=>?_,?_⟩
   ·rw [st m,if_pos rfl]
    have:=a1 m hm
    have:=a2 m hm
    omega
   ·by_cases hc:N F p i+1<=N F p (i+2)
    ·refine ⟨m1,b1,?_⟩
     rw [st m1,if_pos rfl]
     have:=a2 m1 b1
     omega
    ·refine ⟨m2,b2,?_⟩
     rw [st m2,if_pos rfl]
     have:=a1 m2 b2
     omega
  ·rw [if_neg h1]
   obtain ⟨a1,m1,b1,c1⟩:=ih p q hp hq
   refine ⟨fun m hm=>?_,m1,b1,?_⟩
   ·rw [st m,if_neg h1];exact a1 m hm
   ·rw [st m1,if_neg h1];exact c1
theorem Tf {n:Nat} {A A' B C:List Nat} (h:Mp n A B C) (h':Mp n A' B C) {p q:Nat} (hp:p<=n) (hq:q<=n):N A p q<=N A' p q:=by
 obtain ⟨m,hm,e⟩:=(h' p q hp hq).2
 rw [e]
 exact (h p q hp hq).1 m hm
structure Pn (n:Nat) (A:List Nat):Prop where
 len:A.length=n
 lt:∀ x∈A,x < n
theorem Prm.pn {t:List Nat} {n:Nat} (h:Prm t) (hn:t.length=n):Pn n t:=⟨hn,fun x hx=>by rw [← hn];exact h.lt hx⟩
theorem Js {n:Nat} {A A' B C:List Nat} (a:Pn n A) (a':Pn n A') (h:Mp n A B C) (h':Mp n A' B C):A=A':=
 Yl a.len a'.len a.lt a'.lt fun p q hp hq=>Nat.le_antisymm (Tf h h' hp hq) (Tf h' h hp hq)
def lay (x y:List Nat):List Nat:=inv (bx (inv x) (Jr y).reverse)
structure Two (n:Nat) (x y:List Nat):Prop where
 px:Prm x
 py:Prm y
 lx:x.length=n
 ly:y.length=n
theorem Two.lt {n:Nat} {x y:List Nat} (h:Two n x y):∀ p∈(Jr y).reverse,p+1 < n:=fun p hp=>by
 have:=(Ex h.py).lt p (Abi.mp hp)
 rw [h.ly] at this
 exact this
theorem NK {E ps:List Nat} (h:Prm E) (hp:∀ p∈ps,p+1 < E.length):Prm (bx E ps):=by
 have hl:=lJ E ps
 refine ⟨by rw [hl];exact h.le,?_⟩
 rw [hl]
 exact (qH hp).trans h.pm
theorem Two.run {n:Nat} {x y:List Nat} (h:Two n x y):Prm (bx (inv x) (Jr y).reverse)/\(bx (inv x) (Jr y).reverse).length=n:=
 ⟨NK (mC h.px) fun p hp=>by rw [bI,h.lx];exact h.lt p hp,by rw [lJ,bI,h.lx]⟩
theorem Two.lay {n:Nat} {x y:List Nat} (h:Two n x y):Prm (lay x y)/\(lay x y).length=n/\Mp n (inv (lay x y)) (inv x) (inv y):=by
 obtain ⟨hP,hl⟩:=h.run
 unfold My.lay
 refine ⟨mC hP,by rw [bI];exact hl,?_⟩
 rw [qI hP]
 have:=Ez (E:=inv x) (n:=n) (s:=(Jr y).reverse) (by rw [bI,h.lx]) h.lt (Jr y).reverse.length (Y4 _)
 rw [Aah] at this
 have e:=(Ex h.py).back
 rw [h.ly] at e
 rw [e] at this
 exact this
theorem Jt (n:Nat) (h:n<=96):inv (List.range n)=List.range n:=
 (uz (Jq h) rfl fun i x e=>by
  obtain ⟨hi,e⟩:=YW.mp e
  rw [List.getElem_range] at e
  rw [← e,Zo (by simpa using hi)]).symm
def rs (m:Nat) (e:Nat->Nat->Bool) (far i:Nat):List Nat:=(List.range far).flatMap fun j=>if e i j=true then [] else [m - 1 - i+j]
def al (m far:Nat) (e:Nat->Nat->Bool) (n:Nat):List Nat:=(List.range n).flatMap fun i=>rs m e far i
def Dn (n:Nat) (ps:List Nat):List Nat:=bx (List.range n) ps
theorem n8 (E a b:List Nat):bx E (a ++ b)=bx (bx E a) b:=by unfold bx;rw [List.foldl_append]
theorem pR {n:Nat} {ps:List Nat} (h:n<=96) (hp:∀ p∈ps,p+1 < n):Prm (Dn n ps):=Q8 h hp
theorem oh (n:Nat) (ps:List Nat):(Dn n ps).length=n:=by unfold Dn;rw [lJ];simp
theorem Ym {n:Nat} {a b:List Nat} (hb:∀ p∈b,p+1 < n):Mp n (Dn n (a ++ b)) (Dn n a) (Dn n b):=by
 have:=Ez (E:=Dn n a) (n:=n) (s:=b) (oh n a) hb b.length (Y4 _)
 rw [Aah] at this
 unfold Dn at this ⊢
 rw [n8]
 exact this
theorem gP {α β:Type} {f g:α->List β}:∀ {l:List α},(∀ x∈l,f x=g x)->l.flatMap f=l.flatMap g
 | [],_=>rfl
 | x :: l,h=>by rw [List.flatMap_cons,List.flatMap_cons,h x (by simp),gP fun y hy=>h y (by simp [hy])]
theorem NP {m far n:Nat} {e:Nat->Nat->Bool} {p:Nat} (hp:p∈al m far e n):∃ i j,i < n/\j < far/\p=m - 1 - i+j:=by
 unfold al rs at hp
 obtain ⟨i,hi,h⟩:=List.mem_flatMap.mp hp
 obtain ⟨j,hj,h⟩:=List.mem_flatMap.mp h
 refine ⟨i,j,Zk.mp hi,Zk.mp hj,?_⟩
 split at h
 ·cases h
 ·exact ZJ.mp h
theorem nj {m far:Nat} {e:Nat->Nat->Bool}:∀ p∈al m far e m,p+1 < m+far:=fun p hp=>by
 obtain ⟨i,j,hi,hj,rfl⟩:=NP hp
 omega
theorem NQ {A E B:List Nat} {k p:Nat} (h:p+1 < E.length):aW (A ++ (E.map (k+ ·) ++ B)) (A.length+p)=A ++ ((aW E p).map (k+ ·) ++ B):=by
 have g:∀ i,i < E.length->(A ++ (E.map (k+ ·) ++ B)).getD (A.length+i) 0=k+E.getD i 0:=fun i hi=>by
  rw [YZ,Zr (by omega),Aaw,Zu (by simpa using hi),Zd,getD_some hi];rfl
 have w:tR (A ++ (E.map (k+ ·) ++ B)) (A.length+p)=tR E p:=by
  unfold tR
  rw [g p (by omega),Nat.add_assoc,g (p+1) h]
  exact decide_eq_decide.mpr (by omega)
 unfold aW
 rw [w]
 split
 ·rw [g p (by omega),Nat.add_assoc,g (p+1) h]
  have st:∀ (M:List Nat) (x i:Nat),i < M.length->(A ++ (M ++ B)).set (A.length+i) x=A ++ (M.set i x ++ B):=fun M x i hi=>by
   rw [List.set_append_right _ _ (by omega),Aaw,List.set_append_left _ _ hi]
  rw [st _ _ p (by rw [Zj];omega),st _ _ (p+1) (by rw [List.length_set,Zj];omega),List.map_set,List.map_set]
 ·rfl
theorem Ah {A B:List Nat} {k:Nat}:∀ {ps E:List Nat},(∀ p∈ps,p+1 < E.length)->bx (A ++ (E.map (k+ ·) ++ B)) (ps.map (A.length+ ·))=A ++ ((bx E ps).map (k+ ·) ++ B)
 | [],_,_=>rfl
 | p :: ps,E,h=>by
  show bx (aW _ (A.length+p)) (ps.map (A.length+ ·))=_
  rw [NQ (h p (by simp))]
  exact Ah (ps:=ps) (E:=aW E p) fun q hq=>by rw [qG];exact h q (by simp [hq])
theorem NT {k n:Nat} {ps:List Nat} (h:∀ p∈ps,p+1 < n):Dn (k+n) (ps.map (k+ ·))=List.range k ++ (Dn n ps).map (k+ ·):=by
 have:=Ah (A:=List.range k) (B:=[]) (k:=k) (ps:=ps) (E:=List.range n) (fun p hp=>by simpa using h p hp)
 rw [ZV,ZV,AaM,← AaF] at this
 exact this
theorem GC {n r:Nat} {ps:List Nat} (h:∀ p∈ps,p+1 < n):Dn (n+r) ps=Dn n ps ++ (List.range r).map (n+ ·):=by
 have:=Ah (A:=[]) (B:=(List.range r).map (n+ ·)) (k:=0) (ps:=ps) (E:=List.range n) (fun p hp=>by simpa using h p hp)
 have z:∀ l:List Nat,l.map (0+ ·)=l:=fun l=>by simp
 simp only [List.nil_append,List.length_nil,z] at this
 unfold Dn
 rw [AaF]
 exact this
theorem GD {k:Nat} {G:List Nat} (hG:Prm G) (hk:k+G.length<=96):inv (List.range k ++ G.map (k+ ·))=List.range k ++ (inv G).map (k+ ·):=by
 have pm:Prm (List.range k ++ G.map (k+ ·)):=by
  have hl:(List.range k ++ G.map (k+ ·)).length=k+G.length:=by simp
  refine ⟨by omega,?_⟩
  rw [hl,AaF]
  exact List.Perm.append_left _ (hG.pm.map _)
 refine (uz pm (by simp [bI]) fun i x e=>?_).symm
 by_cases hi:i < k
 ·rw [Zu (by simpa using hi),Zo hi] at e
  obtain rfl:i=x:=Zv e
  rw [Zu (by simpa using hi),Zo hi]
 ·rw [Zr (by simp;omega),AaM,Zd] at e
  obtain ⟨y,hy,rfl⟩:=Option.map_eq_some_iff.mp e
  have yl:y < G.length:=hG.lt (Y8 hy)
  rw [Zr (by simp),AaM,Aaw,Zd,getD_some (by rw [bI];exact yl),jT yl,iM hG.nd hy]
  show some (k+(i - k))=some i
  rw [Nat.add_sub_cancel' (by omega)]
theorem Ck {r:Nat} {G:List Nat} (hG:Prm G) (hk:G.length+r<=96):inv (G ++ (List.range r).map (G.length+ ·))=inv G ++ (List.range r).map (G.length+ ·):=by
 have pm:Prm (G ++ (List.range r).map (G.length+ ·)):=by
  have hl:(G ++ (List.range r).map (G.length+ ·)).length=G.length+r:=by simp
  refine ⟨by omega,?_⟩
  rw [hl,AaF]
  exact hG.pm.append_right _
 refine (uz pm (by simp [bI]) fun i x e=>?_).symm
 by_cases hi:i < G.length
 ·rw [Zu hi] at e
  have yl:x < G.length:=hG.lt (Y8 e)
  rw [Zu (by rw [bI];exact yl),getD_some (by rw [bI];exact yl),jT yl,iM hG.nd e]
 ·rw [Zr (by omega),Zd] at e
  obtain ⟨y,hy,rfl⟩:=Option.map_eq_some_iff.mp e
  obtain ⟨h1,h2⟩:=YW.mp hy
  rw [List.getElem_range] at h2
  rw [AaM] at h1
  subst h2
  rw [Zr (by rw [bI];omega),bI,Aaw,Zd,Zo h1]
  show some (G.length+(i - G.length))=some i
  rw [Nat.add_sub_cancel' (by omega)]
theorem step_get {E:List Nat} {q i:Nat} (h:i < q\/q+1 < i):(aW E q).getD i 0=E.getD i 0:=by
 unfold aW
 split
 ·rw [YZ,ZD (by omega),ZD (by omega),← YZ]
 ·rfl
theorem Cm {E:List Nat} {q p:Nat} (h:p+2<=q\/q+2<=p):tR (aW E q) p=tR E p:=by
 unfold tR
 rw [step_get (by omega),step_get (by omega)]
theorem Ju {E:List Nat} {p q:Nat} (h:q+2<=p):aW (aW E q) p=aW (aW E p) q:=by
 have a:=Cm (E:=E) (q:=q) (p:=p) (.inr h)
 have b:=Cm (E:=E) (q:=p) (p:=q) (.inl h)
 have g1:=step_get (E:=E) (q:=q) (i:=p) (by omega)
 have g2:=step_get (E:=E) (q:=q) (i:=p+1) (by omega)
 have g3:=step_get (E:=E) (q:=p) (i:=q) (by omega)
 have g4:=step_get (E:=E) (q:=p) (i:=q+1) (by omega)
 rw [show aW (aW E q) p=if tR (aW E q) p=true then ((aW E q).set p ((aW E q).getD (p+1) 0)).set (p+1) ((aW E q).getD p 0) else aW E q from rfl,
  show aW (aW E p) q=if tR (aW E p) q=true then ((aW E p).set q ((aW E p).getD (q+1) 0)).set (q+1) ((aW E p).getD q 0) else aW E p from rfl,a,b,g1,g2,g3,g4]
 unfold aW
 by_cases h1:tR E p=true <;> by_cases h2:tR E q=true
 ·rw [if_pos h1,if_pos h2,if_pos h2,if_pos h1]
  rw [List.set_comm (E.getD q 0) (E.getD (p+1) 0) (by omega),List.set_comm (E.getD (q+1) 0) (E.getD (p+1) 0) (by omega),List.set_comm (E.getD q 0) (E.getD p 0) (by omega),List.set_comm (E.getD (q+1) 0) (E.getD p 0) (by omega)]
 ·rw [if_pos h1,if_neg h2,if_neg h2,if_pos h1]
 ·rw [if_neg h1,if_pos h2,if_pos h2,if_neg h1]
 ·rw [if_neg h1,if_neg h2,if_neg h2,if_neg h1]
theorem GF:∀ {R E:List Nat} {q:Nat},(∀ p∈R,q+2<=p)->bx (aW E q) R=aW (bx E R) q
 | [],_,_,_=>rfl
 | p :: R,E,q,h=>by
  show bx (aW (aW E q) p) R=aW (bx (aW E p) R) q
  rw [Ju (h p (by simp))]
  exact GF fun z hz=>h z (by simp [hz])
theorem Cp:∀ {L R E:List Nat},(∀ p∈R,∀ q∈L,q+2<=p)->bx (bx E R) L=bx (bx E L) R
 | [],_,_,_=>rfl
 | q :: L,R,E,h=>by
  show bx (aW (bx E R) q) L=bx (bx (aW E q) L) R
  rw [← GF fun p hp=>h p hp q (by simp)]
  exact Cp fun p hp z hz=>h p hp z (by simp [hz])
def LN (m far:Nat) (e:Nat->Nat->Bool):List Nat:=inv (Dn (m+far) (al m far e m))
theorem iu (m far:Nat) (e:Nat->Nat->Bool):(LN m far e).length=m+far:=by unfold LN;rw [bI,oh]
theorem wZ {m far:Nat} {e:Nat->Nat->Bool} (h:m+far<=96):Prm (LN m far e):=mC (pR h nj)
theorem Rc (mu ml far:Nat) (e:Nat->Nat->Bool):al (mu+ml) far e (mu+ml)=(al mu far e mu).map (ml+ ·) ++ al ml far (fun i j=>e (mu+i) j) ml:=by
 unfold al
 rw [AaF,List.flatMap_append,List.flatMap_map,List.map_flatMap]
 congr 1
 ·refine gP fun i hi=>?_
  have hi:=Zk.mp hi
  unfold rs
  rw [List.map_flatMap]
  refine gP fun j hj=>?_
  split
  ·rfl
  ·show [mu+ml - 1 - i+j]=[ml+(mu - 1 - i+j)];congr 1;omega
 ·refine gP fun i hi=>?_
  have hi:=Zk.mp hi
  unfold rs
  refine gP fun j hj=>?_
  show (if e (mu+i) j=true then [] else [mu+ml - 1 - (mu+i)+j])=_
  rw [show mu+ml - 1 - (mu+i)+j=ml - 1 - i+j by omega]
theorem yV {n:Nat} {a b:List Nat} (h:n<=96) (ha:∀ p∈a,p+1 < n) (hb:∀ p∈b,p+1 < n):lay (inv (Dn n a)) (inv (Dn n b))=inv (Dn n (a ++ b)):=by
 have pa:=pR h ha
 have pb:=pR h hb
 have pab:Prm (Dn n (a ++ b)):=pR h fun p hp=>(Z0.mp hp).elim (ha p) (hb p)
 have T:Two n (inv (Dn n a)) (inv (Dn n b)):=⟨mC pa,mC pb,by rw [bI,oh],by rw [bI,oh]⟩
 obtain ⟨p1,l1,m1⟩:=T.lay
 rw [qI pa,qI pb] at m1
 have e:=Js ((mC p1).pn (by rw [bI];exact l1)) (pab.pn (oh _ _)) m1 (Ym hb)
 rw [← e,qI p1]
theorem NZ {mu ml far:Nat} {e:Nat->Nat->Bool} (h:mu+ml+far<=96):
  lay (List.range ml ++ (LN mu far e).map (ml+ ·)) (LN ml far (fun i j=>e (mu+i) j) ++ (List.range mu).map (ml+far+ ·))=LN (mu+ml) far e:=by
 have p1:=pR (n:=mu+far) (by omega) (nj (m:=mu) (far:=far) (e:=e))
 have p2:=pR (n:=ml+far) (by omega) (nj (m:=ml) (far:=far) (e:=fun i j=>e (mu+i) j))
 have l2:=oh (ml+far) (al ml far (fun i j=>e (mu+i) j) ml)
 have e1:List.range ml ++ (LN mu far e).map (ml+ ·)=inv (Dn (mu+ml+far) ((al mu far e mu).map (ml+ ·))):=by
  rw [show mu+ml+far=ml+(mu+far) by omega,NT nj,GD p1 (by rw [oh];omega)];rfl
 have e2:LN ml far (fun i j=>e (mu+i) j) ++ (List.range mu).map (ml+far+ ·)=inv (Dn (mu+ml+far) (al ml far (fun i j=>e (mu+i) j) ml)):=by
  have:=Ck (r:=mu) p2 (by rw [l2];omega)
  rw [l2] at this
  rw [show mu+ml+far=(ml+far)+mu by omega,GC nj,this];rfl
 rw [e1,e2,yV h,← Rc]
 ·rfl
 ·intro p hp
  obtain ⟨q,hq,rfl⟩:=ZP.mp hp
  have:=nj q hq
  omega
 ·intro p hp
  have:=nj p hp
  omega
theorem Jv (m fl fr:Nat) (e:Nat->Nat->Bool) (i:Nat):rs m e (fl+fr) i=rs m e fl i ++ (rs m (fun i j=>e i (fl+j)) fr i).map (fl+ ·):=by
 unfold rs
 rw [AaF,List.flatMap_append,List.flatMap_map,List.map_flatMap]
 congr 1
 refine gP fun j hj=>?_
 show (if e i (fl+j)=true then [] else [m - 1 - i+(fl+j)])=_
 split
 ·rfl
 ·show [m - 1 - i+(fl+j)]=[fl+(m - 1 - i+j)];congr 1;omega
theorem Ai (m far:Nat) (e:Nat->Nat->Bool) (n:Nat):al m far e (n+1)=al m far e n ++ rs m e far n:=by
 unfold al
 rw [List.range_succ,List.flatMap_append]
 simp
theorem yW {m fl fr:Nat} {e:Nat->Nat->Bool} (E:List Nat):∀ n,n<=m->bx E (al m (fl+fr) e n)=bx E (al m fl e n ++ (al m fr (fun i j=>e i (fl+j)) n).map (fl+ ·))
 | 0,_=>rfl
 | n+1,h=>by
  rw [Ai,Ai,Ai,Jv,n8,yW E n (by omega),ZK,n8,n8,n8,n8,n8]
  refine congrArg (fun z=>bx z _) (Cp fun p hp q hq=>?_)
  obtain ⟨p',hp',rfl⟩:=ZP.mp hp
  obtain ⟨i,j,hi,hj,rfl⟩:=NP hp'
  unfold rs at hq
  obtain ⟨j',hj',hq⟩:=List.mem_flatMap.mp hq
  have hj':=Zk.mp hj'
  split at hq
  ·cases hq
  ·rw [ZJ.mp hq];omega
theorem EY {m fl fr:Nat} {e:Nat->Nat->Bool} (h:m+(fl+fr)<=96):
  lay (LN m fl e ++ (List.range fr).map (m+fl+ ·)) (List.range fl ++ (LN m fr (fun i j=>e i (fl+j))).map (fl+ ·))=LN m (fl+fr) e:=by
 have p1:=pR (n:=m+fr) (by omega) (nj (m:=m) (far:=fr) (e:=fun i j=>e i (fl+j)))
 have p2:=pR (n:=m+fl) (by omega) (nj (m:=m) (far:=fl) (e:=e))
 have l2:=oh (m+fl) (al m fl e m)
 have e1:List.range fl ++ (LN m fr (fun i j=>e i (fl+j))).map (fl+ ·)=inv (Dn (m+(fl+fr)) ((al m fr (fun i j=>e i (fl+j)) m).map (fl+ ·))):=by
  rw [show m+(fl+fr)=fl+(m+fr) by omega,NT nj,GD p1 (by rw [oh];omega)];rfl
 have e2:LN m fl e ++ (List.range fr).map (m+fl+ ·)=inv (Dn (m+(fl+fr)) (al m fl e m)):=by
  have:=Ck (r:=fr) p2 (by rw [l2];omega)
  rw [l2] at this
  rw [show m+(fl+fr)=(m+fl)+fr by omega,GC nj,this];rfl
 rw [e1,e2,yV h]
 ·unfold LN Dn
  rw [yW _ m (Y4 _)]
 ·intro p hp
  have:=nj p hp
  omega
 ·intro p hp
  obtain ⟨q,hq,rfl⟩:=ZP.mp hp
  have:=nj q hq
  omega
def top (i:Nat):Stmt:=PySem.Challenge.pw_panethread_k76_openings_of_rings.main.body.getD i (.Pass ⟨0,0,0,0⟩)
abbrev pU:Stmt:=top 17
abbrev pW:Stmt:=top 18
abbrev pX:Stmt:=top 19
abbrev uB:Stmt:=top 20
abbrev ou:Stmt:=top 21
abbrev pY:Stmt:=top 22
abbrev tU:Stmt:=top 24
abbrev oA:Stmt:=top 25
abbrev rG:Stmt:=top 26
abbrev pZ:Stmt:=top 27
abbrev oE:Stmt:=top 28
abbrev oF:Stmt:=top 30
abbrev lK:Stmt:=top 31
abbrev rH:Stmt:=top 32
abbrev rJ:Stmt:=top 33
abbrev tV:Stmt:=top 34
abbrev rK:Stmt:=top 40
abbrev rM:Stmt:=top 41
abbrev oG:Stmt:=top 42
abbrev Fb:Stmt:=top 43
abbrev mR:Stmt:=top 46
abbrev p6:Stmt:=top 47
abbrev oH:Stmt:=top 48
abbrev kW:Stmt:=top 49
abbrev jj:Stmt:=top 50
abbrev oJ:Stmt:=top 55
abbrev rN:Stmt:=top 56
abbrev lM:Stmt:=top 57
abbrev mU:Stmt:=top 61
abbrev p7:Stmt:=top 62
abbrev oK:Stmt:=top 63
abbrev uC:Stmt:=top 64
abbrev qd:Stmt:=top 65
abbrev jk:Stmt:=top 66
abbrev mD:Stmt:=top 67
abbrev jl:Stmt:=top 68
abbrev jm:Stmt:=top 69
abbrev jn:Stmt:=top 70
abbrev qe:Stmt:=top 71
abbrev rO:Stmt:=top 72
abbrev qg:Stmt:=top 73
abbrev Cq:Stmt:=top 74
abbrev jA:Stmt:=jx 0 (top 36)
abbrev jU:Stmt:=jx 0 (top 38)
abbrev gZ:Stmt:=jx 0 (top 45)
abbrev oM:Stmt:=jx 1 (top 45)
abbrev qi:Stmt:=jx 2 (top 45)
abbrev oN:Stmt:=jx 3 (top 45)
abbrev mV:Stmt:=jx 4 (top 45)
abbrev lN:Stmt:=jx 6 (top 45)
abbrev jB:Stmt:=jx 0 (top 51)
abbrev lO:Stmt:=jx 0 (top 52)
abbrev jV:Stmt:=jx 0 (top 53)
abbrev jo:Stmt:=jx 0 (top 54)
abbrev jW:Stmt:=jx 0 (top 59)
abbrev iw:Stmt:=jx 1 (top 59)
abbrev lQ:Stmt:=jx 2 (top 59)
abbrev iD:Stmt:=jx 3 (top 59)
abbrev lR:Stmt:=jx 10 (top 59)
abbrev kY:Stmt:=jx 11 (top 59)
abbrev GJ:Stmt:=initOf (top 3)
abbrev nq:Stmt:=initOf (top 4)
abbrev w5:Stmt:=initOf (top 5)
abbrev nG:Stmt:=initOf (top 6)
abbrev uY:Stmt:=initOf (top 7)
abbrev nH:Stmt:=initOf (top 8)
abbrev Cr:Stmt:=initOf (top 9)
abbrev yX:Stmt:=initOf (top 10)
local macro_rules | `(tactic| walk_at "s") => `(tactic| (with_reducible repeat (first | refine lC ?_ | walk_at "0")))
local macro_rules | `(tactic| walk_at "n") => `(tactic| (with_reducible repeat (walk_at "0")))
structure Txt (K:W.Frag) (mg:Str->Option Value):Prop where
 b_ValueError:mg "ValueError"=none
 b_all:mg "all"=none
 b_bool:mg "bool"=none
 b_enumerate:mg "enumerate"=none
 b_int:mg "int"=none
 b_isinstance:mg "isinstance"=none
 b_len:mg "len"=none
 b_list:mg "list"=none
 b_max:mg "max"=none
 b_min:mg "min"=none
 b_range:mg "range"=none
 b_reversed:mg "reversed"=none
 b_str:mg "str"=none
 b_tuple:mg "tuple"=none
 c_LETTERS:∃ t,mg "LETTERS"=some (.str "abcdefghijklmnopqrstuvwxyz" t)
 c_MOST_LETTERS:∃ t,mg "MOST_LETTERS"=some (.int 24 t)
 c_MOST_LINES:∃ t,mg "MOST_LINES"=some (.int 96 t)
 c_MOST_SIGNS:∃ t,mg "MOST_SIGNS"=some (.int 48 t)
 c_POINT:∃ t,mg "POINT"=some (.str "." t)
 d_is_number:eO K mg "is_number" pU
 d_is_within:eO K mg "is_within" pW
 d_is_letter:eO K mg "is_letter" pX
 d_is_sign:eO K mg "is_sign" uB
 d_need_place:eO K mg "need_place" ou
 d_need_sign:eO K mg "need_sign" pY
 d_is_row:eO K mg "is_row" tU
 d_is_plain:eO K mg "is_plain" oA
 d_need_row:eO K mg "need_row" rG
 d_need_rows:eO K mg "need_rows" pZ
 d_need_plain:eO K mg "need_plain" oE
 d_is_turning:eO K mg "is_turning" oF
 d_need_turning:eO K mg "need_turning" lK
 d_straight:eO K mg "straight" rH
 d_opposite:eO K mg "opposite" rJ
 d_counts:eO K mg "counts" tV
 d_do_steps:eO K mg "do_steps" rK
 d_steps_of:eO K mg "steps_of" rM
 d_need_alike:eO K mg "need_alike" oG
 d_laid:eO K mg "laid" Fb
 d_need_pieces:eO K mg "need_pieces" mR
 d_need_same:eO K mg "need_same" p6
 d_need_short:eO K mg "need_short" oH
 d_lines_over:eO K mg "lines_over" kW
 d_lines_beside:eO K mg "lines_beside" jj
 d_all_beside:eO K mg "all_beside" oJ
 d_all_over:eO K mg "all_over" rN
 d_balanced:eO K mg "balanced" lM
 d_law_cell_at:eO K mg "_law_cell_at" mU
 d_law_great:eO K mg "_law_great" p7
 d_law_letter:eO K mg "_law_letter" oK
 d_law_row:eO K mg "_law_row" uC
 d_law_round:eO K mg "_law_round" qd
 d_law_openings:eO K mg "_law_openings" jk
 d_law_place:eO K mg "_law_place" mD
 d_law_no_place:eO K mg "_law_no_place" jl
 d_law_no_piece:eO K mg "_law_no_piece" jm
 d_law_no_plain:eO K mg "_law_no_plain" jn
 d_law_other:eO K mg "_law_other" qe
 d_law_told:eO K mg "_law_told" rO
 d_law_alike:eO K mg "_law_alike" qg
 d_law:eO K mg "law" Cq
 x_PaneError:IK K mg "PaneError"
 x_NoRow:pB K mg "NoRow" ["found"] "NoRow.__init__" GJ
 x_NoPlain:pB K mg "NoPlain" ["found"] "NoPlain.__init__" nq
 x_NoLetter:pB K mg "NoLetter" ["found"] "NoLetter.__init__" w5
 x_NoPlace:pB K mg "NoPlace" ["found"] "NoPlace.__init__" nG
 x_NoTurning:pB K mg "NoTurning" ["found"] "NoTurning.__init__" uY
 x_NoPiece:pB K mg "NoPiece" ["found"] "NoPiece.__init__" nH
 x_Unlike:pB K mg "Unlike" ["one","other"] "Unlike.__init__" Cr
 x_TooLong:pB K mg "TooLong" ["found"] "TooLong.__init__" yX
 o_Tally:jw K mg "Tally"
 n_Tally:∀ f∈(["held_ends","held_counts"]:List Str),NoAttr K (aF mg "Tally") f
 o_Asks:jw K mg "Asks"
 n_Asks:∀ f∈(["held_tally","held_many","held_far"]:List Str),NoAttr K (aF mg "Asks") f
 o_Piece:jw K mg "Piece"
 n_Piece:∀ f∈(["held_side","held_top","held_kind","held_lines","held_parts","held_height"]:List Str),NoAttr K (aF mg "Piece") f
 o_Blank:jw K mg "Blank"
 n_Blank:∀ f∈(["held_side","held_top","held_kind","held_lines","held_parts","held_height"]:List Str),NoAttr K (aF mg "Blank") f
 o_One:jw K mg "One"
 n_One:∀ f∈(["held_side","held_top","held_kind","held_lines","held_parts","held_height"]:List Str),NoAttr K (aF mg "One") f
 o_Over:jw K mg "Over"
 n_Over:∀ f∈(["held_side","held_top","held_kind","held_lines","held_parts","held_height"]:List Str),NoAttr K (aF mg "Over") f
 o_Beside:jw K mg "Beside"
 n_Beside:∀ f∈(["held_side","held_top","held_kind","held_lines","held_parts","held_height"]:List Str),NoAttr K (aF mg "Beside") f
 o_Ring:jw K mg "Ring"
 n_Ring:∀ f∈(["held_side","held_top","held_kind","held_lines","held_parts","held_height","held_row","held_asks"]:List Str),NoAttr K (aF mg "Ring") f
 os_Piece:YK K mg ["Blank","One","Over","Beside","Ring"]
 t_Blank:ITxt K mg "Blank"
 t_One:ITxt K mg "One"
 t_Over:ITxt K mg "Over"
 t_Beside:ITxt K mg "Beside"
 t_Ring:ITxt K mg "Ring"
 q_Blank:Gz K (aF mg "Blank")
 q_One:Gz K (aF mg "One")
 q_Over:Gz K (aF mg "Over")
 q_Beside:Gz K (aF mg "Beside")
 q_Ring:Gz K (aF mg "Ring")
 u_Blank_Piece:Sub K mg "Blank" "Piece" true
 u_Blank_Ring:Sub K mg "Blank" "Ring" false
 u_One_Piece:Sub K mg "One" "Piece" true
 u_One_Ring:Sub K mg "One" "Ring" false
 u_Over_Piece:Sub K mg "Over" "Piece" true
 u_Over_Ring:Sub K mg "Over" "Ring" false
 u_Beside_Piece:Sub K mg "Beside" "Piece" true
 u_Beside_Ring:Sub K mg "Beside" "Ring" false
 u_Ring_Piece:Sub K mg "Ring" "Piece" true
 u_Ring_Ring:Sub K mg "Ring" "Ring" true
 w_Piece_str:PySem.W.kitOne K (.type "str") (.ref (aF mg "Piece"))=some false
 w_Piece_int:PySem.W.kitOne K (.type "int") (.ref (aF mg "Piece"))=some false
 w_Piece_list:PySem.W.kitOne K (.type "list") (.ref (aF mg "Piece"))=some false
 w_Piece_tuple:PySem.W.kitOne K (.type "tuple") (.ref (aF mg "Piece"))=some false
 w_Piece_NoneType:PySem.W.kitOne K (.type "NoneType") (.ref (aF mg "Piece"))=some false
 w_Piece_bool:PySem.W.kitOne K (.type "bool") (.ref (aF mg "Piece"))=some false
 w_Piece_dict:PySem.W.kitOne K (.type "dict") (.ref (aF mg "Piece"))=some false
 w_Ring_str:PySem.W.kitOne K (.type "str") (.ref (aF mg "Ring"))=some false
 w_Ring_int:PySem.W.kitOne K (.type "int") (.ref (aF mg "Ring"))=some false
 w_Ring_list:PySem.W.kitOne K (.type "list") (.ref (aF mg "Ring"))=some false
 w_Ring_tuple:PySem.W.kitOne K (.type "tuple") (.ref (aF mg "Ring"))=some false
 w_Ring_NoneType:PySem.W.kitOne K (.type "NoneType") (.ref (aF mg "Ring"))=some false
 w_Ring_bool:PySem.W.kitOne K (.type "bool") (.ref (aF mg "Ring"))=some false
 w_Ring_dict:PySem.W.kitOne K (.type "dict") (.ref (aF mg "Ring"))=some false
 m_Piece___init__:Gu K mg "Piece" "__init__" "Piece.__init__" gZ
 m_Piece_side:o6 K mg ["Blank","One","Over","Beside","Ring"] "side" "Piece.side" oM
 m_Piece_top:o6 K mg ["Blank","One","Over","Beside","Ring"] "top" "Piece.top" qi
 m_Piece_kind:o6 K mg ["Blank","One","Over","Beside","Ring"] "kind" "Piece.kind" oN
 m_Piece_lines:o6 K mg ["Blank","One","Over","Beside","Ring"] "lines" "Piece.lines" mV
 m_Piece_height:o6 K mg ["Blank","One","Over","Beside","Ring"] "height" "Piece.height" lN
 m_Tally___init__:jP K mg "Tally" "__init__" "Tally.__init__" jA
 m_Asks___init__:jP K mg "Asks" "__init__" "Asks.__init__" jU
 m_Blank___init__:jP K mg "Blank" "__init__" "Blank.__init__" jB
 m_One___init__:jP K mg "One" "__init__" "One.__init__" lO
 m_Over___init__:jP K mg "Over" "__init__" "Over.__init__" jV
 m_Beside___init__:jP K mg "Beside" "__init__" "Beside.__init__" jo
 m_Ring___init__:jP K mg "Ring" "__init__" "Ring.__init__" jW
 m_Ring_need_opening:jP K mg "Ring" "need_opening" "Ring.need_opening" iw
 m_Ring_opening:jP K mg "Ring" "opening" "Ring.opening" lQ
 m_Ring_openings:jP K mg "Ring" "openings" "Ring.openings" iD
 m_Ring_is_same:jP K mg "Ring" "is_same" "Ring.is_same" lR
 m_Ring_least:jP K mg "Ring" "least" "Ring.least" kY
 u_NoPlain_PaneError:Sub K mg "NoPlain" "PaneError" true
 u_NoPlain_NoPlain:Sub K mg "NoPlain" "NoPlain" true
 u_NoPlain_NoPlace:Sub K mg "NoPlain" "NoPlace" false
 u_NoPlain_NoPiece:Sub K mg "NoPlain" "NoPiece" false
 u_NoPlace_PaneError:Sub K mg "NoPlace" "PaneError" true
 u_NoPlace_NoPlain:Sub K mg "NoPlace" "NoPlain" false
 u_NoPlace_NoPlace:Sub K mg "NoPlace" "NoPlace" true
 u_NoPlace_NoPiece:Sub K mg "NoPlace" "NoPiece" false
 u_NoPiece_PaneError:Sub K mg "NoPiece" "PaneError" true
 u_NoPiece_NoPlain:Sub K mg "NoPiece" "NoPlain" false
 u_NoPiece_NoPlace:Sub K mg "NoPiece" "NoPlace" false
 u_NoPiece_NoPiece:Sub K mg "NoPiece" "NoPiece" true
 v_NoPlain:PySem.W.kitOne K (.ref (aF mg "NoPlain")) (.type "ValueError")=some true
 v_NoPlace:PySem.W.kitOne K (.ref (aF mg "NoPlace")) (.type "ValueError")=some true
 v_NoPiece:PySem.W.kitOne K (.ref (aF mg "NoPiece")) (.type "ValueError")=some true
def Kd (K:W.Frag) (H:Hp) (v:V):Prop:=(∃ n,v= .int n)\/(∃ b,v= .bl b)\/∃ T,TyOf K H v (.type T)/\PySem.W.kitOne K (.type T) (.type "int")=some false
theorem Kd.same {K:W.Frag} {H H':Hp} {v:V} (h:Kd K H v) (s:Same H H'):Kd K H' v:=by
 rcases h with h | h | ⟨T,a,c⟩
 ·exact .inl h
 ·exact .inr (.inl h)
 ·exact .inr (.inr ⟨T,a.mono fun b o e _=>s b o e,c⟩)
def Yn:V->Bool
 | .int _=>true
 | _=>false
def inB (v:V) (lo hi:Int):Bool:=match v with
 | .int n=>decide (lo<=n) && decide (n<=hi)
 | _=>false
section
variable {P:Program} {w:World} {K:W.Frag} {mg:Str->Option Value} {base:Heap}
theorem vm:O4 nG "self":=by trivial
theorem uD:O4 nG "found":=by trivial
theorem vo:O4 nq "self":=by trivial
theorem uE:O4 nq "found":=by trivial
theorem vp:O4 nH "self":=by trivial
theorem uF:O4 nH "found":=by trivial
theorem Same.put {H H':Hp} {p:Addr} {o:HO} (s:Same H H') (hn:H p=none):Same H (upd H' p o):=fun b u e=>by
 rw [aG (fun z=>by rw [z,hn] at e;cases e)]
 exact s b u e
theorem Same.back {H H':Hp} {p:Addr} (s:Same H H') (h:H' p=none):H p=none:=by
 cases e:H p with
 | none=>rfl
 | some o=>rw [s _ _ e] at h;cases h
theorem V5 {H:Hp} {v:V} {T:String} (h:TyOf K H v (.type T)) (k:PySem.W.kitOne K (.type T) (.type "int")=some false):Yn v=false/\∀ lo hi,inB v lo hi=false:=by
 cases v with
 | int z=>
  cases h
  have:PySem.W.kitOne K (.type "int") (.type "int")=some true:=rfl
  rw [this] at k;cases k
 | _=>exact ⟨rfl,fun _ _=>rfl⟩
theorem Cu:aC ["self","found"] ["self","found"] (az nG):=⟨rfl,rfl,rfl,by trivial,rfl,by trivial,by trivial⟩
theorem Fd (T:Txt K mg):Vv P w K mg base 1 "NoPlace" (aF mg "NoPlace") ["found"]:=mkX T.x_NoPlace Cu (fun _ _ _ _ _ _ us hl=>L2.nP (fun _ _=>rfl) us hl) rfl fun f cdv A outer s H vs Q E hr h=>⟨_,(aB (zW (K:=K) rfl (Ec 0 vm) (Ec 1 uD))),rd1 T.x_NoPlace.c.cl.cls (T.x_NoPlace.na _ (by simp)) h⟩
theorem Cv:aC ["self","found"] ["self","found"] (az nq):=⟨rfl,rfl,rfl,by trivial,rfl,by trivial,by trivial⟩
theorem w6 (T:Txt K mg):Vv P w K mg base 1 "NoPlain" (aF mg "NoPlain") ["found"]:=mkX T.x_NoPlain Cv (fun _ _ _ _ _ _ us hl=>L2.nP (fun _ _=>rfl) us hl) rfl fun f cdv A outer s H vs Q E hr h=>⟨_,(aB (zW (K:=K) rfl (Ec 0 vo) (Ec 1 uE))),rd1 T.x_NoPlain.c.cl.cls (T.x_NoPlain.na _ (by simp)) h⟩
theorem Cw:aC ["self","found"] ["self","found"] (az nH):=⟨rfl,rfl,rfl,by trivial,rfl,by trivial,by trivial⟩
theorem Fe (T:Txt K mg):Vv P w K mg base 1 "NoPiece" (aF mg "NoPiece") ["found"]:=mkX T.x_NoPiece Cw (fun _ _ _ _ _ _ us hl=>L2.nP (fun _ _=>rfl) us hl) rfl fun f cdv A outer s H vs Q E hr h=>⟨_,(aB (zW (K:=K) rfl (Ec 0 vp) (Ec 1 uF))),rd1 T.x_NoPiece.c.cl.cls (T.x_NoPiece.na _ (by simp)) h⟩
def N5 (K:W.Frag):Sp:=fun vs H Q _=>∃ v:V,vs=[v]/\Kd K H v/\Q (.bl (Yn v)) H
theorem Aj:aC ["thing"] ["thing"] (az pU):=⟨rfl,rfl,rfl,by trivial,rfl,by trivial,by trivial⟩
theorem qj (T:Txt K mg):Has P w K mg base 1 "is_number" ["thing"] (N5 K):=by
 refine fj T.d_is_number Aj (fun _ _ _ _ _ _ us hl=>L2.iG (fun _=>rfl) us hl) ?_ fun f cdv A outer s H vs Q E hr h=>?_
 ·rintro vs H Q E ⟨v,rfl,_⟩;rfl
 obtain ⟨v,rfl,hT,q⟩:=h
 have hu:=hr.units0
 have hu64:=hr.units
 refine ⟨_,(aB (aL (lD (aH (gU (K:=K) rfl) aP T.b_isinstance aV (aa (ao 0) (aa (uq aP T.b_int Vm (by trivial) (by trivial)) aq)) (by trivial) (by trivial)) (o4 (Gd (aH (gU (K:=K) rfl) aP T.b_isinstance aV (aa (ao 0) (aa (uq aP T.b_bool zJ (by trivial) (by trivial)) aq)) (by trivial) (by trivial))))))),?_⟩
 walk_at "s"
 rcases hT with ⟨n,rfl⟩ | ⟨b,rfl⟩ | ⟨T',hty,hk⟩
 ·refine m6 (.int _) rfl ?_
  walk_at "s"
  refine m6 (.int _) rfl ?_
  walk_at "s"
  exact q
 ·refine m6 (.bl _) (b:=true) (by rfl) ?_
  walk_at "s"
  refine m6 (.bl _) (b:=true) (by rfl) ?_
  walk_at "s"
  exact q
 ·refine m6 hty hk ?_
  walk_at "s"
  rw [(V5 hty hk).1] at q
  exact q
def N7 (K:W.Frag):Sp:=fun vs H Q _=>∃ (v:V) (lo hi:Int),vs=[v,.int lo,.int hi]/\Kd K H v/\Q (.bl (inB v lo hi)) H
theorem Ak:aC ["thing","low","high"] ["thing","low","high"] (az pW):=⟨rfl,rfl,rfl,by trivial,rfl,by trivial,by trivial⟩
theorem iU (T:Txt K mg):Has P w K mg base 2 "is_within" ["thing","low","high"] (N7 K):=by
 have qj:=qj (P:=P) (w:=w) (base:=base) T
 refine fj T.d_is_within Ak (fun _ _ _ _ _ _ us hl=>L2.uf (fun _ _ _=>rfl) us hl) ?_ fun f cdv A outer s H vs Q E hr h=>?_
 ·rintro vs H Q E ⟨v,lo,hi,rfl,_⟩;rfl
 obtain ⟨v,lo,hi,rfl,hT,q⟩:=h
 have hu:=hr.units0
 have hu64:=hr.units
 refine ⟨_,(aB (aL (lD (aJ qj (hr.mono (by decide)) aP (aa (ao 0) aq) (by trivial)) (o4 (Qu Kq Kq (ao 1) (ao 0) (ao 2)))))),?_⟩
 walk_at "s"
 refine ⟨v,rfl,hT,?_⟩
 walk_at "s"
 cases v with
 | int n=>
  show if true=true then _ else _
  walk_at "s"
  show if decide (lo<=n)=true then _ else _
  unfold inB at q
  dsimp only at q
  by_cases h:lo<=n
  ·rw [Y9 h] at q ⊢
   rw [Bool.true_and] at q
   walk_at "s"
   exact q
  ·rw [Zc h] at q ⊢
   rw [Bool.false_and] at q
   walk_at "s"
   exact q
 | _=>exact q
def GK (K:W.Frag) (mg:Str->Option Value):Sp:=fun vs H Q E=>∃ (v:V) (lo hi:Int),vs=[v,.int lo,.int hi]/\Kd K H v/\(inB v lo hi=true->Q .non H)/\
 (inB v lo hi=false->∀ e H',Same H H'->IsX H' e (aF mg "NoPlace") [("found",v)]->E (.ref (aF mg "NoPlace")) (some e) H')
theorem xR:aC ["thing","low","high"] ["thing","low","high"] (az ou):=⟨rfl,rfl,rfl,by trivial,rfl,by trivial,by trivial⟩
theorem dN (T:Txt K mg):Ml P w K mg base 3 "need_place" ["thing","low","high"] (GK K mg):=by
 have iU:=iU (P:=P) (w:=w) (base:=base) T
 refine Ss T.d_need_place xR (fun _ _ _ _ _ _ us hl=>L2.uf (fun _ _ _=>rfl) us hl) ?_ fun f cdv A outer s H vs Q E hr h=>?_
 ·rintro vs H Q E ⟨v,lo,hi,rfl,_⟩;rfl
 obtain ⟨v,lo,hi,rfl,hT,q1,q2⟩:=h
 have hu:=hr.units0
 have hu64:=hr.units
 refine ⟨_,(aB (bJ (dY (dU (aJ iU (hr.mono (by decide)) aP (aa (ao 0) (aa (ao 1) (aa (ao 2) aq))) (by trivial)))) (aB (tG (Fd (P:=P) (w:=w) (base:=base) T) (hr.mono (by decide)) rfl aP aO (aa (ao 0) aq) (by trivial))) bf)),?_⟩
 walk_at "s"
 refine ⟨v,lo,hi,rfl,hT,?_⟩
 walk_at "s"
 cases hb:inB v lo hi with
 | true=>
  walk_at "s"
  exact q1 hb
 | false=>
  walk_at "s"
  exact ⟨rfl,(show 1<=sizeLine by decide),fun x H2 S2 X2=>q2 hb x H2 S2 X2⟩
theorem N8 (i j:Int):decide (V.int i=V.int j)=decide (i=j):=decide_eq_decide.mpr ⟨fun h=>V.int.inj h,fun h=>by rw [h]⟩
theorem bw (t:List Nat):((nI t).map V.int).length=t.length:=by unfold nI;rw [Zj,Zj]
theorem Yo {t:List Nat} {k i:Nat} (h:t[k]?=some i):((nI t).map V.int)[k]?=some (.int (i:Int)):=by unfold nI;rw [Zd,Zd,h];rfl
theorem yZ {t:List Nat} {k:Nat} {v:V} (h:((nI t).map V.int)[k]?=some v):∃ i,t[k]?=some i/\v= .int (i:Int):=by
 unfold nI at h
 rw [Zd,Zd] at h
 cases e:t[k]? with
 | none=>rw [e] at h;cases h
 | some y=>rw [e] at h;exact ⟨y,rfl,(Zv h).symm⟩
theorem za {t:List Nat} {k:Nat} {j:Int} (hk:k < t.length) (hj:j=(k:Int)):Do ((nI t).map V.int) j=some (.int ((t.getD k 0:Nat):Int)):=by
 subst hj
 refine rW (Yo ?_)
 rw [YZ,YT hk];rfl
theorem xf (t:List Nat) (k x:Nat):((nI t).map V.int).set k (.int (x:Int))=(nI (t.set k x)).map V.int:=by unfold nI;rw [List.map_set,List.map_set]
theorem Al (t:List Nat) (x:Nat):(nI t).map V.int ++ [.int (x:Int)]=(nI (t ++ [x])).map V.int:=by unfold nI;rw [ZK,ZK];rfl
theorem Cy {n p:Nat} {j:Int} (hj:j=(p:Int)) (h:p < n):JR n j=some p:=by
 subst hj
 unfold JR
 rw [if_pos (by omega),if_pos (by omega)]
 simp
theorem Cz {H:Hp} {Q:VK} {E:XK} {n lo hi:Int} (h1:lo<=n) (h2:n<=hi) (h:Q .non H):GK K mg [.int n,.int lo,.int hi] H Q E:=
 ⟨_,_,_,rfl,.inl ⟨_,rfl⟩,fun _=>h,fun hb=>by unfold inB at hb;simp at hb;omega⟩
def Tn (H:Hp) (a:Addr) (t:List Nat):Prop:=H a=some (.lst ((nI t).map V.int))\/H a=some (.tup ((nI t).map V.int))
theorem Tn.same {H H':Hp} {a:Addr} {t:List Nat} (h:Tn H a t) (s:Same H H'):Tn H' a t:=h.imp (s _ _) (s _ _)
def Rf (us:List V):Bool:=decide (us.length<=96) && (us.all fun u=>inB u 0 ((us.length:Int) - 1)) && decide us.Nodup
theorem GQ {us:List V} (h:96 < us.length):Rf us=false:=by unfold Rf;rw [Zc (by omega)];rfl
theorem Oa {us:List V} {u:V} (h:u∈us) (hb:inB u 0 ((us.length:Int) - 1)=false):Rf us=false:=by
 unfold Rf
 have:(us.all fun u=>inB u 0 ((us.length:Int) - 1))=false:=List.all_eq_false.mpr ⟨u,h,by rw [hb];simp⟩
 rw [this,Bool.and_false,Bool.false_and]
theorem Ob {us:List V} {k:Nat} {u:V} (h:us[k]?=some u) (hm:u∈us.take k):Rf us=false:=by
 have:¬ us.Nodup:=fun nd=>by
  obtain ⟨i,hi,e⟩:=Aba.mp hm
  obtain ⟨hk,e2⟩:=YW.mp h
  rw [Aap] at hi
  rw [List.getElem_take] at e
  exact List.pairwise_iff_getElem.mp nd i k (by omega) hk (by omega) (e.trans e2.symm)
 unfold Rf
 rw [Zc this,Bool.and_false]
theorem Oc {us:List V} (h:us.length<=96) (hin:∀ u∈us,inB u 0 ((us.length:Int) - 1)=true) (hnd:us.Nodup):Rf us=true:=by
 unfold Rf
 rw [Y9 h,Y9 hnd,gV.mpr hin];rfl
theorem xg {us:List V} {v:V} (h:us.Nodup) (hm:v ∉ us):(us ++ [v]).Nodup:=by
 refine List.nodup_append.mpr ⟨h,by simp,fun a ha b hb=>?_⟩
 rw [ZJ.mp hb]
 exact fun z=>hm (z ▸ ha)
theorem GR {v:V} {h:Int} (hb:inB v 0 h=true):∃ i:Nat,v= .int (i:Int)/\(i:Int)<=h:=by
 cases v with
 | int n=>
  unfold inB at hb
  simp at hb
  exact ⟨n.toNat,by rw [Int.toNat_of_nonneg hb.1],by omega⟩
 | _=>cases hb
def TnK (K:W.Frag) (H:Hp) (v:V) (b:Bool):Prop:=(∃ a us,v= .ref a/\(H a=some (.lst us)\/H a=some (.tup us))/\us.length<=10000/\(∀ u∈us,Kd K H u)/\b=Rf us)\/
 ∃ T,TyOf K H v (.type T)/\PySem.W.kitAny K (.type T) [.type "list",.type "tuple"]=some false/\b=false
theorem Rh {H:Hp} {a:Addr} {t:List Nat} (h:Tn H a t) (hP:Prm t):TnK K H (.ref a) true:=by
 have hle:=hP.le
 refine .inl ⟨a,_,rfl,h,by rw [bw];omega,fun u hu=>?_,?_⟩
 ·obtain ⟨x,_,rfl⟩:=ZP.mp hu
  exact .inl ⟨x,rfl⟩
 ·refine (Oc (by rw [bw];exact hle) (fun u hu=>?_) ?_).symm
  ·obtain ⟨x,hx,rfl⟩:=ZP.mp hu
   unfold nI at hx
   obtain ⟨y,hy,rfl⟩:=ZP.mp hx
   have:=hP.lt hy
   rw [bw]
   unfold inB
   simp;omega
  ·unfold nI List.Nodup
   rw [AaO,List.pairwise_map]
   exact hP.nd.imp fun {x y} h z=>h (by have e:((x:Nat):Int)=((y:Nat):Int):=V.int.inj z;omega)
def V6 (K:W.Frag):Sp:=fun vs H Q _=>∃ (v:V) (b:Bool),vs=[v]/\TnK K H v b/\∀ H',Same H H'->Q (.bl b) H'
theorem mW:aC ["thing","seen","end"] ["thing"] (az oF):=⟨rfl,rfl,rfl,by trivial,rfl,by trivial,by trivial⟩
theorem oO (T:Txt K mg):Has P w K mg base 3 "is_turning" ["thing"] (V6 K):=by
 have iU:=iU (P:=P) (w:=w) (base:=base) T
 refine fj T.d_is_turning mW (fun _ _ _ _ _ _ us hl=>L2.iG (fun _=>rfl) us hl) ?_ fun f cdv A outer s H vs Q E hr h=>?_
 ·rintro vs H Q E ⟨v,bb,rfl,_⟩;rfl
 obtain ⟨v,bb,rfl,h,q⟩:=h
 have hu:=hr.units0
 have hu64:=hr.units
 refine ⟨_,(aA (bJ (mz (oZ (dY (dU (aH (gY (K:=K) rfl) aP T.b_isinstance aV (aa (ao 0) (aa (sU (aa (uq aP T.b_list mq (by trivial) (by trivial)) (aa (uq aP T.b_tuple BJ (by trivial) (by trivial)) aq))) aq)) (by trivial) (by trivial)))) (mQ (bA uM (aH (aK (K:=K) rfl) aP T.b_len bc (aa (ao 0) aq) (by trivial) (by trivial)) (wD aP T.c_MOST_LINES (by trivial)) (by walk_at "p"))))) (aB (aL jM)) bf) (aA (aM (i:=1) mW.nd rfl gH Gq rfl) (aA (jf ZR rfl (iI (K:=K) rfl (ao 0)) (eZ (i:=2) mW.nd rfl gH rfl) (aA (bJ (mz (oZ (dY (dU (aJ iU (hr.mono (by decide)) aP (aa (ao 2) (aa aD (aa (aU mL (aH (aK (K:=K) rfl) aP T.b_len bc (aa (ao 0) aq) (by trivial) (by trivial)) aD) aq))) (by trivial)))) (mQ (bA (MF (K:=K) rfl hu64) (ao 2) (ao 1) (by walk_at "p"))))) (aB (aL jM)) bf) (aB (nR (ts:=tK) jM (q9 (ao 1) (ao 2) (nU hu64)))))) (aB (aL jM))))),?_⟩
 walk_at "s"
 have hs:20000<=sizeLine:=by decide
 rcases h with ⟨a,us,rfl,ha,hlen,hkd,rfl⟩ | ⟨T',hty,hk,rfl⟩
 ·rcases ha with ha | ha
  ·skip
   refine yL rfl fun p np=>?_
   walk_at "s"
   have ha1:upd H p (.tup [.ty "list",.ty "tuple"]) a=some (.lst us):=gW np ha
   refine z8 (.lst ha1) aj rfl (b:=true) (by rfl) ?_
   walk_at "s"
   refine gO (SqL.of ha1) ?_
   walk_at "s"
   by_cases h96:96 < us.length
   ·rw [Y9 (show (96:Int) < (us.length:Int) by omega)]
    rw [GQ h96] at q
    walk_at "s"
    exact q _ ((Same.refl H).upd np)
   rw [Zc (show ¬ (96:Int) < (us.length:Int) by omega)]
   walk_at "s"
   intro d nd
   have S1:Same H (upd (upd H p (.tup [.ty "list",.ty "tuple"])) d (.dK [])):=((Same.refl H).upd np).upd nd
   have hd0:upd (upd H p (.tup [.ty "list",.ty "tuple"])) d (.dK []) d=some (.dK []):=aj
   have nd':H d=none:=Same.back ((Same.refl H).upd np) nd
   generalize upd (upd H p (.tup [.ty "list",.ty "tuple"])) d (.dK [])=H1 at S1 hd0 ⊢
   walk_at "s"
   refine .inl ⟨a,rfl,⟨_,SqL.of (S1 _ _ ha)⟩,?_⟩
   refine mY (xs:=us) (fun k U H'=>∃ (kvs:List (Key×V)) (x2:Option V),U=[some (.ref a),some (.ref d),x2]/\Same H H'/\H' d=some (.dK kvs)/\kvs.length<=k/\(∀ n:Nat,jK kvs (Sum.inl (n:Int))=if V.int (n:Int)∈us.take k then some (.bl true) else none)/\(∀ u∈us.take k,inB u 0 ((us.length:Int) - 1)=true)/\(us.take k).Nodup)
    ⟨[],_,rfl,S1,hd0,by simp,fun n=>by simp [Bm],by simp,by simp⟩ (fun i U H' _ h=>?_) ?_ ?_
   ·obtain ⟨_,_,_,s,_⟩:=h
    exact SqL.of (s _ _ ha)
   ·rintro k v U H' hk ⟨kvs,x2,rfl,s,hd,hkl,hv,hin,hnd⟩
    have hkt:k < us.length:=(YW.mp hk).1
    have hmem:=Y8 hk
    walk_at "s"
    refine gO (SqL.of (s _ _ ha)) ?_
    walk_at "s"
    refine ⟨_,_,_,rfl,(hkd v hmem).same s,?_⟩
    walk_at "s"
    cases hb:inB v 0 ((us.length:Int) - 1) with
    | false=>
     rw [Oa hmem hb] at q
     walk_at "s"
     exact q _ s
    | true=>
     obtain ⟨i,rfl,hi⟩:=GR hb
     walk_at "s"
     refine .inr ⟨d,_,rfl,DGet.k (k:=Sum.inl (i:Int)) hd,?_⟩
     rw [hv i]
     by_cases hm:V.int (i:Int)∈us.take k
     ·rw [if_pos hm,show (some (V.bl true)).isSome=true from rfl]
      rw [Ob hk hm] at q
      walk_at "s"
      exact q _ s
     ·rw [if_neg hm,show (none:Option V).isSome=false from rfl]
      walk_at "s"
      refine .inr ⟨d,_,rfl,DPut.k (k:=Sum.inl (i:Int)) hd (by omega),?_⟩
      have tk:us.take (k+1)=us.take k ++ [V.int (i:Int)]:=by rw [Aal,hk];rfl
      refine ⟨_,_,rfl,Same.put s nd',aj,Zm (jL _ _ _) (by omega),fun n=>?_,fun u hu=>?_,?_⟩
      ·rw [sI,hv n,tk]
       by_cases hn:n=i
       ·subst hn;simp
       ·rw [if_neg (fun z=>hn (by have:=Sum.inl.inj z;omega))]
        have hne:¬ V.int (n:Int)=V.int (i:Int):=fun z=>hn (by have:=V.int.inj z;omega)
        simp [hne]
      ·rw [tk] at hu
       rcases Z0.mp hu with h | h
       ·exact hin u h
       ·rw [ZJ.mp h];exact hb
      ·rw [tk]
       exact xg hnd hm
   ·rintro U H' ⟨kvs,x2,rfl,s,hd,_,_,hin,hnd⟩
    rw [Aah] at hin hnd
    rw [Oc (by omega) hin hnd] at q
    walk_at "s"
    exact q _ s
  ·skip
   refine yL rfl fun p np=>?_
   walk_at "s"
   have ha1:upd H p (.tup [.ty "list",.ty "tuple"]) a=some (.tup us):=gW np ha
   refine z8 (.tup ha1) aj rfl (b:=true) (by rfl) ?_
   walk_at "s"
   refine zL (SqT.of ha1) ?_
   walk_at "s"
   by_cases h96:96 < us.length
   ·rw [Y9 (show (96:Int) < (us.length:Int) by omega)]
    rw [GQ h96] at q
    walk_at "s"
    exact q _ ((Same.refl H).upd np)
   rw [Zc (show ¬ (96:Int) < (us.length:Int) by omega)]
   walk_at "s"
   intro d nd
   have S1:Same H (upd (upd H p (.tup [.ty "list",.ty "tuple"])) d (.dK [])):=((Same.refl H).upd np).upd nd
   have hd0:upd (upd H p (.tup [.ty "list",.ty "tuple"])) d (.dK []) d=some (.dK []):=aj
   have nd':H d=none:=Same.back ((Same.refl H).upd np) nd
   generalize upd (upd H p (.tup [.ty "list",.ty "tuple"])) d (.dK [])=H1 at S1 hd0 ⊢
   walk_at "s"
   refine .inr (.inl ⟨a,rfl,⟨_,SqT.of (S1 _ _ ha)⟩,?_⟩)
   refine Fw (xs:=us) (fun k U H'=>∃ (kvs:List (Key×V)) (x2:Option V),U=[some (.ref a),some (.ref d),x2]/\Same H H'/\H' d=some (.dK kvs)/\kvs.length<=k/\(∀ n:Nat,jK kvs (Sum.inl (n:Int))=if V.int (n:Int)∈us.take k then some (.bl true) else none)/\(∀ u∈us.take k,inB u 0 ((us.length:Int) - 1)=true)/\(us.take k).Nodup)
    ⟨[],_,rfl,S1,hd0,by simp,fun n=>by simp [Bm],by simp,by simp⟩ (fun i U H' _ h=>?_) ?_ ?_
   ·obtain ⟨_,_,_,s,_⟩:=h
    exact SqT.of (s _ _ ha)
   ·rintro k v U H' hk ⟨kvs,x2,rfl,s,hd,hkl,hv,hin,hnd⟩
    have hkt:k < us.length:=(YW.mp hk).1
    have hmem:=Y8 hk
    walk_at "s"
    refine zL (SqT.of (s _ _ ha)) ?_
    walk_at "s"
    refine ⟨_,_,_,rfl,(hkd v hmem).same s,?_⟩
    walk_at "s"
    cases hb:inB v 0 ((us.length:Int) - 1) with
    | false=>
     rw [Oa hmem hb] at q
     walk_at "s"
     exact q _ s
    | true=>
     obtain ⟨i,rfl,hi⟩:=GR hb
     walk_at "s"
     refine .inr ⟨d,_,rfl,DGet.k (k:=Sum.inl (i:Int)) hd,?_⟩
     rw [hv i]
     by_cases hm:V.int (i:Int)∈us.take k
     ·rw [if_pos hm,show (some (V.bl true)).isSome=true from rfl]
      rw [Ob hk hm] at q
      walk_at "s"
      exact q _ s
     ·rw [if_neg hm,show (none:Option V).isSome=false from rfl]
      walk_at "s"
      refine .inr ⟨d,_,rfl,DPut.k (k:=Sum.inl (i:Int)) hd (by omega),?_⟩
      have tk:us.take (k+1)=us.take k ++ [V.int (i:Int)]:=by rw [Aal,hk];rfl
      refine ⟨_,_,rfl,Same.put s nd',aj,Zm (jL _ _ _) (by omega),fun n=>?_,fun u hu=>?_,?_⟩
      ·rw [sI,hv n,tk]
       by_cases hn:n=i
       ·subst hn;simp
       ·rw [if_neg (fun z=>hn (by have:=Sum.inl.inj z;omega))]
        have hne:¬ V.int (n:Int)=V.int (i:Int):=fun z=>hn (by have:=V.int.inj z;omega)
        simp [hne]
      ·rw [tk] at hu
       rcases Z0.mp hu with h | h
       ·exact hin u h
       ·rw [ZJ.mp h];exact hb
      ·rw [tk]
       exact xg hnd hm
   ·rintro U H' ⟨kvs,x2,rfl,s,hd,_,_,hin,hnd⟩
    rw [Aah] at hin hnd
    rw [Oc (by omega) hin hnd] at q
    walk_at "s"
    exact q _ s
 ·refine yL rfl fun p np=>?_
  walk_at "s"
  refine z8 (hty.mono fun b o e _=>gW np e) aj rfl hk ?_
  walk_at "s"
  exact q _ ((Same.refl H).upd np)
def Ri (K:W.Frag):Sp:=fun vs H Q _=>∃ (a:Addr) (t:List Nat),vs=[.ref a]/\Tn H a t/\Prm t/\∀ H',Same H H'->Q .non H'
theorem vq:aC ["thing"] ["thing"] (az lK):=⟨rfl,rfl,rfl,by trivial,rfl,by trivial,by trivial⟩
theorem bh (T:Txt K mg):Has P w K mg base 4 "need_turning" ["thing"] (Ri K):=by
 have oO:=oO (P:=P) (w:=w) (base:=base) T
 refine fj T.d_need_turning vq (fun _ _ _ _ _ _ us hl=>L2.iG (fun _=>rfl) us hl) ?_ fun f cdv A outer s H vs Q E hr h=>?_
 ·rintro vs H Q E ⟨a,t,rfl,_⟩;rfl
 obtain ⟨a,t,rfl,ha,hP,q⟩:=h
 have hu:=hr.units0
 have hu64:=hr.units
 refine ⟨_,(aB (bJ (dY (dU (aJ oO (hr.mono (by decide)) aP (aa (ao 0) aq) (by trivial)))) (aB jN) bf)),?_⟩
 walk_at "s"
 refine ⟨.ref a,true,rfl,Rh ha hP,fun H1 S1=>?_⟩
 walk_at "s"
 walk_at "s"
 exact q H1 S1
theorem V7 (n:Nat):((List.range n).map fun i:Nat=>V.int (0+(i:Int)*1))=(nI (List.range n)).map V.int:=by
 unfold nI
 rw [AaO]
 refine AaQ fun x _=>?_
 show V.int (0+(x:Int)*1)=V.int (x:Int)
 congr 1;omega
def Ff:Sp:=fun vs H Q _=>∃ n:Nat,vs=[.int n]/\n<=96/\∀ q H',H q=none->Same H H'->H' q=some (.lst ((nI (List.range n)).map V.int))->Q (.ref q) H'
theorem CG:aC ["many"] ["many"] (az rH):=⟨rfl,rfl,rfl,by trivial,rfl,by trivial,by trivial⟩
theorem fH (T:Txt K mg):Has P w K mg base 4 "straight" ["many"] Ff:=by
 have dN:=dN (P:=P) (w:=w) (base:=base) T
 refine fj T.d_straight CG (fun _ _ _ _ _ _ us hl=>L2.iG (fun _=>rfl) us hl) ?_ fun f cdv A outer s H vs Q E hr h=>?_
 ·rintro vs H Q E ⟨n,rfl,_⟩;rfl
 obtain ⟨n,rfl,hn,q⟩:=h
 have hu:=hr.units0
 have hu64:=hr.units
 refine ⟨_,(aA (aY (tD dN (hr.mono (by decide)) aP (jg fun _ _=>rfl) (aa (ao 0) (aa aD (aa (wD aP T.c_MOST_LINES (by trivial)) aq))) (by trivial))) (aB (aL (Eo rfl aP T.b_list aP T.b_range (aa (ao 0) aq))))),?_⟩
 walk_at "s"
 refine Cz (by omega) (by omega) ?_
 walk_at "s"
 refine QJ (n:=n) (by omega) ?_
 walk_at "s"
 intro p np
 rw [V7]
 exact q p _ np ((Same.refl H).upd np) aj
def Yp:Sp:=fun vs H Q _=>∃ (a:Addr) (t:List Nat),vs=[.ref a]/\H a=some (.lst ((nI t).map V.int))/\Prm t/\∀ q H',H q=none->Same H H'->H' q=some (.lst ((nI (inv t)).map V.int))->Q (.ref q) H'
theorem mF:aC ["turning","begins","begin","end"] ["turning"] (az rJ):=⟨rfl,rfl,rfl,by trivial,rfl,by trivial,by trivial⟩
theorem iQ (T:Txt K mg):Has P w K mg base 5 "opposite" ["turning"] Yp:=by
 have bh:=bh (P:=P) (w:=w) (base:=base) T
 refine fj T.d_opposite mF (fun _ _ _ _ _ _ us hl=>L2.iG (fun _=>rfl) us hl) ?_ fun f cdv A outer s H vs Q E hr h=>?_
 ·rintro vs H Q E ⟨a,t,rfl,_⟩;rfl
 obtain ⟨a,t,rfl,ha,hP,q⟩:=h
 have hu:=hr.units0
 have hu64:=hr.units
 refine ⟨_,(aA (aY (aJ bh (hr.mono (by decide)) aP (aa (ao 0) aq) (by trivial))) (aA (aM (i:=1) mF.nd rfl gH (aU j5 (jd (aa aD aq)) (aH (aK (K:=K) rfl) aP T.b_len bc (aa (ao 0) aq) (by trivial) (by trivial))) rfl) (aA (jf ZR rfl (zP (K:=K) rfl rfl aP T.b_enumerate (aa (ao 0) aq)) (Ef (K:=K) rfl rfl (m8 (eZ (i:=2) mF.nd rfl gH rfl) (m8 (eZ (i:=3) mF.nd rfl gH rfl) zO))) (aB (nR (ts:=tK) (ao 2) (q9 (ao 1) (ao 3) (nU hu64))))) (aB (aL (ao 1)))))),?_⟩
 walk_at "s"
 have hs:20000<=sizeLine:=by decide
 have hle:=hP.le
 refine ⟨_,t,rfl,.inl ha,hP,fun H1 S1=>?_⟩
 walk_at "s"
 ·skip
  refine yL rfl fun p np=>?_
  walk_at "s"
  refine gO (SqL.of (gW np (S1 _ _ ha))) ?_
  walk_at "s"
  rw [bw]
  refine Lr (k:=(t.length:Int)) aj (by omega) (by omega) (by simp;omega) fun b nb=>?_
  walk_at "s"
  have S2:Same H (upd (upd H1 p (.lst [.int 0])) b (.lst (List.replicate ((t.length:Int)).toNat [V.int 0]).flatten)):=(S1.upd np).upd nb
  have nb0:H b=none:=Same.back (S1.upd np) nb
  have hb0:upd (upd H1 p (.lst [.int 0])) b (.lst (List.replicate ((t.length:Int)).toNat [V.int 0]).flatten) b=some (.lst ((nI (List.replicate t.length 0)).map V.int)):=by
   rw [aj]
   congr 2
   unfold nI
   rw [List.map_replicate,List.map_replicate,show ((t.length:Int)).toNat=t.length by omega]
   generalize t.length=n
   induction n with
   | zero=>rfl
   | succ n ih=>rw [Aaa,Aa7,ih,Aaa];rfl
  generalize upd (upd H1 p (.lst [.int 0])) b (.lst (List.replicate ((t.length:Int)).toNat [V.int 0]).flatten)=H2 at S2 hb0 ⊢
  refine .inr ⟨a,_,rfl,SqL.of (S2 _ _ ha),?_⟩
  refine yG (K:=K) (xs:=(nI t).map V.int) (fun k U H'=>∃ (r:List Nat) (x2 x3:Option V),U=[some (.ref a),some (.ref b),x2,x3]/\Same H H'/\H' b=some (.lst ((nI r).map V.int))/\r.length=t.length/\∀ (i x:Nat),i < k->t[i]?=some x->r[x]?=some i)
   ⟨List.replicate t.length 0,_,_,rfl,S2,hb0,by simp,fun i x h=>by omega⟩ (fun i U H' _ h=>?_) ?_ ?_
  ·obtain ⟨_,_,_,_,s,_⟩:=h
   exact SqL.of (s _ _ ha)
  ·rintro k U H' T v hk ⟨r,x2,x3,rfl,s,hb,hrl,hr⟩ nT
   obtain ⟨i,hi,rfl⟩:=yZ hk
   have hit:=hP.lt (Y8 hi)
   refine b7 (SqT.of aj) rfl ?_
   walk_at "s"
   refine tM (gW nT hb) (Cy (p:=i) rfl (by rw [bw];omega)) ?_
   walk_at "s"
   rw [xf]
   refine ⟨r.set i k,_,_,rfl,Same.put (s.upd nT) nb0,aj,by simp;omega,fun j x hj e=>?_⟩
   by_cases hjk:j=k
   ·subst hjk
    rw [hi] at e
    cases e
    rw [ZW (by omega)]
   ·have hx:x≠i:=fun z=>hjk (by
     subst z
     have h1:=iM hP.nd e
     have h2:=iM hP.nd hi
     omega)
    rw [ZD (fun z=>hx z.symm)]
    exact hr j x (by omega) e
  ·rintro U H' ⟨r,x2,x3,rfl,s,hb,hrl,hr⟩
   walk_at "s"
   rw [bw] at hr
   have e:=uz hP hrl fun i x h=>hr i x (YW.mp h).1 h
   rw [e] at hb
   exact q b _ nb0 s hb
end
local macro_rules | `(tactic| walk_at "s") => `(tactic| (with_reducible repeat (first | refine lC ?_ | walk_at "1")))
local macro_rules | `(tactic| walk_at "n") => `(tactic| (with_reducible repeat (walk_at "1")))
section
variable {P:Program} {w:World} {K:W.Frag} {mg:Str->Option Value} {base:Heap}
def spDo (K:W.Frag):Sp:=fun vs H Q _=>∃ (bg st:Addr) (E ps:List Nat),vs=[.ref bg,.ref st]/\H bg=some (.lst ((nI E).map V.int))/\H st=some (.lst ((nI ps).map V.int))/\bg≠st/\(∀ p∈ps,p+1 < E.length)/\ps.length<=6000/\
 ∀ q H',H q=none->Chg bg H H'->H' bg=some (.lst ((nI (bx E ps)).map V.int))->H' q=some (.lst ((nI (Nt E ps ps.length)).map V.int))->Q (.ref q) H'
theorem iV:aC ["begins","steps","working","place","step","lesser","greater"] ["begins","steps"] (az rK):=⟨rfl,rfl,rfl,by trivial,rfl,by trivial,by trivial⟩
theorem rP (T:Txt K mg):Has P w K mg base 1 "do_steps" ["begins","steps"] (spDo K):=by
 refine fj T.d_do_steps iV (fun _ _ _ _ _ _ us hl=>L2.nP (fun _ _=>rfl) us hl) ?_ fun f cdv A outer s H vs Q E hr h=>?_
 ·rintro vs H Q E ⟨bg,st,E,ps,rfl,_⟩;rfl
 obtain ⟨bg,st,E,ps,rfl,hb,hst,hne,hp,hpl,q⟩:=h
 have hu:=hr.units0
 have hu64:=hr.units
 refine ⟨_,(aA (aM (i:=2) iV.nd rfl gH (jd aq) rfl) (aA (jf ZR rfl (zP (K:=K) rfl rfl aP T.b_enumerate (aa (ao 1) aq)) (Ef (K:=K) rfl rfl (m8 (eZ (i:=3) iV.nd rfl gH rfl) (m8 (eZ (i:=4) iV.nd rfl gH rfl) zO))) (aA (aM (i:=5) iV.nd rfl gH (pL (K:=K) rfl (ao 0) (ao 4)) rfl) (aA (aM (i:=6) iV.nd rfl gH (pL (K:=K) rfl (ao 0) (aU aN (ao 4) aD)) rfl) (aB (bJ (bA Be (ao 5) (ao 6) (by walk_at "p")) (aA (nR (ts:=tK) (ao 6) (q9 (ao 0) (ao 4) (nU hu64))) (aA (nR (ts:=tK) (ao 5) (q9 (ao 0) (aU aN (ao 4) aD) (nU hu64))) (aB (aY (Ed (K:=K) rfl AaV PySem.F.slot_list_append PySem.F.type_list_append uo (ao 2) (aa (ao 3) aq)))))) bf))))) (aB (aL (ao 2))))),?_⟩
 walk_at "s"
 have hs:20000<=sizeLine:=by decide
 refine yL rfl fun wk nwk=>?_
 walk_at "s"
 have wb:wk≠bg:=fun z=>by rw [z,hb] at nwk;cases nwk
 have ws:wk≠st:=fun z=>by rw [z,hst] at nwk;cases nwk
 refine .inr ⟨st,_,rfl,SqL.of (gW nwk hst),?_⟩
 refine yG (K:=K) (xs:=(nI ps).map V.int) (fun k U H'=>∃ (x3 x4 x5 x6:Option V),U=[some (.ref bg),some (.ref st),some (.ref wk),x3,x4,x5,x6]/\Chg bg H H'/\H' st=some (.lst ((nI ps).map V.int))/\H' bg=some (.lst ((nI (bx E (ps.take k))).map V.int))/\H' wk=some (.lst ((nI (Nt E ps k)).map V.int)))
  ⟨_,_,_,_,rfl,(Chg.refl bg H).new nwk,gW nwk hst,gW nwk hb,aj⟩ (fun i U H' _ h=>?_) ?_ ?_
 ·obtain ⟨_,_,_,_,_,_,h,_⟩:=h
  exact SqL.of h
 ·rintro k U H' T v hk ⟨x3,x4,x5,x6,rfl,c,hst',hb',hw'⟩ nT
  obtain ⟨p,hpk,rfl⟩:=yZ hk
  have hkl:k < ps.length:=(YW.mp hpk).1
  have hpd:ps.getD k 0=p:=by rw [YZ,hpk];rfl
  have hpE:p+1 < (bx E (ps.take k)).length:=by rw [lJ];exact hp p (Y8 hpk)
  have tk:ps.take (k+1)=ps.take k ++ [p]:=by rw [uy hkl,hpd]
  have wsu:=Cg E ps k
  rw [hpd] at wsu
  have wl:=Q6 E ps k
  have c1:Chg bg H (upd H' T (.tup [.int k,.int p])):=c.new nT
  have hT:upd H' T (.tup [.int k,.int p]) T=some (.tup [.int k,.int p]):=aj
  have hst1:=gW nT (o:=.tup [.int k,.int p]) hst'
  have hb1:=gW nT (o:=.tup [.int k,.int p]) hb'
  have hw1:=gW nT (o:=.tup [.int k,.int p]) hw'
  generalize upd H' T (.tup [.int k,.int p])=H1 at c1 hT hst1 hb1 hw1 ⊢
  have eR:bx E (ps.take (k+1))=aW (bx E (ps.take k)) p:=by rw [tk,ni]
  generalize bx E (ps.take k)=F at hpE hb1 eR wsu
  refine b7 (SqT.of hT) rfl ?_
  walk_at "s"
  refine bZ (SqL.of hb1) (za (k:=p) (by omega) rfl) ?_
  walk_at "s"
  refine bZ (SqL.of hb1) (za (k:=p+1) (by omega) (by omega)) ?_
  walk_at "s"
  have ew:tR F p=decide (((F.getD p 0:Nat):Int) < ((F.getD (p+1) 0:Nat):Int)):=by unfold tR;exact decide_eq_decide.mpr (by omega)
  rw [← ew]
  refine iteB (fun hw=>?_) (fun hw=>?_)
  ·rw [if_pos hw] at wsu
   walk_at "s"
   refine tM hb1 (Cy (p:=p) rfl (by rw [bw];omega)) ?_
   walk_at "s"
   rw [xf]
   refine tM aj (Cy (p:=p+1) (by omega) (by rw [bw];simp;omega)) ?_
   walk_at "s"
   rw [xf,O6]
   have hw2:upd H1 bg (.lst ((nI ((F.set p (F.getD (p+1) 0)).set (p+1) (F.getD p 0))).map V.int)) wk=some (.lst ((nI (Nt E ps k)).map V.int)):=by rw [aG wb];exact hw1
   refine ⟨.inl ⟨rfl,_,SqL.of hw2⟩,?_⟩
   walk_at "s"
   refine sW hw2 (by rw [bw];omega) ?_
   walk_at "s"
   rw [Al]
   refine ⟨_,_,_,_,rfl,?_,?_,?_,?_⟩
   ·intro b o nb e
    have nw:b≠wk:=fun z=>by rw [z,nwk] at e;cases e
    rw [aG nw,aG nb]
    exact c1 b o nb e
   ·rw [aG (Ne.symm ws),aG (Ne.symm hne)];exact hst1
   ·rw [aG (Ne.symm wb),aj,eR]
    unfold aW
    rw [if_pos hw]
   ·rw [aj,wsu]
  ·rw [if_neg (by rw [hw];simp),ZV] at wsu
   walk_at "s"
   refine ⟨_,_,_,_,rfl,c1,hst1,?_,?_⟩
   ·rw [hb1,eR]
    unfold aW
    rw [if_neg (by rw [hw];simp)]
   ·rw [hw1,wsu]
 ·rintro U H' ⟨x3,x4,x5,x6,rfl,c,hst',hb',hw'⟩
  rw [bw] at hb' hw'
  rw [Aah] at hb'
  walk_at "s"
  exact q wk H' nwk c hb' hw'
def MR (r:R2):Prop:=∀ x y H Q Q',(∀ v H1,Q v H1->Q' v H1)->r x y H Q->r x y H Q'
def ME (te:TE):Prop:=∀ U H Q Q',(∀ v H1,Q v H1->Q' v H1)->te U H Q->te U H Q'
def MT (te:TT):Prop:=∀ U H Q Q',(∀ v H1,Q v H1->Q' v H1)->te U H Q->te U H Q'
theorem Tg (g:Int->Int->V):MR (Ko g):=by
 rintro x y H Q Q' h ⟨i,j,e1,e2,q⟩
 exact ⟨i,j,e1,e2,h _ _ q⟩
theorem Ti:MR (R6 K):=by
 rintro x y H Q Q' h (⟨p,xs,i,v,a,b,c,d,q⟩ | ⟨p,xs,i,v,a,b,c,d,q⟩ | ⟨z,i,c,a,b,d,e,q⟩)
 ·exact .inl ⟨p,xs,i,v,a,b,c,d,h _ _ q⟩
 ·exact .inr (.inl ⟨p,xs,i,v,a,b,c,d,h _ _ q⟩)
 ·exact .inr (.inr ⟨z,i,c,a,b,d,e,h _ _ q⟩)
theorem Rj:MR Bx:=by
 rintro x y H Q Q' h (⟨i,j,a,b,q⟩ | ⟨i,j,a,b,c,q⟩ | ⟨p,q',xs,ys,a,b,c,d,e,q⟩)
 ·exact .inl ⟨i,j,a,b,h _ _ q⟩
 ·exact .inr (.inl ⟨i,j,a,b,c,h _ _ q⟩)
 ·exact .inr (.inr ⟨p,q',xs,ys,a,b,c,d,e,fun r hr=>h _ _ (q r hr)⟩)
theorem xj (i:Nat):ME (qW i):=by
 rintro U H Q Q' h ⟨v,e,q⟩
 exact ⟨v,e,h _ _ q⟩
theorem Yq (v:V):ME (tC v):=fun U H Q Q' h q=>h _ _ q
theorem CJ {r:R2} {ta tb:TE} (hr:MR r) (ha:ME ta) (hb:ME tb):ME (Km r ta tb):=fun U H Q Q' h q=>ha U H _ _ (fun x H1 q1=>hb U H1 _ _ (fun y H2 q2=>hr _ _ _ _ _ h q2) q1) q
theorem GX {te:TE} (h:ME te):MT (ym te):=fun U H Q Q' hq q=>h U H _ _ (fun x H1 ⟨k,e,q1⟩=>⟨k,e,hq _ _ q1⟩) q
theorem V8 {t u:TT} (h:MT t) (h2:MT u):MT (O9 t u):=fun U H Q Q' hq q=>h U H _ _ (fun c H1 q1=>by
 cases c with
 | true=>rw [if_pos rfl] at q1 ⊢;exact h2 _ _ _ _ hq q1
 | false=>rw [if_neg Y6] at q1 ⊢;exact hq _ _ q1) q
def mu4 (U:St) (_:Hp):Nat:=match U[4]? with
 | some (some (V.int z))=>(z+1).toNat
 | _=>0
theorem uZ:∀ (p:Nat) (B u:List Nat),(inn p B u).1.length=B.length
 | 0,_,_=>rfl
 | p+1,B,u=>by
  unfold inn
  split
  ·rw [uZ p,n6]
  ·rfl
theorem u0:∀ (p:Nat) (B u:List Nat),(inn p B u).2.length<=u.length+p
 | 0,_,_=>Y4 _
 | p+1,B,u=>by
  unfold inn
  split
  ·have:=u0 p (xG B p) (u ++ [p])
   rw [Z2,List.length_singleton] at this
   omega
  ·exact Aar _ _
theorem u5 (B:List Nat):∀ k,(uA B k).1.length=B.length
 | 0=>rfl
 | k+1=>(uZ _ _ _).trans (u5 B k)
theorem u6 (B:List Nat):∀ k,k<=96->(uA B k).2.length<=96*k
 | 0,_=>Y4 _
 | k+1,h=>by
  have h1:=u0 (k+1) (uA B k).1 (uA B k).2
  have h2:=u6 B k (by omega)
  show (inn (k+1) (uA B k).1 (uA B k).2).2.length<=_
  omega
def Jw:Sp:=fun vs H Q _=>∃ (a:Addr) (t:List Nat),vs=[.ref a]/\H a=some (.lst ((nI t).map V.int))/\Prm t/\∀ q H',H q=none->Same H H'->H' q=some (.lst ((nI (Jr t).reverse).map V.int))->Q (.ref q) H'
theorem gQ:aC ["turning","begins","undone","place","step","greater"] ["turning"] (az rM):=⟨rfl,rfl,rfl,by trivial,rfl,by trivial,by trivial⟩
theorem rQ (T:Txt K mg):Has P w K mg base 6 "steps_of" ["turning"] Jw:=by
 have iQ:=iQ (P:=P) (w:=w) (base:=base) T
 refine fj T.d_steps_of gQ (fun _ _ _ _ _ _ us hl=>L2.iG (fun _=>rfl) us hl) ?_ fun f cdv A outer s H vs Q E hr h=>?_
 ·rintro vs H Q E ⟨a,t,rfl,_⟩;rfl
 obtain ⟨a,t,rfl,hT,hP,q⟩:=h
 have hu:=hr.units0
 have hu64:=hr.units
 refine ⟨_,(aA (aM (i:=1) gQ.nd rfl gH (aJ iQ (hr.mono (by decide)) aP (aa (ao 0) aq) (by trivial)) rfl) (aA (aM (i:=2) gQ.nd rfl gH (jd aq) rfl) (aA (jf ZR rfl (Il aP T.b_range (aa aD (aa (aH (aK (K:=K) rfl) aP T.b_len bc (aa (ao 1) aq) (by trivial) (by trivial)) aq))) (eZ (i:=3) gQ.nd rfl gH rfl) (aA (aM (i:=4) gQ.nd rfl gH (aU mL (ao 3) aD) rfl) (aB (Lq ZR (mz (zN (bA R4 (ao 4) aD (by walk_at "p")) (vK (bA uM (pL (K:=K) rfl (ao 1) (ao 4)) (pL (K:=K) rfl (ao 1) (aU aN (ao 4) aD)) (by walk_at "p"))))) (aA (aM (i:=5) gQ.nd rfl gH (pL (K:=K) rfl (ao 1) (ao 4)) rfl) (aA (nR (ts:=tK) (pL (K:=K) rfl (ao 1) (aU aN (ao 4) aD)) (q9 (ao 1) (ao 4) (nU hu64))) (aA (nR (ts:=tK) (ao 5) (q9 (ao 1) (aU aN (ao 4) aD) (nU hu64))) (aA (aY (Ed (K:=K) rfl AaV PySem.F.slot_list_append PySem.F.type_list_append uo (ao 2) (aa (ao 4) aq))) (aB (VN (i:=4) gQ.nd rfl gH aD Py rfl)))))))))) (aB (aL (yH (K:=K) rfl rfl aP T.b_list aP T.b_reversed (ao 2))))))),?_⟩
 walk_at "s"
 have hs:20000<=sizeLine:=by decide
 have hle:=hP.le
 have il:=bI t
 refine ⟨a,t,rfl,hT,hP,fun b H1 nb S1 hb=>?_⟩
 walk_at "s"
 refine yL rfl fun ud nud=>?_
 walk_at "s"
 have nud0:=Same.back S1 nud
 have bu:b≠ud:=fun z=>by rw [z,nud] at hb;cases hb
 refine gO (SqL.of (gW nud hb)) ?_
 walk_at "s"
 rw [bw]
 refine ⟨⟨by omega,by omega,by omega,by omega⟩,?_⟩
 rw [show (((inv t).length:Int) - 1).toNat=t.length - 1 by omega]
 refine ug (n:=t.length - 1) (fun k U H'=>∃ (x3 x4 x5:Option V),U=[some (.ref a),some (.ref b),some (.ref ud),x3,x4,x5]/\Same H H'/\H' b=some (.lst ((nI (uA (inv t) k).1).map V.int))/\H' ud=some (.lst ((nI (uA (inv t) k).2).map V.int)))
  ⟨_,_,_,rfl,S1.upd nud,gW nud hb,aj⟩ ?_ ?_
 ·rintro k U H' hk ⟨x3,x4,x5,rfl,s,hb1,hu1⟩
  walk_at "s"
  have ol:=u5 (inv t) k
  have ul:=u6 (inv t) k (by omega)
  refine Kl (fun U H'=>∃ (p:Nat) (B u:List Nat) (x5:Option V),U=[some (.ref a),some (.ref b),some (.ref ud),some (.int (1+(k:Int))),some (.int ((p:Int) - 1)),x5]/\Same H H'/\H' b=some (.lst ((nI B).map V.int))/\H' ud=some (.lst ((nI u).map V.int))/\p<=k+1/\B.length=t.length/\u.length+p<=96*k+k+1/\inn p B u=uA (inv t) (k+1)) mu4
   ⟨k+1,_,_,x5,by rw [show (((k+1:Nat):Int) - 1)=1+(k:Int) - 1 by omega];rfl,s,hb1,hu1,Y4 _,by omega,by omega,rfl⟩ ?_ ?_
  ·rintro U H' ⟨p,B,u,x5,rfl,s,hb2,hu2,hp,hB,hul,hin⟩
   walk_at "s"
   cases p with
   | zero=>
    rw [Zc (by omega)]
    walk_at "s"
    exact ⟨_,_,_,rfl,s,by rw [← hin];exact hb2,by rw [← hin];exact hu2⟩
   | succ p=>
    rw [show (((p+1:Nat):Int) - 1)=(p:Int) by omega,Y9 (show (0:Int)<=(p:Int) by omega)]
    walk_at "s"
    refine bZ (SqL.of hb2) (za (k:=p) (by omega) rfl) ?_
    walk_at "s"
    refine bZ (SqL.of hb2) (za (k:=p+1) (by omega) (by omega)) ?_
    walk_at "s"
    refine pA (fun hc=>?_) (fun hc=>?_)
    ·have hin2:inn p (xG B p) (u ++ [p])=uA (inv t) (k+1):=by
      rw [← hin]
      conv=>rhs;unfold inn
      rw [if_pos (by omega)]
     walk_at "s"
     refine bZ (SqL.of hb2) (za (k:=p) (by omega) rfl) ?_
     walk_at "s"
     refine bZ (SqL.of hb2) (za (k:=p+1) (by omega) (by omega)) ?_
     walk_at "s"
     refine tM hb2 (Cy (p:=p) rfl (by rw [bw];omega)) ?_
     walk_at "s"
     rw [xf]
     refine tM aj (Cy (p:=p+1) (by omega) (by rw [bw];simp;omega)) ?_
     walk_at "s"
     rw [xf]
     have s3:Same H (upd (upd H' b (.lst ((nI (B.set p (B.getD (p+1) 0))).map V.int))) b (.lst ((nI ((B.set p (B.getD (p+1) 0)).set (p+1) (B.getD p 0))).map V.int))):=Same.put (Same.put s nb) nb
     have hb3:upd (upd H' b (.lst ((nI (B.set p (B.getD (p+1) 0))).map V.int))) b (.lst ((nI ((B.set p (B.getD (p+1) 0)).set (p+1) (B.getD p 0))).map V.int)) b=some (.lst ((nI (xG B p)).map V.int)):=aj
     have hu3:upd (upd H' b (.lst ((nI (B.set p (B.getD (p+1) 0))).map V.int))) b (.lst ((nI ((B.set p (B.getD (p+1) 0)).set (p+1) (B.getD p 0))).map V.int)) ud=some (.lst ((nI u).map V.int)):=by rw [aG (Ne.symm bu),aG (Ne.symm bu)];exact hu2
     generalize upd (upd H' b (.lst ((nI (B.set p (B.getD (p+1) 0))).map V.int))) b (.lst ((nI ((B.set p (B.getD (p+1) 0)).set (p+1) (B.getD p 0))).map V.int))=H3 at s3 hb3 hu3 ⊢
     refine ⟨.inl ⟨rfl,_,SqL.of hu3⟩,?_⟩
     walk_at "s"
     refine sW hu3 (by rw [bw];omega) ?_
     walk_at "s"
     rw [Al]
     refine ⟨⟨p,xG B p,u ++ [p],_,rfl,Same.put s3 nud0,by rw [aG bu];exact hb3,aj,by omega,by rw [n6];exact hB,by simp;omega,hin2⟩,?_⟩
     show ((p:Int) - 1+1).toNat < ((p:Int)+1).toNat
     omega
    ·have hin2:(B,u)=uA (inv t) (k+1):=by
      rw [← hin]
      conv=>rhs;unfold inn
      rw [if_neg (by omega)]
     walk_at "s"
     exact ⟨_,_,_,rfl,s,by rw [← hin2];exact hb2,by rw [← hin2];exact hu2⟩
  ·exact V8 (GX (CJ (Tg _) (xj _) (Yq _))) (GX (CJ (Tg _) (CJ Ti (xj _) (xj _)) (CJ Ti (xj _) (CJ Rj (xj _) (Yq _)))))
 ·rintro U H' ⟨x3,x4,x5,rfl,s,hb1,hu1⟩
  walk_at "s"
  refine ⟨_,rfl,_,_,rfl,SqL.of hu1,fun r nr=>?_⟩
  refine q r _ (Same.back s nr) (s.upd nr) ?_
  rw [aj]
  unfold nI Jr
  rw [List.map_reverse,List.map_reverse]
def Rk (K:W.Frag):Sp:=fun vs H Q _=>∃ a b x y,vs=[.ref a,.ref b]/\H a=some (.lst ((nI x).map V.int))/\H b=some (.lst ((nI y).map V.int))/\Prm x/\Prm y/\x.length=y.length/\∀ H',Same H H'->Q .non H'
theorem xT:aC ["one","other"] ["one","other"] (az oG):=⟨rfl,rfl,rfl,by trivial,rfl,by trivial,by trivial⟩
theorem oR (T:Txt K mg):Has P w K mg base 5 "need_alike" ["one","other"] (Rk K):=by
 have bh:=bh (P:=P) (w:=w) (base:=base) T
 refine fj T.d_need_alike xT (fun _ _ _ _ _ _ us hl=>L2.nP (fun _ _=>rfl) us hl) ?_ fun f cdv A outer s H vs Q E hr h=>?_
 ·rintro vs H Q E ⟨a,b,x,y,rfl,_⟩;rfl
 obtain ⟨a,b,x,y,rfl,ha,hb,px,py,he,q⟩:=h
 have hu:=hr.units0
 have hu64:=hr.units
 refine ⟨_,(aA (aY (aJ bh (hr.mono (by decide)) aP (aa (ao 0) aq) (by trivial))) (aA (aY (aJ bh (hr.mono (by decide)) aP (aa (ao 1) aq) (by trivial))) (aB (bJ (bA (Eh (K:=K) rfl hu64) (aH (aK (K:=K) rfl) aP T.b_len bc (aa (ao 0) aq) (by trivial) (by trivial)) (aH (aK (K:=K) rfl) aP T.b_len bc (aa (ao 1) aq) (by trivial) (by trivial)) (by walk_at "p")) (aB jN) bf)))),?_⟩
 walk_at "s"
 refine ⟨a,x,rfl,.inl ha,px,fun H1 S1=>?_⟩
 walk_at "s"
 refine ⟨b,y,rfl,.inl (S1 _ _ hb),py,fun H2 S2=>?_⟩
 walk_at "s"
 have U2:=S1.trans S2
 refine gO (SqL.of (U2 _ _ ha)) ?_
 walk_at "s"
 refine gO (SqL.of (U2 _ _ hb)) ?_
 walk_at "s"
 rw [bw,bw,N8,Y9 (show (x.length:Int)=(y.length:Int) by omega)]
 walk_at "s"
 exact q _ U2
def V9 (K:W.Frag):Sp:=fun vs H Q _=>∃ a b x y n,vs=[.ref a,.ref b]/\H a=some (.lst ((nI x).map V.int))/\H b=some (.lst ((nI y).map V.int))/\Two n x y/\∀ q H',H q=none->Same H H'->H' q=some (.lst ((nI (lay x y)).map V.int))->Q (.ref q) H'
theorem GZ:aC ["one","other","begins"] ["one","other"] (az Fb):=⟨rfl,rfl,rfl,by trivial,rfl,by trivial,by trivial⟩
theorem uG (T:Txt K mg):Has P w K mg base 7 "laid" ["one","other"] (V9 K):=by
 have oR:=oR (P:=P) (w:=w) (base:=base) T
 have iQ:=iQ (P:=P) (w:=w) (base:=base) T
 have rP:=rP (P:=P) (w:=w) (base:=base) T
 have rQ:=rQ (P:=P) (w:=w) (base:=base) T
 refine fj T.d_laid GZ (fun _ _ _ _ _ _ us hl=>L2.nP (fun _ _=>rfl) us hl) ?_ fun f cdv A outer s H vs Q E hr h=>?_
 ·rintro vs H Q E ⟨a,b,x,y,n,rfl,_⟩;rfl
 obtain ⟨a,b,x,y,n,rfl,ha,hb,h2,q⟩:=h
 have hu:=hr.units0
 have hu64:=hr.units
 refine ⟨_,(aA (aY (aJ oR (hr.mono (by decide)) aP (aa (ao 0) (aa (ao 1) aq)) (by trivial))) (aA (aM (i:=2) GZ.nd rfl gH (aJ iQ (hr.mono (by decide)) aP (aa (ao 0) aq) (by trivial)) rfl) (aA (aY (aJ rP (hr.mono (by decide)) aP (aa (ao 2) (aa (aJ rQ (hr.mono (by decide)) aP (aa (ao 1) aq) (by trivial)) aq)) (by trivial))) (aB (aL (aJ iQ (hr.mono (by decide)) aP (aa (ao 2) aq) (by trivial))))))),?_⟩
 walk_at "s"
 have cl:=Yk h2.py.le
 refine ⟨a,b,x,y,rfl,ha,hb,h2.px,h2.py,by rw [h2.lx,h2.ly],fun H1 S1=>?_⟩
 walk_at "s"
 refine ⟨a,x,rfl,S1 _ _ ha,h2.px,fun bg H2 nb S2 hb2=>?_⟩
 walk_at "s"
 refine ⟨b,y,rfl,(S1.trans S2) _ _ hb,h2.py,fun st H3 nst S3 hst=>?_⟩
 walk_at "s"
 have nb0:=Same.back S1 nb
 have hne:bg≠st:=fun z=>by rw [z] at hb2;rw [hb2] at nst;cases nst
 refine ⟨bg,st,inv x,(Jr y).reverse,rfl,S3 _ _ hb2,hst,hne,(fun p hp=>by rw [bI,h2.lx];exact h2.lt p hp),(by rw [Ra h2.py];exact cl),fun wk H4 nwk C4 hb4 hw4=>?_⟩
 walk_at "s"
 have S4:Same H H4:=fun c o e=>C4 c o (fun z=>by rw [z,nb0] at e;cases e) (S3 _ _ (S2 _ _ (S1 _ _ e)))
 refine ⟨bg,_,rfl,hb4,h2.run.1,fun r H5 nr S5 hr=>?_⟩
 exact q r H5 (Same.back S4 nr) (S4.trans S5) hr
end
local macro_rules | `(tactic| walk_at "s") => `(tactic| (with_reducible repeat (first | refine lC ?_ | walk_at "2")))
local macro_rules | `(tactic| walk_at "n") => `(tactic| (with_reducible repeat (walk_at "2")))
section
variable {P:Program} {w:World} {K:W.Frag} {mg:Str->Option Value} {base:Heap}
theorem CK:(["sign"]:List Str).Nodup:=by trivial
def tW:Str:=Str.ofString "abcdefghijklmnopqrstuvwxyz"
def GOOD:List Nat:=(tW ++ Str.ofString ".").cps.toList
def Row (z:Str):Prop:=z.length<=48/\∀ c∈z.cps.toList,c∈GOOD
def uH (l:Str) (c:Nat):Bool:=(Builtin.Str.occurrences l ⟨#[c]⟩ 0 l.length 1).isEmpty
theorem Rm:∀ c∈GOOD,uH (tW ++ Str.ofString ".") c=false:=by trivial
def Rn:Sp:=fun vs H Q _=>∃ z:Str,vs=[.str z]/\Row z/\∀ H',Same H H'->Q (.bl true) H'
def Wa:Sp:=fun vs H Q _=>∃ z:Str,vs=[.str z]/\Row z/\∀ H',Same H H'->Q .non H'
def Ro:Sp:=fun vs H Q _=>∃ z y:Str,vs=[.str z,.str y]/\Row z/\Row y/\∀ H',Same H H'->Q .non H'
theorem Jx:aC ["thing"] ["thing"] (az tU):=⟨rfl,rfl,rfl,by trivial,rfl,by trivial,by trivial⟩
theorem xm (T:Txt K mg):Has P w K mg base 1 "is_row" ["thing"] Rn:=by
 refine fj T.d_is_row Jx (fun _ _ _ _ _ _ us hl=>L2.iG (fun _=>rfl) us hl) ?_ fun f cdv A outer s H vs Q E hr h=>?_
 ·rintro vs H Q E ⟨p,rfl,_⟩;rfl
 obtain ⟨z,rfl,⟨hz,hg⟩,q⟩:=h
 have hu:=hr.units0
 have hu64:=hr.units
 refine ⟨_,(aA (bJ (mz (oZ (dY (dU (aH (gU (K:=K) rfl) aP T.b_isinstance aV (aa (ao 0) (aa (uq aP T.b_str zG (by trivial) (by trivial)) aq)) (by trivial) (by trivial)))) (mQ (bA uM (aH (aK (K:=K) rfl) aP T.b_len bc (aa (ao 0) aq) (by trivial) (by trivial)) (wD aP T.c_MOST_SIGNS (by trivial)) (by walk_at "p"))))) (aB (aL jM)) bf) (aB (aL (aH (Bu rfl) aP T.b_all Li (aa (lE (sub:=[none]) (gJ (N:=["thing"]) (sc:=az tU) (N':=["sign"]) (by trivial)) rfl rfl rfl (iI (K:=K) rfl (ao 0)) (fun C s₀ H₀ ex=>(vg 0 (by trivial) CK)) (fun C s₀ H₀ ex=>je) (fun C s₀ H₀ ex=>(j4 (wA (K:=K) rfl) (my 0 (by trivial)) (aU aN (wC (YG (by trivial)) T.c_LETTERS (by trivial)) (wC (YG (by trivial)) T.c_POINT (by trivial))) (by walk_at "p")))) aq) (by trivial) (by trivial))))),?_⟩
 walk_at "s"
 have hz1:z.length<=sizeLine:=Zm hz (by decide)
 refine m6 (.str z) rfl ?_
 walk_at "s"
 try with_reducible refine jJ ?_
 walk_at "s"
 refine cz hz1 ?_
 walk_at "s"
 refine pA (fun h1=>?_) (fun h1=>?_)
 ·omega
 walk_at "s"
 refine .inr (.inr ⟨z,rfl,?_⟩)
 refine BK (fun i us H'=>H'=H/\us=((z.cps.toList.take i).map fun c=>!uH (tW ++ Str.ofString ".") c).map V.bl) hz1 ⟨rfl,rfl⟩ ?_ ?_ ?_
 ·rintro i us H' ⟨rfl,rfl⟩
  simp;omega
 ·rintro i us H' c hc ⟨rfl,rfl⟩
  walk_at "s"
  refine ⟨KeepSt.set rfl,?_⟩
  walk_at "s"
  try with_reducible refine jR ?_
  walk_at "s"
  refine iH (Zm (show (Str.ofString "abcdefghijklmnopqrstuvwxyz").length+(Str.ofString ".").length<=1000 by trivial) (by decide)) ?_
  walk_at "s"
  refine ⟨rfl,?_⟩
  rw [Aal,hc]
  simp [tW,uH]
 ·rintro us H' ⟨rfl,rfl⟩ D hD
  walk_at "s"
  refine ⟨D,_,rfl,aj,?_⟩
  have e2:(List.map (fun c=>!uH (tW ++ Str.ofString ".") c) (z.cps.toList.take z.cps.size)).all id=true:=by
   rw [List.all_map,gV]
   intro c hc
   have:=Rm c (hg c (AaN hc))
   simp [this]
  rw [e2]
  exact q _ ((Same.refl H').upd hD)
theorem CN:aC ["thing"] ["thing"] (az rG):=⟨rfl,rfl,rfl,by trivial,rfl,by trivial,by trivial⟩
theorem oU (T:Txt K mg):Has P w K mg base 2 "need_row" ["thing"] Wa:=by
 have xm:=xm (P:=P) (w:=w) (base:=base) T
 refine fj T.d_need_row CN (fun _ _ _ _ _ _ us hl=>L2.iG (fun _=>rfl) us hl) ?_ fun f cdv A outer s H vs Q E hr h=>?_
 ·rintro vs H Q E ⟨p,rfl,_⟩;rfl
 obtain ⟨z,rfl,hz,q⟩:=h
 refine ⟨_,(aB (bJ (dY (dU (aJ xm (hr.mono (by decide)) aP (aa (ao 0) aq) (by trivial)))) (aB jN) bf)),?_⟩
 walk_at "s"
 refine ⟨z,rfl,hz,fun H1 S1=>?_⟩
 walk_at "s"
 try with_reducible refine jJ ?_
 walk_at "s"
 exact q _ S1
theorem Am:aC ["side","top"] ["side","top"] (az pZ):=⟨rfl,rfl,rfl,by trivial,rfl,by trivial,by trivial⟩
theorem iW (T:Txt K mg):Has P w K mg base 3 "need_rows" ["side","top"] Ro:=by
 have oU:=oU (P:=P) (w:=w) (base:=base) T
 refine fj T.d_need_rows Am (fun _ _ _ _ _ _ us hl=>L2.nP (fun _ _=>rfl) us hl) ?_ fun f cdv A outer s H vs Q E hr h=>?_
 ·rintro vs H Q E ⟨p,y,rfl,_⟩;rfl
 obtain ⟨z,y,rfl,hz,hy,q⟩:=h
 refine ⟨_,(aA (aY (aJ oU (hr.mono (by decide)) aP (aa (ao 0) aq) (by trivial))) (aB (aY (aJ oU (hr.mono (by decide)) aP (aa (ao 1) aq) (by trivial))))),?_⟩
 walk_at "s"
 refine ⟨z,rfl,hz,fun H1 S1=>?_⟩
 walk_at "s"
 refine ⟨y,rfl,hy,fun H2 S2=>?_⟩
 exact q _ (S1.trans S2)
def Jy:Sp:=fun vs H Q _=>∃ c:Nat,vs=[.str ⟨#[c]⟩]/\Q (.bl (!uH tW c)) H
theorem Od:∀ c∈GOOD,uH tW c=true->c=46:=by trivial
theorem An:aC ["thing"] ["thing"] (az pX):=⟨rfl,rfl,rfl,by trivial,rfl,by trivial,by trivial⟩
theorem ql (T:Txt K mg):Has P w K mg base 1 "is_letter" ["thing"] Jy:=by
 refine fj T.d_is_letter An (fun _ _ _ _ _ _ us hl=>L2.iG (fun _=>rfl) us hl) ?_ fun f cdv A outer s H vs Q E hr h=>?_
 ·rintro vs H Q E ⟨c,rfl,_⟩;rfl
 obtain ⟨c,rfl,q⟩:=h
 have hu:=hr.units0
 have hu64:=hr.units
 refine ⟨_,(aB (aL (lD (aH (gU (K:=K) rfl) aP T.b_isinstance aV (aa (ao 0) (aa (uq aP T.b_str zG (by trivial) (by trivial)) aq)) (by trivial) (by trivial)) (lD (j4 (ir (K:=K) rfl hu64) (aH (aK (K:=K) rfl) aP T.b_len bc (aa (ao 0) aq) (by trivial) (by trivial)) aD (by walk_at "p")) (o4 (j4 (wA (K:=K) rfl) (ao 0) (wC aP T.c_LETTERS (by trivial)) (by walk_at "p"))))))),?_⟩
 walk_at "s"
 refine m6 (.str _) rfl ?_
 walk_at "s"
 refine cz (by rw [Lk];decide) ?_
 walk_at "s"
 rw [Lk,show decide (V.int ((1:Nat):Int)=V.int 1)=true from rfl]
 walk_at "s"
 exact q
def Rp:Sp:=fun vs H Q _=>∃ c:Nat,vs=[.str ⟨#[c]⟩]/\c∈GOOD/\Q (.bl true) H
theorem Fg:aC ["thing"] ["thing"] (az uB):=⟨rfl,rfl,rfl,by trivial,rfl,by trivial,by trivial⟩
theorem uI (T:Txt K mg):Has P w K mg base 2 "is_sign" ["thing"] Rp:=by
 have ql:=ql (P:=P) (w:=w) (base:=base) T
 refine fj T.d_is_sign Fg (fun _ _ _ _ _ _ us hl=>L2.iG (fun _=>rfl) us hl) ?_ fun f cdv A outer s H vs Q E hr h=>?_
 ·rintro vs H Q E ⟨c,rfl,_⟩;rfl
 obtain ⟨c,rfl,hc,q⟩:=h
 have hu:=hr.units0
 have hu64:=hr.units
 refine ⟨_,(aB (aL (j_or (aJ ql (hr.mono (by decide)) aP (aa (ao 0) aq) (by trivial)) (o4 (j4 (ir (K:=K) rfl hu64) (ao 0) (wC aP T.c_POINT (by trivial)) (by walk_at "p")))))),?_⟩
 walk_at "s"
 refine ⟨c,rfl,?_⟩
 walk_at "s"
 cases hb:uH tW c with
 | false=>
  show if true=true then _ else _
  walk_at "s"
  exact q
 | true=>
  obtain rfl:=Od c hc hb
  show if false=true then _ else _
  walk_at "s"
  rw [show decide (V.str ⟨#[46]⟩=V.str (Str.ofString "."))=true by trivial]
  exact q
def Fi:Sp:=fun vs H Q _=>∃ c:Nat,vs=[.str ⟨#[c]⟩]/\c∈GOOD/\Q .non H
theorem Ao:aC ["thing"] ["thing"] (az pY):=⟨rfl,rfl,rfl,by trivial,rfl,by trivial,by trivial⟩
theorem mG (T:Txt K mg):Has P w K mg base 3 "need_sign" ["thing"] Fi:=by
 have uI:=uI (P:=P) (w:=w) (base:=base) T
 refine fj T.d_need_sign Ao (fun _ _ _ _ _ _ us hl=>L2.iG (fun _=>rfl) us hl) ?_ fun f cdv A outer s H vs Q E hr h=>?_
 ·rintro vs H Q E ⟨c,rfl,_⟩;rfl
 obtain ⟨c,rfl,hc,q⟩:=h
 have hu:=hr.units0
 have hu64:=hr.units
 refine ⟨_,(aB (bJ (dY (dU (aJ uI (hr.mono (by decide)) aP (aa (ao 0) aq) (by trivial)))) (aB jN) bf)),?_⟩
 walk_at "s"
 refine ⟨c,rfl,hc,?_⟩
 walk_at "s"
 walk_at "s"
 exact q
end
local macro_rules | `(tactic| walk_at "s") => `(tactic| (with_reducible repeat (first | refine lC ?_ | walk_at "3")))
local macro_rules | `(tactic| walk_at "n") => `(tactic| (with_reducible repeat (walk_at "3")))
section
variable {P:Program} {w:World} {K:W.Frag} {mg:Str->Option Value} {base:Heap}
def Hx (p:Addr) (H:Hp):Hp:=fun b=>if b=p then none else H b
theorem Ha (p:Addr) (H:Hp):Same (Hx p H) H:=fun b o e=>by
 unfold Hx at e
 split at e
 ·cases e
 ·exact e
theorem zb {p b:Addr} {H:Hp} {o:HO} (h:H b=some o) (n:b≠p):Hx p H b=some o:=by unfold Hx;rw [if_neg n];exact h
theorem Wb {p:Addr} {H:Hp} {o:HO}:Hx p (upd H p o)=Hx p H:=by
 funext b
 unfold Hx
 by_cases h:b=p
 ·rw [if_pos h,if_pos h]
 ·rw [if_neg h,if_neg h,aG h]
def Jz:List Str:=["Blank","One","Over","Beside","Ring"]
def Oe (side top kind:Str) (al ap:Addr) (h:Nat):List (Str×V):=[("held_side",.str side),("held_top",.str top),("held_kind",.str kind),("held_lines",.ref al),("held_parts",.ref ap),("held_height",.int (h:Int))]
def Pc (mg:Str->Option Value) (H:Hp) (x:Addr) (y side top kind:Str) (L:List Nat) (ps:List V) (h:Nat):Prop:=y∈Jz/\∃ dx al ap,H x=some (.ins (aF mg y) dx (Oe side top kind al ap h))/\H al=some (.lst ((nI L).map V.int))/\H ap=some (.lst ps)
theorem Pc.same {H H':Hp} {x:Addr} {y side top kind:Str} {L:List Nat} {ps:List V} {h:Nat} (p:Pc mg H x y side top kind L ps h) (s:Same H H'):Pc mg H' x y side top kind L ps h:=by
 obtain ⟨hy,dx,al,ap,a,b,c⟩:=p
 exact ⟨hy,dx,al,ap,s _ _ a,s _ _ b,s _ _ c⟩
theorem WD (T:Txt K mg) {y:Str} (hy:y∈Jz):∀ f∈(["held_side","held_top","held_kind","held_lines","held_parts","held_height"]:List Str),NoAttr K (aF mg y) f:=by
 unfold Jz at hy
 simp only [Y7,Zq,or_false] at hy
 rcases hy with rfl | rfl | rfl | rfl | rfl
 ·exact T.n_Blank
 ·exact T.n_One
 ·exact T.n_Over
 ·exact T.n_Beside
 ·exact fun f hf=>T.n_Ring f (by simp only [Y7,Zq,or_false] at hf ⊢;rcases hf with h | h | h | h | h | h <;> simp [h])
def Yr (mg:Str->Option Value) (H:Hp) (x:Addr) (y side top kind:Str):Prop:=y∈Jz/\∃ dx al ap h r,H x=some (.ins (aF mg y) dx (Oe side top kind al ap h ++ r))
theorem Pc.p8 {H:Hp} {x:Addr} {y side top kind:Str} {L:List Nat} {ps:List V} {h:Nat} (p:Pc mg H x y side top kind L ps h):Yr mg H x y side top kind:=by
 obtain ⟨hy,dx,al,ap,a,_,_⟩:=p
 exact ⟨hy,dx,al,ap,h,[],by rw [a,ZV]⟩
def Rq (mg:Str->Option Value):Sp:=fun vs H Q _=>∃ x y side top kind,vs=[.ref x]/\Yr mg H x y side top kind/\Q (.str side) H
theorem xU:aC ["self"] ["self"] (az oM):=⟨rfl,rfl,rfl,by trivial,rfl,by trivial,by trivial⟩
theorem bC (T:Txt K mg):Es P w K mg base 1 ["Blank","One","Over","Beside","Ring"] "side" ["self"] (Rq mg):=by
 refine Ng T.m_Piece_side xU (fun _ _ _ _ _ _ us hl=>L2.iG (fun _=>rfl) us hl) ?_ fun f cdv A outer s H vs Q E hr h=>?_
 ·rintro vs H Q E ⟨x,y,side,top,kind,rfl,_⟩;rfl
 obtain ⟨x,y,side,top,kind,rfl,⟨hy,dx,al,ap,h,r,hx⟩,q⟩:=h
 have hu:=hr.units0
 have hu64:=hr.units
 refine ⟨_,(aB (aL (tO (K:=K) rfl (ao 0)))),?_⟩
 walk_at "s"
 refine ⟨x,_,dx,_,_,rfl,hx,T.os_Piece y hy,WD T hy _ (by simp),rfl,?_⟩
 walk_at "s"
 exact q
def Wc (mg:Str->Option Value):Sp:=fun vs H Q _=>∃ x y side top kind,vs=[.ref x]/\Yr mg H x y side top kind/\Q (.str top) H
theorem Aq:aC ["self"] ["self"] (az qi):=⟨rfl,rfl,rfl,by trivial,rfl,by trivial,by trivial⟩
theorem bK (T:Txt K mg):Es P w K mg base 1 ["Blank","One","Over","Beside","Ring"] "top" ["self"] (Wc mg):=by
 refine Ng T.m_Piece_top Aq (fun _ _ _ _ _ _ us hl=>L2.iG (fun _=>rfl) us hl) ?_ fun f cdv A outer s H vs Q E hr h=>?_
 ·rintro vs H Q E ⟨x,y,side,top,kind,rfl,_⟩;rfl
 obtain ⟨x,y,side,top,kind,rfl,⟨hy,dx,al,ap,h,r,hx⟩,q⟩:=h
 have hu:=hr.units0
 have hu64:=hr.units
 refine ⟨_,(aB (aL (tO (K:=K) rfl (ao 0)))),?_⟩
 walk_at "s"
 refine ⟨x,_,dx,_,_,rfl,hx,T.os_Piece y hy,WD T hy _ (by simp),rfl,?_⟩
 walk_at "s"
 exact q
def Rr (mg:Str->Option Value):Sp:=fun vs H Q _=>∃ x y side top kind,vs=[.ref x]/\Yr mg H x y side top kind/\Q (.str kind) H
theorem xV:aC ["self"] ["self"] (az oN):=⟨rfl,rfl,rfl,by trivial,rfl,by trivial,by trivial⟩
theorem oV (T:Txt K mg):Es P w K mg base 1 ["Blank","One","Over","Beside","Ring"] "kind" ["self"] (Rr mg):=by
 refine Ng T.m_Piece_kind xV (fun _ _ _ _ _ _ us hl=>L2.iG (fun _=>rfl) us hl) ?_ fun f cdv A outer s H vs Q E hr h=>?_
 ·rintro vs H Q E ⟨x,y,side,top,kind,rfl,_⟩;rfl
 obtain ⟨x,y,side,top,kind,rfl,⟨hy,dx,al,ap,h,r,hx⟩,q⟩:=h
 have hu:=hr.units0
 have hu64:=hr.units
 refine ⟨_,(aB (aL (tO (K:=K) rfl (ao 0)))),?_⟩
 walk_at "s"
 refine ⟨x,_,dx,_,_,rfl,hx,T.os_Piece y hy,WD T hy _ (by simp),rfl,?_⟩
 walk_at "s"
 exact q
def JC (mg:Str->Option Value):Sp:=fun vs H Q _=>∃ x y side top kind L ps h,vs=[.ref x]/\Pc mg H x y side top kind L ps h/\Q (.int (h:Int)) H
theorem vy:aC ["self"] ["self"] (az lN):=⟨rfl,rfl,rfl,by trivial,rfl,by trivial,by trivial⟩
theorem lU (T:Txt K mg):Es P w K mg base 1 ["Blank","One","Over","Beside","Ring"] "height" ["self"] (JC mg):=by
 refine Ng T.m_Piece_height vy (fun _ _ _ _ _ _ us hl=>L2.iG (fun _=>rfl) us hl) ?_ fun f cdv A outer s H vs Q E hr h=>?_
 ·rintro vs H Q E ⟨x,y,side,top,kind,L,ps,h,rfl,_⟩;rfl
 obtain ⟨x,y,side,top,kind,L,ps,h,rfl,⟨hy,dx,al,ap,hx,_,_⟩,q⟩:=h
 have hu:=hr.units0
 have hu64:=hr.units
 refine ⟨_,(aB (aL (tO (K:=K) rfl (ao 0)))),?_⟩
 walk_at "s"
 refine ⟨x,_,dx,_,_,rfl,hx,T.os_Piece y hy,WD T hy _ (by simp),rfl,?_⟩
 walk_at "s"
 exact q
def Og (mg:Str->Option Value):Sp:=fun vs H Q _=>∃ x y side top kind L ps h,vs=[.ref x]/\Pc mg H x y side top kind L ps h/\∀ q H',H q=none->Same H H'->H' q=some (.lst ((nI L).map V.int))->Q (.ref q) H'
theorem xn:aC ["self"] ["self"] (az mV):=⟨rfl,rfl,rfl,by trivial,rfl,by trivial,by trivial⟩
theorem bB (T:Txt K mg):Es P w K mg base 1 ["Blank","One","Over","Beside","Ring"] "lines" ["self"] (Og mg):=by
 refine Ng T.m_Piece_lines xn (fun _ _ _ _ _ _ us hl=>L2.iG (fun _=>rfl) us hl) ?_ fun f cdv A outer s H vs Q E hr h=>?_
 ·rintro vs H Q E ⟨x,y,side,top,kind,L,ps,h,rfl,_⟩;rfl
 obtain ⟨x,y,side,top,kind,L,ps,h,rfl,⟨hy,dx,al,ap,hx,hal,_⟩,q⟩:=h
 have hu:=hr.units0
 have hu64:=hr.units
 refine ⟨_,(aB (aL (sV (nQ (K:=K) rfl rfl) aP T.b_list mq (aa (tO (K:=K) rfl (ao 0)) aq) (by trivial) (by trivial)))),?_⟩
 walk_at "s"
 refine ⟨x,_,dx,_,_,rfl,hx,T.os_Piece y hy,WD T hy _ (by simp),rfl,?_⟩
 walk_at "s"
 refine zM (SqL.of hal) fun l nl=>?_
 walk_at "s"
 exact q l _ nl ((Same.refl H).upd nl) aj
theorem qN:(["part"]:List Str).Nodup:=by trivial
theorem Chg.same {x:Addr} {H H1 H2:Hp} (c:Chg x H H1) (s:Same H1 H2):Chg x H H2:=fun b o n e=>s _ _ (c b o n e)
theorem Chg.put {x:Addr} {H H1:Hp} {o:HO} (c:Chg x H H1):Chg x H (upd H1 x o):=fun b u n e=>by rw [aG n];exact c b u n e
theorem jq {f:Str} {y:V}:∀ {fs:List (Str×V)},(fs.map (·.1)).contains f=false->lA f y fs=fs ++ [(f,y)]
 | [],_=>rfl
 | (g,z) :: fs,h=>by
  simp only [ZQ,AaE,Bool.or_eq_false_iff] at h
  have hne:¬ g=f:=fun e=>by rw [e] at h;simp at h
  have ih:=jq (y:=y) (fs:=fs) h.2
  unfold lA
  simp [hne,ih]
theorem nJ {H:Hp} {x C dx:Addr} {fs:List (Str×V)} {f:Str} {y:V} (hf:(fs.map (·.1)).contains f=false):∃ H',upd H x (.ins C dx (lA f y fs))=H'/\H' x=some (.ins C dx (fs ++ [(f,y)]))/\Chg x H H':=
 ⟨_,rfl,by rw [aj,jq hf],Chg.put (Chg.refl x H)⟩
def PsH (mg:Str->Option Value) (H:Hp) (ps:List V) (hs:List Nat):Prop:=ps.length=hs.length/\∀ (i:Nat) (v:V) (h:Nat),ps[i]?=some v->hs[i]?=some h->∃ q y s t k L qs,v= .ref q/\Pc mg H q y s t k L qs h
theorem PsH.chg {H H':Hp} {x C dx:Addr} {ps:List V} {hs:List Nat} (p:PsH mg H ps hs) (hx:H x=some (.ins C dx [])) (c:Chg x H H'):PsH mg H' ps hs:=⟨p.1,fun i v h e1 e2=>by
 obtain ⟨q,y,s,t,k,L,qs,rfl,hy,ex,al,ap,h1,h2,h3⟩:=p.2 i v h e1 e2
 refine ⟨q,y,s,t,k,L,qs,rfl,hy,ex,al,ap,c _ _ ?_ h1,c _ _ ?_ h2,c _ _ ?_ h3⟩
 ·intro z;rw [z,hx] at h1;cases h1
 ·intro z;rw [z,hx] at h2;cases h2
 ·intro z;rw [z,hx] at h3;cases h3⟩
def xW (hs:List Nat) (h:Nat):Prop:=(hs=[]/\h=0)\/((∃ a∈hs,h=a+1)/\∀ a∈hs,a+1<=h)
def Ar (mg:Str->Option Value):Sp:=fun vs H Q _=>∃ (x dx l p:Addr) (y side top kind:Str) (L:List Nat) (ps:List V) (hs:List Nat),vs=[.ref x,.str side,.str top,.str kind,.ref l,.ref p]/\y∈Jz/\H x=some (.ins (aF mg y) dx [])/\H l=some (.lst ((nI L).map V.int))/\H p=some (.lst ps)/\ps.length<=1000/\PsH mg H ps hs/\
 ∀ h H',xW hs h->Chg x H H'->Pc mg H' x y side top kind L ps h->(∀ m o,H m=some o->m≠x->Pc mg (Hx m H') x y side top kind L ps h)->Q .non H'
theorem tX:aC ["self","side","top","kind","lines","parts"] ["self","side","top","kind","lines","parts"] (az gZ):=⟨rfl,rfl,rfl,by trivial,rfl,by trivial,by trivial⟩
theorem aQ (T:Txt K mg):VV P w K mg base 2 "Piece" "__init__" ["self","side","top","kind","lines","parts"] (Ar mg):=by
 have lU:=lU (P:=P) (w:=w) (base:=base) T
 refine hasC T.m_Piece___init__ tX (fun _ _ _ _ _ _ us hl=>L2.usN6 (fun _ _ _ _ _ _=>rfl) us hl) ?_ fun f cdv A outer s H vs Q E hr h=>?_
 ·rintro vs H Q E ⟨x,dx,l,p,y,side,top,kind,L,ps,hs,rfl,_⟩;rfl
 obtain ⟨x,dx,l,p,y,side,top,kind,L,ps,hs,rfl,hy,hx,hl,hp,hpl,hH,q⟩:=h
 have hu:=hr.units0
 have hu64:=hr.units
 refine ⟨_,(aA (jy (K:=K) rfl (ao 0) (ao 1)) (aA (jy (K:=K) rfl (ao 0) (ao 2)) (aA (jy (K:=K) rfl (ao 0) (ao 3)) (aA (jy (K:=K) rfl (ao 0) (sV (nQ (K:=K) rfl rfl) aP T.b_list mq (aa (ao 4) aq) (by trivial) (by trivial))) (aA (jy (K:=K) rfl (ao 0) (sV (nQ (K:=K) rfl rfl) aP T.b_list mq (aa (ao 5) aq) (by trivial) (by trivial))) (aB (jy (K:=K) rfl (ao 0) (V0 rfl aP T.b_max (lE (sub:=[none]) (gJ (N:=["self","side","top","kind","lines","parts"]) (sc:=az gZ) (N':=["part"]) (by trivial)) rfl rfl rfl (iI (K:=K) rfl (ao 5)) (fun C s₀ H₀ ex=>(vg 0 (by trivial) qN)) (fun C s₀ H₀ ex=>je) (fun C s₀ H₀ ex=>(aU aN (bD (mg:=mg) rfl (my 0 (by trivial)) T.os_Piece lU (hr.mono (by decide)) (jg fun _ _=>rfl)) aD))) aD)))))))),?_⟩
 walk_at "s"
 have hz:20000<=sizeLine:=by decide
 have cl:=T.os_Piece y hy
 have na:=WD T hy
 have lx:∀ {G:Hp} {C ex:Addr} {fs:List (Str×V)} {a:Addr} {us:List V},G x=some (.ins C ex fs)->G a=some (.lst us)->a≠x:=fun h1 h2 z=>by rw [z,h1] at h2;cases h2
 refine ⟨x,_,dx,_,rfl,hx,cl,na _ (by simp),by simp,?_⟩
 walk_at "s"
 obtain ⟨H1,e1,hx1,M1⟩:=nJ (H:=H) (x:=x) (C:=aF mg y) (dx:=dx) (fs:=[]) (f:="held_side") (y:=.str side) rfl
 rw [e1]
 walk_at "s"
 refine ⟨x,_,dx,_,rfl,hx1,cl,na _ (by simp),by simp,?_⟩
 walk_at "s"
 obtain ⟨H2,e2,hx2,M2⟩:=nJ (H:=H1) (x:=x) (C:=aF mg y) (dx:=dx) (fs:=[] ++ [(Str.ofString "held_side",V.str side)]) (f:="held_top") (y:=.str top) (by show (["held_side"]:List Str).contains "held_top"=false;trivial)
 rw [e2]
 walk_at "s"
 refine ⟨x,_,dx,_,rfl,hx2,cl,na _ (by simp),by simp,?_⟩
 walk_at "s"
 obtain ⟨H3,e3,hx3,M3⟩:=nJ (H:=H2) (x:=x) (C:=aF mg y) (dx:=dx) (fs:=[] ++ [(Str.ofString "held_side",V.str side)] ++ [(Str.ofString "held_top",V.str top)]) (f:="held_kind") (y:=.str kind) (by show (["held_side","held_top"]:List Str).contains "held_kind"=false;trivial)
 rw [e3]
 have C3:=(M1.trans M2).trans M3
 have hl3:=C3 l _ (lx hx hl) hl
 walk_at "s"
 refine zM (SqL.of hl3) fun al nal=>?_
 walk_at "s"
 have S4:=(Same.refl H3).upd nal (o:=.lst ((nI L).map V.int))
 have hal:=aj (H:=H3) (a:=al) (o:=.lst ((nI L).map V.int))
 generalize upd H3 al (.lst ((nI L).map V.int))=H4 at S4 hal ⊢
 walk_at "s"
 refine ⟨x,_,dx,_,rfl,S4 _ _ hx3,cl,na _ (by simp),by simp,?_⟩
 walk_at "s"
 obtain ⟨H5,e5,hx5,M5⟩:=nJ (H:=H4) (x:=x) (C:=aF mg y) (dx:=dx) (fs:=[] ++ [(Str.ofString "held_side",V.str side)] ++ [(Str.ofString "held_top",V.str top)] ++ [(Str.ofString "held_kind",V.str kind)]) (f:="held_lines") (y:=.ref al) (by show (["held_side","held_top","held_kind"]:List Str).contains "held_lines"=false;trivial)
 rw [e5]
 have C5:=(Chg.same C3 S4).trans M5
 have hp5:=C5 p _ (lx hx hp) hp
 have hal5:=M5 al _ (lx (S4 _ _ hx3) hal) hal
 walk_at "s"
 refine zM (SqL.of hp5) fun ap nap=>?_
 walk_at "s"
 have S6:=(Same.refl H5).upd nap (o:=.lst ps)
 have hap:=aj (H:=H5) (a:=ap) (o:=.lst ps)
 generalize upd H5 ap (.lst ps)=H6 at S6 hap ⊢
 walk_at "s"
 refine ⟨x,_,dx,_,rfl,S6 _ _ hx5,cl,na _ (by simp),by simp,?_⟩
 walk_at "s"
 obtain ⟨H7,e7,hx7,M7⟩:=nJ (H:=H6) (x:=x) (C:=aF mg y) (dx:=dx) (fs:=[] ++ [(Str.ofString "held_side",V.str side)] ++ [(Str.ofString "held_top",V.str top)] ++ [(Str.ofString "held_kind",V.str kind)] ++ [(Str.ofString "held_lines",V.ref al)]) (f:="held_parts") (y:=.ref ap) (by show (["held_side","held_top","held_kind","held_lines"]:List Str).contains "held_parts"=false;trivial)
 rw [e7]
 have C7:=(Chg.same C5 S6).trans M7
 have hp7:=C7 p _ (lx hx hp) hp
 have hal7:=M7 al _ (lx (S6 _ _ hx5) (S6 _ _ hal5)) (S6 _ _ hal5)
 have hap7:=M7 ap _ (lx (S6 _ _ hx5) hap) hap
 have hH7:=hH.chg hx C7
 walk_at "s"
 refine .inl ⟨p,rfl,⟨_,SqL.of hp7⟩,?_⟩
 have hul:=hH.1
 refine rz (xs:=ps) (fun i zs G=>G=H7/\zs=(nI ((hs.take i).map (· +1))).map V.int) (by omega) ⟨rfl,rfl⟩ ?_ ?_ ?_ ?_
 ·rintro i zs G ⟨_,rfl⟩
  rw [bw];simp;omega
 ·rintro i zs G ⟨rfl,_⟩
  exact SqL.of hp7
 ·rintro i zs G v hv ⟨rfl,rfl⟩
  have hi:i < hs.length:=by rw [← hul];exact (YW.mp hv).1
  obtain ⟨hh,eh⟩:∃ hh,hs[i]?=some hh:=⟨_,YT hi⟩
  obtain ⟨r,y',s',t',k',L',qs,rfl,hP⟩:=hH7.2 i v hh hv eh
  obtain ⟨hy',ex,al',ap',h1,_,_⟩:=id hP
  walk_at "s"
  refine ⟨KeepSt.set rfl,?_⟩
  walk_at "s"
  refine ⟨r,y',ex,_,rfl,hy',h1,rfl,?_⟩
  walk_at "s"
  refine ⟨r,y',s',t',k',L',qs,hh,rfl,hP,?_⟩
  walk_at "s"
  refine ⟨rfl,?_⟩
  rw [Aal,eh,ZK,show ((hh:Int)+1)=((hh+1:Nat):Int) by omega,Al]
  rfl
 ·rintro zs G D H8 ⟨rfl,rfl⟩ nD S8 hD
  rw [hul,Aah] at hD
  try walk_at "s"
  have C8:=Chg.same C7 S8
  have hx8:=S8 _ _ hx7
  have key:∀ h:Nat,xW hs h->Q .non (upd H8 x (.ins (aF mg y) dx (lA (Str.ofString "held_height") (.int (h:Int)) ([] ++ [(Str.ofString "held_side",V.str side)] ++ [(Str.ofString "held_top",V.str top)] ++ [(Str.ofString "held_kind",V.str kind)] ++ [(Str.ofString "held_lines",V.ref al)] ++ [(Str.ofString "held_parts",V.ref ap)])))):=fun h hh=>by
   obtain ⟨H9,e9,hx9,M9⟩:=nJ (H:=H8) (x:=x) (C:=aF mg y) (dx:=dx) (fs:=([] ++ [(Str.ofString "held_side",V.str side)] ++ [(Str.ofString "held_top",V.str top)] ++ [(Str.ofString "held_kind",V.str kind)] ++ [(Str.ofString "held_lines",V.ref al)] ++ [(Str.ofString "held_parts",V.ref ap)])) (f:=Str.ofString "held_height") (y:=.int (h:Int)) (by show (["held_side","held_top","held_kind","held_lines","held_parts"]:List Str).contains "held_height"=false;trivial)
   rw [e9]
   have hal9:=M9 al _ (lx hx8 (S8 _ _ hal7)) (S8 _ _ hal7)
   have hap9:=M9 ap _ (lx hx8 (S8 _ _ hap7)) (S8 _ _ hap7)
   refine q h H9 hh (C8.trans M9) ⟨hy,dx,al,ap,hx9,hal9,hap9⟩ fun m o hm nm=>⟨hy,dx,al,ap,zb hx9 (Ne.symm nm),zb hal9 ?_,zb hap9 ?_⟩
   ·intro z;rw [z,C3 m o nm hm] at nal;cases nal
   ·intro z;rw [z,C5 m o nm hm] at nap;cases nap
  refine ⟨D,_,rfl,hD,fun e=>?_,fun M hM hmx=>?_⟩
  ·have e0:hs=[]:=by
    cases hs with
    | nil=>rfl
    | cons a b=>cases e
   walk_at "s"
   exact ⟨x,_,dx,_,rfl,hx8,cl,na _ (by simp),by simp,key 0 (.inl ⟨e0,rfl⟩)⟩
  ·unfold nI at hM hmx
   obtain ⟨a',ha',rfl⟩:=ZP.mp hM
   obtain ⟨a,ha,rfl⟩:=ZP.mp ha'
   walk_at "s"
   refine ⟨x,_,dx,_,rfl,hx8,cl,na _ (by simp),by simp,key (a+1) (.inr ⟨⟨a,ha,rfl⟩,fun b hb=>?_⟩)⟩
   have:=hmx ((b+1:Nat):Int) (ZP.mpr ⟨b+1,ZP.mpr ⟨b,hb,rfl⟩,rfl⟩)
   omega
theorem vz:(["end","low"]:List Str).Nodup:=by trivial
theorem pcT (T:Txt K mg) {y:Str} (hy:y∈Jz):ITxt K mg y/\Sub K mg y "Piece" true:=by
 unfold Jz at hy
 simp only [Y7,Zq,or_false] at hy
 rcases hy with rfl | rfl | rfl | rfl | rfl
 ·exact ⟨T.t_Blank,T.u_Blank_Piece⟩
 ·exact ⟨T.t_One,T.u_One_Piece⟩
 ·exact ⟨T.t_Over,T.u_Over_Piece⟩
 ·exact ⟨T.t_Beside,T.u_Beside_Piece⟩
 ·exact ⟨T.t_Ring,T.u_Ring_Piece⟩
def IsP (mg:Str->Option Value) (H:Hp) (v:V):Prop:=∃ x y s t k L ps h,v= .ref x/\Pc mg H x y s t k L ps h
theorem Rt (T:Txt K mg) {H:Hp} {v:V} {Q:VK} (h:IsP mg H v) (q:Q (.bl true) H):yJ K [v,.ref (aF mg "Piece")] H Q:=by
 obtain ⟨x,y,s,t,k,L,ps,n,rfl,hy,dx,al,ap,hx,_,_⟩:=h
 exact Ek ((pcT T hy).1.ty (T.os_Piece y hy) hx) rfl (pcT T hy).2.one q
def JD (mg:Str->Option Value):Sp:=fun vs H Q _=>∃ u v,vs=[u,v]/\IsP mg H u/\IsP mg H v/\∀ H',Same H H'->Q .non H'
theorem IsP.same {H H':Hp} {v:V} (h:IsP mg H v) (s:Same H H'):IsP mg H' v:=by
 obtain ⟨x,y,a,b,c,L,ps,n,rfl,h⟩:=h
 exact ⟨x,y,a,b,c,L,ps,n,rfl,h.same s⟩
theorem qm:aC ["one","other","thing"] ["one","other"] (az mR):=⟨rfl,rfl,rfl,by trivial,rfl,by trivial,by trivial⟩
theorem fM (T:Txt K mg):Has P w K mg base 3 "need_pieces" ["one","other"] (JD mg):=by
 refine fj T.d_need_pieces qm (fun _ _ _ _ _ _ us hl=>L2.nP (fun _ _=>rfl) us hl) ?_ fun f cdv A outer s H vs Q E hr h=>?_
 ·rintro vs H Q E ⟨u,v,rfl,_⟩;rfl
 obtain ⟨u,v,rfl,hu1,hv1,q⟩:=h
 have hu:=hr.units0
 have hu64:=hr.units
 refine ⟨_,(aB (jf ZR rfl (iI (K:=K) rfl (sU (aa (ao 0) (aa (ao 1) aq)))) (eZ (i:=2) qm.nd rfl gH rfl) (aB (bJ (dY (dU (aH (gY (K:=K) rfl) aP T.b_isinstance aV (aa (ao 2) (aa (tE aP T.o_Piece.at_ (by trivial)) aq)) (by trivial) (by trivial)))) (aB jN) bf)))),?_⟩
 walk_at "s"
 refine cA rfl fun t H1 nt S1 ht=>?_
 walk_at "s"
 refine .inr (.inl ⟨t,rfl,⟨_,SqT.of ht⟩,?_⟩)
 refine Fw (xs:=[u,v]) (fun i U G=>Same H1 G/\∃ x2,U=[some u,some v,x2]) ⟨Same.refl H1,_,rfl⟩ (fun i U G _ h=>SqT.of (h.1 _ _ ht)) ?_ ?_
 ·rintro i w U G hw ⟨s,x2,rfl⟩
  have hP:IsP mg G w:=by
   have:=Y8 hw
   simp only [Y7,Zq,or_false] at this
   rcases this with rfl | rfl
   ·exact hu1.same (S1.trans s)
   ·exact hv1.same (S1.trans s)
  walk_at "s"
  refine Rt T hP ?_
  walk_at "s"
  exact ⟨s,_,rfl⟩
 ·rintro U G ⟨s,x2,rfl⟩
  exact q G (S1.trans s)
def Fj:Sp:=fun vs H Q _=>∃ z:Str,vs=[.str z,.str z]/\Q .non H
theorem Av:aC ["one","other"] ["one","other"] (az p6):=⟨rfl,rfl,rfl,by trivial,rfl,by trivial,by trivial⟩
theorem iY (T:Txt K mg):Has P w K mg base 3 "need_same" ["one","other"] Fj:=by
 refine fj T.d_need_same Av (fun _ _ _ _ _ _ us hl=>L2.nP (fun _ _=>rfl) us hl) ?_ fun f cdv A outer s H vs Q E hr h=>?_
 ·rintro vs H Q E ⟨z,rfl,_⟩;rfl
 obtain ⟨z,rfl,q⟩:=h
 have hu:=hr.units0
 have hu64:=hr.units
 refine ⟨_,(aB (bJ (bA (Eh (K:=K) rfl hu64) (ao 0) (ao 1) (by walk_at "p")) (aB jN) bf)),?_⟩
 walk_at "s"
 rw [Y9 (rfl:V.str z=V.str z)]
 walk_at "s"
 exact q
def CP:Sp:=fun vs H Q _=>∃ z:Str,vs=[.str z]/\z.length<=48/\Q .non H
theorem xX:aC ["row"] ["row"] (az oH):=⟨rfl,rfl,rfl,by trivial,rfl,by trivial,by trivial⟩
theorem g8 (T:Txt K mg):Has P w K mg base 3 "need_short" ["row"] CP:=by
 refine fj T.d_need_short xX (fun _ _ _ _ _ _ us hl=>L2.iG (fun _=>rfl) us hl) ?_ fun f cdv A outer s H vs Q E hr h=>?_
 ·rintro vs H Q E ⟨z,rfl,_⟩;rfl
 obtain ⟨z,rfl,hz,q⟩:=h
 have hu:=hr.units0
 have hu64:=hr.units
 refine ⟨_,(aB (bJ (bA uM (aH (aK (K:=K) rfl) aP T.b_len bc (aa (ao 0) aq) (by trivial) (by trivial)) (wD aP T.c_MOST_SIGNS (by trivial)) (by walk_at "p")) (aB jN) bf)),?_⟩
 walk_at "s"
 refine cz (Zm hz (by decide)) ?_
 walk_at "s"
 rw [Zc (show ¬ (48:Int) < (z.length:Int) by omega)]
 walk_at "s"
 exact q
theorem Aw (a b:List Nat):(nI a).map V.int ++ (nI b).map V.int=(nI (a ++ b)).map V.int:=by unfold nI;rw [ZK,ZK]
theorem iZ {m far:Nat} {e:Nat->Nat->Bool}:((nI (LN m far e)).map V.int).length=m+far:=by rw [bw,iu]
theorem Hb {k:Nat} {G:List Nat} (hG:Prm G) (hk:k+G.length<=96):Prm (List.range k ++ G.map (k+ ·)):=by
 have hl:(List.range k ++ G.map (k+ ·)).length=k+G.length:=by simp
 refine ⟨by omega,?_⟩
 rw [hl,AaF]
 exact List.Perm.append_left _ (hG.pm.map _)
theorem CQ {r n:Nat} {G:List Nat} (hG:Prm G) (hn:G.length=n) (hk:n+r<=96):Prm (G ++ (List.range r).map (n+ ·)):=by
 subst hn
 have hl:(G ++ (List.range r).map (G.length+ ·)).length=G.length+r:=by simp
 refine ⟨by omega,?_⟩
 rw [hl,AaF]
 exact hG.pm.append_right _
theorem CV (lo:Int) (k n:Nat) (e:lo=(k:Int)):((List.range n).map fun i:Nat=>V.int (lo+(i:Int)*1))=(nI ((List.range n).map (k+ ·))).map V.int:=by
 subst e
 unfold nI
 rw [AaO,AaO]
 refine AaQ fun x _=>?_
 show V.int ((k:Int)+(x:Int)*1)=V.int ((k+x:Nat):Int)
 congr 1;omega
def Ru (K:W.Frag):Sp:=fun vs H Q _=>∃ (u l:Addr) (mu ml far:Nat) (e:Nat->Nat->Bool),vs=[.ref u,.ref l,.int far]/\mu+ml+far<=96/\H u=some (.lst ((nI (LN mu far e)).map V.int))/\H l=some (.lst ((nI (LN ml far fun i j=>e (mu+i) j)).map V.int))/\
 ∀ q H',H q=none->Same H H'->H' q=some (.lst ((nI (LN (mu+ml) far e)).map V.int))->Q (.ref q) H'
theorem iC:aC ["upper","lower","far","high","low","one","other"] ["upper","lower","far"] (az kW):=⟨rfl,rfl,rfl,by trivial,rfl,by trivial,by trivial⟩
theorem oW (T:Txt K mg):Has P w K mg base 8 "lines_over" ["upper","lower","far"] (Ru K):=by
 have fH:=fH (P:=P) (w:=w) (base:=base) T
 have uG:=uG (P:=P) (w:=w) (base:=base) T
 refine fj T.d_lines_over iC (fun _ _ _ _ _ _ us hl=>L2.uf (fun _ _ _=>rfl) us hl) ?_ fun f cdv A outer s H vs Q E hr h=>?_
 ·rintro vs H Q E ⟨u,l,mu,ml,far,e,rfl,_⟩;rfl
 obtain ⟨u,l,mu,ml,far,e,rfl,hn,hu1,hl,q⟩:=h
 have hu:=hr.units0
 have hu64:=hr.units
 refine ⟨_,(aA (aM (i:=3) iC.nd rfl gH (aU mL (aH (aK (K:=K) rfl) aP T.b_len bc (aa (ao 0) aq) (by trivial) (by trivial)) (ao 2)) rfl) (aA (aM (i:=4) iC.nd rfl Wz (aU mL (aH (aK (K:=K) rfl) aP T.b_len bc (aa (ao 1) aq) (by trivial) (by trivial)) (ao 2)) rfl) (aA (aM (i:=5) iC.nd rfl gH (aU aN (aJ fH (hr.mono (by decide)) aP (aa (o7 4) aq) (by trivial)) (lE (sub:=[none,some 4]) (gJ (N:=["upper","lower","far","high","low","one","other"]) (sc:=az kW) (N':=["end","low"]) (by trivial)) rfl rfl rfl (iI (K:=K) rfl (ao 0)) (fun C s₀ H₀ ex=>(vg 0 (by trivial) vz)) (fun C s₀ H₀ ex=>je) (fun C s₀ H₀ ex=>(aU aN (sS 1 (by trivial)) (my 0 (by trivial)))))) rfl) (aA (aM (i:=6) iC.nd rfl gH (aU aN (ao 1) (wN rfl aP T.b_list aP T.b_range (aa (aU aN (o7 4) (ao 2)) (aa (aU aN (aU aN (o7 4) (ao 2)) (ao 3)) aq)))) rfl) (aB (aL (aJ uG (hr.mono (by decide)) aP (aa (ao 5) (aa (ao 6) aq)) (by trivial)))))))),?_⟩
 walk_at "s"
 have hz:20000<=sizeLine:=by decide
 refine gO (SqL.of hu1) ?_
 walk_at "s"
 rw [iZ]
 walk_at "s"
 refine gO (SqL.of hl) ?_
 walk_at "s"
 rw [iZ,show ((mu+far:Nat):Int) - (far:Int)=(mu:Int) by omega,show ((ml+far:Nat):Int) - (far:Int)=(ml:Int) by omega]
 walk_at "s"
 refine ⟨ml,rfl,by omega,fun a H1 na S1 ha=>?_⟩
 walk_at "s"
 refine .inl ⟨u,rfl,⟨_,SqL.of (S1 _ _ hu1)⟩,?_⟩
 refine rz (xs:=(nI (LN mu far e)).map V.int) (fun i zs G=>G=H1/\zs=(nI (((LN mu far e).take i).map (ml+ ·))).map V.int) (by rw [iZ];omega) ⟨rfl,rfl⟩ ?_ ?_ ?_ ?_
 ·rintro i zs G ⟨_,rfl⟩
  rw [bw];simp;omega
 ·rintro i zs G ⟨rfl,_⟩
  exact SqL.of (S1 _ _ hu1)
 ·rintro i zs G v hv ⟨rfl,rfl⟩
  obtain ⟨a',ea,rfl⟩:=yZ hv
  walk_at "s"
  refine ⟨KeepSt.set rfl,?_⟩
  walk_at "s"
  refine ⟨rfl,?_⟩
  rw [Aal,ea,ZK,show ((ml:Int)+(a':Int))=((ml+a':Nat):Int) by omega]
  unfold nI
  rw [ZK,ZK]
  rfl
 rintro zs G D H2 ⟨rfl,rfl⟩ nD S2 hD
 rw [iZ,← iu mu far e,Aah] at hD
 try walk_at "s"
 refine zK (S2 _ _ ha) hD (by rw [bw,bw];simp [iu];omega) fun o1 no1=>?_
 walk_at "s"
 rw [Aw]
 have S3:=(Same.refl H2).upd no1 (o:=.lst ((nI (List.range ml ++ (LN mu far e).map (ml+ ·))).map V.int))
 have ho1:=aj (H:=H2) (a:=o1) (o:=.lst ((nI (List.range ml ++ (LN mu far e).map (ml+ ·))).map V.int))
 generalize upd H2 o1 (.lst ((nI (List.range ml ++ (LN mu far e).map (ml+ ·))).map V.int))=H3 at S3 ho1 ⊢
 have U3:=S1.trans (S2.trans S3)
 walk_at "s"
 refine Gv (n:=mu) (by omega) (by omega) (by omega) (by omega) fun r nr=>?_
 walk_at "s"
 rw [CV _ (ml+far) mu (by omega)] at ⊢
 have S4:=(Same.refl H3).upd nr (o:=.lst ((nI ((List.range mu).map (ml+far+ ·))).map V.int))
 have hr4:=aj (H:=H3) (a:=r) (o:=.lst ((nI ((List.range mu).map (ml+far+ ·))).map V.int))
 generalize upd H3 r (.lst ((nI ((List.range mu).map (ml+far+ ·))).map V.int))=H4 at S4 hr4 ⊢
 walk_at "s"
 refine zK (S4 _ _ (U3 _ _ hl)) hr4 (by rw [bw,bw];simp [iu];omega) fun o2 no2=>?_
 walk_at "s"
 rw [Aw]
 have S5:=(Same.refl H4).upd no2 (o:=.lst ((nI (LN ml far (fun i j=>e (mu+i) j) ++ (List.range mu).map (ml+far+ ·))).map V.int))
 have ho2:=aj (H:=H4) (a:=o2) (o:=.lst ((nI (LN ml far (fun i j=>e (mu+i) j) ++ (List.range mu).map (ml+far+ ·))).map V.int))
 generalize upd H4 o2 (.lst ((nI (LN ml far (fun i j=>e (mu+i) j) ++ (List.range mu).map (ml+far+ ·))).map V.int))=H5 at S5 ho2 ⊢
 have U5:=U3.trans (S4.trans S5)
 walk_at "s"
 refine ⟨o1,o2,_,_,mu+ml+far,rfl,(S4.trans S5) _ _ ho1,ho2,⟨Hb (wZ (by omega)) (by rw [iu];omega),CQ (wZ (by omega)) (iu _ _ _) (by omega),by simp [iu];omega,by simp [iu];omega⟩,fun r' H6 nr' S6 hr'=>?_⟩
 rw [NZ hn] at hr'
 exact q r' H6 (Same.back U5 nr') (U5.trans S6) hr'
theorem tY:(["end","near"]:List Str).Nodup:=by trivial
def JF (K:W.Frag):Sp:=fun vs H Q _=>∃ (l r:Addr) (m fl fr:Nat) (e:Nat->Nat->Bool),vs=[.ref l,.ref r,.int m]/\m+(fl+fr)<=96/\H l=some (.lst ((nI (LN m fl e)).map V.int))/\H r=some (.lst ((nI (LN m fr fun i j=>e i (fl+j))).map V.int))/\
 ∀ q H',H q=none->Same H H'->H' q=some (.lst ((nI (LN m (fl+fr) e)).map V.int))->Q (.ref q) H'
theorem fK:aC ["left","right","many","near","far","one","other"] ["left","right","many"] (az jj):=⟨rfl,rfl,rfl,by trivial,rfl,by trivial,by trivial⟩
theorem fu (T:Txt K mg):Has P w K mg base 8 "lines_beside" ["left","right","many"] (JF K):=by
 have fH:=fH (P:=P) (w:=w) (base:=base) T
 have uG:=uG (P:=P) (w:=w) (base:=base) T
 refine fj T.d_lines_beside fK (fun _ _ _ _ _ _ us hl=>L2.uf (fun _ _ _=>rfl) us hl) ?_ fun f cdv A outer s H vs Q E hr h=>?_
 ·rintro vs H Q E ⟨l,r,m,fl,fr,e,rfl,_⟩;rfl
 obtain ⟨l,r,m,fl,fr,e,rfl,hn,hl,hr1,q⟩:=h
 have hu:=hr.units0
 have hu64:=hr.units
 refine ⟨_,(aA (aM (i:=3) fK.nd rfl Wz (aU mL (aH (aK (K:=K) rfl) aP T.b_len bc (aa (ao 0) aq) (by trivial) (by trivial)) (ao 2)) rfl) (aA (aM (i:=4) fK.nd rfl gH (aU mL (aH (aK (K:=K) rfl) aP T.b_len bc (aa (ao 1) aq) (by trivial) (by trivial)) (ao 2)) rfl) (aA (aM (i:=5) fK.nd rfl gH (aU aN (ao 0) (wN rfl aP T.b_list aP T.b_range (aa (aU aN (ao 2) (o7 3)) (aa (aU aN (aU aN (ao 2) (o7 3)) (ao 4)) aq)))) rfl) (aA (aM (i:=6) fK.nd rfl gH (aU aN (aJ fH (hr.mono (by decide)) aP (aa (o7 3) aq) (by trivial)) (lE (sub:=[none,some 3]) (gJ (N:=["left","right","many","near","far","one","other"]) (sc:=az jj) (N':=["end","near"]) (by trivial)) rfl rfl rfl (iI (K:=K) rfl (ao 1)) (fun C s₀ H₀ ex=>(vg 0 (by trivial) tY)) (fun C s₀ H₀ ex=>je) (fun C s₀ H₀ ex=>(aU aN (sS 1 (by trivial)) (my 0 (by trivial)))))) rfl) (aB (aL (aJ uG (hr.mono (by decide)) aP (aa (ao 5) (aa (ao 6) aq)) (by trivial)))))))),?_⟩
 walk_at "s"
 have hz:20000<=sizeLine:=by decide
 refine gO (SqL.of hl) ?_
 walk_at "s"
 rw [iZ]
 walk_at "s"
 refine gO (SqL.of hr1) ?_
 walk_at "s"
 rw [iZ,show ((m+fl:Nat):Int) - (m:Int)=(fl:Int) by omega,show ((m+fr:Nat):Int) - (m:Int)=(fr:Int) by omega]
 walk_at "s"
 refine Gv (n:=fr) (by omega) (by omega) (by omega) (by omega) fun p np=>?_
 walk_at "s"
 rw [CV _ (m+fl) fr (by omega)]
 have S1:=(Same.refl H).upd np (o:=.lst ((nI ((List.range fr).map (m+fl+ ·))).map V.int))
 have hp1:=aj (H:=H) (a:=p) (o:=.lst ((nI ((List.range fr).map (m+fl+ ·))).map V.int))
 generalize upd H p (.lst ((nI ((List.range fr).map (m+fl+ ·))).map V.int))=H1 at S1 hp1 ⊢
 walk_at "s"
 refine zK (S1 _ _ hl) hp1 (by rw [bw,bw];simp [iu];omega) fun o1 no1=>?_
 walk_at "s"
 rw [Aw]
 have S2:=(Same.refl H1).upd no1 (o:=.lst ((nI (LN m fl e ++ (List.range fr).map (m+fl+ ·))).map V.int))
 have ho1:=aj (H:=H1) (a:=o1) (o:=.lst ((nI (LN m fl e ++ (List.range fr).map (m+fl+ ·))).map V.int))
 generalize upd H1 o1 (.lst ((nI (LN m fl e ++ (List.range fr).map (m+fl+ ·))).map V.int))=H2 at S2 ho1 ⊢
 walk_at "s"
 refine ⟨fl,rfl,by omega,fun a H3 na S3 ha=>?_⟩
 walk_at "s"
 have U3:=S1.trans (S2.trans S3)
 refine .inl ⟨r,rfl,⟨_,SqL.of (U3 _ _ hr1)⟩,?_⟩
 refine rz (xs:=(nI (LN m fr fun i j=>e i (fl+j))).map V.int) (fun i zs G=>G=H3/\zs=(nI (((LN m fr fun i j=>e i (fl+j)).take i).map (fl+ ·))).map V.int) (by rw [iZ];omega) ⟨rfl,rfl⟩ ?_ ?_ ?_ ?_
 ·rintro i zs G ⟨_,rfl⟩
  rw [bw];simp;omega
 ·rintro i zs G ⟨rfl,_⟩
  exact SqL.of (U3 _ _ hr1)
 ·rintro i zs G v hv ⟨rfl,rfl⟩
  obtain ⟨a',ea,rfl⟩:=yZ hv
  walk_at "s"
  refine ⟨KeepSt.set rfl,?_⟩
  walk_at "s"
  refine ⟨rfl,?_⟩
  rw [Aal,ea,ZK,show ((fl:Int)+(a':Int))=((fl+a':Nat):Int) by omega]
  unfold nI
  rw [ZK,ZK]
  rfl
 rintro zs G D H4 ⟨rfl,rfl⟩ nD S4 hD
 rw [iZ,← iu m fr (fun i j=>e i (fl+j)),Aah] at hD
 try walk_at "s"
 refine zK (S4 _ _ ha) hD (by rw [bw,bw];simp [iu];omega) fun o2 no2=>?_
 walk_at "s"
 rw [Aw]
 have S5:=(Same.refl H4).upd no2 (o:=.lst ((nI (List.range fl ++ (LN m fr fun i j=>e i (fl+j)).map (fl+ ·))).map V.int))
 have ho2:=aj (H:=H4) (a:=o2) (o:=.lst ((nI (List.range fl ++ (LN m fr fun i j=>e i (fl+j)).map (fl+ ·))).map V.int))
 generalize upd H4 o2 (.lst ((nI (List.range fl ++ (LN m fr fun i j=>e i (fl+j)).map (fl+ ·))).map V.int))=H5 at S5 ho2 ⊢
 have U5:=U3.trans (S4.trans S5)
 walk_at "s"
 refine ⟨o1,o2,_,_,m+(fl+fr),rfl,(S3.trans (S4.trans S5)) _ _ ho1,ho2,⟨CQ (wZ (by omega)) (iu _ _ _) (by omega),Hb (wZ (by omega)) (by rw [iu];omega),by simp [iu];omega,by simp [iu];omega⟩,fun r' H6 nr' S6 hr'=>?_⟩
 rw [EY hn] at hr'
 exact q r' H6 (Same.back U5 nr') (U5.trans S6) hr'
def zc (side top:Str) (i j:Nat):Bool:=decide (side.cps.getD i 0=top.cps.getD j 0)
theorem Oh {m far:Nat} {e e':Nat->Nat->Bool} (h:∀ i j,i < m->j < far->e i j=e' i j):al m far e m=al m far e' m:=by
 unfold al rs
 refine gP fun i hi=>gP fun j hj=>?_
 rw [h i j (Zk.mp hi) (Zk.mp hj)]
theorem nM {m far:Nat} {e e':Nat->Nat->Bool} (h:∀ i j,i < m->j < far->e i j=e' i j):LN m far e=LN m far e':=by unfold LN;rw [Oh h]
theorem Oi {m far:Nat} {e:Nat->Nat->Bool} (h:m=0\/far=0) (hn:m+far<=96):LN m far e=List.range (m+far):=by
 have:al m far e m=[]:=by
  unfold al rs
  rcases h with rfl | rfl
  ·rfl
  ·simp
 unfold LN
 rw [this]
 exact Jt _ hn
theorem Oj (e:Nat->Nat->Bool):LN 1 1 e=if e 0 0=true then [0,1] else [1,0]:=by
 have:al 1 1 e 1=if e 0 0=true then [] else [0]:=by
  unfold al rs
  simp
 unfold LN
 rw [this]
 cases e 0 0 <;> trivial
structure PG (mg:Str->Option Value) (H:Hp) (x:Addr) (y side top kind:Str) (ps:List V) (h:Nat):Prop where
 pc:Pc mg H x y side top kind (LN side.cps.size top.cps.size (zc side top)) ps h
 rs:Row side
 rt:Row top
theorem PG.same {H H':Hp} {x:Addr} {y side top kind:Str} {ps:List V} {h:Nat} (p:PG mg H x y side top kind ps h) (s:Same H H'):PG mg H' x y side top kind ps h:=⟨p.pc.same s,p.rs,p.rt⟩
theorem vN {H:Hp}:PsH mg H [] []:=⟨rfl,fun i v h e=>by cases e⟩
theorem Ol {h:Nat} (k:xW [] h):h=0:=by
 rcases k with ⟨_,e⟩ | ⟨⟨a,ha,_⟩,_⟩
 ·exact e
 ·cases ha
def Hc (mg:Str->Option Value):Sp:=fun vs H Q _=>∃ (x dx:Addr) (side top:Str),vs=[.ref x,.str side,.str top]/\H x=some (.ins (aF mg "Blank") dx [])/\Row side/\Row top/\(side.cps.size=0\/top.cps.size=0)/\
 ∀ H',Chg x H H'->PG mg H' x "Blank" side top (Str.ofString "blank") [] 0->(∀ m o,H m=some o->m≠x->PG mg (Hx m H') x "Blank" side top (Str.ofString "blank") [] 0)->Q .non H'
theorem tZ:aC ["self","side","top"] ["self","side","top"] (az jB):=⟨rfl,rfl,rfl,by trivial,rfl,by trivial,by trivial⟩
theorem dR (T:Txt K mg):nY P w K mg base 5 "Blank" "__init__" ["self","side","top"] (Hc mg):=by
 have iW:=iW (P:=P) (w:=w) (base:=base) T
 have aQ:=aQ (P:=P) (w:=w) (base:=base) T
 have fH:=fH (P:=P) (w:=w) (base:=base) T
 refine vh T.m_Blank___init__ tZ (fun _ _ _ _ _ _ us hl=>L2.uf (fun _ _ _=>rfl) us hl) ?_ fun f cdv A outer s H vs Q E hr h=>?_
 ·rintro vs H Q E ⟨x,dx,side,top,rfl,_⟩;rfl
 obtain ⟨x,dx,side,top,rfl,hx,rs,rt,he,q⟩:=h
 have hu:=hr.units0
 have hu64:=hr.units
 refine ⟨_,(aA (aY (aJ iW (hr.mono (by decide)) aP (aa (ao 1) (aa (ao 2) aq)) (by trivial))) (aA (bJ (mz (zN (bA uM (aH (aK (K:=K) rfl) aP T.b_len bc (aa (ao 1) aq) (by trivial) (by trivial)) aD (by walk_at "p")) (vK (bA uM (aH (aK (K:=K) rfl) aP T.b_len bc (aa (ao 2) aq) (by trivial) (by trivial)) aD (by walk_at "p"))))) (aB jN) bf) (aB (aY (wM aQ (hr.mono (by decide)) aP aO (aa (ao 0) (aa (ao 1) (aa (ao 2) (aa gq (aa (aJ fH (hr.mono (by decide)) aP (aa (aU aN (aH (aK (K:=K) rfl) aP T.b_len bc (aa (ao 1) aq) (by trivial) (by trivial)) (aH (aK (K:=K) rfl) aP T.b_len bc (aa (ao 2) aq) (by trivial) (by trivial))) aq) (by trivial)) (aa (jd aq) aq)))))) (by trivial)))))),?_⟩
 walk_at "s"
 have lz:side.length<=sizeLine:=Zm rs.1 (by decide)
 have ly:top.length<=sizeLine:=Zm rt.1 (by decide)
 have es:side.length=side.cps.size:=rfl
 have et:top.length=top.cps.size:=rfl
 have h1:=rs.1
 have h2:=rt.1
 refine ⟨side,top,rfl,rs,rt,fun H1 S1=>?_⟩
 walk_at "s"
 refine cz lz ?_
 walk_at "s"
 have fin:∀ (l p:Addr) (H2:Hp) (Q':VK),(∀ G,Q .non G->Q' .non G)->Same H1 H2->H2 l=some (.lst ((nI (List.range (side.cps.size+top.cps.size))).map V.int))->H2 p=some (.lst [])->Ar mg [.ref x,.str side,.str top,.str (Str.ofString "blank"),.ref l,.ref p] H2 Q' E:=fun l p H2 Q' hQ S2 hl hp=>by
  have U:=S1.trans S2
  refine ⟨x,dx,l,p,"Blank",side,top,_,_,[],[],rfl,by unfold Jz;simp,U _ _ hx,hl,hp,by simp,vN,fun h H3 hh C3 P3 N3=>?_⟩
  obtain rfl:=Ol hh
  rw [← Oi (e:=zc side top) he (by omega)] at P3 N3
  exact hQ _ (q H3 (fun b o n e=>C3 b o n (U _ _ e)) ⟨P3,rs,rt⟩ fun m o hm nm=>⟨N3 m o (U _ _ hm) nm,rs,rt⟩)
 by_cases h0:side.cps.size=0
 ·rw [Zc (show ¬ (0:Int) < (side.length:Int) by omega)]
  walk_at "s"
  refine cz lz ?_
  walk_at "s"
  refine cz ly ?_
  walk_at "s"
  refine ⟨side.cps.size+top.cps.size,by rw [es,et];congr 2,by omega,fun l H2 nl S2 hl=>?_⟩
  walk_at "s"
  refine cA rfl fun p H3 np S3 hp=>?_
  walk_at "s"
  exact fin l p H3 _ (fun G z=>z) (S2.trans S3) (S3 _ _ hl) hp
 ·rw [Y9 (show (0:Int) < (side.length:Int) by omega)]
  walk_at "s"
  refine cz ly ?_
  walk_at "s"
  rw [Zc (show ¬ (0:Int) < (top.length:Int) by omega)]
  walk_at "s"
  refine cz lz ?_
  walk_at "s"
  refine cz ly ?_
  walk_at "s"
  refine ⟨side.cps.size+top.cps.size,by rw [es,et];congr 2,by omega,fun l H2 nl S2 hl=>?_⟩
  walk_at "s"
  refine cA rfl fun p H3 np S3 hp=>?_
  walk_at "s"
  exact fin l p H3 _ (fun G z=>z) (S2.trans S3) (S3 _ _ hl) hp
def Tj (mg:Str->Option Value):Sp:=fun vs H Q _=>∃ (x dx:Addr) (c d:Nat),vs=[.ref x,.str ⟨#[c]⟩,.str ⟨#[d]⟩]/\H x=some (.ins (aF mg "One") dx [])/\c∈GOOD/\d∈GOOD/\
 ∀ H',Chg x H H'->PG mg H' x "One" ⟨#[c]⟩ ⟨#[d]⟩ (Str.ofString "one") [] 0->(∀ m o,H m=some o->m≠x->PG mg (Hx m H') x "One" ⟨#[c]⟩ ⟨#[d]⟩ (Str.ofString "one") [] 0)->Q .non H'
theorem vO {c:Nat} (h:c∈GOOD):Row ⟨#[c]⟩:=⟨by rw [Lk];decide,fun d hd=>by simp at hd;rw [hd];exact h⟩
theorem Wd (a b:Nat):decide (V.str ⟨#[a]⟩=V.str ⟨#[b]⟩)=decide (a=b):=by
 refine decide_eq_decide.mpr ⟨fun h=>?_,fun h=>by rw [h]⟩
 have:=Str.mk.inj (V.str.inj h)
 simpa using this
theorem vA:aC ["self","letter","sign"] ["self","letter","sign"] (az lO):=⟨rfl,rfl,rfl,by trivial,rfl,by trivial,by trivial⟩
theorem fB (T:Txt K mg):nY P w K mg base 4 "One" "__init__" ["self","letter","sign"] (Tj mg):=by
 have mG:=mG (P:=P) (w:=w) (base:=base) T
 have aQ:=aQ (P:=P) (w:=w) (base:=base) T
 refine vh T.m_One___init__ vA (fun _ _ _ _ _ _ us hl=>L2.uf (fun _ _ _=>rfl) us hl) ?_ fun f cdv A outer s H vs Q E hr h=>?_
 ·rintro vs H Q E ⟨x,dx,c,d,rfl,_⟩;rfl
 obtain ⟨x,dx,c,d,rfl,hx,hc,hd,q⟩:=h
 have hu:=hr.units0
 have hu64:=hr.units
 refine ⟨_,(aA (aY (aJ mG (hr.mono (by decide)) aP (aa (ao 1) aq) (by trivial))) (aA (aY (aJ mG (hr.mono (by decide)) aP (aa (ao 2) aq) (by trivial))) (aB (aY (wM aQ (hr.mono (by decide)) aP aO (aa (ao 0) (aa (ao 1) (aa (ao 2) (aa gq (aa (Xy (bA (ir (K:=K) rfl hu64) (ao 1) (ao 2) (by walk_at "p")) (jd (aa aD (aa aD aq))) (jd (aa aD (aa aD aq)))) (aa (jd aq) aq)))))) (by trivial)))))),?_⟩
 walk_at "s"
 refine ⟨c,rfl,hc,?_⟩
 walk_at "s"
 refine ⟨d,rfl,hd,?_⟩
 walk_at "s"
 have fin:∀ (l p:Addr) (H2:Hp) (Q':VK),(∀ G,Q .non G->Q' .non G)->Same H H2->H2 l=some (.lst ((nI (LN 1 1 (zc ⟨#[c]⟩ ⟨#[d]⟩))).map V.int))->H2 p=some (.lst [])->Ar mg [.ref x,.str ⟨#[c]⟩,.str ⟨#[d]⟩,.str (Str.ofString "one"),.ref l,.ref p] H2 Q' E:=fun l p H2 Q' hQ U hl hp=>by
  refine ⟨x,dx,l,p,"One",_,_,_,_,[],[],rfl,by unfold Jz;simp,U _ _ hx,hl,hp,by simp,vN,fun h H3 hh C3 P3 N3=>?_⟩
  obtain rfl:=Ol hh
  exact hQ _ (q H3 (fun b o n e=>C3 b o n (U _ _ e)) ⟨P3,vO hc,vO hd⟩ fun m o hm nm=>⟨N3 m o (U _ _ hm) nm,vO hc,vO hd⟩)
 rw [Wd]
 have eE:zc ⟨#[c]⟩ ⟨#[d]⟩ 0 0=decide (c=d):=rfl
 by_cases h:c=d
 ·rw [Y9 h]
  walk_at "s"
  refine cA rfl fun l H2 nl S2 hl=>?_
  walk_at "s"
  refine cA rfl fun p H3 np S3 hp=>?_
  walk_at "s"
  refine fin l p H3 _ (fun G z=>z) (S2.trans S3) ?_ hp
  rw [Oj,eE,Y9 h,if_pos rfl]
  exact S3 _ _ hl
 ·rw [Zc h]
  walk_at "s"
  refine cA rfl fun l H2 nl S2 hl=>?_
  walk_at "s"
  refine cA rfl fun p H3 np S3 hp=>?_
  walk_at "s"
  refine fin l p H3 _ (fun G z=>z) (S2.trans S3) ?_ hp
  rw [Oj,eE,Zc h,if_neg (by decide)]
  exact S3 _ _ hl
theorem jr (a b:Str):(a ++ b).cps.toList=a.cps.toList ++ b.cps.toList:=by
 show (a.cps ++ b.cps).toList=_
 simp
theorem gR (a b:Str):(a ++ b).cps.size=a.cps.size+b.cps.size:=by
 rw [← Zi,jr,Z2,Zi,Zi]
theorem getD_list (z:Str) (i:Nat):z.cps.getD i 0=z.cps.toList.getD i 0:=by
 rw [YZ,Array.getElem?_toList,Array.getD_eq_getD_getElem?]
theorem Fl {a b:Str} {i:Nat} (h:i < a.cps.size):(a ++ b).cps.getD i 0=a.cps.getD i 0:=by
 rw [getD_list,getD_list,jr,YZ,Zu (by simpa using h),YZ]
theorem Fo {a b:Str} {i:Nat}:(a ++ b).cps.getD (a.cps.size+i) 0=b.cps.getD i 0:=by
 rw [getD_list,getD_list,jr,YZ,Zr (by simp),Zi,Aaw,YZ]
theorem vP {a b:Str} (ha:Row a) (hb:Row b) (h:(a ++ b).length<=48):Row (a ++ b):=⟨h,fun c hc=>by
 rw [jr] at hc
 exact (Z0.mp hc).elim (ha.2 c) (hb.2 c)⟩
theorem PG.isP {H:Hp} {x:Addr} {y side top kind:Str} {ps:List V} {h:Nat} (p:PG mg H x y side top kind ps h):IsP mg H (.ref x):=⟨x,y,side,top,kind,_,ps,h,rfl,p.pc⟩
theorem vQ {H:Hp} {u l:Addr} {y s t k y' s' t' k':Str} {ps ps':List V} {h h':Nat} (p:PG mg H u y s t k ps h) (p':PG mg H l y' s' t' k' ps' h'):PsH mg H [.ref u,.ref l] [h,h']:=⟨rfl,fun i v n e1 e2=>by
 match i,e1,e2 with
 | 0,e1,e2=>cases e1;cases e2;exact ⟨u,y,s,t,k,_,ps,rfl,p.pc⟩
 | 1,e1,e2=>cases e1;cases e2;exact ⟨l,y',s',t',k',_,ps',rfl,p'.pc⟩
 | i+2,e1,e2=>cases e1⟩
def Hd (mg:Str->Option Value):Sp:=fun vs H Q _=>∃ (x dx u l:Addr) (yu yl su sl top ku kl:Str) (pu pl:List V) (hu hl:Nat),vs=[.ref x,.ref u,.ref l]/\H x=some (.ins (aF mg "Over") dx [])/\PG mg H u yu su top ku pu hu/\PG mg H l yl sl top kl pl hl/\(su ++ sl).length<=48/\
 ∀ h H',xW [hu,hl] h->Chg x H H'->PG mg H' x "Over" (su ++ sl) top (Str.ofString "over") [.ref u,.ref l] h->(∀ m o,H m=some o->m≠x->PG mg (Hx m H') x "Over" (su ++ sl) top (Str.ofString "over") [.ref u,.ref l] h)->Q .non H'
theorem jC:aC ["self","upper","lower","side","lines"] ["self","upper","lower"] (az jV):=⟨rfl,rfl,rfl,by trivial,rfl,by trivial,by trivial⟩
theorem jX (T:Txt K mg):nY P w K mg base 9 "Over" "__init__" ["self","upper","lower"] (Hd mg):=by
 have fM:=fM (P:=P) (w:=w) (base:=base) T
 have iY:=iY (P:=P) (w:=w) (base:=base) T
 have bK:=bK (P:=P) (w:=w) (base:=base) T
 have bC:=bC (P:=P) (w:=w) (base:=base) T
 have g8:=g8 (P:=P) (w:=w) (base:=base) T
 have oW:=oW (P:=P) (w:=w) (base:=base) T
 have bB:=bB (P:=P) (w:=w) (base:=base) T
 have aQ:=aQ (P:=P) (w:=w) (base:=base) T
 refine vh T.m_Over___init__ jC (fun _ _ _ _ _ _ us hl=>L2.uf (fun _ _ _=>rfl) us hl) ?_ fun f cdv A outer s H vs Q E hr h=>?_
 ·rintro vs H Q E ⟨x,dx,u,l,yu,yl,su,sl,top,ku,kl,pu,pl,nu,nl,rfl,_⟩;rfl
 obtain ⟨x,dx,u,l,yu,yl,su,sl,top,ku,kl,pu,pl,nu,nl,rfl,hx,gu,gl,hlen,q⟩:=h
 have hu:=hr.units0
 have hu64:=hr.units
 refine ⟨_,(aA (aY (aJ fM (hr.mono (by decide)) aP (aa (ao 1) (aa (ao 2) aq)) (by trivial))) (aA (aY (aJ iY (hr.mono (by decide)) aP (aa (bD (mg:=mg) rfl (ao 1) T.os_Piece bK (hr.mono (by decide)) aO) (aa (bD (mg:=mg) rfl (ao 2) T.os_Piece bK (hr.mono (by decide)) aO) aq)) (by trivial))) (aA (aM (i:=3) jC.nd rfl gH (aU aN (bD (mg:=mg) rfl (ao 1) T.os_Piece bC (hr.mono (by decide)) aO) (bD (mg:=mg) rfl (ao 2) T.os_Piece bC (hr.mono (by decide)) aO)) rfl) (aA (aY (aJ g8 (hr.mono (by decide)) aP (aa (ao 3) aq) (by trivial))) (aA (aM (i:=4) jC.nd rfl gH (aJ oW (hr.mono (by decide)) aP (aa (bD (mg:=mg) rfl (ao 1) T.os_Piece bB (hr.mono (by decide)) aO) (aa (bD (mg:=mg) rfl (ao 2) T.os_Piece bB (hr.mono (by decide)) aO) (aa (aH (aK (K:=K) rfl) aP T.b_len bc (aa (bD (mg:=mg) rfl (ao 1) T.os_Piece bK (hr.mono (by decide)) aO) aq) (by trivial) (by trivial)) aq))) (by trivial)) rfl) (aB (aY (wM aQ (hr.mono (by decide)) aP aO (aa (ao 0) (aa (ao 3) (aa (bD (mg:=mg) rfl (ao 1) T.os_Piece bK (hr.mono (by decide)) aO) (aa gq (aa (ao 4) (aa (jd (aa (ao 1) (aa (ao 2) aq))) aq)))))) (by trivial))))))))),?_⟩
 walk_at "s"
 have hz:20000<=sizeLine:=by decide
 have h2:top.length<=48:=gu.rt.1
 have ly:top.length<=sizeLine:=by omega
 have et:top.length=top.cps.size:=rfl
 have es:(su ++ sl).length=(su ++ sl).cps.size:=rfl
 have ec:=gR su sl
 have el:(su ++ sl).length=su.length+sl.length:=gR su sl
 refine ⟨_,_,rfl,gu.isP,gl.isP,fun H1 S1=>?_⟩
 walk_at "s"
 have gu1:=gu.same S1
 have gl1:=gl.same S1
 obtain ⟨hyu,du,au,bu,xu,_,_⟩:=id gu1.pc
 obtain ⟨hyl,dl,al',bl,xl,_,_⟩:=id gl1.pc
 refine ⟨u,yu,du,_,rfl,hyu,xu,rfl,?_⟩
 walk_at "s"
 refine ⟨u,yu,_,_,_,rfl,gu1.pc.p8,?_⟩
 walk_at "s"
 refine ⟨l,yl,dl,_,rfl,hyl,xl,rfl,?_⟩
 walk_at "s"
 refine ⟨l,yl,_,_,_,rfl,gl1.pc.p8,?_⟩
 walk_at "s"
 refine ⟨top,rfl,?_⟩
 walk_at "s"
 refine ⟨u,yu,du,_,rfl,hyu,xu,rfl,?_⟩
 walk_at "s"
 refine ⟨u,yu,_,_,_,rfl,gu1.pc.p8,?_⟩
 walk_at "s"
 refine ⟨l,yl,dl,_,rfl,hyl,xl,rfl,?_⟩
 walk_at "s"
 refine ⟨l,yl,_,_,_,rfl,gl1.pc.p8,?_⟩
 walk_at "s"
 refine iH (by omega) ?_
 walk_at "s"
 refine ⟨su ++ sl,rfl,hlen,?_⟩
 walk_at "s"
 refine ⟨u,yu,du,_,rfl,hyu,xu,rfl,?_⟩
 walk_at "s"
 refine ⟨u,yu,_,_,_,_,_,_,rfl,gu1.pc,fun ru H2 nru S2 hru=>?_⟩
 walk_at "s"
 refine ⟨l,yl,dl,_,rfl,hyl,S2 _ _ xl,rfl,?_⟩
 walk_at "s"
 refine ⟨l,yl,_,_,_,_,_,_,rfl,gl1.pc.same S2,fun rl H3 nrl S3 hrl=>?_⟩
 walk_at "s"
 have U3:=S2.trans S3
 refine ⟨u,yu,du,_,rfl,hyu,U3 _ _ xu,rfl,?_⟩
 walk_at "s"
 refine ⟨u,yu,_,_,_,rfl,(gu1.pc.same U3).p8,?_⟩
 walk_at "s"
 refine cz ly ?_
 walk_at "s"
 refine ⟨ru,rl,su.cps.size,sl.cps.size,top.cps.size,zc (su ++ sl) top,rfl,by omega,?_,?_,fun rr H4 nrr S4 hrr=>?_⟩
 walk_at "s"
 ·rw [nM (e':=zc su top) fun i j hi hj=>by unfold zc;rw [Fl hi]]
  exact S3 _ _ hru
 ·rw [nM (e':=zc sl top) fun i j hi hj=>by unfold zc;rw [Fo]]
  exact hrl
 have U4:=U3.trans S4
 walk_at "s"
 refine ⟨u,yu,du,_,rfl,hyu,U4 _ _ xu,rfl,?_⟩
 walk_at "s"
 refine ⟨u,yu,_,_,_,rfl,(gu1.pc.same U4).p8,?_⟩
 walk_at "s"
 refine cA rfl fun pp H5 npp S5 hpp=>?_
 walk_at "s"
 have U5:=S1.trans (U4.trans S5)
 refine ⟨x,dx,rr,pp,"Over",su ++ sl,top,_,_,_,[nu,nl],rfl,by unfold Jz;simp,U5 _ _ hx,S5 _ _ hrr,hpp,by simp,vQ (gu.same U5) (gl.same U5),fun h H6 hh C6 P6 N6=>?_⟩
 rw [← ec] at P6 N6
 exact q h H6 hh (fun b o n e=>C6 b o n (U5 _ _ e)) ⟨P6,vP gu.rs gl.rs hlen,gu.rt⟩ fun m o hm nm=>⟨N6 m o (U5 _ _ hm) nm,vP gu.rs gl.rs hlen,gu.rt⟩
def zf (mg:Str->Option Value):Sp:=fun vs H Q _=>∃ (x dx u l:Addr) (yu yl side tu tl ku kl:Str) (pu pl:List V) (hu hl:Nat),vs=[.ref x,.ref u,.ref l]/\H x=some (.ins (aF mg "Beside") dx [])/\PG mg H u yu side tu ku pu hu/\PG mg H l yl side tl kl pl hl/\(tu ++ tl).length<=48/\
 ∀ h H',xW [hu,hl] h->Chg x H H'->PG mg H' x "Beside" side (tu ++ tl) (Str.ofString "beside") [.ref u,.ref l] h->(∀ m o,H m=some o->m≠x->PG mg (Hx m H') x "Beside" side (tu ++ tl) (Str.ofString "beside") [.ref u,.ref l] h)->Q .non H'
theorem iR:aC ["self","left","right","top","lines"] ["self","left","right"] (az jo):=⟨rfl,rfl,rfl,by trivial,rfl,by trivial,by trivial⟩
theorem jt (T:Txt K mg):nY P w K mg base 9 "Beside" "__init__" ["self","left","right"] (zf mg):=by
 have fM:=fM (P:=P) (w:=w) (base:=base) T
 have iY:=iY (P:=P) (w:=w) (base:=base) T
 have bC:=bC (P:=P) (w:=w) (base:=base) T
 have bK:=bK (P:=P) (w:=w) (base:=base) T
 have g8:=g8 (P:=P) (w:=w) (base:=base) T
 have fu:=fu (P:=P) (w:=w) (base:=base) T
 have bB:=bB (P:=P) (w:=w) (base:=base) T
 have aQ:=aQ (P:=P) (w:=w) (base:=base) T
 refine vh T.m_Beside___init__ iR (fun _ _ _ _ _ _ us hl=>L2.uf (fun _ _ _=>rfl) us hl) ?_ fun f cdv A outer s H vs Q E hr h=>?_
 ·rintro vs H Q E ⟨x,dx,u,l,yu,yl,side,tu,tl,ku,kl,pu,pl,nu,nl,rfl,_⟩;rfl
 obtain ⟨x,dx,u,l,yu,yl,side,tu,tl,ku,kl,pu,pl,nu,nl,rfl,hx,gu,gl,hlen,q⟩:=h
 have hu:=hr.units0
 have hu64:=hr.units
 refine ⟨_,(aA (aY (aJ fM (hr.mono (by decide)) aP (aa (ao 1) (aa (ao 2) aq)) (by trivial))) (aA (aY (aJ iY (hr.mono (by decide)) aP (aa (bD (mg:=mg) rfl (ao 1) T.os_Piece bC (hr.mono (by decide)) aO) (aa (bD (mg:=mg) rfl (ao 2) T.os_Piece bC (hr.mono (by decide)) aO) aq)) (by trivial))) (aA (aM (i:=3) iR.nd rfl gH (aU aN (bD (mg:=mg) rfl (ao 1) T.os_Piece bK (hr.mono (by decide)) aO) (bD (mg:=mg) rfl (ao 2) T.os_Piece bK (hr.mono (by decide)) aO)) rfl) (aA (aY (aJ g8 (hr.mono (by decide)) aP (aa (ao 3) aq) (by trivial))) (aA (aM (i:=4) iR.nd rfl gH (aJ fu (hr.mono (by decide)) aP (aa (bD (mg:=mg) rfl (ao 1) T.os_Piece bB (hr.mono (by decide)) aO) (aa (bD (mg:=mg) rfl (ao 2) T.os_Piece bB (hr.mono (by decide)) aO) (aa (aH (aK (K:=K) rfl) aP T.b_len bc (aa (bD (mg:=mg) rfl (ao 1) T.os_Piece bC (hr.mono (by decide)) aO) aq) (by trivial) (by trivial)) aq))) (by trivial)) rfl) (aB (aY (wM aQ (hr.mono (by decide)) aP aO (aa (ao 0) (aa (bD (mg:=mg) rfl (ao 1) T.os_Piece bC (hr.mono (by decide)) aO) (aa (ao 3) (aa gq (aa (ao 4) (aa (jd (aa (ao 1) (aa (ao 2) aq))) aq)))))) (by trivial))))))))),?_⟩
 walk_at "s"
 have hz:20000<=sizeLine:=by decide
 have h2:side.length<=48:=gu.rs.1
 have ly:side.length<=sizeLine:=by omega
 have et:side.length=side.cps.size:=rfl
 have es:(tu ++ tl).length=(tu ++ tl).cps.size:=rfl
 have ec:=gR tu tl
 have el:(tu ++ tl).length=tu.length+tl.length:=gR tu tl
 refine ⟨_,_,rfl,gu.isP,gl.isP,fun H1 S1=>?_⟩
 walk_at "s"
 have gu1:=gu.same S1
 have gl1:=gl.same S1
 obtain ⟨hyu,du,au,bu,xu,_,_⟩:=id gu1.pc
 obtain ⟨hyl,dl,al',bl,xl,_,_⟩:=id gl1.pc
 refine ⟨u,yu,du,_,rfl,hyu,xu,rfl,?_⟩
 walk_at "s"
 refine ⟨u,yu,_,_,_,rfl,gu1.pc.p8,?_⟩
 walk_at "s"
 refine ⟨l,yl,dl,_,rfl,hyl,xl,rfl,?_⟩
 walk_at "s"
 refine ⟨l,yl,_,_,_,rfl,gl1.pc.p8,?_⟩
 walk_at "s"
 refine ⟨side,rfl,?_⟩
 walk_at "s"
 refine ⟨u,yu,du,_,rfl,hyu,xu,rfl,?_⟩
 walk_at "s"
 refine ⟨u,yu,_,_,_,rfl,gu1.pc.p8,?_⟩
 walk_at "s"
 refine ⟨l,yl,dl,_,rfl,hyl,xl,rfl,?_⟩
 walk_at "s"
 refine ⟨l,yl,_,_,_,rfl,gl1.pc.p8,?_⟩
 walk_at "s"
 refine iH (by omega) ?_
 walk_at "s"
 refine ⟨tu ++ tl,rfl,hlen,?_⟩
 walk_at "s"
 refine ⟨u,yu,du,_,rfl,hyu,xu,rfl,?_⟩
 walk_at "s"
 refine ⟨u,yu,_,_,_,_,_,_,rfl,gu1.pc,fun ru H2 nru S2 hru=>?_⟩
 walk_at "s"
 refine ⟨l,yl,dl,_,rfl,hyl,S2 _ _ xl,rfl,?_⟩
 walk_at "s"
 refine ⟨l,yl,_,_,_,_,_,_,rfl,gl1.pc.same S2,fun rl H3 nrl S3 hrl=>?_⟩
 walk_at "s"
 have U3:=S2.trans S3
 refine ⟨u,yu,du,_,rfl,hyu,U3 _ _ xu,rfl,?_⟩
 walk_at "s"
 refine ⟨u,yu,_,_,_,rfl,(gu1.pc.same U3).p8,?_⟩
 walk_at "s"
 refine cz ly ?_
 walk_at "s"
 refine ⟨ru,rl,side.cps.size,tu.cps.size,tl.cps.size,zc side (tu ++ tl),rfl,by omega,?_,?_,fun rr H4 nrr S4 hrr=>?_⟩
 walk_at "s"
 ·rw [nM (e':=zc side tu) fun i j hi hj=>by unfold zc;rw [Fl hj]]
  exact S3 _ _ hru
 ·rw [nM (e':=zc side tl) fun i j hi hj=>by unfold zc;rw [Fo]]
  exact hrl
 have U4:=U3.trans S4
 walk_at "s"
 refine ⟨u,yu,du,_,rfl,hyu,U4 _ _ xu,rfl,?_⟩
 walk_at "s"
 refine ⟨u,yu,_,_,_,rfl,(gu1.pc.same U4).p8,?_⟩
 walk_at "s"
 refine cA rfl fun pp H5 npp S5 hpp=>?_
 walk_at "s"
 have U5:=S1.trans (U4.trans S5)
 refine ⟨x,dx,rr,pp,"Beside",side,tu ++ tl,_,_,_,[nu,nl],rfl,by unfold Jz;simp,U5 _ _ hx,S5 _ _ hrr,hpp,by simp,vQ (gu.same U5) (gl.same U5),fun h H6 hh C6 P6 N6=>?_⟩
 rw [← ec] at P6 N6
 exact q h H6 hh (fun b o n e=>C6 b o n (U5 _ _ e)) ⟨P6,gu.rs,vP gu.rt gl.rt hlen⟩ fun m o hm nm=>⟨N6 m o (U5 _ _ hm) nm,gu.rs,vP gu.rt gl.rt hlen⟩
def TK (y kind:Str):Prop:=(y="Blank"/\kind=Str.ofString "blank")\/(y="One"/\kind=Str.ofString "one")\/(y="Over"/\kind=Str.ofString "over")\/(y="Beside"/\kind=Str.ofString "beside")
theorem xq {H H2:Hp} {x dx:Addr} {o1 o2:HO} (nx:H x=none) (nd:H dx=none) (c:Chg x (upd (upd H dx o1) x o2) H2):Same H H2:=fun b o e=>by
 have h1:b≠x:=fun z=>by rw [z,nx] at e;cases e
 have h2:b≠dx:=fun z=>by rw [z,nd] at e;cases e
 exact c b o h1 (by rw [aG h1,aG h2];exact e)
theorem CW {H:Hp} {x dx m:Addr} {o o1 o2:HO} (nx:H x=none) (nd:H dx=none) (hm:H m=some o):upd (upd H dx o1) x o2 m=some o/\m≠x:=by
 have h1:m≠x:=fun z=>by rw [z,nx] at hm;cases hm
 have h2:m≠dx:=fun z=>by rw [z,nd] at hm;cases hm
 exact ⟨by rw [aG h1,aG h2];exact hm,h1⟩
theorem Rv {H:Hp} {x dx:Addr} {o1 o2:HO} (nx:H x=none) (nd:H dx=none):Same H (upd (upd H dx o1) x o2):=fun b o e=>(CW nx nd e).1
theorem PsH.same {H H':Hp} {ps:List V} {hs:List Nat} (p:PsH mg H ps hs) (c:Same H H'):PsH mg H' ps hs:=⟨p.1,fun i v h e1 e2=>by
 obtain ⟨q,y,s,t,k,L,qs,rfl,z⟩:=p.2 i v h e1 e2
 exact ⟨q,y,s,t,k,L,qs,rfl,z.same c⟩⟩
def GP1 (mg:Str->Option Value) (H:Hp) (x:Addr) (side top:Str) (h:Nat):Prop:=∃ (y kind:Str) (ps:List V) (hs:List Nat),PG mg H x y side top kind ps h/\TK y kind/\PsH mg H ps hs/\xW hs h/\((ps=[]/\(kind=Str.ofString "blank"\/kind=Str.ofString "one"))\/ps.length=2)
theorem GP1.same {H H':Hp} {x:Addr} {side top:Str} {h:Nat} (p:GP1 mg H x side top h) (c:Same H H'):GP1 mg H' x side top h:=by
 obtain ⟨y,k,ps,hs,a,b,d,e,f⟩:=p
 exact ⟨y,k,ps,hs,a.same c,b,d.same c,e,f⟩
theorem GP1.blank {H:Hp} {x:Addr} {side top:Str} (p:PG mg H x "Blank" side top (Str.ofString "blank") [] 0):GP1 mg H x side top 0:=⟨_,_,_,[],p,.inl ⟨rfl,rfl⟩,vN,.inl ⟨rfl,rfl⟩,.inl ⟨rfl,.inl rfl⟩⟩
theorem GP1.one {H:Hp} {x:Addr} {side top:Str} (p:PG mg H x "One" side top (Str.ofString "one") [] 0):GP1 mg H x side top 0:=⟨_,_,_,[],p,.inr (.inl ⟨rfl,rfl⟩),vN,.inl ⟨rfl,rfl⟩,.inl ⟨rfl,.inr rfl⟩⟩
theorem GP1.two {H:Hp} {x u l:Addr} {y kind side top s1 t1 s2 t2:Str} {h hu hl:Nat} (tk:TK y kind) (p:PG mg H x y side top kind [.ref u,.ref l] h) (hh:xW [hu,hl] h) (gu:GP1 mg H u s1 t1 hu) (gl:GP1 mg H l s2 t2 hl):GP1 mg H x side top h:=by
 obtain ⟨_,_,_,_,a,_⟩:=gu
 obtain ⟨_,_,_,_,b,_⟩:=gl
 exact ⟨y,kind,_,[hu,hl],p,tk,vQ a b,hh,.inr rfl⟩
def Hm (H0 H:Hp):Hp:=fun b=>match H0 b with
 | some _=>none
 | none=>H b
theorem Om {H0 H:Hp} {b:Addr} {o:HO} (h:Hm H0 H b=some o):H0 b=none/\H b=some o:=by
 unfold Hm at h
 split at h
 ·cases h
 ·exact ⟨by assumption,h⟩
theorem zg {H0 H:Hp} {b:Addr} {o:HO} (h:H b=some o) (n:H0 b=none):Hm H0 H b=some o:=by unfold Hm;rw [n];exact h
theorem Rw {H0 H:Hp}:Same (Hm H0 H) H:=fun b o e=>(Om e).2
theorem Ys {H0 H H':Hp} (c:Same H H'):Same (Hm H0 H) (Hm H0 H'):=fun b o e=>zg (c _ _ (Om e).2) (Om e).1
def Dm (H0 H:Hp):Prop:=∀ m o,H0 m=some o->∃ o',H m=some o'
theorem Dm.of {H0 H:Hp} (s:Same H0 H):Dm H0 H:=fun m o e=>⟨o,s _ _ e⟩
theorem Dm.same {H0 H H':Hp} (d:Dm H0 H) (s:Same H H'):Dm H0 H':=fun m o e=>let ⟨o',e'⟩:=d m o e;⟨o',s _ _ e'⟩
theorem PG.hm {H0 H:Hp} {x:Addr} {y side top kind:Str} {ps:List V} {h:Nat} (p:PG mg H x y side top kind ps h) (N:∀ m o,H0 m=some o->PG mg (Hx m H) x y side top kind ps h):PG mg (Hm H0 H) x y side top kind ps h:=by
 obtain ⟨⟨hy,dx,al,ap,a,b,c⟩,rs,rt⟩:=p
 have key:∀ m o,H0 m=some o->x≠m/\al≠m/\ap≠m:=fun m o hm=>by
  obtain ⟨⟨_,dx',al',ap',a',b',c'⟩,_,_⟩:=N m o hm
  have e:=Ha m H _ _ a'
  rw [a] at e
  simp only [Option.some.injEq,HO.ins.injEq,Oe,List.cons.injEq,Prod.mk.injEq,V.ref.injEq,true_and,and_true] at e
  obtain ⟨_,rfl,rfl⟩:=e
  have nn:∀ {b:Addr} {o:HO},Hx m H b=some o->b≠m:=fun {b o} hb z=>by rw [z] at hb;unfold Hx at hb;rw [if_pos rfl] at hb;cases hb
  exact ⟨nn a',nn b',nn c'⟩
 have out:∀ b,(∀ m o,H0 m=some o->b≠m)->H0 b=none:=fun b hb=>by
  cases h:H0 b with
  | none=>rfl
  | some o=>exact absurd rfl (hb b o h)
 exact ⟨⟨hy,dx,al,ap,zg a (out x fun m o hm=>(key m o hm).1),zg b (out al fun m o hm=>(key m o hm).2.1),zg c (out ap fun m o hm=>(key m o hm).2.2)⟩,rs,rt⟩
def GP (mg:Str->Option Value) (H0 H:Hp) (x:Addr) (side top:Str) (h:Nat):Prop:=GP1 mg (Hm H0 H) x side top h
theorem GP.g {H0 H:Hp} {x:Addr} {side top:Str} {h:Nat} (p:GP mg H0 H x side top h):GP1 mg H x side top h:=GP1.same p Rw
theorem GP.same {H0 H H':Hp} {x:Addr} {side top:Str} {h:Nat} (p:GP mg H0 H x side top h) (c:Same H H'):GP mg H0 H' x side top h:=GP1.same p (Ys c)
theorem Rx {H:Hp} {a m:Addr} {o:HO} (hm:H m=some o) (n:H a=none):a≠m:=fun z=>by rw [z,hm] at n;cases n
theorem xr {H0 H:Hp} {side top:Str} {R:Addr->Hp->Prop} {E:XK} (S0:Dm H0 H) (rs:Row side) (rt:Row top) (he:side.cps.size=0\/top.cps.size=0) (q:∀ x H',Same H H'->PG mg H' x "Blank" side top (Str.ofString "blank") [] 0->GP mg H0 H' x side top 0->R x H') (x dx:Addr) (nx:H x=none) (nd:H dx=none) (_:dx≠x):
  Hc mg [.ref x,.str side,.str top] (upd (upd H dx (.own x)) x (.ins (aF mg "Blank") dx [])) (fun v H2=>v= .non/\R x H2) E:=
 ⟨x,dx,side,top,rfl,aj,rs,rt,he,fun H2 C P2 N2=>⟨rfl,q x H2 (xq nx nd C) P2 (GP1.blank (P2.hm fun m o hm=>let ⟨o',e⟩:=S0 m o hm;N2 m o' (CW nx nd e).1 (Rx e nx).symm))⟩⟩
theorem Oo {H0 H:Hp} {c d:Nat} {R:Addr->Hp->Prop} {E:XK} (S0:Dm H0 H) (hc:c∈GOOD) (hd:d∈GOOD) (q:∀ x H',Same H H'->PG mg H' x "One" ⟨#[c]⟩ ⟨#[d]⟩ (Str.ofString "one") [] 0->GP mg H0 H' x ⟨#[c]⟩ ⟨#[d]⟩ 0->R x H') (x dx:Addr) (nx:H x=none) (nd:H dx=none) (_:dx≠x):
  Tj mg [.ref x,.str ⟨#[c]⟩,.str ⟨#[d]⟩] (upd (upd H dx (.own x)) x (.ins (aF mg "One") dx [])) (fun v H2=>v= .non/\R x H2) E:=
 ⟨x,dx,c,d,rfl,aj,hc,hd,fun H2 C P2 N2=>⟨rfl,q x H2 (xq nx nd C) P2 (GP1.one (P2.hm fun m o hm=>let ⟨o',e⟩:=S0 m o hm;N2 m o' (CW nx nd e).1 (Rx e nx).symm))⟩⟩
theorem Ry {H0 H:Hp} {u l:Addr} {su sl top:Str} {hu hl:Nat} {R:Addr->Hp->Prop} {E:XK} (S0:Dm H0 H) (gu:GP mg H0 H u su top hu) (gl:GP mg H0 H l sl top hl) (hlen:(su ++ sl).length<=48) (q:∀ x h H',Same H H'->xW [hu,hl] h->PG mg H' x "Over" (su ++ sl) top (Str.ofString "over") [.ref u,.ref l] h->GP mg H0 H' x (su ++ sl) top h->R x H') (x dx:Addr) (nx:H x=none) (nd:H dx=none) (_:dx≠x):
  Hd mg [.ref x,.ref u,.ref l] (upd (upd H dx (.own x)) x (.ins (aF mg "Over") dx [])) (fun v H2=>v= .non/\R x H2) E:=by
 obtain ⟨_,_,_,_,a,_⟩:=id gu.g
 obtain ⟨_,_,_,_,b,_⟩:=id gl.g
 refine ⟨x,dx,u,l,_,_,su,sl,top,_,_,_,_,hu,hl,rfl,aj,a.same (Rv nx nd),b.same (Rv nx nd),hlen,fun h H2 hh C P2 N2=>⟨rfl,?_⟩⟩
 have S:=xq nx nd C
 have tk:TK "Over" (Str.ofString "over"):=.inr (.inr (.inl ⟨rfl,rfl⟩))
 exact q x h H2 S hh P2 (GP1.two tk (P2.hm fun m o hm=>let ⟨o',e⟩:=S0 m o hm;N2 m o' (CW nx nd e).1 (Rx e nx).symm) hh (gu.same S) (gl.same S))
theorem JK {H0 H:Hp} {u l:Addr} {side tu tl:Str} {hu hl:Nat} {R:Addr->Hp->Prop} {E:XK} (S0:Dm H0 H) (gu:GP mg H0 H u side tu hu) (gl:GP mg H0 H l side tl hl) (hlen:(tu ++ tl).length<=48) (q:∀ x h H',Same H H'->xW [hu,hl] h->PG mg H' x "Beside" side (tu ++ tl) (Str.ofString "beside") [.ref u,.ref l] h->GP mg H0 H' x side (tu ++ tl) h->R x H') (x dx:Addr) (nx:H x=none) (nd:H dx=none) (_:dx≠x):
  zf mg [.ref x,.ref u,.ref l] (upd (upd H dx (.own x)) x (.ins (aF mg "Beside") dx [])) (fun v H2=>v= .non/\R x H2) E:=by
 obtain ⟨_,_,_,_,a,_⟩:=id gu.g
 obtain ⟨_,_,_,_,b,_⟩:=id gl.g
 refine ⟨x,dx,u,l,_,_,side,tu,tl,_,_,_,_,hu,hl,rfl,aj,a.same (Rv nx nd),b.same (Rv nx nd),hlen,fun h H2 hh C P2 N2=>⟨rfl,?_⟩⟩
 have S:=xq nx nd C
 have tk:TK "Beside" (Str.ofString "beside"):=.inr (.inr (.inr ⟨rfl,rfl⟩))
 exact q x h H2 S hh P2 (GP1.two tk (P2.hm fun m o hm=>let ⟨o',e⟩:=S0 m o hm;N2 m o' (CW nx nd e).1 (Rx e nx).symm) hh (gu.same S) (gl.same S))
theorem Tp {a b h n:Nat} (k:xW [a,b] h) (ha:a<=n) (hb:b<=n):h<=n+1:=by
 rcases k with ⟨e,_⟩ | ⟨⟨c,hc,e⟩,_⟩
 ·cases e
 ·simp only [Y7,Zq,or_false] at hc
  rcases hc with rfl | rfl <;> omega
theorem t6 {a b:Str} (h:a.cps.toList=b.cps.toList):a=b:=by
 cases a;cases b;congr;exact Array.ext' h
def kZ:List Str->Str
 | []=>Str.ofString ""
 | s :: ss=>s ++ kZ ss
theorem vR:(Str.ofString "").cps.toList=[]:=by trivial
theorem Hf (s:Str):s ++ Str.ofString ""=s:=t6 (by rw [jr,vR,ZV])
theorem Rz (s:Str):Str.ofString "" ++ s=s:=t6 (by rw [jr,vR,List.nil_append])
theorem JL (a b c:Str):a ++ b ++ c=a ++ (b ++ c):=t6 (by rw [jr,jr,jr,jr,List.append_assoc])
theorem CZ:∀ (a b:List Str),kZ (a ++ b)=kZ a ++ kZ b
 | [],b=>(Rz _).symm
 | s :: a,b=>by show s ++ kZ (a ++ b)=s ++ kZ a ++ kZ b;rw [CZ a b,JL]
def qR (z:Str):List Str:=z.cps.toList.map fun c=>⟨#[c]⟩
theorem qJ (z:Str):kZ (qR z)=z:=by
 refine t6 ?_
 unfold qR
 induction z.cps.toList with
 | nil=>exact vR
 | cons c l ih=>show (⟨#[c]⟩ ++ kZ _:Str).cps.toList=_;rw [jr,ih];rfl
theorem len_cat (a b:Str):(a ++ b).length=a.length+b.length:=gR a b
def Oq (K:W.Frag) (mg:Str->Option Value) (d:Nat):Sp:=fun vs H Q _=>∃ (p:Addr) (xs:List Addr) (side:Str) (ts:List Str) (h0:Nat) (H0:Hp),vs=[.ref p]/\Dm H0 H/\H p=some (.lst (xs.map V.ref))/\xs.length=ts.length/\0 < xs.length/\xs.length<=2 ^ d/\(kZ ts).length<=48/\(∀ (i:Nat) (x:Addr) (t:Str),xs[i]?=some x->ts[i]?=some t->∃ h,h<=h0/\GP mg H0 H x side t h)/\
 ∀ x h H',Same H H'->h<=h0+d->GP mg H0 H' x side (kZ ts) h->Q (.ref x) H'
def Yt (K:W.Frag) (mg:Str->Option Value):Nat->Sp
 | 0=>fun _ _ _ _=>False
 | d+1=>Oq K mg d
def Ot (K:W.Frag) (mg:Str->Option Value) (d:Nat):Sp:=fun vs H Q _=>∃ (p:Addr) (xs:List Addr) (top:Str) (ts:List Str) (h0:Nat) (H0:Hp),vs=[.ref p]/\Dm H0 H/\H p=some (.lst (xs.map V.ref))/\xs.length=ts.length/\0 < xs.length/\xs.length<=2 ^ d/\(kZ ts).length<=48/\(∀ (i:Nat) (x:Addr) (t:Str),xs[i]?=some x->ts[i]?=some t->∃ h,h<=h0/\GP mg H0 H x t top h)/\
 ∀ x h H',Same H H'->h<=h0+d->GP mg H0 H' x (kZ ts) top h->Q (.ref x) H'
def Yu (K:W.Frag) (mg:Str->Option Value):Nat->Sp
 | 0=>fun _ _ _ _=>False
 | d+1=>Ot K mg d
theorem zj {ts:List Str} {c:Nat} (h:(kZ ts).length<=48):kZ ts=kZ (ts.take c) ++ kZ (ts.drop c)/\(kZ (ts.take c)).length+(kZ (ts.drop c)).length<=48:=by
 have e:kZ ts=kZ (ts.take c) ++ kZ (ts.drop c):=by rw [← CZ,List.take_append_drop]
 refine ⟨e,?_⟩
 rw [e,len_cat] at h
 exact h
theorem half {n d:Nat} (h:n<=2 ^ (d+1)):n / 2<=2 ^ d/\n - n / 2<=2 ^ d:=by
 rw [Nat.pow_succ] at h
 omega
theorem mX:aC ["pieces","cut"] ["pieces"] (az oJ):=⟨rfl,rfl,rfl,by trivial,rfl,by trivial,by trivial⟩
theorem xY (T:Txt K mg):Has P w K mg base 1 "all_beside" ["pieces"] (fun _ _ _ _=>False):=fj (k:=0) T.d_all_beside mX (fun _ _ _ _ _ _ us hl=>L2.iG (fun _=>rfl) us hl) (fun _ _ _ _ h=>h.elim) (fun _ _ _ _ _ _ _ _ _ _ h=>h.elim)
theorem qT (T:Txt K mg) (d:Nat) (ie:Has P w K mg base (10+d) "all_beside" ["pieces"] (Yt K mg d)):Has P w K mg base (10+d+1) "all_beside" ["pieces"] (Oq K mg d):=by
 have jt:=jt (P:=P) (w:=w) (base:=base) T
 refine fj T.d_all_beside mX (fun _ _ _ _ _ _ us hl=>L2.iG (fun _=>rfl) us hl) ?_ fun f cdv A outer s H vs Q E hr h=>?_
 ·rintro vs H Q E ⟨p,xs,side,ts,h0,H0,rfl,_⟩;rfl
 obtain ⟨p,xs,side,ts,h0,H0,rfl,hS0,hp,hl,h1,h2,hlen,hG,q⟩:=h
 have hu:=hr.units0
 have hu64:=hr.units
 refine ⟨_,(aA (bJ (bA (ir (K:=K) rfl hu64) (aH (aK (K:=K) rfl) aP T.b_len bc (aa (ao 0) aq) (by trivial) (by trivial)) aD (by walk_at "p")) (aB (aL (pL (K:=K) rfl (ao 0) aD))) bf) (aA (aM (i:=1) mX.nd rfl gH (aU fG (aH (aK (K:=K) rfl) aP T.b_len bc (aa (ao 0) aq) (by trivial) (by trivial)) aD) rfl) (aB (aL (jF T.o_Beside jt (hr.mono (by omega)) aP (jg fun _ _=>rfl) (aa (aJ ie (hr.mono (by omega)) aP (aa (cu (vH (K:=K) rfl) (ao 0) cj (bL (ao 1))) aq) (by trivial)) (aa (aJ ie (hr.mono (by omega)) aP (aa (cu (vH (K:=K) rfl) (ao 0) (bL (ao 1)) cj) aq) (by trivial)) aq)) (by trivial)))))),?_⟩
 walk_at "s"
 have hz:20000<=sizeLine:=by decide
 refine gO (SqL.of hp) ?_
 walk_at "s"
 rw [Zj]
 by_cases e1:xs.length=1
 ·rw [Y9 (show V.int (xs.length:Int)=V.int 1 by rw [e1];rfl)]
  obtain ⟨x,rfl⟩:=Aa1.mp e1
  obtain ⟨t,rfl⟩:=Aa1.mp (hl.symm.trans e1)
  obtain ⟨h,hh,g⟩:=hG 0 x t rfl rfl
  have hp':H p=some (.lst [.ref x]):=hp
  walk_at "s"
  refine q x h H (Same.refl H) (by omega) ?_
  rw [show kZ [t]=t from Hf t]
  exact g
 ·rw [Zc (show ¬ V.int (xs.length:Int)=V.int 1 from fun z=>e1 (by have:=V.int.inj z;omega))]
  obtain ⟨e,rfl⟩:∃ e,d=e+1:=by
   cases d with
   | zero=>simp at h2;omega
   | succ e=>exact ⟨e,rfl⟩
  obtain ⟨k1,k2⟩:=half h2
  walk_at "s"
  refine gO (SqL.of hp) ?_
  walk_at "s"
  rw [Zj,show ((xs.length:Nat):Int) / 2=((xs.length / 2:Nat):Int) by omega]
  generalize hc:xs.length / 2=c at k1 k2 ⊢
  obtain ⟨c1,c2⟩:=zj (c:=c) hlen
  walk_at "s"
  refine yF (SqL.of hp) fun p1 np1=>?_
  walk_at "s"
  rw [Cd,← List.map_take]
  have S1:=(Same.refl H).upd np1 (o:=.lst ((xs.take c).map V.ref))
  have hp1:=aj (H:=H) (a:=p1) (o:=.lst ((xs.take c).map V.ref))
  generalize upd H p1 (.lst ((xs.take c).map V.ref))=H1 at S1 hp1 ⊢
  walk_at "s"
  refine ⟨p1,xs.take c,side,ts.take c,h0,H0,rfl,hS0.same S1,hp1,by simp;omega,by simp;omega,by simp;omega,by omega,(fun i x t ex et=>?_),fun x1 g1 H2 S2 l1 G1=>?_⟩
  walk_at "s"
  ·obtain ⟨ei,ex'⟩:i < c/\xs[i]?=some x:=by
    rw [List.getElem?_take] at ex
    split at ex
    ·exact ⟨by assumption,ex⟩
    ·cases ex
   rw [List.getElem?_take_of_lt ei] at et
   obtain ⟨h,hh,g⟩:=hG i x t ex' et
   exact ⟨h,hh,g.same S1⟩
  have U2:=S1.trans S2
  try walk_at "s"
  refine yF (SqL.of (U2 _ _ hp)) fun p2 np2=>?_
  walk_at "s"
  rw [wL,← List.map_drop]
  have S3:=(Same.refl H2).upd np2 (o:=.lst ((xs.drop c).map V.ref))
  have hp3:=aj (H:=H2) (a:=p2) (o:=.lst ((xs.drop c).map V.ref))
  generalize upd H2 p2 (.lst ((xs.drop c).map V.ref))=H3 at S3 hp3 ⊢
  walk_at "s"
  refine ⟨p2,xs.drop c,side,ts.drop c,h0,H0,rfl,hS0.same (U2.trans S3),hp3,by simp;omega,by simp;omega,by simp;omega,by omega,(fun i x t ex et=>?_),fun x2 g2 H4 S4 l2 G2=>?_⟩
  walk_at "s"
  ·rw [List.getElem?_drop] at ex et
   obtain ⟨h,hh,g⟩:=hG _ x t ex et
   exact ⟨h,hh,g.same (U2.trans S3)⟩
  try walk_at "s"
  refine JK (hS0.same (U2.trans (S3.trans S4))) (G1.same (S3.trans S4)) G2 (by rw [len_cat];omega) fun x h H5 S5 hh _ g=>?_
  refine q x h H5 (U2.trans (S3.trans (S4.trans S5))) (by have:=Tp hh l1 l2;omega) ?_
  rw [c1]
  exact g
theorem qp:aC ["pieces","cut"] ["pieces"] (az rN):=⟨rfl,rfl,rfl,by trivial,rfl,by trivial,by trivial⟩
theorem Dc (T:Txt K mg):Has P w K mg base 1 "all_over" ["pieces"] (fun _ _ _ _=>False):=fj (k:=0) T.d_all_over qp (fun _ _ _ _ _ _ us hl=>L2.iG (fun _=>rfl) us hl) (fun _ _ _ _ h=>h.elim) (fun _ _ _ _ _ _ _ _ _ _ h=>h.elim)
theorem u9 (T:Txt K mg) (d:Nat) (jD:Has P w K mg base (10+d) "all_over" ["pieces"] (Yu K mg d)):Has P w K mg base (10+d+1) "all_over" ["pieces"] (Ot K mg d):=by
 have jX:=jX (P:=P) (w:=w) (base:=base) T
 refine fj T.d_all_over qp (fun _ _ _ _ _ _ us hl=>L2.iG (fun _=>rfl) us hl) ?_ fun f cdv A outer s H vs Q E hr h=>?_
 ·rintro vs H Q E ⟨p,xs,top,ts,h0,H0,rfl,_⟩;rfl
 obtain ⟨p,xs,top,ts,h0,H0,rfl,hS0,hp,hl,h1,h2,hlen,hG,q⟩:=h
 have hu:=hr.units0
 have hu64:=hr.units
 refine ⟨_,(aA (bJ (bA (ir (K:=K) rfl hu64) (aH (aK (K:=K) rfl) aP T.b_len bc (aa (ao 0) aq) (by trivial) (by trivial)) aD (by walk_at "p")) (aB (aL (pL (K:=K) rfl (ao 0) aD))) bf) (aA (aM (i:=1) qp.nd rfl gH (aU fG (aH (aK (K:=K) rfl) aP T.b_len bc (aa (ao 0) aq) (by trivial) (by trivial)) aD) rfl) (aB (aL (jF T.o_Over jX (hr.mono (by omega)) aP (jg fun _ _=>rfl) (aa (aJ jD (hr.mono (by omega)) aP (aa (cu (vH (K:=K) rfl) (ao 0) cj (bL (ao 1))) aq) (by trivial)) (aa (aJ jD (hr.mono (by omega)) aP (aa (cu (vH (K:=K) rfl) (ao 0) (bL (ao 1)) cj) aq) (by trivial)) aq)) (by trivial)))))),?_⟩
 walk_at "s"
 have hz:20000<=sizeLine:=by decide
 refine gO (SqL.of hp) ?_
 walk_at "s"
 rw [Zj]
 by_cases e1:xs.length=1
 ·rw [Y9 (show V.int (xs.length:Int)=V.int 1 by rw [e1];rfl)]
  obtain ⟨x,rfl⟩:=Aa1.mp e1
  obtain ⟨t,rfl⟩:=Aa1.mp (hl.symm.trans e1)
  obtain ⟨h,hh,g⟩:=hG 0 x t rfl rfl
  have hp':H p=some (.lst [.ref x]):=hp
  walk_at "s"
  refine q x h H (Same.refl H) (by omega) ?_
  rw [show kZ [t]=t from Hf t]
  exact g
 ·rw [Zc (show ¬ V.int (xs.length:Int)=V.int 1 from fun z=>e1 (by have:=V.int.inj z;omega))]
  obtain ⟨e,rfl⟩:∃ e,d=e+1:=by
   cases d with
   | zero=>simp at h2;omega
   | succ e=>exact ⟨e,rfl⟩
  obtain ⟨k1,k2⟩:=half h2
  walk_at "s"
  refine gO (SqL.of hp) ?_
  walk_at "s"
  rw [Zj,show ((xs.length:Nat):Int) / 2=((xs.length / 2:Nat):Int) by omega]
  generalize hc:xs.length / 2=c at k1 k2 ⊢
  obtain ⟨c1,c2⟩:=zj (c:=c) hlen
  walk_at "s"
  refine yF (SqL.of hp) fun p1 np1=>?_
  walk_at "s"
  rw [Cd,← List.map_take]
  have S1:=(Same.refl H).upd np1 (o:=.lst ((xs.take c).map V.ref))
  have hp1:=aj (H:=H) (a:=p1) (o:=.lst ((xs.take c).map V.ref))
  generalize upd H p1 (.lst ((xs.take c).map V.ref))=H1 at S1 hp1 ⊢
  walk_at "s"
  refine ⟨p1,xs.take c,top,ts.take c,h0,H0,rfl,hS0.same S1,hp1,by simp;omega,by simp;omega,by simp;omega,by omega,(fun i x t ex et=>?_),fun x1 g1 H2 S2 l1 G1=>?_⟩
  walk_at "s"
  ·obtain ⟨ei,ex'⟩:i < c/\xs[i]?=some x:=by
    rw [List.getElem?_take] at ex
    split at ex
    ·exact ⟨by assumption,ex⟩
    ·cases ex
   rw [List.getElem?_take_of_lt ei] at et
   obtain ⟨h,hh,g⟩:=hG i x t ex' et
   exact ⟨h,hh,g.same S1⟩
  have U2:=S1.trans S2
  try walk_at "s"
  refine yF (SqL.of (U2 _ _ hp)) fun p2 np2=>?_
  walk_at "s"
  rw [wL,← List.map_drop]
  have S3:=(Same.refl H2).upd np2 (o:=.lst ((xs.drop c).map V.ref))
  have hp3:=aj (H:=H2) (a:=p2) (o:=.lst ((xs.drop c).map V.ref))
  generalize upd H2 p2 (.lst ((xs.drop c).map V.ref))=H3 at S3 hp3 ⊢
  walk_at "s"
  refine ⟨p2,xs.drop c,top,ts.drop c,h0,H0,rfl,hS0.same (U2.trans S3),hp3,by simp;omega,by simp;omega,by simp;omega,by omega,(fun i x t ex et=>?_),fun x2 g2 H4 S4 l2 G2=>?_⟩
  walk_at "s"
  ·rw [List.getElem?_drop] at ex et
   obtain ⟨h,hh,g⟩:=hG _ x t ex et
   exact ⟨h,hh,g.same (U2.trans S3)⟩
  try walk_at "s"
  refine Ry (hS0.same (U2.trans (S3.trans S4))) (G1.same (S3.trans S4)) G2 (by rw [len_cat];omega) fun x h H5 S5 hh _ g=>?_
  refine q x h H5 (U2.trans (S3.trans (S4.trans S5))) (by have:=Tp hh l1 l2;omega) ?_
  rw [c1]
  exact g
theorem JM (T:Txt K mg):∀ d:Nat,Has P w K mg base (11+d) "all_beside" ["pieces"] (Oq K mg d):=fun d=>by
 have key:∀ d:Nat,Has P w K mg base (11 - 1+d+1) "all_beside" ["pieces"] (Oq K mg d):=fun d=>by
  induction d with
  | zero=>exact qT T 0 ((xY T).mono (by decide))
  | succ d ih=>exact qT T (d+1) (ih.mono (by omega))
 exact (key d).mono (by omega)
theorem RB (T:Txt K mg):∀ d:Nat,Has P w K mg base (11+d) "all_over" ["pieces"] (Ot K mg d):=fun d=>by
 have key:∀ d:Nat,Has P w K mg base (11 - 1+d+1) "all_over" ["pieces"] (Ot K mg d):=fun d=>by
  induction d with
  | zero=>exact u9 T 0 ((Dc T).mono (by decide))
  | succ d ih=>exact u9 T (d+1) (ih.mono (by omega))
 exact (key d).mono (by omega)
theorem ie (T:Txt K mg):Has P w K mg base (11+6) "all_beside" ["pieces"] (Oq K mg 6):=JM T 6
theorem jD (T:Txt K mg):Has P w K mg base (11+6) "all_over" ["pieces"] (Ot K mg 6):=RB T 6
theorem qK {z:Str}:z=Str.ofString ""↔z.cps.size=0:=⟨fun h=>by rw [h];trivial,fun h=>t6 (by rw [vR];exact AaX (by simpa using h))⟩
end
local macro_rules | `(tactic| walk_at "s") => `(tactic| (with_reducible repeat (first | refine lC ?_ | walk_at "4")))
local macro_rules | `(tactic| walk_at "n") => `(tactic| (with_reducible repeat (walk_at "4")))
section
variable {P:Program} {w:World} {K:W.Frag} {mg:Str->Option Value} {base:Heap}
theorem xZ:(["sign","bands"]:List Str).Nodup:=by trivial
theorem yc:(["other","sign"]:List Str).Nodup:=by trivial
theorem Pc.off {H:Hp} {x d:Addr} {y side top kind:Str} {L:List Nat} {ps:List V} {h:Nat} {kvs:List (Key×V)} (p:Pc mg H x y side top kind L ps h) (hd:H d=some (.dK kvs)):Pc mg (Hx d H) x y side top kind L ps h:=by
 obtain ⟨hy,dx,al,ap,a,b,c⟩:=p
 exact ⟨hy,dx,al,ap,zb a (fun z=>by rw [z,hd] at a;cases a),zb b (fun z=>by rw [z,hd] at b;cases b),zb c (fun z=>by rw [z,hd] at c;cases c)⟩
theorem GP1.off {H:Hp} {x d:Addr} {side top:Str} {h:Nat} {kvs:List (Key×V)} (p:GP1 mg H x side top h) (hd:H d=some (.dK kvs)):GP1 mg (Hx d H) x side top h:=by
 obtain ⟨y,k,ps,hs,a,b,c,e,f⟩:=p
 exact ⟨y,k,ps,hs,⟨a.pc.off hd,a.rs,a.rt⟩,b,⟨c.1,fun i v n e1 e2=>by
  obtain ⟨q,y',s',t',k',L,qs,rfl,z⟩:=c.2 i v n e1 e2
  exact ⟨q,y',s',t',k',L,qs,rfl,z.off hd⟩⟩,e,f⟩
theorem GP1.put {H:Hp} {x d:Addr} {side top:Str} {h:Nat} {kvs:List (Key×V)} {o:HO} (p:GP1 mg H x side top h) (hd:H d=some (.dK kvs)):GP1 mg (upd H d o) x side top h:=(p.off hd).same (by rw [← Wb (o:=o)];exact Ha d _)
theorem We {H0 H:Hp} {d:Addr} {o:HO} (n:H0 d=none):Hm H0 (upd H d o)=upd (Hm H0 H) d o:=by
 funext b
 by_cases h2:b=d
 ·rw [h2,aj];exact zg aj n
 ·rw [aG h2];unfold Hm;rw [aG h2]
theorem GP.put {H0 H:Hp} {x d:Addr} {side top:Str} {h:Nat} {kvs:List (Key×V)} {o:HO} (p:GP mg H0 H x side top h) (hd:H d=some (.dK kvs)) (n0:H0 d=none):GP mg H0 (upd H d o) x side top h:=by
 unfold GP
 rw [We n0]
 exact GP1.put p (zg hd n0)
def Yv (mg:Str->Option Value):Sp:=fun vs H Q _=>∃ (side top:Str),vs=[.str side,.str top]/\Row side/\Row top/\∀ x h H',Same H H'->h<=12->GP mg H H' x side top h->Q (.ref x) H'
theorem Dd (z:Str):(qR z).length=z.cps.size:=by unfold qR;simp
theorem Hg {z:Str} {i c:Nat} (h:z.cps.toList[i]?=some c):(qR z)[i]?=some ⟨#[c]⟩:=by unfold qR;rw [Zd,h];rfl
theorem qt:aC ["side","top","bands","sign"] ["side","top"] (az lM):=⟨rfl,rfl,rfl,by trivial,rfl,by trivial,by trivial⟩
theorem iT (T:Txt K mg):Has P w K mg base 18 "balanced" ["side","top"] (Yv mg):=by
 have iW:=iW (P:=P) (w:=w) (base:=base) T
 have dR:=dR (P:=P) (w:=w) (base:=base) T
 have ie:=ie (P:=P) (w:=w) (base:=base) T
 have fB:=fB (P:=P) (w:=w) (base:=base) T
 have jD:=jD (P:=P) (w:=w) (base:=base) T
 refine fj T.d_balanced qt (fun _ _ _ _ _ _ us hl=>L2.nP (fun _ _=>rfl) us hl) ?_ fun f cdv A outer s H vs Q E hr h=>?_
 ·rintro vs H Q E ⟨side,top,rfl,_⟩;rfl
 obtain ⟨side,top,rfl,rs,rt,q⟩:=h
 have hu:=hr.units0
 have hu64:=hr.units
 refine ⟨_,(aA (aY (aJ iW (hr.mono (by decide)) aP (aa (ao 0) (aa (ao 1) aq)) (by trivial))) (aA (bJ (mz (oZ (bA (ir (K:=K) rfl hu64) (ao 0) gq (by walk_at "p")) (mQ (bA (ir (K:=K) rfl hu64) (ao 1) gq (by walk_at "p"))))) (aB (aL (jF T.o_Blank dR (hr.mono (by decide)) aP (jg fun _ _=>rfl) (aa (ao 0) (aa (ao 1) aq)) (by trivial)))) bf) (aA (aM (i:=2) qt.nd rfl Wz Gq rfl) (aA (jf ZR rfl (iI (K:=K) rfl (ao 0)) (eZ (i:=3) qt.nd rfl Wz rfl) (aB (bJ (bA (Jd (K:=K) rfl hu64) (o7 3) (o7 2) (by walk_at "p")) (aB (nR (ts:=tK) (aJ ie (hr.mono (by decide)) aP (aa (lE (sub:=[none,some 3]) (gJ (N:=["side","top","bands","sign"]) (sc:=az lM) (N':=["other","sign"]) (by trivial)) rfl rfl rfl (iI (K:=K) rfl (ao 1)) (fun C s₀ H₀ ex=>(vg 0 (by trivial) yc)) (fun C s₀ H₀ ex=>je) (fun C s₀ H₀ ex=>(BZ (mg:=mg) rfl T.o_One fB (hr.mono (by decide)) (YG (by trivial)) (jg fun _ _=>rfl) (aa (sS 1 (by trivial)) (aa (my 0 (by trivial)) aq)) (by trivial)))) aq) (by trivial)) (q9 (o7 2) (o7 3) (nU hu64)))) bf))) (aB (aL (aJ jD (hr.mono (by decide)) aP (aa (lE (sub:=[none,some 2]) (gJ (N:=["side","top","bands","sign"]) (sc:=az lM) (N':=["sign","bands"]) (by trivial)) rfl rfl rfl (iI (K:=K) rfl (ao 0)) (fun C s₀ H₀ ex=>(vg 0 (by trivial) xZ)) (fun C s₀ H₀ ex=>je) (fun C s₀ H₀ ex=>(VR hu64 (sS 1 (by trivial)) (my 0 (by trivial))))) aq) (by trivial)))))))),?_⟩
 walk_at "s"
 have hz:20000<=sizeLine:=by decide
 have l1:=rs.1
 have l2:=rt.1
 have el1:side.length=side.cps.size:=rfl
 have el2:top.length=top.cps.size:=rfl
 refine ⟨side,top,rfl,rs,rt,fun H1 S1=>?_⟩
 walk_at "s"
 by_cases h0:side.cps.size=0
 ·rw [Y9 (show V.str side=V.str (Str.ofString "") by rw [qK.mpr h0])]
  show if true=true then _ else _
  walk_at "s"
  refine xr (.of S1) rs rt (.inl h0) fun x H2 S2 p2 g2=>?_
  exact q x 0 H2 (S1.trans S2) (by omega) g2
 rw [Zc (show ¬ V.str side=V.str (Str.ofString "") from fun z=>h0 (qK.mp (V.str.inj z)))]
 show if false=true then _ else _
 walk_at "s"
 by_cases h1:top.cps.size=0
 ·rw [Y9 (show V.str top=V.str (Str.ofString "") by rw [qK.mpr h1])]
  walk_at "s"
  refine xr (.of S1) rs rt (.inr h1) fun x H2 S2 p2 g2=>?_
  exact q x 0 H2 (S1.trans S2) (by omega) g2
 rw [Zc (show ¬ V.str top=V.str (Str.ofString "") from fun z=>h1 (qK.mp (V.str.inj z)))]
 walk_at "s"
 intro d nd
 have nd0:=Same.back S1 nd
 have S2:=S1.trans ((Same.refl H1).upd nd (o:=.dK []))
 have hd2:=aj (H:=H1) (a:=d) (o:=.dK [])
 generalize upd H1 d (.dK [])=H2 at S2 hd2 ⊢
 walk_at "s"
 refine .inr (.inr ⟨side,rfl,?_⟩)
 refine Qp (fun i U G=>Same H G/\(∃ kvs,G d=some (.dK kvs)/\kvs.length<=i/\(∀ c v,jK kvs (Sum.inr ⟨#[c]⟩)=some v->∃ x h,v= .ref x/\h<=6/\GP mg H G x ⟨#[c]⟩ top h)/\(∀ j c,j < i->side.cps.toList[j]?=some c->∃ v,jK kvs (Sum.inr ⟨#[c]⟩)=some v))/\∃ x3,U=[some (.str side),some (.str top),some (.ref d),x3]) ⟨S2,⟨[],hd2,Y4 _,(fun c v h=>by cases h),fun j c h=>absurd h (Nat.not_lt_zero _)⟩,_,rfl⟩ ?_ ?_
 ·rintro i U G c hc ⟨s,⟨kvs,hd,hkl,hg,hk⟩,x3,rfl⟩
  have hi:i < side.cps.size:=by simpa using (YW.mp hc).1
  have hcg:c∈GOOD:=rs.2 c (Y8 hc)
  walk_at "s"
  refine .inr ⟨d,_,rfl,DGet.k (k:=Sum.inr ⟨#[c]⟩) hd,?_⟩
  cases hv:jK kvs (Sum.inr ⟨#[c]⟩) with
  | some v=>
   rw [show (!(some v).isSome)=false from rfl]
   walk_at "s"
   refine ⟨s,⟨kvs,hd,by omega,hg,fun j c' hj hc'=>?_⟩,_,rfl⟩
   by_cases hji:j < i
   ·exact hk j c' hji hc'
   ·obtain rfl:j=i:=by omega
    rw [hc] at hc'
    cases hc'
    exact ⟨v,hv⟩
  | none=>
   rw [show (!(none:Option V).isSome)=true from rfl]
   walk_at "s"
   refine .inr (.inr ⟨top,rfl,?_⟩)
   refine uw (fun i zs J=>Same G J/\∃ xs:List Addr,zs=xs.map V.ref/\xs.length=i/\∀ (j:Nat) (x:Addr) (t:Str),xs[j]?=some x->(qR top)[j]?=some t->∃ h,h<=0/\GP mg H J x ⟨#[c]⟩ t h) (by omega) ⟨Same.refl G,[],rfl,rfl,fun j x t e=>by cases e⟩ ?_ ?_ ?_
   ·rintro i zs J ⟨_,xs,rfl,e,_⟩
    rw [Zj];omega
   ·rintro i zs J t ht ⟨sJ,xs,rfl,e,hx⟩
    walk_at "s"
    refine ⟨KeepSt.set rfl,?_⟩
    walk_at "s"
    refine Oo (.of (s.trans sJ)) hcg (rt.2 t (Y8 ht)) fun x J2 T2 p2 g2=>?_
    refine ⟨sJ.trans T2,xs ++ [x],by rw [ZK];rfl,by simp;omega,fun j x' t' e1 e2=>?_⟩
    by_cases hj:j < xs.length
    ·rw [Zu hj] at e1
     obtain ⟨h,h1,h2⟩:=hx j x' t' e1 e2
     exact ⟨h,h1,h2.same T2⟩
    ·have hj2:j < xs.length+1:=by have:=(YW.mp e1).1;simpa using this
     obtain rfl:j=xs.length:=by omega
     rw [Zr (by omega),Nat.sub_self] at e1
     cases e1
     subst e
     rw [Hg ht] at e2
     cases e2
     exact ⟨0,Y4 _,g2⟩
   rintro zs J D J2 ⟨sJ,xs,rfl,e,hx⟩ nD T2 hD
   try walk_at "s"
   refine ⟨D,xs,⟨#[c]⟩,qR top,0,H,rfl,.of (s.trans (sJ.trans T2)),hD,by rw [Dd];exact e,by omega,Zm (by omega:xs.length<=48) (by decide),by rw [qJ];exact l2,(fun j x t e1 e2=>by
    obtain ⟨h,h1,h2⟩:=hx j x t e1 e2
    exact ⟨h,h1,h2.same T2⟩),fun x h J3 T3 hh g3=>?_⟩
   rw [qJ] at g3
   have W3:=sJ.trans (T2.trans T3)
   have hd3:=W3 _ _ hd
   try walk_at "s"
   refine .inr ⟨d,_,rfl,DPut.k (k:=Sum.inr ⟨#[c]⟩) hd3 (by omega),?_⟩
   try walk_at "s"
   have lk:=jL kvs (Sum.inr ⟨#[c]⟩:Key) (V.ref x)
   refine ⟨Same.put (s.trans W3) nd0,⟨_,aj,by omega,(fun c' v hv'=>?_),fun j c' hj hc'=>?_⟩,_,rfl⟩
   ·rw [sI] at hv'
    split at hv'
    ·rename_i e1
     cases hv'
     have:=Sum.inr.inj e1
     rw [this]
     exact ⟨x,h,rfl,by omega,g3.put hd3 nd0⟩
    ·obtain ⟨x',h',e1,e2,e3⟩:=hg c' v hv'
     exact ⟨x',h',e1,e2,(e3.same W3).put hd3 nd0⟩
   ·rw [sI]
    split
    ·exact ⟨_,rfl⟩
    ·rename_i e1
     by_cases hji:j < i
     ·exact hk j c' hji hc'
     ·obtain rfl:j=i:=by omega
      rw [hc] at hc'
      cases hc'
      exact absurd rfl e1
 ·rintro U G ⟨s,⟨kvs,hd,hkl,hg,hk⟩,x3,rfl⟩
  walk_at "s"
  refine .inr (.inr ⟨side,rfl,?_⟩)
  refine uw (fun i zs J=>J=G/\∃ xs:List Addr,zs=xs.map V.ref/\xs.length=i/\∀ (j:Nat) (x:Addr) (t:Str),xs[j]?=some x->(qR side)[j]?=some t->∃ h,h<=6/\GP mg H J x t top h) (by omega) ⟨rfl,[],rfl,rfl,fun j x t e=>by cases e⟩ ?_ ?_ ?_
  ·rintro i zs J ⟨_,xs,rfl,e,_⟩
   rw [Zj];omega
  ·rintro i zs J c hc ⟨rfl,xs,rfl,e,hx⟩
   have hi:i < side.cps.size:=by simpa using (YW.mp hc).1
   obtain ⟨v,hv⟩:=hk i c (by show i < side.cps.size;exact hi) hc
   obtain ⟨x,h,rfl,h6,g⟩:=hg c v hv
   have hgt:=DGet.k (k:=Sum.inr ⟨#[c]⟩) hd
   rw [hv] at hgt
   walk_at "s"
   refine ⟨KeepSt.set rfl,?_⟩
   walk_at "s"
   refine ⟨d,_,rfl,hgt,?_⟩
   refine ⟨rfl,xs ++ [x],by rw [ZK];rfl,by simp;omega,fun j x' t' e1 e2=>?_⟩
   by_cases hj:j < xs.length
   ·rw [Zu hj] at e1
    exact hx j x' t' e1 e2
   ·have hj2:j < xs.length+1:=by have:=(YW.mp e1).1;simpa using this
    obtain rfl:j=xs.length:=by omega
    rw [Zr (by omega),Nat.sub_self] at e1
    cases e1
    subst e
    rw [Hg hc] at e2
    cases e2
    exact ⟨h,h6,g⟩
  rintro zs J D J2 ⟨rfl,xs,rfl,e,hx⟩ nD T2 hD
  try walk_at "s"
  refine ⟨D,xs,top,qR side,6,H,rfl,.of (s.trans T2),hD,by rw [Dd];exact e,by omega,Zm (by omega:xs.length<=48) (by decide),by rw [qJ];exact l1,(fun j x t e1 e2=>by
   obtain ⟨h,h1,h2⟩:=hx j x t e1 e2
   exact ⟨h,h1,h2.same T2⟩),fun x h J3 T3 hh g3=>?_⟩
  rw [qJ] at g3
  exact q x h J3 (s.trans (T2.trans T3)) (by omega) g3
end
local macro_rules | `(tactic| walk_at "s") => `(tactic| (with_reducible repeat (first | refine lC ?_ | walk_at "5")))
local macro_rules | `(tactic| walk_at "n") => `(tactic| (with_reducible repeat (walk_at "5")))
section
variable {P:Program} {w:World} {K:W.Frag} {mg:Str->Option Value} {base:Heap}
theorem De:(["end","behind","line_end"]:List Str).Nodup:=by trivial
def O5 (t:List Nat) (b e:Nat):Nat:=(t.drop b).countP fun x=>decide (x < e)
def Ax (t:List Nat) (b:Nat):List Int:=(List.range (t.length+1)).map fun e=>((O5 t b e:Nat):Int)
theorem Ou {t:List Nat} {b e:Nat} {j:Int} (hj:j=(e:Int)) (h:e<=t.length):Do ((Ax t b).map V.int) j=some (.int ((O5 t b e:Nat):Int)):=by
 subst hj
 refine rW ?_
 unfold Ax
 rw [Zd,Zd,Zo (by omega)];rfl
theorem Df {t:List Nat} {b x:Nat} (h:t[b]?=some x) (e:Nat):O5 t b e=O5 t (b+1) e+if x < e then 1 else 0:=by
 obtain ⟨hb,hx⟩:=YW.mp h
 unfold O5
 rw [List.drop_eq_getElem_cons hb,List.countP_cons,hx]
 by_cases c:x < e
 ·rw [if_pos (by simpa using c),if_pos c]
 ·rw [if_neg (by simpa using c),if_neg c]
theorem RC (t:List Nat) (e:Nat):O5 t t.length e=0:=by unfold O5;rw [List.drop_length];rfl
def CT (H:Hp) (rs:List V) (n:Nat) (f:Nat->List Int):Prop:=rs.length=n/\∀ k,k < n->∃ a,rs[k]?=some (.ref a)/\H a=some (.lst ((f k).map V.int))
theorem CT.same {H H':Hp} {rs:List V} {n:Nat} {f:Nat->List Int} (h:CT H rs n f) (s:Same H H'):CT H' rs n f:=⟨h.1,fun k hk=>by
 obtain ⟨a,e,ha⟩:=h.2 k hk
 exact ⟨a,e,s _ _ ha⟩⟩
theorem CT.push {H:Hp} {rs:List V} {n:Nat} {f:Nat->List Int} {a:Addr} (h:CT H rs n f) (ha:H a=some (.lst ((f n).map V.int))):CT H (rs ++ [.ref a]) (n+1) f:=⟨by rw [Z2,h.1];rfl,fun k hk=>by
 by_cases e:k=n
 ·subst e
  exact ⟨a,by rw [Zr (by rw [h.1];exact Y4 _),h.1,Nat.sub_self];rfl,ha⟩
 ·obtain ⟨b,e1,hb⟩:=h.2 k (by omega)
  exact ⟨b,by rw [Zu (by rw [h.1];omega)];exact e1,hb⟩⟩
theorem CT.rev {H:Hp} {rs:List V} {n:Nat} {f:Nat->List Int} (h:CT H rs n f):CT H rs.reverse n fun k=>f (n - 1 - k):=⟨by rw [List.length_reverse];exact h.1,fun k hk=>by
 obtain ⟨a,e,ha⟩:=h.2 (n - 1 - k) (by omega)
 exact ⟨a,by rw [List.getElem?_reverse (by rw [h.1];exact hk),h.1];exact e,ha⟩⟩
def Ov:Sp:=fun vs H Q _=>∃ (a:Addr) (t:List Nat),vs=[.ref a]/\Tn H a t/\Prm t/\∀ q rs H',H q=none->Same H H'->H' q=some (.lst rs)->CT H' rs (t.length+1) (Ax t)->(∀ r,V.ref r∈rs->H r=none)->Q (.ref q) H'
theorem nO:aC ["turning","many","table","line_end","behind"] ["turning"] (az tV):=⟨rfl,rfl,rfl,by trivial,rfl,by trivial,by trivial⟩
theorem xx (T:Txt K mg):Has P w K mg base 5 "counts" ["turning"] Ov:=by
 have bh:=bh (P:=P) (w:=w) (base:=base) T
 refine fj T.d_counts nO (fun _ _ _ _ _ _ us hl=>L2.iG (fun _=>rfl) us hl) ?_ fun f cdv A outer s H vs Q E hr h=>?_
 ·rintro vs H Q E ⟨a,t,rfl,_⟩;rfl
 obtain ⟨a,t,rfl,ha,hP,q⟩:=h
 have hu:=hr.units0
 have hu64:=hr.units
 refine ⟨_,(aA (aY (aJ bh (hr.mono (by decide)) aP (aa (ao 0) aq) (by trivial))) (aA (aM (i:=1) nO.nd rfl gH (aH (aK (K:=K) rfl) aP T.b_len bc (aa (ao 0) aq) (by trivial) (by trivial)) rfl) (aA (aM (i:=2) nO.nd rfl gH (jd (aa (aU j5 (jd (aa aD aq)) (aU aN (ao 1) aD)) aq)) rfl) (aA (jf ZR rfl (QM (K:=K) rfl aP T.b_reversed (ao 0)) (eZ (i:=3) nO.nd rfl Wz rfl) (aA (aM (i:=4) nO.nd rfl Wz (pL (K:=K) rfl (ao 2) (Lp vY aD)) rfl) (aB (aY (Ed (K:=K) rfl AaV PySem.F.slot_list_append PySem.F.type_list_append uo (ao 2) (aa (lE (sub:=[none,some 4,some 3]) (gJ (N:=["turning","many","table","line_end","behind"]) (sc:=az tV) (N':=["end","behind","line_end"]) (by trivial)) rfl rfl rfl (m7 aP T.b_range (aa (aU aN (ao 1) aD) aq)) (fun C s₀ H₀ ex=>(vg 0 (by trivial) De)) (fun C s₀ H₀ ex=>je) (fun C s₀ H₀ ex=>(aU aN (pL (K:=K) rfl (sS 1 (by trivial)) (my 0 (by trivial))) (Xy (bA Be (sS 2 (by trivial)) (my 0 (by trivial)) (by walk_at "p")) aD aD)))) aq)))))) (aB (aL (yH (K:=K) rfl rfl aP T.b_list aP T.b_reversed (ao 2)))))))),?_⟩
 walk_at "s"
 have hsz:20000<=sizeLine:=by decide
 have hle:=hP.le
 refine ⟨a,t,rfl,ha,hP,fun H1 S1=>?_⟩
 walk_at "s"
 have hlen:∀ (n:Nat),n=t.length->n=t.length:=fun _ h=>h
 have step:∀ (R:V->Hp->Prop),R (.int (t.length:Int)) H1->Ij K [.ref a] H1 R:=fun R hR=>by
  rcases ha.same S1 with h | h
  ·refine gO (SqL.of h) ?_
   rw [bw];exact hR
  ·refine zL (SqT.of h) ?_
   rw [bw];exact hR
 refine step _ ?_
 walk_at "s"
 refine cA rfl fun p0 H2 _ S2 f2=>?_
 walk_at "s"
 refine Lr f2 (by omega) (by omega) (by simp;omega) fun p1 np1=>?_
 have S3:=(Same.refl H2).upd np1 (o:=.lst (List.replicate ((t.length:Int)+1).toNat [V.int 0]).flatten)
 have f3:=aj (H:=H2) (a:=p1) (o:=.lst (List.replicate ((t.length:Int)+1).toNat [V.int 0]).flatten)
 generalize upd H2 p1 (.lst (List.replicate ((t.length:Int)+1).toNat [V.int 0]).flatten)=H3 at S3 f3 ⊢
 have f3':H3 p1=some (.lst ((Ax t (t.length - 0)).map V.int)):=by
  rw [f3,show ((t.length:Int)+1).toNat=t.length+1 by omega]
  congr 2
  unfold Ax
  rw [AaO]
  have:∀ n,(List.replicate n [V.int 0]).flatten=(List.range n).map fun _=>V.int 0:=fun n=>by
   induction n with
   | zero=>rfl
   | succ n ih=>rw [List.replicate_succ',List.flatten_append,ih,List.range_succ,ZK];rfl
  rw [this]
  refine AaQ fun e _=>?_
  show V.int 0=V.int ((O5 t (t.length - 0) e:Nat):Int)
  rw [Abf,RC];rfl
 walk_at "s"
 refine cA rfl fun tb H4 ntb S4 f4=>?_
 walk_at "s"
 have U4:=S1.trans (S2.trans (S3.trans S4))
 have ntb0:H tb=none:=by
  have:=Same.back (S1.trans (S2.trans S3)) ntb
  exact this
 have C4:CT H4 [.ref p1] (0+1) fun k=>Ax t (t.length - k):=⟨rfl,fun k hk=>by
  obtain rfl:k=0:=by omega
  exact ⟨p1,rfl,S4 _ _ f3'⟩⟩
 have N4:∀ r,V.ref r∈[V.ref p1]->H r=none:=fun r hr=>by
  simp only [Y7,Zq,or_false] at hr
  cases hr
  exact Same.back (S1.trans S2) np1
 rcases ha with ha | ha
 ·refine .inl ⟨a,_,rfl,SqL.of (U4 _ _ ha),?_⟩
  refine QQ (xs:=(nI t).map V.int) (fun i U G=>Same H G/\(∃ rs,G tb=some (.lst rs)/\(CT G rs (i+1) fun k=>Ax t (t.length - k))/\∀ r,V.ref r∈rs->H r=none)/\∃ x3 x4,U=[some (.ref a),some (.int (t.length:Int)),some (.ref tb),x3,x4])
   ⟨U4,⟨_,f4,C4,N4⟩,_,_,rfl⟩ (fun i U G _ h=>SqL.of (h.1 _ _ ha)) ?_ ?_
  ·rintro i x U G hi hx ⟨sG,⟨rs,htb,hC,hN⟩,x3,x4,rfl⟩
   rw [bw] at hi
   rw [bw] at hx
   obtain ⟨le,hle2,rfl⟩:=yZ hx
   obtain ⟨pb,epb,hpb⟩:=hC.2 i (by omega)
   have hrl:rs.length=i+1:=hC.1
   walk_at "s"
   refine bZ (SqL.of htb) (VH (n:=i) hrl epb) ?_
   walk_at "s"
   refine ⟨.inl ⟨rfl,_,SqL.of htb⟩,?_⟩
   walk_at "s"
   refine ⟨_,rfl,by omega,by omega,?_⟩
   rw [show ((t.length:Int)+1).toNat=t.length+1 by omega]
   refine qF (n:=t.length+1) (fun e=>.int ((O5 t (t.length - (i+1)) e:Nat):Int)) (by omega) ?_ ?_
   ·intro e he
    have ec:=Df (t:=t) (b:=t.length - (i+1)) (x:=le) (by rw [show t.length - (i+1)=t.length - 1 - i by omega];exact hle2) e
    rw [show t.length - (i+1)+1=t.length - i by omega] at ec
    rw [Int.zero_add]
    walk_at "s"
    refine ⟨KeepSt.set rfl,?_⟩
    walk_at "s"
    refine bZ (SqL.of hpb) (Ou rfl (by omega)) ?_
    walk_at "s"
    refine pA (fun h=>?_) (fun h=>?_)
    ·walk_at "s"
     exact ⟨rfl,qD (by rw [ec,if_pos (by omega)];rfl)⟩
    ·walk_at "s"
     exact ⟨rfl,qD (by rw [ec,if_neg (by omega)];rfl)⟩
   ·intro nw G2 nnw s2 hnw
    walk_at "s"
    refine sW (s2 _ _ htb) (by omega) ?_
    walk_at "s"
    have hnw':G2 nw=some (.lst ((Ax t (t.length - (i+1))).map V.int)):=by
     rw [hnw]
     unfold Ax
     rw [AaO];rfl
    have hne:∀ {b:Addr} {xs:List V},G2 b=some (.lst xs)->True:=fun _=>trivial
    have C2:=(hC.same s2).push hnw'
    refine ⟨Same.put (sG.trans s2) ntb0,⟨_,aj,⟨C2.1,fun k hk=>?_⟩,fun r hr=>(Z0.mp hr).elim (hN r) fun hr=>by
     simp only [Y7,Zq,or_false] at hr
     cases hr
     exact Same.back sG nnw⟩,_,_,rfl⟩
    obtain ⟨b,e1,hb⟩:=C2.2 k hk
    refine ⟨b,e1,?_⟩
    rw [aG (fun z=>?_)]
    ·exact hb
    ·rw [z,s2 _ _ htb] at hb
     have e0:rs=(Ax t (t.length - k)).map V.int:=by injection hb with hb;injection hb
     obtain ⟨a0,ea0,_⟩:=hC.2 0 (by omega)
     rw [e0,Zd] at ea0
     cases hq:(Ax t (t.length - k))[0]? with
     | none=>rw [hq] at ea0;cases ea0
     | some v=>rw [hq] at ea0;cases ea0
  ·rintro U G ⟨sG,⟨rs,htb,hC,hN⟩,x3,x4,rfl⟩
   rw [bw] at hC
   walk_at "s"
   refine ⟨_,rfl,tb,rs,rfl,SqL.of htb,fun qq nqq=>?_⟩
   have s5:=(Same.refl G).upd nqq (o:=.lst rs.reverse)
   refine q qq rs.reverse _ (Same.back sG nqq) (sG.trans s5) aj ?_ fun r hr=>hN r (Abi.mp hr)
   have:=hC.rev.same s5
   refine ⟨this.1,fun k hk=>?_⟩
   obtain ⟨b,e1,hb⟩:=this.2 k hk
   refine ⟨b,e1,?_⟩
   rw [hb]
   show some (HO.lst (List.map V.int (Ax t (t.length - (t.length+1 - 1 - k)))))=_
   rw [show t.length - (t.length+1 - 1 - k)=k by omega]
 ·refine .inr ⟨a,_,rfl,SqT.of (U4 _ _ ha),by rw [bw];omega,?_⟩
  refine QR (xs:=(nI t).map V.int) (by rw [bw];omega) (fun i U G=>Same H G/\(∃ rs,G tb=some (.lst rs)/\(CT G rs (i+1) fun k=>Ax t (t.length - k))/\∀ r,V.ref r∈rs->H r=none)/\∃ x3 x4,U=[some (.ref a),some (.int (t.length:Int)),some (.ref tb),x3,x4])
   ⟨U4,⟨_,f4,C4,N4⟩,_,_,rfl⟩ (fun i U G _ h=>SqT.of (h.1 _ _ ha)) ?_ ?_
  ·rintro i x U G hi hx ⟨sG,⟨rs,htb,hC,hN⟩,x3,x4,rfl⟩
   rw [bw] at hi
   rw [bw] at hx
   obtain ⟨le,hle2,rfl⟩:=yZ hx
   obtain ⟨pb,epb,hpb⟩:=hC.2 i (by omega)
   have hrl:rs.length=i+1:=hC.1
   walk_at "s"
   refine bZ (SqL.of htb) (VH (n:=i) hrl epb) ?_
   walk_at "s"
   refine ⟨.inl ⟨rfl,_,SqL.of htb⟩,?_⟩
   walk_at "s"
   refine ⟨_,rfl,by omega,by omega,?_⟩
   rw [show ((t.length:Int)+1).toNat=t.length+1 by omega]
   refine qF (n:=t.length+1) (fun e=>.int ((O5 t (t.length - (i+1)) e:Nat):Int)) (by omega) ?_ ?_
   ·intro e he
    have ec:=Df (t:=t) (b:=t.length - (i+1)) (x:=le) (by rw [show t.length - (i+1)=t.length - 1 - i by omega];exact hle2) e
    rw [show t.length - (i+1)+1=t.length - i by omega] at ec
    rw [Int.zero_add]
    walk_at "s"
    refine ⟨KeepSt.set rfl,?_⟩
    walk_at "s"
    refine bZ (SqL.of hpb) (Ou rfl (by omega)) ?_
    walk_at "s"
    refine pA (fun h=>?_) (fun h=>?_)
    ·walk_at "s"
     exact ⟨rfl,qD (by rw [ec,if_pos (by omega)];rfl)⟩
    ·walk_at "s"
     exact ⟨rfl,qD (by rw [ec,if_neg (by omega)];rfl)⟩
   ·intro nw G2 nnw s2 hnw
    walk_at "s"
    refine sW (s2 _ _ htb) (by omega) ?_
    walk_at "s"
    have hnw':G2 nw=some (.lst ((Ax t (t.length - (i+1))).map V.int)):=by
     rw [hnw]
     unfold Ax
     rw [AaO];rfl
    have hne:∀ {b:Addr} {xs:List V},G2 b=some (.lst xs)->True:=fun _=>trivial
    have C2:=(hC.same s2).push hnw'
    refine ⟨Same.put (sG.trans s2) ntb0,⟨_,aj,⟨C2.1,fun k hk=>?_⟩,fun r hr=>(Z0.mp hr).elim (hN r) fun hr=>by
     simp only [Y7,Zq,or_false] at hr
     cases hr
     exact Same.back sG nnw⟩,_,_,rfl⟩
    obtain ⟨b,e1,hb⟩:=C2.2 k hk
    refine ⟨b,e1,?_⟩
    rw [aG (fun z=>?_)]
    ·exact hb
    ·rw [z,s2 _ _ htb] at hb
     have e0:rs=(Ax t (t.length - k)).map V.int:=by injection hb with hb;injection hb
     obtain ⟨a0,ea0,_⟩:=hC.2 0 (by omega)
     rw [e0,Zd] at ea0
     cases hq:(Ax t (t.length - k))[0]? with
     | none=>rw [hq] at ea0;cases ea0
     | some v=>rw [hq] at ea0;cases ea0
  ·rintro U G ⟨sG,⟨rs,htb,hC,hN⟩,x3,x4,rfl⟩
   rw [bw] at hC
   walk_at "s"
   refine ⟨_,rfl,tb,rs,rfl,SqL.of htb,fun qq nqq=>?_⟩
   have s5:=(Same.refl G).upd nqq (o:=.lst rs.reverse)
   refine q qq rs.reverse _ (Same.back sG nqq) (sG.trans s5) aj ?_ fun r hr=>hN r (Abi.mp hr)
   have:=hC.rev.same s5
   refine ⟨this.1,fun k hk=>?_⟩
   obtain ⟨b,e1,hb⟩:=this.2 k hk
   refine ⟨b,e1,?_⟩
   rw [hb]
   show some (HO.lst (List.map V.int (Ax t (t.length - (t.length+1 - 1 - k)))))=_
   rw [show t.length - (t.length+1 - 1 - k)=k by omega]
end
local macro_rules | `(tactic| walk_at "s") => `(tactic| (with_reducible repeat (first | refine lC ?_ | walk_at "3")))
local macro_rules | `(tactic| walk_at "n") => `(tactic| (with_reducible repeat (walk_at "3")))
section
variable {P:Program} {w:World} {K:W.Frag} {mg:Str->Option Value} {base:Heap}
def tyF (ae ac:Addr):List (Str×V):=[("held_ends",.ref ae),("held_counts",.ref ac)]
structure TyO (H:Hp) (t:List Nat) (ae ac:Addr) (rs:List V):Prop where
 ends:H ae=some (.lst ((nI t).map V.int))
 cnts:H ac=some (.lst rs)
 rows:CT H rs (t.length+1) (Ax t)
def TyD (mg:Str->Option Value) (D:Addr->Prop) (H:Hp) (x:Addr) (t:List Nat):Prop:=Prm t/\∃ dx ae ac rs,H x=some (.ins (aF mg "Tally") dx (tyF ae ac))/\TyO H t ae ac rs/\¬ D x/\¬ D ae/\¬ D ac/\∀ r,V.ref r∈rs->¬ D r
theorem TyD.sub {H:Hp} {D D':Addr->Prop} {x:Addr} {t:List Nat} (h:TyD mg D H x t) (s:∀ g,D' g->D g):TyD mg D' H x t:=by
 obtain ⟨hP,dx,ae,ac,rs,hx,hO,n1,n2,n3,n4⟩:=h
 exact ⟨hP,dx,ae,ac,rs,hx,hO,fun z=>n1 (s _ z),fun z=>n2 (s _ z),fun z=>n3 (s _ z),fun r hr z=>n4 r hr (s _ z)⟩
theorem YL {D:Addr->Prop} {x g:Addr} (h:¬ D x) (hg:D g):x≠g:=fun z=>h (by rw [z];exact hg)
theorem TyD.put {H:Hp} {D:Addr->Prop} {g x:Addr} {t:List Nat} {o:HO} (h:TyD mg D H x t) (hg:D g):TyD mg D (upd H g o) x t:=by
 obtain ⟨hP,dx,ae,ac,rs,hx,hO,n1,n2,n3,n4⟩:=h
 refine ⟨hP,dx,ae,ac,rs,by rw [aG (YL n1 hg)];exact hx,⟨by rw [aG (YL n2 hg)];exact hO.ends,by rw [aG (YL n3 hg)];exact hO.cnts,hO.rows.1,fun k hk=>?_⟩,n1,n2,n3,n4⟩
 obtain ⟨b,e,hb⟩:=hO.rows.2 k hk
 exact ⟨b,e,by rw [aG (YL (n4 b (Y8 e)) hg)];exact hb⟩
def RD (mg:Str->Option Value):Sp:=fun vs H Q _=>∃ (x dx a:Addr) (t:List Nat),vs=[.ref x,.ref a]/\H x=some (.ins (aF mg "Tally") dx [])/\Tn H a t/\Prm t/\∀ H',Chg x H H'->TyD mg (fun g=>g≠x/\∃ o,H g=some o) H' x t->Q .non H'
theorem t7:aC ["self","turning"] ["self","turning"] (az jA):=⟨rfl,rfl,rfl,by trivial,rfl,by trivial,by trivial⟩
theorem jE (T:Txt K mg):nY P w K mg base 6 "Tally" "__init__" ["self","turning"] (RD mg):=by
 have bh:=bh (P:=P) (w:=w) (base:=base) T
 have xx:=xx (P:=P) (w:=w) (base:=base) T
 refine vh T.m_Tally___init__ t7 (fun _ _ _ _ _ _ us hl=>L2.nP (fun _ _=>rfl) us hl) ?_ fun f cdv A outer s H vs Q E hr h=>?_
 ·rintro vs H Q E ⟨x,dx,a,t,rfl,_⟩;rfl
 obtain ⟨x,dx,a,t,rfl,hx,ha,hP,q⟩:=h
 have hu:=hr.units0
 have hu64:=hr.units
 refine ⟨_,(aA (aY (aJ bh (hr.mono (by decide)) aP (aa (ao 1) aq) (by trivial))) (aA (jy (K:=K) rfl (ao 0) (sV (nQ (K:=K) rfl rfl) aP T.b_list mq (aa (ao 1) aq) (by trivial) (by trivial))) (aB (jy (K:=K) rfl (ao 0) (aJ xx (hr.mono (by decide)) aP (aa (ao 1) aq) (by trivial)))))),?_⟩
 walk_at "s"
 have hsz:20000<=sizeLine:=by decide
 have cl:=T.o_Tally.cl
 have na:=T.n_Tally
 refine ⟨a,t,rfl,ha,hP,fun H1 S1=>?_⟩
 walk_at "s"
 refine .inl ⟨a,(nI t).map V.int,rfl,(ha.same S1).imp SqL.of SqT.of,fun ae nae=>?_⟩
 have S2:=(Same.refl H1).upd nae (o:=.lst ((nI t).map V.int))
 have f2:=aj (H:=H1) (a:=ae) (o:=.lst ((nI t).map V.int))
 generalize upd H1 ae (.lst ((nI t).map V.int))=H2 at S2 f2 ⊢
 have U2:=S1.trans S2
 have hx2:=U2 _ _ hx
 have nx:∀ {G:Hp} {b:Addr} {fs:List (Str×V)} {us:List V},G x=some (.ins (aF mg "Tally") dx fs)->(G b=some (.lst us)\/G b=some (.tup us))->b≠x:=fun {G b fs us} h1 h2 z=>by
  rw [z,h1] at h2
  rcases h2 with h2 | h2 <;> cases h2
 walk_at "s"
 refine ⟨x,_,dx,_,rfl,hx2,cl,na _ (by simp),by simp,?_⟩
 walk_at "s"
 rw [jq (by show ([]:List Str).contains "held_ends"=false;trivial)]
 have hx3:=aj (H:=H2) (a:=x) (o:=.ins (aF mg "Tally") dx (([]:List (Str×V)) ++ ([("held_ends",.ref ae)]:List (Str×V))))
 have C3:Chg x H2 (upd H2 x (.ins (aF mg "Tally") dx (([]:List (Str×V)) ++ ([("held_ends",.ref ae)]:List (Str×V))))):=Chg.put (Chg.refl x H2)
 generalize upd H2 x (.ins (aF mg "Tally") dx (([]:List (Str×V)) ++ ([("held_ends",.ref ae)]:List (Str×V))))=H3 at hx3 C3 ⊢
 replace hx3:H3 x=some (.ins (aF mg "Tally") dx ([("held_ends",.ref ae)]:List (Str×V))):=hx3
 have ha2:=ha.same U2
 have ha3:Tn H3 a t:=by
  have nxa:=nx hx2 ha2
  rcases ha2 with h | h
  ·exact .inl (C3 _ _ nxa h)
  ·exact .inr (C3 _ _ nxa h)
 have f3:=C3 _ _ (nx hx2 (.inl f2)) f2
 walk_at "s"
 refine ⟨a,t,rfl,ha3,hP,fun ac rs H4 nac S4 hac hrs hfr=>?_⟩
 walk_at "s"
 have hx4:=S4 _ _ hx3
 refine ⟨x,_,dx,_,rfl,hx4,cl,na _ (by simp),by simp,?_⟩
 walk_at "s"
 rw [jq (by show (["held_ends"]:List Str).contains "held_counts"=false;trivial)]
 have hx5:=aj (H:=H4) (a:=x) (o:=.ins (aF mg "Tally") dx (([("held_ends",.ref ae)]:List (Str×V)) ++ ([("held_counts",.ref ac)]:List (Str×V))))
 have C5:Chg x H4 (upd H4 x (.ins (aF mg "Tally") dx (([("held_ends",.ref ae)]:List (Str×V)) ++ ([("held_counts",.ref ac)]:List (Str×V))))):=Chg.put (Chg.refl x H4)
 generalize upd H4 x (.ins (aF mg "Tally") dx (([("held_ends",.ref ae)]:List (Str×V)) ++ ([("held_counts",.ref ac)]:List (Str×V))))=H5 at hx5 C5 ⊢
 have hO5:TyO H5 t ae ac rs:=by
  refine ⟨?_,?_,hrs.1,fun k hk=>?_⟩
  ·exact C5 _ _ (nx hx4 (.inl (S4 _ _ f3))) (S4 _ _ f3)
  ·exact C5 _ _ (nx hx4 (.inl hac)) hac
  ·obtain ⟨b,e,hb⟩:=hrs.2 k hk
   exact ⟨b,e,C5 _ _ (nx hx4 (.inl hb)) hb⟩
 refine q H5 ?_ ⟨hP,dx,ae,ac,rs,hx5,hO5,fun z=>z.1 rfl,?_,?_,fun r hr z=>?_⟩
 ·intro b o nb e
  exact C5 b o nb (S4 _ _ (C3 b o nb (U2 _ _ e)))
 ·rintro ⟨ng,o,hg⟩
  rw [S1 _ _ hg] at nae;cases nae
 ·rintro ⟨ng,o,hg⟩
  rw [C3 _ o ng (U2 _ _ hg)] at nac;cases nac
 ·obtain ⟨ng,o,hg⟩:=z
  have:=hfr r hr
  rw [C3 _ o ng (U2 _ _ hg)] at this;cases this
theorem made {H1 H2:Hp} {x dx:Addr} {o o':HO} (nx:H1 x=none) (ndx:H1 dx=none) (c:Chg x (upd (upd H1 dx o) x o') H2):Same H1 H2:=fun b u e=>by
 have n1:b≠x:=fun z=>by rw [z,nx] at e;cases e
 have n2:b≠dx:=fun z=>by rw [z,ndx] at e;cases e
 exact c b u n1 (by rw [aG n1,aG n2];exact e)
theorem JN {H1:Hp} {x dx g:Addr} {o o' u:HO} (nx:H1 x=none) (ndx:H1 dx=none) (e:H1 g=some u):upd (upd H1 dx o) x o' g=some u/\g≠x:=by
 have n1:g≠x:=fun z=>by rw [z,nx] at e;cases e
 have n2:g≠dx:=fun z=>by rw [z,ndx] at e;cases e
 exact ⟨by rw [aG n1,aG n2];exact e,n1⟩
theorem gNe {H1:Hp} {x g:Addr} {u:HO} (nx:H1 x=none) (e:H1 g=some u):g≠x:=fun z=>by rw [z,nx] at e;cases e
def akF (ty:Addr) (m f:Nat):List (Str×V):=[("held_tally",.ref ty),("held_many",.int (m:Int)),("held_far",.int (f:Int))]
def AkD (mg:Str->Option Value) (D:Addr->Prop) (H:Hp) (x:Addr) (t:List Nat) (m f:Nat):Prop:=m+f=t.length/\∃ dx ty,H x=some (.ins (aF mg "Asks") dx (akF ty m f))/\TyD mg D H ty t/\¬ D x
theorem AkD.sub {H:Hp} {D D':Addr->Prop} {x:Addr} {t:List Nat} {m f:Nat} (h:AkD mg D H x t m f) (s:∀ g,D' g->D g):AkD mg D' H x t m f:=by
 obtain ⟨hl,dx,ty,hx,hT,n⟩:=h
 exact ⟨hl,dx,ty,hx,hT.sub s,fun z=>n (s _ z)⟩
def RG (mg:Str->Option Value):Sp:=fun vs H Q _=>∃ (x dx a:Addr) (t:List Nat) (m f:Nat),vs=[.ref x,.ref a,.int m]/\H x=some (.ins (aF mg "Asks") dx [])/\Tn H a t/\Prm t/\m+f=t.length/\∀ H',Chg x H H'->AkD mg (fun g=>g≠x/\∃ o,H g=some o) H' x t m f->Q .non H'
theorem uJ:aC ["self","lines","many"] ["self","lines","many"] (az jU):=⟨rfl,rfl,rfl,by trivial,rfl,by trivial,by trivial⟩
theorem jY (T:Txt K mg):nY P w K mg base 8 "Asks" "__init__" ["self","lines","many"] (RG mg):=by
 have jE:=jE (P:=P) (w:=w) (base:=base) T
 have dN:=dN (P:=P) (w:=w) (base:=base) T
 refine vh T.m_Asks___init__ uJ (fun _ _ _ _ _ _ us hl=>L2.uf (fun _ _ _=>rfl) us hl) ?_ fun f cdv A outer s H vs Q E hr h=>?_
 ·rintro vs H Q E ⟨x,dx,a,t,m,f',rfl,_⟩;rfl
 obtain ⟨x,dx,a,t,m,f',rfl,hx,ha,hP,hmf,q⟩:=h
 have hu:=hr.units0
 have hu64:=hr.units
 refine ⟨_,(aA (jy (K:=K) rfl (ao 0) (jF T.o_Tally jE (hr.mono (by decide)) aP aO (aa (ao 1) aq) (by trivial))) (aA (aY (tD dN (hr.mono (by decide)) aP aO (aa (ao 2) (aa aD (aa (aH (aK (K:=K) rfl) aP T.b_len bc (aa (ao 1) aq) (by trivial) (by trivial)) aq))) (by trivial))) (aA (jy (K:=K) rfl (ao 0) (ao 2)) (aB (jy (K:=K) rfl (ao 0) (aU mL (aH (aK (K:=K) rfl) aP T.b_len bc (aa (ao 1) aq) (by trivial) (by trivial)) (ao 2))))))),?_⟩
 walk_at "s"
 have hsz:20000<=sizeLine:=by decide
 have cl:=T.o_Asks.cl
 have na:=T.n_Asks
 intro ty dty nty ndty ne
 have hat:Tn (upd (upd H dty (.own ty)) ty (.ins (aF mg "Tally") dty [])) a t:=ha.imp (fun h=>(JN nty ndty h).1) (fun h=>(JN nty ndty h).1)
 refine ⟨ty,dty,a,t,rfl,aj,hat,hP,fun H1 c1 hT1=>⟨rfl,?_⟩⟩
 walk_at "s"
 have S1:=made nty ndty c1
 replace hT1:=hT1.sub (D':=fun g=>∃ o,H g=some o) (fun g hg=>by
  obtain ⟨o,hg⟩:=hg
  exact ⟨gNe nty hg,o,(JN nty ndty hg).1⟩)
 clear c1
 have hx1:=S1 _ _ hx
 have ax:a≠x:=fun z=>by
  rcases ha with h | h <;> rw [z,hx] at h <;> cases h
 refine ⟨x,_,dx,_,rfl,hx1,cl,na _ (by simp),by simp,?_⟩
 walk_at "s"
 rw [jq (by show ([]:List Str).contains "held_tally"=false;trivial)]
 have hx2:=aj (H:=H1) (a:=x) (o:=.ins (aF mg "Asks") dx (([]:List (Str×V)) ++ ([("held_tally",.ref ty)]:List (Str×V))))
 have C2:Chg x H (upd H1 x (.ins (aF mg "Asks") dx (([]:List (Str×V)) ++ ([("held_tally",.ref ty)]:List (Str×V))))):=Chg.put (fun b o n e=>S1 _ _ e)
 have hT2:=hT1.put (g:=x) (o:=.ins (aF mg "Asks") dx (([]:List (Str×V)) ++ ([("held_tally",.ref ty)]:List (Str×V)))) ⟨_,hx⟩
 generalize upd H1 x (.ins (aF mg "Asks") dx (([]:List (Str×V)) ++ ([("held_tally",.ref ty)]:List (Str×V))))=H2 at hx2 C2 hT2 ⊢
 replace hx2:H2 x=some (.ins (aF mg "Asks") dx ([("held_tally",.ref ty)]:List (Str×V))):=hx2
 have ha2:Tn H2 a t:=ha.imp (C2 _ _ ax) (C2 _ _ ax)
 have len:∀ (G:Hp) (R:V->Hp->Prop),Tn G a t->R (.int (t.length:Int)) G->Ij K [.ref a] G R:=fun G R hG hR=>by
  rcases hG with h | h
  ·refine gO (SqL.of h) ?_
   rw [bw];exact hR
  ·refine zL (SqT.of h) ?_
   rw [bw];exact hR
 walk_at "s"
 refine len _ _ ha2 ?_
 walk_at "s"
 refine Cz (by omega) (by omega) ?_
 walk_at "s"
 refine ⟨x,_,dx,_,rfl,hx2,cl,na _ (by simp),by simp,?_⟩
 walk_at "s"
 rw [jq (by show (["held_tally"]:List Str).contains "held_many"=false;trivial)]
 have hx3:=aj (H:=H2) (a:=x) (o:=.ins (aF mg "Asks") dx (([("held_tally",.ref ty)]:List (Str×V)) ++ ([("held_many",.int (m:Int))]:List (Str×V))))
 have C3:Chg x H (upd H2 x (.ins (aF mg "Asks") dx (([("held_tally",.ref ty)]:List (Str×V)) ++ ([("held_many",.int (m:Int))]:List (Str×V))))):=Chg.put C2
 have hT3:=hT2.put (g:=x) (o:=.ins (aF mg "Asks") dx (([("held_tally",.ref ty)]:List (Str×V)) ++ ([("held_many",.int (m:Int))]:List (Str×V)))) ⟨_,hx⟩
 generalize upd H2 x (.ins (aF mg "Asks") dx (([("held_tally",.ref ty)]:List (Str×V)) ++ ([("held_many",.int (m:Int))]:List (Str×V))))=H3 at hx3 C3 hT3 ⊢
 replace hx3:H3 x=some (.ins (aF mg "Asks") dx ([("held_tally",.ref ty),("held_many",.int (m:Int))]:List (Str×V))):=hx3
 have ha3:Tn H3 a t:=ha.imp (C3 _ _ ax) (C3 _ _ ax)
 walk_at "s"
 refine len _ _ ha3 ?_
 walk_at "s"
 refine ⟨x,_,dx,_,rfl,hx3,cl,na _ (by simp),by simp,?_⟩
 walk_at "s"
 rw [jq (by show (["held_tally","held_many"]:List Str).contains "held_far"=false;trivial),show (t.length:Int) - (m:Int)=(f':Int) by omega]
 exact q _ (Chg.put C3) ⟨hmf,dx,ty,aj,(hT3.put ⟨_,hx⟩).sub (fun g hg=>hg.2),fun z=>z.1 rfl⟩
theorem yd:(["sign"]:List Str).Nodup:=by trivial
def Pln (z:Str):Prop:=z.length<=24/\∀ c∈z.cps.toList,97<=c/\c < 123
theorem RJ:∀ k∈List.range 26,uH tW (97+k)=false/\(97+k)∈GOOD:=by trivial
theorem Pln.ok {z:Str} (h:Pln z) {c:Nat} (hc:c∈z.cps.toList):uH tW c=false/\c∈GOOD:=by
 have:=h.2 c hc
 have k:=RJ (c - 97) (Zk.mpr (by omega))
 rw [show 97+(c - 97)=c by omega] at k
 exact k
theorem Pln.row {z:Str} (h:Pln z):Row z:=⟨by have:=h.1;omega,fun c hc=>(h.ok hc).2⟩
def Th (K:W.Frag) (H:Hp) (v:V):Prop:=(∃ z:Str,v= .str z/\z.length<=5000)\/∃ T,TyOf K H v (.type T)/\PySem.W.kitOne K (.type T) (.type "str")=some false
theorem Th.same {H H':Hp} {v:V} (h:Th K H v) (s:Same H H'):Th K H' v:=by
 rcases h with h | ⟨T,a,c⟩
 ·exact .inl h
 ·exact .inr ⟨T,a.mono fun b o e _=>s b o e,c⟩
theorem Pln.th {z:Str} (h:Pln z) {H:Hp}:Th K H (.str z):=.inl ⟨z,rfl,by have:=h.1;omega⟩
def xH:V->Bool
 | .str z=>decide (z.length<=24) && z.cps.toList.all fun c=>!uH tW c
 | _=>false
theorem Pln.pl {z:Str} (h:Pln z):xH (.str z)=true:=by
 unfold xH
 simp only [Zb,AaK,gV]
 exact ⟨h.1,fun c hc=>by rw [(h.ok hc).1];rfl⟩
theorem notS {H:Hp} {v:V} {T:String} (h:TyOf K H v (.type T)) (k:PySem.W.kitOne K (.type T) (.type "str")=some false):xH v=false:=by
 cases v with
 | str z=>
  cases h
  have:PySem.W.kitOne K (.type "str") (.type "str")=some true:=rfl
  rw [this] at k;cases k
 | _=>rfl
def Wf (K:W.Frag):Sp:=fun vs H Q _=>∃ v:V,vs=[v]/\Th K H v/\∀ H',Same H H'->Q (.bl (xH v)) H'
theorem Dg:aC ["thing"] ["thing"] (az oA):=⟨rfl,rfl,rfl,by trivial,rfl,by trivial,by trivial⟩
theorem rR (T:Txt K mg):Has P w K mg base 1 "is_plain" ["thing"] (Wf K):=by
 refine fj T.d_is_plain Dg (fun _ _ _ _ _ _ us hl=>L2.iG (fun _=>rfl) us hl) ?_ fun f cdv A outer s H vs Q E hr h=>?_
 ·rintro vs H Q E ⟨v,rfl,_⟩;rfl
 obtain ⟨v,rfl,hT,q⟩:=h
 have hu:=hr.units0
 have hu64:=hr.units
 refine ⟨_,(aA (bJ (mz (oZ (dY (dU (aH (gU (K:=K) rfl) aP T.b_isinstance aV (aa (ao 0) (aa (uq aP T.b_str zG (by trivial) (by trivial)) aq)) (by trivial) (by trivial)))) (mQ (bA uM (aH (aK (K:=K) rfl) aP T.b_len bc (aa (ao 0) aq) (by trivial) (by trivial)) (wD aP T.c_MOST_LETTERS (by trivial)) (by walk_at "p"))))) (aB (aL jM)) bf) (aB (aL (aH (Bu rfl) aP T.b_all Li (aa (lE (sub:=[none]) (gJ (N:=["thing"]) (sc:=az oA) (N':=["sign"]) (by trivial)) rfl rfl rfl (iI (K:=K) rfl (ao 0)) (fun C s₀ H₀ ex=>(vg 0 (by trivial) yd)) (fun C s₀ H₀ ex=>je) (fun C s₀ H₀ ex=>(j4 (MF (K:=K) rfl hu64) (my 0 (by trivial)) (wC (YG (by trivial)) T.c_LETTERS (by trivial)) (by walk_at "p")))) aq) (by trivial) (by trivial))))),?_⟩
 walk_at "s"
 rcases hT with ⟨z,rfl,hz⟩ | ⟨ty,hty,hk⟩
 ·have hz1:z.length<=sizeLine:=Zm hz (by decide)
  refine m6 (.str z) rfl ?_
  walk_at "s"
  refine cz hz1 ?_
  walk_at "s"
  refine pA (fun h1=>?_) (fun h1=>?_)
  ·walk_at "s"
   have:xH (.str z)=false:=by
    unfold xH
    dsimp only
    rw [Zc (by omega)];rfl
   have q':=q H (Same.refl H)
   rw [this] at q'
   exact q'
  ·walk_at "s"
   refine .inr (.inr ⟨z,rfl,?_⟩)
   refine uw (fun i us G=>G=H/\us=((z.cps.toList.take i).map fun c=>!uH tW c).map V.bl) hz1 ⟨rfl,rfl⟩ ?_ ?_ ?_
   ·rintro i us G ⟨rfl,rfl⟩
    simp;omega
   ·rintro i us G c hc ⟨rfl,rfl⟩
    walk_at "s"
    refine ⟨KeepSt.set rfl,?_⟩
    walk_at "s"
    refine ⟨rfl,?_⟩
    rw [Aal,hc]
    simp [tW,uH]
   ·rintro us G D H' ⟨rfl,rfl⟩ nD S hD
    try walk_at "s"
    refine ⟨D,_,rfl,hD,?_⟩
    have e1:z.cps.toList.take z.cps.size=z.cps.toList:=Z3 (by simp)
    have e2:xH (.str z)=(List.map (fun c=>!uH tW c) (z.cps.toList.take z.cps.size)).all id:=by
     unfold xH
     dsimp only
     rw [Y9 (by omega),Bool.true_and,e1,List.all_map];rfl
    have q':=q _ S
    rw [e2] at q'
    exact q'
 ·refine m6 hty hk ?_
  walk_at "s"
  have q':=q H (Same.refl H)
  rw [notS hty hk] at q'
  exact q'
def Wg (mg:Str->Option Value) (C:Str) (H:Hp) (E:XK) (v:V):Prop:=∀ e H',Same H H'->IsX H' e (aF mg C) [("found",v)]->E (.ref (aF mg C)) (some e) H'
def Wh (K:W.Frag) (mg:Str->Option Value):Sp:=fun vs H Q E=>∃ v:V,vs=[v]/\Th K H v/\(xH v=true->∀ H',Same H H'->Q .non H')/\(xH v=false->Wg mg "NoPlain" H E v)
theorem ye:aC ["thing"] ["thing"] (az oE):=⟨rfl,rfl,rfl,by trivial,rfl,by trivial,by trivial⟩
theorem lg (T:Txt K mg):Ml P w K mg base 3 "need_plain" ["thing"] (Wh K mg):=by
 have rR:=rR (P:=P) (w:=w) (base:=base) T
 refine Ss T.d_need_plain ye (fun _ _ _ _ _ _ us hl=>L2.iG (fun _=>rfl) us hl) ?_ fun f cdv A outer s H vs Q E hr h=>?_
 ·rintro vs H Q E ⟨v,rfl,_⟩;rfl
 obtain ⟨v,rfl,hT,q1,q2⟩:=h
 have hu:=hr.units0
 have hu64:=hr.units
 refine ⟨_,(aB (bJ (dY (dU (aJ rR (hr.mono (by decide)) aP (aa (ao 0) aq) (by trivial)))) (aB (tG (w6 (P:=P) (w:=w) (base:=base) T) (hr.mono (by decide)) rfl aP aO (aa (ao 0) aq) (by trivial))) bf)),?_⟩
 walk_at "s"
 refine ⟨v,rfl,hT,fun H1 S1=>?_⟩
 walk_at "s"
 cases hb:xH v with
 | true=>
  walk_at "s"
  exact q1 hb H1 S1
 | false=>
  walk_at "s"
  exact ⟨rfl,(show 1<=sizeLine by decide),fun x H2 S2 X2=>q2 hb x H2 (S1.trans S2) X2⟩
def YM (side row:Str) (al ap:Addr) (h:Nat) (ak:Addr):List (Str×V):=Oe side (row ++ row) (Str.ofString "ring") al ap h ++ ([("held_row",.str row),("held_asks",.ref ak)]:List (Str×V))
def rgL (side row:Str):List Nat:=LN side.cps.size (row.cps.size+row.cps.size) (zc side (row ++ row))
def Rg (mg:Str->Option Value) (H:Hp) (x:Addr) (side row:Str):Prop:=Pln side/\Pln row/\row.cps.size≠0/\∃ dx al ap h ak,H x=some (.ins (aF mg "Ring") dx (YM side row al ap h ak))
theorem Rg.same {H H':Hp} {x:Addr} {side row:Str} (h:Rg mg H x side row) (s:Same H H'):Rg mg H' x side row:=by
 obtain ⟨a,b,c,dx,al,ap,h,ak,e⟩:=h
 exact ⟨a,b,c,dx,al,ap,h,ak,s _ _ e⟩
theorem Rg.p8 {H:Hp} {x:Addr} {side row:Str} (h:Rg mg H x side row):Yr mg H x "Ring" side (row ++ row) (Str.ofString "ring"):=by
 obtain ⟨a,b,c,dx,al,ap,h,ak,e⟩:=h
 exact ⟨by unfold Jz;simp,dx,al,ap,h,_,e⟩
theorem RK {v:V} (h:xH v=true):∃ z:Str,v= .str z/\z.length<=24:=by
 cases v with
 | str z=>
  unfold xH at h
  simp only [Zb,AaK] at h
  exact ⟨z,rfl,h.1⟩
 | _=>cases h
def Ow (K:W.Frag) (mg:Str->Option Value):Sp:=fun vs H Q E=>∃ (x dx:Addr) (v u:V),vs=[.ref x,v,u]/\H x=some (.ins (aF mg "Ring") dx [])/\Th K H v/\Th K H u/\
 (xH v=false->Wg mg "NoPlain" H E v)/\(xH v=true->xH u=false\/u= .str (Str.ofString "")->Wg mg "NoPlain" H E u)/\
 (xH v=true->xH u=true->u≠.str (Str.ofString "")->∃ (side row:Str),v= .str side/\u= .str row/\Pln side/\Pln row/\row.cps.size≠0/\∀ H',Chg x H H'->Rg mg H' x side row->Q .non H')
theorem ig:aC ["self","side","row","left","right","lines"] ["self","side","row"] (az jW):=⟨rfl,rfl,rfl,by trivial,rfl,by trivial,by trivial⟩
theorem cT (T:Txt K mg):nY P w K mg base 19 "Ring" "__init__" ["self","side","row"] (Ow K mg):=by
 have lg:=lg (P:=P) (w:=w) (base:=base) T
 have iT:=iT (P:=P) (w:=w) (base:=base) T
 have fu:=fu (P:=P) (w:=w) (base:=base) T
 have bB:=bB (P:=P) (w:=w) (base:=base) T
 have aQ:=aQ (P:=P) (w:=w) (base:=base) T
 have jY:=jY (P:=P) (w:=w) (base:=base) T
 refine vh T.m_Ring___init__ ig (fun _ _ _ _ _ _ us hl=>L2.uf (fun _ _ _=>rfl) us hl) ?_ fun f cdv A outer s H vs Q E hr h=>?_
 ·rintro vs H Q E ⟨x,dx,v,u,rfl,_⟩;rfl
 obtain ⟨x,dx,v,u,rfl,hx,tv,tu,q1,q2,q⟩:=h
 have hu:=hr.units0
 have hu64:=hr.units
 refine ⟨_,(aA (aY (tD lg (hr.mono (by decide)) aP aO (aa (ao 1) aq) (by trivial))) (aA (aY (tD lg (hr.mono (by decide)) aP aO (aa (ao 2) aq) (by trivial))) (aA (bJ (bA (ir (K:=K) rfl hu64) (ao 2) gq (by walk_at "p")) (aB (tG (w6 (P:=P) (w:=w) (base:=base) T) (hr.mono (by decide)) rfl aP aO (aa (ao 2) aq) (by trivial))) bf) (aA (aM (i:=3) ig.nd rfl gH (aJ iT (hr.mono (by decide)) aP (aa (ao 1) (aa (ao 2) aq)) (by trivial)) rfl) (aA (aM (i:=4) ig.nd rfl gH (aJ iT (hr.mono (by decide)) aP (aa (ao 1) (aa (ao 2) aq)) (by trivial)) rfl) (aA (aM (i:=5) ig.nd rfl gH (aJ fu (hr.mono (by decide)) aP (aa (bD (mg:=mg) rfl (ao 3) T.os_Piece bB (hr.mono (by decide)) aO) (aa (bD (mg:=mg) rfl (ao 4) T.os_Piece bB (hr.mono (by decide)) aO) (aa (aH (aK (K:=K) rfl) aP T.b_len bc (aa (ao 1) aq) (by trivial) (by trivial)) aq))) (by trivial)) rfl) (aA (aY (wM aQ (hr.mono (by decide)) aP aO (aa (ao 0) (aa (ao 1) (aa (aU aN (ao 2) (ao 2)) (aa gq (aa (ao 5) (aa (jd (aa (ao 3) (aa (ao 4) aq))) aq)))))) (by trivial))) (aA (jy (K:=K) rfl (ao 0) (ao 2)) (aB (jy (K:=K) rfl (ao 0) (jF T.o_Asks jY (hr.mono (by decide)) aP aO (aa (ao 5) (aa (aH (aK (K:=K) rfl) aP T.b_len bc (aa (ao 1) aq) (by trivial) (by trivial)) aq)) (by trivial)))))))))))),?_⟩
 walk_at "s"
 have hz:20000<=sizeLine:=by decide
 refine ⟨v,rfl,tv,fun hv H1 S1=>?_,fun hv=>q1 hv⟩
 walk_at "s"
 refine ⟨u,rfl,tu.same S1,fun hu' H2 S2=>?_,fun hu' e H2 S2 X2=>q2 hv (.inl hu') e H2 (S1.trans S2) X2⟩
 walk_at "s"
 obtain ⟨row,rfl,lr⟩:=RK hu'
 walk_at "s"
 by_cases h0:V.str row=V.str (Str.ofString "")
 ·rw [Y9 h0]
  show if true=true then _ else _
  walk_at "s"
  exact ⟨rfl,(show 1<=sizeLine by decide),fun e H3 S3 X3=>q2 hv (.inr h0) e H3 (S1.trans (S2.trans S3)) X3⟩
 rw [Zc h0]
 obtain ⟨side,row',rfl,e9,hs,hr',h0',q⟩:=q hv hu' h0
 obtain rfl:=V.str.inj e9
 clear q1 q2 e9 tv tu hv hu'
 have l1:side.length<=24:=hs.1
 have l2:row.length<=24:=hr'.1
 have e1:side.length=side.cps.size:=rfl
 have e2:row.length=row.cps.size:=rfl
 have ec:=gR row row
 have el:(row ++ row).length=row.length+row.length:=gR row row
 walk_at "s"
 refine ⟨side,row,rfl,hs.row,hr'.row,fun u nu H3 S3 hnu gu=>?_⟩
 walk_at "s"
 refine ⟨side,row,rfl,hs.row,hr'.row,fun l nl H4 S4 hnl gl=>?_⟩
 walk_at "s"
 obtain ⟨yu,ku,pu,hu0,gu0,_⟩:=gu.g
 obtain ⟨yl,kl,pl,hl0,gl0,_⟩:=gl.g
 have gu1:=gu0.same S4
 have gl1:=gl0
 obtain ⟨hyu,du,au,bu,xu,_,_⟩:=id gu1.pc
 obtain ⟨hyl,dl,al',bl,xl,_,_⟩:=id gl1.pc
 refine ⟨u,yu,du,_,rfl,hyu,xu,rfl,?_⟩
 walk_at "s"
 refine ⟨u,yu,_,_,_,_,_,_,rfl,gu1.pc,fun ru H5 nru S5 hru=>?_⟩
 walk_at "s"
 refine ⟨l,yl,dl,_,rfl,hyl,S5 _ _ xl,rfl,?_⟩
 walk_at "s"
 refine ⟨l,yl,_,_,_,_,_,_,rfl,gl1.pc.same S5,fun rl H6 nrl S6 hrl=>?_⟩
 walk_at "s"
 refine cz (by omega) ?_
 walk_at "s"
 refine ⟨ru,rl,side.cps.size,row.cps.size,row.cps.size,zc side (row ++ row),rfl,by omega,?_,?_,fun rr H7 nrr S7 hrr=>?_⟩
 walk_at "s"
 ·rw [nM (e':=zc side row) fun i j hi hj=>by unfold zc;rw [Fl hj]]
  exact S6 _ _ hru
 ·rw [nM (e':=zc side row) fun i j hi hj=>by unfold zc;rw [Fo]]
  exact hrl
 have U7:=S1.trans (S2.trans (S3.trans (S4.trans (S5.trans (S6.trans S7)))))
 walk_at "s"
 refine iH (by omega) ?_
 walk_at "s"
 refine cA rfl fun pp H8 npp S8 hpp=>?_
 walk_at "s"
 have U8:=U7.trans S8
 have W8:=S5.trans (S6.trans (S7.trans S8))
 refine ⟨x,dx,rr,pp,"Ring",side,row ++ row,_,_,_,[nu,nl],rfl,by unfold Jz;simp,U8 _ _ hx,S8 _ _ hrr,hpp,by simp,vQ (gu1.same W8) (gl1.same W8),fun h H9 hh C9 P9 N9=>?_⟩
 walk_at "s"
 obtain ⟨_,dx',al,ap,hx9,hal9,hap9⟩:=P9
 have rrx:rr≠x:=fun z=>by rw [z,U7 _ _ hx] at hrr;cases hrr
 have hrr9:=C9 _ _ rrx (S8 _ _ hrr)
 have C9':Chg x H H9:=fun b o n e=>C9 b o n (U8 _ _ e)
 clear hal9 hap9 N9
 refine ⟨x,_,dx',_,rfl,hx9,T.o_Ring.cl,T.n_Ring _ (by simp),by simp [Oe],?_⟩
 walk_at "s"
 rw [jq (by show (["held_side","held_top","held_kind","held_lines","held_parts","held_height"]:List Str).contains "held_row"=false;trivial)]
 have hxA:=aj (H:=H9) (a:=x) (o:=.ins (aF mg "Ring") dx' (Oe side (row ++ row) (Str.ofString "ring") al ap h ++ ([("held_row",.str row)]:List (Str×V))))
 have CA:Chg x H (upd H9 x (.ins (aF mg "Ring") dx' (Oe side (row ++ row) (Str.ofString "ring") al ap h ++ ([("held_row",.str row)]:List (Str×V))))):=Chg.put C9'
 have hrrA:upd H9 x (.ins (aF mg "Ring") dx' (Oe side (row ++ row) (Str.ofString "ring") al ap h ++ ([("held_row",.str row)]:List (Str×V)))) rr=some (.lst ((nI (rgL side row)).map V.int)):=by rw [aG rrx];exact hrr9
 generalize upd H9 x (.ins (aF mg "Ring") dx' (Oe side (row ++ row) (Str.ofString "ring") al ap h ++ ([("held_row",.str row)]:List (Str×V))))=HA at hxA CA hrrA ⊢
 walk_at "s"
 refine cz (by omega) ?_
 walk_at "s"
 intro ak dak nak ndak ne
 have lr:(rgL side row).length=side.cps.size+(row.cps.size+row.cps.size):=iu _ _ _
 refine ⟨ak,dak,rr,rgL side row,side.cps.size,row.cps.size+row.cps.size,rfl,aj,.inl (JN nak ndak hrrA).1,wZ (by omega),by rw [lr],fun HB cB hN=>⟨rfl,?_⟩⟩
 walk_at "s"
 have SB:=made nak ndak cB
 replace hN:=hN.sub (D':=fun g=>g=x) (by
  rintro g rfl
  exact ⟨gNe nak hxA,_,(JN nak ndak hxA).1⟩)
 refine ⟨x,_,dx',_,rfl,SB _ _ hxA,T.o_Ring.cl,T.n_Ring _ (by simp),by simp [Oe],?_⟩
 walk_at "s"
 rw [jq (by show (["held_side","held_top","held_kind","held_lines","held_parts","held_height","held_row"]:List Str).contains "held_asks"=false;trivial)]
 refine q _ (Chg.put fun b o n e=>SB _ _ (CA b o n e)) ⟨hs,hr',h0',dx',al,ap,h,ak,?_⟩
 rw [aj]
 unfold YM
 rw [List.append_assoc]
 rfl
end
local macro_rules | `(tactic| walk_at "s") => `(tactic| (with_reducible repeat (first | refine lC ?_ | walk_at "6")))
local macro_rules | `(tactic| walk_at "n") => `(tactic| (with_reducible repeat (walk_at "6")))
section
variable {P:Program} {w:World} {K:W.Frag} {mg:Str->Option Value} {base:Heap}
theorem rT:(["place","self"]:List Str).Nodup:=by trivial
theorem o8:(["place","text"]:List Str).Nodup:=by trivial
theorem Fp {a b:Str} (h:a.cps.toList=b.cps.toList):a=b:=by
 cases a;cases b
 congr 1
 exact Array.toList_inj.mp h
theorem RL {v:V} {hi:Int} (h:inB v 0 hi=true):∃ n:Nat,v= .int n/\(n:Int)<=hi:=by
 cases v with
 | int z=>
  unfold inB at h
  simp at h
  exact ⟨z.toNat,by rw [Int.toNat_of_nonneg h.1],by omega⟩
 | _=>cases h
theorem Dp {side row:Str} {al ap ak:Addr} {h:Nat} {m:Str} (g:(["held_side","held_top","held_kind","held_lines","held_parts","held_height","held_row","held_asks"]:List Str).contains m=false):(YM side row al ap h ak).lookup m=none:=by
 unfold YM Oe
 simp only [AaE,Bool.or_eq_false_iff] at g
 obtain ⟨h1,h2,h3,h4,h5,h6,h7,h8,_⟩:=g
 simp only [List.cons_append,List.nil_append,Zx,h1,h2,h3,h4,h5,h6,h7,h8,List.lookup_nil]
def fQ (row:Str) (i:Nat):Str:=Txt.slice row (some (i:Int)) none ++ Txt.slice row none (some (i:Int))
theorem vU (row:Str) (i:Nat):(fQ row i).cps.toList=row.cps.toList.drop i ++ row.cps.toList.take i:=by
 unfold fQ
 rw [cps_append,rn,wH]
theorem vV {row:Str} {i:Nat} (hi:i < row.cps.size):(fQ row i).length=row.cps.size:=by
 have h:=congrArg List.length (vU row i)
 rw [Z2,AaR,Aap] at h
 have h2:row.cps.toList.length=row.cps.size:=Zi
 have h3:(fQ row i).cps.toList.length=(fQ row i).length:=Zi
 omega
theorem RM {row:Str} (h:Pln row) {i:Nat} (hi:i < row.cps.size):Pln (fQ row i):=⟨by rw [vV hi];exact h.1,fun c hc=>by
 rw [vU] at hc
 rcases Z0.mp hc with h' | h'
 ·exact h.2 c (List.mem_of_mem_drop h')
 ·exact h.2 c (AaN h')⟩
theorem Ox (row:Str):fQ row 0=row:=Fp (by rw [vU];simp)
theorem Oz {row:Str} {i:Nat} (hi:i < row.cps.size) {n:Nat} (hn:row.cps.size<=n):(Txt.slice row (some (i:Int)) none).length+(Txt.slice row none (some (i:Int))).length<=n:=by
 have lr:=vV hi
 have e:=gR (Txt.slice row (some (i:Int)) none) (Txt.slice row none (some (i:Int)))
 unfold fQ at lr
 have e3:∀ z:Str,z.length=z.cps.size:=fun _=>rfl
 rw [e3] at lr ⊢
 rw [e3];omega
def jZ (row:Str):List Str:=(List.range row.cps.size).map (fQ row)
theorem jQ (row:Str):(jZ row).length=row.cps.size:=by unfold jZ;simp
theorem mH {row:Str} {i:Nat} (h:i < row.cps.size):(jZ row)[i]?=some (fQ row i):=by unfold jZ;rw [Zd,Zo h];rfl
theorem OD (t:Str) (ts:List Str):inV (.str t) (ts.map V.str)=decide (t∈ts):=by
 induction ts with
 | nil=>simp [inV]
 | cons a ts ih=>
  unfold inV at ih ⊢
  rw [ZQ,Abj,ih]
  by_cases h:a=t
  ·subst h;simp [Ba]
  ·have h':¬ t=a:=fun z=>h z.symm
   simp [Ba,h,h']
theorem OJ {H:Hp} {Q:VK} {p:Addr} {ts:List Str} {t:Str} (hp:H p=some (.lst (ts.map V.str))) (q:Q (.bl (decide (t∈ts))) H):Ld K (.str t) (.ref p) H Q:=
 .inr ⟨p,ts.map V.str,rfl,.inl (SqL.of hp),rfl,by rw [List.all_map];exact gV.mpr fun _ _=>rfl,by
  show Q (.bl (inV (.str t) (ts.map V.str))) H
  rw [OD];exact q⟩
def Yw (K:W.Frag) (mg:Str->Option Value):Sp:=fun vs H Q E=>∃ (x:Addr) (side row:Str) (v:V),vs=[.ref x,v]/\Rg mg H x side row/\Kd K H v/\(inB v 0 ((row.cps.size:Int) - 1)=false->Wg mg "NoPlace" H E v)/\(inB v 0 ((row.cps.size:Int) - 1)=true->Q .non H)
theorem qu:aC ["self","place"] ["self","place"] (az iw):=⟨rfl,rfl,rfl,by trivial,rfl,by trivial,by trivial⟩
theorem iy (T:Txt K mg):nY P w K mg base 4 "Ring" "need_opening" ["self","place"] (Yw K mg):=by
 have dN:=dN (P:=P) (w:=w) (base:=base) T
 refine vh T.m_Ring_need_opening qu (fun _ _ _ _ _ _ us hl=>L2.nP (fun _ _=>rfl) us hl) ?_ fun f cdv A outer s H vs Q E hr h=>?_
 ·rintro vs H Q E ⟨x,side,row,v,rfl,_⟩;rfl
 obtain ⟨x,side,row,v,rfl,hR,kv,q1,q2⟩:=h
 have hu:=hr.units0
 have hu64:=hr.units
 refine ⟨_,(aB (aY (tD dN (hr.mono (by decide)) aP aO (aa (ao 1) (aa aD (aa (aU mL (aH (aK (K:=K) rfl) aP T.b_len bc (aa (tO (K:=K) rfl (ao 0)) aq) (by trivial) (by trivial)) aD) aq))) (by trivial)))),?_⟩
 walk_at "s"
 obtain ⟨hs,hr',h0,dx,al,ap,h,ak,hx⟩:=id hR
 have hz:20000<=sizeLine:=by decide
 have l2:row.length<=24:=hr'.1
 have e2:row.length=row.cps.size:=rfl
 refine ⟨x,_,dx,_,_,rfl,hx,T.o_Ring.cl,T.n_Ring _ (by simp),rfl,?_⟩
 walk_at "s"
 refine cz (by omega) ?_
 walk_at "s"
 refine ⟨v,_,_,rfl,kv,fun hv=>?_,fun hv=>q1 hv⟩
 walk_at "s"
 exact q2 hv
def JP (K:W.Frag) (mg:Str->Option Value):Sp:=fun vs H Q E=>∃ (x:Addr) (side row:Str) (v:V),vs=[.ref x,v]/\Rg mg H x side row/\Kd K H v/\
 (inB v 0 ((row.cps.size:Int) - 1)=false->Wg mg "NoPlace" H E v)/\(∀ p:Nat,v= .int p->p < row.cps.size->Q (.str (fQ row p)) H)
theorem vB:aC ["self","place"] ["self","place"] (az lQ):=⟨rfl,rfl,rfl,by trivial,rfl,by trivial,by trivial⟩
theorem aX (T:Txt K mg):nY P w K mg base 5 "Ring" "opening" ["self","place"] (JP K mg):=by
 have iy:=iy (P:=P) (w:=w) (base:=base) T
 refine vh T.m_Ring_opening vB (fun _ _ _ _ _ _ us hl=>L2.nP (fun _ _=>rfl) us hl) ?_ fun f cdv A outer s H vs Q E hr h=>?_
 ·rintro vs H Q E ⟨x,side,row,v,rfl,_⟩;rfl
 obtain ⟨x,side,row,v,rfl,hR,kv,q1,q2⟩:=h
 have hu:=hr.units0
 have hu64:=hr.units
 refine ⟨_,(aA (aY (nZ (ao 0) T.o_Ring iy (hr.mono (by decide)) aO (aa (ao 1) aq))) (aB (aL (aU aN (cu (eU (K:=K) rfl) (tO (K:=K) rfl (ao 0)) (bL (ao 1)) cj) (cu (eU (K:=K) rfl) (tO (K:=K) rfl (ao 0)) cj (bL (ao 1))))))),?_⟩
 walk_at "s"
 obtain ⟨hs,hr',h0,dx,al,ap,h,ak,hx⟩:=id hR
 have hz:20000<=sizeLine:=by decide
 have l2:row.length<=24:=hr'.1
 have e2:row.length=row.cps.size:=rfl
 refine ⟨x,dx,_,rfl,hx,Dp (by trivial),?_⟩
 walk_at "s"
 refine ⟨x,side,row,v,rfl,hR,kv,fun hv=>q1 hv,fun hv=>?_⟩
 walk_at "s"
 obtain ⟨p,rfl,hp⟩:=RL hv
 have hp':p < row.cps.size:=by omega
 refine ⟨x,_,dx,_,_,rfl,hx,T.o_Ring.cl,T.n_Ring _ (by simp),rfl,?_⟩
 walk_at "s"
 refine iK (by omega) ?_
 walk_at "s"
 refine ⟨x,_,dx,_,_,rfl,hx,T.o_Ring.cl,T.n_Ring _ (by simp),rfl,?_⟩
 walk_at "s"
 refine iK (by omega) ?_
 walk_at "s"
 refine iH (by have:=Oz hp' (Y4 _);omega) ?_
 walk_at "s"
 exact q2 p rfl hp'
def RN (mg:Str->Option Value):Sp:=fun vs H Q _=>∃ (x:Addr) (side row:Str),vs=[.ref x]/\Rg mg H x side row/\∀ q H',H q=none->Same H H'->H' q=some (.lst ((jZ row).map V.str))->Q (.ref q) H'
theorem uK:aC ["self"] ["self"] (az iD):=⟨rfl,rfl,rfl,by trivial,rfl,by trivial,by trivial⟩
theorem d7 (T:Txt K mg):nY P w K mg base 6 "Ring" "openings" ["self"] (RN mg):=by
 have aX:=aX (P:=P) (w:=w) (base:=base) T
 refine vh T.m_Ring_openings uK (fun _ _ _ _ _ _ us hl=>L2.iG (fun _=>rfl) us hl) ?_ fun f cdv A outer s H vs Q E hr h=>?_
 ·rintro vs H Q E ⟨x,side,row,rfl,_⟩;rfl
 obtain ⟨x,side,row,rfl,hR,q⟩:=h
 have hu:=hr.units0
 have hu64:=hr.units
 refine ⟨_,(aB (aL (lE (sub:=[none,some 0]) (gJ (N:=["self"]) (sc:=az iD) (N':=["place","self"]) (by trivial)) rfl rfl rfl (m7 aP T.b_range (aa (aH (aK (K:=K) rfl) aP T.b_len bc (aa (tO (K:=K) rfl (o7 0)) aq) (by trivial) (by trivial)) aq)) (fun C s₀ H₀ ex=>(vg 0 (by trivial) rT)) (fun C s₀ H₀ ex=>je) (fun C s₀ H₀ ex=>(tQ (mg:=mg) rfl (sS 1 (by trivial)) T.o_Ring aX (hr.mono (by decide)) (jg fun _ _=>rfl) (aa (my 0 (by trivial)) aq)))))),?_⟩
 walk_at "s"
 obtain ⟨hs,hr',h0,dx,al,ap,h,ak,hx⟩:=id hR
 have hz:20000<=sizeLine:=by decide
 have l2:row.length<=24:=hr'.1
 have e2:row.length=row.cps.size:=rfl
 refine ⟨x,_,dx,_,_,rfl,hx,T.o_Ring.cl,T.n_Ring _ (by simp),rfl,?_⟩
 walk_at "s"
 refine cz (by omega) ?_
 walk_at "s"
 refine ⟨_,rfl,by omega,by omega,?_⟩
 rw [show ((row.length:Int)).toNat=row.cps.size from rfl]
 refine qF (n:=row.cps.size) (fun i=>.str (fQ row i)) (by omega) ?_ ?_
 ·intro i hi
  walk_at "s"
  refine ⟨KeepSt.set rfl,?_⟩
  walk_at "s"
  refine ⟨x,dx,_,rfl,hx,Dp (by trivial),?_⟩
  walk_at "s"
  rw [show (0:Int)+(i:Int)=i by omega]
  refine ⟨x,side,row,.int i,rfl,hR,.inl ⟨_,rfl⟩,fun hv=>?_,fun p e hp=>?_⟩
  walk_at "s"
  ·unfold inB at hv
   simp at hv
   omega
  ·injection e with e
   have:p=i:=by omega
   subst this
   exact ⟨rfl,qD rfl⟩
 ·intro D H' nD s hD
  try walk_at "s"
  refine q D H' nD s ?_
  rw [hD]
  unfold jZ
  rw [AaO];rfl
theorem tyS {H H':Hp} {v:V} {t:Value} (a:TyOf K H v t) (s:Same H H'):TyOf K H' v t:=by
 cases a with
 | non=>exact .non
 | bl x=>exact .bl x
 | int x=>exact .int x
 | str x=>exact .str x
 | flt x=>exact .flt x
 | lst e=>exact .lst (s _ _ e)
 | frz e=>exact .frz (s _ _ e)
 | tup e=>exact .tup (s _ _ e)
 | dK e=>exact .dK (s _ _ e)
 | dT e=>exact .dT (s _ _ e)
 | ins e a b c d f=>exact .ins (s _ _ e) a b c d f
def NoR (K:W.Frag) (mg:Str->Option Value) (H:Hp) (v:V):Prop:=∃ t,TyOf K H v t/\PySem.W.kitOne K t (.ref (aF mg "Ring"))=some false
theorem NoR.same {H H':Hp} {v:V} (h:NoR K mg H v) (s:Same H H'):NoR K mg H' v:=by
 obtain ⟨t,a,b⟩:=h
 exact ⟨t,tyS a s,b⟩
def RP (K:W.Frag) (mg:Str->Option Value):Sp:=fun vs H Q E=>∃ (x:Addr) (side row:Str) (v:V),vs=[.ref x,v]/\Rg mg H x side row/\
 ((∃ (y:Addr) (s2 r2:Str),v= .ref y/\Rg mg H y s2 r2/\∀ H',Same H H'->Q (.bl (decide (r2∈jZ row))) H')\/(NoR K mg H v/\Wg mg "NoPiece" H E v))
theorem vC:aC ["self","other"] ["self","other"] (az lR):=⟨rfl,rfl,rfl,by trivial,rfl,by trivial,by trivial⟩
theorem bY (T:Txt K mg):nY P w K mg base 7 "Ring" "is_same" ["self","other"] (RP K mg):=by
 have aX:=aX (P:=P) (w:=w) (base:=base) T
 have d7:=d7 (P:=P) (w:=w) (base:=base) T
 refine vh T.m_Ring_is_same vC (fun _ _ _ _ _ _ us hl=>L2.nP (fun _ _=>rfl) us hl) ?_ fun f cdv A outer s H vs Q E hr h=>?_
 ·rintro vs H Q E ⟨x,side,row,v,rfl,_⟩;rfl
 obtain ⟨x,side,row,v,rfl,hR,hc⟩:=h
 have hu:=hr.units0
 have hu64:=hr.units
 refine ⟨_,(aA (bJ (dY (dU (aH (gY (K:=K) rfl) aP T.b_isinstance aV (aa (ao 1) (aa (tE aP T.o_Ring.at_ (by trivial)) aq)) (by trivial) (by trivial)))) (aB (tG (Fe (P:=P) (w:=w) (base:=base) T) (hr.mono (by decide)) rfl aP aO (aa (ao 1) aq) (by trivial))) bf) (aB (aL (j4 (wA (K:=K) rfl) (nZ (ao 1) T.o_Ring aX (hr.mono (by decide)) aO (aa aD aq)) (wJ (ao 0) T.o_Ring d7 (hr.mono (by decide)) aO) (by walk_at "p"))))),?_⟩
 walk_at "s"
 rcases hc with ⟨y,s2,r2,rfl,hY,q⟩ | ⟨⟨t,ty,k⟩,q⟩
 ·obtain ⟨hs,hr',h0,dx,al,ap,h,ak,hx⟩:=id hR
  obtain ⟨hs2,hr2,h02,dy,al2,ap2,h2,ak2,hy⟩:=id hY
  refine Ek (T.t_Ring.ty T.o_Ring.cl hy) rfl T.u_Ring_Ring.one ?_
  walk_at "s"
  refine ⟨y,dy,_,rfl,hy,Dp (by trivial),?_⟩
  walk_at "s"
  refine ⟨y,s2,r2,.int 0,rfl,hY,.inl ⟨_,rfl⟩,fun hv=>?_,fun p e hp=>?_⟩
  walk_at "s"
  ·unfold inB at hv
   simp at hv
   omega
  injection e with e
  have:p=0:=by omega
  subst this
  rw [Ox]
  walk_at "s"
  refine ⟨x,dx,_,rfl,hx,Dp (by trivial),?_⟩
  walk_at "s"
  refine ⟨x,side,row,rfl,hR,fun d H1 nd S1 hd=>?_⟩
  walk_at "s"
  refine OJ hd ?_
  walk_at "s"
  exact q H1 S1
 ·refine Ek ty rfl k ?_
  walk_at "s"
  exact ⟨rfl,(show 1<=sizeLine by decide),fun e H1 S1 X1=>q e H1 S1 X1⟩
def LeastR (row:Str) (M:Str) (k:Nat):Prop:=M∈jZ row/\(∀ a∈jZ row,¬ a.cps.toList < M.cps.toList)/\k=(jZ row).idxOf M
theorem Wi {a b:Str} (h1:¬ a.cps.toList < b.cps.toList) (h2:¬ b.cps.toList < a.cps.toList):a=b:=Fp (by
 have h3:b.cps.toList<=a.cps.toList:=h1
 have h4:a.cps.toList<=b.cps.toList:=h2
 exact List.le_antisymm h4 h3)
theorem LeastR.uni {row M N:Str} {k j:Nat} (h:LeastR row M k) (h1:N∈jZ row) (h2:∀ a∈jZ row,¬ a.cps.toList < N.cps.toList) (h3:j=(jZ row).idxOf N):N=M/\j=k:=by
 have e:N=M:=Wi (h.2.1 N h1) (h2 M h.1)
 subst e
 exact ⟨rfl,by rw [h3,h.2.2]⟩
def RQ (mg:Str->Option Value):Sp:=fun vs H Q _=>∃ (x:Addr) (side row:Str),vs=[.ref x]/\Rg mg H x side row/\∀ q M k H',Same H H'->LeastR row M k->H' q=some (.tup [.str M,.int (k:Nat)])->Q (.ref q) H'
theorem O1 {row:Str} {i:Nat} (hi:i < row.cps.size) (h:∀ j,j < row.cps.size->xQ [.str (fQ row j),.int (j:Int)] [.str (fQ row i),.int (i:Int)]=false):LeastR row (fQ row i) i:=by
 have key:∀ j,j < row.cps.size->(fQ row j=fQ row i->i<=j)/\¬ (fQ row j).cps.toList < (fQ row i).cps.toList:=fun j hj=>by
  have:=h j hj
  unfold xQ at this
  by_cases e:fQ row j=fQ row i
  ·rw [if_pos (by rw [e])] at this
   unfold xQ at this
   refine ⟨fun _=>?_,by rw [e];exact List.lt_irrefl _⟩
   by_cases e2:(V.int (j:Int))=V.int (i:Int)
   ·injection e2 with e2;omega
   ·rw [if_neg e2] at this
    unfold ltV at this
    simp only [AaU] at this
    omega
  ·rw [if_neg (fun z=>e (V.str.inj z))] at this
   unfold ltV at this
   simp only [AaU] at this
   exact ⟨fun z=>absurd z e,this⟩
 refine ⟨Y8 (mH hi),fun a ha=>?_,?_⟩
 ·unfold jZ at ha
  obtain ⟨j,hj,rfl⟩:=ZP.mp ha
  exact (key j (Zk.mp hj)).2
 ·have hm:fQ row i∈jZ row:=Y8 (mH hi)
  have hl:=Aac.mpr hm
  rw [jQ] at hl
  have e1:(jZ row)[(jZ row).idxOf (fQ row i)]?=some (fQ row i):=by
   rw [YT (by rw [jQ];exact hl)];simp
  rw [mH hl] at e1
  have h1:=(key _ hl).1 (Zv e1)
  have h2:(jZ row).idxOf (fQ row i)<=i:=by
   refine Nat.le_of_not_lt fun z=>?_
   have:=List.not_of_lt_findIdx (p:=fun x=>x == fQ row i) (xs:=jZ row) (i:=i) z
   obtain ⟨w1,w2⟩:=YW.mp (mH hi)
   rw [w2] at this
   simp at this
  omega
theorem yf:aC ["self"] ["self"] (az kY):=⟨rfl,rfl,rfl,by trivial,rfl,by trivial,by trivial⟩
theorem oX (T:Txt K mg):nY P w K mg base 7 "Ring" "least" ["self"] (RQ mg):=by
 have d7:=d7 (P:=P) (w:=w) (base:=base) T
 refine vh T.m_Ring_least yf (fun _ _ _ _ _ _ us hl=>L2.iG (fun _=>rfl) us hl) ?_ fun f cdv A outer s H vs Q E hr h=>?_
 ·rintro vs H Q E ⟨x,side,row,rfl,_⟩;rfl
 obtain ⟨x,side,row,rfl,hR,q⟩:=h
 have hu:=hr.units0
 have hu64:=hr.units
 refine ⟨_,(aB (aL (aH (yR rfl (Nk hu64)) aP T.b_min Lh (aa (lE (sub:=[none,none]) (gJ (N:=["self"]) (sc:=az kY) (N':=["place","text"]) (by trivial)) rfl rfl rfl (zP (K:=K) rfl rfl aP T.b_enumerate (aa (wJ (ao 0) T.o_Ring d7 (hr.mono (by decide)) aO) aq)) (fun C s₀ H₀ ex=>(Ef (K:=K) (n:=2) rfl rfl (m8 (vg 0 (by trivial) o8) (m8 (vg 1 (by trivial) o8) zO)))) (fun C s₀ H₀ ex=>je) (fun C s₀ H₀ ex=>(sU (aa (my 1 (by trivial)) (aa (my 0 (by trivial)) aq))))) aq) (by trivial) (by trivial)))),?_⟩
 walk_at "s"
 obtain ⟨hs,hr',h0,dx,al,ap,h,ak,hx⟩:=id hR
 have hz:20000<=sizeLine:=by decide
 have l2:row.length<=24:=hr'.1
 have e2:row.length=row.cps.size:=rfl
 refine ⟨x,dx,_,rfl,hx,Dp (by trivial),?_⟩
 walk_at "s"
 refine ⟨x,side,row,rfl,hR,fun d H1 nd S1 hd=>?_⟩
 walk_at "s"
 refine .inr ⟨d,_,rfl,SqL.of hd,?_⟩
 refine Er (xs:=(jZ row).map V.str) (fun i ys G=>Same H1 G/\∃ as:List Addr,ys=as.map V.ref/\as.length=i/\∀ k b,as[k]?=some b->G b=some (.tup [.str (fQ row k),.int (k:Int)])) (by rw [Zj,jQ];omega) ⟨Same.refl H1,[],rfl,rfl,fun k b e=>by simp at e⟩ ?_ (fun i ys G h=>SqL.of (h.1 _ _ hd)) ?_ ?_
 ·rintro i ys G ⟨_,as,rfl,rfl,_⟩
  simp
 ·rintro i ys G T' w hw ⟨sG,as,rfl,rfl,has⟩ nT
  have hi:as.length < row.cps.size:=by have:=(YW.mp hw).1;rw [Zj,jQ] at this;exact this
  rw [Zd,mH hi] at hw
  cases hw
  have hT:=aj (H:=G) (a:=T') (o:=.tup [.int (as.length:Int),.str (fQ row as.length)])
  have sT:Same G (upd G T' (.tup [.int (as.length:Int),.str (fQ row as.length)])):=(Same.refl G).upd nT
  generalize upd G T' (.tup [.int (as.length:Int),.str (fQ row as.length)])=G' at hT sT ⊢
  walk_at "s"
  refine b7 (SqT.of hT) (by rfl) ?_
  walk_at "s"
  refine ⟨(KeepSt.set rfl).trans (KeepSt.set rfl),?_⟩
  walk_at "s"
  refine cA rfl fun b G2 nb S2 hb=>?_
  walk_at "s"
  refine ⟨sG.trans (sT.trans S2),as ++ [b],by simp,by simp,fun k c e=>?_⟩
  by_cases ek:k < as.length
  ·rw [Zu ek] at e
   exact S2 _ _ (sT _ _ (has k c e))
  ·have ek':k=as.length:=by
    have:=(YW.mp e).1
    simp at this;omega
   subst ek'
   rw [Zr (Y4 _),Nat.sub_self] at e
   cases e
   exact hb
 ·rintro ys G D H2 ⟨sG,as,rfl,hl,has⟩ nD S2 hD
  try walk_at "s"
  rw [Zj,jQ] at hl
  refine Q5 (ks:=fun k=>[.str (fQ row k),.int (k:Int)]) hD (fun z=>h0 (by rw [← hl,z];rfl)) (fun i a e=>S2 _ _ (has i a e)) (fun i j _ _=>.str (.int .nil)) fun i a e hmin=>?_
  have hi:i < as.length:=(YW.mp e).1
  exact q a (fQ row i) i H2 (S1.trans (sG.trans S2)) (O1 (by omega) fun j hj=>hmin j (by omega)) (S2 _ _ (has i a e))
end
local macro_rules | `(tactic| walk_at "s") => `(tactic| (with_reducible repeat (first | refine lC ?_ | walk_at "7")))
local macro_rules | `(tactic| walk_at "n") => `(tactic| (with_reducible repeat (walk_at "7")))
section
variable {P:Program} {w:World} {K:W.Frag} {mg:Str->Option Value} {base:Heap}
def Wj (K:W.Frag):Sp:=fun vs H Q _=>∃ (a:Addr) (ns:List Int) (k:Int),vs=[.ref a,.int k]/\SqL K H a (ns.map V.int)/\0<=k/\∀ n,Q (.int n) H
theorem xF:aC ["_law_script","_law_k"] ["_law_script","_law_k"] (az mU):=⟨rfl,rfl,rfl,by trivial,rfl,by trivial,by trivial⟩
theorem jG (T:Txt K mg):Has P w K mg base 1 "_law_cell_at" ["_law_script","_law_k"] (Wj K):=by
 refine fj T.d_law_cell_at xF (fun _ _ _ _ _ _ us hl=>L2.nP (fun _ _=>rfl) us hl) ?_ fun f cdv A outer s H vs Q E hr h=>?_
 ·rintro vs H Q E ⟨a,ns,k,rfl,_⟩;rfl
 obtain ⟨a,ns,k,rfl,hS,h0,q⟩:=h
 have hu:=hr.units0
 have hu64:=hr.units
 refine ⟨_,(aA (bJ (bA Be (ao 1) (aH (aK (K:=K) rfl) aP T.b_len bc (aa (ao 0) aq) (by trivial) (by trivial)) (by walk_at "p")) (aB (aL (pL (K:=K) rfl (ao 0) (ao 1)))) bf) (aB (aL aD))),?_⟩
 walk_at "s"
 refine gO hS ?_
 walk_at "s"
 refine pA (fun hk=>?_) (fun hk=>?_)
 ·rw [Zj] at hk
  walk_at "s"
  refine bZ hS (Gb (v:=.int (ns.getD k.toNat 0)) h0 ?_) (q _)
  rw [Zd,YZ,YT (by omega)];rfl
 ·walk_at "s"
  exact q _
def YQ (n:Nat):Nat:=(Str.ofString "abcdefghijklmnopqrstuvwxyz").cps.toList.getD n 0
theorem Yx:∀ n∈List.range 26,97<=YQ n/\YQ n < 123:=by trivial
def Yy:Sp:=fun vs H Q _=>∃ n:Int,vs=[.int n]/\∀ c,97<=c->c < 123->Q (.str ⟨#[c]⟩) H
theorem yg:aC ["_law_number"] ["_law_number"] (az oK):=⟨rfl,rfl,rfl,by trivial,rfl,by trivial,by trivial⟩
theorem dO (T:Txt K mg):Has P w K mg base 1 "_law_letter" ["_law_number"] Yy:=by
 refine fj T.d_law_letter yg (fun _ _ _ _ _ _ us hl=>L2.iG (fun _=>rfl) us hl) ?_ fun f cdv A outer s H vs Q E hr h=>?_
 ·rintro vs H Q E ⟨n,rfl,_⟩;rfl
 obtain ⟨n,rfl,q⟩:=h
 have hu:=hr.units0
 have hu64:=hr.units
 refine ⟨_,(aB (aL (pL (K:=K) rfl gq (aU dX (ao 0) aD)))),?_⟩
 walk_at "s"
 have hl:(Str.ofString "abcdefghijklmnopqrstuvwxyz").cps.toList.length=26:=by trivial
 have hk:=Yx (n % 26).toNat (Zk.mpr (by omega))
 refine Sd (c:=YQ (n % 26).toNat) (by trivial) ?_ (q _ hk.1 hk.2)
 refine Gb (by omega) ?_
 have hi:(n % 26).toNat < (Str.ofString "abcdefghijklmnopqrstuvwxyz").cps.toList.length:=by rw [hl];omega
 unfold YQ
 rw [YZ,YT hi];rfl
def RT:Sp:=fun vs H Q _=>∃ n:Int,vs=[.int n]/\∀ m:Int,Q (.int m) H
theorem ik:aC ["_law_cell","_law_found","_law_number","_law_k"] ["_law_cell"] (az p7):=⟨rfl,rfl,rfl,by trivial,rfl,by trivial,by trivial⟩
theorem qw (T:Txt K mg):Has P w K mg base 1 "_law_great" ["_law_cell"] RT:=by
 refine fj T.d_law_great ik (fun _ _ _ _ _ _ us hl=>L2.iG (fun _=>rfl) us hl) ?_ fun f cdv A outer s H vs Q E hr h=>?_
 ·rintro vs H Q E ⟨n,rfl,_⟩;rfl
 obtain ⟨n,rfl,q⟩:=h
 have hu:=hr.units0
 have hu64:=hr.units
 refine ⟨_,(aA (bJ (bA R4 (ao 0) (aU Us aD aD) (by walk_at "p")) (aB (aL (ao 0))) bf) (aA (aM (i:=1) ik.nd rfl gH aD rfl) (aA (aM (i:=2) ik.nd rfl gH (aU aN (aU dX (ao 0) aD) aD) rfl) (aA (jf ZR rfl (m7 aP T.b_range (aa aD aq)) (eZ (i:=3) ik.nd rfl gH rfl) (aA (aM (i:=2) ik.nd rfl gH (aU dX (aU aN (aU aN (aU j5 (ao 2) (ao 2)) (aU j5 aD (ao 2))) (ao 3)) aD) rfl) (aB (aM (i:=1) ik.nd rfl gH (aU aN (aU j5 (ao 1) aD) (aU dX (aU j5 (ao 2) aD) aD)) rfl)))) (aB (aL (ao 1))))))),?_⟩
 walk_at "s"
 refine pA (fun h1=>?_) (fun h1=>?_)
 ·walk_at "s"
  exact q _
 ·walk_at "s"
  refine ⟨8,rfl,by decide,by decide,?_⟩
  refine ug (lo:=0) (n:=8) (fun k U H'=>∃ (f m:Int) (x:Option V),H'=H/\0<=m/\m < 2147500000/\U=[some (.int n),some (.int f),some (.int m),x]) ⟨0,n % 2147483647+12345,none,rfl,by omega,by omega,rfl⟩ ?_ ?_
  ·rintro i U H' hi ⟨f,m,x,rfl,h1,h2,rfl⟩
   walk_at "s"
   refine ⟨_,_,_,rfl,?_,?_,rfl⟩
   ·omega
   ·omega
  ·rintro U H' ⟨f,m,x,rfl,h1,h2,rfl⟩
   walk_at "s"
   exact q _
theorem Pln.nil:Pln (Str.ofString ""):=⟨by trivial,fun c hc=>by revert c;trivial⟩
theorem Pln.push {z:Str} {c:Nat} (h:∀ c∈z.cps.toList,97<=c/\c < 123) (h1:97<=c) (h2:c < 123):∀ d∈(z ++ (⟨#[c]⟩:Str)).cps.toList,97<=d/\d < 123:=fun d hd=>by
 rw [cps_append] at hd
 rcases Z0.mp hd with g | g
 ·exact h d g
 ·simp at g;subst g;exact ⟨h1,h2⟩
theorem RV (d:Int) (h0:0<=d) (h1:d < 6):∃ w:Int,Do ([.int 1,.int 2,.int 2,.int 3,.int 4,.int 26]:List V) d=some (.int w)/\0 < w/\w<=26:=by
 obtain ⟨n,rfl⟩:∃ n:Nat,d=n:=⟨d.toNat,by omega⟩
 have hn:n=0\/n=1\/n=2\/n=3\/n=4\/n=5:=by omega
 rcases hn with rfl | rfl | rfl | rfl | rfl | rfl
 ·exact ⟨1,rfl,by decide,by decide⟩
 ·exact ⟨2,rfl,by decide,by decide⟩
 ·exact ⟨2,rfl,by decide,by decide⟩
 ·exact ⟨3,rfl,by decide,by decide⟩
 ·exact ⟨4,rfl,by decide,by decide⟩
 ·exact ⟨26,rfl,by decide,by decide⟩
def Wl:Sp:=fun vs H Q _=>∃ (n:Int),vs=[.int n,.int 24]/\∀ z H',Same H H'->Pln z->Q (.str z) H'
theorem cU:aC ["_law_cell","_law_most","_law_number","_law_many","_law_wide","_law_first","_law_row_here","_law_k"] ["_law_cell","_law_most"] (az uC):=⟨rfl,rfl,rfl,by trivial,rfl,by trivial,by trivial⟩
theorem lu (T:Txt K mg):Has P w K mg base 2 "_law_row" ["_law_cell","_law_most"] Wl:=by
 have qw:=qw (P:=P) (w:=w) (base:=base) T
 have dO:=dO (P:=P) (w:=w) (base:=base) T
 refine fj T.d_law_row cU (fun _ _ _ _ _ _ us hl=>L2.nP (fun _ _=>rfl) us hl) ?_ fun f cdv A outer s H vs Q E hr h=>?_
 ·rintro vs H Q E ⟨n,rfl,_⟩;rfl
 obtain ⟨n,rfl,q⟩:=h
 have hu:=hr.units0
 have hu64:=hr.units
 refine ⟨_,(aA (aM (i:=2) cU.nd rfl gH (aJ qw (hr.mono (by decide)) aP (aa (ao 0) aq) (by trivial)) rfl) (aA (aM (i:=3) cU.nd rfl gH (aU dX (ao 2) aD) rfl) (aA (bJ (bA (ir (K:=K) rfl hu64) (aU dX (aU fG (ao 2) aD) aD) aD (by walk_at "p")) (aB (aM (i:=3) cU.nd rfl gH (aU dX (aU fG (ao 2) aD) (aU aN (ao 1) aD)) rfl)) bf) (aA (aM (i:=2) cU.nd rfl gH (aU fG (ao 2) aD) rfl) (aA (aM (i:=4) cU.nd rfl gH (pL (K:=K) rfl (jd (aa aD (aa aD (aa aD (aa aD (aa aD (aa aD aq))))))) (aU dX (ao 2) aD)) rfl) (aA (aM (i:=5) cU.nd rfl gH (aU fG (ao 2) aD) rfl) (aA (aM (i:=2) cU.nd rfl gH (aU fG (ao 5) aD) rfl) (aA (aM (i:=6) cU.nd rfl gH gq rfl) (aA (jf ZR rfl (m7 aP T.b_range (aa (ao 3) aq)) (eZ (i:=7) cU.nd rfl gH rfl) (aA (aM (i:=6) cU.nd rfl gH (aU aN (ao 6) (aJ dO (hr.mono (by decide)) aP (aa (aU aN (aU dX (ao 5) aD) (aU dX (ao 2) (ao 4))) aq) (by trivial))) rfl) (aB (aM (i:=2) cU.nd rfl gH (aU fG (ao 2) (ao 4)) rfl)))) (aB (aL (ao 6)))))))))))),?_⟩
 walk_at "n"
 with_reducible refine lC ?_
 walk_at "n"
 refine ⟨_,rfl,fun m=>?_⟩
 walk_at "n"
 with_reducible refine lC ?_
 walk_at "n"
 with_reducible refine Sy (fun U H1=>∃ k:Nat,k<=24/\H1=H/\U=[some (.int n),some (.int 24),some (.int m),some (.int k),none,none,none,none]) ?_ ?_
 rotate_left
 ·intro N hN
  walk_at "n"
  refine pA (fun h3=>?_) (fun h3=>?_)
  ·walk_at "n"
   exact hN _ _ ⟨(m / 72 % 25).toNat,by omega,rfl,by rw [Int.toNat_of_nonneg (by omega)];rfl⟩
  ·walk_at "n"
   exact hN _ _ ⟨(m % 9).toNat,by omega,rfl,by rw [Int.toNat_of_nonneg (by omega)];rfl⟩
 ·rintro U H1 ⟨k,hk,rfl,rfl⟩
  walk_at "s"
  refine cA rfl fun p2 H2 n2 S2 h2=>?_
  walk_at "s"
  obtain ⟨w,ew,hw0,hw1⟩:=RV (m / 1800 % 6) (by omega) (by omega)
  refine bZ (SqL.of h2) ew ?_
  walk_at "s"
  refine ⟨k,rfl,by omega,by omega,?_⟩
  refine ug (lo:=0) (n:=k) (fun i U H'=>∃ (z:Str) (j f:Int) (x:Option V),H'=H2/\(∀ c∈z.cps.toList,97<=c/\c < 123)/\z.length=i/\U=[some (.int n),some (.int 24),some (.int j),some (.int k),some (.int w),some (.int f),some (.str z),x]) ⟨_,_,_,_,rfl,Pln.nil.2,by trivial,rfl⟩ ?_ ?_
  ·rintro i U H' hi ⟨z,j,f,x,rfl,hR,hl,rfl⟩
   have s1000:1000<=sizeLine:=by decide
   walk_at "s"
   refine ⟨_,rfl,fun c hc1 hc2=>?_⟩
   walk_at "s"
   refine iH (by rw [Lk];omega) ?_
   walk_at "s"
   refine ⟨_,_,_,_,rfl,Pln.push hR hc1 hc2,?_,rfl⟩
   have:=gR z ⟨#[c]⟩
   show (z ++ (⟨#[c]⟩:Str)).cps.size=i+1
   rw [this,show z.cps.size=z.length from rfl,hl];rfl
  ·rintro U H' ⟨z,j,f,x,rfl,hR,hl,rfl⟩
   walk_at "s"
   exact q z H' S2 ⟨by omega,hR⟩
end
local macro_rules | `(tactic| walk_at "s") => `(tactic| (with_reducible repeat (first | refine lC ?_ | walk_at "6")))
local macro_rules | `(tactic| walk_at "n") => `(tactic| (with_reducible repeat (walk_at "6")))
section
variable {P:Program} {w:World} {K:W.Frag} {mg:Str->Option Value} {base:Heap}
theorem t8:(["_law_k","_law_row_here"]:List Str).Nodup:=by trivial
theorem O2 {x:Str} {n:Nat} (h:x.length<=100) (hn:n<=100):MulOk x (n:Int):=by
 have h1:x.length*n<=100*100:=Nat.mul_le_mul h hn
 refine ⟨?_,fun a b=>?_,fun a b=>?_⟩
 ·simp;omega
 ·have:((x.length:Int))<=(2 ^ 63 - 1) / (n:Int):=by
   rw [Int.le_ediv_iff_mul_le (by omega)]
   have:((x.length*n:Nat):Int)<=10000:=by omega
   push_cast at this
   omega
  omega
 ·have e:Int.toNat (n:Int)=n:=by omega
  rw [e]
  have hs2:sizeLine=16777216:=sizeLine_eq
  unfold Builtin.Str.tooLong
  rw [hs2]
  simp
  omega
theorem Dh {c:Nat} {a:Array Nat}:∀ (k:Nat) (acc:Array Nat),c∈((List.replicate k a).foldl (· ++ ·) acc).toList->c∈acc.toList\/c∈a.toList
 | 0,acc,h=>.inl h
 | k+1,acc,h=>by
  rw [Aaa,List.foldl_cons] at h
  rcases Dh k _ h with h | h
  ·rw [Array.toList_append] at h
   exact Z0.mp h
  ·exact .inr h
theorem RW {x:Str} {n:Int} {c:Nat} (h:c∈(Txt.mul x n).cps.toList):c∈x.cps.toList:=by
 unfold Txt.mul at h
 split at h
 ·cases h
 ·split at h
  ·exact h
  ·rcases Dh _ _ h with h | h
   ·cases h
   ·exact h
theorem Di (z:Str):(z9 z none none (-1)).cps.toList=z.cps.toList.reverse:=by
 have e:∀ n:Nat,Builtin.Str.strSliceIndices none none (-1) n=(List.range n).map fun k=>n - 1 - k:=fun n=>by
  show sliceRange ((n:Int) - 1) (-1) (-1)=_
  unfold sliceRange
  rw [if_neg (by decide)]
  have ec:(if (n:Int) - 1 > -1 then ((n:Int) - 1 - -1 - -1 - 1) / (- -1) else 0).toNat=n:=by
   by_cases h:(n:Int) - 1 > -1
   ·rw [if_pos h]
    have:((n:Int) - 1 - -1 - -1 - 1) / (- -1)=n:=by
     rw [show (- -1:Int)=1 from rfl,Int.ediv_one];omega
    rw [this];simp
   ·rw [if_neg h]
    show 0=n
    omega
  show List.map _ (List.range (if (n:Int) - 1 > -1 then ((n:Int) - 1 - -1 - -1 - 1) / (- -1) else 0).toNat)=_
  rw [ec]
  refine AaQ fun k hk=>?_
  have:=Zk.mp hk
  omega
 unfold z9
 rw [e,List.filterMap_map]
 show List.filterMap _ _=_
 refine Aa8 fun i=>?_
 have f:((List.range z.length).filterMap ((fun x=>z.cps[x]?) ∘ fun k=>z.length - 1 - k))=(List.range z.length).map fun k=>z.cps.toList.getD (z.length - 1 - k) 0:=by
  rw [← List.filterMap_eq_map]
  have gen:∀ (l:List Nat) (f g:Nat->Option Nat),(∀ k∈l,f k=g k)->l.filterMap f=l.filterMap g:=fun l f g h=>by
   induction l with
   | nil=>rfl
   | cons a l ih=>rw [Aay,Aay,h a (by simp),ih fun k hk=>h k (by simp [hk])]
  refine gen _ _ _ fun k hk=>?_
  have hk:k < z.cps.size:=Zk.mp hk
  have hk2:z.length=z.cps.size:=rfl
  show z.cps[z.length - 1 - k]?=some (z.cps.toList.getD (z.length - 1 - k) 0)
  rw [YZ,hk2,Array.getElem?_toList,Array.getElem?_eq_getElem (by omega)];rfl
 rw [f]
 have hl:z.cps.toList.length=z.length:=by simp [Str.length]
 by_cases hi:i < z.length
 ·rw [Zd,Zo hi,List.getElem?_reverse (by omega),hl]
  show some (z.cps.toList.getD (z.length - 1 - i) 0)=_
  rw [YZ,YT (by omega)];rfl
 ·rw [ZZ (by simp;omega),ZZ (by rw [List.length_reverse,hl];omega)]
def Wm (z:Str):Str:=z9 z none none (-1)
theorem Hh (z:Str):(Wm z).length=z.length:=by
 have:=congrArg List.length (Di z)
 rw [List.length_reverse] at this
 simpa [Wm,Str.length] using this
theorem RX {z:Str} (h:Pln z):Pln (Wm z):=⟨by rw [Hh];exact h.1,fun c hc=>h.2 c (by unfold Wm at hc;rw [Di] at hc;exact Abi.mp hc)⟩
theorem Pln.sub {y z:Str} (h:Pln z) (hl:y.length<=24) (hm:∀ c∈y.cps.toList,c∈z.cps.toList):Pln y:=⟨hl,fun c hc=>h.2 c (hm c hc)⟩
theorem Ay (z:Str) (k:Nat):(Txt.slice z none (some (k:Int))).length=min k z.length:=by
 have h:=congrArg List.length (wH z k)
 rw [Aap] at h
 have e1:(Txt.slice z none (some (k:Int))).cps.toList.length=(Txt.slice z none (some (k:Int))).length:=Zi
 have e2:z.cps.toList.length=z.length:=Zi
 rw [e1,e2] at h;exact h
theorem Dj (z:Str) (k:Nat):(Txt.slice z (some (k:Int)) none).length=z.length - k:=by
 have h:=congrArg List.length (rn z k)
 rw [AaR] at h
 have e1:(Txt.slice z (some (k:Int)) none).cps.toList.length=(Txt.slice z (some (k:Int)) none).length:=Zi
 have e2:z.cps.toList.length=z.length:=Zi
 rw [e1,e2] at h;exact h
theorem Az {z:Str} {k:Nat} {c:Nat} (h:c∈(Txt.slice z none (some (k:Int))).cps.toList):c∈z.cps.toList:=by
 rw [wH] at h;exact AaN h
theorem Dk {z:Str} {k:Nat} {c:Nat} (h:c∈(Txt.slice z (some (k:Int)) none).cps.toList):c∈z.cps.toList:=by
 rw [rn] at h;exact List.mem_of_mem_drop h
theorem qL (y z:Str):(y ++ z).length=y.length+z.length:=gR y z
theorem Hi {y z:Str} {c:Nat} (h:c∈(y ++ z).cps.toList):c∈y.cps.toList\/c∈z.cps.toList:=by
 rw [cps_append] at h;exact Z0.mp h
theorem Pln.one {c:Nat} (h1:97<=c) (h2:c < 123):Pln ⟨#[c]⟩:=⟨by rw [Lk];omega,fun d hd=>by simp at hd;subst hd;exact ⟨h1,h2⟩⟩
def RZ:Sp:=fun vs H Q _=>∃ (n:Int),vs=[.int n]/\∀ z H',Same H H'->Pln z->z.cps.size≠0->Q (.str z) H'
theorem oY:aC ["_law_cell","_law_row_here","_law_part"] ["_law_cell"] (az qd):=⟨rfl,rfl,rfl,by trivial,rfl,by trivial,by trivial⟩
theorem qx (T:Txt K mg):Has P w K mg base 3 "_law_round" ["_law_cell"] RZ:=by
 have lu:=lu (P:=P) (w:=w) (base:=base) T
 have dO:=dO (P:=P) (w:=w) (base:=base) T
 refine fj T.d_law_round oY (fun _ _ _ _ _ _ us hl=>L2.iG (fun _=>rfl) us hl) ?_ fun f cdv A outer s H vs Q E hr h=>?_
 ·rintro vs H Q E ⟨n,rfl,_⟩;rfl
 obtain ⟨n,rfl,q⟩:=h
 have hu:=hr.units0
 have hu64:=hr.units
 refine ⟨_,(aA (aM (i:=1) oY.nd rfl gH (aJ lu (hr.mono (by decide)) aP (aa (aU fG (ao 0) aD) (aa aD aq)) (by trivial)) rfl) (aA (bJ (bA (ir (K:=K) rfl hu64) (ao 1) gq (by walk_at "p")) (aB (aL (aJ dO (hr.mono (by decide)) aP (aa (aU fG (ao 0) aD) aq) (by trivial)))) bf) (aA (bJ (bA (ir (K:=K) rfl hu64) (aU dX (ao 0) aD) aD (by walk_at "p")) (aA (aM (i:=2) oY.nd rfl gH (cu (eU (K:=K) rfl) (ao 1) cj (bL (aU aN aD (aU dX (aU fG (ao 0) aD) aD)))) rfl) (aB (aL (cu (eU (K:=K) rfl) (aU j5 (ao 2) aD) cj (bL (aU j5 (aH (aK (K:=K) rfl) aP T.b_len bc (aa (ao 2) aq) (by trivial) (by trivial)) (aU aN aD (aU dX (aU fG (ao 0) aD) aD)))))))) bf) (aB (aL (ao 1)))))),?_⟩
 walk_at "s"
 have hz:20000<=sizeLine:=by decide
 refine ⟨_,rfl,fun z H1 S1 hz'=>?_⟩
 walk_at "s"
 have lz:=hz'.1
 have ez:z.length=z.cps.size:=rfl
 refine pA (fun h=>?_) (fun h=>?_)
 ·walk_at "s"
  refine ⟨_,rfl,fun c h1 h2=>?_⟩
  walk_at "s"
  exact q _ H1 S1 (Pln.one h1 h2) (by show 1≠0;decide)
 ·have h0:z.cps.size≠0:=fun e=>h (by rw [qK.mpr e])
  walk_at "s"
  refine pA (fun h2=>?_) (fun h2=>?_)
  ·walk_at "s"
   obtain ⟨d,hd,hd1,hd2⟩:∃ d:Nat,1+n / 2 % 4=(d:Int)/\1<=d/\d<=4:=⟨(1+n / 2 % 4).toNat,by omega,by omega,by omega⟩
   rw [hd]
   refine iK (by omega) ?_
   walk_at "s"
   have lp:=Ay z d
   have hp:∀ c∈(Txt.slice z none (some (d:Int))).cps.toList,c∈z.cps.toList:=fun c hc=>Az hc
   generalize Txt.slice z none (some (d:Int))=y at lp hp ⊢
   have ly:1<=y.length/\y.length<=4:=by omega
   refine Lj (O2 (n:=6) (by omega) (by omega)) ?_
   walk_at "s"
   have lm:=Qo (x:=y) (n:=6) (by omega)
   have hm:∀ c∈(Txt.mul y 6).cps.toList,c∈y.cps.toList:=fun c hc=>RW hc
   generalize Txt.mul y 6=m at lm hm ⊢
   refine cz (by omega) ?_
   walk_at "s"
   obtain ⟨e,he,he1,he2⟩:∃ e:Nat,1+n / 8 % 6=(e:Int)/\1<=e/\e<=6:=⟨(1+n / 8 % 6).toNat,by omega,by omega,by omega⟩
   rw [he]
   have hk:(y.length:Int)*(e:Int)=((y.length*e:Nat):Int):=by push_cast;rfl
   have hk1:1<=y.length*e:=Nat.mul_pos (by omega) (by omega)
   rw [hk]
   have lk:=Ay m (y.length*e)
   have hm2:∀ c∈(Txt.slice m none (some ((y.length*e:Nat):Int))).cps.toList,c∈m.cps.toList:=fun c hc=>Az hc
   refine iK (by omega) (q _ H1 S1 (hz'.sub (by omega) fun c hc=>hp c (hm c (hm2 c hc))) ?_)
   show (Txt.slice m none (some ((y.length*e:Nat):Int))).length≠0
   rw [lk]
   omega
  ·walk_at "s"
   exact q z H1 S1 hz' h0
def Yz:Sp:=fun vs H Q _=>∃ row:Str,vs=[.str row]/\row.length<=24/\∀ q H',H q=none->Same H H'->H' q=some (.lst ((jZ row).map V.str))->Q (.ref q) H'
theorem vD:aC ["_law_row_here"] ["_law_row_here"] (az jk):=⟨rfl,rfl,rfl,by trivial,rfl,by trivial,by trivial⟩
theorem bj (T:Txt K mg):Has P w K mg base 1 "_law_openings" ["_law_row_here"] Yz:=by
 refine fj T.d_law_openings vD (fun _ _ _ _ _ _ us hl=>L2.iG (fun _=>rfl) us hl) ?_ fun f cdv A outer s H vs Q E hr h=>?_
 ·rintro vs H Q E ⟨row,rfl,_⟩;rfl
 obtain ⟨row,rfl,hr',q⟩:=h
 have hu:=hr.units0
 have hu64:=hr.units
 refine ⟨_,(aB (aL (lE (sub:=[none,some 0]) (gJ (N:=["_law_row_here"]) (sc:=az jk) (N':=["_law_k","_law_row_here"]) (by trivial)) rfl rfl rfl (m7 aP T.b_range (aa (aH (aK (K:=K) rfl) aP T.b_len bc (aa (o7 0) aq) (by trivial) (by trivial)) aq)) (fun C s₀ H₀ ex=>(vg 0 (by trivial) t8)) (fun C s₀ H₀ ex=>je) (fun C s₀ H₀ ex=>(aU aN (cu (eU (K:=K) rfl) (sS 1 (by trivial)) (bL (my 0 (by trivial))) cj) (cu (eU (K:=K) rfl) (sS 1 (by trivial)) cj (bL (my 0 (by trivial))))))))),?_⟩
 walk_at "s"
 have hz:20000<=sizeLine:=by decide
 have e2:row.length=row.cps.size:=rfl
 refine cz (by omega) ?_
 walk_at "s"
 refine ⟨_,rfl,by omega,by omega,?_⟩
 rw [show ((row.length:Int)).toNat=row.cps.size from rfl]
 refine qF (n:=row.cps.size) (fun i=>.str (fQ row i)) (by omega) ?_ ?_
 ·intro i hi
  walk_at "s"
  refine ⟨KeepSt.set rfl,?_⟩
  walk_at "s"
  rw [show (0:Int)+(i:Int)=i by omega]
  refine iK (by omega) ?_
  walk_at "s"
  refine iK (by omega) ?_
  walk_at "s"
  refine iH (by have:=Oz hi (Y4 _);omega) ?_
  walk_at "s"
  exact ⟨rfl,qD rfl⟩
 ·intro D H' nD s hD
  try walk_at "s"
  refine q D H' nD s ?_
  rw [hD]
  unfold jZ
  rw [AaO];rfl
def R0 (K:W.Frag):Sp:=fun vs H Q _=>∃ (row:Str) (n:Int),vs=[.str row,.int n]/\Pln row/\row.cps.size≠0/\∀ z H',Same H H'->Pln z->z.cps.size≠0->Q (.str z) H'
theorem lq:aC ["_law_row_here","_law_cell","_law_some","_law_at","_law_letter_here"] ["_law_row_here","_law_cell"] (az qe):=⟨rfl,rfl,rfl,by trivial,rfl,by trivial,by trivial⟩
theorem qy (T:Txt K mg):Has P w K mg base 2 "_law_other" ["_law_row_here","_law_cell"] (R0 K):=by
 have bj:=bj (P:=P) (w:=w) (base:=base) T
 have dO:=dO (P:=P) (w:=w) (base:=base) T
 refine fj T.d_law_other lq (fun _ _ _ _ _ _ us hl=>L2.nP (fun _ _=>rfl) us hl) ?_ fun f cdv A outer s H vs Q E hr h=>?_
 ·rintro vs H Q E ⟨row,n,rfl,_⟩;rfl
 obtain ⟨row,n,rfl,hr',h0,q⟩:=h
 have hu:=hr.units0
 have hu64:=hr.units
 refine ⟨_,(aA (aM (i:=2) lq.nd rfl gH (pL (K:=K) rfl (aJ bj (hr.mono (by decide)) aP (aa (ao 0) aq) (by trivial)) (aU dX (aU fG (ao 1) aD) (aH (aK (K:=K) rfl) aP T.b_len bc (aa (ao 0) aq) (by trivial) (by trivial)))) rfl) (aA (aM (i:=3) lq.nd rfl gH (aU dX (aU fG (ao 1) aD) (aH (aK (K:=K) rfl) aP T.b_len bc (aa (ao 2) aq) (by trivial) (by trivial))) rfl) (aA (aM (i:=4) lq.nd rfl gH (aJ dO (hr.mono (by decide)) aP (aa (aU fG (ao 1) aD) aq) (by trivial)) rfl) (aA (bJ (bA (ir (K:=K) rfl hu64) (aU dX (ao 1) aD) aD (by walk_at "p")) (aB (aL (aU aN (aU aN (cu (eU (K:=K) rfl) (ao 2) cj (bL (ao 3))) (ao 4)) (cu (eU (K:=K) rfl) (ao 2) (bL (aU aN (ao 3) aD)) cj)))) bf) (aA (bJ (mz (zN (bA (ir (K:=K) rfl hu64) (aU dX (ao 1) aD) aD (by walk_at "p")) (vK (bA uM (aH (aK (K:=K) rfl) aP T.b_len bc (aa (ao 2) aq) (by trivial) (by trivial)) aD (by walk_at "p"))))) (aB (aL (aU aN (cu (eU (K:=K) rfl) (ao 2) cj (bL (ao 3))) (cu (eU (K:=K) rfl) (ao 2) (bL (aU aN (ao 3) aD)) cj)))) bf) (aA (bJ (mz (zN (bA (ir (K:=K) rfl hu64) (aU dX (ao 1) aD) aD (by walk_at "p")) (vK (bA Be (aH (aK (K:=K) rfl) aP T.b_len bc (aa (ao 2) aq) (by trivial) (by trivial)) aD (by walk_at "p"))))) (aB (aL (aU aN (aU aN (cu (eU (K:=K) rfl) (ao 2) cj (bL (ao 3))) (ao 4)) (cu (eU (K:=K) rfl) (ao 2) (bL (ao 3)) cj)))) bf) (aA (bJ (bA (ir (K:=K) rfl hu64) (aU dX (ao 1) aD) aD (by walk_at "p")) (aB (aL (Mu (ao 2) cj cj (bL (Lp vY aD))))) bf) (aB (aL (ao 2)))))))))),?_⟩
 walk_at "s"
 have hz:20000<=sizeLine:=by decide
 have l2:row.length<=24:=hr'.1
 have e2:row.length=row.cps.size:=rfl
 refine ⟨row,rfl,l2,fun d H1 nd S1 hd=>?_⟩
 walk_at "s"
 refine cz (by omega) ?_
 walk_at "s"
 obtain ⟨i,hi,hi1⟩:∃ i:Nat,n / 5 % (row.length:Int)=(i:Int)/\i < row.cps.size:=⟨(n / 5 % (row.length:Int)).toNat,by have:=Int.emod_nonneg (n / 5) (b:=(row.length:Int)) (by omega);omega,by have:=Int.emod_nonneg (n / 5) (b:=(row.length:Int)) (by omega);have:=Int.emod_lt_of_pos (n / 5) (b:=(row.length:Int)) (by omega);omega⟩
 rw [hi]
 have hr:(jZ row)[i]?=some (fQ row i):=mH hi1
 refine bZ (SqL.of hd) (rW (by rw [Zd,hr];rfl)) ?_
 walk_at "s"
 have hp:=RM hr' hi1
 have lr:=vV hi1
 generalize fQ row i=r at hp lr ⊢
 refine cz (by omega) ?_
 walk_at "s"
 obtain ⟨a,ha,ha1⟩:∃ a:Nat,n / 120 % (r.length:Int)=(a:Int)/\a < r.length:=⟨(n / 120 % (r.length:Int)).toNat,by have:=Int.emod_nonneg (n / 120) (b:=(r.length:Int)) (by omega);omega,by have:=Int.emod_nonneg (n / 120) (b:=(r.length:Int)) (by omega);have:=Int.emod_lt_of_pos (n / 120) (b:=(r.length:Int)) (by omega);omega⟩
 rw [ha]
 walk_at "s"
 refine ⟨_,rfl,fun c hc1 hc2=>?_⟩
 walk_at "s"
 have lc:(⟨#[c]⟩:Str).length=1:=rfl
 have t1:=Ay r a
 have f0:=Dj r a
 have f1:=Dj r (a+1)
 have p1:∀ b∈(Txt.slice r none (some (a:Int))).cps.toList,97<=b/\b < 123:=fun b hb=>hp.2 b (Az hb)
 have p2:∀ b∈(Txt.slice r (some (a:Int)) none).cps.toList,97<=b/\b < 123:=fun b hb=>hp.2 b (Dk hb)
 have p3:∀ b∈(Txt.slice r (some ((a+1:Nat):Int)) none).cps.toList,97<=b/\b < 123:=fun b hb=>hp.2 b (Dk hb)
 have p4:∀ b∈(⟨#[c]⟩:Str).cps.toList,97<=b/\b < 123:=fun b hb=>by simp at hb;subst hb;exact ⟨hc1,hc2⟩
 have mem2:∀ {x y:Str},(∀ b∈x.cps.toList,97<=b/\b < 123)->(∀ b∈y.cps.toList,97<=b/\b < 123)->∀ b∈(x ++ y).cps.toList,97<=b/\b < 123:=fun h1 h2 b hb=>(Hi hb).elim (h1 b) (h2 b)
 have sz:∀ x:Str,x.cps.size=x.length:=fun _=>rfl
 have last:Q (.str r) H1:=q r H1 S1 hp (by rw [sz];omega)
 refine pA (fun h1=>?_) (fun h1=>?_)
 ·walk_at "s"
  refine iK (by omega) ?_
  walk_at "s"
  refine iH (by omega) ?_
  walk_at "s"
  rw [show (a:Int)+1=((a+1:Nat):Int) by omega]
  refine iK (by omega) ?_
  walk_at "s"
  have l3:=qL (Txt.slice r none (some (a:Int))) ⟨#[c]⟩
  have l4:=qL (Txt.slice r none (some (a:Int)) ++ ⟨#[c]⟩) (Txt.slice r (some ((a+1:Nat):Int)) none)
  refine iH (by omega) (q _ H1 S1 ⟨by omega,mem2 (mem2 p1 p4) p3⟩ (by rw [sz];omega))
 ·walk_at "s"
  refine pA (fun h2=>?_) (fun h2=>?_)
  ·have h2:=V.int.inj h2
   walk_at "s"
   refine cz (by omega) ?_
   walk_at "s"
   refine pA (fun h3=>?_) (fun h3=>?_)
   ·walk_at "s"
    refine iK (by omega) ?_
    walk_at "s"
    rw [show (a:Int)+1=((a+1:Nat):Int) by omega]
    refine iK (by omega) ?_
    walk_at "s"
    have l4:=qL (Txt.slice r none (some (a:Int))) (Txt.slice r (some ((a+1:Nat):Int)) none)
    refine iH (by omega) (q _ H1 S1 ⟨by omega,mem2 p1 p3⟩ (by rw [sz];omega))
   ·walk_at "s"
    rw [Zc (show ¬ V.int (n % 5)=V.int 3 from fun z=>by have:=V.int.inj z;omega)]
    walk_at "s"
    rw [Zc (show ¬ V.int (n % 5)=V.int 4 from fun z=>by have:=V.int.inj z;omega)]
    walk_at "s"
    exact last
  ·walk_at "s"
   refine pA (fun h3=>?_) (fun h3=>?_)
   ·have h3:=V.int.inj h3
    walk_at "s"
    refine cz (by omega) ?_
    walk_at "s"
    refine pA (fun h4=>?_) (fun h4=>?_)
    ·walk_at "s"
     refine iK (by omega) ?_
     walk_at "s"
     refine iH (by omega) ?_
     walk_at "s"
     refine iK (by omega) ?_
     walk_at "s"
     have l3:=qL (Txt.slice r none (some (a:Int))) ⟨#[c]⟩
     have l4:=qL (Txt.slice r none (some (a:Int)) ++ ⟨#[c]⟩) (Txt.slice r (some (a:Int)) none)
     refine iH (by omega) (q _ H1 S1 ⟨by omega,mem2 (mem2 p1 p4) p2⟩ (by rw [sz];omega))
    ·walk_at "s"
     rw [Zc (show ¬ V.int (n % 5)=V.int 4 from fun z=>by have:=V.int.inj z;omega)]
     walk_at "s"
     exact last
   ·walk_at "s"
    refine pA (fun h4=>?_) (fun h4=>?_)
    ·walk_at "s"
     have lv:(Wm r).length=r.length:=Hh r
     have hv:=RX hp
     refine ⟨r,-1,rfl,rfl,by decide,by decide,by show (Wm r).length<=_;omega,?_⟩
     exact q (Wm r) H1 S1 hv (by rw [sz];omega)
    ·walk_at "s"
     exact last
end
local macro_rules | `(tactic| walk_at "s") => `(tactic| (with_reducible repeat (first | refine lC ?_ | walk_at "8")))
local macro_rules | `(tactic| walk_at "n") => `(tactic| (with_reducible repeat (walk_at "8")))
section
variable {P:Program} {w:World} {K:W.Frag} {mg:Str->Option Value} {base:Heap}
theorem Fq {row:Str} {M:Str} {k:Nat} (h:LeastR row M k):k < row.cps.size:=by
 rw [h.2.2,← jQ row]
 exact Aac.mpr h.1
theorem Dl {row:Str} {n:Nat} (hn:row.cps.size=n+1) {c:Nat} (hc:row.cps.toList[n]?=some c):fQ row n=(⟨#[c]⟩:Str) ++ Txt.slice row none (some (-1)):=Fp (by
 have e2:row.cps.toList.length=n+1:=by rw [Zi];exact hn
 have hs:(Txt.slice row none (some (-1))).cps.toList=row.cps.toList.take n:=by
  rw [uv]
  have e3:row.length=n+1:=hn
  rw [e3]
  have s1:HT.sIx (n+1) 0 none=0:=rfl
  have s2:HT.sIx (n+1) (n+1) (some (-1))=n:=by
   unfold HT.sIx
   simp
   omega
  rw [s1,s2,List.drop_zero,Abf]
 rw [vU,cps_append,hs]
 congr 1
 show row.cps.toList.drop n=[c]
 rw [List.drop_eq_getElem?_toList_append,hc,List.drop_of_length_le (by omega)]
 rfl)
def Wn (mg:Str->Option Value):Sp:=fun vs H Q _=>∃ (x:Addr) (side row:Str),vs=[.ref x,.str side,.str row]/\Rg mg H x side row/\∀ H',Same H H'->Q (.bl true) H'
theorem mJ:aC ["_law_ring","_law_side","_law_row_here","_law_least","_law_due","_law_found"] ["_law_ring","_law_side","_law_row_here"] (az rO):=⟨rfl,rfl,rfl,by trivial,rfl,by trivial,by trivial⟩
theorem lV (T:Txt K mg):Has P w K mg base 8 "_law_told" ["_law_ring","_law_side","_law_row_here"] (Wn mg):=by
 have bC:=bC (P:=P) (w:=w) (base:=base) T
 have bK:=bK (P:=P) (w:=w) (base:=base) T
 have oV:=oV (P:=P) (w:=w) (base:=base) T
 have bj:=bj (P:=P) (w:=w) (base:=base) T
 have oX:=oX (P:=P) (w:=w) (base:=base) T
 have aX:=aX (P:=P) (w:=w) (base:=base) T
 refine fj T.d_law_told mJ (fun _ _ _ _ _ _ us hl=>L2.uf (fun _ _ _=>rfl) us hl) ?_ fun f cdv A outer s H vs Q E hr h=>?_
 ·rintro vs H Q E ⟨x,side,row,rfl,_⟩;rfl
 obtain ⟨x,side,row,rfl,hR,q⟩:=h
 have hu:=hr.units0
 have hu64:=hr.units
 refine ⟨_,(aA (bJ (mz (oZ (bA (Ab (K:=K) rfl hu64) (bD (mg:=mg) rfl (ao 0) T.os_Piece bC (hr.mono (by decide)) (jg fun _ _=>rfl)) (ao 1) (by walk_at "p")) (oZ (bA (Ab (K:=K) rfl hu64) (bD (mg:=mg) rfl (ao 0) T.os_Piece bK (hr.mono (by decide)) (jg fun _ _=>rfl)) (aU aN (ao 2) (ao 2)) (by walk_at "p")) (mQ (bA (Ab (K:=K) rfl hu64) (bD (mg:=mg) rfl (ao 0) T.os_Piece oV (hr.mono (by decide)) (jg fun _ _=>rfl)) gq (by walk_at "p")))))) (aB (aL jM)) bf) (aA (aM (i:=3) mJ.nd rfl gH (aH (yR rfl (Nk hu64)) aP T.b_min Lh (aa (aJ bj (hr.mono (by decide)) aP (aa (ao 2) aq) (by trivial)) aq) (by trivial) (by trivial)) rfl) (aA (aM (i:=4) mJ.nd rfl gH (sU (aa (ao 3) (aa (QT (K:=K) rfl AaV PySem.F.slot_list_index PySem.F.type_list_index Jo (aJ bj (hr.mono (by decide)) aP (aa (ao 2) aq) (by trivial)) (aa (ao 3) aq)) aq))) rfl) (aA (aM (i:=5) mJ.nd rfl gH (wJ (ao 0) T.o_Ring oX (hr.mono (by decide)) (jg fun _ _=>rfl)) rfl) (aA (bJ (mz (oZ (dY (dU (aH (gU (K:=K) rfl) aP T.b_isinstance aV (aa (ao 5) (aa (uq aP T.b_tuple BJ (by trivial) (by trivial)) aq)) (by trivial) (by trivial)))) (oZ (bA (Ab (K:=K) rfl hu64) (ao 5) (ao 4) (by walk_at "p")) (mQ (dU (aH (gU (K:=K) rfl) aP T.b_isinstance aV (aa (pL (K:=K) rfl (ao 5) aD) (aa (uq aP T.b_bool zJ (by trivial) (by trivial)) aq)) (by trivial) (by trivial))))))) (aB (aL jM)) bf) (aB (aL (lD (j4 (pP (K:=K) rfl hu64) (nZ (ao 0) T.o_Ring aX (hr.mono (by decide)) (jg fun _ _=>rfl) (aa aD aq)) (ao 2) (by walk_at "p")) (o4 (j4 (pP (K:=K) rfl hu64) (nZ (ao 0) T.o_Ring aX (hr.mono (by decide)) (jg fun _ _=>rfl) (aa (aU mL (aH (aK (K:=K) rfl) aP T.b_len bc (aa (ao 2) aq) (by trivial) (by trivial)) aD) aq)) (aU aN (pL (K:=K) rfl (ao 2) (Lp vY aD)) (cu (eU (K:=K) rfl) (ao 2) cj (bL (Lp vY aD)))) (by walk_at "p"))))))))))),?_⟩
 walk_at "s"
 obtain ⟨hs,hr',h0,dx,al,ap,h,ak,hx⟩:=id hR
 have hz:20000<=sizeLine:=by decide
 have l2:row.length<=24:=hr'.1
 have e2:row.length=row.cps.size:=rfl
 refine ⟨x,"Ring",dx,_,rfl,by simp,hx,Dp (by trivial),?_⟩
 walk_at "s"
 refine ⟨x,"Ring",side,row ++ row,_,rfl,hR.p8,?_⟩
 walk_at "s"
 rw [show (!decide (V.str side=V.str side))=false by simp]
 walk_at "s"
 refine ⟨x,"Ring",dx,_,rfl,by simp,hx,Dp (by trivial),?_⟩
 walk_at "s"
 refine ⟨x,"Ring",side,row ++ row,_,rfl,hR.p8,?_⟩
 walk_at "s"
 refine iH (by omega) ?_
 walk_at "s"
 rw [show (!decide (V.str (row ++ row)=V.str (row ++ row)))=false by simp]
 walk_at "s"
 refine ⟨x,"Ring",dx,_,rfl,by simp,hx,Dp (by trivial),?_⟩
 walk_at "s"
 refine ⟨x,"Ring",side,row ++ row,_,rfl,hR.p8,?_⟩
 walk_at "s"
 rw [show (!decide (V.str (Str.ofString "ring")=V.str (Str.ofString "ring")))=false by simp]
 walk_at "s"
 refine ⟨row,rfl,l2,fun d H1 nd S1 hd=>?_⟩
 walk_at "s"
 have hne:jZ row≠[]:=fun z=>h0 (by rw [← jQ row,z];rfl)
 refine Q4 hd hne fun M hM hMM=>?_
 walk_at "s"
 refine ⟨row,rfl,l2,fun d2 H2 nd2 S2 hd2=>?_⟩
 walk_at "s"
 refine ⟨.inl ⟨rfl,_,SqL.of hd2⟩,?_⟩
 walk_at "s"
 refine Jp hd2 (by rw [jQ];omega) hM ?_
 walk_at "s"
 refine cA rfl fun due H3 ndu S3 hdu=>?_
 walk_at "s"
 have U3:=S1.trans (S2.trans S3)
 have hR3:=hR.same U3
 refine ⟨x,dx,_,rfl,U3 _ _ hx,Dp (by trivial),?_⟩
 walk_at "s"
 refine ⟨x,side,row,rfl,hR3,fun f M2 k H4 S4 hL hf=>?_⟩
 walk_at "s"
 obtain ⟨rfl,hk⟩:=hL.uni hM hMM rfl
 have hkr:=Fq hL
 rw [hk] at hdu
 replace hdu:=S4 _ _ hdu
 refine m6 (.tup hf) (b:=true) (by rfl) ?_
 walk_at "s"
 refine .inr ⟨f,due,_,rfl,rfl,SqT.of hf,SqT.of hdu,fun v hv=>.inl (by simp only [Y7,Zq,or_false] at hv;rcases hv with rfl | rfl <;> rfl),?_⟩
 walk_at "s"
 refine m6 (.int _) (b:=false) (by rfl) ?_
 walk_at "s"
 have U4:=U3.trans S4
 have hR4:=hR.same U4
 refine ⟨x,dx,_,rfl,U4 _ _ hx,Dp (by trivial),?_⟩
 walk_at "s"
 refine ⟨x,side,row,.int 0,rfl,hR4,.inl ⟨_,rfl⟩,fun hv=>?_,fun p e hp=>?_⟩
 ·unfold inB at hv
  simp at hv
  omega
 have e:=V.int.inj e
 obtain rfl:p=0:=by omega
 rw [Ox]
 walk_at "s"
 rw [Y9 rfl]
 walk_at "s"
 refine ⟨x,dx,_,rfl,U4 _ _ hx,Dp (by trivial),?_⟩
 walk_at "s"
 refine cz (by omega) ?_
 walk_at "s"
 refine ⟨x,side,row,_,rfl,hR4,.inl ⟨_,rfl⟩,fun hv=>?_,fun p e hp=>?_⟩
 ·unfold inB at hv
  simp at hv
  omega
 have e:=V.int.inj e
 obtain ⟨c,hc⟩:∃ c,row.cps.toList[p]?=some c:=⟨_,YT (by rw [Zi];exact hp)⟩
 walk_at "s"
 refine Sd (by omega) (VH (n:=p) (by rw [Zi];omega) hc) ?_
 walk_at "s"
 refine iK (by omega) ?_
 walk_at "s"
 have lr:=vV hp
 rw [Dl (by omega) hc] at lr
 have lc:=qL (⟨#[c]⟩:Str) (Txt.slice row none (some (-1)))
 refine iH (by omega) ?_
 walk_at "s"
 rw [← Dl (by omega) hc,Y9 rfl]
 exact q _ U4
def YB (mg:Str->Option Value):Sp:=fun vs H Q _=>∃ (x y:Addr) (s1 row s2 text:Str),vs=[.ref x,.ref y,.str row,.str text]/\Rg mg H x s1 row/\Rg mg H y s2 text/\∀ H',Same H H'->Q (.bl true) H'
theorem ue:aC ["_law_ring","_law_other_here","_law_row_here","_law_text","_law_found"] ["_law_ring","_law_other_here","_law_row_here","_law_text"] (az qg):=⟨rfl,rfl,rfl,by trivial,rfl,by trivial,by trivial⟩
theorem mK (T:Txt K mg):Has P w K mg base 8 "_law_alike" ["_law_ring","_law_other_here","_law_row_here","_law_text"] (YB mg):=by
 have bY:=bY (P:=P) (w:=w) (base:=base) T
 have bj:=bj (P:=P) (w:=w) (base:=base) T
 refine fj T.d_law_alike ue (fun _ _ _ _ _ _ us hl=>L2.usN4 (fun _ _ _ _=>rfl) us hl) ?_ fun f cdv A outer s H vs Q E hr h=>?_
 ·rintro vs H Q E ⟨x,y,s1,row,s2,text,rfl,_⟩;rfl
 obtain ⟨x,y,s1,row,s2,text,rfl,hX,hY,q⟩:=h
 have hu:=hr.units0
 have hu64:=hr.units
 refine ⟨_,(aA (aM (i:=4) ue.nd rfl gH (nZ (ao 0) T.o_Ring bY (hr.mono (by decide)) (jg fun _ _=>rfl) (aa (ao 1) aq)) rfl) (aB (aL (lD (aH (gU (K:=K) rfl) aP T.b_isinstance aV (aa (ao 4) (aa (uq aP T.b_bool zJ (by trivial) (by trivial)) aq)) (by trivial) (by trivial)) (o4 (j4 (pP (K:=K) rfl hu64) (ao 4) (j4 (wA (K:=K) rfl) (ao 3) (aJ bj (hr.mono (by decide)) aP (aa (ao 2) aq) (by trivial)) (by walk_at "p")) (by walk_at "p"))))))),?_⟩
 walk_at "s"
 obtain ⟨hs,hr',h0,dx,al,ap,h,ak,hx⟩:=id hX
 have hz:20000<=sizeLine:=by decide
 have l2:row.length<=24:=hr'.1
 refine ⟨x,dx,_,rfl,hx,Dp (by trivial),?_⟩
 walk_at "s"
 refine ⟨x,s1,row,_,rfl,hX,.inl ⟨y,s2,text,rfl,hY,fun H1 S1=>?_⟩⟩
 walk_at "s"
 refine m6 (.bl _) (b:=true) (by rfl) ?_
 walk_at "s"
 refine ⟨row,rfl,l2,fun d H2 nd S2 hd=>?_⟩
 walk_at "s"
 refine OJ hd ?_
 walk_at "s"
 rw [Y9 rfl]
 exact q _ (S1.trans S2)
end
local macro_rules | `(tactic| walk_at "s") => `(tactic| (with_reducible repeat (first | refine lC ?_ | walk_at "9")))
local macro_rules | `(tactic| walk_at "n") => `(tactic| (with_reducible repeat (walk_at "9")))
section
variable {P:Program} {w:World} {K:W.Frag} {mg:Str->Option Value} {base:Heap}
theorem kz00:O4 jl "e":=by trivial
theorem kz01:O4 jm "e":=by trivial
theorem kz02:O4 jn "e":=by trivial
theorem kz03:O4 mD "e":=by trivial
theorem qU:bootBuiltins "ValueError"=some (.type "ValueError"):=by trivial
def Slf (K:W.Frag) (H:Hp) (v:V):Prop:=∀ H' (Q:VK),Same H H'->Q (.bl true) H'->Nr K v v H' Q
theorem Slf.same {H H':Hp} {v:V} (h:Slf K H v) (s:Same H H'):Slf K H' v:=fun H2 Q s2 q=>h H2 Q (s.trans s2) q
def R1 (mg:Str->Option Value):Sp:=fun vs H Q _=>∃ (x:Addr) (side row:Str) (a:Int),vs=[.ref x,.int a,.str row]/\Rg mg H x side row/\∀ H',Same H H'->Q (.bl true) H'
theorem ju:aC ["_law_ring","_law_place_here","_law_row_here","_law_due","_law_found","e"] ["_law_ring","_law_place_here","_law_row_here"] (az mD):=⟨rfl,rfl,rfl,by trivial,rfl,by trivial,by trivial⟩
theorem qz (T:Txt K mg):Has P w K mg base 6 "_law_place" ["_law_ring","_law_place_here","_law_row_here"] (R1 mg):=by
 have bj:=bj (P:=P) (w:=w) (base:=base) T
 have aX:=aX (P:=P) (w:=w) (base:=base) T
 refine fj T.d_law_place ju (fun _ _ _ _ _ _ us hl=>L2.uf (fun _ _ _=>rfl) us hl) ?_ fun f cdv A outer s H vs Q E hr h=>?_
 ·rintro vs H Q E ⟨x,side,row,a,rfl,_⟩;rfl
 obtain ⟨x,side,row,a,rfl,hR,q⟩:=h
 have hu:=hr.units0
 have hu64:=hr.units
 refine ⟨_,(aA (aM (i:=3) ju.nd rfl gH BL rfl) (aA (bJ (LR Kq Be aD (ao 1) (aH (aK (K:=K) rfl) aP T.b_len bc (aa (ao 2) aq) (by trivial) (by trivial))) (aB (aM (i:=3) ju.nd rfl gH (pL (K:=K) rfl (aJ bj (hr.mono (by decide)) aP (aa (ao 2) aq) (by trivial)) (ao 1)) rfl)) bf) (aA (zY rfl rfl (fun pins R=>(aB (aM (i:=4) ju.nd rfl gH (tQ (mg:=mg) rfl (ao 0) T.o_Ring aX (hr.mono (by decide)) sZ (aa (ao 1) aq)) rfl))) (Gk (K:=K) (i:=5) rfl T.x_NoPlace.c aP (by trivial) ju.nd rfl kz03 (fun x=>(aB (aL (lD (j4 VG (ao 3) BL (by walk_at "p")) (lD (j4 (pP (K:=K) rfl hu64) (zV (K:=K) rfl (ao 5)) (ao 1) (by walk_at "p")) (o4 (Gd (aH (gY (K:=K) rfl) aP T.b_isinstance aV (aa (ao 5) (aa (sU (aa (tE aP T.x_NoPiece.c.at_ (by trivial)) (aa (tE aP T.x_NoPlain.c.at_ (by trivial)) aq))) aq)) (by trivial) (by trivial))))))))) (Gm (K:=K) rfl T.x_PaneError aP (by trivial) (fun x=>(aB (aL jM))) zX))) (aB (aL (lD (aH (gU (K:=K) rfl) aP T.b_isinstance aV (aa (ao 4) (aa (uq aP T.b_str zG (by trivial) (by trivial)) aq)) (by trivial) (by trivial)) (o4 (j4 (pP (K:=K) rfl hu64) (ao 4) (ao 3) (by walk_at "p"))))))))),?_⟩
 walk_at "n"
 obtain ⟨hs,hr',h0,dx,al,ap,h,ak,hx⟩:=id hR
 have hz:20000<=sizeLine:=by decide
 have l2:row.length<=24:=hr'.1
 have e2:row.length=row.cps.size:=rfl
 with_reducible refine lC ?_
 walk_at "n"
 with_reducible refine Sy (fun U H1=>Same H H1/\∃ due,(inB (.int a) 0 ((row.cps.size:Int) - 1)=false->due= .non)/\(∀ p:Nat,a=p->p < row.cps.size->due= .str (fQ row p))/\U=[some (.ref x),some (.int a),some (.str row),some due,none,none]) ?_ ?_
 rotate_left
 ·intro N hN
  walk_at "n"
  refine pA (fun h1=>?_) (fun h1=>?_)
  ·walk_at "n"
   refine cz (by omega) ?_
   walk_at "n"
   refine pA (fun h2=>?_) (fun h2=>?_)
   ·walk_at "n"
    refine ⟨row,rfl,l2,fun d H1 nd S1 hd=>?_⟩
    walk_at "n"
    obtain ⟨i,rfl⟩:∃ i:Nat,a=i:=⟨a.toNat,by omega⟩
    have hi:i < row.cps.size:=by omega
    refine bZ (SqL.of hd) (rW (by rw [Zd,mH hi];rfl)) ?_
    walk_at "n"
    exact hN _ _ ⟨S1,_,fun hv=>by unfold inB at hv;simp at hv;omega,fun p e _=>by rw [show p=i by omega],rfl⟩
   ·walk_at "n"
    exact hN _ _ ⟨Same.refl _,_,fun _=>rfl,fun p e hp=>absurd (show (a:Int) < (row.length:Int) by omega) h2,rfl⟩
  ·walk_at "n"
   exact hN _ _ ⟨Same.refl _,_,fun _=>rfl,fun p e hp=>absurd (show (0:Int)<=a by omega) h1,rfl⟩
 ·rintro U H1 ⟨S1,due,d1,d2,rfl⟩
  have hR1:=hR.same S1
  walk_at "s"
  refine ⟨x,dx,_,rfl,S1 _ _ hx,Dp (by trivial),?_⟩
  walk_at "s"
  refine ⟨x,side,row,.int a,rfl,hR1,.inl ⟨_,rfl⟩,?_,?_⟩
  ·intro hv e H2 S2 X2
   obtain rfl:=d1 hv
   refine ⟨_,e,rfl,rfl,?_⟩
   refine Gn T.x_NoPlace.c.cl.cls T.u_NoPlace_NoPlace.mro ?_
   walk_at "s"
   rw [Y9 rfl]
   walk_at "s"
   refine ⟨e,_,_,_,rfl,X2,T.x_NoPlace.c.cl.cls,T.x_NoPlace.na _ (by simp),rfl,?_⟩
   walk_at "s"
   rw [Y9 rfl]
   walk_at "s"
   refine cA rfl fun cp H3 ncp S3 hcp=>?_
   walk_at "s"
   have X3:=X2.same S3
   refine zZ X3 T.x_NoPlace.c.cl hcp rfl (b:=false) (by simp only [PySem.W.kitAny,T.u_NoPlace_NoPiece.one,T.u_NoPlace_NoPlain.one]) ?_
   walk_at "s"
   exact q _ (S1.trans (S2.trans S3))
  ·intro p e hp
   have e:=V.int.inj e
   obtain rfl:=d2 p e hp
   walk_at "s"
   refine m6 (.str _) rfl ?_
   walk_at "s"
   rw [Y9 rfl]
   exact q _ S1
def Wo (K:W.Frag) (mg:Str->Option Value):Sp:=fun vs H Q _=>∃ (x:Addr) (side row:Str) (v:V),vs=[.ref x,v]/\Rg mg H x side row/\Kd K H v/\inB v 0 ((row.cps.size:Int) - 1)=false/\Slf K H v/\∀ H',Same H H'->Q (.bl true) H'
theorem o9:aC ["_law_ring","_law_place_here","e"] ["_law_ring","_law_place_here"] (az jl):=⟨rfl,rfl,rfl,by trivial,rfl,by trivial,by trivial⟩
theorem lW (T:Txt K mg):Has P w K mg base 6 "_law_no_place" ["_law_ring","_law_place_here"] (Wo K mg):=by
 have aX:=aX (P:=P) (w:=w) (base:=base) T
 refine fj T.d_law_no_place o9 (fun _ _ _ _ _ _ us hl=>L2.nP (fun _ _=>rfl) us hl) ?_ fun f cdv A outer s H vs Q E hr h=>?_
 ·rintro vs H Q E ⟨x,side,row,v,rfl,_⟩;rfl
 obtain ⟨x,side,row,v,rfl,hR,kv,hv,hS,q⟩:=h
 have hu:=hr.units0
 have hu64:=hr.units
 refine ⟨_,(aA (zY rfl rfl (fun pins R=>(aB (aY (tQ (mg:=mg) rfl (ao 0) T.o_Ring aX (hr.mono (by decide)) sZ (aa (ao 1) aq))))) (Gk (K:=K) (i:=2) rfl T.x_NoPlace.c aP (by trivial) o9.nd rfl kz00 (fun x=>(aB (aL (lD (j4 (pP (K:=K) rfl hu64) (zV (K:=K) rfl (ao 2)) (ao 1) (by walk_at "p")) (o4 (aH (gY (K:=K) rfl) aP T.b_isinstance aV (aa (ao 2) (aa (uq aP T.b_ValueError qU (by trivial) (by trivial)) aq)) (by trivial) (by trivial))))))) (Gm (K:=K) rfl T.x_PaneError aP (by trivial) (fun x=>(aB (aL jM))) zX))) (aB (aL jM))),?_⟩
 walk_at "s"
 obtain ⟨hs,hr',h0,dx,al,ap,h,ak,hx⟩:=id hR
 refine ⟨x,dx,_,rfl,hx,Dp (by trivial),?_⟩
 walk_at "s"
 refine ⟨x,side,row,v,rfl,hR,kv,?_,?_⟩
 ·intro hv e H2 S2 X2
  refine ⟨_,e,rfl,rfl,?_⟩
  refine Gn T.x_NoPlace.c.cl.cls T.u_NoPlace_NoPlace.mro ?_
  walk_at "s"
  refine ⟨e,_,_,_,rfl,X2,T.x_NoPlace.c.cl.cls,T.x_NoPlace.na _ (by simp),rfl,?_⟩
  walk_at "s"
  refine hS _ _ S2 ?_
  walk_at "s"
  refine El X2 T.x_NoPlace.c.cl rfl T.v_NoPlace ?_
  walk_at "s"
  exact q _ S2
 ·intro p e hp
  subst e
  unfold inB at hv
  simp at hv
  omega
def Wq (K:W.Frag) (mg:Str->Option Value):Sp:=fun vs H Q _=>∃ (x:Addr) (side row:Str) (v:V),vs=[.ref x,v]/\Rg mg H x side row/\NoR K mg H v/\Slf K H v/\∀ H',Same H H'->Q (.bl true) H'
theorem ph:aC ["_law_ring","_law_other_here","e"] ["_law_ring","_law_other_here"] (az jm):=⟨rfl,rfl,rfl,by trivial,rfl,by trivial,by trivial⟩
theorem lX (T:Txt K mg):Has P w K mg base 8 "_law_no_piece" ["_law_ring","_law_other_here"] (Wq K mg):=by
 have bY:=bY (P:=P) (w:=w) (base:=base) T
 refine fj T.d_law_no_piece ph (fun _ _ _ _ _ _ us hl=>L2.nP (fun _ _=>rfl) us hl) ?_ fun f cdv A outer s H vs Q E hr h=>?_
 ·rintro vs H Q E ⟨x,side,row,v,rfl,_⟩;rfl
 obtain ⟨x,side,row,v,rfl,hR,hv,hS,q⟩:=h
 have hu:=hr.units0
 have hu64:=hr.units
 refine ⟨_,(aA (zY rfl rfl (fun pins R=>(aB (aY (tQ (mg:=mg) rfl (ao 0) T.o_Ring bY (hr.mono (by decide)) sZ (aa (ao 1) aq))))) (Gk (K:=K) (i:=2) rfl T.x_NoPiece.c aP (by trivial) ph.nd rfl kz01 (fun x=>(aB (aL (lD (j4 (pP (K:=K) rfl hu64) (zV (K:=K) rfl (ao 2)) (ao 1) (by walk_at "p")) (lD (aH (gY (K:=K) rfl) aP T.b_isinstance aV (aa (ao 2) (aa (tE aP T.x_PaneError.at_ (by trivial)) aq)) (by trivial) (by trivial)) (o4 (Gd (aH (gY (K:=K) rfl) aP T.b_isinstance aV (aa (ao 2) (aa (sU (aa (tE aP T.x_NoPlace.c.at_ (by trivial)) (aa (tE aP T.x_NoPlain.c.at_ (by trivial)) aq))) aq)) (by trivial) (by trivial))))))))) (Gm (K:=K) rfl T.x_PaneError aP (by trivial) (fun x=>(aB (aL jM))) zX))) (aB (aL jM))),?_⟩
 walk_at "s"
 obtain ⟨hs,hr',h0,dx,al,ap,h,ak,hx⟩:=id hR
 refine ⟨x,dx,_,rfl,hx,Dp (by trivial),?_⟩
 walk_at "s"
 refine ⟨x,side,row,v,rfl,hR,.inr ⟨hv,?_⟩⟩
 intro e H2 S2 X2
 refine ⟨_,e,rfl,rfl,?_⟩
 refine Gn T.x_NoPiece.c.cl.cls T.u_NoPiece_NoPiece.mro ?_
 walk_at "s"
 refine ⟨e,_,_,_,rfl,X2,T.x_NoPiece.c.cl.cls,T.x_NoPiece.na _ (by simp),rfl,?_⟩
 walk_at "s"
 refine hS _ _ S2 ?_
 walk_at "s"
 refine El X2 T.x_NoPiece.c.cl rfl T.u_NoPiece_PaneError.one ?_
 walk_at "s"
 refine cA rfl fun cp H3 ncp S3 hcp=>?_
 walk_at "s"
 have X3:=X2.same S3
 refine zZ X3 T.x_NoPiece.c.cl hcp rfl (b:=false) (by simp only [PySem.W.kitAny,T.u_NoPiece_NoPlace.one,T.u_NoPiece_NoPlain.one]) ?_
 walk_at "s"
 exact q _ (S2.trans S3)
def Wr (K:W.Frag) (mg:Str->Option Value):Sp:=fun vs H Q _=>∃ (v u t:V),vs=[v,u,t]/\Th K H v/\Th K H u/\Slf K H t/\((xH v=false/\t=v)\/(xH v=true/\(xH u=false\/u= .str (Str.ofString ""))/\t=u))/\∀ H',Same H H'->Q (.bl true) H'
theorem pq:aC ["_law_side","_law_row_here","_law_wrong","e"] ["_law_side","_law_row_here","_law_wrong"] (az jn):=⟨rfl,rfl,rfl,by trivial,rfl,by trivial,by trivial⟩
theorem fC (T:Txt K mg):Has P w K mg base 21 "_law_no_plain" ["_law_side","_law_row_here","_law_wrong"] (Wr K mg):=by
 have cT:=cT (P:=P) (w:=w) (base:=base) T
 refine fj T.d_law_no_plain pq (fun _ _ _ _ _ _ us hl=>L2.uf (fun _ _ _=>rfl) us hl) ?_ fun f cdv A outer s H vs Q E hr h=>?_
 ·rintro vs H Q E ⟨v,u,t,rfl,_⟩;rfl
 obtain ⟨v,u,t,rfl,tv,tu,hS,hc,q⟩:=h
 have hu:=hr.units0
 have hu64:=hr.units
 refine ⟨_,(aA (zY rfl rfl (fun pins R=>(aB (aY (BZ (mg:=mg) rfl T.o_Ring cT (hr.mono (by decide)) aP sZ (aa (ao 0) (aa (ao 1) aq)) (by trivial))))) (Gk (K:=K) (i:=3) rfl T.x_NoPlain.c aP (by trivial) pq.nd rfl kz02 (fun x=>(aB (aL (lD (j4 (pP (K:=K) rfl hu64) (zV (K:=K) rfl (ao 3)) (ao 2) (by walk_at "p")) (lD (aH (gY (K:=K) rfl) aP T.b_isinstance aV (aa (ao 3) (aa (uq aP T.b_ValueError qU (by trivial) (by trivial)) aq)) (by trivial) (by trivial)) (o4 (Gd (aH (gY (K:=K) rfl) aP T.b_isinstance aV (aa (ao 3) (aa (sU (aa (tE aP T.x_NoPlace.c.at_ (by trivial)) (aa (tE aP T.x_NoPiece.c.at_ (by trivial)) aq))) aq)) (by trivial) (by trivial))))))))) (Gm (K:=K) rfl T.x_PaneError aP (by trivial) (fun x=>(aB (aL jM))) zX))) (aB (aL jM))),?_⟩
 walk_at "s"
 intro y dy ny ndy ne
 have S0:Same H (upd (upd H dy (.own y)) y (.ins (aF mg "Ring") dy [])):=fun b o e=>(JN ny ndy e).1
 have mk:∀ (Q':VK) (E':XK),Wg mg "NoPlain" (upd (upd H dy (.own y)) y (.ins (aF mg "Ring") dy [])) E' t->Ow K mg [.ref y,v,u] (upd (upd H dy (.own y)) y (.ins (aF mg "Ring") dy [])) Q' E':=fun Q' E' fin=>by
  refine ⟨y,dy,v,u,rfl,aj,tv.same S0,tu.same S0,fun hv=>?_,fun hv hu'=>?_,fun hv hu' hn=>?_⟩
  ·rcases hc with ⟨_,rfl⟩ | ⟨h,_⟩
   ·exact fin
   ·rw [hv] at h;cases h
  ·rcases hc with ⟨h,_⟩ | ⟨_,_,rfl⟩
   ·rw [hv] at h;cases h
   ·exact fin
  ·exfalso
   rcases hc with ⟨h,_⟩ | ⟨_,h | h,_⟩
   ·rw [hv] at h;cases h
   ·rw [hu'] at h;cases h
   ·exact hn h
 refine mk _ _ ?_
 ·intro e H1 S1 X2
  have S2:=S0.trans S1
  refine ⟨_,e,rfl,rfl,?_⟩
  refine Gn T.x_NoPlain.c.cl.cls T.u_NoPlain_NoPlain.mro ?_
  walk_at "s"
  refine ⟨e,_,_,_,rfl,X2,T.x_NoPlain.c.cl.cls,T.x_NoPlain.na _ (by simp),rfl,?_⟩
  walk_at "s"
  refine hS _ _ S2 ?_
  walk_at "s"
  refine El X2 T.x_NoPlain.c.cl rfl T.v_NoPlain ?_
  walk_at "s"
  refine cA rfl fun cp H3 ncp S3 hcp=>?_
  walk_at "s"
  have X3:=X2.same S3
  refine zZ X3 T.x_NoPlain.c.cl hcp rfl (b:=false) (by simp only [PySem.W.kitAny,T.u_NoPlain_NoPlace.one,T.u_NoPlain_NoPiece.one]) ?_
  walk_at "s"
  exact q _ (S2.trans S3)
theorem Hj {xs:List V} {lo hi:Option Int} {v:V} (h:v∈mO xs lo hi):v∈xs:=by
 unfold mO at h
 exact List.mem_of_mem_drop (AaN h)
theorem Slf.dat {H:Hp} {d:PyData} {v:V} (hd:DR H d v) (sd:PySem.SeqAt.shaped d=true):Slf K H v:=fun H' Q s q=>.inl (.inl (.inl (Lz (DR.same s _ _ hd) (DR.same s _ _ hd) sd q)))
theorem Slf.str {H:Hp} (z:Str):Slf K H (.str z):=fun H' Q s q=>wV (by rw [Y9 rfl];exact q)
theorem Slf.int {H:Hp} (n:Int):Slf K H (.int n):=fun H' Q s q=>wU (by rw [Y9 rfl];exact q)
theorem Slf.bl {H:Hp} (n:Bool):Slf K H (.bl n):=fun H' Q s q=>wW (by rw [Y9 rfl];exact q)
theorem Slf.non {H:Hp}:Slf K H .non:=Slf.dat (d:=.none) (by rw [DR]) rfl
theorem Tq {H:Hp} {d:PyData} {v:V} (h:DR H d v):DRs H [d] [v]:=Ly.mpr ⟨v,[],rfl,h,Qs.mpr rfl⟩
theorem Slf.lst {H:Hp} {a:Addr} {d:PyData} {v:V} (h:H a=some (.lst [v])) (hd:DR H d v) (sd:PySem.SeqAt.shaped (.list [d])=true):Slf K H (.ref a):=Slf.dat (d:=.list [d]) (Qq.mpr ⟨a,_,rfl,h,Tq hd⟩) sd
theorem Slf.tup {H:Hp} {a:Addr} {d:PyData} {v:V} (h:H a=some (.tup [v])) (hd:DR H d v) (sd:PySem.SeqAt.shaped (.tuple [d])=true):Slf K H (.ref a):=Slf.dat (d:=.tuple [d]) (Lx.mpr ⟨a,_,rfl,h,Tq hd⟩) sd
structure W1 (K:W.Frag) (H:Hp) (m:Nat) (v:V):Prop where
 k:Kd K H v
 no:inB v 0 ((m:Int) - 1)=false
 s:Slf K H v
theorem W1.same {H H':Hp} {m:Nat} {v:V} (h:W1 K H m v) (s:Same H H'):W1 K H' m v:=⟨h.k.same s,h.no,h.s.same s⟩
structure W2 (K:W.Frag) (mg:Str->Option Value) (H:Hp) (v:V):Prop where
 n:NoR K mg H v
 s:Slf K H v
theorem W2.same {H H':Hp} {v:V} (h:W2 K mg H v) (s:Same H H'):W2 K mg H' v:=⟨h.n.same s,h.s.same s⟩
theorem W2.pc (T:Txt K mg) {H:Hp} {x:Addr} {side top:Str} {h:Nat} (g:GP1 mg H x side top h):W2 K mg H (.ref x):=by
 obtain ⟨y,k,ps,hs,p,tk,_⟩:=g
 obtain ⟨hy,dx,al,ap,hx,_,_⟩:=id p.pc
 have key:PySem.W.kitOne K (.ref (aF mg y)) (.ref (aF mg "Ring"))=some false/\Gz K (aF mg y):=by
  rcases tk with ⟨rfl,_⟩ | ⟨rfl,_⟩ | ⟨rfl,_⟩ | ⟨rfl,_⟩
  ·exact ⟨T.u_Blank_Ring.one,T.q_Blank⟩
  ·exact ⟨T.u_One_Ring.one,T.q_One⟩
  ·exact ⟨T.u_Over_Ring.one,T.q_Over⟩
  ·exact ⟨T.u_Beside_Ring.one,T.q_Beside⟩
 exact ⟨⟨_,(pcT T hy).1.ty (T.os_Piece y hy) hx,key.1⟩,fun H' Q s q=>.inr (.inl ⟨x,_,dx,_,rfl,rfl,s _ _ hx,key.2,q⟩)⟩
structure W3 (K:W.Frag) (H:Hp) (v:V):Prop where
 t:Th K H v
 no:xH v=false
 s:Slf K H v
theorem W3.same {H H':Hp} {v:V} (h:W3 K H v) (s:Same H H'):W3 K H' v:=⟨h.t.same s,h.no,h.s.same s⟩
theorem Hk {H:Hp} {side row:Str} {R:Addr->Hp->Prop} {E:XK} (hs:Pln side) (hr:Pln row) (h0:row.cps.size≠0) (q:∀ x H',Same H H'->Rg mg H' x side row->R x H') (x dx:Addr) (nx:H x=none) (nd:H dx=none) (_:dx≠x):
  Ow K mg [.ref x,.str side,.str row] (upd (upd H dx (.own x)) x (.ins (aF mg "Ring") dx [])) (fun v H2=>v= .non/\R x H2) E:=by
 refine ⟨x,dx,.str side,.str row,rfl,aj,hs.th,hr.th,fun hv=>?_,fun _ hu=>?_,fun _ _ _=>⟨side,row,rfl,rfl,hs,hr,h0,fun H2 C P2=>⟨rfl,q x H2 (xq nx nd C) P2⟩⟩⟩
 ·rw [hs.pl] at hv;cases hv
 ·rcases hu with h | h
  ·rw [hr.pl] at h;cases h
  ·exact absurd (qK.mp (V.str.inj h)) h0
theorem Pln.to {z:Str} (h:Pln z) {k:Nat}:Pln (Txt.slice z none (some (k:Int))):=h.sub (by have:=Ay z k;have:=h.1;omega) fun c hc=>Az hc
def Tr (K:W.Frag):Sp:=fun vs H Q _=>∃ (a:Addr) (ns:List Int),vs=[.ref a]/\SqL K H a (ns.map V.int)/\∀ H',Q (.bl true) H'
theorem lY:aC ["_law_script","_law_side","_law_row_here","_law_ring","_law_cell","_law_text","_law_other_here","_law_wrong"] ["_law_script"] (az Cq):=⟨rfl,rfl,rfl,by trivial,rfl,by trivial,by trivial⟩
theorem Ws (T:Txt K mg) {f0:Addr} {fd0:FuncData} (F0:Fun K "law" "law" Cq f0 fd0):FnOk P w K mg base HS 22 f0 fd0 ["_law_script"] (Tr K):=by
 have lu:=lu (P:=P) (w:=w) (base:=base) T
 have jG:=jG (P:=P) (w:=w) (base:=base) T
 have qx:=qx (P:=P) (w:=w) (base:=base) T
 have cT:=cT (P:=P) (w:=w) (base:=base) T
 have lV:=lV (P:=P) (w:=w) (base:=base) T
 have bY:=bY (P:=P) (w:=w) (base:=base) T
 have qy:=qy (P:=P) (w:=w) (base:=base) T
 have mK:=mK (P:=P) (w:=w) (base:=base) T
 have qz:=qz (P:=P) (w:=w) (base:=base) T
 have lW:=lW (P:=P) (w:=w) (base:=base) T
 have dR:=dR (P:=P) (w:=w) (base:=base) T
 have fB:=fB (P:=P) (w:=w) (base:=base) T
 have iT:=iT (P:=P) (w:=w) (base:=base) T
 have lX:=lX (P:=P) (w:=w) (base:=base) T
 have fC:=fC (P:=P) (w:=w) (base:=base) T
 refine okJ F0 lY ?_ fun f cdv A outer s H vs Q E hr h=>?_
 ·rintro vs H Q E ⟨a,ns,rfl,_⟩;rfl
 obtain ⟨a,ns,rfl,hS,q⟩:=h
 have hu:=hr.units0
 have hu64:=hr.units
 refine ⟨_,(aA (aM (i:=1) lY.nd rfl gH (aJ lu (hr.mono (by decide)) aP (aa (aJ jG (hr.mono (by decide)) aP (aa (ao 0) (aa aD aq)) (by trivial)) (aa aD aq)) (by trivial)) rfl) (aA (aM (i:=2) lY.nd rfl gH (aJ qx (hr.mono (by decide)) aP (aa (aJ jG (hr.mono (by decide)) aP (aa (ao 0) (aa aD aq)) (by trivial)) aq) (by trivial)) rfl) (aA (aM (i:=3) lY.nd rfl gH (jF T.o_Ring cT (hr.mono (by decide)) aP (jg fun _ _=>rfl) (aa (ao 1) (aa (ao 2) aq)) (by trivial)) rfl) (aA (bJ (mz (oZ (dY (dU (aJ lV (hr.mono (by decide)) aP (aa (ao 3) (aa (ao 1) (aa (ao 2) aq))) (by trivial)))) (mQ (bA Ja (nZ (ao 3) T.o_Ring bY (hr.mono (by decide)) (jg fun _ _=>rfl) (aa (ao 3) aq)) jM (by walk_at "p"))))) (aB (aL jM)) bf) (aA (jf ZR rfl (iI (K:=K) rfl (cu (eU (K:=K) rfl) (ao 0) (bL aD) (bL aD))) (eZ (i:=4) lY.nd rfl gH rfl) (aA (aM (i:=5) lY.nd rfl gH (aJ qy (hr.mono (by decide)) aP (aa (ao 2) (aa (ao 4) aq)) (by trivial)) rfl) (aA (aM (i:=6) lY.nd rfl gH (jF T.o_Ring cT (hr.mono (by decide)) aP (jg fun _ _=>rfl) (aa (cu (eU (K:=K) rfl) (ao 5) cj (bL (aU dX (ao 4) aD))) (aa (ao 5) aq)) (by trivial)) rfl) (aA (bJ (mz (oZ (dY (dU (aJ mK (hr.mono (by decide)) aP (aa (ao 3) (aa (ao 6) (aa (ao 2) (aa (ao 5) aq)))) (by trivial)))) (mQ (dY (dU (aJ mK (hr.mono (by decide)) aP (aa (ao 6) (aa (ao 3) (aa (ao 5) (aa (ao 2) aq)))) (by trivial))))))) (aB (aL jM)) bf) (aB (bJ (dY (dU (aJ lV (hr.mono (by decide)) aP (aa (ao 6) (aa (cu (eU (K:=K) rfl) (ao 5) cj (bL (aU dX (ao 4) aD))) (aa (ao 5) aq))) (by trivial)))) (aB (aL jM)) bf)))))) (aA (jf ZR rfl (iI (K:=K) rfl (cu (eU (K:=K) rfl) (ao 0) (bL aD) (bL aD))) (eZ (i:=4) lY.nd rfl gH rfl) (aB (bJ (dY (dU (aJ qz (hr.mono (by decide)) aP (aa (ao 3) (aa (aU mL (aU dX (ao 4) (aU aN (aH (aK (K:=K) rfl) aP T.b_len bc (aa (ao 2) aq) (by trivial) (by trivial)) aD)) aD) (aa (ao 2) aq))) (by trivial)))) (aB (aL jM)) bf))) (aA (jf ZR rfl (iI (K:=K) rfl (jd (aa BL (aa gq (aa jM (aa (jd (aa aD aq)) (aa (sU (aa aD aq)) (aa (aH (aK (K:=K) rfl) aP T.b_len bc (aa (ao 2) aq) (by trivial) (by trivial)) (aa (Lp vY aD) aq))))))))) (eZ (i:=7) lY.nd rfl gH rfl) (aB (bJ (dY (dU (aJ lW (hr.mono (by decide)) aP (aa (ao 3) (aa (ao 7) aq)) (by trivial)))) (aB (aL jM)) bf))) (aA (jf ZR rfl (iI (K:=K) rfl (jd (aa BL (aa (ao 2) (aa aD (aa (jd (aa (ao 3) aq)) (aa (jF T.o_Blank dR (hr.mono (by decide)) aP (jg fun _ _=>rfl) (aa (ao 1) (aa gq aq)) (by trivial)) (aa (jF T.o_One fB (hr.mono (by decide)) aP (jg fun _ _=>rfl) (aa gq (aa gq aq)) (by trivial)) (aa (aJ iT (hr.mono (by decide)) aP (aa (ao 1) (aa (aU aN (ao 2) (ao 2)) aq)) (by trivial)) aq))))))))) (eZ (i:=7) lY.nd rfl gH rfl) (aB (bJ (dY (dU (aJ lX (hr.mono (by decide)) aP (aa (ao 3) (aa (ao 7) aq)) (by trivial)))) (aB (aL jM)) bf))) (aA (jf ZR rfl (iI (K:=K) rfl (jd (aa BL (aa aD (aa jM (aa gq (aa gq (aa (aU j5 gq aD) (aa (jd (aa gq aq)) (aa (sU (aa gq aq)) aq)))))))))) (eZ (i:=7) lY.nd rfl gH rfl) (aA (bJ (mz (oZ (dY (dU (aJ fC (hr.mono (by decide)) aP (aa (ao 7) (aa (ao 2) (aa (ao 7) aq))) (by trivial)))) (mQ (dY (dU (aJ fC (hr.mono (by decide)) aP (aa (ao 1) (aa (ao 7) (aa (ao 7) aq))) (by trivial))))))) (aB (aL jM)) bf) (aB (bJ (dY (dU (aJ fC (hr.mono (by decide)) aP (aa (ao 7) (aa gq (aa (ao 7) aq))) (by trivial)))) (aB (aL jM)) bf)))) (aB (aL (lD (aJ fC (hr.mono (by decide)) aP (aa (ao 1) (aa gq (aa gq aq))) (by trivial)) (o4 (aJ lV (hr.mono (by decide)) aP (aa (ao 3) (aa (ao 1) (aa (ao 2) aq))) (by trivial))))))))))))))),?_⟩
 walk_at "s"
 have hz:20000<=sizeLine:=by decide
 refine ⟨a,ns,0,rfl,hS,by omega,fun c0=>?_⟩
 walk_at "s"
 refine ⟨c0,rfl,fun side H1 S1 hs=>?_⟩
 walk_at "s"
 refine ⟨a,ns,1,rfl,S1.seq hS,by omega,fun c1=>?_⟩
 walk_at "s"
 refine ⟨c1,rfl,fun row H2 S2 hr' h0=>?_⟩
 walk_at "s"
 have a1:side.length<=24:=hs.1
 have a2:row.length<=24:=hr'.1
 have e2:row.length=row.cps.size:=rfl
 refine Hk hs hr' h0 fun x H3 S3 hR=>?_
 walk_at "s"
 refine ⟨x,side,row,rfl,hR,fun H4 S4=>?_⟩
 walk_at "s"
 have hR4:=hR.same S4
 obtain ⟨_,_,_,dx,al,ap,h,ak,hx⟩:=id hR4
 refine ⟨x,dx,_,rfl,hx,Dp (by trivial),?_⟩
 walk_at "s"
 refine ⟨x,side,row,_,rfl,hR4,.inl ⟨x,side,row,rfl,hR4,fun H5 S5=>?_⟩⟩
 walk_at "s"
 rw [Y9 (show row∈jZ row by
  have:=mH (row:=row) (i:=0) (by omega)
  rw [Ox] at this
  exact Y8 this),show (!(true == true))=false from rfl]
 walk_at "s"
 have hS5:=(S1.trans (S2.trans (S3.trans (S4.trans S5)))).seq hS
 have hR5:=hR4.same S5
 clear hR hR4 hx S1 S2 S3 S4 S5 hS
 refine .inl (yF hS5 fun sl nsl=>?_)
 have S6:=(Same.refl H5).upd nsl (o:=.lst (mO (ns.map V.int) (some 2) (some 14)))
 have hsl:=aj (H:=H5) (a:=sl) (o:=.lst (mO (ns.map V.int) (some 2) (some 14)))
 generalize upd H5 sl (.lst (mO (ns.map V.int) (some 2) (some 14)))=H6 at S6 hsl ⊢
 have hR6:=hR5.same S6
 have hS6:=S6.seq hS5
 clear hR5 hS5 S6
 refine .inl ⟨sl,rfl,⟨_,SqL.of hsl⟩,?_⟩
 refine mY (xs:=mO (ns.map V.int) (some 2) (some 14)) (fun k U G=>Same H6 G/\∃ x4 x5 x6 x7,U=[some (.ref a),some (.str side),some (.str row),some (.ref x),x4,x5,x6,x7])
  ⟨Same.refl H6,_,_,_,_,rfl⟩ (fun i U G _ h=>SqL.of (h.1 _ _ hsl)) ?_ ?_
 ·rintro k v U G hv ⟨s,x4,x5,x6,x7,rfl⟩
  obtain ⟨c,_,rfl⟩:=ZP.mp (Hj (Y8 hv))
  have hRg:=hR6.same s
  walk_at "s"
  refine ⟨row,c,rfl,hr',h0,fun t G1 s1 ht t0=>?_⟩
  walk_at "s"
  have lt:t.length<=24:=ht.1
  obtain ⟨d,hd⟩:∃ d:Nat,c % 4=(d:Int):=⟨(c % 4).toNat,by omega⟩
  rw [hd]
  refine iK (by omega) ?_
  walk_at "s"
  refine Hk ht.to ht t0 fun y G2 s2 hY=>?_
  walk_at "s"
  have hR2:=hRg.same (s1.trans s2)
  refine ⟨x,y,side,row,_,t,rfl,hR2,hY,fun G3 s3=>?_⟩
  walk_at "s"
  refine ⟨y,x,_,t,side,row,rfl,hY.same s3,hR2.same s3,fun G4 s4=>?_⟩
  walk_at "s"
  rw [hd]
  refine iK (by omega) ?_
  walk_at "s"
  refine ⟨y,_,t,rfl,hY.same (s3.trans s4),fun G5 s5=>?_⟩
  walk_at "s"
  exact ⟨s.trans (s1.trans (s2.trans (s3.trans (s4.trans s5)))),_,_,_,_,rfl⟩
 rintro U G ⟨s,x4,x5,x6,x7,rfl⟩
 have hRg:=hR6.same s
 have hSg:=s.seq hS6
 clear hR6 hS6 hsl s
 walk_at "s"
 refine .inl (yF hSg fun sm nsm=>?_)
 have S7:=(Same.refl G).upd nsm (o:=.lst (mO (ns.map V.int) (some 2) (some 63)))
 have hsm:=aj (H:=G) (a:=sm) (o:=.lst (mO (ns.map V.int) (some 2) (some 63)))
 generalize upd G sm (.lst (mO (ns.map V.int) (some 2) (some 63)))=H7 at S7 hsm ⊢
 have hR7:=hRg.same S7
 clear hRg hSg S7
 refine .inl ⟨sm,rfl,⟨_,SqL.of hsm⟩,?_⟩
 refine mY (xs:=mO (ns.map V.int) (some 2) (some 63)) (fun k U G=>Same H7 G/\∃ x4 x5 x6 x7,U=[some (.ref a),some (.str side),some (.str row),some (.ref x),x4,x5,x6,x7])
  ⟨Same.refl H7,_,_,_,_,rfl⟩ (fun i U G _ h=>SqL.of (h.1 _ _ hsm)) ?_ ?_
 ·rintro k v U G hv ⟨s,x4,x5,x6,x7,rfl⟩
  obtain ⟨c,_,rfl⟩:=ZP.mp (Hj (Y8 hv))
  walk_at "s"
  refine cz (by omega) ?_
  walk_at "s"
  refine ⟨x,side,row,_,rfl,hR7.same s,fun G1 s1=>?_⟩
  walk_at "s"
  exact ⟨s.trans s1,_,_,_,_,rfl⟩
 rintro U G ⟨s,y4,y5,y6,y7,rfl⟩
 have hRg:=hR7.same s
 clear hR7 hsm s
 walk_at "s"
 refine cA rfl fun l0 G1 _ s1 hl0=>?_
 walk_at "s"
 refine cA rfl fun t0 G2 _ s2 ht0=>?_
 walk_at "s"
 refine cz (by omega) ?_
 walk_at "s"
 refine cA rfl fun w0 G3 _ s3 hw0=>?_
 walk_at "s"
 have u3:=s1.trans (s2.trans s3)
 have hW:∀ v∈([.non,.str (Str.ofString "0"),.bl true,.ref l0,.ref t0,.int (row.length:Int),.int (-1)]:List V),W1 K G3 row.cps.size v:=fun v hv=>by
  simp only [Y7,Zq,or_false] at hv
  rcases hv with rfl | rfl | rfl | rfl | rfl | rfl | rfl
  ·exact ⟨.inr (.inr ⟨_,.non,by rfl⟩),rfl,.non⟩
  ·exact ⟨.inr (.inr ⟨_,.str _,by rfl⟩),rfl,.str _⟩
  ·exact ⟨.inr (.inl ⟨_,rfl⟩),rfl,.bl _⟩
  ·exact ⟨.inr (.inr ⟨_,.lst ((s2.trans s3) _ _ hl0),by rfl⟩),rfl,.lst ((s2.trans s3) _ _ hl0) (Ls.mpr rfl) (by trivial)⟩
  ·exact ⟨.inr (.inr ⟨_,.tup (s3 _ _ ht0),by rfl⟩),rfl,.tup (s3 _ _ ht0) (Ls.mpr rfl) (by trivial)⟩
  ·exact ⟨.inl ⟨_,rfl⟩,by unfold inB;simp;omega,.int _⟩
  ·exact ⟨.inl ⟨_,rfl⟩,by unfold inB;simp,.int _⟩
 have hR3:=hRg.same u3
 clear hRg u3 s1 s2 s3 hl0 ht0
 refine .inl ⟨w0,rfl,⟨_,SqL.of hw0⟩,?_⟩
 refine mY (xs:=[.non,.str (Str.ofString "0"),.bl true,.ref l0,.ref t0,.int (row.length:Int),.int (-1)]) (fun k U G=>Same G3 G/\∃ x4 x5 x6 x7,U=[some (.ref a),some (.str side),some (.str row),some (.ref x),x4,x5,x6,x7])
  ⟨Same.refl G3,_,_,_,_,rfl⟩ (fun i U G _ h=>SqL.of (h.1 _ _ hw0)) ?_ ?_
 ·rintro k v U G4 hv ⟨s4,x4,x5,x6,x7,rfl⟩
  have hw:=(hW v (Y8 hv)).same s4
  walk_at "s"
  refine ⟨x,side,row,v,rfl,hR3.same s4,hw.k,hw.no,hw.s,fun G5 s5=>?_⟩
  walk_at "s"
  exact ⟨s4.trans s5,_,_,_,_,rfl⟩
 rintro U G4 ⟨s4,z4,z5,z6,z7,rfl⟩
 have hR4:=hR3.same s4
 clear hR3 hw0 hW s4
 walk_at "s"
 refine cA rfl fun l1 G5 _ s5 hl1=>?_
 walk_at "s"
 refine xr (.of s5) hs.row (show Row (Str.ofString "") from Pln.nil.row) (.inr (by trivial)) fun y1 G6 s6 p1 g1=>?_
 walk_at "s"
 rw [show Str.ofString "a"=(⟨#[97]⟩:Str) from by trivial,show Str.ofString "b"=(⟨#[98]⟩:Str) from by trivial]
 refine Oo (H0:=G6) (.of (Same.refl G6)) (show 97∈GOOD by trivial) (show 98∈GOOD by trivial) fun y2 G7 s7 p2 g2=>?_
 walk_at "s"
 have lrr:(row ++ row).length=row.length+row.length:=gR row row
 have hrr:Row (row ++ row):=⟨by omega,fun c hc=>(Hi hc).elim (fun h=>(hr'.ok h).2) (fun h=>(hr'.ok h).2)⟩
 refine iH (by omega) ?_
 walk_at "s"
 refine ⟨side,row ++ row,rfl,hs.row,hrr,fun y3 h3 G8 s8 _ g3=>?_⟩
 walk_at "s"
 refine cA rfl fun w1 G9 _ s9 hw1=>?_
 walk_at "s"
 have hR9:=hR4.same (s5.trans (s6.trans (s7.trans (s8.trans s9))))
 have hl9:=(s6.trans (s7.trans (s8.trans s9))) _ _ hl1
 have W9:∀ v∈([.non,.str row,.int 7,.ref l1,.ref y1,.ref y2,.ref y3]:List V),W2 K mg G9 v:=fun v hv=>by
  simp only [Y7,Zq,or_false] at hv
  rcases hv with rfl | rfl | rfl | rfl | rfl | rfl | rfl
  ·exact ⟨⟨_,.non,T.w_Ring_NoneType⟩,.non⟩
  ·exact ⟨⟨_,.str _,T.w_Ring_str⟩,.str _⟩
  ·exact ⟨⟨_,.int _,T.w_Ring_int⟩,.int _⟩
  ·exact ⟨⟨_,.lst hl9,T.w_Ring_list⟩,fun H' Q s q=>.inr (.inr ⟨l1,l1,[.ref x],rfl,rfl,SqL.of (s _ _ hl9),SqL.of (s _ _ hl9),fun v hv=>.inr ⟨x,by simpa using hv⟩,q⟩)⟩
  ·exact (W2.pc T g1.g).same (s7.trans (s8.trans s9))
  ·exact (W2.pc T g2.g).same (s8.trans s9)
  ·exact (W2.pc T g3.g).same s9
 clear g1 g2 g3 p1 p2 s5 s6 s7 s8 s9 hl1 hl9 hR4
 refine .inl ⟨w1,rfl,⟨_,SqL.of hw1⟩,?_⟩
 refine mY (xs:=[.non,.str row,.int 7,.ref l1,.ref y1,.ref y2,.ref y3]) (fun k U G=>Same G9 G/\∃ x4 x5 x6 x7,U=[some (.ref a),some (.str side),some (.str row),some (.ref x),x4,x5,x6,x7])
  ⟨Same.refl G9,_,_,_,_,rfl⟩ (fun i U G _ h=>SqL.of (h.1 _ _ hw1)) ?_ ?_
 ·rintro k v U G hv ⟨s4,x4,x5,x6,x7,rfl⟩
  have hw:=(W9 v (Y8 hv)).same s4
  walk_at "s"
  refine ⟨x,side,row,v,rfl,hR9.same s4,hw.n,hw.s,fun G5 s5=>?_⟩
  walk_at "s"
  exact ⟨s4.trans s5,_,_,_,_,rfl⟩
 rintro U L0 ⟨s4,v4,v5,v6,v7,rfl⟩
 have hR0:=hR9.same s4
 clear hR9 hw1 W9 s4
 walk_at "s"
 refine Lj (O2 (n:=25) (by trivial) (by decide)) ?_
 walk_at "s"
 refine cA rfl fun l2 L1 _ s1 hl2=>?_
 walk_at "s"
 refine cA rfl fun t2 L2 _ s2 ht2=>?_
 walk_at "s"
 refine cA rfl fun w2 L3 _ s3 hw2=>?_
 walk_at "s"
 have hW:∀ v∈([.non,.int 7,.bl true,.str (Str.ofString "A"),.str (Str.ofString "a.b"),.str (Txt.mul (Str.ofString "a") 25),.ref l2,.ref t2]:List V),W3 K L3 v:=fun v hv=>by
  simp only [Y7,Zq,or_false] at hv
  rcases hv with rfl | rfl | rfl | rfl | rfl | rfl | rfl | rfl
  ·exact ⟨.inr ⟨_,.non,by rfl⟩,rfl,.non⟩
  ·exact ⟨.inr ⟨_,.int _,by rfl⟩,rfl,.int _⟩
  ·exact ⟨.inr ⟨_,.bl _,by rfl⟩,rfl,.bl _⟩
  ·exact ⟨.inl ⟨_,rfl,by trivial⟩,by trivial,.str _⟩
  ·exact ⟨.inl ⟨_,rfl,by trivial⟩,by trivial,.str _⟩
  ·exact ⟨.inl ⟨_,rfl,by trivial⟩,by trivial,.str _⟩
  ·exact ⟨.inr ⟨_,.lst ((s2.trans s3) _ _ hl2),by rfl⟩,rfl,.lst ((s2.trans s3) _ _ hl2) (Lw.mpr rfl) (by trivial)⟩
  ·exact ⟨.inr ⟨_,.tup (s3 _ _ ht2),by rfl⟩,rfl,.tup (s3 _ _ ht2) (Lw.mpr rfl) (by trivial)⟩
 have hR3:=hR0.same (s1.trans (s2.trans s3))
 have em:∀ {H:Hp},Th K H (.str (Str.ofString "")):=fun {H}=>.inl ⟨_,rfl,by trivial⟩
 clear hR0 s1 s2 s3 hl2 ht2
 refine .inl ⟨w2,rfl,⟨_,SqL.of hw2⟩,?_⟩
 refine mY (xs:=[.non,.int 7,.bl true,.str (Str.ofString "A"),.str (Str.ofString "a.b"),.str (Txt.mul (Str.ofString "a") 25),.ref l2,.ref t2]) (fun k U G=>Same L3 G/\∃ x4 x5 x6 x7,U=[some (.ref a),some (.str side),some (.str row),some (.ref x),x4,x5,x6,x7])
  ⟨Same.refl L3,_,_,_,_,rfl⟩ (fun i U G _ h=>SqL.of (h.1 _ _ hw2)) ?_ ?_
 ·rintro k v U G hv ⟨s4,x4,x5,x6,x7,rfl⟩
  have hw:=(hW v (Y8 hv)).same s4
  walk_at "s"
  refine ⟨v,.str row,v,rfl,hw.t,hr'.th,hw.s,.inl ⟨hw.no,rfl⟩,fun G5 s5=>?_⟩
  walk_at "s"
  have hw:=hw.same s5
  refine ⟨.str side,v,v,rfl,hs.th,hw.t,hw.s,.inr ⟨hs.pl,.inl hw.no,rfl⟩,fun G6 s6=>?_⟩
  walk_at "s"
  have hw:=hw.same s6
  refine ⟨v,.str (Str.ofString ""),v,rfl,hw.t,em,hw.s,.inl ⟨hw.no,rfl⟩,fun G7 s7=>?_⟩
  walk_at "s"
  exact ⟨s4.trans (s5.trans (s6.trans s7)),_,_,_,_,rfl⟩
 rintro U G ⟨s4,x4,x5,x6,x7,rfl⟩
 walk_at "s"
 refine ⟨.str side,.str (Str.ofString ""),.str (Str.ofString ""),rfl,hs.th,em,.str _,.inr ⟨hs.pl,.inr rfl,rfl⟩,fun G5 s5=>?_⟩
 walk_at "s"
 refine ⟨x,side,row,rfl,hR3.same (s4.trans s5),fun G6 s6=>?_⟩
 walk_at "s"
 exact q _
end
end My
namespace PySem.W.Fast
def tw14894478191052412156:=0
def tw18017568969501501874:=0
def tw9802747318662736181:=0
def tw14964439677370628361:=0
def tw15835056641123556903:=0
def tw2987890421915154595:=0
def tw5903101517922679224:=0
def tw5530001179345486766:=0
def tw5766777216418171076:=0
def tw8378972513024858176:=0
def tw9315481914317722802:=0
def tw16735220385356590875:=0
def tw813133808450210178:=0
def tw18062189780041662738:=0
def tw10981882329358805197:=0
def tw6183677619343811587:=0
def tw17262203450596647176:=0
def tw16339299884423803772:=0
def tw14109659298520005796:=0
def tw7675148500966196071:=0
def tw18446149242054164633:=0
def tw15287048889569839055:=0
def tw7367031514851698435:=0
def tw11403205031609072745:=0
def tw8878232839586502764:=0
def tw16602887704540168756:=0
def tw16645868300459386586:=0
def tw14209649937832220206:=0
def tw15645180309028381491:=0
def tw7499268658761581693:=0
def tw6230181971419977234:=0
def tw17925636492344007931:=0
def tw17064061523542729043:=0
def tw6232624073084586488:=0
def tw4187097220719762604:=0
def tw10111908894241785239:=0
def tw4819875200299206709:=0
def tw6987412794826514809:=0
def tw18319970304651358603:=0
def tw2861100176988017899:=0
def tw1704571969763905694:=0
def tw16865918034516692038:=0
def tw8405807332045413098:=0
def tw10957357923786376141:=0
def tw514090443234366937:=0
def tw13844486716744898854:=0
def tw8452340177194295253:=0
def tw639784720871108981:=0
def tw12769889665396978605:=0
def tw1240399277152120605:=0
def tw4590526420319425877:=0
def tw6590835309069586794:=0
def tw5155317918107854502:=0
def tw18164024108164552037:=0
def tw9816174221950899698:=0
def tw8356133923371750326:=0
def tw1043078227016933249:=0
def tw17083048454949240471:=0
def tw12710730582997238047:=0
def tw10166901287641199633:=0
def tw15575438061159186453:=0
def tw15045522014092621625:=0
def tw17083246555464582840:=0
def tw16881831026702042568:=0
def tw12083136823216626624:=0
def tw12284654026969530566:=0
def tw12341089559736998524:=0
def tw13709103086465307253:=0
def tw2808111214086205850:=0
def tw5301103267961176020:=0
def tw4915795938217954812:=0
def tw17770720978768359249:=0
def tw2994759333645302985:=0
def tw5213956978004251918:=0
def tw6642089636540781658:=0
def tw18089179786180487349:=0
def tw6334431447620217340:=0
def tw1665238529863927868:=0
def tw18169558851909909828:=0
def tw10796051400778493511:=0
def tw3753144047666532557:=0
def tw15882861182755807468:=0
def tw1050417762944023560:=0
def tw7340515427117212122:=0
def tw2379476383270702691:=0
def tw14728382892689458632:=0
def tw9365883921811011543:=0
def tw16893941572267719144:=0
def tw11738447854659079101:=0
def tw6916600997175067241:=0
def tw17472690630770175019:=0
def tw17888738853041820177:=0
def tw2119839199587558760:=0
def tw1406073647608232730:=0
def tw15257702337383284179:=0
def tw5857434971408213549:=0
def tw7100678667797040039:=0
def tw15698358457572716419:=0
def tw12524914037920263752:=0
def tw8764611542327110303:=0
def tw8046888917454809243:=0
def tw2955136989334114375:=0
def tw6391753077916858297:=0
def tw12446936111414045714:=0
def tw7358139150306023441:=0
def tw5880581846251341958:=0
def tw6382139048866290621:=0
def tw7749153230450067210:=0
def tw5689784336090682073:=0
def tw12812368279663621563:=0
def tw13761095386326955203:=0
def tw12849210186325100285:=0
def tw355349112479732631:=0
def tw17115495270588543984:=0
def tw6779273263702438532:=0
def tw757316906623143227:=0
def tw323785000632454301:=0
def tw14605812408646978803:=0
def tw10445554086422791048:=0
def tw4639876562886852011:=0
def tw1541962919677207515:=0
def tw1982610730481831957:=0
def tw12815781680380418585:=0
def tw18097968950133927727:=0
def tw17105020546678374228:=0
def tw13737211405512413254:=0
def tw15882010170367545421:=0
def tw4942726428061607435:=0
def tw15327001610783617098:=0
def tw17052317625103177292:=0
def tw11257859043469383987:=0
def tw9533918546490635154:=0
def tw17301214750914395922:=0
def tw17675559604167167518:=0
def tw1270559587076139006:=0
def tw30330379833270506:=0
def tw11031194824914202227:=0
def tw2223449558083932292:=0
def tw4501337369577179911:=0
def tw2698109365197509063:=0
def tw16216653068860532743:=0
def tw1315329913365494955:=0
def tw18135704247998432020:=0
def tw11878173394544587518:=0
def tw11724626085491600611:=0
def tw6896555044640834123:=0
def tw7377143930690047264:=0
def tw7925561942914158630:=0
def tw957573806307888287:=0
def tw16608745689443932426:=0
def tw15447915925144036324:=0
def tw8461702034052814535:=0
def tw16241359763643797019:=0
def tw10688036694283850471:=0
def tw11838640287793915697:=0
def tw2602501575862616186:=0
def tw8827484194024227443:=0
def tw622852598948038127:=0
def tw3771805683744496994:=0
def tw9745375139420875075:=0
def tw3658269591531431477:=0
def tw3037600542414924295:=0
def tw9351855667323231088:=0
def tw8139705135535364210:=0
def tw13565168678747444492:=0
def tw12942817137833402787:=0
def tw15415499368717043212:=0
def tw12264180184324059120:=0
def tw12514691268643227544:=0
def tw5728504370560838329:=0
def tw14417833677046209977:=0
def tw12287719857476770622:=0
def tw9889977007949507538:=0
def tw3889346746091734545:=0
def tw7555306045573156753:=0
def tw2977867694824264477:=0
def tw11353876029769336853:=0
def tw6564951709683510737:=0
def tw2252420519814690043:=0
def tw168382098090595486:=0
def tw16806342903368489748:=0
def tw4358716749613370263:=0
def tw3725130061851763218:=0
def tw12784126038824345847:=0
def tw7263672383172732107:=0
def tw17090125867862989128:=0
def tw16519397655259915051:=0
def tw3175041841294508144:=0
def tw13860259567809004591:=0
def tw130014327049601735:=0
def tw2079210922968884962:=0
def tw11040481639618656565:=0
def tw8663798645900876825:=0
def tw13984529940912934396:=0
def tw9497914122391542332:=0
def tw18239094993416941216:=0
def tw17878480569734345250:=0
def tw16995737977136990093:=0
def tw13821562870026829175:=0
def tw13270981695914227773:=0
def tw8653978930865473588:=0
def tw15338346946127423016:=0
def tw15103771938497258433:=0
def tw13671848955363520678:=0
def tw10965198188834595931:=0
def tw16895476033712820731:=0
def tw7783961775195676960:=0
def tw6508999790090307218:=0
def tw13679099327898753859:=0
def tw14703481874587231555:=0
def tw722519850788708308:=0
def tw6429205626896948509:=0
def tw2033204989644788801:=0
def tw6647160158927176024:=0
def tw12578827887860185953:=0
def tw2458676846708113099:=0
def tw14272845689269910519:=0
def tw10412699604505233285:=0
def tw17837315177873429463:=0
def tw16436593711727581575:=0
def tw3582836702666675186:=0
def tw5935621373156661766:=0
def tw11808072686363727812:=0
def tw15847824229785948199:=0
def tw10984401260404202175:=0
def tw10543227144273136121:=0
def tw15187302270630899659:=0
def tw11111294724814785557:=0
def tw37810484775880753:=0
def tw1232190292005706024:=0
def tw12987686880744325924:=0
def tw3109002525918073252:=0
def tw12796543712852991263:=0
def tw9078552059649376492:=0
def tw13798244976482868047:=0
def tw12730787372913934659:=0
def tw11828640759638885978:=0
def tw11612365981609883408:=0
def tw8205060616238928808:=0
def tw4515800013138502782:=0
def tw11639480636903874119:=0
def tw11546290310943291690:=0
def tw10379861842243508119:=0
def tw4312512388540821280:=0
def tw3416246402164440083:=0
def tw489379379820834102:=0
def tw18333409822485375707:=0
def tw14575409632680355389:=0
def tw12007911720950851199:=0
def tw1049290945908019956:=0
def tw3230280378148348270:=0
def tw9977484017952808856:=0
def tw14710028657683785788:=0
def tw2233533950204745380:=0
def tw8235201006513925232:=0
def tw10549797924617674004:=0
def tw9028596206156088421:=0
def tw15936053518111791804:=0
def tw10925849261512313373:=0
def tw12873318216408701192:=0
def tw9627953629316678118:=0
def tw5260868810073064151:=0
def tw2731117591470341602:=0
def tw16235011274483656850:=0
def tw8733214385882601260:=0
def tw17221320868558792590:=0
def tw3809125788537500534:=0
def tw14875000448058792643:=0
def tw14919085612895748981:=0
def tw4162066285686170598:=0
def tw17347766156512776005:=0
def tw5946453728351815803:=0
def tw4715488103238060720:=0
def tw3132517417045941182:=0
def tw3870024119062432636:=0
def tw13635735553049800795:=0
def tw535405413909540321:=0
def tw8818590854878621888:=0
def tw5852489283252287876:=0
def tw4430169736251389293:=0
def tw4002316501817323927:=0
def tw3816942367495462736:=0
def tw2570423268503550833:=0
def tw1585499554220559984:=0
def tw14143306919694995423:=0
def tw1380680441949857193:=0
def tw12494823704751921804:=0
def tw1218377388477273408:=0
def tw10557748741368539813:=0
end PySem.W.Fast
open PySem PySem.W PyProof.Rows
set_option maxRecDepth 100000 in
set_option maxHeartbeats 0 in
theorem PySem.Challenge.cw_panethread_k76_openings_of_rings_holds : PySem.Challenge.rw_panethread_k76_openings_of_rings.Holds := by
 w_on;o_law;k_head;(case hw=>w_witness2)
 k_fill
 refine L2.Xz (l:=PySem.Challenge.rw_panethread_k76_openings_of_rings) (st:=My.Cq) (k:=22) (x:="_law_script") (sp:=My.Tr) rfl rfl rfl ⟨rfl,by decide,by decide,rfl⟩ (fun w h Y=>PySem.W.kIn_of Y) (fun _ _ _ _ _ _ us hl=>L2.iG (fun _=>rfl) us hl) ?F (fun K H a ns hl hS=>⟨a,ns,rfl,hS,fun _=>rfl⟩)
 case F=>
  intro w mg h KX G
  have b_ValueError:mg "ValueError"=none:=by
   refine' Zz KX G ?a
   (case a=>k_is)
  have b_all:mg "all"=none:=by
   refine' Zz KX G ?a
   (case a=>k_is)
  have b_bool:mg "bool"=none:=by
   refine' Zz KX G ?a
   (case a=>k_is)
  have b_enumerate:mg "enumerate"=none:=by
   refine' Zz KX G ?a
   (case a=>k_is)
  have b_int:mg "int"=none:=by
   refine' Zz KX G ?a
   (case a=>k_is)
  have b_isinstance:mg "isinstance"=none:=by
   refine' Zz KX G ?a
   (case a=>k_is)
  have b_len:mg "len"=none:=by
   refine' Zz KX G ?a
   (case a=>k_is)
  have b_list:mg "list"=none:=by
   refine' Zz KX G ?a
   (case a=>k_is)
  have b_max:mg "max"=none:=by
   refine' Zz KX G ?a
   (case a=>k_is)
  have b_min:mg "min"=none:=by
   refine' Zz KX G ?a
   (case a=>k_is)
  have b_range:mg "range"=none:=by
   refine' Zz KX G ?a
   (case a=>k_is)
  have b_reversed:mg "reversed"=none:=by
   refine' Zz KX G ?a
   (case a=>k_is)
  have b_str:mg "str"=none:=by
   refine' Zz KX G ?a
   (case a=>k_is)
  have b_tuple:mg "tuple"=none:=by
   refine' Zz KX G ?a
   (case a=>k_is)
  have c_LETTERS:∃ t,mg "LETTERS"=some (.str "abcdefghijklmnopqrstuvwxyz" t):=by
   refine' L2.pM KX G ?a ?h
   (case a=>k_is);(case h=>exact ⟨_,by with_unfolding_all rfl⟩)
  have c_MOST_LETTERS:∃ t,mg "MOST_LETTERS"=some (.int 24 t):=by
   refine' L2.pM KX G ?a ?h
   (case a=>k_is);(case h=>exact ⟨_,by with_unfolding_all rfl⟩)
  have c_MOST_LINES:∃ t,mg "MOST_LINES"=some (.int 96 t):=by
   refine' L2.pM KX G ?a ?h
   (case a=>k_is);(case h=>exact ⟨_,by with_unfolding_all rfl⟩)
  have c_MOST_SIGNS:∃ t,mg "MOST_SIGNS"=some (.int 48 t):=by
   refine' L2.pM KX G ?a ?h
   (case a=>k_is);(case h=>exact ⟨_,by with_unfolding_all rfl⟩)
  have c_POINT:∃ t,mg "POINT"=some (.str "." t):=by
   refine' L2.pM KX G ?a ?h
   (case a=>k_is);(case h=>exact ⟨_,by with_unfolding_all rfl⟩)
  have d_is_number:L2.eO (L2.KOf KX) mg "is_number" My.pU:=by
   dsimp only [L2.KOf]
   refine' L2.aZ KX G ?a ?l ?c ?k
   (case a=>k_is);(case l=>k_is);(case c=>k_is);(case k=>k_is)
  have d_is_within:L2.eO (L2.KOf KX) mg "is_within" My.pW:=by
   dsimp only [L2.KOf]
   refine' L2.aZ KX G ?a ?l ?c ?k
   (case a=>k_is);(case l=>k_is);(case c=>k_is);(case k=>k_is)
  have d_is_letter:L2.eO (L2.KOf KX) mg "is_letter" My.pX:=by
   dsimp only [L2.KOf]
   refine' L2.aZ KX G ?a ?l ?c ?k
   (case a=>k_is);(case l=>k_is);(case c=>k_is);(case k=>k_is)
  have d_is_sign:L2.eO (L2.KOf KX) mg "is_sign" My.uB:=by
   dsimp only [L2.KOf]
   refine' L2.aZ KX G ?a ?l ?c ?k
   (case a=>k_is);(case l=>k_is);(case c=>k_is);(case k=>k_is)
  have d_need_place:L2.eO (L2.KOf KX) mg "need_place" My.ou:=by
   dsimp only [L2.KOf]
   refine' L2.aZ KX G ?a ?l ?c ?k
   (case a=>k_is);(case l=>k_is);(case c=>k_is);(case k=>k_is)
  have d_need_sign:L2.eO (L2.KOf KX) mg "need_sign" My.pY:=by
   dsimp only [L2.KOf]
   refine' L2.aZ KX G ?a ?l ?c ?k
   (case a=>k_is);(case l=>k_is);(case c=>k_is);(case k=>k_is)
  have d_is_row:L2.eO (L2.KOf KX) mg "is_row" My.tU:=by
   dsimp only [L2.KOf]
   refine' L2.aZ KX G ?a ?l ?c ?k
   (case a=>k_is);(case l=>k_is);(case c=>k_is);(case k=>k_is)
  have d_is_plain:L2.eO (L2.KOf KX) mg "is_plain" My.oA:=by
   dsimp only [L2.KOf]
   refine' L2.aZ KX G ?a ?l ?c ?k
   (case a=>k_is);(case l=>k_is);(case c=>k_is);(case k=>k_is)
  have d_need_row:L2.eO (L2.KOf KX) mg "need_row" My.rG:=by
   dsimp only [L2.KOf]
   refine' L2.aZ KX G ?a ?l ?c ?k
   (case a=>k_is);(case l=>k_is);(case c=>k_is);(case k=>k_is)
  have d_need_rows:L2.eO (L2.KOf KX) mg "need_rows" My.pZ:=by
   dsimp only [L2.KOf]
   refine' L2.aZ KX G ?a ?l ?c ?k
   (case a=>k_is);(case l=>k_is);(case c=>k_is);(case k=>k_is)
  have d_need_plain:L2.eO (L2.KOf KX) mg "need_plain" My.oE:=by
   dsimp only [L2.KOf]
   refine' L2.aZ KX G ?a ?l ?c ?k
   (case a=>k_is);(case l=>k_is);(case c=>k_is);(case k=>k_is)
  have d_is_turning:L2.eO (L2.KOf KX) mg "is_turning" My.oF:=by
   dsimp only [L2.KOf]
   refine' L2.aZ KX G ?a ?l ?c ?k
   (case a=>k_is);(case l=>k_is);(case c=>k_is);(case k=>k_is)
  have d_need_turning:L2.eO (L2.KOf KX) mg "need_turning" My.lK:=by
   dsimp only [L2.KOf]
   refine' L2.aZ KX G ?a ?l ?c ?k
   (case a=>k_is);(case l=>k_is);(case c=>k_is);(case k=>k_is)
  have d_straight:L2.eO (L2.KOf KX) mg "straight" My.rH:=by
   dsimp only [L2.KOf]
   refine' L2.aZ KX G ?a ?l ?c ?k
   (case a=>k_is);(case l=>k_is);(case c=>k_is);(case k=>k_is)
  have d_opposite:L2.eO (L2.KOf KX) mg "opposite" My.rJ:=by
   dsimp only [L2.KOf]
   refine' L2.aZ KX G ?a ?l ?c ?k
   (case a=>k_is);(case l=>k_is);(case c=>k_is);(case k=>k_is)
  have d_counts:L2.eO (L2.KOf KX) mg "counts" My.tV:=by
   dsimp only [L2.KOf]
   refine' L2.aZ KX G ?a ?l ?c ?k
   (case a=>k_is);(case l=>k_is);(case c=>k_is);(case k=>k_is)
  have d_do_steps:L2.eO (L2.KOf KX) mg "do_steps" My.rK:=by
   dsimp only [L2.KOf]
   refine' L2.aZ KX G ?a ?l ?c ?k
   (case a=>k_is);(case l=>k_is);(case c=>k_is);(case k=>k_is)
  have d_steps_of:L2.eO (L2.KOf KX) mg "steps_of" My.rM:=by
   dsimp only [L2.KOf]
   refine' L2.aZ KX G ?a ?l ?c ?k
   (case a=>k_is);(case l=>k_is);(case c=>k_is);(case k=>k_is)
  have d_need_alike:L2.eO (L2.KOf KX) mg "need_alike" My.oG:=by
   dsimp only [L2.KOf]
   refine' L2.aZ KX G ?a ?l ?c ?k
   (case a=>k_is);(case l=>k_is);(case c=>k_is);(case k=>k_is)
  have d_laid:L2.eO (L2.KOf KX) mg "laid" My.Fb:=by
   dsimp only [L2.KOf]
   refine' L2.aZ KX G ?a ?l ?c ?k
   (case a=>k_is);(case l=>k_is);(case c=>k_is);(case k=>k_is)
  have d_need_pieces:L2.eO (L2.KOf KX) mg "need_pieces" My.mR:=by
   dsimp only [L2.KOf]
   refine' L2.aZ KX G ?a ?l ?c ?k
   (case a=>k_is);(case l=>k_is);(case c=>k_is);(case k=>k_is)
  have d_need_same:L2.eO (L2.KOf KX) mg "need_same" My.p6:=by
   dsimp only [L2.KOf]
   refine' L2.aZ KX G ?a ?l ?c ?k
   (case a=>k_is);(case l=>k_is);(case c=>k_is);(case k=>k_is)
  have d_need_short:L2.eO (L2.KOf KX) mg "need_short" My.oH:=by
   dsimp only [L2.KOf]
   refine' L2.aZ KX G ?a ?l ?c ?k
   (case a=>k_is);(case l=>k_is);(case c=>k_is);(case k=>k_is)
  have d_lines_over:L2.eO (L2.KOf KX) mg "lines_over" My.kW:=by
   dsimp only [L2.KOf]
   refine' L2.aZ KX G ?a ?l ?c ?k
   (case a=>k_is);(case l=>k_is);(case c=>k_is);(case k=>k_is)
  have d_lines_beside:L2.eO (L2.KOf KX) mg "lines_beside" My.jj:=by
   dsimp only [L2.KOf]
   refine' L2.aZ KX G ?a ?l ?c ?k
   (case a=>k_is);(case l=>k_is);(case c=>k_is);(case k=>k_is)
  have d_all_beside:L2.eO (L2.KOf KX) mg "all_beside" My.oJ:=by
   dsimp only [L2.KOf]
   refine' L2.aZ KX G ?a ?l ?c ?k
   (case a=>k_is);(case l=>k_is);(case c=>k_is);(case k=>k_is)
  have d_all_over:L2.eO (L2.KOf KX) mg "all_over" My.rN:=by
   dsimp only [L2.KOf]
   refine' L2.aZ KX G ?a ?l ?c ?k
   (case a=>k_is);(case l=>k_is);(case c=>k_is);(case k=>k_is)
  have d_balanced:L2.eO (L2.KOf KX) mg "balanced" My.lM:=by
   dsimp only [L2.KOf]
   refine' L2.aZ KX G ?a ?l ?c ?k
   (case a=>k_is);(case l=>k_is);(case c=>k_is);(case k=>k_is)
  have d_law_cell_at:L2.eO (L2.KOf KX) mg "_law_cell_at" My.mU:=by
   dsimp only [L2.KOf]
   refine' L2.aZ KX G ?a ?l ?c ?k
   (case a=>k_is);(case l=>k_is);(case c=>k_is);(case k=>k_is)
  have d_law_great:L2.eO (L2.KOf KX) mg "_law_great" My.p7:=by
   dsimp only [L2.KOf]
   refine' L2.aZ KX G ?a ?l ?c ?k
   (case a=>k_is);(case l=>k_is);(case c=>k_is);(case k=>k_is)
  have d_law_letter:L2.eO (L2.KOf KX) mg "_law_letter" My.oK:=by
   dsimp only [L2.KOf]
   refine' L2.aZ KX G ?a ?l ?c ?k
   (case a=>k_is);(case l=>k_is);(case c=>k_is);(case k=>k_is)
  have d_law_row:L2.eO (L2.KOf KX) mg "_law_row" My.uC:=by
   dsimp only [L2.KOf]
   refine' L2.aZ KX G ?a ?l ?c ?k
   (case a=>k_is);(case l=>k_is);(case c=>k_is);(case k=>k_is)
  have d_law_round:L2.eO (L2.KOf KX) mg "_law_round" My.qd:=by
   dsimp only [L2.KOf]
   refine' L2.aZ KX G ?a ?l ?c ?k
   (case a=>k_is);(case l=>k_is);(case c=>k_is);(case k=>k_is)
  have d_law_openings:L2.eO (L2.KOf KX) mg "_law_openings" My.jk:=by
   dsimp only [L2.KOf]
   refine' L2.aZ KX G ?a ?l ?c ?k
   (case a=>k_is);(case l=>k_is);(case c=>k_is);(case k=>k_is)
  have d_law_place:L2.eO (L2.KOf KX) mg "_law_place" My.mD:=by
   dsimp only [L2.KOf]
   refine' L2.aZ KX G ?a ?l ?c ?k
   (case a=>k_is);(case l=>k_is);(case c=>k_is);(case k=>k_is)
  have d_law_no_place:L2.eO (L2.KOf KX) mg "_law_no_place" My.jl:=by
   dsimp only [L2.KOf]
   refine' L2.aZ KX G ?a ?l ?c ?k
   (case a=>k_is);(case l=>k_is);(case c=>k_is);(case k=>k_is)
  have d_law_no_piece:L2.eO (L2.KOf KX) mg "_law_no_piece" My.jm:=by
   dsimp only [L2.KOf]
   refine' L2.aZ KX G ?a ?l ?c ?k
   (case a=>k_is);(case l=>k_is);(case c=>k_is);(case k=>k_is)
  have d_law_no_plain:L2.eO (L2.KOf KX) mg "_law_no_plain" My.jn:=by
   dsimp only [L2.KOf]
   refine' L2.aZ KX G ?a ?l ?c ?k
   (case a=>k_is);(case l=>k_is);(case c=>k_is);(case k=>k_is)
  have d_law_other:L2.eO (L2.KOf KX) mg "_law_other" My.qe:=by
   dsimp only [L2.KOf]
   refine' L2.aZ KX G ?a ?l ?c ?k
   (case a=>k_is);(case l=>k_is);(case c=>k_is);(case k=>k_is)
  have d_law_told:L2.eO (L2.KOf KX) mg "_law_told" My.rO:=by
   dsimp only [L2.KOf]
   refine' L2.aZ KX G ?a ?l ?c ?k
   (case a=>k_is);(case l=>k_is);(case c=>k_is);(case k=>k_is)
  have d_law_alike:L2.eO (L2.KOf KX) mg "_law_alike" My.qg:=by
   dsimp only [L2.KOf]
   refine' L2.aZ KX G ?a ?l ?c ?k
   (case a=>k_is);(case l=>k_is);(case c=>k_is);(case k=>k_is)
  have d_law:L2.eO (L2.KOf KX) mg "law" My.Cq:=by
   dsimp only [L2.KOf]
   refine' L2.aZ KX G ?a ?l ?c ?k
   (case a=>k_is);(case l=>k_is);(case c=>k_is);(case k=>k_is)
  have x_PaneError:L2.IK (L2.KOf KX) mg "PaneError":=by
   dsimp only [L2.KOf]
   refine' L2.Sq KX G ?a ?b
   (case a=>k_is);(case b=>kernel_rfl)
  have x_NoRow:L2.pB (L2.KOf KX) mg "NoRow" ["found"] "NoRow.__init__" My.GJ:=by
   dsimp only [L2.KOf]
   refine' L2.uU KX G ?a ?b ?kp ?na ?i ?t ?l ?c ?k
   (case a=>k_is);(case b=>kernel_rfl);(case kp=>k_is);(case na=>kernel_rfl);(case i=>k_is);(case t=>k_is);(case l=>k_is);(case c=>k_is);(case k=>k_is)
  have x_NoPlain:L2.pB (L2.KOf KX) mg "NoPlain" ["found"] "NoPlain.__init__" My.nq:=by
   dsimp only [L2.KOf]
   refine' L2.uU KX G ?a ?b ?kp ?na ?i ?t ?l ?c ?k
   (case a=>k_is);(case b=>kernel_rfl);(case kp=>k_is);(case na=>kernel_rfl);(case i=>k_is);(case t=>k_is);(case l=>k_is);(case c=>k_is);(case k=>k_is)
  have x_NoLetter:L2.pB (L2.KOf KX) mg "NoLetter" ["found"] "NoLetter.__init__" My.w5:=by
   dsimp only [L2.KOf]
   refine' L2.uU KX G ?a ?b ?kp ?na ?i ?t ?l ?c ?k
   (case a=>k_is);(case b=>kernel_rfl);(case kp=>k_is);(case na=>kernel_rfl);(case i=>k_is);(case t=>k_is);(case l=>k_is);(case c=>k_is);(case k=>k_is)
  have x_NoPlace:L2.pB (L2.KOf KX) mg "NoPlace" ["found"] "NoPlace.__init__" My.nG:=by
   dsimp only [L2.KOf]
   refine' L2.uU KX G ?a ?b ?kp ?na ?i ?t ?l ?c ?k
   (case a=>k_is);(case b=>kernel_rfl);(case kp=>k_is);(case na=>kernel_rfl);(case i=>k_is);(case t=>k_is);(case l=>k_is);(case c=>k_is);(case k=>k_is)
  have x_NoTurning:L2.pB (L2.KOf KX) mg "NoTurning" ["found"] "NoTurning.__init__" My.uY:=by
   dsimp only [L2.KOf]
   refine' L2.uU KX G ?a ?b ?kp ?na ?i ?t ?l ?c ?k
   (case a=>k_is);(case b=>kernel_rfl);(case kp=>k_is);(case na=>kernel_rfl);(case i=>k_is);(case t=>k_is);(case l=>k_is);(case c=>k_is);(case k=>k_is)
  have x_NoPiece:L2.pB (L2.KOf KX) mg "NoPiece" ["found"] "NoPiece.__init__" My.nH:=by
   dsimp only [L2.KOf]
   refine' L2.uU KX G ?a ?b ?kp ?na ?i ?t ?l ?c ?k
   (case a=>k_is);(case b=>kernel_rfl);(case kp=>k_is);(case na=>kernel_rfl);(case i=>k_is);(case t=>k_is);(case l=>k_is);(case c=>k_is);(case k=>k_is)
  have x_Unlike:L2.pB (L2.KOf KX) mg "Unlike" ["one","other"] "Unlike.__init__" My.Cr:=by
   dsimp only [L2.KOf]
   refine' L2.uU KX G ?a ?b ?kp ?na ?i ?t ?l ?c ?k
   (case a=>k_is);(case b=>kernel_rfl);(case kp=>k_is);(case na=>kernel_rfl);(case i=>k_is);(case t=>k_is);(case l=>k_is);(case c=>k_is);(case k=>k_is)
  have x_TooLong:L2.pB (L2.KOf KX) mg "TooLong" ["found"] "TooLong.__init__" My.yX:=by
   dsimp only [L2.KOf]
   refine' L2.uU KX G ?a ?b ?kp ?na ?i ?t ?l ?c ?k
   (case a=>k_is);(case b=>kernel_rfl);(case kp=>k_is);(case na=>kernel_rfl);(case i=>k_is);(case t=>k_is);(case l=>k_is);(case c=>k_is);(case k=>k_is)
  have o_Tally:L2.jw (L2.KOf KX) mg "Tally":=by
   dsimp only [L2.KOf]
   refine' L2.uW KX G ?a ?b ?s ?m ?k
   (case a=>k_is);(case b=>kernel_rfl);(case s=>k_is);(case m=>first | k_is | kernel_rfl);(case k=>k_is)
  have n_Tally:∀ f∈(["held_ends","held_counts"]:List Str),L2.NoAttr (L2.KOf KX) (L2.aF mg "Tally") f:=by
   dsimp only [L2.KOf]
   refine' L2.uX KX G ?a ?b
   (case a=>k_is);(case b=>kernel_rfl)
  have o_Asks:L2.jw (L2.KOf KX) mg "Asks":=by
   dsimp only [L2.KOf]
   refine' L2.uW KX G ?a ?b ?s ?m ?k
   (case a=>k_is);(case b=>kernel_rfl);(case s=>k_is);(case m=>first | k_is | kernel_rfl);(case k=>k_is)
  have n_Asks:∀ f∈(["held_tally","held_many","held_far"]:List Str),L2.NoAttr (L2.KOf KX) (L2.aF mg "Asks") f:=by
   dsimp only [L2.KOf]
   refine' L2.uX KX G ?a ?b
   (case a=>k_is);(case b=>kernel_rfl)
  have o_Piece:L2.jw (L2.KOf KX) mg "Piece":=by
   dsimp only [L2.KOf]
   refine' L2.uW KX G ?a ?b ?s ?m ?k
   (case a=>k_is);(case b=>kernel_rfl);(case s=>k_is);(case m=>first | k_is | kernel_rfl);(case k=>k_is)
  have n_Piece:∀ f∈(["held_side","held_top","held_kind","held_lines","held_parts","held_height"]:List Str),L2.NoAttr (L2.KOf KX) (L2.aF mg "Piece") f:=by
   dsimp only [L2.KOf]
   refine' L2.uX KX G ?a ?b
   (case a=>k_is);(case b=>kernel_rfl)
  have o_Blank:L2.jw (L2.KOf KX) mg "Blank":=by
   dsimp only [L2.KOf]
   refine' L2.uW KX G ?a ?b ?s ?m ?k
   (case a=>k_is);(case b=>kernel_rfl);(case s=>k_is);(case m=>first | k_is | kernel_rfl);(case k=>k_is)
  have n_Blank:∀ f∈(["held_side","held_top","held_kind","held_lines","held_parts","held_height"]:List Str),L2.NoAttr (L2.KOf KX) (L2.aF mg "Blank") f:=by
   dsimp only [L2.KOf]
   refine' L2.uX KX G ?a ?b
   (case a=>k_is);(case b=>kernel_rfl)
  have o_One:L2.jw (L2.KOf KX) mg "One":=by
   dsimp only [L2.KOf]
   refine' L2.uW KX G ?a ?b ?s ?m ?k
   (case a=>k_is);(case b=>kernel_rfl);(case s=>k_is);(case m=>first | k_is | kernel_rfl);(case k=>k_is)
  have n_One:∀ f∈(["held_side","held_top","held_kind","held_lines","held_parts","held_height"]:List Str),L2.NoAttr (L2.KOf KX) (L2.aF mg "One") f:=by
   dsimp only [L2.KOf]
   refine' L2.uX KX G ?a ?b
   (case a=>k_is);(case b=>kernel_rfl)
  have o_Over:L2.jw (L2.KOf KX) mg "Over":=by
   dsimp only [L2.KOf]
   refine' L2.uW KX G ?a ?b ?s ?m ?k
   (case a=>k_is);(case b=>kernel_rfl);(case s=>k_is);(case m=>first | k_is | kernel_rfl);(case k=>k_is)
  have n_Over:∀ f∈(["held_side","held_top","held_kind","held_lines","held_parts","held_height"]:List Str),L2.NoAttr (L2.KOf KX) (L2.aF mg "Over") f:=by
   dsimp only [L2.KOf]
   refine' L2.uX KX G ?a ?b
   (case a=>k_is);(case b=>kernel_rfl)
  have o_Beside:L2.jw (L2.KOf KX) mg "Beside":=by
   dsimp only [L2.KOf]
   refine' L2.uW KX G ?a ?b ?s ?m ?k
   (case a=>k_is);(case b=>kernel_rfl);(case s=>k_is);(case m=>first | k_is | kernel_rfl);(case k=>k_is)
  have n_Beside:∀ f∈(["held_side","held_top","held_kind","held_lines","held_parts","held_height"]:List Str),L2.NoAttr (L2.KOf KX) (L2.aF mg "Beside") f:=by
   dsimp only [L2.KOf]
   refine' L2.uX KX G ?a ?b
   (case a=>k_is);(case b=>kernel_rfl)
  have o_Ring:L2.jw (L2.KOf KX) mg "Ring":=by
   dsimp only [L2.KOf]
   refine' L2.uW KX G ?a ?b ?s ?m ?k
   (case a=>k_is);(case b=>kernel_rfl);(case s=>k_is);(case m=>first | k_is | kernel_rfl);(case k=>k_is)
  have n_Ring:∀ f∈(["held_side","held_top","held_kind","held_lines","held_parts","held_height","held_row","held_asks"]:List Str),L2.NoAttr (L2.KOf KX) (L2.aF mg "Ring") f:=by
   dsimp only [L2.KOf]
   refine' L2.uX KX G ?a ?b
   (case a=>k_is);(case b=>kernel_rfl)
  have os_Piece:L2.YK (L2.KOf KX) mg ["Blank","One","Over","Beside","Ring"]:=L2.QX o_Blank o_One o_Over o_Beside o_Ring
  have t_Blank:L2.ITxt (L2.KOf KX) mg "Blank":=by
   dsimp only [L2.KOf]
   refine' L2.Ce KX G ?a ?b ?c ?d ?e
   (case a=>k_is);(case b=>k_is);(case c=>first | k_is | kernel_rfl);(case d=>first | k_is | kernel_rfl);(case e=>first | k_is | kernel_rfl)
  have t_One:L2.ITxt (L2.KOf KX) mg "One":=by
   dsimp only [L2.KOf]
   refine' L2.Ce KX G ?a ?b ?c ?d ?e
   (case a=>k_is);(case b=>k_is);(case c=>first | k_is | kernel_rfl);(case d=>first | k_is | kernel_rfl);(case e=>first | k_is | kernel_rfl)
  have t_Over:L2.ITxt (L2.KOf KX) mg "Over":=by
   dsimp only [L2.KOf]
   refine' L2.Ce KX G ?a ?b ?c ?d ?e
   (case a=>k_is);(case b=>k_is);(case c=>first | k_is | kernel_rfl);(case d=>first | k_is | kernel_rfl);(case e=>first | k_is | kernel_rfl)
  have t_Beside:L2.ITxt (L2.KOf KX) mg "Beside":=by
   dsimp only [L2.KOf]
   refine' L2.Ce KX G ?a ?b ?c ?d ?e
   (case a=>k_is);(case b=>k_is);(case c=>first | k_is | kernel_rfl);(case d=>first | k_is | kernel_rfl);(case e=>first | k_is | kernel_rfl)
  have t_Ring:L2.ITxt (L2.KOf KX) mg "Ring":=by
   dsimp only [L2.KOf]
   refine' L2.Ce KX G ?a ?b ?c ?d ?e
   (case a=>k_is);(case b=>k_is);(case c=>first | k_is | kernel_rfl);(case d=>first | k_is | kernel_rfl);(case e=>first | k_is | kernel_rfl)
  have q_Blank:L2.Gz (L2.KOf KX) (L2.aF mg "Blank"):=by
   dsimp only [L2.KOf]
   refine' L2.wR KX G ?a ?b ?c
   (case a=>k_is);(case b=>first | k_is | kernel_rfl);(case c=>first | k_is | kernel_rfl)
  have q_One:L2.Gz (L2.KOf KX) (L2.aF mg "One"):=by
   dsimp only [L2.KOf]
   refine' L2.wR KX G ?a ?b ?c
   (case a=>k_is);(case b=>first | k_is | kernel_rfl);(case c=>first | k_is | kernel_rfl)
  have q_Over:L2.Gz (L2.KOf KX) (L2.aF mg "Over"):=by
   dsimp only [L2.KOf]
   refine' L2.wR KX G ?a ?b ?c
   (case a=>k_is);(case b=>first | k_is | kernel_rfl);(case c=>first | k_is | kernel_rfl)
  have q_Beside:L2.Gz (L2.KOf KX) (L2.aF mg "Beside"):=by
   dsimp only [L2.KOf]
   refine' L2.wR KX G ?a ?b ?c
   (case a=>k_is);(case b=>first | k_is | kernel_rfl);(case c=>first | k_is | kernel_rfl)
  have q_Ring:L2.Gz (L2.KOf KX) (L2.aF mg "Ring"):=by
   dsimp only [L2.KOf]
   refine' L2.wR KX G ?a ?b ?c
   (case a=>k_is);(case b=>first | k_is | kernel_rfl);(case c=>first | k_is | kernel_rfl)
  have u_Blank_Piece:L2.Sub (L2.KOf KX) mg "Blank" "Piece" true:=by
   dsimp only [L2.KOf]
   refine' L2.dZ KX G ?a ?b ?m ?o
   (case a=>k_is);(case b=>k_is);(case m=>k_is);(case o=>kernel_rfl)
  have u_Blank_Ring:L2.Sub (L2.KOf KX) mg "Blank" "Ring" false:=by
   dsimp only [L2.KOf]
   refine' L2.dZ KX G ?a ?b ?m ?o
   (case a=>k_is);(case b=>k_is);(case m=>k_is);(case o=>kernel_rfl)
  have u_One_Piece:L2.Sub (L2.KOf KX) mg "One" "Piece" true:=by
   dsimp only [L2.KOf]
   refine' L2.dZ KX G ?a ?b ?m ?o
   (case a=>k_is);(case b=>k_is);(case m=>k_is);(case o=>kernel_rfl)
  have u_One_Ring:L2.Sub (L2.KOf KX) mg "One" "Ring" false:=by
   dsimp only [L2.KOf]
   refine' L2.dZ KX G ?a ?b ?m ?o
   (case a=>k_is);(case b=>k_is);(case m=>k_is);(case o=>kernel_rfl)
  have u_Over_Piece:L2.Sub (L2.KOf KX) mg "Over" "Piece" true:=by
   dsimp only [L2.KOf]
   refine' L2.dZ KX G ?a ?b ?m ?o
   (case a=>k_is);(case b=>k_is);(case m=>k_is);(case o=>kernel_rfl)
  have u_Over_Ring:L2.Sub (L2.KOf KX) mg "Over" "Ring" false:=by
   dsimp only [L2.KOf]
   refine' L2.dZ KX G ?a ?b ?m ?o
   (case a=>k_is);(case b=>k_is);(case m=>k_is);(case o=>kernel_rfl)
  have u_Beside_Piece:L2.Sub (L2.KOf KX) mg "Beside" "Piece" true:=by
   dsimp only [L2.KOf]
   refine' L2.dZ KX G ?a ?b ?m ?o
   (case a=>k_is);(case b=>k_is);(case m=>k_is);(case o=>kernel_rfl)
  have u_Beside_Ring:L2.Sub (L2.KOf KX) mg "Beside" "Ring" false:=by
   dsimp only [L2.KOf]
   refine' L2.dZ KX G ?a ?b ?m ?o
   (case a=>k_is);(case b=>k_is);(case m=>k_is);(case o=>kernel_rfl)
  have u_Ring_Piece:L2.Sub (L2.KOf KX) mg "Ring" "Piece" true:=by
   dsimp only [L2.KOf]
   refine' L2.dZ KX G ?a ?b ?m ?o
   (case a=>k_is);(case b=>k_is);(case m=>k_is);(case o=>kernel_rfl)
  have u_Ring_Ring:L2.Sub (L2.KOf KX) mg "Ring" "Ring" true:=by
   dsimp only [L2.KOf]
   refine' L2.dZ KX G ?a ?b ?m ?o
   (case a=>k_is);(case b=>k_is);(case m=>k_is);(case o=>kernel_rfl)
  have w_Piece_str:PySem.W.kitOne (L2.KOf KX) (.type "str") (.ref (L2.aF mg "Piece"))=some false:=by
   dsimp only [L2.KOf]
   refine' L2.eV KX G ?a ?o
   (case a=>k_is);(case o=>kernel_rfl)
  have w_Piece_int:PySem.W.kitOne (L2.KOf KX) (.type "int") (.ref (L2.aF mg "Piece"))=some false:=by
   dsimp only [L2.KOf]
   refine' L2.eV KX G ?a ?o
   (case a=>k_is);(case o=>kernel_rfl)
  have w_Piece_list:PySem.W.kitOne (L2.KOf KX) (.type "list") (.ref (L2.aF mg "Piece"))=some false:=by
   dsimp only [L2.KOf]
   refine' L2.eV KX G ?a ?o
   (case a=>k_is);(case o=>kernel_rfl)
  have w_Piece_tuple:PySem.W.kitOne (L2.KOf KX) (.type "tuple") (.ref (L2.aF mg "Piece"))=some false:=by
   dsimp only [L2.KOf]
   refine' L2.eV KX G ?a ?o
   (case a=>k_is);(case o=>kernel_rfl)
  have w_Piece_NoneType:PySem.W.kitOne (L2.KOf KX) (.type "NoneType") (.ref (L2.aF mg "Piece"))=some false:=by
   dsimp only [L2.KOf]
   refine' L2.eV KX G ?a ?o
   (case a=>k_is);(case o=>kernel_rfl)
  have w_Piece_bool:PySem.W.kitOne (L2.KOf KX) (.type "bool") (.ref (L2.aF mg "Piece"))=some false:=by
   dsimp only [L2.KOf]
   refine' L2.eV KX G ?a ?o
   (case a=>k_is);(case o=>kernel_rfl)
  have w_Piece_dict:PySem.W.kitOne (L2.KOf KX) (.type "dict") (.ref (L2.aF mg "Piece"))=some false:=by
   dsimp only [L2.KOf]
   refine' L2.eV KX G ?a ?o
   (case a=>k_is);(case o=>kernel_rfl)
  have w_Ring_str:PySem.W.kitOne (L2.KOf KX) (.type "str") (.ref (L2.aF mg "Ring"))=some false:=by
   dsimp only [L2.KOf]
   refine' L2.eV KX G ?a ?o
   (case a=>k_is);(case o=>kernel_rfl)
  have w_Ring_int:PySem.W.kitOne (L2.KOf KX) (.type "int") (.ref (L2.aF mg "Ring"))=some false:=by
   dsimp only [L2.KOf]
   refine' L2.eV KX G ?a ?o
   (case a=>k_is);(case o=>kernel_rfl)
  have w_Ring_list:PySem.W.kitOne (L2.KOf KX) (.type "list") (.ref (L2.aF mg "Ring"))=some false:=by
   dsimp only [L2.KOf]
   refine' L2.eV KX G ?a ?o
   (case a=>k_is);(case o=>kernel_rfl)
  have w_Ring_tuple:PySem.W.kitOne (L2.KOf KX) (.type "tuple") (.ref (L2.aF mg "Ring"))=some false:=by
   dsimp only [L2.KOf]
   refine' L2.eV KX G ?a ?o
   (case a=>k_is);(case o=>kernel_rfl)
  have w_Ring_NoneType:PySem.W.kitOne (L2.KOf KX) (.type "NoneType") (.ref (L2.aF mg "Ring"))=some false:=by
   dsimp only [L2.KOf]
   refine' L2.eV KX G ?a ?o
   (case a=>k_is);(case o=>kernel_rfl)
  have w_Ring_bool:PySem.W.kitOne (L2.KOf KX) (.type "bool") (.ref (L2.aF mg "Ring"))=some false:=by
   dsimp only [L2.KOf]
   refine' L2.eV KX G ?a ?o
   (case a=>k_is);(case o=>kernel_rfl)
  have w_Ring_dict:PySem.W.kitOne (L2.KOf KX) (.type "dict") (.ref (L2.aF mg "Ring"))=some false:=by
   dsimp only [L2.KOf]
   refine' L2.eV KX G ?a ?o
   (case a=>k_is);(case o=>kernel_rfl)
  have m_Piece___init__:L2.Gu (L2.KOf KX) mg "Piece" "__init__" "Piece.__init__" My.gZ:=by
   dsimp only [L2.KOf]
   refine' L2.Yh KX G ?a ?s ?r ?i ?l ?c ?k
   (case a=>k_is);(case s=>first | k_is | kernel_rfl);(case r=>kernel_rfl);(case i=>first | k_is | kernel_rfl);(case l=>k_is);(case c=>k_is);(case k=>k_is)
  have m_Piece_side:L2.o6 (L2.KOf KX) mg ["Blank","One","Over","Beside","Ring"] "side" "Piece.side" My.oM:=by
   dsimp only [L2.KOf]
   refine' L2.wO KX G ?a1 ?a2 ?a3 ?a4 ?a5 ?i1 ?i2 ?i3 ?i4 ?i5 ?n ?l ?c ?k
   (case a1=>k_is);(case a2=>k_is);(case a3=>k_is);(case a4=>k_is);(case a5=>k_is);(case i1=>k_is);(case i2=>k_is);(case i3=>k_is);(case i4=>k_is);(case i5=>k_is);(case n=>first | k_is | kernel_rfl);(case l=>k_is);(case c=>k_is);(case k=>k_is)
  have m_Piece_top:L2.o6 (L2.KOf KX) mg ["Blank","One","Over","Beside","Ring"] "top" "Piece.top" My.qi:=by
   dsimp only [L2.KOf]
   refine' L2.wO KX G ?a1 ?a2 ?a3 ?a4 ?a5 ?i1 ?i2 ?i3 ?i4 ?i5 ?n ?l ?c ?k
   (case a1=>k_is);(case a2=>k_is);(case a3=>k_is);(case a4=>k_is);(case a5=>k_is);(case i1=>k_is);(case i2=>k_is);(case i3=>k_is);(case i4=>k_is);(case i5=>k_is);(case n=>first | k_is | kernel_rfl);(case l=>k_is);(case c=>k_is);(case k=>k_is)
  have m_Piece_kind:L2.o6 (L2.KOf KX) mg ["Blank","One","Over","Beside","Ring"] "kind" "Piece.kind" My.oN:=by
   dsimp only [L2.KOf]
   refine' L2.wO KX G ?a1 ?a2 ?a3 ?a4 ?a5 ?i1 ?i2 ?i3 ?i4 ?i5 ?n ?l ?c ?k
   (case a1=>k_is);(case a2=>k_is);(case a3=>k_is);(case a4=>k_is);(case a5=>k_is);(case i1=>k_is);(case i2=>k_is);(case i3=>k_is);(case i4=>k_is);(case i5=>k_is);(case n=>first | k_is | kernel_rfl);(case l=>k_is);(case c=>k_is);(case k=>k_is)
  have m_Piece_lines:L2.o6 (L2.KOf KX) mg ["Blank","One","Over","Beside","Ring"] "lines" "Piece.lines" My.mV:=by
   dsimp only [L2.KOf]
   refine' L2.wO KX G ?a1 ?a2 ?a3 ?a4 ?a5 ?i1 ?i2 ?i3 ?i4 ?i5 ?n ?l ?c ?k
   (case a1=>k_is);(case a2=>k_is);(case a3=>k_is);(case a4=>k_is);(case a5=>k_is);(case i1=>k_is);(case i2=>k_is);(case i3=>k_is);(case i4=>k_is);(case i5=>k_is);(case n=>first | k_is | kernel_rfl);(case l=>k_is);(case c=>k_is);(case k=>k_is)
  have m_Piece_height:L2.o6 (L2.KOf KX) mg ["Blank","One","Over","Beside","Ring"] "height" "Piece.height" My.lN:=by
   dsimp only [L2.KOf]
   refine' L2.wO KX G ?a1 ?a2 ?a3 ?a4 ?a5 ?i1 ?i2 ?i3 ?i4 ?i5 ?n ?l ?c ?k
   (case a1=>k_is);(case a2=>k_is);(case a3=>k_is);(case a4=>k_is);(case a5=>k_is);(case i1=>k_is);(case i2=>k_is);(case i3=>k_is);(case i4=>k_is);(case i5=>k_is);(case n=>first | k_is | kernel_rfl);(case l=>k_is);(case c=>k_is);(case k=>k_is)
  have m_Tally___init__:L2.jP (L2.KOf KX) mg "Tally" "__init__" "Tally.__init__" My.jA:=by
   dsimp only [L2.KOf]
   refine' L2.o5 KX G ?a ?i ?n ?l ?c ?k
   (case a=>k_is);(case i=>k_is);(case n=>first | k_is | kernel_rfl);(case l=>k_is);(case c=>k_is);(case k=>k_is)
  have m_Asks___init__:L2.jP (L2.KOf KX) mg "Asks" "__init__" "Asks.__init__" My.jU:=by
   dsimp only [L2.KOf]
   refine' L2.o5 KX G ?a ?i ?n ?l ?c ?k
   (case a=>k_is);(case i=>k_is);(case n=>first | k_is | kernel_rfl);(case l=>k_is);(case c=>k_is);(case k=>k_is)
  have m_Blank___init__:L2.jP (L2.KOf KX) mg "Blank" "__init__" "Blank.__init__" My.jB:=by
   dsimp only [L2.KOf]
   refine' L2.o5 KX G ?a ?i ?n ?l ?c ?k
   (case a=>k_is);(case i=>k_is);(case n=>first | k_is | kernel_rfl);(case l=>k_is);(case c=>k_is);(case k=>k_is)
  have m_One___init__:L2.jP (L2.KOf KX) mg "One" "__init__" "One.__init__" My.lO:=by
   dsimp only [L2.KOf]
   refine' L2.o5 KX G ?a ?i ?n ?l ?c ?k
   (case a=>k_is);(case i=>k_is);(case n=>first | k_is | kernel_rfl);(case l=>k_is);(case c=>k_is);(case k=>k_is)
  have m_Over___init__:L2.jP (L2.KOf KX) mg "Over" "__init__" "Over.__init__" My.jV:=by
   dsimp only [L2.KOf]
   refine' L2.o5 KX G ?a ?i ?n ?l ?c ?k
   (case a=>k_is);(case i=>k_is);(case n=>first | k_is | kernel_rfl);(case l=>k_is);(case c=>k_is);(case k=>k_is)
  have m_Beside___init__:L2.jP (L2.KOf KX) mg "Beside" "__init__" "Beside.__init__" My.jo:=by
   dsimp only [L2.KOf]
   refine' L2.o5 KX G ?a ?i ?n ?l ?c ?k
   (case a=>k_is);(case i=>k_is);(case n=>first | k_is | kernel_rfl);(case l=>k_is);(case c=>k_is);(case k=>k_is)
  have m_Ring___init__:L2.jP (L2.KOf KX) mg "Ring" "__init__" "Ring.__init__" My.jW:=by
   dsimp only [L2.KOf]
   refine' L2.o5 KX G ?a ?i ?n ?l ?c ?k
   (case a=>k_is);(case i=>k_is);(case n=>first | k_is | kernel_rfl);(case l=>k_is);(case c=>k_is);(case k=>k_is)
  have m_Ring_need_opening:L2.jP (L2.KOf KX) mg "Ring" "need_opening" "Ring.need_opening" My.iw:=by
   dsimp only [L2.KOf]
   refine' L2.o5 KX G ?a ?i ?n ?l ?c ?k
   (case a=>k_is);(case i=>k_is);(case n=>first | k_is | kernel_rfl);(case l=>k_is);(case c=>k_is);(case k=>k_is)
  have m_Ring_opening:L2.jP (L2.KOf KX) mg "Ring" "opening" "Ring.opening" My.lQ:=by
   dsimp only [L2.KOf]
   refine' L2.o5 KX G ?a ?i ?n ?l ?c ?k
   (case a=>k_is);(case i=>k_is);(case n=>first | k_is | kernel_rfl);(case l=>k_is);(case c=>k_is);(case k=>k_is)
  have m_Ring_openings:L2.jP (L2.KOf KX) mg "Ring" "openings" "Ring.openings" My.iD:=by
   dsimp only [L2.KOf]
   refine' L2.o5 KX G ?a ?i ?n ?l ?c ?k
   (case a=>k_is);(case i=>k_is);(case n=>first | k_is | kernel_rfl);(case l=>k_is);(case c=>k_is);(case k=>k_is)
  have m_Ring_is_same:L2.jP (L2.KOf KX) mg "Ring" "is_same" "Ring.is_same" My.lR:=by
   dsimp only [L2.KOf]
   refine' L2.o5 KX G ?a ?i ?n ?l ?c ?k
   (case a=>k_is);(case i=>k_is);(case n=>first | k_is | kernel_rfl);(case l=>k_is);(case c=>k_is);(case k=>k_is)
  have m_Ring_least:L2.jP (L2.KOf KX) mg "Ring" "least" "Ring.least" My.kY:=by
   dsimp only [L2.KOf]
   refine' L2.o5 KX G ?a ?i ?n ?l ?c ?k
   (case a=>k_is);(case i=>k_is);(case n=>first | k_is | kernel_rfl);(case l=>k_is);(case c=>k_is);(case k=>k_is)
  have u_NoPlain_PaneError:L2.Sub (L2.KOf KX) mg "NoPlain" "PaneError" true:=by
   dsimp only [L2.KOf]
   refine' L2.dZ KX G ?a ?b ?m ?o
   (case a=>k_is);(case b=>k_is);(case m=>k_is);(case o=>kernel_rfl)
  have u_NoPlain_NoPlain:L2.Sub (L2.KOf KX) mg "NoPlain" "NoPlain" true:=by
   dsimp only [L2.KOf]
   refine' L2.dZ KX G ?a ?b ?m ?o
   (case a=>k_is);(case b=>k_is);(case m=>k_is);(case o=>kernel_rfl)
  have u_NoPlain_NoPlace:L2.Sub (L2.KOf KX) mg "NoPlain" "NoPlace" false:=by
   dsimp only [L2.KOf]
   refine' L2.dZ KX G ?a ?b ?m ?o
   (case a=>k_is);(case b=>k_is);(case m=>k_is);(case o=>kernel_rfl)
  have u_NoPlain_NoPiece:L2.Sub (L2.KOf KX) mg "NoPlain" "NoPiece" false:=by
   dsimp only [L2.KOf]
   refine' L2.dZ KX G ?a ?b ?m ?o
   (case a=>k_is);(case b=>k_is);(case m=>k_is);(case o=>kernel_rfl)
  have u_NoPlace_PaneError:L2.Sub (L2.KOf KX) mg "NoPlace" "PaneError" true:=by
   dsimp only [L2.KOf]
   refine' L2.dZ KX G ?a ?b ?m ?o
   (case a=>k_is);(case b=>k_is);(case m=>k_is);(case o=>kernel_rfl)
  have u_NoPlace_NoPlain:L2.Sub (L2.KOf KX) mg "NoPlace" "NoPlain" false:=by
   dsimp only [L2.KOf]
   refine' L2.dZ KX G ?a ?b ?m ?o
   (case a=>k_is);(case b=>k_is);(case m=>k_is);(case o=>kernel_rfl)
  have u_NoPlace_NoPlace:L2.Sub (L2.KOf KX) mg "NoPlace" "NoPlace" true:=by
   dsimp only [L2.KOf]
   refine' L2.dZ KX G ?a ?b ?m ?o
   (case a=>k_is);(case b=>k_is);(case m=>k_is);(case o=>kernel_rfl)
  have u_NoPlace_NoPiece:L2.Sub (L2.KOf KX) mg "NoPlace" "NoPiece" false:=by
   dsimp only [L2.KOf]
   refine' L2.dZ KX G ?a ?b ?m ?o
   (case a=>k_is);(case b=>k_is);(case m=>k_is);(case o=>kernel_rfl)
  have u_NoPiece_PaneError:L2.Sub (L2.KOf KX) mg "NoPiece" "PaneError" true:=by
   dsimp only [L2.KOf]
   refine' L2.dZ KX G ?a ?b ?m ?o
   (case a=>k_is);(case b=>k_is);(case m=>k_is);(case o=>kernel_rfl)
  have u_NoPiece_NoPlain:L2.Sub (L2.KOf KX) mg "NoPiece" "NoPlain" false:=by
   dsimp only [L2.KOf]
   refine' L2.dZ KX G ?a ?b ?m ?o
   (case a=>k_is);(case b=>k_is);(case m=>k_is);(case o=>kernel_rfl)
  have u_NoPiece_NoPlace:L2.Sub (L2.KOf KX) mg "NoPiece" "NoPlace" false:=by
   dsimp only [L2.KOf]
   refine' L2.dZ KX G ?a ?b ?m ?o
   (case a=>k_is);(case b=>k_is);(case m=>k_is);(case o=>kernel_rfl)
  have u_NoPiece_NoPiece:L2.Sub (L2.KOf KX) mg "NoPiece" "NoPiece" true:=by
   dsimp only [L2.KOf]
   refine' L2.dZ KX G ?a ?b ?m ?o
   (case a=>k_is);(case b=>k_is);(case m=>k_is);(case o=>kernel_rfl)
  have v_NoPlain:PySem.W.kitOne (L2.KOf KX) (.ref (L2.aF mg "NoPlain")) (.type "ValueError")=some true:=by
   dsimp only [L2.KOf]
   refine' L2.zU KX G ?a ?o
   (case a=>k_is);(case o=>kernel_rfl)
  have v_NoPlace:PySem.W.kitOne (L2.KOf KX) (.ref (L2.aF mg "NoPlace")) (.type "ValueError")=some true:=by
   dsimp only [L2.KOf]
   refine' L2.zU KX G ?a ?o
   (case a=>k_is);(case o=>kernel_rfl)
  have v_NoPiece:PySem.W.kitOne (L2.KOf KX) (.ref (L2.aF mg "NoPiece")) (.type "ValueError")=some true:=by
   dsimp only [L2.KOf]
   refine' L2.zU KX G ?a ?o
   (case a=>k_is);(case o=>kernel_rfl)
  exact ⟨d_law,fun base f fd F=>My.Ws ⟨b_ValueError,b_all,b_bool,b_enumerate,b_int,b_isinstance,b_len,b_list,b_max,b_min,b_range,b_reversed,b_str,b_tuple,c_LETTERS,c_MOST_LETTERS,c_MOST_LINES,c_MOST_SIGNS,c_POINT,d_is_number,d_is_within,d_is_letter,d_is_sign,d_need_place,d_need_sign,d_is_row,d_is_plain,d_need_row,d_need_rows,d_need_plain,d_is_turning,d_need_turning,d_straight,d_opposite,d_counts,d_do_steps,d_steps_of,d_need_alike,d_laid,d_need_pieces,d_need_same,d_need_short,d_lines_over,d_lines_beside,d_all_beside,d_all_over,d_balanced,d_law_cell_at,d_law_great,d_law_letter,d_law_row,d_law_round,d_law_openings,d_law_place,d_law_no_place,d_law_no_piece,d_law_no_plain,d_law_other,d_law_told,d_law_alike,d_law,x_PaneError,x_NoRow,x_NoPlain,x_NoLetter,x_NoPlace,x_NoTurning,x_NoPiece,x_Unlike,x_TooLong,o_Tally,n_Tally,o_Asks,n_Asks,o_Piece,n_Piece,o_Blank,n_Blank,o_One,n_One,o_Over,n_Over,o_Beside,n_Beside,o_Ring,n_Ring,os_Piece,t_Blank,t_One,t_Over,t_Beside,t_Ring,q_Blank,q_One,q_Over,q_Beside,q_Ring,u_Blank_Piece,u_Blank_Ring,u_One_Piece,u_One_Ring,u_Over_Piece,u_Over_Ring,u_Beside_Piece,u_Beside_Ring,u_Ring_Piece,u_Ring_Ring,w_Piece_str,w_Piece_int,w_Piece_list,w_Piece_tuple,w_Piece_NoneType,w_Piece_bool,w_Piece_dict,w_Ring_str,w_Ring_int,w_Ring_list,w_Ring_tuple,w_Ring_NoneType,w_Ring_bool,w_Ring_dict,m_Piece___init__,m_Piece_side,m_Piece_top,m_Piece_kind,m_Piece_lines,m_Piece_height,m_Tally___init__,m_Asks___init__,m_Blank___init__,m_One___init__,m_Over___init__,m_Beside___init__,m_Ring___init__,m_Ring_need_opening,m_Ring_opening,m_Ring_openings,m_Ring_is_same,m_Ring_least,u_NoPlain_PaneError,u_NoPlain_NoPlain,u_NoPlain_NoPlace,u_NoPlain_NoPiece,u_NoPlace_PaneError,u_NoPlace_NoPlain,u_NoPlace_NoPlace,u_NoPlace_NoPiece,u_NoPiece_PaneError,u_NoPiece_NoPlain,u_NoPiece_NoPlace,u_NoPiece_NoPiece,v_NoPlain,v_NoPlace,v_NoPiece⟩ F⟩
