import PyProof.Rows.All
import Wide.All
import OpenK.AllK
import Wide.FinOn
import Lean
import PyProof.EqAt
import PyProof.EqKinds
import PyProof.TupleCall
import PyProof.ReprRoads
import KE.KSortTup
import KE.KDictList
import KE.KMinKey
import KE.KIntText
import PySem.Challenge.RW_panethread_k69_forged_lists_and_news
noncomputable section
abbrev YK:=@PySem.wpAny_bind
abbrev YL:=@List.getElem?_eq_getElem
abbrev YM:=@PySem.wpAny_pure
abbrev YQ:=@List.length_map
abbrev YS:=@List.getElem?_eq_some_iff
abbrev YT:=@PySem.Heap.get?_push_of_some
abbrev YW:=@Nat.le_refl
abbrev YX:=@List.length_append
abbrev YZ:=@decide_eq_true
abbrev Y0:=@List.getD_eq_getElem?_getD
abbrev Y4:=@Bool.false_ne_true
abbrev Y5:=@decide_eq_false
abbrev Y6:=@PySem.Heap.get?_push_size
abbrev Y7:=@PySem.Heap.lt_size
abbrev Y8:=@List.mem_append
abbrev Y9:=@List.size_toArray
abbrev Za:=@List.mem_append_right
abbrev Zb:=@List.length_take
abbrev Zc:=@List.mem_cons_of_mem
abbrev Zd:=@List.mem_map
abbrev Ze:=@List.getElem?_map
abbrev Zf:=@List.getElem?_append_right
abbrev Zg:=@List.mem_cons
abbrev Zh:=@List.mem_iff_getElem
abbrev Zi:=@Nat.lt_of_lt_of_le
abbrev Zj:=@List.mem_cons_self
abbrev Zk:=@Array.getElem?_eq_some_iff
abbrev Zm:=@Bool.and_eq_true
abbrev Zn:=@Option.some.inj
abbrev Zo:=@List.lookup_cons
abbrev Zq:=@of_decide_eq_true
abbrev Zr:=@List.mem_of_getElem?
abbrev Zt:=@List.append_nil
abbrev Zu:=@List.pairwise_append
abbrev Zv:=@List.getElem?_append_left
abbrev Zw:=@List.map_append
abbrev Zx:=@Array.toList_append
abbrev Zy:=@List.mem_append_left
abbrev Zz:=@PySem.wpAny_holding
abbrev ZC:=@List.take_length
abbrev ZD:=@List.getElem?_take_of_lt
abbrev ZF:=@List.append_assoc
abbrev ZG:=@Nat.ne_of_lt
abbrev ZJ:=@List.map_cons
abbrev ZK:=@List.mem_singleton
abbrev ZL:=@List.map_map
abbrev ZM:=@List.all_eq_true
abbrev ZP:=@PySem.wpAny_mono
abbrev ZQ:=@List.drop_eq_getElem_cons
abbrev ZR:=@Bool.false_eq_true
abbrev ZS:=@PySem.PassesOwn.never
abbrev ZV:=@List.take_of_length_le
abbrev ZW:=@List.length_cons
abbrev ZX:=@PySem.wpAny_newObj_type
abbrev Z0:=@List.take_add_one
abbrev Z1:=@List.length_nil
abbrev Z2:=@PySem.mem_of_lookup
abbrev Z3:=@PySem.W.mg_none_of
abbrev Z4:=@PySem.wpAny_truthy_bool
abbrev Z5:=@Int.le_trans
abbrev Z6:=@PyProof.Rows.wpS_forRange
abbrev Z7:=@List.all_cons
abbrev Z8:=@of_decide_eq_false
abbrev Z9:=@getElem?_pos
abbrev gV:=@PySem.W.kia_one
abbrev Aaa:=@List.getElem_mem
abbrev Aab:=@List.map_congr_left
abbrev Aac:=@Int.toNat_of_nonneg
abbrev Aad:=@Array.getElem?_toList
abbrev Aae:=@PySem.wpAny_callSpecial?_slot
abbrev Aaf:=@PySem.F.plainAttrs_list
abbrev Aag:=@PySem.wpAny_call_entry
abbrev Aah:=@beq_eq_false_iff_ne
abbrev Aai:=@Array.length_toList
abbrev Aaj:=@Nat.zero_le
abbrev Aak:=@PySem.wpAny_loadPart_at
abbrev Aal:=@Nat.lt_irrefl
abbrev Aam:=@PySem.F.slot_dict_itemiterator_next
abbrev Aan:=@Nat.le_trans
abbrev Aao:=@Nat.lt_of_le_of_lt
abbrev Aap:=@PySem.F.slot_dict_keyiterator_next
abbrev Aaq:=@Int.emod_lt_of_pos
abbrev Aar:=@PySem.Heap.get?_update_other
abbrev Aas:=@List.replicate_succ
abbrev Aat:=@List.length_set
abbrev Aau:=@List.nil_append
abbrev Aav:=@PyProof.Rows.slot_tuple_getitem
abbrev Aaw:=@PySem.Heap.get?_update_self
abbrev Aax:=@List.length_drop
abbrev Aay:=@List.mem_nil_iff
abbrev Aaz:=@Nat.le_add_right
abbrev AaA:=@PySem.wpAny_typeNameOfWhole_itemiter
abbrev AaB:=@Bool.true_and
abbrev AaC:=@PySem.F.slot_list_append
abbrev AaD:=@PySem.F.type_list_append
abbrev AaE:=@List.mem_range
abbrev AaF:=@Bool.false_and
abbrev AaG:=@PySem.W.looks_findIn
abbrev AaH:=@PySem.codeAny_call_builtin
abbrev AaI:=@PySem.wpAny_loadPart
abbrev AaJ:=@Std.Legacy.Range.forIn_eq_forIn_range'
abbrev AaK:=@List.mem_of_mem_take
abbrev AaL:=@Array.toList_reverse
abbrev AaM:=@PySem.wpAny_typeNameOfWhole_keyiter
abbrev AaN:=@PySem.wpAny_dictEntries
abbrev AaO:=@Int.emod_nonneg
abbrev AaP:=@List.all_map
abbrev AaQ:=@PySem.wpAny_field
abbrev AaR:=@List.mem_reverse
abbrev AaS:=@PySem.Heap.size_push
abbrev AaT:=@List.drop_zero
abbrev AaU:=@PySem.wpAny_fieldsOf
abbrev AaV:=@List.pairwise_iff_getElem
abbrev AaW:=@PySem.wpAny_typeNameOf_itemiter
abbrev AaX:=@List.nodup_cons
abbrev AaY:=@PySem.SeqAt.EqAt.same
abbrev AaZ:=@List.getElem?_set_ne
abbrev Aa0:=@List.take_sublist
abbrev Aa1:=@List.flatten_cons
abbrev Aa2:=@Nat.le_of_succ_le
abbrev Aa3:=@Int.le_refl
abbrev Aa4:=@List.drop_sublist
abbrev Aa5:=@List.mem_of_mem_drop
abbrev Aa6:=@beq_iff_eq
abbrev Aa7:=@PySem.wpAny_attempt
abbrev Aa8:=@PyProof.Rows.wpS_modify
abbrev Aa9:=@PySem.wpAny_typeNameOf_keyiter
abbrev Aba:=@PySem.wpAny_isSubtype_exc
abbrev Abb:=@PySem.wpAny_getItem_str_slice
abbrev Abd:=@beq_self_eq_true
abbrev Abe:=@List.pairwise_singleton
abbrev Abf:=@List.take_zero
abbrev Abg:=@List.getElem?_set_self
abbrev Abh:=@Nat.ne_of_gt
abbrev Abi:=@PySem.wpAny_call
abbrev Abj:=@PySem.wpAny_Call_Name_kw
abbrev Abk:=@List.zip_cons_cons
abbrev Abl:=@List.map_nil
abbrev Abm:=@PySem.tupleKind_room_in1
abbrev Abn:=@List.Perm.append_right
abbrev Abo:=@Int.lt_of_le_of_lt
abbrev Abp:=@PySem.wpAny_isOneOf_itemiter
abbrev Abq:=@PySem.wpAny_setField_rec
abbrev Abr:=@List.find?_cons
abbrev Abs:=@PySem.wpAny_dictEpoch
abbrev Abt:=@List.cons.injEq
abbrev Abu:=@PySem.W.mg_of
abbrev Abv:=@List.take_append_drop
abbrev Abw:=@List.Perm.append_left
abbrev Abx:=@List.perm_append_comm
abbrev Aby:=@Int.toNat_natCast
abbrev Abz:=@Array.toList_push
abbrev AbA:=@PySem.wpAny_setField
abbrev AbB:=@Int.le_of_lt
abbrev AbC:=@Nat.zero_add
abbrev AbD:=@Int.zero_add
abbrev AbE:=@PySem.wpAny_standAt
local macro_rules | `(tactic| trivial) => `(tactic| decide +kernel)
set_option compiler.extract_closed false
set_option Elab.async false
set_option linter.all false
set_option maxRecDepth 100000
namespace L2
@[elab_as_elim] theorem sH {p:List PySem.Value->Prop} (h:∀ a0:PySem.Value,p [a0]) (us:List PySem.Value) (hl:us.length=1):p us:=by
 rcases us with _ | ⟨a0,us0⟩
 ·cases hl
 rcases us0 with _ | ⟨b,us⟩
 ·exact h a0
 ·cases hl
@[elab_as_elim] theorem mV {p:List PySem.Value->Prop} (h:∀ a0 a1:PySem.Value,p [a0,a1]) (us:List PySem.Value) (hl:us.length=2):p us:=by
 rcases us with _ | ⟨a0,us0⟩
 ·cases hl
 rcases us0 with _ | ⟨a1,us1⟩
 ·cases hl
 rcases us1 with _ | ⟨b,us⟩
 ·exact h a0 a1
 ·cases hl
@[elab_as_elim] theorem zr {p:List PySem.Value->Prop} (h:∀ a0 a1 a2:PySem.Value,p [a0,a1,a2]) (us:List PySem.Value) (hl:us.length=3):p us:=by
 rcases us with _ | ⟨a0,us0⟩
 ·cases hl
 rcases us0 with _ | ⟨a1,us1⟩
 ·cases hl
 rcases us1 with _ | ⟨a2,us2⟩
 ·cases hl
 rcases us2 with _ | ⟨b,us⟩
 ·exact h a0 a1 a2
 ·cases hl
@[elab_as_elim] theorem usN6 {p:List PySem.Value->Prop} (h:∀ a0 a1 a2 a3 a4 a5:PySem.Value,p [a0,a1,a2,a3,a4,a5]) (us:List PySem.Value) (hl:us.length=6):p us:=by
 rcases us with _ | ⟨a0,us0⟩
 ·cases hl
 rcases us0 with _ | ⟨a1,us1⟩
 ·cases hl
 rcases us1 with _ | ⟨a2,us2⟩
 ·cases hl
 rcases us2 with _ | ⟨a3,us3⟩
 ·cases hl
 rcases us3 with _ | ⟨a4,us4⟩
 ·cases hl
 rcases us4 with _ | ⟨a5,us5⟩
 ·cases hl
 rcases us5 with _ | ⟨b,us⟩
 ·exact h a0 a1 a2 a3 a4 a5
 ·cases hl
theorem auto1 (h:True:=by first | exact .inl rfl | exact .inr rfl | assumption):True:=h
theorem auto2 (h:True:=by decide):True:=h
theorem auto3 (h:True:=by intro _;rfl):True:=h
theorem auto4 (h:True:=by rfl):True:=h
theorem auto5 (h:True:=by with_unfolding_all rfl):True:=h
theorem auto6 (h:True:=by trivial):True:=h
open PySem PySem.Spec PyProof.Rows
abbrev Key:=Sum Int Str
def vY:Key->Value->Bool
 | .inl k,v=>Value.isInt k v
 | .inr x,v=>Value.isStrOf x v
def keyH (w:World):Key->Int
 | .inl k=>hashInt k
 | .inr x=>hashStr w x
theorem dh:∀ {k:Key} {v:Value},vY k v=true->(∃ i t,k=Sum.inl i/\v=Value.int i t)\/(∃ x t,k=Sum.inr x/\v=Value.str x t)
 | .inl i,v,h=>by
  obtain ⟨t,e⟩:=Value.isInt_shape (k:=i) (v:=v) h
  exact .inl ⟨i,t,rfl,e⟩
 | .inr x,v,h=>by
  obtain ⟨t,e⟩:=Value.isStrOf_shape (x:=x) (v:=v) h
  exact .inr ⟨x,t,rfl,e⟩
theorem Cz (i:Int) (t:Tok):vY (.inl i) (.int i t)=true:=by simp [vY,Value.isInt]
theorem CG (x:Str) (t:Tok):vY (.inr x) (.str x t)=true:=by simp [vY,Value.isStrOf]
theorem PX (a b:Int):decide ((Sum.inl a:Key)=Sum.inl b)=(a == b):=by
 by_cases e:a=b
 ·subst e;simp
 ·have h:¬ (Sum.inl a:Key)=Sum.inl b:=fun q=>e (Sum.inl.inj q)
  rw [Y5 h]
  exact (Aah.mpr e).symm
theorem P0 (a b:Str):decide ((Sum.inr a:Key)=Sum.inr b)=decide (a=b):=by
 by_cases e:a=b
 ·subst e;simp
 ·have h:¬ (Sum.inr a:Key)=Sum.inr b:=fun q=>e (Sum.inr.inj q)
  rw [Y5 h,Y5 e]
theorem Qa (a:Int) (b:Str):decide ((Sum.inl a:Key)=Sum.inr b)=false:=Y5 (fun q=>nomatch q)
theorem Qc (a:Str) (b:Int):decide ((Sum.inr a:Key)=Sum.inl b)=false:=Y5 (fun q=>nomatch q)
def b8 (prog:Program) (w:World):PySem.KeyKind prog w Key where
 is:=vY
 hash:=keyH w
 inj:=fun v a b ha hb=>by
  rcases dh ha with ⟨i,t,rfl,rfl⟩ | ⟨x,t,rfl,rfl⟩
  ·rcases dh hb with ⟨j,u,rfl,e⟩ | ⟨y,u,rfl,e⟩
   ·injection e with e1 _;rw [e1]
   ·exact nomatch e
  ·rcases dh hb with ⟨j,u,rfl,e⟩ | ⟨y,u,rfl,e⟩
   ·exact nomatch e
   ·injection e with e1 _;rw [e1]
 byValue:=fun k v h=>by
  rcases dh h with ⟨i,t,rfl,rfl⟩ | ⟨x,t,rfl,rfl⟩ <;> rfl
 pyHash:=fun hv h=>by
  rcases dh hv with ⟨i,t,rfl,rfl⟩ | ⟨x,t,rfl,rfl⟩
  ·exact wpAny_pyHash_int h
  ·exact wpAny_pyHash_str h
 eqBool:=fun hu hv h=>by
  rcases dh hu with ⟨i,t,rfl,rfl⟩ | ⟨x,t,rfl,rfl⟩
  ·rcases dh hv with ⟨j,u,rfl,rfl⟩ | ⟨y,u,rfl,rfl⟩
   ·rw [PX] at h;exact wpAny_eqBool_int h
   ·rw [Qa] at h;exact SeqAt.EqAt.int_str i t y u _ _ _ _ h
  ·rcases dh hv with ⟨j,u,rfl,rfl⟩ | ⟨y,u,rfl,rfl⟩
   ·rw [Qc] at h;exact SeqAt.EqAt.str_int x t j u _ _ _ _ h
   ·rw [P0] at h;exact wpAny_eqBool_str h
 «strs»:=fun k x t v h=>by
  rcases dh h with ⟨i,u,rfl,e⟩ | ⟨y,u,rfl,e⟩
  ·exact nomatch e
  ·injection e with e1 _
   subst e1
   cases v <;> rfl
theorem yg (prog:Program) (w:World) (i:Int) (t:Tok):(b8 prog w).is (.inl i) (.int i t)=true:=Cz i t
theorem yh (prog:Program) (w:World) (x:Str) (t:Tok):(b8 prog w).is (.inr x) (.str x t)=true:=CG x t
end L2
namespace L2
open PySem PySem.Spec PyProof.Rows
inductive V where
 | non | bl (b:Bool) | int (i:Int) | str (x:Str) | byt (b:Array UInt8) | flt (b:UInt64) | ref (a:Addr) | ty (n:String)
 deriving DecidableEq
def RelV:V->Value->Prop
 | .non,u=>u=Value.none
 | .bl b,u=>u=Value.bool b
 | .int i,u=>∃ t,u=Value.int i t
 | .str x,u=>∃ t,u=Value.str x t
 | .byt b,u=>∃ t,u=Value.bytes b t
 | .flt b,u=>∃ t,u=Value.float b t
 | .ref a,u=>u=Value.ref a
 | .ty n,u=>u=Value.type n
abbrev Vals:List V->List Value->Prop:=Paired RelV
theorem Vals.length {xs:List V} {us:List Value} (r:Vals xs us):xs.length=us.length:=Paired.length r
theorem Vals.get:∀ {xs:List V} {us:List Value} {i:Nat} {x:V},Vals xs us->xs[i]?=some x->∃ u,us[i]?=some u/\RelV x u
 | _,_,_,_,.nil,e=>by simp at e
 | _,_,0,_,.cons r _,e=>by simp at e;subst e;exact ⟨_,rfl,r⟩
 | _,_,i+1,x,.cons _ t,e=>by
  obtain ⟨u,h1,h2⟩:=Vals.get (i:=i) (x:=x) t (by simpa using e)
  exact ⟨u,by simpa using h1,h2⟩
theorem Vals.set {x:V} {u:Value} (r:RelV x u):∀ {xs:List V} {us:List Value} (i:Nat),Vals xs us->Vals (xs.set i x) (us.set i u)
 | _,_,_,.nil=>.nil
 | _,_,0,.cons _ t=>.cons r t
 | _,_,i+1,.cons q t=>.cons q (Vals.set r i t)
theorem Vals.append:∀ {xs ys:List V} {us ws:List Value},Vals xs us->Vals ys ws->Vals (xs ++ ys) (us ++ ws)
 | _,_,_,_,.nil,s=>s
 | _,_,_,_,.cons r t,s=>.cons r (Vals.append t s)
theorem Vals.take:∀ {xs:List V} {us:List Value} (n:Nat),Vals xs us->Vals (xs.take n) (us.take n)
 | _,_,0,_=>.nil
 | _,_,_+1,.nil=>.nil
 | _,_,n+1,.cons r t=>.cons r (Vals.take n t)
theorem Vals.drop:∀ {xs:List V} {us:List Value} (n:Nat),Vals xs us->Vals (xs.drop n) (us.drop n)
 | _,_,0,r=>r
 | _,_,_+1,.nil=>.nil
 | _,_,n+1,.cons _ t=>Vals.drop n t
def RelO:Option V->Option Value->Prop
 | some v,some u=>RelV v u
 | none,none=>True
 | _,_=>False
def KV {κ:Type}:List (κ×V)->List (κ×Value)->Prop:=Paired fun (p:κ×V) (q:κ×Value)=>p.1=q.1/\RelV p.2 q.2
def kV:Key->V
 | .inl i=>.int i
 | .inr x=>.str x
inductive HO where
 /-- a list -/
 | lst (xs:List V)
 /-- a tuple (never changes) -/
 | tup (xs:List V)
 /-- a dict whose keys are ints and texts;one whose keys are tuples of ints and texts (the empty one is both) -/
 | dK (kvs:List (Key×V)) | dT (kvs:List (List Key×V))
 /-- a set of ints:its members,its size -/
 | set (S:Int->Bool) (n:Nat)
 /-- an instance of the class at C,its dict at dx,its attributes -/
 | ins (C dx:Addr) (fs:List (Str×V))
 /-- the dict of the instance at x -/
 | own (x:Addr)
 /-- the dict of an exception -/
 | xd (fs:List (Str×V))
 /-- a bound method,f of x -/
 | met (f x:Addr)
 /-- a range object lo,lo+1,.. below hi -/
 | rng (lo hi:Int)
 /-- a thing that is known to the object (the script;a dict while a loop walks it):read,never written while it is so -/
 | frz (o:Obj) (u:HO)
 /-- a code object's table -/
 | tbl (ps:Array Value)
 /-- any other thing,by what is true of its one object (a def of one's own:SetO a S n:=HO.ext fun h=>..) -/
 | ext (φ:Heap->Prop)
abbrev Hp:=Addr->Option HO
def upd (H:Hp) (a:Addr) (o:HO):Hp:=fun b=>if b=a then some o else H b
theorem ao {H:Hp} {a:Addr} {o:HO}:upd H a o a=some o:=by unfold upd;rw [if_pos rfl]
theorem aC {H:Hp} {a b:Addr} {o:HO} (h:b≠a):upd H a o b=H b:=by unfold upd;rw [if_neg h]
theorem Vc {H:Hp} {a b:Addr} {o u:HO} (h:H a=some o) (h':H b=some u) (d:o≠u):a≠b:=by
 intro e;subst e;rw [h] at h';exact d (Zn h')
theorem jj {H:Hp} {a b:Addr} {o:HO} (h:H a=some o) (h':H b=none):a≠b:=by
 intro e;subst e;rw [h] at h';cases h'
section
variable (P:Program) (w:World)
def ObjOk (H:Hp) (h:Heap) (a:Addr):HO->Prop
 | .lst xs=>xs.length<=sizeLine/\∃ (its:List Value) (n:Nat),Vals xs its/\h.get? a=some {cls:=.type "list",data:=.seq its.toArray n}
 | .tup xs=>xs.length<=sizeLine/\∃ its:List Value,Vals xs its/\IsTup h a its.toArray
 | .dK kvs=>kvs.length<=sizeLine/\(a == sysModules)=false/\∃ vs,KV kvs vs/\h.DictOf (b8 P w) a vs
 | .dT kvs=>kvs.length<=sizeLine/\(a == sysModules)=false/\∃ xs:List (List Key×Addr×Value),
   Paired (fun (p:List Key×V) (q:List Key×Addr×Value)=>p.1=q.1/\H q.2.1=some (.tup (p.1.map kV))/\RelV p.2 q.2.2) kvs xs/\
   ∃ o es ep,h.get? a=some o/\o.ExactDict/\o.data= .dict es ep/\es.toList=xs.map (entryOfKey (tupleKind (b8 P w)))/\(xs.map (·.1)).Nodup
 | .set S n=>h.SetOf (intKind P w) a S n
 | .ins C dx fs=>H dx=some (.own a)/\fs.length<=1000/\dx≠a/\h.get? a=some (PySem.W.instObj C dx)/\
   ∃ mA,h.Ns1 dx mA/\(∀ f,RelO (fs.lookup f) (mA f))/\PySem.Within mA (fs.map (·.1))
 | .own _=>∃ o,h.get? a=some o
 | .xd fs=>∃ mA,h.Ns1 a mA/\∀ f,RelO (fs.lookup f) (mA f)
 | .rng lo hi=>∃ t u v,h.get? a=some {cls:=.type "range",data:=.fields #[.int lo t,.int hi u,.int 1 v]}
 | .frz o u=>h.get? a=some o/\ObjOk H h a u
 | .tbl ps=>h.get? a=some {cls:=.none,data:=.fields ps}
 | .met f x=>h.get? a=some (PySem.W.methodObj (.ref f) (.ref x))
 | .ext φ=>φ h/\(∃ o,h.get? a=some o)/\∀ h1 h2:Heap,φ h1->(∀ o,h1.get? a=some o->h2.get? a=some o)->φ h2
def HOk (H:Hp) (h:Heap):Prop:=∀ a o,H a=some o->ObjOk P w H h a o
end
section
variable {P:Program} {w:World} {H H':Hp} {h h':Heap} {a:Addr} {o:HO}
theorem ObjOk.lt (x:ObjOk P w H h a o):a < h.objs.size:=by
 cases o with
 | lst xs=>obtain ⟨_,_,_,_,e⟩:=x;exact Y7 e
 | tup xs=>obtain ⟨_,_,_,p⟩:=x;exact p.lt
 | dK kvs=>obtain ⟨_,_,_,_,o,_,_,e,_⟩:=x;exact Y7 e
 | dT kvs=>obtain ⟨_,_,_,_,o,_,_,e,_⟩:=x;exact Y7 e
 | set S n=>obtain ⟨o,_,_,_,e,_⟩:=x;exact Y7 e
 | ins C dx fs=>obtain ⟨_,_,_,e,_⟩:=x;exact Y7 e
 | own y=>obtain ⟨_,e⟩:=x;exact Y7 e
 | xd fs=>obtain ⟨_,⟨_,_,_,e,_⟩,_⟩:=x;exact Y7 e
 | rng lo hi=>obtain ⟨_,_,_,e⟩:=x;exact Y7 e
 | frz ob u=>obtain ⟨e,_⟩:=x;exact Y7 e
 | tbl ps=>exact Y7 (show h.get? a=some _ from x)
 | met f y=>exact Y7 (show h.get? a=some _ from x)
 | ext φ=>obtain ⟨_,⟨_,e⟩,_⟩:=x;exact Y7 e
theorem Paired.mapP {α β:Type} {F G:α->β->Prop}:∀ {l₁:List α} {l₂:List β},Paired F l₁ l₂->(∀ a b,F a b->G a b)->Paired G l₁ l₂
 | _,_,.nil,_=>.nil
 | _,_,.cons r t,f=>.cons (f _ _ r) (Paired.mapP t f)
theorem ObjOk.stay (x:ObjOk P w H h a o) (k:∀ b u,(b=a\/H b=some (.own a))->h.get? b=some u->h'.get? b=some u)
  (ho:∀ b,H b=some (.own a)->H' b=some (.own a)) (ht:∀ b xs,H b=some (.tup xs)->H' b=some (.tup xs)):ObjOk P w H' h' a o:=by
 induction o with
 | lst xs=>obtain ⟨z,its,n,r,e⟩:=x;exact ⟨z,its,n,r,k _ _ (.inl rfl) e⟩
 | tup xs=>obtain ⟨z,its,r,ob,e,c⟩:=x;exact ⟨z,its,r,ob,k _ _ (.inl rfl) e,c⟩
 | dK kvs=>obtain ⟨z,y,vs,r,ob,es,ep,e,c⟩:=x;exact ⟨z,y,vs,r,ob,es,ep,k _ _ (.inl rfl) e,c⟩
 | dT kvs=>
  obtain ⟨z,y,xs,r,ob,es,ep,e,c⟩:=x
  exact ⟨z,y,xs,Paired.mapP r fun p q z=>⟨z.1,ht _ _ z.2.1,z.2.2⟩,ob,es,ep,k _ _ (.inl rfl) e,c⟩
 | set S n=>obtain ⟨ob,es,ep,t,e,c⟩:=x;exact ⟨ob,es,ep,t,k _ _ (.inl rfl) e,c⟩
 | ins C dx fs=>
  obtain ⟨d,z,ne,e,mA,⟨od,es,ep,e2,c⟩,r⟩:=x
  exact ⟨ho _ d,z,ne,k _ _ (.inl rfl) e,mA,⟨od,es,ep,k _ _ (.inr d) e2,c⟩,r⟩
 | own y=>obtain ⟨ob,e⟩:=x;exact ⟨ob,k _ _ (.inl rfl) e⟩
 | xd fs=>obtain ⟨mA,⟨od,es,ep,e,c⟩,r⟩:=x;exact ⟨mA,⟨od,es,ep,k _ _ (.inl rfl) e,c⟩,r⟩
 | rng lo hi=>obtain ⟨t,u,v,e⟩:=x;exact ⟨t,u,v,k _ _ (.inl rfl) e⟩
 | frz ob u ih=>obtain ⟨e,q⟩:=x;exact ⟨k _ _ (.inl rfl) e,ih q⟩
 | tbl ps=>
  have e:h.get? a=some {cls:=.none,data:=.fields ps}:=x
  show h'.get? a=some {cls:=.none,data:=.fields ps}
  exact k a _ (.inl rfl) e
 | met f y=>
  have e:h.get? a=some (PySem.W.methodObj (.ref f) (.ref y)):=x
  show h'.get? a=some (PySem.W.methodObj (.ref f) (.ref y))
  exact k a _ (.inl rfl) e
 | ext φ=>obtain ⟨p,⟨o,e⟩,st⟩:=x;exact ⟨st _ _ p fun o q=>k _ _ (.inl rfl) q,⟨o,k _ _ (.inl rfl) e⟩,st⟩
theorem HOk.lt (x:HOk P w H h) (e:H a=some o):a < h.objs.size:=(x a o e).lt
theorem HOk.fresh (x:HOk P w H h) (e:h.objs.size<=a):H a=none:=by
 cases q:H a with
 | none=>rfl
 | some u=>exact absurd (Zi (x.lt q) e) (Aal _)
theorem HOk.kept (x:HOk P w H h) (k:∀ b u,h.get? b=some u->h'.get? b=some u):HOk P w H h':=fun a o e=>
 (x a o e).stay (fun b u _ q=>k b u q) (fun _ q=>q) fun _ _ q=>q
theorem HOk.laid (x:HOk P w H h) (k:∀ b u,h.get? b=some u->h'.get? b=some u) (hp:h.objs.size<=a) (new:ObjOk P w (upd H a o) h' a o):HOk P w (upd H a o) h':=fun b u e=>by
 have hn:=x.fresh hp
 by_cases hb:b=a
 ·subst hb;rw [ao] at e;cases e;exact new
 ·rw [aC hb] at e
  exact (x b u e).stay (fun c v _ q=>k c v q) (fun c q=>by rw [aC (jj q hn)];exact q) fun c xs q=>by rw [aC (jj q hn)];exact q
end
def Rd (H:Hp) (a:Addr) (u:HO):Prop:=H a=some u\/∃ o,H a=some (.frz o u)
theorem Rd.ok {P:Program} {w:World} {H:Hp} {h:Heap} {a:Addr} {u:HO} (r:Rd H a u) (x:HOk P w H h):ObjOk P w H h a u:=by
 rcases r with r | ⟨o,r⟩
 ·exact x a u r
 ·obtain ⟨_,q⟩:=x a _ r
  exact q
def Vd:Option HO->Prop
 | some (.lst _)=>True
 | some (.dK _)=>True
 | some (.dT _)=>True
 | some (.set _ _)=>True
 | some (.ins _ _ _)=>True
 | some (.ext _)=>True
 | _=>False
section
variable {P:Program} {w:World} {H:Hp} {h h':Heap} {x e:Addr} {o':HO}
theorem HOk.write (ok:HOk P w H h) (mu:Vd (H x)) (he:e=x\/H e=some (.own x)) (k:∀ b u,b≠e->h.get? b=some u->h'.get? b=some u) (heo:∃ u,h'.get? e=some u)
  (new:ObjOk P w (upd H x o') h' x o'):HOk P w (upd H x o') h':=fun b u q=>by
 have nown:∀ c y,H c=some (.own y)->c≠x:=fun c y r z=>by subst z;rw [r] at mu;exact mu
 have ntup:∀ c xs,H c=some (.tup xs)->c≠x:=fun c xs r z=>by subst z;rw [r] at mu;exact mu
 by_cases hb:b=x
 ·subst hb;rw [ao] at q;cases q;exact new
 ·rw [aC hb] at q
  by_cases hbe:b=e
  ·have q':H b=some (.own x):=by
    rcases he with z | z
    ·exact absurd (hbe.trans z) hb
    ·rw [hbe];exact z
   rw [q] at q';cases q'
   obtain ⟨v,hv⟩:=heo
   exact ⟨v,by rw [hbe];exact hv⟩
  ·refine (ok b u q).stay (fun c v hc r=>k c v ?_ r) (fun c r=>by rw [aC (nown c b r)];exact r) fun c xs r=>by rw [aC (ntup c xs r)];exact r
   rcases hc with rfl | hc
   ·exact hbe
   ·rintro rfl
    rcases he with z | z
    ·exact nown c b hc z
    ·rw [hc] at z;cases z;exact hb rfl
end
structure Un (fs ex:List Addr) (H H':Hp) (h h':Heap):Prop where
 keep:∀ b o,h.get? b=some o->H b=none->b ∉ fs->b ∉ ex->h'.get? b=some o
 slot:∀ b o,h.get? b=some o->H b=none->b∈fs->b ∉ ex->∃ sl,h'.get? b=some {o with slots:=sl}
 free:∀ b o,h.get? b=some o->H b=none->b ∉ ex->H' b=none
 there:∀ b o,h.get? b=some o->b ∉ ex->∃ o',h'.get? b=some o'
 tups:∀ b xs,H b=some (.tup xs)->H' b=some (.tup xs)
 frzs:∀ b o u,H b=some (.frz o u)->H' b=some (.frz o u)
 tbls:∀ b ps,H b=some (.tbl ps)->∃ more,H' b=some (.tbl (ps ++ more))
section
variable {fs fs' ex ex':List Addr} {H H1 H2:Hp} {h h1 h2 h':Heap} {a x e:Addr} {o:HO}
theorem Un.any (u:Un fs ex H H1 h h1) {b:Addr} {ob:Obj} (q:h.get? b=some ob) (n:H b=none) (hx:b ∉ ex):∃ sl,h1.get? b=some {ob with slots:=sl}:=by
 by_cases hb:b∈fs
 ·exact u.slot b ob q n hb hx
 ·exact ⟨ob.slots,u.keep b ob q n hb hx⟩
theorem Un.kept (k:∀ b u,h.get? b=some u->h'.get? b=some u):Un fs ex H H h h':=
 ⟨fun b ob q _ _ _=>k b ob q,fun b ob q _ _ _=>⟨ob.slots,k b ob q⟩,fun _ _ _ n _=>n,fun b ob q _=>⟨ob,k b ob q⟩,fun _ _ q=>q,fun _ _ _ q=>q,fun _ ps q=>⟨#[],by rw [q];simp⟩⟩
theorem Un.refl:Un fs ex H H h h:=Un.kept fun _ _ q=>q
theorem Un.laid (k:∀ b u,h.get? b=some u->h'.get? b=some u) (hp:h.objs.size<=a) (hn:H a=none):Un fs ex H (upd H a o) h h' where
 keep:=fun b u q _ _ _=>k b u q
 slot:=fun b u q _ _ _=>⟨u.slots,k b u q⟩
 free:=fun b u q n _=>by rw [aC (ZG (Zi (Y7 q) hp))];exact n
 there:=fun b u q _=>⟨u,k b u q⟩
 tups:=fun b xs q=>by rw [aC (jj q hn)];exact q
 frzs:=fun b u xs q=>by rw [aC (jj q hn)];exact q
 tbls:=fun b ps q=>⟨#[],by rw [aC (jj q hn),q];simp⟩
theorem Un.write (mu:Vd (H x)) (he:e=x\/H e=some (.own x)) (k:∀ b u,b≠e->h.get? b=some u->h'.get? b=some u) (heo:∃ u,h'.get? e=some u):Un fs ex H (upd H x o) h h':=by
 have hx:∀ b,H b=none->b≠x:=fun b n z=>by subst z;rw [n] at mu;exact mu
 have hb:∀ b,H b=none->b≠e:=fun b n z=>by
  subst z
  rcases he with r | r
  ·exact hx b n r
  ·rw [n] at r;cases r
 have hm:∀ b u,H b=some u->¬ Vd (some u)->b≠x:=fun b u q nm z=>by subst z;rw [q] at mu;exact nm mu
 refine ⟨fun b u q n _ _=>k b u (hb b n) q,fun b u q n _ _=>⟨u.slots,k b u (hb b n) q⟩,fun b u q n _=>by rw [aC (hx b n)];exact n,fun b u q _=>?_,
  fun b xs q=>by rw [aC (hm b _ q fun z=>z)];exact q,fun b u xs q=>by rw [aC (hm b _ q fun z=>z)];exact q,fun b ps q=>⟨#[],by rw [aC (hm b _ q fun z=>z),q];simp⟩⟩
 by_cases hbe:b=e
 ·subst hbe;exact heo
 ·exact ⟨u,k b u hbe q⟩
end
def Kp (h:Heap) (H:Hp):List Addr:=(List.range h.objs.size).filter fun a=>(H a).isSome
def wM (h:Heap) (H:Hp):Heap:=PySem.W.hideAll h (Kp h H)
theorem CJ (h:Heap) (H:Hp):(wM h H).objs.size=h.objs.size:=PySem.W.hideAll_size _ _
theorem Fv {h:Heap} {H:Hp} {b:Addr} {o:Obj} (e:h.get? b=some o) (n:H b=none):(wM h H).get? b=some o:=
 PySem.W.hideAll_get _ e fun hm=>by
  have q:(H b).isSome=true:=(List.mem_filter.mp hm).2
  rw [n] at q;simp at q
theorem Ky {h:Heap} {H:Hp} {b:Addr} {o:Obj} (e:(wM h H).get? b=some o):h.get? b=some o/\H b=none:=by
 have e':h.get? b=some o:=PySem.W.of_hideAll (Kp h H) e
 refine ⟨e',?_⟩
 cases q:H b with
 | none=>rfl
 | some x=>
  have hm:b∈Kp h H:=List.mem_filter.mpr ⟨AaE.mpr (Y7 e'),by simp [q]⟩
  have z:(wM h H).get? b=none:=PySem.W.hideAll_none (Kp h H) hm
  rw [z] at e;cases e
structure Mod (K:W.Frag) (mg:Str->Option Value) (base:Heap):Prop where
 kin:K.In base
 glob:base.Ns mainGlobals mg
 blt:∃ mb,base.Ns builtinsNs mb/\∀ x:Str,x≠"__name__"->mb x=bootBuiltins x
 nolimit:base.NoLimit
 sysm:∃ mm,base.Ns sysModules mm
structure Cx where
 prog:Program
 w:World
 K:W.Frag
 mg:Str->Option Value
 base:Heap
 A:Around
 N:List Str
 s₀:Shared
 H₀:Hp
 env:Env
 outer:List Env
 stack:List Env
 ex:List Addr
 fn:Str->Bool
 calm:Bool
 pn:List (Addr×Obj)
 xe:Value->Shared->Prop
def frs (l:List Env):List Addr:=l.filterMap (·.frame)
abbrev Cx.fs (X:Cx):List Addr:=frs X.outer
def Yt (sc:Scope) (x:Str):Prop:=sc.names.lookup x=some .local\/sc.names.lookup x=some .cell\/sc.names.lookup x=some .free
def Loc (sc:Scope) (x:Str):Prop:=sc.names.lookup x=some .local\/sc.names.lookup x=some .cell
def Look (env:Env) (h:Heap) (m:Str->Option Value) (x:Str) (u:Value):Prop:=
 (env.kindOf x=some .local/\m x=some u)\/((env.kindOf x=some .cell\/env.kindOf x=some .free)/\∃ c,env.cells.lookup x=some c/\h.IsCell c (some u))
structure Cx.Ok (X:Cx):Prop where
 mod:Mod X.K X.mg X.base
 kind:X.env.scope.kind= .function
 glob:X.env.globals=mainGlobals
 blt:X.env.builtins=builtinsNs
 above:X.s₀.heap.objs.size<=X.env.locals
 inj:∀ x y c,X.env.cells.lookup x=some c->X.env.cells.lookup y=some c->x=y
 has:∀ x,(X.env.kindOf x=some .cell\/X.env.kindOf x=some .free)->∃ c,X.env.cells.lookup x=some c
 cab:∀ x c,X.fn x=true->X.env.cells.lookup x=some c->X.s₀.heap.objs.size<=c
 hd:X.calm=true->X.A.handled=none
 frames:X.A.frames=some X.stack
 stk:X.stack=X.outer\/(X.stack=X.env :: X.outer/\X.env.frame=some X.env.locals)
 exf:∀ b∈X.ex,b≠X.env.locals/\∀ x c,X.env.cells.lookup x=some c->c≠b
 bs:∀ b o,X.base.get? b=some o->X.s₀.heap.get? b=some o/\X.H₀ b=none
 bsz:X.base.objs.size<=X.s₀.heap.objs.size
 noex:∀ b o,X.base.get? b=some o->b ∉ X.ex
 exfs:∀ b∈X.ex,b ∉ X.fs
 funs:X.s₀.heap.FunFrames X.base X.outer
 frf:∀ b∈X.fs,X.H₀ b=none
structure Inv (X:Cx) (pins:List (Addr×Obj)) (U:List (Option V)) (H:Hp) (s:Shared):Prop where
 ok:X.Ok
 os:s.os=X.s₀.os
 bare:AllBare s.gens
 base:Un X.fs X.ex X.H₀ H X.s₀.heap s.heap
 loc:∃ m,s.heap.Ns X.env.locals m/\∀ (i:Nat) (x:Str) (v:V),X.N[i]?=some x->U[i]?=some (some v)->Yt X.env.scope x->∃ u,RelV v u/\Look X.env s.heap m x u
 cell:∀ x c,X.env.cells.lookup x=some c->∃ v,s.heap.IsCell c v
 free:H X.env.locals=none
 freeC:∀ x c,X.env.cells.lookup x=some c->H c=none
 pin:∀ p∈X.pn ++ pins,s.heap.get? p.1=some p.2/\H p.1=none/\p.1≠X.env.locals/\p.1 ∉ X.fs/\∀ v,p.2.data≠.cell v
 hok:HOk X.prog X.w H s.heap
 len:U.length=X.N.length
section
variable {X:Cx} {pins:List (Addr×Obj)} {U:List (Option V)} {H H':Hp} {s:Shared} {h':Heap}
theorem Cx.Ok.nofr (ok:X.Ok) {b:Addr} {o:Obj} (e:X.base.get? b=some o):b ∉ X.fs:=fun hb=>by
 have:=(ok.funs.mem hb).1
 rw [e] at this;cases this
theorem Inv.bs (I:Inv X pins U H s):∀ b o,X.base.get? b=some o->s.heap.get? b=some o/\H b=none:=fun b o e=>
 ⟨I.base.keep b o (I.ok.bs b o e).1 (I.ok.bs b o e).2 (I.ok.nofr e) (I.ok.noex b o e),I.base.free b o (I.ok.bs b o e).1 (I.ok.bs b o e).2 (I.ok.noex b o e)⟩
theorem Inv.bk (I:Inv X pins U H s):∀ b o,X.base.get? b=some o->s.heap.get? b=some o:=fun b o e=>(I.bs b o e).1
theorem Inv.mod (I:Inv X pins U H s):Mod X.K X.mg X.base:=I.ok.mod
theorem Inv.kIn (I:Inv X pins U H s):X.K.In s.heap:=I.ok.mod.kin.keeps I.bk
theorem Inv.lt (I:Inv X pins U H s):X.env.locals < s.heap.objs.size:=let ⟨_,hn,_⟩:=I.loc;hn.lt
theorem Inv.sz (I:Inv X pins U H s):X.s₀.heap.objs.size<=s.heap.objs.size:=Aan I.ok.above (Nat.le_of_lt I.lt)
theorem Inv.nofs (I:Inv X pins U H s) {a:Addr} (h:s.heap.objs.size<=a):a ∉ X.fs:=fun hb=>by
 obtain ⟨_,o,ho,_⟩:=I.ok.funs.mem hb
 exact absurd (Zi (Y7 ho) (Aan I.sz h)) (Aal _)
theorem Inv.cne (I:Inv X pins U H s):∀ x c,X.env.cells.lookup x=some c->c≠X.env.locals:=fun x c e z=>by
 obtain ⟨v,o,ho,hd⟩:=I.cell x c e
 obtain ⟨m,⟨o',es,ep,ho',hd',_⟩,_⟩:=I.loc
 rw [z,ho'] at ho;cases ho;rw [hd'] at hd;cases hd
theorem Inv.funs (I:Inv X pins U H s):s.heap.FunFrames X.base X.outer:=by
 have all:∀ (l:List Env),(∀ b∈frs l,b∈X.fs)->X.s₀.heap.FunFrames X.base l->s.heap.FunFrames X.base l:=by
  intro l
  induction l with
  | nil=>intro _ _;trivial
  | cons env r ih=>
   intro hs hl
   obtain ⟨hk,⟨L,o,hf,hn,ho,hd⟩,hr⟩:=hl
   have hL:L∈X.fs:=hs L (by unfold frs;rw [List.filterMap_cons,hf];exact Zj)
   obtain ⟨sl,e⟩:=I.base.slot L o ho (I.ok.frf L hL) hL fun z=>I.ok.exfs L z hL
   exact ⟨hk,⟨L,_,hf,hn,e,hd⟩,ih (fun b hb=>hs b (by unfold frs;rw [List.filterMap_cons,hf];exact Zc _ hb)) hr⟩
 exact all X.outer (fun _ hb=>hb) I.ok.funs
theorem Inv.stack (I:Inv X pins U H s):s.heap.FunFrames X.base X.stack:=by
 rcases I.ok.stk with e | ⟨e,hf⟩
 ·rw [e];exact I.funs
 ·rw [e]
  obtain ⟨m,hn,_⟩:=I.loc
  refine .cons (by rw [I.ok.kind];decide) hf hn ?_ I.funs
  exact Heap.get?_none_of_le (Aan I.ok.bsz I.ok.above)
theorem Inv.stkSub (I:Inv X pins U H s):∀ b∈frs X.stack,b∈X.env.locals :: X.fs:=fun b hb=>by
 rcases I.ok.stk with e | ⟨e,hf⟩
 ·rw [e] at hb;exact Zc _ hb
 ·rw [e] at hb
  unfold frs at hb
  rw [List.filterMap_cons,hf] at hb
  exact hb
theorem Inv.stkFree (I:Inv X pins U H s):∀ b∈frs X.stack,H b=none:=fun b hb=>by
 rcases Zg.mp (I.stkSub b hb) with e | hb
 ·rw [e];exact I.free
 ·obtain ⟨_,o,ho,_⟩:=I.ok.funs.mem hb
  exact I.base.free b o ho (I.ok.frf b hb) fun z=>I.ok.exfs b z hb
theorem Inv.step {g':Array GenState} {t':Nat} {d':Drawn} {ch:List Addr} (I:Inv X pins U H s)
  (hch:∀ b∈ch,(b∈X.ex\/X.s₀.heap.objs.size<=b)/\b≠X.env.locals/\(∀ x c,X.env.cells.lookup x=some c->c≠b)/\∀ p∈X.pn ++ pins,p.1≠b)
  (keep:∀ b o,b≠X.env.locals->b ∉ X.fs->b ∉ ch->s.heap.get? b=some o->H b=none->h'.get? b=some o)
  (slot:∀ b o,b≠X.env.locals->b∈X.fs->b ∉ ch->s.heap.get? b=some o->H b=none->∃ sl,h'.get? b=some {o with slots:=sl}) (free:∀ b o,b ∉ ch->s.heap.get? b=some o->H b=none->H' b=none)
  (there:∀ b o,b ∉ ch->s.heap.get? b=some o->∃ o',h'.get? b=some o')
  (tups:∀ b xs,H b=some (.tup xs)->H' b=some (.tup xs)) (frzs:∀ b o u,H b=some (.frz o u)->H' b=some (.frz o u)) (tbls:∀ b ps,H b=some (.tbl ps)->∃ more,H' b=some (.tbl (ps ++ more)))
  (ns:∀ m,s.heap.Ns X.env.locals m->h'.Ns X.env.locals m) (hok:HOk X.prog X.w H' h') (hg:AllBare g'):
  Inv X pins U H' {s with heap:=h',gens:=g',drawn:=d',toks:=t'}:=by
 have neL:∀ b o,X.s₀.heap.get? b=some o->b≠X.env.locals:=fun b o e=>ZG (Zi (Y7 e) I.ok.above)
 have neC:∀ b o,X.s₀.heap.get? b=some o->b ∉ X.ex->b ∉ ch:=fun b o e hx hb=>by
  rcases (hch b hb).1 with z | z
  ·exact hx z
  ·exact absurd (Zi (Y7 e) z) (Aal _)
 have cellK:∀ x c,X.env.cells.lookup x=some c->∀ v,s.heap.IsCell c v->h'.IsCell c v:=fun x c e v ⟨o,ho,hd⟩=>by
  have nch:c ∉ ch:=fun z=>(hch c z).2.2.1 x c e rfl
  by_cases hc:c∈X.fs
  ·obtain ⟨sl,q⟩:=slot c o (I.cne x c e) hc nch ho (I.freeC x c e)
   exact ⟨_,q,hd⟩
  ·exact ⟨o,keep c o (I.cne x c e) hc nch ho (I.freeC x c e),hd⟩
 refine ⟨I.ok,I.os,hg,⟨fun b o e n hb hx=>?_,fun b o e n hb hx=>?_,fun b o e n hx=>?_,fun b o e hx=>?_,fun b xs e=>tups b xs (I.base.tups b xs e),fun b o xs e=>frzs b o xs (I.base.frzs b o xs e),fun b ps e=>?_⟩,?_,fun x c e=>?_,?_,fun x c e=>?_,fun p hp=>?_,hok,I.len⟩
 ·exact keep b o (neL b o e) hb (neC b o e hx) (I.base.keep b o e n hb hx) (I.base.free b o e n hx)
 ·obtain ⟨sl,e1⟩:=I.base.slot b o e n hb hx
  obtain ⟨sl',e2⟩:=slot b _ (neL b o e) hb (neC b o e hx) e1 (I.base.free b o e n hx)
  exact ⟨sl',e2⟩
 ·obtain ⟨o',e1⟩:=I.base.there b o e hx
  exact free b o' (neC b o e hx) e1 (I.base.free b o e n hx)
 ·obtain ⟨o',e1⟩:=I.base.there b o e hx
  exact there b o' (neC b o e hx) e1
 ·obtain ⟨m1,e1⟩:=I.base.tbls b ps e
  obtain ⟨m2,e2⟩:=tbls b _ e1
  exact ⟨m1 ++ m2,by rw [e2,Array.append_assoc]⟩
 ·obtain ⟨m,hn,hl⟩:=I.loc
  refine ⟨m,ns m hn,fun i x v e1 e2 e3=>?_⟩
  obtain ⟨u,r,l⟩:=hl i x v e1 e2 e3
  refine ⟨u,r,?_⟩
  rcases l with l | ⟨k,c,e,z⟩
  ·exact .inl l
  ·exact .inr ⟨k,c,e,cellK x c e _ z⟩
 ·obtain ⟨v,z⟩:=I.cell x c e
  exact ⟨v,cellK x c e v z⟩
 ·obtain ⟨m,⟨o,_,_,ho,_⟩,_⟩:=I.loc
  exact free _ o (fun z=>(hch _ z).2.1 rfl) ho I.free
 ·obtain ⟨v,o,ho,hd⟩:=I.cell x c e
  exact free c o (fun z=>(hch c z).2.2.1 x c e rfl) ho (I.freeC x c e)
 ·obtain ⟨e,n,ne,nf,d⟩:=I.pin p hp
  have nch:p.1 ∉ ch:=fun z=>(hch p.1 z).2.2.2 p hp rfl
  exact ⟨keep p.1 p.2 ne nf nch e n,free p.1 p.2 nch e n,ne,nf,d⟩
theorem Inv.un {t':Nat} (I:Inv X pins U H s) (u:Un X.fs [] H H' s.heap h') (hok:HOk X.prog X.w H' h'):Inv X pins U H' {s with heap:=h',toks:=t'}:=by
 obtain ⟨m,⟨o,es,ep,ho,r⟩,_⟩:=id I.loc
 obtain ⟨sl,hL⟩:=u.any ho I.free (by simp)
 exact I.step (g':=s.gens) (d':=s.drawn) (ch:=[]) (fun _ z=>nomatch z) (fun b o _ hb _ e n=>u.keep b o e n hb (by simp)) (fun b o _ hb _ e n=>u.slot b o e n hb (by simp)) (fun b o _ e n=>u.free b o e n (by simp)) (fun b o _ e=>u.there b o e (by simp)) u.tups u.frzs u.tbls (fun m' hm=>by
  obtain ⟨o',es',ep',ho',r'⟩:=hm
  rw [ho] at ho';cases ho'
  exact ⟨_,es',ep',hL,r'⟩) hok I.bare
theorem Inv.call {g':Array GenState} {t':Nat} {d':Drawn} {ch:List Addr} (I:Inv X pins U H s) (u:Un (frs X.stack) ch H H' s.heap h') (hok:HOk X.prog X.w H' h') (hg:AllBare g')
  (hch:∀ b∈ch,(b∈X.ex\/X.s₀.heap.objs.size<=b)/\b≠X.env.locals/\(∀ x c,X.env.cells.lookup x=some c->c≠b)/\∀ p∈X.pn ++ pins,p.1≠b):
  Inv X pins U H' {s with heap:=h',gens:=g',drawn:=d',toks:=t'}:=by
 obtain ⟨m,⟨o,es,ep,ho,r⟩,_⟩:=id I.loc
 obtain ⟨sl,hL⟩:=u.any ho I.free fun z=>(hch _ z).2.1 rfl
 exact I.step (ch:=ch) hch (fun b o hL hb hc e n=>u.keep b o e n (fun z=>(Zg.mp (I.stkSub b z)).elim hL hb) hc) (fun b o _ _ hc e n=>u.any e n hc) (fun b o hc e n=>u.free b o e n hc) (fun b o hc e=>u.there b o e hc) u.tups u.frzs u.tbls (fun m' hm=>by
  obtain ⟨o',es',ep',ho',r'⟩:=hm
  rw [ho] at ho';cases ho'
  exact ⟨_,es',ep',hL,r'⟩) hok hg
theorem Inv.turned {t':Nat} {it:Addr} (I:Inv X pins U H s) (k:∀ b o,b≠it->s.heap.get? b=some o->h'.get? b=some o) (hn:H it=none) (hL:it≠X.env.locals)
  (h1:it∈X.ex\/X.s₀.heap.objs.size<=it) (h2:∀ x c,X.env.cells.lookup x=some c->c≠it) (h3:∀ p∈X.pn ++ pins,p.1≠it):Inv X pins U H {s with heap:=h',toks:=t'}:=by
 have nit:∀ b u,H b=some u->b≠it:=fun b u e z=>by rw [z,hn] at e;cases e
 refine I.step (g':=s.gens) (d':=s.drawn) (ch:=[it]) (fun b hb=>?_) (fun b o _ _ hc e _=>k b o (fun z=>hc (by simp [z])) e) (fun b o _ _ hc e _=>⟨o.slots,k b o (fun z=>hc (by simp [z])) e⟩) (fun _ _ _ _ n=>n)
  (fun b o hc e=>⟨o,k b o (fun z=>hc (by simp [z])) e⟩) (fun _ _ e=>e) (fun _ _ _ e=>e) (fun b ps e=>⟨#[],by rw [e];simp⟩) (fun m hm=>?_) (fun b u e=>?_) I.bare
 ·have e:b=it:=by simpa using hb
  subst e
  exact ⟨h1,hL,h2,h3⟩
 ·obtain ⟨o,es,ep,ho,r⟩:=hm
  exact ⟨o,es,ep,k _ o (Ne.symm hL) ho,r⟩
 ·refine (I.hok b u e).stay (fun c v hc q=>k c v ?_ q) (fun _ q=>q) fun _ _ q=>q
  rcases hc with z | z
  ·rw [z];exact nit b u e
  ·exact nit c _ z
theorem Inv.tok (I:Inv X pins U H s) (t:Nat):Inv X pins U H {s with toks:=t}:=I.un (h':=s.heap) (t':=t) Un.refl I.hok
theorem Inv.kept {t':Nat} (I:Inv X pins U H s) (k:∀ b u,s.heap.get? b=some u->h'.get? b=some u):Inv X pins U H {s with heap:=h',toks:=t'}:=I.un (Un.kept k) (I.hok.kept k)
theorem Inv.laid {a:Addr} {o:HO} {t':Nat} (I:Inv X pins U H s) (k:∀ b u,s.heap.get? b=some u->h'.get? b=some u) (hp:s.heap.objs.size<=a) (new:ObjOk X.prog X.w (upd H a o) h' a o):
  Inv X pins U (upd H a o) {s with heap:=h',toks:=t'}:=I.un (Un.laid k hp (I.hok.fresh hp)) (I.hok.laid k hp new)
theorem Inv.write {x e:Addr} {o:HO} {t':Nat} (I:Inv X pins U H s) (mu:Vd (H x)) (he:e=x\/H e=some (.own x)) (k:∀ b u,b≠e->s.heap.get? b=some u->h'.get? b=some u) (heo:∃ u,h'.get? e=some u)
  (new:ObjOk X.prog X.w (upd H x o) h' x o):Inv X pins U (upd H x o) {s with heap:=h',toks:=t'}:=I.un (Un.write mu he k heo) (I.hok.write mu he k heo new)
theorem Inv.weak {U':List (Option V)} (I:Inv X pins U H s) (hl:U'.length=U.length) (w:∀ (i:Nat) v,U'[i]?=some (some v)->U[i]?=some (some v)):Inv X pins U' H s:=
 ⟨I.ok,I.os,I.bare,I.base,let ⟨m,hn,hl'⟩:=I.loc;⟨m,hn,fun i x v e1 e2 e3=>hl' i x v e1 (w i v e2) e3⟩,I.cell,I.free,I.freeC,I.pin,I.hok,hl.trans I.len⟩
theorem Inv.pins_of {pins':List (Addr×Obj)} (I:Inv X pins U H s) (h:∀ p∈pins',s.heap.get? p.1=some p.2/\H p.1=none/\p.1≠X.env.locals/\p.1 ∉ X.fs/\∀ v,p.2.data≠.cell v):Inv X pins' U H s:=
 ⟨I.ok,I.os,I.bare,I.base,I.loc,I.cell,I.free,I.freeC,fun p hp=>(Y8.mp hp).elim (fun z=>I.pin p (Zy _ z)) (h p),I.hok,I.len⟩
theorem tY {N:List Str} (hN:N.Nodup) {i j:Nat} {x:Str} (a:N[i]?=some x) (b:N[j]?=some x):i=j:=by
 obtain ⟨h1,e1⟩:=YS.mp a
 obtain ⟨h2,e2⟩:=YS.mp b
 exact (List.getElem_inj hN).mp (e1.trans e2.symm)
theorem vZ {M:Model} {A:Around} {E:Value->Shared->Prop} {i:Nat} {x:Str} {v:V} {u:Value} {Q:Unit->Shared->Prop} (I:Inv X pins U H s) (hN:X.N.Nodup) (hi:X.N[i]?=some x) (hx:Loc X.env.scope x) (r:RelV v u)
  (h:∀ s',Inv X pins (U.set i (some v)) H s'->(∃ a,Heap.SameBut a s.heap s'.heap/\(a=X.env.locals\/X.env.cells.lookup x=some a))->Q () s') (hf:autoParam (X.fn x=true\/X.env.scope.names.lookup x=some .local) L2.auto1._auto_1):wpAny M A (storeName X.env x u) Q E s:=by
 obtain ⟨m,hn,hl⟩:=id I.loc
 have hcls:(X.env.scope.kind == .class || (X.env.scope.kind == .module && X.env.locals != X.env.globals))=false:=by rw [I.ok.kind];rfl
 have hiU:i < U.length:=by rw [I.len];exact (YS.mp hi).1
 have cne:=I.cne
 have tracked:∀ {a:Addr} {h':Heap},(∃ o,s.heap.get? a=some o/\H a=none)->Heap.SameBut a s.heap h'->HOk X.prog X.w H h':=fun {a h'} ha hs b ob e=>by
  obtain ⟨_,_,hfree⟩:=ha
  refine (I.hok b ob e).stay (fun c w' hc q=>(hs.2 c ?_).trans q) (fun _ q=>q) fun _ _ q=>q
  rintro rfl
  rcases hc with rfl | hc
  ·rw [hfree] at e;cases e
  ·rw [hfree] at hc;cases hc
 rcases hx with hk | hk
 ·refine wpAny_storeName_local hk hn (fun h' hn' hs=>?_) hcls
  obtain ⟨oL,_,_,hoL,_⟩:=id hn
  refine h _ ⟨I.ok,I.os,I.bare,⟨fun b o e n hb hx=>?_,fun b o e n hb hx=>?_,I.base.free,fun b o e hx=>?_,I.base.tups,I.base.frzs,I.base.tbls⟩,⟨_,hn',fun j y v' e1 e2 e3=>?_⟩,fun y c e=>?_,I.free,I.freeC,fun p hp=>?_,tracked ⟨oL,hoL,I.free⟩ hs,by simpa using I.len⟩ ⟨_,hs,.inl rfl⟩
  ·exact (hs.2 b (ZG (Zi (Y7 e) I.ok.above))).trans (I.base.keep b o e n hb hx)
  ·obtain ⟨sl,e1⟩:=I.base.slot b o e n hb hx
   exact ⟨sl,(hs.2 b (ZG (Zi (Y7 e) I.ok.above))).trans e1⟩
  ·obtain ⟨o',e1⟩:=I.base.there b o e hx
   exact ⟨o',(hs.2 b (ZG (Zi (Y7 e) I.ok.above))).trans e1⟩
  ·by_cases hj:j=i
   ·subst hj
    rw [hi] at e1;cases e1
    rw [Abg hiU] at e2
    cases e2
    exact ⟨u,r,.inl ⟨hk,by simp⟩⟩
   ·rw [AaZ (Ne.symm hj)] at e2
    obtain ⟨u',r',q⟩:=hl j y v' e1 e2 e3
    refine ⟨u',r',?_⟩
    rcases q with ⟨k,e⟩ | ⟨k,c,e,z⟩
    ·refine .inl ⟨k,?_⟩
     have:y≠x:=fun e=>hj (tY hN e1 (e ▸ hi))
     simp [this,e]
    ·exact .inr ⟨k,c,e,z.sameBut hs (cne y c e)⟩
  ·obtain ⟨w',z⟩:=I.cell y c e
   exact ⟨w',z.sameBut hs (cne y c e)⟩
  ·obtain ⟨e,n,ne,nf,d⟩:=I.pin p hp
   exact ⟨(hs.2 p.1 ne).trans e,n,ne,nf,d⟩
 ·have hfn:X.fn x=true:=by
   rcases hf with z | z
   ·exact z
   ·rw [z] at hk;cases hk
  obtain ⟨c,hc⟩:=I.ok.has x (.inl hk)
  obtain ⟨w',z⟩:=I.cell x c hc
  refine wpAny_storeName_cell I.ok.kind hk hc z (fun h' hc' hs=>?_)
  obtain ⟨oc,hoc,hocd⟩:=id z
  refine h {s with heap:=h'} ⟨I.ok,I.os,I.bare,⟨fun b o e n hb hx=>?_,fun b o e n hb hx=>?_,I.base.free,fun b o e hx=>?_,I.base.tups,I.base.frzs,I.base.tbls⟩,⟨m,hn.sameBut hs (Ne.symm (cne x c hc)),fun j y v' e1 e2 e3=>?_⟩,fun y c' e=>?_,I.free,I.freeC,fun p hp=>?_,tracked ⟨oc,hoc,I.freeC x c hc⟩ hs,by simpa using I.len⟩ ⟨c,hs,.inr hc⟩
  ·exact (hs.2 b (ZG (Zi (Y7 e) (I.ok.cab x c hfn hc)))).trans (I.base.keep b o e n hb hx)
  ·obtain ⟨sl,e1⟩:=I.base.slot b o e n hb hx
   exact ⟨sl,(hs.2 b (ZG (Zi (Y7 e) (I.ok.cab x c hfn hc)))).trans e1⟩
  ·obtain ⟨o',e1⟩:=I.base.there b o e hx
   exact ⟨o',(hs.2 b (ZG (Zi (Y7 e) (I.ok.cab x c hfn hc)))).trans e1⟩
  ·by_cases hj:j=i
   ·subst hj
    rw [hi] at e1;cases e1
    rw [Abg hiU] at e2
    cases e2
    exact ⟨u,r,.inr ⟨.inl hk,c,hc,hc'⟩⟩
   ·rw [AaZ (Ne.symm hj)] at e2
    obtain ⟨u',r',q⟩:=hl j y v' e1 e2 e3
    refine ⟨u',r',?_⟩
    rcases q with q | ⟨k,c',e,z'⟩
    ·exact .inl q
    ·refine .inr ⟨k,c',e,z'.sameBut hs ?_⟩
     rintro rfl
     exact hj (tY hN e1 (I.ok.inj _ _ _ e hc ▸ hi))
  ·by_cases hcc:c'=c
   ·subst hcc;exact ⟨_,hc'⟩
   ·obtain ⟨w2,z2⟩:=I.cell y c' e
    exact ⟨w2,z2.sameBut hs hcc⟩
  ·obtain ⟨e,n,ne,nf,d⟩:=I.pin p hp
   refine ⟨(hs.2 p.1 ?_).trans e,n,ne,nf,d⟩
   intro q
   rw [q,hoc] at e
   have q':oc=p.2:=Zn e
   exact d w' (by rw [← q'];exact hocd)
theorem p8 {M:Model} {A:Around} {E:Value->Shared->Prop} {i:Nat} {x:Str} {v:V} {u:Value} {Q:Unit->Shared->Prop} (I:Inv X pins U H s) (hN:X.N.Nodup) (hi:X.N[i]?=some x) (hx:Loc X.env.scope x) (r:RelV v u)
  (h:∀ s',Inv X pins (U.set i (some v)) H s'->Q () s') (hf:autoParam (X.fn x=true\/X.env.scope.names.lookup x=some .local) L2.auto1._auto_1):wpAny M A (storeName X.env x u) Q E s:=
 vZ I hN hi hx r (fun s' I' _=>h s' I') hf
theorem Inv.call' {s':Shared} {ch:List Addr} (I:Inv X pins U H s) (ho:s'.os=s.os) (u:Un (frs X.stack) ch H H' s.heap s'.heap) (hok:HOk X.prog X.w H' s'.heap) (hg:AllBare s'.gens)
  (hch:∀ b∈ch,(b∈X.ex\/X.s₀.heap.objs.size<=b)/\b≠X.env.locals/\(∀ x c,X.env.cells.lookup x=some c->c≠b)/\∀ p∈X.pn ++ pins,p.1≠b):Inv X pins U H' s':=by
 obtain ⟨h',g',d',t',o'⟩:=s'
 have e:o'=s.os:=ho
 subst e
 exact I.call (g':=g') (t':=t') (d':=d') u hok hg hch
end
abbrev XK:=Value->Option Addr->Hp->Prop
abbrev St:=List (Option V)
abbrev VK:=V->Hp->Prop
abbrev TE:=St->Hp->VK->Prop
abbrev TT:=St->Hp->(Bool->Hp->Prop)->Prop
abbrev TA:=St->Hp->(List V->Hp->Prop)->Prop
structure Ends where
 nx:St->Hp->Prop
 rt:VK
 bk:St->Hp->Prop:=fun _ _=>False
 ct:St->Hp->Prop:=fun _ _=>False
abbrev TS:=Ends->St->Hp->Prop
def EP (X:Cx) (pins:List (Addr×Obj)) (U:St) (Q:VK) (u:Value) (s':Shared):Prop:=∃ v H',Inv X pins U H' s'/\RelV v u/\Q v H'
def TP (X:Cx) (pins:List (Addr×Obj)) (U:St) (Q:Bool->Hp->Prop) (b:Bool) (s':Shared):Prop:=∃ H',Inv X pins U H' s'/\Q b H'
def AP (X:Cx) (pins:List (Addr×Obj)) (U:St) (Q:List V->Hp->Prop) (us:List Value) (s':Shared):Prop:=∃ vs H',Inv X pins U H' s'/\Vals vs us/\Q vs H'
def SP (X:Cx) (pins:List (Addr×Obj)) (D:Ends) (f:Flow) (s':Shared):Prop:=
 match f with
 | .next=>∃ U' H',Inv X pins U' H' s'/\D.nx U' H'
 | .brk=>∃ U' H',Inv X pins U' H' s'/\D.bk U' H'
 | .cont=>∃ U' H',Inv X pins U' H' s'/\D.ct U' H'
 | .ret u=>∃ v U' H',Inv X pins U' H' s'/\RelV v u/\D.rt v H'
def PE (X:Cx) (e:Expr) (t:TE):Prop:=
 ∀ (pins:List (Addr×Obj)) (s:Shared) (U:St) (H:Hp) (Q:VK),Inv X pins U H s->t U H Q->wpAny (model X.prog X.w) X.A (eval e X.env) (EP X pins U Q) X.xe s
def PT (X:Cx) (e:Expr) (t:TT):Prop:=
 ∀ (pins:List (Addr×Obj)) (s:Shared) (U:St) (H:Hp) (Q:Bool->Hp->Prop),Inv X pins U H s->t U H Q->wpAny (model X.prog X.w) X.A (isTrue e X.env (eval e X.env)) (TP X pins U Q) X.xe s
def PW (X:Cx) (e:Expr) (t:TT):Prop:=
 ∀ (whole:Sem Value) (pins:List (Addr×Obj)) (s:Shared) (U:St) (H:Hp) (Q:Bool->Hp->Prop),Inv X pins U H s->t U H Q->wpAny (model X.prog X.w) X.A (isTrue e X.env whole) (TP X pins U Q) X.xe s
theorem PW.pt {X:Cx} {e:Expr} {t:TT} (h:PW X e t):PT X e t:=h _
def PA (X:Cx) (es:List Expr) (t:TA):Prop:=
 ∀ (pos:Pos) (pins:List (Addr×Obj)) (s:Shared) (U:St) (H:Hp) (Q:List V->Hp->Prop),Inv X pins U H s->t U H Q->wpAny (model X.prog X.w) X.A (spliced (backTo pos (starEach es X.env))) (AP X pins U Q) X.xe s
def PS (X:Cx) (st:Stmt) (t:TS):Prop:=
 ∀ (pins:List (Addr×Obj)) (s:Shared) (U:St) (H:Hp) (D:Ends),Inv X pins U H s->t D U H->wpAny (model X.prog X.w) X.A (exec st X.env) (SP X pins D) X.xe s
def PSs (X:Cx) (st:List Stmt) (t:TS):Prop:=
 ∀ (pins:List (Addr×Obj)) (s:Shared) (U:St) (H:Hp) (D:Ends),Inv X pins U H s->t D U H->wpAny (model X.prog X.w) X.A (execs st X.env) (SP X pins D) X.xe s
theorem dM {α:Type} {t:Sem α} {Q Q':α->Shared->Prop} {M:Model} {A:Around} {E:Value->Shared->Prop} {s:Shared} (h:wpAny M A t Q E s) (hQ:∀ a s,Q a s->Q' a s):wpAny M A t Q' E s:=ZP h hQ fun _ _ x=>x
section
variable {X:Cx}
def sI (i:Nat):TE:=fun U H Q=>∃ v,U[i]?=some (some v)/\Q v H
def tC (v:V):TE:=fun _ H Q=>Q v H
theorem wN {i:Nat} {x:Str} {pos:Pos} (hN:X.N[i]?=some x) (hv:Yt X.env.scope x) (hd:autoParam ((x == ("__debug__":Str))=false) L2.auto2._auto_1) (hcd:autoParam ((x == ("__classdict__":Str))=false) L2.auto2._auto_1):PE X (.Name x pos) (sI i):=by
 intro pins s U H Q I h
 obtain ⟨v,e,h⟩:=h
 obtain ⟨m,hn,hl⟩:=I.loc
 obtain ⟨u,r,l⟩:=hl i x v hN e hv
 have fin:EP X pins U Q u s:=⟨v,H,I,r,h⟩
 rcases l with ⟨hk,hm⟩ | ⟨hk,c,hc,hcell⟩
 ·exact wpAny_Name (wpAny_loadName_local I.ok.kind hk hn hm fin) hd
 ·rcases hk with hk | hk
  ·exact wpAny_Name (wpAny_loadName_cell I.ok.kind hk hc hcell fin) hd
  ·exact wpAny_Name (wpAny_loadName_free I.ok.kind hk hc hcell fin hcd) hd
theorem Qd {i j pos}:PE X (.Constant (.int i) j pos) (tC (.int i)):=fun _ _ _ H _ I h=>wpAny_Constant_int ⟨.int i,H,I.tok _,⟨_,rfl⟩,h⟩
theorem Ve {b j pos}:PE X (.Constant (.bool b) j pos) (tC (.bl b)):=fun _ _ _ H _ I h=>Constant_bool ⟨.bl b,H,I,rfl,h⟩
theorem Qe {j pos}:PE X (.Constant .none j pos) (tC .non):=fun _ _ _ H _ I h=>Constant_none ⟨.non,H,I,rfl,h⟩
theorem Qf {x j pos}:PE X (.Constant (.str x) j pos) (tC (.str x)):=fun _ _ _ H _ I h=>Calls.Constant_str ⟨.str x,H,I.tok _,⟨_,rfl⟩,h⟩
def Gl (X:Cx) (x:Str):Prop:=X.env.kindOf x=some .globalImplicit
theorem qd {E:Value->Shared->Prop} {pins:List (Addr×Obj)} {s:Shared} {U:St} {H:Hp} {x:Str} {u:Value} {pos:Pos} {Q:Value->Shared->Prop} (I:Inv X pins U H s) (hg:Gl X x) (hm:X.mg x=some u) (h:Q u s)
  (hd:autoParam ((x == ("__debug__":Str))=false) L2.auto2._auto_1):wpAny (model X.prog X.w) X.A (eval (.Name x pos) X.env) Q E s:=
 Calls.Name_function_global I.ok.kind hg (Calls.loadGlobal_global (by rw [I.ok.glob];exact I.mod.glob.keeps I.bk) hm h) hd
theorem t8 {E:Value->Shared->Prop} {pins:List (Addr×Obj)} {s:Shared} {U:St} {H:Hp} {x:Str} {u:Value} {pos:Pos} {Q:Value->Shared->Prop} (I:Inv X pins U H s) (hg:Gl X x) (hm:X.mg x=none) (hv:bootBuiltins x=some u) (h:Q u s)
  (hn:autoParam (x≠"__name__") L2.auto2._auto_1) (hd:autoParam ((x == ("__debug__":Str))=false) L2.auto2._auto_1):wpAny (model X.prog X.w) X.A (eval (.Name x pos) X.env) Q E s:=by
 obtain ⟨mb,h1,h2⟩:=I.mod.blt
 exact Calls.Name_function_global I.ok.kind hg (Calls.loadGlobal_builtin (by rw [I.ok.glob];exact I.mod.glob.keeps I.bk) hm (by rw [I.ok.blt];exact h1.keeps I.bk) ((h2 x hn).trans hv) h) hd
theorem Bb {x:Str} {v:V} {u:Value} {pos:Pos} (hg:Gl X x) (hm:X.mg x=some u) (r:RelV v u) (hd:autoParam ((x == ("__debug__":Str))=false) L2.auto2._auto_1):PE X (.Name x pos) (tC v):=
 fun _ _ _ H _ I h=>qd I hg hm ⟨v,H,I,r,h⟩ hd
theorem Kz {x:Str} {v:V} {u:Value} {pos:Pos} (hg:Gl X x) (hm:X.mg x=none) (hv:bootBuiltins x=some u) (r:RelV v u) (hn:autoParam (x≠"__name__") L2.auto2._auto_1) (hd:autoParam ((x == ("__debug__":Str))=false) L2.auto2._auto_1):PE X (.Name x pos) (tC v):=
 fun _ _ _ H _ I h=>t8 I hg hm hv ⟨v,H,I,r,h⟩ hn hd
variable {a b:Expr} {ta tb:TE} {pos:Pos}
def tB (t:TE):TT:=fun U H Q=>t U H fun x H1=>∃ c,x= .bl c/\Q c H1
theorem Qg {e:Expr} {t:TE} (h:PE X e t) (he:autoParam (∀ whole,isTrue e X.env whole=(do let v ← whole;standAt e.pos;holding [v] (truthy v))) L2.auto3._auto_1):PT X e (tB t):=by
 intro pins s U H Q I hw
 refine isTrue_plain (dM (h pins s U H _ I hw) fun v s1 qq0=>?_) (he _)
 obtain ⟨x,H1,I1,r1,q1⟩:=qq0
 obtain ⟨d,rfl,q⟩:=q1
 cases r1
 exact Z4 ⟨H1,I1,q⟩
variable {tA tB':TT} {rest:List Expr}
def Qh (t u:TT):TT:=fun U H Q=>t U H fun c H1=>if c=true then u U H1 Q else Q false H1
def tOr (t u:TT):TT:=fun U H Q=>t U H fun c H1=>if c=true then Q true H1 else u U H1 Q
def Qi (t:TT):TT:=fun U H Q=>t U H fun c H1=>Q (!c) H1
theorem KC (ha:PT X a tA):PW X (.BoolOp .And [a] pos) tA:=by
 intro wh pins s U H Q I h
 refine isTrue_and (dM (ha pins s U H Q I h) fun c s1 e=>?_)
 cases c with
 | true=>exact isTrue_and_nil e
 | false=>exact e
theorem Qj (ha:PT X a tA):PW X (.BoolOp .Or [a] pos) tA:=by
 intro wh pins s U H Q I h
 refine isTrue_or (dM (ha pins s U H Q I h) fun c s1 e=>?_)
 cases c with
 | false=>exact isTrue_or_nil e
 | true=>exact e
theorem Qk (ha:PT X a tA) (hb:PW X (.BoolOp .And (b :: rest) pos) tB'):PW X (.BoolOp .And (a :: b :: rest) pos) (Qh tA tB'):=by
 intro wh pins s U H Q I h
 refine isTrue_and (dM (ha pins s U H _ I h) fun c s1 qq0=>?_)
 obtain ⟨H1,I1,q1⟩:=qq0
 cases c with
 | true=>exact hb wh pins s1 U H1 Q I1 q1
 | false=>exact ⟨H1,I1,q1⟩
theorem Vf (ha:PT X a tA) (hb:PW X (.BoolOp .Or (b :: rest) pos) tB'):PW X (.BoolOp .Or (a :: b :: rest) pos) (tOr tA tB'):=by
 intro wh pins s U H Q I h
 refine isTrue_or (dM (ha pins s U H _ I h) fun c s1 qq0=>?_)
 obtain ⟨H1,I1,q1⟩:=qq0
 cases c with
 | true=>exact ⟨H1,I1,q1⟩
 | false=>exact hb wh pins s1 U H1 Q I1 q1
theorem Ql (ha:PT X a tA):PT X (.UnaryOp .Not a pos) (Qi tA):=by
 intro pins s U H Q I h
 exact isTrue_not (ha pins s U H (fun c H1=>Q (!c) H1) I h)
def Fw (ta tb:TE):TE:=fun U H Q=>ta U H fun x H1=>∃ c,x= .bl c/\if c=true then tb U H1 Q else Q (.bl false) H1
def Qm (ta tb:TE):TE:=fun U H Q=>ta U H fun x H1=>∃ c,x= .bl c/\if c=true then Q (.bl true) H1 else tb U H1 Q
def Fx (ta:TE):TE:=fun U H Q=>ta U H fun x H1=>∃ c,x= .bl c/\Q (.bl (!c)) H1
theorem Qn {op} {t:TE} (h:PE X a t):PE X (.BoolOp op [a] pos) t:=fun pins s U H Q I hw=>BoolOp_one (h pins s U H Q I hw)
theorem Qo (ha:PE X a ta) (hb:PE X (.BoolOp .And (b :: rest) pos) tb):PE X (.BoolOp .And (a :: b :: rest) pos) (Fw ta tb):=by
 intro pins s U H Q I h
 refine BoolOp_and (dM (ha pins s U H _ I h) fun v s1 qq0=>?_)
 obtain ⟨x,H1,I1,r1,q1⟩:=qq0
 obtain ⟨c,rfl,q1⟩:=q1
 cases r1
 refine Z4 ?_
 cases c with
 | true=>exact hb pins s1 U H1 Q I1 q1
 | false=>exact ⟨.bl false,H1,I1,rfl,q1⟩
theorem Vg (ha:PE X a ta) (hb:PE X (.BoolOp .Or (b :: rest) pos) tb):PE X (.BoolOp .Or (a :: b :: rest) pos) (Qm ta tb):=by
 intro pins s U H Q I h
 refine BoolOp_or (dM (ha pins s U H _ I h) fun v s1 qq0=>?_)
 obtain ⟨x,H1,I1,r1,q1⟩:=qq0
 obtain ⟨c,rfl,q1⟩:=q1
 cases r1
 refine Z4 ?_
 cases c with
 | false=>exact hb pins s1 U H1 Q I1 q1
 | true=>exact ⟨.bl true,H1,I1,rfl,q1⟩
theorem Qp (ha:PE X a ta):PE X (.UnaryOp .Not a pos) (Fx ta):=by
 intro pins s U H Q I h
 refine UnaryOp_ (dM (ha pins s U H _ I h) fun v s1 qq0=>?_)
 obtain ⟨x,H1,I1,r1,q1⟩:=qq0
 obtain ⟨c,rfl,q1⟩:=q1
 cases r1
 exact not_of (Z4 ⟨.bl (!c),H1,I1,rfl,q1⟩)
end
def SqL (K:W.Frag) (H:Hp) (a:Addr) (xs:List V):Prop:=
 Rd H a (.lst xs)\/
  ∃ (o:Obj) (its:Array Value) (n:Nat),K.lookup a=some o/\o.cls= .type "list"/\o.dict=none/\o.data= .seq its n/\its.size<=sizeLine/\Vals xs its.toList
def SqT (K:W.Frag) (H:Hp) (a:Addr) (xs:List V):Prop:=
 Rd H a (.tup xs)\/
  ∃ (o:Obj) (its:Array Value) (n:Nat),K.lookup a=some o/\o.cls= .type "tuple"/\o.data= .seq its n/\its.size<=sizeLine/\Vals xs its.toList
def absV:Value->Option V
 | .none=>some .non
 | .bool b=>some (.bl b)
 | .int i _=>some (.int i)
 | .str x _=>some (.str x)
 | .bytes b _=>some (.byt b)
 | .float b _=>some (.flt b)
 | .ref a=>some (.ref a)
 | .type n=>some (.ty n)
 | _=>none
theorem RelV.abs {x:V} {u:Value} (r:RelV x u):absV u=some x:=by
 cases x with
 | non=>cases r;rfl
 | bl _=>cases r;rfl
 | int _=>obtain ⟨t,rfl⟩:=r;rfl
 | str _=>obtain ⟨t,rfl⟩:=r;rfl
 | byt _=>obtain ⟨t,rfl⟩:=r;rfl
 | flt _=>obtain ⟨t,rfl⟩:=r;rfl
 | ref _=>cases r;rfl
 | ty _=>cases r;rfl
theorem RelV.inj {x y:V} {u:Value} (r:RelV x u) (q:RelV y u):x=y:=Zn (r.abs.symm.trans q.abs)
theorem Vals.inj:∀ {xs ys:List V} {us:List Value},Vals xs us->Vals ys us->xs=ys
 | _,_,_,.nil,.nil=>rfl
 | _,_,_,.cons r t,.cons r' t'=>by rw [r.inj r',Vals.inj t t']
section
variable {X:Cx} {pins:List (Addr×Obj)} {U:St} {H:Hp} {s:Shared} {a:Addr} {xs ys:List V}
theorem SqL.of {K:W.Frag} (h:H a=some (.lst xs)):SqL K H a xs:=.inl (.inl h)
theorem SqT.of {K:W.Frag} (h:H a=some (.tup xs)):SqT K H a xs:=.inl (.inl h)
theorem Inv.list (I:Inv X pins U H s) (h:SqL X.K H a xs):∃ its:List Value,Vals xs its/\PlainL s.heap a its.toArray/\xs.length<=sizeLine:=by
 rcases h with h | ⟨o,its,n,hk,hc,hd,hs,hz,r⟩
 ·obtain ⟨z,its,n,r,e⟩:=h.ok I.hok
  exact ⟨its,r,⟨_,n,e,rfl,rfl,rfl⟩,z⟩
 ·refine ⟨its.toList,r,⟨o,n,I.kIn a o hk,hc,hd,by simpa using hs⟩,?_⟩
  have e:=r.length
  simp only [Aai] at e
  omega
theorem Inv.tuple (I:Inv X pins U H s) (h:SqT X.K H a xs):∃ its:List Value,Vals xs its/\IsTup s.heap a its.toArray/\xs.length<=sizeLine:=by
 rcases h with h | ⟨o,its,n,hk,hc,hs,hz,r⟩
 ·obtain ⟨z,its,r,p⟩:=h.ok I.hok
  exact ⟨its,r,p,z⟩
 ·refine ⟨its.toList,r,⟨o,I.kIn a o hk,hc,n,by simpa using hs⟩,?_⟩
  have e:=r.length
  simp only [Aai] at e
  omega
theorem Inv.list_inj (I:Inv X pins U H s) (h:SqL X.K H a xs) (h':SqL X.K H a ys):xs=ys:=by
 obtain ⟨its,r,⟨o,n,e,_,_,d⟩,_⟩:=I.list h
 obtain ⟨its',r',⟨o',n',e',_,_,d'⟩,_⟩:=I.list h'
 rw [e] at e';cases e'
 rw [d] at d'
 injection d' with d1 _
 have:its=its':=by simpa using congrArg Array.toList d1
 subst this
 exact r.inj r'
theorem Inv.tuple_inj (I:Inv X pins U H s) (h:SqT X.K H a xs) (h':SqT X.K H a ys):xs=ys:=by
 obtain ⟨its,r,⟨o,e,_,n,d⟩,_⟩:=I.tuple h
 obtain ⟨its',r',⟨o',e',_,n',d'⟩,_⟩:=I.tuple h'
 rw [e] at e';cases e'
 rw [d] at d'
 injection d' with d1 _
 have:its=its':=by simpa using congrArg Array.toList d1
 subst this
 exact r.inj r'
end
abbrev Cx.wish (X:Cx) (E:Value->Shared->Prop):Cx:={X with xe:=E}
abbrev Cx.nox (X:Cx):Cx:=X.wish fun _ _=>False
theorem Cx.Ok.wish {X:Cx} (ok:X.Ok) (E:Value->Shared->Prop):(X.wish E).Ok:=
 ⟨ok.mod,ok.kind,ok.glob,ok.blt,ok.above,ok.inj,ok.has,ok.cab,ok.hd,ok.frames,ok.stk,ok.exf,ok.bs,ok.bsz,ok.noex,ok.exfs,ok.funs,ok.frf⟩
theorem Cx.Ok.unwish {X:Cx} {E:Value->Shared->Prop} (ok:(X.wish E).Ok):X.Ok:=
 ⟨ok.mod,ok.kind,ok.glob,ok.blt,ok.above,ok.inj,ok.has,ok.cab,ok.hd,ok.frames,ok.stk,ok.exf,ok.bs,ok.bsz,ok.noex,ok.exfs,ok.funs,ok.frf⟩
section
variable {X:Cx} {pins:List (Addr×Obj)} {U:St} {H:Hp} {s:Shared} {E:Value->Shared->Prop}
theorem Inv.wish (I:Inv X pins U H s) (E:Value->Shared->Prop):Inv (X.wish E) pins U H s:=⟨I.ok.wish E,I.os,I.bare,I.base,I.loc,I.cell,I.free,I.freeC,I.pin,I.hok,I.len⟩
theorem Inv.unwish (I:Inv (X.wish E) pins U H s):Inv X pins U H s:=⟨I.ok.unwish,I.os,I.bare,I.base,I.loc,I.cell,I.free,I.freeC,I.pin,I.hok,I.len⟩
theorem SP.unwish {D:Ends} {f:Flow} {s':Shared} (h:SP (X.wish E) pins D f s'):SP X pins D f s':=by
 cases f with
 | next=>obtain ⟨U',H',I,q⟩:=h;exact ⟨U',H',I.unwish,q⟩
 | brk=>obtain ⟨U',H',I,q⟩:=h;exact ⟨U',H',I.unwish,q⟩
 | cont=>obtain ⟨U',H',I,q⟩:=h;exact ⟨U',H',I.unwish,q⟩
 | ret u=>obtain ⟨v,U',H',I,r,q⟩:=h;exact ⟨v,U',H',I.unwish,r,q⟩
theorem PSs.nox {st:List Stmt} {t:TS} (h:PSs X.nox st t):PSs X st t:=fun pins s U H D I hw=>
 ZP (h pins s U H D (I.wish _) hw) (fun _ _ q=>q.unwish) fun _ _ z=>False.elim z
end
section
variable {X:Cx} {st:Stmt} {rest:List Stmt} {t u:TS} {e:Expr} {te:TE} {pos:Pos}
def Fy:TS:=fun D U H=>D.nx U H
def KD (t u:TS):TS:=fun D U H=>t {D with nx:=u D} U H
theorem KH:PSs X [] Fy:=fun _ _ U H _ I h=>wpAny_execs_nil ⟨U,H,I,h⟩
theorem Fz (h1:PS X st t) (h2:PSs X rest u):PSs X (st :: rest) (KD t u):=by
 intro pins s U H D I h
 refine wpAny_execs_cons (dM (h1 pins s U H {D with nx:=u D} I h) fun f s1 q=>?_)
 cases f with
 | next=>
  obtain ⟨U',H',I',q⟩:=q
  exact h2 pins s1 U' H' D I' q
 | ret v=>exact q
 | brk=>exact q
 | cont=>exact q
theorem KJ (h1:PS X st t):PSs X [st] t:=by
 intro pins s U H D I h
 refine wpAny_execs_cons (dM (h1 pins s U H D I h) fun f s1 q=>?_)
 cases f with
 | next=>exact wpAny_execs_nil q
 | ret v=>exact q
 | brk=>exact q
 | cont=>exact q
def Oq:TS:=fun D U H=>D.ct U H
theorem yj:PS X (.Continue pos) Oq:=fun _ _ U H _ I h=>wpAny_Continue ⟨U,H,I,h⟩
theorem Inv.quiet {pins:List (Addr×Obj)} {U:St} {H:Hp} {s:Shared} (I:Inv X pins U H s):interactive X.env=false:=by simp [interactive,I.ok.kind]
def Bc (te:TE):TS:=fun D U H=>te U H fun _ H1=>D.nx U H1
theorem KN (he:PE X e te) (hs:autoParam (swapsWith e none pos.line X.env=pure false) L2.auto4._auto_1):PS X (.Expr e pos) (Bc te):=by
 intro pins s U H D I h
 exact wpAny_Expr_any (dM (he pins s U H _ I h) fun v s1 ⟨x,H1,I1,r1,q1⟩=>⟨U,H1,I1,q1⟩) I.quiet hs
def Qq (te:TE):TS:=fun D U H=>te U H D.rt
theorem Qs (he:PE X e te):PS X (.Return (some e) pos) (Qq te):=by
 intro pins s U H D I h
 exact wpAny_Return_some (dM (he pins s U H _ I h) fun v s1 ⟨x,H1,I1,r1,q1⟩=>⟨x,U,H1,I1,r1,q1⟩)
def FJ (c:TT) (t u:TS):TS:=fun D U H=>c U H fun b H1=>if b=true then t D U H1 else u D U H1
theorem Vh {c:Expr} {a b:List Stmt} {tc:TT} (hc:PT X c tc) (ha:PSs X a t) (hb:PSs X b u):PS X (.If c a b pos) (FJ tc t u):=by
 intro pins s U H D I h
 refine wpAny_If (dM (hc pins s U H _ I h) fun d s1 qq0=>?_)
 obtain ⟨H1,I1,q1⟩:=qq0
 cases d with
 | true=>exact ha pins s1 U H1 D I1 q1
 | false=>exact hb pins s1 U H1 D I1 q1
end
abbrev TG:=V->St->Hp->(St->Hp->Prop)->Prop
abbrev zp:=List V->St->Hp->(St->Hp->Prop)->Prop
def PG (X:Cx) (target:Expr) (t:TG):Prop:=
 ∀ (pins:List (Addr×Obj)) (s:Shared) (U:St) (H:Hp) (v:V) (u:Value) (Q:St->Hp->Prop),Inv X pins U H s->RelV v u->t v U H Q->
  wpAny (model X.prog X.w) X.A (assign target X.env u) (fun _ s'=>∃ U' H',Inv X pins U' H' s'/\Q U' H') X.xe s
def UL (X:Cx) (ts:List Expr) (t:zp):Prop:=
 ∀ (pins:List (Addr×Obj)) (s:Shared) (U:St) (H:Hp) (vs:List V) (us:List Value) (Q:St->Hp->Prop),Inv X pins U H s->Vals vs us->t vs U H Q->
  wpAny (model X.prog X.w) X.A (assignInOrder ((assignEach ts X.env).map (·.2)) us) (fun _ s'=>∃ U' H',Inv X pins U' H' s'/\Q U' H') X.xe s
abbrev zu:=V->V->V->Hp->(Hp->Prop)->Prop
def KQ (X:Cx) (t:zu):Prop:=
 ∀ (pins:List (Addr×Obj)) (s:Shared) (U:St) (H:Hp) (o i v:V) (ov iv u:Value) (Q:Hp->Prop),Inv X pins U H s->RelV o ov->RelV i iv->RelV v u->t o i v H Q->
  wpAny (model X.prog X.w) X.A (setItem ov iv u) (fun _ s'=>∃ H',Inv X pins U H' s'/\Q H') X.xe s
section
variable {X:Cx} {pos:Pos}
def mX (i:Nat):TG:=fun v U H Q=>Q (U.set i (some v)) H
theorem Bd {i:Nat} {x:Str} (hN:X.N.Nodup) (hi:X.N[i]?=some x) (hx:Loc X.env.scope x) (hf:autoParam (X.fn x=true\/X.env.scope.names.lookup x=some .local) L2.auto1._auto_1):PG X (.Name x pos) (mX i):=by
 intro pins s U H v u Q I r h
 exact wpAny_assign_Name (p8 I hN hi hx r (fun s' I'=>⟨_,H,I',h⟩) hf)
def Qt:zp:=fun vs U H Q=>vs=[]/\Q U H
def FN (t:TG) (u:zp):zp:=fun vs U H Q=>∃ v r,vs=v :: r/\t v U H fun U' H'=>u r U' H' Q
theorem KR:UL X [] Qt:=by
 intro pins s U H vs us Q I r h
 obtain ⟨e,h⟩:=h
 subst e
 cases r
 exact assignInOrder_nil ⟨U,H,I,h⟩
theorem FP {e:Expr} {es:List Expr} {t:TG} {u:zp} (h1:PG X e t) (h2:UL X es u)
  (hs:autoParam ((assignEach (e :: es) X.env).map (·.2)=assign e X.env :: (assignEach es X.env).map (·.2)) L2.auto4._auto_1):UL X (e :: es) (FN t u):=by
 intro pins s U H vs us Q I r h
 obtain ⟨v,vr,e1,h⟩:=h
 subst e1
 cases r with
 | cons r rr=>
  rw [hs]
  refine assignInOrder_cons (dM (h1 pins s U H _ _ _ I r h) fun _ s1 qq0=>?_)
  obtain ⟨σ1,H1,I1,q1⟩:=qq0
  exact h2 pins s1 σ1 H1 _ _ Q I1 rr q1
def KY (K:W.Frag) (n:Nat) (t:zp):TG:=fun v U H Q=>∃ a xs,v= .ref a/\SqT K H a xs/\xs.length=n/\t xs U H Q
theorem FQ {es:List Expr} {k:Nat} {t:zp} {n:Nat} (hc:X.calm=true) (h:UL X es t)
  (hn:autoParam ((assignEach es X.env).length=n) L2.auto4._auto_1) (hst:autoParam ((assignEach es X.env).findIdx? (·.1)=none) L2.auto4._auto_1):PG X (.Tuple es k pos) (KY X.K n t):=by
 intro pins s U H v u Q I r hw
 obtain ⟨a,xs,e1,hq,hl,hw⟩:=hw
 subst e1
 cases r
 obtain ⟨its,rv,ht,hz⟩:=I.tuple hq
 refine assign_Tuple_tuple (I.ok.hd hc) ht (by simp [hn,← hl,rv.length]) hst fun h' hx=>?_
 have I1:Inv X pins U H {s with heap:=h'}:=I.kept (t':=s.toks) fun b o e=>hx b o (ZG (Y7 e)) e
 exact h pins _ U H xs _ Q I1 (by simpa using rv) hw
def Qu (to ti:TE) (t:zu):TG:=fun v U H Q=>to U H fun o H1=>ti U H1 fun i H2=>t o i v H2 fun H3=>Q U H3
theorem Qv {o i:Expr} {to ti:TE} {t:zu} (ho:PE X o to) (hi:PE X i ti) (hs:KQ X t)
  (ha:∀ v,assign (.Subscript o i pos) X.env v=(do
   let ov ← holding [v] (eval o X.env)
   let iv ← holding [v,ov] (eval i X.env)
   standAt pos
   holding [v,ov,iv] (setItem ov iv v)
   release [v,ov,iv] []):=by intro _;rfl):PG X (.Subscript o i pos) (Qu to ti t):=by
 intro pins s U H v u Q I r h
 rw [ha]
 refine YK (Zz (dM (ho pins s U H _ I h) fun ov s1 qq0=>?_))
 obtain ⟨x,H1,I1,r1,q1⟩:=qq0
 refine YK (Zz (dM (hi pins s1 U H1 _ I1 q1) fun iv s2 qq0=>?_))
 obtain ⟨y,H2,I2,r2,q2⟩:=qq0
 refine YK (AbE (YK (Zz (dM (hs pins s2 U H2 x y v ov iv u _ I2 r1 r2 r q2) fun _ s3 qq0=>?_))))
 obtain ⟨H3,I3,q3⟩:=qq0
 exact wpAny_release ⟨U,H3,I3,q3⟩
def wO (te:TE) (g:TG):TS:=fun D U H=>te U H fun x H1=>g x U H1 D.nx
theorem FT {tg e:Expr} {te:TE} {g:TG} (he:PE X e te) (hg:PG X tg g) (hs:autoParam (swapsWithSole [tg] e pos.line X.env=pure false) L2.auto4._auto_1) (hw:autoParam (swappedStores [tg] e X.env=pure none) L2.auto4._auto_1)
  (h1:autoParam ((assignEach [tg] X.env).map (·.2)=[assign tg X.env]) L2.auto4._auto_1):PS X (.Assign [tg] e pos) (wO te g):=by
 intro pins s U H D I h
 refine wpAny_Assign_stores (dM (he pins s U H _ I h) fun v s1 qq0=>?_) hs hw
 obtain ⟨x,H1,I1,r1,q1⟩:=qq0
 rw [h1]
 exact dM (hg pins s1 U H1 x v _ I1 r1 q1) fun _ s2 q=>q
theorem FW {i:Nat} {x:Str} {e:Expr} {te:TE} {pos':Pos} (hN:X.N.Nodup) (hi:X.N[i]?=some x) (hx:Loc X.env.scope x) (he:PE X e te) (hs:autoParam (swapsWith e (some (.Name x pos')) pos.line X.env=pure false) L2.auto4._auto_1) (hf:autoParam (X.fn x=true\/X.env.scope.names.lookup x=some .local) L2.auto1._auto_1):
  PS X (.Assign [.Name x pos'] e pos) (wO te (mX i)):=by
 intro pins s U H D I h
 refine wpAny_Assign_Name (dM (he pins s U H _ I h) fun v s1 qq0=>?_) hs
 obtain ⟨y,H1,I1,r1,q1⟩:=qq0
 exact p8 I1 hN hi hx r1 (fun s2 I2=>⟨_,H1,I2,q1⟩) hf
end
structure It where
 go:Nat->Hp->Prop
 yld:Nat->Hp->V->Hp->Prop
 stop:Nat->Hp->Prop
def lE (X:Cx) (pins:List (Addr×Obj)) (H:Hp) (b:Addr):Prop:=
 H b=none/\b≠X.env.locals/\b ∉ X.fs/\(b∈X.ex\/X.s₀.heap.objs.size<=b)/\(∀ x c,X.env.cells.lookup x=some c->c≠b)/\∀ p∈X.pn ++ pins,p.1≠b
theorem Inv.fpOk {X:Cx} {pins:List (Addr×Obj)} {U:St} {H H':Hp} {s:Shared} {b:Addr} (I:Inv X pins U H s) (hb:s.heap.objs.size<=b) (hn:H' b=none):lE X pins H' b:=by
 refine ⟨hn,Abh (Zi I.lt hb),I.nofs hb,.inr (Aan I.sz hb),fun x c e z=>?_,fun p hp z=>?_⟩
 ·obtain ⟨v,q⟩:=I.cell x c e
  exact absurd (Zi q.lt (by rw [z];exact hb)) (Aal _)
 ·exact absurd (Zi (Y7 (I.pin p hp).1) (by rw [z];exact hb)) (Aal _)
structure Turn (P:Program) (w:World) (K:W.Frag) (tg:Expr) (J:It) (fp:List Addr) (it:Addr) (tn:Nat->Heap->Prop):Prop where
 mem:it∈fp
 obj:∀ i h,tn i h->∀ b∈fp,∃ o,h.get? b=some o/\∀ v,o.data≠.cell v
 keep:∀ i h h',tn i h->(∀ b∈fp,∀ o,h.get? b=some o->h'.get? b=some o)->tn i h'
 item:∀ (X:Cx),X.prog=P->X.w=w->X.K=K->X.calm=true->∀ (i:Nat) (pins:List (Addr×Obj)) (s:Shared) (U:St) (H:Hp) (E:Value->Shared->Prop),Inv X pins U H s->(∀ b∈fp,lE X pins H b)->tn i s.heap->J.go i H->
  wpAny (model P w) X.A (pyNext (.ref it)) (fun r s1=>∃ u,r=some u/\
   wpAny (model P w) X.A (letOwnedTupleGo tg (.ref it) u) (fun _ s2=>∃ x H',Inv X pins U H' s2/\RelV x u/\J.yld i H x H'/\tn (i+1) s2.heap/\∀ b∈fp,H' b=none) E s1) E s
 done:∀ (X:Cx),X.prog=P->X.w=w->X.K=K->X.calm=true->∀ (i:Nat) (pins:List (Addr×Obj)) (s:Shared) (U:St) (H:Hp) (E:Value->Shared->Prop),Inv X pins U H s->(∀ b∈fp,lE X pins H b)->tn i s.heap->J.stop i H->
  wpAny (model P w) X.A (pyNext (.ref it)) (fun r s1=>r=none/\Inv X pins U H s1) E s
 self:∀ (A:Around) (i:Nat) (s:Shared) (Q:Value->Shared->Prop) (E:Value->Shared->Prop),tn i s.heap->Q (.ref it) s->wpAny (model P w) A (pyIter (.ref it)) Q E s
abbrev TI:=St->Hp->(It->Hp->Prop)->Prop
def PIE (X:Cx) (pins:List (Addr×Obj)) (U:St) (tg:Expr) (R:It->Hp->Prop) (itv:Value) (s2:Shared):Prop:=
 ∃ (it:Addr) (fp:List Addr) (tn:Nat->Heap->Prop) (J:It) (H':Hp),itv= .ref it/\Inv X pins U H' s2/\Turn X.prog X.w X.K tg J fp it tn/\tn 0 s2.heap/\(∀ b∈fp,lE X pins H' b)/\R J H'
def PI (X:Cx) (tg iter:Expr) (wi:TI):Prop:=
 ∀ (pins:List (Addr×Obj)) (s:Shared) (U:St) (H:Hp) (R:It->Hp->Prop),Inv X pins U H s->wi U H R->
  wpAny (model X.prog X.w) X.A (eval iter X.env) (fun v s1=>wpAny (model X.prog X.w) X.A (pyIter v) (PIE X pins U tg R) X.xe s1) X.xe s
theorem yl {M:Model} {A:Around} {E:Value->Shared->Prop} {s:Shared} {tg:Expr} {it:Addr} {u:Value} {o:Obj} {n:String} {vs:Array Value} {Q:Unit->Shared->Prop} (ho:s.heap.get? it=some o) (hc:o.cls= .type n) (hd:o.data= .fields vs)
  (hn:["enumerate","zip","dict_itemiterator","dict_reverseitemiterator","odict_iterator","itertools.zip_longest","itertools.pairwise"].contains n=false) (hQ:Q () s):wpAny M A (letOwnedTupleGo tg (.ref it) u) Q E s:=by
 unfold letOwnedTupleGo
 cases tg <;> first
  | exact YM hQ
  | (cases u <;> first
    | exact YM hQ
    | (refine YK (wpAny_load ho ?_)
       rw [hc,hd]
       show wpAny M A (if (["enumerate","zip","dict_itemiterator","dict_reverseitemiterator","odict_iterator","itertools.zip_longest","itertools.pairwise"].contains n && vs[0]? == some (rawInt _))=true then _ else _) Q E s
       rw [if_neg (by intro h;rw [hn,AaF] at h;cases h)]
       exact YM hQ))
def Ot (K:W.Frag) (a:Addr):It:=
 ⟨fun i H=>∃ xs x,SqL K H a xs/\xs[i]?=some x,fun i H x H'=>H'=H/\∀ xs,SqL K H a xs->xs[i]?=some x,fun i H=>∃ xs,SqL K H a xs/\xs.length<=i⟩
def Vi (K:W.Frag) (a:Addr):It:=
 ⟨fun i H=>∃ xs x,SqT K H a xs/\xs[i]?=some x,fun i H x H'=>H'=H/\∀ xs,SqT K H a xs->xs[i]?=some x,fun i H=>∃ xs,SqT K H a xs/\xs.length<=i⟩
def KZ (lo:Int) (n:Nat):It:=⟨fun i _=>i < n,fun i H x H'=>H'=H/\x= .int (lo+i),fun i _=>n<=i⟩
theorem CK {P:Program} {w:World} {K:W.Frag} {tg:Expr} (a it:Addr):Turn P w K tg (Ot K a) [it] it (fun i h=>h.IsListIter it a i) where
 mem:=by simp
 obj:=fun i h st b hb=>by
  have e:b=it:=by simpa using hb
  subst e
  obtain ⟨o,e,c,d⟩:=st
  exact ⟨o,e,fun v z=>by rw [d] at z;cases z⟩
 keep:=fun i h h' st k=>st.at fun o e=>k it (by simp) o e
 item:=by
  intro X hP hw hK hc i pins s U H E I hf st hg
  subst hP hw hK
  obtain ⟨xs,x,hq,hx⟩:=hg
  obtain ⟨its,rv,p,hz⟩:=I.list hq
  obtain ⟨u,hu,ru⟩:=rv.get hx
  obtain ⟨f0,f1,f2,f3,f4,f5⟩:=hf it (by simp)
  refine wpAny_pyNext_list_item st p.isList (x:=u) (by simpa using hu) fun h' st' sb=>?_
  have I1:Inv X pins U H {s with heap:=h'}:=I.turned (t':=s.toks) (fun b o hb e=>(sb.2 b hb).trans e) f0 f1 f3 f4 f5
  obtain ⟨o,e,c,d⟩:=id st'
  exact ⟨u,rfl,yl (s:={s with heap:=h'}) e c d (by decide) ⟨x,H,I1,ru,⟨rfl,fun ys hy=>by rw [I.list_inj hy hq];exact hx⟩,st',fun b hb=>(hf b hb).1⟩⟩
 done:=by
  intro X hP hw hK hc i pins s U H E I hf st hg
  subst hP hw hK
  obtain ⟨xs,hq,hx⟩:=hg
  obtain ⟨its,rv,p,hz⟩:=I.list hq
  obtain ⟨f0,f1,f2,f3,f4,f5⟩:=hf it (by simp)
  have hl:=rv.length
  exact wpAny_pyNext_list_end (I.ok.hd hc) st p.isList (by simp;omega) fun h' eb=>⟨rfl,I.turned (t':=s.toks) (fun b o hb e=>eb b o hb e) f0 f1 f3 f4 f5⟩
 self:=fun _ _ _ _ _ st h=>wpAny_pyIter_listiter st h
theorem zx {P:Program} {w:World} {K:W.Frag} {tg:Expr} (a it:Addr):Turn P w K tg (Vi K a) [it] it (fun i h=>h.IsTupleIter it a i) where
 mem:=by simp
 obj:=fun i h st b hb=>by
  have e:b=it:=by simpa using hb
  subst e
  obtain ⟨o,e,c,d⟩:=st
  exact ⟨o,e,fun v z=>by rw [d] at z;cases z⟩
 keep:=fun i h h' st k=>st.at fun o e=>k it (by simp) o e
 item:=by
  intro X hP hw hK hc i pins s U H E I hf st hg
  subst hP hw hK
  obtain ⟨xs,x,hq,hx⟩:=hg
  obtain ⟨its,rv,p,hz⟩:=I.tuple hq
  obtain ⟨u,hu,ru⟩:=rv.get hx
  obtain ⟨f0,f1,f2,f3,f4,f5⟩:=hf it (by simp)
  refine wpAny_pyNext_tuple_item st (show s.heap.IsTuple a its.toArray from p) (x:=u) (by simpa using hu) fun h' st' sb=>?_
  have I1:Inv X pins U H {s with heap:=h'}:=I.turned (t':=s.toks) (fun b o hb e=>(sb.2 b hb).trans e) f0 f1 f3 f4 f5
  obtain ⟨o,e,c,d⟩:=id st'
  exact ⟨u,rfl,yl (s:={s with heap:=h'}) e c d (by decide) ⟨x,H,I1,ru,⟨rfl,fun ys hy=>by rw [I.tuple_inj hy hq];exact hx⟩,st',fun b hb=>(hf b hb).1⟩⟩
 done:=by
  intro X hP hw hK hc i pins s U H E I hf st hg
  subst hP hw hK
  obtain ⟨xs,hq,hx⟩:=hg
  obtain ⟨its,rv,p,hz⟩:=I.tuple hq
  obtain ⟨f0,f1,f2,f3,f4,f5⟩:=hf it (by simp)
  have hl:=rv.length
  exact wpAny_pyNext_tuple_end (I.ok.hd hc) st (show s.heap.IsTuple a its.toArray from p) (by simp;omega) fun h' eb=>⟨rfl,I.turned (t':=s.toks) (fun b o hb e=>eb b o hb e) f0 f1 f3 f4 f5⟩
 self:=fun _ _ _ _ _ st h=>wpAny_pyIter_tupleiter st h
theorem zy {P:Program} {w:World} {K:W.Frag} {tg:Expr} (it:Addr) (lo:Int) (n:Nat):Turn P w K tg (KZ lo n) [it] it (fun i h=>IsRangeIter h it (lo+(i:Nat)*1) ((n:Int) - (i:Nat)) 1) where
 mem:=by simp
 obj:=fun i h st b hb=>by
  have e:b=it:=by simpa using hb
  subst e
  exact ⟨_,st,fun v z=>by
   have z':Data.fields _=Data.cell v:=z
   cases z'⟩
 keep:=fun i h h' st k=>k it (by simp) _ st
 item:=by
  intro X hP hw hK hc i pins s U H E I hf st hg
  subst hP hw hK
  obtain ⟨f0,f1,f2,f3,f4,f5⟩:=hf it (by simp)
  have W:=Walks.range (prog:=X.prog) (w:=X.w) (I.ok.hd hc) it lo 1 n
  refine W.item i s _ _ hg st fun v h' tk hv st' kk=>?_
  obtain ⟨t,rfl⟩:=hv
  have I1:Inv X pins U H {s with heap:=h',toks:=tk}:=I.turned (fun b o hb e=>kk b o (by simpa using hb) e) f0 f1 f3 f4 f5
  refine ⟨_,rfl,yl (s:={s with heap:=h',toks:=tk}) (n:="range_iterator") st' rfl rfl (by decide) ⟨.int (lo+i),H,I1,⟨t,?_⟩,⟨rfl,rfl⟩,st',fun b hb=>(hf b hb).1⟩⟩
  rw [Int.mul_one]
 done:=by
  intro X hP hw hK hc i pins s U H E I hf st hg
  subst hP hw hK
  obtain ⟨f0,f1,f2,f3,f4,f5⟩:=hf it (by simp)
  exact wpAny_pyNext_range_end (I.ok.hd hc) st (by have:n<=i:=hg;omega) fun h' eb=>⟨rfl,I.turned (t':=s.toks) (fun b o hb e=>eb b o hb e) f0 f1 f3 f4 f5⟩
 self:=fun _ _ _ _ _ st h=>wpAny_pyIter_rangeiter st h
section
variable {X:Cx} {tg:Expr}
theorem FZ {pins:List (Addr×Obj)} {U:St} {H:Hp} {s:Shared} {R:It->Hp->Prop} {E:Value->Shared->Prop} {lo hi:Int} {t u v:Tok} {tk:Nat} (I:Inv X pins U H s) (h1: -(2 ^ 62)<=lo) (h2:lo < 2 ^ 62) (h3: -(2 ^ 62)<=hi) (h4:hi < 2 ^ 62)
  (q:R (KZ lo (hi - lo).toNat) H):wpAny (model X.prog X.w) X.A (pyIter (.ref s.heap.objs.size)) (PIE X pins U tg R) E {s with heap:=s.heap.push {cls:=.type "range",data:=.fields #[.int lo t,.int hi u,.int 1 v]},toks:=tk}:=by
 refine wpAny_pyIter_range (IsRange.new ..) (small_one h1 h2 h3 h4) ?_
 have I1:Inv X pins U H {s with heap:=s.heap.push {cls:=.type "range",data:=.fields #[.int lo t,.int hi u,.int 1 v]},toks:=tk}:=I.kept fun b o e=>YT _ e
 refine ⟨(s.heap.push {cls:=.type "range",data:=.fields #[.int lo t,.int hi u,.int 1 v]}).objs.size,[(s.heap.push {cls:=.type "range",data:=.fields #[.int lo t,.int hi u,.int 1 v]}).objs.size],_,_,H,rfl,
  I1.kept (t':=tk) fun b o e=>YT _ e,zy _ lo (hi - lo).toNat,?_,fun b hb=>?_,q⟩
 ·have e1:lo+((0:Nat):Int)*1=lo:=by simp
  have e2:(((hi - lo).toNat:Nat):Int) - ((0:Nat):Int)=Builtin.Range.rangeSize lo hi 1:=by rw [rangeSize_one];split <;> omega
  show IsRangeIter _ _ (lo+((0:Nat):Int)*1) ((((hi - lo).toNat:Nat):Int) - ((0:Nat):Int)) 1
  rw [e1,e2]
  exact Y6 _ rfl
 ·have e:b=(s.heap.push {cls:=.type "range",data:=.fields #[.int lo t,.int hi u,.int 1 v]}).objs.size:=by simpa using hb
  subst e
  exact I1.fpOk (YW _) (I1.hok.fresh (YW _))
def Ga (ta:TA):TI:=fun U H R=>ta U H fun vs H1=>∃ j:Int,vs=[.int j]/\-(2 ^ 62)<=j/\j < 2 ^ 62/\R (KZ 0 j.toNat) H1
theorem CN {a:Expr} {ta:TA} {p pos:Pos} (hg:Gl X "range") (hm:X.mg "range"=none) (ha:PA X [a] ta) (hs:autoParam (starEach [a] X.env=[(false,eval a X.env)]) L2.auto4._auto_1):PI X tg (.Call (.Name "range" p) [a] [] pos) (Ga ta):=by
 intro pins s U H R I h
 refine Call_ (t8 I hg hm boot_range (PyProof.Rows.callWith_type1 (dM (ha pos pins s U H _ I h) fun us s1 ⟨vs,H1,I1,r1,q1⟩=>?_) hs rfl))
 obtain ⟨j,e,q1,q2,q⟩:=q1
 subst e
 cases r1 with
 | cons r rr=>
  cases rr
  obtain ⟨t,rfl⟩:=r
  exact call_range_1 (FZ I1 (by omega) (by omega) q1 q2 (by simpa using q))
def K1 (wi:TI) (g:TG) (tb:TS):TS:=fun D U H=>wi U H fun J H1=>∃ W:Nat->Nat->St->Hp->Prop,(∃ m,W 0 m U H1)/\∀ i m U H,W i m U H->
 (J.stop i H/\D.nx U H)\/(J.go i H/\∃ N:St->Hp->Prop,(∀ U' H',N U' H'->∃ m',m' < m/\W (i+1) m' U' H')/\∀ x H',J.yld i H x H'->g x U H' fun σ2 H2=>tb {D with nx:=N,ct:=N,bk:=D.nx} σ2 H2)
def qU (fp:List Addr) (h:Heap):List (Addr×Obj):=fp.filterMap fun b=>(h.get? b).map fun o=>(b,o)
theorem lZ {fp:List Addr} {h:Heap} {b:Addr} {o:Obj} (hb:b∈fp) (e:h.get? b=some o):(b,o)∈qU fp h:=List.mem_filterMap.mpr ⟨b,hb,by rw [e];rfl⟩
theorem CP {fp:List Addr} {h:Heap} {p:Addr×Obj} (hp:p∈qU fp h):p.1∈fp/\h.get? p.1=some p.2:=by
 obtain ⟨b,hb,e⟩:=List.mem_filterMap.mp hp
 cases q:h.get? b with
 | none=>rw [q] at e;cases e
 | some o=>
  rw [q] at e
  have e':(b,o)=p:=Zn e
  subst e'
  exact ⟨hb,q⟩
theorem Inv.pinned {pins:List (Addr×Obj)} {U:St} {H:Hp} {s:Shared} {fp:List Addr} (I:Inv X pins U H s) (hf:∀ b∈fp,lE X pins H b) (ho:∀ b∈fp,∃ o,s.heap.get? b=some o/\∀ v,o.data≠.cell v):Inv X (pins ++ qU fp s.heap) U H s:=
 I.pins_of fun p hp=>(Y8.mp hp).elim (fun z=>I.pin p (Za _ z)) fun z=>by
  obtain ⟨hb,e⟩:=CP z
  obtain ⟨f0,f1,f2,_⟩:=hf p.1 hb
  obtain ⟨o,e',d⟩:=ho p.1 hb
  rw [e] at e';cases e'
  exact ⟨e,f0,f1,f2,d⟩
theorem Inv.unpinned {pins pl:List (Addr×Obj)} {U:St} {H:Hp} {s:Shared} (I:Inv X (pins ++ pl) U H s):Inv X pins U H s:=I.pins_of fun p hp=>I.pin p (Za _ (Zy _ hp))
theorem Qw {iter:Expr} {body:List Stmt} {wi:TI} {g:TG} {tb:TS} {pos:Pos} (hp:PassesOwn (model X.prog X.w) X.A X.env X.xe) (hc:X.calm=true) (hi:PI X tg iter wi) (hg:PG X tg g) (hb:PSs X body tb)
  (hs:autoParam (∀ x,foldedSetIterable iter X.env x=pure x) L2.auto3._auto_1):PS X (.For tg iter body [] pos) (K1 wi g tb):=by
 intro pins s U H D I h
 refine wpAny_For (dM (hi pins s U H _ I h) fun v s1 h1=>dM h1 fun itv s2 h2=>?_) hs
 obtain ⟨it,fp,tn,J,H2,e,I2,T,st2,f2,W,⟨m0,w0⟩,turn⟩:=h2
 subst e
 have stat:∀ {H':Hp},(∀ b∈fp,H' b=none)->∀ b∈fp,lE X pins H' b:=fun hn b hb=>⟨hn b hb,(f2 b hb).2⟩
 refine codeAny_forLoop_any (fun n s'=>∃ i U' H',Inv X pins U' H' s'/\tn i s'.heap/\(∀ b∈fp,H' b=none)/\W i n U' H') ?_ m0 ⟨0,U,H2,I2,st2,fun b hb=>(f2 b hb).1,w0⟩
 rintro n s3 ⟨i,σ3,H3,I3,st3,fr3,w3⟩
 rcases turn i n σ3 H3 w3 with ⟨stop,qn⟩ | ⟨go,N,hN,step⟩
 ·refine wpAny_passesOwn hp (dM (T.done X rfl rfl rfl hc i pins s3 σ3 H3 X.xe I3 (stat fr3) st3 stop) fun r s4 qq0=>?_)
  obtain ⟨hr,I4⟩:=qq0
  subst hr
  exact wpAny_execs_nil ⟨σ3,H3,I4,qn⟩
 ·refine wpAny_passesOwn hp (dM (T.item X rfl rfl rfl hc i pins s3 σ3 H3 X.xe I3 (stat fr3) st3 go) fun r s4 qq0=>?_)
  obtain ⟨u,hr,h4⟩:=qq0
  subst hr
  refine wpAny_passesOwn hp (dM h4 fun _ s5 qq0=>?_)
  obtain ⟨x,H5,I5,r5,y5,st5,fr5⟩:=qq0
  have I5':=I5.pinned (stat fr5) (T.obj _ _ st5)
  refine wpAny_passesOwn hp (dM (hg _ s5 σ3 H5 x u _ I5' r5 (step x H5 y5)) fun _ s6 qq0=>?_)
  obtain ⟨σ6,H6,I6,q6⟩:=qq0
  refine wpAny_passesOwn hp (dM (hb _ s6 σ6 H6 _ I6 q6) fun f s7 q7=>?_)
  have again:∀ {σ7:St} {H7:Hp},Inv X (pins ++ qU fp s5.heap) σ7 H7 s7->N σ7 H7->∃ m,m < n/\∃ i U' H',Inv X pins U' H' s7/\tn i s7.heap/\(∀ b∈fp,H' b=none)/\W i m U' H':=fun {σ7 H7} I7 n7=>by
   obtain ⟨m',hm,w7⟩:=hN σ7 H7 n7
   refine ⟨m',hm,i+1,σ7,H7,I7.unpinned,T.keep _ _ _ st5 fun b hb o e=>(I7.pin (b,o) (Za _ (Za _ (lZ hb e)))).1,fun b hb=>?_,w7⟩
   obtain ⟨o,e,d⟩:=T.obj _ _ st5 b hb
   exact (I7.pin (b,o) (Za _ (Za _ (lZ hb e)))).2.1
  cases f with
  | next=>obtain ⟨σ7,H7,I7,n7⟩:=q7;exact again I7 n7
  | cont=>obtain ⟨σ7,H7,I7,n7⟩:=q7;exact again I7 n7
  | brk=>obtain ⟨σ7,H7,I7,q7⟩:=q7;exact ⟨σ7,H7,I7.unpinned,q7⟩
  | ret v=>obtain ⟨x7,σ7,H7,I7,r7,q7⟩:=q7;exact ⟨x7,σ7,H7,I7.unpinned,r7,q7⟩
end
theorem gC {K:W.Frag} {a:Addr} {xs:List V} {g:TG} {tb:TS} {D:Ends} {U:St} {H:Hp} (Pv:Nat->St->Hp->Prop) (h0:Pv 0 U H) (hl:∀ i U H,i<=xs.length->Pv i U H->SqL K H a xs)
  (hs:∀ i x U H,xs[i]?=some x->Pv i U H->g x U H fun σ2 H2=>tb {D with nx:=Pv (i+1),ct:=Pv (i+1),bk:=D.nx} σ2 H2) (hd:∀ U H,Pv xs.length U H->D.nx U H):
  ∃ W:Nat->Nat->St->Hp->Prop,(∃ m,W 0 m U H)/\∀ i m U H,W i m U H->
   ((Ot K a).stop i H/\D.nx U H)\/((Ot K a).go i H/\∃ N:St->Hp->Prop,(∀ U' H',N U' H'->∃ m',m' < m/\W (i+1) m' U' H')/\∀ x H',(Ot K a).yld i H x H'->g x U H' fun σ2 H2=>tb {D with nx:=N,ct:=N,bk:=D.nx} σ2 H2):=by
 refine ⟨fun i m U H=>m=xs.length - i/\i<=xs.length/\Pv i U H,⟨xs.length,by simp,Aaj _,h0⟩,?_⟩
 rintro i m U H ⟨rfl,hi,p⟩
 have q:=hl i U H hi p
 by_cases hlt:i < xs.length
 ·refine .inr ⟨⟨xs,xs[i],q,by simp [hlt]⟩,Pv (i+1),fun U' H' p'=>⟨xs.length - (i+1),by omega,rfl,hlt,p'⟩,fun x H' y=>?_⟩
  obtain ⟨e,y⟩:=y
  subst e
  exact hs i x U _ (y xs q) p
 ·have e:i=xs.length:=by omega
  subst e
  exact .inl ⟨⟨xs,q,YW _⟩,hd U H p⟩
theorem jg {lo:Int} {n:Nat} {g:TG} {tb:TS} {D:Ends} {U:St} {H:Hp} (Pv:Nat->St->Hp->Prop) (h0:Pv 0 U H)
  (hs:∀ i U H,i < n->Pv i U H->g (.int (lo+i)) U H fun σ2 H2=>tb {D with nx:=Pv (i+1),ct:=Pv (i+1),bk:=D.nx} σ2 H2) (hd:∀ U H,Pv n U H->D.nx U H):
  ∃ W:Nat->Nat->St->Hp->Prop,(∃ m,W 0 m U H)/\∀ i m U H,W i m U H->
   ((KZ lo n).stop i H/\D.nx U H)\/((KZ lo n).go i H/\∃ N:St->Hp->Prop,(∀ U' H',N U' H'->∃ m',m' < m/\W (i+1) m' U' H')/\∀ x H',(KZ lo n).yld i H x H'->g x U H' fun σ2 H2=>tb {D with nx:=N,ct:=N,bk:=D.nx} σ2 H2):=by
 refine ⟨fun i m U H=>m=n - i/\i<=n/\Pv i U H,⟨n,by simp,Aaj _,h0⟩,?_⟩
 rintro i m U H ⟨rfl,hi,p⟩
 by_cases hlt:i < n
 ·refine .inr ⟨hlt,Pv (i+1),fun U' H' p'=>⟨n - (i+1),by omega,rfl,hlt,p'⟩,fun x H' y=>?_⟩
  obtain ⟨e,y⟩:=y
  subst e y
  exact hs i U _ hlt p
 ·have e:i=n:=by omega
  subst e
  exact .inl ⟨YW _,hd U H p⟩
abbrev R2:=V->V->Hp->VK->Prop
def OpR (X:Cx) (f:Value->Value->Sem Value) (r:R2):Prop:=
 ∀ (pins:List (Addr×Obj)) (s:Shared) (U:St) (H:Hp) (x y:V) (v u:Value) (Q:VK),Inv X pins U H s->RelV x v->RelV y u->r x y H Q->
  wpAny (model X.prog X.w) X.A (f v u) (EP X pins U Q) X.xe s
def Yu (X:Cx) (f:Value->Sem Value) (r:V->Hp->VK->Prop):Prop:=
 ∀ (pins:List (Addr×Obj)) (s:Shared) (U:St) (H:Hp) (x:V) (v:Value) (Q:VK),Inv X pins U H s->RelV x v->r x H Q->
  wpAny (model X.prog X.w) X.A (f v) (EP X pins U Q) X.xe s
def CallR (X:Cx) (f:Value) (r:List V->Hp->VK->Prop):Prop:=
 ∀ (pins:List (Addr×Obj)) (s:Shared) (U:St) (H:Hp) (xs:List V) (us:List Value) (Q:VK),Inv X pins U H s->Vals xs us->r xs H Q->
  wpAny (model X.prog X.w) X.A (call f us) (EP X pins U Q) X.xe s
def Kq (r:R2) (ta tb:TE):TE:=fun U H Q=>ta U H fun x H1=>tb U H1 fun y H2=>r x y H2 Q
def tUn (r:V->Hp->VK->Prop) (ta:TE):TE:=fun U H Q=>ta U H fun x H1=>r x H1 Q
def rI (C:Int->Int->Prop) (g:Int->Int->V):R2:=fun x y H Q=>∃ i j,x= .int i/\y= .int j/\C i j/\Q (g i j) H
def Gb (g:Int->Int->V):R2:=fun x y H Q=>∃ i j,x= .int i/\y= .int j/\Q (g i j) H
def rU (g:Int->V):V->Hp->VK->Prop:=fun x H Q=>∃ i,x= .int i/\Q (g i) H
section
variable {X:Cx} {a b c:Expr} {ta tb tc:TE} {pos:Pos}
theorem Qx (ha:PE X a ta) (hb:PE X b tb) {pins:List (Addr×Obj)} {s:Shared} {U:St} {H:Hp} {R:V->V->Hp->Prop} (I:Inv X pins U H s)
  (h:ta U H fun x H1=>tb U H1 fun y H2=>R x y H2) {Q:Value->Shared->Prop} {f:Value->Value->Sem Value}
  (hf:∀ v u s2 x y H2,Inv X pins U H2 s2->RelV x v->RelV y u->R x y H2->wpAny (model X.prog X.w) X.A (f v u) Q X.xe s2):
  wpAny (model X.prog X.w) X.A (eval a X.env) (fun v s₁=>wpAny (model X.prog X.w) X.A (eval b X.env) (fun u s₂=>wpAny (model X.prog X.w) X.A (f v u) Q X.xe s₂) X.xe s₁) X.xe s:=by
 refine dM (ha pins s U H _ I h) fun v s1 qq0=>?_
 obtain ⟨x,H1,I1,r1,q1⟩:=qq0
 refine dM (hb pins s1 U H1 _ I1 q1) fun u s2 qq0=>?_
 obtain ⟨y,H2,I2,r2,q2⟩:=qq0
 exact hf v u s2 x y H2 I2 r1 r2 q2
theorem Vj {op:Operator} {r:R2} (ho:OpR X (binaryOp op) r) (ha:PE X a ta) (hb:PE X b tb):PE X (.BinOp a op b pos) (Kq r ta tb):=by
 intro pins s U H Q I h
 exact wpAny_BinOp (Qx ha hb I h fun v u s2 x y H2 I2 rx ry q=>ho pins s2 U H2 x y v u Q I2 rx ry q)
theorem Vk {op:UnaryOp} {r:V->Hp->VK->Prop} (ho:Yu X (unaryOp op) r) (ha:PE X a ta):PE X (.UnaryOp op a pos) (tUn r ta):=by
 intro pins s U H Q I h
 exact UnaryOp_ (dM (ha pins s U H _ I h) fun v s1 ⟨x,H1,I1,r1,q1⟩=>ho pins s1 U H1 x v Q I1 r1 q1)
theorem Yv {f:Value->Value->Sem Value} {C:Int->Int->Prop} {g:Int->Int->Int}
  (rule:∀ (i j:Int) (t u:Tok) (s:Shared) (Q:Value->Shared->Prop) (E:Value->Shared->Prop),C i j->Q (.int (g i j) s.toks) {s with toks:=s.toks+1}->wpAny (model X.prog X.w) X.A (f (.int i t) (.int j u)) Q E s):
  OpR X f (rI C fun i j=>.int (g i j)):=by
 intro pins s U H x y v u Q I rx ry h
 obtain ⟨i,j,rfl,rfl,hc,q⟩:=h
 obtain ⟨t,rfl⟩:=rx
 obtain ⟨t',rfl⟩:=ry
 exact rule i j t t' s _ _ hc ⟨.int (g i j),H,I.tok _,⟨_,rfl⟩,q⟩
theorem Vl {f:Value->Value->Sem Value} {g:Int->Int->Int}
  (rule:∀ (i j:Int) (t u:Tok) (s:Shared) (Q:Value->Shared->Prop) (E:Value->Shared->Prop),Q (.int (g i j) s.toks) {s with toks:=s.toks+1}->wpAny (model X.prog X.w) X.A (f (.int i t) (.int j u)) Q E s):
  OpR X f (Gb fun i j=>.int (g i j)):=by
 intro pins s U H x y v u Q I rx ry h
 obtain ⟨i,j,rfl,rfl,q⟩:=h
 obtain ⟨t,rfl⟩:=rx
 obtain ⟨t',rfl⟩:=ry
 exact rule i j t t' s _ _ ⟨.int (g i j),H,I.tok _,⟨_,rfl⟩,q⟩
theorem K3 {f:Value->Value->Sem Value} {g:Int->Int->Bool}
  (rule:∀ (i j:Int) (t u:Tok) (s:Shared) (Q:Value->Shared->Prop) (E:Value->Shared->Prop),Q (.bool (g i j)) s->wpAny (model X.prog X.w) X.A (f (.int i t) (.int j u)) Q E s):
  OpR X f (Gb fun i j=>.bl (g i j)):=by
 intro pins s U H x y v u Q I rx ry h
 obtain ⟨i,j,rfl,rfl,q⟩:=h
 obtain ⟨t,rfl⟩:=rx
 obtain ⟨t',rfl⟩:=ry
 exact rule i j t t' s _ _ ⟨.bl (g i j),H,I,rfl,q⟩
def CPow (i j:Int):Prop:=0<=j/\j<=1000000/\i.natAbs < 2 ^ 64
def CMul (i j:Int):Prop:=(-(2 ^ 64) < i/\i < 2 ^ 64)\/(-(2 ^ 64) < j/\j < 2 ^ 64)
theorem CMul.ok {i j:Int} (h:CMul i j):IntMulOk i j:=by
 rcases h with ⟨h1,h2⟩ | ⟨h1,h2⟩
 ·exact .of_left (intBits_le_64 h1 h2)
 ·exact .of_right (intBits_le_64 h1 h2)
theorem Qy:OpR X (binaryOp .Add) (Gb fun i j=>.int (i+j)):=Vl fun _ _ _ _ _ _ _ q=>add_int q
theorem pK:OpR X (binaryOp .Sub) (Gb fun i j=>.int (i - j)):=Vl fun _ _ _ _ _ _ _ q=>sub_int q
theorem Qz:OpR X (binaryOp .Mult) (rI CMul fun i j=>.int (i*j)):=Yv fun _ _ _ _ _ _ _ hc q=>mul_int q hc.ok
theorem dW:OpR X (binaryOp .Mod) (rI (fun _ j=>0 < j) fun i j=>.int (i % j)):=Yv fun i j _ _ _ _ _ hc q=>by
 have h1:(0:Int) < j:=hc
 exact mod_int' (by omega) (by rw [Int.fmod_eq_emod_of_nonneg i (by omega)];exact q)
theorem Gd:OpR X (binaryOp .Pow) (rI CPow fun i j=>.int (i ^ j.toNat)):=Yv fun _ _ _ _ _ _ _ hc q=>pow_int_small hc.1 hc.2.1 hc.2.2 q
theorem unI {f:Value->Sem Value} {g:Int->Int}
  (rule:∀ (i:Int) (t:Tok) (s:Shared) (Q:Value->Shared->Prop) (E:Value->Shared->Prop),Q (.int (g i) s.toks) {s with toks:=s.toks+1}->wpAny (model X.prog X.w) X.A (f (.int i t)) Q E s):
  Yu X f (rU fun i=>.int (g i)):=by
 intro pins s U H x v Q I rx h
 obtain ⟨i,rfl,q⟩:=h
 obtain ⟨t,rfl⟩:=rx
 exact rule i t s _ _ ⟨.int (g i),H,I.tok _,⟨_,rfl⟩,q⟩
theorem ud:Yu X (unaryOp .USub) (rU fun i=>.int (-i)):=unI fun _ _ _ _ _ q=>neg_int q
end
def Vm:V->V->Bool
 | .non,.non=>true | .non,.int _=>true | .int _,.non=>true | .non,.bl _=>true | .bl _,.non=>true | .non,.str _=>true | .str _,.non=>true
 | .int _,.int _=>true | .bl _,.bl _=>true | .str _,.str _=>true | .byt _,.byt _=>true
 | .int _,.str _=>true | .str _,.int _=>true | .bl _,.str _=>true | .str _,.bl _=>true
 | _,_=>false
def rEq:R2:=fun x y H Q=>Vm x y=true/\Q (.bl (decide (x=y))) H
def rNe:R2:=fun x y H Q=>Vm x y=true/\Q (.bl (!decide (x=y))) H
theorem Be {i j:Int}:decide (V.int i=V.int j)=(i == j):=by
 rw [Bool.eq_iff_iff]
 simp
theorem Ge {i j:Bool}:decide (V.bl i=V.bl j)=(i == j):=by
 rw [Bool.eq_iff_iff]
 simp
theorem Bf {i j:Str}:decide (V.str i=V.str j)=(i == j):=by
 rw [Bool.eq_iff_iff]
 simp
theorem Bg {i j:Array UInt8}:decide (V.byt i=V.byt j)=(i.toList == j.toList):=by
 rw [Bool.eq_iff_iff]
 cases i
 cases j
 simp
section
variable {X:Cx} {a b c:Expr} {ta tb tc:TE} {pos:Pos}
theorem bQ {pins:List (Addr×Obj)} {U:St} {H:Hp} {s:Shared} {Q:VK} {k k':Bool} (I:Inv X pins U H s) (q:Q (.bl k) H) (e:k=k'):EP X pins U Q (.bool k') s:=by
 subst e
 exact ⟨.bl k,H,I,rfl,q⟩
theorem Vn:OpR X (compareOp .Eq) rEq:=by
 intro pins s U H x y v u Q I rx ry h
 obtain ⟨hs,q⟩:=h
 cases x with
 | non=>
  cases rx
  cases y with
  | non=>cases ry;exact PySem.EqNone.eq_none_none (bQ I q (by simp))
  | bl j=>cases ry;exact PySem.EqNone.eq_none_bool (bQ I q (by simp))
  | int j=>obtain ⟨t',rfl⟩:=ry;exact PySem.EqNone.eq_none_int (bQ I q (by simp))
  | str j=>obtain ⟨t',rfl⟩:=ry;exact PySem.EqNone.eq_none_str (bQ I q (by simp))
  | _=>exact absurd (show false=true from hs) Y4
 | bl i=>
  cases rx
  cases y with
  | non=>cases ry;exact PySem.EqNone.eq_bool_none (bQ I q (by simp))
  | bl j=>cases ry;exact eq_bool (bQ I q Ge)
  | str j=>obtain ⟨t',rfl⟩:=ry;exact PySem.EqMixed.eq_bool_str (bQ I q (by simp))
  | _=>exact absurd (show false=true from hs) Y4
 | int i=>
  obtain ⟨t,rfl⟩:=rx
  cases y with
  | non=>cases ry;exact PySem.EqNone.eq_int_none (bQ I q (by simp))
  | int j=>obtain ⟨t',rfl⟩:=ry;exact eq_int (bQ I q Be)
  | str j=>obtain ⟨t',rfl⟩:=ry;exact PySem.EqMixed.eq_int_str (bQ I q (by simp))
  | _=>exact absurd (show false=true from hs) Y4
 | str i=>
  obtain ⟨t,rfl⟩:=rx
  cases y with
  | non=>cases ry;exact PySem.EqNone.eq_str_none (bQ I q (by simp))
  | bl j=>cases ry;exact PySem.EqMixed.eq_str_bool (bQ I q (by simp))
  | int j=>obtain ⟨t',rfl⟩:=ry;exact PySem.EqMixed.eq_str_int (bQ I q (by simp))
  | str j=>obtain ⟨t',rfl⟩:=ry;exact eq_str (bQ I q Bf)
  | _=>exact absurd (show false=true from hs) Y4
 | byt i=>
  obtain ⟨t,rfl⟩:=rx
  cases y with
  | byt j=>obtain ⟨t',rfl⟩:=ry;exact PySem.W.eq_bytes (bQ I q Bg)
  | _=>exact absurd (show false=true from hs) Y4
 | _=>cases y <;> exact absurd (show false=true from hs) Y4
theorem Vo:OpR X (compareOp .NotEq) rNe:=by
 intro pins s U H x y v u Q I rx ry h
 obtain ⟨hs,q⟩:=h
 cases x with
 | non=>
  cases rx
  cases y with
  | non=>cases ry;exact PySem.EqNone.ne_none_none (bQ I q (by simp))
  | bl j=>cases ry;exact PySem.EqNone.ne_none_bool (bQ I q (by simp))
  | int j=>obtain ⟨t',rfl⟩:=ry;exact PySem.EqNone.ne_none_int (bQ I q (by simp))
  | str j=>obtain ⟨t',rfl⟩:=ry;exact PySem.EqNone.ne_none_str (bQ I q (by simp))
  | _=>exact absurd (show false=true from hs) Y4
 | bl i=>
  cases rx
  cases y with
  | non=>cases ry;exact PySem.EqNone.ne_bool_none (bQ I q (by simp))
  | bl j=>cases ry;exact ne_bool (bQ I q (congrArg not Ge))
  | str j=>obtain ⟨t',rfl⟩:=ry;exact PySem.EqMixed.ne_bool_str (bQ I q (by simp))
  | _=>exact absurd (show false=true from hs) Y4
 | int i=>
  obtain ⟨t,rfl⟩:=rx
  cases y with
  | non=>cases ry;exact PySem.EqNone.ne_int_none (bQ I q (by simp))
  | int j=>obtain ⟨t',rfl⟩:=ry;exact ne_int (bQ I q (congrArg not Be))
  | str j=>obtain ⟨t',rfl⟩:=ry;exact PySem.EqMixed.ne_int_str (bQ I q (by simp))
  | _=>exact absurd (show false=true from hs) Y4
 | str i=>
  obtain ⟨t,rfl⟩:=rx
  cases y with
  | non=>cases ry;exact PySem.EqNone.ne_str_none (bQ I q (by simp))
  | bl j=>cases ry;exact PySem.EqMixed.ne_str_bool (bQ I q (by simp))
  | int j=>obtain ⟨t',rfl⟩:=ry;exact PySem.EqMixed.ne_str_int (bQ I q (by simp))
  | str j=>obtain ⟨t',rfl⟩:=ry;exact ne_str (bQ I q (congrArg not Bf))
  | _=>exact absurd (show false=true from hs) Y4
 | byt i=>
  obtain ⟨t,rfl⟩:=rx
  cases y with
  | byt j=>obtain ⟨t',rfl⟩:=ry;exact PySem.W.ne_bytes (bQ I q (congrArg not Bg))
  | _=>exact absurd (show false=true from hs) Y4
 | _=>cases y <;> exact absurd (show false=true from hs) Y4
theorem Vp:OpR X (compareOp .Lt) (Gb fun i j=>.bl (decide (i < j))):=K3 fun _ _ _ _ _ _ _ q=>lt_int q
theorem Gf:OpR X (compareOp .LtE) (Gb fun i j=>.bl (decide (i<=j))):=K3 fun _ _ _ _ _ _ _ q=>le_int q
theorem ue:OpR X (compareOp .Gt) (Gb fun i j=>.bl (decide (j < i))):=K3 fun _ _ _ _ _ _ _ q=>gt_int q
theorem Ou:OpR X (compareOp .GtE) (Gb fun i j=>.bl (decide (j<=i))):=K3 fun _ _ _ _ _ _ _ q=>ge_int q
theorem CQ:OpR X (compareOp .In) (fun x y H Q=>∃ i j,x= .str i/\y= .str j/\Q (.bl (!(Builtin.Str.occurrences j i 0 j.length 1).isEmpty)) H):=by
 intro pins s U H x y v u Q I rx ry h
 obtain ⟨i,j,rfl,rfl,q⟩:=h
 obtain ⟨t,rfl⟩:=rx
 obtain ⟨t',rfl⟩:=ry
 exact in_str (bQ I q rfl)
theorem QB:OpR X (compareOp .Is) (fun x y H Q=>y= .non/\Q (.bl (decide (x= .non))) H):=by
 intro pins s U H x y v u Q I rx ry h
 obtain ⟨rfl,q⟩:=h
 cases ry
 refine is_none_gen (bQ I q ?_)
 cases x <;> first
  | (cases rx;rfl)
  | (obtain ⟨t,rfl⟩:=rx;rfl)
theorem OpR.or {f:Value->Value->Sem Value} {r r':R2} (h:OpR X f r) (h':OpR X f r'):OpR X f (fun x y H Q=>r x y H Q\/r' x y H Q):=by
 intro pins s U H x y v u Q I rx ry q
 rcases q with q | q
 ·exact h pins s U H x y v u Q I rx ry q
 ·exact h' pins s U H x y v u Q I rx ry q
theorem aH (b:Expr) {op:CmpOp} (h:autoParam (op≠.In) L2.auto2._auto_1) (h2:autoParam (op≠.NotIn) L2.auto2._auto_1):behindInMarks op b=false:=by
 have e1:(op == CmpOp.In)=false:=by cases op <;> first | rfl | exact absurd rfl h
 have e2:(op == CmpOp.NotIn)=false:=by cases op <;> first | rfl | exact absurd rfl h2
 cases b <;> simp [behindInMarks,e1,e2]
theorem K4 {op:CmpOp} {r:R2} (ho:OpR X (compareOp op) r) (ha:PE X a ta) (hb:PE X b tb) (hm:behindInMarks op b=false):PE X (.Compare a [op] [b] pos) (Kq r ta tb):=by
 intro pins s U H Q I h
 exact wpAny_Compare1 (Qx ha hb I h fun v u s2 x y H2 I2 rx ry q=>ho pins s2 U H2 x y v u Q I2 rx ry q) hm
def v4 (t:TE):TT:=fun U H Q=>t U H fun x H'=>∃ k,x= .bl k/\Q k H'
theorem K5 {op:CmpOp} {r:R2} (ho:OpR X (compareOp op) r) (ha:PE X a ta) (hb:PE X b tb) (hm:behindInMarks op b=false):PT X (.Compare a [op] [b] pos) (v4 (Kq r ta tb)):=by
 intro pins s U H Q I h
 refine wpAny_isTrue_Compare1 (dM (ha pins s U H _ I h) fun v s1 ⟨x,H1,I1,r1,q1⟩=>dM (hb pins s1 U H1 _ I1 q1) fun u s2 ⟨y,H2,I2,r2,q2⟩=>
  dM (ho pins s2 U H2 x y v u _ I2 r1 r2 q2) fun c s3 ⟨z,H3,I3,r3,k,e,q3⟩=>?_) hm
 subst e
 cases r3
 exact Z4 ⟨H3,I3,q3⟩
def uf (r r':R2) (ta tb tc:TE):TE:=fun U H Q=>ta U H fun x H1=>tb U H1 fun y H2=>r x y H2 fun z H3=>∃ k,z= .bl k/\
 (if k=true then tc U H3 fun w' H4=>r' y w' H4 Q else Q (.bl false) H3)
theorem Gg {op op':CmpOp} {r r':R2} (ho:OpR X (compareOp op) r) (ho':OpR X (compareOp op') r') (ha:PE X a ta) (hb:PE X b tb) (hc:PE X c tc)
  (hm:autoParam (lastMarks [op,op'] [b,c]=false) L2.auto5._auto_1):PE X (.Compare a [op,op'] [b,c] pos) (uf r r' ta tb tc):=by
 intro pins s U H Q I h
 refine Compare_chain (dM (ha pins s U H _ I h) fun v s1 ⟨x,H1,I1,r1,q1⟩=>chain_link (dM (hb pins s1 U H1 _ I1 q1) fun u s2 ⟨y,H2,I2,r2,q2⟩=>
  dM (ho pins s2 U H2 x y v u _ I2 r1 r2 q2) fun d s3 ⟨z,H3,I3,r3,k,e,q3⟩=>?_)) hm
 subst e
 cases r3
 refine Z4 ?_
 cases k with
 | false=>exact ite_ff ⟨.bl false,H3,I3,rfl,q3⟩
 | true=>exact ite_tt (chain_last (dM (hc pins s3 U H3 _ I3 q3) fun w' s4 ⟨z',H4,I4,r4,q4⟩=>ho' pins s4 U H4 y z' u w' Q I4 r2 r4 q4))
theorem Gh {op op':CmpOp} {r r':R2} (ho:OpR X (compareOp op) r) (ho':OpR X (compareOp op') r') (ha:PE X a ta) (hb:PE X b tb) (hc:PE X c tc)
  (hm:autoParam (lastMarks [op,op'] [b,c]=false) L2.auto5._auto_1):PT X (.Compare a [op,op'] [b,c] pos) (v4 (uf r r' ta tb tc)):=by
 intro pins s U H Q I h
 refine isTrue_chain (dM (ha pins s U H _ I h) fun v s1 ⟨x,H1,I1,r1,q1⟩=>test_link (dM (hb pins s1 U H1 _ I1 q1) fun u s2 ⟨y,H2,I2,r2,q2⟩=>
  dM (ho pins s2 U H2 x y v u _ I2 r1 r2 q2) fun d s3 ⟨z,H3,I3,r3,k,e,q3⟩=>?_)) hm
 subst e
 cases r3
 refine Z4 ?_
 cases k with
 | false=>
  obtain ⟨k',e',q'⟩:=q3
  cases e'
  exact ite_ff ⟨H3,I3,q'⟩
 | true=>
  refine ite_tt (test_last (dM (hc pins s3 U H3 _ I3 q3) fun w' s4 ⟨z',H4,I4,r4,q4⟩=>dM (ho' pins s4 U H4 y z' u w' _ I4 r2 r4 q4) fun d' s5 qq0=>?_))
  obtain ⟨z2,H5,I5,r5,k2,e2,q5⟩:=qq0
  subst e2
  cases r5
  exact Z4 ⟨H5,I5,q5⟩
theorem ug:(sizeLine:Nat) < 2 ^ 63:=by rw [sizeLine_eq];decide
theorem zA:OpR X (binaryOp .Add) (fun x y H Q=>∃ i j,x= .str i/\y= .str j/\i.length+j.length<=sizeLine/\Q (.str (i ++ j)) H):=by
 intro pins s U H x y v u Q I rx ry h
 obtain ⟨i,j,rfl,rfl,hz,q⟩:=h
 obtain ⟨t,rfl⟩:=rx
 obtain ⟨t',rfl⟩:=ry
 exact add_str (fun t' tk=>⟨.str (i ++ j),H,I.tok _,⟨_,rfl⟩,q⟩) hz
theorem vals1 {x:V} {us:List Value} (r:Vals [x] us):∃ u,us=[u]/\RelV x u:=by
 cases r with
 | cons r1 r2=>cases r2;exact ⟨_,rfl,r1⟩
theorem vals2 {x y:V} {us:List Value} (r:Vals [x,y] us):∃ u w',us=[u,w']/\RelV x u/\RelV y w':=by
 cases r with
 | cons r1 r2=>
  cases r2 with
  | cons r3 r4=>cases r4;exact ⟨_,_,rfl,r1,r3⟩
theorem CT (hc:X.calm=true):CallR X (.builtin "max") (fun xs H Q=>∃ i j,xs=[.int i,.int j]/\Q (.int (if j > i then j else i)) H):=by
 intro pins s U H xs us Q I r h
 obtain ⟨i,j,rfl,q⟩:=h
 obtain ⟨u,w',rfl,⟨t,rfl⟩,⟨t',rfl⟩⟩:=vals2 r
 refine max_two_ints (I.ok.hd hc) fun h' tk k=>⟨_,H,I.kept k,?_,q⟩
 by_cases hj:j > i
 ·rw [if_pos hj,if_pos hj];exact ⟨_,rfl⟩
 ·rw [if_neg hj,if_neg hj];exact ⟨_,rfl⟩
def Vq (K:W.Frag) (x:V) (H:Hp) (n:Nat):Prop:=
 match x with
 | .str y=>y.length<=sizeLine/\n=y.length
 | .byt y=>y.size<=sizeLine/\n=y.size
 | .ref p=>(∃ xs,SqL K H p xs/\n=xs.length)\/∃ xs,SqT K H p xs/\n=xs.length
 | _=>False
theorem Gi:CallR X (.builtin "len") (fun xs H Q=>∃ x n,xs=[x]/\Vq X.K x H n/\Q (.int n) H):=by
 intro pins s U H xs us Q I r h
 obtain ⟨x,n,rfl,e,q⟩:=h
 obtain ⟨u,rfl,rx⟩:=vals1 r
 have hl:=ug
 have hs:sizeLine=16777216:=sizeLine_eq
 cases x with
 | str y=>
  obtain ⟨t,rfl⟩:=rx
  obtain ⟨hy,e'⟩:y.length<=sizeLine/\n=y.length:=e
  subst e'
  exact len_str (by omega) ⟨.int _,H,I.tok _,⟨_,rfl⟩,q⟩
 | byt y=>
  obtain ⟨t,rfl⟩:=rx
  obtain ⟨hy,e'⟩:y.size<=sizeLine/\n=y.size:=e
  subst e'
  exact PySem.W.len_bytes (by omega) ⟨.int _,H,I.tok _,⟨_,rfl⟩,q⟩
 | ref p=>
  cases rx
  have e':(∃ xs,SqL X.K H p xs/\n=xs.length)\/∃ xs,SqT X.K H p xs/\n=xs.length:=e
  rcases e' with ⟨xs,hx,e'⟩ | ⟨xs,hx,e'⟩
  ·subst e'
   obtain ⟨its,r',pl,hz⟩:=I.list hx
   have hlen:=r'.length
   exact Calls.call_len_list pl.isList (by simp only [Y9];omega) ⟨.int xs.length,H,I.tok _,⟨_,by simp only [Y9];rw [hlen]⟩,q⟩
  ·subst e'
   obtain ⟨its,r',pl,hz⟩:=I.tuple hx
   have hlen:=r'.length
   exact len_tuple pl (by simp only [Y9];omega) ⟨.int xs.length,H,I.tok _,⟨_,by simp only [Y9];rw [hlen]⟩,q⟩
 | _=>exact (show False from e).elim
end
structure ObjM (h:Heap) (x dx C:Addr) (mA:Str->Option Value):Prop where
 obj:h.get? x=some (PySem.W.instObj C dx)
 ns:h.Ns1 dx mA
 ne:dx≠x
theorem qW {h:Heap} {dx:Addr} {mA:Str->Option Value} (n:h.Ns1 dx mA):∃ od,h.get? dx=some od/\∀ name,PySem.W.lookIn name od=some (mA name):=by
 obtain ⟨o,es,ep,ho,hd,hk,_,hm⟩:=n
 refine ⟨o,ho,fun name=>?_⟩
 have e:=hm name
 unfold nsFind findBy at e
 rw [← Array.find?_toList] at e
 unfold PySem.W.lookIn
 rw [hd]
 dsimp only
 split
 ·rename_i y q
  rw [q] at e
  exact congrArg some e
 ·rename_i q
  rw [q] at e
  have a:es.toList.any (·.refKey)=false:=by
   rw [List.any_eq_false]
   intro y hy
   obtain ⟨z,t,hkey⟩:=hk y (Array.mem_toList_iff.mp hy)
   simp [DictEntry.refKey,hkey]
  have a':¬ es.toList.any (·.refKey)=true:=by rw [a];exact Y4
  rw [if_neg a']
  exact congrArg some e
theorem ObjM.look {h:Heap} {x dx C:Addr} {mA:Str->Option Value} (I:ObjM h x dx C mA):∃ od,PySem.W.InstAt h x (PySem.W.instObj C dx) C (some od)/\∀ name,PySem.W.lookIn name od=some (mA name):=
 let ⟨od,ho,hl⟩:=qW I.ns
 ⟨od,⟨I.obj,rfl,rfl,ho⟩,hl⟩
def CV (f:Str) (v:V):List (Str×V)->List (Str×V)
 | []=>[(f,v)]
 | (g,x) :: r=>if g=f then (g,v) :: r else (g,x) :: CV f v r
theorem rP (f g:Str) (v:V):∀ fs:List (Str×V),(CV f v fs).lookup g=if g=f then some v else fs.lookup g
 | []=>by
  show List.lookup g [(f,v)]=_
  by_cases h:g=f
  ·have hb:(g == f)=true:=Aa6.mpr h
   simp only [List.lookup,hb,if_pos h]
  ·have hb:(g == f)=false:=Aah.mpr h
   simp only [List.lookup,hb,if_neg h]
 | (k,x) :: r=>by
  have ih:=rP f g v r
  rw [show CV f v ((k,x) :: r)=(if k=f then (k,v) :: r else (k,x) :: CV f v r) from rfl]
  by_cases hk:k=f
  ·rw [if_pos hk]
   by_cases h:g=k
   ·have hb:(g == k)=true:=Aa6.mpr h
    simp only [List.lookup,hb,if_pos (h.trans hk)]
   ·have hb:(g == k)=false:=Aah.mpr h
    simp only [List.lookup,hb,if_neg (fun e:g=f=>h (e.trans hk.symm))]
  ·rw [if_neg hk]
   by_cases h:g=k
   ·have hb:(g == k)=true:=Aa6.mpr h
    simp only [List.lookup,hb,if_neg (fun e:g=f=>hk (h.symm.trans e))]
   ·have hb:(g == k)=false:=Aah.mpr h
    simp only [List.lookup,hb]
    exact ih
theorem RelO.some_of {v:V} {o:Option Value} (r:RelO (some v) o):∃ u,o=some u/\RelV v u:=by
 cases o with
 | none=>exact (show False from r).elim
 | some u=>exact ⟨u,rfl,r⟩
theorem RelO.none_of {o:Option Value} (r:RelO none o):o=none:=by
 cases o with
 | none=>rfl
 | some u=>exact (show False from r).elim
theorem CW {v:V} {u:Value} (r:RelV v u):PySem.W.handedIn u=true:=by
 cases v with
 | non=>cases (show u=Value.none from r);rfl
 | bl b=>cases (show u=Value.bool b from r);rfl
 | int i=>obtain ⟨t,e⟩:=(show ∃ t,u=Value.int i t from r);cases e;rfl
 | str x=>obtain ⟨t,e⟩:=(show ∃ t,u=Value.str x t from r);cases e;rfl
 | byt b=>obtain ⟨t,e⟩:=(show ∃ t,u=Value.bytes b t from r);cases e;rfl
 | flt b=>obtain ⟨t,e⟩:=(show ∃ t,u=Value.float b t from r);cases e;rfl
 | ref a=>cases (show u=Value.ref a from r);rfl
 | ty n=>cases (show u=Value.type n from r);rfl
section
variable {P:Program} {w:World} {H H':Hp} {h h':Heap} {a C dx:Addr} {fs fs':List (Str×V)}
theorem Bh (hok:HOk P w H h) (e:H a=some (.ins C dx fs)):∃ mA,ObjM h a dx C mA/\(∀ f,RelO (fs.lookup f) (mA f))/\PySem.Within mA (fs.map (·.1))/\fs.length<=1000/\H dx=some (.own a):=by
 obtain ⟨d,z,ne,ob,mA,n,r,q⟩:=(show ObjOk P w H h a (.ins C dx fs) from hok a _ e)
 exact ⟨mA,⟨ob,n,ne⟩,r,q,z,d⟩
end
structure Cls (K:W.Frag) (C:Addr):Prop where
 pg:PySem.W.plainGet K C Str.empty=true
 hd:PySem.W.hasDictIn K C=true
 po:PySem.W.plainOver K C=true
 sa:PySem.W.findIn K (.ref C) "__setattr__"=some (some (.builtin "object.__setattr__"))
theorem Cls.get {K:W.Frag} {C:Addr} (c:Cls K C) (f:Str):PySem.W.plainGet K C f=true:=c.pg
def jQ (K:W.Frag) (C:Addr) (f:Str):Prop:=PySem.W.findIn K (.ref C) f=some none
section
variable {X:Cx} {pins:List (Addr×Obj)} {U:St} {H:Hp} {s:Shared} {a C dx:Addr} {fs:List (Str×V)} {f:Str} {v:V} {A:Around} {E:Value->Shared->Prop}
theorem K6 {prog:Program} {w:World} {env:Env} {e:Expr} {f:Str} {pos:Pos} {s:Shared} {Q:Value->Shared->Prop} (hb:attributeBase e f env (eval e env)=eval e env)
  (h:wpAny (model prog w) A (eval e env) (fun o s₁=>wpAny (model prog w) A (getAttr o f true) Q E s₁) E s):wpAny (model prog w) A (eval (.Attribute e f pos) env) Q E s:=
 Attribute_any_ h (by rw [arm_eval_Attribute,hb])
end
section
variable {X:Cx} {pins:List (Addr×Obj)} {U:St} {H:Hp} {s:Shared} {A:Around} {E:Value->Shared->Prop} {Q:Value->Shared->Prop} {c:Value} {b:Bool}
inductive TyOf (K:W.Frag) (H:Hp):V->Value->Prop where
 | non:TyOf K H .non (.type "NoneType")
 | bl (x:Bool):TyOf K H (.bl x) (.type "bool")
 | int (i:Int):TyOf K H (.int i) (.type "int")
 | str (x:Str):TyOf K H (.str x) (.type "str")
 | flt (x:UInt64):TyOf K H (.flt x) (.type "float")
 | lst {a:Addr} {xs:List V} (e:H a=some (.lst xs)):TyOf K H (.ref a) (.type "list")
 | frz {a:Addr} {o:Obj} {xs:List V} (e:H a=some (.frz o (.lst xs))):TyOf K H (.ref a) (.type "list")
 | tup {a:Addr} {xs:List V} (e:H a=some (.tup xs)):TyOf K H (.ref a) (.type "tuple")
 | dK {a:Addr} {kvs:List (Key×V)} (e:H a=some (.dK kvs)):TyOf K H (.ref a) (.type "dict")
 | dT {a:Addr} {kvs:List (List Key×V)} (e:H a=some (.dT kvs)):TyOf K H (.ref a) (.type "dict")
 | ins {a C dx:Addr} {fs:List (Str×V)} (e:H a=some (.ins C dx fs)) (cl:Cls K C) (ha:PySem.W.findIn K (.ref C) "__class__"=some (some (.builtin "object.__class__")))
   (hn:PySem.W.specialIn K (.builtin "object.__class__") "__get__"=some (some (.builtin "getset_descriptor.__get__"))) (htk:PySem.W.takesIn K (.builtin "object.__class__")=some true)
   (hm:PySem.W.mroIn K C (.type "object")=some true):TyOf K H (.ref a) (.ref C)
theorem CZ {x:V} {u t:Value} (I:Inv X pins U H s) (rx:RelV x u) (ty:TyOf X.K H x t) (e:PySem.W.kitOne X.K t c=some b) (h:∀ tk,Q (.bool b) {s with toks:=tk}):
  wpAny (model X.prog X.w) A (call (.builtin "isinstance") [u,c]) Q E s:=by
 cases ty with
 | non=>cases (show u=Value.none from rx);exact gV PySem.W.kitx_none I.kIn True.intro e (fun z=>nomatch z) h
 | bl y=>cases (show u=Value.bool y from rx);exact gV PySem.W.kitx_bool I.kIn True.intro e (fun z=>nomatch z) h
 | int i=>obtain ⟨t,q⟩:=(show ∃ t,u=Value.int i t from rx);cases q;exact gV PySem.W.kitx_int I.kIn True.intro e (fun z=>nomatch z) h
 | str y=>obtain ⟨t,q⟩:=(show ∃ t,u=Value.str y t from rx);cases q;exact gV PySem.W.kitx_str I.kIn True.intro e (fun z=>nomatch z) h
 | flt y=>obtain ⟨t,q⟩:=(show ∃ t,u=Value.float y t from rx);cases q;exact gV PySem.W.kitx_float I.kIn True.intro e (fun z=>nomatch z) h
 | @lst a xs ea=>
  cases (show u=Value.ref a from rx)
  obtain ⟨_,_,n,_,h1⟩:=(show ObjOk X.prog X.w H s.heap a (.lst xs) from I.hok a _ ea)
  exact gV PySem.W.kitx_list I.kIn ⟨_,h1,rfl⟩ e (fun z=>nomatch z) h
 | @frz a ob xs ea=>
  cases (show u=Value.ref a from rx)
  obtain ⟨_,_,_,n,_,h1⟩:=(show ObjOk X.prog X.w H s.heap a (.frz ob (.lst xs)) from I.hok a _ ea)
  exact gV PySem.W.kitx_list I.kIn ⟨_,h1,rfl⟩ e (fun z=>nomatch z) h
 | @tup a xs ea=>
  cases (show u=Value.ref a from rx)
  obtain ⟨_,_,_,p⟩:=(show ObjOk X.prog X.w H s.heap a (.tup xs) from I.hok a _ ea)
  obtain ⟨o,h1,h2,_⟩:=p
  exact gV PySem.W.kitx_tuple I.kIn ⟨o,h1,h2⟩ e (fun z=>nomatch z) h
 | @dK a kvs ea=>
  cases (show u=Value.ref a from rx)
  obtain ⟨_,_,vs,_,p⟩:=(show ObjOk X.prog X.w H s.heap a (.dK kvs) from I.hok a _ ea)
  obtain ⟨o,es,ep,h1,h2,_⟩:=p
  exact gV PySem.W.kitx_dict I.kIn ⟨o,h1,h2.1⟩ e (fun z=>nomatch z) h
 | @dT a kvs ea=>
  cases (show u=Value.ref a from rx)
  obtain ⟨_,_,xs,_,o,es,ep,h1,h2,_⟩:=(show ObjOk X.prog X.w H s.heap a (.dT kvs) from I.hok a _ ea)
  exact gV PySem.W.kitx_dict I.kIn ⟨o,h1,h2.1⟩ e (fun z=>nomatch z) h
 | @ins a C dx fs ea cl ha hn htk hm=>
  cases (show u=Value.ref a from rx)
  obtain ⟨mA,O,_⟩:=Bh I.hok ea
  obtain ⟨od,J,_⟩:=O.look
  exact gV (PySem.W.kitx_own (cl.get _) cl.hd ha hn htk hm) I.kIn J e (fun z=>nomatch z) h
end
structure Room (k:Nat) (A:Around):Prop where
 hd:A.handled=none
 dp:A.depth+3*k+5 < recursionLimit
 un:A.units+16*k+200 < cLine
 gd:A.guards=some []
theorem Room.mono {j k:Nat} {A:Around} (r:Room k A) (h:j<=k):Room j A:=⟨r.hd,by have:=r.dp;omega,by have:=r.un;omega,r.gd⟩
theorem Room.deeper {k:Nat} {A:Around} (r:Room (k+1) A) (env:Env):Room k (A.deeper env):=
 ⟨r.hd,by have:=r.dp;show A.depth+1+3*k+5 < _;omega,by have:=r.un;show A.units+3+16*k+200 < _;omega,r.gd⟩
theorem zB {A:Around} {C:Addr} {us:List Value} {kw:List (Str×Value)}:(A.under (.builtin "type.__call__" ⟨.ref C :: us,kw⟩)).depth=A.depth+1:=by
 first | rfl | simp [Around.under,Code.weight,Code.isCreation,Code.isGuard,Code.isCaller,Code.frames,Code.isFrame,guardIds]
theorem zE {A:Around} {C:Addr} {us:List Value} {kw:List (Str×Value)}:(A.under (.builtin "type.__call__" ⟨.ref C :: us,kw⟩)).units=A.units+1:=by
 first | rfl | simp [Around.under,Code.cUnits,Code.frames,Code.isFrame]
theorem ym {A:Around} {C:Addr} {us:List Value} {kw:List (Str×Value)}:(A.under (.builtin "type.__call__" ⟨.ref C :: us,kw⟩)).guards=pushGuards [] A.guards:=by
 first | rfl | simp [Around.under,Code.guards,Code.isGuard,guardIds]
theorem Room.make {k:Nat} {A:Around} (r:Room (k+1) A) (C:Addr) (us:List Value) (kw:List (Str×Value)):Room k (A.under (.builtin "type.__call__" ⟨.ref C :: us,kw⟩)):=
 ⟨r.hd,by have:=r.dp;rw [zB];omega,by have:=r.un;rw [zE];omega,(ym.trans (by rw [r.gd];rfl))⟩
theorem Room.depth {k:Nat} {A:Around} (r:Room k A):A.depth < recursionLimit:=by have:=r.dp;omega
theorem Room.units {k:Nat} {A:Around} (r:Room k A):A.units+64 < cLine:=by have:=r.un;omega
theorem Room.units0 {k:Nat} {A:Around} (r:Room k A):A.units < cLine:=by have:=r.un;omega
def QC:TA:=fun _ H Q=>Q [] H
def Bj (ta:TE) (tr:TA):TA:=fun U H Q=>ta U H fun x H1=>tr U H1 fun xs H2=>Q (x :: xs) H2
section
variable {X:Cx} {e:Expr} {es:List Expr} {te:TE} {t:TA} {pos:Pos}
theorem QD:PA X [] QC:=fun _ _ _ _ H Q I h=>Calls.spliced_nil ⟨[],H,I,.nil,h⟩
theorem K7 (ha:PE X e te) (hr:PA X es t) (hs:autoParam (starEach (e :: es) X.env=(false,eval e X.env) :: starEach es X.env) L2.auto4._auto_1):PA X (e :: es) (Bj te t):=by
 intro pos pins s U H Q I h
 rw [hs]
 show wpAny _ _ (spliced ((false,eval e X.env) :: backTo pos (starEach es X.env))) _ _ s
 refine Calls.spliced_cons (dM (ha pins s U H _ I h) fun u s1 qq0=>?_)
 obtain ⟨x,H1,I1,r1,q1⟩:=qq0
 exact dM (hr pos pins s1 U H1 _ I1 q1) fun us s2 ⟨xs,H2,I2,r2,q2⟩=>⟨x :: xs,H2,I2,.cons r1 r2,q2⟩
def QF (t:TA):TE:=fun U H Q=>t U H fun xs H1=>xs.length<=sizeLine/\∀ p,H1 p=none->Q (.ref p) (upd H1 p (.tup xs))
def QG (t:TA):TE:=fun U H Q=>t U H fun xs H1=>xs.length<=sizeLine/\∀ p,H1 p=none->Q (.ref p) (upd H1 p (.lst xs))
theorem QH {x1} (h:PA X es t):PE X (.Tuple es x1 pos) (QF t):=by
 intro pins s U H Q I hq
 refine wpAny_Tuple_spliced (dM (h pos pins s U H _ I hq) fun us s1 ⟨xs,H1,I1,r,z,q⟩=>⟨by rw [← r.length];exact z,?_⟩)
 have hf:H1 s1.heap.objs.size=none:=I1.hok.fresh (YW _)
 refine ⟨.ref s1.heap.objs.size,upd H1 s1.heap.objs.size (.tup xs),I1.laid (t':=s1.toks) (fun b u e=>YT _ e) (YW _) ?_,rfl,q _ hf⟩
 exact ⟨z,us,r,⟨_,Y6 _ rfl,rfl,_,rfl⟩⟩
theorem QJ (h:PA X es t):PE X (.List es pos) (QG t):=by
 intro pins s U H Q I hq
 refine wpAny_List_spliced (dM (h pos pins s U H _ I hq) fun us s1 ⟨xs,H1,I1,r,z,q⟩=>⟨by rw [← r.length];exact z,?_⟩)
 have hf:H1 s1.heap.objs.size=none:=I1.hok.fresh (YW _)
 refine ⟨.ref s1.heap.objs.size,upd H1 s1.heap.objs.size (.lst xs),I1.laid (t':=s1.toks) (fun b u e=>YT _ e) (YW _) ?_,rfl,q _ hf⟩
 exact ⟨z,us,0,r,Y6 _ rfl⟩
end
abbrev Sp:=List V->Hp->VK->XK->Prop
abbrev Fo:=List Env->Hp->Shared->XK->Value->Shared->Prop
structure Env0 (P:Program) (w:World) (K:W.Frag) (mg:Str->Option Value) (base:Heap) (A:Around) (outer:List Env) (s:Shared) (H:Hp):Prop where
 frames:A.frames=some outer
 mod:Mod K mg base
 bs:∀ b o,base.get? b=some o->s.heap.get? b=some o/\H b=none
 bsz:base.objs.size<=s.heap.objs.size
 funs:s.heap.FunFrames base outer
 frf:∀ b∈frs outer,H b=none
 hok:HOk P w H s.heap
 bare:AllBare s.gens
def CE (outer:List Env) (P:Program) (w:World) (H:Hp) (s:Shared) (Q:VK) (u:Value) (s':Shared):Prop:=
 ∃ v H',s'.os=s.os/\AllBare s'.gens/\Un (frs outer) [] H H' s.heap s'.heap/\HOk P w H' s'.heap/\RelV v u/\Q v H'
def CR (CX:Fo) (outer:List Env) (P:Program) (w:World) (H:Hp) (s:Shared) (Q:VK) (E:XK) (r:Result) (s':Shared):Prop:=
 match r with
 | .ok (.ret u)=>CE outer P w H s Q u s'
 | .ok _=>False
 | .error e=>CX outer H s E e s'
structure qX (P:Program) (w:World) (K:W.Frag) (mg:Str->Option Value) (base:Heap) (CX:Fo) (k:Nat) (f:Addr) (fd:FuncData) (ps:List Str) (sp:Sp):Prop where
 len:∀ vs H Q E,sp vs H Q E->vs.length=ps.length
 run:∀ (A:Around) (outer:List Env) (s:Shared) (H:Hp) (args:Args) (us:List Value) (vs:List V) (Q:VK) (E:XK),Room k A->Env0 P w K mg base A outer s H->BindsTo s fd args (ps.zip us)->Vals vs us->sp vs H Q E->
  codeAny (model P w) A (.call (.ref f) args) (CR CX outer P w H s Q E) s
theorem Env0.make {P:Program} {w:World} {K:W.Frag} {mg:Str->Option Value} {base:Heap} {A:Around} {outer:List Env} {s:Shared} {H:Hp} (e:Env0 P w K mg base A outer s H) (C:Addr) (us:List Value) (kw:List (Str×Value)):
  Env0 P w K mg base (A.under (.builtin "type.__call__" ⟨.ref C :: us,kw⟩)) outer s H:=⟨by first | exact e.frames | (simpa [Around.under,Code.envs,Code.isFrame,pushEnvs] using e.frames),e.mod,e.bs,e.bsz,e.funs,e.frf,e.hok,e.bare⟩
section
variable {X:Cx} {pins:List (Addr×Obj)} {U:St} {H:Hp} {s s':Shared}
theorem Inv.env0 (I:Inv X pins U H s):Env0 X.prog X.w X.K X.mg X.base X.A X.stack s H:=
 ⟨I.ok.frames,I.ok.mod,I.bs,Aan I.ok.bsz I.sz,I.stack,I.stkFree,I.hok,I.bare⟩
theorem Inv.after {Q:VK} {u:Value} (I:Inv X pins U H s) (h:CE X.stack X.prog X.w H s Q u s'):EP X pins U Q u s':=by
 obtain ⟨v,H',os,bare,un,hok,r,q⟩:=h
 obtain ⟨hh,g,d,t,os'⟩:=s'
 obtain rfl:os'=s.os:=os
 exact ⟨v,H',I.call (h':=hh) (g':=g) (d':=d) (t':=t) (ch:=[]) un hok bare (fun b z=>absurd z (by simp)),r,q⟩
end
def v5 (sp:Sp) (dvs:List V) (E:XK) (t:TA):TE:=fun U H Q=>t U H fun vs H1=>sp (vs ++ dvs) H1 Q E
def Binds (K:W.Frag) (fd:FuncData) (ps:List Str) (ds:List Value):Prop:=
 ∀ (s:Shared) (us:List Value),K.In s.heap->(us ++ ds).length=ps.length->BindsTo s fd ⟨us,[]⟩ (ps.zip (us ++ ds))
theorem Binds.all {K:W.Frag} {fd:FuncData} {ps:List Str} (h:∀ us:List Value,us.length=ps.length->bindArgs fd ⟨us,[]⟩=pure (ps.zip us)):Binds K fd ps []:=fun s us _ hl=>by
 rw [Zt] at hl ⊢
 exact .of_eq (h us hl)
def zF (CX:Fo) (X:Cx) (E:XK):Prop:=∀ (pins:List (Addr×Obj)) (U:St) (H:Hp) (s:Shared) (e:Value) (s':Shared),Inv X pins U H s->CX X.stack H s E e s'->X.xe e s'
section
variable {X:Cx} {CX:Fo} {k:Nat} {f C:Addr} {fd:FuncData} {ps:List Str} {sp:Sp} {dvs:List V} {ds:List Value} {E:XK} {x m:Str} {p pos apos:Pos} {e o:Expr} {es:List Expr} {ta:TE} {t:TA}
theorem QK {pins:List (Addr×Obj)} {U:St} {H:Hp} {s:Shared} {Q:VK} {us:List Value} {vs:List V} (F:qX X.prog X.w X.K X.mg X.base CX k f fd ps sp) (hr:Room k X.A) (hb:Binds X.K fd ps ds) (hd:Vals dvs ds) (hx:zF CX X E)
  (I:Inv X pins U H s) (r:Vals vs us) (h:sp (vs ++ dvs) H Q E):wpAny (model X.prog X.w) X.A (call (.ref f) us) (EP X pins U Q) X.xe s:=by
 have r2:Vals (vs ++ dvs) (us ++ ds):=r.append hd
 have hl:(us ++ ds).length=ps.length:=by rw [← r2.length];exact F.len _ _ _ _ h
 refine Abi (codeAny_mono (F.run X.A X.stack s H ⟨us,[]⟩ (us ++ ds) (vs ++ dvs) Q E hr I.env0 (hb s us I.kIn hl) r2 h) fun r s' hq=>?_)
 cases r with
 | error e=>exact hx pins U H s e s' I hq
 | ok fl=>
  cases fl with
  | ret u=>exact I.after hq
  | next=>exact False.elim hq
  | brk=>exact False.elim hq
  | cont=>exact False.elim hq
theorem K8 (F:qX X.prog X.w X.K X.mg X.base CX k f fd ps sp) (hr:Room k X.A) (hg:Gl X x) (hm:X.mg x=some (.ref f)) (hk:PySem.W.keepIn X.K (.ref f)=true) (hb:Binds X.K fd ps ds) (hd:Vals dvs ds) (hx:zF CX X E)
  (ha:PA X (e :: es) t) (hdb:autoParam ((x == ("__debug__":Str))=false) L2.auto2._auto_1) (he:autoParam (starEach (e :: es) X.env=(false,eval e X.env) :: starEach es X.env) L2.auto4._auto_1) (hpl:autoParam ((backTo pos (starEach es X.env)).any (·.1)=false) L2.auto4._auto_1):
  PE X (.Call (.Name x p) (e :: es) [] pos) (v5 sp dvs E t):=by
 intro pins s U H Q I h
 refine Abj (qd I hg hm ?_ hdb)
 refine PySem.W.callWith_K (h₀:=X.base) I.ok.mod.kin hk (dM (ha pos pins s U H _ I h) fun us s1 ⟨vs,H1,I1,r,q⟩=>⟨I1.kIn,?_⟩) he hpl
 exact QK F hr hb hd hx I1 r q
end
structure aP (N P:List Str) (sc:Scope):Prop where
 kind:sc.kind= .function
 co:sc.isCoroutine=false
 gen:sc.isGenerator=false
 nd:N.Nodup
 pre:N.take P.length=P
 par:∀ x∈P,sc.names.lookup x=some .local\/sc.names.lookup x=some .cell
 nofree:∀ y∈sc.names,y.2≠.free
theorem v6 {kindOf:Str->Option NameKind} {x:Str}:∀ {binds:List (Str×Value)} {m:Str->Option Value},(∀ v,(x,v) ∉ binds)->bindL kindOf binds m x=m x
 | [],_,_=>rfl
 | (n,v) :: r,m,h=>by
  unfold bindL
  rw [v6 fun w hw=>h w (Zc _ hw)]
  split
  ·have:x≠n:=by rintro rfl;exact h v Zj
   simp [this]
  ·rfl
theorem v7 {kindOf:Str->Option NameKind} {x:Str}:∀ {binds:List (Str×Value)} {m:Str->Option Value},(∀ v,(x,v) ∉ binds)->bindC kindOf binds m x=m x
 | [],_,_=>rfl
 | (n,v) :: r,m,h=>by
  unfold bindC
  rw [v7 fun w hw=>h w (Zc _ hw)]
  split
  ·rfl
  ·have:x≠n:=by rintro rfl;exact h v Zj
   simp [this]
theorem v8 {kindOf:Str->Option NameKind} {x:Str} {v:Value}:∀ {P:List Str} {vs:List Value} {i:Nat} {m:Str->Option Value},P.Nodup->P[i]?=some x->vs[i]?=some v->kindOf x=some .local->
  bindL kindOf (P.zip vs) m x=some v
 | [],_,_,_,_,h,_,_=>by simp at h
 | _ :: _,[],_,_,_,_,h,_=>by simp at h
 | p :: P,w :: vs,0,m,nd,h1,h2,hk=>by
  simp at h1 h2;subst h1;subst h2
  show bindL kindOf ((p,w) :: P.zip vs) m p=_
  unfold bindL
  rw [v6 fun v hv=>(AaX.mp nd).1 (List.of_mem_zip hv).1,if_pos hk]
  simp
 | p :: P,w :: vs,i+1,m,nd,h1,h2,hk=>by
  show bindL kindOf ((p,w) :: P.zip vs) m x=_
  unfold bindL
  exact v8 (i:=i) (AaX.mp nd).2 (by simpa using h1) (by simpa using h2) hk
theorem v9 {kindOf:Str->Option NameKind} {x:Str} {v:Value}:∀ {P:List Str} {vs:List Value} {i:Nat} {m:Str->Option Value},P.Nodup->P[i]?=some x->vs[i]?=some v->kindOf x≠some .local->
  bindC kindOf (P.zip vs) m x=some v
 | [],_,_,_,_,h,_,_=>by simp at h
 | _ :: _,[],_,_,_,_,h,_=>by simp at h
 | p :: P,w :: vs,0,m,nd,h1,h2,hk=>by
  simp at h1 h2;subst h1;subst h2
  show bindC kindOf ((p,w) :: P.zip vs) m p=_
  unfold bindC
  rw [v7 fun v hv=>(AaX.mp nd).1 (List.of_mem_zip hv).1,if_neg hk]
  simp
 | p :: P,w :: vs,i+1,m,nd,h1,h2,hk=>by
  show bindC kindOf ((p,w) :: P.zip vs) m x=_
  unfold bindC
  exact v9 (i:=i) (AaX.mp nd).2 (by simpa using h1) (by simpa using h2) hk
def start (N:List Str) (vs:List V):St:=vs.map some ++ List.replicate (N.length - vs.length) none
def qe (CX:Fo) (P:Program) (w:World) (K:W.Frag) (mg:Str->Option Value) (base:Heap) (N:List Str) (qual:Str) (scope:Scope) (f:Addr) (cd:Value) (A:Around) (outer:List Env) (s:Shared) (H:Hp) (E:XK):Cx where
 prog:=P
 w:=w
 K:=K
 mg:=mg
 base:=base
 A:=A.deeper (envOfC qual scope s.heap.objs.size f cd)
 N:=N
 s₀:=s
 H₀:=H
 env:=envOfC qual scope s.heap.objs.size f cd
 outer:=outer
 stack:=envOfC qual scope s.heap.objs.size f cd :: outer
 ex:=[]
 calm:=true
 fn:=fun _=>true
 pn:=[]
 xe:=fun e s'=>wpAny (model P w) (A.deeper (envOfC qual scope s.heap.objs.size f cd)) (leaving (envOfC qual scope s.heap.objs.size f cd) e) (fun _ s''=>CX outer H s E e s'') (fun e' s''=>CX outer H s E e' s'') s'
theorem yo {sc:Scope} {n:Nat} {x:Str} (h:sc.names.lookup x=some .cell):∃ c,(cellsFrom n sc.names []).lookup x=some c:=by
 have q:=PySem.W.cellsFrom_some sc.names n [] (.inl h)
 exact Option.isSome_iff_exists.mp q
theorem Dc {CX:Fo} {P:Program} {w:World} {K:W.Frag} {mg:Str->Option Value} {base:Heap} {N ps:List Str} {qual:Str} {scope:Scope} {f:Addr} {cd:Value} {A:Around} {outer:List Env} {s s1:Shared} {H:Hp} {E:XK} {us:List Value} {vs:List V}
  (S:aP N ps scope) (hd:A.handled=none) (e0:Env0 P w K mg base A outer s H) (hl:vs.length=ps.length) (r:Vals vs us)
  (x:InCallC s s.heap.objs.size (bindL (envOfC qual scope s.heap.objs.size f cd).kindOf (ps.zip us) fun _=>none) (cellsFrom (s.heap.objs.size+1) scope.names []) (bindC (envOfC qual scope s.heap.objs.size f cd).kindOf (ps.zip us) fun _=>none) s1):
  Inv (qe CX P w K mg base N qual scope f cd A outer s H E) [] (start N vs) H s1:=by
 have hpl:ps.length<=N.length:=by have:=congrArg List.length S.pre;rw [Zb] at this;omega
 obtain ⟨h1,tk,rfl,hk⟩:=x.done
 have noA:∀ b:Addr,b ∉ (qe CX P w K mg base N qual scope f cd A outer s H E).ex:=fun b z=>absurd (show b∈([]:List Addr) from z) (by simp)
 refine ⟨⟨e0.mod,S.kind,rfl,rfl,YW _,fun y z c h1 h2=>?_,fun y hy=>?_,fun y c _ h=>?_,fun _=>hd,Around.frames_deeper e0.frames,.inr ⟨rfl,rfl⟩,fun b z=>absurd z (noA b),e0.bs,e0.bsz,fun b _ _=>noA b,fun b z=>absurd z (noA b),e0.funs,e0.frf⟩,
  rfl,e0.bare,Un.kept hk,⟨_,x.toInCall.ns,fun i y v h1 h2 h3=>?_⟩,fun y c h=>⟨_,x.cell y c h⟩,e0.hok.fresh (YW _),fun y c h=>?_,fun p hp=>absurd (show p∈([]:List (Addr×Obj)) from hp) (by simp),e0.hok.kept hk,?_⟩
 ·exact name_of_addr x.apart (Z2 h1) (Z2 h2)
 ·have hy:scope.names.lookup y=some .cell\/scope.names.lookup y=some .free:=hy
  rcases hy with hy | hy
  ·exact yo hy
  ·exact absurd rfl (S.nofree _ (Z2 hy))
 ·exact Nat.le_of_lt (x.above y c (Z2 h))
 ·have hi:i < vs.length:=by
   unfold start at h2
   by_cases hi:i < vs.length
   ·exact hi
   ·rw [Zf (by simpa using hi)] at h2
    rw [List.getElem?_replicate] at h2
    split at h2 <;> cases h2
  have ha:vs[i]?=some v:=by
   unfold start at h2
   rw [Zv (by simpa using hi),Ze] at h2
   cases e:vs[i]? with
   | none=>rw [e] at h2;cases h2
   | some a=>rw [e] at h2;cases h2;rfl
  obtain ⟨u,hu,rv⟩:=r.get ha
  have hp:ps[i]?=some y:=by
   rw [← S.pre,ZD (by omega)];exact h1
  have ndP:ps.Nodup:=by rw [← S.pre];exact S.nd.sublist (Aa0 _ _)
  refine ⟨u,rv,?_⟩
  rcases S.par y (Zr hp) with k | k
  ·exact .inl ⟨k,v8 ndP hp hu k⟩
  ·obtain ⟨c,e⟩:=yo (n:=s.heap.objs.size+1) k
   refine .inr ⟨.inl k,c,e,?_⟩
   have q:=x.cell y c e
   rw [v9 ndP hp hu (by show scope.names.lookup y≠_;rw [k];decide)] at q
   exact q
 ·exact e0.hok.fresh (Nat.le_of_lt (x.above y c (Z2 h)))
 ·unfold start
  show _=N.length
  rw [YX,YQ,List.length_replicate]
  omega
theorem Ov {CX:Fo} {P:Program} {w:World} {K:W.Frag} {mg:Str->Option Value} {base:Heap} {k:Nat} {f:Addr} {name qual:Str} {params:Arguments} {body:List Stmt} {scope:Scope} {dV kV doc pm cdv ct oc:Value} {an od:Option Addr}
  {osl:Array (Option Value)} {N ps:List Str} {sp:Sp} (lk:K.lookup f=some ⟨oc,od,.func (PySem.W.fnOf name qual params body scope dV kV doc pm an cdv ct),osl⟩) (hcd:PySem.W.codeIn K cdv qual=true) (S:aP N ps scope)
  (len:∀ vs H Q E,sp vs H Q E->vs.length=ps.length)
  (hbody:∀ (A:Around) (outer:List Env) (s:Shared) (H:Hp) (vs:List V) (Q:VK) (E:XK),Room k (A.deeper (envOfC qual scope s.heap.objs.size f cdv))->sp vs H Q E->
   ∃ t,PSs (qe CX P w K mg base N qual scope f cdv A outer s H E) body t/\t {nx:=fun _ H'=>Q .non H',rt:=Q} (start N vs) H):
  qX P w K mg base CX (k+1) f (PySem.W.fnOf name qual params body scope dV kV doc pm an cdv ct) ps sp:=by
 refine ⟨len,fun A outer s H args us vs Q E hr e0 hb r hsp=>?_⟩
 have hl:=len _ _ _ _ hsp
 have KX:K.In s.heap:=e0.mod.kin.keeps fun b o e=>(e0.bs b o e).1
 have lim:s.heap.NoLimit:=e0.mod.nolimit.keeps fun b o e=>(e0.bs b o e).1
 have hkind:∀ y∈ps.zip us,scope.names.lookup y.1=some .local\/(scope.names.lookup y.1=some .cell/\((cellsFrom (s.heap.objs.size+1) scope.names []).lookup y.1).isSome=true):=fun ⟨n,v⟩ hy=>by
  rcases S.par n (List.of_mem_zip hy).1 with q | q
  ·exact .inl q
  ·exact .inr ⟨q,PySem.W.cellsFrom_some _ _ _ (.inl q)⟩
 refine codeAny_call_function hr.depth (KX _ _ lk) rfl S.co S.gen rfl (PySem.W.codeRec_of KX hcd) (hb _ _ _ _ ?_)
 refine wpAny_newFunctionEnv_cells S.kind hkind fun env he s1 x=>?_
 subst he
 refine ⟨lim.keeps x.toInCall.keep,codeAny_func ?_⟩
 obtain ⟨t,ht,hq⟩:=hbody A outer s H vs Q E (hr.deeper _) hsp
 have I:Inv (qe CX P w K mg base N qual scope f cdv A outer s H E) [] (start N vs) H s1:=Dc S hr.hd e0 hl r x
 refine ZP (ht [] s1 (start N vs) H _ I hq) (fun fl s' hs=>?_) fun e s' hs=>hs
 have fin:∀ {U':St} {H':Hp} {v:V} {u:Value},Inv (qe CX P w K mg base N qual scope f cdv A outer s H E) [] U' H' s'->RelV v u->Q v H'->CE outer P w H s Q u s':=
  fun {U' H' v u} J rv q=>⟨v,H',J.os,J.bare,J.base,J.hok,rv,q⟩
 cases fl with
 | ret u=>
  obtain ⟨v,U',H',J,rv,q⟩:=hs
  exact fin J rv q
 | next=>
  obtain ⟨U',H',J,q⟩:=hs
  exact fin (v:=V.non) (u:=Value.none) J rfl q
 | brk=>
  obtain ⟨_,_,_,q⟩:=hs
  exact False.elim q
 | cont=>
  obtain ⟨_,_,_,q⟩:=hs
  exact False.elim q
section
variable {X:Cx} {x:Str} {p pos:Pos} {e:Expr} {es:List Expr} {t:TA} {id T:String} {r:List V->Hp->VK->Prop}
def QL (r:List V->Hp->VK->Prop) (t:TA):TE:=fun U H Q=>t U H fun vs H1=>r vs H1 Q
theorem Gj (hc:CallR X (.builtin id) r) (hg:Gl X x) (hm:X.mg x=none) (hv:bootBuiltins x=some (.builtin id)) (ha:PA X (e :: es) t) (hn:autoParam (x≠"__name__") L2.auto2._auto_1) (hdb:autoParam ((x == ("__debug__":Str))=false) L2.auto2._auto_1)
  (he:autoParam (starEach (e :: es) X.env=(false,eval e X.env) :: starEach es X.env) L2.auto4._auto_1) (hpl:autoParam ((backTo pos (starEach es X.env)).any (·.1)=false) L2.auto4._auto_1):PE X (.Call (.Name x p) (e :: es) [] pos) (QL r t):=by
 intro pins s U H Q I h
 refine Abj (t8 I hg hm hv ?_ hn hdb)
 exact PyProof.Rows.callWith_builtin1 (dM (ha pos pins s U H _ I h) fun us s1 ⟨vs,H1,I1,r1,q1⟩=>hc pins s1 U H1 vs us Q I1 r1 q1) he hpl
theorem Dd (hc:CallR X (.type T) r) (hg:Gl X x) (hm:X.mg x=none) (hv:bootBuiltins x=some (.type T)) (ha:PA X (e :: es) t) (hn:autoParam (x≠"__name__") L2.auto2._auto_1) (hdb:autoParam ((x == ("__debug__":Str))=false) L2.auto2._auto_1)
  (he:autoParam (starEach (e :: es) X.env=(false,eval e X.env) :: starEach es X.env) L2.auto4._auto_1) (hpl:autoParam ((backTo pos (starEach es X.env)).any (·.1)=false) L2.auto4._auto_1):PE X (.Call (.Name x p) (e :: es) [] pos) (QL r t):=by
 intro pins s U H Q I h
 refine Abj (t8 I hg hm hv ?_ hn hdb)
 exact PyProof.Rows.callWith_type1 (dM (ha pos pins s U H _ I h) fun us s1 ⟨vs,H1,I1,r1,q1⟩=>hc pins s1 U H1 vs us Q I1 r1 q1) he hpl
end
end L2
namespace HT
open PySem PyProof.Rows
def lexLt:List Int->List Int->Bool
 | [],[]=>false
 | [],_ :: _=>true
 | _ :: _,[]=>false
 | x :: xs,y :: ys=>if x=y then lexLt xs ys else decide (x < y)
theorem lexLt_cons (x y:Int) (xs ys:List Int):lexLt (x :: xs) (y :: ys)=if x=y then lexLt xs ys else decide (x < y):=rfl
theorem vq:lexLt [] []=false:=rfl
theorem uh (y:Int) (ys:List Int):lexLt [] (y :: ys)=true:=rfl
theorem ul (x:Int) (xs:List Int):lexLt (x :: xs) []=false:=rfl
theorem eqAt_int (A:Around) (s:Shared) (a:Int) (t:Tok) (c:Int) (u:Tok):∃ e,SeqAt.EqAt A s (.int a t) (.int c u) e/\(e=true↔a=c):=
 ⟨(a == c),SeqAt.EqAt.int_int a t c u,by simp⟩
theorem Gk (A:Around) (s:Shared) (a:Int) (t:Tok) (c:Int) (u:Tok) (prog:Program) (w:World) (E:Value->Shared->Prop) (Q:Value->Shared->Prop) (h:Q (.bool (decide (a < c))) s):
  wpAny (model prog w) A (richCompare .Lt (.int a t) (.int c u)) Q E s:=
 (PyProof.Rows.lt_int h:wpAny (model prog w) A (compareOp .Lt (.int a t) (.int c u)) Q E s)
section
open PySem.SeqAt
open PySem.AutoSeq1 (wpAny_loadPart')
open PySem.MeetsSeq PySem.MeetsSeq2 PySem.MeetsSeq3
theorem vy (l b:Addr) (items items2:Array Value) (n n2:Nat) (dd dd2:Option Addr) (sl sl2:Array (Option Value)) (ns ms:List Int) (hi:IntsAre items.toList ns) (hj:IntsAre items2.toList ms):
  Meets (Builtin.«tuple.__lt__» ⟨[.ref l,.ref b],[]⟩)
   (fun _ R s=>s.heap.get? l=some {cls:=.type "tuple",dict:=dd,data:=.seq items n,slots:=sl}/\s.heap.get? b=some {cls:=.type "tuple",dict:=dd2,data:=.seq items2 n2,slots:=sl2}/\
    R (.ok (.ret (.bool (lexLt ns ms)))) s):=
 .of_wp fun prog w A R s h=>by
  obtain ⟨hp,g,d,tk,os⟩:=s;obtain ⟨hl,hb,h⟩:=h
  have f2:=AutoSeq1.sub_tuple_tuple
  have z1:items.size=ns.length:=by rw [← hi.length];simp
  have z2:items2.size=ms.length:=by rw [← hj.length];simp
  wp_walk using wpAny_loadPart' hl,wpAny_loadPart' hb,wpAny_forIn_list _ (fun rest b s'=>b.1=none/\s'=⟨hp,g,d,tk,os⟩/\∃ (vs ws:List Value) (ns' ms':List Int),rest=vs.zip ws/\
   IntsAre vs ns'/\IntsAre ws ms'/\ns'.length+items2.size=ms'.length+items.size/\R (.ok (.ret (.bool (lexLt ns' ms')))) ⟨hp,g,d,tk,os⟩) _
  case turn=>
   rintro ⟨y,x⟩ rest b s' ⟨hb',rfl,vs,ws,ns',ms',hz,hvi,hwi,hlen,hR⟩
   cases hvi with
   | nil=>rw [List.zip_nil_left] at hz;cases hz
   | cons a t hvi'=>
    cases hwi with
    | nil=>rw [List.zip_nil_right] at hz;cases hz
    | cons c u hwi'=>
     rw [Abk] at hz
     injection hz with hyx hrest
     injection hyx with hy hx
     subst hy hx
     rw [lexLt_cons] at hR
     simp only [ZW] at hlen
     obtain ⟨e,he,hiff⟩:=eqAt_int A.in1 ⟨hp,g,d,tk,os⟩ a t c u
     refine YK (he prog w _ _ ?_)
     cases e with
     | true=>
      rw [if_pos (hiff.mp rfl)] at hR
      wp_walk
      exact ⟨rfl,rfl,_,_,_,_,hrest,hvi',hwi',by omega,hR⟩
     | false=>
      rw [if_neg (fun q=>absurd (hiff.mpr q) Y4)] at hR
      have hri:=Gk A.in1 ⟨hp,g,d,tk,os⟩ a t c u prog w
      wp_walk using hri
      exact ⟨_,rfl,by simpa using hR⟩
  case fin=>
   rintro ⟨b1,b2⟩ s' ⟨hb',rfl,vs,ws,ns',ms',hz,hvi,hwi,hlen,hR⟩
   simp only at hb'
   subst hb'
   have hv:lexLt ns' ms'=decide (items.size < items2.size):=by
    cases hvi with
    | nil=>
     cases hwi with
     | nil=>
      simp only [Z1] at hlen
      rw [vq]
      exact (Y5 (by omega)).symm
     | cons c u hw=>
      simp only [Z1,ZW] at hlen
      rw [uh]
      exact (YZ (by omega)).symm
    | cons a t hv=>
     cases hwi with
     | nil=>
      simp only [Z1,ZW] at hlen
      rw [ul]
      exact (Y5 (by omega)).symm
     | cons c u hw=>
      rw [Abk] at hz
      cases hz
   rw [hv] at hR
   wp_walk
   exact ⟨_,rfl,by simpa [Builtin.Tuple.tupleCompareSizes] using hR⟩
  case h=>
   exact ⟨rfl,rfl,items.toList,items2.toList,ns,ms,rfl,hi,hj,by omega,h⟩
end
section
variable {prog:Program} {w:World} {A:Around} {E:Value->Shared->Prop} {s:Shared}
theorem lt_tupInts {l b:Addr} {items items2:Array Value} {ns ms:List Int} {Q:Value->Shared->Prop} (hl:IsTup s.heap l items) (hb:IsTup s.heap b items2) (hi:IntsAre items.toList ns) (hj:IntsAre items2.toList ms)
  (hu:A.units < cLine) (h:Q (.bool (lexLt ns ms)) s):wpAny (model prog w) A (compareOp .Lt (.ref l) (.ref b)) Q E s:=by
 obtain ⟨⟨cls,dd,data,sl⟩,ho,hc,n,hd⟩:=id hl
 obtain ⟨⟨cls2,dd2,data2,sl2⟩,ho2,hc2,n2,hd2⟩:=id hb
 simp only at hc hd hc2 hd2
 subst hc hd hc2 hd2
 exact richCompare_meets_room (op:=.Lt) ⟨_,ho,rfl⟩ ⟨_,ho2,rfl⟩ PySem.F.slot_tuple_lt PySem.F.entry_tuple_lt (PySem.F.args_tuple_lt_2 _ _) (vy l b items items2 n n2 dd dd2 sl sl2 ns ms hi hj)
  ⟨ho,ho2,show Value.bool (lexLt ns ms)≠Value.notImplemented/\Q (.bool (lexLt ns ms)) s from ⟨(fun x=>nomatch x),h⟩⟩ hu
theorem cat_tup {t b:Addr} {vs ws:List Value} {Q:Value->Shared->Prop} (ht:IsTup s.heap t vs.toArray) (hb:IsTup s.heap b ws.toArray) (hv:vs≠[])
  (h1:ws=[]->Q (.ref t) s) (h2:ws≠[]->Q (.ref s.heap.objs.size) {s with heap:=s.heap.push {cls:=.type "tuple",data:=.seq (vs ++ ws).toArray}})
  (hsz:vs.length+ws.length<=sizeLine):wpAny (model prog w) A (binaryOp .Add (.ref t) (.ref b)) Q E s:=by
 obtain ⟨⟨cls,dd,data,sl⟩,ho,hc,n,hd⟩:=id ht
 obtain ⟨⟨cls2,dd2,data2,sl2⟩,ho2,hc2,n2,hd2⟩:=id hb
 simp only at hc hd hc2 hd2
 subst hc hd hc2 hd2
 have e:vs.toArray ++ ws.toArray=(vs ++ ws).toArray:=by simp
 by_cases hw:ws=[]
 ·exact concat_meets ⟨_,ho,rfl⟩ ⟨_,ho2,rfl⟩ noFill_tuple_add seq_tuple_add PySem.F.slot_tuple_add PySem.F.entry_tuple_add (PySem.F.args_tuple_add_2 _ _)
   (tuple_addW1 t b vs.toArray ws.toArray n n2 dd dd2 sl sl2 (by simpa using hv) (by simp [hw])) ⟨ho,ho2,h1 hw⟩
 ·refine concat_meets ⟨_,ho,rfl⟩ ⟨_,ho2,rfl⟩ noFill_tuple_add seq_tuple_add PySem.F.slot_tuple_add PySem.F.entry_tuple_add (PySem.F.args_tuple_add_2 _ _)
   (tuple_addW2 t b vs.toArray ws.toArray n n2 dd dd2 sl sl2 (by simpa using hv) (by simpa using hw) (by rw [Y9,Y9];exact hsz)) ⟨ho,ho2,?_⟩
  rw [e]
  exact h2 hw
def sIx (n d:Nat):Option Int->Nat
 | none=>d
 | some v=>if v < 0 then (v+(n:Int)).toNat else min v.toNat n
theorem sIx_nat (n d k:Nat):sIx n d (some (k:Int))=min k n:=by
 show (if (k:Int) < 0 then ((k:Int)+(n:Int)).toNat else min (k:Int).toNat n)=min k n
 rw [if_neg (by omega),Aby]
theorem QM (n d:Nat) (hd:d<=n) (o:Option Int):sIx n d o<=n:=by
 cases o with
 | none=>exact hd
 | some v=>
  show (if v < 0 then (v+(n:Int)).toNat else min v.toNat n)<=n
  by_cases hv:v < 0
  ·rw [if_pos hv];omega
  ·rw [if_neg hv];exact Nat.min_le_right _ _
theorem Bk (v:Int) (n d:Nat):(if v < 0 then max (v+(n:Int)) 0 else min v (n:Int))=((sIx n d (some v):Nat):Int):=by
 show (if v < 0 then max (v+(n:Int)) 0 else min v (n:Int))=(((if v < 0 then (v+(n:Int)).toNat else min v.toNat n):Nat):Int)
 by_cases hv:v < 0
 ·simp only [if_pos hv];omega
 ·simp only [if_neg hv];omega
theorem zG (lo hi:Option Int) (n:Nat):Builtin.Slice.sliceAdjust lo hi 1 (n:Int)=(((sIx n 0 lo:Nat):Int),((sIx n n hi:Nat):Int)):=by
 have h1:¬ ((1:Int) < 0):=by omega
 unfold Builtin.Slice.sliceAdjust
 simp only [h1,if_false]
 refine Prod.ext ?_ ?_
 ·cases lo with
  | none=>rfl
  | some v=>exact Bk v n 0
 ·cases hi with
  | none=>rfl
  | some v=>exact Bk v n n
theorem zH (i j:Nat):Builtin.Slice.slicePlaces (i:Int) (j:Int) 1=j - i:=by
 unfold Builtin.Slice.slicePlaces
 have h1:(1:Int) > 0:=by omega
 simp only [h1,if_true,Int.ediv_one]
 split <;> omega
theorem um {v:Value} {o:Option Int} {Q:Option Int->Shared->Prop} (p:IsPart v o) (h:Q o s):wpAny (model prog w) A (Builtin.Slice.slicePartIndex v) Q E s:=by
 cases p with
 | none=>exact slicePart_none h
 | int i t=>exact slicePart_int h
theorem lF {sl:Addr} {vl vu:Value} {lo hi:Option Int} {n:Nat} {Q:Int×Int×Nat->Shared->Prop} (hs:s.heap.IsSliceOf sl vl vu .none) (pl:IsPart vl lo) (pu:IsPart vu hi)
  (h:Q (((sIx n 0 lo:Nat):Int),1,sIx n n hi - sIx n 0 lo) s):wpAny (model prog w) A (Builtin.Slice.sliceApplied (.ref sl) (pure (n:Int))) Q E s:=by
 obtain ⟨os,hos,hcs,hds⟩:=id hs
 unfold Builtin.Slice.sliceApplied Builtin.Slice.sliceFields
 refine YK (YK (AaQ hos hds (x:=vl) rfl (YK (AaQ hos hds (x:=vu) rfl (YK (AaQ hos hds (x:=.none) rfl (YM ?_)))))))
 refine YK (slicePart_none ?_)
 show wpAny _ _ (if ((1:Int) == 0)=true then _ else _) _ _ s
 rw [if_neg (by decide)]
 refine YK (um pl (YK (um pu (YK (YM ?_)))))
 show wpAny _ _ (match Builtin.Slice.sliceAdjust lo hi 1 (n:Int) with | (lo,hi)=>pure (lo,(1:Int),Builtin.Slice.slicePlaces lo hi 1)) _ _ s
 rw [zG lo hi n]
 show wpAny _ _ (pure (((sIx n 0 lo:Nat):Int),(1:Int),Builtin.Slice.slicePlaces ((sIx n 0 lo:Nat):Int) ((sIx n n hi:Nat):Int) 1)) _ _ s
 rw [zH]
 exact YM h
theorem Gm (xs:Array Value) (i k:Nat):((List.range k).filterMap fun (m:Nat)=>xs[((i:Int)+(m:Int)*1).toNat]?).toArray=((xs.toList.drop i).take k).toArray:=by
 have e:(fun (m:Nat)=>xs[((i:Int)+(m:Int)*1).toNat]?)=fun m=>xs[i+m]?:=by
  funext m
  have:((i:Int)+(m:Int)*1).toNat=i+m:=by omega
  rw [this]
 rw [e]
 have:=pick_run xs i k
 rw [List.filterMap_map] at this
 have e2:((fun x=>xs[x]?) ∘ fun x=>i+x)=fun m=>xs[i+m]?:=rfl
 rw [e2] at this
 rw [this]
theorem getItem_tuple_cut {t sl:Addr} {items:Array Value} {vl vu:Value} {lo hi:Option Int} {Q:Value->Shared->Prop} (ht:IsTup s.heap t items) (hs:s.heap.IsSliceOf sl vl vu .none) (pl:IsPart vl lo) (pu:IsPart vu hi)
  (hw:¬ (sIx items.size 0 lo=0/\sIx items.size items.size hi=items.size))
  (h:Q (.ref s.heap.objs.size) {s with heap:=s.heap.push {cls:=.type "tuple",data:=.seq ((items.toList.drop (sIx items.size 0 lo)).take (sIx items.size items.size hi - sIx items.size 0 lo)).toArray}})
  (hsz:items.size<=sizeLine):wpAny (model prog w) A (getItem (.ref t) (.ref sl)) Q E s:=by
 have htake:sizeOk (.seq ((items.toList.drop (sIx items.size 0 lo)).take (sIx items.size items.size hi - sIx items.size 0 lo)).toArray):=by
  show ((items.toList.drop (sIx items.size 0 lo)).take (sIx items.size items.size hi - sIx items.size 0 lo)).toArray.size<=sizeLine
  rw [Y9,Zb,Aax,Aai]
  omega
 have hj:sIx items.size items.size hi<=items.size:=QM _ _ (YW _) hi
 obtain ⟨os,hos,hcs,hds⟩:=id hs
 have hTs:s.TypeIs (.ref sl) "slice":=⟨os,hos,hcs⟩
 unfold getItem
 try with_reducible refine Zz ?_
 first | refine YK (YM ?_) | skip
 refine YK (wpAny_sequenceKey ht.typeIs (by decide) ?_)
 refine YK (Aae (name:=Str.ofString "__getitem__") ht.typeIs Aav
  (Aag Aav ht.typeIs entry_tuple_getitem ?_ (args_tuple_getitem _ _)))
 show wpAny _ _ (Builtin.Tuple.tupleItemsOf (.ref t) >>=_) _ _ s
 refine YK (tupleItemsOf_ ht ?_)
 refine YK (wpAny_typeOf hTs ?_)
 rw [if_pos (by decide)]
 refine YK (lF hs pl pu ?_)
 have hno:¬ ((((sIx items.size 0 lo:Nat):Int) == 0 && (1:Int) == 1 && (sIx items.size items.size hi - sIx items.size 0 lo) == items.size)=true):=by
  intro q
  rw [Zm,Zm] at q
  have q1:((sIx items.size 0 lo:Nat):Int)=0:=eq_of_beq q.1.1
  have q2:sIx items.size items.size hi - sIx items.size 0 lo=items.size:=eq_of_beq q.2
  exact hw ⟨by omega,by omega⟩
 show wpAny _ _ (if (((sIx items.size 0 lo:Nat):Int) == 0 && (1:Int) == 1 && (sIx items.size items.size hi - sIx items.size 0 lo) == items.size)=true then _ else _) _ _ s
 rw [if_neg hno,Gm]
 first
  | exact YK (m:=Builtin.Tuple.tupleExact _) (ZX (YM ⟨_,rfl,YM h⟩) htake)
  | exact YK (m:=Builtin.Tuple.tupleExact _) (ZX (YK (YM (YM ⟨_,rfl,YM h⟩))) htake)
  | exact YK (YK (m:=Builtin.Tuple.tupleExact _) (ZX (YM (YM ⟨_,rfl,YM h⟩)) htake))
  | exact YK (YK (m:=Builtin.Tuple.tupleExact _) (ZX (YM ⟨_,rfl,YM h⟩) htake))
end
end HT
namespace L2
open PySem PySem.Spec PyProof.Rows
abbrev TO:=St->Hp->(Option Int->Hp->Prop)->Prop
def PO (X:Cx) (e:Option Expr) (t:TO):Prop:=
 ∀ (pins:List (Addr×Obj)) (s:Shared) (U:St) (H:Hp) (Q:Option Int->Hp->Prop),Inv X pins U H s->t U H Q->
  wpAny (model X.prog X.w) X.A (evalPart e X.env) (fun u s'=>∃ o H',Inv X pins U H' s'/\IsPart u o/\Q o H') X.xe s
def wQ:TO:=fun _ H Q=>Q none H
def Gn (t:TE):TO:=fun U H Q=>t U H fun x H1=>∃ i,x= .int i/\Q (some i) H1
theorem intsAre_of {ns:List Int}:∀ {us:List Value},Vals (ns.map V.int) us->IntsAre us ns:=by
 induction ns with
 | nil=>intro us r;rw [Abl] at r;cases r;exact .nil
 | cons n ns ih=>
  intro us r
  rw [ZJ] at r
  cases r with
  | cons r1 r2=>
   obtain ⟨t,e⟩:=r1
   subst e
   exact .cons n t (ih r2)
section
variable {X:Cx} {e:Expr} {te:TE} {lo hi:Option Expr} {tl th:TO} {pos p2:Pos}
theorem K9:PO X none wQ:=by
 intro pins s U H Q I h
 rw [evalPart_none]
 exact YM ⟨none,H,I,.none,h⟩
theorem La (h:PE X e te):PO X (some e) (Gn te):=by
 intro pins s U H Q I hw
 rw [evalPart_some]
 refine dM (h pins s U H _ I hw) fun u s1 qq0=>?_
 obtain ⟨x,H1,I1,r1,q1⟩:=qq0
 obtain ⟨i,rfl,q⟩:=q1
 obtain ⟨t,rfl⟩:=r1
 exact ⟨some i,H1,I1,.int i t,q⟩
def SlR (X:Cx) (r:V->Option Int->Option Int->Hp->VK->Prop):Prop:=
 ∀ (pins:List (Addr×Obj)) (s:Shared) (U:St) (H:Hp) (x:V) (v vl vu:Value) (lo hi:Option Int) (sl:Addr) (Q:VK),Inv X pins U H s->RelV x v->s.heap.IsSliceOf sl vl vu .none->IsPart vl lo->IsPart vu hi->r x lo hi H Q->
  ∃ T id,typeLookup (.type T) "__getitem__"=pure (some (.builtin id))/\s.TypeIs v T/\wpAny (model X.prog X.w) X.A (getItem v (.ref sl)) (EP X pins U Q) X.xe s
theorem SlR.or {r r':V->Option Int->Option Int->Hp->VK->Prop} (h:SlR X r) (h':SlR X r'):SlR X (fun x lo hi H Q=>r x lo hi H Q\/r' x lo hi H Q):=by
 intro pins s U H x v vl vu lo hi sl Q I rx hs pl pu q
 rcases q with q | q
 ·exact h pins s U H x v vl vu lo hi sl Q I rx hs pl pu q
 ·exact h' pins s U H x v vl vu lo hi sl Q I rx hs pl pu q
def tSl (r:V->Option Int->Option Int->Hp->VK->Prop) (te:TE) (tl th:TO):TE:=fun U H Q=>te U H fun x H1=>tl U H1 fun l H2=>th U H2 fun u H3=>r x l u H3 Q
theorem Gp {r:V->Option Int->Option Int->Hp->VK->Prop} (hr:SlR X r) (he:PE X e te) (hl:PO X lo tl) (hu:PO X hi th):PE X (.Subscript e (.Slice lo hi none p2) pos) (tSl r te tl th):=by
 intro pins s U H Q I h
 refine Subscript_ (dM (he pins s U H _ I h) fun v s1 qq0=>?_)
 obtain ⟨x,H1,I1,r1,q1⟩:=qq0
 refine wpAny_Slice (dM (hl pins s1 U H1 _ I1 q1) fun vl s2 ⟨l,H2,I2,pl,q2⟩=>dM (hu pins s2 U H2 _ I2 q2) fun vu s3 qq0=>?_)
 obtain ⟨u,H3,I3,pu,q3⟩:=qq0
 rw [evalPart_none]
 refine YM ?_
 have I4:Inv X pins U H3 {s3 with heap:=s3.heap.push {cls:=.type "slice",data:=.fields #[vl,vu,.none]}}:=I3.kept (t':=s3.toks) fun b ob q=>YT _ q
 obtain ⟨T,id,hT,ht,hg⟩:=hr pins {s3 with heap:=s3.heap.push {cls:=.type "slice",data:=.fields #[vl,vu,.none]}} U H3 x v vl vu l u s3.heap.objs.size Q I4 r1 (Heap.IsSliceOf.new ..) pl pu q3
 show wpAny (model X.prog X.w) X.A (subscriptTail e (.Slice lo hi none p2) v (.ref s3.heap.objs.size)) (EP X pins U Q) X.xe {s3 with heap:=s3.heap.push {cls:=.type "slice",data:=.fields #[vl,vu,.none]}}
 exact tail_any (ops:=[.ref s3.heap.objs.size,v]) ht hT hg (by with_unfolding_all rfl)
def dI (xs:List V) (lo hi:Option Int):List V:=(xs.drop (HT.sIx xs.length 0 lo)).take (HT.sIx xs.length xs.length hi - HT.sIx xs.length 0 lo)
theorem iI (xs:List V) (lo hi:Option Int):(dI xs lo hi).length<=xs.length:=by
 unfold dI
 rw [Zb,Aax]
 omega
def Vr (K:W.Frag):V->Option Int->Option Int->Hp->VK->Prop:=fun x lo hi H Q=>∃ a xs,x= .ref a/\SqT K H a xs/\
 ¬ (HT.sIx xs.length 0 lo=0/\HT.sIx xs.length xs.length hi=xs.length)/\∀ p,H p=none->Q (.ref p) (upd H p (.tup (dI xs lo hi)))
theorem QQ:SlR X (Vr X.K):=by
 intro pins s U H x v vl vu lo hi sl Q I rx hs pl pu h
 obtain ⟨a,xs,rfl,hx,hw,q⟩:=h
 cases rx
 obtain ⟨its,r,ht,hz⟩:=I.tuple hx
 have hlen:its.toArray.size=xs.length:=by rw [Y9];exact r.length.symm
 refine ⟨"tuple",_,PyProof.Rows.slot_tuple_getitem.lookup,ht.typeIs,?_⟩
 refine HT.getItem_tuple_cut ht hs pl pu (by rw [hlen];exact hw) ?_ (by rw [hlen];exact hz)
 rw [hlen]
 refine ⟨.ref s.heap.objs.size,_,I.laid (t':=s.toks) (o:=.tup (dI xs lo hi)) (fun b ob q=>YT _ q) (YW _) ?_,rfl,q _ (I.hok.fresh (YW _))⟩
 exact ⟨Aan (iI xs lo hi) hz,_,(r.drop (HT.sIx xs.length 0 lo)).take (HT.sIx xs.length xs.length hi - HT.sIx xs.length 0 lo),IsTup.new _ _⟩
def Vs (K:W.Frag):R2:=fun x y H Q=>∃ a b ns ms,x= .ref a/\y= .ref b/\SqT K H a (ns.map V.int)/\SqT K H b (ms.map V.int)/\Q (.bl (HT.lexLt ns ms)) H
theorem QR (hu:X.A.units < cLine):OpR X (compareOp .Lt) (Vs X.K):=by
 intro pins s U H x y v u Q I rx ry h
 obtain ⟨a,b,ns,ms,rfl,rfl,ha,hb,q⟩:=h
 cases rx
 cases ry
 obtain ⟨its,r1,p1,_⟩:=I.tuple ha
 obtain ⟨its2,r2,p2,_⟩:=I.tuple hb
 have i1:IntsAre its.toArray.toList ns:=intsAre_of r1
 have i2:IntsAre its2.toArray.toList ms:=intsAre_of r2
 exact HT.lt_tupInts p1 p2 i1 i2 hu ⟨.bl (HT.lexLt ns ms),H,I,rfl,q⟩
def Ow (K:W.Frag):R2:=fun x y H Q=>∃ a b xs ys,x= .ref a/\y= .ref b/\SqT K H a xs/\SqT K H b ys/\xs≠[]/\xs.length+ys.length<=sizeLine/\
 (ys=[]->Q (.ref a) H)/\(ys≠[]->∀ p,H p=none->Q (.ref p) (upd H p (.tup (xs ++ ys))))
theorem Vals.nil_iff {xs:List V} {us:List Value} (r:Vals xs us):us=[]↔xs=[]:=by
 cases r with
 | nil=>simp
 | cons _ _=>simp
theorem Lb:OpR X (binaryOp .Add) (Ow X.K):=by
 intro pins s U H x y v u Q I rx ry h
 obtain ⟨a,b,xs,ys,rfl,rfl,ha,hb,hx,hz,q1,q2⟩:=h
 cases rx
 cases ry
 obtain ⟨its,r1,p1,_⟩:=I.tuple ha
 obtain ⟨its2,r2,p2,_⟩:=I.tuple hb
 refine HT.cat_tup p1 p2 (fun z=>hx (r1.nil_iff.mp z)) (fun z=>⟨.ref a,H,I,rfl,q1 (r2.nil_iff.mp z)⟩) (fun z=>?_) (by rw [← r1.length,← r2.length];exact hz)
 refine ⟨.ref s.heap.objs.size,_,I.laid (t':=s.toks) (o:=.tup (xs ++ ys)) (fun b ob q=>YT _ q) (YW _) ?_,rfl,q2 (fun w=>z (r2.nil_iff.mpr w)) _ (I.hok.fresh (YW _))⟩
 exact ⟨by rw [YX];exact hz,_,r1.append r2,IsTup.new _ _⟩
end
def zJ (n:Nat) (i:Int):Option Nat:=if 0<=i then (if i < n then some i.toNat else none) else if -(n:Int)<=i then some (i+n).toNat else none
def zq {α:Type} (xs:List α) (i:Int):Option α:=(zJ xs.length i).bind fun j=>xs[j]?
theorem Bl {n:Nat} {i:Int} {j:Nat} (h:zJ n i=some j):seqIndex? i n=some j/\j < n/\-(n:Int)<=i/\i < n:=by
 unfold zJ at h
 by_cases h0:0<=i
 ·rw [if_pos h0] at h
  by_cases h1:i < n
  ·rw [if_pos h1] at h
   have e:i.toNat=j:=Zn h
   exact ⟨by rw [seqIndex_of h0 h1,e],by omega,by omega,h1⟩
  ·rw [if_neg h1] at h;cases h
 ·rw [if_neg h0] at h
  by_cases h1: -(n:Int)<=i
  ·rw [if_pos h1] at h
   have e:(i+n).toNat=j:=Zn h
   exact ⟨by rw [seqIndex_neg (by omega) h1,e],by omega,h1,by omega⟩
  ·rw [if_neg h1] at h;cases h
theorem wR {α:Type} {xs:List α} {i:Int} {v:α} (h:zq xs i=some v):∃ j,seqIndex? i xs.length=some j/\xs[j]?=some v/\j < xs.length/\-(xs.length:Int)<=i/\i < xs.length:=by
 unfold zq at h
 cases e:zJ xs.length i with
 | none=>rw [e] at h;cases h
 | some j=>
  rw [e] at h
  obtain ⟨h1,h2,h3,h4⟩:=Bl e
  exact ⟨j,h1,h,h2,h3,h4⟩
theorem bw {α:Type} {xs:List α} {j:Nat} {v:α} (h:xs[j]?=some v):zq xs (j:Int)=some v:=by
 have hj:j < xs.length:=(YS.mp h).1
 have e:zJ xs.length (j:Int)=some j:=by
  unfold zJ
  rw [if_pos (by omega),if_pos (by omega)];simp
 unfold zq;rw [e];exact h
def Bm (b:Expr):Prop:=∀ o i,subscripted b false o i=operate [o,i] (getItem o i)
def IxR (X:Cx) (r:R2):Prop:=
 ∀ (value slice:Expr) (pins:List (Addr×Obj)) (s:Shared) (U:St) (H:Hp) (x y:V) (v u:Value) (Q:VK),Inv X pins U H s->RelV x v->RelV y u->r x y H Q->
  subscripted slice false v u=operate [v,u] (getItem v u)->wpAny (model X.prog X.w) X.A (subscriptTail value slice v u) (EP X pins U Q) X.xe s
def Yw (X:Cx) (id:String) (r:V->List V->Hp->VK->Prop):Prop:=
 ∀ (pins:List (Addr×Obj)) (s:Shared) (U:St) (H:Hp) (x:V) (xs:List V) (v:Value) (us:List Value) (Q:VK),Inv X pins U H s->RelV x v->Vals xs us->r x xs H Q->
  wpAny (model X.prog X.w) X.A (call (.builtin id) (v :: us)) (EP X pins U Q) X.xe s
section
variable {X:Cx} {a b:Expr} {ta tb:TE} {pos:Pos}
theorem IxR.or {r r':R2} (h:IxR X r) (h':IxR X r'):IxR X (fun x y H Q=>r x y H Q\/r' x y H Q):=by
 intro value slice pins s U H x y v u Q I rx ry q hs
 rcases q with q | q
 ·exact h value slice pins s U H x y v u Q I rx ry q hs
 ·exact h' value slice pins s U H x y v u Q I rx ry q hs
theorem Vt {r:R2} (hr:IxR X r) (ha:PE X a ta) (hb:PE X b tb) (hs:Bm b):PE X (.Subscript a b pos) (Kq r ta tb):=by
 intro pins s U H Q I h
 exact Subscript_ (Qx ha hb I h fun v u s2 x y H2 I2 rx ry q=>hr a b pins s2 U H2 x y v u Q I2 rx ry q (hs _ _))
def Vu (K:W.Frag):R2:=fun x y H Q=>∃ p xs i v,x= .ref p/\y= .int i/\SqL K H p xs/\zq xs i=some v/\Q v H
def Vv (K:W.Frag):R2:=fun x y H Q=>∃ p xs i v,x= .ref p/\y= .int i/\SqT K H p xs/\zq xs i=some v/\Q v H
def Vw:R2:=fun x y H Q=>∃ z i c,x= .str z/\y= .int i/\z.length<=sizeLine/\zq z.cps.toList i=some c/\Q (.str ⟨#[c]⟩) H
theorem Ld:IxR X (Vu X.K):=by
 intro value slice pins s U H x y v u Q I rx ry h hs
 obtain ⟨p,xs,i,z,rfl,rfl,hq,he,q⟩:=h
 cases rx
 obtain ⟨t,rfl⟩:=ry
 obtain ⟨its,r,pl,hz⟩:=I.list hq
 obtain ⟨j,h1,h2,h3,h4,h5⟩:=wR he
 obtain ⟨w,ew,rw'⟩:=r.get h2
 have hl:=r.length
 have hn:=ug
 have fin:EP X pins U Q w s:=⟨z,H,I,rw',q⟩
 by_cases h0:0<=i
 ·have hj:i.toNat=j:=by
   rw [seqIndex_of h0 h5] at h1
   exact Zn h1
  exact item_listR pl.isList h0 (by omega) (by rw [hj];simpa using ew) fin hs
 ·have hj:(i+(its.toArray.size:Int)).toNat=j:=by
   rw [seqIndex_neg (by omega) h4] at h1
   rw [Y9,← hl]
   exact Zn h1
  exact subscriptTail_builtinR (x:=w) pl.isList.typeIs slot_list_getitem.lookup
   (wpAny_getItem_list_neg (Q:=fun r s'=>r=w/\EP X pins U Q r s') pl.isList (by omega) (by rw [Y9] <;> omega) (by omega) (by rw [hj];simpa using ew) ⟨rfl,fin⟩) hs
theorem QS:IxR X (Vv X.K):=by
 intro value slice pins s U H x y v u Q I rx ry h hs
 obtain ⟨p,xs,i,z,rfl,rfl,hq,he,q⟩:=h
 cases rx
 obtain ⟨t,rfl⟩:=ry
 obtain ⟨its,r,pl,hz⟩:=I.tuple hq
 obtain ⟨j,h1,h2,h3,h4,h5⟩:=wR he
 obtain ⟨w,ew,rw'⟩:=r.get h2
 have hl:=r.length
 have hn:=ug
 have fin:EP X pins U Q w s:=⟨z,H,I,rw',q⟩
 exact subscriptTail_builtinR (x:=w) pl.typeIs slot_tuple_getitem.lookup
  (getItem_tuple (j:=j) (Q:=fun r s'=>r=w/\EP X pins U Q r s') pl (by omega) (by omega) (by rw [Y9,← hl];exact h1) (by simpa using ew) ⟨rfl,fin⟩) hs
theorem QT:IxR X Vw:=by
 intro value slice pins s U H x y v u Q I rx ry h hs
 obtain ⟨z,i,c,rfl,rfl,hz,he,q⟩:=h
 obtain ⟨t,rfl⟩:=rx
 obtain ⟨t',rfl⟩:=ry
 obtain ⟨j,h1,h2,h3,h4,h5⟩:=wR he
 have hl:z.cps.toList.length=z.length:=by simp [Str.length]
 rw [hl] at h1 h4 h5
 have hn:=ug
 exact tail_any (typeIs_str s z t) slot_str_getitem.lookup (getItem_str (c:=c) (by
  have e1:decide (i < -(2 ^ 63:Int))=false:=Y5 (by omega)
  have e2:decide (i>=2 ^ 63)=false:=Y5 (by omega)
  rw [e1,e2,Bool.or_false]) (by rw [h1];simpa using h2) ⟨.str ⟨#[c]⟩,H,I.tok _,⟨_,rfl⟩,q⟩) hs
def UT (K:W.Frag):R2:=fun x y H Q=>Vu K x y H Q\/Vv K x y H Q\/Vw x y H Q
theorem QV:IxR X (UT X.K):=Ld.or (QS.or QT)
theorem zK (its:List Value) (n j:Nat) (u:Value):Obj.mapSeq (·.setIfInBounds j u) {cls:=.type "list",data:=.seq its.toArray n}={cls:=.type "list",data:=.seq (its.set j u).toArray n}:=by
 simp [Obj.mapSeq]
theorem Inv.lst {pins:List (Addr×Obj)} {U:St} {H:Hp} {s:Shared} {p:Addr} {xs:List V} (I:Inv X pins U H s) (h:H p=some (.lst xs)):
  ∃ (its:List Value) (n:Nat),Vals xs its/\s.heap.get? p=some {cls:=.type "list",data:=.seq its.toArray n}/\xs.length<=sizeLine:=by
 obtain ⟨z,its,n,r,e⟩:=I.hok p _ h
 exact ⟨its,n,r,e,z⟩
theorem Inv.lstUpd {pins:List (Addr×Obj)} {U:St} {H:Hp} {s:Shared} {p:Addr} {xs ys:List V} {its its':List Value} {n n':Nat} {f:Obj->Obj} (I:Inv X pins U H s) (h:H p=some (.lst xs))
  (ho:s.heap.get? p=some {cls:=.type "list",data:=.seq its.toArray n}) (hf:f {cls:=.type "list",data:=.seq its.toArray n}={cls:=.type "list",data:=.seq its'.toArray n'}) (r:Vals ys its') (hz:ys.length<=sizeLine) (t:Nat):
  Inv X pins U (upd H p (.lst ys)) {s with heap:=s.heap.update p f,toks:=t}:=by
 have e:(s.heap.update p f).get? p=some {cls:=.type "list",data:=.seq its'.toArray n'}:=by
  rw [Aaw f ho (by rw [hf] <;> rfl),hf]
 refine I.write (x:=p) (e:=p) (by rw [h];trivial) (.inl rfl) (fun b u hb q=>(Aar _ _ (Ne.symm hb)).trans q) ⟨_,e⟩ ?_
 exact ⟨hz,its',n',r,e⟩
def Gq:V->V->V->Hp->(Hp->Prop)->Prop:=fun o i v H Q=>∃ p xs k j,o= .ref p/\i= .int k/\H p=some (.lst xs)/\zJ xs.length k=some j/\Q (upd H p (.lst (xs.set j v)))
theorem set_list:KQ X Gq:=by
 intro pins s U H o i v ov iv u Q I ro ri rv h
 obtain ⟨p,xs,k,j,rfl,rfl,hp,hj,q⟩:=h
 cases ro
 obtain ⟨t,rfl⟩:=ri
 obtain ⟨its,n,r,ho,hz⟩:=I.lst hp
 obtain ⟨h1,h2,h3,h4⟩:=Bl hj
 have hl:=r.length
 have hn:=ug
 have I':Inv X pins U (upd H p (.lst (xs.set j v))) {s with heap:=s.heap.update p (Obj.mapSeq (·.setIfInBounds j u))}:=
  I.lstUpd hp ho (zK its n j u) (r.set rv j) (by rw [Aat];exact hz) s.toks
 by_cases h0:0<=k
 ·have hk:k.toNat=j:=by
   rw [seqIndex_of h0 h4] at h1
   exact Zn h1
  exact PySem.W.ki_setAt ho h0 (by omega) (by rw [Y9,← hl];exact h4) (by rw [hk];exact ⟨_,I',q⟩)
 ·have hk:(k+(its.toArray.size:Int)).toNat=j:=by
   rw [seqIndex_neg (by omega) h3] at h1
   rw [Y9,← hl]
   exact Zn h1
  exact PySem.W.ki_setBack ho (by omega) (by rw [Y9,← hl];exact h3) (by omega) (by rw [hk];exact ⟨_,I',q⟩)
theorem wU (lo hi:Option Int) (n:Nat):(sliceBounds lo hi none n).1=((HT.sIx n 0 lo:Nat):Int)/\(sliceBounds lo hi none n).2.1=((HT.sIx n n hi:Nat):Int)/\(sliceBounds lo hi none n).2.2=1:=by
 refine ⟨?_,?_,rfl⟩
 ·cases lo with
  | none=>simp [sliceBounds,HT.sIx]
  | some i=>
   simp only [sliceBounds,HT.sIx,Option.getD_none,show (1:Int) > 0 by decide,if_true]
   by_cases h:i < 0
   ·simp only [h,if_true] <;> omega
   ·simp only [h,if_false] <;> omega
 ·cases hi with
  | none=>simp [sliceBounds,HT.sIx]
  | some i=>
   simp only [sliceBounds,HT.sIx,Option.getD_none,show (1:Int) > 0 by decide,if_true]
   by_cases h:i < 0
   ·simp only [h,if_true] <;> omega
   ·simp only [h,if_false] <;> omega
theorem vz (its:List Value) (lo hi:Option Int):slicePick its.toArray lo hi none=((its.drop (HT.sIx its.length 0 lo)).take (HT.sIx its.length its.length hi - HT.sIx its.length 0 lo)).toArray:=by
 obtain ⟨h1,h2,h3⟩:=wU lo hi its.toArray.size
 unfold slicePick
 rw [h1,h2,h3]
 simp only [sliceRange_one,pick_run,Y9] <;> rfl
def Vx (K:W.Frag):V->Option Int->Option Int->Hp->VK->Prop:=fun x lo hi H Q=>∃ a xs,x= .ref a/\SqL K H a xs/\∀ p,H p=none->Q (.ref p) (upd H p (.lst (dI xs lo hi)))
theorem Le:SlR X (Vx X.K):=by
 intro pins s U H x v vl vu lo hi sl Q I rx hs pl pu h
 obtain ⟨a,xs,rfl,hx,q⟩:=h
 cases rx
 obtain ⟨its,r,ht,hz⟩:=I.list hx
 have hlen:=r.length
 refine ⟨"list",_,slot_list_getitem.lookup,ht.isList.typeIs,?_⟩
 refine wpAny_getItem_list_slice ht.isList hs pl pu .none (by simp) ?_ (by rw [Y9] <;> omega)
 rw [vz,← hlen]
 refine ⟨.ref s.heap.objs.size,_,I.laid (t':=s.toks) (o:=.lst (dI xs lo hi)) (fun b ob q=>YT _ q) (YW _) ?_,rfl,q _ (I.hok.fresh (YW _))⟩
 exact ⟨Aan (iI xs lo hi) hz,_,0,(r.drop (HT.sIx xs.length 0 lo)).take (HT.sIx xs.length xs.length hi - HT.sIx xs.length 0 lo),Y6 _ rfl⟩
def dG:V->Bool
 | .non=>true
 | .bl _=>true
 | .int _=>true
 | .str _=>true
 | _=>false
def Bo:V->V->Bool
 | .non,.non=>true
 | .bl a,.bl b=>a == b
 | .bl a,.int b=>(if a then 1 else 0) == b
 | .int a,.bl b=>a == (if b then 1 else 0)
 | .int a,.int b=>a == b
 | .str a,.str b=>a == b
 | _,_=>false
theorem qY {A:Around} {s:Shared} {y x:V} {u v:Value} (ry:RelV y u) (rx:RelV x v) (fy:dG y=true) (fx:dG x=true):SeqAt.EqAt A s u v (Bo y x):=by
 cases y with
 | non=>
  cases ry
  cases x with
  | non=>cases rx;exact AaY _
  | bl b=>cases rx;exact SeqAt.EqAt.none_bool b
  | int b=>obtain ⟨t,rfl⟩:=rx;exact SeqAt.EqAt.none_int b t
  | str b=>obtain ⟨t,rfl⟩:=rx;exact SeqAt.EqAt.none_str b t
  | _=>exact absurd (show false=true from fx) Y4
 | bl a=>
  cases ry
  cases x with
  | non=>cases rx;exact SeqAt.EqAt.bool_none a
  | bl b=>cases rx;exact SeqAt.EqAt.bool_bool a b
  | int b=>obtain ⟨t,rfl⟩:=rx;exact SeqAt.EqAt.bool_int a b t
  | str b=>obtain ⟨t,rfl⟩:=rx;exact SeqAt.EqAt.bool_str a b t
  | _=>exact absurd (show false=true from fx) Y4
 | int a=>
  obtain ⟨t',rfl⟩:=ry
  cases x with
  | non=>cases rx;exact SeqAt.EqAt.int_none a t'
  | bl b=>cases rx;exact SeqAt.EqAt.int_bool a t' b
  | int b=>obtain ⟨t,rfl⟩:=rx;exact SeqAt.EqAt.int_int a t' b t
  | str b=>obtain ⟨t,rfl⟩:=rx;exact SeqAt.EqAt.int_str a t' b t
  | _=>exact absurd (show false=true from fx) Y4
 | str a=>
  obtain ⟨t',rfl⟩:=ry
  cases x with
  | non=>cases rx;exact SeqAt.EqAt.str_none a t'
  | bl b=>cases rx;exact SeqAt.EqAt.str_bool a t' b
  | int b=>obtain ⟨t,rfl⟩:=rx;exact SeqAt.EqAt.str_int a t' b t
  | str b=>obtain ⟨t,rfl⟩:=rx;exact SeqAt.EqAt.str_str a t' b t
  | _=>exact absurd (show false=true from fx) Y4
 | _=>exact absurd (show false=true from fy) Y4
def zL (x:V) (u:Value):Bool:=match u with
 | .none=>Bo .non x
 | .bool b=>Bo (.bl b) x
 | .int i _=>Bo (.int i) x
 | .str z _=>Bo (.str z) x
 | _=>false
theorem Gr {x y:V} {u:Value} (r:RelV y u) (f:dG y=true):zL x u=Bo y x:=by
 cases y with
 | non=>cases r;rfl
 | bl b=>cases r;rfl
 | int i=>obtain ⟨t,rfl⟩:=r;rfl
 | str z=>obtain ⟨t,rfl⟩:=r;rfl
 | _=>exact absurd (show false=true from f) Y4
theorem qg {x:V}:∀ {xs:List V} {us:List Value},Vals xs us->xs.all dG=true->us.any (zL x)=xs.any fun y=>Bo y x
 | _,_,.nil,_=>rfl
 | y :: xs,u :: us,.cons r t,f=>by
  rw [Z7,Zm] at f
  rw [List.any_cons,List.any_cons,Gr r f.1,qg t f.2]
theorem mY {A:Around} {s:Shared} {x:V} {v:Value} (rx:RelV x v) (fx:dG x=true):∀ {xs:List V} {us:List Value},Vals xs us->xs.all dG=true->∀ u∈us,SeqAt.EqAt A s u v (zL x u)
 | _,_,.nil,_=>fun u hu=>by cases hu
 | y :: xs,u :: us,.cons r t,f=>fun u' hu=>by
  rw [Z7,Zm] at f
  rcases Zg.mp hu with rfl | hu
  ·rw [Gr r f.1];exact qY r rx f.1 fx
  ·exact mY rx fx t f.2 u' hu
def inV (x:V) (xs:List V):Bool:=xs.any fun y=>Bo y x
def Yx (K:W.Frag) (neg:Bool):R2:=fun x y H Q=>∃ p xs,y= .ref p/\(SqL K H p xs\/SqT K H p xs)/\dG x=true/\xs.all dG=true/\Q (.bl (if neg then !inV x xs else inV x xs)) H
theorem De:OpR X (compareOp .In) (Yx X.K false):=by
 intro pins s U H x y v u Q I rx ry h
 obtain ⟨p,xs,rfl,hq,fx,fs,q⟩:=h
 cases ry
 rcases hq with hq | hq
 ·obtain ⟨its,r,pl,hz⟩:=I.list hq
  refine SeqAt.in_listAt (zL x) pl.isList (fun w hw=>mY rx fx r fs w (by simpa using hw)) ⟨.bl _,H,I,rfl,?_⟩
  rw [show its.toArray.any (zL x)=its.any (zL x) by simp,qg r fs]
  exact q
 ·obtain ⟨its,r,pl,hz⟩:=I.tuple hq
  refine SeqAt.in_tupleAt (zL x) pl (fun w hw=>mY rx fx r fs w (by simpa using hw)) ⟨.bl _,H,I,rfl,?_⟩
  rw [show its.toArray.any (zL x)=its.any (zL x) by simp,qg r fs]
  exact q
theorem wV:OpR X (compareOp .NotIn) (Yx X.K true):=by
 intro pins s U H x y v u Q I rx ry h
 obtain ⟨p,xs,rfl,hq,fx,fs,q⟩:=h
 cases ry
 rcases hq with hq | hq
 ·obtain ⟨its,r,pl,hz⟩:=I.list hq
  refine SeqAt.notIn_listAt (zL x) pl.isList (fun w hw=>mY rx fx r fs w (by simpa using hw)) ⟨.bl _,H,I,rfl,?_⟩
  rw [show its.toArray.any (zL x)=its.any (zL x) by simp,qg r fs]
  exact q
 ·obtain ⟨its,r,pl,hz⟩:=I.tuple hq
  refine SeqAt.notIn_tupleAt (zL x) pl (fun w hw=>mY rx fx r fs w (by simpa using hw)) ⟨.bl _,H,I,rfl,?_⟩
  rw [show its.toArray.any (zL x)=its.any (zL x) by simp,qg r fs]
  exact q
theorem wW:OpR X (compareOp .NotIn) (fun x y H Q=>∃ i j,x= .str i/\y= .str j/\Q (.bl (!(!(Builtin.Str.occurrences j i 0 j.length 1).isEmpty))) H):=by
 intro pins s U H x y v u Q I rx ry h
 obtain ⟨i,j,rfl,rfl,q⟩:=h
 obtain ⟨t,rfl⟩:=rx
 obtain ⟨t',rfl⟩:=ry
 exact notIn_str ⟨.bl _,H,I,rfl,q⟩
theorem CallR.or {f:Value} {r r':List V->Hp->VK->Prop} (h:CallR X f r) (h':CallR X f r'):CallR X f (fun xs H Q=>r xs H Q\/r' xs H Q):=by
 intro pins s U H xs us Q I rs q
 rcases q with q | q
 ·exact h pins s U H xs us Q I rs q
 ·exact h' pins s U H xs us Q I rs q
theorem wX:CallR X (.type "list") (fun xs H Q=>∃ p ys,xs=[.ref p]/\(SqL X.K H p ys\/SqT X.K H p ys)/\∀ l,H l=none->Q (.ref l) (upd H l (.lst ys))):=by
 intro pins s U H xs us Q I r h
 obtain ⟨p,ys,rfl,hq,q⟩:=h
 obtain ⟨u,rfl,rx⟩:=vals1 r
 cases rx
 have fin:∀ (its:List Value),Vals ys its->ys.length<=sizeLine->∀ (h':Heap) (c':Nat),(∀ b o',s.heap.get? b=some o'->h'.get? b=some o')->
   h'.get? s.heap.objs.size=some {cls:=.type "list",dict:=none,data:=.seq its.toArray c',slots:=#[]}->EP X pins U Q (.ref s.heap.objs.size) {s with heap:=h'}:=fun its r' hz h' c' kp e=>
  ⟨.ref s.heap.objs.size,_,I.laid (t':=s.toks) kp (YW _) (show ObjOk X.prog X.w _ h' _ (.lst ys) from ⟨hz,its,c',r',e⟩),rfl,q _ (I.hok.fresh (YW _))⟩
 rcases hq with hq | hq
 ·obtain ⟨its,r',pl,hz⟩:=I.list hq
  have hlen:=r'.length
  obtain ⟨o,ho,hc,n,hd⟩:=pl.isList
  exact call_list_seq p (.inl rfl) ho hc hd (fun h' c' kp e=>fin its r' hz h' c' kp e) (by simp only [Y9] <;> omega)
 ·obtain ⟨its,r',pl,hz⟩:=I.tuple hq
  have hlen:=r'.length
  obtain ⟨o,ho,hc,n,hd⟩:=pl
  exact call_list_seq p (.inr rfl) ho hc hd (fun h' c' kp e=>fin its r' hz h' c' kp e) (by simp only [Y9] <;> omega)
theorem vA:CallR X (.type "tuple") (fun xs H Q=>∃ p ys,xs=[.ref p]/\((SqL X.K H p ys/\∀ l,H l=none->Q (.ref l) (upd H l (.tup ys)))\/(SqT X.K H p ys/\Q (.ref p) H))):=by
 intro pins s U H xs us Q I r h
 obtain ⟨p,ys,rfl,h⟩:=h
 obtain ⟨u,rfl,rx⟩:=vals1 r
 cases rx
 rcases h with ⟨hq,q⟩ | ⟨hq,q⟩
 ·obtain ⟨its,r',pl,hz⟩:=I.list hq
  have hlen:=r'.length
  refine call_tuple_list pl.isList (fun h' kp=>?_) (by simp only [Y9] <;> omega)
  have I1:Inv X pins U H {s with heap:=h'}:=I.kept (t':=s.toks) kp
  have I2:Inv X pins U (upd H h'.objs.size (.tup ys)) {s with heap:=h'.push {cls:=.type "tuple",data:=.seq its.toArray}}:=
   I1.laid (t':=s.toks) (fun b o e=>YT _ e) (YW _) (show ObjOk X.prog X.w _ _ _ (.tup ys) from ⟨hz,its,r',IsTup.new _ _⟩)
  exact ⟨.ref h'.objs.size,_,I2,rfl,q _ (I1.hok.fresh (YW _))⟩
 ·obtain ⟨its,r',pl,hz⟩:=I.tuple hq
  exact call_tuple_same pl ⟨.ref p,H,I,rfl,q⟩
def tyV (K:W.Frag) (T:String) (x:V) (H:Hp):Prop:=match x with
 | .str _=>T="str"
 | .int _=>T="int"
 | .ref p=>(T="list"/\∃ xs,SqL K H p xs)\/(T="tuple"/\∃ o,K.lookup p=some o/\o.cls= .type "tuple"/\o.dict=none)\/
   (T="dict"/\((∃ kvs,H p=some (.dK kvs))\/∃ kvs,H p=some (.dT kvs)))\/(T="set"/\∃ S n,H p=some (.set S n))
 | _=>False
theorem QW {pins:List (Addr×Obj)} {U:St} {H:Hp} {s:Shared} {T:String} {x:V} {v:Value} (I:Inv X pins U H s) (r:RelV x v) (ty:tyV X.K T x H):
  s.TypeIs v T/\∀ a,v= .ref a->∃ ob,s.heap.get? a=some ob/\ob.dict=none:=by
 cases x with
 | str z=>
  obtain ⟨t,rfl⟩:=r
  cases (show T="str" from ty)
  exact ⟨typeIs_str s z t,fun _ e=>nomatch e⟩
 | int i=>
  obtain ⟨t,rfl⟩:=r
  cases (show T="int" from ty)
  exact ⟨typeIs_int s i t,fun _ e=>nomatch e⟩
 | ref p=>
  cases r
  rcases ty with ⟨rfl,xs,hq⟩ | ⟨rfl,o,hk,hc,hd⟩ | ⟨rfl,hk⟩ | ⟨rfl,S,n,hk⟩
  ·obtain ⟨its,_,pl,_⟩:=I.list hq
   refine ⟨pl.isList.typeIs,fun a e=>?_⟩
   cases e
   obtain ⟨o,n,e,c,hd,_⟩:=pl
   exact ⟨o,e,hd⟩
  ·refine ⟨⟨o,I.kIn p o hk,hc⟩,fun a e=>?_⟩
   cases e
   exact ⟨o,I.kIn _ o hk,hd⟩
  ·have z:∃ o,s.heap.get? p=some o/\o.ExactDict:=by
    rcases hk with ⟨kvs,hk⟩ | ⟨kvs,hk⟩
    ·obtain ⟨_,_,_,_,o,_,_,e,ex,_⟩:=I.hok p _ hk
     exact ⟨o,e,ex⟩
    ·obtain ⟨_,_,_,_,o,_,_,e,ex,_⟩:=I.hok p _ hk
     exact ⟨o,e,ex⟩
   obtain ⟨o,e,ex⟩:=z
   refine ⟨⟨o,e,ex.1⟩,fun a e2=>?_⟩
   cases e2
   exact ⟨o,e,ex.2.1⟩
  ·obtain ⟨o,_,_,_,e,ex,_⟩:=I.hok p _ hk
   refine ⟨⟨o,e,ex.1⟩,fun a e2=>?_⟩
   cases e2
   exact ⟨o,e,ex.2.1⟩
 | _=>exact False.elim ty
def Vy (K:W.Frag) (T:String) (r:V->List V->Hp->VK->Prop) (to:TE) (t:TA):TE:=fun U H Q=>to U H fun x H1=>tyV K T x H1/\t U H1 fun xs H2=>r x xs H2 Q
variable {o e:Expr} {es:List Expr} {to:TE} {t:TA} {name:Str} {apos cpos:Pos} {T id:String} {r:V->List V->Hp->VK->Prop}
theorem Vz (pa:PlainAttrs T) (slot:Slot T name id) (hty:typeOf (.builtin id)=pure (.type "method_descriptor")) (hm:Yw X id r) (ho:PE X o to) (ha:PA X (e :: es) t)
  (hbase:autoParam (attributeBase o name X.env (eval o X.env)=eval o X.env) L2.auto4._auto_1)
  (hfew:((backTo cpos (starEach (e :: es) X.env)).all (fun x=>!x.1) && (backToKw cpos (keywordEach [] X.env)).all (fun x=>x.1.isSome)
   && decide ((e :: es).length+([]:List Keyword).length+(if ([]:List Keyword).isEmpty then 0 else 1) < 30))=true:=by rfl)
  (hline:autoParam ((apos.endLine == cpos.line)=true) L2.auto4._auto_1) (hs:autoParam (starEach (e :: es) X.env=(false,eval e X.env) :: starEach es X.env) L2.auto4._auto_1) (hplain:autoParam ((backTo cpos (starEach es X.env)).any (·.1)=false) L2.auto4._auto_1):
  PE X (.Call (.Attribute o name apos) (e :: es) [] cpos) (Vy X.K T r to t):=by
 intro pins s U H Q I h
 refine wpAny_Call_method_late hbase hfew hline rfl (dM (ho pins s U H _ I h) fun v s1 qq0=>?_)
 obtain ⟨x,H1,I1,r1,ty,q1⟩:=qq0
 obtain ⟨h1,h2⟩:=QW I1 r1 ty
 refine ⟨T,id,pa,slot,hty,h1,h2,?_⟩
 have hA:=ha cpos pins s1 U H1 _ I1 q1
 rw [hs] at hA ⊢
 refine Calls.callWith_builtin (by show (false || (backTo cpos (starEach es X.env)).any (·.1))=false;rw [hplain] <;> rfl) (Calls.evalArgs_plain ?_)
 exact dM hA fun us s2 ⟨vs,H2,I2,r2,q2⟩=>hm pins s2 U H2 x vs v us Q I2 r1 r2 q2
end
def Yy (X:Cx) (id:String) (r:V->List V->Hp->VK->Prop):Prop:=
 ∀ (pins:List (Addr×Obj)) (s:Shared) (U:St) (H:Hp) (x:V) (xs:List V) (v:Value) (us:List Value) (Q:VK),Inv X pins U H s->RelV x v->Vals xs us->r x xs H Q->
  wpAny (model X.prog X.w) X.A (call (.builtin id) (v :: us)) (EP X pins U Q) X.xe s
theorem Vals.one:∀ {x:V} {us:List Value},Vals [x] us->∃ u,us=[u]/\RelV x u
 | _,_,.cons r .nil=>⟨_,rfl,r⟩
theorem Vals.eraseIdx:∀ {xs:List V} {us:List Value} (i:Nat),Vals xs us->Vals (xs.eraseIdx i) (us.eraseIdx i)
 | _,_,_,.nil=>.nil
 | _,_,0,.cons _ t=>t
 | _,_,i+1,.cons r t=>.cons r (Vals.eraseIdx i t)
theorem Vals.rep {xs:List V} {us:List Value} (h:Vals xs us):∀ k:Nat,Vals (List.replicate k xs).flatten (List.replicate k us).flatten
 | 0=>.nil
 | k+1=>by
  rw [Aas,Aas,Aa1,Aa1]
  exact Vals.append h (Vals.rep h k)
theorem wg {α:Type}:∀ (l:List α) (i:Nat),(l.eraseIdx i).length<=l.length
 | [],_=>YW _
 | _ :: _,0=>Nat.le_succ _
 | _ :: r,i+1=>Nat.succ_le_succ (wg r i)
theorem foldl_rep (its:List Value):∀ (k:Nat) (acc:List Value),
  List.foldl (fun x1 x2=>x1 ++ x2) acc.toArray (List.replicate k its.toArray)=(acc ++ (List.replicate k its).flatten).toArray
 | 0,acc=>by simp
 | k+1,acc=>by
  have e:acc.toArray ++ its.toArray=(acc ++ its).toArray:=by simp
  have e2:(acc ++ its) ++ (List.replicate k its).flatten=acc ++ (List.replicate (k+1) its).flatten:=by
   rw [Aas,Aa1,ZF]
  rw [← e2,← foldl_rep its k (acc ++ its),← e,Aas,List.foldl_cons]
section
variable {X:Cx} {pins:List (Addr×Obj)} {U:St} {H:Hp} {s:Shared} {l b:Addr} {xs ys zs:List V}
theorem Inv.lset {its its':List Value} {n:Nat} {f:Array Value->Array Value} {t':Nat} (I:Inv X pins U H s) (hH:H l=some (.lst xs))
  (e:s.heap.get? l=some {cls:=.type "list",data:=.seq its.toArray n}) (hf:f its.toArray=its'.toArray) (hv:Vals ys its') (hz:ys.length<=sizeLine):
  Inv X pins U (upd H l (.lst ys)) {s with heap:=s.heap.update l (Obj.mapSeq f),toks:=t'}:=by
 have q:=PySem.IsL.update e f
 rw [hf] at q
 refine I.write (x:=l) (e:=l) (by rw [hH];exact trivial) (.inl rfl) (fun b' u hb hu=>(Aar s.heap (Obj.mapSeq f) (Ne.symm hb)).trans hu) ⟨_,q⟩ ?_
 exact ⟨hz,its',_,hv,q⟩
theorem Inv.lnew {its:List Value} {t':Nat} (I:Inv X pins U H s) (hv:Vals ys its) (hz:ys.length<=sizeLine):
  Inv X pins U (upd H s.heap.objs.size (.lst ys)) {s with heap:=s.heap.push {cls:=.type "list",data:=.seq its.toArray},toks:=t'}:=
 I.laid (fun _ _ q=>YT _ q) (YW _) ⟨hz,its,0,hv,Y6 _ rfl⟩
theorem Inv.fresh (I:Inv X pins U H s):H s.heap.objs.size=none:=I.hok.fresh (YW _)
theorem Inv.lstM (I:Inv X pins U H s) (hH:H l=some (.lst xs)):xs.length<=sizeLine/\∃ (its:List Value) (n:Nat),Vals xs its/\xs.length=its.length/\s.heap.get? l=some {cls:=.type "list",data:=.seq its.toArray n}:=by
 obtain ⟨z,its,n,r,e⟩:=I.hok l _ hH
 exact ⟨z,its,n,r,r.length,e⟩
theorem Gs {n:Nat} (h:n<=sizeLine):Builtin.List.listTooLong n=false:=by
 unfold Builtin.List.listTooLong
 exact Y5 (by omega)
end
section
variable {X:Cx}
def Bp:V->List V->Hp->VK->Prop:=fun x vs H Q=>∃ l xs y,x= .ref l/\vs=[y]/\H l=some (.lst xs)/\xs.length < sizeLine/\Q .non (upd H l (.lst (xs ++ [y])))
theorem lG:Yy X "list.append" Bp:=by
 intro pins s U H x vs v us Q I rx rv h
 obtain ⟨l,xs,y,rfl,rfl,hH,hz,q⟩:=h
 cases rx
 obtain ⟨u,rfl,ru⟩:=rv.one
 obtain ⟨z,its,n,r,hl,e⟩:=I.lstM hH
 refine call_meets F.slot_list_append ⟨_,e,rfl⟩ F.entry_list_append (F.args_list_append_2 _ _) (PySem.list_append l its.toArray n u (by rw [Y9];omega)) ⟨e,?_⟩
 refine ⟨.non,_,I.lset (its':=its ++ [u]) hH e (by simp) (r.append (.cons ru .nil)) ?_,rfl,q⟩
 rw [YX,List.length_singleton]
 omega
def QX:V->List V->Hp->VK->Prop:=fun x vs H Q=>∃ l xs i k y,x= .ref l/\vs=[.int i]/\H l=some (.lst xs)/\-(2 ^ 63)<=i/\i < 2 ^ 63/\seqIndex? i xs.length=some k/\xs[k]?=some y/\Q y (upd H l (.lst (xs.eraseIdx k)))
theorem Gu:Yy X "list.pop" QX:=by
 intro pins s U H x vs v us Q I rx rv h
 obtain ⟨l,xs,i,k,y,rfl,rfl,hH,h1,h2,hk,hy,q⟩:=h
 cases rx
 obtain ⟨u,rfl,ru⟩:=rv.one
 obtain ⟨t,rfl⟩:=ru
 obtain ⟨z,its,n,r,hl,e⟩:=I.lstM hH
 obtain ⟨w,hw,rw'⟩:=r.get hy
 refine call_meets F.slot_list_pop ⟨_,e,rfl⟩ F.entry_list_pop (F.args_list_pop_2 _ _)
  (MeetsSeq.list_pop_at l its.toArray n i t k w (fitsIndex_both h1 h2) (by rw [Y9,← hl];exact hk) (by rw [← Aad];exact hw) (by rw [Y9];omega)) ⟨e,?_⟩
 refine ⟨y,_,I.lset (its':=its.eraseIdx k) hH e ?_ (r.eraseIdx k) ?_,rw',q⟩
 ·show its.toArray.eraseIdxIfInBounds k=(its.eraseIdx k).toArray
  rw [List.eraseIdxIfInBounds_toArray]
 ·have:=wg xs k
  omega
def VB:R2:=fun x y H Q=>∃ l b xs zs,x= .ref l/\y= .ref b/\H l=some (.lst xs)/\H b=some (.lst zs)/\xs.length+zs.length<=sizeLine/\∀ p,H p=none->Q (.ref p) (upd H p (.lst (xs ++ zs)))
theorem QZ:OpR X (binaryOp .Add) VB:=by
 intro pins s U H x y v u Q I rx ry h
 obtain ⟨l,b,xs,zs,rfl,rfl,hH,hB,hz,q⟩:=h
 cases rx
 cases ry
 obtain ⟨z,its,n,r,hl,e⟩:=I.lstM hH
 obtain ⟨z2,its2,n2,r2,hl2,e2⟩:=I.lstM hB
 refine PySem.P.add_list e e2 ?_ (by rw [Y9,Y9];omega)
 have ea:its.toArray ++ its2.toArray=(its ++ its2).toArray:=by simp
 rw [ea]
 exact ⟨.ref _,_,I.lnew (t':=s.toks) (r.append r2) (by rw [YX];omega),rfl,q _ I.fresh⟩
def VD:R2:=fun x y H Q=>∃ l k xs,x= .ref l/\y= .int k/\H l=some (.lst xs)/\-(2 ^ 63)<=k/\k < 2 ^ 63/\xs.length*k.toNat<=sizeLine/\
 ∀ p,H p=none->Q (.ref p) (upd H p (.lst (List.replicate k.toNat xs).flatten))
theorem len_rep {α:Type} (xs:List α) (k:Nat):(List.replicate k xs).flatten.length=k*xs.length:=by
 induction k with
 | zero=>simp
 | succ k ih=>rw [Aas,Aa1,YX,ih,Nat.succ_mul,Nat.add_comm]
theorem Q0:OpR X (binaryOp .Mult) VD:=by
 intro pins s U H x y v u Q I rx ry h
 obtain ⟨l,k,xs,rfl,rfl,hH,h1,h2,hz,q⟩:=h
 cases rx
 obtain ⟨t,rfl⟩:=ry
 obtain ⟨z,its,n,r,hl,e⟩:=I.lstM hH
 have hlen:its.toArray.size*k.toNat<=sizeLine:=by rw [Y9,← hl];exact hz
 have hcap:¬ its.toArray.size*k.toNat > (2 ^ 63 - 1) / 8:=by
  have:(sizeLine:Nat)<=(2 ^ 63 - 1) / 8:=by decide
  omega
 have hfit:¬ (!Builtin.List.listFitsIndex k)=true:=by
  rw [fitsIndex_both h1 h2]
  exact Y4
 have hlong:¬ Builtin.List.listTooLong (its.toArray.size*k.toNat)=true:=by
  rw [Gs hlen]
  exact Y4
 have hnew:List.foldl (fun x1 x2=>x1 ++ x2) #[] (List.replicate (if its.toArray.isEmpty=true then 0 else k.toNat) its.toArray)=(List.replicate k.toNat its).flatten.toArray:=by
  have f0:∀ m:Nat,List.foldl (fun x1 x2=>x1 ++ x2) #[] (List.replicate m its.toArray)=(List.replicate m its).flatten.toArray:=fun m=>by
   have:=foldl_rep its m []
   rw [Aau] at this
   exact this
  rw [f0]
  cases its with
  | nil=>simp
  | cons a r'=>rw [if_neg (by simp)]
 refine wpAny_binaryOp_repeat_ref (T:="list") (U:="int") (by decide) ⟨_,e,rfl⟩ (fun s'=>typeIs_int s' k t) noFill_list_mul F.fills_int_mul F.slot_int_rmul repeat_list F.slot_int_index.lookup
  (call_meets F.slot_int_rmul (typeIs_int s k t) F.entry_int_rmul (F.args_int_rmul_2 _ _) (int___rmul___int_list k t l its.toArray n)
   ⟨e,rfl,⟨_,e,rfl⟩,call_meets F.slot_list_mul ⟨_,e,rfl⟩ F.entry_list_mul (F.args_list_mul_2 _ _) (AutoListH.list___mul___list_int_3 l its.toArray n k t hfit hcap hlong) ⟨e,?_⟩⟩)
 rw [hnew]
 exact ⟨.ref _,_,I.lnew (t':=s.toks) (r.rep k.toNat) (by rw [len_rep,Nat.mul_comm];exact hz),rfl,q _ I.fresh⟩
end
end L2
namespace Att
open PySem PySem.W PySem.Calls PyProof.Rows
theorem sJ {P:Params} {h:Heap}:∀ (ns:List Int) (vs:List Value),WellAll P h vs (ns.map WData.int)->IntsAre vs ns:=by
 intro ns
 induction ns with
 | nil=>
  intro vs w
  rw [Abl] at w
  cases w
  exact .nil
 | cons n ns ih=>
  intro vs w
  rw [ZJ] at w
  cases w with
  | cons a b=>
   cases a
   exact .cons _ _ (ih _ b)
theorem Df {l:OpenLaw} {n:Nat} (hn:l.most=some n) {P:Params} {h:Heap} {args:List WData} {vals:List Value}
  (hpre:l.row.toRowW.claim.pre args=true) (hwl:WellAll P h vals args):
  ∃ a vs ns,vals=[Value.ref a]/\args=[WData.list (ns.map WData.int)]/\h.get? a=some {cls:=.type "list",data:=.seq vs.toArray}/\IntsAre vs ns/\ns.length<=n:=by
 have hsh:WShape.hasAll [] args [.list .int]=true:=(pre_splitW hpre).1
 have hc:l.pre.holds [] {args:=args}=true:=(pre_splitW hpre).2
 obtain ⟨d,r,rfl,h1,h2⟩:=hasAllW_cons hsh
 obtain rfl:=hasAllW_nil h2
 obtain ⟨xs,rfl,h3⟩:=hasW_list h1
 obtain ⟨ns,rfl⟩:=items_int h3
 have hlen:ns.length<=n:=by
  unfold OpenLaw.pre at hc
  have h4:(WTm.not (.lt (.lit (.int (n:Int))) (.len (.arg 0)))).holds [] {args:=[.list (ns.map .int)]}=true:=by
   have h4:=(holds_andW hc).1
   rw [hn] at h4
   exact h4
  have h5:=condW_of h4 (w_not (w_lt w_lit (w_len_list (w_arg rfl))))
  rw [YQ] at h5
  refine Nat.le_of_not_lt fun q=>?_
  have q':(n:Int) < ((ns.length:Nat):Int):=by omega
  first
   | (rw [YZ q'] at h5;exact absurd h5 (by decide))
   | (simp at h5;omega)
 cases hwl with
 | cons w1 w2=>
  cases w2
  cases w1 with
  | list ho hall=>exact ⟨_,_,ns,rfl,rfl,ho,sJ ns _ hall,hlen⟩
theorem Dg (l:OpenLaw) (args:List WData):l.row.toRowW.claim.post args (.bool true) args=true:=
 postW_of (r:=l.row.toRowW) (X:=(true == true))
  (show WShape.has [] (.bool true) .bool=true by first | rfl | decide | simp [WShape.has,WShape.arms,WShape.armsAll])
  (show (WTm.eq .res (.lit (.bool true))).value [] {args:=args,res:=some (.bool true),after:=args}=some (.bool (true == true)) from w_eq_bool (w_res rfl) w_lit) rfl
theorem attach_call {l:OpenLaw} {n:Nat} {q:Program} {loose:List Str} {XP:(Str->Option Value)->Heap->Prop} {YP:World->Heap->Prop} {d:DefRec}
  (hn:l.most=some n) (hdf:d.params.defaults=[])
  (call:∀ (w:World) (s₀ s₁:Shared) (mg mb:Str->Option Value) (fa:Addr) (o:Obj) (pm cd doc:Value) (a:Addr) (vs:List Value) (ns:List Int),
   Ground q loose [] XP w s₀ mg mb s₁.heap->YP w s₁.heap->
   s₁.heap.get? fa=some o->o.data= .func (docDef d.name d.params d.body d.scope pm cd doc)->s₁.heap.CodeRec cd d.name->mg d.name=some (.ref fa)->
   s₁.heap.get? a=some {cls:=.type "list",data:=.seq vs.toArray}->IntsAre vs ns->ns.length<=n->s₁.gens= #[]->
   codeAny (model l.prog w) callerA (.call (.ref fa) ⟨[.ref a],[]⟩) (fun r s'=>r= .ok (.ret (.bool true))/\OldK s₁.heap s'.heap/\s'.os=s₁.os/\AllBare s'.gens) s₁):
  WalkO q loose XP YP l.row.toRowW d [] (fun f vs=>PySem.call f vs):=by
 intro w s₀ s₁ mg mb G Y fa o pm cd doc dV kV ho hd hcd hD hmg hg args vals as hpre hlay hrd hwl hlo
 obtain rfl:dV= .none:=Dflts.none hD hdf
 obtain rfl:kV= .none:=Dflts.noKw hD
 obtain ⟨a,vs,ns,rfl,rfl,hobj,hints,hlen⟩:=Df hn hpre hwl
 refine enter_call (codeAny_mono (call w s₀ s₁ mg mb fa o pm cd doc a vs ns G Y ho (fd_plain hd) hcd hmg hobj hints hlen hg) fun r s' hq=>?_)
 obtain ⟨rfl,h2,h3,h4⟩:=hq
 exact ⟨.inl ⟨.bool true,.bool true,[],rfl,fun _=>rfl,.bool true,Dg l _,fun _=>⟨List.Pairwise.nil,fun _ hm=>(nomatch hm)⟩⟩,h2,h3,h4⟩
end Att
namespace L2
open PySem PySem.Spec PyProof.Rows
theorem wj:∀ {vs:List Value} {ns:List Int},IntsAre vs ns->Vals (ns.map V.int) vs
 | _,_,.nil=>.nil
 | _,_,.cons n t h=>.cons ⟨t,rfl⟩ (wj h)
def Only (H:Hp):Prop:=∀ b,H b=none\/∃ o xs,H b=some (.frz o (.lst xs))
theorem Gv {P:Program} {w:World} {K:W.Frag} {mg mb:Str->Option Value} {CX:Fo} {k:Nat} {fa a:Addr} {fd:FuncData} {x:Str} {sp:Sp} {s₁:Shared} {vs:List Value} {ns:List Int}
  (KX:K.In s₁.heap) (hns:s₁.heap.Ns mainGlobals mg) (hb:s₁.heap.Ns builtinsNs mb) (hbb:∀ x:Str,x≠"__name__"->mb x=bootBuiltins x) (hlim:s₁.heap.NoLimit) (hsm:∃ mm,s₁.heap.Ns sysModules mm) (hg:s₁.gens= #[])
  (ha:s₁.heap.get? a=some {cls:=.type "list",data:=.seq vs.toArray}) (hi:IntsAre vs ns) (hl:ns.length<=sizeLine) (hr:Room k callerA)
  (F:∀ base:Heap,K.In base->base.Ns mainGlobals mg->qX P w K mg base CX k fa fd [x] sp) (hbind:∀ (s:Shared) (u:Value),BindsTo s fd ⟨[u],[]⟩ [(x,u)])
  (hsp:∀ H:Hp,Only H->SqL K H a (ns.map V.int)->sp [.ref a] H (fun v _=>v= .bl true) fun _ _ _=>False)
  (hCX:∀ H e s',CX [] H s₁ (fun _ _ _=>False) e s'->False):
  codeAny (model P w) callerA (.call (.ref fa) ⟨[.ref a],[]⟩) (fun r s'=>r= .ok (.ret (.bool true))/\OldK s₁.heap s'.heap/\s'.os=s₁.os/\AllBare s'.gens) s₁:=by
 have rv:=wj hi
 have lenV:=hi.length
 have core:∀ H:Hp,Only H->SqL K H a (ns.map V.int)->HOk P w H s₁.heap->(∀ b,H b≠none->b=a)->(H a≠none->K.lookup a=none)->
   codeAny (model P w) callerA (.call (.ref fa) ⟨[.ref a],[]⟩) (fun r s'=>r= .ok (.ret (.bool true))/\OldK s₁.heap s'.heap/\s'.os=s₁.os/\AllBare s'.gens) s₁:=by
  intro H hO hS hok hA hK
  have base_of:∀ {b:Addr} {o:Obj},s₁.heap.get? b=some o->H b=none->(wM s₁.heap H).get? b=some o:=fun e n=>Fv e n
  have noA:∀ {b:Addr} {o:Obj} {es:Array DictEntry} {ep:Nat},s₁.heap.get? b=some o->o.data= .dict es ep->H b=none:=fun {b o es ep} e d=>by
   cases q:H b with
   | none=>rfl
   | some u=>
    have e':b=a:=hA b (by rw [q];simp)
    subst e'
    rw [ha] at e;cases e
    have d':Data.seq vs.toArray _=Data.dict es ep:=d
    cases d'
  have nsK:∀ {b:Addr} {m:Str->Option Value},s₁.heap.Ns b m->(wM s₁.heap H).Ns b m:=fun {b m} ⟨o,es,ep,e,d,r⟩=>⟨o,es,ep,base_of e (noA e d),d,r⟩
  have hKb:K.In (wM s₁.heap H):=fun b o e=>base_of (KX b o e) (by
   cases q:H b with
   | none=>rfl
   | some u=>
    have e':b=a:=hA b (by rw [q];simp)
    subst e'
    rw [hK (by rw [q];simp)] at e;cases e)
  have hM:Mod K mg (wM s₁.heap H):=⟨hKb,nsK hns,⟨mb,nsK hb,hbb⟩,(let ⟨mc,h1,h2⟩:=hlim;⟨mc,nsK h1,h2⟩),let ⟨mm,h1⟩:=hsm;⟨mm,nsK h1⟩⟩
  have e0:Env0 P w K mg (wM s₁.heap H) callerA [] s₁ H:=⟨rfl,hM,fun b o e=>Ky e,Nat.le_of_eq (CJ _ _),trivial,fun b hb=>absurd (show b∈([]:List Addr) from hb) (by simp),hok,.of_eq hg⟩
  refine codeAny_mono ((F _ hKb (nsK hns)).run callerA [] s₁ H ⟨[.ref a],[]⟩ [.ref a] [.ref a] _ _ hr e0 (hbind s₁ (.ref a)) (.cons rfl .nil) (hsp H hO hS)) fun r s' h=>?_
  cases r with
  | error e=>exact (hCX H e s' h).elim
  | ok fl=>
   cases fl with
   | next=>exact False.elim h
   | brk=>exact False.elim h
   | cont=>exact False.elim h
   | ret u=>
    obtain ⟨v,H',os,bare,un,hok',r',q⟩:=h
    have q':v= .bl true:=q
    subst q'
    obtain rfl:u=Value.bool true:=r'
    refine ⟨rfl,OldK.of_keep fun b o e=>?_,os,bare⟩
    cases q:H b with
    | none=>exact un.keep b o e q (by intro z;exact absurd (show b∈([]:List Addr) from z) (by simp)) (by simp)
    | some u=>
     rcases hO b with z | ⟨ob,xs,z⟩
     ·rw [q] at z;cases z
     ·have z2:=un.frzs b ob _ z
      obtain ⟨e1,_⟩:=hok b _ z
      obtain ⟨e2,_⟩:=hok' b _ z2
      rw [e] at e1;cases e1
      exact e2
 cases hk:K.lookup a with
 | some o=>
  have e:=KX a o hk
  rw [ha] at e
  cases e
  refine core (fun _=>none) (fun _=>.inl rfl) (.inr ⟨_,vs.toArray,_,hk,rfl,rfl,rfl,by rw [Y9,lenV];exact hl,by simpa using rv⟩) (fun b u z=>by have z':(none:Option HO)=some u:=z;cases z') (fun b z=>absurd rfl z) fun z=>absurd rfl z
 | none=>
  refine core (fun b=>if b=a then some (.frz {cls:=.type "list",data:=.seq vs.toArray} (.lst (ns.map V.int))) else none) (fun b=>?_) (.inl (.inr ⟨{cls:=.type "list",data:=.seq vs.toArray},if_pos rfl⟩)) (fun b u z=>?_) (fun b z=>?_) fun _=>hk
  ·by_cases hb:b=a
   ·exact .inr ⟨_,_,if_pos hb⟩
   ·exact .inl (if_neg hb)
  ·by_cases hb:b=a
   ·have z':=(if_pos hb).symm.trans z
    cases z'
    subst hb
    exact ⟨ha,by rw [YQ];exact hl,vs,_,rv,ha⟩
   ·have z':=(if_neg hb).symm.trans z
    cases z'
  ·by_cases hb:b=a
   ·exact hb
   ·exact absurd (if_neg hb) z
abbrev KOf {K:W.Frag} {h:Heap} (_:K.In h):W.Frag:=K
theorem Lf {l:PySem.W.OpenLaw} {n k:Nat} {q:Program} {loose:List Str} {XP:(Str->Option Value)->Heap->Prop} {YP:World->Heap->Prop} {d:DefRec} {K:Params->W.Frag} {CX:World->Fo} {sp:World->Sp} {x:Str}
  (hn:l.most=some n) (hn2:n<=sizeLine) (hdf:d.params.defaults=[]) (hr:Room k callerA)
  (hY:∀ (w:World) (h:Heap),YP w h->(K w.params).In h)
  (F:∀ (w:World) (mg:Str->Option Value) (fa:Addr) (h:Heap),(K w.params).In h->h.Ns mainGlobals mg->mg d.name=some (.ref fa)->
   ∃ fd:FuncData,(∀ (s:Shared) (u:Value),BindsTo s fd ⟨[u],[]⟩ [(x,u)])/\
    ∀ base:Heap,(K w.params).In base->base.Ns mainGlobals mg->qX l.prog w (K w.params) mg base (CX w) k fa fd [x] (sp w))
  (hsp:∀ (w:World) (H:Hp) (a:Addr) (ns:List Int),ns.length<=n->Only H->SqL (K w.params) H a (ns.map V.int)->sp w [.ref a] H (fun v _=>v= .bl true) fun _ _ _=>False)
  (hCX:∀ (w:World) (H:Hp) (s:Shared) (e:Value) (s':Shared),CX w [] H s (fun _ _ _=>False) e s'->False) (him:importsNone q=true):
  PySem.W.WalkO q loose XP YP l.row.toRowW d [] (fun f vs=>PySem.call f vs):=by
 refine Att.attach_call hn hdf fun w s₀ s₁ mg mb fa o pm cd doc a vs ns G Y ho hd hcd hmg hobj hints hlen hg=>?_
 have KX:=hY w _ Y
 obtain ⟨fd,hb,hF⟩:=F w mg fa _ KX G.T.g hmg
 exact Gv KX G.T.g G.T.b G.T.builtins G.T.nolimit (let ⟨mm,h1,_⟩:=(G.T.seer him).mods;⟨mm,h1⟩) hg hobj hints (Aan hlen hn2) hr hF hb (fun H hO hS=>hsp w H a ns hlen hO hS) fun H e s'=>hCX w H s₁ e s'
def gD (s:Stmt):Arguments:=match s with
 | .FunctionDef _ a _ _ _ _ _ _ _ _=>a
 | _=>{posonlyargs:=[],args:=[],vararg:=none,kwonlyargs:=[],kw_defaults:=[],kwarg:=none,defaults:=[]}
def di (s:Stmt):List Stmt:=match s with
 | .FunctionDef _ _ b _ _ _ _ _ _ _=>b
 | _=>[]
def aB (s:Stmt):Scope:=match s with
 | .FunctionDef _ _ _ _ _ _ sc _ _ _=>sc
 | _=>{kind:=.function,names:=[],isGenerator:=false,isCoroutine:=false}
abbrev Dh:Fo:=fun _ _ _ _ _ _=>False
abbrev E0:XK:=fun _ _ _=>False
theorem VF {X:Cx}:zF Dh X E0:=fun _ _ _ _ _ _ _ h=>h.elim
structure Fun (K:W.Frag) (x qual:Str) (st:Stmt) (f:Addr) (fd:FuncData):Prop where
 ex:∃ (oc:Value) (od:Option Addr) (kV doc pm:Value) (an:Option Addr) (cdv ct:Value) (osl:Array (Option Value)),
  fd=PySem.W.fnOf x qual (gD st) (di st) (aB st) .none kV doc pm an cdv ct/\K.lookup f=some ⟨oc,od,.func fd,osl⟩/\PySem.W.codeIn K cdv qual=true
 kp:PySem.W.keepIn K (.ref f)=true
section
variable {P:Program} {w:World} {K:W.Frag} {mg:Str->Option Value} {base:Heap}
theorem Fun.ok {x qual:Str} {st:Stmt} {f:Addr} {fd:FuncData} {N ps:List Str} {k:Nat} {sp:Sp} (F:Fun K x qual st f fd) (S:aP N ps (aB st)) (len:∀ vs H Q E,sp vs H Q E->vs.length=ps.length)
  (hbody:∀ (cdv:Value) (A:Around) (outer:List Env) (s:Shared) (H:Hp) (vs:List V) (Q:VK) (E:XK),Room k (A.deeper (envOfC qual (aB st) s.heap.objs.size f cdv))->sp vs H Q E->
   ∃ t,PSs (qe Dh P w K mg base N qual (aB st) f cdv A outer s H E).nox (di st) t/\t {nx:=fun _ H'=>Q .non H',rt:=Q} (start N vs) H):qX P w K mg base Dh (k+1) f fd ps sp:=by
 obtain ⟨oc,od,kV,doc,pm,an,cdv,ct,osl,rfl,lk,hcd⟩:=F.ex
 refine Ov lk hcd S len fun A outer s H vs Q E hr hsp=>?_
 obtain ⟨t,h,q⟩:=hbody cdv A outer s H vs Q E hr hsp
 exact ⟨t,h.nox,q⟩
theorem Fun.binds {x qual:Str} {st:Stmt} {f:Addr} {fd:FuncData} {ps:List Str} (F:Fun K x qual st f fd)
  (h:∀ (kV doc pm:Value) (an:Option Addr) (cdv ct:Value) (us:List Value),us.length=ps.length->bindArgs (PySem.W.fnOf x qual (gD st) (di st) (aB st) .none kV doc pm an cdv ct) ⟨us,[]⟩=pure (ps.zip us)):Binds K fd ps []:=by
 obtain ⟨oc,od,kV,doc,pm,an,cdv,ct,osl,rfl,lk,hcd⟩:=F.ex
 exact .all (h kV doc pm an cdv ct)
theorem Gw {x qual:Str} {st:Stmt} {f:Addr} {oc:Value} {od an:Option Addr} {osl:Array (Option Value)} {kV doc pm cdv ct:Value} (l:K.lookup f=some ⟨oc,od,.func (PySem.W.fnOf x qual (gD st) (di st) (aB st) .none kV doc pm an cdv ct),osl⟩)
  (c:PySem.W.codeIn K cdv qual=true) (k:PySem.W.keepIn K (.ref f)=true):Fun K x qual st f (PySem.W.fnOf x qual (gD st) (di st) (aB st) .none kV doc pm an cdv ct):=⟨⟨oc,od,kV,doc,pm,an,cdv,ct,osl,rfl,l,c⟩,k⟩
end
theorem sO {A B:Prop} (h:B):if false=true then A else B:=by
 rw [if_neg Y4]
 exact h
theorem sS {A B:Prop} (h:A):if true=true then A else B:=by
 rw [if_pos rfl]
 exact h
def Same (H H':Hp):Prop:=∀ b o,H b=some o->H' b=some o
theorem Same.refl (H:Hp):Same H H:=fun _ _ h=>h
theorem Same.trans {H H1 H2:Hp} (a:Same H H1) (b:Same H1 H2):Same H H2:=fun c o h=>b c o (a c o h)
theorem Same.seq {K:W.Frag} {H H':Hp} {a:Addr} {xs:List V} (e:Same H H') (h:SqL K H a xs):SqL K H' a xs:=by
 rcases h with (h | ⟨o,h⟩) | h
 ·exact .inl (.inl (e _ _ h))
 ·exact .inl (.inr ⟨o,e _ _ h⟩)
 ·exact .inr h
end L2
set_option maxHeartbeats 4000000
namespace L2
open PySem PySem.Spec PyProof.Rows
def sU (env:Env):List (Str×NameKind)->List (Str×Addr)->List (Str×Addr)
 | [],acc=>acc
 | (n,k) :: r,acc=>sU env r (if k == .free then (match env.cells.lookup n with | some c=>(n,c) :: acc | none=>acc) else acc)
theorem uo {env:Env}:∀ {names:List (Str×NameKind)} {acc:List (Str×Addr)},(∀ x c,(x,c)∈acc->env.cells.lookup x=some c)->∀ x c,(x,c)∈sU env names acc->env.cells.lookup x=some c
 | [],_,h,x,c,m=>h x c m
 | (n,k) :: r,acc,h,x,c,m=>by
  refine uo (names:=r) ?_ x c m
  intro y d hm
  cases hk:(k == NameKind.free) with
  | false=>rw [hk] at hm;exact h y d hm
  | true=>
   rw [hk] at hm
   simp only [if_true] at hm
   cases e:env.cells.lookup n with
   | none=>rw [e] at hm;exact h y d hm
   | some c'=>
    rw [e] at hm
    rcases Zg.mp hm with z | z
    ·cases z;exact e
    ·exact h y d z
theorem yp {env:Env}:∀ {names:List (Str×NameKind)} {acc:List (Str×Addr)} {p:Str×Addr},p∈acc->p∈sU env names acc
 | [],_,_,h=>h
 | (n,k) :: r,acc,p,h=>by
  refine yp (names:=r) ?_
  split
  ·split
   ·exact Zc _ h
   ·exact h
  ·exact h
theorem uq {env:Env} {x:Str} {c:Addr} (e:env.cells.lookup x=some c):∀ {names:List (Str×NameKind)} {acc:List (Str×Addr)},(x,NameKind.free)∈names->(x,c)∈sU env names acc
 | [],_,h=>by simp at h
 | (n,k) :: r,acc,h=>by
  rcases Zg.mp h with z | z
  ·cases z
   refine yp (names:=r) ?_
   rw [e]
   simp
  ·exact uq e (names:=r) z
theorem vB {l:List (Str×Addr)} {x:Str} {c:Addr} (hm:(x,c)∈l) (ha:∀ d,(x,d)∈l->d=c):l.lookup x=some c:=by
 induction l with
 | nil=>simp at hm
 | cons p r ih=>
  obtain ⟨n,d⟩:=p
  by_cases e:x=n
  ·subst e
   have:d=c:=ha d (by simp)
   subst this
   simp [Zo]
  ·have hb:(x == n)=false:=by simpa using e
   rw [Zo,hb]
   refine ih ?_ fun d' h'=>ha d' (Zc _ h')
   rcases Zg.mp hm with z | z
   ·cases z;exact absurd rfl e
   ·exact z
theorem yq {env:Env} {names:List (Str×NameKind)} {x:Str} {c:Addr} (e:env.cells.lookup x=some c) (h:(x,NameKind.free)∈names):(sU env names []).lookup x=some c:=
 vB (uq e h) fun d hd=>by
  have q:=uo (names:=names) (acc:=[]) (env:=env) (by simp) x d hd
  rw [e] at q
  exact (Zn q).symm
theorem Di {env:Env} {names:List (Str×NameKind)} {x:Str} {c:Addr} (e:(sU env names []).lookup x=some c):env.cells.lookup x=some c:=
 uo (names:=names) (acc:=[]) (env:=env) (by simp) x c (Z2 e)
theorem pM {env:Env}:∀ (names:List (Str×NameKind)) (acc:List (Str×Addr)),(∀ x∈names,x.2=NameKind.free->∃ c,env.cells.lookup x.1=some c)->
  (forIn (m:=Sem) names acc fun x r=>match x with
   | (name,kind)=>if (kind == NameKind.free)=true then do let c ← cellOf env name;pure (ForInStep.yield ((name,c) :: r)) else pure (ForInStep.yield r))=pure (sU env names acc)
 | [],acc,_=>rfl
 | (n,k) :: r,acc,h=>by
  rw [List.forIn_cons]
  cases hk:(k == NameKind.free) with
  | false=>
   simp only [hk,ZR,if_false,pure_bind,sU]
   exact pM r acc fun x hx=>h x (Zc _ hx)
  | true=>
   obtain ⟨c,e⟩:=h (n,k) Zj (by simpa using hk)
   simp only [hk,if_true,pure_bind,sU,cellOf,e]
   exact pM r ((n,c) :: acc) fun x hx=>h x (Zc _ hx)
theorem oO {scope:Scope} {env:Env} (h:∀ x∈scope.names,x.2=NameKind.free->∃ c,env.cells.lookup x.1=some c):closureFor scope env=pure (sU env scope.names []):=by
 unfold closureFor
 have:=pM (env:=env) scope.names [] h
 simp only [this,pure_bind]
theorem wk {prog:Program} {w:World} {A:Around} {R:Result->Shared->Prop} {s:Shared} {elt target iter:Expr} {ifs:List Expr} {scope:Scope} {pos:Pos} {it acc:Value} {env:Env} (I:Nat->Shared->Prop)
  (turn:∀ n s,I n s->wpAny (model prog w) A (pyNext it) (fun r s₁=>match r with
   | none=>R (.ok .next) s₁
   | some v=>wpAny (model prog w) A (letOwnedTupleGo target it v) (fun _ s₁'=>wpAny (model prog w) A (assign target env v) (fun _ s₂=>
     wpAny (model prog w) A (forIn ifs true fun c r=>if r=true then do let ok ← isTrue c env (eval c env);pure (ForInStep.yield ok) else pure (ForInStep.yield r)) (fun ok s₃=>
      if ok=true then wpAny (model prog w) A (eval elt env) (fun x s₄=>
       wpAny (model prog w) A (call (.builtin "list.append") [acc,x]) (fun _ s₅=>∃ m,m < n/\I m s₅) (fun _ _=>False) s₄) (fun _ _=>False) s₃
      else ∃ m,m < n/\I m s₃) (fun _ _=>False) s₂) (fun _ _=>False) s₁') (fun _ _=>False) s₁) (fun _ _=>False) s)
  (n:Nat) (h:I n s):
  codeAny (model prog w) A (.compLoop (.ListComp elt [⟨target,iter,ifs,0⟩] scope pos) 0 it acc env) R s:=by
 refine codeAny_loop rfl I (fun n s hI=>?_) n h
 show wpAny _ A ((compTurn (.ListComp elt [⟨target,iter,ifs,0⟩] scope pos) 0 it acc env).onRaise (fun x=>do noteFrame x env;theTreesLotGoes x)) _ _ s
 refine wpAny_noted ?_
 rw [compTurn_list]
 refine YK (AbE (YK (ZP (turn n s hI) (fun r s₁ h₁=>?_) fun _ _ h'=>h'.elim)))
 cases r with
 | none=>exact YM h₁
 | some v=>
  refine YK (ZP h₁ (fun _ s₁' h₁'=>?_) fun _ _ h'=>h'.elim)
  refine YK (ZP h₁' (fun _ s₂ h₂=>YK (ZP h₂ (fun ok s₃ h₃=>?_) fun _ _ h'=>h'.elim)) fun _ _ h'=>h'.elim)
  cases ok with
  | false=>exact YM ⟨rfl,h₃⟩
  | true=>
   exact YK (YK (ZP h₃ (fun x s₄ h₄=>YK (ZP h₄ (fun _ s₅ h₅=>YM (YM ⟨rfl,h₅⟩)) fun _ _ h'=>h'.elim)) fun _ _ h'=>h'.elim))
theorem dB:∀ (names:List (Str×NameKind)) (n:Nat) (acc:List (Str×Addr)),cellsFrom n names acc=cellsFrom n names [] ++ acc
 | [],_,_=>rfl
 | (x,k) :: r,n,acc=>by
  unfold cellsFrom
  split
  ·rw [dB r (n+1) ((x,n) :: acc),dB r (n+1) [(x,n)],ZF];rfl
  ·exact dB r n acc
theorem qi {α:Type}:∀ {A B:List (Str×α)} {x:Str},(A ++ B).lookup x=(match A.lookup x with | some c=>some c | none=>B.lookup x)
 | [],_,_=>rfl
 | (y,c) :: A,B,x=>by
  rw [List.cons_append,Zo,Zo]
  cases x == y with
  | true=>rfl
  | false=>exact qi (A:=A)
theorem ur:∀ {names:List (Str×NameKind)} {n:Nat} {acc:List (Str×Addr)} {x:Str} {c:Addr},(x,c)∈cellsFrom n names acc->(x,c)∈acc\/(x,NameKind.cell)∈names
 | [],_,_,_,_,h=>.inl h
 | (y,k) :: r,n,acc,x,c,h=>by
  unfold cellsFrom at h
  split at h
  ·rename_i hk
   rcases ur h with z | z
   ·rcases Zg.mp z with z | z
    ·cases z
     have:k= .cell:=by simpa using hk
     rw [this];exact .inr Zj
    ·exact .inl z
   ·exact .inr (Zc _ z)
  ·exact (ur h).imp id (Zc _)
theorem iJ {α:Type}:∀ {l:List (Str×α)} {x:Str} {c:α},(x,c)∈l->∃ d,l.lookup x=some d
 | (y,d) :: r,x,c,h=>by
  by_cases e:x=y
  ·subst e;exact ⟨d,by simp [Zo]⟩
  ·have hb:(x == y)=false:=by simpa using e
   rw [Zo,hb]
   rcases Zg.mp h with z | z
   ·cases z;exact absurd rfl e
   ·exact iJ z
theorem qj:∀ {names:List (Str×NameKind)} {n:Nat} {acc:List (Str×Addr)} {x:Str},(x,NameKind.cell)∈names\/(∃ c,(x,c)∈acc)->∃ c,(x,c)∈cellsFrom n names acc
 | [],_,_,_,h=>h.elim (fun h=>by simp at h) id
 | (y,k) :: r,n,acc,x,h=>by
  unfold cellsFrom
  split
  ·refine qj ?_
   rcases h with h | ⟨c,h⟩
   ·rcases Zg.mp h with z | z
    ·cases z;exact .inr ⟨n,Zj⟩
    ·exact .inl z
   ·exact .inr ⟨c,Zc _ h⟩
  ·rename_i hk
   refine qj ?_
   rcases h with h | h
   ·rcases Zg.mp h with z | z
    ·cases z;exact absurd (by decide) hk
    ·exact .inl z
   ·exact .inr h
def Dj (X:Cx) (scope:Scope) (C:Addr):List (Str×Addr):=cellsFrom (C+1) scope.names (sU X.env scope.names [])
section
variable {M:Model} {A:Around} {E:Value->Shared->Prop} {s:Shared}
theorem gn {scope:Scope} {globals:Addr} {cl:List (Str×Addr)} {qual:Str} {env:Env} {Q:Env->Shared->Prop}
  (hQ:∀ h':Heap,h'.Ns s.heap.objs.size (fun _=>none)->(∀ b o,s.heap.get? b=some o->h'.get? b=some o)->CellsOk h' (s.heap.objs.size+1) (cellsFrom (s.heap.objs.size+1) scope.names [])->
   Q (newEnv scope s.heap.objs.size globals (cellsFrom (s.heap.objs.size+1) scope.names cl) qual none .none (some env) builtinsNs) {s with heap:=h',toks:=s.toks+([]:List (Str×Value)).length}):
  wpAny M A (newFunctionEnv scope globals cl [] qual none .none (some env)) Q E s:=by
 simp only [newFunctionEnv,Option.isSome_some,if_true]
 refine YK (wpAny_alloc ?_)
 refine YK (wpAny_layCells _ (fun name kind cells=>by cases hkc:kind == NameKind.cell <;> simp [hkc]) _ _ _ _ ?_)
 have ok:=cellsFrom_ok scope.names (s.heap.push {cls:=.type "dict",data:=.dict #[]}) (s.heap.objs.size+1) [] ⟨fun _ _ hm=>(nomatch hm),List.Pairwise.nil⟩ (by rw [AaS];exact YW _)
 rw [AaS] at ok
 rw [show ({s with heap:=s.heap.push {cls:=.type "dict",data:=.dict #[]}}:Shared).heap.objs.size=s.heap.objs.size+1 from AaS ..]
 exact YK (YM (YM (hQ _ ((Heap.Ns.new s.heap (.type "dict")).keeps (pushCells_keeps _ _)) (fun b o e=>pushCells_keeps _ _ b o (YT _ e)) ok)))
end
def oK (X:Cx) (N':List Str) (scope:Scope) (C:Addr) (s₀:Shared) (H₀:Hp) (ex:List Addr):Cx:=
 {X with N:=N',s₀:=s₀,H₀:=H₀,env:=compEnvC scope (Dj X scope C) C X.env,outer:=X.stack,ex:=ex,fn:=fun x=>decide (scope.names.lookup x=some .cell),pn:=[],xe:=fun _ _=>False}
def cU (sub:List (Option Nat)) (U:St):St:=sub.map fun o=>o.bind fun j=>(U[j]?).join
structure rQ (N:List Str) (sc:Scope) (N':List Str) (scope:Scope) (sub:List (Option Nat)):Prop where
 kind:scope.kind= .function
 cel:∀ x∈scope.names,x.2= .cell->scope.names.lookup x.1=some .cell
 loc:∀ x∈scope.names,x.2= .local->scope.names.lookup x.1=some .local
 free:∀ x∈scope.names,x.2= .free->sc.names.lookup x.1=some .cell\/sc.names.lookup x.1=some .free
 len:sub.length=N'.length
 at_:∀ (i j:Nat) (x:Str),sub[i]?=some (some j)->N'[i]?=some x->N[j]?=some x/\(x,NameKind.free)∈scope.names/\scope.names.lookup x=some .free
def Gx (N:List Str) (sc:Scope) (N':List Str) (scope:Scope) (sub:List (Option Nat)):Bool:=
 decide (scope.kind= .function) && scope.names.all (fun x=>decide (x.2= .cell->scope.names.lookup x.1=some .cell)) && scope.names.all (fun x=>decide (x.2= .local->scope.names.lookup x.1=some .local)) &&
 scope.names.all (fun x=>decide (x.2= .free->sc.names.lookup x.1=some .cell\/sc.names.lookup x.1=some .free)) && decide (sub.length=N'.length) &&
 (List.range sub.length).all fun i=>match sub[i]?,N'[i]? with
  | some (some j),some x=>decide (N[j]?=some x/\(x,NameKind.free)∈scope.names/\scope.names.lookup x=some .free)
  | _,_=>true
theorem eN {N:List Str} {sc:Scope} {N':List Str} {scope:Scope} {sub:List (Option Nat)} (h:Gx N sc N' scope sub=true):rQ N sc N' scope sub:=by
 simp only [Gx,Zm,decide_eq_true_eq,ZM] at h
 obtain ⟨⟨⟨⟨⟨h1,h2⟩,h3⟩,h4⟩,h5⟩,h6⟩:=h
 refine ⟨h1,h2,h3,h4,h5,fun i j x e1 e2=>?_⟩
 have hi:i < sub.length:=(YS.mp e1).1
 have q:=h6 i (AaE.mpr hi)
 rw [e1,e2] at q
 simpa using q
def Gy:TT:=fun _ H Q=>Q true H
def wY (X:Cx) (ifs:List Expr) (t:TT):Prop:=
 ∀ (pins:List (Addr×Obj)) (s:Shared) (U:St) (H:Hp) (Q:Bool->Hp->Prop),Inv X pins U H s->t U H Q->
  wpAny (model X.prog X.w) X.A (forIn ifs true fun c r=>if r=true then do let ok ← isTrue c X.env (eval c X.env);pure (ForInStep.yield ok) else pure (ForInStep.yield r)) (TP X pins U Q) X.xe s
theorem Gz {X:Cx}:wY X [] Gy:=fun _ _ _ H _ I h=>wpAny_tests_nil ⟨H,I,h⟩
theorem GD {X:Cx} {c:Expr} {t:TT} (hc:PT X c t):wY X [c] t:=fun pins s U H Q I h=>wpAny_tests_one (hc pins s U H Q I h)
def KeepSt (U U':St):Prop:=U'.length=U.length/\∀ (i:Nat) (v:V),U[i]?=some (some v)->U'[i]?=some (some v)
theorem KeepSt.set {U:St} {i:Nat} {v:V} (h:U[i]?=some none):KeepSt U (U.set i (some v)):=by
 refine ⟨by simp,fun j u e=>?_⟩
 by_cases hj:i=j
 ·subst hj;rw [h] at e;cases e
 ·rw [AaZ hj];exact e
theorem KeepSt.trans {σ1 σ2 σ3:St} (a:KeepSt σ1 σ2) (b:KeepSt σ2 σ3):KeepSt σ1 σ3:=⟨b.1.trans a.1,fun i v e=>b.2 i v (a.2 i v e)⟩
def ut (sub:List (Option Nat)) (wi:TI) (g:TG) (tt:TT) (te:TE):TE:=fun U H Q=>wi U H fun J H1=>∃ W:Nat->Nat->List V->Hp->Prop,(∃ m,W 0 m [] H1)/\∀ i m ys H,W i m ys H->
 (J.stop i H/\ys.length<=sizeLine/\∀ D,H D=none->Q (.ref D) (upd H D (.lst ys)))\/
 (J.go i H/\ys.length < sizeLine/\∃ N:List V->Hp->Prop,(∀ ys' H',N ys' H'->∃ m',m' < m/\W (i+1) m' ys' H')/\
  ∀ x H',J.yld i H x H'->g x (cU sub U) H' fun σ2 H2=>KeepSt (cU sub U) σ2/\tt σ2 H2 fun b H3=>if b=true then te σ2 H3 fun y H4=>N (ys ++ [y]) H4 else N ys H3)
theorem ql {scope:Scope} {env:Env} {x:Str} (hx:scope.names.lookup x=some .free):(relabel scope env).names.lookup x=some .cell\/(relabel scope env).names.lookup x=some .free:=by
 have:∀ names:List (Str×NameKind),names.lookup x=some .free->
  (names.map fun (n,k)=>if (k == NameKind.free && env.scope.kind == .function && env.kindOf n == some .cell) then (n,NameKind.cell) else (n,k)).lookup x=some .cell\/
  (names.map fun (n,k)=>if (k == NameKind.free && env.scope.kind == .function && env.kindOf n == some .cell) then (n,NameKind.cell) else (n,k)).lookup x=some .free:=by
  intro names
  induction names with
  | nil=>intro h;simp at h
  | cons p r ih=>
   obtain ⟨n,k⟩:=p
   intro h
   by_cases e:x=n
   ·subst e
    have hk:k= .free:=by simpa [Zo] using h
    subst hk
    by_cases hc:((NameKind.free == NameKind.free && env.scope.kind == .function && env.kindOf x == some .cell)=true)
    ·left;simp only [ZJ];rw [if_pos hc];simp [Zo]
    ·right;simp only [ZJ];rw [if_neg hc];simp [Zo]
   ·have hb:(x == n)=false:=by simpa using e
    rw [Zo,hb] at h
    have q:=ih h
    simp only [ZJ]
    split <;> (rw [Zo,hb];exact q)
 exact this scope.names hx
theorem wZ {scope:Scope} {env:Env} {x:Str} (h:(relabel scope env).names.lookup x=some .cell\/(relabel scope env).names.lookup x=some .free):(x,NameKind.cell)∈scope.names\/(x,NameKind.free)∈scope.names:=by
 have key:∀ k,(k=NameKind.cell\/k=NameKind.free)->(relabel scope env).names.lookup x=some k->(x,NameKind.cell)∈scope.names\/(x,NameKind.free)∈scope.names:=by
  intro k hk hl
  have hm:=Z2 hl
  unfold relabel at hm
  obtain ⟨⟨n,k'⟩,hm1,hm2⟩:=Zd.mp hm
  dsimp only at hm2
  by_cases hc:(k' == NameKind.free && env.scope.kind == .function && env.kindOf n == some .cell)=true
  ·rw [if_pos hc] at hm2
   cases hm2
   simp only [Zm,Aa6] at hc
   rw [← hc.1.1];exact .inr hm1
  ·rw [if_neg hc] at hm2
   cases hm2
   rcases hk with hk | hk
   ·subst hk;exact .inl hm1
   ·subst hk;exact .inr hm1
 rcases h with h | h
 ·exact key _ (.inl rfl) h
 ·exact key _ (.inr rfl) h
section
variable {X:Cx} {tg iter elt:Expr} {ifs:List Expr} {scope:Scope} {pos:Pos} {N':List Str} {sub:List (Option Nat)} {wi:TI} {g:TG} {tt:TT} {te:TE}
theorem wu {pins:List (Addr×Obj)} {U:St} {H:Hp} {s:Shared} {fp:List Addr} {D:Addr} {h':Heap} {tk:Nat} {N:List Str} {sc:Scope} (S:rQ N sc N' scope sub) (hN:X.N=N) (hsc:X.env.scope=sc) (I:Inv X pins U H s) (hf:∀ b∈fp,lE X pins H b) (hfo:∀ b∈fp,b < s.heap.objs.size)
  (hD:D < s.heap.objs.size) (fD:lE X pins H D) (hns:h'.Ns s.heap.objs.size fun _=>none) (hk:∀ b o,s.heap.get? b=some o->h'.get? b=some o) (hc:CellsOk h' (s.heap.objs.size+1) (cellsFrom (s.heap.objs.size+1) scope.names [])):
  Inv (oK X N' scope s.heap.objs.size s H (D :: fp)) [] (cU sub U) H {s with heap:=h',toks:=tk}:=by
 have hex:∀ b∈D :: fp,lE X pins H b/\b < s.heap.objs.size:=fun b hb=>by
  rcases Zg.mp hb with rfl | z
  ·exact ⟨fD,hD⟩
  ·exact ⟨hf b z,hfo b z⟩
 have spl:∀ {x c},(Dj X scope s.heap.objs.size).lookup x=some c->(h'.IsCell c none/\s.heap.objs.size+1<=c/\(x,c)∈cellsFrom (s.heap.objs.size+1) scope.names [])\/(X.env.cells.lookup x=some c/\∃ o,s.heap.get? c=some o):=fun {x c} h=>by
  unfold Dj at h
  rw [dB,qi] at h
  cases e:(cellsFrom (s.heap.objs.size+1) scope.names []).lookup x with
  | some d=>
   rw [e] at h
   cases h
   have m:=Z2 e
   exact .inl ⟨(hc.empty _ _ m).1,(hc.empty _ _ m).2,m⟩
  | none=>
   rw [e] at h
   have z:=Di h
   obtain ⟨v,o,ho,_⟩:=I.cell x c z
   exact .inr ⟨z,o,ho⟩
 have fre:∀ {x c},(x,NameKind.free)∈scope.names->scope.names.lookup x=some .free->X.env.cells.lookup x=some c->(Dj X scope s.heap.objs.size).lookup x=some c:=fun {x c} h1 h2 h3=>by
  unfold Dj
  rw [dB,qi]
  cases e:(cellsFrom (s.heap.objs.size+1) scope.names []).lookup x with
  | some d=>
   rcases ur (Z2 e) with z | z
   ·cases z
   ·have:=S.cel _ z rfl
    rw [h2] at this;cases this
  | none=>exact yq h3 h1
 refine ⟨⟨I.ok.mod,S.kind,I.ok.glob,I.ok.blt,YW _,fun x y c h1 h2=>?_,fun x hx=>?_,fun x c hx h=>?_,I.ok.hd,I.ok.frames,.inl rfl,fun b hb=>?_,I.bs,Aan I.ok.bsz I.sz,fun b o e hb=>?_,fun b hb=>?_,I.stack,I.stkFree⟩,
  rfl,I.bare,Un.kept hk,⟨_,hns,fun i x v h1 h2 h3=>?_⟩,fun x c h=>?_,I.hok.fresh (YW _),fun x c h=>?_,fun p hp=>(nomatch hp),I.hok.kept hk,?_⟩
 ·rcases spl h1 with ⟨_,l1,m1⟩ | ⟨z1,o1,q1⟩ <;> rcases spl h2 with ⟨_,l2,m2⟩ | ⟨z2,o2,q2⟩
  ·exact PySem.name_of_addr hc.apart m1 m2
  ·exact absurd (Zi (Y7 q2) (Aa2 l1)) (Aal _)
  ·exact absurd (Zi (Y7 q1) (Aa2 l2)) (Aal _)
  ·exact I.ok.inj x y c z1 z2
 ·rcases wZ hx with z | z
  ·obtain ⟨c,m⟩:=qj (n:=s.heap.objs.size+1) (acc:=sU X.env scope.names []) (.inl z)
   exact iJ m
  ·obtain ⟨c,e⟩:=I.ok.has x (by have:=S.free _ z rfl;rw [← hsc] at this;exact this)
   show ∃ c,(Dj X scope s.heap.objs.size).lookup x=some c
   unfold Dj
   rw [dB]
   exact iJ (c:=c) (Za _ (uq e z))
 ·have hx':scope.names.lookup x=some .cell:=by simpa [oK] using hx
  rcases spl h with ⟨_,l,_⟩ | ⟨z,o,q⟩
  ·exact Aa2 l
  ·exfalso
   have m:(x,NameKind.cell)∈scope.names:=Z2 hx'
   obtain ⟨d,md⟩:=qj (n:=s.heap.objs.size+1) (acc:=[]) (.inl m)
   obtain ⟨d',e'⟩:=iJ md
   have h:(Dj X scope s.heap.objs.size).lookup x=some c:=h
   unfold Dj at h
   rw [dB,qi,e'] at h
   cases h
   exact absurd (Zi (Y7 q) (Aa2 (hc.empty _ _ (Z2 e')).2)) (Aal _)
 ·obtain ⟨⟨f0,f1,f2,f3,f4,f5⟩,hlt⟩:=hex b hb
  refine ⟨ZG hlt,fun x c h=>?_⟩
  rcases spl h with ⟨_,l,_⟩ | ⟨z,_⟩
  ·exact fun z=>absurd (Zi hlt (Aa2 (z ▸ l))) (Aal _)
  ·exact f4 x c z
 ·obtain ⟨⟨f0,f1,f2,f3,f4,f5⟩,hlt⟩:=hex b hb
  rcases f3 with z | z
  ·exact I.ok.noex b o e z
  ·exact absurd (Zi (Y7 (I.ok.bs b o e).1) z) (Aal _)
 ·obtain ⟨⟨f0,f1,f2,f3,f4,f5⟩,hlt⟩:=hex b hb
  intro z
  rcases Zg.mp (I.stkSub b z) with z | z
  ·exact f1 z
  ·exact f2 z
 ·have hs:∃ j,sub[i]?=some (some j)/\U[j]?=some (some v):=by
   unfold cU at h2
   rw [Ze] at h2
   cases e:sub[i]? with
   | none=>rw [e] at h2;cases h2
   | some o=>
    rw [e] at h2
    cases o with
    | none=>cases h2
    | some j=>
     refine ⟨j,rfl,?_⟩
     have h3:(U[j]?).join=some v:=Zn h2
     cases e2:U[j]? with
     | none=>rw [e2] at h3;cases h3
     | some z=>rw [e2] at h3;cases z with
      | none=>cases h3
      | some z=>cases h3;rfl
  obtain ⟨j,e1,e2⟩:=hs
  obtain ⟨g1,g2,g3⟩:=S.at_ i j x e1 h1
  rw [← hN] at g1
  obtain ⟨m,hn,hl⟩:=I.loc
  have hkf:X.env.kindOf x=some .cell\/X.env.kindOf x=some .free:=by have:=S.free _ g2 rfl;rw [← hsc] at this;exact this
  have hvis:Yt X.env.scope x:=by
   rcases hkf with z | z
   ·exact .inr (.inl z)
   ·exact .inr (.inr z)
  obtain ⟨u,r,l⟩:=hl j x v g1 e2 hvis
  refine ⟨u,r,.inr ⟨ql g3,?_⟩⟩
  rcases l with ⟨k,_⟩ | ⟨_,c,e,o,ho,hd⟩
  ·have k':X.env.kindOf x=some .local:=k
   rcases hkf with z | z <;> (rw [k'] at z;cases z)
  ·exact ⟨c,fre g2 g3 e,o,hk _ _ ho,hd⟩
 ·rcases spl h with ⟨z,_⟩ | ⟨z,_⟩
  ·exact ⟨_,z⟩
  ·obtain ⟨v,o,ho,hd⟩:=I.cell x c z
   exact ⟨v,o,hk _ _ ho,hd⟩
 ·rcases spl h with ⟨_,l,_⟩ | ⟨z,_⟩
  ·exact I.hok.fresh (Aa2 l)
  ·exact I.freeC x c z
 ·show (cU sub U).length=N'.length
  unfold cU
  rw [YQ]
  exact S.len
theorem Bq {N:List Str} {sc:Scope} (S:rQ N sc N' scope sub) (hc:X.calm=true) (hN:X.N=N) (hsc:X.env.scope=sc) (hi:PI X tg iter wi)
  (hg:∀ (C:Addr) (s₀:Shared) (H₀:Hp) (ex:List Addr),PG (oK X N' scope C s₀ H₀ ex) tg g)
  (ht:∀ (C:Addr) (s₀:Shared) (H₀:Hp) (ex:List Addr),wY (oK X N' scope C s₀ H₀ ex) ifs tt)
  (he:∀ (C:Addr) (s₀:Shared) (H₀:Hp) (ex:List Addr),PE (oK X N' scope C s₀ H₀ ex) elt te)
  (hs:autoParam (∀ x,foldedSetIterable iter X.env x=pure x) L2.auto3._auto_1):
  PE X (.ListComp elt [⟨tg,iter,ifs,0⟩] scope pos) (ut sub wi g tt te):=by
 intro pins s U H Q I h
 rw [eval_ListComp]
 have hcl:∀ x∈scope.names,x.2=NameKind.free->∃ c,X.env.cells.lookup x.1=some c:=fun x hx hk=>I.ok.has x.1 (by have:=S.free x hx hk;rw [← hsc] at this;exact this)
 refine wpAny_comprehension_free (use:=none) rfl hs (oO hcl) S.kind S.loc ?_
 refine dM (hi pins s U H _ I h) fun v s1 h1=>dM h1 fun itv s2 h2=>?_
 obtain ⟨it,fp,tn,J,H2,e,I2,T,st2,f2,W,⟨m0,w0⟩,turn⟩:=h2
 subst e
 refine ZX (gn fun h₁ hns₁ hk31 hcl₁=>?_)
 dsimp only at hns₁ hk31 hcl₁ ⊢
 generalize hs3:({s2 with heap:=s2.heap.push {cls:=.type "list",dict:=none,data:=.seq ([]:List Value).toArray}}:Shared)=s3
 have e3:s2.heap.push {cls:=.type "list",dict:=none,data:=.seq ([]:List Value).toArray}=s3.heap:=by rw [← hs3]
 rw [e3] at hns₁ hk31 hcl₁ ⊢
 have hD3:s3.heap.get? s2.heap.objs.size=some {cls:=.type "list",dict:=none,data:=.seq ([]:List Value).toArray}:=by rw [← e3];exact Y6 _ rfl
 have I3:Inv X pins U H2 s3:=by
  rw [← hs3]
  exact I2.kept (t':=s2.toks) fun b o e=>YT _ e
 have k23:∀ b o,s2.heap.get? b=some o->s3.heap.get? b=some o:=fun b o e=>by rw [← e3];exact YT _ e
 have hsz:s3.heap.objs.size=s2.heap.objs.size+1:=by rw [← e3,AaS]
 have hDn:H2 s2.heap.objs.size=none:=I2.hok.fresh (YW _)
 have fD:lE X pins H2 s2.heap.objs.size:=I2.fpOk (YW _) hDn
 have hfo:∀ b∈fp,b < s2.heap.objs.size:=fun b hb=>let ⟨o,e,_⟩:=T.obj _ _ st2 b hb;Y7 e
 have hDfp:s2.heap.objs.size ∉ fp:=fun z=>absurd (hfo _ z) (Aal _)
 have I4:=wu (tk:=s3.toks+([]:List (Str×Value)).length) S hN hsc I3 f2 (fun b hb=>by rw [hsz];exact Nat.lt_succ_of_lt (hfo b hb)) (D:=s2.heap.objs.size) (by rw [hsz];exact Nat.lt_succ_self _) fD hns₁ hk31 hcl₁
 have stat:∀ {H':Hp} {ob:Obj},(∀ b∈fp,H' b=none)->∀ b∈fp,lE (oK X N' scope s3.heap.objs.size s3 H2 (s2.heap.objs.size :: fp)) [(s2.heap.objs.size,ob)] H' b:=fun {H' ob} hn b hb=>by
  obtain ⟨q1,q2⟩:=I4.ok.exf b (Zc _ hb)
  refine ⟨hn b hb,q1,I4.ok.exfs b (Zc _ hb),.inl (Zc _ hb),q2,fun p hp z=>?_⟩
  have hp':p=(s2.heap.objs.size,ob):=by simpa [oK] using hp
  subst hp'
  have z':s2.heap.objs.size=b:=z
  exact hDfp (by rw [z'];exact hb)
 generalize hXC:oK X N' scope s3.heap.objs.size s3 H2 (s2.heap.objs.size :: fp)=XC at I4 stat
 have eP:XC.prog=X.prog:=by rw [← hXC];rfl
 have eW:XC.w=X.w:=by rw [← hXC];rfl
 have eK:XC.K=X.K:=by rw [← hXC];rfl
 have eA:XC.A=X.A:=by rw [← hXC];rfl
 have eE:XC.env=compEnvC scope (Dj X scope s3.heap.objs.size) s3.heap.objs.size X.env:=by rw [← hXC];rfl
 have eC:XC.calm=true:=by rw [← hXC];exact hc
 have eX:XC.xe=fun _ _=>False:=by rw [← hXC];rfl
 have eH:XC.H₀=H2:=by rw [← hXC];rfl
 have eS:XC.s₀=s3:=by rw [← hXC];rfl
 have eF:XC.fs=frs X.stack:=by rw [← hXC];rfl
 have eEx:XC.ex=s2.heap.objs.size :: fp:=by rw [← hXC];rfl
 have ePn:XC.pn=[]:=by rw [← hXC];rfl
 have hgC:PG XC tg g:=by rw [← hXC];exact hg _ _ _ _
 have htC:wY XC ifs tt:=by rw [← hXC];exact ht _ _ _ _
 have heC:PE XC elt te:=by rw [← hXC];exact he _ _ _ _
 have pinD:∀ {U':St} {H':Hp} {s':Shared} {ob:Obj},Inv XC [] U' H' s'->H' s2.heap.objs.size=none->s'.heap.get? s2.heap.objs.size=some ob->(∀ v,ob.data≠.cell v)->Inv XC [(s2.heap.objs.size,ob)] U' H' s':=fun {U' H' s' ob} J hn hg hd=>
  J.pins_of fun p hp=>by
   have hp':p=(s2.heap.objs.size,ob):=by simpa using hp
   subst hp'
   refine ⟨hg,hn,(J.ok.exf _ (by rw [eEx];exact Zj)).1,J.ok.exfs _ (by rw [eEx];exact Zj),hd⟩
 have loop:codeAny (model X.prog X.w) X.A (.compLoop (.ListComp elt [⟨tg,iter,ifs,0⟩] scope pos) 0 (.ref it) (.ref s2.heap.objs.size) (compEnvC scope (Dj X scope s3.heap.objs.size) s3.heap.objs.size X.env))
   (compPost (model X.prog X.w) X.A X.xe none (EP X pins U Q) (.ref s2.heap.objs.size) s3.heap.objs.size) {s3 with heap:=h₁,toks:=s3.toks+([]:List (Str×Value)).length}:=by
  refine wk (fun n s'=>∃ (i:Nat) (ys:List V) (its:List Value) (nn:Nat) (H':Hp),Inv XC [] (cU sub U) H' s'/\tn i s'.heap/\(∀ b∈fp,H' b=none)/\H' s2.heap.objs.size=none/\
   s'.heap.get? s2.heap.objs.size=some {cls:=.type "list",data:=.seq its.toArray nn}/\Vals ys its/\W i n ys H') ?_ m0
   ⟨0,[],[],_,H2,I4,T.keep _ _ _ st2 fun b _ o e=>hk31 b o (k23 b o e),fun b hb=>(f2 b hb).1,hDn,hk31 _ _ hD3,.nil,w0⟩
  rintro n s4 ⟨i,ys,its,nn,H4,J4,st4,fr4,dn4,dg4,rv4,w4⟩
  have P4:=pinD J4 dn4 dg4 (fun v z=>by cases z)
  rcases turn i n ys H4 w4 with ⟨stop,hyl,qn⟩ | ⟨go,hyl,N,hN,step⟩
  ·have hdone:=T.done XC eP eW eK eC i _ s4 _ H4 (fun _ _=>False) P4 (stat fr4) st4 stop
   rw [eA] at hdone
   refine ZP hdone (fun r s5 ⟨hr,I5⟩=>?_) fun _ _ z=>z
   subst hr
   obtain ⟨m,hn,_⟩:=id I5.loc
   have hCe:XC.env.locals=s3.heap.objs.size:=by rw [eE];rfl
   rw [hCe] at hn
   refine ⟨m,hn,fun h6 hs6=>?_⟩
   have hDg:=(I5.pin (s2.heap.objs.size,_) (by rw [ePn];exact Zj)).1
   have hDne:s2.heap.objs.size≠s3.heap.objs.size:=by rw [hsz];exact ZG (Nat.lt_succ_self _)
   have hHC:H4 s3.heap.objs.size=none:=by have:=I5.free;rw [hCe] at this;exact this
   have k56:∀ b o,b≠s3.heap.objs.size->s5.heap.get? b=some o->h6.get? b=some o:=fun b o hb e=>hs6.extBut b o hb e
   have un:=I5.base
   rw [eF,eEx,eH,eS] at un
   have nC:∀ b o,s3.heap.get? b=some o->b≠s3.heap.objs.size:=fun b o e=>ZG (Y7 e)
   have hok6:HOk X.prog X.w (upd H4 s2.heap.objs.size (.lst ys)) h6:=by
    have h5:=I5.hok
    rw [eP,eW] at h5
    have Kp:∀ b u,H4 b=some u->b≠s3.heap.objs.size:=fun b u e z=>by rw [z,hHC] at e;cases e
    intro b u e
    by_cases hb:b=s2.heap.objs.size
    ·subst hb
     rw [ao] at e;cases e
     exact ⟨hyl,its,nn,rv4,k56 _ _ hDne hDg⟩
    ·rw [aC hb] at e
     have nD:∀ c u,H4 c=some u->c≠s2.heap.objs.size:=fun c u e z=>by rw [z,dn4] at e;cases e
     refine (h5 b u e).stay (fun c v hc' q=>k56 c v ?_ q) (fun c q=>by rw [aC (nD c _ q)];exact q) fun c xs q=>by rw [aC (nD c _ q)];exact q
     rcases hc' with z | z
     ·rw [z];exact Kp b u e
     ·exact Kp c _ z
   have nD2:∀ c u,H4 c=some u->c≠s2.heap.objs.size:=fun c u e z=>by rw [z,dn4] at e;cases e
   have un6:Un (frs X.stack) (s2.heap.objs.size :: fp) H2 (upd H4 s2.heap.objs.size (.lst ys)) s3.heap h6:=
    ⟨fun b o e nn' hb hx=>k56 b o (nC b o e) (un.keep b o e nn' hb hx),fun b o e nn' hb hx=>let ⟨sl,q⟩:=un.slot b o e nn' hb hx;⟨sl,k56 b _ (nC b o e) q⟩,
     fun b o e nn' hx=>by rw [aC (fun z=>hx (by rw [z];exact Zj))];exact un.free b o e nn' hx,
     fun b o e hx=>let ⟨o',q⟩:=un.there b o e hx;⟨o',k56 b o' (nC b o e) q⟩,
     fun b xs e=>by have q:=un.tups b xs e;rw [aC (nD2 b _ q)];exact q,
     fun b o u e=>by have q:=un.frzs b o u e;rw [aC (nD2 b _ q)];exact q,
     fun b ps e=>let ⟨more,q⟩:=un.tbls b ps e;⟨more,by rw [aC (nD2 b _ q)];exact q⟩⟩
   have I6:Inv X pins U (upd H4 s2.heap.objs.size (.lst ys)) {s5 with heap:=h6}:=by
    refine I3.call' (s':={s5 with heap:=h6}) (ch:=s2.heap.objs.size :: fp) ?_ un6 hok6 I5.bare fun b hb=>?_
    ·show s5.os=s3.os
     have:=I5.os
     rw [eS] at this
     exact this
    ·have q:lE X pins H2 b:=by
      rcases Zg.mp hb with rfl | z
      ·exact fD
      ·exact f2 b z
     obtain ⟨f0,f1,f2',f3,f4,f5⟩:=q
     exact ⟨f3,f1,f4,f5⟩
   exact ⟨.ref s2.heap.objs.size,_,I6,rfl,qn _ dn4⟩
  ·have hitem:=T.item XC eP eW eK eC i _ s4 _ H4 (fun _ _=>False) P4 (stat fr4) st4 go
   rw [eA] at hitem
   refine ZP hitem (fun r s5 ⟨u,hr,h5⟩=>?_) fun _ _ z=>z
   subst hr
   dsimp only
   refine ZP h5 (fun _ s6 ⟨x,H6,I6,r6,y6,st6,fr6⟩=>?_) fun _ _ z=>z
   have P6:=I6.pinned (stat fr6) (T.obj _ _ st6)
   rw [← eE,← eP,← eW,← eA]
   refine ZP (hgC _ s6 _ H6 x u _ P6 r6 (step x H6 y6)) (fun _ s7 ⟨σ7,H7,I7,kp7,q7⟩=>?_) fun _ _ z=>by rw [eX] at z;exact z
   refine ZP (htC _ s7 σ7 H7 _ I7 q7) (fun ok s8 ⟨H8,I8,q8⟩=>?_) fun _ _ z=>by rw [eX] at z;exact z
   have fin:∀ {H9:Hp} {s9:Shared},Inv XC ([(s2.heap.objs.size,({cls:=.type "list",data:=.seq its.toArray nn}:Obj))] ++ qU fp s6.heap) σ7 H9 s9->Inv XC [] (cU sub U) H9 s9/\tn (i+1) s9.heap/\(∀ b∈fp,H9 b=none)/\H9 s2.heap.objs.size=none/\
     s9.heap.get? s2.heap.objs.size=some {cls:=.type "list",data:=.seq its.toArray nn}:=fun {H9 s9} J=>by
    have pD:=J.pin (s2.heap.objs.size,({cls:=.type "list",data:=.seq its.toArray nn}:Obj)) (by rw [ePn];simp)
    have pF:∀ b∈fp,∀ o,s6.heap.get? b=some o->s9.heap.get? b=some o/\H9 b=none:=fun b hb o e=>by
     have q:=J.pin (b,o) (by rw [ePn];exact Za _ (Za _ (lZ hb e)))
     exact ⟨q.1,q.2.1⟩
    refine ⟨?_,T.keep _ _ _ st6 fun b hb o e=>(pF b hb o e).1,fun b hb=>?_,pD.2.1,pD.1⟩
    ·have J0:Inv XC [] σ7 H9 s9:=J.pins_of fun p hp=>nomatch hp
     exact J0.weak kp7.1.symm fun j v e=>kp7.2 j v e
    ·obtain ⟨o,e,_⟩:=T.obj _ _ st6 b hb
     exact (pF b hb o e).2
   cases ok with
   | false=>
    rw [if_neg (by simp)]
    rw [if_neg (by simp)] at q8
    obtain ⟨m',hm,w8⟩:=hN _ _ q8
    obtain ⟨a1,a2,a3,a4,a5⟩:=fin I8
    exact ⟨m',hm,i+1,ys,its,nn,H8,a1,a2,a3,a4,a5,rv4,w8⟩
   | true=>
    rw [if_pos rfl]
    rw [if_pos rfl] at q8
    refine ZP (heC _ s8 σ7 H8 _ I8 q8) (fun xv s9 ⟨y,H9,I9,r9,n9⟩=>?_) fun _ _ z=>by rw [eX] at z;exact z
    obtain ⟨m',hm,w9⟩:=hN _ _ n9
    obtain ⟨a1,a2,a3,a4,a5⟩:=fin I9
    refine wpAny_list_append_plain (items:=its.toArray) ⟨nn,a5⟩ (fun h' ⟨n',hp'⟩ sb=>?_) (by simp;rw [← rv4.length];omega)
    obtain ⟨q1,q2⟩:=I4.ok.exf s2.heap.objs.size (by rw [eEx];exact Zj)
    have a1':Inv XC [] (cU sub U) H9 {s9 with heap:=h'}:=a1.turned (t':=s9.toks) (fun b o hb e=>(sb.2 b hb).trans e) a4 q1 (.inl (by rw [eEx];exact Zj)) q2 (fun p hp=>by rw [ePn] at hp;exact nomatch hp)
    refine ⟨m',hm,i+1,ys ++ [y],its ++ [xv],n',H9,a1',T.keep _ _ _ a2 fun b hb o e=>(sb.2 b (fun z=>hDfp (by rw [← z];exact hb))).trans e,a3,a4,?_,rv4.append (.cons r9 .nil),w9⟩
    rw [hp']
    simp
 subst hs3
 exact codeAny_compStart_list loop (T.self _ 0 _ _ _ (T.keep _ _ _ st2 fun b _ o e=>hk31 b o (k23 b o e)) loop)
end
abbrev oR (sub:List (Option Nat)) (g:TG) (tt:TT) (te:TE) (U:St) (Q:VK) (J:It) (H1:Hp):Prop:=∃ W:Nat->Nat->List V->Hp->Prop,(∃ m,W 0 m [] H1)/\∀ i m ys H,W i m ys H->
 (J.stop i H/\ys.length<=sizeLine/\∀ D,H D=none->Q (.ref D) (upd H D (.lst ys)))\/
 (J.go i H/\ys.length < sizeLine/\∃ N:List V->Hp->Prop,(∀ ys' H',N ys' H'->∃ m',m' < m/\W (i+1) m' ys' H')/\
  ∀ x H',J.yld i H x H'->g x (cU sub U) H' fun σ2 H2=>KeepSt (cU sub U) σ2/\tt σ2 H2 fun b H3=>if b=true then te σ2 H3 fun y H4=>N (ys ++ [y]) H4 else N ys H3)
theorem qm {sub:List (Option Nat)} {g:TG} {tt:TT} {te:TE} {U:St} {Q:VK} {J:It} {H:Hp} {n:Nat} (Pv:Nat->List V->Hp->Prop) (hn:n<=sizeLine) (h0:Pv 0 [] H) (hl:∀ i ys H,Pv i ys H->ys.length<=i)
  (hgo:∀ i ys H,i < n->Pv i ys H->J.go i H) (hstop:∀ ys H,Pv n ys H->J.stop n H)
  (hs:∀ i ys H x H',i < n->Pv i ys H->J.yld i H x H'->g x (cU sub U) H' fun σ2 H2=>KeepSt (cU sub U) σ2/\tt σ2 H2 fun b H3=>if b=true then te σ2 H3 fun y H4=>Pv (i+1) (ys ++ [y]) H4 else Pv (i+1) ys H3)
  (hd:∀ ys H,Pv n ys H->∀ D,H D=none->Q (.ref D) (upd H D (.lst ys))):oR sub g tt te U Q J H:=by
 refine ⟨fun i m ys H=>m=n - i/\i<=n/\Pv i ys H,⟨n,by simp,Aaj _,h0⟩,?_⟩
 rintro i m ys H ⟨rfl,hi,p⟩
 have hl':=hl i ys H p
 by_cases hlt:i < n
 ·exact .inr ⟨hgo i ys H hlt p,by omega,fun ys' H'=>Pv (i+1) ys' H',fun ys' H' p'=>⟨n - (i+1),by omega,rfl,hlt,p'⟩,fun x H' y=>hs i ys H x H' hlt p y⟩
 ·have e:i=n:=by omega
  subst e
  exact .inl ⟨hstop ys H p,by omega,hd ys H p⟩
section
variable {κ:Type} [DecidableEq κ]
def mZ (kvs:List (κ×V)) (k:κ):Option V:=(kvs.find? fun kv=>decide (kv.1=k)).map (·.2)
def putK (kvs:List (κ×V)) (k:κ) (v:V):List (κ×V):=
 if (kvs.any fun kv=>decide (kv.1=k))=true then kvs.map (fun kv=>if kv.1=k then (kv.1,v) else kv) else kvs ++ [(k,v)]
theorem qp {p:κ×V} {r:List (κ×V)} {k:κ} (e:p.1=k):mZ (p :: r) k=some p.2:=by simp [mZ,Abr,e]
theorem qt {p:κ×V} {r:List (κ×V)} {k:κ} (e:¬ p.1=k):mZ (p :: r) k=mZ r k:=by simp [mZ,Abr,e]
theorem m5 (k:κ):∀ kvs:List (κ×V),(kvs.any fun kv=>decide (kv.1=k))=(mZ kvs k).isSome
 | []=>rfl
 | p :: r=>by
  rw [List.any_cons]
  by_cases e:p.1=k
  ·simp only [qp e,YZ e,Bool.true_or,Option.isSome_some]
  ·rw [qt e,Y5 e,Bool.false_or];exact m5 k r
theorem rR (kvs:List (κ×V)) (k:κ) (v:V):(putK kvs k v).length<=kvs.length+1:=by
 unfold putK
 split
 ·rw [YQ];omega
 ·rw [YX,ZW,Z1];omega
theorem GF {kvs:List (κ×V)} {k:κ} (v:V) (h:mZ kvs k=none):putK kvs k v=kvs ++ [(k,v)]:=by
 unfold putK
 rw [m5,h]
 exact if_neg (by decide)
theorem RelO.isSome_eq {o:Option V} {u:Option Value} (r:RelO o u):o.isSome=u.isSome:=by
 cases o with
 | none=>cases u with
  | none=>rfl
  | some _=>exact (show False from r).elim
 | some _=>cases u with
  | none=>exact (show False from r).elim
  | some _=>rfl
theorem RelO.getD {o:Option V} {u:Option Value} {d:V} {d':Value} (r:RelO o u) (rd:RelV d d'):RelV (o.getD d) (u.getD d'):=by
 cases o with
 | none=>cases u with
  | none=>exact rd
  | some _=>exact (show False from r).elim
 | some _=>cases u with
  | none=>exact (show False from r).elim
  | some _=>exact r
theorem KV.val {kvs:List (κ×V)} {vs:List (κ×Value)} (r:KV kvs vs) (k:κ):RelO (mZ kvs k) (valueAt vs k):=by
 unfold KV at r
 induction r with
 | nil=>exact True.intro
 | @cons p q ps qs h t ih=>
  obtain ⟨h1,h2⟩:=h
  by_cases e:p.1=k
  ·have e':q.1=k:=h1.symm.trans e
   have b:valueAt (q :: qs) k=some q.2:=by simp [valueAt,Abr,e']
   rw [qp e,b];exact h2
  ·have e':¬ q.1=k:=fun z=>e (h1.trans z)
   have b:valueAt (q :: qs) k=valueAt qs k:=by simp [valueAt,Abr,e']
   rw [qt e,b];exact ih
theorem KV.any {kvs:List (κ×V)} {vs:List (κ×Value)} (r:KV kvs vs) (k:κ):(kvs.any fun kv=>decide (kv.1=k))=vs.any fun kv=>decide (kv.1=k):=by
 unfold KV at r
 induction r with
 | nil=>rfl
 | cons h t ih=>rw [List.any_cons,List.any_cons,ih,h.1]
theorem KV.repl {kvs:List (κ×V)} {vs:List (κ×Value)} (r:KV kvs vs) (k:κ) {y:V} {u:Value} (ry:RelV y u):
  KV (kvs.map fun kv=>if kv.1=k then (kv.1,y) else kv) (vs.map fun kv=>if kv.1=k then (kv.1,u) else kv):=by
 unfold KV at r ⊢
 induction r with
 | nil=>exact .nil
 | @cons p q ps qs h t ih=>
  rw [ZJ,ZJ]
  refine .cons ?_ ih
  obtain ⟨h1,h2⟩:=h
  by_cases e:p.1=k
  ·rw [if_pos e,if_pos (h1.symm.trans e)];exact ⟨h1,ry⟩
  ·rw [if_neg e,if_neg (fun z=>e (h1.trans z))];exact ⟨h1,h2⟩
theorem KV.put {kvs:List (κ×V)} {vs:List (κ×Value)} (r:KV kvs vs) (k:κ) {y:V} {u:Value} (ry:RelV y u):KV (putK kvs k y) (stored vs k u):=by
 unfold putK stored
 rw [r.any k]
 by_cases e:(vs.any fun kv=>decide (kv.1=k))=true
 ·rw [if_pos e,if_pos e];exact r.repl k ry
 ·rw [if_neg e,if_neg e];exact Paired.snoc r ⟨rfl,ry⟩
theorem KV.length {kvs:List (κ×V)} {vs:List (κ×Value)} (r:KV kvs vs):kvs.length=vs.length:=Paired.length r
end
theorem ww {P:Program} {w:World} {k:Key} {u:Value} (r:RelV (kV k) u):(b8 P w).is k u=true:=by
 cases k with
 | inl i=>obtain ⟨t,e⟩:=(show ∃ t,u=Value.int i t from r);subst e;exact yg P w i t
 | inr x=>obtain ⟨t,e⟩:=(show ∃ t,u=Value.str x t from r);subst e;exact yh P w x t
theorem wy {P:Program} {w:World}:∀ {ks:List Key} {us:List Value},Vals (ks.map kV) us->ItemsAre (b8 P w) ks us
 | [],_,r=>by rw [Abl] at r;cases r;exact .nil
 | k :: ks,_,r=>by
  rw [ZJ] at r
  cases r with
  | cons h t=>exact .cons (ww h) (wy t)
abbrev KT (H:Hp):List (List Key×V)->List (List Key×Addr×Value)->Prop:=Paired fun p q=>p.1=q.1/\H q.2.1=some (.tup (p.1.map kV))/\RelV p.2 q.2.2
theorem KT.val {H:Hp} {kvs:List (List Key×V)} {xs:List (List Key×Addr×Value)} (r:KT H kvs xs) (k:List Key):RelO (mZ kvs k) ((atKey xs k).map (·.2)):=by
 induction r with
 | nil=>exact True.intro
 | @cons p q ps qs h t ih=>
  obtain ⟨h1,_,h2⟩:=h
  by_cases e:p.1=k
  ·have e':q.1=k:=h1.symm.trans e
   have b:atKey (q :: qs) k=some q.2:=by simp [atKey,Abr,e']
   rw [qp e,b];exact h2
  ·have e':¬ q.1=k:=fun z=>e (h1.trans z)
   have b:atKey (q :: qs) k=atKey qs k:=by simp [atKey,Abr,e']
   rw [qt e,b];exact ih
theorem KT.repl {H:Hp} {kvs:List (List Key×V)} {xs:List (List Key×Addr×Value)} (r:KT H kvs xs) (k:List Key) {y:V} {u:Value} (ry:RelV y u):
  KT H (kvs.map fun kv=>if kv.1=k then (kv.1,y) else kv) (xs.map (putAt k u)):=by
 induction r with
 | nil=>exact .nil
 | @cons p q ps qs h t ih=>
  rw [ZJ,ZJ]
  refine .cons ?_ ih
  obtain ⟨h1,h2,h3⟩:=h
  unfold putAt
  by_cases e:p.1=k
  ·rw [if_pos e,if_pos (h1.symm.trans e)];exact ⟨h1,h2,ry⟩
  ·rw [if_neg e,if_neg (fun z=>e (h1.trans z))];exact ⟨h1,h2,h3⟩
theorem KT.put {H:Hp} {kvs:List (List Key×V)} {xs:List (List Key×Addr×Value)} (r:KT H kvs xs) (k:List Key) {b:Addr} {y:V} {u:Value} (hb:H b=some (.tup (k.map kV))) (ry:RelV y u):
  KT H (putK kvs k y) (storedH xs k b u):=by
 have e:(kvs.any fun kv=>decide (kv.1=k))=(atKey xs k).isSome:=by
  rw [m5,(r.val k).isSome_eq,Option.isSome_map]
 unfold putK storedH
 rw [e]
 by_cases q:(atKey xs k).isSome=true
 ·rw [if_pos q,if_pos q];exact r.repl k ry
 ·rw [if_neg q,if_neg q];exact Paired.snoc r ⟨rfl,hb,ry⟩
theorem KT.keeps {H H':Hp} {kvs:List (List Key×V)} {xs:List (List Key×Addr×Value)} (r:KT H kvs xs) (ht:∀ b ys,H b=some (.tup ys)->H' b=some (.tup ys)):KT H' kvs xs:=
 Paired.mapP r fun _ _ z=>⟨z.1,ht _ _ z.2.1,z.2.2⟩
section
variable {P:Program} {w:World} {H:Hp} {h:Heap} {a:Addr}
theorem Ox {u:HO} (ok:HOk P w H h) (e:Rd H a u):ObjOk P w H h a u:=e.ok ok
theorem uv {kvs:List (Key×V)} (ok:HOk P w H h) (e:Rd H a (.dK kvs)):kvs.length<=sizeLine/\(a == sysModules)=false/\∃ vs,KV kvs vs/\h.DictOf (b8 P w) a vs:=
 show ObjOk P w H h a (.dK kvs) from Ox ok e
theorem VG {kvs:List (Key×V)} (ok:HOk P w H h) (e:H a=some (.dK kvs)):kvs.length<=sizeLine/\(a == sysModules)=false/\∃ vs,KV kvs vs/\h.DictOf (b8 P w) a vs:=uv ok (.inl e)
theorem qZ {ks:List Key} (ok:HOk P w H h) (e:H a=some (.tup (ks.map kV))):(tupleKind (b8 P w)).is h ks a:=by
 obtain ⟨_,its,r,o,h1,h2,n,h3⟩:=(show ObjOk P w H h a (.tup (ks.map kV)) from ok a _ e)
 exact ⟨o,its.toArray,n,h1,h2,h3,by simpa using wy r⟩
theorem uw {kvs:List (List Key×V)} (ok:HOk P w H h) (e:Rd H a (.dT kvs)):kvs.length<=sizeLine/\(a == sysModules)=false/\
  ∃ xs,KT H kvs xs/\h.DictOfH (tupleKind (b8 P w)) a xs:=by
 obtain ⟨z,y,xs,r,o,es,ep,h1,h2,h3,h4,h5⟩:=(show ObjOk P w H h a (.dT kvs) from Ox ok e)
 refine ⟨z,y,xs,r,o,es,ep,h1,h2,h3,h4,fun x hx=>?_,h5⟩
 have all:∀ {l:List (List Key×V)} {m:List (List Key×Addr×Value)},KT H l m->∀ x∈m,(tupleKind (b8 P w)).is h x.1 x.2.1:=by
  intro l m q
  induction q with
  | nil=>intro x hx;exact nomatch hx
  | @cons p q ps qs hq t ih=>
   intro x hx
   rcases Zg.mp hx with e | hx
   ·subst e
    exact qZ ok (by rw [← hq.1];exact hq.2.1)
   ·exact ih x hx
 exact all r x hx
theorem VH {kvs:List (List Key×V)} (ok:HOk P w H h) (e:H a=some (.dT kvs)):kvs.length<=sizeLine/\(a == sysModules)=false/\
  ∃ xs,KT H kvs xs/\h.DictOfH (tupleKind (b8 P w)) a xs:=uw ok (.inl e)
end
def DGet (H:Hp) (a:Addr) (y:V) (r:Option V):Prop:=
 (∃ kvs k,Rd H a (.dK kvs)/\y=kV k/\r=mZ kvs k)\/∃ kvs k b,Rd H a (.dT kvs)/\y= .ref b/\H b=some (.tup (k.map kV))/\r=mZ kvs k
def DPut (H:Hp) (a:Addr) (y v:V) (H':Hp):Prop:=
 (∃ kvs k,H a=some (.dK kvs)/\y=kV k/\kvs.length < sizeLine/\H'=upd H a (.dK (putK kvs k v)))\/
 ∃ kvs k b,H a=some (.dT kvs)/\y= .ref b/\H b=some (.tup (k.map kV))/\kvs.length < sizeLine/\H'=upd H a (.dT (putK kvs k v))
theorem DGet.t {H:Hp} {a b:Addr} {kvs:List (List Key×V)} {k:List Key} (e:H a=some (.dT kvs)) (eb:H b=some (.tup (k.map kV))):DGet H a (.ref b) (mZ kvs k):=.inr ⟨kvs,k,b,.inl e,rfl,eb,rfl⟩
theorem DPut.t {H:Hp} {a b:Addr} {kvs:List (List Key×V)} {k:List Key} {v:V} (e:H a=some (.dT kvs)) (eb:H b=some (.tup (k.map kV))) (hl:kvs.length < sizeLine):
  DPut H a (.ref b) v (upd H a (.dT (putK kvs k v))):=.inr ⟨kvs,k,b,e,rfl,eb,hl,rfl⟩
section
variable {X:Cx} {pins:List (Addr×Obj)} {U:St} {H:Hp} {s:Shared} {a:Addr} {y v:V} {u r:Value} {o:Option V} {A:Around} {E:Value->Shared->Prop}
theorem Inv.big (I:Inv X pins U H s):sysModules < s.heap.objs.size:=by
 have h:mainGlobals < s.heap.objs.size:=(I.mod.glob.keeps I.bk).lt
 exact Nat.lt_trans (by decide) h
theorem Dk {Q:Value->Shared->Prop} (hu:A.units+1 < cLine) (I:Inv X pins U H s) (g:DGet H a y (some v)) (ry:RelV y u) (h:∀ w' s',Inv X pins U H s'->RelV v w'->Q w' s'):
  wpAny (model X.prog X.w) A (getItem (.ref a) u) Q E s:=by
 rcases g with ⟨kvs,k,e,ey,l⟩ | ⟨kvs,k,b,e,ey,eb,l⟩
 ·subst ey
  obtain ⟨z,hd,vs,rel,dd⟩:=uv I.hok e
  obtain ⟨w',hw,rw'⟩:=RelO.some_of (v:=v) (o:=valueAt vs k) (by rw [l];exact rel.val k)
  exact wpAny_getItem_of (ww ry) dd.mapOf hw (h w' _ (I.tok _) rw')
 ·subst ey
  cases (show u=Value.ref b from ry)
  obtain ⟨z,hd,xs,rel,dd⟩:=uw I.hok e
  obtain ⟨w',hw,rw'⟩:=RelO.some_of (v:=v) (o:=(atKey xs k).map (·.2)) (by rw [l];exact rel.val k)
  obtain ⟨p,hp,hp2⟩:=Option.map_eq_some_iff.mp hw
  refine wpAny_getItem_heap (Abm hu) (qZ I.hok eb) dd hp ?_
  rw [hp2]
  exact h w' _ (I.tok _) rw'
theorem d_in {Q:Value->Shared->Prop} (hu:A.units+1 < cLine) (I:Inv X pins U H s) (g:DGet H a y o) (ry:RelV y u) (h:∀ s',Inv X pins U H s'->Q (.bool o.isSome) s'):
  wpAny (model X.prog X.w) A (compareOp .In u (.ref a)) Q E s:=by
 rcases g with ⟨kvs,k,e,ey,l⟩ | ⟨kvs,k,b,e,ey,eb,l⟩
 ·subst ey
  obtain ⟨z,hd,vs,rel,dd⟩:=uv I.hok e
  refine wpAny_in_of (ww ry) hd dd.mapOf ?_
  rw [← (rel.val k).isSome_eq,← l]
  exact h _ (I.tok _)
 ·subst ey
  cases (show u=Value.ref b from ry)
  obtain ⟨z,hd,xs,rel,dd⟩:=uw I.hok e
  refine wpAny_in_heap (Abm hu) (qZ I.hok eb) hd dd ?_
  have q:=(rel.val k).isSome_eq
  rw [Option.isSome_map] at q
  rw [← q,← l]
  exact h _ (I.tok _)
theorem Lg {Q:Value->Shared->Prop} (hu:A.units+1 < cLine) (I:Inv X pins U H s) (g:DGet H a y o) (ry:RelV y u) (h:∀ s',Inv X pins U H s'->Q (.bool (!o.isSome)) s'):
  wpAny (model X.prog X.w) A (compareOp .NotIn u (.ref a)) Q E s:=by
 rcases g with ⟨kvs,k,e,ey,l⟩ | ⟨kvs,k,b,e,ey,eb,l⟩
 ·subst ey
  obtain ⟨z,hd,vs,rel,dd⟩:=uv I.hok e
  refine wpAny_notIn_of (ww ry) hd dd.mapOf ?_
  rw [← (rel.val k).isSome_eq,← l]
  exact h _ (I.tok _)
 ·subst ey
  cases (show u=Value.ref b from ry)
  obtain ⟨z,hd,xs,rel,dd⟩:=uw I.hok e
  refine wpAny_notIn_heap (Abm hu) (qZ I.hok eb) hd dd ?_
  have q:=(rel.val k).isSome_eq
  rw [Option.isSome_map] at q
  rw [← q,← l]
  exact h _ (I.tok _)
theorem Br {h':Heap} {t':Nat} {ob:HO} (I:Inv X pins U H s) (mu:Vd (H a)) (hs:Heap.SameBut a s.heap h') (he:∃ q,h'.get? a=some q) (new:ObjOk X.prog X.w (upd H a ob) h' a ob):
  Inv X pins U (upd H a ob) {s with heap:=h',toks:=t'}:=
 I.write (x:=a) (e:=a) mu (.inl rfl) (fun b q hb z=>(hs.2 b hb).trans z) he new
theorem Q3 {P:Program} {w:World} {H':Hp} {h':Heap} {kvs:List (Key×V)} {vs:List (Key×Value)} (z:kvs.length<=sizeLine) (hd:(a == sysModules)=false) (rel:KV kvs vs) (dd:h'.DictOf (b8 P w) a vs):
  ObjOk P w H' h' a (.dK kvs):=⟨z,hd,vs,rel,dd⟩
theorem Dl {H':Hp} {Q:Unit->Shared->Prop} (hu:A.units+1 < cLine) (I:Inv X pins U H s) (g:DPut H a y v H') (ry:RelV y u) (rv:RelV v r) (h:∀ s',Inv X pins U H' s'->Q () s'):
  wpAny (model X.prog X.w) A (setItem (.ref a) u r) Q E s:=by
 rcases g with ⟨kvs,k,e,ey,l,eH⟩ | ⟨kvs,k,b,e,ey,eb,l,eH⟩
 ·subst ey eH
  obtain ⟨z,hd,vs,rel,dd⟩:=VG I.hok e
  have hz:vs.length<=sizeLine:=by rw [← rel.length];exact z
  have hl:(putK kvs k v).length<=sizeLine:=by have:=rR kvs k v;omega
  refine wpAny_setItem_pairs (hsz:=hz) (ww ry) dd fun h' dd' hs=>h _ ?_
  have he:∃ q,h'.get? a=some q:=let ⟨q,_,_,hq,_⟩:=dd';⟨q,hq⟩
  exact Br I (by rw [e];exact True.intro) hs he (Q3 hl hd (rel.put k rv) dd')
 ·subst ey eH
  cases (show u=Value.ref b from ry)
  obtain ⟨z,hd,xs,rel,dd⟩:=VH I.hok e
  have hz:xs.length<=sizeLine:=by rw [← Paired.length rel];exact z
  have hl:(putK kvs k v).length<=sizeLine:=by have:=rR kvs k v;omega
  refine wpAny_setItem_heap (hsz:=hz) (Abm hu) (qZ I.hok eb) dd fun h' dd' hs=>h _ ?_
  obtain ⟨q,es,ep,hq,h2,h3,h4,_,h5⟩:=dd'
  refine Br I (by rw [e];exact True.intro) hs ⟨q,hq⟩ ⟨hl,hd,_,(rel.put k eb rv).keeps fun c ys ec=>?_,q,es,ep,hq,h2,h3,h4,h5⟩
  rw [aC (Vc ec e (fun z=>nomatch z))]
  exact ec
end
def VJ (i:Expr):Prop:=∀ ov iv,subscripted i false ov iv=operate [ov,iv] (getItem ov iv)
theorem Lh {prog:Program} {w:World} {A:Around} {E:Value->Shared->Prop} {s:Shared} {env:Env} {value slice:Expr} {pos:Pos} {T id:String} {Q:Value->Shared->Prop}
  (hl:typeLookup (.type T) "__getitem__"=pure (some (.builtin id))) (hs:VJ slice)
  (h:wpAny (model prog w) A (eval value env) (fun o s₁=>wpAny (model prog w) A (eval slice env) (fun i s₂=>s₂.TypeIs o T/\wpAny (model prog w) A (getItem o i) Q E s₂) E s₁) E s):
  wpAny (model prog w) A (eval (.Subscript value slice pos) env) Q E s:=by
 refine Subscript_ (ZP h (fun o s₁ h₁=>ZP h₁ (fun i s₂ h₂=>?_) fun _ _ x=>x) fun _ _ x=>x)
 obtain ⟨hT,h₂⟩:=h₂
 unfold subscriptTail
 refine YK ?_
 rw [getitemInPython_of_ne hT.not_modules]
 refine YK (wpAny_specialOf hT hl ?_)
 have fin:wpAny (model prog w) A (subscripted slice false o i) (fun r s₃=>wpAny (model prog w) A (letTemporaryGo value o r >>=fun _=>pure r) Q E s₃) E s₂:=by
  rw [hs o i]
  exact wpAny_operating (ZP h₂ (fun r s₃ h₃=>YK (wpAny_letTemporaryGo (YM h₃))) fun _ _ x=>x)
 first
  | exact YM (YK fin)
  | exact YK (YM (YK fin))
  | exact YK fin
theorem yr {X:Cx} {pins:List (Addr×Obj)} {U:St} {H:Hp} {s:Shared} {a:Addr} {y:V} {o:Option V} (I:Inv X pins U H s) (g:DGet H a y o):s.TypeIs (.ref a) "dict":=by
 rcases g with ⟨kvs,k,e,_,_⟩ | ⟨kvs,k,b,e,_,_,_⟩
 ·obtain ⟨_,_,vs,_,dd⟩:=uv I.hok e
  exact dd.typeIs
 ·obtain ⟨_,_,xs,_,dd⟩:=uw I.hok e
  exact dd.typeIs
def GJ (td ty:TE):TE:=fun U H Q=>td U H fun x H1=>ty U H1 fun y H2=>∃ a v,x= .ref a/\DGet H2 a y (some v)/\Q v H2
section
variable {X:Cx} {o i e value:Expr} {pos pos' tpos:Pos} {td ty tv:TE}
theorem Li (hu:X.A.units+1 < cLine) (ho:PE X o td) (hi:PE X i ty) (hs:VJ i):PE X (.Subscript o i pos) (GJ td ty):=by
 intro pins s U H Q I h
 refine Lh PySem.F.slot_dict_getitem.lookup hs (dM (ho pins s U H _ I h) fun u s1 ⟨x,H1,I1,rx,q1⟩=>dM (hi pins s1 U H1 _ I1 q1) fun iv s2 qq0=>?_)
 obtain ⟨y,H2,I2,ry,a,v,ex,g,q2⟩:=qq0
 subst ex
 obtain rfl:u=Value.ref a:=rx
 exact ⟨yr I2 g,Dk hu I2 g ry fun w' s3 I3 rw'=>⟨v,H2,I3,rw',q2⟩⟩
end
theorem GK {P:Program} {w:World} {H:Hp} (h:Heap) (hb:sysModules < h.objs.size):ObjOk P w H (h.push {cls:=.type "dict",data:=.dict #[]}) h.objs.size (.dK []):=
 ⟨Aaj _,Aah.mpr (Ne.symm (ZG hb)),[],.nil,Heap.DictOf.new h⟩
theorem GP {P:Program} {w:World} {H:Hp} (h:Heap) (hb:sysModules < h.objs.size):ObjOk P w H (h.push {cls:=.type "dict",data:=.dict #[]}) h.objs.size (.dT []):=
 ⟨Aaj _,Aah.mpr (Ne.symm (ZG hb)),[],.nil,_,#[],0,Y6 _ rfl,⟨rfl,rfl,rfl⟩,rfl,rfl,List.nodup_nil⟩
def zN:TE:=fun _ H Q=>∀ p,H p=none->Q (.ref p) (upd H p (.dK []))
def zO:TE:=fun _ H Q=>∀ p,H p=none->Q (.ref p) (upd H p (.dT []))
section
variable {X:Cx} {pos:Pos}
theorem GQ:PE X (.Dict [] [] pos) zN:=fun pins s U H Q I h=>
 wpAny_Dict_empty ⟨.ref s.heap.objs.size,_,I.laid (a:=s.heap.objs.size) (o:=.dK []) (t':=s.toks) (fun _ _ q=>YT _ q) (YW _) (GK s.heap I.big),rfl,h _ (I.hok.fresh (YW _))⟩
theorem GR:PE X (.Dict [] [] pos) zO:=fun pins s U H Q I h=>
 wpAny_Dict_empty ⟨.ref s.heap.objs.size,_,I.laid (a:=s.heap.objs.size) (o:=.dT []) (t':=s.toks) (fun _ _ q=>YT _ q) (YW _) (GP s.heap I.big),rfl,h _ (I.hok.fresh (YW _))⟩
end
structure M1 (X:Cx) (o:Expr) (m:Str) (apos:Pos) (e:Expr) (cpos:Pos):Prop where
 base:attributeBase o m X.env (eval o X.env)=eval o X.env
 few:((backTo cpos (starEach [e] X.env)).all (fun x=>!x.1) && (backToKw cpos (keywordEach [] X.env)).all (fun x=>x.1.isSome)
  && decide (([e]:List Expr).length+([]:List Keyword).length+(if ([]:List Keyword).isEmpty then 0 else 1) < 30))=true
 line:(apos.endLine == cpos.line)=true
 trees:backTo cpos (starEach [e] X.env)=[(false,eval e X.env)]
def IsD (H:Hp) (a:Addr):Prop:=(∃ kvs,Rd H a (.dK kvs))\/∃ kvs,Rd H a (.dT kvs)
theorem GX {X:Cx} {pins:List (Addr×Obj)} {U:St} {H:Hp} {s:Shared} {a:Addr} (I:Inv X pins U H s) (d:IsD H a):
  s.TypeIs (.ref a) "dict"/\(∀ b,Value.ref a= .ref b->∃ ob,s.heap.get? b=some ob/\ob.dict=none)/\(a == sysModules)=false:=by
 rcases d with ⟨kvs,e⟩ | ⟨kvs,e⟩
 ·obtain ⟨_,hd,vs,_,dd⟩:=uv I.hok e
  refine ⟨dd.typeIs,fun b q=>?_,hd⟩
  cases q
  obtain ⟨ob,_,_,h1,h2,_⟩:=dd
  exact ⟨ob,h1,h2.2.1⟩
 ·obtain ⟨_,hd,xs,_,dd⟩:=uw I.hok e
  refine ⟨dd.typeIs,fun b q=>?_,hd⟩
  cases q
  obtain ⟨ob,_,_,h1,h2,_⟩:=dd
  exact ⟨ob,h1,h2.2.1⟩
section
variable {X:Cx} {pins:List (Addr×Obj)} {U:St} {H:Hp} {s:Shared} {a:Addr} {y d:V} {u r:Value} {o:Option V} {A:Around} {E:Value->Shared->Prop}
theorem Q4 {Q:Value->Shared->Prop} (hu:A.units+1 < cLine) (I:Inv X pins U H s) (g:DGet H a y o) (ry:RelV y u) (h:∀ w' s',Inv X pins U H s'->RelV (o.getD .non) w'->Q w' s'):
  wpAny (model X.prog X.w) A (call (.builtin "dict.get") [.ref a,u]) Q E s:=by
 rcases g with ⟨kvs,k,e,ey,l⟩ | ⟨kvs,k,b,e,ey,eb,l⟩
 ·subst ey
  obtain ⟨z,hd,vs,rel,dd⟩:=uv I.hok e
  refine call_meetsIn PySem.F.slot_dict_get dd.typeIs PySem.F.entry_dict_get (PySem.F.args_dict_get_2 _ _) (meets_dict_get (b8 X.prog X.w) a (ww ry) hd) ⟨_,dd.mapOf,h _ _ (I.tok _) ?_⟩
  rw [l]
  exact (rel.val k).getD rfl
 ·subst ey
  cases (show u=Value.ref b from ry)
  obtain ⟨z,hd,xs,rel,dd⟩:=uw I.hok e
  refine call_meetsIn PySem.F.slot_dict_get dd.typeIs PySem.F.entry_dict_get (PySem.F.args_dict_get_2 _ _) (meetsH_dict_get (tupleKind (b8 X.prog X.w)) a b hd) ⟨Abm hu,k,xs,qZ I.hok eb,dd,h _ _ (I.tok _) ?_⟩
  rw [l]
  exact (rel.val k).getD rfl
end
def zP (td ty:TE):TE:=fun U H Q=>td U H fun x H1=>∃ a,x= .ref a/\IsD H1 a/\ty U H1 fun y H2=>∃ o,DGet H2 a y o/\Q (o.getD .non) H2
section
variable {X:Cx} {o e f:Expr} {apos cpos:Pos} {td ty tx:TE}
theorem GZ (hu:X.A.units+1 < cLine) (ho:PE X o td) (he:PE X e ty) (m:M1 X o "get" apos e cpos):PE X (.Call (.Attribute o "get" apos) [e] [] cpos) (zP td ty):=by
 intro pins s U H Q I h
 refine wpAny_Call_method m.base m.few m.line PySem.F.plainAttrs_dict PySem.F.slot_dict_get PySem.F.type_dict_get (dM (ho pins s U H _ I h) fun u s1 qq0=>?_)
 obtain ⟨x,H1,I1,rx,a,ex,d,q1⟩:=qq0
 subst ex
 obtain rfl:u=Value.ref a:=rx
 obtain ⟨t1,t2,_⟩:=GX I1 d
 refine ⟨t1,t2,?_⟩
 rw [m.trees]
 refine Calls.callWith_builtin rfl (Calls.evalArgs_plain (Calls.spliced_cons (dM (he pins s1 U H1 _ I1 q1) fun iv s2 ⟨y,H2,I2,ry,ov,g,q2⟩=>Calls.spliced_nil ?_)))
 exact Q4 hu I2 g ry fun w' s3 I3 rw'=>⟨_,H2,I3,rw',q2⟩
end
section
variable {X:Cx}
section
variable {κ:Type} [DecidableEq κ]
theorem Lj {kvs:List (κ×V)} {k:κ} {v:V} (h:mZ kvs k=some v):k∈kvs.map (·.1):=by
 have q:(kvs.any fun kv=>decide (kv.1=k))=true:=by
  rw [m5,h]
  all_goals rfl
 obtain ⟨p,hp,e⟩:=List.any_eq_true.mp q
 exact Zd.mpr ⟨p,hp,Zq e⟩
theorem xf:∀ {l:List κ} {k:κ},l.Nodup->¬ k∈l->(l ++ [k]).Nodup
 | [],k,_,_=>by simp
 | a :: r,k,h,hk=>by
  obtain ⟨h1,h2⟩:=AaX.mp h
  show (a :: (r ++ [k])).Nodup
  refine AaX.mpr ⟨fun m=>?_,xf h2 fun m=>hk (Zg.mpr (Or.inr m))⟩
  rcases Y8.mp m with q | q
  ·exact h1 q
  ·exact hk (Zg.mpr (Or.inl (ZK.mp q).symm))
end
end
def Yz (x:Str):It:=⟨fun i _=>i < x.cps.size,fun i H v H'=>H'=H/\∃ c,x.cps[i]?=some c/\v= .str ⟨#[c]⟩,fun i _=>i=x.cps.size⟩
theorem yt {P:Program} {w:World} {K:W.Frag} {tg:Expr} (it:Addr) (x:Str) (t:Tok) (ty:String)
  (hty:["enumerate","zip","dict_itemiterator","dict_reverseitemiterator","odict_iterator","itertools.zip_longest","itertools.pairwise"].contains ty=false)
  (W:∀ A:Around,A.handled=none->Walks P w A it [it] [it] x.cps.size (SignAt x) fun i h=>h.IsStrIter it ty x t i)
  (hself:∀ (A:Around) (i:Nat) (s:Shared) (Q:Value->Shared->Prop) (E:Value->Shared->Prop),s.heap.IsStrIter it ty x t i->Q (.ref it) s->wpAny (model P w) A (pyIter (.ref it)) Q E s):Turn P w K tg (Yz x) [it] it (fun i h=>h.IsStrIter it ty x t i) where
 mem:=by simp
 obj:=fun i h st b hb=>by
  have e:b=it:=by simpa using hb
  subst e
  obtain ⟨o,e,c,d⟩:=st
  exact ⟨o,e,fun v z=>by rw [d] at z;cases z⟩
 keep:=fun i h h' st k=>by
  obtain ⟨o,e,r⟩:=st
  exact ⟨o,k it (by simp) o e,r⟩
 item:=by
  intro X hP hw hK hc i pins s U H E I hf st hg
  subst hP hw hK
  obtain ⟨f0,f1,f2,f3,f4,f5⟩:=hf it (by simp)
  refine (W X.A (I.ok.hd hc)).item i s _ _ hg st fun v h' tk hv st' kk=>?_
  obtain ⟨c,u,e1,rfl⟩:=hv
  have I1:Inv X pins U H {s with heap:=h',toks:=tk}:=I.turned (fun b o hb e=>kk b o (by simpa using hb) e) f0 f1 f3 f4 f5
  obtain ⟨o,e,cl,d⟩:=id st'
  exact ⟨_,rfl,yl (s:={s with heap:=h',toks:=tk}) e cl d hty ⟨.str ⟨#[c]⟩,H,I1,⟨u,rfl⟩,⟨rfl,c,e1,rfl⟩,st',fun b hb=>(hf b hb).1⟩⟩
 done:=by
  intro X hP hw hK hc i pins s U H E I hf st hg
  subst hP hw hK
  obtain ⟨f0,f1,f2,f3,f4,f5⟩:=hf it (by simp)
  have hg:i=x.cps.size:=hg
  subst hg
  exact (W X.A (I.ok.hd hc)).done s _ _ st fun h' tk kk=>⟨rfl,I.turned (fun b o hb e=>kk b o (by simpa using hb) e) f0 f1 f3 f4 f5⟩
 self:=hself
section
variable {X:Cx}
theorem all_range {bs:List Bool}:(List.range bs.length).all (fun i=>bs.getD i false)=bs.all id:=by
 rw [Bool.eq_iff_iff]
 simp only [ZM,AaE]
 constructor
 ·intro h b hb
  obtain ⟨i,hi,e⟩:=Zh.mp hb
  have:=h i hi
  rw [Y0,YL hi] at this
  simp only [Option.getD_some] at this
  rw [← e];exact this
 ·intro h i hi
  rw [Y0,YL hi]
  exact h _ (Aaa hi)
theorem rT:∀ {bs:List Bool} {us:List Value} {i:Nat} {v:Value},Vals (bs.map V.bl) us->us[i]?=some v->v= .bool (bs.getD i false)
 | [],_,i,v,.nil,e=>by simp at e
 | b :: bs,_,0,v,.cons r t,e=>by simp at e;subst e;exact r
 | b :: bs,_,i+1,v,.cons r t,e=>by
  simp at e
  have:=rT (bs:=bs) t e
  simpa using this
def rAll:List V->Hp->VK->Prop:=fun xs H Q=>∃ (p:Addr) (bs:List Bool),xs=[.ref p]/\H p=some (.lst (bs.map V.bl))/\Q (.bl (bs.all id)) H
theorem m6 (hc:X.calm=true):CallR X (.builtin "all") rAll:=by
 intro pins s U H xs us Q I r h
 obtain ⟨p,bs,rfl,hp,q⟩:=h
 obtain ⟨u,rfl,ru⟩:=vals1 r
 cases ru
 obtain ⟨hz,its,n,rv,e⟩:=I.hok p _ hp
 refine call_all_walk (wpAny_pyIter_list (items:=its.toArray) ⟨_,e,rfl,n,rfl⟩ ?_)
 refine ⟨s.heap.objs.size,_,_,_,_,_,fun i=>bs.getD i false,rfl,Walks.list (A:=X.A.in1) (I.ok.hd hc) s.heap.objs.size p (ZG (Y7 e)) its.toArray,⟨⟨_,Y6 _ rfl,rfl,rfl⟩,⟨_,YT _ e,rfl,n,rfl⟩⟩,?_,fun h' tk hk=>?_⟩
 ·intro i v s' Q' E' hv hq
  have:=rT rv (by simpa using hv)
  subst this
  exact Z4 hq
 ·have hl:its.toArray.size=bs.length:=by have:=rv.length;simpa using this.symm
  rw [hl,all_range]
  refine ⟨.bl _,H,?_,rfl,q⟩
  exact I.kept fun b o e=>hk b o (by simp;exact ZG (Y7 e)) (YT _ e)
def VL:V->Option Int->Option Int->Hp->VK->Prop:=fun v lo hi H Q=>∃ x,v= .str x/\x.length<=sizeLine/\Q (.str (Txt.slice x lo hi)) H
theorem Q5:SlR X VL:=by
 intro pins s U H x v vl vu lo hi sl Q I rx hs pl pu h
 obtain ⟨z,rfl,hz,q⟩:=h
 obtain ⟨t,rfl⟩:=rx
 refine ⟨"str",_,F.slot_str_getitem.lookup,typeIs_str _ _ _,?_⟩
 have fin:∀ (t' k:Nat),EP X pins U Q (.str (Txt.slice z lo hi) t') {s with toks:=k}:=fun t' k=>⟨.str _,H,I.tok _,⟨_,rfl⟩,q⟩
 have sz:=Aan (Txt.slice_le z lo hi) hz
 obtain ⟨o,ho,hc,hd⟩:=hs
 cases pl with
 | none=>
  cases pu with
  | none=>exact Abb (l:=none) (u:=none) (st:=none) ⟨o,ho,hc,hd⟩ rfl (post_val_or_str ⟨sz,fin⟩)
  | int j tj=>exact Abb (l:=none) (u:=some (j,tj)) (st:=none) ⟨o,ho,hc,hd⟩ rfl (post_val_or_str ⟨sz,fin⟩)
 | int i ti=>
  cases pu with
  | none=>exact Abb (l:=some (i,ti)) (u:=none) (st:=none) ⟨o,ho,hc,hd⟩ rfl (post_val_or_str ⟨sz,fin⟩)
  | int j tj=>exact Abb (l:=some (i,ti)) (u:=some (j,tj)) (st:=none) ⟨o,ho,hc,hd⟩ rfl (post_val_or_str ⟨sz,fin⟩)
def Oz:R2:=fun x y H Q=>∃ i n,x= .str i/\y= .int n/\MulOk i n/\Q (.str (Txt.mul i n)) H
theorem zQ:OpR X (binaryOp .Mult) Oz:=by
 intro pins s U H x y v u Q I rx ry h
 obtain ⟨i,n,rfl,rfl,hk,q⟩:=h
 obtain ⟨t,rfl⟩:=rx
 obtain ⟨t',rfl⟩:=ry
 exact SB.mul hk fun t' k=>⟨.str _,H,I.tok _,⟨_,rfl⟩,q⟩
def sgn (x:Str):List V:=x.cps.toList.map fun c=>V.str ⟨#[c]⟩
theorem wz {x:Str} {acc:Array Value} (h:ItemsOf (SignAt x) acc x.cps.size):Vals (sgn x) acc.toList:=by
 obtain ⟨h1,h2⟩:=h
 have key:∀ (l:List Nat) (a:List Value),l.length=a.length->(∀ (j:Nat) (v:Value),a[j]?=some v->∃ (c:Nat) (u:Tok),l[j]?=some c/\v=Value.str ⟨#[c]⟩ u)->Vals (l.map fun c=>V.str ⟨#[c]⟩) a:=by
  intro l
  induction l with
  | nil=>intro a hl _;cases a with
   | nil=>exact .nil
   | cons _ _=>simp at hl
  | cons c l ih=>
   intro a hl hh
   cases a with
   | nil=>simp at hl
   | cons v a=>
    obtain ⟨c',u,e1,e2⟩:=hh 0 v (by simp)
    simp at e1;subst e1
    refine .cons ⟨u,e2⟩ (ih a (by simpa using hl) fun j v' e=>?_)
    obtain ⟨c',u,e1,e2⟩:=hh (j+1) v' (by simpa using e)
    exact ⟨c',u,by simpa using e1,e2⟩
 refine key x.cps.toList acc.toList (by simp [h1]) fun j v e=>?_
 obtain ⟨c,u,e1,e2⟩:=h2 j v (by simpa using e)
 exact ⟨c,u,by simpa using e1,e2⟩
theorem yu (hc:X.calm=true):CallR X (.type "list") (fun xs H Q=>∃ x,xs=[.str x]/\x.cps.size<=sizeLine/\∀ p,H p=none->Q (.ref p) (upd H p (.lst (sgn x)))):=by
 intro pins s U H xs us Q I r h
 obtain ⟨x,rfl,hz,q⟩:=h
 obtain ⟨u,rfl,t,rfl⟩:=vals1 r
 refine call_list_str (I.ok.hd hc) x t (hn:=hz) fun h' tk acc' c' hk hS hacc=>?_
 refine ⟨.ref s.heap.objs.size,_,I.laid (o:=.lst (sgn x)) hk (YW _) ⟨by simp [sgn];exact hz,acc'.toList,c',wz hacc,by simpa using hS⟩,rfl,q _ I.fresh⟩
theorem xg (hc:X.calm=true):CallR X (.type "tuple") (fun xs H Q=>∃ x,xs=[.str x]/\x.cps.size<=sizeLine/\∀ p,H p=none->Q (.ref p) (upd H p (.tup (sgn x)))):=by
 intro pins s U H xs us Q I r h
 obtain ⟨x,rfl,hz,q⟩:=h
 obtain ⟨u,rfl,t,rfl⟩:=vals1 r
 refine call_tuple_str (I.ok.hd hc) x t (hsz:=hz) fun h' tk acc hk hacc=>?_
 have J:Inv X pins U H {s with heap:=h',toks:=tk}:=I.kept hk
 refine ⟨.ref h'.objs.size,_,J.laid (t':=tk) (o:=.tup (sgn x)) (fun b o e=>YT _ e) (YW _) ⟨by simp [sgn];exact hz,acc.toList,wz hacc,⟨_,Y6 _ rfl,rfl,0,by simp⟩⟩,rfl,q _ J.fresh⟩
def Q6 (K:W.Frag):List V->Hp->VK->Prop:=fun xs H Q=>∃ x T t b,xs=[x,.ty T]/\TyOf K H x t/\PySem.W.kitOne K t (.type T)=some b/\Q (.bl b) H
theorem Ha:CallR X (.builtin "isinstance") (Q6 X.K):=by
 intro pins s U H xs us Q I r h
 obtain ⟨x,T,t,b,rfl,ty,e,q⟩:=h
 obtain ⟨u,v,rfl,ru,rv⟩:=vals2 r
 cases rv
 exact CZ I ru ty e fun tk=>⟨.bl b,H,I.tok _,rfl,q⟩
def zR:List V->List V->Bool
 | [],[]=>true
 | x :: xs,y :: ys=>Bo x y && zR xs ys
 | _,_=>false
theorem ux:∀ (xs ys:List V),xs.length=ys.length->(List.range xs.length).all (fun j=>Bo (xs.getD j .non) (ys.getD j .non))=zR xs ys
 | [],[],_=>rfl
 | x :: xs,y :: ys,h=>by
  have ih:=ux xs ys (by simpa using h)
  rw [ZW,List.range_succ_eq_map,Z7,AaP]
  simp only [zR]
  rw [← ih]
  rfl
 | [],y :: ys,h=>by simp at h
 | x :: xs,[],h=>by simp at h
theorem yw:∀ {xs ys:List V},xs.length≠ys.length->zR xs ys=false
 | [],[],h=>absurd rfl h
 | [],y :: ys,_=>rfl
 | x :: xs,[],_=>rfl
 | x :: xs,y :: ys,h=>by simp [zR,yw (xs:=xs) (ys:=ys) (by simpa using h)]
def VM (K:W.Frag) (neg:Bool):R2:=fun x y H Q=>∃ a b xs ys,x= .ref a/\y= .ref b/\SqL K H a xs/\SqL K H b ys/\xs.all dG=true/\ys.all dG=true/\Q (.bl (if neg then !zR xs ys else zR xs ys)) H
theorem Dm (hu:X.A.units < cLine):OpR X (compareOp .Eq) (VM X.K false):=by
 intro pins s U H x y v u Q I rx ry h
 obtain ⟨a,b,xs,ys,rfl,rfl,ha,hb,fx,fy,q⟩:=h
 cases rx
 cases ry
 obtain ⟨its,r1,p1,z1⟩:=I.list ha
 obtain ⟨jts,r2,p2,z2⟩:=I.list hb
 have l1:its.toArray.size=xs.length:=by simpa using r1.length.symm
 have l2:jts.toArray.size=ys.length:=by simpa using r2.length.symm
 by_cases hl:xs.length=ys.length
 ·refine SeqAt.eq_listAt (e:=fun j=>Bo (xs.getD j .non) (ys.getD j .non)) p1.isList p2.isList (by rw [l1,l2];exact hl) hu (fun j h1 h2=>?_) ?_
  ·have h1':j < xs.length:=by omega
   have h2':j < ys.length:=by omega
   obtain ⟨u1,e1,q1⟩:=r1.get (YL h1')
   obtain ⟨u2,e2,q2⟩:=r2.get (YL h2')
   have e1':its.toArray[j]=u1:=by
    have:=YS.mp e1
    obtain ⟨_,z⟩:=this
    simpa using z
   have e2':jts.toArray[j]=u2:=by
    have:=YS.mp e2
    obtain ⟨_,z⟩:=this
    simpa using z
   rw [e1',e2']
   have g1:xs.getD j .non=xs[j]:=by rw [Y0,YL h1'];rfl
   have g2:ys.getD j .non=ys[j]:=by rw [Y0,YL h2'];rfl
   show SeqAt.EqAt X.A.in1 s u1 u2 (Bo (xs.getD j .non) (ys.getD j .non))
   rw [g1,g2]
   exact qY q1 q2 (ZM.mp fx _ (Aaa h1')) (ZM.mp fy _ (Aaa h2'))
  ·rw [l1,ux xs ys hl]
   exact ⟨.bl _,H,I,rfl,q⟩
 ·refine SeqAt.eq_list_lengthsAt p1.isList p2.isList (by rw [l1,l2];simpa using hl) hu ?_
  rw [if_neg (by simp),yw hl] at q
  exact ⟨.bl false,H,I,rfl,q⟩
end
def eY (K:W.Frag) (mg:Str->Option Value) (x:Str) (st:Stmt):Prop:=∃ f fd,Fun K x x st f fd/\mg x=some (.ref f)
theorem bI {K:W.Frag} {mg:Str->Option Value} {h:Heap} (X:K.In h) (G:h.Ns mainGlobals mg) {x:Str} {st:Stmt} {f:Addr} {oc:Value} {od an:Option Addr} {osl:Array (Option Value)} {kV doc pm cdv ct:Value}
  (a:PySem.W.nsIn K mainGlobals x=some (some (.ref f)))
  (l:K.lookup f=some ⟨oc,od,.func (PySem.W.fnOf x x (gD st) (di st) (aB st) .none kV doc pm an cdv ct),osl⟩)
  (c:PySem.W.codeIn K cdv x=true) (k:PySem.W.keepIn K (.ref f)=true):eY K mg x st:=⟨f,_,Gw l c k,Abu X G a⟩
def mU (P:Program) (w:World) (K:W.Frag) (mg:Str->Option Value) (base:Heap) (k:Nat) (x:Str) (ps:List Str) (sp:Sp):Prop:=
 ∃ f fd,mg x=some (.ref f)/\PySem.W.keepIn K (.ref f)=true/\Binds K fd ps []/\qX P w K mg base Dh k f fd ps sp
section
variable {P:Program} {w:World} {K:W.Frag} {mg:Str->Option Value} {base:Heap}
theorem Q7 {x:Str} {st:Stmt} {N ps:List Str} {k:Nat} {sp:Sp} (D:eY K mg x st) (S:aP N ps (aB st))
  (hb:∀ (kV doc pm:Value) (an:Option Addr) (cdv ct:Value) (us:List Value),us.length=ps.length->bindArgs (PySem.W.fnOf x x (gD st) (di st) (aB st) .none kV doc pm an cdv ct) ⟨us,[]⟩=pure (ps.zip us))
  (len:∀ vs H Q E,sp vs H Q E->vs.length=ps.length)
  (hbody:∀ (f:Addr) (cdv:Value) (A:Around) (outer:List Env) (s:Shared) (H:Hp) (vs:List V) (Q:VK) (E:XK),Room k (A.deeper (envOfC x (aB st) s.heap.objs.size f cdv))->sp vs H Q E->
   ∃ t,PSs (qe Dh P w K mg base N x (aB st) f cdv A outer s H E).nox (di st) t/\t {nx:=fun _ H'=>Q .non H',rt:=Q} (start N vs) H):mU P w K mg base (k+1) x ps sp:=by
 obtain ⟨f,fd,F,hm⟩:=D
 exact ⟨f,fd,hm,F.kp,F.binds hb,F.ok S len fun cdv A outer s H vs Q E hr h=>hbody f cdv A outer s H vs Q E hr h⟩
end
section
variable {X:Cx}
theorem Hb {k:Nat} {x:Str} {ps:List Str} {sp:Sp} {p pos:Pos} {e:Expr} {es:List Expr} {t:TA} (F:mU X.prog X.w X.K X.mg X.base k x ps sp) (hr:Room k X.A) (hg:Gl X x)
  (ha:PA X (e :: es) t) (hdb:autoParam ((x == ("__debug__":Str))=false) L2.auto2._auto_1) (he:autoParam (starEach (e :: es) X.env=(false,eval e X.env) :: starEach es X.env) L2.auto4._auto_1) (hpl:autoParam ((backTo pos (starEach es X.env)).any (·.1)=false) L2.auto4._auto_1):
  PE X (.Call (.Name x p) (e :: es) [] pos) (v5 sp [] E0 t):=by
 obtain ⟨f,fd,a,b,c,d⟩:=F
 exact K8 d hr hg a b c .nil VF ha hdb he hpl
def Bs:R2:=fun x y H Q=>(∃ i j,x= .int i/\y= .int j/\Q (.int (i+j)) H)\/(∃ i j,x= .str i/\y= .str j/\i.length+j.length<=sizeLine/\Q (.str (i ++ j)) H)\/VB x y H Q
theorem cj:OpR X (binaryOp .Add) Bs:=Qy.or (zA.or QZ)
def Hc:R2:=fun x y H Q=>(∃ i j,x= .int i/\y= .int j/\CMul i j/\Q (.int (i*j)) H)\/Oz x y H Q\/VD x y H Q
theorem dX:OpR X (binaryOp .Mult) Hc:=Qz.or (zQ.or Q0)
theorem Hd {x:Str} {z:Int} {pos:Pos} (hg:Gl X x) (hm:∃ t,X.mg x=some (.int z t)) (hd:autoParam ((x == ("__debug__":Str))=false) L2.auto2._auto_1):PE X (.Name x pos) (tC (.int z)):=
 let ⟨t,e⟩:=hm;Bb hg e ⟨t,rfl⟩ hd
theorem VN {x:Str} {T:String} {pos:Pos} (hg:Gl X x) (hm:X.mg x=none) (hv:bootBuiltins x=some (.type T)) (hn:autoParam (x≠"__name__") L2.auto2._auto_1) (hd:autoParam ((x == ("__debug__":Str))=false) L2.auto2._auto_1):PE X (.Name x pos) (tC (.ty T)):=
 Kz hg hm hv rfl hn hd
def Q8 (K:W.Frag):R2:=fun x y H Q=>(∃ i j,x= .str i/\y= .str j/\Q (.bl (!(Builtin.Str.occurrences j i 0 j.length 1).isEmpty)) H)\/Yx K false x y H Q
theorem Q9:OpR X (compareOp .In) (Q8 X.K):=CQ.or De
def xj (K:W.Frag):R2:=fun x y H Q=>(∃ i j,x= .str i/\y= .str j/\Q (.bl (!(!(Builtin.Str.occurrences j i 0 j.length 1).isEmpty))) H)\/Yx K true x y H Q
theorem Dn:OpR X (compareOp .NotIn) (xj X.K):=wW.or wV
def Ra (K:W.Frag):R2:=fun x y H Q=>rEq x y H Q\/VM K false x y H Q
theorem Rb (hu:X.A.units < cLine):OpR X (compareOp .Eq) (Ra X.K):=Vn.or (Dm hu)
def rSl (K:W.Frag):V->Option Int->Option Int->Hp->VK->Prop:=fun x lo hi H Q=>Vx K x lo hi H Q\/Vr K x lo hi H Q\/VL x lo hi H Q
theorem Rc:SlR X (rSl X.K):=Le.or (QQ.or Q5)
def Lk (K:W.Frag) (tl:TE):TI:=fun U H R=>tl U H fun x H1=>(∃ a,x= .ref a/\(∃ xs,SqL K H1 a xs)/\R (Ot K a) H1)\/(∃ a,x= .ref a/\(∃ xs,SqT K H1 a xs)/\R (Vi K a) H1)\/(∃ z,x= .str z/\R (Yz z) H1)
theorem Rf {tg l:Expr} {tl:TE} (hl:PE X l tl):PI X tg l (Lk X.K tl):=by
 intro pins s U H R I h
 refine dM (hl pins s U H _ I h) fun v s1 qq0=>?_
 obtain ⟨x,H1,I1,r1,q1⟩:=qq0
 rcases q1 with ⟨a,rfl,⟨xs,hq⟩,q⟩ | ⟨a,rfl,⟨xs,hq⟩,q⟩ | ⟨z,rfl,q⟩
 ·cases r1
  obtain ⟨its,rv,p,hz⟩:=I1.list hq
  refine wpAny_pyIter_list p.isList ?_
  refine ⟨s1.heap.objs.size,[s1.heap.objs.size],_,_,H1,rfl,I1.kept (t':=s1.toks) fun b o e=>YT _ e,CK a _,⟨_,Y6 _ rfl,rfl,rfl⟩,fun b hb=>?_,q⟩
  have e:b=s1.heap.objs.size:=by simpa using hb
  subst e
  exact I1.fpOk (YW _) (I1.hok.fresh (YW _))
 ·cases r1
  obtain ⟨its,rv,p,hz⟩:=I1.tuple hq
  refine wpAny_pyIter_tuple (show s1.heap.IsTuple a its.toArray from p) ?_
  refine ⟨s1.heap.objs.size,[s1.heap.objs.size],_,_,H1,rfl,I1.kept (t':=s1.toks) fun b o e=>YT _ e,zx a _,⟨_,Y6 _ rfl,rfl,rfl⟩,fun b hb=>?_,q⟩
  have e:b=s1.heap.objs.size:=by simpa using hb
  subst e
  exact I1.fpOk (YW _) (I1.hok.fresh (YW _))
 ·obtain ⟨t,rfl⟩:=r1
  have fin:∀ (ty:String) (T:Turn X.prog X.w X.K tg (Yz z) [s1.heap.objs.size] s1.heap.objs.size (fun i h=>h.IsStrIter s1.heap.objs.size ty z t i)) (o:Obj),(s1.heap.push o).IsStrIter s1.heap.objs.size ty z t 0->PIE X pins U tg R (.ref s1.heap.objs.size) {s1 with heap:=s1.heap.push o}:=
   fun ty T o st=>⟨s1.heap.objs.size,[s1.heap.objs.size],_,_,H1,rfl,I1.kept (t':=s1.toks) fun b o e=>YT _ e,T,st,fun b hb=>by
    have e:b=s1.heap.objs.size:=by simpa using hb
    subst e
    exact I1.fpOk (YW _) (I1.hok.fresh (YW _)),q⟩
  cases ha:z.cps.all (· < 128)
  ·exact wpAny_pyIter_wide ha (fin "str_iterator" (yt _ z t _ (by decide) (fun A' hA=>Walks.strWide hA _ z t) fun A i s Q E st h=>wpAny_pyIter_striter_wide st h) _ ⟨_,Y6 _ rfl,rfl,rfl⟩)
  ·exact wpAny_pyIter_ascii ha (fin "str_ascii_iterator" (yt _ z t _ (by decide) (fun A' hA=>Walks.strAscii hA _ z t) fun A i s Q E st h=>wpAny_pyIter_striter_ascii st h) _ ⟨_,Y6 _ rfl,rfl,rfl⟩)
end
section
variable {X:Cx} {K:W.Frag}
theorem Ln (hK:X.K=K):IxR X (UT K):=hK ▸ QV
theorem Rg (hK:X.K=K):OpR X (compareOp .In) (Q8 K):=hK ▸ Q9
theorem Do (hK:X.K=K):OpR X (compareOp .NotIn) (xj K):=hK ▸ Dn
theorem Rh (hK:X.K=K) (hu:X.A.units < cLine):OpR X (compareOp .Eq) (Ra K):=hK ▸ Rb hu
theorem Lp {tg l:Expr} {tl:TE} (hK:X.K=K) (hl:PE X l tl):PI X tg l (Lk K tl):=hK ▸ Rf hl
def Ri (K:W.Frag):List V->Hp->VK->Prop:=fun xs H Q=>∃ x n,xs=[x]/\Vq K x H n/\Q (.int n) H
theorem cH (hK:X.K=K):CallR X (.builtin "len") (Ri K):=hK ▸ Gi
theorem cZ (hK:X.K=K):CallR X (.builtin "isinstance") (Q6 K):=hK ▸ Ha
def Hf (K:W.Frag):List V->Hp->VK->Prop:=fun xs H Q=>(∃ p ys,xs=[.ref p]/\(SqL K H p ys\/SqT K H p ys)/\∀ l,H l=none->Q (.ref l) (upd H l (.lst ys)))\/(∃ x,xs=[.str x]/\x.cps.size<=sizeLine/\∀ p,H p=none->Q (.ref p) (upd H p (.lst (sgn x))))
theorem gQ (hK:X.K=K) (hc:X.calm=true):CallR X (.type "list") (Hf K):=hK ▸ wX.or (yu hc)
def VP (K:W.Frag):List V->Hp->VK->Prop:=fun xs H Q=>(∃ p ys,xs=[.ref p]/\((SqL K H p ys/\∀ l,H l=none->Q (.ref l) (upd H l (.tup ys)))\/(SqT K H p ys/\Q (.ref p) H)))\/(∃ x,xs=[.str x]/\x.cps.size<=sizeLine/\∀ p,H p=none->Q (.ref p) (upd H p (.tup (sgn x))))
theorem rW (hK:X.K=K) (hc:X.calm=true):CallR X (.type "tuple") (VP K):=hK ▸ vA.or (xg hc)
variable {o e:Expr} {es:List Expr} {to:TE} {t:TA} {name:Str} {apos cpos:Pos} {T id:String} {r:V->List V->Hp->VK->Prop}
theorem Rj (hK:X.K=K) (pa:PlainAttrs T) (slot:Slot T name id) (hty:typeOf (.builtin id)=pure (.type "method_descriptor")) (hm:Yw X id r) (ho:PE X o to) (ha:PA X (e :: es) t)
  (hbase:autoParam (attributeBase o name X.env (eval o X.env)=eval o X.env) L2.auto4._auto_1)
  (hfew:((backTo cpos (starEach (e :: es) X.env)).all (fun x=>!x.1) && (backToKw cpos (keywordEach [] X.env)).all (fun x=>x.1.isSome)
   && decide ((e :: es).length+([]:List Keyword).length+(if ([]:List Keyword).isEmpty then 0 else 1) < 30))=true:=by rfl)
  (hline:autoParam ((apos.endLine == cpos.line)=true) L2.auto4._auto_1) (hs:autoParam (starEach (e :: es) X.env=(false,eval e X.env) :: starEach es X.env) L2.auto4._auto_1) (hplain:autoParam ((backTo cpos (starEach es X.env)).any (·.1)=false) L2.auto4._auto_1):
  PE X (.Call (.Attribute o name apos) (e :: es) [] cpos) (Vy K T r to t):=by
 subst hK;exact Vz pa slot hty hm ho ha hbase hfew hline hs hplain
theorem Lq {ts:List Expr} {k:Nat} {gs:zp} {n:Nat} {pos:Pos} (hK:X.K=K) (hc:X.calm=true) (h:UL X ts gs)
  (hn:autoParam ((assignEach ts X.env).length=n) L2.auto4._auto_1) (hst:autoParam ((assignEach ts X.env).findIdx? (·.1)=none) L2.auto4._auto_1):PG X (.Tuple ts k pos) (KY K n gs):=by
 subst hK;exact FQ hc h hn hst
end
section
variable {X:Cx} {sc scope:Scope} {N':List Str} {C:Addr} {s₀:Shared} {H₀:Hp} {ex:List Addr} {x:Str} {pos:Pos}
theorem pvL (i:Nat) (h:sc.names.lookup x=some .local) (hN:autoParam (X.N[i]?=some x) L2.auto4._auto_1) (hsc:autoParam (X.env.scope=sc) L2.auto4._auto_1) (hd:autoParam ((x == ("__debug__":Str))=false) L2.auto6._auto_1) (hcd:autoParam ((x == ("__classdict__":Str))=false) L2.auto6._auto_1):
  PE X (.Name x pos) (sI i):=wN hN (.inl (by rw [hsc];exact h)) hd hcd
theorem pvC (i:Nat) (h:sc.names.lookup x=some .cell) (hN:autoParam (X.N[i]?=some x) L2.auto4._auto_1) (hsc:autoParam (X.env.scope=sc) L2.auto4._auto_1) (hd:autoParam ((x == ("__debug__":Str))=false) L2.auto6._auto_1) (hcd:autoParam ((x == ("__classdict__":Str))=false) L2.auto6._auto_1):
  PE X (.Name x pos) (sI i):=wN hN (.inr (.inl (by rw [hsc];exact h))) hd hcd
theorem pvBL (i:Nat) (h:scope.names.lookup x=some .local) (hN:autoParam (N'[i]?=some x) L2.auto4._auto_1) (hd:autoParam ((x == ("__debug__":Str))=false) L2.auto6._auto_1) (hcd:autoParam ((x == ("__classdict__":Str))=false) L2.auto6._auto_1):
  PE (oK X N' scope C s₀ H₀ ex) (.Name x pos) (sI i):=wN hN (.inl (lookup_relabel_local h)) hd hcd
theorem pvBF (i:Nat) (h:scope.names.lookup x=some .free) (hN:autoParam (N'[i]?=some x) L2.auto4._auto_1) (hd:autoParam ((x == ("__debug__":Str))=false) L2.auto6._auto_1) (hcd:autoParam ((x == ("__classdict__":Str))=false) L2.auto6._auto_1):
  PE (oK X N' scope C s₀ H₀ ex) (.Name x pos) (sI i):=wN hN (by
   rcases ql (env:=X.env) h with z | z
   ·exact .inr (.inl z)
   ·exact .inr (.inr z)) hd hcd
theorem bC (h:sc.names.lookup x=some .globalImplicit) (hsc:autoParam (X.env.scope=sc) L2.auto4._auto_1):Gl X x:=by
 show X.env.scope.names.lookup x=_
 rw [hsc];exact h
theorem jb {env:Env}:∀ {names:List (Str×NameKind)} {x:Str},names.lookup x=some .globalImplicit->
  (names.map fun (n,k)=>if (k == NameKind.free && env.scope.kind == .function && env.kindOf n == some .cell) then (n,NameKind.cell) else (n,k)).lookup x=some .globalImplicit
 | [],_,h=>by simp at h
 | (n,k) :: r,x,h=>by
  have ih:=@jb env r x
  show List.lookup x ((if (k == NameKind.free && env.scope.kind == .function && env.kindOf n == some .cell)=true then (n,NameKind.cell) else (n,k)) :: _)=_
  cases hx:x == n with
  | true=>
   simp only [Zo,hx] at h
   cases h
   simp [Zo,hx]
  | false=>
   simp only [Zo,hx] at h
   by_cases hc:(k == NameKind.free && env.scope.kind == .function && env.kindOf n == some .cell)=true
   ·rw [if_pos hc];simp only [Zo,hx];exact ih h
   ·rw [if_neg hc];simp only [Zo,hx];exact ih h
theorem OD (h:scope.names.lookup x=some .globalImplicit):Gl (oK X N' scope C s₀ H₀ ex) x:=jb h
theorem pgB (i:Nat) (h:scope.names.lookup x=some .local) (hN:N'.Nodup) (hi:autoParam (N'[i]?=some x) L2.auto4._auto_1):PG (oK X N' scope C s₀ H₀ ex) (.Name x pos) (mX i):=
 Bd hN hi (.inl (lookup_relabel_local h)) (.inr (lookup_relabel_local h))
end
def jD:Expr->Bool
 | .ListComp ..=>false | .SetComp ..=>false | .DictComp ..=>false | _=>true
theorem yx {value:Expr} {target:Option Expr} {line:Nat} {env:Env} (h:jD value=true):swapsWith value target line env=pure false:=by
 cases value <;> first | rfl | cases h
def m7:Expr->Bool
 | .Slice ..=>false | _=>true
theorem pix {b:Expr} (h:m7 b=true):Bm b:=by
 intro o i
 cases b <;> first | rfl | cases h
def q9:Expr->Bool
 | .Set ..=>false | _=>true
theorem Hg {e:Expr} {env:Env} (h:q9 e=true):∀ x,foldedSetIterable e env x=pure x:=by
 intro x
 cases e <;> first | rfl | cases h
def notStar:Expr->Bool
 | .Starred ..=>false | _=>true
theorem fP {e:Expr} {es:List Expr} {env:Env} (h:notStar e=true):starEach (e :: es) env=(false,eval e env) :: starEach es env:=by
 cases e <;> first | rfl | cases h
theorem pN {env:Env} {pos:Pos}:∀ {es:List Expr},es.all notStar=true->(backTo pos (starEach es env)).any (·.1)=false
 | [],_=>rfl
 | e :: es,h=>by
  simp only [Z7,Zm] at h
  rw [fP h.1]
  show (false || (backTo pos (starEach es env)).any (·.1))=false
  rw [pN h.2];rfl
theorem Hh {env:Env} {pos:Pos}:∀ {es:List Expr},es.all notStar=true->(backTo pos (starEach es env)).all (fun x=>!x.1)=true
 | [],_=>rfl
 | e :: es,h=>by
  simp only [Z7,Zm] at h
  rw [fP h.1]
  show (true && (backTo pos (starEach es env)).all (fun x=>!x.1))=true
  rw [Hh h.2];rfl
section
variable {X:Cx} {K:W.Frag} {e:Expr} {es:List Expr} {te:TE} {t:TA} {pos p:Pos}
theorem paC (ha:PE X e te) (hr:PA X es t) (h:autoParam (notStar e=true) L2.auto4._auto_1):PA X (e :: es) (Bj te t):=K7 ha hr (fP h)
theorem VR {k:Nat} {x:Str} {ps:List Str} {sp:Sp} (F:mU X.prog X.w X.K X.mg X.base k x ps sp) (hr:Room k X.A) (hg:Gl X x) (ha:PA X (e :: es) t) (hdb:(x == ("__debug__":Str))=false) (h:autoParam ((e :: es).all notStar=true) L2.auto4._auto_1):
  PE X (.Call (.Name x p) (e :: es) [] pos) (v5 sp [] E0 t):=by
 simp only [Z7,Zm] at h
 exact Hb F hr hg ha hdb (fP h.1) (pN h.2)
theorem VV {x:Str} {id:String} {r:List V->Hp->VK->Prop} (hc:CallR X (.builtin id) r) (hg:Gl X x) (hm:X.mg x=none) (hv:bootBuiltins x=some (.builtin id)) (ha:PA X (e :: es) t) (hn:x≠"__name__") (hdb:(x == ("__debug__":Str))=false) (h:autoParam ((e :: es).all notStar=true) L2.auto4._auto_1):
  PE X (.Call (.Name x p) (e :: es) [] pos) (QL r t):=by
 simp only [Z7,Zm] at h
 exact Gj hc hg hm hv ha hn hdb (fP h.1) (pN h.2)
theorem Rk {x:Str} {T:String} {r:List V->Hp->VK->Prop} (hc:CallR X (.type T) r) (hg:Gl X x) (hm:X.mg x=none) (hv:bootBuiltins x=some (.type T)) (ha:PA X (e :: es) t) (hn:x≠"__name__") (hdb:(x == ("__debug__":Str))=false) (h:autoParam ((e :: es).all notStar=true) L2.auto4._auto_1):
  PE X (.Call (.Name x p) (e :: es) [] pos) (QL r t):=by
 simp only [Z7,Zm] at h
 exact Dd hc hg hm hv ha hn hdb (fP h.1) (pN h.2)
def nR:Expr->Bool
 | .Call ..=>false | _=>true
theorem Hi {o:Expr} {f:Str} {env:Env} {w:Sem Value} (h:nR o=true):attributeBase o f env w=w:=by
 cases o <;> first | rfl | cases h
theorem V0 {o:Expr} {to:TE} {name:Str} {apos cpos:Pos} {T id:String} {r:V->List V->Hp->VK->Prop} (hK:X.K=K) (pa:PlainAttrs T) (slot:Slot T name id) (hty:typeOf (.builtin id)=pure (.type "method_descriptor")) (hm:Yw X id r) (ho:PE X o to) (ha:PA X (e :: es) t)
  (hbase:autoParam (nR o=true) L2.auto4._auto_1) (hl:autoParam (es.length < 20) L2.auto2._auto_1) (hline:autoParam ((apos.endLine == cpos.line)=true) L2.auto4._auto_1) (h:autoParam ((e :: es).all notStar=true) L2.auto4._auto_1):
  PE X (.Call (.Attribute o name apos) (e :: es) [] cpos) (Vy K T r to t):=by
 have hA:=Hh (env:=X.env) (pos:=cpos) h
 simp only [Z7,Zm] at h
 refine Rj hK pa slot hty hm ho ha (Hi hbase) ?_ hline (fP h.1) (pN h.2)
 rw [hA]
 have:(e :: es).length+([]:List Keyword).length+(if ([]:List Keyword).isEmpty then 0 else 1) < 30:=by simp;omega
 rw [YZ this];rfl
theorem V1 {i:Nat} {x:Str} {pos':Pos} (hN:X.N.Nodup) (hi:X.N[i]?=some x) (hx:Loc X.env.scope x) (he:PE X e te) (hf:X.fn x=true) (h:autoParam (jD e=true) L2.auto4._auto_1):PS X (.Assign [.Name x pos'] e pos) (wO te (mX i)):=
 FW hN hi hx he (yx h) (.inl hf)
theorem Rm (he:PE X e te) (h:autoParam (jD e=true) L2.auto4._auto_1):PS X (.Expr e pos) (Bc te):=KN he (yx h)
theorem ixE {a b:Expr} {ta tb:TE} (hK:X.K=K) (ha:PE X a ta) (hb:PE X b tb) (h:autoParam (m7 b=true) L2.auto4._auto_1):PE X (.Subscript a b pos) (Kq (UT K) ta tb):=Vt (Ln hK) ha hb (pix h)
theorem V7 {tg iter:Expr} {body:List Stmt} {wi:TI} {g:TG} {tb:TS} (hp:PassesOwn (model X.prog X.w) X.A X.env X.xe) (hc:X.calm=true) (hi:PI X tg iter wi) (hg:PG X tg g) (hb:PSs X body tb) (h:autoParam (q9 iter=true) L2.auto4._auto_1):PS X (.For tg iter body [] pos) (K1 wi g tb):=
 Qw hp hc hi hg hb (Hg h)
end
section
variable {X:Cx} {tg iter elt:Expr} {ifs:List Expr} {scope:Scope} {pos:Pos} {N':List Str} {sub:List (Option Nat)} {wi:TI} {g:TG} {tt:TT} {te:TE} {N:List Str} {sc:Scope}
theorem V9 (S:rQ N sc N' scope sub) (hc:X.calm=true) (hN:X.N=N) (hsc:X.env.scope=sc) (hi:PI X tg iter wi)
  (hg:∀ (C:Addr) (s₀:Shared) (H₀:Hp) (ex:List Addr),PG (oK X N' scope C s₀ H₀ ex) tg g)
  (ht:∀ (C:Addr) (s₀:Shared) (H₀:Hp) (ex:List Addr),wY (oK X N' scope C s₀ H₀ ex) ifs tt)
  (he:∀ (C:Addr) (s₀:Shared) (H₀:Hp) (ex:List Addr),PE (oK X N' scope C s₀ H₀ ex) elt te) (h:autoParam (q9 iter=true) L2.auto4._auto_1):
  PE X (.ListComp elt [⟨tg,iter,ifs,0⟩] scope pos) (ut sub wi g tt te):=Bq S hc hN hsc hi hg ht he (Hg h)
end
theorem fV:bootBuiltins "len"=some (.builtin "len"):=by trivial
theorem xm:bootBuiltins "max"=some (.builtin "max"):=by trivial
theorem aW:bootBuiltins "isinstance"=some (.builtin "isinstance"):=by trivial
theorem uy:bootBuiltins "all"=some (.builtin "all"):=by trivial
theorem gR:bootBuiltins "sorted"=some (.builtin "sorted"):=by trivial
theorem jd:bootBuiltins "list"=some (.type "list"):=by trivial
theorem lH:bootBuiltins "tuple"=some (.type "tuple"):=by trivial
theorem Hj:bootBuiltins "int"=some (.type "int"):=by trivial
theorem xn:bootBuiltins "enumerate"=some (.type "enumerate"):=by trivial
theorem xq:bootBuiltins "bool"=some (.type "bool"):=by trivial
theorem fQ {c A B:Prop} [Decidable c] (h1:c->A) (h2:¬ c->B):if decide c=true then A else B:=by
 by_cases h:c
 ·rw [if_pos (YZ h)];exact h1 h
 ·rw [if_neg (by rw [Y5 h];exact Y4)];exact h2 h
section
variable {U:St} {H:Hp} {D:Ends} {ta tb te tc:TE} {tt tu:TT} {Q:VK} {t u:TS} {g:TG}
theorem wA (h:t {D with nx:=u D} U H):KD t u D U H:=h
theorem jR (h:D.nx U H):Fy D U H:=h
theorem oU (h:te U H fun x H1=>g x U H1 D.nx):wO te g D U H:=h
theorem jT {i:Nat} {v:V} {R:St->Hp->Prop} (h:R (U.set i (some v)) H):mX i v U H R:=h
theorem oV {to ti:TE} {ts:zu} {v:V} {R:St->Hp->Prop} (h:to U H fun o H1=>ti U H1 fun i H2=>ts o i v H2 fun H3=>R U H3):Qu to ti ts v U H R:=h
theorem oW (h:te U H D.rt):Qq te D U H:=h
theorem jU (h:te U H fun _ H1=>D.nx U H1):Bc te D U H:=h
theorem vC (h:tt U H fun b H1=>if b=true then t D U H1 else u D U H1):FJ tt t u D U H:=h
theorem jV {R:Bool->Hp->Prop} (h:te U H fun x H1=>∃ k,x= .bl k/\R k H1):v4 te U H R:=h
theorem vD {R:Bool->Hp->Prop} (h:te U H fun x H1=>∃ k,x= .bl k/\R k H1):tB te U H R:=h
theorem oX {R:Bool->Hp->Prop} (h:tt U H fun c H1=>R (!c) H1):Qi tt U H R:=h
theorem oY {R:Bool->Hp->Prop} (h:tt U H fun c H1=>if c=true then tu U H1 R else R false H1):Qh tt tu U H R:=h
theorem vG {R:Bool->Hp->Prop} (h:tt U H fun c H1=>if c=true then R true H1 else tu U H1 R):tOr tt tu U H R:=h
theorem jW (h:ta U H fun x H1=>∃ c,x= .bl c/\if c=true then tb U H1 Q else Q (.bl false) H1):Fw ta tb U H Q:=h
theorem oZ (h:ta U H fun x H1=>∃ c,x= .bl c/\if c=true then Q (.bl true) H1 else tb U H1 Q):Qm ta tb U H Q:=h
theorem jX (h:ta U H fun x H1=>∃ c,x= .bl c/\Q (.bl (!c)) H1):Fx ta U H Q:=h
theorem o4 {i:Nat} {v:V} (e:U[i]?=some (some v)) (h:Q v H):sI i U H Q:=⟨v,e,h⟩
theorem Ks {v:V} (h:Q v H):tC v U H Q:=h
theorem vH {r:R2} (h:ta U H fun x H1=>tb U H1 fun y H2=>r x y H2 Q):Kq r ta tb U H Q:=h
theorem vI {r:V->Hp->VK->Prop} (h:ta U H fun x H1=>r x H1 Q):tUn r ta U H Q:=h
theorem vJ {r:List V->Hp->VK->Prop} {a:TA} (h:a U H fun vs H1=>r vs H1 Q):QL r a U H Q:=h
theorem jY {a:TA} {R:List V->Hp->Prop} (h:te U H fun x H1=>a U H1 fun xs H2=>R (x :: xs) H2):Bj te a U H R:=h
theorem o5 {R:List V->Hp->Prop} (h:R [] H):QC U H R:=h
theorem jZ {sp:Sp} {E:XK} {a:TA} (h:a U H fun vs H1=>sp vs H1 Q E):v5 sp [] E a U H Q:=by
 unfold v5
 simpa only [Zt] using h
theorem vK {K:W.Frag} {T:String} {r:V->List V->Hp->VK->Prop} {a:TA} (h:te U H fun x H1=>tyV K T x H1/\a U H1 fun xs H2=>r x xs H2 Q):Vy K T r te a U H Q:=h
theorem vL {r:V->Option Int->Option Int->Hp->VK->Prop} {tl th:TO} (h:te U H fun x H1=>tl U H1 fun l H2=>th U H2 fun u H3=>r x l u H3 Q):tSl r te tl th U H Q:=h
theorem o6 {R:Option Int->Hp->Prop} (h:R none H):wQ U H R:=h
theorem j0 {R:Option Int->Hp->Prop} (h:te U H fun x H1=>∃ i,x= .int i/\R (some i) H1):Gn te U H R:=h
theorem j4 {R:Bool->Hp->Prop} (h:R true H):Gy U H R:=h
theorem j5 {a:TA} {R:It->Hp->Prop} (h:a U H fun vs H1=>∃ j:Int,vs=[.int j]/\-(2 ^ 62)<=j/\j < 2 ^ 62/\R (KZ 0 j.toNat) H1):Ga a U H R:=h
theorem j6 {K:W.Frag} {R:It->Hp->Prop} (h:te U H fun x H1=>(∃ a,x= .ref a/\(∃ xs,SqL K H1 a xs)/\R (Ot K a) H1)\/(∃ a,x= .ref a/\(∃ xs,SqT K H1 a xs)/\R (Vi K a) H1)\/(∃ z,x= .str z/\R (Yz z) H1)):Lk K te U H R:=h
theorem j7 {sub:List (Option Nat)} {wi:TI} (h:wi U H fun J H1=>oR sub g tt te U Q J H1):ut sub wi g tt te U H Q:=h
theorem o7 {wi:TI} {tbd:TS} (h:wi U H fun J H1=>∃ W:Nat->Nat->St->Hp->Prop,(∃ m,W 0 m U H1)/\∀ i m U H,W i m U H->
 (J.stop i H/\D.nx U H)\/(J.go i H/\∃ N:St->Hp->Prop,(∀ U' H',N U' H'->∃ m',m' < m/\W (i+1) m' U' H')/\∀ x H',J.yld i H x H'->g x U H' fun σ2 H2=>tbd {D with nx:=N,ct:=N,bk:=D.nx} σ2 H2)):K1 wi g tbd D U H:=h
variable {i j:Int} {x y:Str} {f:Int->Int->V} {C:Int->Int->Prop} {K:W.Frag}
theorem vM (h:Q (f i j) H):Gb f (.int i) (.int j) H Q:=⟨_,_,rfl,rfl,h⟩
theorem Ku (c:C i j) (h:Q (f i j) H):rI C f (.int i) (.int j) H Q:=⟨_,_,rfl,rfl,c,h⟩
theorem jk (h:Q (.int (i+j)) H):Bs (.int i) (.int j) H Q:=.inl ⟨_,_,rfl,rfl,h⟩
theorem uz {a b:Addr} {xs ys:List V} (ha:H a=some (.lst xs)) (hb:H b=some (.lst ys)) (c:xs.length+ys.length<=sizeLine) (h:∀ p,H p=none->Q (.ref p) (upd H p (.lst (xs ++ ys)))):Bs (.ref a) (.ref b) H Q:=
 .inr (.inr ⟨a,b,xs,ys,rfl,rfl,ha,hb,c,h⟩)
theorem j8 (c:CMul i j) (h:Q (.int (i*j)) H):Hc (.int i) (.int j) H Q:=.inl ⟨_,_,rfl,rfl,c,h⟩
theorem bW {p:Addr} {xs:List V} {v:V} (s:SqL K H p xs) (e:zq xs i=some v) (h:Q v H):UT K (.ref p) (.int i) H Q:=.inl ⟨p,xs,i,v,rfl,rfl,s,e,h⟩
theorem lJ {p:Addr} {xs:List V} {v:V} (s:SqT K H p xs) (e:zq xs i=some v) (h:Q v H):UT K (.ref p) (.int i) H Q:=.inr (.inl ⟨p,xs,i,v,rfl,rfl,s,e,h⟩)
theorem jl {p:Addr} {xs:List V} {n:Nat} {v:V} {R:Hp->Prop} (hp:H p=some (.lst xs)) (e:zJ xs.length i=some n) (h:R (upd H p (.lst (xs.set n v)))):Gq (.ref p) (.int i) v H R:=⟨p,xs,i,n,rfl,rfl,hp,e,h⟩
theorem vN {b:Bool} {R:Bool->Prop} (h:R b):∃ k,V.bl b= .bl k/\R k:=⟨b,rfl,h⟩
theorem j9 {n:Int} {R:Int->Prop} (h:R n):∃ k,V.int n= .int k/\R k:=⟨n,rfl,h⟩
end
theorem Same.upd {H H':Hp} {p:Addr} {o:HO} (s:Same H H') (hn:H' p=none):Same H (upd H' p o):=fun b u e=>by
 have q:=s b u e
 rw [aC (fun z=>by rw [z,hn] at q;cases q)]
 exact q
section
variable {H:Hp} {Q:VK} {K:W.Frag}
theorem kh {p:Addr} {xs:List V} (s:SqL K H p xs) (h:Q (.int xs.length) H):Ri K [V.ref p] H Q:=⟨_,_,rfl,.inl ⟨_,s,rfl⟩,h⟩
theorem pO {p:Addr} {xs:List V} (s:SqT K H p xs) (h:Q (.int xs.length) H):Ri K [V.ref p] H Q:=⟨_,_,rfl,.inr ⟨_,s,rfl⟩,h⟩
theorem dH {x:V} {T:String} {t:Value} {b:Bool} (ty:TyOf K H x t) (e:PySem.W.kitOne K t (.type T)=some b) (h:Q (.bl b) H):Q6 K [x,.ty T] H Q:=⟨x,T,t,b,rfl,ty,e,h⟩
theorem OJ {p:Addr} {xs:List V} {lo hi:Option Int} (s:SqL K H p xs) (h:∀ q,H q=none->Q (.ref q) (upd H q (.lst (dI xs lo hi)))):rSl K (.ref p) lo hi H Q:=.inl ⟨p,xs,rfl,s,h⟩
end
section
variable {U:St} {H:Hp} {Q:VK}
theorem tD {K:W.Frag} {a:Addr} {xs:List V} (s:SqL K H a xs) (h:∀ p,H p=none->Q (.ref p) (upd H p (.lst xs))):Hf K [.ref a] H Q:=.inl ⟨a,xs,rfl,.inl s,h⟩
end
theorem TyOf.mono {K:W.Frag} {H H':Hp} {v:V} {T:String} (h:TyOf K H v (.type T)) (s:∀ b o,H b=some o->v= .ref b->H' b=some o):TyOf K H' v (.type T):=by
 generalize e:(Value.type T)=t at h
 cases h with
 | non=>exact .non
 | bl x=>exact .bl x
 | int i=>exact .int i
 | str x=>exact .str x
 | flt x=>exact .flt x
 | lst z=>exact .lst (s _ _ z rfl)
 | frz z=>exact .frz (s _ _ z rfl)
 | tup z=>exact .tup (s _ _ z rfl)
 | dK z=>exact .dK (s _ _ z rfl)
 | dT z=>exact .dT (s _ _ z rfl)
 | ins=>cases e
theorem Hk {sub:List (Option Nat)} {g:TG} {tt:TT} {te:TE} {U:St} {Q:VK} {H:Hp} {lo:Int} {n:Nat} (Pv:Nat->List V->Hp->Prop) (hn:n<=sizeLine) (h0:Pv 0 [] H) (hl:∀ i ys H,Pv i ys H->ys.length<=i)
  (hs:∀ i ys H,i < n->Pv i ys H->g (.int (lo+i)) (cU sub U) H fun σ2 H2=>KeepSt (cU sub U) σ2/\tt σ2 H2 fun b H3=>if b=true then te σ2 H3 fun y H4=>Pv (i+1) (ys ++ [y]) H4 else Pv (i+1) ys H3)
  (hd:∀ ys H,Pv n ys H->∀ D,H D=none->Q (.ref D) (upd H D (.lst ys))):oR sub g tt te U Q (KZ lo n) H:=
 qm (n:=n) Pv hn h0 hl (fun i ys H hi _=>hi) (fun ys H _=>YW _) (fun i ys H x H' hi p y=>by
  obtain ⟨e1,e2⟩:=y
  subst e1 e2
  exact hs i ys _ hi p) hd
theorem Dp {sub:List (Option Nat)} {g:TG} {tt:TT} {te:TE} {U:St} {Q:VK} {H:Hp} {K:W.Frag} {a:Addr} {xs:List V} (Pv:Nat->List V->Hp->Prop) (hn:xs.length<=sizeLine) (h0:Pv 0 [] H) (hl:∀ i ys H,Pv i ys H->ys.length<=i)
  (hq:∀ i ys H,Pv i ys H->SqL K H a xs)
  (hs:∀ i ys H x,xs[i]?=some x->Pv i ys H->g x (cU sub U) H fun σ2 H2=>KeepSt (cU sub U) σ2/\tt σ2 H2 fun b H3=>if b=true then te σ2 H3 fun y H4=>Pv (i+1) (ys ++ [y]) H4 else Pv (i+1) ys H3)
  (hd:∀ ys H,Pv xs.length ys H->∀ D,H D=none->Q (.ref D) (upd H D (.lst ys))):oR sub g tt te U Q (Ot K a) H:=
 qm (n:=xs.length) Pv hn h0 hl (fun i ys H hi p=>⟨xs,xs[i],hq i ys H p,YL hi⟩) (fun ys H p=>⟨xs,hq _ ys H p,YW _⟩) (fun i ys H x H' hi p y=>by
  obtain ⟨e1,e2⟩:=y
  subst e1
  exact hs i ys _ x (e2 xs (hq i ys _ p)) p) hd
structure JE (X:Cx) (e:Expr) (t:TE):Prop where
 run:PE X e t
structure JT (X:Cx) (e:Expr) (t:TT):Prop where
 run:PT X e t
structure JW (X:Cx) (e:Expr) (t:TT):Prop where
 run:PW X e t
structure JA (X:Cx) (es:List Expr) (t:TA):Prop where
 run:PA X es t
structure JS (X:Cx) (s:Stmt) (t:TS):Prop where
 run:PS X s t
structure JB (X:Cx) (s:List Stmt) (t:TS):Prop where
 run:PSs X s t
structure JI (X:Cx) (tg iter:Expr) (t:TI):Prop where
 run:PI X tg iter t
structure JG (X:Cx) (tg:Expr) (t:TG):Prop where
 run:PG X tg t
structure Wa (X:Cx) (tg:List Expr) (t:zp):Prop where
 run:UL X tg t
structure JO (X:Cx) (e:Option Expr) (t:TO):Prop where
 run:PO X e t
structure Lr (X:Cx) (ifs:List Expr) (t:TT):Prop where
 run:wY X ifs t
section
variable {X:Cx} {K:W.Frag} {sc scope:Scope} {N':List Str} {C:Addr} {s₀:Shared} {H₀:Hp} {ex:List Addr} {x:Str} {pos p p2 pos' apos cpos tpos:Pos} {a b c e o:Expr} {es:List Expr} {ta tb tc te to ti:TE} {t:TA} {tA tB' tt:TT} {rest:List Expr}
theorem aj (i:Nat) (h:sc.names.lookup x=some .local) (hN:autoParam (X.N[i]?=some x) L2.auto4._auto_1) (hsc:autoParam (X.env.scope=sc) L2.auto4._auto_1) (hd:autoParam ((x == ("__debug__":Str))=false) L2.auto6._auto_1) (hcd:autoParam ((x == ("__classdict__":Str))=false) L2.auto6._auto_1):JE X (.Name x pos) (sI i):=⟨pvL i h hN hsc hd hcd⟩
theorem lK (i:Nat) (h:sc.names.lookup x=some .cell) (hN:autoParam (X.N[i]?=some x) L2.auto4._auto_1) (hsc:autoParam (X.env.scope=sc) L2.auto4._auto_1) (hd:autoParam ((x == ("__debug__":Str))=false) L2.auto6._auto_1) (hcd:autoParam ((x == ("__classdict__":Str))=false) L2.auto6._auto_1):JE X (.Name x pos) (sI i):=⟨pvC i h hN hsc hd hcd⟩
theorem dN (i:Nat) (h:scope.names.lookup x=some .local) (hN:autoParam (N'[i]?=some x) L2.auto4._auto_1) (hd:autoParam ((x == ("__debug__":Str))=false) L2.auto6._auto_1) (hcd:autoParam ((x == ("__classdict__":Str))=false) L2.auto6._auto_1):JE (oK X N' scope C s₀ H₀ ex) (.Name x pos) (sI i):=⟨pvBL i h hN hd hcd⟩
theorem o8 (i:Nat) (h:scope.names.lookup x=some .free) (hN:autoParam (N'[i]?=some x) L2.auto4._auto_1) (hd:autoParam ((x == ("__debug__":Str))=false) L2.auto6._auto_1) (hcd:autoParam ((x == ("__classdict__":Str))=false) L2.auto6._auto_1):JE (oK X N' scope C s₀ H₀ ex) (.Name x pos) (sI i):=⟨pvBF i h hN hd hcd⟩
theorem aq {i j}:JE X (.Constant (.int i) j pos) (tC (.int i)):=⟨Qd⟩
theorem iR {i j}:JE X (.Constant (.bool i) j pos) (tC (.bl i)):=⟨Ve⟩
theorem mR {j}:JE X (.Constant .none j pos) (tC .non):=⟨Qe⟩
theorem jc {i j}:JE X (.Constant (.str i) j pos) (tC (.str i)):=⟨Qf⟩
theorem Hl {z:Int} (hg:Gl X x) (hm:∃ t,X.mg x=some (.int z t)) (hd:(x == ("__debug__":Str))=false):JE X (.Name x pos) (tC (.int z)):=⟨Hd hg hm hd⟩
theorem qu {T:String} (hg:Gl X x) (hm:X.mg x=none) (hv:bootBuiltins x=some (.type T)) (hn:x≠"__name__") (hd:(x == ("__debug__":Str))=false):JE X (.Name x pos) (tC (.ty T)):=⟨VN hg hm hv hn hd⟩
theorem aZ {op:Operator} {r:R2} (ho:OpR X (binaryOp op) r) (ha:JE X a ta) (hb:JE X b tb):JE X (.BinOp a op b pos) (Kq r ta tb):=⟨Vj ho ha.run hb.run⟩
theorem Hm {op:UnaryOp} {r:V->Hp->VK->Prop} (ho:Yu X (unaryOp op) r) (ha:JE X a ta):JE X (.UnaryOp op a pos) (tUn r ta):=⟨Vk ho ha.run⟩
theorem rY {op:CmpOp} {r:R2} (ho:OpR X (compareOp op) r) (ha:JE X a ta) (hb:JE X b tb) (hm:behindInMarks op b=false):JE X (.Compare a [op] [b] pos) (Kq r ta tb):=⟨K4 ho ha.run hb.run hm⟩
theorem aM {op:CmpOp} {r:R2} (ho:OpR X (compareOp op) r) (ha:JE X a ta) (hb:JE X b tb) (hm:behindInMarks op b=false):JT X (.Compare a [op] [b] pos) (v4 (Kq r ta tb)):=⟨K5 ho ha.run hb.run hm⟩
theorem xr (ha:JT X a tA):JW X (.BoolOp .And [a] pos) tA:=⟨KC ha.run⟩
theorem iT (ha:JT X a tA):JW X (.BoolOp .Or [a] pos) tA:=⟨Qj ha.run⟩
theorem zU (ha:JT X a tA) (hb:JW X (.BoolOp .And (b :: rest) pos) tB'):JW X (.BoolOp .And (a :: b :: rest) pos) (Qh tA tB'):=⟨Qk ha.run hb.run⟩
theorem lN (ha:JT X a tA) (hb:JW X (.BoolOp .Or (b :: rest) pos) tB'):JW X (.BoolOp .Or (a :: b :: rest) pos) (tOr tA tB'):=⟨Vf ha.run hb.run⟩
theorem jm (h:JW X e tt):JT X e tt:=⟨h.run.pt⟩
theorem dD (ha:JT X a tA):JT X (.UnaryOp .Not a pos) (Qi tA):=⟨Ql ha.run⟩
def plainT:Expr->Bool
 | .BoolOp ..=>false | .UnaryOp ..=>false | .Compare ..=>false | .IfExp ..=>false | _=>true
theorem dJ (h:JE X e te) (hp:autoParam (plainT e=true) L2.auto4._auto_1):JT X e (tB te):=⟨Qg h.run (by
 intro whole
 cases e <;> first | rfl | cases hp)⟩
theorem jE {op} (h:JE X a te):JE X (.BoolOp op [a] pos) te:=⟨Qn h.run⟩
theorem iK (ha:JE X a ta) (hb:JE X (.BoolOp .And (b :: rest) pos) tb):JE X (.BoolOp .And (a :: b :: rest) pos) (Fw ta tb):=⟨Qo ha.run hb.run⟩
theorem j_or (ha:JE X a ta) (hb:JE X (.BoolOp .Or (b :: rest) pos) tb):JE X (.BoolOp .Or (a :: b :: rest) pos) (Qm ta tb):=⟨Vg ha.run hb.run⟩
theorem Hn (ha:JE X a ta):JE X (.UnaryOp .Not a pos) (Fx ta):=⟨Qp ha.run⟩
theorem bR {x1} (h:JA X es t):JE X (.Tuple es x1 pos) (QF t):=⟨QH h.run⟩
theorem cX (h:JA X es t):JE X (.List es pos) (QG t):=⟨QJ h.run⟩
theorem ak:JA X [] QC:=⟨QD⟩
theorem aa (ha:JE X e te) (hr:JA X es t) (h:autoParam (notStar e=true) L2.auto4._auto_1):JA X (e :: es) (Bj te t):=⟨paC ha.run hr.run h⟩
theorem bH:JO X none wQ:=⟨K9⟩
theorem bh (h:JE X e te):JO X (some e) (Gn te):=⟨La h.run⟩
theorem bz {r:V->Option Int->Option Int->Hp->VK->Prop} {lo hi:Option Expr} {tl th:TO} (hr:SlR X r) (he:JE X e te) (hl:JO X lo tl) (hu:JO X hi th):JE X (.Subscript e (.Slice lo hi none p2) pos) (tSl r te tl th):=⟨Gp hr he.run hl.run hu.run⟩
theorem aX (hK:X.K=K) (ha:JE X a ta) (hb:JE X b tb) (h:autoParam (m7 b=true) L2.auto4._auto_1):JE X (.Subscript a b pos) (Kq (UT K) ta tb):=⟨ixE hK ha.run hb.run h⟩
theorem aK {k:Nat} {ps:List Str} {sp:Sp} (F:mU X.prog X.w X.K X.mg X.base k x ps sp) (hr:Room k X.A) (hg:Gl X x) (ha:JA X (e :: es) t) (hdb:(x == ("__debug__":Str))=false) (h:autoParam ((e :: es).all notStar=true) L2.auto4._auto_1):
  JE X (.Call (.Name x p) (e :: es) [] pos) (v5 sp [] E0 t):=⟨VR F hr hg ha.run hdb h⟩
theorem aL {id:String} {r:List V->Hp->VK->Prop} (hc:CallR X (.builtin id) r) (hg:Gl X x) (hm:X.mg x=none) (hv:bootBuiltins x=some (.builtin id)) (ha:JA X (e :: es) t) (hn:x≠"__name__") (hdb:(x == ("__debug__":Str))=false) (h:autoParam ((e :: es).all notStar=true) L2.auto4._auto_1):
  JE X (.Call (.Name x p) (e :: es) [] pos) (QL r t):=⟨VV hc hg hm hv ha.run hn hdb h⟩
theorem iM {T:String} {r:List V->Hp->VK->Prop} (hc:CallR X (.type T) r) (hg:Gl X x) (hm:X.mg x=none) (hv:bootBuiltins x=some (.type T)) (ha:JA X (e :: es) t) (hn:x≠"__name__") (hdb:(x == ("__debug__":Str))=false) (h:autoParam ((e :: es).all notStar=true) L2.auto4._auto_1):
  JE X (.Call (.Name x p) (e :: es) [] pos) (QL r t):=⟨Rk hc hg hm hv ha.run hn hdb h⟩
theorem pP {name:Str} {T id:String} {r:V->List V->Hp->VK->Prop} (hK:X.K=K) (pa:PlainAttrs T) (slot:Slot T name id) (hty:typeOf (.builtin id)=pure (.type "method_descriptor")) (hm:Yw X id r) (ho:JE X o to) (ha:JA X (e :: es) t)
  (hbase:autoParam (nR o=true) L2.auto4._auto_1) (hl:autoParam (es.length < 20) L2.auto2._auto_1) (hline:autoParam ((apos.endLine == cpos.line)=true) L2.auto4._auto_1) (h:autoParam ((e :: es).all notStar=true) L2.auto4._auto_1):JE X (.Call (.Attribute o name apos) (e :: es) [] cpos) (Vy K T r to t):=⟨V0 hK pa slot hty hm ho.run ha.run hbase hl hline h⟩
theorem jF:Lr X [] Gy:=⟨Gz⟩
theorem tE (hc:JT X c tt):Lr X [c] tt:=⟨GD hc.run⟩
variable {tg iter elt:Expr} {ifs:List Expr} {sub:List (Option Nat)} {wi:TI} {g:TG} {N:List Str}
theorem gU {ta:TA} (hg:Gl X "range") (hm:X.mg "range"=none) (ha:JA X [a] ta) (h:autoParam (notStar a=true) L2.auto4._auto_1):JI X tg (.Call (.Name "range" p) [a] [] pos) (Ga ta):=⟨CN hg hm ha.run (fP h)⟩
theorem fW (hK:X.K=K) (hl:JE X e te):JI X tg e (Lk K te):=⟨Lp hK hl.run⟩
theorem aO {i:Nat} (hN:X.N.Nodup) (hi:X.N[i]?=some x) (hx:Loc X.env.scope x) (hf:X.fn x=true):JG X (.Name x pos) (mX i):=⟨Bd hN hi hx (.inl hf)⟩
theorem rm (i:Nat) (h:scope.names.lookup x=some .local) (hN:N'.Nodup) (hi:autoParam (N'[i]?=some x) L2.auto4._auto_1):JG (oK X N' scope C s₀ H₀ ex) (.Name x pos) (mX i):=⟨pgB i h hN hi⟩
theorem gF:Wa X [] Qt:=⟨KR⟩
theorem aU {gs:zp} (h1:JG X e g) (h2:Wa X es gs) (hs:autoParam ((assignEach (e :: es) X.env).map (·.2)=assign e X.env :: (assignEach es X.env).map (·.2)) L2.auto4._auto_1):Wa X (e :: es) (FN g gs):=⟨FP h1.run h2.run hs⟩
theorem zV {ts:List Expr} {k:Nat} {gs:zp} {n:Nat} (hK:X.K=K) (hc:X.calm=true) (h:Wa X ts gs) (hn:autoParam ((assignEach ts X.env).length=n) L2.auto4._auto_1) (hst:autoParam ((assignEach ts X.env).findIdx? (·.1)=none) L2.auto4._auto_1):JG X (.Tuple ts k pos) (KY K n gs):=⟨Lq hK hc h.run hn hst⟩
theorem dY {ts:zu} (ho:JE X a ta) (hi:JE X b tb) (hs:KQ X ts) (h:autoParam (m7 b=true) L2.auto4._auto_1):JG X (.Subscript a b pos) (Qu ta tb ts):=⟨Qv ho.run hi.run hs (by
 intro v
 cases b <;> first | rfl | cases h)⟩
theorem kj (S:rQ N sc N' scope sub) (hc:X.calm=true) (hN:X.N=N) (hsc:X.env.scope=sc) (hi:JI X tg iter wi)
  (hg:∀ (C:Addr) (s₀:Shared) (H₀:Hp) (ex:List Addr),JG (oK X N' scope C s₀ H₀ ex) tg g)
  (ht:∀ (C:Addr) (s₀:Shared) (H₀:Hp) (ex:List Addr),Lr (oK X N' scope C s₀ H₀ ex) ifs tt)
  (he:∀ (C:Addr) (s₀:Shared) (H₀:Hp) (ex:List Addr),JE (oK X N' scope C s₀ H₀ ex) elt te) (h:autoParam (q9 iter=true) L2.auto4._auto_1):
  JE X (.ListComp elt [⟨tg,iter,ifs,0⟩] scope pos) (ut sub wi g tt te):=⟨V9 S hc hN hsc hi.run (fun C s₀ H₀ ex=>(hg C s₀ H₀ ex).run) (fun C s₀ H₀ ex=>(ht C s₀ H₀ ex).run) (fun C s₀ H₀ ex=>(he C s₀ H₀ ex).run) h⟩
variable {st:Stmt} {sts:List Stmt} {u v:TS}
theorem aR {i:Nat} (hN:X.N.Nodup) (hi:X.N[i]?=some x) (hx:Loc X.env.scope x) (he:JE X e te) (hf:X.fn x=true) (h:autoParam (jD e=true) L2.auto4._auto_1):JS X (.Assign [.Name x pos'] e pos) (wO te (mX i)):=⟨V1 hN hi hx he.run hf h⟩
theorem cR {ts:zu} (he:JE X e te) (hg:JG X (.Subscript a b pos') g) (h:autoParam (jD e=true) L2.auto4._auto_1):JS X (.Assign [.Subscript a b pos'] e pos) (wO te g):=⟨FT he.run hg.run (by show swapsWith e (some (.Subscript a b pos')) pos.line X.env=pure false;exact yx h) (by cases e <;> rfl) rfl⟩
theorem aD (he:JE X e te):JS X (.Return (some e) pos) (Qq te):=⟨Qs he.run⟩
theorem f9 (he:JE X e te) (h:autoParam (jD e=true) L2.auto4._auto_1):JS X (.Expr e pos) (Bc te):=⟨Rm he.run h⟩
theorem bf {sa sb:List Stmt} (hc:JT X c tt) (ha:JB X sa u) (hb:JB X sb v):JS X (.If c sa sb pos) (FJ tt u v):=⟨Vh hc.run ha.run hb.run⟩
theorem fu {body:List Stmt} (hp:PassesOwn (model X.prog X.w) X.A X.env X.xe) (hc:X.calm=true) (hi:JI X tg iter wi) (hg:JG X tg g) (hb:JB X body u) (h:autoParam (q9 iter=true) L2.auto4._auto_1):JS X (.For tg iter body [] pos) (K1 wi g u):=⟨V7 hp hc hi.run hg.run hb.run h⟩
theorem yz:JS X (.Continue pos) Oq:=⟨yj⟩
theorem aQ:JB X [] Fy:=⟨KH⟩
theorem aA (h:JS X st u):JB X [st] u:=⟨KJ h.run⟩
theorem au (h:JS X st u) (h2:JB X sts v):JB X (st :: sts) (KD u v):=⟨Fz h.run h2.run⟩
end
section
variable {P:Program} {w:World} {K:W.Frag} {mg:Str->Option Value} {base:Heap}
theorem gf {x:Str} {st:Stmt} {N ps:List Str} {k:Nat} {sp:Sp} (D:eY K mg x st) (S:aP N ps (aB st))
  (hb:∀ (kV doc pm:Value) (an:Option Addr) (cdv ct:Value) (us:List Value),us.length=ps.length->bindArgs (PySem.W.fnOf x x (gD st) (di st) (aB st) .none kV doc pm an cdv ct) ⟨us,[]⟩=pure (ps.zip us))
  (len:∀ vs H Q E,sp vs H Q E->vs.length=ps.length)
  (hbody:∀ (f:Addr) (cdv:Value) (A:Around) (outer:List Env) (s:Shared) (H:Hp) (vs:List V) (Q:VK) (E:XK),Room k (A.deeper (envOfC x (aB st) s.heap.objs.size f cdv))->sp vs H Q E->
   ∃ t,JB (qe Dh P w K mg base N x (aB st) f cdv A outer s H E).nox (di st) t/\t {nx:=fun _ H'=>Q .non H',rt:=Q} (start N vs) H):mU P w K mg base (k+1) x ps sp:=
 Q7 D S hb len fun f cdv A outer s H vs Q E hr h=>let ⟨t,j,q⟩:=hbody f cdv A outer s H vs Q E hr h;⟨t,j.run,q⟩
theorem okJ {x:Str} {st:Stmt} {N ps:List Str} {k:Nat} {sp:Sp} {f:Addr} {fd:FuncData} (F:Fun K x x st f fd) (S:aP N ps (aB st)) (len:∀ vs H Q E,sp vs H Q E->vs.length=ps.length)
  (hbody:∀ (f:Addr) (cdv:Value) (A:Around) (outer:List Env) (s:Shared) (H:Hp) (vs:List V) (Q:VK) (E:XK),Room k (A.deeper (envOfC x (aB st) s.heap.objs.size f cdv))->sp vs H Q E->
   ∃ t,JB (qe Dh P w K mg base N x (aB st) f cdv A outer s H E).nox (di st) t/\t {nx:=fun _ H'=>Q .non H',rt:=Q} (start N vs) H):qX P w K mg base Dh (k+1) f fd ps sp:=
 F.ok S len fun cdv A outer s H vs Q E hr h=>let ⟨t,j,q⟩:=hbody f cdv A outer s H vs Q E hr h;⟨t,j.run,q⟩
end
theorem yC {K:W.Frag} {mg:Str->Option Value} {h:Heap} (X:K.In h) (G:h.Ns mainGlobals mg) {x:Str} {v:Value} {f:Tok->Value} (a:PySem.W.nsIn K mainGlobals x=some (some v)) (e:∃ t,v=f t):∃ t,mg x=some (f t):=by
 obtain ⟨t,rfl⟩:=e
 exact ⟨t,Abu X G a⟩
theorem Wb {l:PySem.W.OpenLaw} {q:Program} {loose:List Str} {XP:(Str->Option Value)->Heap->Prop} {YP:World->Heap->Prop} {d:DefRec} {K:Params->W.Frag} {st:Stmt} {k:Nat} {sp:W.Frag->Sp} {x:Str}
  (hn:l.most=some 63) (hdf:d.params.defaults=[]) (hdn:d.name="law") (hk:Room k callerA) (hY:∀ (w:World) (h:Heap),YP w h->(K w.params).In h)
  (hb:∀ (kV doc pm:Value) (an:Option Addr) (cdv ct:Value) (us:List Value),us.length=[x].length->bindArgs (PySem.W.fnOf "law" "law" (gD st) (di st) (aB st) .none kV doc pm an cdv ct) ⟨us,[]⟩=pure ([x].zip us))
  (F:∀ (w:World) (mg:Str->Option Value) (h:Heap),(K w.params).In h->h.Ns mainGlobals mg->eY (K w.params) mg "law" st/\∀ (base:Heap) (f:Addr) (fd:FuncData),Fun (K w.params) "law" "law" st f fd->qX l.prog w (K w.params) mg base Dh k f fd [x] (sp (K w.params)))
  (hsp:∀ (K:W.Frag) (H:Hp) (a:Addr) (ns:List Int),ns.length<=63->SqL K H a (ns.map V.int)->sp K [.ref a] H (fun v _=>v= .bl true) fun _ _ _=>False) (him:autoParam (importsNone q=true) L2.auto6._auto_1):
  PySem.W.WalkO q loose XP YP l.row.toRowW d [] (fun f vs=>PySem.call f vs):=
 L2.Lf (n:=63) (k:=k) (x:=x) (CX:=fun _=>Dh) (sp:=fun w=>sp (K w.params)) hn (by decide) hdf hk hY (fun w mg fa h X G e=>by
  obtain ⟨⟨f,fd,Fn,hm⟩,ok⟩:=F w mg h X G
  rw [hdn,hm] at e
  have ef:f=fa:=by injection (Zn e)
  subst ef
  refine ⟨fd,fun s u=>?_,fun base _ _=>ok base f fd Fn⟩
  obtain ⟨oc,od,kV,doc,pm,an,cdv,ct,osl,rfl,lk,hcd⟩:=Fn.ex
  exact .of_eq (hb kV doc pm an cdv ct [u] rfl)) (fun w H a ns hl _ hS=>hsp _ H a ns hl hS) (fun _ _ _ _ _ z=>z) him
def YB (xs:Nat->List V) (n:Nat):It:=⟨fun i _=>i < n,fun i H v H'=>∃ T,H T=none/\v= .ref T/\H'=upd H T (.tup (xs i)),fun i _=>i=n⟩
theorem Rn {P:Program} {w:World} {K:W.Frag} {elts:List Expr} {k:Nat} {pos:Pos} {it:Addr} {fp wr:List Addr} {n:Nat} {xs:Nat->List V} {Pt:Nat->Array Value->Prop} {St:Nat->Heap->Prop} {Mid:Nat->Addr->Heap->Prop}
  (W:∀ A:Around,A.handled=none->WalksT P w A it fp wr n Pt St Mid) (hxs:∀ i,(xs i).length<=sizeLine) (hPt:∀ i vals,Pt i vals->Vals (xs i) vals.toList) (hmem:it∈fp)
  (hobj:∀ i h,St i h->∀ b∈fp,∃ o,h.get? b=some o/\∀ v,o.data≠.cell v)
  (hself:∀ (A:Around) (i:Nat) (s:Shared) (Q:Value->Shared->Prop) (E:Value->Shared->Prop),St i s.heap->Q (.ref it) s->wpAny (model P w) A (pyIter (.ref it)) Q E s):
  Turn P w K (.Tuple elts k pos) (YB xs n) fp it St where
 mem:=hmem
 obj:=hobj
 keep:=fun i h h' st kk=>(W {} rfl).frame i h h' st kk
 item:=by
  intro X hP hw hK hc i pins s U H E I hf st hg
  subst hP hw hK
  have W':=W X.A (I.ok.hd hc)
  refine W'.item i s _ _ hg st fun T vals h' tk hPv hT isT mid kk=>?_
  refine ⟨.ref T,rfl,W'.go elts k pos i T _ _ _ mid fun h'' st'' kk2=>?_⟩
  have hTn:H T=none:=I.hok.fresh hT
  have hTw:T ∉ wr:=W'.apart i T h' mid
  have kall:∀ b o,b ∉ wr->s.heap.get? b=some o->h''.get? b=some o:=fun b o hb e=>kk2 b o hb (kk b o hb e)
  have nT:∀ b o,s.heap.get? b=some o->b≠T:=fun b o e=>ZG (Zi (Y7 e) hT)
  have nTH:∀ b u,H b=some u->b≠T:=fun b u e z=>by rw [z,hTn] at e;cases e
  have nW:∀ b u,H b=some u->b ∉ wr:=fun b u e hb=>by rw [(hf b (W'.sub b hb)).1] at e;cases e
  have isT':h''.IsTuple T vals:=by
   obtain ⟨o,ho,r⟩:=isT
   exact ⟨o,kk2 T o hTw ho,r⟩
  have hlT:∃ o,h''.get? T=some o:=let ⟨o,ho,_⟩:=isT';⟨o,ho⟩
  have I':Inv X pins U (upd H T (.tup (xs i))) {s with heap:=h'',toks:=tk}:=by
   refine I.step (g':=s.gens) (d':=s.drawn) (ch:=wr) (fun b hb=>?_) (fun b o _ _ hc e _=>kall b o hc e) (fun b o _ _ hc e _=>⟨o.slots,kall b o hc e⟩) (fun b o _ e hn=>by rw [aC (nT b o e)];exact hn)
    (fun b o hc e=>⟨o,kall b o hc e⟩) (fun b ys e=>by rw [aC (nTH b _ e)];exact e) (fun b o u e=>by rw [aC (nTH b _ e)];exact e) (fun b ps e=>⟨#[],by rw [aC (nTH b _ e),e];simp⟩) (fun m hm=>?_) (fun b u e=>?_) I.bare
   ·obtain ⟨f0,f1,f2,f3,f4,f5⟩:=hf b (W'.sub b hb)
    exact ⟨f3,f1,f4,f5⟩
   ·obtain ⟨o,es,ep,ho,r⟩:=hm
    exact ⟨o,es,ep,kall _ o (fun hb=>(hf _ (W'.sub _ hb)).2.1 rfl) ho,r⟩
   ·by_cases hb:b=T
    ·subst hb
     rw [ao] at e;cases e
     obtain ⟨o,ho,hcl,nn,hd⟩:=isT'
     exact ⟨hxs i,vals.toList,hPt i vals hPv,o,ho,hcl,nn,by simpa using hd⟩
    ·rw [aC hb] at e
     refine (I.hok b u e).stay (fun c v hc' q=>kall c v ?_ q) (fun c q=>by rw [aC (nTH c _ q)];exact q) fun c ys q=>by rw [aC (nTH c _ q)];exact q
     rcases hc' with z | z
     ·rw [z];exact nW b u e
     ·exact nW c _ z
  refine ⟨.ref T,upd H T (.tup (xs i)),I',rfl,⟨T,hTn,rfl,rfl⟩,st'',fun b hb=>?_⟩
  obtain ⟨o,e,_⟩:=hobj i _ st b hb
  rw [aC (nT b o e)]
  exact (hf b hb).1
 done:=by
  intro X hP hw hK hc i pins s U H E I hf st hg
  subst hP hw hK
  have W':=W X.A (I.ok.hd hc)
  have hg:i=n:=hg
  subst hg
  refine W'.done s _ _ st fun h' tk kk=>⟨rfl,?_⟩
  have nW:∀ b u,H b=some u->b ∉ wr:=fun b u e hb=>by rw [(hf b (W'.sub b hb)).1] at e;cases e
  refine I.step (g':=s.gens) (d':=s.drawn) (ch:=wr) (fun b hb=>?_) (fun b o _ _ hc e _=>kk b o hc e) (fun b o _ _ hc e _=>⟨o.slots,kk b o hc e⟩) (fun b o _ e hn=>hn)
    (fun b o hc e=>⟨o,kk b o hc e⟩) (fun b ys e=>e) (fun b o u e=>e) (fun b ps e=>⟨#[],by rw [e];simp⟩) (fun m hm=>?_) (fun b u e=>?_) I.bare
  ·obtain ⟨f0,f1,f2,f3,f4,f5⟩:=hf b (W'.sub b hb)
   exact ⟨f3,f1,f4,f5⟩
  ·obtain ⟨o,es,ep,ho,r⟩:=hm
   exact ⟨o,es,ep,kk _ o (fun hb=>(hf _ (W'.sub _ hb)).2.1 rfl) ho,r⟩
  ·refine (I.hok b u e).stay (fun c v hc' q=>kk c v ?_ q) (fun c q=>q) fun c ys q=>q
   rcases hc' with z | z
   ·rw [z];exact nW b u e
   ·exact nW c _ z
 self:=hself
def yD (x:Str) (i:Nat):List V:=[.int i,.str ⟨#[x.cps.getD i 0]⟩]
section
variable {prog:Program} {w:World} {A:Around} {E:Value->Shared->Prop} {s:Shared}
theorem uA {it l:Addr} {items:Array Value} (hne:l≠it):∀ (n i:Nat) (s:Shared) (Q:List Value->Shared->Prop),s.heap.IsListIter it l i->s.heap.IsList l items->i+n<=items.size->
  (∀ h',h'.IsListIter it l (i+n)->Heap.SameBut it s.heap h'->Q ((items.toList.drop i).take n) {s with heap:=h'})->wpAny (model prog w) A (draw (.ref it) n) Q E s
 | 0,i,s,Q,hit,_,_,hQ=>by
  show wpAny _ _ (pure []) Q E s
  exact YM (by simpa using hQ s.heap hit (Heap.SameBut.refl ..))
 | n+1,i,s,Q,hit,ht,hle,hQ=>by
  have hlt:i < items.size:=by omega
  show wpAny _ _ (pyNext (.ref it) >>=_) Q E s
  refine YK (wpAny_pyNext_list_item hit ht (x:=items[i]) (by simp [hlt]) fun h₁ hit₁ hs₁=>?_)
  refine YK (Zz (uA hne n (i+1) _ _ hit₁ (ht.extBut hs₁.extBut hne) (by omega) fun h₂ hit₂ hs₂=>YM ?_))
  have hd:items.toList.drop i=items[i] :: items.toList.drop (i+1):=by simp [ZQ,hlt]
  have:=hQ h₂ (by rw [show i+(n+1)=i+1+n by omega];exact hit₂) (hs₁.trans hs₂)
  rw [hd,List.take_succ_cons] at this
  exact this
theorem qw {l:Addr} {items:Array Value} {Q:List Value->Shared->Prop} (hh:A.handled=none) (ht:s.heap.IsList l items)
  (hQ:∀ h',Heap.ExtBut s.heap.objs.size s.heap h'->Q items.toList {s with heap:=h'}):wpAny (model prog w) A (unpackItems (.ref l) items.size none) Q E s:=by
 have hlt:l≠s.heap.objs.size:=by obtain ⟨o,ho,_⟩:=ht;exact ZG (Y7 ho)
 unfold unpackItems
 refine YK ?_
 ·unfold notIterableAtAll
  refine YK (wpAny_specialOf ht.typeIs slot_list_iter.lookup ?_)
  refine YM ?_
  simp only [ZR,if_false]
  refine YK (Zz (wpAny_pyIter_list ht ?_))
  refine YK (Zz (uA hlt items.size 0 _ _ ⟨_,Y6 _ rfl,rfl,rfl⟩ (let ⟨o,ho,r⟩:=ht;⟨o,YT _ ho,r⟩) (by omega) fun h₁ hit₁ hs₁=>?_))
  have hall:List.take items.size (List.drop 0 items.toList)=items.toList:=by
   rw [AaT];exact ZV (by simp)
  rw [hall]
  rw [if_neg (by simp)]
  have ht₁:h₁.IsList l items:=by
   have:(s.heap.push {cls:=.type "list_iterator",data:=.fields #[.ref l,.int 0 0]}).IsList l items:=let ⟨o,ho,r⟩:=ht;⟨o,YT _ ho,r⟩
   exact this.extBut hs₁.extBut hlt
  refine YK (Zz (wpAny_pyNext_list_end hh hit₁ ht₁ (by simp) fun h₂ he₂=>?_))
  simp only [Option.isSome_none,ZR,if_false]
  refine YM (hQ h₂ fun b o hb e=>he₂ b o hb (hs₁.extBut b o hb (YT _ e)))
theorem pQ {env:Env} {elts:List Expr} {x1} {pos:Pos} {l:Addr} {items:Array Value} {Q:Unit->Shared->Prop} (hh:A.handled=none) (ht:s.heap.IsList l items)
  (hn:(assignEach elts env).length=items.size) (hstar:(assignEach elts env).findIdx? (·.1)=none)
  (h:∀ h',Heap.ExtBut s.heap.objs.size s.heap h'->wpAny (model prog w) A (assignInOrder ((assignEach elts env).map (·.2)) items.toList) Q E {s with heap:=h'}):
  wpAny (model prog w) A (assign (.Tuple elts x1 pos) env (.ref l)) Q E s:=by
 rw [assign_Tuple]
 refine YK (AbE ?_)
 unfold unpack
 rw [hn,hstar]
 exact YK (Zz (qw hh ht h))
end
def O1 (K:W.Frag) (n:Nat) (t:zp):TG:=fun v U H Q=>∃ a xs,v= .ref a/\(SqT K H a xs\/SqL K H a xs)/\xs.length=n/\t xs U H Q
theorem jG {X:Cx} {K:W.Frag} {ts:List Expr} {k:Nat} {gs:zp} {n:Nat} {pos:Pos} (hK:X.K=K) (hc:X.calm=true) (h:Wa X ts gs) (hn:autoParam ((assignEach ts X.env).length=n) L2.auto4._auto_1) (hst:autoParam ((assignEach ts X.env).findIdx? (·.1)=none) L2.auto4._auto_1):JG X (.Tuple ts k pos) (O1 K n gs):=⟨by
 subst hK
 intro pins s U H v u Q I r hw
 obtain ⟨a,xs,e1,hq,hl,hw⟩:=hw
 subst e1
 cases r
 rcases hq with hq | hq
 ·exact (FQ hc h.run hn hst) pins s U H (.ref a) (.ref a) Q I (show RelV (.ref a) (Value.ref a) from rfl) ⟨a,xs,rfl,hq,hl,hw⟩
 ·obtain ⟨its,rv,ht,hz⟩:=I.list hq
  refine pQ (I.ok.hd hc) ht.isList (by simp [hn,← hl,rv.length]) hst fun h' hx=>?_
  have I1:Inv X pins U H {s with heap:=h'}:=I.kept (t':=s.toks) fun b o e=>hx b o (ZG (Y7 e)) e
  exact h.run pins _ U H xs _ Q I1 (by simpa using rv) hw⟩
theorem jH {X:Cx} {ts:List Expr} {k:Nat} {e:Expr} {te:TE} {g:TG} {pos pos':Pos} (he:JE X e te) (hg:JG X (.Tuple ts k pos') g) (h:autoParam (jD e=true) L2.auto4._auto_1) (h2:autoParam ((match e with | .Tuple ..=>false | _=>true)=true) L2.auto4._auto_1):JS X (.Assign [.Tuple ts k pos'] e pos) (wO te g):=
 ⟨FT he.run hg.run (by show swapsWith e (some (.Tuple ts k pos')) pos.line X.env=pure false;exact yx h) (by cases e <;> first | rfl | cases h2) rfl⟩
def Wc (K:W.Frag):R2:=fun x y H Q=>rNe x y H Q\/∃ (a b:Addr) (ns ms:List Int),x= .ref a/\y= .ref b/\SqL K H a (ns.map V.int)/\SqL K H b (ms.map V.int)/\Q (.bl (!decide (ns=ms))) H
theorem Ro {X:Cx} {K:W.Frag} (hK:X.K=K) (hu:X.A.units+64 < cLine):OpR X (compareOp .NotEq) (Wc K):=by
 subst hK
 intro pins s U H x y v u Q I rx ry h
 rcases h with h | ⟨a,b,ns,ms,rfl,rfl,ha,hb,q⟩
 ·exact Vo pins s U H x y v u Q I rx ry h
 ·cases rx
  cases ry
  obtain ⟨its,r1,p1,z1⟩:=I.list ha
  obtain ⟨jts,r2,p2,z2⟩:=I.list hb
  exact PySem.W.ne_intsK p1.isList (intsAre_of r1) p2.isList (intsAre_of r2) hu ⟨.bl _,H,I,rfl,q⟩
section
variable {H:Hp} {Q:VK} {K:W.Frag} {U:St}
theorem gW {n:Nat} {gs:zp} {p:Addr} {xs:List V} {R:St->Hp->Prop} (s:SqT K H p xs) (hl:xs.length=n) (h:gs xs U H R):KY K n gs (.ref p) U H R:=⟨p,xs,rfl,s,hl,h⟩
theorem tG {n:Nat} {gs:zp} {p:Addr} {xs:List V} {R:St->Hp->Prop} (s:SqL K H p xs) (hl:xs.length=n) (h:gs xs U H R):O1 K n gs (.ref p) U H R:=⟨p,xs,rfl,.inr s,hl,h⟩
theorem iw {t:TG} {u:zp} {v:V} {vs:List V} {R:St->Hp->Prop} (h:t v U H fun U' H'=>u vs U' H' R):FN t u (v :: vs) U H R:=⟨v,vs,rfl,h⟩
theorem km {R:St->Hp->Prop} (h:R U H):Qt [] U H R:=⟨rfl,h⟩
theorem lO {p:Addr} {xs:List V} {y:V} (hp:H p=some (.lst xs)) (c:xs.length < sizeLine) (h:Q .non (upd H p (.lst (xs ++ [y])))):Bp (.ref p) [y] H Q:=⟨p,xs,y,rfl,rfl,hp,c,h⟩
theorem Kv {f:Int->V} {i:Int} (h:Q (f i) H):rU f (.int i) H Q:=⟨i,rfl,h⟩
theorem zW {a:Addr} {xs:List V} {k:Int} (ha:H a=some (.lst xs)) (h0: -(2 ^ 63)<=k) (h1:k < 2 ^ 63) (hz:xs.length*k.toNat<=sizeLine) (h:∀ p,H p=none->Q (.ref p) (upd H p (.lst (List.replicate k.toNat xs).flatten))):Hc (.ref a) (.int k) H Q:=
 .inr (.inr ⟨a,k,xs,rfl,rfl,ha,h0,h1,hz,h⟩)
end
section
variable {X:Cx} {tg iter elt:Expr} {ifs:List Expr} {scope:Scope} {pos:Pos} {N':List Str} {sub:List (Option Nat)} {wi:TI} {g:TG} {tt:TT} {te:TE}
theorem Ho {N:List Str} {sc:Scope} {use:Option (Value->Sem Unit)} {R:Value->Shared->Prop} {p0:Pos} (S:rQ N sc N' scope sub) (hc:X.calm=true) (hN:X.N=N) (hsc:X.env.scope=sc) (hi:PI X tg iter wi)
  (hg:∀ (C:Addr) (s₀:Shared) (H₀:Hp) (ex:List Addr),PG (oK X N' scope C s₀ H₀ ex) tg g)
  (ht:∀ (C:Addr) (s₀:Shared) (H₀:Hp) (ex:List Addr),wY (oK X N' scope C s₀ H₀ ex) ifs tt)
  (he:∀ (C:Addr) (s₀:Shared) (H₀:Hp) (ex:List Addr),PE (oK X N' scope C s₀ H₀ ex) elt te)
  (hs:∀ x,foldedSetIterable iter X.env x=pure x) (pins:List (Addr×Obj)) (s:Shared) (U:St) (H:Hp) (Q:VK) (I:Inv X pins U H s) (h:ut sub wi g tt te U H Q)
  (hend:∀ (D C:Addr) (s5:Shared) (H5:Hp) (m:Str->Option Value),Inv X pins U H5 s5->lE X pins H5 C->s5.heap.Ns C m->Q (.ref D) H5->compPost (model X.prog X.w) X.A X.xe use R (.ref D) C (.ok .next) s5):
  wpAny (model X.prog X.w) X.A (comprehension (.ListComp elt [⟨tg,iter,ifs,0⟩] scope pos) scope X.env p0 (newList []) false (eval iter X.env) use) R X.xe s:=by
 have hcl:∀ x∈scope.names,x.2=NameKind.free->∃ c,X.env.cells.lookup x.1=some c:=fun x hx hk=>I.ok.has x.1 (by have:=S.free x hx hk;rw [← hsc] at this;exact this)
 refine wpAny_comprehension_free (use:=use) rfl hs (oO hcl) S.kind S.loc ?_
 refine dM (hi pins s U H _ I h) fun v s1 h1=>dM h1 fun itv s2 h2=>?_
 obtain ⟨it,fp,tn,J,H2,e,I2,T,st2,f2,W,⟨m0,w0⟩,turn⟩:=h2
 subst e
 refine ZX (gn fun h₁ hns₁ hk31 hcl₁=>?_)
 dsimp only at hns₁ hk31 hcl₁ ⊢
 generalize hs3:({s2 with heap:=s2.heap.push {cls:=.type "list",dict:=none,data:=.seq ([]:List Value).toArray}}:Shared)=s3
 have e3:s2.heap.push {cls:=.type "list",dict:=none,data:=.seq ([]:List Value).toArray}=s3.heap:=by rw [← hs3]
 rw [e3] at hns₁ hk31 hcl₁ ⊢
 have hD3:s3.heap.get? s2.heap.objs.size=some {cls:=.type "list",dict:=none,data:=.seq ([]:List Value).toArray}:=by rw [← e3];exact Y6 _ rfl
 have I3:Inv X pins U H2 s3:=by
  rw [← hs3]
  exact I2.kept (t':=s2.toks) fun b o e=>YT _ e
 have k23:∀ b o,s2.heap.get? b=some o->s3.heap.get? b=some o:=fun b o e=>by rw [← e3];exact YT _ e
 have hsz:s3.heap.objs.size=s2.heap.objs.size+1:=by rw [← e3,AaS]
 have hDn:H2 s2.heap.objs.size=none:=I2.hok.fresh (YW _)
 have fD:lE X pins H2 s2.heap.objs.size:=I2.fpOk (YW _) hDn
 have hfo:∀ b∈fp,b < s2.heap.objs.size:=fun b hb=>let ⟨o,e,_⟩:=T.obj _ _ st2 b hb;Y7 e
 have hDfp:s2.heap.objs.size ∉ fp:=fun z=>absurd (hfo _ z) (Aal _)
 have I4:=wu (tk:=s3.toks+([]:List (Str×Value)).length) S hN hsc I3 f2 (fun b hb=>by rw [hsz];exact Nat.lt_succ_of_lt (hfo b hb)) (D:=s2.heap.objs.size) (by rw [hsz];exact Nat.lt_succ_self _) fD hns₁ hk31 hcl₁
 have stat:∀ {H':Hp} {ob:Obj},(∀ b∈fp,H' b=none)->∀ b∈fp,lE (oK X N' scope s3.heap.objs.size s3 H2 (s2.heap.objs.size :: fp)) [(s2.heap.objs.size,ob)] H' b:=fun {H' ob} hn b hb=>by
  obtain ⟨q1,q2⟩:=I4.ok.exf b (Zc _ hb)
  refine ⟨hn b hb,q1,I4.ok.exfs b (Zc _ hb),.inl (Zc _ hb),q2,fun p hp z=>?_⟩
  have hp':p=(s2.heap.objs.size,ob):=by simpa [oK] using hp
  subst hp'
  have z':s2.heap.objs.size=b:=z
  exact hDfp (by rw [z'];exact hb)
 generalize hXC:oK X N' scope s3.heap.objs.size s3 H2 (s2.heap.objs.size :: fp)=XC at I4 stat
 have eP:XC.prog=X.prog:=by rw [← hXC];rfl
 have eW:XC.w=X.w:=by rw [← hXC];rfl
 have eK:XC.K=X.K:=by rw [← hXC];rfl
 have eA:XC.A=X.A:=by rw [← hXC];rfl
 have eE:XC.env=compEnvC scope (Dj X scope s3.heap.objs.size) s3.heap.objs.size X.env:=by rw [← hXC];rfl
 have eC:XC.calm=true:=by rw [← hXC];exact hc
 have eX:XC.xe=fun _ _=>False:=by rw [← hXC];rfl
 have eH:XC.H₀=H2:=by rw [← hXC];rfl
 have eS:XC.s₀=s3:=by rw [← hXC];rfl
 have eF:XC.fs=frs X.stack:=by rw [← hXC];rfl
 have eEx:XC.ex=s2.heap.objs.size :: fp:=by rw [← hXC];rfl
 have ePn:XC.pn=[]:=by rw [← hXC];rfl
 have hgC:PG XC tg g:=by rw [← hXC];exact hg _ _ _ _
 have htC:wY XC ifs tt:=by rw [← hXC];exact ht _ _ _ _
 have heC:PE XC elt te:=by rw [← hXC];exact he _ _ _ _
 have pinD:∀ {U':St} {H':Hp} {s':Shared} {ob:Obj},Inv XC [] U' H' s'->H' s2.heap.objs.size=none->s'.heap.get? s2.heap.objs.size=some ob->(∀ v,ob.data≠.cell v)->Inv XC [(s2.heap.objs.size,ob)] U' H' s':=fun {U' H' s' ob} J hn hg hd=>
  J.pins_of fun p hp=>by
   have hp':p=(s2.heap.objs.size,ob):=by simpa using hp
   subst hp'
   refine ⟨hg,hn,(J.ok.exf _ (by rw [eEx];exact Zj)).1,J.ok.exfs _ (by rw [eEx];exact Zj),hd⟩
 have loop:codeAny (model X.prog X.w) X.A (.compLoop (.ListComp elt [⟨tg,iter,ifs,0⟩] scope pos) 0 (.ref it) (.ref s2.heap.objs.size) (compEnvC scope (Dj X scope s3.heap.objs.size) s3.heap.objs.size X.env))
   (compPost (model X.prog X.w) X.A X.xe use R (.ref s2.heap.objs.size) s3.heap.objs.size) {s3 with heap:=h₁,toks:=s3.toks+([]:List (Str×Value)).length}:=by
  refine wk (fun n s'=>∃ (i:Nat) (ys:List V) (its:List Value) (nn:Nat) (H':Hp),Inv XC [] (cU sub U) H' s'/\tn i s'.heap/\(∀ b∈fp,H' b=none)/\H' s2.heap.objs.size=none/\
   s'.heap.get? s2.heap.objs.size=some {cls:=.type "list",data:=.seq its.toArray nn}/\Vals ys its/\W i n ys H') ?_ m0
   ⟨0,[],[],_,H2,I4,T.keep _ _ _ st2 fun b _ o e=>hk31 b o (k23 b o e),fun b hb=>(f2 b hb).1,hDn,hk31 _ _ hD3,.nil,w0⟩
  rintro n s4 ⟨i,ys,its,nn,H4,J4,st4,fr4,dn4,dg4,rv4,w4⟩
  have P4:=pinD J4 dn4 dg4 (fun v z=>by cases z)
  rcases turn i n ys H4 w4 with ⟨stop,hyl,qn⟩ | ⟨go,hyl,N,hN,step⟩
  ·have hdone:=T.done XC eP eW eK eC i _ s4 _ H4 (fun _ _=>False) P4 (stat fr4) st4 stop
   rw [eA] at hdone
   refine ZP hdone (fun r s5 ⟨hr,I5⟩=>?_) fun _ _ z=>z
   subst hr
   obtain ⟨m,hn,_⟩:=id I5.loc
   have hCe:XC.env.locals=s3.heap.objs.size:=by rw [eE];rfl
   rw [hCe] at hn
   have hDg:=(I5.pin (s2.heap.objs.size,_) (by rw [ePn];exact Zj)).1
   have hDne:s2.heap.objs.size≠s3.heap.objs.size:=by rw [hsz];exact ZG (Nat.lt_succ_self _)
   have hHC:H4 s3.heap.objs.size=none:=by have:=I5.free;rw [hCe] at this;exact this
   have k56:∀ b o,b≠s3.heap.objs.size->s5.heap.get? b=some o->s5.heap.get? b=some o:=fun b o hb e=>e
   have un:=I5.base
   rw [eF,eEx,eH,eS] at un
   have nC:∀ b o,s3.heap.get? b=some o->b≠s3.heap.objs.size:=fun b o e=>ZG (Y7 e)
   have hok6:HOk X.prog X.w (upd H4 s2.heap.objs.size (.lst ys)) s5.heap:=by
    have h5:=I5.hok
    rw [eP,eW] at h5
    have Kp:∀ b u,H4 b=some u->b≠s3.heap.objs.size:=fun b u e z=>by rw [z,hHC] at e;cases e
    intro b u e
    by_cases hb:b=s2.heap.objs.size
    ·subst hb
     rw [ao] at e;cases e
     exact ⟨hyl,its,nn,rv4,k56 _ _ hDne hDg⟩
    ·rw [aC hb] at e
     have nD:∀ c u,H4 c=some u->c≠s2.heap.objs.size:=fun c u e z=>by rw [z,dn4] at e;cases e
     refine (h5 b u e).stay (fun c v hc' q=>k56 c v ?_ q) (fun c q=>by rw [aC (nD c _ q)];exact q) fun c xs q=>by rw [aC (nD c _ q)];exact q
     rcases hc' with z | z
     ·rw [z];exact Kp b u e
     ·exact Kp c _ z
   have nD2:∀ c u,H4 c=some u->c≠s2.heap.objs.size:=fun c u e z=>by rw [z,dn4] at e;cases e
   have un6:Un (frs X.stack) (s2.heap.objs.size :: fp) H2 (upd H4 s2.heap.objs.size (.lst ys)) s3.heap s5.heap:=
    ⟨fun b o e nn' hb hx=>k56 b o (nC b o e) (un.keep b o e nn' hb hx),fun b o e nn' hb hx=>let ⟨sl,q⟩:=un.slot b o e nn' hb hx;⟨sl,k56 b _ (nC b o e) q⟩,
     fun b o e nn' hx=>by rw [aC (fun z=>hx (by rw [z];exact Zj))];exact un.free b o e nn' hx,
     fun b o e hx=>let ⟨o',q⟩:=un.there b o e hx;⟨o',k56 b o' (nC b o e) q⟩,
     fun b xs e=>by have q:=un.tups b xs e;rw [aC (nD2 b _ q)];exact q,
     fun b o u e=>by have q:=un.frzs b o u e;rw [aC (nD2 b _ q)];exact q,
     fun b ps e=>let ⟨more,q⟩:=un.tbls b ps e;⟨more,by rw [aC (nD2 b _ q)];exact q⟩⟩
   have I6:Inv X pins U (upd H4 s2.heap.objs.size (.lst ys)) s5:=by
    refine I3.call' (s':=s5) (ch:=s2.heap.objs.size :: fp) ?_ un6 hok6 I5.bare fun b hb=>?_
    ·show s5.os=s3.os
     have:=I5.os
     rw [eS] at this
     exact this
    ·have q:lE X pins H2 b:=by
      rcases Zg.mp hb with rfl | z
      ·exact fD
      ·exact f2 b z
     obtain ⟨f0,f1,f2',f3,f4,f5⟩:=q
     exact ⟨f3,f1,f4,f5⟩
   have dC:upd H4 s2.heap.objs.size (.lst ys) s3.heap.objs.size=none:=by rw [aC (Ne.symm hDne)];exact hHC
   exact hend _ _ s5 _ m I6 (I3.fpOk (YW _) dC) hn (qn _ dn4)
  ·have hitem:=T.item XC eP eW eK eC i _ s4 _ H4 (fun _ _=>False) P4 (stat fr4) st4 go
   rw [eA] at hitem
   refine ZP hitem (fun r s5 ⟨u,hr,h5⟩=>?_) fun _ _ z=>z
   subst hr
   dsimp only
   refine ZP h5 (fun _ s6 ⟨x,H6,I6,r6,y6,st6,fr6⟩=>?_) fun _ _ z=>z
   have P6:=I6.pinned (stat fr6) (T.obj _ _ st6)
   rw [← eE,← eP,← eW,← eA]
   refine ZP (hgC _ s6 _ H6 x u _ P6 r6 (step x H6 y6)) (fun _ s7 ⟨σ7,H7,I7,kp7,q7⟩=>?_) fun _ _ z=>by rw [eX] at z;exact z
   refine ZP (htC _ s7 σ7 H7 _ I7 q7) (fun ok s8 ⟨H8,I8,q8⟩=>?_) fun _ _ z=>by rw [eX] at z;exact z
   have fin:∀ {H9:Hp} {s9:Shared},Inv XC ([(s2.heap.objs.size,({cls:=.type "list",data:=.seq its.toArray nn}:Obj))] ++ qU fp s6.heap) σ7 H9 s9->Inv XC [] (cU sub U) H9 s9/\tn (i+1) s9.heap/\(∀ b∈fp,H9 b=none)/\H9 s2.heap.objs.size=none/\
     s9.heap.get? s2.heap.objs.size=some {cls:=.type "list",data:=.seq its.toArray nn}:=fun {H9 s9} J=>by
    have pD:=J.pin (s2.heap.objs.size,({cls:=.type "list",data:=.seq its.toArray nn}:Obj)) (by rw [ePn];simp)
    have pF:∀ b∈fp,∀ o,s6.heap.get? b=some o->s9.heap.get? b=some o/\H9 b=none:=fun b hb o e=>by
     have q:=J.pin (b,o) (by rw [ePn];exact Za _ (Za _ (lZ hb e)))
     exact ⟨q.1,q.2.1⟩
    refine ⟨?_,T.keep _ _ _ st6 fun b hb o e=>(pF b hb o e).1,fun b hb=>?_,pD.2.1,pD.1⟩
    ·have J0:Inv XC [] σ7 H9 s9:=J.pins_of fun p hp=>nomatch hp
     exact J0.weak kp7.1.symm fun j v e=>kp7.2 j v e
    ·obtain ⟨o,e,_⟩:=T.obj _ _ st6 b hb
     exact (pF b hb o e).2
   cases ok with
   | false=>
    rw [if_neg (by simp)]
    rw [if_neg (by simp)] at q8
    obtain ⟨m',hm,w8⟩:=hN _ _ q8
    obtain ⟨a1,a2,a3,a4,a5⟩:=fin I8
    exact ⟨m',hm,i+1,ys,its,nn,H8,a1,a2,a3,a4,a5,rv4,w8⟩
   | true=>
    rw [if_pos rfl]
    rw [if_pos rfl] at q8
    refine ZP (heC _ s8 σ7 H8 _ I8 q8) (fun xv s9 ⟨y,H9,I9,r9,n9⟩=>?_) fun _ _ z=>by rw [eX] at z;exact z
    obtain ⟨m',hm,w9⟩:=hN _ _ n9
    obtain ⟨a1,a2,a3,a4,a5⟩:=fin I9
    refine wpAny_list_append_plain (items:=its.toArray) ⟨nn,a5⟩ (fun h' ⟨n',hp'⟩ sb=>?_) (by simp;rw [← rv4.length];omega)
    obtain ⟨q1,q2⟩:=I4.ok.exf s2.heap.objs.size (by rw [eEx];exact Zj)
    have a1':Inv XC [] (cU sub U) H9 {s9 with heap:=h'}:=a1.turned (t':=s9.toks) (fun b o hb e=>(sb.2 b hb).trans e) a4 q1 (.inl (by rw [eEx];exact Zj)) q2 (fun p hp=>by rw [ePn] at hp;exact nomatch hp)
    refine ⟨m',hm,i+1,ys ++ [y],its ++ [xv],n',H9,a1',T.keep _ _ _ a2 fun b hb o e=>(sb.2 b (fun z=>hDfp (by rw [← z];exact hb))).trans e,a3,a4,?_,rv4.append (.cons r9 .nil),w9⟩
    rw [hp']
    simp
 subst hs3
 exact codeAny_compStart_list loop (T.self _ 0 _ _ _ (T.keep _ _ _ st2 fun b _ o e=>hk31 b o (k23 b o e)) loop)
theorem zX {N:List Str} {sc:Scope} {i:Nat} {x:Str} {pos' spos:Pos} (hNd:X.N.Nodup) (hxi:X.N[i]?=some x) (hx:Loc X.env.scope x) (hf:X.fn x=true) (S:rQ N sc N' scope sub) (hc:X.calm=true) (hN:X.N=N) (hsc:X.env.scope=sc) (hi:PI X tg iter wi)
  (hg:∀ (C:Addr) (s₀:Shared) (H₀:Hp) (ex:List Addr),PG (oK X N' scope C s₀ H₀ ex) tg g)
  (ht:∀ (C:Addr) (s₀:Shared) (H₀:Hp) (ex:List Addr),wY (oK X N' scope C s₀ H₀ ex) ifs tt)
  (he:∀ (C:Addr) (s₀:Shared) (H₀:Hp) (ex:List Addr),PE (oK X N' scope C s₀ H₀ ex) elt te)
  (hs:∀ x,foldedSetIterable iter X.env x=pure x):PS X (.Assign [.Name x pos'] (.ListComp elt [⟨tg,iter,ifs,0⟩] scope pos) spos) (wO (ut sub wi g tt te) (mX i)):=by
 intro pins s U H D I h
 have hsw:∃ b,swapsWith (.ListComp elt [⟨tg,iter,ifs,0⟩] scope pos) (some (.Name x pos')) spos.line X.env=pure b:=⟨_,rfl⟩
 obtain ⟨b,hsw⟩:=hsw
 cases b with
 | false=>exact FW hNd hxi hx (Bq S hc hN hsc hi hg ht he hs) hsw (.inl hf) pins s U H D I h
 | true=>
  rw [exec_Assign_Name_used _ _ _ _ hsw]
  refine YK (AbE (YK ?_))
  show wpAny _ X.A (do let _ ← comprehension (.ListComp elt [⟨tg,iter,ifs,0⟩] scope pos) scope X.env _ (newList []) false (eval iter X.env) (some (assign (.Name x pos') X.env))) _ _ s
  refine YK (ZP (Ho (use:=some (assign (.Name x pos') X.env)) (R:=fun _ s'=>SP X pins D .next s') S hc hN hsc hi hg ht he hs pins s U H _ I h ?_) (fun _ s' hq=>YM (YM hq)) fun _ _ e=>e)
  intro Da C s5 H5 m I5 fC hn q
  show wpAny _ X.A (assign (.Name x pos') X.env (.ref Da)) _ _ _
  refine wpAny_assign_Name (vZ I5 hNd hxi hx (v:=.ref Da) rfl (fun s6 I6 qq0=>?_) (.inl hf))
  obtain ⟨a,sb,ha⟩:=qq0
  obtain ⟨f0,f1,f2,f3,f4,f5⟩:=fC
  have hCa:C≠a:=fun z=>by
   rcases ha with e | e
   ·exact f1 (z.trans e)
   ·exact f4 x a e z.symm
  exact ⟨m,hn.sameBut sb hCa,fun h' hs'=>⟨_,H5,I6.turned (t':=s6.toks) (fun b o hb e=>hs'.extBut b o hb e) f0 f1 f3 f4 f5,q⟩⟩
end
section
variable {X:Cx} {tg iter elt:Expr} {ifs:List Expr} {scope:Scope} {pos:Pos} {N':List Str} {sub:List (Option Nat)} {wi:TI} {g:TG} {tt:TT} {te:TE} {N:List Str} {sc:Scope}
theorem Bt {i:Nat} {x:Str} {pos' spos:Pos} (hNd:X.N.Nodup) (hxi:X.N[i]?=some x) (hx:Loc X.env.scope x) (S:rQ N sc N' scope sub) (hc:X.calm=true) (hN:X.N=N) (hsc:X.env.scope=sc) (hi:JI X tg iter wi)
  (hg:∀ (C:Addr) (s₀:Shared) (H₀:Hp) (ex:List Addr),JG (oK X N' scope C s₀ H₀ ex) tg g)
  (ht:∀ (C:Addr) (s₀:Shared) (H₀:Hp) (ex:List Addr),Lr (oK X N' scope C s₀ H₀ ex) ifs tt)
  (he:∀ (C:Addr) (s₀:Shared) (H₀:Hp) (ex:List Addr),JE (oK X N' scope C s₀ H₀ ex) elt te) (hf:X.fn x=true) (h:autoParam (q9 iter=true) L2.auto4._auto_1):
  JS X (.Assign [.Name x pos'] (.ListComp elt [⟨tg,iter,ifs,0⟩] scope pos) spos) (wO (ut sub wi g tt te) (mX i)):=
 ⟨zX hNd hxi hx hf S hc hN hsc hi.run (fun C s₀ H₀ ex=>(hg C s₀ H₀ ex).run) (fun C s₀ H₀ ex=>(ht C s₀ H₀ ex).run) (fun C s₀ H₀ ex=>(he C s₀ H₀ ex).run) (Hg h)⟩
end
section
variable {X:Cx} {pins:List (Addr×Obj)} {U:St} {H:Hp} {s:Shared}
theorem Inv.newtup {wr:List Addr} {T:Addr} {vals:Array Value} {xs:List V} {h'':Heap} {tk:Nat} (I:Inv X pins U H s) (hf:∀ b∈wr,lE X pins H b) (hT:s.heap.objs.size<=T)
  (kall:∀ b o,b ∉ wr->s.heap.get? b=some o->h''.get? b=some o) (isT':h''.IsTuple T vals) (hv:Vals xs vals.toList) (hx:xs.length<=sizeLine):Inv X pins U (upd H T (.tup xs)) {s with heap:=h'',toks:=tk}:=by
 have hTn:H T=none:=I.hok.fresh hT
 have nT:∀ b o,s.heap.get? b=some o->b≠T:=fun b o e=>ZG (Zi (Y7 e) hT)
 have nTH:∀ b u,H b=some u->b≠T:=fun b u e z=>by rw [z,hTn] at e;cases e
 have nW:∀ b u,H b=some u->b ∉ wr:=fun b u e hb=>by rw [(hf b hb).1] at e;cases e
 refine I.step (g':=s.gens) (d':=s.drawn) (ch:=wr) (fun b hb=>?_) (fun b o _ _ hc e _=>kall b o hc e) (fun b o _ _ hc e _=>⟨o.slots,kall b o hc e⟩) (fun b o _ e hn=>by rw [aC (nT b o e)];exact hn)
  (fun b o hc e=>⟨o,kall b o hc e⟩) (fun b ys e=>by rw [aC (nTH b _ e)];exact e) (fun b o u e=>by rw [aC (nTH b _ e)];exact e) (fun b ps e=>⟨#[],by rw [aC (nTH b _ e),e];simp⟩) (fun m hm=>?_) (fun b u e=>?_) I.bare
 ·obtain ⟨f0,f1,f2,f3,f4,f5⟩:=hf b hb
  exact ⟨f3,f1,f4,f5⟩
 ·obtain ⟨o,es,ep,ho,r⟩:=hm
  exact ⟨o,es,ep,kall _ o (fun hb=>(hf _ hb).2.1 rfl) ho,r⟩
 ·by_cases hb:b=T
  ·subst hb
   rw [ao] at e;cases e
   obtain ⟨o,ho,hcl,nn,hd⟩:=isT'
   exact ⟨hx,vals.toList,hv,o,ho,hcl,nn,by simpa using hd⟩
  ·rw [aC hb] at e
   refine (I.hok b u e).stay (fun c v hc' q=>kall c v ?_ q) (fun c q=>by rw [aC (nTH c _ q)];exact q) fun c ys q=>by rw [aC (nTH c _ q)];exact q
   rcases hc' with z | z
   ·rw [z];exact nW b u e
   ·exact nW c _ z
theorem Inv.only {wr:List Addr} {h':Heap} {tk:Nat} (I:Inv X pins U H s) (hf:∀ b∈wr,lE X pins H b) (kk:∀ b o,b ∉ wr->s.heap.get? b=some o->h'.get? b=some o):Inv X pins U H {s with heap:=h',toks:=tk}:=by
 have nW:∀ b u,H b=some u->b ∉ wr:=fun b u e hb=>by rw [(hf b hb).1] at e;cases e
 refine I.step (g':=s.gens) (d':=s.drawn) (ch:=wr) (fun b hb=>?_) (fun b o _ _ hc e _=>kk b o hc e) (fun b o _ _ hc e _=>⟨o.slots,kk b o hc e⟩) (fun b o _ e hn=>hn)
   (fun b o hc e=>⟨o,kk b o hc e⟩) (fun b ys e=>e) (fun b o u e=>e) (fun b ps e=>⟨#[],by rw [e];simp⟩) (fun m hm=>?_) (fun b u e=>?_) I.bare
 ·obtain ⟨f0,f1,f2,f3,f4,f5⟩:=hf b hb
  exact ⟨f3,f1,f4,f5⟩
 ·obtain ⟨o,es,ep,ho,r⟩:=hm
  exact ⟨o,es,ep,kk _ o (fun hb=>(hf _ hb).2.1 rfl) ho,r⟩
 ·refine (I.hok b u e).stay (fun c v hc' q=>kk c v ?_ q) (fun c q=>q) fun c ys q=>q
  rcases hc' with z | z
  ·rw [z];exact nW b u e
  ·exact nW c _ z
end
def UV (K:W.Frag) (a:Addr):It:=
 ⟨fun i H=>∃ xs x,SqL K H a xs/\xs[i]?=some x,
  fun i H v H'=>∃ T x,H T=none/\v= .ref T/\(∀ xs,SqL K H a xs->xs[i]?=some x)/\H'=upd H T (.tup [.int i,x]),
  fun i H=>∃ xs,SqL K H a xs/\xs.length<=i⟩
theorem zY {P:Program} {w:World} {K:W.Frag} {elts:List Expr} {k:Nat} {pos:Pos} {e it a:Addr} (hne:e≠it):
  Turn P w K (.Tuple elts k pos) (UV K a) [e,it] e (fun i h=>(∃ old,IsEnum h e it i old)/\h.IsListIter it a i) where
 mem:=by simp
 obj:=fun i h st c hc=>by
  obtain ⟨⟨old,he⟩,⟨o1,e1,c1,d1⟩⟩:=st
  simp only [Zg,Aay,or_false] at hc
  rcases hc with rfl | rfl
  ·exact ⟨_,he,fun v z=>by cases z⟩
  ·exact ⟨_,e1,fun v z=>by rw [d1] at z;cases z⟩
 keep:=fun i h h' st kk=>by
  obtain ⟨⟨old,he⟩,h1⟩:=st
  exact ⟨⟨old,kk e (by simp) _ he⟩,h1.at fun o q=>kk it (by simp) o q⟩
 item:=by
  intro X hP hw hK hc i pins s U H E I hf st hg
  subst hP hw hK
  obtain ⟨⟨old,he⟩,h1⟩:=st
  obtain ⟨xs,x,hq,hx⟩:=hg
  obtain ⟨its,rv,p,_⟩:=I.list hq
  obtain ⟨u,hu,ru⟩:=rv.get hx
  refine wpAny_pyNext_enum_item he h1 p.isList (x:=u) (by simpa using hu) hne fun h' a1 a2 a3 a4 hk=>?_
  refine ⟨_,rfl,wpAny_letOwnedTupleGo_enum a1 fun h'' a1' sb=>?_⟩
  have lt:∀ {c o},s.heap.get? c=some o->s.heap.objs.size≠c:=fun e=>Abh (Y7 e)
  have lti:s.heap.objs.size≠it:=by obtain ⟨o,q,_⟩:=h1;exact lt q
  have isT:h''.IsTuple s.heap.objs.size #[.int i s.toks,u]:=⟨_,sb.extBut _ _ (lt he) a3,rfl,_,rfl⟩
  have kall:∀ b o,b ∉ [e,it]->s.heap.get? b=some o->h''.get? b=some o:=fun b o hb q=>by
   simp only [Zg,Aay,or_false,not_or] at hb
   exact sb.extBut _ _ hb.1 (hk b o hb.1 hb.2 q)
  have hTn:H s.heap.objs.size=none:=I.hok.fresh (YW _)
  refine ⟨.ref s.heap.objs.size,_,I.newtup (tk:=s.toks+1) hf (YW _) kall isT (xs:=[.int i,x]) (.cons ⟨_,rfl⟩ (.cons ru .nil)) (by simp;decide),rfl,⟨_,x,hTn,rfl,fun zs hs=>by rw [I.list_inj hs hq];exact hx,rfl⟩,?_,fun b hb=>?_⟩
  ·exact ⟨⟨_,a1'⟩,a2.extBut sb.extBut (Ne.symm hne)⟩
  ·have:s.heap.objs.size≠b:=by
    simp only [Zg,Aay,or_false] at hb
    rcases hb with rfl | rfl
    ·exact lt he
    ·exact lti
   rw [aC (Ne.symm this)]
   exact (hf b hb).1
 done:=by
  intro X hP hw hK hc i pins s U H E I hf st hg
  subst hP hw hK
  obtain ⟨⟨old,he⟩,h1⟩:=st
  obtain ⟨xs,hq,hx⟩:=hg
  obtain ⟨its,rv,p,_⟩:=I.list hq
  have l1:=rv.length
  refine wpAny_pyNext_enum_end (I.ok.hd hc) he h1 p.isList (by simp;omega) fun h' hk=>⟨rfl,I.only (tk:=s.toks) hf fun b o hb q=>?_⟩
  simp only [Zg,Aay,or_false,not_or] at hb
  exact hk b o hb.2 q
 self:=fun _ _ _ _ _ st h=>let ⟨⟨_,he⟩,_⟩:=st;wpAny_pyIter_enum he h
theorem Dq {X:Cx} {elts:List Expr} {k:Nat} {tp:Pos} {pins:List (Addr×Obj)} {U:St} {H1:Hp} {s1:Shared} {x:Str} {t:Tok} {R:It->Hp->Prop} (hc:X.calm=true) (I1:Inv X pins U H1 s1) (q:R (YB (yD x) x.cps.size) H1):
  wpAny (model X.prog X.w) X.A (call (.type "enumerate") [.str x t]) (fun v s1=>wpAny (model X.prog X.w) X.A (pyIter v) (PIE X pins U (.Tuple elts k tp) R) X.xe s1) X.xe s1:=by
 refine call_enumerate_str fun h' he hit hsz hk=>?_
 have J1:Inv X pins U H1 {s1 with heap:=h'}:=I1.kept (t':=s1.toks) hk
 have ne1:s1.heap.objs.size+1≠s1.heap.objs.size:=Nat.succ_ne_self _
 have nm:s1.heap.objs.size+1 ∉ [s1.heap.objs.size]:=fun z=>ne1 (ZK.mp z)
 have hPt:∀ (i:Nat) (vals:Array Value),(∃ t y,SignAt x i y/\vals= #[.int i t,y])->Vals (yD x i) vals.toList:=by
  rintro i vals ⟨t,y,⟨c,u,e1,rfl⟩,rfl⟩
  refine .cons ⟨t,rfl⟩ (.cons ⟨u,?_⟩ .nil)
  rw [show x.cps.getD i 0=c by simp [Array.getD_eq_getD_getElem?,e1]]
 have fin:∀ (ty:String) (Dr:∀ A:Around,A.handled=none->Draws X.prog X.w A s1.heap.objs.size [s1.heap.objs.size] x.cps.size (SignAt x) fun i h=>h.IsStrIter s1.heap.objs.size ty x t i),h'.IsStrIter s1.heap.objs.size ty x t 0->
   wpAny (model X.prog X.w) X.A (pyIter (.ref (s1.heap.objs.size+1))) (PIE X pins U (.Tuple elts k tp) R) X.xe {s1 with heap:=h'}:=by
  intro ty Dr hit'
  have W:∀ A:Around,A.handled=none->WalksT X.prog X.w A (s1.heap.objs.size+1) [s1.heap.objs.size+1,s1.heap.objs.size] [s1.heap.objs.size+1,s1.heap.objs.size] x.cps.size
    (fun i vals=>∃ t y,SignAt x i y/\vals= #[.int i t,y]) (fun i h=>(∃ old,IsEnum h (s1.heap.objs.size+1) s1.heap.objs.size i old)/\h.IsStrIter s1.heap.objs.size ty x t i)
    (fun i T h=>(∃ y,IsEnumOut h (s1.heap.objs.size+1) s1.heap.objs.size ((i:Int)+1) y T)/\h.IsStrIter s1.heap.objs.size ty x t (i+1)/\T≠s1.heap.objs.size+1/\T≠s1.heap.objs.size):=
   fun A hA=>WalksT.enumerateD (Dr A.in1 hA) (s1.heap.objs.size+1) ne1 nm (by simp)
  have hself:∀ (A:Around) (i:Nat) (s:Shared) (Q:Value->Shared->Prop) (E:Value->Shared->Prop),((∃ old,IsEnum s.heap (s1.heap.objs.size+1) s1.heap.objs.size i old)/\s.heap.IsStrIter s1.heap.objs.size ty x t i)->Q (.ref (s1.heap.objs.size+1)) s->wpAny (model X.prog X.w) A (pyIter (.ref (s1.heap.objs.size+1))) Q E s:=by
   rintro A i s Q E ⟨⟨old,he⟩,_⟩ hQ
   exact wpAny_pyIter_enum he hQ
  refine hself _ 0 _ _ _ ⟨⟨_,he⟩,hit'⟩ ?_
  refine ⟨s1.heap.objs.size+1,[s1.heap.objs.size+1,s1.heap.objs.size],_,_,H1,rfl,J1,Rn W (fun i=>by simp [yD];decide) hPt (by simp) ?_ hself,⟨⟨_,he⟩,hit'⟩,fun b hb=>?_,q⟩
  ·rintro i h ⟨⟨old,he⟩,o,ho,hcl,hd⟩ b hb
   rcases Zg.mp hb with rfl | hb
   ·exact ⟨_,he,fun v z=>by cases z⟩
   ·rw [ZK.mp hb]
    exact ⟨o,ho,fun v z=>by rw [hd] at z;cases z⟩
  ·have hb':s1.heap.objs.size<=b:=by
    rcases Zg.mp hb with rfl | hb
    ·exact Nat.le_succ _
    ·rw [ZK.mp hb];exact YW _
   exact I1.fpOk hb' (I1.hok.fresh hb')
 cases hx:x.cps.all (· < 128)
 ·exact fin "str_iterator" (fun A hA=>Draws.strWide hA _ x t) (by simpa [strIterType,hx] using hit)
 ·exact fin "str_ascii_iterator" (fun A hA=>Draws.strAscii hA _ x t) (by simpa [strIterType,hx] using hit)
def O2 (K:W.Frag) (ta:TA):TI:=fun U H R=>ta U H fun vs H1=>(∃ x:Str,vs=[.str x]/\R (YB (yD x) x.cps.size) H1)\/∃ a xs,vs=[.ref a]/\SqL K H1 a xs/\R (UV K a) H1
theorem Bu {X:Cx} {K:W.Frag} {a:Expr} {ta:TA} {elts:List Expr} {k:Nat} {tp p pos:Pos} (hK:X.K=K) (hc:X.calm=true) (hg:Gl X "enumerate") (hm:X.mg "enumerate"=none) (ha:JA X [a] ta) (h:autoParam (notStar a=true) L2.auto4._auto_1):
  JI X (.Tuple elts k tp) (.Call (.Name "enumerate" p) [a] [] pos) (O2 K ta):=⟨by
 subst hK
 intro pins s U H R I hq
 refine Call_ (t8 I hg hm xn (PyProof.Rows.callWith_type1 (dM (ha.run pos pins s U H _ I hq) fun us s1 qq0=>?_) (fP h) rfl))
 obtain ⟨vs,H1,I1,r1,q1⟩:=qq0
 rcases q1 with ⟨x,e,q⟩ | ⟨l,xs,e,hl,q⟩
 ·subst e
  obtain ⟨u,rfl,t,rfl⟩:=vals1 r1
  exact Dq hc I1 q
 ·subst e
  obtain ⟨u,rfl,ru⟩:=vals1 r1
  cases ru
  obtain ⟨its,rv,p1,_⟩:=I1.list hl
  refine call_enumerate_list p1.isList fun h' z1 z2 z3 hk=>?_
  have J1:Inv X pins U H1 {s1 with heap:=h'}:=I1.kept (t':=s1.toks) hk
  refine wpAny_pyIter_enum z1 ?_
  refine ⟨s1.heap.objs.size+1,_,_,_,H1,rfl,J1,zY (Nat.succ_ne_self _),⟨⟨_,z1⟩,z2⟩,fun b hb=>?_,q⟩
  have hb':s1.heap.objs.size<=b:=by
   simp only [Zg,Aay,or_false] at hb
   have key:∀ n c:Nat,(c=n+1\/c=n)->n<=c:=fun n c h=>by omega
   exact key _ _ hb
  exact I1.fpOk hb' (I1.hok.fresh hb')⟩
end L2
namespace L2
open PySem PySem.Spec PyProof.Rows PySem.SeqAt
mutual
def DR (H:Hp):PyData->V->Prop
 | .none,v=>v= .non
 | .bool b,v=>v= .bl b
 | .int n,v=>v= .int n
 | .str x,v=>v= .str x
 | .list ds,v=>∃ a vs,v= .ref a/\H a=some (.lst vs)/\DRs H ds vs
 | .tuple ds,v=>∃ a vs,v= .ref a/\H a=some (.tup vs)/\DRs H ds vs
 | .dict _,_=>False
def DRs (H:Hp):List PyData->List V->Prop
 | [],vs=>vs=[]
 | d :: ds,vs=>∃ v r,vs=v :: r/\DR H d v/\DRs H ds r
end
theorem Rp {H:Hp} {n:Int} {v:V}:DR H (.int n) v↔v= .int n:=by rw [DR]
theorem xu {H:Hp} {ds:List PyData} {v:V}:DR H (.list ds) v↔∃ a vs,v= .ref a/\H a=some (.lst vs)/\DRs H ds vs:=by rw [DR]
theorem qx {H:Hp} {ds:List PyData} {v:V}:DR H (.tuple ds) v↔∃ a vs,v= .ref a/\H a=some (.tup vs)/\DRs H ds vs:=by rw [DR]
theorem qy {H:Hp} {vs:List V}:DRs H [] vs↔vs=[]:=by rw [DRs]
theorem m8 {H:Hp} {d:PyData} {ds:List PyData} {vs:List V}:DRs H (d :: ds) vs↔∃ v r,vs=v :: r/\DR H d v/\DRs H ds r:=by rw [DRs]
theorem qz {H:Hp}:∀ (ns:List Int),DRs H (ns.map PyData.int) (ns.map V.int)
 | []=>qy.mpr rfl
 | n :: ns=>m8.mpr ⟨_,_,rfl,Rp.mpr rfl,qz ns⟩
mutual
theorem DR.reads {P:Program} {w:World} {H:Hp} {h:Heap} (ok:HOk P w H h):∀ (d:PyData) (v:V) (u:Value),DR H d v->RelV v u->∃ as,Reads h u d as
 | .none,_,u,q,r=>by rw [DR] at q;subst q;cases r;exact ⟨_,.none⟩
 | .bool b,_,u,q,r=>by rw [DR] at q;subst q;cases r;exact ⟨_,.bool _⟩
 | .int n,_,u,q,r=>by rw [DR] at q;subst q;obtain ⟨t,rfl⟩:=r;exact ⟨_,.int _ _⟩
 | .str n,_,u,q,r=>by rw [DR] at q;subst q;obtain ⟨t,rfl⟩:=r;exact ⟨_,.str _ _⟩
 | .list ds,v,u,q,r=>by
  rw [DR] at q
  obtain ⟨a,vs,rfl,e,t⟩:=q
  cases r
  obtain ⟨_,its,n,rv,g⟩:=ok a _ e
  obtain ⟨as,ra⟩:=DRs.reads ok ds vs its t rv
  exact ⟨_,.list g rfl rfl (by simpa using ra)⟩
 | .tuple ds,v,u,q,r=>by
  rw [DR] at q
  obtain ⟨a,vs,rfl,e,t⟩:=q
  cases r
  obtain ⟨_,its,rv,g⟩:=ok a _ e
  obtain ⟨as,ra⟩:=DRs.reads ok ds vs its t rv
  obtain ⟨o,ho,hc,n,hd⟩:=g
  exact ⟨_,.tuple ho hc hd (by simpa using ra)⟩
 | .dict _,_,_,q,_=>by rw [DR] at q;exact q.elim
theorem DRs.reads {P:Program} {w:World} {H:Hp} {h:Heap} (ok:HOk P w H h):∀ (ds:List PyData) (vs:List V) (us:List Value),DRs H ds vs->Vals vs us->∃ as,ReadsAll h us ds as
 | [],_,us,q,r=>by rw [DRs] at q;subst q;cases r;exact ⟨_,.nil⟩
 | d :: ds,_,us,q,r=>by
  rw [DRs] at q
  obtain ⟨v,r',rfl,q1,q2⟩:=q
  cases r with
  | cons a b=>
   obtain ⟨as,h1⟩:=DR.reads ok d v _ q1 a
   obtain ⟨bs,h2⟩:=DRs.reads ok ds r' _ q2 b
   exact ⟨_,.cons h1 h2⟩
end
def Wd:R2:=fun x y H Q=>∃ d e,DR H d x/\DR H e y/\shaped d=true/\shaped e=true/\Q (.bl (PyData.eqv d e)) H
def We:R2:=fun x y H Q=>∃ d e,DR H d x/\DR H e y/\shaped d=true/\shaped e=true/\Q (.bl (!PyData.eqv d e)) H
section
variable {X:Cx}
theorem Rq (hu:X.A.units+64 < cLine):OpR X (compareOp .Eq) Wd:=by
 intro pins s U H x y v u Q I rx ry h
 obtain ⟨d,e,h1,h2,h3,h4,q⟩:=h
 obtain ⟨as,r1⟩:=DR.reads I.hok d x v h1 rx
 obtain ⟨bs,r2⟩:=DR.reads I.hok e y u h2 ry
 exact eq_dataH r1 r2 h3 h4 hu ⟨.bl _,H,I,rfl,q⟩
theorem Rr (hu:X.A.units+64 < cLine):OpR X (compareOp .NotEq) We:=by
 intro pins s U H x y v u Q I rx ry h
 obtain ⟨d,e,h1,h2,h3,h4,q⟩:=h
 obtain ⟨as,r1⟩:=DR.reads I.hok d x v h1 rx
 obtain ⟨bs,r2⟩:=DR.reads I.hok e y u h2 ry
 exact ne_dataH r1 r2 h3 h4 hu ⟨.bl _,H,I,rfl,q⟩
def Ds (K:W.Frag):R2:=fun x y H Q=>Ra K x y H Q\/Wd x y H Q
def Dt (K:W.Frag):R2:=fun x y H Q=>Wc K x y H Q\/We x y H Q
theorem Rt {K:W.Frag} (hK:X.K=K) (hu:X.A.units+64 < cLine):OpR X (compareOp .Eq) (Ds K):=(Rh hK (Aao (Aaz _ _) hu)).or (Rq hu)
theorem m9 {K:W.Frag} (hK:X.K=K) (hu:X.A.units+64 < cLine):OpR X (compareOp .NotEq) (Dt K):=(Ro hK hu).or (Rr hu)
end
section
variable {H:Hp} {Q:VK} {K:W.Frag} {U:St}
theorem jn {i j:Int} (h:Q (.bl (decide (V.int i=V.int j))) H):Ds K (.int i) (.int j) H Q:=.inl (.inl ⟨rfl,h⟩)
theorem jo {i j:Str} (h:Q (.bl (decide (V.str i=V.str j))) H):Ds K (.str i) (.str j) H Q:=.inl (.inl ⟨rfl,h⟩)
theorem kE {i j:Int} (h:Q (.bl (!decide (V.int i=V.int j))) H):Dt K (.int i) (.int j) H Q:=.inl (.inl ⟨rfl,h⟩)
theorem jq {i j:Bool} (h:Q (.bl (!decide (V.bl i=V.bl j))) H):Dt K (.bl i) (.bl j) H Q:=.inl (.inl ⟨rfl,h⟩)
theorem Hq {x y:V} {d:PyData} (h1:DR H d x) (h2:DR H d y) (hs:shaped d=true) (h:Q (.bl true) H):Ds K x y H Q:=
 .inr ⟨d,d,h1,h2,hs,hs,by rw [PySem.SeqAt.eqv_refl d (canLay_of_shaped hs)];exact h⟩
theorem uB {x y:V} {d e:PyData} (h1:DR H d x) (h2:DR H e y) (hs:shaped d=true) (hs2:shaped e=true) (h:Q (.bl (PyData.eqv d e)) H):Ds K x y H Q:=.inr ⟨d,e,h1,h2,hs,hs2,h⟩
theorem Hr {x y:V} {d e:PyData} (h1:DR H d x) (h2:DR H e y) (hs:shaped d=true) (hs2:shaped e=true) (h:Q (.bl (!PyData.eqv d e)) H):Dt K x y H Q:=.inr ⟨d,e,h1,h2,hs,hs2,h⟩
theorem iy {a:TA} {R:It->Hp->Prop} (h:a U H fun vs H1=>(∃ x:Str,vs=[.str x]/\R (YB (yD x) x.cps.size) H1)\/∃ a xs,vs=[.ref a]/\SqL K H1 a xs/\R (UV K a) H1):O2 K a U H R:=h
theorem wB {a:Addr} {xs:List V} {g:TG} {tb:TS} {D:Ends} (Pv:Nat->St->Hp->Prop) (h0:Pv 0 U H) (hq:∀ i U H,i<=xs.length->Pv i U H->SqL K H a xs)
  (hs:∀ i U H T x,xs[i]?=some x->Pv i U H->H T=none->g (.ref T) U (upd H T (.tup [.int i,x])) fun σ2 H2=>tb {D with nx:=Pv (i+1),ct:=Pv (i+1),bk:=D.nx} σ2 H2) (hd:∀ U H,Pv xs.length U H->D.nx U H):
  ∃ W:Nat->Nat->St->Hp->Prop,(∃ m,W 0 m U H)/\∀ i m U H,W i m U H->
   ((UV K a).stop i H/\D.nx U H)\/((UV K a).go i H/\∃ N:St->Hp->Prop,(∀ U' H',N U' H'->∃ m',m' < m/\W (i+1) m' U' H')/\∀ x H',(UV K a).yld i H x H'->g x U H' fun σ2 H2=>tb {D with nx:=N,ct:=N,bk:=D.nx} σ2 H2):=by
 refine ⟨fun i m U H=>m=xs.length - i/\i<=xs.length/\Pv i U H,⟨xs.length,by simp,Aaj _,h0⟩,?_⟩
 rintro i m U H ⟨rfl,hi,p⟩
 have q1:=hq i U H hi p
 by_cases hlt:i < xs.length
 ·refine .inr ⟨⟨xs,xs[i],q1,YL hlt⟩,Pv (i+1),fun U' H' p'=>⟨xs.length - (i+1),by omega,rfl,hlt,p'⟩,fun x H' y=>?_⟩
  obtain ⟨T,u,hT,e1,e2,e4⟩:=y
  subst e1 e4
  exact hs i U H T u (e2 xs q1) p hT
 ·have e:i=xs.length:=by omega
  subst e
  exact .inl ⟨⟨xs,q1,YW _⟩,hd U H p⟩
end
end L2
namespace L2
open PySem PySem.Spec PyProof.Rows
section
variable {X:Cx} {K:W.Frag} {a b c e:Expr} {ta tb tc te:TE} {pos p p2 p3:Pos}
theorem Ls {op op':CmpOp} {r r':R2} (ho:OpR X (compareOp op) r) (ho':OpR X (compareOp op') r') (ha:JE X a ta) (hb:JE X b tb) (hc:JE X c tc) (hm:autoParam (lastMarks [op,op'] [b,c]=false) L2.auto5._auto_1):
  JE X (.Compare a [op,op'] [b,c] pos) (uf r r' ta tb tc):=⟨Gg ho ho' ha.run hb.run hc.run hm⟩
theorem Hs {op op':CmpOp} {r r':R2} (ho:OpR X (compareOp op) r) (ho':OpR X (compareOp op') r') (ha:JE X a ta) (hb:JE X b tb) (hc:JE X c tc) (hm:autoParam (lastMarks [op,op'] [b,c]=false) L2.auto5._auto_1):
  JT X (.Compare a [op,op'] [b,c] pos) (v4 (uf r r' ta tb tc)):=⟨Gh ho ho' ha.run hb.run hc.run hm⟩
end
def Du (h:Heap) (T:Addr):Prop:=∃ oT ts,h.get? T=some oT/\oT.data= .fields ts/\3 < ts.size
def fj (C:Addr) (dd:Option Addr) (vs:Array Value):Obj:={cls:=.ref C,dict:=dd,data:=.fields vs}
def Lw (l:List Env):List Addr:=l.filterMap (·.frame)
section
variable {M:Model} {A:Around} {E:Value->Shared->Prop}
theorem wC {base:Heap} {env:Env} {outer:List Env} {L x C:Addr} {dd:Option Addr} {vs:Array Value} {hd:Value} {had:Bool} {Q:Unit->Shared->Prop} {s:Shared}
  (fr:A.frames=some (env :: outer)) (ff:s.heap.FunFrames base (env :: outer)) (fL:env.frame=some L) (ex:s.heap.get? x=some (fj C dd vs)) (sz:1 < vs.size) (nx:x ∉ Lw (env :: outer))
  (k:∀ h' T,h'.get? x=some (fj C dd (vs.setIfInBounds 1 (.ref T)))->s.heap.objs.size<=T->Du h' T->(∀ b o,b≠x->b ∉ Lw (env :: outer)->s.heap.get? b=some o->h'.get? b=some o)->
   (∀ b o,b≠x->s.heap.get? b=some o->∃ sl,h'.get? b=some {o with slots:=sl})->Q () {s with heap:=h'}):
  wpAny M A (do let c ← frameOf env;let pl ← entryPlaceOf L had;let t ← EntryCells.newEntry hd c .none (rawInt L) .none pl;setField (.ref x) 1 t) Q E s:=by
 refine YK (wpAny_frameOf_fun fr ff fL fun g1 so=>?_)
 refine YK (wpAny_entryPlaceOf fun pl isp=>?_)
 unfold EntryCells.newEntry newFields
 refine YK (ZX ?_ (isp.sizeOk5 _ _ _ _ _))
 have x1:g1.get? x=some (fj C dd vs):=(so.2.1 x nx).trans ex
 have lts:([hd,Value.ref L,.none,rawInt L,.none] ++ (if pl.isEmpty then List.replicate 6 Value.none else pl)).toArray.size > 3:=by
  simp only [Y9,YX,ZW,Z1];omega
 generalize ([hd,Value.ref L,.none,rawInt L,.none] ++ (if pl.isEmpty then List.replicate 6 Value.none else pl)).toArray=tv at lts
 have x2:(g1.push {cls:=.type "traceback",dict:=none,data:=.fields tv}).get? x=some (fj C dd vs):=YT _ x1
 have nTx:g1.objs.size≠x:=Abh (Y7 x1)
 have t2:(g1.push {cls:=.type "traceback",dict:=none,data:=.fields tv}).get? g1.objs.size=some {cls:=.type "traceback",dict:=none,data:=.fields tv}:=Y6 _ rfl
 have o2:∀ b o,g1.get? b=some o->(g1.push {cls:=.type "traceback",dict:=none,data:=.fields tv}).get? b=some o:=fun b o e=>YT _ e
 refine AbA (vs:=vs) x2 rfl sz ?_
 have e3:=Aaw (Obj.mapFields (·.setIfInBounds 1 (Value.ref g1.objs.size))) x2 rfl
 have ot:∀ b,b≠x->((g1.push {cls:=.type "traceback",dict:=none,data:=.fields tv}).update x (Obj.mapFields (·.setIfInBounds 1 (Value.ref g1.objs.size)))).get? b=(g1.push {cls:=.type "traceback",dict:=none,data:=.fields tv}).get? b:=fun b hb=>Aar _ _ (Ne.symm hb)
 refine k _ g1.objs.size e3 (by rw [so.1];exact YW _) ⟨_,tv,(ot _ nTx).trans t2,rfl,lts⟩ (fun b o hb hf e=>?_) (fun b o hb e=>?_)
 ·rw [ot b hb];exact o2 b o ((so.2.1 b hf).trans e)
 ·obtain ⟨sl,q⟩:=so.2.2 b o e
  exact ⟨sl,by rw [ot b hb];exact o2 b _ q⟩
structure Bv (fs:List Addr) (x C:Addr) (dd:Option Addr) (hd:Option Addr) (h h':Heap) (T:Addr):Prop where
 obj:∃ vs,h'.get? x=some (fj C dd vs)/\vs[1]?=some (.ref T)/\vs[2]?=some .none
 tb:Du h' T
 ne:T≠x
 new:h.objs.size<=T\/hd=some T
 keep:∀ b o,b≠x->some b≠hd->b ∉ fs->h.get? b=some o->h'.get? b=some o
 slot:∀ b o,b≠x->some b≠hd->h.get? b=some o->∃ sl,h'.get? b=some {o with slots:=sl}
 tail:∀ b o,hd=some b->h.get? b=some o->∃ o',h'.get? b=some o'
theorem Wf {base:Heap} {env:Env} {outer:List Env} {L x C:Addr} {dd:Option Addr} {vs:Array Value} {Q:Unit->Shared->Prop} {s:Shared}
  (fr:A.frames=some (env :: outer)) (ff:s.heap.FunFrames base (env :: outer)) (fL:env.frame=some L) (ex:s.heap.get? x=some (fj C dd vs)) (h1:vs[1]?=some .none/\vs[2]?=some .none) (nx:x ∉ Lw (env :: outer))
  (k:∀ h' T,Bv (Lw (env :: outer)) x C dd none s.heap h' T->Q () {s with heap:=h'}):wpAny M A (noteFrame (.ref x) env) Q E s:=by
 unfold noteFrame
 simp only [fL]
 refine YK (AaQ ex rfl h1.1 ?_)
 rw [if_neg (by decide)]
 have sz:1 < vs.size:=(Zk.mp h1.1).1
 refine wC fr ff fL ex sz nx fun h' T a1 a2 a3 a4 a5=>k h' T ⟨⟨_,a1,by simp [sz],by rw [Array.getElem?_setIfInBounds_ne (by decide)];exact h1.2⟩,a3,?_,.inl a2,fun b o hb _ hf e=>a4 b o hb hf e,fun b o hb _ e=>a5 b o hb e,fun b o z=>by cases z⟩
 exact Abh (Zi (Y7 ex) a2)
theorem Wg {base:Heap} {env:Env} {outer:List Env} {L x C T0:Addr} {dd:Option Addr} {vs:Array Value} {Q:Unit->Shared->Prop} {s:Shared}
  (fr:A.frames=some (env :: outer)) (ff:s.heap.FunFrames base (env :: outer)) (fL:env.frame=some L) (ex:s.heap.get? x=some (fj C dd vs)) (h1:vs[1]?=some (.ref T0)/\vs[2]?=some .none) (t0:Du s.heap T0) (ne:T0≠x) (nx:x ∉ Lw (env :: outer)) (nT:T0 ∉ Lw (env :: outer))
  (k:∀ h' T,Bv (Lw (env :: outer)) x C dd (some T0) s.heap h' T->Q () {s with heap:=h'}):wpAny M A (noteFrame (.ref x) env) Q E s:=by
 obtain ⟨oT,ts,g,d,l3⟩:=id t0
 unfold noteFrame
 simp only [fL]
 refine YK (AaQ ex rfl h1.1 ?_)
 rw [if_pos (show (Value.ref T0 != Value.none)=true from by simp)]
 refine YK (AaQ g d (Array.getElem?_eq_getElem l3) ?_)
 by_cases q:(ts[3] == rawInt L)=true
 ·rw [if_pos q]
  exact YM (k _ T0 ⟨⟨vs,ex,h1⟩,t0,ne,.inr rfl,fun b o _ _ _ e=>e,fun b o _ _ e=>⟨o.slots,e⟩,fun b o _ e=>⟨o,e⟩⟩)
 ·rw [if_neg q]
  refine YK (AbA g d l3 ?_)
  have tT:=Aaw (Obj.mapFields (·.setIfInBounds 3 Value.none)) g (Obj.isFreed_of_fields (Obj.data_mapFields d _))
  have ot:∀ b,b≠T0->(s.heap.update T0 (Obj.mapFields (·.setIfInBounds 3 Value.none))).get? b=s.heap.get? b:=fun b hb=>Aar _ _ (Ne.symm hb)
  have sz:1 < vs.size:=(Zk.mp h1.1).1
  have ff2:(s.heap.update T0 (Obj.mapFields (·.setIfInBounds 3 Value.none))).FunFrames base (env :: outer):=ff.of_keeps fun b o hb hn=>by
   refine ⟨o,(ot b (fun z=>?_)).trans hb,rfl⟩
   rw [z,g] at hb;cases hb;exact hn _ d
  refine wC (s:={s with heap:=s.heap.update T0 (Obj.mapFields (·.setIfInBounds 3 Value.none))}) fr ff2 fL ((ot x (Ne.symm ne)).trans ex) sz nx fun h' T a1 a2 a3 a4 a5=>k h' T ⟨⟨_,a1,by simp [sz],by rw [Array.getElem?_setIfInBounds_ne (by decide)];exact h1.2⟩,a3,?_,.inl (by rw [Heap.size_update] at a2;exact a2),fun b o hb h0 hf e=>a4 b o hb hf ((ot b (fun z=>h0 (by rw [z]))).trans e),fun b o hb h0 e=>a5 b o hb ((ot b (fun z=>h0 (by rw [z]))).trans e),fun b o hb e=>?_⟩
  ·exact Abh (Zi (Y7 ex) (by rw [Heap.size_update] at a2;exact a2))
  ·cases hb
   obtain ⟨sl,z⟩:=a5 T0 _ ne tT
   exact ⟨_,z⟩
theorem Wh {x C T0:Addr} {dd:Option Addr} {vs:Array Value} {Q:Unit->Shared->Prop} {s:Shared} (ex:s.heap.get? x=some (fj C dd vs)) (h1:vs[1]?=some (.ref T0)/\vs[2]?=some .none) (t0:Du s.heap T0) (ne:T0≠x)
  (k:∀ h',Bv [] x C dd (some T0) s.heap h' T0->Q () {s with heap:=h'}):wpAny M A (setFlight (.ref x) none) Q E s:=by
 obtain ⟨oT,ts,g,d,l3⟩:=id t0
 unfold setFlight
 refine YK (AaQ ex rfl h1.1 ?_)
 rw [if_pos (show (Value.ref T0 != Value.none)=true from by simp)]
 refine AbA g d l3 (k _ ?_)
 have d2:=Obj.data_mapFields d (·.setIfInBounds 3 ((none:Option Addr).elim Value.none fun f=>rawInt f))
 have tT:=Aaw (Obj.mapFields (·.setIfInBounds 3 ((none:Option Addr).elim Value.none fun f=>rawInt f))) g (Obj.isFreed_of_fields d2)
 have ot:∀ b,b≠T0->(s.heap.update T0 (Obj.mapFields (·.setIfInBounds 3 ((none:Option Addr).elim Value.none fun f=>rawInt f)))).get? b=s.heap.get? b:=fun b hb=>Aar _ _ (Ne.symm hb)
 exact ⟨⟨vs,(ot x (Ne.symm ne)).trans ex,h1⟩,⟨_,_,tT,d2,by simpa using l3⟩,ne,.inr rfl,fun b o _ h0 _ e=>(ot b (fun z=>h0 (by rw [z]))).trans e,fun b o _ h0 e=>⟨o.slots,(ot b (fun z=>h0 (by rw [z]))).trans e⟩,fun b o hb e=>by cases hb;exact ⟨_,tT⟩⟩
end
def Wi:List Value:=[.type "ValueError",.type "Exception",.type "BaseException",.type "object"]
def UW (K:W.Frag) (D:Addr):Bool:=match K.lookup D with
 | some ⟨.type "type",_,.cls cd,sl⟩=>(match cd.mro,sl.toList with
  | .ref E :: bm,[_,_,_,_,some (.builtin n),_]=>E == D && n == "ValueError.__new__" && cd.hasDel == false && cd.hasDict && PySem.W.tailIn K Wi bm
  | _,_=>false)
 | _=>false
theorem uC {K:W.Frag} {D:Addr} (q:UW K D=true):∃ nm qn N bs bm sn sub ab col dd k0 k1 k2 k3 k5,K.lookup D=some (excClassObj nm qn D N bs bm true sn sub ab col dd k0 k1 k2 k3 k5 "ValueError.__new__")/\∀ h,K.In h->OwnTail h Wi bm:=by
 unfold UW at q
 split at q
 ·rename_i dd cd sl ho
  split at q
  ·rename_i D' bm k0 k1 k2 k3 n k5 hm hs
   simp only [Zm,Aa6] at q
   obtain ⟨⟨⟨⟨e1,e2⟩,e3⟩,e4⟩,e5⟩:=q
   subst e1 e2
   obtain ⟨nm,bs,mro,ns,qn,hd,sn,sub,ab,col,del⟩:=cd
   dsimp only at hm e3 e4
   subst hm e3 e4
   have hsl:sl= #[k0,k1,k2,k3,some (.builtin "ValueError.__new__"),k5]:=by
    obtain ⟨l⟩:=sl
    dsimp only at hs
    rw [hs]
   subst hsl
   exact ⟨nm,qn,ns,bs,bm,sn,sub,ab,col,dd,k0,k1,k2,k3,k5,ho,fun h X=>PySem.W.tail_of_in X e5⟩
  ·cases q
 ·cases q
section
variable {prog:Program} {w:World} {A:Around} {K:W.Frag} {D f:Addr} {E:Value->Shared->Prop}
theorem yE {h:Heap} {g:Array GenState} {d:Drawn} {t:Nat} {os:OsState} {us:List Value} {Q:Fin->Shared->Prop} (X:K.In h) (hx:UW K D=true)
  (hi:PySem.W.findIn K (.ref D) "__init__"=some (some (.ref f))) (hf:PySem.W.typeIn K (.ref f)=some (.type "function")) (hl:us.length<=sizeLine)
  (k:wpAny (model prog w) A (call (.ref f) (.ref (h.objs.size+1) :: us)) (fun r s'=>r= .none/\Q (.done (.ret (.ref (h.objs.size+1)))) s') E
   ⟨(h.push {cls:=.type "tuple",data:=.seq us.toArray}).push (fj D none #[.ref h.objs.size,.none,.none,.none,.bool false,.none]),g,d,t,os⟩):
  wpAny (model prog w) A (Builtin.«type.__call__» ⟨.ref D :: us,[]⟩) Q E ⟨h,g,d,t,os⟩:=by
 obtain ⟨nm,qn,N,bs,bm,sn,sub,ab,col,dd,k0,k1,k2,k3,k5,lk0,tl⟩:=uC hx
 have T:=tl h X
 have hD:=X _ _ lk0
 have L3:=AaG (M:=model prog w) X hi
 have L4:=PySem.W.bind_fn (M:=model prog w) X (.ref (h.objs.size+1)) hf
 repeat (first | with_reducible refine Aak hD ?_ | with_reducible refine wpAny_madeBy_exc hD ?_ | wp_step)
 refine codeAny_call_builtin_code (Code.quiet_builtin _ F.excBase_ValueError.quiet) (wpAny_check_new_subT F.excBase_ValueError T hD (codeAny_exc_new_subT F.excBase_ValueError T hD ?_ hl))
 show wpAny _ _ _ _ _ _
 have keep:∀ b o,h.get? b=some o->((h.push {cls:=.type "tuple",data:=.seq us.toArray}).push (fj D none #[.ref h.objs.size,.none,.none,.none,.bool false,.none])).get? b=some o:=fun b o q=>YT _ (YT _ q)
 have gx:((h.push {cls:=.type "tuple",data:=.seq us.toArray}).push (fj D none #[.ref h.objs.size,.none,.none,.none,.bool false,.none])).get? (h.objs.size+1)=some (fj D none #[.ref h.objs.size,.none,.none,.none,.bool false,.none]):=by
  have:=Y6 (h.push {cls:=.type "tuple",data:=.seq us.toArray}) (o:=fj D none #[.ref h.objs.size,.none,.none,.none,.bool false,.none]) rfl
  rwa [AaS] at this
 have hD1:=keep _ _ hD
 have M3:=L3.keeps keep
 have M4:=L4.keeps keep
 have cD:(Value.ref D :: bm).contains (.ref D)=true:=by simp
 unfold fj at gx M3 M4 hD1 k
 unfold isInstance
 repeat (first | with_reducible refine Aak gx ?_ | (with_reducible refine Aba hD1 ?_;rw [cD]) | wp_step)
 show wpAny _ _ (typeLookup (.ref D) _) _ _ _
 refine M3.at ?_
 refine Zz (YK (M4.at ?_))
 dsimp only
 refine YK (ZP k (fun r s' hr=>?_) fun _ _ z=>z)
 obtain ⟨rfl,z⟩:=hr
 wp_walk
 exact z
theorem Ru {s:Shared} {us:List Value} {Q:Value->Shared->Prop} (X:K.In s.heap) (hx:UW K D=true)
  (hi:PySem.W.findIn K (.ref D) "__init__"=some (some (.ref f))) (hf:PySem.W.typeIn K (.ref f)=some (.type "function")) (hl:us.length<=sizeLine)
  (k:wpAny (model prog w) (A.under (.builtin "type.__call__" ⟨.ref D :: us,[]⟩)) (call (.ref f) (.ref (s.heap.objs.size+1) :: us)) (fun r s'=>r= .none/\Q (.ref (s.heap.objs.size+1)) s') E
   {s with heap:=(s.heap.push {cls:=.type "tuple",data:=.seq us.toArray}).push (fj D none #[.ref s.heap.objs.size,.none,.none,.none,.bool false,.none])}):
  wpAny (model prog w) A (call (.ref D) us) Q E s:=by
 obtain ⟨h,g,d,t,os⟩:=s
 obtain ⟨nm,qn,N,bs,bm,sn,sub,ab,col,dd,k0,k1,k2,k3,k5,lk0,tl⟩:=uC hx
 have hD:=X _ _ lk0
 have f1:=tc_lookup
 have f2:=tc_bind (.ref D)
 have hT:(⟨h,g,d,t,os⟩:Shared).TypeIs (.ref D) "type":=⟨_,hD,rfl⟩
 refine Abi (codeAny_of_tree ?_)
 show wpAny _ _ (callAny (.ref D) _) _ _ _
 repeat (any_goals (first | assumption | with_reducible refine Aak hD ?_ | wp_step))
 refine ⟨rfl,codeAny_call_builtin_at (Code.quiet_builtin _ (by trivial)) entry_typeCall (wpAny_check_type_call_sub hD (yE X hx hi hf hl ?_))⟩
 exact k
end
def rn (x C dx:Addr):HO:=.ext fun h=>∃ vs,h.get? x=some (fj C (some dx) vs)/\vs[2]?=some .none
def jr (x C:Addr):HO:=.ext fun h=>∃ t,h.get? x=some (fj C none #[.ref t,.none,.none,.none,.bool false,.none])
theorem Bw {P:Program} {w:World} {H:Hp} {h:Heap} {x C dx:Addr} {vs:Array Value} (e:h.get? x=some (fj C (some dx) vs)) (h2:vs[2]?=some .none):ObjOk P w H h x (rn x C dx):=
 ⟨⟨vs,e,h2⟩,⟨_,e⟩,fun h1 h2 ⟨vs,e,z⟩ k=>⟨vs,k _ e,z⟩⟩
theorem Bx {P:Program} {w:World} {H:Hp} {h:Heap} {x C dx:Addr} (ok:HOk P w H h) (e:H x=some (rn x C dx)):∃ vs,h.get? x=some (fj C (some dx) vs)/\vs[2]?=some .none:=(ok _ _ e).1
structure Head (X:Cx) (pins:List (Addr×Obj)) (H:Hp) (x C dx T:Addr) (h:Heap):Prop where
 obj:∃ vs,h.get? x=some (fj C (some dx) vs)/\vs[1]?=some (.ref T)/\vs[2]?=some .none
 tb:Du h T
 fp:lE X pins H T
 tr:H x=some (rn x C dx)
theorem Head.ne {X:Cx} {pins:List (Addr×Obj)} {H:Hp} {x C dx T:Addr} {h:Heap} (a:Head X pins H x C dx T h):T≠x:=fun z=>by
 have:=a.fp.1
 rw [z,a.tr] at this;cases this
def Fly (X:Cx) (pins:List (Addr×Obj)) (H:Hp) (x C dx:Addr) (h:Heap):Prop:=
 H x=some (rn x C dx)/\((∃ vs,h.get? x=some (fj C (some dx) vs)/\vs[1]?=some .none/\vs[2]?=some .none)\/∃ T,Head X pins H x C dx T h)
section
variable {X:Cx} {pins:List (Addr×Obj)} {U:St} {H:Hp} {s:Shared} {x C dx:Addr} {h':Heap} {T:Addr} {hd:Option Addr}
theorem Inv.noted {fs:List Addr} (I:Inv X pins U H s) (hx:H x=some (rn x C dx)) (hh:∀ b,hd=some b->lE X pins H b) (hf:∀ b∈fs,b∈X.env.locals :: X.fs) (N:Bv fs x C (some dx) hd s.heap h' T):Inv X pins U H {s with heap:=h'}:=by
 obtain ⟨m,⟨oL,esL,epL,hoL,rL⟩,_⟩:=id I.loc
 have fsF:∀ b∈fs,H b=none:=fun b hb=>by
  rcases Zg.mp (hf b hb) with e | hb
  ·rw [e];exact I.free
  ·obtain ⟨_,o,ho,_⟩:=I.ok.funs.mem hb
   exact I.base.free b o ho (I.ok.frf b hb) fun z=>I.ok.exfs b z hb
 have nx:∀ b,H b=none->b≠x:=fun b n z=>by rw [z,hx] at n;cases n
 have hdF:∀ b,hd=some b->H b=none:=fun b e=>(hh b e).1
 have mem:∀ b,b ∉ hd.toList->some b≠hd:=fun b nb z=>nb (by rw [← z];simp)
 refine I.step (g':=s.gens) (d':=s.drawn) (t':=s.toks) (ch:=hd.toList) (fun b hb=>?_) (fun b o hL hb hc e n=>?_) (fun b o hL hb hc e n=>?_) (fun _ _ _ _ n=>n) (fun b o hc e=>?_) (fun _ _ e=>e) (fun _ _ _ e=>e) (fun b ps e=>⟨#[],by rw [e];simp⟩) (fun m hm=>?_) (fun b u e=>?_) I.bare
 ·have e:hd=some b:=by cases hd <;> simp_all
  obtain ⟨_,a2,_,a4,a5,a6⟩:=hh b e
  exact ⟨a4,a2,a5,a6⟩
 ·refine N.keep b o (nx b n) (mem b hc) (fun z=>?_) e
  rcases Zg.mp (hf b z) with q | q
  ·exact hL q
  ·exact hb q
 ·exact N.slot b o (nx b n) (mem b hc) e
 ·by_cases q:b=x
  ·obtain ⟨vs,z,_⟩:=N.obj
   exact ⟨_,by rw [q];exact z⟩
  ·obtain ⟨sl,z⟩:=N.slot b o q (mem b hc) e
   exact ⟨_,z⟩
 ·obtain ⟨o,es,ep,ho,r⟩:=hm
  obtain ⟨sl,z⟩:=N.slot _ o (nx _ I.free) (fun q=>(hh _ q.symm).2.1 rfl) ho
  exact ⟨_,es,ep,z,r⟩
 ·by_cases q:b=x
  ·subst q
   rw [hx] at e;cases e
   obtain ⟨vs,z,_,z2⟩:=N.obj
   exact Bw z z2
  ·refine (I.hok b u e).stay (fun c v hc z=>?_) (fun _ q=>q) fun _ _ q=>q
   have tc:∃ u,H c=some u:=by
    rcases hc with rfl | hc
    ·exact ⟨_,e⟩
    ·exact ⟨_,hc⟩
   obtain ⟨uc,tc⟩:=tc
   refine N.keep c v (fun zz=>?_) (fun zz=>?_) (fun zz=>?_) z
   ·rcases hc with rfl | hc
    ·exact q zz
    ·rw [zz,hx] at hc;cases hc
   ·rw [hdF c zz.symm] at tc;cases tc
   ·rw [fsF c zz] at tc;cases tc
theorem yF {A:Around} {E:Value->Shared->Prop} {Q:Unit->Shared->Prop} (I:Inv X pins U H s) (hst:X.stack=X.env :: X.outer) (hfr:X.env.frame=some X.env.locals) (hA:A.frames=some X.stack) (F:Fly X pins H x C dx s.heap)
  (k:∀ h' T,Inv X pins U H {s with heap:=h'}->Head X pins H x C dx T h'->Q () {s with heap:=h'}):wpAny (model X.prog X.w) A (noteFrame (.ref x) X.env) Q E s:=by
 have ff:s.heap.FunFrames X.base (X.env :: X.outer):=hst ▸ I.stack
 have sub:∀ b∈Lw (X.env :: X.outer),b∈X.env.locals :: X.fs:=fun b hb=>I.stkSub b (by rw [hst];exact hb)
 have nf:∀ b u,H b=some u->b ∉ Lw (X.env :: X.outer):=fun b u e z=>by
  rw [I.stkFree b (by rw [hst];exact z)] at e;cases e
 obtain ⟨hx,⟨vs,e,h1⟩ | ⟨T0,hT⟩⟩:=F
 ·refine Wf (hst ▸ hA) ff hfr e h1 (nf x _ hx) fun h' T N=>?_
  have J:=I.noted hx (fun b z=>by cases z) sub N
  refine k h' T J ⟨N.obj,N.tb,?_,hx⟩
  have zT:s.heap.objs.size<=T:=by rcases N.new with z | z;exact z;cases z
  exact I.fpOk zT (I.hok.fresh zT)
 ·obtain ⟨vs,e,h1⟩:=hT.obj
  refine Wg (hst ▸ hA) ff hfr e h1 hT.tb hT.ne (nf x _ hx) (fun z=>?_) fun h' T N=>?_
  ·rcases Zg.mp (sub T0 z) with q | q
   ·exact hT.fp.2.1 q
   ·exact hT.fp.2.2.1 q
  ·have J:=I.noted hx (fun b z=>by cases z;exact hT.fp) sub N
   refine k h' T J ⟨N.obj,N.tb,?_,hx⟩
   rcases N.new with z | z
   ·exact I.fpOk z (I.hok.fresh z)
   ·cases z;exact hT.fp
theorem uD {A:Around} {E:Value->Shared->Prop} {Q:Unit->Shared->Prop} (I:Inv X pins U H s) (F:Head X pins H x C dx T s.heap)
  (k:∀ h',Inv X pins U H {s with heap:=h'}->Head X pins H x C dx T h'->Q () {s with heap:=h'}):wpAny (model X.prog X.w) A (setFlight (.ref x) none) Q E s:=by
 obtain ⟨vs,e,h1⟩:=F.obj
 refine Wh e h1 F.tb F.ne fun h' N=>?_
 exact k h' (I.noted F.tr (fun b z=>by cases z;exact F.fp) (fun b z=>absurd z (by simp)) N) ⟨N.obj,N.tb,F.fp,F.tr⟩
def Rv (P:Program) (w:World):Fo:=fun outer H s E e s'=>∃ x C dx T H',e= .ref x/\s'.os=s.os/\AllBare s'.gens/\Un (frs outer) [] H H' s.heap s'.heap/\HOk P w H' s'.heap/\H' x=some (rn x C dx)/\H' T=none/\s.heap.objs.size<=T/\
 (∃ vs,s'.heap.get? x=some (fj C (some dx) vs)/\vs[1]?=some (.ref T)/\vs[2]?=some .none)/\Du s'.heap T/\E (.ref C) (some x) H'
def XE (X:Cx) (pins:List (Addr×Obj)) (R:St->XK) (e:Value) (s':Shared):Prop:=∃ x C dx U H',e= .ref x/\Inv X pins U H' s'/\Fly X pins H' x C dx s'.heap/\R U (.ref C) (some x) H'
theorem Lx {R:St->XK} {e:Value} {s':Shared} (I:Inv X pins U H s) (c:Rv X.prog X.w X.stack H s (R U) e s'):XE X pins R e s':=by
 obtain ⟨x,C,dx,T,H',rfl,os,bare,un,hok,tx,tT,zT,ob,tb,r⟩:=c
 obtain ⟨hh,g,d,t,os'⟩:=s'
 obtain rfl:os'=s.os:=os
 have J:=I.call (h':=hh) (g':=g) (d':=d) (t':=t) (ch:=[]) un hok bare (fun b z=>absurd z (by simp))
 exact ⟨x,C,dx,U,H',rfl,J,⟨tx,.inr ⟨T,ob,tb,I.fpOk zT tT,tx⟩⟩,r⟩
def qC (X:Cx) (R:St->XK):Prop:=∀ (pins:List (Addr×Obj)) (e:Value) (s':Shared),XE X pins R e s'->X.xe e s'
end
theorem jt {P:Program} {w:World} {K:W.Frag} {mg:Str->Option Value} {base:Heap} {N:List Str} {qual:Str} {scope:Scope} {f:Addr} {cd:Value} {A:Around} {outer:List Env} {s:Shared} {H:Hp} {E:XK}:
  qC (qe (Rv P w) P w K mg base N qual scope f cd A outer s H E) (fun _=>E):=by
 rintro pins e s' ⟨x,C,dx,U,H',he,I,F,r⟩
 subst he
 show wpAny _ _ (leaving _ _) _ _ _
 unfold leaving
 refine YK (yF (X:=qe (Rv P w) P w K mg base N qual scope f cd A outer s H E) I rfl rfl I.ok.frames F fun h1 T J1 F1=>?_)
 refine uD (X:=qe (Rv P w) P w K mg base N qual scope f cd A outer s H E) J1 F1 fun h2 J2 F2=>?_
 refine ⟨x,C,dx,T,H',rfl,J2.os,J2.bare,J2.base,J2.hok,F2.tr,F2.fp.1,?_,F2.obj,F2.tb,r⟩
 rcases F2.fp.2.2.2.1 with z | z
 ·exact absurd (show T∈([]:List Addr) from z) (by simp)
 ·exact z
def lQ (d:Addr) (fs:List (Str×V)):HO:=.ext fun h=>∃ mA,h.Ns1 d mA/\∀ f,RelO (fs.lookup f) (mA f)
theorem xx {P:Program} {w:World} {H:Hp} {h:Heap} {d:Addr} {fs:List (Str×V)} {mA:Str->Option Value} (n:h.Ns1 d mA) (r:∀ f,RelO (fs.lookup f) (mA f)):ObjOk P w H h d (lQ d fs):=by
 refine ⟨⟨mA,n,r⟩,let ⟨o,_,_,e,_⟩:=n;⟨o,e⟩,fun h1 h2 ⟨m,n,r⟩ k=>⟨m,?_,r⟩⟩
 obtain ⟨o,es,ep,e,q⟩:=n
 exact ⟨o,es,ep,k _ e,q⟩
theorem tH {P:Program} {w:World} {H:Hp} {h:Heap} {d:Addr} {fs:List (Str×V)} (ok:HOk P w H h) (e:H d=some (lQ d fs)):∃ mA,h.Ns1 d mA/\∀ f,RelO (fs.lookup f) (mA f):=(ok _ _ e).1
def gj (x C d:Addr):HO:=.ext fun h=>∃ t,h.get? x=some (fj C (some d) #[.ref t,.none,.none,.none,.bool false,.none])
theorem Dv {P:Program} {w:World} {H:Hp} {h:Heap} {x C d t:Addr} (e:h.get? x=some (fj C (some d) #[.ref t,.none,.none,.none,.bool false,.none])):ObjOk P w H h x (gj x C d):=
 ⟨⟨t,e⟩,⟨_,e⟩,fun h1 h2 ⟨t,e⟩ k=>⟨t,k _ e⟩⟩
theorem rz {P:Program} {w:World} {H:Hp} {h:Heap} {x C d:Addr} (ok:HOk P w H h) (e:H x=some (gj x C d)):∃ t,h.get? x=some (fj C (some d) #[.ref t,.none,.none,.none,.bool false,.none]):=(ok _ _ e).1
def fY:List Value->Bool
 | [.type a,.type b,.type c,.type d]=>a == "ValueError" && b == "Exception" && c == "BaseException" && d == "object"
 | .ref _ :: r=>fY r
 | _=>false
theorem sr {l:List Value} (e:fY l=true):(∃ a r,l= .ref a :: r/\fY r=true)\/l=Wi:=by
 unfold fY at e
 split at e
 ·simp only [Zm,Aa6] at e
  obtain ⟨⟨⟨rfl,rfl⟩,rfl⟩,rfl⟩:=e
  exact .inr rfl
 ·exact .inl ⟨_,_,rfl,e⟩
 ·cases e
theorem su (self:Value):∀ (l:List Value),fY l=true->refuseLoop self "__setattr__" l=pure ()
 | [],e=>by cases e
 | v :: r,e=>by
  rcases sr e with ⟨a,r',q,e'⟩ | q
  ·cases q
   rw [refuseLoop_ref]
   exact su self r e'
  ·rw [q]
   exact F.store_ValueError.passes self
theorem uE:∀ (l:List Value),fY l=true->l.contains (.type "object")=true/\l.contains (.type "BaseException")=true
 | [],e=>by cases e
 | v :: r,e=>by
  rcases sr e with ⟨a,r',q,e'⟩ | q
  ·cases q
   obtain ⟨h1,h2⟩:=uE r e'
   exact ⟨by rw [List.contains_cons,h1,Bool.or_true],by rw [List.contains_cons,h2,Bool.or_true]⟩
  ·rw [q]
   decide
def Rw (K:W.Frag) (C:Addr):Bool:=UW K C && (PySem.W.clsIn K C).any (fun cd=>fY cd.mro && cd.hasDict) && PySem.W.findIn K (.ref C) "__setattr__" == some (some (.builtin "object.__setattr__")) &&
 PySem.W.findIn K (.ref C) "__getattribute__" == some (some (.builtin "BaseException.__getattribute__")) && PySem.W.findIn K (.ref C) "__getattr__" == some none
structure XCls (K:W.Frag) (C:Addr):Prop where
 xi:UW K C=true
 ov:∃ cd,PySem.W.clsIn K C=some cd/\fY cd.mro=true/\cd.hasDict=true
 sa:PySem.W.findIn K (.ref C) "__setattr__"=some (some (.builtin "object.__setattr__"))
 ga:PySem.W.findIn K (.ref C) "__getattribute__"=some (some (.builtin "BaseException.__getattribute__"))
 gh:PySem.W.findIn K (.ref C) "__getattr__"=some none
theorem Ly {K:W.Frag} {C:Addr} (h:Rw K C=true):XCls K C:=by
 unfold Rw at h
 simp only [Zm,Aa6] at h
 obtain ⟨⟨⟨⟨h1,h2⟩,h3⟩,h4⟩,h5⟩:=h
 obtain ⟨cd,a,b⟩:=PySem.W.any_some h2
 simp only [Zm] at b
 exact ⟨h1,⟨cd,a,b.1,b.2⟩,h3,h4,h5⟩
theorem Lz {l:List Value} (e:fY l=true):l.isEmpty=false:=by
 cases l with
 | nil=>cases e
 | cons _ _=>rfl
section
variable {prog:Program} {w:World} {A:Around} {s:Shared} {K:W.Frag} {x C:Addr} {R:Result->Shared->Prop}
theorem XCls.mro {c:Value} {b:Bool} (k:XCls K C) (h:∀ cd,PySem.W.clsIn K C=some cd->fY cd.mro=true->cd.mro.contains c=b):PySem.W.mroIn K C c=some b:=by
 obtain ⟨cd,a,o,_⟩:=k.ov
 unfold PySem.W.mroIn
 rw [a,Option.bind_some,if_neg (by rw [Lz o];decide),h cd a o]
theorem XCls.isObj (k:XCls K C):PySem.W.mroIn K C (.type "object")=some true:=k.mro fun cd _ o=>(uE _ o).1
theorem XCls.isExc (k:XCls K C):PySem.W.mroIn K C (.type "BaseException")=some true:=k.mro fun cd _ o=>(uE _ o).2
theorem O3 {ox:Obj} {od:Option Obj} {name:Str} {tk:Tok} {v:Value} (X:K.In s.heap) (I:PySem.W.InstAt s.heap x ox C od) (c:XCls K C) (ht:jQ K C name)
  (h:wpAny (model prog w) A.in1 (Builtin.ObjectAttr.storeInOwnDict (.ref x) (.ref C) (.str name tk) name v false)
   (fun fin s'=>match fin with | .done f=>R (.ok f) s' | .again c'=>c'.quiet=true/\codeAny (model prog w) A c' R s') (fun e s'=>R (.error e) s') s):
  codeAny (model prog w) A (.call (.builtin "object.__setattr__") ⟨[.ref x,.str name tk,v],[]⟩) R s:=by
 obtain ⟨cd,hc,ho,_⟩:=c.ov
 have sub:PySem.W.Looks (model prog w) s.heap (isInstance (.ref x) (.type "object")) true:=I.type.andThen (PySem.W.looks_mroIn X c.isObj)
 refine AaH F.store_object.slot.plain F.store_object.entry (@PySem.W.check_slot (model prog w) _ _ s "object.__setattr__" "object" "__setattr__" (.ref x) [.str name tk,v] [] _ F.store_object.kind F.store_object.split sub (F.store_object.args (.ref x) (.str name tk) v) ?_)
 have hm:PySem.W.Looks (model prog w) s.heap (mroOf (.ref C)) cd.mro:=(PySem.W.looks_clsIn X hc).andThen .now
 have L3:PySem.W.Looks (model prog w) s.heap (Builtin.ObjectAttr.storeTaker? none) none:=.now
 rw [PySem.W.osa_eq,refuse_eq]
 refine YK (YK (I.type.here (YK (hm.here ?_))))
 rw [su _ _ ho]
 refine YM (YK (I.type.here (YK ((AaG X ht).here (YK (L3.here ?_))))))
 exact h
end
theorem Ht {H:Hp} {d x:Addr} {a b c:HO} (n:d≠x):upd (upd (upd H d a) x b) d c=upd (upd H x b) d c:=by
 funext y
 unfold upd
 by_cases h:y=d
 ·simp [h]
 ·simp [h]
section
variable {X:Cx} {pins:List (Addr×Obj)} {U:St} {H:Hp} {s:Shared} {x C d:Addr} {fs:List (Str×V)} {f:Str} {v y:V} {u:Value} {A:Around} {E:Value->Shared->Prop}
theorem Wj {Q:Unit->Shared->Prop} (I:Inv X pins U H s) (e:H x=some (jr x C)) (c:XCls X.K C) (n:jQ X.K C f) (ry:RelV y u)
  (h:∀ s' d,H d=none->d≠x->Inv X pins U (upd (upd H x (gj x C d)) d (lQ d [(f,y)])) s'->Q () s'):wpAny (model X.prog X.w) A (setAttr (.ref x) f u) Q E s:=by
 obtain ⟨⟨t,hx⟩,-,-⟩:ObjOk X.prog X.w H s.heap x (jr x C):=I.hok x _ e
 obtain ⟨cd,hc,ho,hd⟩:=c.ov
 have J:PySem.W.InstAt s.heap x (fj C none #[.ref t,.none,.none,.none,.bool false,.none]) C none:=⟨hx,rfl,rfl,True.intro⟩
 refine PySem.W.set_plain I.kIn J c.sa (O3 (s:={s with toks:=s.toks+1}) I.kIn J c n ?_)
 refine YK (YM (YK (YK (AaI hx (YK ((PySem.W.looks_clsIn (M:=model X.prog X.w) I.kIn hc).here (s:={s with toks:=s.toks+1}) ?_))))))
 rw [hd]
 have hp:s.heap.objs.size≠x:=Abh (Y7 hx)
 have hx1:(s.heap.push {cls:=.type "dict",data:=.dict #[]}).get? x=some (fj C none #[.ref t,.none,.none,.none,.bool false,.none]):=YT _ hx
 have d1:(s.heap.push {cls:=.type "dict",data:=.dict #[]}).get? s.heap.objs.size=some {cls:=.type "dict",data:=.dict #[]}:=Y6 _ rfl
 have n1:∀ {hh:Heap},hh.get? s.heap.objs.size=some {cls:=.type "dict",data:=.dict #[]}->hh.Ns1 s.heap.objs.size (fun _=>none):=fun q=>Heap.Ns1.of_empty ⟨_,#[],_,q,rfl,fun e he=>absurd he (by simp),fun _=>rfl⟩
 have I1:Inv X pins U (upd H s.heap.objs.size (lQ s.heap.objs.size [])) {s with heap:=s.heap.push {cls:=.type "dict",data:=.dict #[]},toks:=s.toks+1}:=
  I.laid (t':=s.toks+1) (fun b o q=>YT _ q) (YW _) (xx (n1 d1) fun g=>True.intro)
 refine YK (wpAny_alloc' ?_)
 refine YK (wpAny_update' hx1 ?_)
 have hx2:=Aaw (fun o:Obj=>({o with dict:=some s.heap.objs.size}:Obj)) hx1 rfl
 have ot:∀ b,b≠x->((s.heap.push {cls:=.type "dict",data:=.dict #[]}).update x fun o=>{o with dict:=some s.heap.objs.size}).get? b=(s.heap.push {cls:=.type "dict",data:=.dict #[]}).get? b:=fun b hb=>Aar _ _ (Ne.symm hb)
 have e1:upd H s.heap.objs.size (lQ s.heap.objs.size []) x=some (jr x C):=(aC (Ne.symm hp)).trans e
 have I2:Inv X pins U (upd (upd H s.heap.objs.size (lQ s.heap.objs.size [])) x (gj x C s.heap.objs.size)) {s with heap:=(s.heap.push {cls:=.type "dict",data:=.dict #[]}).update x fun o=>{o with dict:=some s.heap.objs.size},toks:=s.toks+1}:=
  I1.write (t':=s.toks+1) (x:=x) (e:=x) (by rw [e1];exact True.intro) (.inl rfl) (fun b o hb q=>(ot b hb).trans q) ⟨_,hx2⟩ (Dv hx2)
 refine YM (YK (YM (YK ?_)))
 refine wpAny_nsSet1 (n1 ((ot _ hp).trans d1)) fun h' hn' hs=>?_
 obtain ⟨oD,esD,epD,hoD,hdD,hcD⟩:=hn'.count (PySem.Within.cons f u PySem.Within.nil)
 refine YK (wpAny_lookBehind hoD (by rw [hdD];exact pastItsLine_dict (Aan hcD (by rw [ZW,Z1,sizeLine_eq];omega))) ?_)
 refine YM (h _ s.heap.objs.size (I.hok.fresh (YW _)) hp ?_)
 rw [← Ht (a:=lQ s.heap.objs.size []) hp]
 refine I2.write (x:=s.heap.objs.size) (e:=s.heap.objs.size) (by rw [aC hp,ao];exact True.intro) (.inl rfl) (fun b o hb q=>(hs.2 b hb).trans q) ⟨_,hoD⟩ (xx hn' fun g=>?_)
 by_cases q:g=f
 ·have qb:(g == f)=true:=Aa6.mpr q
  simp only [List.lookup,qb,if_pos q]
  exact ry
 ·have qb:(g == f)=false:=Aah.mpr q
  simp only [List.lookup,qb,if_neg q]
  exact True.intro
theorem LC {h:Heap} {P:Program} {w:World} (ok:HOk P w H h) (e:H x=some (gj x C d)) (e2:H d=some (lQ d fs)):d≠x:=fun z=>by
 subst z
 obtain ⟨t,a⟩:=rz ok e
 obtain ⟨mA,⟨o,es,ep,b,q,_⟩,_⟩:=tH ok e2
 rw [a] at b;cases b;cases q
theorem Wk {Q:Unit->Shared->Prop} (I:Inv X pins U H s) (e:H x=some (gj x C d)) (e2:H d=some (lQ d fs)) (hl:fs.length < 1000) (c:XCls X.K C) (n:jQ X.K C f) (ry:RelV y u)
  (h:∀ s',Inv X pins U (upd H d (lQ d (CV f y fs))) s'->Q () s'):wpAny (model X.prog X.w) A (setAttr (.ref x) f u) Q E s:=by
 have ne:=LC I.hok e e2
 obtain ⟨vs,hx⟩:=rz I.hok e
 obtain ⟨mA,nA,rA⟩:=tH I.hok e2
 obtain ⟨cd,hc,ho,hd⟩:=c.ov
 have J:PySem.W.InstAt s.heap x (fj C (some d) #[.ref vs,.none,.none,.none,.bool false,.none]) C (some (Classical.choose nA)):=⟨hx,rfl,rfl,let ⟨_,_,q,_⟩:=Classical.choose_spec nA;q⟩
 refine PySem.W.set_plain I.kIn J c.sa (O3 (s:={s with toks:=s.toks+1}) I.kIn J c n ?_)
 refine YK (YM (YK (YK (AaI hx (YK ((PySem.W.looks_clsIn (M:=model X.prog X.w) I.kIn hc).here (s:={s with toks:=s.toks+1}) ?_))))))
 rw [hd]
 refine YM (a:=some d) (YK (YM (YK ?_)))
 refine wpAny_nsSet1 (s:={s with toks:=s.toks+1}) nA fun h' hn' hs=>?_
 have wi:PySem.Within mA (fs.map (·.1)):=fun z hz=>by
  have r:=rA z
  cases q:fs.lookup z with
  | none=>rw [q] at r;exact absurd (RelO.none_of r) hz
  | some a=>exact Zd.mpr ⟨(z,a),Z2 q,rfl⟩
 obtain ⟨oD,esD,epD,hoD,hdD,hcD⟩:=hn'.count (PySem.Within.cons f u wi)
 refine YK (wpAny_lookBehind hoD (by rw [hdD];exact pastItsLine_dict (Aan hcD (by rw [ZW,YQ,sizeLine_eq];omega))) ?_)
 refine YM (h _ ?_)
 refine I.write (x:=d) (e:=d) (by rw [e2];exact True.intro) (.inl rfl) (fun b o hb q=>(hs.2 b hb).trans q) ⟨_,hoD⟩ (xx hn' fun g=>?_)
 rw [rP]
 by_cases q:g=f
 ·rw [if_pos q,if_pos q];exact ry
 ·rw [if_neg q,if_neg q];exact rA g
theorem getx {b:Bool} {Q:Value->Shared->Prop} (I:Inv X pins U H s) (e:H x=some (rn x C d)) (e2:H d=some (lQ d fs)) (c:XCls X.K C) (n:jQ X.K C f) (l:fs.lookup f=some v)
  (h:∀ u s',Inv X pins U H s'->RelV v u->Q u s'):wpAny (model X.prog X.w) A (getAttr (.ref x) f b) Q E s:=by
 obtain ⟨vs,hx,_⟩:=Bx I.hok e
 obtain ⟨mA,nA,rA⟩:=tH I.hok e2
 obtain ⟨cd,hc,ho,hd⟩:=c.ov
 obtain ⟨od,hod,lk⟩:=qW nA
 obtain ⟨u,hu,ru⟩:=RelO.some_of (v:=v) (o:=mA f) (by rw [← l];exact rA f)
 have J:PySem.W.InstAt s.heap x (fj C (some d) vs) C (some od):=⟨hx,rfl,rfl,hod⟩
 have hf:PySem.W.findObj X.K C (some od) f=some (.value u):=PySem.W.findObj_own (by unfold PySem.W.hasDictIn;rw [hc];exact hd) n rfl (by rw [lk,hu])
 have Z:=h u {s with toks:=s.toks+1} (I.tok _) ru
 have KI:=I.kIn
 obtain ⟨hh,g,dr,t,os⟩:=s
 have L0:=J.type (M:=model X.prog X.w)
 have L1:=AaG (M:=model X.prog X.w) KI c.ga
 have L2:=AaG (M:=model X.prog X.w) KI c.gh
 have L3:=PySem.W.looks_find (M:=model X.prog X.w) KI J hf
 have sub:PySem.W.Looks (model X.prog X.w) hh (isInstance (.ref x) (.type "BaseException")) true:=L0.andThen (PySem.W.looks_mroIn KI c.isExc)
 have hb0:(onTheHeap (Value.ref C) && Value.builtin "BaseException.__getattribute__" == Value.builtin "object.__getattribute__")=false:=by
  rw [show (Value.builtin "BaseException.__getattribute__" == Value.builtin "object.__getattribute__")=false from by trivial,Bool.and_false]
 unfold getAttr getAttrBy
 refine YK (wpAny_mkText (Zz (YK (L0.at (YK (L1.at ?_))))))
 dsimp only
 rw [hb0]
 rw [if_neg Y4]
 unfold getAttrByItsOwn hookBefore
 refine YK ?_
 rw [if_pos (show onTheHeap (Value.ref C)=true from rfl)]
 refine L2.at ?_
 refine YK (Aa7 (Zz ?_))
 have hb1:(b && onTheHeap (Value.builtin "BaseException.__getattribute__"))=false:=by cases b <;> rfl
 unfold callGetattribute
 rw [hb1,if_neg Y4]
 unfold boundAndCalled
 refine YK (wpAny_of_eq (F.attrBase_ValueError.ga.bind (.ref x)) ?_)
 refine Abi (AaH F.attrBase_ValueError.ga.plain F.entry_bexc_ga (@PySem.W.check_slot (model X.prog X.w) _ _ ⟨hh,g,dr,t+1,os⟩ "BaseException.__getattribute__" "BaseException" "__getattribute__" (.ref x) [.str f t] [] _ (by trivial) (by trivial) sub (F.args_bexc_ga (.ref x) (.str f t)) ?_))
 refine YK (YM (YK (YM (YK (L0.at (YK (L3.at ?_)))))))
 refine YM ?_
 show wpAny _ _ (handedOut u) _ _ _
 rw [PySem.W.handedOut_of (CW ru)]
 exact YM Z
end
def By (K:W.Frag) (C:Addr):Bool:=Rw K C && PySem.W.findIn K (.ref C) "__class__" == some (some (.builtin "object.__class__")) && PySem.W.specialIn K (.builtin "object.__class__") "__get__" == some (some (.builtin "getset_descriptor.__get__")) && PySem.W.takesIn K (.builtin "object.__class__") == some true
structure LK (K:W.Frag) (C:Addr):Prop where
 cls:XCls K C
 ca:PySem.W.findIn K (.ref C) "__class__"=some (some (.builtin "object.__class__"))
 cg:PySem.W.specialIn K (.builtin "object.__class__") "__get__"=some (some (.builtin "getset_descriptor.__get__"))
 ct:PySem.W.takesIn K (.builtin "object.__class__")=some true
theorem Hu {K:W.Frag} {C:Addr} (h:By K C=true):LK K C:=by
 unfold By at h
 simp only [Zm,Aa6] at h
 exact ⟨Ly h.1.1.1,h.1.1.2,h.1.2,h.2⟩
section
variable {prog:Program} {w:World} {A:Around} {E:Value->Shared->Prop} {s:Shared} {K:W.Frag} {x C:Addr} {ox od:Obj}
theorem Dw {Q:Option Value->Shared->Prop} (c:LK K C) (KI:K.In s.heap) (J:PySem.W.InstAt s.heap x ox C (some od)) (h:Q (some (.ref C)) {s with toks:=s.toks+1}):wpAny (model prog w) A (getAttr? (.ref x) "__class__") Q E s:=by
 obtain ⟨cd,hc,ho,hd⟩:=c.cls.ov
 have hf:PySem.W.findObj K C (some od) "__class__"=some (.bind (.builtin "getset_descriptor.__get__") (.builtin "object.__class__")):=PySem.W.findObj_data (by rw [hc];rfl) c.ca c.cg c.ct
 obtain ⟨hh,g,dr,t,os⟩:=s
 have L0:=J.type (M:=model prog w)
 have L1:=AaG (M:=model prog w) KI c.cls.ga
 have L2:=AaG (M:=model prog w) KI c.cls.gh
 have L3:=PySem.W.looks_find (M:=model prog w) KI J hf
 have sub:PySem.W.Looks (model prog w) hh (isInstance (.ref x) (.type "BaseException")) true:=L0.andThen (PySem.W.looks_mroIn KI c.cls.isExc)
 have hb0:(onTheHeap (Value.ref C) && Value.builtin "BaseException.__getattribute__" == Value.builtin "object.__getattribute__")=false:=by
  rw [show (Value.builtin "BaseException.__getattribute__" == Value.builtin "object.__getattribute__")=false from by trivial,Bool.and_false]
 unfold getAttr? getAttrBy? getAttrBy
 refine YK (wpAny_mkText (YK (Aa7 (Zz (YK (L0.at (YK (L1.at ?_))))))))
 dsimp only
 rw [hb0,if_neg Y4]
 unfold getAttrByItsOwn hookBefore
 refine YK ?_
 rw [if_pos (show onTheHeap (Value.ref C)=true from rfl)]
 refine L2.at ?_
 refine YK (Aa7 (Zz ?_))
 unfold callGetattribute
 rw [if_neg (show ¬ ((false && onTheHeap (Value.builtin "BaseException.__getattribute__"))=true) from by decide)]
 unfold boundAndCalled
 refine YK (wpAny_of_eq (F.attrBase_ValueError.ga.bind (.ref x)) ?_)
 refine Abi (AaH F.attrBase_ValueError.ga.plain F.entry_bexc_ga (@PySem.W.check_slot (model prog w) _ _ ⟨hh,g,dr,t+1,os⟩ "BaseException.__getattribute__" "BaseException" "__getattribute__" (.ref x) [.str "__class__" t] [] _ (by trivial) (by trivial) sub (F.args_bexc_ga (.ref x) (.str "__class__" t)) ?_))
 refine YK (YM (YK (YM (YK (L0.at (YK (L3.at ?_)))))))
 show wpAny _ _ (holding [.builtin "object.__class__"] (call (.builtin "getset_descriptor.__get__") [.builtin "object.__class__",.ref x,.ref C]) >>=ret) _ _ _
 refine YK (Zz (Abi (PySem.W.class_get (s:=⟨hh,g,dr,t+1,os⟩) KI J c.cls.isObj ?_)))
 refine YM ?_
 show wpAny _ _ (handedOut (.ref C)) _ _ _
 rw [PySem.W.handedOut_of rfl]
 exact YM (YM h)
theorem Hv (c:LK K C):PySem.W.KitX K (.ref x) (.ref C) (fun h=>PySem.W.InstAt h x ox C (some od)) where
 ty:=fun _ _ _ I=>I.type
 it:=fun _ _ X _=>by
  obtain ⟨cd,hc,_⟩:=c.cls.ov
  unfold PySem.W.clsIn at hc
  split at hc
  ·rename_i a1 a2 a3 a4 ho
   intro A1 Q1 E1 s1 k q
   unfold isType loadHead
   exact YK (AaI (k _ _ (X _ _ ho)) (YM q))
  ·cases hc
 ne:=fun h tp dd its n sl X htp=>by
  obtain ⟨cd,hc,_⟩:=c.cls.ov
  refine Bool.eq_false_iff.mpr fun q=>?_
  obtain rfl:C=tp:=Value.ref.inj (Aa6.mp q)
  unfold PySem.W.clsIn at hc
  split at hc
  ·rename_i a1 a2 a3 a4 ho
   cases (X _ _ ho).symm.trans htp
  ·cases hc
 ca:=fun X I k=>Dw c X I k
end
def LQ (H:Hp) (x C:Addr) (fs:List (Str×V)):Prop:=∃ d,H x=some (rn x C d)/\H d=some (lQ d fs)
def YC:V->Option Value
 | .ty T=>some (.type T)
 | .ref C=>some (.ref C)
 | _=>none
theorem Hw {v:V} {u c:Value} (e:YC v=some c) (r:RelV v u):u=c:=by
 cases v <;> first | cases e;exact r | cases e
def LR:List V->Option (List Value)
 | []=>some []
 | v :: r=>match YC v,LR r with
  | some c,some l=>some (c :: l)
  | _,_=>none
theorem BJ:∀ {vs:List V} {us cs:List Value},LR vs=some cs->Vals vs us->us=cs
 | [],us,cs,e,r=>by cases r;cases e;rfl
 | v :: vs,us,cs,e,r=>by
  cases r with
  | cons r1 r2=>
   unfold LR at e
   split at e
   ·rename_i c l h1 h2
    cases e
    rw [Hw h1 r1,BJ h2 r2]
   ·cases e
def O4 (K:W.Frag):List V->Hp->VK->Prop:=fun xs H Q=>∃ x t b,(TyOf K H x t\/∃ a C fs,x= .ref a/\LQ H a C fs/\LK K C/\t= .ref C)/\
 ((∃ v c,xs=[x,v]/\YC v=some c/\PySem.W.kitOne K t c=some b)\/(∃ p vs cs,xs=[x,.ref p]/\H p=some (.tup vs)/\LR vs=some cs/\PySem.W.kitAny K t cs=some b))/\Q (.bl b) H
section
variable {X:Cx} {pins:List (Addr×Obj)} {U:St} {H:Hp} {s:Shared} {A:Around} {E:Value->Shared->Prop} {Q:Value->Shared->Prop} {c:Value} {b:Bool}
theorem Hx {x:V} {u t:Value} (I:Inv X pins U H s) (rx:RelV x u) (ty:TyOf X.K H x t\/∃ a C fs,x= .ref a/\LQ H a C fs/\LK X.K C/\t= .ref C):
  ∃ φ:Heap->Prop,PySem.W.KitX X.K u t φ/\φ s.heap/\u≠.builtin "__main__.__loader__#opaque":=by
 rcases ty with ty | ⟨a,C,fs,rfl,⟨d,e1,e2⟩,c,rfl⟩
 ·cases ty with
  | non=>cases (show u=Value.none from rx);exact ⟨_,PySem.W.kitx_none,True.intro,(fun z=>nomatch z)⟩
  | bl y=>cases (show u=Value.bool y from rx);exact ⟨_,PySem.W.kitx_bool,True.intro,(fun z=>nomatch z)⟩
  | int i=>obtain ⟨t,q⟩:=(show ∃ t,u=Value.int i t from rx);cases q;exact ⟨_,PySem.W.kitx_int,True.intro,(fun z=>nomatch z)⟩
  | str y=>obtain ⟨t,q⟩:=(show ∃ t,u=Value.str y t from rx);cases q;exact ⟨_,PySem.W.kitx_str,True.intro,(fun z=>nomatch z)⟩
  | flt y=>obtain ⟨t,q⟩:=(show ∃ t,u=Value.float y t from rx);cases q;exact ⟨_,PySem.W.kitx_float,True.intro,(fun z=>nomatch z)⟩
  | @lst a xs ea=>
   cases (show u=Value.ref a from rx)
   obtain ⟨_,_,n,_,h1⟩:=(show ObjOk X.prog X.w H s.heap a (.lst xs) from I.hok a _ ea)
   exact ⟨_,PySem.W.kitx_list,⟨_,h1,rfl⟩,(fun z=>nomatch z)⟩
  | @frz a ob xs ea=>
   cases (show u=Value.ref a from rx)
   obtain ⟨_,_,_,n,_,h1⟩:=(show ObjOk X.prog X.w H s.heap a (.frz ob (.lst xs)) from I.hok a _ ea)
   exact ⟨_,PySem.W.kitx_list,⟨_,h1,rfl⟩,(fun z=>nomatch z)⟩
  | @tup a xs ea=>
   cases (show u=Value.ref a from rx)
   obtain ⟨_,_,_,p⟩:=(show ObjOk X.prog X.w H s.heap a (.tup xs) from I.hok a _ ea)
   obtain ⟨o,h1,h2,_⟩:=p
   exact ⟨_,PySem.W.kitx_tuple,⟨o,h1,h2⟩,(fun z=>nomatch z)⟩
  | @dK a kvs ea=>
   cases (show u=Value.ref a from rx)
   obtain ⟨_,_,vs,_,p⟩:=(show ObjOk X.prog X.w H s.heap a (.dK kvs) from I.hok a _ ea)
   obtain ⟨o,es,ep,h1,h2,_⟩:=p
   exact ⟨_,PySem.W.kitx_dict,⟨o,h1,h2.1⟩,(fun z=>nomatch z)⟩
  | @dT a kvs ea=>
   cases (show u=Value.ref a from rx)
   obtain ⟨_,_,xs,_,o,es,ep,h1,h2,_⟩:=(show ObjOk X.prog X.w H s.heap a (.dT kvs) from I.hok a _ ea)
   exact ⟨_,PySem.W.kitx_dict,⟨o,h1,h2.1⟩,(fun z=>nomatch z)⟩
  | @ins a C dx fs ea cl ha hn htk hm=>
   cases (show u=Value.ref a from rx)
   obtain ⟨mA,O,_⟩:=Bh I.hok ea
   obtain ⟨od,J,_⟩:=O.look
   exact ⟨_,PySem.W.kitx_own (cl.get _) cl.hd ha hn htk hm,J,(fun z=>nomatch z)⟩
 ·cases (show u=Value.ref a from rx)
  obtain ⟨vs,hx,_⟩:=Bx I.hok e1
  obtain ⟨mA,nA,rA⟩:=tH I.hok e2
  obtain ⟨od,hod,lk⟩:=qW nA
  exact ⟨_,Hv (ox:=fj C (some d) vs) (od:=od) c,⟨hx,rfl,rfl,hod⟩,(fun z=>nomatch z)⟩
theorem lR {K:W.Frag} (hK:X.K=K):CallR X (.builtin "isinstance") (O4 K):=by
 subst hK
 intro pins s U H xs us Q I r h
 obtain ⟨x,t,b,ty,w,q⟩:=h
 rcases w with ⟨v,c,rfl,ec,e⟩ | ⟨p,vs,cs,rfl,ep,ec,e⟩
 ·obtain ⟨u,u2,rfl,ru,rv⟩:=vals2 r
  obtain rfl:=Hw ec rv
  obtain ⟨φ,Z,hφ,hne⟩:=Hx I ru ty
  exact gV Z I.kIn hφ e hne fun tk=>⟨.bl b,H,I.tok _,rfl,q⟩
 ·obtain ⟨u,u2,rfl,ru,rv⟩:=vals2 r
  cases (show u2=Value.ref p from rv)
  obtain ⟨φ,Z,hφ,hne⟩:=Hx I ru ty
  obtain ⟨_,its,rt,o,h1,h2,n,h3⟩:=(show ObjOk X.prog X.w H s.heap p (.tup vs) from I.hok p _ ep)
  obtain rfl:=BJ ec rt
  obtain ⟨oc,odd,oda,osl⟩:=o
  dsimp only at h2 h3
  subst h2 h3
  exact PySem.W.kia_tup Z I.kIn hφ h1 e hne fun tk=>⟨.bl b,H,I.tok _,rfl,q⟩
end
def Dy (P:Program) (w:World) (K:W.Frag) (mg:Str->Option Value) (base:Heap) (k:Nat) (x:Str) (ps:List Str) (sp:Sp):Prop:=
 ∃ f fd,mg x=some (.ref f)/\PySem.W.keepIn K (.ref f)=true/\Binds K fd ps []/\qX P w K mg base (Rv P w) k f fd ps sp
def zZ (sp:Sp) (R:St->XK) (t:TA):TE:=fun U H Q=>t U H fun vs H1=>sp vs H1 Q (R U)
theorem Wl {X:Cx} (h:∀ (e:Value) (s:Shared),X.xe e s=False):qC X (fun _ _ _ _=>False):=fun _ _ _ ⟨_,_,_,_,_,_,_,_,z⟩=>z.elim
section
variable {X:Cx} {k:Nat} {f C:Addr} {fd:FuncData} {ps:List Str} {sp:Sp} {R:St->XK} {x:Str} {p pos:Pos} {e:Expr} {es:List Expr} {t:TA} {pins:List (Addr×Obj)} {U:St} {H:Hp} {s:Shared} {Q:VK} {us:List Value} {vs:List V}
theorem Ma (F:qX X.prog X.w X.K X.mg X.base (Rv X.prog X.w) k f fd ps sp) (hr:Room k X.A) (hb:Binds X.K fd ps []) (hx:qC X R) (I:Inv X pins U H s) (r:Vals vs us) (h:sp vs H Q (R U)):
  wpAny (model X.prog X.w) X.A (call (.ref f) us) (EP X pins U Q) X.xe s:=by
 have hl:(us ++ []).length=ps.length:=by rw [Zt,← r.length];exact F.len _ _ _ _ h
 have bd:=hb s us I.kIn hl
 rw [Zt] at bd
 refine Abi (codeAny_mono (F.run X.A X.stack s H ⟨us,[]⟩ us vs Q (R U) hr I.env0 bd r h) fun rr s' hq=>?_)
 cases rr with
 | error e=>exact hx pins e s' (Lx I hq)
 | ok fl=>
  cases fl with
  | ret u=>exact I.after hq
  | next=>exact False.elim hq
  | brk=>exact False.elim hq
  | cont=>exact False.elim hq
theorem Hy (F:Dy X.prog X.w X.K X.mg X.base k x ps sp) (hr:Room k X.A) (hg:Gl X x) (hx:qC X R) (ha:PA X (e :: es) t) (hdb:(x == ("__debug__":Str))=false)
  (he:starEach (e :: es) X.env=(false,eval e X.env) :: starEach es X.env) (hpl:(backTo pos (starEach es X.env)).any (·.1)=false):PE X (.Call (.Name x p) (e :: es) [] pos) (zZ sp R t):=by
 obtain ⟨f,fd,a,b,c,d⟩:=F
 intro pins s U H Q I h
 refine Abj (qd I hg a ?_ hdb)
 refine PySem.W.callWith_K (h₀:=X.base) I.ok.mod.kin b (dM (ha pos pins s U H _ I h) fun us s1 ⟨vs,H1,I1,r,q⟩=>⟨I1.kIn,?_⟩) he hpl
 exact Ma d hr c hx I1 r q
def Hz (K:W.Frag) (ta tv:TE) (f:Str):TS:=fun D U H=>tv U H fun y H1=>ta U H1 fun x H2=>∃ a C,x= .ref a/\XCls K C/\jQ K C f/\
 ((H2 a=some (jr a C)/\∀ d,H2 d=none->d≠a->D.nx U (upd (upd H2 a (gj a C d)) d (lQ d [(f,y)])))\/
  (∃ d fs,H2 a=some (gj a C d)/\H2 d=some (lQ d fs)/\fs.length < 1000/\D.nx U (upd H2 d (lQ d (CV f y fs)))))
theorem Mf {o value:Expr} {ta tv:TE} {fn:Str} {pos':Pos} (ha:PE X o ta) (hv:PE X value tv) (hs:swapsWith value (some (.Attribute o fn pos')) pos.line X.env=pure false):PS X (.Assign [.Attribute o fn pos'] value pos) (Hz X.K ta tv fn):=by
 intro pins s U H D I h
 refine plainObj_wpAny_Assign_Attribute (dM (hv pins s U H _ I h) fun u s1 ⟨y,H1,I1,ry,q⟩=>dM (ha pins s1 U H1 _ I1 q) fun ov s2 qq0=>?_) hs
 obtain ⟨x,H2,I2,rx,a,C,ex,c,n,q2⟩:=qq0
 subst ex
 obtain rfl:ov=Value.ref a:=rx
 rcases q2 with ⟨e,q2⟩ | ⟨d,fs,e,e2,hl,q2⟩
 ·exact Wj I2 e c n ry fun s3 d z1 z2 I3=>⟨U,_,I3,q2 d z1 z2⟩
 ·exact Wk I2 e e2 hl c n ry fun s3 I3=>⟨U,_,I3,q2⟩
def HF (K:W.Frag) (ta:TE) (f:Str):TE:=fun U H Q=>ta U H fun x H1=>∃ a C fs v,x= .ref a/\LQ H1 a C fs/\XCls K C/\jQ K C f/\fs.lookup f=some v/\Q v H1
theorem Mg {ta:TE} {fn:Str} (he:PE X e ta) (hb:attributeBase e fn X.env (eval e X.env)=eval e X.env):PE X (.Attribute e fn pos) (HF X.K ta fn):=by
 intro pins s U H Q I h
 refine K6 hb (dM (he pins s U H _ I h) fun u s1 qq0=>?_)
 obtain ⟨x,H1,I1,rx,a,C,fs,v,ex,⟨d,e1,e2⟩,c,n,l,q⟩:=qq0
 subst ex
 obtain rfl:u=Value.ref a:=rx
 exact getx I1 e1 e2 c n l fun u2 s2 I2 ru=>⟨v,H1,I2,ru,q⟩
def xF (C:Addr) (fl:List Str):Sp:=fun vs H Q E=>∃ x ws,vs= .ref x :: ws/\ws.length=fl.length/\H x=some (jr x C)/\∀ d,H d=none->d≠x->Q .non (upd (upd H x (gj x C d)) d (lQ d (fl.zip ws)))
structure U0 (P:Program) (w:World) (K:W.Frag) (mg:Str->Option Value) (base:Heap) (k:Nat) (x:Str) (C:Addr) (fl:List Str):Prop where
 at_:mg x=some (.ref C)
 cl:LK K C
 kp:PySem.W.keepIn K (.ref C)=true
 na:∀ f∈fl,jQ K C f
 run:∃ f fd ps,PySem.W.findIn K (.ref C) "__init__"=some (some (.ref f))/\PySem.W.typeIn K (.ref f)=some (.type "function")/\Binds K fd ps []/\qX P w K mg base Dh k f fd ps (xF C fl)
def z6 (C:Addr) (fl:List Str) (R:St->XK) (t:TA):TS:=fun _ U H=>t U H fun vs H1=>vs.length=fl.length/\vs.length<=sizeLine/\∀ x H2,Same H1 H2->LQ H2 x C (fl.zip vs)->R U (.ref C) (some x) H2
theorem Rx {Q:Value->Shared->Prop} {E:Value->Shared->Prop} {fl:List Str} (M:U0 X.prog X.w X.K X.mg X.base k x C fl) (hr:Room (k+1) X.A) (I:Inv X pins U H s) (r:Vals vs us) (hl:vs.length=fl.length) (hz:vs.length<=sizeLine)
  (q:∀ a d s',H a=none->H d=none->d≠a->Inv X pins U (upd (upd (upd H a (jr a C)) a (gj a C d)) d (lQ d (fl.zip vs))) s'->Q (.ref a) s'):wpAny (model X.prog X.w) X.A (call (.ref C) us) Q E s:=by
 obtain ⟨f,fd,ps,hi,hf,hb,F⟩:=M.run
 refine Ru I.kIn M.cl.cls.xi hi hf (by rw [← r.length];exact hz) ?_
 have I1:Inv X pins U H {s with heap:=s.heap.push {cls:=.type "tuple",data:=.seq us.toArray}}:=I.kept (t':=s.toks) fun b o e=>YT _ e
 have sz1:(s.heap.push {cls:=.type "tuple",data:=.seq us.toArray}).objs.size=s.heap.objs.size+1:=AaS _ _
 have hfr:H (s.heap.objs.size+1)=none:=I.hok.fresh (Nat.le_succ _)
 have gx:((s.heap.push {cls:=.type "tuple",data:=.seq us.toArray}).push (fj C none #[.ref s.heap.objs.size,.none,.none,.none,.bool false,.none])).get? (s.heap.objs.size+1)=some (fj C none #[.ref s.heap.objs.size,.none,.none,.none,.bool false,.none]):=by
  rw [← sz1];exact Y6 _ rfl
 have I2:Inv X pins U (upd H (s.heap.objs.size+1) (jr (s.heap.objs.size+1) C)) {s with heap:=(s.heap.push {cls:=.type "tuple",data:=.seq us.toArray}).push (fj C none #[.ref s.heap.objs.size,.none,.none,.none,.bool false,.none])}:=
  I1.laid (t':=s.toks) (fun b o e=>YT _ e) (by show (s.heap.push _).objs.size<=_;rw [sz1];exact YW _) ⟨⟨_,gx⟩,⟨_,gx⟩,fun h1 h2 ⟨t,z⟩ kk=>⟨t,kk _ z⟩⟩
 have r2:Vals (V.ref (s.heap.objs.size+1) :: vs) (Value.ref (s.heap.objs.size+1) :: us):=.cons rfl r
 have sp0:xF C fl (V.ref (s.heap.objs.size+1) :: vs) (upd H (s.heap.objs.size+1) (jr (s.heap.objs.size+1) C)) (fun v H2=>v= .non/\∃ d,H d=none/\d≠s.heap.objs.size+1/\H2=upd (upd (upd H (s.heap.objs.size+1) (jr (s.heap.objs.size+1) C)) (s.heap.objs.size+1) (gj (s.heap.objs.size+1) C d)) d (lQ d (fl.zip vs))) E0:=
  ⟨_,_,rfl,hl,ao,fun d hd ne=>⟨rfl,d,by rw [aC ne] at hd;exact hd,ne,rfl⟩⟩
 have hl2:((Value.ref (s.heap.objs.size+1) :: us) ++ []).length=ps.length:=by rw [Zt,← r2.length];exact F.len _ _ _ _ sp0
 have bd:=hb _ (Value.ref (s.heap.objs.size+1) :: us) I2.kIn hl2
 rw [Zt] at bd
 refine Abi (codeAny_mono (F.run _ X.stack _ _ ⟨Value.ref (s.heap.objs.size+1) :: us,[]⟩ (Value.ref (s.heap.objs.size+1) :: us) _ _ E0 (hr.make C us []) (I2.env0.make C us []) bd r2 sp0) fun rr s' hq=>?_)
 cases rr with
 | error e=>exact False.elim hq
 | ok fl=>
  cases fl with
  | ret u=>
   obtain ⟨v,H',I3,rv,ev,d,hd,ne,eH⟩:=I2.after hq
   subst ev
   rw [eH] at I3
   exact ⟨rv,q _ d s' hfr hd ne I3⟩
  | next=>exact False.elim hq
  | brk=>exact False.elim hq
  | cont=>exact False.elim hq
theorem thrown {env:Env} {C:Addr} {Q:Flow->Shared->Prop} {m:Sem Value} (hc:X.calm=true) (c:LK X.K C) (hx:qC X R)
  (h:wpAny (model X.prog X.w) X.A m (fun v s1=>∃ x d H1,v= .ref x/\Inv X pins U H1 s1/\H1 x=some (gj x C d)/\R U (.ref C) (some x) (upd H1 x (rn x C d))) X.xe s):
  wpAny (model X.prog X.w) X.A (raiseStmt env (some m) none) Q X.xe s:=by
 obtain ⟨nm,qn,N,bs,bm,sn,sub,ab,col,dd,k0,k1,k2,k3,k5,lk0,tl⟩:=uC c.cls.xi
 unfold raiseStmt
 refine YK (dM h fun v s1 qq0=>?_)
 obtain ⟨x,d,H1,ev,I1,e1,r1⟩:=qq0
 subst ev
 have KI:=I1.kIn
 obtain ⟨t,he⟩:=rz I1.hok e1
 have hh:X.A.handled=none:=I1.ok.hd hc
 have hcB:(Value.ref C :: bm).contains (.type "BaseException")=true:=by
  rw [List.contains_cons,(tl _ KI).hasType (show Wi.contains (.type "BaseException")=true from by decide)];rfl
 have fin:X.xe (.ref x) s1:=by
  have I2:Inv X pins U (upd H1 x (rn x C d)) s1:=I1.write (t':=s1.toks) (x:=x) (e:=x) (h':=s1.heap) (by rw [e1];exact True.intro) (.inl rfl) (fun b o _ z=>z) ⟨_,he⟩ (Bw he rfl)
  exact hx pins _ s1 ⟨x,C,d,U,_,rfl,I2,⟨ao,.inl ⟨_,he,rfl,rfl⟩⟩,r1⟩
 have hD:=KI _ _ lk0
 obtain ⟨hp,g,dr,tk,os⟩:=s1
 unfold fj at he
 repeat (first | with_reducible refine Aak he ?_ | with_reducible refine Aak hD ?_ | (with_reducible refine Aba hD ?_;rw [hcB]) | wp_step)
 exact wpAny_raiseNew_none hh fin
end
section
variable {X:Cx} {k:Nat} {C:Addr} {R:St->XK} {x:Str} {p cpos pos:Pos} {e:Expr} {es:List Expr} {t:TA} {fl:List Str}
theorem yG {H:Hp} {a d:Addr} {vs:List V} (ha:H a=none) (hd:H d=none) (ne:d≠a):Same H (upd (upd (upd (upd H a (jr a C)) a (gj a C d)) d (lQ d (fl.zip vs))) a (rn a C d))/\
  LQ (upd (upd (upd (upd H a (jr a C)) a (gj a C d)) d (lQ d (fl.zip vs))) a (rn a C d)) a C (fl.zip vs):=by
 refine ⟨fun b o h=>?_,d,ao,by rw [aC ne,ao]⟩
 have na:b≠a:=fun z=>by rw [z,ha] at h;cases h
 have nd:b≠d:=fun z=>by rw [z,hd] at h;cases h
 rw [aC na,aC nd,aC na,aC na]
 exact h
theorem HH (M:U0 X.prog X.w X.K X.mg X.base k x C fl) (hr:Room (k+1) X.A) (hc:X.calm=true) (hg:Gl X x) (hx:qC X R) (ha:PA X (e :: es) t) (hdb:(x == ("__debug__":Str))=false)
  (he:starEach (e :: es) X.env=(false,eval e X.env) :: starEach es X.env) (hpl:(backTo cpos (starEach es X.env)).any (·.1)=false):PS X (.Raise (some (.Call (.Name x p) (e :: es) [] cpos)) none pos) (z6 C fl R t):=by
 intro pins s U H D I h
 rw [arm_exec_Raise]
 refine YK (AbE (thrown (pins:=pins) (U:=U) (C:=C) hc M.cl hx (YK (dM (Q:=fun v s1=>∃ x d H1,v= .ref x/\Inv X pins U H1 s1/\H1 x=some (gj x C d)/\R U (.ref C) (some x) (upd H1 x (rn x C d))) ?_ fun v s3 h3=>YK (AbE (YM h3))))))
 refine Abj (qd I hg M.at_ ?_ hdb)
 refine PySem.W.callWith_K (h₀:=X.base) I.ok.mod.kin M.kp (dM (ha cpos pins s U H _ I h) fun us s1 ⟨vs,H1,I1,r,hl,hz,q⟩=>⟨I1.kIn,?_⟩) he hpl
 refine Rx M hr I1 r hl hz fun a d s2 z1 z2 ne I2=>⟨a,d,_,rfl,I2,?_,?_⟩
 ·rw [aC (Ne.symm ne),ao]
 ·obtain ⟨w1,w2⟩:=yG (C:=C) (fl:=fl) (vs:=vs) z1 z2 ne
  exact q a _ w1 w2
end
section
variable {X:Cx} {pins:List (Addr×Obj)} {U U':St} {H:Hp} {s:Shared} {h':Heap}
theorem Inv.reloc {t':Nat} (I:Inv X pins U H s) (hs:Heap.SameBut X.env.locals s.heap h') (len:U'.length=U.length)
  (l:∃ m',h'.Ns X.env.locals m'/\∀ (i:Nat) (x:Str) (v:V),X.N[i]?=some x->U'[i]?=some (some v)->Yt X.env.scope x->∃ u,RelV v u/\Look X.env h' m' x u):Inv X pins U' H {s with heap:=h',toks:=t'}:=by
 have cne:=I.cne
 obtain ⟨mm,⟨oL,_,_,hoL,_⟩,_⟩:=id I.loc
 have away:∀ b o,X.s₀.heap.get? b=some o->b≠X.env.locals:=fun b o e=>ZG (Zi (Y7 e) I.ok.above)
 refine ⟨I.ok,I.os,I.bare,⟨fun b o e n hb hx=>(hs.2 b (away b o e)).trans (I.base.keep b o e n hb hx),fun b o e n hb hx=>?_,I.base.free,fun b o e hx=>?_,I.base.tups,I.base.frzs,I.base.tbls⟩,l,fun y c e=>?_,I.free,I.freeC,fun q hq=>?_,fun b ob e=>?_,len.trans I.len⟩
 ·obtain ⟨sl,e1⟩:=I.base.slot b o e n hb hx
  exact ⟨sl,(hs.2 b (away b o e)).trans e1⟩
 ·obtain ⟨o2,e1⟩:=I.base.there b o e hx
  exact ⟨o2,(hs.2 b (away b o e)).trans e1⟩
 ·obtain ⟨w2,z⟩:=I.cell y c e
  exact ⟨w2,z.sameBut hs (cne y c e)⟩
 ·obtain ⟨e,n,ne,nf,d⟩:=I.pin q hq
  exact ⟨(hs.2 q.1 ne).trans e,n,ne,nf,d⟩
 ·refine (I.hok b ob e).stay (fun c w2 hc q=>(hs.2 c ?_).trans q) (fun _ q=>q) fun _ _ q=>q
  rintro rfl
  rcases hc with rfl | hc
  ·rw [I.free] at e;cases e
  ·rw [I.free] at hc;cases hc
theorem name_goes {A:Around} {E:Value->Shared->Prop} {i:Nat} {n:Str} {pos:Pos} {Q:Unit->Shared->Prop} (I:Inv X pins U H s) (hN:X.N.Nodup) (hi:X.N[i]?=some n) (hl:X.env.scope.names.lookup n=some .local)
  (h:∀ s',Inv X pins (U.set i none) H s'->Q () s'):wpAny (model X.prog X.w) A (do bindName X.env n .none;unbindBehindTheSuite X.env n pos) Q E s:=by
 have hcls:(X.env.scope.kind == .class || (X.env.scope.kind == .module && X.env.locals != X.env.globals))=false:=by rw [I.ok.kind];rfl
 have hk:X.env.kindOf n=some .local:=hl
 refine YK (wpAny_bindName (p8 (v:=.non) I hN hi (.inl hl) rfl (fun s1 I1=>?_) (.inr hl)))
 obtain ⟨m1,hn1,hl1⟩:=id I1.loc
 have hiU:i < U.length:=by rw [I.len];exact (YS.mp hi).1
 obtain ⟨u1,ru1,lk1⟩:=hl1 i n .non hi (by rw [Abg hiU]) (.inl hl)
 have m1n:m1 n=some u1:=by
  rcases lk1 with ⟨_,z⟩ | ⟨z | z,_⟩
  ·exact z
  ·rw [hk] at z;cases z
  ·rw [hk] at z;cases z
 unfold unbindBehindTheSuite
 refine wpAny_onRaise ?_
 unfold unbindName
 refine YK (wpAny_point (YK ?_))
 unfold deleteName
 simp only [hk,hcls]
 rw [if_neg (by decide)]
 refine YK (wpAny_nsDel_keeps hn1 fun h2 v2 hn2 hs2=>?_)
 rw [m1n]
 simp only [if_true,Option.isSome_some,Bool.not_true,ZR,if_false]
 refine YM (wpAny_point (h _ (I1.reloc (t':=s1.toks) hs2 (by rw [Aat,Aat]) ⟨_,hn2,fun j y v e1 e2 e3=>?_⟩)))
 have hj:j≠i:=fun z=>by
  subst z
  rw [Abg hiU] at e2;cases e2
 rw [AaZ (Ne.symm hj)] at e2
 obtain ⟨u,r,q⟩:=hl1 j y v e1 (by rw [AaZ (Ne.symm hj)];exact e2) e3
 refine ⟨u,r,?_⟩
 rcases q with ⟨k,z⟩ | ⟨k,c,z1,z2⟩
 ·have ny:y≠n:=fun z=>hj (tY hN e1 (z ▸ hi))
  exact .inl ⟨k,by show (if y=n then v2 else m1 y)=some u;rw [if_neg ny];exact z⟩
 ·exact .inr ⟨k,c,z1,z2.sameBut hs2 (I1.cne y c z1)⟩
end
abbrev Cx.sui (X:Cx) (x:Addr):Cx:={X with A:=X.A.mark (some (.ref x)),calm:=false,xe:=fun _ _=>False}
abbrev Cx.bod (X:Cx) (pins:List (Addr×Obj)) (R:St->XK):Cx:={X with pn:=X.pn ++ pins,xe:=XE X pins R}
section
variable {X:Cx} {pins pins':List (Addr×Obj)} {U:St} {H:Hp} {s:Shared} {x C d T:Addr} {R:St->XK} {D:Ends}
theorem Inv.sui (I:Inv X pins U H s) (x:Addr):Inv (X.sui x) pins U H s:=
 ⟨⟨I.ok.mod,I.ok.kind,I.ok.glob,I.ok.blt,I.ok.above,I.ok.inj,I.ok.has,I.ok.cab,fun h=>absurd h Y4,I.ok.frames,I.ok.stk,I.ok.exf,I.ok.bs,I.ok.bsz,I.ok.noex,I.ok.exfs,I.ok.funs,I.ok.frf⟩,I.os,I.bare,I.base,I.loc,I.cell,I.free,I.freeC,I.pin,I.hok,I.len⟩
theorem Inv.unsui (ok:X.Ok) (I:Inv (X.sui x) pins U H s):Inv X pins U H s:=⟨ok,I.os,I.bare,I.base,I.loc,I.cell,I.free,I.freeC,I.pin,I.hok,I.len⟩
theorem Inv.bod (I:Inv X pins U H s) (R:St->XK):Inv (X.bod pins R) [] U H s:=
 ⟨⟨I.ok.mod,I.ok.kind,I.ok.glob,I.ok.blt,I.ok.above,I.ok.inj,I.ok.has,I.ok.cab,I.ok.hd,I.ok.frames,I.ok.stk,I.ok.exf,I.ok.bs,I.ok.bsz,I.ok.noex,I.ok.exfs,I.ok.funs,I.ok.frf⟩,I.os,I.bare,I.base,I.loc,I.cell,I.free,I.freeC,fun p hp=>I.pin p (by simpa using hp),I.hok,I.len⟩
theorem Inv.unbod (I:Inv (X.bod pins R) pins' U H s):Inv X pins U H s:=
 ⟨⟨I.ok.mod,I.ok.kind,I.ok.glob,I.ok.blt,I.ok.above,I.ok.inj,I.ok.has,I.ok.cab,I.ok.hd,I.ok.frames,I.ok.stk,I.ok.exf,I.ok.bs,I.ok.bsz,I.ok.noex,I.ok.exfs,I.ok.funs,I.ok.frf⟩,I.os,I.bare,I.base,I.loc,I.cell,I.free,I.freeC,fun p hp=>I.pin p (Zy _ hp),I.hok,I.len⟩
theorem SP.unbod {f:Flow} (h:SP (X.bod pins R) pins' D f s):SP X pins D f s:=by
 cases f with
 | next=>obtain ⟨U',H',I,q⟩:=h;exact ⟨U',H',I.unbod,q⟩
 | brk=>obtain ⟨U',H',I,q⟩:=h;exact ⟨U',H',I.unbod,q⟩
 | cont=>obtain ⟨U',H',I,q⟩:=h;exact ⟨U',H',I.unbod,q⟩
 | ret u=>obtain ⟨v,U',H',I,r,q⟩:=h;exact ⟨v,U',H',I.unbod,r,q⟩
theorem yH:qC (X.bod pins R) R:=by
 rintro pins' e s' ⟨x,C,d,U,H',he,I,⟨tx,F⟩,r⟩
 refine ⟨x,C,d,U,H',he,I.unbod,⟨tx,?_⟩,r⟩
 rcases F with F | ⟨T,F⟩
 ·exact .inl F
 ·obtain ⟨a1,a2,a3,a4,a5,a6⟩:=F.fp
  exact .inr ⟨T,F.obj,F.tb,⟨a1,a2,a3,a4,a5,fun p hp=>a6 p (Zy _ hp)⟩,F.tr⟩
theorem Dz {A:Around} {E:Value->Shared->Prop} {P:Addr} {b:Bool} {Q:Bool->Shared->Prop} {vs:Array Value} {M:Model} {K:W.Frag} (KI:K.In s.heap) (c:XCls K C) (cP:XCls K P) (e:s.heap.get? x=some (fj C (some d) vs)) (hm:PySem.W.mroIn K C (.ref P)=some b) (h:Q b s):
  wpAny M A (excMatches (.ref x) (.ref P)) Q E s:=by
 obtain ⟨nm,qn,N,bs,bm,sn,sub,ab,col,dd,k0,k1,k2,k3,k5,lk,tl⟩:=uC c.xi
 obtain ⟨nm',qn',N',bs',bm',sn',sub',ab',col',dd',k0',k1',k2',k3',k5',lk',tl'⟩:=uC cP.xi
 have hC:=KI _ _ lk
 have hP:=KI _ _ lk'
 have hPB:(Value.ref P :: bm').contains (.type "BaseException")=true:=by
  rw [List.contains_cons,(tl' _ KI).hasType (show Wi.contains (.type "BaseException")=true from by decide)];rfl
 have hCP:(Value.ref C :: bm).contains (.ref P)=b:=by
  unfold PySem.W.mroIn PySem.W.clsIn at hm
  rw [lk] at hm
  exact Zn hm
 have f:=tc_notTuple
 obtain ⟨hp,g,dr,tk,os⟩:=s
 unfold fj at e
 unfold excMatches
 by_cases hh:P=C
 ·subst hh
  have hb:b=true:=by rw [← hCP];simp
  subst hb
  rw [lk] at lk'
  cases lk'
  repeat (first | with_reducible refine Aak e ?_ | with_reducible refine Aak hC ?_ | (with_reducible refine Aba hC ?_;first | rw [hPB] | rw [hCP]) | wp_step)
  exact h
 ·repeat (first | with_reducible refine Aak e ?_ | with_reducible refine Aak hP ?_ | (with_reducible refine Aba hP ?_;rw [hPB]) | (with_reducible refine Aba hC ?_;rw [hCP]) | wp_step)
  cases b <;> (wp_walk;exact h)
abbrev TH:=Ends->St->Addr->Addr->Hp->Prop
def PH (X:Cx) (hs:List ExceptHandler) (th:TH):Prop:=∀ (pins:List (Addr×Obj)) (s:Shared) (U:St) (H:Hp) (D:Ends) (x C d T:Addr),Inv X pins U H s->Head X pins H x C d T s.heap->th D U x C H->
 wpAny (model X.prog X.w) X.A (handleBy (.ref x) X.env hs) (SP X pins D) X.xe s
theorem Ry:PH X [] (fun _ _ _ _ _=>False):=fun _ _ _ _ _ _ _ _ _ _ _ h=>h.elim
def Ends.gone (D:Ends) (i:Nat):Ends:={nx:=fun U H=>D.nx (U.set i none) H,rt:=D.rt,bk:=fun U H=>D.bk (U.set i none) H,ct:=fun U H=>D.ct (U.set i none) H}
def YD (K:W.Frag) (P:Addr) (i:Nat) (ts:TS) (th:TH):TH:=fun D U x C H=>∃ b,XCls K C/\PySem.W.mroIn K C (.ref P)=some b/\if b=true then ts (D.gone i) (U.set i (some (.ref x))) H else th D U x C H
variable {nm n:Str} {P:Addr} {i:Nat} {p pos:Pos} {b0:Stmt} {suite:List Stmt} {ts:TS} {th:TH} {hs:List ExceptHandler}
theorem Wm (hg:Gl X nm) (hm:X.mg nm=some (.ref P)) (cP:XCls X.K P) (hdb:(nm == ("__debug__":Str))=false) (hN:X.N.Nodup) (hi:X.N[i]?=some n) (hl:X.env.scope.names.lookup n=some .local)
  (hsu:∀ x,PSs (X.sui x) (b0 :: suite) ts) (hr:PH X hs th):PH X (.ExceptHandler (some (.Name nm p)) (some n) (b0 :: suite) pos :: hs) (YD X.K P i ts th):=by
 rintro pins s U H D x C d T I F ⟨b,c,mb,q⟩
 obtain ⟨vs,ex,h1⟩:=F.obj
 refine wpAny_handleBy_cons (codeAny_handlers_test (qd (I.sui x) hg hm ?_ hdb)) (fun z=>nomatch z)
 refine Dz I.kIn c cP ex mb ?_
 cases b with
 | false=>
  rw [if_neg Y4] at q
  exact hr pins s U H D x C d T I F q
 | true=>
  rw [if_pos rfl] at q
  refine codeAny_handlers_suite_as ?_
  refine uD I F fun h2 I2 F2=>?_
  refine p8 (X:=X.sui x) (v:=.ref x) (I2.sui x) hN hi (.inl hl) rfl (fun s3 I3=>?_) (.inr hl)
  refine ZP (hsu x pins s3 _ H (D.gone i) I3 q) (fun f s4 w=>?_) fun _ _ z=>False.elim z
  cases f with
  | next=>obtain ⟨U',H',J,r⟩:=w;exact name_goes (J.unsui I.ok) hN hi hl fun s5 I5=>⟨_,H',I5,r⟩
  | brk=>obtain ⟨U',H',J,r⟩:=w;exact name_goes (J.unsui I.ok) hN hi hl fun s5 I5=>⟨_,H',I5,r⟩
  | cont=>obtain ⟨U',H',J,r⟩:=w;exact name_goes (J.unsui I.ok) hN hi hl fun s5 I5=>⟨_,H',I5,r⟩
  | ret u=>obtain ⟨v,U',H',J,rv,r⟩:=w;exact name_goes (J.unsui I.ok) hN hi hl fun s5 I5=>⟨v,_,H',I5,rv,r⟩
def Rz (tb:(St->XK)->TS) (th:TH):TS:=fun D U H=>tb (fun U' c x H'=>∃ C a,c= .ref C/\x=some a/\th D U' a C H') D U H
theorem RB {body:List Stmt} {h0:ExceptHandler} {tb:(St->XK)->TS} (hst:X.stack=X.env :: X.outer) (hfr:X.env.frame=some X.env.locals) (hb:∀ (pins:List (Addr×Obj)) (R:St->XK),PSs (X.bod pins R) body (tb R)) (hh:PH X (h0 :: hs) th):
  PS X (.Try body (h0 :: hs) [] [] pos) (Rz tb th):=by
 intro pins s U H D I h
 refine wpAny_Try_except (ZP (hb pins _ [] s U H D (I.bod _) h) (fun f s1 q=>?_) fun e s1 q=>?_)
 ·have q':=q.unbod
  cases f with
  | next=>exact wpAny_execs_nil q'
  | brk=>exact q'
  | cont=>exact q'
  | ret u=>exact q'
 ·obtain ⟨x,C,d,U',H',rfl,I1,F1,C',a',eC,ea,r⟩:=q
  cases eC
  cases ea
  refine yF I1 hst hfr I1.ok.frames F1 fun h2 T I2 F2=>?_
  refine uD I2 F2 fun h3 I3 F3=>?_
  exact hh pins _ U' H' D x C d T I3 F3 r
end
def iU (mg:Str->Option Value) (x:Str):Addr:=match mg x with
 | some (.ref a)=>a
 | _=>0
theorem qD {mg:Str->Option Value} {x:Str} {C:Addr} (h:mg x=some (.ref C)):iU mg x=C:=by unfold iU;rw [h]
structure HJ (K:W.Frag) (mg:Str->Option Value) (x:Str):Prop where
 at_:mg x=some (.ref (iU mg x))
 cl:LK K (iU mg x)
theorem O5 {K:W.Frag} {mg:Str->Option Value} {h:Heap} (X:K.In h) (G:h.Ns mainGlobals mg) {x:Str} {C:Addr} (a:PySem.W.nsIn K mainGlobals x=some (some (.ref C))) (b:By K C=true):HJ K mg x:=by
 have m:=Abu X G a
 have e:=qD m
 exact ⟨by rw [e];exact m,by rw [e];exact Hu b⟩
structure DG (K:W.Frag) (mg:Str->Option Value) (x:Str) (fl:List Str) (qual:Str) (st:Stmt):Prop where
 c:HJ K mg x
 kp:PySem.W.keepIn K (.ref (iU mg x))=true
 na:∀ f∈fl,jQ K (iU mg x) f
 ini:∃ f fd,PySem.W.findIn K (.ref (iU mg x)) "__init__"=some (some (.ref f))/\PySem.W.typeIn K (.ref f)=some (.type "function")/\Fun K "__init__" qual st f fd
def RC (K:W.Frag) (C:Addr) (fl:List Str):Bool:=fl.all fun n=>PySem.W.findIn K (.ref C) n == some none
theorem O6 {K:W.Frag} {mg:Str->Option Value} {h:Heap} (X:K.In h) (G:h.Ns mainGlobals mg) {x qual:Str} {C f:Addr} {fl:List Str} {st:Stmt} {oc:Value} {od an:Option Addr} {osl:Array (Option Value)} {kV doc pm cdv ct:Value}
  (a:PySem.W.nsIn K mainGlobals x=some (some (.ref C))) (b:By K C=true) (kp:PySem.W.keepIn K (.ref C)=true) (na:RC K C fl=true)
  (i:PySem.W.findIn K (.ref C) "__init__"=some (some (.ref f))) (t:PySem.W.typeIn K (.ref f)=some (.type "function"))
  (l:K.lookup f=some ⟨oc,od,.func (PySem.W.fnOf "__init__" qual (gD st) (di st) (aB st) .none kV doc pm an cdv ct),osl⟩) (c:PySem.W.codeIn K cdv qual=true) (k:PySem.W.keepIn K (.ref f)=true):DG K mg x fl qual st:=by
 have m:=Abu X G a
 have e:=qD m
 refine ⟨O5 X G a b,by rw [e];exact kp,fun n hn=>?_,f,_,by rw [e];exact i,t,Gw l c k⟩
 rw [e]
 have:=ZM.mp na n hn
 exact Aa6.mp this
structure Sub (K:W.Frag) (mg:Str->Option Value) (x y:Str) (b:Bool):Prop where
 mro:PySem.W.mroIn K (iU mg x) (.ref (iU mg y))=some b
 one:PySem.W.kitOne K (.ref (iU mg x)) (.ref (iU mg y))=some b
theorem rB {K:W.Frag} {mg:Str->Option Value} {h:Heap} (X:K.In h) (G:h.Ns mainGlobals mg) {x y:Str} {C P:Addr} {r:Bool} (a:PySem.W.nsIn K mainGlobals x=some (some (.ref C))) (b:PySem.W.nsIn K mainGlobals y=some (some (.ref P)))
  (m:PySem.W.mroIn K C (.ref P)=some r) (o:PySem.W.kitOne K (.ref C) (.ref P)=some r):Sub K mg x y r:=by
 have e:=qD (Abu X G a)
 have e2:=qD (Abu X G b)
 exact ⟨by rw [e,e2];exact m,by rw [e,e2];exact o⟩
theorem BK {K:W.Frag} {mg:Str->Option Value} {h:Heap} (X:K.In h) (G:h.Ns mainGlobals mg) {x:Str} {T:String} {C:Addr} {r:Bool} (a:PySem.W.nsIn K mainGlobals x=some (some (.ref C)))
  (o:PySem.W.kitOne K (.ref C) (.type T)=some r):PySem.W.kitOne K (.ref (iU mg x)) (.type T)=some r:=by
 rw [qD (Abu X G a)];exact o
structure JH (X:Cx) (hs:List ExceptHandler) (th:TH):Prop where
 run:PH X hs th
section
variable {X:Cx} {K:W.Frag} {k:Nat} {x n fn:Str} {ps:List Str} {sp:Sp} {R:St->XK} {p pos cpos pos':Pos} {e o value:Expr} {es:List Expr} {t:TA} {ta tv:TE} {st:Stmt} {u ts:TS} {th:TH} {hs:List ExceptHandler} {i:Nat}
theorem mj (F:Dy X.prog X.w X.K X.mg X.base k x ps sp) (hr:Room k X.A) (hg:Gl X x) (hx:qC X R) (ha:JA X (e :: es) t) (hdb:(x == ("__debug__":Str))=false) (h:autoParam ((e :: es).all notStar=true) L2.auto4._auto_1):
  JE X (.Call (.Name x p) (e :: es) [] pos) (zZ sp R t):=by
 have h1:notStar e=true:=by simp only [Z7,Zm] at h;exact h.1
 have h2:es.all notStar=true:=by simp only [Z7,Zm] at h;exact h.2
 exact ⟨Hy F hr hg hx ha.run hdb (fP h1) (pN h2)⟩
theorem HN {C:Addr} (hg:Gl X x) (hm:X.mg x=some (.ref C)) (hd:(x == ("__debug__":Str))=false):JE X (.Name x pos) (tC (.ref C)):=⟨Bb hg hm rfl hd⟩
theorem HQ (hK:X.K=K) (he:JE X e ta) (h:autoParam (nR e=true) L2.auto4._auto_1):JE X (.Attribute e fn pos) (HF K ta fn):=by
 subst hK
 exact ⟨Mg he.run (by cases e <;> first | rfl | cases h)⟩
theorem BL (hK:X.K=K) (ha:JE X o ta) (hv:JE X value tv) (h:autoParam (jD value=true) L2.auto4._auto_1):JS X (.Assign [.Attribute o fn pos'] value pos) (Hz K ta tv fn):=by
 subst hK
 exact ⟨Mf ha.run hv.run (yx h)⟩
theorem uF {fl:List Str} (M:U0 X.prog X.w X.K X.mg X.base k x (iU X.mg x) fl) (hr:Room (k+1) X.A) (hc:X.calm=true) (hg:Gl X x) (hx:qC X R) (ha:JA X (e :: es) t) (hdb:(x == ("__debug__":Str))=false) (h:autoParam ((e :: es).all notStar=true) L2.auto4._auto_1):
  JS X (.Raise (some (.Call (.Name x p) (e :: es) [] cpos)) none pos) (z6 (iU X.mg x) fl R t):=by
 have h1:notStar e=true:=by simp only [Z7,Zm] at h;exact h.1
 have h2:es.all notStar=true:=by simp only [Z7,Zm] at h;exact h.2
 exact ⟨HH M hr hc hg hx ha.run hdb (fP h1) (pN h2)⟩
theorem RD:JH X [] (fun _ _ _ _ _=>False):=⟨Ry⟩
theorem O7 {b0:Stmt} {suite:List Stmt} (hK:X.K=K) (c:HJ K X.mg x) (hg:Gl X x) (hdb:(x == ("__debug__":Str))=false) (hN:X.N.Nodup) (hi:X.N[i]?=some n) (hl:X.env.scope.names.lookup n=some .local)
  (hsu:∀ x,JB (X.sui x) (b0 :: suite) ts) (hr:JH X hs th):JH X (.ExceptHandler (some (.Name x p)) (some n) (b0 :: suite) pos :: hs) (YD K (iU X.mg x) i ts th):=by
 subst hK
 exact ⟨Wm hg c.at_ c.cl.cls hdb hN hi hl (fun x=>(hsu x).run) hr.run⟩
theorem RG {body:List Stmt} {h0:ExceptHandler} {tb:(St->XK)->TS} (hst:X.stack=X.env :: X.outer) (hfr:X.env.frame=some X.env.locals) (hb:∀ (pins:List (Addr×Obj)) (R:St->XK),JB (X.bod pins R) body (tb R)) (hh:JH X (h0 :: hs) th):
  JS X (.Try body (h0 :: hs) [] [] pos) (Rz tb th):=⟨RB hst hfr (fun pins R=>(hb pins R).run) hh.run⟩
end
section
variable {P:Program} {w:World} {K:W.Frag} {mg:Str->Option Value} {base:Heap}
theorem HR {x:Str} {st:Stmt} {N ps:List Str} {k:Nat} {sp:Sp} (D:eY K mg x st) (S:aP N ps (aB st))
  (hb:∀ (kV doc pm:Value) (an:Option Addr) (cdv ct:Value) (us:List Value),us.length=ps.length->bindArgs (PySem.W.fnOf x x (gD st) (di st) (aB st) .none kV doc pm an cdv ct) ⟨us,[]⟩=pure (ps.zip us))
  (len:∀ vs H Q E,sp vs H Q E->vs.length=ps.length)
  (hbody:∀ (f:Addr) (cdv:Value) (A:Around) (outer:List Env) (s:Shared) (H:Hp) (vs:List V) (Q:VK) (E:XK),Room k (A.deeper (envOfC x (aB st) s.heap.objs.size f cdv))->sp vs H Q E->
   ∃ t,JB (qe (Rv P w) P w K mg base N x (aB st) f cdv A outer s H E) (di st) t/\t {nx:=fun _ H'=>Q .non H',rt:=Q} (start N vs) H):Dy P w K mg base (k+1) x ps sp:=by
 obtain ⟨f,fd,F,hm⟩:=D
 refine ⟨f,fd,hm,F.kp,F.binds hb,?_⟩
 obtain ⟨oc,od,kV,doc,pm,an,cdv,ct,osl,rfl,lk,hcd⟩:=F.ex
 exact Ov lk hcd S len fun A outer s H vs Q E hr h=>let ⟨t,j,q⟩:=hbody f cdv A outer s H vs Q E hr h;⟨t,j.run,q⟩
theorem mkX {x qual:Str} {st:Stmt} {N ps:List Str} {fl:List Str} {k:Nat} (D:DG K mg x fl qual st) (S:aP N ps (aB st))
  (hb:∀ (kV doc pm:Value) (an:Option Addr) (cdv ct:Value) (us:List Value),us.length=ps.length->bindArgs (PySem.W.fnOf "__init__" qual (gD st) (di st) (aB st) .none kV doc pm an cdv ct) ⟨us,[]⟩=pure (ps.zip us))
  (hl:ps.length=fl.length+1)
  (hbody:∀ (f:Addr) (cdv:Value) (A:Around) (outer:List Env) (s:Shared) (H:Hp) (vs:List V) (Q:VK) (E:XK),Room k (A.deeper (envOfC qual (aB st) s.heap.objs.size f cdv))->xF (iU mg x) fl vs H Q E->
   ∃ t,JB (qe Dh P w K mg base N qual (aB st) f cdv A outer s H E).nox (di st) t/\t {nx:=fun _ H'=>Q .non H',rt:=Q} (start N vs) H):U0 P w K mg base (k+1) x (iU mg x) fl:=by
 obtain ⟨f,fd,a,b,F⟩:=D.ini
 refine ⟨D.c.at_,D.c.cl,D.kp,D.na,f,fd,ps,a,b,F.binds hb,F.ok S (fun vs H Q E h=>?_) fun cdv A outer s H vs Q E hr h=>let ⟨t,j,q⟩:=hbody f cdv A outer s H vs Q E hr h;⟨t,j.run,q⟩⟩
 obtain ⟨y,ws,rfl,hw,_⟩:=h
 rw [ZW,hw,hl]
end
def initOf:Stmt->Stmt
 | .ClassDef _ _ _ (s :: _) _ _ _ _ _ _ _=>s
 | s=>s
section
variable {U:St} {H:Hp} {D:Ends} {Q:VK} {sp:Sp} {R:St->XK} {a:TA} {K:W.Frag} {C P:Addr} {fl:List Str} {th:TH} {ts:TS} {i:Nat} {ta:TE} {f:Str}
theorem iz (h:a U H fun vs H1=>sp vs H1 Q (R U)):zZ sp R a U H Q:=h
theorem o9 {tb:(St->XK)->TS} (h:tb (fun U' c x H'=>∃ C a,c= .ref C/\x=some a/\th D U' a C H') D U H):Rz tb th D U H:=h
theorem iB (h:a U H fun vs H1=>vs.length=fl.length/\vs.length<=sizeLine/\∀ x H2,Same H1 H2->LQ H2 x C (fl.zip vs)->R U (.ref C) (some x) H2):z6 C fl R a D U H:=h
theorem kI (h:ta U H fun x H1=>∃ a C fs v,x= .ref a/\LQ H1 a C fs/\XCls K C/\jQ K C f/\fs.lookup f=some v/\Q v H1):HF K ta f U H Q:=h
theorem BP {x C:Addr} (c:XCls K C) (m:PySem.W.mroIn K C (.ref P)=some true) (h:ts (D.gone i) (U.set i (some (.ref x))) H):YD K P i ts th D U x C H:=⟨true,c,m,by rw [if_pos rfl];exact h⟩
theorem Wn {x C:Addr} (c:XCls K C) (m:PySem.W.mroIn K C (.ref P)=some false) (h:th D U x C H):YD K P i ts th D U x C H:=⟨false,c,m,by rw [if_neg Y4];exact h⟩
theorem ju {x C:Addr} {v:V} {c:Value} {fs:List (Str×V)} {b:Bool} (ex:LQ H x C fs) (cl:LK K C) (e:YC v=some c) (o:PySem.W.kitOne K (.ref C) c=some b) (h:Q (.bl b) H):O4 K [.ref x,v] H Q:=
 ⟨.ref x,.ref C,b,.inr ⟨x,C,fs,rfl,ex,cl,rfl⟩,.inl ⟨v,c,rfl,e,o⟩,h⟩
theorem rd1 {f1 p0 p1:Str} {vs:List V} {E:XK} (c:XCls K C) (n:jQ K C f1) (h:xF C [f1] vs H Q E):Hz K (sI 0) (sI 1) f1 {nx:=fun _ H'=>Q .non H',rt:=Q} (start [p0,p1] vs) H:=by
 obtain ⟨x,ws,rfl,hw,hx,q⟩:=h
 match ws,hw with
 | [v],_=>exact ⟨v,rfl,.ref x,rfl,x,C,rfl,c,n,.inl ⟨hx,fun d hd ne=>q d hd ne⟩⟩
end
section
variable {X:Cx} {e:Expr} {te:TE} {lo hi:Option Expr} {st:Expr} {tl th ts:TO} {pos p2:Pos}
theorem xG:JE X (.Dict [] [] pos) zN:=⟨GQ⟩
end
section
variable {U:St} {H:Hp} {Q:VK} {te:TE}
theorem kJ (h:∀ p,H p=none->Q (.ref p) (upd H p (.dK []))):zN U H Q:=h
end
def Wo (K:W.Frag) (neg:Bool):R2:=fun x y H Q=>∃ a b xs,x= .ref a/\y= .ref b/\SqL K H a xs/\SqL K H b xs/\(∀ v∈xs,dG v=true\/∃ r,v= .ref r)/\Q (.bl (!neg)) H
theorem qF {v:V} (f:dG v=true):Bo v v=true:=by
 cases v <;> first | (cases f;done) | rfl | (simp [Bo])
section
variable {X:Cx}
theorem RJ (hu:X.A.units < cLine):OpR X (compareOp .Eq) (Wo X.K false):=by
 intro pins s U H x y v u Q I rx ry h
 obtain ⟨a,b,xs,rfl,rfl,ha,hb,fx,q⟩:=h
 cases rx
 cases ry
 obtain ⟨its,r1,p1,z1⟩:=I.list ha
 obtain ⟨jts,r2,p2,z2⟩:=I.list hb
 have l1:its.toArray.size=xs.length:=by simpa using r1.length.symm
 have l2:jts.toArray.size=xs.length:=by simpa using r2.length.symm
 refine SeqAt.eq_listAt (e:=fun _=>true) p1.isList p2.isList (by rw [l1,l2]) hu (fun j h1 h2=>?_) ?_
 ·have hj:j < xs.length:=by omega
  obtain ⟨u1,e1,q1⟩:=r1.get (YL hj)
  obtain ⟨u2,e2,q2⟩:=r2.get (YL hj)
  have f1:its.toArray[j]=u1:=by
   obtain ⟨_,z⟩:=YS.mp e1
   simpa using z
  have f2:jts.toArray[j]=u2:=by
   obtain ⟨_,z⟩:=YS.mp e2
   simpa using z
  rw [f1,f2]
  rcases fx _ (Aaa hj) with f | ⟨r,f⟩
  ·rw [← qF f]
   exact qY q1 q2 f f
  ·rw [f] at q1 q2
   cases (show u1=Value.ref r from q1)
   cases (show u2=Value.ref r from q2)
   exact AaY _
 ·have e:(List.range its.toArray.size).all (fun _=>true)=true:=by simp
  rw [e]
  exact ⟨.bl true,H,I,rfl,q⟩
def Mh (K:W.Frag):R2:=fun x y H Q=>Ds K x y H Q\/Wo K false x y H Q
theorem RK {K:W.Frag} (hK:X.K=K) (hu:X.A.units+64 < cLine):OpR X (compareOp .Eq) (Mh K):=by
 subst hK
 exact (Rt rfl hu).or (RJ (Aao (Aaz _ _) hu))
end
section
variable {H:Hp} {Q:VK} {K:W.Frag}
theorem jw {i j:Int} (h:Q (.bl (decide (V.int i=V.int j))) H):Mh K (.int i) (.int j) H Q:=.inl (jn h)
theorem jx {i j:Str} (h:Q (.bl (decide (V.str i=V.str j))) H):Mh K (.str i) (.str j) H Q:=.inl (jo h)
end
end L2
namespace L2
open PySem PySem.Spec PyProof.Rows
open AutoSeq1 (wpAny_loadPart')
theorem z7:isSubtype (.type "dict") (.type "dict")=pure true:=by rw [isSubtype_type];kernel_rfl
theorem DK {prog:Program} {w:World} {A:Around} {E:Value->Shared->Prop} {s:Shared} {Q:Value->Shared->Prop} {a:Addr} {o:Obj} {e:DictEntry} {ep:Nat} {k:Key} (ho:s.heap.get? a=some o) (hc:o.cls= .type "dict") (hd:o.data= .dict #[e] ep)
  (hkey:(b8 prog w).is k e.key=true) (hh:e.hash=(b8 prog w).hash k) (hsm:(a == sysModules)=false) (hu:A.units < cLine) (h:Q (.bool true) s):wpAny (model prog w) A (compareOp .Eq (.ref a) (.ref a)) Q E s:=by
 show wpAny _ _ (richCompare .Eq (.ref a) (.ref a)) _ _ _
 refine wpAny_richCompare_same_room ⟨o,ho,hc⟩ ⟨o,ho,hc⟩ F.slot_dict_eq (Abi (AaH F.slot_dict_eq.plain F.entry_dict_eq (F.slot_dict_eq.check _ _ _ _ _ _ _ _ ⟨o,ho,hc⟩ (F.args_dict_eq_2 _ _) ?_))) hu
 have ko:KeysOf (b8 prog w) #[e]:=fun x hx=>by
  simp at hx
  subst hx
  exact ⟨k,hkey,hh⟩
 have f2:=z7
 obtain ⟨hp,g,d,tk,os⟩:=s
 have hT:(⟨hp,g,d,tk,os⟩:Shared).TypeIs (.ref a) "dict":=⟨_,ho,hc⟩
 unfold Builtin.«dict.__eq__»
 wp_walk using wpAny_loadPart' ho
 have en:∀ (Q:Array DictEntry->Shared->Prop) (E:Value->Shared->Prop),Q #[e] ⟨hp,g,d,tk,os⟩->wpAny (model prog w) A.in1 (dictEntries a) Q E ⟨hp,g,d,tk,os⟩:=fun Q E q=>by
  unfold dictEntries
  refine YK (AaI ho ?_)
  simp only [hd]
  exact YM q
 have eo:∀ (Q:Nat->Shared->Prop) (E:Value->Shared->Prop),Q ep ⟨hp,g,d,tk,os⟩->wpAny (model prog w) A.in1 (dictEpoch a) Q E ⟨hp,g,d,tk,os⟩:=fun Q E q=>by
  unfold dictEpoch
  refine YK (AaI ho ?_)
  simp only [hd]
  exact YM q
 simp only [hd]
 refine YM ?_
 refine YK (en _ _ ?_)
 rw [if_neg (by simp)]
 refine YK (eo _ _ ?_)
 refine YK ?_
 rw [AaJ]
 simp only [Std.Legacy.Range.size,Nat.sub_zero,Nat.add_sub_cancel,Nat.div_one]
 show wpAny _ _ (forIn [0] _ _) _ _ _
 rw [List.forIn_cons]
 refine YK (YK (en _ _ ?_))
 show wpAny _ _ (holding [e.key,e.val] _ >>=_) _ _ _
 refine YK (Zz ?_)
 refine YK (show wpAny (model prog w) A.in1 (dictFind a e.key e.hash) _ _ _ from ?_)
 rw [hh]
 refine wpAny_dictFind_of hkey ho hd ko ?_
 have fi:(#[e]:Array DictEntry).findIdx? (fun e=>(b8 prog w).is k e.key)=some 0:=by simp [hkey]
 rw [fi]
 refine YK (en _ _ ?_)
 show wpAny _ _ (holding [e.val] (eqBool e.val e.val)) _ _ _
 refine Zz (AaY e.val prog w _ _ ?_)
 rw [if_neg (by simp)]
 refine YK (eo _ _ ?_)
 rw [if_neg (by simp)]
 refine YM ?_
 show wpAny _ _ (forIn [] _ _) _ _ _
 rw [List.forIn_nil]
 refine YM (YM ?_)
 exact YM ⟨(fun z=>nomatch z),h⟩
def Wq:R2:=fun x y H Q=>(y= .non/\Q (.bl (decide (x= .non))) H)\/∃ a b,x= .bl a/\y= .bl b/\Q (.bl (a == b)) H
section
variable {X:Cx}
theorem HS:OpR X (compareOp .Is) Wq:=QB.or (by
 intro pins s U H x y v u Q I rx ry h
 obtain ⟨a,b,rfl,rfl,q⟩:=h
 cases rx
 cases ry
 exact is_bool ⟨.bl _,H,I,rfl,q⟩)
def O8 (K:W.Frag):R2:=fun x y H Q=>∃ a b xs,x= .ref a/\y= .ref b/\SqT K H a xs/\SqT K H b xs/\(∀ v∈xs,dG v=true\/∃ r,v= .ref r)/\Q (.bl true) H
theorem Mi (hu:X.A.units < cLine):OpR X (compareOp .Eq) (O8 X.K):=by
 intro pins s U H x y v u Q I rx ry h
 obtain ⟨a,b,xs,rfl,rfl,ha,hb,fx,q⟩:=h
 cases rx
 cases ry
 obtain ⟨its,r1,p1,z1⟩:=I.tuple ha
 obtain ⟨jts,r2,p2,z2⟩:=I.tuple hb
 have l1:its.toArray.size=xs.length:=by simpa using r1.length.symm
 have l2:jts.toArray.size=xs.length:=by simpa using r2.length.symm
 refine SeqAt.eq_tupleAt (e:=fun _=>true) p1 p2 hu (fun j h1 h2=>?_) ?_
 ·have hj:j < xs.length:=by omega
  obtain ⟨u1,e1,q1⟩:=r1.get (YL hj)
  obtain ⟨u2,e2,q2⟩:=r2.get (YL hj)
  have f1:its.toArray[j]=u1:=by
   obtain ⟨_,z⟩:=YS.mp e1
   simpa using z
  have f2:jts.toArray[j]=u2:=by
   obtain ⟨_,z⟩:=YS.mp e2
   simpa using z
  rw [f1,f2]
  rcases fx _ (Aaa hj) with f | ⟨r,f⟩
  ·rw [← qF f]
   exact qY q1 q2 f f
  ·rw [f] at q1 q2
   cases (show u1=Value.ref r from q1)
   cases (show u2=Value.ref r from q2)
   exact AaY _
 ·have e:((List.range (min its.toArray.size jts.toArray.size)).all (fun _=>true) && its.toArray.size == jts.toArray.size)=true:=by rw [l1,l2];simp
  rw [e]
  exact ⟨.bl true,H,I,rfl,q⟩
def O9:R2:=fun x y H Q=>∃ a k v,x= .ref a/\y= .ref a/\H a=some (.dK [(k,v)])/\Q (.bl true) H
theorem Mj (hu:X.A.units < cLine):OpR X (compareOp .Eq) O9:=by
 intro pins s U H x y v u Q I rx ry h
 obtain ⟨a,k,z,rfl,rfl,ha,q⟩:=h
 cases rx
 cases ry
 obtain ⟨_,hsm,vs,kv,o,es,ep,h1,h2,h3,h4,h5,h6⟩:=(show ObjOk X.prog X.w H s.heap a (.dK [(k,z)]) from I.hok a _ ha)
 cases kv with
 | cons a1 a2=>
  cases a2
  obtain ⟨l⟩:=es
  dsimp only at h5
  cases h5 with
  | @cons en _ _ _ p1 p2 p3=>
   cases p3
   obtain ⟨k',b1,b2⟩:=h4 en (by simp)
   exact DK (e:=en) h1 h2.1 h3 b1 b2 hsm hu ⟨.bl true,H,I,rfl,q⟩
def RL (K:W.Frag):R2:=fun x y H Q=>Mh K x y H Q\/O8 K x y H Q\/O9 x y H Q
theorem bU {K:W.Frag} (hK:X.K=K) (hu:X.A.units+64 < cLine):OpR X (compareOp .Eq) (RL K):=by
 subst hK
 exact (RK rfl hu).or ((Mi (Aao (Aaz _ _) hu)).or (Mj (Aao (Aaz _ _) hu)))
end
theorem HW {sub:List (Option Nat)} {g:TG} {tt:TT} {te:TE} {U:St} {Q:VK} {H:Hp} {K:W.Frag} {a:Addr} {xs:List V} (Pv:Nat->List V->Hp->Prop) (hn:xs.length<=sizeLine) (h0:Pv 0 [] H) (hl:∀ i ys H,Pv i ys H->ys.length<=i)
  (hq:∀ i ys H,Pv i ys H->SqT K H a xs)
  (hs:∀ i ys H x,xs[i]?=some x->Pv i ys H->g x (cU sub U) H fun σ2 H2=>KeepSt (cU sub U) σ2/\tt σ2 H2 fun b H3=>if b=true then te σ2 H3 fun y H4=>Pv (i+1) (ys ++ [y]) H4 else Pv (i+1) ys H3)
  (hd:∀ ys H,Pv xs.length ys H->∀ D,H D=none->Q (.ref D) (upd H D (.lst ys))):oR sub g tt te U Q (Vi K a) H:=
 qm (n:=xs.length) Pv hn h0 hl (fun i ys H hi p=>⟨xs,xs[i],hq i ys H p,YL hi⟩) (fun ys H p=>⟨xs,hq _ ys H p,YW _⟩) (fun i ys H x H' hi p y=>by
  obtain ⟨rfl,e2⟩:=y
  exact hs i ys _ x (e2 xs (hq i ys _ p)) p) hd
section
variable {H:Hp} {Q:VK} {K:W.Frag}
theorem iC {U:St} {r r':R2} {ta tb tc:TE} (h:ta U H fun x H1=>tb U H1 fun y H2=>r x y H2 fun z H3=>∃ k,z= .bl k/\if k=true then tc U H3 fun w H4=>r' y w H4 Q else Q (.bl false) H3):uf r r' ta tb tc U H Q:=h
theorem ph {x:V} (h:Q (.bl (decide (x= .non))) H):Wq x .non H Q:=.inl ⟨rfl,h⟩
theorem kO {i j:Int} (h:Q (.bl (decide (V.int i=V.int j))) H):RL K (.int i) (.int j) H Q:=.inl (jw h)
theorem kW {i j:Str} (h:Q (.bl (decide (V.str i=V.str j))) H):RL K (.str i) (.str j) H Q:=.inl (jx h)
end
end L2
namespace L2
open PySem PySem.Spec PyProof.Rows PySem.SeqAt
theorem z8 {n:Nat}:∀ {ds:List PyData},(∀ d∈ds,d.canLay0=true/\d.depth<=n)->PyData.canLayAll0 ds=true/\PyData.depthAll ds<=n
 | [],_=>⟨rfl,by simp [PyData.depthAll]⟩
 | d :: ds,h=>by
  obtain ⟨a,b⟩:=z8 fun e he=>h e (Zc _ he)
  obtain ⟨c,e⟩:=h d (by simp)
  rw [PyData.canLayAll0,PyData.depthAll,a,c]
  exact ⟨rfl,by omega⟩
theorem HX {n:Nat} {ds:List PyData} (h:∀ d∈ds,d.canLay0=true/\d.depth<=n):(PyData.list ds).canLay0=true/\(PyData.list ds).depth<=n+1:=by
 obtain ⟨a,b⟩:=z8 h
 rw [PyData.canLay0,PyData.depth]
 exact ⟨a,by omega⟩
theorem nU {n:Nat} {ds:List PyData} (h:∀ d∈ds,d.canLay0=true/\d.depth<=n):(PyData.tuple ds).canLay0=true/\(PyData.tuple ds).depth<=n+1:=by
 obtain ⟨a,b⟩:=z8 h
 rw [PyData.canLay0,PyData.depth]
 exact ⟨a,by omega⟩
theorem xH (s:Int):(PyData.int s).canLay0=true/\(PyData.int s).depth<=0:=by simp [PyData.canLay0,PyData.depth]
theorem mq {d:PyData} {n:Nat} (h:d.canLay0=true/\d.depth<=n) (hn:n<=64):shaped d=true:=by
 unfold shaped
 rw [h.1,YZ (by omega)];rfl
theorem pA {A B:Prop} (h:A):if (!false)=true then A else B:=(if_pos (show (!false)=true from rfl)).mpr h
theorem pC {A B:Prop} (h:B):if (!true)=true then A else B:=by rw [if_neg (by simp)];exact h
theorem BR {t u:TS} {D:Ends} {U:St} {H:Hp} (M:St->Hp->Prop) (h1:∀ U H,M U H->u D U H) (h2:∀ N,(∀ U H,M U H->N U H)->t {D with nx:=N} U H):KD t u D U H:=h2 _ h1
end L2
namespace L2
open PySem PySem.Spec PyProof.Rows PySem.SeqAt
open AutoSeq1 (wpAny_loadPart')
theorem z9 {prog:Program} {w:World} {A:Around} {E:Value->Shared->Prop} {s:Shared} {Q:Value->Shared->Prop} {a:Addr} {o:Obj} {e:DictEntry} {ep:Nat} {k:Key} (ho:s.heap.get? a=some o) (hc:o.cls= .type "dict") (hd:o.data= .dict #[e] ep)
  (hkey:(b8 prog w).is k e.key=true) (hh:e.hash=(b8 prog w).hash k) (hsm:(a == sysModules)=false) (hu:A.units < cLine) (h:Q (.bool false) s):wpAny (model prog w) A (compareOp .NotEq (.ref a) (.ref a)) Q E s:=by
 show wpAny _ _ (richCompare .NotEq (.ref a) (.ref a)) _ _ _
 refine wpAny_richCompare_same_room ⟨o,ho,hc⟩ ⟨o,ho,hc⟩ F.slot_dict_ne (Abi (AaH F.slot_dict_ne.plain F.entry_dict_ne (F.slot_dict_ne.check _ _ _ _ _ _ _ _ ⟨o,ho,hc⟩ (F.args_dict_ne_2 _ _) ?_))) hu
 have ko:KeysOf (b8 prog w) #[e]:=fun x hx=>by
  simp at hx
  subst hx
  exact ⟨k,hkey,hh⟩
 have f2:=z7
 obtain ⟨hp,g,d,tk,os⟩:=s
 have hT:(⟨hp,g,d,tk,os⟩:Shared).TypeIs (.ref a) "dict":=⟨_,ho,hc⟩
 unfold Builtin.«dict.__ne__»
 wp_walk using wpAny_loadPart' ho
 have en:∀ (Q:Array DictEntry->Shared->Prop) (E:Value->Shared->Prop),Q #[e] ⟨hp,g,d,tk,os⟩->wpAny (model prog w) A.in1 (dictEntries a) Q E ⟨hp,g,d,tk,os⟩:=fun Q E q=>by
  unfold dictEntries
  refine YK (AaI ho ?_)
  simp only [hd]
  exact YM q
 have eo:∀ (Q:Nat->Shared->Prop) (E:Value->Shared->Prop),Q ep ⟨hp,g,d,tk,os⟩->wpAny (model prog w) A.in1 (dictEpoch a) Q E ⟨hp,g,d,tk,os⟩:=fun Q E q=>by
  unfold dictEpoch
  refine YK (AaI ho ?_)
  simp only [hd]
  exact YM q
 simp only [hd]
 refine YM ?_
 refine YK (en _ _ ?_)
 rw [if_neg (by simp)]
 refine YK (eo _ _ ?_)
 refine YK ?_
 rw [AaJ]
 simp only [Std.Legacy.Range.size,Nat.sub_zero,Nat.add_sub_cancel,Nat.div_one]
 show wpAny _ _ (forIn [0] _ _) _ _ _
 rw [List.forIn_cons]
 refine YK (YK (en _ _ ?_))
 show wpAny _ _ (holding [e.key,e.val] _ >>=_) _ _ _
 refine YK (Zz ?_)
 refine YK (show wpAny (model prog w) A.in1 (dictFind a e.key e.hash) _ _ _ from ?_)
 rw [hh]
 refine wpAny_dictFind_of hkey ho hd ko ?_
 have fi:(#[e]:Array DictEntry).findIdx? (fun e=>(b8 prog w).is k e.key)=some 0:=by simp [hkey]
 rw [fi]
 refine YK (en _ _ ?_)
 show wpAny _ _ (holding [e.val] (eqBool e.val e.val)) _ _ _
 refine Zz (AaY e.val prog w _ _ ?_)
 rw [if_neg (by simp)]
 refine YK (eo _ _ ?_)
 rw [if_neg (by simp)]
 refine YM ?_
 show wpAny _ _ (forIn [] _ _) _ _ _
 rw [List.forIn_nil]
 refine YM (YM ?_)
 exact YM ⟨(fun z=>nomatch z),h⟩
theorem yI {prog:Program} {w:World} {A:Around} {E:Value->Shared->Prop} {s:Shared} {Q:Value->Shared->Prop} {a:Addr} {o:Obj} {ep:Nat} (ho:s.heap.get? a=some o) (hc:o.cls= .type "dict") (hd:o.data= .dict #[] ep)
  (hsm:(a == sysModules)=false) (hu:A.units < cLine) (h:Q (.bool false) s):wpAny (model prog w) A (compareOp .NotEq (.ref a) (.ref a)) Q E s:=by
 show wpAny _ _ (richCompare .NotEq (.ref a) (.ref a)) _ _ _
 refine wpAny_richCompare_same_room ⟨o,ho,hc⟩ ⟨o,ho,hc⟩ F.slot_dict_ne (Abi (AaH F.slot_dict_ne.plain F.entry_dict_ne (F.slot_dict_ne.check _ _ _ _ _ _ _ _ ⟨o,ho,hc⟩ (F.args_dict_ne_2 _ _) ?_))) hu
 have f2:=z7
 obtain ⟨hp,g,d,tk,os⟩:=s
 have hT:(⟨hp,g,d,tk,os⟩:Shared).TypeIs (.ref a) "dict":=⟨_,ho,hc⟩
 unfold Builtin.«dict.__ne__»
 wp_walk using wpAny_loadPart' ho
 have en:∀ (Q:Array DictEntry->Shared->Prop) (E:Value->Shared->Prop),Q #[] ⟨hp,g,d,tk,os⟩->wpAny (model prog w) A.in1 (dictEntries a) Q E ⟨hp,g,d,tk,os⟩:=fun Q E q=>by
  unfold dictEntries
  refine YK (AaI ho ?_)
  simp only [hd]
  exact YM q
 have eo:∀ (Q:Nat->Shared->Prop) (E:Value->Shared->Prop),Q ep ⟨hp,g,d,tk,os⟩->wpAny (model prog w) A.in1 (dictEpoch a) Q E ⟨hp,g,d,tk,os⟩:=fun Q E q=>by
  unfold dictEpoch
  refine YK (AaI ho ?_)
  simp only [hd]
  exact YM q
 simp only [hd]
 refine YM ?_
 refine YK (en _ _ ?_)
 rw [if_neg (by simp)]
 refine YK (eo _ _ ?_)
 refine YK ?_
 rw [AaJ]
 simp only [Std.Legacy.Range.size,Nat.sub_zero,Nat.add_sub_cancel,Nat.div_one]
 show wpAny _ _ (forIn [] _ _) _ _ _
 rw [List.forIn_nil]
 refine YM (YM ?_)
 exact YM ⟨(fun z=>nomatch z),h⟩
def Pa:R2:=fun x y H Q=>∃ a kvs,x= .ref a/\y= .ref a/\H a=some (.dK kvs)/\kvs.length<=1/\Q (.bl false) H
section
variable {X:Cx}
theorem Ml (hu:X.A.units < cLine):OpR X (compareOp .NotEq) Pa:=by
 intro pins s U H x y v u Q I rx ry h
 obtain ⟨a,kvs,rfl,rfl,ha,hl,q⟩:=h
 cases rx
 cases ry
 obtain ⟨_,hsm,vs,kv,o,es,ep,h1,h2,h3,h4,h5,h6⟩:=(show ObjOk X.prog X.w H s.heap a (.dK kvs) from I.hok a _ ha)
 match kvs,hl with
 | [],_=>
  cases kv
  obtain ⟨l⟩:=es
  dsimp only at h5
  cases h5
  exact yI h1 h2.1 h3 hsm hu ⟨.bl false,H,I,rfl,q⟩
 | [(k,z)],_=>
  cases kv with
  | cons a1 a2=>
   cases a2
   obtain ⟨l⟩:=es
   dsimp only at h5
   cases h5 with
   | @cons en _ _ _ p1 p2 p3=>
    cases p3
    obtain ⟨k',b1,b2⟩:=h4 en (by simp)
    exact z9 (e:=en) h1 h2.1 h3 b1 b2 hsm hu ⟨.bl false,H,I,rfl,q⟩
def RM (K:W.Frag):R2:=fun x y H Q=>Dt K x y H Q\/Pa x y H Q
theorem RN {K:W.Frag} (hK:X.K=K) (hu:X.A.units+64 < cLine):OpR X (compareOp .NotEq) (RM K):=(m9 hK hu).or (Ml (Aao (Aaz _ _) hu))
end
section
variable {H:Hp} {Q:VK} {K:W.Frag} {U:St} {D:Ends}
theorem RP {i j:Bool} (h:Q (.bl (!decide (V.bl i=V.bl j))) H):RM K (.bl i) (.bl j) H Q:=.inl (jq h)
end
end L2
namespace L2
open PySem PySem.Spec PyProof.Rows
def Pb:List V->Hp->VK->Prop:=fun xs H Q=>(∃ i j,xs=[.int i,.int j]/\Q (.int (if j > i then j else i)) H)\/∃ (p:Addr) (ns:List Int),xs=[.ref p]/\H p=some (.lst (ns.map V.int))/\ns≠[]/\∀ M,M∈ns->(∀ a∈ns,a<=M)->Q (.int M) H
section
variable {X:Cx}
theorem DN:∀ {us:List Value} {ns:List Int},IntsAre us ns->Vals (ns.map V.int) us:=by
 intro us
 induction us with
 | nil=>intro ns h;cases h;exact .nil
 | cons u us ih=>
  intro ns h
  cases h with
  | cons a b=>exact .cons ⟨_,rfl⟩ (ih (by assumption))
theorem nY (hc:X.calm=true):CallR X (.builtin "max") Pb:=by
 intro pins s U H xs us Q I r h
 rcases h with h | ⟨p,ns,rfl,hp,hne,q⟩
 ·exact CT hc pins s U H xs us Q I r h
 ·obtain ⟨u,rfl,ru⟩:=vals1 r
  cases ru
  obtain ⟨hz,its,n,rv,g⟩:=I.hok p _ hp
  have hi:IntsAre its ns:=intsAre_of rv
  have hl:=rv.length
  obtain ⟨ys,ey⟩:=hi.allInts.items
  have hn:=hi.numsOf
  have hsz:0 < ys.size:=by
   have e1:=congrArg Array.size ey
   have:0 < ns.length:=List.length_pos_iff.mpr hne
   rw [YQ] at hl
   simp [intItems] at e1
   omega
  have hL:s.heap.IsList p (intItems ys):=⟨_,g,rfl,n,by rw [← ey]⟩
  have en:ys.toList.map (·.1)=ns:=by rw [← nums_intItems,← ey,← hn]
  refine max_intList (I.ok.hd hc) hL hsz fun v h' tk hv hk=>?_
  obtain ⟨t,rfl⟩:=intItems_at hv
  obtain ⟨h1,h2⟩:=argBest_gt (numAt ys) (ys.size - 1)
  refine ⟨.int _,H,I.kept hk,⟨t,rfl⟩,q _ ?_ fun a ha=>?_⟩
  ·rw [← en,numAt_eq];exact getD_mem (by rw [YQ,Aai];omega)
  ·rw [← en] at ha
   obtain ⟨j,hj,rfl⟩:=mem_getD ha
   rw [YQ,Aai] at hj
   rw [← numAt_eq];exact h2 j (by omega)
end
section
variable {U:St} {H:Hp} {Q:VK} {D:Ends}
theorem BV {i j:Int} (h:Q (.int (if j > i then j else i)) H):Pb [.int i,.int j] H Q:=.inl ⟨i,j,rfl,h⟩
end
def rInD (K:W.Frag):R2:=fun x y H Q=>Q8 K x y H Q\/∃ a o,y= .ref a/\DGet H a x o/\Q (.bl o.isSome) H
def Mm (K:W.Frag):R2:=fun x y H Q=>xj K x y H Q\/∃ a o,y= .ref a/\DGet H a x o/\Q (.bl (!o.isSome)) H
def fU:zu:=fun o i v H R=>Gq o i v H R\/∃ a H4,o= .ref a/\DPut H a i v H4/\R H4
def Pg:V->List V->Hp->VK->Prop:=fun x vs H Q=>∃ (l:Addr) (xs:List V) (i:Nat) (y:V),x= .ref l/\vs=[.int i]/\H l=some (.lst xs)/\xs[i]?=some y/\i < 2 ^ 62/\Q y (upd H l (.lst (xs.eraseIdx i)))
section
variable {X:Cx}
theorem HY {K:W.Frag} (hK:X.K=K) (hu:X.A.units+64 < cLine):OpR X (compareOp .In) (rInD K):=(Rg hK).or (by
 intro pins s U H x y v u Q I rx ry h
 obtain ⟨a,o,rfl,g,q⟩:=h
 obtain rfl:u=Value.ref a:=ry
 exact d_in (by omega) I g rx fun s3 I3=>⟨.bl o.isSome,H,I3,rfl,q⟩)
theorem rC {K:W.Frag} (hK:X.K=K) (hu:X.A.units+64 < cLine):OpR X (compareOp .NotIn) (Mm K):=(Do hK).or (by
 intro pins s U H x y v u Q I rx ry h
 obtain ⟨a,o,rfl,g,q⟩:=h
 obtain rfl:u=Value.ref a:=ry
 exact Lg (by omega) I g rx fun s3 I3=>⟨.bl (!o.isSome),H,I3,rfl,q⟩)
theorem cT (hu:X.A.units+64 < cLine):KQ X fU:=by
 intro pins s U H o i v ov iv u Q I ro ri rv h
 rcases h with h | ⟨a,H4,rfl,g,q⟩
 ·exact set_list pins s U H o i v ov iv u Q I ro ri rv h
 ·obtain rfl:ov=Value.ref a:=ro
  exact Dl (by omega) I g ri rv fun s4 I4=>⟨H4,I4,q⟩
theorem Mp:Yy X "list.pop" Pg:=by
 intro pins s U H x vs v us Q I rx rv h
 obtain ⟨l,xs,i,y,rfl,rfl,hH,hy,hi,q⟩:=h
 refine Gu pins s U H _ _ v us Q I rx rv ⟨l,xs,i,i,y,rfl,rfl,hH,by omega,by omega,?_,hy,q⟩
 have hl:=(YS.mp hy).1
 unfold seqIndex?
 simp
 omega
end
section
variable {U:St} {H:Hp} {Q:VK} {K:W.Frag}
theorem RQ {l:Addr} {xs:List V} {i:Nat} {y:V} (hl:H l=some (.lst xs)) (hy:xs[i]?=some y) (hi:i < 2 ^ 62) (h:Q y (upd H l (.lst (xs.eraseIdx i)))):Pg (.ref l) [.int i] H Q:=⟨l,xs,i,y,rfl,rfl,hl,hy,hi,h⟩
theorem nZ {p:Addr} {xs:List V} {i:Int} {n:Nat} {v:V} {R:Hp->Prop} (hp:H p=some (.lst xs)) (e:zJ xs.length i=some n) (h:R (upd H p (.lst (xs.set n v)))):fU (.ref p) (.int i) v H R:=.inl (jl hp e h)
end
def Wr (i j:Int):Prop:=0 < j/\j < 1606938044258990275541962092341162602522202993782792835301376
section
variable {X:Cx}
theorem uG:OpR X (binaryOp .FloorDiv) (rI Wr fun i j=>.int (i / j)):=Yv fun i j _ _ _ _ _ hc q=>by
 have h1:(0:Int) < j:=hc.1
 have h2:=hc.2
 refine floordiv_int (by omega) (by rw [Int.fdiv_eq_ediv_of_nonneg i (by omega)];exact q) (.inl (PyProof.noPylong_of_log2 ?_))
 have h3:j.natAbs.log2 < 200:=(Nat.log2_lt (by omega)).mpr (by omega)
 omega
end
end L2
namespace L2
open PySem PySem.Spec PyProof.Rows
open PySem.Sem (wp)
open PySem.AutoSeq1 (wpAny_loadPart')
end L2
namespace L2
open PySem PySem.Spec PyProof.Rows
end L2
namespace L2
open PySem PySem.Spec PyProof.Rows
open PySem.Sem (wp)
open PySem.AutoSeq1 (wpAny_loadPart')
end L2
namespace L2
open PySem PySem.Spec PyProof.Rows
end L2
namespace L2
open PySem PySem.Spec PyProof.Rows
open PySem.Sem (wp)
theorem vO {prog:Program} {w:World} {d:Addr} (hd:(d == sysModules)=false):
  MeetsIn prog w (Builtin.«dict.__len__» ⟨[.ref d],[]⟩) (fun _ R s=>∃ o es ep,s.heap.get? d=some o/\o.data= .dict es ep/\R (.ok (.ret (.int es.size s.toks))) {s with toks:=s.toks+1}):=
 .of_wp fun A R s ⟨o,es,ep,ho,hdat,h⟩=>by
  show wpAny _ _ (dictSize d >>=_) _ _ s
  unfold dictSize
  refine YK (YK (AaN ho hdat (YM ?_)))
  show wpAny _ _ (Builtin.Dict.pendingCount d >>=_) _ _ s
  refine YK (wpAny_pendingCount_other hd ?_)
  refine wpAny_ret_mkInt ?_
  rw [Nat.add_zero];exact h
theorem xJ {prog:Program} {w:World} {A:Around} {E:Value->Shared->Prop} {s:Shared} {d:Addr} {o:Obj} {es:Array DictEntry} {ep:Nat} {Q:Value->Shared->Prop} (hd:(d == sysModules)=false)
  (ho:s.heap.get? d=some o) (hc:o.cls= .type "dict") (hdat:o.data= .dict es ep) (hfit:(es.size:Int) < 2 ^ 63)
  (h:Q (.int es.size (s.toks+1)) {s with toks:=s.toks+1+1}):wpAny (model prog w) A (call (.builtin "len") [.ref d]) Q E s:=by
 have ht:s.TypeIs (.ref d) "dict":=⟨o,ho,hc⟩
 refine Calls.call_function_entry kind_len plain_len entry_len (args_len1 _) ?_
 unfold Builtin.«len»
 refine YK (m:=oneArg "len" _) (YM ?_)
 refine YK (m:=callSpecial? (.ref d) (Str.ofString "__len__")) (Aae (name:=Str.ofString "__len__") ht F.slot_dict_len
  (call_meetsIn F.slot_dict_len ht F.entry_dict_len (F.args_dict_len_1 _) (vO hd) ⟨o,es,ep,ho,hdat,?_⟩))
 show wpAny _ _ _ _ _ {s with toks:=s.toks+1}
 refine YK (Zz (YM ?_))
 refine YK (wpAny_letGo ?_)
 show wpAny _ _ (if ((es.size:Nat):Int) < 0 then _ else _) _ _ _
 rw [if_neg (by omega)]
 show wpAny _ _ (if ((es.size:Nat):Int)>=2 ^ 63 then _ else _) _ _ _
 rw [if_neg (by omega)]
 exact YK (wpAny_mkInt (YM ⟨_,rfl,h⟩))
def Ph:List V->Hp->VK->Prop:=fun xs H Q=>∃ a kvs,xs=[.ref a]/\H a=some (.dT kvs)/\Q (.int kvs.length) H
theorem DP {X:Cx}:CallR X (.builtin "len") Ph:=by
 intro pins s U H xs us Q I r h
 obtain ⟨a,kvs,rfl,ha,q⟩:=h
 obtain ⟨u,rfl,ru⟩:=vals1 r
 cases ru
 obtain ⟨z,hS,xs,rel,o,es,ep,ho,xd,hd,he,_⟩:=I.hok a _ ha
 have e1:es.size=kvs.length:=by
  have a1:=congrArg List.length he
  simp at a1
  rw [a1];exact (Paired.length rel).symm
 refine xJ hS ho xd.1 hd (by rw [e1];rw [sizeLine_eq] at z;omega) ?_
 rw [e1]
 exact ⟨.int kvs.length,H,I.tok _,⟨_,rfl⟩,q⟩
section
variable {X:Cx} {pos:Pos} {U:St} {H:Hp} {Q:VK} {K:W.Frag}
theorem my:JE X (.Dict [] [] pos) zO:=⟨GR⟩
theorem iD (h:∀ p,H p=none->Q (.ref p) (upd H p (.dT []))):zO U H Q:=h
theorem Mq {a:Addr} {kvs:List (List Key×V)} (ha:H a=some (.dT kvs)) (h:Q (.int kvs.length) H):Ph [.ref a] H Q:=⟨a,kvs,rfl,ha,h⟩
theorem gG {a b:Addr} {kvs:List (List Key×V)} {k:List Key} {v:V} {R:Hp->Prop} (ha:H a=some (.dT kvs)) (hb:H b=some (.tup (k.map kV))) (hl:kvs.length < sizeLine) (h:R (upd H a (.dT (putK kvs k v)))):fU (.ref a) (.ref b) v H R:=
 .inr ⟨a,_,rfl,DPut.t ha hb hl,h⟩
end
end L2
namespace L2
open PySem PySem.Spec PyProof.Rows
end L2
namespace L2
open PySem PySem.Spec PyProof.Rows
open PySem.Sem (wp)
end L2
namespace L2
open PySem PySem.Spec PyProof.Rows
open PySem.Sem (wp)
open AutoSeq1 (wpAny_loadPart')
end L2
namespace L2
open PySem PySem.W PySem.Spec PyProof.Rows
section
variable {prog:Program} {w:World} {A:Around} {E:Value->Shared->Prop} {s:Shared}
def Ws (a:Addr) (h h':Heap):Prop:=∀ b o,b≠a->h.get? b=some o->h'.get? b=some o
theorem DQ {h:Heap} {a:Addr} {f:Obj->Obj} {x y:Obj}:Ws a h (((h.update a f).push x).push y):=fun b o nb e=>by
 have e1:(h.update a f).get? b=some o:=by rw [Heap.get?_update_ne _ _ _ _ nb];exact e
 exact YT _ (YT _ e1)
theorem BW (vs:List Value):(vs.toArray.zip vs.toArray).map (·.2)=vs.toArray:=by
 apply Array.toList_inj.mp
 simp only [Array.toList_map,Array.toList_zip]
 exact List.map_snd_zip (YW _)
end
theorem Aa:∀ a:List Int,HT.lexLt a a=false
 | []=>rfl
 | x :: xs=>by rw [HT.lexLt_cons,if_pos rfl];exact Aa xs
theorem lU:∀ {a b c:List Int},HT.lexLt a b=true->HT.lexLt b c=true->HT.lexLt a c=true
 | [],[],_,h,_=>by cases h
 | [],_ :: _,[],_,h=>by cases h
 | [],_ :: _,_ :: _,_,_=>rfl
 | _ :: _,[],_,h,_=>by cases h
 | _ :: _,_ :: _,[],_,h=>by cases h
 | x :: xs,y :: ys,z :: zs,h1,h2=>by
  rw [HT.lexLt_cons] at h1 h2 ⊢
  by_cases e1:x=y
  ·rw [if_pos e1] at h1
   by_cases e2:y=z
   ·rw [if_pos e2] at h2
    rw [if_pos (by omega)];exact lU h1 h2
   ·rw [if_neg e2] at h2
    rw [if_neg (by omega),e1];exact h2
  ·rw [if_neg e1] at h1
   have h1':=Zq h1
   by_cases e2:y=z
   ·rw [if_neg (by omega)];exact YZ (by omega)
   ·rw [if_neg e2] at h2
    have h2':=Zq h2
    rw [if_neg (by omega)];exact YZ (by omega)
theorem qG:∀ {a b:List Int},HT.lexLt a b=false->HT.lexLt b a=false->a=b
 | [],[],_,_=>rfl
 | [],_ :: _,h,_=>by cases h
 | _ :: _,[],_,h=>by cases h
 | x :: xs,y :: ys,h1,h2=>by
  rw [HT.lexLt_cons] at h1 h2
  by_cases e:x=y
  ·rw [if_pos e] at h1
   rw [if_pos e.symm] at h2
   rw [e,qG h1 h2]
  ·rw [if_neg e] at h1
   rw [if_neg (fun z=>e z.symm)] at h2
   have h1':=Z8 h1
   have h2':=Z8 h2
   omega
section
variable {prog:Program} {w:World} {A:Around} {E:Value->Shared->Prop} {s:Shared}
theorem RV {b fin:Bool} {Q:Bool->Shared->Prop}:∀ (n:Nat) {vs us:List Value} {ns ms:List Int},IntsAre vs ns->IntsAre us ms->fin=decide (ns.length < ms.length)->Q (HT.lexLt ns ms) s->KatLex prog w A b fin Q (vs.zip us) n s:=by
 intro n vs us ns ms h1
 induction h1 generalizing n us ms with
 | nil=>
  intro h2 hf q
  cases h2 with
  | nil=>rw [hf];exact q
  | cons y t h2=>rw [hf];exact q
 | cons x t h1 ih=>
  intro h2 hf q
  cases h2 with
  | nil=>rw [hf];exact q
  | cons y u h2=>
   rw [Abk]
   refine kat_cons (wpAny_eqBool_int ?_)
   rw [HT.lexLt_cons] at q
   by_cases e:x=y
   ·rw [if_pos e] at q
    rw [show (x == y)=true by rw [e];exact Abd y]
    refine kat_yes (ih (n+1) h2 ?_ q)
    rw [hf]
    simp
   ·rw [if_neg e] at q
    rw [show (x == y)=false by simpa using e]
    refine kat_no ?_
    cases hb:(b && n == 0) with
    | true=>exact oneLt_int q
    | false=>exact kat_one _ _ (lt_int q)
theorem Wu {Q:Bool->Shared->Prop} {x y:Addr} {vs us:List Value} {ns ms:List Int} (hx:IsTup s.heap x vs.toArray) (hy:IsTup s.heap y us.toArray) (h1:IntsAre vs ns) (h2:IntsAre us ms) (q:Q (HT.lexLt ns ms) s):
  wpAny (model prog w) A (keyLt' (tuples' true) (.ref x) (.ref y)) Q E s:=by
 obtain ⟨ox,gx,_,n1,dx⟩:=hx
 obtain ⟨oy,gy,_,n2,dy⟩:=hy
 refine kat_lt gx dx gy dy (RV 0 h1 h2 ?_ q)
 have l1:=h1.length
 have l2:=h2.length
 simp [l1,l2]
theorem DW {vs:List Value} {ts:List (List Int)} {Q:SortKind->Shared->Prop} (h2:2<=vs.length) (h:∀ i,i < vs.length->∃ a its,vs[i]?=some (.ref a)/\IsTup s.heap a its.toArray/\IntsAre its (ts.getD i [])/\ts.getD i []≠[]) (q:Q (tuples' true) s):
  wpAny (model prog w) A (keyKind' vs.toArray) Q E s:=by
 have key:∀ (l:List Value),(∀ v∈l,∃ a its ns,v= .ref a/\IsTup s.heap a its.toArray/\IntsAre its ns/\ns≠[])->∃ fs:List Value,fs.length=l.length/\KatTups s.heap l fs/\∀ v∈fs,∃ n t,v=Value.int n t:=by
  intro l
  induction l with
  | nil=>exact fun _=>⟨[],rfl,KatTups.nil,fun v hv=>by cases hv⟩
  | cons v l ih=>
   intro hl
   obtain ⟨fs,lf,kf,inf⟩:=ih fun u hu=>hl u (Zc _ hu)
   obtain ⟨a,its,ns,rfl,⟨o,go,co,n,dn⟩,hI,hne⟩:=hl v Zj
   cases hI with
   | nil=>exact absurd rfl hne
   | cons x t hI=>
    refine ⟨.int x t :: fs,by simp [lf],KatTups.cons go co dn (by simp) kf,fun v hv=>?_⟩
    rcases Zg.mp hv with rfl | hv
    ·exact ⟨x,t,rfl⟩
    ·exact inf v hv
 obtain ⟨fs,lf,kf,inf⟩:=key vs fun v hv=>by
  obtain ⟨i,hi,rfl⟩:=Zh.mp hv
  obtain ⟨a,its,e,it,ia,ne⟩:=h i hi
  rw [YL hi] at e
  exact ⟨a,its,_,Zn e,it,ia,ne⟩
 refine kat_kind (T:=.type "int") kf (by omega) (fun v hv=>?_) rfl q
 obtain ⟨n,t,rfl⟩:=inf v hv
 exact Looks.of_pure rfl
end
end L2
namespace L2
open PySem PySem.Spec PyProof.Rows
open PySem.Sem (wp)
end L2
namespace L2
open PySem PySem.Spec PyProof.Rows
open PySem.Sem (wp)
open PySem.AutoSeq1 (wpAny_loadPart')
end L2
namespace L2
open PySem PySem.Spec PyProof.Rows
open PySem.Sem (wp)
end L2
namespace L2
open PySem PySem.Spec PyProof.Rows
def Pj (K:W.Frag):R2:=fun x y H Q=>∃ a b xs,x= .ref a/\y= .ref b/\SqT K H a xs/\SqT K H b xs/\(∀ v∈xs,dG v=true\/∃ r,v= .ref r)/\Q (.bl false) H
section
variable {X:Cx}
theorem Mr (hu:X.A.units < cLine):OpR X (compareOp .NotEq) (Pj X.K):=by
 intro pins s U H x y v u Q I rx ry h
 obtain ⟨a,b,xs,rfl,rfl,ha,hb,fx,q⟩:=h
 cases rx
 cases ry
 obtain ⟨its,r1,p1,z1⟩:=I.tuple ha
 obtain ⟨jts,r2,p2,z2⟩:=I.tuple hb
 have l1:its.toArray.size=xs.length:=by simpa using r1.length.symm
 have l2:jts.toArray.size=xs.length:=by simpa using r2.length.symm
 refine SeqAt.RcNeAt.tuples (e:=fun _=>true) p1 p2 hu (fun j h1 h2=>?_) X.prog X.w _ _ ?_
 ·have hj:j < xs.length:=by omega
  obtain ⟨u1,e1,q1⟩:=r1.get (YL hj)
  obtain ⟨u2,e2,q2⟩:=r2.get (YL hj)
  have f1:its.toArray[j]=u1:=by
   obtain ⟨_,z⟩:=YS.mp e1
   simpa using z
  have f2:jts.toArray[j]=u2:=by
   obtain ⟨_,z⟩:=YS.mp e2
   simpa using z
  rw [f1,f2]
  rcases fx _ (Aaa hj) with f | ⟨r,f⟩
  ·rw [← qF f]
   exact qY q1 q2 f f
  ·rw [f] at q1 q2
   cases (show u1=Value.ref r from q1)
   cases (show u2=Value.ref r from q2)
   exact AaY _
 ·have e:(!((List.range (min its.toArray.size jts.toArray.size)).all (fun _=>true) && its.toArray.size == jts.toArray.size))=false:=by rw [l1,l2];simp
  rw [e]
  exact ⟨.bl false,H,I,rfl,q⟩
def RW (K:W.Frag):R2:=fun x y H Q=>RM K x y H Q\/Pj K x y H Q
theorem RX {K:W.Frag} (hK:X.K=K) (hu:X.A.units+64 < cLine):OpR X (compareOp .NotEq) (RW K):=by
 subst hK
 exact (RN rfl hu).or (Mr (Aao (Aaz _ _) hu))
def BX (K:W.Frag):R2:=fun x y H Q=>Bs x y H Q\/Ow K x y H Q
theorem Ms {K:W.Frag} (hK:X.K=K):OpR X (binaryOp .Add) (BX K):=by
 subst hK
 exact cj.or Lb
end
section
variable {K:W.Frag} {H:Hp} {Q:VK}
theorem RZ {i j:Bool} (h:Q (.bl (!decide (V.bl i=V.bl j))) H):RW K (.bl i) (.bl j) H Q:=.inl (RP h)
theorem Mt {i j:Int} (h:Q (.int (i+j)) H):BX K (.int i) (.int j) H Q:=.inl (jk h)
theorem Mu {a b:Addr} {xs ys:List V} (ha:H a=some (.lst xs)) (hb:H b=some (.lst ys)) (c:xs.length+ys.length<=sizeLine) (h:∀ p,H p=none->Q (.ref p) (upd H p (.lst (xs ++ ys)))):BX K (.ref a) (.ref b) H Q:=.inl (uz ha hb c h)
end
section
variable {U:St} {H:Hp} {Q:VK}
def R0 (o:HO) (n:Nat) (H:Hp) (Q:VK):Prop:=n<=sizeLine/\∀ p,H p=none->Q (.ref p) (upd H p o)
theorem kY {a:TA} (h:a U H fun xs H1=>R0 (.lst xs) xs.length H1 Q):QG a U H Q:=h
theorem kZ {a:TA} (h:a U H fun xs H1=>R0 (.tup xs) xs.length H1 Q):QF a U H Q:=h
theorem aF {o:HO} {n:Nat} (c:Nat.ble n 64=true) (h:∀ p H',H p=none->Same H H'->H' p=some o->Q (.ref p) H'):R0 o n H Q:=
 ⟨Aan (Nat.le_of_ble_eq_true c) (by decide),fun p np=>h p _ np ((Same.refl H).upd np) ao⟩
end
section
variable {sub:List (Option Nat)} {g:TG} {tt:TT} {te:TE} {U:St} {Q:VK} {H:Hp} {K:W.Frag} {a:Addr} {xs:List V} {lo:Int} {n:Nat} {z:Str}
theorem DX (Pv:Nat->List V->Hp->Prop) (hn:n<=sizeLine) (h0:Pv 0 [] H) (hl:∀ i ys H,Pv i ys H->ys.length<=i)
  (hs:∀ i ys H,i < n->Pv i ys H->g (.int (lo+i)) (cU sub U) H fun σ2 H2=>KeepSt (cU sub U) σ2/\tt σ2 H2 fun b H3=>if b=true then te σ2 H3 fun y H4=>Pv (i+1) (ys ++ [y]) H4 else Pv (i+1) ys H3)
  (hd:∀ ys H D H',Pv n ys H->H D=none->Same H H'->H' D=some (.lst ys)->Q (.ref D) H'):oR sub g tt te U Q (KZ lo n) H:=
 Hk Pv hn h0 hl hs fun ys H p D nD=>hd ys H D _ p nD ((Same.refl H).upd nD) ao
theorem jy (Pv:Nat->List V->Hp->Prop) (hn:xs.length<=sizeLine) (h0:Pv 0 [] H) (hl:∀ i ys H,Pv i ys H->ys.length<=i) (hq:∀ i ys H,Pv i ys H->SqL K H a xs)
  (hs:∀ i ys H x,xs[i]?=some x->Pv i ys H->g x (cU sub U) H fun σ2 H2=>KeepSt (cU sub U) σ2/\tt σ2 H2 fun b H3=>if b=true then te σ2 H3 fun y H4=>Pv (i+1) (ys ++ [y]) H4 else Pv (i+1) ys H3)
  (hd:∀ ys H D H',Pv xs.length ys H->H D=none->Same H H'->H' D=some (.lst ys)->Q (.ref D) H'):oR sub g tt te U Q (Ot K a) H:=
 Dp Pv hn h0 hl hq hs fun ys H p D nD=>hd ys H D _ p nD ((Same.refl H).upd nD) ao
theorem wD (Pv:Nat->List V->Hp->Prop) (hn:xs.length<=sizeLine) (h0:Pv 0 [] H) (hl:∀ i ys H,Pv i ys H->ys.length<=i) (hq:∀ i ys H,Pv i ys H->SqT K H a xs)
  (hs:∀ i ys H x,xs[i]?=some x->Pv i ys H->g x (cU sub U) H fun σ2 H2=>KeepSt (cU sub U) σ2/\tt σ2 H2 fun b H3=>if b=true then te σ2 H3 fun y H4=>Pv (i+1) (ys ++ [y]) H4 else Pv (i+1) ys H3)
  (hd:∀ ys H D H',Pv xs.length ys H->H D=none->Same H H'->H' D=some (.lst ys)->Q (.ref D) H'):oR sub g tt te U Q (Vi K a) H:=
 HW Pv hn h0 hl hq hs fun ys H p D nD=>hd ys H D _ p nD ((Same.refl H).upd nD) ao
end
def Kr (rk:Keyed->Int) (xs:Array Keyed) (i:Nat):Int:=match xs[i]? with
 | some p=>rk p
 | none=>0
def Seg (rk:Keyed->Int) (xs:Array Keyed) (lo hi:Nat):Prop:=∀ i j,lo<=i->i<=j->j < hi->Kr rk xs i<=Kr rk xs j
def DY (rk:Keyed->Int) (xs:Array Keyed) (lo hi:Nat):Prop:=∀ i j,lo<=i->i<=j->j < hi->Kr rk xs j<=Kr rk xs i
structure SB (a₀:Array Keyed) (kd:SortKind) (st:SortSt):Prop where
 perm:(arrOf st).Perm a₀
 kind:kindOf st=kd
 failed:failedOf st=none
def qH (M:Model) (A:Around) (E:Value->Shared->Prop) (s:Shared) (kd:SortKind) (rk:Keyed->Int) (a₀:Array Keyed):Prop:=
 ∀ (p q:Keyed) (st:SortSt) (Q:Option Bool->SortSt->Prop),p∈a₀.toList->q∈a₀.toList->kindOf st=kd->Q (some (decide (rk p < rk q))) st->wpS M A E s (lt' p q) Q st
section
variable {M:Model} {A:Around} {E:Value->Shared->Prop} {s:Shared} {kd:SortKind} {rk:Keyed->Int} {a₀:Array Keyed}
theorem ni {xs ys:Array Keyed} {i j:Nat} (h:xs[i]?=ys[j]?):Kr rk xs i=Kr rk ys j:=by unfold Kr;rw [h]
theorem cQ {xs:Array Keyed} {i:Nat} {p:Keyed} (h:xs[i]?=some p):Kr rk xs i=rk p:=by unfold Kr;rw [h]
theorem SB.size {st:SortSt} (h:SB a₀ kd st):(arrOf st).size=a₀.size:=h.perm.size_eq
theorem SB.mem {st:SortSt} (h:SB a₀ kd st) {p:Keyed} (hp:p∈(arrOf st).toList):p∈a₀.toList:=(Array.perm_iff_toList_perm.mp h.perm).mem_iff.mp hp
theorem SB.at {st:SortSt} (h:SB a₀ kd st) {i:Nat} (hi:i < a₀.size):∃ p,(arrOf st)[i]?=some p/\p∈a₀.toList:=by
 have hi':i < (arrOf st).size:=by rw [h.size];exact hi
 exact ⟨(arrOf st)[i],Z9 _ i hi',h.mem (by simp)⟩
theorem aV {U:Type} {xs:Array Keyed} {i:Nat} {p:Keyed} {Q:Keyed->SortSt->Prop} {st:SortSt} (h:xs[i]?=some p) (q:Q p st):wpS M A E s (elem' xs i) Q st:=by
 rw [elem'_eq,h];exact wpS_pure q
theorem qI {st:SortSt} {i j:Nat} {Q:Option Bool->SortSt->Prop} (L:qH M A E s kd rk a₀) (hB:SB a₀ kd st) (hi:i < a₀.size) (hj:j < a₀.size)
  (h:Q (some (decide (Kr rk (arrOf st) i < Kr rk (arrOf st) j))) st):wpS M A E s (ltAt' i j) Q st:=by
 obtain ⟨p,e1,m1⟩:=hB.at hi
 obtain ⟨q,e2,m2⟩:=hB.at hj
 rw [ltAt'_eq]
 refine wpS_bind (wpS_get ?_)
 refine wpS_bind (aV (U:=Unit) e1 (wpS_bind (aV (U:=Unit) e2 ?_)))
 rw [cQ e1,cQ e2] at h
 exact L p q st Q m1 m2 hB.kind h
theorem n6 {xs:Array Keyed} {i j:Nat} (hj:j<=xs.size) (k:Nat):Kr rk (mirror xs i j ((j - i) / 2)) k=if i<=k/\k < j then Kr rk xs (i+j - 1 - k) else Kr rk xs k:=by
 have e:=getElem?_mirror_all (i:=i) hj k
 by_cases h1:i<=k/\k < j
 ·rw [if_pos h1] at e ⊢;exact ni e
 ·rw [if_neg h1] at e ⊢;exact ni e
theorem eO {xs:Array Keyed} {i j:Nat} (hj:j<=xs.size) (heq:∀ k,i<=k->k < j->Kr rk xs k=Kr rk xs (j - 1)) (k:Nat):Kr rk (mirror xs i j ((j - i) / 2)) k=Kr rk xs k:=by
 rw [n6 hj]
 split
 ·rw [heq _ (by omega) (by omega),heq k (by omega) (by omega)]
 ·rfl
theorem rD {xs:Array Keyed} {src d:Nat} (hs:src < xs.size) (hd:d<=src) (k:Nat):
  Kr rk (bubble xs src d) k=if k=src - d then Kr rk xs src else if src - d < k/\k<=src then Kr rk xs (k - 1) else Kr rk xs k:=by
 have e:=getElem?_bubble hs d hd k
 by_cases h1:k=src - d
 ·rw [if_pos h1] at e ⊢;exact ni e
 ·rw [if_neg h1] at e ⊢
  by_cases h2:src - d < k/\k<=src
  ·rw [if_pos h2] at e ⊢;exact ni e
  ·rw [if_neg h2] at e ⊢;exact ni e
structure Nx (a₀:Array Keyed) (kd:SortKind) (rk:Keyed->Int) (lo:Nat) (st st':SortSt):Prop where
 sb:SB a₀ kd st'
 fr:∀ k,k < lo->Kr rk (arrOf st') k=Kr rk (arrOf st) k
 pe:pendingOf st'=pendingOf st
theorem Nx.refl {lo:Nat} {st:SortSt} (h:SB a₀ kd st):Nx a₀ kd rk lo st st:=⟨h,fun _ _=>rfl,rfl⟩
theorem Nx.trans {lo:Nat} {st st' st'':SortSt} (h:Nx a₀ kd rk lo st st') (h':Nx a₀ kd rk lo st' st''):Nx a₀ kd rk lo st st'':=⟨h'.sb,fun k hk=>(h'.fr k hk).trans (h.fr k hk),h'.pe.trans h.pe⟩
theorem Nx.mir {lo i j:Nat} {st st':SortSt} (h:Nx a₀ kd rk lo st st') (hi:lo<=i) (hj:j<=a₀.size):Nx a₀ kd rk lo st (setArr st' (mirror (arrOf st') i j ((j - i) / 2))):=
 ⟨⟨(mirror_perm _ _ _ _).trans h.sb.perm,h.sb.kind,h.sb.failed⟩,fun k hk=>by
  show Kr rk (mirror (arrOf st') i j ((j - i) / 2)) k=_
  rw [n6 (by rw [h.sb.size];exact hj),if_neg (by omega)];exact h.fr k hk,h.pe⟩
theorem Nx.bub {lo src d:Nat} {st st':SortSt} (h:Nx a₀ kd rk lo st st') (hs:src < a₀.size) (hd:d<=src) (hi:lo<=src - d):Nx a₀ kd rk lo st (setArr st' (bubble (arrOf st') src d)):=
 ⟨⟨(bubble_perm _ _ _).trans h.sb.perm,h.sb.kind,h.sb.failed⟩,fun k hk=>by
  show Kr rk (bubble (arrOf st') src d) k=_
  rw [rD (by rw [h.sb.size];exact hs) hd,if_neg (by omega),if_neg (by omega)];exact h.fr k hk,h.pe⟩
theorem tK {st:SortSt} {i j:Nat} {Q:Unit->SortSt->Prop} (h:Q () (setArr st (mirror (arrOf st) i j ((j - i) / 2)))):wpS M A E s (reverseSlice' i j) Q st:=by
 rw [reverseSlice'_eq];exact Aa8 h
def Ia (lo a nrem:Nat):StateT SortSt Sem AscSt:=
 forIn [a:nrem] ((none,a):AscSt) fun _ __s=>do
  let __x ← ltAt' (lo+__s.snd) (lo+__s.snd - 1)
  match __x with
  | some smaller=>if smaller=true then pure (ForInStep.done (none,__s.snd)) else pure (ForInStep.yield (none,__s.snd+1))
  | _=>pure (ForInStep.done (some none,__s.snd))
def uH (lo n nrem:Nat):StateT SortSt Sem (Option Nat):=do
 reverseSlice' lo (lo+n)
 let __s ← Ia lo n nrem
 match __s.fst with
 | some r=>pure r
 | none=>pure (some __s.snd)
def BZ (lo n nrem:Nat):StateT SortSt Sem DescSt:=
 forIn [n:nrem] ((none,n,0):DescSt) fun _ __s=>do
  let __x ← ltAt' (lo+__s.snd.fst) (lo+__s.snd.fst - 1)
  match __x with
  | some smaller=>
   if smaller=true then
    if __s.snd.snd > 0 then do
     reverseSlice' (lo+__s.snd.fst - (__s.snd.snd+1)) (lo+__s.snd.fst)
     pure (ForInStep.yield (none,__s.snd.fst+1,0))
    else pure (ForInStep.yield (none,__s.snd.fst+1,0))
   else do
    let __x ← ltAt' (lo+__s.snd.fst - 1) (lo+__s.snd.fst)
    match __x with
    | some larger=>
     if larger=true then pure (ForInStep.done (none,__s.snd.fst,__s.snd.snd))
     else pure (ForInStep.yield (none,__s.snd.fst+1,__s.snd.snd+1))
    | _=>pure (ForInStep.done (some none,__s.snd.fst,__s.snd.snd))
  | _=>pure (ForInStep.done (some none,__s.snd.fst,__s.snd.snd))
def uI (lo n nrem:Nat):StateT SortSt Sem (Option Nat):=do
 liftM (rule "list.sort.descending-run")
 let __s ← BZ lo (n+1) nrem
 match __s.fst with
 | some r=>pure r
 | none=>
  if __s.snd.snd > 0 then do
   reverseSlice' (lo+__s.snd.fst - (__s.snd.snd+1)) (lo+__s.snd.fst)
   uH lo __s.snd.fst nrem
  else uH lo __s.snd.fst nrem
theorem Ea (lo nrem:Nat):countRun' lo nrem=(do
  let __s ← Ia lo 1 nrem
  match __s.fst with
  | some r=>pure r
  | none=>
   if (__s.snd == nrem)=true then pure (some __s.snd)
   else if __s.snd > 1 then do
    let __x ← ltAt' lo (lo+__s.snd - 1)
    match __x with
    | some rose=>if rose=true then pure (some __s.snd) else do
      reverseSlice' lo (lo+__s.snd)
      uI lo __s.snd nrem
    | _=>pure none
   else uI lo __s.snd nrem):=by
 rw [countRun'_eq]
 unfold uI uH BZ Ia
 dsimp only
 congr 1
 funext __s
 obtain ⟨r,n⟩:=__s
 cases r with
 | some r=>rfl
 | none=>
  dsimp only
  split
  ·rfl
  ·split
   ·congr 1
    funext x
    cases x with
    | none=>rfl
    | some rose=>
     dsimp only
     split
     ·rfl
     ·congr 1
      funext _r
      congr 1
      funext _u
      congr 1
      congr 1
      funext s2
      obtain ⟨r2,n2,q2⟩:=s2
      cases r2 with
      | some r2=>rfl
      | none=>
       dsimp only
       split
       ·congr 1
        funext _v
        (congr 1;funext _w;congr 1;(funext s3;obtain ⟨r3,n3⟩:=s3;cases r3 <;> rfl))
       ·(congr 1;funext _w;congr 1;(funext s3;obtain ⟨r3,n3⟩:=s3;cases r3 <;> rfl))
   ·congr 1
    funext _u
    congr 1
    congr 1
    funext s2
    obtain ⟨r2,n2,q2⟩:=s2
    cases r2 with
    | some r2=>rfl
    | none=>
     dsimp only
     split
     ·congr 1
      funext _v
      (congr 1;funext _w;congr 1;(funext s3;obtain ⟨r3,n3⟩:=s3;cases r3 <;> rfl))
     ·(congr 1;funext _w;congr 1;(funext s3;obtain ⟨r3,n3⟩:=s3;cases r3 <;> rfl))
theorem yJ {st:SortSt} {lo a nrem:Nat} {Q:AscSt->SortSt->Prop} (L:qH M A E s kd rk a₀) (hn:lo+nrem<=a₀.size) (ha:1<=a) (han:a<=nrem) (hB:SB a₀ kd st) (hs:Seg rk (arrOf st) lo (lo+a))
  (h:∀ n,a<=n->n<=nrem->Seg rk (arrOf st) lo (lo+n)->(n=nrem\/Kr rk (arrOf st) (lo+n) < Kr rk (arrOf st) (lo+n - 1))->Q (none,n) st):
  wpS M A E s (Ia lo a nrem) Q st:=by
 unfold Ia
 refine Z6 (I:=fun x c st'=>st'=st/\c=(none,x)/\Seg rk (arrOf st) lo (lo+x)) ?step ?fin ⟨rfl,rfl,hs⟩
 case fin=>
  rintro c st' ⟨rfl,rfl,hs'⟩
  rw [show max a nrem=nrem by omega] at hs' ⊢
  exact h nrem han (YW _) hs' (.inl rfl)
 case step=>
  rintro x c st' hax hxn ⟨rfl,rfl,hs'⟩
  dsimp only
  refine wpS_bind (qI L hB (by omega) (by omega) ?_)
  by_cases hless:Kr rk (arrOf st') (lo+x) < Kr rk (arrOf st') (lo+x - 1)
  ·simp only [hless,decide_true,if_true]
   exact wpS_pure (h x hax (by omega) hs' (.inr hless))
  ·simp only [hless,decide_false,ZR,if_false]
   refine wpS_pure ⟨rfl,rfl,fun i j hl hij hj=>?_⟩
   by_cases hjx:j < lo+x
   ·exact hs' i j hl hij hjx
   ·have hj':j=lo+x:=by omega
    subst hj'
    by_cases hi':i=lo+x
    ·subst hi';exact Aa3 _
    ·exact Z5 (hs' i (lo+x - 1) hl (by omega) (by omega)) (Int.not_lt.mp hless)
theorem uJ {st:SortSt} {lo n nrem:Nat} {Q:Option Nat->SortSt->Prop} (L:qH M A E s kd rk a₀) (hn:lo+nrem<=a₀.size) (h1:1<=n) (hnn:n<=nrem) (hB:SB a₀ kd st)
  (hs:DY rk (arrOf st) lo (lo+n)) (h:∀ m st',Nx a₀ kd rk lo st st'->1<=m->m<=nrem->Seg rk (arrOf st') lo (lo+m)->Q (some m) st'):
  wpS M A E s (uH lo n nrem) Q st:=by
 unfold uH
 have hsz:lo+n<=(arrOf st).size:=by rw [hB.size];omega
 refine wpS_bind (tK ?_)
 have hN:Nx a₀ kd rk lo st (setArr st (mirror (arrOf st) lo (lo+n) ((lo+n - lo) / 2))):=(Nx.refl hB).mir (YW _) (by omega)
 refine wpS_bind (yJ L hn h1 hnn hN.sb ?_ fun m hm1 hm2 hsm _=>wpS_pure (h m _ hN (by omega) hm2 hsm))
 intro i j hl hij hj
 show Kr rk (mirror (arrOf st) lo (lo+n) ((lo+n - lo) / 2)) i<=Kr rk (mirror (arrOf st) lo (lo+n) ((lo+n - lo) / 2)) j
 rw [n6 hsz,n6 hsz,if_pos (by omega),if_pos (by omega)]
 exact hs _ _ (by omega) (by omega) (by omega)
theorem Eb {st:SortSt} {lo n nrem:Nat} {Q:DescSt->SortSt->Prop} (L:qH M A E s kd rk a₀) (hn:lo+nrem<=a₀.size) (h1:1<=n) (hnn:n<=nrem) (hB:SB a₀ kd st)
  (hs:DY rk (arrOf st) lo (lo+n))
  (h:∀ m neq st',Nx a₀ kd rk lo st st'->n<=m->m<=nrem->DY rk (arrOf st') lo (lo+m)->neq+1<=m->(∀ i,lo+m - (neq+1)<=i->i < lo+m->Kr rk (arrOf st') i=Kr rk (arrOf st') (lo+m - 1))->Q (none,m,neq) st'):
  wpS M A E s (BZ lo n nrem) Q st:=by
 unfold BZ
 refine Z6 (I:=fun x c st'=>∃ neq,c=(none,x,neq)/\Nx a₀ kd rk lo st st'/\DY rk (arrOf st') lo (lo+x)/\neq+1<=x/\
   (∀ i,lo+x - (neq+1)<=i->i < lo+x->Kr rk (arrOf st') i=Kr rk (arrOf st') (lo+x - 1))) ?step ?fin ⟨0,rfl,Nx.refl hB,hs,by omega,fun i h1 h2=>by congr 1;omega⟩
 case fin=>
  rintro c st' ⟨neq,rfl,hB',hs',hq,he⟩
  rw [show max n nrem=nrem by omega] at hs' hq he ⊢
  exact h nrem neq st' hB' hnn (YW _) hs' hq he
 case step=>
  rintro x c st' hax hxn ⟨neq,rfl,hB',hs',hq,he⟩
  dsimp only
  have hsz:lo+x<=(arrOf st').size:=by rw [hB'.sb.size];omega
  refine wpS_bind (qI L hB'.sb (by omega) (by omega) ?_)
  by_cases hless:Kr rk (arrOf st') (lo+x) < Kr rk (arrOf st') (lo+x - 1)
  ·simp only [hless,decide_true,if_true]
   have step1:∀ xs:Array Keyed,(∀ k,Kr rk xs k=Kr rk (arrOf st') k)->DY rk xs lo (lo+(x+1)):=by
    intro xs hk i j hl hij hj
    rw [hk,hk]
    by_cases hjx:j < lo+x
    ·exact hs' i j hl hij hjx
    ·have hj':j=lo+x:=by omega
     subst hj'
     by_cases hi':i=lo+x
     ·subst hi';exact Aa3 _
     ·exact Z5 (AbB hless) (hs' i (lo+x - 1) hl (by omega) (by omega))
   by_cases hneq:neq > 0
   ·rw [if_pos hneq]
    refine wpS_bind (tK (wpS_pure ⟨0,rfl,hB'.mir (by omega) (by omega),step1 _ (eO hsz he),by omega,fun i h1 h2=>by congr 1;omega⟩))
   ·rw [if_neg hneq]
    exact wpS_pure ⟨0,rfl,hB',step1 _ (fun _=>rfl),by omega,fun i h1 h2=>by congr 1;omega⟩
  ·simp only [hless,decide_false,ZR,if_false]
   refine wpS_bind (qI L hB'.sb (by omega) (by omega) ?_)
   by_cases hlarger:Kr rk (arrOf st') (lo+x - 1) < Kr rk (arrOf st') (lo+x)
   ·simp only [hlarger,decide_true,if_true]
    exact wpS_pure (h x neq st' hB' hax (by omega) hs' hq he)
   ·simp only [hlarger,decide_false,ZR,if_false]
    have heqx:Kr rk (arrOf st') (lo+x)=Kr rk (arrOf st') (lo+x - 1):=by omega
    refine wpS_pure ⟨neq+1,rfl,hB',fun i j hl hij hj=>?_,by omega,fun i h1 h2=>?_⟩
    ·by_cases hjx:j < lo+x
     ·exact hs' i j hl hij hjx
     ·have hj':j=lo+x:=by omega
      subst hj'
      by_cases hi':i=lo+x
      ·subst hi';exact Aa3 _
      ·rw [heqx];exact hs' i (lo+x - 1) hl (by omega) (by omega)
    ·rw [show lo+(x+1) - 1=lo+x by omega]
     by_cases hix:i=lo+x
     ·subst hix;rfl
     ·rw [heqx];exact he i (by omega) (by omega)
theorem uK {st:SortSt} {lo n nrem:Nat} {Q:Option Nat->SortSt->Prop} (L:qH M A E s kd rk a₀) (hn:lo+nrem<=a₀.size) (hnn:n+1<=nrem) (hB:SB a₀ kd st)
  (hs:DY rk (arrOf st) lo (lo+(n+1))) (h:∀ m st',Nx a₀ kd rk lo st st'->1<=m->m<=nrem->Seg rk (arrOf st') lo (lo+m)->Q (some m) st'):
  wpS M A E s (uI lo n nrem) Q st:=by
 unfold uI
 refine wpS_bind (wpS_lift (wpAny_rule ⟨rfl,?_⟩))
 refine wpS_bind (Eb L hn (by omega) hnn hB hs fun m neq st' hB' hm1 hm2 hs' hq he=>?_)
 dsimp only
 have hsz:lo+m<=(arrOf st').size:=by rw [hB'.sb.size];omega
 by_cases hneq:neq > 0
 ·rw [if_pos hneq]
  have N2:=hB'.mir (i:=lo+m - (neq+1)) (j:=lo+m) (by omega) (by omega)
  refine wpS_bind (tK (uJ L hn (by omega) hm2 N2.sb ?_ fun m' st2 N a b c=>h m' st2 (N2.trans N) a b c))
  intro i j hl hij hj
  show Kr rk (mirror (arrOf st') _ _ _) j<=Kr rk (mirror (arrOf st') _ _ _) i
  rw [eO hsz he,eO hsz he]
  exact hs' i j hl hij hj
 ·rw [if_neg hneq]
  exact uJ L hn (by omega) hm2 hB'.sb hs' fun m' st2 N a b c=>h m' st2 (hB'.trans N) a b c
theorem Ab {st:SortSt} {lo nrem:Nat} {Q:Option Nat->SortSt->Prop} (L:qH M A E s kd rk a₀) (hn:lo+nrem<=a₀.size) (h1:1<=nrem) (hB:SB a₀ kd st)
  (h:∀ m st',Nx a₀ kd rk lo st st'->1<=m->m<=nrem->Seg rk (arrOf st') lo (lo+m)->Q (some m) st'):
  wpS M A E s (countRun' lo nrem) Q st:=by
 rw [Ea]
 have one:∀ xs:Array Keyed,Seg rk xs lo (lo+1):=fun xs i j hl hij hj=>by
  have:i=j:=by omega
  subst this;exact Aa3 _
 refine wpS_bind (yJ L hn (YW 1) h1 hB (one _) fun n hn1 hn2 hsn hor=>?_)
 dsimp only
 by_cases hnn:n=nrem
 ·rw [if_pos (by simpa using hnn)]
  exact wpS_pure (h n st (Nx.refl hB) hn1 hn2 hsn)
 ·rw [if_neg (by simpa using hnn)]
  have hlt:Kr rk (arrOf st) (lo+n) < Kr rk (arrOf st) (lo+n - 1):=hor.resolve_left hnn
  by_cases hgt:n > 1
  ·rw [if_pos hgt]
   refine wpS_bind (qI L hB (by omega) (by omega) ?_)
   by_cases hrose:Kr rk (arrOf st) lo < Kr rk (arrOf st) (lo+n - 1)
   ·simp only [hrose,decide_true,if_true]
    exact wpS_pure (h n st (Nx.refl hB) hn1 hn2 hsn)
   ·simp only [hrose,decide_false,ZR,if_false]
    have hsz:lo+n<=(arrOf st).size:=by rw [hB.size];omega
    have hall:∀ k,lo<=k->k < lo+n->Kr rk (arrOf st) k=Kr rk (arrOf st) (lo+n - 1):=by
     intro k h0 hk
     have a1:=hsn lo k (by omega) h0 hk
     have a2:=hsn k (lo+n - 1) h0 (by omega) (by omega)
     omega
    have N2:=(Nx.refl (rk:=rk) (lo:=lo) hB).mir (i:=lo) (j:=lo+n) (by omega) (by omega)
    refine wpS_bind (tK (uK L hn (by omega) N2.sb ?_ fun m' st2 N a b c=>h m' st2 (N2.trans N) a b c))
    intro i j hl hij hj
    show Kr rk (mirror (arrOf st) _ _ _) j<=Kr rk (mirror (arrOf st) _ _ _) i
    rw [eO hsz hall,eO hsz hall]
    by_cases hjn:j < lo+n
    ·rw [hall i hl (by omega),hall j (by omega) hjn];exact Aa3 _
    ·have hj':j=lo+n:=by omega
     subst hj'
     by_cases hi':i=lo+n
     ·subst hi';exact Aa3 _
     ·rw [hall i hl (by omega)];exact AbB hlt
  ·rw [if_neg hgt]
   have hn1':n=1:=by omega
   subst hn1'
   refine uK L hn (by omega) hB ?_ h
   intro i j hl hij hj
   by_cases hi':i=j
   ·subst hi';exact Aa3 _
   ·have hi0:i=lo:=by omega
    have hj1:j=lo+1:=by omega
    subst hi0;subst hj1
    exact AbB hlt
theorem Ib {st:SortSt} {lo n ok:Nat} {Q:Bool->SortSt->Prop} (L:qH M A E s kd rk a₀) (hn:lo+n<=a₀.size) (hok:ok<=n) (hB:SB a₀ kd st) (hs:Seg rk (arrOf st) lo (lo+ok))
  (h:∀ st',Nx a₀ kd rk lo st st'->Seg rk (arrOf st') lo (lo+n)->Q true st'):wpS M A E s (binarySort' lo n ok) Q st:=by
 rw [binarySort'_eq]
 refine wpS_bind (wpS_mono (Z6 (I:=fun k c st'=>c=(none,())/\Nx a₀ kd rk lo st st'/\Seg rk (arrOf st') lo (lo+min k n))
  (Q:=fun c st'=>c=(none,())/\Nx a₀ kd rk lo st st'/\Seg rk (arrOf st') lo (lo+n)) ?step ?fin ?init) ?post)
 case post=>
  rintro c st' ⟨rfl,hB',hs'⟩
  exact wpS_pure (h st' hB' hs')
 case init=>
  refine ⟨rfl,Nx.refl hB,fun i j hl hij hj=>?_⟩
  by_cases h1:ok=0
  ·have:i=j:=by omega
   subst this;exact Aa3 _
  ·exact hs i j hl hij (by omega)
 case fin=>
  rintro c st' ⟨hc,hB',hs'⟩
  refine ⟨hc,hB',?_⟩
  rwa [show min (max (max ok 1) n) n=n by omega] at hs'
 case step=>
  rintro k c st' hak hkn ⟨rfl,hB',hs'⟩
  rw [show min k n=k by omega] at hs'
  have hk:lo+k < a₀.size:=by omega
  refine wpS_bind (wpS_mono (Z6 (I:=fun x c st''=>st''=st'/\∃ l r,c=(none,l,r)/\l<=r/\r<=k/\r - l<=k - x/\
    (∀ i,i < l->Kr rk (arrOf st') (lo+i)<=Kr rk (arrOf st') (lo+k))/\(∀ i,r<=i->i < k->Kr rk (arrOf st') (lo+k) < Kr rk (arrOf st') (lo+i)))
   (Q:=fun c st''=>st''=st'/\∃ l r,c=(none,l,r)/\l<=k/\
    (∀ i,i < l->Kr rk (arrOf st') (lo+i)<=Kr rk (arrOf st') (lo+k))/\(∀ i,l<=i->i < k->Kr rk (arrOf st') (lo+k) < Kr rk (arrOf st') (lo+i))) ?istep ?ifin ?iinit) ?ipost)
  case iinit=>exact ⟨rfl,0,k,rfl,by omega,by omega,by omega,fun i hi=>by omega,fun i h1 h2=>by omega⟩
  case ifin=>
   rintro c st'' ⟨rfl,l,r,rfl,hlr,hrk,hm,hlo,hhi⟩
   have:l=r:=by omega
   subst this
   exact ⟨rfl,l,l,rfl,hrk,hlo,hhi⟩
  case istep=>
   rintro x c st'' _ hxk ⟨rfl,l,r,rfl,hlr,hrk,hm,hlo,hhi⟩
   dsimp only
   by_cases hge:l>=r
   ·rw [if_pos hge]
    have:l=r:=by omega
    subst this
    exact wpS_pure ⟨rfl,l,l,rfl,hrk,hlo,hhi⟩
   ·rw [if_neg hge]
    refine wpS_bind (qI L hB'.sb hk (by omega) ?_)
    by_cases hless:Kr rk (arrOf st'') (lo+k) < Kr rk (arrOf st'') (lo+(l+r) / 2)
    ·simp only [hless,decide_true,if_true]
     refine wpS_pure ⟨rfl,l,(l+r) / 2,rfl,by omega,by omega,by omega,hlo,fun i h1 h2=>?_⟩
     exact Int.lt_of_lt_of_le hless (hs' _ _ (by omega) (by omega) (by omega))
    ·simp only [hless,decide_false,ZR,if_false]
     refine wpS_pure ⟨rfl,(l+r) / 2+1,r,rfl,by omega,by omega,by omega,fun i h1=>?_,hhi⟩
     exact Z5 (hs' (lo+i) (lo+(l+r) / 2) (by omega) (by omega) (by omega)) (Int.not_lt.mp hless)
  case ipost=>
   rintro c st'' ⟨rfl,l,r,rfl,hlk,hlo,hhi⟩
   show wpS _ _ _ _ (do moveDown' (lo+k) (lo+l);pure (ForInStep.yield (none,()))) _ _
   rw [moveDown'_eq]
   refine wpS_bind (Aa8 (wpS_pure ⟨rfl,hB'.bub hk (by omega) (by omega),?_⟩))
   rw [show min (k+1) n=k+1 by omega]
   have hks:lo+k < (arrOf st'').size:=by rw [hB'.sb.size];exact hk
   intro i j hl hij hj
   obtain ⟨i,rfl⟩:∃ i',i=lo+i':=⟨i - lo,by omega⟩
   obtain ⟨j,rfl⟩:∃ j',j=lo+j':=⟨j - lo,by omega⟩
   show Kr rk (bubble (arrOf st'') (lo+k) (lo+k - (lo+l))) (lo+i)<=Kr rk (bubble (arrOf st'') (lo+k) (lo+k - (lo+l))) (lo+j)
   rw [rD hks (by omega),rD hks (by omega),show lo+k - (lo+k - (lo+l))=lo+l by omega]
   repeat' split
   all_goals first
    | (exfalso;omega)
    | exact Aa3 _
    | exact hlo _ (by omega)
    | exact AbB (by rw [show lo+j - 1=lo+(j - 1) by omega];exact hhi _ (by omega) (by omega))
    | exact hs' _ _ (by omega) (by omega) (by omega)
end
def Mv:Bool->Keyed->Array Keyed->Nat->Nat->Nat->StateT SortSt Sem (Option Nat):=sortPriv% PySem.Builtin.gallop
def U6 (left:Bool) (key:Keyed) (arr:Array Keyed) (base i:Nat):StateT SortSt Sem (Option Bool):=do
  let x ← elem' arr (base+i)
  if left then lt' x key else return (← lt' key x).map (!·)
section
variable {M:Model} {A:Around} {E:Value->Shared->Prop} {s:Shared} {kd:SortKind} {rk:Keyed->Int} {a₀:Array Keyed}
def Ec (left:Bool) (key:Keyed) (arr:Array Keyed) (base n lo hi:Nat):StateT SortSt Sem (Option Nat):=do
 let __s ← forIn [:n] ((none,lo,hi):Option (Option Nat)×Nat×Nat) fun x __s=>
   if __s.snd.fst>=__s.snd.snd then pure (ForInStep.done (none,__s.snd.fst,__s.snd.snd))
   else do
    let __x ← U6 left key arr base (__s.snd.fst+(__s.snd.snd - __s.snd.fst) / 2)
    match __x with
     | some more=>
      if more=true then
       pure (ForInStep.yield (none,__s.snd.fst+(__s.snd.snd - __s.snd.fst) / 2+1,__s.snd.snd))
      else pure (ForInStep.yield (none,__s.snd.fst,__s.snd.fst+(__s.snd.snd - __s.snd.fst) / 2))
     | x=>pure (ForInStep.done (some none,__s.snd.fst,__s.snd.snd))
 match __s.fst with
  | some r=>pure r
  | none=>pure (some __s.snd.snd)
theorem yK {left:Bool} {key:Keyed} {arr:Array Keyed} {base n lo hi:Nat} {st:SortSt} {Q:Option Nat->SortSt->Prop} (P:Nat->Bool)
  (hP:∀ i (R:Option Bool->SortSt->Prop),i < n->R (some (P i)) st->wpS M A E s (U6 left key arr base i) R st) (hm:∀ i j,i<=j->j < n->P j=true->P i=true)
  (h1:lo<=hi) (h2:hi<=n) (hlo:∀ i,i < lo->P i=true) (hhi:∀ i,hi<=i->i < n->P i=false)
  (h:∀ k,k<=n->(∀ i,i < k->P i=true)->(∀ i,k<=i->i < n->P i=false)->Q (some k) st):wpS M A E s (Ec left key arr base n lo hi) Q st:=by
 unfold Ec
 refine wpS_bind (wpS_mono (Z6 (I:=fun x c st'=>st'=st/\∃ l r,c=(none,l,r)/\l<=r/\r<=n/\r - l<=n - x/\(∀ i,i < l->P i=true)/\(∀ i,r<=i->i < n->P i=false))
   (Q:=fun c st'=>st'=st/\∃ l,c=(none,l,l)/\l<=n/\(∀ i,i < l->P i=true)/\(∀ i,l<=i->i < n->P i=false)) ?step ?fin ⟨rfl,lo,hi,rfl,h1,h2,by omega,hlo,hhi⟩) ?post)
 case fin=>
  rintro c st' ⟨rfl,l,r,rfl,a,b,d,e,f⟩
  obtain rfl:l=r:=by omega
  exact ⟨rfl,l,rfl,b,e,f⟩
 case post=>
  rintro c st' ⟨rfl,l,rfl,b,e,f⟩
  exact wpS_pure (h l b e f)
 case step=>
  rintro x c st' _ hx ⟨rfl,l,r,rfl,a,b,d,e,f⟩
  dsimp only
  by_cases hge:l>=r
  ·rw [if_pos hge]
   obtain rfl:l=r:=by omega
   exact wpS_pure ⟨rfl,l,rfl,b,e,f⟩
  ·rw [if_neg hge]
   refine wpS_bind (hP _ _ (by omega) ?_)
   dsimp only
   by_cases hb:P (l+(r - l) / 2)=true
   ·rw [if_pos hb]
    exact wpS_pure ⟨rfl,_,_,rfl,by omega,b,by omega,fun i hi=>hm i _ (by omega) (by omega) hb,f⟩
   ·rw [if_neg hb]
    refine wpS_pure ⟨rfl,_,_,rfl,by omega,by omega,by omega,e,fun i h3 h4=>?_⟩
    cases hq:P i with
    | false=>rfl
    | true=>exact absurd (hm _ _ h3 h4 hq) hb
theorem fG {left:Bool} {key:Keyed} {arr:Array Keyed} {base n hint:Nat} {st:SortSt} {Q:Option Nat->SortSt->Prop} (P:Nat->Bool) (hh:hint < n)
  (hP:∀ i (R:Option Bool->SortSt->Prop),i < n->R (some (P i)) st->wpS M A E s (U6 left key arr base i) R st) (hm:∀ i j,i<=j->j < n->P j=true->P i=true)
  (h:∀ k,k<=n->(∀ i,i < k->P i=true)->(∀ i,k<=i->i < n->P i=false)->Q (some k) st):wpS M A E s (Mv left key arr base n hint) Q st:=by
 refine wpS_bind (m:=U6 left key arr base hint) (hP hint _ hh ?_)
 dsimp only
 by_cases hr:P hint=true
 ·rw [if_pos hr]
  refine wpS_bind (wpS_mono (Z6 (I:=fun x c st'=>st'=st/\∃ la of,c=(none,la,of)/\la < of/\hint+la < n/\P (hint+la)=true/\x+1<=of)
    (Q:=fun c st'=>st'=st/\∃ la of,c=(none,la,of)/\la < of/\hint+la < n/\P (hint+la)=true/\(n - hint<=of\/(hint+of < n/\P (hint+of)=false))) ?step ?fin ⟨rfl,0,1,rfl,by omega,by omega,hr,by omega⟩) ?post)
  case fin=>
   rintro c st' ⟨rfl,la,of,rfl,a,b,d,e⟩
   exact ⟨rfl,la,of,rfl,a,b,d,.inl (by omega)⟩
  case step=>
   rintro x c st' _ hx ⟨rfl,la,of,rfl,a,b,d,e⟩
   dsimp only
   by_cases hge:of>=n - hint
   ·rw [if_pos hge]
    exact wpS_pure ⟨rfl,la,of,rfl,a,b,d,.inl hge⟩
   ·rw [if_neg hge]
    refine wpS_bind (hP _ _ (by omega) ?_)
    dsimp only
    cases hq:P (hint+of) with
    | false=>
     rw [if_pos (by decide)]
     exact wpS_pure ⟨rfl,la,of,rfl,a,b,d,.inr ⟨by omega,hq⟩⟩
    | true=>
     rw [if_neg (by decide)]
     exact wpS_pure ⟨rfl,of,2*of+1,rfl,by omega,by omega,hq,by omega⟩
  case post=>
   rintro c st' ⟨rfl,la,of,rfl,a,b,d,e⟩
   dsimp only
   refine Eq.mpr (congrArg (fun m=>wpS M A E s m Q st') (?eq:_=Ec left key arr base n (hint+la+1) (hint+min of (n - hint)))) ?_
   case eq=>
    unfold Ec
    congr 1
    funext c
    obtain ⟨r,l,h⟩:=c
    cases r <;> rfl
   refine yK P hP hm (by omega) (by omega) (fun i hi=>hm i _ (by omega) b d) (fun i h3 h4=>?_) h
   rcases e with e | ⟨e1,e2⟩
   ·omega
   ·cases hq:P i with
    | false=>rfl
    | true=>
     have:=hm (hint+of) i (by omega) h4 hq
     rw [this] at e2;cases e2
 ·rw [if_neg hr]
  have hr':P hint=false:=by simpa using hr
  refine wpS_bind (wpS_mono (Z6 (I:=fun x c st'=>st'=st/\∃ la of,c=(none,la,of)/\la < of/\la<=hint/\P (hint - la)=false/\x+1<=of)
    (Q:=fun c st'=>st'=st/\∃ la of,c=(none,la,of)/\la < of/\la<=hint/\P (hint - la)=false/\(hint+1<=of\/(of<=hint/\P (hint - of)=true))) ?step2 ?fin2 ⟨rfl,0,1,rfl,by omega,by omega,hr',by omega⟩) ?post2)
  case fin2=>
   rintro c st' ⟨rfl,la,of,rfl,a,b,d,e⟩
   exact ⟨rfl,la,of,rfl,a,b,d,.inl (by omega)⟩
  case step2=>
   rintro x c st' _ hx ⟨rfl,la,of,rfl,a,b,d,e⟩
   dsimp only
   by_cases hge:of>=hint+1
   ·rw [if_pos hge]
    exact wpS_pure ⟨rfl,la,of,rfl,a,b,d,.inl hge⟩
   ·rw [if_neg hge]
    refine wpS_bind (hP _ _ (by omega) ?_)
    dsimp only
    by_cases hq:P (hint - of)=true
    ·rw [if_pos hq]
     exact wpS_pure ⟨rfl,la,of,rfl,a,b,d,.inr ⟨by omega,hq⟩⟩
    ·rw [if_neg hq]
     exact wpS_pure ⟨rfl,of,2*of+1,rfl,by omega,by omega,by simpa using hq,by omega⟩
  case post2=>
   rintro c st' ⟨rfl,la,of,rfl,a,b,d,e⟩
   dsimp only
   refine Eq.mpr (congrArg (fun m=>wpS M A E s m Q st') (?eq:_=Ec left key arr base n (hint+1 - min of (hint+1)) (hint - la))) ?_
   case eq=>
    unfold Ec
    congr 1
    funext c
    obtain ⟨r,l,h⟩:=c
    cases r <;> rfl
   refine yK P hP hm (by omega) (by omega) (fun i hi=>?_) (fun i h3 h4=>?_) h
   ·rcases e with e | ⟨e1,e2⟩
    ·omega
    ·exact hm i _ (by omega) (by omega) e2
   ·cases hq:P i with
    | false=>rfl
    | true=>
     have:=hm (hint - la) i (by omega) h4 hq
     rw [this] at d;cases d
theorem jJ {left:Bool} {key:Keyed} {arr:Array Keyed} {base i:Nat} {st:SortSt} {R:Option Bool->SortSt->Prop} (L:qH M A E s kd rk a₀) (hk:key∈a₀.toList) (ha:∀ p∈arr.toList,p∈a₀.toList) (hi:base+i < arr.size) (kind:kindOf st=kd)
  (h:R (some (if left=true then decide (Kr rk arr (base+i) < rk key) else decide (Kr rk arr (base+i)<=rk key))) st):wpS M A E s (U6 left key arr base i) R st:=by
 unfold U6
 have e:arr[base+i]?=some arr[base+i]:=Z9 arr (base+i) hi
 have hm:arr[base+i]∈a₀.toList:=ha _ (by simp)
 rw [cQ e] at h
 refine wpS_bind (aV (U:=Unit) e ?_)
 cases left with
 | true=>
  simp only [if_true] at h ⊢
  exact L _ _ st R hm hk kind h
 | false=>
  simp only [ZR,if_false] at h ⊢
  refine wpS_bind (L _ _ st _ hk hm kind (wpS_pure ?_))
  have:(some (decide (rk key < rk arr[base+i]))).map (fun x=>!x)=some (decide (rk arr[base+i]<=rk key)):=by
   show some (!decide (rk key < rk arr[base+i]))=_
   congr 1
   rw [← decide_not]
   exact decide_eq_decide.mpr (by omega)
  rw [this];exact h
end
def Pk:Nat->StateT SortSt Sem Unit:=sortPriv% PySem.Builtin.setMinGallop
theorem Ie (g:Nat):Pk g=modify fun s=>SortSt.mk' (kindOf s) (arrOf s) (pendingOf s) g (failedOf s):=rfl
def Ig:Array Keyed->Array Keyed->StateT SortSt Sem (Array Keyed):=sortPriv% PySem.Builtin.mergeLo
def Ih:Array Keyed->Array Keyed->StateT SortSt Sem (Array Keyed):=sortPriv% PySem.Builtin.mergeHi
section
variable {M:Model} {A:Around} {E:Value->Shared->Prop} {s:Shared} {kd:SortKind} {rk:Keyed->Int} {a₀:Array Keyed}
abbrev oh (rk:Keyed->Int) (l:List Keyed):Prop:=l.Pairwise fun p q=>rk p<=rk q
structure Sm (st st':SortSt):Prop where
 arr:arrOf st'=arrOf st
 kind:kindOf st'=kindOf st
 failed:failedOf st'=failedOf st
 pend:pendingOf st'=pendingOf st
theorem Sm.refl (st:SortSt):Sm st st:=⟨rfl,rfl,rfl,rfl⟩
theorem Sm.trans {a b c:SortSt} (h:Sm a b) (h':Sm b c):Sm a c:=⟨h'.arr.trans h.arr,h'.kind.trans h.kind,h'.failed.trans h.failed,h'.pend.trans h.pend⟩
theorem qJ {st st0:SortSt} {g:Nat} {Q:Unit->SortSt->Prop} (h0:Sm st0 st) (h:∀ st',Sm st0 st'->Q () st'):wpS M A E s (Pk g) Q st:=by
 rw [Ie]
 exact Aa8 (h _ (h0.trans ⟨rfl,rfl,rfl,rfl⟩))
structure MI (rk:Keyed->Int) (a b out:Array Keyed) (ia ib:Nat):Prop where
 ha:ia<=a.size
 hb:ib<=b.size
 so:oh rk out.toList
 le:∀ p∈out.toList,∀ q∈a.toList.drop ia ++ b.toList.drop ib,rk p<=rk q
 pm:(out.toList ++ (a.toList.drop ia ++ b.toList.drop ib)).Perm (a.toList ++ b.toList)
def Res (rk:Keyed->Int) (a b r:Array Keyed):Prop:=oh rk r.toList/\r.toList.Perm (a.toList ++ b.toList)
theorem mz {α:Type} (l:List α) (i k:Nat):l.drop i=(l.drop i).take k ++ l.drop (i+k):=by
 have e:l.drop (i+k)=(l.drop i).drop k:=by rw [List.drop_drop]
 rw [e,Abv]
theorem ext_toList (a:Array Keyed) (i k:Nat):(a.extract i (i+k)).toList=(a.toList.drop i).take k:=by
 rw [Array.toList_extract,List.extract_eq_drop_take]
 congr 1
 omega
theorem MI.takeA {a b out:Array Keyed} {ia ib:Nat} (h:MI rk a b out ia ib) (Sa:oh rk a.toList) (k:Nat) (hk:ia+k<=a.size) (hc:∀ p∈(a.toList.drop ia).take k,∀ q∈b.toList.drop ib,rk p<=rk q):MI rk a b (out ++ a.extract ia (ia+k)) (ia+k) ib:=by
 have e:=mz a.toList ia k
 have Sd:oh rk (a.toList.drop ia):=Sa.sublist (Aa4 _ _)
 rw [e] at Sd
 obtain ⟨s1,s2,s3⟩:=Zu.mp Sd
 have tl:(out ++ a.extract ia (ia+k)).toList=out.toList ++ (a.toList.drop ia).take k:=by rw [Zx,ext_toList]
 refine ⟨hk,h.hb,?_,?_,?_⟩
 ·rw [tl]
  exact Zu.mpr ⟨h.so,s1,fun p hp q hq=>h.le p hp q (Zy _ (AaK hq))⟩
 ·rw [tl]
  intro p hp q hq
  rcases Y8.mp hp with hp | hp
  ·refine h.le p hp q ?_
   rcases Y8.mp hq with hq | hq
   ·exact Zy _ (by rw [e];exact Za _ hq)
   ·exact Za _ hq
  ·rcases Y8.mp hq with hq | hq
   ·exact s3 p hp q hq
   ·exact hc p hp q hq
 ·rw [tl]
  refine List.Perm.trans (List.Perm.of_eq ?_) h.pm
  conv=>rhs;rw [e]
  simp only [ZF]
theorem MI.takeB {a b out:Array Keyed} {ia ib:Nat} (h:MI rk a b out ia ib) (Sb:oh rk b.toList) (k:Nat) (hk:ib+k<=b.size) (hc:∀ p∈(b.toList.drop ib).take k,∀ q∈a.toList.drop ia,rk p<=rk q):MI rk a b (out ++ b.extract ib (ib+k)) ia (ib+k):=by
 have e:=mz b.toList ib k
 have Sd:oh rk (b.toList.drop ib):=Sb.sublist (Aa4 _ _)
 rw [e] at Sd
 obtain ⟨s1,s2,s3⟩:=Zu.mp Sd
 have tl:(out ++ b.extract ib (ib+k)).toList=out.toList ++ (b.toList.drop ib).take k:=by rw [Zx,ext_toList]
 refine ⟨h.ha,hk,?_,?_,?_⟩
 ·rw [tl]
  exact Zu.mpr ⟨h.so,s1,fun p hp q hq=>h.le p hp q (Za _ (AaK hq))⟩
 ·rw [tl]
  intro p hp q hq
  rcases Y8.mp hp with hp | hp
  ·refine h.le p hp q ?_
   rcases Y8.mp hq with hq | hq
   ·exact Zy _ hq
   ·exact Za _ (by rw [e];exact Za _ hq)
  ·rcases Y8.mp hq with hq | hq
   ·exact hc p hp q hq
   ·exact s3 p hp q hq
 ·rw [tl]
  refine List.Perm.trans ?_ h.pm
  conv=>rhs;rw [e]
  rw [ZF]
  refine Abw _ ?_
  rw [← ZF,← ZF]
  exact Abn _ Abx
theorem uL {out a:Array Keyed} {i:Nat} {p:Keyed} (h:a[i]?=some p):out.push p=out ++ a.extract i (i+1):=by
 apply Array.ext'
 rw [Zx,ext_toList,Abz]
 congr 1
 obtain ⟨hi,e⟩:=Zk.mp h
 rw [ZQ (by simpa using hi)]
 simp [e]
theorem take1 {a:Array Keyed} {i:Nat} {p q:Keyed} (h:a[i]?=some p) (hq:q∈(a.toList.drop i).take 1):q=p:=by
 obtain ⟨hi,e⟩:=Zk.mp h
 rw [ZQ (by simpa using hi)] at hq
 simpa [e] using hq
theorem gH {a:Array Keyed} {i:Nat} {p q:Keyed} (Sa:oh rk a.toList) (h:a[i]?=some p) (hq:q∈a.toList.drop i):rk p<=rk q:=by
 obtain ⟨hi,e⟩:=Zk.mp h
 have Sd:oh rk (a.toList.drop i):=Sa.sublist (Aa4 _ _)
 rw [ZQ (by simpa using hi)] at Sd hq
 rcases Zg.mp hq with rfl | hq
 ·simp [e]
 ·have:=(List.pairwise_cons.mp Sd).1 q hq
  simpa [e] using this
theorem xK {a:Array Keyed} {i:Nat} {q:Keyed} (hq:q∈a.toList.drop i):∃ j,i<=j/\j < a.size/\a[j]?=some q:=by
 obtain ⟨k,hk,e⟩:=Zh.mp hq
 have hk':i+k < a.size:=by simp at hk;omega
 refine ⟨i+k,by omega,hk',?_⟩
 rw [Z9 a (i+k) hk',← e]
 simp
theorem tL {a:Array Keyed} {i k:Nat} {q:Keyed} (hq:q∈(a.toList.drop i).take k):∃ j,j < k/\a[i+j]?=some q:=by
 obtain ⟨j,hj,e⟩:=Zh.mp hq
 have hj':j < k/\i+j < a.size:=by simp at hj;omega
 refine ⟨j,hj'.1,?_⟩
 rw [Z9 a (i+j) hj'.2,← e]
 simp
theorem MI.pushA {a b out:Array Keyed} {ia ib:Nat} {p:Keyed} (h:MI rk a b out ia ib) (Sa:oh rk a.toList) (e:a[ia]?=some p) (hc:∀ q∈b.toList.drop ib,rk p<=rk q):MI rk a b (out.push p) (ia+1) ib:=by
 rw [uL e]
 exact h.takeA Sa 1 (by have:=(Zk.mp e).1;omega) fun q hq r hr=>by rw [take1 e hq];exact hc r hr
theorem MI.pushB {a b out:Array Keyed} {ia ib:Nat} {p:Keyed} (h:MI rk a b out ia ib) (Sb:oh rk b.toList) (e:b[ib]?=some p) (hc:∀ q∈a.toList.drop ia,rk p<=rk q):MI rk a b (out.push p) ia (ib+1):=by
 rw [uL e]
 exact h.takeB Sb 1 (by have:=(Zk.mp e).1;omega) fun q hq r hr=>by rw [take1 e hq];exact hc r hr
theorem ou (a:Array Keyed) (i:Nat):(a.extract i a.size).toList=a.toList.drop i:=by
 rw [Array.toList_extract,List.extract_eq_drop_take,ZV (by simp)]
theorem MI.doneB {a b out:Array Keyed} {ia ib:Nat} (h:MI rk a b out ia ib) (Sa:oh rk a.toList) (e:ib=b.size):Res rk a b (out ++ a.extract ia a.size ++ b.extract ib b.size):=by
 have hd:b.toList.drop ib=[]:=List.drop_eq_nil_of_le (by simp [e])
 unfold Res
 rw [Zx,Zx,ou,ou,hd,Zt]
 have hp:=h.pm
 rw [hd,Zt] at hp
 exact ⟨Zu.mpr ⟨h.so,Sa.sublist (Aa4 _ _),fun p hp q hq=>h.le p hp q (Zy _ hq)⟩,hp⟩
theorem MI.doneA {a b out:Array Keyed} {ia ib:Nat} (h:MI rk a b out ia ib) (Sb:oh rk b.toList) (e:ia=a.size):Res rk a b (out ++ a.extract ia a.size ++ b.extract ib b.size):=by
 have hd:a.toList.drop ia=[]:=List.drop_eq_nil_of_le (by simp [e])
 unfold Res
 rw [Zx,Zx,ou,ou,hd,Zt]
 have hp:=h.pm
 rw [hd,Aau] at hp
 exact ⟨Zu.mpr ⟨h.so,Sb.sublist (Aa4 _ _),fun p hp q hq=>h.le p hp q (Za _ hq)⟩,hp⟩
theorem MI.lastA {a b out:Array Keyed} {ia ib:Nat} (h:MI rk a b out ia ib) (Sb:oh rk b.toList) (e:ia+1=a.size) (hl:∀ p,a[a.size - 1]?=some p->∀ q∈b.toList,rk q<=rk p):Res rk a b (out ++ b.extract ib b.size ++ a.extract ia a.size):=by
 unfold Res
 rw [Zx,Zx,ou,ou]
 have hi:ia < a.size:=by omega
 have ea:a.toList.drop ia=[a[ia]]:=by
  rw [ZQ (by simpa using hi),List.drop_eq_nil_of_le (by simp;omega)]
  simp
 refine ⟨?_,?_⟩
 ·refine Zu.mpr ⟨Zu.mpr ⟨h.so,Sb.sublist (Aa4 _ _),fun p hp q hq=>h.le p hp q (Za _ hq)⟩,by rw [ea];exact Abe _ _,fun p hp q hq=>?_⟩
  rcases Y8.mp hp with hp | hp
  ·exact h.le p hp q (Zy _ hq)
  ·rw [ea] at hq
   rw [ZK.mp hq]
   refine hl _ ?_ p (Aa5 hp)
   rw [show a.size - 1=ia by omega];exact Z9 a ia hi
 ·refine List.Perm.trans ?_ h.pm
  rw [ZF]
  exact Abw _ Abx
end
end L2
set_option maxHeartbeats 8000000
namespace L2
open PySem PySem.Spec PyProof.Rows
section
variable {M:Model} {A:Around} {E:Value->Shared->Prop} {s:Shared} {kd:SortKind} {rk:Keyed->Int} {a₀:Array Keyed}
theorem aN {U α:Type} {c:Prop} [Decidable c] {x y:StateT U Sem α} {Q:α->U->Prop} {st:U} (h1:c->wpS M A E s x Q st) (h2:¬ c->wpS M A E s y Q st):wpS M A E s (if c then x else y) Q st:=by
 split
 ·exact h1 ‹_›
 ·exact h2 ‹_›
def Go (rk:Keyed->Int) (a b:Array Keyed) (n:Nat) (r:Option (Array Keyed)) (out:Array Keyed) (ia ib:Nat):Prop:=(∃ x,r=some x/\Res rk a b x)\/(r=none/\MI rk a b out ia ib/\ib < b.size/\ia+1 < a.size/\n<=ia+ib)
theorem yL {a b:Array Keyed} {st:SortSt} {Q:Array Keyed->SortSt->Prop} (L:qH M A E s kd rk a₀) (ha:∀ p∈a.toList,p∈a₀.toList) (hb:∀ p∈b.toList,p∈a₀.toList) (Sa:oh rk a.toList) (Sb:oh rk b.toList)
  (n1:1<=a.size) (n2:1<=b.size) (hf:∀ p,b[0]?=some p->∀ q∈a.toList,rk p<=rk q) (hl:∀ p,a[a.size - 1]?=some p->∀ q∈b.toList,rk q<=rk p) (kind:kindOf st=kd)
  (h:∀ r st',Sm st st'->Res rk a b r->Q r st'):wpS M A E s (Ig a b) Q st:=by
 have atA:∀ {i:Nat},i < a.size->∃ p,a[i]?=some p/\p∈a₀.toList:=fun {i} hi=>⟨a[i],Z9 a i hi,ha _ (by simp)⟩
 have atB:∀ {i:Nat},i < b.size->∃ p,b[i]?=some p/\p∈a₀.toList:=fun {i} hi=>⟨b[i],Z9 b i hi,hb _ (by simp)⟩
 have KA:∀ {i:Nat} {p:Keyed},a[i]?=some p->Kr rk a i=rk p:=fun e=>cQ e
 have SKa:∀ i j,i<=j->j < a.size->Kr rk a i<=Kr rk a j:=fun i j hij hj=>by
  obtain ⟨p,ep,_⟩:=atA (show i < a.size by omega)
  obtain ⟨q,eq,_⟩:=atA hj
  rw [cQ ep,cQ eq]
  refine gH Sa ep ?_
  obtain ⟨hq,e⟩:=Zk.mp eq
  rw [← e]
  exact Zh.mpr ⟨j - i,by simp;omega,by simp [show i+(j - i)=j by omega]⟩
 have SKb:∀ i j,i<=j->j < b.size->Kr rk b i<=Kr rk b j:=fun i j hij hj=>by
  obtain ⟨p,ep,_⟩:=atB (show i < b.size by omega)
  obtain ⟨q,eq,_⟩:=atB hj
  rw [cQ ep,cQ eq]
  refine gH Sb ep ?_
  obtain ⟨hq,e⟩:=Zk.mp eq
  rw [← e]
  exact Zh.mpr ⟨j - i,by simp;omega,by simp [show i+(j - i)=j by omega]⟩
 refine wpS_bind (wpS_lift (wpAny_rule ⟨rfl,?_⟩))
 dsimp only
 obtain ⟨p0,e0,m0⟩:=atB (i:=0) (by omega)
 refine wpS_bind (aV (U:=Unit) e0 ?_)
 have I0:MI rk a b #[p0] 0 1:=by
  have eb:b.toList=p0 :: b.toList.drop 1:=by
   obtain ⟨hi,e⟩:=Zk.mp e0
   have:=ZQ (l:=b.toList) (i:=0) (by simpa using hi)
   rw [AaT] at this
   conv=>lhs;rw [this]
   simp [e]
  refine ⟨by omega,by omega,Abe _ _,fun p hp q hq=>?_,?_⟩
  ·obtain rfl:p=p0:=by simpa using hp
   rcases Y8.mp hq with hq | hq
   ·exact hf p e0 q (Aa5 hq)
   ·exact gH Sb e0 (by rw [AaT];exact Aa5 hq)
  ·show ([p0] ++ (a.toList.drop 0 ++ b.toList.drop 1)).Perm _
   rw [AaT]
   conv=>rhs;rw [eb]
   exact (List.perm_middle (a:=p0) (l₁:=a.toList) (l₂:=b.toList.drop 1)).symm
 by_cases h1:1=b.size
 ·rw [if_pos (by simpa using h1)]
  exact wpS_pure (h _ _ (Sm.refl _) (I0.doneB Sa h1))
 rw [if_neg (by simpa using h1)]
 by_cases h2:0+1=a.size
 ·rw [if_pos (by simpa using h2)]
  exact wpS_pure (h _ _ (Sm.refl _) (I0.lastA Sb h2 hl))
 rw [if_neg (by simpa using h2)]
 refine wpS_bind (wpS_get ?_)
 refine wpS_bind (wpS_mono (Z6 (I:=fun x c st'=>Sm st st'/\∃ out ia ib mg,c=(none,out,ia,ib,mg)/\MI rk a b out ia ib/\ib < b.size/\ia+1 < a.size/\x+1<=ia+ib)
   (Q:=fun c st'=>Sm st st'/\∃ r,c.1=some r/\Res rk a b r) ?step ?fin ⟨Sm.refl _,_,_,_,_,rfl,I0,by omega,by omega,by omega⟩) ?post)
 case fin=>
  rintro c st' ⟨_,out,ia,ib,mg,rfl,I,x1,x2,x3⟩
  exact absurd x3 (by omega)
 case post=>
  rintro ⟨r0,c⟩ st' ⟨S,r,rfl,hr⟩
  exact wpS_pure (h r st' S hr)
 case step=>
  rintro x c st1 _ hx ⟨S1,out,ia,ib,mg,rfl,I,x1,x2,x3⟩
  dsimp only
  have kd1:kindOf st1=kd:=S1.kind.trans kind
  refine wpS_bind (wpS_mono (Z6 (I:=fun y c st'=>st'=st1/\∃ out' ia' ib' ac bc,c=(none,out',ia',ib',ac,bc)/\MI rk a b out' ia' ib'/\ib' < b.size/\ia'+1 < a.size/\x+1+y<=ia'+ib')
   (Q:=fun c st'=>st'=st1/\Go rk a b (x+2) c.1 c.2.1 c.2.2.1 c.2.2.2.1) ?istep ?ifin ⟨rfl,_,_,_,_,_,rfl,I,x1,x2,by omega⟩) ?ipost)
  case ifin=>
   rintro c st' ⟨rfl,out',ia',ib',ac,bc,rfl,I',y1,y2,y3⟩
   exact ⟨rfl,.inr ⟨rfl,I',y1,y2,by show x+2<=ia'+ib';omega⟩⟩
  case istep=>
   rintro y c st' _ hy ⟨rfl,out',ia',ib',ac,bc,rfl,I',y1,y2,y3⟩
   dsimp only
   obtain ⟨pb,eb,mb⟩:=atB y1
   obtain ⟨pa,ea,ma⟩:=atA (show ia' < a.size by omega)
   refine wpS_bind (aV (U:=Unit) eb (wpS_bind (aV (U:=Unit) ea (wpS_bind (L _ _ _ _ mb ma kd1 ?_)))))
   dsimp only
   by_cases hw:rk pb < rk pa
   ·rw [if_pos (YZ hw)]
    refine wpS_bind (aV (U:=Unit) eb ?_)
    have I2:=I'.pushB Sb eb fun q hq=>Z5 (AbB hw) (gH Sa ea hq)
    by_cases h3:ib'+1=b.size
    ·rw [if_pos (by simpa using h3)]
     exact wpS_pure ⟨rfl,.inl ⟨_,rfl,I2.doneB Sa h3⟩⟩
    ·rw [if_neg (by simpa using h3)]
     split
     ·exact wpS_pure ⟨rfl,.inr ⟨rfl,I2,by show ib'+1 < _;omega,y2,by show x+2<=ia'+(ib'+1);omega⟩⟩
     ·exact wpS_pure ⟨rfl,_,_,_,_,_,rfl,I2,by omega,y2,by omega⟩
   ·rw [if_neg (by rw [Y5 hw];decide)]
    refine wpS_bind (aV (U:=Unit) ea ?_)
    have I2:=I'.pushA Sa ea fun q hq=>Z5 (by omega) (gH Sb eb hq)
    by_cases h3:ia'+1+1=a.size
    ·rw [if_pos (by simpa using h3)]
     exact wpS_pure ⟨rfl,.inl ⟨_,rfl,I2.lastA Sb h3 hl⟩⟩
    ·rw [if_neg (by simpa using h3)]
     split
     ·exact wpS_pure ⟨rfl,.inr ⟨rfl,I2,y1,by show ia'+1+1 < _;omega,by show x+2<=ia'+1+ib';omega⟩⟩
     ·exact wpS_pure ⟨rfl,_,_,_,_,_,rfl,I2,y1,by omega,by omega⟩
  case ipost=>
   rintro ⟨r0,out1,ia1,ib1,ac1,bc1⟩ st' ⟨rfl,G⟩
   dsimp only at G ⊢
   rcases G with ⟨r,rfl,hr⟩ | ⟨rfl,I1,y1,y2,y3⟩
   ·exact wpS_pure ⟨S1,r,rfl,hr⟩
   dsimp only
   refine wpS_bind (wpS_lift (wpAny_rule ⟨rfl,?_⟩))
   refine wpS_bind (wpS_mono (Z6 (I:=fun y c st'=>Sm st st'/\∃ out' ia' ib' mg ac bc,c=(none,out',ia',ib',mg,ac,bc)/\MI rk a b out' ia' ib'/\ib' < b.size/\ia'+1 < a.size/\x+2<=ia'+ib')
    (Q:=fun c st'=>Sm st st'/\Go rk a b (x+2) c.1 c.2.1 c.2.2.1 c.2.2.2.1) ?gstep ?gfin ⟨S1,_,_,_,_,_,_,rfl,I1,y1,y2,y3⟩) ?gpost)
   case gfin=>
    rintro c st' ⟨S2,out',ia',ib',mg',ac,bc,rfl,I',y1,y2,y3⟩
    exact ⟨S2,.inr ⟨rfl,I',y1,y2,y3⟩⟩
   case gpost=>
    rintro ⟨r0,out1,ia1,ib1,mg1,ac1,bc1⟩ st' ⟨S2,G⟩
    dsimp only at G ⊢
    rcases G with ⟨r,rfl,hr⟩ | ⟨rfl,I1,y1,y2,y3⟩
    ·exact wpS_pure ⟨S2,r,rfl,hr⟩
    dsimp only
    refine wpS_bind (qJ S2 fun st2 S3=>?_)
    exact wpS_pure ⟨S3,_,_,_,_,rfl,I1,y1,y2,y3⟩
   case gstep=>
    rintro y c st' _ hy ⟨S2,out',ia',ib',mg',ac,bc,rfl,I',y1,y2,y3⟩
    dsimp only
    obtain ⟨pb,eb,mb⟩:=atB y1
    refine aN (fun _=>?_) (fun _=>?_)
    all_goals
     refine wpS_bind (qJ S2 fun st3 S3=>?_)
     have kd3:kindOf st3=kd:=S3.kind.trans kind
     refine wpS_bind (aV (U:=Unit) eb ?_)
     refine wpS_bind (fG (fun i=>decide (Kr rk a (ia'+i)<=rk pb)) (by omega) (fun i R hi r=>jJ L mb ha (by omega) kd3 (by simpa using r)) (fun i j hij hj hq=>YZ (Z5 (SKa _ _ (by omega) (by omega)) (Zq hq))) fun k hk hk1 hk2=>?_)
     dsimp only
     have I2:=I'.takeA Sa k (by omega) fun p hp q hq=>by
      obtain ⟨j,hj,e⟩:=tL hp
      have:=Zq (hk1 j hj)
      rw [cQ e] at this
      exact Z5 this (gH Sb eb hq)
     have hgt:∀ q∈a.toList.drop (ia'+k),rk pb<=rk q:=fun q hq=>by
      obtain ⟨j,h3,h4,e⟩:=xK hq
      have:=Z8 (hk2 (j - ia') (by omega) (by omega))
      rw [show ia'+(j - ia')=j by omega,cQ e] at this
      omega
     refine aN (fun hk0=>?_) (fun hk0=>?_)
     ·refine aN (fun h3=>?_) (fun h3=>aN (fun h4=>?_) (fun h4=>?_))
      ·exact wpS_pure ⟨S3,.inl ⟨_,rfl,I2.lastA Sb (by simpa using h3) hl⟩⟩
      ·exact wpS_pure ⟨S3,.inl ⟨_,rfl,I2.doneA Sb (by simpa using h4)⟩⟩
      have hi1:ia'+k+1 < a.size:=by
       have z1:¬ ia'+k+1=a.size:=by simpa using h3
       have z2:¬ ia'+k=a.size:=by simpa using h4
       omega
      have J:=I2
      have hg2:=hgt
      refine wpS_bind (aV (U:=Unit) eb ?_)
      have J2:=J.pushB Sb eb hg2
      refine aN (fun h5=>?_) (fun h5=>?_)
      ·exact wpS_pure ⟨S3,.inl ⟨_,rfl,J2.doneB Sa (by simpa using h5)⟩⟩
      have h5':ib'+1 < b.size:=by
       have:¬ ib'+1=b.size:=by simpa using h5
       omega
      obtain ⟨pa,ea,ma⟩:=atA (Nat.lt_of_succ_lt hi1)
      refine wpS_bind (aV (U:=Unit) ea ?_)
      refine wpS_bind (fG (fun i=>decide (Kr rk b (ib'+1+i) < rk pa)) (by omega) (fun i R hi r=>jJ L ma hb (by omega) kd3 (by simpa using r)) (fun i j hij hj hq=>YZ (Abo (SKb _ _ (by omega) (by omega)) (Zq hq))) fun k1 hk1 hk11 hk12=>?_)
      dsimp only
      have J3:=J2.takeB Sb k1 (by omega) fun p hp q hq=>by
       obtain ⟨j,hj,e⟩:=tL hp
       have:=Zq (hk11 j hj)
       rw [cQ e] at this
       exact Z5 (AbB this) (gH Sa ea hq)
      have hle:∀ q∈b.toList.drop (ib'+1+k1),rk pa<=rk q:=fun q hq=>by
       obtain ⟨j,h3,h4,e⟩:=xK hq
       have:=Z8 (hk12 (j - (ib'+1)) (by omega) (by omega))
       rw [show ib'+1+(j - (ib'+1))=j by omega,cQ e] at this
       omega
      refine aN (fun hk10=>?_) (fun hk10=>?_)
      ·refine aN (fun h6=>?_) (fun h6=>?_)
       ·exact wpS_pure ⟨S3,.inl ⟨_,rfl,J3.doneB Sa (by simpa using h6)⟩⟩
       have h6':ib'+1+k1 < b.size:=by
        have:¬ ib'+1+k1=b.size:=by simpa using h6
        omega
       refine wpS_bind (aV (U:=Unit) ea ?_)
       have J5:=J3.pushA Sa ea hle
       refine aN (fun h7=>?_) (fun h7=>?_)
       ·exact wpS_pure ⟨S3,.inl ⟨_,rfl,J5.lastA Sb (by simpa using h7) hl⟩⟩
       have h7':=by simpa using h7
       refine aN (fun _=>?_) (fun _=>?_)
       ·exact wpS_pure ⟨S3,.inr ⟨rfl,J5,h6',by dsimp only;omega,by dsimp only;omega⟩⟩
       ·exact wpS_pure ⟨S3,_,_,_,_,_,_,rfl,J5,h6',by omega,by omega⟩
      ·obtain rfl:k1=0:=by omega
       refine wpS_bind (aV (U:=Unit) ea ?_)
       have J5:=J2.pushA Sa ea hle
       refine aN (fun h7=>?_) (fun h7=>?_)
       ·exact wpS_pure ⟨S3,.inl ⟨_,rfl,J5.lastA Sb (by simpa using h7) hl⟩⟩
       have h7':=by simpa using h7
       refine aN (fun _=>?_) (fun _=>?_)
       ·exact wpS_pure ⟨S3,.inr ⟨rfl,J5,h5',by dsimp only;omega,by dsimp only;omega⟩⟩
       ·exact wpS_pure ⟨S3,_,_,_,_,_,_,rfl,J5,h5',by omega,by omega⟩
     ·obtain rfl:k=0:=by omega
      have hi1:ia'+1 < a.size:=y2
      have J:=I'
      have hg2:∀ q∈a.toList.drop ia',rk pb<=rk q:=hgt
      refine wpS_bind (aV (U:=Unit) eb ?_)
      have J2:=J.pushB Sb eb hg2
      refine aN (fun h5=>?_) (fun h5=>?_)
      ·exact wpS_pure ⟨S3,.inl ⟨_,rfl,J2.doneB Sa (by simpa using h5)⟩⟩
      have h5':ib'+1 < b.size:=by
       have:¬ ib'+1=b.size:=by simpa using h5
       omega
      obtain ⟨pa,ea,ma⟩:=atA (Nat.lt_of_succ_lt hi1)
      refine wpS_bind (aV (U:=Unit) ea ?_)
      refine wpS_bind (fG (fun i=>decide (Kr rk b (ib'+1+i) < rk pa)) (by omega) (fun i R hi r=>jJ L ma hb (by omega) kd3 (by simpa using r)) (fun i j hij hj hq=>YZ (Abo (SKb _ _ (by omega) (by omega)) (Zq hq))) fun k1 hk1 hk11 hk12=>?_)
      dsimp only
      have J3:=J2.takeB Sb k1 (by omega) fun p hp q hq=>by
       obtain ⟨j,hj,e⟩:=tL hp
       have:=Zq (hk11 j hj)
       rw [cQ e] at this
       exact Z5 (AbB this) (gH Sa ea hq)
      have hle:∀ q∈b.toList.drop (ib'+1+k1),rk pa<=rk q:=fun q hq=>by
       obtain ⟨j,h3,h4,e⟩:=xK hq
       have:=Z8 (hk12 (j - (ib'+1)) (by omega) (by omega))
       rw [show ib'+1+(j - (ib'+1))=j by omega,cQ e] at this
       omega
      refine aN (fun hk10=>?_) (fun hk10=>?_)
      ·refine aN (fun h6=>?_) (fun h6=>?_)
       ·exact wpS_pure ⟨S3,.inl ⟨_,rfl,J3.doneB Sa (by simpa using h6)⟩⟩
       have h6':ib'+1+k1 < b.size:=by
        have:¬ ib'+1+k1=b.size:=by simpa using h6
        omega
       refine wpS_bind (aV (U:=Unit) ea ?_)
       have J5:=J3.pushA Sa ea hle
       refine aN (fun h7=>?_) (fun h7=>?_)
       ·exact wpS_pure ⟨S3,.inl ⟨_,rfl,J5.lastA Sb (by simpa using h7) hl⟩⟩
       have h7':=by simpa using h7
       refine aN (fun _=>?_) (fun _=>?_)
       ·exact wpS_pure ⟨S3,.inr ⟨rfl,J5,h6',by dsimp only;omega,by dsimp only;omega⟩⟩
       ·exact wpS_pure ⟨S3,_,_,_,_,_,_,rfl,J5,h6',by omega,by omega⟩
      ·obtain rfl:k1=0:=by omega
       refine wpS_bind (aV (U:=Unit) ea ?_)
       have J5:=J2.pushA Sa ea hle
       refine aN (fun h7=>?_) (fun h7=>?_)
       ·exact wpS_pure ⟨S3,.inl ⟨_,rfl,J5.lastA Sb (by simpa using h7) hl⟩⟩
       have h7':=by simpa using h7
       refine aN (fun _=>?_) (fun _=>?_)
       ·exact wpS_pure ⟨S3,.inr ⟨rfl,J5,h5',by dsimp only;omega,by dsimp only;omega⟩⟩
       ·exact wpS_pure ⟨S3,_,_,_,_,_,_,rfl,J5,h5',by omega,by omega⟩
structure MH (rk:Keyed->Int) (a b out:Array Keyed) (na nb:Nat):Prop where
 ha:na<=a.size
 hb:nb<=b.size
 so:oh rk out.toList.reverse
 le:∀ p∈a.toList.take na ++ b.toList.take nb,∀ q∈out.toList,rk p<=rk q
 pm:((a.toList.take na ++ b.toList.take nb) ++ out.toList.reverse).Perm (a.toList ++ b.toList)
theorem mC {α:Type} (l:List α) {i n:Nat} (h:i<=n):l.take n=l.take i ++ (l.drop i).take (n - i):=by
 rw [List.take_drop,show i+(n - i)=n by omega]
 conv=>lhs;rw [← Abv i (l.take n)]
 rw [List.take_take,Nat.min_eq_left h]
theorem iG (a:Array Keyed) {i n:Nat} (h:i<=n):(a.extract i n).toList=(a.toList.drop i).take (n - i):=by
 rw [Array.toList_extract,List.extract_eq_drop_take]
theorem MH.takeA {a b out:Array Keyed} {na nb:Nat} (h:MH rk a b out na nb) (Sa:oh rk a.toList) (i:Nat) (hi:i<=na) (hc:∀ q∈(a.toList.drop i).take (na - i),∀ p∈b.toList.take nb,rk p<=rk q):MH rk a b (out ++ (a.extract i na).reverse) i nb:=by
 have e:=mC a.toList hi
 have Sd:oh rk (a.toList.take na):=Sa.sublist (Aa0 _ _)
 rw [e] at Sd
 obtain ⟨s1,s2,s3⟩:=Zu.mp Sd
 have tl:(out ++ (a.extract i na).reverse).toList=out.toList ++ ((a.toList.drop i).take (na - i)).reverse:=by rw [Zx,AaL,iG a hi]
 have rl:(out ++ (a.extract i na).reverse).toList.reverse=(a.toList.drop i).take (na - i) ++ out.toList.reverse:=by rw [tl,List.reverse_append,List.reverse_reverse]
 refine ⟨by have:=h.ha;omega,h.hb,?_,?_,?_⟩
 ·rw [rl]
  exact Zu.mpr ⟨s2,h.so,fun p hp q hq=>h.le p (Zy _ (by rw [e];exact Za _ hp)) q (AaR.mp hq)⟩
 ·rw [tl]
  intro p hp q hq
  rcases Y8.mp hq with hq | hq
  ·refine h.le p ?_ q hq
   rcases Y8.mp hp with hp | hp
   ·exact Zy _ (by rw [e];exact Zy _ hp)
   ·exact Za _ hp
  ·have hq:=AaR.mp hq
   rcases Y8.mp hp with hp | hp
   ·exact s3 p hp q hq
   ·exact hc q hq p hp
 ·rw [rl]
  refine List.Perm.trans ?_ h.pm
  conv=>rhs;rw [e]
  rw [← ZF]
  refine Abn _ ?_
  rw [ZF,ZF]
  exact Abw _ Abx
theorem MH.takeB {a b out:Array Keyed} {na nb:Nat} (h:MH rk a b out na nb) (Sb:oh rk b.toList) (i:Nat) (hi:i<=nb) (hc:∀ q∈(b.toList.drop i).take (nb - i),∀ p∈a.toList.take na,rk p<=rk q):MH rk a b (out ++ (b.extract i nb).reverse) na i:=by
 have e:=mC b.toList hi
 have Sd:oh rk (b.toList.take nb):=Sb.sublist (Aa0 _ _)
 rw [e] at Sd
 obtain ⟨s1,s2,s3⟩:=Zu.mp Sd
 have tl:(out ++ (b.extract i nb).reverse).toList=out.toList ++ ((b.toList.drop i).take (nb - i)).reverse:=by rw [Zx,AaL,iG b hi]
 have rl:(out ++ (b.extract i nb).reverse).toList.reverse=(b.toList.drop i).take (nb - i) ++ out.toList.reverse:=by rw [tl,List.reverse_append,List.reverse_reverse]
 refine ⟨h.ha,by have:=h.hb;omega,?_,?_,?_⟩
 ·rw [rl]
  exact Zu.mpr ⟨s2,h.so,fun p hp q hq=>h.le p (Za _ (by rw [e];exact Za _ hp)) q (AaR.mp hq)⟩
 ·rw [tl]
  intro p hp q hq
  rcases Y8.mp hq with hq | hq
  ·refine h.le p ?_ q hq
   rcases Y8.mp hp with hp | hp
   ·exact Zy _ hp
   ·exact Za _ (by rw [e];exact Zy _ hp)
  ·have hq:=AaR.mp hq
   rcases Y8.mp hp with hp | hp
   ·exact hc q hq p hp
   ·exact s3 p hp q hq
 ·rw [rl]
  refine List.Perm.trans (List.Perm.of_eq ?_) h.pm
  conv=>rhs;rw [e]
  simp only [ZF]
theorem yM {out a:Array Keyed} {n:Nat} {p:Keyed} (hn:1<=n) (h:a[n - 1]?=some p):out.push p=out ++ (a.extract (n - 1) n).reverse:=by
 rw [uL h,show n - 1+1=n by omega]
 congr 1
 apply Array.ext'
 rw [AaL,iG a (by omega),show n - (n - 1)=1 by omega]
 obtain ⟨hi,e⟩:=Zk.mp h
 rw [ZQ (by simpa using hi)]
 simp
theorem qK {a:Array Keyed} {n:Nat} {p q:Keyed} (Sa:oh rk a.toList) (hn:1<=n) (h:a[n - 1]?=some p) (hq:q∈a.toList.take n):rk q<=rk p:=by
 obtain ⟨hi,e⟩:=Zk.mp h
 obtain ⟨k,hk,ek⟩:=Zh.mp hq
 have hk':k < n/\k < a.size:=by simp at hk;omega
 have hqk:a[k]?=some q:=by rw [Z9 a k hk'.2,← ek];simp
 refine gH Sa hqk ?_
 rw [← e]
 exact Zh.mpr ⟨n - 1 - k,by simp;omega,by simp [show k+(n - 1 - k)=n - 1 by omega]⟩
theorem MH.pushA {a b out:Array Keyed} {na nb:Nat} {p:Keyed} (h:MH rk a b out na nb) (Sa:oh rk a.toList) (hn:1<=na) (e:a[na - 1]?=some p) (hc:∀ q∈b.toList.take nb,rk q<=rk p):MH rk a b (out.push p) (na - 1) nb:=by
 rw [yM hn e]
 refine h.takeA Sa (na - 1) (by omega) fun q hq r hr=>?_
 rw [show na - (na - 1)=1 by omega] at hq
 rw [take1 e hq];exact hc r hr
theorem MH.pushB {a b out:Array Keyed} {na nb:Nat} {p:Keyed} (h:MH rk a b out na nb) (Sb:oh rk b.toList) (hn:1<=nb) (e:b[nb - 1]?=some p) (hc:∀ q∈a.toList.take na,rk q<=rk p):MH rk a b (out.push p) na (nb - 1):=by
 rw [yM hn e]
 refine h.takeB Sb (nb - 1) (by omega) fun q hq r hr=>?_
 rw [show nb - (nb - 1)=1 by omega] at hq
 rw [take1 e hq];exact hc r hr
theorem Ed (a:Array Keyed) (n:Nat):(a.extract 0 n).toList=a.toList.take n:=by
 rw [iG a (Aaj n),AaT,Nat.sub_zero]
theorem MH.doneA {a b out:Array Keyed} {na nb:Nat} (h:MH rk a b out na nb) (Sb:oh rk b.toList) (e:na=0):Res rk a b (a.extract 0 na ++ b.extract 0 nb ++ out.reverse):=by
 unfold Res
 rw [Zx,Zx,Ed,Ed,AaL]
 refine ⟨?_,h.pm⟩
 have:a.toList.take na=[]:=by rw [e];rfl
 rw [this,Aau]
 exact Zu.mpr ⟨Sb.sublist (Aa0 _ _),h.so,fun p hp q hq=>h.le p (Za _ hp) q (AaR.mp hq)⟩
theorem MH.doneB {a b out:Array Keyed} {na nb:Nat} (h:MH rk a b out na nb) (Sa:oh rk a.toList) (e:nb=0):Res rk a b (a.extract 0 na ++ b.extract 0 nb ++ out.reverse):=by
 unfold Res
 rw [Zx,Zx,Ed,Ed,AaL]
 refine ⟨?_,h.pm⟩
 have:b.toList.take nb=[]:=by rw [e];rfl
 rw [this,Zt]
 exact Zu.mpr ⟨Sa.sublist (Aa0 _ _),h.so,fun p hp q hq=>h.le p (Zy _ hp) q (AaR.mp hq)⟩
theorem MH.firstB {a b out:Array Keyed} {na nb:Nat} (h:MH rk a b out na nb) (Sa:oh rk a.toList) (e:nb=1) (hf:∀ p,b[0]?=some p->∀ q∈a.toList,rk p<=rk q):Res rk a b (b.extract 0 nb ++ a.extract 0 na ++ out.reverse):=by
 unfold Res
 rw [Zx,Zx,Ed,Ed,AaL]
 have hi:0 < b.size:=by have:=h.hb;omega
 have eb:b.toList.take nb=[b[0]]:=by
  rw [e]
  have:=ZQ (l:=b.toList) (i:=0) (by simpa using hi)
  rw [AaT] at this
  rw [this];simp
 refine ⟨?_,(Abn _ Abx).trans h.pm⟩
 refine Zu.mpr ⟨Zu.mpr ⟨by rw [eb];exact Abe _ _,Sa.sublist (Aa0 _ _),fun p hp q hq=>?_⟩,h.so,fun p hp q hq=>h.le p ?_ q (AaR.mp hq)⟩
 ·rw [eb] at hp
  rw [ZK.mp hp]
  exact hf _ (Z9 b 0 hi) q (AaK hq)
 ·rcases Y8.mp hp with hp | hp
  ·exact Za _ hp
  ·exact Zy _ hp
theorem lg {a:Array Keyed} {i k:Nat} {q:Keyed} (hq:q∈(a.toList.drop i).take k):∃ j,i<=j/\j < i+k/\a[j]?=some q:=by
 obtain ⟨j,hj,e⟩:=tL hq
 exact ⟨i+j,by omega,by omega,e⟩
theorem Ac {a:Array Keyed} {n:Nat} {q:Keyed} (hq:q∈a.toList.take n):∃ j,j < n/\a[j]?=some q:=by
 obtain ⟨k,hk,e⟩:=Zh.mp hq
 have hk':k < n/\k < a.size:=by simp at hk;omega
 exact ⟨k,hk'.1,by rw [Z9 a k hk'.2,← e];simp⟩
def GoH (rk:Keyed->Int) (a b:Array Keyed) (n:Nat) (r:Option (Array Keyed)) (na nb:Nat) (out:Array Keyed):Prop:=(∃ x,r=some x/\Res rk a b x)\/(r=none/\MH rk a b out na nb/\1<=na/\2<=nb/\n+na+nb<=a.size+b.size)
theorem yN {a b:Array Keyed} {st:SortSt} {Q:Array Keyed->SortSt->Prop} (L:qH M A E s kd rk a₀) (ha:∀ p∈a.toList,p∈a₀.toList) (hb:∀ p∈b.toList,p∈a₀.toList) (Sa:oh rk a.toList) (Sb:oh rk b.toList)
  (n1:1<=a.size) (n2:1<=b.size) (hf:∀ p,b[0]?=some p->∀ q∈a.toList,rk p<=rk q) (hl:∀ p,a[a.size - 1]?=some p->∀ q∈b.toList,rk q<=rk p) (kind:kindOf st=kd)
  (h:∀ r st',Sm st st'->Res rk a b r->Q r st'):wpS M A E s (Ih a b) Q st:=by
 have atA:∀ {i:Nat},i < a.size->∃ p,a[i]?=some p/\p∈a₀.toList:=fun {i} hi=>⟨a[i],Z9 a i hi,ha _ (by simp)⟩
 have atB:∀ {i:Nat},i < b.size->∃ p,b[i]?=some p/\p∈a₀.toList:=fun {i} hi=>⟨b[i],Z9 b i hi,hb _ (by simp)⟩
 have KA:∀ {i:Nat} {p:Keyed},a[i]?=some p->Kr rk a i=rk p:=fun e=>cQ e
 have SKa:∀ i j,i<=j->j < a.size->Kr rk a i<=Kr rk a j:=fun i j hij hj=>by
  obtain ⟨p,ep,_⟩:=atA (show i < a.size by omega)
  obtain ⟨q,eq,_⟩:=atA hj
  rw [cQ ep,cQ eq]
  refine gH Sa ep ?_
  obtain ⟨hq,e⟩:=Zk.mp eq
  rw [← e]
  exact Zh.mpr ⟨j - i,by simp;omega,by simp [show i+(j - i)=j by omega]⟩
 have SKb:∀ i j,i<=j->j < b.size->Kr rk b i<=Kr rk b j:=fun i j hij hj=>by
  obtain ⟨p,ep,_⟩:=atB (show i < b.size by omega)
  obtain ⟨q,eq,_⟩:=atB hj
  rw [cQ ep,cQ eq]
  refine gH Sb ep ?_
  obtain ⟨hq,e⟩:=Zk.mp eq
  rw [← e]
  exact Zh.mpr ⟨j - i,by simp;omega,by simp [show i+(j - i)=j by omega]⟩
 refine wpS_bind (wpS_lift (wpAny_rule ⟨rfl,?_⟩))
 dsimp only
 obtain ⟨p0,e0,m0⟩:=atA (i:=a.size - 1) (by omega)
 refine wpS_bind (aV (U:=Unit) e0 ?_)
 have I0:MH rk a b #[p0] (a.size - 1) b.size:=by
  have Z:MH rk a b #[] a.size b.size:=⟨YW _,YW _,List.Pairwise.nil,fun p _ q hq=>by simp at hq,by
   rw [ZV (by simp),ZV (by simp)];simp⟩
  exact Z.pushA Sa n1 e0 fun q hq=>hl p0 e0 q (AaK hq)
 by_cases h1:a.size - 1=0
 ·rw [if_pos (by simpa using h1)]
  exact wpS_pure (h _ _ (Sm.refl _) (I0.doneA Sb h1))
 rw [if_neg (by simpa using h1)]
 by_cases h2:b.size=1
 ·rw [if_pos (by simpa using h2)]
  exact wpS_pure (h _ _ (Sm.refl _) (I0.firstB Sa h2 hf))
 rw [if_neg (by simpa using h2)]
 refine wpS_bind (wpS_get ?_)
 refine wpS_bind (wpS_mono (Z6 (I:=fun x c st'=>Sm st st'/\∃ na nb out mg,c=(none,na,nb,out,mg)/\MH rk a b out na nb/\1<=na/\2<=nb/\x+1+na+nb<=a.size+b.size)
   (Q:=fun c st'=>Sm st st'/\∃ r,c.1=some r/\Res rk a b r) ?step ?fin ⟨Sm.refl _,_,_,_,_,rfl,I0,by omega,by omega,by omega⟩) ?post)
 case fin=>
  rintro c st' ⟨_,na,nb,out,mg,rfl,I,x1,x2,x3⟩
  exact absurd x3 (by omega)
 case post=>
  rintro ⟨r0,c⟩ st' ⟨S,r,rfl,hr⟩
  exact wpS_pure (h r st' S hr)
 case step=>
  rintro x c st1 _ hx ⟨S1,na,nb,out,mg,rfl,I,x1,x2,x3⟩
  dsimp only
  have kd1:kindOf st1=kd:=S1.kind.trans kind
  refine wpS_bind (wpS_mono (Z6 (I:=fun y c st'=>st'=st1/\∃ na' nb' out' ac bc,c=(none,na',nb',out',ac,bc)/\MH rk a b out' na' nb'/\1<=na'/\2<=nb'/\x+1+y+na'+nb'<=a.size+b.size)
   (Q:=fun c st'=>st'=st1/\GoH rk a b (x+2) c.1 c.2.1 c.2.2.1 c.2.2.2.1) ?istep ?ifin ⟨rfl,_,_,_,_,_,rfl,I,x1,x2,by omega⟩) ?ipost)
  case ifin=>
   rintro c st' ⟨rfl,na',nb',out',ac,bc,rfl,I',y1,y2,y3⟩
   exact ⟨rfl,.inr ⟨rfl,I',y1,y2,by dsimp only;omega⟩⟩
  case istep=>
   rintro y c st' _ hy ⟨rfl,na',nb',out',ac,bc,rfl,I',y1,y2,y3⟩
   dsimp only
   obtain ⟨pb,eb,mb⟩:=atB (i:=nb' - 1) (by have:=I'.hb;omega)
   obtain ⟨pa,ea,ma⟩:=atA (i:=na' - 1) (by have:=I'.ha;omega)
   refine wpS_bind (aV (U:=Unit) eb (wpS_bind (aV (U:=Unit) ea (wpS_bind (L _ _ _ _ mb ma kd1 ?_)))))
   dsimp only
   refine aN (fun hw=>?_) (fun hw=>?_)
   ·have hw:=Zq hw
    refine wpS_bind (aV (U:=Unit) ea ?_)
    have I2:=I'.pushA Sa y1 ea fun q hq=>Z5 (qK Sb (by omega) eb hq) (by omega)
    refine aN (fun h3=>?_) (fun h3=>?_)
    ·exact wpS_pure ⟨rfl,.inl ⟨_,rfl,I2.doneA Sb (by simpa using h3)⟩⟩
    have h3':¬ na' - 1=0:=by simpa using h3
    refine aN (fun _=>?_) (fun _=>?_)
    ·exact wpS_pure ⟨rfl,.inr ⟨rfl,I2,by dsimp only;omega,by dsimp only;omega,by dsimp only;omega⟩⟩
    ·exact wpS_pure ⟨rfl,_,_,_,_,_,rfl,I2,by omega,by omega,by omega⟩
   ·have hw:¬ rk pb < rk pa:=fun z=>hw (YZ z)
    refine wpS_bind (aV (U:=Unit) eb ?_)
    have I2:=I'.pushB Sb (by omega) eb fun q hq=>Z5 (qK Sa y1 ea hq) (by omega)
    refine aN (fun h3=>?_) (fun h3=>?_)
    ·exact wpS_pure ⟨rfl,.inl ⟨_,rfl,I2.firstB Sa (by simpa using h3) hf⟩⟩
    have h3':¬ nb' - 1=1:=by simpa using h3
    refine aN (fun _=>?_) (fun _=>?_)
    ·exact wpS_pure ⟨rfl,.inr ⟨rfl,I2,by dsimp only;omega,by dsimp only;omega,by dsimp only;omega⟩⟩
    ·exact wpS_pure ⟨rfl,_,_,_,_,_,rfl,I2,by omega,by omega,by omega⟩
  case ipost=>
   rintro ⟨r0,na1,nb1,out1,ac1,bc1⟩ st' ⟨rfl,G⟩
   dsimp only at G ⊢
   rcases G with ⟨r,rfl,hr⟩ | ⟨rfl,I1,y1,y2,y3⟩
   ·exact wpS_pure ⟨S1,r,rfl,hr⟩
   dsimp only
   refine wpS_bind (wpS_lift (wpAny_rule ⟨rfl,?_⟩))
   refine wpS_bind (wpS_mono (Z6 (I:=fun y c st'=>Sm st st'/\∃ na' nb' out' mg ac bc,c=(none,na',nb',out',mg,ac,bc)/\MH rk a b out' na' nb'/\1<=na'/\2<=nb'/\x+2+na'+nb'<=a.size+b.size)
    (Q:=fun c st'=>Sm st st'/\GoH rk a b (x+2) c.1 c.2.1 c.2.2.1 c.2.2.2.1) ?gstep ?gfin ⟨S1,_,_,_,_,_,_,rfl,I1,y1,y2,y3⟩) ?gpost)
   case gfin=>
    rintro c st' ⟨S2,na',nb',out',mg',ac,bc,rfl,I',y1,y2,y3⟩
    exact ⟨S2,.inr ⟨rfl,I',y1,y2,y3⟩⟩
   case gpost=>
    rintro ⟨r0,na1,nb1,out1,mg1,ac1,bc1⟩ st' ⟨S2,G⟩
    dsimp only at G ⊢
    rcases G with ⟨r,rfl,hr⟩ | ⟨rfl,I1,y1,y2,y3⟩
    ·exact wpS_pure ⟨S2,r,rfl,hr⟩
    dsimp only
    refine wpS_bind (qJ S2 fun st2 S3=>?_)
    exact wpS_pure ⟨S3,_,_,_,_,rfl,I1,y1,y2,by omega⟩
   case gstep=>
    rintro y c st' _ hy ⟨S2,na',nb',out',mg',ac,bc,rfl,I',y1,y2,y3⟩
    dsimp only
    obtain ⟨pb,eb,mb⟩:=atB (i:=nb' - 1) (by have:=I'.hb;omega)
    have hna:=I'.ha
    have hnb:=I'.hb
    refine aN (fun _=>?_) (fun _=>?_)
    all_goals
     refine wpS_bind (qJ S2 fun st3 S3=>?_)
     have kd3:kindOf st3=kd:=S3.kind.trans kind
     refine wpS_bind (aV (U:=Unit) eb ?_)
     refine wpS_bind (fG (fun i=>decide (Kr rk a (0+i)<=rk pb)) (by omega) (fun i R hi r=>jJ L mb ha (by omega) kd3 (by simpa using r)) (fun i j hij hj hq=>YZ (Z5 (SKa _ _ (by omega) (by omega)) (Zq hq))) fun k hk hk1 hk2=>?_)
     dsimp only
     have I2:=I'.takeA Sa k (by omega) fun q hq p hp=>by
      obtain ⟨j,h3,h4,e⟩:=lg hq
      have:=Z8 (hk2 j (by omega) (by omega))
      rw [AbC,cQ e] at this
      exact Z5 (qK Sb (by omega) eb hp) (by omega)
     have hgt:∀ q∈a.toList.take k,rk q<=rk pb:=fun q hq=>by
      obtain ⟨j,h3,e⟩:=Ac hq
      have:=Zq (hk1 j h3)
      rw [AbC,cQ e] at this
      exact this
     refine aN (fun hk0=>?_) (fun hk0=>?_)
     ·refine aN (fun h3=>?_) (fun h3=>?_)
      ·exact wpS_pure ⟨S3,.inl ⟨_,rfl,I2.doneA Sb (by simpa using h3)⟩⟩
      have h3':¬ k=0:=by simpa using h3
      have hi1:1<=k:=by omega
      have J:=I2
      have hg2:=hgt
      refine wpS_bind (aV (U:=Unit) eb ?_)
      have J2:=J.pushB Sb (by omega) eb hg2
      refine aN (fun h5=>?_) (fun h5=>?_)
      ·exact wpS_pure ⟨S3,.inl ⟨_,rfl,J2.firstB Sa (by simpa using h5) hf⟩⟩
      have h5':¬ nb' - 1=1:=by simpa using h5
      obtain ⟨pa,ea,ma⟩:=atA (i:=k - 1) (by have:=J.ha;omega)
      refine wpS_bind (aV (U:=Unit) ea ?_)
      refine wpS_bind (fG (fun i=>decide (Kr rk b (0+i) < rk pa)) (by omega) (fun i R hi r=>jJ L ma hb (by omega) kd3 (by simpa using r)) (fun i j hij hj hq=>YZ (Abo (SKb _ _ (by omega) (by omega)) (Zq hq))) fun k1 hk1 hk11 hk12=>?_)
      dsimp only
      have J3:=J2.takeB Sb k1 (by omega) fun q hq p hp=>by
       obtain ⟨j,h3,h4,e⟩:=lg hq
       have:=Z8 (hk12 j (by omega) (by omega))
       rw [AbC,cQ e] at this
       exact Z5 (qK Sa hi1 ea hp) (by omega)
      have hle:∀ q∈b.toList.take k1,rk q<=rk pa:=fun q hq=>by
       obtain ⟨j,h3,e⟩:=Ac hq
       have:=Zq (hk11 j h3)
       rw [AbC,cQ e] at this
       omega
      refine aN (fun hk10=>?_) (fun hk10=>?_)
      ·refine aN (fun h6=>?_) (fun h6=>aN (fun h8=>?_) (fun h8=>?_))
       ·exact wpS_pure ⟨S3,.inl ⟨_,rfl,J3.firstB Sa (by simpa using h6) hf⟩⟩
       ·exact wpS_pure ⟨S3,.inl ⟨_,rfl,J3.doneB Sa (by simpa using h8)⟩⟩
       have h6':¬ k1=1:=by simpa using h6
       have h8':¬ k1=0:=by simpa using h8
       refine wpS_bind (aV (U:=Unit) ea ?_)
       have J5:=J3.pushA Sa hi1 ea hle
       refine aN (fun h7=>?_) (fun h7=>?_)
       ·exact wpS_pure ⟨S3,.inl ⟨_,rfl,J5.doneA Sb (by simpa using h7)⟩⟩
       have h7':¬ k - 1=0:=by simpa using h7
       refine aN (fun _=>?_) (fun _=>?_)
       ·exact wpS_pure ⟨S3,.inr ⟨rfl,J5,by dsimp only;omega,by dsimp only;omega,by dsimp only;omega⟩⟩
       ·exact wpS_pure ⟨S3,_,_,_,_,_,_,rfl,J5,by omega,by omega,by omega⟩
      ·obtain rfl:k1=nb' - 1:=by omega
       refine wpS_bind (aV (U:=Unit) ea ?_)
       have J5:=J2.pushA Sa hi1 ea hle
       refine aN (fun h7=>?_) (fun h7=>?_)
       ·exact wpS_pure ⟨S3,.inl ⟨_,rfl,J5.doneA Sb (by simpa using h7)⟩⟩
       have h7':¬ k - 1=0:=by simpa using h7
       refine aN (fun _=>?_) (fun _=>?_)
       ·exact wpS_pure ⟨S3,.inr ⟨rfl,J5,by dsimp only;omega,by dsimp only;omega,by dsimp only;omega⟩⟩
       ·exact wpS_pure ⟨S3,_,_,_,_,_,_,rfl,J5,by omega,by omega,by omega⟩
     ·obtain rfl:k=na':=by omega
      have hi1:1<=k:=y1
      have J:=I'
      have hg2:=hgt
      refine wpS_bind (aV (U:=Unit) eb ?_)
      have J2:=J.pushB Sb (by omega) eb hg2
      refine aN (fun h5=>?_) (fun h5=>?_)
      ·exact wpS_pure ⟨S3,.inl ⟨_,rfl,J2.firstB Sa (by simpa using h5) hf⟩⟩
      have h5':¬ nb' - 1=1:=by simpa using h5
      obtain ⟨pa,ea,ma⟩:=atA (i:=k - 1) (by have:=J.ha;omega)
      refine wpS_bind (aV (U:=Unit) ea ?_)
      refine wpS_bind (fG (fun i=>decide (Kr rk b (0+i) < rk pa)) (by omega) (fun i R hi r=>jJ L ma hb (by omega) kd3 (by simpa using r)) (fun i j hij hj hq=>YZ (Abo (SKb _ _ (by omega) (by omega)) (Zq hq))) fun k1 hk1 hk11 hk12=>?_)
      dsimp only
      have J3:=J2.takeB Sb k1 (by omega) fun q hq p hp=>by
       obtain ⟨j,h3,h4,e⟩:=lg hq
       have:=Z8 (hk12 j (by omega) (by omega))
       rw [AbC,cQ e] at this
       exact Z5 (qK Sa hi1 ea hp) (by omega)
      have hle:∀ q∈b.toList.take k1,rk q<=rk pa:=fun q hq=>by
       obtain ⟨j,h3,e⟩:=Ac hq
       have:=Zq (hk11 j h3)
       rw [AbC,cQ e] at this
       omega
      refine aN (fun hk10=>?_) (fun hk10=>?_)
      ·refine aN (fun h6=>?_) (fun h6=>aN (fun h8=>?_) (fun h8=>?_))
       ·exact wpS_pure ⟨S3,.inl ⟨_,rfl,J3.firstB Sa (by simpa using h6) hf⟩⟩
       ·exact wpS_pure ⟨S3,.inl ⟨_,rfl,J3.doneB Sa (by simpa using h8)⟩⟩
       have h6':¬ k1=1:=by simpa using h6
       have h8':¬ k1=0:=by simpa using h8
       refine wpS_bind (aV (U:=Unit) ea ?_)
       have J5:=J3.pushA Sa hi1 ea hle
       refine aN (fun h7=>?_) (fun h7=>?_)
       ·exact wpS_pure ⟨S3,.inl ⟨_,rfl,J5.doneA Sb (by simpa using h7)⟩⟩
       have h7':¬ k - 1=0:=by simpa using h7
       refine aN (fun _=>?_) (fun _=>?_)
       ·exact wpS_pure ⟨S3,.inr ⟨rfl,J5,by dsimp only;omega,by dsimp only;omega,by dsimp only;omega⟩⟩
       ·exact wpS_pure ⟨S3,_,_,_,_,_,_,rfl,J5,by omega,by omega,by omega⟩
      ·obtain rfl:k1=nb' - 1:=by omega
       refine wpS_bind (aV (U:=Unit) ea ?_)
       have J5:=J2.pushA Sa hi1 ea hle
       refine aN (fun h7=>?_) (fun h7=>?_)
       ·exact wpS_pure ⟨S3,.inl ⟨_,rfl,J5.doneA Sb (by simpa using h7)⟩⟩
       have h7':¬ k - 1=0:=by simpa using h7
       refine aN (fun _=>?_) (fun _=>?_)
       ·exact wpS_pure ⟨S3,.inr ⟨rfl,J5,by dsimp only;omega,by dsimp only;omega,by dsimp only;omega⟩⟩
       ·exact wpS_pure ⟨S3,_,_,_,_,_,_,rfl,J5,by omega,by omega,by omega⟩
theorem tM (xs:Array Keyed) (i:Nat):Kr rk xs i=match xs.toList[i]? with | some p=>rk p | none=>0:=by
 unfold Kr
 rw [Aad]
 all_goals (cases xs[i]? <;> rfl)
theorem uM {xs:Array Keyed} {lo hi:Nat} (h:Seg rk xs lo hi):oh rk ((xs.toList.drop lo).take (hi - lo)):=by
 refine AaV.mpr fun i j hi' hj hij=>?_
 have hj2:j < hi - lo/\lo+j < xs.size:=by simp at hj;omega
 have:=h (lo+i) (lo+j) (by omega) (by omega) (by omega)
 rw [cQ (Z9 xs (lo+i) (by omega)),cQ (Z9 xs (lo+j) hj2.2)] at this
 simpa using this
theorem R5 {xs:Array Keyed} {P S D:List Keyed} (e:xs.toList=P ++ S ++ D) (h:oh rk S):Seg rk xs P.length (P.length+S.length):=by
 intro i j h1 h2 h3
 have at_:∀ k,P.length<=k->k < P.length+S.length->xs.toList[k]?=S[k - P.length]?:=fun k a b=>by
  rw [e,ZF,Zf a,Zv (by omega)]
 have hi:i - P.length < S.length:=by omega
 have hj:j - P.length < S.length:=by omega
 rw [tM,tM,at_ i h1 (by omega),at_ j (by omega) h3,YL hi,YL hj]
 show rk _<=rk _
 by_cases hij:i=j
 ·subst hij;exact Aa3 _
 ·exact AaV.mp h _ _ hi hj (by omega)
theorem Ii:∀ (l:List Keyed) (off n:Nat) (xs:Array Keyed),off+n+l.length<=xs.size->∀ k,((l.zipIdx n).foldl (fun a (x:Keyed×Nat)=>a.setIfInBounds (off+x.2) x.1) xs)[k]?=if off+n<=k/\k < off+n+l.length then l[k - (off+n)]? else xs[k]?
 | [],off,n,xs,h,k=>by
  rw [if_neg (by rw [Z1];omega)]
  rfl
 | p :: l,off,n,xs,h,k=>by
  have hl:(p :: l).length=l.length+1:=rfl
  show ((l.zipIdx (n+1)).foldl (fun a (x:Keyed×Nat)=>a.setIfInBounds (off+x.2) x.1) (xs.setIfInBounds (off+n) p))[k]?=_
  rw [Ii l off (n+1) (xs.setIfInBounds (off+n) p) (by rw [Array.size_setIfInBounds];omega)]
  by_cases h1:k=off+n
  ·subst h1
   rw [if_neg (by omega),if_pos (by omega),Array.getElem?_setIfInBounds,if_pos rfl,if_pos (by omega),Nat.sub_self];rfl
  ·by_cases h2:off+(n+1)<=k/\k < off+(n+1)+l.length
   ·rw [if_pos h2,if_pos (by omega),show k - (off+n)=(k - (off+(n+1)))+1 by omega,List.getElem?_cons_succ]
   ·rw [if_neg h2,if_neg (by omega),Array.getElem?_setIfInBounds,if_neg (by omega)]
theorem Ij (l:List Keyed) (off:Nat) (xs:Array Keyed) (h:off+l.length<=xs.size):(l.zipIdx.foldl (fun a (x:Keyed×Nat)=>a.setIfInBounds (off+x.2) x.1) xs).toList=xs.toList.take off ++ l ++ xs.toList.drop (off+l.length):=by
 refine List.ext_getElem? fun k=>?_
 rw [Aad,Ii l off 0 xs (by omega) k]
 have t1:(xs.toList.take off).length=off:=by rw [Zb,Aai];omega
 rw [ZF]
 by_cases h1:k < off
 ·rw [if_neg (by omega),Zv (by omega),ZD h1,Aad]
 ·rw [Zf (by omega),t1]
  by_cases h2:k < off+l.length
  ·rw [if_pos ⟨by omega,by omega⟩,Zv (by omega),Nat.add_zero]
  ·rw [if_neg (by omega),Zf (by omega),List.getElem?_drop,show off+l.length+(k - off - l.length)=k by omega,Aad]
theorem Ca {xs:Array Keyed} {sa na nb:Nat} (g1:Seg rk xs sa (sa+na)) (g2:Seg rk xs (sa+na) (sa+na+nb)) (n2:1<=nb) (h:∀ i,sa<=i->i < sa+na->Kr rk xs i<=Kr rk xs (sa+na)):Seg rk xs sa (sa+na+nb):=fun i j h1 h2 h3=>by
 by_cases a:j < sa+na
 ·exact g1 i j h1 h2 a
 ·by_cases b:i < sa+na
  ·exact Z5 (h i h1 b) (g2 _ _ (YW _) (by omega) h3)
  ·exact g2 i j (by omega) h2 h3
theorem Ef {xs m:Array Keyed} {sa na nb k n':Nat} (hsz:sa+na+nb<=xs.size) (g1:Seg rk xs sa (sa+na)) (g2:Seg rk xs (sa+na) (sa+na+nb)) (hk:k < na) (hn:n'<=nb) (n2:1<=nb)
  (hA:∀ i,i < k->Kr rk xs (sa+i)<=Kr rk xs (sa+na)) (hX:∀ i,k<=i->i < na->Kr rk xs (sa+na) < Kr rk xs (sa+i)) (hB2:∀ i,n'<=i->i < nb->Kr rk xs (sa+na - 1)<=Kr rk xs (sa+na+i))
  (hm:Res rk (xs.extract (sa+k) (sa+na)) (xs.extract (sa+na) (sa+na+n')) m):
  (m.toList.zipIdx.foldl (fun a (x:Keyed×Nat)=>a.setIfInBounds (sa+k+x.2) x.1) xs).Perm xs/\Seg rk (m.toList.zipIdx.foldl (fun a (x:Keyed×Nat)=>a.setIfInBounds (sa+k+x.2) x.1) xs) sa (sa+na+nb)/\
  ∀ i,i < sa\/sa+na+nb<=i->Kr rk (m.toList.zipIdx.foldl (fun a (x:Keyed×Nat)=>a.setIfInBounds (sa+k+x.2) x.1) xs) i=Kr rk xs i:=by
 obtain ⟨hm1,hm2⟩:=hm
 rw [iG xs (by omega),iG xs (by omega),show sa+na - (sa+k)=na - k by omega,show sa+na+n' - (sa+na)=n' by omega] at hm2
 have lt:xs.toList.length=xs.size:=by simp
 have lm:m.toList.length=na - k+n':=by
  rw [hm2.length_eq,YX,Zb,Zb,Aax,Aax,lt];omega
 have e:=Ij m.toList (sa+k) xs (by omega)
 rw [lm,show sa+k+(na - k+n')=sa+na+n' by omega] at e
 generalize m.toList.zipIdx.foldl (fun a (x:Keyed×Nat)=>a.setIfInBounds (sa+k+x.2) x.1) xs=W at e ⊢
 have t0:xs.toList.take (sa+k)=xs.toList.take sa ++ (xs.toList.drop sa).take k:=by
  have:=mC xs.toList (i:=sa) (n:=sa+k) (by omega)
  rwa [show sa+k - sa=k by omega] at this
 have t1:xs.toList.take (sa+na)=xs.toList.take (sa+k) ++ (xs.toList.drop (sa+k)).take (na - k):=by
  have:=mC xs.toList (i:=sa+k) (n:=sa+na) (by omega)
  rwa [show sa+na - (sa+k)=na - k by omega] at this
 have t2:xs.toList.drop (sa+na)=(xs.toList.drop (sa+na)).take n' ++ xs.toList.drop (sa+na+n'):=mz _ _ _
 have t3:xs.toList.drop (sa+na+n')=(xs.toList.drop (sa+na+n')).take (nb - n') ++ xs.toList.drop (sa+na+nb):=by
  have:=mz xs.toList (sa+na+n') (nb - n')
  rwa [show sa+na+n'+(nb - n')=sa+na+nb by omega] at this
 have eW:W.toList=xs.toList.take sa ++ ((xs.toList.drop sa).take k ++ m.toList ++ (xs.toList.drop (sa+na+n')).take (nb - n')) ++ xs.toList.drop (sa+na+nb):=by
  rw [e,t0]
  conv=>lhs;rw [t3]
  simp only [ZF]
 have lP:(xs.toList.take sa).length=sa:=by rw [Zb,lt];omega
 have lS:((xs.toList.drop sa).take k ++ m.toList ++ (xs.toList.drop (sa+na+n')).take (nb - n')).length=na+nb:=by
  rw [YX,YX,lm,Zb,Zb,Aax,Aax,lt];omega
 have kr:∀ {i:Nat} {p:Keyed},xs[i]?=some p->Kr rk xs i=rk p:=fun e=>cQ e
 have memM:∀ {q:Keyed},q∈m.toList->(∃ i,k<=i/\i < na/\xs[sa+i]?=some q)\/∃ i,i < n'/\xs[sa+na+i]?=some q:=fun {q} hq=>by
  rcases Y8.mp (hm2.mem_iff.mp hq) with hq | hq
  ·obtain ⟨j,h1,h2,e⟩:=lg hq
   exact .inl ⟨j - sa,by omega,by omega,by rw [show sa+(j - sa)=j by omega];exact e⟩
  ·obtain ⟨j,h1,h2,e⟩:=lg hq
   exact .inr ⟨j - (sa+na),by omega,by rw [show sa+na+(j - (sa+na))=j by omega];exact e⟩
 refine ⟨?_,?_,?_⟩
 ·rw [Array.perm_iff_toList_perm,e]
  have ex:xs.toList=xs.toList.take (sa+k) ++ ((xs.toList.drop (sa+k)).take (na - k) ++ (xs.toList.drop (sa+na)).take n') ++ xs.toList.drop (sa+na+n'):=by
   conv=>lhs;rw [← Abv (sa+na) xs.toList,t1,t2]
   simp only [ZF]
  conv=>rhs;rw [ex]
  exact Abn _ (Abw _ hm2)
 ·have:=R5 (rk:=rk) eW ?_
  ·rw [lP,lS,← Nat.add_assoc] at this;exact this
  have s1:oh rk ((xs.toList.drop sa).take k):=by
   have:=uM (rk:=rk) (xs:=xs) (lo:=sa) (hi:=sa+k) fun i j a b c=>g1 i j a b (by omega)
   rwa [show sa+k - sa=k by omega] at this
  have s2:oh rk ((xs.toList.drop (sa+na+n')).take (nb - n')):=by
   have:=uM (rk:=rk) (xs:=xs) (lo:=sa+na+n') (hi:=sa+na+nb) fun i j a b c=>g2 i j (by omega) b c
   rwa [show sa+na+nb - (sa+na+n')=nb - n' by omega] at this
  refine Zu.mpr ⟨Zu.mpr ⟨s1,hm1,fun p hp q hq=>?_⟩,s2,fun p hp q hq=>?_⟩
  ·obtain ⟨j,h1,h2,ep⟩:=lg hp
   have a1:=hA (j - sa) (by omega)
   rw [show sa+(j - sa)=j by omega,kr ep] at a1
   rcases memM hq with ⟨i,h3,h4,eq⟩ | ⟨i,h3,eq⟩
   ·have:=hX i h3 h4
    rw [kr eq] at this;omega
   ·have:=g2 (sa+na) (sa+na+i) (by omega) (by omega) (by omega)
    rw [kr eq] at this;omega
  ·obtain ⟨j,h1,h2,eq⟩:=lg hq
   rcases Y8.mp hp with hp | hp
   ·obtain ⟨i,h3,h4,ep⟩:=lg hp
    have a1:=hA (i - sa) (by omega)
    rw [show sa+(i - sa)=i by omega,kr ep] at a1
    have:=g2 (sa+na) j (by omega) (by omega) (by omega)
    rw [kr eq] at this;omega
   ·rcases memM hp with ⟨i,h3,h4,ep⟩ | ⟨i,h3,ep⟩
    ·have a1:=g1 (sa+i) (sa+na - 1) (by omega) (by omega) (by omega)
     have a2:=hB2 (j - (sa+na)) (by omega) (by omega)
     rw [show sa+na+(j - (sa+na))=j by omega,kr eq] at a2
     rw [kr ep] at a1;omega
    ·have:=g2 (sa+na+i) j (by omega) (by omega) (by omega)
     rw [kr ep,kr eq] at this;exact this
 ·intro i hi
  rw [tM,tM,eW]
  rcases hi with hi | hi
  ·rw [ZF,Zv (by omega),ZD hi]
  ·rw [Zf (by rw [YX,lP,lS];omega),YX,lP,lS,List.getElem?_drop,show sa+na+nb+(i - (sa+(na+nb)))=i by omega]
theorem yO {st:SortSt} {i sa na nb pw pw2:Nat} {Q:Bool->SortSt->Prop} (L:qH M A E s kd rk a₀) (hB:SB a₀ kd st) (e1:(pendingOf st)[i]?=some (sa,na,pw)) (e2:(pendingOf st)[i+1]?=some (sa+na,nb,pw2)) (n1:1<=na) (n2:1<=nb)
  (hsz:sa+na+nb<=a₀.size) (g1:Seg rk (arrOf st) sa (sa+na)) (g2:Seg rk (arrOf st) (sa+na) (sa+na+nb))
  (h:∀ st',SB a₀ kd st'->pendingOf st'=((pendingOf st).setIfInBounds i (sa,na+nb,pw)).eraseIdxIfInBounds (i+1)->Seg rk (arrOf st') sa (sa+na+nb)->(∀ k,k < sa\/sa+na+nb<=k->Kr rk (arrOf st') k=Kr rk (arrOf st) k)->Q true st'):
  wpS M A E s (mergeAt' i) Q st:=by
 refine wpS_bind (wpS_get ?_)
 dsimp only
 rw [e1,e2]
 dsimp only
 have hsz':sa+na+nb<=(arrOf st).size:=by rw [hB.size];exact hsz
 refine wpS_bind (m:=set _) ?_
 show wpS M A E s (modify fun _=>setPending st (((pendingOf st).setIfInBounds i (sa,na+nb,pw)).eraseIdxIfInBounds (i+1))) _ st
 refine Aa8 ?_
 obtain ⟨p0,ep0,m0⟩:=hB.at (i:=sa+na) (by omega)
 refine wpS_bind (aV (U:=Unit) ep0 ?_)
 have hmem:∀ p∈(arrOf st).toList,p∈a₀.toList:=fun p hp=>hB.mem hp
 have hK0:Kr rk (arrOf st) (sa+na)=rk p0:=cQ ep0
 have hB1:SB a₀ kd (setPending st (((pendingOf st).setIfInBounds i (sa,na+nb,pw)).eraseIdxIfInBounds (i+1))):=⟨hB.perm,hB.kind,hB.failed⟩
 refine wpS_bind (fG (arr:=arrOf st) (fun i=>decide (Kr rk (arrOf st) (sa+i)<=rk p0)) (by omega) (fun i R hi r=>jJ L m0 hmem (by omega) hB1.kind (by simpa using r)) (fun i j hij hj hq=>YZ (Z5 (g1 _ _ (by omega) (by omega) (by omega)) (Zq hq))) fun k hk hk1 hk2=>?_)
 dsimp only
 refine aN (fun h3=>?_) (fun h3=>?_)
 ·have h3':na - k=0:=by simpa using h3
  refine wpS_pure (h _ hB1 rfl (Ca g1 g2 n2 fun i a b=>?_) fun _ _=>rfl)
  have:=Zq (hk1 (i - sa) (by omega))
  rw [show sa+(i - sa)=i by omega] at this
  rw [hK0];exact this
 have h3':¬ na - k=0:=by simpa using h3
 obtain ⟨p1,ep1,m1⟩:=hB.at (i:=sa+k+(na - k) - 1) (by omega)
 refine wpS_bind (aV (U:=Unit) ep1 ?_)
 have hK1:Kr rk (arrOf st) (sa+na - 1)=rk p1:=by rw [show sa+na - 1=sa+k+(na - k) - 1 by omega];exact cQ ep1
 refine wpS_bind (fG (arr:=arrOf st) (fun i=>decide (Kr rk (arrOf st) (sa+na+i) < rk p1)) (by omega) (fun i R hi r=>jJ L m1 hmem (by omega) hB1.kind (by simpa using r)) (fun i j hij hj hq=>YZ (Abo (g2 _ _ (by omega) (by omega) (by omega)) (Zq hq))) fun n' hn' hn1 hn2=>?_)
 dsimp only
 have hB2:∀ i,n'<=i->i < nb->Kr rk (arrOf st) (sa+na - 1)<=Kr rk (arrOf st) (sa+na+i):=fun i a b=>by
  have:=Z8 (hn2 i a b)
  rw [hK1];omega
 refine aN (fun h4=>?_) (fun h4=>?_)
 ·have h4':n'=0:=by simpa using h4
  refine wpS_pure (h _ hB1 rfl (Ca g1 g2 n2 fun i a b=>?_) fun _ _=>rfl)
  have a1:=g1 i (sa+na - 1) a (by omega) (by omega)
  have a2:=hB2 0 (by omega) (by omega)
  exact Z5 a1 a2
 have h4':¬ n'=0:=by simpa using h4
 have hA:∀ i,i < k->Kr rk (arrOf st) (sa+i)<=Kr rk (arrOf st) (sa+na):=fun i hi=>by rw [hK0];exact Zq (hk1 i hi)
 have hX:∀ i,k<=i->i < na->Kr rk (arrOf st) (sa+na) < Kr rk (arrOf st) (sa+i):=fun i a b=>by
  have:=Z8 (hk2 i a b)
  rw [hK0];omega
 have memX:∀ p∈((arrOf st).extract (sa+k) (sa+na)).toList,∃ j,sa+k<=j/\j < sa+na/\(arrOf st)[j]?=some p:=fun p hp=>by
  rw [iG _ (by omega)] at hp
  obtain ⟨j,a,b,c⟩:=lg hp
  exact ⟨j,a,by omega,c⟩
 have memY:∀ p∈((arrOf st).extract (sa+na) (sa+na+n')).toList,∃ j,sa+na<=j/\j < sa+na+n'/\(arrOf st)[j]?=some p:=fun p hp=>by
  rw [iG _ (by omega)] at hp
  obtain ⟨j,a,b,c⟩:=lg hp
  exact ⟨j,a,by omega,c⟩
 have fin:∀ (m:Array Keyed) (st2:SortSt),Sm (setPending st (((pendingOf st).setIfInBounds i (sa,na+nb,pw)).eraseIdxIfInBounds (i+1))) st2->Res rk ((arrOf st).extract (sa+k) (sa+na)) ((arrOf st).extract (sa+na) (sa+na+n')) m->
   wpS M A E s (do
    modify fun s=>setArr s (List.foldl (fun a (x:Keyed×Nat)=>a.setIfInBounds (sa+k+x.snd) x.fst) (arrOf s) m.toList.zipIdx)
    let __do_lift ← get
    pure (failedOf __do_lift).isNone) Q st2:=fun m st2 S R=>by
  obtain ⟨q1,q2,q3⟩:=Ef hsz' g1 g2 (by omega) hn' n2 hA hX hB2 R
  refine wpS_bind (Aa8 (wpS_bind (wpS_get (wpS_pure ?_))))
  have ea:arrOf st2=arrOf st:=S.arr
  have ef:failedOf st2=none:=S.failed.trans hB.failed
  show Q (failedOf st2).isNone _
  rw [ef]
  refine h _ ⟨?_,S.kind.trans hB.kind,ef⟩ S.pend ?_ ?_
  ·show (List.foldl _ (arrOf st2) _).Perm a₀
   rw [ea];exact q1.trans hB.perm
  ·show Seg rk (List.foldl _ (arrOf st2) _) _ _
   rw [ea];exact q2
  ·intro k' hk'
   show Kr rk (List.foldl _ (arrOf st2) _) _=_
   rw [ea];exact q3 k' hk'
 have szX:((arrOf st).extract (sa+k) (sa+na)).size=na - k:=by rw [Array.size_extract];omega
 have szY:((arrOf st).extract (sa+na) (sa+na+n')).size=n':=by rw [Array.size_extract];omega
 have haX:∀ p∈((arrOf st).extract (sa+k) (sa+na)).toList,p∈a₀.toList:=fun p hp=>by
  obtain ⟨j,_,_,e⟩:=memX p hp
  exact hmem p (by rw [← (Zk.mp e).2];simp)
 have haY:∀ p∈((arrOf st).extract (sa+na) (sa+na+n')).toList,p∈a₀.toList:=fun p hp=>by
  obtain ⟨j,_,_,e⟩:=memY p hp
  exact hmem p (by rw [← (Zk.mp e).2];simp)
 have SX:oh rk ((arrOf st).extract (sa+k) (sa+na)).toList:=by
  rw [iG _ (by omega)]
  exact uM fun i j a b c=>g1 i j (by omega) b c
 have SY:oh rk ((arrOf st).extract (sa+na) (sa+na+n')).toList:=by
  rw [iG _ (by omega)]
  exact uM fun i j a b c=>g2 i j (by omega) b (by omega)
 have hf:∀ p,((arrOf st).extract (sa+na) (sa+na+n'))[0]?=some p->∀ q∈((arrOf st).extract (sa+k) (sa+na)).toList,rk p<=rk q:=fun p ep q hq=>by
  rw [Array.getElem?_extract,if_pos (by omega),Nat.add_zero] at ep
  obtain ⟨j,a,b,c⟩:=memX q hq
  have:=hX (j - sa) (by omega) (by omega)
  rw [show sa+(j - sa)=j by omega,cQ c,cQ ep] at this
  omega
 have hl:∀ p,((arrOf st).extract (sa+k) (sa+na))[((arrOf st).extract (sa+k) (sa+na)).size - 1]?=some p->∀ q∈((arrOf st).extract (sa+na) (sa+na+n')).toList,rk q<=rk p:=fun p ep q hq=>by
  rw [szX,Array.getElem?_extract,if_pos (by omega),show sa+k+(na - k - 1)=sa+k+(na - k) - 1 by omega,ep1] at ep
  have ep:p1=p:=Zn ep
  obtain ⟨j,a,b,c⟩:=memY q hq
  have:=Zq (hn1 (j - (sa+na)) (by omega))
  rw [show sa+na+(j - (sa+na))=j by omega,cQ c] at this
  rw [← ep];omega
 refine aN (fun _=>?_) (fun _=>?_)
 ·exact wpS_bind (yL (a:=(arrOf st).extract (sa+k) (sa+na)) (b:=(arrOf st).extract (sa+na) (sa+na+n')) L haX haY SX SY (by omega) (by omega) hf hl hB1.kind fun r st2 S R=>fin r st2 S R)
 ·exact wpS_bind (yN (a:=(arrOf st).extract (sa+k) (sa+na)) (b:=(arrOf st).extract (sa+na) (sa+na+n')) L haX haY SX SY (by omega) (by omega) hf hl hB1.kind fun r st2 S R=>fin r st2 S R)
def Runs (rk:Keyed->Int) (xs:Array Keyed):List (Nat×Nat×Nat)->Nat->Nat->Prop
 | [],s,e=>s=e
 | (st,n,_) :: l,s,e=>st=s/\1<=n/\Seg rk xs s (s+n)/\Runs rk xs l (s+n) e
theorem Runs.le {xs:Array Keyed}:∀ {l:List (Nat×Nat×Nat)} {s e:Nat},Runs rk xs l s e->s+l.length<=e
 | [],s,e,h=>Nat.le_of_eq h
 | (st,n,p) :: l,s,e,⟨_,h1,_,h2⟩=>by
  have:=Runs.le h2
  show s+(l.length+1)<=e
  omega
theorem Runs.app {xs:Array Keyed}:∀ {l:List (Nat×Nat×Nat)} {m:List (Nat×Nat×Nat)} {s e:Nat},Runs rk xs (l ++ m) s e↔∃ k,Runs rk xs l s k/\Runs rk xs m k e
 | [],m,s,e=>⟨fun h=>⟨s,rfl,h⟩,fun ⟨k,h1,h2⟩=>by
   have h1:s=k:=h1
   subst h1;exact h2⟩
 | (st,n,p) :: l,m,s,e=>⟨fun ⟨h1,h2,h3,h4⟩=>by
   obtain ⟨k,h5,h6⟩:=Runs.app.mp h4
   exact ⟨k,⟨h1,h2,h3,h5⟩,h6⟩,fun ⟨k,⟨h1,h2,h3,h4⟩,h5⟩=>⟨h1,h2,h3,Runs.app.mpr ⟨k,h4,h5⟩⟩⟩
theorem Runs.congr {xs ys:Array Keyed}:∀ {l:List (Nat×Nat×Nat)} {s e:Nat},(∀ k,s<=k->k < e->Kr rk ys k=Kr rk xs k)->Runs rk xs l s e->Runs rk ys l s e
 | [],s,e,_,h=>h
 | (st,n,p) :: l,s,e,hk,⟨h1,h2,h3,h4⟩=>by
  have hle:=Runs.le h4
  refine ⟨h1,h2,fun i j a b c=>?_,Runs.congr (fun k a b=>hk k (by omega) b) h4⟩
  rw [hk i (by omega) (by omega),hk j (by omega) (by omega)]
  exact h3 i j a b c
theorem R6 {α:Type} {l:List α} {i:Nat} (h:i+1 < l.length):∃ P a b D,l=P ++ a :: b :: D/\P.length=i:=by
 refine ⟨l.take i,l[i],l[i+1],l.drop (i+2),?_,by rw [Zb];omega⟩
 conv=>lhs;rw [← Abv i l]
 rw [ZQ (by omega),ZQ h]
theorem pR {st:SortSt} {i lo:Nat} {Q:Bool->SortSt->Prop} (L:qH M A E s kd rk a₀) (hB:SB a₀ kd st) (hR:Runs rk (arrOf st) (pendingOf st).toList 0 lo) (hi:i+1 < (pendingOf st).size) (hlo:lo<=a₀.size)
  (h:∀ st',SB a₀ kd st'->Runs rk (arrOf st') (pendingOf st').toList 0 lo->(pendingOf st').size+1=(pendingOf st).size->(∀ k,lo<=k->Kr rk (arrOf st') k=Kr rk (arrOf st) k)->Q true st'):wpS M A E s (mergeAt' i) Q st:=by
 obtain ⟨P,⟨sa,na,pw⟩,⟨sb,nb,pw2⟩,D,e,hP⟩:=R6 (l:=(pendingOf st).toList) (i:=i) (by simpa using hi)
 have hR0:=hR
 rw [e] at hR
 obtain ⟨k,r1,h1,n1,g1,h2,n2,g2,r2⟩:=Runs.app.mp hR
 subst h1 h2
 have le1:=r1.le
 have le2:=r2.le
 have e1:(pendingOf st)[i]?=some (sa,na,pw):=by rw [← Aad,e,Zf (by omega),hP,Nat.sub_self];rfl
 have e2:(pendingOf st)[i+1]?=some (sa+na,nb,pw2):=by rw [← Aad,e,Zf (by omega),hP,show i+1 - i=1 by omega];rfl
 refine yO L hB e1 e2 n1 n2 (by omega) g1 g2 fun st' hB' hp hS hF=>?_
 have tl:(pendingOf st').toList=P ++ (sa,na+nb,pw) :: D:=by
  rw [hp,Array.toList_eraseIdxIfInBounds,Array.toList_setIfInBounds,e,List.set_append_right _ _ (by omega),hP,Nat.sub_self,List.set_cons_zero,List.eraseIdx_append_of_length_le (by omega),hP,show i+1 - i=1 by omega]
  rfl
 refine h st' hB' ?_ ?_ fun k hk=>hF k (.inr (by omega))
 ·rw [tl]
  refine Runs.app.mpr ⟨sa,Runs.congr (fun k a b=>hF k (.inl b)) r1,rfl,by omega,by rw [← Nat.add_assoc];exact hS,?_⟩
  rw [← Nat.add_assoc]
  exact Runs.congr (fun k a b=>hF k (.inr a)) r2
 ·have l1:=congrArg List.length tl
  have l2:=congrArg List.length e
  simp at l1 l2
  omega
theorem Runs.mod {xs:Array Keyed} {f:Nat×Nat×Nat->Nat×Nat×Nat} (hf:∀ q,(f q).1=q.1/\(f q).2.1=q.2.1):∀ {l:List (Nat×Nat×Nat)} {i s e:Nat},Runs rk xs l s e->Runs rk xs (l.modify i f) s e
 | [],i,s,e,h=>by rw [List.modify_nil];exact h
 | (st,n,p) :: l,0,s,e,⟨h1,h2,h3,h4⟩=>by
  rw [List.modify_zero_cons]
  obtain ⟨a,b⟩:=hf (st,n,p)
  generalize f (st,n,p)=q at a b
  obtain ⟨x,y,z⟩:=q
  dsimp only at a b
  subst a b
  exact ⟨h1,h2,h3,h4⟩
 | (st,n,p) :: l,i+1,s,e,⟨h1,h2,h3,h4⟩=>by
  rw [List.modify_succ_cons]
  exact ⟨h1,h2,h3,Runs.mod hf h4⟩
theorem Eg {st:SortSt} {Q:Unit->SortSt->Prop} (L:qH M A E s kd rk a₀) (hB:SB a₀ kd st) (hp:pendingOf st= #[]) (h2:2<=a₀.size)
  (h:∀ st',SB a₀ kd st'->Seg rk (arrOf st') 0 a₀.size->Q () st'):wpS M A E s sortRuns' Q st:=by
 rw [sortRuns'_eq]
 refine wpS_bind (wpS_get ?_)
 dsimp only
 generalize minRun' (arrOf st).size (arrOf st).size 0=mr
 rw [hB.size]
 refine wpS_bind (wpS_mono (Z6
  (I:=fun x c st'=>∃ lo,c=(none,lo)/\SB a₀ kd st'/\Runs rk (arrOf st') (pendingOf st').toList 0 lo/\lo<=a₀.size/\x<=lo)
  (Q:=fun c st'=>c=(none,a₀.size)/\SB a₀ kd st'/\Runs rk (arrOf st') (pendingOf st').toList 0 a₀.size) ?step ?fin ⟨0,rfl,hB,by rw [hp];rfl,by omega,by omega⟩) ?post)
 case fin=>
  rintro c st' ⟨lo,rfl,hB',hR,a,b⟩
  obtain rfl:lo=a₀.size:=by omega
  exact ⟨rfl,hB',hR⟩
 case step=>
  rintro x c st' _ hx ⟨lo,rfl,hB',hR,a,b⟩
  dsimp only
  by_cases hge:lo>=a₀.size
  ·rw [if_pos hge]
   obtain rfl:lo=a₀.size:=by omega
   exact wpS_pure ⟨rfl,hB',hR⟩
  rw [if_neg hge]
  refine wpS_bind (Ab (rk:=rk) L (by omega) (by omega) hB' fun m st1 N1 m1 m2 S1=>?_)
  dsimp only
  have R1:Runs rk (arrOf st1) (pendingOf st1).toList 0 lo:=by
   rw [N1.pe]
   exact Runs.congr (fun k _ hk=>N1.fr k hk) hR
  by_cases hmr:m < mr
  ·rw [if_pos hmr]
   refine wpS_bind (wpS_lift (wpAny_rule ⟨rfl,?_⟩))
   refine wpS_bind (Ib L (by omega) (by omega) N1.sb S1 fun st2 N2 S2=>?_)
   rw [if_neg (by decide)]
   have R2:Runs rk (arrOf st2) (pendingOf st2).toList 0 lo:=by
    rw [N2.pe]
    exact Runs.congr (fun k _ hk=>N2.fr k hk) R1
   have B2:=N2.sb
   have N1:1<=min (a₀.size - lo) mr:=by omega
   have LE:lo+min (a₀.size - lo) mr<=a₀.size:=by omega
   refine wpS_bind (wpS_get ?_)
   rcases hbk:(pendingOf st2).back? with _ | ⟨s1,n1,p1⟩
   ·dsimp only
    refine wpS_bind (Aa8 (wpS_pure ⟨_,rfl,⟨B2.perm,B2.kind,B2.failed⟩,?_,LE,by omega⟩))
    show Runs rk (arrOf st2) ((pendingOf st2).push _).toList 0 _
    rw [Abz]
    exact Runs.app.mpr ⟨lo,R2,rfl,N1,S2,rfl⟩
   ·dsimp only
    refine wpS_bind (wpS_mono (Z6 (I:=fun _ c st3=>c=(none,())/\SB a₀ kd st3/\Runs rk (arrOf st3) (pendingOf st3).toList 0 lo/\Seg rk (arrOf st3) lo (lo+min (a₀.size - lo) mr))
     (Q:=fun c st3=>c=(none,())/\SB a₀ kd st3/\Runs rk (arrOf st3) (pendingOf st3).toList 0 lo/\Seg rk (arrOf st3) lo (lo+min (a₀.size - lo) mr)) ?_ (fun _ _ hh=>hh) ⟨rfl,B2,R2,S2⟩) ?_)
    ·rintro y c st3 _ _ ⟨rfl,B3,R3,S3⟩
     refine wpS_bind (wpS_get ?_)
     by_cases hs1:(pendingOf st3).size > 1
     ·rw [if_pos hs1,Z9 (pendingOf st3) ((pendingOf st3).size - 2) (by omega)]
      generalize (pendingOf st3)[(pendingOf st3).size - 2]=pq
      obtain ⟨q1,q2,q3⟩:=pq
      dsimp only
      refine aN (fun _=>wpS_pure ⟨rfl,B3,R3,S3⟩) (fun _=>?_)
      refine wpS_bind (pR L B3 R3 (by omega) a fun st4 B4 R4 _ F4=>?_)
      rw [if_neg (by decide)]
      refine wpS_pure ⟨rfl,B4,R4,fun i j h5 h6 h7=>?_⟩
      rw [F4 i h5,F4 j (by omega)]
      exact S3 i j h5 h6 h7
     ·rw [if_neg hs1]
      exact wpS_pure ⟨rfl,B3,R3,S3⟩
    ·rintro c st3 ⟨rfl,B3,R3,S3⟩
     dsimp only
     refine wpS_bind (Aa8 (wpS_bind (Aa8 (wpS_pure ⟨_,rfl,⟨B3.perm,B3.kind,B3.failed⟩,?_,LE,by omega⟩))))
     show Runs rk (arrOf st3) (((pendingOf st3).modify _ _).push _).toList 0 _
     rw [Abz,Array.toList_modify]
     refine Runs.app.mpr ⟨lo,?_,rfl,N1,S3,rfl⟩
     refine Runs.mod ?_ R3;exact fun q=>⟨rfl,rfl⟩
  ·rw [if_neg hmr]
   obtain ⟨st2,rfl⟩:∃ st2,st1=st2:=⟨_,rfl⟩
   have R2:=R1
   have S2:=S1
   have B2:=N1.sb
   have N1:=m1
   have LE:lo+m<=a₀.size:=by omega
   refine wpS_bind (wpS_get ?_)
   rcases hbk:(pendingOf st1).back? with _ | ⟨s1,n1,p1⟩
   ·dsimp only
    refine wpS_bind (Aa8 (wpS_pure ⟨_,rfl,⟨B2.perm,B2.kind,B2.failed⟩,?_,LE,by omega⟩))
    show Runs rk (arrOf st1) ((pendingOf st1).push _).toList 0 _
    rw [Abz]
    exact Runs.app.mpr ⟨lo,R2,rfl,N1,S2,rfl⟩
   ·dsimp only
    refine wpS_bind (wpS_mono (Z6 (I:=fun _ c st3=>c=(none,())/\SB a₀ kd st3/\Runs rk (arrOf st3) (pendingOf st3).toList 0 lo/\Seg rk (arrOf st3) lo (lo+m))
     (Q:=fun c st3=>c=(none,())/\SB a₀ kd st3/\Runs rk (arrOf st3) (pendingOf st3).toList 0 lo/\Seg rk (arrOf st3) lo (lo+m)) ?_ (fun _ _ hh=>hh) ⟨rfl,B2,R2,S2⟩) ?_)
    ·rintro y c st3 _ _ ⟨rfl,B3,R3,S3⟩
     refine wpS_bind (wpS_get ?_)
     by_cases hs1:(pendingOf st3).size > 1
     ·rw [if_pos hs1,Z9 (pendingOf st3) ((pendingOf st3).size - 2) (by omega)]
      generalize (pendingOf st3)[(pendingOf st3).size - 2]=pq
      obtain ⟨q1,q2,q3⟩:=pq
      dsimp only
      refine aN (fun _=>wpS_pure ⟨rfl,B3,R3,S3⟩) (fun _=>?_)
      refine wpS_bind (pR L B3 R3 (by omega) a fun st4 B4 R4 _ F4=>?_)
      rw [if_neg (by decide)]
      refine wpS_pure ⟨rfl,B4,R4,fun i j h5 h6 h7=>?_⟩
      rw [F4 i h5,F4 j (by omega)]
      exact S3 i j h5 h6 h7
     ·rw [if_neg hs1]
      exact wpS_pure ⟨rfl,B3,R3,S3⟩
    ·rintro c st3 ⟨rfl,B3,R3,S3⟩
     dsimp only
     refine wpS_bind (Aa8 (wpS_bind (Aa8 (wpS_pure ⟨_,rfl,⟨B3.perm,B3.kind,B3.failed⟩,?_,LE,by omega⟩))))
     show Runs rk (arrOf st3) (((pendingOf st3).modify _ _).push _).toList 0 _
     rw [Abz,Array.toList_modify]
     refine Runs.app.mpr ⟨lo,?_,rfl,N1,S3,rfl⟩
     refine Runs.mod ?_ R3;exact fun q=>⟨rfl,rfl⟩
 case post=>
  rintro c st' ⟨rfl,hB',hR⟩
  dsimp only
  have hle:=hR.le
  refine wpS_bind (wpS_mono (Z6 (I:=fun x c st3=>c=(none,())/\SB a₀ kd st3/\Runs rk (arrOf st3) (pendingOf st3).toList 0 a₀.size/\(pendingOf st3).size+x<=a₀.size)
   (Q:=fun c st3=>c=(none,())/\SB a₀ kd st3/\Runs rk (arrOf st3) (pendingOf st3).toList 0 a₀.size/\(pendingOf st3).size<=1) ?_ ?_ ⟨rfl,hB',hR,by simp at hle;omega⟩) ?_)
  ·rintro y c st3 _ hy ⟨rfl,B3,R3,P3⟩
   refine wpS_bind (wpS_get ?_)
   by_cases hs1:(pendingOf st3).size<=1
   ·rw [if_pos hs1]
    exact wpS_pure ⟨rfl,B3,R3,hs1⟩
   ·rw [if_neg hs1]
    refine wpS_bind (pR L B3 R3 ?_ (YW _) fun st4 B4 R4 P4 _=>?_)
    ·have gen:∀ (c:Prop) [Decidable c],(if c then (pendingOf st3).size - 2 - 1 else (pendingOf st3).size - 2)+1 < (pendingOf st3).size:=fun c _=>by split <;> omega
     exact gen _
    ·rw [if_neg (by decide)]
     exact wpS_pure ⟨rfl,B4,R4,by omega⟩
  ·rintro c st3 ⟨rfl,B3,R3,P3⟩
   exact ⟨rfl,B3,R3,by omega⟩
  ·rintro c st3 ⟨rfl,B3,R3,P3⟩
   refine wpS_pure (h st3 B3 ?_)
   have hl:(pendingOf st3).toList.length<=1:=by simpa using P3
   generalize (pendingOf st3).toList=l at hl R3
   match l,hl,R3 with
   | [],_,R3=>
    have:0=a₀.size:=R3
    omega
   | [(x,n,p)],_,⟨h5,h6,h7,h8⟩=>
    have h8:0+n=a₀.size:=h8
    rw [h8] at h7
    exact h7
end
end L2
namespace L2
open PySem PySem.W PySem.Spec PyProof.Rows
section
variable {prog:Program} {w:World} {A:Around} {E:Value->Shared->Prop} {s:Shared}
theorem je {vs:List Value} {p:Keyed} (h:p∈(vs.toArray.zip vs.toArray).toList):p.1=p.2/\p.1∈vs:=by
 rw [Array.toList_zip] at h
 exact mem_zip_self h
theorem Ik {a:Addr} {vs:List Value} {n:Nat} {κ:SortKind} {rv:Value->Int} {P:PySem.Fin->Shared->Prop}
  (ho:s.heap.get? a=some (seqObj "list" vs.toArray n)) (few:vs.length<=100000)
  (hK:2<=vs.length->∀ (s':Shared) (R:SortKind->Shared->Prop),Ws a s.heap s'.heap->R κ s'->wpAny (model prog w) A (keyKind' vs.toArray) R E s')
  (hC:∀ (s':Shared) (x y:Value) (R:Bool->Shared->Prop) (E':Value->Shared->Prop),Ws a s.heap s'.heap->x∈vs->y∈vs->R (decide (rv x < rv y)) s'->wpAny (model prog w) A (keyLt' κ x y) R E' s')
  (h:∀ out:List Value,out.Perm vs->(out.Pairwise fun x y=>rv x<=rv y)->P (.done (.ret .none)) {s with heap:=sortedHeap s.heap a vs out.toArray}):
  wpAny (model prog w) A (Builtin.«list.sort» ⟨[.ref a],[]⟩) P E s:=by
 rw [list_sort_plain]
 refine YK (listItems_at ho rfl (YK (listUpdate_at ho rfl ?_)))
 obtain ⟨k,hk⟩:∃ k,(s.heap.update a (Obj.mapSeq fun _=>#[])).get? a=some (seqObj "list" #[] k):=⟨_,get?_update_seq ho (fun _=>#[])⟩
 refine YK (seqEpoch_at hk rfl (YK (wpAny_newTuple (YK (wpAny_newList (Zz ?_))))))
 have hk2:=YT (seqObj "list" #[] 0) (YT (seqObj "tuple" vs.toArray 0) hk)
 have bt:=DQ (h:=s.heap) (a:=a) (f:=Obj.mapSeq fun _=>#[]) (x:=seqObj "tuple" vs.toArray 0) (y:=seqObj "list" #[] 0)
 show wpAny (model prog w) A _ P E {s with heap:=(((s.heap.update a (Obj.mapSeq fun _=>#[])).push (seqObj "tuple" vs.toArray 0)).push (seqObj "list" #[] 0))}
 generalize hS:({s with heap:=(((s.heap.update a (Obj.mapSeq fun _=>#[])).push (seqObj "tuple" vs.toArray 0)).push (seqObj "list" #[] 0))}:Shared)=s2
 dsimp only
 have sz:vs.toArray.size=vs.length:=by simp
 have hs:200000<=sizeLine:=by decide
 have hk3:s2.heap.get? a=some (seqObj "list" #[] k):=by rw [← hS];exact hk2
 have bt2:Ws a s.heap s2.heap:=by rw [← hS];exact bt
 have fin:∀ out:List Value,out.Perm vs->(out.Pairwise fun x y=>rv x<=rv y)->P (.done (.ret .none)) {s2 with heap:=s2.heap.update a (Obj.mapSeq fun _=>out.toArray)}:=fun out h1 h2=>by
  rw [← hS];exact h out h1 h2
 by_cases h2:vs.toArray.size < 2
 ·rw [if_pos h2,if_pos h2]
  refine YK (YM ?_)
  rw [StateT.run_pure]
  refine YK (YM ?_)
  dsimp only
  have ez:(arrOf (SortSt.mk' general' (vs.toArray.zip vs.toArray) #[] 7 none)).map (·.2)=vs.toArray:=BW vs
  rw [ez]
  refine YK (seqEpoch_at hk3 rfl (YK (listUpdate_at hk3 rfl ?_ (hsz2:=by rw [sz];omega))))
  simp only [bne_self_eq_false,ZR,if_false]
  refine YM (fin vs (List.Perm.refl _) ?_)
  match vs,h2 with
  | [],_=>exact List.Pairwise.nil
  | [_],_=>exact Abe _ _
  | _ :: _ :: _,h2=>simp at h2;omega
 ·rw [if_neg h2,if_neg h2]
  refine YK (hK (by omega) _ _ bt2 ?_)
  have L:qH (model prog w) A E s2 κ (fun p=>rv p.1) (vs.toArray.zip vs.toArray):=fun p q st R hp hq hkd hr=>by
   rw [lt'_eq]
   refine wpS_bind (wpS_get ?_)
   rw [hkd]
   refine wpS_bind (wpS_lift (Aa7 (hC _ _ _ _ _ bt2 (je hp).2 (je hq).2 ⟨rfl,?_⟩)))
   exact wpS_pure hr
  refine YK (ZP (Eg (st:=SortSt.mk' κ (vs.toArray.zip vs.toArray) #[] 7 none) (Q:=fun _ st'=>SB (vs.toArray.zip vs.toArray) κ st'/\Seg (fun p=>rv p.1) (arrOf st') 0 (vs.toArray.zip vs.toArray).size)
   L ⟨Array.Perm.refl _,rfl,rfl⟩ rfl (by rw [Array.size_zip];omega) fun st' a1 a2=>⟨a1,a2⟩) ?_ fun _ _ e=>e)
  rintro ⟨⟨⟩,st'⟩ s' ⟨rfl,hB,hg⟩
  dsimp only
  dsimp only at hB hg
  have hp:((arrOf st').map (·.2)).toList.Perm vs:=by
   rw [Array.toList_map]
   refine ((Array.perm_iff_toList_perm.mp hB.perm).map _).trans (List.Perm.of_eq ?_)
   rw [← Array.toList_map,BW]
  have hz:(vs.toArray.zip vs.toArray).size=vs.length:=by rw [Array.size_zip];omega
  have hpw:((arrOf st').map (·.2)).toList.Pairwise fun x y=>rv x<=rv y:=by
   rw [Array.toList_map]
   have:=uM hg
   rw [Nat.sub_zero,AaT,ZV (by rw [Aai,hB.size];exact YW _)] at this
   rw [List.pairwise_map]
   refine this.imp_of_mem fun {p q} hp hq hpq=>?_
   rw [← (je (hB.mem hp)).1,← (je (hB.mem hq)).1]
   exact hpq
  refine YK (seqEpoch_at hk3 rfl (YK (listUpdate_at hk3 rfl ?_ (hsz2:=by
   have:=hp.length_eq
   rw [Aai] at this
   show ((arrOf st').map (·.2)).size<=_
   omega))))
  rw [hB.failed]
  simp only [bne_self_eq_false,ZR,if_false]
  refine YM ?_
  have:=fin _ hp hpw
  rwa [Array.toArray_toList] at this
end
theorem uN {vs:List Value} {ns:List Int} (h:IntsAre vs ns) {v:Value} (hv:v∈vs):∃ n t,v= .int n t:=h.all v hv
end L2
namespace L2
open PySem PySem.Spec PyProof.Rows
end L2
namespace L2
open PySem PySem.W PySem.Spec PyProof.Rows
section
variable {prog:Program} {w:World} {A:Around} {E:Value->Shared->Prop} {s:Shared}
theorem yP {l:Addr} {vs:List Value} {Q:List Value->Shared->Prop} (hl:IsTup s.heap l vs.toArray) (hsz:vs.length<=sizeLine)
  (h:Q vs {s with heap:=(s.heap.push (seqObj "list" #[] 0)).update s.heap.objs.size (Obj.mapSeq (· ++ vs.toArray))}):
  wpAny (model prog w) A (collect (.ref l)) Q E s:=by
 obtain ⟨o,ho,hc,n,hd⟩:=id hl
 unfold collect
 refine YK (wpAny_runValue (codeAny_builtin entry_proto_collect' ?_))
 show wpAny _ _ (do again (.builtin "list.__iadd__" ⟨[← newList [],.ref l],[]⟩)) _ _ s
 refine YK (wpAny_newList (YM ⟨Code.quiet_builtin _ (by trivial),codeAny_builtin entry_list_iadd' ?_⟩))
 show wpAny _ _ (Builtin.List.listExtendWith (.ref s.heap.objs.size) (.ref l) (.ref s.heap.objs.size)) _ _ {s with heap:=s.heap.push (seqObj "list" #[] 0)}
 unfold Builtin.List.listExtendWith
 have ho':(s.heap.push (seqObj "list" #[] 0)).get? l=some o:=YT _ ho
 refine YK (wpAny_typeOf (T:="tuple") ⟨o,ho',hc⟩ ?_)
 have ht:(Value.type "tuple" == Value.type "tuple")=true:=by rfl
 rw [if_pos (by rw [ht];simp)]
 refine YK (listItems_at ho' hd ?_)
 refine YK (listItems_at (xs:=#[]) (n:=0) (Y6 _ rfl) rfl ?_)
 rw [if_neg (by simp)]
 refine YK (listUpdate_at (xs:=#[]) (n:=0) (Y6 _ rfl) rfl ?_ (Aaj _) (by show (#[] ++ vs.toArray).size<=sizeLine+1;simp only [Array.size_append,Y9,Z1];omega))
 refine YM ?_
 show wpAny (model prog w) A (do
   let o ← load s.heap.objs.size
   match o.data with
   | .seq xs _=>pure xs.toList
   | _=>unsupported "internal:collect") Q E {s with heap:=(s.heap.push (seqObj "list" #[] 0)).update s.heap.objs.size (Obj.mapSeq (· ++ vs.toArray))}
 refine YK (wpAny_load (get?_update_seq (Y6 _ rfl) _) ?_)
 show wpAny _ _ (pure ((#[]:Array Value) ++ vs.toArray).toList) Q E _
 rw [show ((#[]:Array Value) ++ vs.toArray).toList=vs by simp]
 exact YM h
theorem sy {l:Addr} {vs:List Value} {κ:SortKind} {rv:Value->Int} {Q:Value->Shared->Prop} (hl:∀ (A':Around) (Q':List Value->Shared->Prop),Q' vs {s with heap:=(s.heap.push (seqObj "list" #[] 0)).update s.heap.objs.size (Obj.mapSeq (· ++ vs.toArray))}->wpAny (model prog w) A' (collect (.ref l)) Q' E s) (few:vs.length<=100000)
  (hK:2<=vs.length->∀ (A':Around) (s':Shared) (R:SortKind->Shared->Prop),(∀ b o,s.heap.get? b=some o->s'.heap.get? b=some o)->R κ s'->wpAny (model prog w) A' (keyKind' vs.toArray) R E s')
  (hC:∀ (A':Around) (s':Shared) (x y:Value) (R:Bool->Shared->Prop) (E':Value->Shared->Prop),(∀ b o,s.heap.get? b=some o->s'.heap.get? b=some o)->x∈vs->y∈vs->R (decide (rv x < rv y)) s'->wpAny (model prog w) A' (keyLt' κ x y) R E' s')
  (h:∀ out:List Value,out.Perm vs->(out.Pairwise fun x y=>rv x<=rv y)->Q (.ref (s.heap.objs.size+1)) {s with heap:=sortedAll s.heap vs out.toArray}):
  wpAny (model prog w) A (call (.builtin "sorted") [.ref l]) Q E s:=by
 refine Calls.call_function_entry kind_sorted plain_sorted entry_sorted (args_sorted1 _) ?_
 unfold Builtin.«sorted»
 have hs:200000<=sizeLine:=by decide
 refine YK (m:=checkCount "sorted" 1 1 _) (YM (YK (hl _ _ ?_)))
 refine YK (wpAny_newList ?_)
 have z1:((s.heap.push (seqObj "list" #[] 0)).update s.heap.objs.size (Obj.mapSeq (· ++ vs.toArray))).objs.size=s.heap.objs.size+1:=by rw [Heap.size_update,size_push']
 have old:∀ b o,s.heap.get? b=some o->(((s.heap.push (seqObj "list" #[] 0)).update s.heap.objs.size (Obj.mapSeq (· ++ vs.toArray))).push (seqObj "list" vs.toArray 0)).get? b=some o:=fun b o e=>by
  have lb:=Y7 e
  refine YT _ ?_
  rw [Heap.get?_update_ne _ _ _ _ (ZG lb)]
  exact YT _ e
 have hoL:(((s.heap.push (seqObj "list" #[] 0)).update s.heap.objs.size (Obj.mapSeq (· ++ vs.toArray))).push (seqObj "list" vs.toArray 0)).get? (s.heap.objs.size+1)=some (seqObj "list" vs.toArray 0):=
  z1 ▸ Y6 _ rfl
 show wpAny _ _ _ _ _ {s with heap:=(((s.heap.push (seqObj "list" #[] 0)).update s.heap.objs.size (Obj.mapSeq (· ++ vs.toArray))).push (seqObj "list" vs.toArray 0))}
 rw [z1]
 have ok:∀ {s':Shared},Ws (s.heap.objs.size+1) (((s.heap.push (seqObj "list" #[] 0)).update s.heap.objs.size (Obj.mapSeq (· ++ vs.toArray))).push (seqObj "list" vs.toArray 0)) s'.heap->∀ b o,s.heap.get? b=some o->s'.heap.get? b=some o:=fun bt b o e=>bt b o (ZG (Nat.lt_succ_of_lt (Y7 e))) (old b o e)
 refine YK (Zz (Aag slot_list_sort ⟨_,hoL,rfl⟩ entry_list_sort (Ik (κ:=κ) (rv:=rv) hoL few (fun h2 s' R bt r=>hK h2 _ s' R (ok bt) r) (fun s' x y R E' bt hx hy r=>hC _ s' x y R E' (ok bt) hx hy r) fun out h1 h2=>⟨_,rfl,?_⟩) (args_list_sort _)))
 exact YM ⟨_,rfl,h out h1 h2⟩
end
section
variable {X:Cx}
def xM:List V->Hp->VK->Prop:=fun xs H Q=>(∃ (p:Addr) (ns:List Int),xs=[.ref p]/\(H p=some (.lst (ns.map V.int))\/H p=some (.tup (ns.map V.int)))/\ns.length<=100000/\
  ∀ (q:Addr) (ms:List Int),H q=none->ms.Perm ns->ms.Pairwise (· <= ·)->Q (.ref q) (upd H q (.lst (ms.map V.int))))\/
 ∃ (p:Addr) (as:List Addr) (ct:Addr->List Int),xs=[.ref p]/\H p=some (.lst (as.map V.ref))/\as.length<=100000/\(∀ a∈as,H a=some (.tup ((ct a).map V.int))/\ct a≠[])/\
  ∀ (q:Addr) (bs:List Addr),H q=none->bs.Perm as->bs.Pairwise (fun a b=>HT.lexLt (ct b) (ct a)=false)->Q (.ref q) (upd H q (.lst (bs.map V.ref)))
theorem wF:∀ {as:List Addr} {its:List Value},Vals (as.map V.ref) its->its=as.map Value.ref
 | [],_,h=>by cases h;rfl
 | a :: as,_,h=>by
  cases h with
  | cons h1 h2=>
   cases h1
   rw [wF h2];rfl
theorem wG:∀ (as:List Addr),Vals (as.map V.ref) (as.map Value.ref)
 | []=>.nil
 | a :: as=>.cons rfl (wG as)
theorem Eh {as:List Addr} {out:List Value} (h:out.Perm (as.map Value.ref)):∃ bs:List Addr,out=bs.map Value.ref/\bs.Perm as:=by
 have key:∀ out:List Value,(∀ v∈out,∃ a,v=Value.ref a)->∃ bs:List Addr,out=bs.map Value.ref:=by
  intro out
  induction out with
  | nil=>exact fun _=>⟨[],rfl⟩
  | cons v out ih=>
   intro hv
   obtain ⟨a,rfl⟩:=hv v Zj
   obtain ⟨bs,rfl⟩:=ih fun u hu=>hv u (Zc _ hu)
   exact ⟨a :: bs,rfl⟩
 obtain ⟨bs,rfl⟩:=key out fun v hv=>by
  obtain ⟨a,_,rfl⟩:=Zd.mp (h.mem_iff.mp hv)
  exact ⟨a,rfl⟩
 refine ⟨bs,rfl,?_⟩
 have:=h.map (fun v=>match v with | Value.ref a=>a | _=>0)
 rwa [ZL,ZL,show ((fun v:Value=>match v with | Value.ref a=>a | _=>0) ∘ Value.ref)=id from rfl,List.map_id,List.map_id] at this
def Ei (ts:List (List Int)) (t:List Int):Int:=((ts.countP fun u=>HT.lexLt u t):Nat)
theorem Cd {ts:List (List Int)} {a b:List Int} (ha:a∈ts):decide (Ei ts a < Ei ts b)=HT.lexLt a b:=by
 unfold Ei
 cases h:HT.lexLt a b with
 | true=>
  refine YZ ?_
  have key:∀ l:List (List Int),a∈l->l.countP (fun u=>HT.lexLt u a) < l.countP (fun u=>HT.lexLt u b):=by
   intro l
   induction l with
   | nil=>intro h;cases h
   | cons u l ih=>
    intro hm
    rw [List.countP_cons,List.countP_cons]
    have le:l.countP (fun u=>HT.lexLt u a)<=l.countP (fun u=>HT.lexLt u b):=List.countP_mono_left fun x _ hx=>lU hx h
    by_cases e:u=a
    ·rw [e,Aa,h,if_neg (by decide),if_pos rfl]
     omega
    ·have hm':a∈l:=(Zg.mp hm).resolve_left fun z=>e z.symm
     have:=ih hm'
     by_cases c:HT.lexLt u a=true
     ·rw [if_pos c,if_pos (lU c h)];omega
     ·rw [if_neg c];split <;> omega
  have:=key ts ha
  omega
 | false=>
  refine Y5 ?_
  have le:ts.countP (fun u=>HT.lexLt u b)<=ts.countP (fun u=>HT.lexLt u a):=List.countP_mono_left fun x _ hx=>by
   cases c:HT.lexLt b a with
   | true=>exact lU hx c
   | false=>rw [qG h c];exact hx
  omega
theorem Ad {prog:Program} {w:World} {A:Around} {E:Value->Shared->Prop} {s:Shared} {as:List Addr} {ct:Addr->List Int} {Q:SortKind->Shared->Prop} (h2:2<=as.length) (h:∀ a∈as,∃ its,IsTup s.heap a its.toArray/\IntsAre its (ct a)/\ct a≠[]) (q:Q (tuples' true) s):
  wpAny (model prog w) A (keyKind' (as.map Value.ref).toArray) Q E s:=by
 refine DW (ts:=as.map ct) (by rw [YQ];exact h2) (fun i hi=>?_) q
 rw [YQ] at hi
 obtain ⟨its,it,ia,ne⟩:=h as[i] (Aaa hi)
 have e:(as.map ct).getD i []=ct as[i]:=by rw [Y0,Ze,YL hi];rfl
 rw [e]
 exact ⟨as[i],its,by rw [Ze,YL hi];rfl,it,ia,ne⟩
theorem d7:CallR X (.builtin "sorted") xM:=by
 intro pins s U H xs us Q I r h
 have hs2:200000<=sizeLine:=by decide
 rcases h with ⟨p,ns,rfl,hp,few,q⟩ | ⟨p,as,ct,rfl,hp,few,ht,q⟩
 ·obtain ⟨u,rfl,ru⟩:=vals1 r
  cases ru
  obtain ⟨its,rv,hcol⟩:∃ its:List Value,Vals (ns.map V.int) its/\∀ (A':Around) (E':Value->Shared->Prop) (Q':List Value->Shared->Prop),Q' its {s with heap:=(s.heap.push (seqObj "list" #[] 0)).update s.heap.objs.size (Obj.mapSeq (· ++ its.toArray))}->wpAny (model X.prog X.w) A' (collect (.ref p)) Q' E' s:=by
   rcases hp with hp | hp
   ·obtain ⟨hz,its,n,rv,g⟩:=I.hok p _ hp
    refine ⟨its,rv,fun A' E' Q' hq=>collect_list ⟨_,g,rfl,n,rfl⟩ hq (hsz:=?_)⟩
    rw [← rv.length];exact hz
   ·obtain ⟨hz,its,rv,g⟩:=I.hok p _ hp
    exact ⟨its,rv,fun A' E' Q' hq=>yP g (by rw [← rv.length];exact hz) hq⟩
  have hi:IntsAre its ns:=intsAre_of rv
  have hl:=rv.length
  rw [YQ] at hl
  refine sy (vs:=its) (κ:=oneType') (rv:=numOf) (fun A' Q' hq=>hcol A' _ Q' hq) (by omega) ?_ ?_ fun out hperm hs=>?_
  ·intro h2 A' s' R _ hr
   obtain ⟨v₁,v₂,rest,rfl⟩:∃ v₁ v₂ rest,its=v₁ :: v₂ :: rest:=by
    match its,h2 with
    | v₁ :: v₂ :: rest,_=>exact ⟨v₁,v₂,rest,rfl⟩
   rw [keyKind_ints hi]
   exact YM hr
  ·intro A' s' x y R E' _ hx hy hr
   obtain ⟨a,t,rfl⟩:=uN hi hx
   obtain ⟨b,u,rfl⟩:=uN hi hy
   rw [keyLt'_oneType]
   exact oneLt_int hr
  ·obtain ⟨e,he⟩:=sortedAll_at s.heap its out.toArray
   have ho:IntsAre out (out.map numOf):=intsAre_map out fun v hv=>uN hi (hperm.mem_iff.mp hv)
   have hm:(out.map numOf).Perm ns:=(hperm.map _).trans (List.Perm.of_eq hi.nums)
   have hml:(out.map numOf).length=ns.length:=hm.length_eq
   exact ⟨.ref (s.heap.objs.size+1),_,I.laid (t':=s.toks) (o:=.lst ((out.map numOf).map V.int)) (fun b ob q=>sortedAll_old q) (Nat.le_succ _) ⟨by rw [YQ];omega,out,e,DN ho,by simpa using he⟩,rfl,q _ _ (I.hok.fresh (Nat.le_succ _)) hm (List.pairwise_map.mpr hs)⟩
 ·obtain ⟨u,rfl,ru⟩:=vals1 r
  cases ru
  obtain ⟨hz,its,n,rv,g⟩:=I.hok p _ hp
  obtain rfl:=wF rv
  have tup:∀ a∈as,∃ its,IsTup s.heap a its.toArray/\IntsAre its (ct a)/\ct a≠[]:=fun a ha=>by
   obtain ⟨h1,h2⟩:=ht a ha
   obtain ⟨_,it,rt,tt⟩:=I.hok a _ h1
   exact ⟨it,tt,intsAre_of rt,h2⟩
  have tupK:∀ s':Shared,(∀ b o,s.heap.get? b=some o->s'.heap.get? b=some o)->∀ a∈as,∃ its,IsTup s'.heap a its.toArray/\IntsAre its (ct a)/\ct a≠[]:=fun s' hk a ha=>by
   obtain ⟨its,⟨o,go,rr⟩,h2⟩:=tup a ha
   exact ⟨its,⟨o,hk _ _ go,rr⟩,h2⟩
  refine sy (vs:=as.map Value.ref) (κ:=tuples' true) (rv:=fun v=>match v with | .ref a=>Ei (as.map ct) (ct a) | _=>0) (fun A' Q' hq=>collect_list ⟨_,g,rfl,n,rfl⟩ hq (hsz:=by rw [YQ];omega)) (by rw [YQ];omega) ?_ ?_ fun out hperm hs=>?_
  ·intro h2 A' s' R hk hr
   exact Ad (by rwa [YQ] at h2) (tupK s' hk) hr
  ·intro A' s' x y R E' hk hx hy hr
   obtain ⟨a,ha,rfl⟩:=Zd.mp hx
   obtain ⟨b,hb,rfl⟩:=Zd.mp hy
   obtain ⟨i1,t1,n1,_⟩:=tupK s' hk a ha
   obtain ⟨i2,t2,n2,_⟩:=tupK s' hk b hb
   refine Wu t1 t2 n1 n2 ?_
   rw [← Cd (ts:=as.map ct) (Zd.mpr ⟨a,ha,rfl⟩)]
   exact hr
  ·obtain ⟨e,he⟩:=sortedAll_at s.heap (as.map Value.ref) out.toArray
   obtain ⟨bs,rfl,hb⟩:=Eh hperm
   have hbl:=hb.length_eq
   refine ⟨.ref (s.heap.objs.size+1),_,I.laid (t':=s.toks) (o:=.lst (bs.map V.ref)) (fun b ob q=>sortedAll_old q) (Nat.le_succ _) ⟨by rw [YQ];omega,_,e,wG bs,by simpa using he⟩,rfl,q _ bs (I.hok.fresh (Nat.le_succ _)) hb ?_⟩
   rw [List.pairwise_map] at hs
   refine hs.imp_of_mem fun {a b} ha hb' hab=>?_
   have:=Cd (ts:=as.map ct) (a:=ct b) (b:=ct a) (Zd.mpr ⟨b,hb.mem_iff.mp hb',rfl⟩)
   rw [← this]
   exact Y5 (by have:Ei (as.map ct) (ct a)<=Ei (as.map ct) (ct b):=hab;omega)
end
section
variable {H:Hp} {Q:VK}
theorem yQ {p:Addr} {as:List Addr} (ct:Addr->List Int) (hp:H p=some (.lst (as.map V.ref))) (hn:as.length<=100000) (ht:∀ a∈as,H a=some (.tup ((ct a).map V.int))/\ct a≠[]) (h:∀ (q:Addr) (bs:List Addr) (H':Hp),H q=none->Same H H'->H' q=some (.lst (bs.map V.ref))->bs.Perm as->bs.Pairwise (fun a b=>HT.lexLt (ct b) (ct a)=false)->Q (.ref q) H'):xM [.ref p] H Q:=
 .inr ⟨p,as,ct,rfl,hp,hn,ht,fun q bs nq a b=>h q bs _ nq ((Same.refl H).upd nq) ao a b⟩
end
end L2
namespace L2
open PySem PySem.Spec PyProof.Rows
end L2
namespace HT
open PySem PySem.Spec PyProof.Rows
section
variable {prog:Program} {w:World} {A:Around} {E:Value->Shared->Prop} {s:Shared}
theorem getItem_tuple_whole {t sl:Addr} {items:Array Value} {vl vu:Value} {lo hi:Option Int} {Q:Value->Shared->Prop} (ht:IsTup s.heap t items) (hs:s.heap.IsSliceOf sl vl vu .none) (pl:IsPart vl lo) (pu:IsPart vu hi)
  (hw:sIx items.size 0 lo=0/\sIx items.size items.size hi=items.size) (h:Q (.ref t) s):wpAny (model prog w) A (getItem (.ref t) (.ref sl)) Q E s:=by
 obtain ⟨os,hos,hcs,hds⟩:=id hs
 have hTs:s.TypeIs (.ref sl) "slice":=⟨os,hos,hcs⟩
 unfold getItem
 try with_reducible refine Zz ?_
 first | refine YK (YM ?_) | skip
 refine YK (wpAny_sequenceKey ht.typeIs (by decide) ?_)
 refine YK (Aae (name:=Str.ofString "__getitem__") ht.typeIs Aav
  (Aag Aav ht.typeIs entry_tuple_getitem ?_ (args_tuple_getitem _ _)))
 show wpAny _ _ (Builtin.Tuple.tupleItemsOf (.ref t) >>=_) _ _ s
 refine YK (tupleItemsOf_ ht ?_)
 refine YK (wpAny_typeOf hTs ?_)
 rw [if_pos (by decide)]
 refine YK (lF hs pl pu ?_)
 have hyes:((((sIx items.size 0 lo:Nat):Int) == 0 && (1:Int) == 1 && (sIx items.size items.size hi - sIx items.size 0 lo) == items.size)=true):=by
  rw [hw.1,hw.2];simp
 show wpAny _ _ (if (((sIx items.size 0 lo:Nat):Int) == 0 && (1:Int) == 1 && (sIx items.size items.size hi - sIx items.size 0 lo) == items.size)=true then _ else _) _ _ s
 rw [if_pos hyes]
 unfold Builtin.Tuple.tupleIsExact
 refine YK (YK (wpAny_typeOf ht.typeIs (YM ?_)))
 rw [if_pos (by decide)]
 exact YK (wpAny_rule (YM ⟨_,rfl,YM h⟩))
end
end HT
namespace L2
open PySem PySem.Spec PyProof.Rows
section
variable {X:Cx}
def Wv (K:W.Frag):V->Option Int->Option Int->Hp->VK->Prop:=fun x lo hi H Q=>∃ a xs,x= .ref a/\SqT K H a xs/\(HT.sIx xs.length 0 lo=0/\HT.sIx xs.length xs.length hi=xs.length)/\Q (.ref a) H
theorem Mw:SlR X (Wv X.K):=by
 intro pins s U H x v vl vu lo hi sl Q I rx hs pl pu h
 obtain ⟨a,xs,rfl,hx,hw,q⟩:=h
 cases rx
 obtain ⟨its,r,ht,hz⟩:=I.tuple hx
 have hlen:its.toArray.size=xs.length:=by rw [Y9];exact r.length.symm
 refine ⟨"tuple",_,PyProof.Rows.slot_tuple_getitem.lookup,ht.typeIs,?_⟩
 exact HT.getItem_tuple_whole ht hs pl pu (by rw [hlen];exact hw) ⟨.ref a,H,I,rfl,q⟩
def R7 (K:W.Frag):V->Option Int->Option Int->Hp->VK->Prop:=fun x lo hi H Q=>rSl K x lo hi H Q\/Wv K x lo hi H Q
theorem bA {K:W.Frag} (hK:X.K=K):SlR X (R7 K):=by
 subst hK
 exact Rc.or Mw
end
section
variable {H:Hp} {Q:VK} {K:W.Frag} {p:Addr} {xs:List V} {lo hi:Option Int}
theorem mD (hp:H p=some (.lst xs)) (h:∀ q H',H q=none->Same H H'->H' q=some (.lst (dI xs lo hi))->Q (.ref q) H'):R7 K (.ref p) lo hi H Q:=.inl (OJ (SqL.of hp) fun q nq=>h q _ nq ((Same.refl H).upd nq) ao)
theorem cY (hp:H p=some (.tup xs)) (h:∀ q H',Same H H'->H' q=some (.tup (dI xs lo hi))->Q (.ref q) H'):R7 K (.ref p) lo hi H Q:=by
 by_cases hw:HT.sIx xs.length 0 lo=0/\HT.sIx xs.length xs.length hi=xs.length
 ·refine .inr ⟨p,xs,rfl,SqT.of hp,hw,h p H (Same.refl H) ?_⟩
  unfold dI
  rw [hw.1,hw.2,AaT,Nat.sub_zero,ZC];exact hp
 ·exact .inl (.inr (.inl ⟨p,xs,rfl,SqT.of hp,hw,fun q nq=>h q _ ((Same.refl H).upd nq) ao⟩))
end
def RawD (h:Heap) (d:Addr) (es:Array DictEntry) (ep:Nat):Prop:=∃ o,h.get? d=some o/\o.ExactDict/\o.data= .dict es ep
theorem RawD.ty {s:Shared} {d:Addr} {es:Array DictEntry} {ep:Nat} (x:RawD s.heap d es ep):s.TypeIs (.ref d) "dict":=by
 obtain ⟨o,ho,hc,_⟩:=x
 exact ⟨o,ho,hc.1⟩
section
variable {prog:Program} {w:World} {A:Around} {E:Value->Shared->Prop} {s:Shared} {d it:Addr} {es:Array DictEntry} {ep i:Nat}
theorem Il {Q:Value->Shared->Prop} (hd:(d == sysModules)=false) (x:RawD s.heap d es ep)
  (q:Q (.ref s.heap.objs.size) {s with heap:=s.heap.push {cls:=.type "dict_keyiterator",data:=.fields #[.ref d,.int 0 0,.int es.size 0,.int ep 0]}}):wpAny (model prog w) A (pyIter (.ref d)) Q E s:=by
 have hT:=x.ty
 obtain ⟨o,ho,hc,hdat⟩:=x
 refine wpAny_pyIter_slot hT PySem.F.slot_dict_iter (Aag PySem.F.slot_dict_iter hT PySem.F.entry_dict_iter ?_ (PySem.F.args_dict_iter_1 _))
 unfold Builtin.«dict.__iter__» Builtin.Dict.dictSlotNone
 refine YK (YK (wpAny_notOrdered_dict hT (YM ?_)))
 show wpAny _ _ (Builtin.Dict.showsAll d >>=_) _ _ s
 unfold Builtin.Dict.showsAll
 rw [if_neg (by rw [hd];exact Y4)]
 refine YK (YM (YK (AaN ho hdat (YK (Abs ho hdat (YK (ZX (YM ⟨_,rfl,"dict_keyiterator",_,⟨_,Y6 _ rfl,rfl⟩,PySem.F.slot_dict_keyiterator_next.lookup,?_⟩))))))))
 simpa [rawInt] using q
theorem Im {Q:Option Value->Shared->Prop} {e:DictEntry} (hit:s.heap.IsKeyIter it d i es.size ep) (x:RawD s.heap d es ep) (hx:es[i]?=some e)
  (q:∀ h',h'.IsKeyIter it d (i+1) es.size ep->Heap.SameBut it s.heap h'->Q (some e.key) {s with heap:=h'}):wpAny (model prog w) A (pyNext (.ref it)) Q E s:=by
 obtain ⟨oi,hoi,hci,hdi⟩:=id hit
 obtain ⟨o,ho,hc,hdat⟩:=x
 unfold pyNext
 refine YK (Aa7 (Aae (name:=Str.ofString "__next__") hit.typeIs Aap (Aag Aap hit.typeIs PySem.F.entry_dict_keyiterator_next ?_ (PySem.F.args_dict_keyiterator_next_1 _))))
 refine YK (YM (YK (YK ?_)))
 first | refine YK (AaM hit.typeIs (YM (YK (AaU hoi hdi ?_)))) | refine YK (Aa9 hit.typeIs (YM (YK (AaU hoi hdi ?_))))
 have ow:Builtin.Dict_items.ownsTuple "dict_keyiterator"=false:=by decide
 simp only [ow,ZR,if_false]
 show wpAny _ _ (if (Value.ref d == Value.none)=true then _ else _) _ _ s
 rw [if_neg (show ¬ ((Value.ref d == Value.none)=true) from Y4)]
 refine YK (YM (YK (AaN ho hdat ?_)))
 rw [if_neg (by simp)]
 refine YK (YM (YK (Abs ho hdat ?_)))
 rw [if_neg (by simp)]
 refine YM ?_
 simp only [show ¬ ((i:Int) < 0) from by omega,if_false,Aby,hx]
 refine YK ?_
 first | refine YK (AaM hit.typeIs (YM (YK (wpAny_isOneOf_keyiter hit.typeIs ?_)))) | refine YK (Aa9 hit.typeIs (YM (YK (wpAny_isOneOf_keyiter hit.typeIs ?_))))
 show wpAny _ _ (setField (.ref it) 1 (rawInt ((i:Int)+1)) >>=_) _ _ s
 refine YK (AbA hoi hdi (by simp) ?_)
 have nxt:(s.heap.update it (Obj.mapFields (·.setIfInBounds 1 (rawInt ((i:Int)+1))))).IsKeyIter it d (i+1) es.size ep:=
  ⟨_,Aaw _ hoi (Obj.isFreed_of_fields (Obj.data_mapFields hdi _)),(Obj.cls_mapFields ..).trans hci,by rw [Obj.data_mapFields hdi];simp [rawInt]⟩
 refine YK (Zz (YK (wpAny_isOneOf_keyiter (s:={s with heap:=s.heap.update it (Obj.mapFields (·.setIfInBounds 1 (rawInt ((i:Int)+1))))}) nxt.typeIs ?_)))
 show wpAny _ _ (pure e.key) _ _ _
 exact YM (YM ⟨_,rfl,YM (q _ nxt (Heap.SameBut.update ..))⟩)
theorem Mx {Q:Option Value->Shared->Prop} (hh:A.handled=none) (hit:s.heap.IsKeyIter it d i es.size ep) (x:RawD s.heap d es ep) (hx:es.size<=i)
  (q:∀ h',Heap.ExtBut it s.heap h'->Q none {s with heap:=h'}):wpAny (model prog w) A (pyNext (.ref it)) Q E s:=by
 obtain ⟨oi,hoi,hci,hdi⟩:=id hit
 obtain ⟨o,ho,hc,hdat⟩:=x
 unfold pyNext
 refine YK (Aa7 (Aae (name:=Str.ofString "__next__") hit.typeIs Aap (Aag Aap hit.typeIs PySem.F.entry_dict_keyiterator_next ?_ (PySem.F.args_dict_keyiterator_next_1 _))))
 refine YK (YM (YK (YK ?_)))
 first | refine YK (AaM hit.typeIs (YM (YK (AaU hoi hdi ?_)))) | refine YK (Aa9 hit.typeIs (YM (YK (AaU hoi hdi ?_))))
 have ow:Builtin.Dict_items.ownsTuple "dict_keyiterator"=false:=by decide
 simp only [ow,ZR,if_false]
 show wpAny _ _ (if (Value.ref d == Value.none)=true then _ else _) _ _ s
 rw [if_neg (show ¬ ((Value.ref d == Value.none)=true) from Y4)]
 refine YK (YM (YK (AaN ho hdat ?_)))
 rw [if_neg (by simp)]
 refine YK (YM (YK (Abs ho hdat ?_)))
 rw [if_neg (by simp)]
 refine YM ?_
 simp only [show ¬ ((i:Int) < 0) from by omega,if_false,Aby,Array.getElem?_eq_none hx]
 refine YK ?_
 first | refine YK (AaM hit.typeIs (YM ?_)) | refine YK (Aa9 hit.typeIs (YM ?_))
 show wpAny _ _ (setField (.ref it) 0 .none >>=_) _ _ s
 refine YK (AbA hoi hdi (by simp) ?_)
 show wpAny _ _ (newExc (.type "StopIteration") [] >>=_) _ _ _
 refine YK ?_
 simp only [newExc,newTuple]
 refine YK (ZX (YK (m:=firstArgMember _ _) (wpAny_of_eq (a:=Value.none) (by first | rfl | (simp only [firstArgMember];rfl)) (ZX ?_ (by size_fits)))) (by size_fits))
 simp only [raiseNew]
 refine YK (wpAny_handled ?_)
 rw [show A.in1.handled=none from hh]
 refine YK (YM (wpAny_throw ?_))
 refine YK (wpAny_isInstance (T:="StopIteration") (b:=true) ⟨_,Y6 _ rfl,rfl⟩ isSubtype_stop (YM ?_))
 exact (q _ (((Heap.SameBut.update ..).extBut.push _).push _))
end
section
variable {X:Cx} {pins:List (Addr×Obj)} {U:St} {H:Hp} {s:Shared}
theorem Inv.freezeT {d:Addr} {kvs:List (List Key×V)} (I:Inv X pins U H s) (e:H d=some (.dT kvs)):∃ o,Inv X pins U (upd H d (.frz o (.dT kvs))) s:=by
 have x:ObjOk X.prog X.w H s.heap d (.dT kvs):=I.hok d _ e
 obtain ⟨z,y,xs,r,o,es,ep,h1,h2⟩:=id x
 refine ⟨o,?_⟩
 have ne:∀ {b:Addr} {u:HO},H b=some u->u≠.dT kvs->b≠d:=fun {b u} q n z=>n (by rw [z,e] at q;exact (Zn q).symm)
 have tp:∀ b ys,H b=some (.tup ys)->upd H d (.frz o (.dT kvs)) b=some (.tup ys):=fun b ys q=>by rw [aC (ne q (fun z=>by cases z))];exact q
 have ow:∀ b c,H b=some (.own c)->upd H d (.frz o (.dT kvs)) b=some (.own c):=fun b c q=>by rw [aC (ne q (fun z=>by cases z))];exact q
 have st:=I.step (g':=s.gens) (d':=s.drawn) (t':=s.toks) (h':=s.heap) (H':=upd H d (.frz o (.dT kvs))) (ch:=[]) (fun b hb=>nomatch hb) (fun b o _ _ _ e _=>e) (fun b o _ _ _ e _=>⟨o.slots,e⟩)
  (fun b ob _ _ hn=>by rw [aC (fun z=>by rw [z,e] at hn;cases hn)];exact hn) (fun b o _ e=>⟨o,e⟩) tp (fun b ob u q=>?_) (fun b ps q=>⟨#[],?_⟩) (fun m hm=>hm) (fun b u q=>?_) I.bare
 ·exact st
 ·by_cases hb:b=d
  ·rw [hb,e] at q;cases q
  ·rw [aC hb];exact q
 ·rw [aC (ne q (fun z=>by cases z)),q];simp
 ·by_cases hb:b=d
  ·subst hb
   rw [ao] at q;cases q
   exact ⟨h1,x.stay (fun _ _ _ q=>q) (fun c q=>ow c _ q) tp⟩
  ·rw [aC hb] at q
   exact (I.hok b u q).stay (fun _ _ _ q=>q) (fun c q=>ow c _ q) tp
end
def YF (d:Addr) (o:Obj) (kvs:List (List Key×V)):It:=
 ⟨fun i H=>i < kvs.length/\H d=some (.frz o (.dT kvs)),
  fun i H x H'=>H'=H/\∃ k v b,kvs[i]?=some (k,v)/\x= .ref b/\H b=some (.tup (k.map kV)),
  fun i H=>kvs.length<=i/\H d=some (.frz o (.dT kvs))⟩
theorem wH {α β:Type} {F:α->β->Prop}:∀ {l:List α} {m:List β},Paired F l m->l.length=m.length/\∀ (i:Nat) (a:α),l[i]?=some a->∃ b,m[i]?=some b/\F a b
 | _,_,.nil=>⟨rfl,fun i a h=>by simp at h⟩
 | _ :: _,b :: _,.cons r t=>by
  obtain ⟨h1,h2⟩:=wH t
  refine ⟨by simp [h1],fun i c h=>?_⟩
  cases i with
  | zero=>cases h;exact ⟨b,rfl,r⟩
  | succ j=>exact h2 j c h
theorem oA {P:Program} {w:World} {H:Hp} {h:Heap} {d:Addr} {o:Obj} {kvs:List (List Key×V)} (ok:HOk P w H h) (e:H d=some (.frz o (.dT kvs))):
  (d == sysModules)=false/\∃ es ep,o.ExactDict/\o.data= .dict es ep/\RawD h d es ep/\es.size=kvs.length/\∀ (i:Nat) (k:List Key) (v:V),kvs[i]?=some (k,v)->∃ b u hs,es[i]?=some ⟨hs,.ref b,u⟩/\H b=some (.tup (k.map kV))/\RelV v u:=by
 obtain ⟨hg,z,y,xs,r,o',es,ep,h1,h2,h3,h4,h5⟩:=(show ObjOk P w H h d (.frz o (.dT kvs)) from ok d _ e)
 rw [hg] at h1;cases h1
 obtain ⟨hl,hat⟩:=wH r
 refine ⟨y,es,ep,h2,h3,⟨o,hg,h2,h3⟩,?_,fun i k v hk=>?_⟩
 ·have:es.toList.length=xs.length:=by rw [h4,YQ]
  rw [hl,← this];simp
 ·obtain ⟨⟨k',b,u⟩,hb,e1,e2,e3⟩:=hat i _ hk
  cases e1
  refine ⟨b,u,(tupleKind (b8 P w)).hash k,?_,e2,e3⟩
  rw [← Aad,h4,Ze,hb];rfl
theorem Mz {P:Program} {w:World} {K:W.Frag} {tg:Expr} (d it:Addr) (o:Obj) (kvs:List (List Key×V)) (es:Array DictEntry) (ep:Nat) (ho:o.data= .dict es ep):
  Turn P w K tg (YF d o kvs) [it] it (fun i h=>h.IsKeyIter it d i es.size ep) where
 mem:=by simp
 obj:=fun i h st b hb=>by
  have e:b=it:=by simpa using hb
  subst e
  obtain ⟨o,e,c,d⟩:=st
  exact ⟨o,e,fun v z=>by rw [d] at z;cases z⟩
 keep:=fun i h h' st k=>st.at fun o e=>k it (by simp) o e
 item:=by
  intro X hP hw hK hc i pins s U H E I hf st hg
  subst hP hw hK
  obtain ⟨hi,hd⟩:=hg
  obtain ⟨y,es',ep',x1,x2,x3,x4,x5⟩:=oA I.hok hd
  rw [ho] at x2;cases x2
  obtain ⟨b,u,hs,e1,e2,e3⟩:=x5 i kvs[i].1 kvs[i].2 (by simp [hi])
  obtain ⟨f0,f1,f2,f3,f4,f5⟩:=hf it (by simp)
  refine Im st x3 e1 fun h' st' sb=>?_
  have I1:Inv X pins U H {s with heap:=h'}:=I.turned (t':=s.toks) (fun b o hb e=>(sb.2 b hb).trans e) f0 f1 f3 f4 f5
  obtain ⟨oi,e,c,dd⟩:=id st'
  exact ⟨_,rfl,yl (s:={s with heap:=h'}) e c dd (by decide) ⟨.ref b,H,I1,rfl,⟨rfl,kvs[i].1,kvs[i].2,b,by simp [hi],rfl,e2⟩,st',fun b hb=>(hf b hb).1⟩⟩
 done:=by
  intro X hP hw hK hc i pins s U H E I hf st hg
  subst hP hw hK
  obtain ⟨hi,hd⟩:=hg
  obtain ⟨y,es',ep',x1,x2,x3,x4,x5⟩:=oA I.hok hd
  rw [ho] at x2;cases x2
  obtain ⟨f0,f1,f2,f3,f4,f5⟩:=hf it (by simp)
  exact Mx (I.ok.hd hc) st x3 (by omega) fun h' eb=>⟨rfl,I.turned (t':=s.toks) (fun b o hb e=>eb b o hb e) f0 f1 f3 f4 f5⟩
 self:=fun _ _ _ _ _ st h=>wpAny_pyIter_keyiter st h
def iDT (tl:TE):TI:=fun U H R=>tl U H fun x H1=>∃ d kvs,x= .ref d/\H1 d=some (.dT kvs)/\∀ o,R (YF d o kvs) (upd H1 d (.frz o (.dT kvs)))
theorem Io {X:Cx} {tg l:Expr} {tl:TE} (hl:JE X l tl):JI X tg l (iDT tl):=⟨by
 intro pins s U H R I h
 refine dM (hl.run pins s U H _ I h) fun v s1 qq0=>?_
 obtain ⟨x,H1,I1,r1,q1⟩:=qq0
 obtain ⟨d,kvs,e,hd,q⟩:=q1
 subst e
 cases r1
 obtain ⟨o,I2⟩:=I1.freezeT hd
 obtain ⟨y,es,ep,x1,x2,x3,x4,x5⟩:=oA I2.hok ao
 refine Il y x3 ?_
 refine ⟨s1.heap.objs.size,[s1.heap.objs.size],_,_,upd H1 d (.frz o (.dT kvs)),rfl,I2.kept (t':=s1.toks) fun b o e=>YT _ e,Mz d _ o kvs es ep x2,⟨_,Y6 _ rfl,rfl,rfl⟩,fun b hb=>?_,q o⟩
 have e:b=s1.heap.objs.size:=by simpa using hb
 subst e
 exact I2.fpOk (YW _) (I2.hok.fresh (YW _))⟩
theorem pG {tl:TE} {U:St} {H:Hp} {R:It->Hp->Prop} (h:tl U H fun x H1=>∃ d kvs,x= .ref d/\H1 d=some (.dT kvs)/\∀ o,R (YF d o kvs) (upd H1 d (.frz o (.dT kvs)))):iDT tl U H R:=h
theorem xN {sub:List (Option Nat)} {g:TG} {tt:TT} {te:TE} {U:St} {Q:VK} {H:Hp} {d:Addr} {o:Obj} {kvs:List (List Key×V)} (Pv:Nat->List V->Hp->Prop) (hn:kvs.length<=sizeLine) (h0:Pv 0 [] H) (hl:∀ i ys H,Pv i ys H->ys.length<=i) (hq:∀ i ys H,Pv i ys H->H d=some (.frz o (.dT kvs)))
  (hs:∀ i ys H k v b,kvs[i]?=some (k,v)->H b=some (.tup (k.map kV))->Pv i ys H->g (.ref b) (cU sub U) H fun σ2 H2=>KeepSt (cU sub U) σ2/\tt σ2 H2 fun b H3=>if b=true then te σ2 H3 fun y H4=>Pv (i+1) (ys ++ [y]) H4 else Pv (i+1) ys H3)
  (hd:∀ ys H D H',Pv kvs.length ys H->H D=none->Same H H'->H' D=some (.lst ys)->Q (.ref D) H'):oR sub g tt te U Q (YF d o kvs) H:=
 qm (n:=kvs.length) Pv hn h0 hl (fun i ys H hi p=>⟨hi,hq i ys H p⟩) (fun ys H p=>⟨YW _,hq _ ys H p⟩) (fun i ys H x H' hi p y=>by
  obtain ⟨rfl,k,v,b,h1,rfl,h2⟩:=y
  exact hs i ys _ k v b h1 h2 p) fun ys H p D nD=>hd ys H D _ p nD ((Same.refl H).upd nD) ao
section
variable {prog:Program} {w:World} {A:Around} {E:Value->Shared->Prop} {s:Shared} {d it v:Addr} {es:Array DictEntry} {ep i:Nat}
theorem Ej {Q:Value->Shared->Prop} (hd:(d == sysModules)=false) (x:RawD s.heap d es ep)
  (q:Q (.ref s.heap.objs.size) {s with heap:=s.heap.push {cls:=.type "dict_items",data:=.fields #[.ref d]}}):wpAny (model prog w) A (call (.builtin "dict.items") [.ref d]) Q E s:=by
 have hT:=x.ty
 refine call_meetsIn PySem.F.slot_dict_items hT PySem.F.entry_dict_items (PySem.F.args_dict_items_1 _) (MeetsIn.of_wp (S:=fun _ R s'=>s'=s/\R (.ok (.ret (.ref s.heap.objs.size))) {s with heap:=s.heap.push {cls:=.type "dict_items",data:=.fields #[.ref d]}}) fun A' R s' ⟨hs,h⟩=>?_) ⟨rfl,q⟩
 subst hs
 unfold Builtin.«dict.items» Builtin.Dict.noArgs
 refine YK (YK (wpAny_notOrdered_dict hT (YM ?_)))
 show wpAny _ _ (Builtin.Dict.showsAll d >>=_) _ _ s'
 unfold Builtin.Dict.showsAll
 rw [if_neg (by rw [hd];exact Y4)]
 exact YK (YM (YK (ZX (YM ⟨_,rfl,h⟩))))
theorem Ek {Q:Value->Shared->Prop} (hv:s.heap.IsItemsView v d) (x:RawD s.heap d es ep)
  (q:Q (.ref s.heap.objs.size) {s with heap:=s.heap.push {cls:=.type "dict_itemiterator",data:=.fields #[.none,.bool false,.ref d,.int 0 0,.int es.size 0,.int ep 0,.none,.none]}}):wpAny (model prog w) A (pyIter (.ref v)) Q E s:=by
 obtain ⟨ov,hov,hcv,hdv⟩:=id hv
 obtain ⟨o,ho,hc,hdat⟩:=x
 refine wpAny_pyIter_slot hv.typeIs PySem.F.slot_dict_items_iter (Aag PySem.F.slot_dict_items_iter hv.typeIs PySem.F.entry_dict_items_iter ?_ (PySem.F.args_dict_items_iter_1 _))
 unfold Builtin.«dict_items.__iter__» Builtin.Dict_items.dictOf
 refine YK (YM (YK (YK (AaQ hov hdv (x:=.ref d) rfl (YM (YK ?_))))))
 unfold Builtin.Dict_items.newIterator
 refine YK (AaN ho hdat (YK (Abs ho hdat ?_)))
 have ow:Builtin.Dict_items.ownsTuple "dict_itemiterator"=true:=by decide
 simp only [ow,if_true]
 refine ZX (YM ⟨_,rfl,"dict_itemiterator",_,⟨_,Y6 _ rfl,rfl⟩,PySem.F.slot_dict_itemiterator_next.lookup,?_⟩) (by simp only [sizeOk,Builtin.Dict_items.ownedTupleFields,Y9,YX,ZW,Z1,sizeLine_eq];omega)
 simpa [rawInt,Builtin.Dict_items.ownedTupleFields] using q
theorem El {ok ov:Value} {Q:Option Value->Shared->Prop} {e:DictEntry} (hit:IsItemIter s.heap it d i es.size ep ok ov) (x:RawD s.heap d es ep) (hx:es[i]?=some e)
  (q:∀ h',IsItemIterOut h' it d (i+1) es.size ep e.key e.val s.heap.objs.size->h'.get? s.heap.objs.size=some {cls:=.type "tuple",data:=.seq #[e.key,e.val]}->h'.objs.size=s.heap.objs.size+1->
   (∀ b o,b≠it->s.heap.get? b=some o->h'.get? b=some o)->Q (some (.ref s.heap.objs.size)) {s with heap:=h'}):wpAny (model prog w) A (pyNext (.ref it)) Q E s:=by
 obtain ⟨hp,g,dr,tk,os⟩:=s
 obtain ⟨o,ho,hc,hdat⟩:=x
 have hT:Shared.TypeIs ⟨hp,g,dr,tk,os⟩ (.ref it) "dict_itemiterator":=⟨_,hit,rfl⟩
 unfold pyNext
 refine YK (Aa7 (Aae (name:=Str.ofString "__next__") hT Aam (Aag Aam hT PySem.F.entry_dict_itemiterator_next ?_ (PySem.F.args_dict_itemiterator_next_1 _))))
 refine YK (YM (YK (YK ?_)))
 first | refine YK (AaA hT (YM (YK (AaU hit rfl ?_)))) | refine YK (AaW hT (YM (YK (AaU hit rfl ?_))))
 have ow:Builtin.Dict_items.ownsTuple "dict_itemiterator"=true:=by decide
 simp only [ow,if_true]
 show wpAny _ _ (if (Value.ref d == Value.none)=true then _ else _) _ _ _
 rw [if_neg (show ¬ ((Value.ref d == Value.none)=true) from Y4)]
 refine YK (YM (YK (AaN ho hdat ?_)))
 rw [if_neg (by simp)]
 refine YK (YM (YK (Abs ho hdat ?_)))
 rw [if_neg (by simp)]
 refine YM ?_
 simp only [show ¬ ((i:Int) < 0) from by omega,if_false,Aby,hx]
 refine YK ?_
 first | refine YK (AaA hT (YM (YK (Abp hT ?_)))) | refine YK (AaW hT (YM (YK (Abp hT ?_))))
 show wpAny _ _ (setField (.ref it) 3 (rawInt ((i:Int)+1)) >>=_) _ _ ⟨hp,g,dr,tk,os⟩
 refine YK (Abq hit (by simp) fun h1 a1 b1=>?_)
 replace b1:Heap.SameBut it hp h1:=b1
 replace a1:IsItemIter h1 it d (i+1) es.size ep ok ov:=by
  have e0:((i+1:Nat):Int)=(i:Int)+1:=by omega
  unfold IsItemIter;rw [e0];simpa [rawInt] using a1
 have hT1:Shared.TypeIs ⟨h1,g,dr,tk,os⟩ (.ref it) "dict_itemiterator":=⟨_,a1,rfl⟩
 refine YK (Zz (YK (Abp hT1 (YK (Abp hT1 ?_)))))
 show wpAny _ _ (Builtin.Dict_items.pairFromOwner (.ref it) 6 e.key e.val) _ _ ⟨h1,g,dr,tk,os⟩
 unfold Builtin.Dict_items.pairFromOwner
 refine YK (wpAny_newTuple ?_)
 have a2:IsItemIter (h1.push {cls:=.type "tuple",data:=.seq #[e.key,e.val]}) it d (i+1) es.size ep ok ov:=YT _ a1
 have z1:h1.objs.size=hp.objs.size:=b1.1
 have hil:it < hp.objs.size:=Y7 hit
 have t2:(h1.push {cls:=.type "tuple",data:=.seq #[e.key,e.val]}).get? hp.objs.size=some {cls:=.type "tuple",data:=.seq #[e.key,e.val]}:=by rw [← z1];exact Y6 _ rfl
 have z2:(h1.push {cls:=.type "tuple",data:=.seq #[e.key,e.val]}).objs.size=hp.objs.size+1:=by rw [AaS,z1]
 have k2:∀ b o,b≠it->hp.get? b=some o->(h1.push {cls:=.type "tuple",data:=.seq #[e.key,e.val]}).get? b=some o:=fun b o hb q=>YT _ (b1.extBut b o hb q)
 generalize h1.push {cls:=.type "tuple",data:=.seq #[e.key,e.val]}=h2 at a2 t2 z2 k2 ⊢
 show wpAny _ _ (Builtin.Dict_items.ownedTupleIsFree (.ref it) >>=_) _ _ ⟨h2,g,dr,tk,os⟩
 rw [z1]
 clear a1 b1 hT1 z1
 unfold Builtin.Dict_items.ownedTupleIsFree
 refine YK (YK (AaQ a2 rfl (x:=.none) rfl (YM ?_)))
 simp only [if_true]
 refine YK (AaQ a2 rfl (x:=ok) rfl (YK (AaQ a2 rfl (x:=ov) rfl (YK (Abq a2 (by simp) fun h3 a3 b3=>?_)))))
 replace b3:Heap.SameBut it h2 h3:=b3
 replace a3:IsItemIter h3 it d (i+1) es.size ep e.key ov:=a3
 refine YK (Abq a3 (by simp) fun h4 a4 b4=>?_)
 replace b4:Heap.SameBut it h3 h4:=b4
 replace a4:IsItemIter h4 it d (i+1) es.size ep e.key e.val:=a4
 refine YK (Abq a4 (by simp) fun h5 a5 b5=>?_)
 replace b5:Heap.SameBut it h4 h5:=b5
 replace a5:IsItemIterOut h5 it d (i+1) es.size ep e.key e.val hp.objs.size:=a5
 refine YK (Abq a5 (by simp) fun h6 a6 b6=>?_)
 replace b6:Heap.SameBut it h5 h6:=b6
 replace a6:IsItemIterOut h6 it d (i+1) es.size ep e.key e.val hp.objs.size:=a6
 have kk:∀ b o,b≠it->h2.get? b=some o->h6.get? b=some o:=fun b o hb q=>b6.extBut b o hb (b5.extBut b o hb (b4.extBut b o hb (b3.extBut b o hb q)))
 refine YK (wpAny_letGo (YM (YM ⟨_,rfl,YM (q h6 a6 (kk _ _ (Abh hil) t2) ?_ fun b o hb e=>kk b o hb (k2 b o hb e))⟩)))
 show h6.objs.size=hp.objs.size+1
 rw [b6.1,b5.1,b4.1,b3.1,z2]
theorem Ip {ok ov:Value} {Q:Option Value->Shared->Prop} (hh:A.handled=none) (hit:IsItemIter s.heap it d i es.size ep ok ov) (x:RawD s.heap d es ep) (hx:es.size<=i)
  (q:∀ h',Heap.ExtBut it s.heap h'->Q none {s with heap:=h'}):wpAny (model prog w) A (pyNext (.ref it)) Q E s:=by
 obtain ⟨o,ho,hc,hdat⟩:=x
 have hT:s.TypeIs (.ref it) "dict_itemiterator":=⟨_,hit,rfl⟩
 unfold pyNext
 refine YK (Aa7 (Aae (name:=Str.ofString "__next__") hT Aam (Aag Aam hT PySem.F.entry_dict_itemiterator_next ?_ (PySem.F.args_dict_itemiterator_next_1 _))))
 refine YK (YM (YK (YK ?_)))
 first | refine YK (AaA hT (YM (YK (AaU hit rfl ?_)))) | refine YK (AaW hT (YM (YK (AaU hit rfl ?_))))
 have ow:Builtin.Dict_items.ownsTuple "dict_itemiterator"=true:=by decide
 simp only [ow,if_true]
 show wpAny _ _ (if (Value.ref d == Value.none)=true then _ else _) _ _ s
 rw [if_neg (show ¬ ((Value.ref d == Value.none)=true) from Y4)]
 refine YK (YM (YK (AaN ho hdat ?_)))
 rw [if_neg (by simp)]
 refine YK (YM (YK (Abs ho hdat ?_)))
 rw [if_neg (by simp)]
 refine YM ?_
 simp only [show ¬ ((i:Int) < 0) from by omega,if_false,Aby,Array.getElem?_eq_none hx]
 refine YK ?_
 first | refine YK (AaA hT (YM ?_)) | refine YK (AaW hT (YM ?_))
 show wpAny _ _ (setField (.ref it) 2 .none >>=_) _ _ s
 refine YK (AbA hit rfl (by simp) ?_)
 show wpAny _ _ (newExc (.type "StopIteration") [] >>=_) _ _ _
 refine YK ?_
 simp only [newExc,newTuple]
 refine YK (ZX (YK (m:=firstArgMember _ _) (wpAny_of_eq (a:=Value.none) (by first | rfl | (simp only [firstArgMember];rfl)) (ZX ?_ (by size_fits)))) (by size_fits))
 simp only [raiseNew]
 refine YK (wpAny_handled ?_)
 rw [show A.in1.handled=none from hh]
 refine YK (YM (wpAny_throw ?_))
 refine YK (wpAny_isInstance (T:="StopIteration") (b:=true) ⟨_,Y6 _ rfl,rfl⟩ isSubtype_stop (YM ?_))
 exact (q _ (((Heap.SameBut.update ..).extBut.push _).push _))
end
theorem rE:entryFor table "dict_itemiterator.__iter__"=some Builtin.«dict_keyiterator.__iter__»:=entryFor_alias (id':="dict_keyiterator.__iter__") (by kernel_rfl) rfl (by trivial) (by kernel_rfl)
def YG (d:Addr) (o:Obj) (kvs:List (List Key×V)):It:=
 ⟨fun i H=>i < kvs.length/\H d=some (.frz o (.dT kvs)),
  fun i H x H'=>∃ T k v b,kvs[i]?=some (k,v)/\H b=some (.tup (k.map kV))/\H T=none/\x= .ref T/\H'=upd H T (.tup [.ref b,v]),
  fun i H=>kvs.length<=i/\H d=some (.frz o (.dT kvs))⟩
theorem Ir {P:Program} {w:World} {K:W.Frag} {elts:List Expr} {kk:Nat} {pos:Pos} (d it:Addr) (o:Obj) (kvs:List (List Key×V)) (es:Array DictEntry) (ep:Nat) (ho:o.data= .dict es ep):
  Turn P w K (.Tuple elts kk pos) (YG d o kvs) [it] it (fun i h=>∃ a b,IsItemIter h it d i es.size ep a b) where
 mem:=by simp
 obj:=fun i h st b hb=>by
  have e:b=it:=by simpa using hb
  subst e
  obtain ⟨_,_,e⟩:=st
  exact ⟨_,e,fun v z=>by cases z⟩
 keep:=fun i h h' st k=>by
  obtain ⟨a,b,e⟩:=st
  exact ⟨a,b,k it (by simp) _ e⟩
 item:=by
  intro X hP hw hK hc i pins s U H E I hf st hg
  subst hP hw hK
  obtain ⟨hi,hd⟩:=hg
  obtain ⟨a0,b0,st⟩:=st
  obtain ⟨y,es',ep',x1,x2,x3,x4,x5⟩:=oA I.hok hd
  rw [ho] at x2;cases x2
  obtain ⟨b,u,hs,e1,e2,e3⟩:=x5 i kvs[i].1 kvs[i].2 (by simp [hi])
  have ns:s.heap.objs.size≠it:=Abh (Y7 st)
  refine El st x3 e1 fun h' st' tp sz kp=>⟨_,rfl,wpAny_letOwnedTupleGo_items st' fun h'' st2 sb=>?_⟩
  have isT:h''.IsTuple s.heap.objs.size #[.ref b,u]:=⟨_,sb.extBut _ _ ns tp,rfl,_,rfl⟩
  have kall:∀ c q,c ∉ [it]->s.heap.get? c=some q->h''.get? c=some q:=fun c q hb e=>by
   have hb':c≠it:=by simpa using hb
   exact sb.extBut _ _ hb' (kp c q hb' e)
  have hTn:H s.heap.objs.size=none:=I.hok.fresh (YW _)
  refine ⟨.ref s.heap.objs.size,_,I.newtup (tk:=s.toks) hf (YW _) kall isT (xs:=[.ref b,kvs[i].2]) (.cons rfl (.cons e3 .nil)) (by simp;decide),rfl,⟨_,kvs[i].1,kvs[i].2,b,by simp [hi],e2,hTn,rfl,rfl⟩,⟨_,_,st2⟩,fun c hb=>?_⟩
  have hb':c=it:=by simpa using hb
  subst hb'
  rw [aC (Ne.symm ns)]
  exact (hf c hb).1
 done:=by
  intro X hP hw hK hc i pins s U H E I hf st hg
  subst hP hw hK
  obtain ⟨hi,hd⟩:=hg
  obtain ⟨a0,b0,st⟩:=st
  obtain ⟨y,es',ep',x1,x2,x3,x4,x5⟩:=oA I.hok hd
  rw [ho] at x2;cases x2
  obtain ⟨f0,f1,f2,f3,f4,f5⟩:=hf it (by simp)
  exact Ip (I.ok.hd hc) st x3 (by omega) fun h' eb=>⟨rfl,I.turned (t':=s.toks) (fun b o hb e=>eb b o hb e) f0 f1 f3 f4 f5⟩
 self:=fun A i s Q E st h=>by
  obtain ⟨a0,b0,st⟩:=st
  have hT:s.TypeIs (.ref it) "dict_itemiterator":=⟨_,st,rfl⟩
  refine wpAny_pyIter_slot hT PySem.F.slot_dict_itemiterator_iter (Aag PySem.F.slot_dict_itemiterator_iter hT rE ?_ (PySem.F.args_dict_itemiterator_iter_1 _))
  show wpAny _ _ (ret (.ref it)) _ _ s
  exact YM ⟨_,rfl,"dict_itemiterator",_,hT,PySem.F.slot_dict_itemiterator_next.lookup,h⟩
def Ww (tl:TE):TI:=fun U H R=>tl U H fun x H1=>∃ d kvs,x= .ref d/\H1 d=some (.dT kvs)/\∀ o,R (YG d o kvs) (upd H1 d (.frz o (.dT kvs)))
theorem R8 {X:Cx} {l:Expr} {tl:TE} {elts:List Expr} {kk:Nat} {tp apos cpos:Pos} (hl:JE X l tl) (hbase:autoParam (nR l=true) L2.auto4._auto_1) (hline:autoParam ((apos.endLine == cpos.line)=true) L2.auto4._auto_1):JI X (.Tuple elts kk tp) (.Call (.Attribute l "items" apos) [] [] cpos) (Ww tl):=⟨by
 intro pins s U H R I h
 refine wpAny_Call_method0_late (Hi hbase) hline (dM (hl.run pins s U H _ I h) fun v s1 qq0=>?_)
 obtain ⟨x,H1,I1,r1,q1⟩:=qq0
 obtain ⟨d,kvs,e,hd,q⟩:=q1
 subst e
 cases r1
 obtain ⟨h1,h2,hds⟩:=GX I1 (.inr ⟨kvs,.inl hd⟩)
 obtain ⟨o,I2⟩:=I1.freezeT hd
 obtain ⟨y,es,ep,x1,x2,x3,x4,x5⟩:=oA I2.hok ao
 refine ⟨"dict","dict.items",PySem.F.plainAttrs_dict,PySem.F.slot_dict_items,PySem.F.type_dict_items,h1,h2,Calls.callWith_builtin rfl (PySem.evalArgs_none ?_)⟩
 refine Ej y x3 ?_
 have x3':RawD (s1.heap.push {cls:=.type "dict_items",data:=.fields #[.ref d]}) d es ep:=by
  obtain ⟨od,a1,a2⟩:=x3
  exact ⟨od,YT _ a1,a2⟩
 refine Ek (s:={s1 with heap:=s1.heap.push {cls:=.type "dict_items",data:=.fields #[.ref d]}}) ⟨_,Y6 _ rfl,rfl,rfl⟩ x3' ?_
 have I3:Inv X pins U (upd H1 d (.frz o (.dT kvs))) {s1 with heap:=s1.heap.push {cls:=.type "dict_items",data:=.fields #[.ref d]}}:=I2.kept (t':=s1.toks) fun b o e=>YT _ e
 refine ⟨_,[_],_,_,upd H1 d (.frz o (.dT kvs)),rfl,I3.kept (t':=s1.toks) fun b o e=>YT _ e,Ir d _ o kvs es ep x2,⟨_,_,Y6 _ rfl⟩,fun b hb=>?_,q o⟩
 have e:=ZK.mp hb
 subst e
 exact I3.fpOk (YW _) (I3.hok.fresh (YW _))⟩
theorem lr {tl:TE} {U:St} {H:Hp} {R:It->Hp->Prop} (h:tl U H fun x H1=>∃ d kvs,x= .ref d/\H1 d=some (.dT kvs)/\∀ o,R (YG d o kvs) (upd H1 d (.frz o (.dT kvs)))):Ww tl U H R:=h
theorem Iu {sub:List (Option Nat)} {g:TG} {tt:TT} {te:TE} {U:St} {Q:VK} {H:Hp} {d:Addr} {o:Obj} {kvs:List (List Key×V)} (Pv:Nat->List V->Hp->Prop) (hn:kvs.length<=sizeLine) (h0:Pv 0 [] H) (hl:∀ i ys H,Pv i ys H->ys.length<=i) (hq:∀ i ys H,Pv i ys H->H d=some (.frz o (.dT kvs)))
  (hs:∀ i ys H T k v b,kvs[i]?=some (k,v)->H b=some (.tup (k.map kV))->H T=none->Pv i ys H->g (.ref T) (cU sub U) (upd H T (.tup [.ref b,v])) fun σ2 H2=>KeepSt (cU sub U) σ2/\tt σ2 H2 fun b H3=>if b=true then te σ2 H3 fun y H4=>Pv (i+1) (ys ++ [y]) H4 else Pv (i+1) ys H3)
  (hd:∀ ys H D H',Pv kvs.length ys H->H D=none->Same H H'->H' D=some (.lst ys)->Q (.ref D) H'):oR sub g tt te U Q (YG d o kvs) H:=
 qm (n:=kvs.length) Pv hn h0 hl (fun i ys H hi p=>⟨hi,hq i ys H p⟩) (fun ys H p=>⟨YW _,hq _ ys H p⟩) (fun i ys H x H' hi p y=>by
  obtain ⟨T,k,v,b,h1,h2,h3,rfl,rfl⟩:=y
  exact hs i ys _ T k v b h1 h2 h3 p) fun ys H p D nD=>hd ys H D _ p nD ((Same.refl H).upd nD) ao
section
variable {X:Cx} {K:W.Frag} {a b e f o:Expr} {ta tb tc:TE} {pos apos cpos:Pos} {H:Hp} {Q:VK} {U:St}
theorem pU (hu:X.A.units+64 < cLine) (ha:JE X a ta) (hb:JE X b tb) (h:autoParam (m7 b=true) L2.auto4._auto_1):JE X (.Subscript a b pos) (GJ ta tb):=⟨Li (by omega) ha.run hb.run (pix h)⟩
theorem lu (h:ta U H fun x H1=>tb U H1 fun y H2=>∃ a v,x= .ref a/\DGet H2 a y (some v)/\Q v H2):GJ ta tb U H Q:=h
theorem MF (hu:X.A.units+64 < cLine) (ho:JE X o ta) (he:JE X e tb) (hbase:autoParam (nR o=true) L2.auto4._auto_1) (hline:autoParam ((apos.endLine == cpos.line)=true) L2.auto4._auto_1) (h:autoParam (notStar e=true) L2.auto4._auto_1):JE X (.Call (.Attribute o "get" apos) [e] [] cpos) (zP ta tb):=
 ⟨GZ (by omega) ho.run he.run ⟨Hi hbase,by rw [fP h];rfl,hline,by rw [fP h];rfl⟩⟩
theorem iH (h:ta U H fun x H1=>∃ a,x= .ref a/\IsD H1 a/\tb U H1 fun y H2=>∃ o,DGet H2 a y o/\Q (o.getD .non) H2):zP ta tb U H Q:=h
def R9 (K:W.Frag):R2:=fun x y H Q=>Gb (fun i j=>.bl (decide (i < j))) x y H Q\/Vs K x y H Q
theorem mF (hK:X.K=K) (hu:X.A.units+64 < cLine):OpR X (compareOp .Lt) (R9 K):=by
 subst hK
 exact Vp.or (QR (by omega))
theorem pH {i j:Int} (h:Q (.bl (decide (i < j))) H):R9 K (.int i) (.int j) H Q:=.inl ⟨_,_,rfl,rfl,h⟩
theorem Sg {p q:Addr} {ns ms:List Int} (hp:H p=some (.tup (ns.map V.int))) (hq:H q=some (.tup (ms.map V.int))) (h:Q (.bl (HT.lexLt ns ms)) H):R9 K (.ref p) (.ref q) H Q:=.inr ⟨p,q,ns,ms,rfl,rfl,SqT.of hp,SqT.of hq,h⟩
end
def Pn (K:W.Frag):R2:=fun x y H Q=>∃ a b xs,x= .ref a/\y= .ref b/\SqL K H a xs/\SqL K H b xs/\(∀ v∈xs,dG v=true\/∃ r,v= .ref r)/\Q (.bl false) H
section
variable {X:Cx}
theorem MJ (hu:X.A.units < cLine):OpR X (compareOp .NotEq) (Pn X.K):=by
 intro pins s U H x y v u Q I rx ry h
 obtain ⟨a,b,xs,rfl,rfl,ha,hb,fx,q⟩:=h
 cases rx
 cases ry
 obtain ⟨its,r1,p1,z1⟩:=I.list ha
 obtain ⟨jts,r2,p2,z2⟩:=I.list hb
 have l1:its.toArray.size=xs.length:=by simpa using r1.length.symm
 have l2:jts.toArray.size=xs.length:=by simpa using r2.length.symm
 refine SeqAt.RcNeAt.lists (e:=fun _=>true) p1.isList p2.isList (by rw [l1,l2]) hu (fun j h1 h2=>?_) X.prog X.w _ _ ?_
 ·have hj:j < xs.length:=by omega
  obtain ⟨u1,e1,q1⟩:=r1.get (YL hj)
  obtain ⟨u2,e2,q2⟩:=r2.get (YL hj)
  have f1:its.toArray[j]=u1:=by
   obtain ⟨_,z⟩:=YS.mp e1
   simpa using z
  have f2:jts.toArray[j]=u2:=by
   obtain ⟨_,z⟩:=YS.mp e2
   simpa using z
  rw [f1,f2]
  rcases fx _ (Aaa hj) with f | ⟨r,f⟩
  ·rw [← qF f]
   exact qY q1 q2 f f
  ·rw [f] at q1 q2
   cases (show u1=Value.ref r from q1)
   cases (show u2=Value.ref r from q2)
   exact AaY _
 ·have e:(!((List.range its.toArray.size).all (fun _=>true)))=false:=by simp
  rw [e]
  exact ⟨.bl false,H,I,rfl,q⟩
def Wx (K:W.Frag) (r:Bool):R2:=fun x y H Q=>∃ a b xs ys,x= .ref a/\y= .ref b/\SqL K H a xs/\SqL K H b ys/\xs.length≠ys.length/\Q (.bl r) H
theorem MK (hu:X.A.units < cLine):OpR X (compareOp .NotEq) (Wx X.K true):=by
 intro pins s U H x y v u Q I rx ry h
 obtain ⟨a,b,xs,ys,rfl,rfl,ha,hb,ne,q⟩:=h
 cases rx
 cases ry
 obtain ⟨its,r1,p1,z1⟩:=I.list ha
 obtain ⟨jts,r2,p2,z2⟩:=I.list hb
 have l1:its.toArray.size=xs.length:=by simpa using r1.length.symm
 have l2:jts.toArray.size=ys.length:=by simpa using r2.length.symm
 exact SeqAt.RcNeAt.lists_lengths p1.isList p2.isList (by rw [l1,l2];simpa using ne) hu X.prog X.w _ _ ⟨.bl true,H,I,rfl,q⟩
def Sh (K:W.Frag):R2:=fun x y H Q=>RW K x y H Q\/Pn K x y H Q\/Wx K true x y H Q
theorem xO {K:W.Frag} (hK:X.K=K) (hu:X.A.units+64 < cLine):OpR X (compareOp .NotEq) (Sh K):=by
 subst hK
 exact (RX rfl hu).or ((MJ (Aao (Aaz _ _) hu)).or (MK (Aao (Aaz _ _) hu)))
end
section
variable {K:W.Frag} {H:Hp} {Q:VK}
theorem xP {i j:Bool} (h:Q (.bl (!decide (V.bl i=V.bl j))) H):Sh K (.bl i) (.bl j) H Q:=.inl (RZ h)
theorem Ae {a b:Addr} {xs:List V} (ha:H a=some (.lst xs)) (hb:H b=some (.lst xs)) (f:∀ v∈xs,dG v=true\/∃ r,v= .ref r) (h:Q (.bl false) H):Sh K (.ref a) (.ref b) H Q:=.inr (.inl ⟨a,b,xs,rfl,rfl,SqL.of ha,SqL.of hb,f,h⟩)
end
end L2
namespace L2
open PySem PySem.Spec PyProof.Rows
open PySem.Sem (wp)
open AutoSeq1 (wpAny_loadPart')
end L2
namespace L2
open PySem PySem.Spec PyProof.Rows
def Ce:V->List V->Hp->VK->Prop:=fun x vs H Q=>∃ l xs i y,x= .ref l/\vs=[.int (i:Nat),y]/\H l=some (.lst xs)/\i<=xs.length/\xs.length<=100000/\Q .non (upd H l (.lst (xs.take i ++ y :: xs.drop i)))
section
variable {X:Cx}
theorem Em:Yy X "list.insert" Ce:=by
 intro pins s U H x vs v us Q I rx rv h
 obtain ⟨l,xs,i,y,rfl,rfl,hH,hi,hz,q⟩:=h
 have hs:200000<=sizeLine:=Nat.le_of_ble_eq_true rfl
 cases rx
 obtain ⟨u1,u2,rfl,ru1,ru2⟩:∃ u1 u2,us=[u1,u2]/\RelV (.int (i:Nat)) u1/\RelV y u2:=by
  cases rv with
  | cons a b=>
   cases b with
   | cons c d=>
    cases d
    exact ⟨_,_,rfl,a,c⟩
 obtain ⟨t,rfl⟩:=ru1
 obtain ⟨z,its,n,r,hl,e⟩:=I.lstM hH
 have hf:Builtin.List.listFitsIndex (i:Int)=true:=fitsIndex_both (by omega) (by omega)
 have hsz:its.toArray.size<=sizeLine:=by rw [Y9];omega
 obtain ⟨j,hj⟩:∃ j:Int,j=(i:Int):=⟨_,rfl⟩
 rw [← hj] at hf ⊢
 have hc0:¬(!Builtin.List.listFitsIndex j)=true:=by rw [hf];decide
 have hM:=AutoSeq1.list_insert_list_int_val_1 l its.toArray n j t u2 hc0 hsz
 refine call_meets F.slot_list_insert ⟨_,e,rfl⟩ F.entry_list_insert (F.args_list_insert_3 _ _ _) hM ⟨e,?_⟩
 clear hM
 refine ⟨.non,_,I.lset (its':=its.take i ++ u2 :: its.drop i) hH e ?_ ?_ ?_,rfl,q⟩
 ·have h0:¬ (j < 0):=by omega
  have h1:j.toNat=i:=by omega
  simp only [if_neg h0,h1,Y9]
  rw [Nat.min_eq_left (by omega)]
  apply Array.ext'
  simp
  exact ZV (by rw [Aax];omega)
 ·exact (r.take i).append (.cons ru2 (r.drop i))
 ·rw [YX,ZW,Zb,Aax]
  omega
end
section
variable {H:Hp} {Q:VK}
theorem Iv {l:Addr} {xs:List V} {i:Nat} {y:V} (hl:H l=some (.lst xs)) (hi:i<=xs.length) (hz:xs.length<=100000) (h:Q .non (upd H l (.lst (xs.take i ++ y :: xs.drop i)))):Ce (.ref l) [.int (i:Nat),y] H Q:=⟨l,xs,i,y,rfl,rfl,hl,hi,hz,h⟩
end
def Pq:List Int->List Int->Bool
 | [],_=>true
 | _ :: _,[]=>false
 | x :: xs,y :: ys=>if x=y then Pq xs ys else decide (x<=y)
theorem Iw:∀ xs ys:List Int,Pq xs ys=!HT.lexLt ys xs
 | [],[]=>rfl
 | [],_ :: _=>rfl
 | _ :: _,[]=>rfl
 | x :: xs,y :: ys=>by
  show (if x=y then Pq xs ys else decide (x<=y))=!(if y=x then HT.lexLt ys xs else decide (y < x))
  by_cases h:x=y
  ·rw [if_pos h,if_pos h.symm];exact Iw xs ys
  ·rw [if_neg h,if_neg (fun z=>h z.symm)]
   by_cases h2:x<=y
   ·rw [YZ h2,Y5 (by omega)];rfl
   ·rw [Y5 h2,YZ (by omega)];rfl
section
open PySem.SeqAt PySem.MeetsSeq PySem.MeetsSeq2 PySem.MeetsSeq3
open PySem.AutoSeq1 (wpAny_loadPart')
theorem Iz (A:Around) (s:Shared) (a:Int) (t:Tok) (c:Int) (u:Tok) (prog:Program) (w:World) (E:Value->Shared->Prop) (Q:Value->Shared->Prop) (h:Q (.bool (decide (a<=c))) s):
  wpAny (model prog w) A (richCompare .LtE (.int a t) (.int c u)) Q E s:=
 (PyProof.Rows.le_int h:wpAny (model prog w) A (compareOp .LtE (.int a t) (.int c u)) Q E s)
theorem vP (l b:Addr) (us ws:Array Value) (n n2:Nat) (dd dd2:Option Addr) (sl sl2:Array (Option Value)) (ns ms:List Int) (hi:IntsAre us.toList ns) (hj:IntsAre ws.toList ms):
  Meets (Builtin.«tuple.__le__» ⟨[.ref l,.ref b],[]⟩)
   (fun _ R s=>s.heap.get? l=some {cls:=.type "tuple",dict:=dd,data:=.seq us n,slots:=sl}/\s.heap.get? b=some {cls:=.type "tuple",dict:=dd2,data:=.seq ws n2,slots:=sl2}/\
    R (.ok (.ret (.bool (Pq ns ms)))) s):=
 .of_wp fun prog w A R s h=>by
  obtain ⟨hp,g,d,tk,os⟩:=s;obtain ⟨hl,hb,h⟩:=h
  have f2:=AutoSeq1.sub_tuple_tuple
  have z1:us.size=ns.length:=by rw [← hi.length];simp
  have z2:ws.size=ms.length:=by rw [← hj.length];simp
  wp_walk using wpAny_loadPart' hl,wpAny_loadPart' hb,wpAny_forIn_list _ (fun rest st s'=>st.1=none/\s'=⟨hp,g,d,tk,os⟩/\∃ (va wa:List Value) (na ma:List Int),rest=va.zip wa/\
   IntsAre va na/\IntsAre wa ma/\na.length+ws.size=ma.length+us.size/\R (.ok (.ret (.bool (Pq na ma)))) ⟨hp,g,d,tk,os⟩) _
  case turn=>
   rintro ⟨y,x⟩ rest st s' ⟨hst,rfl,va,wa,na,ma,hz,hva,hwa,hlen,hR⟩
   cases hva with
   | nil=>rw [List.zip_nil_left] at hz;cases hz
   | cons a t hva'=>
    cases hwa with
    | nil=>rw [List.zip_nil_right] at hz;cases hz
    | cons c u hwa'=>
     rw [Abk] at hz
     injection hz with hyx hrest
     injection hyx with hy hx
     subst hy hx
     simp only [Pq] at hR
     simp only [ZW] at hlen
     obtain ⟨e,he,hiff⟩:=HT.eqAt_int A.in1 ⟨hp,g,d,tk,os⟩ a t c u
     refine YK (he prog w _ _ ?_)
     cases e with
     | true=>
      rw [if_pos (hiff.mp rfl)] at hR
      wp_walk
      exact ⟨rfl,rfl,_,_,_,_,hrest,hva',hwa',by omega,hR⟩
     | false=>
      rw [if_neg (fun q=>absurd (hiff.mpr q) Y4)] at hR
      have hri:=Iz A.in1 ⟨hp,g,d,tk,os⟩ a t c u prog w
      wp_walk using hri
      exact ⟨_,rfl,by simpa using hR⟩
  case fin=>
   rintro ⟨b1,b2⟩ s' ⟨hst,rfl,va,wa,na,ma,hz,hva,hwa,hlen,hR⟩
   simp only at hst
   subst hst
   have hv:Pq na ma=decide (us.size<=ws.size):=by
    cases hva with
    | nil=>
     simp only [Z1] at hlen
     exact (YZ (by omega)).symm
    | cons a t hv=>
     cases hwa with
     | nil=>
      simp only [Z1,ZW] at hlen
      exact (Y5 (by omega)).symm
     | cons c u hw=>
      rw [Abk] at hz
      cases hz
   rw [hv] at hR
   wp_walk
   exact ⟨_,rfl,by simpa [Builtin.Tuple.tupleCompareSizes] using hR⟩
  case h=>
   exact ⟨rfl,rfl,us.toList,ws.toList,ns,ms,rfl,hi,hj,by omega,h⟩
end
section
variable {X:Cx} {K:W.Frag}
def Wy (K:W.Frag):R2:=fun x y H Q=>∃ a b ns ms,x= .ref a/\y= .ref b/\SqT K H a (ns.map V.int)/\SqT K H b (ms.map V.int)/\Q (.bl (!HT.lexLt ms ns)) H
theorem Sq (hu:X.A.units < cLine):OpR X (compareOp .LtE) (Wy X.K):=by
 intro pins s U H x y v u Q I rx ry h
 obtain ⟨a,b,ns,ms,rfl,rfl,ha,hb,q⟩:=h
 cases rx
 cases ry
 obtain ⟨its,r1,p1,_⟩:=I.tuple ha
 obtain ⟨its2,r2,p2,_⟩:=I.tuple hb
 have i1:IntsAre its.toArray.toList ns:=intsAre_of r1
 have i2:IntsAre its2.toArray.toList ms:=intsAre_of r2
 rw [← Iw] at q
 obtain ⟨⟨cls,dd,data,sl⟩,ho,hc,n,hd⟩:=id p1
 obtain ⟨⟨cls2,dd2,data2,sl2⟩,ho2,hc2,n2,hd2⟩:=id p2
 simp only at hc hd hc2 hd2
 subst hc hd hc2 hd2
 exact richCompare_meets_room (op:=.LtE) ⟨_,ho,rfl⟩ ⟨_,ho2,rfl⟩ PySem.F.slot_tuple_le PySem.F.entry_tuple_le (PySem.F.args_tuple_le_2 _ _) (vP a b its.toArray its2.toArray n n2 dd dd2 sl sl2 ns ms i1 i2)
  ⟨ho,ho2,⟨(fun x=>nomatch x),⟨.bl (Pq ns ms),H,I,rfl,q⟩⟩⟩ hu
def Ss (K:W.Frag):R2:=fun x y H Q=>Gb (fun i j=>.bl (decide (i<=j))) x y H Q\/Wy K x y H Q
theorem uO (hK:X.K=K) (hu:X.A.units+64 < cLine):OpR X (compareOp .LtE) (Ss K):=by
 subst hK
 exact Gf.or (Sq (by omega))
def Pr (K:W.Frag):R2:=fun x y H Q=>∃ a b ys,x= .ref a/\y= .ref b/\SqT K H a []/\SqT K H b ys/\Q (.ref b) H
theorem MN:OpR X (binaryOp .Add) (Pr X.K):=by
 intro pins s U H x y v u Q I rx ry h
 obtain ⟨a,b,ys,rfl,rfl,ha,hb,q⟩:=h
 cases rx
 cases ry
 obtain ⟨its,r1,p1,_⟩:=I.tuple ha
 obtain ⟨its2,r2,p2,_⟩:=I.tuple hb
 have e0:its=[]:=r1.nil_iff.mpr rfl
 subst e0
 obtain ⟨⟨cls,dd,data,sl⟩,ho,hc,n,hd⟩:=id p1
 obtain ⟨⟨cls2,dd2,data2,sl2⟩,ho2,hc2,n2,hd2⟩:=id p2
 simp only at hc hd hc2 hd2
 subst hc hd hc2 hd2
 exact concat_meets ⟨_,ho,rfl⟩ ⟨_,ho2,rfl⟩ noFill_tuple_add seq_tuple_add PySem.F.slot_tuple_add PySem.F.entry_tuple_add (PySem.F.args_tuple_add_2 _ _)
   (tuple_addW0 a b _ its2.toArray n n2 dd dd2 sl sl2 rfl) ⟨ho,ho2,⟨.ref b,H,I,rfl,q⟩⟩
def yR (K:W.Frag):R2:=fun x y H Q=>BX K x y H Q\/Pr K x y H Q
theorem cA (hK:X.K=K):OpR X (binaryOp .Add) (yR K):=by
 subst hK
 exact (Ms rfl).or MN
variable {a b c d:Expr} {ta tb tc td:TE} {pos:Pos}
def Cg (r r' r2:R2) (ta tb tc td:TE):TE:=fun U H Q=>ta U H fun x H1=>tb U H1 fun y H2=>r x y H2 fun z H3=>∃ k,z= .bl k/\
 (if k=true then tc U H3 fun w' H4=>r' y w' H4 fun z' H5=>∃ k',z'= .bl k'/\(if k'=true then td U H5 fun e' H6=>r2 w' e' H6 Q else Q (.bl false) H5) else Q (.bl false) H3)
theorem En {op op' op2:CmpOp} {r r' r2:R2} (ho:OpR X (compareOp op) r) (ho':OpR X (compareOp op') r') (ho2:OpR X (compareOp op2) r2) (ha:JE X a ta) (hb:JE X b tb) (hc:JE X c tc) (hd:JE X d td)
  (hm:autoParam (lastMarks [op,op',op2] [b,c,d]=false) L2.auto5._auto_1):JT X (.Compare a [op,op',op2] [b,c,d] pos) (v4 (Cg r r' r2 ta tb tc td)):=⟨by
 intro pins s U H Q I h
 refine isTrue_chain (dM (ha.run pins s U H _ I h) fun v s1 ⟨x,H1,I1,r1,q1⟩=>test_link (dM (hb.run pins s1 U H1 _ I1 q1) fun u s2 ⟨y,H2,I2,r2',q2⟩=>
  dM (ho pins s2 U H2 x y v u _ I2 r1 r2' q2) fun d1 s3 ⟨z,H3,I3,r3,k,e,q3⟩=>?_)) hm
 subst e
 cases r3
 refine Z4 ?_
 cases k with
 | false=>
  obtain ⟨k',e',q'⟩:=q3
  cases e'
  exact ite_ff ⟨H3,I3,q'⟩
 | true=>
  refine ite_tt (test_link (dM (hc.run pins s3 U H3 _ I3 q3) fun w' s4 ⟨z',H4,I4,r4,q4⟩=>dM (ho' pins s4 U H4 y z' u w' _ I4 r2' r4 q4) fun d' s5 qq0=>?_))
  obtain ⟨z2,H5,I5,r5,k2,e2,q5⟩:=qq0
  subst e2
  cases r5
  refine Z4 ?_
  cases k2 with
  | false=>
   obtain ⟨k',e',q'⟩:=q5
   cases e'
   exact ite_ff ⟨H5,I5,q'⟩
  | true=>
   refine ite_tt (test_last (dM (hd.run pins s5 U H5 _ I5 q5) fun w2 s6 ⟨z3,H6,I6,r6,q6⟩=>dM (ho2 pins s6 U H6 z' z3 w' w2 _ I6 r4 r6 q6) fun d3 s7 qq0=>?_))
   obtain ⟨z4,H7,I7,r7,k4,e4,q7⟩:=qq0
   subst e4
   cases r7
   exact Z4 ⟨H7,I7,q7⟩⟩
end
section
variable {H:Hp} {Q:VK} {K:W.Frag} {U:St}
theorem IK {i j:Int} (h:Q (.bl (decide (i<=j))) H):Ss K (.int i) (.int j) H Q:=.inl ⟨_,_,rfl,rfl,h⟩
theorem Su {p q:Addr} {ns ms:List Int} (hp:H p=some (.tup (ns.map V.int))) (hq:H q=some (.tup (ms.map V.int))) (h:Q (.bl (!HT.lexLt ms ns)) H):Ss K (.ref p) (.ref q) H Q:=.inr ⟨p,q,ns,ms,rfl,rfl,SqT.of hp,SqT.of hq,h⟩
theorem Ci {i j:Int} (h:Q (.int (i+j)) H):yR K (.int i) (.int j) H Q:=.inl (Mt h)
theorem jK {a b:Addr} {xs ys:List V} (ha:H a=some (.lst xs)) (hb:H b=some (.lst ys)) (c:xs.length+ys.length<=sizeLine) (h:∀ p,H p=none->Q (.ref p) (upd H p (.lst (xs ++ ys)))):yR K (.ref a) (.ref b) H Q:=.inl (Mu ha hb c h)
theorem oE {a b:Addr} {xs ys:List V} (ha:H a=some (.tup xs)) (hb:H b=some (.tup ys)) (c:xs.length+ys.length<=sizeLine) (h:∀ p H',Same H H'->H' p=some (.tup (xs ++ ys))->Q (.ref p) H'):yR K (.ref a) (.ref b) H Q:=by
 cases xs with
 | nil=>exact .inr ⟨a,b,ys,rfl,rfl,SqT.of ha,SqT.of hb,h b H (Same.refl H) hb⟩
 | cons x xs=>exact .inl (.inr ⟨a,b,_,ys,rfl,rfl,SqT.of ha,SqT.of hb,by simp,c,fun e=>h a H (Same.refl H) (by rw [e,Zt];exact ha),fun _ p np=>h p _ ((Same.refl H).upd np) ao⟩)
theorem yS {r r' r2:R2} {ta tb tc td:TE} (h:ta U H fun x H1=>tb U H1 fun y H2=>r x y H2 fun z H3=>∃ k,z= .bl k/\
 (if k=true then tc U H3 fun w' H4=>r' y w' H4 fun z' H5=>∃ k',z'= .bl k'/\(if k'=true then td U H5 fun e' H6=>r2 w' e' H6 Q else Q (.bl false) H5) else Q (.bl false) H3)):Cg r r' r2 ta tb tc td U H Q:=h
end
end L2
namespace My
open PySem L2
local macro_rules | `(tactic| walk_at "p") => `(tactic| first | exact aH _ | with_unfolding_all rfl)
local macro_rules | `(tactic| walk_at "0") => `(tactic| (first | refine vH ?_ | refine sS ?_ | refine sO ?_ | refine pA ?_ | refine pC ?_ | (refine' o4 ?hz0 ?_; (case hz0 => with_unfolding_all rfl)) | refine Ks ?_ | refine vM ?_ | refine jk ?_ | refine jY ?_ | refine o5 ?_ | refine oU ?_ | refine jT ?_ | refine oW ?_ | refine jR ?_ | refine vC ?_ | refine jV ?_ | refine vN ?_ | refine vJ ?_ | refine jZ ?_ | refine vD ?_ | refine oX ?_ | refine oY ?_ | refine vG ?_ | refine jW ?_ | refine oZ ?_ | refine jX ?_ | refine oV ?_ | refine jU ?_ | refine vI ?_ | refine kZ ?_ | refine kY ?_ | refine vK ?_ | refine vL ?_ | refine o6 ?_ | refine j0 ?_ | refine j4 ?_ | refine j5 ?_ | refine j6 ?_ | refine j7 ?_ | refine o7 ?_ | refine Kv ?_ | refine iw ?_ | refine km ?_ | (refine' gW (SqT.of ?hz0) ?hz1 ?_; (case hz0 => first | assumption | exact ao); (case hz1 => rfl)) | refine iz ?_ | refine iC ?_ | refine o9 ?_ | refine iB ?_ | refine kI ?_ | refine kJ ?_ | refine jw ?_ | refine jx ?_ | refine kO ?_ | refine kW ?_ | refine ph ?_ | refine jn ?_ | refine jo ?_ | refine kE ?_ | refine jq ?_ | refine iy ?_ | refine j9 ?_ | (refine' Ku ?hz0 ?_; (case hz0 => with_unfolding_all first | assumption | omega | (dsimp only <;> omega) | exact ⟨by omega, by omega⟩ | exact .inl ⟨by omega, by omega⟩ | exact .inr ⟨by omega, by omega⟩ | exact ⟨by decide, by decide, by decide⟩)) | (refine' j8 ?hz0 ?_; (case hz0 => with_unfolding_all first | assumption | omega | (dsimp only <;> omega) | exact ⟨by omega, by omega⟩ | exact .inl ⟨by omega, by omega⟩ | exact .inr ⟨by omega, by omega⟩ | exact ⟨by decide, by decide, by decide⟩)) | (refine' bW (SqL.of ?hz0) ?hz1 ?_; (case hz0 => first | assumption | exact ao); (case hz1 => with_unfolding_all rfl)) | (refine' lJ (SqT.of ?hz0) ?hz1 ?_; (case hz0 => first | assumption | exact ao); (case hz1 => with_unfolding_all rfl)) | (refine' jl ?hz0 ?hz1 ?_; (case hz0 => first | assumption | exact ao); (case hz1 => with_unfolding_all rfl)) | refine iD ?_ | refine lu ?_ | refine iH ?_ | refine pG ?_ | refine lr ?_ | refine pH ?_))
local macro_rules | `(tactic| walk_at "1") => `(tactic| (first | refine vH ?_ | refine sS ?_ | refine sO ?_ | refine pA ?_ | refine pC ?_ | (refine' o4 ?hz0 ?_; (case hz0 => with_unfolding_all rfl)) | refine Ks ?_ | refine vM ?_ | refine jk ?_ | refine jY ?_ | refine o5 ?_ | refine oU ?_ | refine jT ?_ | refine oW ?_ | refine jR ?_ | refine vC ?_ | refine jV ?_ | refine vN ?_ | refine vJ ?_ | refine jZ ?_ | refine vD ?_ | refine oX ?_ | refine oY ?_ | refine vG ?_ | refine jW ?_ | refine oZ ?_ | refine jX ?_ | refine oV ?_ | refine jU ?_ | refine vI ?_ | refine kZ ?_ | refine kY ?_ | refine vK ?_ | refine vL ?_ | refine o6 ?_ | refine j0 ?_ | refine j4 ?_ | refine j5 ?_ | refine j6 ?_ | refine j7 ?_ | refine o7 ?_ | refine Kv ?_ | refine iw ?_ | refine km ?_ | (refine' gW (SqT.of ?hz0) ?hz1 ?_; (case hz0 => first | assumption | exact ao); (case hz1 => rfl)) | refine iz ?_ | refine iC ?_ | refine o9 ?_ | refine iB ?_ | refine kI ?_ | refine kJ ?_ | refine jw ?_ | refine jx ?_ | refine kO ?_ | refine kW ?_ | refine ph ?_ | refine jn ?_ | refine jo ?_ | refine kE ?_ | refine jq ?_ | refine iy ?_ | refine j9 ?_ | (refine' Ku ?hz0 ?_; (case hz0 => with_unfolding_all first | assumption | omega | (dsimp only <;> omega) | exact ⟨by omega, by omega⟩ | exact .inl ⟨by omega, by omega⟩ | exact .inr ⟨by omega, by omega⟩ | exact ⟨by decide, by decide, by decide⟩)) | (refine' j8 ?hz0 ?_; (case hz0 => with_unfolding_all first | assumption | omega | (dsimp only <;> omega) | exact ⟨by omega, by omega⟩ | exact .inl ⟨by omega, by omega⟩ | exact .inr ⟨by omega, by omega⟩ | exact ⟨by decide, by decide, by decide⟩)) | (refine' bW (SqL.of ?hz0) ?hz1 ?_; (case hz0 => first | assumption | exact ao); (case hz1 => with_unfolding_all rfl)) | (refine' lJ (SqT.of ?hz0) ?hz1 ?_; (case hz0 => first | assumption | exact ao); (case hz1 => with_unfolding_all rfl)) | (refine' jl ?hz0 ?hz1 ?_; (case hz0 => first | assumption | exact ao); (case hz1 => with_unfolding_all rfl)) | refine iD ?_ | refine IK ?_ | refine yS ?_ | refine lu ?_ | refine iH ?_ | refine pG ?_ | refine lr ?_ | refine pH ?_))
local macro_rules | `(tactic| walk_at "2") => `(tactic| (first | refine vH ?_ | refine sS ?_ | refine sO ?_ | refine pA ?_ | refine pC ?_ | (refine' o4 ?hz0 ?_; (case hz0 => with_unfolding_all rfl)) | refine Ks ?_ | refine vM ?_ | refine jk ?_ | refine jY ?_ | refine o5 ?_ | refine oU ?_ | refine jT ?_ | refine oW ?_ | refine jR ?_ | refine vC ?_ | refine jV ?_ | refine vN ?_ | refine vJ ?_ | refine jZ ?_ | refine vD ?_ | refine oX ?_ | refine oY ?_ | refine vG ?_ | refine jW ?_ | refine oZ ?_ | refine jX ?_ | refine oV ?_ | refine jU ?_ | refine vI ?_ | refine kZ ?_ | refine kY ?_ | refine vK ?_ | refine vL ?_ | refine o6 ?_ | refine j0 ?_ | refine j4 ?_ | refine j5 ?_ | refine j6 ?_ | refine j7 ?_ | refine o7 ?_ | refine Kv ?_ | refine iw ?_ | refine km ?_ | (refine' gW (SqT.of ?hz0) ?hz1 ?_; (case hz0 => first | assumption | exact ao); (case hz1 => rfl)) | refine iz ?_ | refine iC ?_ | refine o9 ?_ | refine iB ?_ | refine kI ?_ | refine kJ ?_ | refine jw ?_ | refine jx ?_ | refine kO ?_ | refine kW ?_ | refine ph ?_ | refine jn ?_ | refine jo ?_ | refine kE ?_ | refine jq ?_ | refine iy ?_ | refine j9 ?_ | (refine' Ku ?hz0 ?_; (case hz0 => with_unfolding_all first | assumption | omega | (dsimp only <;> omega) | exact ⟨by omega, by omega⟩ | exact .inl ⟨by omega, by omega⟩ | exact .inr ⟨by omega, by omega⟩ | exact ⟨by decide, by decide, by decide⟩)) | (refine' j8 ?hz0 ?_; (case hz0 => with_unfolding_all first | assumption | omega | (dsimp only <;> omega) | exact ⟨by omega, by omega⟩ | exact .inl ⟨by omega, by omega⟩ | exact .inr ⟨by omega, by omega⟩ | exact ⟨by decide, by decide, by decide⟩)) | (refine' bW (SqL.of ?hz0) ?hz1 ?_; (case hz0 => first | assumption | exact ao); (case hz1 => with_unfolding_all rfl)) | (refine' lJ (SqT.of ?hz0) ?hz1 ?_; (case hz0 => first | assumption | exact ao); (case hz1 => with_unfolding_all rfl)) | (refine' jl ?hz0 ?hz1 ?_; (case hz0 => first | assumption | exact ao); (case hz1 => with_unfolding_all rfl)) | refine iD ?_ | refine xP ?_ | refine lu ?_ | refine iH ?_ | refine pG ?_ | refine lr ?_ | refine pH ?_))
local macro_rules | `(tactic| walk_at "3") => `(tactic| (first | refine vH ?_ | refine sS ?_ | refine sO ?_ | refine pA ?_ | refine pC ?_ | (refine' o4 ?hz0 ?_; (case hz0 => with_unfolding_all rfl)) | refine Ks ?_ | refine vM ?_ | refine jk ?_ | refine jY ?_ | refine o5 ?_ | refine oU ?_ | refine jT ?_ | refine oW ?_ | refine jR ?_ | refine vC ?_ | refine jV ?_ | refine vN ?_ | refine vJ ?_ | refine jZ ?_ | refine vD ?_ | refine oX ?_ | refine oY ?_ | refine vG ?_ | refine jW ?_ | refine oZ ?_ | refine jX ?_ | refine oV ?_ | refine jU ?_ | refine vI ?_ | refine kZ ?_ | refine kY ?_ | refine vK ?_ | refine vL ?_ | refine o6 ?_ | refine j0 ?_ | refine j4 ?_ | refine j5 ?_ | refine j6 ?_ | refine j7 ?_ | refine o7 ?_ | refine Kv ?_ | refine iw ?_ | refine km ?_ | (refine' gW (SqT.of ?hz0) ?hz1 ?_; (case hz0 => first | assumption | exact ao); (case hz1 => rfl)) | refine iz ?_ | refine iC ?_ | refine o9 ?_ | refine iB ?_ | refine kI ?_ | refine kJ ?_ | refine jw ?_ | refine jx ?_ | refine kO ?_ | refine kW ?_ | refine ph ?_ | refine jn ?_ | refine jo ?_ | refine kE ?_ | refine jq ?_ | refine iy ?_ | refine j9 ?_ | (refine' Ku ?hz0 ?_; (case hz0 => with_unfolding_all first | assumption | omega | (dsimp only <;> omega) | exact ⟨by omega, by omega⟩ | exact .inl ⟨by omega, by omega⟩ | exact .inr ⟨by omega, by omega⟩ | exact ⟨by decide, by decide, by decide⟩)) | (refine' j8 ?hz0 ?_; (case hz0 => with_unfolding_all first | assumption | omega | (dsimp only <;> omega) | exact ⟨by omega, by omega⟩ | exact .inl ⟨by omega, by omega⟩ | exact .inr ⟨by omega, by omega⟩ | exact ⟨by decide, by decide, by decide⟩)) | (refine' bW (SqL.of ?hz0) ?hz1 ?_; (case hz0 => first | assumption | exact ao); (case hz1 => with_unfolding_all rfl)) | (refine' lJ (SqT.of ?hz0) ?hz1 ?_; (case hz0 => first | assumption | exact ao); (case hz1 => with_unfolding_all rfl)) | (refine' jl ?hz0 ?hz1 ?_; (case hz0 => first | assumption | exact ao); (case hz1 => with_unfolding_all rfl)) | refine BV ?_ | refine iD ?_ | refine xP ?_ | refine Ci ?_ | refine lu ?_ | refine iH ?_ | refine pG ?_ | refine lr ?_ | refine pH ?_))
abbrev bF (d:Stmt) (x:Str):Prop:=(aB d).names.lookup x=some NameKind.local
abbrev Sv (d:Stmt) (x:Str):Prop:=(aB d).names.lookup x=some NameKind.cell
abbrev cB (d:Stmt) (x:Str):Prop:=(aB d).names.lookup x=some NameKind.globalImplicit
def top (i:Nat):Stmt:=PySem.Challenge.pw_panethread_k69_forged_lists_and_news.main.body.getD i (.Pass ⟨0,0,0,0⟩)
abbrev fH:Stmt:=top 6
abbrev fJ:Stmt:=top 7
abbrev gY:Stmt:=top 8
abbrev cu:Stmt:=top 11
abbrev dj:Stmt:=top 12
abbrev oF:Stmt:=top 13
abbrev d8:Stmt:=top 14
abbrev cF:Stmt:=top 15
abbrev eQ:Stmt:=top 16
abbrev dO:Stmt:=top 17
abbrev aY:Stmt:=top 18
abbrev gq:Stmt:=top 19
abbrev bO:Stmt:=top 20
abbrev fK:Stmt:=top 21
abbrev bK:Stmt:=top 22
abbrev cN:Stmt:=top 23
abbrev gZ:Stmt:=top 25
abbrev cL:Stmt:=top 26
abbrev bT:Stmt:=top 27
abbrev cG:Stmt:=top 28
abbrev dR:Stmt:=top 29
abbrev bN:Stmt:=top 30
abbrev bG:Stmt:=top 31
abbrev bx:Stmt:=top 32
abbrev cO:Stmt:=top 33
abbrev bu:Stmt:=top 34
abbrev bL:Stmt:=top 35
abbrev aJ:Stmt:=top 36
abbrev bD:Stmt:=top 37
abbrev aG:Stmt:=top 38
abbrev bB:Stmt:=top 39
abbrev cV:Stmt:=top 40
abbrev bM:Stmt:=top 41
abbrev cM:Stmt:=top 42
abbrev dU:Stmt:=top 43
abbrev nj:Stmt:=initOf (top 2)
abbrev nu:Stmt:=initOf (top 3)
local macro_rules | `(tactic| walk_at "s") => `(tactic| (with_reducible repeat (first | refine wA ?_ | walk_at "0")))
local macro_rules | `(tactic| walk_at "n") => `(tactic| (with_reducible repeat (walk_at "0")))
structure Txt (K:W.Frag) (mg:Str->Option Value):Prop where
 b_ValueError:mg "ValueError"=none
 b_all:mg "all"=none
 b_bool:mg "bool"=none
 b_enumerate:mg "enumerate"=none
 b_int:mg "int"=none
 b_isinstance:mg "isinstance"=none
 b_len:mg "len"=none
 b_list:mg "list"=none
 b_max:mg "max"=none
 b_range:mg "range"=none
 b_sorted:mg "sorted"=none
 b_tuple:mg "tuple"=none
 c_MOST_COST:∃ t,mg "MOST_COST"=some (.int 48 t)
 c_MOST_LETTERS:∃ t,mg "MOST_LETTERS"=some (.int 24 t)
 d_is_number:eY K mg "is_number" fH
 d_is_within:eY K mg "is_within" fJ
 d_is_span:eY K mg "is_span" gY
 d_are_numbers:eY K mg "are_numbers" cu
 d_is_priced:eY K mg "is_priced" dj
 d_span_of:eY K mg "span_of" oF
 d_ranks_of:eY K mg "ranks_of" d8
 d_is_ranked:eY K mg "is_ranked" cF
 d_need_ranked:eY K mg "need_ranked" eQ
 d_not_among:eY K mg "not_among" dO
 d_moved_between:eY K mg "moved_between" aY
 d_news_of:eY K mg "news_of" gq
 d_are_all_numbers:eY K mg "are_all_numbers" bO
 d_are_news:eY K mg "are_news" fK
 d_told_behind:eY K mg "told_behind" bK
 d_followed:eY K mg "followed" cN
 d_law_cell:eY K mg "_law_cell" gZ
 d_law_drawn:eY K mg "_law_drawn" cL
 d_law_tuples:eY K mg "_law_tuples" bT
 d_law_news_kind:eY K mg "_law_news_kind" cG
 d_law_ranks:eY K mg "_law_ranks" dR
 d_law_news:eY K mg "_law_news" bN
 d_law_list:eY K mg "_law_list" bG
 d_law_next:eY K mg "_law_next" bx
 d_law_good:eY K mg "_law_good" cO
 d_law_following:eY K mg "_law_following" bu
 d_law_one_spoilt:eY K mg "_law_one_spoilt" bL
 d_law_list_spoilt:eY K mg "_law_list_spoilt" aJ
 d_law_row_spoilt:eY K mg "_law_row_spoilt" bD
 d_law_news_spoilt:eY K mg "_law_news_spoilt" aG
 d_law_refused:eY K mg "_law_refused" bB
 d_law_no_list:eY K mg "_law_no_list" cV
 d_law_judged:eY K mg "_law_judged" bM
 d_law_tried:eY K mg "_law_tried" cM
 d_law:eY K mg "law" dU
 x_PaneError:HJ K mg "PaneError"
 x_NoNear:DG K mg "NoNear" ["found"] "NoNear.__init__" nj
 x_NoTold:DG K mg "NoTold" ["found"] "NoTold.__init__" nu
 u_NoNear_PaneError:Sub K mg "NoNear" "PaneError" true
 u_NoNear_NoNear:Sub K mg "NoNear" "NoNear" true
 u_NoNear_NoTold:Sub K mg "NoNear" "NoTold" false
 u_NoTold_PaneError:Sub K mg "NoTold" "PaneError" true
 u_NoTold_NoNear:Sub K mg "NoTold" "NoNear" false
 u_NoTold_NoTold:Sub K mg "NoTold" "NoTold" true
 v_NoNear:PySem.W.kitOne K (.ref (iU mg "NoNear")) (.type "ValueError")=some true
 v_NoTold:PySem.W.kitOne K (.ref (iU mg "NoTold")) (.type "ValueError")=some true
section
variable {P:Program} {w:World} {K:W.Frag} {mg:Str->Option Value} {base:Heap}
theorem Wz:cB fH "isinstance":=by trivial
theorem kz01:cB fH "bool":=by trivial
theorem WD:bF fH "thing":=by trivial
theorem kz03:cB fH "int":=by trivial
theorem kz04:bF fJ "low":=by trivial
theorem WF:bF fJ "thing":=by trivial
theorem kz06:bF fJ "high":=by trivial
theorem kz07:cB fJ "is_number":=by trivial
theorem WK:cB gY "is_within":=by trivial
theorem WL:bF gY "many":=by trivial
theorem WM:bF gY "begin":=by trivial
theorem kz0b:bF gY "end":=by trivial
theorem uP:bF nj "self":=by trivial
theorem sV:bF nj "found":=by trivial
theorem uQ:bF nu "self":=by trivial
theorem sW:bF nu "found":=by trivial
theorem Same.put {H H':Hp} {p:Addr} {o:HO} (s:Same H H') (hn:H p=none):Same H (upd H' p o):=fun b u e=>by
 rw [aC (fun z=>by rw [z,hn] at e;cases e)]
 exact s b u e
theorem Same.back {H H':Hp} {p:Addr} (s:Same H H') (h:H' p=none):H p=none:=by
 cases e:H p with
 | none=>rfl
 | some o=>rw [s _ _ e] at h;cases h
theorem gNe {H1:Hp} {x g:Addr} {u:HO} (nx:H1 x=none) (e:H1 g=some u):g≠x:=fun z=>by rw [z,nx] at e;cases e
abbrev P3:=Int×(Int×Int)
def v3 (p:P3):List V:=[.int (p.1:Int),.int (p.2.1:Int),.int (p.2.2:Int)]
def A3 (H:Hp) (v:V) (p:P3):Prop:=∃ a,v= .ref a/\H a=some (.tup (v3 p))
theorem A3.same {H H':Hp} {v:V} {p:P3} (h:A3 H v p) (s:Same H H'):A3 H' v p:=by
 obtain ⟨a,e,ha⟩:=h
 exact ⟨a,e,s _ _ ha⟩
def R3 (H:Hp) (vs:List V) (L:List P3):Prop:=vs.length=L.length/\∀ (i:Nat) (v:V) (p:P3),vs[i]?=some v->L[i]?=some p->A3 H v p
theorem R3.same {H H':Hp} {vs:List V} {L:List P3} (h:R3 H vs L) (s:Same H H'):R3 H' vs L:=⟨h.1,fun i v p e1 e2=>(h.2 i v p e1 e2).same s⟩
theorem R3.nil {H:Hp}:R3 H [] []:=⟨rfl,fun i v p e=>by simp at e⟩
theorem R3.push {H:Hp} {vs:List V} {L:List P3} {v:V} {p:P3} (h:R3 H vs L) (a:A3 H v p):R3 H (vs ++ [v]) (L ++ [p]):=by
 refine ⟨by simp [h.1],fun i u r e1 e2=>?_⟩
 by_cases hi:i < vs.length
 ·rw [Zv hi] at e1
  rw [Zv (by rw [← h.1];exact hi)] at e2
  exact h.2 i u r e1 e2
 ·rw [Zf (by omega)] at e1
  rw [Zf (by rw [← h.1];omega),← h.1] at e2
  have hz:i - vs.length=0:=by
   have:=(YS.mp e1).1
   simp at this;omega
  rw [hz] at e1 e2
  cases e1;cases e2
  exact a
theorem R3.cat {H:Hp} {vs us:List V} {L M:List P3} (h:R3 H vs L) (g:R3 H us M):R3 H (vs ++ us) (L ++ M):=by
 refine ⟨by simp [h.1,g.1],fun i u r e1 e2=>?_⟩
 by_cases hi:i < vs.length
 ·rw [Zv hi] at e1
  rw [Zv (by rw [← h.1];exact hi)] at e2
  exact h.2 i u r e1 e2
 ·rw [Zf (by omega)] at e1
  rw [Zf (by rw [← h.1];omega),← h.1] at e2
  exact g.2 _ u r e1 e2
theorem R3.at {H:Hp} {vs:List V} {L:List P3} (h:R3 H vs L) {i:Nat} {v:V} (e:vs[i]?=some v):∃ p,L[i]?=some p/\A3 H v p:=by
 have hi:=(YS.mp e).1
 have hj:i < L.length:=by rw [← h.1];exact hi
 exact ⟨L[i],YL hj,h.2 i v _ e (YL hj)⟩
theorem R3.of {H:Hp} {vs:List V} {L:List P3} (h:R3 H vs L) {i:Nat} {p:P3} (e:L[i]?=some p):∃ v,vs[i]?=some v/\A3 H v p:=by
 have hi:=(YS.mp e).1
 have hj:i < vs.length:=by rw [h.1];exact hi
 exact ⟨vs[i],YL hj,h.2 i _ p (YL hj) e⟩
def kp (s:Int×Int):List Key:=[.inl (s.1:Int),.inl (s.2:Int)]
theorem Af {s t:Int×Int} (h:kp s=kp t):s=t:=by
 unfold kp at h
 simp only [Abt,Sum.inl.injEq,and_true] at h
 exact Prod.ext (by omega) (by omega)
def yU (p:P3):Prop:=0<=p.1/\p.1<=48/\0<=p.2.1/\p.2.1 < p.2.2/\p.2.2<=24
def i3 (p:P3):List Int:=[(p.1:Int),(p.2.1:Int),(p.2.2:Int)]
structure Good (L:List P3):Prop where
 ok:∀ p∈L,yU p
 nd:(L.map (·.2)).Nodup
 so:∀ (i:Nat) (p q:P3),L[i]?=some p->L[i+1]?=some q->HT.lexLt (i3 p) (i3 q)=true
 le:L.length<=1000
theorem Ag:aP ["self","found"] ["self","found"] (aB nj):=⟨rfl,rfl,rfl,by trivial,rfl,by trivial,by trivial⟩
theorem Eo (T:Txt K mg):U0 P w K mg base 1 "NoNear" (iU mg "NoNear") ["found"]:=mkX T.x_NoNear Ag (fun _ _ _ _ _ _ us hl=>L2.mV (fun _ _=>rfl) us hl) rfl fun f cdv A outer s H vs Q E hr h=>⟨_,(aA (BL (K:=K) rfl (aj 0 uP) (aj 1 sV))),rd1 T.x_NoNear.c.cl.cls (T.x_NoNear.na _ (by simp)) h⟩
theorem Ah:aP ["self","found"] ["self","found"] (aB nu):=⟨rfl,rfl,rfl,by trivial,rfl,by trivial,by trivial⟩
theorem wI (T:Txt K mg):U0 P w K mg base 1 "NoTold" (iU mg "NoTold") ["found"]:=mkX T.x_NoTold Ah (fun _ _ _ _ _ _ us hl=>L2.mV (fun _ _=>rfl) us hl) rfl fun f cdv A outer s H vs Q E hr h=>⟨_,(aA (BL (K:=K) rfl (aj 0 uQ) (aj 1 sW))),rd1 T.x_NoTold.c.cl.cls (T.x_NoTold.na _ (by simp)) h⟩
def NotT (K:W.Frag) (ty:String) (H:Hp) (v:V):Prop:=∃ T,TyOf K H v (.type T)/\PySem.W.kitOne K (.type T) (.type ty)=some false
theorem NotT.same {ty:String} {H H':Hp} {v:V} (h:NotT K ty H v) (s:Same H H'):NotT K ty H' v:=by
 obtain ⟨T,a,c⟩:=h
 exact ⟨T,a.mono fun b o e _=>s b o e,c⟩
def At (K:W.Frag) (H:Hp) (v:V):Option Int->Prop
 | some n=>v= .int n
 | none=>(∃ b,v= .bl b)\/NotT K "int" H v
theorem At.same {H H':Hp} {v:V} {o:Option Int} (h:At K H v o) (s:Same H H'):At K H' v o:=by
 cases o with
 | some n=>exact h
 | none=>
  rcases h with h | h
  ·exact .inl h
  ·exact .inr (h.same s)
def inB (o:Option Int) (lo hi:Int):Bool:=match o with
 | some n=>decide (lo<=n) && decide (n<=hi)
 | none=>false
def Exc (mg:Str->Option Value) (c:Str) (H:Hp) (v:V) (E:XK):Prop:=∀ e H',Same H H'->LQ H' e (iU mg c) [("found",v)]->E (.ref (iU mg c)) (some e) H'
theorem Exc.same {c:Str} {H H':Hp} {v:V} {E:XK} (h:Exc mg c H v E) (s:Same H H'):Exc mg c H' v E:=fun e H2 s2=>h e H2 (s.trans s2)
def IV (K:W.Frag):Sp:=fun vs H Q _=>∃ (v:V) (o:Option Int),vs=[v]/\At K H v o/\Q (.bl o.isSome) H
theorem xQ:aP ["thing"] ["thing"] (aB fH):=⟨rfl,rfl,rfl,by trivial,rfl,by trivial,by trivial⟩
theorem gr (T:Txt K mg):mU P w K mg base 1 "is_number" ["thing"] (IV K):=by
 refine gf T.d_is_number xQ (fun _ _ _ _ _ _ us hl=>L2.sH (fun _=>rfl) us hl) ?_ fun f cdv A outer s H vs Q E hr h=>?_
 ·rintro vs H Q E ⟨v,o,rfl,_⟩;rfl
 obtain ⟨v,o,rfl,hv,q⟩:=h
 have hu:=hr.units0
 have hu64:=hr.units
 refine ⟨_,(aA (aD (iK (aL (cZ (K:=K) rfl) (bC Wz) T.b_isinstance aW (aa (aj 0 WD) (aa (qu (bC kz03) T.b_int Hj (by trivial) (by trivial)) ak)) (by trivial) (by trivial)) (jE (Hn (aL (cZ (K:=K) rfl) (bC Wz) T.b_isinstance aW (aa (aj 0 WD) (aa (qu (bC kz01) T.b_bool xq (by trivial) (by trivial)) ak)) (by trivial) (by trivial))))))),?_⟩
 walk_at "s"
 cases o with
 | some n=>
  obtain rfl:v= .int n:=hv
  refine dH (.int _) rfl ?_
  walk_at "s"
  refine dH (.int _) rfl ?_
  walk_at "s"
  exact q
 | none=>
  rcases hv with ⟨b,rfl⟩ | ⟨ty,hty,hk⟩
  ·refine dH (.bl _) (show PySem.W.kitOne K (.type "bool") (.type "int")=some true from rfl) ?_
   walk_at "s"
   refine dH (.bl _) (show PySem.W.kitOne K (.type "bool") (.type "bool")=some true from rfl) ?_
   walk_at "s"
   exact q
  ·refine dH hty hk ?_
   walk_at "s"
   exact q
def IW (K:W.Frag):Sp:=fun vs H Q _=>∃ (v:V) (o:Option Int) (lo hi:Int),vs=[v,.int lo,.int hi]/\At K H v o/\Q (.bl (inB o lo hi)) H
theorem xR:aP ["thing","low","high"] ["thing","low","high"] (aB fJ):=⟨rfl,rfl,rfl,by trivial,rfl,by trivial,by trivial⟩
theorem fM (T:Txt K mg):mU P w K mg base 2 "is_within" ["thing","low","high"] (IW K):=by
 have gr:=gr (P:=P) (w:=w) (base:=base) T
 refine gf T.d_is_within xR (fun _ _ _ _ _ _ us hl=>L2.zr (fun _ _ _=>rfl) us hl) ?_ fun f cdv A outer s H vs Q E hr h=>?_
 ·rintro vs H Q E ⟨v,o,lo,hi,rfl,_⟩;rfl
 obtain ⟨v,o,lo,hi,rfl,hv,q⟩:=h
 have hu:=hr.units0
 have hu64:=hr.units
 refine ⟨_,(aA (aD (iK (aK gr (hr.mono (by decide)) (bC kz07) (aa (aj 0 WF) ak) (by trivial)) (jE (Ls Gf Gf (aj 1 kz04) (aj 0 WF) (aj 2 kz06)))))),?_⟩
 walk_at "s"
 refine ⟨v,o,rfl,hv,?_⟩
 walk_at "s"
 cases o with
 | none=>
  show if false=true then _ else _
  walk_at "s"
  exact q
 | some n=>
  obtain rfl:v= .int n:=hv
  show if true=true then _ else _
  replace q:Q (.bl (decide (lo<=n) && decide (n<=hi))) H:=q
  walk_at "s"
  by_cases h1:lo<=n
  ·rw [YZ h1]
   rw [YZ h1,AaB] at q
   walk_at "s"
   exact q
  ·rw [Y5 h1]
   rw [Y5 h1,AaF] at q
   walk_at "s"
   exact q
def spB (o1 o2:Option Int) (m:Int):Bool:=match o1 with
 | some b=>inB (some b) 0 m && inB o2 b m
 | none=>false
def Sw (K:W.Frag):Sp:=fun vs H Q _=>∃ (u v:V) (o1 o2:Option Int) (m:Int),vs=[u,v,.int m]/\At K H u o1/\At K H v o2/\Q (.bl (spB o1 o2 m)) H
theorem Ai:aP ["begin","end","many"] ["begin","end","many"] (aB gY):=⟨rfl,rfl,rfl,by trivial,rfl,by trivial,by trivial⟩
theorem rF (T:Txt K mg):mU P w K mg base 3 "is_span" ["begin","end","many"] (Sw K):=by
 have fM:=fM (P:=P) (w:=w) (base:=base) T
 refine gf T.d_is_span Ai (fun _ _ _ _ _ _ us hl=>L2.zr (fun _ _ _=>rfl) us hl) ?_ fun f cdv A outer s H vs Q E hr h=>?_
 ·rintro vs H Q E ⟨u,v,o1,o2,m,rfl,_⟩;rfl
 obtain ⟨u,v,o1,o2,m,rfl,hu1,hv,q⟩:=h
 have hu:=hr.units0
 have hu64:=hr.units
 refine ⟨_,(aA (aD (iK (aK fM (hr.mono (by decide)) (bC WK) (aa (aj 0 WM) (aa aq (aa (aj 2 WL) ak))) (by trivial)) (jE (aK fM (hr.mono (by decide)) (bC WK) (aa (aj 1 kz0b) (aa (aj 0 WM) (aa (aj 2 WL) ak))) (by trivial)))))),?_⟩
 walk_at "s"
 refine ⟨u,o1,0,m,rfl,hu1,?_⟩
 walk_at "s"
 cases o1 with
 | none=>
  show if false=true then _ else _
  walk_at "s"
  exact q
 | some b=>
  obtain rfl:u= .int b:=hu1
  replace q:Q (.bl (inB (some b) 0 m && inB o2 b m)) H:=q
  cases h:inB (some b) 0 m with
  | false=>
   rw [h,AaF] at q
   show if false=true then _ else _
   walk_at "s"
   exact q
  | true=>
   rw [h,AaB] at q
   show if true=true then _ else _
   walk_at "s"
   exact ⟨v,o2,b,m,rfl,hv,q⟩
def Wt (K:W.Frag) (H:Hp) (v:V):Option (List (Option Int))->Prop
 | none=>NotT K "tuple" H v
 | some os=>∃ t us,v= .ref t/\H t=some (.tup us)/\us.length=os.length/\∀ (i:Nat) (u:V) (o:Option Int),us[i]?=some u->os[i]?=some o->At K H u o
theorem Wt.same {H H':Hp} {v:V} {r:Option (List (Option Int))} (h:Wt K H v r) (s:Same H H'):Wt K H' v r:=by
 cases r with
 | none=>exact NotT.same h s
 | some os=>
  obtain ⟨t,us,e,ht,hl,hA⟩:=h
  exact ⟨t,us,e,s _ _ ht,hl,fun i u o e1 e2=>(hA i u o e1 e2).same s⟩
def Fp (L:List P3) (i:Nat):Int×Int:=(L.getD i (0,0,0)).2
theorem eZ {L:List P3} {i:Nat} {p:P3} (h:L[i]?=some p):Fp L i=p.2:=by
 unfold Fp;rw [Y0,h];rfl
theorem oG {L:List P3} (hn:(L.map (·.2)).Nodup) {i j:Nat} (hi:i < L.length) (hj:j < L.length) (h:Fp L i=Fp L j):i=j:=by
 rw [eZ (YL hi),eZ (YL hj)] at h
 have h1:(L.map (·.2))[i]'(by simpa using hi)=(L.map (·.2))[j]'(by simpa using hj):=by simpa using h
 exact (List.getElem_inj hn).mp h1
def dZ (Z:List ((Int×Int)×V)):List (List Key×V):=Z.map fun x=>(kp x.1,x.2)
theorem gJ (Z:List ((Int×Int)×V)) (s:Int×Int):mZ (dZ Z) (kp s)=Z.lookup s:=by
 induction Z with
 | nil=>rfl
 | cons x Z ih=>
  show mZ ((kp x.1,x.2) :: dZ Z) (kp s)=_
  by_cases h:x.1=s
  ·subst h
   rw [qp rfl,Zo,Abd]
  ·rw [qt (fun z=>h (Af z)),ih,Zo]
   have:(s == x.1)=false:=by simpa using fun z:s=x.1=>h z.symm
   rw [this]
theorem fX (Z:List ((Int×Int)×V)):(dZ Z).length=Z.length:=by simp [dZ]
theorem Aj {Z:List ((Int×Int)×V)} {s:Int×Int} {v:V} (h:Z.lookup s=none):putK (dZ Z) (kp s) v=dZ (Z ++ [(s,v)]):=by
 rw [GF v (by rw [gJ];exact h)]
 unfold dZ;rw [Zw];rfl
def vo (L:List P3) (f:Nat->V) (n:Nat):List ((Int×Int)×V):=(List.range n).map fun i=>(Fp L i,f i)
theorem mG (L:List P3) (f:Nat->V) (n:Nat):(vo L f n).length=n:=by simp [vo]
theorem qL (L:List P3) (f:Nat->V) (n:Nat):vo L f (n+1)=vo L f n ++ [(Fp L n,f n)]:=by unfold vo;rw [List.range_succ,Zw];rfl
theorem rG {Z:List ((Int×Int)×V)} {s t:Int×Int} {v:V}:(Z ++ [(t,v)]).lookup s=match Z.lookup s with
  | some u=>some u
  | none=>if s=t then some v else none:=by
 induction Z with
 | nil=>
  show List.lookup s [(t,v)]=_
  rw [Zo]
  by_cases h:s=t
  ·rw [if_pos h];simp [h]
  ·rw [if_neg h]
   have:(s == t)=false:=by simpa using h
   rw [this];rfl
 | cons x Z ih=>
  rw [List.cons_append,Zo,Zo]
  by_cases h:s=x.1
  ·simp [h]
  ·have:(s == x.1)=false:=by simpa using h
   rw [this];exact ih
theorem xT {L:List P3} {f:Nat->V} {s:Int×Int}:∀ (n:Nat),(∀ i,i < n->Fp L i≠s)->(vo L f n).lookup s=none
 | 0,_=>rfl
 | n+1,h=>by
  rw [qL,rG,xT n fun i hi=>h i (by omega)]
  exact if_neg fun z=>h n (by omega) z.symm
theorem Ja {L:List P3} {f:Nat->V} (hn:(L.map (·.2)).Nodup) {i:Nat}:∀ (n:Nat),i < n->n<=L.length->(vo L f n).lookup (Fp L i)=some (f i)
 | 0,h,_=>by omega
 | n+1,h,hl=>by
  rw [qL,rG]
  by_cases hi:i < n
  ·rw [Ja hn n hi (by omega)]
  ·obtain rfl:i=n:=by omega
   rw [xT i fun j hj z=>by have:=oG hn (by omega) (by omega) z;omega]
   exact if_pos rfl
def uR (L:List P3) (s:Int×Int):Option Nat:=L.findIdx? fun p=>decide (p.2=s)
theorem nF {L:List P3} {s:Int×Int} (h:uR L s=none):∀ p∈L,p.2≠s:=by
 unfold uR at h
 rw [List.findIdx?_eq_none_iff] at h
 intro p hp z
 have:=h p hp
 simp [z] at this
theorem iQ {L:List P3} {s:Int×Int} {i:Nat} (h:uR L s=some i):∃ p,L[i]?=some p/\p.2=s:=by
 unfold uR at h
 obtain ⟨hi,h1,_⟩:=List.findIdx?_eq_some_iff_getElem.mp h
 exact ⟨L[i],YL hi,by simpa using h1⟩
theorem jz {L:List P3} {f:Nat->V} (hn:(L.map (·.2)).Nodup) (s:Int×Int):(vo L f L.length).lookup s=(uR L s).map f:=by
 cases e:uR L s with
 | none=>
  refine xT _ fun i hi z=>?_
  exact nF e L[i] (Aaa hi) ((eZ (YL hi)).symm.trans z)
 | some i=>
  obtain ⟨p,hp,rfl⟩:=iQ e
  have hi:=(YS.mp hp).1
  rw [← eZ hp]
  exact Ja hn _ hi (YW _)
def rH (Z:List ((Int×Int)×V)) (s:Int×Int) (v:V):List ((Int×Int)×V):=Z.map fun x=>if x.1=s then (x.1,v) else x
theorem Ep (Z:List ((Int×Int)×V)) (s:Int×Int) (v:V):(rH Z s v).map (·.1)=Z.map (·.1):=by
 unfold rH
 rw [ZL]
 refine Aab fun x _=>?_
 show (if x.1=s then (x.1,v) else x).1=x.1
 split <;> rfl
theorem wJ {Z:List ((Int×Int)×V)} {s:Int×Int} (h:s∈Z.map (·.1)):∃ v,Z.lookup s=some v:=by
 induction Z with
 | nil=>simp at h
 | cons x Z ih=>
  rw [Zo]
  by_cases e:s=x.1
  ·subst e;rw [Abd];exact ⟨_,rfl⟩
  ·have:(s == x.1)=false:=by simpa using e
   rw [this]
   exact ih (by simpa [e] using h)
theorem Jb {Z:List ((Int×Int)×V)} {s:Int×Int} {v:V} (h:s∈Z.map (·.1)):putK (dZ Z) (kp s) v=dZ (rH Z s v):=by
 obtain ⟨u,hu⟩:=wJ h
 unfold putK
 rw [m5,gJ,hu,Option.isSome_some,if_pos rfl]
 unfold dZ rH
 rw [ZL,ZL]
 refine Aab fun x _=>?_
 show (if kp x.1=kp s then (kp x.1,v) else (kp x.1,x.2))=_
 by_cases e:x.1=s
 ·rw [if_pos (by rw [e])]
  show _=(kp (if x.1=s then (x.1,v) else x).1,(if x.1=s then (x.1,v) else x).2)
  rw [if_pos e]
 ·rw [if_neg (fun z=>e (Af z))]
  show _=(kp (if x.1=s then (x.1,v) else x).1,(if x.1=s then (x.1,v) else x).2)
  rw [if_neg e]
theorem Er (Z:List ((Int×Int)×V)) (s t:Int×Int) (v:V):(rH Z s v).lookup t=if t=s then (Z.lookup t).map (fun _=>v) else Z.lookup t:=by
 induction Z with
 | nil=>show List.lookup t []=_;simp
 | cons x Z ih=>
  show List.lookup t ((if x.1=s then (x.1,v) else x) :: rH Z s v)=_
  rw [Zo,Zo,ih]
  by_cases e:t=x.1
  ·subst e
   by_cases e2:x.1=s
   ·simp only [if_pos e2,Abd];rfl
   ·simp only [if_neg e2,Abd]
  ·have h1:(t == x.1)=false:=by simpa using e
   have h2:(t == (if x.1=s then (x.1,v) else x).1)=false:=by
    split
    ·exact h1
    ·exact h1
   rw [h1,h2]
theorem yV:∀ {Z:List ((Int×Int)×V)},(Z.map (·.1)).Nodup->∀ x∈Z,Z.lookup x.1=some x.2
 | [],_,x,hx=>by simp at hx
 | y :: Z,hn,x,hx=>by
  rw [ZJ,AaX] at hn
  rw [Zo]
  rcases Zg.mp hx with rfl | hx
  ·rw [Abd]
  ·have:(x.1 == y.1)=false:=by
    simp only [Aah]
    intro e
    exact hn.1 (Zd.mpr ⟨x,hx,e⟩)
   rw [this]
   exact yV hn.2 x hx
theorem iJ {Z:List ((Int×Int)×V)} {s:Int×Int} {v:V} (h:Z.lookup s=some v):s∈Z.map (·.1):=by
 induction Z with
 | nil=>cases h
 | cons x Z ih=>
  rw [Zo] at h
  by_cases e:s=x.1
  ·subst e;simp
  ·have:(s == x.1)=false:=by simpa using e
   rw [this] at h
   exact Zc _ (ih h)
theorem Es {Z:List ((Int×Int)×V)} {s:Int×Int} (h:Z.lookup s=none):s ∉ Z.map (·.1):=fun hm=>by
 obtain ⟨v,e⟩:=wJ hm
 rw [h] at e;cases e
def lV (Z:List ((Int×Int)×V)) (s:Int×Int) (v:V):List ((Int×Int)×V):=if (Z.lookup s).isSome=true then rH Z s v else Z ++ [(s,v)]
theorem mH (Z:List ((Int×Int)×V)) (s:Int×Int) (v:V):putK (dZ Z) (kp s) v=dZ (lV Z s v):=by
 unfold lV
 cases e:Z.lookup s with
 | none=>exact Aj e
 | some u=>exact Jb (iJ e)
theorem Et (Z:List ((Int×Int)×V)) (s t:Int×Int) (v:V):(lV Z s v).lookup t=if t=s then some v else Z.lookup t:=by
 unfold lV
 cases e:Z.lookup s with
 | none=>
  show (Z ++ [(s,v)]).lookup t=_
  rw [rG]
  by_cases h:t=s
  ·subst h;rw [e]
  ·rw [if_neg h,if_neg h]
   cases Z.lookup t <;> rfl
 | some u=>
  show (rH Z s v).lookup t=_
  rw [Er]
  by_cases h:t=s
  ·subst h;rw [if_pos rfl,if_pos rfl,e];rfl
  ·rw [if_neg h,if_neg h]
theorem MP {Z:List ((Int×Int)×V)} {s:Int×Int} {v:V} (h:(Z.map (·.1)).Nodup):((lV Z s v).map (·.1)).Nodup:=by
 unfold lV
 cases e:Z.lookup s with
 | none=>
  show ((Z ++ [(s,v)]).map (·.1)).Nodup
  rw [Zw,List.nodup_append]
  refine ⟨h,by simp,fun a ha b hb z=>?_⟩
  simp only [ZJ,Abl,ZK] at hb
  subst hb;subst z
  exact Es e ha
 | some u=>
  show ((rH Z s v).map (·.1)).Nodup
  rw [Ep];exact h
theorem Jc (Z:List ((Int×Int)×V)) (s:Int×Int) (v:V):(rH Z s v).length=Z.length:=by unfold rH;rw [YQ]
theorem yW (Z:List ((Int×Int)×V)) (s:Int×Int) (v:V):(lV Z s v).length=if (Z.lookup s).isSome=true then Z.length else Z.length+1:=by
 unfold lV
 split
 ·exact Jc Z s v
 ·simp
def fZ (xs Z:List ((Int×Int)×V)):List ((Int×Int)×V):=xs.foldl (fun Z x=>lV Z x.1 x.2) Z
theorem tO (xs Z:List ((Int×Int)×V)) (x:(Int×Int)×V):fZ (xs ++ [x]) Z=lV (fZ xs Z) x.1 x.2:=by unfold fZ;rw [List.foldl_append];rfl
theorem Pu:∀ {xs Z:List ((Int×Int)×V)},(Z.map (·.1)).Nodup->((fZ xs Z).map (·.1)).Nodup
 | [],Z,h=>h
 | x :: xs,Z,h=>Pu (xs:=xs) (MP h)
theorem uT:∀ (xs Z:List ((Int×Int)×V)),(fZ xs Z).length<=Z.length+xs.length
 | [],Z=>YW _
 | x :: xs,Z=>by
  have:=uT xs (lV Z x.1 x.2)
  have h2:=yW Z x.1 x.2
  show (fZ xs (lV Z x.1 x.2)).length<=_
  rw [ZW]
  split at h2 <;> omega
def jA:List ((Int×Int)×V)->Int×Int->Option V
 | [],_=>none
 | x :: xs,s=>match jA xs s with
  | some v=>some v
  | none=>if s=x.1 then some x.2 else none
theorem tQ:∀ (xs Z:List ((Int×Int)×V)) (s:Int×Int),(fZ xs Z).lookup s=(jA xs s).orElse fun _=>Z.lookup s
 | [],Z,s=>rfl
 | x :: xs,Z,s=>by
  show (fZ xs (lV Z x.1 x.2)).lookup s=_
  rw [tQ xs _ s,Et]
  show _=(match jA xs s with | some v=>some v | none=>if s=x.1 then some x.2 else none).orElse _
  cases jA xs s with
  | some v=>rfl
  | none=>
   show (if s=x.1 then some x.2 else Z.lookup s)=_
   split
   ·rfl
   ·rfl
theorem g8 {s:Int×Int}:∀ {xs:List ((Int×Int)×V)},jA xs s=none↔∀ x∈xs,x.1≠s
 | []=>⟨fun _ x h=>(nomatch h),fun _=>rfl⟩
 | x :: xs=>by
  show (match jA xs s with | some v=>some v | none=>if s=x.1 then some x.2 else none)=none↔_
  constructor
  ·intro h y hy
   cases e:jA xs s with
   | some v=>rw [e] at h;cases h
   | none=>
    rw [e] at h
    rcases Zg.mp hy with rfl | hy
    ·intro z
     dsimp only at h
     rw [if_pos z.symm] at h;cases h
    ·exact g8.mp e y hy
  ·intro h
   rw [g8.mpr fun y hy=>h y (Zc _ hy)]
   exact if_neg fun z=>h x (Zj ..) z.symm
theorem wK {s:Int×Int} {v:V}:∀ {xs:List ((Int×Int)×V)},jA xs s=some v->∃ x∈xs,x.1=s/\x.2=v
 | [],h=>nomatch h
 | x :: xs,h=>by
  replace h:(match jA xs s with | some v=>some v | none=>if s=x.1 then some x.2 else none)=some v:=h
  cases e:jA xs s with
  | some u=>
   rw [e] at h
   cases h
   obtain ⟨y,hy,e1⟩:=wK e
   exact ⟨y,Zc _ hy,e1⟩
  | none=>
   rw [e] at h
   dsimp only at h
   by_cases z:s=x.1
   ·rw [if_pos z] at h
    cases h
    exact ⟨x,Zj ..,z.symm,rfl⟩
   ·rw [if_neg z] at h;cases h
theorem Jd {s:Int×Int} {v:V} {xs:List ((Int×Int)×V)} (h:∀ x∈xs,x.1=s->x.2=v) (he:∃ x∈xs,x.1=s):jA xs s=some v:=by
 cases e:jA xs s with
 | none=>
  obtain ⟨x,hx,e1⟩:=he
  exact absurd e1 (g8.mp e x hx)
 | some u=>
  obtain ⟨x,hx,e1,e2⟩:=wK e
  rw [← e2,h x hx e1]
theorem Px (xs:List ((Int×Int)×V)):∀ {n:Nat},n<=xs.length->(xs.map (·.1)).Nodup->fZ (xs.take n) []=xs.take n
 | 0,_,_=>rfl
 | n+1,hn,hd=>by
  have e:xs[n]?=some xs[n]:=YL (by omega)
  rw [Z0,e,show (some xs[n]).toList=[xs[n]] from rfl,tO,Px xs (by omega) hd]
  unfold lV
  rw [if_neg]
  intro z
  cases e2:(xs.take n).lookup xs[n].1 with
  | none=>rw [e2] at z;cases z
  | some v=>
   have hm:=iJ e2
   obtain ⟨y,hy,ey⟩:=Zd.mp hm
   obtain ⟨j,hj,ej⟩:=Zh.mp hy
   rw [Zb] at hj
   rw [List.getElem_take] at ej
   have h1:(xs.map (·.1))[j]'(by rw [YQ];omega)=(xs.map (·.1))[n]'(by rw [YQ];omega):=by simp [ej,ey]
   have:=(List.getElem_inj hd).mp h1
   omega
theorem WN {xs:List ((Int×Int)×V)} (hd:(xs.map (·.1)).Nodup):fZ xs []=xs:=by
 have:=Px xs (YW _) hd
 rwa [ZC] at this
theorem Cj (xs:List ((Int×Int)×V)):∀ {n:Nat},n<=xs.length->(fZ (xs.take n) []).length=n->((xs.take n).map (·.1)).Nodup
 | 0,_,_=>by simp
 | n+1,hn,hl=>by
  have e:xs[n]?=some xs[n]:=YL (by omega)
  rw [Z0,e,show (some xs[n]).toList=[xs[n]] from rfl] at hl ⊢
  rw [tO,yW] at hl
  have h0:=uT (xs.take n) []
  rw [Zb,Z1] at h0
  split at hl
  ·omega
  ·rename_i hz
   have ih:=Cj xs (n:=n) (by omega) (by omega)
   rw [Zw,List.nodup_append]
   refine ⟨ih,by simp,fun a ha b hb z=>?_⟩
   simp only [ZJ,Abl,ZK] at hb
   subst hb;subst z
   apply hz
   rw [tQ]
   cases e2:jA (xs.take n) xs[n].1 with
   | some v=>rfl
   | none=>
    obtain ⟨y,hy,ey⟩:=Zd.mp ha
    exact absurd ey (g8.mp e2 y hy)
theorem qM (L:List P3) (f:Nat->V):(vo L f L.length).map (·.1)=L.map (·.2):=by
 refine List.ext_getElem (by simp [vo]) fun i h1 h2=>?_
 simp only [YQ,mG] at h1
 simp only [vo,ZL,List.getElem_map,List.getElem_range,Function.comp]
 exact eZ (YL h1)
def rZ (L:List P3) (f:Nat->V) (n:Nat):List ((Int×Int)×V):=fZ (vo L f n) []
theorem xU (L:List P3) (f:Nat->V) (n:Nat):rZ L f (n+1)=lV (rZ L f n) (Fp L n) (f n):=by unfold rZ;rw [qL,tO]
theorem xV (L:List P3) (f:Nat->V) (n:Nat):(rZ L f n).length<=n:=by
 have:=uT (vo L f n) []
 rw [mG,Z1] at this
 unfold rZ;omega
theorem Py {L:List P3} {f:Nat->V} (hn:(L.map (·.2)).Nodup):rZ L f L.length=vo L f L.length:=WN (by rw [qM];exact hn)
theorem WP {L:List P3} {f:Nat->V} (hn:¬ (L.map (·.2)).Nodup):(rZ L f L.length).length < L.length:=by
 have h1:=xV L f L.length
 refine Nat.lt_of_le_of_ne h1 fun z=>hn ?_
 have:=Cj (vo L f L.length) (n:=L.length) (by rw [mG];omega) (by
  rw [ZV (by rw [mG];omega)];exact z)
 rw [ZV (by rw [mG];omega),qM] at this
 exact this
theorem Ck {L:List P3} {f:Nat->V} (s:Int×Int):((rZ L f L.length).lookup s).isSome=(uR L s).isSome:=by
 unfold rZ
 rw [tQ]
 cases e:uR L s with
 | none=>
  rw [g8.mpr fun x hx z=>?_]
  ·rfl
  ·have hm:x.1∈L.map (·.2):=by rw [← qM L f];exact Zd.mpr ⟨x,hx,rfl⟩
   obtain ⟨p,hp,ep⟩:=Zd.mp hm
   exact nF e p hp (ep.trans z)
 | some i=>
  obtain ⟨p,hp,rfl⟩:=iQ e
  cases e2:jA (vo L f L.length) p.2 with
  | some v=>rfl
  | none=>
   have hm:p.2∈(vo L f L.length).map (·.1):=by rw [qM];exact Zd.mpr ⟨p,Zr hp,rfl⟩
   obtain ⟨x,hx,ex⟩:=Zd.mp hm
   exact absurd ex (g8.mp e2 x hx)
theorem rJ:(["number"]:List Str).Nodup:=by trivial
theorem kz0c:cB cu "all":=by trivial
theorem Sx:bF cu "thing":=by trivial
theorem kz0e:cB cu "len":=by trivial
theorem kz0f:bF cu "many":=by trivial
theorem kz0g:cB cu "isinstance":=by trivial
theorem kz0h:cB cu "tuple":=by trivial
theorem Eu:bF dj "thing":=by trivial
theorem kz0j:cB dj "is_span":=by trivial
theorem kz0k:cB dj "MOST_LETTERS":=by trivial
theorem kz0l:cB dj "is_within":=by trivial
theorem kz0m:cB dj "MOST_COST":=by trivial
theorem kz0n:cB dj "are_numbers":=by trivial
theorem WQ:bF oF "priced":=by trivial
theorem Sy:bF d8 "ranks":=by trivial
theorem kz0q:cB d8 "enumerate":=by trivial
theorem kz0r:bF d8 "ranked":=by trivial
theorem WR:bF d8 "priced":=by trivial
theorem WT:bF d8 "rank":=by trivial
theorem kz0u:cB d8 "span_of":=by trivial
theorem nG (i j:Int):decide (V.int i=V.int j)=decide (i=j):=decide_eq_decide.mpr ⟨fun h=>V.int.inj h,fun h=>by rw [h]⟩
def oM (k:Nat):Option (List (Option Int))->Bool
 | none=>false
 | some os=>decide (os.length=k) && os.all (·.isSome)
def Ew (K:W.Frag):Sp:=fun vs H Q _=>∃ (v:V) (r:Option (List (Option Int))) (k:Nat),vs=[v,.int (k:Int)]/\Wt K H v r/\k<=10/\∀ H',Same H H'->Q (.bl (oM k r)) H'
theorem uU:aP ["thing","many"] ["thing","many"] (aB cu):=⟨rfl,rfl,rfl,by trivial,rfl,by trivial,by trivial⟩
theorem eU (T:Txt K mg):mU P w K mg base 2 "are_numbers" ["thing","many"] (Ew K):=by
 have gr:=gr (P:=P) (w:=w) (base:=base) T
 refine gf T.d_are_numbers uU (fun _ _ _ _ _ _ us hl=>L2.mV (fun _ _=>rfl) us hl) ?_ fun f cdv A outer s H vs Q E hr h=>?_
 ·rintro vs H Q E ⟨v,r,k,rfl,_⟩;rfl
 obtain ⟨v,r,k,rfl,hv,hk10,q⟩:=h
 have hu:=hr.units0
 have hu64:=hr.units
 refine ⟨_,(aA (aD (iK (aL (cZ (K:=K) rfl) (bC kz0g) T.b_isinstance aW (aa (aj 0 Sx) (aa (qu (bC kz0h) T.b_tuple lH (by trivial) (by trivial)) ak)) (by trivial) (by trivial)) (iK (rY (bU (K:=K) rfl hu64) (aL (cH (K:=K) rfl) (bC kz0e) T.b_len fV (aa (aj 0 Sx) ak) (by trivial) (by trivial)) (aj 1 kz0f) (by walk_at "p")) (jE (aL (m6 rfl) (bC kz0c) T.b_all uy (aa (kj (sub:=[none]) (eN (N:=["thing","many"]) (sc:=aB cu) (N':=["number"]) (by trivial)) rfl rfl rfl (fW (K:=K) rfl (aj 0 Sx)) (fun C s₀ H₀ ex=>(rm 0 (by trivial) rJ)) (fun C s₀ H₀ ex=>jF) (fun C s₀ H₀ ex=>(aK gr (hr.mono (by decide)) (OD (by trivial)) (aa (dN 0 (by trivial)) ak) (by trivial)))) ak) (by trivial) (by trivial))))))),?_⟩
 walk_at "s"
 have hs:1000<=sizeLine:=by decide
 cases r with
 | none=>
  obtain ⟨ty,hty,hk⟩:=hv
  refine dH hty hk ?_
  walk_at "s"
  exact q _ (Same.refl H)
 | some os=>
  obtain ⟨t,us,rfl,ht,hl,hA⟩:=hv
  refine dH (.tup ht) rfl ?_
  walk_at "s"
  refine pO (SqT.of ht) ?_
  walk_at "s"
  rw [nG]
  by_cases h3:us.length=k
  rotate_left
  ·rw [Y5 (show ¬ (us.length:Int)=(k:Int) by omega)]
   show if false=true then _ else _
   walk_at "s"
   have e0:oM k (some os)=false:=by show (decide (os.length=k) && _)=false;rw [Y5 (by omega),AaF]
   rw [← e0]
   exact q _ (Same.refl H)
  rw [YZ (show (us.length:Int)=(k:Int) by omega)]
  show if true=true then _ else _
  walk_at "s"
  have e0:oM k (some os)=os.all (·.isSome):=by show (decide (os.length=k) && _)=_;rw [YZ (by omega),AaB]
  rw [e0] at q
  refine .inr (.inl ⟨t,rfl,⟨_,SqT.of ht⟩,?_⟩)
  refine wD (xs:=us) (fun i ys G=>G=H/\ys=((os.take i).map (·.isSome)).map V.bl) (by omega) ⟨rfl,rfl⟩ ?_ ?_ ?_ ?_
  ·rintro i ys G ⟨_,rfl⟩
   rw [YQ,YQ,Zb];omega
  ·rintro i ys G ⟨rfl,_⟩
   exact SqT.of ht
  ·rintro i ys G x hx ⟨rfl,rfl⟩
   have hi:i < os.length:=by rw [← hl];exact (YS.mp hx).1
   obtain ⟨o,eo⟩:∃ o,os[i]?=some o:=⟨_,YL hi⟩
   walk_at "s"
   refine ⟨KeepSt.set rfl,?_⟩
   walk_at "s"
   refine ⟨x,o,rfl,hA i x o hx eo,?_⟩
   walk_at "s"
   refine ⟨rfl,?_⟩
   rw [Z0,eo,Zw,Zw]
   rfl
  ·rintro ys G D G2 ⟨rfl,rfl⟩ nD s2 hD
   rw [hl,ZC] at hD
   try walk_at "s"
   refine ⟨D,_,rfl,hD,?_⟩
   walk_at "s"
   rw [AaP]
   exact q _ s2
def o3 (p:P3):Option (List (Option Int)):=some [some p.1,some p.2.1,some p.2.2]
theorem pW {p q:P3} (h:o3 p=o3 q):p=q:=by
 unfold o3 at h
 simp only [Option.some.injEq,Abt,and_true] at h
 exact Prod.ext h.1 (Prod.ext h.2.1 h.2.2)
theorem Va {r:Option (List (Option Int))} (h:oM 3 r=true):∃ p,r=o3 p:=by
 match r,h with
 | some [some c,some b,some e],_=>exact ⟨(c,b,e),rfl⟩
 | some [none,_,_],h=>cases h
 | some [some _,none,_],h=>cases h
 | some [some _,some _,none],h=>cases h
 | none,h=>cases h
 | some [],h=>cases h
 | some [_],h=>cases h
 | some [_,_],h=>cases h
 | some (_ :: _ :: _ :: _ :: os),h=>
  simp [oM] at h
theorem Pz {H:Hp} {v:V} {p:P3} (h:Wt K H v (o3 p)):A3 H v p:=by
 obtain ⟨t,us,rfl,ht,hl,hA⟩:=h
 match us,hl with
 | [u0,u1,u2],_=>
  obtain rfl:u0= .int p.1:=hA 0 u0 _ rfl rfl
  obtain rfl:u1= .int p.2.1:=hA 1 u1 _ rfl rfl
  obtain rfl:u2= .int p.2.2:=hA 2 u2 _ rfl rfl
  exact ⟨t,rfl,ht⟩
theorem WW {H:Hp} {v:V} {p:P3} (h:A3 H v p):Wt K H v (o3 p):=by
 obtain ⟨a,rfl,ha⟩:=h
 refine ⟨a,_,rfl,ha,rfl,fun i u o e1 e2=>?_⟩
 match i,e1,e2 with
 | 0,e1,e2=>cases e1;cases e2;rfl
 | 1,e1,e2=>cases e1;cases e2;rfl
 | 2,e1,e2=>cases e1;cases e2;rfl
 | i+3,e1,_=>cases e1
instance dec_ok3 (p:P3):Decidable (yU p):=by unfold yU;infer_instance
def Kw:Option (List (Option Int))->Bool
 | some [some c,some b,some e]=>decide (yU (c,b,e))
 | _=>false
theorem SJ (p:P3):Kw (o3 p)=decide (yU p):=rfl
theorem SM {r:Option (List (Option Int))} (h:oM 3 r=false):Kw r=false:=by
 cases e:Kw r with
 | false=>rfl
 | true=>
  match r,e with
  | some [some c,some b,some e'],_=>cases h
def Je (K:W.Frag):Sp:=fun vs H Q _=>∃ (v:V) (r:Option (List (Option Int))),vs=[v]/\Wt K H v r/\∀ H',Same H H'->Q (.bl (Kw r)) H'
theorem xW:aP ["thing"] ["thing"] (aB dj):=⟨rfl,rfl,rfl,by trivial,rfl,by trivial,by trivial⟩
theorem nH (T:Txt K mg):mU P w K mg base 4 "is_priced" ["thing"] (Je K):=by
 have eU:=eU (P:=P) (w:=w) (base:=base) T
 have fM:=fM (P:=P) (w:=w) (base:=base) T
 have rF:=rF (P:=P) (w:=w) (base:=base) T
 refine gf T.d_is_priced xW (fun _ _ _ _ _ _ us hl=>L2.sH (fun _=>rfl) us hl) ?_ fun f cdv A outer s H vs Q E hr h=>?_
 ·rintro vs H Q E ⟨v,r,rfl,_⟩;rfl
 obtain ⟨v,r,rfl,hv,q⟩:=h
 have hu:=hr.units0
 have hu64:=hr.units
 refine ⟨_,(au (bf (jm (lN (dD (dJ (aK eU (hr.mono (by decide)) (bC kz0n) (aa (aj 0 Eu) (aa aq ak)) (by trivial)))) (iT (dD (dJ (aK fM (hr.mono (by decide)) (bC kz0l) (aa (aX (K:=K) rfl (aj 0 Eu) aq) (aa aq (aa (Hl (bC kz0m) T.c_MOST_COST (by trivial)) ak))) (by trivial))))))) (aA (aD iR)) aQ) (aA (aD (iK (aK rF (hr.mono (by decide)) (bC kz0j) (aa (aX (K:=K) rfl (aj 0 Eu) aq) (aa (aX (K:=K) rfl (aj 0 Eu) aq) (aa (Hl (bC kz0k) T.c_MOST_LETTERS (by trivial)) ak))) (by trivial)) (jE (rY (mF (K:=K) rfl hu64) (aX (K:=K) rfl (aj 0 Eu) aq) (aX (K:=K) rfl (aj 0 Eu) aq) (by walk_at "p"))))))),?_⟩
 walk_at "s"
 refine ⟨v,r,3,rfl,hv,by omega,fun H1 S1=>?_⟩
 walk_at "s"
 cases hb:oM 3 r with
 | false=>
  walk_at "s"
  rw [SM hb] at q
  exact q _ S1
 | true=>
  obtain ⟨p,rfl⟩:=Va hb
  obtain ⟨a,rfl,ha⟩:=Pz (hv.same S1)
  replace ha:H1 a=some (.tup [.int p.1,.int p.2.1,.int p.2.2]):=ha
  rw [SJ] at q
  show if false=true then _ else _
  walk_at "s"
  refine ⟨_,some p.1,0,48,rfl,rfl,?_⟩
  walk_at "s"
  cases h1:inB (some p.1) 0 48 with
  | false=>
   rw [Y5 (fun z:yU p=>by
    obtain ⟨z1,z2,_⟩:=z
    replace h1:(decide ((0:Int)<=p.1) && decide (p.1<=48))=false:=h1
    rw [YZ z1,YZ z2] at h1
    cases h1)] at q
   walk_at "s"
   exact q _ S1
  | true=>
   replace h1:(decide ((0:Int)<=p.1) && decide (p.1<=48))=true:=h1
   simp only [Zm,decide_eq_true_eq] at h1
   show if false=true then _ else _
   walk_at "s"
   refine ⟨_,_,some p.2.1,some p.2.2,24,rfl,rfl,rfl,?_⟩
   walk_at "s"
   cases h2:spB (some p.2.1) (some p.2.2) 24 with
   | false=>
    rw [Y5 (fun z:yU p=>by
     obtain ⟨_,_,z3,z4,z5⟩:=z
     replace h2:((decide ((0:Int)<=p.2.1) && decide (p.2.1<=24)) && (decide (p.2.1<=p.2.2) && decide (p.2.2<=24)))=false:=h2
     rw [YZ z3,YZ (show p.2.1<=24 by omega),YZ (show p.2.1<=p.2.2 by omega),YZ z5] at h2
     cases h2)] at q
    show if false=true then _ else _
    walk_at "s"
    exact q _ S1
   | true=>
    replace h2:((decide ((0:Int)<=p.2.1) && decide (p.2.1<=24)) && (decide (p.2.1<=p.2.2) && decide (p.2.2<=24)))=true:=h2
    simp only [Zm,decide_eq_true_eq] at h2
    show if true=true then _ else _
    walk_at "s"
    rw [show decide (yU p)=decide (p.2.1 < p.2.2) from decide_eq_decide.mpr ⟨fun z=>z.2.2.2.1,fun z=>⟨h1.1,h1.2,h2.1.1,z,h2.2.2⟩⟩] at q
    exact q _ S1
def Jf:Sp:=fun vs H Q _=>∃ (a:Addr) (p:P3),vs=[.ref a]/\H a=some (.tup (v3 p))/\∀ b H',H b=none->Same H H'->H' b=some (.tup ((kp p.2).map kV))->Q (.ref b) H'
theorem Ak:aP ["priced"] ["priced"] (aB oF):=⟨rfl,rfl,rfl,by trivial,rfl,by trivial,by trivial⟩
theorem dg (T:Txt K mg):mU P w K mg base 1 "span_of" ["priced"] Jf:=by
 refine gf T.d_span_of Ak (fun _ _ _ _ _ _ us hl=>L2.sH (fun _=>rfl) us hl) ?_ fun f cdv A outer s H vs Q E hr h=>?_
 ·rintro vs H Q E ⟨a,p,rfl,_⟩;rfl
 obtain ⟨a,p,rfl,ha,q⟩:=h
 have hu:=hr.units0
 have hu64:=hr.units
 refine ⟨_,(aA (aD (bR (aa (aX (K:=K) rfl (aj 0 WQ) aq) (aa (aX (K:=K) rfl (aj 0 WQ) aq) ak))))),?_⟩
 walk_at "s"
 replace ha:H a=some (.tup [.int (p.1:Int),.int (p.2.1:Int),.int (p.2.2:Int)]):=ha
 walk_at "s"
 refine aF rfl fun b H1 nb S1 f1=>?_
 walk_at "s"
 exact q b H1 nb S1 f1
def YH (i:Nat):V:=.int (i:Int)
def MT (K:W.Frag):Sp:=fun vs H Q _=>∃ (a:Addr) (us:List V) (L:List P3),vs=[.ref a]/\H a=some (.lst us)/\R3 H us L/\L.length<=1000/\∀ d H',H d=none->Same H H'->H' d=some (.dT (dZ (rZ L YH L.length)))->Q (.ref d) H'
theorem jL:aP ["ranked","ranks","rank","priced"] ["ranked"] (aB d8):=⟨rfl,rfl,rfl,by trivial,rfl,by trivial,by trivial⟩
theorem d9 (T:Txt K mg):mU P w K mg base 2 "ranks_of" ["ranked"] (MT K):=by
 have dg:=dg (P:=P) (w:=w) (base:=base) T
 refine gf T.d_ranks_of jL (fun _ _ _ _ _ _ us hl=>L2.sH (fun _=>rfl) us hl) ?_ fun f cdv A outer s H vs Q E hr h=>?_
 ·rintro vs H Q E ⟨a,us,L,rfl,_⟩;rfl
 obtain ⟨a,us,L,rfl,ha,hR,hl,q⟩:=h
 have hu:=hr.units0
 have hu64:=hr.units
 refine ⟨_,(au (aR (i:=1) jL.nd rfl (Or.inl Sy) my rfl) (au (fu ZS rfl (Bu (K:=K) rfl rfl (bC kz0q) T.b_enumerate (aa (aj 0 kz0r) ak)) (zV (K:=K) rfl rfl (aU (aO (i:=2) jL.nd rfl (Or.inl WT) rfl) (aU (aO (i:=3) jL.nd rfl (Or.inl WR) rfl) gF))) (aA (cR (ts:=fU) (aj 2 WT) (dY (aj 1 Sy) (aK dg (hr.mono (by decide)) (bC kz0u) (aa (aj 3 WR) ak) (by trivial)) (cT hu64))))) (aA (aD (aj 1 Sy))))),?_⟩
 walk_at "s"
 have hs:20000<=sizeLine:=by decide
 intro d nd0
 have S1:=(Same.refl H).upd nd0 (o:=.dT [])
 have hd:=ao (H:=H) (a:=d) (o:=.dT [])
 generalize upd H d (.dT [])=H1 at S1 hd ⊢
 walk_at "s"
 refine .inr ⟨a,us,rfl,SqL.of (S1 _ _ ha),?_⟩
 refine wB (xs:=us) (fun k U G=>Same H G/\G d=some (.dT (dZ (rZ L YH k)))/\∃ x2 x3,U=[some (.ref a),some (.ref d),x2,x3]) ⟨S1,hd,_,_,rfl⟩ (fun i U G _ h=>SqL.of (h.1 _ _ ha)) ?_ ?_
 ·rintro k U G T' v hv ⟨s,hdG,x2,x3,rfl⟩ nT
  obtain ⟨p,hp,b,rfl,hb⟩:=(hR.same s).at hv
  have hk:=(YS.mp hp).1
  have s2:=(Same.refl G).upd nT (o:=.tup [.int (k:Int),.ref b])
  have f2:=ao (H:=G) (a:=T') (o:=.tup [.int (k:Int),.ref b])
  generalize upd G T' (.tup [.int (k:Int),.ref b])=G2 at s2 f2 ⊢
  refine gW (SqT.of f2) rfl ?_
  walk_at "s"
  refine ⟨b,p,rfl,s2 _ _ hb,fun t G3 nt s3 ht=>?_⟩
  walk_at "s"
  refine gG (s3 _ _ (s2 _ _ hdG)) ht (by have:=xV L YH k;rw [fX];omega) ?_
  rw [mH,← eZ hp]
  refine ⟨Same.put (s.trans (s2.trans s3)) nd0,?_,_,_,rfl⟩
  rw [xU];exact ao
 ·rintro U G ⟨s,hdG,x2,x3,rfl⟩
  walk_at "s"
  rw [hR.1] at hdG
  exact q d G nd0 s hdG
theorem uV:(["place","thing"]:List Str).Nodup:=by trivial
theorem uW:(["priced"]:List Str).Nodup:=by trivial
theorem uX:(["priced","ranks"]:List Str).Nodup:=by trivial
theorem WX:cB cF "all":=by trivial
theorem kz0w:cB cF "range":=by trivial
theorem SQ:cB cF "len":=by trivial
theorem Jg:Sv cF "thing":=by trivial
theorem kz0z:cB cF "ranks_of":=by trivial
theorem kz10:cB cF "isinstance":=by trivial
theorem kz11:cB cF "list":=by trivial
theorem kz12:cB eQ "is_ranked":=by trivial
theorem WY:bF eQ "thing":=by trivial
theorem kz14:cB eQ "NoNear":=by trivial
theorem kz15:bF dO "ranked":=by trivial
theorem kz16:Sv dO "ranks":=by trivial
theorem kz17:cB dO "ranks_of":=by trivial
theorem kz18:bF dO "other":=by trivial
def SL (K:W.Frag) (H:Hp) (v:V):Option (List (Option (List (Option Int))))->Prop
 | none=>NotT K "list" H v
 | some rs=>∃ p us,v= .ref p/\H p=some (.lst us)/\us.length=rs.length/\us.length<=1000/\∀ (i:Nat) (u:V) (r:Option (List (Option Int))),us[i]?=some u->rs[i]?=some r->Wt K H u r
theorem SL.same {H H':Hp} {v:V} {r:Option (List (Option (List (Option Int))))} (h:SL K H v r) (s:Same H H'):SL K H' v r:=by
 cases r with
 | none=>exact NotT.same h s
 | some rs=>
  obtain ⟨p,us,e,hp,hl,hl2,hW⟩:=h
  exact ⟨p,us,e,s _ _ hp,hl,hl2,fun i u r e1 e2=>(hW i u r e1 e2).same s⟩
def GoodR (r:Option (List (Option (List (Option Int))))):Prop:=∃ L:List P3,r=some (L.map o3)/\Good L
theorem gb {α β:Type} {f:α->β} (hf:∀ {a b},f a=f b->a=b):∀ {L M:List α},L.map f=M.map f->L=M
 | [],[],_=>rfl
 | [],_ :: _,h=>by cases h
 | _ :: _,[],h=>by cases h
 | a :: L,b :: M,h=>by
  rw [ZJ,ZJ,Abt] at h
  rw [hf h.1,gb hf h.2]
theorem jh {L:List P3}:GoodR (some (L.map o3))↔Good L:=⟨fun ⟨M,e,g⟩=>by rw [gb pW (Zn e)];exact g,fun g=>⟨L,rfl,g⟩⟩
theorem SL.r3 {H:Hp} {v:V} {L:List P3} (h:SL K H v (some (L.map o3))):∃ p us,v= .ref p/\H p=some (.lst us)/\R3 H us L/\L.length<=1000:=by
 obtain ⟨p,us,rfl,hp,hl,hl2,hW⟩:=h
 rw [YQ] at hl
 refine ⟨p,us,rfl,hp,⟨hl,fun i v q e1 e2=>Pz (hW i v (o3 q) e1 (by rw [Ze,e2];rfl))⟩,by omega⟩
theorem R3.sl {H:Hp} {p:Addr} {us:List V} {L:List P3} (hp:H p=some (.lst us)) (h:R3 H us L) (hl:L.length<=1000):SL K H (.ref p) (some (L.map o3)):=by
 refine ⟨p,us,rfl,hp,by rw [YQ];exact h.1,by rw [h.1];exact hl,fun i u r e1 e2=>?_⟩
 obtain ⟨q,hq,ha⟩:=h.at e1
 rw [Ze,hq] at e2
 cases e2
 exact WW ha
theorem xX:∀ {rs:List (Option (List (Option Int)))},(∀ r∈rs,∃ p,r=o3 p)->∃ L:List P3,rs=L.map o3
 | [],_=>⟨[],rfl⟩
 | r :: rs,h=>by
  obtain ⟨p,rfl⟩:=h r (Zj ..)
  obtain ⟨L,rfl⟩:=xX fun r hr=>h r (Zc _ hr)
  exact ⟨p :: L,rfl⟩
theorem Jh {r:Option (List (Option Int))} (h:Kw r=true):∃ p,r=o3 p:=by
 match r,h with
 | some [some c,some b,some e'],_=>exact ⟨(c,b,e'),rfl⟩
def M5 (L:List P3) (i:Nat):Bool:=HT.lexLt (i3 (L.getD i (0,0,0))) (i3 (L.getD (i+1) (0,0,0)))
def Ji (K:W.Frag):Sp:=fun vs H Q _=>∃ (v:V) (r:Option (List (Option (List (Option Int))))),vs=[v]/\SL K H v r/\(GoodR r->∀ H',Same H H'->Q (.bl true) H')/\(¬ GoodR r->∀ H',Same H H'->Q (.bl false) H')
theorem xY:aP ["thing"] ["thing"] (aB cF):=⟨rfl,rfl,rfl,by trivial,rfl,by trivial,by trivial⟩
theorem dm (T:Txt K mg):mU P w K mg base 5 "is_ranked" ["thing"] (Ji K):=by
 have nH:=nH (P:=P) (w:=w) (base:=base) T
 have d9:=d9 (P:=P) (w:=w) (base:=base) T
 refine gf T.d_is_ranked xY (fun _ _ _ _ _ _ us hl=>L2.sH (fun _=>rfl) us hl) ?_ fun f cdv A outer s H vs Q E hr h=>?_
 ·rintro vs H Q E ⟨v,r,rfl,_⟩;rfl
 obtain ⟨v,r,rfl,hv,q1,q2⟩:=h
 have hu:=hr.units0
 have hu64:=hr.units
 refine ⟨_,(au (bf (jm (lN (dD (dJ (aL (cZ (K:=K) rfl) (bC kz10) T.b_isinstance aW (aa (lK 0 Jg) (aa (qu (bC kz11) T.b_list jd (by trivial) (by trivial)) ak)) (by trivial) (by trivial)))) (iT (dD (dJ (aL (m6 rfl) (bC WX) T.b_all uy (aa (kj (sub:=[none]) (eN (N:=["thing"]) (sc:=aB cF) (N':=["priced"]) (by trivial)) rfl rfl rfl (fW (K:=K) rfl (lK 0 Jg)) (fun C s₀ H₀ ex=>(rm 0 (by trivial) uW)) (fun C s₀ H₀ ex=>jF) (fun C s₀ H₀ ex=>(aK nH (hr.mono (by decide)) (OD (by trivial)) (aa (dN 0 (by trivial)) ak) (by trivial)))) ak) (by trivial) (by trivial))))))) (aA (aD iR)) aQ) (au (bf (aM (mF (K:=K) rfl hu64) (aL DP (bC SQ) T.b_len fV (aa (aK d9 (hr.mono (by decide)) (bC kz0z) (aa (lK 0 Jg) ak) (by trivial)) ak) (by trivial) (by trivial)) (aL (cH (K:=K) rfl) (bC SQ) T.b_len fV (aa (lK 0 Jg) ak) (by trivial) (by trivial)) (by walk_at "p")) (aA (aD iR)) aQ) (aA (aD (aL (m6 rfl) (bC WX) T.b_all uy (aa (kj (sub:=[none,some 0]) (eN (N:=["thing"]) (sc:=aB cF) (N':=["place","thing"]) (by trivial)) rfl rfl rfl (gU (bC kz0w) T.b_range (aa (aZ pK (aL (cH (K:=K) rfl) (bC SQ) T.b_len fV (aa (lK 0 Jg) ak) (by trivial) (by trivial)) aq) ak)) (fun C s₀ H₀ ex=>(rm 0 (by trivial) uV)) (fun C s₀ H₀ ex=>jF) (fun C s₀ H₀ ex=>(rY (mF (K:=K) rfl hu64) (aX (K:=K) rfl (o8 1 (by trivial)) (dN 0 (by trivial))) (aX (K:=K) rfl (o8 1 (by trivial)) (aZ cj (dN 0 (by trivial)) aq)) (by walk_at "p")))) ak) (by trivial) (by trivial)))))),?_⟩
 walk_at "s"
 have hs:20000<=sizeLine:=by decide
 cases r with
 | none=>
  obtain ⟨ty,hty,hk⟩:=hv
  refine dH hty hk ?_
  walk_at "s"
  exact q2 (fun ⟨L,e,_⟩=>by cases e) _ (Same.refl H)
 | some rs=>
  have hv0:=hv
  obtain ⟨p,us,rfl,hp,hl,hl2,hW⟩:=hv
  refine dH (.lst hp) rfl ?_
  walk_at "s"
  refine .inl ⟨p,rfl,⟨_,SqL.of hp⟩,?_⟩
  refine jy (xs:=us) (fun i zs G=>Same H G/\zs=((rs.take i).map Kw).map V.bl) (by omega) ⟨Same.refl H,rfl⟩ ?_ ?_ ?_ ?_
  ·rintro i zs G ⟨_,rfl⟩
   rw [YQ,YQ,Zb];omega
  ·rintro i zs G ⟨s,_⟩
   exact SqL.of (s _ _ hp)
  ·rintro i zs G v hv ⟨s,rfl⟩
   have hi:i < rs.length:=by rw [← hl];exact (YS.mp hv).1
   obtain ⟨r,er⟩:∃ r,rs[i]?=some r:=⟨_,YL hi⟩
   have hw:=hW i v r hv er
   walk_at "s"
   refine ⟨KeepSt.set rfl,?_⟩
   walk_at "s"
   refine ⟨v,r,rfl,hw.same s,fun G2 s2=>?_⟩
   walk_at "s"
   refine ⟨s.trans s2,?_⟩
   rw [Z0,er,Zw,Zw]
   rfl
  rintro zs G D H2 ⟨s0,rfl⟩ nD s1 hD
  rw [hl,ZC] at hD
  have S2:=s0.trans s1
  try walk_at "s"
  refine ⟨D,_,rfl,hD,?_⟩
  rw [AaP,show (id ∘ Kw)=Kw from rfl]
  cases ha:rs.all Kw with
  | false=>
   walk_at "s"
   refine q2 (fun qq0=>?_) H2 S2
   obtain ⟨L,e,g⟩:=qq0
   cases Zn e
   have:(L.map o3).all Kw=true:=by
    rw [AaP,ZM]
    intro x hx
    exact YZ (g.ok x hx)
   rw [this] at ha;cases ha
  | true=>
   walk_at "s"
   rw [ZM] at ha
   obtain ⟨L,rfl⟩:=xX fun r hr=>Jh (ha r hr)
   have hok:∀ x∈L,yU x:=fun x hx=>Zq (ha (o3 x) (Zd.mpr ⟨x,hx,rfl⟩))
   clear ha
   rw [jh] at q1 q2
   obtain ⟨p',us',e',hp',hR,hlen⟩:=(hv0.same S2).r3
   cases e'
   rw [S2 _ _ hp] at hp'
   cases hp'
   have hp2:=S2 _ _ hp
   have hul:=hR.1
   refine ⟨p,us,L,rfl,hp2,hR,hlen,fun d H3 nd S3 hd=>?_⟩
   walk_at "s"
   refine Mq hd ?_
   walk_at "s"
   have S3':=S2.trans S3
   refine kh (SqL.of (S3' _ _ hp)) ?_
   walk_at "s"
   rw [fX,hul]
   by_cases hn:(L.map (·.2)).Nodup
   rotate_left
   ·have hlt:=WP (f:=YH) hn
    rw [YZ (by omega)]
    walk_at "s"
    exact q2 (fun g=>hn g.nd) _ S3'
   rw [Py hn,mG,Y5 (by omega)]
   walk_at "s"
   refine kh (SqL.of (S3' _ _ hp)) ?_
   walk_at "s"
   rw [hul]
   refine ⟨_,rfl,by omega,by omega,?_⟩
   refine DX (n:=((L.length:Int) - 1).toNat) (fun i ys G=>Same H G/\ys=((List.range i).map (M5 L)).map V.bl) (by omega) ⟨S3',rfl⟩ ?_ ?_ ?_
   ·rintro i ys G ⟨_,rfl⟩
    simp
   ·rintro i ys G hi ⟨s,rfl⟩
    have h1:i < L.length:=by omega
    have h2:i+1 < L.length:=by omega
    have hRG:R3 G us L:=by
     obtain ⟨p',us',e',hp',hR',_⟩:=(hv0.same s).r3
     cases e'
     rw [s _ _ hp] at hp'
     cases hp'
     exact hR'
    obtain ⟨v,hv,b,rfl,hb⟩:=hRG.of (YL h1)
    obtain ⟨v,hv2,b2,rfl,hb2⟩:=hRG.of (YL h2)
    rw [AbD]
    walk_at "s"
    refine ⟨KeepSt.set rfl,?_⟩
    walk_at "s"
    refine bW (SqL.of (s _ _ hp)) (bw hv) ?_
    walk_at "s"
    refine bW (SqL.of (s _ _ hp)) (show zq us ((i:Int)+1)=some (.ref b2) from by rw [show (i:Int)+1=((i+1:Nat):Int) by omega];exact bw hv2) ?_
    walk_at "s"
    refine Sg (ns:=i3 L[i]) (ms:=i3 L[i+1]) hb hb2 ?_
    walk_at "s"
    refine ⟨s,?_⟩
    rw [List.range_succ,Zw,Zw]
    have:M5 L i=HT.lexLt (i3 L[i]) (i3 L[i+1]):=by
     unfold M5
     rw [Y0,Y0,YL h1,YL h2];rfl
    rw [← this]
    rfl
   rintro ys G D2 H4 ⟨s3,rfl⟩ nD2 s4 hD2
   try walk_at "s"
   refine ⟨D2,_,rfl,hD2,?_⟩
   walk_at "s"
   rw [AaP]
   cases hb:(List.range ((L.length:Int) - 1).toNat).all (id ∘ M5 L) with
   | true=>
    refine q1 ⟨hok,hn,fun i x y e1 e2=>?_,hlen⟩ _ (s3.trans s4)
    rw [ZM] at hb
    have h2:=(YS.mp e2).1
    have:=hb i (AaE.mpr (by omega))
    replace this:M5 L i=true:=this
    unfold M5 at this
    rw [Y0,Y0,e1,e2] at this
    exact this
   | false=>
    refine q2 (fun g=>?_) _ (s3.trans s4)
    have:(List.range ((L.length:Int) - 1).toNat).all (id ∘ M5 L)=true:=by
     rw [ZM]
     intro i hi
     have hi':=AaE.mp hi
     show M5 L i=true
     unfold M5
     have h1:i < L.length:=by omega
     have h2:i+1 < L.length:=by omega
     rw [Y0,Y0,YL h1,YL h2]
     exact g.so i _ _ (YL h1) (YL h2)
    rw [this] at hb;cases hb
def M6 (K:W.Frag) (mg:Str->Option Value):Sp:=fun vs H Q E=>∃ (v:V) (r:Option (List (Option (List (Option Int))))),vs=[v]/\SL K H v r/\(GoodR r->∀ H',Same H H'->Q .non H')/\(¬ GoodR r->Exc mg "NoNear" H v E)
theorem uY:aP ["thing"] ["thing"] (aB eQ):=⟨rfl,rfl,rfl,by trivial,rfl,by trivial,by trivial⟩
theorem dF (T:Txt K mg):Dy P w K mg base 6 "need_ranked" ["thing"] (M6 K mg):=by
 have dm:=dm (P:=P) (w:=w) (base:=base) T
 refine HR T.d_need_ranked uY (fun _ _ _ _ _ _ us hl=>L2.sH (fun _=>rfl) us hl) ?_ fun f cdv A outer s H vs Q E hr h=>?_
 ·rintro vs H Q E ⟨v,r,rfl,_⟩;rfl
 obtain ⟨v,r,rfl,hv,q1,q2⟩:=h
 have hu:=hr.units0
 have hu64:=hr.units
 refine ⟨_,(aA (bf (dD (dJ (aK dm (hr.mono (by decide)) (bC kz12) (aa (aj 0 WY) ak) (by trivial)))) (aA (uF (Eo (P:=P) (w:=w) (base:=base) T) (hr.mono (by decide)) rfl (bC kz14) jt (aa (aj 0 WY) ak) (by trivial))) aQ)),?_⟩
 walk_at "s"
 refine ⟨v,r,rfl,hv,fun g H1 S1=>?_,fun g H1 S1=>?_⟩
 walk_at "s"
 ·walk_at "s"
  exact q1 g H1 S1
 ·walk_at "s"
  exact ⟨rfl,(show 1<=sizeLine by decide),fun x H3 S3 X3=>q2 g x H3 (S1.trans S3) X3⟩
def gm (R O:List P3):List P3:=R.filter fun p=>(uR O p.2).isNone
theorem uZ (R O:List P3) (k:Nat) {p:P3} (h:R[k]?=some p):gm (R.take (k+1)) O=gm (R.take k) O ++ (if (uR O p.2).isNone=true then [p] else []):=by
 unfold gm
 rw [Z0,h,List.filter_append]
 congr 1
 show List.filter _ [p]=_
 rw [List.filter_cons]
 rfl
def M7 (K:W.Frag):Sp:=fun vs H Q _=>∃ (a b:Addr) (us ws:List V) (R O:List P3),vs=[.ref a,.ref b]/\H a=some (.lst us)/\R3 H us R/\R.length<=1000/\H b=some (.lst ws)/\R3 H ws O/\O.length<=1000/\∀ q ys H',H q=none->Same H H'->H' q=some (.lst ys)->R3 H' ys (gm R O)->Q (.ref q) H'
theorem qN:aP ["ranked","other","ranks"] ["ranked","other"] (aB dO):=⟨rfl,rfl,rfl,by trivial,rfl,by trivial,by trivial⟩
theorem fO (T:Txt K mg):mU P w K mg base 3 "not_among" ["ranked","other"] (M7 K):=by
 have d9:=d9 (P:=P) (w:=w) (base:=base) T
 have dg:=dg (P:=P) (w:=w) (base:=base) T
 refine gf T.d_not_among qN (fun _ _ _ _ _ _ us hl=>L2.mV (fun _ _=>rfl) us hl) ?_ fun f cdv A outer s H vs Q E hr h=>?_
 ·rintro vs H Q E ⟨a,b,us,ws,R,O,rfl,_⟩;rfl
 obtain ⟨a,b,us,ws,R,O,rfl,ha,hR,hlR,hb,hO,hlO,q⟩:=h
 have hu:=hr.units0
 have hu64:=hr.units
 refine ⟨_,(au (aR (i:=2) qN.nd rfl (Or.inr kz16) (aK d9 (hr.mono (by decide)) (bC kz17) (aa (aj 1 kz18) ak) (by trivial)) rfl) (aA (aD (kj (sub:=[none,some 2]) (eN (N:=["ranked","other","ranks"]) (sc:=aB dO) (N':=["priced","ranks"]) (by trivial)) rfl rfl rfl (fW (K:=K) rfl (aj 0 kz15)) (fun C s₀ H₀ ex=>(rm 0 (by trivial) uX)) (fun C s₀ H₀ ex=>(tE (aM (rC (K:=K) rfl hu64) (aK dg (hr.mono (by decide)) (OD (by trivial)) (aa (dN 0 (by trivial)) ak) (by trivial)) (o8 1 (by trivial)) (by walk_at "p")))) (fun C s₀ H₀ ex=>(dN 0 (by trivial))))))),?_⟩
 walk_at "s"
 have hs:20000<=sizeLine:=by decide
 have hul:=hR.1
 refine ⟨b,ws,O,rfl,hb,hO,hlO,fun d H1 nd S1 hd=>?_⟩
 walk_at "s"
 refine .inl ⟨a,rfl,⟨_,SqL.of (S1 _ _ ha)⟩,?_⟩
 refine jy (xs:=us) (fun i ys G=>Same H1 G/\R3 G ys (gm (R.take i) O)/\ys.length<=i) (by omega) ⟨Same.refl H1,R3.nil,YW _⟩ ?_ ?_ ?_ ?_
 ·rintro i ys G ⟨_,_,h⟩
  exact h
 ·rintro i ys G ⟨s,_⟩
  exact SqL.of (s _ _ (S1 _ _ ha))
 ·rintro i ys G x hx ⟨s,hY,hyl⟩
  obtain ⟨p,hp,c,rfl,hc⟩:=(hR.same (S1.trans s)).at hx
  walk_at "s"
  refine ⟨KeepSt.set rfl,?_⟩
  walk_at "s"
  refine ⟨c,p,rfl,hc,fun t G2 nt s2 ht=>?_⟩
  walk_at "s"
  refine .inr ⟨d,_,rfl,DGet.t (s2 _ _ (s _ _ hd)) ht,?_⟩
  walk_at "s"
  rw [gJ,Ck]
  have hN:=uZ R O i hp
  cases e:uR O p.2 with
  | none=>
   rw [e] at hN
   show if true=true then _ else _
   walk_at "s"
   refine ⟨s.trans s2,?_,by simp;omega⟩
   rw [hN]
   exact (hY.same s2).push ⟨c,rfl,s2 _ _ hc⟩
  | some j=>
   rw [e] at hN
   show if false=true then _ else _
   walk_at "s"
   refine ⟨s.trans s2,?_,by omega⟩
   rw [hN,show (if ((some j:Option Nat).isNone)=true then [p] else [])=([]:List P3) from rfl,Zt]
   exact hY.same s2
 ·rintro ys G D G2 ⟨s,hY,_⟩ nD s2 hD
  try walk_at "s"
  rw [hul,ZC] at hY
  exact q D ys G2 (Same.back (S1.trans s) nD) (S1.trans (s.trans s2)) hD (hY.same s2)
theorem Tc:bF aY "moved":=by trivial
theorem kz1a:cB aY "enumerate":=by trivial
theorem kz1b:bF aY "behind":=by trivial
theorem Ex:bF aY "priced":=by trivial
theorem Td:bF aY "rank":=by trivial
theorem Jj:bF aY "old_rank":=by trivial
theorem Te:bF aY "old_cost":=by trivial
theorem W0:bF aY "ahead":=by trivial
theorem W3:bF aY "ranks":=by trivial
theorem kz1i:cB aY "span_of":=by trivial
theorem kz1j:cB aY "ranks_of":=by trivial
theorem kz1k:cB gq "moved_between":=by trivial
theorem M8:bF gq "behind":=by trivial
theorem M9:bF gq "ahead":=by trivial
theorem W4:cB gq "not_among":=by trivial
theorem W9:cB gq "need_ranked":=by trivial
def AT (H:Hp) (v:V) (t:List Int):Prop:=∃ a,v= .ref a/\H a=some (.tup (t.map V.int))
theorem AT.same {H H':Hp} {v:V} {t:List Int} (h:AT H v t) (s:Same H H'):AT H' v t:=by
 obtain ⟨a,e,ha⟩:=h
 exact ⟨a,e,s _ _ ha⟩
def RT (H:Hp) (vs:List V) (ts:List (List Int)):Prop:=vs.length=ts.length/\∀ (i:Nat) (v:V) (t:List Int),vs[i]?=some v->ts[i]?=some t->AT H v t
theorem RT.same {H H':Hp} {vs:List V} {L:List (List Int)} (h:RT H vs L) (s:Same H H'):RT H' vs L:=⟨h.1,fun i v p e1 e2=>(h.2 i v p e1 e2).same s⟩
theorem RT.nil {H:Hp}:RT H [] []:=⟨rfl,fun i v p e=>by simp at e⟩
theorem RT.push {H:Hp} {vs:List V} {L:List (List Int)} {v:V} {p:List Int} (h:RT H vs L) (a:AT H v p):RT H (vs ++ [v]) (L ++ [p]):=by
 refine ⟨by simp [h.1],fun i u r e1 e2=>?_⟩
 by_cases hi:i < vs.length
 ·rw [Zv hi] at e1
  rw [Zv (by rw [← h.1];exact hi)] at e2
  exact h.2 i u r e1 e2
 ·rw [Zf (by omega)] at e1
  rw [Zf (by rw [← h.1];omega),← h.1] at e2
  have hz:i - vs.length=0:=by
   have:=(YS.mp e1).1
   simp at this;omega
  rw [hz] at e1 e2
  cases e1;cases e2
  exact a
theorem RT.at {H:Hp} {vs:List V} {L:List (List Int)} (h:RT H vs L) {i:Nat} {v:V} (e:vs[i]?=some v):∃ p,L[i]?=some p/\AT H v p:=by
 have hi:=(YS.mp e).1
 have hj:i < L.length:=by rw [← h.1];exact hi
 exact ⟨L[i],YL hj,h.2 i v _ e (YL hj)⟩
theorem R3.rt {H:Hp} {vs:List V} {L:List P3} (h:R3 H vs L):RT H vs (L.map i3):=by
 refine ⟨by simp [h.1],fun i v t e1 e2=>?_⟩
 rw [Ze] at e2
 cases e:L[i]? with
 | none=>rw [e] at e2;cases e2
 | some p=>
  rw [e] at e2;cases e2
  exact h.2 i v p e1 e
def Fq (ts:List (List Int)):PyData:=.list (ts.map fun t=>.tuple (t.map PyData.int))
theorem Cm {H:Hp}:∀ (ds:List PyData) (vs:List V),ds.length=vs.length->(∀ (k:Nat) (d:PyData) (v:V),ds[k]?=some d->vs[k]?=some v->DR H d v)->DRs H ds vs
 | [],[],_,_=>qy.mpr rfl
 | [],_ :: _,h,_=>by simp at h
 | _ :: _,[],h,_=>by simp at h
 | d :: ds,v :: vs,h,g=>m8.mpr ⟨v,vs,rfl,g 0 d v rfl rfl,Cm ds vs (by simpa using h) fun k d' v' e1 e2=>g (k+1) d' v' e1 e2⟩
theorem AT.dr {H:Hp} {v:V} {t:List Int} (h:AT H v t):DR H (.tuple (t.map PyData.int)) v:=by
 obtain ⟨a,rfl,ha⟩:=h
 exact qx.mpr ⟨a,_,rfl,ha,qz _⟩
theorem RT.dr {H:Hp} {vs:List V} {ts:List (List Int)} {q:Addr} (h:RT H vs ts) (hq:H q=some (.lst vs)):DR H (Fq ts) (.ref q):=by
 refine xu.mpr ⟨q,vs,rfl,hq,Cm _ _ (by rw [YQ,h.1]) fun k d v e1 e2=>?_⟩
 obtain ⟨t,ht,hv⟩:=h.at e2
 rw [Ze,ht] at e1
 cases e1
 exact hv.dr
theorem Jk (ts:List (List Int)):(Fq ts).canLay0=true/\(Fq ts).depth<=2:=by
 refine HX (n:=1) fun d hd=>?_
 obtain ⟨t,_,rfl⟩:=Zd.mp hd
 refine nU (n:=0) fun e he=>?_
 obtain ⟨i,_,rfl⟩:=Zd.mp he
 exact xH i
theorem wL:∀ ns ms:List Int,PyData.eqv (.tuple (ns.map PyData.int)) (.tuple (ms.map PyData.int))=decide (ns=ms):=by
 intro ns ms
 rw [PyData.eqv]
 induction ns generalizing ms with
 | nil=>cases ms <;> simp [PyData.eqvAll]
 | cons n ns ih=>
  cases ms with
  | nil=>simp [PyData.eqvAll]
  | cons m ms=>
   rw [ZJ,ZJ,PyData.eqvAll,ih ms]
   simp [PyData.eqv]
   rfl
theorem ne2 {H:Hp} {Q:VK} {p q:Addr} {ns ms:List Int} (hp:H p=some (.tup (ns.map V.int))) (hq:H q=some (.tup (ms.map V.int))) (h:Q (.bl (!decide (ns=ms))) H):Dt K (.ref p) (.ref q) H Q:=
 .inr ⟨.tuple (ns.map PyData.int),.tuple (ms.map PyData.int),qx.mpr ⟨p,_,rfl,hp,qz _⟩,qx.mpr ⟨q,_,rfl,hq,qz _⟩,mq (n:=1) (nU (n:=0) fun e he=>by
  obtain ⟨i,_,rfl⟩:=Zd.mp he
  exact xH i) (by omega),mq (n:=1) (nU (n:=0) fun e he=>by
  obtain ⟨i,_,rfl⟩:=Zd.mp he
  exact xH i) (by omega),by rw [wL];exact h⟩
def yX (A:List P3) (j:Nat) (p:P3):Option (List Int):=match uR A p.2 with
 | none=>none
 | some i=>if (A.getD i (0,0,0)).1=p.1/\i=j then none else some [(p.2.1:Int),(p.2.2:Int),((A.getD i (0,0,0)).1:Int),(p.1:Int),(i:Int),(j:Int)]
def Ft (A B:List P3) (n:Nat):List (List Int):=(List.range n).flatMap fun j=>(yX A j (B.getD j (0,0,0))).toList
theorem yZ {A B:List P3} {n:Nat} {p:P3} (h:B[n]?=some p):Ft A B (n+1)=Ft A B n ++ (yX A n p).toList:=by
 unfold Ft
 rw [List.range_succ,List.flatMap_append,List.flatMap_cons,List.flatMap_nil,Zt,Y0,h]
 rfl
theorem tR {A B:List P3} (n:Nat):(Ft A B n).length<=n:=by
 induction n with
 | zero=>simp [Ft]
 | succ n ih=>
  unfold Ft at ih ⊢
  rw [List.range_succ,List.flatMap_append,YX,List.flatMap_cons,List.flatMap_nil,Zt]
  have:((yX A n (B.getD n (0,0,0))).toList).length<=1:=by cases yX A n (B.getD n (0,0,0)) <;> simp
  omega
def mv (A B:List P3):List (List Int):=Ft A B B.length
def Nb (K:W.Frag):Sp:=fun vs H Q _=>∃ (a b:Addr) (us ws:List V) (A B:List P3),vs=[.ref a,.ref b]/\H a=some (.lst us)/\R3 H us A/\(A.map (·.2)).Nodup/\A.length<=1000/\H b=some (.lst ws)/\R3 H ws B/\B.length<=1000/\∀ q ys H',H q=none->Same H H'->H' q=some (.lst ys)->RT H' ys (mv A B)->Q (.ref q) H'
theorem cI:aP ["ahead","behind","ranks","moved","rank","priced","old_rank","old_cost"] ["ahead","behind"] (aB aY):=⟨rfl,rfl,rfl,by trivial,rfl,by trivial,by trivial⟩
theorem iV (T:Txt K mg):mU P w K mg base 3 "moved_between" ["ahead","behind"] (Nb K):=by
 have d9:=d9 (P:=P) (w:=w) (base:=base) T
 have dg:=dg (P:=P) (w:=w) (base:=base) T
 refine gf T.d_moved_between cI (fun _ _ _ _ _ _ us hl=>L2.mV (fun _ _=>rfl) us hl) ?_ fun f cdv A outer s H vs Q E hr h=>?_
 ·rintro vs H Q E ⟨a,b,us,ws,A',B,rfl,_⟩;rfl
 obtain ⟨a,b,us,ws,A',B,rfl,ha,hA,hn,hlA,hb,hB,hlB,q⟩:=h
 have hu:=hr.units0
 have hu64:=hr.units
 refine ⟨_,(au (aR (i:=2) cI.nd rfl (Or.inl W3) (aK d9 (hr.mono (by decide)) (bC kz1j) (aa (aj 0 W0) ak) (by trivial)) rfl) (au (aR (i:=3) cI.nd rfl (Or.inl Tc) (cX ak) rfl) (au (fu ZS rfl (Bu (K:=K) rfl rfl (bC kz1a) T.b_enumerate (aa (aj 1 kz1b) ak)) (zV (K:=K) rfl rfl (aU (aO (i:=4) cI.nd rfl (Or.inl Td) rfl) (aU (aO (i:=5) cI.nd rfl (Or.inl Ex) rfl) gF))) (au (aR (i:=6) cI.nd rfl (Or.inl Jj) (MF hu64 (aj 2 W3) (aK dg (hr.mono (by decide)) (bC kz1i) (aa (aj 5 Ex) ak) (by trivial))) rfl) (au (bf (aM HS (aj 6 Jj) mR (by walk_at "p")) (aA yz) aQ) (au (aR (i:=7) cI.nd rfl (Or.inl Te) (aX (K:=K) rfl (aX (K:=K) rfl (aj 0 W0) (aj 6 Jj)) aq) rfl) (aA (bf (aM (m9 (K:=K) rfl hu64) (bR (aa (aj 7 Te) (aa (aj 6 Jj) ak))) (bR (aa (aX (K:=K) rfl (aj 5 Ex) aq) (aa (aj 4 Td) ak))) (by walk_at "p")) (aA (f9 (pP (K:=K) rfl Aaf AaC AaD lG (aj 3 Tc) (aa (bR (aa (aX (K:=K) rfl (aj 5 Ex) aq) (aa (aX (K:=K) rfl (aj 5 Ex) aq) (aa (aj 7 Te) (aa (aX (K:=K) rfl (aj 5 Ex) aq) (aa (aj 6 Jj) (aa (aj 4 Td) ak))))))) ak)))) aQ)))))) (aA (aD (aj 3 Tc)))))),?_⟩
 walk_at "s"
 have hs:20000<=sizeLine:=by decide
 refine ⟨a,us,A',rfl,ha,hA,hlA,fun d H1 nd S1 hd=>?_⟩
 walk_at "s"
 rw [Py hn] at hd
 refine aF rfl fun m H2 nm S2 hm=>?_
 walk_at "s"
 have nm0:=Same.back S1 nm
 have U2:=S1.trans S2
 refine .inr ⟨b,ws,rfl,SqL.of (U2 _ _ hb),?_⟩
 refine wB (xs:=ws) (fun k U G=>Same H1 G/\(∃ ys,G m=some (.lst ys)/\RT G ys (Ft A' B k))/\∃ x4 x5 x6 x7,U=[some (.ref a),some (.ref b),some (.ref d),some (.ref m),x4,x5,x6,x7]) ⟨S2,⟨[],hm,RT.nil⟩,_,_,_,_,rfl⟩ (fun i U G _ h=>SqL.of (h.1 _ _ (S1 _ _ hb))) ?_ ?_
 ·rintro k U G T' v hv ⟨s,⟨ys,hmG,hY⟩,x4,x5,x6,x7,rfl⟩ nT
  obtain ⟨p,hp,c,rfl,hc⟩:=(hB.same (S1.trans s)).at hv
  have hyl:ys.length<=k:=by rw [hY.1];exact tR k
  have hk:=(YS.mp hp).1
  have hN:=yZ (A:=A') hp
  have s2:=(Same.refl G).upd nT (o:=.tup [.int (k:Int),.ref c])
  have f2:=ao (H:=G) (a:=T') (o:=.tup [.int (k:Int),.ref c])
  generalize upd G T' (.tup [.int (k:Int),.ref c])=G2 at s2 f2 ⊢
  refine gW (SqT.of f2) rfl ?_
  walk_at "s"
  refine ⟨d,rfl,.inr ⟨_,.inl (s2 _ _ (s _ _ hd))⟩,?_⟩
  walk_at "s"
  refine ⟨c,p,rfl,s2 _ _ hc,fun t G3 nt s3 ht=>?_⟩
  walk_at "s"
  refine ⟨_,DGet.t (s3 _ _ (s2 _ _ (s _ _ hd))) ht,?_⟩
  rw [gJ,jz hn]
  have s23:=s2.trans s3
  unfold yX at hN
  cases e:uR A' p.2 with
  | none=>
   rw [e] at hN
   walk_at "s"
   refine ⟨s.trans s23,⟨ys,s23 _ _ hmG,?_⟩,_,_,_,_,rfl⟩
   rw [hN,show (none:Option (List Int)).toList=[] from rfl,Zt]
   exact hY.same s23
  | some i=>
   rw [e] at hN
   obtain ⟨p',hp',_⟩:=iQ e
   have hg:A'.getD i (0,0,0)=p':=by rw [Y0,hp'];rfl
   simp only [hg] at hN
   obtain ⟨v',hv',c',rfl,hc'⟩:=(hA.same ((S1.trans s).trans s23)).of hp'
   replace hc':G3 c'=some (.tup [.int (p'.1:Int),.int (p'.2.1:Int),.int (p'.2.2:Int)]):=hc'
   have hc3:G3 c=some (.tup [.int (p.1:Int),.int (p.2.1:Int),.int (p.2.2:Int)]):=s23 _ _ hc
   have hU3:=(S1.trans s).trans s23
   show mX 6 (.int (i:Int)) _ _ _
   walk_at "s"
   rw [Y5 (by intro z;cases z)]
   walk_at "s"
   refine bW (SqL.of (hU3 _ _ ha)) (bw hv') ?_
   walk_at "s"
   refine aF rfl fun t1 G4 _ s4 h4=>?_
   walk_at "s"
   have hc4:=s4 _ _ hc3
   walk_at "s"
   refine aF rfl fun t2 G5 _ s5 h5=>?_
   walk_at "s"
   refine ne2 (ns:=[(p'.1:Int),(i:Int)]) (ms:=[(p.1:Int),(k:Int)]) (s5 _ _ h4) h5 ?_
   have s25:=s23.trans (s4.trans s5)
   by_cases hq:p'.1=p.1/\i=k
   ·rw [if_pos hq] at hN
    rw [YZ (by rw [hq.1,hq.2])]
    try with_reducible refine sO ?_
    walk_at "s"
    refine ⟨s.trans s25,⟨ys,s25 _ _ hmG,?_⟩,_,_,_,_,rfl⟩
    rw [hN,show (none:Option (List Int)).toList=[] from rfl,Zt]
    exact hY.same s25
   ·rw [if_neg hq] at hN
    rw [Y5 (fun z=>hq (by simp only [Abt,and_true] at z;omega))]
    have hc5:=s5 _ _ hc4
    try with_reducible refine sS ?_
    walk_at "s"
    refine ⟨.inl ⟨rfl,_,SqL.of (s25 _ _ hmG)⟩,?_⟩
    walk_at "s"
    refine aF rfl fun t3 G6 _ s6 h6=>?_
    walk_at "s"
    have s26:=s25.trans s6
    refine lO (s26 _ _ hmG) (by omega) ?_
    walk_at "s"
    have nm1:=nm
    refine ⟨Same.put (s.trans s26) nm1,⟨_,ao,?_⟩,_,_,_,_,rfl⟩
    rw [hN]
    refine RT.push (vs:=ys) (L:=Ft A' B k) ?_ ⟨t3,rfl,?_⟩
    ·refine ⟨hY.1,fun i' v t e1 e2=>?_⟩
     obtain ⟨a',rfl,h'⟩:=(hY.same s26).2 i' v t e1 e2
     exact ⟨a',rfl,by rw [aC (fun z=>by rw [z,s26 _ _ hmG] at h';cases h')];exact h'⟩
    ·rw [aC (fun z=>by rw [z,s26 _ _ hmG] at h6;cases h6)];exact h6
 ·rintro U G ⟨s,⟨ys,hmG,hY⟩,x4,x5,x6,x7,rfl⟩
  walk_at "s"
  rw [hB.1] at hY
  exact q m ys G nm0 (S1.trans s) hmG hY
def Nw (H:Hp) (n:Addr) (A B:List P3):Prop:=∃ (c l m:Addr) (cs ls ms:List V),H n=some (.tup [.ref c,.ref l,.ref m])/\H c=some (.lst cs)/\R3 H cs (gm B A)/\H l=some (.lst ls)/\R3 H ls (gm A B)/\H m=some (.lst ms)/\RT H ms (mv A B)
theorem Nw.same {H H':Hp} {n:Addr} {A B:List P3} (h:Nw H n A B) (s:Same H H'):Nw H' n A B:=by
 obtain ⟨c,l,m,cs,ls,ms,h1,h2,h3,h4,h5,h6,h7⟩:=h
 exact ⟨c,l,m,cs,ls,ms,s _ _ h1,s _ _ h2,h3.same s,s _ _ h4,h5.same s,s _ _ h6,h7.same s⟩
def Tf (K:W.Frag) (mg:Str->Option Value):Sp:=fun vs H Q E=>∃ (v1 v2:V) (r1:Option (List (Option (List (Option Int))))),vs=[v1,v2]/\SL K H v1 r1/\(¬ GoodR r1->Exc mg "NoNear" H v1 E)/\(GoodR r1->∃ r2,SL K H v2 r2/\(¬ GoodR r2->Exc mg "NoNear" H v2 E)/\
 ∀ A B:List P3,r1=some (A.map o3)->Good A->r2=some (B.map o3)->Good B->∀ n H',H n=none->Same H H'->Nw H' n A B->Q (.ref n) H')
theorem Al:aP ["ahead","behind"] ["ahead","behind"] (aB gq):=⟨rfl,rfl,rfl,by trivial,rfl,by trivial,by trivial⟩
theorem ji (T:Txt K mg):Dy P w K mg base 7 "news_of" ["ahead","behind"] (Tf K mg):=by
 have dF:=dF (P:=P) (w:=w) (base:=base) T
 have fO:=fO (P:=P) (w:=w) (base:=base) T
 have iV:=iV (P:=P) (w:=w) (base:=base) T
 refine HR T.d_news_of Al (fun _ _ _ _ _ _ us hl=>L2.mV (fun _ _=>rfl) us hl) ?_ fun f cdv A outer s H vs Q E hr h=>?_
 ·rintro vs H Q E ⟨v1,v2,r1,rfl,_⟩;rfl
 obtain ⟨v1,v2,r1,rfl,hv1,q1,q2⟩:=h
 have hu:=hr.units0
 have hu64:=hr.units
 refine ⟨_,(au (f9 (mj dF (hr.mono (by decide)) (bC W9) jt (aa (aj 0 M9) ak) (by trivial))) (au (f9 (mj dF (hr.mono (by decide)) (bC W9) jt (aa (aj 1 M8) ak) (by trivial))) (aA (aD (bR (aa (aK fO (hr.mono (by decide)) (bC W4) (aa (aj 1 M8) (aa (aj 0 M9) ak)) (by trivial)) (aa (aK fO (hr.mono (by decide)) (bC W4) (aa (aj 0 M9) (aa (aj 1 M8) ak)) (by trivial)) (aa (aK iV (hr.mono (by decide)) (bC kz1k) (aa (aj 0 M9) (aa (aj 1 M8) ak)) (by trivial)) ak)))))))),?_⟩
 walk_at "s"
 refine ⟨v1,r1,rfl,hv1,fun g1 H1 S1=>?_,q1⟩
 walk_at "s"
 obtain ⟨r2,hv2,q3,q4⟩:=q2 g1
 refine ⟨v2,r2,rfl,hv2.same S1,fun g2 H2 S2=>?_,fun h=>(q3 h).same S1⟩
 walk_at "s"
 obtain ⟨A',rfl,gA⟩:=g1
 obtain ⟨B,rfl,gB⟩:=g2
 replace q4:=q4 A' B rfl gA rfl gB
 obtain ⟨a,us,rfl,ha,hA,_⟩:=hv1.r3
 obtain ⟨b,ws,rfl,hb,hB,_⟩:=hv2.r3
 have U2:=S1.trans S2
 walk_at "s"
 refine ⟨b,a,ws,us,B,A',rfl,U2 _ _ hb,hB.same U2,gB.le,U2 _ _ ha,hA.same U2,gA.le,fun c cs H3 nc S3 hc hC=>?_⟩
 walk_at "s"
 have U3:=U2.trans S3
 refine ⟨a,b,us,ws,A',B,rfl,U3 _ _ ha,hA.same U3,gA.le,U3 _ _ hb,hB.same U3,gB.le,fun l ls H4 nl S4 hl hL=>?_⟩
 walk_at "s"
 have U4:=U3.trans S4
 refine ⟨a,b,us,ws,A',B,rfl,U4 _ _ ha,hA.same U4,gA.nd,gA.le,U4 _ _ hb,hB.same U4,gB.le,fun m ms H5 nm S5 hm hM=>?_⟩
 walk_at "s"
 refine aF rfl fun n H6 nn S6 hn=>?_
 walk_at "s"
 have V:=S4.trans (S5.trans S6)
 exact q4 n H6 (Same.back (U4.trans S5) nn) (U3.trans V) ⟨c,l,m,cs,ls,ms,hn,V _ _ hc,hC.same V,(S5.trans S6) _ _ hl,hL.same (S5.trans S6),S6 _ _ hm,hM.same S6⟩
theorem xZ {p q:P3} (h:i3 p=i3 q):p=q:=by
 unfold i3 at h
 simp only [Abt,and_true] at h
 exact Prod.ext (by omega) (Prod.ext (by omega) (by omega))
def Nf (p q:P3):Prop:=HT.lexLt (i3 q) (i3 p)=false
theorem Cp {L:List P3} (h:∀ (i:Nat) (p q:P3),L[i]?=some p->L[i+1]?=some q->HT.lexLt (i3 p) (i3 q)=true):∀ (n i:Nat) (p q:P3),L[i]?=some p->L[i+n+1]?=some q->HT.lexLt (i3 p) (i3 q)=true
 | 0,i,p,q,e1,e2=>h i p q e1 e2
 | n+1,i,p,q,e1,e2=>by
  have hl:i+n+1 < L.length:=by have:=(YS.mp e2).1;omega
  have e3:=YL hl
  exact lU (Cp h n i p _ e1 e3) (h (i+n+1) _ q e3 (by rw [show i+n+1+1=i+(n+1)+1 by omega];exact e2))
theorem Ng {a b:List Int} (h:HT.lexLt a b=true):HT.lexLt b a=false:=by
 cases e:HT.lexLt b a with
 | false=>rfl
 | true=>
  have:=lU h e
  rw [Aa] at this;cases this
theorem Good.pw {L:List P3} (g:Good L):L.Pairwise Nf:=by
 rw [AaV]
 intro i j hi hj hij
 refine Ng (Cp g.so (j - i - 1) i _ _ (YL hi) ?_)
 rw [show i+(j - i - 1)+1=j by omega]
 exact YL hj
theorem Jl {L M:List P3} (h1:L.Pairwise Nf) (h2:M.Pairwise Nf) (h:L.Perm M):L=M:=
 List.Perm.eq_of_pairwise (fun a b _ _ x y=>xZ (qG (show HT.lexLt (i3 a) (i3 b)=false from y) x)) h1 h2 h
theorem Nh {L:List P3} (h:L.Pairwise Nf) (ho:∀ p∈L,yU p) (hn:(L.map (·.2)).Nodup) (hl:L.length<=1000):Good L:=by
 refine ⟨ho,hn,fun i p q e1 e2=>?_,hl⟩
 obtain ⟨h1,rfl⟩:=YS.mp e1
 obtain ⟨h2,rfl⟩:=YS.mp e2
 have hb:=AaV.mp h i (i+1) h1 h2 (by omega)
 cases e:HT.lexLt (i3 L[i]) (i3 L[i+1]) with
 | true=>rfl
 | false=>
  have:=xZ (qG e hb)
  have:=oG hn h1 h2 (by rw [eZ (YL h1),eZ (YL h2),this])
  omega
theorem PB {L:List P3} (h:(L.map (·.2)).Nodup):L.Nodup:=List.Pairwise.of_map (·.2) (fun a b n e=>n (by rw [e])) h
theorem Jm {L:List P3} (hn:(L.map (·.2)).Nodup) {i:Nat} {p:P3} (h:L[i]?=some p):uR L p.2=some i:=by
 cases e:uR L p.2 with
 | none=>exact absurd rfl (nF e p (Zr h))
 | some j=>
  obtain ⟨q,hq,e2⟩:=iQ e
  have:=oG hn (YS.mp hq).1 (YS.mp h).1 (by rw [eZ hq,eZ h,e2])
  rw [this]
theorem lX {L:List P3} (hn:(L.map (·.2)).Nodup) {p q:P3} (hp:p∈L) (hq:q∈L) (h:p.2=q.2):p=q:=by
 obtain ⟨i,hi,e1⟩:=Zh.mp hp
 obtain ⟨j,hj,e2⟩:=Zh.mp hq
 have:=oG hn hi hj (by rw [eZ (YL hi),eZ (YL hj),e1,e2,h])
 subst this
 exact e1.symm.trans e2
theorem eG {R O:List P3} {p:P3}:p∈gm R O↔p∈R/\∀ q∈O,q.2≠p.2:=by
 unfold gm
 rw [List.mem_filter]
 constructor
 ·rintro ⟨h1,h2⟩
  refine ⟨h1,?_⟩
  cases e:uR O p.2 with
  | none=>exact nF e
  | some i=>rw [e] at h2;cases h2
 ·rintro ⟨h1,h2⟩
  refine ⟨h1,?_⟩
  cases e:uR O p.2 with
  | none=>rfl
  | some i=>
   obtain ⟨q,hq,e2⟩:=iQ e
   exact absurd e2 (h2 q (Zr hq))
theorem mJ (R O:List P3):(gm R O).length<=R.length:=List.length_filter_le _ _
def sm (m:List Int):Int×Int:=(m.getD 0 0,m.getD 1 0)
def cm (m:List Int):Int:=m.getD 3 0
theorem Jo {A B:List P3} {m:List Int} (h:m∈mv A B):∃ (i j:Nat) (p q:P3),B[j]?=some p/\A[i]?=some q/\q.2=p.2/\m=[(p.2.1:Int),(p.2.2:Int),(q.1:Int),(p.1:Int),(i:Int),(j:Int)]:=by
 unfold mv Ft at h
 obtain ⟨j,hj,hm⟩:=List.mem_flatMap.mp h
 have hjl:=AaE.mp hj
 have hp:=YL hjl
 rw [Y0,hp] at hm
 unfold yX at hm
 dsimp only [Option.getD_some] at hm
 cases e:uR A (B[j]).2 with
 | none=>rw [e] at hm;simp at hm
 | some i=>
  rw [e] at hm
  obtain ⟨q,hq,e2⟩:=iQ e
  have hg:A.getD i (0,0,0)=q:=by rw [Y0,hq];rfl
  simp only [hg] at hm
  refine ⟨i,j,B[j],q,hp,hq,e2,?_⟩
  split at hm
  ·simp at hm
  ·simpa using hm
theorem Tg {A B:List P3} {i j:Nat} {p q:P3} (hp:B[j]?=some p) (hi:uR A p.2=some i) (hq:A[i]?=some q) (h:¬ (q.1=p.1/\i=j)):∃ m∈mv A B,sm m=p.2:=by
 refine ⟨[(p.2.1:Int),(p.2.2:Int),(q.1:Int),(p.1:Int),(i:Int),(j:Int)],?_,Prod.ext (by simp [sm]) (by simp [sm])⟩
 unfold mv Ft
 refine List.mem_flatMap.mpr ⟨j,AaE.mpr (YS.mp hp).1,?_⟩
 rw [Y0,hp]
 unfold yX
 have hg:A.getD i (0,0,0)=q:=by rw [Y0,hq];rfl
 dsimp only [Option.getD_some]
 rw [hi]
 simp only [hg]
 rw [if_neg h]
 simp
def Jp (H:Hp) (a:Addr):List Int:=match H a with
 | some (.tup xs)=>xs.map fun v=>match v with | .int n=>n | _=>0
 | _=>[]
theorem yc {H:Hp} {a:Addr} {t:List Int} (h:H a=some (.tup (t.map V.int))):Jp H a=t:=by
 unfold Jp
 rw [h]
 dsimp only
 rw [ZL]
 conv=>rhs;rw [← List.map_id t]
 rfl
def c3 (t:List Int):P3:=(t.getD 0 0,t.getD 1 0,t.getD 2 0)
theorem Cq (p:P3):c3 (i3 p)=p:=Prod.ext (by simp [c3,i3]) (Prod.ext (by simp [c3,i3]) (by simp [c3,i3]))
def Th:V->Addr
 | .ref a=>a
 | _=>0
theorem oH {H:Hp} {Q:VK} {p:Addr} {us:List V} {W:List P3} (hp:H p=some (.lst us)) (hW:R3 H us W) (hl:W.length<=100000)
  (h:∀ (q:Addr) (ys:List V) (H':Hp) (L:List P3),H q=none->Same H H'->H' q=some (.lst ys)->R3 H' ys L->L.Perm W->L.Pairwise Nf->Q (.ref q) H'):xM [.ref p] H Q:=by
 have hul:=hW.1
 have hus:us=(us.map Th).map V.ref:=by
  rw [ZL]
  conv=>lhs;rw [← List.map_id us]
  refine Aab fun v hv=>?_
  obtain ⟨i,hi,e⟩:=Zh.mp hv
  obtain ⟨p,_,a,rfl,_⟩:=hW.at (i:=i) (v:=v) (by rw [YL hi,e])
  rfl
 have hc:∀ a∈us.map Th,∃ p,H a=some (.tup (v3 p)):=fun a ha=>by
  obtain ⟨v,hv,rfl⟩:=Zd.mp ha
  obtain ⟨i,hi,e⟩:=Zh.mp hv
  obtain ⟨p,_,a,rfl,hh⟩:=hW.at (i:=i) (v:=v) (by rw [YL hi,e])
  exact ⟨p,hh⟩
 have hWm:(us.map Th).map (fun a=>c3 (Jp H a))=W:=by
  refine List.ext_getElem? fun i=>?_
  rw [ZL,Ze]
  cases e:us[i]? with
  | none=>
   rw [List.getElem?_eq_none_iff] at e
   rw [List.getElem?_eq_none (by omega)];rfl
  | some v=>
   obtain ⟨p,hp,a,rfl,hh⟩:=hW.at e
   rw [hp]
   show some (c3 (Jp H a))=_
   rw [yc (t:=i3 p) hh,Cq]
 refine yQ (as:=us.map Th) (Jp H) (by rw [← hus];exact hp) (by rw [YQ];omega) (fun a ha=>?_) fun q bs H' nq S hq pe pw=>?_
 ·obtain ⟨p,hh⟩:=hc a ha
  rw [yc (t:=i3 p) hh]
  exact ⟨hh,by simp [i3]⟩
 ·have hbs:∀ a∈bs,∃ p,H a=some (.tup (v3 p))/\Jp H a=i3 p:=fun a ha=>by
   obtain ⟨p,hh⟩:=hc a (pe.mem_iff.mp ha)
   exact ⟨p,hh,yc (t:=i3 p) hh⟩
  refine h q (bs.map V.ref) H' (bs.map fun a=>c3 (Jp H a)) nq S hq ⟨by simp,fun i v r e1 e2=>?_⟩ ?_ ?_
  ·rw [Ze] at e1 e2
   cases e:bs[i]? with
   | none=>rw [e] at e1;cases e1
   | some a=>
    rw [e] at e1 e2
    cases e1;cases e2
    obtain ⟨p,hh,ec⟩:=hbs a (Zr e)
    exact ⟨a,rfl,S _ _ (by show H a=some (.tup (v3 (c3 (Jp H a))));rw [ec,Cq];exact hh)⟩
  ·rw [← hWm];exact pe.map _
  ·rw [List.pairwise_map]
   refine pw.imp_of_mem fun {a b} ha hb hab=>?_
   obtain ⟨p,_,ep⟩:=hbs a ha
   obtain ⟨r,_,er⟩:=hbs b hb
   show HT.lexLt (i3 (c3 (Jp H b))) (i3 (c3 (Jp H a)))=false
   rw [ep,er,Cq,Cq,← ep,← er]
   exact hab
def eP (p:P3):(Int×Int)×V:=(p.2,.int p.1)
def mP (t:List Int):P3:=(cm t,sm t)
theorem tU (W:List P3):(W.map eP).map (·.1)=W.map (·.2):=by rw [ZL];rfl
theorem Xa (W:List P3) (p:P3):∃ W':List P3,lV (W.map eP) (eP p).1 (eP p).2=W'.map eP:=by
 unfold lV
 split
 ·refine ⟨W.map fun q=>if q.2=p.2 then (p.1,q.2) else q,?_⟩
  unfold rH
  rw [ZL,ZL]
  refine Aab fun q _=>?_
  show (if q.2=p.2 then (q.2,V.int p.1) else (q.2,V.int q.1))=eP (if q.2=p.2 then (p.1,q.2) else q)
  split <;> rfl
 ·exact ⟨W ++ [p],by rw [Zw];rfl⟩
theorem f_W:∀ (T W:List P3),∃ W':List P3,fZ (T.map eP) (W.map eP)=W'.map eP
 | [],W=>⟨W,rfl⟩
 | p :: T,W=>by
  obtain ⟨W1,e1⟩:=Xa W p
  obtain ⟨W2,e2⟩:=f_W T W1
  refine ⟨W2,?_⟩
  show fZ (T.map eP) (lV (W.map eP) (eP p).1 (eP p).2)=_
  rw [e1,e2]
def lstP (T:List P3) (s:Int×Int):Option V:=jA (T.map eP) s
theorem Am (T:List P3):∃ W:List P3,fZ (T.map eP) []=W.map eP/\W.length<=T.length/\(W.map (·.2)).Nodup/\∀ p,p∈W↔lstP T p.2=some (.int p.1):=by
 obtain ⟨W,e⟩:=f_W T []
 replace e:fZ (T.map eP) []=W.map eP:=e
 have hn:(W.map (·.2)).Nodup:=by
  rw [← tU,← e]
  exact Pu (by simp)
 refine ⟨W,e,?_,hn,fun p=>?_⟩
 ·have:=uT (T.map eP) []
  rw [e,YQ,YQ,Z1] at this
  omega
 ·have hl:(W.map eP).lookup p.2=lstP T p.2:=by
   rw [← e,tQ]
   unfold lstP
   cases jA (T.map eP) p.2 <;> rfl
  rw [← hl]
  constructor
  ·intro h
   exact yV (by rw [tU];exact hn) (eP p) (Zd.mpr ⟨p,h,rfl⟩)
  ·intro h
   obtain ⟨x,hx,ex⟩:=Zd.mp (iJ h)
   obtain ⟨q,hq,rfl⟩:=Zd.mp hx
   have h2:=yV (Z:=W.map eP) (by rw [tU];exact hn) (eP q) (Zd.mpr ⟨q,hq,rfl⟩)
   rw [ex,h] at h2
   have h3:p.1=q.1:=V.int.inj (Zn h2)
   have h4:q.2=p.2:=ex
   rw [show p=q from Prod.ext h3 h4.symm]
   exact hq
theorem Jq (xs ys:List ((Int×Int)×V)) (s:Int×Int):jA (xs ++ ys) s=(jA ys s).orElse fun _=>jA xs s:=by
 induction xs with
 | nil=>
  show jA ys s=_
  cases jA ys s <;> rfl
 | cons x xs ih=>
  show (match jA (xs ++ ys) s with | some v=>some v | none=>if s=x.1 then some x.2 else none)=_
  rw [ih]
  cases jA ys s with
  | some v=>rfl
  | none=>rfl
theorem qO (S T:List P3) (s:Int×Int):lstP (S ++ T) s=(lstP T s).orElse fun _=>lstP S s:=by
 unfold lstP
 rw [Zw]
 exact Jq _ _ s
theorem eV {T:List P3} {s:Int×Int} (h:∀ p∈T,p.2≠s):lstP T s=none:=g8.mpr fun x hx=>by
 obtain ⟨p,hp,rfl⟩:=Zd.mp hx
 exact h p hp
theorem nJ {T:List P3} {s:Int×Int} {c:Int} (h:∀ p∈T,p.2=s->p.1=c) (he:∃ p∈T,p.2=s):lstP T s=some (.int c):=Jd (fun x hx e=>by
  obtain ⟨p,hp,rfl⟩:=Zd.mp hx
  show V.int p.1=_
  rw [h p hp e]) (by
  obtain ⟨p,hp,e⟩:=he
  exact ⟨eP p,Zd.mpr ⟨p,hp,rfl⟩,e⟩)
theorem tV {o:Option V} {v:V} {f:Unit->Option V} (h:o=some v):(o.orElse f)=some v:=by rw [h];rfl
theorem or_none {o:Option V} {f:Unit->Option V} (h:o=none):(o.orElse f)=f ():=by rw [h];rfl
section
variable {A B:List P3}
theorem An {p:P3} (h:p∈(mv A B).map mP):p∈B/\∃ a∈A,a.2=p.2:=by
 obtain ⟨t,ht,rfl⟩:=Zd.mp h
 obtain ⟨i,j,p,q,h1,h2,h3,rfl⟩:=Jo ht
 exact ⟨Zr h1,q,Zr h2,h3⟩
theorem still (hA:(A.map (·.2)).Nodup) {a b:P3} (ha:a∈A) (hb:b∈B) (e:a.2=b.2) (hm:¬ ∃ p∈(mv A B).map mP,p.2=b.2):a.1=b.1:=by
 obtain ⟨i,hi,ei⟩:=Zh.mp ha
 obtain ⟨j,hj,ej⟩:=Zh.mp hb
 have hai:A[i]?=some a:=by rw [YL hi,ei]
 have hbj:B[j]?=some b:=by rw [YL hj,ej]
 have:=Classical.byContradiction fun hc=>hm (by
  obtain ⟨m,h1,h2⟩:=Tg hbj (by rw [← e];exact Jm hA hai) hai hc
  exact ⟨mP m,Zd.mpr ⟨m,h1,rfl⟩,h2⟩)
 exact this.1
theorem Jr (hB:(B.map (·.2)).Nodup) {b:P3} (hb:b∈B) (he:∃ p∈(mv A B).map mP,p.2=b.2):lstP ((mv A B).map mP) b.2=some (.int b.1):=nJ (fun p hp e=>by rw [lX hB (An hp).1 hb e]) he
theorem Ao (hA:(A.map (·.2)).Nodup) (hB:(B.map (·.2)).Nodup) (p:P3):lstP (gm A (gm A B) ++ gm B A ++ (mv A B).map mP) p.2=some (.int p.1)↔p∈B:=by
 rw [qO]
 by_cases hs:∃ b∈B,b.2=p.2
 ·obtain ⟨b,hb,eb⟩:=hs
  have hv:((lstP ((mv A B).map mP) p.2).orElse fun _=>lstP (gm A (gm A B) ++ gm B A) p.2)=some (.int b.1):=by
   rw [← eb]
   by_cases hm:∃ q∈(mv A B).map mP,q.2=b.2
   ·exact tV (Jr hB hb hm)
   ·rw [or_none (eV fun q hq e=>hm ⟨q,hq,e⟩)]
    refine nJ (fun q hq e=>?_) ?_
    ·rcases Y8.mp hq with h | h
     ·exact still hA (eG.mp h).1 hb e hm
     ·rw [lX hB (eG.mp h).1 hb e]
    ·by_cases ha:∃ a∈A,a.2=b.2
     ·obtain ⟨a,ha,ea⟩:=ha
      exact ⟨a,Y8.mpr (.inl (eG.mpr ⟨ha,fun q hq e=>(eG.mp hq).2 b hb (ea.symm.trans e.symm)⟩)),ea⟩
     ·exact ⟨b,Y8.mpr (.inr (eG.mpr ⟨hb,fun a h e=>ha ⟨a,h,e⟩⟩)),rfl⟩
  rw [hv]
  constructor
  ·intro h
   have:p=b:=Prod.ext (V.int.inj (Zn h)).symm eb.symm
   rw [this];exact hb
  ·intro h
   rw [lX hB hb h eb]
 ·have hv:((lstP ((mv A B).map mP) p.2).orElse fun _=>lstP (gm A (gm A B) ++ gm B A) p.2)=none:=by
   rw [or_none (eV fun q hq e=>hs ⟨q,(An hq).1,e⟩)]
   refine eV fun q hq e=>?_
   rcases Y8.mp hq with h | h
   ·obtain ⟨h1,h2⟩:=eG.mp h
    exact h2 q (eG.mpr ⟨h1,fun b hb eb=>hs ⟨b,hb,eb.trans e⟩⟩) rfl
   ·exact hs ⟨q,(eG.mp h).1,e⟩
  rw [hv]
  exact ⟨fun h=>(by cases h),fun h=>absurd ⟨p,h,rfl⟩ hs⟩
theorem Ti (hA:(A.map (·.2)).Nodup) (hB:(B.map (·.2)).Nodup) (hp:∀ b∈B,b.1≠-1) (p:P3):(lstP (A ++ (gm A B).map (fun q=>(-1,q.2)) ++ (mv A B).map mP ++ gm B A) p.2=some (.int p.1)/\p.1≠-1)↔p∈B:=by
 rw [qO,qO,qO]
 by_cases hs:∃ b∈B,b.2=p.2
 ·obtain ⟨b,hb,eb⟩:=hs
  have hv:((lstP (gm B A) p.2).orElse fun _=>(lstP ((mv A B).map mP) p.2).orElse fun _=>(lstP ((gm A B).map fun q=>((-1:Int),q.2)) p.2).orElse fun _=>lstP A p.2)=some (.int b.1):=by
   rw [← eb]
   by_cases ha:∃ a∈A,a.2=b.2
   ·obtain ⟨a,ha,ea⟩:=ha
    rw [or_none (eV fun q hq e=>(eG.mp hq).2 a ha (ea.trans e.symm))]
    by_cases hm:∃ q∈(mv A B).map mP,q.2=b.2
    ·exact tV (Jr hB hb hm)
    ·rw [or_none (eV fun q hq e=>hm ⟨q,hq,e⟩)]
     rw [or_none (eV fun q hq e=>by
      obtain ⟨r,hr,rfl⟩:=Zd.mp hq
      exact (eG.mp hr).2 b hb e.symm)]
     exact nJ (fun q hq e=>still hA hq hb e hm) ⟨a,ha,ea⟩
   ·exact tV (nJ (fun q hq e=>by rw [lX hB (eG.mp hq).1 hb e]) ⟨b,eG.mpr ⟨hb,fun a h e=>ha ⟨a,h,e⟩⟩,rfl⟩)
  rw [hv]
  constructor
  ·rintro ⟨h,_⟩
   have:p=b:=Prod.ext (V.int.inj (Zn h)).symm eb.symm
   rw [this];exact hb
  ·intro h
   rw [lX hB hb h eb]
   exact ⟨rfl,hp p h⟩
 ·have hv:((lstP (gm B A) p.2).orElse fun _=>(lstP ((mv A B).map mP) p.2).orElse fun _=>(lstP ((gm A B).map fun q=>((-1:Int),q.2)) p.2).orElse fun _=>lstP A p.2)=none\/((lstP (gm B A) p.2).orElse fun _=>(lstP ((mv A B).map mP) p.2).orElse fun _=>(lstP ((gm A B).map fun q=>((-1:Int),q.2)) p.2).orElse fun _=>lstP A p.2)=some (.int (-1)):=by
   rw [or_none (eV fun q hq e=>hs ⟨q,(eG.mp hq).1,e⟩),or_none (eV fun q hq e=>hs ⟨q,(An hq).1,e⟩)]
   by_cases ha:∃ a∈A,a.2=p.2
   ·obtain ⟨a,ha,ea⟩:=ha
    refine .inr (tV (nJ (fun q hq _=>?_) ⟨(-1,a.2),Zd.mpr ⟨a,eG.mpr ⟨ha,fun b hb e=>hs ⟨b,hb,e.trans ea⟩⟩,rfl⟩,ea⟩))
    obtain ⟨r,hr,rfl⟩:=Zd.mp hq
    rfl
   ·refine .inl ?_
    rw [or_none (eV fun q hq e=>by
     obtain ⟨r,hr,rfl⟩:=Zd.mp hq
     exact ha ⟨r,(eG.mp hr).1,e⟩)]
    exact eV fun q hq e=>ha ⟨q,hq,e⟩
  refine ⟨fun ⟨h,h2⟩=>?_,fun h=>absurd ⟨p,h,rfl⟩ hs⟩
  rcases hv with hv | hv
  ·rw [hv] at h;cases h
  ·rw [hv] at h
   exact absurd (V.int.inj (Zn h)).symm h2
end
theorem tW {W B:List P3} (h1:(W.map (·.2)).Nodup) (h2:(B.map (·.2)).Nodup) (h:∀ p,p∈W↔p∈B):W.Perm B:=(List.perm_ext_iff_of_nodup (PB h1) (PB h2)).mpr h
theorem nM:(["part","many"]:List Str).Nodup:=by trivial
theorem lY:(["span","cost"]:List Str).Nodup:=by trivial
theorem kz1p:cB bO "all":=by trivial
theorem Xb:bF bO "thing":=by trivial
theorem kz1r:cB bO "isinstance":=by trivial
theorem kz1s:cB bO "list":=by trivial
theorem Tj:cB fK "are_all_numbers":=by trivial
theorem Js:bF fK "thing":=by trivial
theorem kz1v:cB fK "len":=by trivial
theorem kz1w:cB fK "isinstance":=by trivial
theorem kz1x:cB fK "tuple":=by trivial
theorem kz1y:cB bK "sorted":=by trivial
theorem Ni:bF bK "costs":=by trivial
theorem Tn:bF bK "news":=by trivial
theorem Nj:bF bK "moved":=by trivial
theorem kz22:cB bK "not_among":=by trivial
theorem kz23:bF bK "ahead":=by trivial
theorem Tp:bF bK "priced":=by trivial
theorem kz25:cB bK "span_of":=by trivial
def oT (t:List Int):Option (List (Option Int)):=some (t.map some)
theorem Tq {s t:List Int} (h:oT s=oT t):s=t:=gb (fun h=>Zn h) (Zn h)
theorem all_some:∀ {os:List (Option Int)},os.all (·.isSome)=true->∃ t:List Int,os=t.map some
 | [],_=>⟨[],rfl⟩
 | none :: os,h=>by cases h
 | some n :: os,h=>by
  obtain ⟨t,rfl⟩:=all_some (os:=os) h
  exact ⟨n :: t,rfl⟩
theorem Xc {k:Nat} {r:Option (List (Option Int))} (h:oM k r=true):∃ t,r=oT t/\t.length=k:=by
 cases r with
 | none=>cases h
 | some os=>
  unfold oM at h
  dsimp only at h
  rw [Zm] at h
  obtain ⟨t,rfl⟩:=all_some h.2
  exact ⟨t,rfl,by have:=Zq h.1;rwa [YQ] at this⟩
theorem Xd (t:List Int):oM t.length (oT t)=true:=by
 show (decide ((t.map some).length=t.length) && (t.map some).all (·.isSome))=true
 rw [YZ (by rw [YQ]),AaB,AaP,ZM]
 exact fun _ _=>rfl
theorem Jt {k:Nat}:∀ {rs:List (Option (List (Option Int)))},rs.all (oM k)=true->∃ ts:List (List Int),rs=ts.map oT/\∀ t∈ts,t.length=k
 | [],_=>⟨[],rfl,fun t h=>nomatch h⟩
 | r :: rs,h=>by
  rw [Z7,Zm] at h
  obtain ⟨t,rfl,e⟩:=Xc h.1
  obtain ⟨ts,rfl,e2⟩:=Jt h.2
  exact ⟨t :: ts,rfl,fun x hx=>by
   rcases Zg.mp hx with rfl | hx
   ·exact e
   ·exact e2 x hx⟩
theorem u5 {k:Nat} {ts:List (List Int)} (h:∀ t∈ts,t.length=k):(ts.map oT).all (oM k)=true:=by
 rw [AaP,ZM]
 intro t ht
 show oM k (oT t)=true
 rw [← h t ht]
 exact Xd t
theorem Xe {H:Hp} {v:V} {t:List Int} (h:Wt K H v (oT t)):AT H v t:=by
 obtain ⟨a,us,rfl,ha,hl,hA⟩:=h
 refine ⟨a,rfl,?_⟩
 rw [ha]
 congr 2
 refine List.ext_getElem? fun i=>?_
 rw [YQ] at hl
 cases e:us[i]? with
 | none=>
  rw [List.getElem?_eq_none_iff] at e
  rw [List.getElem?_eq_none (by rw [YQ];omega)]
 | some u=>
  have hi:=(YS.mp e).1
  have e2:t[i]?=some (t[i]'(by omega)):=YL (by omega)
  have:=hA i u (some (t[i]'(by omega))) e (by rw [Ze,e2];rfl)
  rw [Ze,e2,show u=V.int (t[i]'(by omega)) from this]
  rfl
theorem Xf {H:Hp} {v:V} {t:List Int} (h:AT H v t):Wt K H v (oT t):=by
 obtain ⟨a,rfl,ha⟩:=h
 refine ⟨a,_,rfl,ha,by rw [YQ,YQ],fun i u o e1 e2=>?_⟩
 rw [Ze] at e1 e2
 cases e:t[i]? with
 | none=>rw [e] at e1;cases e1
 | some n=>rw [e] at e1 e2;cases e1;cases e2;rfl
theorem SL.rt {H:Hp} {v:V} {ts:List (List Int)} (h:SL K H v (some (ts.map oT))):∃ p us,v= .ref p/\H p=some (.lst us)/\RT H us ts/\ts.length<=1000:=by
 obtain ⟨p,us,rfl,hp,hl,hl2,hW⟩:=h
 rw [YQ] at hl
 refine ⟨p,us,rfl,hp,⟨hl,fun i v q e1 e2=>Xe (hW i v (oT q) e1 (by rw [Ze,e2];rfl))⟩,by omega⟩
theorem RT.sl {H:Hp} {p:Addr} {us:List V} {ts:List (List Int)} (hp:H p=some (.lst us)) (h:RT H us ts) (hl:ts.length<=1000):SL K H (.ref p) (some (ts.map oT)):=by
 refine ⟨p,us,rfl,hp,by rw [YQ];exact h.1,by rw [h.1];exact hl,fun i u r e1 e2=>?_⟩
 obtain ⟨q,hq,ha⟩:=h.at e1
 rw [Ze,hq] at e2
 cases e2
 exact Xf ha
abbrev RR:=Option (List (Option (List (Option Int))))
def vp (k:Nat):RR->Bool
 | none=>false
 | some rs=>rs.all (oM k)
def Tr (K:W.Frag):Sp:=fun vs H Q _=>∃ (v:V) (r:RR) (k:Nat),vs=[v,.int (k:Int)]/\SL K H v r/\k<=10/\∀ H',Same H H'->Q (.bl (vp k r)) H'
theorem pX:aP ["thing","many"] ["thing","many"] (aB bO):=⟨rfl,rfl,rfl,by trivial,rfl,by trivial,by trivial⟩
theorem dq (T:Txt K mg):mU P w K mg base 3 "are_all_numbers" ["thing","many"] (Tr K):=by
 have eU:=eU (P:=P) (w:=w) (base:=base) T
 refine gf T.d_are_all_numbers pX (fun _ _ _ _ _ _ us hl=>L2.mV (fun _ _=>rfl) us hl) ?_ fun f cdv A outer s H vs Q E hr h=>?_
 ·rintro vs H Q E ⟨v,r,k,rfl,_⟩;rfl
 obtain ⟨v,r,k,rfl,hv,hk2,q⟩:=h
 have hu:=hr.units0
 have hu64:=hr.units
 refine ⟨_,(aA (aD (iK (aL (cZ (K:=K) rfl) (bC kz1r) T.b_isinstance aW (aa (aj 0 Xb) (aa (qu (bC kz1s) T.b_list jd (by trivial) (by trivial)) ak)) (by trivial) (by trivial)) (jE (aL (m6 rfl) (bC kz1p) T.b_all uy (aa (kj (sub:=[none,some 1]) (eN (N:=["thing","many"]) (sc:=aB bO) (N':=["part","many"]) (by trivial)) rfl rfl rfl (fW (K:=K) rfl (aj 0 Xb)) (fun C s₀ H₀ ex=>(rm 0 (by trivial) nM)) (fun C s₀ H₀ ex=>jF) (fun C s₀ H₀ ex=>(aK eU (hr.mono (by decide)) (OD (by trivial)) (aa (dN 0 (by trivial)) (aa (o8 1 (by trivial)) ak)) (by trivial)))) ak) (by trivial) (by trivial)))))),?_⟩
 walk_at "s"
 have hs:20000<=sizeLine:=by decide
 cases r with
 | none=>
  obtain ⟨ty,hty,hk⟩:=hv
  refine dH hty hk ?_
  walk_at "s"
  exact q _ (Same.refl H)
 | some rs=>
  obtain ⟨p,us,rfl,hp,hl,hl2,hW⟩:=hv
  refine dH (.lst hp) rfl ?_
  walk_at "s"
  refine .inl ⟨p,rfl,⟨_,SqL.of hp⟩,?_⟩
  refine jy (xs:=us) (fun i zs G=>Same H G/\zs=((rs.take i).map (oM k)).map V.bl) (by omega) ⟨Same.refl H,rfl⟩ ?_ ?_ ?_ ?_
  ·rintro i zs G ⟨_,rfl⟩
   rw [YQ,YQ,Zb];omega
  ·rintro i zs G ⟨s,_⟩
   exact SqL.of (s _ _ hp)
  ·rintro i zs G v hv ⟨s,rfl⟩
   have hi:i < rs.length:=by rw [← hl];exact (YS.mp hv).1
   obtain ⟨r,er⟩:∃ r,rs[i]?=some r:=⟨_,YL hi⟩
   have hw:=hW i v r hv er
   walk_at "s"
   refine ⟨KeepSt.set rfl,?_⟩
   walk_at "s"
   refine ⟨v,r,k,rfl,hw.same s,hk2,fun G2 s2=>?_⟩
   walk_at "s"
   refine ⟨s.trans s2,?_⟩
   rw [Z0,er,Zw,Zw]
   rfl
  rintro zs G D H2 ⟨s0,rfl⟩ nD s1 hD
  rw [hl,ZC] at hD
  try walk_at "s"
  refine ⟨D,_,rfl,hD,?_⟩
  walk_at "s"
  rw [AaP]
  exact q _ (s0.trans s1)
def NT (K:W.Frag) (H:Hp) (v:V):Option (RR×RR×RR)->Prop
 | none=>NotT K "tuple" H v\/∃ t us,v= .ref t/\H t=some (.tup us)/\us.length≠3
 | some (r0,r1,r2)=>∃ t u0 u1 u2,v= .ref t/\H t=some (.tup [u0,u1,u2])/\SL K H u0 r0/\SL K H u1 r1/\SL K H u2 r2
theorem NT.same {H H':Hp} {v:V} {x:Option (RR×RR×RR)} (h:NT K H v x) (s:Same H H'):NT K H' v x:=by
 match x,h with
 | none,.inl h=>exact .inl (h.same s)
 | none,.inr ⟨t,us,e,ht,hl⟩=>exact .inr ⟨t,us,e,s _ _ ht,hl⟩
 | some (r0,r1,r2),⟨t,u0,u1,u2,e,ht,h0,h1,h2⟩=>exact ⟨t,u0,u1,u2,e,s _ _ ht,h0.same s,h1.same s,h2.same s⟩
def nwB:Option (RR×RR×RR)->Bool
 | none=>false
 | some (r0,r1,r2)=>vp 3 r0 && (vp 3 r1 && vp 6 r2)
def Ey (K:W.Frag):Sp:=fun vs H Q _=>∃ (v:V) (x:Option (RR×RR×RR)),vs=[v]/\NT K H v x/\∀ H',Same H H'->Q (.bl (nwB x)) H'
theorem za:aP ["thing"] ["thing"] (aB fK):=⟨rfl,rfl,rfl,by trivial,rfl,by trivial,by trivial⟩
theorem pY (T:Txt K mg):mU P w K mg base 4 "are_news" ["thing"] (Ey K):=by
 have dq:=dq (P:=P) (w:=w) (base:=base) T
 refine gf T.d_are_news za (fun _ _ _ _ _ _ us hl=>L2.sH (fun _=>rfl) us hl) ?_ fun f cdv A outer s H vs Q E hr h=>?_
 ·rintro vs H Q E ⟨v,x,rfl,_⟩;rfl
 obtain ⟨v,x,rfl,hv,q⟩:=h
 have hu:=hr.units0
 have hu64:=hr.units
 refine ⟨_,(au (bf (jm (lN (dD (dJ (aL (cZ (K:=K) rfl) (bC kz1w) T.b_isinstance aW (aa (aj 0 Js) (aa (qu (bC kz1x) T.b_tuple lH (by trivial) (by trivial)) ak)) (by trivial) (by trivial)))) (iT (aM (m9 (K:=K) rfl hu64) (aL (cH (K:=K) rfl) (bC kz1v) T.b_len fV (aa (aj 0 Js) ak) (by trivial) (by trivial)) aq (by walk_at "p"))))) (aA (aD iR)) aQ) (aA (aD (iK (aK dq (hr.mono (by decide)) (bC Tj) (aa (aX (K:=K) rfl (aj 0 Js) aq) (aa aq ak)) (by trivial)) (iK (aK dq (hr.mono (by decide)) (bC Tj) (aa (aX (K:=K) rfl (aj 0 Js) aq) (aa aq ak)) (by trivial)) (jE (aK dq (hr.mono (by decide)) (bC Tj) (aa (aX (K:=K) rfl (aj 0 Js) aq) (aa aq ak)) (by trivial)))))))),?_⟩
 walk_at "s"
 match x,hv with
 | none,.inl ⟨ty,hty,hk⟩=>
  refine dH hty hk ?_
  walk_at "s"
  exact q _ (Same.refl H)
 | none,.inr hv=>
  obtain ⟨t,us,rfl,ht,hl⟩:=hv
  refine dH (.tup ht) rfl ?_
  walk_at "s"
  refine pO (SqT.of ht) ?_
  walk_at "s"
  rw [nG,Y5 (show ¬ (us.length:Int)=3 by omega)]
  show if true=true then _ else _
  walk_at "s"
  exact q _ (Same.refl H)
 | some (r0,r1,r2),hv=>
  obtain ⟨t,u0,u1,u2,rfl,ht,h0,h1,h2⟩:=hv
  refine dH (.tup ht) rfl ?_
  walk_at "s"
  refine pO (SqT.of ht) ?_
  walk_at "s"
  rw [show (!decide (V.int (([u0,u1,u2]:List V).length:Int)=V.int 3))=false from rfl]
  replace q:∀ H',Same H H'->Q (.bl (vp 3 r0 && (vp 3 r1 && vp 6 r2))) H':=q
  walk_at "s"
  refine ⟨u0,r0,3,rfl,h0,by omega,fun H1 S1=>?_⟩
  walk_at "s"
  cases e0:vp 3 r0 with
  | false=>
   rw [e0,AaF] at q
   show if false=true then _ else _
   walk_at "s"
   exact q _ S1
  | true=>
   rw [e0,AaB] at q
   have ht1:=S1 _ _ ht
   show if true=true then _ else _
   walk_at "s"
   refine ⟨u1,r1,3,rfl,h1.same S1,by omega,fun H2 S2=>?_⟩
   walk_at "s"
   have U2:=S1.trans S2
   cases e1:vp 3 r1 with
   | false=>
    rw [e1,AaF] at q
    show if false=true then _ else _
    walk_at "s"
    exact q _ U2
   | true=>
    rw [e1,AaB] at q
    have ht2:=U2 _ _ ht
    show if true=true then _ else _
    walk_at "s"
    refine ⟨u2,r2,6,rfl,h2.same U2,by omega,fun H3 S3=>?_⟩
    walk_at "s"
    exact q _ (U2.trans S3)
structure NF (H:Hp) (n:Addr) (C L:List P3) (M:List (List Int)):Prop where
 nf:∃ (c l m:Addr) (cs ls ms:List V),H n=some (.tup [.ref c,.ref l,.ref m])/\H c=some (.lst cs)/\R3 H cs C/\H l=some (.lst ls)/\R3 H ls L/\H m=some (.lst ms)/\RT H ms M
 six:∀ t∈M,t.length=6
theorem NF.same {H H':Hp} {n:Addr} {C L:List P3} {M:List (List Int)} (h:NF H n C L M) (s:Same H H'):NF H' n C L M:=by
 obtain ⟨⟨c,l,m,cs,ls,ms,h1,h2,h3,h4,h5,h6,h7⟩,h8⟩:=h
 exact ⟨⟨c,l,m,cs,ls,ms,s _ _ h1,s _ _ h2,h3.same s,s _ _ h4,h5.same s,s _ _ h6,h7.same s⟩,h8⟩
theorem Ju {rs:List (Option (List (Option Int)))} (h:rs.all (oM 3)=true):∃ L:List P3,rs=L.map o3:=xX fun r hr=>Va (ZM.mp h r hr)
theorem PJ {H:Hp} {v:V} {x:Option (RR×RR×RR)} (h:NT K H v x) (e:nwB x=true):∃ n C L M,v= .ref n/\x=some (some (C.map o3),some (L.map o3),some (M.map oT))/\NF H n C L M:=by
 cases x with
 | none=>cases e
 | some y=>
  obtain ⟨r0,r1,r2⟩:=y
  replace e:(vp 3 r0 && (vp 3 r1 && vp 6 r2))=true:=e
  cases r0 with
  | none=>cases e
  | some rs0=>
  cases r1 with
  | none=>unfold vp at e;simp at e
  | some rs1=>
  cases r2 with
  | none=>unfold vp at e;simp at e
  | some rs2=>
  obtain ⟨t,u0,u1,u2,rfl,ht,h0,h1,h2⟩:=h
  replace e:(rs0.all (oM 3) && (rs1.all (oM 3) && rs2.all (oM 6)))=true:=e
  rw [Zm,Zm] at e
  obtain ⟨C,rfl⟩:=Ju e.1
  obtain ⟨L,rfl⟩:=Ju e.2.1
  obtain ⟨M,rfl,h6⟩:=Jt e.2.2
  obtain ⟨c,cs,rfl,hc,hC,_⟩:=h0.r3
  obtain ⟨l,ls,rfl,hl,hL,_⟩:=h1.r3
  obtain ⟨m,ms,rfl,hm,hM,_⟩:=h2.rt
  exact ⟨t,C,L,M,rfl,rfl,⟨c,l,m,cs,ls,ms,ht,hc,hC,hl,hL,hm,hM⟩,h6⟩
def Tt:RR->Nat
 | none=>0
 | some rs=>rs.length
def Tu:Option (RR×RR×RR)->Nat
 | none=>0
 | some (r0,r1,r2)=>Tt r0+Tt r1+Tt r2
theorem R3.putd {H:Hp} {vs:List V} {L:List P3} {g:Addr} {o:HO} (h:R3 H vs L) (hg:∀ xs,H g≠some (.tup xs)):R3 (upd H g o) vs L:=⟨h.1,fun i v p e1 e2=>by
 obtain ⟨a,rfl,ha⟩:=h.2 i v p e1 e2
 exact ⟨a,rfl,by rw [aC (fun z=>hg _ (by rw [← z];exact ha))];exact ha⟩⟩
theorem RT.putd {H:Hp} {vs:List V} {L:List (List Int)} {g:Addr} {o:HO} (h:RT H vs L) (hg:∀ xs,H g≠some (.tup xs)):RT (upd H g o) vs L:=⟨h.1,fun i v p e1 e2=>by
 obtain ⟨a,rfl,ha⟩:=h.2 i v p e1 e2
 exact ⟨a,rfl,by rw [aC (fun z=>hg _ (by rw [← z];exact ha))];exact ha⟩⟩
theorem Cr {H:Hp} {g:Addr} {xs:List (List Key×V)} (h:H g=some (.dT xs)):∀ ys,H g≠some (.tup ys):=fun ys z=>by rw [h] at z;cases z
def tZ (T:List P3):List ((Int×Int)×V):=fZ (T.map eP) []
theorem rK (T:List P3):(tZ T).length<=T.length:=by
 have:=uT (T.map eP) []
 rw [YQ,Z1] at this
 unfold tZ;omega
theorem Nk (T:List P3) (p:P3):lV (tZ T) p.2 (.int p.1)=tZ (T ++ [p]):=by
 unfold tZ
 rw [Zw]
 exact (tO (T.map eP) [] (eP p)).symm
theorem oJ {T S:List P3} {k:Nat} {p:P3} (h:S[k]?=some p):lV (tZ (T ++ S.take k)) p.2 (.int p.1)=tZ (T ++ S.take (k+1)):=by
 rw [Nk,Z0,h,ZF];rfl
def Tv (K:W.Frag):Sp:=fun vs H Q _=>∃ (a n:Addr) (us:List V) (A C L:List P3) (M:List (List Int)),vs=[.ref a,.ref n]/\H a=some (.lst us)/\R3 H us A/\A.length<=300/\NF H n C L M/\C.length<=300/\L.length<=300/\M.length<=300/\∀ q ys H' B W,H q=none->Same H H'->H' q=some (.lst ys)->R3 H' ys B->B.Perm W->B.Pairwise Nf->W.length<=900->(W.map (·.2)).Nodup->(∀ p,p∈W↔lstP (gm A L ++ C ++ M.map mP) p.2=some (.int p.1))->Q (.ref q) H'
theorem gK:aP ["ahead","news","costs","priced","moved"] ["ahead","news"] (aB bK):=⟨rfl,rfl,rfl,by trivial,rfl,by trivial,by trivial⟩
theorem lw (T:Txt K mg):mU P w K mg base 4 "told_behind" ["ahead","news"] (Tv K):=by
 have fO:=fO (P:=P) (w:=w) (base:=base) T
 have dg:=dg (P:=P) (w:=w) (base:=base) T
 refine gf T.d_told_behind gK (fun _ _ _ _ _ _ us hl=>L2.mV (fun _ _=>rfl) us hl) ?_ fun f cdv A outer s H vs Q E hr h=>?_
 ·rintro vs H Q E ⟨a,n,us,A',C,L,M,rfl,_⟩;rfl
 obtain ⟨a,n,us,A',C,L,M,rfl,ha,hA,lA,⟨⟨c,l,m,cs,ls,ms,h1,h2,h3,h4,h5,h6,h7⟩,h8⟩,lC,lL,lM,q⟩:=h
 have hu:=hr.units0
 have hu64:=hr.units
 refine ⟨_,(au (aR (i:=2) gK.nd rfl (Or.inl Ni) my rfl) (au (fu ZS rfl (fW (K:=K) rfl (aZ cj (aK fO (hr.mono (by decide)) (bC kz22) (aa (aj 0 kz23) (aa (aX (K:=K) rfl (aj 1 Tn) aq) ak)) (by trivial)) (aX (K:=K) rfl (aj 1 Tn) aq))) (aO (i:=3) gK.nd rfl (Or.inl Tp) rfl) (aA (cR (ts:=fU) (aX (K:=K) rfl (aj 3 Tp) aq) (dY (aj 2 Ni) (aK dg (hr.mono (by decide)) (bC kz25) (aa (aj 3 Tp) ak) (by trivial)) (cT hu64))))) (au (fu ZS rfl (fW (K:=K) rfl (aX (K:=K) rfl (aj 1 Tn) aq)) (aO (i:=4) gK.nd rfl (Or.inl Nj) rfl) (aA (cR (ts:=fU) (aX (K:=K) rfl (aj 4 Nj) aq) (dY (aj 2 Ni) (bR (aa (aX (K:=K) rfl (aj 4 Nj) aq) (aa (aX (K:=K) rfl (aj 4 Nj) aq) ak))) (cT hu64))))) (aA (aD (aL d7 (bC kz1y) T.b_sorted gR (aa (kj (sub:=[none,none]) (eN (N:=["ahead","news","costs","priced","moved"]) (sc:=aB bK) (N':=["span","cost"]) (by trivial)) rfl rfl rfl (R8 (aj 2 Ni)) (fun C s₀ H₀ ex=>(zV (K:=K) (n:=2) rfl rfl (aU (rm 0 (by trivial) lY) (aU (rm 1 (by trivial) lY) gF)))) (fun C s₀ H₀ ex=>jF) (fun C s₀ H₀ ex=>(bR (aa (dN 1 (by trivial)) (aa (aX (K:=K) rfl (dN 0 (by trivial)) aq) (aa (aX (K:=K) rfl (dN 0 (by trivial)) aq) ak)))))) ak) (by trivial) (by trivial))))))),?_⟩
 walk_at "s"
 have hs:20000<=sizeLine:=by decide
 intro d nd0
 have S1:=(Same.refl H).upd nd0 (o:=.dT [])
 have hd:=ao (H:=H) (a:=d) (o:=.dT [])
 generalize upd H d (.dT [])=H1 at S1 hd ⊢
 have h11:=S1 _ _ h1
 walk_at "s"
 refine ⟨a,l,us,ls,A',L,rfl,S1 _ _ ha,hA.same S1,by omega,S1 _ _ h4,h5.same S1,by omega,fun t ts H2 nt S2 ht hT=>?_⟩
 walk_at "s"
 have h12:=S2 _ _ h11
 walk_at "s"
 have U2:=S1.trans S2
 have l1:=mJ A' L
 have hcs:=h3.1
 have hts:=hT.1
 refine uz ht (U2 _ _ h2) (by omega) fun ad nad=>?_
 walk_at "s"
 have S3:=(Same.refl H2).upd nad (o:=.lst (ts ++ cs))
 have had:=ao (H:=H2) (a:=ad) (o:=.lst (ts ++ cs))
 generalize upd H2 ad (.lst (ts ++ cs))=H3 at S3 had ⊢
 have hK:R3 H3 (ts ++ cs) (gm A' L ++ C):=(hT.same S3).cat (h3.same (U2.trans S3))
 have hkl:=hK.1
 have kl:(gm A' L ++ C).length<=600:=by rw [YX];omega
 have hd3:=S3 _ _ (S2 _ _ hd)
 have U3:=U2.trans S3
 refine .inl ⟨ad,rfl,⟨_,SqL.of had⟩,?_⟩
 have nad1:ad≠d:=fun z=>by rw [z,S2 _ _ hd] at nad;cases nad
 refine gC (xs:=ts ++ cs) (fun k U G=>Same H G/\G ad=some (.lst (ts ++ cs))/\R3 G (ts ++ cs) (gm A' L ++ C)/\G d=some (.dT (dZ (tZ ([] ++ (gm A' L ++ C).take k))))/\∃ x3 x4,U=[some (.ref a),some (.ref n),some (.ref d),x3,x4]) ⟨U3,had,hK,by rw [Abf];exact hd3,_,_,rfl⟩ (fun i U G _ h=>SqL.of h.2.1) ?_ ?_
 ·rintro k v U G hv ⟨s,hadG,hKG,hdG,x3,x4,rfl⟩
  obtain ⟨p,hp,b,rfl,hb⟩:=hKG.at hv
  replace hb:G b=some (.tup [.int (p.1:Int),.int (p.2.1:Int),.int (p.2.2:Int)]):=hb
  have hk:=(YS.mp hp).1
  walk_at "s"
  refine ⟨b,p,rfl,hb,fun t' G2 nt' s2 ht'=>?_⟩
  walk_at "s"
  refine gG (s2 _ _ hdG) ht' (by have:=rK ([] ++ (gm A' L ++ C).take k);rw [Aau,Zb] at this;rw [fX,Aau];omega) ?_
  rw [mH,oJ hp]
  exact ⟨Same.put (s.trans s2) nd0,by rw [aC nad1];exact s2 _ _ hadG,(hKG.same s2).putd (Cr (s2 _ _ hdG)),ao,_,_,rfl⟩
 rintro U H4 ⟨S4,_,_,hd4,x3,x4,rfl⟩
 rw [hkl,ZC,Aau] at hd4
 have h14:=S4 _ _ h1
 have hM:=h7.same S4
 have hml:=hM.1
 walk_at "s"
 refine .inl ⟨m,rfl,⟨_,SqL.of (S4 _ _ h6)⟩,?_⟩
 refine gC (xs:=ms) (fun k U G=>Same H G/\RT G ms M/\G d=some (.dT (dZ (tZ (gm A' L ++ C ++ (M.map mP).take k))))/\∃ x3 x4,U=[some (.ref a),some (.ref n),some (.ref d),x3,x4]) ⟨S4,hM,by rw [Abf,Zt];exact hd4,_,_,rfl⟩ (fun i U G _ h=>SqL.of (h.1 _ _ h6)) ?_ ?_
 ·rintro k v U G hv ⟨s,hMG,hdG,x3,x4,rfl⟩
  obtain ⟨t',ht',b,rfl,hb⟩:=hMG.at hv
  have hlen:=h8 t' (Zr ht')
  have hk:=(YS.mp ht').1
  have ht2':(M.map mP)[k]?=some (mP t'):=by rw [Ze,ht'];rfl
  have hlt:=rK (gm A' L ++ C ++ (M.map mP).take k)
  rw [YX (as:=gm A' L ++ C),Zb,YQ] at hlt
  match t',hlen with
  | [t0,t1,t2,t3,t4,t5],_=>
   replace hb:G b=some (.tup [.int t0,.int t1,.int t2,.int t3,.int t4,.int t5]):=hb
   walk_at "s"
   refine aF rfl fun tt G2 nt2 s2 ht2=>?_
   walk_at "s"
   refine gG (k:=kp (t0,t1)) (s2 _ _ hdG) ht2 (by rw [fX];omega) ?_
   rw [mH,show V.int t3= .int (mP [t0,t1,t2,t3,t4,t5]).1 from rfl]
   exact ⟨Same.put (s.trans s2) nd0,(hMG.same s2).putd (Cr (s2 _ _ hdG)),by rw [← oJ ht2'];exact ao,_,_,rfl⟩
 rintro U H5 ⟨S5,_,hd5,x3',x4',rfl⟩
 rw [hml,ZV (by rw [YQ];omega)] at hd5
 obtain ⟨W,eW,wl,nW,mW⟩:=Am (gm A' L ++ C ++ M.map mP)
 rw [show tZ (gm A' L ++ C ++ M.map mP)=W.map eP from eW] at hd5
 rw [YX (as:=gm A' L ++ C),YQ] at wl
 walk_at "s"
 refine ⟨d,_,rfl,hd5,fun ob=>?_⟩
 have S6:=Same.put (o:=.frz ob (.dT (dZ (W.map eP)))) S5 nd0
 have hd6:=ao (H:=H5) (a:=d) (o:=.frz ob (.dT (dZ (W.map eP))))
 generalize upd H5 d (.frz ob (.dT (dZ (W.map eP))))=H6 at S6 hd6 ⊢
 refine Iu (fun i ys G=>Same H G/\G d=some (.frz ob (.dT (dZ (W.map eP))))/\R3 G ys (W.take i)) (by rw [fX,YQ];omega) ⟨S6,hd6,R3.nil⟩ ?_ ?_ ?_ ?_
 ·rintro i ys G ⟨_,_,h⟩
  rw [h.1,Zb];omega
 ·rintro i ys G ⟨_,h,_⟩
  exact h
 ·rintro i ys G T' k v b hk hb nT ⟨s,hdG,hY⟩
  obtain ⟨p,hp,rfl,rfl⟩:∃ p,W[i]?=some p/\k=kp p.2/\v= .int (p.1:Int):=by
   unfold dZ at hk
   rw [ZL,Ze] at hk
   cases e:W[i]? with
   | none=>rw [e] at hk;cases hk
   | some p=>rw [e] at hk;cases hk;exact ⟨p,rfl,rfl,rfl⟩
  replace hb:G b=some (.tup [.int (p.2.1:Int),.int (p.2.2:Int)]):=hb
  have s2:=(Same.refl G).upd nT (o:=.tup [.ref b,.int (p.1:Int)])
  have f2:=ao (H:=G) (a:=T') (o:=.tup [.ref b,.int (p.1:Int)])
  generalize upd G T' (.tup [.ref b,.int (p.1:Int)])=G2 at s2 f2 ⊢
  have hb2:=s2 _ _ hb
  refine gW (SqT.of f2) rfl ?_
  walk_at "s"
  refine ⟨KeepSt.trans (KeepSt.set rfl) (KeepSt.set rfl),?_⟩
  walk_at "s"
  refine aF rfl fun t2 G3 nt2 s3 ht2=>?_
  walk_at "s"
  have s23:=s2.trans s3
  refine ⟨s.trans s23,s23 _ _ hdG,?_⟩
  rw [Z0,hp]
  exact (hY.same s23).push ⟨t2,rfl,ht2⟩
 rintro ys G D H7 ⟨s7,_,hY⟩ nD s8 hD
 rw [fX,YQ,ZC] at hY
 try walk_at "s"
 refine oH hD (hY.same s8) (by omega) fun qq zs H8 B nq S8 hq hL pL pwL=>?_
 have U8:=s7.trans (s8.trans S8)
 try walk_at "s"
 exact q qq zs H8 B W (Same.back (s7.trans s8) nq) U8 hq hL pL pwL (by omega) nW mW
theorem Nm:bF cN "behind":=by trivial
theorem kz27:cB cN "news_of":=by trivial
theorem Tw:bF cN "ahead":=by trivial
theorem Jv:bF cN "news":=by trivial
theorem kz2a:cB cN "is_ranked":=by trivial
theorem Xg:cB cN "NoTold":=by trivial
theorem kz2c:cB cN "told_behind":=by trivial
theorem kz2d:cB cN "are_news":=by trivial
theorem kz2e:cB cN "need_ranked":=by trivial
theorem qP:∀ ts us:List (List Int),PyData.eqv (Fq ts) (Fq us)=decide (ts=us):=by
 intro ts us
 unfold Fq
 rw [PyData.eqv]
 induction ts generalizing us with
 | nil=>cases us <;> simp [PyData.eqvAll]
 | cons t ts ih=>
  cases us with
  | nil=>simp [PyData.eqvAll]
  | cons u us=>
   rw [ZJ,ZJ,PyData.eqvAll,ih us,wL]
   by_cases h1:t=u
   ·by_cases h2:ts=us
    ·simp [h1,h2]
    ·simp [h1,h2]
   ·simp [h1]
def nwX (C L:List P3) (M:List (List Int)):PyData:=.tuple [Fq (C.map i3),Fq (L.map i3),Fq M]
theorem NF.dr {H:Hp} {n:Addr} {C L:List P3} {M:List (List Int)} (h:NF H n C L M):DR H (nwX C L M) (.ref n):=by
 obtain ⟨⟨c,l,m,cs,ls,ms,h1,h2,h3,h4,h5,h6,h7⟩,_⟩:=h
 exact qx.mpr ⟨n,_,rfl,h1,m8.mpr ⟨_,_,rfl,h3.rt.dr h2,m8.mpr ⟨_,_,rfl,h5.rt.dr h4,m8.mpr ⟨_,_,rfl,h7.dr h6,qy.mpr rfl⟩⟩⟩⟩
theorem yd (C L:List P3) (M:List (List Int)):PySem.SeqAt.shaped (nwX C L M)=true:=by
 refine mq (n:=3) (nU (n:=2) fun d hd=>?_) (by omega)
 simp only [Zg,Aay,or_false] at hd
 rcases hd with rfl | rfl | rfl <;> exact Jk _
theorem Cu (C C' L L':List P3) (M M':List (List Int)):PyData.eqv (nwX C L M) (nwX C' L' M')=decide (C=C'/\L=L'/\M=M'):=by
 unfold nwX
 rw [PyData.eqv,PyData.eqvAll,PyData.eqvAll,PyData.eqvAll,PyData.eqvAll,qP,qP,qP]
 have h1:C.map i3=C'.map i3↔C=C':=⟨fun h=>gb xZ h,fun h=>by rw [h]⟩
 have h2:L.map i3=L'.map i3↔L=L':=⟨fun h=>gb xZ h,fun h=>by rw [h]⟩
 simp only [h1,h2,Bool.and_true,Bool.decide_and]
def IsN (x:Option (RR×RR×RR)) (A B:List P3):Prop:=x=some (some ((gm B A).map o3),some ((gm A B).map o3),some ((mv A B).map oT))
theorem Aq (A B:List P3):∀ t∈mv A B,t.length=6:=fun t ht=>by
 obtain ⟨_,_,_,_,_,_,_,rfl⟩:=Jo ht
 rfl
theorem qQ (L:List P3):∀ t∈L.map i3,t.length=3:=fun t ht=>by
 obtain ⟨p,_,rfl⟩:=Zd.mp ht
 rfl
theorem YJ (L:List P3):L.map o3=(L.map i3).map oT:=by rw [ZL];rfl
theorem IsN.nwB {x:Option (RR×RR×RR)} {A B:List P3} (h:IsN x A B):nwB x=true:=by
 subst h
 show (((gm B A).map o3).all (oM 3) && (((gm A B).map o3).all (oM 3) && ((mv A B).map oT).all (oM 6)))=true
 rw [YJ,YJ,u5 (qQ _),u5 (qQ _),u5 (Aq A B)]
 rfl
theorem mK {C L A B:List P3} {M:List (List Int)}:IsN (some (some (C.map o3),some (L.map o3),some (M.map oT))) A B↔(gm B A=C/\gm A B=L/\mv A B=M):=by
 unfold IsN
 constructor
 ·intro h
  simp only [Option.some.injEq,Prod.mk.injEq] at h
  exact ⟨(gb pW h.1).symm,(gb pW h.2.1).symm,(gb Tq h.2.2).symm⟩
 ·rintro ⟨rfl,rfl,rfl⟩
  rfl
theorem Nw.nf {H:Hp} {n:Addr} {A B:List P3} (h:Nw H n A B):NF H n (gm B A) (gm A B) (mv A B):=⟨h,Aq A B⟩
theorem Jw {A B B' W C L:List P3} {M:List (List Int)} (gA:Good A) (gB:Good B) (h:IsN (some (some (C.map o3),some (L.map o3),some (M.map oT))) A B) (pe:B'.Perm W) (pw:B'.Pairwise Nf) (nW:(W.map (·.2)).Nodup) (mW:∀ p,p∈W↔lstP (gm A L ++ C ++ M.map mP) p.2=some (.int p.1)):B'=B:=by
 obtain ⟨rfl,rfl,rfl⟩:=mK.mp h
 exact Jl pw gB.pw (pe.trans (tW nW gB.nd fun p=>(mW p).trans (Ao gA.nd gB.nd p)))
def Tz (K:W.Frag) (mg:Str->Option Value):Sp:=fun vs H Q E=>∃ (v1 v2:V) (r1:RR),vs=[v1,v2]/\SL K H v1 r1/\(¬ GoodR r1->Exc mg "NoNear" H v1 E)/\(∀ A:List P3,r1=some (A.map o3)->Good A->A.length<=300/\∃ x,NT K H v2 x/\Tu x<=300/\((¬ ∃ B,Good B/\IsN x A B)->Exc mg "NoTold" H v2 E)/\
 (∀ B,Good B->IsN x A B->∀ q ys H',H q=none->Same H H'->H' q=some (.lst ys)->R3 H' ys B->Q (.ref q) H'))
theorem sE:aP ["ahead","news","behind"] ["ahead","news"] (aB cN):=⟨rfl,rfl,rfl,by trivial,rfl,by trivial,by trivial⟩
theorem ie (T:Txt K mg):Dy P w K mg base 8 "followed" ["ahead","news"] (Tz K mg):=by
 have dF:=dF (P:=P) (w:=w) (base:=base) T
 have pY:=pY (P:=P) (w:=w) (base:=base) T
 have lw:=lw (P:=P) (w:=w) (base:=base) T
 have dm:=dm (P:=P) (w:=w) (base:=base) T
 have ji:=ji (P:=P) (w:=w) (base:=base) T
 refine HR T.d_followed sE (fun _ _ _ _ _ _ us hl=>L2.mV (fun _ _=>rfl) us hl) ?_ fun f cdv A outer s H vs Q E hr h=>?_
 ·rintro vs H Q E ⟨v1,v2,r1,rfl,_⟩;rfl
 obtain ⟨v1,v2,r1,rfl,hv1,q1,q2⟩:=h
 have hu:=hr.units0
 have hu64:=hr.units
 refine ⟨_,(au (f9 (mj dF (hr.mono (by decide)) (bC kz2e) jt (aa (aj 0 Tw) ak) (by trivial))) (au (bf (dD (dJ (aK pY (hr.mono (by decide)) (bC kz2d) (aa (aj 1 Jv) ak) (by trivial)))) (aA (uF (wI (P:=P) (w:=w) (base:=base) T) (hr.mono (by decide)) rfl (bC Xg) jt (aa (aj 1 Jv) ak) (by trivial))) aQ) (au (aR (i:=2) sE.nd rfl (Or.inl Nm) (aK lw (hr.mono (by decide)) (bC kz2c) (aa (aj 0 Tw) (aa (aj 1 Jv) ak)) (by trivial)) rfl) (au (bf (jm (lN (dD (dJ (aK dm (hr.mono (by decide)) (bC kz2a) (aa (aj 2 Nm) ak) (by trivial)))) (iT (aM (m9 (K:=K) rfl hu64) (mj ji (hr.mono (by decide)) (bC kz27) jt (aa (aj 0 Tw) (aa (aj 2 Nm) ak)) (by trivial)) (aj 1 Jv) (by walk_at "p"))))) (aA (uF (wI (P:=P) (w:=w) (base:=base) T) (hr.mono (by decide)) rfl (bC Xg) jt (aa (aj 1 Jv) ak) (by trivial))) aQ) (aA (aD (aj 2 Nm))))))),?_⟩
 walk_at "s"
 refine ⟨v1,r1,rfl,hv1,fun g1 H1 S1=>?_,q1⟩
 walk_at "s"
 have g1':=g1
 obtain ⟨A',rfl,gA⟩:=g1
 obtain ⟨lA,x,hv2,hsz,q3,q4⟩:=q2 A' rfl gA
 obtain ⟨a,us,rfl,ha,hA,_⟩:=hv1.r3
 refine ⟨v2,x,rfl,hv2.same S1,fun H2 S2=>?_⟩
 walk_at "s"
 have U2:=S1.trans S2
 cases hx:nwB x with
 | false=>
  walk_at "s"
  refine ⟨rfl,(show 1<=sizeLine by decide),fun e H3 S3 X3=>q3 (fun ⟨B,_,h⟩=>?_) e H3 (U2.trans S3) X3⟩
  rw [h.nwB] at hx;cases hx
 | true=>
  obtain ⟨n,C,L,M,rfl,rfl,hN⟩:=PJ (hv2.same U2) hx
  show if false=true then _ else _
  walk_at "s"
  replace hsz:(C.map o3).length+(L.map o3).length+(M.map oT).length<=300:=hsz
  rw [YQ,YQ,YQ] at hsz
  refine ⟨a,n,us,A',C,L,M,rfl,U2 _ _ ha,hA.same U2,lA,hN,by omega,by omega,by omega,fun t ts H3 B W nt S3 ht hT pe pw lW nW mW=>?_⟩
  walk_at "s"
  have U3:=U2.trans S3
  have lB:B.length<=1000:=by rw [pe.length_eq];omega
  refine ⟨.ref t,_,rfl,R3.sl ht hT lB,fun g H4 S4=>?_,fun g H4 S4=>?_⟩
  walk_at "s"
  rotate_left
  ·walk_at "s"
   refine ⟨rfl,(show 1<=sizeLine by decide),fun e H5 S5 X5=>q3 (fun ⟨B2,gB2,h⟩=>?_) e H5 (U3.trans (S4.trans S5)) X5⟩
   rw [Jw gA gB2 h pe pw nW mW] at g
   exact g (jh.mpr gB2)
  ·have gB:=jh.mp g
   have U4:=U3.trans S4
   walk_at "s"
   refine ⟨.ref a,.ref t,_,rfl,R3.sl (U4 _ _ ha) (hA.same U4) gA.le,fun h=>absurd g1' h,fun _=>⟨_,R3.sl (S4 _ _ ht) (hT.same S4) lB,fun h=>absurd g h,fun A2 B2 e1 gA2 e2 gB2 n2 H5 nn S5 hN2=>?_⟩⟩
   walk_at "s"
   cases gb pW (Zn e1)
   cases gb pW (Zn e2)
   have U5:=U4.trans S5
   refine Hr hN2.nf.dr (hN.same (S3.trans (S4.trans S5))).dr (yd _ _ _) (yd _ _ _) ?_
   rw [Cu]
   by_cases hq:gm B A'=C/\gm A' B=L/\mv A' B=M
   ·rw [YZ hq]
    walk_at "s"
    exact q4 B gB (mK.mpr hq) t ts H5 (Same.back U2 nt) U5 (S5 _ _ (S4 _ _ ht)) (hT.same (S4.trans S5))
   ·rw [Y5 hq]
    walk_at "s"
    refine ⟨rfl,(show 1<=sizeLine by decide),fun e H6 S6 X6=>q3 (fun ⟨B2,gB2,h⟩=>?_) e H6 (U5.trans S6) X6⟩
    have:=Jw gA gB2 h pe pw nW mW
    subst this
    exact hq (mK.mp h)
theorem sX:(["_law_one"]:List Str).Nodup:=by trivial
theorem Xh:bF gZ "_law_k":=by trivial
theorem kz2g:cB gZ "len":=by trivial
theorem Xi:bF gZ "_law_script":=by trivial
theorem Np:bF cL "_law_found":=by trivial
theorem kz2j:cB cL "range":=by trivial
theorem kz2k:cB cL "len":=by trivial
theorem Nq:bF cL "_law_menus":=by trivial
theorem Ez:bF cL "_law_k":=by trivial
theorem Jx:bF cL "_law_left":=by trivial
theorem TF:bF cL "_law_cell_here":=by trivial
theorem zb:bF cL "_law_number":=by trivial
theorem Xj:bF bT "_law_found":=by trivial
theorem Nr:bF bT "_law_row":=by trivial
theorem kz2s:cB bT "all":=by trivial
theorem kz2t:cB bT "len":=by trivial
theorem kz2u:bF bT "_law_size":=by trivial
theorem Xk:cB bT "isinstance":=by trivial
theorem kz2w:cB bT "tuple":=by trivial
theorem kz2x:cB bT "list":=by trivial
theorem TJ:cB cG "_law_tuples":=by trivial
theorem Jy:bF cG "_law_found":=by trivial
theorem kz30:cB cG "len":=by trivial
theorem kz31:cB cG "isinstance":=by trivial
theorem kz32:cB cG "tuple":=by trivial
def TQ (K:W.Frag):Sp:=fun vs H Q _=>∃ (a:Addr) (ns:List Int) (k:Nat),vs=[.ref a,.int k]/\SqL K H a (ns.map V.int)/\∀ n,Q (.int n) H
theorem zf:aP ["_law_script","_law_k"] ["_law_script","_law_k"] (aB gZ):=⟨rfl,rfl,rfl,by trivial,rfl,by trivial,by trivial⟩
theorem mL (T:Txt K mg):mU P w K mg base 1 "_law_cell" ["_law_script","_law_k"] (TQ K):=by
 refine gf T.d_law_cell zf (fun _ _ _ _ _ _ us hl=>L2.mV (fun _ _=>rfl) us hl) ?_ fun f cdv A outer s H vs Q E hr h=>?_
 ·rintro vs H Q E ⟨a,ns,k,rfl,_⟩;rfl
 obtain ⟨a,ns,k,rfl,hS,q⟩:=h
 have hu:=hr.units0
 have hu64:=hr.units
 refine ⟨_,(au (bf (aM (mF (K:=K) rfl hu64) (aj 1 Xh) (aL (cH (K:=K) rfl) (bC kz2g) T.b_len fV (aa (aj 0 Xi) ak) (by trivial) (by trivial)) (by walk_at "p")) (aA (aD (aX (K:=K) rfl (aj 0 Xi) (aj 1 Xh)))) aQ) (aA (aD aq))),?_⟩
 walk_at "s"
 refine kh hS ?_
 walk_at "s"
 rw [YQ]
 refine fQ (fun h=>?_) (fun h=>?_)
 ·have hk:k < ns.length:=by omega
  walk_at "s"
  refine bW hS (bw (show (ns.map V.int)[k]?=some (.int ns[k]) by rw [Ze,YL hk];rfl)) ?_
  walk_at "s"
  exact q _
 ·walk_at "s"
  exact q _
def Fits (ms bs:List Int):Prop:=ms.length=bs.length/\∀ (i:Nat) (m b:Int),ms[i]?=some m->bs[i]?=some b->0<=m/\m < b
theorem Fits.push {ms bs:List Int} {k:Nat} {m b:Int} (h:Fits ms (bs.take k)) (hb:bs[k]?=some b) (h0:0<=m) (h1:m < b):Fits (ms ++ [m]) (bs.take (k+1)):=by
 have hk:k < bs.length:=(YS.mp hb).1
 have hl:ms.length=k:=by rw [h.1,Zb];omega
 refine ⟨by simp;omega,fun i m' b' e1 e2=>?_⟩
 by_cases hi:i < k
 ·rw [Zv (by omega)] at e1
  rw [ZD (by omega)] at e2
  exact h.2 i m' b' e1 (by rw [ZD hi];exact e2)
 ·have hi2:i < k+1:=by have:=(YS.mp e1).1;simp at this;omega
  obtain rfl:i=k:=by omega
  rw [Zf (by omega),hl,Nat.sub_self] at e1
  rw [ZD (by omega),hb] at e2
  cases e1;cases e2
  exact ⟨h0,h1⟩
def Nt (K:W.Frag):Sp:=fun vs H Q _=>∃ (n:Int) (b:Addr) (bs:List Int),vs=[.int n,.ref b]/\H b=some (.lst (bs.map V.int))/\bs.length<=1000/\(∀ x∈bs,0 < x/\x < 1073741824)/\
 ∀ (q:Addr) (ms:List Int) (H':Hp),H q=none->Same H H'->H' q=some (.lst (ms.map V.int))->Fits ms bs->Q (.ref q) H'
theorem du:aP ["_law_cell_here","_law_menus","_law_found","_law_left","_law_number","_law_k"] ["_law_cell_here","_law_menus"] (aB cL):=⟨rfl,rfl,rfl,by trivial,rfl,by trivial,by trivial⟩
theorem cW (T:Txt K mg):mU P w K mg base 1 "_law_drawn" ["_law_cell_here","_law_menus"] (Nt K):=by
 refine gf T.d_law_drawn du (fun _ _ _ _ _ _ us hl=>L2.mV (fun _ _=>rfl) us hl) ?_ fun f cdv A outer s H vs Q E hr h=>?_
 ·rintro vs H Q E ⟨n,b,bs,rfl,_⟩;rfl
 obtain ⟨n,b,bs,rfl,hb,hlen,hbs,q⟩:=h
 have hu:=hr.units0
 have hu64:=hr.units
 refine ⟨_,(au (aR (i:=2) du.nd rfl (Or.inl Np) (cX ak) rfl) (au (aR (i:=3) du.nd rfl (Or.inl Jx) (aj 0 TF) rfl) (au (aR (i:=4) du.nd rfl (Or.inl zb) (aZ cj (aZ dW (aj 0 TF) aq) aq) rfl) (au (fu ZS rfl (gU (bC kz2j) T.b_range (aa (aL (cH (K:=K) rfl) (bC kz2k) T.b_len fV (aa (aj 1 Nq) ak) (by trivial) (by trivial)) ak)) (aO (i:=5) du.nd rfl (Or.inl Ez) rfl) (au (aR (i:=4) du.nd rfl (Or.inl zb) (aZ dW (aZ cj (aZ cj (aZ dX (aj 4 zb) (aj 4 zb)) (aZ dX aq (aj 4 zb))) (aj 5 Ez)) aq) rfl) (au (aR (i:=4) du.nd rfl (Or.inl zb) (aZ dW (aZ cj (aZ cj (aZ dX (aj 4 zb) aq) (aZ dX aq (aj 5 Ez))) aq) aq) rfl) (aA (bf (jm (zU (aM Ou (aj 0 TF) (aZ Gd aq aq) (by walk_at "p")) (xr (aM ue (aj 3 Jx) aq (by walk_at "p"))))) (au (f9 (pP (K:=K) rfl Aaf AaC AaD lG (aj 2 Np) (aa (aZ dW (aj 3 Jx) (aX (K:=K) rfl (aj 1 Nq) (aj 5 Ez))) ak))) (aA (aR (i:=3) du.nd rfl (Or.inl Jx) (aZ uG (aj 3 Jx) (aX (K:=K) rfl (aj 1 Nq) (aj 5 Ez))) rfl))) (aA (f9 (pP (K:=K) rfl Aaf AaC AaD lG (aj 2 Np) (aa (aZ dW (aZ uG (aj 4 zb) aq) (aX (K:=K) rfl (aj 1 Nq) (aj 5 Ez))) ak))))))))) (aA (aD (aj 2 Np))))))),?_⟩
 walk_at "s"
 have hs:20000<=sizeLine:=by decide
 refine aF rfl fun f H1 nf S1 hf=>?_
 walk_at "s"
 have hm0:=AaO n (show (2147483629:Int)≠0 by omega)
 have hm1:=Aaq n (show (0:Int) < 2147483629 by omega)
 refine kh (SqL.of (S1 _ _ hb)) ?_
 walk_at "s"
 rw [YQ]
 refine ⟨_,rfl,by omega,by omega,?_⟩
 rw [show ((bs.length:Int)).toNat=bs.length by omega]
 refine jg (n:=bs.length) (fun k U G=>∃ (l N:Int) (ms:List Int) (x5:Option V),U=[some (.int n),some (.ref b),some (.ref f),some (.int l),some (.int N),x5]/\0<=N/\N < 2147600000/\Same H G/\G f=some (.lst (ms.map V.int))/\Fits ms (bs.take k)) ⟨n,_,[],_,rfl,by omega,by omega,S1,hf,rfl,fun i m b e=>by simp at e⟩ ?_ ?_
 ·rintro k U G hk ⟨l,N,ms,x5,rfl,hN0,hN1,s,hfG,hF⟩
  rw [AbD]
  have hbb:=YL hk
  obtain ⟨p0,p1⟩:=hbs bs[k] (Aaa hk)
  have hbV:(bs.map V.int)[k]?=some (.int bs[k]):=by rw [Ze,hbb];rfl
  have hml:ms.length<=1000:=by rw [hF.1,Zb];omega
  walk_at "s"
  obtain ⟨M,eM⟩:∃ M,(N*N+48271*N+(k:Int)) % 2147483647=M:=⟨_,rfl⟩
  have hM0:0<=M:=by rw [← eM];exact AaO _ (by omega)
  have hM1:M < 2147483647:=by rw [← eM];exact Aaq _ (by omega)
  rw [eM]
  clear eM
  walk_at "s"
  obtain ⟨M2,eM2⟩:∃ M2,(M*69621+11*(k:Int)+5) % 2147483629=M2:=⟨_,rfl⟩
  have hM20:0<=M2:=by rw [← eM2];exact AaO _ (by omega)
  have hM21:M2 < 2147483629:=by rw [← eM2];exact Aaq _ (by omega)
  rw [eM2]
  clear eM2
  have B1:∀ (m:Int) (x5:Option V) (l':Int),0<=m->m < bs[k]->∃ (l N:Int) (ms':List Int) (x5':Option V),[some (.int n),some (.ref b),some (.ref f),some (.int l'),some (.int M2),x5]=[some (.int n),some (.ref b),some (.ref f),some (.int l),some (.int N),x5']/\0<=N/\N < 2147600000/\Same H (upd G f (.lst (ms.map V.int ++ [V.int m])))/\upd G f (.lst (ms.map V.int ++ [V.int m])) f=some (.lst (ms'.map V.int))/\Fits ms' (bs.take (k+1)):=fun m x5 l' h0 h1=>
   ⟨l',M2,ms ++ [m],x5,rfl,hM20,by omega,Same.put s nf,by rw [Zw];exact ao,hF.push hbb h0 h1⟩
  refine fQ (fun h=>?_) (fun h=>?_)
  ·clear h
   walk_at "s"
   refine fQ (fun h=>?_) (fun h=>?_)
   ·walk_at "s"
    refine ⟨.inl ⟨rfl,_,SqL.of hfG⟩,?_⟩
    walk_at "s"
    refine bW (SqL.of (s _ _ hb)) (bw hbV) ?_
    walk_at "s"
    refine lO hfG (by rw [YQ];omega) ?_
    walk_at "s"
    refine bW (SqL.of ((Same.put s nf) _ _ hb)) (bw hbV) ?_
    walk_at "s"
    exact B1 _ _ _ (AaO _ (by omega)) (Aaq _ p0)
   ·walk_at "s"
    refine ⟨.inl ⟨rfl,_,SqL.of hfG⟩,?_⟩
    walk_at "s"
    refine bW (SqL.of (s _ _ hb)) (bw hbV) ?_
    walk_at "s"
    refine lO hfG (by rw [YQ];omega) ?_
    walk_at "s"
    exact B1 _ _ _ (AaO _ (by omega)) (Aaq _ p0)
  ·clear h
   walk_at "s"
   refine ⟨.inl ⟨rfl,_,SqL.of hfG⟩,?_⟩
   walk_at "s"
   refine bW (SqL.of (s _ _ hb)) (bw hbV) ?_
   walk_at "s"
   refine lO hfG (by rw [YQ];omega) ?_
   walk_at "s"
   exact B1 _ _ _ (AaO _ (by omega)) (Aaq _ p0)
 ·rintro U G ⟨l,N,ms,x5,rfl,_,_,s,hfG,hF⟩
  walk_at "s"
  rw [ZC] at hF
  exact q f ms G nf s hfG hF
def Jz (K:W.Frag):Sp:=fun vs H Q _=>∃ (v:V) (r:RR) (k:Nat),vs=[v,.int (k:Int)]/\SL K H v r/\k<=10/\∀ H',Same H H'->Q (.bl (vp k r)) H'
theorem pI:aP ["_law_found","_law_size","_law_row"] ["_law_found","_law_size"] (aB bT):=⟨rfl,rfl,rfl,by trivial,rfl,by trivial,by trivial⟩
theorem cC (T:Txt K mg):mU P w K mg base 1 "_law_tuples" ["_law_found","_law_size"] (Jz K):=by
 refine gf T.d_law_tuples pI (fun _ _ _ _ _ _ us hl=>L2.mV (fun _ _=>rfl) us hl) ?_ fun f cdv A outer s H vs Q E hr h=>?_
 ·rintro vs H Q E ⟨v,r,k,rfl,_⟩;rfl
 obtain ⟨v,r,k,rfl,hv,hk2,q⟩:=h
 have hu:=hr.units0
 have hu64:=hr.units
 refine ⟨_,(au (bf (dD (dJ (aL (cZ (K:=K) rfl) (bC Xk) T.b_isinstance aW (aa (aj 0 Xj) (aa (qu (bC kz2x) T.b_list jd (by trivial) (by trivial)) ak)) (by trivial) (by trivial)))) (aA (aD iR)) aQ) (au (fu ZS rfl (fW (K:=K) rfl (aj 0 Xj)) (aO (i:=2) pI.nd rfl (Or.inl Nr) rfl) (au (bf (jm (lN (dD (dJ (aL (cZ (K:=K) rfl) (bC Xk) T.b_isinstance aW (aa (aj 2 Nr) (aa (qu (bC kz2w) T.b_tuple lH (by trivial) (by trivial)) ak)) (by trivial) (by trivial)))) (iT (aM (m9 (K:=K) rfl hu64) (aL (cH (K:=K) rfl) (bC kz2t) T.b_len fV (aa (aj 2 Nr) ak) (by trivial) (by trivial)) (aj 1 kz2u) (by walk_at "p"))))) (aA (aD iR)) aQ) (aA (bf (dD (dJ (aL (m6 rfl) (bC kz2s) T.b_all uy (aa (kj (sub:=[none]) (eN (N:=["_law_found","_law_size","_law_row"]) (sc:=aB bT) (N':=["_law_one"]) (by trivial)) rfl rfl rfl (fW (K:=K) rfl (aj 2 Nr)) (fun C s₀ H₀ ex=>(rm 0 (by trivial) sX)) (fun C s₀ H₀ ex=>jF) (fun C s₀ H₀ ex=>(iK (aL (cZ (K:=K) rfl) (OD (by trivial)) T.b_isinstance aW (aa (dN 0 (by trivial)) (aa (qu (OD (by trivial)) T.b_int Hj (by trivial) (by trivial)) ak)) (by trivial) (by trivial)) (jE (Hn (aL (cZ (K:=K) rfl) (OD (by trivial)) T.b_isinstance aW (aa (dN 0 (by trivial)) (aa (qu (OD (by trivial)) T.b_bool xq (by trivial) (by trivial)) ak)) (by trivial) (by trivial))))))) ak) (by trivial) (by trivial)))) (aA (aD iR)) aQ)))) (aA (aD iR)))),?_⟩
 walk_at "s"
 have hs:20000<=sizeLine:=by decide
 cases r with
 | none=>
  obtain ⟨ty,hty,hk⟩:=hv
  refine dH hty hk ?_
  walk_at "s"
  exact q _ (Same.refl H)
 | some rs=>
  obtain ⟨p,us,rfl,hp,hl,hl2,hW⟩:=hv
  refine dH (.lst hp) rfl ?_
  walk_at "s"
  refine .inl ⟨p,rfl,⟨_,SqL.of hp⟩,?_⟩
  replace q:∀ H',Same H H'->Q (.bl (rs.all (oM k))) H':=q
  have bad:∀ {i:Nat} {r:Option (List (Option Int))},rs[i]?=some r->oM k r=false->rs.all (oM k)=false:=fun {i r} e h=>by
   cases ha:rs.all (oM k) with
   | false=>rfl
   | true=>
    rw [ZM.mp ha r (Zr e)] at h
    cases h
  refine gC (xs:=us) (fun i U G=>Same H G/\(rs.take i).all (oM k)=true/\∃ x2,U=[some (.ref p),some (.int (k:Int)),x2]) ⟨Same.refl H,rfl,_,rfl⟩ (fun i U G _ h=>SqL.of (h.1 _ _ hp)) ?_ ?_
  ·rintro i v U G hv ⟨s,hall,x2,rfl⟩
   have hi:i < rs.length:=by rw [← hl];exact (YS.mp hv).1
   obtain ⟨r,er⟩:∃ r,rs[i]?=some r:=⟨_,YL hi⟩
   have hw:=(hW i v r hv er).same s
   have hall2:oM k r=true->(rs.take (i+1)).all (oM k)=true:=fun h=>by
    rw [Z0,er,List.all_append,hall,AaB]
    show (oM k r && true)=true
    rw [h];rfl
   cases r with
   | none=>
    rw [bad er rfl] at q
    obtain ⟨ty,hty,hk⟩:=hw
    walk_at "s"
    refine dH hty hk ?_
    walk_at "s"
    exact q _ s
   | some os=>
    obtain ⟨t,ws,rfl,ht,hlw,hA⟩:=hw
    walk_at "s"
    refine dH (.tup ht) rfl ?_
    walk_at "s"
    refine pO (SqT.of ht) ?_
    walk_at "s"
    rw [nG]
    by_cases h3:ws.length=k
    rotate_left
    ·rw [Y5 (show ¬ (ws.length:Int)=(k:Int) by omega)]
     show if true=true then _ else _
     walk_at "s"
     rw [bad er (by show (decide (os.length=k) && _)=false;rw [Y5 (by omega),AaF])] at q
     exact q _ s
    rw [YZ (show (ws.length:Int)=(k:Int) by omega)]
    show if false=true then _ else _
    walk_at "s"
    have e0:oM k (some os)=os.all (·.isSome):=by show (decide (os.length=k) && _)=_;rw [YZ (by omega),AaB]
    rw [e0] at hall2
    refine .inr (.inl ⟨t,rfl,⟨_,SqT.of ht⟩,?_⟩)
    refine wD (xs:=ws) (fun i ys G'=>G'=G/\ys=((os.take i).map (·.isSome)).map V.bl) (by omega) ⟨rfl,rfl⟩ ?_ ?_ ?_ ?_
    ·rintro i ys G' ⟨_,rfl⟩
     rw [YQ,YQ,Zb];omega
    ·rintro i ys G' ⟨rfl,_⟩
     exact SqT.of ht
    ·rintro i ys G' x hx ⟨rfl,rfl⟩
     have hi:i < os.length:=by rw [← hlw];exact (YS.mp hx).1
     obtain ⟨o,eo⟩:∃ o,os[i]?=some o:=⟨_,YL hi⟩
     have hx1:=hA i x o hx eo
     have hnext:((os.take i).map (·.isSome)).map V.bl ++ [V.bl o.isSome]=((os.take (i+1)).map (·.isSome)).map V.bl:=by
      rw [Z0,eo,Zw,Zw]
      rfl
     walk_at "s"
     refine ⟨KeepSt.set rfl,?_⟩
     walk_at "s"
     cases o with
     | some n=>
      obtain rfl:x= .int n:=hx1
      refine dH (.int _) rfl ?_
      walk_at "s"
      refine dH (.int _) rfl ?_
      walk_at "s"
      exact ⟨rfl,hnext⟩
     | none=>
      rcases hx1 with ⟨b,rfl⟩ | ⟨ty,hty,hk⟩
      ·refine dH (.bl _) (show PySem.W.kitOne K (.type "bool") (.type "int")=some true from rfl) ?_
       walk_at "s"
       refine dH (.bl _) (show PySem.W.kitOne K (.type "bool") (.type "bool")=some true from rfl) ?_
       walk_at "s"
       exact ⟨rfl,hnext⟩
      ·refine dH hty hk ?_
       walk_at "s"
       exact ⟨rfl,hnext⟩
    ·rintro ys G' D G2 ⟨rfl,rfl⟩ nD s2 hD
     rw [hlw,ZC] at hD
     try walk_at "s"
     refine ⟨D,_,rfl,hD,?_⟩
     walk_at "s"
     rw [AaP,show (id ∘ fun x:Option Int=>x.isSome)=(fun x:Option Int=>x.isSome) from rfl]
     cases hb:os.all (·.isSome) with
     | false=>
      walk_at "s"
      rw [bad er (e0.trans hb)] at q
      exact q _ (s.trans s2)
     | true=>
      walk_at "s"
      exact ⟨s.trans s2,hall2 hb,_,rfl⟩
  ·rintro U G ⟨s,hall,x2,rfl⟩
   walk_at "s"
   rw [hl,ZC] at hall
   rw [hall] at q
   exact q _ s
def TV (K:W.Frag):Sp:=fun vs H Q _=>∃ (v:V) (x:Option (RR×RR×RR)),vs=[v]/\NT K H v x/\∀ H',Same H H'->Q (.bl (nwB x)) H'
theorem rM:aP ["_law_found"] ["_law_found"] (aB cG):=⟨rfl,rfl,rfl,by trivial,rfl,by trivial,by trivial⟩
theorem iW (T:Txt K mg):mU P w K mg base 2 "_law_news_kind" ["_law_found"] (TV K):=by
 have cC:=cC (P:=P) (w:=w) (base:=base) T
 refine gf T.d_law_news_kind rM (fun _ _ _ _ _ _ us hl=>L2.sH (fun _=>rfl) us hl) ?_ fun f cdv A outer s H vs Q E hr h=>?_
 ·rintro vs H Q E ⟨v,x,rfl,_⟩;rfl
 obtain ⟨v,x,rfl,hv,q⟩:=h
 have hu:=hr.units0
 have hu64:=hr.units
 refine ⟨_,(au (bf (jm (lN (dD (dJ (aL (cZ (K:=K) rfl) (bC kz31) T.b_isinstance aW (aa (aj 0 Jy) (aa (qu (bC kz32) T.b_tuple lH (by trivial) (by trivial)) ak)) (by trivial) (by trivial)))) (iT (aM (m9 (K:=K) rfl hu64) (aL (cH (K:=K) rfl) (bC kz30) T.b_len fV (aa (aj 0 Jy) ak) (by trivial) (by trivial)) aq (by walk_at "p"))))) (aA (aD iR)) aQ) (aA (aD (iK (aK cC (hr.mono (by decide)) (bC TJ) (aa (aX (K:=K) rfl (aj 0 Jy) aq) (aa aq ak)) (by trivial)) (iK (aK cC (hr.mono (by decide)) (bC TJ) (aa (aX (K:=K) rfl (aj 0 Jy) aq) (aa aq ak)) (by trivial)) (jE (aK cC (hr.mono (by decide)) (bC TJ) (aa (aX (K:=K) rfl (aj 0 Jy) aq) (aa aq ak)) (by trivial)))))))),?_⟩
 walk_at "s"
 match x,hv with
 | none,.inl ⟨ty,hty,hk⟩=>
  refine dH hty hk ?_
  walk_at "s"
  exact q _ (Same.refl H)
 | none,.inr hv=>
  obtain ⟨t,us,rfl,ht,hl⟩:=hv
  refine dH (.tup ht) rfl ?_
  walk_at "s"
  refine pO (SqT.of ht) ?_
  walk_at "s"
  rw [nG,Y5 (show ¬ (us.length:Int)=3 by omega)]
  show if true=true then _ else _
  walk_at "s"
  exact q _ (Same.refl H)
 | some (r0,r1,r2),hv=>
  obtain ⟨t,u0,u1,u2,rfl,ht,h0,h1,h2⟩:=hv
  refine dH (.tup ht) rfl ?_
  walk_at "s"
  refine pO (SqT.of ht) ?_
  walk_at "s"
  rw [show (!decide (V.int (([u0,u1,u2]:List V).length:Int)=V.int 3))=false from rfl]
  replace q:∀ H',Same H H'->Q (.bl (vp 3 r0 && (vp 3 r1 && vp 6 r2))) H':=q
  walk_at "s"
  refine ⟨u0,r0,3,rfl,h0,by omega,fun H1 S1=>?_⟩
  walk_at "s"
  cases e0:vp 3 r0 with
  | false=>
   rw [e0,AaF] at q
   show if false=true then _ else _
   walk_at "s"
   exact q _ S1
  | true=>
   rw [e0,AaB] at q
   have ht1:=S1 _ _ ht
   show if true=true then _ else _
   walk_at "s"
   refine ⟨u1,r1,3,rfl,h1.same S1,by omega,fun H2 S2=>?_⟩
   walk_at "s"
   have U2:=S1.trans S2
   cases e1:vp 3 r1 with
   | false=>
    rw [e1,AaF] at q
    show if false=true then _ else _
    walk_at "s"
    exact q _ U2
   | true=>
    rw [e1,AaB] at q
    have ht2:=U2 _ _ ht
    show if true=true then _ else _
    walk_at "s"
    refine ⟨u2,r2,6,rfl,h2.same U2,by omega,fun H3 S3=>?_⟩
    walk_at "s"
    exact q _ (U2.trans S3)
theorem vQ:(["_law_row","_law_newer"]:List Str).Nodup:=by trivial
theorem vR:(["_law_row","_law_elder"]:List Str).Nodup:=by trivial
theorem TX:bF dR "_law_found":=by trivial
theorem kz34:cB dR "range":=by trivial
theorem kz35:cB dR "len":=by trivial
theorem TY:bF dR "_law_rows":=by trivial
theorem Nu:bF dR "_law_k":=by trivial
theorem T4:bF bN "_law_shifted":=by trivial
theorem Xl:bF bN "_law_lost":=by trivial
theorem Xm:bF bN "_law_came":=by trivial
theorem T7:bF bN "_law_behind":=by trivial
theorem zg:bF bN "_law_row":=by trivial
theorem T8:Sv bN "_law_elder":=by trivial
theorem T9:bF bN "_law_rank":=by trivial
theorem Ua:bF bN "_law_price":=by trivial
theorem Ub:Sv bN "_law_newer":=by trivial
theorem Xn:bF bN "_law_ahead":=by trivial
theorem Xo:cB bN "_law_ranks":=by trivial
def RkT (H:Hp) (L:List P3) (f:Nat->V) (n:Nat):Prop:=∀ (i:Nat) (p:P3),i < n->L[i]?=some p->∃ t,f i= .ref t/\H t=some (.tup [.int (p.1:Int),.int (i:Int)])
theorem RkT.same {H H':Hp} {L:List P3} {f:Nat->V} {n:Nat} (h:RkT H L f n) (s:Same H H'):RkT H' L f n:=fun i p hi hp=>by
 obtain ⟨t,e,ht⟩:=h i p hi hp
 exact ⟨t,e,s _ _ ht⟩
theorem EY {L:List P3} {f g:Nat->V} {n:Nat} (h:∀ i,i < n->f i=g i):vo L f n=vo L g n:=Aab fun i hi=>by rw [h i (AaE.mp hi)]
def spLR (K:W.Frag):Sp:=fun vs H Q _=>∃ (a:Addr) (us:List V) (L:List P3),vs=[.ref a]/\H a=some (.lst us)/\R3 H us L/\(L.map (·.2)).Nodup/\L.length<=1000/\∀ d f H',H d=none->Same H H'->H' d=some (.dT (dZ (vo L f L.length)))->RkT H' L f L.length->Q (.ref d) H'
theorem mO:aP ["_law_rows","_law_found","_law_k"] ["_law_rows"] (aB dR):=⟨rfl,rfl,rfl,by trivial,rfl,by trivial,by trivial⟩
theorem jM (T:Txt K mg):mU P w K mg base 1 "_law_ranks" ["_law_rows"] (spLR K):=by
 refine gf T.d_law_ranks mO (fun _ _ _ _ _ _ us hl=>L2.sH (fun _=>rfl) us hl) ?_ fun f cdv A outer s H vs Q E hr h=>?_
 ·rintro vs H Q E ⟨a,us,L,rfl,_⟩;rfl
 obtain ⟨a,us,L,rfl,ha,hR,hn,hl,q⟩:=h
 have hu:=hr.units0
 have hu64:=hr.units
 refine ⟨_,(au (aR (i:=1) mO.nd rfl (Or.inl TX) my rfl) (au (fu ZS rfl (gU (bC kz34) T.b_range (aa (aL (cH (K:=K) rfl) (bC kz35) T.b_len fV (aa (aj 0 TY) ak) (by trivial) (by trivial)) ak)) (aO (i:=2) mO.nd rfl (Or.inl Nu) rfl) (aA (cR (ts:=fU) (bR (aa (aX (K:=K) rfl (aX (K:=K) rfl (aj 0 TY) (aj 2 Nu)) aq) (aa (aj 2 Nu) ak))) (dY (aj 1 TX) (bz (bA (K:=K) rfl) (aX (K:=K) rfl (aj 0 TY) (aj 2 Nu)) (bh aq) bH) (cT hu64))))) (aA (aD (aj 1 TX))))),?_⟩
 walk_at "s"
 have hs:20000<=sizeLine:=by decide
 intro d nd0
 have S1:=(Same.refl H).upd nd0 (o:=.dT [])
 have hd:=ao (H:=H) (a:=d) (o:=.dT [])
 generalize upd H d (.dT [])=H1 at S1 hd ⊢
 walk_at "s"
 refine kh (SqL.of (S1 _ _ ha)) ?_
 walk_at "s"
 rw [hR.1]
 refine ⟨_,rfl,by omega,by omega,?_⟩
 rw [show ((L.length:Int)).toNat=L.length by omega]
 refine jg (n:=L.length) (fun k U G=>Same H G/\(∃ f,G d=some (.dT (dZ (vo L f k)))/\RkT G L f k)/\∃ x2,U=[some (.ref a),some (.ref d),x2]) ⟨S1,⟨fun _=>.non,hd,fun i p hi=>by omega⟩,_,rfl⟩ ?_ ?_
 ·rintro k U G hk ⟨s,⟨f',hdG,hT⟩,x2,rfl⟩
  rw [AbD]
  have hp:=YL hk
  obtain ⟨v,hv,b,rfl,hb⟩:=(hR.same s).of hp
  generalize L[k]=p at hp hb
  replace hb:G b=some (.tup [.int (p.1:Int),.int (p.2.1:Int),.int (p.2.2:Int)]):=hb
  walk_at "s"
  refine bW (SqL.of (s _ _ ha)) (bw hv) ?_
  walk_at "s"
  refine aF rfl fun t G2 nt s2 ht=>?_
  walk_at "s"
  refine bW (SqL.of (s2 _ _ (s _ _ ha))) (bw hv) ?_
  walk_at "s"
  refine cY (s2 _ _ hb) fun t2 G3 s3 ht2=>?_
  walk_at "s"
  replace ht2:G3 t2=some (.tup ((kp p.2).map kV)):=ht2
  have s23:=s2.trans s3
  refine gG (s23 _ _ hdG) ht2 (by rw [fX,mG];omega) ?_
  rw [Aj (by rw [← eZ hp];exact xT k fun i hi z=>by have:=oG hn (by omega) hk z;omega),← eZ hp]
  refine ⟨Same.put (s.trans s23) nd0,⟨fun i=>if i=k then .ref t else f' i,?_,fun i p' hi hp'=>?_⟩,_,rfl⟩
  ·rw [qL,EY (g:=f') (fun i hi=>if_neg (by omega))]
   simp only [if_true]
   exact ao
  ·by_cases e:i=k
   ·subst e
    rw [hp] at hp';cases hp'
    refine ⟨t,if_pos rfl,?_⟩
    rw [aC (fun z=>by rw [z,s2 _ _ hdG] at ht;cases ht)]
    exact s3 _ _ ht
   ·obtain ⟨t',e',ht'⟩:=hT i p' (by omega) hp'
    refine ⟨t',(if_neg e).trans e',?_⟩
    rw [aC (fun z=>by rw [z,hdG] at ht';cases ht')]
    exact s23 _ _ ht'
 ·rintro U G ⟨s,⟨f',hdG,hT⟩,x2,rfl⟩
  walk_at "s"
  exact q d f' G nd0 s hdG hT
def Nv (K:W.Frag):Sp:=fun vs H Q _=>∃ (a b:Addr) (us ws:List V) (A B:List P3),vs=[.ref a,.ref b]/\H a=some (.lst us)/\R3 H us A/\Good A/\H b=some (.lst ws)/\R3 H ws B/\Good B/\∀ n H',H n=none->Same H H'->Nw H' n A B->Q (.ref n) H'
theorem RT.put {H:Hp} {vs:List V} {L:List (List Int)} {g:Addr} {o:HO} (h:RT H vs L) (hg:∀ xs,H g≠some (.tup xs)):RT (upd H g o) vs L:=⟨h.1,fun i v p e1 e2=>by
 obtain ⟨a,rfl,ha⟩:=h.2 i v p e1 e2
 exact ⟨a,rfl,by rw [aC (fun z=>hg _ (by rw [← z];exact ha))];exact ha⟩⟩
theorem Uc {H:Hp} {g:Addr} {xs:List V} (h:H g=some (.lst xs)):∀ ys,H g≠some (.tup ys):=fun ys z=>by rw [h] at z;cases z
theorem dz:aP ["_law_ahead","_law_behind","_law_elder","_law_newer","_law_came","_law_lost","_law_shifted","_law_row","_law_price","_law_rank"] ["_law_ahead","_law_behind"] (aB bN):=⟨rfl,rfl,rfl,by trivial,rfl,by trivial,by trivial⟩
theorem ig (T:Txt K mg):mU P w K mg base 2 "_law_news" ["_law_ahead","_law_behind"] (Nv K):=by
 have jM:=jM (P:=P) (w:=w) (base:=base) T
 refine gf T.d_law_news dz (fun _ _ _ _ _ _ us hl=>L2.mV (fun _ _=>rfl) us hl) ?_ fun f cdv A outer s H vs Q E hr h=>?_
 ·rintro vs H Q E ⟨a,b,us,ws,A',B,rfl,_⟩;rfl
 obtain ⟨a,b,us,ws,A',B,rfl,ha,hA,gA,hb,hB,gB,q⟩:=h
 have hu:=hr.units0
 have hu64:=hr.units
 refine ⟨_,(au (aR (i:=2) dz.nd rfl (Or.inr T8) (aK jM (hr.mono (by decide)) (bC Xo) (aa (aj 0 Xn) ak) (by trivial)) rfl) (au (aR (i:=3) dz.nd rfl (Or.inr Ub) (aK jM (hr.mono (by decide)) (bC Xo) (aa (aj 1 T7) ak) (by trivial)) rfl) (au (Bt (i:=4) dz.nd rfl (Or.inl Xm) (sub:=[none,some 2]) (eN (N:=["_law_ahead","_law_behind","_law_elder","_law_newer","_law_came","_law_lost","_law_shifted","_law_row","_law_price","_law_rank"]) (sc:=aB bN) (N':=["_law_row","_law_elder"]) (by trivial)) rfl rfl rfl (fW (K:=K) rfl (aj 1 T7)) (fun C s₀ H₀ ex=>(rm 0 (by trivial) vR)) (fun C s₀ H₀ ex=>(tE (aM (rC (K:=K) rfl hu64) (bz (bA (K:=K) rfl) (dN 0 (by trivial)) (bh aq) bH) (o8 1 (by trivial)) (by walk_at "p")))) (fun C s₀ H₀ ex=>(dN 0 (by trivial))) rfl) (au (Bt (i:=5) dz.nd rfl (Or.inl Xl) (sub:=[none,some 3]) (eN (N:=["_law_ahead","_law_behind","_law_elder","_law_newer","_law_came","_law_lost","_law_shifted","_law_row","_law_price","_law_rank"]) (sc:=aB bN) (N':=["_law_row","_law_newer"]) (by trivial)) rfl rfl rfl (fW (K:=K) rfl (aj 0 Xn)) (fun C s₀ H₀ ex=>(rm 0 (by trivial) vQ)) (fun C s₀ H₀ ex=>(tE (aM (rC (K:=K) rfl hu64) (bz (bA (K:=K) rfl) (dN 0 (by trivial)) (bh aq) bH) (o8 1 (by trivial)) (by walk_at "p")))) (fun C s₀ H₀ ex=>(dN 0 (by trivial))) rfl) (au (aR (i:=6) dz.nd rfl (Or.inl T4) (cX ak) rfl) (au (fu ZS rfl (fW (K:=K) rfl (aj 1 T7)) (aO (i:=7) dz.nd rfl (Or.inl zg) rfl) (aA (bf (aM (HY (K:=K) rfl hu64) (bz (bA (K:=K) rfl) (aj 7 zg) (bh aq) bH) (lK 2 T8) (by walk_at "p")) (au (jH (pU hu64 (lK 2 T8) (bz (bA (K:=K) rfl) (aj 7 zg) (bh aq) bH)) (jG (K:=K) rfl rfl (aU (aO (i:=8) dz.nd rfl (Or.inl Ua) rfl) (aU (aO (i:=9) dz.nd rfl (Or.inl T9) rfl) gF)))) (aA (bf (aM (m9 (K:=K) rfl hu64) (bR (aa (aj 8 Ua) (aa (aj 9 T9) ak))) (pU hu64 (lK 3 Ub) (bz (bA (K:=K) rfl) (aj 7 zg) (bh aq) bH)) (by walk_at "p")) (aA (f9 (pP (K:=K) rfl Aaf AaC AaD lG (aj 6 T4) (aa (bR (aa (aX (K:=K) rfl (aj 7 zg) aq) (aa (aX (K:=K) rfl (aj 7 zg) aq) (aa (aj 8 Ua) (aa (aX (K:=K) rfl (aj 7 zg) aq) (aa (aj 9 T9) (aa (aX (K:=K) rfl (pU hu64 (lK 3 Ub) (bz (bA (K:=K) rfl) (aj 7 zg) (bh aq) bH)) aq) ak))))))) ak)))) aQ))) aQ))) (aA (aD (bR (aa (aj 4 Xm) (aa (aj 5 Xl) (aa (aj 6 T4) ak)))))))))))),?_⟩
 walk_at "s"
 have hs:20000<=sizeLine:=by decide
 have lA:=gA.le
 have lB:=gB.le
 refine ⟨a,us,A',rfl,ha,hA,gA.nd,gA.le,fun d f1 H1 nd S1 hd hf1=>?_⟩
 walk_at "s"
 refine ⟨b,ws,B,rfl,S1 _ _ hb,hB.same S1,gB.nd,gB.le,fun d2 f2 H2 nd2 S2 hd2 hf2=>?_⟩
 walk_at "s"
 have U2:=S1.trans S2
 have hd':=S2 _ _ hd
 refine .inl ⟨b,rfl,⟨_,SqL.of (U2 _ _ hb)⟩,?_⟩
 have hwl:=hB.1
 have hul:=hA.1
 refine jy (xs:=ws) (fun i ys G=>Same H2 G/\R3 G ys (gm (B.take i) A')/\ys.length<=i) (by omega) ⟨Same.refl H2,R3.nil,YW _⟩ ?_ ?_ ?_ ?_
 ·rintro i ys G ⟨_,_,h⟩
  exact h
 ·rintro i ys G ⟨s,_⟩
  exact SqL.of (s _ _ (U2 _ _ hb))
 ·rintro i ys G x hx ⟨s,hY,hyl⟩
  obtain ⟨p,hp,c,rfl,hc⟩:=(hB.same (U2.trans s)).at hx
  walk_at "s"
  refine ⟨KeepSt.set rfl,?_⟩
  walk_at "s"
  refine cY hc fun t G2 s2 ht=>?_
  walk_at "s"
  replace ht:G2 t=some (.tup ((kp p.2).map kV)):=ht
  refine .inr ⟨d,_,rfl,DGet.t (s2 _ _ (s _ _ hd')) ht,?_⟩
  walk_at "s"
  rw [gJ,jz gA.nd]
  have hN:=uZ B A' i hp
  cases e:uR A' p.2 with
  | none=>
   rw [e] at hN
   show if true=true then _ else _
   walk_at "s"
   refine ⟨s.trans s2,?_,by simp;omega⟩
   rw [hN]
   exact (hY.same s2).push ⟨c,rfl,s2 _ _ hc⟩
  | some j=>
   rw [e] at hN
   show if false=true then _ else _
   walk_at "s"
   refine ⟨s.trans s2,?_,by omega⟩
   rw [hN,show (if ((some j:Option Nat).isNone)=true then [p] else [])=([]:List P3) from rfl,Zt]
   exact hY.same s2
 rintro cs G c H3 ⟨s3,hC,_⟩ nc s3' hc
 rw [hwl,ZC] at hC
 replace hC:=hC.same s3'
 have S3:=s3.trans s3'
 have U3:=U2.trans S3
 try walk_at "s"
 refine .inl ⟨a,rfl,⟨_,SqL.of (U3 _ _ ha)⟩,?_⟩
 refine jy (xs:=us) (fun i ys G=>Same H3 G/\R3 G ys (gm (A'.take i) B)/\ys.length<=i) (by omega) ⟨Same.refl H3,R3.nil,YW _⟩ ?_ ?_ ?_ ?_
 ·rintro i ys G ⟨_,_,h⟩
  exact h
 ·rintro i ys G ⟨s,_⟩
  exact SqL.of (s _ _ (U3 _ _ ha))
 ·rintro i ys G x hx ⟨s,hY,hyl⟩
  obtain ⟨p,hp,c',rfl,hc'⟩:=(hA.same (U3.trans s)).at hx
  walk_at "s"
  refine ⟨KeepSt.set rfl,?_⟩
  walk_at "s"
  refine cY hc' fun t G2 s2 ht=>?_
  walk_at "s"
  replace ht:G2 t=some (.tup ((kp p.2).map kV)):=ht
  refine .inr ⟨d2,_,rfl,DGet.t (s2 _ _ (s _ _ (S3 _ _ hd2))) ht,?_⟩
  walk_at "s"
  rw [gJ,jz gB.nd]
  have hN:=uZ A' B i hp
  cases e:uR B p.2 with
  | none=>
   rw [e] at hN
   show if true=true then _ else _
   walk_at "s"
   refine ⟨s.trans s2,?_,by simp;omega⟩
   rw [hN]
   exact (hY.same s2).push ⟨c',rfl,s2 _ _ hc'⟩
  | some j=>
   rw [e] at hN
   show if false=true then _ else _
   walk_at "s"
   refine ⟨s.trans s2,?_,by omega⟩
   rw [hN,show (if ((some j:Option Nat).isNone)=true then [p] else [])=([]:List P3) from rfl,Zt]
   exact hY.same s2
 rintro ls G l H4 ⟨s4,hL,_⟩ nl s4' hl
 rw [hul,ZC] at hL
 replace hL:=hL.same s4'
 have S4:=s4.trans s4'
 have U4:=U3.trans S4
 have V4:=S3.trans S4
 try walk_at "s"
 refine aF rfl fun m H5 nm S5 hm=>?_
 walk_at "s"
 have U5:=U4.trans S5
 have nm0:=Same.back U4 nm
 have hdA:=S5 _ _ (V4 _ _ hd')
 have hdB:=S5 _ _ (V4 _ _ hd2)
 have fA:=hf1.same (S2.trans (V4.trans S5))
 have fB:=hf2.same (V4.trans S5)
 refine .inl ⟨b,rfl,⟨_,SqL.of (U5 _ _ hb)⟩,?_⟩
 refine gC (xs:=ws) (fun k U G=>Same H4 G/\(∃ ys,G m=some (.lst ys)/\RT G ys (Ft A' B k))/\∃ x7 x8 x9,U=[some (.ref a),some (.ref b),some (.ref d),some (.ref d2),some (.ref c),some (.ref l),some (.ref m),x7,x8,x9]) ⟨S5,⟨[],hm,RT.nil⟩,_,_,_,rfl⟩ (fun i U G _ h=>SqL.of (h.1 _ _ (U4 _ _ hb))) ?_ ?_
 ·rintro k v U G hv ⟨s,⟨ys,hmG,hY⟩,x7,x8,x9,rfl⟩
  obtain ⟨p,hp,c',rfl,hc'⟩:=(hB.same (U4.trans s)).at hv
  have hyl:ys.length<=k:=by rw [hY.1];exact tR k
  have hk:=(YS.mp hp).1
  have hN:=yZ (A:=A') hp
  have hfB:=Jm gB.nd hp
  have hdAG:=s _ _ (V4 _ _ hd')
  have hdBG:=s _ _ (V4 _ _ hd2)
  replace hc':G c'=some (.tup [.int (p.1:Int),.int (p.2.1:Int),.int (p.2.2:Int)]):=hc'
  walk_at "s"
  refine cY hc' fun t G2 s2 ht=>?_
  walk_at "s"
  replace ht:G2 t=some (.tup ((kp p.2).map kV)):=ht
  refine .inr ⟨d,_,rfl,DGet.t (s2 _ _ hdAG) ht,?_⟩
  walk_at "s"
  rw [gJ,jz gA.nd]
  unfold yX at hN
  cases e:uR A' p.2 with
  | none=>
   rw [e] at hN
   rw [show (Option.map f1 (none:Option Nat)).isSome=false from rfl]
   walk_at "s"
   refine ⟨s.trans s2,⟨ys,s2 _ _ hmG,?_⟩,_,_,_,rfl⟩
   rw [hN,show (none:Option (List Int)).toList=[] from rfl,Zt]
   exact hY.same s2
  | some i=>
   rw [e] at hN
   rw [show (Option.map f1 (some i)).isSome=true from rfl]
   obtain ⟨p',hp',_⟩:=iQ e
   have hi:=(YS.mp hp').1
   have hg:A'.getD i (0,0,0)=p':=by rw [Y0,hp'];rfl
   simp only [hg] at hN
   have hc2:=s2 _ _ hc'
   obtain ⟨tA,eA,htA⟩:=hf1.same (S2.trans (V4.trans (s.trans s2))) i p' hi hp'
   obtain ⟨tB,eB,htB⟩:=hf2.same (V4.trans (s.trans s2)) k p hk hp
   walk_at "s"
   refine cY hc2 fun t3 G3 s3 ht3=>?_
   walk_at "s"
   replace ht3:G3 t3=some (.tup ((kp p.2).map kV)):=ht3
   refine ⟨d,.ref tA,rfl,by have:=DGet.t (s3 _ _ (s2 _ _ hdAG)) ht3;rw [gJ,jz gA.nd,e,Option.map_some,eA] at this;exact this,?_⟩
   refine ⟨tA,_,rfl,.inl (SqT.of (s3 _ _ htA)),rfl,?_⟩
   have hc3:=s3 _ _ hc2
   walk_at "s"
   refine aF rfl fun t4 G4 _ s4 h4=>?_
   walk_at "s"
   have hc4:=s4 _ _ hc3
   have s24:=s2.trans (s3.trans s4)
   refine cY hc4 fun t5 G5 s5 ht5=>?_
   walk_at "s"
   replace ht5:G5 t5=some (.tup ((kp p.2).map kV)):=ht5
   refine ⟨d2,.ref tB,rfl,by have:=DGet.t (s5 _ _ (s24 _ _ hdBG)) ht5;rw [gJ,jz gB.nd,hfB,Option.map_some,eB] at this;exact this,?_⟩
   have s35:=s3.trans (s4.trans s5)
   refine ne2 (ns:=[(p'.1:Int),(i:Int)]) (ms:=[(p.1:Int),(k:Int)]) (s5 _ _ h4) (s35 _ _ htB) ?_
   have s25:=s2.trans s35
   by_cases hq:p'.1=p.1/\i=k
   ·rw [if_pos hq] at hN
    rw [YZ (by rw [hq.1,hq.2])]
    try with_reducible refine sO ?_
    walk_at "s"
    refine ⟨s.trans s25,⟨ys,s25 _ _ hmG,?_⟩,_,_,_,rfl⟩
    rw [hN,show (none:Option (List Int)).toList=[] from rfl,Zt]
    exact hY.same s25
   ·rw [if_neg hq] at hN
    rw [Y5 (fun z=>hq (by simp only [Abt,and_true] at z;omega))]
    have hc5:=s5 _ _ hc4
    try with_reducible refine sS ?_
    walk_at "s"
    refine ⟨.inl ⟨rfl,_,SqL.of (s25 _ _ hmG)⟩,?_⟩
    walk_at "s"
    refine cY hc5 fun t6 G6 s6 ht6=>?_
    walk_at "s"
    replace ht6:G6 t6=some (.tup ((kp p.2).map kV)):=ht6
    refine ⟨d2,.ref tB,rfl,by have:=DGet.t (s6 _ _ (s25 _ _ hdBG)) ht6;rw [gJ,jz gB.nd,hfB,Option.map_some,eB] at this;exact this,?_⟩
    have htB6:=s6 _ _ (s35 _ _ htB)
    have hc6:=s6 _ _ hc5
    walk_at "s"
    refine aF rfl fun t7 G7 _ s7 h7=>?_
    walk_at "s"
    have s27:=s25.trans (s6.trans s7)
    refine lO (s27 _ _ hmG) (by omega) ?_
    walk_at "s"
    refine ⟨Same.put (s.trans s27) nm,⟨_,ao,?_⟩,_,_,_,rfl⟩
    rw [hN]
    refine RT.push ((hY.same s27).put (Uc (s27 _ _ hmG))) ⟨t7,rfl,?_⟩
    rw [aC (fun z=>by rw [z,s27 _ _ hmG] at h7;cases h7)];exact h7
 ·rintro U G ⟨s,⟨ys,hmG,hY⟩,x7,x8,x9,rfl⟩
  walk_at "s"
  refine aF rfl fun n H6 nn S6 hn=>?_
  walk_at "s"
  rw [hwl] at hY
  have V6:=s.trans S6
  exact q n H6 (Same.back (U4.trans s) nn) (U4.trans V6) ⟨c,l,m,cs,ls,ys,hn,V6 _ _ (S4 _ _ hc),hC.same (S4.trans V6),V6 _ _ hl,hL.same V6,S6 _ _ hmG,hY.same S6⟩
theorem vU:(["_law_span","_law_costs"]:List Str).Nodup:=by trivial
theorem kz3j:cB bG "sorted":=by trivial
theorem Ud:Sv bG "_law_costs":=by trivial
theorem kz3l:cB bG "range":=by trivial
theorem Ny:bF bG "_law_size":=by trivial
theorem Ue:bF bG "_law_k":=by trivial
theorem Ug:bF bG "_law_price":=by trivial
theorem Nz:bF bG "_law_begin":=by trivial
theorem Xp:bF bG "_law_far":=by trivial
theorem Xq:bF bG "_law_kind":=by trivial
theorem Xr:bF bG "_law_small":=by trivial
theorem Xu:bF bG "_law_draws":=by trivial
theorem Xv:cB bG "_law_drawn":=by trivial
theorem Xw:bF bG "_law_cell_here":=by trivial
theorem NB:bF bG "_law_heads":=by trivial
theorem Fits.get {ms bs:List Int} (h:Fits ms bs) {i:Nat} {b:Int} (hb:bs[i]?=some b):∃ n:Nat,ms.getD i 0=(n:Int)/\(n:Int) < b:=by
 have hi:i < ms.length:=by rw [h.1];exact (YS.mp hb).1
 have e:=YL hi
 obtain ⟨h0,h1⟩:=h.2 i _ b e hb
 exact ⟨(ms[i]).toNat,by rw [Y0,e];simp;omega,by omega⟩
theorem Ar {ds:List Int} {a n:Nat} (h:a+n<=ds.length):dI (ds.map V.int) (some (a:Int)) (some ((a+n:Nat):Int))=(List.range n).map fun j=>V.int (ds.getD (a+j) 0):=by
 unfold dI
 rw [HT.sIx_nat,HT.sIx_nat,YQ,Nat.min_eq_left (by omega),Nat.min_eq_left (by omega),show a+n - a=n by omega]
 refine List.ext_getElem? fun j=>?_
 rw [List.getElem?_take,List.getElem?_drop,Ze,Ze]
 by_cases hj:j < n
 ·rw [if_pos hj,List.getElem?_range hj,YL (show a+j < ds.length by omega)]
  show some (V.int ds[a+j])=some (V.int (ds.getD (a+j) 0))
  rw [Y0,YL (show a+j < ds.length by omega)];rfl
 ·rw [if_neg hj,List.getElem?_eq_none (by simpa using hj)];rfl
theorem tX {l:List Int} {m:Nat} (hl:l.length=m):∀ (n k j:Nat),k < n->j < m->((List.replicate n l).flatten)[m*k+j]?=l[j]?
 | 0,k,j,h,_=>by omega
 | n+1,0,j,_,hj=>by
  rw [Aas,Aa1,Nat.mul_zero,AbC,Zv (by omega)]
 | n+1,k+1,j,h,hj=>by
  rw [Aas,Aa1,Zf (by rw [hl,Nat.mul_succ];omega),hl,show m*(k+1)+j - m=m*k+j by rw [Nat.mul_succ];omega]
  exact tX hl n k j (by omega) hj
theorem jB {l:List Int} {m:Nat} (hl:l.length=m) (n:Nat):((List.replicate n l).flatten).length=m*n:=by
 rw [List.length_flatten,List.map_replicate,List.sum_replicate_nat,hl,Nat.mul_comm]
theorem u6 (l:List Int) (n:Nat):(List.replicate n (l.map V.int)).flatten=((List.replicate n l).flatten).map V.int:=by
 rw [List.map_flatten,List.map_replicate]
theorem u9 {l:List Int} {n:Nat} {x:Int} (h:x∈(List.replicate n l).flatten):x∈l:=by
 obtain ⟨l',h1,h2⟩:=List.mem_flatten.mp h
 rw [(List.mem_replicate.mp h1).2] at h2
 exact h2
theorem PK {c b e:Nat} (h1:c<=48) (h2:b < e) (h3:e<=24):yU ((c:Int),((b:Int),(e:Int))):=⟨(show (0:Int)<=(c:Int) by omega),(show (c:Int)<=48 by omega),(show (0:Int)<=(b:Int) by omega),(show (b:Int) < (e:Int) by omega),(show (e:Int)<=24 by omega)⟩
theorem Xx {c:Nat} {p:P3} (h1:c<=48) (h:yU p):yU ((c:Int),p.2):=⟨(show (0:Int)<=(c:Int) by omega),(show (c:Int)<=48 by omega),h.2.2.1,h.2.2.2.1,h.2.2.2.2⟩
def zM (M:List P3):List ((Int×Int)×V):=M.map fun p=>(p.2,V.int (p.1:Int))
structure Cst (M:List P3):Prop where
 nd:(M.map (·.2)).Nodup
 ok:∀ p∈M,yU p
theorem Cst.nil:Cst []:=⟨List.nodup_nil,fun p hp=>by cases hp⟩
theorem Cst.putM {M:List P3} (h:Cst M) {c:Int} {s:Int×Int} (ho:yU (c,s)):∃ M',putK (dZ (zM M)) (kp s) (.int (c:Int))=dZ (zM M')/\Cst M'/\M'.length<=M.length+1:=by
 by_cases hs:s∈M.map (·.2)
 ·refine ⟨M.map fun p=>if p.2=s then (c,p.2) else p,?_,⟨?_,?_⟩,by simp⟩
  ·rw [Jb (by unfold zM;rw [ZL];exact hs)]
   unfold rH zM
   rw [ZL,ZL]
   congr 1
   refine Aab fun p _=>?_
   show (if p.2=s then (p.2,V.int (c:Int)) else (p.2,V.int (p.1:Int)))=((if p.2=s then (c,p.2) else p).2,V.int ((if p.2=s then (c,p.2) else p).1))
   split <;> rfl
  ·rw [ZL]
   have:(M.map ((fun x=>x.2) ∘ fun p=>if p.2=s then (c,p.2) else p))=M.map (·.2):=Aab fun p _=>by
    show (if p.2=s then (c,p.2) else p).2=p.2
    split <;> rfl
   rw [this];exact h.nd
  ·intro p hp
   obtain ⟨r,hr,rfl⟩:=Zd.mp hp
   split
   ·next e=>rw [e];exact ho
   ·exact h.ok r hr
 ·refine ⟨M ++ [(c,s)],?_,⟨?_,?_⟩,by simp⟩
  ·have hz:(zM M).lookup s=none:=by
    cases e:(zM M).lookup s with
    | none=>rfl
    | some v=>
     refine absurd ?_ hs
     have:=Lj (k:=kp s) (by rw [gJ];exact e)
     unfold dZ zM at this
     rw [ZL,ZL] at this
     obtain ⟨x,hx,ex⟩:=Zd.mp this
     rw [← Af ex]
     exact Zd.mpr ⟨x,hx,rfl⟩
   rw [Aj hz]
   unfold zM
   rw [Zw];rfl
  ·rw [Zw]
   exact xf h.nd hs
  ·intro p hp
   rcases Y8.mp hp with hp | hp
   ·exact h.ok p hp
   ·simp only [Zg,Aay,or_false] at hp
    rw [hp];exact ho
theorem Cst.good {M L:List P3} (h:Cst M) (hl:M.length<=1000) (pe:L.Perm M) (pw:L.Pairwise Nf):Good L:=
 Nh pw (fun p hp=>h.ok p (pe.mem_iff.mp hp)) ((pe.map (·.2)).nodup_iff.mpr h.nd) (by rw [pe.length_eq];exact hl)
theorem nO (M:List P3):(dZ (zM M)).length=M.length:=by rw [fX];simp [zM]
theorem PL {M:List P3} {i:Nat} {k:List Key} {v:V} (h:(dZ (zM M))[i]?=some (k,v)):∃ p,M[i]?=some p/\k=kp p.2:=by
 unfold dZ zM at h
 rw [ZL,Ze] at h
 cases e:M[i]? with
 | none=>rw [e] at h;cases h
 | some p=>rw [e] at h;cases h;exact ⟨p,rfl,rfl⟩
theorem JC {M:List P3} (h:Cst M) {i:Nat} {p:P3} (hp:M[i]?=some p):mZ (dZ (zM M)) (kp p.2)=some (.int (p.1:Int)):=by
 rw [gJ]
 exact yV (by unfold zM;rw [ZL];exact h.nd) (p.2,V.int (p.1:Int)) (Zd.mpr ⟨p,Zr hp,rfl⟩)
def NK (K:W.Frag):Sp:=fun vs H Q _=>∃ n:Int,vs=[.int n]/\∀ q ys H' L,H q=none->Same H H'->H' q=some (.lst ys)->R3 H' ys L->Good L->L.length<=41->Q (.ref q) H'
theorem Xy {ms:List Int} {x y z:Int} (h:Fits ms [x,y,z]):∃ a b c:Nat,ms=[(a:Int),(b:Int),(c:Int)]/\(a:Int) < x/\(b:Int) < y/\(c:Int) < z:=by
 obtain ⟨hl,h⟩:=h
 match ms,hl with
 | [a,b,c],_=>
  have h0:=h 0 a x rfl rfl
  have h1:=h 1 b y rfl rfl
  have h2:=h 2 c z rfl rfl
  refine ⟨a.toNat,b.toNat,c.toNat,?_,by omega,by omega,by omega⟩
  rw [Aac h0.1,Aac h1.1,Aac h2.1]
theorem bY:aP ["_law_cell_here","_law_heads","_law_size","_law_draws","_law_costs","_law_k","_law_kind","_law_price","_law_small","_law_begin","_law_far"] ["_law_cell_here"] (aB bG):=⟨rfl,rfl,rfl,by trivial,rfl,by trivial,by trivial⟩
theorem ik (T:Txt K mg):mU P w K mg base 2 "_law_list" ["_law_cell_here"] (NK K):=by
 have cW:=cW (P:=P) (w:=w) (base:=base) T
 refine gf T.d_law_list bY (fun _ _ _ _ _ _ us hl=>L2.sH (fun _=>rfl) us hl) ?_ fun f cdv A outer s H vs Q E hr h=>?_
 ·rintro vs H Q E ⟨n,rfl,_⟩;rfl
 obtain ⟨n,rfl,q⟩:=h
 have hu:=hr.units0
 have hu64:=hr.units
 refine ⟨_,(au (aR (i:=1) bY.nd rfl (Or.inl NB) (aK cW (hr.mono (by decide)) (bC Xv) (aa (aj 0 Xw) (aa (cX (aa aq (aa aq (aa aq ak)))) ak)) (by trivial)) rfl) (au (aR (i:=2) bY.nd rfl (Or.inl Ny) (aX (K:=K) rfl (aj 1 NB) aq) rfl) (au (bf (aM (bU (K:=K) rfl hu64) (aX (K:=K) rfl (aj 1 NB) aq) aq (by walk_at "p")) (aA (aR (i:=2) bY.nd rfl (Or.inl Ny) (aX (K:=K) rfl (aj 1 NB) aq) rfl)) aQ) (au (aR (i:=3) bY.nd rfl (Or.inl Xu) (aK cW (hr.mono (by decide)) (bC Xv) (aa (aj 0 Xw) (aa (aZ cj (cX (aa aq (aa aq (aa aq ak)))) (aZ dX (cX (aa aq (aa aq (aa aq (aa aq (aa aq ak)))))) (aj 2 Ny))) ak)) (by trivial)) rfl) (au (aR (i:=4) bY.nd rfl (Or.inr Ud) my rfl) (au (fu ZS rfl (gU (bC kz3l) T.b_range (aa (aj 2 Ny) ak)) (aO (i:=5) bY.nd rfl (Or.inl Ue) rfl) (au (jH (bz (bA (K:=K) rfl) (aj 3 Xu) (bh (aZ cj aq (aZ dX aq (aj 5 Ue)))) (bh (aZ cj aq (aZ dX aq (aj 5 Ue))))) (jG (K:=K) rfl rfl (aU (aO (i:=6) bY.nd rfl (Or.inl Xq) rfl) (aU (aO (i:=7) bY.nd rfl (Or.inl Ug) rfl) (aU (aO (i:=8) bY.nd rfl (Or.inl Xr) rfl) (aU (aO (i:=9) bY.nd rfl (Or.inl Nz) rfl) (aU (aO (i:=10) bY.nd rfl (Or.inl Xp) rfl) gF))))))) (au (bf (aM ue (aj 6 Xq) aq (by walk_at "p")) (aA (aR (i:=7) bY.nd rfl (Or.inl Ug) (aj 8 Xr) rfl)) aQ) (aA (cR (ts:=fU) (aj 7 Ug) (dY (lK 4 Ud) (bR (aa (aj 9 Nz) (aa (aZ cj (aZ cj (aj 9 Nz) aq) (aZ dW (aj 10 Xp) (aZ pK aq (aj 9 Nz)))) ak))) (cT hu64))))))) (aA (aD (aL d7 (bC kz3j) T.b_sorted gR (aa (kj (sub:=[none,some 4]) (eN (N:=["_law_cell_here","_law_heads","_law_size","_law_draws","_law_costs","_law_k","_law_kind","_law_price","_law_small","_law_begin","_law_far"]) (sc:=aB bG) (N':=["_law_span","_law_costs"]) (by trivial)) rfl rfl rfl (Io (lK 4 Ud)) (fun C s₀ H₀ ex=>(rm 0 (by trivial) vU)) (fun C s₀ H₀ ex=>jF) (fun C s₀ H₀ ex=>(bR (aa (pU hu64 (o8 1 (by trivial)) (dN 0 (by trivial))) (aa (aX (K:=K) rfl (dN 0 (by trivial)) aq) (aa (aX (K:=K) rfl (dN 0 (by trivial)) aq) ak)))))) ak) (by trivial) (by trivial)))))))))),?_⟩
 walk_at "s"
 have hs:20000<=sizeLine:=by decide
 refine aF rfl fun b0 H1 _ S1 hb0=>?_
 walk_at "s"
 refine ⟨n,b0,[8,9,41],rfl,hb0,by simp,(fun x hx=>by simp at hx;omega),fun hd ms H2 nhd S2 hhd hF=>?_⟩
 obtain ⟨h0,h1,h2,rfl,e0,e1,e2⟩:=Xy hF
 replace hhd:H2 hd=some (.lst [.int (h0:Int),.int (h1:Int),.int (h2:Int)]):=hhd
 walk_at "n"
 with_reducible refine wA ?_
 walk_at "n"
 with_reducible refine BR (fun U G=>G=H2/\∃ sz:Nat,sz<=40/\U=[some (.int n),some (.ref hd),some (.int (sz:Int)),none,none,none,none,none,none,none,none]) ?_ ?_
 rotate_left
 ·intro N hN
  walk_at "s"
  refine fQ (fun h=>?_) (fun h=>?_)
  ·walk_at "s"
   exact hN _ _ ⟨rfl,h2,by omega,rfl⟩
  ·walk_at "s"
   exact hN _ _ ⟨rfl,h1,by omega,rfl⟩
 rintro U G ⟨rfl,sz,hsz,rfl⟩
 have U2:=S1.trans S2
 walk_at "s"
 refine aF rfl fun b1 H3 _ S3 hb1=>?_
 walk_at "s"
 refine aF rfl fun b2 H4 _ S4 hb2=>?_
 walk_at "s"
 refine zW hb2 (by omega) (by omega) (by simp;omega) fun b3 Va=>?_
 walk_at "s"
 rw [show ((sz:Int)).toNat=sz by omega,show ([V.int 3,V.int 49,V.int 4,V.int 24,V.int 24]:List V)=([3,49,4,24,24]:List Int).map V.int from rfl,u6]
 have S5:=(Same.refl H4).upd Va (o:=.lst (((List.replicate sz [3,49,4,24,24]).flatten:List Int).map V.int))
 have hb3:=ao (H:=H4) (a:=b3) (o:=.lst (((List.replicate sz [3,49,4,24,24]).flatten:List Int).map V.int))
 generalize upd H4 b3 (.lst (((List.replicate sz [3,49,4,24,24]).flatten:List Int).map V.int))=H5 at S5 hb3 ⊢
 have fl:=jB (l:=[3,49,4,24,24]) rfl sz
 walk_at "s"
 refine uz (S5 _ _ (S4 _ _ hb1)) hb3 (by rw [YQ,fl];simp;omega) fun b4 nb4=>?_
 walk_at "s"
 rw [show ([V.int 8,V.int 9,V.int 41]:List V) ++ ((List.replicate sz [3,49,4,24,24]).flatten:List Int).map V.int=(([8,9,41]:List Int) ++ (List.replicate sz [3,49,4,24,24]).flatten).map V.int from by rw [Zw];rfl]
 have S6:=(Same.refl H5).upd nb4 (o:=.lst ((([8,9,41]:List Int) ++ (List.replicate sz [3,49,4,24,24]).flatten).map V.int))
 have hb4:=ao (H:=H5) (a:=b4) (o:=.lst ((([8,9,41]:List Int) ++ (List.replicate sz [3,49,4,24,24]).flatten).map V.int))
 generalize upd H5 b4 (.lst ((([8,9,41]:List Int) ++ (List.replicate sz [3,49,4,24,24]).flatten).map V.int))=H6 at S6 hb4 ⊢
 walk_at "s"
 have hbd:∀ x∈([8,9,41]:List Int) ++ (List.replicate sz [3,49,4,24,24]).flatten,0 < x/\x < 1073741824:=fun x hx=>by
  rcases Y8.mp hx with hx | hx
  ·simp at hx;omega
  ·have:=u9 hx
   simp at this;omega
 refine ⟨n,b4,[8,9,41] ++ (List.replicate sz [3,49,4,24,24]).flatten,rfl,hb4,by rw [YX,fl];simp;omega,hbd,fun dr ds H7 ndr S7 hdr hD=>?_⟩
 walk_at "s"
 have dl:ds.length=3+5*sz:=by rw [hD.1,YX,fl];rfl
 intro d nd
 have U7:=U2.trans (S3.trans (S4.trans (S5.trans (S6.trans S7))))
 have nd0:=Same.back U7 nd
 have S8:=(Same.refl H7).upd nd (o:=.dT [])
 have hd8:=ao (H:=H7) (a:=d) (o:=.dT [])
 generalize upd H7 d (.dT [])=H8 at S8 hd8 ⊢
 have U8:=U7.trans S8
 have hdr8:=S8 _ _ hdr
 have drd:dr≠d:=gNe nd hdr
 walk_at "s"
 refine ⟨_,rfl,by omega,by omega,?_⟩
 rw [show ((sz:Int)).toNat=sz by omega]
 refine jg (n:=sz) (fun k U G=>Same H G/\G dr=some (.lst (ds.map V.int))/\(∃ M,G d=some (.dT (dZ (zM M)))/\Cst M/\M.length<=k)/\∃ x5 x6 x7 x8 x9 x10,U=[some (.int n),some (.ref hd),some (.int (sz:Int)),some (.ref dr),some (.ref d),x5,x6,x7,x8,x9,x10]) ⟨U8,hdr8,⟨[],hd8,Cst.nil,YW _⟩,_,_,_,_,_,_,rfl⟩ ?_ ?_
 ·rintro k U G hk ⟨s,hdrG,⟨M,hdG,hM,hMl⟩,x5,x6,x7,x8,x9,x10,rfl⟩
  rw [AbD]
  have gt:∀ j,j < 5->(([8,9,41]:List Int) ++ (List.replicate sz [3,49,4,24,24]).flatten)[3+5*k+j]?=([3,49,4,24,24]:List Int)[j]?:=fun j hj=>by
   rw [Zf (by simp;omega),show 3+5*k+j - ([8,9,41]:List Int).length=5*k+j from by simp;omega]
   exact tX rfl sz k j hk hj
  obtain ⟨w0,ew0,lw0⟩:=hD.get ((gt 0 (by omega)).trans rfl)
  obtain ⟨w1,ew1,lw1⟩:=hD.get ((gt 1 (by omega)).trans rfl)
  obtain ⟨w2,ew2,lw2⟩:=hD.get ((gt 2 (by omega)).trans rfl)
  obtain ⟨w3,ew3,lw3⟩:=hD.get ((gt 3 (by omega)).trans rfl)
  obtain ⟨w4,ew4,lw4⟩:=hD.get ((gt 4 (by omega)).trans rfl)
  have hcut:=Ar (ds:=ds) (a:=3+5*k) (n:=5) (by omega)
  rw [show (List.range 5).map (fun j=>V.int (ds.getD (3+5*k+j) 0))=[.int (w0:Int),.int (w1:Int),.int (w2:Int),.int (w3:Int),.int (w4:Int)] from by
   rw [show List.range 5=[0,1,2,3,4] from rfl]
   simp only [ZJ,Abl]
   rw [ew0,ew1,ew2,ew3,ew4]] at hcut
  walk_at "s"
  refine mD hdrG fun sl G2 nsl s2 hsl=>?_
  walk_at "s"
  rw [show (3:Int)+5*(k:Int)=((3+5*k:Nat):Int) by omega,show (8:Int)+5*(k:Int)=((3+5*k+5:Nat):Int) by omega,hcut] at hsl
  refine tG (SqL.of hsl) rfl ?_
  walk_at "n"
  with_reducible refine BR (fun U G'=>G'=G2/\∃ c:Nat,c<=48/\U=[some (.int n),some (.ref hd),some (.int (sz:Int)),some (.ref dr),some (.ref d),some (.int (k:Int)),some (.int (w0:Int)),some (.int (c:Int)),some (.int (w2:Int)),some (.int (w3:Int)),some (.int (w4:Int))]) ?_ ?_
  rotate_left
  ·intro N hN
   walk_at "s"
   refine fQ (fun h=>?_) (fun h=>?_)
   ·walk_at "s"
    exact hN _ _ ⟨rfl,w2,by omega,rfl⟩
   ·walk_at "s"
    exact hN _ _ ⟨rfl,w1,by omega,rfl⟩
  rintro U G' ⟨rfl,c,hc,rfl⟩
  walk_at "s"
  obtain ⟨e,ee,he1,he2⟩:∃ e:Nat,(w3:Int)+1+(w4:Int) % (24 - (w3:Int))=(e:Int)/\w3 < e/\e<=24:=by
   have a1:=AaO (w4:Int) (show (24 - (w3:Int))≠0 by omega)
   have a2:=Aaq (w4:Int) (show 0 < (24 - (w3:Int)) by omega)
   exact ⟨((w3:Int)+1+(w4:Int) % (24 - (w3:Int))).toNat,by omega,by omega,by omega⟩
  rw [ee]
  refine aF rfl fun t G3 nt s3 ht=>?_
  walk_at "s"
  have s23:=s2.trans s3
  obtain ⟨M',eM,hM',lM'⟩:=hM.putM (c:=(c:Int)) (s:=((w3:Int),(e:Int))) (PK hc he1 he2)
  refine gG (k:=kp ((w3:Int),(e:Int))) (s23 _ _ hdG) ht (by rw [nO];omega) ?_
  rw [eM]
  exact ⟨Same.put (s.trans s23) nd0,by rw [aC drd];exact s23 _ _ hdrG,⟨M',ao,hM',by omega⟩,_,_,_,_,_,_,rfl⟩
 rintro U H9 ⟨S9,_,⟨M,hd9,hM,hMl⟩,x5,x6,x7,x8,x9,x10,rfl⟩
 walk_at "s"
 refine ⟨d,_,rfl,hd9,fun ob=>?_⟩
 have SA:=Same.put (o:=.frz ob (.dT (dZ (zM M)))) S9 nd0
 have hdA:=ao (H:=H9) (a:=d) (o:=.frz ob (.dT (dZ (zM M))))
 generalize upd H9 d (.frz ob (.dT (dZ (zM M))))=HA at SA hdA ⊢
 refine xN (fun i ys G=>Same H G/\G d=some (.frz ob (.dT (dZ (zM M))))/\R3 G ys (M.take i)) (by rw [nO];omega) ⟨SA,hdA,R3.nil⟩ ?_ ?_ ?_ ?_
 ·rintro i ys G ⟨_,_,h⟩
  rw [h.1,Zb];omega
 ·rintro i ys G ⟨_,h,_⟩
  exact h
 ·rintro i ys G k v b hk hb ⟨s,hdG,hY⟩
  obtain ⟨p,hp,rfl⟩:=PL hk
  have hb':G b=some (.tup [.int (p.2.1:Int),.int (p.2.2:Int)]):=hb
  walk_at "s"
  refine ⟨KeepSt.set rfl,?_⟩
  walk_at "s"
  refine ⟨d,.int (p.1:Int),rfl,.inr ⟨_,kp p.2,b,.inr ⟨ob,hdG⟩,rfl,hb,(JC hM hp).symm⟩,?_⟩
  walk_at "s"
  refine aF rfl fun t2 G3 nt2 s3 ht2=>?_
  walk_at "s"
  refine ⟨s.trans s3,s3 _ _ hdG,?_⟩
  rw [Z0,hp]
  exact (hY.same s3).push ⟨t2,rfl,ht2⟩
 rintro ys G D HB ⟨sB,_,hY⟩ nD sB' hD'
 rw [nO,ZC] at hY
 try walk_at "s"
 refine oH hD' (hY.same sB') (by omega) fun qq zs HC L nq SC hq hL pL pwL=>?_
 try walk_at "s"
 exact q qq zs HC L (Same.back (sB.trans sB') nq) (sB.trans (sB'.trans SC)) hq hL (hM.good (by omega) pL pwL) (by rw [pL.length_eq];omega)
theorem vV:(["_law_span","_law_costs"]:List Str).Nodup:=by trivial
theorem kz3x:cB bx "sorted":=by trivial
theorem JD:Sv bx "_law_costs":=by trivial
theorem Xz:cB bx "range":=by trivial
theorem JF:bF bx "_law_draws":=by trivial
theorem ye:bF bx "_law_k":=by trivial
theorem NP:bF bx "_law_price":=by trivial
theorem NQ:bF bx "_law_begin":=by trivial
theorem XD:bF bx "_law_far":=by trivial
theorem JK:bF bx "_law_size":=by trivial
theorem Uh:bF bx "_law_word":=by trivial
theorem NZ:bF bx "_law_ahead":=by trivial
theorem kz48:cB bx "_law_list":=by trivial
theorem Ui:bF bx "_law_rest":=by trivial
theorem N5:bF bx "_law_cell_here":=by trivial
theorem kz4b:cB bx "_law_drawn":=by trivial
theorem kz4c:cB bx "len":=by trivial
def N6 (K:W.Frag):Sp:=fun vs H Q _=>∃ (n:Int) (a:Addr) (us:List V) (A:List P3),vs=[.int n,.ref a]/\H a=some (.lst us)/\R3 H us A/\Good A/\A.length<=100/\∀ q ys H' L,H q=none->Same H H'->H' q=some (.lst ys)->R3 H' ys L->Good L->(L.length<=41\/L.length<=A.length+3)->Q (.ref q) H'
def nb (sz:Nat):List Int:=[4,4] ++ (List.replicate sz [5,49]).flatten ++ (List.replicate 3 [24,24,49]).flatten
theorem JL (sz:Nat):(nb sz).length=2+2*sz+9:=by
 unfold nb
 rw [YX,YX,jB (m:=2) rfl,jB (m:=3) rfl];rfl
theorem XF {sz k j:Nat} (hk:k < sz) (hj:j < 2):(nb sz)[2+2*k+j]?=([5,49]:List Int)[j]?:=by
 unfold nb
 rw [Zv (by rw [YX,jB (m:=2) rfl];simp;omega),Zf (by simp;omega),show 2+2*k+j - ([4,4]:List Int).length=2*k+j from by simp;omega]
 exact tX rfl sz k j hk hj
theorem Uj {sz k j:Nat} (hk:k < 3) (hj:j < 3):(nb sz)[2+2*sz+3*k+j]?=([24,24,49]:List Int)[j]?:=by
 unfold nb
 rw [Zf (by rw [YX,jB (m:=2) rfl];simp;omega),YX,jB (m:=2) rfl,show 2+2*sz+3*k+j - (([4,4]:List Int).length+2*sz)=3*k+j from by simp;omega]
 exact tX rfl 3 k j hk hj
theorem Uk {sz:Nat} {x:Int} (h:x∈nb sz):0 < x/\x < 1073741824:=by
 unfold nb at h
 rcases Y8.mp h with h | h
 ·rcases Y8.mp h with h | h
  ·simp at h;omega
  ·have:=u9 h
   simp at this;omega
 ·have:=u9 h
  simp at this;omega
theorem bZ:aP ["_law_cell_here","_law_ahead","_law_size","_law_draws","_law_rest","_law_costs","_law_k","_law_word","_law_price","_law_begin","_law_far"] ["_law_cell_here","_law_ahead"] (aB bx):=⟨rfl,rfl,rfl,by trivial,rfl,by trivial,by trivial⟩
theorem pZ (T:Txt K mg):mU P w K mg base 3 "_law_next" ["_law_cell_here","_law_ahead"] (N6 K):=by
 have cW:=cW (P:=P) (w:=w) (base:=base) T
 have ik:=ik (P:=P) (w:=w) (base:=base) T
 refine gf T.d_law_next bZ (fun _ _ _ _ _ _ us hl=>L2.mV (fun _ _=>rfl) us hl) ?_ fun f cdv A outer s H vs Q E hr h=>?_
 ·rintro vs H Q E ⟨n,a,us,A',rfl,_⟩;rfl
 obtain ⟨n,a,us,A',rfl,ha,hA,gA,hAl,q⟩:=h
 have hu:=hr.units0
 have hu64:=hr.units
 refine ⟨_,(au (aR (i:=2) bZ.nd rfl (Or.inl JK) (aL (cH (K:=K) rfl) (bC kz4c) T.b_len fV (aa (aj 1 NZ) ak) (by trivial) (by trivial)) rfl) (au (aR (i:=3) bZ.nd rfl (Or.inl JF) (aK cW (hr.mono (by decide)) (bC kz4b) (aa (aj 0 N5) (aa (aZ cj (aZ cj (cX (aa aq (aa aq ak))) (aZ dX (cX (aa aq (aa aq ak))) (aj 2 JK))) (aZ dX (cX (aa aq (aa aq (aa aq ak)))) aq)) ak)) (by trivial)) rfl) (au (bf (aM (bU (K:=K) rfl hu64) (aX (K:=K) rfl (aj 3 JF) aq) aq (by walk_at "p")) (au (aR (i:=4) bZ.nd rfl (Or.inl Ui) (aZ cj (aj 0 N5) aq) rfl) (au (bf (aM Ou (aj 0 N5) (aZ Gd aq aq) (by walk_at "p")) (aA (aR (i:=4) bZ.nd rfl (Or.inl Ui) (aZ uG (aj 0 N5) aq) rfl)) aQ) (aA (aD (aK ik (hr.mono (by decide)) (bC kz48) (aa (aj 4 Ui) ak) (by trivial)))))) aQ) (au (aR (i:=5) bZ.nd rfl (Or.inr JD) my rfl) (au (fu ZS rfl (gU (bC Xz) T.b_range (aa (aj 2 JK) ak)) (aO (i:=6) bZ.nd rfl (Or.inl ye) rfl) (au (jH (bz (bA (K:=K) rfl) (aj 3 JF) (bh (aZ cj aq (aZ dX aq (aj 6 ye)))) (bh (aZ cj aq (aZ dX aq (aj 6 ye))))) (jG (K:=K) rfl rfl (aU (aO (i:=7) bZ.nd rfl (Or.inl Uh) rfl) (aU (aO (i:=8) bZ.nd rfl (Or.inl NP) rfl) gF)))) (aA (bf (aM (bU (K:=K) rfl hu64) (aj 7 Uh) aq (by walk_at "p")) (aA (cR (ts:=fU) (aj 8 NP) (dY (lK 5 JD) (bz (bA (K:=K) rfl) (aX (K:=K) rfl (aj 1 NZ) (aj 6 ye)) (bh aq) bH) (cT hu64)))) (aA (bf (aM ue (aj 7 Uh) aq (by walk_at "p")) (aA (cR (ts:=fU) (aX (K:=K) rfl (aX (K:=K) rfl (aj 1 NZ) (aj 6 ye)) aq) (dY (lK 5 JD) (bz (bA (K:=K) rfl) (aX (K:=K) rfl (aj 1 NZ) (aj 6 ye)) (bh aq) bH) (cT hu64)))) aQ)))))) (au (fu ZS rfl (gU (bC Xz) T.b_range (aa (aX (K:=K) rfl (aj 3 JF) aq) ak)) (aO (i:=6) bZ.nd rfl (Or.inl ye) rfl) (au (jH (bz (bA (K:=K) rfl) (aj 3 JF) (bh (aZ cj (aZ cj aq (aZ dX aq (aj 2 JK))) (aZ dX aq (aj 6 ye)))) (bh (aZ cj (aZ cj aq (aZ dX aq (aj 2 JK))) (aZ dX aq (aj 6 ye))))) (jG (K:=K) rfl rfl (aU (aO (i:=9) bZ.nd rfl (Or.inl NQ) rfl) (aU (aO (i:=10) bZ.nd rfl (Or.inl XD) rfl) (aU (aO (i:=8) bZ.nd rfl (Or.inl NP) rfl) gF))))) (aA (cR (ts:=fU) (aj 8 NP) (dY (lK 5 JD) (bR (aa (aj 9 NQ) (aa (aZ cj (aZ cj (aj 9 NQ) aq) (aZ dW (aj 10 XD) (aZ pK aq (aj 9 NQ)))) ak))) (cT hu64)))))) (aA (aD (aL d7 (bC kz3x) T.b_sorted gR (aa (kj (sub:=[none,some 5]) (eN (N:=["_law_cell_here","_law_ahead","_law_size","_law_draws","_law_rest","_law_costs","_law_k","_law_word","_law_price","_law_begin","_law_far"]) (sc:=aB bx) (N':=["_law_span","_law_costs"]) (by trivial)) rfl rfl rfl (Io (lK 5 JD)) (fun C s₀ H₀ ex=>(rm 0 (by trivial) vV)) (fun C s₀ H₀ ex=>jF) (fun C s₀ H₀ ex=>(bR (aa (pU hu64 (o8 1 (by trivial)) (dN 0 (by trivial))) (aa (aX (K:=K) rfl (dN 0 (by trivial)) aq) (aa (aX (K:=K) rfl (dN 0 (by trivial)) aq) ak)))))) ak) (by trivial) (by trivial)))))))))),?_⟩
 walk_at "s"
 have hs:20000<=sizeLine:=by decide
 refine kh (SqL.of ha) ?_
 walk_at "s"
 rw [hA.1]
 obtain ⟨sz,hsz⟩:∃ sz,sz=A'.length:=⟨_,rfl⟩
 rw [← hsz]
 have hsl:sz<=100:=by omega
 walk_at "s"
 refine aF rfl fun b1 H1 _ S1 hb1=>?_
 walk_at "s"
 refine aF rfl fun b2 H2 _ S2 hb2=>?_
 walk_at "s"
 refine zW hb2 (by omega) (by omega) (by simp;omega) fun b3 Va=>?_
 walk_at "s"
 rw [show ((sz:Int)).toNat=sz by omega,show ([V.int 5,V.int 49]:List V)=([5,49]:List Int).map V.int from rfl,u6]
 have S3:=(Same.refl H2).upd Va (o:=.lst (((List.replicate sz [5,49]).flatten:List Int).map V.int))
 have hb3:=ao (H:=H2) (a:=b3) (o:=.lst (((List.replicate sz [5,49]).flatten:List Int).map V.int))
 generalize upd H2 b3 (.lst (((List.replicate sz [5,49]).flatten:List Int).map V.int))=H3 at S3 hb3 ⊢
 have fl:=jB (l:=[5,49]) rfl sz
 walk_at "s"
 refine uz (S3 _ _ (S2 _ _ hb1)) hb3 (by rw [YQ,fl];simp;omega) fun b4 nb4=>?_
 walk_at "s"
 rw [show ([V.int 4,V.int 4]:List V) ++ ((List.replicate sz [5,49]).flatten:List Int).map V.int=(([4,4]:List Int) ++ (List.replicate sz [5,49]).flatten).map V.int from by rw [Zw];rfl]
 have S4:=(Same.refl H3).upd nb4 (o:=.lst ((([4,4]:List Int) ++ (List.replicate sz [5,49]).flatten).map V.int))
 have hb4:=ao (H:=H3) (a:=b4) (o:=.lst ((([4,4]:List Int) ++ (List.replicate sz [5,49]).flatten).map V.int))
 generalize upd H3 b4 (.lst ((([4,4]:List Int) ++ (List.replicate sz [5,49]).flatten).map V.int))=H4 at S4 hb4 ⊢
 walk_at "s"
 refine aF rfl fun b5 H5 _ S5 hb5=>?_
 walk_at "s"
 refine zW hb5 (by omega) (by omega) (by simp;omega) fun b6 nb6=>?_
 walk_at "s"
 rw [show ((3:Int)).toNat=3 from rfl,show ([V.int 24,V.int 24,V.int 49]:List V)=([24,24,49]:List Int).map V.int from rfl,u6]
 have S6:=(Same.refl H5).upd nb6 (o:=.lst (((List.replicate 3 [24,24,49]).flatten:List Int).map V.int))
 have hb6:=ao (H:=H5) (a:=b6) (o:=.lst (((List.replicate 3 [24,24,49]).flatten:List Int).map V.int))
 generalize upd H5 b6 (.lst (((List.replicate 3 [24,24,49]).flatten:List Int).map V.int))=H6 at S6 hb6 ⊢
 walk_at "s"
 refine uz (S6 _ _ (S5 _ _ hb4)) hb6 (by rw [YQ,YQ,YX,fl];simp;omega) fun b7 nb7=>?_
 walk_at "s"
 rw [← Zw,show ([4,4]:List Int) ++ (List.replicate sz [5,49]).flatten ++ (List.replicate 3 [24,24,49]).flatten=nb sz from rfl]
 have S7:=(Same.refl H6).upd nb7 (o:=.lst ((nb sz).map V.int))
 have hb7:=ao (H:=H6) (a:=b7) (o:=.lst ((nb sz).map V.int))
 generalize upd H6 b7 (.lst ((nb sz).map V.int))=H7 at S7 hb7 ⊢
 have U7:=S1.trans (S2.trans (S3.trans (S4.trans (S5.trans (S6.trans S7)))))
 walk_at "s"
 refine ⟨n,b7,nb sz,rfl,hb7,by rw [JL];omega,fun x hx=>Uk hx,fun dr ds H8 ndr S8 hdr hD=>?_⟩
 walk_at "s"
 have dl:ds.length=2+2*sz+9:=by rw [hD.1,JL]
 have U8:=U7.trans S8
 obtain ⟨z0,ez0,lz0⟩:=hD.get (i:=0) (b:=4) rfl
 obtain ⟨z1,ez1,lz1⟩:=hD.get (i:=1) (b:=4) rfl
 have at0:(ds.map V.int)[0]?=some (.int (z0:Int)):=by
  rw [Ze,YL (by omega)]
  rw [Y0,YL (by omega)] at ez0
  exact congrArg (fun x=>some (V.int x)) ez0
 have at1:(ds.map V.int)[1]?=some (.int (z1:Int)):=by
  rw [Ze,YL (by omega)]
  rw [Y0,YL (by omega)] at ez1
  exact congrArg (fun x=>some (V.int x)) ez1
 refine bW (SqL.of hdr) (bw (j:=0) at0) ?_
 walk_at "s"
 refine fQ (fun h=>?_) (fun h=>?_)
 ·clear h
  walk_at "s"
  refine fQ (fun h=>?_) (fun h=>?_)
  ·clear h
   walk_at "s"
   refine ⟨n / 4,rfl,fun qq ys H9 L nq S9 hq hL gL lL=>?_⟩
   walk_at "s"
   exact q qq ys H9 L (Same.back U8 nq) (U8.trans S9) hq hL gL (.inl lL)
  ·clear h
   walk_at "s"
   refine ⟨n+307,rfl,fun qq ys H9 L nq S9 hq hL gL lL=>?_⟩
   walk_at "s"
   exact q qq ys H9 L (Same.back U8 nq) (U8.trans S9) hq hL gL (.inl lL)
 clear h
 walk_at "s"
 intro d nd
 have nd0:=Same.back U8 nd
 have S9:=(Same.refl H8).upd nd (o:=.dT [])
 have hd9:=ao (H:=H8) (a:=d) (o:=.dT [])
 generalize upd H8 d (.dT [])=H9 at S9 hd9 ⊢
 have U9:=U8.trans S9
 have hdr9:=S9 _ _ hdr
 have drd:dr≠d:=gNe nd hdr
 walk_at "s"
 refine ⟨_,rfl,by omega,by omega,?_⟩
 rw [show ((sz:Int)).toNat=sz by omega]
 refine jg (n:=sz) (fun k U G=>Same H G/\G dr=some (.lst (ds.map V.int))/\(∃ M,G d=some (.dT (dZ (zM M)))/\Cst M/\M.length<=k)/\∃ x6 x7 x8,U=[some (.int n),some (.ref a),some (.int (sz:Int)),some (.ref dr),none,some (.ref d),x6,x7,x8,none,none]) ⟨U9,hdr9,⟨[],hd9,Cst.nil,YW _⟩,_,_,_,rfl⟩ ?_ ?_
 ·rintro k U G hk ⟨s,hdrG,⟨M,hdG,hM,hMl⟩,x6,x7,x8,rfl⟩
  rw [AbD]
  obtain ⟨w0,ew0,lw0⟩:=hD.get ((XF hk (j:=0) (by omega)).trans rfl)
  obtain ⟨w1,ew1,lw1⟩:=hD.get ((XF hk (j:=1) (by omega)).trans rfl)
  have hcut:=Ar (ds:=ds) (a:=2+2*k) (n:=2) (by omega)
  rw [show (List.range 2).map (fun j=>V.int (ds.getD (2+2*k+j) 0))=[.int (w0:Int),.int (w1:Int)] from by
   rw [show List.range 2=[0,1] from rfl]
   simp only [ZJ,Abl]
   rw [ew0,ew1]] at hcut
  have hkA:k < A'.length:=by omega
  obtain ⟨v,hv,b,rfl,hb⟩:=(hA.same s).of (YL hkA)
  have ok:=gA.ok _ (Aaa hkA)
  generalize A'[k]=p at hb ok
  walk_at "s"
  refine mD hdrG fun sl G2 nsl s2 hsl=>?_
  walk_at "s"
  rw [show (2:Int)+2*(k:Int)=((2+2*k:Nat):Int) by omega,show (4:Int)+2*(k:Int)=((2+2*k+2:Nat):Int) by omega,hcut] at hsl
  refine tG (SqL.of hsl) rfl ?_
  replace hb:=s2 _ _ hb
  replace hb:G2 b=some (.tup [.int (p.1:Int),.int (p.2.1:Int),.int (p.2.2:Int)]):=hb
  have ha2:=s2 _ _ (s _ _ ha)
  walk_at "s"
  refine fQ (fun h=>?_) (fun h=>?_)
  ·clear h
   walk_at "s"
   refine bW (SqL.of ha2) (bw hv) ?_
   walk_at "s"
   refine cY hb fun t G3 s3 ht=>?_
   walk_at "s"
   have s23:=s2.trans s3
   obtain ⟨M',eM,hM',lM'⟩:=hM.putM (c:=(w1:Int)) (s:=p.2) (Xx (by omega) ok)
   refine gG (k:=kp p.2) (s23 _ _ hdG) ht (by rw [nO];omega) ?_
   rw [eM]
   exact ⟨Same.put (s.trans s23) nd0,by rw [aC drd];exact s23 _ _ hdrG,⟨M',ao,hM',by omega⟩,_,_,_,rfl⟩
  ·clear h
   walk_at "s"
   refine fQ (fun h=>?_) (fun h=>?_)
   ·clear h
    walk_at "s"
    refine bW (SqL.of ha2) (bw hv) ?_
    walk_at "s"
    refine bW (SqL.of ha2) (bw hv) ?_
    walk_at "s"
    refine cY hb fun t G3 s3 ht=>?_
    walk_at "s"
    have s23:=s2.trans s3
    obtain ⟨M',eM,hM',lM'⟩:=hM.putM (c:=p.1) (s:=p.2) ok
    refine gG (k:=kp p.2) (s23 _ _ hdG) ht (by rw [nO];omega) ?_
    rw [eM]
    exact ⟨Same.put (s.trans s23) nd0,by rw [aC drd];exact s23 _ _ hdrG,⟨M',ao,hM',by omega⟩,_,_,_,rfl⟩
   ·walk_at "s"
    exact ⟨s.trans s2,s2 _ _ hdrG,⟨M,s2 _ _ hdG,hM,by omega⟩,_,_,_,rfl⟩
 rintro U HA ⟨SA,hdrA,⟨M0,hdA,hM0,hMl0⟩,x6,x7,x8,rfl⟩
 walk_at "s"
 refine bW (SqL.of hdrA) (bw (j:=1) at1) ?_
 walk_at "s"
 refine ⟨_,rfl,by omega,by omega,?_⟩
 rw [show ((z1:Int)).toNat=z1 by omega]
 refine jg (n:=z1) (fun k U G=>Same H G/\G dr=some (.lst (ds.map V.int))/\(∃ M,G d=some (.dT (dZ (zM M)))/\Cst M/\M.length<=sz+k)/\∃ x6 x8 x9 x10,U=[some (.int n),some (.ref a),some (.int (sz:Int)),some (.ref dr),none,some (.ref d),x6,x7,x8,x9,x10]) ⟨SA,hdrA,⟨M0,hdA,hM0,hMl0⟩,_,_,_,_,rfl⟩ ?_ ?_
 ·rintro k U G hk ⟨s,hdrG,⟨M,hdG,hM,hMl⟩,x6,x8,x9,x10,rfl⟩
  rw [AbD]
  have hk3:k < 3:=by omega
  obtain ⟨w0,ew0,lw0⟩:=hD.get ((Uj hk3 (j:=0) (by omega)).trans rfl)
  obtain ⟨w1,ew1,lw1⟩:=hD.get ((Uj hk3 (j:=1) (by omega)).trans rfl)
  obtain ⟨w2,ew2,lw2⟩:=hD.get ((Uj hk3 (j:=2) (by omega)).trans rfl)
  have hcut:=Ar (ds:=ds) (a:=2+2*sz+3*k) (n:=3) (by omega)
  rw [show (List.range 3).map (fun j=>V.int (ds.getD (2+2*sz+3*k+j) 0))=[.int (w0:Int),.int (w1:Int),.int (w2:Int)] from by
   rw [show List.range 3=[0,1,2] from rfl]
   simp only [ZJ,Abl]
   rw [ew0,ew1,ew2]] at hcut
  walk_at "s"
  refine mD hdrG fun sl G2 nsl s2 hsl=>?_
  walk_at "s"
  rw [show (2:Int)+2*(sz:Int)+3*(k:Int)=((2+2*sz+3*k:Nat):Int) by omega,show (5:Int)+2*(sz:Int)+3*(k:Int)=((2+2*sz+3*k+3:Nat):Int) by omega,hcut] at hsl
  refine tG (SqL.of hsl) rfl ?_
  walk_at "s"
  obtain ⟨e,ee,he1,he2⟩:∃ e:Nat,(w0:Int)+1+(w1:Int) % (24 - (w0:Int))=(e:Int)/\w0 < e/\e<=24:=by
   have a1:=AaO (w1:Int) (show (24 - (w0:Int))≠0 by omega)
   have a2:=Aaq (w1:Int) (show 0 < (24 - (w0:Int)) by omega)
   exact ⟨((w0:Int)+1+(w1:Int) % (24 - (w0:Int))).toNat,by omega,by omega,by omega⟩
  rw [ee]
  refine aF rfl fun t G3 nt s3 ht=>?_
  walk_at "s"
  have s23:=s2.trans s3
  obtain ⟨M',eM,hM',lM'⟩:=hM.putM (c:=(w2:Int)) (s:=((w0:Int),(e:Int))) (PK (by omega) he1 he2)
  refine gG (k:=kp ((w0:Int),(e:Int))) (s23 _ _ hdG) ht (by rw [nO];omega) ?_
  rw [eM]
  exact ⟨Same.put (s.trans s23) nd0,by rw [aC drd];exact s23 _ _ hdrG,⟨M',ao,hM',by omega⟩,_,_,_,_,rfl⟩
 rintro U HB ⟨SB,_,⟨M,hdB,hM,hMl⟩,x6',x8',x9,x10,rfl⟩
 walk_at "s"
 refine ⟨d,_,rfl,hdB,fun ob=>?_⟩
 have SC:=Same.put (o:=.frz ob (.dT (dZ (zM M)))) SB nd0
 have hdC:=ao (H:=HB) (a:=d) (o:=.frz ob (.dT (dZ (zM M))))
 generalize upd HB d (.frz ob (.dT (dZ (zM M))))=HC at SC hdC ⊢
 refine xN (fun i ys G=>Same H G/\G d=some (.frz ob (.dT (dZ (zM M))))/\R3 G ys (M.take i)) (by rw [nO];omega) ⟨SC,hdC,R3.nil⟩ ?_ ?_ ?_ ?_
 ·rintro i ys G ⟨_,_,h⟩
  rw [h.1,Zb];omega
 ·rintro i ys G ⟨_,h,_⟩
  exact h
 ·rintro i ys G k v b hk hb ⟨s,hdG,hY⟩
  obtain ⟨p,hp,rfl⟩:=PL hk
  have hb':G b=some (.tup [.int (p.2.1:Int),.int (p.2.2:Int)]):=hb
  walk_at "s"
  refine ⟨KeepSt.set rfl,?_⟩
  walk_at "s"
  refine ⟨d,.int (p.1:Int),rfl,.inr ⟨_,kp p.2,b,.inr ⟨ob,hdG⟩,rfl,hb,(JC hM hp).symm⟩,?_⟩
  walk_at "s"
  refine aF rfl fun t2 G3 nt2 s3 ht2=>?_
  walk_at "s"
  refine ⟨s.trans s3,s3 _ _ hdG,?_⟩
  rw [Z0,hp]
  exact (hY.same s3).push ⟨t2,rfl,ht2⟩
 rintro ys G D HD ⟨sD,_,hY⟩ nD sD' hD'
 rw [nO,ZC] at hY
 try walk_at "s"
 refine oH hD' (hY.same sD') (by omega) fun qq zs HE L nq SE hq hL pL pwL=>?_
 try walk_at "s"
 exact q qq zs HE L (Same.back (sD.trans sD') nq) (sD.trans (sD'.trans SE)) hq hL (hM.good (by omega) pL pwL) (.inr (by rw [pL.length_eq];omega))
end
local macro_rules | `(tactic| walk_at "s") => `(tactic| (with_reducible repeat (first | refine wA ?_ | walk_at "1")))
local macro_rules | `(tactic| walk_at "n") => `(tactic| (with_reducible repeat (walk_at "1")))
section
variable {P:Program} {w:World} {K:W.Frag} {mg:Str->Option Value} {base:Heap}
theorem kz4d:cB cO "range":=by trivial
theorem kz4e:cB cO "len":=by trivial
theorem JM:bF cO "_law_rows":=by trivial
theorem JN:bF cO "_law_k":=by trivial
theorem Ul:bF cO "_law_spans":=by trivial
theorem N7:bF cO "_law_end":=by trivial
theorem N8:bF cO "_law_begin":=by trivial
theorem XH:bF cO "_law_price":=by trivial
theorem kz4l:cB cO "_law_tuples":=by trivial
theorem JP {L:List P3} {k i:Nat} (h:i < k):Fp (L.take k) i=Fp L i:=by
 unfold Fp
 rw [Y0,Y0,ZD h]
theorem Oa {L:List P3} {f:Nat->V} {k:Nat} (h:k<=L.length):rZ L f k=rZ (L.take k) f (L.take k).length:=by
 unfold rZ
 rw [Zb,Nat.min_eq_left h]
 congr 1
 unfold vo
 refine Aab fun i hi=>?_
 rw [JP (AaE.mp hi)]
theorem Fb {L:List P3} {k:Nat} {p:P3} (g:Good (L.take k)) (hp:L[k]?=some p) (ho:yU p) (hn:∀ q∈L.take k,q.2≠p.2) (hs:∀ (j:Nat) (q:P3),k=j+1->L[j]?=some q->HT.lexLt (i3 q) (i3 p)=true) (hl:L.length<=1000):Good (L.take (k+1)):=by
 have hk:=(YS.mp hp).1
 have e:L.take (k+1)=L.take k ++ [p]:=by rw [Z0,hp];rfl
 refine ⟨fun x hx=>?_,?_,fun i x y e1 e2=>?_,by rw [Zb];omega⟩
 ·rw [e] at hx
  rcases Y8.mp hx with h | h
  ·exact g.ok x h
  ·rw [ZK.mp h];exact ho
 ·rw [e,Zw]
  refine xf g.nd fun h=>?_
  obtain ⟨q,hq,eq⟩:=Zd.mp h
  exact hn q hq eq
 ·have hi:=(YS.mp e2).1
  rw [Zb] at hi
  by_cases hik:i+1 < k
  ·rw [ZD (by omega)] at e1 e2
   exact g.so i x y (by rw [ZD (by omega)];exact e1) (by rw [ZD hik];exact e2)
  ·have hik2:k=i+1:=by omega
   rw [ZD (by omega)] at e1 e2
   rw [← hik2,hp] at e2
   cases e2
   exact hs i x hik2 e1
def PN (_:Nat):V:=.bl true
def Um (K:W.Frag):Sp:=fun vs H Q _=>∃ (v:V) (r:RR),vs=[v]/\SL K H v r/\(GoodR r->∀ H',Same H H'->Q (.bl true) H')/\(¬ GoodR r->∀ H',Same H H'->Q (.bl false) H')
theorem gw:aP ["_law_rows","_law_spans","_law_k","_law_price","_law_begin","_law_end"] ["_law_rows"] (aB cO):=⟨rfl,rfl,rfl,by trivial,rfl,by trivial,by trivial⟩
theorem il (T:Txt K mg):mU P w K mg base 2 "_law_good" ["_law_rows"] (Um K):=by
 have cC:=cC (P:=P) (w:=w) (base:=base) T
 refine gf T.d_law_good gw (fun _ _ _ _ _ _ us hl=>L2.sH (fun _=>rfl) us hl) ?_ fun f cdv A outer s H vs Q E hr h=>?_
 ·rintro vs H Q E ⟨v,r,rfl,_⟩;rfl
 obtain ⟨v,r,rfl,hv,q1,q2⟩:=h
 have hu:=hr.units0
 have hu64:=hr.units
 refine ⟨_,(au (bf (dD (dJ (aK cC (hr.mono (by decide)) (bC kz4l) (aa (aj 0 JM) (aa aq ak)) (by trivial)))) (aA (aD iR)) aQ) (au (aR (i:=1) gw.nd rfl (Or.inl Ul) my rfl) (au (fu ZS rfl (gU (bC kz4d) T.b_range (aa (aL (cH (K:=K) rfl) (bC kz4e) T.b_len fV (aa (aj 0 JM) ak) (by trivial) (by trivial)) ak)) (aO (i:=2) gw.nd rfl (Or.inl JN) rfl) (au (jH (aX (K:=K) rfl (aj 0 JM) (aj 2 JN)) (jG (K:=K) rfl rfl (aU (aO (i:=3) gw.nd rfl (Or.inl XH) rfl) (aU (aO (i:=4) gw.nd rfl (Or.inl N8) rfl) (aU (aO (i:=5) gw.nd rfl (Or.inl N7) rfl) gF))))) (au (bf (jm (lN (dD (Hs (uO (K:=K) rfl hu64) (uO (K:=K) rfl hu64) aq (aj 3 XH) aq)) (lN (dD (En (uO (K:=K) rfl hu64) (mF (K:=K) rfl hu64) (uO (K:=K) rfl hu64) aq (aj 4 N8) (aj 5 N7) aq)) (iT (aM (HY (K:=K) rfl hu64) (bR (aa (aj 4 N8) (aa (aj 5 N7) ak))) (aj 1 Ul) (by walk_at "p")))))) (aA (aD iR)) aQ) (au (bf (jm (zU (aM ue (aj 2 JN) aq (by walk_at "p")) (xr (aM (uO (K:=K) rfl hu64) (aX (K:=K) rfl (aj 0 JM) (aj 2 JN)) (aX (K:=K) rfl (aj 0 JM) (aZ pK (aj 2 JN) aq)) (by walk_at "p"))))) (aA (aD iR)) aQ) (aA (cR (ts:=fU) iR (dY (aj 1 Ul) (bR (aa (aj 4 N8) (aa (aj 5 N7) ak))) (cT hu64)))))))) (aA (aD iR))))),?_⟩
 walk_at "s"
 have hs:20000<=sizeLine:=by decide
 refine ⟨v,r,3,rfl,hv,by omega,fun H1 S1=>?_⟩
 walk_at "s"
 cases ha:vp 3 r with
 | false=>
  walk_at "s"
  refine q2 (fun qq0=>?_) H1 S1
  obtain ⟨L,e,_⟩:=qq0
  subst e
  replace ha:(L.map o3).all (oM 3)=false:=ha
  rw [YJ,u5 (qQ _)] at ha
  cases ha
 | true=>
  cases r with
  | none=>cases ha
  | some rs=>
  obtain ⟨L,rfl⟩:=Ju (rs:=rs) ha
  clear ha
  rw [jh] at q1 q2
  obtain ⟨a,us,rfl,haa,hR,hl⟩:=hv.r3
  have hul:=hR.1
  show if false=true then _ else _
  walk_at "s"
  intro d nd
  have nd0:=Same.back S1 nd
  have S2:=S1.upd nd (o:=.dT [])
  have hd:=ao (H:=H1) (a:=d) (o:=.dT [])
  generalize upd H1 d (.dT [])=H2 at S2 hd ⊢
  walk_at "s"
  refine kh (SqL.of (S2 _ _ haa)) ?_
  walk_at "s"
  rw [hul]
  refine ⟨_,rfl,by omega,by omega,?_⟩
  rw [show ((L.length:Int)).toNat=L.length by omega]
  refine jg (n:=L.length) (fun k U G=>Same H G/\G d=some (.dT (dZ (rZ L PN k)))/\Good (L.take k)/\∃ x2 x3 x4 x5,U=[some (.ref a),some (.ref d),x2,x3,x4,x5]) ⟨S2,hd,by rw [Abf];exact ⟨(fun p hp=>nomatch hp),List.nodup_nil,(fun i p q e=>by simp at e),by simp⟩,_,_,_,_,rfl⟩ ?_ ?_
  ·rintro k U G hk ⟨s,hdG,gk,x2,x3,x4,x5,rfl⟩
   rw [AbD]
   have hp:=YL hk
   obtain ⟨v,hv1,b,rfl,hb⟩:=(hR.same s).of hp
   generalize L[k]=p at hp hb
   have hb0:=hb
   replace hb:G b=some (.tup [.int p.1,.int p.2.1,.int p.2.2]):=hb
   have bad:¬ yU p->¬ Good L:=fun h g=>h (g.ok p (Zr hp))
   walk_at "s"
   refine bW (SqL.of (s _ _ haa)) (bw hv1) ?_
   walk_at "s"
   refine ⟨b,_,rfl,.inl (SqT.of hb),rfl,?_⟩
   walk_at "s"
   by_cases c1:(0:Int)<=p.1
   rotate_left
   ·rw [Y5 c1]
    walk_at "s"
    exact q2 (bad fun z=>c1 z.1) _ s
   rw [YZ c1]
   walk_at "s"
   by_cases c2:p.1<=(48:Int)
   rotate_left
   ·rw [Y5 c2]
    walk_at "s"
    exact q2 (bad fun z=>c2 z.2.1) _ s
   rw [YZ c2]
   walk_at "s"
   by_cases c3':(0:Int)<=p.2.1
   rotate_left
   ·rw [Y5 c3']
    walk_at "s"
    exact q2 (bad fun z=>c3' z.2.2.1) _ s
   rw [YZ c3']
   walk_at "s"
   by_cases c4:p.2.1 < p.2.2
   rotate_left
   ·rw [Y5 c4]
    walk_at "s"
    exact q2 (bad fun z=>c4 z.2.2.2.1) _ s
   rw [YZ c4]
   walk_at "s"
   by_cases c5:p.2.2<=(24:Int)
   rotate_left
   ·rw [Y5 c5]
    walk_at "s"
    exact q2 (bad fun z=>c5 z.2.2.2.2) _ s
   rw [YZ c5]
   walk_at "s"
   refine aF rfl fun t G2 nt s2 ht=>?_
   walk_at "s"
   refine .inr ⟨d,_,rfl,DGet.t (k:=kp p.2) (s2 _ _ hdG) ht,?_⟩
   walk_at "s"
   have sG:=s.trans s2
   rw [gJ,Oa (Nat.le_of_lt hk),Ck]
   cases e:uR (L.take k) p.2 with
   | some j=>
    show if true=true then _ else _
    walk_at "s"
    refine q2 (fun g=>?_) _ sG
    obtain ⟨q,hq,eq⟩:=iQ e
    have hj:=(YS.mp hq).1
    rw [Zb] at hj
    rw [ZD (by omega)] at hq
    have:=oG g.nd (i:=j) (j:=k) (by omega) hk (by rw [eZ hq,eZ hp,eq])
    omega
   | none=>
    show if false=true then _ else _
    walk_at "s"
    have hno:=nF e
    have fin:∀ G3,Same G2 G3->(∀ (j:Nat) (q:P3),k=j+1->L[j]?=some q->HT.lexLt (i3 q) (i3 p)=true)->∀ t2 G4,Same G3 G4->G4 t2=some (.tup ((kp p.2).map kV))->Same H (upd G4 d (.dT (dZ (rZ L PN (k+1)))))/\upd G4 d (.dT (dZ (rZ L PN (k+1)))) d=some (.dT (dZ (rZ L PN (k+1))))/\Good (L.take (k+1)):=fun G3 s3 hso t2 G4 s4 _=>⟨Same.put (sG.trans (s3.trans s4)) nd0,ao,Fb gk hp ⟨c1,c2,c3',c4,c5⟩ hno hso hl⟩
    by_cases hk0:k=0
    ·rw [Y5 (show ¬ (0:Int) < (k:Int) by omega)]
     walk_at "s"
     refine aF rfl fun t2 G4 nt2 s4 ht2=>?_
     walk_at "s"
     refine gG (k:=kp p.2) (s4 _ _ (s2 _ _ hdG)) ht2 (by have:=xV L PN k;rw [fX];omega) ?_
     rw [mH,← eZ hp,show V.bl true=PN k from rfl,← xU]
     obtain ⟨z1,z2,z3⟩:=fin G2 (Same.refl _) (fun j q e=>by omega) t2 G4 s4 ht2
     exact ⟨z1,z2,z3,_,_,_,_,rfl⟩
    ·rw [YZ (show (0:Int) < (k:Int) by omega)]
     walk_at "s"
     obtain ⟨j,rfl⟩:∃ j,k=j+1:=⟨k - 1,by omega⟩
     have hpj:=YL (show j < L.length by omega)
     obtain ⟨v,hvj,bj,rfl,hbj⟩:=(hR.same sG).of hpj
     generalize L[j]=pj at hpj hbj
     refine bW (SqL.of (sG _ _ haa)) (bw hv1) ?_
     walk_at "s"
     refine bW (SqL.of (sG _ _ haa)) (show zq us (((j+1:Nat):Int) - 1)=some (.ref bj) from by rw [show ((j+1:Nat):Int) - 1=(j:Int) by omega];exact bw hvj) ?_
     walk_at "s"
     refine Su (ns:=i3 p) (ms:=i3 pj) (s2 _ _ hb0) hbj ?_
     walk_at "s"
     cases hlx:HT.lexLt (i3 pj) (i3 p) with
     | false=>
      show if true=true then _ else _
      walk_at "s"
      refine q2 (fun g=>?_) _ sG
      have:=g.so j pj p hpj hp
      rw [hlx] at this;cases this
     | true=>
      show if false=true then _ else _
      walk_at "s"
      refine aF rfl fun t2 G4 nt2 s4 ht2=>?_
      walk_at "s"
      refine gG (k:=kp p.2) (s4 _ _ (s2 _ _ hdG)) ht2 (by have:=xV L PN (j+1);rw [fX];omega) ?_
      rw [mH,← eZ hp,show V.bl true=PN (j+1) from rfl,← xU]
      obtain ⟨z1,z2,z3⟩:=fin G2 (Same.refl _) (fun j' q e e1=>by
       cases e
       rw [hpj] at e1;cases e1
       exact hlx) t2 G4 s4 ht2
      exact ⟨z1,z2,z3,_,_,_,_,rfl⟩
  ·rintro U G ⟨s,hdG,gk,x2,x3,x4,x5,rfl⟩
   walk_at "s"
   rw [ZC] at gk
   exact q1 gk _ s
end
local macro_rules | `(tactic| walk_at "s") => `(tactic| (with_reducible repeat (first | refine wA ?_ | walk_at "0")))
local macro_rules | `(tactic| walk_at "n") => `(tactic| (with_reducible repeat (walk_at "0")))
section
variable {P:Program} {w:World} {K:W.Frag} {mg:Str->Option Value} {base:Heap}
theorem p6:(["_law_span","_law_costs"]:List Str).Nodup:=by trivial
theorem kz4m:cB bu "_law_news":=by trivial
theorem Ob:bF bu "_law_found":=by trivial
theorem XJ:bF bu "_law_ahead":=by trivial
theorem JQ:bF bu "_law_news_here":=by trivial
theorem kz4q:cB bu "_law_good":=by trivial
theorem kz4r:cB bu "sorted":=by trivial
theorem Fd:Sv bu "_law_costs":=by trivial
theorem vd:bF bu "_law_row":=by trivial
theorem kz4u:cB bu "_law_news_kind":=by trivial
def oN (q:P3):P3:=(-1,q.2)
theorem JR {A B B' W C L:List P3} {M:List (List Int)} (gA:Good A) (gB:Good B) (h:IsN (some (some (C.map o3),some (L.map o3),some (M.map oT))) A B) (pe:B'.Perm (W.filter fun p=>!decide (p.1= -1))) (pw:B'.Pairwise Nf) (nW:(W.map (·.2)).Nodup) (mW:∀ p,p∈W↔lstP (A ++ L.map oN ++ M.map mP ++ C) p.2=some (.int p.1)):B'=B:=by
 obtain ⟨rfl,rfl,rfl⟩:=mK.mp h
 refine Jl pw gB.pw (pe.trans (tW ((List.Sublist.map _ List.filter_sublist).nodup nW) gB.nd fun p=>?_))
 rw [List.mem_filter,mW,← Ti gA.nd gB.nd (fun b hb z=>by have:=(gB.ok b hb).1;omega) p]
 simp only [Bool.not_eq_eq_eq_not,Bool.not_true,decide_eq_false_iff_not]
 exact Iff.rfl
def JV (K:W.Frag):Sp:=fun vs H Q _=>∃ (a:Addr) (us:List V) (A:List P3) (v:V) (x:Option (RR×RR×RR)),vs=[.ref a,v]/\H a=some (.lst us)/\R3 H us A/\Good A/\A.length<=300/\NT K H v x/\Tu x<=300/\((¬ ∃ B,Good B/\IsN x A B)->∀ H',Same H H'->Q .non H')/\
 (∀ B,Good B->IsN x A B->∀ q ys H',H q=none->Same H H'->H' q=some (.lst ys)->R3 H' ys B->B.length<=600->Q (.ref q) H')
theorem cJ:aP ["_law_ahead","_law_news_here","_law_costs","_law_row","_law_found"] ["_law_ahead","_law_news_here"] (aB bu):=⟨rfl,rfl,rfl,by trivial,rfl,by trivial,by trivial⟩
theorem iY (T:Txt K mg):mU P w K mg base 3 "_law_following" ["_law_ahead","_law_news_here"] (JV K):=by
 have iW:=iW (P:=P) (w:=w) (base:=base) T
 have il:=il (P:=P) (w:=w) (base:=base) T
 have ig:=ig (P:=P) (w:=w) (base:=base) T
 refine gf T.d_law_following cJ (fun _ _ _ _ _ _ us hl=>L2.mV (fun _ _=>rfl) us hl) ?_ fun f cdv A outer s H vs Q E hr h=>?_
 ·rintro vs H Q E ⟨a,us,A',v,x,rfl,_⟩;rfl
 obtain ⟨a,us,A',v,x,rfl,ha,hA,gA,lA,hv,hsz,q1,q2⟩:=h
 have hu:=hr.units0
 have hu64:=hr.units
 refine ⟨_,(au (bf (dD (dJ (aK iW (hr.mono (by decide)) (bC kz4u) (aa (aj 1 JQ) ak) (by trivial)))) (aA (aD mR)) aQ) (au (aR (i:=2) cJ.nd rfl (Or.inr Fd) my rfl) (au (fu ZS rfl (fW (K:=K) rfl (aj 0 XJ)) (aO (i:=3) cJ.nd rfl (Or.inl vd) rfl) (aA (cR (ts:=fU) (aX (K:=K) rfl (aj 3 vd) aq) (dY (lK 2 Fd) (bz (bA (K:=K) rfl) (aj 3 vd) (bh aq) bH) (cT hu64))))) (au (fu ZS rfl (fW (K:=K) rfl (aX (K:=K) rfl (aj 1 JQ) aq)) (aO (i:=3) cJ.nd rfl (Or.inl vd) rfl) (aA (cR (ts:=fU) (Hm ud aq) (dY (lK 2 Fd) (bz (bA (K:=K) rfl) (aj 3 vd) (bh aq) bH) (cT hu64))))) (au (fu ZS rfl (fW (K:=K) rfl (aX (K:=K) rfl (aj 1 JQ) aq)) (aO (i:=3) cJ.nd rfl (Or.inl vd) rfl) (aA (cR (ts:=fU) (aX (K:=K) rfl (aj 3 vd) aq) (dY (lK 2 Fd) (bz (bA (K:=K) rfl) (aj 3 vd) bH (bh aq)) (cT hu64))))) (au (fu ZS rfl (fW (K:=K) rfl (aX (K:=K) rfl (aj 1 JQ) aq)) (aO (i:=3) cJ.nd rfl (Or.inl vd) rfl) (aA (cR (ts:=fU) (aX (K:=K) rfl (aj 3 vd) aq) (dY (lK 2 Fd) (bz (bA (K:=K) rfl) (aj 3 vd) (bh aq) bH) (cT hu64))))) (au (aR (i:=4) cJ.nd rfl (Or.inl Ob) (aL d7 (bC kz4r) T.b_sorted gR (aa (kj (sub:=[none,some 2]) (eN (N:=["_law_ahead","_law_news_here","_law_costs","_law_row","_law_found"]) (sc:=aB bu) (N':=["_law_span","_law_costs"]) (by trivial)) rfl rfl rfl (Io (lK 2 Fd)) (fun C s₀ H₀ ex=>(rm 0 (by trivial) p6)) (fun C s₀ H₀ ex=>(tE (aM (m9 (K:=K) rfl hu64) (pU hu64 (o8 1 (by trivial)) (dN 0 (by trivial))) (Hm ud aq) (by walk_at "p")))) (fun C s₀ H₀ ex=>(bR (aa (pU hu64 (o8 1 (by trivial)) (dN 0 (by trivial))) (aa (aX (K:=K) rfl (dN 0 (by trivial)) aq) (aa (aX (K:=K) rfl (dN 0 (by trivial)) aq) ak)))))) ak) (by trivial) (by trivial)) rfl) (au (bf (jm (zU (dJ (aK il (hr.mono (by decide)) (bC kz4q) (aa (aj 4 Ob) ak) (by trivial))) (xr (aM (bU (K:=K) rfl hu64) (aK ig (hr.mono (by decide)) (bC kz4m) (aa (aj 0 XJ) (aa (aj 4 Ob) ak)) (by trivial)) (aj 1 JQ) (by walk_at "p"))))) (aA (aD (aj 4 Ob))) aQ) (aA (aD mR)))))))))),?_⟩
 walk_at "s"
 have hs:20000<=sizeLine:=by decide
 refine ⟨v,x,rfl,hv,fun H1 S1=>?_⟩
 walk_at "s"
 cases hx:nwB x with
 | false=>
  walk_at "s"
  refine q1 (fun qq0=>?_) H1 S1
  obtain ⟨B,_,h⟩:=qq0
  rw [h.nwB] at hx;cases hx
 | true=>
  obtain ⟨n,C,L,M,rfl,rfl,hN⟩:=PJ (hv.same S1) hx
  replace hsz:(C.map o3).length+(L.map o3).length+(M.map oT).length<=300:=hsz
  rw [YQ,YQ,YQ] at hsz
  obtain ⟨⟨c,l,m,cs,ls,ms,h1,h2,h3,h4,h5,h6,h7⟩,h8⟩:=hN
  have hN:NF H1 n C L M:=⟨⟨c,l,m,cs,ls,ms,h1,h2,h3,h4,h5,h6,h7⟩,h8⟩
  show if false=true then _ else _
  walk_at "s"
  intro d nd
  have nd0:=Same.back S1 nd
  have S2:=(Same.refl H1).upd nd (o:=.dT [])
  have hd:=ao (H:=H1) (a:=d) (o:=.dT [])
  generalize upd H1 d (.dT [])=H2 at S2 hd ⊢
  have ha1:=S1 _ _ ha
  have hA1:=hA.same S1
  walk_at "s"
  refine .inl ⟨a,rfl,⟨_,SqL.of (S2 _ _ ha1)⟩,?_⟩
  refine gC (xs:=us) (fun k U G=>Same H1 G/\G d=some (.dT (dZ (tZ ([] ++ A'.take k))))/\∃ x3 x4,U=[some (.ref a),some (.ref n),some (.ref d),x3,x4]) ⟨S2,by rw [Abf];exact hd,_,_,rfl⟩ (fun i U G _ h=>SqL.of (h.1 _ _ ha1)) ?_ ?_
  ·rintro k v U G hv ⟨s,hdG,x3,x4,rfl⟩
   obtain ⟨p,hp,b,rfl,hb⟩:=(hA1.same s).at hv
   replace hb:G b=some (.tup [.int p.1,.int p.2.1,.int p.2.2]):=hb
   have hlt:=rK ([] ++ A'.take k)
   rw [Aau,Zb] at hlt
   walk_at "s"
   refine cY hb fun t G2 s2 ht=>?_
   walk_at "s"
   replace ht:G2 t=some (.tup ((kp p.2).map kV)):=ht
   refine gG (s2 _ _ hdG) ht (by rw [fX,Aau];omega) ?_
   rw [mH,oJ hp]
   exact ⟨Same.put (s.trans s2) nd,ao,_,_,rfl⟩
  rintro U H3 ⟨S3,hd3,x3,x4,rfl⟩
  rw [hA.1,ZC,Aau] at hd3
  have h13:=S3 _ _ h1
  walk_at "s"
  refine .inl ⟨l,rfl,⟨_,SqL.of (S3 _ _ h4)⟩,?_⟩
  refine gC (xs:=ls) (fun k U G=>Same H1 G/\G d=some (.dT (dZ (tZ (A' ++ (L.map oN).take k))))/\∃ x3 x4,U=[some (.ref a),some (.ref n),some (.ref d),x3,x4]) ⟨S3,by rw [Abf,Zt];exact hd3,_,_,rfl⟩ (fun i U G _ h=>SqL.of (h.1 _ _ h4)) ?_ ?_
  ·rintro k v U G hv ⟨s,hdG,x3,x4,rfl⟩
   obtain ⟨p,hp,b,rfl,hb⟩:=(h5.same s).at hv
   replace hb:G b=some (.tup [.int p.1,.int p.2.1,.int p.2.2]):=hb
   have hlt:=rK (A' ++ (L.map oN).take k)
   rw [YX,Zb,YQ] at hlt
   have hp':(L.map oN)[k]?=some (oN p):=by rw [Ze,hp];rfl
   walk_at "s"
   refine cY hb fun t G2 s2 ht=>?_
   walk_at "s"
   replace ht:G2 t=some (.tup ((kp p.2).map kV)):=ht
   refine gG (s2 _ _ hdG) ht (by rw [fX];omega) ?_
   rw [mH]
   exact ⟨Same.put (s.trans s2) nd,by rw [← oJ hp'];exact ao,_,_,rfl⟩
  rintro U H4 ⟨S4,hd4,x3,x4,rfl⟩
  rw [h5.1,ZV (by rw [YQ];omega)] at hd4
  have h14:=S4 _ _ h1
  walk_at "s"
  refine .inl ⟨m,rfl,⟨_,SqL.of (S4 _ _ h6)⟩,?_⟩
  refine gC (xs:=ms) (fun k U G=>Same H1 G/\G d=some (.dT (dZ (tZ (A' ++ L.map oN ++ (M.map mP).take k))))/\∃ x3 x4,U=[some (.ref a),some (.ref n),some (.ref d),x3,x4]) ⟨S4,by rw [Abf,Zt];exact hd4,_,_,rfl⟩ (fun i U G _ h=>SqL.of (h.1 _ _ h6)) ?_ ?_
  ·rintro k v U G hv ⟨s,hdG,x3,x4,rfl⟩
   obtain ⟨t',ht',b,rfl,hb⟩:=(h7.same s).at hv
   have hlen:=h8 t' (Zr ht')
   have ht2':(M.map mP)[k]?=some (mP t'):=by rw [Ze,ht'];rfl
   have hlt:=rK (A' ++ L.map oN ++ (M.map mP).take k)
   rw [YX (as:=A' ++ L.map oN),YX,Zb,YQ,YQ] at hlt
   match t',hlen with
   | [t0,t1,t2,t3,t4,t5],_=>
    replace hb:G b=some (.tup [.int t0,.int t1,.int t2,.int t3,.int t4,.int t5]):=hb
    walk_at "s"
    refine cY hb fun tt G2 s2 ht=>?_
    walk_at "s"
    replace ht:G2 tt=some (.tup ((kp (t0,t1)).map kV)):=ht
    refine gG (k:=kp (t0,t1)) (s2 _ _ hdG) ht (by rw [fX];omega) ?_
    rw [mH]
    exact ⟨Same.put (s.trans s2) nd,by rw [← oJ ht2'];exact ao,_,_,rfl⟩
  rintro U H5 ⟨S5,hd5,x3,x4,rfl⟩
  rw [h7.1,ZV (by rw [YQ];omega)] at hd5
  have h15:=S5 _ _ h1
  walk_at "s"
  refine .inl ⟨c,rfl,⟨_,SqL.of (S5 _ _ h2)⟩,?_⟩
  refine gC (xs:=cs) (fun k U G=>Same H1 G/\G d=some (.dT (dZ (tZ (A' ++ L.map oN ++ M.map mP ++ C.take k))))/\∃ x3 x4,U=[some (.ref a),some (.ref n),some (.ref d),x3,x4]) ⟨S5,by rw [Abf,Zt];exact hd5,_,_,rfl⟩ (fun i U G _ h=>SqL.of (h.1 _ _ h2)) ?_ ?_
  ·rintro k v U G hv ⟨s,hdG,x3,x4,rfl⟩
   obtain ⟨p,hp,b,rfl,hb⟩:=(h3.same s).at hv
   replace hb:G b=some (.tup [.int p.1,.int p.2.1,.int p.2.2]):=hb
   have hlt:=rK (A' ++ L.map oN ++ M.map mP ++ C.take k)
   rw [YX (as:=A' ++ L.map oN ++ M.map mP),YX (as:=A' ++ L.map oN),YX,Zb,YQ,YQ] at hlt
   walk_at "s"
   refine cY hb fun t G2 s2 ht=>?_
   walk_at "s"
   replace ht:G2 t=some (.tup ((kp p.2).map kV)):=ht
   refine gG (s2 _ _ hdG) ht (by rw [fX];omega) ?_
   rw [mH,oJ hp]
   exact ⟨Same.put (s.trans s2) nd,ao,_,_,rfl⟩
  rintro U H6 ⟨S6,hd6,x3,x4,rfl⟩
  rw [h3.1,ZC] at hd6
  obtain ⟨W,eW,wl,nW,mW⟩:=Am (A' ++ L.map oN ++ M.map mP ++ C)
  rw [show tZ (A' ++ L.map oN ++ M.map mP ++ C)=W.map eP from eW] at hd6
  rw [YX (as:=A' ++ L.map oN ++ M.map mP),YX (as:=A' ++ L.map oN),YX,YQ,YQ] at wl
  walk_at "s"
  refine ⟨d,_,rfl,hd6,fun ob=>?_⟩
  have S7:=Same.put (o:=.frz ob (.dT (dZ (W.map eP)))) S6 nd
  have hd7:=ao (H:=H6) (a:=d) (o:=.frz ob (.dT (dZ (W.map eP))))
  generalize upd H6 d (.frz ob (.dT (dZ (W.map eP))))=H7 at S7 hd7 ⊢
  refine xN (fun i ys G=>Same H1 G/\G d=some (.frz ob (.dT (dZ (W.map eP))))/\R3 G ys ((W.take i).filter fun p=>!decide (p.1= -1))/\ys.length<=i) (by rw [fX,YQ];omega) ⟨S7,hd7,R3.nil,YW _⟩ ?_ ?_ ?_ ?_
  ·rintro i ys G ⟨_,_,_,h⟩
   exact h
  ·rintro i ys G ⟨_,h,_⟩
   exact h
  ·rintro i ys G k v b hk hb ⟨s,hdG,hY,hyl⟩
   obtain ⟨p,hp,rfl⟩:∃ p,W[i]?=some p/\k=kp p.2:=by
    unfold dZ at hk
    rw [ZL,Ze] at hk
    cases e:W[i]? with
    | none=>rw [e] at hk;cases hk
    | some p=>rw [e] at hk;cases hk;exact ⟨p,rfl,rfl⟩
   have hval:mZ (dZ (W.map eP)) (kp p.2)=some (.int p.1):=by
    rw [gJ]
    exact yV (by rw [tU];exact nW) (eP p) (Zd.mpr ⟨p,Zr hp,rfl⟩)
   have hb':G b=some (.tup [.int p.2.1,.int p.2.2]):=hb
   have hnext:(W.take (i+1)).filter (fun p=>!decide (p.1= -1))=(W.take i).filter (fun p=>!decide (p.1= -1)) ++ (if (!decide (p.1= -1))=true then [p] else []):=by
    rw [Z0,hp,List.filter_append]
    congr 1
    show List.filter _ [p]=_
    rw [List.filter_cons];rfl
   walk_at "s"
   refine ⟨KeepSt.set rfl,?_⟩
   walk_at "s"
   refine ⟨d,.int p.1,rfl,.inr ⟨_,kp p.2,b,.inr ⟨ob,hdG⟩,rfl,hb,hval.symm⟩,?_⟩
   walk_at "s"
   rw [nG]
   by_cases hc:p.1= -1
   ·rw [YZ hc] at hnext ⊢
    show if false=true then _ else _
    walk_at "s"
    refine ⟨s,hdG,?_,by omega⟩
    rw [hnext,show (if (!true)=true then [p] else [])=([]:List P3) from rfl,Zt]
    exact hY
   ·rw [Y5 hc] at hnext ⊢
    show if true=true then _ else _
    walk_at "s"
    refine ⟨d,.int p.1,rfl,.inr ⟨_,kp p.2,b,.inr ⟨ob,hdG⟩,rfl,hb,hval.symm⟩,?_⟩
    walk_at "s"
    refine aF rfl fun t2 G3 nt2 s3 ht2=>?_
    walk_at "s"
    refine ⟨s.trans s3,s3 _ _ hdG,?_,by simp;omega⟩
    rw [hnext]
    exact (hY.same s3).push ⟨t2,rfl,ht2⟩
  rintro ys G D H8 ⟨s7,_,hY,hyl⟩ nD s8 hD
  rw [fX,YQ,ZC] at hY
  try walk_at "s"
  have wf:(W.filter fun p=>!decide (p.1= -1)).length<=W.length:=List.length_filter_le _ _
  refine oH hD (hY.same s8) (by omega) fun qq zs H9 B nq S9 hq hB pB pwB=>?_
  have U9:=s7.trans (s8.trans S9)
  have lB:B.length<=600:=by rw [pB.length_eq];omega
  try walk_at "s"
  refine ⟨.ref qq,_,rfl,R3.sl hq hB (by omega),fun g HA SA=>?_,fun g HA SA=>?_⟩
  walk_at "s"
  rotate_left
  ·walk_at "s"
   refine q1 (fun qq0=>?_) HA (S1.trans (U9.trans SA))
   obtain ⟨B2,gB2,h⟩:=qq0
   rw [JR gA gB2 h pB pwB nW mW] at g
   exact g (jh.mpr gB2)
  ·have gB:=jh.mp g
   have UA:=U9.trans SA
   walk_at "s"
   refine ⟨a,qq,us,zs,A',B,rfl,UA _ _ ha1,hA1.same UA,gA,SA _ _ hq,hB.same SA,gB,fun n2 HB nn SB hN2=>?_⟩
   walk_at "s"
   have UB:=UA.trans SB
   refine .inl (.inl (uB hN2.nf.dr (hN.same UB).dr (yd _ _ _) (yd _ _ _) ?_))
   rw [Cu]
   by_cases hq2:gm B A'=C/\gm A' B=L/\mv A' B=M
   ·rw [YZ hq2]
    walk_at "s"
    exact q2 B gB (mK.mpr hq2) qq zs HB (Same.back (S1.trans (s7.trans s8)) nq) (S1.trans UB) ((SA.trans SB) _ _ hq) (hB.same (SA.trans SB)) lB
   ·rw [Y5 hq2]
    walk_at "s"
    refine q1 (fun qq0=>?_) HB (S1.trans UB)
    obtain ⟨B2,gB2,h⟩:=qq0
    have:=JR gA gB2 h pB pwB nW mW
    subst this
    exact hq2 (mK.mp h)
end
local macro_rules | `(tactic| walk_at "s") => `(tactic| (with_reducible repeat (first | refine wA ?_ | walk_at "2")))
local macro_rules | `(tactic| walk_at "n") => `(tactic| (with_reducible repeat (walk_at "2")))
section
variable {P:Program} {w:World} {K:W.Frag} {mg:Str->Option Value} {base:Heap}
theorem XM:cB bB "NoTold":=by trivial
theorem yf:bF bB "e":=by trivial
theorem JX:cB bB "isinstance":=by trivial
theorem XN:cB bB "ValueError":=by trivial
theorem XQ:cB bB "PaneError":=by trivial
theorem kz50:cB bB "NoNear":=by trivial
theorem kz51:bF bB "_law_word":=by trivial
theorem kz52:cB bB "news_of":=by trivial
theorem XR:bF bB "_law_other":=by trivial
theorem XS:bF bB "_law_one":=by trivial
theorem kz55:cB bB "followed":=by trivial
theorem JZ:cB cV "_law_refused":=by trivial
theorem Fe:bF cV "_law_thing":=by trivial
theorem Ff:bF cV "_law_due":=by trivial
theorem kz59:bF cV "_law_news_here":=by trivial
theorem XX:bF cV "_law_good_here":=by trivial
theorem kz5b:cB bM "_law_no_list":=by trivial
theorem kz5c:bF bM "_law_news_here":=by trivial
theorem kz5d:bF bM "_law_good_here":=by trivial
theorem Uo:bF bM "_law_thing":=by trivial
theorem Up:bF bM "_law_due":=by trivial
theorem Uq:bF bM "_law_told":=by trivial
theorem kz5h:cB bM "isinstance":=by trivial
theorem kz5i:cB bM "bool":=by trivial
theorem kz5j:cB bM "is_ranked":=by trivial
theorem kz5k:cB bM "_law_good":=by trivial
theorem Ur:bF cM "_law_found":=by trivial
theorem Us:bF cM "_law_due":=by trivial
theorem kz5n:cB cM "_law_tuples":=by trivial
theorem kz5o:cB cM "followed":=by trivial
theorem Oc:bF cM "_law_thing":=by trivial
theorem Ut:bF cM "_law_ahead":=by trivial
theorem kz5r:cB cM "_law_refused":=by trivial
theorem kz5s:cB cM "_law_following":=by trivial
theorem pJ:bootBuiltins "ValueError"=some (.type "ValueError"):=by first | rfl | kernel_rfl
def fl (v:V):Prop:=dG v=true\/∃ r,v= .ref r
theorem Vb {z:Str} {v:V} (h:fl v):∀ u∈[V.str z,v,V.bl true],dG u=true\/∃ r,u= .ref r:=fun u hu=>by
 simp only [Zg,Aay,or_false] at hu
 rcases hu with rfl | rfl | rfl
 ·exact .inl rfl
 ·exact h
 ·exact .inl rfl
def wd:Bool->Str
 | true=>"news"
 | false=>"led"
def Rfd (K:W.Frag) (H:Hp) (nw:Bool) (v1 v2:V) (z:Str) (v:V):Prop:=
 (z="near"/\v=v1/\∃ r1,SL K H v1 r1/\¬ GoodR r1)\/
 (z="near"/\v=v2/\nw=true/\∃ A r2,SL K H v1 (some (A.map o3))/\Good A/\SL K H v2 r2/\¬ GoodR r2)\/
 (z="told"/\v=v2/\nw=false/\∃ A x,SL K H v1 (some (A.map o3))/\Good A/\A.length<=300/\NT K H v2 x/\Tu x<=300/\¬ ∃ B,Good B/\IsN x A B)
def X4 (K:W.Frag):Sp:=fun vs H Q _=>∃ (nw:Bool) (v1 v2:V) (z:Str) (v:V),vs=[.str (wd nw),v1,v2]/\Rfd K H nw v1 v2 z v/\∀ q H',Same H H'->H' q=some (.lst [.str z,v,.bl true])->Q (.ref q) H'
theorem jC:aP ["_law_word","_law_one","_law_other","e"] ["_law_word","_law_one","_law_other"] (aB bB):=⟨rfl,rfl,rfl,by trivial,rfl,by trivial,by trivial⟩
theorem cz (T:Txt K mg):mU P w K mg base 9 "_law_refused" ["_law_word","_law_one","_law_other"] (X4 K):=by
 have ji:=ji (P:=P) (w:=w) (base:=base) T
 have ie:=ie (P:=P) (w:=w) (base:=base) T
 refine gf T.d_law_refused jC (fun _ _ _ _ _ _ us hl=>L2.zr (fun _ _ _=>rfl) us hl) ?_ fun f cdv A outer s H vs Q E hr h=>?_
 ·rintro vs H Q E ⟨nw,v1,v2,z,v,rfl,_⟩;rfl
 obtain ⟨nw,v1,v2,z,v,rfl,hR,q⟩:=h
 have hu:=hr.units0
 have hu64:=hr.units
 refine ⟨_,(au (RG rfl rfl (fun pins R=>(aA (bf (aM (bU (K:=K) rfl hu64) (aj 0 kz51) jc (by walk_at "p")) (aA (f9 (mj ji (hr.mono (by decide)) (bC kz52) yH (aa (aj 1 XS) (aa (aj 2 XR) ak)) (by trivial)))) (aA (f9 (mj ie (hr.mono (by decide)) (bC kz55) yH (aa (aj 1 XS) (aa (aj 2 XR) ak)) (by trivial))))))) (O7 (K:=K) (i:=3) rfl T.x_NoNear.c (bC kz50) (by trivial) jC.nd rfl yf (fun x=>(aA (aD (cX (aa jc (aa (HQ (K:=K) rfl (aj 3 yf)) (aa (iK (aL (lR (K:=K) rfl) (bC JX) T.b_isinstance aW (aa (aj 3 yf) (aa (HN (bC XQ) T.x_PaneError.at_ (by trivial)) ak)) (by trivial) (by trivial)) (iK (aL (lR (K:=K) rfl) (bC JX) T.b_isinstance aW (aa (aj 3 yf) (aa (qu (bC XN) T.b_ValueError pJ (by trivial) (by trivial)) ak)) (by trivial) (by trivial)) (jE (Hn (aL (lR (K:=K) rfl) (bC JX) T.b_isinstance aW (aa (aj 3 yf) (aa (HN (bC XM) T.x_NoTold.c.at_ (by trivial)) ak)) (by trivial) (by trivial)))))) ak))))))) (O7 (K:=K) (i:=3) rfl T.x_NoTold.c (bC XM) (by trivial) jC.nd rfl yf (fun x=>(aA (aD (cX (aa jc (aa (HQ (K:=K) rfl (aj 3 yf)) (aa (iK (aL (lR (K:=K) rfl) (bC JX) T.b_isinstance aW (aa (aj 3 yf) (aa (HN (bC XQ) T.x_PaneError.at_ (by trivial)) ak)) (by trivial) (by trivial)) (jE (aL (lR (K:=K) rfl) (bC JX) T.b_isinstance aW (aa (aj 3 yf) (aa (qu (bC XN) T.b_ValueError pJ (by trivial) (by trivial)) ak)) (by trivial) (by trivial)))) ak))))))) RD))) (aA (aD (cX (aa jc ak))))),?_⟩
 walk_at "s"
 cases nw with
 | true=>
  walk_at "s"
  rw [YZ (show V.str (wd true)=V.str (Str.ofString "news") from rfl)]
  walk_at "s"
  rcases hR with ⟨rfl,rfl,r1,hv1,hb⟩ | ⟨rfl,rfl,_,A',r2,hv1,gA,hv2,hb⟩ | ⟨_,_,h,_⟩
  ·refine ⟨v,v2,r1,rfl,hv1,fun _ e H1 S1 X1=>⟨_,e,rfl,rfl,?_⟩,fun h=>absurd h hb⟩
   walk_at "s"
   refine BP T.x_NoNear.c.cl.cls T.u_NoNear_NoNear.mro ?_
   walk_at "s"
   refine ⟨e,_,_,v,rfl,X1,T.x_NoNear.c.cl.cls,T.x_NoNear.na _ (by simp),rfl,?_⟩
   walk_at "s"
   refine ju X1 T.x_NoNear.c.cl rfl T.u_NoNear_PaneError.one ?_
   walk_at "s"
   refine ju X1 T.x_NoNear.c.cl rfl T.v_NoNear ?_
   walk_at "s"
   refine ju X1 T.x_NoNear.c.cl rfl T.u_NoNear_NoTold.one ?_
   walk_at "s"
   refine aF rfl fun g G ng sg hg=>?_
   walk_at "s"
   exact q g G (S1.trans sg) hg
  ·refine ⟨v1,v,_,rfl,hv1,fun h=>absurd ⟨A',rfl,gA⟩ h,fun _=>⟨r2,hv2,fun _ e H1 S1 X1=>⟨_,e,rfl,rfl,?_⟩,fun A2 B2 _ _ e2 gB2=>absurd ⟨B2,e2,gB2⟩ hb⟩⟩
   walk_at "s"
   refine BP T.x_NoNear.c.cl.cls T.u_NoNear_NoNear.mro ?_
   walk_at "s"
   refine ⟨e,_,_,v,rfl,X1,T.x_NoNear.c.cl.cls,T.x_NoNear.na _ (by simp),rfl,?_⟩
   walk_at "s"
   refine ju X1 T.x_NoNear.c.cl rfl T.u_NoNear_PaneError.one ?_
   walk_at "s"
   refine ju X1 T.x_NoNear.c.cl rfl T.v_NoNear ?_
   walk_at "s"
   refine ju X1 T.x_NoNear.c.cl rfl T.u_NoNear_NoTold.one ?_
   walk_at "s"
   refine aF rfl fun g G ng sg hg=>?_
   walk_at "s"
   exact q g G (S1.trans sg) hg
  ·cases h
 | false=>
  walk_at "s"
  rw [Y5 (show ¬ V.str (wd false)=V.str (Str.ofString "news") from fun z=>absurd (V.str.inj z) (by decide))]
  walk_at "s"
  rcases hR with ⟨rfl,rfl,r1,hv1,hb⟩ | ⟨_,_,h,_⟩ | ⟨rfl,rfl,_,A',x,hv1,gA,lA,hv2,hsz,hb⟩
  ·refine ⟨v,v2,r1,rfl,hv1,fun _ e H1 S1 X1=>⟨_,e,rfl,rfl,?_⟩,fun A2 e2 g2=>absurd ⟨A2,e2,g2⟩ hb⟩
   walk_at "s"
   refine BP T.x_NoNear.c.cl.cls T.u_NoNear_NoNear.mro ?_
   walk_at "s"
   refine ⟨e,_,_,v,rfl,X1,T.x_NoNear.c.cl.cls,T.x_NoNear.na _ (by simp),rfl,?_⟩
   walk_at "s"
   refine ju X1 T.x_NoNear.c.cl rfl T.u_NoNear_PaneError.one ?_
   walk_at "s"
   refine ju X1 T.x_NoNear.c.cl rfl T.v_NoNear ?_
   walk_at "s"
   refine ju X1 T.x_NoNear.c.cl rfl T.u_NoNear_NoTold.one ?_
   walk_at "s"
   refine aF rfl fun g G ng sg hg=>?_
   walk_at "s"
   exact q g G (S1.trans sg) hg
  ·cases h
  ·refine ⟨v1,v,_,rfl,hv1,fun h=>absurd ⟨A',rfl,gA⟩ h,fun A2 e2 gA2=>?_⟩
   walk_at "s"
   cases gb pW (Zn e2)
   refine ⟨lA,x,hv2,hsz,fun _ e H1 S1 X1=>⟨_,e,rfl,rfl,?_⟩,fun B2 gB2 h2=>absurd ⟨B2,gB2,h2⟩ hb⟩
   refine Wn T.x_NoTold.c.cl.cls T.u_NoTold_NoNear.mro ?_
   refine BP T.x_NoTold.c.cl.cls T.u_NoTold_NoTold.mro ?_
   walk_at "s"
   refine ⟨e,_,_,v,rfl,X1,T.x_NoTold.c.cl.cls,T.x_NoTold.na _ (by simp),rfl,?_⟩
   walk_at "s"
   refine ju X1 T.x_NoTold.c.cl rfl T.u_NoTold_PaneError.one ?_
   walk_at "s"
   refine ju X1 T.x_NoTold.c.cl rfl T.v_NoTold ?_
   walk_at "s"
   refine aF rfl fun g G ng sg hg=>?_
   walk_at "s"
   exact q g G (S1.trans sg) hg
def J6 (K:W.Frag):Sp:=fun vs H Q _=>∃ (v gv nv:V) (r:RR) (A:List P3),vs=[v,gv,nv]/\SL K H v r/\¬ GoodR r/\fl v/\SL K H gv (some (A.map o3))/\Good A/\∀ H',Same H H'->Q (.bl true) H'
theorem nP:aP ["_law_thing","_law_good_here","_law_news_here","_law_due"] ["_law_thing","_law_good_here","_law_news_here"] (aB cV):=⟨rfl,rfl,rfl,by trivial,rfl,by trivial,by trivial⟩
theorem lz (T:Txt K mg):mU P w K mg base 10 "_law_no_list" ["_law_thing","_law_good_here","_law_news_here"] (J6 K):=by
 have cz:=cz (P:=P) (w:=w) (base:=base) T
 refine gf T.d_law_no_list nP (fun _ _ _ _ _ _ us hl=>L2.zr (fun _ _ _=>rfl) us hl) ?_ fun f cdv A outer s H vs Q E hr h=>?_
 ·rintro vs H Q E ⟨v,gv,nv,r,A',rfl,_⟩;rfl
 obtain ⟨v,gv,nv,r,A',rfl,hv,hb,hf,hg,gA,q⟩:=h
 have hu:=hr.units0
 have hu64:=hr.units
 refine ⟨_,(au (aR (i:=3) nP.nd rfl (Or.inl Ff) (cX (aa jc (aa (aj 0 Fe) (aa iR ak)))) rfl) (au (bf (jm (lN (aM (xO (K:=K) rfl hu64) (aK cz (hr.mono (by decide)) (bC JZ) (aa jc (aa (aj 0 Fe) (aa (aj 1 XX) ak))) (by trivial)) (aj 3 Ff) (by walk_at "p")) (iT (aM (xO (K:=K) rfl hu64) (aK cz (hr.mono (by decide)) (bC JZ) (aa jc (aa (aj 1 XX) (aa (aj 0 Fe) ak))) (by trivial)) (aj 3 Ff) (by walk_at "p"))))) (aA (aD iR)) aQ) (au (bf (aM (xO (K:=K) rfl hu64) (aK cz (hr.mono (by decide)) (bC JZ) (aa jc (aa (aj 0 Fe) (aa mR ak))) (by trivial)) (aj 3 Ff) (by walk_at "p")) (aA (aD iR)) aQ) (aA (aD (iK (rY (bU (K:=K) rfl hu64) (aK cz (hr.mono (by decide)) (bC JZ) (aa jc (aa (aj 0 Fe) (aa (aj 2 kz59) ak))) (by trivial)) (aj 3 Ff) (by walk_at "p")) (jE (rY (bU (K:=K) rfl hu64) (aK cz (hr.mono (by decide)) (bC JZ) (aa jc (aa (aj 0 Fe) (aa mR ak))) (by trivial)) (aj 3 Ff) (by walk_at "p"))))))))),?_⟩
 walk_at "s"
 refine aF rfl fun d H1 nd S1 hd=>?_
 walk_at "s"
 refine ⟨true,v,gv,"near",v,rfl,.inl ⟨rfl,rfl,r,hv.same S1,hb⟩,fun r1 H2 S2 h2=>?_⟩
 walk_at "s"
 have V2:=S2
 refine Ae h2 (V2 _ _ hd) (Vb hf) ?_
 walk_at "s"
 have U2:=S1.trans V2
 walk_at "s"
 refine ⟨true,gv,v,"near",v,rfl,.inr (.inl ⟨rfl,rfl,rfl,A',r,hg.same U2,gA,hv.same U2,hb⟩),fun r2 H3 S3 h3=>?_⟩
 walk_at "s"
 have V3:=V2.trans S3
 refine Ae h3 (V3 _ _ hd) (Vb hf) ?_
 walk_at "s"
 have U3:=S1.trans V3
 walk_at "s"
 refine ⟨true,v,.non,"near",v,rfl,.inl ⟨rfl,rfl,r,hv.same U3,hb⟩,fun r3 H4 S4 h4=>?_⟩
 walk_at "s"
 have V4:=V3.trans S4
 refine Ae h4 (V4 _ _ hd) (Vb hf) ?_
 walk_at "s"
 have U4:=S1.trans V4
 walk_at "s"
 refine ⟨false,v,nv,"near",v,rfl,.inl ⟨rfl,rfl,r,hv.same U4,hb⟩,fun r4 H5 S5 h5=>?_⟩
 walk_at "s"
 have V5:=V4.trans S5
 refine .inl (.inr ⟨_,_,_,rfl,rfl,SqL.of h5,SqL.of (V5 _ _ hd),Vb hf,?_⟩)
 have U5:=S1.trans V5
 walk_at "s"
 refine ⟨false,v,.non,"near",v,rfl,.inl ⟨rfl,rfl,r,hv.same U5,hb⟩,fun r5 H6 S6 h6=>?_⟩
 walk_at "s"
 have V6:=V5.trans S6
 refine .inl (.inr ⟨_,_,_,rfl,rfl,SqL.of h6,SqL.of (V6 _ _ hd),Vb hf,?_⟩)
 exact q _ (S1.trans V6)
def J7 (K:W.Frag):Sp:=fun vs H Q _=>∃ (v gv nv:V) (r:RR) (A:List P3),vs=[v,gv,nv]/\SL K H v r/\fl v/\SL K H gv (some (A.map o3))/\Good A/\∀ H',Same H H'->Q (.bl true) H'
theorem lD:aP ["_law_thing","_law_good_here","_law_news_here","_law_due","_law_told"] ["_law_thing","_law_good_here","_law_news_here"] (aB bM):=⟨rfl,rfl,rfl,by trivial,rfl,by trivial,by trivial⟩
theorem jf (T:Txt K mg):mU P w K mg base 11 "_law_judged" ["_law_thing","_law_good_here","_law_news_here"] (J7 K):=by
 have il:=il (P:=P) (w:=w) (base:=base) T
 have dm:=dm (P:=P) (w:=w) (base:=base) T
 have lz:=lz (P:=P) (w:=w) (base:=base) T
 refine gf T.d_law_judged lD (fun _ _ _ _ _ _ us hl=>L2.zr (fun _ _ _=>rfl) us hl) ?_ fun f cdv A outer s H vs Q E hr h=>?_
 ·rintro vs H Q E ⟨v,gv,nv,r,A',rfl,_⟩;rfl
 obtain ⟨v,gv,nv,r,A',rfl,hv,hf,hg,gA,q⟩:=h
 have hu:=hr.units0
 have hu64:=hr.units
 refine ⟨_,(au (aR (i:=3) lD.nd rfl (Or.inl Up) (aK il (hr.mono (by decide)) (bC kz5k) (aa (aj 0 Uo) ak) (by trivial)) rfl) (au (aR (i:=4) lD.nd rfl (Or.inl Uq) (aK dm (hr.mono (by decide)) (bC kz5j) (aa (aj 0 Uo) ak) (by trivial)) rfl) (au (bf (jm (lN (dD (dJ (aL (cZ (K:=K) rfl) (bC kz5h) T.b_isinstance aW (aa (aj 4 Uq) (aa (qu (bC kz5i) T.b_bool xq (by trivial) (by trivial)) ak)) (by trivial) (by trivial)))) (iT (aM (xO (K:=K) rfl hu64) (aj 4 Uq) (aj 3 Up) (by walk_at "p"))))) (aA (aD iR)) aQ) (aA (aD (j_or (aj 3 Up) (jE (aK lz (hr.mono (by decide)) (bC kz5b) (aa (aj 0 Uo) (aa (aj 1 kz5d) (aa (aj 2 kz5c) ak))) (by trivial))))))))),?_⟩
 walk_at "s"
 by_cases hb:GoodR r
 ·refine ⟨v,r,rfl,hv,fun _ H1 S1=>?_,fun h=>absurd hb h⟩
  walk_at "s"
  refine ⟨v,r,rfl,hv.same S1,fun _ H2 S2=>?_,fun h=>absurd hb h⟩
  walk_at "s"
  refine dH (.bl _) (show PySem.W.kitOne K (.type "bool") (.type "bool")=some true from rfl) ?_
  walk_at "s"
  rw [show (!decide (V.bl true=V.bl true))=false from by decide]
  walk_at "s"
  exact q _ (S1.trans S2)
 ·refine ⟨v,r,rfl,hv,fun h=>absurd h hb,fun _ H1 S1=>?_⟩
  walk_at "s"
  refine ⟨v,r,rfl,hv.same S1,fun h=>absurd h hb,fun _ H2 S2=>?_⟩
  walk_at "s"
  refine dH (.bl _) (show PySem.W.kitOne K (.type "bool") (.type "bool")=some true from rfl) ?_
  walk_at "s"
  rw [show (!decide (V.bl false=V.bl false))=false from by decide]
  walk_at "s"
  have U2:=S1.trans S2
  refine ⟨v,gv,nv,r,A',rfl,hv.same U2,hb,hf,hg.same U2,gA,fun H3 S3=>?_⟩
  walk_at "s"
  exact q _ (U2.trans S3)
theorem vf (ts:List (List Int)):PySem.SeqAt.shaped (Fq ts)=true:=mq (Jk ts) (by omega)
theorem J8 {A B B':List P3} {x:Option (RR×RR×RR)} (gA:Good A) (gB:Good B) (gB':Good B') (h:IsN x A B) (h':IsN x A B'):B'=B:=by
 unfold IsN at h h'
 subst h
 obtain ⟨e1,e2,e3⟩:=mK.mp h'
 obtain ⟨W,_,_,nW,mW⟩:=Am (gm A (gm A B) ++ gm B A ++ (mv A B).map mP)
 have p1:=tW nW gB.nd fun p=>(mW p).trans (Ao gA.nd gB.nd p)
 rw [← e1,← e2,← e3] at mW
 have p2:=tW nW gB'.nd fun p=>(mW p).trans (Ao gA.nd gB'.nd p)
 exact Jl gB'.pw gB.pw (p2.symm.trans p1)
def Od (K:W.Frag):Sp:=fun vs H Q _=>∃ (a:Addr) (us:List V) (A:List P3) (v:V) (x:Option (RR×RR×RR)),vs=[.ref a,v]/\H a=some (.lst us)/\R3 H us A/\Good A/\A.length<=300/\NT K H v x/\Tu x<=300/\fl v/\∀ H',Same H H'->Q (.bl true) H'
theorem mQ:aP ["_law_ahead","_law_thing","_law_due","_law_found"] ["_law_ahead","_law_thing"] (aB cM):=⟨rfl,rfl,rfl,by trivial,rfl,by trivial,by trivial⟩
theorem jN (T:Txt K mg):mU P w K mg base 10 "_law_tried" ["_law_ahead","_law_thing"] (Od K):=by
 have iY:=iY (P:=P) (w:=w) (base:=base) T
 have cz:=cz (P:=P) (w:=w) (base:=base) T
 have ie:=ie (P:=P) (w:=w) (base:=base) T
 have cC:=cC (P:=P) (w:=w) (base:=base) T
 refine gf T.d_law_tried mQ (fun _ _ _ _ _ _ us hl=>L2.mV (fun _ _=>rfl) us hl) ?_ fun f cdv A outer s H vs Q E hr h=>?_
 ·rintro vs H Q E ⟨a,us,A',v,x,rfl,_⟩;rfl
 obtain ⟨a,us,A',v,x,rfl,ha,hA,gA,lA,hv,hsz,hf,q⟩:=h
 have hu:=hr.units0
 have hu64:=hr.units
 refine ⟨_,(au (aR (i:=2) mQ.nd rfl (Or.inl Us) (aK iY (hr.mono (by decide)) (bC kz5s) (aa (aj 0 Ut) (aa (aj 1 Oc) ak)) (by trivial)) rfl) (au (bf (aM HS (aj 2 Us) mR (by walk_at "p")) (aA (aD (rY (bU (K:=K) rfl hu64) (aK cz (hr.mono (by decide)) (bC kz5r) (aa jc (aa (aj 0 Ut) (aa (aj 1 Oc) ak))) (by trivial)) (cX (aa jc (aa (aj 1 Oc) (aa iR ak)))) (by walk_at "p")))) aQ) (au (aR (i:=3) mQ.nd rfl (Or.inl Ur) (mj ie (hr.mono (by decide)) (bC kz5o) (Wl fun _ _=>rfl) (aa (aj 0 Ut) (aa (aj 1 Oc) ak)) (by trivial)) rfl) (aA (aD (iK (aK cC (hr.mono (by decide)) (bC kz5n) (aa (aj 3 Ur) (aa aq ak)) (by trivial)) (jE (rY (bU (K:=K) rfl hu64) (aj 3 Ur) (aj 2 Us) (by walk_at "p"))))))))),?_⟩
 walk_at "s"
 by_cases hb:∃ B,Good B/\IsN x A' B
 ·obtain ⟨B,gB,hB⟩:=hb
  refine ⟨a,us,A',v,x,rfl,ha,hA,gA,lA,hv,hsz,fun h=>absurd ⟨B,gB,hB⟩ h,fun B2 gB2 hB2 f1 ys H1 n1 S1 h1 hR1 l1=>?_⟩
  walk_at "s"
  rw [Y5 (by intro z;cases z)]
  walk_at "s"
  have hsl:=R3.sl (K:=K) (S1 _ _ ha) (hA.same S1) gA.le
  refine ⟨.ref a,v,_,rfl,hsl,fun h=>absurd ⟨A',rfl,gA⟩ h,fun A2 e2 gA2=>?_⟩
  cases gb pW (Zn e2)
  refine ⟨lA,x,hv.same S1,hsz,fun h=>absurd ⟨B,gB,hB⟩ h,fun B3 gB3 hB3 f2 zs H2 n2 S2 h2 hR2=>?_⟩
  have e32:=J8 gA gB2 gB3 hB2 hB3
  subst e32
  walk_at "s"
  have lB:B3.length<=1000:=by omega
  refine ⟨.ref f2,_,3,rfl,R3.sl h2 hR2 lB,by omega,fun H3 S3=>?_⟩
  walk_at "s"
  rw [show vp 3 (some (B3.map o3))=true from by show (B3.map o3).all (oM 3)=true;rw [YJ];exact u5 (qQ _)]
  walk_at "s"
  refine .inl (.inl (Hq ((hR2.same S3).rt.dr (S3 _ _ h2)) ((hR1.same (S2.trans S3)).rt.dr ((S2.trans S3) _ _ h1)) (vf _) ?_))
  exact q _ (S1.trans (S2.trans S3))
 ·refine ⟨a,us,A',v,x,rfl,ha,hA,gA,lA,hv,hsz,fun _ H1 S1=>?_,fun B2 gB2 hB2=>absurd ⟨B2,gB2,hB2⟩ hb⟩
  walk_at "s"
  walk_at "s"
  rw [YZ (rfl:V.non=V.non)]
  walk_at "s"
  have hsl:=R3.sl (K:=K) (S1 _ _ ha) (hA.same S1) gA.le
  refine ⟨false,.ref a,v,"told",v,rfl,.inr (.inr ⟨rfl,rfl,rfl,A',x,hsl,gA,lA,hv.same S1,hsz,hb⟩),fun r1 H2 S2 h2=>?_⟩
  walk_at "s"
  refine aF rfl fun d H3 nd S3 hd=>?_
  walk_at "s"
  refine .inl (.inr ⟨_,_,_,rfl,rfl,SqL.of (S3 _ _ h2),SqL.of hd,Vb hf,?_⟩)
  exact q _ (S1.trans (S2.trans S3))
end
local macro_rules | `(tactic| walk_at "s") => `(tactic| (with_reducible repeat (first | refine wA ?_ | walk_at "3")))
local macro_rules | `(tactic| walk_at "n") => `(tactic| (with_reducible repeat (walk_at "3")))
section
variable {P:Program} {w:World} {K:W.Frag} {mg:Str->Option Value} {base:Heap}
theorem Fg:bF bL "_law_word":=by trivial
theorem J9:bF bL "_law_end":=by trivial
theorem Ka:bF bL "_law_price":=by trivial
theorem Kc:bF bL "_law_begin":=by trivial
theorem kz5x:cB bL "list":=by trivial
theorem X7:bF bL "_law_row":=by trivial
theorem X8:cB aJ "sorted":=by trivial
theorem vW:bF aJ "_law_found":=by trivial
theorem Oe:bF aJ "_law_other":=by trivial
theorem Av:bF aJ "_law_word":=by trivial
theorem sY:bF aJ "_law_at":=by trivial
theorem Aw:bF aJ "_law_price":=by trivial
theorem zj:bF aJ "_law_begin":=by trivial
theorem Fi:bF aJ "_law_end":=by trivial
theorem Ax:bF aJ "_law_rows":=by trivial
theorem kz68:cB aJ "_law_one_spoilt":=by trivial
theorem kz69:cB aJ "max":=by trivial
theorem kz6a:cB aJ "len":=by trivial
theorem kz6b:cB aJ "tuple":=by trivial
theorem kz6c:cB aJ "list":=by trivial
theorem vg {α β:Type} {R:α->β->Prop}:∀ {us:List α},(∀ u∈us,∃ o,R u o)->∃ os:List β,us.length=os.length/\∀ (i:Nat) (u:α) (o:β),us[i]?=some u->os[i]?=some o->R u o
 | [],_=>⟨[],rfl,fun i u o e=>by simp at e⟩
 | u :: us,h=>by
  obtain ⟨o,ho⟩:=h u (Zj ..)
  obtain ⟨os,hl,hs⟩:=vg fun u hu=>h u (Zc _ hu)
  refine ⟨o :: os,by simp [hl],fun i u' o' e1 e2=>?_⟩
  cases i with
  | zero=>cases e1;cases e2;exact ho
  | succ i=>exact hs i u' o' e1 e2
def AZ (H:Hp) (u:V):Prop:=(dG u=true)\/(∃ t us,u= .ref t/\H t=some (.lst us))\/(∃ t us,u= .ref t/\H t=some (.tup us)/\∀ x∈us,dG x=true)
theorem AZ.same {H H':Hp} {u:V} (h:AZ H u) (s:Same H H'):AZ H' u:=by
 rcases h with h | ⟨t,us,e,h⟩ | ⟨t,us,e,h,h2⟩
 ·exact .inl h
 ·exact .inr (.inl ⟨t,us,e,s _ _ h⟩)
 ·exact .inr (.inr ⟨t,us,e,s _ _ h,h2⟩)
theorem AZ.put {H:Hp} {u:V} {f:Addr} {xs ys:List V} (h:AZ H u) (hf:H f=some (.lst xs)):AZ (upd H f (.lst ys)) u:=by
 rcases h with h | ⟨t,us,e,h⟩ | ⟨t,us,e,h,h2⟩
 ·exact .inl h
 ·by_cases z:t=f
  ·subst z;exact .inr (.inl ⟨t,ys,e,ao⟩)
  ·exact .inr (.inl ⟨t,us,e,by rw [aC z];exact h⟩)
 ·exact .inr (.inr ⟨t,us,e,by rw [aC (fun z=>by rw [z,hf] at h;cases h)];exact h,h2⟩)
theorem Og {H:Hp} {x:V} (h:dG x=true):∃ o,At K H x o:=by
 cases x with
 | int n=>exact ⟨some n,rfl⟩
 | bl b=>exact ⟨none,.inl ⟨b,rfl⟩⟩
 | non=>exact ⟨none,.inr ⟨"NoneType",.non,rfl⟩⟩
 | str z=>exact ⟨none,.inr ⟨"str",.str _,rfl⟩⟩
 | _=>cases h
theorem AZ.aw {H:Hp} {u:V} (h:AZ H u):∃ r,Wt K H u r:=by
 rcases h with h | ⟨t,us,rfl,h⟩ | ⟨t,us,rfl,h,h2⟩
 ·cases u with
  | int n=>exact ⟨none,"int",.int _,rfl⟩
  | bl b=>exact ⟨none,"bool",.bl _,rfl⟩
  | non=>exact ⟨none,"NoneType",.non,rfl⟩
  | str z=>exact ⟨none,"str",.str _,rfl⟩
  | _=>cases h
 ·exact ⟨none,"list",.lst h,rfl⟩
 ·obtain ⟨os,hl,hs⟩:=vg (R:=fun u o=>At K H u o) fun u hu=>Og (h2 u hu)
  exact ⟨some os,t,us,rfl,h,hl,hs⟩
theorem gM {H:Hp} {t:Addr} {us:List V} (ht:H t=some (.tup us)) (h:us.all dG=true):AZ H (.ref t):=.inr (.inr ⟨t,us,rfl,ht,ZM.mp h⟩)
theorem Kd {H:Hp} {t:Addr} {us:List V} (ht:H t=some (.lst us)):AZ H (.ref t):=.inr (.inl ⟨t,us,rfl,ht⟩)
theorem A3.az {H:Hp} {v:V} {p:P3} (h:A3 H v p):AZ H v:=by
 obtain ⟨a,rfl,ha⟩:=h
 exact gM ha rfl
theorem rN (t:List Int):(t.map V.int).all dG=true:=by rw [AaP,ZM];exact fun _ _=>rfl
theorem AT.az {H:Hp} {v:V} {t:List Int} (h:AT H v t):AZ H v:=by
 obtain ⟨a,rfl,ha⟩:=h
 exact gM ha (rN t)
def SN (K:W.Frag) (H:Hp) (v:V) (n:Nat):Prop:=(∃ r,SL K H v r/\Tt r<=n)/\fl v
theorem nQ {H:Hp} {p:Addr} {us:List V} {n:Nat} (hp:H p=some (.lst us)) (hl:us.length<=n) (hn:n<=1000) (h:∀ u∈us,AZ H u):SN K H (.ref p) n:=by
 obtain ⟨rs,hl2,hs⟩:=vg (R:=fun u r=>Wt K H u r) fun u hu=>(h u hu).aw
 exact ⟨⟨some rs,⟨p,us,rfl,hp,hl2,by omega,hs⟩,by show rs.length<=n;omega⟩,.inr ⟨p,rfl⟩⟩
theorem Ke {H:Hp} {p:Addr} {us:List V} {n:Nat} (hp:H p=some (.tup us)):SN K H (.ref p) n:=⟨⟨none,⟨"tuple",.tup hp,rfl⟩,Aaj _⟩,.inr ⟨p,rfl⟩⟩
theorem Cv {H:Hp} {p:Addr} {n:Nat} (hp:H p=some (.dK [])):SN K H (.ref p) n:=⟨⟨none,⟨"dict",.dK hp,rfl⟩,Aaj _⟩,.inr ⟨p,rfl⟩⟩
theorem Kf {H:Hp} {z:Str} {n:Nat}:SN K H (.str z) n:=⟨⟨none,⟨"str",.str _,rfl⟩,Aaj _⟩,.inl rfl⟩
theorem Kg {H:Hp} {n:Nat}:SN K H .non n:=⟨⟨none,⟨"NoneType",.non,rfl⟩,Aaj _⟩,.inl rfl⟩
theorem Kh {H:Hp} {i:Int} {n:Nat}:SN K H (.int i) n:=⟨⟨none,⟨"int",.int _,rfl⟩,Aaj _⟩,.inl rfl⟩
theorem PP {H:Hp} {b:Bool} {n:Nat}:SN K H (.bl b) n:=⟨⟨none,⟨"bool",.bl _,rfl⟩,Aaj _⟩,.inl rfl⟩
theorem jO {xs:List V} {lo hi:Option Int} {v:V} (h:v∈dI xs lo hi):v∈xs:=by
 unfold dI at h
 exact Aa5 (AaK h)
def Yb (K:W.Frag):Sp:=fun vs H Q _=>∃ (a:Addr) (p:P3) (w:Nat),vs=[.ref a,.int (w:Int)]/\H a=some (.tup (v3 p))/\∀ u H',Same H H'->AZ H' u->Q u H'
theorem fc:aP ["_law_row","_law_word","_law_price","_law_begin","_law_end"] ["_law_row","_law_word"] (aB bL):=⟨rfl,rfl,rfl,by trivial,rfl,by trivial,by trivial⟩
theorem ir (T:Txt K mg):mU P w K mg base 1 "_law_one_spoilt" ["_law_row","_law_word"] (Yb K):=by
 refine gf T.d_law_one_spoilt fc (fun _ _ _ _ _ _ us hl=>L2.mV (fun _ _=>rfl) us hl) ?_ fun f cdv A outer s H vs Q E hr h=>?_
 ·rintro vs H Q E ⟨a,p,w,rfl,_⟩;rfl
 obtain ⟨a,p,w,rfl,ha,q⟩:=h
 have hu:=hr.units0
 have hu64:=hr.units
 refine ⟨_,(au (jH (aj 0 X7) (jG (K:=K) rfl rfl (aU (aO (i:=2) fc.nd rfl (Or.inl Ka) rfl) (aU (aO (i:=3) fc.nd rfl (Or.inl Kc) rfl) (aU (aO (i:=4) fc.nd rfl (Or.inl J9) rfl) gF))))) (au (bf (aM (bU (K:=K) rfl hu64) (aj 1 Fg) aq (by walk_at "p")) (aA (aD (iM (gQ (K:=K) rfl rfl) (bC kz5x) T.b_list jd (aa (aj 0 X7) ak) (by trivial) (by trivial)))) aQ) (au (bf (aM (bU (K:=K) rfl hu64) (aj 1 Fg) aq (by walk_at "p")) (aA (aD (bR (aa (aj 2 Ka) (aa (aj 3 Kc) ak))))) aQ) (au (bf (aM (bU (K:=K) rfl hu64) (aj 1 Fg) aq (by walk_at "p")) (aA (aD (bR (aa (aj 2 Ka) (aa (aj 3 Kc) (aa (aj 4 J9) (aa (aj 4 J9) ak))))))) aQ) (au (bf (aM (bU (K:=K) rfl hu64) (aj 1 Fg) aq (by walk_at "p")) (aA (aD (bR (aa (aj 2 Ka) (aa (aj 3 Kc) (aa iR ak)))))) aQ) (au (bf (aM (bU (K:=K) rfl hu64) (aj 1 Fg) aq (by walk_at "p")) (aA (aD (bR (aa mR (aa (aj 3 Kc) (aa (aj 4 J9) ak)))))) aQ) (au (bf (aM (bU (K:=K) rfl hu64) (aj 1 Fg) aq (by walk_at "p")) (aA (aD (bR (aa (aj 2 Ka) (aa jc (aa (aj 4 J9) ak)))))) aQ) (aA (aD mR))))))))),?_⟩
 walk_at "s"
 replace ha:H a=some (.tup [.int p.1,.int p.2.1,.int p.2.2]):=ha
 walk_at "s"
 refine ⟨a,_,rfl,.inl (SqT.of ha),rfl,?_⟩
 walk_at "s"
 refine fQ (fun h=>?_) (fun h=>?_)
 ·walk_at "s"
  refine .inl ⟨a,_,rfl,.inr (SqT.of ha),fun l nl=>?_⟩
  walk_at "s"
  exact q _ _ ((Same.refl H).upd nl) (Kd ao)
 clear h
 walk_at "s"
 refine fQ (fun h=>?_) (fun h=>?_)
 ·walk_at "s"
  refine aF rfl fun t G nt s ht=>?_
  walk_at "s"
  exact q _ _ s (gM ht rfl)
 clear h
 walk_at "s"
 refine fQ (fun h=>?_) (fun h=>?_)
 ·walk_at "s"
  refine aF rfl fun t G nt s ht=>?_
  walk_at "s"
  exact q _ _ s (gM ht rfl)
 clear h
 walk_at "s"
 refine fQ (fun h=>?_) (fun h=>?_)
 ·walk_at "s"
  refine aF rfl fun t G nt s ht=>?_
  walk_at "s"
  exact q _ _ s (gM ht rfl)
 clear h
 walk_at "s"
 refine fQ (fun h=>?_) (fun h=>?_)
 ·walk_at "s"
  refine aF rfl fun t G nt s ht=>?_
  walk_at "s"
  exact q _ _ s (gM ht rfl)
 clear h
 walk_at "s"
 refine fQ (fun h=>?_) (fun h=>?_)
 ·walk_at "s"
  refine aF rfl fun t G nt s ht=>?_
  walk_at "s"
  exact q _ _ s (gM ht rfl)
 walk_at "s"
 exact q _ _ (Same.refl H) (.inl rfl)
theorem Oh (n:Nat):(if (n:Int) > 1 then (n:Int) else 1)=((Nat.max 1 n:Nat):Int):=by
 show _=((max 1 n:Nat):Int)
 split <;> omega
theorem md {w n:Nat}:(w:Int) % ((Nat.max 1 n:Nat):Int)=((w % Nat.max 1 n:Nat):Int):=by omega
theorem Cw {w n:Nat} (h:n≠0):w % Nat.max 1 n < n:=by
 have h1:Nat.max 1 n=n:=by show max 1 n=n;omega
 rw [h1]
 exact Nat.mod_lt _ (by omega)
theorem Cy {xs:List V} {i:Nat} {u v:V} (h:u∈xs.set i v):u∈xs\/u=v:=List.mem_or_eq_of_mem_set h
theorem R3.all {H:Hp} {us:List V} {L:List P3} (h:R3 H us L):∀ u∈us,AZ H u:=fun u hu=>by
 obtain ⟨i,hi,e⟩:=Zh.mp hu
 obtain ⟨p,_,ha⟩:=h.at (i:=i) (v:=u) (by rw [YL hi,e])
 exact ha.az
theorem RT.all {H:Hp} {us:List V} {L:List (List Int)} (h:RT H us L):∀ u∈us,AZ H u:=fun u hu=>by
 obtain ⟨i,hi,e⟩:=Zh.mp hu
 obtain ⟨p,_,ha⟩:=h.at (i:=i) (v:=u) (by rw [YL hi,e])
 exact ha.az
theorem R3.set {H:Hp} {us:List V} {L:List P3} {i:Nat} {v:V} {p:P3} (h:R3 H us L) (ha:A3 H v p):R3 H (us.set i v) (L.set i p):=by
 refine ⟨by rw [Aat,Aat];exact h.1,fun j u r e1 e2=>?_⟩
 rw [List.getElem?_set] at e1 e2
 have:=h.1
 by_cases e:i=j
 ·subst e
  rw [if_pos rfl] at e1 e2
  by_cases hi:i < us.length
  ·rw [if_pos hi] at e1
   rw [if_pos (by omega)] at e2
   cases e1;cases e2
   exact ha
  ·rw [if_neg hi] at e1;cases e1
 ·rw [if_neg e] at e1 e2
  exact h.2 j u r e1 e2
theorem Fj {c:Bool} {X R:Prop} (hx:X) (hr:c=false->X->R):if c=true then X else R:=by
 cases c
 ·exact hr rfl hx
 ·exact hx
def Oi (K:W.Frag):Sp:=fun vs H Q _=>∃ (a:Addr) (us:List V) (L:List P3) (w at_:Nat),vs=[.ref a,.int (w:Int),.int (at_:Int)]/\H a=some (.lst us)/\R3 H us L/\L.length<=300/\w<=17/\∀ u H',Same H H'->SN K H' u 700->Q u H'
theorem bJ:aP ["_law_rows","_law_word","_law_at","_law_found","_law_price","_law_begin","_law_end","_law_other"] ["_law_rows","_law_word","_law_at"] (aB aJ):=⟨rfl,rfl,rfl,by trivial,rfl,by trivial,by trivial⟩
theorem gO (T:Txt K mg):mU P w K mg base 2 "_law_list_spoilt" ["_law_rows","_law_word","_law_at"] (Oi K):=by
 have ir:=ir (P:=P) (w:=w) (base:=base) T
 refine gf T.d_law_list_spoilt bJ (fun _ _ _ _ _ _ us hl=>L2.zr (fun _ _ _=>rfl) us hl) ?_ fun f cdv A outer s H vs Q E hr h=>?_
 ·rintro vs H Q E ⟨a,us,L,w,at_,rfl,_⟩;rfl
 obtain ⟨a,us,L,w,at_,rfl,ha,hR,hl,hw,q⟩:=h
 have hu:=hr.units0
 have hu64:=hr.units
 refine ⟨_,(au (aR (i:=3) bJ.nd rfl (Or.inl vW) (iM (gQ (K:=K) rfl rfl) (bC kz6c) T.b_list jd (aa (aj 0 Ax) ak) (by trivial) (by trivial)) rfl) (au (bf (jm (lN (aM (bU (K:=K) rfl hu64) (aj 0 Ax) (cX ak) (by walk_at "p")) (iT (aM ue (aj 1 Av) aq (by walk_at "p"))))) (aA (aD (aX (K:=K) rfl (cX (aa (iM (rW (K:=K) rfl rfl) (bC kz6b) T.b_tuple lH (aa (aj 0 Ax) ak) (by trivial) (by trivial)) (aa xG (aa jc (aa mR (aa aq (aa (cX (aa aq ak)) (aa (cX (aa (bR ak) ak)) (aa iR ak))))))))) (aZ dW (aj 2 sY) aq)))) aQ) (au (aR (i:=2) bJ.nd rfl (Or.inl sY) (aZ dW (aj 2 sY) (aL (nY rfl) (bC kz69) T.b_max xm (aa aq (aa (aL (cH (K:=K) rfl) (bC kz6a) T.b_len fV (aa (aj 0 Ax) ak) (by trivial) (by trivial)) ak)) (by trivial) (by trivial))) rfl) (au (jH (aX (K:=K) rfl (aj 0 Ax) (aj 2 sY)) (jG (K:=K) rfl rfl (aU (aO (i:=4) bJ.nd rfl (Or.inl Aw) rfl) (aU (aO (i:=5) bJ.nd rfl (Or.inl zj) rfl) (aU (aO (i:=6) bJ.nd rfl (Or.inl Fi) rfl) gF))))) (au (bf (aM (mF (K:=K) rfl hu64) (aj 1 Av) aq (by walk_at "p")) (au (cR (ts:=fU) (aK ir (hr.mono (by decide)) (bC kz68) (aa (aX (K:=K) rfl (aj 0 Ax) (aj 2 sY)) (aa (aj 1 Av) ak)) (by trivial)) (dY (aj 3 vW) (aj 2 sY) (cT hu64))) (aA (aD (aj 3 vW)))) aQ) (au (bf (aM (bU (K:=K) rfl hu64) (aj 1 Av) aq (by walk_at "p")) (aA (aD (aZ (cA (K:=K) rfl) (aZ (cA (K:=K) rfl) (bz (bA (K:=K) rfl) (aj 3 vW) bH (bh (aj 2 sY))) (cX (aa (aX (K:=K) rfl (aj 0 Ax) (aj 2 sY)) ak))) (bz (bA (K:=K) rfl) (aj 3 vW) (bh (aj 2 sY)) bH)))) aQ) (au (bf (aM (bU (K:=K) rfl hu64) (aj 1 Av) aq (by walk_at "p")) (aA (aD (aZ (cA (K:=K) rfl) (bz (bA (K:=K) rfl) (aj 3 vW) (bh (aj 2 sY)) bH) (bz (bA (K:=K) rfl) (aj 3 vW) bH (bh (aj 2 sY)))))) aQ) (au (bf (aM (bU (K:=K) rfl hu64) (aj 1 Av) aq (by walk_at "p")) (aA (aD (aL d7 (bC X8) T.b_sorted gR (aa (aZ (cA (K:=K) rfl) (aj 3 vW) (cX (aa (bR (aa (aZ (cA (K:=K) rfl) (aj 4 Aw) aq) (aa (aj 5 zj) (aa (aj 6 Fi) ak)))) ak))) ak) (by trivial) (by trivial)))) aQ) (au (aR (i:=7) bJ.nd rfl (Or.inl Oe) (cX (aa (bR (aa aq (aa (aj 5 zj) (aa (aj 6 Fi) ak)))) (aa (bR (aa (Hm ud aq) (aa (aj 5 zj) (aa (aj 6 Fi) ak)))) (aa (bR (aa (aj 4 Aw) (aa (Hm ud aq) (aa (aj 6 Fi) ak)))) (aa (bR (aa (aj 4 Aw) (aa (aj 5 zj) (aa aq ak)))) (aa (bR (aa (aj 4 Aw) (aa (aj 5 zj) (aa (aj 5 zj) ak)))) ak)))))) rfl) (au (aR (i:=7) bJ.nd rfl (Or.inl Oe) (aZ (cA (K:=K) rfl) (aj 7 Oe) (cX (aa (bR (aa (aj 4 Aw) (aa (aj 6 Fi) (aa (aj 5 zj) ak)))) (aa (bR (aa (aj 4 Aw) (aa aq (aa aq ak)))) ak)))) rfl) (au (cR (ts:=fU) (aX (K:=K) rfl (aj 7 Oe) (aZ pK (aj 1 Av) aq)) (dY (aj 3 vW) (aj 2 sY) (cT hu64))) (aA (aD (aL d7 (bC X8) T.b_sorted gR (aa (aj 3 vW) ak) (by trivial) (by trivial))))))))))))))),?_⟩
 walk_at "s"
 have hs:20000<=sizeLine:=by decide
 have hul:=hR.1
 refine tD (SqL.of ha) fun f nf=>?_
 walk_at "s"
 have S1:=(Same.refl H).upd nf (o:=.lst us)
 have hf:=ao (H:=H) (a:=f) (o:=.lst us)
 generalize upd H f (.lst us)=H1 at S1 hf ⊢
 walk_at "s"
 refine aF rfl fun e0 H2 _ S2 he0=>?_
 walk_at "s"
 have U2:=S1.trans S2
 refine .inl (.inl (uB (e:=Fq []) ((hR.same U2).rt.dr (U2 _ _ ha)) (xu.mpr ⟨e0,[],rfl,he0,qy.mpr rfl⟩) (vf _) (vf _) ?_))
 rw [qP]
 refine ⟨_,rfl,?_⟩
 refine Fj ?_ (fun hne hX=>?_)
 ·walk_at "s"
  refine .inl ⟨a,us,rfl,.inl ⟨SqL.of (U2 _ _ ha),fun l nl=>?_⟩⟩
  walk_at "s"
  have S3:=(Same.refl H2).upd nl (o:=.tup us)
  have hl3:=ao (H:=H2) (a:=l) (o:=.tup us)
  generalize upd H2 l (.tup us)=H3 at S3 hl3 ⊢
  walk_at "s"
  intro d nd
  have S4:=(Same.refl H3).upd nd (o:=.dK [])
  have hd4:=ao (H:=H3) (a:=d) (o:=.dK [])
  generalize upd H3 d (.dK [])=H4 at S4 hd4 ⊢
  walk_at "s"
  refine aF rfl fun z1 H5 _ S5 hz1=>?_
  walk_at "s"
  refine aF rfl fun z2 H6 _ S6 hz2=>?_
  walk_at "s"
  refine aF rfl fun z3 H7 _ S7 hz3=>?_
  walk_at "s"
  refine aF rfl fun z4 H8 _ S8 hz4=>?_
  walk_at "s"
  have V8:=S5.trans (S6.trans (S7.trans S8))
  have U8:=U2.trans (S3.trans (S4.trans V8))
  have ha1:=hz1
  have hpick:∀ m,m < 8->∃ u,([V.ref l,V.ref d,V.str (Str.ofString ""),V.non,V.int 0,V.ref z1,V.ref z3,V.bl true]:List V)[m]?=some u/\SN K H8 u 700:=fun m hm=>by
   match m,hm with
   | 0,_=>exact ⟨_,rfl,Ke ((S4.trans V8) _ _ hl3)⟩
   | 1,_=>exact ⟨_,rfl,Cv (V8 _ _ hd4)⟩
   | 2,_=>exact ⟨_,rfl,Kf⟩
   | 3,_=>exact ⟨_,rfl,Kg⟩
   | 4,_=>exact ⟨_,rfl,Kh⟩
   | 5,_=>exact ⟨_,rfl,nQ ((S6.trans (S7.trans S8)) _ _ hz1) (by simp) (by omega) fun u hu=>by
     rw [ZK.mp hu];exact .inl rfl⟩
   | 6,_=>exact ⟨_,rfl,nQ (S8 _ _ hz3) (by simp) (by omega) fun u hu=>by
     rw [ZK.mp hu];exact gM ((S7.trans S8) _ _ hz2) rfl⟩
   | 7,_=>exact ⟨_,rfl,PP⟩
   | m+8,hm=>omega
  obtain ⟨u,hu,hsn⟩:=hpick (at_ % 8) (Nat.mod_lt _ (by omega))
  refine bW (SqL.of hz4) (show zq _ ((at_:Int) % 8)=some u from by rw [show (at_:Int) % 8=((at_ % 8:Nat):Int) by omega];exact bw hu) ?_
  walk_at "s"
  exact q _ _ U8 hsn
 have hn0:L.length≠0:=fun z=>by
  have:L=[]:=List.length_eq_zero_iff.mp z
  subst this
  exact absurd hne (by decide)
 clear hne
 walk_at "s"
 refine fQ (fun _=>hX) (fun hw16=>?_)
 clear hX
 walk_at "s"
 refine kh (SqL.of (U2 _ _ ha)) ?_
 walk_at "s"
 walk_at "s"
 rw [hul,Oh,md]
 have hk:=Cw (w:=at_) hn0
 generalize at_ % Nat.max 1 L.length=k at hk
 have hp:=YL hk
 obtain ⟨v,hv1,b,rfl,hb⟩:=(hR.same U2).of hp
 generalize L[k]=p at hp hb
 have hb0:=hb
 replace hb:H2 b=some (.tup [.int p.1,.int p.2.1,.int p.2.2]):=hb
 have ha2:=U2 _ _ ha
 have hf2:=S2 _ _ hf
 have hR2:=hR.same U2
 have ixk:zJ us.length (k:Int)=some k:=by
  unfold zJ
  rw [if_pos (by omega),if_pos (by omega)]
  rfl
 have hcl:∀ lo hi,(dI us lo hi).length<=300:=fun lo hi=>by have:=iI us lo hi;omega
 walk_at "s"
 refine bW (SqL.of ha2) (bw hv1) ?_
 walk_at "s"
 refine ⟨b,_,rfl,.inl (SqT.of hb),rfl,?_⟩
 walk_at "s"
 refine fQ (fun h7=>?_) (fun h7=>?_)
 ·walk_at "s"
  refine bW (SqL.of ha2) (bw hv1) ?_
  walk_at "s"
  refine ⟨b,p,w,rfl,hb0,fun u G s hu=>?_⟩
  walk_at "s"
  refine nZ (s _ _ hf2) ixk ?_
  walk_at "s"
  refine q _ _ (Same.put (U2.trans s) nf) (nQ ao (by rw [Aat];omega) (by omega) fun x hx=>?_)
  rcases Cy hx with h | rfl
  ·exact ((hR2.all x h).same s).put (s _ _ hf2)
  ·exact hu.put (s _ _ hf2)
 walk_at "s"
 refine fQ (fun h=>?_) (fun h=>?_)
 ·clear h
  walk_at "s"
  refine mD hf2 fun c1 G1 n1 s1 hc1=>?_
  walk_at "s"
  refine bW (SqL.of (s1 _ _ ha2)) (bw hv1) ?_
  walk_at "s"
  refine aF rfl fun c2 G2 n2 s2 hc2=>?_
  walk_at "s"
  refine jK (s2 _ _ hc1) hc2 (by have:=hcl none (some (k:Int));simp;omega) fun c3 n3=>?_
  walk_at "s"
  have s3:=(Same.refl G2).upd n3 (o:=.lst (dI us none (some (k:Int)) ++ [.ref b]))
  have hc3:=ao (H:=G2) (a:=c3) (o:=.lst (dI us none (some (k:Int)) ++ [.ref b]))
  generalize upd G2 c3 (.lst (dI us none (some (k:Int)) ++ [.ref b]))=G3 at s3 hc3 ⊢
  have s13:=s1.trans (s2.trans s3)
  walk_at "s"
  refine mD (s13 _ _ hf2) fun c4 G4 n4 s4 hc4=>?_
  walk_at "s"
  refine jK (s4 _ _ hc3) hc4 (by have:=hcl none (some (k:Int));have:=hcl (some (k:Int)) none;simp;omega) fun c5 n5=>?_
  walk_at "s"
  have s15:=(s13.trans s4).upd n5 (o:=.lst (dI us none (some (k:Int)) ++ [.ref b] ++ dI us (some (k:Int)) none))
  refine q _ _ (U2.trans s15) (nQ ao ?_ (by omega) fun x hx=>?_)
  ·have:=hcl none (some (k:Int));have:=hcl (some (k:Int)) none
   simp only [YX,ZW,Z1];omega
  ·have h0:x∈us:=by
    rcases Y8.mp hx with h | h
    ·rcases Y8.mp h with h | h
     ·exact jO h
     ·rw [ZK.mp h];exact Zr hv1
    ·exact jO h
   exact (hR2.all x h0).same s15
 walk_at "s"
 refine fQ (fun h=>?_) (fun h8=>?_)
 ·clear h
  walk_at "s"
  refine mD hf2 fun c1 G1 n1 s1 hc1=>?_
  walk_at "s"
  refine mD (s1 _ _ hf2) fun c2 G2 n2 s2 hc2=>?_
  walk_at "s"
  refine jK (s2 _ _ hc1) hc2 (by have:=hcl none (some (k:Int));have:=hcl (some (k:Int)) none;omega) fun c3 n3=>?_
  walk_at "s"
  have s13:=(s1.trans s2).upd n3 (o:=.lst (dI us (some (k:Int)) none ++ dI us none (some (k:Int))))
  refine q _ _ (U2.trans s13) (nQ ao ?_ (by omega) fun x hx=>?_)
  ·have:=hcl none (some (k:Int));have:=hcl (some (k:Int)) none
   rw [YX];omega
  ·have h0:x∈us:=by
    rcases Y8.mp hx with h | h
    ·exact jO h
    ·exact jO h
   exact (hR2.all x h0).same s13
 walk_at "s"
 refine fQ (fun h=>?_) (fun h9=>?_)
 ·clear h
  walk_at "s"
  refine aF rfl fun t G1 n1 s1 ht=>?_
  walk_at "s"
  refine aF rfl fun c2 G2 n2 s2 hc2=>?_
  walk_at "s"
  have s12:=s1.trans s2
  refine jK (s12 _ _ hf2) hc2 (by simp;omega) fun c3 n3=>?_
  walk_at "s"
  have s3:=s12.upd n3 (o:=.lst (us ++ [.ref t]))
  have hc3:=ao (H:=G2) (a:=c3) (o:=.lst (us ++ [.ref t]))
  have ht3:upd G2 c3 (.lst (us ++ [.ref t])) t=some (.tup (v3 (p.1+1,p.2))):=by
   rw [aC (gNe n3 (s2 _ _ ht))]
   exact s2 _ _ ht
  generalize upd G2 c3 (.lst (us ++ [.ref t]))=G3 at s3 hc3 ht3 ⊢
  walk_at "s"
  refine oH hc3 ((hR2.same s3).push ⟨t,rfl,ht3⟩) (by simp;omega) fun qq zs G4 B nq s4 hq hB pB _=>?_
  try walk_at "s"
  refine q _ _ (U2.trans (s3.trans s4)) (nQ hq ?_ (by omega) hB.all)
  rw [hB.1,pB.length_eq,YX];simp;omega
 walk_at "s"
 refine aF rfl fun t1 G1 _ s1 h1=>?_
 walk_at "s"
 refine aF rfl fun t2 G2 _ s2 h2=>?_
 walk_at "s"
 refine aF rfl fun t3 G3 _ s3 h3=>?_
 walk_at "s"
 refine aF rfl fun t4 G4 _ s4 h4=>?_
 walk_at "s"
 refine aF rfl fun t5 G5 _ s5 h5=>?_
 walk_at "s"
 refine aF rfl fun o1 G6 _ s6 h6=>?_
 walk_at "s"
 refine aF rfl fun t6 G7 _ s7 h7'=>?_
 walk_at "s"
 refine aF rfl fun t7 G8 _ s8 h8'=>?_
 walk_at "s"
 refine aF rfl fun o2 G9 _ s9 h9'=>?_
 walk_at "s"
 have v69:=s7.trans (s8.trans s9)
 refine jK (v69 _ _ h6) h9' (by simp;omega) fun o3' n10=>?_
 walk_at "s"
 have s10:=(Same.refl G9).upd n10 (o:=.lst ([V.ref t1,.ref t2,.ref t3,.ref t4,.ref t5] ++ [V.ref t6,.ref t7]))
 have h10:=ao (H:=G9) (a:=o3') (o:=.lst ([V.ref t1,.ref t2,.ref t3,.ref t4,.ref t5] ++ [V.ref t6,.ref t7]))
 replace h10:upd G9 o3' (.lst ([V.ref t1,.ref t2,.ref t3,.ref t4,.ref t5] ++ [V.ref t6,.ref t7])) o3'=some (.lst [V.ref t1,.ref t2,.ref t3,.ref t4,.ref t5,.ref t6,.ref t7]):=h10
 generalize upd G9 o3' (.lst ([V.ref t1,.ref t2,.ref t3,.ref t4,.ref t5] ++ [V.ref t6,.ref t7]))=GA at s10 h10 ⊢
 have w9:=s9.trans s10
 have w8:=s8.trans w9
 have w7:=s7.trans w8
 have w6:=s6.trans w7
 have w5:=s5.trans w6
 have w4:=s4.trans w5
 have w3:=s3.trans w4
 have w2:=s2.trans w3
 have w1:=s1.trans w2
 have hpick:∀ m,m < 7->∃ (u:V) (p':P3),([V.ref t1,.ref t2,.ref t3,.ref t4,.ref t5,.ref t6,.ref t7]:List V)[m]?=some u/\A3 GA u p':=fun m hm=>by
  match m,hm with
  | 0,_=>exact ⟨_,(49,p.2.1,p.2.2),rfl,t1,rfl,w2 _ _ h1⟩
  | 1,_=>exact ⟨_,(-1,p.2.1,p.2.2),rfl,t2,rfl,w3 _ _ h2⟩
  | 2,_=>exact ⟨_,(p.1,-1,p.2.2),rfl,t3,rfl,w4 _ _ h3⟩
  | 3,_=>exact ⟨_,(p.1,p.2.1,25),rfl,t4,rfl,w5 _ _ h4⟩
  | 4,_=>exact ⟨_,(p.1,p.2.1,p.2.1),rfl,t5,rfl,w6 _ _ h5⟩
  | 5,_=>exact ⟨_,(p.1,p.2.2,p.2.1),rfl,t6,rfl,w8 _ _ h7'⟩
  | 6,_=>exact ⟨_,(p.1,24,24),rfl,t7,rfl,w9 _ _ h8'⟩
  | m+7,hm=>omega
 obtain ⟨m,em,hm⟩:∃ m:Nat,(w:Int) - 10=(m:Int)/\m < 7:=by
  have a7:w≠7:=fun z=>h (by rw [z];rfl)
  have a8:w≠8:=fun z=>h8 (by rw [z];rfl)
  have a9:w≠9:=fun z=>h9 (by rw [z];rfl)
  exact ⟨w - 10,by omega,by omega⟩
 obtain ⟨u,p',hu,hA⟩:=hpick m hm
 walk_at "s"
 refine bW (SqL.of h10) (show zq _ ((w:Int) - 10)=some u from by rw [em];exact bw hu) ?_
 walk_at "s"
 refine nZ (w1 _ _ hf2) ixk ?_
 have hRs:R3 (upd GA f (.lst (us.set k u))) (us.set k u) (L.set k p'):=((hR2.same w1).set hA).putd (fun xs z=>by rw [w1 _ _ hf2] at z;cases z)
 have hfs:=ao (H:=GA) (a:=f) (o:=.lst (us.set k u))
 have sF:Same H (upd GA f (.lst (us.set k u))):=Same.put (U2.trans w1) nf
 generalize upd GA f (.lst (us.set k u))=GB at hRs hfs sF ⊢
 walk_at "s"
 refine oH hfs hRs (by rw [Aat];omega) fun qq zs GC B nq sC hq hB pB _=>?_
 try walk_at "s"
 refine q _ _ (sF.trans sC) (nQ hq ?_ (by omega) hB.all)
 rw [hB.1,pB.length_eq,Aat];omega
theorem p7:bF bD "_law_row":=by trivial
theorem Fl:bF bD "_law_word":=by trivial
theorem kz6f:cB bD "list":=by trivial
theorem sZ:bF bD "_law_at":=by trivial
theorem kz6h:bF bD "_law_draw":=by trivial
theorem kz6i:cB bD "max":=by trivial
theorem kz6j:cB bD "len":=by trivial
theorem vh (t:List Int) (lo hi:Option Int):(dI (t.map V.int) lo hi).all dG=true:=by
 rw [ZM]
 intro x hx
 exact ZM.mp (rN t) x (jO hx)
theorem qR (t:List Int) (lo hi lo2 hi2:Option Int) {x:V} (h:dG x=true):(dI (t.map V.int) lo hi ++ [x] ++ dI (t.map V.int) lo2 hi2).all dG=true:=by
 rw [List.all_append,List.all_append,vh,vh,Z7,h];rfl
def Yc (K:W.Frag):Sp:=fun vs H Q _=>∃ (a:Addr) (t:List Int) (w d:Nat),vs=[.ref a,.int (w:Int),.int (d:Int)]/\H a=some (.tup (t.map V.int))/\t.length≠0/\t.length<=10/\∀ u H',Same H H'->AZ H' u->Q u H'
theorem jP:aP ["_law_row","_law_word","_law_draw","_law_at"] ["_law_row","_law_word","_law_draw"] (aB bD):=⟨rfl,rfl,rfl,by trivial,rfl,by trivial,by trivial⟩
theorem iu (T:Txt K mg):mU P w K mg base 1 "_law_row_spoilt" ["_law_row","_law_word","_law_draw"] (Yc K):=by
 refine gf T.d_law_row_spoilt jP (fun _ _ _ _ _ _ us hl=>L2.zr (fun _ _ _=>rfl) us hl) ?_ fun f cdv A outer s H vs Q E hr h=>?_
 ·rintro vs H Q E ⟨a,t,w,d,rfl,_⟩;rfl
 obtain ⟨a,t,w,d,rfl,ha,ht0,ht,q⟩:=h
 have hu:=hr.units0
 have hu64:=hr.units
 refine ⟨_,(au (aR (i:=3) jP.nd rfl (Or.inl sZ) (aZ dW (aj 2 kz6h) (aL (nY rfl) (bC kz6i) T.b_max xm (aa aq (aa (aL (cH (K:=K) rfl) (bC kz6j) T.b_len fV (aa (aj 0 p7) ak) (by trivial) (by trivial)) ak)) (by trivial) (by trivial))) rfl) (au (bf (aM (bU (K:=K) rfl hu64) (aj 1 Fl) aq (by walk_at "p")) (aA (aD (aZ (cA (K:=K) rfl) (aZ (cA (K:=K) rfl) (bz (bA (K:=K) rfl) (aj 0 p7) bH (bh (aj 3 sZ))) (bR (aa (aZ (cA (K:=K) rfl) (aX (K:=K) rfl (aj 0 p7) (aj 3 sZ)) aq) ak))) (bz (bA (K:=K) rfl) (aj 0 p7) (bh (aZ (cA (K:=K) rfl) (aj 3 sZ) aq)) bH)))) aQ) (au (bf (aM (bU (K:=K) rfl hu64) (aj 1 Fl) aq (by walk_at "p")) (aA (aD (aZ (cA (K:=K) rfl) (aZ (cA (K:=K) rfl) (bz (bA (K:=K) rfl) (aj 0 p7) bH (bh (aj 3 sZ))) (bR (aa (aZ pK (aX (K:=K) rfl (aj 0 p7) (aj 3 sZ)) aq) ak))) (bz (bA (K:=K) rfl) (aj 0 p7) (bh (aZ (cA (K:=K) rfl) (aj 3 sZ) aq)) bH)))) aQ) (au (bf (aM (bU (K:=K) rfl hu64) (aj 1 Fl) aq (by walk_at "p")) (aA (aD (aZ (cA (K:=K) rfl) (aZ (cA (K:=K) rfl) (bz (bA (K:=K) rfl) (aj 0 p7) bH (bh (aj 3 sZ))) (bR (aa (rY (bU (K:=K) rfl hu64) (aX (K:=K) rfl (aj 0 p7) (aj 3 sZ)) aq (by walk_at "p")) ak))) (bz (bA (K:=K) rfl) (aj 0 p7) (bh (aZ (cA (K:=K) rfl) (aj 3 sZ) aq)) bH)))) aQ) (au (bf (aM (bU (K:=K) rfl hu64) (aj 1 Fl) aq (by walk_at "p")) (aA (aD (aZ (cA (K:=K) rfl) (aZ (cA (K:=K) rfl) (bz (bA (K:=K) rfl) (aj 0 p7) bH (bh (aj 3 sZ))) (bR (aa mR ak))) (bz (bA (K:=K) rfl) (aj 0 p7) (bh (aZ (cA (K:=K) rfl) (aj 3 sZ) aq)) bH)))) aQ) (au (bf (aM (bU (K:=K) rfl hu64) (aj 1 Fl) aq (by walk_at "p")) (aA (aD (iM (gQ (K:=K) rfl rfl) (bC kz6f) T.b_list jd (aa (aj 0 p7) ak) (by trivial) (by trivial)))) aQ) (au (bf (aM (bU (K:=K) rfl hu64) (aj 1 Fl) aq (by walk_at "p")) (aA (aD (bz (bA (K:=K) rfl) (aj 0 p7) bH (bh (Hm ud aq))))) aQ) (aA (aD (aZ (cA (K:=K) rfl) (aj 0 p7) (bR (aa aq ak)))))))))))),?_⟩
 walk_at "s"
 have hs:20000<=sizeLine:=by decide
 refine pO (SqT.of ha) ?_
 walk_at "s"
 walk_at "s"
 rw [YQ,Oh,md]
 have hk:=Cw (w:=d) ht0
 generalize d % Nat.max 1 t.length=k at hk
 have hn:(t.map V.int)[k]?=some (.int t[k]):=by rw [Ze,YL hk];rfl
 generalize t[k]=n at hn
 have hcl:∀ lo hi,(dI (t.map V.int) lo hi).length<=10:=fun lo hi=>by have:=iI (t.map V.int) lo hi;rw [YQ] at this;omega
 have fin:∀ (x:V) (c1 c2:Addr) (G1:Hp) (lo2:Option Int) (R:VK),dG x=true->Same H G1->G1 c1=some (.tup (dI (t.map V.int) none (some (k:Int))))->G1 c2=some (.tup [x])->(∀ c3 G2,Same G1 G2->G2 c3=some (.tup (dI (t.map V.int) none (some (k:Int)) ++ [x]))->R (.ref c3) G2)->yR K (.ref c1) (.ref c2) G1 R:=fun x c1 c2 G1 lo2 R hx s1 h1 h2 hR=>oE h1 h2 (by have:=hcl none (some (k:Int));simp;omega) hR
 refine fQ (fun h=>?_) (fun h=>?_)
 ·clear h
  walk_at "s"
  refine cY ha fun c1 G1 s1 h1=>?_
  walk_at "s"
  refine lJ (SqT.of (s1 _ _ ha)) (bw hn) ?_
  walk_at "s"
  walk_at "s"
  refine aF rfl fun c2 G2 _ s2 h2=>?_
  walk_at "s"
  refine fin (.int (n+1)) c1 c2 G2 none _ rfl (s1.trans s2) (s2 _ _ h1) h2 fun c3 G3 s3 h3=>?_
  walk_at "s"
  have s13:=s1.trans (s2.trans s3)
  walk_at "s"
  refine cY (s13 _ _ ha) fun c4 G4 s4 h4=>?_
  walk_at "s"
  refine oE (s4 _ _ h3) h4 (by have:=hcl none (some (k:Int));have:=hcl (some ((k:Int)+1)) none;simp;omega) fun c5 G5 s5 h5=>?_
  walk_at "s"
  exact q _ _ (s13.trans (s4.trans s5)) (gM h5 (qR t _ _ _ _ rfl))
 walk_at "s"
 refine fQ (fun h=>?_) (fun h=>?_)
 ·clear h
  walk_at "s"
  refine cY ha fun c1 G1 s1 h1=>?_
  walk_at "s"
  refine lJ (SqT.of (s1 _ _ ha)) (bw hn) ?_
  walk_at "s"
  walk_at "s"
  refine aF rfl fun c2 G2 _ s2 h2=>?_
  walk_at "s"
  refine fin (.int (n - 1)) c1 c2 G2 none _ rfl (s1.trans s2) (s2 _ _ h1) h2 fun c3 G3 s3 h3=>?_
  walk_at "s"
  have s13:=s1.trans (s2.trans s3)
  walk_at "s"
  refine cY (s13 _ _ ha) fun c4 G4 s4 h4=>?_
  walk_at "s"
  refine oE (s4 _ _ h3) h4 (by have:=hcl none (some (k:Int));have:=hcl (some ((k:Int)+1)) none;simp;omega) fun c5 G5 s5 h5=>?_
  walk_at "s"
  exact q _ _ (s13.trans (s4.trans s5)) (gM h5 (qR t _ _ _ _ rfl))
 walk_at "s"
 refine fQ (fun h=>?_) (fun h=>?_)
 ·clear h
  walk_at "s"
  refine cY ha fun c1 G1 s1 h1=>?_
  walk_at "s"
  refine lJ (SqT.of (s1 _ _ ha)) (bw hn) ?_
  walk_at "s"
  walk_at "s"
  refine aF rfl fun c2 G2 _ s2 h2=>?_
  walk_at "s"
  refine fin (.bl (decide (V.int n=V.int 1))) c1 c2 G2 none _ rfl (s1.trans s2) (s2 _ _ h1) h2 fun c3 G3 s3 h3=>?_
  walk_at "s"
  have s13:=s1.trans (s2.trans s3)
  walk_at "s"
  refine cY (s13 _ _ ha) fun c4 G4 s4 h4=>?_
  walk_at "s"
  refine oE (s4 _ _ h3) h4 (by have:=hcl none (some (k:Int));have:=hcl (some ((k:Int)+1)) none;simp;omega) fun c5 G5 s5 h5=>?_
  walk_at "s"
  exact q _ _ (s13.trans (s4.trans s5)) (gM h5 (qR t _ _ _ _ rfl))
 walk_at "s"
 refine fQ (fun h=>?_) (fun h=>?_)
 ·clear h
  walk_at "s"
  refine cY ha fun c1 G1 s1 h1=>?_
  walk_at "s"
  refine aF rfl fun c2 G2 _ s2 h2=>?_
  walk_at "s"
  refine fin (.non) c1 c2 G2 none _ rfl (s1.trans s2) (s2 _ _ h1) h2 fun c3 G3 s3 h3=>?_
  walk_at "s"
  have s13:=s1.trans (s2.trans s3)
  walk_at "s"
  refine cY (s13 _ _ ha) fun c4 G4 s4 h4=>?_
  walk_at "s"
  refine oE (s4 _ _ h3) h4 (by have:=hcl none (some (k:Int));have:=hcl (some ((k:Int)+1)) none;simp;omega) fun c5 G5 s5 h5=>?_
  walk_at "s"
  exact q _ _ (s13.trans (s4.trans s5)) (gM h5 (qR t _ _ _ _ rfl))
 walk_at "s"
 refine fQ (fun h=>?_) (fun h=>?_)
 ·clear h
  walk_at "s"
  refine .inl ⟨a,_,rfl,.inr (SqT.of ha),fun l nl=>?_⟩
  walk_at "s"
  exact q _ _ ((Same.refl H).upd nl) (Kd ao)
 walk_at "s"
 refine fQ (fun h=>?_) (fun h=>?_)
 ·clear h
  walk_at "s"
  refine cY ha fun c1 G1 s1 h1=>?_
  walk_at "s"
  exact q _ _ s1 (gM h1 (vh t _ _))
 walk_at "s"
 refine aF rfl fun c2 G2 _ s2 h2=>?_
 walk_at "s"
 refine oE (s2 _ _ ha) h2 (by simp;omega) fun c5 G5 s5 h5=>?_
 walk_at "s"
 exact q _ _ (s2.trans s5) (gM h5 (by rw [List.all_append,rN];rfl))
theorem qT:bF aG "_law_found":=by trivial
theorem Ay:bF aG "_law_word":=by trivial
theorem kz6m:cB aG "tuple":=by trivial
theorem rO:bF aG "_law_rows":=by trivial
theorem zm:bF aG "_law_draw":=by trivial
theorem Kl:bF aG "_law_part":=by trivial
theorem kz6q:cB aG "sorted":=by trivial
theorem Az:bF aG "_law_row":=by trivial
theorem Uu:bF aG "_law_some":=by trivial
theorem vX:bF aG "_law_at":=by trivial
theorem Yd:cB aG "max":=by trivial
theorem Ye:cB aG "len":=by trivial
theorem Yg:bF aG "_law_lists":=by trivial
theorem kz6x:cB aG "_law_row_spoilt":=by trivial
theorem Uv:cB aG "list":=by trivial
theorem Uw:bF aG "_law_news_here":=by trivial
theorem R3.mem {H:Hp} {us:List V} {L:List P3} (h:R3 H us L):∀ u∈us,∃ p,A3 H u p:=fun u hu=>by
 obtain ⟨i,hi,e⟩:=Zh.mp hu
 obtain ⟨p,_,ha⟩:=h.at (i:=i) (v:=u) (by rw [YL hi,e])
 exact ⟨p,ha⟩
theorem RT.mem {H:Hp} {us:List V} {L:List (List Int)} (h:RT H us L):∀ u∈us,∃ t∈L,AT H u t:=fun u hu=>by
 obtain ⟨i,hi,e⟩:=Zh.mp hu
 obtain ⟨p,hp,ha⟩:=h.at (i:=i) (v:=u) (by rw [YL hi,e])
 exact ⟨p,Zr hp,ha⟩
theorem Oj {H:Hp} {Q:VK} {p:Addr} {us:List V} (hp:H p=some (.lst us)) (hW:∀ u∈us,∃ t,t≠[]/\AT H u t) (hl:us.length<=1000)
  (h:∀ (q:Addr) (ys:List V) (H':Hp),H q=none->Same H H'->H' q=some (.lst ys)->ys.length=us.length->(∀ u∈ys,AZ H' u)->Q (.ref q) H'):xM [.ref p] H Q:=by
 have hus:us=(us.map Th).map V.ref:=by
  rw [ZL]
  conv=>lhs;rw [← List.map_id us]
  refine Aab fun v hv=>?_
  obtain ⟨t,_,a,rfl,_⟩:=hW v hv
  rfl
 have hc:∀ a∈us.map Th,∃ t,t≠[]/\H a=some (.tup (t.map V.int)):=fun a ha=>by
  obtain ⟨v,hv,rfl⟩:=Zd.mp ha
  obtain ⟨t,ht,a,rfl,hh⟩:=hW v hv
  exact ⟨t,ht,hh⟩
 refine yQ (as:=us.map Th) (Jp H) (by rw [← hus];exact hp) (by rw [YQ];omega) (fun a ha=>?_) fun q bs H' nq S hq pe pw=>?_
 ·obtain ⟨t,ht,hh⟩:=hc a ha
  rw [yc hh]
  exact ⟨hh,ht⟩
 ·refine h q (bs.map V.ref) H' nq S hq (by rw [YQ,pe.length_eq,YQ]) fun u hu=>?_
  obtain ⟨a,ha,rfl⟩:=Zd.mp hu
  obtain ⟨t,ht,hh⟩:=hc a (pe.mem_iff.mp ha)
  exact AT.az ⟨a,rfl,S _ _ hh⟩
def LZ (G:Hp) (v:V):Prop:=∃ c us,v= .ref c/\G c=some (.lst us)/\us.length<=100/\∀ u∈us,AZ G u
theorem LZ.same {G G':Hp} {v:V} (h:LZ G v) (s:Same G G'):LZ G' v:=by
 obtain ⟨c,us,e,h1,h2,h3⟩:=h
 exact ⟨c,us,e,s _ _ h1,h2,fun u hu=>(h3 u hu).same s⟩
theorem LZ.put {G:Hp} {v:V} {f:Addr} {xs ys:List V} (h:LZ G v) (hf:G f=some (.lst xs)) (hl:ys.length<=100) (hy:∀ u∈ys,AZ G u):LZ (upd G f (.lst ys)) v:=by
 obtain ⟨c,us,rfl,h1,h2,h3⟩:=h
 by_cases e:c=f
 ·subst e;exact ⟨c,ys,rfl,ao,hl,fun u hu=>(hy u hu).put hf⟩
 ·exact ⟨c,us,rfl,by rw [aC e];exact h1,h2,fun u hu=>(h3 u hu).put hf⟩
def ZZ (G:Hp) (v:V):Prop:=LZ G v\/(∃ t us,v= .ref t/\G t=some (.tup us))\/(∃ t,v= .ref t/\G t=some (.dK []))\/dG v=true
theorem ZZ.same {G G':Hp} {v:V} (h:ZZ G v) (s:Same G G'):ZZ G' v:=by
 rcases h with h | ⟨t,us,e,h⟩ | ⟨t,e,h⟩ | h
 ·exact .inl (h.same s)
 ·exact .inr (.inl ⟨t,us,e,s _ _ h⟩)
 ·exact .inr (.inr (.inl ⟨t,e,s _ _ h⟩))
 ·exact .inr (.inr (.inr h))
theorem ZZ.sn {G:Hp} {v:V} (h:ZZ G v):SN K G v 100:=by
 rcases h with ⟨c,us,rfl,h1,h2,h3⟩ | ⟨t,us,rfl,h⟩ | ⟨t,rfl,h⟩ | h
 ·exact nQ h1 h2 (by omega) h3
 ·exact Ke h
 ·exact Cv h
 ·cases v with
  | int n=>exact Kh
  | bl b=>exact PP
  | non=>exact Kg
  | str z=>exact Kf
  | _=>cases h
theorem ZZ.putf {G:Hp} {v:V} {f:Addr} {xs ys:List V} (h:ZZ G v) (hf:G f=some (.lst xs)) (hv:v≠.ref f):ZZ (upd G f (.lst ys)) v:=by
 rcases h with ⟨c,us,rfl,h1,h2,h3⟩ | ⟨t,us,e,h⟩ | ⟨t,e,h⟩ | h
 ·exact .inl ⟨c,us,rfl,by rw [aC (fun z=>hv (by rw [z]))];exact h1,h2,fun u hu=>(h3 u hu).put hf⟩
 ·exact .inr (.inl ⟨t,us,e,by rw [aC (fun z=>by rw [z,hf] at h;cases h)];exact h⟩)
 ·exact .inr (.inr (.inl ⟨t,e,by rw [aC (fun z=>by rw [z,hf] at h;cases h)];exact h⟩))
 ·exact .inr (.inr (.inr h))
theorem Ux {G:Hp} {f p:Nat} {x0 x1 x2 v:V} (hf:G f=some (.lst [x0,x1,x2])) (hp:p < 3) (h0:ZZ G x0) (h1:ZZ G x1) (h2:ZZ G x2) (hv:ZZ G v) (n0:x0≠.ref f) (n1:x1≠.ref f) (n2:x2≠.ref f) (nv:v≠.ref f):
  ∃ y0 y1 y2,upd G f (.lst ([x0,x1,x2].set p v)) f=some (.lst [y0,y1,y2])/\ZZ (upd G f (.lst ([x0,x1,x2].set p v))) y0/\ZZ (upd G f (.lst ([x0,x1,x2].set p v))) y1/\ZZ (upd G f (.lst ([x0,x1,x2].set p v))) y2:=by
 match p,hp with
 | 0,_=>exact ⟨_,_,_,ao,hv.putf hf nv,h1.putf hf n1,h2.putf hf n2⟩
 | 1,_=>exact ⟨_,_,_,ao,h0.putf hf n0,hv.putf hf nv,h2.putf hf n2⟩
 | 2,_=>exact ⟨_,_,_,ao,h0.putf hf n0,h1.putf hf n1,hv.putf hf nv⟩
 | p+3,hp=>omega
theorem vm {G:Hp} {a b:Addr} (ha:G a=none) (hb:∃ o,G b=some o):(V.ref a)≠V.ref b:=fun z=>by
 obtain ⟨o,hb⟩:=hb
 rw [V.ref.inj z,hb] at ha;cases ha
theorem nt3 {G:Hp} {t:Addr} {y0 y1 y2:V} (ht:G t=some (.tup [y0,y1,y2])) (h0:ZZ G y0) (h1:ZZ G y1) (h2:ZZ G y2):∃ x,NT K G (.ref t) x/\Tu x<=300:=by
 obtain ⟨⟨r0,a0,b0⟩,_⟩:=h0.sn (K:=K)
 obtain ⟨⟨r1,a1,b1⟩,_⟩:=h1.sn (K:=K)
 obtain ⟨⟨r2,a2,b2⟩,_⟩:=h2.sn (K:=K)
 exact ⟨some (r0,r1,r2),⟨t,y0,y1,y2,rfl,ht,a0,a1,a2⟩,by show Tt r0+Tt r1+Tt r2<=300;omega⟩
theorem Ol {c:TT} {X Y:TS} {D:Ends} {U:St} {H:Hp} (h:∀ FX:Hp->Prop,(∀ G,X D U G->FX G)->FJ c (fun _ _ G=>FX G) Y D U H):FJ c X Y D U H:=h (fun G=>X D U G) fun _ h=>h
def Yh (K:W.Frag):Sp:=fun vs H Q _=>∃ (ll a b n:Addr) (us ws:List V) (A B:List P3) (p w at_ d:Nat),vs=[.ref ll,.ref n,.int (p:Int),.int (w:Int),.int (at_:Int),.int (d:Int)]/\H ll=some (.lst [.ref a,.ref b])/\H a=some (.lst us)/\R3 H us A/\A.length<=50/\H b=some (.lst ws)/\R3 H ws B/\B.length<=50/\Nw H n A B/\p < 3/\w<=18/\∀ u H' x,Same H H'->NT K H' u x->Tu x<=300->fl u->Q u H'
theorem bV:aP ["_law_lists","_law_news_here","_law_part","_law_word","_law_at","_law_draw","_law_found","_law_rows","_law_some","_law_row"] ["_law_lists","_law_news_here","_law_part","_law_word","_law_at","_law_draw"] (aB aG):=⟨rfl,rfl,rfl,by trivial,rfl,by trivial,by trivial⟩
theorem gP (T:Txt K mg):mU P w K mg base 2 "_law_news_spoilt" ["_law_lists","_law_news_here","_law_part","_law_word","_law_at","_law_draw"] (Yh K):=by
 have iu:=iu (P:=P) (w:=w) (base:=base) T
 refine gf T.d_law_news_spoilt bV (fun _ _ _ _ _ _ us hl=>L2.usN6 (fun _ _ _ _ _ _=>rfl) us hl) ?_ fun f cdv A outer s H vs Q E hr h=>?_
 ·rintro vs H Q E ⟨ll,a,b,n,us,ws,A',B,p,w,at_,d,rfl,_⟩;rfl
 obtain ⟨ll,a,b,n,us,ws,A',B,p,w,at_,d,rfl,hll,ha,hA,lA,hb,hB,lB,hN,hp,hw,q⟩:=h
 have hu:=hr.units0
 have hu64:=hr.units
 refine ⟨_,(au (aR (i:=6) bV.nd rfl (Or.inl qT) (cX (aa (iM (gQ (K:=K) rfl rfl) (bC Uv) T.b_list jd (aa (aX (K:=K) rfl (aj 1 Uw) aq) ak) (by trivial) (by trivial)) (aa (iM (gQ (K:=K) rfl rfl) (bC Uv) T.b_list jd (aa (aX (K:=K) rfl (aj 1 Uw) aq) ak) (by trivial) (by trivial)) (aa (iM (gQ (K:=K) rfl rfl) (bC Uv) T.b_list jd (aa (aX (K:=K) rfl (aj 1 Uw) aq) ak) (by trivial) (by trivial)) ak)))) rfl) (au (aR (i:=7) bV.nd rfl (Or.inl rO) (aX (K:=K) rfl (aj 6 qT) (aj 2 Kl)) rfl) (au (bf (aM (bU (K:=K) rfl hu64) (aj 3 Ay) aq (by walk_at "p")) (aA (aD (aX (K:=K) rfl (cX (aa mR (aa aq (aa jc (aa xG (aa (aj 6 qT) (aa (bR (aa (aX (K:=K) rfl (aj 6 qT) aq) (aa (aX (K:=K) rfl (aj 6 qT) aq) ak))) (aa (bR (aa (aX (K:=K) rfl (aj 6 qT) aq) (aa (aX (K:=K) rfl (aj 6 qT) aq) (aa (aX (K:=K) rfl (aj 6 qT) aq) (aa (cX ak) ak))))) (aa (bR ak) ak))))))))) (aZ dW (aj 5 zm) aq)))) aQ) (au (bf (aM (bU (K:=K) rfl hu64) (aj 3 Ay) aq (by walk_at "p")) (aA (cR (ts:=fU) (aX (K:=K) rfl (cX (aa (iM (rW (K:=K) rfl rfl) (bC kz6m) T.b_tuple lH (aa (aj 7 rO) ak) (by trivial) (by trivial)) (aa mR (aa xG (aa jc (aa aq ak)))))) (aZ dW (aj 5 zm) aq)) (dY (aj 6 qT) (aj 2 Kl) (cT hu64)))) (aA (bf (jm (lN (aM ue (aj 3 Ay) aq (by walk_at "p")) (iT (aM (bU (K:=K) rfl hu64) (aj 7 rO) (cX ak) (by walk_at "p"))))) (au (aR (i:=8) bV.nd rfl (Or.inl Uu) (aZ (cA (K:=K) rfl) (aZ (cA (K:=K) rfl) (aX (K:=K) rfl (aj 0 Yg) aq) (aX (K:=K) rfl (aj 0 Yg) aq)) (cX (aa (bR (aa (aZ dW (aj 5 zm) aq) (aa (aZ dW (aj 5 zm) aq) (aa aq ak)))) ak))) rfl) (au (aR (i:=9) bV.nd rfl (Or.inl Az) (aX (K:=K) rfl (aj 8 Uu) (aZ dW (aj 4 vX) (aL (nY rfl) (bC Yd) T.b_max xm (aa aq (aa (aL (cH (K:=K) rfl) (bC Ye) T.b_len fV (aa (aj 8 Uu) ak) (by trivial) (by trivial)) ak)) (by trivial) (by trivial)))) rfl) (au (bf (aM (bU (K:=K) rfl hu64) (aj 2 Kl) aq (by walk_at "p")) (aA (aR (i:=9) bV.nd rfl (Or.inl Az) (bR (aa (aX (K:=K) rfl (aj 9 Az) aq) (aa (aX (K:=K) rfl (aj 9 Az) aq) (aa (aX (K:=K) rfl (aj 9 Az) aq) (aa (aX (K:=K) rfl (aj 9 Az) aq) (aa (aZ dW (aj 5 zm) aq) (aa (aZ dW (aj 5 zm) aq) ak))))))) rfl)) aQ) (au (f9 (pP (K:=K) rfl Aaf AaC AaD lG (aj 7 rO) (aa (aj 9 Az) ak))) (aA (bf (aM ue (aZ dW (aj 5 zm) aq) aq (by walk_at "p")) (aA (cR (ts:=fU) (aL d7 (bC kz6q) T.b_sorted gR (aa (aj 7 rO) ak) (by trivial) (by trivial)) (dY (aj 6 qT) (aj 2 Kl) (cT hu64)))) aQ)))))) (au (aR (i:=4) bV.nd rfl (Or.inl vX) (aZ dW (aj 4 vX) (aL (nY rfl) (bC Yd) T.b_max xm (aa aq (aa (aL (cH (K:=K) rfl) (bC Ye) T.b_len fV (aa (aj 7 rO) ak) (by trivial) (by trivial)) ak)) (by trivial) (by trivial))) rfl) (aA (bf (aM (mF (K:=K) rfl hu64) (aj 3 Ay) aq (by walk_at "p")) (aA (cR (ts:=fU) (aK iu (hr.mono (by decide)) (bC kz6x) (aa (aX (K:=K) rfl (aj 7 rO) (aj 4 vX)) (aa (aj 3 Ay) (aa (aj 5 zm) ak))) (by trivial)) (dY (aj 7 rO) (aj 4 vX) (cT hu64)))) (aA (bf (aM (mF (K:=K) rfl hu64) (aj 3 Ay) aq (by walk_at "p")) (aA (f9 (pP (K:=K) rfl Aaf PySem.F.slot_list_pop PySem.F.type_list_pop Mp (aj 7 rO) (aa (aj 4 vX) ak)))) (aA (bf (aM (mF (K:=K) rfl hu64) (aj 3 Ay) aq (by walk_at "p")) (aA (f9 (pP (K:=K) rfl Aaf PySem.F.slot_list_insert PySem.F.type_list_insert Em (aj 7 rO) (aa (aj 4 vX) (aa (aX (K:=K) rfl (aj 7 rO) (aj 4 vX)) ak))))) (aA (cR (ts:=fU) (aZ (cA (K:=K) rfl) (bz (bA (K:=K) rfl) (aj 7 rO) (bh (aj 4 vX)) bH) (bz (bA (K:=K) rfl) (aj 7 rO) bH (bh (aj 4 vX)))) (dY (aj 6 qT) (aj 2 Kl) (cT hu64)))))))))))))) (aA (aD (bR (aa (aX (K:=K) rfl (aj 6 qT) aq) (aa (aX (K:=K) rfl (aj 6 qT) aq) (aa (aX (K:=K) rfl (aj 6 qT) aq) ak)))))))))),?_⟩
 walk_at "s"
 have hs:20000<=sizeLine:=by decide
 obtain ⟨c,l,m,cs,ls,ms,hn,hc,hC,hl,hL,hm,hM⟩:=hN
 walk_at "s"
 refine tD (SqL.of hc) fun c0 nc0=>?_
 walk_at "s"
 have S1:=(Same.refl H).upd nc0 (o:=.lst cs)
 have hc0:=ao (H:=H) (a:=c0) (o:=.lst cs)
 generalize upd H c0 (.lst cs)=H1 at S1 hc0 ⊢
 have hn1:=S1 _ _ hn
 walk_at "s"
 refine tD (SqL.of (S1 _ _ hl)) fun c1 nc1=>?_
 walk_at "s"
 have S2:=(Same.refl H1).upd nc1 (o:=.lst ls)
 have hc1:=ao (H:=H1) (a:=c1) (o:=.lst ls)
 generalize upd H1 c1 (.lst ls)=H2 at S2 hc1 ⊢
 have hn2:=S2 _ _ hn1
 walk_at "s"
 refine tD (SqL.of (S2 _ _ (S1 _ _ hm))) fun c2 nc2=>?_
 walk_at "s"
 have S3:=(Same.refl H2).upd nc2 (o:=.lst ms)
 have hc2:=ao (H:=H2) (a:=c2) (o:=.lst ms)
 generalize upd H2 c2 (.lst ms)=H3 at S3 hc2 ⊢
 walk_at "s"
 refine aF rfl fun f H4 nf S4 hf=>?_
 walk_at "s"
 have n0:V.ref c0≠V.ref f:=(vm nf ⟨_,(S2.trans S3) _ _ hc0⟩).symm
 have n1:V.ref c1≠V.ref f:=(vm nf ⟨_,S3 _ _ hc1⟩).symm
 have n2:V.ref c2≠V.ref f:=(vm nf ⟨_,hc2⟩).symm
 have U4:=S1.trans (S2.trans (S3.trans S4))
 have nf0:H f=none:=Same.back (S1.trans (S2.trans S3)) nf
 have nc10:H c1=none:=Same.back S1 nc1
 have nc20:H c2=none:=Same.back (S1.trans S2) nc2
 have hc04:=(S2.trans (S3.trans S4)) _ _ hc0
 have hc14:=(S3.trans S4) _ _ hc1
 have hc24:=S4 _ _ hc2
 have lCn:=mJ B A'
 have lLn:=mJ A' B
 have lMn:(mv A' B).length<=B.length:=tR _
 have lcs:=hC.1
 have lls:=hL.1
 have lms:=hM.1
 have ne3:∀ (X:List P3),∀ t∈X.map i3,t≠[]/\t.length<=6:=fun X t ht=>by
  have:=qQ X t ht
  exact ⟨(fun z=>by rw [z] at this;simp at this),by omega⟩
 have ne6:∀ t∈mv A' B,t≠[]/\t.length<=6:=fun t ht=>by
  have:=Aq A' B t ht
  exact ⟨(fun z=>by rw [z] at this;simp at this),by omega⟩
 have z0:LZ H4 (.ref c0):=⟨c0,cs,rfl,hc04,by omega,fun u hu=>(hC.all u hu).same U4⟩
 have z1:LZ H4 (.ref c1):=⟨c1,ls,rfl,hc14,by omega,fun u hu=>(hL.all u hu).same U4⟩
 have z2:LZ H4 (.ref c2):=⟨c2,ms,rfl,hc24,by omega,fun u hu=>(hM.all u hu).same U4⟩
 obtain ⟨r,rs,ts,hri,hr4,hrT,lrs,hts,nr0,nrf⟩:∃ (r:Addr) (rs:List V) (ts:List (List Int)),([V.ref c0,V.ref c1,V.ref c2]:List V)[p]?=some (.ref r)/\H4 r=some (.lst rs)/\RT H4 rs ts/\rs.length<=50/\(∀ t∈ts,t≠[]/\t.length<=6)/\H r=none/\V.ref r≠V.ref f:=by
  match p,hp with
  | 0,_=>exact ⟨c0,cs,_,rfl,hc04,(hC.same U4).rt,by omega,ne3 _,nc0,n0⟩
  | 1,_=>exact ⟨c1,ls,_,rfl,hc14,(hL.same U4).rt,by omega,ne3 _,nc10,n1⟩
  | 2,_=>exact ⟨c2,ms,_,rfl,hc24,hM.same U4,by omega,ne6,nc20,n2⟩
  | p+3,hp=>omega
 have hll4:=U4 _ _ hll
 have ha4:=U4 _ _ ha
 have hb4:=U4 _ _ hb
 have hA4:=hA.same U4
 have hB4:=hB.same U4
 clear hc0 hc1 hc2 hc hl hm hn hn1 hn2 hC hL hM S1 S2 S3 S4 nc0 nc1 nc2 nc10 nc20 nf hc04 hc14 hc24 hll ha hb hA hB
 refine bW (SqL.of hf) (bw hri) ?_
 walk_at "s"
 walk_at "s"
 refine fQ (fun h18=>?_) (fun h18=>?_)
 ·walk_at "s"
  intro e nd
  have S5:=(Same.refl H4).upd nd (o:=.dK [])
  have he5:=ao (H:=H4) (a:=e) (o:=.dK [])
  generalize upd H4 e (.dK [])=H5 at S5 he5 ⊢
  have hf5:=S5 _ _ hf
  walk_at "s"
  refine aF rfl fun t1 H6 _ S6 ht1=>?_
  walk_at "s"
  have hf6:=S6 _ _ hf5
  walk_at "s"
  refine aF rfl fun e1 H7 _ S7 he1=>?_
  walk_at "s"
  refine aF rfl fun t2 H8 _ S8 ht2=>?_
  walk_at "s"
  refine aF rfl fun t3 H9 _ S9 ht3=>?_
  walk_at "s"
  refine aF rfl fun zz HA _ SA hzz=>?_
  walk_at "s"
  have W8:=S9.trans SA
  have W7:=S8.trans W8
  have W6:=S7.trans W7
  have W5:=S6.trans W6
  have hpick:∀ m,m < 8->∃ u,([V.non,V.int 0,V.str (Str.ofString "news"),V.ref e,V.ref f,V.ref t1,V.ref t2,V.ref t3]:List V)[m]?=some u/\NT K HA u none/\fl u:=fun m hm=>by
   match m,hm with
   | 0,_=>exact ⟨_,rfl,.inl ⟨"NoneType",.non,rfl⟩,.inl rfl⟩
   | 1,_=>exact ⟨_,rfl,.inl ⟨"int",.int _,rfl⟩,.inl rfl⟩
   | 2,_=>exact ⟨_,rfl,.inl ⟨"str",.str _,rfl⟩,.inl rfl⟩
   | 3,_=>exact ⟨_,rfl,.inl ⟨"dict",.dK (W5 _ _ he5),rfl⟩,.inr ⟨_,rfl⟩⟩
   | 4,_=>exact ⟨_,rfl,.inl ⟨"list",.lst (W5 _ _ hf5),rfl⟩,.inr ⟨_,rfl⟩⟩
   | 5,_=>exact ⟨_,rfl,.inr ⟨t1,_,rfl,W6 _ _ ht1,by simp⟩,.inr ⟨_,rfl⟩⟩
   | 6,_=>exact ⟨_,rfl,.inr ⟨t2,_,rfl,W8 _ _ ht2,by simp⟩,.inr ⟨_,rfl⟩⟩
   | 7,_=>exact ⟨_,rfl,.inr ⟨t3,_,rfl,SA _ _ ht3,by simp⟩,.inr ⟨_,rfl⟩⟩
   | m+8,hm=>omega
  obtain ⟨u,hu,hnt,hfl⟩:=hpick (d % 8) (Nat.mod_lt _ (by omega))
  refine bW (SqL.of hzz) (show zq _ ((d:Int) % 8)=some u from by rw [show (d:Int) % 8=((d % 8:Nat):Int) by omega];exact bw hu) ?_
  walk_at "s"
  exact q _ _ none (U4.trans (S5.trans W5)) hnt (Aaj _) hfl
 walk_at "n"
 have ixp:zJ ([V.ref c0,V.ref c1,V.ref c2]:List V).length (p:Int)=some p:=by
  unfold zJ
  rw [if_pos (by omega),if_pos (by simp;omega)]
  rfl
 with_reducible refine BR (fun U G=>Same H G/\∃ (x4 x8 x9:Option V) (y0 y1 y2:V),U=[some (.ref ll),some (.ref n),some (.int (p:Int)),some (.int (w:Int)),x4,some (.int (d:Int)),some (.ref f),some (.ref r),x8,x9]/\G f=some (.lst [y0,y1,y2])/\ZZ G y0/\ZZ G y1/\ZZ G y2) ?_ ?_
 rotate_left
 ·intro N hN
  have fin1:∀ (G:Hp) (ys:List V) (x4 x8 x9:Option V),Same H4 G->ys.length<=100->(∀ u∈ys,AZ G u)->N [some (.ref ll),some (.ref n),some (.int (p:Int)),some (.int (w:Int)),x4,some (.int (d:Int)),some (.ref f),some (.ref r),x8,x9] (upd G r (.lst ys)):=fun G ys x4 x8 x9 s hl hy=>
   hN _ _ ⟨Same.put (U4.trans s) nr0,_,_,_,_,_,_,rfl,by rw [aC (fun z=>nrf (by rw [z]))];exact s _ _ hf,.inl ((z0.same s).put (s _ _ hr4) hl hy),.inl ((z1.same s).put (s _ _ hr4) hl hy),.inl ((z2.same s).put (s _ _ hr4) hl hy)⟩
  walk_at "s"
  refine fQ (fun h17=>?_) (fun h17=>?_)
  ·walk_at "s"
   refine .inl ⟨r,rs,rfl,.inl ⟨SqL.of hr4,fun l nl=>?_⟩⟩
   walk_at "s"
   have S5:=(Same.refl H4).upd nl (o:=.tup rs)
   have hl5:=ao (H:=H4) (a:=l) (o:=.tup rs)
   generalize upd H4 l (.tup rs)=H5 at S5 hl5 ⊢
   walk_at "s"
   intro e nd
   have S6:=(Same.refl H5).upd nd (o:=.dK [])
   have he6:=ao (H:=H5) (a:=e) (o:=.dK [])
   generalize upd H5 e (.dK [])=H6 at S6 he6 ⊢
   walk_at "s"
   refine aF rfl fun zz H7 _ S7 hzz=>?_
   walk_at "s"
   have W6:=S6.trans S7
   have W5:=S5.trans W6
   have hpick:∀ m,m < 5->∃ u,([V.ref l,V.non,V.ref e,V.str (Str.ofString ""),V.int 0]:List V)[m]?=some u/\ZZ H7 u/\u≠.ref f:=fun m hm=>by
    match m,hm with
    | 0,_=>exact ⟨_,rfl,.inr (.inl ⟨l,rs,rfl,W6 _ _ hl5⟩),vm nl ⟨_,hf⟩⟩
    | 1,_=>exact ⟨_,rfl,.inr (.inr (.inr rfl)),(fun z=>by cases z)⟩
    | 2,_=>exact ⟨_,rfl,.inr (.inr (.inl ⟨e,rfl,S7 _ _ he6⟩)),vm nd ⟨_,S5 _ _ hf⟩⟩
    | 3,_=>exact ⟨_,rfl,.inr (.inr (.inr rfl)),(fun z=>by cases z)⟩
    | 4,_=>exact ⟨_,rfl,.inr (.inr (.inr rfl)),(fun z=>by cases z)⟩
    | m+5,hm=>omega
   obtain ⟨u,hu,hzu,hnu⟩:=hpick (d % 5) (Nat.mod_lt _ (by omega))
   refine bW (SqL.of hzz) (show zq _ ((d:Int) % 5)=some u from by rw [show (d:Int) % 5=((d % 5:Nat):Int) by omega];exact bw hu) ?_
   walk_at "s"
   walk_at "s"
   refine nZ (W5 _ _ hf) ixp ?_
   obtain ⟨y0,y1,y2,g1,g2,g3,g4⟩:=Ux (W5 _ _ hf) hp (.inl (z0.same W5)) (.inl (z1.same W5)) (.inl (z2.same W5)) hzu n0 n1 n2 hnu
   exact hN _ _ ⟨Same.put (U4.trans W5) nf0,_,_,_,y0,y1,y2,rfl,g1,g2,g3,g4⟩
  ·with_reducible refine Ol fun FX hFX=>?_
   have app:∀ G,Same H4 G->FX G:=fun G s=>hFX G (by
    have hll5:=s _ _ hll4
    have lus:=hA4.1
    have lws:=hB4.1
    walk_at "s"
    refine jK (s _ _ ha4) (s _ _ hb4) (by omega) fun c3 n3=>?_
    walk_at "s"
    have s5:=(Same.refl G).upd n3 (o:=.lst (us ++ ws))
    have h5:=ao (H:=G) (a:=c3) (o:=.lst (us ++ ws))
    generalize upd G c3 (.lst (us ++ ws))=G5 at s5 h5 ⊢
    walk_at "s"
    refine aF rfl fun t6 G6 _ s6 h6=>?_
    walk_at "s"
    refine aF rfl fun c7 G7 _ s7 h7=>?_
    walk_at "s"
    have s67:=s6.trans s7
    refine jK (s67 _ _ h5) h7 (by simp;omega) fun c8 n8=>?_
    walk_at "s"
    have s8:=(Same.refl G7).upd n8 (o:=.lst (us ++ ws ++ [.ref t6]))
    have h8:=ao (H:=G7) (a:=c8) (o:=.lst (us ++ ws ++ [.ref t6]))
    generalize upd G7 c8 (.lst (us ++ ws ++ [.ref t6]))=G8 at s8 h8 ⊢
    have U8:=s.trans (s5.trans (s67.trans s8))
    have hsm:∀ u∈us ++ ws ++ [V.ref t6],∃ p,A3 G8 u p:=fun u hu=>by
     rcases Y8.mp hu with hu | hu
     ·rcases Y8.mp hu with hu | hu
      ·exact (hA4.same U8).mem u hu
      ·exact (hB4.same U8).mem u hu
     ·rw [ZK.mp hu]
      exact ⟨((d:Int) % 49,(d:Int) % 24,24),t6,rfl,(s7.trans s8) _ _ h6⟩
    have hl8:(us ++ ws ++ [V.ref t6]).length≠0:=by simp
    walk_at "s"
    refine kh (SqL.of h8) ?_
    walk_at "s"
    generalize us ++ ws ++ [V.ref t6]=so at h8 hsm hl8 ⊢
    walk_at "s"
    rw [Oh,md]
    have hk:=Cw (w:=at_) hl8
    generalize at_ % Nat.max 1 so.length=k at hk
    obtain ⟨u,hu⟩:∃ u,so[k]?=some u:=⟨_,YL hk⟩
    obtain ⟨p',t,rfl,ht⟩:=hsm u (Zr hu)
    replace ht:G8 t=some (.tup [.int p'.1,.int p'.2.1,.int p'.2.2]):=ht
    refine bW (SqL.of h8) (bw hu) ?_
    walk_at "n"
    with_reducible refine BR (fun U G'=>Same G8 G'/\∃ (t:Addr) (tt:List Int),U=[some (.ref ll),some (.ref n),some (.int (p:Int)),some (.int (w:Int)),some (.int (at_:Int)),some (.int (d:Int)),some (.ref f),some (.ref r),some (.ref c8),some (.ref t)]/\tt≠[]/\G' t=some (.tup (tt.map V.int))) ?_ ?_
    rotate_left
    ·intro N hN
     walk_at "s"
     refine fQ (fun h=>?_) (fun h=>?_)
     ·walk_at "s"
      refine aF rfl fun t9 G9 _ s9 h9=>?_
      walk_at "s"
      exact hN _ _ ⟨s9,t9,[p'.2.1,p'.2.2,p'.1,p'.1,(d:Int) % 3,(d:Int) % 3],rfl,(fun z=>by cases z),h9⟩
     ·walk_at "s"
      exact hN _ _ ⟨Same.refl _,t,i3 p',rfl,(fun z=>by cases z),ht⟩
    rintro U G9 ⟨s9,t',tt,rfl,htt,ht9⟩
    have U9:=U8.trans s9
    have hr9:=U9 _ _ hr4
    walk_at "s"
    refine ⟨.inl ⟨rfl,_,SqL.of hr9⟩,?_⟩
    walk_at "s"
    refine lO hr9 (by omega) ?_
    walk_at "s"
    have hyz:∀ u∈rs ++ [V.ref t'],∃ t,t≠[]/\AT G9 u t:=fun u hu=>by
     rcases Y8.mp hu with hu | hu
     ·obtain ⟨t,h1,h2⟩:=(hrT.same U9).mem u hu
      exact ⟨t,(hts t h1).1,h2⟩
     ·rw [ZK.mp hu]
      exact ⟨tt,htt,t',rfl,ht9⟩
    have hya:∀ u∈rs ++ [V.ref t'],AZ G9 u:=fun u hu=>by
     obtain ⟨t,_,h⟩:=hyz u hu
     exact h.az
    have hyl:(rs ++ [V.ref t']).length<=100:=by simp;omega
    walk_at "s"
    refine fQ (fun h=>?_) (fun h=>?_)
    ·walk_at "s"
     have hfz:upd G9 r (.lst (rs ++ [.ref t'])) f=some (.lst [V.ref c0,V.ref c1,V.ref c2]):=by rw [aC (fun z=>nrf (by rw [z]))];exact U9 _ _ hf
     have q0:=(z0.same U9).put hr9 hyl hya
     have q1:=(z1.same U9).put hr9 hyl hya
     have q2:=(z2.same U9).put hr9 hyl hya
     have hyz':∀ u∈rs ++ [V.ref t'],∃ t,t≠[]/\AT (upd G9 r (.lst (rs ++ [.ref t']))) u t:=fun u hu=>by
      obtain ⟨t,h1,a,rfl,h2⟩:=hyz u hu
      exact ⟨t,h1,a,rfl,by rw [aC (fun z=>by rw [z,hr9] at h2;cases h2)];exact h2⟩
     have sA:Same H (upd G9 r (.lst (rs ++ [.ref t']))):=Same.put (U4.trans U9) nr0
     have hrA:=ao (H:=G9) (a:=r) (o:=.lst (rs ++ [.ref t']))
     generalize upd G9 r (.lst (rs ++ [.ref t']))=GA at hfz q0 q1 q2 hyz' sA hrA ⊢
     refine Oj hrA hyz' (by omega) fun qq ys GB nq sB hq lq hB=>?_
     try walk_at "s"
     refine nZ (sB _ _ hfz) ixp ?_
     obtain ⟨y0,y1,y2,g1,g2,g3,g4⟩:=Ux (sB _ _ hfz) hp (.inl (q0.same sB)) (.inl (q1.same sB)) (.inl (q2.same sB)) (v:=.ref qq) (.inl ⟨qq,ys,rfl,hq,by omega,hB⟩) n0 n1 n2 (vm nq ⟨_,hfz⟩)
     exact hN _ _ ⟨Same.put (sA.trans sB) nf0,_,_,_,y0,y1,y2,rfl,g1,g2,g3,g4⟩
    ·walk_at "s"
     exact fin1 G9 _ _ _ _ U9 hyl hya)
   walk_at "s"
   refine fQ (fun h13=>?_) (fun h13=>?_)
   ·exact app _ (Same.refl _)
   walk_at "s"
   refine aF rfl fun e0 H5 _ S5 he0=>?_
   walk_at "s"
   refine .inl (.inl (uB (e:=Fq []) ((hrT.same S5).dr (S5 _ _ hr4)) (xu.mpr ⟨e0,[],rfl,he0,qy.mpr rfl⟩) (vf _) (vf _) ?_))
   rw [qP]
   by_cases hts0:ts=[]
   ·rw [YZ hts0]
    refine ⟨_,rfl,?_⟩
    exact app _ S5
   ·rw [Y5 hts0]
    refine ⟨_,rfl,?_⟩
    walk_at "s"
    have hr5:=S5 _ _ hr4
    refine kh (SqL.of hr5) ?_
    walk_at "s"
    walk_at "s"
    rw [Oh,md]
    have hl0:rs.length≠0:=fun z=>hts0 (List.length_eq_zero_iff.mp (by rw [← hrT.1];exact z))
    have hk:=Cw (w:=at_) hl0
    generalize at_ % Nat.max 1 rs.length=k at hk
    obtain ⟨v,hv⟩:∃ v,rs[k]?=some v:=⟨_,YL hk⟩
    obtain ⟨tt,htt,b',rfl,hb'⟩:=(hrT.same S5).mem v (Zr hv)
    have ixk:zJ rs.length (k:Int)=some k:=by
     unfold zJ
     rw [if_pos (by omega),if_pos (by omega)]
     rfl
    have hall:∀ u∈rs,AZ H5 u:=(hrT.same S5).all
    walk_at "s"
    refine fQ (fun h=>?_) (fun h=>?_)
    ·walk_at "s"
     refine bW (SqL.of hr5) (bw hv) ?_
     walk_at "s"
     refine ⟨b',tt,w,d,rfl,hb',(fun z=>(hts tt htt).1 (List.length_eq_zero_iff.mp z)),(by have:=(hts tt htt).2;omega),fun u G s hu=>?_⟩
     walk_at "s"
     refine nZ (s _ _ hr5) ixk ?_
     refine fin1 G _ _ _ _ (S5.trans s) (by rw [Aat];omega) fun x hx=>?_
     rcases Cy hx with h | rfl
     ·exact (hall x h).same s
     ·exact hu
    walk_at "s"
    refine fQ (fun h=>?_) (fun h=>?_)
    ·walk_at "s"
     refine ⟨.inl ⟨rfl,_,SqL.of hr5⟩,?_⟩
     walk_at "s"
     refine RQ hr5 hv (by omega) ?_
     walk_at "s"
     exact fin1 H5 _ _ _ _ S5 (by have:=List.length_eraseIdx_le rs k;omega) fun x hx=>hall x (List.mem_of_mem_eraseIdx hx)
    walk_at "s"
    refine fQ (fun h=>?_) (fun h=>?_)
    ·walk_at "s"
     refine ⟨.inl ⟨rfl,_,SqL.of hr5⟩,?_⟩
     walk_at "s"
     refine bW (SqL.of hr5) (bw hv) ?_
     walk_at "s"
     refine Iv hr5 (by omega) (by omega) ?_
     walk_at "s"
     refine fin1 H5 _ _ _ _ S5 (by simp;omega) fun x hx=>?_
     rcases Y8.mp hx with h | h
     ·exact hall x (AaK h)
     ·rcases Zg.mp h with rfl | h
      ·exact hall _ (Zr hv)
      ·exact hall x (Aa5 h)
    walk_at "s"
    have hcl:∀ lo hi,(dI rs lo hi).length<=50:=fun lo hi=>by have:=iI rs lo hi;omega
    refine mD hr5 fun c3 G1 n3 s3 hc3=>?_
    walk_at "s"
    refine mD (s3 _ _ hr5) fun c4 G2 n4 s4 hc4=>?_
    walk_at "s"
    refine jK (s4 _ _ hc3) hc4 (by have:=hcl none (some (k:Int));have:=hcl (some (k:Int)) none;omega) fun c5 n5=>?_
    walk_at "s"
    have s5:=(s3.trans s4).upd n5 (o:=.lst (dI rs (some (k:Int)) none ++ dI rs none (some (k:Int))))
    have h5:=ao (H:=G2) (a:=c5) (o:=.lst (dI rs (some (k:Int)) none ++ dI rs none (some (k:Int))))
    generalize upd G2 c5 (.lst (dI rs (some (k:Int)) none ++ dI rs none (some (k:Int))))=G3 at s5 h5 ⊢
    have W:=S5.trans s5
    have zc:LZ G3 (.ref c5):=⟨c5,_,rfl,h5,by
     rw [YX]
     have:=hcl none (some (k:Int));have:=hcl (some (k:Int)) none
     omega,fun x hx=>by
     rcases Y8.mp hx with h | h
     ·exact (hall x (jO h)).same s5
     ·exact (hall x (jO h)).same s5⟩
    walk_at "s"
    refine nZ (W _ _ hf) ixp ?_
    obtain ⟨y0,y1,y2,g1,g2,g3,g4⟩:=Ux (W _ _ hf) hp (.inl (z0.same W)) (.inl (z1.same W)) (.inl (z2.same W)) (v:=.ref c5) (.inl zc) n0 n1 n2 (vm n5 ⟨_,(S5.trans (s3.trans s4)) _ _ hf⟩)
    exact hN _ _ ⟨Same.put (U4.trans W) nf0,_,_,_,y0,y1,y2,rfl,g1,g2,g3,g4⟩
 ·rintro U G ⟨s,x4,x8,x9,y0,y1,y2,rfl,hfG,hy0,hy1,hy2⟩
  walk_at "s"
  refine aF rfl fun t G1 nt s1 ht=>?_
  walk_at "s"
  obtain ⟨x,hx,hz⟩:=nt3 (K:=K) ht (hy0.same s1) (hy1.same s1) (hy2.same s1)
  exact q _ _ x (s.trans s1) hx hz (.inr ⟨t,rfl⟩)
theorem Uy:bF dU "_law_script":=by trivial
theorem Yi:bF dU "_law_cell_here":=by trivial
theorem Yj:cB dU "_law_tried":=by trivial
theorem kz73:cB dU "_law_news_spoilt":=by trivial
theorem Yk:bF dU "_law_draw":=by trivial
theorem Uz:bF dU "_law_at":=by trivial
theorem Yl:bF dU "_law_other":=by trivial
theorem Ym:bF dU "_law_part":=by trivial
theorem Km:bF dU "_law_news_here":=by trivial
theorem Om:bF dU "_law_lists":=by trivial
theorem Ba:bF dU "_law_ahead":=by trivial
theorem Yn:cB dU "_law_judged":=by trivial
theorem UG:bF dU "_law_side":=by trivial
theorem kz7d:cB dU "_law_list_spoilt":=by trivial
theorem Yo:bF dU "_law_word":=by trivial
theorem Oo:bF dU "_law_behind":=by trivial
theorem kz7g:cB dU "_law_drawn":=by trivial
theorem kz7h:cB dU "_law_news":=by trivial
theorem kz7i:cB dU "_law_next":=by trivial
theorem Yp:cB dU "_law_cell":=by trivial
theorem kz7k:cB dU "_law_list":=by trivial
theorem Yq {xs:List V}:(dI xs (some ((2:Nat):Int)) (some ((32:Nat):Int))).length<=30:=by
 unfold dI
 rw [HT.sIx_nat,HT.sIx_nat,Zb]
 omega
theorem Yr {ms:List Int} {x0 x1 x2 x3 x4 x5:Int} (h:Fits ms [x0,x1,x2,x3,x4,x5]):∃ a b c d e f:Nat,ms=[(a:Int),(b:Int),(c:Int),(d:Int),(e:Int),(f:Int)]/\(a:Int) < x0/\(b:Int) < x1/\(d:Int) < x3/\(e:Int) < x4:=by
 obtain ⟨hl,h⟩:=h
 match ms,hl with
 | [a,b,c,d,e,f],_=>
  have h0:=h 0 _ _ rfl rfl
  have h1:=h 1 _ _ rfl rfl
  have h2:=h 2 _ _ rfl rfl
  have h3:=h 3 _ _ rfl rfl
  have h4:=h 4 _ _ rfl rfl
  have h5:=h 5 _ _ rfl rfl
  exact ⟨a.toNat,b.toNat,c.toNat,d.toNat,e.toNat,f.toNat,by rw [Aac h0.1,Aac h1.1,Aac h2.1,Aac h3.1,Aac h4.1,Aac h5.1],by omega,by omega,by omega,by omega⟩
theorem Ko (A B:List P3):(mv A B).length<=B.length:=tR _
theorem Nw.nt {H:Hp} {n:Addr} {A B:List P3} (h:Nw H n A B) (lA:A.length<=50) (lB:B.length<=50):NT K H (.ref n) (some (some ((gm B A).map o3),some ((gm A B).map o3),some ((mv A B).map oT))):=by
 obtain ⟨c,l,m,cs,ls,ms,hn,hc,hC,hl,hL,hm,hM⟩:=h
 have:=mJ B A
 have:=mJ A B
 have:=Ko A B
 exact ⟨n,_,_,_,rfl,hn,R3.sl hc hC (by omega),R3.sl hl hL (by omega),RT.sl hm hM (by omega)⟩
theorem Ys {A B:List P3} (lA:A.length<=50) (lB:B.length<=50):Tu (some (some ((gm B A).map o3),some ((gm A B).map o3),some ((mv A B).map oT)))<=300:=by
 show ((gm B A).map o3).length+((gm A B).map o3).length+((mv A B).map oT).length<=300
 rw [YQ,YQ,YQ]
 have:=mJ B A
 have:=mJ A B
 have:=Ko A B
 omega
def PQ (K:W.Frag):Sp:=fun vs H Q _=>∃ (a:Addr) (ns:List Int),vs=[.ref a]/\SqL K H a (ns.map V.int)/\ns.length<=63/\∀ H',Q (.bl true) H'
theorem iZ:aP ["_law_script","_law_ahead","_law_behind","_law_news_here","_law_cell_here","_law_side","_law_word","_law_at","_law_other","_law_part","_law_draw","_law_lists"] ["_law_script"] (aB dU):=⟨rfl,rfl,rfl,by trivial,rfl,by trivial,by trivial⟩
theorem UJ (T:Txt K mg) {f0:Addr} {fd0:FuncData} (F0:Fun K "law" "law" dU f0 fd0):qX P w K mg base Dh 12 f0 fd0 ["_law_script"] (PQ K):=by
 have ik:=ik (P:=P) (w:=w) (base:=base) T
 have mL:=mL (P:=P) (w:=w) (base:=base) T
 have pZ:=pZ (P:=P) (w:=w) (base:=base) T
 have ig:=ig (P:=P) (w:=w) (base:=base) T
 have jf:=jf (P:=P) (w:=w) (base:=base) T
 have jN:=jN (P:=P) (w:=w) (base:=base) T
 have cW:=cW (P:=P) (w:=w) (base:=base) T
 have gO:=gO (P:=P) (w:=w) (base:=base) T
 have gP:=gP (P:=P) (w:=w) (base:=base) T
 refine okJ F0 iZ ?_ fun f cdv A outer s H vs Q E hr h=>?_
 ·rintro vs H Q E ⟨sc,ns,rfl,_⟩;rfl
 obtain ⟨sc,ns,rfl,hS,hlen,q⟩:=h
 have hu:=hr.units0
 have hu64:=hr.units
 refine ⟨_,(au (aR (i:=1) iZ.nd rfl (Or.inl Ba) (aK ik (hr.mono (by decide)) (bC kz7k) (aa (aK mL (hr.mono (by decide)) (bC Yp) (aa (aj 0 Uy) (aa aq ak)) (by trivial)) ak) (by trivial)) rfl) (au (aR (i:=2) iZ.nd rfl (Or.inl Oo) (aK pZ (hr.mono (by decide)) (bC kz7i) (aa (aK mL (hr.mono (by decide)) (bC Yp) (aa (aj 0 Uy) (aa aq ak)) (by trivial)) (aa (aj 1 Ba) ak)) (by trivial)) rfl) (au (aR (i:=3) iZ.nd rfl (Or.inl Km) (aK ig (hr.mono (by decide)) (bC kz7h) (aa (aj 1 Ba) (aa (aj 2 Oo) ak)) (by trivial)) rfl) (au (bf (jm (lN (dD (dJ (aK jf (hr.mono (by decide)) (bC Yn) (aa (aj 1 Ba) (aa (aj 2 Oo) (aa (aj 3 Km) ak))) (by trivial)))) (iT (dD (dJ (aK jN (hr.mono (by decide)) (bC Yj) (aa (aj 1 Ba) (aa (aj 3 Km) ak)) (by trivial))))))) (aA (aD iR)) aQ) (au (fu ZS rfl (fW (K:=K) rfl (bz (bA (K:=K) rfl) (aj 0 Uy) (bh aq) (bh aq))) (aO (i:=4) iZ.nd rfl (Or.inl Yi) rfl) (au (jH (aK cW (hr.mono (by decide)) (bC kz7g) (aa (aj 4 Yi) (aa (cX (aa aq (aa aq (aa aq (aa aq (aa aq (aa aq ak))))))) ak)) (by trivial)) (jG (K:=K) rfl rfl (aU (aO (i:=5) iZ.nd rfl (Or.inl UG) rfl) (aU (aO (i:=6) iZ.nd rfl (Or.inl Yo) rfl) (aU (aO (i:=7) iZ.nd rfl (Or.inl Uz) rfl) (aU (aO (i:=8) iZ.nd rfl (Or.inl Yl) rfl) (aU (aO (i:=9) iZ.nd rfl (Or.inl Ym) rfl) (aU (aO (i:=10) iZ.nd rfl (Or.inl Yk) rfl) gF)))))))) (au (aR (i:=11) iZ.nd rfl (Or.inl Om) (cX (aa (aj 1 Ba) (aa (aj 2 Oo) ak))) rfl) (au (bf (dD (dJ (aK jf (hr.mono (by decide)) (bC Yn) (aa (aK gO (hr.mono (by decide)) (bC kz7d) (aa (aX (K:=K) rfl (aj 11 Om) (aj 5 UG)) (aa (aj 6 Yo) (aa (aj 7 Uz) ak))) (by trivial)) (aa (aX (K:=K) rfl (aj 11 Om) (aZ pK aq (aj 5 UG))) (aa (aj 3 Km) ak))) (by trivial)))) (aA (aD iR)) aQ) (aA (bf (dD (dJ (aK jN (hr.mono (by decide)) (bC Yj) (aa (aj 1 Ba) (aa (aK gP (hr.mono (by decide)) (bC kz73) (aa (aj 11 Om) (aa (aj 3 Km) (aa (aj 9 Ym) (aa (aj 8 Yl) (aa (aj 7 Uz) (aa (aj 10 Yk) ak)))))) (by trivial)) ak)) (by trivial)))) (aA (aD iR)) aQ)))))) (aA (aD iR))))))),?_⟩
 walk_at "s"
 have hs:20000<=sizeLine:=by decide
 refine ⟨sc,ns,0,rfl,hS,fun c0=>?_⟩
 walk_at "s"
 refine ⟨c0,rfl,fun a us H1 A' na S1 ha hA gA lA=>?_⟩
 walk_at "s"
 refine ⟨sc,ns,1,rfl,S1.seq hS,fun c1=>?_⟩
 walk_at "s"
 refine ⟨c1,a,us,A',rfl,ha,hA,gA,by omega,fun b ws H2 B nb S2 hb hB gB lB=>?_⟩
 walk_at "s"
 have lA':A'.length<=50:=by omega
 have lB':B.length<=50:=by omega
 refine ⟨a,b,us,ws,A',B,rfl,S2 _ _ ha,hA.same S2,gA,hb,hB,gB,fun n H3 nn S3 hN=>?_⟩
 walk_at "s"
 have hnt:=hN.nt (K:=K) lA' lB'
 have U3:=S2.trans S3
 have ha3:=U3 _ _ ha
 have hA3:=hA.same U3
 have hb3:=S3 _ _ hb
 have hB3:=hB.same S3
 refine ⟨.ref a,.ref b,.ref n,_,B,rfl,R3.sl ha3 hA3 (by omega),.inr ⟨a,rfl⟩,R3.sl hb3 hB3 (by omega),gB,fun H4 S4=>?_⟩
 walk_at "s"
 refine ⟨a,us,A',.ref n,_,rfl,S4 _ _ ha3,hA3.same S4,gA,by omega,hnt.same S4,Ys lA' lB',.inr ⟨n,rfl⟩,fun H5 S5=>?_⟩
 walk_at "s"
 have V5:=S4.trans S5
 have U5:=S1.trans (U3.trans V5)
 refine .inl (OJ (U5.seq hS) fun sl nsl=>?_)
 have S6:=(Same.refl H5).upd nsl (o:=.lst (dI (ns.map V.int) (some 2) (some 32)))
 have hsl:=ao (H:=H5) (a:=sl) (o:=.lst (dI (ns.map V.int) (some 2) (some 32)))
 generalize upd H5 sl (.lst (dI (ns.map V.int) (some 2) (some 32)))=H6 at S6 hsl ⊢
 have V6:=V5.trans S6
 have ha6:=V6 _ _ ha3
 have hA6:=hA3.same V6
 have hb6:=V6 _ _ hb3
 have hB6:=hB3.same V6
 have hN6:=hN.same V6
 have lc:(dI (ns.map V.int) (some 2) (some 32)).length<=30:=Yq
 refine .inl ⟨sl,rfl,⟨_,SqL.of hsl⟩,?_⟩
 refine gC (xs:=dI (ns.map V.int) (some 2) (some 32)) (fun k U G=>Same H6 G/\∃ x4 x5 x6 x7 x8 x9 x10 x11,U=[some (.ref sc),some (.ref a),some (.ref b),some (.ref n),x4,x5,x6,x7,x8,x9,x10,x11])
  ⟨Same.refl H6,_,_,_,_,_,_,_,_,rfl⟩ (fun i U G _ h=>SqL.of (h.1 _ _ hsl)) ?_ ?_
 ·rintro k v U G hv ⟨s,x4,x5,x6,x7,x8,x9,x10,x11,rfl⟩
  obtain ⟨c,_,rfl⟩:=Zd.mp (jO (Zr hv))
  walk_at "s"
  refine aF rfl fun b0 G1 _ s1 hb0=>?_
  walk_at "s"
  refine ⟨c,b0,[2,18,997,19,3,9973],rfl,hb0,by simp,(fun x hx=>by simp at hx;omega),fun dr ms G2 ndr s2 hdr hF=>?_⟩
  walk_at "s"
  obtain ⟨sd,w,at_,oth,pt,dw,rfl,e0,e1,e3,e4⟩:=Yr hF
  replace hdr:G2 dr=some (.lst [.int (sd:Int),.int (w:Int),.int (at_:Int),.int (oth:Int),.int (pt:Int),.int (dw:Int)]):=hdr
  refine tG (SqL.of hdr) rfl ?_
  walk_at "s"
  refine aF rfl fun ll G3 _ s3 hll=>?_
  walk_at "s"
  have s13:=s1.trans (s2.trans s3)
  have T3:=s.trans s13
  have ha3:=T3 _ _ ha6
  have hA3:=hA6.same T3
  have hb3:=T3 _ _ hb6
  have hB3:=hB6.same T3
  obtain ⟨a1,b1,us1,ws1,A1,B1,i1,i2,h1,h2,h3,h4,h5,h6,h7⟩:∃ (a1 b1:Addr) (us1 ws1:List V) (A1 B1:List P3),([V.ref a,V.ref b]:List V)[sd]?=some (.ref a1)/\([V.ref a,V.ref b]:List V)[1 - sd]?=some (.ref b1)/\G3 a1=some (.lst us1)/\R3 G3 us1 A1/\A1.length<=50/\G3 b1=some (.lst ws1)/\R3 G3 ws1 B1/\B1.length<=50/\Good B1:=by
   have:sd=0\/sd=1:=by omega
   rcases this with rfl | rfl
   ·exact ⟨a,b,us,ws,A',B,rfl,rfl,ha3,hA3,lA',hb3,hB3,lB',gB⟩
   ·exact ⟨b,a,ws,us,B,A',rfl,rfl,hb3,hB3,lB',ha3,hA3,lA',gA⟩
  walk_at "s"
  refine bW (SqL.of hll) (bw i1) ?_
  walk_at "s"
  refine ⟨a1,us1,A1,w,at_,rfl,h1,h2,by omega,by omega,fun u G4 s4 hu=>?_⟩
  walk_at "s"
  obtain ⟨⟨rr,hr1,_⟩,hfu⟩:=hu
  refine bW (SqL.of (s4 _ _ hll)) (show zq _ ((1:Int) - (sd:Int))=some (.ref b1) from by rw [show (1:Int) - (sd:Int)=((1 - sd:Nat):Int) by omega];exact bw i2) ?_
  walk_at "s"
  refine ⟨u,.ref b1,.ref n,rr,B1,rfl,hr1,hfu,R3.sl (s4 _ _ h4) (h5.same s4) (by omega),h7,fun G5 s5=>?_⟩
  walk_at "s"
  have s45:=s4.trans s5
  have T5:=T3.trans s45
  refine ⟨ll,a,b,n,us,ws,A',B,pt,oth,at_,dw,rfl,s45 _ _ hll,s45 _ _ ha3,hA3.same s45,lA',s45 _ _ hb3,hB3.same s45,lB',hN6.same T5,by omega,by omega,fun u2 G6 x s6 hx hz hf2=>?_⟩
  walk_at "s"
  have T6:=T5.trans s6
  refine ⟨a,us,A',u2,x,rfl,T6 _ _ ha6,hA6.same T6,gA,by omega,hx,hz,hf2,fun G7 s7=>?_⟩
  walk_at "s"
  exact ⟨T6.trans s7,_,_,_,_,_,_,_,_,rfl⟩
 ·rintro U G ⟨s,x4,x5,x6,x7,x8,x9,x10,x11,rfl⟩
  walk_at "s"
  exact q _
end
end My
namespace PySem.W.Fast
def tw4011758566224917763:=0
def tw11826722606153446451:=0
def tw18280990529983958009:=0
def tw16510685051927868001:=0
def tw1907566563785436568:=0
def tw5331832528963811850:=0
def tw192387002245838216:=0
def tw6488813468298360922:=0
def tw14801454573444320842:=0
def tw4354488094252425961:=0
def tw13953426354515743575:=0
def tw9645048719306668930:=0
def tw18091296423644260160:=0
def tw7973624595616859006:=0
def tw11572088433637002759:=0
def tw1721784321142543948:=0
def tw10676790640984557700:=0
def tw1740655749290336431:=0
def tw516160087704244536:=0
def tw12617619559500760485:=0
def tw764877869377844400:=0
def tw9270666918645442154:=0
def tw7811374470463589242:=0
def tw8784710803058706721:=0
def tw11559513897122112833:=0
def tw11181024076995032103:=0
def tw7587697603709444685:=0
def tw13274973058329538933:=0
def tw15644493109449662255:=0
def tw2999622364229428051:=0
def tw7976924678040442554:=0
def tw1462346828200772272:=0
def tw16295882223631037323:=0
def tw1588499257074252211:=0
def tw1797711711137272886:=0
def tw5729509303756058790:=0
def tw7928659657796900708:=0
def tw5152255471819090746:=0
def tw15707308894187668312:=0
def tw17079522884143621169:=0
def tw10004562297406924480:=0
def tw14274948064408589486:=0
def tw6236525415132908613:=0
def tw12339769543063563158:=0
def tw7257402616387116563:=0
def tw6807926606911571683:=0
def tw11891979114536941323:=0
def tw17396428155603369166:=0
def tw13530302598913859844:=0
def tw608117183937896027:=0
def tw9937424612674623732:=0
def tw4111648305605183584:=0
def tw12607403185677581151:=0
def tw670701798356329707:=0
def tw14503655822332892445:=0
def tw866574544457026815:=0
def tw14384707653510848247:=0
def tw6498955950865332057:=0
def tw11124044737864856828:=0
def tw7241674762248104773:=0
def tw1375411426595203458:=0
def tw13906375040377845831:=0
def tw10819146490849243085:=0
def tw830769307715691574:=0
def tw13788661943799368481:=0
def tw11415093097393905062:=0
def tw10500064345256923811:=0
def tw7188726896211157224:=0
def tw447844945404130620:=0
def tw18375083447777557076:=0
def tw11053004393989846146:=0
def tw15004907846223491733:=0
def tw1077678924803946153:=0
def tw10562385578955335984:=0
def tw13396697471488391164:=0
def tw12425624052905015485:=0
def tw90862660694571179:=0
def tw4846387397826091233:=0
def tw9899118344995971958:=0
def tw6419304903397634979:=0
def tw14355452457520651476:=0
def tw2503696393039504042:=0
def tw11800634063085868033:=0
def tw13777906707939072240:=0
def tw16926776767491125078:=0
def tw17640008056177716203:=0
def tw5504688156335903841:=0
def tw476051864563886804:=0
def tw11909215766718048194:=0
def tw6731786008315281012:=0
def tw3533457926606471943:=0
def tw16517862447049384797:=0
def tw11333958008678968040:=0
def tw13034199792941286649:=0
def tw13914817832678754442:=0
def tw15184775423015354111:=0
def tw8912703515108176674:=0
def tw15986838679734982352:=0
def tw5995694690204195483:=0
def tw1390830059626385640:=0
def tw15255968467972692466:=0
def tw7312500311651210049:=0
def tw18227054740657446867:=0
def tw15730367252962567197:=0
def tw13331994639363664604:=0
def tw9329513092101518205:=0
def tw5704009393753385065:=0
def tw9332747491433871882:=0
def tw6084571124110808269:=0
def tw7012208334580807025:=0
def tw2275444785530818123:=0
def tw7582619762226848867:=0
def tw9087502729251265755:=0
def tw15284099932761814857:=0
def tw9323366712922949042:=0
def tw9314473083469396186:=0
def tw2415619158474357920:=0
def tw4148323578427018367:=0
def tw17921685923148833878:=0
def tw12168938759380647832:=0
def tw2548586209303988470:=0
def tw2999999151504966562:=0
def tw8529375880209828205:=0
def tw8244036000358226184:=0
def tw13931905510114127396:=0
def tw18110574434723627833:=0
def tw15991587522927464059:=0
def tw10937145956341357110:=0
def tw2300379121286890092:=0
def tw1992869173928776107:=0
def tw13309586848486065625:=0
def tw1106880213566508877:=0
def tw14617724928113056099:=0
def tw2777345420683646652:=0
def tw5669873300162171458:=0
def tw1876808647289951546:=0
def tw17023150237412518338:=0
def tw11584213700427264417:=0
def tw4629515410322093912:=0
def tw3603820428390657255:=0
def tw7033115398345872757:=0
def tw15165126908350570177:=0
def tw16148325950971234470:=0
def tw14332742830815520463:=0
def tw17796166654264754101:=0
def tw7400266738772283638:=0
def tw6491907315276600188:=0
def tw2882717829846715876:=0
def tw6450887045039415710:=0
def tw4295084404980621960:=0
def tw14386510711849540412:=0
def tw2618155154718957180:=0
def tw17454293376377080384:=0
def tw12383471334121164471:=0
def tw11276245081600122889:=0
def tw18185294613736720060:=0
def tw11725435076548402169:=0
def tw4483737176041847171:=0
def tw12720078172034937529:=0
def tw11436802747467350376:=0
def tw10144930068266974614:=0
def tw6326808524190937095:=0
def tw12498955046904917939:=0
def tw14002752225801165755:=0
def tw2332571927288983413:=0
def tw9615811885458971732:=0
def tw10207845988991502011:=0
def tw14238660720063353936:=0
def tw8056600021274057591:=0
def tw4320046652598260111:=0
def tw14073059823434758542:=0
def tw14107015933713005871:=0
def tw816107328731081683:=0
def tw3164212240549230606:=0
def tw7469728323946245630:=0
def tw2410091177970254773:=0
def tw12228731331019651499:=0
def tw15565355900733566475:=0
def tw1084031311151319288:=0
def tw10893254654542670306:=0
def tw13123724145264934520:=0
def tw12866213053582158227:=0
def tw9435032175448656479:=0
def tw834911455554434073:=0
def tw6030754218029454755:=0
def tw12979059933130449367:=0
def tw927373644114886447:=0
def tw17696165458994793975:=0
def tw6112829161527122791:=0
def tw16703801965186258810:=0
def tw618706239667794498:=0
def tw11860491369342798343:=0
def tw14022893359998830370:=0
def tw9713576269679230572:=0
def tw1674673693402369069:=0
def tw15820763150978200272:=0
def tw18186384771033473187:=0
def tw13189700464929659454:=0
def tw13972781921640232097:=0
def tw9187888890665194891:=0
def tw153234117965922386:=0
def tw2501414162225354843:=0
def tw6781712515260019511:=0
def tw8551710657806106972:=0
def tw8509376381989028737:=0
def tw3065030875119260221:=0
def tw2203289622471963980:=0
def tw15346945673873946784:=0
def tw11207325449415131971:=0
def tw15657698123227224428:=0
def tw11748695271540117071:=0
def tw12911292360486238787:=0
def tw16580415432993541249:=0
def tw17138005679055557506:=0
def tw5751607607634101725:=0
def tw6283553434746845198:=0
def tw7011027917191112858:=0
def tw14537274453592337221:=0
def tw6478469286008865898:=0
def tw10606834430556012231:=0
def tw3545525623374158422:=0
def tw11032112878122919650:=0
def tw3283167031105165366:=0
def tw9919906263484815799:=0
def tw3047250697660732720:=0
def tw16318755319236319339:=0
def tw18113469827245821295:=0
def tw12979791272207964347:=0
def tw2328441003606658946:=0
def tw8492966729084018788:=0
def tw4137794344255664231:=0
def tw1778112223690129843:=0
def tw528793194856268614:=0
def tw2337157958370306048:=0
def tw13294168676698974282:=0
def tw3506380271787974769:=0
def tw2239388735158825663:=0
def tw11452998976357189074:=0
def tw16463227157300592549:=0
def tw10059492162984954460:=0
def tw12755786093279561388:=0
def tw8446775729183557298:=0
def tw14388575309467530462:=0
def tw5312098029762256967:=0
def tw9398089828985836853:=0
def tw5903972887022001894:=0
def tw9270863803824416442:=0
def tw4299679856361077814:=0
def tw9364314834375175932:=0
def tw6747726219650521356:=0
def tw13547678200805540904:=0
def tw2452869936812043575:=0
def tw9043248846806222783:=0
def tw14506425698509828560:=0
def tw11007567179431623868:=0
def tw15381342513028921928:=0
def tw17911632473078480382:=0
def tw17428740337739063458:=0
def tw16425563621783546293:=0
def tw2453590955599814151:=0
def tw1792473338241580866:=0
def tw8571334314754465982:=0
def tw1346965851851651796:=0
def tw15679880127435110585:=0
def tw8151720236268183630:=0
def tw16866979530119483845:=0
def tw16903043243869097469:=0
end PySem.W.Fast
open PySem PySem.W PyProof.Rows
set_option maxRecDepth 100000 in
set_option maxHeartbeats 0 in
theorem PySem.Challenge.cw_panethread_k69_forged_lists_and_news_holds : PySem.Challenge.rw_panethread_k69_forged_lists_and_news.Holds := by
 w_on;o_law;k_head;(case hw=>w_witness2)
 k_fill
 refine L2.Wb (l:=PySem.Challenge.rw_panethread_k69_forged_lists_and_news) (st:=My.dU) (k:=12) (x:="_law_script") (sp:=My.PQ) rfl rfl rfl ⟨rfl,by decide,by decide,rfl⟩ (fun w h Y=>PySem.W.kIn_of Y) (fun _ _ _ _ _ _ us hl=>L2.sH (fun _=>rfl) us hl) ?F (fun K H a ns hl hS=>⟨a,ns,rfl,hS,hl,fun _=>rfl⟩)
 case F=>
  intro w mg h KX G
  have b_ValueError:mg "ValueError"=none:=by
   refine' Z3 KX G ?a
   (case a=>k_is)
  have b_all:mg "all"=none:=by
   refine' Z3 KX G ?a
   (case a=>k_is)
  have b_bool:mg "bool"=none:=by
   refine' Z3 KX G ?a
   (case a=>k_is)
  have b_enumerate:mg "enumerate"=none:=by
   refine' Z3 KX G ?a
   (case a=>k_is)
  have b_int:mg "int"=none:=by
   refine' Z3 KX G ?a
   (case a=>k_is)
  have b_isinstance:mg "isinstance"=none:=by
   refine' Z3 KX G ?a
   (case a=>k_is)
  have b_len:mg "len"=none:=by
   refine' Z3 KX G ?a
   (case a=>k_is)
  have b_list:mg "list"=none:=by
   refine' Z3 KX G ?a
   (case a=>k_is)
  have b_max:mg "max"=none:=by
   refine' Z3 KX G ?a
   (case a=>k_is)
  have b_range:mg "range"=none:=by
   refine' Z3 KX G ?a
   (case a=>k_is)
  have b_sorted:mg "sorted"=none:=by
   refine' Z3 KX G ?a
   (case a=>k_is)
  have b_tuple:mg "tuple"=none:=by
   refine' Z3 KX G ?a
   (case a=>k_is)
  have c_MOST_COST:∃ t,mg "MOST_COST"=some (.int 48 t):=by
   refine' L2.yC KX G ?a ?h
   (case a=>k_is);(case h=>exact ⟨_,by with_unfolding_all rfl⟩)
  have c_MOST_LETTERS:∃ t,mg "MOST_LETTERS"=some (.int 24 t):=by
   refine' L2.yC KX G ?a ?h
   (case a=>k_is);(case h=>exact ⟨_,by with_unfolding_all rfl⟩)
  have d_is_number:L2.eY (L2.KOf KX) mg "is_number" My.fH:=by
   dsimp only [L2.KOf]
   refine' L2.bI KX G ?a ?l ?c ?k
   (case a=>k_is);(case l=>k_is);(case c=>k_is);(case k=>k_is)
  have d_is_within:L2.eY (L2.KOf KX) mg "is_within" My.fJ:=by
   dsimp only [L2.KOf]
   refine' L2.bI KX G ?a ?l ?c ?k
   (case a=>k_is);(case l=>k_is);(case c=>k_is);(case k=>k_is)
  have d_is_span:L2.eY (L2.KOf KX) mg "is_span" My.gY:=by
   dsimp only [L2.KOf]
   refine' L2.bI KX G ?a ?l ?c ?k
   (case a=>k_is);(case l=>k_is);(case c=>k_is);(case k=>k_is)
  have d_are_numbers:L2.eY (L2.KOf KX) mg "are_numbers" My.cu:=by
   dsimp only [L2.KOf]
   refine' L2.bI KX G ?a ?l ?c ?k
   (case a=>k_is);(case l=>k_is);(case c=>k_is);(case k=>k_is)
  have d_is_priced:L2.eY (L2.KOf KX) mg "is_priced" My.dj:=by
   dsimp only [L2.KOf]
   refine' L2.bI KX G ?a ?l ?c ?k
   (case a=>k_is);(case l=>k_is);(case c=>k_is);(case k=>k_is)
  have d_span_of:L2.eY (L2.KOf KX) mg "span_of" My.oF:=by
   dsimp only [L2.KOf]
   refine' L2.bI KX G ?a ?l ?c ?k
   (case a=>k_is);(case l=>k_is);(case c=>k_is);(case k=>k_is)
  have d_ranks_of:L2.eY (L2.KOf KX) mg "ranks_of" My.d8:=by
   dsimp only [L2.KOf]
   refine' L2.bI KX G ?a ?l ?c ?k
   (case a=>k_is);(case l=>k_is);(case c=>k_is);(case k=>k_is)
  have d_is_ranked:L2.eY (L2.KOf KX) mg "is_ranked" My.cF:=by
   dsimp only [L2.KOf]
   refine' L2.bI KX G ?a ?l ?c ?k
   (case a=>k_is);(case l=>k_is);(case c=>k_is);(case k=>k_is)
  have d_need_ranked:L2.eY (L2.KOf KX) mg "need_ranked" My.eQ:=by
   dsimp only [L2.KOf]
   refine' L2.bI KX G ?a ?l ?c ?k
   (case a=>k_is);(case l=>k_is);(case c=>k_is);(case k=>k_is)
  have d_not_among:L2.eY (L2.KOf KX) mg "not_among" My.dO:=by
   dsimp only [L2.KOf]
   refine' L2.bI KX G ?a ?l ?c ?k
   (case a=>k_is);(case l=>k_is);(case c=>k_is);(case k=>k_is)
  have d_moved_between:L2.eY (L2.KOf KX) mg "moved_between" My.aY:=by
   dsimp only [L2.KOf]
   refine' L2.bI KX G ?a ?l ?c ?k
   (case a=>k_is);(case l=>k_is);(case c=>k_is);(case k=>k_is)
  have d_news_of:L2.eY (L2.KOf KX) mg "news_of" My.gq:=by
   dsimp only [L2.KOf]
   refine' L2.bI KX G ?a ?l ?c ?k
   (case a=>k_is);(case l=>k_is);(case c=>k_is);(case k=>k_is)
  have d_are_all_numbers:L2.eY (L2.KOf KX) mg "are_all_numbers" My.bO:=by
   dsimp only [L2.KOf]
   refine' L2.bI KX G ?a ?l ?c ?k
   (case a=>k_is);(case l=>k_is);(case c=>k_is);(case k=>k_is)
  have d_are_news:L2.eY (L2.KOf KX) mg "are_news" My.fK:=by
   dsimp only [L2.KOf]
   refine' L2.bI KX G ?a ?l ?c ?k
   (case a=>k_is);(case l=>k_is);(case c=>k_is);(case k=>k_is)
  have d_told_behind:L2.eY (L2.KOf KX) mg "told_behind" My.bK:=by
   dsimp only [L2.KOf]
   refine' L2.bI KX G ?a ?l ?c ?k
   (case a=>k_is);(case l=>k_is);(case c=>k_is);(case k=>k_is)
  have d_followed:L2.eY (L2.KOf KX) mg "followed" My.cN:=by
   dsimp only [L2.KOf]
   refine' L2.bI KX G ?a ?l ?c ?k
   (case a=>k_is);(case l=>k_is);(case c=>k_is);(case k=>k_is)
  have d_law_cell:L2.eY (L2.KOf KX) mg "_law_cell" My.gZ:=by
   dsimp only [L2.KOf]
   refine' L2.bI KX G ?a ?l ?c ?k
   (case a=>k_is);(case l=>k_is);(case c=>k_is);(case k=>k_is)
  have d_law_drawn:L2.eY (L2.KOf KX) mg "_law_drawn" My.cL:=by
   dsimp only [L2.KOf]
   refine' L2.bI KX G ?a ?l ?c ?k
   (case a=>k_is);(case l=>k_is);(case c=>k_is);(case k=>k_is)
  have d_law_tuples:L2.eY (L2.KOf KX) mg "_law_tuples" My.bT:=by
   dsimp only [L2.KOf]
   refine' L2.bI KX G ?a ?l ?c ?k
   (case a=>k_is);(case l=>k_is);(case c=>k_is);(case k=>k_is)
  have d_law_news_kind:L2.eY (L2.KOf KX) mg "_law_news_kind" My.cG:=by
   dsimp only [L2.KOf]
   refine' L2.bI KX G ?a ?l ?c ?k
   (case a=>k_is);(case l=>k_is);(case c=>k_is);(case k=>k_is)
  have d_law_ranks:L2.eY (L2.KOf KX) mg "_law_ranks" My.dR:=by
   dsimp only [L2.KOf]
   refine' L2.bI KX G ?a ?l ?c ?k
   (case a=>k_is);(case l=>k_is);(case c=>k_is);(case k=>k_is)
  have d_law_news:L2.eY (L2.KOf KX) mg "_law_news" My.bN:=by
   dsimp only [L2.KOf]
   refine' L2.bI KX G ?a ?l ?c ?k
   (case a=>k_is);(case l=>k_is);(case c=>k_is);(case k=>k_is)
  have d_law_list:L2.eY (L2.KOf KX) mg "_law_list" My.bG:=by
   dsimp only [L2.KOf]
   refine' L2.bI KX G ?a ?l ?c ?k
   (case a=>k_is);(case l=>k_is);(case c=>k_is);(case k=>k_is)
  have d_law_next:L2.eY (L2.KOf KX) mg "_law_next" My.bx:=by
   dsimp only [L2.KOf]
   refine' L2.bI KX G ?a ?l ?c ?k
   (case a=>k_is);(case l=>k_is);(case c=>k_is);(case k=>k_is)
  have d_law_good:L2.eY (L2.KOf KX) mg "_law_good" My.cO:=by
   dsimp only [L2.KOf]
   refine' L2.bI KX G ?a ?l ?c ?k
   (case a=>k_is);(case l=>k_is);(case c=>k_is);(case k=>k_is)
  have d_law_following:L2.eY (L2.KOf KX) mg "_law_following" My.bu:=by
   dsimp only [L2.KOf]
   refine' L2.bI KX G ?a ?l ?c ?k
   (case a=>k_is);(case l=>k_is);(case c=>k_is);(case k=>k_is)
  have d_law_one_spoilt:L2.eY (L2.KOf KX) mg "_law_one_spoilt" My.bL:=by
   dsimp only [L2.KOf]
   refine' L2.bI KX G ?a ?l ?c ?k
   (case a=>k_is);(case l=>k_is);(case c=>k_is);(case k=>k_is)
  have d_law_list_spoilt:L2.eY (L2.KOf KX) mg "_law_list_spoilt" My.aJ:=by
   dsimp only [L2.KOf]
   refine' L2.bI KX G ?a ?l ?c ?k
   (case a=>k_is);(case l=>k_is);(case c=>k_is);(case k=>k_is)
  have d_law_row_spoilt:L2.eY (L2.KOf KX) mg "_law_row_spoilt" My.bD:=by
   dsimp only [L2.KOf]
   refine' L2.bI KX G ?a ?l ?c ?k
   (case a=>k_is);(case l=>k_is);(case c=>k_is);(case k=>k_is)
  have d_law_news_spoilt:L2.eY (L2.KOf KX) mg "_law_news_spoilt" My.aG:=by
   dsimp only [L2.KOf]
   refine' L2.bI KX G ?a ?l ?c ?k
   (case a=>k_is);(case l=>k_is);(case c=>k_is);(case k=>k_is)
  have d_law_refused:L2.eY (L2.KOf KX) mg "_law_refused" My.bB:=by
   dsimp only [L2.KOf]
   refine' L2.bI KX G ?a ?l ?c ?k
   (case a=>k_is);(case l=>k_is);(case c=>k_is);(case k=>k_is)
  have d_law_no_list:L2.eY (L2.KOf KX) mg "_law_no_list" My.cV:=by
   dsimp only [L2.KOf]
   refine' L2.bI KX G ?a ?l ?c ?k
   (case a=>k_is);(case l=>k_is);(case c=>k_is);(case k=>k_is)
  have d_law_judged:L2.eY (L2.KOf KX) mg "_law_judged" My.bM:=by
   dsimp only [L2.KOf]
   refine' L2.bI KX G ?a ?l ?c ?k
   (case a=>k_is);(case l=>k_is);(case c=>k_is);(case k=>k_is)
  have d_law_tried:L2.eY (L2.KOf KX) mg "_law_tried" My.cM:=by
   dsimp only [L2.KOf]
   refine' L2.bI KX G ?a ?l ?c ?k
   (case a=>k_is);(case l=>k_is);(case c=>k_is);(case k=>k_is)
  have d_law:L2.eY (L2.KOf KX) mg "law" My.dU:=by
   dsimp only [L2.KOf]
   refine' L2.bI KX G ?a ?l ?c ?k
   (case a=>k_is);(case l=>k_is);(case c=>k_is);(case k=>k_is)
  have x_PaneError:L2.HJ (L2.KOf KX) mg "PaneError":=by
   dsimp only [L2.KOf]
   refine' L2.O5 KX G ?a ?b
   (case a=>k_is);(case b=>kernel_rfl)
  have x_NoNear:L2.DG (L2.KOf KX) mg "NoNear" ["found"] "NoNear.__init__" My.nj:=by
   dsimp only [L2.KOf]
   refine' L2.O6 KX G ?a ?b ?kp ?na ?i ?t ?l ?c ?k
   (case a=>k_is);(case b=>kernel_rfl);(case kp=>k_is);(case na=>kernel_rfl);(case i=>k_is);(case t=>k_is);(case l=>k_is);(case c=>k_is);(case k=>k_is)
  have x_NoTold:L2.DG (L2.KOf KX) mg "NoTold" ["found"] "NoTold.__init__" My.nu:=by
   dsimp only [L2.KOf]
   refine' L2.O6 KX G ?a ?b ?kp ?na ?i ?t ?l ?c ?k
   (case a=>k_is);(case b=>kernel_rfl);(case kp=>k_is);(case na=>kernel_rfl);(case i=>k_is);(case t=>k_is);(case l=>k_is);(case c=>k_is);(case k=>k_is)
  have u_NoNear_PaneError:L2.Sub (L2.KOf KX) mg "NoNear" "PaneError" true:=by
   dsimp only [L2.KOf]
   refine' L2.rB KX G ?a ?b ?m ?o
   (case a=>k_is);(case b=>k_is);(case m=>k_is);(case o=>kernel_rfl)
  have u_NoNear_NoNear:L2.Sub (L2.KOf KX) mg "NoNear" "NoNear" true:=by
   dsimp only [L2.KOf]
   refine' L2.rB KX G ?a ?b ?m ?o
   (case a=>k_is);(case b=>k_is);(case m=>k_is);(case o=>kernel_rfl)
  have u_NoNear_NoTold:L2.Sub (L2.KOf KX) mg "NoNear" "NoTold" false:=by
   dsimp only [L2.KOf]
   refine' L2.rB KX G ?a ?b ?m ?o
   (case a=>k_is);(case b=>k_is);(case m=>k_is);(case o=>kernel_rfl)
  have u_NoTold_PaneError:L2.Sub (L2.KOf KX) mg "NoTold" "PaneError" true:=by
   dsimp only [L2.KOf]
   refine' L2.rB KX G ?a ?b ?m ?o
   (case a=>k_is);(case b=>k_is);(case m=>k_is);(case o=>kernel_rfl)
  have u_NoTold_NoNear:L2.Sub (L2.KOf KX) mg "NoTold" "NoNear" false:=by
   dsimp only [L2.KOf]
   refine' L2.rB KX G ?a ?b ?m ?o
   (case a=>k_is);(case b=>k_is);(case m=>k_is);(case o=>kernel_rfl)
  have u_NoTold_NoTold:L2.Sub (L2.KOf KX) mg "NoTold" "NoTold" true:=by
   dsimp only [L2.KOf]
   refine' L2.rB KX G ?a ?b ?m ?o
   (case a=>k_is);(case b=>k_is);(case m=>k_is);(case o=>kernel_rfl)
  have v_NoNear:PySem.W.kitOne (L2.KOf KX) (.ref (L2.iU mg "NoNear")) (.type "ValueError")=some true:=by
   dsimp only [L2.KOf]
   refine' L2.BK KX G ?a ?o
   (case a=>k_is);(case o=>kernel_rfl)
  have v_NoTold:PySem.W.kitOne (L2.KOf KX) (.ref (L2.iU mg "NoTold")) (.type "ValueError")=some true:=by
   dsimp only [L2.KOf]
   refine' L2.BK KX G ?a ?o
   (case a=>k_is);(case o=>kernel_rfl)
  exact ⟨d_law,fun base f fd F=>My.UJ ⟨b_ValueError,b_all,b_bool,b_enumerate,b_int,b_isinstance,b_len,b_list,b_max,b_range,b_sorted,b_tuple,c_MOST_COST,c_MOST_LETTERS,d_is_number,d_is_within,d_is_span,d_are_numbers,d_is_priced,d_span_of,d_ranks_of,d_is_ranked,d_need_ranked,d_not_among,d_moved_between,d_news_of,d_are_all_numbers,d_are_news,d_told_behind,d_followed,d_law_cell,d_law_drawn,d_law_tuples,d_law_news_kind,d_law_ranks,d_law_news,d_law_list,d_law_next,d_law_good,d_law_following,d_law_one_spoilt,d_law_list_spoilt,d_law_row_spoilt,d_law_news_spoilt,d_law_refused,d_law_no_list,d_law_judged,d_law_tried,d_law,x_PaneError,x_NoNear,x_NoTold,u_NoNear_PaneError,u_NoNear_NoNear,u_NoNear_NoTold,u_NoTold_PaneError,u_NoTold_NoNear,u_NoTold_NoTold,v_NoNear,v_NoTold⟩ F⟩
