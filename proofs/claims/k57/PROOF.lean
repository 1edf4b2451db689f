import PyProof.Rows.All
import Wide.All
import OpenK.AllK
import Wide.FinOn
import Lean
import PyProof.EqAt
import PyProof.EqKinds
import PyProof.TupleCall
import PyProof.ReprRoads
import KE.KSortTup
import KE.KDictList
import KE.KMinKey
import KE.KIntText
import KE.KLam
import KE.KNestM
import PySem.Challenge.RW_panethread_k57_whole_lines_as_anew
local macro_rules | `(tactic| omega) => `(tactic| lia)
noncomputable section
abbrev Zu:=@PySem.wpAny_bind
abbrev Zv:=@List.getD_eq_getElem?_getD
abbrev Zw:=@List.getElem?_eq_getElem
abbrev Zx:=@List.getElem?_eq_some_iff
abbrev Zy:=@PySem.wpAny_pure
abbrev Zz:=@PySem.Heap.get?_push_of_some
abbrev ZC:=@Nat.le_refl
abbrev ZD:=@decide_eq_false
abbrev ZF:=@Array.length_toList
abbrev ZG:=@Nat.le_trans
abbrev ZJ:=@List.length_map
abbrev ZK:=@decide_eq_true
abbrev ZL:=@PySem.Heap.lt_size
abbrev ZM:=@List.getElem?_map
abbrev ZP:=@PySem.Heap.get?_push_size
abbrev ZQ:=@List.mem_cons
abbrev ZR:=@List.map_append
abbrev ZS:=@List.size_toArray
abbrev ZV:=@Bool.false_ne_true
abbrev ZW:=@List.length_take
abbrev ZX:=@List.mem_range
abbrev ZZ:=@List.mem_cons_of_mem
abbrev Z0:=@List.mem_of_getElem?
abbrev Z1:=@Nat.lt_of_lt_of_le
abbrev Z2:=@Option.some.inj
abbrev Z3:=@List.getElem?_range
abbrev Z4:=@Bool.and_eq_true
abbrev Z5:=@PySem.F.plainAttrs_list
abbrev Z6:=@PySem.F.slot_list_append
abbrev Z7:=@PySem.F.type_list_append
abbrev Z8:=@List.length_append
abbrev Z9:=@PyProof.Rows.callWith_type1
abbrev gV:=@List.getElem?_append_right
abbrev Aaa:=@List.drop_eq_nil_of_le
abbrev Aab:=@List.getElem?_append_left
abbrev Aac:=@List.length_drop
abbrev Aad:=@List.mem_singleton
abbrev Aae:=@Int.toNat_of_nonneg
abbrev Aaf:=@List.getElem?_set_ne
abbrev Aag:=@List.lookup_cons
abbrev Aah:=@Nat.ne_of_lt
abbrev Aai:=@PySem.PassesOwn.never
abbrev Aaj:=@List.map_cons
abbrev Aak:=@List.mem_cons_self
abbrev Aal:=@PySem.Heap.get?_update_other
abbrev Aam:=@List.mem_map
abbrev Aan:=@List.take_of_length_le
abbrev Aao:=@PySem.W.mg_none_of
abbrev Aap:=@List.length_cons
abbrev Aaq:=@List.mem_nil_iff
abbrev Aar:=@PySem.wpAny_holding
abbrev Aas:=@PySem.wpAny_Call_Name_kw
abbrev Aat:=@List.getElem_mem
abbrev Aau:=@List.mem_append_right
abbrev Aav:=@List.getElem?_eq_none
abbrev Aaw:=@List.mem_append
abbrev Aax:=@PySem.mem_of_lookup
abbrev Aay:=@Nat.add_le_add
abbrev Aaz:=@List.getElem?_set_self
abbrev AaA:=@List.all_cons
abbrev AaB:=@List.replicate_succ
abbrev AaC:=@List.append_nil
abbrev AaD:=@List.range_succ
abbrev AaE:=@Nat.zero_le
abbrev AaF:=@List.append_assoc
abbrev AaG:=@PySem.wpAny_field
abbrev AaH:=@PySem.Heap.get?_update_self
abbrev AaI:=@PySem.Heap.size_push
abbrev AaJ:=@List.take_append_of_le_length
abbrev AaK:=@PySem.W.kia_one
abbrev AaL:=@List.length_nil
abbrev AaM:=@Nat.lt_irrefl
abbrev AaN:=@List.take_length
abbrev AaO:=@PySem.wpAny_mono
abbrev AaP:=@Nat.le_of_eq
abbrev AaQ:=@List.flatten_cons
abbrev AaR:=@PySem.wpAny_callSpecial?_slot
abbrev AaS:=@List.length_eq_zero_iff
abbrev AaT:=@PySem.wpAny_truthy_bool
abbrev AaU:=@PySem.wpAny_newObj_type
abbrev AaV:=@Nat.not_lt_zero
abbrev AaW:=@Nat.lt_of_le_of_lt
abbrev AaX:=@Nat.le_add_right
abbrev AaY:=@Nat.ne_of_gt
abbrev AaZ:=@PySem.wpAny_loadPart
abbrev Aa0:=@PySem.wpAny_seqItems
abbrev Aa1:=@List.take_add_one
abbrev Aa2:=@PyProof.Rows.slot_tuple_getitem
abbrev Aa3:=@beq_iff_eq
abbrev Aa4:=@List.all_eq_true
abbrev Aa5:=@List.drop_append
abbrev Aa6:=@Int.emod_lt_of_pos
abbrev Aa7:=@Std.Legacy.Range.forIn_eq_forIn_range'
abbrev Aa8:=@List.mem_of_mem_take
abbrev Aa9:=@Nat.add_sub_cancel_left
abbrev Aba:=@List.nil_append
abbrev Abb:=@beq_eq_false_iff_ne
abbrev Abd:=@PySem.wpAny_call_entry
abbrev Abe:=@PySem.F.plain_max_loop
abbrev Abf:=@List.contains_cons
abbrev Abg:=@List.range_add
abbrev Abh:=@List.map_replicate
abbrev Abi:=@List.Perm.append_left
abbrev Abj:=@List.drop_eq_getElem_cons
abbrev Abk:=@List.pairwise_iff_getElem
abbrev Abl:=@PySem.wpAny_passesOwn
abbrev Abm:=@List.nodup_cons
abbrev Abn:=@PySem.SeqAt.EqAt.same
abbrev Abo:=@Int.emod_nonneg
abbrev Abp:=@PySem.W.looks_findIn
abbrev Abq:=@Nat.le_of_succ_le
abbrev Abr:=@List.mem_iff_getElem
abbrev Abs:=@List.ext_getElem?
abbrev Abt:=@PySem.codeAny_call_builtin
abbrev Abu:=@List.length_range
abbrev Abv:=@List.getElem?_take_of_lt
abbrev Abw:=@PySem.wpAny_getItem_str_slice
abbrev Abx:=@List.nodup_range
abbrev Aby:=@List.drop_append_of_le_length
abbrev Abz:=@PySem.wpAny_call
abbrev AbA:=@PySem.W.callWith_K
abbrev AbB:=@PySem.wpAny_setField_rec
abbrev AbC:=@Option.map_eq_some_iff
abbrev AbD:=@List.map_map
abbrev AbE:=@List.find?_cons
abbrev AbF:=@PySem.wpAny_standAt
abbrev AbG:=@PySem.W.mg_of
abbrev AbH:=@List.take_append_drop
abbrev AbI:=@decide_eq_true_eq
abbrev AbJ:=@PySem.wpAny_pyIter_enum
abbrev AbK:=@PySem.wpAny_loadPart_at
abbrev AbL:=@of_decide_eq_true
abbrev AbM:=@List.mem_append_left
abbrev AbN:=@PySem.wpAny_pyIter_revIter
abbrev AbO:=@Bool.or_eq_false_iff
abbrev AbP:=@List.mem_of_mem_drop
abbrev AbQ:=@Nat.lt_succ_self
abbrev AbR:=@Nat.min_eq_right
abbrev AbS:=@Nat.sub_self
abbrev AbT:=@decide_eq_decide
local macro_rules | `(tactic| trivial) => `(tactic| decide +kernel)
set_option compiler.extract_closed false
set_option Elab.async false
set_option linter.all false
set_option maxRecDepth 100000
namespace L2
@[elab_as_elim] theorem pR {p:List PySem.Value->Prop} (h:∀ a0:PySem.Value,p [a0]) (us:List PySem.Value) (hl:us.length=1):p us:=by
 rcases us with _ | ⟨a0,us0⟩
 ·cases hl
 rcases us0 with _ | ⟨b,us⟩
 ·exact h a0
 ·cases hl
@[elab_as_elim] theorem nY {p:List PySem.Value->Prop} (h:∀ a0 a1:PySem.Value,p [a0,a1]) (us:List PySem.Value) (hl:us.length=2):p us:=by
 rcases us with _ | ⟨a0,us0⟩
 ·cases hl
 rcases us0 with _ | ⟨a1,us1⟩
 ·cases hl
 rcases us1 with _ | ⟨b,us⟩
 ·exact h a0 a1
 ·cases hl
@[elab_as_elim] theorem mF {p:List PySem.Value->Prop} (h:∀ a0 a1 a2:PySem.Value,p [a0,a1,a2]) (us:List PySem.Value) (hl:us.length=3):p us:=by
 rcases us with _ | ⟨a0,us0⟩
 ·cases hl
 rcases us0 with _ | ⟨a1,us1⟩
 ·cases hl
 rcases us1 with _ | ⟨a2,us2⟩
 ·cases hl
 rcases us2 with _ | ⟨b,us⟩
 ·exact h a0 a1 a2
 ·cases hl
@[elab_as_elim] theorem Bg {p:List PySem.Value->Prop} (h:∀ a0 a1 a2 a3:PySem.Value,p [a0,a1,a2,a3]) (us:List PySem.Value) (hl:us.length=4):p us:=by
 rcases us with _ | ⟨a0,us0⟩
 ·cases hl
 rcases us0 with _ | ⟨a1,us1⟩
 ·cases hl
 rcases us1 with _ | ⟨a2,us2⟩
 ·cases hl
 rcases us2 with _ | ⟨a3,us3⟩
 ·cases hl
 rcases us3 with _ | ⟨b,us⟩
 ·exact h a0 a1 a2 a3
 ·cases hl
@[elab_as_elim] theorem usN5 {p:List PySem.Value->Prop} (h:∀ a0 a1 a2 a3 a4:PySem.Value,p [a0,a1,a2,a3,a4]) (us:List PySem.Value) (hl:us.length=5):p us:=by
 rcases us with _ | ⟨a0,us0⟩
 ·cases hl
 rcases us0 with _ | ⟨a1,us1⟩
 ·cases hl
 rcases us1 with _ | ⟨a2,us2⟩
 ·cases hl
 rcases us2 with _ | ⟨a3,us3⟩
 ·cases hl
 rcases us3 with _ | ⟨a4,us4⟩
 ·cases hl
 rcases us4 with _ | ⟨b,us⟩
 ·exact h a0 a1 a2 a3 a4
 ·cases hl
theorem auto1 (h:True:=by first | exact .inl rfl | exact .inr rfl | assumption):True:=h
theorem auto2 (h:True:=by decide):True:=h
theorem auto3 (h:True:=by intro _;rfl):True:=h
theorem auto4 (h:True:=by rfl):True:=h
theorem auto5 (h:True:=by with_unfolding_all rfl):True:=h
theorem auto6 (h:True:=by trivial):True:=h
theorem auto7 (h:True:=by kernel_rfl):True:=h
open PySem PySem.Spec PyProof.Rows
abbrev Key:=Sum Int Str
def yP:Key->Value->Bool
 | .inl k,v=>Value.isInt k v
 | .inr x,v=>Value.isStrOf x v
def keyH (w:World):Key->Int
 | .inl k=>hashInt k
 | .inr x=>hashStr w x
theorem fj:∀ {k:Key} {v:Value},yP k v=true->(∃ i t,k=Sum.inl i/\v=Value.int i t)\/(∃ x t,k=Sum.inr x/\v=Value.str x t)
 | .inl i,v,h=>by
  obtain ⟨t,e⟩:=Value.isInt_shape (k:=i) (v:=v) h;exact .inl ⟨i,t,rfl,e⟩
 | .inr x,v,h=>by
  obtain ⟨t,e⟩:=Value.isStrOf_shape (x:=x) (v:=v) h;exact .inr ⟨x,t,rfl,e⟩
theorem Hf (i:Int) (t:Tok):yP (.inl i) (.int i t)=true:=by simp [yP,Value.isInt]
theorem Hg (x:Str) (t:Tok):yP (.inr x) (.str x t)=true:=by simp [yP,Value.isStrOf]
theorem TQ (a b:Int):decide ((Sum.inl a:Key)=Sum.inl b)=(a == b):=by
 by_cases e:a=b
 ·subst e;simp
 ·have h:¬ (Sum.inl a:Key)=Sum.inl b:=fun q=>e (Sum.inl.inj q)
  rw [ZD h];exact (Abb.mpr e).symm
theorem TV (a b:Str):decide ((Sum.inr a:Key)=Sum.inr b)=decide (a=b):=by
 by_cases e:a=b
 ·subst e;simp
 ·have h:¬ (Sum.inr a:Key)=Sum.inr b:=fun q=>e (Sum.inr.inj q)
  rw [ZD h,ZD e]
theorem TX (a:Int) (b:Str):decide ((Sum.inl a:Key)=Sum.inr b)=false:=ZD (fun q=>nomatch q)
theorem TY (a:Str) (b:Int):decide ((Sum.inr a:Key)=Sum.inl b)=false:=ZD (fun q=>nomatch q)
def cH (prog:Program) (w:World):PySem.KeyKind prog w Key where
 is:=yP
 hash:=keyH w
 inj:=fun v a b ha hb=>by
  rcases fj ha with ⟨i,t,rfl,rfl⟩ | ⟨x,t,rfl,rfl⟩
  ·rcases fj hb with ⟨j,u,rfl,e⟩ | ⟨y,u,rfl,e⟩
   ·injection e with e1 _;rw [e1]
   ·exact nomatch e
  ·rcases fj hb with ⟨j,u,rfl,e⟩ | ⟨y,u,rfl,e⟩
   ·exact nomatch e
   ·injection e with e1 _;rw [e1]
 byValue:=fun k v h=>by
  rcases fj h with ⟨i,t,rfl,rfl⟩ | ⟨x,t,rfl,rfl⟩ <;> rfl
 pyHash:=fun hv h=>by
  rcases fj hv with ⟨i,t,rfl,rfl⟩ | ⟨x,t,rfl,rfl⟩
  ·exact wpAny_pyHash_int h
  ·exact wpAny_pyHash_str h
 eqBool:=fun hu hv h=>by
  rcases fj hu with ⟨i,t,rfl,rfl⟩ | ⟨x,t,rfl,rfl⟩
  ·rcases fj hv with ⟨j,u,rfl,rfl⟩ | ⟨y,u,rfl,rfl⟩
   ·rw [TQ] at h;exact wpAny_eqBool_int h
   ·rw [TX] at h;exact SeqAt.EqAt.int_str i t y u _ _ _ _ h
  ·rcases fj hv with ⟨j,u,rfl,rfl⟩ | ⟨y,u,rfl,rfl⟩
   ·rw [TY] at h;exact SeqAt.EqAt.str_int x t j u _ _ _ _ h
   ·rw [TV] at h;exact wpAny_eqBool_str h
 «strs»:=fun k x t v h=>by
  rcases fj h with ⟨i,u,rfl,e⟩ | ⟨y,u,rfl,e⟩
  ·exact nomatch e
  ·injection e with e1 _
   subst e1;cases v <;> rfl
theorem Bh (prog:Program) (w:World) (i:Int) (t:Tok):(cH prog w).is (.inl i) (.int i t)=true:=Hf i t
theorem Bj (prog:Program) (w:World) (x:Str) (t:Tok):(cH prog w).is (.inr x) (.str x t)=true:=Hg x t
end L2
namespace L2
open PySem PySem.Spec PyProof.Rows
inductive V where
 | non | bl (b:Bool) | int (i:Int) | str (x:Str) | byt (b:Array UInt8) | flt (b:UInt64) | ref (a:Addr) | ty (n:String)
 deriving DecidableEq
def RelV:V->Value->Prop
 | .non,u=>u=Value.none
 | .bl b,u=>u=Value.bool b
 | .int i,u=>∃ t,u=Value.int i t
 | .str x,u=>∃ t,u=Value.str x t
 | .byt b,u=>∃ t,u=Value.bytes b t
 | .flt b,u=>∃ t,u=Value.float b t
 | .ref a,u=>u=Value.ref a
 | .ty n,u=>u=Value.type n
abbrev Vals:List V->List Value->Prop:=Paired RelV
theorem Vals.length {xs:List V} {us:List Value} (r:Vals xs us):xs.length=us.length:=Paired.length r
theorem Vals.get:∀ {xs:List V} {us:List Value} {i:Nat} {x:V},Vals xs us->xs[i]?=some x->∃ u,us[i]?=some u/\RelV x u
 | _,_,_,_,.nil,e=>by simp at e
 | _,_,0,_,.cons r _,e=>by simp at e;subst e;exact ⟨_,rfl,r⟩
 | _,_,i+1,x,.cons _ t,e=>by
  obtain ⟨u,h1,h2⟩:=Vals.get (i:=i) (x:=x) t (by simpa using e);exact ⟨u,by simpa using h1,h2⟩
theorem Vals.set {x:V} {u:Value} (r:RelV x u):∀ {xs:List V} {us:List Value} (i:Nat),Vals xs us->Vals (xs.set i x) (us.set i u)
 | _,_,_,.nil=>.nil
 | _,_,0,.cons _ t=>.cons r t
 | _,_,i+1,.cons q t=>.cons q (Vals.set r i t)
theorem Vals.append:∀ {xs ys:List V} {us ws:List Value},Vals xs us->Vals ys ws->Vals (xs ++ ys) (us ++ ws)
 | _,_,_,_,.nil,s=>s
 | _,_,_,_,.cons r t,s=>.cons r (Vals.append t s)
theorem Vals.take:∀ {xs:List V} {us:List Value} (n:Nat),Vals xs us->Vals (xs.take n) (us.take n)
 | _,_,0,_=>.nil
 | _,_,_+1,.nil=>.nil
 | _,_,n+1,.cons r t=>.cons r (Vals.take n t)
theorem Vals.drop:∀ {xs:List V} {us:List Value} (n:Nat),Vals xs us->Vals (xs.drop n) (us.drop n)
 | _,_,0,r=>r
 | _,_,_+1,.nil=>.nil
 | _,_,n+1,.cons _ t=>Vals.drop n t
def RelO:Option V->Option Value->Prop
 | some v,some u=>RelV v u
 | none,none=>True
 | _,_=>False
def KV {κ:Type}:List (κ×V)->List (κ×Value)->Prop:=Paired fun (p:κ×V) (q:κ×Value)=>p.1=q.1/\RelV p.2 q.2
def kV:Key->V
 | .inl i=>.int i
 | .inr x=>.str x
inductive HO where
 /-- a list -/
 | lst (xs:List V)
 /-- a tuple (never changes) -/
 | tup (xs:List V)
 /-- a dict whose keys are ints and texts;one whose keys are tuples of ints and texts (the empty one is both) -/
 | dK (kvs:List (Key×V)) | dT (kvs:List (List Key×V))
 /-- a set of ints:its members,its size -/
 | set (S:Int->Bool) (n:Nat)
 /-- an instance of the class at C,its dict at dx,its attributes -/
 | ins (C dx:Addr) (fs:List (Str×V))
 /-- the dict of the instance at x -/
 | own (x:Addr)
 /-- the dict of an exception -/
 | xd (fs:List (Str×V))
 /-- a bound method,f of x -/
 | met (f x:Addr)
 /-- a range object lo,lo+1,.. below hi -/
 | rng (lo hi:Int)
 /-- a thing that is known to the object (the script;a dict while a loop walks it):read,never written while it is so -/
 | frz (o:Obj) (u:HO)
 /-- a code object's table -/
 | tbl (ps:Array Value)
 /-- any other thing,by what is true of its one object (a def of one's own:SetO a S n:=HO.ext fun h=>..) -/
 | ext (φ:Heap->Prop)
abbrev Hp:=Addr->Option HO
def upd (H:Hp) (a:Addr) (o:HO):Hp:=fun b=>if b=a then some o else H b
theorem aj {H:Hp} {a:Addr} {o:HO}:upd H a o a=some o:=by unfold upd;rw [if_pos rfl]
theorem aC {H:Hp} {a b:Addr} {o:HO} (h:b≠a):upd H a o b=H b:=by unfold upd;rw [if_neg h]
theorem O4 {H:Hp} {a:Addr} {o u:HO}:upd (upd H a o) a u=upd H a u:=by
 funext b;unfold upd;split <;> rfl
theorem Xg {H:Hp} {a b:Addr} {o u:HO} (h:H a=some o) (h':H b=some u) (d:o≠u):a≠b:=by
 intro e;subst e;rw [h] at h';exact d (Z2 h')
theorem lQ {H:Hp} {a b:Addr} {o:HO} (h:H a=some o) (h':H b=none):a≠b:=by
 intro e;subst e;rw [h] at h';cases h'
section
variable (P:Program) (w:World)
def ObjOk (H:Hp) (h:Heap) (a:Addr):HO->Prop
 | .lst xs=>xs.length<=sizeLine/\∃ (its:List Value) (n:Nat),Vals xs its/\h.get? a=some {cls:=.type "list",data:=.seq its.toArray n}
 | .tup xs=>xs.length<=sizeLine/\∃ its:List Value,Vals xs its/\IsTup h a its.toArray
 | .dK kvs=>kvs.length<=sizeLine/\(a == sysModules)=false/\∃ vs,KV kvs vs/\h.DictOf (cH P w) a vs
 | .dT kvs=>kvs.length<=sizeLine/\(a == sysModules)=false/\∃ xs:List (List Key×Addr×Value),
   Paired (fun (p:List Key×V) (q:List Key×Addr×Value)=>p.1=q.1/\H q.2.1=some (.tup (p.1.map kV))/\RelV p.2 q.2.2) kvs xs/\
   ∃ o es ep,h.get? a=some o/\o.ExactDict/\o.data= .dict es ep/\es.toList=xs.map (entryOfKey (tupleKind (cH P w)))/\(xs.map (·.1)).Nodup
 | .set S n=>h.SetOf (intKind P w) a S n
 | .ins C dx fs=>H dx=some (.own a)/\fs.length<=1000/\dx≠a/\h.get? a=some (PySem.W.instObj C dx)/\
   ∃ mA,h.Ns1 dx mA/\(∀ f,RelO (fs.lookup f) (mA f))/\PySem.Within mA (fs.map (·.1))
 | .own _=>∃ o,h.get? a=some o
 | .xd fs=>∃ mA,h.Ns1 a mA/\∀ f,RelO (fs.lookup f) (mA f)
 | .rng lo hi=>∃ t u v,h.get? a=some {cls:=.type "range",data:=.fields #[.int lo t,.int hi u,.int 1 v]}
 | .frz o u=>h.get? a=some o/\ObjOk H h a u
 | .tbl ps=>h.get? a=some {cls:=.none,data:=.fields ps}
 | .met f x=>h.get? a=some (PySem.W.methodObj (.ref f) (.ref x))
 | .ext φ=>φ h/\(∃ o,h.get? a=some o)/\∀ h1 h2:Heap,φ h1->(∀ o,h1.get? a=some o->h2.get? a=some o)->φ h2
def HOk (H:Hp) (h:Heap):Prop:=∀ a o,H a=some o->ObjOk P w H h a o
end
section
variable {P:Program} {w:World} {H H':Hp} {h h':Heap} {a:Addr} {o:HO}
theorem ObjOk.lt (x:ObjOk P w H h a o):a < h.objs.size:=by
 cases o with
 | lst xs=>obtain ⟨_,_,_,_,e⟩:=x;exact ZL e
 | tup xs=>obtain ⟨_,_,_,p⟩:=x;exact p.lt
 | dK kvs=>obtain ⟨_,_,_,_,o,_,_,e,_⟩:=x;exact ZL e
 | dT kvs=>obtain ⟨_,_,_,_,o,_,_,e,_⟩:=x;exact ZL e
 | set S n=>obtain ⟨o,_,_,_,e,_⟩:=x;exact ZL e
 | ins C dx fs=>obtain ⟨_,_,_,e,_⟩:=x;exact ZL e
 | own y=>obtain ⟨_,e⟩:=x;exact ZL e
 | xd fs=>obtain ⟨_,⟨_,_,_,e,_⟩,_⟩:=x;exact ZL e
 | rng lo hi=>obtain ⟨_,_,_,e⟩:=x;exact ZL e
 | frz ob u=>obtain ⟨e,_⟩:=x;exact ZL e
 | tbl ps=>exact ZL (show h.get? a=some _ from x)
 | met f y=>exact ZL (show h.get? a=some _ from x)
 | ext φ=>obtain ⟨_,⟨_,e⟩,_⟩:=x;exact ZL e
theorem Paired.mapP {α β:Type} {F G:α->β->Prop}:∀ {l₁:List α} {l₂:List β},Paired F l₁ l₂->(∀ a b,F a b->G a b)->Paired G l₁ l₂
 | _,_,.nil,_=>.nil
 | _,_,.cons r t,f=>.cons (f _ _ r) (Paired.mapP t f)
theorem ObjOk.stay (x:ObjOk P w H h a o) (k:∀ b u,(b=a\/H b=some (.own a))->h.get? b=some u->h'.get? b=some u)
  (ho:∀ b,H b=some (.own a)->H' b=some (.own a)) (ht:∀ b xs,H b=some (.tup xs)->H' b=some (.tup xs)):ObjOk P w H' h' a o:=by
 induction o with
 | lst xs=>obtain ⟨z,its,n,r,e⟩:=x;exact ⟨z,its,n,r,k _ _ (.inl rfl) e⟩
 | tup xs=>obtain ⟨z,its,r,ob,e,c⟩:=x;exact ⟨z,its,r,ob,k _ _ (.inl rfl) e,c⟩
 | dK kvs=>obtain ⟨z,y,vs,r,ob,es,ep,e,c⟩:=x;exact ⟨z,y,vs,r,ob,es,ep,k _ _ (.inl rfl) e,c⟩
 | dT kvs=>
  obtain ⟨z,y,xs,r,ob,es,ep,e,c⟩:=x;exact ⟨z,y,xs,Paired.mapP r fun p q z=>⟨z.1,ht _ _ z.2.1,z.2.2⟩,ob,es,ep,k _ _ (.inl rfl) e,c⟩
 | set S n=>obtain ⟨ob,es,ep,t,e,c⟩:=x;exact ⟨ob,es,ep,t,k _ _ (.inl rfl) e,c⟩
 | ins C dx fs=>
  obtain ⟨d,z,ne,e,mA,⟨od,es,ep,e2,c⟩,r⟩:=x;exact ⟨ho _ d,z,ne,k _ _ (.inl rfl) e,mA,⟨od,es,ep,k _ _ (.inr d) e2,c⟩,r⟩
 | own y=>obtain ⟨ob,e⟩:=x;exact ⟨ob,k _ _ (.inl rfl) e⟩
 | xd fs=>obtain ⟨mA,⟨od,es,ep,e,c⟩,r⟩:=x;exact ⟨mA,⟨od,es,ep,k _ _ (.inl rfl) e,c⟩,r⟩
 | rng lo hi=>obtain ⟨t,u,v,e⟩:=x;exact ⟨t,u,v,k _ _ (.inl rfl) e⟩
 | frz ob u ih=>obtain ⟨e,q⟩:=x;exact ⟨k _ _ (.inl rfl) e,ih q⟩
 | tbl ps=>
  have e:h.get? a=some {cls:=.none,data:=.fields ps}:=x;show h'.get? a=some {cls:=.none,data:=.fields ps};exact k a _ (.inl rfl) e
 | met f y=>
  have e:h.get? a=some (PySem.W.methodObj (.ref f) (.ref y)):=x;show h'.get? a=some (PySem.W.methodObj (.ref f) (.ref y));exact k a _ (.inl rfl) e
 | ext φ=>obtain ⟨p,⟨o,e⟩,st⟩:=x;exact ⟨st _ _ p fun o q=>k _ _ (.inl rfl) q,⟨o,k _ _ (.inl rfl) e⟩,st⟩
theorem HOk.lt (x:HOk P w H h) (e:H a=some o):a < h.objs.size:=(x a o e).lt
theorem HOk.fresh (x:HOk P w H h) (e:h.objs.size<=a):H a=none:=by
 cases q:H a with
 | none=>rfl
 | some u=>exact absurd (Z1 (x.lt q) e) (AaM _)
theorem HOk.kept (x:HOk P w H h) (k:∀ b u,h.get? b=some u->h'.get? b=some u):HOk P w H h':=fun a o e=>
 (x a o e).stay (fun b u _ q=>k b u q) (fun _ q=>q) fun _ _ q=>q
theorem HOk.laid (x:HOk P w H h) (k:∀ b u,h.get? b=some u->h'.get? b=some u) (hp:h.objs.size<=a) (new:ObjOk P w (upd H a o) h' a o):HOk P w (upd H a o) h':=fun b u e=>by
 have hn:=x.fresh hp;by_cases hb:b=a
 ·subst hb;rw [aj] at e;cases e;exact new
 ·rw [aC hb] at e
  exact (x b u e).stay (fun c v _ q=>k c v q) (fun c q=>by rw [aC (lQ q hn)];exact q) fun c xs q=>by rw [aC (lQ q hn)];exact q
end
def Rd (H:Hp) (a:Addr) (u:HO):Prop:=H a=some u\/∃ o,H a=some (.frz o u)
theorem Rd.ok {P:Program} {w:World} {H:Hp} {h:Heap} {a:Addr} {u:HO} (r:Rd H a u) (x:HOk P w H h):ObjOk P w H h a u:=by
 rcases r with r | ⟨o,r⟩
 ·exact x a u r
 ·obtain ⟨_,q⟩:=x a _ r
  exact q
def Xh:Option HO->Prop
 | some (.lst _)=>True
 | some (.dK _)=>True
 | some (.dT _)=>True
 | some (.set _ _)=>True
 | some (.ins _ _ _)=>True
 | some (.ext _)=>True
 | _=>False
section
variable {P:Program} {w:World} {H:Hp} {h h':Heap} {x e:Addr} {o':HO}
theorem HOk.write (ok:HOk P w H h) (mu:Xh (H x)) (he:e=x\/H e=some (.own x)) (k:∀ b u,b≠e->h.get? b=some u->h'.get? b=some u) (heo:∃ u,h'.get? e=some u)
  (new:ObjOk P w (upd H x o') h' x o'):HOk P w (upd H x o') h':=fun b u q=>by
 have nown:∀ c y,H c=some (.own y)->c≠x:=fun c y r z=>by subst z;rw [r] at mu;exact mu
 have ntup:∀ c xs,H c=some (.tup xs)->c≠x:=fun c xs r z=>by subst z;rw [r] at mu;exact mu
 by_cases hb:b=x
 ·subst hb;rw [aj] at q;cases q;exact new
 ·rw [aC hb] at q
  by_cases hbe:b=e
  ·have q':H b=some (.own x):=by
    rcases he with z | z
    ·exact absurd (hbe.trans z) hb
    ·rw [hbe];exact z
   rw [q] at q';cases q';obtain ⟨v,hv⟩:=heo;exact ⟨v,by rw [hbe];exact hv⟩
  ·refine (ok b u q).stay (fun c v hc r=>k c v ?_ r) (fun c r=>by rw [aC (nown c b r)];exact r) fun c xs r=>by rw [aC (ntup c xs r)];exact r
   rcases hc with rfl | hc
   ·exact hbe
   ·rintro rfl
    rcases he with z | z
    ·exact nown c b hc z
    ·rw [hc] at z;cases z;exact hb rfl
end
structure Un (fs ex:List Addr) (H H':Hp) (h h':Heap):Prop where
 keep:∀ b o,h.get? b=some o->H b=none->b ∉ fs->b ∉ ex->h'.get? b=some o
 slot:∀ b o,h.get? b=some o->H b=none->b∈fs->b ∉ ex->∃ sl,h'.get? b=some {o with slots:=sl}
 free:∀ b o,h.get? b=some o->H b=none->b ∉ ex->H' b=none
 there:∀ b o,h.get? b=some o->b ∉ ex->∃ o',h'.get? b=some o'
 tups:∀ b xs,H b=some (.tup xs)->H' b=some (.tup xs)
 frzs:∀ b o u,H b=some (.frz o u)->H' b=some (.frz o u)
 tbls:∀ b ps,H b=some (.tbl ps)->∃ more,H' b=some (.tbl (ps ++ more))
section
variable {fs fs' ex ex':List Addr} {H H1 H2:Hp} {h h1 h2 h':Heap} {a x e:Addr} {o:HO}
theorem Un.any (u:Un fs ex H H1 h h1) {b:Addr} {ob:Obj} (q:h.get? b=some ob) (n:H b=none) (hx:b ∉ ex):∃ sl,h1.get? b=some {ob with slots:=sl}:=by
 by_cases hb:b∈fs
 ·exact u.slot b ob q n hb hx
 ·exact ⟨ob.slots,u.keep b ob q n hb hx⟩
theorem Un.kept (k:∀ b u,h.get? b=some u->h'.get? b=some u):Un fs ex H H h h':=
 ⟨fun b ob q _ _ _=>k b ob q,fun b ob q _ _ _=>⟨ob.slots,k b ob q⟩,fun _ _ _ n _=>n,fun b ob q _=>⟨ob,k b ob q⟩,fun _ _ q=>q,fun _ _ _ q=>q,fun _ ps q=>⟨#[],by rw [q];simp⟩⟩
theorem Un.refl:Un fs ex H H h h:=Un.kept fun _ _ q=>q
theorem Un.laid (k:∀ b u,h.get? b=some u->h'.get? b=some u) (hp:h.objs.size<=a) (hn:H a=none):Un fs ex H (upd H a o) h h' where
 keep:=fun b u q _ _ _=>k b u q
 slot:=fun b u q _ _ _=>⟨u.slots,k b u q⟩
 free:=fun b u q n _=>by rw [aC (Aah (Z1 (ZL q) hp))];exact n
 there:=fun b u q _=>⟨u,k b u q⟩
 tups:=fun b xs q=>by rw [aC (lQ q hn)];exact q
 frzs:=fun b u xs q=>by rw [aC (lQ q hn)];exact q
 tbls:=fun b ps q=>⟨#[],by rw [aC (lQ q hn),q];simp⟩
theorem Un.write (mu:Xh (H x)) (he:e=x\/H e=some (.own x)) (k:∀ b u,b≠e->h.get? b=some u->h'.get? b=some u) (heo:∃ u,h'.get? e=some u):Un fs ex H (upd H x o) h h':=by
 have hx:∀ b,H b=none->b≠x:=fun b n z=>by subst z;rw [n] at mu;exact mu
 have hb:∀ b,H b=none->b≠e:=fun b n z=>by
  subst z;rcases he with r | r
  ·exact hx b n r
  ·rw [n] at r;cases r
 have hm:∀ b u,H b=some u->¬ Xh (some u)->b≠x:=fun b u q nm z=>by subst z;rw [q] at mu;exact nm mu
 refine ⟨fun b u q n _ _=>k b u (hb b n) q,fun b u q n _ _=>⟨u.slots,k b u (hb b n) q⟩,fun b u q n _=>by rw [aC (hx b n)];exact n,fun b u q _=>?_,
  fun b xs q=>by rw [aC (hm b _ q fun z=>z)];exact q,fun b u xs q=>by rw [aC (hm b _ q fun z=>z)];exact q,fun b ps q=>⟨#[],by rw [aC (hm b _ q fun z=>z),q];simp⟩⟩
 by_cases hbe:b=e
 ·subst hbe;exact heo
 ·exact ⟨u,k b u hbe q⟩
end
def T3 (h:Heap) (H:Hp):List Addr:=(List.range h.objs.size).filter fun a=>(H a).isSome
def zH (h:Heap) (H:Hp):Heap:=PySem.W.hideAll h (T3 h H)
theorem Hh (h:Heap) (H:Hp):(zH h H).objs.size=h.objs.size:=PySem.W.hideAll_size _ _
theorem Jy {h:Heap} {H:Hp} {b:Addr} {o:Obj} (e:h.get? b=some o) (n:H b=none):(zH h H).get? b=some o:=
 PySem.W.hideAll_get _ e fun hm=>by
  have q:(H b).isSome=true:=(List.mem_filter.mp hm).2;rw [n] at q;simp at q
theorem O5 {h:Heap} {H:Hp} {b:Addr} {o:Obj} (e:(zH h H).get? b=some o):h.get? b=some o/\H b=none:=by
 have e':h.get? b=some o:=PySem.W.of_hideAll (T3 h H) e;refine ⟨e',?_⟩;cases q:H b with
 | none=>rfl
 | some x=>
  have hm:b∈T3 h H:=List.mem_filter.mpr ⟨ZX.mpr (ZL e'),by simp [q]⟩;have z:(zH h H).get? b=none:=PySem.W.hideAll_none (T3 h H) hm;rw [z] at e;cases e
structure Mod (K:W.Frag) (mg:Str->Option Value) (base:Heap):Prop where
 kin:K.In base
 glob:base.Ns mainGlobals mg
 blt:∃ mb,base.Ns builtinsNs mb/\∀ x:Str,x≠"__name__"->mb x=bootBuiltins x
 nolimit:base.NoLimit
 sysm:∃ mm,base.Ns sysModules mm
 bmn:∃ bm ob,mg "__builtins__"=some (.ref bm)/\bm≠builtinsNs/\base.get? bm=some ob/\ob.cls= .type "module"/\ob.dict=some builtinsNs/\ob.data= .plain
structure Cx where
 prog:Program
 w:World
 K:W.Frag
 mg:Str->Option Value
 base:Heap
 A:Around
 N:List Str
 s₀:Shared
 H₀:Hp
 env:Env
 outer:List Env
 stack:List Env
 ex:List Addr
 fn:Str->Bool
 calm:Bool
 pn:List (Addr×Obj)
 xe:Value->Shared->Prop
def frs (l:List Env):List Addr:=l.filterMap (·.frame)
abbrev Cx.fs (X:Cx):List Addr:=frs X.outer
def Zi (sc:Scope) (x:Str):Prop:=sc.names.lookup x=some .local\/sc.names.lookup x=some .cell\/sc.names.lookup x=some .free
def Loc (sc:Scope) (x:Str):Prop:=sc.names.lookup x=some .local\/sc.names.lookup x=some .cell
def Look (env:Env) (h:Heap) (m:Str->Option Value) (x:Str) (u:Value):Prop:=
 (env.kindOf x=some .local/\m x=some u)\/((env.kindOf x=some .cell\/env.kindOf x=some .free)/\∃ c,env.cells.lookup x=some c/\h.IsCell c (some u))
structure Cx.Ok (X:Cx):Prop where
 mod:Mod X.K X.mg X.base
 kind:X.env.scope.kind= .function
 glob:X.env.globals=mainGlobals
 blt:X.env.builtins=builtinsNs
 above:X.s₀.heap.objs.size<=X.env.locals
 inj:∀ x y c,X.env.cells.lookup x=some c->X.env.cells.lookup y=some c->x=y
 has:∀ x,(X.env.kindOf x=some .cell\/X.env.kindOf x=some .free)->∃ c,X.env.cells.lookup x=some c
 cab:∀ x c,X.fn x=true->X.env.cells.lookup x=some c->X.s₀.heap.objs.size<=c
 hd:X.calm=true->X.A.handled=none
 frames:X.A.frames=some X.stack
 stk:X.stack=X.outer\/(X.stack=X.env :: X.outer/\X.env.frame=some X.env.locals)
 exf:∀ b∈X.ex,b≠X.env.locals/\∀ x c,X.env.cells.lookup x=some c->c≠b
 bs:∀ b o,X.base.get? b=some o->X.s₀.heap.get? b=some o/\X.H₀ b=none
 bsz:X.base.objs.size<=X.s₀.heap.objs.size
 noex:∀ b o,X.base.get? b=some o->b ∉ X.ex
 exfs:∀ b∈X.ex,b ∉ X.fs
 funs:X.s₀.heap.FunFrames X.base X.outer
 frf:∀ b∈X.fs,X.H₀ b=none
structure Inv (X:Cx) (pins:List (Addr×Obj)) (U:List (Option V)) (H:Hp) (s:Shared):Prop where
 ok:X.Ok
 os:s.os=X.s₀.os
 bare:AllBare s.gens
 base:Un X.fs X.ex X.H₀ H X.s₀.heap s.heap
 loc:∃ m,s.heap.Ns X.env.locals m/\∀ (i:Nat) (x:Str) (v:V),X.N[i]?=some x->U[i]?=some (some v)->Zi X.env.scope x->∃ u,RelV v u/\Look X.env s.heap m x u
 cell:∀ x c,X.env.cells.lookup x=some c->∃ v,s.heap.IsCell c v
 free:H X.env.locals=none
 freeC:∀ x c,X.env.cells.lookup x=some c->H c=none
 pin:∀ p∈X.pn ++ pins,s.heap.get? p.1=some p.2/\H p.1=none/\p.1≠X.env.locals/\p.1 ∉ X.fs/\∀ v,p.2.data≠.cell v
 hok:HOk X.prog X.w H s.heap
 len:U.length=X.N.length
section
variable {X:Cx} {pins:List (Addr×Obj)} {U:List (Option V)} {H H':Hp} {s:Shared} {h':Heap}
theorem Cx.Ok.nofr (ok:X.Ok) {b:Addr} {o:Obj} (e:X.base.get? b=some o):b ∉ X.fs:=fun hb=>by
 have:=(ok.funs.mem hb).1;rw [e] at this;cases this
theorem Inv.bs (I:Inv X pins U H s):∀ b o,X.base.get? b=some o->s.heap.get? b=some o/\H b=none:=fun b o e=>
 ⟨I.base.keep b o (I.ok.bs b o e).1 (I.ok.bs b o e).2 (I.ok.nofr e) (I.ok.noex b o e),I.base.free b o (I.ok.bs b o e).1 (I.ok.bs b o e).2 (I.ok.noex b o e)⟩
theorem Inv.bk (I:Inv X pins U H s):∀ b o,X.base.get? b=some o->s.heap.get? b=some o:=fun b o e=>(I.bs b o e).1
theorem Inv.mod (I:Inv X pins U H s):Mod X.K X.mg X.base:=I.ok.mod
theorem Inv.kIn (I:Inv X pins U H s):X.K.In s.heap:=I.ok.mod.kin.keeps I.bk
theorem Inv.lt (I:Inv X pins U H s):X.env.locals < s.heap.objs.size:=let ⟨_,hn,_⟩:=I.loc;hn.lt
theorem Inv.sz (I:Inv X pins U H s):X.s₀.heap.objs.size<=s.heap.objs.size:=ZG I.ok.above (Nat.le_of_lt I.lt)
theorem Inv.nofs (I:Inv X pins U H s) {a:Addr} (h:s.heap.objs.size<=a):a ∉ X.fs:=fun hb=>by
 obtain ⟨_,o,ho,_⟩:=I.ok.funs.mem hb;exact absurd (Z1 (ZL ho) (ZG I.sz h)) (AaM _)
theorem Inv.cne (I:Inv X pins U H s):∀ x c,X.env.cells.lookup x=some c->c≠X.env.locals:=fun x c e z=>by
 obtain ⟨v,o,ho,hd⟩:=I.cell x c e;obtain ⟨m,⟨o',es,ep,ho',hd',_⟩,_⟩:=I.loc;rw [z,ho'] at ho;cases ho;rw [hd'] at hd;cases hd
theorem Inv.funs (I:Inv X pins U H s):s.heap.FunFrames X.base X.outer:=by
 have all:∀ (l:List Env),(∀ b∈frs l,b∈X.fs)->X.s₀.heap.FunFrames X.base l->s.heap.FunFrames X.base l:=by
  intro l
  induction l with
  | nil=>intro _ _;trivial
  | cons env r ih=>
   intro hs hl;obtain ⟨hk,⟨L,o,hf,hn,ho,hd⟩,hr⟩:=hl;have hL:L∈X.fs:=hs L (by unfold frs;rw [List.filterMap_cons,hf];exact Aak);obtain ⟨sl,e⟩:=I.base.slot L o ho (I.ok.frf L hL) hL fun z=>I.ok.exfs L z hL
   exact ⟨hk,⟨L,_,hf,hn,e,hd⟩,ih (fun b hb=>hs b (by unfold frs;rw [List.filterMap_cons,hf];exact ZZ _ hb)) hr⟩
 exact all X.outer (fun _ hb=>hb) I.ok.funs
theorem Inv.stack (I:Inv X pins U H s):s.heap.FunFrames X.base X.stack:=by
 rcases I.ok.stk with e | ⟨e,hf⟩
 ·rw [e];exact I.funs
 ·rw [e]
  obtain ⟨m,hn,_⟩:=I.loc;refine .cons (by rw [I.ok.kind];decide) hf hn ?_ I.funs;exact Heap.get?_none_of_le (ZG I.ok.bsz I.ok.above)
theorem Inv.stkSub (I:Inv X pins U H s):∀ b∈frs X.stack,b∈X.env.locals :: X.fs:=fun b hb=>by
 rcases I.ok.stk with e | ⟨e,hf⟩
 ·rw [e] at hb;exact ZZ _ hb
 ·rw [e] at hb
  unfold frs at hb;rw [List.filterMap_cons,hf] at hb;exact hb
theorem Inv.stkFree (I:Inv X pins U H s):∀ b∈frs X.stack,H b=none:=fun b hb=>by
 rcases ZQ.mp (I.stkSub b hb) with e | hb
 ·rw [e];exact I.free
 ·obtain ⟨_,o,ho,_⟩:=I.ok.funs.mem hb
  exact I.base.free b o ho (I.ok.frf b hb) fun z=>I.ok.exfs b z hb
theorem Inv.step {g':Array GenState} {t':Nat} {d':Drawn} {ch:List Addr} (I:Inv X pins U H s)
  (hch:∀ b∈ch,(b∈X.ex\/X.s₀.heap.objs.size<=b)/\b≠X.env.locals/\(∀ x c,X.env.cells.lookup x=some c->c≠b)/\∀ p∈X.pn ++ pins,p.1≠b)
  (keep:∀ b o,b≠X.env.locals->b ∉ X.fs->b ∉ ch->s.heap.get? b=some o->H b=none->h'.get? b=some o)
  (slot:∀ b o,b≠X.env.locals->b∈X.fs->b ∉ ch->s.heap.get? b=some o->H b=none->∃ sl,h'.get? b=some {o with slots:=sl}) (free:∀ b o,b ∉ ch->s.heap.get? b=some o->H b=none->H' b=none)
  (there:∀ b o,b ∉ ch->s.heap.get? b=some o->∃ o',h'.get? b=some o')
  (tups:∀ b xs,H b=some (.tup xs)->H' b=some (.tup xs)) (frzs:∀ b o u,H b=some (.frz o u)->H' b=some (.frz o u)) (tbls:∀ b ps,H b=some (.tbl ps)->∃ more,H' b=some (.tbl (ps ++ more)))
  (ns:∀ m,s.heap.Ns X.env.locals m->h'.Ns X.env.locals m) (hok:HOk X.prog X.w H' h') (hg:AllBare g'):
  Inv X pins U H' {s with heap:=h',gens:=g',drawn:=d',toks:=t'}:=by
 have neL:∀ b o,X.s₀.heap.get? b=some o->b≠X.env.locals:=fun b o e=>Aah (Z1 (ZL e) I.ok.above)
 have neC:∀ b o,X.s₀.heap.get? b=some o->b ∉ X.ex->b ∉ ch:=fun b o e hx hb=>by
  rcases (hch b hb).1 with z | z
  ·exact hx z
  ·exact absurd (Z1 (ZL e) z) (AaM _)
 have cellK:∀ x c,X.env.cells.lookup x=some c->∀ v,s.heap.IsCell c v->h'.IsCell c v:=fun x c e v ⟨o,ho,hd⟩=>by
  have nch:c ∉ ch:=fun z=>(hch c z).2.2.1 x c e rfl
  by_cases hc:c∈X.fs
  ·obtain ⟨sl,q⟩:=slot c o (I.cne x c e) hc nch ho (I.freeC x c e)
   exact ⟨_,q,hd⟩
  ·exact ⟨o,keep c o (I.cne x c e) hc nch ho (I.freeC x c e),hd⟩
 refine ⟨I.ok,I.os,hg,⟨fun b o e n hb hx=>?_,fun b o e n hb hx=>?_,fun b o e n hx=>?_,fun b o e hx=>?_,fun b xs e=>tups b xs (I.base.tups b xs e),fun b o xs e=>frzs b o xs (I.base.frzs b o xs e),fun b ps e=>?_⟩,?_,fun x c e=>?_,?_,fun x c e=>?_,fun p hp=>?_,hok,I.len⟩
 ·exact keep b o (neL b o e) hb (neC b o e hx) (I.base.keep b o e n hb hx) (I.base.free b o e n hx)
 ·obtain ⟨sl,e1⟩:=I.base.slot b o e n hb hx
  obtain ⟨sl',e2⟩:=slot b _ (neL b o e) hb (neC b o e hx) e1 (I.base.free b o e n hx);exact ⟨sl',e2⟩
 ·obtain ⟨o',e1⟩:=I.base.there b o e hx
  exact free b o' (neC b o e hx) e1 (I.base.free b o e n hx)
 ·obtain ⟨o',e1⟩:=I.base.there b o e hx
  exact there b o' (neC b o e hx) e1
 ·obtain ⟨m1,e1⟩:=I.base.tbls b ps e
  obtain ⟨m2,e2⟩:=tbls b _ e1;exact ⟨m1 ++ m2,by rw [e2,Array.append_assoc]⟩
 ·obtain ⟨m,hn,hl⟩:=I.loc
  refine ⟨m,ns m hn,fun i x v e1 e2 e3=>?_⟩;obtain ⟨u,r,l⟩:=hl i x v e1 e2 e3;refine ⟨u,r,?_⟩;rcases l with l | ⟨k,c,e,z⟩
  ·exact .inl l
  ·exact .inr ⟨k,c,e,cellK x c e _ z⟩
 ·obtain ⟨v,z⟩:=I.cell x c e
  exact ⟨v,cellK x c e v z⟩
 ·obtain ⟨m,⟨o,_,_,ho,_⟩,_⟩:=I.loc
  exact free _ o (fun z=>(hch _ z).2.1 rfl) ho I.free
 ·obtain ⟨v,o,ho,hd⟩:=I.cell x c e
  exact free c o (fun z=>(hch c z).2.2.1 x c e rfl) ho (I.freeC x c e)
 ·obtain ⟨e,n,ne,nf,d⟩:=I.pin p hp
  have nch:p.1 ∉ ch:=fun z=>(hch p.1 z).2.2.2 p hp rfl
  exact ⟨keep p.1 p.2 ne nf nch e n,free p.1 p.2 nch e n,ne,nf,d⟩
theorem Inv.un {t':Nat} (I:Inv X pins U H s) (u:Un X.fs [] H H' s.heap h') (hok:HOk X.prog X.w H' h'):Inv X pins U H' {s with heap:=h',toks:=t'}:=by
 obtain ⟨m,⟨o,es,ep,ho,r⟩,_⟩:=id I.loc;obtain ⟨sl,hL⟩:=u.any ho I.free (by simp)
 exact I.step (g':=s.gens) (d':=s.drawn) (ch:=[]) (fun _ z=>nomatch z) (fun b o _ hb _ e n=>u.keep b o e n hb (by simp)) (fun b o _ hb _ e n=>u.slot b o e n hb (by simp)) (fun b o _ e n=>u.free b o e n (by simp)) (fun b o _ e=>u.there b o e (by simp)) u.tups u.frzs u.tbls (fun m' hm=>by
  obtain ⟨o',es',ep',ho',r'⟩:=hm;rw [ho] at ho';cases ho';exact ⟨_,es',ep',hL,r'⟩) hok I.bare
theorem Inv.call {g':Array GenState} {t':Nat} {d':Drawn} {ch:List Addr} (I:Inv X pins U H s) (u:Un (frs X.stack) ch H H' s.heap h') (hok:HOk X.prog X.w H' h') (hg:AllBare g')
  (hch:∀ b∈ch,(b∈X.ex\/X.s₀.heap.objs.size<=b)/\b≠X.env.locals/\(∀ x c,X.env.cells.lookup x=some c->c≠b)/\∀ p∈X.pn ++ pins,p.1≠b):
  Inv X pins U H' {s with heap:=h',gens:=g',drawn:=d',toks:=t'}:=by
 obtain ⟨m,⟨o,es,ep,ho,r⟩,_⟩:=id I.loc;obtain ⟨sl,hL⟩:=u.any ho I.free fun z=>(hch _ z).2.1 rfl
 exact I.step (ch:=ch) hch (fun b o hL hb hc e n=>u.keep b o e n (fun z=>(ZQ.mp (I.stkSub b z)).elim hL hb) hc) (fun b o _ _ hc e n=>u.any e n hc) (fun b o hc e n=>u.free b o e n hc) (fun b o hc e=>u.there b o e hc) u.tups u.frzs u.tbls (fun m' hm=>by
  obtain ⟨o',es',ep',ho',r'⟩:=hm;rw [ho] at ho';cases ho';exact ⟨_,es',ep',hL,r'⟩) hok hg
theorem Inv.turned {t':Nat} {it:Addr} (I:Inv X pins U H s) (k:∀ b o,b≠it->s.heap.get? b=some o->h'.get? b=some o) (hn:H it=none) (hL:it≠X.env.locals)
  (h1:it∈X.ex\/X.s₀.heap.objs.size<=it) (h2:∀ x c,X.env.cells.lookup x=some c->c≠it) (h3:∀ p∈X.pn ++ pins,p.1≠it):Inv X pins U H {s with heap:=h',toks:=t'}:=by
 have nit:∀ b u,H b=some u->b≠it:=fun b u e z=>by rw [z,hn] at e;cases e
 refine I.step (g':=s.gens) (d':=s.drawn) (ch:=[it]) (fun b hb=>?_) (fun b o _ _ hc e _=>k b o (fun z=>hc (by simp [z])) e) (fun b o _ _ hc e _=>⟨o.slots,k b o (fun z=>hc (by simp [z])) e⟩) (fun _ _ _ _ n=>n)
  (fun b o hc e=>⟨o,k b o (fun z=>hc (by simp [z])) e⟩) (fun _ _ e=>e) (fun _ _ _ e=>e) (fun b ps e=>⟨#[],by rw [e];simp⟩) (fun m hm=>?_) (fun b u e=>?_) I.bare
 ·have e:b=it:=by simpa using hb
  subst e;exact ⟨h1,hL,h2,h3⟩
 ·obtain ⟨o,es,ep,ho,r⟩:=hm
  exact ⟨o,es,ep,k _ o (Ne.symm hL) ho,r⟩
 ·refine (I.hok b u e).stay (fun c v hc q=>k c v ?_ q) (fun _ q=>q) fun _ _ q=>q
  rcases hc with z | z
  ·rw [z];exact nit b u e
  ·exact nit c _ z
theorem Inv.tok (I:Inv X pins U H s) (t:Nat):Inv X pins U H {s with toks:=t}:=I.un (h':=s.heap) (t':=t) Un.refl I.hok
theorem Inv.kept {t':Nat} (I:Inv X pins U H s) (k:∀ b u,s.heap.get? b=some u->h'.get? b=some u):Inv X pins U H {s with heap:=h',toks:=t'}:=I.un (Un.kept k) (I.hok.kept k)
theorem Inv.laid {a:Addr} {o:HO} {t':Nat} (I:Inv X pins U H s) (k:∀ b u,s.heap.get? b=some u->h'.get? b=some u) (hp:s.heap.objs.size<=a) (new:ObjOk X.prog X.w (upd H a o) h' a o):
  Inv X pins U (upd H a o) {s with heap:=h',toks:=t'}:=I.un (Un.laid k hp (I.hok.fresh hp)) (I.hok.laid k hp new)
theorem Inv.write {x e:Addr} {o:HO} {t':Nat} (I:Inv X pins U H s) (mu:Xh (H x)) (he:e=x\/H e=some (.own x)) (k:∀ b u,b≠e->s.heap.get? b=some u->h'.get? b=some u) (heo:∃ u,h'.get? e=some u)
  (new:ObjOk X.prog X.w (upd H x o) h' x o):Inv X pins U (upd H x o) {s with heap:=h',toks:=t'}:=I.un (Un.write mu he k heo) (I.hok.write mu he k heo new)
theorem Inv.weak {U':List (Option V)} (I:Inv X pins U H s) (hl:U'.length=U.length) (w:∀ (i:Nat) v,U'[i]?=some (some v)->U[i]?=some (some v)):Inv X pins U' H s:=
 ⟨I.ok,I.os,I.bare,I.base,let ⟨m,hn,hl'⟩:=I.loc;⟨m,hn,fun i x v e1 e2 e3=>hl' i x v e1 (w i v e2) e3⟩,I.cell,I.free,I.freeC,I.pin,I.hok,hl.trans I.len⟩
theorem Inv.pins_of {pins':List (Addr×Obj)} (I:Inv X pins U H s) (h:∀ p∈pins',s.heap.get? p.1=some p.2/\H p.1=none/\p.1≠X.env.locals/\p.1 ∉ X.fs/\∀ v,p.2.data≠.cell v):Inv X pins' U H s:=
 ⟨I.ok,I.os,I.bare,I.base,I.loc,I.cell,I.free,I.freeC,fun p hp=>(Aaw.mp hp).elim (fun z=>I.pin p (AbM _ z)) (h p),I.hok,I.len⟩
theorem Bk {N:List Str} (hN:N.Nodup) {i j:Nat} {x:Str} (a:N[i]?=some x) (b:N[j]?=some x):i=j:=by
 obtain ⟨h1,e1⟩:=Zx.mp a;obtain ⟨h2,e2⟩:=Zx.mp b;exact (List.getElem_inj hN).mp (e1.trans e2.symm)
theorem yQ {M:Model} {A:Around} {E:Value->Shared->Prop} {i:Nat} {x:Str} {v:V} {u:Value} {Q:Unit->Shared->Prop} (I:Inv X pins U H s) (hN:X.N.Nodup) (hi:X.N[i]?=some x) (hx:Loc X.env.scope x) (r:RelV v u)
  (h:∀ s',Inv X pins (U.set i (some v)) H s'->(∃ a,Heap.SameBut a s.heap s'.heap/\(a=X.env.locals\/X.env.cells.lookup x=some a))->Q () s') (hf:autoParam (X.fn x=true\/X.env.scope.names.lookup x=some .local) L2.auto1._auto_1):wpAny M A (storeName X.env x u) Q E s:=by
 obtain ⟨m,hn,hl⟩:=id I.loc;have hcls:(X.env.scope.kind == .class || (X.env.scope.kind == .module && X.env.locals != X.env.globals))=false:=by rw [I.ok.kind];rfl
 have hiU:i < U.length:=by rw [I.len];exact (Zx.mp hi).1
 have cne:=I.cne
 have tracked:∀ {a:Addr} {h':Heap},(∃ o,s.heap.get? a=some o/\H a=none)->Heap.SameBut a s.heap h'->HOk X.prog X.w H h':=fun {a h'} ha hs b ob e=>by
  obtain ⟨_,_,hfree⟩:=ha;refine (I.hok b ob e).stay (fun c w' hc q=>(hs.2 c ?_).trans q) (fun _ q=>q) fun _ _ q=>q
  rintro rfl;rcases hc with rfl | hc
  ·rw [hfree] at e;cases e
  ·rw [hfree] at hc;cases hc
 rcases hx with hk | hk
 ·refine wpAny_storeName_local hk hn (fun h' hn' hs=>?_) hcls
  obtain ⟨oL,_,_,hoL,_⟩:=id hn;refine h _ ⟨I.ok,I.os,I.bare,⟨fun b o e n hb hx=>?_,fun b o e n hb hx=>?_,I.base.free,fun b o e hx=>?_,I.base.tups,I.base.frzs,I.base.tbls⟩,⟨_,hn',fun j y v' e1 e2 e3=>?_⟩,fun y c e=>?_,I.free,I.freeC,fun p hp=>?_,tracked ⟨oL,hoL,I.free⟩ hs,by simpa using I.len⟩ ⟨_,hs,.inl rfl⟩
  ·exact (hs.2 b (Aah (Z1 (ZL e) I.ok.above))).trans (I.base.keep b o e n hb hx)
  ·obtain ⟨sl,e1⟩:=I.base.slot b o e n hb hx
   exact ⟨sl,(hs.2 b (Aah (Z1 (ZL e) I.ok.above))).trans e1⟩
  ·obtain ⟨o',e1⟩:=I.base.there b o e hx
   exact ⟨o',(hs.2 b (Aah (Z1 (ZL e) I.ok.above))).trans e1⟩
  ·by_cases hj:j=i
   ·subst hj
    rw [hi] at e1;cases e1;rw [Aaz hiU] at e2;cases e2;exact ⟨u,r,.inl ⟨hk,by simp⟩⟩
   ·rw [Aaf (Ne.symm hj)] at e2
    obtain ⟨u',r',q⟩:=hl j y v' e1 e2 e3;refine ⟨u',r',?_⟩;rcases q with ⟨k,e⟩ | ⟨k,c,e,z⟩
    ·refine .inl ⟨k,?_⟩
     have:y≠x:=fun e=>hj (Bk hN e1 (e ▸ hi))
     simp [this,e]
    ·exact .inr ⟨k,c,e,z.sameBut hs (cne y c e)⟩
  ·obtain ⟨w',z⟩:=I.cell y c e
   exact ⟨w',z.sameBut hs (cne y c e)⟩
  ·obtain ⟨e,n,ne,nf,d⟩:=I.pin p hp
   exact ⟨(hs.2 p.1 ne).trans e,n,ne,nf,d⟩
 ·have hfn:X.fn x=true:=by
   rcases hf with z | z
   ·exact z
   ·rw [z] at hk;cases hk
  obtain ⟨c,hc⟩:=I.ok.has x (.inl hk);obtain ⟨w',z⟩:=I.cell x c hc;refine wpAny_storeName_cell I.ok.kind hk hc z (fun h' hc' hs=>?_);obtain ⟨oc,hoc,hocd⟩:=id z;refine h {s with heap:=h'} ⟨I.ok,I.os,I.bare,⟨fun b o e n hb hx=>?_,fun b o e n hb hx=>?_,I.base.free,fun b o e hx=>?_,I.base.tups,I.base.frzs,I.base.tbls⟩,⟨m,hn.sameBut hs (Ne.symm (cne x c hc)),fun j y v' e1 e2 e3=>?_⟩,fun y c' e=>?_,I.free,I.freeC,fun p hp=>?_,tracked ⟨oc,hoc,I.freeC x c hc⟩ hs,by simpa using I.len⟩ ⟨c,hs,.inr hc⟩
  ·exact (hs.2 b (Aah (Z1 (ZL e) (I.ok.cab x c hfn hc)))).trans (I.base.keep b o e n hb hx)
  ·obtain ⟨sl,e1⟩:=I.base.slot b o e n hb hx
   exact ⟨sl,(hs.2 b (Aah (Z1 (ZL e) (I.ok.cab x c hfn hc)))).trans e1⟩
  ·obtain ⟨o',e1⟩:=I.base.there b o e hx
   exact ⟨o',(hs.2 b (Aah (Z1 (ZL e) (I.ok.cab x c hfn hc)))).trans e1⟩
  ·by_cases hj:j=i
   ·subst hj
    rw [hi] at e1;cases e1;rw [Aaz hiU] at e2;cases e2;exact ⟨u,r,.inr ⟨.inl hk,c,hc,hc'⟩⟩
   ·rw [Aaf (Ne.symm hj)] at e2
    obtain ⟨u',r',q⟩:=hl j y v' e1 e2 e3;refine ⟨u',r',?_⟩;rcases q with q | ⟨k,c',e,z'⟩
    ·exact .inl q
    ·refine .inr ⟨k,c',e,z'.sameBut hs ?_⟩
     rintro rfl;exact hj (Bk hN e1 (I.ok.inj _ _ _ e hc ▸ hi))
  ·by_cases hcc:c'=c
   ·subst hcc;exact ⟨_,hc'⟩
   ·obtain ⟨w2,z2⟩:=I.cell y c' e
    exact ⟨w2,z2.sameBut hs hcc⟩
  ·obtain ⟨e,n,ne,nf,d⟩:=I.pin p hp
   refine ⟨(hs.2 p.1 ?_).trans e,n,ne,nf,d⟩;intro q;rw [q,hoc] at e;have q':oc=p.2:=Z2 e;exact d w' (by rw [← q'];exact hocd)
theorem wU {M:Model} {A:Around} {E:Value->Shared->Prop} {i:Nat} {x:Str} {v:V} {u:Value} {Q:Unit->Shared->Prop} (I:Inv X pins U H s) (hN:X.N.Nodup) (hi:X.N[i]?=some x) (hx:Loc X.env.scope x) (r:RelV v u)
  (h:∀ s',Inv X pins (U.set i (some v)) H s'->Q () s') (hf:autoParam (X.fn x=true\/X.env.scope.names.lookup x=some .local) L2.auto1._auto_1):wpAny M A (storeName X.env x u) Q E s:=
 yQ I hN hi hx r (fun s' I' _=>h s' I') hf
theorem Inv.call' {s':Shared} {ch:List Addr} (I:Inv X pins U H s) (ho:s'.os=s.os) (u:Un (frs X.stack) ch H H' s.heap s'.heap) (hok:HOk X.prog X.w H' s'.heap) (hg:AllBare s'.gens)
  (hch:∀ b∈ch,(b∈X.ex\/X.s₀.heap.objs.size<=b)/\b≠X.env.locals/\(∀ x c,X.env.cells.lookup x=some c->c≠b)/\∀ p∈X.pn ++ pins,p.1≠b):Inv X pins U H' s':=by
 obtain ⟨h',g',d',t',o'⟩:=s';have e:o'=s.os:=ho;subst e;exact I.call (g':=g') (t':=t') (d':=d') u hok hg hch
end
abbrev XK:=Value->Option Addr->Hp->Prop
abbrev St:=List (Option V)
abbrev VK:=V->Hp->Prop
abbrev TE:=St->Hp->VK->Prop
abbrev TT:=St->Hp->(Bool->Hp->Prop)->Prop
abbrev TA:=St->Hp->(List V->Hp->Prop)->Prop
structure Ends where
 nx:St->Hp->Prop
 rt:VK
 bk:St->Hp->Prop:=fun _ _=>False
 ct:St->Hp->Prop:=fun _ _=>False
abbrev TS:=Ends->St->Hp->Prop
def EP (X:Cx) (pins:List (Addr×Obj)) (U:St) (Q:VK) (u:Value) (s':Shared):Prop:=∃ v H',Inv X pins U H' s'/\RelV v u/\Q v H'
def TP (X:Cx) (pins:List (Addr×Obj)) (U:St) (Q:Bool->Hp->Prop) (b:Bool) (s':Shared):Prop:=∃ H',Inv X pins U H' s'/\Q b H'
def AP (X:Cx) (pins:List (Addr×Obj)) (U:St) (Q:List V->Hp->Prop) (us:List Value) (s':Shared):Prop:=∃ vs H',Inv X pins U H' s'/\Vals vs us/\Q vs H'
def SP (X:Cx) (pins:List (Addr×Obj)) (D:Ends) (f:Flow) (s':Shared):Prop:=
 match f with
 | .next=>∃ U' H',Inv X pins U' H' s'/\D.nx U' H'
 | .brk=>∃ U' H',Inv X pins U' H' s'/\D.bk U' H'
 | .cont=>∃ U' H',Inv X pins U' H' s'/\D.ct U' H'
 | .ret u=>∃ v U' H',Inv X pins U' H' s'/\RelV v u/\D.rt v H'
def PE (X:Cx) (e:Expr) (t:TE):Prop:=
 ∀ (pins:List (Addr×Obj)) (s:Shared) (U:St) (H:Hp) (Q:VK),Inv X pins U H s->t U H Q->wpAny (model X.prog X.w) X.A (eval e X.env) (EP X pins U Q) X.xe s
def PT (X:Cx) (e:Expr) (t:TT):Prop:=
 ∀ (pins:List (Addr×Obj)) (s:Shared) (U:St) (H:Hp) (Q:Bool->Hp->Prop),Inv X pins U H s->t U H Q->wpAny (model X.prog X.w) X.A (isTrue e X.env (eval e X.env)) (TP X pins U Q) X.xe s
def PW (X:Cx) (e:Expr) (t:TT):Prop:=
 ∀ (whole:Sem Value) (pins:List (Addr×Obj)) (s:Shared) (U:St) (H:Hp) (Q:Bool->Hp->Prop),Inv X pins U H s->t U H Q->wpAny (model X.prog X.w) X.A (isTrue e X.env whole) (TP X pins U Q) X.xe s
theorem PW.pt {X:Cx} {e:Expr} {t:TT} (h:PW X e t):PT X e t:=h _
def PA (X:Cx) (es:List Expr) (t:TA):Prop:=
 ∀ (pos:Pos) (pins:List (Addr×Obj)) (s:Shared) (U:St) (H:Hp) (Q:List V->Hp->Prop),Inv X pins U H s->t U H Q->wpAny (model X.prog X.w) X.A (spliced (backTo pos (starEach es X.env))) (AP X pins U Q) X.xe s
def PS (X:Cx) (st:Stmt) (t:TS):Prop:=
 ∀ (pins:List (Addr×Obj)) (s:Shared) (U:St) (H:Hp) (D:Ends),Inv X pins U H s->t D U H->wpAny (model X.prog X.w) X.A (exec st X.env) (SP X pins D) X.xe s
def PSs (X:Cx) (st:List Stmt) (t:TS):Prop:=
 ∀ (pins:List (Addr×Obj)) (s:Shared) (U:St) (H:Hp) (D:Ends),Inv X pins U H s->t D U H->wpAny (model X.prog X.w) X.A (execs st X.env) (SP X pins D) X.xe s
theorem fM {α:Type} {t:Sem α} {Q Q':α->Shared->Prop} {M:Model} {A:Around} {E:Value->Shared->Prop} {s:Shared} (h:wpAny M A t Q E s) (hQ:∀ a s,Q a s->Q' a s):wpAny M A t Q' E s:=AaO h hQ fun _ _ x=>x
section
variable {X:Cx}
def rO (i:Nat):TE:=fun U H Q=>∃ v,U[i]?=some (some v)/\Q v H
def tC (v:V):TE:=fun _ H Q=>Q v H
theorem zJ {i:Nat} {x:Str} {pos:Pos} (hN:X.N[i]?=some x) (hv:Zi X.env.scope x) (hd:autoParam ((x == ("__debug__":Str))=false) L2.auto2._auto_1) (hcd:autoParam ((x == ("__classdict__":Str))=false) L2.auto2._auto_1):PE X (.Name x pos) (rO i):=by
 intro pins s U H Q I h;obtain ⟨v,e,h⟩:=h;obtain ⟨m,hn,hl⟩:=I.loc;obtain ⟨u,r,l⟩:=hl i x v hN e hv;have fin:EP X pins U Q u s:=⟨v,H,I,r,h⟩;rcases l with ⟨hk,hm⟩ | ⟨hk,c,hc,hcell⟩
 ·exact wpAny_Name (wpAny_loadName_local I.ok.kind hk hn hm fin) hd
 ·rcases hk with hk | hk
  ·exact wpAny_Name (wpAny_loadName_cell I.ok.kind hk hc hcell fin) hd
  ·exact wpAny_Name (wpAny_loadName_free I.ok.kind hk hc hcell fin hcd) hd
theorem T6 {i j pos}:PE X (.Constant (.int i) j pos) (tC (.int i)):=fun _ _ _ H _ I h=>wpAny_Constant_int ⟨.int i,H,I.tok _,⟨_,rfl⟩,h⟩
theorem Xi {b j pos}:PE X (.Constant (.bool b) j pos) (tC (.bl b)):=fun _ _ _ H _ I h=>Constant_bool ⟨.bl b,H,I,rfl,h⟩
theorem T7 {j pos}:PE X (.Constant .none j pos) (tC .non):=fun _ _ _ H _ I h=>Constant_none ⟨.non,H,I,rfl,h⟩
theorem T8 {x j pos}:PE X (.Constant (.str x) j pos) (tC (.str x)):=fun _ _ _ H _ I h=>Calls.Constant_str ⟨.str x,H,I.tok _,⟨_,rfl⟩,h⟩
def Gl (X:Cx) (x:Str):Prop:=X.env.kindOf x=some .globalImplicit
theorem tX {E:Value->Shared->Prop} {pins:List (Addr×Obj)} {s:Shared} {U:St} {H:Hp} {x:Str} {u:Value} {pos:Pos} {Q:Value->Shared->Prop} (I:Inv X pins U H s) (hg:Gl X x) (hm:X.mg x=some u) (h:Q u s)
  (hd:autoParam ((x == ("__debug__":Str))=false) L2.auto2._auto_1):wpAny (model X.prog X.w) X.A (eval (.Name x pos) X.env) Q E s:=
 Calls.Name_function_global I.ok.kind hg (Calls.loadGlobal_global (by rw [I.ok.glob];exact I.mod.glob.keeps I.bk) hm h) hd
theorem iI {E:Value->Shared->Prop} {pins:List (Addr×Obj)} {s:Shared} {U:St} {H:Hp} {x:Str} {u:Value} {pos:Pos} {Q:Value->Shared->Prop} (I:Inv X pins U H s) (hg:Gl X x) (hm:X.mg x=none) (hv:bootBuiltins x=some u) (h:Q u s)
  (hn:autoParam (x≠"__name__") L2.auto2._auto_1) (hd:autoParam ((x == ("__debug__":Str))=false) L2.auto2._auto_1):wpAny (model X.prog X.w) X.A (eval (.Name x pos) X.env) Q E s:=by
 obtain ⟨mb,h1,h2⟩:=I.mod.blt;exact Calls.Name_function_global I.ok.kind hg (Calls.loadGlobal_builtin (by rw [I.ok.glob];exact I.mod.glob.keeps I.bk) hm (by rw [I.ok.blt];exact h1.keeps I.bk) ((h2 x hn).trans hv) h) hd
theorem Fx {x:Str} {v:V} {u:Value} {pos:Pos} (hg:Gl X x) (hm:X.mg x=some u) (r:RelV v u) (hd:autoParam ((x == ("__debug__":Str))=false) L2.auto2._auto_1):PE X (.Name x pos) (tC v):=
 fun _ _ _ H _ I h=>tX I hg hm ⟨v,H,I,r,h⟩ hd
theorem O6 {x:Str} {v:V} {u:Value} {pos:Pos} (hg:Gl X x) (hm:X.mg x=none) (hv:bootBuiltins x=some u) (r:RelV v u) (hn:autoParam (x≠"__name__") L2.auto2._auto_1) (hd:autoParam ((x == ("__debug__":Str))=false) L2.auto2._auto_1):PE X (.Name x pos) (tC v):=
 fun _ _ _ H _ I h=>iI I hg hm hv ⟨v,H,I,r,h⟩ hn hd
variable {a b:Expr} {ta tb:TE} {pos:Pos}
def tB (t:TE):TT:=fun U H Q=>t U H fun x H1=>∃ c,x= .bl c/\Q c H1
theorem T9 {e:Expr} {t:TE} (h:PE X e t) (he:autoParam (∀ whole,isTrue e X.env whole=(do let v ← whole;standAt e.pos;holding [v] (truthy v))) L2.auto3._auto_1):PT X e (tB t):=by
 intro pins s U H Q I hw;refine isTrue_plain (fM (h pins s U H _ I hw) fun v s1 qq0=>?_) (he _);obtain ⟨x,H1,I1,r1,q1⟩:=qq0;obtain ⟨d,rfl,q⟩:=q1;cases r1;exact AaT ⟨H1,I1,q⟩
variable {tA tB':TT} {rest:List Expr}
def O7 (t u:TT):TT:=fun U H Q=>t U H fun c H1=>if c=true then u U H1 Q else Q false H1
def tOr (t u:TT):TT:=fun U H Q=>t U H fun c H1=>if c=true then Q true H1 else u U H1 Q
def Ua (t:TT):TT:=fun U H Q=>t U H fun c H1=>Q (!c) H1
theorem O8 (ha:PT X a tA):PW X (.BoolOp .And [a] pos) tA:=by
 intro wh pins s U H Q I h;refine isTrue_and (fM (ha pins s U H Q I h) fun c s1 e=>?_);cases c with
 | true=>exact isTrue_and_nil e
 | false=>exact e
theorem Ub (ha:PT X a tA):PW X (.BoolOp .Or [a] pos) tA:=by
 intro wh pins s U H Q I h;refine isTrue_or (fM (ha pins s U H Q I h) fun c s1 e=>?_);cases c with
 | false=>exact isTrue_or_nil e
 | true=>exact e
theorem Uc (ha:PT X a tA) (hb:PW X (.BoolOp .And (b :: rest) pos) tB'):PW X (.BoolOp .And (a :: b :: rest) pos) (O7 tA tB'):=by
 intro wh pins s U H Q I h;refine isTrue_and (fM (ha pins s U H _ I h) fun c s1 qq0=>?_);obtain ⟨H1,I1,q1⟩:=qq0;cases c with
 | true=>exact hb wh pins s1 U H1 Q I1 q1
 | false=>exact ⟨H1,I1,q1⟩
theorem Xj (ha:PT X a tA) (hb:PW X (.BoolOp .Or (b :: rest) pos) tB'):PW X (.BoolOp .Or (a :: b :: rest) pos) (tOr tA tB'):=by
 intro wh pins s U H Q I h;refine isTrue_or (fM (ha pins s U H _ I h) fun c s1 qq0=>?_);obtain ⟨H1,I1,q1⟩:=qq0;cases c with
 | true=>exact ⟨H1,I1,q1⟩
 | false=>exact hb wh pins s1 U H1 Q I1 q1
theorem Ud (ha:PT X a tA):PT X (.UnaryOp .Not a pos) (Ua tA):=by
 intro pins s U H Q I h;exact isTrue_not (ha pins s U H (fun c H1=>Q (!c) H1) I h)
def Jz (ta tb:TE):TE:=fun U H Q=>ta U H fun x H1=>∃ c,x= .bl c/\if c=true then tb U H1 Q else Q (.bl false) H1
def Ue (ta tb:TE):TE:=fun U H Q=>ta U H fun x H1=>∃ c,x= .bl c/\if c=true then Q (.bl true) H1 else tb U H1 Q
def JC (ta:TE):TE:=fun U H Q=>ta U H fun x H1=>∃ c,x= .bl c/\Q (.bl (!c)) H1
theorem Ug {op} {t:TE} (h:PE X a t):PE X (.BoolOp op [a] pos) t:=fun pins s U H Q I hw=>BoolOp_one (h pins s U H Q I hw)
theorem Uh (ha:PE X a ta) (hb:PE X (.BoolOp .And (b :: rest) pos) tb):PE X (.BoolOp .And (a :: b :: rest) pos) (Jz ta tb):=by
 intro pins s U H Q I h;refine BoolOp_and (fM (ha pins s U H _ I h) fun v s1 qq0=>?_);obtain ⟨x,H1,I1,r1,q1⟩:=qq0;obtain ⟨c,rfl,q1⟩:=q1;cases r1;refine AaT ?_;cases c with
 | true=>exact hb pins s1 U H1 Q I1 q1
 | false=>exact ⟨.bl false,H1,I1,rfl,q1⟩
theorem Xk (ha:PE X a ta) (hb:PE X (.BoolOp .Or (b :: rest) pos) tb):PE X (.BoolOp .Or (a :: b :: rest) pos) (Ue ta tb):=by
 intro pins s U H Q I h;refine BoolOp_or (fM (ha pins s U H _ I h) fun v s1 qq0=>?_);obtain ⟨x,H1,I1,r1,q1⟩:=qq0;obtain ⟨c,rfl,q1⟩:=q1;cases r1;refine AaT ?_;cases c with
 | false=>exact hb pins s1 U H1 Q I1 q1
 | true=>exact ⟨.bl true,H1,I1,rfl,q1⟩
theorem Ui (ha:PE X a ta):PE X (.UnaryOp .Not a pos) (JC ta):=by
 intro pins s U H Q I h;refine UnaryOp_ (fM (ha pins s U H _ I h) fun v s1 qq0=>?_);obtain ⟨x,H1,I1,r1,q1⟩:=qq0;obtain ⟨c,rfl,q1⟩:=q1;cases r1;exact not_of (AaT ⟨.bl (!c),H1,I1,rfl,q1⟩)
def tIf (t:TT) (ta tb:TE):TE:=fun U H Q=>t U H fun c H1=>if c=true then ta U H1 Q else tb U H1 Q
theorem JD {c:Expr} (hc:PT X c tA) (ha:PE X a ta) (hb:PE X b tb):PE X (.IfExp c a b pos) (tIf tA ta tb):=by
 intro pins s U H Q I h;refine wpAny_IfExp (fM (hc pins s U H _ I h) fun d s1 qq0=>?_);obtain ⟨H1,I1,q1⟩:=qq0;cases d with
 | true=>exact ha pins s1 U H1 Q I1 q1
 | false=>exact hb pins s1 U H1 Q I1 q1
end
def SqL (K:W.Frag) (H:Hp) (a:Addr) (xs:List V):Prop:=
 Rd H a (.lst xs)\/
  ∃ (o:Obj) (its:Array Value) (n:Nat),K.lookup a=some o/\o.cls= .type "list"/\o.dict=none/\o.data= .seq its n/\its.size<=sizeLine/\Vals xs its.toList
def SqT (K:W.Frag) (H:Hp) (a:Addr) (xs:List V):Prop:=
 Rd H a (.tup xs)\/
  ∃ (o:Obj) (its:Array Value) (n:Nat),K.lookup a=some o/\o.cls= .type "tuple"/\o.data= .seq its n/\its.size<=sizeLine/\Vals xs its.toList
def absV:Value->Option V
 | .none=>some .non
 | .bool b=>some (.bl b)
 | .int i _=>some (.int i)
 | .str x _=>some (.str x)
 | .bytes b _=>some (.byt b)
 | .float b _=>some (.flt b)
 | .ref a=>some (.ref a)
 | .type n=>some (.ty n)
 | _=>none
theorem RelV.abs {x:V} {u:Value} (r:RelV x u):absV u=some x:=by
 cases x with
 | non=>cases r;rfl
 | bl _=>cases r;rfl
 | int _=>obtain ⟨t,rfl⟩:=r;rfl
 | str _=>obtain ⟨t,rfl⟩:=r;rfl
 | byt _=>obtain ⟨t,rfl⟩:=r;rfl
 | flt _=>obtain ⟨t,rfl⟩:=r;rfl
 | ref _=>cases r;rfl
 | ty _=>cases r;rfl
theorem RelV.inj {x y:V} {u:Value} (r:RelV x u) (q:RelV y u):x=y:=Z2 (r.abs.symm.trans q.abs)
theorem Vals.inj:∀ {xs ys:List V} {us:List Value},Vals xs us->Vals ys us->xs=ys
 | _,_,_,.nil,.nil=>rfl
 | _,_,_,.cons r t,.cons r' t'=>by rw [r.inj r',Vals.inj t t']
section
variable {X:Cx} {pins:List (Addr×Obj)} {U:St} {H:Hp} {s:Shared} {a:Addr} {xs ys:List V}
theorem SqL.of {K:W.Frag} (h:H a=some (.lst xs)):SqL K H a xs:=.inl (.inl h)
theorem SqT.of {K:W.Frag} (h:H a=some (.tup xs)):SqT K H a xs:=.inl (.inl h)
theorem Inv.list (I:Inv X pins U H s) (h:SqL X.K H a xs):∃ its:List Value,Vals xs its/\PlainL s.heap a its.toArray/\xs.length<=sizeLine:=by
 rcases h with h | ⟨o,its,n,hk,hc,hd,hs,hz,r⟩
 ·obtain ⟨z,its,n,r,e⟩:=h.ok I.hok
  exact ⟨its,r,⟨_,n,e,rfl,rfl,rfl⟩,z⟩
 ·refine ⟨its.toList,r,⟨o,n,I.kIn a o hk,hc,hd,by simpa using hs⟩,?_⟩
  have e:=r.length;simp only [ZF] at e;omega
theorem Inv.tuple (I:Inv X pins U H s) (h:SqT X.K H a xs):∃ its:List Value,Vals xs its/\IsTup s.heap a its.toArray/\xs.length<=sizeLine:=by
 rcases h with h | ⟨o,its,n,hk,hc,hs,hz,r⟩
 ·obtain ⟨z,its,r,p⟩:=h.ok I.hok
  exact ⟨its,r,p,z⟩
 ·refine ⟨its.toList,r,⟨o,I.kIn a o hk,hc,n,by simpa using hs⟩,?_⟩
  have e:=r.length;simp only [ZF] at e;omega
theorem Inv.list_inj (I:Inv X pins U H s) (h:SqL X.K H a xs) (h':SqL X.K H a ys):xs=ys:=by
 obtain ⟨its,r,⟨o,n,e,_,_,d⟩,_⟩:=I.list h;obtain ⟨its',r',⟨o',n',e',_,_,d'⟩,_⟩:=I.list h';rw [e] at e';cases e';rw [d] at d';injection d' with d1 _;have:its=its':=by simpa using congrArg Array.toList d1
 subst this;exact r.inj r'
theorem Inv.tuple_inj (I:Inv X pins U H s) (h:SqT X.K H a xs) (h':SqT X.K H a ys):xs=ys:=by
 obtain ⟨its,r,⟨o,e,_,n,d⟩,_⟩:=I.tuple h;obtain ⟨its',r',⟨o',e',_,n',d'⟩,_⟩:=I.tuple h';rw [e] at e';cases e';rw [d] at d';injection d' with d1 _;have:its=its':=by simpa using congrArg Array.toList d1
 subst this;exact r.inj r'
end
abbrev Cx.wish (X:Cx) (E:Value->Shared->Prop):Cx:={X with xe:=E}
abbrev Cx.nox (X:Cx):Cx:=X.wish fun _ _=>False
theorem Cx.Ok.wish {X:Cx} (ok:X.Ok) (E:Value->Shared->Prop):(X.wish E).Ok:=
 ⟨ok.mod,ok.kind,ok.glob,ok.blt,ok.above,ok.inj,ok.has,ok.cab,ok.hd,ok.frames,ok.stk,ok.exf,ok.bs,ok.bsz,ok.noex,ok.exfs,ok.funs,ok.frf⟩
theorem Cx.Ok.unwish {X:Cx} {E:Value->Shared->Prop} (ok:(X.wish E).Ok):X.Ok:=
 ⟨ok.mod,ok.kind,ok.glob,ok.blt,ok.above,ok.inj,ok.has,ok.cab,ok.hd,ok.frames,ok.stk,ok.exf,ok.bs,ok.bsz,ok.noex,ok.exfs,ok.funs,ok.frf⟩
section
variable {X:Cx} {pins:List (Addr×Obj)} {U:St} {H:Hp} {s:Shared} {E:Value->Shared->Prop}
theorem Inv.wish (I:Inv X pins U H s) (E:Value->Shared->Prop):Inv (X.wish E) pins U H s:=⟨I.ok.wish E,I.os,I.bare,I.base,I.loc,I.cell,I.free,I.freeC,I.pin,I.hok,I.len⟩
theorem Inv.unwish (I:Inv (X.wish E) pins U H s):Inv X pins U H s:=⟨I.ok.unwish,I.os,I.bare,I.base,I.loc,I.cell,I.free,I.freeC,I.pin,I.hok,I.len⟩
theorem SP.unwish {D:Ends} {f:Flow} {s':Shared} (h:SP (X.wish E) pins D f s'):SP X pins D f s':=by
 cases f with
 | next=>obtain ⟨U',H',I,q⟩:=h;exact ⟨U',H',I.unwish,q⟩
 | brk=>obtain ⟨U',H',I,q⟩:=h;exact ⟨U',H',I.unwish,q⟩
 | cont=>obtain ⟨U',H',I,q⟩:=h;exact ⟨U',H',I.unwish,q⟩
 | ret u=>obtain ⟨v,U',H',I,r,q⟩:=h;exact ⟨v,U',H',I.unwish,r,q⟩
theorem PSs.nox {st:List Stmt} {t:TS} (h:PSs X.nox st t):PSs X st t:=fun pins s U H D I hw=>
 AaO (h pins s U H D (I.wish _) hw) (fun _ _ q=>q.unwish) fun _ _ z=>False.elim z
end
section
variable {X:Cx} {st:Stmt} {rest:List Stmt} {t u:TS} {e:Expr} {te:TE} {pos:Pos}
def JF:TS:=fun D U H=>D.nx U H
def O9 (t u:TS):TS:=fun D U H=>t {D with nx:=u D} U H
theorem Pa:PSs X [] JF:=fun _ _ U H _ I h=>wpAny_execs_nil ⟨U,H,I,h⟩
theorem JH (h1:PS X st t) (h2:PSs X rest u):PSs X (st :: rest) (O9 t u):=by
 intro pins s U H D I h;refine wpAny_execs_cons (fM (h1 pins s U H {D with nx:=u D} I h) fun f s1 q=>?_);cases f with
 | next=>
  obtain ⟨U',H',I',q⟩:=q;exact h2 pins s1 U' H' D I' q
 | ret v=>exact q
 | brk=>exact q
 | cont=>exact q
theorem Pb (h1:PS X st t):PSs X [st] t:=by
 intro pins s U H D I h;refine wpAny_execs_cons (fM (h1 pins s U H D I h) fun f s1 q=>?_);cases f with
 | next=>exact wpAny_execs_nil q
 | ret v=>exact q
 | brk=>exact q
 | cont=>exact q
theorem Inv.quiet {pins:List (Addr×Obj)} {U:St} {H:Hp} {s:Shared} (I:Inv X pins U H s):interactive X.env=false:=by simp [interactive,I.ok.kind]
def Fy (te:TE):TS:=fun D U H=>te U H fun _ H1=>D.nx U H1
theorem Pg (he:PE X e te) (hs:autoParam (swapsWith e none pos.line X.env=pure false) L2.auto4._auto_1):PS X (.Expr e pos) (Fy te):=by
 intro pins s U H D I h;exact wpAny_Expr_any (fM (he pins s U H _ I h) fun v s1 ⟨x,H1,I1,r1,q1⟩=>⟨U,H1,I1,q1⟩) I.quiet hs
def Uj (te:TE):TS:=fun D U H=>te U H D.rt
theorem Uk (he:PE X e te):PS X (.Return (some e) pos) (Uj te):=by
 intro pins s U H D I h;exact wpAny_Return_some (fM (he pins s U H _ I h) fun v s1 ⟨x,H1,I1,r1,q1⟩=>⟨x,U,H1,I1,r1,q1⟩)
def Ul (c:TT) (t u:TS):TS:=fun D U H=>c U H fun b H1=>if b=true then t D U H1 else u D U H1
theorem Xl {c:Expr} {a b:List Stmt} {tc:TT} (hc:PT X c tc) (ha:PSs X a t) (hb:PSs X b u):PS X (.If c a b pos) (Ul tc t u):=by
 intro pins s U H D I h;refine wpAny_If (fM (hc pins s U H _ I h) fun d s1 qq0=>?_);obtain ⟨H1,I1,q1⟩:=qq0;cases d with
 | true=>exact ha pins s1 U H1 D I1 q1
 | false=>exact hb pins s1 U H1 D I1 q1
def JK:TS:=fun _ _ _=>False
theorem JL:PS X st JK:=fun _ _ _ _ _ _ h=>h.elim
end
abbrev TG:=V->St->Hp->(St->Hp->Prop)->Prop
abbrev Di:=List V->St->Hp->(St->Hp->Prop)->Prop
def PG (X:Cx) (target:Expr) (t:TG):Prop:=
 ∀ (pins:List (Addr×Obj)) (s:Shared) (U:St) (H:Hp) (v:V) (u:Value) (Q:St->Hp->Prop),Inv X pins U H s->RelV v u->t v U H Q->
  wpAny (model X.prog X.w) X.A (assign target X.env u) (fun _ s'=>∃ U' H',Inv X pins U' H' s'/\Q U' H') X.xe s
def Xb (X:Cx) (ts:List Expr) (t:Di):Prop:=
 ∀ (pins:List (Addr×Obj)) (s:Shared) (U:St) (H:Hp) (vs:List V) (us:List Value) (Q:St->Hp->Prop),Inv X pins U H s->Vals vs us->t vs U H Q->
  wpAny (model X.prog X.w) X.A (assignInOrder ((assignEach ts X.env).map (·.2)) us) (fun _ s'=>∃ U' H',Inv X pins U' H' s'/\Q U' H') X.xe s
abbrev Dj:=V->V->V->Hp->(Hp->Prop)->Prop
def Ph (X:Cx) (t:Dj):Prop:=
 ∀ (pins:List (Addr×Obj)) (s:Shared) (U:St) (H:Hp) (o i v:V) (ov iv u:Value) (Q:Hp->Prop),Inv X pins U H s->RelV o ov->RelV i iv->RelV v u->t o i v H Q->
  wpAny (model X.prog X.w) X.A (setItem ov iv u) (fun _ s'=>∃ H',Inv X pins U H' s'/\Q H') X.xe s
abbrev TIp:=V->V->Hp->VK->Prop
def PIp (X:Cx) (op:Operator) (t:TIp):Prop:=
 ∀ (pins:List (Addr×Obj)) (s:Shared) (U:St) (H:Hp) (x y:V) (v u:Value) (Q:VK),Inv X pins U H s->RelV x v->RelV y u->t x y H Q->
  wpAny (model X.prog X.w) X.A (inplaceOp op v u) (EP X pins U Q) X.xe s
section
variable {X:Cx} {pos:Pos}
def rF (i:Nat):TG:=fun v U H Q=>Q (U.set i (some v)) H
theorem Fz {i:Nat} {x:Str} (hN:X.N.Nodup) (hi:X.N[i]?=some x) (hx:Loc X.env.scope x) (hf:autoParam (X.fn x=true\/X.env.scope.names.lookup x=some .local) L2.auto1._auto_1):PG X (.Name x pos) (rF i):=by
 intro pins s U H v u Q I r h;exact wpAny_assign_Name (wU I hN hi hx r (fun s' I'=>⟨_,H,I',h⟩) hf)
def Um:Di:=fun vs U H Q=>vs=[]/\Q U H
def JM (t:TG) (u:Di):Di:=fun vs U H Q=>∃ v r,vs=v :: r/\t v U H fun U' H'=>u r U' H' Q
theorem Pj:Xb X [] Um:=by
 intro pins s U H vs us Q I r h;obtain ⟨e,h⟩:=h;subst e;cases r;exact assignInOrder_nil ⟨U,H,I,h⟩
theorem JN {e:Expr} {es:List Expr} {t:TG} {u:Di} (h1:PG X e t) (h2:Xb X es u)
  (hs:autoParam ((assignEach (e :: es) X.env).map (·.2)=assign e X.env :: (assignEach es X.env).map (·.2)) L2.auto4._auto_1):Xb X (e :: es) (JM t u):=by
 intro pins s U H vs us Q I r h;obtain ⟨v,vr,e1,h⟩:=h;subst e1;cases r with
 | cons r rr=>
  rw [hs];refine assignInOrder_cons (fM (h1 pins s U H _ _ _ I r h) fun _ s1 qq0=>?_);obtain ⟨σ1,H1,I1,q1⟩:=qq0;exact h2 pins s1 σ1 H1 _ _ Q I1 rr q1
def Pk (K:W.Frag) (n:Nat) (t:Di):TG:=fun v U H Q=>∃ a xs,v= .ref a/\SqT K H a xs/\xs.length=n/\t xs U H Q
theorem JP {es:List Expr} {k:Nat} {t:Di} {n:Nat} (hc:X.calm=true) (h:Xb X es t)
  (hn:autoParam ((assignEach es X.env).length=n) L2.auto4._auto_1) (hst:autoParam ((assignEach es X.env).findIdx? (·.1)=none) L2.auto4._auto_1):PG X (.Tuple es k pos) (Pk X.K n t):=by
 intro pins s U H v u Q I r hw;obtain ⟨a,xs,e1,hq,hl,hw⟩:=hw;subst e1;cases r;obtain ⟨its,rv,ht,hz⟩:=I.tuple hq;refine assign_Tuple_tuple (I.ok.hd hc) ht (by simp [hn,← hl,rv.length]) hst fun h' hx=>?_
 have I1:Inv X pins U H {s with heap:=h'}:=I.kept (t':=s.toks) fun b o e=>hx b o (Aah (ZL e)) e
 exact h pins _ U H xs _ Q I1 (by simpa using rv) hw
def Uo (to ti:TE) (t:Dj):TG:=fun v U H Q=>to U H fun o H1=>ti U H1 fun i H2=>t o i v H2 fun H3=>Q U H3
theorem Up {o i:Expr} {to ti:TE} {t:Dj} (ho:PE X o to) (hi:PE X i ti) (hs:Ph X t)
  (ha:∀ v,assign (.Subscript o i pos) X.env v=(do
   let ov ← holding [v] (eval o X.env)
   let iv ← holding [v,ov] (eval i X.env)
   standAt pos
   holding [v,ov,iv] (setItem ov iv v)
   release [v,ov,iv] []):=by intro _;rfl):PG X (.Subscript o i pos) (Uo to ti t):=by
 intro pins s U H v u Q I r h;rw [ha];refine Zu (Aar (fM (ho pins s U H _ I h) fun ov s1 qq0=>?_));obtain ⟨x,H1,I1,r1,q1⟩:=qq0;refine Zu (Aar (fM (hi pins s1 U H1 _ I1 q1) fun iv s2 qq0=>?_));obtain ⟨y,H2,I2,r2,q2⟩:=qq0;refine Zu (AbF (Zu (Aar (fM (hs pins s2 U H2 x y v ov iv u _ I2 r1 r2 r q2) fun _ s3 qq0=>?_))));obtain ⟨H3,I3,q3⟩:=qq0;exact wpAny_release ⟨U,H3,I3,q3⟩
def zK (te:TE) (g:TG):TS:=fun D U H=>te U H fun x H1=>g x U H1 D.nx
theorem JQ {tg e:Expr} {te:TE} {g:TG} (he:PE X e te) (hg:PG X tg g) (hs:autoParam (swapsWithSole [tg] e pos.line X.env=pure false) L2.auto4._auto_1) (hw:autoParam (swappedStores [tg] e X.env=pure none) L2.auto4._auto_1)
  (h1:autoParam ((assignEach [tg] X.env).map (·.2)=[assign tg X.env]) L2.auto4._auto_1):PS X (.Assign [tg] e pos) (zK te g):=by
 intro pins s U H D I h;refine wpAny_Assign_stores (fM (he pins s U H _ I h) fun v s1 qq0=>?_) hs hw;obtain ⟨x,H1,I1,r1,q1⟩:=qq0;rw [h1];exact fM (hg pins s1 U H1 x v _ I1 r1 q1) fun _ s2 q=>q
theorem JR {i:Nat} {x:Str} {e:Expr} {te:TE} {pos':Pos} (hN:X.N.Nodup) (hi:X.N[i]?=some x) (hx:Loc X.env.scope x) (he:PE X e te) (hs:autoParam (swapsWith e (some (.Name x pos')) pos.line X.env=pure false) L2.auto4._auto_1) (hf:autoParam (X.fn x=true\/X.env.scope.names.lookup x=some .local) L2.auto1._auto_1):
  PS X (.Assign [.Name x pos'] e pos) (zK te (rF i)):=by
 intro pins s U H D I h;refine wpAny_Assign_Name (fM (he pins s U H _ I h) fun v s1 qq0=>?_) hs;obtain ⟨y,H1,I1,r1,q1⟩:=qq0;exact wU I1 hN hi hx r1 (fun s2 I2=>⟨_,H1,I2,q1⟩) hf
def Uq (i:Nat) (te:TE) (ti:TIp):TS:=fun D U H=>∃ x,U[i]?=some (some x)/\te U H fun y H1=>ti x y H1 fun z H2=>D.nx (U.set i (some z)) H2
theorem Ur {i:Nat} {x:Str} {e:Expr} {te:TE} {op:Operator} {ti:TIp} {pos':Pos} (hN:X.N.Nodup) (hi:X.N[i]?=some x) (hx:Loc X.env.scope x) (he:PE X e te) (ho:PIp X op ti) (hf:autoParam (X.fn x=true\/X.env.scope.names.lookup x=some .local) L2.auto1._auto_1):
  PS X (.AugAssign (.Name x pos') op e pos) (Uq i te ti):=by
 intro pins s U H D I h;obtain ⟨v,e1,h⟩:=h;obtain ⟨m,hn,hl⟩:=I.loc;have vis:Zi X.env.scope x:=by rcases hx with k | k;exact .inl k;exact .inr (.inl k)
 obtain ⟨u,r,l⟩:=hl i x v hi e1 vis;refine wpAny_AugAssign_Name ?_
 have go:wpAny (model X.prog X.w) X.A (eval e X.env) (fun w s₂=>wpAny (model X.prog X.w) X.A (inplaceOp op u w) (fun r s₃=>wpAny (model X.prog X.w) X.A (storeName X.env x r) (fun _=>SP X pins D .next) X.xe s₃) X.xe s₂) X.xe s:=by
  refine fM (he pins s U H _ I h) fun w s1 qq0=>?_
  obtain ⟨y,H1,I1,r1,q1⟩:=qq0;refine fM (ho pins s1 U H1 v y u w _ I1 r r1 q1) fun z s2 qq0=>?_
  obtain ⟨zv,H2,I2,r2,q2⟩:=qq0;exact wU I2 hN hi hx r2 (fun s3 I3=>⟨_,H2,I3,q2⟩) hf
 rcases l with ⟨hk,hm⟩ | ⟨hk,c,hc,hcell⟩
 ·exact wpAny_loadName_local I.ok.kind hk hn hm go
 ·rcases hk with hk | hk
  ·exact wpAny_loadName_cell I.ok.kind hk hc hcell go
  ·rcases hx with k | k
   ·have:X.env.scope.names.lookup x=some .free:=hk
    rw [k] at this;cases this
   ·have:X.env.scope.names.lookup x=some .free:=hk
    rw [k] at this;cases this
def Dk (c:TT) (tb:TS):TS:=fun D U H=>∃ W:Nat->St->Hp->Prop,(∃ m,W m U H)/\∀ m U H,W m U H->
 c U H fun b H1=>if b=true then ∃ N:St->Hp->Prop,(∀ U' H',N U' H'->∃ m',m' < m/\W m' U' H')/\tb {D with nx:=N,ct:=N,bk:=D.nx} U H1 else D.nx U H1
theorem JV {c:Expr} {body:List Stmt} {tc:TT} {tb:TS} (hp:PassesOwn (model X.prog X.w) X.A X.env X.xe) (hc:PT X c tc) (hb:PSs X body tb):PS X (.While c body [] pos) (Dk tc tb):=by
 intro pins s U H D I h;obtain ⟨W,⟨m0,w0⟩,turn⟩:=h;refine wpAny_While (codeAny_whileLoop (fun n s'=>∃ U' H',Inv X pins U' H' s'/\W n U' H') ?_ m0 ⟨U,H,I,w0⟩);rintro n s1 ⟨σ1,H1,I1,w1⟩;refine Abl hp (fM (hc pins s1 σ1 H1 _ I1 (turn n σ1 H1 w1)) fun b s2 qq0=>?_);obtain ⟨H2,I2,q2⟩:=qq0;cases b with
 | true=>
  obtain ⟨N,hN,q2⟩:=q2;rw [if_pos rfl];refine Abl hp (fM (hb pins s2 σ1 H2 _ I2 q2) fun f s3 q3=>?_);cases f with
  | next=>
   obtain ⟨σ3,H3,I3,n3⟩:=q3;obtain ⟨m',hm,w3⟩:=hN σ3 H3 n3;exact ⟨m',hm,σ3,H3,I3,w3⟩
  | cont=>
   obtain ⟨σ3,H3,I3,n3⟩:=q3;obtain ⟨m',hm,w3⟩:=hN σ3 H3 n3;exact ⟨m',hm,σ3,H3,I3,w3⟩
  | brk=>exact q3
  | ret v=>exact q3
 | false=>
  rw [if_neg ZV];exact wpAny_execs_nil ⟨σ1,H2,I2,q2⟩
end
structure It where
 go:Nat->Hp->Prop
 yld:Nat->Hp->V->Hp->Prop
 stop:Nat->Hp->Prop
def pU (X:Cx) (pins:List (Addr×Obj)) (H:Hp) (b:Addr):Prop:=
 H b=none/\b≠X.env.locals/\b ∉ X.fs/\(b∈X.ex\/X.s₀.heap.objs.size<=b)/\(∀ x c,X.env.cells.lookup x=some c->c≠b)/\∀ p∈X.pn ++ pins,p.1≠b
theorem Inv.fpOk {X:Cx} {pins:List (Addr×Obj)} {U:St} {H H':Hp} {s:Shared} {b:Addr} (I:Inv X pins U H s) (hb:s.heap.objs.size<=b) (hn:H' b=none):pU X pins H' b:=by
 refine ⟨hn,AaY (Z1 I.lt hb),I.nofs hb,.inr (ZG I.sz hb),fun x c e z=>?_,fun p hp z=>?_⟩
 ·obtain ⟨v,q⟩:=I.cell x c e
  exact absurd (Z1 q.lt (by rw [z];exact hb)) (AaM _)
 ·exact absurd (Z1 (ZL (I.pin p hp).1) (by rw [z];exact hb)) (AaM _)
structure Turn (P:Program) (w:World) (K:W.Frag) (tg:Expr) (J:It) (fp:List Addr) (it:Addr) (tn:Nat->Heap->Prop):Prop where
 mem:it∈fp
 obj:∀ i h,tn i h->∀ b∈fp,∃ o,h.get? b=some o/\∀ v,o.data≠.cell v
 keep:∀ i h h',tn i h->(∀ b∈fp,∀ o,h.get? b=some o->h'.get? b=some o)->tn i h'
 item:∀ (X:Cx),X.prog=P->X.w=w->X.K=K->X.calm=true->∀ (i:Nat) (pins:List (Addr×Obj)) (s:Shared) (U:St) (H:Hp) (E:Value->Shared->Prop),Inv X pins U H s->(∀ b∈fp,pU X pins H b)->tn i s.heap->J.go i H->
  wpAny (model P w) X.A (pyNext (.ref it)) (fun r s1=>∃ u,r=some u/\
   wpAny (model P w) X.A (letOwnedTupleGo tg (.ref it) u) (fun _ s2=>∃ x H',Inv X pins U H' s2/\RelV x u/\J.yld i H x H'/\tn (i+1) s2.heap/\∀ b∈fp,H' b=none) E s1) E s
 done:∀ (X:Cx),X.prog=P->X.w=w->X.K=K->X.calm=true->∀ (i:Nat) (pins:List (Addr×Obj)) (s:Shared) (U:St) (H:Hp) (E:Value->Shared->Prop),Inv X pins U H s->(∀ b∈fp,pU X pins H b)->tn i s.heap->J.stop i H->
  wpAny (model P w) X.A (pyNext (.ref it)) (fun r s1=>r=none/\Inv X pins U H s1) E s
 self:∀ (A:Around) (i:Nat) (s:Shared) (Q:Value->Shared->Prop) (E:Value->Shared->Prop),tn i s.heap->Q (.ref it) s->wpAny (model P w) A (pyIter (.ref it)) Q E s
abbrev TI:=St->Hp->(It->Hp->Prop)->Prop
def PIE (X:Cx) (pins:List (Addr×Obj)) (U:St) (tg:Expr) (R:It->Hp->Prop) (itv:Value) (s2:Shared):Prop:=
 ∃ (it:Addr) (fp:List Addr) (tn:Nat->Heap->Prop) (J:It) (H':Hp),itv= .ref it/\Inv X pins U H' s2/\Turn X.prog X.w X.K tg J fp it tn/\tn 0 s2.heap/\(∀ b∈fp,pU X pins H' b)/\R J H'
def PI (X:Cx) (tg iter:Expr) (wi:TI):Prop:=
 ∀ (pins:List (Addr×Obj)) (s:Shared) (U:St) (H:Hp) (R:It->Hp->Prop),Inv X pins U H s->wi U H R->
  wpAny (model X.prog X.w) X.A (eval iter X.env) (fun v s1=>wpAny (model X.prog X.w) X.A (pyIter v) (PIE X pins U tg R) X.xe s1) X.xe s
theorem FJ {M:Model} {A:Around} {E:Value->Shared->Prop} {s:Shared} {tg:Expr} {it:Addr} {u:Value} {o:Obj} {n:String} {vs:Array Value} {Q:Unit->Shared->Prop} (ho:s.heap.get? it=some o) (hc:o.cls= .type n) (hd:o.data= .fields vs)
  (hn:["enumerate","zip","dict_itemiterator","dict_reverseitemiterator","odict_iterator","itertools.zip_longest","itertools.pairwise"].contains n=false) (hQ:Q () s):wpAny M A (letOwnedTupleGo tg (.ref it) u) Q E s:=by
 unfold letOwnedTupleGo
 cases tg <;> first
  | exact Zy hQ
  | (cases u <;> first
    | exact Zy hQ
    | (refine Zu (wpAny_load ho ?_)
       rw [hc,hd];show wpAny M A (if (["enumerate","zip","dict_itemiterator","dict_reverseitemiterator","odict_iterator","itertools.zip_longest","itertools.pairwise"].contains n && vs[0]? == some (rawInt _))=true then _ else _) Q E s;rw [if_neg (by intro h;rw [hn,Bool.false_and] at h;cases h)];exact Zy hQ))
def R6 (K:W.Frag) (a:Addr):It:=
 ⟨fun i H=>∃ xs x,SqL K H a xs/\xs[i]?=some x,fun i H x H'=>H'=H/\∀ xs,SqL K H a xs->xs[i]?=some x,fun i H=>∃ xs,SqL K H a xs/\xs.length<=i⟩
def R7 (K:W.Frag) (a:Addr):It:=
 ⟨fun i H=>∃ xs x,SqT K H a xs/\xs[i]?=some x,fun i H x H'=>H'=H/\∀ xs,SqT K H a xs->xs[i]?=some x,fun i H=>∃ xs,SqT K H a xs/\xs.length<=i⟩
def Jw (lo:Int) (n:Nat):It:=⟨fun i _=>i < n,fun i H x H'=>H'=H/\x= .int (lo+i),fun i _=>n<=i⟩
theorem Hi {P:Program} {w:World} {K:W.Frag} {tg:Expr} (a it:Addr):Turn P w K tg (R6 K a) [it] it (fun i h=>h.IsListIter it a i) where
 mem:=by simp
 obj:=fun i h st b hb=>by
  have e:b=it:=by simpa using hb
  subst e;obtain ⟨o,e,c,d⟩:=st;exact ⟨o,e,fun v z=>by rw [d] at z;cases z⟩
 keep:=fun i h h' st k=>st.at fun o e=>k it (by simp) o e
 item:=by
  intro X hP hw hK hc i pins s U H E I hf st hg;subst hP hw hK;obtain ⟨xs,x,hq,hx⟩:=hg;obtain ⟨its,rv,p,hz⟩:=I.list hq;obtain ⟨u,hu,ru⟩:=rv.get hx;obtain ⟨f0,f1,f2,f3,f4,f5⟩:=hf it (by simp);refine wpAny_pyNext_list_item st p.isList (x:=u) (by simpa using hu) fun h' st' sb=>?_
  have I1:Inv X pins U H {s with heap:=h'}:=I.turned (t':=s.toks) (fun b o hb e=>(sb.2 b hb).trans e) f0 f1 f3 f4 f5;obtain ⟨o,e,c,d⟩:=id st';exact ⟨u,rfl,FJ (s:={s with heap:=h'}) e c d (by decide) ⟨x,H,I1,ru,⟨rfl,fun ys hy=>by rw [I.list_inj hy hq];exact hx⟩,st',fun b hb=>(hf b hb).1⟩⟩
 done:=by
  intro X hP hw hK hc i pins s U H E I hf st hg;subst hP hw hK;obtain ⟨xs,hq,hx⟩:=hg;obtain ⟨its,rv,p,hz⟩:=I.list hq;obtain ⟨f0,f1,f2,f3,f4,f5⟩:=hf it (by simp);have hl:=rv.length;exact wpAny_pyNext_list_end (I.ok.hd hc) st p.isList (by simp;omega) fun h' eb=>⟨rfl,I.turned (t':=s.toks) (fun b o hb e=>eb b o hb e) f0 f1 f3 f4 f5⟩
 self:=fun _ _ _ _ _ st h=>wpAny_pyIter_listiter st h
theorem Dl {P:Program} {w:World} {K:W.Frag} {tg:Expr} (a it:Addr):Turn P w K tg (R7 K a) [it] it (fun i h=>h.IsTupleIter it a i) where
 mem:=by simp
 obj:=fun i h st b hb=>by
  have e:b=it:=by simpa using hb
  subst e;obtain ⟨o,e,c,d⟩:=st;exact ⟨o,e,fun v z=>by rw [d] at z;cases z⟩
 keep:=fun i h h' st k=>st.at fun o e=>k it (by simp) o e
 item:=by
  intro X hP hw hK hc i pins s U H E I hf st hg;subst hP hw hK;obtain ⟨xs,x,hq,hx⟩:=hg;obtain ⟨its,rv,p,hz⟩:=I.tuple hq;obtain ⟨u,hu,ru⟩:=rv.get hx;obtain ⟨f0,f1,f2,f3,f4,f5⟩:=hf it (by simp);refine wpAny_pyNext_tuple_item st (show s.heap.IsTuple a its.toArray from p) (x:=u) (by simpa using hu) fun h' st' sb=>?_
  have I1:Inv X pins U H {s with heap:=h'}:=I.turned (t':=s.toks) (fun b o hb e=>(sb.2 b hb).trans e) f0 f1 f3 f4 f5;obtain ⟨o,e,c,d⟩:=id st';exact ⟨u,rfl,FJ (s:={s with heap:=h'}) e c d (by decide) ⟨x,H,I1,ru,⟨rfl,fun ys hy=>by rw [I.tuple_inj hy hq];exact hx⟩,st',fun b hb=>(hf b hb).1⟩⟩
 done:=by
  intro X hP hw hK hc i pins s U H E I hf st hg;subst hP hw hK;obtain ⟨xs,hq,hx⟩:=hg;obtain ⟨its,rv,p,hz⟩:=I.tuple hq;obtain ⟨f0,f1,f2,f3,f4,f5⟩:=hf it (by simp);have hl:=rv.length;exact wpAny_pyNext_tuple_end (I.ok.hd hc) st (show s.heap.IsTuple a its.toArray from p) (by simp;omega) fun h' eb=>⟨rfl,I.turned (t':=s.toks) (fun b o hb e=>eb b o hb e) f0 f1 f3 f4 f5⟩
 self:=fun _ _ _ _ _ st h=>wpAny_pyIter_tupleiter st h
theorem Dm {P:Program} {w:World} {K:W.Frag} {tg:Expr} (it:Addr) (lo:Int) (n:Nat):Turn P w K tg (Jw lo n) [it] it (fun i h=>IsRangeIter h it (lo+(i:Nat)*1) ((n:Int) - (i:Nat)) 1) where
 mem:=by simp
 obj:=fun i h st b hb=>by
  have e:b=it:=by simpa using hb
  subst e
  exact ⟨_,st,fun v z=>by
   have z':Data.fields _=Data.cell v:=z;cases z'⟩
 keep:=fun i h h' st k=>k it (by simp) _ st
 item:=by
  intro X hP hw hK hc i pins s U H E I hf st hg;subst hP hw hK;obtain ⟨f0,f1,f2,f3,f4,f5⟩:=hf it (by simp);have W:=Walks.range (prog:=X.prog) (w:=X.w) (I.ok.hd hc) it lo 1 n;refine W.item i s _ _ hg st fun v h' tk hv st' kk=>?_
  obtain ⟨t,rfl⟩:=hv;have I1:Inv X pins U H {s with heap:=h',toks:=tk}:=I.turned (fun b o hb e=>kk b o (by simpa using hb) e) f0 f1 f3 f4 f5;refine ⟨_,rfl,FJ (s:={s with heap:=h',toks:=tk}) (n:="range_iterator") st' rfl rfl (by decide) ⟨.int (lo+i),H,I1,⟨t,?_⟩,⟨rfl,rfl⟩,st',fun b hb=>(hf b hb).1⟩⟩;rw [Int.mul_one]
 done:=by
  intro X hP hw hK hc i pins s U H E I hf st hg;subst hP hw hK;obtain ⟨f0,f1,f2,f3,f4,f5⟩:=hf it (by simp);exact wpAny_pyNext_range_end (I.ok.hd hc) st (by have:n<=i:=hg;omega) fun h' eb=>⟨rfl,I.turned (t':=s.toks) (fun b o hb e=>eb b o hb e) f0 f1 f3 f4 f5⟩
 self:=fun _ _ _ _ _ st h=>wpAny_pyIter_rangeiter st h
section
variable {X:Cx} {tg:Expr}
theorem Bl {pins:List (Addr×Obj)} {U:St} {H:Hp} {s:Shared} {R:It->Hp->Prop} {E:Value->Shared->Prop} {lo hi:Int} {t u v:Tok} {tk:Nat} (I:Inv X pins U H s) (h1: -(2 ^ 62)<=lo) (h2:lo < 2 ^ 62) (h3: -(2 ^ 62)<=hi) (h4:hi < 2 ^ 62)
  (q:R (Jw lo (hi - lo).toNat) H):wpAny (model X.prog X.w) X.A (pyIter (.ref s.heap.objs.size)) (PIE X pins U tg R) E {s with heap:=s.heap.push {cls:=.type "range",data:=.fields #[.int lo t,.int hi u,.int 1 v]},toks:=tk}:=by
 refine wpAny_pyIter_range (IsRange.new ..) (small_one h1 h2 h3 h4) ?_;have I1:Inv X pins U H {s with heap:=s.heap.push {cls:=.type "range",data:=.fields #[.int lo t,.int hi u,.int 1 v]},toks:=tk}:=I.kept fun b o e=>Zz _ e
 refine ⟨(s.heap.push {cls:=.type "range",data:=.fields #[.int lo t,.int hi u,.int 1 v]}).objs.size,[(s.heap.push {cls:=.type "range",data:=.fields #[.int lo t,.int hi u,.int 1 v]}).objs.size],_,_,H,rfl,
  I1.kept (t':=tk) fun b o e=>Zz _ e,Dm _ lo (hi - lo).toNat,?_,fun b hb=>?_,q⟩
 ·have e1:lo+((0:Nat):Int)*1=lo:=by simp
  have e2:(((hi - lo).toNat:Nat):Int) - ((0:Nat):Int)=Builtin.Range.rangeSize lo hi 1:=by rw [rangeSize_one];split <;> omega
  show IsRangeIter _ _ (lo+((0:Nat):Int)*1) ((((hi - lo).toNat:Nat):Int) - ((0:Nat):Int)) 1;rw [e1,e2];exact ZP _ rfl
 ·have e:b=(s.heap.push {cls:=.type "range",data:=.fields #[.int lo t,.int hi u,.int 1 v]}).objs.size:=by simpa using hb
  subst e;exact I1.fpOk (ZC _) (I1.hok.fresh (ZC _))
def JX (ta:TA):TI:=fun U H R=>ta U H fun vs H1=>∃ j:Int,vs=[.int j]/\-(2 ^ 62)<=j/\j < 2 ^ 62/\R (Jw 0 j.toNat) H1
def JZ (ta:TA):TI:=fun U H R=>ta U H fun vs H1=>∃ i j:Int,vs=[.int i,.int j]/\(-(2 ^ 62)<=i/\i < 2 ^ 62/\-(2 ^ 62)<=j/\j < 2 ^ 62)/\R (Jw i (j - i).toNat) H1
theorem Hj {a:Expr} {ta:TA} {p pos:Pos} (hg:Gl X "range") (hm:X.mg "range"=none) (ha:PA X [a] ta) (hs:autoParam (starEach [a] X.env=[(false,eval a X.env)]) L2.auto4._auto_1):PI X tg (.Call (.Name "range" p) [a] [] pos) (JX ta):=by
 intro pins s U H R I h;refine Call_ (iI I hg hm boot_range (Z9 (fM (ha pos pins s U H _ I h) fun us s1 ⟨vs,H1,I1,r1,q1⟩=>?_) hs rfl));obtain ⟨j,e,q1,q2,q⟩:=q1;subst e;cases r1 with
 | cons r rr=>
  cases rr;obtain ⟨t,rfl⟩:=r;exact call_range_1 (Bl I1 (by omega) (by omega) q1 q2 (by simpa using q))
theorem Hk {a b:Expr} {ta:TA} {p pos:Pos} (hg:Gl X "range") (hm:X.mg "range"=none) (ha:PA X [a,b] ta) (hs:autoParam (starEach [a,b] X.env=[(false,eval a X.env),(false,eval b X.env)]) L2.auto4._auto_1) (hs2:autoParam (starEach [b] X.env=[(false,eval b X.env)]) L2.auto4._auto_1):
  PI X tg (.Call (.Name "range" p) [a,b] [] pos) (JZ ta):=by
 intro pins s U H R I h;refine Call_ (iI I hg hm boot_range (Z9 (fM (ha pos pins s U H _ I h) fun us s1 qq0=>?_) (by rw [hs,hs2]) (by rw [hs2];rfl)));obtain ⟨vs,H1,I1,r1,q1⟩:=qq0;obtain ⟨i,j,e,⟨q1,q2,q3,q4⟩,q⟩:=q1;subst e;cases r1 with
 | cons r rr=>
  cases rr with
  | cons r' rr=>
   cases rr;obtain ⟨t,rfl⟩:=r;obtain ⟨t',rfl⟩:=r';exact call_range_2 (Bl I1 q1 q2 q3 q4 q)
def Pq (wi:TI) (g:TG) (tb:TS):TS:=fun D U H=>wi U H fun J H1=>∃ W:Nat->Nat->St->Hp->Prop,(∃ m,W 0 m U H1)/\∀ i m U H,W i m U H->
 (J.stop i H/\D.nx U H)\/(J.go i H/\∃ N:St->Hp->Prop,(∀ U' H',N U' H'->∃ m',m' < m/\W (i+1) m' U' H')/\∀ x H',J.yld i H x H'->g x U H' fun σ2 H2=>tb {D with nx:=N,ct:=N,bk:=D.nx} σ2 H2)
def wV (fp:List Addr) (h:Heap):List (Addr×Obj):=fp.filterMap fun b=>(h.get? b).map fun o=>(b,o)
theorem rP {fp:List Addr} {h:Heap} {b:Addr} {o:Obj} (hb:b∈fp) (e:h.get? b=some o):(b,o)∈wV fp h:=List.mem_filterMap.mpr ⟨b,hb,by rw [e];rfl⟩
theorem Hl {fp:List Addr} {h:Heap} {p:Addr×Obj} (hp:p∈wV fp h):p.1∈fp/\h.get? p.1=some p.2:=by
 obtain ⟨b,hb,e⟩:=List.mem_filterMap.mp hp;cases q:h.get? b with
 | none=>rw [q] at e;cases e
 | some o=>
  rw [q] at e;have e':(b,o)=p:=Z2 e;subst e';exact ⟨hb,q⟩
theorem Inv.pinned {pins:List (Addr×Obj)} {U:St} {H:Hp} {s:Shared} {fp:List Addr} (I:Inv X pins U H s) (hf:∀ b∈fp,pU X pins H b) (ho:∀ b∈fp,∃ o,s.heap.get? b=some o/\∀ v,o.data≠.cell v):Inv X (pins ++ wV fp s.heap) U H s:=
 I.pins_of fun p hp=>(Aaw.mp hp).elim (fun z=>I.pin p (Aau _ z)) fun z=>by
  obtain ⟨hb,e⟩:=Hl z;obtain ⟨f0,f1,f2,_⟩:=hf p.1 hb;obtain ⟨o,e',d⟩:=ho p.1 hb;rw [e] at e';cases e';exact ⟨e,f0,f1,f2,d⟩
theorem Inv.unpinned {pins pl:List (Addr×Obj)} {U:St} {H:Hp} {s:Shared} (I:Inv X (pins ++ pl) U H s):Inv X pins U H s:=I.pins_of fun p hp=>I.pin p (Aau _ (AbM _ hp))
theorem Us {iter:Expr} {body:List Stmt} {wi:TI} {g:TG} {tb:TS} {pos:Pos} (hp:PassesOwn (model X.prog X.w) X.A X.env X.xe) (hc:X.calm=true) (hi:PI X tg iter wi) (hg:PG X tg g) (hb:PSs X body tb)
  (hs:autoParam (∀ x,foldedSetIterable iter X.env x=pure x) L2.auto3._auto_1):PS X (.For tg iter body [] pos) (Pq wi g tb):=by
 intro pins s U H D I h;refine wpAny_For (fM (hi pins s U H _ I h) fun v s1 h1=>fM h1 fun itv s2 h2=>?_) hs;obtain ⟨it,fp,tn,J,H2,e,I2,T,st2,f2,W,⟨m0,w0⟩,turn⟩:=h2;subst e;have stat:∀ {H':Hp},(∀ b∈fp,H' b=none)->∀ b∈fp,pU X pins H' b:=fun hn b hb=>⟨hn b hb,(f2 b hb).2⟩
 refine codeAny_forLoop_any (fun n s'=>∃ i U' H',Inv X pins U' H' s'/\tn i s'.heap/\(∀ b∈fp,H' b=none)/\W i n U' H') ?_ m0 ⟨0,U,H2,I2,st2,fun b hb=>(f2 b hb).1,w0⟩;rintro n s3 ⟨i,σ3,H3,I3,st3,fr3,w3⟩;rcases turn i n σ3 H3 w3 with ⟨stop,qn⟩ | ⟨go,N,hN,step⟩
 ·refine Abl hp (fM (T.done X rfl rfl rfl hc i pins s3 σ3 H3 X.xe I3 (stat fr3) st3 stop) fun r s4 qq0=>?_)
  obtain ⟨hr,I4⟩:=qq0;subst hr;exact wpAny_execs_nil ⟨σ3,H3,I4,qn⟩
 ·refine Abl hp (fM (T.item X rfl rfl rfl hc i pins s3 σ3 H3 X.xe I3 (stat fr3) st3 go) fun r s4 qq0=>?_)
  obtain ⟨u,hr,h4⟩:=qq0;subst hr;refine Abl hp (fM h4 fun _ s5 qq0=>?_);obtain ⟨x,H5,I5,r5,y5,st5,fr5⟩:=qq0;have I5':=I5.pinned (stat fr5) (T.obj _ _ st5);refine Abl hp (fM (hg _ s5 σ3 H5 x u _ I5' r5 (step x H5 y5)) fun _ s6 qq0=>?_);obtain ⟨σ6,H6,I6,q6⟩:=qq0;refine Abl hp (fM (hb _ s6 σ6 H6 _ I6 q6) fun f s7 q7=>?_)
  have again:∀ {σ7:St} {H7:Hp},Inv X (pins ++ wV fp s5.heap) σ7 H7 s7->N σ7 H7->∃ m,m < n/\∃ i U' H',Inv X pins U' H' s7/\tn i s7.heap/\(∀ b∈fp,H' b=none)/\W i m U' H':=fun {σ7 H7} I7 n7=>by
   obtain ⟨m',hm,w7⟩:=hN σ7 H7 n7;refine ⟨m',hm,i+1,σ7,H7,I7.unpinned,T.keep _ _ _ st5 fun b hb o e=>(I7.pin (b,o) (Aau _ (Aau _ (rP hb e)))).1,fun b hb=>?_,w7⟩;obtain ⟨o,e,d⟩:=T.obj _ _ st5 b hb;exact (I7.pin (b,o) (Aau _ (Aau _ (rP hb e)))).2.1
  cases f with
  | next=>obtain ⟨σ7,H7,I7,n7⟩:=q7;exact again I7 n7
  | cont=>obtain ⟨σ7,H7,I7,n7⟩:=q7;exact again I7 n7
  | brk=>obtain ⟨σ7,H7,I7,q7⟩:=q7;exact ⟨σ7,H7,I7.unpinned,q7⟩
  | ret v=>obtain ⟨x7,σ7,H7,I7,r7,q7⟩:=q7;exact ⟨x7,σ7,H7,I7.unpinned,r7,q7⟩
end
theorem wW {K:W.Frag} {a:Addr} {xs:List V} {g:TG} {tb:TS} {D:Ends} {U:St} {H:Hp} (Pv:Nat->St->Hp->Prop) (h0:Pv 0 U H) (hl:∀ i U H,i<=xs.length->Pv i U H->SqL K H a xs)
  (hs:∀ i x U H,xs[i]?=some x->Pv i U H->g x U H fun σ2 H2=>tb {D with nx:=Pv (i+1),ct:=Pv (i+1),bk:=D.nx} σ2 H2) (hd:∀ U H,Pv xs.length U H->D.nx U H):
  ∃ W:Nat->Nat->St->Hp->Prop,(∃ m,W 0 m U H)/\∀ i m U H,W i m U H->
   ((R6 K a).stop i H/\D.nx U H)\/((R6 K a).go i H/\∃ N:St->Hp->Prop,(∀ U' H',N U' H'->∃ m',m' < m/\W (i+1) m' U' H')/\∀ x H',(R6 K a).yld i H x H'->g x U H' fun σ2 H2=>tb {D with nx:=N,ct:=N,bk:=D.nx} σ2 H2):=by
 refine ⟨fun i m U H=>m=xs.length - i/\i<=xs.length/\Pv i U H,⟨xs.length,by simp,AaE _,h0⟩,?_⟩;rintro i m U H ⟨rfl,hi,p⟩;have q:=hl i U H hi p;by_cases hlt:i < xs.length
 ·refine .inr ⟨⟨xs,xs[i],q,by simp [hlt]⟩,Pv (i+1),fun U' H' p'=>⟨xs.length - (i+1),by omega,rfl,hlt,p'⟩,fun x H' y=>?_⟩
  obtain ⟨e,y⟩:=y;subst e;exact hs i x U _ (y xs q) p
 ·have e:i=xs.length:=by omega
  subst e;exact .inl ⟨⟨xs,q,ZC _⟩,hd U H p⟩
theorem Px {K:W.Frag} {a:Addr} {xs:List V} {g:TG} {tb:TS} {D:Ends} {U:St} {H:Hp} (Pv:Nat->St->Hp->Prop) (h0:Pv 0 U H) (hl:∀ i U H,i<=xs.length->Pv i U H->SqT K H a xs)
  (hs:∀ i x U H,xs[i]?=some x->Pv i U H->g x U H fun σ2 H2=>tb {D with nx:=Pv (i+1),ct:=Pv (i+1),bk:=D.nx} σ2 H2) (hd:∀ U H,Pv xs.length U H->D.nx U H):
  ∃ W:Nat->Nat->St->Hp->Prop,(∃ m,W 0 m U H)/\∀ i m U H,W i m U H->
   ((R7 K a).stop i H/\D.nx U H)\/((R7 K a).go i H/\∃ N:St->Hp->Prop,(∀ U' H',N U' H'->∃ m',m' < m/\W (i+1) m' U' H')/\∀ x H',(R7 K a).yld i H x H'->g x U H' fun σ2 H2=>tb {D with nx:=N,ct:=N,bk:=D.nx} σ2 H2):=by
 refine ⟨fun i m U H=>m=xs.length - i/\i<=xs.length/\Pv i U H,⟨xs.length,by simp,AaE _,h0⟩,?_⟩;rintro i m U H ⟨rfl,hi,p⟩;have q:=hl i U H hi p;by_cases hlt:i < xs.length
 ·refine .inr ⟨⟨xs,xs[i],q,by simp [hlt]⟩,Pv (i+1),fun U' H' p'=>⟨xs.length - (i+1),by omega,rfl,hlt,p'⟩,fun x H' y=>?_⟩
  obtain ⟨e,y⟩:=y;subst e;exact hs i x U _ (y xs q) p
 ·have e:i=xs.length:=by omega
  subst e;exact .inl ⟨⟨xs,q,ZC _⟩,hd U H p⟩
theorem nZ {lo:Int} {n:Nat} {g:TG} {tb:TS} {D:Ends} {U:St} {H:Hp} (Pv:Nat->St->Hp->Prop) (h0:Pv 0 U H)
  (hs:∀ i U H,i < n->Pv i U H->g (.int (lo+i)) U H fun σ2 H2=>tb {D with nx:=Pv (i+1),ct:=Pv (i+1),bk:=D.nx} σ2 H2) (hd:∀ U H,Pv n U H->D.nx U H):
  ∃ W:Nat->Nat->St->Hp->Prop,(∃ m,W 0 m U H)/\∀ i m U H,W i m U H->
   ((Jw lo n).stop i H/\D.nx U H)\/((Jw lo n).go i H/\∃ N:St->Hp->Prop,(∀ U' H',N U' H'->∃ m',m' < m/\W (i+1) m' U' H')/\∀ x H',(Jw lo n).yld i H x H'->g x U H' fun σ2 H2=>tb {D with nx:=N,ct:=N,bk:=D.nx} σ2 H2):=by
 refine ⟨fun i m U H=>m=n - i/\i<=n/\Pv i U H,⟨n,by simp,AaE _,h0⟩,?_⟩;rintro i m U H ⟨rfl,hi,p⟩;by_cases hlt:i < n
 ·refine .inr ⟨hlt,Pv (i+1),fun U' H' p'=>⟨n - (i+1),by omega,rfl,hlt,p'⟩,fun x H' y=>?_⟩
  obtain ⟨e,y⟩:=y;subst e y;exact hs i U _ hlt p
 ·have e:i=n:=by omega
  subst e;exact .inl ⟨ZC _,hd U H p⟩
theorem J3 {c:TT} {tb:TS} {D:Ends} {U:St} {H:Hp} (Pv:St->Hp->Prop) (μ:St->Hp->Nat) (h0:Pv U H)
  (hs:∀ U H,Pv U H->c U H fun b H1=>if b=true then tb {D with nx:=fun U' H'=>Pv U' H'/\μ U' H' < μ U H,ct:=fun U' H'=>Pv U' H'/\μ U' H' < μ U H,bk:=D.nx} U H1 else D.nx U H1)
  (mono:∀ U H Q Q',(∀ b H1,Q b H1->Q' b H1)->c U H Q->c U H Q'):Dk c tb D U H:=by
 refine ⟨fun m U H=>m=μ U H/\Pv U H,⟨_,rfl,h0⟩,?_⟩;rintro m U H ⟨rfl,p⟩;refine mono U H _ _ (fun b H1 q=>?_) (hs U H p);cases b with
 | true=>exact ⟨_,fun U' H' ⟨p',l⟩=>⟨_,l,rfl,p'⟩,q⟩
 | false=>exact q
abbrev R2:=V->V->Hp->VK->Prop
def OpR (X:Cx) (f:Value->Value->Sem Value) (r:R2):Prop:=
 ∀ (pins:List (Addr×Obj)) (s:Shared) (U:St) (H:Hp) (x y:V) (v u:Value) (Q:VK),Inv X pins U H s->RelV x v->RelV y u->r x y H Q->
  wpAny (model X.prog X.w) X.A (f v u) (EP X pins U Q) X.xe s
def CallR (X:Cx) (f:Value) (r:List V->Hp->VK->Prop):Prop:=
 ∀ (pins:List (Addr×Obj)) (s:Shared) (U:St) (H:Hp) (xs:List V) (us:List Value) (Q:VK),Inv X pins U H s->Vals xs us->r xs H Q->
  wpAny (model X.prog X.w) X.A (call f us) (EP X pins U Q) X.xe s
def TruR (X:Cx) (r:V->Hp->(Bool->Hp->Prop)->Prop):Prop:=
 ∀ (pins:List (Addr×Obj)) (s:Shared) (U:St) (H:Hp) (x:V) (v:Value) (Q:Bool->Hp->Prop),Inv X pins U H s->RelV x v->r x H Q->
  wpAny (model X.prog X.w) X.A (truthy v) (TP X pins U Q) X.xe s
def J5 (r:R2) (ta tb:TE):TE:=fun U H Q=>ta U H fun x H1=>tb U H1 fun y H2=>r x y H2 Q
def rI (C:Int->Int->Prop) (g:Int->Int->V):R2:=fun x y H Q=>∃ i j,x= .int i/\y= .int j/\C i j/\Q (g i j) H
def J6 (g:Int->Int->V):R2:=fun x y H Q=>∃ i j,x= .int i/\y= .int j/\Q (g i j) H
section
variable {X:Cx} {a b c:Expr} {ta tb tc:TE} {pos:Pos}
theorem Ut (ha:PE X a ta) (hb:PE X b tb) {pins:List (Addr×Obj)} {s:Shared} {U:St} {H:Hp} {R:V->V->Hp->Prop} (I:Inv X pins U H s)
  (h:ta U H fun x H1=>tb U H1 fun y H2=>R x y H2) {Q:Value->Shared->Prop} {f:Value->Value->Sem Value}
  (hf:∀ v u s2 x y H2,Inv X pins U H2 s2->RelV x v->RelV y u->R x y H2->wpAny (model X.prog X.w) X.A (f v u) Q X.xe s2):
  wpAny (model X.prog X.w) X.A (eval a X.env) (fun v s₁=>wpAny (model X.prog X.w) X.A (eval b X.env) (fun u s₂=>wpAny (model X.prog X.w) X.A (f v u) Q X.xe s₂) X.xe s₁) X.xe s:=by
 refine fM (ha pins s U H _ I h) fun v s1 qq0=>?_
 obtain ⟨x,H1,I1,r1,q1⟩:=qq0;refine fM (hb pins s1 U H1 _ I1 q1) fun u s2 qq0=>?_
 obtain ⟨y,H2,I2,r2,q2⟩:=qq0;exact hf v u s2 x y H2 I2 r1 r2 q2
theorem Xm {op:Operator} {r:R2} (ho:OpR X (binaryOp op) r) (ha:PE X a ta) (hb:PE X b tb):PE X (.BinOp a op b pos) (J5 r ta tb):=by
 intro pins s U H Q I h;exact wpAny_BinOp (Ut ha hb I h fun v u s2 x y H2 I2 rx ry q=>ho pins s2 U H2 x y v u Q I2 rx ry q)
theorem Xn {f:Value->Value->Sem Value} {C:Int->Int->Prop} {g:Int->Int->Int}
  (rule:∀ (i j:Int) (t u:Tok) (s:Shared) (Q:Value->Shared->Prop) (E:Value->Shared->Prop),C i j->Q (.int (g i j) s.toks) {s with toks:=s.toks+1}->wpAny (model X.prog X.w) X.A (f (.int i t) (.int j u)) Q E s):
  OpR X f (rI C fun i j=>.int (g i j)):=by
 intro pins s U H x y v u Q I rx ry h;obtain ⟨i,j,rfl,rfl,hc,q⟩:=h;obtain ⟨t,rfl⟩:=rx;obtain ⟨t',rfl⟩:=ry;exact rule i j t t' s _ _ hc ⟨.int (g i j),H,I.tok _,⟨_,rfl⟩,q⟩
theorem Uu {f:Value->Value->Sem Value} {g:Int->Int->Int}
  (rule:∀ (i j:Int) (t u:Tok) (s:Shared) (Q:Value->Shared->Prop) (E:Value->Shared->Prop),Q (.int (g i j) s.toks) {s with toks:=s.toks+1}->wpAny (model X.prog X.w) X.A (f (.int i t) (.int j u)) Q E s):
  OpR X f (J6 fun i j=>.int (g i j)):=by
 intro pins s U H x y v u Q I rx ry h;obtain ⟨i,j,rfl,rfl,q⟩:=h;obtain ⟨t,rfl⟩:=rx;obtain ⟨t',rfl⟩:=ry;exact rule i j t t' s _ _ ⟨.int (g i j),H,I.tok _,⟨_,rfl⟩,q⟩
theorem Py {f:Value->Value->Sem Value} {g:Int->Int->Bool}
  (rule:∀ (i j:Int) (t u:Tok) (s:Shared) (Q:Value->Shared->Prop) (E:Value->Shared->Prop),Q (.bool (g i j)) s->wpAny (model X.prog X.w) X.A (f (.int i t) (.int j u)) Q E s):
  OpR X f (J6 fun i j=>.bl (g i j)):=by
 intro pins s U H x y v u Q I rx ry h;obtain ⟨i,j,rfl,rfl,q⟩:=h;obtain ⟨t,rfl⟩:=rx;obtain ⟨t',rfl⟩:=ry;exact rule i j t t' s _ _ ⟨.bl (g i j),H,I,rfl,q⟩
def CDiv (i j:Int):Prop:=0 < j/\j < 1073741824
def CPow (i j:Int):Prop:=0<=j/\j<=1000000/\i.natAbs < 2 ^ 64
def CMul (i j:Int):Prop:=(-(2 ^ 64) < i/\i < 2 ^ 64)\/(-(2 ^ 64) < j/\j < 2 ^ 64)
theorem CMul.ok {i j:Int} (h:CMul i j):IntMulOk i j:=by
 rcases h with ⟨h1,h2⟩ | ⟨h1,h2⟩
 ·exact .of_left (intBits_le_64 h1 h2)
 ·exact .of_right (intBits_le_64 h1 h2)
theorem Uv:OpR X (binaryOp .Add) (J6 fun i j=>.int (i+j)):=Uu fun _ _ _ _ _ _ _ q=>add_int q
theorem ir:OpR X (binaryOp .Sub) (J6 fun i j=>.int (i - j)):=Uu fun _ _ _ _ _ _ _ q=>sub_int q
theorem Uw:OpR X (binaryOp .Mult) (rI CMul fun i j=>.int (i*j)):=Xn fun _ _ _ _ _ _ _ hc q=>mul_int q hc.ok
theorem Pz:OpR X (binaryOp .FloorDiv) (rI CDiv fun i j=>.int (i / j)):=Xn fun i j _ _ _ _ _ hc q=>by
 have h1:(0:Int) < j:=hc.1;have h2:j < 1073741824:=hc.2;exact floordiv_int (by omega) (by rw [Int.fdiv_eq_ediv_of_nonneg i (by omega)];exact q) (.inl (PyProof.noPylong_small (by omega)))
theorem pW:OpR X (binaryOp .Mod) (rI (fun _ j=>0 < j) fun i j=>.int (i % j)):=Xn fun i j _ _ _ _ _ hc q=>by
 have h1:(0:Int) < j:=hc;exact mod_int' (by omega) (by rw [Int.fmod_eq_emod_of_nonneg i (by omega)];exact q)
theorem J7:OpR X (binaryOp .Pow) (rI CPow fun i j=>.int (i ^ j.toNat)):=Xn fun _ _ _ _ _ _ _ hc q=>pow_int_small hc.1 hc.2.1 hc.2.2 q
theorem PJ:OpR X (inplaceOp .Sub) (J6 fun i j=>.int (i - j)):=Uu fun _ _ _ _ _ _ _ q=>isub_int q
end
def Xo:V->V->Bool
 | .non,.non=>true | .non,.int _=>true | .int _,.non=>true | .non,.bl _=>true | .bl _,.non=>true | .non,.str _=>true | .str _,.non=>true
 | .int _,.int _=>true | .bl _,.bl _=>true | .str _,.str _=>true | .byt _,.byt _=>true
 | .int _,.str _=>true | .str _,.int _=>true | .bl _,.str _=>true | .str _,.bl _=>true
 | _,_=>false
def rEq:R2:=fun x y H Q=>Xo x y=true/\Q (.bl (decide (x=y))) H
def rNe:R2:=fun x y H Q=>Xo x y=true/\Q (.bl (!decide (x=y))) H
theorem FN {i j:Int}:decide (V.int i=V.int j)=(i == j):=by
 rw [Bool.eq_iff_iff];simp
theorem J8 {i j:Bool}:decide (V.bl i=V.bl j)=(i == j):=by
 rw [Bool.eq_iff_iff];simp
theorem FP {i j:Str}:decide (V.str i=V.str j)=(i == j):=by
 rw [Bool.eq_iff_iff];simp
theorem FQ {i j:Array UInt8}:decide (V.byt i=V.byt j)=(i.toList == j.toList):=by
 rw [Bool.eq_iff_iff];cases i;cases j;simp
section
variable {X:Cx} {a b c:Expr} {ta tb tc:TE} {pos:Pos}
theorem bO {pins:List (Addr×Obj)} {U:St} {H:Hp} {s:Shared} {Q:VK} {k k':Bool} (I:Inv X pins U H s) (q:Q (.bl k) H) (e:k=k'):EP X pins U Q (.bool k') s:=by
 subst e;exact ⟨.bl k,H,I,rfl,q⟩
theorem Xp:OpR X (compareOp .Eq) rEq:=by
 intro pins s U H x y v u Q I rx ry h;obtain ⟨hs,q⟩:=h;cases x with
 | non=>
  cases rx;cases y with
  | non=>cases ry;exact PySem.EqNone.eq_none_none (bO I q (by simp))
  | bl j=>cases ry;exact PySem.EqNone.eq_none_bool (bO I q (by simp))
  | int j=>obtain ⟨t',rfl⟩:=ry;exact PySem.EqNone.eq_none_int (bO I q (by simp))
  | str j=>obtain ⟨t',rfl⟩:=ry;exact PySem.EqNone.eq_none_str (bO I q (by simp))
  | _=>exact absurd (show false=true from hs) ZV
 | bl i=>
  cases rx;cases y with
  | non=>cases ry;exact PySem.EqNone.eq_bool_none (bO I q (by simp))
  | bl j=>cases ry;exact eq_bool (bO I q J8)
  | str j=>obtain ⟨t',rfl⟩:=ry;exact PySem.EqMixed.eq_bool_str (bO I q (by simp))
  | _=>exact absurd (show false=true from hs) ZV
 | int i=>
  obtain ⟨t,rfl⟩:=rx;cases y with
  | non=>cases ry;exact PySem.EqNone.eq_int_none (bO I q (by simp))
  | int j=>obtain ⟨t',rfl⟩:=ry;exact eq_int (bO I q FN)
  | str j=>obtain ⟨t',rfl⟩:=ry;exact PySem.EqMixed.eq_int_str (bO I q (by simp))
  | _=>exact absurd (show false=true from hs) ZV
 | str i=>
  obtain ⟨t,rfl⟩:=rx;cases y with
  | non=>cases ry;exact PySem.EqNone.eq_str_none (bO I q (by simp))
  | bl j=>cases ry;exact PySem.EqMixed.eq_str_bool (bO I q (by simp))
  | int j=>obtain ⟨t',rfl⟩:=ry;exact PySem.EqMixed.eq_str_int (bO I q (by simp))
  | str j=>obtain ⟨t',rfl⟩:=ry;exact eq_str (bO I q FP)
  | _=>exact absurd (show false=true from hs) ZV
 | byt i=>
  obtain ⟨t,rfl⟩:=rx;cases y with
  | byt j=>obtain ⟨t',rfl⟩:=ry;exact PySem.W.eq_bytes (bO I q FQ)
  | _=>exact absurd (show false=true from hs) ZV
 | _=>cases y <;> exact absurd (show false=true from hs) ZV
theorem Xq:OpR X (compareOp .NotEq) rNe:=by
 intro pins s U H x y v u Q I rx ry h;obtain ⟨hs,q⟩:=h;cases x with
 | non=>
  cases rx;cases y with
  | non=>cases ry;exact PySem.EqNone.ne_none_none (bO I q (by simp))
  | bl j=>cases ry;exact PySem.EqNone.ne_none_bool (bO I q (by simp))
  | int j=>obtain ⟨t',rfl⟩:=ry;exact PySem.EqNone.ne_none_int (bO I q (by simp))
  | str j=>obtain ⟨t',rfl⟩:=ry;exact PySem.EqNone.ne_none_str (bO I q (by simp))
  | _=>exact absurd (show false=true from hs) ZV
 | bl i=>
  cases rx;cases y with
  | non=>cases ry;exact PySem.EqNone.ne_bool_none (bO I q (by simp))
  | bl j=>cases ry;exact ne_bool (bO I q (congrArg not J8))
  | str j=>obtain ⟨t',rfl⟩:=ry;exact PySem.EqMixed.ne_bool_str (bO I q (by simp))
  | _=>exact absurd (show false=true from hs) ZV
 | int i=>
  obtain ⟨t,rfl⟩:=rx;cases y with
  | non=>cases ry;exact PySem.EqNone.ne_int_none (bO I q (by simp))
  | int j=>obtain ⟨t',rfl⟩:=ry;exact ne_int (bO I q (congrArg not FN))
  | str j=>obtain ⟨t',rfl⟩:=ry;exact PySem.EqMixed.ne_int_str (bO I q (by simp))
  | _=>exact absurd (show false=true from hs) ZV
 | str i=>
  obtain ⟨t,rfl⟩:=rx;cases y with
  | non=>cases ry;exact PySem.EqNone.ne_str_none (bO I q (by simp))
  | bl j=>cases ry;exact PySem.EqMixed.ne_str_bool (bO I q (by simp))
  | int j=>obtain ⟨t',rfl⟩:=ry;exact PySem.EqMixed.ne_str_int (bO I q (by simp))
  | str j=>obtain ⟨t',rfl⟩:=ry;exact ne_str (bO I q (congrArg not FP))
  | _=>exact absurd (show false=true from hs) ZV
 | byt i=>
  obtain ⟨t,rfl⟩:=rx;cases y with
  | byt j=>obtain ⟨t',rfl⟩:=ry;exact PySem.W.ne_bytes (bO I q (congrArg not FQ))
  | _=>exact absurd (show false=true from hs) ZV
 | _=>cases y <;> exact absurd (show false=true from hs) ZV
theorem tY:OpR X (compareOp .Lt) (J6 fun i j=>.bl (decide (i < j))):=Py fun _ _ _ _ _ _ _ q=>lt_int q
theorem wX:OpR X (compareOp .LtE) (J6 fun i j=>.bl (decide (i<=j))):=Py fun _ _ _ _ _ _ _ q=>le_int q
theorem tZ:OpR X (compareOp .Gt) (J6 fun i j=>.bl (decide (j < i))):=Py fun _ _ _ _ _ _ _ q=>gt_int q
theorem yR:OpR X (compareOp .GtE) (J6 fun i j=>.bl (decide (j<=i))):=Py fun _ _ _ _ _ _ _ q=>ge_int q
theorem Hm:OpR X (compareOp .In) (fun x y H Q=>∃ i j,x= .str i/\y= .str j/\Q (.bl (!(Builtin.Str.occurrences j i 0 j.length 1).isEmpty)) H):=by
 intro pins s U H x y v u Q I rx ry h;obtain ⟨i,j,rfl,rfl,q⟩:=h;obtain ⟨t,rfl⟩:=rx;obtain ⟨t',rfl⟩:=ry;exact in_str (bO I q rfl)
theorem Ux:OpR X (compareOp .Is) (fun x y H Q=>y= .non/\Q (.bl (decide (x= .non))) H):=by
 intro pins s U H x y v u Q I rx ry h;obtain ⟨rfl,q⟩:=h;cases ry;refine is_none_gen (bO I q ?_)
 cases x <;> first
  | (cases rx;rfl)
  | (obtain ⟨t,rfl⟩:=rx;rfl)
theorem OpR.or {f:Value->Value->Sem Value} {r r':R2} (h:OpR X f r) (h':OpR X f r'):OpR X f (fun x y H Q=>r x y H Q\/r' x y H Q):=by
 intro pins s U H x y v u Q I rx ry q;rcases q with q | q
 ·exact h pins s U H x y v u Q I rx ry q
 ·exact h' pins s U H x y v u Q I rx ry q
theorem aV (b:Expr) {op:CmpOp} (h:autoParam (op≠.In) L2.auto2._auto_1) (h2:autoParam (op≠.NotIn) L2.auto2._auto_1):behindInMarks op b=false:=by
 have e1:(op == CmpOp.In)=false:=by cases op <;> first | rfl | exact absurd rfl h
 have e2:(op == CmpOp.NotIn)=false:=by cases op <;> first | rfl | exact absurd rfl h2
 cases b <;> simp [behindInMarks,e1,e2]
theorem PK {op:CmpOp} {r:R2} (ho:OpR X (compareOp op) r) (ha:PE X a ta) (hb:PE X b tb) (hm:behindInMarks op b=false):PE X (.Compare a [op] [b] pos) (J5 r ta tb):=by
 intro pins s U H Q I h;exact wpAny_Compare1 (Ut ha hb I h fun v u s2 x y H2 I2 rx ry q=>ho pins s2 U H2 x y v u Q I2 rx ry q) hm
def FT (t:TE):TT:=fun U H Q=>t U H fun x H'=>∃ k,x= .bl k/\Q k H'
theorem PL {op:CmpOp} {r:R2} (ho:OpR X (compareOp op) r) (ha:PE X a ta) (hb:PE X b tb) (hm:behindInMarks op b=false):PT X (.Compare a [op] [b] pos) (FT (J5 r ta tb)):=by
 intro pins s U H Q I h
 refine wpAny_isTrue_Compare1 (fM (ha pins s U H _ I h) fun v s1 ⟨x,H1,I1,r1,q1⟩=>fM (hb pins s1 U H1 _ I1 q1) fun u s2 ⟨y,H2,I2,r2,q2⟩=>
  fM (ho pins s2 U H2 x y v u _ I2 r1 r2 q2) fun c s3 ⟨z,H3,I3,r3,k,e,q3⟩=>?_) hm
 subst e;cases r3;exact AaT ⟨H3,I3,q3⟩
def Do (r r':R2) (ta tb tc:TE):TE:=fun U H Q=>ta U H fun x H1=>tb U H1 fun y H2=>r x y H2 fun z H3=>∃ k,z= .bl k/\
 (if k=true then tc U H3 fun w' H4=>r' y w' H4 Q else Q (.bl false) H3)
theorem J9 {op op':CmpOp} {r r':R2} (ho:OpR X (compareOp op) r) (ho':OpR X (compareOp op') r') (ha:PE X a ta) (hb:PE X b tb) (hc:PE X c tc)
  (hm:autoParam (lastMarks [op,op'] [b,c]=false) L2.auto5._auto_1):PE X (.Compare a [op,op'] [b,c] pos) (Do r r' ta tb tc):=by
 intro pins s U H Q I h
 refine Compare_chain (fM (ha pins s U H _ I h) fun v s1 ⟨x,H1,I1,r1,q1⟩=>chain_link (fM (hb pins s1 U H1 _ I1 q1) fun u s2 ⟨y,H2,I2,r2,q2⟩=>
  fM (ho pins s2 U H2 x y v u _ I2 r1 r2 q2) fun d s3 ⟨z,H3,I3,r3,k,e,q3⟩=>?_)) hm
 subst e;cases r3;refine AaT ?_;cases k with
 | false=>exact ite_ff ⟨.bl false,H3,I3,rfl,q3⟩
 | true=>exact ite_tt (chain_last (fM (hc pins s3 U H3 _ I3 q3) fun w' s4 ⟨z',H4,I4,r4,q4⟩=>ho' pins s4 U H4 y z' u w' Q I4 r2 r4 q4))
def Hn (K:W.Frag) (x:V) (H:Hp) (k:Bool):Prop:=
 match x with
 | .non=>k=false
 | .bl b=>k=b
 | .int i=>k=(i != 0)
 | .str y=>y.length<=sizeLine/\k=((y.length:Int) != 0)
 | .byt y=>y.size<=sizeLine/\k=((y.size:Int) != 0)
 | .ref p=>(∃ xs,SqL K H p xs/\k=!xs.isEmpty)\/(∃ xs,SqT K H p xs/\k=!xs.isEmpty)\/∃ kvs,H p=some (.dK kvs)/\k=!kvs.isEmpty
 | _=>False
theorem Dp {κ:Type} {kvs:List (κ×V)} {vs:List (κ×Value)} (r:KV kvs vs):(!vs.isEmpty)=!kvs.isEmpty:=by
 cases r <;> rfl
theorem wY {xs:List V} {its:List Value} (r:Vals xs its):(!its.toArray.isEmpty)=!xs.isEmpty:=by
 cases r <;> simp
theorem uX:(sizeLine:Nat) < 2 ^ 63:=by rw [sizeLine_eq];decide
theorem Uy:TruR X (fun x H Q=>∃ k,Hn X.K x H k/\Q k H):=by
 intro pins s U H x v Q I rx h;obtain ⟨k,e,q⟩:=h;have hl:=uX;have hs:sizeLine=16777216:=sizeLine_eq;cases x with
 | non=>
  cases rx;have e':k=false:=e;subst e';exact truthy_none ⟨H,I,q⟩
 | bl b=>
  cases rx;have e':k=b:=e;subst e';exact AaT ⟨H,I,q⟩
 | int i=>
  obtain ⟨t,rfl⟩:=rx;have e':k=(i != 0):=e;subst e';exact PySem.P.truthy_int ⟨H,I,q⟩
 | str y=>
  obtain ⟨t,rfl⟩:=rx;obtain ⟨hy,e'⟩:y.length<=sizeLine/\k=((y.length:Int) != 0):=e;subst e';exact PySem.P.truthy_str (by omega) ⟨H,I.tok _,q⟩
 | byt y=>
  obtain ⟨t,rfl⟩:=rx;obtain ⟨hy,e'⟩:y.size<=sizeLine/\k=((y.size:Int) != 0):=e;subst e';exact PySem.W.truthy_bytes (by omega) ⟨H,I.tok _,q⟩
 | ref p=>
  cases rx;have e':(∃ xs,SqL X.K H p xs/\k=!xs.isEmpty)\/(∃ xs,SqT X.K H p xs/\k=!xs.isEmpty)\/∃ kvs,H p=some (.dK kvs)/\k=!kvs.isEmpty:=e;rcases e' with ⟨xs,hx,e'⟩ | ⟨xs,hx,e'⟩ | ⟨kvs,hx,e'⟩
  ·subst e'
   obtain ⟨its,r,pl,hz⟩:=I.list hx;have hlen:=r.length;exact wpAny_truthy_list pl.isList (by simp only [ZS];omega) ⟨H,I.tok _,by rw [wY r];exact q⟩
  ·subst e'
   obtain ⟨its,r,pl,hz⟩:=I.tuple hx;have hlen:=r.length;exact truthy_tuple pl (by simp only [ZS];omega) ⟨H,I.tok _,by rw [wY r];exact q⟩
  ·subst e'
   obtain ⟨hz,hS,vs,r,m⟩:kvs.length<=sizeLine/\(p == sysModules)=false/\∃ vs,KV kvs vs/\s.heap.DictOf (cH X.prog X.w) p vs:=I.hok p _ hx;have hlen:kvs.length=vs.length:=Paired.length r;exact wpAny_truthy_dict hS m (by omega) ⟨H,I.tok _,by rw [Dp r];exact q⟩
 | _=>exact (show False from e).elim
theorem Ka (ha:PE X a ta) (he:∀ whole,isTrue a X.env whole=(do let v ← whole;standAt a.pos;holding [v] (truthy v))):
  PT X a (fun U H Q=>ta U H fun x H'=>∃ k,Hn X.K x H' k/\Q k H'):=by
 intro pins s U H Q I h;exact isTrue_plain (fM (ha pins s U H _ I h) fun v s1 ⟨x,H1,I1,r1,q1⟩=>Uy pins s1 U H1 x v Q I1 r1 q1) (he _)
theorem Dq:OpR X (binaryOp .Add) (fun x y H Q=>∃ i j,x= .str i/\y= .str j/\i.length+j.length<=sizeLine/\Q (.str (i ++ j)) H):=by
 intro pins s U H x y v u Q I rx ry h;obtain ⟨i,j,rfl,rfl,hz,q⟩:=h;obtain ⟨t,rfl⟩:=rx;obtain ⟨t',rfl⟩:=ry;exact add_str (fun t' tk=>⟨.str (i ++ j),H,I.tok _,⟨_,rfl⟩,q⟩) hz
theorem vals1 {x:V} {us:List Value} (r:Vals [x] us):∃ u,us=[u]/\RelV x u:=by
 cases r with
 | cons r1 r2=>cases r2;exact ⟨_,rfl,r1⟩
theorem vals2 {x y:V} {us:List Value} (r:Vals [x,y] us):∃ u w',us=[u,w']/\RelV x u/\RelV y w':=by
 cases r with
 | cons r1 r2=>
  cases r2 with
  | cons r3 r4=>cases r4;exact ⟨_,_,rfl,r1,r3⟩
theorem Ho (hc:X.calm=true):CallR X (.builtin "max") (fun xs H Q=>∃ i j,xs=[.int i,.int j]/\Q (.int (if j > i then j else i)) H):=by
 intro pins s U H xs us Q I r h;obtain ⟨i,j,rfl,q⟩:=h;obtain ⟨u,w',rfl,⟨t,rfl⟩,⟨t',rfl⟩⟩:=vals2 r;refine max_two_ints (I.ok.hd hc) fun h' tk k=>⟨_,H,I.kept k,?_,q⟩
 by_cases hj:j > i
 ·rw [if_pos hj,if_pos hj];exact ⟨_,rfl⟩
 ·rw [if_neg hj,if_neg hj];exact ⟨_,rfl⟩
theorem Hq (hc:X.calm=true):CallR X (.builtin "min") (fun xs H Q=>∃ i j,xs=[.int i,.int j]/\Q (.int (if j < i then j else i)) H):=by
 intro pins s U H xs us Q I r h;obtain ⟨i,j,rfl,q⟩:=h;obtain ⟨u,w',rfl,⟨t,rfl⟩,⟨t',rfl⟩⟩:=vals2 r;refine min_two_ints (I.ok.hd hc) fun h' tk k=>⟨_,H,I.kept k,?_,q⟩
 by_cases hj:j < i
 ·rw [if_pos hj,if_pos hj];exact ⟨_,rfl⟩
 ·rw [if_neg hj,if_neg hj];exact ⟨_,rfl⟩
def Xr (K:W.Frag) (x:V) (H:Hp) (n:Nat):Prop:=
 match x with
 | .str y=>y.length<=sizeLine/\n=y.length
 | .byt y=>y.size<=sizeLine/\n=y.size
 | .ref p=>(∃ xs,SqL K H p xs/\n=xs.length)\/∃ xs,SqT K H p xs/\n=xs.length
 | _=>False
theorem Kc:CallR X (.builtin "len") (fun xs H Q=>∃ x n,xs=[x]/\Xr X.K x H n/\Q (.int n) H):=by
 intro pins s U H xs us Q I r h;obtain ⟨x,n,rfl,e,q⟩:=h;obtain ⟨u,rfl,rx⟩:=vals1 r;have hl:=uX;have hs:sizeLine=16777216:=sizeLine_eq;cases x with
 | str y=>
  obtain ⟨t,rfl⟩:=rx;obtain ⟨hy,e'⟩:y.length<=sizeLine/\n=y.length:=e;subst e';exact len_str (by omega) ⟨.int _,H,I.tok _,⟨_,rfl⟩,q⟩
 | byt y=>
  obtain ⟨t,rfl⟩:=rx;obtain ⟨hy,e'⟩:y.size<=sizeLine/\n=y.size:=e;subst e';exact PySem.W.len_bytes (by omega) ⟨.int _,H,I.tok _,⟨_,rfl⟩,q⟩
 | ref p=>
  cases rx;have e':(∃ xs,SqL X.K H p xs/\n=xs.length)\/∃ xs,SqT X.K H p xs/\n=xs.length:=e;rcases e' with ⟨xs,hx,e'⟩ | ⟨xs,hx,e'⟩
  ·subst e'
   obtain ⟨its,r',pl,hz⟩:=I.list hx;have hlen:=r'.length;exact Calls.call_len_list pl.isList (by simp only [ZS];omega) ⟨.int xs.length,H,I.tok _,⟨_,by simp only [ZS];rw [hlen]⟩,q⟩
  ·subst e'
   obtain ⟨its,r',pl,hz⟩:=I.tuple hx;have hlen:=r'.length;exact len_tuple pl (by simp only [ZS];omega) ⟨.int xs.length,H,I.tok _,⟨_,by simp only [ZS];rw [hlen]⟩,q⟩
 | _=>exact (show False from e).elim
end
structure ObjM (h:Heap) (x dx C:Addr) (mA:Str->Option Value):Prop where
 obj:h.get? x=some (PySem.W.instObj C dx)
 ns:h.Ns1 dx mA
 ne:dx≠x
theorem yS {h:Heap} {dx:Addr} {mA:Str->Option Value} (n:h.Ns1 dx mA):∃ od,h.get? dx=some od/\∀ name,PySem.W.lookIn name od=some (mA name):=by
 obtain ⟨o,es,ep,ho,hd,hk,_,hm⟩:=n;refine ⟨o,ho,fun name=>?_⟩;have e:=hm name;unfold nsFind findBy at e;rw [← Array.find?_toList] at e;unfold PySem.W.lookIn;rw [hd];dsimp only
 split
 ·rename_i y q
  rw [q] at e;exact congrArg some e
 ·rename_i q
  rw [q] at e
  have a:es.toList.any (·.refKey)=false:=by
   rw [List.any_eq_false];intro y hy;obtain ⟨z,t,hkey⟩:=hk y (Array.mem_toList_iff.mp hy);simp [DictEntry.refKey,hkey]
  have a':¬ es.toList.any (·.refKey)=true:=by rw [a];exact ZV
  rw [if_neg a'];exact congrArg some e
theorem ObjM.look {h:Heap} {x dx C:Addr} {mA:Str->Option Value} (I:ObjM h x dx C mA):∃ od,PySem.W.InstAt h x (PySem.W.instObj C dx) C (some od)/\∀ name,PySem.W.lookIn name od=some (mA name):=
 let ⟨od,ho,hl⟩:=yS I.ns
 ⟨od,⟨I.obj,rfl,rfl,ho⟩,hl⟩
section
variable {prog:Program} {w:World} {A:Around} {E:Value->Shared->Prop} {s:Shared} {K:W.Frag} {x dx C f:Addr} {mA:Str->Option Value} {name:Str} {v:Value}
theorem PN {expr:Bool} {Q:Value->Shared->Prop} (X:K.In s.heap) (I:ObjM s.heap x dx C mA) (hg:PySem.W.plainGet K C name=true) (hh:PySem.W.hasDictIn K C=true)
  (ha:PySem.W.findIn K (.ref C) name=some none) (hv:mA name=some v) (hv':PySem.W.handedIn v=true) (h:Q v {s with toks:=s.toks+1}):
  wpAny (model prog w) A (getAttr (.ref x) name expr) Q E s:=by
 obtain ⟨od,J,hl⟩:=I.look;exact PySem.W.get_value X J (PySem.W.plainGet_of hg).1 (PySem.W.findObj_own hh ha rfl (by rw [hl,hv])) hv' h
theorem Ke {pl:Sem Bool} {Q:Value×List Value->Shared->Prop} (X:K.In s.heap) (I:ObjM s.heap x dx C mA) (hg:PySem.W.plainGet K C name=true)
  (hf:PySem.W.findIn K (.ref C) name=some (some (.ref f))) (ht:PySem.W.isFn K (.ref f)=true) (hv:mA name=none) (h:Q (.ref f,[.ref x]) s):
  wpAny (model prog w) A (getMethod (.ref x) name pl) Q E s:=by
 obtain ⟨od,J,hl⟩:=I.look;exact PySem.W.method_fn X J (PySem.W.plainGet_of hg).1 (PySem.W.plainGet_of hg).2 hf (Aa3.mp ht) (by show (PySem.W.lookIn name od).map (·.isSome)=some false;rw [hl,hv];rfl) h
theorem PP {ns:List Str} {Q:Unit->Shared->Prop} (X:K.In s.heap) (I:ObjM s.heap x dx C mA)
  (hs:PySem.W.findIn K (.ref C) "__setattr__"=some (some (.builtin "object.__setattr__"))) (hp:PySem.W.plainOver K C=true) (ht:PySem.W.takerIn K C name=some none) (hh:PySem.W.hasDictIn K C=true)
  (hw:PySem.Within mA ns) (hsz:ns.length<=sizeLine)
  (h:∀ h',ObjM h' x dx C (fun y=>if y=name then some v else mA y)->Heap.SameBut dx s.heap h'->Q () {s with heap:=h',toks:=s.toks+2}):
  wpAny (model prog w) A (setAttr (.ref x) name v) Q E s:=by
 obtain ⟨od,J,hl⟩:=I.look;refine PySem.W.set_plain X J hs (PySem.W.osa_open (s:={s with toks:=s.toks+1}) (r:=none) X J hp ht fun b=>?_);obtain ⟨cd,hc,hd'⟩:=PySem.W.any_some hh;have hx:s.heap.get? x=some ⟨.ref C,some dx,.plain,#[]⟩:=I.obj;refine Zu (Zy (Zu (Zu (AaZ hx (Zu (PySem.W.Looks.here (s:={s with toks:=s.toks+1}) (PySem.W.looks_clsIn X hc) ?_))))));rw [hd'];refine Zy (a:=some dx) (Zu (Zy (Zu ?_)));refine wpAny_nsSet1 (s:={s with toks:=s.toks+1}) I.ns fun h' hn2 hs2=>?_
 obtain ⟨oD,esD,epD,hoD,hdD,hcD⟩:=hn2.count (PySem.Within.cons name v hw);refine Zu (wpAny_lookBehind hoD (by rw [hdD];exact pastItsLine_dict (ZG hcD (by rw [Aap];omega))) ?_);exact Zy (h _ ⟨(hs2.2 _ (Ne.symm I.ne)).trans I.obj,hn2,I.ne⟩ hs2)
theorem Kf {R:Result->Shared->Prop} {vs:List Value} {kw:List (Str×Value)} (X:K.In s.heap) (hm:PySem.W.makesIn K C=true)
  (hi:PySem.W.findIn K (.ref C) "__init__"=some (some (.ref f))) (hf:PySem.W.typeIn K (.ref f)=some (.type "function"))
  (h:codeAny (model prog w) (A.under (.builtin "type.__call__" ⟨.ref C :: vs,kw⟩)) (.call (.ref f) ⟨.ref (s.heap.objs.size+1) :: vs,kw⟩) (PySem.W.InitBack (s.heap.objs.size+1) R)
   {s with heap:=(s.heap.push PySem.W.emptyDict).push (PySem.W.instObj C s.heap.objs.size)}):
  codeAny (model prog w) A (.call (.ref C) ⟨vs,kw⟩) R s:=by
 obtain ⟨hh,g,d,t,os⟩:=s;exact PySem.W.make_core (PySem.W.makes_of X hm) (Abp X hi) (fun self=>PySem.W.bind_fn X self hf) (.inl rfl) h
end
def cP (f:Str) (v:V):List (Str×V)->List (Str×V)
 | []=>[(f,v)]
 | (g,x) :: r=>if g=f then (g,v) :: r else (g,x) :: cP f v r
theorem pX (f g:Str) (v:V):∀ fs:List (Str×V),(cP f v fs).lookup g=if g=f then some v else fs.lookup g
 | []=>by
  show List.lookup g [(f,v)]=_;by_cases h:g=f
  ·have hb:(g == f)=true:=Aa3.mpr h
   simp only [List.lookup,hb,if_pos h]
  ·have hb:(g == f)=false:=Abb.mpr h
   simp only [List.lookup,hb,if_neg h]
 | (k,x) :: r=>by
  have ih:=pX f g v r;rw [show cP f v ((k,x) :: r)=(if k=f then (k,v) :: r else (k,x) :: cP f v r) from rfl];by_cases hk:k=f
  ·rw [if_pos hk]
   by_cases h:g=k
   ·have hb:(g == k)=true:=Aa3.mpr h
    simp only [List.lookup,hb,if_pos (h.trans hk)]
   ·have hb:(g == k)=false:=Abb.mpr h
    simp only [List.lookup,hb,if_neg (fun e:g=f=>h (e.trans hk.symm))]
  ·rw [if_neg hk]
   by_cases h:g=k
   ·have hb:(g == k)=true:=Aa3.mpr h
    simp only [List.lookup,hb,if_neg (fun e:g=f=>hk (h.symm.trans e))]
   ·have hb:(g == k)=false:=Abb.mpr h
    simp only [List.lookup,hb];exact ih
theorem uY (f:Str) (v:V):∀ fs:List (Str×V),f∈(cP f v fs).map (·.1)/\∀ g,g∈fs.map (·.1)->g∈(cP f v fs).map (·.1)
 | []=>⟨by simp [cP],fun g h=>by simp at h⟩
 | (k,x) :: r=>by
  obtain ⟨i1,i2⟩:=uY f v r;rw [show cP f v ((k,x) :: r)=(if k=f then (k,v) :: r else (k,x) :: cP f v r) from rfl];by_cases hk:k=f
  ·rw [if_pos hk]
   subst hk;exact ⟨by simp,fun g h=>by simpa using h⟩
  ·rw [if_neg hk]
   refine ⟨?_,fun g h=>?_⟩
   ·rw [Aaj]
    exact ZZ _ i1
   ·rw [Aaj] at h ⊢
    rcases ZQ.mp h with e | e
    ·exact ZQ.mpr (.inl e)
    ·exact ZZ _ (i2 g e)
theorem vL (f:Str) (v:V):∀ fs:List (Str×V),(cP f v fs).length<=fs.length+1
 | []=>by simp [cP]
 | (k,x) :: r=>by
  have ih:=vL f v r;rw [show cP f v ((k,x) :: r)=(if k=f then (k,v) :: r else (k,x) :: cP f v r) from rfl];by_cases hk:k=f
  ·rw [if_pos hk,Aap,Aap];omega
  ·rw [if_neg hk,Aap,Aap];omega
theorem RelO.some_of {v:V} {o:Option Value} (r:RelO (some v) o):∃ u,o=some u/\RelV v u:=by
 cases o with
 | none=>exact (show False from r).elim
 | some u=>exact ⟨u,rfl,r⟩
theorem RelO.none_of {o:Option Value} (r:RelO none o):o=none:=by
 cases o with
 | none=>rfl
 | some u=>exact (show False from r).elim
theorem Hr {v:V} {u:Value} (r:RelV v u):PySem.W.handedIn u=true:=by
 cases v with
 | non=>cases (show u=Value.none from r);rfl
 | bl b=>cases (show u=Value.bool b from r);rfl
 | int i=>obtain ⟨t,e⟩:=(show ∃ t,u=Value.int i t from r);cases e;rfl
 | str x=>obtain ⟨t,e⟩:=(show ∃ t,u=Value.str x t from r);cases e;rfl
 | byt b=>obtain ⟨t,e⟩:=(show ∃ t,u=Value.bytes b t from r);cases e;rfl
 | flt b=>obtain ⟨t,e⟩:=(show ∃ t,u=Value.float b t from r);cases e;rfl
 | ref a=>cases (show u=Value.ref a from r);rfl
 | ty n=>cases (show u=Value.type n from r);rfl
section
variable {P:Program} {w:World} {H H':Hp} {h h':Heap} {a C dx:Addr} {fs fs':List (Str×V)}
theorem t6 (hok:HOk P w H h) (e:H a=some (.ins C dx fs)):∃ mA,ObjM h a dx C mA/\(∀ f,RelO (fs.lookup f) (mA f))/\PySem.Within mA (fs.map (·.1))/\fs.length<=1000/\H dx=some (.own a):=by
 obtain ⟨d,z,ne,ob,mA,n,r,q⟩:=(show ObjOk P w H h a (.ins C dx fs) from hok a _ e);exact ⟨mA,⟨ob,n,ne⟩,r,q,z,d⟩
end
structure Cls (K:W.Frag) (C:Addr):Prop where
 pg:PySem.W.plainGet K C Str.empty=true
 hd:PySem.W.hasDictIn K C=true
 po:PySem.W.plainOver K C=true
 sa:PySem.W.findIn K (.ref C) "__setattr__"=some (some (.builtin "object.__setattr__"))
theorem Cls.get {K:W.Frag} {C:Addr} (c:Cls K C) (f:Str):PySem.W.plainGet K C f=true:=c.pg
def NoAttr (K:W.Frag) (C:Addr) (f:Str):Prop:=PySem.W.findIn K (.ref C) f=some none
theorem NoAttr.taker {K:W.Frag} {C:Addr} {f:Str} (n:NoAttr K C f):PySem.W.takerIn K C f=some none:=by
 unfold PySem.W.takerIn;rw [show PySem.W.findIn K (.ref C) f=some none from n];rfl
structure Meth (K:W.Frag) (C:Addr) (m:Str) (f:Addr):Prop where
 at_:PySem.W.findIn K (.ref C) m=some (some (.ref f))
 fn:PySem.W.isFn K (.ref f)=true
 kp:PySem.W.keepIn K (.ref f)=true
section
variable {X:Cx} {pins:List (Addr×Obj)} {U:St} {H:Hp} {s:Shared} {a C dx:Addr} {fs:List (Str×V)} {f:Str} {v:V} {A:Around} {E:Value->Shared->Prop}
theorem wZ {b:Bool} {Q:Value->Shared->Prop} (I:Inv X pins U H s) (e:H a=some (.ins C dx fs)) (c:Cls X.K C) (n:NoAttr X.K C f) (l:fs.lookup f=some v)
  (h:∀ u s',Inv X pins U H s'->RelV v u->Q u s'):wpAny (model X.prog X.w) A (getAttr (.ref a) f b) Q E s:=by
 obtain ⟨mA,O,r,_,_,_⟩:=t6 I.hok e;obtain ⟨u,hu,ru⟩:=RelO.some_of (v:=v) (o:=mA f) (by rw [← l];exact r f);exact PN I.kIn O (c.get f) c.hd n hu (Hr ru) (h u _ (I.tok _) ru)
theorem w5 {m:Str} {g:Addr} {pl:Sem Bool} {Q:Value×List Value->Shared->Prop} (I:Inv X pins U H s) (e:H a=some (.ins C dx fs)) (c:Cls X.K C) (k:Meth X.K C m g) (l:fs.lookup m=none)
  (h:Q (.ref g,[.ref a]) s):wpAny (model X.prog X.w) A (getMethod (.ref a) m pl) Q E s:=by
 obtain ⟨mA,O,r,_,_,_⟩:=t6 I.hok e;have hn:mA m=none:=RelO.none_of (by rw [← l];exact r m);exact Ke I.kIn O (c.get m) k.at_ k.fn hn h
theorem xf {y:V} {u:Value} {Q:Unit->Shared->Prop} (I:Inv X pins U H s) (e:H a=some (.ins C dx fs)) (c:Cls X.K C) (n:NoAttr X.K C f) (hl:fs.length < 1000) (ry:RelV y u)
  (h:∀ s',Inv X pins U (upd H a (.ins C dx (cP f y fs))) s'->Q () s'):wpAny (model X.prog X.w) A (setAttr (.ref a) f u) Q E s:=by
 obtain ⟨mA,O,r,wi,_,ho⟩:=t6 I.hok e;have hz:(fs.map (·.1)).length<=sizeLine:=by rw [ZJ,sizeLine_eq];omega
 refine PP I.kIn O c.sa c.po n.taker c.hd wi hz fun h' O' sb=>h _ ?_
 have hd:∃ o,h'.get? dx=some o:=let ⟨o,_,_,e',_⟩:=O'.ns;⟨o,e'⟩
 refine I.write (x:=a) (e:=dx) (by rw [e];exact True.intro) (.inr ho) (fun b q hb z=>(sb.2 b hb).trans z) hd ?_;refine ⟨by rw [aC O.ne];exact ho,?_,O.ne,O'.obj,_,O'.ns,fun g=>?_,fun g hg=>?_⟩
 ·have:=vL f y fs;omega
 ·show RelO ((cP f y fs).lookup g) (if g=f then some u else mA g)
  rw [pX];by_cases q:g=f
  ·rw [if_pos q,if_pos q];exact ry
  ·rw [if_neg q,if_neg q];exact r g
 ·by_cases q:g=f
  ·rw [q];exact (uY f y fs).1
  ·refine (uY f y fs).2 g (wi g fun z=>hg ?_)
   show (if g=f then some u else mA g)=none;rw [if_neg q];exact z
theorem Inv.made (I:Inv X pins U H s):Inv X pins U (upd (upd H s.heap.objs.size (.own (s.heap.objs.size+1))) (s.heap.objs.size+1) (.ins C s.heap.objs.size []))
  {s with heap:=(s.heap.push PySem.W.emptyDict).push (PySem.W.instObj C s.heap.objs.size)}:=by
 have e1:(s.heap.push PySem.W.emptyDict).get? s.heap.objs.size=some PySem.W.emptyDict:=ZP s.heap rfl
 have e2:((s.heap.push PySem.W.emptyDict).push (PySem.W.instObj C s.heap.objs.size)).get? (s.heap.objs.size+1)=some (PySem.W.instObj C s.heap.objs.size):=by
  have:=ZP (s.heap.push PySem.W.emptyDict) (o:=PySem.W.instObj C s.heap.objs.size) rfl;rwa [AaI] at this
 have e3:(s.heap.push PySem.W.emptyDict).Ns s.heap.objs.size (fun _=>none):=⟨PySem.W.emptyDict,#[],_,e1,rfl,(fun e he=>absurd he (by simp)),fun _=>rfl⟩;have I1:=I.laid (a:=s.heap.objs.size) (o:=.own (s.heap.objs.size+1)) (h':=s.heap.push PySem.W.emptyDict) (t':=s.toks) (fun b u q=>Zz _ q) (ZC _) ⟨_,e1⟩;refine I1.laid (a:=s.heap.objs.size+1) (o:=.ins C s.heap.objs.size []) (t':=s.toks) (fun b u q=>Zz _ q) (AaP (AaI _ _)) ?_;have ne:s.heap.objs.size≠s.heap.objs.size+1:=Aah (AbQ _);refine ⟨by rw [aC ne,aj],AaE _,ne,e2,fun _=>none,(Heap.Ns1.of_empty e3).at fun o q=>Zz _ q,fun _=>True.intro,fun y hy=>absurd rfl hy⟩
theorem PQ {prog:Program} {w:World} {env:Env} {e:Expr} {f:Str} {pos:Pos} {s:Shared} {Q:Value->Shared->Prop} (hb:attributeBase e f env (eval e env)=eval e env)
  (h:wpAny (model prog w) A (eval e env) (fun o s₁=>wpAny (model prog w) A (getAttr o f true) Q E s₁) E s):wpAny (model prog w) A (eval (.Attribute e f pos) env) Q E s:=
 Attribute_any_ h (by rw [arm_eval_Attribute,hb])
end
def Uz (K:W.Frag) (ta:TE) (f:Str):TE:=fun U H Q=>ta U H fun x H1=>∃ a C dx fs v,x= .ref a/\H1 a=some (.ins C dx fs)/\Cls K C/\NoAttr K C f/\fs.lookup f=some v/\Q v H1
def UG (K:W.Frag) (ta tv:TE) (f:Str):TS:=fun D U H=>tv U H fun y H1=>ta U H1 fun x H2=>∃ a C dx fs,x= .ref a/\H2 a=some (.ins C dx fs)/\Cls K C/\NoAttr K C f/\fs.length < 1000/\
 D.nx U (upd H2 a (.ins C dx (cP f y fs)))
def UJ (X:Cx) (op:Operator) (rd:V->V->Hp->VK->Prop):Prop:=
 ∀ (pins:List (Addr×Obj)) (s:Shared) (U:St) (H:Hp) (x y:V) (u v:Value) (Q:VK),Inv X pins U H s->RelV x u->RelV y v->rd x y H Q->wpAny (model X.prog X.w) X.A (inplaceOp op u v) (EP X pins U Q) X.xe s
def zL (K:W.Frag) (ta tv:TE) (rd:V->V->Hp->VK->Prop) (f:Str):TS:=fun D U H=>ta U H fun x H1=>∃ a C dx fs v,x= .ref a/\H1 a=some (.ins C dx fs)/\Cls K C/\NoAttr K C f/\fs.lookup f=some v/\
 tv U H1 fun y H2=>rd v y H2 fun z H3=>∃ dx' fs',H3 a=some (.ins C dx' fs')/\fs'.length < 1000/\D.nx U (upd H3 a (.ins C dx' (cP f z fs')))
section
variable {X:Cx} {o e value:Expr} {f:Str} {pos pos' tpos:Pos} {ta tv:TE}
theorem UL (he:PE X e ta) (hb:attributeBase e f X.env (eval e X.env)=eval e X.env):PE X (.Attribute e f pos) (Uz X.K ta f):=by
 intro pins s U H Q I h;refine PQ hb (fM (he pins s U H _ I h) fun u s1 qq0=>?_);obtain ⟨x,H1,I1,rx,a,C,dx,fs,v,ex,ea,c,n,l,q⟩:=qq0;subst ex;obtain rfl:u=Value.ref a:=rx;exact wZ I1 ea c n l fun u' s2 I2 ru=>⟨v,H1,I2,ru,q⟩
theorem UT (ha:PE X o ta) (hv:PE X value tv) (hs:swapsWith value (some (.Attribute o f pos')) pos.line X.env=pure false):PS X (.Assign [.Attribute o f pos'] value pos) (UG X.K ta tv f):=by
 intro pins s U H D I h;refine plainObj_wpAny_Assign_Attribute (fM (hv pins s U H _ I h) fun u s1 ⟨y,H1,I1,ry,q⟩=>fM (ha pins s1 U H1 _ I1 q) fun ov s2 qq0=>?_) hs;obtain ⟨x,H2,I2,rx,a,C,dx,fs,ex,ea,c,n,l,q2⟩:=qq0;subst ex;obtain rfl:ov=Value.ref a:=rx;exact xf I2 ea c n l ry fun s3 I3=>⟨U,_,I3,q2⟩
theorem Hs {op:Operator} {rd:V->V->Hp->VK->Prop} (ha:PE X o ta) (hv:PE X value tv) (hop:UJ X op rd):PS X (.AugAssign (.Attribute o f tpos) op value pos) (zL X.K ta tv rd f):=by
 intro pins s U H D I h;refine wpAny_AugAssign_AttributeAny (fM (ha pins s U H _ I h) fun ov s1 qq0=>?_);obtain ⟨x,H1,I1,rx,a,C,dx,fs,v,ex,ea,c,n,l,q⟩:=qq0;subst ex;obtain rfl:ov=Value.ref a:=rx;refine wZ I1 ea c n l fun u s2 I2 ru=>fM (hv pins s2 U H1 _ I2 q) fun w3 s3 ⟨y,H2,I3,ry,q3⟩=>fM (hop pins s3 U H2 v y u w3 _ I3 ru ry q3) fun w4 s4 qq0=>?_
 obtain ⟨z,H3,I4,rz,dx',fs',ea',l',q4⟩:=qq0;exact xf I4 ea' c n l' rz fun s5 I5=>⟨U,_,I5,q4⟩
def rAdd:V->V->Hp->VK->Prop:=fun x y H Q=>∃ i j,x= .int i/\y= .int j/\Q (.int (i+j)) H
theorem UV:UJ X .Add rAdd:=by
 rintro pins s U H x y u v Q I rx ry ⟨i,j,rfl,rfl,q⟩;obtain ⟨t,rfl⟩:=(show ∃ t,u=Value.int i t from rx);obtain ⟨t',rfl⟩:=(show ∃ t',v=Value.int j t' from ry);exact PyProof.Rows.iadd_int ⟨.int (i+j),H,I.tok _,⟨_,rfl⟩,q⟩
end
section
variable {X:Cx} {pins:List (Addr×Obj)} {U:St} {H:Hp} {s:Shared} {A:Around} {E:Value->Shared->Prop} {Q:Value->Shared->Prop} {c:Value} {b:Bool}
inductive TyOf (K:W.Frag) (H:Hp):V->Value->Prop where
 | non:TyOf K H .non (.type "NoneType")
 | bl (x:Bool):TyOf K H (.bl x) (.type "bool")
 | int (i:Int):TyOf K H (.int i) (.type "int")
 | str (x:Str):TyOf K H (.str x) (.type "str")
 | flt (x:UInt64):TyOf K H (.flt x) (.type "float")
 | lst {a:Addr} {xs:List V} (e:H a=some (.lst xs)):TyOf K H (.ref a) (.type "list")
 | frz {a:Addr} {o:Obj} {xs:List V} (e:H a=some (.frz o (.lst xs))):TyOf K H (.ref a) (.type "list")
 | tup {a:Addr} {xs:List V} (e:H a=some (.tup xs)):TyOf K H (.ref a) (.type "tuple")
 | dK {a:Addr} {kvs:List (Key×V)} (e:H a=some (.dK kvs)):TyOf K H (.ref a) (.type "dict")
 | dT {a:Addr} {kvs:List (List Key×V)} (e:H a=some (.dT kvs)):TyOf K H (.ref a) (.type "dict")
 | ins {a C dx:Addr} {fs:List (Str×V)} (e:H a=some (.ins C dx fs)) (cl:Cls K C) (ha:PySem.W.findIn K (.ref C) "__class__"=some (some (.builtin "object.__class__")))
   (hn:PySem.W.specialIn K (.builtin "object.__class__") "__get__"=some (some (.builtin "getset_descriptor.__get__"))) (htk:PySem.W.takesIn K (.builtin "object.__class__")=some true)
   (hm:PySem.W.mroIn K C (.type "object")=some true):TyOf K H (.ref a) (.ref C)
theorem Ht {x:V} {u t:Value} (I:Inv X pins U H s) (rx:RelV x u) (ty:TyOf X.K H x t) (e:PySem.W.kitOne X.K t c=some b) (h:∀ tk,Q (.bool b) {s with toks:=tk}):
  wpAny (model X.prog X.w) A (call (.builtin "isinstance") [u,c]) Q E s:=by
 cases ty with
 | non=>cases (show u=Value.none from rx);exact AaK PySem.W.kitx_none I.kIn True.intro e (fun z=>nomatch z) h
 | bl y=>cases (show u=Value.bool y from rx);exact AaK PySem.W.kitx_bool I.kIn True.intro e (fun z=>nomatch z) h
 | int i=>obtain ⟨t,q⟩:=(show ∃ t,u=Value.int i t from rx);cases q;exact AaK PySem.W.kitx_int I.kIn True.intro e (fun z=>nomatch z) h
 | str y=>obtain ⟨t,q⟩:=(show ∃ t,u=Value.str y t from rx);cases q;exact AaK PySem.W.kitx_str I.kIn True.intro e (fun z=>nomatch z) h
 | flt y=>obtain ⟨t,q⟩:=(show ∃ t,u=Value.float y t from rx);cases q;exact AaK PySem.W.kitx_float I.kIn True.intro e (fun z=>nomatch z) h
 | @lst a xs ea=>
  cases (show u=Value.ref a from rx);obtain ⟨_,_,n,_,h1⟩:=(show ObjOk X.prog X.w H s.heap a (.lst xs) from I.hok a _ ea);exact AaK PySem.W.kitx_list I.kIn ⟨_,h1,rfl⟩ e (fun z=>nomatch z) h
 | @frz a ob xs ea=>
  cases (show u=Value.ref a from rx);obtain ⟨_,_,_,n,_,h1⟩:=(show ObjOk X.prog X.w H s.heap a (.frz ob (.lst xs)) from I.hok a _ ea);exact AaK PySem.W.kitx_list I.kIn ⟨_,h1,rfl⟩ e (fun z=>nomatch z) h
 | @tup a xs ea=>
  cases (show u=Value.ref a from rx);obtain ⟨_,_,_,p⟩:=(show ObjOk X.prog X.w H s.heap a (.tup xs) from I.hok a _ ea);obtain ⟨o,h1,h2,_⟩:=p;exact AaK PySem.W.kitx_tuple I.kIn ⟨o,h1,h2⟩ e (fun z=>nomatch z) h
 | @dK a kvs ea=>
  cases (show u=Value.ref a from rx);obtain ⟨_,_,vs,_,p⟩:=(show ObjOk X.prog X.w H s.heap a (.dK kvs) from I.hok a _ ea);obtain ⟨o,es,ep,h1,h2,_⟩:=p;exact AaK PySem.W.kitx_dict I.kIn ⟨o,h1,h2.1⟩ e (fun z=>nomatch z) h
 | @dT a kvs ea=>
  cases (show u=Value.ref a from rx);obtain ⟨_,_,xs,_,o,es,ep,h1,h2,_⟩:=(show ObjOk X.prog X.w H s.heap a (.dT kvs) from I.hok a _ ea);exact AaK PySem.W.kitx_dict I.kIn ⟨o,h1,h2.1⟩ e (fun z=>nomatch z) h
 | @ins a C dx fs ea cl ha hn htk hm=>
  cases (show u=Value.ref a from rx);obtain ⟨mA,O,_⟩:=t6 I.hok ea;obtain ⟨od,J,_⟩:=O.look;exact AaK (PySem.W.kitx_own (cl.get _) cl.hd ha hn htk hm) I.kIn J e (fun z=>nomatch z) h
end
structure Room (k:Nat) (A:Around):Prop where
 hd:A.handled=none
 dp:A.depth+3*k+5 < recursionLimit
 un:A.units+16*k+200 < cLine
 gd:A.guards=some []
theorem Room.mono {j k:Nat} {A:Around} (r:Room k A) (h:j<=k):Room j A:=⟨r.hd,by have:=r.dp;omega,by have:=r.un;omega,r.gd⟩
theorem Room.deeper {k:Nat} {A:Around} (r:Room (k+1) A) (env:Env):Room k (A.deeper env):=
 ⟨r.hd,by have:=r.dp;show A.depth+1+3*k+5 < _;omega,by have:=r.un;show A.units+3+16*k+200 < _;omega,r.gd⟩
theorem Ds {A:Around} {C:Addr} {us:List Value} {kw:List (Str×Value)}:(A.under (.builtin "type.__call__" ⟨.ref C :: us,kw⟩)).depth=A.depth+1:=by
 first | rfl | simp [Around.under,Code.weight,Code.isCreation,Code.isGuard,Code.isCaller,Code.frames,Code.isFrame,guardIds]
theorem Dt {A:Around} {C:Addr} {us:List Value} {kw:List (Str×Value)}:(A.under (.builtin "type.__call__" ⟨.ref C :: us,kw⟩)).units=A.units+1:=by
 first | rfl | simp [Around.under,Code.cUnits,Code.frames,Code.isFrame]
theorem Bm {A:Around} {C:Addr} {us:List Value} {kw:List (Str×Value)}:(A.under (.builtin "type.__call__" ⟨.ref C :: us,kw⟩)).guards=pushGuards [] A.guards:=by
 first | rfl | simp [Around.under,Code.guards,Code.isGuard,guardIds]
theorem Room.make {k:Nat} {A:Around} (r:Room (k+1) A) (C:Addr) (us:List Value) (kw:List (Str×Value)):Room k (A.under (.builtin "type.__call__" ⟨.ref C :: us,kw⟩)):=
 ⟨r.hd,by have:=r.dp;rw [Ds];omega,by have:=r.un;rw [Dt];omega,(Bm.trans (by rw [r.gd];rfl))⟩
theorem Room.depth {k:Nat} {A:Around} (r:Room k A):A.depth < recursionLimit:=by have:=r.dp;omega
theorem Room.units {k:Nat} {A:Around} (r:Room k A):A.units+64 < cLine:=by have:=r.un;omega
theorem Room.units0 {k:Nat} {A:Around} (r:Room k A):A.units < cLine:=by have:=r.un;omega
def PX:TA:=fun _ H Q=>Q [] H
def FW (ta:TE) (tr:TA):TA:=fun U H Q=>ta U H fun x H1=>tr U H1 fun xs H2=>Q (x :: xs) H2
section
variable {X:Cx} {e:Expr} {es:List Expr} {te:TE} {t:TA} {pos:Pos}
theorem UW:PA X [] PX:=fun _ _ _ _ H Q I h=>Calls.spliced_nil ⟨[],H,I,.nil,h⟩
theorem P0 (ha:PE X e te) (hr:PA X es t) (hs:autoParam (starEach (e :: es) X.env=(false,eval e X.env) :: starEach es X.env) L2.auto4._auto_1):PA X (e :: es) (FW te t):=by
 intro pos pins s U H Q I h;rw [hs];show wpAny _ _ (spliced ((false,eval e X.env) :: backTo pos (starEach es X.env))) _ _ s;refine Calls.spliced_cons (fM (ha pins s U H _ I h) fun u s1 qq0=>?_);obtain ⟨x,H1,I1,r1,q1⟩:=qq0;exact fM (hr pos pins s1 U H1 _ I1 q1) fun us s2 ⟨xs,H2,I2,r2,q2⟩=>⟨x :: xs,H2,I2,.cons r1 r2,q2⟩
def Qa (t:TA):TE:=fun U H Q=>t U H fun xs H1=>xs.length<=sizeLine/\∀ p,H1 p=none->Q (.ref p) (upd H1 p (.tup xs))
def Qc (t:TA):TE:=fun U H Q=>t U H fun xs H1=>xs.length<=sizeLine/\∀ p,H1 p=none->Q (.ref p) (upd H1 p (.lst xs))
theorem U0 {x1} (h:PA X es t):PE X (.Tuple es x1 pos) (Qa t):=by
 intro pins s U H Q I hq;refine wpAny_Tuple_spliced (fM (h pos pins s U H _ I hq) fun us s1 ⟨xs,H1,I1,r,z,q⟩=>⟨by rw [← r.length];exact z,?_⟩);have hf:H1 s1.heap.objs.size=none:=I1.hok.fresh (ZC _);refine ⟨.ref s1.heap.objs.size,upd H1 s1.heap.objs.size (.tup xs),I1.laid (t':=s1.toks) (fun b u e=>Zz _ e) (ZC _) ?_,rfl,q _ hf⟩;exact ⟨z,us,r,⟨_,ZP _ rfl,rfl,_,rfl⟩⟩
theorem U7 (h:PA X es t):PE X (.List es pos) (Qc t):=by
 intro pins s U H Q I hq;refine wpAny_List_spliced (fM (h pos pins s U H _ I hq) fun us s1 ⟨xs,H1,I1,r,z,q⟩=>⟨by rw [← r.length];exact z,?_⟩);have hf:H1 s1.heap.objs.size=none:=I1.hok.fresh (ZC _);refine ⟨.ref s1.heap.objs.size,upd H1 s1.heap.objs.size (.lst xs),I1.laid (t':=s1.toks) (fun b u e=>Zz _ e) (ZC _) ?_,rfl,q _ hf⟩;exact ⟨z,us,0,r,ZP _ rfl⟩
end
abbrev Sp:=List V->Hp->VK->XK->Prop
abbrev Hu:=List Env->Hp->Shared->XK->Value->Shared->Prop
structure Env0 (P:Program) (w:World) (K:W.Frag) (mg:Str->Option Value) (base:Heap) (A:Around) (outer:List Env) (s:Shared) (H:Hp):Prop where
 frames:A.frames=some outer
 mod:Mod K mg base
 bs:∀ b o,base.get? b=some o->s.heap.get? b=some o/\H b=none
 bsz:base.objs.size<=s.heap.objs.size
 funs:s.heap.FunFrames base outer
 frf:∀ b∈frs outer,H b=none
 hok:HOk P w H s.heap
 bare:AllBare s.gens
def CE (outer:List Env) (P:Program) (w:World) (H:Hp) (s:Shared) (Q:VK) (u:Value) (s':Shared):Prop:=
 ∃ v H',s'.os=s.os/\AllBare s'.gens/\Un (frs outer) [] H H' s.heap s'.heap/\HOk P w H' s'.heap/\RelV v u/\Q v H'
def CR (CX:Hu) (outer:List Env) (P:Program) (w:World) (H:Hp) (s:Shared) (Q:VK) (E:XK) (r:Result) (s':Shared):Prop:=
 match r with
 | .ok (.ret u)=>CE outer P w H s Q u s'
 | .ok _=>False
 | .error e=>CX outer H s E e s'
structure FnOk (P:Program) (w:World) (K:W.Frag) (mg:Str->Option Value) (base:Heap) (CX:Hu) (k:Nat) (f:Addr) (fd:FuncData) (ps:List Str) (sp:Sp):Prop where
 len:∀ vs H Q E,sp vs H Q E->vs.length=ps.length
 run:∀ (A:Around) (outer:List Env) (s:Shared) (H:Hp) (args:Args) (us:List Value) (vs:List V) (Q:VK) (E:XK),Room k A->Env0 P w K mg base A outer s H->BindsTo s fd args (ps.zip us)->Vals vs us->sp vs H Q E->
  codeAny (model P w) A (.call (.ref f) args) (CR CX outer P w H s Q E) s
theorem FnOk.mono {P:Program} {w:World} {K:W.Frag} {mg:Str->Option Value} {base:Heap} {CX:Hu} {j k:Nat} {f:Addr} {fd:FuncData} {ps:List Str} {sp:Sp} (F:FnOk P w K mg base CX j f fd ps sp) (h:j<=k):
  FnOk P w K mg base CX k f fd ps sp:=⟨F.len,fun A outer s H args us vs Q E hr=>F.run A outer s H args us vs Q E (hr.mono h)⟩
theorem Env0.make {P:Program} {w:World} {K:W.Frag} {mg:Str->Option Value} {base:Heap} {A:Around} {outer:List Env} {s:Shared} {H:Hp} (e:Env0 P w K mg base A outer s H) (C:Addr) (us:List Value) (kw:List (Str×Value)):
  Env0 P w K mg base (A.under (.builtin "type.__call__" ⟨.ref C :: us,kw⟩)) outer s H:=⟨by first | exact e.frames | (simpa [Around.under,Code.envs,Code.isFrame,pushEnvs] using e.frames),e.mod,e.bs,e.bsz,e.funs,e.frf,e.hok,e.bare⟩
section
variable {X:Cx} {pins:List (Addr×Obj)} {U:St} {H:Hp} {s s':Shared}
theorem Inv.env0 (I:Inv X pins U H s):Env0 X.prog X.w X.K X.mg X.base X.A X.stack s H:=
 ⟨I.ok.frames,I.ok.mod,I.bs,ZG I.ok.bsz I.sz,I.stack,I.stkFree,I.hok,I.bare⟩
theorem Inv.after {Q:VK} {u:Value} (I:Inv X pins U H s) (h:CE X.stack X.prog X.w H s Q u s'):EP X pins U Q u s':=by
 obtain ⟨v,H',os,bare,un,hok,r,q⟩:=h;obtain ⟨hh,g,d,t,os'⟩:=s';obtain rfl:os'=s.os:=os;exact ⟨v,H',I.call (h':=hh) (g':=g) (d':=d) (t':=t) (ch:=[]) un hok bare (fun b z=>absurd z (by simp)),r,q⟩
end
def yU (sp:Sp) (dvs:List V) (E:XK) (t:TA):TE:=fun U H Q=>t U H fun vs H1=>sp (vs ++ dvs) H1 Q E
def Binds (K:W.Frag) (fd:FuncData) (ps:List Str) (ds:List Value):Prop:=
 ∀ (s:Shared) (us:List Value),K.In s.heap->(us ++ ds).length=ps.length->BindsTo s fd ⟨us,[]⟩ (ps.zip (us ++ ds))
theorem Binds.all {K:W.Frag} {fd:FuncData} {ps:List Str} (h:∀ us:List Value,us.length=ps.length->bindArgs fd ⟨us,[]⟩=pure (ps.zip us)):Binds K fd ps []:=fun s us _ hl=>by
 rw [AaC] at hl ⊢;exact .of_eq (h us hl)
def Du (CX:Hu) (X:Cx) (E:XK):Prop:=∀ (pins:List (Addr×Obj)) (U:St) (H:Hp) (s:Shared) (e:Value) (s':Shared),Inv X pins U H s->CX X.stack H s E e s'->X.xe e s'
section
variable {X:Cx} {CX:Hu} {k:Nat} {f C:Addr} {fd:FuncData} {ps:List Str} {sp:Sp} {dvs:List V} {ds:List Value} {E:XK} {x m:Str} {p pos apos:Pos} {e o:Expr} {es:List Expr} {ta:TE} {t:TA}
theorem U8 {pins:List (Addr×Obj)} {U:St} {H:Hp} {s:Shared} {Q:VK} {us:List Value} {vs:List V} (F:FnOk X.prog X.w X.K X.mg X.base CX k f fd ps sp) (hr:Room k X.A) (hb:Binds X.K fd ps ds) (hd:Vals dvs ds) (hx:Du CX X E)
  (I:Inv X pins U H s) (r:Vals vs us) (h:sp (vs ++ dvs) H Q E):wpAny (model X.prog X.w) X.A (call (.ref f) us) (EP X pins U Q) X.xe s:=by
 have r2:Vals (vs ++ dvs) (us ++ ds):=r.append hd;have hl:(us ++ ds).length=ps.length:=by rw [← r2.length];exact F.len _ _ _ _ h
 refine Abz (codeAny_mono (F.run X.A X.stack s H ⟨us,[]⟩ (us ++ ds) (vs ++ dvs) Q E hr I.env0 (hb s us I.kIn hl) r2 h) fun r s' hq=>?_);cases r with
 | error e=>exact hx pins U H s e s' I hq
 | ok fl=>
  cases fl with
  | ret u=>exact I.after hq
  | next=>exact False.elim hq
  | brk=>exact False.elim hq
  | cont=>exact False.elim hq
theorem Qd (F:FnOk X.prog X.w X.K X.mg X.base CX k f fd ps sp) (hr:Room k X.A) (hg:Gl X x) (hm:X.mg x=some (.ref f)) (hk:PySem.W.keepIn X.K (.ref f)=true) (hb:Binds X.K fd ps ds) (hd:Vals dvs ds) (hx:Du CX X E)
  (ha:PA X (e :: es) t) (hdb:autoParam ((x == ("__debug__":Str))=false) L2.auto2._auto_1) (he:autoParam (starEach (e :: es) X.env=(false,eval e X.env) :: starEach es X.env) L2.auto4._auto_1) (hpl:autoParam ((backTo pos (starEach es X.env)).any (·.1)=false) L2.auto4._auto_1):
  PE X (.Call (.Name x p) (e :: es) [] pos) (yU sp dvs E t):=by
 intro pins s U H Q I h;refine Aas (tX I hg hm ?_ hdb);refine AbA (h₀:=X.base) I.ok.mod.kin hk (fM (ha pos pins s U H _ I h) fun us s1 ⟨vs,H1,I1,r,q⟩=>⟨I1.kIn,?_⟩) he hpl;exact U8 F hr hb hd hx I1 r q
end
structure aD (N P:List Str) (sc:Scope):Prop where
 kind:sc.kind= .function
 co:sc.isCoroutine=false
 gen:sc.isGenerator=false
 nd:N.Nodup
 pre:N.take P.length=P
 par:∀ x∈P,sc.names.lookup x=some .local\/sc.names.lookup x=some .cell
 nofree:∀ y∈sc.names,y.2≠.free
theorem yV {kindOf:Str->Option NameKind} {x:Str}:∀ {binds:List (Str×Value)} {m:Str->Option Value},(∀ v,(x,v) ∉ binds)->bindL kindOf binds m x=m x
 | [],_,_=>rfl
 | (n,v) :: r,m,h=>by
  unfold bindL;rw [yV fun w hw=>h w (ZZ _ hw)]
  split
  ·have:x≠n:=by rintro rfl;exact h v Aak
   simp [this]
  ·rfl
theorem yW {kindOf:Str->Option NameKind} {x:Str}:∀ {binds:List (Str×Value)} {m:Str->Option Value},(∀ v,(x,v) ∉ binds)->bindC kindOf binds m x=m x
 | [],_,_=>rfl
 | (n,v) :: r,m,h=>by
  unfold bindC;rw [yW fun w hw=>h w (ZZ _ hw)]
  split
  ·rfl
  ·have:x≠n:=by rintro rfl;exact h v Aak
   simp [this]
theorem yX {kindOf:Str->Option NameKind} {x:Str} {v:Value}:∀ {P:List Str} {vs:List Value} {i:Nat} {m:Str->Option Value},P.Nodup->P[i]?=some x->vs[i]?=some v->kindOf x=some .local->
  bindL kindOf (P.zip vs) m x=some v
 | [],_,_,_,_,h,_,_=>by simp at h
 | _ :: _,[],_,_,_,_,h,_=>by simp at h
 | p :: P,w :: vs,0,m,nd,h1,h2,hk=>by
  simp at h1 h2;subst h1;subst h2;show bindL kindOf ((p,w) :: P.zip vs) m p=_;unfold bindL;rw [yV fun v hv=>(Abm.mp nd).1 (List.of_mem_zip hv).1,if_pos hk];simp
 | p :: P,w :: vs,i+1,m,nd,h1,h2,hk=>by
  show bindL kindOf ((p,w) :: P.zip vs) m x=_;unfold bindL;exact yX (i:=i) (Abm.mp nd).2 (by simpa using h1) (by simpa using h2) hk
theorem yZ {kindOf:Str->Option NameKind} {x:Str} {v:Value}:∀ {P:List Str} {vs:List Value} {i:Nat} {m:Str->Option Value},P.Nodup->P[i]?=some x->vs[i]?=some v->kindOf x≠some .local->
  bindC kindOf (P.zip vs) m x=some v
 | [],_,_,_,_,h,_,_=>by simp at h
 | _ :: _,[],_,_,_,_,h,_=>by simp at h
 | p :: P,w :: vs,0,m,nd,h1,h2,hk=>by
  simp at h1 h2;subst h1;subst h2;show bindC kindOf ((p,w) :: P.zip vs) m p=_;unfold bindC;rw [yW fun v hv=>(Abm.mp nd).1 (List.of_mem_zip hv).1,if_neg hk];simp
 | p :: P,w :: vs,i+1,m,nd,h1,h2,hk=>by
  show bindC kindOf ((p,w) :: P.zip vs) m x=_;unfold bindC;exact yZ (i:=i) (Abm.mp nd).2 (by simpa using h1) (by simpa using h2) hk
def start (N:List Str) (vs:List V):St:=vs.map some ++ List.replicate (N.length - vs.length) none
def rQ (CX:Hu) (P:Program) (w:World) (K:W.Frag) (mg:Str->Option Value) (base:Heap) (N:List Str) (qual:Str) (scope:Scope) (f:Addr) (cd:Value) (A:Around) (outer:List Env) (s:Shared) (H:Hp) (E:XK):Cx where
 prog:=P
 w:=w
 K:=K
 mg:=mg
 base:=base
 A:=A.deeper (envOfC qual scope s.heap.objs.size f cd)
 N:=N
 s₀:=s
 H₀:=H
 env:=envOfC qual scope s.heap.objs.size f cd
 outer:=outer
 stack:=envOfC qual scope s.heap.objs.size f cd :: outer
 ex:=[]
 calm:=true
 fn:=fun _=>true
 pn:=[]
 xe:=fun e s'=>wpAny (model P w) (A.deeper (envOfC qual scope s.heap.objs.size f cd)) (leaving (envOfC qual scope s.heap.objs.size f cd) e) (fun _ s''=>CX outer H s E e s'') (fun e' s''=>CX outer H s E e' s'') s'
theorem Bo {sc:Scope} {n:Nat} {x:Str} (h:sc.names.lookup x=some .cell):∃ c,(cellsFrom n sc.names []).lookup x=some c:=by
 have q:=PySem.W.cellsFrom_some sc.names n [] (.inl h);exact Option.isSome_iff_exists.mp q
theorem Hv {CX:Hu} {P:Program} {w:World} {K:W.Frag} {mg:Str->Option Value} {base:Heap} {N ps:List Str} {qual:Str} {scope:Scope} {f:Addr} {cd:Value} {A:Around} {outer:List Env} {s s1:Shared} {H:Hp} {E:XK} {us:List Value} {vs:List V}
  (S:aD N ps scope) (hd:A.handled=none) (e0:Env0 P w K mg base A outer s H) (hl:vs.length=ps.length) (r:Vals vs us)
  (x:InCallC s s.heap.objs.size (bindL (envOfC qual scope s.heap.objs.size f cd).kindOf (ps.zip us) fun _=>none) (cellsFrom (s.heap.objs.size+1) scope.names []) (bindC (envOfC qual scope s.heap.objs.size f cd).kindOf (ps.zip us) fun _=>none) s1):
  Inv (rQ CX P w K mg base N qual scope f cd A outer s H E) [] (start N vs) H s1:=by
 have hpl:ps.length<=N.length:=by have:=congrArg List.length S.pre;rw [ZW] at this;omega
 obtain ⟨h1,tk,rfl,hk⟩:=x.done;have noA:∀ b:Addr,b ∉ (rQ CX P w K mg base N qual scope f cd A outer s H E).ex:=fun b z=>absurd (show b∈([]:List Addr) from z) (by simp)
 refine ⟨⟨e0.mod,S.kind,rfl,rfl,ZC _,fun y z c h1 h2=>?_,fun y hy=>?_,fun y c _ h=>?_,fun _=>hd,Around.frames_deeper e0.frames,.inr ⟨rfl,rfl⟩,fun b z=>absurd z (noA b),e0.bs,e0.bsz,fun b _ _=>noA b,fun b z=>absurd z (noA b),e0.funs,e0.frf⟩,
  rfl,e0.bare,Un.kept hk,⟨_,x.toInCall.ns,fun i y v h1 h2 h3=>?_⟩,fun y c h=>⟨_,x.cell y c h⟩,e0.hok.fresh (ZC _),fun y c h=>?_,fun p hp=>absurd (show p∈([]:List (Addr×Obj)) from hp) (by simp),e0.hok.kept hk,?_⟩
 ·exact name_of_addr x.apart (Aax h1) (Aax h2)
 ·have hy:scope.names.lookup y=some .cell\/scope.names.lookup y=some .free:=hy
  rcases hy with hy | hy
  ·exact Bo hy
  ·exact absurd rfl (S.nofree _ (Aax hy))
 ·exact Nat.le_of_lt (x.above y c (Aax h))
 ·have hi:i < vs.length:=by
   unfold start at h2;by_cases hi:i < vs.length
   ·exact hi
   ·rw [gV (by simpa using hi)] at h2
    rw [List.getElem?_replicate] at h2
    split at h2 <;> cases h2
  have ha:vs[i]?=some v:=by
   unfold start at h2;rw [Aab (by simpa using hi),ZM] at h2;cases e:vs[i]? with
   | none=>rw [e] at h2;cases h2
   | some a=>rw [e] at h2;cases h2;rfl
  obtain ⟨u,hu,rv⟩:=r.get ha
  have hp:ps[i]?=some y:=by
   rw [← S.pre,Abv (by omega)];exact h1
  have ndP:ps.Nodup:=by rw [← S.pre];exact S.nd.sublist (List.take_sublist _ _)
  refine ⟨u,rv,?_⟩;rcases S.par y (Z0 hp) with k | k
  ·exact .inl ⟨k,yX ndP hp hu k⟩
  ·obtain ⟨c,e⟩:=Bo (n:=s.heap.objs.size+1) k
   refine .inr ⟨.inl k,c,e,?_⟩;have q:=x.cell y c e;rw [yZ ndP hp hu (by show scope.names.lookup y≠_;rw [k];decide)] at q;exact q
 ·exact e0.hok.fresh (Nat.le_of_lt (x.above y c (Aax h)))
 ·unfold start
  show _=N.length;rw [Z8,ZJ,List.length_replicate];omega
theorem Kg {CX:Hu} {P:Program} {w:World} {K:W.Frag} {mg:Str->Option Value} {base:Heap} {k:Nat} {f:Addr} {name qual:Str} {params:Arguments} {body:List Stmt} {scope:Scope} {dV kV doc pm cdv ct oc:Value} {an od:Option Addr}
  {osl:Array (Option Value)} {N ps:List Str} {sp:Sp} (lk:K.lookup f=some ⟨oc,od,.func (PySem.W.fnOf name qual params body scope dV kV doc pm an cdv ct),osl⟩) (hcd:PySem.W.codeIn K cdv qual=true) (S:aD N ps scope)
  (len:∀ vs H Q E,sp vs H Q E->vs.length=ps.length)
  (hbody:∀ (A:Around) (outer:List Env) (s:Shared) (H:Hp) (vs:List V) (Q:VK) (E:XK),Room k (A.deeper (envOfC qual scope s.heap.objs.size f cdv))->sp vs H Q E->
   ∃ t,PSs (rQ CX P w K mg base N qual scope f cdv A outer s H E) body t/\t {nx:=fun _ H'=>Q .non H',rt:=Q} (start N vs) H):
  FnOk P w K mg base CX (k+1) f (PySem.W.fnOf name qual params body scope dV kV doc pm an cdv ct) ps sp:=by
 refine ⟨len,fun A outer s H args us vs Q E hr e0 hb r hsp=>?_⟩;have hl:=len _ _ _ _ hsp;have KX:K.In s.heap:=e0.mod.kin.keeps fun b o e=>(e0.bs b o e).1
 have lim:s.heap.NoLimit:=e0.mod.nolimit.keeps fun b o e=>(e0.bs b o e).1
 have hkind:∀ y∈ps.zip us,scope.names.lookup y.1=some .local\/(scope.names.lookup y.1=some .cell/\((cellsFrom (s.heap.objs.size+1) scope.names []).lookup y.1).isSome=true):=fun ⟨n,v⟩ hy=>by
  rcases S.par n (List.of_mem_zip hy).1 with q | q
  ·exact .inl q
  ·exact .inr ⟨q,PySem.W.cellsFrom_some _ _ _ (.inl q)⟩
 refine codeAny_call_function hr.depth (KX _ _ lk) rfl S.co S.gen rfl (PySem.W.codeRec_of KX hcd) (hb _ _ _ _ ?_);refine wpAny_newFunctionEnv_cells S.kind hkind fun env he s1 x=>?_
 subst he;refine ⟨lim.keeps x.toInCall.keep,codeAny_func ?_⟩;obtain ⟨t,ht,hq⟩:=hbody A outer s H vs Q E (hr.deeper _) hsp;have I:Inv (rQ CX P w K mg base N qual scope f cdv A outer s H E) [] (start N vs) H s1:=Hv S hr.hd e0 hl r x;refine AaO (ht [] s1 (start N vs) H _ I hq) (fun fl s' hs=>?_) fun e s' hs=>hs
 have fin:∀ {U':St} {H':Hp} {v:V} {u:Value},Inv (rQ CX P w K mg base N qual scope f cdv A outer s H E) [] U' H' s'->RelV v u->Q v H'->CE outer P w H s Q u s':=
  fun {U' H' v u} J rv q=>⟨v,H',J.os,J.bare,J.base,J.hok,rv,q⟩
 cases fl with
 | ret u=>
  obtain ⟨v,U',H',J,rv,q⟩:=hs;exact fin J rv q
 | next=>
  obtain ⟨U',H',J,q⟩:=hs;exact fin (v:=V.non) (u:=Value.none) J rfl q
 | brk=>
  obtain ⟨_,_,_,q⟩:=hs;exact False.elim q
 | cont=>
  obtain ⟨_,_,_,q⟩:=hs;exact False.elim q
section
variable {X:Cx} {x:Str} {p pos:Pos} {e:Expr} {es:List Expr} {t:TA} {id T:String} {r:List V->Hp->VK->Prop}
def Va (r:List V->Hp->VK->Prop) (t:TA):TE:=fun U H Q=>t U H fun vs H1=>r vs H1 Q
theorem Kh (hc:CallR X (.builtin id) r) (hg:Gl X x) (hm:X.mg x=none) (hv:bootBuiltins x=some (.builtin id)) (ha:PA X (e :: es) t) (hn:autoParam (x≠"__name__") L2.auto2._auto_1) (hdb:autoParam ((x == ("__debug__":Str))=false) L2.auto2._auto_1)
  (he:autoParam (starEach (e :: es) X.env=(false,eval e X.env) :: starEach es X.env) L2.auto4._auto_1) (hpl:autoParam ((backTo pos (starEach es X.env)).any (·.1)=false) L2.auto4._auto_1):PE X (.Call (.Name x p) (e :: es) [] pos) (Va r t):=by
 intro pins s U H Q I h;refine Aas (iI I hg hm hv ?_ hn hdb);exact PyProof.Rows.callWith_builtin1 (fM (ha pos pins s U H _ I h) fun us s1 ⟨vs,H1,I1,r1,q1⟩=>hc pins s1 U H1 vs us Q I1 r1 q1) he hpl
theorem Hw (hc:CallR X (.type T) r) (hg:Gl X x) (hm:X.mg x=none) (hv:bootBuiltins x=some (.type T)) (ha:PA X (e :: es) t) (hn:autoParam (x≠"__name__") L2.auto2._auto_1) (hdb:autoParam ((x == ("__debug__":Str))=false) L2.auto2._auto_1)
  (he:autoParam (starEach (e :: es) X.env=(false,eval e X.env) :: starEach es X.env) L2.auto4._auto_1) (hpl:autoParam ((backTo pos (starEach es X.env)).any (·.1)=false) L2.auto4._auto_1):PE X (.Call (.Name x p) (e :: es) [] pos) (Va r t):=by
 intro pins s U H Q I h;refine Aas (iI I hg hm hv ?_ hn hdb);exact Z9 (fM (ha pos pins s U H _ I h) fun us s1 ⟨vs,H1,I1,r1,q1⟩=>hc pins s1 U H1 vs us Q I1 r1 q1) he hpl
end
end L2
namespace HT
open PySem PyProof.Rows
section
open PySem.SeqAt
open PySem.AutoSeq1 (wpAny_loadPart')
open PySem.MeetsSeq PySem.MeetsSeq2 PySem.MeetsSeq3
end
section
variable {prog:Program} {w:World} {A:Around} {E:Value->Shared->Prop} {s:Shared}
def sIx (n d:Nat):Option Int->Nat
 | none=>d
 | some v=>if v < 0 then (v+(n:Int)).toNat else min v.toNat n
theorem sIx_none (n d:Nat):sIx n d none=d:=rfl
theorem sIx_nat (n d k:Nat):sIx n d (some (k:Int))=min k n:=by
 show (if (k:Int) < 0 then ((k:Int)+(n:Int)).toNat else min (k:Int).toNat n)=min k n;rw [if_neg (by omega),Int.toNat_natCast]
theorem sIx_le (n d:Nat) (hd:d<=n) (o:Option Int):sIx n d o<=n:=by
 cases o with
 | none=>exact hd
 | some v=>
  show (if v < 0 then (v+(n:Int)).toNat else min v.toNat n)<=n;by_cases hv:v < 0
  ·rw [if_pos hv];omega
  ·rw [if_neg hv];exact Nat.min_le_right _ _
theorem clip_eq (v:Int) (n d:Nat):(if v < 0 then max (v+(n:Int)) 0 else min v (n:Int))=((sIx n d (some v):Nat):Int):=by
 show (if v < 0 then max (v+(n:Int)) 0 else min v (n:Int))=(((if v < 0 then (v+(n:Int)).toNat else min v.toNat n):Nat):Int);by_cases hv:v < 0
 ·simp only [if_pos hv];omega
 ·simp only [if_neg hv];omega
theorem Dv (lo hi:Option Int) (n:Nat):Builtin.Slice.sliceAdjust lo hi 1 (n:Int)=(((sIx n 0 lo:Nat):Int),((sIx n n hi:Nat):Int)):=by
 have h1:¬ ((1:Int) < 0):=by omega
 unfold Builtin.Slice.sliceAdjust;simp only [h1,if_false];refine Prod.ext ?_ ?_
 ·cases lo with
  | none=>rfl
  | some v=>exact clip_eq v n 0
 ·cases hi with
  | none=>rfl
  | some v=>exact clip_eq v n n
theorem Dw (i j:Nat):Builtin.Slice.slicePlaces (i:Int) (j:Int) 1=j - i:=by
 unfold Builtin.Slice.slicePlaces;have h1:(1:Int) > 0:=by omega
 simp only [h1,if_true,Int.ediv_one]
 split <;> omega
theorem xg {v:Value} {o:Option Int} {Q:Option Int->Shared->Prop} (p:IsPart v o) (h:Q o s):wpAny (model prog w) A (Builtin.Slice.slicePartIndex v) Q E s:=by
 cases p with
 | none=>exact slicePart_none h
 | int i t=>exact slicePart_int h
theorem n6 {sl:Addr} {vl vu:Value} {lo hi:Option Int} {n:Nat} {Q:Int×Int×Nat->Shared->Prop} (hs:s.heap.IsSliceOf sl vl vu .none) (pl:IsPart vl lo) (pu:IsPart vu hi)
  (h:Q (((sIx n 0 lo:Nat):Int),1,sIx n n hi - sIx n 0 lo) s):wpAny (model prog w) A (Builtin.Slice.sliceApplied (.ref sl) (pure (n:Int))) Q E s:=by
 obtain ⟨os,hos,hcs,hds⟩:=id hs;unfold Builtin.Slice.sliceApplied Builtin.Slice.sliceFields;refine Zu (Zu (AaG hos hds (x:=vl) rfl (Zu (AaG hos hds (x:=vu) rfl (Zu (AaG hos hds (x:=.none) rfl (Zy ?_)))))));refine Zu (slicePart_none ?_);show wpAny _ _ (if ((1:Int) == 0)=true then _ else _) _ _ s;rw [if_neg (by decide)];refine Zu (xg pl (Zu (xg pu (Zu (Zy ?_)))));show wpAny _ _ (match Builtin.Slice.sliceAdjust lo hi 1 (n:Int) with | (lo,hi)=>pure (lo,(1:Int),Builtin.Slice.slicePlaces lo hi 1)) _ _ s;rw [Dv lo hi n];show wpAny _ _ (pure (((sIx n 0 lo:Nat):Int),(1:Int),Builtin.Slice.slicePlaces ((sIx n 0 lo:Nat):Int) ((sIx n n hi:Nat):Int) 1)) _ _ s;rw [Dw];exact Zy h
theorem Kl (xs:Array Value) (i k:Nat):((List.range k).filterMap fun (m:Nat)=>xs[((i:Int)+(m:Int)*1).toNat]?).toArray=((xs.toList.drop i).take k).toArray:=by
 have e:(fun (m:Nat)=>xs[((i:Int)+(m:Int)*1).toNat]?)=fun m=>xs[i+m]?:=by
  funext m;have:((i:Int)+(m:Int)*1).toNat=i+m:=by omega
  rw [this]
 rw [e];have:=pick_run xs i k;rw [List.filterMap_map] at this;have e2:((fun x=>xs[x]?) ∘ fun x=>i+x)=fun m=>xs[i+m]?:=rfl
 rw [e2] at this;rw [this]
theorem getItem_tuple_cut {t sl:Addr} {items:Array Value} {vl vu:Value} {lo hi:Option Int} {Q:Value->Shared->Prop} (ht:IsTup s.heap t items) (hs:s.heap.IsSliceOf sl vl vu .none) (pl:IsPart vl lo) (pu:IsPart vu hi)
  (hw:¬ (sIx items.size 0 lo=0/\sIx items.size items.size hi=items.size))
  (h:Q (.ref s.heap.objs.size) {s with heap:=s.heap.push {cls:=.type "tuple",data:=.seq ((items.toList.drop (sIx items.size 0 lo)).take (sIx items.size items.size hi - sIx items.size 0 lo)).toArray}})
  (hsz:items.size<=sizeLine):wpAny (model prog w) A (getItem (.ref t) (.ref sl)) Q E s:=by
 have htake:sizeOk (.seq ((items.toList.drop (sIx items.size 0 lo)).take (sIx items.size items.size hi - sIx items.size 0 lo)).toArray):=by
  show ((items.toList.drop (sIx items.size 0 lo)).take (sIx items.size items.size hi - sIx items.size 0 lo)).toArray.size<=sizeLine;rw [ZS,ZW,Aac,ZF];omega
 have hj:sIx items.size items.size hi<=items.size:=sIx_le _ _ (ZC _) hi;obtain ⟨os,hos,hcs,hds⟩:=id hs;have hTs:s.TypeIs (.ref sl) "slice":=⟨os,hos,hcs⟩;unfold getItem;try with_reducible refine Aar ?_
 first | refine Zu (Zy ?_) | skip
 refine Zu (wpAny_sequenceKey ht.typeIs (by decide) ?_)
 refine Zu (AaR (name:=Str.ofString "__getitem__") ht.typeIs Aa2
  (Abd Aa2 ht.typeIs entry_tuple_getitem ?_ (args_tuple_getitem _ _)))
 show wpAny _ _ (Builtin.Tuple.tupleItemsOf (.ref t) >>=_) _ _ s;refine Zu (tupleItemsOf_ ht ?_);refine Zu (wpAny_typeOf hTs ?_);rw [if_pos (by decide)];refine Zu (n6 hs pl pu ?_)
 have hno:¬ ((((sIx items.size 0 lo:Nat):Int) == 0 && (1:Int) == 1 && (sIx items.size items.size hi - sIx items.size 0 lo) == items.size)=true):=by
  intro q;rw [Z4,Z4] at q;have q1:((sIx items.size 0 lo:Nat):Int)=0:=eq_of_beq q.1.1;have q2:sIx items.size items.size hi - sIx items.size 0 lo=items.size:=eq_of_beq q.2;exact hw ⟨by omega,by omega⟩
 show wpAny _ _ (if (((sIx items.size 0 lo:Nat):Int) == 0 && (1:Int) == 1 && (sIx items.size items.size hi - sIx items.size 0 lo) == items.size)=true then _ else _) _ _ s;rw [if_neg hno,Kl]
 first
  | exact Zu (m:=Builtin.Tuple.tupleExact _) (AaU (Zy ⟨_,rfl,Zy h⟩) htake)
  | exact Zu (m:=Builtin.Tuple.tupleExact _) (AaU (Zu (Zy (Zy ⟨_,rfl,Zy h⟩))) htake)
  | exact Zu (Zu (m:=Builtin.Tuple.tupleExact _) (AaU (Zy (Zy ⟨_,rfl,Zy h⟩)) htake))
  | exact Zu (Zu (m:=Builtin.Tuple.tupleExact _) (AaU (Zy ⟨_,rfl,Zy h⟩) htake))
end
end HT
namespace L2
open PySem PySem.Spec PyProof.Rows
abbrev TO:=St->Hp->(Option Int->Hp->Prop)->Prop
def PO (X:Cx) (e:Option Expr) (t:TO):Prop:=
 ∀ (pins:List (Addr×Obj)) (s:Shared) (U:St) (H:Hp) (Q:Option Int->Hp->Prop),Inv X pins U H s->t U H Q->
  wpAny (model X.prog X.w) X.A (evalPart e X.env) (fun u s'=>∃ o H',Inv X pins U H' s'/\IsPart u o/\Q o H') X.xe s
def zM:TO:=fun _ H Q=>Q none H
def Ko (t:TE):TO:=fun U H Q=>t U H fun x H1=>∃ i,x= .int i/\Q (some i) H1
theorem intsAre_of {ns:List Int}:∀ {us:List Value},Vals (ns.map V.int) us->IntsAre us ns:=by
 induction ns with
 | nil=>intro us r;rw [List.map_nil] at r;cases r;exact .nil
 | cons n ns ih=>
  intro us r;rw [Aaj] at r;cases r with
  | cons r1 r2=>
   obtain ⟨t,e⟩:=r1;subst e;exact .cons n t (ih r2)
section
variable {X:Cx} {e:Expr} {te:TE} {lo hi:Option Expr} {tl th:TO} {pos p2:Pos}
theorem Qe:PO X none zM:=by
 intro pins s U H Q I h;rw [evalPart_none];exact Zy ⟨none,H,I,.none,h⟩
theorem Qf (h:PE X e te):PO X (some e) (Ko te):=by
 intro pins s U H Q I hw;rw [evalPart_some];refine fM (h pins s U H _ I hw) fun u s1 qq0=>?_
 obtain ⟨x,H1,I1,r1,q1⟩:=qq0;obtain ⟨i,rfl,q⟩:=q1;obtain ⟨t,rfl⟩:=r1;exact ⟨some i,H1,I1,.int i t,q⟩
def SlR (X:Cx) (r:V->Option Int->Option Int->Hp->VK->Prop):Prop:=
 ∀ (pins:List (Addr×Obj)) (s:Shared) (U:St) (H:Hp) (x:V) (v vl vu:Value) (lo hi:Option Int) (sl:Addr) (Q:VK),Inv X pins U H s->RelV x v->s.heap.IsSliceOf sl vl vu .none->IsPart vl lo->IsPart vu hi->r x lo hi H Q->
  ∃ T id,typeLookup (.type T) "__getitem__"=pure (some (.builtin id))/\s.TypeIs v T/\wpAny (model X.prog X.w) X.A (getItem v (.ref sl)) (EP X pins U Q) X.xe s
theorem SlR.or {r r':V->Option Int->Option Int->Hp->VK->Prop} (h:SlR X r) (h':SlR X r'):SlR X (fun x lo hi H Q=>r x lo hi H Q\/r' x lo hi H Q):=by
 intro pins s U H x v vl vu lo hi sl Q I rx hs pl pu q;rcases q with q | q
 ·exact h pins s U H x v vl vu lo hi sl Q I rx hs pl pu q
 ·exact h' pins s U H x v vl vu lo hi sl Q I rx hs pl pu q
def tSl (r:V->Option Int->Option Int->Hp->VK->Prop) (te:TE) (tl th:TO):TE:=fun U H Q=>te U H fun x H1=>tl U H1 fun l H2=>th U H2 fun u H3=>r x l u H3 Q
theorem Kq {r:V->Option Int->Option Int->Hp->VK->Prop} (hr:SlR X r) (he:PE X e te) (hl:PO X lo tl) (hu:PO X hi th):PE X (.Subscript e (.Slice lo hi none p2) pos) (tSl r te tl th):=by
 intro pins s U H Q I h;refine Subscript_ (fM (he pins s U H _ I h) fun v s1 qq0=>?_);obtain ⟨x,H1,I1,r1,q1⟩:=qq0;refine wpAny_Slice (fM (hl pins s1 U H1 _ I1 q1) fun vl s2 ⟨l,H2,I2,pl,q2⟩=>fM (hu pins s2 U H2 _ I2 q2) fun vu s3 qq0=>?_);obtain ⟨u,H3,I3,pu,q3⟩:=qq0;rw [evalPart_none];refine Zy ?_;have I4:Inv X pins U H3 {s3 with heap:=s3.heap.push {cls:=.type "slice",data:=.fields #[vl,vu,.none]}}:=I3.kept (t':=s3.toks) fun b ob q=>Zz _ q
 obtain ⟨T,id,hT,ht,hg⟩:=hr pins {s3 with heap:=s3.heap.push {cls:=.type "slice",data:=.fields #[vl,vu,.none]}} U H3 x v vl vu l u s3.heap.objs.size Q I4 r1 (Heap.IsSliceOf.new ..) pl pu q3;show wpAny (model X.prog X.w) X.A (subscriptTail e (.Slice lo hi none p2) v (.ref s3.heap.objs.size)) (EP X pins U Q) X.xe {s3 with heap:=s3.heap.push {cls:=.type "slice",data:=.fields #[vl,vu,.none]}};exact tail_any (ops:=[.ref s3.heap.objs.size,v]) ht hT hg (by with_unfolding_all rfl)
def n8 (xs:List V) (lo hi:Option Int):List V:=(xs.drop (HT.sIx xs.length 0 lo)).take (HT.sIx xs.length xs.length hi - HT.sIx xs.length 0 lo)
theorem vM (xs:List V) (lo hi:Option Int):(n8 xs lo hi).length<=xs.length:=by
 unfold n8;rw [ZW,Aac];omega
def Xu (K:W.Frag):V->Option Int->Option Int->Hp->VK->Prop:=fun x lo hi H Q=>∃ a xs,x= .ref a/\SqT K H a xs/\
 ¬ (HT.sIx xs.length 0 lo=0/\HT.sIx xs.length xs.length hi=xs.length)/\∀ p,H p=none->Q (.ref p) (upd H p (.tup (n8 xs lo hi)))
theorem Vb:SlR X (Xu X.K):=by
 intro pins s U H x v vl vu lo hi sl Q I rx hs pl pu h;obtain ⟨a,xs,rfl,hx,hw,q⟩:=h;cases rx;obtain ⟨its,r,ht,hz⟩:=I.tuple hx;have hlen:its.toArray.size=xs.length:=by rw [ZS];exact r.length.symm
 refine ⟨"tuple",_,PyProof.Rows.slot_tuple_getitem.lookup,ht.typeIs,?_⟩;refine HT.getItem_tuple_cut ht hs pl pu (by rw [hlen];exact hw) ?_ (by rw [hlen];exact hz);rw [hlen];refine ⟨.ref s.heap.objs.size,_,I.laid (t':=s.toks) (o:=.tup (n8 xs lo hi)) (fun b ob q=>Zz _ q) (ZC _) ?_,rfl,q _ (I.hok.fresh (ZC _))⟩;exact ⟨ZG (vM xs lo hi) hz,_,(r.drop (HT.sIx xs.length 0 lo)).take (HT.sIx xs.length xs.length hi - HT.sIx xs.length 0 lo),IsTup.new _ _⟩
end
def Hx (n:Nat) (i:Int):Option Nat:=if 0<=i then (if i < n then some i.toNat else none) else if -(n:Int)<=i then some (i+n).toNat else none
def Dy {α:Type} (xs:List α) (i:Int):Option α:=(Hx xs.length i).bind fun j=>xs[j]?
theorem FZ {n:Nat} {i:Int} {j:Nat} (h:Hx n i=some j):seqIndex? i n=some j/\j < n/\-(n:Int)<=i/\i < n:=by
 unfold Hx at h;by_cases h0:0<=i
 ·rw [if_pos h0] at h
  by_cases h1:i < n
  ·rw [if_pos h1] at h
   have e:i.toNat=j:=Z2 h;exact ⟨by rw [seqIndex_of h0 h1,e],by omega,by omega,h1⟩
  ·rw [if_neg h1] at h;cases h
 ·rw [if_neg h0] at h
  by_cases h1: -(n:Int)<=i
  ·rw [if_pos h1] at h
   have e:(i+n).toNat=j:=Z2 h;exact ⟨by rw [seqIndex_neg (by omega) h1,e],by omega,h1,by omega⟩
  ·rw [if_neg h1] at h;cases h
theorem zN {α:Type} {xs:List α} {i:Int} {v:α} (h:Dy xs i=some v):∃ j,seqIndex? i xs.length=some j/\xs[j]?=some v/\j < xs.length/\-(xs.length:Int)<=i/\i < xs.length:=by
 unfold Dy at h;cases e:Hx xs.length i with
 | none=>rw [e] at h;cases h
 | some j=>
  rw [e] at h;obtain ⟨h1,h2,h3,h4⟩:=FZ e;exact ⟨j,h1,h,h2,h3,h4⟩
theorem cz {α:Type} {xs:List α} {j:Nat} {v:α} (h:xs[j]?=some v):Dy xs (j:Int)=some v:=by
 have hj:j < xs.length:=(Zx.mp h).1
 have e:Hx xs.length (j:Int)=some j:=by
  unfold Hx;rw [if_pos (by omega),if_pos (by omega)];simp
 unfold Dy;rw [e];exact h
def Ga (b:Expr):Prop:=∀ o i,subscripted b false o i=operate [o,i] (getItem o i)
def IxR (X:Cx) (r:R2):Prop:=
 ∀ (value slice:Expr) (pins:List (Addr×Obj)) (s:Shared) (U:St) (H:Hp) (x y:V) (v u:Value) (Q:VK),Inv X pins U H s->RelV x v->RelV y u->r x y H Q->
  subscripted slice false v u=operate [v,u] (getItem v u)->wpAny (model X.prog X.w) X.A (subscriptTail value slice v u) (EP X pins U Q) X.xe s
def Qg (X:Cx) (id:String) (r:V->List V->Hp->VK->Prop):Prop:=
 ∀ (pins:List (Addr×Obj)) (s:Shared) (U:St) (H:Hp) (x:V) (xs:List V) (v:Value) (us:List Value) (Q:VK),Inv X pins U H s->RelV x v->Vals xs us->r x xs H Q->
  wpAny (model X.prog X.w) X.A (call (.builtin id) (v :: us)) (EP X pins U Q) X.xe s
section
variable {X:Cx} {a b:Expr} {ta tb:TE} {pos:Pos}
theorem IxR.or {r r':R2} (h:IxR X r) (h':IxR X r'):IxR X (fun x y H Q=>r x y H Q\/r' x y H Q):=by
 intro value slice pins s U H x y v u Q I rx ry q hs;rcases q with q | q
 ·exact h value slice pins s U H x y v u Q I rx ry q hs
 ·exact h' value slice pins s U H x y v u Q I rx ry q hs
theorem Xv {r:R2} (hr:IxR X r) (ha:PE X a ta) (hb:PE X b tb) (hs:Ga b):PE X (.Subscript a b pos) (J5 r ta tb):=by
 intro pins s U H Q I h;exact Subscript_ (Ut ha hb I h fun v u s2 x y H2 I2 rx ry q=>hr a b pins s2 U H2 x y v u Q I2 rx ry q (hs _ _))
def Xw (K:W.Frag):R2:=fun x y H Q=>∃ p xs i v,x= .ref p/\y= .int i/\SqL K H p xs/\Dy xs i=some v/\Q v H
def Xx (K:W.Frag):R2:=fun x y H Q=>∃ p xs i v,x= .ref p/\y= .int i/\SqT K H p xs/\Dy xs i=some v/\Q v H
def Xy:R2:=fun x y H Q=>∃ z i c,x= .str z/\y= .int i/\z.length<=sizeLine/\Dy z.cps.toList i=some c/\Q (.str ⟨#[c]⟩) H
theorem Qh:IxR X (Xw X.K):=by
 intro value slice pins s U H x y v u Q I rx ry h hs;obtain ⟨p,xs,i,z,rfl,rfl,hq,he,q⟩:=h;cases rx;obtain ⟨t,rfl⟩:=ry;obtain ⟨its,r,pl,hz⟩:=I.list hq;obtain ⟨j,h1,h2,h3,h4,h5⟩:=zN he;obtain ⟨w,ew,rw'⟩:=r.get h2;have hl:=r.length;have hn:=uX;have fin:EP X pins U Q w s:=⟨z,H,I,rw',q⟩;by_cases h0:0<=i
 ·have hj:i.toNat=j:=by
   rw [seqIndex_of h0 h5] at h1;exact Z2 h1
  exact item_listR pl.isList h0 (by omega) (by rw [hj];simpa using ew) fin hs
 ·have hj:(i+(its.toArray.size:Int)).toNat=j:=by
   rw [seqIndex_neg (by omega) h4] at h1;rw [ZS,← hl];exact Z2 h1
  exact subscriptTail_builtinR (x:=w) pl.isList.typeIs slot_list_getitem.lookup
   (wpAny_getItem_list_neg (Q:=fun r s'=>r=w/\EP X pins U Q r s') pl.isList (by omega) (by rw [ZS] <;> omega) (by omega) (by rw [hj];simpa using ew) ⟨rfl,fin⟩) hs
theorem Vc:IxR X (Xx X.K):=by
 intro value slice pins s U H x y v u Q I rx ry h hs;obtain ⟨p,xs,i,z,rfl,rfl,hq,he,q⟩:=h;cases rx;obtain ⟨t,rfl⟩:=ry;obtain ⟨its,r,pl,hz⟩:=I.tuple hq;obtain ⟨j,h1,h2,h3,h4,h5⟩:=zN he;obtain ⟨w,ew,rw'⟩:=r.get h2;have hl:=r.length;have hn:=uX;have fin:EP X pins U Q w s:=⟨z,H,I,rw',q⟩
 exact subscriptTail_builtinR (x:=w) pl.typeIs slot_tuple_getitem.lookup
  (getItem_tuple (j:=j) (Q:=fun r s'=>r=w/\EP X pins U Q r s') pl (by omega) (by omega) (by rw [ZS,← hl];exact h1) (by simpa using ew) ⟨rfl,fin⟩) hs
theorem Vd:IxR X Xy:=by
 intro value slice pins s U H x y v u Q I rx ry h hs;obtain ⟨z,i,c,rfl,rfl,hz,he,q⟩:=h;obtain ⟨t,rfl⟩:=rx;obtain ⟨t',rfl⟩:=ry;obtain ⟨j,h1,h2,h3,h4,h5⟩:=zN he;have hl:z.cps.toList.length=z.length:=by simp [Str.length]
 rw [hl] at h1 h4 h5;have hn:=uX
 exact tail_any (typeIs_str s z t) slot_str_getitem.lookup (getItem_str (c:=c) (by
  have e1:decide (i < -(2 ^ 63:Int))=false:=ZD (by omega);have e2:decide (i>=2 ^ 63)=false:=ZD (by omega);rw [e1,e2,Bool.or_false]) (by rw [h1];simpa using h2) ⟨.str ⟨#[c]⟩,H,I.tok _,⟨_,rfl⟩,q⟩) hs
def R8 (K:W.Frag):R2:=fun x y H Q=>Xw K x y H Q\/Xx K x y H Q\/Xy x y H Q
theorem Ve:IxR X (R8 X.K):=Qh.or (Vc.or Vd)
theorem Dz (its:List Value) (n j:Nat) (u:Value):Obj.mapSeq (·.setIfInBounds j u) {cls:=.type "list",data:=.seq its.toArray n}={cls:=.type "list",data:=.seq (its.set j u).toArray n}:=by
 simp [Obj.mapSeq]
theorem Inv.lst {pins:List (Addr×Obj)} {U:St} {H:Hp} {s:Shared} {p:Addr} {xs:List V} (I:Inv X pins U H s) (h:H p=some (.lst xs)):
  ∃ (its:List Value) (n:Nat),Vals xs its/\s.heap.get? p=some {cls:=.type "list",data:=.seq its.toArray n}/\xs.length<=sizeLine:=by
 obtain ⟨z,its,n,r,e⟩:=I.hok p _ h;exact ⟨its,n,r,e,z⟩
theorem Inv.lstUpd {pins:List (Addr×Obj)} {U:St} {H:Hp} {s:Shared} {p:Addr} {xs ys:List V} {its its':List Value} {n n':Nat} {f:Obj->Obj} (I:Inv X pins U H s) (h:H p=some (.lst xs))
  (ho:s.heap.get? p=some {cls:=.type "list",data:=.seq its.toArray n}) (hf:f {cls:=.type "list",data:=.seq its.toArray n}={cls:=.type "list",data:=.seq its'.toArray n'}) (r:Vals ys its') (hz:ys.length<=sizeLine) (t:Nat):
  Inv X pins U (upd H p (.lst ys)) {s with heap:=s.heap.update p f,toks:=t}:=by
 have e:(s.heap.update p f).get? p=some {cls:=.type "list",data:=.seq its'.toArray n'}:=by
  rw [AaH f ho (by rw [hf] <;> rfl),hf]
 refine I.write (x:=p) (e:=p) (by rw [h];trivial) (.inl rfl) (fun b u hb q=>(Aal _ _ (Ne.symm hb)).trans q) ⟨_,e⟩ ?_;exact ⟨hz,its',n',r,e⟩
def pN:V->V->V->Hp->(Hp->Prop)->Prop:=fun o i v H Q=>∃ p xs k j,o= .ref p/\i= .int k/\H p=some (.lst xs)/\Hx xs.length k=some j/\Q (upd H p (.lst (xs.set j v)))
theorem set_list:Ph X pN:=by
 intro pins s U H o i v ov iv u Q I ro ri rv h;obtain ⟨p,xs,k,j,rfl,rfl,hp,hj,q⟩:=h;cases ro;obtain ⟨t,rfl⟩:=ri;obtain ⟨its,n,r,ho,hz⟩:=I.lst hp;obtain ⟨h1,h2,h3,h4⟩:=FZ hj;have hl:=r.length;have hn:=uX
 have I':Inv X pins U (upd H p (.lst (xs.set j v))) {s with heap:=s.heap.update p (Obj.mapSeq (·.setIfInBounds j u))}:=
  I.lstUpd hp ho (Dz its n j u) (r.set rv j) (by rw [List.length_set];exact hz) s.toks
 by_cases h0:0<=k
 ·have hk:k.toNat=j:=by
   rw [seqIndex_of h0 h4] at h1;exact Z2 h1
  exact PySem.W.ki_setAt ho h0 (by omega) (by rw [ZS,← hl];exact h4) (by rw [hk];exact ⟨_,I',q⟩)
 ·have hk:(k+(its.toArray.size:Int)).toNat=j:=by
   rw [seqIndex_neg (by omega) h3] at h1;rw [ZS,← hl];exact Z2 h1
  exact PySem.W.ki_setBack ho (by omega) (by rw [ZS,← hl];exact h3) (by omega) (by rw [hk];exact ⟨_,I',q⟩)
theorem zO (lo hi:Option Int) (n:Nat):(sliceBounds lo hi none n).1=((HT.sIx n 0 lo:Nat):Int)/\(sliceBounds lo hi none n).2.1=((HT.sIx n n hi:Nat):Int)/\(sliceBounds lo hi none n).2.2=1:=by
 refine ⟨?_,?_,rfl⟩
 ·cases lo with
  | none=>simp [sliceBounds,HT.sIx]
  | some i=>
   simp only [sliceBounds,HT.sIx,Option.getD_none,show (1:Int) > 0 by decide,if_true];by_cases h:i < 0
   ·simp only [h,if_true] <;> omega
   ·simp only [h,if_false] <;> omega
 ·cases hi with
  | none=>simp [sliceBounds,HT.sIx]
  | some i=>
   simp only [sliceBounds,HT.sIx,Option.getD_none,show (1:Int) > 0 by decide,if_true];by_cases h:i < 0
   ·simp only [h,if_true] <;> omega
   ·simp only [h,if_false] <;> omega
theorem yE (its:List Value) (lo hi:Option Int):slicePick its.toArray lo hi none=((its.drop (HT.sIx its.length 0 lo)).take (HT.sIx its.length its.length hi - HT.sIx its.length 0 lo)).toArray:=by
 obtain ⟨h1,h2,h3⟩:=zO lo hi its.toArray.size;unfold slicePick;rw [h1,h2,h3];simp only [sliceRange_one,pick_run,ZS] <;> rfl
def Xz (K:W.Frag):V->Option Int->Option Int->Hp->VK->Prop:=fun x lo hi H Q=>∃ a xs,x= .ref a/\SqL K H a xs/\∀ p,H p=none->Q (.ref p) (upd H p (.lst (n8 xs lo hi)))
theorem Qi:SlR X (Xz X.K):=by
 intro pins s U H x v vl vu lo hi sl Q I rx hs pl pu h;obtain ⟨a,xs,rfl,hx,q⟩:=h;cases rx;obtain ⟨its,r,ht,hz⟩:=I.list hx;have hlen:=r.length;refine ⟨"list",_,slot_list_getitem.lookup,ht.isList.typeIs,?_⟩;refine wpAny_getItem_list_slice ht.isList hs pl pu .none (by simp) ?_ (by rw [ZS] <;> omega);rw [yE,← hlen];refine ⟨.ref s.heap.objs.size,_,I.laid (t':=s.toks) (o:=.lst (n8 xs lo hi)) (fun b ob q=>Zz _ q) (ZC _) ?_,rfl,q _ (I.hok.fresh (ZC _))⟩;exact ⟨ZG (vM xs lo hi) hz,_,0,(r.drop (HT.sIx xs.length 0 lo)).take (HT.sIx xs.length xs.length hi - HT.sIx xs.length 0 lo),ZP _ rfl⟩
def jz:V->Bool
 | .non=>true
 | .bl _=>true
 | .int _=>true
 | .str _=>true
 | _=>false
def Gb:V->V->Bool
 | .non,.non=>true
 | .bl a,.bl b=>a == b
 | .bl a,.int b=>(if a then 1 else 0) == b
 | .int a,.bl b=>a == (if b then 1 else 0)
 | .int a,.int b=>a == b
 | .str a,.str b=>a == b
 | _,_=>false
theorem uZ {A:Around} {s:Shared} {y x:V} {u v:Value} (ry:RelV y u) (rx:RelV x v) (fy:jz y=true) (fx:jz x=true):SeqAt.EqAt A s u v (Gb y x):=by
 cases y with
 | non=>
  cases ry;cases x with
  | non=>cases rx;exact Abn _
  | bl b=>cases rx;exact SeqAt.EqAt.none_bool b
  | int b=>obtain ⟨t,rfl⟩:=rx;exact SeqAt.EqAt.none_int b t
  | str b=>obtain ⟨t,rfl⟩:=rx;exact SeqAt.EqAt.none_str b t
  | _=>exact absurd (show false=true from fx) ZV
 | bl a=>
  cases ry;cases x with
  | non=>cases rx;exact SeqAt.EqAt.bool_none a
  | bl b=>cases rx;exact SeqAt.EqAt.bool_bool a b
  | int b=>obtain ⟨t,rfl⟩:=rx;exact SeqAt.EqAt.bool_int a b t
  | str b=>obtain ⟨t,rfl⟩:=rx;exact SeqAt.EqAt.bool_str a b t
  | _=>exact absurd (show false=true from fx) ZV
 | int a=>
  obtain ⟨t',rfl⟩:=ry;cases x with
  | non=>cases rx;exact SeqAt.EqAt.int_none a t'
  | bl b=>cases rx;exact SeqAt.EqAt.int_bool a t' b
  | int b=>obtain ⟨t,rfl⟩:=rx;exact SeqAt.EqAt.int_int a t' b t
  | str b=>obtain ⟨t,rfl⟩:=rx;exact SeqAt.EqAt.int_str a t' b t
  | _=>exact absurd (show false=true from fx) ZV
 | str a=>
  obtain ⟨t',rfl⟩:=ry;cases x with
  | non=>cases rx;exact SeqAt.EqAt.str_none a t'
  | bl b=>cases rx;exact SeqAt.EqAt.str_bool a t' b
  | int b=>obtain ⟨t,rfl⟩:=rx;exact SeqAt.EqAt.str_int a t' b t
  | str b=>obtain ⟨t,rfl⟩:=rx;exact SeqAt.EqAt.str_str a t' b t
  | _=>exact absurd (show false=true from fx) ZV
 | _=>exact absurd (show false=true from fy) ZV
def Qj (x:V) (u:Value):Bool:=match u with
 | .none=>Gb .non x
 | .bool b=>Gb (.bl b) x
 | .int i _=>Gb (.int i) x
 | .str z _=>Gb (.str z) x
 | _=>false
theorem Kr {x y:V} {u:Value} (r:RelV y u) (f:jz y=true):Qj x u=Gb y x:=by
 cases y with
 | non=>cases r;rfl
 | bl b=>cases r;rfl
 | int i=>obtain ⟨t,rfl⟩:=r;rfl
 | str z=>obtain ⟨t,rfl⟩:=r;rfl
 | _=>exact absurd (show false=true from f) ZV
theorem zP {x:V}:∀ {xs:List V} {us:List Value},Vals xs us->xs.all jz=true->us.any (Qj x)=xs.any fun y=>Gb y x
 | _,_,.nil,_=>rfl
 | y :: xs,u :: us,.cons r t,f=>by
  rw [AaA,Z4] at f;rw [List.any_cons,List.any_cons,Kr r f.1,zP t f.2]
theorem xj {A:Around} {s:Shared} {x:V} {v:Value} (rx:RelV x v) (fx:jz x=true):∀ {xs:List V} {us:List Value},Vals xs us->xs.all jz=true->∀ u∈us,SeqAt.EqAt A s u v (Qj x u)
 | _,_,.nil,_=>fun u hu=>by cases hu
 | y :: xs,u :: us,.cons r t,f=>fun u' hu=>by
  rw [AaA,Z4] at f;rcases ZQ.mp hu with rfl | hu
  ·rw [Kr r f.1];exact uZ r rx f.1 fx
  ·exact xj rx fx t f.2 u' hu
def inV (x:V) (xs:List V):Bool:=xs.any fun y=>Gb y x
def rIn (K:W.Frag) (neg:Bool):R2:=fun x y H Q=>∃ p xs,y= .ref p/\(SqL K H p xs\/SqT K H p xs)/\jz x=true/\xs.all jz=true/\Q (.bl (if neg then !inV x xs else inV x xs)) H
theorem Hy:OpR X (compareOp .In) (rIn X.K false):=by
 intro pins s U H x y v u Q I rx ry h;obtain ⟨p,xs,rfl,hq,fx,fs,q⟩:=h;cases ry;rcases hq with hq | hq
 ·obtain ⟨its,r,pl,hz⟩:=I.list hq
  refine SeqAt.in_listAt (Qj x) pl.isList (fun w hw=>xj rx fx r fs w (by simpa using hw)) ⟨.bl _,H,I,rfl,?_⟩;rw [show its.toArray.any (Qj x)=its.any (Qj x) by simp,zP r fs];exact q
 ·obtain ⟨its,r,pl,hz⟩:=I.tuple hq
  refine SeqAt.in_tupleAt (Qj x) pl (fun w hw=>xj rx fx r fs w (by simpa using hw)) ⟨.bl _,H,I,rfl,?_⟩;rw [show its.toArray.any (Qj x)=its.any (Qj x) by simp,zP r fs];exact q
theorem CallR.or {f:Value} {r r':List V->Hp->VK->Prop} (h:CallR X f r) (h':CallR X f r'):CallR X f (fun xs H Q=>r xs H Q\/r' xs H Q):=by
 intro pins s U H xs us Q I rs q;rcases q with q | q
 ·exact h pins s U H xs us Q I rs q
 ·exact h' pins s U H xs us Q I rs q
theorem zQ:CallR X (.type "list") (fun xs H Q=>∃ p ys,xs=[.ref p]/\(SqL X.K H p ys\/SqT X.K H p ys)/\∀ l,H l=none->Q (.ref l) (upd H l (.lst ys))):=by
 intro pins s U H xs us Q I r h;obtain ⟨p,ys,rfl,hq,q⟩:=h;obtain ⟨u,rfl,rx⟩:=vals1 r;cases rx
 have fin:∀ (its:List Value),Vals ys its->ys.length<=sizeLine->∀ (h':Heap) (c':Nat),(∀ b o',s.heap.get? b=some o'->h'.get? b=some o')->
   h'.get? s.heap.objs.size=some {cls:=.type "list",dict:=none,data:=.seq its.toArray c',slots:=#[]}->EP X pins U Q (.ref s.heap.objs.size) {s with heap:=h'}:=fun its r' hz h' c' kp e=>
  ⟨.ref s.heap.objs.size,_,I.laid (t':=s.toks) kp (ZC _) (show ObjOk X.prog X.w _ h' _ (.lst ys) from ⟨hz,its,c',r',e⟩),rfl,q _ (I.hok.fresh (ZC _))⟩
 rcases hq with hq | hq
 ·obtain ⟨its,r',pl,hz⟩:=I.list hq
  have hlen:=r'.length;obtain ⟨o,ho,hc,n,hd⟩:=pl.isList;exact call_list_seq p (.inl rfl) ho hc hd (fun h' c' kp e=>fin its r' hz h' c' kp e) (by simp only [ZS] <;> omega)
 ·obtain ⟨its,r',pl,hz⟩:=I.tuple hq
  have hlen:=r'.length;obtain ⟨o,ho,hc,n,hd⟩:=pl;exact call_list_seq p (.inr rfl) ho hc hd (fun h' c' kp e=>fin its r' hz h' c' kp e) (by simp only [ZS] <;> omega)
def XD (K:W.Frag) (T:String) (x:V) (H:Hp):Prop:=match x with
 | .str _=>T="str"
 | .int _=>T="int"
 | .ref p=>(T="list"/\∃ xs,SqL K H p xs)\/(T="tuple"/\∃ o,K.lookup p=some o/\o.cls= .type "tuple"/\o.dict=none)\/
   (T="dict"/\((∃ kvs,H p=some (.dK kvs))\/∃ kvs,H p=some (.dT kvs)))\/(T="set"/\∃ S n,H p=some (.set S n))
 | _=>False
theorem Ku {pins:List (Addr×Obj)} {U:St} {H:Hp} {s:Shared} {T:String} {x:V} {v:Value} (I:Inv X pins U H s) (r:RelV x v) (ty:XD X.K T x H):
  s.TypeIs v T/\∀ a,v= .ref a->∃ ob,s.heap.get? a=some ob/\ob.dict=none:=by
 cases x with
 | str z=>
  obtain ⟨t,rfl⟩:=r;cases (show T="str" from ty);exact ⟨typeIs_str s z t,fun _ e=>nomatch e⟩
 | int i=>
  obtain ⟨t,rfl⟩:=r;cases (show T="int" from ty);exact ⟨typeIs_int s i t,fun _ e=>nomatch e⟩
 | ref p=>
  cases r;rcases ty with ⟨rfl,xs,hq⟩ | ⟨rfl,o,hk,hc,hd⟩ | ⟨rfl,hk⟩ | ⟨rfl,S,n,hk⟩
  ·obtain ⟨its,_,pl,_⟩:=I.list hq
   refine ⟨pl.isList.typeIs,fun a e=>?_⟩;cases e;obtain ⟨o,n,e,c,hd,_⟩:=pl;exact ⟨o,e,hd⟩
  ·refine ⟨⟨o,I.kIn p o hk,hc⟩,fun a e=>?_⟩
   cases e;exact ⟨o,I.kIn _ o hk,hd⟩
  ·have z:∃ o,s.heap.get? p=some o/\o.ExactDict:=by
    rcases hk with ⟨kvs,hk⟩ | ⟨kvs,hk⟩
    ·obtain ⟨_,_,_,_,o,_,_,e,ex,_⟩:=I.hok p _ hk
     exact ⟨o,e,ex⟩
    ·obtain ⟨_,_,_,_,o,_,_,e,ex,_⟩:=I.hok p _ hk
     exact ⟨o,e,ex⟩
   obtain ⟨o,e,ex⟩:=z;refine ⟨⟨o,e,ex.1⟩,fun a e2=>?_⟩;cases e2;exact ⟨o,e,ex.2.1⟩
  ·obtain ⟨o,_,_,_,e,ex,_⟩:=I.hok p _ hk
   refine ⟨⟨o,e,ex.1⟩,fun a e2=>?_⟩;cases e2;exact ⟨o,e,ex.2.1⟩
 | _=>exact False.elim ty
def Kv (K:W.Frag) (T:String) (r:V->List V->Hp->VK->Prop) (to:TE):TE:=fun U H Q=>to U H fun x H1=>XD K T x H1/\r x [] H1 Q
def XF (K:W.Frag) (T:String) (r:V->List V->Hp->VK->Prop) (to:TE) (t:TA):TE:=fun U H Q=>to U H fun x H1=>XD K T x H1/\t U H1 fun xs H2=>r x xs H2 Q
variable {o e:Expr} {es:List Expr} {to:TE} {t:TA} {name:Str} {apos cpos:Pos} {T id:String} {r:V->List V->Hp->VK->Prop}
theorem Vf (pa:PlainAttrs T) (slot:Slot T name id) (hty:typeOf (.builtin id)=pure (.type "method_descriptor")) (hm:Qg X id r) (ho:PE X o to)
  (hbase:autoParam (attributeBase o name X.env (eval o X.env)=eval o X.env) L2.auto4._auto_1) (hline:autoParam ((apos.endLine == cpos.line)=true) L2.auto4._auto_1):PE X (.Call (.Attribute o name apos) [] [] cpos) (Kv X.K T r to):=by
 intro pins s U H Q I h;refine wpAny_Call_method0_late hbase hline (fM (ho pins s U H _ I h) fun v s1 qq0=>?_);obtain ⟨x,H1,I1,r1,ty,q1⟩:=qq0;obtain ⟨h1,h2⟩:=Ku I1 r1 ty;exact ⟨T,id,pa,slot,hty,h1,h2,Calls.callWith_builtin rfl (PySem.evalArgs_none (hm pins s1 U H1 x [] v [] Q I1 r1 .nil q1))⟩
theorem XH (pa:PlainAttrs T) (slot:Slot T name id) (hty:typeOf (.builtin id)=pure (.type "method_descriptor")) (hm:Qg X id r) (ho:PE X o to) (ha:PA X (e :: es) t)
  (hbase:autoParam (attributeBase o name X.env (eval o X.env)=eval o X.env) L2.auto4._auto_1)
  (hfew:((backTo cpos (starEach (e :: es) X.env)).all (fun x=>!x.1) && (backToKw cpos (keywordEach [] X.env)).all (fun x=>x.1.isSome)
   && decide ((e :: es).length+([]:List Keyword).length+(if ([]:List Keyword).isEmpty then 0 else 1) < 30))=true:=by rfl)
  (hline:autoParam ((apos.endLine == cpos.line)=true) L2.auto4._auto_1) (hs:autoParam (starEach (e :: es) X.env=(false,eval e X.env) :: starEach es X.env) L2.auto4._auto_1) (hplain:autoParam ((backTo cpos (starEach es X.env)).any (·.1)=false) L2.auto4._auto_1):
  PE X (.Call (.Attribute o name apos) (e :: es) [] cpos) (XF X.K T r to t):=by
 intro pins s U H Q I h;refine wpAny_Call_method_late hbase hfew hline rfl (fM (ho pins s U H _ I h) fun v s1 qq0=>?_);obtain ⟨x,H1,I1,r1,ty,q1⟩:=qq0;obtain ⟨h1,h2⟩:=Ku I1 r1 ty;refine ⟨T,id,pa,slot,hty,h1,h2,?_⟩;have hA:=ha cpos pins s1 U H1 _ I1 q1;rw [hs] at hA ⊢;refine Calls.callWith_builtin (by show (false || (backTo cpos (starEach es X.env)).any (·.1))=false;rw [hplain] <;> rfl) (Calls.evalArgs_plain ?_);exact fM hA fun us s2 ⟨vs,H2,I2,r2,q2⟩=>hm pins s2 U H2 x vs v us Q I2 r1 r2 q2
end
def MtM (X:Cx) (id:String) (r:V->List V->Hp->VK->Prop):Prop:=
 ∀ (pins:List (Addr×Obj)) (s:Shared) (U:St) (H:Hp) (x:V) (xs:List V) (v:Value) (us:List Value) (Q:VK),Inv X pins U H s->RelV x v->Vals xs us->r x xs H Q->
  wpAny (model X.prog X.w) X.A (call (.builtin id) (v :: us)) (EP X pins U Q) X.xe s
theorem Vals.one:∀ {x:V} {us:List Value},Vals [x] us->∃ u,us=[u]/\RelV x u
 | _,_,.cons r .nil=>⟨_,rfl,r⟩
theorem Vals.zero:∀ {us:List Value},Vals [] us->us=[]
 | _,.nil=>rfl
theorem Vals.dropLast {xs:List V} {us:List Value} (h:Vals xs us):Vals xs.dropLast us.dropLast:=by
 induction h with
 | nil=>exact .nil
 | cons r t ih=>
  cases t with
  | nil=>exact .nil
  | cons q t'=>exact .cons r ih
theorem Vals.reverse {xs:List V} {us:List Value} (h:Vals xs us):Vals xs.reverse us.reverse:=by
 induction h with
 | nil=>exact .nil
 | cons r t ih=>rw [List.reverse_cons,List.reverse_cons];exact Vals.append ih (.cons r .nil)
theorem Vals.rep {xs:List V} {us:List Value} (h:Vals xs us):∀ k:Nat,Vals (List.replicate k xs).flatten (List.replicate k us).flatten
 | 0=>.nil
 | k+1=>by
  rw [AaB,AaB,AaQ,AaQ];exact Vals.append h (Vals.rep h k)
theorem DG {α:Type} (l:List α):l.eraseIdx (l.length - 1)=l.dropLast:=by
 induction l with
 | nil=>rfl
 | cons a r ih=>
  cases r with
  | nil=>rfl
  | cons b r=>
   have e:(a :: b :: r).length - 1=((b :: r).length - 1)+1:=by
    have h1:(a :: b :: r).length=r.length+2:=rfl;have h2:(b :: r).length=r.length+1:=rfl;omega
   rw [e,List.eraseIdx_cons_succ,ih];all_goals rfl
theorem foldl_rep (its:List Value):∀ (k:Nat) (acc:List Value),
  List.foldl (fun x1 x2=>x1 ++ x2) acc.toArray (List.replicate k its.toArray)=(acc ++ (List.replicate k its).flatten).toArray
 | 0,acc=>by simp
 | k+1,acc=>by
  have e:acc.toArray ++ its.toArray=(acc ++ its).toArray:=by simp
  have e2:(acc ++ its) ++ (List.replicate k its).flatten=acc ++ (List.replicate (k+1) its).flatten:=by
   rw [AaB,AaQ,AaF]
  rw [← e2,← foldl_rep its k (acc ++ its),← e,AaB,List.foldl_cons]
section
variable {X:Cx} {pins:List (Addr×Obj)} {U:St} {H:Hp} {s:Shared} {l b:Addr} {xs ys zs:List V}
theorem Inv.lset {its its':List Value} {n:Nat} {f:Array Value->Array Value} {t':Nat} (I:Inv X pins U H s) (hH:H l=some (.lst xs))
  (e:s.heap.get? l=some {cls:=.type "list",data:=.seq its.toArray n}) (hf:f its.toArray=its'.toArray) (hv:Vals ys its') (hz:ys.length<=sizeLine):
  Inv X pins U (upd H l (.lst ys)) {s with heap:=s.heap.update l (Obj.mapSeq f),toks:=t'}:=by
 have q:=PySem.IsL.update e f;rw [hf] at q;refine I.write (x:=l) (e:=l) (by rw [hH];exact trivial) (.inl rfl) (fun b' u hb hu=>(Aal s.heap (Obj.mapSeq f) (Ne.symm hb)).trans hu) ⟨_,q⟩ ?_;exact ⟨hz,its',_,hv,q⟩
theorem Inv.lnew {its:List Value} {t':Nat} (I:Inv X pins U H s) (hv:Vals ys its) (hz:ys.length<=sizeLine):
  Inv X pins U (upd H s.heap.objs.size (.lst ys)) {s with heap:=s.heap.push {cls:=.type "list",data:=.seq its.toArray},toks:=t'}:=
 I.laid (fun _ _ q=>Zz _ q) (ZC _) ⟨hz,its,0,hv,ZP _ rfl⟩
theorem Inv.fresh (I:Inv X pins U H s):H s.heap.objs.size=none:=I.hok.fresh (ZC _)
theorem Inv.lstM (I:Inv X pins U H s) (hH:H l=some (.lst xs)):xs.length<=sizeLine/\∃ (its:List Value) (n:Nat),Vals xs its/\xs.length=its.length/\s.heap.get? l=some {cls:=.type "list",data:=.seq its.toArray n}:=by
 obtain ⟨z,its,n,r,e⟩:=I.hok l _ hH;exact ⟨z,its,n,r,r.length,e⟩
theorem Kw {n:Nat} (h:n<=sizeLine):Builtin.List.listTooLong n=false:=by
 unfold Builtin.List.listTooLong;exact ZD (by omega)
end
section
variable {X:Cx}
def Ge:V->List V->Hp->VK->Prop:=fun x vs H Q=>∃ l xs y,x= .ref l/\vs=[y]/\H l=some (.lst xs)/\xs.length < sizeLine/\Q .non (upd H l (.lst (xs ++ [y])))
theorem cF:MtM X "list.append" Ge:=by
 intro pins s U H x vs v us Q I rx rv h;obtain ⟨l,xs,y,rfl,rfl,hH,hz,q⟩:=h;cases rx;obtain ⟨u,rfl,ru⟩:=rv.one;obtain ⟨z,its,n,r,hl,e⟩:=I.lstM hH;refine call_meets F.slot_list_append ⟨_,e,rfl⟩ F.entry_list_append (F.args_list_append_2 _ _) (PySem.list_append l its.toArray n u (by rw [ZS];omega)) ⟨e,?_⟩;refine ⟨.non,_,I.lset (its':=its ++ [u]) hH e (by simp) (r.append (.cons ru .nil)) ?_,rfl,q⟩;rw [Z8,List.length_singleton];omega
def rPop:V->List V->Hp->VK->Prop:=fun x vs H Q=>∃ l xs y,x= .ref l/\vs=[]/\H l=some (.lst xs)/\xs[xs.length - 1]?=some y/\Q y (upd H l (.lst xs.dropLast))
theorem Vg:MtM X "list.pop" rPop:=by
 intro pins s U H x vs v us Q I rx rv h;obtain ⟨l,xs,y,rfl,rfl,hH,hy,q⟩:=h;cases rx;have hus:=rv.zero;subst hus;obtain ⟨z,its,n,r,hl,e⟩:=I.lstM hH;obtain ⟨u,hu,ru⟩:=r.get hy
 have hy':its.toArray[its.toArray.size - 1]?=some u:=by
  show its.toArray[its.length - 1]?=some u;rw [← Array.getElem?_toList,← hl];exact hu
 refine call_meets F.slot_list_pop ⟨_,e,rfl⟩ F.entry_list_pop (F.args_list_pop_1 _) (MeetsSeq.list_pop_last l its.toArray n u hy' (by rw [ZS];omega)) ⟨e,?_⟩;refine ⟨y,_,I.lset (its':=its.dropLast) hH e ?_ r.dropLast ?_,ru,q⟩
 ·show its.toArray.eraseIdxIfInBounds (its.toArray.size - 1)=its.dropLast.toArray
  rw [ZS,List.eraseIdxIfInBounds_toArray,DG]
 ·rw [List.length_dropLast]
  omega
def XJ:R2:=fun x y H Q=>∃ l b xs zs,x= .ref l/\y= .ref b/\H l=some (.lst xs)/\H b=some (.lst zs)/\xs.length+zs.length<=sizeLine/\∀ p,H p=none->Q (.ref p) (upd H p (.lst (xs ++ zs)))
theorem Vh:OpR X (binaryOp .Add) XJ:=by
 intro pins s U H x y v u Q I rx ry h;obtain ⟨l,b,xs,zs,rfl,rfl,hH,hB,hz,q⟩:=h;cases rx;cases ry;obtain ⟨z,its,n,r,hl,e⟩:=I.lstM hH;obtain ⟨z2,its2,n2,r2,hl2,e2⟩:=I.lstM hB;refine PySem.P.add_list e e2 ?_ (by rw [ZS,ZS];omega);have ea:its.toArray ++ its2.toArray=(its ++ its2).toArray:=by simp
 rw [ea];exact ⟨.ref _,_,I.lnew (t':=s.toks) (r.append r2) (by rw [Z8];omega),rfl,q _ I.fresh⟩
def XM:R2:=fun x y H Q=>∃ l k xs,x= .ref l/\y= .int k/\H l=some (.lst xs)/\-(2 ^ 63)<=k/\k < 2 ^ 63/\xs.length*k.toNat<=sizeLine/\
 ∀ p,H p=none->Q (.ref p) (upd H p (.lst (List.replicate k.toNat xs).flatten))
theorem len_rep {α:Type} (xs:List α) (k:Nat):(List.replicate k xs).flatten.length=k*xs.length:=by
 induction k with
 | zero=>simp
 | succ k ih=>rw [AaB,AaQ,Z8,ih,Nat.succ_mul,Nat.add_comm]
theorem Vi:OpR X (binaryOp .Mult) XM:=by
 intro pins s U H x y v u Q I rx ry h;obtain ⟨l,k,xs,rfl,rfl,hH,h1,h2,hz,q⟩:=h;cases rx;obtain ⟨t,rfl⟩:=ry;obtain ⟨z,its,n,r,hl,e⟩:=I.lstM hH;have hlen:its.toArray.size*k.toNat<=sizeLine:=by rw [ZS,← hl];exact hz
 have hcap:¬ its.toArray.size*k.toNat > (2 ^ 63 - 1) / 8:=by
  have:(sizeLine:Nat)<=(2 ^ 63 - 1) / 8:=by decide
  omega
 have hfit:¬ (!Builtin.List.listFitsIndex k)=true:=by
  rw [fitsIndex_both h1 h2];exact ZV
 have hlong:¬ Builtin.List.listTooLong (its.toArray.size*k.toNat)=true:=by
  rw [Kw hlen];exact ZV
 have hnew:List.foldl (fun x1 x2=>x1 ++ x2) #[] (List.replicate (if its.toArray.isEmpty=true then 0 else k.toNat) its.toArray)=(List.replicate k.toNat its).flatten.toArray:=by
  have f0:∀ m:Nat,List.foldl (fun x1 x2=>x1 ++ x2) #[] (List.replicate m its.toArray)=(List.replicate m its).flatten.toArray:=fun m=>by
   have:=foldl_rep its m [];rw [Aba] at this;exact this
  rw [f0];cases its with
  | nil=>simp
  | cons a r'=>rw [if_neg (by simp)]
 refine wpAny_binaryOp_repeat_ref (T:="list") (U:="int") (by decide) ⟨_,e,rfl⟩ (fun s'=>typeIs_int s' k t) noFill_list_mul F.fills_int_mul F.slot_int_rmul repeat_list F.slot_int_index.lookup
  (call_meets F.slot_int_rmul (typeIs_int s k t) F.entry_int_rmul (F.args_int_rmul_2 _ _) (int___rmul___int_list k t l its.toArray n)
   ⟨e,rfl,⟨_,e,rfl⟩,call_meets F.slot_list_mul ⟨_,e,rfl⟩ F.entry_list_mul (F.args_list_mul_2 _ _) (AutoListH.list___mul___list_int_3 l its.toArray n k t hfit hcap hlong) ⟨e,?_⟩⟩)
 rw [hnew];exact ⟨.ref _,_,I.lnew (t':=s.toks) (r.rep k.toNat) (by rw [len_rep,Nat.mul_comm];exact hz),rfl,q _ I.fresh⟩
end
end L2
namespace Att
open PySem PySem.W PySem.Calls PyProof.Rows
theorem v5 {P:Params} {h:Heap}:∀ (ns:List Int) (vs:List Value),WellAll P h vs (ns.map WData.int)->IntsAre vs ns:=by
 intro ns
 induction ns with
 | nil=>
  intro vs w;rw [List.map_nil] at w;cases w;exact .nil
 | cons n ns ih=>
  intro vs w;rw [Aaj] at w;cases w with
  | cons a b=>
   cases a;exact .cons _ _ (ih _ b)
theorem Hz {l:OpenLaw} {n:Nat} (hn:l.most=some n) {P:Params} {h:Heap} {args:List WData} {vals:List Value}
  (hpre:l.row.toRowW.claim.pre args=true) (hwl:WellAll P h vals args):
  ∃ a vs ns,vals=[Value.ref a]/\args=[WData.list (ns.map WData.int)]/\h.get? a=some {cls:=.type "list",data:=.seq vs.toArray}/\IntsAre vs ns/\ns.length<=n:=by
 have hsh:WShape.hasAll [] args [.list .int]=true:=(pre_splitW hpre).1;have hc:l.pre.holds [] {args:=args}=true:=(pre_splitW hpre).2;obtain ⟨d,r,rfl,h1,h2⟩:=hasAllW_cons hsh;obtain rfl:=hasAllW_nil h2;obtain ⟨xs,rfl,h3⟩:=hasW_list h1;obtain ⟨ns,rfl⟩:=items_int h3
 have hlen:ns.length<=n:=by
  unfold OpenLaw.pre at hc
  have h4:(WTm.not (.lt (.lit (.int (n:Int))) (.len (.arg 0)))).holds [] {args:=[.list (ns.map .int)]}=true:=by
   have h4:=(holds_andW hc).1;rw [hn] at h4;exact h4
  have h5:=condW_of h4 (w_not (w_lt w_lit (w_len_list (w_arg rfl))));rw [ZJ] at h5;refine Nat.le_of_not_lt fun q=>?_
  have q':(n:Int) < ((ns.length:Nat):Int):=by omega
  first
   | (rw [ZK q'] at h5;exact absurd h5 (by decide))
   | (simp at h5;omega)
 cases hwl with
 | cons w1 w2=>
  cases w2;cases w1 with
  | list ho hall=>exact ⟨_,_,ns,rfl,rfl,ho,v5 ns _ hall,hlen⟩
theorem HB (l:OpenLaw) (args:List WData):l.row.toRowW.claim.post args (.bool true) args=true:=
 postW_of (r:=l.row.toRowW) (X:=(true == true))
  (show WShape.has [] (.bool true) .bool=true by first | rfl | decide | simp [WShape.has,WShape.arms,WShape.armsAll])
  (show (WTm.eq .res (.lit (.bool true))).value [] {args:=args,res:=some (.bool true),after:=args}=some (.bool (true == true)) from w_eq_bool (w_res rfl) w_lit) rfl
theorem attach_call {l:OpenLaw} {n:Nat} {q:Program} {loose:List Str} {XP:(Str->Option Value)->Heap->Prop} {YP:World->Heap->Prop} {d:DefRec}
  (hn:l.most=some n) (hdf:d.params.defaults=[])
  (call:∀ (w:World) (s₀ s₁:Shared) (mg mb:Str->Option Value) (fa:Addr) (o:Obj) (pm cd doc:Value) (a:Addr) (vs:List Value) (ns:List Int),
   Ground q loose [] XP w s₀ mg mb s₁.heap->YP w s₁.heap->
   s₁.heap.get? fa=some o->o.data= .func (docDef d.name d.params d.body d.scope pm cd doc)->s₁.heap.CodeRec cd d.name->mg d.name=some (.ref fa)->
   s₁.heap.get? a=some {cls:=.type "list",data:=.seq vs.toArray}->IntsAre vs ns->ns.length<=n->s₁.gens= #[]->
   codeAny (model l.prog w) callerA (.call (.ref fa) ⟨[.ref a],[]⟩) (fun r s'=>r= .ok (.ret (.bool true))/\OldK s₁.heap s'.heap/\s'.os=s₁.os/\AllBare s'.gens) s₁):
  WalkO q loose XP YP l.row.toRowW d [] (fun f vs=>PySem.call f vs):=by
 intro w s₀ s₁ mg mb G Y fa o pm cd doc dV kV ho hd hcd hD hmg hg args vals as hpre hlay hrd hwl hlo;obtain rfl:dV= .none:=Dflts.none hD hdf;obtain rfl:kV= .none:=Dflts.noKw hD;obtain ⟨a,vs,ns,rfl,rfl,hobj,hints,hlen⟩:=Hz hn hpre hwl;refine enter_call (codeAny_mono (call w s₀ s₁ mg mb fa o pm cd doc a vs ns G Y ho (fd_plain hd) hcd hmg hobj hints hlen hg) fun r s' hq=>?_);obtain ⟨rfl,h2,h3,h4⟩:=hq;exact ⟨.inl ⟨.bool true,.bool true,[],rfl,fun _=>rfl,.bool true,HB l _,fun _=>⟨List.Pairwise.nil,fun _ hm=>(nomatch hm)⟩⟩,h2,h3,h4⟩
end Att
namespace L2
open PySem PySem.Spec PyProof.Rows
theorem za:∀ {vs:List Value} {ns:List Int},IntsAre vs ns->Vals (ns.map V.int) vs
 | _,_,.nil=>.nil
 | _,_,.cons n t h=>.cons ⟨t,rfl⟩ (za h)
def Only (H:Hp):Prop:=∀ b,H b=none\/∃ o xs,H b=some (.frz o (.lst xs))
theorem Ky {P:Program} {w:World} {K:W.Frag} {mg mb:Str->Option Value} {CX:Hu} {k:Nat} {fa a:Addr} {fd:FuncData} {x:Str} {sp:Sp} {s₁:Shared} {vs:List Value} {ns:List Int}
  (KX:K.In s₁.heap) (hns:s₁.heap.Ns mainGlobals mg) (hb:s₁.heap.Ns builtinsNs mb) (hbb:∀ x:Str,x≠"__name__"->mb x=bootBuiltins x) (hlim:s₁.heap.NoLimit) (hsm:∃ mm,s₁.heap.Ns sysModules mm) (hbm:∃ bm ob,mg "__builtins__"=some (.ref bm)/\bm≠builtinsNs/\s₁.heap.get? bm=some ob/\ob.cls= .type "module"/\ob.dict=some builtinsNs/\ob.data= .plain) (hg:s₁.gens= #[])
  (ha:s₁.heap.get? a=some {cls:=.type "list",data:=.seq vs.toArray}) (hi:IntsAre vs ns) (hl:ns.length<=sizeLine) (hr:Room k callerA)
  (F:∀ base:Heap,K.In base->base.Ns mainGlobals mg->FnOk P w K mg base CX k fa fd [x] sp) (hbind:∀ (s:Shared) (u:Value),BindsTo s fd ⟨[u],[]⟩ [(x,u)])
  (hsp:∀ H:Hp,Only H->SqL K H a (ns.map V.int)->sp [.ref a] H (fun v _=>v= .bl true) fun _ _ _=>False)
  (hCX:∀ H e s',CX [] H s₁ (fun _ _ _=>False) e s'->False):
  codeAny (model P w) callerA (.call (.ref fa) ⟨[.ref a],[]⟩) (fun r s'=>r= .ok (.ret (.bool true))/\OldK s₁.heap s'.heap/\s'.os=s₁.os/\AllBare s'.gens) s₁:=by
 have rv:=za hi;have lenV:=hi.length
 have core:∀ H:Hp,Only H->SqL K H a (ns.map V.int)->HOk P w H s₁.heap->(∀ b,H b≠none->b=a)->(H a≠none->K.lookup a=none)->
   codeAny (model P w) callerA (.call (.ref fa) ⟨[.ref a],[]⟩) (fun r s'=>r= .ok (.ret (.bool true))/\OldK s₁.heap s'.heap/\s'.os=s₁.os/\AllBare s'.gens) s₁:=by
  intro H hO hS hok hA hK;have base_of:∀ {b:Addr} {o:Obj},s₁.heap.get? b=some o->H b=none->(zH s₁.heap H).get? b=some o:=fun e n=>Jy e n
  have noA:∀ {b:Addr} {o:Obj} {es:Array DictEntry} {ep:Nat},s₁.heap.get? b=some o->o.data= .dict es ep->H b=none:=fun {b o es ep} e d=>by
   cases q:H b with
   | none=>rfl
   | some u=>
    have e':b=a:=hA b (by rw [q];simp);subst e';rw [ha] at e;cases e;have d':Data.seq vs.toArray _=Data.dict es ep:=d;cases d'
  have noM:∀ {b:Addr} {o:Obj},s₁.heap.get? b=some o->o.cls= .type "module"->H b=none:=fun {b o} e d=>by
   cases q:H b with
   | none=>rfl
   | some u=>
    have e':b=a:=hA b (by rw [q];simp);subst e';rw [ha] at e;cases e;exact absurd (show (Value.type "list":Value)= .type "module" from d) (fun z=>absurd (Value.type.inj z) (by decide))
  have nsK:∀ {b:Addr} {m:Str->Option Value},s₁.heap.Ns b m->(zH s₁.heap H).Ns b m:=fun {b m} ⟨o,es,ep,e,d,r⟩=>⟨o,es,ep,base_of e (noA e d),d,r⟩
  have hKb:K.In (zH s₁.heap H):=fun b o e=>base_of (KX b o e) (by
   cases q:H b with
   | none=>rfl
   | some u=>
    have e':b=a:=hA b (by rw [q];simp);subst e';rw [hK (by rw [q];simp)] at e;cases e)
  have hM:Mod K mg (zH s₁.heap H):=⟨hKb,nsK hns,⟨mb,nsK hb,hbb⟩,(let ⟨mc,h1,h2⟩:=hlim;⟨mc,nsK h1,h2⟩),(let ⟨mm,h1⟩:=hsm;⟨mm,nsK h1⟩),let ⟨bm,ob,b1,b2,b3,b4,b5⟩:=hbm;⟨bm,ob,b1,b2,base_of b3 (noM b3 b4),b4,b5⟩⟩;have e0:Env0 P w K mg (zH s₁.heap H) callerA [] s₁ H:=⟨rfl,hM,fun b o e=>O5 e,AaP (Hh _ _),trivial,fun b hb=>absurd (show b∈([]:List Addr) from hb) (by simp),hok,.of_eq hg⟩;refine codeAny_mono ((F _ hKb (nsK hns)).run callerA [] s₁ H ⟨[.ref a],[]⟩ [.ref a] [.ref a] _ _ hr e0 (hbind s₁ (.ref a)) (.cons rfl .nil) (hsp H hO hS)) fun r s' h=>?_
  cases r with
  | error e=>exact (hCX H e s' h).elim
  | ok fl=>
   cases fl with
   | next=>exact False.elim h
   | brk=>exact False.elim h
   | cont=>exact False.elim h
   | ret u=>
    obtain ⟨v,H',os,bare,un,hok',r',q⟩:=h;have q':v= .bl true:=q;subst q';obtain rfl:u=Value.bool true:=r';refine ⟨rfl,OldK.of_keep fun b o e=>?_,os,bare⟩;cases q:H b with
    | none=>exact un.keep b o e q (by intro z;exact absurd (show b∈([]:List Addr) from z) (by simp)) (by simp)
    | some u=>
     rcases hO b with z | ⟨ob,xs,z⟩
     ·rw [q] at z;cases z
     ·have z2:=un.frzs b ob _ z
      obtain ⟨e1,_⟩:=hok b _ z;obtain ⟨e2,_⟩:=hok' b _ z2;rw [e] at e1;cases e1;exact e2
 cases hk:K.lookup a with
 | some o=>
  have e:=KX a o hk;rw [ha] at e;cases e;refine core (fun _=>none) (fun _=>.inl rfl) (.inr ⟨_,vs.toArray,_,hk,rfl,rfl,rfl,by rw [ZS,lenV];exact hl,by simpa using rv⟩) (fun b u z=>by have z':(none:Option HO)=some u:=z;cases z') (fun b z=>absurd rfl z) fun z=>absurd rfl z
 | none=>
  refine core (fun b=>if b=a then some (.frz {cls:=.type "list",data:=.seq vs.toArray} (.lst (ns.map V.int))) else none) (fun b=>?_) (.inl (.inr ⟨{cls:=.type "list",data:=.seq vs.toArray},if_pos rfl⟩)) (fun b u z=>?_) (fun b z=>?_) fun _=>hk
  ·by_cases hb:b=a
   ·exact .inr ⟨_,_,if_pos hb⟩
   ·exact .inl (if_neg hb)
  ·by_cases hb:b=a
   ·have z':=(if_pos hb).symm.trans z
    cases z';subst hb;exact ⟨ha,by rw [ZJ];exact hl,vs,_,rv,ha⟩
   ·have z':=(if_neg hb).symm.trans z
    cases z'
  ·by_cases hb:b=a
   ·exact hb
   ·exact absurd (if_neg hb) z
abbrev KOf {K:W.Frag} {h:Heap} (_:K.In h):W.Frag:=K
theorem Qk {l:PySem.W.OpenLaw} {n k:Nat} {q:Program} {loose:List Str} {XP:(Str->Option Value)->Heap->Prop} {YP:World->Heap->Prop} {d:DefRec} {K:Params->W.Frag} {CX:World->Hu} {sp:World->Sp} {x:Str}
  (hn:l.most=some n) (hn2:n<=sizeLine) (hdf:d.params.defaults=[]) (hr:Room k callerA)
  (hY:∀ (w:World) (h:Heap),YP w h->(K w.params).In h)
  (F:∀ (w:World) (mg:Str->Option Value) (fa:Addr) (h:Heap),(K w.params).In h->h.Ns mainGlobals mg->mg d.name=some (.ref fa)->
   ∃ fd:FuncData,(∀ (s:Shared) (u:Value),BindsTo s fd ⟨[u],[]⟩ [(x,u)])/\
    ∀ base:Heap,(K w.params).In base->base.Ns mainGlobals mg->FnOk l.prog w (K w.params) mg base (CX w) k fa fd [x] (sp w))
  (hsp:∀ (w:World) (H:Hp) (a:Addr) (ns:List Int),ns.length<=n->Only H->SqL (K w.params) H a (ns.map V.int)->sp w [.ref a] H (fun v _=>v= .bl true) fun _ _ _=>False)
  (hCX:∀ (w:World) (H:Hp) (s:Shared) (e:Value) (s':Shared),CX w [] H s (fun _ _ _=>False) e s'->False) (him:importsNone q=true):
  PySem.W.WalkO q loose XP YP l.row.toRowW d [] (fun f vs=>PySem.call f vs):=by
 refine Att.attach_call hn hdf fun w s₀ s₁ mg mb fa o pm cd doc a vs ns G Y ho hd hcd hmg hobj hints hlen hg=>?_
 have KX:=hY w _ Y;obtain ⟨fd,hb,hF⟩:=F w mg fa _ KX G.T.g hmg;exact Ky KX G.T.g G.T.b G.T.builtins G.T.nolimit (let ⟨mm,h1,_⟩:=(G.T.seer him).mods;⟨mm,h1⟩) G.T.bmain hg hobj hints (ZG hlen hn2) hr hF hb (fun H hO hS=>hsp w H a ns hlen hO hS) fun H e s'=>hCX w H s₁ e s'
def iz (s:Stmt):Arguments:=match s with
 | .FunctionDef _ a _ _ _ _ _ _ _ _=>a
 | _=>{posonlyargs:=[],args:=[],vararg:=none,kwonlyargs:=[],kw_defaults:=[],kwarg:=none,defaults:=[]}
def cM (s:Stmt):List Stmt:=match s with
 | .FunctionDef _ _ b _ _ _ _ _ _ _=>b
 | _=>[]
def az (s:Stmt):Scope:=match s with
 | .FunctionDef _ _ _ _ _ _ sc _ _ _=>sc
 | _=>{kind:=.function,names:=[],isGenerator:=false,isCoroutine:=false}
abbrev HD:Hu:=fun _ _ _ _ _ _=>False
abbrev E0:XK:=fun _ _ _=>False
theorem XN {X:Cx}:Du HD X E0:=fun _ _ _ _ _ _ _ h=>h.elim
structure Fun (K:W.Frag) (x qual:Str) (st:Stmt) (f:Addr) (fd:FuncData):Prop where
 ex:∃ (oc:Value) (od:Option Addr) (kV doc pm:Value) (an:Option Addr) (cdv ct:Value) (osl:Array (Option Value)),
  fd=PySem.W.fnOf x qual (iz st) (cM st) (az st) .none kV doc pm an cdv ct/\K.lookup f=some ⟨oc,od,.func fd,osl⟩/\PySem.W.codeIn K cdv qual=true
 kp:PySem.W.keepIn K (.ref f)=true
section
variable {P:Program} {w:World} {K:W.Frag} {mg:Str->Option Value} {base:Heap}
theorem Fun.ok {x qual:Str} {st:Stmt} {f:Addr} {fd:FuncData} {N ps:List Str} {k:Nat} {sp:Sp} (F:Fun K x qual st f fd) (S:aD N ps (az st)) (len:∀ vs H Q E,sp vs H Q E->vs.length=ps.length)
  (hbody:∀ (cdv:Value) (A:Around) (outer:List Env) (s:Shared) (H:Hp) (vs:List V) (Q:VK) (E:XK),Room k (A.deeper (envOfC qual (az st) s.heap.objs.size f cdv))->sp vs H Q E->
   ∃ t,PSs (rQ HD P w K mg base N qual (az st) f cdv A outer s H E).nox (cM st) t/\t {nx:=fun _ H'=>Q .non H',rt:=Q} (start N vs) H):FnOk P w K mg base HD (k+1) f fd ps sp:=by
 obtain ⟨oc,od,kV,doc,pm,an,cdv,ct,osl,rfl,lk,hcd⟩:=F.ex;refine Kg lk hcd S len fun A outer s H vs Q E hr hsp=>?_
 obtain ⟨t,h,q⟩:=hbody cdv A outer s H vs Q E hr hsp;exact ⟨t,h.nox,q⟩
theorem Fun.binds {x qual:Str} {st:Stmt} {f:Addr} {fd:FuncData} {ps:List Str} (F:Fun K x qual st f fd)
  (h:∀ (kV doc pm:Value) (an:Option Addr) (cdv ct:Value) (us:List Value),us.length=ps.length->bindArgs (PySem.W.fnOf x qual (iz st) (cM st) (az st) .none kV doc pm an cdv ct) ⟨us,[]⟩=pure (ps.zip us)):Binds K fd ps []:=by
 obtain ⟨oc,od,kV,doc,pm,an,cdv,ct,osl,rfl,lk,hcd⟩:=F.ex;exact .all (h kV doc pm an cdv ct)
theorem DK {x qual:Str} {st:Stmt} {f:Addr} {oc:Value} {od an:Option Addr} {osl:Array (Option Value)} {kV doc pm cdv ct:Value} (l:K.lookup f=some ⟨oc,od,.func (PySem.W.fnOf x qual (iz st) (cM st) (az st) .none kV doc pm an cdv ct),osl⟩)
  (c:PySem.W.codeIn K cdv qual=true) (k:PySem.W.keepIn K (.ref f)=true):Fun K x qual st f (PySem.W.fnOf x qual (iz st) (cM st) (az st) .none kV doc pm an cdv ct):=⟨⟨oc,od,kV,doc,pm,an,cdv,ct,osl,rfl,l,c⟩,k⟩
end
theorem jW {A B:Prop} (h:B):if false=true then A else B:=by
 rw [if_neg ZV];exact h
theorem j0 {A B:Prop} (h:A):if true=true then A else B:=by
 rw [if_pos rfl];exact h
def Same (H H':Hp):Prop:=∀ b o,H b=some o->H' b=some o
theorem Same.refl (H:Hp):Same H H:=fun _ _ h=>h
theorem Same.trans {H H1 H2:Hp} (a:Same H H1) (b:Same H1 H2):Same H H2:=fun c o h=>b c o (a c o h)
theorem Same.free {H H':Hp} (e:Same H H') {l:Addr} (h:H' l=Option.none):H l=Option.none:=by
 cases q:H l with
 | none=>rfl
 | some o=>
  rw [e l o q] at h;cases h
theorem Same.seq {K:W.Frag} {H H':Hp} {a:Addr} {xs:List V} (e:Same H H') (h:SqL K H a xs):SqL K H' a xs:=by
 rcases h with (h | ⟨o,h⟩) | h
 ·exact .inl (.inl (e _ _ h))
 ·exact .inl (.inr ⟨o,e _ _ h⟩)
 ·exact .inr h
end L2
set_option maxHeartbeats 4000000
namespace L2
open PySem PySem.Spec PyProof.Rows
def v6 (env:Env):List (Str×NameKind)->List (Str×Addr)->List (Str×Addr)
 | [],acc=>acc
 | (n,k) :: r,acc=>v6 env r (if k == .free then (match env.cells.lookup n with | some c=>(n,c) :: acc | none=>acc) else acc)
theorem xm {env:Env}:∀ {names:List (Str×NameKind)} {acc:List (Str×Addr)},(∀ x c,(x,c)∈acc->env.cells.lookup x=some c)->∀ x c,(x,c)∈v6 env names acc->env.cells.lookup x=some c
 | [],_,h,x,c,m=>h x c m
 | (n,k) :: r,acc,h,x,c,m=>by
  refine xm (names:=r) ?_ x c m;intro y d hm;cases hk:(k == NameKind.free) with
  | false=>rw [hk] at hm;exact h y d hm
  | true=>
   rw [hk] at hm;simp only [if_true] at hm;cases e:env.cells.lookup n with
   | none=>rw [e] at hm;exact h y d hm
   | some c'=>
    rw [e] at hm;rcases ZQ.mp hm with z | z
    ·cases z;exact e
    ·exact h y d z
theorem Bp {env:Env}:∀ {names:List (Str×NameKind)} {acc:List (Str×Addr)} {p:Str×Addr},p∈acc->p∈v6 env names acc
 | [],_,_,h=>h
 | (n,k) :: r,acc,p,h=>by
  refine Bp (names:=r) ?_
  split
  ·split
   ·exact ZZ _ h
   ·exact h
  ·exact h
theorem xn {env:Env} {x:Str} {c:Addr} (e:env.cells.lookup x=some c):∀ {names:List (Str×NameKind)} {acc:List (Str×Addr)},(x,NameKind.free)∈names->(x,c)∈v6 env names acc
 | [],_,h=>by simp at h
 | (n,k) :: r,acc,h=>by
  rcases ZQ.mp h with z | z
  ·cases z
   refine Bp (names:=r) ?_;rw [e];simp
  ·exact xn e (names:=r) z
theorem yF {l:List (Str×Addr)} {x:Str} {c:Addr} (hm:(x,c)∈l) (ha:∀ d,(x,d)∈l->d=c):l.lookup x=some c:=by
 induction l with
 | nil=>simp at hm
 | cons p r ih=>
  obtain ⟨n,d⟩:=p;by_cases e:x=n
  ·subst e
   have:d=c:=ha d (by simp);subst this;simp [Aag]
  ·have hb:(x == n)=false:=by simpa using e
   rw [Aag,hb];refine ih ?_ fun d' h'=>ha d' (ZZ _ h')
   rcases ZQ.mp hm with z | z
   ·cases z;exact absurd rfl e
   ·exact z
theorem Bq {env:Env} {names:List (Str×NameKind)} {x:Str} {c:Addr} (e:env.cells.lookup x=some c) (h:(x,NameKind.free)∈names):(v6 env names []).lookup x=some c:=
 yF (xn e h) fun d hd=>by
  have q:=xm (names:=names) (acc:=[]) (env:=env) (by simp) x d hd;rw [e] at q;exact (Z2 q).symm
theorem HF {env:Env} {names:List (Str×NameKind)} {x:Str} {c:Addr} (e:(v6 env names []).lookup x=some c):env.cells.lookup x=some c:=
 xm (names:=names) (acc:=[]) (env:=env) (by simp) x c (Aax e)
theorem rR {env:Env}:∀ (names:List (Str×NameKind)) (acc:List (Str×Addr)),(∀ x∈names,x.2=NameKind.free->∃ c,env.cells.lookup x.1=some c)->
  (forIn (m:=Sem) names acc fun x r=>match x with
   | (name,kind)=>if (kind == NameKind.free)=true then do let c ← cellOf env name;pure (ForInStep.yield ((name,c) :: r)) else pure (ForInStep.yield r))=pure (v6 env names acc)
 | [],acc,_=>rfl
 | (n,k) :: r,acc,h=>by
  rw [List.forIn_cons];cases hk:(k == NameKind.free) with
  | false=>
   simp only [hk,Bool.false_eq_true,if_false,pure_bind,v6];exact rR r acc fun x hx=>h x (ZZ _ hx)
  | true=>
   obtain ⟨c,e⟩:=h (n,k) Aak (by simpa using hk);simp only [hk,if_true,pure_bind,v6,cellOf,e];exact rR r ((n,c) :: acc) fun x hx=>h x (ZZ _ hx)
theorem yG {scope:Scope} {env:Env} (h:∀ x∈scope.names,x.2=NameKind.free->∃ c,env.cells.lookup x.1=some c):closureFor scope env=pure (v6 env scope.names []):=by
 unfold closureFor;have:=rR (env:=env) scope.names [] h;simp only [this,pure_bind]
theorem HH {prog:Program} {w:World} {A:Around} {R:Result->Shared->Prop} {s:Shared} {elt target iter:Expr} {ifs:List Expr} {scope:Scope} {pos:Pos} {it acc:Value} {env:Env} (I:Nat->Shared->Prop)
  (turn:∀ n s,I n s->wpAny (model prog w) A (pyNext it) (fun r s₁=>match r with
   | none=>R (.ok .next) s₁
   | some v=>wpAny (model prog w) A (letOwnedTupleGo target it v) (fun _ s₁'=>wpAny (model prog w) A (assign target env v) (fun _ s₂=>
     wpAny (model prog w) A (forIn ifs true fun c r=>if r=true then do let ok ← isTrue c env (eval c env);pure (ForInStep.yield ok) else pure (ForInStep.yield r)) (fun ok s₃=>
      if ok=true then wpAny (model prog w) A (eval elt env) (fun x s₄=>
       wpAny (model prog w) A (call (.builtin "list.append") [acc,x]) (fun _ s₅=>∃ m,m < n/\I m s₅) (fun _ _=>False) s₄) (fun _ _=>False) s₃
      else ∃ m,m < n/\I m s₃) (fun _ _=>False) s₂) (fun _ _=>False) s₁') (fun _ _=>False) s₁) (fun _ _=>False) s)
  (n:Nat) (h:I n s):
  codeAny (model prog w) A (.compLoop (.ListComp elt [⟨target,iter,ifs,0⟩] scope pos) 0 it acc env) R s:=by
 refine codeAny_loop rfl I (fun n s hI=>?_) n h;show wpAny _ A ((compTurn (.ListComp elt [⟨target,iter,ifs,0⟩] scope pos) 0 it acc env).onRaise (fun x=>do noteFrame x env;theTreesLotGoes x)) _ _ s;refine wpAny_noted ?_;rw [compTurn_list];refine Zu (AbF (Zu (AaO (turn n s hI) (fun r s₁ h₁=>?_) fun _ _ h'=>h'.elim)));cases r with
 | none=>exact Zy h₁
 | some v=>
  refine Zu (AaO h₁ (fun _ s₁' h₁'=>?_) fun _ _ h'=>h'.elim);refine Zu (AaO h₁' (fun _ s₂ h₂=>Zu (AaO h₂ (fun ok s₃ h₃=>?_) fun _ _ h'=>h'.elim)) fun _ _ h'=>h'.elim);cases ok with
  | false=>exact Zy ⟨rfl,h₃⟩
  | true=>
   exact Zu (Zu (AaO h₃ (fun x s₄ h₄=>Zu (AaO h₄ (fun _ s₅ h₅=>Zy (Zy ⟨rfl,h₅⟩)) fun _ _ h'=>h'.elim)) fun _ _ h'=>h'.elim))
theorem fK:∀ (names:List (Str×NameKind)) (n:Nat) (acc:List (Str×Addr)),cellsFrom n names acc=cellsFrom n names [] ++ acc
 | [],_,_=>rfl
 | (x,k) :: r,n,acc=>by
  unfold cellsFrom
  split
  ·rw [fK r (n+1) ((x,n) :: acc),fK r (n+1) [(x,n)],AaF];rfl
  ·exact fK r n acc
theorem t7 {α:Type}:∀ {A B:List (Str×α)} {x:Str},(A ++ B).lookup x=(match A.lookup x with | some c=>some c | none=>B.lookup x)
 | [],_,_=>rfl
 | (y,c) :: A,B,x=>by
  rw [List.cons_append,Aag,Aag];cases x == y with
  | true=>rfl
  | false=>exact t7 (A:=A)
theorem xq:∀ {names:List (Str×NameKind)} {n:Nat} {acc:List (Str×Addr)} {x:Str} {c:Addr},(x,c)∈cellsFrom n names acc->(x,c)∈acc\/(x,NameKind.cell)∈names
 | [],_,_,_,_,h=>.inl h
 | (y,k) :: r,n,acc,x,c,h=>by
  unfold cellsFrom at h
  split at h
  ·rename_i hk
   rcases xq h with z | z
   ·rcases ZQ.mp z with z | z
    ·cases z
     have:k= .cell:=by simpa using hk
     rw [this];exact .inr Aak
    ·exact .inl z
   ·exact .inr (ZZ _ z)
  ·exact (xq h).imp id (ZZ _)
theorem t8 {α:Type}:∀ {l:List (Str×α)} {x:Str} {c:α},(x,c)∈l->∃ d,l.lookup x=some d
 | (y,d) :: r,x,c,h=>by
  by_cases e:x=y
  ·subst e;exact ⟨d,by simp [Aag]⟩
  ·have hb:(x == y)=false:=by simpa using e
   rw [Aag,hb];rcases ZQ.mp h with z | z
   ·cases z;exact absurd rfl e
   ·exact t8 z
theorem ue:∀ {names:List (Str×NameKind)} {n:Nat} {acc:List (Str×Addr)} {x:Str},(x,NameKind.cell)∈names\/(∃ c,(x,c)∈acc)->∃ c,(x,c)∈cellsFrom n names acc
 | [],_,_,_,h=>h.elim (fun h=>by simp at h) id
 | (y,k) :: r,n,acc,x,h=>by
  unfold cellsFrom
  split
  ·refine ue ?_
   rcases h with h | ⟨c,h⟩
   ·rcases ZQ.mp h with z | z
    ·cases z;exact .inr ⟨n,Aak⟩
    ·exact .inl z
   ·exact .inr ⟨c,ZZ _ h⟩
  ·rename_i hk
   refine ue ?_;rcases h with h | h
   ·rcases ZQ.mp h with z | z
    ·cases z;exact absurd (by decide) hk
    ·exact .inl z
   ·exact .inr h
def Kz (X:Cx) (scope:Scope) (C:Addr):List (Str×Addr):=cellsFrom (C+1) scope.names (v6 X.env scope.names [])
section
variable {M:Model} {A:Around} {E:Value->Shared->Prop} {s:Shared}
theorem oh {scope:Scope} {globals:Addr} {cl:List (Str×Addr)} {qual:Str} {env:Env} {Q:Env->Shared->Prop}
  (hQ:∀ h':Heap,h'.Ns s.heap.objs.size (fun _=>none)->(∀ b o,s.heap.get? b=some o->h'.get? b=some o)->CellsOk h' (s.heap.objs.size+1) (cellsFrom (s.heap.objs.size+1) scope.names [])->
   Q (newEnv scope s.heap.objs.size globals (cellsFrom (s.heap.objs.size+1) scope.names cl) qual none .none (some env) builtinsNs) {s with heap:=h',toks:=s.toks+([]:List (Str×Value)).length}):
  wpAny M A (newFunctionEnv scope globals cl [] qual none .none (some env)) Q E s:=by
 simp only [newFunctionEnv,Option.isSome_some,if_true];refine Zu (wpAny_alloc ?_);refine Zu (wpAny_layCells _ (fun name kind cells=>by cases hkc:kind == NameKind.cell <;> simp [hkc]) _ _ _ _ ?_);have ok:=cellsFrom_ok scope.names (s.heap.push {cls:=.type "dict",data:=.dict #[]}) (s.heap.objs.size+1) [] ⟨fun _ _ hm=>(nomatch hm),List.Pairwise.nil⟩ (by rw [AaI];exact ZC _);rw [AaI] at ok;rw [show ({s with heap:=s.heap.push {cls:=.type "dict",data:=.dict #[]}}:Shared).heap.objs.size=s.heap.objs.size+1 from AaI ..];exact Zu (Zy (Zy (hQ _ ((Heap.Ns.new s.heap (.type "dict")).keeps (pushCells_keeps _ _)) (fun b o e=>pushCells_keeps _ _ b o (Zz _ e)) ok)))
end
def tW (X:Cx) (N':List Str) (scope:Scope) (C:Addr) (s₀:Shared) (H₀:Hp) (ex:List Addr):Cx:=
 {X with N:=N',s₀:=s₀,H₀:=H₀,env:=compEnvC scope (Kz X scope C) C X.env,outer:=X.stack,ex:=ex,fn:=fun x=>decide (scope.names.lookup x=some .cell),pn:=[],xe:=fun _ _=>False}
def fu (sub:List (Option Nat)) (U:St):St:=sub.map fun o=>o.bind fun j=>(U[j]?).join
structure vN (N:List Str) (sc:Scope) (N':List Str) (scope:Scope) (sub:List (Option Nat)):Prop where
 kind:scope.kind= .function
 cel:∀ x∈scope.names,x.2= .cell->scope.names.lookup x.1=some .cell
 loc:∀ x∈scope.names,x.2= .local->scope.names.lookup x.1=some .local
 free:∀ x∈scope.names,x.2= .free->sc.names.lookup x.1=some .cell\/sc.names.lookup x.1=some .free
 len:sub.length=N'.length
 at_:∀ (i j:Nat) (x:Str),sub[i]?=some (some j)->N'[i]?=some x->N[j]?=some x/\(x,NameKind.free)∈scope.names/\scope.names.lookup x=some .free
def KC (N:List Str) (sc:Scope) (N':List Str) (scope:Scope) (sub:List (Option Nat)):Bool:=
 decide (scope.kind= .function) && scope.names.all (fun x=>decide (x.2= .cell->scope.names.lookup x.1=some .cell)) && scope.names.all (fun x=>decide (x.2= .local->scope.names.lookup x.1=some .local)) &&
 scope.names.all (fun x=>decide (x.2= .free->sc.names.lookup x.1=some .cell\/sc.names.lookup x.1=some .free)) && decide (sub.length=N'.length) &&
 (List.range sub.length).all fun i=>match sub[i]?,N'[i]? with
  | some (some j),some x=>decide (N[j]?=some x/\(x,NameKind.free)∈scope.names/\scope.names.lookup x=some .free)
  | _,_=>true
theorem iT {N:List Str} {sc:Scope} {N':List Str} {scope:Scope} {sub:List (Option Nat)} (h:KC N sc N' scope sub=true):vN N sc N' scope sub:=by
 simp only [KC,Z4,AbI,Aa4] at h;obtain ⟨⟨⟨⟨⟨h1,h2⟩,h3⟩,h4⟩,h5⟩,h6⟩:=h;refine ⟨h1,h2,h3,h4,h5,fun i j x e1 e2=>?_⟩;have hi:i < sub.length:=(Zx.mp e1).1;have q:=h6 i (ZX.mpr hi);rw [e1,e2] at q;simpa using q
def KD:TT:=fun _ H Q=>Q true H
def DN (X:Cx) (ifs:List Expr) (t:TT):Prop:=
 ∀ (pins:List (Addr×Obj)) (s:Shared) (U:St) (H:Hp) (Q:Bool->Hp->Prop),Inv X pins U H s->t U H Q->
  wpAny (model X.prog X.w) X.A (forIn ifs true fun c r=>if r=true then do let ok ← isTrue c X.env (eval c X.env);pure (ForInStep.yield ok) else pure (ForInStep.yield r)) (TP X pins U Q) X.xe s
theorem KH {X:Cx}:DN X [] KD:=fun _ _ _ H _ I h=>wpAny_tests_nil ⟨H,I,h⟩
def KeepSt (U U':St):Prop:=U'.length=U.length/\∀ (i:Nat) (v:V),U[i]?=some (some v)->U'[i]?=some (some v)
theorem KeepSt.set {U:St} {i:Nat} {v:V} (h:U[i]?=some none):KeepSt U (U.set i (some v)):=by
 refine ⟨by simp,fun j u e=>?_⟩;by_cases hj:i=j
 ·subst hj;rw [h] at e;cases e
 ·rw [Aaf hj];exact e
def xr (sub:List (Option Nat)) (wi:TI) (g:TG) (tt:TT) (te:TE):TE:=fun U H Q=>wi U H fun J H1=>∃ W:Nat->Nat->List V->Hp->Prop,(∃ m,W 0 m [] H1)/\∀ i m ys H,W i m ys H->
 (J.stop i H/\ys.length<=sizeLine/\∀ D,H D=none->Q (.ref D) (upd H D (.lst ys)))\/
 (J.go i H/\ys.length < sizeLine/\∃ N:List V->Hp->Prop,(∀ ys' H',N ys' H'->∃ m',m' < m/\W (i+1) m' ys' H')/\
  ∀ x H',J.yld i H x H'->g x (fu sub U) H' fun σ2 H2=>KeepSt (fu sub U) σ2/\tt σ2 H2 fun b H3=>if b=true then te σ2 H3 fun y H4=>N (ys ++ [y]) H4 else N ys H3)
theorem uf {scope:Scope} {env:Env} {x:Str} (hx:scope.names.lookup x=some .free):(relabel scope env).names.lookup x=some .cell\/(relabel scope env).names.lookup x=some .free:=by
 have:∀ names:List (Str×NameKind),names.lookup x=some .free->
  (names.map fun (n,k)=>if (k == NameKind.free && env.scope.kind == .function && env.kindOf n == some .cell) then (n,NameKind.cell) else (n,k)).lookup x=some .cell\/
  (names.map fun (n,k)=>if (k == NameKind.free && env.scope.kind == .function && env.kindOf n == some .cell) then (n,NameKind.cell) else (n,k)).lookup x=some .free:=by
  intro names
  induction names with
  | nil=>intro h;simp at h
  | cons p r ih=>
   obtain ⟨n,k⟩:=p;intro h;by_cases e:x=n
   ·subst e
    have hk:k= .free:=by simpa [Aag] using h
    subst hk;by_cases hc:((NameKind.free == NameKind.free && env.scope.kind == .function && env.kindOf x == some .cell)=true)
    ·left;simp only [Aaj];rw [if_pos hc];simp [Aag]
    ·right;simp only [Aaj];rw [if_neg hc];simp [Aag]
   ·have hb:(x == n)=false:=by simpa using e
    rw [Aag,hb] at h;have q:=ih h;simp only [Aaj]
    split <;> (rw [Aag,hb];exact q)
 exact this scope.names hx
theorem zR {scope:Scope} {env:Env} {x:Str} (h:(relabel scope env).names.lookup x=some .cell\/(relabel scope env).names.lookup x=some .free):(x,NameKind.cell)∈scope.names\/(x,NameKind.free)∈scope.names:=by
 have key:∀ k,(k=NameKind.cell\/k=NameKind.free)->(relabel scope env).names.lookup x=some k->(x,NameKind.cell)∈scope.names\/(x,NameKind.free)∈scope.names:=by
  intro k hk hl;have hm:=Aax hl;unfold relabel at hm;obtain ⟨⟨n,k'⟩,hm1,hm2⟩:=Aam.mp hm;dsimp only at hm2;by_cases hc:(k' == NameKind.free && env.scope.kind == .function && env.kindOf n == some .cell)=true
  ·rw [if_pos hc] at hm2
   cases hm2;simp only [Z4,Aa3] at hc;rw [← hc.1.1];exact .inr hm1
  ·rw [if_neg hc] at hm2
   cases hm2;rcases hk with hk | hk
   ·subst hk;exact .inl hm1
   ·subst hk;exact .inr hm1
 rcases h with h | h
 ·exact key _ (.inl rfl) h
 ·exact key _ (.inr rfl) h
section
variable {X:Cx} {tg iter elt:Expr} {ifs:List Expr} {scope:Scope} {pos:Pos} {N':List Str} {sub:List (Option Nat)} {wi:TI} {g:TG} {tt:TT} {te:TE}
theorem HJ {pins:List (Addr×Obj)} {U:St} {H:Hp} {s:Shared} {fp:List Addr} {D:Addr} {h':Heap} {tk:Nat} {N:List Str} {sc:Scope} (S:vN N sc N' scope sub) (hN:X.N=N) (hsc:X.env.scope=sc) (I:Inv X pins U H s) (hf:∀ b∈fp,pU X pins H b) (hfo:∀ b∈fp,b < s.heap.objs.size)
  (hD:D < s.heap.objs.size) (fD:pU X pins H D) (hns:h'.Ns s.heap.objs.size fun _=>none) (hk:∀ b o,s.heap.get? b=some o->h'.get? b=some o) (hc:CellsOk h' (s.heap.objs.size+1) (cellsFrom (s.heap.objs.size+1) scope.names [])):
  Inv (tW X N' scope s.heap.objs.size s H (D :: fp)) [] (fu sub U) H {s with heap:=h',toks:=tk}:=by
 have hex:∀ b∈D :: fp,pU X pins H b/\b < s.heap.objs.size:=fun b hb=>by
  rcases ZQ.mp hb with rfl | z
  ·exact ⟨fD,hD⟩
  ·exact ⟨hf b z,hfo b z⟩
 have spl:∀ {x c},(Kz X scope s.heap.objs.size).lookup x=some c->(h'.IsCell c none/\s.heap.objs.size+1<=c/\(x,c)∈cellsFrom (s.heap.objs.size+1) scope.names [])\/(X.env.cells.lookup x=some c/\∃ o,s.heap.get? c=some o):=fun {x c} h=>by
  unfold Kz at h;rw [fK,t7] at h;cases e:(cellsFrom (s.heap.objs.size+1) scope.names []).lookup x with
  | some d=>
   rw [e] at h;cases h;have m:=Aax e;exact .inl ⟨(hc.empty _ _ m).1,(hc.empty _ _ m).2,m⟩
  | none=>
   rw [e] at h;have z:=HF h;obtain ⟨v,o,ho,_⟩:=I.cell x c z;exact .inr ⟨z,o,ho⟩
 have fre:∀ {x c},(x,NameKind.free)∈scope.names->scope.names.lookup x=some .free->X.env.cells.lookup x=some c->(Kz X scope s.heap.objs.size).lookup x=some c:=fun {x c} h1 h2 h3=>by
  unfold Kz;rw [fK,t7];cases e:(cellsFrom (s.heap.objs.size+1) scope.names []).lookup x with
  | some d=>
   rcases xq (Aax e) with z | z
   ·cases z
   ·have:=S.cel _ z rfl
    rw [h2] at this;cases this
  | none=>exact Bq h3 h1
 refine ⟨⟨I.ok.mod,S.kind,I.ok.glob,I.ok.blt,ZC _,fun x y c h1 h2=>?_,fun x hx=>?_,fun x c hx h=>?_,I.ok.hd,I.ok.frames,.inl rfl,fun b hb=>?_,I.bs,ZG I.ok.bsz I.sz,fun b o e hb=>?_,fun b hb=>?_,I.stack,I.stkFree⟩,
  rfl,I.bare,Un.kept hk,⟨_,hns,fun i x v h1 h2 h3=>?_⟩,fun x c h=>?_,I.hok.fresh (ZC _),fun x c h=>?_,fun p hp=>(nomatch hp),I.hok.kept hk,?_⟩
 ·rcases spl h1 with ⟨_,l1,m1⟩ | ⟨z1,o1,q1⟩ <;> rcases spl h2 with ⟨_,l2,m2⟩ | ⟨z2,o2,q2⟩
  ·exact PySem.name_of_addr hc.apart m1 m2
  ·exact absurd (Z1 (ZL q2) (Abq l1)) (AaM _)
  ·exact absurd (Z1 (ZL q1) (Abq l2)) (AaM _)
  ·exact I.ok.inj x y c z1 z2
 ·rcases zR hx with z | z
  ·obtain ⟨c,m⟩:=ue (n:=s.heap.objs.size+1) (acc:=v6 X.env scope.names []) (.inl z)
   exact t8 m
  ·obtain ⟨c,e⟩:=I.ok.has x (by have:=S.free _ z rfl;rw [← hsc] at this;exact this)
   show ∃ c,(Kz X scope s.heap.objs.size).lookup x=some c;unfold Kz;rw [fK];exact t8 (c:=c) (Aau _ (xn e z))
 ·have hx':scope.names.lookup x=some .cell:=by simpa [tW] using hx
  rcases spl h with ⟨_,l,_⟩ | ⟨z,o,q⟩
  ·exact Abq l
  ·exfalso
   have m:(x,NameKind.cell)∈scope.names:=Aax hx';obtain ⟨d,md⟩:=ue (n:=s.heap.objs.size+1) (acc:=[]) (.inl m);obtain ⟨d',e'⟩:=t8 md;have h:(Kz X scope s.heap.objs.size).lookup x=some c:=h;unfold Kz at h;rw [fK,t7,e'] at h;cases h;exact absurd (Z1 (ZL q) (Abq (hc.empty _ _ (Aax e')).2)) (AaM _)
 ·obtain ⟨⟨f0,f1,f2,f3,f4,f5⟩,hlt⟩:=hex b hb
  refine ⟨Aah hlt,fun x c h=>?_⟩;rcases spl h with ⟨_,l,_⟩ | ⟨z,_⟩
  ·exact fun z=>absurd (Z1 hlt (Abq (z ▸ l))) (AaM _)
  ·exact f4 x c z
 ·obtain ⟨⟨f0,f1,f2,f3,f4,f5⟩,hlt⟩:=hex b hb
  rcases f3 with z | z
  ·exact I.ok.noex b o e z
  ·exact absurd (Z1 (ZL (I.ok.bs b o e).1) z) (AaM _)
 ·obtain ⟨⟨f0,f1,f2,f3,f4,f5⟩,hlt⟩:=hex b hb
  intro z;rcases ZQ.mp (I.stkSub b z) with z | z
  ·exact f1 z
  ·exact f2 z
 ·have hs:∃ j,sub[i]?=some (some j)/\U[j]?=some (some v):=by
   unfold fu at h2;rw [ZM] at h2;cases e:sub[i]? with
   | none=>rw [e] at h2;cases h2
   | some o=>
    rw [e] at h2;cases o with
    | none=>cases h2
    | some j=>
     refine ⟨j,rfl,?_⟩;have h3:(U[j]?).join=some v:=Z2 h2;cases e2:U[j]? with
     | none=>rw [e2] at h3;cases h3
     | some z=>rw [e2] at h3;cases z with
      | none=>cases h3
      | some z=>cases h3;rfl
  obtain ⟨j,e1,e2⟩:=hs;obtain ⟨g1,g2,g3⟩:=S.at_ i j x e1 h1;rw [← hN] at g1;obtain ⟨m,hn,hl⟩:=I.loc;have hkf:X.env.kindOf x=some .cell\/X.env.kindOf x=some .free:=by have:=S.free _ g2 rfl;rw [← hsc] at this;exact this
  have hvis:Zi X.env.scope x:=by
   rcases hkf with z | z
   ·exact .inr (.inl z)
   ·exact .inr (.inr z)
  obtain ⟨u,r,l⟩:=hl j x v g1 e2 hvis;refine ⟨u,r,.inr ⟨uf g3,?_⟩⟩;rcases l with ⟨k,_⟩ | ⟨_,c,e,o,ho,hd⟩
  ·have k':X.env.kindOf x=some .local:=k
   rcases hkf with z | z <;> (rw [k'] at z;cases z)
  ·exact ⟨c,fre g2 g3 e,o,hk _ _ ho,hd⟩
 ·rcases spl h with ⟨z,_⟩ | ⟨z,_⟩
  ·exact ⟨_,z⟩
  ·obtain ⟨v,o,ho,hd⟩:=I.cell x c z
   exact ⟨v,o,hk _ _ ho,hd⟩
 ·rcases spl h with ⟨_,l,_⟩ | ⟨z,_⟩
  ·exact I.hok.fresh (Abq l)
  ·exact I.freeC x c z
 ·show (fu sub U).length=N'.length
  unfold fu;rw [ZJ];exact S.len
theorem Br {N:List Str} {sc:Scope} {use:Option (Value->Sem Unit)} {R:Value->Shared->Prop} {p0:Pos} (S:vN N sc N' scope sub) (hc:X.calm=true) (hN:X.N=N) (hsc:X.env.scope=sc) (hi:PI X tg iter wi)
  (hg:∀ (C:Addr) (s₀:Shared) (H₀:Hp) (ex:List Addr),PG (tW X N' scope C s₀ H₀ ex) tg g)
  (ht:∀ (C:Addr) (s₀:Shared) (H₀:Hp) (ex:List Addr),DN (tW X N' scope C s₀ H₀ ex) ifs tt)
  (he:∀ (C:Addr) (s₀:Shared) (H₀:Hp) (ex:List Addr),PE (tW X N' scope C s₀ H₀ ex) elt te)
  (hs:∀ x,foldedSetIterable iter X.env x=pure x) (pins:List (Addr×Obj)) (s:Shared) (U:St) (H:Hp) (Q:VK) (I:Inv X pins U H s) (h:xr sub wi g tt te U H Q)
  (hend:∀ (D C:Addr) (s5:Shared) (H5:Hp) (m:Str->Option Value),Inv X pins U H5 s5->pU X pins H5 C->s5.heap.Ns C m->Q (.ref D) H5->compPost (model X.prog X.w) X.A X.xe use R (.ref D) C (.ok .next) s5):
  wpAny (model X.prog X.w) X.A (comprehension (.ListComp elt [⟨tg,iter,ifs,0⟩] scope pos) scope X.env p0 (newList []) false (eval iter X.env) use) R X.xe s:=by
 have hcl:∀ x∈scope.names,x.2=NameKind.free->∃ c,X.env.cells.lookup x.1=some c:=fun x hx hk=>I.ok.has x.1 (by have:=S.free x hx hk;rw [← hsc] at this;exact this)
 refine wpAny_comprehension_free (use:=use) rfl hs (yG hcl) S.kind S.loc ?_;refine fM (hi pins s U H _ I h) fun v s1 h1=>fM h1 fun itv s2 h2=>?_
 obtain ⟨it,fp,tn,J,H2,e,I2,T,st2,f2,W,⟨m0,w0⟩,turn⟩:=h2;subst e;refine AaU (oh fun h₁ hns₁ hk31 hcl₁=>?_);dsimp only at hns₁ hk31 hcl₁ ⊢;generalize hs3:({s2 with heap:=s2.heap.push {cls:=.type "list",dict:=none,data:=.seq ([]:List Value).toArray}}:Shared)=s3;have e3:s2.heap.push {cls:=.type "list",dict:=none,data:=.seq ([]:List Value).toArray}=s3.heap:=by rw [← hs3]
 rw [e3] at hns₁ hk31 hcl₁ ⊢;have hD3:s3.heap.get? s2.heap.objs.size=some {cls:=.type "list",dict:=none,data:=.seq ([]:List Value).toArray}:=by rw [← e3];exact ZP _ rfl
 have I3:Inv X pins U H2 s3:=by
  rw [← hs3];exact I2.kept (t':=s2.toks) fun b o e=>Zz _ e
 have k23:∀ b o,s2.heap.get? b=some o->s3.heap.get? b=some o:=fun b o e=>by rw [← e3];exact Zz _ e
 have hsz:s3.heap.objs.size=s2.heap.objs.size+1:=by rw [← e3,AaI]
 have hDn:H2 s2.heap.objs.size=none:=I2.hok.fresh (ZC _);have fD:pU X pins H2 s2.heap.objs.size:=I2.fpOk (ZC _) hDn;have hfo:∀ b∈fp,b < s2.heap.objs.size:=fun b hb=>let ⟨o,e,_⟩:=T.obj _ _ st2 b hb;ZL e
 have hDfp:s2.heap.objs.size ∉ fp:=fun z=>absurd (hfo _ z) (AaM _)
 have I4:=HJ (tk:=s3.toks+([]:List (Str×Value)).length) S hN hsc I3 f2 (fun b hb=>by rw [hsz];exact Nat.lt_succ_of_lt (hfo b hb)) (D:=s2.heap.objs.size) (by rw [hsz];exact AbQ _) fD hns₁ hk31 hcl₁
 have stat:∀ {H':Hp} {ob:Obj},(∀ b∈fp,H' b=none)->∀ b∈fp,pU (tW X N' scope s3.heap.objs.size s3 H2 (s2.heap.objs.size :: fp)) [(s2.heap.objs.size,ob)] H' b:=fun {H' ob} hn b hb=>by
  obtain ⟨q1,q2⟩:=I4.ok.exf b (ZZ _ hb);refine ⟨hn b hb,q1,I4.ok.exfs b (ZZ _ hb),.inl (ZZ _ hb),q2,fun p hp z=>?_⟩;have hp':p=(s2.heap.objs.size,ob):=by simpa [tW] using hp
  subst hp';have z':s2.heap.objs.size=b:=z;exact hDfp (by rw [z'];exact hb)
 generalize hXC:tW X N' scope s3.heap.objs.size s3 H2 (s2.heap.objs.size :: fp)=XC at I4 stat;have eP:XC.prog=X.prog:=by rw [← hXC];rfl
 have eW:XC.w=X.w:=by rw [← hXC];rfl
 have eK:XC.K=X.K:=by rw [← hXC];rfl
 have eA:XC.A=X.A:=by rw [← hXC];rfl
 have eE:XC.env=compEnvC scope (Kz X scope s3.heap.objs.size) s3.heap.objs.size X.env:=by rw [← hXC];rfl
 have eC:XC.calm=true:=by rw [← hXC];exact hc
 have eX:XC.xe=fun _ _=>False:=by rw [← hXC];rfl
 have eH:XC.H₀=H2:=by rw [← hXC];rfl
 have eS:XC.s₀=s3:=by rw [← hXC];rfl
 have eF:XC.fs=frs X.stack:=by rw [← hXC];rfl
 have eEx:XC.ex=s2.heap.objs.size :: fp:=by rw [← hXC];rfl
 have ePn:XC.pn=[]:=by rw [← hXC];rfl
 have hgC:PG XC tg g:=by rw [← hXC];exact hg _ _ _ _
 have htC:DN XC ifs tt:=by rw [← hXC];exact ht _ _ _ _
 have heC:PE XC elt te:=by rw [← hXC];exact he _ _ _ _
 have pinD:∀ {U':St} {H':Hp} {s':Shared} {ob:Obj},Inv XC [] U' H' s'->H' s2.heap.objs.size=none->s'.heap.get? s2.heap.objs.size=some ob->(∀ v,ob.data≠.cell v)->Inv XC [(s2.heap.objs.size,ob)] U' H' s':=fun {U' H' s' ob} J hn hg hd=>
  J.pins_of fun p hp=>by
   have hp':p=(s2.heap.objs.size,ob):=by simpa using hp
   subst hp';refine ⟨hg,hn,(J.ok.exf _ (by rw [eEx];exact Aak)).1,J.ok.exfs _ (by rw [eEx];exact Aak),hd⟩
 have loop:codeAny (model X.prog X.w) X.A (.compLoop (.ListComp elt [⟨tg,iter,ifs,0⟩] scope pos) 0 (.ref it) (.ref s2.heap.objs.size) (compEnvC scope (Kz X scope s3.heap.objs.size) s3.heap.objs.size X.env))
   (compPost (model X.prog X.w) X.A X.xe use R (.ref s2.heap.objs.size) s3.heap.objs.size) {s3 with heap:=h₁,toks:=s3.toks+([]:List (Str×Value)).length}:=by
  refine HH (fun n s'=>∃ (i:Nat) (ys:List V) (its:List Value) (nn:Nat) (H':Hp),Inv XC [] (fu sub U) H' s'/\tn i s'.heap/\(∀ b∈fp,H' b=none)/\H' s2.heap.objs.size=none/\
   s'.heap.get? s2.heap.objs.size=some {cls:=.type "list",data:=.seq its.toArray nn}/\Vals ys its/\W i n ys H') ?_ m0
   ⟨0,[],[],_,H2,I4,T.keep _ _ _ st2 fun b _ o e=>hk31 b o (k23 b o e),fun b hb=>(f2 b hb).1,hDn,hk31 _ _ hD3,.nil,w0⟩
  rintro n s4 ⟨i,ys,its,nn,H4,J4,st4,fr4,dn4,dg4,rv4,w4⟩;have P4:=pinD J4 dn4 dg4 (fun v z=>by cases z);rcases turn i n ys H4 w4 with ⟨stop,hyl,qn⟩ | ⟨go,hyl,N,hN,step⟩
  ·have hdone:=T.done XC eP eW eK eC i _ s4 _ H4 (fun _ _=>False) P4 (stat fr4) st4 stop
   rw [eA] at hdone;refine AaO hdone (fun r s5 ⟨hr,I5⟩=>?_) fun _ _ z=>z
   subst hr;obtain ⟨m,hn,_⟩:=id I5.loc;have hCe:XC.env.locals=s3.heap.objs.size:=by rw [eE];rfl
   rw [hCe] at hn;have hDg:=(I5.pin (s2.heap.objs.size,_) (by rw [ePn];exact Aak)).1;have hDne:s2.heap.objs.size≠s3.heap.objs.size:=by rw [hsz];exact Aah (AbQ _)
   have hHC:H4 s3.heap.objs.size=none:=by have:=I5.free;rw [hCe] at this;exact this
   have k56:∀ b o,b≠s3.heap.objs.size->s5.heap.get? b=some o->s5.heap.get? b=some o:=fun b o hb e=>e
   have un:=I5.base;rw [eF,eEx,eH,eS] at un;have nC:∀ b o,s3.heap.get? b=some o->b≠s3.heap.objs.size:=fun b o e=>Aah (ZL e)
   have hok6:HOk X.prog X.w (upd H4 s2.heap.objs.size (.lst ys)) s5.heap:=by
    have h5:=I5.hok;rw [eP,eW] at h5;have T3:∀ b u,H4 b=some u->b≠s3.heap.objs.size:=fun b u e z=>by rw [z,hHC] at e;cases e
    intro b u e;by_cases hb:b=s2.heap.objs.size
    ·subst hb
     rw [aj] at e;cases e;exact ⟨hyl,its,nn,rv4,k56 _ _ hDne hDg⟩
    ·rw [aC hb] at e
     have nD:∀ c u,H4 c=some u->c≠s2.heap.objs.size:=fun c u e z=>by rw [z,dn4] at e;cases e
     refine (h5 b u e).stay (fun c v hc' q=>k56 c v ?_ q) (fun c q=>by rw [aC (nD c _ q)];exact q) fun c xs q=>by rw [aC (nD c _ q)];exact q
     rcases hc' with z | z
     ·rw [z];exact T3 b u e
     ·exact T3 c _ z
   have nD2:∀ c u,H4 c=some u->c≠s2.heap.objs.size:=fun c u e z=>by rw [z,dn4] at e;cases e
   have un6:Un (frs X.stack) (s2.heap.objs.size :: fp) H2 (upd H4 s2.heap.objs.size (.lst ys)) s3.heap s5.heap:=
    ⟨fun b o e nn' hb hx=>k56 b o (nC b o e) (un.keep b o e nn' hb hx),fun b o e nn' hb hx=>let ⟨sl,q⟩:=un.slot b o e nn' hb hx;⟨sl,k56 b _ (nC b o e) q⟩,
     fun b o e nn' hx=>by rw [aC (fun z=>hx (by rw [z];exact Aak))];exact un.free b o e nn' hx,
     fun b o e hx=>let ⟨o',q⟩:=un.there b o e hx;⟨o',k56 b o' (nC b o e) q⟩,
     fun b xs e=>by have q:=un.tups b xs e;rw [aC (nD2 b _ q)];exact q,
     fun b o u e=>by have q:=un.frzs b o u e;rw [aC (nD2 b _ q)];exact q,
     fun b ps e=>let ⟨more,q⟩:=un.tbls b ps e;⟨more,by rw [aC (nD2 b _ q)];exact q⟩⟩
   have I6:Inv X pins U (upd H4 s2.heap.objs.size (.lst ys)) s5:=by
    refine I3.call' (s':=s5) (ch:=s2.heap.objs.size :: fp) ?_ un6 hok6 I5.bare fun b hb=>?_
    ·show s5.os=s3.os
     have:=I5.os;rw [eS] at this;exact this
    ·have q:pU X pins H2 b:=by
      rcases ZQ.mp hb with rfl | z
      ·exact fD
      ·exact f2 b z
     obtain ⟨f0,f1,f2',f3,f4,f5⟩:=q;exact ⟨f3,f1,f4,f5⟩
   have dC:upd H4 s2.heap.objs.size (.lst ys) s3.heap.objs.size=none:=by rw [aC (Ne.symm hDne)];exact hHC
   exact hend _ _ s5 _ m I6 (I3.fpOk (ZC _) dC) hn (qn _ dn4)
  ·have hitem:=T.item XC eP eW eK eC i _ s4 _ H4 (fun _ _=>False) P4 (stat fr4) st4 go
   rw [eA] at hitem;refine AaO hitem (fun r s5 ⟨u,hr,h5⟩=>?_) fun _ _ z=>z
   subst hr;dsimp only;refine AaO h5 (fun _ s6 ⟨x,H6,I6,r6,y6,st6,fr6⟩=>?_) fun _ _ z=>z
   have P6:=I6.pinned (stat fr6) (T.obj _ _ st6);rw [← eE,← eP,← eW,← eA];refine AaO (hgC _ s6 _ H6 x u _ P6 r6 (step x H6 y6)) (fun _ s7 ⟨σ7,H7,I7,kp7,q7⟩=>?_) fun _ _ z=>by rw [eX] at z;exact z
   refine AaO (htC _ s7 σ7 H7 _ I7 q7) (fun ok s8 ⟨H8,I8,q8⟩=>?_) fun _ _ z=>by rw [eX] at z;exact z
   have fin:∀ {H9:Hp} {s9:Shared},Inv XC ([(s2.heap.objs.size,({cls:=.type "list",data:=.seq its.toArray nn}:Obj))] ++ wV fp s6.heap) σ7 H9 s9->Inv XC [] (fu sub U) H9 s9/\tn (i+1) s9.heap/\(∀ b∈fp,H9 b=none)/\H9 s2.heap.objs.size=none/\
     s9.heap.get? s2.heap.objs.size=some {cls:=.type "list",data:=.seq its.toArray nn}:=fun {H9 s9} J=>by
    have pD:=J.pin (s2.heap.objs.size,({cls:=.type "list",data:=.seq its.toArray nn}:Obj)) (by rw [ePn];simp)
    have pF:∀ b∈fp,∀ o,s6.heap.get? b=some o->s9.heap.get? b=some o/\H9 b=none:=fun b hb o e=>by
     have q:=J.pin (b,o) (by rw [ePn];exact Aau _ (Aau _ (rP hb e)));exact ⟨q.1,q.2.1⟩
    refine ⟨?_,T.keep _ _ _ st6 fun b hb o e=>(pF b hb o e).1,fun b hb=>?_,pD.2.1,pD.1⟩
    ·have J0:Inv XC [] σ7 H9 s9:=J.pins_of fun p hp=>nomatch hp
     exact J0.weak kp7.1.symm fun j v e=>kp7.2 j v e
    ·obtain ⟨o,e,_⟩:=T.obj _ _ st6 b hb
     exact (pF b hb o e).2
   cases ok with
   | false=>
    rw [if_neg (by simp)];rw [if_neg (by simp)] at q8;obtain ⟨m',hm,w8⟩:=hN _ _ q8;obtain ⟨a1,a2,a3,a4,a5⟩:=fin I8;exact ⟨m',hm,i+1,ys,its,nn,H8,a1,a2,a3,a4,a5,rv4,w8⟩
   | true=>
    rw [if_pos rfl];rw [if_pos rfl] at q8;refine AaO (heC _ s8 σ7 H8 _ I8 q8) (fun xv s9 ⟨y,H9,I9,r9,n9⟩=>?_) fun _ _ z=>by rw [eX] at z;exact z
    obtain ⟨m',hm,w9⟩:=hN _ _ n9;obtain ⟨a1,a2,a3,a4,a5⟩:=fin I9;refine wpAny_list_append_plain (items:=its.toArray) ⟨nn,a5⟩ (fun h' ⟨n',hp'⟩ sb=>?_) (by simp;rw [← rv4.length];omega);obtain ⟨q1,q2⟩:=I4.ok.exf s2.heap.objs.size (by rw [eEx];exact Aak);have a1':Inv XC [] (fu sub U) H9 {s9 with heap:=h'}:=a1.turned (t':=s9.toks) (fun b o hb e=>(sb.2 b hb).trans e) a4 q1 (.inl (by rw [eEx];exact Aak)) q2 (fun p hp=>by rw [ePn] at hp;exact nomatch hp);refine ⟨m',hm,i+1,ys ++ [y],its ++ [xv],n',H9,a1',T.keep _ _ _ a2 fun b hb o e=>(sb.2 b (fun z=>hDfp (by rw [← z];exact hb))).trans e,a3,a4,?_,rv4.append (.cons r9 .nil),w9⟩;rw [hp'];simp
 subst hs3;exact codeAny_compStart_list loop (T.self _ 0 _ _ _ (T.keep _ _ _ st2 fun b _ o e=>hk31 b o (k23 b o e)) loop)
theorem Gf {N:List Str} {sc:Scope} (S:vN N sc N' scope sub) (hc:X.calm=true) (hN:X.N=N) (hsc:X.env.scope=sc) (hi:PI X tg iter wi)
  (hg:∀ (C:Addr) (s₀:Shared) (H₀:Hp) (ex:List Addr),PG (tW X N' scope C s₀ H₀ ex) tg g)
  (ht:∀ (C:Addr) (s₀:Shared) (H₀:Hp) (ex:List Addr),DN (tW X N' scope C s₀ H₀ ex) ifs tt)
  (he:∀ (C:Addr) (s₀:Shared) (H₀:Hp) (ex:List Addr),PE (tW X N' scope C s₀ H₀ ex) elt te)
  (hs:autoParam (∀ x,foldedSetIterable iter X.env x=pure x) L2.auto3._auto_1):
  PE X (.ListComp elt [⟨tg,iter,ifs,0⟩] scope pos) (xr sub wi g tt te):=by
 intro pins s U H Q I h;rw [eval_ListComp];refine Br (use:=none) S hc hN hsc hi hg ht he hs pins s U H Q I h fun D C s5 H5 m I5 fC hn q=>?_
 obtain ⟨f0,f1,f2,f3,f4,f5⟩:=fC;exact ⟨m,hn,fun h' hs'=>⟨.ref D,H5,I5.turned (t':=s5.toks) (fun b o hb e=>hs'.extBut b o hb e) f0 f1 f3 f4 f5,rfl,q⟩⟩
end
abbrev rG (sub:List (Option Nat)) (g:TG) (tt:TT) (te:TE) (U:St) (Q:VK) (J:It) (H1:Hp):Prop:=∃ W:Nat->Nat->List V->Hp->Prop,(∃ m,W 0 m [] H1)/\∀ i m ys H,W i m ys H->
 (J.stop i H/\ys.length<=sizeLine/\∀ D,H D=none->Q (.ref D) (upd H D (.lst ys)))\/
 (J.go i H/\ys.length < sizeLine/\∃ N:List V->Hp->Prop,(∀ ys' H',N ys' H'->∃ m',m' < m/\W (i+1) m' ys' H')/\
  ∀ x H',J.yld i H x H'->g x (fu sub U) H' fun σ2 H2=>KeepSt (fu sub U) σ2/\tt σ2 H2 fun b H3=>if b=true then te σ2 H3 fun y H4=>N (ys ++ [y]) H4 else N ys H3)
theorem wD {sub:List (Option Nat)} {g:TG} {tt:TT} {te:TE} {U:St} {Q:VK} {J:It} {H:Hp} {n:Nat} (Pv:Nat->List V->Hp->Prop) (hn:n<=sizeLine) (h0:Pv 0 [] H) (hl:∀ i ys H,Pv i ys H->ys.length<=i)
  (hgo:∀ i ys H,i < n->Pv i ys H->J.go i H) (hstop:∀ ys H,Pv n ys H->J.stop n H)
  (hs:∀ i ys H x H',i < n->Pv i ys H->J.yld i H x H'->g x (fu sub U) H' fun σ2 H2=>KeepSt (fu sub U) σ2/\tt σ2 H2 fun b H3=>if b=true then te σ2 H3 fun y H4=>Pv (i+1) (ys ++ [y]) H4 else Pv (i+1) ys H3)
  (hd:∀ ys H,Pv n ys H->∀ D,H D=none->Q (.ref D) (upd H D (.lst ys))):rG sub g tt te U Q J H:=by
 refine ⟨fun i m ys H=>m=n - i/\i<=n/\Pv i ys H,⟨n,by simp,AaE _,h0⟩,?_⟩;rintro i m ys H ⟨rfl,hi,p⟩;have hl':=hl i ys H p;by_cases hlt:i < n
 ·exact .inr ⟨hgo i ys H hlt p,by omega,fun ys' H'=>Pv (i+1) ys' H',fun ys' H' p'=>⟨n - (i+1),by omega,rfl,hlt,p'⟩,fun x H' y=>hs i ys H x H' hlt p y⟩
 ·have e:i=n:=by omega
  subst e;exact .inl ⟨hstop ys H p,by omega,hd ys H p⟩
section
variable {κ:Type} [DecidableEq κ]
def lU (kvs:List (κ×V)) (k:κ):Option V:=(kvs.find? fun kv=>decide (kv.1=k)).map (·.2)
def putK (kvs:List (κ×V)) (k:κ) (v:V):List (κ×V):=
 if (kvs.any fun kv=>decide (kv.1=k))=true then kvs.map (fun kv=>if kv.1=k then (kv.1,v) else kv) else kvs ++ [(k,v)]
theorem Bs {k:κ}:lU ([]:List (κ×V)) k=none:=rfl
theorem iu {p:κ×V} {r:List (κ×V)} {k:κ} (e:p.1=k):lU (p :: r) k=some p.2:=by simp [lU,AbE,e]
theorem iw {p:κ×V} {r:List (κ×V)} {k:κ} (e:¬ p.1=k):lU (p :: r) k=lU r k:=by simp [lU,AbE,e]
theorem um (k:κ):∀ kvs:List (κ×V),(kvs.any fun kv=>decide (kv.1=k))=(lU kvs k).isSome
 | []=>rfl
 | p :: r=>by
  rw [List.any_cons];by_cases e:p.1=k
  ·simp only [iu e,ZK e,Bool.true_or,Option.isSome_some]
  ·rw [iw e,ZD e,Bool.false_or];exact um k r
theorem Bt (k j:κ) (y:V):∀ kvs:List (κ×V),lU (kvs.map fun kv=>if kv.1=k then (kv.1,y) else kv) j=(lU kvs j).map fun x=>if j=k then y else x
 | []=>rfl
 | p :: r=>by
  have ih:=Bt k j y r;rw [Aaj];by_cases h:p.1=k
  ·rw [if_pos h]
   by_cases e:p.1=j
   ·rw [iu (p:=(p.1,y)) e,iu e,Option.map_some,if_pos (e.symm.trans h)]
   ·rw [iw (p:=(p.1,y)) e,iw e,ih]
  ·rw [if_neg h]
   by_cases e:p.1=j
   ·rw [iu (p:=p) e,iu e,Option.map_some,if_neg (fun z=>h (e.trans z))]
   ·rw [iw (p:=p) e,iw e,ih]
theorem zb (k j:κ) (y:V):∀ kvs:List (κ×V),lU kvs k=none->lU (kvs ++ [(k,y)]) j=if j=k then some y else lU kvs j
 | [],_=>by
  by_cases e:k=j
  ·rw [if_pos e.symm];exact iu (p:=(k,y)) e
  ·rw [if_neg (fun z=>e z.symm)];exact iw (p:=(k,y)) e
 | p :: r,hn=>by
  rw [List.cons_append];have hk:¬ p.1=k:=fun z=>by rw [iu z] at hn;cases hn
  rw [iw hk] at hn;have ih:=zb k j y r hn;by_cases e:p.1=j
  ·rw [iu e,iu e,if_neg (fun z=>hk (e.trans z))]
  ·rw [iw e,iw e,ih]
theorem Bu (kvs:List (κ×V)) (k j:κ) (y:V):lU (putK kvs k y) j=if j=k then some y else lU kvs j:=by
 unfold putK;by_cases a:(kvs.any fun kv=>decide (kv.1=k))=true
 ·rw [if_pos a,Bt]
  rw [um] at a;by_cases e:j=k
  ·obtain ⟨x,hx⟩:=Option.isSome_iff_exists.mp a
   rw [if_pos e,e,hx,Option.map_some,if_pos rfl]
  ·rw [if_neg e]
   cases lU kvs j with
   | none=>rfl
   | some x=>rw [Option.map_some,if_neg e]
 ·rw [if_neg a]
  refine zb k j y kvs ?_;rw [um] at a;cases q:lU kvs k with
  | none=>rfl
  | some x=>rw [q] at a;exact (a rfl).elim
theorem mG (kvs:List (κ×V)) (k:κ) (v:V):(putK kvs k v).length<=kvs.length+1:=by
 unfold putK
 split
 ·rw [ZJ];omega
 ·rw [Z8,Aap,AaL];omega
theorem RelO.isSome_eq {o:Option V} {u:Option Value} (r:RelO o u):o.isSome=u.isSome:=by
 cases o with
 | none=>cases u with
  | none=>rfl
  | some _=>exact (show False from r).elim
 | some _=>cases u with
  | none=>exact (show False from r).elim
  | some _=>rfl
theorem KV.val {kvs:List (κ×V)} {vs:List (κ×Value)} (r:KV kvs vs) (k:κ):RelO (lU kvs k) (valueAt vs k):=by
 unfold KV at r
 induction r with
 | nil=>exact True.intro
 | @cons p q ps qs h t ih=>
  obtain ⟨h1,h2⟩:=h;by_cases e:p.1=k
  ·have e':q.1=k:=h1.symm.trans e
   have b:valueAt (q :: qs) k=some q.2:=by simp [valueAt,AbE,e']
   rw [iu e,b];exact h2
  ·have e':¬ q.1=k:=fun z=>e (h1.trans z)
   have b:valueAt (q :: qs) k=valueAt qs k:=by simp [valueAt,AbE,e']
   rw [iw e,b];exact ih
theorem KV.any {kvs:List (κ×V)} {vs:List (κ×Value)} (r:KV kvs vs) (k:κ):(kvs.any fun kv=>decide (kv.1=k))=vs.any fun kv=>decide (kv.1=k):=by
 unfold KV at r
 induction r with
 | nil=>rfl
 | cons h t ih=>rw [List.any_cons,List.any_cons,ih,h.1]
theorem KV.repl {kvs:List (κ×V)} {vs:List (κ×Value)} (r:KV kvs vs) (k:κ) {y:V} {u:Value} (ry:RelV y u):
  KV (kvs.map fun kv=>if kv.1=k then (kv.1,y) else kv) (vs.map fun kv=>if kv.1=k then (kv.1,u) else kv):=by
 unfold KV at r ⊢
 induction r with
 | nil=>exact .nil
 | @cons p q ps qs h t ih=>
  rw [Aaj,Aaj];refine .cons ?_ ih;obtain ⟨h1,h2⟩:=h;by_cases e:p.1=k
  ·rw [if_pos e,if_pos (h1.symm.trans e)];exact ⟨h1,ry⟩
  ·rw [if_neg e,if_neg (fun z=>e (h1.trans z))];exact ⟨h1,h2⟩
theorem KV.put {kvs:List (κ×V)} {vs:List (κ×Value)} (r:KV kvs vs) (k:κ) {y:V} {u:Value} (ry:RelV y u):KV (putK kvs k y) (stored vs k u):=by
 unfold putK stored;rw [r.any k];by_cases e:(vs.any fun kv=>decide (kv.1=k))=true
 ·rw [if_pos e,if_pos e];exact r.repl k ry
 ·rw [if_neg e,if_neg e];exact Paired.snoc r ⟨rfl,ry⟩
theorem KV.length {kvs:List (κ×V)} {vs:List (κ×Value)} (r:KV kvs vs):kvs.length=vs.length:=Paired.length r
end
theorem KJ {P:Program} {w:World} {k:Key} {u:Value} (r:RelV (kV k) u):(cH P w).is k u=true:=by
 cases k with
 | inl i=>obtain ⟨t,e⟩:=(show ∃ t,u=Value.int i t from r);subst e;exact Bh P w i t
 | inr x=>obtain ⟨t,e⟩:=(show ∃ t,u=Value.str x t from r);subst e;exact Bj P w x t
theorem zc {P:Program} {w:World}:∀ {ks:List Key} {us:List Value},Vals (ks.map kV) us->ItemsAre (cH P w) ks us
 | [],_,r=>by rw [List.map_nil] at r;cases r;exact .nil
 | k :: ks,_,r=>by
  rw [Aaj] at r;cases r with
  | cons h t=>exact .cons (KJ h) (zc t)
abbrev KT (H:Hp):List (List Key×V)->List (List Key×Addr×Value)->Prop:=Paired fun p q=>p.1=q.1/\H q.2.1=some (.tup (p.1.map kV))/\RelV p.2 q.2.2
theorem KT.val {H:Hp} {kvs:List (List Key×V)} {xs:List (List Key×Addr×Value)} (r:KT H kvs xs) (k:List Key):RelO (lU kvs k) ((atKey xs k).map (·.2)):=by
 induction r with
 | nil=>exact True.intro
 | @cons p q ps qs h t ih=>
  obtain ⟨h1,_,h2⟩:=h;by_cases e:p.1=k
  ·have e':q.1=k:=h1.symm.trans e
   have b:atKey (q :: qs) k=some q.2:=by simp [atKey,AbE,e']
   rw [iu e,b];exact h2
  ·have e':¬ q.1=k:=fun z=>e (h1.trans z)
   have b:atKey (q :: qs) k=atKey qs k:=by simp [atKey,AbE,e']
   rw [iw e,b];exact ih
theorem KT.repl {H:Hp} {kvs:List (List Key×V)} {xs:List (List Key×Addr×Value)} (r:KT H kvs xs) (k:List Key) {y:V} {u:Value} (ry:RelV y u):
  KT H (kvs.map fun kv=>if kv.1=k then (kv.1,y) else kv) (xs.map (putAt k u)):=by
 induction r with
 | nil=>exact .nil
 | @cons p q ps qs h t ih=>
  rw [Aaj,Aaj];refine .cons ?_ ih;obtain ⟨h1,h2,h3⟩:=h;unfold putAt;by_cases e:p.1=k
  ·rw [if_pos e,if_pos (h1.symm.trans e)];exact ⟨h1,h2,ry⟩
  ·rw [if_neg e,if_neg (fun z=>e (h1.trans z))];exact ⟨h1,h2,h3⟩
theorem KT.put {H:Hp} {kvs:List (List Key×V)} {xs:List (List Key×Addr×Value)} (r:KT H kvs xs) (k:List Key) {b:Addr} {y:V} {u:Value} (hb:H b=some (.tup (k.map kV))) (ry:RelV y u):
  KT H (putK kvs k y) (storedH xs k b u):=by
 have e:(kvs.any fun kv=>decide (kv.1=k))=(atKey xs k).isSome:=by
  rw [um,(r.val k).isSome_eq,Option.isSome_map]
 unfold putK storedH;rw [e];by_cases q:(atKey xs k).isSome=true
 ·rw [if_pos q,if_pos q];exact r.repl k ry
 ·rw [if_neg q,if_neg q];exact Paired.snoc r ⟨rfl,hb,ry⟩
theorem KT.keeps {H H':Hp} {kvs:List (List Key×V)} {xs:List (List Key×Addr×Value)} (r:KT H kvs xs) (ht:∀ b ys,H b=some (.tup ys)->H' b=some (.tup ys)):KT H' kvs xs:=
 Paired.mapP r fun _ _ z=>⟨z.1,ht _ _ z.2.1,z.2.2⟩
section
variable {P:Program} {w:World} {H:Hp} {h:Heap} {a:Addr}
theorem R9 {u:HO} (ok:HOk P w H h) (e:Rd H a u):ObjOk P w H h a u:=e.ok ok
theorem Sd {kvs:List (Key×V)} (ok:HOk P w H h) (e:Rd H a (.dK kvs)):kvs.length<=sizeLine/\(a == sysModules)=false/\∃ vs,KV kvs vs/\h.DictOf (cH P w) a vs:=
 show ObjOk P w H h a (.dK kvs) from R9 ok e
theorem XQ {kvs:List (Key×V)} (ok:HOk P w H h) (e:H a=some (.dK kvs)):kvs.length<=sizeLine/\(a == sysModules)=false/\∃ vs,KV kvs vs/\h.DictOf (cH P w) a vs:=Sd ok (.inl e)
theorem DP {ks:List Key} (ok:HOk P w H h) (e:H a=some (.tup (ks.map kV))):(tupleKind (cH P w)).is h ks a:=by
 obtain ⟨_,its,r,o,h1,h2,n,h3⟩:=(show ObjOk P w H h a (.tup (ks.map kV)) from ok a _ e);exact ⟨o,its.toArray,n,h1,h2,h3,by simpa using zc r⟩
theorem Sg {kvs:List (List Key×V)} (ok:HOk P w H h) (e:Rd H a (.dT kvs)):kvs.length<=sizeLine/\(a == sysModules)=false/\
  ∃ xs,KT H kvs xs/\h.DictOfH (tupleKind (cH P w)) a xs:=by
 obtain ⟨z,y,xs,r,o,es,ep,h1,h2,h3,h4,h5⟩:=(show ObjOk P w H h a (.dT kvs) from R9 ok e);refine ⟨z,y,xs,r,o,es,ep,h1,h2,h3,h4,fun x hx=>?_,h5⟩
 have all:∀ {l:List (List Key×V)} {m:List (List Key×Addr×Value)},KT H l m->∀ x∈m,(tupleKind (cH P w)).is h x.1 x.2.1:=by
  intro l m q
  induction q with
  | nil=>intro x hx;exact nomatch hx
  | @cons p q ps qs hq t ih=>
   intro x hx;rcases ZQ.mp hx with e | hx
   ·subst e
    exact DP ok (by rw [← hq.1];exact hq.2.1)
   ·exact ih x hx
 exact all r x hx
theorem XR {kvs:List (List Key×V)} (ok:HOk P w H h) (e:H a=some (.dT kvs)):kvs.length<=sizeLine/\(a == sysModules)=false/\
  ∃ xs,KT H kvs xs/\h.DictOfH (tupleKind (cH P w)) a xs:=Sg ok (.inl e)
end
def DGet (H:Hp) (a:Addr) (y:V) (r:Option V):Prop:=
 (∃ kvs k,Rd H a (.dK kvs)/\y=kV k/\r=lU kvs k)\/∃ kvs k b,Rd H a (.dT kvs)/\y= .ref b/\H b=some (.tup (k.map kV))/\r=lU kvs k
def DPut (H:Hp) (a:Addr) (y v:V) (H':Hp):Prop:=
 (∃ kvs k,H a=some (.dK kvs)/\y=kV k/\kvs.length < sizeLine/\H'=upd H a (.dK (putK kvs k v)))\/
 ∃ kvs k b,H a=some (.dT kvs)/\y= .ref b/\H b=some (.tup (k.map kV))/\kvs.length < sizeLine/\H'=upd H a (.dT (putK kvs k v))
theorem DGet.k {H:Hp} {a:Addr} {kvs:List (Key×V)} {k:Key} (e:H a=some (.dK kvs)):DGet H a (kV k) (lU kvs k):=.inl ⟨kvs,k,.inl e,rfl,rfl⟩
theorem DPut.k {H:Hp} {a:Addr} {kvs:List (Key×V)} {k:Key} {v:V} (e:H a=some (.dK kvs)) (hl:kvs.length < sizeLine):DPut H a (kV k) v (upd H a (.dK (putK kvs k v))):=.inl ⟨kvs,k,e,rfl,hl,rfl⟩
section
variable {X:Cx} {pins:List (Addr×Obj)} {U:St} {H:Hp} {s:Shared} {a:Addr} {y v:V} {u r:Value} {o:Option V} {A:Around} {E:Value->Shared->Prop}
theorem Inv.big (I:Inv X pins U H s):sysModules < s.heap.objs.size:=by
 have h:mainGlobals < s.heap.objs.size:=(I.mod.glob.keeps I.bk).lt;exact Nat.lt_trans (by decide) h
theorem d_in {Q:Value->Shared->Prop} (hu:A.units+1 < cLine) (I:Inv X pins U H s) (g:DGet H a y o) (ry:RelV y u) (h:∀ s',Inv X pins U H s'->Q (.bool o.isSome) s'):
  wpAny (model X.prog X.w) A (compareOp .In u (.ref a)) Q E s:=by
 rcases g with ⟨kvs,k,e,ey,l⟩ | ⟨kvs,k,b,e,ey,eb,l⟩
 ·subst ey
  obtain ⟨z,hd,vs,rel,dd⟩:=Sd I.hok e;refine wpAny_in_of (KJ ry) hd dd.mapOf ?_;rw [← (rel.val k).isSome_eq,← l];exact h _ (I.tok _)
 ·subst ey
  cases (show u=Value.ref b from ry);obtain ⟨z,hd,xs,rel,dd⟩:=Sg I.hok e;refine wpAny_in_heap (tupleKind_room_in1 hu) (DP I.hok eb) hd dd ?_;have q:=(rel.val k).isSome_eq;rw [Option.isSome_map] at q;rw [← q,← l];exact h _ (I.tok _)
theorem Gg {h':Heap} {t':Nat} {ob:HO} (I:Inv X pins U H s) (mu:Xh (H a)) (hs:Heap.SameBut a s.heap h') (he:∃ q,h'.get? a=some q) (new:ObjOk X.prog X.w (upd H a ob) h' a ob):
  Inv X pins U (upd H a ob) {s with heap:=h',toks:=t'}:=
 I.write (x:=a) (e:=a) mu (.inl rfl) (fun b q hb z=>(hs.2 b hb).trans z) he new
theorem Vj {P:Program} {w:World} {H':Hp} {h':Heap} {kvs:List (Key×V)} {vs:List (Key×Value)} (z:kvs.length<=sizeLine) (hd:(a == sysModules)=false) (rel:KV kvs vs) (dd:h'.DictOf (cH P w) a vs):
  ObjOk P w H' h' a (.dK kvs):=⟨z,hd,vs,rel,dd⟩
theorem HN {H':Hp} {Q:Unit->Shared->Prop} (hu:A.units+1 < cLine) (I:Inv X pins U H s) (g:DPut H a y v H') (ry:RelV y u) (rv:RelV v r) (h:∀ s',Inv X pins U H' s'->Q () s'):
  wpAny (model X.prog X.w) A (setItem (.ref a) u r) Q E s:=by
 rcases g with ⟨kvs,k,e,ey,l,eH⟩ | ⟨kvs,k,b,e,ey,eb,l,eH⟩
 ·subst ey eH
  obtain ⟨z,hd,vs,rel,dd⟩:=XQ I.hok e;have hz:vs.length<=sizeLine:=by rw [← rel.length];exact z
  have hl:(putK kvs k v).length<=sizeLine:=by have:=mG kvs k v;omega
  refine wpAny_setItem_pairs (hsz:=hz) (KJ ry) dd fun h' dd' hs=>h _ ?_
  have he:∃ q,h'.get? a=some q:=let ⟨q,_,_,hq,_⟩:=dd';⟨q,hq⟩
  exact Gg I (by rw [e];exact True.intro) hs he (Vj hl hd (rel.put k rv) dd')
 ·subst ey eH
  cases (show u=Value.ref b from ry);obtain ⟨z,hd,xs,rel,dd⟩:=XR I.hok e;have hz:xs.length<=sizeLine:=by rw [← Paired.length rel];exact z
  have hl:(putK kvs k v).length<=sizeLine:=by have:=mG kvs k v;omega
  refine wpAny_setItem_heap (hsz:=hz) (tupleKind_room_in1 hu) (DP I.hok eb) dd fun h' dd' hs=>h _ ?_
  obtain ⟨q,es,ep,hq,h2,h3,h4,_,h5⟩:=dd';refine Gg I (by rw [e];exact True.intro) hs ⟨q,hq⟩ ⟨hl,hd,_,(rel.put k eb rv).keeps fun c ys ec=>?_,q,es,ep,hq,h2,h3,h4,h5⟩;rw [aC (Xg ec e (fun z=>nomatch z))];exact ec
end
theorem KN {P:Program} {w:World} {H:Hp} (h:Heap) (hb:sysModules < h.objs.size):ObjOk P w H (h.push {cls:=.type "dict",data:=.dict #[]}) h.objs.size (.dK []):=
 ⟨AaE _,Abb.mpr (Ne.symm (Aah hb)),[],.nil,Heap.DictOf.new h⟩
def DQ:TE:=fun _ H Q=>∀ p,H p=none->Q (.ref p) (upd H p (.dK []))
section
variable {X:Cx} {pos:Pos}
theorem KQ:PE X (.Dict [] [] pos) DQ:=fun pins s U H Q I h=>
 wpAny_Dict_empty ⟨.ref s.heap.objs.size,_,I.laid (a:=s.heap.objs.size) (o:=.dK []) (t':=s.toks) (fun _ _ q=>Zz _ q) (ZC _) (KN s.heap I.big),rfl,h _ (I.hok.fresh (ZC _))⟩
end
def XS (x:Str):It:=⟨fun i _=>i < x.cps.size,fun i H v H'=>H'=H/\∃ c,x.cps[i]?=some c/\v= .str ⟨#[c]⟩,fun i _=>i=x.cps.size⟩
theorem Bv {P:Program} {w:World} {K:W.Frag} {tg:Expr} (it:Addr) (x:Str) (t:Tok) (ty:String)
  (hty:["enumerate","zip","dict_itemiterator","dict_reverseitemiterator","odict_iterator","itertools.zip_longest","itertools.pairwise"].contains ty=false)
  (W:∀ A:Around,A.handled=none->Walks P w A it [it] [it] x.cps.size (SignAt x) fun i h=>h.IsStrIter it ty x t i)
  (hself:∀ (A:Around) (i:Nat) (s:Shared) (Q:Value->Shared->Prop) (E:Value->Shared->Prop),s.heap.IsStrIter it ty x t i->Q (.ref it) s->wpAny (model P w) A (pyIter (.ref it)) Q E s):Turn P w K tg (XS x) [it] it (fun i h=>h.IsStrIter it ty x t i) where
 mem:=by simp
 obj:=fun i h st b hb=>by
  have e:b=it:=by simpa using hb
  subst e;obtain ⟨o,e,c,d⟩:=st;exact ⟨o,e,fun v z=>by rw [d] at z;cases z⟩
 keep:=fun i h h' st k=>by
  obtain ⟨o,e,r⟩:=st;exact ⟨o,k it (by simp) o e,r⟩
 item:=by
  intro X hP hw hK hc i pins s U H E I hf st hg;subst hP hw hK;obtain ⟨f0,f1,f2,f3,f4,f5⟩:=hf it (by simp);refine (W X.A (I.ok.hd hc)).item i s _ _ hg st fun v h' tk hv st' kk=>?_
  obtain ⟨c,u,e1,rfl⟩:=hv;have I1:Inv X pins U H {s with heap:=h',toks:=tk}:=I.turned (fun b o hb e=>kk b o (by simpa using hb) e) f0 f1 f3 f4 f5;obtain ⟨o,e,cl,d⟩:=id st';exact ⟨_,rfl,FJ (s:={s with heap:=h',toks:=tk}) e cl d hty ⟨.str ⟨#[c]⟩,H,I1,⟨u,rfl⟩,⟨rfl,c,e1,rfl⟩,st',fun b hb=>(hf b hb).1⟩⟩
 done:=by
  intro X hP hw hK hc i pins s U H E I hf st hg;subst hP hw hK;obtain ⟨f0,f1,f2,f3,f4,f5⟩:=hf it (by simp);have hg:i=x.cps.size:=hg;subst hg;exact (W X.A (I.ok.hd hc)).done s _ _ st fun h' tk kk=>⟨rfl,I.turned (fun b o hb e=>kk b o (by simpa using hb) e) f0 f1 f3 f4 f5⟩
 self:=hself
section
variable {X:Cx}
theorem all_range {bs:List Bool}:(List.range bs.length).all (fun i=>bs.getD i false)=bs.all id:=by
 rw [Bool.eq_iff_iff];simp only [Aa4,ZX];constructor
 ·intro h b hb
  obtain ⟨i,hi,e⟩:=Abr.mp hb;have:=h i hi;rw [Zv,Zw hi] at this;simp only [Option.getD_some] at this;rw [← e];exact this
 ·intro h i hi
  rw [Zv,Zw hi];exact h _ (Aat hi)
theorem vO:∀ {bs:List Bool} {us:List Value} {i:Nat} {v:Value},Vals (bs.map V.bl) us->us[i]?=some v->v= .bool (bs.getD i false)
 | [],_,i,v,.nil,e=>by simp at e
 | b :: bs,_,0,v,.cons r t,e=>by simp at e;subst e;exact r
 | b :: bs,_,i+1,v,.cons r t,e=>by
  simp at e;have:=vO (bs:=bs) t e;simpa using this
def rAll:List V->Hp->VK->Prop:=fun xs H Q=>∃ (p:Addr) (bs:List Bool),xs=[.ref p]/\H p=some (.lst (bs.map V.bl))/\Q (.bl (bs.all id)) H
theorem Bw (hc:X.calm=true):CallR X (.builtin "all") rAll:=by
 intro pins s U H xs us Q I r h;obtain ⟨p,bs,rfl,hp,q⟩:=h;obtain ⟨u,rfl,ru⟩:=vals1 r;cases ru;obtain ⟨hz,its,n,rv,e⟩:=I.hok p _ hp;refine call_all_walk (wpAny_pyIter_list (items:=its.toArray) ⟨_,e,rfl,n,rfl⟩ ?_);refine ⟨s.heap.objs.size,_,_,_,_,_,fun i=>bs.getD i false,rfl,Walks.list (A:=X.A.in1) (I.ok.hd hc) s.heap.objs.size p (Aah (ZL e)) its.toArray,⟨⟨_,ZP _ rfl,rfl,rfl⟩,⟨_,Zz _ e,rfl,n,rfl⟩⟩,?_,fun h' tk hk=>?_⟩
 ·intro i v s' Q' E' hv hq
  have:=vO rv (by simpa using hv);subst this;exact AaT hq
 ·have hl:its.toArray.size=bs.length:=by have:=rv.length;simpa using this.symm
  rw [hl,all_range];refine ⟨.bl _,H,?_,rfl,q⟩;exact I.kept fun b o e=>hk b o (by simp;exact Aah (ZL e)) (Zz _ e)
theorem xu:∀ {ys:List Str} {us:List Value},Vals (ys.map V.str) us->StrsAre us ys
 | [],_,.nil=>.nil
 | y :: ys,_,.cons r t=>by
  obtain ⟨k,e⟩:=(show ∃ t,_=Value.str y t from r);subst e;exact .cons y k (xu t)
def rJoin:V->List V->Hp->VK->Prop:=fun x xs H Q=>∃ (sep:Str) (p:Addr) (ys:List Str),x= .str sep/\xs=[.ref p]/\H p=some (.lst (ys.map V.str))/\(ys.map (·.length)).sum+ys.length*sep.length<=16777216/\Q (.str (Txt.join sep ys)) H
theorem Gh:Qg X "str.join" rJoin:=by
 intro pins s U H x xs v us Q I rx r h;obtain ⟨sep,p,ys,rfl,rfl,hp,hz,q⟩:=h;obtain ⟨u,rfl,ru⟩:=vals1 r;cases ru;obtain ⟨t,rfl⟩:=rx;obtain ⟨hz',its,n,rv,e⟩:=I.hok p _ hp;exact join_list (items:=its.toArray) ⟨_,e,rfl,n,rfl⟩ (by simpa using xu rv) hz fun t' k=>⟨.str _,H,I.tok _,⟨_,rfl⟩,q⟩
def XX:V->Option Int->Option Int->Hp->VK->Prop:=fun v lo hi H Q=>∃ x,v= .str x/\x.length<=sizeLine/\Q (.str (Txt.slice x lo hi)) H
theorem Vk:SlR X XX:=by
 intro pins s U H x v vl vu lo hi sl Q I rx hs pl pu h;obtain ⟨z,rfl,hz,q⟩:=h;obtain ⟨t,rfl⟩:=rx;refine ⟨"str",_,F.slot_str_getitem.lookup,typeIs_str _ _ _,?_⟩;have fin:∀ (t' k:Nat),EP X pins U Q (.str (Txt.slice z lo hi) t') {s with toks:=k}:=fun t' k=>⟨.str _,H,I.tok _,⟨_,rfl⟩,q⟩
 have sz:=ZG (Txt.slice_le z lo hi) hz;obtain ⟨o,ho,hc,hd⟩:=hs;cases pl with
 | none=>
  cases pu with
  | none=>exact Abw (l:=none) (u:=none) (st:=none) ⟨o,ho,hc,hd⟩ rfl (post_val_or_str ⟨sz,fin⟩)
  | int j tj=>exact Abw (l:=none) (u:=some (j,tj)) (st:=none) ⟨o,ho,hc,hd⟩ rfl (post_val_or_str ⟨sz,fin⟩)
 | int i ti=>
  cases pu with
  | none=>exact Abw (l:=some (i,ti)) (u:=none) (st:=none) ⟨o,ho,hc,hd⟩ rfl (post_val_or_str ⟨sz,fin⟩)
  | int j tj=>exact Abw (l:=some (i,ti)) (u:=some (j,tj)) (st:=none) ⟨o,ho,hc,hd⟩ rfl (post_val_or_str ⟨sz,fin⟩)
def Sh:R2:=fun x y H Q=>∃ i n,x= .str i/\y= .int n/\MulOk i n/\Q (.str (Txt.mul i n)) H
theorem DW:OpR X (binaryOp .Mult) Sh:=by
 intro pins s U H x y v u Q I rx ry h;obtain ⟨i,n,rfl,rfl,hk,q⟩:=h;obtain ⟨t,rfl⟩:=rx;obtain ⟨t',rfl⟩:=ry;exact SB.mul hk fun t' k=>⟨.str _,H,I.tok _,⟨_,rfl⟩,q⟩
def sgn (x:Str):List V:=x.cps.toList.map fun c=>V.str ⟨#[c]⟩
theorem HQ {x:Str} {acc:Array Value} (h:ItemsOf (SignAt x) acc x.cps.size):Vals (sgn x) acc.toList:=by
 obtain ⟨h1,h2⟩:=h
 have key:∀ (l:List Nat) (a:List Value),l.length=a.length->(∀ (j:Nat) (v:Value),a[j]?=some v->∃ (c:Nat) (u:Tok),l[j]?=some c/\v=Value.str ⟨#[c]⟩ u)->Vals (l.map fun c=>V.str ⟨#[c]⟩) a:=by
  intro l
  induction l with
  | nil=>intro a hl _;cases a with
   | nil=>exact .nil
   | cons _ _=>simp at hl
  | cons c l ih=>
   intro a hl hh;cases a with
   | nil=>simp at hl
   | cons v a=>
    obtain ⟨c',u,e1,e2⟩:=hh 0 v (by simp);simp at e1;subst e1;refine .cons ⟨u,e2⟩ (ih a (by simpa using hl) fun j v' e=>?_);obtain ⟨c',u,e1,e2⟩:=hh (j+1) v' (by simpa using e);exact ⟨c',u,by simpa using e1,e2⟩
 refine key x.cps.toList acc.toList (by simp [h1]) fun j v e=>?_
 obtain ⟨c,u,e1,e2⟩:=h2 j v (by simpa using e);exact ⟨c,u,by simpa using e1,e2⟩
theorem Bx (hc:X.calm=true):CallR X (.type "list") (fun xs H Q=>∃ x,xs=[.str x]/\x.cps.size<=sizeLine/\∀ p,H p=none->Q (.ref p) (upd H p (.lst (sgn x)))):=by
 intro pins s U H xs us Q I r h;obtain ⟨x,rfl,hz,q⟩:=h;obtain ⟨u,rfl,t,rfl⟩:=vals1 r;refine call_list_str (I.ok.hd hc) x t (hn:=hz) fun h' tk acc' c' hk hS hacc=>?_
 refine ⟨.ref s.heap.objs.size,_,I.laid (o:=.lst (sgn x)) hk (ZC _) ⟨by simp [sgn];exact hz,acc'.toList,c',HQ hacc,by simpa using hS⟩,rfl,q _ I.fresh⟩
def Vl (K:W.Frag):List V->Hp->VK->Prop:=fun xs H Q=>∃ x T t b,xs=[x,.ty T]/\TyOf K H x t/\PySem.W.kitOne K t (.type T)=some b/\Q (.bl b) H
theorem KR:CallR X (.builtin "isinstance") (Vl X.K):=by
 intro pins s U H xs us Q I r h;obtain ⟨x,T,t,b,rfl,ty,e,q⟩:=h;obtain ⟨u,v,rfl,ru,rv⟩:=vals2 r;cases rv;exact Ht I ru ty e fun tk=>⟨.bl b,H,I.tok _,rfl,q⟩
def DX:List V->List V->Bool
 | [],[]=>true
 | x :: xs,y :: ys=>Gb x y && DX xs ys
 | _,_=>false
theorem xx:∀ (xs ys:List V),xs.length=ys.length->(List.range xs.length).all (fun j=>Gb (xs.getD j .non) (ys.getD j .non))=DX xs ys
 | [],[],_=>rfl
 | x :: xs,y :: ys,h=>by
  have ih:=xx xs ys (by simpa using h);rw [Aap,List.range_succ_eq_map,AaA,List.all_map];simp only [DX];rw [← ih];rfl
 | [],y :: ys,h=>by simp at h
 | x :: xs,[],h=>by simp at h
theorem By:∀ {xs ys:List V},xs.length≠ys.length->DX xs ys=false
 | [],[],h=>absurd rfl h
 | [],y :: ys,_=>rfl
 | x :: xs,[],_=>rfl
 | x :: xs,y :: ys,h=>by simp [DX,By (xs:=xs) (ys:=ys) (by simpa using h)]
def X3 (K:W.Frag) (neg:Bool):R2:=fun x y H Q=>∃ a b xs ys,x= .ref a/\y= .ref b/\SqL K H a xs/\SqL K H b ys/\xs.all jz=true/\ys.all jz=true/\Q (.bl (if neg then !DX xs ys else DX xs ys)) H
theorem HR (hu:X.A.units < cLine):OpR X (compareOp .Eq) (X3 X.K false):=by
 intro pins s U H x y v u Q I rx ry h;obtain ⟨a,b,xs,ys,rfl,rfl,ha,hb,fx,fy,q⟩:=h;cases rx;cases ry;obtain ⟨its,r1,p1,z1⟩:=I.list ha;obtain ⟨jts,r2,p2,z2⟩:=I.list hb;have l1:its.toArray.size=xs.length:=by simpa using r1.length.symm
 have l2:jts.toArray.size=ys.length:=by simpa using r2.length.symm
 by_cases hl:xs.length=ys.length
 ·refine SeqAt.eq_listAt (e:=fun j=>Gb (xs.getD j .non) (ys.getD j .non)) p1.isList p2.isList (by rw [l1,l2];exact hl) hu (fun j h1 h2=>?_) ?_
  ·have h1':j < xs.length:=by omega
   have h2':j < ys.length:=by omega
   obtain ⟨u1,e1,q1⟩:=r1.get (Zw h1');obtain ⟨u2,e2,q2⟩:=r2.get (Zw h2')
   have e1':its.toArray[j]=u1:=by
    have:=Zx.mp e1;obtain ⟨_,z⟩:=this;simpa using z
   have e2':jts.toArray[j]=u2:=by
    have:=Zx.mp e2;obtain ⟨_,z⟩:=this;simpa using z
   rw [e1',e2'];have g1:xs.getD j .non=xs[j]:=by rw [Zv,Zw h1'];rfl
   have g2:ys.getD j .non=ys[j]:=by rw [Zv,Zw h2'];rfl
   show SeqAt.EqAt X.A.in1 s u1 u2 (Gb (xs.getD j .non) (ys.getD j .non));rw [g1,g2];exact uZ q1 q2 (Aa4.mp fx _ (Aat h1')) (Aa4.mp fy _ (Aat h2'))
  ·rw [l1,xx xs ys hl]
   exact ⟨.bl _,H,I,rfl,q⟩
 ·refine SeqAt.eq_list_lengthsAt p1.isList p2.isList (by rw [l1,l2];simpa using hl) hu ?_
  rw [if_neg (by simp),By hl] at q;exact ⟨.bl false,H,I,rfl,q⟩
end
def fO (K:W.Frag) (mg:Str->Option Value) (x:Str) (st:Stmt):Prop:=∃ f fd,Fun K x x st f fd/\mg x=some (.ref f)
theorem bA {K:W.Frag} {mg:Str->Option Value} {h:Heap} (X:K.In h) (G:h.Ns mainGlobals mg) {x:Str} {st:Stmt} {f:Addr} {oc:Value} {od an:Option Addr} {osl:Array (Option Value)} {kV doc pm cdv ct:Value}
  (a:PySem.W.nsIn K mainGlobals x=some (some (.ref f)))
  (l:K.lookup f=some ⟨oc,od,.func (PySem.W.fnOf x x (iz st) (cM st) (az st) .none kV doc pm an cdv ct),osl⟩)
  (c:PySem.W.codeIn K cdv x=true) (k:PySem.W.keepIn K (.ref f)=true):fO K mg x st:=⟨f,_,DK l c k,AbG X G a⟩
def Has (P:Program) (w:World) (K:W.Frag) (mg:Str->Option Value) (base:Heap) (k:Nat) (x:Str) (ps:List Str) (sp:Sp):Prop:=
 ∃ f fd,mg x=some (.ref f)/\PySem.W.keepIn K (.ref f)=true/\Binds K fd ps []/\FnOk P w K mg base HD k f fd ps sp
section
variable {P:Program} {w:World} {K:W.Frag} {mg:Str->Option Value} {base:Heap}
theorem Has.mono {j k:Nat} {x:Str} {ps:List Str} {sp:Sp} (h:Has P w K mg base j x ps sp) (hk:j<=k):Has P w K mg base k x ps sp:=
 let ⟨f,fd,a,b,c,d⟩:=h;⟨f,fd,a,b,c,d.mono hk⟩
theorem Vm {x:Str} {st:Stmt} {N ps:List Str} {k:Nat} {sp:Sp} (D:fO K mg x st) (S:aD N ps (az st))
  (hb:∀ (kV doc pm:Value) (an:Option Addr) (cdv ct:Value) (us:List Value),us.length=ps.length->bindArgs (PySem.W.fnOf x x (iz st) (cM st) (az st) .none kV doc pm an cdv ct) ⟨us,[]⟩=pure (ps.zip us))
  (len:∀ vs H Q E,sp vs H Q E->vs.length=ps.length)
  (hbody:∀ (f:Addr) (cdv:Value) (A:Around) (outer:List Env) (s:Shared) (H:Hp) (vs:List V) (Q:VK) (E:XK),Room k (A.deeper (envOfC x (az st) s.heap.objs.size f cdv))->sp vs H Q E->
   ∃ t,PSs (rQ HD P w K mg base N x (az st) f cdv A outer s H E).nox (cM st) t/\t {nx:=fun _ H'=>Q .non H',rt:=Q} (start N vs) H):Has P w K mg base (k+1) x ps sp:=by
 obtain ⟨f,fd,F,hm⟩:=D;exact ⟨f,fd,hm,F.kp,F.binds hb,F.ok S len fun cdv A outer s H vs Q E hr h=>hbody f cdv A outer s H vs Q E hr h⟩
end
section
variable {X:Cx}
theorem KY {k:Nat} {x:Str} {ps:List Str} {sp:Sp} {p pos:Pos} {e:Expr} {es:List Expr} {t:TA} (F:Has X.prog X.w X.K X.mg X.base k x ps sp) (hr:Room k X.A) (hg:Gl X x)
  (ha:PA X (e :: es) t) (hdb:autoParam ((x == ("__debug__":Str))=false) L2.auto2._auto_1) (he:autoParam (starEach (e :: es) X.env=(false,eval e X.env) :: starEach es X.env) L2.auto4._auto_1) (hpl:autoParam ((backTo pos (starEach es X.env)).any (·.1)=false) L2.auto4._auto_1):
  PE X (.Call (.Name x p) (e :: es) [] pos) (yU sp [] E0 t):=by
 obtain ⟨f,fd,a,b,c,d⟩:=F;exact Qd d hr hg a b c .nil XN ha hdb he hpl
def BJ:R2:=fun x y H Q=>(∃ i j,x= .int i/\y= .int j/\Q (.int (i+j)) H)\/(∃ i j,x= .str i/\y= .str j/\i.length+j.length<=sizeLine/\Q (.str (i ++ j)) H)\/XJ x y H Q
theorem aN:OpR X (binaryOp .Add) BJ:=Uv.or (Dq.or Vh)
def KZ:R2:=fun x y H Q=>(∃ i j,x= .int i/\y= .int j/\CMul i j/\Q (.int (i*j)) H)\/Sh x y H Q\/XM x y H Q
theorem kI:OpR X (binaryOp .Mult) KZ:=Uw.or (DW.or Vi)
theorem K5 {x:Str} {z:Str} {pos:Pos} (hg:Gl X x) (hm:∃ t,X.mg x=some (.str z t)) (hd:autoParam ((x == ("__debug__":Str))=false) L2.auto2._auto_1):PE X (.Name x pos) (tC (.str z)):=
 let ⟨t,e⟩:=hm;Fx hg e ⟨t,rfl⟩ hd
theorem K7 {x:Str} {z:Int} {pos:Pos} (hg:Gl X x) (hm:∃ t,X.mg x=some (.int z t)) (hd:autoParam ((x == ("__debug__":Str))=false) L2.auto2._auto_1):PE X (.Name x pos) (tC (.int z)):=
 let ⟨t,e⟩:=hm;Fx hg e ⟨t,rfl⟩ hd
theorem X4 {x:Str} {T:String} {pos:Pos} (hg:Gl X x) (hm:X.mg x=none) (hv:bootBuiltins x=some (.type T)) (hn:autoParam (x≠"__name__") L2.auto2._auto_1) (hd:autoParam ((x == ("__debug__":Str))=false) L2.auto2._auto_1):PE X (.Name x pos) (tC (.ty T)):=
 O6 hg hm hv rfl hn hd
def Ql (K:W.Frag):R2:=fun x y H Q=>(∃ i j,x= .str i/\y= .str j/\Q (.bl (!(Builtin.Str.occurrences j i 0 j.length 1).isEmpty)) H)\/rIn K false x y H Q
theorem Vn:OpR X (compareOp .In) (Ql X.K):=Hm.or Hy
def Vo (K:W.Frag):R2:=fun x y H Q=>rEq x y H Q\/X3 K false x y H Q
theorem Vp (hu:X.A.units < cLine):OpR X (compareOp .Eq) (Vo X.K):=Xp.or (HR hu)
def Zj (K:W.Frag):V->Option Int->Option Int->Hp->VK->Prop:=fun x lo hi H Q=>Xz K x lo hi H Q\/Xu K x lo hi H Q\/XX x lo hi H Q
theorem Vq:SlR X (Zj X.K):=Qi.or (Vb.or Vk)
def Qm (K:W.Frag) (tl:TE):TI:=fun U H R=>tl U H fun x H1=>(∃ a,x= .ref a/\(∃ xs,SqL K H1 a xs)/\R (R6 K a) H1)\/(∃ a,x= .ref a/\(∃ xs,SqT K H1 a xs)/\R (R7 K a) H1)\/(∃ z,x= .str z/\R (XS z) H1)
theorem Vr {tg l:Expr} {tl:TE} (hl:PE X l tl):PI X tg l (Qm X.K tl):=by
 intro pins s U H R I h;refine fM (hl pins s U H _ I h) fun v s1 qq0=>?_
 obtain ⟨x,H1,I1,r1,q1⟩:=qq0;rcases q1 with ⟨a,rfl,⟨xs,hq⟩,q⟩ | ⟨a,rfl,⟨xs,hq⟩,q⟩ | ⟨z,rfl,q⟩
 ·cases r1
  obtain ⟨its,rv,p,hz⟩:=I1.list hq;refine wpAny_pyIter_list p.isList ?_;refine ⟨s1.heap.objs.size,[s1.heap.objs.size],_,_,H1,rfl,I1.kept (t':=s1.toks) fun b o e=>Zz _ e,Hi a _,⟨_,ZP _ rfl,rfl,rfl⟩,fun b hb=>?_,q⟩;have e:b=s1.heap.objs.size:=by simpa using hb
  subst e;exact I1.fpOk (ZC _) (I1.hok.fresh (ZC _))
 ·cases r1
  obtain ⟨its,rv,p,hz⟩:=I1.tuple hq;refine wpAny_pyIter_tuple (show s1.heap.IsTuple a its.toArray from p) ?_;refine ⟨s1.heap.objs.size,[s1.heap.objs.size],_,_,H1,rfl,I1.kept (t':=s1.toks) fun b o e=>Zz _ e,Dl a _,⟨_,ZP _ rfl,rfl,rfl⟩,fun b hb=>?_,q⟩;have e:b=s1.heap.objs.size:=by simpa using hb
  subst e;exact I1.fpOk (ZC _) (I1.hok.fresh (ZC _))
 ·obtain ⟨t,rfl⟩:=r1
  have fin:∀ (ty:String) (T:Turn X.prog X.w X.K tg (XS z) [s1.heap.objs.size] s1.heap.objs.size (fun i h=>h.IsStrIter s1.heap.objs.size ty z t i)) (o:Obj),(s1.heap.push o).IsStrIter s1.heap.objs.size ty z t 0->PIE X pins U tg R (.ref s1.heap.objs.size) {s1 with heap:=s1.heap.push o}:=
   fun ty T o st=>⟨s1.heap.objs.size,[s1.heap.objs.size],_,_,H1,rfl,I1.kept (t':=s1.toks) fun b o e=>Zz _ e,T,st,fun b hb=>by
    have e:b=s1.heap.objs.size:=by simpa using hb
    subst e;exact I1.fpOk (ZC _) (I1.hok.fresh (ZC _)),q⟩
  cases ha:z.cps.all (· < 128)
  ·exact wpAny_pyIter_wide ha (fin "str_iterator" (Bv _ z t _ (by decide) (fun A' hA=>Walks.strWide hA _ z t) fun A i s Q E st h=>wpAny_pyIter_striter_wide st h) _ ⟨_,ZP _ rfl,rfl,rfl⟩)
  ·exact wpAny_pyIter_ascii ha (fin "str_ascii_iterator" (Bv _ z t _ (by decide) (fun A' hA=>Walks.strAscii hA _ z t) fun A i s Q E st h=>wpAny_pyIter_striter_ascii st h) _ ⟨_,ZP _ rfl,rfl,rfl⟩)
end
section
variable {X:Cx} {K:W.Frag}
theorem Qn (hK:X.K=K):IxR X (R8 K):=hK ▸ Ve
theorem DY (hK:X.K=K):OpR X (compareOp .In) (Ql K):=hK ▸ Vn
theorem Vs (hK:X.K=K) (hu:X.A.units < cLine):OpR X (compareOp .Eq) (Vo K):=hK ▸ Vp hu
theorem Qo {tg l:Expr} {tl:TE} (hK:X.K=K) (hl:PE X l tl):PI X tg l (Qm K tl):=hK ▸ Vr hl
def Qp (K:W.Frag):List V->Hp->VK->Prop:=fun xs H Q=>∃ x n,xs=[x]/\Xr K x H n/\Q (.int n) H
theorem aF (hK:X.K=K):CallR X (.builtin "len") (Qp K):=hK ▸ Kc
theorem jB (hK:X.K=K):CallR X (.builtin "isinstance") (Vl K):=hK ▸ KR
def K8 (K:W.Frag):List V->Hp->VK->Prop:=fun xs H Q=>(∃ p ys,xs=[.ref p]/\(SqL K H p ys\/SqT K H p ys)/\∀ l,H l=none->Q (.ref l) (upd H l (.lst ys)))\/(∃ x,xs=[.str x]/\x.cps.size<=sizeLine/\∀ p,H p=none->Q (.ref p) (upd H p (.lst (sgn x))))
theorem oK (hK:X.K=K) (hc:X.calm=true):CallR X (.type "list") (K8 K):=hK ▸ zQ.or (Bx hc)
variable {o e:Expr} {es:List Expr} {to:TE} {t:TA} {name:Str} {apos cpos:Pos} {T id:String} {r:V->List V->Hp->VK->Prop}
theorem Qq (hK:X.K=K) (pa:PlainAttrs T) (slot:Slot T name id) (hty:typeOf (.builtin id)=pure (.type "method_descriptor")) (hm:Qg X id r) (ho:PE X o to)
  (hbase:autoParam (attributeBase o name X.env (eval o X.env)=eval o X.env) L2.auto4._auto_1) (hline:autoParam ((apos.endLine == cpos.line)=true) L2.auto4._auto_1):PE X (.Call (.Attribute o name apos) [] [] cpos) (Kv K T r to):=by
 subst hK;exact Vf pa slot hty hm ho hbase hline
theorem Vt (hK:X.K=K) (pa:PlainAttrs T) (slot:Slot T name id) (hty:typeOf (.builtin id)=pure (.type "method_descriptor")) (hm:Qg X id r) (ho:PE X o to) (ha:PA X (e :: es) t)
  (hbase:autoParam (attributeBase o name X.env (eval o X.env)=eval o X.env) L2.auto4._auto_1)
  (hfew:((backTo cpos (starEach (e :: es) X.env)).all (fun x=>!x.1) && (backToKw cpos (keywordEach [] X.env)).all (fun x=>x.1.isSome)
   && decide ((e :: es).length+([]:List Keyword).length+(if ([]:List Keyword).isEmpty then 0 else 1) < 30))=true:=by rfl)
  (hline:autoParam ((apos.endLine == cpos.line)=true) L2.auto4._auto_1) (hs:autoParam (starEach (e :: es) X.env=(false,eval e X.env) :: starEach es X.env) L2.auto4._auto_1) (hplain:autoParam ((backTo cpos (starEach es X.env)).any (·.1)=false) L2.auto4._auto_1):
  PE X (.Call (.Attribute o name apos) (e :: es) [] cpos) (XF K T r to t):=by
 subst hK;exact XH pa slot hty hm ho ha hbase hfew hline hs hplain
theorem Qs {ts:List Expr} {k:Nat} {gs:Di} {n:Nat} {pos:Pos} (hK:X.K=K) (hc:X.calm=true) (h:Xb X ts gs)
  (hn:autoParam ((assignEach ts X.env).length=n) L2.auto4._auto_1) (hst:autoParam ((assignEach ts X.env).findIdx? (·.1)=none) L2.auto4._auto_1):PG X (.Tuple ts k pos) (Pk K n gs):=by
 subst hK;exact JP hc h hn hst
end
section
variable {X:Cx} {sc scope:Scope} {N':List Str} {C:Addr} {s₀:Shared} {H₀:Hp} {ex:List Addr} {x:Str} {pos:Pos}
theorem pvL (i:Nat) (h:sc.names.lookup x=some .local) (hN:autoParam (X.N[i]?=some x) L2.auto4._auto_1) (hsc:autoParam (X.env.scope=sc) L2.auto4._auto_1) (hd:autoParam ((x == ("__debug__":Str))=false) L2.auto6._auto_1) (hcd:autoParam ((x == ("__classdict__":Str))=false) L2.auto6._auto_1):
  PE X (.Name x pos) (rO i):=zJ hN (.inl (by rw [hsc];exact h)) hd hcd
theorem pvC (i:Nat) (h:sc.names.lookup x=some .cell) (hN:autoParam (X.N[i]?=some x) L2.auto4._auto_1) (hsc:autoParam (X.env.scope=sc) L2.auto4._auto_1) (hd:autoParam ((x == ("__debug__":Str))=false) L2.auto6._auto_1) (hcd:autoParam ((x == ("__classdict__":Str))=false) L2.auto6._auto_1):
  PE X (.Name x pos) (rO i):=zJ hN (.inr (.inl (by rw [hsc];exact h))) hd hcd
theorem pvBL (i:Nat) (h:scope.names.lookup x=some .local) (hN:autoParam (N'[i]?=some x) L2.auto4._auto_1) (hd:autoParam ((x == ("__debug__":Str))=false) L2.auto6._auto_1) (hcd:autoParam ((x == ("__classdict__":Str))=false) L2.auto6._auto_1):
  PE (tW X N' scope C s₀ H₀ ex) (.Name x pos) (rO i):=zJ hN (.inl (lookup_relabel_local h)) hd hcd
theorem pvBF (i:Nat) (h:scope.names.lookup x=some .free) (hN:autoParam (N'[i]?=some x) L2.auto4._auto_1) (hd:autoParam ((x == ("__debug__":Str))=false) L2.auto6._auto_1) (hcd:autoParam ((x == ("__classdict__":Str))=false) L2.auto6._auto_1):
  PE (tW X N' scope C s₀ H₀ ex) (.Name x pos) (rO i):=zJ hN (by
   rcases uf (env:=X.env) h with z | z
   ·exact .inr (.inl z)
   ·exact .inr (.inr z)) hd hcd
theorem kh {env:Env}:∀ {names:List (Str×NameKind)} {x:Str},names.lookup x=some .globalImplicit->
  (names.map fun (n,k)=>if (k == NameKind.free && env.scope.kind == .function && env.kindOf n == some .cell) then (n,NameKind.cell) else (n,k)).lookup x=some .globalImplicit
 | [],_,h=>by simp at h
 | (n,k) :: r,x,h=>by
  have ih:=@kh env r x;show List.lookup x ((if (k == NameKind.free && env.scope.kind == .function && env.kindOf n == some .cell)=true then (n,NameKind.cell) else (n,k)) :: _)=_;cases hx:x == n with
  | true=>
   simp only [Aag,hx] at h;cases h;simp [Aag,hx]
  | false=>
   simp only [Aag,hx] at h;by_cases hc:(k == NameKind.free && env.scope.kind == .function && env.kindOf n == some .cell)=true
   ·rw [if_pos hc];simp only [Aag,hx];exact ih h
   ·rw [if_neg hc];simp only [Aag,hx];exact ih h
theorem Vu (h:scope.names.lookup x=some .globalImplicit:=by trivial):Gl (tW X N' scope C s₀ H₀ ex) x:=kh h
theorem pgB (i:Nat) (h:scope.names.lookup x=some .local) (hN:N'.Nodup) (hi:autoParam (N'[i]?=some x) L2.auto4._auto_1):PG (tW X N' scope C s₀ H₀ ex) (.Name x pos) (rF i):=
 Fz hN hi (.inl (lookup_relabel_local h)) (.inr (lookup_relabel_local h))
end
def kJ:Expr->Bool
 | .ListComp ..=>false | .SetComp ..=>false | .DictComp ..=>false | _=>true
theorem zf {value:Expr} {target:Option Expr} {line:Nat} {env:Env} (h:kJ value=true):swapsWith value target line env=pure false:=by
 cases value <;> first | rfl | cases h
def uo:Expr->Bool
 | .Slice ..=>false | _=>true
theorem pix {b:Expr} (h:uo b=true):Ga b:=by
 intro o i;cases b <;> first | rfl | cases h
def u0:Expr->Bool
 | .Set ..=>false | _=>true
theorem K9 {e:Expr} {env:Env} (h:u0 e=true):∀ x,foldedSetIterable e env x=pure x:=by
 intro x;cases e <;> first | rfl | cases h
def notStar:Expr->Bool
 | .Starred ..=>false | _=>true
theorem bM {e:Expr} {es:List Expr} {env:Env} (h:notStar e=true):starEach (e :: es) env=(false,eval e env) :: starEach es env:=by
 cases e <;> first | rfl | cases h
theorem oM {env:Env} {pos:Pos}:∀ {es:List Expr},es.all notStar=true->(backTo pos (starEach es env)).any (·.1)=false
 | [],_=>rfl
 | e :: es,h=>by
  simp only [AaA,Z4] at h;rw [bM h.1];show (false || (backTo pos (starEach es env)).any (·.1))=false;rw [oM h.2];rfl
theorem La {env:Env} {pos:Pos}:∀ {es:List Expr},es.all notStar=true->(backTo pos (starEach es env)).all (fun x=>!x.1)=true
 | [],_=>rfl
 | e :: es,h=>by
  simp only [AaA,Z4] at h;rw [bM h.1];show (true && (backTo pos (starEach es env)).all (fun x=>!x.1))=true;rw [La h.2];rfl
section
variable {X:Cx} {K:W.Frag} {e:Expr} {es:List Expr} {te:TE} {t:TA} {pos p:Pos}
theorem paC (ha:PE X e te) (hr:PA X es t) (h:autoParam (notStar e=true) L2.auto4._auto_1):PA X (e :: es) (FW te t):=P0 ha hr (bM h)
theorem X5 {k:Nat} {x:Str} {ps:List Str} {sp:Sp} (F:Has X.prog X.w X.K X.mg X.base k x ps sp) (hr:Room k X.A) (hg:Gl X x) (ha:PA X (e :: es) t) (hdb:(x == ("__debug__":Str))=false) (h:autoParam ((e :: es).all notStar=true) L2.auto4._auto_1):
  PE X (.Call (.Name x p) (e :: es) [] pos) (yU sp [] E0 t):=by
 simp only [AaA,Z4] at h;exact KY F hr hg ha hdb (bM h.1) (oM h.2)
theorem X6 {x:Str} {id:String} {r:List V->Hp->VK->Prop} (hc:CallR X (.builtin id) r) (hg:Gl X x) (hm:X.mg x=none) (hv:bootBuiltins x=some (.builtin id)) (ha:PA X (e :: es) t) (hn:x≠"__name__") (hdb:(x == ("__debug__":Str))=false) (h:autoParam ((e :: es).all notStar=true) L2.auto4._auto_1):
  PE X (.Call (.Name x p) (e :: es) [] pos) (Va r t):=by
 simp only [AaA,Z4] at h;exact Kh hc hg hm hv ha hn hdb (bM h.1) (oM h.2)
theorem Vv {x:Str} {T:String} {r:List V->Hp->VK->Prop} (hc:CallR X (.type T) r) (hg:Gl X x) (hm:X.mg x=none) (hv:bootBuiltins x=some (.type T)) (ha:PA X (e :: es) t) (hn:x≠"__name__") (hdb:(x == ("__debug__":Str))=false) (h:autoParam ((e :: es).all notStar=true) L2.auto4._auto_1):
  PE X (.Call (.Name x p) (e :: es) [] pos) (Va r t):=by
 simp only [AaA,Z4] at h;exact Hw hc hg hm hv ha hn hdb (bM h.1) (oM h.2)
def qN:Expr->Bool
 | .Call ..=>false | _=>true
theorem Sq {o:Expr} {f:Str} {env:Env} {w:Sem Value} (h:qN o=true):attributeBase o f env w=w:=by
 cases o <;> first | rfl | cases h
theorem X7 {o:Expr} {to:TE} {name:Str} {apos cpos:Pos} {T id:String} {r:V->List V->Hp->VK->Prop} (hK:X.K=K) (pa:PlainAttrs T) (slot:Slot T name id) (hty:typeOf (.builtin id)=pure (.type "method_descriptor")) (hm:Qg X id r) (ho:PE X o to) (ha:PA X (e :: es) t)
  (hbase:autoParam (qN o=true) L2.auto4._auto_1) (hl:autoParam (es.length < 20) L2.auto2._auto_1) (hline:autoParam ((apos.endLine == cpos.line)=true) L2.auto4._auto_1) (h:autoParam ((e :: es).all notStar=true) L2.auto4._auto_1):
  PE X (.Call (.Attribute o name apos) (e :: es) [] cpos) (XF K T r to t):=by
 have hA:=La (env:=X.env) (pos:=cpos) h;simp only [AaA,Z4] at h;refine Vt hK pa slot hty hm ho ha (Sq hbase) ?_ hline (bM h.1) (oM h.2);rw [hA];have:(e :: es).length+([]:List Keyword).length+(if ([]:List Keyword).isEmpty then 0 else 1) < 30:=by simp;omega
 rw [ZK this];rfl
theorem Vw {o:Expr} {to:TE} {name:Str} {apos cpos:Pos} {T id:String} {r:V->List V->Hp->VK->Prop} (hK:X.K=K) (pa:PlainAttrs T) (slot:Slot T name id) (hty:typeOf (.builtin id)=pure (.type "method_descriptor")) (hm:Qg X id r) (ho:PE X o to)
  (hbase:autoParam (qN o=true) L2.auto4._auto_1) (hline:autoParam ((apos.endLine == cpos.line)=true) L2.auto4._auto_1):PE X (.Call (.Attribute o name apos) [] [] cpos) (Kv K T r to):=
 Qq hK pa slot hty hm ho (Sq hbase) hline
theorem X8 {i:Nat} {x:Str} {pos':Pos} (hN:X.N.Nodup) (hi:X.N[i]?=some x) (hx:Loc X.env.scope x) (he:PE X e te) (hf:X.fn x=true) (h:autoParam (kJ e=true) L2.auto4._auto_1):PS X (.Assign [.Name x pos'] e pos) (zK te (rF i)):=
 JR hN hi hx he (zf h) (.inl hf)
theorem Vx (he:PE X e te) (h:autoParam (kJ e=true) L2.auto4._auto_1):PS X (.Expr e pos) (Fy te):=Pg he (zf h)
theorem ixE {a b:Expr} {ta tb:TE} (hK:X.K=K) (ha:PE X a ta) (hb:PE X b tb) (h:autoParam (uo b=true) L2.auto4._auto_1):PE X (.Subscript a b pos) (J5 (R8 K) ta tb):=Xv (Qn hK) ha hb (pix h)
theorem Yb {tg iter:Expr} {body:List Stmt} {wi:TI} {g:TG} {tb:TS} (hp:PassesOwn (model X.prog X.w) X.A X.env X.xe) (hc:X.calm=true) (hi:PI X tg iter wi) (hg:PG X tg g) (hb:PSs X body tb) (h:autoParam (u0 iter=true) L2.auto4._auto_1):PS X (.For tg iter body [] pos) (Pq wi g tb):=
 Us hp hc hi hg hb (K9 h)
end
section
variable {X:Cx} {tg iter elt:Expr} {ifs:List Expr} {scope:Scope} {pos:Pos} {N':List Str} {sub:List (Option Nat)} {wi:TI} {g:TG} {tt:TT} {te:TE} {N:List Str} {sc:Scope}
theorem Yc (S:vN N sc N' scope sub) (hc:X.calm=true) (hN:X.N=N) (hsc:X.env.scope=sc) (hi:PI X tg iter wi)
  (hg:∀ (C:Addr) (s₀:Shared) (H₀:Hp) (ex:List Addr),PG (tW X N' scope C s₀ H₀ ex) tg g)
  (ht:∀ (C:Addr) (s₀:Shared) (H₀:Hp) (ex:List Addr),DN (tW X N' scope C s₀ H₀ ex) ifs tt)
  (he:∀ (C:Addr) (s₀:Shared) (H₀:Hp) (ex:List Addr),PE (tW X N' scope C s₀ H₀ ex) elt te) (h:autoParam (u0 iter=true) L2.auto4._auto_1):
  PE X (.ListComp elt [⟨tg,iter,ifs,0⟩] scope pos) (xr sub wi g tt te):=Gf S hc hN hsc hi hg ht he (K9 h)
end
theorem bc:bootBuiltins "len"=some (.builtin "len"):=by trivial
theorem Lb:bootBuiltins "max"=some (.builtin "max"):=by trivial
theorem Vy:bootBuiltins "min"=some (.builtin "min"):=by trivial
theorem dY:bootBuiltins "isinstance"=some (.builtin "isinstance"):=by trivial
theorem Ld:bootBuiltins "all"=some (.builtin "all"):=by trivial
theorem Vz:bootBuiltins "sum"=some (.builtin "sum"):=by trivial
theorem kO:bootBuiltins "list"=some (.type "list"):=by trivial
theorem Le:bootBuiltins "tuple"=some (.type "tuple"):=by trivial
theorem Lf:bootBuiltins "int"=some (.type "int"):=by trivial
theorem Lg:bootBuiltins "str"=some (.type "str"):=by trivial
theorem uq:bootBuiltins "enumerate"=some (.type "enumerate"):=by trivial
theorem VB:bootBuiltins "zip"=some (.type "zip"):=by trivial
theorem vP:bootBuiltins "reversed"=some (.type "reversed"):=by trivial
theorem Gi:bootBuiltins "bool"=some (.type "bool"):=by trivial
theorem ut {c A B:Prop} [Decidable c] (h1:c->A) (h2:¬ c->B):if decide c=true then A else B:=by
 by_cases h:c
 ·rw [if_pos (ZK h)];exact h1 h
 ·rw [if_neg (by rw [ZD h];exact ZV)];exact h2 h
theorem iteB {b:Bool} {A B:Prop} (h1:b=true->A) (h2:b=false->B):if b=true then A else B:=by
 cases b with
 | true=>rw [if_pos rfl];exact h1 rfl
 | false=>rw [if_neg ZV];exact h2 rfl
section
variable {U:St} {H:Hp} {D:Ends} {ta tb te tc:TE} {tt tu:TT} {Q:VK} {t u:TS} {g:TG}
theorem mH (h:t {D with nx:=u D} U H):O9 t u D U H:=h
theorem cW (h:D.nx U H):JF D U H:=h
theorem gw (h:te U H fun x H1=>g x U H1 D.nx):zK te g D U H:=h
theorem cX {i:Nat} {v:V} {R:St->Hp->Prop} (h:R (U.set i (some v)) H):rF i v U H R:=h
theorem gB {to ti:TE} {ts:Dj} {v:V} {R:St->Hp->Prop} (h:to U H fun o H1=>ti U H1 fun i H2=>ts o i v H2 fun H3=>R U H3):Uo to ti ts v U H R:=h
theorem gC (h:te U H D.rt):Uj te D U H:=h
theorem cY (h:te U H fun _ H1=>D.nx U H1):Fy te D U H:=h
theorem kW (h:tt U H fun b H1=>if b=true then t D U H1 else u D U H1):Ul tt t u D U H:=h
theorem cZ {R:Bool->Hp->Prop} (h:te U H fun x H1=>∃ k,x= .bl k/\R k H1):FT te U H R:=h
theorem kY {R:Bool->Hp->Prop} (h:te U H fun x H1=>∃ k,x= .bl k/\R k H1):tB te U H R:=h
theorem gG {R:Bool->Hp->Prop} (h:tt U H fun c H1=>R (!c) H1):Ua tt U H R:=h
theorem gH {R:Bool->Hp->Prop} (h:tt U H fun c H1=>if c=true then tu U H1 R else R false H1):O7 tt tu U H R:=h
theorem kZ {R:Bool->Hp->Prop} (h:tt U H fun c H1=>if c=true then R true H1 else tu U H1 R):tOr tt tu U H R:=h
theorem c7 (h:ta U H fun x H1=>∃ c,x= .bl c/\if c=true then tb U H1 Q else Q (.bl false) H1):Jz ta tb U H Q:=h
theorem gJ (h:ta U H fun x H1=>∃ c,x= .bl c/\if c=true then Q (.bl true) H1 else tb U H1 Q):Ue ta tb U H Q:=h
theorem dg (h:ta U H fun x H1=>∃ c,x= .bl c/\Q (.bl (!c)) H1):JC ta U H Q:=h
theorem gK (h:tt U H fun c H1=>if c=true then ta U H1 Q else tb U H1 Q):tIf tt ta tb U H Q:=h
theorem gM {i:Nat} {v:V} (e:U[i]?=some (some v)) (h:Q v H):rO i U H Q:=⟨v,e,h⟩
theorem wF {v:V} (h:Q v H):tC v U H Q:=h
theorem lg {r:R2} (h:ta U H fun x H1=>tb U H1 fun y H2=>r x y H2 Q):J5 r ta tb U H Q:=h
theorem lq {r:List V->Hp->VK->Prop} {a:TA} (h:a U H fun vs H1=>r vs H1 Q):Va r a U H Q:=h
theorem dh {a:TA} {R:List V->Hp->Prop} (h:te U H fun x H1=>a U H1 fun xs H2=>R (x :: xs) H2):FW te a U H R:=h
theorem gO {R:List V->Hp->Prop} (h:R [] H):PX U H R:=h
theorem di {sp:Sp} {E:XK} {a:TA} (h:a U H fun vs H1=>sp vs H1 Q E):yU sp [] E a U H Q:=by
 unfold yU;simpa only [AaC] using h
theorem mJ {a:TA} (h:a U H fun xs H1=>xs.length<=sizeLine/\∀ p,H1 p=none->Q (.ref p) (upd H1 p (.tup xs))):Qa a U H Q:=h
theorem mK {a:TA} (h:a U H fun xs H1=>xs.length<=sizeLine/\∀ p,H1 p=none->Q (.ref p) (upd H1 p (.lst xs))):Qc a U H Q:=h
theorem lw {K:W.Frag} {T:String} {r:V->List V->Hp->VK->Prop} {a:TA} (h:te U H fun x H1=>XD K T x H1/\a U H1 fun xs H2=>r x xs H2 Q):XF K T r te a U H Q:=h
theorem gP {K:W.Frag} {T:String} {r:V->List V->Hp->VK->Prop} (h:te U H fun x H1=>XD K T x H1/\r x [] H1 Q):Kv K T r te U H Q:=h
theorem lA {r:V->Option Int->Option Int->Hp->VK->Prop} {tl th:TO} (h:te U H fun x H1=>tl U H1 fun l H2=>th U H2 fun u H3=>r x l u H3 Q):tSl r te tl th U H Q:=h
theorem gQ {R:Option Int->Hp->Prop} (h:R none H):zM U H R:=h
theorem dj {R:Option Int->Hp->Prop} (h:te U H fun x H1=>∃ i,x= .int i/\R (some i) H1):Ko te U H R:=h
theorem dm {R:Bool->Hp->Prop} (h:R true H):KD U H R:=h
theorem dq {a:TA} {R:It->Hp->Prop} (h:a U H fun vs H1=>∃ j:Int,vs=[.int j]/\-(2 ^ 62)<=j/\j < 2 ^ 62/\R (Jw 0 j.toNat) H1):JX a U H R:=h
theorem dw {a:TA} {R:It->Hp->Prop} (h:a U H fun vs H1=>∃ i j:Int,vs=[.int i,.int j]/\(-(2 ^ 62)<=i/\i < 2 ^ 62/\-(2 ^ 62)<=j/\j < 2 ^ 62)/\R (Jw i (j - i).toNat) H1):JZ a U H R:=h
theorem dz {K:W.Frag} {R:It->Hp->Prop} (h:te U H fun x H1=>(∃ a,x= .ref a/\(∃ xs,SqL K H1 a xs)/\R (R6 K a) H1)\/(∃ a,x= .ref a/\(∃ xs,SqT K H1 a xs)/\R (R7 K a) H1)\/(∃ z,x= .str z/\R (XS z) H1)):Qm K te U H R:=h
theorem dD {sub:List (Option Nat)} {wi:TI} (h:wi U H fun J H1=>rG sub g tt te U Q J H1):xr sub wi g tt te U H Q:=h
theorem gU {wi:TI} {tbd:TS} (h:wi U H fun J H1=>∃ W:Nat->Nat->St->Hp->Prop,(∃ m,W 0 m U H1)/\∀ i m U H,W i m U H->
 (J.stop i H/\D.nx U H)\/(J.go i H/\∃ N:St->Hp->Prop,(∀ U' H',N U' H'->∃ m',m' < m/\W (i+1) m' U' H')/\∀ x H',J.yld i H x H'->g x U H' fun σ2 H2=>tbd {D with nx:=N,ct:=N,bk:=D.nx} σ2 H2)):Pq wi g tbd D U H:=h
variable {i j:Int} {x y:Str} {f:Int->Int->V} {C:Int->Int->Prop} {K:W.Frag}
theorem lB (h:Q (f i j) H):J6 f (.int i) (.int j) H Q:=⟨_,_,rfl,rfl,h⟩
theorem wG (c:C i j) (h:Q (f i j) H):rI C f (.int i) (.int j) H Q:=⟨_,_,rfl,rfl,c,h⟩
theorem dF (h:Q (.int (i+j)) H):BJ (.int i) (.int j) H Q:=.inl ⟨_,_,rfl,rfl,h⟩
theorem jC (c:x.length+y.length<=sizeLine) (h:Q (.str (x ++ y)) H):BJ (.str x) (.str y) H Q:=.inr (.inl ⟨_,_,rfl,rfl,c,h⟩)
theorem zU {a b:Addr} {xs ys:List V} (ha:H a=some (.lst xs)) (hb:H b=some (.lst ys)) (c:xs.length+ys.length<=sizeLine) (h:∀ p,H p=none->Q (.ref p) (upd H p (.lst (xs ++ ys)))):BJ (.ref a) (.ref b) H Q:=
 .inr (.inr ⟨a,b,xs,ys,rfl,rfl,ha,hb,c,h⟩)
theorem dG (c:CMul i j) (h:Q (.int (i*j)) H):KZ (.int i) (.int j) H Q:=.inl ⟨_,_,rfl,rfl,c,h⟩
theorem bf {p:Addr} {xs:List V} {v:V} (s:SqL K H p xs) (e:Dy xs i=some v) (h:Q v H):R8 K (.ref p) (.int i) H Q:=.inl ⟨p,xs,i,v,rfl,rfl,s,e,h⟩
theorem fB {p:Addr} {xs:List V} {v:V} (s:SqT K H p xs) (e:Dy xs i=some v) (h:Q v H):R8 K (.ref p) (.int i) H Q:=.inr (.inl ⟨p,xs,i,v,rfl,rfl,s,e,h⟩)
theorem xF {c:Nat} (s:x.length<=sizeLine) (e:Dy x.cps.toList i=some c) (h:Q (.str ⟨#[c]⟩) H):R8 K (.str x) (.int i) H Q:=.inr (.inr ⟨x,i,c,rfl,rfl,s,e,h⟩)
theorem cu {p:Addr} {xs:List V} {n:Nat} {v:V} {R:Hp->Prop} (hp:H p=some (.lst xs)) (e:Hx xs.length i=some n) (h:R (upd H p (.lst (xs.set n v)))):pN (.ref p) (.int i) v H R:=⟨p,xs,i,n,rfl,rfl,hp,e,h⟩
theorem gW (h:Q (.bl (!(Builtin.Str.occurrences y x 0 y.length 1).isEmpty)) H):Ql K (.str x) (.str y) H Q:=.inl ⟨_,_,rfl,rfl,h⟩
theorem lC {b:Bool} {R:Bool->Prop} (h:R b):∃ k,V.bl b= .bl k/\R k:=⟨b,rfl,h⟩
theorem dH {n:Int} {R:Int->Prop} (h:R n):∃ k,V.int n= .int k/\R k:=⟨n,rfl,h⟩
end
theorem Same.upd {H H':Hp} {p:Addr} {o:HO} (s:Same H H') (hn:H' p=none):Same H (upd H' p o):=fun b u e=>by
 have q:=s b u e;rw [aC (fun z=>by rw [z,hn] at q;cases q)];exact q
def Chg (p:Addr) (H H':Hp):Prop:=∀ b o,b≠p->H b=some o->H' b=some o
theorem Chg.refl (p:Addr) (H:Hp):Chg p H H:=fun _ _ _ e=>e
theorem Chg.trans {p:Addr} {H H1 H2:Hp} (a:Chg p H H1) (b:Chg p H1 H2):Chg p H H2:=fun c o n e=>b c o n (a c o n e)
theorem Chg.new {p q:Addr} {H H1:Hp} {o:HO} (a:Chg p H H1) (hn:H1 q=none):Chg p H (upd H1 q o):=fun b u n e=>by
 have z:=a b u n e;rw [aC (fun k=>by rw [k,hn] at z;cases z)];exact z
theorem aX {H:Hp} {q b:Addr} {o u:HO} (hq:H q=none) (hb:H b=some u):upd H q o b=some u:=by
 rw [aC (fun z=>by rw [z,hq] at hb;cases hb)];exact hb
theorem Ea (sep:Str) (ys:List Str):Txt.join sep ys=Str.join sep ys:=by
 show Builtin.Str.glued sep ys=Str.join sep ys;exact PySem.StrLaws.glued_eq_join sep ys
theorem xG (ys:List Str):(Txt.join (Str.ofString "") ys).cps.toList=(ys.map fun y=>y.cps.toList).flatten:=by
 rw [Ea];have e0:(Str.ofString "").cps= #[]:=by trivial
 have key:∀ ys:List Str,(Str.join (Str.ofString "") ys).cps.toList=(ys.map fun y=>y.cps.toList).flatten:=by
  intro ys
  induction ys with
  | nil=>rfl
  | cons y r ih=>
   cases r with
   | nil=>simp [Str.join]
   | cons z r=>
    show ((y ++ Str.ofString "") ++ Str.join (Str.ofString "") (z :: r)).cps.toList=_;rw [Str.cps_append,Str.cps_append,e0];simp only [Array.append_empty,Array.toList_append,ih,Aaj,AaQ]
 exact key ys
theorem Gj (x:Str):x.length=x.cps.toList.length:=by simp [Str.length]
theorem Lh {ys:List Str} (h:∀ y∈ys,y.length=1):(Txt.join (Str.ofString "") ys).length=ys.length:=by
 rw [Gj,xG]
 induction ys with
 | nil=>rfl
 | cons y r ih=>
  have h1:=h y (by simp);rw [Gj] at h1;simp only [Aaj,AaQ,Z8,Aap,h1];rw [ih fun z hz=>h z (by simp [hz])];omega
theorem xH {ys:List Str} (h:∀ y∈ys,y.length=1):(ys.map (·.length)).sum=ys.length:=by
 induction ys with
 | nil=>rfl
 | cons y r ih=>
  simp only [Aaj,List.sum_cons,Aap,h y (by simp),ih fun z hz=>h z (by simp [hz])];omega
theorem rC (c:Nat):(⟨#[c]⟩:Str).length=1:=by simp [Str.length]
section
variable {H:Hp} {Q:VK} {K:W.Frag}
theorem iJ {p:Addr} {xs:List V} (s:SqL K H p xs) (h:Q (.int xs.length) H):Qp K [V.ref p] H Q:=⟨_,_,rfl,.inl ⟨_,s,rfl⟩,h⟩
theorem Li {p:Addr} {xs:List V} (s:SqT K H p xs) (h:Q (.int xs.length) H):Qp K [V.ref p] H Q:=⟨_,_,rfl,.inr ⟨_,s,rfl⟩,h⟩
theorem bL {z:Str} (s:z.length<=sizeLine) (h:Q (.int z.length) H):Qp K [V.str z] H Q:=⟨_,_,rfl,⟨s,rfl⟩,h⟩
theorem lD {i j:Int} {R:Int->Int->Prop} (h:R i j):∃ a b,[V.int i,V.int j]=[.int a,.int b]/\R a b:=⟨_,_,rfl,h⟩
theorem rH {x:V} {T:String} {t:Value} {b:Bool} (ty:TyOf K H x t) (e:PySem.W.kitOne K t (.type T)=some b) (h:Q (.bl b) H):Vl K [x,.ty T] H Q:=⟨x,T,t,b,rfl,ty,e,h⟩
theorem Eb {sep:Str} {p:Addr} {ys:List Str} (hp:H p=some (.lst (ys.map V.str))) (hz:(ys.map (·.length)).sum+ys.length*sep.length<=16777216) (h:Q (.str (Txt.join sep ys)) H):rJoin (.str sep) [.ref p] H Q:=⟨sep,p,ys,rfl,rfl,hp,hz,h⟩
theorem Yd {x:Str} {lo hi:Option Int} (hz:x.length<=sizeLine) (h:Q (.str (Txt.slice x lo hi)) H):Zj K (.str x) lo hi H Q:=.inr (.inr ⟨x,rfl,hz,h⟩)
theorem Ss {p:Addr} {xs:List V} {lo hi:Option Int} (s:SqL K H p xs) (h:∀ q,H q=none->Q (.ref q) (upd H q (.lst (n8 xs lo hi)))):Zj K (.ref p) lo hi H Q:=.inl ⟨p,xs,rfl,s,h⟩
end
section
variable {U:St} {H:Hp} {Q:VK}
theorem wH {K:W.Frag} {a:Addr} {xs:List V} (s:SqL K H a xs) (h:∀ p,H p=none->Q (.ref p) (upd H p (.lst xs))):K8 K [.ref a] H Q:=.inl ⟨a,xs,rfl,.inl s,h⟩
end
theorem TyOf.mono {K:W.Frag} {H H':Hp} {v:V} {T:String} (h:TyOf K H v (.type T)) (s:∀ b o,H b=some o->v= .ref b->H' b=some o):TyOf K H' v (.type T):=by
 generalize e:(Value.type T)=t at h;cases h with
 | non=>exact .non
 | bl x=>exact .bl x
 | int i=>exact .int i
 | str x=>exact .str x
 | flt x=>exact .flt x
 | lst z=>exact .lst (s _ _ z rfl)
 | frz z=>exact .frz (s _ _ z rfl)
 | tup z=>exact .tup (s _ _ z rfl)
 | dK z=>exact .dK (s _ _ z rfl)
 | dT z=>exact .dT (s _ _ z rfl)
 | ins=>cases e
theorem xJ {sub:List (Option Nat)} {g:TG} {tt:TT} {te:TE} {U:St} {Q:VK} {H:Hp} {lo:Int} {n:Nat} (Pv:Nat->List V->Hp->Prop) (hn:n<=sizeLine) (h0:Pv 0 [] H) (hl:∀ i ys H,Pv i ys H->ys.length<=i)
  (hs:∀ i ys H,i < n->Pv i ys H->g (.int (lo+i)) (fu sub U) H fun σ2 H2=>KeepSt (fu sub U) σ2/\tt σ2 H2 fun b H3=>if b=true then te σ2 H3 fun y H4=>Pv (i+1) (ys ++ [y]) H4 else Pv (i+1) ys H3)
  (hd:∀ ys H,Pv n ys H->∀ D,H D=none->Q (.ref D) (upd H D (.lst ys))):rG sub g tt te U Q (Jw lo n) H:=
 wD (n:=n) Pv hn h0 hl (fun i ys H hi _=>hi) (fun ys H _=>ZC _) (fun i ys H x H' hi p y=>by
  obtain ⟨e1,e2⟩:=y;subst e1 e2;exact hs i ys _ hi p) hd
theorem Lj {sub:List (Option Nat)} {g:TG} {tt:TT} {te:TE} {U:St} {Q:VK} {H:Hp} {z:Str} (Pv:Nat->List V->Hp->Prop) (hn:z.cps.size<=sizeLine) (h0:Pv 0 [] H) (hl:∀ i ys H,Pv i ys H->ys.length<=i)
  (hs:∀ i ys H c,z.cps.toList[i]?=some c->Pv i ys H->g (.str ⟨#[c]⟩) (fu sub U) H fun σ2 H2=>KeepSt (fu sub U) σ2/\tt σ2 H2 fun b H3=>if b=true then te σ2 H3 fun y H4=>Pv (i+1) (ys ++ [y]) H4 else Pv (i+1) ys H3)
  (hd:∀ ys H,Pv z.cps.size ys H->∀ D,H D=none->Q (.ref D) (upd H D (.lst ys))):rG sub g tt te U Q (XS z) H:=
 wD (n:=z.cps.size) Pv hn h0 hl (fun i ys H hi _=>hi) (fun ys H _=>rfl) (fun i ys H x H' hi p y=>by
  obtain ⟨e1,c,e2,e3⟩:=y;subst e1 e3;exact hs i ys _ c (by simpa using e2) p) hd
theorem HS {sub:List (Option Nat)} {g:TG} {tt:TT} {te:TE} {U:St} {Q:VK} {H:Hp} {K:W.Frag} {a:Addr} {xs:List V} (Pv:Nat->List V->Hp->Prop) (hn:xs.length<=sizeLine) (h0:Pv 0 [] H) (hl:∀ i ys H,Pv i ys H->ys.length<=i)
  (hq:∀ i ys H,Pv i ys H->SqL K H a xs)
  (hs:∀ i ys H x,xs[i]?=some x->Pv i ys H->g x (fu sub U) H fun σ2 H2=>KeepSt (fu sub U) σ2/\tt σ2 H2 fun b H3=>if b=true then te σ2 H3 fun y H4=>Pv (i+1) (ys ++ [y]) H4 else Pv (i+1) ys H3)
  (hd:∀ ys H,Pv xs.length ys H->∀ D,H D=none->Q (.ref D) (upd H D (.lst ys))):rG sub g tt te U Q (R6 K a) H:=
 wD (n:=xs.length) Pv hn h0 hl (fun i ys H hi p=>⟨xs,xs[i],hq i ys H p,Zw hi⟩) (fun ys H p=>⟨xs,hq _ ys H p,ZC _⟩) (fun i ys H x H' hi p y=>by
  obtain ⟨e1,e2⟩:=y;subst e1;exact hs i ys _ x (e2 xs (hq i ys _ p)) p) hd
structure JE (X:Cx) (e:Expr) (t:TE):Prop where
 run:PE X e t
structure JT (X:Cx) (e:Expr) (t:TT):Prop where
 run:PT X e t
structure JW (X:Cx) (e:Expr) (t:TT):Prop where
 run:PW X e t
structure JA (X:Cx) (es:List Expr) (t:TA):Prop where
 run:PA X es t
structure JS (X:Cx) (s:Stmt) (t:TS):Prop where
 run:PS X s t
structure JB (X:Cx) (s:List Stmt) (t:TS):Prop where
 run:PSs X s t
structure JI (X:Cx) (tg iter:Expr) (t:TI):Prop where
 run:PI X tg iter t
structure JG (X:Cx) (tg:Expr) (t:TG):Prop where
 run:PG X tg t
structure Ye (X:Cx) (tg:List Expr) (t:Di):Prop where
 run:Xb X tg t
structure JO (X:Cx) (e:Option Expr) (t:TO):Prop where
 run:PO X e t
structure VD (X:Cx) (ifs:List Expr) (t:TT):Prop where
 run:DN X ifs t
section
variable {X:Cx} {K:W.Frag} {sc scope:Scope} {N':List Str} {C:Addr} {s₀:Shared} {H₀:Hp} {ex:List Addr} {x:Str} {pos p p2 pos' apos cpos tpos:Pos} {a b c e o:Expr} {es:List Expr} {ta tb tc te to ti:TE} {t:TA} {tA tB' tt:TT} {rest:List Expr}
theorem Lk (i:Nat) (h:sc.names.lookup x=some .local) (hN:autoParam (X.N[i]?=some x) L2.auto4._auto_1) (hsc:autoParam (X.env.scope=sc) L2.auto4._auto_1) (hd:autoParam ((x == ("__debug__":Str))=false) L2.auto6._auto_1) (hcd:autoParam ((x == ("__classdict__":Str))=false) L2.auto6._auto_1):JE X (.Name x pos) (rO i):=⟨pvL i h hN hsc hd hcd⟩
theorem j_vC (i:Nat) (h:sc.names.lookup x=some .cell) (hN:autoParam (X.N[i]?=some x) L2.auto4._auto_1) (hsc:autoParam (X.env.scope=sc) L2.auto4._auto_1) (hd:autoParam ((x == ("__debug__":Str))=false) L2.auto6._auto_1) (hcd:autoParam ((x == ("__classdict__":Str))=false) L2.auto6._auto_1):JE X (.Name x pos) (rO i):=⟨pvC i h hN hsc hd hcd⟩
theorem rJ (i:Nat) (h:scope.names.lookup x=some .local:=by trivial) (hN:autoParam (N'[i]?=some x) L2.auto4._auto_1) (hd:autoParam ((x == ("__debug__":Str))=false) L2.auto6._auto_1) (hcd:autoParam ((x == ("__classdict__":Str))=false) L2.auto6._auto_1):JE (tW X N' scope C s₀ H₀ ex) (.Name x pos) (rO i):=⟨pvBL i h hN hd hcd⟩
theorem xK (i:Nat) (h:scope.names.lookup x=some .free:=by trivial) (hN:autoParam (N'[i]?=some x) L2.auto4._auto_1) (hd:autoParam ((x == ("__debug__":Str))=false) L2.auto6._auto_1) (hcd:autoParam ((x == ("__classdict__":Str))=false) L2.auto6._auto_1):JE (tW X N' scope C s₀ H₀ ex) (.Name x pos) (rO i):=⟨pvBF i h hN hd hcd⟩
theorem aB {i j}:JE X (.Constant (.int i) j pos) (tC (.int i)):=⟨T6⟩
theorem BK {i j}:JE X (.Constant (.bool i) j pos) (tC (.bl i)):=⟨Xi⟩
theorem zg {j}:JE X (.Constant .none j pos) (tC .non):=⟨T7⟩
theorem jq {i j}:JE X (.Constant (.str i) j pos) (tC (.str i)):=⟨T8⟩
theorem rT {z:Str} (hg:Gl X x) (hm:∃ t,X.mg x=some (.str z t)) (hd:(x == ("__debug__":Str))=false:=by trivial):JE X (.Name x pos) (tC (.str z)):=⟨K5 hg hm hd⟩
theorem zV {z:Int} (hg:Gl X x) (hm:∃ t,X.mg x=some (.int z t)) (hd:(x == ("__debug__":Str))=false):JE X (.Name x pos) (tC (.int z)):=⟨K7 hg hm hd⟩
theorem zW {T:String} (hg:Gl X x) (hm:X.mg x=none) (hv:bootBuiltins x=some (.type T)) (hn:x≠"__name__":=by trivial) (hd:(x == ("__debug__":Str))=false:=by trivial):JE X (.Name x pos) (tC (.ty T)):=⟨X4 hg hm hv hn hd⟩
theorem bj {op:Operator} {r:R2} (ho:OpR X (binaryOp op) r) (ha:JE X a ta) (hb:JE X b tb):JE X (.BinOp a op b pos) (J5 r ta tb):=⟨Xm ho ha.run hb.run⟩
theorem BL {op:CmpOp} {r:R2} (ho:OpR X (compareOp op) r) (ha:JE X a ta) (hb:JE X b tb) (hm:behindInMarks op b=false):JE X (.Compare a [op] [b] pos) (J5 r ta tb):=⟨PK ho ha.run hb.run hm⟩
theorem aY {op:CmpOp} {r:R2} (ho:OpR X (compareOp op) r) (ha:JE X a ta) (hb:JE X b tb) (hm:behindInMarks op b=false):JT X (.Compare a [op] [b] pos) (FT (J5 r ta tb)):=⟨PL ho ha.run hb.run hm⟩
theorem qO (ha:JT X a tA):JW X (.BoolOp .And [a] pos) tA:=⟨O8 ha.run⟩
theorem oN (ha:JT X a tA):JW X (.BoolOp .Or [a] pos) tA:=⟨Ub ha.run⟩
theorem u5 (ha:JT X a tA) (hb:JW X (.BoolOp .And (b :: rest) pos) tB'):JW X (.BoolOp .And (a :: b :: rest) pos) (O7 tA tB'):=⟨Uc ha.run hb.run⟩
theorem uv (ha:JT X a tA) (hb:JW X (.BoolOp .Or (b :: rest) pos) tB'):JW X (.BoolOp .Or (a :: b :: rest) pos) (tOr tA tB'):=⟨Xj ha.run hb.run⟩
theorem lV (h:JW X e tt):JT X e tt:=⟨h.run.pt⟩
theorem iK (ha:JT X a tA):JT X (.UnaryOp .Not a pos) (Ua tA):=⟨Ud ha.run⟩
def plainT:Expr->Bool
 | .BoolOp ..=>false | .UnaryOp ..=>false | .Compare ..=>false | .IfExp ..=>false | _=>true
theorem j4 (h:JE X e te) (hp:autoParam (plainT e=true) L2.auto4._auto_1):JT X e (tB te):=⟨T9 h.run (by
 intro whole;cases e <;> first | rfl | cases hp)⟩
theorem xM {op} (h:JE X a te):JE X (.BoolOp op [a] pos) te:=⟨Ug h.run⟩
theorem xN (ha:JE X a ta) (hb:JE X (.BoolOp .And (b :: rest) pos) tb):JE X (.BoolOp .And (a :: b :: rest) pos) (Jz ta tb):=⟨Uh ha.run hb.run⟩
theorem j_or (ha:JE X a ta) (hb:JE X (.BoolOp .Or (b :: rest) pos) tb):JE X (.BoolOp .Or (a :: b :: rest) pos) (Ue ta tb):=⟨Xk ha.run hb.run⟩
theorem Su (ha:JE X a ta):JE X (.UnaryOp .Not a pos) (JC ta):=⟨Ui ha.run⟩
theorem Ln (hc:JT X c tA) (ha:JE X a ta) (hb:JE X b tb):JE X (.IfExp c a b pos) (tIf tA ta tb):=⟨JD hc.run ha.run hb.run⟩
theorem kj {x1} (h:JA X es t):JE X (.Tuple es x1 pos) (Qa t):=⟨U0 h.run⟩
theorem dZ (h:JA X es t):JE X (.List es pos) (Qc t):=⟨U7 h.run⟩
theorem ao:JA X [] PX:=⟨UW⟩
theorem aa (ha:JE X e te) (hr:JA X es t) (h:autoParam (notStar e=true) L2.auto4._auto_1):JA X (e :: es) (FW te t):=⟨paC ha.run hr.run h⟩
theorem fP:JO X none zM:=⟨Qe⟩
theorem eQ (h:JE X e te):JO X (some e) (Ko te):=⟨Qf h.run⟩
theorem fG {r:V->Option Int->Option Int->Hp->VK->Prop} {lo hi:Option Expr} {tl th:TO} (hr:SlR X r) (he:JE X e te) (hl:JO X lo tl) (hu:JO X hi th):JE X (.Subscript e (.Slice lo hi none p2) pos) (tSl r te tl th):=⟨Kq hr he.run hl.run hu.run⟩
theorem bC (hK:X.K=K) (ha:JE X a ta) (hb:JE X b tb) (h:autoParam (uo b=true) L2.auto4._auto_1):JE X (.Subscript a b pos) (J5 (R8 K) ta tb):=⟨ixE hK ha.run hb.run h⟩
theorem aM {k:Nat} {ps:List Str} {sp:Sp} (F:Has X.prog X.w X.K X.mg X.base k x ps sp) (hr:Room k X.A) (hg:Gl X x) (ha:JA X (e :: es) t) (hdb:(x == ("__debug__":Str))=false:=by trivial) (h:autoParam ((e :: es).all notStar=true) L2.auto4._auto_1):
  JE X (.Call (.Name x p) (e :: es) [] pos) (yU sp [] E0 t):=⟨X5 F hr hg ha.run hdb h⟩
theorem aL {id:String} {r:List V->Hp->VK->Prop} (hc:CallR X (.builtin id) r) (hg:Gl X x) (hm:X.mg x=none) (hv:bootBuiltins x=some (.builtin id)) (ha:JA X (e :: es) t) (hn:x≠"__name__":=by trivial) (hdb:(x == ("__debug__":Str))=false:=by trivial) (h:autoParam ((e :: es).all notStar=true) L2.auto4._auto_1):
  JE X (.Call (.Name x p) (e :: es) [] pos) (Va r t):=⟨X6 hc hg hm hv ha.run hn hdb h⟩
theorem uw {T:String} {r:List V->Hp->VK->Prop} (hc:CallR X (.type T) r) (hg:Gl X x) (hm:X.mg x=none) (hv:bootBuiltins x=some (.type T)) (ha:JA X (e :: es) t) (hn:x≠"__name__":=by trivial) (hdb:(x == ("__debug__":Str))=false:=by trivial) (h:autoParam ((e :: es).all notStar=true) L2.auto4._auto_1):
  JE X (.Call (.Name x p) (e :: es) [] pos) (Va r t):=⟨Vv hc hg hm hv ha.run hn hdb h⟩
theorem gj {name:Str} {T id:String} {r:V->List V->Hp->VK->Prop} (hK:X.K=K) (pa:PlainAttrs T) (slot:Slot T name id) (hty:typeOf (.builtin id)=pure (.type "method_descriptor")) (hm:Qg X id r) (ho:JE X o to) (ha:JA X (e :: es) t)
  (hbase:autoParam (qN o=true) L2.auto4._auto_1) (hl:autoParam (es.length < 20) L2.auto2._auto_1) (hline:autoParam ((apos.endLine == cpos.line)=true) L2.auto4._auto_1) (h:autoParam ((e :: es).all notStar=true) L2.auto4._auto_1):JE X (.Call (.Attribute o name apos) (e :: es) [] cpos) (XF K T r to t):=⟨X7 hK pa slot hty hm ho.run ha.run hbase hl hline h⟩
theorem Qt {name:Str} {T id:String} {r:V->List V->Hp->VK->Prop} (hK:X.K=K) (pa:PlainAttrs T) (slot:Slot T name id) (hty:typeOf (.builtin id)=pure (.type "method_descriptor")) (hm:Qg X id r) (ho:JE X o to)
  (hbase:autoParam (qN o=true) L2.auto4._auto_1) (hline:autoParam ((apos.endLine == cpos.line)=true) L2.auto4._auto_1):JE X (.Call (.Attribute o name apos) [] [] cpos) (Kv K T r to):=⟨Vw hK pa slot hty hm ho.run hbase hline⟩
theorem jQ:VD X [] KD:=⟨KH⟩
variable {tg iter elt:Expr} {ifs:List Expr} {sub:List (Option Nat)} {wi:TI} {g:TG} {N:List Str}
theorem jj {ta:TA} (hg:Gl X "range") (hm:X.mg "range"=none) (ha:JA X [a] ta) (h:autoParam (notStar a=true) L2.auto4._auto_1):JI X tg (.Call (.Name "range" p) [a] [] pos) (JX ta):=⟨Hj hg hm ha.run (bM h)⟩
theorem HW {ta:TA} (hg:Gl X "range") (hm:X.mg "range"=none) (ha:JA X [a,b] ta) (h:autoParam (notStar a=true) L2.auto4._auto_1) (h2:autoParam (notStar b=true) L2.auto4._auto_1):JI X tg (.Call (.Name "range" p) [a,b] [] pos) (JZ ta):=⟨Hk hg hm ha.run (by rw [bM h,bM h2];rfl) (by rw [bM h2];rfl)⟩
theorem oO (hK:X.K=K) (hl:JE X e te):JI X tg e (Qm K te):=⟨Qo hK hl.run⟩
theorem aQ {i:Nat} (hN:X.N.Nodup) (hi:X.N[i]?=some x) (hx:Loc X.env.scope x) (hf:X.fn x=true):JG X (.Name x pos) (rF i):=⟨Fz hN hi hx (.inl hf)⟩
theorem yH (i:Nat) (h:scope.names.lookup x=some .local) (hN:N'.Nodup) (hi:autoParam (N'[i]?=some x) L2.auto4._auto_1):JG (tW X N' scope C s₀ H₀ ex) (.Name x pos) (rF i):=⟨pgB i h hN hi⟩
theorem fX:Ye X [] Um:=⟨Pj⟩
theorem aW {gs:Di} (h1:JG X e g) (h2:Ye X es gs) (hs:autoParam ((assignEach (e :: es) X.env).map (·.2)=assign e X.env :: (assignEach es X.env).map (·.2)) L2.auto4._auto_1):Ye X (e :: es) (JM g gs):=⟨JN h1.run h2.run hs⟩
theorem m5 {ts:List Expr} {k:Nat} {gs:Di} {n:Nat} (hK:X.K=K) (hc:X.calm=true) (h:Ye X ts gs) (hn:autoParam ((assignEach ts X.env).length=n) L2.auto4._auto_1) (hst:autoParam ((assignEach ts X.env).findIdx? (·.1)=none) L2.auto4._auto_1):JG X (.Tuple ts k pos) (Pk K n gs):=⟨Qs hK hc h.run hn hst⟩
theorem gk {ts:Dj} (ho:JE X a ta) (hi:JE X b tb) (hs:Ph X ts) (h:autoParam (uo b=true) L2.auto4._auto_1):JG X (.Subscript a b pos) (Uo ta tb ts):=⟨Up ho.run hi.run hs (by
 intro v;cases b <;> first | rfl | cases h)⟩
theorem pY (S:vN N sc N' scope sub) (hc:X.calm=true) (hN:X.N=N) (hsc:X.env.scope=sc) (hi:JI X tg iter wi)
  (hg:∀ (C:Addr) (s₀:Shared) (H₀:Hp) (ex:List Addr),JG (tW X N' scope C s₀ H₀ ex) tg g)
  (ht:∀ (C:Addr) (s₀:Shared) (H₀:Hp) (ex:List Addr),VD (tW X N' scope C s₀ H₀ ex) ifs tt)
  (he:∀ (C:Addr) (s₀:Shared) (H₀:Hp) (ex:List Addr),JE (tW X N' scope C s₀ H₀ ex) elt te) (h:autoParam (u0 iter=true) L2.auto4._auto_1):
  JE X (.ListComp elt [⟨tg,iter,ifs,0⟩] scope pos) (xr sub wi g tt te):=⟨Yc S hc hN hsc hi.run (fun C s₀ H₀ ex=>(hg C s₀ H₀ ex).run) (fun C s₀ H₀ ex=>(ht C s₀ H₀ ex).run) (fun C s₀ H₀ ex=>(he C s₀ H₀ ex).run) h⟩
variable {st:Stmt} {sts:List Stmt} {u v:TS}
theorem aG {i:Nat} (hN:X.N.Nodup) (hi:X.N[i]?=some x) (hx:Loc X.env.scope x) (he:JE X e te) (hf:X.fn x=true) (h:autoParam (kJ e=true) L2.auto4._auto_1):JS X (.Assign [.Name x pos'] e pos) (zK te (rF i)):=⟨X8 hN hi hx he.run hf h⟩
theorem eU {ts:Dj} (he:JE X e te) (hg:JG X (.Subscript a b pos') g) (h:autoParam (kJ e=true) L2.auto4._auto_1):JS X (.Assign [.Subscript a b pos'] e pos) (zK te g):=⟨JQ he.run hg.run (by show swapsWith e (some (.Subscript a b pos')) pos.line X.env=pure false;exact zf h) (by cases e <;> rfl) rfl⟩
theorem aJ (he:JE X e te):JS X (.Return (some e) pos) (Uj te):=⟨Uk he.run⟩
theorem aZ (he:JE X e te) (h:autoParam (kJ e=true) L2.auto4._auto_1):JS X (.Expr e pos) (Fy te):=⟨Vx he.run h⟩
theorem bH {sa sb:List Stmt} (hc:JT X c tt) (ha:JB X sa u) (hb:JB X sb v):JS X (.If c sa sb pos) (Ul tt u v):=⟨Xl hc.run ha.run hb.run⟩
theorem gn {body:List Stmt} (hp:PassesOwn (model X.prog X.w) X.A X.env X.xe) (hc:X.calm=true) (hi:JI X tg iter wi) (hg:JG X tg g) (hb:JB X body u) (h:autoParam (u0 iter=true) L2.auto4._auto_1):JS X (.For tg iter body [] pos) (Pq wi g u):=⟨Yb hp hc hi.run hg.run hb.run h⟩
theorem Lp {body:List Stmt} (hp:PassesOwn (model X.prog X.w) X.A X.env X.xe) (hc:JT X c tt) (hb:JB X body u):JS X (.While c body [] pos) (Dk tt u):=⟨JV hp hc.run hb.run⟩
theorem pZ:JS X st JK:=⟨JL⟩
theorem bx:JB X [] JF:=⟨Pa⟩
theorem aA (h:JS X st u):JB X [st] u:=⟨Pb h.run⟩
theorem aq (h:JS X st u) (h2:JB X sts v):JB X (st :: sts) (O9 u v):=⟨JH h.run h2.run⟩
end
section
variable {P:Program} {w:World} {K:W.Frag} {mg:Str->Option Value} {base:Heap}
theorem fY {x:Str} {st:Stmt} {N ps:List Str} {k:Nat} {sp:Sp} (D:fO K mg x st) (S:aD N ps (az st))
  (hb:∀ (kV doc pm:Value) (an:Option Addr) (cdv ct:Value) (us:List Value),us.length=ps.length->bindArgs (PySem.W.fnOf x x (iz st) (cM st) (az st) .none kV doc pm an cdv ct) ⟨us,[]⟩=pure (ps.zip us))
  (len:∀ vs H Q E,sp vs H Q E->vs.length=ps.length)
  (hbody:∀ (f:Addr) (cdv:Value) (A:Around) (outer:List Env) (s:Shared) (H:Hp) (vs:List V) (Q:VK) (E:XK),Room k (A.deeper (envOfC x (az st) s.heap.objs.size f cdv))->sp vs H Q E->
   ∃ t,JB (rQ HD P w K mg base N x (az st) f cdv A outer s H E).nox (cM st) t/\t {nx:=fun _ H'=>Q .non H',rt:=Q} (start N vs) H):Has P w K mg base (k+1) x ps sp:=
 Vm D S hb len fun f cdv A outer s H vs Q E hr h=>let ⟨t,j,q⟩:=hbody f cdv A outer s H vs Q E hr h;⟨t,j.run,q⟩
theorem okJ {x:Str} {st:Stmt} {N ps:List Str} {k:Nat} {sp:Sp} {f:Addr} {fd:FuncData} (F:Fun K x x st f fd) (S:aD N ps (az st)) (len:∀ vs H Q E,sp vs H Q E->vs.length=ps.length)
  (hbody:∀ (f:Addr) (cdv:Value) (A:Around) (outer:List Env) (s:Shared) (H:Hp) (vs:List V) (Q:VK) (E:XK),Room k (A.deeper (envOfC x (az st) s.heap.objs.size f cdv))->sp vs H Q E->
   ∃ t,JB (rQ HD P w K mg base N x (az st) f cdv A outer s H E).nox (cM st) t/\t {nx:=fun _ H'=>Q .non H',rt:=Q} (start N vs) H):FnOk P w K mg base HD (k+1) f fd ps sp:=
 F.ok S len fun cdv A outer s H vs Q E hr h=>let ⟨t,j,q⟩:=hbody f cdv A outer s H vs Q E hr h;⟨t,j.run,q⟩
end
theorem ou {K:W.Frag} {mg:Str->Option Value} {h:Heap} (X:K.In h) (G:h.Ns mainGlobals mg) {x:Str} {v:Value} {f:Tok->Value} (a:PySem.W.nsIn K mainGlobals x=some (some v)) (e:∃ t,v=f t):∃ t,mg x=some (f t):=by
 obtain ⟨t,rfl⟩:=e;exact ⟨t,AbG X G a⟩
theorem Yg {l:PySem.W.OpenLaw} {q:Program} {loose:List Str} {XP:(Str->Option Value)->Heap->Prop} {YP:World->Heap->Prop} {d:DefRec} {K:Params->W.Frag} {st:Stmt} {k:Nat} {sp:W.Frag->Sp} {x:Str}
  (hn:l.most=some 63) (hdf:d.params.defaults=[]) (hdn:d.name="law") (hk:Room k callerA) (hY:∀ (w:World) (h:Heap),YP w h->(K w.params).In h)
  (hb:∀ (kV doc pm:Value) (an:Option Addr) (cdv ct:Value) (us:List Value),us.length=[x].length->bindArgs (PySem.W.fnOf "law" "law" (iz st) (cM st) (az st) .none kV doc pm an cdv ct) ⟨us,[]⟩=pure ([x].zip us))
  (F:∀ (w:World) (mg:Str->Option Value) (h:Heap),(K w.params).In h->h.Ns mainGlobals mg->fO (K w.params) mg "law" st/\∀ (base:Heap) (f:Addr) (fd:FuncData),Fun (K w.params) "law" "law" st f fd->FnOk l.prog w (K w.params) mg base HD k f fd [x] (sp (K w.params)))
  (hsp:∀ (K:W.Frag) (H:Hp) (a:Addr) (ns:List Int),ns.length<=63->SqL K H a (ns.map V.int)->sp K [.ref a] H (fun v _=>v= .bl true) fun _ _ _=>False) (him:autoParam (importsNone q=true) L2.auto6._auto_1):
  PySem.W.WalkO q loose XP YP l.row.toRowW d [] (fun f vs=>PySem.call f vs):=
 L2.Qk (n:=63) (k:=k) (x:=x) (CX:=fun _=>HD) (sp:=fun w=>sp (K w.params)) hn (by decide) hdf hk hY (fun w mg fa h X G e=>by
  obtain ⟨⟨f,fd,Fn,hm⟩,ok⟩:=F w mg h X G;rw [hdn,hm] at e;have ef:f=fa:=by injection (Z2 e)
  subst ef;refine ⟨fd,fun s u=>?_,fun base _ _=>ok base f fd Fn⟩;obtain ⟨oc,od,kV,doc,pm,an,cdv,ct,osl,rfl,lk,hcd⟩:=Fn.ex;exact .of_eq (hb kV doc pm an cdv ct [u] rfl)) (fun w H a ns hl _ hS=>hsp _ H a ns hl hS) (fun _ _ _ _ _ z=>z) him
def VF (xs:Nat->List V) (n:Nat):It:=⟨fun i _=>i < n,fun i H v H'=>∃ T,H T=none/\v= .ref T/\H'=upd H T (.tup (xs i)),fun i _=>i=n⟩
theorem VG {P:Program} {w:World} {K:W.Frag} {elts:List Expr} {k:Nat} {pos:Pos} {it:Addr} {fp wr:List Addr} {n:Nat} {xs:Nat->List V} {Pt:Nat->Array Value->Prop} {St:Nat->Heap->Prop} {Mid:Nat->Addr->Heap->Prop}
  (W:∀ A:Around,A.handled=none->WalksT P w A it fp wr n Pt St Mid) (hxs:∀ i,(xs i).length<=sizeLine) (hPt:∀ i vals,Pt i vals->Vals (xs i) vals.toList) (hmem:it∈fp)
  (hobj:∀ i h,St i h->∀ b∈fp,∃ o,h.get? b=some o/\∀ v,o.data≠.cell v)
  (hself:∀ (A:Around) (i:Nat) (s:Shared) (Q:Value->Shared->Prop) (E:Value->Shared->Prop),St i s.heap->Q (.ref it) s->wpAny (model P w) A (pyIter (.ref it)) Q E s):
  Turn P w K (.Tuple elts k pos) (VF xs n) fp it St where
 mem:=hmem
 obj:=hobj
 keep:=fun i h h' st kk=>(W {} rfl).frame i h h' st kk
 item:=by
  intro X hP hw hK hc i pins s U H E I hf st hg;subst hP hw hK;have W':=W X.A (I.ok.hd hc);refine W'.item i s _ _ hg st fun T vals h' tk hPv hT isT mid kk=>?_
  refine ⟨.ref T,rfl,W'.go elts k pos i T _ _ _ mid fun h'' st'' kk2=>?_⟩;have hTn:H T=none:=I.hok.fresh hT;have hTw:T ∉ wr:=W'.apart i T h' mid;have kall:∀ b o,b ∉ wr->s.heap.get? b=some o->h''.get? b=some o:=fun b o hb e=>kk2 b o hb (kk b o hb e)
  have nT:∀ b o,s.heap.get? b=some o->b≠T:=fun b o e=>Aah (Z1 (ZL e) hT)
  have nTH:∀ b u,H b=some u->b≠T:=fun b u e z=>by rw [z,hTn] at e;cases e
  have nW:∀ b u,H b=some u->b ∉ wr:=fun b u e hb=>by rw [(hf b (W'.sub b hb)).1] at e;cases e
  have isT':h''.IsTuple T vals:=by
   obtain ⟨o,ho,r⟩:=isT;exact ⟨o,kk2 T o hTw ho,r⟩
  have hlT:∃ o,h''.get? T=some o:=let ⟨o,ho,_⟩:=isT';⟨o,ho⟩
  have I':Inv X pins U (upd H T (.tup (xs i))) {s with heap:=h'',toks:=tk}:=by
   refine I.step (g':=s.gens) (d':=s.drawn) (ch:=wr) (fun b hb=>?_) (fun b o _ _ hc e _=>kall b o hc e) (fun b o _ _ hc e _=>⟨o.slots,kall b o hc e⟩) (fun b o _ e hn=>by rw [aC (nT b o e)];exact hn)
    (fun b o hc e=>⟨o,kall b o hc e⟩) (fun b ys e=>by rw [aC (nTH b _ e)];exact e) (fun b o u e=>by rw [aC (nTH b _ e)];exact e) (fun b ps e=>⟨#[],by rw [aC (nTH b _ e),e];simp⟩) (fun m hm=>?_) (fun b u e=>?_) I.bare
   ·obtain ⟨f0,f1,f2,f3,f4,f5⟩:=hf b (W'.sub b hb)
    exact ⟨f3,f1,f4,f5⟩
   ·obtain ⟨o,es,ep,ho,r⟩:=hm
    exact ⟨o,es,ep,kall _ o (fun hb=>(hf _ (W'.sub _ hb)).2.1 rfl) ho,r⟩
   ·by_cases hb:b=T
    ·subst hb
     rw [aj] at e;cases e;obtain ⟨o,ho,hcl,nn,hd⟩:=isT';exact ⟨hxs i,vals.toList,hPt i vals hPv,o,ho,hcl,nn,by simpa using hd⟩
    ·rw [aC hb] at e
     refine (I.hok b u e).stay (fun c v hc' q=>kall c v ?_ q) (fun c q=>by rw [aC (nTH c _ q)];exact q) fun c ys q=>by rw [aC (nTH c _ q)];exact q
     rcases hc' with z | z
     ·rw [z];exact nW b u e
     ·exact nW c _ z
  refine ⟨.ref T,upd H T (.tup (xs i)),I',rfl,⟨T,hTn,rfl,rfl⟩,st'',fun b hb=>?_⟩;obtain ⟨o,e,_⟩:=hobj i _ st b hb;rw [aC (nT b o e)];exact (hf b hb).1
 done:=by
  intro X hP hw hK hc i pins s U H E I hf st hg;subst hP hw hK;have W':=W X.A (I.ok.hd hc);have hg:i=n:=hg;subst hg;refine W'.done s _ _ st fun h' tk kk=>⟨rfl,?_⟩
  have nW:∀ b u,H b=some u->b ∉ wr:=fun b u e hb=>by rw [(hf b (W'.sub b hb)).1] at e;cases e
  refine I.step (g':=s.gens) (d':=s.drawn) (ch:=wr) (fun b hb=>?_) (fun b o _ _ hc e _=>kk b o hc e) (fun b o _ _ hc e _=>⟨o.slots,kk b o hc e⟩) (fun b o _ e hn=>hn)
    (fun b o hc e=>⟨o,kk b o hc e⟩) (fun b ys e=>e) (fun b o u e=>e) (fun b ps e=>⟨#[],by rw [e];simp⟩) (fun m hm=>?_) (fun b u e=>?_) I.bare
  ·obtain ⟨f0,f1,f2,f3,f4,f5⟩:=hf b (W'.sub b hb)
   exact ⟨f3,f1,f4,f5⟩
  ·obtain ⟨o,es,ep,ho,r⟩:=hm
   exact ⟨o,es,ep,kk _ o (fun hb=>(hf _ (W'.sub _ hb)).2.1 rfl) ho,r⟩
  ·refine (I.hok b u e).stay (fun c v hc' q=>kk c v ?_ q) (fun c q=>q) fun c ys q=>q
   rcases hc' with z | z
   ·rw [z];exact nW b u e
   ·exact nW c _ z
 self:=hself
def pO (x:Str) (i:Nat):List V:=[.int i,.str ⟨#[x.cps.getD i 0]⟩]
section
variable {prog:Program} {w:World} {A:Around} {E:Value->Shared->Prop} {s:Shared}
theorem xO {it l:Addr} {items:Array Value} (hne:l≠it):∀ (n i:Nat) (s:Shared) (Q:List Value->Shared->Prop),s.heap.IsListIter it l i->s.heap.IsList l items->i+n<=items.size->
  (∀ h',h'.IsListIter it l (i+n)->Heap.SameBut it s.heap h'->Q ((items.toList.drop i).take n) {s with heap:=h'})->wpAny (model prog w) A (draw (.ref it) n) Q E s
 | 0,i,s,Q,hit,_,_,hQ=>by
  show wpAny _ _ (pure []) Q E s;exact Zy (by simpa using hQ s.heap hit (Heap.SameBut.refl ..))
 | n+1,i,s,Q,hit,ht,hle,hQ=>by
  have hlt:i < items.size:=by omega
  show wpAny _ _ (pyNext (.ref it) >>=_) Q E s;refine Zu (wpAny_pyNext_list_item hit ht (x:=items[i]) (by simp [hlt]) fun h₁ hit₁ hs₁=>?_);refine Zu (Aar (xO hne n (i+1) _ _ hit₁ (ht.extBut hs₁.extBut hne) (by omega) fun h₂ hit₂ hs₂=>Zy ?_));have hd:items.toList.drop i=items[i] :: items.toList.drop (i+1):=by simp [Abj,hlt]
  have:=hQ h₂ (by rw [show i+(n+1)=i+1+n by omega];exact hit₂) (hs₁.trans hs₂);rw [hd,List.take_succ_cons] at this;exact this
theorem ux {l:Addr} {items:Array Value} {Q:List Value->Shared->Prop} (hh:A.handled=none) (ht:s.heap.IsList l items)
  (hQ:∀ h',Heap.ExtBut s.heap.objs.size s.heap h'->Q items.toList {s with heap:=h'}):wpAny (model prog w) A (unpackItems (.ref l) items.size none) Q E s:=by
 have hlt:l≠s.heap.objs.size:=by obtain ⟨o,ho,_⟩:=ht;exact Aah (ZL ho)
 unfold unpackItems;refine Zu ?_
 ·unfold notIterableAtAll
  refine Zu (wpAny_specialOf ht.typeIs slot_list_iter.lookup ?_);refine Zy ?_;simp only [Bool.false_eq_true,if_false];refine Zu (Aar (wpAny_pyIter_list ht ?_));refine Zu (Aar (xO hlt items.size 0 _ _ ⟨_,ZP _ rfl,rfl,rfl⟩ (let ⟨o,ho,r⟩:=ht;⟨o,Zz _ ho,r⟩) (by omega) fun h₁ hit₁ hs₁=>?_))
  have hall:List.take items.size (List.drop 0 items.toList)=items.toList:=by
   rw [List.drop_zero];exact Aan (by simp)
  rw [hall];rw [if_neg (by simp)]
  have ht₁:h₁.IsList l items:=by
   have:(s.heap.push {cls:=.type "list_iterator",data:=.fields #[.ref l,.int 0 0]}).IsList l items:=let ⟨o,ho,r⟩:=ht;⟨o,Zz _ ho,r⟩
   exact this.extBut hs₁.extBut hlt
  refine Zu (Aar (wpAny_pyNext_list_end hh hit₁ ht₁ (by simp) fun h₂ he₂=>?_));simp only [Option.isSome_none,Bool.false_eq_true,if_false];refine Zy (hQ h₂ fun b o hb e=>he₂ b o hb (hs₁.extBut b o hb (Zz _ e)))
theorem rU {env:Env} {elts:List Expr} {x1} {pos:Pos} {l:Addr} {items:Array Value} {Q:Unit->Shared->Prop} (hh:A.handled=none) (ht:s.heap.IsList l items)
  (hn:(assignEach elts env).length=items.size) (hstar:(assignEach elts env).findIdx? (·.1)=none)
  (h:∀ h',Heap.ExtBut s.heap.objs.size s.heap h'->wpAny (model prog w) A (assignInOrder ((assignEach elts env).map (·.2)) items.toList) Q E {s with heap:=h'}):
  wpAny (model prog w) A (assign (.Tuple elts x1 pos) env (.ref l)) Q E s:=by
 rw [assign_Tuple];refine Zu (AbF ?_);unfold unpack;rw [hn,hstar];exact Zu (Aar (ux hh ht h))
end
def Yh (K:W.Frag) (n:Nat) (t:Di):TG:=fun v U H Q=>∃ a xs,v= .ref a/\(SqT K H a xs\/SqL K H a xs)/\xs.length=n/\t xs U H Q
theorem uy {X:Cx} {K:W.Frag} {ts:List Expr} {k:Nat} {gs:Di} {n:Nat} {pos:Pos} (hK:X.K=K) (hc:X.calm=true) (h:Ye X ts gs) (hn:autoParam ((assignEach ts X.env).length=n) L2.auto4._auto_1) (hst:autoParam ((assignEach ts X.env).findIdx? (·.1)=none) L2.auto4._auto_1):JG X (.Tuple ts k pos) (Yh K n gs):=⟨by
 subst hK;intro pins s U H v u Q I r hw;obtain ⟨a,xs,e1,hq,hl,hw⟩:=hw;subst e1;cases r;rcases hq with hq | hq
 ·exact (JP hc h.run hn hst) pins s U H (.ref a) (.ref a) Q I (show RelV (.ref a) (Value.ref a) from rfl) ⟨a,xs,rfl,hq,hl,hw⟩
 ·obtain ⟨its,rv,ht,hz⟩:=I.list hq
  refine rU (I.ok.hd hc) ht.isList (by simp [hn,← hl,rv.length]) hst fun h' hx=>?_
  have I1:Inv X pins U H {s with heap:=h'}:=I.kept (t':=s.toks) fun b o e=>hx b o (Aah (ZL e)) e
  exact h.run pins _ U H xs _ Q I1 (by simpa using rv) hw⟩
theorem uz {X:Cx} {ts:List Expr} {k:Nat} {e:Expr} {te:TE} {g:TG} {pos pos':Pos} (he:JE X e te) (hg:JG X (.Tuple ts k pos') g) (h:autoParam (kJ e=true) L2.auto4._auto_1) (h2:autoParam ((match e with | .Tuple ..=>false | _=>true)=true) L2.auto4._auto_1):JS X (.Assign [.Tuple ts k pos'] e pos) (zK te g):=
 ⟨JQ he.run hg.run (by show swapsWith e (some (.Tuple ts k pos')) pos.line X.env=pure false;exact zf h) (by cases e <;> first | rfl | cases h2) rfl⟩
def Yi (K:W.Frag):R2:=fun x y H Q=>rNe x y H Q\/∃ (a b:Addr) (ns ms:List Int),x= .ref a/\y= .ref b/\SqL K H a (ns.map V.int)/\SqL K H b (ms.map V.int)/\Q (.bl (!decide (ns=ms))) H
theorem VH {X:Cx} {K:W.Frag} (hK:X.K=K) (hu:X.A.units+64 < cLine):OpR X (compareOp .NotEq) (Yi K):=by
 subst hK;intro pins s U H x y v u Q I rx ry h;rcases h with h | ⟨a,b,ns,ms,rfl,rfl,ha,hb,q⟩
 ·exact Xq pins s U H x y v u Q I rx ry h
 ·cases rx
  cases ry;obtain ⟨its,r1,p1,z1⟩:=I.list ha;obtain ⟨jts,r2,p2,z2⟩:=I.list hb;exact PySem.W.ne_intsK p1.isList (intsAre_of r1) p2.isList (intsAre_of r2) hu ⟨.bl _,H,I,rfl,q⟩
section
variable {H:Hp} {Q:VK} {K:W.Frag} {U:St}
theorem bI {n:Nat} {gs:Di} {p:Addr} {xs:List V} {R:St->Hp->Prop} (s:SqT K H p xs) (hl:xs.length=n) (h:gs xs U H R):Pk K n gs (.ref p) U H R:=⟨p,xs,rfl,s,hl,h⟩
theorem bU {t:TG} {u:Di} {v:V} {vs:List V} {R:St->Hp->Prop} (h:t v U H fun U' H'=>u vs U' H' R):JM t u (v :: vs) U H R:=⟨v,vs,rfl,h⟩
theorem dI {R:St->Hp->Prop} (h:R U H):Um [] U H R:=⟨rfl,h⟩
theorem cB {p:Addr} {xs:List V} {y:V} (hp:H p=some (.lst xs)) (c:xs.length < sizeLine) (h:Q .non (upd H p (.lst (xs ++ [y])))):Ge (.ref p) [y] H Q:=⟨p,xs,y,rfl,rfl,hp,c,h⟩
theorem Lq {xs:Nat->List V} {n:Nat} {g:TG} {tb:TS} {D:Ends} {H:Hp} (Pv:Nat->St->Hp->Prop) (h0:Pv 0 U H)
  (hs:∀ i U H T,i < n->Pv i U H->H T=none->g (.ref T) U (upd H T (.tup (xs i))) fun σ2 H2=>tb {D with nx:=Pv (i+1),ct:=Pv (i+1),bk:=D.nx} σ2 H2) (hd:∀ U H,Pv n U H->D.nx U H):
  ∃ W:Nat->Nat->St->Hp->Prop,(∃ m,W 0 m U H)/\∀ i m U H,W i m U H->
   ((VF xs n).stop i H/\D.nx U H)\/((VF xs n).go i H/\∃ N:St->Hp->Prop,(∀ U' H',N U' H'->∃ m',m' < m/\W (i+1) m' U' H')/\∀ x H',(VF xs n).yld i H x H'->g x U H' fun σ2 H2=>tb {D with nx:=N,ct:=N,bk:=D.nx} σ2 H2):=by
 refine ⟨fun i m U H=>m=n - i/\i<=n/\Pv i U H,⟨n,by simp,AaE _,h0⟩,?_⟩;rintro i m U H ⟨rfl,hi,p⟩;by_cases hlt:i < n
 ·refine .inr ⟨hlt,Pv (i+1),fun U' H' p'=>⟨n - (i+1),by omega,rfl,hlt,p'⟩,fun x H' y=>?_⟩
  obtain ⟨T,hT,e1,e2⟩:=y;subst e1 e2;exact hs i U H T hlt p hT
 ·have e:i=n:=by omega
  subst e;exact .inl ⟨rfl,hd U H p⟩
theorem xP {a:Addr} {xs:List V} {k:Int} (ha:H a=some (.lst xs)) (h0: -(2 ^ 63)<=k) (h1:k < 2 ^ 63) (hz:xs.length*k.toNat<=sizeLine) (h:∀ p,H p=none->Q (.ref p) (upd H p (.lst (List.replicate k.toNat xs).flatten))):KZ (.ref a) (.int k) H Q:=
 .inr (.inr ⟨a,k,xs,rfl,rfl,ha,h0,h1,hz,h⟩)
end
section
variable {X:Cx} {tg iter elt:Expr} {ifs:List Expr} {scope:Scope} {pos:Pos} {N':List Str} {sub:List (Option Nat)} {wi:TI} {g:TG} {tt:TT} {te:TE}
theorem Ec {N:List Str} {sc:Scope} {i:Nat} {x:Str} {pos' spos:Pos} (hNd:X.N.Nodup) (hxi:X.N[i]?=some x) (hx:Loc X.env.scope x) (hf:X.fn x=true) (S:vN N sc N' scope sub) (hc:X.calm=true) (hN:X.N=N) (hsc:X.env.scope=sc) (hi:PI X tg iter wi)
  (hg:∀ (C:Addr) (s₀:Shared) (H₀:Hp) (ex:List Addr),PG (tW X N' scope C s₀ H₀ ex) tg g)
  (ht:∀ (C:Addr) (s₀:Shared) (H₀:Hp) (ex:List Addr),DN (tW X N' scope C s₀ H₀ ex) ifs tt)
  (he:∀ (C:Addr) (s₀:Shared) (H₀:Hp) (ex:List Addr),PE (tW X N' scope C s₀ H₀ ex) elt te)
  (hs:∀ x,foldedSetIterable iter X.env x=pure x):PS X (.Assign [.Name x pos'] (.ListComp elt [⟨tg,iter,ifs,0⟩] scope pos) spos) (zK (xr sub wi g tt te) (rF i)):=by
 intro pins s U H D I h;have hsw:∃ b,swapsWith (.ListComp elt [⟨tg,iter,ifs,0⟩] scope pos) (some (.Name x pos')) spos.line X.env=pure b:=⟨_,rfl⟩;obtain ⟨b,hsw⟩:=hsw;cases b with
 | false=>exact JR hNd hxi hx (Gf S hc hN hsc hi hg ht he hs) hsw (.inl hf) pins s U H D I h
 | true=>
  rw [exec_Assign_Name_used _ _ _ _ hsw];refine Zu (AbF (Zu ?_));show wpAny _ X.A (do let _ ← comprehension (.ListComp elt [⟨tg,iter,ifs,0⟩] scope pos) scope X.env _ (newList []) false (eval iter X.env) (some (assign (.Name x pos') X.env))) _ _ s;refine Zu (AaO (Br (use:=some (assign (.Name x pos') X.env)) (R:=fun _ s'=>SP X pins D .next s') S hc hN hsc hi hg ht he hs pins s U H _ I h ?_) (fun _ s' hq=>Zy (Zy hq)) fun _ _ e=>e);intro Da C s5 H5 m I5 fC hn q;show wpAny _ X.A (assign (.Name x pos') X.env (.ref Da)) _ _ _;refine wpAny_assign_Name (yQ I5 hNd hxi hx (v:=.ref Da) rfl (fun s6 I6 qq0=>?_) (.inl hf));obtain ⟨a,sb,ha⟩:=qq0;obtain ⟨f0,f1,f2,f3,f4,f5⟩:=fC
  have hCa:C≠a:=fun z=>by
   rcases ha with e | e
   ·exact f1 (z.trans e)
   ·exact f4 x a e z.symm
  exact ⟨m,hn.sameBut sb hCa,fun h' hs'=>⟨_,H5,I6.turned (t':=s6.toks) (fun b o hb e=>hs'.extBut b o hb e) f0 f1 f3 f4 f5,q⟩⟩
end
section
variable {X:Cx} {tg iter elt:Expr} {ifs:List Expr} {scope:Scope} {pos:Pos} {N':List Str} {sub:List (Option Nat)} {wi:TI} {g:TG} {tt:TT} {te:TE} {N:List Str} {sc:Scope}
theorem Gk {i:Nat} {x:Str} {pos' spos:Pos} (hNd:X.N.Nodup) (hxi:X.N[i]?=some x) (hx:Loc X.env.scope x) (S:vN N sc N' scope sub) (hc:X.calm=true) (hN:X.N=N) (hsc:X.env.scope=sc) (hi:JI X tg iter wi)
  (hg:∀ (C:Addr) (s₀:Shared) (H₀:Hp) (ex:List Addr),JG (tW X N' scope C s₀ H₀ ex) tg g)
  (ht:∀ (C:Addr) (s₀:Shared) (H₀:Hp) (ex:List Addr),VD (tW X N' scope C s₀ H₀ ex) ifs tt)
  (he:∀ (C:Addr) (s₀:Shared) (H₀:Hp) (ex:List Addr),JE (tW X N' scope C s₀ H₀ ex) elt te) (hf:X.fn x=true) (h:autoParam (u0 iter=true) L2.auto4._auto_1):
  JS X (.Assign [.Name x pos'] (.ListComp elt [⟨tg,iter,ifs,0⟩] scope pos) spos) (zK (xr sub wi g tt te) (rF i)):=
 ⟨Ec hNd hxi hx hf S hc hN hsc hi.run (fun C s₀ H₀ ex=>(hg C s₀ H₀ ex).run) (fun C s₀ H₀ ex=>(ht C s₀ H₀ ex).run) (fun C s₀ H₀ ex=>(he C s₀ H₀ ex).run) (K9 h)⟩
end
section
variable {X:Cx} {pins:List (Addr×Obj)} {U:St} {H:Hp} {s:Shared}
theorem Inv.newtup {wr:List Addr} {T:Addr} {vals:Array Value} {xs:List V} {h'':Heap} {tk:Nat} (I:Inv X pins U H s) (hf:∀ b∈wr,pU X pins H b) (hT:s.heap.objs.size<=T)
  (kall:∀ b o,b ∉ wr->s.heap.get? b=some o->h''.get? b=some o) (isT':h''.IsTuple T vals) (hv:Vals xs vals.toList) (hx:xs.length<=sizeLine):Inv X pins U (upd H T (.tup xs)) {s with heap:=h'',toks:=tk}:=by
 have hTn:H T=none:=I.hok.fresh hT;have nT:∀ b o,s.heap.get? b=some o->b≠T:=fun b o e=>Aah (Z1 (ZL e) hT)
 have nTH:∀ b u,H b=some u->b≠T:=fun b u e z=>by rw [z,hTn] at e;cases e
 have nW:∀ b u,H b=some u->b ∉ wr:=fun b u e hb=>by rw [(hf b hb).1] at e;cases e
 refine I.step (g':=s.gens) (d':=s.drawn) (ch:=wr) (fun b hb=>?_) (fun b o _ _ hc e _=>kall b o hc e) (fun b o _ _ hc e _=>⟨o.slots,kall b o hc e⟩) (fun b o _ e hn=>by rw [aC (nT b o e)];exact hn)
  (fun b o hc e=>⟨o,kall b o hc e⟩) (fun b ys e=>by rw [aC (nTH b _ e)];exact e) (fun b o u e=>by rw [aC (nTH b _ e)];exact e) (fun b ps e=>⟨#[],by rw [aC (nTH b _ e),e];simp⟩) (fun m hm=>?_) (fun b u e=>?_) I.bare
 ·obtain ⟨f0,f1,f2,f3,f4,f5⟩:=hf b hb
  exact ⟨f3,f1,f4,f5⟩
 ·obtain ⟨o,es,ep,ho,r⟩:=hm
  exact ⟨o,es,ep,kall _ o (fun hb=>(hf _ hb).2.1 rfl) ho,r⟩
 ·by_cases hb:b=T
  ·subst hb
   rw [aj] at e;cases e;obtain ⟨o,ho,hcl,nn,hd⟩:=isT';exact ⟨hx,vals.toList,hv,o,ho,hcl,nn,by simpa using hd⟩
  ·rw [aC hb] at e
   refine (I.hok b u e).stay (fun c v hc' q=>kall c v ?_ q) (fun c q=>by rw [aC (nTH c _ q)];exact q) fun c ys q=>by rw [aC (nTH c _ q)];exact q
   rcases hc' with z | z
   ·rw [z];exact nW b u e
   ·exact nW c _ z
theorem Inv.only {wr:List Addr} {h':Heap} {tk:Nat} (I:Inv X pins U H s) (hf:∀ b∈wr,pU X pins H b) (kk:∀ b o,b ∉ wr->s.heap.get? b=some o->h'.get? b=some o):Inv X pins U H {s with heap:=h',toks:=tk}:=by
 have nW:∀ b u,H b=some u->b ∉ wr:=fun b u e hb=>by rw [(hf b hb).1] at e;cases e
 refine I.step (g':=s.gens) (d':=s.drawn) (ch:=wr) (fun b hb=>?_) (fun b o _ _ hc e _=>kk b o hc e) (fun b o _ _ hc e _=>⟨o.slots,kk b o hc e⟩) (fun b o _ e hn=>hn)
   (fun b o hc e=>⟨o,kk b o hc e⟩) (fun b ys e=>e) (fun b o u e=>e) (fun b ps e=>⟨#[],by rw [e];simp⟩) (fun m hm=>?_) (fun b u e=>?_) I.bare
 ·obtain ⟨f0,f1,f2,f3,f4,f5⟩:=hf b hb
  exact ⟨f3,f1,f4,f5⟩
 ·obtain ⟨o,es,ep,ho,r⟩:=hm
  exact ⟨o,es,ep,kk _ o (fun hb=>(hf _ hb).2.1 rfl) ho,r⟩
 ·refine (I.hok b u e).stay (fun c v hc' q=>kk c v ?_ q) (fun c q=>q) fun c ys q=>q
  rcases hc' with z | z
  ·rw [z];exact nW b u e
  ·exact nW c _ z
end
def Xc (K:W.Frag) (a:Addr):It:=
 ⟨fun i H=>∃ xs x,SqL K H a xs/\xs[i]?=some x,
  fun i H v H'=>∃ T x,H T=none/\v= .ref T/\(∀ xs,SqL K H a xs->xs[i]?=some x)/\H'=upd H T (.tup [.int i,x]),
  fun i H=>∃ xs,SqL K H a xs/\xs.length<=i⟩
theorem Ed {P:Program} {w:World} {K:W.Frag} {elts:List Expr} {k:Nat} {pos:Pos} {e it a:Addr} (hne:e≠it):
  Turn P w K (.Tuple elts k pos) (Xc K a) [e,it] e (fun i h=>(∃ old,IsEnum h e it i old)/\h.IsListIter it a i) where
 mem:=by simp
 obj:=fun i h st c hc=>by
  obtain ⟨⟨old,he⟩,⟨o1,e1,c1,d1⟩⟩:=st;simp only [ZQ,Aaq,or_false] at hc;rcases hc with rfl | rfl
  ·exact ⟨_,he,fun v z=>by cases z⟩
  ·exact ⟨_,e1,fun v z=>by rw [d1] at z;cases z⟩
 keep:=fun i h h' st kk=>by
  obtain ⟨⟨old,he⟩,h1⟩:=st;exact ⟨⟨old,kk e (by simp) _ he⟩,h1.at fun o q=>kk it (by simp) o q⟩
 item:=by
  intro X hP hw hK hc i pins s U H E I hf st hg;subst hP hw hK;obtain ⟨⟨old,he⟩,h1⟩:=st;obtain ⟨xs,x,hq,hx⟩:=hg;obtain ⟨its,rv,p,_⟩:=I.list hq;obtain ⟨u,hu,ru⟩:=rv.get hx;refine wpAny_pyNext_enum_item he h1 p.isList (x:=u) (by simpa using hu) hne fun h' a1 a2 a3 a4 hk=>?_
  refine ⟨_,rfl,wpAny_letOwnedTupleGo_enum a1 fun h'' a1' sb=>?_⟩;have lt:∀ {c o},s.heap.get? c=some o->s.heap.objs.size≠c:=fun e=>AaY (ZL e)
  have lti:s.heap.objs.size≠it:=by obtain ⟨o,q,_⟩:=h1;exact lt q
  have isT:h''.IsTuple s.heap.objs.size #[.int i s.toks,u]:=⟨_,sb.extBut _ _ (lt he) a3,rfl,_,rfl⟩
  have kall:∀ b o,b ∉ [e,it]->s.heap.get? b=some o->h''.get? b=some o:=fun b o hb q=>by
   simp only [ZQ,Aaq,or_false,not_or] at hb;exact sb.extBut _ _ hb.1 (hk b o hb.1 hb.2 q)
  have hTn:H s.heap.objs.size=none:=I.hok.fresh (ZC _);refine ⟨.ref s.heap.objs.size,_,I.newtup (tk:=s.toks+1) hf (ZC _) kall isT (xs:=[.int i,x]) (.cons ⟨_,rfl⟩ (.cons ru .nil)) (by simp;decide),rfl,⟨_,x,hTn,rfl,fun zs hs=>by rw [I.list_inj hs hq];exact hx,rfl⟩,?_,fun b hb=>?_⟩
  ·exact ⟨⟨_,a1'⟩,a2.extBut sb.extBut (Ne.symm hne)⟩
  ·have:s.heap.objs.size≠b:=by
    simp only [ZQ,Aaq,or_false] at hb;rcases hb with rfl | rfl
    ·exact lt he
    ·exact lti
   rw [aC (Ne.symm this)];exact (hf b hb).1
 done:=by
  intro X hP hw hK hc i pins s U H E I hf st hg;subst hP hw hK;obtain ⟨⟨old,he⟩,h1⟩:=st;obtain ⟨xs,hq,hx⟩:=hg;obtain ⟨its,rv,p,_⟩:=I.list hq;have l1:=rv.length;refine wpAny_pyNext_enum_end (I.ok.hd hc) he h1 p.isList (by simp;omega) fun h' hk=>⟨rfl,I.only (tk:=s.toks) hf fun b o hb q=>?_⟩
  simp only [ZQ,Aaq,or_false,not_or] at hb;exact hk b o hb.2 q
 self:=fun _ _ _ _ _ st h=>let ⟨⟨_,he⟩,_⟩:=st;AbJ he h
theorem HX {X:Cx} {elts:List Expr} {k:Nat} {tp:Pos} {pins:List (Addr×Obj)} {U:St} {H1:Hp} {s1:Shared} {x:Str} {t:Tok} {R:It->Hp->Prop} (hc:X.calm=true) (I1:Inv X pins U H1 s1) (q:R (VF (pO x) x.cps.size) H1):
  wpAny (model X.prog X.w) X.A (call (.type "enumerate") [.str x t]) (fun v s1=>wpAny (model X.prog X.w) X.A (pyIter v) (PIE X pins U (.Tuple elts k tp) R) X.xe s1) X.xe s1:=by
 refine call_enumerate_str fun h' he hit hsz hk=>?_
 have J1:Inv X pins U H1 {s1 with heap:=h'}:=I1.kept (t':=s1.toks) hk;have ne1:s1.heap.objs.size+1≠s1.heap.objs.size:=Nat.succ_ne_self _;have nm:s1.heap.objs.size+1 ∉ [s1.heap.objs.size]:=fun z=>ne1 (Aad.mp z)
 have hPt:∀ (i:Nat) (vals:Array Value),(∃ t y,SignAt x i y/\vals= #[.int i t,y])->Vals (pO x i) vals.toList:=by
  rintro i vals ⟨t,y,⟨c,u,e1,rfl⟩,rfl⟩;refine .cons ⟨t,rfl⟩ (.cons ⟨u,?_⟩ .nil);rw [show x.cps.getD i 0=c by simp [Array.getD_eq_getD_getElem?,e1]]
 have fin:∀ (ty:String) (Dr:∀ A:Around,A.handled=none->Draws X.prog X.w A s1.heap.objs.size [s1.heap.objs.size] x.cps.size (SignAt x) fun i h=>h.IsStrIter s1.heap.objs.size ty x t i),h'.IsStrIter s1.heap.objs.size ty x t 0->
   wpAny (model X.prog X.w) X.A (pyIter (.ref (s1.heap.objs.size+1))) (PIE X pins U (.Tuple elts k tp) R) X.xe {s1 with heap:=h'}:=by
  intro ty Dr hit'
  have W:∀ A:Around,A.handled=none->WalksT X.prog X.w A (s1.heap.objs.size+1) [s1.heap.objs.size+1,s1.heap.objs.size] [s1.heap.objs.size+1,s1.heap.objs.size] x.cps.size
    (fun i vals=>∃ t y,SignAt x i y/\vals= #[.int i t,y]) (fun i h=>(∃ old,IsEnum h (s1.heap.objs.size+1) s1.heap.objs.size i old)/\h.IsStrIter s1.heap.objs.size ty x t i)
    (fun i T h=>(∃ y,IsEnumOut h (s1.heap.objs.size+1) s1.heap.objs.size ((i:Int)+1) y T)/\h.IsStrIter s1.heap.objs.size ty x t (i+1)/\T≠s1.heap.objs.size+1/\T≠s1.heap.objs.size):=
   fun A hA=>WalksT.enumerateD (Dr A.in1 hA) (s1.heap.objs.size+1) ne1 nm (by simp)
  have hself:∀ (A:Around) (i:Nat) (s:Shared) (Q:Value->Shared->Prop) (E:Value->Shared->Prop),((∃ old,IsEnum s.heap (s1.heap.objs.size+1) s1.heap.objs.size i old)/\s.heap.IsStrIter s1.heap.objs.size ty x t i)->Q (.ref (s1.heap.objs.size+1)) s->wpAny (model X.prog X.w) A (pyIter (.ref (s1.heap.objs.size+1))) Q E s:=by
   rintro A i s Q E ⟨⟨old,he⟩,_⟩ hQ;exact AbJ he hQ
  refine hself _ 0 _ _ _ ⟨⟨_,he⟩,hit'⟩ ?_;refine ⟨s1.heap.objs.size+1,[s1.heap.objs.size+1,s1.heap.objs.size],_,_,H1,rfl,J1,VG W (fun i=>by simp [pO];decide) hPt (by simp) ?_ hself,⟨⟨_,he⟩,hit'⟩,fun b hb=>?_,q⟩
  ·rintro i h ⟨⟨old,he⟩,o,ho,hcl,hd⟩ b hb
   rcases ZQ.mp hb with rfl | hb
   ·exact ⟨_,he,fun v z=>by cases z⟩
   ·rw [Aad.mp hb]
    exact ⟨o,ho,fun v z=>by rw [hd] at z;cases z⟩
  ·have hb':s1.heap.objs.size<=b:=by
    rcases ZQ.mp hb with rfl | hb
    ·exact Nat.le_succ _
    ·rw [Aad.mp hb];exact ZC _
   exact I1.fpOk hb' (I1.hok.fresh hb')
 cases hx:x.cps.all (· < 128)
 ·exact fin "str_iterator" (fun A hA=>Draws.strWide hA _ x t) (by simpa [strIterType,hx] using hit)
 ·exact fin "str_ascii_iterator" (fun A hA=>Draws.strAscii hA _ x t) (by simpa [strIterType,hx] using hit)
def Sv (K:W.Frag) (ta:TA):TI:=fun U H R=>ta U H fun vs H1=>(∃ x:Str,vs=[.str x]/\R (VF (pO x) x.cps.size) H1)\/∃ a xs,vs=[.ref a]/\SqL K H1 a xs/\R (Xc K a) H1
theorem mL {X:Cx} {K:W.Frag} {a:Expr} {ta:TA} {elts:List Expr} {k:Nat} {tp p pos:Pos} (hK:X.K=K) (hc:X.calm=true) (hg:Gl X "enumerate") (hm:X.mg "enumerate"=none) (ha:JA X [a] ta) (h:autoParam (notStar a=true) L2.auto4._auto_1):
  JI X (.Tuple elts k tp) (.Call (.Name "enumerate" p) [a] [] pos) (Sv K ta):=⟨by
 subst hK;intro pins s U H R I hq;refine Call_ (iI I hg hm uq (Z9 (fM (ha.run pos pins s U H _ I hq) fun us s1 qq0=>?_) (bM h) rfl));obtain ⟨vs,H1,I1,r1,q1⟩:=qq0;rcases q1 with ⟨x,e,q⟩ | ⟨l,xs,e,hl,q⟩
 ·subst e
  obtain ⟨u,rfl,t,rfl⟩:=vals1 r1;exact HX hc I1 q
 ·subst e
  obtain ⟨u,rfl,ru⟩:=vals1 r1;cases ru;obtain ⟨its,rv,p1,_⟩:=I1.list hl;refine call_enumerate_list p1.isList fun h' z1 z2 z3 hk=>?_
  have J1:Inv X pins U H1 {s1 with heap:=h'}:=I1.kept (t':=s1.toks) hk;refine AbJ z1 ?_;refine ⟨s1.heap.objs.size+1,_,_,_,H1,rfl,J1,Ed (Nat.succ_ne_self _),⟨⟨_,z1⟩,z2⟩,fun b hb=>?_,q⟩
  have hb':s1.heap.objs.size<=b:=by
   simp only [ZQ,Aaq,or_false] at hb;have key:∀ n c:Nat,(c=n+1\/c=n)->n<=c:=fun n c h=>by omega
   exact key _ _ hb
  exact I1.fpOk hb' (I1.hok.fresh hb')⟩
end L2
namespace L2
open PySem PySem.Spec PyProof.Rows PySem.SeqAt
mutual
def DR (H:Hp):PyData->V->Prop
 | .none,v=>v= .non
 | .bool b,v=>v= .bl b
 | .int n,v=>v= .int n
 | .str x,v=>v= .str x
 | .list ds,v=>∃ a vs,v= .ref a/\H a=some (.lst vs)/\DRs H ds vs
 | .tuple ds,v=>∃ a vs,v= .ref a/\H a=some (.tup vs)/\DRs H ds vs
 | .dict _,_=>False
def DRs (H:Hp):List PyData->List V->Prop
 | [],vs=>vs=[]
 | d :: ds,vs=>∃ v r,vs=v :: r/\DR H d v/\DRs H ds r
end
mutual
theorem DR.reads {P:Program} {w:World} {H:Hp} {h:Heap} (ok:HOk P w H h):∀ (d:PyData) (v:V) (u:Value),DR H d v->RelV v u->∃ as,Reads h u d as
 | .none,_,u,q,r=>by rw [DR] at q;subst q;cases r;exact ⟨_,.none⟩
 | .bool b,_,u,q,r=>by rw [DR] at q;subst q;cases r;exact ⟨_,.bool _⟩
 | .int n,_,u,q,r=>by rw [DR] at q;subst q;obtain ⟨t,rfl⟩:=r;exact ⟨_,.int _ _⟩
 | .str n,_,u,q,r=>by rw [DR] at q;subst q;obtain ⟨t,rfl⟩:=r;exact ⟨_,.str _ _⟩
 | .list ds,v,u,q,r=>by
  rw [DR] at q;obtain ⟨a,vs,rfl,e,t⟩:=q;cases r;obtain ⟨_,its,n,rv,g⟩:=ok a _ e;obtain ⟨as,ra⟩:=DRs.reads ok ds vs its t rv;exact ⟨_,.list g rfl rfl (by simpa using ra)⟩
 | .tuple ds,v,u,q,r=>by
  rw [DR] at q;obtain ⟨a,vs,rfl,e,t⟩:=q;cases r;obtain ⟨_,its,rv,g⟩:=ok a _ e;obtain ⟨as,ra⟩:=DRs.reads ok ds vs its t rv;obtain ⟨o,ho,hc,n,hd⟩:=g;exact ⟨_,.tuple ho hc hd (by simpa using ra)⟩
 | .dict _,_,_,q,_=>by rw [DR] at q;exact q.elim
theorem DRs.reads {P:Program} {w:World} {H:Hp} {h:Heap} (ok:HOk P w H h):∀ (ds:List PyData) (vs:List V) (us:List Value),DRs H ds vs->Vals vs us->∃ as,ReadsAll h us ds as
 | [],_,us,q,r=>by rw [DRs] at q;subst q;cases r;exact ⟨_,.nil⟩
 | d :: ds,_,us,q,r=>by
  rw [DRs] at q;obtain ⟨v,r',rfl,q1,q2⟩:=q;cases r with
  | cons a b=>
   obtain ⟨as,h1⟩:=DR.reads ok d v _ q1 a;obtain ⟨bs,h2⟩:=DRs.reads ok ds r' _ q2 b;exact ⟨_,.cons h1 h2⟩
end
def Yj:R2:=fun x y H Q=>∃ d e,DR H d x/\DR H e y/\shaped d=true/\shaped e=true/\Q (.bl (PyData.eqv d e)) H
def Yk:R2:=fun x y H Q=>∃ d e,DR H d x/\DR H e y/\shaped d=true/\shaped e=true/\Q (.bl (!PyData.eqv d e)) H
section
variable {X:Cx}
theorem VJ (hu:X.A.units+64 < cLine):OpR X (compareOp .Eq) Yj:=by
 intro pins s U H x y v u Q I rx ry h;obtain ⟨d,e,h1,h2,h3,h4,q⟩:=h;obtain ⟨as,r1⟩:=DR.reads I.hok d x v h1 rx;obtain ⟨bs,r2⟩:=DR.reads I.hok e y u h2 ry;exact eq_dataH r1 r2 h3 h4 hu ⟨.bl _,H,I,rfl,q⟩
theorem VL (hu:X.A.units+64 < cLine):OpR X (compareOp .NotEq) Yk:=by
 intro pins s U H x y v u Q I rx ry h;obtain ⟨d,e,h1,h2,h3,h4,q⟩:=h;obtain ⟨as,r1⟩:=DR.reads I.hok d x v h1 rx;obtain ⟨bs,r2⟩:=DR.reads I.hok e y u h2 ry;exact ne_dataH r1 r2 h3 h4 hu ⟨.bl _,H,I,rfl,q⟩
def Qu (K:W.Frag):R2:=fun x y H Q=>Vo K x y H Q\/Yj x y H Q
def VM (K:W.Frag):R2:=fun x y H Q=>Yi K x y H Q\/Yk x y H Q
theorem Ef {K:W.Frag} (hK:X.K=K) (hu:X.A.units+64 < cLine):OpR X (compareOp .Eq) (Qu K):=(Vs hK (AaW (AaX _ _) hu)).or (VJ hu)
theorem Lr {K:W.Frag} (hK:X.K=K) (hu:X.A.units+64 < cLine):OpR X (compareOp .NotEq) (VM K):=(VH hK hu).or (VL hu)
end
section
variable {H:Hp} {Q:VK} {K:W.Frag} {U:St}
theorem cQ {i j:Int} (h:Q (.bl (decide (V.int i=V.int j))) H):Qu K (.int i) (.int j) H Q:=.inl (.inl ⟨rfl,h⟩)
theorem cR {i j:Str} (h:Q (.bl (decide (V.str i=V.str j))) H):Qu K (.str i) (.str j) H Q:=.inl (.inl ⟨rfl,h⟩)
theorem dJ {i j:Int} (h:Q (.bl (!decide (V.int i=V.int j))) H):VM K (.int i) (.int j) H Q:=.inl (.inl ⟨rfl,h⟩)
theorem bV {a:TA} {R:It->Hp->Prop} (h:a U H fun vs H1=>(∃ x:Str,vs=[.str x]/\R (VF (pO x) x.cps.size) H1)\/∃ a xs,vs=[.ref a]/\SqL K H1 a xs/\R (Xc K a) H1):Sv K a U H R:=h
theorem lN {a:Addr} {xs:List V} {g:TG} {tb:TS} {D:Ends} (Pv:Nat->St->Hp->Prop) (h0:Pv 0 U H) (hq:∀ i U H,i<=xs.length->Pv i U H->SqL K H a xs)
  (hs:∀ i U H T x,xs[i]?=some x->Pv i U H->H T=none->g (.ref T) U (upd H T (.tup [.int i,x])) fun σ2 H2=>tb {D with nx:=Pv (i+1),ct:=Pv (i+1),bk:=D.nx} σ2 H2) (hd:∀ U H,Pv xs.length U H->D.nx U H):
  ∃ W:Nat->Nat->St->Hp->Prop,(∃ m,W 0 m U H)/\∀ i m U H,W i m U H->
   ((Xc K a).stop i H/\D.nx U H)\/((Xc K a).go i H/\∃ N:St->Hp->Prop,(∀ U' H',N U' H'->∃ m',m' < m/\W (i+1) m' U' H')/\∀ x H',(Xc K a).yld i H x H'->g x U H' fun σ2 H2=>tb {D with nx:=N,ct:=N,bk:=D.nx} σ2 H2):=by
 refine ⟨fun i m U H=>m=xs.length - i/\i<=xs.length/\Pv i U H,⟨xs.length,by simp,AaE _,h0⟩,?_⟩;rintro i m U H ⟨rfl,hi,p⟩;have q1:=hq i U H hi p;by_cases hlt:i < xs.length
 ·refine .inr ⟨⟨xs,xs[i],q1,Zw hlt⟩,Pv (i+1),fun U' H' p'=>⟨xs.length - (i+1),by omega,rfl,hlt,p'⟩,fun x H' y=>?_⟩
  obtain ⟨T,u,hT,e1,e2,e4⟩:=y;subst e1 e4;exact hs i U H T u (e2 xs q1) p hT
 ·have e:i=xs.length:=by omega
  subst e;exact .inl ⟨⟨xs,q1,ZC _⟩,hd U H p⟩
end
end L2
namespace L2
open PySem PySem.Spec PyProof.Rows
theorem Ls:typeLookup (.type "list_reverseiterator") "__len__"=pure none:=by rw [typeLookup_type,builtinLookup_eq_fast];kernel_rfl
theorem HY:typeLookup (.type "list_reverseiterator") "__length_hint__"=pure (some (.builtin "list_reverseiterator.__length_hint__")):=by rw [typeLookup_type,builtinLookup_eq_fast];kernel_rfl
section
variable {prog:Program} {w:World} {A:Around} {E:Value->Shared->Prop} {s:Shared}
theorem Lw {it l:Addr} {i:Int} {Q:Bool->Shared->Prop} (hit:s.heap.IsRevIter it l i) (h:Q false s):wpAny (model prog w) A (Builtin.List.listLengthHint (.ref it)) Q E s:=by
 unfold Builtin.List.listLengthHint;refine Zu (wpAny_specialOf hit.typeIs Ls ?_);show wpAny _ _ (specialOf (Value.ref it) (Str.ofString "__length_hint__") >>=_) _ _ _;refine Zu (wpAny_specialOf hit.typeIs HY ?_);generalize hid:("list_reverseiterator.__length_hint__":String)=id0
 wp_delta
 rw [show splitId id0=some ("list_reverseiterator","__length_hint__") from by subst hid;trivial];subst hid;refine Zu (wpAny_isInstance (T:="list_reverseiterator") (b:=true) hit.typeIs (by rw [isSubtype_type];kernel_rfl) ?_);refine wpAny_ite_split (fun hab=>absurd hab (by decide)) (fun _=>?_);refine wpAny_ite_split (fun _=>?_) (fun hab=>absurd (by trivial) hab);refine wpAny_ite_split (fun hab=>absurd hab (by trivial)) (fun _=>?_);exact Zy h
theorem Lx {it l:Addr} {items:Array Value} {Q:Value->Shared->Prop} (hh:A.handled=none) (hit:s.heap.IsRevIter it l ((items.size:Int) - 1)) (hl:s.heap.IsList l items) (hne:l≠it) (hn:items.size<=sizeLine)
  (hQ:∀ h' tk acc' c',(∀ b o,b≠it->s.heap.get? b=some o->h'.get? b=some o)->h'.get? s.heap.objs.size=some {cls:=.type "list",dict:=none,data:=.seq acc' c',slots:=#[]}->
   ItemsOf (fun i v=>items[items.size - 1 - i]?=some v) acc' items.size->Q (.ref s.heap.objs.size) {s with heap:=h',toks:=tk}):
  wpAny (model prog w) A (call (.type "list") [.ref it]) Q E s:=by
 refine callType_codes (Q₁:=fun obj s₁=>obj= .ref s.heap.objs.size/\s₁={s with heap:=s.heap.push {cls:=.type "list",data:=.seq #[]}}) F.called_list (F.typeCall_list_1 _) F.entry_list_init
  (code_list_new _ ⟨rfl,rfl⟩) fun obj s₁ h₁=>?_
 obtain ⟨rfl,rfl⟩:=h₁;have iti:it < s.heap.objs.size:=by obtain ⟨o,e,_⟩:=hit;exact ZL e
 have itl:l < s.heap.objs.size:=by obtain ⟨o,e,_⟩:=hl;exact ZL e
 generalize hS0:s.heap.objs.size=S at iti itl hQ;have hS:(s.heap.push {cls:=.type "list",data:=.seq #[]}).get? S=some {cls:=.type "list",data:=.seq #[]}:=by rw [← hS0];exact ZP _ rfl
 have kp:∀ b o,s.heap.get? b=some o->(s.heap.push {cls:=.type "list",data:=.seq #[]}).get? b=some o:=fun b o e=>Zz _ e
 generalize s.heap.push {cls:=.type "list",data:=.seq #[]}=h1 at hS kp;have hit1:h1.IsRevIter it l ((items.size:Int) - 1):=hit.at fun o e=>kp it o e
 have hl1:h1.IsList l items:=hl.at fun o e=>kp l o e
 refine ⟨⟨_,hS,rfl⟩,F.args_list_init_2 _ _,?_⟩;have nSi:S≠it:=AaY iti;have nSl:S≠l:=AaY itl;have hSf:S ∉ [it,l]:=by simp [nSi,nSl]
 have W:=(Walks.listRev (prog:=prog) (w:=w) (A:=A.in1.in1) hh it l hne items).toS;show wpAny _ A.in1.in1 (do let old ← Builtin.List.listItems (.ref S);Builtin.List.listUpdate (.ref S) (fun _=>#[]);letGo old.toList.reverse;Builtin.List.listExtendWith (.ref S) (.ref it) .none) _ _ _;unfold Builtin.List.listItems;refine Zu (Zu (Aa0 hS rfl (Zy ?_)));show wpAny _ A.in1.in1 (updateSeq S (fun _=>#[]) >>=fun _=>letGo (#[]:Array Value).toList.reverse >>=fun _=>Builtin.List.listExtendWith (.ref S) (.ref it) .none) _ _ _;refine Zu (wpAny_updateSeq hS rfl ?_);have hS2:=AaH (Obj.mapSeq (fun _=>(#[]:Array Value))) hS rfl;have k2:∀ b o,b≠S->h1.get? b=some o->(h1.update S (Obj.mapSeq (fun _=>(#[]:Array Value)))).get? b=some o:=fun b o hb e=>(Aal _ _ (Ne.symm hb)).trans e
 generalize h1.update S (Obj.mapSeq (fun _=>(#[]:Array Value)))=h2 at hS2 k2;have hit2:=hit1.at (h':=h2) fun o e=>k2 it o (Ne.symm nSi) e
 have hl2:=hl1.at (h':=h2) fun o e=>k2 l o (Ne.symm nSl) e
 refine Zu (wpAny_letGo ?_);unfold Builtin.List.listExtendWith;refine Zu (wpAny_typeOf (T:="list_reverseiterator") (Heap.IsRevIter.typeIs (s:={s with heap:=h2}) hit2) ?_);have e1:Builtin.List.listSameRef (.ref S) (.ref it)=false:=by simp [Builtin.List.listSameRef,nSi]
 have e2:(Value.type "list_reverseiterator" == Value.type "list")=false:=by decide
 have e3:(Value.type "list_reverseiterator" == Value.type "tuple")=false:=by decide
 simp only [e1,e2,e3,Bool.or_false,Bool.false_eq_true,if_false];refine Zu (AbN (s:={s with heap:=h2}) hit2 ?_);refine Zu (Aar (Lw (s:={s with heap:=h2}) hit2 ?_));refine wpAny_ite_split (fun hab=>absurd hab (by trivial)) (fun _=>?_);refine Zy ⟨plainId_quiet F.plain_extend_loop _,?_⟩;refine codeAny_extend_loopS W hn S hSf .none items.size 0 _ #[] _ rfl (AaE _) ⟨AaE _,by simpa using hit2,hl2⟩ hS2 (ItemsOf.nil _) fun s' acc' c' hm hS' hacc=>?_
 rw [Moved.eq_with hm];refine ⟨rfl,hQ s'.heap s'.toks acc' c' (fun b o hb e=>hm.heap b o (fun hmem=>?_) (k2 b o (fun z=>?_) (kp b o e))) hS' hacc⟩
 ·rcases ZQ.mp hmem with e' | hmem
  ·exact absurd (ZL e) (by rw [e',hS0];exact AaM _)
  ·exact hb (Aad.mp hmem)
 ·exact absurd (ZL e) (by rw [z,hS0];exact AaM _)
end
section
variable {X:Cx} {K:W.Frag} {a b c e:Expr} {ta tb tc te:TE} {pos p p2 p3:Pos}
theorem Qv {op op':CmpOp} {r r':R2} (ho:OpR X (compareOp op) r) (ho':OpR X (compareOp op') r') (ha:JE X a ta) (hb:JE X b tb) (hc:JE X c tc) (hm:autoParam (lastMarks [op,op'] [b,c]=false) L2.auto5._auto_1):
  JE X (.Compare a [op,op'] [b,c] pos) (Do r r' ta tb tc):=⟨J9 ho ho' ha.run hb.run hc.run hm⟩
theorem arg1 {Q:List Value->Shared->Prop} {E:Value->Shared->Prop} {s:Shared} (hs:notStar e=true) (h:wpAny (model X.prog X.w) X.A (eval e X.env) (fun u s1=>Q [u] s1) E s):wpAny (model X.prog X.w) X.A (spliced (backTo pos (starEach [e] X.env))) Q E s:=by
 rw [bM hs];show wpAny _ _ (spliced ((false,eval e X.env) :: backTo pos (starEach [] X.env))) _ _ s;exact Calls.spliced_cons (AaO h (fun u s1 q=>Calls.spliced_nil q) fun _ _ z=>z)
def Ly (K:W.Frag) (ta:TE):TE:=fun U H Q=>ta U H fun x H1=>∃ l xs,x= .ref l/\SqL K H1 l xs/\∀ q,H1 q=none->Q (.ref q) (upd H1 q (.lst xs.reverse))
theorem Ia (hK:X.K=K) (hc:X.calm=true) (hg:Gl X "list") (hm:X.mg "list"=none) (hg2:Gl X "reversed") (hm2:X.mg "reversed"=none) (ha:JE X a ta) (h:autoParam (notStar a=true) L2.auto4._auto_1):
  JE X (.Call (.Name "list" p) [.Call (.Name "reversed" p2) [a] [] p3] [] pos) (Ly K ta):=⟨by
 subst hK;intro pins s U H Q I hq;refine Aas (iI I hg hm kO (Z9 (arg1 rfl (Aas (iI I hg2 hm2 vP (Z9 (arg1 h (fM (ha.run pins s U H _ I hq) fun u s1 qq0=>?_)) (bM h) rfl)))) rfl rfl));obtain ⟨x,H1,I1,rx,l,xs,ex,hx,q⟩:=qq0;subst ex;cases rx;obtain ⟨its,r,ht,hz⟩:=I1.list hx;have hlen:=r.length;refine call_reversed_list ht.isList ?_;have lt:l < s1.heap.objs.size:=by obtain ⟨o,ho,_⟩:=ht.isList;exact ZL ho
 have e0:(s1.heap.push (PySem.revObj l ((its.toArray.size:Int) - 1))).get? s1.heap.objs.size=some (PySem.revObj l ((its.toArray.size:Int) - 1)):=ZP _ rfl;have k0:∀ b o,s1.heap.get? b=some o->(s1.heap.push (PySem.revObj l ((its.toArray.size:Int) - 1))).get? b=some o:=fun b o q=>Zz _ q
 have s0:(s1.heap.push (PySem.revObj l ((its.toArray.size:Int) - 1))).objs.size=s1.heap.objs.size+1:=AaI ..;refine Lx (it:=s1.heap.objs.size) (l:=l) (I1.ok.hd hc) ⟨_,e0,rfl,rfl⟩ (ht.isList.at fun o q=>k0 l o q) (Aah lt) (by simp;omega) fun h' tk acc' c' hk hS hacc=>?_
 have eacc:acc'.toList=its.reverse:=by
  apply Abs;intro i;have a1:acc'.size=its.length:=by have:=hacc.1;simpa using this
  by_cases hi:i < its.length
  ·have hi':i < acc'.size:=by omega
   have a2:=hacc.2 i acc'[i] (Array.getElem?_eq_getElem hi');rw [List.getElem?_reverse hi];simp at a2;rw [a2];simp [hi']
  ·rw [Aav (by simp;omega),Aav (by simp;omega)]
 have rr:Vals xs.reverse acc'.toList:=by rw [eacc];exact r.reverse
 have k1:∀ b o,s1.heap.get? b=some o->h'.get? b=some o:=fun b o z=>hk b o (Aah (ZL z)) (k0 b o z)
 have hle:s1.heap.objs.size<=(s1.heap.push (PySem.revObj l ((its.toArray.size:Int) - 1))).objs.size:=by rw [s0];exact Nat.le_succ _
 refine ⟨.ref _,_,I1.laid (t':=tk) (o:=.lst xs.reverse) k1 hle ⟨by simp;omega,acc'.toList,c',rr,by simpa using hS⟩,rfl,q _ (I1.hok.fresh hle)⟩⟩
end
def Ib (h:Heap) (T:Addr):Prop:=∃ oT ts,h.get? T=some oT/\oT.data= .fields ts/\3 < ts.size
def iM (C:Addr) (dd:Option Addr) (vs:Array Value):Obj:={cls:=.ref C,dict:=dd,data:=.fields vs}
def Qw (l:List Env):List Addr:=l.filterMap (·.frame)
section
variable {M:Model} {A:Around} {E:Value->Shared->Prop}
theorem zj {base:Heap} {env:Env} {outer:List Env} {L x C:Addr} {dd:Option Addr} {vs:Array Value} {hd:Value} {had:Bool} {Q:Unit->Shared->Prop} {s:Shared}
  (fr:A.frames=some (env :: outer)) (ff:s.heap.FunFrames base (env :: outer)) (fL:env.frame=some L) (ex:s.heap.get? x=some (iM C dd vs)) (sz:1 < vs.size) (nx:x ∉ Qw (env :: outer))
  (k:∀ h' T,h'.get? x=some (iM C dd (vs.setIfInBounds 1 (.ref T)))->s.heap.objs.size<=T->Ib h' T->(∀ b o,b≠x->b ∉ Qw (env :: outer)->s.heap.get? b=some o->h'.get? b=some o)->
   (∀ b o,b≠x->s.heap.get? b=some o->∃ sl,h'.get? b=some {o with slots:=sl})->Q () {s with heap:=h'}):
  wpAny M A (do let c ← frameOf env;let pl ← entryPlaceOf L had;let t ← EntryCells.newEntry hd c .none (rawInt L) .none pl;setField (.ref x) 1 t) Q E s:=by
 refine Zu (wpAny_frameOf_fun fr ff fL fun g1 so=>?_);refine Zu (wpAny_entryPlaceOf fun pl isp=>?_);unfold EntryCells.newEntry newFields;refine Zu (AaU ?_ (isp.sizeOk5 _ _ _ _ _));have x1:g1.get? x=some (iM C dd vs):=(so.2.1 x nx).trans ex
 have lts:([hd,Value.ref L,.none,rawInt L,.none] ++ (if pl.isEmpty then List.replicate 6 Value.none else pl)).toArray.size > 3:=by
  simp only [ZS,Z8,Aap,AaL];omega
 generalize ([hd,Value.ref L,.none,rawInt L,.none] ++ (if pl.isEmpty then List.replicate 6 Value.none else pl)).toArray=tv at lts;have x2:(g1.push {cls:=.type "traceback",dict:=none,data:=.fields tv}).get? x=some (iM C dd vs):=Zz _ x1;have nTx:g1.objs.size≠x:=AaY (ZL x1);have t2:(g1.push {cls:=.type "traceback",dict:=none,data:=.fields tv}).get? g1.objs.size=some {cls:=.type "traceback",dict:=none,data:=.fields tv}:=ZP _ rfl;have o2:∀ b o,g1.get? b=some o->(g1.push {cls:=.type "traceback",dict:=none,data:=.fields tv}).get? b=some o:=fun b o e=>Zz _ e
 refine wpAny_setField (vs:=vs) x2 rfl sz ?_;have e3:=AaH (Obj.mapFields (·.setIfInBounds 1 (Value.ref g1.objs.size))) x2 rfl;have ot:∀ b,b≠x->((g1.push {cls:=.type "traceback",dict:=none,data:=.fields tv}).update x (Obj.mapFields (·.setIfInBounds 1 (Value.ref g1.objs.size)))).get? b=(g1.push {cls:=.type "traceback",dict:=none,data:=.fields tv}).get? b:=fun b hb=>Aal _ _ (Ne.symm hb)
 refine k _ g1.objs.size e3 (by rw [so.1];exact ZC _) ⟨_,tv,(ot _ nTx).trans t2,rfl,lts⟩ (fun b o hb hf e=>?_) (fun b o hb e=>?_)
 ·rw [ot b hb];exact o2 b o ((so.2.1 b hf).trans e)
 ·obtain ⟨sl,q⟩:=so.2.2 b o e
  exact ⟨sl,by rw [ot b hb];exact o2 b _ q⟩
structure Gm (fs:List Addr) (x C:Addr) (dd:Option Addr) (hd:Option Addr) (h h':Heap) (T:Addr):Prop where
 obj:∃ vs,h'.get? x=some (iM C dd vs)/\vs[1]?=some (.ref T)/\vs[2]?=some .none
 tb:Ib h' T
 ne:T≠x
 new:h.objs.size<=T\/hd=some T
 keep:∀ b o,b≠x->some b≠hd->b ∉ fs->h.get? b=some o->h'.get? b=some o
 slot:∀ b o,b≠x->some b≠hd->h.get? b=some o->∃ sl,h'.get? b=some {o with slots:=sl}
 tail:∀ b o,hd=some b->h.get? b=some o->∃ o',h'.get? b=some o'
theorem Yl {base:Heap} {env:Env} {outer:List Env} {L x C:Addr} {dd:Option Addr} {vs:Array Value} {Q:Unit->Shared->Prop} {s:Shared}
  (fr:A.frames=some (env :: outer)) (ff:s.heap.FunFrames base (env :: outer)) (fL:env.frame=some L) (ex:s.heap.get? x=some (iM C dd vs)) (h1:vs[1]?=some .none/\vs[2]?=some .none) (nx:x ∉ Qw (env :: outer))
  (k:∀ h' T,Gm (Qw (env :: outer)) x C dd none s.heap h' T->Q () {s with heap:=h'}):wpAny M A (noteFrame (.ref x) env) Q E s:=by
 unfold noteFrame;simp only [fL];refine Zu (AaG ex rfl h1.1 ?_);rw [if_neg (by decide)];have sz:1 < vs.size:=(Array.getElem?_eq_some_iff.mp h1.1).1;refine zj fr ff fL ex sz nx fun h' T a1 a2 a3 a4 a5=>k h' T ⟨⟨_,a1,by simp [sz],by rw [Array.getElem?_setIfInBounds_ne (by decide)];exact h1.2⟩,a3,?_,.inl a2,fun b o hb _ hf e=>a4 b o hb hf e,fun b o hb _ e=>a5 b o hb e,fun b o z=>by cases z⟩
 exact AaY (Z1 (ZL ex) a2)
theorem Ym {base:Heap} {env:Env} {outer:List Env} {L x C T0:Addr} {dd:Option Addr} {vs:Array Value} {Q:Unit->Shared->Prop} {s:Shared}
  (fr:A.frames=some (env :: outer)) (ff:s.heap.FunFrames base (env :: outer)) (fL:env.frame=some L) (ex:s.heap.get? x=some (iM C dd vs)) (h1:vs[1]?=some (.ref T0)/\vs[2]?=some .none) (t0:Ib s.heap T0) (ne:T0≠x) (nx:x ∉ Qw (env :: outer)) (nT:T0 ∉ Qw (env :: outer))
  (k:∀ h' T,Gm (Qw (env :: outer)) x C dd (some T0) s.heap h' T->Q () {s with heap:=h'}):wpAny M A (noteFrame (.ref x) env) Q E s:=by
 obtain ⟨oT,ts,g,d,l3⟩:=id t0;unfold noteFrame;simp only [fL];refine Zu (AaG ex rfl h1.1 ?_);rw [if_pos (show (Value.ref T0 != Value.none)=true from by simp)];refine Zu (AaG g d (Array.getElem?_eq_getElem l3) ?_);by_cases q:(ts[3] == rawInt L)=true
 ·rw [if_pos q]
  exact Zy (k _ T0 ⟨⟨vs,ex,h1⟩,t0,ne,.inr rfl,fun b o _ _ _ e=>e,fun b o _ _ e=>⟨o.slots,e⟩,fun b o _ e=>⟨o,e⟩⟩)
 ·rw [if_neg q]
  refine Zu (wpAny_setField g d l3 ?_);have tT:=AaH (Obj.mapFields (·.setIfInBounds 3 Value.none)) g (Obj.isFreed_of_fields (Obj.data_mapFields d _));have ot:∀ b,b≠T0->(s.heap.update T0 (Obj.mapFields (·.setIfInBounds 3 Value.none))).get? b=s.heap.get? b:=fun b hb=>Aal _ _ (Ne.symm hb)
  have sz:1 < vs.size:=(Array.getElem?_eq_some_iff.mp h1.1).1
  have ff2:(s.heap.update T0 (Obj.mapFields (·.setIfInBounds 3 Value.none))).FunFrames base (env :: outer):=ff.of_keeps fun b o hb hn=>by
   refine ⟨o,(ot b (fun z=>?_)).trans hb,rfl⟩;rw [z,g] at hb;cases hb;exact hn _ d
  refine zj (s:={s with heap:=s.heap.update T0 (Obj.mapFields (·.setIfInBounds 3 Value.none))}) fr ff2 fL ((ot x (Ne.symm ne)).trans ex) sz nx fun h' T a1 a2 a3 a4 a5=>k h' T ⟨⟨_,a1,by simp [sz],by rw [Array.getElem?_setIfInBounds_ne (by decide)];exact h1.2⟩,a3,?_,.inl (by rw [Heap.size_update] at a2;exact a2),fun b o hb h0 hf e=>a4 b o hb hf ((ot b (fun z=>h0 (by rw [z]))).trans e),fun b o hb h0 e=>a5 b o hb ((ot b (fun z=>h0 (by rw [z]))).trans e),fun b o hb e=>?_⟩
  ·exact AaY (Z1 (ZL ex) (by rw [Heap.size_update] at a2;exact a2))
  ·cases hb
   obtain ⟨sl,z⟩:=a5 T0 _ ne tT;exact ⟨_,z⟩
theorem Yn {x C T0:Addr} {dd:Option Addr} {vs:Array Value} {Q:Unit->Shared->Prop} {s:Shared} (ex:s.heap.get? x=some (iM C dd vs)) (h1:vs[1]?=some (.ref T0)/\vs[2]?=some .none) (t0:Ib s.heap T0) (ne:T0≠x)
  (k:∀ h',Gm [] x C dd (some T0) s.heap h' T0->Q () {s with heap:=h'}):wpAny M A (setFlight (.ref x) none) Q E s:=by
 obtain ⟨oT,ts,g,d,l3⟩:=id t0;unfold setFlight;refine Zu (AaG ex rfl h1.1 ?_);rw [if_pos (show (Value.ref T0 != Value.none)=true from by simp)];refine wpAny_setField g d l3 (k _ ?_);have d2:=Obj.data_mapFields d (·.setIfInBounds 3 ((none:Option Addr).elim Value.none fun f=>rawInt f));have tT:=AaH (Obj.mapFields (·.setIfInBounds 3 ((none:Option Addr).elim Value.none fun f=>rawInt f))) g (Obj.isFreed_of_fields d2);have ot:∀ b,b≠T0->(s.heap.update T0 (Obj.mapFields (·.setIfInBounds 3 ((none:Option Addr).elim Value.none fun f=>rawInt f)))).get? b=s.heap.get? b:=fun b hb=>Aal _ _ (Ne.symm hb)
 exact ⟨⟨vs,(ot x (Ne.symm ne)).trans ex,h1⟩,⟨_,_,tT,d2,by simpa using l3⟩,ne,.inr rfl,fun b o _ h0 _ e=>(ot b (fun z=>h0 (by rw [z]))).trans e,fun b o _ h0 e=>⟨o.slots,(ot b (fun z=>h0 (by rw [z]))).trans e⟩,fun b o hb e=>by cases hb;exact ⟨_,tT⟩⟩
end
def Zk:List Value:=[.type "ValueError",.type "Exception",.type "BaseException",.type "object"]
def Xd (K:W.Frag) (D:Addr):Bool:=match K.lookup D with
 | some ⟨.type "type",_,.cls cd,sl⟩=>(match cd.mro,sl.toList with
  | .ref E :: bm,[_,_,_,_,some (.builtin n),_]=>E == D && n == "ValueError.__new__" && cd.hasDel == false && cd.hasDict && PySem.W.tailIn K Zk bm
  | _,_=>false)
 | _=>false
theorem Eg {K:W.Frag} {D:Addr} (q:Xd K D=true):∃ nm qn N bs bm sn sub ab col dd k0 k1 k2 k3 k5,K.lookup D=some (excClassObj nm qn D N bs bm true sn sub ab col dd k0 k1 k2 k3 k5 "ValueError.__new__")/\∀ h,K.In h->OwnTail h Zk bm:=by
 unfold Xd at q
 split at q
 ·rename_i dd cd sl ho
  split at q
  ·rename_i D' bm k0 k1 k2 k3 n k5 hm hs
   simp only [Z4,Aa3] at q;obtain ⟨⟨⟨⟨e1,e2⟩,e3⟩,e4⟩,e5⟩:=q;subst e1 e2;obtain ⟨nm,bs,mro,ns,qn,hd,sn,sub,ab,col,del⟩:=cd;dsimp only at hm e3 e4;subst hm e3 e4
   have hsl:sl= #[k0,k1,k2,k3,some (.builtin "ValueError.__new__"),k5]:=by
    obtain ⟨l⟩:=sl;dsimp only at hs;rw [hs]
   subst hsl;exact ⟨nm,qn,ns,bs,bm,sn,sub,ab,col,dd,k0,k1,k2,k3,k5,ho,fun h X=>PySem.W.tail_of_in X e5⟩
  ·cases q
 ·cases q
section
variable {prog:Program} {w:World} {A:Around} {K:W.Frag} {D f:Addr} {E:Value->Shared->Prop}
theorem BP {h:Heap} {g:Array GenState} {d:Drawn} {t:Nat} {os:OsState} {us:List Value} {Q:Fin->Shared->Prop} (X:K.In h) (hx:Xd K D=true)
  (hi:PySem.W.findIn K (.ref D) "__init__"=some (some (.ref f))) (hf:PySem.W.typeIn K (.ref f)=some (.type "function")) (hl:us.length<=sizeLine)
  (k:wpAny (model prog w) A (call (.ref f) (.ref (h.objs.size+1) :: us)) (fun r s'=>r= .none/\Q (.done (.ret (.ref (h.objs.size+1)))) s') E
   ⟨(h.push {cls:=.type "tuple",data:=.seq us.toArray}).push (iM D none #[.ref h.objs.size,.none,.none,.none,.bool false,.none]),g,d,t,os⟩):
  wpAny (model prog w) A (Builtin.«type.__call__» ⟨.ref D :: us,[]⟩) Q E ⟨h,g,d,t,os⟩:=by
 obtain ⟨nm,qn,N,bs,bm,sn,sub,ab,col,dd,k0,k1,k2,k3,k5,lk0,tl⟩:=Eg hx;have T:=tl h X;have hD:=X _ _ lk0;have L3:=Abp (M:=model prog w) X hi;have L4:=PySem.W.bind_fn (M:=model prog w) X (.ref (h.objs.size+1)) hf;repeat (first | with_reducible refine AbK hD ?_ | with_reducible refine wpAny_madeBy_exc hD ?_ | wp_step)
 refine codeAny_call_builtin_code (Code.quiet_builtin _ F.excBase_ValueError.quiet) (wpAny_check_new_subT F.excBase_ValueError T hD (codeAny_exc_new_subT F.excBase_ValueError T hD ?_ hl));show wpAny _ _ _ _ _ _;have keep:∀ b o,h.get? b=some o->((h.push {cls:=.type "tuple",data:=.seq us.toArray}).push (iM D none #[.ref h.objs.size,.none,.none,.none,.bool false,.none])).get? b=some o:=fun b o q=>Zz _ (Zz _ q)
 have gx:((h.push {cls:=.type "tuple",data:=.seq us.toArray}).push (iM D none #[.ref h.objs.size,.none,.none,.none,.bool false,.none])).get? (h.objs.size+1)=some (iM D none #[.ref h.objs.size,.none,.none,.none,.bool false,.none]):=by
  have:=ZP (h.push {cls:=.type "tuple",data:=.seq us.toArray}) (o:=iM D none #[.ref h.objs.size,.none,.none,.none,.bool false,.none]) rfl;rwa [AaI] at this
 have hD1:=keep _ _ hD;have M3:=L3.keeps keep;have M4:=L4.keeps keep;have cD:(Value.ref D :: bm).contains (.ref D)=true:=by simp
 unfold iM at gx M3 M4 hD1 k;unfold isInstance;repeat (first | with_reducible refine AbK gx ?_ | (with_reducible refine wpAny_isSubtype_exc hD1 ?_;rw [cD]) | wp_step)
 show wpAny _ _ (typeLookup (.ref D) _) _ _ _;refine M3.at ?_;refine Aar (Zu (M4.at ?_));dsimp only;refine Zu (AaO k (fun r s' hr=>?_) fun _ _ z=>z);obtain ⟨rfl,z⟩:=hr
 wp_walk
 exact z
theorem VN {s:Shared} {us:List Value} {Q:Value->Shared->Prop} (X:K.In s.heap) (hx:Xd K D=true)
  (hi:PySem.W.findIn K (.ref D) "__init__"=some (some (.ref f))) (hf:PySem.W.typeIn K (.ref f)=some (.type "function")) (hl:us.length<=sizeLine)
  (k:wpAny (model prog w) (A.under (.builtin "type.__call__" ⟨.ref D :: us,[]⟩)) (call (.ref f) (.ref (s.heap.objs.size+1) :: us)) (fun r s'=>r= .none/\Q (.ref (s.heap.objs.size+1)) s') E
   {s with heap:=(s.heap.push {cls:=.type "tuple",data:=.seq us.toArray}).push (iM D none #[.ref s.heap.objs.size,.none,.none,.none,.bool false,.none])}):
  wpAny (model prog w) A (call (.ref D) us) Q E s:=by
 obtain ⟨h,g,d,t,os⟩:=s;obtain ⟨nm,qn,N,bs,bm,sn,sub,ab,col,dd,k0,k1,k2,k3,k5,lk0,tl⟩:=Eg hx;have hD:=X _ _ lk0;have f1:=tc_lookup;have f2:=tc_bind (.ref D);have hT:(⟨h,g,d,t,os⟩:Shared).TypeIs (.ref D) "type":=⟨_,hD,rfl⟩;refine Abz (codeAny_of_tree ?_);show wpAny _ _ (callAny (.ref D) _) _ _ _;repeat (any_goals (first | assumption | with_reducible refine AbK hD ?_ | wp_step))
 refine ⟨rfl,codeAny_call_builtin_at (Code.quiet_builtin _ (by trivial)) entry_typeCall (wpAny_check_type_call_sub hD (BP X hx hi hf hl ?_))⟩;exact k
end
def v7 (x C dx:Addr):HO:=.ext fun h=>∃ vs,h.get? x=some (iM C (some dx) vs)/\vs[2]?=some .none
def lW (x C:Addr):HO:=.ext fun h=>∃ t,h.get? x=some (iM C none #[.ref t,.none,.none,.none,.bool false,.none])
theorem Gn {P:Program} {w:World} {H:Hp} {h:Heap} {x C dx:Addr} {vs:Array Value} (e:h.get? x=some (iM C (some dx) vs)) (h2:vs[2]?=some .none):ObjOk P w H h x (v7 x C dx):=
 ⟨⟨vs,e,h2⟩,⟨_,e⟩,fun h1 h2 ⟨vs,e,z⟩ k=>⟨vs,k _ e,z⟩⟩
theorem Qx {P:Program} {w:World} {H:Hp} {h:Heap} {x C dx:Addr} (ok:HOk P w H h) (e:H x=some (v7 x C dx)):∃ vs,h.get? x=some (iM C (some dx) vs)/\vs[2]?=some .none:=(ok _ _ e).1
structure Head (X:Cx) (pins:List (Addr×Obj)) (H:Hp) (x C dx T:Addr) (h:Heap):Prop where
 obj:∃ vs,h.get? x=some (iM C (some dx) vs)/\vs[1]?=some (.ref T)/\vs[2]?=some .none
 tb:Ib h T
 fp:pU X pins H T
 tr:H x=some (v7 x C dx)
theorem Head.ne {X:Cx} {pins:List (Addr×Obj)} {H:Hp} {x C dx T:Addr} {h:Heap} (a:Head X pins H x C dx T h):T≠x:=fun z=>by
 have:=a.fp.1;rw [z,a.tr] at this;cases this
def Fly (X:Cx) (pins:List (Addr×Obj)) (H:Hp) (x C dx:Addr) (h:Heap):Prop:=
 H x=some (v7 x C dx)/\((∃ vs,h.get? x=some (iM C (some dx) vs)/\vs[1]?=some .none/\vs[2]?=some .none)\/∃ T,Head X pins H x C dx T h)
section
variable {X:Cx} {pins:List (Addr×Obj)} {U:St} {H:Hp} {s:Shared} {x C dx:Addr} {h':Heap} {T:Addr} {hd:Option Addr}
theorem Inv.noted {fs:List Addr} (I:Inv X pins U H s) (hx:H x=some (v7 x C dx)) (hh:∀ b,hd=some b->pU X pins H b) (hf:∀ b∈fs,b∈X.env.locals :: X.fs) (N:Gm fs x C (some dx) hd s.heap h' T):Inv X pins U H {s with heap:=h'}:=by
 obtain ⟨m,⟨oL,esL,epL,hoL,rL⟩,_⟩:=id I.loc
 have fsF:∀ b∈fs,H b=none:=fun b hb=>by
  rcases ZQ.mp (hf b hb) with e | hb
  ·rw [e];exact I.free
  ·obtain ⟨_,o,ho,_⟩:=I.ok.funs.mem hb
   exact I.base.free b o ho (I.ok.frf b hb) fun z=>I.ok.exfs b z hb
 have nx:∀ b,H b=none->b≠x:=fun b n z=>by rw [z,hx] at n;cases n
 have hdF:∀ b,hd=some b->H b=none:=fun b e=>(hh b e).1
 have mem:∀ b,b ∉ hd.toList->some b≠hd:=fun b nb z=>nb (by rw [← z];simp)
 refine I.step (g':=s.gens) (d':=s.drawn) (t':=s.toks) (ch:=hd.toList) (fun b hb=>?_) (fun b o hL hb hc e n=>?_) (fun b o hL hb hc e n=>?_) (fun _ _ _ _ n=>n) (fun b o hc e=>?_) (fun _ _ e=>e) (fun _ _ _ e=>e) (fun b ps e=>⟨#[],by rw [e];simp⟩) (fun m hm=>?_) (fun b u e=>?_) I.bare
 ·have e:hd=some b:=by cases hd <;> simp_all
  obtain ⟨_,a2,_,a4,a5,a6⟩:=hh b e;exact ⟨a4,a2,a5,a6⟩
 ·refine N.keep b o (nx b n) (mem b hc) (fun z=>?_) e
  rcases ZQ.mp (hf b z) with q | q
  ·exact hL q
  ·exact hb q
 ·exact N.slot b o (nx b n) (mem b hc) e
 ·by_cases q:b=x
  ·obtain ⟨vs,z,_⟩:=N.obj
   exact ⟨_,by rw [q];exact z⟩
  ·obtain ⟨sl,z⟩:=N.slot b o q (mem b hc) e
   exact ⟨_,z⟩
 ·obtain ⟨o,es,ep,ho,r⟩:=hm
  obtain ⟨sl,z⟩:=N.slot _ o (nx _ I.free) (fun q=>(hh _ q.symm).2.1 rfl) ho;exact ⟨_,es,ep,z,r⟩
 ·by_cases q:b=x
  ·subst q
   rw [hx] at e;cases e;obtain ⟨vs,z,_,z2⟩:=N.obj;exact Gn z z2
  ·refine (I.hok b u e).stay (fun c v hc z=>?_) (fun _ q=>q) fun _ _ q=>q
   have tc:∃ u,H c=some u:=by
    rcases hc with rfl | hc
    ·exact ⟨_,e⟩
    ·exact ⟨_,hc⟩
   obtain ⟨uc,tc⟩:=tc;refine N.keep c v (fun zz=>?_) (fun zz=>?_) (fun zz=>?_) z
   ·rcases hc with rfl | hc
    ·exact q zz
    ·rw [zz,hx] at hc;cases hc
   ·rw [hdF c zz.symm] at tc;cases tc
   ·rw [fsF c zz] at tc;cases tc
theorem Lz {A:Around} {E:Value->Shared->Prop} {Q:Unit->Shared->Prop} (I:Inv X pins U H s) (hst:X.stack=X.env :: X.outer) (hfr:X.env.frame=some X.env.locals) (hA:A.frames=some X.stack) (F:Fly X pins H x C dx s.heap)
  (k:∀ h' T,Inv X pins U H {s with heap:=h'}->Head X pins H x C dx T h'->Q () {s with heap:=h'}):wpAny (model X.prog X.w) A (noteFrame (.ref x) X.env) Q E s:=by
 have ff:s.heap.FunFrames X.base (X.env :: X.outer):=hst ▸ I.stack;have sub:∀ b∈Qw (X.env :: X.outer),b∈X.env.locals :: X.fs:=fun b hb=>I.stkSub b (by rw [hst];exact hb)
 have nf:∀ b u,H b=some u->b ∉ Qw (X.env :: X.outer):=fun b u e z=>by
  rw [I.stkFree b (by rw [hst];exact z)] at e;cases e
 obtain ⟨hx,⟨vs,e,h1⟩ | ⟨T0,hT⟩⟩:=F
 ·refine Yl (hst ▸ hA) ff hfr e h1 (nf x _ hx) fun h' T N=>?_
  have J:=I.noted hx (fun b z=>by cases z) sub N;refine k h' T J ⟨N.obj,N.tb,?_,hx⟩;have zT:s.heap.objs.size<=T:=by rcases N.new with z | z;exact z;cases z
  exact I.fpOk zT (I.hok.fresh zT)
 ·obtain ⟨vs,e,h1⟩:=hT.obj
  refine Ym (hst ▸ hA) ff hfr e h1 hT.tb hT.ne (nf x _ hx) (fun z=>?_) fun h' T N=>?_
  ·rcases ZQ.mp (sub T0 z) with q | q
   ·exact hT.fp.2.1 q
   ·exact hT.fp.2.2.1 q
  ·have J:=I.noted hx (fun b z=>by cases z;exact hT.fp) sub N
   refine k h' T J ⟨N.obj,N.tb,?_,hx⟩;rcases N.new with z | z
   ·exact I.fpOk z (I.hok.fresh z)
   ·cases z;exact hT.fp
theorem LC {A:Around} {E:Value->Shared->Prop} {Q:Unit->Shared->Prop} (I:Inv X pins U H s) (F:Head X pins H x C dx T s.heap)
  (k:∀ h',Inv X pins U H {s with heap:=h'}->Head X pins H x C dx T h'->Q () {s with heap:=h'}):wpAny (model X.prog X.w) A (setFlight (.ref x) none) Q E s:=by
 obtain ⟨vs,e,h1⟩:=F.obj;refine Yn e h1 F.tb F.ne fun h' N=>?_
 exact k h' (I.noted F.tr (fun b z=>by cases z;exact F.fp) (fun b z=>absurd z (by simp)) N) ⟨N.obj,N.tb,F.fp,F.tr⟩
def Qy (P:Program) (w:World):Hu:=fun outer H s E e s'=>∃ x C dx T H',e= .ref x/\s'.os=s.os/\AllBare s'.gens/\Un (frs outer) [] H H' s.heap s'.heap/\HOk P w H' s'.heap/\H' x=some (v7 x C dx)/\H' T=none/\s.heap.objs.size<=T/\
 (∃ vs,s'.heap.get? x=some (iM C (some dx) vs)/\vs[1]?=some (.ref T)/\vs[2]?=some .none)/\Ib s'.heap T/\E (.ref C) (some x) H'
def XE (X:Cx) (pins:List (Addr×Obj)) (R:St->XK) (e:Value) (s':Shared):Prop:=∃ x C dx U H',e= .ref x/\Inv X pins U H' s'/\Fly X pins H' x C dx s'.heap/\R U (.ref C) (some x) H'
theorem Gp {R:St->XK} {e:Value} {s':Shared} (I:Inv X pins U H s) (c:Qy X.prog X.w X.stack H s (R U) e s'):XE X pins R e s':=by
 obtain ⟨x,C,dx,T,H',rfl,os,bare,un,hok,tx,tT,zT,ob,tb,r⟩:=c;obtain ⟨hh,g,d,t,os'⟩:=s';obtain rfl:os'=s.os:=os;have J:=I.call (h':=hh) (g':=g) (d':=d) (t':=t) (ch:=[]) un hok bare (fun b z=>absurd z (by simp));exact ⟨x,C,dx,U,H',rfl,J,⟨tx,.inr ⟨T,ob,tb,I.fpOk zT tT,tx⟩⟩,r⟩
def pP (X:Cx) (R:St->XK):Prop:=∀ (pins:List (Addr×Obj)) (e:Value) (s':Shared),XE X pins R e s'->X.xe e s'
end
theorem aH {P:Program} {w:World} {K:W.Frag} {mg:Str->Option Value} {base:Heap} {N:List Str} {qual:Str} {scope:Scope} {f:Addr} {cd:Value} {A:Around} {outer:List Env} {s:Shared} {H:Hp} {E:XK}:
  pP (rQ (Qy P w) P w K mg base N qual scope f cd A outer s H E) (fun _=>E):=by
 rintro pins e s' ⟨x,C,dx,U,H',he,I,F,r⟩;subst he;show wpAny _ _ (leaving _ _) _ _ _;unfold leaving;refine Zu (Lz (X:=rQ (Qy P w) P w K mg base N qual scope f cd A outer s H E) I rfl rfl I.ok.frames F fun h1 T J1 F1=>?_);refine LC (X:=rQ (Qy P w) P w K mg base N qual scope f cd A outer s H E) J1 F1 fun h2 J2 F2=>?_
 refine ⟨x,C,dx,T,H',rfl,J2.os,J2.bare,J2.base,J2.hok,F2.tr,F2.fp.1,?_,F2.obj,F2.tb,r⟩;rcases F2.fp.2.2.2.1 with z | z
 ·exact absurd (show T∈([]:List Addr) from z) (by simp)
 ·exact z
def oR (d:Addr) (fs:List (Str×V)):HO:=.ext fun h=>∃ mA,h.Ns1 d mA/\∀ f,RelO (fs.lookup f) (mA f)
theorem zX {P:Program} {w:World} {H:Hp} {h:Heap} {d:Addr} {fs:List (Str×V)} {mA:Str->Option Value} (n:h.Ns1 d mA) (r:∀ f,RelO (fs.lookup f) (mA f)):ObjOk P w H h d (oR d fs):=by
 refine ⟨⟨mA,n,r⟩,let ⟨o,_,_,e,_⟩:=n;⟨o,e⟩,fun h1 h2 ⟨m,n,r⟩ k=>⟨m,?_,r⟩⟩;obtain ⟨o,es,ep,e,q⟩:=n;exact ⟨o,es,ep,k _ e,q⟩
theorem zY {P:Program} {w:World} {H:Hp} {h:Heap} {d:Addr} {fs:List (Str×V)} (ok:HOk P w H h) (e:H d=some (oR d fs)):∃ mA,h.Ns1 d mA/\∀ f,RelO (fs.lookup f) (mA f):=(ok _ _ e).1
def iY (x C d:Addr):HO:=.ext fun h=>∃ t,h.get? x=some (iM C (some d) #[.ref t,.none,.none,.none,.bool false,.none])
theorem Ie {P:Program} {w:World} {H:Hp} {h:Heap} {x C d t:Addr} (e:h.get? x=some (iM C (some d) #[.ref t,.none,.none,.none,.bool false,.none])):ObjOk P w H h x (iY x C d):=
 ⟨⟨t,e⟩,⟨_,e⟩,fun h1 h2 ⟨t,e⟩ k=>⟨t,k _ e⟩⟩
theorem u6 {P:Program} {w:World} {H:Hp} {h:Heap} {x C d:Addr} (ok:HOk P w H h) (e:H x=some (iY x C d)):∃ t,h.get? x=some (iM C (some d) #[.ref t,.none,.none,.none,.bool false,.none]):=(ok _ _ e).1
def iU:List Value->Bool
 | [.type a,.type b,.type c,.type d]=>a == "ValueError" && b == "Exception" && c == "BaseException" && d == "object"
 | .ref _ :: r=>iU r
 | _=>false
theorem vQ {l:List Value} (e:iU l=true):(∃ a r,l= .ref a :: r/\iU r=true)\/l=Zk:=by
 unfold iU at e
 split at e
 ·simp only [Z4,Aa3] at e
  obtain ⟨⟨⟨rfl,rfl⟩,rfl⟩,rfl⟩:=e;exact .inr rfl
 ·exact .inl ⟨_,_,rfl,e⟩
 ·cases e
theorem vR (self:Value):∀ (l:List Value),iU l=true->refuseLoop self "__setattr__" l=pure ()
 | [],e=>by cases e
 | v :: r,e=>by
  rcases vQ e with ⟨a,r',q,e'⟩ | q
  ·cases q
   rw [refuseLoop_ref];exact vR self r e'
  ·rw [q]
   exact F.store_ValueError.passes self
theorem xQ:∀ (l:List Value),iU l=true->l.contains (.type "object")=true/\l.contains (.type "BaseException")=true
 | [],e=>by cases e
 | v :: r,e=>by
  rcases vQ e with ⟨a,r',q,e'⟩ | q
  ·cases q
   obtain ⟨h1,h2⟩:=xQ r e';exact ⟨by rw [Abf,h1,Bool.or_true],by rw [Abf,h2,Bool.or_true]⟩
  ·rw [q]
   decide
def VP (K:W.Frag) (C:Addr):Bool:=Xd K C && (PySem.W.clsIn K C).any (fun cd=>iU cd.mro && cd.hasDict) && PySem.W.findIn K (.ref C) "__setattr__" == some (some (.builtin "object.__setattr__")) &&
 PySem.W.findIn K (.ref C) "__getattribute__" == some (some (.builtin "BaseException.__getattribute__")) && PySem.W.findIn K (.ref C) "__getattr__" == some none
structure XCls (K:W.Frag) (C:Addr):Prop where
 xi:Xd K C=true
 ov:∃ cd,PySem.W.clsIn K C=some cd/\iU cd.mro=true/\cd.hasDict=true
 sa:PySem.W.findIn K (.ref C) "__setattr__"=some (some (.builtin "object.__setattr__"))
 ga:PySem.W.findIn K (.ref C) "__getattribute__"=some (some (.builtin "BaseException.__getattribute__"))
 gh:PySem.W.findIn K (.ref C) "__getattr__"=some none
theorem Qz {K:W.Frag} {C:Addr} (h:VP K C=true):XCls K C:=by
 unfold VP at h;simp only [Z4,Aa3] at h;obtain ⟨⟨⟨⟨h1,h2⟩,h3⟩,h4⟩,h5⟩:=h;obtain ⟨cd,a,b⟩:=PySem.W.any_some h2;simp only [Z4] at b;exact ⟨h1,⟨cd,a,b.1,b.2⟩,h3,h4,h5⟩
theorem QB {l:List Value} (e:iU l=true):l.isEmpty=false:=by
 cases l with
 | nil=>cases e
 | cons _ _=>rfl
section
variable {prog:Program} {w:World} {A:Around} {s:Shared} {K:W.Frag} {x C:Addr} {R:Result->Shared->Prop}
theorem XCls.mro {c:Value} {b:Bool} (k:XCls K C) (h:∀ cd,PySem.W.clsIn K C=some cd->iU cd.mro=true->cd.mro.contains c=b):PySem.W.mroIn K C c=some b:=by
 obtain ⟨cd,a,o,_⟩:=k.ov;unfold PySem.W.mroIn;rw [a,Option.bind_some,if_neg (by rw [QB o];decide),h cd a o]
theorem XCls.isObj (k:XCls K C):PySem.W.mroIn K C (.type "object")=some true:=k.mro fun cd _ o=>(xQ _ o).1
theorem XCls.isExc (k:XCls K C):PySem.W.mroIn K C (.type "BaseException")=some true:=k.mro fun cd _ o=>(xQ _ o).2
theorem Sw {ox:Obj} {od:Option Obj} {name:Str} {tk:Tok} {v:Value} (X:K.In s.heap) (I:PySem.W.InstAt s.heap x ox C od) (c:XCls K C) (ht:NoAttr K C name)
  (h:wpAny (model prog w) A.in1 (Builtin.ObjectAttr.storeInOwnDict (.ref x) (.ref C) (.str name tk) name v false)
   (fun fin s'=>match fin with | .done f=>R (.ok f) s' | .again c'=>c'.quiet=true/\codeAny (model prog w) A c' R s') (fun e s'=>R (.error e) s') s):
  codeAny (model prog w) A (.call (.builtin "object.__setattr__") ⟨[.ref x,.str name tk,v],[]⟩) R s:=by
 obtain ⟨cd,hc,ho,_⟩:=c.ov;have sub:PySem.W.Looks (model prog w) s.heap (isInstance (.ref x) (.type "object")) true:=I.type.andThen (PySem.W.looks_mroIn X c.isObj);refine Abt F.store_object.slot.plain F.store_object.entry (@PySem.W.check_slot (model prog w) _ _ s "object.__setattr__" "object" "__setattr__" (.ref x) [.str name tk,v] [] _ F.store_object.kind F.store_object.split sub (F.store_object.args (.ref x) (.str name tk) v) ?_);have hm:PySem.W.Looks (model prog w) s.heap (mroOf (.ref C)) cd.mro:=(PySem.W.looks_clsIn X hc).andThen .now;have L3:PySem.W.Looks (model prog w) s.heap (Builtin.ObjectAttr.storeTaker? none) none:=.now;rw [PySem.W.osa_eq,refuse_eq];refine Zu (Zu (I.type.here (Zu (hm.here ?_))));rw [vR _ _ ho];refine Zy (Zu (I.type.here (Zu ((Abp X ht).here (Zu (L3.here ?_))))));exact h
end
theorem LK {H:Hp} {d x:Addr} {a b c:HO} (n:d≠x):upd (upd (upd H d a) x b) d c=upd (upd H x b) d c:=by
 funext y;unfold upd;by_cases h:y=d
 ·simp [h]
 ·simp [h]
section
variable {X:Cx} {pins:List (Addr×Obj)} {U:St} {H:Hp} {s:Shared} {x C d:Addr} {fs:List (Str×V)} {f:Str} {v y:V} {u:Value} {A:Around} {E:Value->Shared->Prop}
theorem Yo {Q:Unit->Shared->Prop} (I:Inv X pins U H s) (e:H x=some (lW x C)) (c:XCls X.K C) (n:NoAttr X.K C f) (ry:RelV y u)
  (h:∀ s' d,H d=none->d≠x->Inv X pins U (upd (upd H x (iY x C d)) d (oR d [(f,y)])) s'->Q () s'):wpAny (model X.prog X.w) A (setAttr (.ref x) f u) Q E s:=by
 obtain ⟨⟨t,hx⟩,-,-⟩:ObjOk X.prog X.w H s.heap x (lW x C):=I.hok x _ e;obtain ⟨cd,hc,ho,hd⟩:=c.ov;have J:PySem.W.InstAt s.heap x (iM C none #[.ref t,.none,.none,.none,.bool false,.none]) C none:=⟨hx,rfl,rfl,True.intro⟩;refine PySem.W.set_plain I.kIn J c.sa (Sw (s:={s with toks:=s.toks+1}) I.kIn J c n ?_);refine Zu (Zy (Zu (Zu (AaZ hx (Zu ((PySem.W.looks_clsIn (M:=model X.prog X.w) I.kIn hc).here (s:={s with toks:=s.toks+1}) ?_))))));rw [hd];have hp:s.heap.objs.size≠x:=AaY (ZL hx);have hx1:(s.heap.push {cls:=.type "dict",data:=.dict #[]}).get? x=some (iM C none #[.ref t,.none,.none,.none,.bool false,.none]):=Zz _ hx;have d1:(s.heap.push {cls:=.type "dict",data:=.dict #[]}).get? s.heap.objs.size=some {cls:=.type "dict",data:=.dict #[]}:=ZP _ rfl;have n1:∀ {hh:Heap},hh.get? s.heap.objs.size=some {cls:=.type "dict",data:=.dict #[]}->hh.Ns1 s.heap.objs.size (fun _=>none):=fun q=>Heap.Ns1.of_empty ⟨_,#[],_,q,rfl,fun e he=>absurd he (by simp),fun _=>rfl⟩
 have I1:Inv X pins U (upd H s.heap.objs.size (oR s.heap.objs.size [])) {s with heap:=s.heap.push {cls:=.type "dict",data:=.dict #[]},toks:=s.toks+1}:=
  I.laid (t':=s.toks+1) (fun b o q=>Zz _ q) (ZC _) (zX (n1 d1) fun g=>True.intro)
 refine Zu (wpAny_alloc' ?_);refine Zu (wpAny_update' hx1 ?_);have hx2:=AaH (fun o:Obj=>({o with dict:=some s.heap.objs.size}:Obj)) hx1 rfl;have ot:∀ b,b≠x->((s.heap.push {cls:=.type "dict",data:=.dict #[]}).update x fun o=>{o with dict:=some s.heap.objs.size}).get? b=(s.heap.push {cls:=.type "dict",data:=.dict #[]}).get? b:=fun b hb=>Aal _ _ (Ne.symm hb)
 have e1:upd H s.heap.objs.size (oR s.heap.objs.size []) x=some (lW x C):=(aC (Ne.symm hp)).trans e
 have I2:Inv X pins U (upd (upd H s.heap.objs.size (oR s.heap.objs.size [])) x (iY x C s.heap.objs.size)) {s with heap:=(s.heap.push {cls:=.type "dict",data:=.dict #[]}).update x fun o=>{o with dict:=some s.heap.objs.size},toks:=s.toks+1}:=
  I1.write (t':=s.toks+1) (x:=x) (e:=x) (by rw [e1];exact True.intro) (.inl rfl) (fun b o hb q=>(ot b hb).trans q) ⟨_,hx2⟩ (Ie hx2)
 refine Zy (Zu (Zy (Zu ?_)));refine wpAny_nsSet1 (n1 ((ot _ hp).trans d1)) fun h' hn' hs=>?_
 obtain ⟨oD,esD,epD,hoD,hdD,hcD⟩:=hn'.count (PySem.Within.cons f u PySem.Within.nil);refine Zu (wpAny_lookBehind hoD (by rw [hdD];exact pastItsLine_dict (ZG hcD (by rw [Aap,AaL,sizeLine_eq];omega))) ?_);refine Zy (h _ s.heap.objs.size (I.hok.fresh (ZC _)) hp ?_);rw [← LK (a:=oR s.heap.objs.size []) hp];refine I2.write (x:=s.heap.objs.size) (e:=s.heap.objs.size) (by rw [aC hp,aj];exact True.intro) (.inl rfl) (fun b o hb q=>(hs.2 b hb).trans q) ⟨_,hoD⟩ (zX hn' fun g=>?_);by_cases q:g=f
 ·have qb:(g == f)=true:=Aa3.mpr q
  simp only [List.lookup,qb,if_pos q];exact ry
 ·have qb:(g == f)=false:=Abb.mpr q
  simp only [List.lookup,qb,if_neg q];exact True.intro
theorem QC {h:Heap} {P:Program} {w:World} (ok:HOk P w H h) (e:H x=some (iY x C d)) (e2:H d=some (oR d fs)):d≠x:=fun z=>by
 subst z;obtain ⟨t,a⟩:=u6 ok e;obtain ⟨mA,⟨o,es,ep,b,q,_⟩,_⟩:=zY ok e2;rw [a] at b;cases b;cases q
theorem Yp {Q:Unit->Shared->Prop} (I:Inv X pins U H s) (e:H x=some (iY x C d)) (e2:H d=some (oR d fs)) (hl:fs.length < 1000) (c:XCls X.K C) (n:NoAttr X.K C f) (ry:RelV y u)
  (h:∀ s',Inv X pins U (upd H d (oR d (cP f y fs))) s'->Q () s'):wpAny (model X.prog X.w) A (setAttr (.ref x) f u) Q E s:=by
 have ne:=QC I.hok e e2;obtain ⟨vs,hx⟩:=u6 I.hok e;obtain ⟨mA,nA,rA⟩:=zY I.hok e2;obtain ⟨cd,hc,ho,hd⟩:=c.ov;have J:PySem.W.InstAt s.heap x (iM C (some d) #[.ref vs,.none,.none,.none,.bool false,.none]) C (some (Classical.choose nA)):=⟨hx,rfl,rfl,let ⟨_,_,q,_⟩:=Classical.choose_spec nA;q⟩;refine PySem.W.set_plain I.kIn J c.sa (Sw (s:={s with toks:=s.toks+1}) I.kIn J c n ?_);refine Zu (Zy (Zu (Zu (AaZ hx (Zu ((PySem.W.looks_clsIn (M:=model X.prog X.w) I.kIn hc).here (s:={s with toks:=s.toks+1}) ?_))))));rw [hd];refine Zy (a:=some d) (Zu (Zy (Zu ?_)));refine wpAny_nsSet1 (s:={s with toks:=s.toks+1}) nA fun h' hn' hs=>?_
 have wi:PySem.Within mA (fs.map (·.1)):=fun z hz=>by
  have r:=rA z;cases q:fs.lookup z with
  | none=>rw [q] at r;exact absurd (RelO.none_of r) hz
  | some a=>exact Aam.mpr ⟨(z,a),Aax q,rfl⟩
 obtain ⟨oD,esD,epD,hoD,hdD,hcD⟩:=hn'.count (PySem.Within.cons f u wi);refine Zu (wpAny_lookBehind hoD (by rw [hdD];exact pastItsLine_dict (ZG hcD (by rw [Aap,ZJ,sizeLine_eq];omega))) ?_);refine Zy (h _ ?_);refine I.write (x:=d) (e:=d) (by rw [e2];exact True.intro) (.inl rfl) (fun b o hb q=>(hs.2 b hb).trans q) ⟨_,hoD⟩ (zX hn' fun g=>?_);rw [pX];by_cases q:g=f
 ·rw [if_pos q,if_pos q];exact ry
 ·rw [if_neg q,if_neg q];exact rA g
end
def Gq (K:W.Frag) (C:Addr):Bool:=VP K C && PySem.W.findIn K (.ref C) "__class__" == some (some (.builtin "object.__class__")) && PySem.W.specialIn K (.builtin "object.__class__") "__get__" == some (some (.builtin "getset_descriptor.__get__")) && PySem.W.takesIn K (.builtin "object.__class__") == some true
structure Sy (K:W.Frag) (C:Addr):Prop where
 cls:XCls K C
 ca:PySem.W.findIn K (.ref C) "__class__"=some (some (.builtin "object.__class__"))
 cg:PySem.W.specialIn K (.builtin "object.__class__") "__get__"=some (some (.builtin "getset_descriptor.__get__"))
 ct:PySem.W.takesIn K (.builtin "object.__class__")=some true
theorem LQ {K:W.Frag} {C:Addr} (h:Gq K C=true):Sy K C:=by
 unfold Gq at h;simp only [Z4,Aa3] at h;exact ⟨Qz h.1.1.1,h.1.1.2,h.1.2,h.2⟩
section
variable {prog:Program} {w:World} {A:Around} {E:Value->Shared->Prop} {s:Shared} {K:W.Frag} {x C:Addr} {ox od:Obj}
theorem Ig {Q:Option Value->Shared->Prop} (c:Sy K C) (KI:K.In s.heap) (J:PySem.W.InstAt s.heap x ox C (some od)) (h:Q (some (.ref C)) {s with toks:=s.toks+1}):wpAny (model prog w) A (getAttr? (.ref x) "__class__") Q E s:=by
 obtain ⟨cd,hc,ho,hd⟩:=c.cls.ov;have hf:PySem.W.findObj K C (some od) "__class__"=some (.bind (.builtin "getset_descriptor.__get__") (.builtin "object.__class__")):=PySem.W.findObj_data (by rw [hc];rfl) c.ca c.cg c.ct;obtain ⟨hh,g,dr,t,os⟩:=s;have L0:=J.type (M:=model prog w);have L1:=Abp (M:=model prog w) KI c.cls.ga;have L2:=Abp (M:=model prog w) KI c.cls.gh;have L3:=PySem.W.looks_find (M:=model prog w) KI J hf;have sub:PySem.W.Looks (model prog w) hh (isInstance (.ref x) (.type "BaseException")) true:=L0.andThen (PySem.W.looks_mroIn KI c.cls.isExc)
 have hb0:(onTheHeap (Value.ref C) && Value.builtin "BaseException.__getattribute__" == Value.builtin "object.__getattribute__")=false:=by
  rw [show (Value.builtin "BaseException.__getattribute__" == Value.builtin "object.__getattribute__")=false from by trivial,Bool.and_false]
 unfold getAttr? getAttrBy? getAttrBy;refine Zu (wpAny_mkText (Zu (wpAny_attempt (Aar (Zu (L0.at (Zu (L1.at ?_))))))));dsimp only;rw [hb0,if_neg ZV];unfold getAttrByItsOwn hookBefore;refine Zu ?_;rw [if_pos (show onTheHeap (Value.ref C)=true from rfl)];refine L2.at ?_;refine Zu (wpAny_attempt (Aar ?_));unfold callGetattribute;rw [if_neg (show ¬ ((false && onTheHeap (Value.builtin "BaseException.__getattribute__"))=true) from by decide)];unfold boundAndCalled;refine Zu (wpAny_of_eq (F.attrBase_ValueError.ga.bind (.ref x)) ?_);refine Abz (Abt F.attrBase_ValueError.ga.plain F.entry_bexc_ga (@PySem.W.check_slot (model prog w) _ _ ⟨hh,g,dr,t+1,os⟩ "BaseException.__getattribute__" "BaseException" "__getattribute__" (.ref x) [.str "__class__" t] [] _ (by trivial) (by trivial) sub (F.args_bexc_ga (.ref x) (.str "__class__" t)) ?_));refine Zu (Zy (Zu (Zy (Zu (L0.at (Zu (L3.at ?_)))))));show wpAny _ _ (holding [.builtin "object.__class__"] (call (.builtin "getset_descriptor.__get__") [.builtin "object.__class__",.ref x,.ref C]) >>=ret) _ _ _;refine Zu (Aar (Abz (PySem.W.class_get (s:=⟨hh,g,dr,t+1,os⟩) KI J c.cls.isObj ?_)));refine Zy ?_;show wpAny _ _ (handedOut (.ref C)) _ _ _;rw [PySem.W.handedOut_of rfl];exact Zy (Zy h)
theorem LR (c:Sy K C):PySem.W.KitX K (.ref x) (.ref C) (fun h=>PySem.W.InstAt h x ox C (some od)) where
 ty:=fun _ _ _ I=>I.type
 it:=fun _ _ X _=>by
  obtain ⟨cd,hc,_⟩:=c.cls.ov;unfold PySem.W.clsIn at hc
  split at hc
  ·rename_i a1 a2 a3 a4 ho
   intro A1 Q1 E1 s1 k q;unfold isType loadHead;exact Zu (AaZ (k _ _ (X _ _ ho)) (Zy q))
  ·cases hc
 ne:=fun h tp dd its n sl X htp=>by
  obtain ⟨cd,hc,_⟩:=c.cls.ov;refine Bool.eq_false_iff.mpr fun q=>?_
  obtain rfl:C=tp:=Value.ref.inj (Aa3.mp q);unfold PySem.W.clsIn at hc
  split at hc
  ·rename_i a1 a2 a3 a4 ho
   cases (X _ _ ho).symm.trans htp
  ·cases hc
 ca:=fun X I k=>Ig c X I k
end
def VR (H:Hp) (x C:Addr) (fs:List (Str×V)):Prop:=∃ d,H x=some (v7 x C d)/\H d=some (oR d fs)
def clV:V->Option Value
 | .ty T=>some (.type T)
 | .ref C=>some (.ref C)
 | _=>none
theorem Ma {v:V} {u c:Value} (e:clV v=some c) (r:RelV v u):u=c:=by
 cases v <;> first | cases e;exact r | cases e
def Mf:List V->Option (List Value)
 | []=>some []
 | v :: r=>match clV v,Mf r with
  | some c,some l=>some (c :: l)
  | _,_=>none
theorem Gr:∀ {vs:List V} {us cs:List Value},Mf vs=some cs->Vals vs us->us=cs
 | [],us,cs,e,r=>by cases r;cases e;rfl
 | v :: vs,us,cs,e,r=>by
  cases r with
  | cons r1 r2=>
   unfold Mf at e
   split at e
   ·rename_i c l h1 h2
    cases e;rw [Ma h1 r1,Gr h2 r2]
   ·cases e
def SJ (K:W.Frag):List V->Hp->VK->Prop:=fun xs H Q=>∃ x t b,(TyOf K H x t\/∃ a C fs,x= .ref a/\VR H a C fs/\Sy K C/\t= .ref C)/\
 ((∃ v c,xs=[x,v]/\clV v=some c/\PySem.W.kitOne K t c=some b)\/(∃ p vs cs,xs=[x,.ref p]/\H p=some (.tup vs)/\Mf vs=some cs/\PySem.W.kitAny K t cs=some b))/\Q (.bl b) H
section
variable {X:Cx} {pins:List (Addr×Obj)} {U:St} {H:Hp} {s:Shared} {A:Around} {E:Value->Shared->Prop} {Q:Value->Shared->Prop} {c:Value} {b:Bool}
theorem Mg {x:V} {u t:Value} (I:Inv X pins U H s) (rx:RelV x u) (ty:TyOf X.K H x t\/∃ a C fs,x= .ref a/\VR H a C fs/\Sy X.K C/\t= .ref C):
  ∃ φ:Heap->Prop,PySem.W.KitX X.K u t φ/\φ s.heap/\u≠.builtin "__main__.__loader__#opaque":=by
 rcases ty with ty | ⟨a,C,fs,rfl,⟨d,e1,e2⟩,c,rfl⟩
 ·cases ty with
  | non=>cases (show u=Value.none from rx);exact ⟨_,PySem.W.kitx_none,True.intro,(fun z=>nomatch z)⟩
  | bl y=>cases (show u=Value.bool y from rx);exact ⟨_,PySem.W.kitx_bool,True.intro,(fun z=>nomatch z)⟩
  | int i=>obtain ⟨t,q⟩:=(show ∃ t,u=Value.int i t from rx);cases q;exact ⟨_,PySem.W.kitx_int,True.intro,(fun z=>nomatch z)⟩
  | str y=>obtain ⟨t,q⟩:=(show ∃ t,u=Value.str y t from rx);cases q;exact ⟨_,PySem.W.kitx_str,True.intro,(fun z=>nomatch z)⟩
  | flt y=>obtain ⟨t,q⟩:=(show ∃ t,u=Value.float y t from rx);cases q;exact ⟨_,PySem.W.kitx_float,True.intro,(fun z=>nomatch z)⟩
  | @lst a xs ea=>
   cases (show u=Value.ref a from rx);obtain ⟨_,_,n,_,h1⟩:=(show ObjOk X.prog X.w H s.heap a (.lst xs) from I.hok a _ ea);exact ⟨_,PySem.W.kitx_list,⟨_,h1,rfl⟩,(fun z=>nomatch z)⟩
  | @frz a ob xs ea=>
   cases (show u=Value.ref a from rx);obtain ⟨_,_,_,n,_,h1⟩:=(show ObjOk X.prog X.w H s.heap a (.frz ob (.lst xs)) from I.hok a _ ea);exact ⟨_,PySem.W.kitx_list,⟨_,h1,rfl⟩,(fun z=>nomatch z)⟩
  | @tup a xs ea=>
   cases (show u=Value.ref a from rx);obtain ⟨_,_,_,p⟩:=(show ObjOk X.prog X.w H s.heap a (.tup xs) from I.hok a _ ea);obtain ⟨o,h1,h2,_⟩:=p;exact ⟨_,PySem.W.kitx_tuple,⟨o,h1,h2⟩,(fun z=>nomatch z)⟩
  | @dK a kvs ea=>
   cases (show u=Value.ref a from rx);obtain ⟨_,_,vs,_,p⟩:=(show ObjOk X.prog X.w H s.heap a (.dK kvs) from I.hok a _ ea);obtain ⟨o,es,ep,h1,h2,_⟩:=p;exact ⟨_,PySem.W.kitx_dict,⟨o,h1,h2.1⟩,(fun z=>nomatch z)⟩
  | @dT a kvs ea=>
   cases (show u=Value.ref a from rx);obtain ⟨_,_,xs,_,o,es,ep,h1,h2,_⟩:=(show ObjOk X.prog X.w H s.heap a (.dT kvs) from I.hok a _ ea);exact ⟨_,PySem.W.kitx_dict,⟨o,h1,h2.1⟩,(fun z=>nomatch z)⟩
  | @ins a C dx fs ea cl ha hn htk hm=>
   cases (show u=Value.ref a from rx);obtain ⟨mA,O,_⟩:=t6 I.hok ea;obtain ⟨od,J,_⟩:=O.look;exact ⟨_,PySem.W.kitx_own (cl.get _) cl.hd ha hn htk hm,J,(fun z=>nomatch z)⟩
 ·cases (show u=Value.ref a from rx)
  obtain ⟨vs,hx,_⟩:=Qx I.hok e1;obtain ⟨mA,nA,rA⟩:=zY I.hok e2;obtain ⟨od,hod,lk⟩:=yS nA;exact ⟨_,LR (ox:=iM C (some d) vs) (od:=od) c,⟨hx,rfl,rfl,hod⟩,(fun z=>nomatch z)⟩
theorem Ih {K:W.Frag} (hK:X.K=K):CallR X (.builtin "isinstance") (SJ K):=by
 subst hK;intro pins s U H xs us Q I r h;obtain ⟨x,t,b,ty,w,q⟩:=h;rcases w with ⟨v,c,rfl,ec,e⟩ | ⟨p,vs,cs,rfl,ep,ec,e⟩
 ·obtain ⟨u,u2,rfl,ru,rv⟩:=vals2 r
  obtain rfl:=Ma ec rv;obtain ⟨φ,Z,hφ,hne⟩:=Mg I ru ty;exact AaK Z I.kIn hφ e hne fun tk=>⟨.bl b,H,I.tok _,rfl,q⟩
 ·obtain ⟨u,u2,rfl,ru,rv⟩:=vals2 r
  cases (show u2=Value.ref p from rv);obtain ⟨φ,Z,hφ,hne⟩:=Mg I ru ty;obtain ⟨_,its,rt,o,h1,h2,n,h3⟩:=(show ObjOk X.prog X.w H s.heap p (.tup vs) from I.hok p _ ep);obtain rfl:=Gr ec rt;obtain ⟨oc,odd,oda,osl⟩:=o;dsimp only at h2 h3;subst h2 h3;exact PySem.W.kia_tup Z I.kIn hφ h1 e hne fun tk=>⟨.bl b,H,I.tok _,rfl,q⟩
end
def QD (P:Program) (w:World) (K:W.Frag) (mg:Str->Option Value) (base:Heap) (k:Nat) (x:Str) (ps:List Str) (sp:Sp):Prop:=
 ∃ f fd,mg x=some (.ref f)/\PySem.W.keepIn K (.ref f)=true/\Binds K fd ps []/\FnOk P w K mg base (Qy P w) k f fd ps sp
def Eh (sp:Sp) (R:St->XK) (t:TA):TE:=fun U H Q=>t U H fun vs H1=>sp vs H1 Q (R U)
theorem rK {X:Cx} (h:∀ (e:Value) (s:Shared),X.xe e s=False):pP X (fun _ _ _ _=>False):=fun _ _ _ ⟨_,_,_,_,_,_,_,_,z⟩=>z.elim
section
variable {X:Cx} {k:Nat} {f C:Addr} {fd:FuncData} {ps:List Str} {sp:Sp} {R:St->XK} {x:Str} {p pos:Pos} {e:Expr} {es:List Expr} {t:TA} {pins:List (Addr×Obj)} {U:St} {H:Hp} {s:Shared} {Q:VK} {us:List Value} {vs:List V}
theorem zZ (F:FnOk X.prog X.w X.K X.mg X.base (Qy X.prog X.w) k f fd ps sp) (hr:Room k X.A) (hb:Binds X.K fd ps []) (hx:pP X R) (I:Inv X pins U H s) (r:Vals vs us) (h:sp vs H Q (R U)):
  wpAny (model X.prog X.w) X.A (call (.ref f) us) (EP X pins U Q) X.xe s:=by
 have hl:(us ++ []).length=ps.length:=by rw [AaC,← r.length];exact F.len _ _ _ _ h
 have bd:=hb s us I.kIn hl;rw [AaC] at bd;refine Abz (codeAny_mono (F.run X.A X.stack s H ⟨us,[]⟩ us vs Q (R U) hr I.env0 bd r h) fun rr s' hq=>?_);cases rr with
 | error e=>exact hx pins e s' (Gp I hq)
 | ok fl=>
  cases fl with
  | ret u=>exact I.after hq
  | next=>exact False.elim hq
  | brk=>exact False.elim hq
  | cont=>exact False.elim hq
theorem Mh (F:QD X.prog X.w X.K X.mg X.base k x ps sp) (hr:Room k X.A) (hg:Gl X x) (hx:pP X R) (ha:PA X (e :: es) t) (hdb:(x == ("__debug__":Str))=false)
  (he:starEach (e :: es) X.env=(false,eval e X.env) :: starEach es X.env) (hpl:(backTo pos (starEach es X.env)).any (·.1)=false):PE X (.Call (.Name x p) (e :: es) [] pos) (Eh sp R t):=by
 obtain ⟨f,fd,a,b,c,d⟩:=F;intro pins s U H Q I h;refine Aas (tX I hg a ?_ hdb);refine AbA (h₀:=X.base) I.ok.mod.kin b (fM (ha pos pins s U H _ I h) fun us s1 ⟨vs,H1,I1,r,q⟩=>⟨I1.kIn,?_⟩) he hpl;exact zZ d hr c hx I1 r q
def Mi (K:W.Frag) (ta tv:TE) (f:Str):TS:=fun D U H=>tv U H fun y H1=>ta U H1 fun x H2=>∃ a C,x= .ref a/\XCls K C/\NoAttr K C f/\
 ((H2 a=some (lW a C)/\∀ d,H2 d=none->d≠a->D.nx U (upd (upd H2 a (iY a C d)) d (oR d [(f,y)])))\/
  (∃ d fs,H2 a=some (iY a C d)/\H2 d=some (oR d fs)/\fs.length < 1000/\D.nx U (upd H2 d (oR d (cP f y fs)))))
theorem QF {o value:Expr} {ta tv:TE} {fn:Str} {pos':Pos} (ha:PE X o ta) (hv:PE X value tv) (hs:swapsWith value (some (.Attribute o fn pos')) pos.line X.env=pure false):PS X (.Assign [.Attribute o fn pos'] value pos) (Mi X.K ta tv fn):=by
 intro pins s U H D I h;refine plainObj_wpAny_Assign_Attribute (fM (hv pins s U H _ I h) fun u s1 ⟨y,H1,I1,ry,q⟩=>fM (ha pins s1 U H1 _ I1 q) fun ov s2 qq0=>?_) hs;obtain ⟨x,H2,I2,rx,a,C,ex,c,n,q2⟩:=qq0;subst ex;obtain rfl:ov=Value.ref a:=rx;rcases q2 with ⟨e,q2⟩ | ⟨d,fs,e,e2,hl,q2⟩
 ·exact Yo I2 e c n ry fun s3 d z1 z2 I3=>⟨U,_,I3,q2 d z1 z2⟩
 ·exact Yp I2 e e2 hl c n ry fun s3 I3=>⟨U,_,I3,q2⟩
def z9 (C:Addr) (fl:List Str):Sp:=fun vs H Q E=>∃ x ws,vs= .ref x :: ws/\ws.length=fl.length/\H x=some (lW x C)/\∀ d,H d=none->d≠x->Q .non (upd (upd H x (iY x C d)) d (oR d (fl.zip ws)))
structure Xe (P:Program) (w:World) (K:W.Frag) (mg:Str->Option Value) (base:Heap) (k:Nat) (x:Str) (C:Addr) (fl:List Str):Prop where
 at_:mg x=some (.ref C)
 cl:Sy K C
 kp:PySem.W.keepIn K (.ref C)=true
 na:∀ f∈fl,NoAttr K C f
 run:∃ f fd ps,PySem.W.findIn K (.ref C) "__init__"=some (some (.ref f))/\PySem.W.typeIn K (.ref f)=some (.type "function")/\Binds K fd ps []/\FnOk P w K mg base HD k f fd ps (z9 C fl)
def Ei (C:Addr) (fl:List Str) (R:St->XK) (t:TA):TS:=fun _ U H=>t U H fun vs H1=>vs.length=fl.length/\vs.length<=sizeLine/\∀ x H2,Same H1 H2->VR H2 x C (fl.zip vs)->R U (.ref C) (some x) H2
theorem VV {Q:Value->Shared->Prop} {E:Value->Shared->Prop} {fl:List Str} (M:Xe X.prog X.w X.K X.mg X.base k x C fl) (hr:Room (k+1) X.A) (I:Inv X pins U H s) (r:Vals vs us) (hl:vs.length=fl.length) (hz:vs.length<=sizeLine)
  (q:∀ a d s',H a=none->H d=none->d≠a->Inv X pins U (upd (upd (upd H a (lW a C)) a (iY a C d)) d (oR d (fl.zip vs))) s'->Q (.ref a) s'):wpAny (model X.prog X.w) X.A (call (.ref C) us) Q E s:=by
 obtain ⟨f,fd,ps,hi,hf,hb,F⟩:=M.run;refine VN I.kIn M.cl.cls.xi hi hf (by rw [← r.length];exact hz) ?_;have I1:Inv X pins U H {s with heap:=s.heap.push {cls:=.type "tuple",data:=.seq us.toArray}}:=I.kept (t':=s.toks) fun b o e=>Zz _ e
 have sz1:(s.heap.push {cls:=.type "tuple",data:=.seq us.toArray}).objs.size=s.heap.objs.size+1:=AaI _ _;have hfr:H (s.heap.objs.size+1)=none:=I.hok.fresh (Nat.le_succ _)
 have gx:((s.heap.push {cls:=.type "tuple",data:=.seq us.toArray}).push (iM C none #[.ref s.heap.objs.size,.none,.none,.none,.bool false,.none])).get? (s.heap.objs.size+1)=some (iM C none #[.ref s.heap.objs.size,.none,.none,.none,.bool false,.none]):=by
  rw [← sz1];exact ZP _ rfl
 have I2:Inv X pins U (upd H (s.heap.objs.size+1) (lW (s.heap.objs.size+1) C)) {s with heap:=(s.heap.push {cls:=.type "tuple",data:=.seq us.toArray}).push (iM C none #[.ref s.heap.objs.size,.none,.none,.none,.bool false,.none])}:=
  I1.laid (t':=s.toks) (fun b o e=>Zz _ e) (by show (s.heap.push _).objs.size<=_;rw [sz1];exact ZC _) ⟨⟨_,gx⟩,⟨_,gx⟩,fun h1 h2 ⟨t,z⟩ kk=>⟨t,kk _ z⟩⟩
 have r2:Vals (V.ref (s.heap.objs.size+1) :: vs) (Value.ref (s.heap.objs.size+1) :: us):=.cons rfl r
 have sp0:z9 C fl (V.ref (s.heap.objs.size+1) :: vs) (upd H (s.heap.objs.size+1) (lW (s.heap.objs.size+1) C)) (fun v H2=>v= .non/\∃ d,H d=none/\d≠s.heap.objs.size+1/\H2=upd (upd (upd H (s.heap.objs.size+1) (lW (s.heap.objs.size+1) C)) (s.heap.objs.size+1) (iY (s.heap.objs.size+1) C d)) d (oR d (fl.zip vs))) E0:=
  ⟨_,_,rfl,hl,aj,fun d hd ne=>⟨rfl,d,by rw [aC ne] at hd;exact hd,ne,rfl⟩⟩
 have hl2:((Value.ref (s.heap.objs.size+1) :: us) ++ []).length=ps.length:=by rw [AaC,← r2.length];exact F.len _ _ _ _ sp0
 have bd:=hb _ (Value.ref (s.heap.objs.size+1) :: us) I2.kIn hl2;rw [AaC] at bd;refine Abz (codeAny_mono (F.run _ X.stack _ _ ⟨Value.ref (s.heap.objs.size+1) :: us,[]⟩ (Value.ref (s.heap.objs.size+1) :: us) _ _ E0 (hr.make C us []) (I2.env0.make C us []) bd r2 sp0) fun rr s' hq=>?_);cases rr with
 | error e=>exact False.elim hq
 | ok fl=>
  cases fl with
  | ret u=>
   obtain ⟨v,H',I3,rv,ev,d,hd,ne,eH⟩:=I2.after hq;subst ev;rw [eH] at I3;exact ⟨rv,q _ d s' hfr hd ne I3⟩
  | next=>exact False.elim hq
  | brk=>exact False.elim hq
  | cont=>exact False.elim hq
theorem thrown {env:Env} {C:Addr} {Q:Flow->Shared->Prop} {m:Sem Value} (hc:X.calm=true) (c:Sy X.K C) (hx:pP X R)
  (h:wpAny (model X.prog X.w) X.A m (fun v s1=>∃ x d H1,v= .ref x/\Inv X pins U H1 s1/\H1 x=some (iY x C d)/\R U (.ref C) (some x) (upd H1 x (v7 x C d))) X.xe s):
  wpAny (model X.prog X.w) X.A (raiseStmt env (some m) none) Q X.xe s:=by
 obtain ⟨nm,qn,N,bs,bm,sn,sub,ab,col,dd,k0,k1,k2,k3,k5,lk0,tl⟩:=Eg c.cls.xi;unfold raiseStmt;refine Zu (fM h fun v s1 qq0=>?_);obtain ⟨x,d,H1,ev,I1,e1,r1⟩:=qq0;subst ev;have KI:=I1.kIn;obtain ⟨t,he⟩:=u6 I1.hok e1;have hh:X.A.handled=none:=I1.ok.hd hc
 have hcB:(Value.ref C :: bm).contains (.type "BaseException")=true:=by
  rw [Abf,(tl _ KI).hasType (show Zk.contains (.type "BaseException")=true from by decide)];rfl
 have fin:X.xe (.ref x) s1:=by
  have I2:Inv X pins U (upd H1 x (v7 x C d)) s1:=I1.write (t':=s1.toks) (x:=x) (e:=x) (h':=s1.heap) (by rw [e1];exact True.intro) (.inl rfl) (fun b o _ z=>z) ⟨_,he⟩ (Gn he rfl);exact hx pins _ s1 ⟨x,C,d,U,_,rfl,I2,⟨aj,.inl ⟨_,he,rfl,rfl⟩⟩,r1⟩
 have hD:=KI _ _ lk0;obtain ⟨hp,g,dr,tk,os⟩:=s1;unfold iM at he;repeat (first | with_reducible refine AbK he ?_ | with_reducible refine AbK hD ?_ | (with_reducible refine wpAny_isSubtype_exc hD ?_;rw [hcB]) | wp_step)
 exact wpAny_raiseNew_none hh fin
end
section
variable {X:Cx} {k:Nat} {C:Addr} {R:St->XK} {x:Str} {p cpos pos:Pos} {e:Expr} {es:List Expr} {t:TA} {fl:List Str}
theorem BR {H:Hp} {a d:Addr} {vs:List V} (ha:H a=none) (hd:H d=none) (ne:d≠a):Same H (upd (upd (upd (upd H a (lW a C)) a (iY a C d)) d (oR d (fl.zip vs))) a (v7 a C d))/\
  VR (upd (upd (upd (upd H a (lW a C)) a (iY a C d)) d (oR d (fl.zip vs))) a (v7 a C d)) a C (fl.zip vs):=by
 refine ⟨fun b o h=>?_,d,aj,by rw [aC ne,aj]⟩;have na:b≠a:=fun z=>by rw [z,ha] at h;cases h
 have nd:b≠d:=fun z=>by rw [z,hd] at h;cases h
 rw [aC na,aC nd,aC na,aC na];exact h
theorem Mj (M:Xe X.prog X.w X.K X.mg X.base k x C fl) (hr:Room (k+1) X.A) (hc:X.calm=true) (hg:Gl X x) (hx:pP X R) (ha:PA X (e :: es) t) (hdb:(x == ("__debug__":Str))=false)
  (he:starEach (e :: es) X.env=(false,eval e X.env) :: starEach es X.env) (hpl:(backTo cpos (starEach es X.env)).any (·.1)=false):PS X (.Raise (some (.Call (.Name x p) (e :: es) [] cpos)) none pos) (Ei C fl R t):=by
 intro pins s U H D I h;rw [arm_exec_Raise];refine Zu (AbF (thrown (pins:=pins) (U:=U) (C:=C) hc M.cl hx (Zu (fM (Q:=fun v s1=>∃ x d H1,v= .ref x/\Inv X pins U H1 s1/\H1 x=some (iY x C d)/\R U (.ref C) (some x) (upd H1 x (v7 x C d))) ?_ fun v s3 h3=>Zu (AbF (Zy h3))))));refine Aas (tX I hg M.at_ ?_ hdb);refine AbA (h₀:=X.base) I.ok.mod.kin M.kp (fM (ha cpos pins s U H _ I h) fun us s1 ⟨vs,H1,I1,r,hl,hz,q⟩=>⟨I1.kIn,?_⟩) he hpl;refine VV M hr I1 r hl hz fun a d s2 z1 z2 ne I2=>⟨a,d,_,rfl,I2,?_,?_⟩
 ·rw [aC (Ne.symm ne),aj]
 ·obtain ⟨w1,w2⟩:=BR (C:=C) (fl:=fl) (vs:=vs) z1 z2 ne
  exact q a _ w1 w2
end
def aO (mg:Str->Option Value) (x:Str):Addr:=match mg x with
 | some (.ref a)=>a
 | _=>0
theorem uA {mg:Str->Option Value} {x:Str} {C:Addr} (h:mg x=some (.ref C)):aO mg x=C:=by unfold aO;rw [h]
structure Yq (K:W.Frag) (mg:Str->Option Value) (x:Str):Prop where
 at_:mg x=some (.ref (aO mg x))
 cl:Sy K (aO mg x)
theorem Yr {K:W.Frag} {mg:Str->Option Value} {h:Heap} (X:K.In h) (G:h.Ns mainGlobals mg) {x:Str} {C:Addr} (a:PySem.W.nsIn K mainGlobals x=some (some (.ref C))) (b:Gq K C=true):Yq K mg x:=by
 have m:=AbG X G a;have e:=uA m;exact ⟨by rw [e];exact m,by rw [e];exact LQ b⟩
structure rD (K:W.Frag) (mg:Str->Option Value) (x:Str) (fl:List Str) (qual:Str) (st:Stmt):Prop where
 c:Yq K mg x
 kp:PySem.W.keepIn K (.ref (aO mg x))=true
 na:∀ f∈fl,NoAttr K (aO mg x) f
 ini:∃ f fd,PySem.W.findIn K (.ref (aO mg x)) "__init__"=some (some (.ref f))/\PySem.W.typeIn K (.ref f)=some (.type "function")/\Fun K "__init__" qual st f fd
def Ml (K:W.Frag) (C:Addr) (fl:List Str):Bool:=fl.all fun n=>PySem.W.findIn K (.ref C) n == some none
theorem xR {K:W.Frag} {mg:Str->Option Value} {h:Heap} (X:K.In h) (G:h.Ns mainGlobals mg) {x qual:Str} {C f:Addr} {fl:List Str} {st:Stmt} {oc:Value} {od an:Option Addr} {osl:Array (Option Value)} {kV doc pm cdv ct:Value}
  (a:PySem.W.nsIn K mainGlobals x=some (some (.ref C))) (b:Gq K C=true) (kp:PySem.W.keepIn K (.ref C)=true) (na:Ml K C fl=true)
  (i:PySem.W.findIn K (.ref C) "__init__"=some (some (.ref f))) (t:PySem.W.typeIn K (.ref f)=some (.type "function"))
  (l:K.lookup f=some ⟨oc,od,.func (PySem.W.fnOf "__init__" qual (iz st) (cM st) (az st) .none kV doc pm an cdv ct),osl⟩) (c:PySem.W.codeIn K cdv qual=true) (k:PySem.W.keepIn K (.ref f)=true):rD K mg x fl qual st:=by
 have m:=AbG X G a;have e:=uA m;refine ⟨Yr X G a b,by rw [e];exact kp,fun n hn=>?_,f,_,by rw [e];exact i,t,DK l c k⟩;rw [e];have:=Aa4.mp na n hn;exact Aa3.mp this
section
variable {X:Cx} {K:W.Frag} {k:Nat} {x n fn:Str} {ps:List Str} {sp:Sp} {R:St->XK} {p pos cpos pos':Pos} {e o value:Expr} {es:List Expr} {t:TA} {ta tv:TE} {st:Stmt} {u ts:TS} {th:TH} {hs:List ExceptHandler} {i:Nat}
theorem wI (F:QD X.prog X.w X.K X.mg X.base k x ps sp) (hr:Room k X.A) (hg:Gl X x) (hx:pP X R) (ha:JA X (e :: es) t) (hdb:(x == ("__debug__":Str))=false) (h:autoParam ((e :: es).all notStar=true) L2.auto4._auto_1):
  JE X (.Call (.Name x p) (e :: es) [] pos) (Eh sp R t):=by
 have h1:notStar e=true:=by simp only [AaA,Z4] at h;exact h.1
 have h2:es.all notStar=true:=by simp only [AaA,Z4] at h;exact h.2
 exact ⟨Mh F hr hg hx ha.run hdb (bM h1) (oM h2)⟩
theorem Gs (hK:X.K=K) (ha:JE X o ta) (hv:JE X value tv) (h:autoParam (kJ value=true) L2.auto4._auto_1):JS X (.Assign [.Attribute o fn pos'] value pos) (Mi K ta tv fn):=by
 subst hK;exact ⟨QF ha.run hv.run (zf h)⟩
theorem BV {fl:List Str} (M:Xe X.prog X.w X.K X.mg X.base k x (aO X.mg x) fl) (hr:Room (k+1) X.A) (hc:X.calm=true) (hg:Gl X x) (hx:pP X R) (ha:JA X (e :: es) t) (hdb:(x == ("__debug__":Str))=false) (h:autoParam ((e :: es).all notStar=true) L2.auto4._auto_1):
  JS X (.Raise (some (.Call (.Name x p) (e :: es) [] cpos)) none pos) (Ei (aO X.mg x) fl R t):=by
 have h1:notStar e=true:=by simp only [AaA,Z4] at h;exact h.1
 have h2:es.all notStar=true:=by simp only [AaA,Z4] at h;exact h.2
 exact ⟨Mj M hr hc hg hx ha.run hdb (bM h1) (oM h2)⟩
end
section
variable {P:Program} {w:World} {K:W.Frag} {mg:Str->Option Value} {base:Heap}
theorem Ys {x:Str} {st:Stmt} {N ps:List Str} {k:Nat} {sp:Sp} (D:fO K mg x st) (S:aD N ps (az st))
  (hb:∀ (kV doc pm:Value) (an:Option Addr) (cdv ct:Value) (us:List Value),us.length=ps.length->bindArgs (PySem.W.fnOf x x (iz st) (cM st) (az st) .none kV doc pm an cdv ct) ⟨us,[]⟩=pure (ps.zip us))
  (len:∀ vs H Q E,sp vs H Q E->vs.length=ps.length)
  (hbody:∀ (f:Addr) (cdv:Value) (A:Around) (outer:List Env) (s:Shared) (H:Hp) (vs:List V) (Q:VK) (E:XK),Room k (A.deeper (envOfC x (az st) s.heap.objs.size f cdv))->sp vs H Q E->
   ∃ t,JB (rQ (Qy P w) P w K mg base N x (az st) f cdv A outer s H E) (cM st) t/\t {nx:=fun _ H'=>Q .non H',rt:=Q} (start N vs) H):QD P w K mg base (k+1) x ps sp:=by
 obtain ⟨f,fd,F,hm⟩:=D;refine ⟨f,fd,hm,F.kp,F.binds hb,?_⟩;obtain ⟨oc,od,kV,doc,pm,an,cdv,ct,osl,rfl,lk,hcd⟩:=F.ex;exact Kg lk hcd S len fun A outer s H vs Q E hr h=>let ⟨t,j,q⟩:=hbody f cdv A outer s H vs Q E hr h;⟨t,j.run,q⟩
theorem mkX {x qual:Str} {st:Stmt} {N ps:List Str} {fl:List Str} {k:Nat} (D:rD K mg x fl qual st) (S:aD N ps (az st))
  (hb:∀ (kV doc pm:Value) (an:Option Addr) (cdv ct:Value) (us:List Value),us.length=ps.length->bindArgs (PySem.W.fnOf "__init__" qual (iz st) (cM st) (az st) .none kV doc pm an cdv ct) ⟨us,[]⟩=pure (ps.zip us))
  (hl:ps.length=fl.length+1)
  (hbody:∀ (f:Addr) (cdv:Value) (A:Around) (outer:List Env) (s:Shared) (H:Hp) (vs:List V) (Q:VK) (E:XK),Room k (A.deeper (envOfC qual (az st) s.heap.objs.size f cdv))->z9 (aO mg x) fl vs H Q E->
   ∃ t,JB (rQ HD P w K mg base N qual (az st) f cdv A outer s H E).nox (cM st) t/\t {nx:=fun _ H'=>Q .non H',rt:=Q} (start N vs) H):Xe P w K mg base (k+1) x (aO mg x) fl:=by
 obtain ⟨f,fd,a,b,F⟩:=D.ini;refine ⟨D.c.at_,D.c.cl,D.kp,D.na,f,fd,ps,a,b,F.binds hb,F.ok S (fun vs H Q E h=>?_) fun cdv A outer s H vs Q E hr h=>let ⟨t,j,q⟩:=hbody f cdv A outer s H vs Q E hr h;⟨t,j.run,q⟩⟩;obtain ⟨y,ws,rfl,hw,_⟩:=h;rw [Aap,hw,hl]
end
def initOf:Stmt->Stmt
 | .ClassDef _ _ _ (s :: _) _ _ _ _ _ _ _=>s
 | s=>s
section
variable {U:St} {H:Hp} {D:Ends} {Q:VK} {sp:Sp} {R:St->XK} {a:TA} {K:W.Frag} {C P:Addr} {fl:List Str} {th:TH} {ts:TS} {i:Nat} {ta:TE} {f:Str}
theorem bW (h:a U H fun vs H1=>sp vs H1 Q (R U)):Eh sp R a U H Q:=h
theorem bY (h:a U H fun vs H1=>vs.length=fl.length/\vs.length<=sizeLine/\∀ x H2,Same H1 H2->VR H2 x C (fl.zip vs)->R U (.ref C) (some x) H2):Ei C fl R a D U H:=h
theorem Aa {x:V} {t:Value} {p:Addr} {vs:List V} {cs:List Value} {b:Bool} (ty:TyOf K H x t) (hp:H p=some (.tup vs)) (e:Mf vs=some cs) (o:PySem.W.kitAny K t cs=some b) (h:Q (.bl b) H):SJ K [x,.ref p] H Q:=
 ⟨x,t,b,.inl ty,.inr ⟨p,vs,cs,rfl,hp,e,o⟩,h⟩
theorem rd1 {f1 p0 p1:Str} {vs:List V} {E:XK} (c:XCls K C) (n:NoAttr K C f1) (h:z9 C [f1] vs H Q E):Mi K (rO 0) (rO 1) f1 {nx:=fun _ H'=>Q .non H',rt:=Q} (start [p0,p1] vs) H:=by
 obtain ⟨x,ws,rfl,hw,hx,q⟩:=h
 match ws,hw with
 | [v],_=>exact ⟨v,rfl,.ref x,rfl,x,C,rfl,c,n,.inl ⟨hx,fun d hd ne=>q d hd ne⟩⟩
end
section
variable {X:Cx} {e:Expr} {te:TE} {lo hi:Option Expr} {st:Expr} {tl th ts:TO} {pos p2:Pos}
theorem QG:JE X (.Dict [] [] pos) DQ:=⟨KQ⟩
end
section
variable {U:St} {H:Hp} {Q:VK} {te:TE}
theorem dM (h:∀ p,H p=none->Q (.ref p) (upd H p (.dK []))):DQ U H Q:=h
end
def Yt (K:W.Frag) (neg:Bool):R2:=fun x y H Q=>∃ a b xs,x= .ref a/\y= .ref b/\SqL K H a xs/\SqL K H b xs/\(∀ v∈xs,jz v=true\/∃ r,v= .ref r)/\Q (.bl (!neg)) H
theorem uB {v:V} (f:jz v=true):Gb v v=true:=by
 cases v <;> first | (cases f;done) | rfl | (simp [Gb])
section
variable {X:Cx}
theorem V0 (hu:X.A.units < cLine):OpR X (compareOp .Eq) (Yt X.K false):=by
 intro pins s U H x y v u Q I rx ry h;obtain ⟨a,b,xs,rfl,rfl,ha,hb,fx,q⟩:=h;cases rx;cases ry;obtain ⟨its,r1,p1,z1⟩:=I.list ha;obtain ⟨jts,r2,p2,z2⟩:=I.list hb;have l1:its.toArray.size=xs.length:=by simpa using r1.length.symm
 have l2:jts.toArray.size=xs.length:=by simpa using r2.length.symm
 refine SeqAt.eq_listAt (e:=fun _=>true) p1.isList p2.isList (by rw [l1,l2]) hu (fun j h1 h2=>?_) ?_
 ·have hj:j < xs.length:=by omega
  obtain ⟨u1,e1,q1⟩:=r1.get (Zw hj);obtain ⟨u2,e2,q2⟩:=r2.get (Zw hj)
  have f1:its.toArray[j]=u1:=by
   obtain ⟨_,z⟩:=Zx.mp e1;simpa using z
  have f2:jts.toArray[j]=u2:=by
   obtain ⟨_,z⟩:=Zx.mp e2;simpa using z
  rw [f1,f2];rcases fx _ (Aat hj) with f | ⟨r,f⟩
  ·rw [← uB f]
   exact uZ q1 q2 f f
  ·rw [f] at q1 q2
   cases (show u1=Value.ref r from q1);cases (show u2=Value.ref r from q2);exact Abn _
 ·have e:(List.range its.toArray.size).all (fun _=>true)=true:=by simp
  rw [e];exact ⟨.bl true,H,I,rfl,q⟩
def Mm (K:W.Frag):R2:=fun x y H Q=>Qu K x y H Q\/Yt K false x y H Q
theorem V1 {K:W.Frag} (hK:X.K=K) (hu:X.A.units+64 < cLine):OpR X (compareOp .Eq) (Mm K):=by
 subst hK;exact (Ef rfl hu).or (V0 (AaW (AaX _ _) hu))
end
section
variable {H:Hp} {Q:VK} {K:W.Frag}
theorem cT {i j:Int} (h:Q (.bl (decide (V.int i=V.int j))) H):Mm K (.int i) (.int j) H Q:=.inl (cQ h)
theorem cU {i j:Str} (h:Q (.bl (decide (V.str i=V.str j))) H):Mm K (.str i) (.str j) H Q:=.inl (cR h)
theorem V2 {a b:Addr} {xs:List V} (h1:SqL K H a xs) (h2:SqL K H b xs) (f:∀ v∈xs,jz v=true\/∃ r,v= .ref r) (h:Q (.bl true) H):Mm K (.ref a) (.ref b) H Q:=.inr ⟨a,b,xs,rfl,rfl,h1,h2,f,h⟩
end
end L2
namespace L2
open PySem PySem.Spec PyProof.Rows
open AutoSeq1 (wpAny_loadPart')
theorem Ej:isSubtype (.type "dict") (.type "dict")=pure true:=by rw [isSubtype_type];kernel_rfl
theorem Ii {prog:Program} {w:World} {A:Around} {E:Value->Shared->Prop} {s:Shared} {Q:Value->Shared->Prop} {a:Addr} {o:Obj} {e:DictEntry} {ep:Nat} {k:Key} (ho:s.heap.get? a=some o) (hc:o.cls= .type "dict") (hd:o.data= .dict #[e] ep)
  (hkey:(cH prog w).is k e.key=true) (hh:e.hash=(cH prog w).hash k) (hsm:(a == sysModules)=false) (hu:A.units < cLine) (h:Q (.bool true) s):wpAny (model prog w) A (compareOp .Eq (.ref a) (.ref a)) Q E s:=by
 show wpAny _ _ (richCompare .Eq (.ref a) (.ref a)) _ _ _;refine wpAny_richCompare_same_room ⟨o,ho,hc⟩ ⟨o,ho,hc⟩ F.slot_dict_eq (Abz (Abt F.slot_dict_eq.plain F.entry_dict_eq (F.slot_dict_eq.check _ _ _ _ _ _ _ _ ⟨o,ho,hc⟩ (F.args_dict_eq_2 _ _) ?_))) hu
 have ko:KeysOf (cH prog w) #[e]:=fun x hx=>by
  simp at hx;subst hx;exact ⟨k,hkey,hh⟩
 have f2:=Ej;obtain ⟨hp,g,d,tk,os⟩:=s;have hT:(⟨hp,g,d,tk,os⟩:Shared).TypeIs (.ref a) "dict":=⟨_,ho,hc⟩;unfold Builtin.«dict.__eq__»
 wp_walk using wpAny_loadPart' ho
 have en:∀ (Q:Array DictEntry->Shared->Prop) (E:Value->Shared->Prop),Q #[e] ⟨hp,g,d,tk,os⟩->wpAny (model prog w) A.in1 (dictEntries a) Q E ⟨hp,g,d,tk,os⟩:=fun Q E q=>by
  unfold dictEntries;refine Zu (AaZ ho ?_);simp only [hd];exact Zy q
 have eo:∀ (Q:Nat->Shared->Prop) (E:Value->Shared->Prop),Q ep ⟨hp,g,d,tk,os⟩->wpAny (model prog w) A.in1 (dictEpoch a) Q E ⟨hp,g,d,tk,os⟩:=fun Q E q=>by
  unfold dictEpoch;refine Zu (AaZ ho ?_);simp only [hd];exact Zy q
 simp only [hd];refine Zy ?_;refine Zu (en _ _ ?_);rw [if_neg (by simp)];refine Zu (eo _ _ ?_);refine Zu ?_;rw [Aa7];simp only [Std.Legacy.Range.size,Nat.sub_zero,Nat.add_sub_cancel,Nat.div_one];show wpAny _ _ (forIn [0] _ _) _ _ _;rw [List.forIn_cons];refine Zu (Zu (en _ _ ?_));show wpAny _ _ (holding [e.key,e.val] _ >>=_) _ _ _;refine Zu (Aar ?_);refine Zu (show wpAny (model prog w) A.in1 (dictFind a e.key e.hash) _ _ _ from ?_);rw [hh];refine wpAny_dictFind_of hkey ho hd ko ?_;have fi:(#[e]:Array DictEntry).findIdx? (fun e=>(cH prog w).is k e.key)=some 0:=by simp [hkey]
 rw [fi];refine Zu (en _ _ ?_);show wpAny _ _ (holding [e.val] (eqBool e.val e.val)) _ _ _;refine Aar (Abn e.val prog w _ _ ?_);rw [if_neg (by simp)];refine Zu (eo _ _ ?_);rw [if_neg (by simp)];refine Zy ?_;show wpAny _ _ (forIn [] _ _) _ _ _;rw [List.forIn_nil];refine Zy (Zy ?_);exact Zy ⟨(fun z=>nomatch z),h⟩
def Yu:R2:=fun x y H Q=>(y= .non/\Q (.bl (decide (x= .non))) H)\/∃ a b,x= .bl a/\y= .bl b/\Q (.bl (a == b)) H
section
variable {X:Cx}
theorem Ab:OpR X (compareOp .Is) Yu:=Ux.or (by
 intro pins s U H x y v u Q I rx ry h;obtain ⟨a,b,rfl,rfl,q⟩:=h;cases rx;cases ry;exact is_bool ⟨.bl _,H,I,rfl,q⟩)
def SM (K:W.Frag):R2:=fun x y H Q=>∃ a b xs,x= .ref a/\y= .ref b/\SqT K H a xs/\SqT K H b xs/\(∀ v∈xs,jz v=true\/∃ r,v= .ref r)/\Q (.bl true) H
theorem QH (hu:X.A.units < cLine):OpR X (compareOp .Eq) (SM X.K):=by
 intro pins s U H x y v u Q I rx ry h;obtain ⟨a,b,xs,rfl,rfl,ha,hb,fx,q⟩:=h;cases rx;cases ry;obtain ⟨its,r1,p1,z1⟩:=I.tuple ha;obtain ⟨jts,r2,p2,z2⟩:=I.tuple hb;have l1:its.toArray.size=xs.length:=by simpa using r1.length.symm
 have l2:jts.toArray.size=xs.length:=by simpa using r2.length.symm
 refine SeqAt.eq_tupleAt (e:=fun _=>true) p1 p2 hu (fun j h1 h2=>?_) ?_
 ·have hj:j < xs.length:=by omega
  obtain ⟨u1,e1,q1⟩:=r1.get (Zw hj);obtain ⟨u2,e2,q2⟩:=r2.get (Zw hj)
  have f1:its.toArray[j]=u1:=by
   obtain ⟨_,z⟩:=Zx.mp e1;simpa using z
  have f2:jts.toArray[j]=u2:=by
   obtain ⟨_,z⟩:=Zx.mp e2;simpa using z
  rw [f1,f2];rcases fx _ (Aat hj) with f | ⟨r,f⟩
  ·rw [← uB f]
   exact uZ q1 q2 f f
  ·rw [f] at q1 q2
   cases (show u1=Value.ref r from q1);cases (show u2=Value.ref r from q2);exact Abn _
 ·have e:((List.range (min its.toArray.size jts.toArray.size)).all (fun _=>true) && its.toArray.size == jts.toArray.size)=true:=by rw [l1,l2];simp
  rw [e];exact ⟨.bl true,H,I,rfl,q⟩
def SN:R2:=fun x y H Q=>∃ a k v,x= .ref a/\y= .ref a/\H a=some (.dK [(k,v)])/\Q (.bl true) H
theorem QJ (hu:X.A.units < cLine):OpR X (compareOp .Eq) SN:=by
 intro pins s U H x y v u Q I rx ry h;obtain ⟨a,k,z,rfl,rfl,ha,q⟩:=h;cases rx;cases ry;obtain ⟨_,hsm,vs,kv,o,es,ep,h1,h2,h3,h4,h5,h6⟩:=(show ObjOk X.prog X.w H s.heap a (.dK [(k,z)]) from I.hok a _ ha);cases kv with
 | cons a1 a2=>
  cases a2;obtain ⟨l⟩:=es;dsimp only at h5;cases h5 with
  | @cons en _ _ _ p1 p2 p3=>
   cases p3;obtain ⟨k',b1,b2⟩:=h4 en (by simp);exact Ii (e:=en) h1 h2.1 h3 b1 b2 hsm hu ⟨.bl true,H,I,rfl,q⟩
def V3 (K:W.Frag):R2:=fun x y H Q=>Mm K x y H Q\/SM K x y H Q\/SN x y H Q
theorem iZ {K:W.Frag} (hK:X.K=K) (hu:X.A.units+64 < cLine):OpR X (compareOp .Eq) (V3 K):=by
 subst hK;exact (V1 rfl hu).or ((QH (AaW (AaX _ _) hu)).or (QJ (AaW (AaX _ _) hu)))
end
theorem Mq {sub:List (Option Nat)} {g:TG} {tt:TT} {te:TE} {U:St} {Q:VK} {H:Hp} {K:W.Frag} {a:Addr} {xs:List V} (Pv:Nat->List V->Hp->Prop) (hn:xs.length<=sizeLine) (h0:Pv 0 [] H) (hl:∀ i ys H,Pv i ys H->ys.length<=i)
  (hq:∀ i ys H,Pv i ys H->SqT K H a xs)
  (hs:∀ i ys H x,xs[i]?=some x->Pv i ys H->g x (fu sub U) H fun σ2 H2=>KeepSt (fu sub U) σ2/\tt σ2 H2 fun b H3=>if b=true then te σ2 H3 fun y H4=>Pv (i+1) (ys ++ [y]) H4 else Pv (i+1) ys H3)
  (hd:∀ ys H,Pv xs.length ys H->∀ D,H D=none->Q (.ref D) (upd H D (.lst ys))):rG sub g tt te U Q (R7 K a) H:=
 wD (n:=xs.length) Pv hn h0 hl (fun i ys H hi p=>⟨xs,xs[i],hq i ys H p,Zw hi⟩) (fun ys H p=>⟨xs,hq _ ys H p,ZC _⟩) (fun i ys H x H' hi p y=>by
  obtain ⟨rfl,e2⟩:=y;exact hs i ys _ x (e2 xs (hq i ys _ p)) p) hd
section
variable {H:Hp} {Q:VK} {K:W.Frag}
theorem bZ {U:St} {r r':R2} {ta tb tc:TE} (h:ta U H fun x H1=>tb U H1 fun y H2=>r x y H2 fun z H3=>∃ k,z= .bl k/\if k=true then tc U H3 fun w H4=>r' y w H4 Q else Q (.bl false) H3):Do r r' ta tb tc U H Q:=h
theorem gY {x:V} (h:Q (.bl (decide (x= .non))) H):Yu x .non H Q:=.inl ⟨rfl,h⟩
theorem dN {i j:Int} (h:Q (.bl (decide (V.int i=V.int j))) H):V3 K (.int i) (.int j) H Q:=.inl (cT h)
theorem dO {i j:Str} (h:Q (.bl (decide (V.str i=V.str j))) H):V3 K (.str i) (.str j) H Q:=.inl (cU h)
end
end L2
namespace L2
open PySem PySem.Spec PyProof.Rows PySem.SeqAt
theorem QK (lo hi:Option Int) (n:Nat):Builtin.Str.strSliceIndices lo hi 1 n=(List.range (HT.sIx n n hi - HT.sIx n 0 lo)).map fun k=>HT.sIx n 0 lo+k:=by
 have c:∀ (i:Int) (d:Nat),max 0 (min (if i < 0 then i+(n:Int) else i) (n:Int))=((HT.sIx n d (some i):Nat):Int):=by
  intro i d;rw [← HT.clip_eq]
  split <;> omega
 have key:∀ a b:Nat,(List.range (if (a:Int) < (b:Int) then ((b:Int) - a+1 - 1) / 1 else 0).toNat).map (fun k:Nat=>((a:Int)+1*(k:Int)).toNat)=(List.range (b - a)).map fun k=>a+k:=by
  intro a b;have e3:(if (a:Int) < (b:Int) then ((b:Int) - a+1 - 1) / 1 else 0).toNat=b - a:=by split <;> omega
  rw [e3];refine List.map_congr_left fun k _=>?_
  omega
 unfold Builtin.Str.strSliceIndices sliceRange;simp only [show (1:Int) > 0 by decide,if_true];cases lo with
 | none=>
  cases hi with
  | none=>exact key 0 n
  | some j=>rw [← key,← c j n];rfl
 | some i=>
  cases hi with
  | none=>rw [← key,← c i 0];rfl
  | some j=>rw [← key,← c i 0,← c j n]
theorem SQ {α β:Type} {f:α->Option β} {g:α->β}:∀ (l:List α),(∀ k∈l,f k=some (g k))->l.filterMap f=l.map g
 | [],_=>rfl
 | k :: l,h=>by rw [List.filterMap_cons,h k (by simp),Aaj,SQ l fun j hj=>h j (ZZ _ hj)]
theorem Ij (l:List Nat) (a m:Nat) (h:a+m<=l.length):((List.range m).map fun k=>a+k).filterMap (fun i=>l[i]?)=(l.drop a).take m:=by
 rw [List.filterMap_map,SQ (g:=fun k=>l.getD (a+k) 0)]
 ·refine Abs fun i=>?_
  rw [ZM,List.getElem?_take];by_cases hi:i < m
  ·rw [if_pos hi,Z3 hi,List.getElem?_drop,Zw (by omega)]
   simp [Zw (show a+i < l.length by omega)]
  ·rw [if_neg hi,Aav (by simp;omega)];rfl
 ·intro k hk
  have hk:=ZX.mp hk;show l[a+k]?=_;rw [Zv,Zw (by omega)];rfl
theorem qP (z:Str) (lo hi:Option Int):(Txt.slice z lo hi).cps.toList=(z.cps.toList.drop (HT.sIx z.length 0 lo)).take (HT.sIx z.length z.length hi - HT.sIx z.length 0 lo):=by
 have hn:z.cps.toList.length=z.length:=by simp [Str.length]
 have la:=HT.sIx_le z.length 0 (AaE _) lo;have lb:=HT.sIx_le z.length z.length (ZC _) hi;unfold Txt.slice;rw [QK];generalize HT.sIx z.length 0 lo=a at la ⊢;generalize HT.sIx z.length z.length hi=b at lb ⊢
 split
 ·rename_i h
  simp at h
  have ha:a=0:=by
   rcases Nat.eq_zero_or_pos z.length with h0 | h0
   ·omega
   ·omega
  subst ha;rw [List.drop_zero,Aan (by omega)]
 ·show List.filterMap (fun x=>z.cps[x]?) _=_
  have e:(fun x:Nat=>z.cps[x]?)=fun x=>z.cps.toList[x]?:=by funext x;simp
  rw [e];by_cases h:a<=b
  ·exact Ij _ a (b - a) (by omega)
  ·rw [show b - a=0 by omega];simp
theorem xT (z:Str) (k:Nat):(Txt.slice z none (some (k:Int))).cps.toList=z.cps.toList.take k:=by
 rw [qP,HT.sIx_none,HT.sIx_nat,List.drop_zero,Nat.sub_zero];have hn:z.cps.toList.length=z.length:=by simp [Str.length]
 by_cases h:k<=z.length
 ·rw [Nat.min_eq_left h]
 ·rw [AbR (by omega),Aan (by omega),Aan (by omega)]
theorem BW (z:Str) {i:Int} {k:Nat} (h:i=(k:Int)):(Txt.slice z (some i) none).cps.toList=z.cps.toList.drop k:=by
 subst h;rw [qP,HT.sIx_none,HT.sIx_nat];have hn:z.cps.toList.length=z.length:=by simp [Str.length]
 by_cases h:k<=z.length
 ·rw [Nat.min_eq_left h,Aan (by rw [Aac];omega)]
 ·rw [AbR (by omega),Aaa (by omega),Aaa (by omega)];simp
theorem xU (z:Str) (k:Nat):(Txt.slice z (some (k:Int)) none).cps.toList=z.cps.toList.drop k:=by
 rw [qP,HT.sIx_none,HT.sIx_nat];have hn:z.cps.toList.length=z.length:=by simp [Str.length]
 by_cases h:k<=z.length
 ·rw [Nat.min_eq_left h,Aan (by rw [Aac];omega)]
 ·rw [AbR (by omega),Aaa (by omega),Aaa (by omega)];simp
theorem jA {xs:List V} {H:Hp} {R:Addr->Prop} (c:Nat.ble xs.length 64=true) (h:∀ p,H p=none->R p):xs.length<=sizeLine/\∀ p,H p=none->R p:=
 ⟨ZG (Nat.le_of_ble_eq_true c) (by decide),h⟩
theorem gZ {A B:Prop} (h:A):if (!false)=true then A else B:=(if_pos (show (!false)=true from rfl)).mpr h
theorem ie {A B:Prop} (h:B):if (!true)=true then A else B:=by rw [if_neg (by simp)];exact h
theorem Mr {t u:TS} {D:Ends} {U:St} {H:Hp} (M:St->Hp->Prop) (h1:∀ U H,M U H->u D U H) (h2:∀ N,(∀ U H,M U H->N U H)->t {D with nx:=N} U H):O9 t u D U H:=h2 _ h1
end L2
namespace L2
open PySem PySem.Spec PyProof.Rows PySem.SeqAt
open AutoSeq1 (wpAny_loadPart')
theorem Ek {prog:Program} {w:World} {A:Around} {E:Value->Shared->Prop} {s:Shared} {Q:Value->Shared->Prop} {a:Addr} {o:Obj} {e:DictEntry} {ep:Nat} {k:Key} (ho:s.heap.get? a=some o) (hc:o.cls= .type "dict") (hd:o.data= .dict #[e] ep)
  (hkey:(cH prog w).is k e.key=true) (hh:e.hash=(cH prog w).hash k) (hsm:(a == sysModules)=false) (hu:A.units < cLine) (h:Q (.bool false) s):wpAny (model prog w) A (compareOp .NotEq (.ref a) (.ref a)) Q E s:=by
 show wpAny _ _ (richCompare .NotEq (.ref a) (.ref a)) _ _ _;refine wpAny_richCompare_same_room ⟨o,ho,hc⟩ ⟨o,ho,hc⟩ F.slot_dict_ne (Abz (Abt F.slot_dict_ne.plain F.entry_dict_ne (F.slot_dict_ne.check _ _ _ _ _ _ _ _ ⟨o,ho,hc⟩ (F.args_dict_ne_2 _ _) ?_))) hu
 have ko:KeysOf (cH prog w) #[e]:=fun x hx=>by
  simp at hx;subst hx;exact ⟨k,hkey,hh⟩
 have f2:=Ej;obtain ⟨hp,g,d,tk,os⟩:=s;have hT:(⟨hp,g,d,tk,os⟩:Shared).TypeIs (.ref a) "dict":=⟨_,ho,hc⟩;unfold Builtin.«dict.__ne__»
 wp_walk using wpAny_loadPart' ho
 have en:∀ (Q:Array DictEntry->Shared->Prop) (E:Value->Shared->Prop),Q #[e] ⟨hp,g,d,tk,os⟩->wpAny (model prog w) A.in1 (dictEntries a) Q E ⟨hp,g,d,tk,os⟩:=fun Q E q=>by
  unfold dictEntries;refine Zu (AaZ ho ?_);simp only [hd];exact Zy q
 have eo:∀ (Q:Nat->Shared->Prop) (E:Value->Shared->Prop),Q ep ⟨hp,g,d,tk,os⟩->wpAny (model prog w) A.in1 (dictEpoch a) Q E ⟨hp,g,d,tk,os⟩:=fun Q E q=>by
  unfold dictEpoch;refine Zu (AaZ ho ?_);simp only [hd];exact Zy q
 simp only [hd];refine Zy ?_;refine Zu (en _ _ ?_);rw [if_neg (by simp)];refine Zu (eo _ _ ?_);refine Zu ?_;rw [Aa7];simp only [Std.Legacy.Range.size,Nat.sub_zero,Nat.add_sub_cancel,Nat.div_one];show wpAny _ _ (forIn [0] _ _) _ _ _;rw [List.forIn_cons];refine Zu (Zu (en _ _ ?_));show wpAny _ _ (holding [e.key,e.val] _ >>=_) _ _ _;refine Zu (Aar ?_);refine Zu (show wpAny (model prog w) A.in1 (dictFind a e.key e.hash) _ _ _ from ?_);rw [hh];refine wpAny_dictFind_of hkey ho hd ko ?_;have fi:(#[e]:Array DictEntry).findIdx? (fun e=>(cH prog w).is k e.key)=some 0:=by simp [hkey]
 rw [fi];refine Zu (en _ _ ?_);show wpAny _ _ (holding [e.val] (eqBool e.val e.val)) _ _ _;refine Aar (Abn e.val prog w _ _ ?_);rw [if_neg (by simp)];refine Zu (eo _ _ ?_);rw [if_neg (by simp)];refine Zy ?_;show wpAny _ _ (forIn [] _ _) _ _ _;rw [List.forIn_nil];refine Zy (Zy ?_);exact Zy ⟨(fun z=>nomatch z),h⟩
theorem BX {prog:Program} {w:World} {A:Around} {E:Value->Shared->Prop} {s:Shared} {Q:Value->Shared->Prop} {a:Addr} {o:Obj} {ep:Nat} (ho:s.heap.get? a=some o) (hc:o.cls= .type "dict") (hd:o.data= .dict #[] ep)
  (hsm:(a == sysModules)=false) (hu:A.units < cLine) (h:Q (.bool false) s):wpAny (model prog w) A (compareOp .NotEq (.ref a) (.ref a)) Q E s:=by
 show wpAny _ _ (richCompare .NotEq (.ref a) (.ref a)) _ _ _;refine wpAny_richCompare_same_room ⟨o,ho,hc⟩ ⟨o,ho,hc⟩ F.slot_dict_ne (Abz (Abt F.slot_dict_ne.plain F.entry_dict_ne (F.slot_dict_ne.check _ _ _ _ _ _ _ _ ⟨o,ho,hc⟩ (F.args_dict_ne_2 _ _) ?_))) hu;have f2:=Ej;obtain ⟨hp,g,d,tk,os⟩:=s;have hT:(⟨hp,g,d,tk,os⟩:Shared).TypeIs (.ref a) "dict":=⟨_,ho,hc⟩;unfold Builtin.«dict.__ne__»
 wp_walk using wpAny_loadPart' ho
 have en:∀ (Q:Array DictEntry->Shared->Prop) (E:Value->Shared->Prop),Q #[] ⟨hp,g,d,tk,os⟩->wpAny (model prog w) A.in1 (dictEntries a) Q E ⟨hp,g,d,tk,os⟩:=fun Q E q=>by
  unfold dictEntries;refine Zu (AaZ ho ?_);simp only [hd];exact Zy q
 have eo:∀ (Q:Nat->Shared->Prop) (E:Value->Shared->Prop),Q ep ⟨hp,g,d,tk,os⟩->wpAny (model prog w) A.in1 (dictEpoch a) Q E ⟨hp,g,d,tk,os⟩:=fun Q E q=>by
  unfold dictEpoch;refine Zu (AaZ ho ?_);simp only [hd];exact Zy q
 simp only [hd];refine Zy ?_;refine Zu (en _ _ ?_);rw [if_neg (by simp)];refine Zu (eo _ _ ?_);refine Zu ?_;rw [Aa7];simp only [Std.Legacy.Range.size,Nat.sub_zero,Nat.add_sub_cancel,Nat.div_one];show wpAny _ _ (forIn [] _ _) _ _ _;rw [List.forIn_nil];refine Zy (Zy ?_);exact Zy ⟨(fun z=>nomatch z),h⟩
def SX:R2:=fun x y H Q=>∃ a kvs,x= .ref a/\y= .ref a/\H a=some (.dK kvs)/\kvs.length<=1/\Q (.bl false) H
section
variable {X:Cx}
theorem QL (hu:X.A.units < cLine):OpR X (compareOp .NotEq) SX:=by
 intro pins s U H x y v u Q I rx ry h;obtain ⟨a,kvs,rfl,rfl,ha,hl,q⟩:=h;cases rx;cases ry;obtain ⟨_,hsm,vs,kv,o,es,ep,h1,h2,h3,h4,h5,h6⟩:=(show ObjOk X.prog X.w H s.heap a (.dK kvs) from I.hok a _ ha)
 match kvs,hl with
 | [],_=>
  cases kv;obtain ⟨l⟩:=es;dsimp only at h5;cases h5;exact BX h1 h2.1 h3 hsm hu ⟨.bl false,H,I,rfl,q⟩
 | [(k,z)],_=>
  cases kv with
  | cons a1 a2=>
   cases a2;obtain ⟨l⟩:=es;dsimp only at h5;cases h5 with
   | @cons en _ _ _ p1 p2 p3=>
    cases p3;obtain ⟨k',b1,b2⟩:=h4 en (by simp);exact Ek (e:=en) h1 h2.1 h3 b1 b2 hsm hu ⟨.bl false,H,I,rfl,q⟩
def Yv (K:W.Frag):R2:=fun x y H Q=>VM K x y H Q\/SX x y H Q
theorem V4 {K:W.Frag} (hK:X.K=K) (hu:X.A.units+64 < cLine):OpR X (compareOp .NotEq) (Yv K):=(Lr hK hu).or (QL (AaW (AaX _ _) hu))
end
end L2
namespace L2
open PySem PySem.Spec PyProof.Rows
def Tc:List V->Hp->VK->Prop:=fun xs H Q=>(∃ i j,xs=[.int i,.int j]/\Q (.int (if j > i then j else i)) H)\/∃ (p:Addr) (ns:List Int),xs=[.ref p]/\H p=some (.lst (ns.map V.int))/\ns≠[]/\∀ M,M∈ns->(∀ a∈ns,a<=M)->Q (.int M) H
def Yw:List V->Hp->VK->Prop:=fun xs H Q=>∃ (p:Addr) (ns:List Int),xs=[.ref p]/\H p=some (.lst (ns.map V.int))/\Q (.int ns.sum) H
section
variable {X:Cx}
theorem zm (hc:X.calm=true):CallR X (.builtin "max") Tc:=by
 intro pins s U H xs us Q I r h;rcases h with h | ⟨p,ns,rfl,hp,hne,q⟩
 ·exact Ho hc pins s U H xs us Q I r h
 ·obtain ⟨u,rfl,ru⟩:=vals1 r
  cases ru;obtain ⟨hz,its,n,rv,g⟩:=I.hok p _ hp;have hi:IntsAre its ns:=intsAre_of rv;have hl:=rv.length;obtain ⟨ys,ey⟩:=hi.allInts.items;have hn:=hi.numsOf
  have hsz:0 < ys.size:=by
   have e1:=congrArg Array.size ey;have:0 < ns.length:=List.length_pos_iff.mpr hne;rw [ZJ] at hl;simp [intItems] at e1;omega
  have hL:s.heap.IsList p (intItems ys):=⟨_,g,rfl,n,by rw [← ey]⟩;have en:ys.toList.map (·.1)=ns:=by rw [← nums_intItems,← ey,← hn]
  refine max_intList (I.ok.hd hc) hL hsz fun v h' tk hv hk=>?_
  obtain ⟨t,rfl⟩:=intItems_at hv;obtain ⟨h1,h2⟩:=argBest_gt (numAt ys) (ys.size - 1);refine ⟨.int _,H,I.kept hk,⟨t,rfl⟩,q _ ?_ fun a ha=>?_⟩
  ·rw [← en,numAt_eq];exact getD_mem (by rw [ZJ,ZF];omega)
  ·rw [← en] at ha
   obtain ⟨j,hj,rfl⟩:=mem_getD ha;rw [ZJ,ZF] at hj;rw [← numAt_eq];exact h2 j (by omega)
theorem Ik (hc:X.calm=true):CallR X (.builtin "sum") Yw:=by
 intro pins s U H xs us Q I r h;obtain ⟨p,ns,rfl,hp,q⟩:=h;obtain ⟨u,rfl,ru⟩:=vals1 r;cases ru;obtain ⟨hz,its,n,rv,g⟩:=I.hok p _ hp;have hi:IntsAre its ns:=intsAre_of rv;obtain ⟨ys,ey⟩:=hi.allInts.items;have hL:s.heap.IsList p (intItems ys):=⟨_,g,rfl,n,by rw [← ey]⟩;have en:ys.toList.map (·.1)=ns:=by rw [← nums_intItems,← ey,← hi.numsOf]
 refine sum_intListG (I.ok.hd hc) hL fun h' tk t' hk=>⟨.int ns.sum,H,I.kept hk,⟨t',?_⟩,q⟩
 rw [preSum_eq,Aan (by simp),en]
theorem V5 {i:Nat} {x:Str} {e:Expr} {te:TE} {op:Operator} {r:R2} {pos pos':Pos} (hN:X.N.Nodup) (hi:X.N[i]?=some x) (hx:Loc X.env.scope x) (he:JE X e te) (ho:OpR X (inplaceOp op) r) (hf:X.fn x=true):
  JS X (.AugAssign (.Name x pos') op e pos) (Uq i te r):=⟨Ur hN hi hx he.run ho (.inl hf)⟩
end
section
variable {U:St} {H:Hp} {Q:VK} {D:Ends}
theorem rM {i:Nat} {te:TE} {r:R2} {v:V} (e:U[i]?=some (some v)) (h:te U H fun y H1=>r v y H1 fun z H2=>D.nx (U.set i (some z)) H2):Uq i te r D U H:=⟨v,e,h⟩
theorem jR {i j:Int} (h:Q (.int (if j > i then j else i)) H):Tc [.int i,.int j] H Q:=.inl ⟨i,j,rfl,h⟩
theorem Yx {p:Addr} {ns:List Int} (hp:H p=some (.lst (ns.map V.int))) (h:Q (.int ns.sum) H):Yw [.ref p] H Q:=⟨p,ns,rfl,hp,h⟩
end
def rInD (K:W.Frag):R2:=fun x y H Q=>Ql K x y H Q\/∃ a o,y= .ref a/\DGet H a x o/\Q (.bl o.isSome) H
def p6:Dj:=fun o i v H R=>pN o i v H R\/∃ a H4,o= .ref a/\DPut H a i v H4/\R H4
def xV (n0:List V->Hp->(Int->Int->Nat->Prop)->Prop) (ta:TA):TE:=fun U H Q=>ta U H fun vs H1=>n0 vs H1 fun lo c n=>∀ q,H1 q=none->Q (.ref q) (upd H1 q (.lst ((List.range n).map fun i:Nat=>V.int (lo+(i:Int)*c))))
def Yy:List V->Hp->(Int->Int->Nat->Prop)->Prop:=fun vs _ R=>∃ n:Nat,vs=[.int n]/\n<=1000000/\R 0 1 n
theorem Il {lo c:Int} {n:Nat} {acc:Array Value} (h:ItemsOf (fun i v=>∃ t,v= .int (lo+i*c) t) acc n):Vals ((List.range n).map fun i:Nat=>V.int (lo+(i:Int)*c)) acc.toList:=by
 obtain ⟨h1,h2⟩:=h
 have key:∀ (k:Nat) (a:List Value) (b:Nat),a.length=k->(∀ (j:Nat) (v:Value),a[j]?=some v->∃ t,v= .int (lo+((b+j:Nat):Int)*c) t)->Vals ((List.range' b k).map fun i:Nat=>V.int (lo+(i:Int)*c)) a:=by
  intro k
  induction k with
  | zero=>intro a b hl _;cases a with
   | nil=>exact .nil
   | cons _ _=>simp at hl
  | succ k ih=>
   intro a b hl hh;cases a with
   | nil=>simp at hl
   | cons v a=>
    obtain ⟨t,e⟩:=hh 0 v (by simp);rw [List.range'_succ,Aaj];refine .cons ⟨t,by simpa using e⟩ (ih a (b+1) (by simpa using hl) fun j v' e=>?_);obtain ⟨t,e⟩:=hh (j+1) v' (by simpa using e);exact ⟨t,by rw [e];congr 3;omega⟩
 rw [List.range_eq_range'];refine key n acc.toList 0 (by simpa using h1) fun j v e=>?_
 obtain ⟨t,e⟩:=h2 j v (by simpa using e);exact ⟨t,by rw [e];congr 3;simp⟩
section
variable {X:Cx}
theorem uC {pins:List (Addr×Obj)} {U:St} {H1:Hp} {s1:Shared} {Q:VK} {E:Value->Shared->Prop} {lo hi c:Int} {t u v:Tok} {tk n:Nat} (hc:X.calm=true) (I1:Inv X pins U H1 s1) (hs:Builtin.Range.small lo hi c=true) (hn:Builtin.Range.rangeSize lo hi c=(n:Int)) (hl:n<=1000000)
  (q:∀ q,H1 q=none->Q (.ref q) (upd H1 q (.lst ((List.range n).map fun i:Nat=>V.int (lo+(i:Int)*c))))):
  wpAny (model X.prog X.w) X.A (call (.type "list") [.ref s1.heap.objs.size]) (EP X pins U Q) E {s1 with heap:=s1.heap.push {cls:=.type "range",data:=.fields #[.int lo t,.int hi u,.int c v]},toks:=tk}:=by
 have I2:Inv X pins U H1 {s1 with heap:=s1.heap.push {cls:=.type "range",data:=.fields #[.int lo t,.int hi u,.int c v]},toks:=tk}:=I1.kept fun b o e=>Zz _ e
 refine call_list_range (n:=n) (I1.ok.hd hc) (IsRange.new ..) hs hn (by omega) fun h' tk' acc' c' hk hS hacc=>?_
 have hsl:n<=sizeLine:=ZG hl (by decide);exact ⟨.ref _,_,I2.laid (t':=tk') (o:=.lst ((List.range n).map fun i:Nat=>V.int (lo+(i:Int)*c))) hk (ZC _) ⟨by simpa using hsl,acc'.toList,c',Il hacc,by simpa using hS⟩,rfl,q _ I2.fresh⟩
theorem El {a:Expr} {ta:TA} {p p2 p3 pos:Pos} (hc:X.calm=true) (hg:Gl X "list") (hm:X.mg "list"=none) (hg2:Gl X "range") (hm2:X.mg "range"=none) (ha:JA X [a] ta) (h:autoParam (notStar a=true) L2.auto4._auto_1):
  JE X (.Call (.Name "list" p) [.Call (.Name "range" p2) [a] [] p3] [] pos) (xV Yy ta):=⟨by
 intro pins s U H Q I hq;refine Aas (iI I hg hm kO (Z9 (arg1 rfl (Aas (iI I hg2 hm2 boot_range (Z9 (fM (ha.run p3 pins s U H _ I hq) fun us s1 qq0=>?_) (bM h) rfl)))) rfl rfl));obtain ⟨vs,H1,I1,r1,q1⟩:=qq0;obtain ⟨n,rfl,hn,q⟩:=q1;obtain ⟨u,rfl,t,rfl⟩:=vals1 r1;exact call_range_1 (uC hc I1 (small_one (by omega) (by omega) (by omega) (by omega)) (by rw [rangeSize_one];split <;> omega) hn q)⟩
theorem V6 {K:W.Frag} (hK:X.K=K) (hu:X.A.units+64 < cLine):OpR X (compareOp .In) (rInD K):=(DY hK).or (by
 intro pins s U H x y v u Q I rx ry h;obtain ⟨a,o,rfl,g,q⟩:=h;obtain rfl:u=Value.ref a:=ry;exact d_in (by omega) I g rx fun s3 I3=>⟨.bl o.isSome,H,I3,rfl,q⟩)
theorem lE (hu:X.A.units+64 < cLine):Ph X p6:=by
 intro pins s U H o i v ov iv u Q I ro ri rv h;rcases h with h | ⟨a,H4,rfl,g,q⟩
 ·exact set_list pins s U H o i v ov iv u Q I ro ri rv h
 ·obtain rfl:ov=Value.ref a:=ro
  exact HN (by omega) I g ri rv fun s4 I4=>⟨H4,I4,q⟩
end
section
variable {U:St} {H:Hp} {Q:VK} {K:W.Frag}
theorem j5 {n0:List V->Hp->(Int->Int->Nat->Prop)->Prop} {ta:TA} (h:ta U H fun vs H1=>n0 vs H1 fun lo c n=>∀ q,H1 q=none->Q (.ref q) (upd H1 q (.lst ((List.range n).map fun i:Nat=>V.int (lo+(i:Int)*c))))):xV n0 ta U H Q:=h
theorem QM {n:Nat} {R:Int->Int->Nat->Prop} (hn:n<=1000000) (h:R 0 1 n):Yy [.int n] H R:=⟨n,rfl,hn,h⟩
theorem lH {p:Addr} {xs:List V} {i:Int} {n:Nat} {v:V} {R:Hp->Prop} (hp:H p=some (.lst xs)) (e:Hx xs.length i=some n) (h:R (upd H p (.lst (xs.set n v)))):p6 (.ref p) (.int i) v H R:=.inl (cu hp e h)
end
def Yz (i j:Int):Prop:=0 < j/\j < 1606938044258990275541962092341162602522202993782792835301376
section
variable {X:Cx}
theorem xW:OpR X (binaryOp .FloorDiv) (rI Yz fun i j=>.int (i / j)):=Xn fun i j _ _ _ _ _ hc q=>by
 have h1:(0:Int) < j:=hc.1;have h2:=hc.2;refine floordiv_int (by omega) (by rw [Int.fdiv_eq_ediv_of_nonneg i (by omega)];exact q) (.inl (PyProof.noPylong_of_log2 ?_));have h3:j.natAbs.log2 < 200:=(Nat.log2_lt (by omega)).mpr (by omega);omega
end
end L2
namespace L2
open PySem PySem.Spec PyProof.Rows
open PySem.Sem (wp)
open PySem.AutoSeq1 (wpAny_loadPart')
end L2
namespace L2
open PySem PySem.Spec PyProof.Rows
end L2
namespace L2
open PySem PySem.Spec PyProof.Rows
open PySem.Sem (wp)
open PySem.AutoSeq1 (wpAny_loadPart')
section
variable {prog:Program} {w:World} {A:Around} {E:Value->Shared->Prop} {s:Shared}
theorem v8 {it l:Addr} {i:Nat} {items:Array Value} {x:Value} {Q:Value->Shared->Prop} (hit:s.heap.IsRevIter it l (i:Int)) (hl:s.heap.IsList l items) (hx:items[i]?=some x)
  (hQ:∀ h',h'.IsRevIter it l ((i:Int) - 1)->Heap.SameBut it s.heap h'->Q x {s with heap:=h'}):wpAny (model prog w) A (Builtin.SmallTypes.nextOf (.ref it)) Q E s:=by
 obtain ⟨o,ho,hc,hd⟩:=id hit;obtain ⟨ol,hol,_,nl,hdl⟩:=hl;unfold Builtin.SmallTypes.nextOf
 refine Zu (AaR (name:=Str.ofString "__next__") hit.typeIs F.slot_lri_next
  (Abd F.slot_lri_next hit.typeIs F.entry_lri_next ?_ (F.args_lri_next_1 _)))
 unfold Builtin.«list_reverseiterator.__next__»;refine Zu (wpAny_of_eq (a:=(Value.ref it,[])) rfl ?_);try dsimp only
 refine Zu (AaG ho hd (x:=rawInt (i:Int)) rfl ?_);show wpAny _ _ (if (i:Int) < 0 then _ else _) _ _ s;rw [if_neg (by omega)];show wpAny _ _ (field (.ref it) 0 >>=_) _ _ s;refine Zu (AaG ho hd (x:=.ref l) rfl ?_);show wpAny _ _ (seqItems? (.ref l) >>=_) _ _ s;refine Zu (Aa0 hol hdl ?_);simp only [Int.toNat_natCast,hx];refine Zu (wpAny_setField ho hd (by simp) ?_);first
 | refine Zy ⟨x,rfl,Zy (hQ _ ?_ (Heap.SameBut.update ..))⟩
 | refine Zu (Zy (Zy ⟨x,rfl,Zy (hQ _ ?_ (Heap.SameBut.update ..))⟩))
 exact ⟨_,AaH _ ho (Obj.isFreed_of_fields (Obj.data_mapFields hd _)),(Obj.cls_mapFields ..).trans hc,by
  rw [Obj.data_mapFields hd];simp⟩
theorem p7 {it l:Addr} {Q:Value->Shared->Prop} (hh:A.handled=none) (hit:s.heap.IsRevIter it l (-1))
  (hE:∀ h' e,Heap.ExtBut it s.heap h'->(∃ o,h'.get? e=some o/\o.cls= .type "StopIteration")->E (.ref e) {s with heap:=h'}):wpAny (model prog w) A (Builtin.SmallTypes.nextOf (.ref it)) Q E s:=by
 obtain ⟨o,ho,hc,hd⟩:=id hit;unfold Builtin.SmallTypes.nextOf
 refine Zu (AaR (name:=Str.ofString "__next__") hit.typeIs F.slot_lri_next
  (Abd F.slot_lri_next hit.typeIs F.entry_lri_next ?_ (F.args_lri_next_1 _)))
 unfold Builtin.«list_reverseiterator.__next__»;refine Zu (wpAny_of_eq (a:=(Value.ref it,[])) rfl ?_);try dsimp only
 refine Zu (AaG ho hd (x:=rawInt (-1)) rfl ?_);show wpAny _ _ (if (-1:Int) < 0 then _ else _) _ _ s;rw [if_pos (by decide)];refine Zu (wpAny_rule ?_);first
 | show wpAny _ _ (newExc (.type "StopIteration") [] >>=_) _ _ _
 | (refine Zu ?_;show wpAny _ _ (newExc (.type "StopIteration") [] >>=_) _ _ _)
 refine Zu ?_;simp only [newExc,newTuple];refine Zu (AaU ?_ (by size_fits));refine Zu (m:=firstArgMember _ _) (wpAny_of_eq (a:=Value.none) (by first | rfl | (simp only [firstArgMember];rfl)) ?_);refine AaU ?_ (by size_fits);simp only [raiseNew];refine Zu (wpAny_handled ?_);first | rw [show A.in1.handled=none from hh] | rw [hh]
 refine Zu (Zy (wpAny_throw ?_));exact hE _ _ (((Heap.ExtBut.refl _ _).push _).push _) ⟨_,ZP _ rfl,rfl⟩
end
theorem qd (it l:Addr) (i:Int) (dct:Option Addr) (sl:Array (Option Value)):
  Meets (Builtin.«enumerate.__new__» ⟨[.type "enumerate",.ref it],[]⟩) (fun _ R s=>s.heap.get? it=some {cls:=.type "list_reverseiterator",dict:=dct,data:=.fields #[.ref l,rawInt i],slots:=sl}/\
   R (.ok (.ret (.ref s.heap.objs.size)))
    {s with heap:=s.heap.push {cls:=.type "enumerate",data:=.fields #[.none,.bool false,.ref it,rawInt 0,.none,.none]}}):=
 .of_wp fun prog w A R s h=>by
  obtain ⟨hp,g,d,tk,os⟩:=s;obtain ⟨hl,h⟩:=h;have hsub:=sub_enumerate;have hL:Heap.IsRevIter (Shared.heap ⟨hp,g,d,tk,os⟩) it l i:=⟨_,hl,rfl,rfl⟩
  wp_walk using wpAny_loadPart' hl
  refine wpAny_stack_any fun st=>Zy ?_
  split
  ·rename_i c _ _ _ _ _
   cases (c == Value.type "enumerate")
   ·wp_walk using wpAny_loadPart' hl,AbN hL
    exact ⟨_,rfl,h⟩
   ·wp_walk using wpAny_loadPart' hl,AbN hL
    exact ⟨_,rfl,h⟩
  ·wp_walk using wpAny_loadPart' hl,AbN hL
   exact ⟨_,rfl,h⟩
end L2
namespace L2
open PySem PySem.Spec PyProof.Rows
section
variable {prog:Program} {w:World} {A:Around} {E:Value->Shared->Prop} {s:Shared}
theorem rW {it l:Addr} {i:Int} {Q:Value->Shared->Prop} (hL:s.heap.IsRevIter it l i)
  (h:∀ h',IsEnum h' s.heap.objs.size it 0 .none->(∀ b o,s.heap.get? b=some o->h'.get? b=some o)->Q (.ref s.heap.objs.size) {s with heap:=h'}):
  wpAny (model prog w) A (call (.type "enumerate") [.ref it]) Q E s:=by
 obtain ⟨⟨c,dct,dt,sl⟩,hl,hc,hd⟩:=hL;replace hc:c= .type "list_reverseiterator":=hc;replace hd:dt= .fields #[.ref l,rawInt i]:=hd;subst hc hd
 refine callType_new F.called_enumerate (by decide) (F.typeCall_enumerate_1 _) (F.newCall_enumerate_1 _) (fun obj=>F.args_object_init_2 obj _) F.entry_enumerate_new
  (qd it l i dct sl) ⟨hl,?_⟩
 show _/\_;have he:IsEnum (s.heap.push {cls:=.type "enumerate",data:=.fields #[.none,.bool false,.ref it,rawInt 0,.none,.none]}) s.heap.objs.size it 0 .none:=ZP _ rfl;exact ⟨⟨_,he,rfl⟩,h _ he fun b o x=>Zz _ x⟩
end
theorem Im {prog:Program} {w:World} {A:Around} (hh:A.handled=none) (it l:Addr) (hne:l≠it) (items:Array Value):
  Draws prog w A it [it,l] items.size (fun i v=>items[items.size - 1 - i]?=some v) (fun i h=>i<=items.size/\h.IsRevIter it l ((items.size:Int) - 1 - (i:Int))/\h.IsList l items) where
 live:=fun _ _ st=>let ⟨o,ho,_⟩:=st.2.1;⟨o,ho⟩
 frame:=fun _ _ _ x hk=>⟨x.1,x.2.1.at fun o e=>hk it (by simp) o e,x.2.2.at fun o e=>hk l (by simp) o e⟩
 item:=fun i s Q E hi x hQ=>by
  have e:(items.size:Int) - 1 - (i:Int)=((items.size - 1 - i:Nat):Int):=by omega
  have hit:=x.2.1;rw [e] at hit;have hx:items[items.size - 1 - i]?=some (items[items.size - 1 - i]'(by omega)):=Array.getElem?_eq_getElem (by omega);refine v8 hit x.2.2 hx fun h' hit' hs'=>?_
  have e2:((items.size - 1 - i:Nat):Int) - 1=(items.size:Int) - 1 - ((i+1:Nat):Int):=by omega
  rw [e2] at hit';exact hQ _ h' s.toks hx ⟨hi,hit',x.2.2.at fun o eo=>(hs'.2 l hne).trans eo⟩ hs'
 done:=fun s Q E x hE=>by
  have e:(items.size:Int) - 1 - (items.size:Int)= -1:=by omega
  have hit:=x.2.1;rw [e] at hit;exact p7 hh hit hE
def Io (K:W.Frag) (a:Addr) (n:Nat):It:=
 ⟨fun i H=>i < n/\∃ xs,SqL K H a xs/\xs.length=n,
  fun i H v H'=>∃ T x,H T=none/\v= .ref T/\(∀ xs,SqL K H a xs->xs[n - 1 - i]?=some x)/\H'=upd H T (.tup [.int i,x]),
  fun i _=>i=n⟩
theorem Em {P:Program} {w:World} {K:W.Frag} {elts:List Expr} {k n:Nat} {pos:Pos} {e it a:Addr} (hne:e≠it) (hea:e≠a) (hai:a≠it):
  Turn P w K (.Tuple elts k pos) (Io K a n) [e,it] e (fun i h=>(∃ old,IsEnum h e it i old)/\i<=n/\h.IsRevIter it a ((n:Int) - 1 - (i:Int))) where
 mem:=by simp
 obj:=fun i h st c hc=>by
  obtain ⟨⟨old,he⟩,_,⟨o1,e1,c1,d1⟩⟩:=st;simp only [ZQ,Aaq,or_false] at hc;rcases hc with rfl | rfl
  ·exact ⟨_,he,fun v z=>by cases z⟩
  ·exact ⟨_,e1,fun v z=>by rw [d1] at z;cases z⟩
 keep:=fun i h h' st kk=>by
  obtain ⟨⟨old,he⟩,hi,h1⟩:=st;exact ⟨⟨old,kk e (by simp) _ he⟩,hi,h1.at fun o q=>kk it (by simp) o q⟩
 item:=by
  intro X hP hw hK hc i pins s U H E I hf st hg;subst hP hw hK;obtain ⟨⟨old,he⟩,hi,h1⟩:=st;obtain ⟨hlt,xs,hq,hlen⟩:=hg;obtain ⟨its,rv,p,_⟩:=I.list hq;have l1:=rv.length;have sz:its.toArray.size=n:=by rw [ZS];omega
  obtain ⟨x,hx⟩:∃ x,xs[n - 1 - i]?=some x:=⟨_,Zw (by omega)⟩;obtain ⟨u,hu,ru⟩:=rv.get hx;have h1':s.heap.IsRevIter it a ((its.toArray.size:Int) - 1 - (i:Int)):=by rw [sz];exact h1
  refine wpAny_pyNext_enum_itemD (Im (A:=X.A.in1) (I.ok.hd hc) it a hai its.toArray) he ⟨by omega,h1',p.isList⟩ (by omega) hne (by simp [hne,hea]) fun x' h' tk hx' a1 a2 a3 a4 hk=>?_
  have ex:x'=u:=by
   have h2:its[its.length - 1 - i]?=some x':=by simpa using hx'
   rw [show its.length - 1 - i=n - 1 - i by omega,hu] at h2;exact (Z2 h2).symm
  subst ex;refine ⟨_,rfl,wpAny_letOwnedTupleGo_enum a1 fun h'' a1' sb=>?_⟩;have lt:∀ {c o},s.heap.get? c=some o->s.heap.objs.size≠c:=fun e=>AaY (ZL e)
  have lti:s.heap.objs.size≠it:=by obtain ⟨o,q,_⟩:=h1;exact lt q
  have isT:h''.IsTuple s.heap.objs.size #[.int i tk,x']:=⟨_,sb.extBut _ _ (lt he) a3,rfl,_,rfl⟩
  have kall:∀ b o,b ∉ [e,it]->s.heap.get? b=some o->h''.get? b=some o:=fun b o hb q=>by
   simp only [ZQ,Aaq,or_false,not_or] at hb;exact sb.extBut _ _ hb.1 (hk b o hb.1 hb.2 q)
  have hTn:H s.heap.objs.size=none:=I.hok.fresh (ZC _);refine ⟨.ref s.heap.objs.size,_,I.newtup (tk:=tk+1) hf (ZC _) kall isT (xs:=[.int i,x]) (.cons ⟨_,rfl⟩ (.cons ru .nil)) (by simp;decide),rfl,⟨_,x,hTn,rfl,fun zs hs=>by rw [I.list_inj hs hq];exact hx,rfl⟩,?_,fun b hb=>?_⟩
  ·refine ⟨⟨_,a1'⟩,hlt,?_⟩
   have:=a2.2.1;rw [sz] at this;exact this.at fun o q=>sb.extBut _ _ (Ne.symm hne) q
  ·have:s.heap.objs.size≠b:=by
    simp only [ZQ,Aaq,or_false] at hb;rcases hb with rfl | rfl
    ·exact lt he
    ·exact lti
   rw [aC (Ne.symm this)];exact (hf b hb).1
 done:=by
  intro X hP hw hK hc i pins s U H E I hf st hg;subst hP hw hK;obtain ⟨⟨old,he⟩,hi,h1⟩:=st;have hin:i=n:=hg;subst hin;rw [show (i:Int) - 1 - (i:Int)= -1 by omega] at h1;have ht:s.TypeIs (.ref e) "enumerate":=⟨_,he,rfl⟩;unfold pyNext
  refine Zu (wpAny_attempt (AaR (name:=Str.ofString "__next__") ht F.slot_enumerate_next
   (Abd F.slot_enumerate_next ht F.entry_enumerate_next ?_ (F.args_enumerate_next_1 _))))
  show wpAny _ _ (field (.ref e) 2 >>=_) _ _ _;refine Zu (AaG he rfl (x:=.ref it) rfl ?_);refine Zu (p7 (A:=X.A.in1) (I.ok.hd hc) h1 fun h' x he' hx'=>?_);obtain ⟨o,ho,hc'⟩:=hx';refine Zu (wpAny_isInstance (T:="StopIteration") (b:=true) ⟨o,ho,hc'⟩ isSubtype_stop ?_);refine Zy ⟨rfl,I.only (tk:=s.toks) hf fun b o hb q=>?_⟩;simp only [ZQ,Aaq,or_false,not_or] at hb;exact he' b o hb.2 q
 self:=fun _ _ _ _ _ st h=>let ⟨⟨_,he⟩,_⟩:=st;AbJ he h
def BZ (K:W.Frag) (ta:TE):TI:=fun U H R=>ta U H fun x H1=>∃ l xs,x= .ref l/\SqL K H1 l xs/\R (Io K l xs.length) H1
theorem En {X:Cx} {K:W.Frag} {a:Expr} {ta:TE} {elts:List Expr} {k:Nat} {tp p p2 p3 pos:Pos} (hK:X.K=K) (hg:Gl X "enumerate") (hm:X.mg "enumerate"=none) (hg2:Gl X "reversed") (hm2:X.mg "reversed"=none) (ha:JE X a ta) (h:autoParam (notStar a=true) L2.auto4._auto_1):
  JI X (.Tuple elts k tp) (.Call (.Name "enumerate" p) [.Call (.Name "reversed" p2) [a] [] p3] [] pos) (BZ K ta):=⟨by
 subst hK;intro pins s U H R I hq;refine Call_ (iI I hg hm uq (Z9 (arg1 rfl (Aas (iI I hg2 hm2 vP (Z9 (arg1 h (fM (ha.run pins s U H _ I hq) fun u s1 qq0=>?_)) (bM h) rfl)))) rfl rfl));obtain ⟨x,H1,I1,rx,l,xs,ex,hx,q⟩:=qq0;subst ex;cases rx;obtain ⟨its,rv,ht,hz⟩:=I1.list hx;have hlen:=rv.length;have lt:l < s1.heap.objs.size:=by obtain ⟨o,ho,_⟩:=ht.isList;exact ZL ho
 refine call_reversed_list ht.isList ?_;have e0:(s1.heap.push (PySem.revObj l ((its.toArray.size:Int) - 1))).get? s1.heap.objs.size=some (PySem.revObj l ((its.toArray.size:Int) - 1)):=ZP _ rfl;have s0:(s1.heap.push (PySem.revObj l ((its.toArray.size:Int) - 1))).objs.size=s1.heap.objs.size+1:=AaI ..;have k0:∀ b o,s1.heap.get? b=some o->(s1.heap.push (PySem.revObj l ((its.toArray.size:Int) - 1))).get? b=some o:=fun b o q=>Zz _ q
 refine rW (it:=s1.heap.objs.size) (l:=l) (i:=(its.toArray.size:Int) - 1) ⟨_,e0,rfl,rfl⟩ fun h' z1 hk=>?_
 have z1':IsEnum h' (s1.heap.objs.size+1) s1.heap.objs.size 0 .none:=by rw [← s0];exact z1
 have z2:h'.IsRevIter s1.heap.objs.size l ((xs.length:Int) - 1 - ((0:Nat):Int)):=⟨_,hk _ _ e0,rfl,by
  show Data.fields #[.ref l,rawInt ((its.toArray.size:Int) - 1)]=_;rw [show ((its.toArray.size:Int) - 1)=(xs.length:Int) - 1 - ((0:Nat):Int) by rw [ZS];omega]⟩
 have J1:Inv X pins U H1 {s1 with heap:=h'}:=I1.kept (t':=s1.toks) fun b o q=>hk b o (k0 b o q)
 rw [s0];refine AbJ z1' ?_;have key2:∀ n l:Nat,l < n->n+1≠l/\l≠n:=fun n l h=>⟨by omega,by omega⟩
 refine ⟨s1.heap.objs.size+1,_,_,_,H1,rfl,J1,Em (n:=xs.length) (Nat.succ_ne_self _) (key2 _ _ lt).1 (key2 _ _ lt).2,⟨⟨_,z1'⟩,AaE _,z2⟩,fun b hb=>?_,q⟩
 have hb':s1.heap.objs.size<=b:=by
  simp only [ZQ,Aaq,or_false] at hb;have key:∀ n c:Nat,(c=n+1\/c=n)->n<=c:=fun n c h=>by omega
  exact key _ _ hb
 exact I1.fpOk hb' (I1.hok.fresh hb')⟩
section
variable {K:W.Frag} {U:St} {H:Hp}
theorem lO {ta:TE} {R:It->Hp->Prop} (h:ta U H fun x H1=>∃ l xs,x= .ref l/\SqL K H1 l xs/\R (Io K l xs.length) H1):BZ K ta U H R:=h
theorem Ip {a:Addr} {xs:List V} {g:TG} {tb:TS} {D:Ends} (Pv:Nat->St->Hp->Prop) (h0:Pv 0 U H) (hq:∀ i U H,i<=xs.length->Pv i U H->SqL K H a xs)
  (hs:∀ i U H T x,i < xs.length->xs[xs.length - 1 - i]?=some x->Pv i U H->H T=none->g (.ref T) U (upd H T (.tup [.int i,x])) fun σ2 H2=>tb {D with nx:=Pv (i+1),ct:=Pv (i+1),bk:=D.nx} σ2 H2) (hd:∀ U H,Pv xs.length U H->D.nx U H):
  ∃ W:Nat->Nat->St->Hp->Prop,(∃ m,W 0 m U H)/\∀ i m U H,W i m U H->
   ((Io K a xs.length).stop i H/\D.nx U H)\/((Io K a xs.length).go i H/\∃ N:St->Hp->Prop,(∀ U' H',N U' H'->∃ m',m' < m/\W (i+1) m' U' H')/\∀ x H',(Io K a xs.length).yld i H x H'->g x U H' fun σ2 H2=>tb {D with nx:=N,ct:=N,bk:=D.nx} σ2 H2):=by
 refine ⟨fun i m U H=>m=xs.length - i/\i<=xs.length/\Pv i U H,⟨xs.length,by simp,AaE _,h0⟩,?_⟩;rintro i m U H ⟨rfl,hi,p⟩;have q1:=hq i U H hi p;by_cases hlt:i < xs.length
 ·refine .inr ⟨⟨hlt,xs,q1,rfl⟩,Pv (i+1),fun U' H' p'=>⟨xs.length - (i+1),by omega,rfl,hlt,p'⟩,fun x H' y=>?_⟩
  obtain ⟨T,u,hT,e1,e2,e4⟩:=y;subst e1 e4;exact hs i U H T u hlt (e2 xs q1) p hT
 ·have e:i=xs.length:=by omega
  subst e;exact .inl ⟨rfl,hd U H p⟩
end
end L2
namespace L2
open PySem PySem.Spec PyProof.Rows
open PySem.Sem (wp)
end L2
namespace L2
open PySem PySem.Spec PyProof.Rows
end L2
namespace L2
open PySem PySem.Spec PyProof.Rows
open PySem.Sem (wp)
structure xX (z TI TO i1 i2:Addr) (fp1 fp2:List Addr):Prop where
 TIz:TI≠z
 TOz:TO≠z
 i1z:i1≠z
 i2z:i2≠z
 TITO:TI≠TO
 TIi1:TI≠i1
 TIi2:TI≠i2
 TOi1:TO≠i1
 TOi2:TO≠i2
 i12:i1≠i2
 f1:∀ b∈fp1,b≠z/\b≠TO/\b≠i2
 f2:∀ b∈fp2,b≠z/\b≠TO/\b≠i1
section
variable {prog:Program} {w:World} {A:Around} {E:Value->Shared->Prop} {s:Shared} {z TI TO i1 i2:Addr} {fp1 fp2:List Addr} {n1 n2 k1 k2:Nat} {P1 P2:Nat->Value->Prop} {St1 St2:Nat->Heap->Prop} {a b:Value}
theorem Ir {Q:Value->Shared->Prop} (D1:Draws prog w A i1 fp1 n1 P1 St1) (D2:Draws prog w A i2 fp2 n2 P2 St2) (D:xX z TI TO i1 i2 fp1 fp2)
  (hz:IsZip s.heap z TI TO .none) (hTI:IsPair s.heap TI (.ref i1) (.ref i2)) (hTO:IsPair s.heap TO a b) (s1:St1 k1 s.heap) (s2:St2 k2 s.heap) (l1:k1 < n1) (l2:k2 < n2)
  (hQ:∀ x y h' tk,P1 k1 x->P2 k2 y->IsZip h' z TI TO (rawInt s.heap.objs.size)->IsPair h' TO x y->St1 (k1+1) h'->St2 (k2+1) h'->IsPair h' s.heap.objs.size x y->
   (∀ c o,c≠z->c≠TO->c≠i1->c≠i2->s.heap.get? c=some o->h'.get? c=some o)->Q (.ref s.heap.objs.size) {s with heap:=h',toks:=tk}):
  wpAny (model prog w) A (Builtin.«zip.__next__» ⟨[.ref z],[]⟩) (fun fin s'=>∃ v,fin= .done (.ret v)/\Q v s') E s:=by
 have sb:∀ {x:Addr} {h h':Heap},Heap.SameBut x h h'->∀ c o,c≠x->h.get? c=some o->h'.get? c=some o:=fun g c o n e=>g.extBut _ _ n e
 show wpAny _ _ (field (.ref z) 2 >>=_) _ _ _;refine Zu (AaG hz rfl (x:=.bool false) rfl ?_);show wpAny _ _ (field (.ref z) 3 >>=_) _ _ _;refine Zu (AaG hz rfl (x:=.ref TI) rfl (Zu (Aa0 hTI rfl ?_)));show wpAny _ _ (Builtin.SmallTypes.ownedTupleIsFree (.ref z) >>=_) _ _ _;unfold Builtin.SmallTypes.ownedTupleIsFree;refine Zu (Zu (AaG hz rfl (x:=.none) rfl (Zy ?_)));simp only [if_true];refine Zu (wpAny_rule (Zu (AaG hz rfl (x:=.ref TO) rfl ?_)));refine Zu (AbB hz (by simp) fun g1 y1 e1=>?_);replace y1:IsZip g1 z TI TO .ellipsis:=y1;refine Zu ?_;simp only [List.zipIdx_cons,List.zipIdx_nil,List.forIn_cons,List.forIn_nil];refine Zu (Zu (wpAny_onRaise ?_));show wpAny _ _ (Builtin.SmallTypes.nextOf (.ref i1) >>=_) _ _ _;have t1:St1 k1 g1:=D1.frame _ _ _ s1 fun c hc o e=>sb e1 c o (D.f1 c hc).1 e
 have t2:St2 k2 g1:=D2.frame _ _ _ s2 fun c hc o e=>sb e1 c o (D.f2 c hc).1 e
 refine Zu (D1.item k1 _ _ _ l1 t1 fun x g2 tk px u1 e2=>Zy ?_);have p2:IsPair g2 TO a b:=sb e2 _ _ D.TOi1 (sb e1 _ _ D.TOz hTO);refine Zu (Aa0 p2 rfl (Zu (wpAny_updateSeq_pair p2 fun g3 p3 e3=>?_)));replace p3:IsPair g3 TO x b:=p3;refine Zu (wpAny_letGo (Zy ?_));refine Zu (Zu (wpAny_onRaise ?_));show wpAny _ _ (Builtin.SmallTypes.nextOf (.ref i2) >>=_) _ _ _;have t3:St2 k2 g3:=D2.frame _ _ _ t2 fun c hc o e=>sb e3 c o (D.f2 c hc).2.1 (sb e2 c o (D.f2 c hc).2.2 e)
 refine Zu (D2.item k2 _ _ _ l2 t3 fun y g4 tk2 py u2 e4=>Zy ?_);have p4:IsPair g4 TO x b:=sb e4 _ _ D.TOi2 p3;refine Zu (Aa0 p4 rfl (Zu (wpAny_updateSeq_pair p4 fun g5 p5 e5=>?_)));replace p5:IsPair g5 TO x y:=p5;refine Zu (wpAny_letGo (Zy (Zy ?_)));refine Zu (Aa0 p5 rfl (Zu (wpAny_newTuple ?_)));have sz:g5.objs.size=s.heap.objs.size:=by rw [e5.1,e4.1,e3.1,e2.1,e1.1]
 have z5:IsZip g5 z TI TO .ellipsis:=sb e5 _ _ D.TOz.symm (sb e4 _ _ D.i2z.symm (sb e3 _ _ D.TOz.symm (sb e2 _ _ D.i1z.symm y1)))
 have k5:∀ c o,c≠z->c≠TO->c≠i1->c≠i2->s.heap.get? c=some o->g5.get? c=some o:=fun c o c1 c2 c3 c4 e=>
  sb e5 _ _ c2 (sb e4 _ _ c4 (sb e3 _ _ c2 (sb e2 _ _ c3 (sb e1 _ _ c1 e))))
 have v1:St1 (k1+1) g5:=D1.frame _ _ _ u1 fun c hc o e=>sb e5 c o (D.f1 c hc).2.1 (sb e4 c o (D.f1 c hc).2.2 (sb e3 c o (D.f1 c hc).2.1 e))
 have v2:St2 (k2+1) g5:=D2.frame _ _ _ u2 fun c hc o e=>sb e5 c o (D.f2 c hc).2.1 e
 have zlt:z < g5.objs.size:=ZL z5;show wpAny _ _ (Builtin.SmallTypes.ownedTupleHandOut (.ref z) (.ref g5.objs.size) >>=_) _ _ _;unfold Builtin.SmallTypes.ownedTupleHandOut;have z6:IsZip (g5.push {cls:=.type "tuple",data:=.seq #[x,y]}) z TI TO .ellipsis:=Zz _ z5;refine Zu (Zu (AbB z6 (by simp) fun g7 z7 e7=>?_));replace z7:IsZip g7 z TI TO (rawInt g5.objs.size):=z7;refine AbB z7 (by simp) fun g8 z8 e8=>?_
 replace z8:IsZip g8 z TI TO (rawInt g5.objs.size):=z8;have up:∀ c o,c≠z->g5.get? c=some o->g8.get? c=some o:=fun c o c1 e=>sb e8 _ _ c1 (sb e7 _ _ c1 (Zz _ e))
 have pT:IsPair g8 g5.objs.size x y:=sb e8 _ _ (AaY zlt) (sb e7 _ _ (AaY zlt) (ZP _ rfl));rw [sz] at z8 pT;refine Zy ⟨_,rfl,?_⟩;show Q (.ref g5.objs.size) _;rw [sz];exact hQ x y g8 _ px py z8 (up _ _ D.TOz p5) (D1.frame _ _ _ v1 fun c hc o e=>up c o (D.f1 c hc).1 e) (D2.frame _ _ _ v2 fun c hc o e=>up c o (D.f2 c hc).1 e) pT fun c o c1 c2 c3 c4 e=>up c o c1 (k5 c o c1 c2 c3 c4 e)
theorem Ms {Q:Fin->Shared->Prop} (D1:Draws prog w A i1 fp1 n1 P1 St1) (D:xX z TI TO i1 i2 fp1 fp2)
  (hz:IsZip s.heap z TI TO .none) (hTI:IsPair s.heap TI (.ref i1) (.ref i2)) (s1:St1 n1 s.heap)
  (hE:∀ h' e,(∀ c o,c≠z->c≠i1->s.heap.get? c=some o->h'.get? c=some o)->(∃ o,h'.get? e=some o/\o.cls= .type "StopIteration")->E (.ref e) {s with heap:=h'}):
  wpAny (model prog w) A (Builtin.«zip.__next__» ⟨[.ref z],[]⟩) Q E s:=by
 have sb:∀ {x:Addr} {h h':Heap},Heap.SameBut x h h'->∀ c o,c≠x->h.get? c=some o->h'.get? c=some o:=fun g c o n e=>g.extBut _ _ n e
 show wpAny _ _ (field (.ref z) 2 >>=_) _ _ _;refine Zu (AaG hz rfl (x:=.bool false) rfl ?_);show wpAny _ _ (field (.ref z) 3 >>=_) _ _ _;refine Zu (AaG hz rfl (x:=.ref TI) rfl (Zu (Aa0 hTI rfl ?_)));show wpAny _ _ (Builtin.SmallTypes.ownedTupleIsFree (.ref z) >>=_) _ _ _;unfold Builtin.SmallTypes.ownedTupleIsFree;refine Zu (Zu (AaG hz rfl (x:=.none) rfl (Zy ?_)));simp only [if_true];refine Zu (wpAny_rule (Zu (AaG hz rfl (x:=.ref TO) rfl ?_)));refine Zu (AbB hz (by simp) fun g1 y1 e1=>?_);replace y1:IsZip g1 z TI TO .ellipsis:=y1;refine Zu ?_;simp only [List.zipIdx_cons,List.zipIdx_nil,List.forIn_cons,List.forIn_nil];refine Zu (Zu (wpAny_onRaise ?_));show wpAny _ _ (Builtin.SmallTypes.nextOf (.ref i1) >>=_) _ _ _;have t1:St1 n1 g1:=D1.frame _ _ _ s1 fun c hc o e=>sb e1 c o (D.f1 c hc).1 e
 refine Zu (D1.done _ _ _ t1 fun g2 e e2 he=>?_);obtain ⟨oe,hoe,hce⟩:=he;have y2:IsZip g2 z TI TO .ellipsis:=e2 _ _ D.i1z.symm y1;have hez:e≠z:=fun x=>by subst x;rw [y2] at hoe;cases hoe;simp at hce
 exact AbB y2 (by simp) fun g3 _ e3=>hE g3 e (fun c o c1 c3 x=>sb e3 _ _ c1 (e2 _ _ c3 (sb e1 _ _ c1 x))) ⟨oe,sb e3 _ _ hez hoe,hce⟩
end
abbrev Zm (h:Heap) (x:Str) (t:Tok):Heap:=h.push {cls:=.type (strIterType x),data:=.fields #[.str x t,.int 0 0]}
abbrev Zn (h:Heap) (x:Str) (t:Tok) (l:Addr):Heap:=(Zm h x t).push {cls:=.type "list_iterator",data:=.fields #[.ref l,.int 0 0]}
abbrev Zo (h:Heap) (x:Str) (t:Tok) (l:Addr):Heap:=(Zn h x t l).push {cls:=.type "tuple",data:=.seq #[.ref h.objs.size,.ref (Zm h x t).objs.size]}
abbrev Zq (h:Heap) (x:Str) (t:Tok) (l:Addr):Heap:=(Zo h x t l).push {cls:=.type "tuple",data:=.seq #[.none,.none]}
abbrev Xf (h:Heap) (x:Str) (t:Tok) (l:Addr):Heap:=(Zq h x t l).push {cls:=.type "zip",data:=.fields #[.none,.bool false,.bool false,.ref (Zn h x t l).objs.size,.ref (Zo h x t l).objs.size]}
theorem v9 (x:Str) (t:Tok) (l2:Addr) (ys:Array Value):
  Meets (Builtin.«zip.__new__» ⟨[.type "zip",.str x t,.ref l2],[]⟩) (fun _ R s=>s.heap.IsList l2 ys/\R (.ok (.ret (.ref (Zq s.heap x t l2).objs.size))) {s with heap:=Xf s.heap x t l2}):=
 .of_wp fun prog w A R s h=>by
  obtain ⟨hp,g,d,tk,os⟩:=s;obtain ⟨hl2,h⟩:=h;have hsub:=sub_zip;have hL2:Heap.IsList (Shared.heap ⟨hp.push {cls:=.type (strIterType x),data:=.fields #[.str x t,.int 0 0]},g,d,tk,os⟩) l2 ys:=Heap.IsList.push hl2 _
  wp_walk using wpAny_pyIter_strU,wpAny_pyIter_list hL2
  exact ⟨_,rfl,h⟩
theorem Eo {prog:Program} {w:World} {A:Around} {E:Value->Shared->Prop} {s:Shared} {x:Str} {t:Tok} {l:Addr} {ys:Array Value} {Q:Value->Shared->Prop} (hl:s.heap.IsList l ys)
  (h:∀ h',IsZip h' (s.heap.objs.size+4) (s.heap.objs.size+2) (s.heap.objs.size+3) .none->IsPair h' (s.heap.objs.size+2) (.ref s.heap.objs.size) (.ref (s.heap.objs.size+1))->
   IsPair h' (s.heap.objs.size+3) .none .none->h'.IsStrIter s.heap.objs.size (strIterType x) x t 0->h'.IsListIter (s.heap.objs.size+1) l 0->
   (∀ c o,s.heap.get? c=some o->h'.get? c=some o)->Q (.ref (s.heap.objs.size+4)) {s with heap:=h'}):
  wpAny (model prog w) A (call (.type "zip") [.str x t,.ref l]) Q E s:=by
 refine callType_new F.called_zip (by decide) (F.typeCall_zip_2 _ _) (F.newCall_zip_2 _ _) (fun obj=>F.args_object_init_3 obj _ _) F.entry_zip_new (v9 x t l ys) ⟨hl,?_⟩;have a1:(Zm s.heap x t).objs.size=s.heap.objs.size+1:=AaI ..;have a2:(Zn s.heap x t l).objs.size=s.heap.objs.size+2:=by rw [AaI,a1]
 have a3:(Zo s.heap x t l).objs.size=s.heap.objs.size+3:=by rw [AaI,a2]
 have a4:(Zq s.heap x t l).objs.size=s.heap.objs.size+4:=by rw [AaI,a3]
 have pu:∀ {g:Heap} {o u:Obj} {c:Addr},g.get? c=some u->(g.push o).get? c=some u:=fun e=>Zz _ e
 have g5:(Xf s.heap x t l).get? (Zq s.heap x t l).objs.size=some _:=ZP _ rfl;have g4:(Xf s.heap x t l).get? (Zo s.heap x t l).objs.size=some _:=pu (ZP _ rfl);have g3:(Xf s.heap x t l).get? (Zn s.heap x t l).objs.size=some _:=pu (pu (ZP _ rfl));have g2:(Xf s.heap x t l).get? (Zm s.heap x t).objs.size=some _:=pu (pu (pu (ZP _ rfl)));have g1:(Xf s.heap x t l).get? s.heap.objs.size=some _:=pu (pu (pu (pu (ZP _ rfl))));show _/\_;rw [a2,a3,a4] at g5;rw [a1,a2] at g3;rw [a3] at g4;rw [a1] at g2;rw [a4];exact ⟨⟨_,g5,rfl⟩,h _ g5 g3 g4 ⟨_,g1,rfl,rfl⟩ ⟨_,g2,rfl,rfl⟩ fun c o e=>pu (pu (pu (pu (pu e))))⟩
def Iu (K:W.Frag) (x:Str) (b:Addr):It:=
 ⟨fun i H=>i < x.cps.size/\∃ ys y,SqL K H b ys/\ys[i]?=some y,
  fun i H v H'=>∃ T y,H T=none/\v= .ref T/\(∀ ys,SqL K H b ys->ys[i]?=some y)/\H'=upd H T (.tup [.str ⟨#[x.cps.getD i 0]⟩,y]),
  fun i _=>i=x.cps.size⟩
theorem xY {P:Program} {w:World} {K:W.Frag} {elts:List Expr} {k:Nat} {pos:Pos} {z TI TO i1 i2 b:Addr} {x:Str} {t:Tok} {ty:String} (D:xX z TI TO i1 i2 [i1] [i2,b]) (hb2:b≠i2)
  (Dr:∀ A:Around,A.handled=none->Draws P w A i1 [i1] x.cps.size (fun i v=>∃ c u,x.cps[i]?=some c/\v= .str ⟨#[c]⟩ u) (fun i h=>h.IsStrIter i1 ty x t i)):
  Turn P w K (.Tuple elts k pos) (Iu K x b) [z,TI,TO,i1,i2] z (fun i h=>IsZip h z TI TO .none/\IsPair h TI (.ref i1) (.ref i2)/\(∃ c d,IsPair h TO c d)/\h.IsStrIter i1 ty x t i/\h.IsListIter i2 b i) where
 mem:=by simp
 obj:=fun i h st c hc=>by
  obtain ⟨hz,hTI,⟨_,_,hTO⟩,⟨o1,e1,_,d1⟩,⟨o2,e2,_,d2⟩⟩:=st;simp only [ZQ,Aaq,or_false] at hc;rcases hc with rfl | rfl | rfl | rfl | rfl
  ·exact ⟨_,hz,nofun⟩
  ·exact ⟨_,hTI,nofun⟩
  ·exact ⟨_,hTO,nofun⟩
  ·exact ⟨_,e1,fun v z=>by rw [d1] at z;cases z⟩
  ·exact ⟨_,e2,fun v z=>by rw [d2] at z;cases z⟩
 keep:=fun i h h' st kk=>by
  obtain ⟨hz,hTI,⟨_,_,hTO⟩,⟨o1,e1,r1⟩,h2⟩:=st;exact ⟨kk z (by simp) _ hz,kk TI (by simp) _ hTI,⟨_,_,kk TO (by simp) _ hTO⟩,⟨o1,kk i1 (by simp) _ e1,r1⟩,h2.at fun o e=>kk i2 (by simp) o e⟩
 item:=by
  intro X hP hw hK hc i pins s U H E I hf st hg;subst hP hw hK;obtain ⟨hz,hTI,⟨c,d,hTO⟩,h1,h2⟩:=st;obtain ⟨hlt,ys,y,hq,hy⟩:=hg;obtain ⟨its,rv,p,_⟩:=I.list hq;obtain ⟨u,hu,ru⟩:=rv.get hy
  have hlt2:i < its.toArray.size:=by
   have:=(Zx.mp hu).1;simpa using this
  have hT:s.TypeIs (.ref z) "zip":=⟨_,hz,rfl⟩;have hh:X.A.in1.handled=none:=I.ok.hd hc;unfold pyNext
  refine Zu (wpAny_attempt (AaR (name:=Str.ofString "__next__") hT F.slot_zip_next (Abd F.slot_zip_next hT F.entry_zip_next
   (Ir (Dr X.A.in1 hh) (Draws.list hh i2 b hb2 its.toArray) D hz hTI hTO h1 ⟨h2,p.isList⟩ hlt hlt2 fun a1 a2 h' tk px py b1 b2 b3 b4 b5 hk=>Zy ?_) (F.args_zip_next_1 _))))
  obtain ⟨ch,tu,hch,rfl⟩:=px
  have eu:a2=u:=by
   have h2:its[i]?=some a2:=by simpa using py
   rw [hu] at h2;exact (Z2 h2).symm
  subst eu;refine ⟨_,rfl,wpAny_letOwnedTupleGo_zip b1 fun h'' b1' sb=>?_⟩;have lt:∀ {c o},s.heap.get? c=some o->s.heap.objs.size≠c:=fun e=>AaY (ZL e)
  have isT:h''.IsTuple s.heap.objs.size #[.str ⟨#[ch]⟩ tu,a2]:=⟨_,sb.extBut _ _ (lt hz) b5,rfl,_,rfl⟩
  have kall:∀ b o,b ∉ [z,TI,TO,i1,i2]->s.heap.get? b=some o->h''.get? b=some o:=fun b o hb e=>by
   simp only [ZQ,Aaq,or_false,not_or] at hb;exact sb.extBut _ _ hb.1 (hk b o hb.1 hb.2.2.1 hb.2.2.2.1 hb.2.2.2.2 e)
  have hTn:H s.heap.objs.size=none:=I.hok.fresh (ZC _);have ech:x.cps.getD i 0=ch:=by simp [Array.getD_eq_getD_getElem?,hch]
  refine ⟨.ref s.heap.objs.size,_,I.newtup (tk:=tk) hf (ZC _) kall isT (xs:=[.str ⟨#[x.cps.getD i 0]⟩,y]) (.cons ⟨tu,by rw [ech]⟩ (.cons ru .nil)) (by simp;decide),rfl,⟨_,y,hTn,rfl,fun zs hs=>by rw [I.list_inj hs hq];exact hy,rfl⟩,?_,fun b hb=>?_⟩
  ·obtain ⟨o1,e1,r1⟩:=b3
   exact ⟨b1',sb.extBut _ _ D.TIz (hk _ _ D.TIz D.TITO D.TIi1 D.TIi2 hTI),⟨_,_,sb.extBut _ _ D.TOz b2⟩,⟨o1,sb.extBut _ _ D.i1z e1,r1⟩,b4.1.extBut sb.extBut D.i2z⟩
  ·have:s.heap.objs.size≠b:=by
    simp only [ZQ,Aaq,or_false] at hb;rcases hb with rfl | rfl | rfl | rfl | rfl
    ·exact lt hz
    ·exact lt hTI
    ·exact lt hTO
    ·obtain ⟨o,e,_⟩:=h1;exact lt e
    ·obtain ⟨o,e,_⟩:=h2;exact lt e
   rw [aC (Ne.symm this)];exact (hf b hb).1
 done:=by
  intro X hP hw hK hc i pins s U H E I hf st hg;subst hP hw hK;obtain ⟨hz,hTI,⟨c,d,hTO⟩,h1,h2⟩:=st;have hin:i=x.cps.size:=hg;subst hin;have hT:s.TypeIs (.ref z) "zip":=⟨_,hz,rfl⟩;have hh:X.A.in1.handled=none:=I.ok.hd hc;unfold pyNext
  refine Zu (wpAny_attempt (AaR (name:=Str.ofString "__next__") hT F.slot_zip_next (Abd F.slot_zip_next hT F.entry_zip_next
   (Ms (Dr X.A.in1 hh) D hz hTI h1 fun h' e hk he=>?_) (F.args_zip_next_1 _))))
  obtain ⟨o,ho,hcl⟩:=he;refine Zu (wpAny_isInstance (T:="StopIteration") (b:=true) ⟨o,ho,hcl⟩ isSubtype_stop ?_);refine Zy ⟨rfl,I.only (tk:=s.toks) hf fun b o hb e=>?_⟩;simp only [ZQ,Aaq,or_false,not_or] at hb;exact hk b o hb.1 hb.2.2.2.1 e
 self:=fun _ _ _ _ _ st h=>wpAny_pyIter_zip st.1 h
def Mt (K:W.Frag) (ta:TA):TI:=fun U H R=>ta U H fun vs H1=>∃ x b ys,vs=[.str x,.ref b]/\SqL K H1 b ys/\R (Iu K x b) H1
theorem Mu {X:Cx} {K:W.Frag} {a b:Expr} {ta:TA} {elts:List Expr} {k:Nat} {tp p pos:Pos} (hc:X.calm=true) (hK:X.K=K) (hg:Gl X "zip") (hm:X.mg "zip"=none) (ha:JA X [a,b] ta) (h:autoParam (notStar a=true) L2.auto4._auto_1) (h2:autoParam (notStar b=true) L2.auto4._auto_1):
  JI X (.Tuple elts k tp) (.Call (.Name "zip" p) [a,b] [] pos) (Mt K ta):=⟨by
 subst hK;intro pins s U H R I hq;refine Call_ (iI I hg hm VB (Z9 (fM (ha.run pos pins s U H _ I hq) fun us s1 qq0=>?_) (bM h) (by rw [bM h2];rfl)));obtain ⟨vs,H1,I1,r1,q1⟩:=qq0;obtain ⟨x,l,ys,e,hl,q⟩:=q1;subst e
 obtain ⟨u,u2,rfl,e1,e2⟩:∃ u u2,us=[u,u2]/\RelV (.str x) u/\RelV (.ref l) u2:=by
  cases r1 with
  | cons x r=>cases r with
   | cons y r=>cases r with
    | nil=>exact ⟨_,_,rfl,x,y⟩
 obtain ⟨t,rfl⟩:=e1;cases e2;obtain ⟨its,rv,p1,_⟩:=I1.list hl;have lt1:l < s1.heap.objs.size:=by obtain ⟨o,ho,_⟩:=p1.isList;exact ZL ho
 refine Eo p1.isList fun h' z1 z2 z3 z4 z5 hk=>?_
 have J1:Inv X pins U H1 {s1 with heap:=h'}:=I1.kept (t':=s1.toks) hk
 have D:xX (s1.heap.objs.size+4) (s1.heap.objs.size+2) (s1.heap.objs.size+3) s1.heap.objs.size (s1.heap.objs.size+1) [s1.heap.objs.size] [s1.heap.objs.size+1,l]:=by
  have key:∀ n b:Nat,b < n->xX (n+4) (n+2) (n+3) n (n+1) [n] [n+1,b]:=fun n b h2=>by
   have k1:∀ c:Nat,c=n->c≠n+4/\c≠n+3/\c≠n+1:=fun c hc=>by omega
   have k2:∀ c:Nat,(c=n+1\/c=b)->c≠n+4/\c≠n+3/\c≠n:=fun c hc=>by omega
   refine ⟨?_,?_,?_,?_,?_,?_,?_,?_,?_,?_,fun c hc=>k1 c (Aad.mp hc),fun c hc=>k2 c (by simpa only [ZQ,Aaq,or_false] using hc)⟩;all_goals (show (_:Nat)≠_;omega)
  exact key _ _ lt1
 have nb:l≠s1.heap.objs.size+1:=Aah (Nat.lt_succ_of_lt lt1);refine wpAny_pyIter_zip z1 ?_
 have fpk:∀ b∈[s1.heap.objs.size+4,s1.heap.objs.size+2,s1.heap.objs.size+3,s1.heap.objs.size,s1.heap.objs.size+1],s1.heap.objs.size<=b:=by
  intro b hb;simp only [ZQ,Aaq,or_false] at hb;have key:∀ n c:Nat,(c=n+4\/c=n+2\/c=n+3\/c=n\/c=n+1)->n<=c:=fun n c h=>by omega
  exact key _ _ hb
 cases hx:x.cps.all (· < 128)
 ·exact ⟨s1.heap.objs.size+4,_,_,_,H1,rfl,J1,xY (ty:="str_iterator") (x:=x) (t:=t) D nb (fun A hA=>Draws.strWide hA _ x t),⟨z1,z2,⟨_,_,z3⟩,by simpa [strIterType,hx] using z4,z5⟩,fun b hb=>I1.fpOk (fpk b hb) (I1.hok.fresh (fpk b hb)),q⟩
 ·exact ⟨s1.heap.objs.size+4,_,_,_,H1,rfl,J1,xY (ty:="str_ascii_iterator") (x:=x) (t:=t) D nb (fun A hA=>Draws.strAscii hA _ x t),⟨z1,z2,⟨_,_,z3⟩,by simpa [strIterType,hx] using z4,z5⟩,fun b hb=>I1.fpOk (fpk b hb) (I1.hok.fresh (fpk b hb)),q⟩⟩
section
variable {U:St} {H:Hp} {K:W.Frag}
theorem qQ {a:TA} {R:It->Hp->Prop} (h:a U H fun vs H1=>∃ x b ys,vs=[.str x,.ref b]/\SqL K H1 b ys/\R (Iu K x b) H1):Mt K a U H R:=h
theorem Iv {x:Str} {b:Addr} {ys:List V} {g:TG} {tb:TS} {D:Ends} (Pv:Nat->St->Hp->Prop) (hl:x.cps.size=ys.length) (h0:Pv 0 U H) (hq:∀ i U H,i<=ys.length->Pv i U H->SqL K H b ys)
  (hs:∀ i U H T y,ys[i]?=some y->Pv i U H->H T=none->g (.ref T) U (upd H T (.tup [.str ⟨#[x.cps.getD i 0]⟩,y])) fun σ2 H2=>tb {D with nx:=Pv (i+1),ct:=Pv (i+1),bk:=D.nx} σ2 H2) (hd:∀ U H,Pv ys.length U H->D.nx U H):
  ∃ W:Nat->Nat->St->Hp->Prop,(∃ m,W 0 m U H)/\∀ i m U H,W i m U H->
   ((Iu K x b).stop i H/\D.nx U H)\/((Iu K x b).go i H/\∃ N:St->Hp->Prop,(∀ U' H',N U' H'->∃ m',m' < m/\W (i+1) m' U' H')/\∀ z H',(Iu K x b).yld i H z H'->g z U H' fun σ2 H2=>tb {D with nx:=N,ct:=N,bk:=D.nx} σ2 H2):=by
 refine ⟨fun i m U H=>m=ys.length - i/\i<=ys.length/\Pv i U H,⟨ys.length,by simp,AaE _,h0⟩,?_⟩;rintro i m U H ⟨rfl,hi,p⟩;have q1:=hq i U H hi p;by_cases hlt:i < ys.length
 ·refine .inr ⟨⟨by omega,ys,ys[i],q1,Zw hlt⟩,Pv (i+1),fun U' H' p'=>⟨ys.length - (i+1),by omega,rfl,hlt,p'⟩,fun z H' y=>?_⟩
  obtain ⟨T,u,hT,e1,e2,e4⟩:=y;subst e1 e4;exact hs i U H T u (e2 ys q1) p hT
 ·have e:i=ys.length:=by omega
  subst e;exact .inl ⟨hl.symm,hd U H p⟩
end
end L2
namespace L2
open PySem PySem.Spec PyProof.Rows
open PySem.Sem (wp)
open AutoSeq1 (wpAny_loadPart')
end L2
namespace L2
open PySem PySem.W PySem.Spec PyProof.Rows
end L2
namespace L2
open PySem PySem.Spec PyProof.Rows
open PySem.Sem (wp)
end L2
namespace L2
open PySem PySem.Spec PyProof.Rows
open PySem.Sem (wp)
open PySem.AutoSeq1 (wpAny_loadPart')
end L2
namespace L2
open PySem PySem.Spec PyProof.Rows
open PySem.Sem (wp)
end L2
namespace L2
open PySem PySem.Spec PyProof.Rows
def Td (K:W.Frag):R2:=fun x y H Q=>∃ a b xs,x= .ref a/\y= .ref b/\SqT K H a xs/\SqT K H b xs/\(∀ v∈xs,jz v=true\/∃ r,v= .ref r)/\Q (.bl false) H
section
variable {X:Cx}
theorem QQ (hu:X.A.units < cLine):OpR X (compareOp .NotEq) (Td X.K):=by
 intro pins s U H x y v u Q I rx ry h;obtain ⟨a,b,xs,rfl,rfl,ha,hb,fx,q⟩:=h;cases rx;cases ry;obtain ⟨its,r1,p1,z1⟩:=I.tuple ha;obtain ⟨jts,r2,p2,z2⟩:=I.tuple hb;have l1:its.toArray.size=xs.length:=by simpa using r1.length.symm
 have l2:jts.toArray.size=xs.length:=by simpa using r2.length.symm
 refine SeqAt.RcNeAt.tuples (e:=fun _=>true) p1 p2 hu (fun j h1 h2=>?_) X.prog X.w _ _ ?_
 ·have hj:j < xs.length:=by omega
  obtain ⟨u1,e1,q1⟩:=r1.get (Zw hj);obtain ⟨u2,e2,q2⟩:=r2.get (Zw hj)
  have f1:its.toArray[j]=u1:=by
   obtain ⟨_,z⟩:=Zx.mp e1;simpa using z
  have f2:jts.toArray[j]=u2:=by
   obtain ⟨_,z⟩:=Zx.mp e2;simpa using z
  rw [f1,f2];rcases fx _ (Aat hj) with f | ⟨r,f⟩
  ·rw [← uB f]
   exact uZ q1 q2 f f
  ·rw [f] at q1 q2
   cases (show u1=Value.ref r from q1);cases (show u2=Value.ref r from q2);exact Abn _
 ·have e:(!((List.range (min its.toArray.size jts.toArray.size)).all (fun _=>true) && its.toArray.size == jts.toArray.size))=false:=by rw [l1,l2];simp
  rw [e];exact ⟨.bl false,H,I,rfl,q⟩
def YB (K:W.Frag):R2:=fun x y H Q=>Yv K x y H Q\/Td K x y H Q
theorem V7 {K:W.Frag} (hK:X.K=K) (hu:X.A.units+64 < cLine):OpR X (compareOp .NotEq) (YB K):=by
 subst hK;exact (V4 rfl hu).or (QQ (AaW (AaX _ _) hu))
end
structure xZ (K:W.Frag) (mg:Str->Option Value) (x:Str):Prop where
 at_:mg x=some (.ref (aO mg x))
 cl:Cls K (aO mg x)
 makes:PySem.W.makesIn K (aO mg x)=true
 kp:PySem.W.keepIn K (.ref (aO mg x))=true
def clsIn (K:W.Frag) (C:Addr):Bool:=PySem.W.plainGet K C Str.empty && PySem.W.hasDictIn K C && PySem.W.plainOver K C
theorem Mv {K:W.Frag} {mg:Str->Option Value} {h:Heap} (X:K.In h) (G:h.Ns mainGlobals mg) {x:Str} {C:Addr} (a:PySem.W.nsIn K mainGlobals x=some (some (.ref C))) (b:clsIn K C=true)
  (s:PySem.W.findIn K (.ref C) "__setattr__"=some (some (.builtin "object.__setattr__"))) (m:PySem.W.makesIn K C=true) (k:PySem.W.keepIn K (.ref C)=true):xZ K mg x:=by
 have e0:=AbG X G a;have e:=uA e0;unfold clsIn at b;simp only [Z4] at b;exact ⟨by rw [e];exact e0,by rw [e];exact ⟨b.1.1,b.1.2,b.2,s⟩,by rw [e];exact m,by rw [e];exact k⟩
structure eV (K:W.Frag) (mg:Str->Option Value) (x m qual:Str) (st:Stmt):Prop where
 ex:∃ f fd,Meth K (aO mg x) m f/\Fun K m qual st f fd
theorem iG {K:W.Frag} {mg:Str->Option Value} {h:Heap} (X:K.In h) (G:h.Ns mainGlobals mg) {x m qual:Str} {C f:Addr} {st:Stmt} {oc:Value} {od an:Option Addr} {osl:Array (Option Value)} {kV doc pm cdv ct:Value}
  (a:PySem.W.nsIn K mainGlobals x=some (some (.ref C))) (i:PySem.W.findIn K (.ref C) m=some (some (.ref f))) (n:PySem.W.isFn K (.ref f)=true)
  (l:K.lookup f=some ⟨oc,od,.func (PySem.W.fnOf m qual (iz st) (cM st) (az st) .none kV doc pm an cdv ct),osl⟩) (c:PySem.W.codeIn K cdv qual=true) (k:PySem.W.keepIn K (.ref f)=true):eV K mg x m qual st:=by
 have e:=uA (AbG X G a);exact ⟨f,_,by rw [e];exact ⟨i,n,k⟩,DK l c k⟩
theorem Mw {K:W.Frag} {mg:Str->Option Value} {h:Heap} (X:K.In h) (G:h.Ns mainGlobals mg) {x:Str} {C:Addr} {fl:List Str} (a:PySem.W.nsIn K mainGlobals x=some (some (.ref C))) (b:Ml K C fl=true):∀ f∈fl,NoAttr K (aO mg x) f:=fun n hn=>by
 rw [uA (AbG X G a)];have:=Aa4.mp b n hn;first | exact AbL this | exact Aa3.mp this | simpa using this
def iH (j:Nat):Stmt->Stmt
 | .ClassDef _ _ _ ss _ _ _ _ _ _ _=>ss.getD j (.Pass ⟨0,0,0,0⟩)
 | s=>s
def HasM (P:Program) (w:World) (K:W.Frag) (mg:Str->Option Value) (base:Heap) (k:Nat) (x m:Str) (ps:List Str) (sp:Sp):Prop:=
 ∃ f fd,Meth K (aO mg x) m f/\Binds K fd ps []/\FnOk P w K mg base (Qy P w) k f fd ps sp
section
variable {P:Program} {w:World} {K:W.Frag} {mg:Str->Option Value} {base:Heap}
theorem jX {x m qual:Str} {st:Stmt} {N ps:List Str} {k:Nat} {sp:Sp} (D:eV K mg x m qual st) (S:aD N ps (az st))
  (hb:∀ (kV doc pm:Value) (an:Option Addr) (cdv ct:Value) (us:List Value),us.length=ps.length->bindArgs (PySem.W.fnOf m qual (iz st) (cM st) (az st) .none kV doc pm an cdv ct) ⟨us,[]⟩=pure (ps.zip us))
  (len:∀ vs H Q E,sp vs H Q E->vs.length=ps.length)
  (hbody:∀ (f:Addr) (cdv:Value) (A:Around) (outer:List Env) (s:Shared) (H:Hp) (vs:List V) (Q:VK) (E:XK),Room k (A.deeper (envOfC qual (az st) s.heap.objs.size f cdv))->sp vs H Q E->
   ∃ t,JB (rQ (Qy P w) P w K mg base N qual (az st) f cdv A outer s H E) (cM st) t/\t {nx:=fun _ H'=>Q .non H',rt:=Q} (start N vs) H):HasM P w K mg base (k+1) x m ps sp:=by
 obtain ⟨f,fd,hm,F⟩:=D.ex;refine ⟨f,fd,hm,F.binds hb,?_⟩;obtain ⟨oc,od,kV,doc,pm,an,cdv,ct,osl,rfl,lk,hcd⟩:=F.ex;exact Kg lk hcd S len fun A outer s H vs Q E hr h=>let ⟨t,j,q⟩:=hbody f cdv A outer s H vs Q E hr h;⟨t,j.run,q⟩
theorem HasM.mono {j k:Nat} {x m:Str} {ps:List Str} {sp:Sp} (h:HasM P w K mg base j x m ps sp) (hk:j<=k):HasM P w K mg base k x m ps sp:=
 let ⟨f,fd,a,c,d⟩:=h;⟨f,fd,a,c,d.mono hk⟩
end
def Ep (C:Addr) (m:Str) (sp:Sp) (R:St->XK) (ta:TE) (t:TA):TE:=fun U H Q=>ta U H fun x H1=>∃ a dx fs,x= .ref a/\H1 a=some (.ins C dx fs)/\fs.lookup m=none/\t U H1 fun vs H2=>sp (x :: vs) H2 Q (R U)
def Mx (C:Addr) (sp:Sp) (R:St->XK) (t:TA):TE:=fun U H Q=>t U H fun vs H1=>∀ x dx,H1 x=none->H1 dx=none->dx≠x->
 sp (.ref x :: vs) (upd (upd H1 dx (.own x)) x (.ins C dx [])) (fun v H2=>v= .non/\Q (.ref x) H2) (R U)
section
variable {X:Cx} {K:W.Frag} {k:Nat} {f C:Addr} {ps:List Str} {sp:Sp} {R:St->XK} {x m fn:Str} {p pos apos pos':Pos} {e o value:Expr} {es:List Expr} {ta tv:TE} {t:TA} {pins:List (Addr×Obj)} {U:St} {H:Hp} {s:Shared} {Q:VK} {us:List Value} {vs:List V}
theorem aU {pl:Sem Bool} (he:JE X o ta) (c:xZ X.K X.mg x) (F:HasM X.prog X.w X.K X.mg X.base k x m ps sp) (hr:Room k X.A) (hx:pP X R) (ha:JA X (e :: es) t)
  (hs:autoParam ((e :: es).all notStar=true) L2.auto4._auto_1)
  (ht:eval (.Call (.Attribute o m apos) (e :: es) [] pos) X.env=(do
   let ov ← eval o X.env
   standAt apos.atName
   let (f,first) ← holding [ov] (getMethod ov m pl)
   callWith pos f first (backTo pos (starEach (e :: es) X.env)) (backToKw pos (keywordEach [] X.env))):=by rfl):
  JE X (.Call (.Attribute o m apos) (e :: es) [] pos) (Ep (aO X.mg x) m sp R ta t):=⟨by
 have h1:notStar e=true:=by simp only [AaA,Z4] at hs;exact hs.1
 have h2:es.all notStar=true:=by simp only [AaA,Z4] at hs;exact hs.2
 obtain ⟨f,fd,hm,hb,F⟩:=F;intro pins s U H Q I h;refine PySem.W.methodCall_KW (pl:=pl) (fM (he.run pins s U H _ I h) fun u s1 qq0=>?_) ht;obtain ⟨x,H1,I1,rx,a,dx,fs,ex,ea,l,q⟩:=qq0;subst ex;obtain rfl:u=Value.ref a:=rx;refine w5 I1 ea c.cl hm l ?_;refine AbA (first:=[.ref a]) (h₀:=X.base) I.ok.mod.kin hm.kp (fM (ha.run pos pins s1 U H1 _ I1 q) fun us s2 ⟨vs,H2,I2,r,q2⟩=>⟨I2.kIn,?_⟩) (bM h1) (oM h2);exact zZ (us:=.ref a :: us) (vs:=.ref a :: vs) F hr hb hx I2 (.cons rfl r) q2⟩
theorem oA {pl:Sem Bool} (he:JE X o ta) (c:xZ X.K X.mg x) (F:HasM X.prog X.w X.K X.mg X.base k x m ps sp) (hr:Room k X.A) (hx:pP X R)
  (ht:eval (.Call (.Attribute o m apos) [] [] pos) X.env=(do
   let ov ← eval o X.env
   standAt apos.atName
   let (f,first) ← holding [ov] (getMethod ov m pl)
   callWith pos f first (backTo pos (starEach [] X.env)) (backToKw pos (keywordEach [] X.env))):=by rfl):
  JE X (.Call (.Attribute o m apos) [] [] pos) (Ep (aO X.mg x) m sp R ta PX):=⟨by
 obtain ⟨f,fd,hm,hb,F⟩:=F;intro pins s U H Q I h;refine PySem.W.methodCall_KW (pl:=pl) (fM (he.run pins s U H _ I h) fun u s1 qq0=>?_) ht;obtain ⟨x,H1,I1,rx,a,dx,fs,ex,ea,l,q⟩:=qq0;subst ex;obtain rfl:u=Value.ref a:=rx;refine w5 I1 ea c.cl hm l ?_;exact PySem.W.callWith_K0 (first:=[.ref a]) I1.kIn hm.kp (zZ (us:=[.ref a]) (vs:=[.ref a]) F hr hb hx I1 (.cons rfl .nil) q)⟩
theorem Iw (c:xZ X.K X.mg x) (F:HasM X.prog X.w X.K X.mg X.base k x "__init__" ps sp) (hr:Room (k+1) X.A) (hx:pP X R) (I:Inv X pins U H s) (r:Vals vs us)
  (h:∀ y dx,H y=none->H dx=none->dx≠y->sp (.ref y :: vs) (upd (upd H dx (.own y)) y (.ins (aO X.mg x) dx [])) (fun v H2=>v= .non/\Q (.ref y) H2) (R U)):
  wpAny (model X.prog X.w) X.A (call (.ref (aO X.mg x)) us) (EP X pins U Q) X.xe s:=by
 obtain ⟨f,fd,hm,hb,F⟩:=F;have hq:=h (s.heap.objs.size+1) s.heap.objs.size (I.hok.fresh (Nat.le_succ _)) (I.hok.fresh (ZC _)) (Aah (AbQ _));have I2:=Inv.made (C:=aO X.mg x) I;have r2:Vals (V.ref (s.heap.objs.size+1) :: vs) (Value.ref (s.heap.objs.size+1) :: us):=.cons rfl r
 have hl:((Value.ref (s.heap.objs.size+1) :: us) ++ []).length=ps.length:=by
  have e:=r2.length;rw [F.len _ _ _ _ hq] at e;rw [AaC];exact e.symm
 have bd:=hb _ (Value.ref (s.heap.objs.size+1) :: us) I2.kIn hl;rw [AaC] at bd
 refine Abz (Kf (f:=f) I.kIn c.makes hm.at_ (Aa3.mp hm.fn) (codeAny_mono (F.run _ X.stack _ _ ⟨Value.ref (s.heap.objs.size+1) :: us,[]⟩ (Value.ref (s.heap.objs.size+1) :: us) _ _ (R U) (hr.make (aO X.mg x) us [])
  (I2.env0.make (aO X.mg x) us []) bd r2 hq) fun r s' hq'=>?_))
 cases r with
 | error e=>exact hx pins e s' (Gp I2 hq')
 | ok fl=>
  cases fl with
  | ret u=>
   obtain ⟨v,H',I3,rv,ev,q3⟩:=I2.after hq';subst ev;exact ⟨rv,⟨V.ref (s.heap.objs.size+1),H',I3,rfl,q3⟩⟩
  | next=>exact False.elim hq'
  | brk=>exact False.elim hq'
  | cont=>exact False.elim hq'
theorem qR (c:xZ X.K X.mg x) (F:HasM X.prog X.w X.K X.mg X.base k x "__init__" ps sp) (hr:Room (k+1) X.A) (hg:Gl X x) (hx:pP X R) (ha:JA X (e :: es) t) (hdb:(x == ("__debug__":Str))=false:=by trivial) (h:autoParam ((e :: es).all notStar=true) L2.auto4._auto_1):
  JE X (.Call (.Name x p) (e :: es) [] pos) (Mx (aO X.mg x) sp R t):=⟨by
 have h1:notStar e=true:=by simp only [AaA,Z4] at h;exact h.1
 have h2:es.all notStar=true:=by simp only [AaA,Z4] at h;exact h.2
 intro pins s U H Q I h;refine Aas (tX I hg c.at_ ?_ hdb);refine AbA (h₀:=X.base) I.ok.mod.kin c.kp (fM (ha.run pos pins s U H _ I h) fun us s1 ⟨vs,H1,I1,r,q⟩=>⟨I1.kIn,?_⟩) (bM h1) (oM h2);exact Iw c F hr hx I1 r q⟩
theorem aP (hK:X.K=K) (he:JE X e ta) (h:autoParam (qN e=true) L2.auto4._auto_1):JE X (.Attribute e fn pos) (Uz K ta fn):=by
 subst hK;exact ⟨UL he.run (by cases e <;> first | rfl | cases h)⟩
theorem bJ (hK:X.K=K) (ha:JE X o ta) (hv:JE X value tv) (h:autoParam (kJ value=true) L2.auto4._auto_1):JS X (.Assign [.Attribute o fn pos'] value pos) (UG K ta tv fn):=by
 subst hK;exact ⟨UT ha.run hv.run (zf h)⟩
end
section
variable {U:St} {H:Hp} {D:Ends} {Q:VK} {sp:Sp} {R:St->XK} {a:TA} {K:W.Frag} {C:Addr} {ta tv:TE} {f m:Str}
theorem b7 (h:ta U H fun x H1=>∃ b dx fs,x= .ref b/\H1 b=some (.ins C dx fs)/\fs.lookup m=none/\a U H1 fun vs H2=>sp (x :: vs) H2 Q (R U)):Ep C m sp R ta a U H Q:=h
theorem b8 (h:a U H fun vs H1=>∀ x dx,H1 x=none->H1 dx=none->dx≠x->sp (.ref x :: vs) (upd (upd H1 dx (.own x)) x (.ins C dx [])) (fun v H2=>v= .non/\Q (.ref x) H2) (R U)):Mx C sp R a U H Q:=h
theorem ig (h:ta U H fun x H1=>∃ a C dx fs v,x= .ref a/\H1 a=some (.ins C dx fs)/\Cls K C/\NoAttr K C f/\fs.lookup f=some v/\Q v H1):Uz K ta f U H Q:=h
theorem dR (h:tv U H fun y H1=>ta U H1 fun x H2=>∃ a C dx fs,x= .ref a/\H2 a=some (.ins C dx fs)/\Cls K C/\NoAttr K C f/\fs.length < 1000/\D.nx U (upd H2 a (.ins C dx (cP f y fs)))):UG K ta tv f D U H:=h
end
section
variable {U:St} {H:Hp} {Q:VK}
def V8 (o:HO) (n:Nat) (H:Hp) (Q:VK):Prop:=n<=sizeLine/\∀ p,H p=none->Q (.ref p) (upd H p o)
theorem m6 {a:TA} (h:a U H fun xs H1=>V8 (.lst xs) xs.length H1 Q):Qc a U H Q:=h
theorem m7 {a:TA} (h:a U H fun xs H1=>V8 (.tup xs) xs.length H1 Q):Qa a U H Q:=h
theorem bB {o:HO} {n:Nat} (c:Nat.ble n 64=true) (h:∀ p H',H p=none->Same H H'->H' p=some o->Q (.ref p) H'):V8 o n H Q:=
 ⟨ZG (Nat.le_of_ble_eq_true c) (by decide),fun p np=>h p _ np ((Same.refl H).upd np) aj⟩
end
section
variable {sub:List (Option Nat)} {g:TG} {tt:TT} {te:TE} {U:St} {Q:VK} {H:Hp} {K:W.Frag} {a:Addr} {xs:List V} {lo:Int} {n:Nat} {z:Str}
theorem zp (Pv:Nat->List V->Hp->Prop) (hn:n<=sizeLine) (h0:Pv 0 [] H) (hl:∀ i ys H,Pv i ys H->ys.length<=i)
  (hs:∀ i ys H,i < n->Pv i ys H->g (.int (lo+i)) (fu sub U) H fun σ2 H2=>KeepSt (fu sub U) σ2/\tt σ2 H2 fun b H3=>if b=true then te σ2 H3 fun y H4=>Pv (i+1) (ys ++ [y]) H4 else Pv (i+1) ys H3)
  (hd:∀ ys H D H',Pv n ys H->H D=none->Same H H'->H' D=some (.lst ys)->Q (.ref D) H'):rG sub g tt te U Q (Jw lo n) H:=
 xJ Pv hn h0 hl hs fun ys H p D nD=>hd ys H D _ p nD ((Same.refl H).upd nD) aj
theorem oU (Pv:Nat->List V->Hp->Prop) (hn:xs.length<=sizeLine) (h0:Pv 0 [] H) (hl:∀ i ys H,Pv i ys H->ys.length<=i) (hq:∀ i ys H,Pv i ys H->SqL K H a xs)
  (hs:∀ i ys H x,xs[i]?=some x->Pv i ys H->g x (fu sub U) H fun σ2 H2=>KeepSt (fu sub U) σ2/\tt σ2 H2 fun b H3=>if b=true then te σ2 H3 fun y H4=>Pv (i+1) (ys ++ [y]) H4 else Pv (i+1) ys H3)
  (hd:∀ ys H D H',Pv xs.length ys H->H D=none->Same H H'->H' D=some (.lst ys)->Q (.ref D) H'):rG sub g tt te U Q (R6 K a) H:=
 HS Pv hn h0 hl hq hs fun ys H p D nD=>hd ys H D _ p nD ((Same.refl H).upd nD) aj
theorem u9 (Pv:Nat->List V->Hp->Prop) (hn:xs.length<=sizeLine) (h0:Pv 0 [] H) (hl:∀ i ys H,Pv i ys H->ys.length<=i) (hq:∀ i ys H,Pv i ys H->SqT K H a xs)
  (hs:∀ i ys H x,xs[i]?=some x->Pv i ys H->g x (fu sub U) H fun σ2 H2=>KeepSt (fu sub U) σ2/\tt σ2 H2 fun b H3=>if b=true then te σ2 H3 fun y H4=>Pv (i+1) (ys ++ [y]) H4 else Pv (i+1) ys H3)
  (hd:∀ ys H D H',Pv xs.length ys H->H D=none->Same H H'->H' D=some (.lst ys)->Q (.ref D) H'):rG sub g tt te U Q (R7 K a) H:=
 Mq Pv hn h0 hl hq hs fun ys H p D nD=>hd ys H D _ p nD ((Same.refl H).upd nD) aj
theorem Gu {f:Nat->V} {i:Nat} {y:V} (h:y=f i):(List.range i).map f ++ [y]=(List.range (i+1)).map f:=by rw [h,AaD,ZR];rfl
theorem Iz (f:Nat->V) (hn:n<=sizeLine)
  (hs:∀ i,i < n->g (.int (lo+i)) (fu sub U) H fun σ2 H2=>KeepSt (fu sub U) σ2/\tt σ2 H2 fun b H3=>if b=true then te σ2 H3 fun y H4=>H4=H/\(List.range i).map f ++ [y]=(List.range (i+1)).map f else H3=H/\(List.range i).map f=(List.range (i+1)).map f)
  (hd:∀ D H',H D=none->Same H H'->H' D=some (.lst ((List.range n).map f))->Q (.ref D) H'):rG sub g tt te U Q (Jw lo n) H:=by
 refine zp (fun i ys H'=>H'=H/\ys=(List.range i).map f) hn ⟨rfl,rfl⟩ ?_ ?_ ?_
 ·rintro i ys H' ⟨_,rfl⟩
  simp
 ·rintro i ys H' hi ⟨rfl,rfl⟩
  exact hs i hi
 ·rintro ys H1 D H' ⟨rfl,rfl⟩ nD s e
  exact hd D H' nD s e
end
end L2
set_option maxHeartbeats 8000000
namespace L2
open PySem PySem.Spec PyProof.Rows
end L2
namespace L2
open PySem PySem.W PySem.Spec PyProof.Rows
end L2
namespace L2
open PySem PySem.Spec PyProof.Rows
end L2
namespace L2
open PySem PySem.W PySem.Spec PyProof.Rows
end L2
namespace L2
open PySem PySem.Spec PyProof.Rows
def Te:List V->Hp->VK->Prop:=fun xs H Q=>(∃ i j,xs=[.int i,.int j]/\Q (.int (if j < i then j else i)) H)\/(∃ i j k,xs=[.int i,.int j,.int k]/\∀ M,(M=i\/M=j\/M=k)->M<=i->M<=j->M<=k->Q (.int M) H)\/
 ∃ (p:Addr) (ns:List Int),xs=[.ref p]/\H p=some (.lst (ns.map V.int))/\ns≠[]/\∀ M,M∈ns->(∀ a∈ns,M<=a)->Q (.int M) H
section
variable {X:Cx}
theorem vals3 {v1 v2 v3:V} {us:List Value} (r:Vals [v1,v2,v3] us):∃ u1 u2 u3,us=[u1,u2,u3]/\RelV v1 u1/\RelV v2 u2/\RelV v3 u3:=by
 cases r with
 | cons a r=>cases r with
  | cons b r=>cases r with
   | cons c r=>
    cases r;exact ⟨_,_,_,rfl,a,b,c⟩
theorem IK (hc:X.calm=true):CallR X (.builtin "min") Te:=by
 intro pins s U H xs us Q I r h;rcases h with h | ⟨i,j,k,rfl,q⟩ | ⟨p,ns,rfl,hp,hne,q⟩
 ·exact Hq hc pins s U H xs us Q I r h
 ·obtain ⟨u1,u2,u3,rfl,⟨t1,rfl⟩,⟨t2,rfl⟩,⟨t3,rfl⟩⟩:=vals3 r
  refine min_three_ints (I.ok.hd hc) fun h' tk hk=>?_
  have key:∀ (M:Int) (t:Tok),(M=i\/M=j\/M=k)->M<=i->M<=j->M<=k->EP X pins U Q (.int M t) {s with heap:=h',toks:=tk}:=fun M t h0 h1 h2 h3=>⟨.int M,H,I.kept hk,⟨t,rfl⟩,q M h0 h1 h2 h3⟩
  by_cases hba:j < i <;> by_cases hc1:k < j <;> by_cases hc2:k < i <;> simp only [hba,hc1,hc2,if_true,if_false] <;> exact key _ _ (by omega) (by omega) (by omega) (by omega)
 ·obtain ⟨u,rfl,ru⟩:=vals1 r
  cases ru;obtain ⟨hz,its,n,rv,g⟩:=I.hok p _ hp;have hi:IntsAre its ns:=intsAre_of rv;have hl:=rv.length;obtain ⟨ys,ey⟩:=hi.allInts.items;have hn:=hi.numsOf
  have hsz:0 < ys.size:=by
   have e1:=congrArg Array.size ey;have:0 < ns.length:=List.length_pos_iff.mpr hne;rw [ZJ] at hl;simp [intItems] at e1;omega
  have hL:s.heap.IsList p (intItems ys):=⟨_,g,rfl,n,by rw [← ey]⟩;have en:ys.toList.map (·.1)=ns:=by rw [← nums_intItems,← ey,← hn]
  refine min_intList (I.ok.hd hc) hL hsz fun v h' tk hv hk=>?_
  obtain ⟨t,rfl⟩:=intItems_at hv;obtain ⟨h1,h2⟩:=argBest_lt (numAt ys) (ys.size - 1);refine ⟨.int _,H,I.kept hk,⟨t,rfl⟩,q _ ?_ fun a ha=>?_⟩
  ·rw [← en,numAt_eq];exact getD_mem (by rw [ZJ,ZF];omega)
  ·rw [← en] at ha
   obtain ⟨j,hj,rfl⟩:=mem_getD ha;rw [ZJ,ZF] at hj;rw [← numAt_eq];exact h2 j (by omega)
end
section
variable {H:Hp} {Q:VK}
theorem Gv {i j:Int} (h:Q (.int (if j < i then j else i)) H):Te [.int i,.int j] H Q:=.inl ⟨_,_,rfl,h⟩
end
end L2
namespace HT
open PySem PySem.Spec PyProof.Rows
section
variable {prog:Program} {w:World} {A:Around} {E:Value->Shared->Prop} {s:Shared}
theorem getItem_tuple_whole {t sl:Addr} {items:Array Value} {vl vu:Value} {lo hi:Option Int} {Q:Value->Shared->Prop} (ht:IsTup s.heap t items) (hs:s.heap.IsSliceOf sl vl vu .none) (pl:IsPart vl lo) (pu:IsPart vu hi)
  (hw:sIx items.size 0 lo=0/\sIx items.size items.size hi=items.size) (h:Q (.ref t) s):wpAny (model prog w) A (getItem (.ref t) (.ref sl)) Q E s:=by
 obtain ⟨os,hos,hcs,hds⟩:=id hs;have hTs:s.TypeIs (.ref sl) "slice":=⟨os,hos,hcs⟩;unfold getItem;try with_reducible refine Aar ?_
 first | refine Zu (Zy ?_) | skip
 refine Zu (wpAny_sequenceKey ht.typeIs (by decide) ?_)
 refine Zu (AaR (name:=Str.ofString "__getitem__") ht.typeIs Aa2
  (Abd Aa2 ht.typeIs entry_tuple_getitem ?_ (args_tuple_getitem _ _)))
 show wpAny _ _ (Builtin.Tuple.tupleItemsOf (.ref t) >>=_) _ _ s;refine Zu (tupleItemsOf_ ht ?_);refine Zu (wpAny_typeOf hTs ?_);rw [if_pos (by decide)];refine Zu (n6 hs pl pu ?_)
 have hyes:((((sIx items.size 0 lo:Nat):Int) == 0 && (1:Int) == 1 && (sIx items.size items.size hi - sIx items.size 0 lo) == items.size)=true):=by
  rw [hw.1,hw.2];simp
 show wpAny _ _ (if (((sIx items.size 0 lo:Nat):Int) == 0 && (1:Int) == 1 && (sIx items.size items.size hi - sIx items.size 0 lo) == items.size)=true then _ else _) _ _ s;rw [if_pos hyes];unfold Builtin.Tuple.tupleIsExact;refine Zu (Zu (wpAny_typeOf ht.typeIs (Zy ?_)));rw [if_pos (by decide)];exact Zu (wpAny_rule (Zy ⟨_,rfl,Zy h⟩))
end
end HT
namespace L2
open PySem PySem.Spec PyProof.Rows
section
variable {X:Cx}
def YC (K:W.Frag):V->Option Int->Option Int->Hp->VK->Prop:=fun x lo hi H Q=>∃ a xs,x= .ref a/\SqT K H a xs/\(HT.sIx xs.length 0 lo=0/\HT.sIx xs.length xs.length hi=xs.length)/\Q (.ref a) H
theorem QR:SlR X (YC X.K):=by
 intro pins s U H x v vl vu lo hi sl Q I rx hs pl pu h;obtain ⟨a,xs,rfl,hx,hw,q⟩:=h;cases rx;obtain ⟨its,r,ht,hz⟩:=I.tuple hx;have hlen:its.toArray.size=xs.length:=by rw [ZS];exact r.length.symm
 refine ⟨"tuple",_,PyProof.Rows.slot_tuple_getitem.lookup,ht.typeIs,?_⟩;exact HT.getItem_tuple_whole ht hs pl pu (by rw [hlen];exact hw) ⟨.ref a,H,I,rfl,q⟩
def V9 (K:W.Frag):V->Option Int->Option Int->Hp->VK->Prop:=fun x lo hi H Q=>Zj K x lo hi H Q\/YC K x lo hi H Q
theorem fH {K:W.Frag} (hK:X.K=K):SlR X (V9 K):=by
 subst hK;exact Vq.or QR
end
section
variable {H:Hp} {Q:VK} {K:W.Frag} {p:Addr} {xs:List V} {lo hi:Option Int}
theorem iQ {x:Str} (hz:x.length<=sizeLine) (h:Q (.str (Txt.slice x lo hi)) H):V9 K (.str x) lo hi H Q:=.inl (Yd hz h)
theorem Er (hp:H p=some (.lst xs)) (h:∀ q H',H q=none->Same H H'->H' q=some (.lst (n8 xs lo hi))->Q (.ref q) H'):V9 K (.ref p) lo hi H Q:=.inl (Ss (SqL.of hp) fun q nq=>h q _ nq ((Same.refl H).upd nq) aj)
end
theorem rY {xs:List V} {k:Nat}:n8 xs (some (k:Int)) none=xs.drop k:=by
 unfold n8;rw [HT.sIx_none,HT.sIx_nat];by_cases h:k<=xs.length
 ·rw [Nat.min_eq_left h,Aan (by rw [Aac];omega)]
 ·rw [AbR (by omega),Aaa (by omega),Aaa (by omega)];simp
def YD (xs:Array Value) (c:Nat):Obj:={cls:=.type "list",dict:=none,data:=.seq xs c,slots:=#[]}
section
variable {prog:Program} {w:World} {A:Around} {R:Result->Shared->Prop} {I S:Addr} {fp wr:List Addr} {n:Nat} {P:Nat->Value->Prop} {St:Nat->Heap->Prop} {d:Value} {bt:Nat->Nat->Bool}
abbrev mdl (I S:Addr) (d:Value):Code:=.builtin "max.loop" ⟨[.ref I,.none,.ref S],[(Str.ofString "default",d)]⟩
theorem QS (W:Walks prog w A.in1 I fp wr n P St) (hcmp:CmpOf prog w A.in1 .Gt P bt) (hSf:S ∉ fp):∀ (k j:Nat) (s:Shared) (v:Value) (c:Nat),j+k+1=n->St (j+1) s.heap->P (argBest bt j) v->s.heap.get? S=some (YD #[v,v] c)->
  (∀ v h' tk,P (argBest bt (n - 1)) v->(∀ b o,b ∉ wr->b≠S->s.heap.get? b=some o->h'.get? b=some o)->R (.ok (.ret v)) {s with heap:=h',toks:=tk})->codeAny (model prog w) A (mdl I S d) R s:=by
 have hSw:S ∉ wr:=fun h=>hSf (W.sub _ h)
 have nm:(toString "max" ++ toString ".loop":String)="max.loop":=by decide
 intro k
 induction k with
 | zero=>
  intro j s v c e hst hv hS hR;refine codeAny_builtin F.entry_max_loop ?_;rw [Around.under_plainId Abe _];show wpAny _ A.in1 (seqItems? (.ref S) >>=_) _ _ s;refine Zu (Aa0 hS rfl ?_);show wpAny _ A.in1 (tryCatch (pyNext (.ref I)) _ >>=_) _ _ s;have e':j+1=n:=e;refine Zu (wpAny_tryCatch (W.done s _ _ (e' ▸ hst) fun h' tk kp=>?_));refine Zu (m:=updateSeq S fun _=>#[]) ?_;refine wpAny_updateSeq (kp S _ hSw hS) rfl (Zu (wpAny_letGo (Zy (hR v _ tk ?_ fun b o n1 n2 q=>?_))))
  ·rw [← e'];exact hv
  ·exact (Aal _ _ (Ne.symm n2)).trans (kp b o n1 q)
 | succ k ih=>
  intro j s v c e hst hv hS hR;refine codeAny_builtin F.entry_max_loop ?_;rw [Around.under_plainId Abe _];show wpAny _ A.in1 (seqItems? (.ref S) >>=_) _ _ s;refine Zu (Aa0 hS rfl ?_);show wpAny _ A.in1 (tryCatch (pyNext (.ref I)) _ >>=_) _ _ s;refine Zu (wpAny_tryCatch (W.item (j+1) s _ _ (by omega) hst fun u h' tk hu hst' kp=>?_));have hS':=kp S _ hSw hS;show wpAny _ A.in1 (tryCatch (holding [u,u] (richCompare .Gt u v >>=_)) _ >>=_) _ _ _;refine Zu (wpAny_tryCatch (Aar (Zu (hcmp (j+1) (argBest bt j) u v _ _ _ hu hv ?_))));refine Zu (Aar (AaT (Zu (wpAny_letGo (Zy ?_)))));have eb:argBest bt (j+1)=if bt (j+1) (argBest bt j) then j+1 else argBest bt j:=rfl
  cases hb:bt (j+1) (argBest bt j) with
  | true=>
   rw [hb,if_pos rfl] at eb;rw [if_pos rfl];refine Zu (wpAny_updateSeq hS' rfl (Zu (wpAny_letGo ?_)));rw [nm];refine Zy ⟨plainId_quiet Abe _,ih (j+1) _ u _ (by omega) (W.frame _ _ _ hst' fun b hf o q=>?_) (by rw [eb];exact hu) (AaH _ hS' rfl) fun v' h2 tk2 hv' k2=>hR v' h2 tk2 hv' fun b o n1 n2 q=>?_⟩
   ·exact (Aal _ _ (fun z:S=b=>hSf (z ▸ hf))).trans q
   ·exact k2 b o n1 n2 ((Aal _ _ (Ne.symm n2)).trans (kp b o n1 q))
  | false=>
   rw [hb,if_neg (by decide)] at eb;rw [if_neg (by decide)];refine Zu (wpAny_letGo ?_);rw [nm];exact Zy ⟨plainId_quiet Abe _,ih (j+1) _ v c (by omega) hst' (by rw [eb];exact hv) hS' fun v' h2 tk2 hv' k2=>hR v' h2 tk2 hv' fun b o n1 n2 q=>k2 b o n1 n2 (kp b o n1 q)⟩
theorem Es (W:Walks prog w A.in1 I fp wr n P St) (hcmp:CmpOf prog w A.in1 .Gt P bt) (hSf:S ∉ fp) {s:Shared} {c:Nat} (hst:St 0 s.heap) (hS:s.heap.get? S=some (YD #[] c))
  (h0:n=0->∀ h' tk,(∀ b o,b ∉ wr->b≠S->s.heap.get? b=some o->h'.get? b=some o)->R (.ok (.ret d)) {s with heap:=h',toks:=tk})
  (hR:0 < n->∀ v h' tk,P (argBest bt (n - 1)) v->(∀ b o,b ∉ wr->b≠S->s.heap.get? b=some o->h'.get? b=some o)->R (.ok (.ret v)) {s with heap:=h',toks:=tk}):codeAny (model prog w) A (mdl I S d) R s:=by
 have hSw:S ∉ wr:=fun h=>hSf (W.sub _ h)
 have nm:(toString "max" ++ toString ".loop":String)="max.loop":=by decide
 refine codeAny_builtin F.entry_max_loop ?_;rw [Around.under_plainId Abe _];show wpAny _ A.in1 (seqItems? (.ref S) >>=_) _ _ s;refine Zu (Aa0 hS rfl ?_);show wpAny _ A.in1 (tryCatch (pyNext (.ref I)) _ >>=_) _ _ s;by_cases hn:n=0
 ·refine Zu (wpAny_tryCatch (W.done s _ _ (hn ▸ hst) fun h' tk kp=>?_))
  show wpAny _ A.in1 (rule _ >>=_) _ _ _;exact Zu (wpAny_rule (Zy (h0 hn h' tk fun b o n1 _ q=>kp b o n1 q)))
 ·refine Zu (wpAny_tryCatch (W.item 0 s _ _ (by omega) hst fun u h' tk hu hst' kp=>?_))
  have hS':=kp S _ hSw hS;show wpAny _ A.in1 (updateSeq S (fun _=>#[u,u]) >>=_) _ _ _;refine Zu (wpAny_updateSeq hS' rfl ?_);rw [nm];refine Zy ⟨plainId_quiet Abe _,QS W hcmp hSf (n - 1) 0 _ u _ (by omega) (W.frame _ _ _ hst' fun b hf o q=>?_) hu (AaH _ hS' rfl) fun v' h2 tk2 hv' k2=>hR (by omega) v' h2 tk2 hv' fun b o n1 n2 q=>?_⟩
  ·exact (Aal _ _ (fun z:S=b=>hSf (z ▸ hf))).trans q
  ·exact k2 b o n1 n2 ((Aal _ _ (Ne.symm n2)).trans (kp b o n1 q))
theorem IV (a v:Value):argsOk "max" ⟨[a],[(Str.ofString "default",v)]⟩:=by unfold argsOk;kernel_rfl
theorem IW {E:Value->Shared->Prop} {s:Shared} {x:Value} {Q:Value->Shared->Prop} (h:wpAny (model prog w) A.in1 (pyIter x) (fun it s₂=>∃ I fp wr n P St bt,it= .ref I/\Walks prog w A.in1 I fp wr n P St/\St 0 s₂.heap/\(∀ b∈fp,b < s₂.heap.objs.size)/\CmpOf prog w A.in1 .Gt P bt/\
   (n=0->∀ h' tk,(∀ b o,b ∉ wr->s₂.heap.get? b=some o->h'.get? b=some o)->Q d {s₂ with heap:=h',toks:=tk})/\
   (0 < n->∀ v h' tk,P (argBest bt (n - 1)) v->(∀ b o,b ∉ wr->s₂.heap.get? b=some o->h'.get? b=some o)->Q v {s₂ with heap:=h',toks:=tk})) E s):
  wpAny (model prog w) A (call (.builtin "max") [x] [(Str.ofString "default",d)]) Q E s:=by
 have nm:(toString "max" ++ toString ".loop":String)="max.loop":=by decide
 refine kmk_tree F.kind_max F.plain_max F.entry_max (IV _ _) ?_;show wpAny _ A.in1 (Builtin.Builtins.bindParams "max" ["key","default"] 0 ⟨[],[(Str.ofString "default",d)]⟩ >>=_) _ _ s;refine Zu (wpAny_of_eq (show Builtin.Builtins.bindParams "max" ["key","default"] 0 ⟨[],[(Str.ofString "default",d)]⟩=pure [none,some d] from rfl) ?_);refine Zu (Zy ?_);refine Zu (AaO h (fun it s₂ h₂=>?_) fun _ _ e=>e);obtain ⟨I,fp,wr,n,P,St,bt,rfl,W,hst,hfp,hcmp,q0,q1⟩:=h₂;refine Zu (AaU ?_);have hSf:s₂.heap.objs.size ∉ fp:=fun hm=>AaM _ (hfp _ hm)
 rw [nm];have lt:∀ {b o},s₂.heap.get? b=some o->b≠s₂.heap.objs.size:=fun e=>Aah (ZL e)
 exact Zy ⟨plainId_quiet Abe _,Es W hcmp hSf (W.frame _ _ _ hst fun b _ o e=>Zz _ e) (ZP _ rfl)
  (fun hn h' tk kp=>q0 hn h' tk fun b o n1 e=>kp b o n1 (lt e) (Zz _ e)) (fun hn v h' tk hv kp=>q1 hn v h' tk hv fun b o n1 e=>kp b o n1 (lt e) (Zz _ e))⟩
end
def Mz:V->V->Hp->VK->Prop:=fun x y H Q=>∃ (p:Addr) (ns:List Int),x= .ref p/\H p=some (.lst (ns.map V.int))/\(ns=[]->Q y H)/\∀ M,M∈ns->(∀ a∈ns,a<=M)->Q (.int M) H
def Tf (ta td:TE):TE:=fun U H Q=>ta U H fun x H1=>td U H1 fun y H2=>Mz x y H2 Q
section
variable {X:Cx} {pins:List (Addr×Obj)} {U:St} {H:Hp} {s:Shared} {Q:VK} {x:Str} {p pos kpos:Pos} {e dv:Expr} {ta td:TE}
theorem MF {u ud:Value} {v y:V} (hc:X.calm=true) (I:Inv X pins U H s) (rv:RelV v u) (ry:RelV y ud) (h:Mz v y H Q):
  wpAny (model X.prog X.w) X.A (call (.builtin "max") [u] [(Str.ofString "default",ud)]) (EP X pins U Q) X.xe s:=by
 obtain ⟨p,ns,rfl,hp,q0,q1⟩:=h;obtain rfl:u= .ref p:=rv;obtain ⟨hz,its,n,rv,g⟩:=I.hok p _ hp;have hi:IntsAre its ns:=intsAre_of rv;have hl:=rv.length;obtain ⟨ys,ey⟩:=hi.allInts.items;have hn:=hi.numsOf;have hL:s.heap.IsList p (intItems ys):=⟨_,g,rfl,n,by rw [← ey]⟩;have en:ys.toList.map (·.1)=ns:=by rw [← nums_intItems,← ey,← hn]
 have el:ys.size=ns.length:=by rw [← en];simp
 have ez:(intItems ys).size=ys.size:=by simp [intItems]
 refine IW (iter_intList hL fun s₂ e st hfp hlI=>?_);subst e;refine ⟨_,_,_,_,_,_,_,rfl,Walks.list (A:=X.A.in1) (I.ok.hd hc) _ p hlI (intItems ys),st,hfp,CmpOf.ints_gt (numAt ys) (fun _ _=>intItems_at),fun h0 h' tk hk=>?_,fun h0 v h' tk hP hk=>?_⟩
 ·exact ⟨y,H,I.kept (old_kept hk),ry,q0 (List.eq_nil_of_length_eq_zero (by omega))⟩
 ·have hP':(intItems ys)[argBest (fun i j=>decide (numAt ys i > numAt ys j)) (ys.size - 1)]?=some v:=by rw [← ez];exact hP
  obtain ⟨t,rfl⟩:=intItems_at hP';obtain ⟨h1,h2⟩:=argBest_gt (numAt ys) (ys.size - 1);refine ⟨.int _,H,I.kept (old_kept hk),⟨t,rfl⟩,q1 _ ?_ fun a ha=>?_⟩
  ·rw [← en,numAt_eq];exact getD_mem (by rw [ZJ,ZF];omega)
  ·rw [← en] at ha
   obtain ⟨j,hj,rfl⟩:=mem_getD ha;rw [ZJ,ZF] at hj;rw [← numAt_eq];exact h2 j (by omega)
theorem Wa (hc:X.calm=true) (hg:Gl X "max") (hm:X.mg "max"=none) (ha:JE X e ta) (hd:JE X dv td) (h:autoParam (notStar e=true) L2.auto4._auto_1):
  JE X (.Call (.Name "max" p) [e] [⟨some "default",dv,kpos⟩] pos) (Tf ta td):=⟨by
 intro pins s U H Q I hq;refine Aas (iI I hg hm (show bootBuiltins "max"=some (.builtin "max") from by trivial) ?_);refine PyProof.Rows.callWith_kw (arg1 h (fM (ha.run pins s U H _ I hq) fun u s1 qq0=>?_)) (by rw [bM h];rfl) (by rw [bM h];rfl);obtain ⟨v,H1,I1,rv,q1⟩:=qq0;refine wpAny_evalAll_cons (Zu (fM (hd.run pins s1 U H1 _ I1 q1) fun ud s2 ⟨y,H2,I2,ry,q2⟩=>Zu (AbF (Zy (wpAny_evalAll_nil ?_)))));exact MF hc I2 rv ry q2⟩
end
section
variable {U:St} {H:Hp} {Q:VK} {ta td:TE}
theorem cj (h:ta U H fun x H1=>td U H1 fun y H2=>Mz x y H2 Q):Tf ta td U H Q:=h
end
def YF:List V->Hp->(Int->Int->Nat->Prop)->Prop:=fun vs _ R=>∃ (lo:Int) (n:Nat),vs=[.int lo,.int (lo+n)]/\0<=lo/\lo<=1000000/\n<=1000000/\R lo 1 n
section
variable {X:Cx}
theorem Et {a b:Expr} {ta:TA} {p p2 p3 pos:Pos} (hc:X.calm=true) (hg:Gl X "list") (hm:X.mg "list"=none) (hg2:Gl X "range") (hm2:X.mg "range"=none) (ha:JA X [a,b] ta) (h:autoParam (notStar a=true) L2.auto4._auto_1) (h2:autoParam (notStar b=true) L2.auto4._auto_1):
  JE X (.Call (.Name "list" p) [.Call (.Name "range" p2) [a,b] [] p3] [] pos) (xV YF ta):=⟨by
 intro pins s U H Q I hq;refine Aas (iI I hg hm kO (Z9 (arg1 rfl (Aas (iI I hg2 hm2 boot_range (Z9 (fM (ha.run p3 pins s U H _ I hq) fun us s1 qq0=>?_) (bM h) (by rw [bM h2];rfl))))) rfl rfl));obtain ⟨vs,H1,I1,r1,q1⟩:=qq0;obtain ⟨lo,n,rfl,h0,h1,hn,q⟩:=q1;obtain ⟨u,w',rfl,⟨t,rfl⟩,⟨t',rfl⟩⟩:=vals2 r1;exact call_range_2 (uC hc I1 (small_one (by omega) (by omega) (by omega) (by omega)) (by rw [rangeSize_one];split <;> omega) hn q)⟩
end
section
variable {H:Hp}
theorem QT {lo hi:Int} {n:Nat} {R:Int->Int->Nat->Prop} (e:hi=lo+n) (h0:0<=lo) (h1:lo<=1000000) (hn:n<=1000000) (h:R lo 1 n):YF [.int lo,.int hi] H R:=⟨lo,n,by rw [e],h0,h1,hn,h⟩
end
def Tg (K:W.Frag):R2:=fun x y H Q=>∃ a b xs,x= .ref a/\y= .ref b/\SqL K H a xs/\SqL K H b xs/\(∀ v∈xs,jz v=true\/∃ r,v= .ref r)/\Q (.bl false) H
section
variable {X:Cx}
theorem QV (hu:X.A.units < cLine):OpR X (compareOp .NotEq) (Tg X.K):=by
 intro pins s U H x y v u Q I rx ry h;obtain ⟨a,b,xs,rfl,rfl,ha,hb,fx,q⟩:=h;cases rx;cases ry;obtain ⟨its,r1,p1,z1⟩:=I.list ha;obtain ⟨jts,r2,p2,z2⟩:=I.list hb;have l1:its.toArray.size=xs.length:=by simpa using r1.length.symm
 have l2:jts.toArray.size=xs.length:=by simpa using r2.length.symm
 refine SeqAt.RcNeAt.lists (e:=fun _=>true) p1.isList p2.isList (by rw [l1,l2]) hu (fun j h1 h2=>?_) X.prog X.w _ _ ?_
 ·have hj:j < xs.length:=by omega
  obtain ⟨u1,e1,q1⟩:=r1.get (Zw hj);obtain ⟨u2,e2,q2⟩:=r2.get (Zw hj)
  have f1:its.toArray[j]=u1:=by
   obtain ⟨_,z⟩:=Zx.mp e1;simpa using z
  have f2:jts.toArray[j]=u2:=by
   obtain ⟨_,z⟩:=Zx.mp e2;simpa using z
  rw [f1,f2];rcases fx _ (Aat hj) with f | ⟨r,f⟩
  ·rw [← uB f]
   exact uZ q1 q2 f f
  ·rw [f] at q1 q2
   cases (show u1=Value.ref r from q1);cases (show u2=Value.ref r from q2);exact Abn _
 ·have e:(!((List.range its.toArray.size).all (fun _=>true)))=false:=by simp
  rw [e];exact ⟨.bl false,H,I,rfl,q⟩
def YG (K:W.Frag) (r:Bool):R2:=fun x y H Q=>∃ a b xs ys,x= .ref a/\y= .ref b/\SqL K H a xs/\SqL K H b ys/\xs.length≠ys.length/\Q (.bl r) H
theorem QW (hu:X.A.units < cLine):OpR X (compareOp .NotEq) (YG X.K true):=by
 intro pins s U H x y v u Q I rx ry h;obtain ⟨a,b,xs,ys,rfl,rfl,ha,hb,ne,q⟩:=h;cases rx;cases ry;obtain ⟨its,r1,p1,z1⟩:=I.list ha;obtain ⟨jts,r2,p2,z2⟩:=I.list hb;have l1:its.toArray.size=xs.length:=by simpa using r1.length.symm
 have l2:jts.toArray.size=ys.length:=by simpa using r2.length.symm
 exact SeqAt.RcNeAt.lists_lengths p1.isList p2.isList (by rw [l1,l2];simpa using ne) hu X.prog X.w _ _ ⟨.bl true,H,I,rfl,q⟩
def Wb (K:W.Frag):R2:=fun x y H Q=>YB K x y H Q\/Tg K x y H Q\/YG K true x y H Q
theorem MJ {K:W.Frag} (hK:X.K=K) (hu:X.A.units+64 < cLine):OpR X (compareOp .NotEq) (Wb K):=by
 subst hK;exact (V7 rfl hu).or ((QV (AaW (AaX _ _) hu)).or (QW (AaW (AaX _ _) hu)))
end
section
variable {K:W.Frag} {H:Hp} {Q:VK}
theorem Wc {a b:Addr} {xs ys:List V} (ha:H a=some (.lst xs)) (hb:H b=some (.lst ys)) (f:xs.length≠ys.length) (h:Q (.bl true) H):Wb K (.ref a) (.ref b) H Q:=.inr (.inr ⟨a,b,xs,ys,rfl,rfl,SqL.of ha,SqL.of hb,f,h⟩)
theorem MK {a b:Addr} {xs:List V} (ha:H a=some (.lst xs)) (hb:H b=some (.lst xs)) (f:∀ v∈xs,jz v=true\/∃ r,v= .ref r) (h:Q (.bl false) H):Wb K (.ref a) (.ref b) H Q:=.inr (.inl ⟨a,b,xs,rfl,rfl,SqL.of ha,SqL.of hb,f,h⟩)
end
end L2
namespace L2
open PySem PySem.Spec PyProof.Rows
open PySem.Sem (wp)
open AutoSeq1 (wpAny_loadPart')
end L2
namespace L2
open PySem PySem.Spec PyProof.Rows
section
open PySem.SeqAt PySem.MeetsSeq PySem.MeetsSeq2 PySem.MeetsSeq3
open PySem.AutoSeq1 (wpAny_loadPart')
end
section
variable {X:Cx} {x:Str} {pos:Pos} {sc:Scope}
theorem ak (i:Nat) (h:autoParam (X.env.scope.names.lookup x=some .local) L2.auto7._auto_1) (hN:autoParam (X.N[i]?=some x) L2.auto4._auto_1) (hd:autoParam ((x == ("__debug__":Str))=false) L2.auto6._auto_1) (hcd:autoParam ((x == ("__classdict__":Str))=false) L2.auto6._auto_1):JE X (.Name x pos) (rO i):=Lk i h hN rfl hd hcd
theorem uD (i:Nat) (h:autoParam (X.env.scope.names.lookup x=some .cell) L2.auto7._auto_1) (hN:autoParam (X.N[i]?=some x) L2.auto4._auto_1) (hd:autoParam ((x == ("__debug__":Str))=false) L2.auto6._auto_1) (hcd:autoParam ((x == ("__classdict__":Str))=false) L2.auto6._auto_1):JE X (.Name x pos) (rO i):=j_vC i h hN rfl hd hcd
theorem bw (h:autoParam (X.env.scope.names.lookup x=some .globalImplicit) L2.auto7._auto_1):Gl X x:=h
theorem bT (h:autoParam (sc.names.lookup x=some .local) L2.auto7._auto_1):Loc sc x:=.inl h
theorem Zr (h:autoParam (sc.names.lookup x=some .cell) L2.auto7._auto_1):Loc sc x:=.inr h
end
section
open PySem.SeqAt PySem.MeetsSeq PySem.MeetsSeq2 PySem.MeetsSeq3
open PySem.AutoSeq1 (wpAny_loadPart')
end
def YH (K:W.Frag) (te:TE):TT:=fun U H Q=>te U H fun x H'=>∃ k,Hn K x H' k/\Q k H'
section
variable {X:Cx} {K:W.Frag} {e o value:Expr} {te ta tv:TE} {f:Str} {pos tpos:Pos} {op:Operator} {rd:V->V->Hp->VK->Prop}
theorem yc (hK:X.K=K) (h:JE X e te) (hp:autoParam (plainT e=true) L2.auto4._auto_1):JT X e (YH K te):=by
 subst hK
 exact ⟨Ka h.run (by
  intro whole;cases e <;> first | rfl | cases hp)⟩
theorem QX (hK:X.K=K) (hop:UJ X op rd) (ha:JE X o ta) (hv:JE X value tv):JS X (.AugAssign (.Attribute o f tpos) op value pos) (zL K ta tv rd f):=by
 subst hK;exact ⟨Hs ha.run hv.run hop⟩
end
section
variable {U:St} {H:Hp} {Q:VK} {D:Ends} {K:W.Frag} {ta tv te:TE} {f:Str} {rd:V->V->Hp->VK->Prop}
theorem ik {R:Bool->Hp->Prop} (h:te U H fun x H1=>∃ k,Hn K x H1 k/\R k H1):YH K te U H R:=h
theorem qe {R:Bool->Prop} {p:Addr} {xs:List V} {b:Bool} (hp:SqT K H p xs) (e:(!xs.isEmpty)=b) (h:R b):∃ k,Hn K (.ref p) H k/\R k:=⟨_,.inr (.inl ⟨xs,hp,e.symm⟩),h⟩
theorem MN {R:Bool->Prop} {p:Addr} {xs:List V} {b:Bool} (hp:SqL K H p xs) (e:(!xs.isEmpty)=b) (h:R b):∃ k,Hn K (.ref p) H k/\R k:=⟨_,.inl ⟨xs,hp,e.symm⟩,h⟩
theorem dU (h:ta U H fun x H1=>∃ a C dx fs v,x= .ref a/\H1 a=some (.ins C dx fs)/\Cls K C/\NoAttr K C f/\fs.lookup f=some v/\
 tv U H1 fun y H2=>rd v y H2 fun z H3=>∃ dx' fs',H3 a=some (.ins C dx' fs')/\fs'.length < 1000/\D.nx U (upd H3 a (.ins C dx' (cP f z fs')))):zL K ta tv rd f D U H:=h
end
end L2
namespace My
open PySem L2
local macro_rules | `(tactic| walk_at "p") => `(tactic| first | exact aV _ | with_unfolding_all rfl)
local macro_rules | `(tactic| walk_at "b") => `(tactic| (first | refine lg ?_ | refine j0 ?_ | refine jW ?_ | refine gZ ?_ | refine ie ?_ | (refine' gM ?hz0 ?_; (case hz0 => with_unfolding_all rfl)) | refine wF ?_ | refine lB ?_ | refine dF ?_ | refine dh ?_ | refine gO ?_ | refine gw ?_ | refine cX ?_ | refine gC ?_ | refine cW ?_ | refine kW ?_ | refine cZ ?_ | refine lC ?_ | refine lq ?_ | refine di ?_ | refine kY ?_ | refine gG ?_ | refine gH ?_ | refine kZ ?_ | refine c7 ?_ | refine gJ ?_ | refine dg ?_ | refine gK ?_ | refine gB ?_ | refine cY ?_ | refine lw ?_ | refine gP ?_ | refine lA ?_ | refine gQ ?_ | refine dj ?_ | refine dm ?_ | refine dq ?_ | refine dw ?_ | refine dz ?_ | refine dD ?_ | refine gU ?_ | refine bU ?_ | refine dI ?_ | (refine' bI (SqT.of ?hz0) ?hz1 ?_; (case hz0 => first | assumption | exact aj); (case hz1 => rfl)) | refine bW ?_ | refine bZ ?_ | refine bY ?_ | refine dM ?_ | refine cT ?_ | refine cU ?_ | refine dN ?_ | refine dO ?_ | refine gY ?_ | refine lD ?_ | refine cQ ?_ | refine cR ?_ | refine dJ ?_ | refine bV ?_ | refine gW ?_ | refine dH ?_ | (refine' wG ?hz0 ?_; (case hz0 => with_unfolding_all first | assumption | omega | (dsimp only <;> omega) | exact ⟨by omega, by omega⟩ | exact .inl ⟨by omega, by omega⟩ | exact .inr ⟨by omega, by omega⟩ | exact ⟨by decide, by decide, by decide⟩)) | (refine' dG ?hz0 ?_; (case hz0 => with_unfolding_all first | assumption | omega | (dsimp only <;> omega) | exact ⟨by omega, by omega⟩ | exact .inl ⟨by omega, by omega⟩ | exact .inr ⟨by omega, by omega⟩ | exact ⟨by decide, by decide, by decide⟩)) | (refine' bf (SqL.of ?hz0) ?hz1 ?_; (case hz0 => first | assumption | exact aj); (case hz1 => with_unfolding_all rfl)) | (refine' fB (SqT.of ?hz0) ?hz1 ?_; (case hz0 => first | assumption | exact aj); (case hz1 => with_unfolding_all rfl)) | (refine' cu ?hz0 ?hz1 ?_; (case hz0 => first | assumption | exact aj); (case hz1 => with_unfolding_all rfl)) | refine b7 ?_ | refine b8 ?_ | refine ig ?_ | refine dR ?_ | refine ik ?_ | refine dU ?_ | refine cj ?_))
local macro_rules | `(tactic| walk_at "0") => `(tactic| (first | walk_at "b" | refine mJ ?_ | refine mK ?_ | refine j5 ?_))
local macro_rules | `(tactic| walk_at "1") => `(tactic| (first | walk_at "b" | refine mJ ?_ | refine mK ?_ | refine jR ?_ | (refine' rM ?hz0 ?_; (case hz0 => with_unfolding_all rfl)) | refine j5 ?_))
local macro_rules | `(tactic| walk_at "2") => `(tactic| (first | walk_at "b" | refine mJ ?_ | refine mK ?_))
local macro_rules | `(tactic| walk_at "3") => `(tactic| (first | walk_at "b" | refine mJ ?_ | refine mK ?_ | refine qQ ?_ | refine lO ?_))
local macro_rules | `(tactic| walk_at "4") => `(tactic| (first | walk_at "b" | refine m7 ?_ | refine m6 ?_ | refine j5 ?_))
local macro_rules | `(tactic| walk_at "5") => `(tactic| (first | walk_at "b" | refine m7 ?_ | refine m6 ?_ | refine jR ?_ | (refine' rM ?hz0 ?_; (case hz0 => with_unfolding_all rfl)) | refine j5 ?_))
local macro_rules | `(tactic| walk_at "6") => `(tactic| (first | walk_at "b" | refine m7 ?_ | refine m6 ?_ | refine jR ?_ | (refine' rM ?hz0 ?_; (case hz0 => with_unfolding_all rfl)) | refine Gv ?_ | refine j5 ?_))
local macro_rules | `(tactic| walk_at "7") => `(tactic| (first | walk_at "b" | refine m7 ?_ | refine m6 ?_ | refine jR ?_ | (refine' rM ?hz0 ?_; (case hz0 => with_unfolding_all rfl))))
abbrev Zt (d:Stmt) (x:Str):Prop:=(az d).names.lookup x=some NameKind.local
def nI (cs:List Nat):List Int:=cs.map fun i:Nat=>(i:Int)
def uE (E:List Nat) (p:Nat):Bool:=decide (E.getD p 0 < E.getD (p+1) 0)
def bG (E:List Nat) (p:Nat):List Nat:=if uE E p=true then (E.set p (E.getD (p+1) 0)).set (p+1) (E.getD p 0) else E
def bN (E:List Nat) (ps:List Nat):List Nat:=ps.foldl bG E
theorem oE (E ps:List Nat) (p:Nat):bN E (ps ++ [p])=bG (bN E ps) p:=by unfold bN;rw [List.foldl_append];rfl
theorem qT (E:List Nat) (p:Nat):(bG E p).length=E.length:=by unfold bG;split <;> simp
theorem jY (E ps:List Nat):(bN E ps).length=E.length:=by
 induction ps generalizing E with
 | nil=>rfl
 | cons p ps ih=>exact (ih (bG E p)).trans (qT E p)
theorem zq {E:List Nat} {p:Nat} (h:p+1 < E.length):E=E.take p ++ E.getD p 0 :: E.getD (p+1) 0 :: E.drop (p+2)/\(E.set p (E.getD (p+1) 0)).set (p+1) (E.getD p 0)=E.take p ++ E.getD (p+1) 0 :: E.getD p 0 :: E.drop (p+2):=by
 have e1:E.getD p 0=E[p]:=by rw [Zv,Zw (by omega)];rfl
 have e2:E.getD (p+1) 0=E[p+1]:=by rw [Zv,Zw h];rfl
 have f:E=E.take p ++ E.getD p 0 :: E.getD (p+1) 0 :: E.drop (p+2):=by
  rw [e1,e2]
  conv=>lhs;rw [← AbH p E]
  rw [Abj (by omega),Abj h]
 refine ⟨f,?_⟩;generalize E.getD p 0=a at f ⊢;generalize E.getD (p+1) 0=b at f ⊢;have lt:(E.take p).length=p:=by rw [ZW];omega
 conv=>lhs;rw [f]
 rw [List.set_append_right _ _ (by omega),lt,AbS,List.set_cons_zero,List.set_append_right _ _ (by omega),lt,show p+1 - p=1 by omega];rfl
theorem rZ {E:List Nat} {p:Nat} (h:p+1 < E.length):(bG E p).Perm E:=by
 unfold bG
 split
 ·obtain ⟨f1,f2⟩:=zq h
  rw [f2]
  conv=>rhs;rw [f1]
  exact (List.Perm.swap _ _ _).append_left _
 ·exact List.Perm.refl _
theorem qU {ps:List Nat}:∀ {E:List Nat},(∀ p∈ps,p+1 < E.length)->(bN E ps).Perm E:=by
 induction ps with
 | nil=>intro E _;exact List.Perm.refl _
 | cons p ps ih=>
  intro E h;have h1:=rZ (h p (by simp));exact (ih (E:=bG E p) fun q hq=>by rw [qT];exact h q (ZZ _ hq)).trans h1
def MP (E:List Nat) (ps:List Nat) (i:Nat):List Nat:=(List.range i).filter fun j=>uE (bN E (ps.take j)) (ps.getD j 0)
theorem Ca (E ps:List Nat) (i:Nat):MP E ps (i+1)=MP E ps i ++ (if uE (bN E (ps.take i)) (ps.getD i 0)=true then [i] else []):=by
 unfold MP;rw [AaD,List.filter_append]
 congr 1
 by_cases h:uE (bN E (ps.take i)) (ps.getD i 0)=true
 ·rw [if_pos h,List.filter_cons_of_pos (p:=fun j=>uE (bN E (ps.take j)) (ps.getD j 0)) h];rfl
 ·rw [if_neg h,List.filter_cons_of_neg (p:=fun j=>uE (bN E (ps.take j)) (ps.getD j 0)) h];rfl
theorem QZ (E ps:List Nat) (i:Nat):(MP E ps i).length<=i:=ZG (List.length_filter_le _ _) (by simp)
theorem vd {ps:List Nat} {i:Nat} (h:i < ps.length):ps.take (i+1)=ps.take i ++ [ps.getD i 0]:=by
 rw [Aa1,Zv,Zw h];rfl
def sy (n:Nat):List (Nat×Nat):=(List.range n).flatMap fun x=>(List.range' (x+1) (n - (x+1))).map fun y=>(x,y)
def cr (t:List Nat):Nat:=(sy t.length).countP fun p=>decide (t.getD p.2 0 < t.getD p.1 0)
theorem sE {n:Nat} {p:Nat×Nat}:p∈sy n↔p.1 < p.2/\p.2 < n:=by
 unfold sy;simp only [List.mem_flatMap,Aam,ZX,List.mem_range'];constructor
 ·rintro ⟨x,hx,y,⟨i,hi,rfl⟩,rfl⟩
  exact ⟨by show x < x+1+1*i;omega,by show x+1+1*i < n;omega⟩
 ·rintro ⟨h1,h2⟩
  exact ⟨p.1,by omega,p.2,⟨p.2 - (p.1+1),by omega,by omega⟩,rfl⟩
theorem Ac (n:Nat):(sy n).Nodup:=by
 unfold sy List.Nodup;rw [List.pairwise_flatMap];refine ⟨fun x _=>?_,?_⟩
 ·rw [List.pairwise_map]
  exact (List.nodup_range' (s:=x+1) (n:=n - (x+1))).imp fun h e=>h (by injection e)
 ·refine List.nodup_range.imp fun {x y} h p hp q hq e=>?_
  obtain ⟨_,_,rfl⟩:=Aam.mp hp;obtain ⟨_,_,rfl⟩:=Aam.mp hq;injection e with e1 e2;exact h e1
theorem zr {α:Type} {P Q:α->Bool} {a:α}:∀ {l:List α},l.Nodup->a∈l->(∀ b∈l,b≠a->P b=Q b)->P a=false->Q a=true->l.countP Q=l.countP P+1
 | [],_,h,_,_,_=>by cases h
 | b :: l,hn,h,he,hP,hQ=>by
  obtain ⟨hb,hn'⟩:=Abm.mp hn;by_cases hab:b=a
  ·subst hab
   rw [List.countP_cons_of_pos hQ,List.countP_cons_of_neg (by rw [hP];simp)]
   congr 1
   exact List.countP_congr fun c hc=>by rw [he c (ZZ _ hc) (fun z=>hb (z ▸ hc))]
  ·have ih:=zr hn' ((ZQ.mp h).resolve_left fun z=>hab z.symm) (fun c hc=>he c (ZZ _ hc)) hP hQ
   have e:=he b (by simp) hab;cases hq:Q b with
   | true=>rw [List.countP_cons_of_pos hq,List.countP_cons_of_pos (by rw [e,hq]),ih]
   | false=>rw [List.countP_cons_of_neg (by rw [hq];simp),List.countP_cons_of_neg (by rw [e,hq];simp),ih]
def inv (E:List Nat):List Nat:=(List.range E.length).map fun x=>E.idxOf x
theorem bF (E:List Nat):(inv E).length=E.length:=by simp [inv]
theorem jD {E:List Nat} {x:Nat} (h:x < E.length):(inv E).getD x 0=E.idxOf x:=by
 unfold inv;rw [Zv,ZM,Z3 h];rfl
theorem iR {E:List Nat} (hn:E.Nodup) {i x:Nat} (h:E[i]?=some x):E.idxOf x=i:=by
 obtain ⟨hi,rfl⟩:=Zx.mp h;exact hn.idxOf_getElem i hi
theorem Q0 {E:List Nat} {n p:Nat} (hE:E.Perm (List.range n)) (hp:p+1 < n) (hw:uE E p=true):cr (inv (bG E p))=cr (inv E)+1:=by
 have hl:E.length=n:=by rw [hE.length_eq];simp
 have nd:E.Nodup:=hE.nodup_iff.mpr Abx;have hlt:∀ x∈E,x < n:=fun x hx=>ZX.mp (hE.mem_iff.mp hx)
 have hin:∀ x,x < n->x∈E:=fun x hx=>hE.mem_iff.mpr (ZX.mpr hx)
 obtain ⟨a,ha⟩:∃ a,E[p]?=some a:=⟨_,Zw (by omega)⟩;obtain ⟨b,hb⟩:∃ b,E[p+1]?=some b:=⟨_,Zw (by omega)⟩;have da:E.getD p 0=a:=by rw [Zv,ha];rfl
 have db:E.getD (p+1) 0=b:=by rw [Zv,hb];rfl
 have hab:a < b:=by
  unfold uE at hw;rw [da,db] at hw;exact AbL hw
 have eF:bG E p=(E.set p b).set (p+1) a:=by unfold bG;rw [if_pos hw,da,db]
 have fp:=rZ (E:=E) (p:=p) (by omega);have nF:(bG E p).Nodup:=fp.nodup_iff.mpr nd;have lF:(bG E p).length=n:=by rw [qT];exact hl
 have gF:∀ i,(bG E p)[i]?=if i=p+1 then some a else if i=p then some b else E[i]?:=fun i=>by
  rw [eF];by_cases h1:i=p+1
  ·subst h1
   rw [if_pos rfl,Aaz (by simp;omega)]
  ·rw [if_neg h1,Aaf (fun z=>h1 z.symm)]
   by_cases h2:i=p
   ·subst h2
    rw [if_pos rfl,Aaz (by omega)]
   ·rw [if_neg h2,Aaf (fun z=>h2 z.symm)]
 have ia:E.idxOf a=p:=iR nd ha;have ib:E.idxOf b=p+1:=iR nd hb;have ja:(bG E p).idxOf a=p+1:=iR nF (by rw [gF,if_pos rfl]);have jb:(bG E p).idxOf b=p:=iR nF (by rw [gF,if_neg (by omega),if_pos rfl])
 have other:∀ x,x < n->x≠a->x≠b->(bG E p).idxOf x=E.idxOf x/\E.idxOf x≠p/\E.idxOf x≠p+1:=fun x hx h1 h2=>by
  obtain ⟨i,hi,e⟩:=Abr.mp (hin x hx);have ei:E[i]?=some x:=by rw [Zw hi,e]
  have n1:i≠p:=fun z=>h1 (by subst z;rw [ha] at ei;exact (Z2 ei).symm)
  have n2:i≠p+1:=fun z=>h2 (by subst z;rw [hb] at ei;exact (Z2 ei).symm)
  rw [iR nd ei];exact ⟨iR nF (by rw [gF,if_neg n2,if_neg n1,ei]),n1,n2⟩
 have han:a < n:=hlt a (Z0 ha);have hbn:b < n:=hlt b (Z0 hb);unfold cr;rw [bF,bF,lF,hl];refine zr (a:=(a,b)) (Ac n) (sE.mpr ⟨hab,hbn⟩) ?_ ?_ ?_
 ·rintro ⟨x,y⟩ hxy hne
  obtain ⟨h1,h2⟩:=sE.mp hxy;dsimp only at h1 h2 ⊢;have hx:x < n:=by omega
  rw [jD (by omega),jD (by omega),jD (by omega),jD (by omega)]
  congr 1
  rw [eq_iff_iff];by_cases xa:x=a
  ·subst xa
   have yb:y≠b:=fun z=>hne (by rw [z])
   obtain ⟨o1,o2,o3⟩:=other y h2 (by omega) yb;rw [o1,ia,ja];omega
  ·by_cases xb:x=b
   ·subst xb
    obtain ⟨o1,o2,o3⟩:=other y h2 (by omega) (by omega);rw [o1,ib,jb];omega
   ·obtain ⟨q1,q2,q3⟩:=other x hx xa xb
    by_cases ya:y=a
    ·subst ya
     rw [q1,ia,ja];omega
    ·by_cases yb:y=b
     ·subst yb
      rw [q1,ib,jb];omega
     ·obtain ⟨o1,_,_⟩:=other y h2 ya yb
      rw [q1,o1]
 ·dsimp only
  rw [jD (by omega),jD (by omega),ia,ib];exact ZD (by omega)
 ·dsimp only
  rw [jD (by omega),jD (by omega),ja,jb];exact ZK (by omega)
theorem M9 (n:Nat):cr (inv (List.range n))=0:=by
 unfold cr;rw [List.countP_eq_zero];rintro ⟨x,y⟩ h;rw [bF,Abu] at h;obtain ⟨h1,h2⟩:=sE.mp h;dsimp only at h1 h2 ⊢;have e:∀ z,z < n->(List.range n).idxOf z=z:=fun z hz=>iR Abx (Z3 hz)
 rw [jD (by simpa using h2),jD (by simp;omega),e y h2,e x (by omega)];simp;omega
theorem Nb {n:Nat} {ps:List Nat} (hp:∀ p∈ps,p+1 < n):∀ i,i<=ps.length->cr (inv (bN (List.range n) (ps.take i)))=(MP (List.range n) ps i).length
 | 0,_=>by rw [List.take_zero];exact M9 n
 | i+1,h=>by
  have ih:=Nb hp i (by omega);have hmem:ps.getD i 0∈ps:=by rw [Zv,Zw (by omega)];exact Aat _
  have hpm:(bN (List.range n) (ps.take i)).Perm (List.range n):=qU fun q hq=>by simpa using hp q (Aa8 hq)
  rw [vd (by omega),oE,Ca];by_cases hw:uE (bN (List.range n) (ps.take i)) (ps.getD i 0)=true
  ·rw [Q0 hpm (hp _ hmem) hw,ih,if_pos hw];simp
  ·rw [if_neg hw,AaC,← ih]
   unfold bG;rw [if_neg hw]
structure Prm (t:List Nat):Prop where
 le:t.length<=96
 pm:t.Perm (List.range t.length)
theorem Prm.nd {t:List Nat} (h:Prm t):t.Nodup:=h.pm.nodup_iff.mpr Abx
theorem Prm.lt {t:List Nat} (h:Prm t) {x:Nat} (hx:x∈t):x < t.length:=ZX.mp (h.pm.mem_iff.mp hx)
theorem Prm.mem {t:List Nat} (h:Prm t) {x:Nat} (hx:x < t.length):x∈t:=h.pm.mem_iff.mpr (ZX.mpr hx)
theorem Ja {n:Nat} (h:n<=96):Prm (List.range n):=⟨by simpa using h,by simp⟩
theorem Gw {n:Nat} {ps:List Nat} (h:n<=96) (hp:∀ p∈ps,p+1 < n):Prm (bN (List.range n) ps):=by
 have hl:(bN (List.range n) ps).length=n:=by rw [jY];simp
 refine ⟨by omega,?_⟩;rw [hl];exact qU fun p hp'=>by simpa using hp p hp'
theorem vf {t r:List Nat} (hP:Prm t) (hl:r.length=t.length) (h:∀ (i x:Nat),t[i]?=some x->r[x]?=some i):r=inv t:=by
 refine Abs fun x=>?_
 by_cases hx:x < t.length
 ·obtain ⟨i,hi,e⟩:=Abr.mp (hP.mem hx)
  have ei:t[i]?=some x:=by rw [Zw hi,e]
  rw [h i x ei];unfold inv;rw [ZM,Z3 hx];show some i=some (t.idxOf x);rw [iR hP.nd ei]
 ·rw [Aav (by omega),Aav (by rw [bF];omega)]
theorem mO {E:List Nat} (h:Prm E):Prm (inv E):=by
 have hl:=bF E;refine ⟨by rw [hl];exact h.le,?_⟩;rw [hl]
 have nd:(inv E).Nodup:=by
  unfold inv;unfold List.Nodup;rw [List.pairwise_map];refine List.nodup_range.imp_of_mem fun {x y} hx hy ne e=>ne ?_
  have key:∀ z,z∈List.range E.length->E.getD (E.idxOf z) 0=z:=fun z hz=>by
   have hi:E.idxOf z < E.length:=List.idxOf_lt_length_iff.mpr (h.mem (ZX.mp hz));rw [Zv,Zw hi];exact List.getElem_idxOf hi
  rw [← key x hx,← key y hy,e]
 refine (List.perm_ext_iff_of_nodup nd Abx).mpr fun x=>?_
 rw [ZX];constructor
 ·intro hx
  unfold inv at hx;obtain ⟨y,hy,rfl⟩:=Aam.mp hx;exact List.idxOf_lt_length_iff.mpr (h.mem (ZX.mp hy))
 ·intro hx
  unfold inv;refine Aam.mpr ⟨E[x],ZX.mpr (h.lt (Aat hx)),?_⟩;exact iR h.nd (Zw hx)
theorem qW {t:List Nat} (h:Prm t):inv (inv t)=t:=by
 refine (vf (mO h) (by rw [bF]) fun i x e=>?_).symm;have hi:i < t.length:=by have:=(Zx.mp e).1;rwa [bF] at this
 have e2:(inv t)[i]?=some (t.idxOf i):=by unfold inv;rw [ZM,Z3 hi];rfl
 rw [e] at e2;cases e2;have hx:t.idxOf i < t.length:=List.idxOf_lt_length_iff.mpr (h.mem hi);rw [Zw hx];exact congrArg some (List.getElem_idxOf hx)
def yD (B:List Nat) (p:Nat):List Nat:=(B.set p (B.getD (p+1) 0)).set (p+1) (B.getD p 0)
theorem oV (B:List Nat) (p:Nat):(yD B p).length=B.length:=by unfold yD;simp
theorem getD_some {B:List Nat} {i:Nat} (h:i < B.length):B[i]?=some (B.getD i 0):=by rw [Zv,Zw h];rfl
theorem jc {B:List Nat} {p:Nat} (h:p+1 < B.length) (i:Nat):(yD B p).getD i 0=if i=p+1 then B.getD p 0 else if i=p then B.getD (p+1) 0 else B.getD i 0:=by
 unfold yD;rw [Zv];by_cases h1:i=p+1
 ·subst h1
  rw [if_pos rfl,Aaz (by simp;omega)];rfl
 ·rw [if_neg h1,Aaf (fun z=>h1 z.symm)]
  by_cases h2:i=p
  ·subst h2
   rw [if_pos rfl,Aaz (by omega)];rfl
  ·rw [if_neg h2,Aaf (fun z=>h2 z.symm),← Zv]
theorem yd {A B:List Nat} (hl:A.length=B.length) (h:∀ i,i < A.length->A.getD i 0=B.getD i 0):A=B:=by
 refine Abs fun i=>?_
 by_cases hi:i < A.length
 ·rw [getD_some hi,getD_some (by omega),h i hi]
 ·rw [Aav (by omega),Aav (by omega)]
theorem Q3 {B:List Nat} {p:Nat} (h:p+1 < B.length):yD (yD B p) p=B:=by
 refine yd (by rw [oV,oV]) fun i _=>?_
 rw [jc (by rw [oV];exact h),jc h,jc h,jc h];by_cases h1:i=p+1
 ·subst h1;simp
 ·by_cases h2:i=p
  ·subst h2;simp
  ·simp [h1,h2]
theorem ye {B:List Nat} {p:Nat} (h:uE B p=true):bG B p=yD B p:=by unfold bG yD;rw [if_pos h]
def inn:Nat->List Nat->List Nat->List Nat×List Nat
 | 0,B,u=>(B,u)
 | p+1,B,u=>if B.getD (p+1) 0 < B.getD p 0 then inn p (yD B p) (u ++ [p]) else (B,u)
def vg (B:List Nat):Nat->List Nat×List Nat
 | 0=>(B,[])
 | k+1=>inn (k+1) (vg B k).1 (vg B k).2
def Wk:List Nat->List Nat->Prop
 | _,[]=>True
 | B,p :: us=>uE B p=true/\Wk (bG B p) us
theorem Th:∀ {us B:List Nat} {j:Nat},Wk B us->j < us.length->uE (bN B (us.take j)) (us.getD j 0)=true
 | p :: us,B,0,h,_=>h.1
 | p :: us,B,j+1,h,hj=>Th (us:=us) (B:=bG B p) (j:=j) h.2 (by simpa using hj)
theorem Wd {B us:List Nat} (h:Wk B us):MP B us us.length=List.range us.length:=by
 unfold MP;rw [List.filter_eq_self];intro j hj;exact Th h (ZX.mp hj)
structure Sx (B0:List Nat) (n:Nat) (B u:List Nat):Prop where
 len:B.length=n
 pm:B.Perm (List.range n)
 lt:∀ p∈u,p+1 < n
 back:bN B u.reverse=B0
 wk:Wk B u.reverse
 link:∀ i,i < n->B.getD i 0=B0.getD ((bN (List.range n) u).getD i 0) 0
theorem Ti {n:Nat} {u:List Nat} (h:∀ p∈u,p+1 < n):(bN (List.range n) u).Perm (List.range n):=qU fun p hp=>by simpa using h p hp
theorem sG {G:List Nat} {n i j:Nat} (h:G.Perm (List.range n)) (hi:i < n) (hj:j < n) (e:G.getD i 0=G.getD j 0):i=j:=by
 have nd:G.Nodup:=h.nodup_iff.mpr Abx;have hl:G.length=n:=by rw [h.length_eq];simp
 have h1:=iR nd (getD_some (B:=G) (i:=i) (by omega));have h2:=iR nd (getD_some (B:=G) (i:=j) (by omega));rw [e] at h1;omega
theorem Nf {G:List Nat} {n i:Nat} (h:G.Perm (List.range n)) (hi:i < n):G.getD i 0 < n:=by
 have hl:G.length=n:=by rw [h.length_eq];simp
 exact ZX.mp (h.mem_iff.mp (Z0 (getD_some (by omega))))
theorem Ng {B0:List Nat} {n m:Nat} (hm:m < n):∀ (p:Nat) (B u:List Nat),p<=m->Sx B0 n B u->(∀ i j,i < j->j<=m->j≠p->B.getD i 0 < B.getD j 0)->
  (bN (List.range n) u).getD p 0=m->(∀ i,i<=m->(bN (List.range n) u).getD i 0<=m)->(∀ i,m < i->i < n->(bN (List.range n) u).getD i 0=i)->
  Sx B0 n (inn p B u).1 (inn p B u).2/\(∀ i j,i < j->j<=m->(inn p B u).1.getD i 0 < (inn p B u).1.getD j 0)/\(∀ i,i<=m->(bN (List.range n) (inn p B u).2).getD i 0<=m)/\(∀ i,m < i->i < n->(bN (List.range n) (inn p B u).2).getD i 0=i)
 | 0,B,u,_,S,srt,_,gle,gid=>⟨S,fun i j h1 h2=>srt i j h1 h2 (by omega),gle,gid⟩
 | p+1,B,u,hp,S,srt,gm,gle,gid=>by
  have hB:=S.len;have hG:=Ti S.lt;have lG:(bN (List.range n) u).length=n:=by rw [hG.length_eq];simp
  unfold inn;by_cases hc:B.getD (p+1) 0 < B.getD p 0
  ·rw [if_pos hc]
   have hp1:p+1 < B.length:=by omega
   have w1:uE (yD B p) p=true:=by
    unfold uE;rw [jc hp1,jc hp1,if_neg (by omega),if_pos rfl,if_pos rfl];exact ZK hc
   have w2:uE (bN (List.range n) u) p=true:=by
    unfold uE;rw [gm];refine ZK ?_;have h1:=gle p (by omega)
    have h2:(bN (List.range n) u).getD p 0≠m:=fun z=>by
     have:=sG hG (i:=p) (j:=p+1) (by omega) (by omega) (by rw [z,gm]);omega
    omega
   have eG:bN (List.range n) (u ++ [p])=yD (bN (List.range n) u) p:=by rw [oE,ye w2]
   have bk:bG (yD B p) p=B:=by rw [ye w1,Q3 hp1]
   have S':Sx B0 n (yD B p) (u ++ [p]):=by
    refine ⟨by rw [oV];exact hB,?_,?_,?_,?_,?_⟩
    ·have:=rZ (E:=yD B p) (p:=p) (by rw [oV];exact hp1)
     rw [bk] at this;exact this.symm.trans S.pm
    ·intro q hq
     rcases Aaw.mp hq with h | h
     ·exact S.lt q h
     ·rw [Aad.mp h];omega
    ·rw [List.reverse_append]
     show bN (bG (yD B p) p) u.reverse=B0;rw [bk];exact S.back
    ·rw [List.reverse_append]
     show uE (yD B p) p=true/\Wk (bG (yD B p) p) u.reverse;rw [bk];exact ⟨w1,S.wk⟩
    ·intro i hi
     rw [eG,jc hp1,jc (by omega)];by_cases h1:i=p+1
     ·rw [if_pos h1,if_pos h1];exact S.link p (by omega)
     ·rw [if_neg h1,if_neg h1]
      by_cases h2:i=p
      ·rw [if_pos h2,if_pos h2];exact S.link (p+1) (by omega)
      ·rw [if_neg h2,if_neg h2];exact S.link i hi
   refine Ng hm p (yD B p) (u ++ [p]) (by omega) S' (fun i j h1 h2 h3=>?_) ?_ (fun i hi=>?_) fun i h1 h2=>?_
   ·rw [jc hp1,jc hp1]
    by_cases j1:j=p+1
    ·subst j1
     rw [if_neg (show ¬ i=p+1 by omega),if_pos rfl];by_cases i2:i=p
     ·rw [if_pos i2];exact hc
     ·rw [if_neg i2];exact srt i p (by omega) (by omega) (by omega)
    ·rw [if_neg j1,if_neg h3]
     by_cases i1:i=p+1
     ·rw [if_pos i1];exact srt p j (by omega) h2 j1
     ·rw [if_neg i1]
      by_cases i2:i=p
      ·rw [if_pos i2];exact srt (p+1) j (by omega) h2 j1
      ·rw [if_neg i2];exact srt i j h1 h2 j1
   ·rw [eG,jc (by omega),if_neg (by omega),if_pos rfl];exact gm
   ·rw [eG,jc (by omega)]
    by_cases i1:i=p+1
    ·rw [if_pos i1];exact gle p (by omega)
    ·rw [if_neg i1]
     by_cases i2:i=p
     ·rw [if_pos i2];exact gle (p+1) hp
     ·rw [if_neg i2];exact gle i hi
   ·rw [eG,jc (by omega),if_neg (by omega),if_neg (by omega)];exact gid i h1 h2
  ·rw [if_neg hc]
   refine ⟨S,fun i j h1 h2=>?_,gle,gid⟩;show B.getD i 0 < B.getD j 0;by_cases hj:j=p+1
   ·subst hj
    have hne:B.getD p 0≠B.getD (p+1) 0:=fun z=>by
     have:=sG S.pm (i:=p) (j:=p+1) (by omega) (by omega) z;omega
    by_cases hi:i=p
    ·subst hi;omega
    ·have:=srt i p (by omega) (by omega) (by omega)
     omega
   ·exact srt i j h1 h2 hj
theorem Nh {B0:List Nat} {n:Nat} (hB:B0.Perm (List.range n)):∀ k,k < n->Sx B0 n (vg B0 k).1 (vg B0 k).2/\(∀ i j,i < j->j<=k->(vg B0 k).1.getD i 0 < (vg B0 k).1.getD j 0)/\(∀ i,i<=k->(bN (List.range n) (vg B0 k).2).getD i 0<=k)/\(∀ i,k < i->i < n->(bN (List.range n) (vg B0 k).2).getD i 0=i)
 | 0,h=>by
  have hl:B0.length=n:=by rw [hB.length_eq];simp
  have hr:∀ i,i < n->(List.range n).getD i 0=i:=fun i hi=>by rw [Zv,Z3 hi];rfl
  refine ⟨⟨hl,hB,(fun p hp=>by cases hp),rfl,trivial,fun i hi=>?_⟩,(fun i j h1 h2=>by omega),fun i hi=>?_,fun i _ hi=>hr i hi⟩
  ·show B0.getD i 0=B0.getD ((List.range n).getD i 0) 0
   rw [hr i hi]
  ·have:i=0:=by omega
   subst this;show (List.range n).getD 0 0<=0;rw [hr 0 h];exact ZC _
 | k+1,h=>by
  obtain ⟨S,srt,gle,gid⟩:=Nh hB k (by omega);show Sx B0 n (inn (k+1) (vg B0 k).1 (vg B0 k).2).1 (inn (k+1) (vg B0 k).1 (vg B0 k).2).2/\_;refine Ng h (k+1) _ _ (ZC _) S (fun i j h1 h2 h3=>srt i j h1 (by omega)) (gid (k+1) (by omega) h) (fun i hi=>?_) fun i h1 h2=>gid i (by omega) h2
  by_cases e:i=k+1
  ·subst e;rw [gid (k+1) (by omega) h];exact ZC _
  ·have:=gle i (by omega);omega
theorem Ad {B:List Nat} {n:Nat} (hl:B.length=n) (hlt:∀ i,i < n->B.getD i 0 < n) (h:∀ i j,i < j->j < n->B.getD i 0 < B.getD j 0):B=List.range n:=by
 have mono:∀ d i,i+d < n->B.getD i 0+d<=B.getD (i+d) 0:=fun d=>by
  induction d with
  | zero=>intro i _;exact ZC _
  | succ d ih=>
   intro i hi;have h1:=ih i (by omega);have h2:=h (i+d) (i+(d+1)) (by omega) hi;omega
 refine yd (by rw [hl];simp) fun i hi=>?_
 rw [hl] at hi;rw [show (List.range n).getD i 0=i by rw [Zv,Z3 hi];rfl];have h1:=mono i 0 (by omega);have h2:=mono (n - 1 - i) i (by omega);have h3:=hlt (i+(n - 1 - i)) (by omega);rw [Nat.zero_add] at h1;omega
def Jb (t:List Nat):List Nat:=(vg (inv t) (t.length - 1)).2
structure Und (t u:List Nat):Prop where
 lt:∀ p∈u,p+1 < t.length
 back:bN (List.range t.length) u.reverse=inv t
 wk:MP (List.range t.length) u.reverse u.reverse.length=List.range u.reverse.length
 fw:bN (List.range t.length) u=t
theorem Eu {t:List Nat} (h:Prm t):Und t (Jb t):=by
 have hP:=mO h;have hl:=bF t;by_cases h0:t.length=0
 ·have e:t=[]:=AaS.mp h0
  subst e;exact ⟨(fun p hp=>by cases hp),rfl,rfl,rfl⟩
 ·have pm:(inv t).Perm (List.range t.length):=by have:=hP.pm;rwa [hl] at this
  obtain ⟨S,srt,_,_⟩:=Nh pm (t.length - 1) (by omega);have e:(vg (inv t) (t.length - 1)).1=List.range t.length:=Ad S.len (fun i hi=>Nf S.pm hi) fun i j h1 h2=>srt i j h1 (by omega)
  have bk:=S.back;have wk:=S.wk;have lk:=S.link;rw [e] at bk wk lk;refine ⟨S.lt,bk,Wd wk,?_⟩;have hG:=Ti S.lt;have lG:(bN (List.range t.length) (vg (inv t) (t.length - 1)).2).length=t.length:=by rw [hG.length_eq];simp
  refine (vf (t:=inv t) hP (by rw [hl];exact lG) fun i x ex=>?_).trans (qW h);have hi:i < t.length:=by have:=(Zx.mp ex).1;omega
  have dx:(inv t).getD i 0=x:=by rw [Zv,ex];rfl
  have hx:x < t.length:=by rw [← dx];exact Nf pm hi
  have l1:=lk x hx;rw [show (List.range t.length).getD x 0=x by rw [Zv,Z3 hx];rfl,← dx] at l1;have gx:=Nf hG hx;have:=sG pm hi gx (by rw [← dx];exact l1);exact (getD_some (B:=bN (List.range t.length) (vg (inv t) (t.length - 1)).2) (by rw [lG];exact hx)).trans (congrArg some this.symm)
theorem pairs_len {n:Nat} (h:n<=96):(sy n).length<=6000:=by
 have key:∀ n,n < 97->((List.range n).map fun x=>n - (x+1)).sum<=6000:=by trivial
 unfold sy;rw [List.length_flatMap];have:=key n (by omega);simpa using this
theorem YJ {t:List Nat} (h:t.length<=96):cr t<=6000:=ZG List.countP_le_length (pairs_len h)
theorem Q4 {t:List Nat} (h:Prm t):(Jb t).reverse.length=cr t:=by
 have U:=Eu h;have hp:∀ p∈(Jb t).reverse,p+1 < t.length:=fun p hp=>U.lt p (List.mem_reverse.mp hp)
 have e:=Nb hp (Jb t).reverse.length (ZC _);rw [AaN,U.back,qW h,U.wk,Abu] at e;exact e.symm
def cN (p x:Nat):Nat:=if p<=x then 1 else 0
def N:List Nat->Nat->Nat->Nat
 | [],_,_=>0
 | _ :: _,_,0=>0
 | x :: B,p,q+1=>cN p x+N B p q
theorem qg (B:List Nat) (p:Nat):N B p 0=0:=by cases B <;> rfl
theorem Cd:∀ (L M:List Nat) (p q:Nat),N (L ++ M) p q=N L p q+N M p (q - L.length)
 | [],M,p,q=>by simp [N]
 | x :: L,M,p,0=>by simp [N,qg]
 | x :: L,M,p,q+1=>by
  rw [List.cons_append];show cN p x+N (L ++ M) p q=cN p x+N L p q+N M p (q+1 - (L.length+1));rw [Cd L M p q,show q+1 - (L.length+1)=q - L.length by omega];omega
theorem Ae:∀ (L:List Nat) (p q:Nat),L.length<=q->N L p q=N L p L.length
 | [],p,q,_=>rfl
 | x :: L,p,0,h=>by simp at h
 | x :: L,p,q+1,h=>by
  show cN p x+N L p q=cN p x+N L p L.length;rw [Ae L p q (by simpa using h)]
theorem yf:∀ {B:List Nat} {p q:Nat},q < B.length->N B p (q+1)=N B p q+cN p (B.getD q 0)
 | x :: B,p,0,_=>by
  show cN p x+N B p 0=0+cN p x;rw [qg];omega
 | x :: B,p,q+1,h=>by
  show cN p x+N B p (q+1)=cN p x+N B p q+cN p ((x :: B).getD (q+1) 0);rw [yf (B:=B) (q:=q) (by simpa using h)];simp;omega
theorem YK {A B:List Nat} {n:Nat} (ha:A.length=n) (hb:B.length=n) (la:∀ x∈A,x < n) (lb:∀ x∈B,x < n) (h:∀ p q,p<=n->q<=n->N A p q=N B p q):A=B:=by
 refine yd (by omega) fun i hi=>?_
 have key:∀ p,p<=n->cN p (A.getD i 0)=cN p (B.getD i 0):=fun p hp=>by
  have h1:=h p (i+1) hp (by omega);rw [yf (by omega),yf (by omega),h p i hp (by omega)] at h1;omega
 have ma:=la _ (Z0 (getD_some (B:=A) (i:=i) (by omega)));have mb:=lb _ (Z0 (getD_some (B:=B) (i:=i) (by omega)));have k1:=key (A.getD i 0) (by omega);have k2:=key (B.getD i 0) (by omega);unfold cN at k1 k2;rw [if_pos (ZC _)] at k1;rw [if_pos (ZC (B.getD i 0))] at k2
 split at k1
 ·split at k2
  ·omega
  ·cases k2
 ·cases k1
theorem Ni {B:List Nat} {i:Nat} (h:i+1 < B.length) (p q:Nat):N (bG B i) p q=if q=i+1 then min (N B p i+1) (N B p (i+2)) else N B p q:=by
 obtain ⟨f1,f2⟩:=zq h
 have e:bG B i=B.take i ++ max (B.getD i 0) (B.getD (i+1) 0) :: min (B.getD i 0) (B.getD (i+1) 0) :: B.drop (i+2):=by
  unfold bG
  split
  ·rename_i hw
   have hw':B.getD i 0 < B.getD (i+1) 0:=AbL hw;rw [f2,Nat.max_eq_right (by omega),Nat.min_eq_left (by omega)]
  ·rename_i hw
   have hw':¬ B.getD i 0 < B.getD (i+1) 0:=fun z=>hw (ZK z)
   rw [Nat.max_eq_left (by omega),AbR (by omega)];exact f1
 have lL:(B.take i).length=i:=by rw [ZW];omega
 generalize B.getD i 0=a at f1 e;generalize B.getD (i+1) 0=b at f1 e;generalize B.take i=L at f1 e lL;generalize B.drop (i+2)=R at f1 e;rw [e,f1,Cd,Cd,Cd,Cd,lL];have hc:cN p (max a b)+cN p (min a b)=cN p a+cN p b:=by unfold cN;split <;> split <;> split <;> split <;> omega
 have hm:cN p (max a b)=min 1 (cN p a+cN p b):=by unfold cN;split <;> split <;> split <;> omega
 by_cases h1:q=i+1
 ·subst h1
  rw [if_pos rfl,show i+1 - i=1 by omega,show i - i=0 by omega,show i+2 - i=2 by omega,Ae L p (i+1) (by omega),Ae L p i (by omega),Ae L p (i+2) (by omega),qg];show N L p L.length+(cN p (max a b)+N (min a b :: R) p 0)=min (N L p L.length+0+1) (N L p L.length+(cN p a+(cN p b+N R p 0)));rw [qg,qg,hm];omega
 ·rw [if_neg h1]
  congr 1
  by_cases h2:q<=i
  ·rw [show q - i=0 by omega,qg,qg]
  ·obtain ⟨k,hk⟩:∃ k,q - i=k+2:=⟨q - i - 2,by omega⟩
   rw [hk];show cN p (max a b)+(cN p (min a b)+N R p k)=cN p a+(cN p b+N R p k);omega
theorem Af (n p:Nat):∀ q,q<=n->N (List.range n) p q=q - p
 | 0,_=>by rw [qg];omega
 | q+1,h=>by
  rw [yf (by simp;omega),Af n p q (by omega),show (List.range n).getD q 0=q by rw [Zv,Z3 (by omega)];rfl];unfold cN
  split <;> omega
theorem Ew {B:List Nat} {p:Nat} {m:Nat}:∀ d,m+d<=B.length->N B p m<=N B p (m+d)/\N B p (m+d)<=N B p m+d
 | 0,_=>⟨ZC _,ZC _⟩
 | d+1,h=>by
  have:=Ew (B:=B) (p:=p) (m:=m) d (by omega);have e:=yf (B:=B) (p:=p) (q:=m+d) (by omega);have:cN p (B.getD (m+d) 0)<=1:=by unfold cN;split <;> omega
  rw [show m+(d+1)=m+d+1 by omega,e];omega
theorem We {B:List Nat} {p q m:Nat} (hq:q<=B.length) (hm:m<=B.length):N B p q<=N B p m+(q - m):=by
 by_cases h:m<=q
 ·have:=(Ew (B:=B) (p:=p) (m:=m) (q - m) (by omega)).2
  rw [show m+(q - m)=q by omega] at this;exact this
 ·have:=(Ew (B:=B) (p:=p) (m:=q) (m - q) (by omega)).1
  rw [show q+(m - q)=m by omega] at this;omega
def Mp (n:Nat) (A B C:List Nat):Prop:=∀ p q,p<=n->q<=n->(∀ m,m<=n->N A p q<=N B p m+N C m q)/\∃ m,m<=n/\N A p q=N B p m+N C m q
theorem Q5 {E:List Nat} {n:Nat} (hl:E.length=n):Mp n E E (List.range n):=fun p q hp hq=>by
 refine ⟨fun m hm=>?_,q,hq,?_⟩
 ·rw [Af n m q hq]
  exact We (by omega) (by omega)
 ·rw [Af n q q hq];omega
theorem Ex {E:List Nat} {n:Nat} {s:List Nat} (hl:E.length=n) (hs:∀ p∈s,p+1 < n):∀ k,k<=s.length->Mp n (bN E (s.take k)) E (bN (List.range n) (s.take k))
 | 0,_=>by rw [List.take_zero];exact Q5 hl
 | k+1,hk=>by
  have ih:=Ex hl hs k (by omega);have hi:s.getD k 0+1 < n:=hs _ (Z0 (getD_some (by omega)));rw [vd (by omega),oE,oE];have l1:(bN E (s.take k)).length=n:=by rw [jY];exact hl
  have l2:(bN (List.range n) (s.take k)).length=n:=by rw [jY];simp
  generalize bN E (s.take k)=F at ih l1;generalize bN (List.range n) (s.take k)=D at ih l2;generalize s.getD k 0=i at hi;intro p q hp hq;rw [Ni (by omega)];have st:∀ m,N (bG D i) m q=if q=i+1 then min (N D m i+1) (N D m (i+2)) else N D m q:=fun m=>Ni (by omega) m q
  by_cases h1:q=i+1
  ·subst h1
   rw [if_pos rfl];obtain ⟨a1,m1,b1,c1⟩:=ih p i hp (by omega);obtain ⟨a2,m2,b2,c2⟩:=ih p (i+2) hp (by omega);refine ⟨fun m hm=>?_,?_⟩
   ·rw [st m,if_pos rfl]
    have:=a1 m hm;have:=a2 m hm;omega
   ·by_cases hc:N F p i+1<=N F p (i+2)
    ·refine ⟨m1,b1,?_⟩
     rw [st m1,if_pos rfl];have:=a2 m1 b1;omega
    ·refine ⟨m2,b2,?_⟩
     rw [st m2,if_pos rfl];have:=a1 m2 b2;omega
  ·rw [if_neg h1]
   obtain ⟨a1,m1,b1,c1⟩:=ih p q hp hq;refine ⟨fun m hm=>?_,m1,b1,?_⟩
   ·rw [st m,if_neg h1];exact a1 m hm
   ·rw [st m1,if_neg h1];exact c1
theorem Tj {n:Nat} {A A' B C:List Nat} (h:Mp n A B C) (h':Mp n A' B C) {p q:Nat} (hp:p<=n) (hq:q<=n):N A p q<=N A' p q:=by
 obtain ⟨m,hm,e⟩:=(h' p q hp hq).2;rw [e];exact (h p q hp hq).1 m hm
structure Pn (n:Nat) (A:List Nat):Prop where
 len:A.length=n
 lt:∀ x∈A,x < n
theorem Prm.pn {t:List Nat} {n:Nat} (h:Prm t) (hn:t.length=n):Pn n t:=⟨hn,fun x hx=>by rw [← hn];exact h.lt hx⟩
theorem Jc {n:Nat} {A A' B C:List Nat} (a:Pn n A) (a':Pn n A') (h:Mp n A B C) (h':Mp n A' B C):A=A':=
 YK a.len a'.len a.lt a'.lt fun p q hp hq=>Nat.le_antisymm (Tj h h' hp hq) (Tj h' h hp hq)
theorem Ag {t:List Nat} (h:Prm t) {i:Nat} (hi:i < t.length):(inv t).getD (t.getD i 0) 0=i:=by
 have hx:=h.lt (Z0 (getD_some hi));rw [jD hx];exact iR h.nd (getD_some hi)
def lay (x y:List Nat):List Nat:=inv (bN (inv x) (Jb y).reverse)
structure Two (n:Nat) (x y:List Nat):Prop where
 px:Prm x
 py:Prm y
 lx:x.length=n
 ly:y.length=n
theorem Two.lt {n:Nat} {x y:List Nat} (h:Two n x y):∀ p∈(Jb y).reverse,p+1 < n:=fun p hp=>by
 have:=(Eu h.py).lt p (List.mem_reverse.mp hp);rw [h.ly] at this;exact this
theorem Nj {E ps:List Nat} (h:Prm E) (hp:∀ p∈ps,p+1 < E.length):Prm (bN E ps):=by
 have hl:=jY E ps;refine ⟨by rw [hl];exact h.le,?_⟩;rw [hl];exact (qU hp).trans h.pm
theorem Two.run {n:Nat} {x y:List Nat} (h:Two n x y):Prm (bN (inv x) (Jb y).reverse)/\(bN (inv x) (Jb y).reverse).length=n:=
 ⟨Nj (mO h.px) fun p hp=>by rw [bF,h.lx];exact h.lt p hp,by rw [jY,bF,h.lx]⟩
theorem Two.lay {n:Nat} {x y:List Nat} (h:Two n x y):Prm (lay x y)/\(lay x y).length=n/\Mp n (inv (lay x y)) (inv x) (inv y):=by
 obtain ⟨hP,hl⟩:=h.run;unfold My.lay;refine ⟨mO hP,by rw [bF];exact hl,?_⟩;rw [qW hP];have:=Ex (E:=inv x) (n:=n) (s:=(Jb y).reverse) (by rw [bF,h.lx]) h.lt (Jb y).reverse.length (ZC _);rw [AaN] at this;have e:=(Eu h.py).back;rw [h.ly] at e;rw [e] at this;exact this
theorem Jd (n:Nat) (h:n<=96):inv (List.range n)=List.range n:=
 (vf (Ja h) rfl fun i x e=>by
  obtain ⟨hi,e⟩:=Zx.mp e;rw [List.getElem_range] at e;rw [← e,Z3 (by simpa using hi)]).symm
def rs (m:Nat) (e:Nat->Nat->Bool) (far i:Nat):List Nat:=(List.range far).flatMap fun j=>if e i j=true then [] else [m - 1 - i+j]
def al (m far:Nat) (e:Nat->Nat->Bool) (n:Nat):List Nat:=(List.range n).flatMap fun i=>rs m e far i
def Dn (n:Nat) (ps:List Nat):List Nat:=bN (List.range n) ps
theorem wK (E a b:List Nat):bN E (a ++ b)=bN (bN E a) b:=by unfold bN;rw [List.foldl_append]
theorem vh {n:Nat} {ps:List Nat} (h:n<=96) (hp:∀ p∈ps,p+1 < n):Prm (Dn n ps):=Gw h hp
theorem sH (n:Nat) (ps:List Nat):(Dn n ps).length=n:=by unfold Dn;rw [jY];simp
theorem YL {n:Nat} {a b:List Nat} (hb:∀ p∈b,p+1 < n):Mp n (Dn n (a ++ b)) (Dn n a) (Dn n b):=by
 have:=Ex (E:=Dn n a) (n:=n) (s:=b) (sH n a) hb b.length (ZC _);rw [AaN] at this;unfold Dn at this ⊢;rw [wK];exact this
theorem jd {α β:Type} {f g:α->List β}:∀ {l:List α},(∀ x∈l,f x=g x)->l.flatMap f=l.flatMap g
 | [],_=>rfl
 | x :: l,h=>by rw [List.flatMap_cons,List.flatMap_cons,h x (by simp),jd fun y hy=>h y (by simp [hy])]
theorem Ey {m far n:Nat} {e:Nat->Nat->Bool} {p:Nat} (hp:p∈al m far e n):∃ i j,i < n/\j < far/\p=m - 1 - i+j:=by
 unfold al rs at hp;obtain ⟨i,hi,h⟩:=List.mem_flatMap.mp hp;obtain ⟨j,hj,h⟩:=List.mem_flatMap.mp h;refine ⟨i,j,ZX.mp hi,ZX.mp hj,?_⟩
 split at h
 ·cases h
 ·exact Aad.mp h
theorem yg {m far:Nat} {e:Nat->Nat->Bool}:∀ p∈al m far e m,p+1 < m+far:=fun p hp=>by
 obtain ⟨i,j,hi,hj,rfl⟩:=Ey hp;omega
theorem Nk {A E B:List Nat} {k p:Nat} (h:p+1 < E.length):bG (A ++ (E.map (k+ ·) ++ B)) (A.length+p)=A ++ ((bG E p).map (k+ ·) ++ B):=by
 have g:∀ i,i < E.length->(A ++ (E.map (k+ ·) ++ B)).getD (A.length+i) 0=k+E.getD i 0:=fun i hi=>by
  rw [Zv,gV (by omega),Aa9,Aab (by simpa using hi),ZM,getD_some hi];rfl
 have w:uE (A ++ (E.map (k+ ·) ++ B)) (A.length+p)=uE E p:=by
  unfold uE;rw [g p (by omega),Nat.add_assoc,g (p+1) h];exact AbT.mpr (by omega)
 unfold bG;rw [w]
 split
 ·rw [g p (by omega),Nat.add_assoc,g (p+1) h]
  have st:∀ (M:List Nat) (x i:Nat),i < M.length->(A ++ (M ++ B)).set (A.length+i) x=A ++ (M.set i x ++ B):=fun M x i hi=>by
   rw [List.set_append_right _ _ (by omega),Aa9,List.set_append_left _ _ hi]
  rw [st _ _ p (by rw [ZJ];omega),st _ _ (p+1) (by rw [List.length_set,ZJ];omega),List.map_set,List.map_set]
 ·rfl
theorem Ah {A B:List Nat} {k:Nat}:∀ {ps E:List Nat},(∀ p∈ps,p+1 < E.length)->bN (A ++ (E.map (k+ ·) ++ B)) (ps.map (A.length+ ·))=A ++ ((bN E ps).map (k+ ·) ++ B)
 | [],_,_=>rfl
 | p :: ps,E,h=>by
  show bN (bG _ (A.length+p)) (ps.map (A.length+ ·))=_;rw [Nk (h p (by simp))];exact Ah (ps:=ps) (E:=bG E p) fun q hq=>by rw [qT];exact h q (by simp [hq])
theorem Wf {k n:Nat} {ps:List Nat} (h:∀ p∈ps,p+1 < n):Dn (k+n) (ps.map (k+ ·))=List.range k ++ (Dn n ps).map (k+ ·):=by
 have:=Ah (A:=List.range k) (B:=[]) (k:=k) (ps:=ps) (E:=List.range n) (fun p hp=>by simpa using h p hp);rw [AaC,AaC,Abu,← Abg] at this;exact this
theorem Q6 {n r:Nat} {ps:List Nat} (h:∀ p∈ps,p+1 < n):Dn (n+r) ps=Dn n ps ++ (List.range r).map (n+ ·):=by
 have:=Ah (A:=[]) (B:=(List.range r).map (n+ ·)) (k:=0) (ps:=ps) (E:=List.range n) (fun p hp=>by simpa using h p hp);have z:∀ l:List Nat,l.map (0+ ·)=l:=fun l=>by simp
 simp only [Aba,AaL,z] at this;unfold Dn;rw [Abg];exact this
theorem Q7 {k:Nat} {G:List Nat} (hG:Prm G) (hk:k+G.length<=96):inv (List.range k ++ G.map (k+ ·))=List.range k ++ (inv G).map (k+ ·):=by
 have pm:Prm (List.range k ++ G.map (k+ ·)):=by
  have hl:(List.range k ++ G.map (k+ ·)).length=k+G.length:=by simp
  refine ⟨by omega,?_⟩;rw [hl,Abg];exact Abi _ (hG.pm.map _)
 refine (vf pm (by simp [bF]) fun i x e=>?_).symm;by_cases hi:i < k
 ·rw [Aab (by simpa using hi),Z3 hi] at e
  obtain rfl:i=x:=Z2 e;rw [Aab (by simpa using hi),Z3 hi]
 ·rw [gV (by simp;omega),Abu,ZM] at e
  obtain ⟨y,hy,rfl⟩:=AbC.mp e;have yl:y < G.length:=hG.lt (Z0 hy);rw [gV (by simp),Abu,Aa9,ZM,getD_some (by rw [bF];exact yl),jD yl,iR hG.nd hy];show some (k+(i - k))=some i;rw [Nat.add_sub_cancel' (by omega)]
theorem Nm {r:Nat} {G:List Nat} (hG:Prm G) (hk:G.length+r<=96):inv (G ++ (List.range r).map (G.length+ ·))=inv G ++ (List.range r).map (G.length+ ·):=by
 have pm:Prm (G ++ (List.range r).map (G.length+ ·)):=by
  have hl:(G ++ (List.range r).map (G.length+ ·)).length=G.length+r:=by simp
  refine ⟨by omega,?_⟩;rw [hl,Abg];exact hG.pm.append_right _
 refine (vf pm (by simp [bF]) fun i x e=>?_).symm;by_cases hi:i < G.length
 ·rw [Aab hi] at e
  have yl:x < G.length:=hG.lt (Z0 e);rw [Aab (by rw [bF];exact yl),getD_some (by rw [bF];exact yl),jD yl,iR hG.nd e]
 ·rw [gV (by omega),ZM] at e
  obtain ⟨y,hy,rfl⟩:=AbC.mp e;obtain ⟨h1,h2⟩:=Zx.mp hy;rw [List.getElem_range] at h2;rw [Abu] at h1;subst h2;rw [gV (by rw [bF];omega),bF,Aa9,ZM,Z3 h1];show some (G.length+(i - G.length))=some i;rw [Nat.add_sub_cancel' (by omega)]
theorem step_get {E:List Nat} {q i:Nat} (h:i < q\/q+1 < i):(bG E q).getD i 0=E.getD i 0:=by
 unfold bG
 split
 ·rw [Zv,Aaf (by omega),Aaf (by omega),← Zv]
 ·rfl
def LN (m far:Nat) (e:Nat->Nat->Bool):List Nat:=inv (Dn (m+far) (al m far e m))
theorem j6 (m far:Nat) (e:Nat->Nat->Bool):(LN m far e).length=m+far:=by unfold LN;rw [bF,sH]
theorem Np {m far:Nat} {e:Nat->Nat->Bool} (h:m+far<=96):Prm (LN m far e):=mO (vh h yg)
theorem Q8 (mu ml far:Nat) (e:Nat->Nat->Bool):al (mu+ml) far e (mu+ml)=(al mu far e mu).map (ml+ ·) ++ al ml far (fun i j=>e (mu+i) j) ml:=by
 unfold al;rw [Abg,List.flatMap_append,List.flatMap_map,List.map_flatMap]
 congr 1
 ·refine jd fun i hi=>?_
  have hi:=ZX.mp hi;unfold rs;rw [List.map_flatMap];refine jd fun j hj=>?_
  split
  ·rfl
  ·show [mu+ml - 1 - i+j]=[ml+(mu - 1 - i+j)];congr 1;omega
 ·refine jd fun i hi=>?_
  have hi:=ZX.mp hi;unfold rs;refine jd fun j hj=>?_
  show (if e (mu+i) j=true then [] else [mu+ml - 1 - (mu+i)+j])=_;rw [show mu+ml - 1 - (mu+i)+j=ml - 1 - i+j by omega]
theorem Je {n:Nat} {a b:List Nat} (h:n<=96) (ha:∀ p∈a,p+1 < n) (hb:∀ p∈b,p+1 < n):lay (inv (Dn n a)) (inv (Dn n b))=inv (Dn n (a ++ b)):=by
 have pa:=vh h ha;have pb:=vh h hb;have pab:Prm (Dn n (a ++ b)):=vh h fun p hp=>(Aaw.mp hp).elim (ha p) (hb p)
 have T:Two n (inv (Dn n a)) (inv (Dn n b)):=⟨mO pa,mO pb,by rw [bF,sH],by rw [bF,sH]⟩;obtain ⟨p1,l1,m1⟩:=T.lay;rw [qW pa,qW pb] at m1;have e:=Jc ((mO p1).pn (by rw [bF];exact l1)) (pab.pn (sH _ _)) m1 (YL hb);rw [← e,qW p1]
theorem Nq {mu ml far:Nat} {e:Nat->Nat->Bool} (h:mu+ml+far<=96):
  lay (List.range ml ++ (LN mu far e).map (ml+ ·)) (LN ml far (fun i j=>e (mu+i) j) ++ (List.range mu).map (ml+far+ ·))=LN (mu+ml) far e:=by
 have p1:=vh (n:=mu+far) (by omega) (yg (m:=mu) (far:=far) (e:=e));have p2:=vh (n:=ml+far) (by omega) (yg (m:=ml) (far:=far) (e:=fun i j=>e (mu+i) j));have l2:=sH (ml+far) (al ml far (fun i j=>e (mu+i) j) ml)
 have e1:List.range ml ++ (LN mu far e).map (ml+ ·)=inv (Dn (mu+ml+far) ((al mu far e mu).map (ml+ ·))):=by
  rw [show mu+ml+far=ml+(mu+far) by omega,Wf yg,Q7 p1 (by rw [sH];omega)];rfl
 have e2:LN ml far (fun i j=>e (mu+i) j) ++ (List.range mu).map (ml+far+ ·)=inv (Dn (mu+ml+far) (al ml far (fun i j=>e (mu+i) j) ml)):=by
  have:=Nm (r:=mu) p2 (by rw [l2];omega);rw [l2] at this;rw [show mu+ml+far=(ml+far)+mu by omega,Q6 yg,this];rfl
 rw [e1,e2,Je h,← Q8]
 ·rfl
 ·intro p hp
  obtain ⟨q,hq,rfl⟩:=Aam.mp hp;have:=yg q hq;omega
 ·intro p hp
  have:=yg p hp;omega
theorem Q9 (m far:Nat) (e:Nat->Nat->Bool) (n:Nat):al m far e (n+1)=al m far e n ++ rs m e far n:=by
 unfold al;rw [AaD,List.flatMap_append];simp
def top (i:Nat):Stmt:=PySem.Challenge.pw_panethread_k57_whole_lines_as_anew.main.body.getD i (.Pass ⟨0,0,0,0⟩)
abbrev qi:Stmt:=top 15
abbrev qj:Stmt:=top 16
abbrev ql:Stmt:=top 17
abbrev vm:Stmt:=top 18
abbrev vo:Stmt:=top 19
abbrev oW:Stmt:=top 20
abbrev qm:Stmt:=top 21
abbrev qp:Stmt:=top 22
abbrev uF:Stmt:=top 24
abbrev sI:Stmt:=top 25
abbrev qt:Stmt:=top 26
abbrev jT:Stmt:=top 30
abbrev lX:Stmt:=top 31
abbrev sJ:Stmt:=top 32
abbrev sO:Stmt:=top 33
abbrev vp:Stmt:=top 34
abbrev oX:Stmt:=top 35
abbrev qX:Stmt:=top 36
abbrev oY:Stmt:=top 39
abbrev lY:Stmt:=top 40
abbrev sS:Stmt:=top 41
abbrev sU:Stmt:=top 42
abbrev sV:Stmt:=top 44
abbrev sW:Stmt:=top 45
abbrev oZ:Stmt:=top 46
abbrev Ez:Stmt:=top 47
abbrev lJ:Stmt:=top 49
abbrev sX:Stmt:=top 52
abbrev o4:Stmt:=top 53
abbrev sY:Stmt:=top 56
abbrev qw:Stmt:=top 57
abbrev mQ:Stmt:=top 58
abbrev qY:Stmt:=top 59
abbrev mR:Stmt:=top 60
abbrev lK:Stmt:=top 61
abbrev sZ:Stmt:=top 62
abbrev o5:Stmt:=top 63
abbrev tD:Stmt:=top 64
abbrev o6:Stmt:=top 65
abbrev Ce:Stmt:=top 66
abbrev jE:Stmt:=iH 0 (top 37)
abbrev m8:Stmt:=iH 3 (top 37)
abbrev f9:Stmt:=iH 0 (top 51)
abbrev j7:Stmt:=iH 0 (top 54)
abbrev o7:Stmt:=iH 3 (top 54)
abbrev gq:Stmt:=iH 8 (top 54)
abbrev lZ:Stmt:=iH 10 (top 54)
abbrev jr:Stmt:=iH 11 (top 54)
abbrev jt:Stmt:=iH 12 (top 54)
abbrev m9:Stmt:=iH 13 (top 54)
abbrev o8:Stmt:=iH 14 (top 54)
abbrev ni:Stmt:=iH 15 (top 54)
abbrev je:Stmt:=iH 16 (top 54)
abbrev jF:Stmt:=iH 17 (top 54)
abbrev j8:Stmt:=iH 18 (top 54)
abbrev mj:Stmt:=iH 19 (top 54)
abbrev jf:Stmt:=iH 20 (top 54)
abbrev tE:Stmt:=iH 21 (top 54)
abbrev qx:Stmt:=iH 22 (top 54)
abbrev nG:Stmt:=iH 23 (top 54)
abbrev o9:Stmt:=iH 24 (top 54)
abbrev qy:Stmt:=iH 25 (top 54)
abbrev Gx:Stmt:=initOf (top 3)
abbrev yh:Stmt:=initOf (top 4)
abbrev oF:Stmt:=initOf (top 5)
abbrev Cg:Stmt:=initOf (top 6)
abbrev vU:Stmt:=initOf (top 7)
abbrev Ci:Stmt:=initOf (top 8)
abbrev oG:Stmt:=initOf (top 9)
local macro_rules | `(tactic| walk_at "s") => `(tactic| (with_reducible repeat (first | refine mH ?_ | walk_at "0")))
local macro_rules | `(tactic| apply $t) => `(tactic| (refine $t;walk_at "s"))
local macro_rules | `(tactic| walk_at "n") => `(tactic| (with_reducible repeat (walk_at "0")))
local macro_rules | `(tactic| walk_at $s:str) => do
 let t:=s.getString.toList
 let i (x:String):=Lean.mkIdent (x.splitOn "." |>.foldl (fun a b=>Lean.Name.str a b) .anonymous)
 if t.head?==some '@' then
  let l:=((s.getString.drop 1).toString.splitOn " ")
  let a:=l.drop 2|>.map fun x=>(i x:Lean.Term)
  let hs:=List.toArray ((List.replicate l[1]!.toNat! "_").map fun x=>(i x:Lean.Term))
  let some nm:=("- L2.pR L2.nY L2.mF L2.Bg L2.usN5".splitOn " ")[l[1]!.toNat!]? | Lean.Macro.throwUnsupported
  let fk←`(fun _ _ _ _ _ _ us hl=>$(i nm) (fun $hs* =>rfl) us hl)
  let e:=(a.toArray.push fk).push (←`(?_))
  let b:=#["f","cdv","A","outer","s","H","vs","Q","E","hr","h"].map i
  let e:=e.push (←`(fun $b* =>?_))
  let w:=Lean.Syntax.mkApp (i l[0]!) e
  return ←`(tactic| (refine $w;(·intro _ _ _ _ h;repeat (first | (obtain ⟨e,_⟩:=h;subst e;rfl) | obtain ⟨_,h⟩:=h));have $(i "hu"):ident:=$(i "hr.units0");have $(i "hu64"):ident:=$(i "hr.units")))
 unless t.head?==some '=' do Lean.Macro.throwUnsupported
 let nx:StateT (List Char) Lean.MacroM Char:=do match ←get with
  |c::r=>do set r;pure c
  |[]=>throw .unsupportedSyntax
 let up (e:Char):StateT (List Char) Lean.MacroM String:=modifyGet fun l=>(String.ofList (l.takeWhile (·!=e)),(l.dropWhile (·!=e)).drop 1)
 let tb:=("!aq ? ?
$aa ? ao
%aA ?
&aa ? ?
'aG i:=? ? rfl bT ? rfl
(ak #2
)aJ ?
*ak #1
+ak #4
}Ehr.mono *0
,aM ? =}E bw ?
-ak #3
.ak #5
/bC K:=K rfl ? aB
}FaF K:=K rfl
0aL =}F bw T.b_len bc ?
1bH ? ? bx
2hr.mono *0
3aQ i:=? ? rfl bT rfl
}Gak #0
4aU =}G T.o_Kept ? ? aH ?
5aP K:=K rfl =}G
6aZ ?
7aP K:=K rfl ?
}Hak #1
8aa =}H ao
9ak #6
:ak #0
=bj aN ? ?
}Iak #2
?aa =}I ao
Aaa aB ?
BbC K:=K rfl ? ?
Caa =}G ao
Daa =}H ?
EbJ K:=K rfl =}G ?
Faa =}G ?
GaW ? ?
Hhr.mono *1
Ibj aN ? aB
Jgn Aai rfl ? ? ?
KdZ ?
}Jak #3
Laa =}J ao
MfH K:=K rfl
NiK ?
Ogj K:=K rfl Z5 Z6 Z7 cF ? ?
PlV ?
Qkj ?
RaW ? fX
SdZ ao
TiZ K:=K rfl hu64
UeQ ?
Vaa aB ao
Wj4 ?
XrK λ_,_=>rfl
Ym5 K:=K rfl rfl ?
ZiT N:=? sc:=? N':=? *2
_yH ? *2 ?
`rJ #0
aak #7
buv ? ?
coN ?
doO K:=K rfl ?
egk ? ? ?
flE hu64
geU ts:=pN ? ?
hbj ir ? ?
iuD ?
jfG ? ? ? fP
kaa jq ?
lbj ir ? aB
mmL K:=K rfl rfl bw ? ?
neU ts:=p6 ? ?
opY sub:=? ? rfl rfl rfl ? λC,s₀,H₀,ex=>? λC,s₀,H₀,ex=>jQ λC,s₀,H₀,ex=>?
pjj bw T.b_range ?
qxN ? ?
rxM ?
saY tZ ? ? *3
}KaJ BK
taA =}K
uaY ? ? ? *3
vxK ?
wak #8
xaY ? ? aB *3
yfG ? ? fP ?
zgk ? aB set_list
|bj kI ? ?
~!u5 ? ?
~$qO ?
~%ak ?
}LjB K:=K rfl
~&aL =}L bw T.b_isinstance dY ?
~'aA pZ
~(rT bw ?
~)yc K:=K rfl ?
~*aY yR ? ? *3
~+aY wX ? ? *3
~,uz ? ?
~-uy K:=K rfl rfl ?
~.bJ K:=K rfl ? ?
~/aY tY ? aB *3
~0zV bw ? *2
~1aY tY ? ? *3
~2BL ? ? ? *3
~3bH ? ? ?
}MoK K:=K rfl rfl
~4uw =}M bw T.b_list kO ?
~5aY ? ? jq *3
~6Ln ? ? ?
~7aY Ab ? zg *3
~8bj pW ? aB
~9bj pW ? ?
~:aU ? T.o_Kept ? ? ? ?
~=qR ? ? ? bw aH ?
~?wI ? ? bw aH ? *2
~AeQ aB
~Baa jq ao
~CoA ? T.o_Kept ? ? ?
~DSu ?
~EBV ? ? rfl bw aH ? *2
~F? P:=P w:=w base:=base ?
~GzW bw T.b_list kO
~HzW bw ? Lg
~IaL ? bw ? Ld ?
~JBw rfl
~KDY K:=K rfl
~LrT Vu ?
~MEf K:=K rfl hu64
~Ngk ? ? set_list
~Ogj K:=K rfl PySem.F.plainAttrs_str PySem.F.slot_str_join PySem.F.type_str_join Gh jq ?
~PGk i:=? ? rfl bT sub:=? ? rfl rfl rfl ? λC,s₀,H₀,ex=>? λC,s₀,H₀,ex=>jQ λC,s₀,H₀,ex=>? rfl
~Qaz f9
~RoA ? T.o_Kept ? ? aH
~SaJ zg
~TaB
~Ubj kI aB ?
~Vbj J7 aB aB
~WaY tZ ? aB *3
~Xbj xW ? aB
~YaQ i:=? ? rfl Zr rfl
~ZaM ? ? bw ?
~_aL =}L Vu T.b_isinstance dY ?
~`MJ K:=K rfl hu64
~aaL ? bw ? Lb ?
~bzm rfl
~cqR T.o_Kept ? ? bw ? ?
~daG i:=? ? rfl bT aB rfl
~ezW bw ? Lf
~fzW bw ? Gi
~gQv wX wX ? ? ?
~haL ? bw ? dY ?
~iIh K:=K rfl
~jzW bw ? Le
~kaG i:=? ? rfl bT QG rfl
~lV6 K:=K rfl hu64
~meU ts:=p6 BK ?
~nwI ? ? bw ? ? *2
~oEl rfl bw ? bw ? ?
~pHW bw ? ?
~qLp Aai ? ?
~raY yR ? aB *3
~sV5 i:=? ? rfl bT aB PJ rfl
~tIa K:=K rfl rfl bw ? bw ? ?
~uLr K:=K rfl hu64
~vaz uF
~wBL ? ? aB *3
~xj_or ? ?
~yaz jT
~zMu K:=K rfl rfl bw ? ?
~|En K:=K rfl bw ? bw ? ?
}!az qX
}$aG i:=? ? rfl Zr ? rfl
}%az lJ
}&Et rfl bw ? bw ? ?
}'Ln ? ? aB
}(aL ? bw ? Vz ?
})Ik rfl
}*Wa rfl bw ? ? aB
}+QX K:=K rfl UV ? aB
},oA ? ? ? ? aH
}-kj ao
}.bj Pz ? aB
}/aJ aB
}0bj kI ? aB
}1bj xW ? ?
}2aG i:=? ? rfl Zr jq rfl
}3az mQ
}4aL ? bw ? Vy ?
}5IK rfl
}6az qY
}7qR T.o_Kept ? ? bw aH ?
}8az mR
}9aL ? Vu T.b_len bc ?
}:aF K:=K rfl
}=az lK
}?zW Vu ? Lf
}AzW Vu ? Gi
}Bbj aN aB ?
}CQt K:=K rfl Z5 PySem.F.slot_list_pop PySem.F.type_list_pop Vg ?
}DfG ? ? ? ?".splitOn "\n")
 let sc:=String.ofList ((t.drop 1).takeWhile (·!=';'))
 let by_ (n:String):Lean.MacroM Lean.Term:=match n with
  |"0"=>`(by decide)
  |"1"=>`(by omega)
  |"2"=>`(by trivial)
  |"3"=>`(by walk_at "p")
  |_=>throw .unsupportedSyntax
 let rec g:Nat->StateT (List Char) Lean.MacroM Lean.Term
 |0=>throw .unsupportedSyntax
 |n+1=>do
  let h:=g n
  let c←nx
  match c with
  |'{'=>return i (←up '}')
  |'^'=>return i (sc++".nd")
  |'#'=>return Lean.quote ((←nx).toNat-48)
  |'['=>do
   let l:=((←up ']').splitOn " ").map fun x:String=>(Lean.quote x:Lean.Term)
   `([$(l.toArray),*])
  |'<'=>do
   let l:=(←up '>').toList.map fun c=>if c=='.' then (i "none":Lean.Term) else Lean.Syntax.mkApp (i "some") #[Lean.quote (c.toNat-48)]
   `([$(l.toArray),*])
  |_=>do
  let c←if c=='~'||c=='}'||c==';' then (fun d=>String.ofList [c,d])<$>nx else pure c.toString
  let some e:=tb.find? (·.startsWith c) | throw .unsupportedSyntax
  let ar (x:String):StateT (List Char) Lean.MacroM Lean.Term:=fun s=>
   let y:=(x.drop 1).toString
   match x.front with
   |'?'=>h s
   |'='=>do return ((←h y.toList).1,s)
   |'*'=>do return (←by_ y,s)
   |'#'=>pure (Lean.quote y.toNat!,s)
   |'$'=>pure (Lean.quote y,s)
   |_=>pure (i x,s)
  let mut a:=#[]
  for x in ((e.drop c.length).toString).splitOn " " do
   let v←ar ((x.splitOn ":=").getLast!.splitOn "=>").getLast!
   if x.front=='λ' then
    let b:=((((x.drop 1).toString.splitOn "=>").head!.splitOn ",").map fun x=>(i x:Lean.Term)).toArray
    a:=a.push (←`(fun $b* =>$v))
   else if let [k,_]:=x.splitOn ":=" then a:=a.push ⟨←`(Lean.Parser.Term.namedArgument| ($(i k):ident:=$v))⟩
   else a:=a.push v
  return Lean.Syntax.mkApp a[0]! (a.extract 1 a.size)
 let (d,_)←(g 500).run ((t.dropWhile (·!=';')).drop 1)
 `(tactic| (refine ⟨_,$d,?_⟩;walk_at "s"))
structure Txt (K:W.Frag) (mg:Str->Option Value):Prop where
 b_all:mg "all"=none
 b_bool:mg "bool"=none
 b_enumerate:mg "enumerate"=none
 b_int:mg "int"=none
 b_isinstance:mg "isinstance"=none
 b_len:mg "len"=none
 b_list:mg "list"=none
 b_max:mg "max"=none
 b_min:mg "min"=none
 b_range:mg "range"=none
 b_reversed:mg "reversed"=none
 b_str:mg "str"=none
 b_sum:mg "sum"=none
 b_tuple:mg "tuple"=none
 b_zip:mg "zip"=none
 c_CROSS:∃ t,mg "CROSS"=some (.str "x" t)
 c_LETTERS:∃ t,mg "LETTERS"=some (.str "abcdefghijklmnopqrstuvwxyz" t)
 c_MOST_LINES:∃ t,mg "MOST_LINES"=some (.int 96 t)
 c_MOST_SIGNS:∃ t,mg "MOST_SIGNS"=some (.int 48 t)
 c_POINT:∃ t,mg "POINT"=some (.str "." t)
 c_TOUCH:∃ t,mg "TOUCH"=some (.str "o" t)
 d_is_number:fO K mg "is_number" qi
 d_is_within:fO K mg "is_within" qj
 d_is_letter:fO K mg "is_letter" ql
 d_is_sign:fO K mg "is_sign" vm
 d_is_span:fO K mg "is_span" vo
 d_need_place:fO K mg "need_place" oW
 d_need_span:fO K mg "need_span" qm
 d_need_sign:fO K mg "need_sign" qp
 d_is_row:fO K mg "is_row" uF
 d_need_row:fO K mg "need_row" sI
 d_need_rows:fO K mg "need_rows" qt
 d_lines_above:fO K mg "lines_above" jT
 d_signs_of_row:fO K mg "signs_of_row" lX
 d_over_row:fO K mg "over_row" sJ
 d_cells_of:fO K mg "cells_of" sO
 d_ends_of:fO K mg "ends_of" vp
 d_over_cells:fO K mg "over_cells" oX
 d_ways_of:fO K mg "ways_of" qX
 d_is_turning:fO K mg "is_turning" oY
 d_need_turning:fO K mg "need_turning" lY
 d_straight:fO K mg "straight" sS
 d_opposite:fO K mg "opposite" sU
 d_do_steps:fO K mg "do_steps" sV
 d_steps_of:fO K mg "steps_of" sW
 d_need_alike:fO K mg "need_alike" oZ
 d_laid:fO K mg "laid" Ez
 d_lines_over:fO K mg "lines_over" lJ
 d_covering:fO K mg "covering" sX
 d_laid_lines:fO K mg "laid_lines" o4
 d_law_cell:fO K mg "_law_cell" sY
 d_law_drawn:fO K mg "_law_drawn" qw
 d_law_signs:fO K mg "_law_signs" mQ
 d_law_row:fO K mg "_law_row" qY
 d_law_lines:fO K mg "_law_lines" mR
 d_law_wholes:fO K mg "_law_wholes" lK
 d_law_deed:fO K mg "_law_deed" sZ
 d_law_chosen:fO K mg "_law_chosen" o5
 d_law_step:fO K mg "_law_step" tD
 d_law_stands:fO K mg "_law_stands" o6
 d_law:fO K mg "law" Ce
 x_NoRow:rD K mg "NoRow" ["found"] "NoRow.__init__" Gx
 x_NoLetter:rD K mg "NoLetter" ["found"] "NoLetter.__init__" yh
 x_NoPlace:rD K mg "NoPlace" ["found"] "NoPlace.__init__" oF
 x_NoSpan:rD K mg "NoSpan" ["begin","end"] "NoSpan.__init__" Cg
 x_NoTurning:rD K mg "NoTurning" ["found"] "NoTurning.__init__" vU
 x_Unlike:rD K mg "Unlike" ["one","other"] "Unlike.__init__" Ci
 x_TooLong:rD K mg "TooLong" ["found"] "TooLong.__init__" oG
 o_Board:xZ K mg "Board"
 n_Board:∀ f∈(["held_side","held_top","held_cells","held_coming","held_lines","held_ways"]:List Str),NoAttr K (aO mg "Board") f
 o_Node:xZ K mg "Node"
 n_Node:∀ f∈(["mark","held_lines","halves","many","tall"]:List Str),NoAttr K (aO mg "Node") f
 o_Kept:xZ K mg "Kept"
 n_Kept:∀ f∈(["held_side","held_top","last_mark","mark_before","held_root"]:List Str),NoAttr K (aO mg "Kept") f
 m_Board___init__:eV K mg "Board" "__init__" "Board.__init__" jE
 m_Board_lines:eV K mg "Board" "lines" "Board.lines" m8
 m_Node___init__:eV K mg "Node" "__init__" "Node.__init__" f9
 m_Kept___init__:eV K mg "Kept" "__init__" "Kept.__init__" j7
 m_Kept_lines:eV K mg "Kept" "lines" "Kept.lines" o7
 m_Kept_covering_nodes:eV K mg "Kept" "covering_nodes" "Kept.covering_nodes" gq
 m_Kept_between:eV K mg "Kept" "between" "Kept.between" lZ
 m_Kept_fresh_mark:eV K mg "Kept" "fresh_mark" "Kept.fresh_mark" jr
 m_Kept_strip_node:eV K mg "Kept" "strip_node" "Kept.strip_node" jt
 m_Kept_joined:eV K mg "Kept" "joined" "Kept.joined" m9
 m_Kept_built:eV K mg "Kept" "built" "Kept.built" o8
 m_Kept_evened:eV K mg "Kept" "evened" "Kept.evened" ni
 m_Kept_evened_down:eV K mg "Kept" "evened_down" "Kept.evened_down" je
 m_Kept_evened_up:eV K mg "Kept" "evened_up" "Kept.evened_up" jF
 m_Kept_with_put:eV K mg "Kept" "with_put" "Kept.with_put" j8
 m_Kept_without:eV K mg "Kept" "without" "Kept.without" mj
 m_Kept_with_change:eV K mg "Kept" "with_change" "Kept.with_change" jf
 m_Kept_put:eV K mg "Kept" "put" "Kept.put" tE
 m_Kept_drop:eV K mg "Kept" "drop" "Kept.drop" qx
 m_Kept_change:eV K mg "Kept" "change" "Kept.change" nG
 m_Kept_retop:eV K mg "Kept" "retop" "Kept.retop" o9
 m_Kept_twin:eV K mg "Kept" "twin" "Kept.twin" qy
def Kd (K:W.Frag) (H:Hp) (v:V):Prop:=(∃ n,v= .int n)\/(∃ b,v= .bl b)\/∃ T,TyOf K H v (.type T)/\PySem.W.kitOne K (.type T) (.type "int")=some false
theorem Kd.same {K:W.Frag} {H H':Hp} {v:V} (h:Kd K H v) (s:Same H H'):Kd K H' v:=by
 rcases h with h | h | ⟨T,a,c⟩
 ·exact .inl h
 ·exact .inr (.inl h)
 ·exact .inr (.inr ⟨T,a.mono fun b o e _=>s b o e,c⟩)
def YM:V->Bool
 | .int _=>true
 | _=>false
def inB (v:V) (lo hi:Int):Bool:=match v with
 | .int n=>decide (lo<=n) && decide (n<=hi)
 | _=>false
section
variable {P:Program} {w:World} {K:W.Frag} {mg:Str->Option Value} {base:Heap}
theorem wg:Zt oF "self":=by trivial
theorem vq:Zt oF "found":=by trivial
theorem Same.put {H H':Hp} {p:Addr} {o:HO} (s:Same H H') (hn:H p=none):Same H (upd H' p o):=fun b u e=>by
 rw [aC (fun z=>by rw [z,hn] at e;cases e)];exact s b u e
theorem Same.back {H H':Hp} {p:Addr} (s:Same H H') (h:H' p=none):H p=none:=by
 cases e:H p with
 | none=>rfl
 | some o=>rw [s _ _ e] at h;cases h
theorem Wg {H:Hp} {v:V} {T:String} (h:TyOf K H v (.type T)) (k:PySem.W.kitOne K (.type T) (.type "int")=some false):YM v=false/\∀ lo hi,inB v lo hi=false:=by
 cases v with
 | int z=>
  cases h;have:PySem.W.kitOne K (.type "int") (.type "int")=some true:=rfl;rw [this] at k;cases k
 | _=>exact ⟨rfl,fun _ _=>rfl⟩
theorem Cj:aD ["self","found"] ["self","found"] (az oF):=⟨rfl,rfl,rfl,by trivial,rfl,by trivial,by trivial⟩
theorem EY (T:Txt K mg):Xe P w K mg base 1 "NoPlace" (aO mg "NoPlace") ["found"]:=mkX T.x_NoPlace Cj (fun _ _ _ _ _ _ us hl=>L2.nY (fun _ _=>rfl) us hl) rfl fun f cdv A outer s H vs Q E hr h=>⟨_,(aA (Gs (K:=K) rfl (Lk 0 wg) (Lk 1 vq))),rd1 T.x_NoPlace.c.cl.cls (T.x_NoPlace.na _ (by simp)) h⟩
def Nr (K:W.Frag):Sp:=fun vs H Q _=>∃ v:V,vs=[v]/\Kd K H v/\Q (.bl (YM v)) H
theorem Ai:aD ["thing"] ["thing"] (az qi):=⟨rfl,rfl,rfl,by trivial,rfl,by trivial,by trivial⟩
theorem qz (T:Txt K mg):Has P w K mg base 1 "is_number" ["thing"] (Nr K):=by
 walk_at "@fY 1 T.d_is_number Ai";obtain ⟨v,rfl,hT,q⟩:=h;walk_at "=_;%)q~&F$~e{T.b_int}r~D~&F$~f{T.b_bool}";rcases hT with ⟨n,rfl⟩ | ⟨b,rfl⟩ | ⟨T',hty,hk⟩
 ·apply rH (.int _) rfl ?_
  apply rH (.int _) rfl ?_;exact q
 ·apply rH (.bl _) (b:=true) (by rfl) ?_
  apply rH (.bl _) (b:=true) (by rfl) ?_;exact q
 ·apply rH hty hk ?_
  rw [(Wg hty hk).1] at q;exact q
def Nt (K:W.Frag):Sp:=fun vs H Q _=>∃ (v:V) (lo hi:Int),vs=[v,.int lo,.int hi]/\Kd K H v/\Q (.bl (inB v lo hi)) H
theorem Aj:aD ["thing","low","high"] ["thing","low","high"] (az qj):=⟨rfl,rfl,rfl,by trivial,rfl,by trivial,by trivial⟩
theorem d7 (T:Txt K mg):Has P w K mg base 2 "is_within" ["thing","low","high"] (Nt K):=by
 have qz:=@qz P w K mg base T;walk_at "@fY 3 T.d_is_within Aj";obtain ⟨v,lo,hi,rfl,hT,q⟩:=h;walk_at "=_;%)q,{qz}Cr~g*:(";apply ⟨v,rfl,hT,?_⟩;cases v with
 | int n=>
  show if true=true then _ else _
  walk_at "s";show if decide (lo<=n)=true then _ else _
  unfold inB at q;dsimp only at q;by_cases h:lo<=n
  ·rw [ZK h] at q ⊢
   rw [Bool.true_and] at q;walk_at "s";exact q
  ·rw [ZD h] at q ⊢
   rw [Bool.false_and] at q;walk_at "s";exact q
 | _=>exact q
def Gy (K:W.Frag) (mg:Str->Option Value):Sp:=fun vs H Q E=>∃ (v:V) (lo hi:Int),vs=[v,.int lo,.int hi]/\Kd K H v/\(inB v lo hi=true->Q .non H)/\
 (inB v lo hi=false->∀ e H',Same H H'->VR H' e (aO mg "NoPlace") [("found",v)]->E (.ref (aO mg "NoPlace")) (some e) H')
theorem yI:aD ["thing","low","high"] ["thing","low","high"] (az oW):=⟨rfl,rfl,rfl,by trivial,rfl,by trivial,by trivial⟩
theorem bR (T:Txt K mg):QD P w K mg base 3 "need_place" ["thing","low","high"] (Gy K mg):=by
 have d7:=@d7 P w K mg base T;walk_at "@Ys 3 T.d_need_place yI";obtain ⟨v,lo,hi,rfl,hT,q1,q2⟩:=h;walk_at "=_;%1NW,{d7}FD?%~E~F{EY}{T}2C";apply ⟨v,lo,hi,rfl,hT,?_⟩;cases hb:inB v lo hi with
 | true=>
  walk_at "s";exact q1 hb
 | false=>
  walk_at "s";exact ⟨rfl,(show 1<=sizeLine by decide),fun x H2 S2 X2=>q2 hb x H2 S2 X2⟩
theorem Nu (i j:Int):decide (V.int i=V.int j)=decide (i=j):=AbT.mpr ⟨fun h=>V.int.inj h,fun h=>by rw [h]⟩
theorem bQ (t:List Nat):((nI t).map V.int).length=t.length:=by unfold nI;rw [ZJ,ZJ]
theorem YQ {t:List Nat} {k i:Nat} (h:t[k]?=some i):((nI t).map V.int)[k]?=some (.int (i:Int)):=by unfold nI;rw [ZM,ZM,h];rfl
theorem Nv {t:List Nat} {k:Nat} {v:V} (h:((nI t).map V.int)[k]?=some v):∃ i,t[k]?=some i/\v= .int (i:Int):=by
 unfold nI at h;rw [ZM,ZM] at h;cases e:t[k]? with
 | none=>rw [e] at h;cases h
 | some y=>rw [e] at h;exact ⟨y,rfl,(Z2 h).symm⟩
theorem vV {t:List Nat} {k:Nat} {j:Int} (hk:k < t.length) (hj:j=(k:Int)):Dy ((nI t).map V.int) j=some (.int ((t.getD k 0:Nat):Int)):=by
 subst hj;refine cz (YQ ?_);rw [Zv,Zw hk];rfl
theorem ph (t:List Nat) (k x:Nat):((nI t).map V.int).set k (.int (x:Int))=(nI (t.set k x)).map V.int:=by unfold nI;rw [List.map_set,List.map_set]
theorem uG (t:List Nat) (x:Nat):(nI t).map V.int ++ [.int (x:Int)]=(nI (t ++ [x])).map V.int:=by unfold nI;rw [ZR,ZR];rfl
theorem uH {n p:Nat} {j:Int} (hj:j=(p:Int)) (h:p < n):Hx n j=some p:=by
 subst hj;unfold Hx;rw [if_pos (by omega),if_pos (by omega)];simp
def Wh (K:W.Frag):Sp:=fun vs H Q _=>∃ (b e m:Int),vs=[.int b,.int e,.int m]/\0<=b/\b<=e/\e<=m/\Q (.bl true) H
theorem Fb:aD ["begin","end","many"] ["begin","end","many"] (az vo):=⟨rfl,rfl,rfl,by trivial,rfl,by trivial,by trivial⟩
theorem vy (T:Txt K mg):Has P w K mg base 3 "is_span" ["begin","end","many"] (Wh K):=by
 have d7:=@d7 P w K mg base T;walk_at "@fY 3 T.d_is_span Fb";obtain ⟨b,e,m,rfl,h1,h2,h3,q⟩:=h;walk_at "=_;%)q,{d7}FA?r,{d7}DF?";apply ⟨_,_,_,rfl,.inl ⟨_,rfl⟩,?_⟩;rw [show inB (.int b) 0 m=true by unfold inB;simp;omega];walk_at "s";apply ⟨_,_,_,rfl,.inl ⟨_,rfl⟩,?_⟩;rw [show inB (.int e) b m=true by unfold inB;simp;omega];exact q
def Ra (K:W.Frag):Sp:=fun vs H Q _=>∃ (b e m:Int),vs=[.int b,.int e,.int m]/\0<=b/\b<=e/\e<=m/\Q .non H
theorem Ak:aD ["begin","end","many"] ["begin","end","many"] (az qm):=⟨rfl,rfl,rfl,by trivial,rfl,by trivial,by trivial⟩
theorem qC (T:Txt K mg):Has P w K mg base 4 "need_span" ["begin","end","many"] (Ra K):=by
 have vy:=@vy P w K mg base T;walk_at "@fY 3 T.d_need_span Ak";obtain ⟨b,e,m,rfl,h1,h2,h3,q⟩:=h;walk_at "=_;%1NW,{vy}FD?~'";apply ⟨b,e,m,rfl,h1,h2,h3,?_⟩;exact q
theorem Ck {H:Hp} {Q:VK} {E:XK} {n lo hi:Int} (h1:lo<=n) (h2:n<=hi) (h:Q .non H):Gy K mg [.int n,.int lo,.int hi] H Q E:=
 ⟨_,_,_,rfl,.inl ⟨_,rfl⟩,fun _=>h,fun hb=>by unfold inB at hb;simp at hb;omega⟩
def Tn (H:Hp) (a:Addr) (t:List Nat):Prop:=H a=some (.lst ((nI t).map V.int))\/H a=some (.tup ((nI t).map V.int))
def Rb (us:List V):Bool:=decide (us.length<=96) && (us.all fun u=>inB u 0 ((us.length:Int) - 1)) && decide us.Nodup
theorem Gz {us:List V} (h:96 < us.length):Rb us=false:=by unfold Rb;rw [ZD (by omega)];rfl
theorem Nx {us:List V} {u:V} (h:u∈us) (hb:inB u 0 ((us.length:Int) - 1)=false):Rb us=false:=by
 unfold Rb;have:(us.all fun u=>inB u 0 ((us.length:Int) - 1))=false:=List.all_eq_false.mpr ⟨u,h,by rw [hb];simp⟩;rw [this,Bool.and_false,Bool.false_and]
theorem Ny {us:List V} {k:Nat} {u:V} (h:us[k]?=some u) (hm:u∈us.take k):Rb us=false:=by
 have:¬ us.Nodup:=fun nd=>by
  obtain ⟨i,hi,e⟩:=Abr.mp hm;obtain ⟨hk,e2⟩:=Zx.mp h;rw [ZW] at hi;rw [List.getElem_take] at e;exact Abk.mp nd i k (by omega) hk (by omega) (e.trans e2.symm)
 unfold Rb;rw [ZD this,Bool.and_false]
theorem Nz {us:List V} (h:us.length<=96) (hin:∀ u∈us,inB u 0 ((us.length:Int) - 1)=true) (hnd:us.Nodup):Rb us=true:=by
 unfold Rb;rw [ZK h,ZK hnd,Aa4.mpr hin];rfl
theorem yj {us:List V} {v:V} (h:us.Nodup) (hm:v ∉ us):(us ++ [v]).Nodup:=by
 refine List.nodup_append.mpr ⟨h,by simp,fun a ha b hb=>?_⟩;rw [Aad.mp hb];exact fun z=>hm (z ▸ ha)
theorem GC {v:V} {h:Int} (hb:inB v 0 h=true):∃ i:Nat,v= .int (i:Int)/\(i:Int)<=h:=by
 cases v with
 | int n=>
  unfold inB at hb;simp at hb;exact ⟨n.toNat,by rw [Aae hb.1],by omega⟩
 | _=>cases hb
def TnK (K:W.Frag) (H:Hp) (v:V) (b:Bool):Prop:=(∃ a us,v= .ref a/\(H a=some (.lst us)\/H a=some (.tup us))/\us.length<=10000/\(∀ u∈us,Kd K H u)/\b=Rb us)\/
 ∃ T,TyOf K H v (.type T)/\PySem.W.kitAny K (.type T) [.type "list",.type "tuple"]=some false/\b=false
theorem Rc {H:Hp} {a:Addr} {t:List Nat} (h:Tn H a t) (hP:Prm t):TnK K H (.ref a) true:=by
 have hle:=hP.le;refine .inl ⟨a,_,rfl,h,by rw [bQ];omega,fun u hu=>?_,?_⟩
 ·obtain ⟨x,_,rfl⟩:=Aam.mp hu
  exact .inl ⟨x,rfl⟩
 ·refine (Nz (by rw [bQ];exact hle) (fun u hu=>?_) ?_).symm
  ·obtain ⟨x,hx,rfl⟩:=Aam.mp hu
   unfold nI at hx;obtain ⟨y,hy,rfl⟩:=Aam.mp hx;have:=hP.lt hy;rw [bQ];unfold inB;simp;omega
  ·unfold nI List.Nodup
   rw [AbD,List.pairwise_map];exact hP.nd.imp fun {x y} h z=>h (by have e:((x:Nat):Int)=((y:Nat):Int):=V.int.inj z;omega)
def Wi (K:W.Frag):Sp:=fun vs H Q _=>∃ (v:V) (b:Bool),vs=[v]/\TnK K H v b/\∀ H',Same H H'->Q (.bl b) H'
theorem nH:aD ["thing","seen","end"] ["thing"] (az oY):=⟨rfl,rfl,rfl,by trivial,rfl,by trivial,by trivial⟩
theorem pq (T:Txt K mg):Has P w K mg base 3 "is_turning" ["thing"] (Wi K):=by
 have d7:=@d7 P w K mg base T;walk_at "@fY 1 T.d_is_turning nH";obtain ⟨v,bb,rfl,h,q⟩:=h;walk_at "=nH;!1PbNW~h~i{T.b_isinstance}F$Q&~G$~j{T.b_tuple}cs0C~0{T.c_MOST_LINES}t!~k#1^!Jd:3#2^!1PbNW,{d7}&(A$l0Ccu~l(*t%~me*(ft";have hs:20000<=sizeLine:=by decide
 rcases h with ⟨a,us,rfl,ha,hlen,hkd,rfl⟩ | ⟨T',hty,hk,rfl⟩
 ·rcases ha with ha | ha
  ·skip
   apply jA rfl fun p np=>?_
   have ha1:upd H p (.tup [.ty "list",.ty "tuple"]) a=some (.lst us):=aX np ha;apply Aa (.lst ha1) aj rfl (b:=true) (by rfl) ?_;apply iJ (SqL.of ha1) ?_;by_cases h96:96 < us.length
   ·rw [ZK (show (96:Int) < (us.length:Int) by omega)]
    rw [Gz h96] at q;walk_at "s";exact q _ ((Same.refl H).upd np)
   rw [ZD (show ¬ (96:Int) < (us.length:Int) by omega)];walk_at "s";intro d nd;have S1:Same H (upd (upd H p (.tup [.ty "list",.ty "tuple"])) d (.dK [])):=((Same.refl H).upd np).upd nd;have hd0:upd (upd H p (.tup [.ty "list",.ty "tuple"])) d (.dK []) d=some (.dK []):=aj;have nd':H d=none:=Same.back ((Same.refl H).upd np) nd;generalize upd (upd H p (.tup [.ty "list",.ty "tuple"])) d (.dK [])=H1 at S1 hd0 ⊢;walk_at "s";refine .inl ⟨a,rfl,⟨_,SqL.of (S1 _ _ ha)⟩,?_⟩
   refine wW (xs:=us) (fun k U H'=>∃ (kvs:List (Key×V)) (x2:Option V),U=[some (.ref a),some (.ref d),x2]/\Same H H'/\H' d=some (.dK kvs)/\kvs.length<=k/\(∀ n:Nat,lU kvs (Sum.inl (n:Int))=if V.int (n:Int)∈us.take k then some (.bl true) else none)/\(∀ u∈us.take k,inB u 0 ((us.length:Int) - 1)=true)/\(us.take k).Nodup)
    ⟨[],_,rfl,S1,hd0,by simp,fun n=>by simp [Bs],by simp,by simp⟩ (fun i U H' _ h=>?_) ?_ ?_
   ·obtain ⟨_,_,_,s,_⟩:=h
    exact SqL.of (s _ _ ha)
   ·rintro k v U H' hk ⟨kvs,x2,rfl,s,hd,hkl,hv,hin,hnd⟩
    have hkt:k < us.length:=(Zx.mp hk).1;have hmem:=Z0 hk;walk_at "s";apply iJ (SqL.of (s _ _ ha)) ?_;apply ⟨_,_,_,rfl,(hkd v hmem).same s,?_⟩;cases hb:inB v 0 ((us.length:Int) - 1) with
    | false=>
     rw [Nx hmem hb] at q;walk_at "s";exact q _ s
    | true=>
     obtain ⟨i,rfl,hi⟩:=GC hb;walk_at "s";refine .inr ⟨d,_,rfl,DGet.k (k:=Sum.inl (i:Int)) hd,?_⟩;rw [hv i];by_cases hm:V.int (i:Int)∈us.take k
     ·rw [if_pos hm,show (some (V.bl true)).isSome=true from rfl]
      rw [Ny hk hm] at q;walk_at "s";exact q _ s
     ·rw [if_neg hm,show (none:Option V).isSome=false from rfl]
      walk_at "s";refine .inr ⟨d,_,rfl,DPut.k (k:=Sum.inl (i:Int)) hd (by omega),?_⟩;have tk:us.take (k+1)=us.take k ++ [V.int (i:Int)]:=by rw [Aa1,hk];rfl
      refine ⟨_,_,rfl,Same.put s nd',aj,ZG (mG _ _ _) (by omega),fun n=>?_,fun u hu=>?_,?_⟩
      ·rw [Bu,hv n,tk]
       by_cases hn:n=i
       ·subst hn;simp
       ·rw [if_neg (fun z=>hn (by have:=Sum.inl.inj z;omega))]
        have hne:¬ V.int (n:Int)=V.int (i:Int):=fun z=>hn (by have:=V.int.inj z;omega)
        simp [hne]
      ·rw [tk] at hu
       rcases Aaw.mp hu with h | h
       ·exact hin u h
       ·rw [Aad.mp h];exact hb
      ·rw [tk]
       exact yj hnd hm
   ·rintro U H' ⟨kvs,x2,rfl,s,hd,_,_,hin,hnd⟩
    rw [AaN] at hin hnd;rw [Nz (by omega) hin hnd] at q;walk_at "s";exact q _ s
  ·skip
   apply jA rfl fun p np=>?_
   have ha1:upd H p (.tup [.ty "list",.ty "tuple"]) a=some (.tup us):=aX np ha;apply Aa (.tup ha1) aj rfl (b:=true) (by rfl) ?_;apply Li (SqT.of ha1) ?_;by_cases h96:96 < us.length
   ·rw [ZK (show (96:Int) < (us.length:Int) by omega)]
    rw [Gz h96] at q;walk_at "s";exact q _ ((Same.refl H).upd np)
   rw [ZD (show ¬ (96:Int) < (us.length:Int) by omega)];walk_at "s";intro d nd;have S1:Same H (upd (upd H p (.tup [.ty "list",.ty "tuple"])) d (.dK [])):=((Same.refl H).upd np).upd nd;have hd0:upd (upd H p (.tup [.ty "list",.ty "tuple"])) d (.dK []) d=some (.dK []):=aj;have nd':H d=none:=Same.back ((Same.refl H).upd np) nd;generalize upd (upd H p (.tup [.ty "list",.ty "tuple"])) d (.dK [])=H1 at S1 hd0 ⊢;walk_at "s";refine .inr (.inl ⟨a,rfl,⟨_,SqT.of (S1 _ _ ha)⟩,?_⟩)
   refine Px (xs:=us) (fun k U H'=>∃ (kvs:List (Key×V)) (x2:Option V),U=[some (.ref a),some (.ref d),x2]/\Same H H'/\H' d=some (.dK kvs)/\kvs.length<=k/\(∀ n:Nat,lU kvs (Sum.inl (n:Int))=if V.int (n:Int)∈us.take k then some (.bl true) else none)/\(∀ u∈us.take k,inB u 0 ((us.length:Int) - 1)=true)/\(us.take k).Nodup)
    ⟨[],_,rfl,S1,hd0,by simp,fun n=>by simp [Bs],by simp,by simp⟩ (fun i U H' _ h=>?_) ?_ ?_
   ·obtain ⟨_,_,_,s,_⟩:=h
    exact SqT.of (s _ _ ha)
   ·rintro k v U H' hk ⟨kvs,x2,rfl,s,hd,hkl,hv,hin,hnd⟩
    have hkt:k < us.length:=(Zx.mp hk).1;have hmem:=Z0 hk;walk_at "s";apply Li (SqT.of (s _ _ ha)) ?_;apply ⟨_,_,_,rfl,(hkd v hmem).same s,?_⟩;cases hb:inB v 0 ((us.length:Int) - 1) with
    | false=>
     rw [Nx hmem hb] at q;walk_at "s";exact q _ s
    | true=>
     obtain ⟨i,rfl,hi⟩:=GC hb;walk_at "s";refine .inr ⟨d,_,rfl,DGet.k (k:=Sum.inl (i:Int)) hd,?_⟩;rw [hv i];by_cases hm:V.int (i:Int)∈us.take k
     ·rw [if_pos hm,show (some (V.bl true)).isSome=true from rfl]
      rw [Ny hk hm] at q;walk_at "s";exact q _ s
     ·rw [if_neg hm,show (none:Option V).isSome=false from rfl]
      walk_at "s";refine .inr ⟨d,_,rfl,DPut.k (k:=Sum.inl (i:Int)) hd (by omega),?_⟩;have tk:us.take (k+1)=us.take k ++ [V.int (i:Int)]:=by rw [Aa1,hk];rfl
      refine ⟨_,_,rfl,Same.put s nd',aj,ZG (mG _ _ _) (by omega),fun n=>?_,fun u hu=>?_,?_⟩
      ·rw [Bu,hv n,tk]
       by_cases hn:n=i
       ·subst hn;simp
       ·rw [if_neg (fun z=>hn (by have:=Sum.inl.inj z;omega))]
        have hne:¬ V.int (n:Int)=V.int (i:Int):=fun z=>hn (by have:=V.int.inj z;omega)
        simp [hne]
      ·rw [tk] at hu
       rcases Aaw.mp hu with h | h
       ·exact hin u h
       ·rw [Aad.mp h];exact hb
      ·rw [tk]
       exact yj hnd hm
   ·rintro U H' ⟨kvs,x2,rfl,s,hd,_,_,hin,hnd⟩
    rw [AaN] at hin hnd;rw [Nz (by omega) hin hnd] at q;walk_at "s";exact q _ s
 ·apply jA rfl fun p np=>?_
  apply Aa (hty.mono fun b o e _=>aX np e) aj rfl hk ?_;exact q _ ((Same.refl H).upd np)
def Rf (K:W.Frag):Sp:=fun vs H Q _=>∃ (a:Addr) (t:List Nat),vs=[.ref a]/\Tn H a t/\Prm t/\∀ H',Same H H'->Q .non H'
theorem wj:aD ["thing"] ["thing"] (az lY):=⟨rfl,rfl,rfl,by trivial,rfl,by trivial,by trivial⟩
theorem eO (T:Txt K mg):Has P w K mg base 4 "need_turning" ["thing"] (Rf K):=by
 have pq:=@pq P w K mg base T;walk_at "@fY 1 T.d_need_turning wj";obtain ⟨a,t,rfl,ha,hP,q⟩:=h;walk_at "=_;%1NW,{pq}C~'";apply ⟨.ref a,true,rfl,Rc ha hP,fun H1 S1=>?_⟩;walk_at "s";exact q H1 S1
theorem Wj (n:Nat):((List.range n).map fun i:Nat=>V.int (0+(i:Int)*1))=(nI (List.range n)).map V.int:=by
 unfold nI;rw [AbD];refine List.map_congr_left fun x _=>?_
 show V.int (0+(x:Int)*1)=V.int (x:Int)
 congr 1;omega
def Fd:Sp:=fun vs H Q _=>∃ n:Nat,vs=[.int n]/\n<=96/\∀ q H',H q=none->Same H H'->H' q=some (.lst ((nI (List.range n)).map V.int))->Q (.ref q) H'
theorem Cm:aD ["many"] ["many"] (az sS):=⟨rfl,rfl,rfl,by trivial,rfl,by trivial,by trivial⟩
theorem jG (T:Txt K mg):Has P w K mg base 4 "straight" ["many"] Fd:=by
 have bR:=@bR P w K mg base T;walk_at "@fY 1 T.d_straight Cm";obtain ⟨n,rfl,hn,q⟩:=h;walk_at "=_;!6~n{bR}2XFA$~0{T.c_MOST_LINES}%)~o{T.b_list}{T.b_range}C";apply Ck (by omega) (by omega) ?_;apply QM (n:=n) (by omega) ?_;intro p np;rw [Wj];exact q p _ np ((Same.refl H).upd np) aj
def YS:Sp:=fun vs H Q _=>∃ (a:Addr) (t:List Nat),vs=[.ref a]/\H a=some (.lst ((nI t).map V.int))/\Prm t/\∀ q H',H q=none->Same H H'->H' q=some (.lst ((nI (inv t)).map V.int))->Q (.ref q) H'
theorem mU:aD ["turning","begins","begin","end"] ["turning"] (az sU):=⟨rfl,rfl,rfl,by trivial,rfl,by trivial,by trivial⟩
theorem jg (T:Txt K mg):Has P w K mg base 5 "opposite" ["turning"] YS:=by
 have eO:=@eO P w K mg base T;walk_at "@fY 1 T.d_opposite mU";obtain ⟨a,t,rfl,ha,hP,q⟩:=h;walk_at "=mU;!6,{eO}C!'#1^|KV0C!Jm{T.b_enumerate}CYG3#2^R3#3^%n(e*-f%)*";have hs:20000<=sizeLine:=by decide
 have hle:=hP.le;apply ⟨_,t,rfl,.inl ha,hP,fun H1 S1=>?_⟩
 ·skip
  apply jA rfl fun p np=>?_
  apply iJ (SqL.of (aX np (S1 _ _ ha))) ?_;rw [bQ];apply xP (k:=(t.length:Int)) aj (by omega) (by omega) (by simp;omega) fun b nb=>?_
  have S2:Same H (upd (upd H1 p (.lst [.int 0])) b (.lst (List.replicate ((t.length:Int)).toNat [V.int 0]).flatten)):=(S1.upd np).upd nb;have nb0:H b=none:=Same.back (S1.upd np) nb
  have hb0:upd (upd H1 p (.lst [.int 0])) b (.lst (List.replicate ((t.length:Int)).toNat [V.int 0]).flatten) b=some (.lst ((nI (List.replicate t.length 0)).map V.int)):=by
   rw [aj]
   congr 2
   unfold nI;rw [Abh,Abh,show ((t.length:Int)).toNat=t.length by omega];generalize t.length=n
   induction n with
   | zero=>rfl
   | succ n ih=>rw [AaB,AaQ,ih,AaB];rfl
  generalize upd (upd H1 p (.lst [.int 0])) b (.lst (List.replicate ((t.length:Int)).toNat [V.int 0]).flatten)=H2 at S2 hb0 ⊢;refine .inr ⟨a,_,rfl,SqL.of (S2 _ _ ha),?_⟩
  refine lN (K:=K) (xs:=(nI t).map V.int) (fun k U H'=>∃ (r:List Nat) (x2 x3:Option V),U=[some (.ref a),some (.ref b),x2,x3]/\Same H H'/\H' b=some (.lst ((nI r).map V.int))/\r.length=t.length/\∀ (i x:Nat),i < k->t[i]?=some x->r[x]?=some i)
   ⟨List.replicate t.length 0,_,_,rfl,S2,hb0,by simp,fun i x h=>by omega⟩ (fun i U H' _ h=>?_) ?_ ?_
  ·obtain ⟨_,_,_,_,s,_⟩:=h
   exact SqL.of (s _ _ ha)
  ·rintro k U H' T v hk ⟨r,x2,x3,rfl,s,hb,hrl,hr⟩ nT
   obtain ⟨i,hi,rfl⟩:=Nv hk;have hit:=hP.lt (Z0 hi);apply bI (SqT.of aj) rfl ?_;apply lH (aX nT hb) (uH (p:=i) rfl (by rw [bQ];omega)) ?_;rw [ph];refine ⟨r.set i k,_,_,rfl,Same.put (s.upd nT) nb0,aj,by simp;omega,fun j x hj e=>?_⟩;by_cases hjk:j=k
   ·subst hjk
    rw [hi] at e;cases e;rw [Aaz (by omega)]
   ·have hx:x≠i:=fun z=>hjk (by
     subst z;have h1:=iR hP.nd e;have h2:=iR hP.nd hi;omega)
    rw [Aaf (fun z=>hx z.symm)];exact hr j x (by omega) e
  ·rintro U H' ⟨r,x2,x3,rfl,s,hb,hrl,hr⟩
   walk_at "s";rw [bQ] at hr;have e:=vf hP hrl fun i x h=>hr i x (Zx.mp h).1 h
   rw [e] at hb;exact q b _ nb0 s hb
end
local macro_rules | `(tactic| walk_at "s") => `(tactic| (with_reducible repeat (first | refine mH ?_ | walk_at "1")))
local macro_rules | `(tactic| walk_at "n") => `(tactic| (with_reducible repeat (walk_at "1")))
section
variable {P:Program} {w:World} {K:W.Frag} {mg:Str->Option Value} {base:Heap}
def spDo (K:W.Frag):Sp:=fun vs H Q _=>∃ (bg st:Addr) (E ps:List Nat),vs=[.ref bg,.ref st]/\H bg=some (.lst ((nI E).map V.int))/\H st=some (.lst ((nI ps).map V.int))/\bg≠st/\(∀ p∈ps,p+1 < E.length)/\ps.length<=6000/\
 ∀ q H',H q=none->Chg bg H H'->H' bg=some (.lst ((nI (bN E ps)).map V.int))->H' q=some (.lst ((nI (MP E ps ps.length)).map V.int))->Q (.ref q) H'
theorem jk:aD ["begins","steps","working","place","step","lesser","greater"] ["begins","steps"] (az sV):=⟨rfl,rfl,rfl,by trivial,rfl,by trivial,by trivial⟩
theorem tG (T:Txt K mg):Has P w K mg base 1 "do_steps" ["begins","steps"] (spDo K):=by
 walk_at "@fY 2 T.d_do_steps jk";obtain ⟨bg,st,E,ps,rfl,hb,hst,hne,hp,hpl,q⟩:=h;walk_at "=jk;!'#2^S!Jm{T.b_enumerate}8YG3#3^R3#4^!'#5^B:+!'#6^B:I+%1~1.9!n9e:+f!n.e:I+f%6O(L%)(";have hs:20000<=sizeLine:=by decide
 apply jA rfl fun wk nwk=>?_
 have wb:wk≠bg:=fun z=>by rw [z,hb] at nwk;cases nwk
 have ws:wk≠st:=fun z=>by rw [z,hst] at nwk;cases nwk
 refine .inr ⟨st,_,rfl,SqL.of (aX nwk hst),?_⟩
 refine lN (K:=K) (xs:=(nI ps).map V.int) (fun k U H'=>∃ (x3 x4 x5 x6:Option V),U=[some (.ref bg),some (.ref st),some (.ref wk),x3,x4,x5,x6]/\Chg bg H H'/\H' st=some (.lst ((nI ps).map V.int))/\H' bg=some (.lst ((nI (bN E (ps.take k))).map V.int))/\H' wk=some (.lst ((nI (MP E ps k)).map V.int)))
  ⟨_,_,_,_,rfl,(Chg.refl bg H).new nwk,aX nwk hst,aX nwk hb,aj⟩ (fun i U H' _ h=>?_) ?_ ?_
 ·obtain ⟨_,_,_,_,_,_,h,_⟩:=h
  exact SqL.of h
 ·rintro k U H' T v hk ⟨x3,x4,x5,x6,rfl,c,hst',hb',hw'⟩ nT
  obtain ⟨p,hpk,rfl⟩:=Nv hk;have hkl:k < ps.length:=(Zx.mp hpk).1;have hpd:ps.getD k 0=p:=by rw [Zv,hpk];rfl
  have hpE:p+1 < (bN E (ps.take k)).length:=by rw [jY];exact hp p (Z0 hpk)
  have tk:ps.take (k+1)=ps.take k ++ [p]:=by rw [vd hkl,hpd]
  have wsu:=Ca E ps k;rw [hpd] at wsu;have wl:=QZ E ps k;have c1:Chg bg H (upd H' T (.tup [.int k,.int p])):=c.new nT;have hT:upd H' T (.tup [.int k,.int p]) T=some (.tup [.int k,.int p]):=aj;have hst1:=aX nT (o:=.tup [.int k,.int p]) hst';have hb1:=aX nT (o:=.tup [.int k,.int p]) hb';have hw1:=aX nT (o:=.tup [.int k,.int p]) hw';generalize upd H' T (.tup [.int k,.int p])=H1 at c1 hT hst1 hb1 hw1 ⊢;have eR:bN E (ps.take (k+1))=bG (bN E (ps.take k)) p:=by rw [tk,oE]
  generalize bN E (ps.take k)=F at hpE hb1 eR wsu;apply bI (SqT.of hT) rfl ?_;apply bf (SqL.of hb1) (vV (k:=p) (by omega) rfl) ?_;apply bf (SqL.of hb1) (vV (k:=p+1) (by omega) (by omega)) ?_;have ew:uE F p=decide (((F.getD p 0:Nat):Int) < ((F.getD (p+1) 0:Nat):Int)):=by unfold uE;exact AbT.mpr (by omega)
  rw [← ew];refine iteB (fun hw=>?_) (fun hw=>?_)
  ·rw [if_pos hw] at wsu
   walk_at "s";apply lH hb1 (uH (p:=p) rfl (by rw [bQ];omega)) ?_;rw [ph];apply lH aj (uH (p:=p+1) (by omega) (by rw [bQ];simp;omega)) ?_;rw [ph,O4];have hw2:upd H1 bg (.lst ((nI ((F.set p (F.getD (p+1) 0)).set (p+1) (F.getD p 0))).map V.int)) wk=some (.lst ((nI (MP E ps k)).map V.int)):=by rw [aC wb];exact hw1
   apply ⟨.inl ⟨rfl,_,SqL.of hw2⟩,?_⟩;apply cB hw2 (by rw [bQ];omega) ?_;rw [uG];refine ⟨_,_,_,_,rfl,?_,?_,?_,?_⟩
   ·intro b o nb e
    have nw:b≠wk:=fun z=>by rw [z,nwk] at e;cases e
    rw [aC nw,aC nb];exact c1 b o nb e
   ·rw [aC (Ne.symm ws),aC (Ne.symm hne)];exact hst1
   ·rw [aC (Ne.symm wb),aj,eR]
    unfold bG;rw [if_pos hw]
   ·rw [aj,wsu]
  ·rw [if_neg (by rw [hw];simp),AaC] at wsu
   walk_at "s";refine ⟨_,_,_,_,rfl,c1,hst1,?_,?_⟩
   ·rw [hb1,eR]
    unfold bG;rw [if_neg (by rw [hw];simp)]
   ·rw [hw1,wsu]
 ·rintro U H' ⟨x3,x4,x5,x6,rfl,c,hst',hb',hw'⟩
  rw [bQ] at hb' hw';rw [AaN] at hb';walk_at "s";exact q wk H' nwk c hb' hw'
def MR (r:R2):Prop:=∀ x y H Q Q',(∀ v H1,Q v H1->Q' v H1)->r x y H Q->r x y H Q'
def ME (te:TE):Prop:=∀ U H Q Q',(∀ v H1,Q v H1->Q' v H1)->te U H Q->te U H Q'
def MT (te:TT):Prop:=∀ U H Q Q',(∀ v H1,Q v H1->Q' v H1)->te U H Q->te U H Q'
theorem Tp (g:Int->Int->V):MR (J6 g):=by
 rintro x y H Q Q' h ⟨i,j,e1,e2,q⟩;exact ⟨i,j,e1,e2,h _ _ q⟩
theorem Tq:MR (R8 K):=by
 rintro x y H Q Q' h (⟨p,xs,i,v,a,b,c,d,q⟩ | ⟨p,xs,i,v,a,b,c,d,q⟩ | ⟨z,i,c,a,b,d,e,q⟩)
 ·exact .inl ⟨p,xs,i,v,a,b,c,d,h _ _ q⟩
 ·exact .inr (.inl ⟨p,xs,i,v,a,b,c,d,h _ _ q⟩)
 ·exact .inr (.inr ⟨z,i,c,a,b,d,e,h _ _ q⟩)
theorem Rg:MR BJ:=by
 rintro x y H Q Q' h (⟨i,j,a,b,q⟩ | ⟨i,j,a,b,c,q⟩ | ⟨p,q',xs,ys,a,b,c,d,e,q⟩)
 ·exact .inl ⟨i,j,a,b,h _ _ q⟩
 ·exact .inr (.inl ⟨i,j,a,b,c,h _ _ q⟩)
 ·exact .inr (.inr ⟨p,q',xs,ys,a,b,c,d,e,fun r hr=>h _ _ (q r hr)⟩)
theorem ym (i:Nat):ME (rO i):=by
 rintro U H Q Q' h ⟨v,e,q⟩;exact ⟨v,e,h _ _ q⟩
theorem YT (v:V):ME (tC v):=fun U H Q Q' h q=>h _ _ q
theorem Cp {r:R2} {ta tb:TE} (hr:MR r) (ha:ME ta) (hb:ME tb):ME (J5 r ta tb):=fun U H Q Q' h q=>ha U H _ _ (fun x H1 q1=>hb U H1 _ _ (fun y H2 q2=>hr _ _ _ _ _ h q2) q1) q
theorem GD {te:TE} (h:ME te):MT (FT te):=fun U H Q Q' hq q=>h U H _ _ (fun x H1 ⟨k,e,q1⟩=>⟨k,e,hq _ _ q1⟩) q
theorem Wl {t u:TT} (h:MT t) (h2:MT u):MT (O7 t u):=fun U H Q Q' hq q=>h U H _ _ (fun c H1 q1=>by
 cases c with
 | true=>rw [if_pos rfl] at q1 ⊢;exact h2 _ _ _ _ hq q1
 | false=>rw [if_neg ZV] at q1 ⊢;exact hq _ _ q1) q
def mu4 (U:St) (_:Hp):Nat:=match U[4]? with
 | some (some (V.int z))=>(z+1).toNat
 | _=>0
theorem vW:∀ (p:Nat) (B u:List Nat),(inn p B u).1.length=B.length
 | 0,_,_=>rfl
 | p+1,B,u=>by
  unfold inn
  split
  ·rw [vW p,oV]
  ·rfl
theorem vX:∀ (p:Nat) (B u:List Nat),(inn p B u).2.length<=u.length+p
 | 0,_,_=>ZC _
 | p+1,B,u=>by
  unfold inn
  split
  ·have:=vX p (yD B p) (u ++ [p])
   rw [Z8,List.length_singleton] at this;omega
  ·exact AaX _ _
theorem vY (B:List Nat):∀ k,(vg B k).1.length=B.length
 | 0=>rfl
 | k+1=>(vW _ _ _).trans (vY B k)
theorem vZ (B:List Nat):∀ k,k<=96->(vg B k).2.length<=96*k
 | 0,_=>ZC _
 | k+1,h=>by
  have h1:=vX (k+1) (vg B k).1 (vg B k).2;have h2:=vZ B k (by omega);show (inn (k+1) (vg B k).1 (vg B k).2).2.length<=_;omega
def Jf:Sp:=fun vs H Q _=>∃ (a:Addr) (t:List Nat),vs=[.ref a]/\H a=some (.lst ((nI t).map V.int))/\Prm t/\∀ q H',H q=none->Same H H'->H' q=some (.lst ((nI (Jb t).reverse).map V.int))->Q (.ref q) H'
theorem iy:aD ["turning","begins","undone","place","step","greater"] ["turning"] (az sW):=⟨rfl,rfl,rfl,by trivial,rfl,by trivial,by trivial⟩
theorem tH (T:Txt K mg):Has P w K mg base 6 "steps_of" ["turning"] Jf:=by
 have jg:=@jg P w K mg base T;walk_at "@fY 1 T.d_steps_of iy";obtain ⟨a,t,rfl,hT,hP,q⟩:=h;walk_at "=iy;!'#1^,{jg}C!'#2^S!J~p{T.b_range}A$083#3^!'#4^l-%~qP~!~r+~$sB*+B*I+!'#5^B*+!nB*I+e*+f!n.e*I+f!6O($+%~s#4^%)~t{T.b_list}{T.b_reversed}(";have hs:20000<=sizeLine:=by decide
 have hle:=hP.le;have il:=bF t;apply ⟨a,t,rfl,hT,hP,fun b H1 nb S1 hb=>?_⟩;apply jA rfl fun ud nud=>?_
 have nud0:=Same.back S1 nud;have bu:b≠ud:=fun z=>by rw [z,nud] at hb;cases hb
 apply iJ (SqL.of (aX nud hb)) ?_;rw [bQ];refine ⟨⟨by omega,by omega,by omega,by omega⟩,?_⟩;rw [show (((inv t).length:Int) - 1).toNat=t.length - 1 by omega]
 refine nZ (n:=t.length - 1) (fun k U H'=>∃ (x3 x4 x5:Option V),U=[some (.ref a),some (.ref b),some (.ref ud),x3,x4,x5]/\Same H H'/\H' b=some (.lst ((nI (vg (inv t) k).1).map V.int))/\H' ud=some (.lst ((nI (vg (inv t) k).2).map V.int)))
  ⟨_,_,_,rfl,S1.upd nud,aX nud hb,aj⟩ ?_ ?_
 ·rintro k U H' hk ⟨x3,x4,x5,rfl,s,hb1,hu1⟩
  walk_at "s";have ol:=vY (inv t) k;have ul:=vZ (inv t) k (by omega)
  refine J3 (fun U H'=>∃ (p:Nat) (B u:List Nat) (x5:Option V),U=[some (.ref a),some (.ref b),some (.ref ud),some (.int (1+(k:Int))),some (.int ((p:Int) - 1)),x5]/\Same H H'/\H' b=some (.lst ((nI B).map V.int))/\H' ud=some (.lst ((nI u).map V.int))/\p<=k+1/\B.length=t.length/\u.length+p<=96*k+k+1/\inn p B u=vg (inv t) (k+1)) mu4
   ⟨k+1,_,_,x5,by rw [show (((k+1:Nat):Int) - 1)=1+(k:Int) - 1 by omega];rfl,s,hb1,hu1,ZC _,by omega,by omega,rfl⟩ ?_ ?_
  ·rintro U H' ⟨p,B,u,x5,rfl,s,hb2,hu2,hp,hB,hul,hin⟩
   walk_at "s";cases p with
   | zero=>
    rw [ZD (by omega)];walk_at "s";exact ⟨_,_,_,rfl,s,by rw [← hin];exact hb2,by rw [← hin];exact hu2⟩
   | succ p=>
    rw [show (((p+1:Nat):Int) - 1)=(p:Int) by omega,ZK (show (0:Int)<=(p:Int) by omega)];walk_at "s";apply bf (SqL.of hb2) (vV (k:=p) (by omega) rfl) ?_;apply bf (SqL.of hb2) (vV (k:=p+1) (by omega) (by omega)) ?_;refine ut (fun hc=>?_) (fun hc=>?_)
    ·have hin2:inn p (yD B p) (u ++ [p])=vg (inv t) (k+1):=by
      rw [← hin]
      conv=>rhs;unfold inn
      rw [if_pos (by omega)]
     walk_at "s";apply bf (SqL.of hb2) (vV (k:=p) (by omega) rfl) ?_;apply bf (SqL.of hb2) (vV (k:=p+1) (by omega) (by omega)) ?_;apply lH hb2 (uH (p:=p) rfl (by rw [bQ];omega)) ?_;rw [ph];apply lH aj (uH (p:=p+1) (by omega) (by rw [bQ];simp;omega)) ?_;rw [ph];have s3:Same H (upd (upd H' b (.lst ((nI (B.set p (B.getD (p+1) 0))).map V.int))) b (.lst ((nI ((B.set p (B.getD (p+1) 0)).set (p+1) (B.getD p 0))).map V.int))):=Same.put (Same.put s nb) nb;have hb3:upd (upd H' b (.lst ((nI (B.set p (B.getD (p+1) 0))).map V.int))) b (.lst ((nI ((B.set p (B.getD (p+1) 0)).set (p+1) (B.getD p 0))).map V.int)) b=some (.lst ((nI (yD B p)).map V.int)):=aj;have hu3:upd (upd H' b (.lst ((nI (B.set p (B.getD (p+1) 0))).map V.int))) b (.lst ((nI ((B.set p (B.getD (p+1) 0)).set (p+1) (B.getD p 0))).map V.int)) ud=some (.lst ((nI u).map V.int)):=by rw [aC (Ne.symm bu),aC (Ne.symm bu)];exact hu2
     generalize upd (upd H' b (.lst ((nI (B.set p (B.getD (p+1) 0))).map V.int))) b (.lst ((nI ((B.set p (B.getD (p+1) 0)).set (p+1) (B.getD p 0))).map V.int))=H3 at s3 hb3 hu3 ⊢;apply ⟨.inl ⟨rfl,_,SqL.of hu3⟩,?_⟩;apply cB hu3 (by rw [bQ];omega) ?_;rw [uG];refine ⟨⟨p,yD B p,u ++ [p],_,rfl,Same.put s3 nud0,by rw [aC bu];exact hb3,aj,by omega,by rw [oV];exact hB,by simp;omega,hin2⟩,?_⟩;show ((p:Int) - 1+1).toNat < ((p:Int)+1).toNat;omega
    ·have hin2:(B,u)=vg (inv t) (k+1):=by
      rw [← hin]
      conv=>rhs;unfold inn
      rw [if_neg (by omega)]
     walk_at "s";exact ⟨_,_,_,rfl,s,by rw [← hin2];exact hb2,by rw [← hin2];exact hu2⟩
  ·exact Wl (GD (Cp (Tp _) (ym _) (YT _))) (GD (Cp (Tp _) (Cp Tq (ym _) (ym _)) (Cp Tq (ym _) (Cp Rg (ym _) (YT _)))))
 ·rintro U H' ⟨x3,x4,x5,rfl,s,hb1,hu1⟩
  walk_at "s";refine ⟨_,rfl,_,_,rfl,SqL.of hu1,fun r nr=>?_⟩;refine q r _ (Same.back s nr) (s.upd nr) ?_;rw [aj];unfold nI Jb;rw [List.map_reverse,List.map_reverse]
def Rh (K:W.Frag):Sp:=fun vs H Q _=>∃ a b x y,vs=[.ref a,.ref b]/\H a=some (.lst ((nI x).map V.int))/\H b=some (.lst ((nI y).map V.int))/\Prm x/\Prm y/\x.length=y.length/\∀ H',Same H H'->Q .non H'
theorem yJ:aD ["one","other"] ["one","other"] (az oZ):=⟨rfl,rfl,rfl,by trivial,rfl,by trivial,by trivial⟩
theorem pA (T:Txt K mg):Has P w K mg base 5 "need_alike" ["one","other"] (Rh K):=by
 have eO:=@eO P w K mg base T;walk_at "@fY 2 T.d_need_alike yJ";obtain ⟨a,b,x,y,rfl,ha,hb,px,py,he,q⟩:=h;walk_at "=_;!6,{eO}C!6,{eO}8%1u~u0C08~'";apply ⟨a,x,rfl,.inl ha,px,fun H1 S1=>?_⟩;apply ⟨b,y,rfl,.inl (S1 _ _ hb),py,fun H2 S2=>?_⟩;have U2:=S1.trans S2;apply iJ (SqL.of (U2 _ _ ha)) ?_;apply iJ (SqL.of (U2 _ _ hb)) ?_;rw [bQ,bQ,Nu,ZK (show (x.length:Int)=(y.length:Int) by omega)];walk_at "s";exact q _ U2
def Wm (K:W.Frag):Sp:=fun vs H Q _=>∃ a b x y n,vs=[.ref a,.ref b]/\H a=some (.lst ((nI x).map V.int))/\H b=some (.lst ((nI y).map V.int))/\Two n x y/\∀ q H',H q=none->Same H H'->H' q=some (.lst ((nI (lay x y)).map V.int))->Q (.ref q) H'
theorem GF:aD ["one","other","begins"] ["one","other"] (az Ez):=⟨rfl,rfl,rfl,by trivial,rfl,by trivial,by trivial⟩
theorem Fe (T:Txt K mg):Has P w K mg base 7 "laid" ["one","other"] (Wm K):=by
 have pA:=@pA P w K mg base T;have jg:=@jg P w K mg base T;have tG:=@tG P w K mg base T;have tH:=@tH P w K mg base T;walk_at "@fY 2 T.d_laid GF";obtain ⟨a,b,x,y,n,rfl,ha,hb,h2,q⟩:=h;walk_at "=GF;!6,{pA}F8!'#2^,{jg}C!6,{tG}&($,{tH}8%),{jg}?";have cl:=YJ h2.py.le;apply ⟨a,b,x,y,rfl,ha,hb,h2.px,h2.py,by rw [h2.lx,h2.ly],fun H1 S1=>?_⟩;apply ⟨a,x,rfl,S1 _ _ ha,h2.px,fun bg H2 nb S2 hb2=>?_⟩;apply ⟨b,y,rfl,(S1.trans S2) _ _ hb,h2.py,fun st H3 nst S3 hst=>?_⟩;have nb0:=Same.back S1 nb;have hne:bg≠st:=fun z=>by rw [z] at hb2;rw [hb2] at nst;cases nst
 apply ⟨bg,st,inv x,(Jb y).reverse,rfl,S3 _ _ hb2,hst,hne,(fun p hp=>by rw [bF,h2.lx];exact h2.lt p hp),(by rw [Q4 h2.py];exact cl),fun wk H4 nwk C4 hb4 hw4=>?_⟩;have S4:Same H H4:=fun c o e=>C4 c o (fun z=>by rw [z,nb0] at e;cases e) (S3 _ _ (S2 _ _ (S1 _ _ e)))
 refine ⟨bg,_,rfl,hb4,h2.run.1,fun r H5 nr S5 hr=>?_⟩;exact q r H5 (Same.back S4 nr) (S4.trans S5) hr
end
local macro_rules | `(tactic| walk_at "s") => `(tactic| (with_reducible repeat (first | refine mH ?_ | walk_at "2")))
local macro_rules | `(tactic| walk_at "n") => `(tactic| (with_reducible repeat (walk_at "2")))
section
variable {P:Program} {w:World} {K:W.Frag} {mg:Str->Option Value} {base:Heap}
theorem Cq:(["sign"]:List Str).Nodup:=by trivial
def Cr:Str:=Str.ofString "abcdefghijklmnopqrstuvwxyz"
def GOOD:List Nat:=(Cr ++ Str.ofString ".").cps.toList
def Row (z:Str):Prop:=z.length<=48/\∀ c∈z.cps.toList,c∈GOOD
def Ff (l:Str) (c:Nat):Bool:=(Builtin.Str.occurrences l ⟨#[c]⟩ 0 l.length 1).isEmpty
theorem Ri:∀ c∈GOOD,Ff (Cr ++ Str.ofString ".") c=false:=by trivial
def Rj:Sp:=fun vs H Q _=>∃ z:Str,vs=[.str z]/\Row z/\∀ H',Same H H'->Q (.bl true) H'
def Wn:Sp:=fun vs H Q _=>∃ z:Str,vs=[.str z]/\Row z/\∀ H',Same H H'->Q .non H'
def Rk:Sp:=fun vs H Q _=>∃ z y:Str,vs=[.str z,.str y]/\Row z/\Row y/\∀ H',Same H H'->Q .non H'
theorem Jg:aD ["thing"] ["thing"] (az uF):=⟨rfl,rfl,rfl,by trivial,rfl,by trivial,by trivial⟩
theorem yo (T:Txt K mg):Has P w K mg base 1 "is_row" ["thing"] Rj:=by
 walk_at "@fY 1 T.d_is_row Jg";obtain ⟨z,rfl,⟨hz,hg⟩,q⟩:=h;walk_at "=_;!1PbNW~&F$~H{T.b_str}cs0C~0{T.c_MOST_SIGNS}t%)~I~J{T.b_all}$o<.>Z[thing]~v[sign]d:_#0{Cq}~2~K`=~L{T.c_LETTERS}~L{T.c_POINT}";have hz1:z.length<=sizeLine:=ZG hz (by decide);apply rH (.str z) rfl ?_;try with_reducible refine jW ?_
 walk_at "s";apply bL hz1 ?_;refine ut (fun h1=>?_) (fun h1=>?_)
 ·omega
 walk_at "s";refine .inr (.inr ⟨z,rfl,?_⟩);refine Lj (fun i us H'=>H'=H/\us=((z.cps.toList.take i).map fun c=>!Ff (Cr ++ Str.ofString ".") c).map V.bl) hz1 ⟨rfl,rfl⟩ ?_ ?_ ?_
 ·rintro i us H' ⟨rfl,rfl⟩
  simp;omega
 ·rintro i us H' c hc ⟨rfl,rfl⟩
  walk_at "s";apply ⟨KeepSt.set rfl,?_⟩;try with_reducible refine j0 ?_
  walk_at "s";apply jC (ZG (show (Str.ofString "abcdefghijklmnopqrstuvwxyz").length+(Str.ofString ".").length<=1000 by trivial) (by decide)) ?_;refine ⟨rfl,?_⟩;rw [Aa1,hc];simp [Cr,Ff]
 ·rintro us H' ⟨rfl,rfl⟩ D hD
  walk_at "s";refine ⟨D,_,rfl,aj,?_⟩
  have e2:(List.map (fun c=>!Ff (Cr ++ Str.ofString ".") c) (z.cps.toList.take z.cps.size)).all id=true:=by
   rw [List.all_map,Aa4];intro c hc;have:=Ri c (hg c (Aa8 hc));simp [this]
  rw [e2];exact q _ ((Same.refl H').upd hD)
theorem Cu:aD ["thing"] ["thing"] (az sI):=⟨rfl,rfl,rfl,by trivial,rfl,by trivial,by trivial⟩
theorem jh (T:Txt K mg):Has P w K mg base 2 "need_row" ["thing"] Wn:=by
 have yo:=@yo P w K mg base T;walk_at "@fY 1 T.d_need_row Cu";obtain ⟨z,rfl,hz,q⟩:=h;walk_at "=_;%1NW,{yo}C~'";apply ⟨z,rfl,hz,fun H1 S1=>?_⟩;try with_reducible refine jW ?_
 walk_at "s";exact q _ S1
theorem Al:aD ["side","top"] ["side","top"] (az qt):=⟨rfl,rfl,rfl,by trivial,rfl,by trivial,by trivial⟩
theorem jl (T:Txt K mg):Has P w K mg base 3 "need_rows" ["side","top"] Rk:=by
 have jh:=@jh P w K mg base T;walk_at "@fY 2 T.d_need_rows Al";obtain ⟨z,y,rfl,hz,hy,q⟩:=h;walk_at "=_;!6,{jh}C%6,{jh}8";apply ⟨z,rfl,hz,fun H1 S1=>?_⟩;refine ⟨y,rfl,hy,fun H2 S2=>?_⟩;exact q _ (S1.trans S2)
def Jh:Sp:=fun vs H Q _=>∃ c:Nat,vs=[.str ⟨#[c]⟩]/\Q (.bl (!Ff Cr c)) H
theorem NB:∀ c∈GOOD,Ff Cr c=true->c=46:=by trivial
theorem Am:aD ["thing"] ["thing"] (az ql):=⟨rfl,rfl,rfl,by trivial,rfl,by trivial,by trivial⟩
theorem qD (T:Txt K mg):Has P w K mg base 1 "is_letter" ["thing"] Jh:=by
 walk_at "@fY 1 T.d_is_letter Am";obtain ⟨c,rfl,q⟩:=h;walk_at "=_;%)q~&F$~H{T.b_str}q~wT0Cr~2~K:~({T.c_LETTERS}";apply rH (.str _) rfl ?_;apply bL (by rw [rC];decide) ?_;rw [rC,show decide (V.int ((1:Nat):Int)=V.int 1)=true from rfl];walk_at "s";exact q
def Rm:Sp:=fun vs H Q _=>∃ c:Nat,vs=[.str ⟨#[c]⟩]/\c∈GOOD/\Q (.bl true) H
theorem Fg:aD ["thing"] ["thing"] (az vm):=⟨rfl,rfl,rfl,by trivial,rfl,by trivial,by trivial⟩
theorem vz (T:Txt K mg):Has P w K mg base 2 "is_sign" ["thing"] Rm:=by
 have qD:=@qD P w K mg base T;walk_at "@fY 1 T.d_is_sign Fg";obtain ⟨c,rfl,hc,q⟩:=h;walk_at "=_;%)~x,{qD}Cr~2T:~({T.c_POINT}";apply ⟨c,rfl,?_⟩;cases hb:Ff Cr c with
 | false=>
  show if true=true then _ else _
  walk_at "s";exact q
 | true=>
  obtain rfl:=NB c hc hb;show if false=true then _ else _
  walk_at "s";rw [show decide (V.str ⟨#[46]⟩=V.str (Str.ofString "."))=true by trivial];exact q
def Fi:Sp:=fun vs H Q _=>∃ c:Nat,vs=[.str ⟨#[c]⟩]/\c∈GOOD/\Q .non H
theorem An:aD ["thing"] ["thing"] (az qp):=⟨rfl,rfl,rfl,by trivial,rfl,by trivial,by trivial⟩
theorem jm (T:Txt K mg):Has P w K mg base 3 "need_sign" ["thing"] Fi:=by
 have vz:=@vz P w K mg base T;walk_at "@fY 1 T.d_need_sign An";obtain ⟨c,rfl,hc,q⟩:=h;walk_at "=_;%1NW,{vz}C~'";apply ⟨c,rfl,hc,?_⟩;walk_at "s";exact q
end
local macro_rules | `(tactic| walk_at "s") => `(tactic| (with_reducible repeat (first | refine mH ?_ | walk_at "3")))
local macro_rules | `(tactic| walk_at "n") => `(tactic| (with_reducible repeat (walk_at "3")))
mutual
def gA (m:Nat) (C:Nat->Nat->Bool) (i:Nat):Nat->Nat
 | 0=>m - 1 - i
 | j+1=>if C i j=true then gD m C j i else gA m C i j
termination_by j=>i+j
def gD (m:Nat) (C:Nat->Nat->Bool) (j:Nat):Nat->Nat
 | 0=>m+j
 | i+1=>if C i j=true then gA m C i j else gD m C j i
termination_by i=>i+j
end
section
variable {m:Nat} {C:Nat->Nat->Bool}
theorem jU (i:Nat):gA m C i 0=m - 1 - i:=by rw [gA]
theorem mV (i j:Nat):gA m C i (j+1)=if C i j=true then gD m C j i else gA m C i j:=by rw [gA]
theorem ju (j:Nat):gD m C j 0=m+j:=by rw [gD]
theorem mW (i j:Nat):gD m C j (i+1)=if C i j=true then gA m C i j else gD m C j i:=by rw [gD]
theorem Cv (i far:Nat):∀ j,j<=far->((List.range j).map (fun l=>gD m C l (i+1)) ++ gA m C i j :: (List.range' j (far - j)).map (fun l=>gD m C l i)).Perm (gA m C i 0 :: (List.range far).map (fun l=>gD m C l i))
 | 0,_=>by rw [List.range_eq_range' (n:=far)];exact List.Perm.refl _
 | j+1,h=>by
  refine List.Perm.trans ?_ (Cv i far j (by omega));rw [AaD,ZR,AaF,show far - j=(far - (j+1))+1 by omega,List.range'_succ,Aaj];refine Abi _ ?_;show (gD m C j (i+1) :: gA m C i (j+1) :: _).Perm _;rw [mV,mW];by_cases hc:C i j=true
  ·rw [if_pos hc,if_pos hc];exact List.Perm.refl _
  ·rw [if_neg hc,if_neg hc]
   exact List.Perm.swap _ _ _
theorem row_end (i far:Nat):((List.range far).map (fun l=>gD m C l (i+1)) ++ [gA m C i far]).Perm ((m - 1 - i) :: (List.range far).map (fun l=>gD m C l i)):=by
 have h:=Cv (m:=m) (C:=C) i far far (ZC _);rw [AbS,jU] at h;exact h
theorem Cw (far:Nat):∀ i,((List.range i).map (fun k=>gA m C k far) ++ (List.range far).map (fun l=>gD m C l i)).Perm ((List.range i).map (fun k=>m - 1 - k) ++ (List.range far).map (fun l=>m+l))
 | 0=>by
  simp only [List.range_zero,List.map_nil,Aba,ju];exact List.Perm.refl _
 | i+1=>by
  have ih:=Cw far i;rw [AaD,ZR,ZR,AaF,AaF];refine List.Perm.trans (Abi _ (List.perm_append_comm.trans (row_end i far))) ?_;show ((List.range i).map _ ++ ([m - 1 - i] ++ _)).Perm _;refine List.Perm.trans (List.perm_append_comm_assoc _ _ _) ?_;refine List.Perm.trans ?_ (List.perm_append_comm_assoc _ _ _);exact Abi _ ih
theorem vA (far:Nat):((List.range m).map (fun k=>gA m C k far) ++ (List.range far).map (fun l=>gD m C l m)).Perm (List.range (m+far)):=by
 refine (Cw far m).trans ?_;rw [Abg];refine List.Perm.append_right _ ?_
 have e:(List.range m).map (fun k=>m - 1 - k)=(List.range m).reverse:=by
  refine List.ext_getElem (by simp) fun i h1 h2=>?_
  simp
 rw [e];exact List.reverse_perm _
end
def jH (z:Nat->Bool) (ab:List Int) (left:Int):Nat->List Int×Int
 | 0=>([],left)
 | j+1=>if z j=true then ((jH z ab left j).1 ++ [(jH z ab left j).2],ab.getD j 0) else ((jH z ab left j).1 ++ [ab.getD j 0],(jH z ab left j).2)
theorem Cy (z:Nat->Bool) (ab:List Int) (left:Int):∀ j,(jH z ab left j).1.length=j
 | 0=>rfl
 | j+1=>by
  have ih:=Cy z ab left j;rw [jH]
  split <;> simp [ih]
def vB (m:Nat) (C:Nat->Nat->Bool) (far i:Nat):List Int:=(List.range far).map fun l=>((gD m C l i:Nat):Int)
def Ji (m:Nat) (C:Nat->Nat->Bool) (far i:Nat):List Int:=(List.range i).map fun k=>((gA m C k far:Nat):Int)
theorem Fj {m:Nat} {C:Nat->Nat->Bool} {far i j:Nat} (h:j < far):(vB m C far i).getD j 0=((gD m C j i:Nat):Int):=by
 unfold vB;rw [Zv,ZM,Z3 h];rfl
theorem Wo {m:Nat} {C:Nat->Nat->Bool} {far i j:Nat} (h:j < i):(Ji m C far i)[j]?=some ((gA m C j far:Nat):Int):=by
 unfold Ji;rw [ZM,Z3 h];rfl
theorem Rn {m:Nat} {C:Nat->Nat->Bool} {far i j:Nat} (h:j < far):(vB m C far i)[j]?=some ((gD m C j i:Nat):Int):=by
 unfold vB;rw [ZM,Z3 h];rfl
theorem Ao {m:Nat} {C:Nat->Nat->Bool} {far i:Nat}:∀ j,j<=far->jH (C i) (vB m C far i) ((gA m C i 0:Nat):Int) j=(vB m C j (i+1),((gA m C i j:Nat):Int))
 | 0,_=>rfl
 | j+1,h=>by
  have ih:=Ao (m:=m) (C:=C) (far:=far) (i:=i) j (by omega);rw [jH,ih,Fj (by omega),mV];have e:vB m C (j+1) (i+1)=vB m C j (i+1) ++ [((gD m C j (i+1):Nat):Int)]:=by unfold vB;rw [AaD,ZR];rfl
  rw [e,mW];by_cases hc:C i j=true
  ·rw [if_pos hc,if_pos hc,if_pos hc]
  ·rw [if_neg hc,if_neg hc,if_neg hc]
theorem Cz {m:Nat} {C:Nat->Nat->Bool} {far:Nat}:(∀ i,i < m->gA m C i far < m+far)/\∀ j,j < far->gD m C j m < m+far:=by
 have p:=vA (m:=m) (C:=C) far;refine ⟨fun i hi=>?_,fun j hj=>?_⟩
 ·exact ZX.mp (p.mem_iff.mp (AbM _ (Aam.mpr ⟨i,ZX.mpr hi,rfl⟩)))
 ·exact ZX.mp (p.mem_iff.mp (Aau _ (Aam.mpr ⟨j,ZX.mpr hj,rfl⟩)))
theorem yp {m:Nat} {C:Nat->Nat->Bool} {far:Nat}:((List.range m).map (fun k=>gA m C k far) ++ (List.range far).map (fun l=>gD m C l m)).Nodup:=
 (vA (m:=m) (C:=C) far).nodup_iff.mpr Abx
theorem YW {m:Nat} {C:Nat->Nat->Bool} {far i k:Nat} (hi:i < m) (hk:k < m) (h:i≠k):gA m C i far≠gA m C k far:=by
 have n:=(List.nodup_append.mp (yp (m:=m) (C:=C) (far:=far))).1;have key:=Abk.mp n;intro z;rcases Nat.lt_or_gt_of_ne h with l | l
 ·exact key i k (by simpa using hi) (by simpa using hk) l (by simpa using z)
 ·exact key k i (by simpa using hk) (by simpa using hi) l (by simpa using z.symm)
theorem YX {m:Nat} {C:Nat->Nat->Bool} {far i k:Nat} (hi:i < far) (hk:k < far) (h:i≠k):gD m C i m≠gD m C k m:=by
 have n:=(List.nodup_append.mp (yp (m:=m) (C:=C) (far:=far))).2.1;have key:=Abk.mp n;intro z;rcases Nat.lt_or_gt_of_ne h with l | l
 ·exact key i k (by simpa using hi) (by simpa using hk) l (by simpa using z)
 ·exact key k i (by simpa using hk) (by simpa using hi) l (by simpa using z.symm)
theorem YZ {m:Nat} {C:Nat->Nat->Bool} {far i j:Nat} (hi:i < m) (hj:j < far):gA m C i far≠gD m C j m:=
 (List.nodup_append.mp (yp (m:=m) (C:=C) (far:=far))).2.2 _ (Aam.mpr ⟨i,ZX.mpr hi,rfl⟩) _ (Aam.mpr ⟨j,ZX.mpr hj,rfl⟩)
def IsEnds (m:Nat) (C:Nat->Nat->Bool) (far:Nat) (R:List Int):Prop:=R.length=m+far/\(∀ j,j < far->R[gD m C j m]?=some (j:Int))/\∀ i,i < m->R[gA m C i far]?=some (((far+(m - 1 - i):Nat)):Int)
theorem IsEnds.eq {m:Nat} {C:Nat->Nat->Bool} {far:Nat} {R R':List Int} (h:IsEnds m C far R) (h':IsEnds m C far R'):R=R':=by
 refine Abs fun k=>?_
 by_cases hk:k < m+far
 ·have hm:=(vA (m:=m) (C:=C) far).mem_iff.mpr (ZX.mpr hk)
  rcases Aaw.mp hm with hm | hm
  ·obtain ⟨i,hi,rfl⟩:=Aam.mp hm
   rw [h.2.2 i (ZX.mp hi),h'.2.2 i (ZX.mp hi)]
  ·obtain ⟨i,hi,rfl⟩:=Aam.mp hm
   rw [h.2.1 i (ZX.mp hi),h'.2.1 i (ZX.mp hi)]
 ·rw [Aav (by rw [h.1];omega),Aav (by rw [h'.1];omega)]
def GoodS (ys:List Str):Prop:=∀ y∈ys,∃ c,y=⟨#[c]⟩/\c∈GOOD
theorem GoodS.ones {ys:List Str} (h:GoodS ys):∀ y∈ys,y.length=1:=fun y hy=>by
 obtain ⟨c,rfl,_⟩:=h y hy;exact rC c
theorem NK {zs:List Str} (h:GoodS zs) (hl:zs.length<=48):Row (Txt.join (Str.ofString "") zs):=by
 refine ⟨by rw [Lh h.ones];exact hl,fun c hc=>?_⟩;rw [xG] at hc;obtain ⟨l,hl1,hl2⟩:=List.mem_flatten.mp hc;obtain ⟨y,hy,e⟩:=Aam.mp hl1;obtain ⟨d,rfl,hd⟩:=h y hy;subst e;simp at hl2;subst hl2;exact hd
theorem over {H H':Hp} {r:Addr} {o:HO} (s:Same H H') (hn:H r=none):Same H (upd H' r o):=fun b u e=>by
 rw [aC (fun z=>by rw [z,hn] at e;cases e)];exact s b u e
section
variable {P:Program} {w:World} {K:W.Frag} {mg:Str->Option Value} {base:Heap}
theorem vC:(["column","many"]:List Str).Nodup:=by trivial
def Ro:Sp:=fun vs H Q _=>∃ m f:Nat,vs=[.int m,.int f]/\m<=48/\f<=48/\∀ D,H D=none->Q (.ref D) (upd H D (.lst (((List.range f).map fun l=>((m+l:Nat):Int)).map V.int)))
theorem yq:aD ["many","far"] ["many","far"] (az jT):=⟨rfl,rfl,rfl,by trivial,rfl,by trivial,by trivial⟩
theorem gf (T:Txt K mg):Has P w K mg base 1 "lines_above" ["many","far"] Ro:=by
 walk_at "@fY 2 T.d_lines_above yq";obtain ⟨m,f,rfl,hm,hf,q⟩:=h;walk_at "=_;%)o<.0>Z[many far]~y[column many]p8_#0{vC}=v#1`";refine ⟨_,rfl,by omega,by omega,?_⟩;refine xJ (n:=f) (fun i ys H'=>H'=H/\ys=((List.range i).map fun l=>((m+l:Nat):Int)).map V.int) (ZG hf (by decide)) ⟨rfl,rfl⟩ ?_ ?_ ?_
 ·rintro i ys H' ⟨_,rfl⟩
  simp
 ·rintro i ys H' hi ⟨rfl,rfl⟩
  walk_at "s";apply ⟨KeepSt.set rfl,?_⟩;refine ⟨rfl,?_⟩;rw [AaD,ZR,ZR];simp
 ·rintro ys H' ⟨rfl,rfl⟩ D hD
  walk_at "s";exact q D hD
def PrI (H:Hp):List V->List (Int×Int)->Prop
 | [],[]=>True
 | v :: vs,(x,y) :: L=>(∃ p,v= .ref p/\H p=some (.tup [.int x,.int y]))/\PrI H vs L
 | _,_=>False
theorem PrI.imp {H H':Hp} (h:∀ p us,H p=some (.tup us)->H' p=some (.tup us)):∀ {ws:List V} {L:List (Int×Int)},PrI H ws L->PrI H' ws L
 | [],[],_=>trivial
 | v :: vs,(x,y) :: L,⟨⟨p,e,hp⟩,r⟩=>⟨⟨p,e,h _ _ hp⟩,PrI.imp h r⟩
 | [],_ :: _,z=>z.elim
 | _ :: _,[],z=>z.elim
theorem PrI.same {H H':Hp} {ws:List V} {L:List (Int×Int)} (h:PrI H ws L) (s:Same H H'):PrI H' ws L:=h.imp fun p us e=>s _ _ e
theorem PrI.upd {H:Hp} {ws us:List V} {L:List (Int×Int)} {f:Addr} {o:HO} (h:PrI H ws L) (hf:H f=some (.lst us)):PrI (upd H f o) ws L:=h.imp fun p vs e=>by rw [aC (fun z=>by rw [z,hf] at e;cases e)];exact e
theorem PrI.push {H:Hp} {p:Addr} {x y:Int} (hp:H p=some (.tup [.int x,.int y])):∀ {ws:List V} {L:List (Int×Int)},PrI H ws L->PrI H (ws ++ [.ref p]) (L ++ [(x,y)])
 | [],[],_=>⟨⟨p,rfl,hp⟩,trivial⟩
 | v :: vs,(x,y) :: L,⟨a,r⟩=>⟨a,PrI.push hp r⟩
 | [],_ :: _,z=>z.elim
 | _ :: _,[],z=>z.elim
theorem PrI.len {H:Hp}:∀ {ws:List V} {L:List (Int×Int)},PrI H ws L->ws.length=L.length
 | [],[],_=>rfl
 | v :: vs,(x,y) :: L,⟨_,r⟩=>congrArg (· +1) (PrI.len r)
 | [],_ :: _,z=>z.elim
 | _ :: _,[],z=>z.elim
theorem PrI.get {H:Hp}:∀ {ws:List V} {L:List (Int×Int)} {k:Nat} {q:Int×Int},PrI H ws L->L[k]?=some q->∃ r,ws[k]?=some (.ref r)/\H r=some (.tup [.int q.1,.int q.2])
 | v :: vs,(x,y) :: L,0,q,⟨⟨p,e,hp⟩,_⟩,h=>by
  have h':(x,y)=q:=by simpa using h
  subst h';exact ⟨p,by rw [e];rfl,hp⟩
 | v :: vs,(x,y) :: L,k+1,q,⟨_,r⟩,h=>by
  obtain ⟨a,h1,h2⟩:=PrI.get (k:=k) r (by simpa using h);exact ⟨a,by simpa using h1,h2⟩
 | [],[],k,q,_,h=>by simp at h
 | [],_ :: _,_,_,z,_=>z.elim
 | _ :: _,[],_,_,z,_=>z.elim
def CG (z:Nat->Bool) (ab:List Int) (left:Int) (n:Nat):List (Int×Int):=(List.range n).map fun j=>((jH z ab left j).2,ab.getD j 0)
theorem Jj (z:Nat->Bool) (ab:List Int) (left:Int) (n:Nat):CG z ab left (n+1)=CG z ab left n ++ [((jH z ab left n).2,ab.getD n 0)]:=by unfold CG;rw [AaD,ZR];rfl
def yr (z:Str) (j:Nat):Bool:=decide ((⟨#[z.cps.getD j 0]⟩:Str)=Str.ofString "o")
def Wq:Sp:=fun vs H Q _=>∃ (z:Str) (left:Int) (a:Addr) (ab:List Int),vs=[.str z,.int left,.ref a]/\H a=some (.lst (ab.map V.int))/\z.cps.size=ab.length/\ab.length<=48/\
 ∀ t c b H',H b=none->H c=none->Same H H'->H' t=some (.tup [.ref c,.ref b,.int (jH (yr z) ab left ab.length).2])->H' b=some (.lst ((jH (yr z) ab left ab.length).1.map V.int))->(∃ cs,H' c=some (.lst cs)/\PrI H' cs (CG (yr z) ab left ab.length))->Q (.ref t) H'
theorem jn:aD ["signs","left","above","coming","below","sign","line"] ["signs","left","above"] (az sJ):=⟨rfl,rfl,rfl,by trivial,rfl,by trivial,by trivial⟩
theorem jJ (T:Txt K mg):Has P w K mg base 1 "over_row" ["signs","left","above"] Wq:=by
 walk_at "@fY 3 T.d_over_row jn";obtain ⟨z,left,a,ab,rfl,ha,hz,hl,q⟩:=h;walk_at "=jn;!'#3^S!'#4^S!J~z{T.b_zip}F?YG3#5^R3#6^!6O-$QD$9%~3u~M.~({T.c_TOUCH}!6O+8%'#1^9%6O+$9%)Q&-&+8";apply jA rfl fun C nC=>?_
 refine jA rfl fun B nB=>?_
 have nBH:H B=none:=((Same.refl H).upd nC).free nB;have nCB:C≠B:=fun z=>by rw [z,aj] at nB;cases nB
 have e0:upd (upd H C (.lst [])) B (.lst []) C=some (.lst []):=by rw [aC nCB];exact aj
 have S0:Same H (upd (upd H C (.lst [])) B (.lst [])):=((Same.refl H).upd nC).upd nB;walk_at "s";refine ⟨z,a,ab.map V.int,rfl,SqL.of (S0 _ _ ha),?_⟩
 refine Iv (ys:=ab.map V.int) (fun j U H'=>Same H H'/\(∃ cs,H' C=some (.lst cs)/\cs.length=j/\PrI H' cs (CG (yr z) ab left j))/\H' B=some (.lst ((jH (yr z) ab left j).1.map V.int))/\
   ∃ x5 x6,U=[some (.str z),some (.int (jH (yr z) ab left j).2),some (.ref a),some (.ref C),some (.ref B),x5,x6])
  (by rw [ZJ];exact hz) ⟨S0,⟨[],e0,rfl,trivial⟩,aj,none,none,rfl⟩ (fun i U H' _ h=>SqL.of (h.1 _ _ ha)) ?_ ?_
 ·rintro j U H1 T0 y hy ⟨S1,⟨cs,hC,hcs,hW⟩,hB,x5,x6,rfl⟩ nT
  obtain ⟨n,hn,rfl⟩:∃ n,ab[j]?=some n/\y=V.int n:=by
   rw [ZM] at hy;cases e:ab[j]? with
   | none=>rw [e] at hy;cases hy
   | some n=>rw [e] at hy;exact ⟨n,rfl,(Z2 hy).symm⟩
  have hj:j < ab.length:=(Zx.mp hn).1;have en:ab.getD j 0=n:=by rw [Zv,hn];rfl
  refine bI (xs:=[.str ⟨#[z.cps.getD j 0]⟩,.int n]) (SqT.of aj) rfl ?_;have hC2:=aX nT hC (o:=.tup [.str ⟨#[z.cps.getD j 0]⟩,.int n]);have hB2:=aX nT hB (o:=.tup [.str ⟨#[z.cps.getD j 0]⟩,.int n]);have hW2:=hW.same ((Same.refl H1).upd nT (o:=.tup [.str ⟨#[z.cps.getD j 0]⟩,.int n]));have S2:=S1.upd nT (o:=.tup [.str ⟨#[z.cps.getD j 0]⟩,.int n]);generalize upd H1 T0 (.tup [.str ⟨#[z.cps.getD j 0]⟩,.int n])=H2 at hC2 hB2 S2 hW2 ⊢;have hs:100<=sizeLine:=by decide
  walk_at "s";apply ⟨.inl ⟨rfl,_,SqL.of hC2⟩,?_⟩;refine jA rfl fun p np=>?_
  have hC3:=aX np hC2 (o:=.tup [.int (jH (yr z) ab left j).2,.int n]);have hB3:=aX np hB2 (o:=.tup [.int (jH (yr z) ab left j).2,.int n]);have S3:=S2.upd np (o:=.tup [.int (jH (yr z) ab left j).2,.int n])
  have hW3:PrI (upd H2 p (.tup [.int (jH (yr z) ab left j).2,.int n])) (cs ++ [.ref p]) (CG (yr z) ab left (j+1)):=by
   rw [Jj,en];exact (hW2.same ((Same.refl H2).upd np)).push aj
  generalize upd H2 p (.tup [.int (jH (yr z) ab left j).2,.int n])=H3 at hC3 hB3 S3 hW3 ⊢;walk_at "s";refine cB hC3 (by omega) ?_;have S4:=over (o:=.lst (cs ++ [.ref p])) S3 nC;have hC4:upd H3 C (.lst (cs ++ [.ref p])) C=some (.lst (cs ++ [.ref p])):=aj;have hB4:upd H3 C (.lst (cs ++ [.ref p])) B=some (.lst ((jH (yr z) ab left j).1.map V.int)):=by rw [aC nCB.symm];exact hB3
  have hW4:=hW3.upd hC3 (o:=.lst (cs ++ [.ref p]));generalize upd H3 C (.lst (cs ++ [.ref p]))=H4 at hC4 hB4 S4 hW4 ⊢;have hlB:((jH (yr z) ab left j).1.map V.int).length < sizeLine:=by rw [ZJ,Cy];omega
  walk_at "s";refine ut (fun hk=>?_) (fun hk=>?_)
  ·have hk':yr z j=true:=ZK (V.str.inj hk)
   walk_at "s";apply ⟨.inl ⟨rfl,_,SqL.of hB4⟩,?_⟩;apply cB hB4 hlB ?_;refine ⟨over S4 nBH,⟨cs ++ [.ref p],by rw [aC nCB];exact hC4,by simp [hcs],hW4.upd hB4⟩,?_,some (.str ⟨#[z.cps.getD j 0]⟩),some (.int n),?_⟩
   ·rw [aj,jH,if_pos hk',ZR];rfl
   ·rw [jH,if_pos hk',en];rfl
  ·have hk':¬ yr z j=true:=fun h=>hk (congrArg V.str (AbL h))
   walk_at "s";apply ⟨.inl ⟨rfl,_,SqL.of hB4⟩,?_⟩;refine cB hB4 hlB ?_;refine ⟨over S4 nBH,⟨cs ++ [.ref p],by rw [aC nCB];exact hC4,by simp [hcs],hW4.upd hB4⟩,?_,some (.str ⟨#[z.cps.getD j 0]⟩),some (.int n),?_⟩
   ·rw [aj,jH,if_neg hk',en,ZR];rfl
   ·rw [jH,if_neg hk'];rfl
 ·rintro U H1 ⟨S1,⟨cs,hC,hcs,hW⟩,hB,x5,x6,rfl⟩
  rw [ZJ] at hB hW;walk_at "s";apply jA rfl fun p np=>?_
  rw [ZJ];exact q p C B _ nBH nC (S1.upd np) aj (aX np hB) ⟨cs,aX np hC,hW.same ((Same.refl H1).upd np)⟩
def Wr:Sp:=fun vs H Q _=>∃ (m far:Nat) (C:Nat->Nat->Bool) (b r:Addr),vs=[.ref b,.ref r]/\m<=48/\far<=48/\H b=some (.lst ((vB m C far m).map V.int))/\H r=some (.lst ((Ji m C far m).map V.int))/\
 ∀ e R H',H e=none->Same H H'->IsEnds m C far R->H' e=some (.lst (R.map V.int))->Q (.ref e) H'
theorem Tt {n k:Nat} (h:k < n):Hx n (k:Int)=some k:=by
 unfold Hx;rw [if_pos (by omega),if_pos (by omega)];rfl
theorem Ws (n:Nat):(List.replicate n [V.int 0]).flatten=(List.replicate n (0:Int)).map V.int:=by
 induction n with
 | zero=>rfl
 | succ n ih=>rw [AaB,AaQ,ih,AaB];rfl
theorem jK:aD ["below","right","ends","column","line","place"] ["below","right"] (az vp):=⟨rfl,rfl,rfl,by trivial,rfl,by trivial,by trivial⟩
theorem vD (T:Txt K mg):Has P w K mg base 1 "ends_of" ["below","right"] Wr:=by
 walk_at "@fY 2 T.d_ends_of jK";obtain ⟨m,far,C,b,r,rfl,hm,hf,hb,hr',q⟩:=h;walk_at "=jK;!'#2^|KV=0C08!Jm{T.b_enumerate}CYG3#3^R3#4^%g-~N(+!J~|{T.b_enumerate}{T.b_reversed}*YG3#5^R3#4^%g=0C.~N(+%)(";have hs:1000<=sizeLine:=by decide
 have lb:((vB m C far m).map V.int).length=far:=by simp [vB]
 have lr:((Ji m C far m).map V.int).length=m:=by simp [Ji]
 apply ⟨by decide,fun z nz=>?_⟩;refine iJ (SqL.of (aX nz hb)) ?_;rw [lb];walk_at "s";refine iJ (SqL.of (aX nz hr')) ?_;rw [lr];walk_at "s";have eN:((far:Int)+(m:Int)).toNat=m+far:=by omega
 refine xP aj (by omega) (by omega) (by rw [eN];simp;omega) fun e ne=>?_
 rw [eN,Ws];have neH:H e=none:=((Same.refl H).upd nz).free ne;have S0:=((Same.refl H).upd (o:=.lst [.int 0]) nz).upd (o:=.lst ((List.replicate (m+far) (0:Int)).map V.int)) ne;have e0:=aj (H:=upd H z (.lst [.int 0])) (a:=e) (o:=.lst ((List.replicate (m+far) (0:Int)).map V.int));generalize upd (upd H z (.lst [.int 0])) e (.lst ((List.replicate (m+far) (0:Int)).map V.int))=H1 at S0 e0 ⊢;have nbe:b≠e:=fun z=>by rw [z,neH] at hb;cases hb
 have nre:r≠e:=fun z=>by rw [z,neH] at hr';cases hr'
 walk_at "s";refine .inr ⟨b,_,rfl,SqL.of (S0 _ _ hb),?_⟩
 refine lN (xs:=(vB m C far m).map V.int) (fun j U H'=>Same H H'/\(∃ R:List Int,H' e=some (.lst (R.map V.int))/\R.length=m+far/\∀ l,l < j->R[gD m C l m]?=some (l:Int))/\∃ x3 x4 x5,U=[some (.ref b),some (.ref r),some (.ref e),x3,x4,x5])
  ⟨S0,⟨_,e0,by simp,fun l hl=>absurd hl (by omega)⟩,none,none,none,rfl⟩ (fun i U H' _ h=>SqL.of (h.1 _ _ hb)) ?_ ?_
 ·rintro j U H2 T0 x hx ⟨S2,⟨R,hR,lR,gR⟩,x3,x4,x5,rfl⟩ nT
  have hj:j < far:=by
   have:=(Zx.mp hx).1;rw [lb] at this;exact this
  obtain rfl:x=V.int ((gD m C j m:Nat):Int):=by
   rw [ZM,Rn hj] at hx;exact (Z2 hx).symm
  have hlt:=Cz (m:=m) (C:=C) (far:=far) |>.2 j hj;refine bI (xs:=[.int j,.int ((gD m C j m:Nat):Int)]) (SqT.of aj) rfl ?_;have hR2:=aX nT hR (o:=.tup [.int j,.int ((gD m C j m:Nat):Int)]);have S3:=S2.upd nT (o:=.tup [.int j,.int ((gD m C j m:Nat):Int)]);generalize upd H2 T0 (.tup [.int j,.int ((gD m C j m:Nat):Int)])=H3 at hR2 S3 ⊢;walk_at "s";refine cu hR2 (Tt (by rw [ZJ,lR];exact hlt)) ?_;rw [← List.map_set];refine ⟨over S3 neH,⟨R.set (gD m C j m) j,aj,by simp [lR],fun l hl=>?_⟩,some (.int j),some (.int ((gD m C j m:Nat):Int)),x5,rfl⟩;by_cases hlj:l=j
  ·subst hlj
   rw [Aaz (by omega)]
  ·rw [Aaf (YX (m:=m) (C:=C) (far:=far) hj (by omega) (fun z=>hlj z.symm))]
   exact gR l (by omega)
 ·rintro U H2 ⟨S2,⟨R,hR,lR,gR⟩,x3,x4,x5,rfl⟩
  rw [lb] at gR;walk_at "s";refine ⟨r,(Ji m C far m).map V.int,rfl,SqL.of (S2 _ _ hr'),?_⟩
  refine Ip (xs:=(Ji m C far m).map V.int) (fun j U H'=>Same H H'/\(∃ R:List Int,H' e=some (.lst (R.map V.int))/\R.length=m+far/\(∀ l,l < far->R[gD m C l m]?=some (l:Int))/\∀ l,l < j->R[gA m C (m - 1 - l) far]?=some ((far+l:Nat):Int))/\∃ x3 x4 x5,U=[some (.ref b),some (.ref r),some (.ref e),x3,x4,x5])
   ⟨S2,⟨R,hR,lR,gR,fun l hl=>absurd hl (by omega)⟩,_,_,_,rfl⟩ (fun i U H' _ h=>SqL.of (h.1 _ _ hr')) ?_ ?_
  ·rintro j U H3 T0 x hj hx ⟨S3,⟨R,hR,lR,gR,aR⟩,x3,x4,x5,rfl⟩ nT
   rw [lr] at hj hx
   obtain rfl:x=V.int ((gA m C (m - 1 - j) far:Nat):Int):=by
    rw [ZM,Wo (by omega)] at hx;exact (Z2 hx).symm
   have hlt:=Cz (m:=m) (C:=C) (far:=far) |>.1 (m - 1 - j) (by omega);refine bI (xs:=[.int j,.int ((gA m C (m - 1 - j) far:Nat):Int)]) (SqT.of aj) rfl ?_;have hR2:=aX nT hR (o:=.tup [.int j,.int ((gA m C (m - 1 - j) far:Nat):Int)]);have S4:=S3.upd nT (o:=.tup [.int j,.int ((gA m C (m - 1 - j) far:Nat):Int)]);generalize upd H3 T0 (.tup [.int j,.int ((gA m C (m - 1 - j) far:Nat):Int)])=H4 at hR2 S4 ⊢;walk_at "s";refine iJ (SqL.of (S4 _ _ hb)) ?_;rw [lb];walk_at "s";refine cu hR2 (Tt (by rw [ZJ,lR];exact hlt)) ?_;rw [← List.map_set];refine ⟨over S4 neH,⟨R.set (gA m C (m - 1 - j) far) ((far:Int)+j),aj,by simp [lR],fun l hl=>?_,fun l hl=>?_⟩,x3,some (.int ((gA m C (m - 1 - j) far:Nat):Int)),some (.int j),rfl⟩
   ·rw [Aaf (YZ (m:=m) (C:=C) (far:=far) (by omega) hl)]
    exact gR l hl
   ·by_cases hlj:l=j
    ·subst hlj
     rw [Aaz (by omega)]
     congr 1
    ·rw [Aaf (YW (m:=m) (C:=C) (far:=far) (by omega) (by omega) (by omega))]
     exact aR l (by omega)
  ·rintro U H3 ⟨S3,⟨R,hR,lR,gR,aR⟩,x3,x4,x5,rfl⟩
   rw [lr] at aR;walk_at "s";refine q e R H3 neH S3 ⟨lR,gR,fun i hi=>?_⟩ hR;have:=aR (m - 1 - i) (by omega);rw [show m - 1 - (m - 1 - i)=i by omega] at this;exact this
def cC (rows:List Str) (i:Nat):Nat->Bool:=yr (rows.getD i ⟨#[]⟩)
def CJ (m:Nat) (C:Nat->Nat->Bool) (far i:Nat):List (Int×Int):=(List.range far).map fun j=>(((gA m C i j:Nat):Int),((gD m C j i:Nat):Int))
def Cmg (H:Hp) (P:Addr->Prop) (m:Nat) (C:Nat->Nat->Bool) (far:Nat) (cs:List V) (n:Nat):Prop:=cs.length=n/\∀ i,i < n->∃ c ws,cs[i]?=some (.ref c)/\P c/\H c=some (.lst ws)/\PrI H ws (CJ m C far i)
theorem Cmg.imp {H H':Hp} {P P':Addr->Prop} {m:Nat} {C:Nat->Nat->Bool} {far:Nat} {cs:List V} {n:Nat} (h:Cmg H P m C far cs n) (ht:∀ p us,H p=some (.tup us)->H' p=some (.tup us)) (hl:∀ c ws,P c->H c=some (.lst ws)->H' c=some (.lst ws)) (hp:∀ c,P c->P' c):Cmg H' P' m C far cs n:=
 ⟨h.1,fun i hi=>by
  obtain ⟨c,ws,e1,e2,e3,e4⟩:=h.2 i hi;exact ⟨c,ws,e1,hp c e2,hl c ws e2 e3,e4.imp ht⟩⟩
theorem Cmg.same {H H':Hp} {P:Addr->Prop} {m:Nat} {C:Nat->Nat->Bool} {far:Nat} {cs:List V} {n:Nat} (h:Cmg H P m C far cs n) (s:Same H H'):Cmg H' P m C far cs n:=h.imp (fun p us e=>s _ _ e) (fun c ws _ e=>s _ _ e) fun _ z=>z
theorem Cmg.push {H:Hp} {P:Addr->Prop} {m:Nat} {C:Nat->Nat->Bool} {far:Nat} {cs:List V} {n:Nat} {c:Addr} {ws:List V} (h:Cmg H P m C far cs n) (hP:P c) (hc:H c=some (.lst ws)) (hw:PrI H ws (CJ m C far n)):Cmg H P m C far (cs ++ [.ref c]) (n+1):=by
 refine ⟨by rw [Z8,h.1];rfl,fun i hi=>?_⟩;by_cases e:i=n
 ·subst e
  exact ⟨c,ws,by rw [gV (by rw [h.1];exact ZC _),h.1,AbS];rfl,hP,hc,hw⟩
 ·obtain ⟨d,us,e1,e2⟩:=h.2 i (by omega)
  exact ⟨d,us,by rw [Aab (by rw [h.1];omega)];exact e1,e2⟩
theorem Cmg.upd {H:Hp} {P:Addr->Prop} {m:Nat} {C:Nat->Nat->Bool} {far:Nat} {cs us:List V} {n:Nat} {f:Addr} {o:HO} (h:Cmg H P m C far cs n) (hf:H f=some (.lst us)) (hP:∀ c,P c->c≠f):Cmg (upd H f o) P m C far cs n:=
 h.imp (fun p vs e=>by rw [aC (fun z=>by rw [z,hf] at e;cases e)];exact e) (fun c ws pc e=>by rw [aC (hP c pc)];exact e) fun _ z=>z
def Rp:Sp:=fun vs H Q _=>∃ (m far:Nat) (rows:List Str) (c:Addr),vs=[.int m,.int far,.ref c]/\H c=some (.lst (rows.map V.str))/\rows.length=m/\m<=48/\far<=48/\(∀ z∈rows,z.cps.size=far)/\
 ∀ t cm e R H',H e=none->Same H H'->H' t=some (.tup [.ref cm,.ref e])->IsEnds m (cC rows) far R->H' e=some (.lst (R.map V.int))->(∃ cs,H' cm=some (.lst cs)/\Cmg H' (fun _=>True) m (cC rows) far cs m)->Q (.ref t) H'
theorem Wt {m:Nat} {C:Nat->Nat->Bool} {far i:Nat}:CG (C i) (vB m C far i) ((gA m C i 0:Nat):Int) far=CJ m C far i:=by
 unfold CG CJ;refine List.map_congr_left fun j hj=>?_
 have hj':=ZX.mp hj;rw [Ao j (by omega),Fj hj']
theorem NP {m:Nat} {C:Nat->Nat->Bool} {far:Nat}:vB m C far 0=(List.range far).map fun l=>((m+l:Nat):Int):=by
 unfold vB;simp only [ju]
theorem wL {m:Nat} {C:Nat->Nat->Bool} {far i:Nat}:(vB m C far i).length=far:=by simp [vB]
theorem Rq {m:Nat} {C:Nat->Nat->Bool} {far i:Nat}:(Ji m C far i).length=i:=by simp [Ji]
theorem d8:aD ["many","far","cells","above","coming","right","row","signs","gone"] ["many","far","cells"] (az oX):=⟨rfl,rfl,rfl,by trivial,rfl,by trivial,by trivial⟩
theorem pB (T:Txt K mg):Has P w K mg base 2 "over_cells" ["many","far","cells"] Rp:=by
 have gf:=@gf P w K mg base T;have jJ:=@jJ P w K mg base T;have vD:=@vD P w K mg base T;walk_at "@fY 3 T.d_over_cells d8";obtain ⟨m,far,rows,c,rfl,hc,hr',hm,hf,hz,q⟩:=h;walk_at "=d8;!'#3^,{gf}F8!'#4^S!'#5^S!Jm{T.b_enumerate}?YG3#6^R3#7^!'#8^,{jJ}&a&hl:9L!6O+$/w!'#3^/w%6O.$/w%)Q&+$,{vD}&-$.";have hs:1000<=sizeLine:=by decide
 refine ⟨m,far,rfl,hm,hf,fun A0 nA=>?_⟩;rw [← NP (C:=cC rows)];have SA:=(Same.refl H).upd nA (o:=.lst ((vB m (cC rows) far 0).map V.int));have eA:=aj (H:=H) (a:=A0) (o:=.lst ((vB m (cC rows) far 0).map V.int));generalize upd H A0 (.lst ((vB m (cC rows) far 0).map V.int))=H1 at SA eA ⊢;walk_at "s";refine jA rfl fun CM nC=>?_
 have SC:=SA.upd nC (o:=.lst []);have eC:=aj (H:=H1) (a:=CM) (o:=.lst []);have eA2:=aX nC eA (o:=.lst []);have nCH:=SA.free nC;generalize upd H1 CM (.lst [])=H2 at SC eC eA2 ⊢;walk_at "s";refine jA rfl fun RT nR=>?_
 have SR:=SC.upd nR (o:=.lst []);have eR:=aj (H:=H2) (a:=RT) (o:=.lst []);have eA3:=aX nR eA2 (o:=.lst []);have eC3:=aX nR eC (o:=.lst []);have nRH:=SC.free nR;have nCR:CM≠RT:=fun z=>by rw [z,nR] at eC;cases eC
 generalize upd H2 RT (.lst [])=H3 at SR eR eA3 eC3 ⊢;walk_at "s";refine .inr ⟨c,_,rfl,SqL.of (SR _ _ hc),?_⟩
 refine lN (xs:=rows.map V.str) (fun i U H'=>Same H H'/\(∃ cs,H' CM=some (.lst cs)/\cs.length=i/\Cmg H' (fun c=>c≠CM/\c≠RT) m (cC rows) far cs i)/\H' RT=some (.lst ((Ji m (cC rows) far i).map V.int))/\
   ∃ a x6 x7 x8,H' a=some (.lst ((vB m (cC rows) far i).map V.int))/\a≠CM/\a≠RT/\U=[some (.int m),some (.int far),some (.ref c),some (.ref a),some (.ref CM),some (.ref RT),x6,x7,x8])
  ⟨SR,⟨[],eC3,rfl,rfl,fun i hi=>absurd hi (AaV _)⟩,eR,A0,none,none,none,eA3,(fun z=>by rw [z,nC] at eA;cases eA),(fun z=>by rw [z,nR] at eA2;cases eA2),rfl⟩ (fun i U H' _ h=>SqL.of (h.1 _ _ hc)) ?_ ?_
 ·rintro i U H4 T0 x hx ⟨S4,⟨cs,hC,hcs,hG⟩,hR,a,x6,x7,x8,ha,nac,nar,rfl⟩ nT
  have hi:i < rows.length:=by
   have:=(Zx.mp hx).1;simpa using this
  obtain ⟨z,hzi,rfl⟩:∃ z,rows[i]?=some z/\x=V.str z:=by
   rw [ZM] at hx;cases e:rows[i]? with
   | none=>rw [e] at hx;cases hx
   | some n=>rw [e] at hx;exact ⟨n,rfl,(Z2 hx).symm⟩
  have ez:rows.getD i ⟨#[]⟩=z:=by rw [Zv,hzi];rfl
  refine bI (xs:=[.int i,.str z]) (SqT.of aj) rfl ?_;have hC5:=aX nT hC (o:=.tup [.int i,.str z]);have hR5:=aX nT hR (o:=.tup [.int i,.str z]);have ha5:=aX nT ha (o:=.tup [.int i,.str z]);have S5:=S4.upd nT (o:=.tup [.int i,.str z]);have hG5:=hG.same ((Same.refl H4).upd nT (o:=.tup [.int i,.str z]));generalize upd H4 T0 (.tup [.int i,.str z])=H5 at hC5 hR5 ha5 S5 hG5 ⊢;walk_at "s";rw [show ((m:Int) - 1 - (i:Int))=((gA m (cC rows) i 0:Nat):Int) by rw [jU];omega];refine ⟨z,_,a,_,rfl,ha5,by rw [wL];exact hz z (Z0 hzi),by rw [wL];exact hf,fun t c1 b H6 nb nc1 S6 ht hb hcc=>?_⟩;have eC':yr z=cC rows i:=by unfold cC;rw [ez]
  rw [eC',wL,Ao far (ZC _)] at ht hb;rw [eC',wL,Wt] at hcc;obtain ⟨ws,hc1,hws⟩:=hcc;have nc1C:c1≠CM:=fun z=>by rw [z,hC5] at nc1;cases nc1
  have nc1R:c1≠RT:=fun z=>by rw [z,hR5] at nc1;cases nc1
  have hG6:=(hG5.same S6).push ⟨nc1C,nc1R⟩ hc1 hws;have hC6:=S6 _ _ hC5;have hR6:=S6 _ _ hR5;have nbC:b≠CM:=fun z=>by rw [z,hC5] at nb;cases nb
  have nbR:b≠RT:=fun z=>by rw [z,hR5] at nb;cases nb
  have tC:t≠CM:=fun z=>by rw [z,hC6] at ht;cases ht
  have tR:t≠RT:=fun z=>by rw [z,hR6] at ht;cases ht
  walk_at "s";apply ⟨.inl ⟨rfl,_,SqL.of hC6⟩,?_⟩;refine cB hC6 (by omega) ?_;have S7:=over (o:=.lst (cs ++ [.ref c1])) (S5.trans S6) nCH;have hC7:=aj (H:=H6) (a:=CM) (o:=.lst (cs ++ [.ref c1]));have hR7:upd H6 CM (.lst (cs ++ [.ref c1])) RT=_:=(aC nCR.symm).trans hR6;have ht7:upd H6 CM (.lst (cs ++ [.ref c1])) t=_:=(aC tC).trans ht;have hb7:upd H6 CM (.lst (cs ++ [.ref c1])) b=_:=(aC nbC).trans hb;have hG7:=hG6.upd hC6 (o:=.lst (cs ++ [.ref c1])) fun c hc=>hc.1
  generalize upd H6 CM (.lst (cs ++ [.ref c1]))=H7 at S7 hC7 hR7 ht7 hb7 hG7 ⊢;clear ht hb;walk_at "s";apply ⟨.inl ⟨rfl,_,SqL.of hR7⟩,?_⟩;refine cB hR7 (by rw [ZJ,Rq];omega) ?_;refine ⟨over S7 nRH,⟨cs ++ [.ref c1],(aC nCR).trans hC7,by simp [hcs],hG7.upd hR7 fun c hc=>hc.2⟩,?_,b,some (.int i),some (.str z),some (.ref t),(aC nbR).trans hb7,nbC,nbR,rfl⟩;rw [aj];have e:Ji m (cC rows) far (i+1)=Ji m (cC rows) far i ++ [((gA m (cC rows) i far:Nat):Int)]:=by unfold Ji;rw [AaD,ZR];rfl
  rw [e,ZR];rfl
 ·rintro U H4 ⟨S4,⟨cs,hC,hcs,hG⟩,hR,a,x6,x7,x8,ha,nac,nar,rfl⟩
  rw [ZJ,hr'] at hR ha hG;walk_at "s";apply ⟨m,far,cC rows,a,RT,rfl,hm,hf,ha,hR,fun e R H5 ne S5 hE hR5=>?_⟩;apply jA rfl fun t nt=>?_
  exact q t CM e R _ (S4.free ne) ((S4.trans S5).upd nt) aj hE (aX nt hR5) ⟨cs,aX nt (S5 _ _ hC),(hG.same (S5.upd nt)).imp (fun _ _ z=>z) (fun _ _ _ z=>z) fun _ _=>trivial⟩
def Fl (c:Nat) (top:Str) (ab:List Int) (left:Int):Nat->Int
 | 0=>left
 | j+1=>if (decide (c=top.cps.getD j 0) || decide (ab.getD j 0 < Fl c top ab left j))=true then ab.getD j 0 else Fl c top ab left j
def yK (c:Nat) (top:Str) (ab:List Int) (left:Int) (j:Nat):Bool:=decide (c=top.cps.getD j 0) || decide (ab.getD j 0 < Fl c top ab left j)
def Y0 (b:Bool):Str:=if b=true then Str.ofString "o" else Str.ofString "x"
def zu (c:Nat) (top:Str) (ab:List Int) (left:Int) (j:Nat):List Str:=(List.range j).map fun k=>Y0 (yK c top ab left k)
theorem NQ {c:Nat} {top:Str} {ab:List Int} {left:Int} {j:Nat}:∀ y∈zu c top ab left j,y.length=1:=fun y hy=>by
 obtain ⟨k,_,rfl⟩:=Aam.mp hy;unfold Y0
 split <;> trivial
def Rr:Sp:=fun vs H Q _=>∃ (c:Nat) (top:Str) (left:Int) (a:Addr) (ab:List Int),vs=[.str ⟨#[c]⟩,.str top,.int left,.ref a]/\H a=some (.lst (ab.map V.int))/\top.cps.size=ab.length/\ab.length<=48/\
 ∀ H',Same H H'->Q (.str (Txt.join (Str.ofString "") (zu c top ab left ab.length))) H'
theorem gb:aD ["sign","top","left","above","signs","column","other"] ["sign","top","left","above"] (az lX):=⟨rfl,rfl,rfl,by trivial,rfl,by trivial,by trivial⟩
theorem mq (T:Txt K mg):Has P w K mg base 1 "signs_of_row" ["sign","top","left","above"] Rr:=by
 walk_at "@fY 4 T.d_signs_of_row gb";obtain ⟨c,top,left,a,ab,rfl,ha,hz,hl,q⟩:=h;walk_at "=gb;!'#4^S!Jm{T.b_enumerate}8YG3#5^R3#6^%~3Pbu~M:9cs(B-.!6O+$~({T.c_TOUCH}%'#2^B-.%6O+$~({T.c_CROSS}%)~O$+";have hs:20000<=sizeLine:=by decide
 refine jA rfl fun S0 nS=>?_
 have e0:=aj (H:=H) (a:=S0) (o:=.lst []);have Sm:=(Same.refl H).upd nS (o:=.lst []);generalize upd H S0 (.lst [])=H1 at e0 Sm ⊢;walk_at "s";refine .inl ⟨top,rfl,?_⟩
 refine Lq (fun j U H'=>Same H H'/\H' S0=some (.lst ((zu c top ab left j).map V.str))/\∃ x5 x6,U=[some (.str ⟨#[c]⟩),some (.str top),some (.int (Fl c top ab left j)),some (.ref a),some (.ref S0),x5,x6])
  ⟨Sm,e0,none,none,rfl⟩ ?_ ?_
 ·rintro j U H2 T0 hj ⟨S2,hS,x5,x6,rfl⟩ nT
  have hj':j < ab.length:=by rw [← hz];exact hj
  refine bI (xs:=[.int j,.str ⟨#[top.cps.getD j 0]⟩]) (SqT.of aj) rfl ?_;have hS3:=aX nT hS (o:=.tup (pO top j));have S3:=S2.upd nT (o:=.tup (pO top j));generalize upd H2 T0 (.tup (pO top j))=H3 at hS3 S3 ⊢;have ha3:=S3 _ _ ha
  have hix:Dy (ab.map V.int) (j:Int)=some (.int (ab.getD j 0)):=by
   refine cz ?_;rw [ZM,Zv,Zw hj'];rfl
  walk_at "s";have hlS:((zu c top ab left j).map V.str).length < sizeLine:=by unfold zu;simp;omega
  have step:(zu c top ab left (j+1)).map V.str=(zu c top ab left j).map V.str ++ [.str (Y0 (yK c top ab left j))]:=by unfold zu;rw [AaD,ZR,ZR];rfl
  have stepT:yK c top ab left j=true->Fl c top ab left (j+1)=ab.getD j 0:=fun h=>by rw [Fl];exact if_pos h
  have stepF:yK c top ab left j=false->Fl c top ab left (j+1)=Fl c top ab left j:=fun h=>by rw [Fl];exact if_neg (fun z=>by unfold yK at h;rw [h] at z;cases z)
  refine ut (fun hk=>?_) (fun hk=>?_)
  ·have ec:c=top.cps.getD j 0:=by
    have:=Str.mk.inj (V.str.inj hk);simpa using this
   have hB:yK c top ab left j=true:=by unfold yK;rw [ZK ec];rfl
   walk_at "s";apply ⟨.inl ⟨rfl,_,SqL.of hS3⟩,?_⟩;refine cB hS3 hlS ?_;have S4:=over (o:=.lst ((zu c top ab left j).map V.str ++ [.str (Str.ofString "o")])) S3 nS;have hS4:=aj (H:=H3) (a:=S0) (o:=.lst ((zu c top ab left j).map V.str ++ [.str (Str.ofString "o")]));generalize upd H3 S0 (.lst ((zu c top ab left j).map V.str ++ [.str (Str.ofString "o")]))=H4 at S4 hS4 ⊢;have ha4:=S4 _ _ ha;walk_at "s";apply bf (SqL.of ha4) hix ?_;exact ⟨S4,by rw [hS4,step,hB];rfl,some (.int j),some (.str ⟨#[top.cps.getD j 0]⟩),by rw [stepT hB];rfl⟩
  ·have ec:¬ c=top.cps.getD j 0:=fun z=>hk (by rw [z])
   walk_at "s";apply bf (SqL.of ha3) hix ?_;refine ut (fun hg=>?_) (fun hg=>?_)
   ·have hB:yK c top ab left j=true:=by unfold yK;rw [ZD ec,Bool.false_or];exact ZK (by omega)
    walk_at "s";apply ⟨.inl ⟨rfl,_,SqL.of hS3⟩,?_⟩;refine cB hS3 hlS ?_;have S4:=over (o:=.lst ((zu c top ab left j).map V.str ++ [.str (Str.ofString "o")])) S3 nS;have hS4:=aj (H:=H3) (a:=S0) (o:=.lst ((zu c top ab left j).map V.str ++ [.str (Str.ofString "o")]));generalize upd H3 S0 (.lst ((zu c top ab left j).map V.str ++ [.str (Str.ofString "o")]))=H4 at S4 hS4 ⊢;have ha4:=S4 _ _ ha;walk_at "s";apply bf (SqL.of ha4) hix ?_;exact ⟨S4,by rw [hS4,step,hB];rfl,some (.int j),some (.str ⟨#[top.cps.getD j 0]⟩),by rw [stepT hB];rfl⟩
   ·have hB:yK c top ab left j=false:=by unfold yK;rw [ZD ec,Bool.false_or];exact ZD (by omega)
    walk_at "s";apply ⟨.inl ⟨rfl,_,SqL.of hS3⟩,?_⟩;refine cB hS3 hlS ?_;have S4:=over (o:=.lst ((zu c top ab left j).map V.str ++ [.str (Str.ofString "x")])) S3 nS;have hS4:=aj (H:=H3) (a:=S0) (o:=.lst ((zu c top ab left j).map V.str ++ [.str (Str.ofString "x")]));generalize upd H3 S0 (.lst ((zu c top ab left j).map V.str ++ [.str (Str.ofString "x")]))=H4 at S4 hS4 ⊢;exact ⟨S4,by rw [hS4,step,hB];rfl,some (.int j),some (.str ⟨#[top.cps.getD j 0]⟩),by rw [stepF hB];rfl⟩
 ·rintro U H2 ⟨S2,hS,x5,x6,rfl⟩
  rw [hz] at hS;walk_at "s";apply ⟨rfl,?_⟩;have hs1:=xH (NQ (c:=c) (top:=top) (ab:=ab) (left:=left) (j:=ab.length));have e0:(Str.ofString "").length=0:=by trivial
  refine Eb hS (by rw [hs1,e0];unfold zu;simp;omega) ?_;exact q _ S2
end
section
variable {P:Program} {w:World} {K:W.Frag} {mg:Str->Option Value} {base:Heap}
def NT (c:Nat) (top:Str) (ab:List Int) (left:Int) (j:Nat):Int:=if yK c top ab left j=true then Fl c top ab left j else ab.getD j 0
def Rt (c:Nat) (top:Str) (ab:List Int) (left:Int) (n:Nat):List Int:=(List.range n).map (NT c top ab left)
theorem Ru {c:Nat} {top:Str} {ab:List Int} {left:Int} {n:Nat}:(Rt c top ab left n).length=n:=by simp [Rt]
theorem NZ (c:Nat) (top:Str) (ab:List Int) (left:Int) (j:Nat):Fl c top ab left (j+1)=if yK c top ab left j=true then ab.getD j 0 else Fl c top ab left j:=rfl
def Y4 (b:Bool):Nat:=if b=true then 111 else 120
theorem Wu (b:Bool):(Y0 b).cps.toList=[Y4 b]:=by cases b <;> trivial
def CK (c:Nat) (top:Str) (ab:List Int) (left:Int) (n:Nat):Str:=⟨((List.range n).map fun k=>Y4 (yK c top ab left k)).toArray⟩
theorem wM {a b:Str} (h:a.cps.toList=b.cps.toList):a=b:=by
 cases a;cases b;exact congrArg Str.mk (Array.toList_inj.mp h)
theorem zx {α β:Type} (f:α->β):∀ l:List α,(l.map fun k=>[f k]).flatten=l.map f
 | []=>rfl
 | a :: l=>by rw [Aaj,AaQ,zx f l];rfl
theorem Jk {c:Nat} {top:Str} {ab:List Int} {left:Int} {n:Nat}:Txt.join (Str.ofString "") (zu c top ab left n)=CK c top ab left n:=by
 apply wM;rw [xG];unfold zu CK;rw [AbD]
 have:((fun y:Str=>y.cps.toList) ∘ fun k=>Y0 (yK c top ab left k))=fun k=>[Y4 (yK c top ab left k)]:=by
  funext k;exact Wu _
 rw [this,zx]
theorem zy {c:Nat} {top:Str} {ab:List Int} {left:Int} {n:Nat}:(CK c top ab left n).cps.size=n:=by simp [CK]
theorem GJ {c:Nat} {top:Str} {ab:List Int} {left:Int} {n j:Nat} (h:j < n):(CK c top ab left n).cps.getD j 0=Y4 (yK c top ab left j):=by
 unfold CK;simp [Array.getD,h]
theorem N5 {z:Str} {j:Nat} {b:Bool} (h:z.cps.getD j 0=Y4 b):yr z j=b:=by
 unfold yr;rw [h];cases b <;> trivial
theorem Aq {z:Str} {c:Nat} {top:Str} {ab:List Int} {left:Int} {n:Nat} (hz:∀ j,j < n->yr z j=yK c top ab left j):∀ j,j<=n->jH (yr z) ab left j=(Rt c top ab left j,Fl c top ab left j)
 | 0,_=>rfl
 | j+1,h=>by
  have ih:=Aq hz j (by omega);have e:Rt c top ab left (j+1)=Rt c top ab left j ++ [NT c top ab left j]:=by unfold Rt;rw [AaD,ZR];rfl
  rw [jH,ih,hz j (by omega),e,NZ];unfold NT;by_cases hc:yK c top ab left j=true
  ·rw [if_pos hc,if_pos hc,if_pos hc]
  ·rw [if_neg hc,if_neg hc,if_neg hc]
def zA (m:Nat) (side top:Str):Nat->List Int
 | 0=>(List.range top.cps.size).map fun l=>((m+l:Nat):Int)
 | i+1=>Rt (side.cps.getD i 0) top (zA m side top i) ((m:Int) - 1 - i) top.cps.size
theorem qZ {m:Nat} {side top:Str}:∀ i,(zA m side top i).length=top.cps.size
 | 0=>by simp [zA]
 | i+1=>by rw [zA,Ru]
def N6 (m:Nat) (side top:Str) (i:Nat):Str:=CK (side.cps.getD i 0) top (zA m side top i) ((m:Int) - 1 - i) top.cps.size
def Fo (m:Nat) (side top:Str) (n:Nat):List Str:=(List.range n).map (N6 m side top)
def nJ (side top:Str):List Str:=Fo side.cps.size side top side.cps.size
theorem N7 (m:Nat) (side top:Str) (n:Nat):Fo m side top (n+1)=Fo m side top n ++ [N6 m side top n]:=by unfold Fo;rw [AaD,ZR];rfl
theorem GK (m:Nat) (side top:Str) (n:Nat):(Fo m side top n).length=n:=by simp [Fo]
def Rv:Sp:=fun vs H Q _=>∃ (side top:Str),vs=[.str side,.str top]/\side.cps.size<=48/\top.cps.size<=48/\
 ∀ D H',H D=none->Same H H'->H' D=some (.lst ((nJ side top).map V.str))->Q (.ref D) H'
theorem fW:aD ["side","top","above","cells","row","sign","left","signs"] ["side","top"] (az sO):=⟨rfl,rfl,rfl,by trivial,rfl,by trivial,by trivial⟩
theorem tK (T:Txt K mg):Has P w K mg base 2 "cells_of" ["side","top"] Rv:=by
 have gf:=@gf P w K mg base T;have mq:=@mq P w K mg base T;have jJ:=@jJ P w K mg base T;walk_at "@fY 2 T.d_cells_of fW";obtain ⟨side,top,rfl,hs,ht,q⟩:=h;walk_at "=fW;!'#2^,{gf}&0C$08!'#3^S!Jm{T.b_enumerate}CYG3#4^R3#5^!'#6^hl0C+!'#7^,{mq}&.D&9?!6O-$a%'#2^/,{jJ}&a&9?%)-";have hz:1000<=sizeLine:=by decide
 have lz:side.length<=sizeLine:=ZG hs (by decide);have ly:top.length<=sizeLine:=ZG ht (by decide);apply bL lz ?_;apply bL ly ?_;refine ⟨side.cps.size,top.cps.size,rfl,hs,ht,fun A0 nA=>?_⟩;have e0:((List.range top.cps.size).map fun l=>((side.cps.size+l:Nat):Int))=zA side.cps.size side top 0:=rfl;rw [e0];have SA:=(Same.refl H).upd nA (o:=.lst ((zA side.cps.size side top 0).map V.int));have eA:=aj (H:=H) (a:=A0) (o:=.lst ((zA side.cps.size side top 0).map V.int));generalize upd H A0 (.lst ((zA side.cps.size side top 0).map V.int))=H1 at SA eA ⊢;walk_at "s";refine jA rfl fun D nD=>?_
 have SD:=SA.upd nD (o:=.lst []);have eD:=aj (H:=H1) (a:=D) (o:=.lst []);have eA2:=aX nD eA (o:=.lst []);have nDH:=SA.free nD;have nAD:A0≠D:=fun z=>by rw [z,nD] at eA;cases eA
 generalize upd H1 D (.lst [])=H2 at SD eD eA2 ⊢;walk_at "s";refine .inl ⟨side,rfl,?_⟩
 refine Lq (fun i U H'=>Same H H'/\H' D=some (.lst ((Fo side.cps.size side top i).map V.str))/\∃ a x4 x5 x6 x7,H' a=some (.lst ((zA side.cps.size side top i).map V.int))/\a≠D/\U=[some (.str side),some (.str top),some (.ref a),some (.ref D),x4,x5,x6,x7])
  ⟨SD,eD,A0,none,none,none,none,eA2,nAD,rfl⟩ ?_ ?_
 ·rintro i U H3 T0 hi ⟨S3,hD,a,x4,x5,x6,x7,ha,nad,rfl⟩ nT
  have hi':i < side.cps.size:=hi;refine bI (xs:=[.int i,.str ⟨#[side.cps.getD i 0]⟩]) (SqT.of aj) rfl ?_;have hD4:=aX nT hD (o:=.tup (pO side i));have ha4:=aX nT ha (o:=.tup (pO side i));have S4:=S3.upd nT (o:=.tup (pO side i));generalize upd H3 T0 (.tup (pO side i))=H4 at hD4 ha4 S4 ⊢;walk_at "s";apply bL lz ?_;refine ⟨_,top,_,a,_,rfl,ha4,(qZ i).symm,by rw [qZ];exact ht,fun H5 S5=>?_⟩;rw [Jk,qZ];have hD5:=S5 _ _ hD4;have ha5:=S5 _ _ ha4;walk_at "s";apply ⟨.inl ⟨rfl,_,SqL.of hD5⟩,?_⟩;refine cB hD5 (by rw [ZJ,GK];omega) ?_;have e1:(Fo side.cps.size side top i).map V.str ++ [.str (CK (side.cps.getD i 0) top (zA side.cps.size side top i) ((side.length:Int) - 1 - i) top.cps.size)]=(Fo side.cps.size side top (i+1)).map V.str:=by rw [N7,ZR];rfl
  rw [e1];have S6:=over (o:=.lst ((Fo side.cps.size side top (i+1)).map V.str)) (S4.trans S5) nDH;have hD6:=aj (H:=H5) (a:=D) (o:=.lst ((Fo side.cps.size side top (i+1)).map V.str));have ha6:upd H5 D (.lst ((Fo side.cps.size side top (i+1)).map V.str)) a=_:=(aC nad).trans ha5;generalize upd H5 D (.lst ((Fo side.cps.size side top (i+1)).map V.str))=H6 at S6 hD6 ha6 ⊢;walk_at "s";refine ⟨_,_,a,_,rfl,ha6,by rw [zy,qZ],by rw [qZ];exact ht,fun t c1 b H7 nb _ S7 ht' hb _=>?_⟩;rw [qZ,Aq (n:=top.cps.size) (fun j hj=>N5 (GJ hj)) _ (ZC _)] at ht' hb;have hD7:=S7 _ _ hD6;have nbD:b≠D:=fun z=>by rw [z,hD6] at nb;cases nb
  walk_at "s";exact ⟨S6.trans S7,hD7,b,_,_,_,_,hb,nbD,rfl⟩
 ·rintro U H3 ⟨S3,hD,a,x4,x5,x6,x7,ha,nad,rfl⟩
  walk_at "s";exact q D H3 nDH S3 hD
def CB (side top:Str):Nat->Nat->Bool:=cC (nJ side top)
theorem Jl {side top:Str} {i:Nat} (h:i < side.cps.size):(nJ side top).getD i ⟨#[]⟩=N6 side.cps.size side top i:=by
 unfold nJ Fo;rw [Zv,ZM,Z3 h];rfl
theorem Fp {side top:Str} {i:Nat} (h:i < side.cps.size):CB side top i=yr (N6 side.cps.size side top i):=by unfold CB cC;rw [Jl h]
theorem Tu {side top:Str} {i j:Nat} (h:i < side.cps.size) (hj:j < top.cps.size):CB side top i j=yK (side.cps.getD i 0) top (zA side.cps.size side top i) ((side.cps.size:Int) - 1 - i) j:=by
 rw [Fp h];exact N5 (GJ hj)
theorem ag {side top:Str}:∀ i,i<=side.cps.size->zA side.cps.size side top i=vB side.cps.size (CB side top) top.cps.size i/\
  (i < side.cps.size->∀ j,j<=top.cps.size->Fl (side.cps.getD i 0) top (zA side.cps.size side top i) ((side.cps.size:Int) - 1 - i) j=((gA side.cps.size (CB side top) i j:Nat):Int)/\Rt (side.cps.getD i 0) top (zA side.cps.size side top i) ((side.cps.size:Int) - 1 - i) j=vB side.cps.size (CB side top) j (i+1))
 | 0,h=>⟨by rw [NP];rfl,fun hi j hj=>ag_step (by rw [NP];rfl) hi hj⟩
 | i+1,h=>by
  have ih:=(ag (side:=side) (top:=top) i (by omega)).2 (by omega) top.cps.size (ZC _);have e:zA side.cps.size side top (i+1)=vB side.cps.size (CB side top) top.cps.size (i+1):=ih.2;exact ⟨e,fun hi j hj=>ag_step e hi hj⟩
where
 ag_step {side top:Str} {i j:Nat} (e:zA side.cps.size side top i=vB side.cps.size (CB side top) top.cps.size i) (hi:i < side.cps.size) (hj:j<=top.cps.size):
   Fl (side.cps.getD i 0) top (zA side.cps.size side top i) ((side.cps.size:Int) - 1 - i) j=((gA side.cps.size (CB side top) i j:Nat):Int)/\Rt (side.cps.getD i 0) top (zA side.cps.size side top i) ((side.cps.size:Int) - 1 - i) j=vB side.cps.size (CB side top) j (i+1):=by
  have h1:=Aq (z:=N6 side.cps.size side top i) (c:=side.cps.getD i 0) (top:=top) (ab:=zA side.cps.size side top i) (left:=(side.cps.size:Int) - 1 - i) (n:=top.cps.size) (fun l hl=>by rw [← Fp hi];exact Tu hi hl) j hj;have h2:=Ao (m:=side.cps.size) (C:=CB side top) (far:=top.cps.size) (i:=i) j hj;rw [← Fp hi] at h1;rw [← e,show ((gA side.cps.size (CB side top) i 0:Nat):Int)=(side.cps.size:Int) - 1 - i by rw [jU];omega,h1] at h2;exact ⟨congrArg Prod.snd h2,congrArg Prod.fst h2⟩
theorem Rw {side top:Str} {i j:Nat} (hi:i < side.cps.size) (hj:j < top.cps.size):CB side top i j=(decide (side.cps.getD i 0=top.cps.getD j 0) || decide (gD side.cps.size (CB side top) j i < gA side.cps.size (CB side top) i j)):=by
 rw [Tu hi hj];unfold yK;rw [((ag i (by omega)).2 hi j (by omega)).1,(ag i (by omega)).1,Fj hj]
 congr 1
 exact AbT.mpr (by omega)
end
section
variable {P:Program} {w:World} {K:W.Frag} {mg:Str->Option Value} {base:Heap}
theorem Ar:(["line"]:List Str).Nodup:=by trivial
theorem Y5 {m:Nat} {C:Nat->Nat->Bool} {far:Nat}:∀ n i j,i+j<=n->i < m->j < far->gA m C i j < m+far/\gD m C j i < m+far
 | n,0,0,_,hi,hj=>by rw [jU,ju];omega
 | 0,0,j+1,h,_,_=>absurd h (by omega)
 | 0,i+1,j,h,_,_=>absurd h (by omega)
 | n+1,0,j+1,h,hi,hj=>by
  have ih:=Y5 (m:=m) (C:=C) (far:=far) n 0 j (by omega) hi (by omega);refine ⟨?_,by rw [ju];omega⟩;rw [mV];split
  ·exact ih.2
  ·exact ih.1
 | n+1,i+1,0,h,hi,hj=>by
  have ih:=Y5 (m:=m) (C:=C) (far:=far) n i 0 (by omega) (by omega) hj;refine ⟨by rw [jU];omega,?_⟩;rw [mW];split
  ·exact ih.1
  ·exact ih.2
 | n+1,i+1,j+1,h,hi,hj=>by
  have h1:=Y5 (m:=m) (C:=C) (far:=far) n (i+1) j (by omega) hi (by omega);have h2:=Y5 (m:=m) (C:=C) (far:=far) n i (j+1) (by omega) (by omega) hj;refine ⟨?_,?_⟩
  ·rw [mV];split
   ·exact h1.2
   ·exact h1.1
  ·rw [mW];split
   ·exact h2.1
   ·exact h2.2
def stp (w:Nat->List (Int×Int)) (l:Nat) (q:Int×Int):Nat->List (Int×Int):=fun k=>if k=l then w k ++ [q] else w k
def Rx (m:Nat) (C:Nat->Nat->Bool) (i:Nat) (w0:Nat->List (Int×Int)):Nat->Nat->List (Int×Int)
 | 0=>w0
 | j+1=>stp (stp (Rx m C i w0 j) (gA m C i j) ((i:Int),(j:Int))) (gD m C j i) ((i:Int),(j:Int))
def Jx (m:Nat) (C:Nat->Nat->Bool) (far:Nat):Nat->Nat->List (Int×Int)
 | 0=>fun _=>[]
 | i+1=>Rx m C i (Jx m C far i) far
theorem Av (w:Nat->List (Int×Int)) (l:Nat) (q:Int×Int) (k:Nat):(stp w l q k).length<=(w k).length+1:=by
 unfold stp;split <;> simp
theorem Aw {m:Nat} {C:Nat->Nat->Bool} {i:Nat} {w0:Nat->List (Int×Int)} (k:Nat):∀ j,(Rx m C i w0 j k).length<=(w0 k).length+2*j
 | 0=>by simp [Rx]
 | j+1=>by
  have ih:=Aw (m:=m) (C:=C) (i:=i) (w0:=w0) k j;have h1:=Av (stp (Rx m C i w0 j) (gA m C i j) ((i:Int),(j:Int))) (gD m C j i) ((i:Int),(j:Int)) k;have h2:=Av (Rx m C i w0 j) (gA m C i j) ((i:Int),(j:Int)) k;show (stp _ _ _ k).length<=_;omega
theorem GP {m:Nat} {C:Nat->Nat->Bool} {far:Nat} (k:Nat):∀ i,(Jx m C far i k).length<=2*(i*far)
 | 0=>by simp [Jx]
 | i+1=>by
  have ih:=GP (m:=m) (C:=C) (far:=far) k i;have h1:=Aw (m:=m) (C:=C) (i:=i) (w0:=Jx m C far i) k far;show (Rx m C i (Jx m C far i) far k).length<=_;have e:(i+1)*far=i*far+far:=Nat.succ_mul i far;omega
def Wys (H:Hp) (Pd:Addr->Prop) (refs:List V) (n:Nat) (w:Nat->List (Int×Int)):Prop:=refs.length=n/\(∀ l,l < n->∃ p ws,refs[l]?=some (.ref p)/\Pd p/\H p=some (.lst ws)/\PrI H ws (w l))/\
 ∀ (l k:Nat) (p:Addr),l≠k->refs[l]?=some (.ref p)->refs[k]?≠some (.ref p)
theorem Wys.imp {H H':Hp} {Pd Pd':Addr->Prop} {refs:List V} {n:Nat} {w:Nat->List (Int×Int)} (h:Wys H Pd refs n w) (ht:∀ p us,H p=some (.tup us)->H' p=some (.tup us)) (hl:∀ c ws,Pd c->H c=some (.lst ws)->H' c=some (.lst ws)) (hp:∀ c,Pd c->Pd' c):Wys H' Pd' refs n w:=
 ⟨h.1,fun l hl'=>by
  obtain ⟨p,ws,e1,e2,e3,e4⟩:=h.2.1 l hl';exact ⟨p,ws,e1,hp p e2,hl p ws e2 e3,e4.imp ht⟩,h.2.2⟩
theorem Wys.same {H H':Hp} {Pd:Addr->Prop} {refs:List V} {n:Nat} {w:Nat->List (Int×Int)} (h:Wys H Pd refs n w) (s:Same H H'):Wys H' Pd refs n w:=h.imp (fun p us e=>s _ _ e) (fun c ws _ e=>s _ _ e) fun _ z=>z
theorem Wys.new {H:Hp} {Pd:Addr->Prop} {refs:List V} {n:Nat} {w:Nat->List (Int×Int)} {p:Addr} (h:Wys H Pd refs n w) (hn:H p=none) (hP:Pd p) (hw:w n=[]):Wys (upd H p (.lst [])) Pd (refs ++ [.ref p]) (n+1) w:=by
 have s:Same H (upd H p (.lst [])):=(Same.refl H).upd hn;obtain ⟨h1,h2,h3⟩:=h
 have ne:∀ l:Nat,refs[l]?≠some (V.ref p):=fun l e=>by
  have hl:l < n:=by rw [← h1];exact (Zx.mp e).1
  obtain ⟨p',ws,e1,_,e3,_⟩:=h2 l hl;rw [e] at e1;cases e1;rw [hn] at e3;cases e3
 refine ⟨by rw [Z8,h1];rfl,fun l hl=>?_,fun l k q hlk e1 e2=>?_⟩
 ·by_cases e:l=n
  ·subst e
   exact ⟨p,[],by rw [gV (by omega),h1,AbS];rfl,hP,aj,by rw [hw];trivial⟩
  ·obtain ⟨p',ws,e1,e2,e3,e4⟩:=h2 l (by omega)
   exact ⟨p',ws,by rw [Aab (by omega)];exact e1,e2,s _ _ e3,e4.same s⟩
 ·by_cases hl:l < refs.length
  ·rw [Aab hl] at e1
   by_cases hk:k < refs.length
   ·rw [Aab hk] at e2
    exact h3 l k q hlk e1 e2
   ·rw [gV (by omega)] at e2
    have:k - refs.length=0:=by
     have:=(Zx.mp e2).1;simp at this;omega
    rw [this] at e2;cases e2;exact ne l e1
  ·rw [gV (by omega)] at e1
   have:l - refs.length=0:=by
    have:=(Zx.mp e1).1;simp at this;omega
   rw [this] at e1;cases e1;by_cases hk:k < refs.length
   ·rw [Aab hk] at e2
    exact ne k e2
   ·have:=(Zx.mp e2).1
    simp at this;omega
theorem Wys.app {H:Hp} {Pd:Addr->Prop} {refs ws:List V} {n l:Nat} {w:Nat->List (Int×Int)} {p q:Addr} {x y:Int} (h:Wys H Pd refs n w) (hl:l < n) (hp:refs[l]?=some (.ref p)) (hw:H p=some (.lst ws)) (hq:H q=some (.tup [.int x,.int y])):
  Wys (upd H p (.lst (ws ++ [.ref q]))) Pd refs n (stp w l (x,y)):=by
 obtain ⟨h1,h2,h3⟩:=h;have ht:∀ r us,H r=some (.tup us)->upd H p (.lst (ws ++ [.ref q])) r=some (.tup us):=fun r us e=>by rw [aC (fun z=>by rw [z,hw] at e;cases e)];exact e
 refine ⟨h1,fun k hk=>?_,h3⟩;obtain ⟨p',us,e1,e2,e3,e4⟩:=h2 k hk;by_cases e:k=l
 ·subst e
  rw [hp] at e1;cases e1;rw [hw] at e3;cases e3;refine ⟨p,_,hp,e2,aj,?_⟩;unfold stp;rw [if_pos rfl];exact PrI.push (ht _ _ hq) (e4.imp ht)
 ·have ne:p'≠p:=fun z=>by subst z;exact h3 k l p' e e1 hp
  refine ⟨p',us,e1,e2,by rw [aC ne];exact e3,?_⟩;unfold stp;rw [if_neg e];exact e4.imp ht
theorem Ry {m:Nat} {C:Nat->Nat->Bool} {far i j:Nat} (h:j < far):(CJ m C far i)[j]?=some (((gA m C i j:Nat):Int),((gD m C j i:Nat):Int)):=by
 unfold CJ;rw [ZM,Z3 h];rfl
theorem N8 {m:Nat} {C:Nat->Nat->Bool} {far i:Nat}:(CJ m C far i).length=far:=by simp [CJ]
def Wv:Sp:=fun vs H Q _=>∃ (m far:Nat) (C:Nat->Nat->Bool) (cm:Addr) (cs:List V),vs=[.int ((m:Int)+(far:Int)),.ref cm]/\m<=48/\far<=48/\H cm=some (.lst cs)/\Cmg H (fun _=>True) m C far cs m/\
 ∀ aw refs H',H aw=none->Same H H'->H' aw=some (.lst refs)->Wys H' (fun p=>H p=none) refs (m+far) (Jx m C far m)->Q (.ref aw) H'
theorem jL:aD ["many","coming","ways","row","pairs","column","pair"] ["many","coming"] (az qX):=⟨rfl,rfl,rfl,by trivial,rfl,by trivial,by trivial⟩
theorem vG (T:Txt K mg):Has P w K mg base 1 "ways_of" ["many","coming"] Wv:=by
 walk_at "@fY 2 T.d_ways_of jL";obtain ⟨m,far,C,cm,cs,rfl,hm,hf,hcm,hG,q⟩:=h;walk_at "=jL;!~P#2^<.>Z[many coming ways row pairs column pair]}![line]pC_#0{Ar}S!Jm{T.b_enumerate}8YG3#3^R3#4^%Jm{T.b_enumerate}$+YG3#5^R3#6^!6OB(/9$Q&-$.%6OB(/9$Q&-$.%)(";have hs:20000<=sizeLine:=by decide
 refine ⟨_,rfl,by omega,by omega,?_⟩;rw [show ((m:Int)+(far:Int)).toNat=m+far by omega];refine xJ (n:=m+far) (fun i ys H'=>Same H H'/\Wys H' (fun p=>H p=none) ys i (fun _=>[])) (by omega) ⟨Same.refl H,rfl,(fun l hl=>absurd hl (AaV _)),fun l k p _ e=>by simp at e⟩ ?_ ?_ ?_
 ·rintro i ys H' ⟨_,h⟩
  exact AaP h.1
 ·rintro i ys H' hi ⟨s,h⟩
  walk_at "s";apply ⟨KeepSt.set rfl,?_⟩;apply jA rfl fun p np=>?_
  exact ⟨s.upd np,h.new np (Same.back s np) rfl⟩
 ·rintro refs H1 ⟨s1,hW⟩ aw naw
  have naw0:=Same.back s1 naw;have s2:=s1.upd naw (o:=.lst refs);have haw:=aj (H:=H1) (a:=aw) (o:=.lst refs)
  have hW2:Wys (upd H1 aw (.lst refs)) (fun p=>H p=none/\p≠aw) refs (m+far) (Jx m C far 0):=by
   obtain ⟨w1,w2,w3⟩:=hW;refine ⟨w1,fun l hl=>?_,w3⟩;obtain ⟨p,ws,e1,e2,e3,e4⟩:=w2 l hl;exact ⟨p,ws,e1,⟨e2,fun z=>by rw [z,naw] at e3;cases e3⟩,aX naw e3,e4.same ((Same.refl H1).upd naw)⟩
  generalize upd H1 aw (.lst refs)=H2 at s2 haw hW2 ⊢;walk_at "s";refine .inr ⟨cm,_,rfl,SqL.of (s2 _ _ hcm),?_⟩
  refine lN (xs:=cs) (fun i U H'=>Same H H'/\H' aw=some (.lst refs)/\Wys H' (fun p=>H p=none/\p≠aw) refs (m+far) (Jx m C far i)/\∃ x3 x4 x5 x6,U=[some (.int ((m:Int)+(far:Int))),some (.ref cm),some (.ref aw),x3,x4,x5,x6])
   ⟨s2,haw,hW2,_,_,_,_,rfl⟩ (fun i U H' _ h=>SqL.of (h.1 _ _ hcm)) ?_ ?_
  ·rintro i U H3 T0 x hx ⟨S3,h3,W3,x3,x4,x5,x6,rfl⟩ nT
   have hi:i < m:=by
    have:=(Zx.mp hx).1;rw [hG.1] at this;exact this
   obtain ⟨c,ws,e1,_,hc,hws⟩:=hG.2 i hi;rw [hx] at e1;cases e1;have wl:=hws.len;rw [N8] at wl;refine bI (xs:=[.int i,.ref c]) (SqT.of aj) rfl ?_;have S4:=S3.upd nT (o:=.tup [.int i,.ref c]);have h4:=aX nT h3 (o:=.tup [.int i,.ref c]);have W4:=W3.same ((Same.refl H3).upd nT (o:=.tup [.int i,.ref c]));generalize upd H3 T0 (.tup [.int i,.ref c])=H4 at S4 h4 W4 ⊢;walk_at "s";refine .inr ⟨c,_,rfl,SqL.of (S4 _ _ hc),?_⟩
   refine lN (xs:=ws) (fun j U H'=>Same H H'/\H' aw=some (.lst refs)/\Wys H' (fun p=>H p=none/\p≠aw) refs (m+far) (Rx m C i (Jx m C far i) j)/\∃ x5 x6,U=[some (.int ((m:Int)+(far:Int))),some (.ref cm),some (.ref aw),some (.int i),some (.ref c),x5,x6])
    ⟨S4,h4,W4,_,_,rfl⟩ (fun i U H' _ h=>SqL.of (h.1 _ _ hc)) ?_ ?_
   ·rintro j U H5 T1 y hy ⟨S5,h5,W5,x5,x6,rfl⟩ nT1
    have hj:j < far:=by
     have:=(Zx.mp hy).1;omega
    obtain ⟨r,e2,hr'⟩:=hws.get (Ry (m:=m) (C:=C) (i:=i) hj);rw [hy] at e2;cases e2;obtain ⟨l1,l2⟩:=Y5 (m:=m) (C:=C) (far:=far) (i+j) i j (ZC _) hi hj;have wA:=GP (m:=m) (C:=C) (far:=far);have wJ:=Aw (m:=m) (C:=C) (i:=i) (w0:=Jx m C far i);have him:i*far<=48*48:=Nat.mul_le_mul (by omega) hf;refine bI (xs:=[.int j,.ref r]) (SqT.of aj) rfl ?_;have S6:=S5.upd nT1 (o:=.tup [.int j,.ref r]);have h6:=aX nT1 h5 (o:=.tup [.int j,.ref r]);have W6:=W5.same ((Same.refl H5).upd nT1 (o:=.tup [.int j,.ref r]));generalize upd H5 T1 (.tup [.int j,.ref r])=H6 at S6 h6 W6 ⊢;obtain ⟨p,us,r1,⟨pn,pa⟩,hp,hpu⟩:=W6.2.1 _ l1;have ul:=hpu.len;have:=wA (gA m C i j) i;have:=wJ (gA m C i j) j;walk_at "s";apply fB (SqT.of (S6 _ _ hr')) rfl ?_;apply bf (SqL.of h6) (cz r1) ?_;apply ⟨.inl ⟨rfl,_,SqL.of hp⟩,?_⟩;apply jA rfl fun q1 nq1=>?_
    have S7:=S6.upd nq1 (o:=.tup [.int i,.int j]);have h7:=aX nq1 h6 (o:=.tup [.int i,.int j]);have W7:=W6.same ((Same.refl H6).upd nq1 (o:=.tup [.int i,.int j]));have hp7:=aX nq1 hp (o:=.tup [.int i,.int j]);have hq7:=aj (H:=H6) (a:=q1) (o:=.tup [.int i,.int j]);generalize upd H6 q1 (.tup [.int i,.int j])=H7 at S7 h7 W7 hp7 hq7 ⊢;apply cB hp7 (by omega) ?_;have S8:=Same.put (o:=.lst (us ++ [.ref q1])) S7 pn;have h8:upd H7 p (.lst (us ++ [.ref q1])) aw=_:=(aC (Ne.symm pa)).trans h7;have W8:=W7.app l1 r1 hp7 hq7;generalize upd H7 p (.lst (us ++ [.ref q1]))=H8 at S8 h8 W8 ⊢;obtain ⟨p',us',r2,⟨pn',pa'⟩,hp',hpu'⟩:=W8.2.1 _ l2;have ul':=hpu'.len;have:=Av (Rx m C i (Jx m C far i) j) (gA m C i j) ((i:Int),(j:Int)) (gD m C j i);have:=wA (gD m C j i) i;have:=wJ (gD m C j i) j;walk_at "s";apply fB (SqT.of (S8 _ _ hr')) rfl ?_;apply bf (SqL.of h8) (cz r2) ?_;apply ⟨.inl ⟨rfl,_,SqL.of hp'⟩,?_⟩;apply jA rfl fun q2 nq2=>?_
    have S9:=S8.upd nq2 (o:=.tup [.int i,.int j]);have h9:=aX nq2 h8 (o:=.tup [.int i,.int j]);have W9:=W8.same ((Same.refl H8).upd nq2 (o:=.tup [.int i,.int j]));have hp9:=aX nq2 hp' (o:=.tup [.int i,.int j]);have hq9:=aj (H:=H8) (a:=q2) (o:=.tup [.int i,.int j]);generalize upd H8 q2 (.tup [.int i,.int j])=H9 at S9 h9 W9 hp9 hq9 ⊢;apply cB hp9 (by omega) ?_;exact ⟨Same.put S9 pn',(aC (Ne.symm pa')).trans h9,W9.app l2 r2 hp9 hq9,_,_,rfl⟩
   ·rintro U H5 ⟨S5,h5,W5,x5,x6,rfl⟩
    rw [wl] at W5;exact ⟨S5,h5,W5,_,_,_,_,rfl⟩
  ·rintro U H3 ⟨S3,h3,W3,x3,x4,x5,x6,rfl⟩
   rw [hG.1] at W3;walk_at "s";exact q aw refs H3 naw0 S3 h3 (W3.imp (fun _ _ z=>z) (fun _ _ _ z=>z) fun c z=>z.1)
abbrev mS (z:Str):Nat:=z.cps.size
structure BdO (H:Hp) (side top:Str) (ac am al aw:Addr):Prop where
 cells:H ac=some (.lst ((nJ side top).map V.str))
 com:∃ cs,H am=some (.lst cs)/\Cmg H (fun _=>True) (mS side) (CB side top) (mS top) cs (mS side)
 lines:∃ R,H al=some (.lst (R.map V.int))/\IsEnds (mS side) (CB side top) (mS top) R
 ways:∃ refs,H aw=some (.lst refs)/\Wys H (fun _=>True) refs (mS side+mS top) (Jx (mS side) (CB side top) (mS top) (mS side))
def bdF (side top:Str) (ac am al aw:Addr):List (Str×V):=[("held_side",.str side),("held_top",.str top),("held_cells",.ref ac),("held_coming",.ref am),("held_lines",.ref al),("held_ways",.ref aw)]
def Bd (mg:Str->Option Value) (H:Hp) (b:Addr) (side top:Str):Prop:=Row side/\Row top/\∃ dx ac am al aw,H b=some (.ins (aO mg "Board") dx (bdF side top ac am al aw))/\BdO H side top ac am al aw
theorem Fq (side top:Str):(nJ side top).length=side.cps.size:=GK _ _ _ _
theorem CN {side top:Str}:∀ z∈nJ side top,z.cps.size=top.cps.size:=fun z hz=>by
 unfold nJ Fo at hz;obtain ⟨i,_,rfl⟩:=Aam.mp hz;exact zy
def Rz (mg:Str->Option Value):Sp:=fun vs H Q _=>∃ (x dx:Addr) (side top:Str),vs=[.ref x,.str side,.str top]/\H x=some (.ins (aO mg "Board") dx [])/\Row side/\Row top/\∀ H',Chg x H H'->Bd mg H' x side top->Q .non H'
theorem Chg.same {x:Addr} {H H1 H2:Hp} (c:Chg x H H1) (s:Same H1 H2):Chg x H H2:=fun b o n e=>s _ _ (c b o n e)
theorem Chg.put {x:Addr} {H H1:Hp} {o:HO} (c:Chg x H H1):Chg x H (upd H1 x o):=fun b u n e=>by rw [aC n];exact c b u n e
theorem jZ {f:Str} {y:V}:∀ {fs:List (Str×V)},(fs.map (·.1)).contains f=false->cP f y fs=fs ++ [(f,y)]
 | [],_=>rfl
 | (g,z) :: fs,h=>by
  simp only [Aaj,Abf,AbO] at h;have hne:¬ g=f:=fun e=>by rw [e] at h;simp at h
  have ih:=jZ (y:=y) (fs:=fs) h.2;unfold cP;simp [hne,ih]
theorem mX:aD ["self","side","top","gone"] ["self","side","top"] (az jE):=⟨rfl,rfl,rfl,by trivial,rfl,by trivial,by trivial⟩
theorem jM (T:Txt K mg):HasM P w K mg base 5 "Board" "__init__" ["self","side","top"] (Rz mg):=by
 have jl:=@jl P w K mg base T;have tK:=@tK P w K mg base T;have pB:=@pB P w K mg base T;have vG:=@vG P w K mg base T;walk_at "@jX 3 T.m_Board___init__ mX";obtain ⟨x,dx,side,top,rfl,hx,hs,ht,q'⟩:=h;walk_at "=mX;!6,{jl}D?!E*!E(!E,{tK}D?!'#3^,{pB}&08&0?$5!E/-!E/-%E,{vG}&=080?$/-";refine ⟨side,top,rfl,hs,ht,fun H1 S1=>?_⟩;have cl:=T.o_Board.cl;have na:=T.n_Board;have lz:side.length<=sizeLine:=ZG hs.1 (by decide);have ly:top.length<=sizeLine:=ZG ht.1 (by decide);have hx1:=S1 _ _ hx;have C1:Chg x H H1:=fun b o _ e=>S1 _ _ e
 walk_at "s";apply ⟨x,_,dx,_,rfl,hx1,cl,na _ (by simp),by simp,?_⟩;rw [jZ (by show ([]:List Str).contains "held_side"=false;trivial)];have hx2:=aj (H:=H1) (a:=x) (o:=.ins (aO mg "Board") dx (([]:List (Str×V)) ++ ([("held_side",.str side)]:List (Str×V))));have C2:=Chg.put (o:=.ins (aO mg "Board") dx (([]:List (Str×V)) ++ ([("held_side",.str side)]:List (Str×V)))) C1;generalize hG2:upd H1 x (.ins (aO mg "Board") dx (([]:List (Str×V)) ++ ([("held_side",.str side)]:List (Str×V))))=H2 at hx2 C2 ⊢;replace hx2:H2 x=some (.ins (aO mg "Board") dx ([("held_side",.str side)]:List (Str×V))):=hx2;walk_at "s";apply ⟨x,_,dx,_,rfl,hx2,cl,na _ (by simp),by simp,?_⟩;rw [jZ (by show (["held_side"]:List Str).contains "held_top"=false;trivial)];have hx3:=aj (H:=H2) (a:=x) (o:=.ins (aO mg "Board") dx (([("held_side",.str side)]:List (Str×V)) ++ ([("held_top",.str top)]:List (Str×V))));have C3:=Chg.put (o:=.ins (aO mg "Board") dx (([("held_side",.str side)]:List (Str×V)) ++ ([("held_top",.str top)]:List (Str×V)))) C2;generalize hG3:upd H2 x (.ins (aO mg "Board") dx (([("held_side",.str side)]:List (Str×V)) ++ ([("held_top",.str top)]:List (Str×V))))=H3 at hx3 C3 ⊢;replace hx3:H3 x=some (.ins (aO mg "Board") dx ([("held_side",.str side),("held_top",.str top)]:List (Str×V))):=hx3;walk_at "s";apply ⟨side,top,rfl,hs.1,ht.1,fun ac H4 nac S4 hac=>?_⟩;have hx4:=S4 _ _ hx3;have C4:=Chg.same C3 S4;apply ⟨x,_,dx,_,rfl,hx4,cl,na _ (by simp),by simp,?_⟩;rw [jZ (by show (["held_side","held_top"]:List Str).contains "held_cells"=false;trivial)];have hx5:=aj (H:=H4) (a:=x) (o:=.ins (aO mg "Board") dx (([("held_side",.str side),("held_top",.str top)]:List (Str×V)) ++ ([("held_cells",.ref ac)]:List (Str×V))));have C5:=Chg.put (o:=.ins (aO mg "Board") dx (([("held_side",.str side),("held_top",.str top)]:List (Str×V)) ++ ([("held_cells",.ref ac)]:List (Str×V)))) C4;generalize hG5:upd H4 x (.ins (aO mg "Board") dx (([("held_side",.str side),("held_top",.str top)]:List (Str×V)) ++ ([("held_cells",.ref ac)]:List (Str×V))))=H5 at hx5 C5 ⊢;replace hx5:H5 x=some (.ins (aO mg "Board") dx ([("held_side",.str side),("held_top",.str top),("held_cells",.ref ac)]:List (Str×V))):=hx5;have nx4:∀ {a:Addr} {us:List V},H4 a=some (.lst us)->a≠x:=fun {a us} h z=>by rw [z,hx4] at h;cases h
 have hac5:H5 ac=some (.lst ((nJ side top).map V.str)):=by rw [← hG5,aC (nx4 hac)];exact hac
 walk_at "s";apply bL lz ?_;apply bL ly ?_;apply ⟨x,_,dx,_,_,rfl,hx5,cl,na _ (by simp),rfl,?_⟩;apply ⟨mS side,mS top,nJ side top,ac,rfl,hac5,Fq side top,hs.1,ht.1,CN,fun t am al R H6 nal S6 ht6 hE hal hcm=>?_⟩;obtain ⟨cs,hcm,hG⟩:=hcm;have hx6:=S6 _ _ hx5;have C6:=Chg.same C5 S6;apply ⟨x,_,dx,_,rfl,hx6,cl,na _ (by simp),by simp,?_⟩;rw [jZ (by show (["held_side","held_top","held_cells"]:List Str).contains "held_coming"=false;trivial)];have hx7:=aj (H:=H6) (a:=x) (o:=.ins (aO mg "Board") dx (([("held_side",.str side),("held_top",.str top),("held_cells",.ref ac)]:List (Str×V)) ++ ([("held_coming",.ref am)]:List (Str×V))));have C7:=Chg.put (o:=.ins (aO mg "Board") dx (([("held_side",.str side),("held_top",.str top),("held_cells",.ref ac)]:List (Str×V)) ++ ([("held_coming",.ref am)]:List (Str×V)))) C6;generalize hG7:upd H6 x (.ins (aO mg "Board") dx (([("held_side",.str side),("held_top",.str top),("held_cells",.ref ac)]:List (Str×V)) ++ ([("held_coming",.ref am)]:List (Str×V))))=H7 at hx7 C7 ⊢;replace hx7:H7 x=some (.ins (aO mg "Board") dx ([("held_side",.str side),("held_top",.str top),("held_cells",.ref ac),("held_coming",.ref am)]:List (Str×V))):=hx7;have M7:Chg x H6 H7:=by rw [← hG7];exact Chg.put (Chg.refl x H6)
 have nt:t≠x:=fun z=>by rw [z,hx6] at ht6;cases ht6
 have ht7:=M7 t _ nt ht6;walk_at "s";apply ⟨x,_,dx,_,rfl,hx7,cl,na _ (by simp),by simp,?_⟩;rw [jZ (by show (["held_side","held_top","held_cells","held_coming"]:List Str).contains "held_lines"=false;trivial)];have hx8:=aj (H:=H7) (a:=x) (o:=.ins (aO mg "Board") dx (([("held_side",.str side),("held_top",.str top),("held_cells",.ref ac),("held_coming",.ref am)]:List (Str×V)) ++ ([("held_lines",.ref al)]:List (Str×V))));have C8:=Chg.put (o:=.ins (aO mg "Board") dx (([("held_side",.str side),("held_top",.str top),("held_cells",.ref ac),("held_coming",.ref am)]:List (Str×V)) ++ ([("held_lines",.ref al)]:List (Str×V)))) C7;generalize hG8:upd H7 x (.ins (aO mg "Board") dx (([("held_side",.str side),("held_top",.str top),("held_cells",.ref ac),("held_coming",.ref am)]:List (Str×V)) ++ ([("held_lines",.ref al)]:List (Str×V))))=H8 at hx8 C8 ⊢;replace hx8:H8 x=some (.ins (aO mg "Board") dx ([("held_side",.str side),("held_top",.str top),("held_cells",.ref ac),("held_coming",.ref am),("held_lines",.ref al)]:List (Str×V))):=hx8;have M8:Chg x H6 H8:=M7.trans (by rw [← hG8];exact Chg.put (Chg.refl x H7));have nx6:∀ {a:Addr} {us:List V},H6 a=some (.lst us)->a≠x:=fun {a us} h z=>by rw [z,hx6] at h;cases h
 have nxt6:∀ {a:Addr} {us:List V},H6 a=some (.tup us)->a≠x:=fun {a us} h z=>by rw [z,hx6] at h;cases h
 have ht8:=M8 t _ nt ht6;have hcm8:=M8 am _ (nx6 hcm) hcm;have hG8':Cmg H8 (fun _=>True) (mS side) (CB side top) (mS top) cs (mS side):=hG.imp (fun p us e=>M8 p _ (nxt6 e) e) (fun c ws _ e=>M8 c _ (nx6 e) e) fun _ z=>z
 have hal8:=M8 al _ (nx6 hal) hal;have hac8:=M8 ac _ (nx6 (S6 _ _ hac5)) (S6 _ _ hac5);walk_at "s";apply bL lz ?_;apply bL ly ?_;apply ⟨mS side,mS top,CB side top,am,cs,rfl,hs.1,ht.1,hcm8,hG8',fun aw refs H9 naw S9 haw hW=>?_⟩;have hx9:=S9 _ _ hx8;have C9:=Chg.same C8 S9;have nx9:∀ {a:Addr} {us:List V},H9 a=some (.lst us)->a≠x:=fun {a us} h z=>by rw [z,hx9] at h;cases h
 have nxt9:∀ {a:Addr} {us:List V},H9 a=some (.tup us)->a≠x:=fun {a us} h z=>by rw [z,hx9] at h;cases h
 apply ⟨x,_,dx,_,rfl,hx9,cl,na _ (by simp),by simp,?_⟩;rw [jZ (by show (["held_side","held_top","held_cells","held_coming","held_lines"]:List Str).contains "held_ways"=false;trivial)];have hx10:=aj (H:=H9) (a:=x) (o:=.ins (aO mg "Board") dx (([("held_side",.str side),("held_top",.str top),("held_cells",.ref ac),("held_coming",.ref am),("held_lines",.ref al)]:List (Str×V)) ++ ([("held_ways",.ref aw)]:List (Str×V))));have C10:=Chg.put (o:=.ins (aO mg "Board") dx (([("held_side",.str side),("held_top",.str top),("held_cells",.ref ac),("held_coming",.ref am),("held_lines",.ref al)]:List (Str×V)) ++ ([("held_ways",.ref aw)]:List (Str×V)))) C9;generalize hG10:upd H9 x (.ins (aO mg "Board") dx (([("held_side",.str side),("held_top",.str top),("held_cells",.ref ac),("held_coming",.ref am),("held_lines",.ref al)]:List (Str×V)) ++ ([("held_ways",.ref aw)]:List (Str×V))))=H10 at hx10 C10 ⊢;replace hx10:H10 x=some (.ins (aO mg "Board") dx ([("held_side",.str side),("held_top",.str top),("held_cells",.ref ac),("held_coming",.ref am),("held_lines",.ref al),("held_ways",.ref aw)]:List (Str×V))):=hx10;have M10:Chg x H9 H10:=by rw [← hG10];exact Chg.put (Chg.refl x H9)
 refine q' H10 C10 ⟨hs,ht,dx,ac,am,al,aw,hx10,M10 ac _ (nx9 (S9 _ _ hac8)) (S9 _ _ hac8),⟨cs,M10 am _ (nx9 (S9 _ _ hcm8)) (S9 _ _ hcm8),(hG8'.same S9).imp (fun p us e=>M10 p _ (nxt9 e) e) (fun c ws _ e=>M10 c _ (nx9 e) e) fun _ z=>z⟩,⟨R,M10 al _ (nx9 (S9 _ _ hal8)) (S9 _ _ hal8),hE⟩,refs,M10 aw _ (nx9 haw) haw,hW.imp (fun p us e=>M10 p _ (nxt9 e) e) (fun c ws _ e=>M10 c _ (nx9 e) e) fun _ _=>trivial⟩
theorem bdM {side top:Str} {ac am al aw:Addr} {m:Str} (h:(["held_side","held_top","held_cells","held_coming","held_lines","held_ways"]:List Str).contains m=false):(bdF side top ac am al aw).lookup m=none:=by
 unfold bdF;simp only [Abf,AbO] at h;obtain ⟨h1,h2,h3,h4,h5,h6,_⟩:=h;simp only [Aag,h1,h2,h3,h4,h5,h6,List.lookup_nil]
def RB (mg:Str->Option Value):Sp:=fun vs H Q _=>∃ (b:Addr) (side top:Str),vs=[.ref b]/\Bd mg H b side top/\∀ q R H',H q=none->Same H H'->IsEnds (mS side) (CB side top) (mS top) R->H' q=some (.lst (R.map V.int))->Q (.ref q) H'
theorem yt:aD ["self"] ["self"] (az m8):=⟨rfl,rfl,rfl,by trivial,rfl,by trivial,by trivial⟩
theorem nM (T:Txt K mg):HasM P w K mg base 1 "Board" "lines" ["self"] (RB mg):=by
 walk_at "@jX 1 T.m_Board_lines yt";obtain ⟨b,side,top,rfl,⟨hs,ht,dx,ac,am,al,aw,hb,hO⟩,q⟩:=h;walk_at "=_;%)~4$5";obtain ⟨R,hR,hE⟩:=hO.lines;apply ⟨b,_,dx,_,_,rfl,hb,T.o_Board.cl,T.n_Board _ (by simp),rfl,?_⟩;apply wH (SqL.of hR) fun l nl=>?_
 exact q l R _ nl ((Same.refl H).upd nl) hE aj
end
local macro_rules | `(tactic| walk_at "s") => `(tactic| (with_reducible repeat (first | refine mH ?_ | walk_at "4")))
local macro_rules | `(tactic| walk_at "n") => `(tactic| (with_reducible repeat (walk_at "4")))
section
variable {P:Program} {w:World} {K:W.Frag} {mg:Str->Option Value} {base:Heap}
theorem wu:(["end","low"]:List Str).Nodup:=by trivial
theorem Oa (a b:List Nat):(nI a).map V.int ++ (nI b).map V.int=(nI (a ++ b)).map V.int:=by unfold nI;rw [ZR,ZR]
theorem q9 {m far:Nat} {e:Nat->Nat->Bool}:((nI (LN m far e)).map V.int).length=m+far:=by rw [bQ,j6]
theorem RC {k:Nat} {G:List Nat} (hG:Prm G) (hk:k+G.length<=96):Prm (List.range k ++ G.map (k+ ·)):=by
 have hl:(List.range k ++ G.map (k+ ·)).length=k+G.length:=by simp
 refine ⟨by omega,?_⟩;rw [hl,Abg];exact Abi _ (hG.pm.map _)
theorem Ob {r n:Nat} {G:List Nat} (hG:Prm G) (hn:G.length=n) (hk:n+r<=96):Prm (G ++ (List.range r).map (n+ ·)):=by
 subst hn;have hl:(G ++ (List.range r).map (G.length+ ·)).length=G.length+r:=by simp
 refine ⟨by omega,?_⟩;rw [hl,Abg];exact hG.pm.append_right _
theorem Oc (lo:Int) (k n:Nat) (e:lo=(k:Int)):((List.range n).map fun i:Nat=>V.int (lo+(i:Int)*1))=(nI ((List.range n).map (k+ ·))).map V.int:=by
 subst e;unfold nI;rw [AbD,AbD];refine List.map_congr_left fun x _=>?_
 show V.int ((k:Int)+(x:Int)*1)=V.int ((k+x:Nat):Int)
 congr 1;omega
def RD (K:W.Frag):Sp:=fun vs H Q _=>∃ (u l:Addr) (mu ml far:Nat) (e:Nat->Nat->Bool),vs=[.ref u,.ref l,.int far]/\mu+ml+far<=96/\H u=some (.lst ((nI (LN mu far e)).map V.int))/\H l=some (.lst ((nI (LN ml far fun i j=>e (mu+i) j)).map V.int))/\
 ∀ q H',H q=none->Same H H'->H' q=some (.lst ((nI (LN (mu+ml) far e)).map V.int))->Q (.ref q) H'
theorem iV:aD ["upper","lower","far","high","low","one","other"] ["upper","lower","far"] (az lJ):=⟨rfl,rfl,rfl,by trivial,rfl,by trivial,by trivial⟩
theorem iB (T:Txt K mg):Has P w K mg base 8 "lines_over" ["upper","lower","far"] (RD K):=by
 have jG:=@jG P w K mg base T;have Fe:=@Fe P w K mg base T;walk_at "@fY 3 T.d_lines_over iV";obtain ⟨u,l,mu,ml,far,e,rfl,hn,hu1,hl,q⟩:=h;walk_at "=iV;!'#3^h0C(!}$#4^h08(!'#5^=,{jG}$i#4o<.4>Z[upper lower far high low one other]}%[end low]d:_#0{wu}=v#1`!'#6^=*}&{T.b_list}{T.b_range}&=i#4($==i#4(-%),{Fe}&.$9";have hz:20000<=sizeLine:=by decide
 apply iJ (SqL.of hu1) ?_;rw [q9];walk_at "s";apply iJ (SqL.of hl) ?_;rw [q9,show ((mu+far:Nat):Int) - (far:Int)=(mu:Int) by omega,show ((ml+far:Nat):Int) - (far:Int)=(ml:Int) by omega];walk_at "s";apply ⟨ml,rfl,by omega,fun a H1 na S1 ha=>?_⟩;refine .inl ⟨u,rfl,⟨_,SqL.of (S1 _ _ hu1)⟩,?_⟩;refine oU (xs:=(nI (LN mu far e)).map V.int) (fun i zs G=>G=H1/\zs=(nI (((LN mu far e).take i).map (ml+ ·))).map V.int) (by rw [q9];omega) ⟨rfl,rfl⟩ ?_ ?_ ?_ ?_
 ·rintro i zs G ⟨_,rfl⟩
  rw [bQ];simp;omega
 ·rintro i zs G ⟨rfl,_⟩
  exact SqL.of (S1 _ _ hu1)
 ·rintro i zs G v hv ⟨rfl,rfl⟩
  obtain ⟨a',ea,rfl⟩:=Nv hv;walk_at "s";apply ⟨KeepSt.set rfl,?_⟩;refine ⟨rfl,?_⟩;rw [Aa1,ea,ZR,show ((ml:Int)+(a':Int))=((ml+a':Nat):Int) by omega];unfold nI;rw [ZR,ZR];rfl
 rintro zs G D H2 ⟨rfl,rfl⟩ nD S2 hD;rw [q9,← j6 mu far e,AaN] at hD;try walk_at "s"
 apply zU (S2 _ _ ha) hD (by rw [bQ,bQ];simp [j6];omega) fun o1 no1=>?_
 rw [Oa];have S3:=(Same.refl H2).upd no1 (o:=.lst ((nI (List.range ml ++ (LN mu far e).map (ml+ ·))).map V.int));have ho1:=aj (H:=H2) (a:=o1) (o:=.lst ((nI (List.range ml ++ (LN mu far e).map (ml+ ·))).map V.int));generalize upd H2 o1 (.lst ((nI (List.range ml ++ (LN mu far e).map (ml+ ·))).map V.int))=H3 at S3 ho1 ⊢;have U3:=S1.trans (S2.trans S3);walk_at "s";apply QT (n:=mu) (by omega) (by omega) (by omega) (by omega) fun r nr=>?_
 rw [Oc _ (ml+far) mu (by omega)] at ⊢;have S4:=(Same.refl H3).upd nr (o:=.lst ((nI ((List.range mu).map (ml+far+ ·))).map V.int));have hr4:=aj (H:=H3) (a:=r) (o:=.lst ((nI ((List.range mu).map (ml+far+ ·))).map V.int));generalize upd H3 r (.lst ((nI ((List.range mu).map (ml+far+ ·))).map V.int))=H4 at S4 hr4 ⊢;walk_at "s";apply zU (S4 _ _ (U3 _ _ hl)) hr4 (by rw [bQ,bQ];simp [j6];omega) fun o2 no2=>?_
 rw [Oa];have S5:=(Same.refl H4).upd no2 (o:=.lst ((nI (LN ml far (fun i j=>e (mu+i) j) ++ (List.range mu).map (ml+far+ ·))).map V.int));have ho2:=aj (H:=H4) (a:=o2) (o:=.lst ((nI (LN ml far (fun i j=>e (mu+i) j) ++ (List.range mu).map (ml+far+ ·))).map V.int));generalize upd H4 o2 (.lst ((nI (LN ml far (fun i j=>e (mu+i) j) ++ (List.range mu).map (ml+far+ ·))).map V.int))=H5 at S5 ho2 ⊢;have U5:=U3.trans (S4.trans S5);walk_at "s";refine ⟨o1,o2,_,_,mu+ml+far,rfl,(S4.trans S5) _ _ ho1,ho2,⟨RC (Np (by omega)) (by rw [j6];omega),Ob (Np (by omega)) (j6 _ _ _) (by omega),by simp [j6];omega,by simp [j6];omega⟩,fun r' H6 nr' S6 hr'=>?_⟩;rw [Nq hn] at hr';exact q r' H6 (Same.back U5 nr') (U5.trans S6) hr'
def Ww (m:Nat) (e:Nat->Nat->Bool) (i j:Nat):List Nat:=(List.range j).flatMap fun j=>if e i j=true then [] else [m - 1 - i+j]
def stE (m far:Nat) (e:Nat->Nat->Bool) (i j:Nat):List Nat:=bN (List.range (m+far)) (al m far e i ++ Ww m e i j)
theorem uI (m far:Nat) (e:Nat->Nat->Bool) (i j:Nat):stE m far e i (j+1)=if e i j=true then stE m far e i j else bG (stE m far e i j) (m - 1 - i+j):=by
 unfold stE Ww;rw [AaD,List.flatMap_append,← AaF,wK];simp only [List.flatMap_cons,List.flatMap_nil,AaC]
 split
 ·rfl
 ·rfl
theorem wN (m far:Nat) (e:Nat->Nat->Bool) (i:Nat):stE m far e (i+1) 0=stE m far e i far:=by
 unfold stE Ww;rw [Q9];simp only [List.range_zero,List.flatMap_nil,AaC];rfl
theorem Ax (m far:Nat) (e:Nat->Nat->Bool):stE m far e m 0=Dn (m+far) (al m far e m):=by
 unfold stE Ww Dn;simp
theorem CP (m far:Nat) (e:Nat->Nat->Bool):stE m far e 0 0=List.range (m+far):=rfl
theorem Ay {m i j p:Nat} {e:Nat->Nat->Bool} (h:p∈Ww m e i j):∃ k,k < j/\p=m - 1 - i+k:=by
 unfold Ww at h;obtain ⟨k,hk,h⟩:=List.mem_flatMap.mp h;refine ⟨k,ZX.mp hk,?_⟩
 split at h
 ·cases h
 ·exact Aad.mp h
theorem rm {m far i j:Nat} {e:Nat->Nat->Bool} (hn:m+far<=96) (hi:i < m/\j<=far\/i<=m/\j=0):Prm (stE m far e i j):=by
 refine Gw hn fun p hp=>?_
 rcases Aaw.mp hp with h | h
 ·obtain ⟨a,b,ha,hb,rfl⟩:=Ey h
  omega
 ·obtain ⟨k,hk,rfl⟩:=Ay h
  omega
theorem rn (m far:Nat) (e:Nat->Nat->Bool) (i j:Nat):(stE m far e i j).length=m+far:=by unfold stE;rw [jY];simp
theorem run_get {E ps:List Nat} {q:Nat} (h:∀ p∈ps,q < p):(bN E ps).getD q 0=E.getD q 0:=by
 induction ps generalizing E with
 | nil=>rfl
 | cons p ps ih=>
  show (bN (bG E p) ps).getD q 0=_;rw [ih fun x hx=>h x (by simp [hx]),step_get (.inl (h p (by simp)))]
theorem wO {m far i j q:Nat} {e:Nat->Nat->Bool} (hi:i < m) (hq:q < m - 1 - i\/(q=m - 1 - i/\j=0)):(stE m far e i j).getD q 0=q:=by
 have hr:(List.range (m+far)).getD q 0=q:=by
  rw [Zv,Z3 (by omega)];rfl
 unfold stE;rw [run_get,hr];intro p hp;rcases Aaw.mp hp with h | h
 ·obtain ⟨a,b,ha,hb,rfl⟩:=Ey h
  omega
 ·obtain ⟨k,hk,rfl⟩:=Ay h
  omega
structure Wx (m far:Nat) (e:Nat->Nat->Bool) (i j:Nat) (x:Nat) (F:List Nat):Prop where
 len:F.length=far
 ln:x=(stE m far e i j).getD (m - 1 - i+j) 0
 lo:∀ k,k < j->F.getD k 0=(stE m far e i j).getD (m - 1 - i+k) 0
 hi:∀ k,j<=k->k < far->F.getD k 0=(stE m far e i j).getD (m - i+k) 0
theorem Jm {m far:Nat} {e:Nat->Nat->Bool} {F:List Nat} {i:Nat} (hi:i < m) (hl:F.length=far) (hF:∀ k,k < far->F.getD k 0=(stE m far e i 0).getD (m - i+k) 0):Wx m far e i 0 (m - 1 - i) F:=
 ⟨hl,by rw [Nat.add_zero,wO hi (.inr ⟨rfl,rfl⟩)],fun k hk=>absurd hk (AaV _),fun k _ hk=>hF k hk⟩
theorem GQ {E:List Nat} {p:Nat} (h:p+1 < E.length) (hw:uE E p=true):(bG E p).getD p 0=E.getD (p+1) 0/\(bG E p).getD (p+1) 0=E.getD p 0:=by
 rw [ye hw];refine ⟨?_,?_⟩
 ·rw [jc h,if_neg (by omega),if_pos rfl]
 ·rw [jc h,if_pos rfl]
theorem Od {m far:Nat} {e:Nat->Nat->Bool} {i j x:Nat} {F:List Nat} (hn:m+far<=96) (hi:i < m) (hj:j < far) (w:Wx m far e i j x F) (h:e i j=true\/F.getD j 0 < x):Wx m far e i (j+1) (F.getD j 0) (F.set j x):=by
 have eE:stE m far e i (j+1)=stE m far e i j:=by
  rw [uI]
  split
  ·rfl
  ·rename_i hne
   have hlt:F.getD j 0 < x:=h.resolve_left hne;unfold bG;rw [if_neg];unfold uE;have h1:=w.ln;have h2:=w.hi j (ZC _) hj;rw [show m - 1 - i+j+1=m - i+j by omega];simp only [AbI];omega
 refine ⟨by rw [List.length_set];exact w.len,?_,fun k hk=>?_,fun k hk hk2=>?_⟩
 ·rw [eE,w.hi j (ZC _) hj,show m - 1 - i+(j+1)=m - i+j by omega]
 ·rw [eE]
  by_cases e1:k=j
  ·subst e1
   rw [Zv,Aaz (by rw [w.len];exact hj)];exact w.ln
  ·rw [Zv,Aaf (fun z=>e1 z.symm),← Zv]
   exact w.lo k (by omega)
 ·rw [eE,Zv,Aaf (by omega),← Zv]
  exact w.hi k (by omega) hk2
theorem Oe {m far:Nat} {e:Nat->Nat->Bool} {i j x:Nat} {F:List Nat} (hn:m+far<=96) (hi:i < m) (hj:j < far) (w:Wx m far e i j x F) (h:e i j=false) (h2:¬ F.getD j 0 < x):Wx m far e i (j+1) x F:=by
 have hP:=rm (e:=e) hn (.inl ⟨hi,Nat.le_of_lt hj⟩);have hl:=rn m far e i j;have h3:=w.ln;have h4:=w.hi j (ZC _) hj
 have hne:x≠F.getD j 0:=fun z=>by
  rw [h3,h4] at z;have:=sG (n:=m+far) (by have:=hP.pm;rw [hl] at this;exact this) (by omega) (by omega) z;omega
 have hw:uE (stE m far e i j) (m - 1 - i+j)=true:=by
  unfold uE;rw [show m - 1 - i+j+1=m - i+j by omega];simp only [AbI];omega
 have eE:stE m far e i (j+1)=bG (stE m far e i j) (m - 1 - i+j):=by rw [uI,h];rfl
 obtain ⟨s1,s2⟩:=GQ (by rw [hl];omega) hw;refine ⟨w.len,?_,fun k hk=>?_,fun k hk hk2=>?_⟩
 ·rw [eE,show m - 1 - i+(j+1)=m - 1 - i+j+1 by omega,s2];exact h3
 ·rw [eE]
  by_cases e1:k=j
  ·subst e1
   rw [s1,show m - 1 - i+k+1=m - i+k by omega];exact h4
  ·rw [step_get (.inl (by omega))]
   exact w.lo k (by omega)
 ·rw [eE,step_get (.inr (by omega))]
  exact w.hi k (by omega) hk2
end
local macro_rules | `(tactic| walk_at "s") => `(tactic| (with_reducible repeat (first | refine mH ?_ | walk_at "2")))
local macro_rules | `(tactic| walk_at "n") => `(tactic| (with_reducible repeat (walk_at "2")))
section
variable {P:Program} {w:World} {K:W.Frag} {mg:Str->Option Value} {base:Heap}
def Rule (m far:Nat) (e:Nat->Nat->Bool) (C:Nat->Nat->Bool):Prop:=∀ i j,i < m->j < far->C i j=(e i j || decide (gD m C j i < gA m C i j))
def cA (m far:Nat) (e:Nat->Nat->Bool) (i j:Nat):Bool:=e i j || decide ((stE m far e i j).getD (m - i+j) 0 < (stE m far e i j).getD (m - 1 - i+j) 0)
structure Gd (m far:Nat) (e:Nat->Nat->Bool) (i j:Nat):Prop where
 ln:gA m (cA m far e) i j=(stE m far e i j).getD (m - 1 - i+j) 0
 lo:∀ k,k < j->gD m (cA m far e) k (i+1)=(stE m far e i j).getD (m - 1 - i+k) 0
 hi:∀ k,j<=k->k < far->gD m (cA m far e) k i=(stE m far e i j).getD (m - i+k) 0
theorem RG {m far:Nat} {e:Nat->Nat->Bool} {i j:Nat} (hn:m+far<=96) (hi:i < m) (hj:j < far) (w:Gd m far e i j):Gd m far e i (j+1):=by
 have hP:=rm (e:=e) hn (.inl ⟨hi,Nat.le_of_lt hj⟩);have hl:=rn m far e i j;have h2:=w.hi j (ZC _) hj;by_cases hc:cA m far e i j=true
 ·have eE:stE m far e i (j+1)=stE m far e i j:=by
   rw [uI]
   split
   ·rfl
   ·rename_i hne
    unfold cA at hc;have hlt:=AbL ((Bool.or_eq_true _ _ ▸ hc).resolve_left hne);unfold bG;rw [if_neg];unfold uE;rw [show m - 1 - i+j+1=m - i+j by omega];simp only [AbI];omega
  refine ⟨?_,fun k hk=>?_,fun k hk hk2=>?_⟩
  ·rw [mV,if_pos hc,eE,h2,show m - 1 - i+(j+1)=m - i+j by omega]
  ·rw [eE]
   by_cases e1:k=j
   ·subst e1
    rw [mW,if_pos hc];exact w.ln
   ·exact w.lo k (by omega)
  ·rw [eE];exact w.hi k (by omega) hk2
 ·have hcF:cA m far e i j=false:=by simpa using hc
  unfold cA at hcF;obtain ⟨h3,h4⟩:=AbO.mp hcF;have h4:=of_decide_eq_false h4
  have hne:(stE m far e i j).getD (m - 1 - i+j) 0≠(stE m far e i j).getD (m - i+j) 0:=fun z=>by
   have:=sG (n:=m+far) (by have:=hP.pm;rw [hl] at this;exact this) (by omega) (by omega) z;omega
  have hw:uE (stE m far e i j) (m - 1 - i+j)=true:=by
   unfold uE;rw [show m - 1 - i+j+1=m - i+j by omega];simp only [AbI];omega
  have eE:stE m far e i (j+1)=bG (stE m far e i j) (m - 1 - i+j):=by rw [uI,h3];rfl
  obtain ⟨s1,s2⟩:=GQ (by rw [hl];omega) hw;refine ⟨?_,fun k hk=>?_,fun k hk hk2=>?_⟩
  ·rw [mV,if_neg hc,eE,show m - 1 - i+(j+1)=m - 1 - i+j+1 by omega,s2];exact w.ln
  ·rw [eE]
   by_cases e1:k=j
   ·subst e1
    rw [mW,if_neg hc,s1,show m - 1 - i+k+1=m - i+k by omega];exact h2
   ·rw [step_get (.inl (by omega))]
    exact w.lo k (by omega)
  ·rw [eE,step_get (.inr (by omega))]
   exact w.hi k (by omega) hk2
theorem wQ {m far:Nat} {e:Nat->Nat->Bool} {i:Nat} (hn:m+far<=96) (hi:i < m) (h:Gd m far e i 0):∀ j,j<=far->Gd m far e i j
 | 0,_=>h
 | j+1,hj=>RG hn hi (by omega) (wQ hn hi h j (by omega))
theorem Az {m far:Nat} {e:Nat->Nat->Bool} (hn:m+far<=96):∀ i,i<=m->∀ k,k < far->gD m (cA m far e) k i=(stE m far e i 0).getD (m - i+k) 0
 | 0,_,k,hk=>by
  rw [ju,CP,Zv,Z3 (by omega)];rfl
 | i+1,hi,k,hk=>by
  have ih:=Az (e:=e) hn i (by omega);have g0:Gd m far e i 0:=⟨by rw [jU,Nat.add_zero,wO (by omega) (.inr ⟨rfl,rfl⟩)],fun k hk=>absurd hk (AaV _),fun k _ hk=>ih k hk⟩;rw [(wQ hn (by omega) g0 far (ZC _)).lo k hk,wN,show m - (i+1)+k=m - 1 - i+k by omega]
theorem GR {m far:Nat} {e:Nat->Nat->Bool} (hn:m+far<=96):Rule m far e (cA m far e):=fun i j hi hj=>by
 have g0:Gd m far e i 0:=⟨by rw [jU,Nat.add_zero,wO hi (.inr ⟨rfl,rfl⟩)],fun k hk=>absurd hk (AaV _),fun k _ hk=>Az hn i (by omega) k hk⟩;have g:=wQ hn hi g0 j (by omega);rw [g.hi j (ZC _) hj,g.ln];rfl
theorem Y6 {m far:Nat} {e:Nat->Nat->Bool} (hn:m+far<=96) {p:Nat} (hp:p < far):(LN m far e)[gD m (cA m far e) p m]?=some p:=by
 have hP:=rm (m:=m) (far:=far) (e:=e) hn (.inr ⟨ZC m,rfl⟩);have hl:=rn m far e m 0;rw [Az hn m (ZC _) p hp,AbS,Nat.zero_add];unfold LN;rw [← Ax];have hx:=hP.lt (Z0 (getD_some (B:=stE m far e m 0) (i:=p) (by omega)));rw [getD_some (by rw [bF];exact hx),Ag hP (by omega)]
def eT (cs:List Nat) (top:Str) (i j:Nat):Bool:=decide (cs.getD i 0=top.cps.getD j 0)
theorem Og {m far:Nat} {e e':Nat->Nat->Bool} (h:∀ i j,i < m->j < far->e i j=e' i j):al m far e m=al m far e' m:=by
 unfold al rs;refine jd fun i hi=>jd fun j hj=>?_
 rw [h i j (ZX.mp hi) (ZX.mp hj)]
theorem CQ {m far:Nat} {e e':Nat->Nat->Bool} (h:∀ i j,i < m->j < far->e i j=e' i j):LN m far e=LN m far e':=by unfold LN;rw [Og h]
theorem Oh {m far:Nat} {e:Nat->Nat->Bool} (h:m=0\/far=0) (hn:m+far<=96):LN m far e=List.range (m+far):=by
 have:al m far e m=[]:=by
  unfold al rs;rcases h with rfl | rfl
  ·rfl
  ·simp
 unfold LN;rw [this];exact Jd _ hn
theorem RJ {far:Nat} {e:Nat->Nat->Bool} (hn:1+far<=96):(LN 1 far e)[gA 1 (cA 1 far e) 0 far]?=some far:=by
 have hP:=rm (m:=1) (far:=far) (e:=e) hn (.inr ⟨ZC 1,rfl⟩);have hl:=rn 1 far e 1 0;have g0:Gd 1 far e 0 0:=⟨by rw [jU,Nat.add_zero,wO (by omega) (.inr ⟨rfl,rfl⟩)],fun k hk=>absurd hk (AaV _),fun k _ hk=>Az hn 0 (by omega) k hk⟩;have g:=wQ hn (by omega) g0 far (ZC _);rw [g.ln,← wN,show 1 - 1 - 0+far=far by omega];unfold LN;rw [← Ax];have hx:=hP.lt (Z0 (getD_some (B:=stE 1 far e 1 0) (i:=far) (by omega)));rw [getD_some (by rw [bF];exact hx),Ag hP (by omega)]
theorem Ba {far:Nat} {e C C':Nat->Nat->Bool} (h:Rule 1 far e C) (h':Rule 1 far e C'):∀ j,j<=far->gA 1 C 0 j=gA 1 C' 0 j/\∀ k,k < j->C 0 k=C' 0 k
 | 0,_=>⟨by rw [jU,jU],fun k hk=>absurd hk (AaV _)⟩
 | j+1,hj=>by
  obtain ⟨i1,i2⟩:=Ba h h' j (by omega);have e1:C 0 j=C' 0 j:=by rw [h 0 j (by omega) (by omega),h' 0 j (by omega) (by omega),i1,ju,ju]
  refine ⟨by rw [mV,mV,e1,i1,ju,ju],fun k hk=>?_⟩;by_cases e2:k=j
  ·rw [e2];exact e1
  ·exact i2 k (by omega)
theorem RK {far:Nat} {e C:Nat->Nat->Bool} {R:List Int} (hn:1+far<=96) (hC:Rule 1 far e C) (h:IsEnds 1 C far R):R=nI (LN 1 far e):=by
 obtain ⟨u1,u2⟩:=Ba hC (GR hn) far (ZC _);refine IsEnds.eq h ⟨by unfold nI;rw [ZJ,j6],fun j hj=>?_,fun i hi=>?_⟩
 ·have e1:gD 1 C j 1=gD 1 (cA 1 far e) j 1:=by
   obtain ⟨v1,_⟩:=Ba hC (GR hn) j (by omega);rw [mW,mW,u2 j hj,v1,ju,ju]
  unfold nI;rw [e1,ZM,Y6 hn hj];rfl
 ·obtain rfl:i=0:=by omega
  unfold nI;rw [u1,ZM,RJ hn];rfl
inductive Tr where
 | lf (c:Nat)
 | nd (u l:Tr)
def Tr.codes:Tr->List Nat
 | .lf c=>[c]
 | .nd u l=>u.codes ++ l.codes
def Tr.many:Tr->Nat
 | .lf _=>1
 | .nd u l=>u.many+l.many
def Tr.tall:Tr->Nat
 | .lf _=>0
 | .nd u l=>max (u.tall+1) (l.tall+1)
def Tr.kids:Tr->List Tr
 | .lf _=>[]
 | .nd u l=>[u,l]
theorem bK:∀ t:Tr,t.codes.length=t.many
 | .lf _=>rfl
 | .nd u l=>by rw [Tr.codes,Z8,bK u,bK l,Tr.many]
theorem qF:∀ t:Tr,1<=t.many
 | .lf _=>ZC 1
 | .nd u l=>by have:=qF u;rw [Tr.many];omega
theorem uJ:∀ t:Tr,t.tall < t.many
 | .lf _=>AbQ 0
 | .nd u l=>by
  have h1:=uJ u;have h2:=uJ l;have h3:=qF u;have h4:=qF l;rw [Tr.tall,Tr.many];omega
def Tv (a b l:Tr):Tr:=if b.tall<=a.tall then .nd a (.nd b l) else match b with
 | .nd b1 b2=>.nd (.nd a b1) (.nd b2 l)
 | .lf c=>.nd a (.nd (.lf c) l)
def Tw (u a b:Tr):Tr:=if a.tall<=b.tall then .nd (.nd u a) b else match a with
 | .nd a1 a2=>.nd (.nd u a1) (.nd a2 b)
 | .lf c=>.nd (.nd u (.lf c)) b
def ev (u l:Tr):Tr:=if l.tall+1 < u.tall then (match u with | .nd a b=>Tv a b l | .lf c=>.nd (.lf c) l) else if u.tall+1 < l.tall then (match l with | .nd a b=>Tw u a b | .lf c=>.nd u (.lf c)) else .nd u l
theorem Jo (a b l:Tr):(Tv a b l).codes=a.codes ++ (b.codes ++ l.codes):=by
 unfold Tv
 split
 ·rfl
 ·cases b with
  | lf c=>rfl
  | nd b1 b2=>simp only [Tr.codes,AaF]
theorem Jp (u a b:Tr):(Tw u a b).codes=u.codes ++ (a.codes ++ b.codes):=by
 unfold Tw
 split
 ·simp only [Tr.codes,AaF]
 ·cases a with
  | lf c=>simp only [Tr.codes,AaF]
  | nd b1 b2=>simp only [Tr.codes,AaF]
theorem uK (u l:Tr):(ev u l).codes=u.codes ++ l.codes:=by
 unfold ev
 split
 ·cases u with
  | lf c=>rfl
  | nd a b=>show (Tv a b l).codes=_;rw [Jo,Tr.codes,AaF]
 ·split
  ·cases l with
   | lf c=>rfl
   | nd a b=>show (Tw u a b).codes=_;rw [Jp,Tr.codes]
  ·rfl
def wp (c:Nat):Tr->Nat->Tr
 | .lf d,p=>if p=0 then .nd (.lf c) (.lf d) else .nd (.lf d) (.lf c)
 | .nd u l,p=>if p<=u.many then ev (wp c u p) l else ev u (wp c l (p - u.many))
def wo:Tr->Nat->Option Tr
 | .lf _,_=>none
 | .nd u l,p=>if p < u.many then (match wo u p with | none=>some l | some r=>some (ev r l)) else (match wo l (p - u.many) with | none=>some u | some r=>some (ev u r))
def wc (c:Nat):Tr->Nat->Tr
 | .lf _,_=>.lf c
 | .nd u l,p=>if p < u.many then .nd (wc c u p) l else .nd u (wc c l (p - u.many))
def bt:Nat->List Nat->Tr
 | 0,cs=>.lf (cs.headD 0)
 | d+1,cs=>if cs.length<=1 then .lf (cs.headD 0) else .nd (bt d (cs.take (cs.length / 2))) (bt d (cs.drop (cs.length / 2)))
theorem uL (c:Nat):∀ (t:Tr) (p:Nat),p<=t.many->(wp c t p).codes=t.codes.take p ++ c :: t.codes.drop p
 | .lf d,p,h=>by
  unfold wp
  split
  ·rename_i e;subst e;rfl
  ·rename_i e
   obtain rfl:p=1:=by have:(Tr.lf d).many=1:=rfl;omega
   rfl
 | .nd u l,p,h=>by
  rw [Tr.many] at h;unfold wp;have lu:=bK u
  split
  ·rename_i e
   rw [uK,uL c u p e,Tr.codes,AaJ (by omega),Aby (by omega)];simp
  ·rename_i e
   rw [uK,uL c l _ (by omega),Tr.codes,List.take_append,Aa5,Aan (by omega:u.codes.length<=p),Aaa (by omega:u.codes.length<=p),lu];simp
theorem uM:∀ (t:Tr) (p:Nat),p < t.many->(wo t p=none/\t.many=1)\/∃ r,wo t p=some r/\r.codes=t.codes.take p ++ t.codes.drop (p+1)
 | .lf d,p,h=>.inl ⟨rfl,rfl⟩
 | .nd u l,p,h=>by
  rw [Tr.many] at h;right;unfold wo;have lu:=bK u;have ll:=bK l
  split
  ·rename_i e
   rcases uM u p e with ⟨e1,e2⟩ | ⟨r,e1,e2⟩
   ·rw [e1]
    refine ⟨l,rfl,?_⟩;obtain rfl:p=0:=by omega
    rw [Tr.codes,Aa5,Aaa (by omega),show 0+1 - u.codes.length=0 by omega];rfl
   ·rw [e1]
    refine ⟨_,rfl,?_⟩;rw [uK,e2,Tr.codes,AaJ (by omega),Aby (by omega),AaF]
  ·rename_i e
   rcases uM l (p - u.many) (by omega) with ⟨e1,e2⟩ | ⟨r,e1,e2⟩
   ·rw [e1]
    refine ⟨u,rfl,?_⟩;rw [Tr.codes,List.take_append,Aa5,Aan (by omega:u.codes.length<=p),Aaa (by omega:u.codes.length<=p+1),Aaa (by omega),show p - u.codes.length=0 by omega];simp
   ·rw [e1]
    refine ⟨_,rfl,?_⟩;rw [uK,e2,Tr.codes,List.take_append,Aa5,Aan (by omega:u.codes.length<=p),Aaa (by omega:u.codes.length<=p+1),lu,show p+1 - u.many=p - u.many+1 by omega];simp
theorem uN (c:Nat):∀ (t:Tr) (p:Nat),p < t.many->(wc c t p).codes=t.codes.take p ++ c :: t.codes.drop (p+1)
 | .lf d,p,h=>by
  obtain rfl:p=0:=by have:(Tr.lf d).many=1:=rfl;omega
  rfl
 | .nd u l,p,h=>by
  rw [Tr.many] at h;unfold wc;have lu:=bK u
  split
  ·rename_i e
   rw [Tr.codes,uN c u p e,Tr.codes,AaJ (by omega),Aby (by omega)];simp
  ·rename_i e
   rw [Tr.codes,uN c l _ (by omega),Tr.codes,List.take_append,Aa5,Aan (by omega:u.codes.length<=p),Aaa (by omega:u.codes.length<=p+1),lu,show p+1 - u.many=p - u.many+1 by omega];simp
theorem uO:∀ (d:Nat) (cs:List Nat),cs≠[]->cs.length<=2 ^ d->(bt d cs).codes=cs
 | 0,[],h,_=>absurd rfl h
 | 0,[c],_,_=>rfl
 | 0,_ :: _ :: _,_,h=>by simp at h
 | d+1,cs,h,hl=>by
  have hp:0 < cs.length:=by cases cs with
   | nil=>exact absurd rfl h
   | cons a b=>simp
  rw [Nat.pow_succ] at hl;unfold bt
  split
  ·cases cs with
   | nil=>exact absurd rfl h
   | cons a b=>cases b with
    | nil=>rfl
    | cons b cs=>simp at*
  ·rw [Tr.codes,uO d _ (fun z=>by have:=congrArg List.length z;rw [ZW,AaL] at this;omega) (by rw [ZW];omega),uO d _ (fun z=>by have:=congrArg List.length z;rw [Aac,AaL] at this;omega) (by rw [Aac];omega),AbH]
end
local macro_rules | `(tactic| walk_at "s") => `(tactic| (with_reducible repeat (first | refine mH ?_ | walk_at "5")))
local macro_rules | `(tactic| walk_at "n") => `(tactic| (with_reducible repeat (walk_at "5")))
section
variable {P:Program} {w:World} {K:W.Frag} {mg:Str->Option Value} {base:Heap}
theorem tL:(["half"]:List Str).Nodup:=by trivial
theorem tM:(["half"]:List Str).Nodup:=by trivial
theorem iW {H:Hp} {x C dx:Addr} {fs:List (Str×V)} {f:Str} {y:V} (hf:(fs.map (·.1)).contains f=false):∃ H',upd H x (.ins C dx (cP f y fs))=H'/\H' x=some (.ins C dx (fs ++ [(f,y)]))/\Chg x H H':=
 ⟨_,rfl,by rw [aj,jZ hf],Chg.put (Chg.refl x H)⟩
def ndF (k:Int) (al ah:Addr) (m h:Nat):List (Str×V):=[("mark",.int k),("held_lines",.ref al),("halves",.ref ah),("many",.int (m:Int)),("tall",.int (h:Int))]
def NdO (mg:Str->Option Value) (top:Str) (t:Tr) (H:Hp) (x:Addr) (hs:List V):Prop:=∃ dx k al ah,H x=some (.ins (aO mg "Node") dx (ndF k al ah t.many t.tall))/\H al=some (.lst ((nI (LN t.many top.cps.size (eT t.codes top))).map V.int))/\H ah=some (.tup hs)
def Nd (mg:Str->Option Value) (top:Str):Tr->Hp->Addr->Prop
 | .lf c,H,x=>NdO mg top (.lf c) H x []
 | .nd u l,H,x=>∃ y z,NdO mg top (.nd u l) H x [.ref y,.ref z]/\Nd mg top u H y/\Nd mg top l H z
def NO (o:HO):Prop:=(∃ C dx k al ah m h,o= .ins C dx (ndF k al ah m h))\/(∃ L:List Nat,o= .lst ((nI L).map V.int))\/∃ hs,o= .tup hs
def Kn (H H':Hp):Prop:=∀ b o,NO o->H b=some o->H' b=some o
theorem Kn.trans {H H1 H2:Hp} (a:Kn H H1) (b:Kn H1 H2):Kn H H2:=fun x o n e=>b x o n (a x o n e)
theorem Kn.same {H H':Hp} (s:Same H H'):Kn H H':=fun b o _ e=>s b o e
theorem Kn.chg {H H':Hp} {x:Addr} {o:HO} (hx:H x=some o) (n:¬ NO o) (c:Chg x H H'):Kn H H':=fun b u nu e=>c b u (fun z=>by rw [z,hx] at e;cases e;exact n nu) e
theorem NdO.kn {H H':Hp} {top:Str} {t:Tr} {x:Addr} {hs:List V} (h:NdO mg top t H x hs) (k:Kn H H'):NdO mg top t H' x hs:=by
 obtain ⟨dx,n,al,ah,h1,h2,h3⟩:=h;exact ⟨dx,n,al,ah,k _ _ (.inl ⟨_,_,_,_,_,_,_,rfl⟩) h1,k _ _ (.inr (.inl ⟨_,rfl⟩)) h2,k _ _ (.inr (.inr ⟨_,rfl⟩)) h3⟩
theorem Nd.kn {H H':Hp} {top:Str} (k:Kn H H'):∀ {t:Tr} {x:Addr},Nd mg top t H x->Nd mg top t H' x
 | .lf c,x,h=>NdO.kn h k
 | .nd u l,x,h=>by
  obtain ⟨y,z,h1,h2,h3⟩:=h;exact ⟨y,z,h1.kn k,h2.kn k,h3.kn k⟩
def HsK (mg:Str->Option Value) (top:Str) (H:Hp) (hs:List V) (ts:List Tr):Prop:=hs.length=ts.length/\∀ (i:Nat) (v:V),hs[i]?=some v->∃ y u,ts[i]?=some u/\v= .ref y/\Nd mg top u H y
theorem HsK.kn {H H':Hp} {top:Str} {hs:List V} {ts:List Tr} (h:HsK mg top H hs ts) (k:Kn H H'):HsK mg top H' hs ts:=⟨h.1,fun i v e=>by
 obtain ⟨y,u,e1,e2,e3⟩:=h.2 i v e;exact ⟨y,u,e1,e2,e3.kn k⟩⟩
theorem Nd.of {top:Str} {H:Hp} {x:Addr}:∀ {t:Tr},Nd mg top t H x->∃ hs,NdO mg top t H x hs/\HsK mg top H hs t.kids
 | .lf c,h=>⟨[],h,rfl,fun i v e=>by cases e⟩
 | .nd u l,h=>by
  obtain ⟨y,z,h1,h2,h3⟩:=h;refine ⟨_,h1,rfl,fun i v e=>?_⟩
  match i,e with
  | 0,e=>cases e;exact ⟨y,u,rfl,rfl,h2⟩
  | 1,e=>cases e;exact ⟨z,l,rfl,rfl,h3⟩
  | i+2,e=>cases e
theorem Nd.mk {top:Str} {H:Hp} {x:Addr} {hs:List V}:∀ {t:Tr},NdO mg top t H x hs->HsK mg top H hs t.kids->Nd mg top t H x
 | .lf c,h,k=>by
  obtain rfl:=AaS.mp k.1;exact h
 | .nd u l,h,k=>by
  match hs,k,h with
  | [a,b],k,h=>
   obtain ⟨y,u',e1,rfl,n1⟩:=k.2 0 a rfl;obtain ⟨z,l',e2,rfl,n2⟩:=k.2 1 b rfl;cases e1;cases e2;exact ⟨y,z,h,n1,n2⟩
  | [],k,h=>cases k.1
  | [a],k,h=>cases k.1
  | a :: b :: c :: d,k,h=>cases k.1
theorem pC {C dx:Addr} {fs:List (Str×V)} (h:fs.length≠5):¬ NO (.ins C dx fs):=by
 rintro (⟨_,_,_,_,_,_,_,e⟩ | ⟨_,e⟩ | ⟨_,e⟩)
 ·cases e;exact h rfl
 ·cases e
 ·cases e
theorem Jq:∀ t:Tr,t.kids≠[]->((nI (t.kids.map Tr.many)).sum:Int)=(t.many:Int)
 | .lf c,h=>absurd rfl h
 | .nd u l,_=>by
  show ((u.many:Int)+((l.many:Int)+0))=((u.many+l.many:Nat):Int);omega
theorem yu:∀ {t:Tr},t.kids=[]->t.many=1/\t.tall=0
 | .lf c,_=>⟨rfl,rfl⟩
 | .nd u l,h=>by cases h
theorem zB:∀ {t:Tr} {M:Int},M∈nI (t.kids.map fun u=>u.tall+1)->(∀ a∈nI (t.kids.map fun u=>u.tall+1),a<=M)->M=(t.tall:Int)
 | .lf c,M,h,_=>by cases h
 | .nd u l,M,h,k=>by
  unfold nI Tr.kids at h k;simp only [Aaj,List.map_nil,ZQ,Aaq,or_false] at h k;have h1:=k _ (.inl rfl);have h2:=k _ (.inr rfl);show M=((max (u.tall+1) (l.tall+1):Nat):Int);rcases h with rfl | rfl <;> omega
def Wy (mg:Str->Option Value):Sp:=fun vs H Q _=>∃ (x dx al ah:Addr) (k:Int) (top:Str) (t:Tr) (hs:List V),vs=[.ref x,.int k,.ref al,.ref ah]/\H x=some (.ins (aO mg "Node") dx [])/\H al=some (.lst ((nI (LN t.many top.cps.size (eT t.codes top))).map V.int))/\H ah=some (.tup hs)/\HsK mg top H hs t.kids/\
 ∀ H',Chg x H H'->Nd mg top t H' x->Q .non H'
theorem vH:aD ["self","mark","lines","halves"] ["self","mark","lines","halves"] (az f9):=⟨rfl,rfl,rfl,by trivial,rfl,by trivial,by trivial⟩
theorem eY (T:Txt K mg):HasM P w K mg base 1 "Node" "__init__" ["self","mark","lines","halves"] (Wy mg):=by
 walk_at "@jX 4 T.m_Node___init__ vH";obtain ⟨x,dx,al,ah,k,top,t,hs,rfl,hx,hl,hh,hK,q⟩:=h;walk_at "=_;!E*!E(!E-!E}'~)-}(}){T.b_sum}$o<.>Z[self mark lines halves]~Q[half]d-_#0{tM}7`%E}*{T.b_max}o<.>Z[self mark lines halves]~Q[half]d-_#0{tL}I7`";have hz:20000<=sizeLine:=by decide
 have cl:=T.o_Node.cl;have na:=T.n_Node
 have hs2:hs.length<=2:=by
  rw [hK.1];cases t with
  | lf c=>exact AaE 2
  | nd u l=>exact ZC 2
 have lx:∀ {G:Hp} {C ex:Addr} {fs:List (Str×V)} {a:Addr} {us:List V},G x=some (.ins C ex fs)->G a=some (.lst us)->a≠x:=fun h1 h2 z=>by rw [z,h1] at h2;cases h2
 have tx:∀ {G:Hp} {C ex:Addr} {fs:List (Str×V)} {a:Addr} {us:List V},G x=some (.ins C ex fs)->G a=some (.tup us)->a≠x:=fun h1 h2 z=>by rw [z,h1] at h2;cases h2
 apply ⟨x,_,dx,_,rfl,hx,cl,na _ (by simp),by simp,?_⟩;obtain ⟨H1,e1,hx1,M1⟩:=iW (H:=H) (x:=x) (C:=aO mg "Node") (dx:=dx) (fs:=[]) (f:="mark") (y:=.int k) rfl;rw [e1];walk_at "s";apply ⟨x,_,dx,_,rfl,hx1,cl,na _ (by simp),by simp,?_⟩;obtain ⟨H2,e2,hx2,M2⟩:=iW (H:=H1) (x:=x) (C:=aO mg "Node") (dx:=dx) (fs:=[] ++ [(Str.ofString "mark",V.int k)]) (f:="held_lines") (y:=.ref al) (by show (["mark"]:List Str).contains "held_lines"=false;trivial);rw [e2];walk_at "s";apply ⟨x,_,dx,_,rfl,hx2,cl,na _ (by simp),by simp,?_⟩;obtain ⟨H3,e3,hx3,M3⟩:=iW (H:=H2) (x:=x) (C:=aO mg "Node") (dx:=dx) (fs:=[] ++ [(Str.ofString "mark",V.int k)] ++ [(Str.ofString "held_lines",V.ref al)]) (f:="halves") (y:=.ref ah) (by show (["mark","held_lines"]:List Str).contains "halves"=false;trivial);rw [e3];have C3:=(M1.trans M2).trans M3;clear M1 M2 M3 hx1 hx2 e1 e2 e3;have K3:=Kn.chg hx (pC (by decide)) C3;have hl3:=K3 _ _ (.inr (.inl ⟨_,rfl⟩)) hl;have hh3:=K3 _ _ (.inr (.inr ⟨_,rfl⟩)) hh;have hK3:=hK.kn K3
 have fin:∀ (H4:Hp),Chg x H3 H4->H4 x=some (.ins (aO mg "Node") dx ([] ++ [(Str.ofString "mark",V.int k)] ++ [(Str.ofString "held_lines",V.ref al)] ++ [(Str.ofString "halves",V.ref ah)] ++ [(Str.ofString "many",V.int (t.many:Int))]))->∀ (D:Addr) (H5:Hp),Same H4 H5->
   Q .non (upd H5 x (.ins (aO mg "Node") dx (cP (Str.ofString "tall") (.int (t.tall:Int)) ([] ++ [(Str.ofString "mark",V.int k)] ++ [(Str.ofString "held_lines",V.ref al)] ++ [(Str.ofString "halves",V.ref ah)] ++ [(Str.ofString "many",V.int (t.many:Int))])))):=fun H4 c4 hx4 D H5 S5=>by
  obtain ⟨H6,e6,hx6,M6⟩:=iW (H:=H5) (x:=x) (C:=aO mg "Node") (dx:=dx) (fs:=[] ++ [(Str.ofString "mark",V.int k)] ++ [(Str.ofString "held_lines",V.ref al)] ++ [(Str.ofString "halves",V.ref ah)] ++ [(Str.ofString "many",V.int (t.many:Int))]) (f:=Str.ofString "tall") (y:=.int (t.tall:Int)) (by show (["mark","held_lines","halves","many"]:List Str).contains "tall"=false;trivial);rw [e6];have C6:=(Chg.same (C3.trans c4) S5).trans M6;have K6:=Kn.chg hx (pC (by decide)) C6;exact q H6 C6 (Nd.mk ⟨dx,k,al,ah,hx6,K6 _ _ (.inr (.inl ⟨_,rfl⟩)) hl,K6 _ _ (.inr (.inr ⟨_,rfl⟩)) hh⟩ (hK.kn K6))
 cases hb:hs.isEmpty with
 | true=>
  apply qe (b:=false) (SqT.of hh3) (by rw [hb];rfl) ?_;have hk:t.kids=[]:=AaS.mp (by rw [← hK.1,List.isEmpty_iff.mp hb];rfl);apply ⟨x,_,dx,_,rfl,hx3,cl,na _ (by simp),by simp,?_⟩;obtain ⟨H4,e4,hx4,c4⟩:=iW (H:=H3) (x:=x) (C:=aO mg "Node") (dx:=dx) (fs:=[] ++ [(Str.ofString "mark",V.int k)] ++ [(Str.ofString "held_lines",V.ref al)] ++ [(Str.ofString "halves",V.ref ah)]) (f:=Str.ofString "many") (y:=.int 1) (by show (["mark","held_lines","halves"]:List Str).contains "many"=false;trivial);rw [e4];rw [show V.int 1=V.int (t.many:Int) by rw [(yu hk).1];rfl] at hx4;have K4:=Kn.chg hx3 (pC (by show (3:Nat)≠5;decide)) c4;have hh4:=K4 _ _ (.inr (.inr ⟨_,rfl⟩)) hh3;have hK4:=hK3.kn K4;walk_at "s";refine .inr (.inl ⟨ah,rfl,⟨_,SqT.of hh4⟩,?_⟩);refine u9 (xs:=hs) (fun i zs G=>G=H4/\zs=(nI ((t.kids.take i).map fun u=>u.tall+1)).map V.int) (by omega) ⟨rfl,rfl⟩ ?_ ?_ ?_ ?_
  ·rintro i zs G ⟨_,rfl⟩
   rw [bQ];simp;omega
  ·rintro i zs G ⟨rfl,_⟩
   exact SqT.of hh4
  ·rintro i zs G v hv ⟨rfl,rfl⟩
   obtain ⟨y,u,eu,rfl,hN⟩:=hK4.2 i v hv;obtain ⟨gs,⟨dy,k',al',ah',hy,_,_⟩,_⟩:=hN.of;walk_at "s";apply ⟨KeepSt.set rfl,?_⟩;apply ⟨y,_,dy,_,_,rfl,hy,cl,na _ (by simp),rfl,?_⟩;refine ⟨rfl,?_⟩;rw [Aa1,eu,ZR,show ((u.tall:Int)+1)=((u.tall+1:Nat):Int) by omega,uG];rfl
  rintro zs G D H9 ⟨rfl,rfl⟩ nD S9 hD;rw [hK4.1,AaN] at hD;try walk_at "s"
  have hx9:=S9 _ _ hx4;refine ⟨D,_,rfl,hD,fun e=>?_,fun M hM hmx=>?_⟩
  ·have e0:t.kids=[]:=by
    cases hq:t.kids with
    | nil=>rfl
    | cons a b=>rw [hq] at e;cases e
   walk_at "s";refine ⟨x,_,dx,_,rfl,hx9,cl,na _ (by simp),by simp,?_⟩;have:=fin _ c4 hx4 D H9 S9;rw [(yu e0).2] at this;exact this
  ·walk_at "s"
   refine ⟨x,_,dx,_,rfl,hx9,cl,na _ (by simp),by simp,?_⟩;rw [zB hM hmx];exact fin _ c4 hx4 D H9 S9
 | false=>
  apply qe (b:=true) (SqT.of hh3) (by rw [hb];rfl) ?_;refine .inr (.inl ⟨ah,rfl,⟨_,SqT.of hh3⟩,?_⟩);refine u9 (xs:=hs) (fun i zs G=>G=H3/\zs=(nI ((t.kids.take i).map Tr.many)).map V.int) (by omega) ⟨rfl,rfl⟩ ?_ ?_ ?_ ?_
  ·rintro i zs G ⟨_,rfl⟩
   rw [bQ];simp;omega
  ·rintro i zs G ⟨rfl,_⟩
   exact SqT.of hh3
  ·rintro i zs G v hv ⟨rfl,rfl⟩
   obtain ⟨y,u,eu,rfl,hN⟩:=hK3.2 i v hv;obtain ⟨gs,⟨dy,k',al',ah',hy,_,_⟩,_⟩:=hN.of;walk_at "s";apply ⟨KeepSt.set rfl,?_⟩;apply ⟨y,_,dy,_,_,rfl,hy,cl,na _ (by simp),rfl,?_⟩;refine ⟨rfl,?_⟩;rw [Aa1,eu,ZR,uG];rfl
  rintro zs G D H8 ⟨rfl,rfl⟩ nD S8 hD;rw [hK3.1,AaN] at hD;try walk_at "s"
  apply Yx hD ?_;rw [Jq t fun z=>by rw [z] at hK3;rw [AaS.mp hK3.1] at hb;cases hb];have hx8:=S8 _ _ hx3;apply ⟨x,_,dx,_,rfl,hx8,cl,na _ (by simp),by simp,?_⟩;obtain ⟨H4,e4,hx4,M4⟩:=iW (H:=H8) (x:=x) (C:=aO mg "Node") (dx:=dx) (fs:=[] ++ [(Str.ofString "mark",V.int k)] ++ [(Str.ofString "held_lines",V.ref al)] ++ [(Str.ofString "halves",V.ref ah)]) (f:=Str.ofString "many") (y:=.int (t.many:Int)) (by show (["mark","held_lines","halves"]:List Str).contains "many"=false;trivial);rw [e4];have c4:=(Chg.same (Chg.refl x _) S8).trans M4;have K4:=Kn.chg hx3 (pC (by show (3:Nat)≠5;decide)) c4;have hh4:=K4 _ _ (.inr (.inr ⟨_,rfl⟩)) hh3;have hK4:=hK3.kn K4;walk_at "s";refine .inr (.inl ⟨ah,rfl,⟨_,SqT.of hh4⟩,?_⟩);refine u9 (xs:=hs) (fun i zs G=>G=H4/\zs=(nI ((t.kids.take i).map fun u=>u.tall+1)).map V.int) (by omega) ⟨rfl,rfl⟩ ?_ ?_ ?_ ?_
  ·rintro i zs G ⟨_,rfl⟩
   rw [bQ];simp;omega
  ·rintro i zs G ⟨rfl,_⟩
   exact SqT.of hh4
  ·rintro i zs G v hv ⟨rfl,rfl⟩
   obtain ⟨y,u,eu,rfl,hN⟩:=hK4.2 i v hv;obtain ⟨gs,⟨dy,k',al',ah',hy,_,_⟩,_⟩:=hN.of;walk_at "s";apply ⟨KeepSt.set rfl,?_⟩;apply ⟨y,_,dy,_,_,rfl,hy,cl,na _ (by simp),rfl,?_⟩;refine ⟨rfl,?_⟩;rw [Aa1,eu,ZR,show ((u.tall:Int)+1)=((u.tall+1:Nat):Int) by omega,uG];rfl
  rintro zs G D H9 ⟨rfl,rfl⟩ nD S9 hD;rw [hK4.1,AaN] at hD;try walk_at "s"
  have hx9:=S9 _ _ hx4;refine ⟨D,_,rfl,hD,fun e=>?_,fun M hM hmx=>?_⟩
  ·have e0:t.kids=[]:=by
    cases hq:t.kids with
    | nil=>rfl
    | cons a b=>rw [hq] at e;cases e
   walk_at "s";refine ⟨x,_,dx,_,rfl,hx9,cl,na _ (by simp),by simp,?_⟩;have:=fin _ c4 hx4 D H9 S9;rw [(yu e0).2] at this;exact this
  ·walk_at "s"
   refine ⟨x,_,dx,_,rfl,hx9,cl,na _ (by simp),by simp,?_⟩;rw [zB hM hmx];exact fin _ c4 hx4 D H9 S9
theorem made {H1 H2:Hp} {x dx:Addr} {o o':HO} (nx:H1 x=none) (ndx:H1 dx=none) (c:Chg x (upd (upd H1 dx o) x o') H2):Same H1 H2:=fun b u e=>by
 have n1:b≠x:=fun z=>by rw [z,nx] at e;cases e
 have n2:b≠dx:=fun z=>by rw [z,ndx] at e;cases e
 exact c b u n1 (by rw [aC n1,aC n2];exact e)
theorem Y7 {H1:Hp} {x dx g:Addr} {o o' u:HO} (nx:H1 x=none) (ndx:H1 dx=none) (e:H1 g=some u):upd (upd H1 dx o) x o' g=some u/\g≠x:=by
 have n1:g≠x:=fun z=>by rw [z,nx] at e;cases e
 have n2:g≠dx:=fun z=>by rw [z,ndx] at e;cases e
 exact ⟨by rw [aC n1,aC n2];exact e,n1⟩
theorem RL {c:Nat} (h:c∈GOOD):Row ⟨#[c]⟩:=⟨by rw [rC];decide,fun d hd=>by simp at hd;rw [hd];exact h⟩
def cG (side top:Str) (k b:Int) (rest:List (Str×V)):List (Str×V):=("held_side",.str side) :: ("held_top",.str top) :: ("last_mark",.int k) :: ("mark_before",.int b) :: rest
def Jr (rest:List (Str×V)):Prop:=rest=[]\/∃ v,rest=[(("held_root":Str),v)]
def Km (mg:Str->Option Value) (x dx:Addr) (side top:Str) (b:Int) (rest:List (Str×V)) (H:Hp):Prop:=∃ k,H x=some (.ins (aO mg "Kept") dx (cG side top k b rest))
theorem Km.same {x dx:Addr} {side top:Str} {b:Int} {rest:List (Str×V)} {H H':Hp} (h:Km mg x dx side top b rest H) (s:Same H H'):Km mg x dx side top b rest H':=let ⟨k,e⟩:=h;⟨k,s _ _ e⟩
def hoK:HO->Str
 | .ins _ _ ((f,_) :: _)=>f
 | _=>""
theorem cI {C dx:Addr} {side top:Str} {k b:Int} {rest:List (Str×V)}:¬ NO (.ins C dx (cG side top k b rest)):=by
 rintro (⟨_,_,_,_,_,_,_,e⟩ | ⟨_,e⟩ | ⟨_,e⟩)
 ·unfold cG ndF at e
  have:=congrArg hoK e;revert this;show ("held_side":Str)=("mark":Str)->False;exact of_decide_eq_false (by trivial)
 ·cases e
 ·cases e
theorem Km.kn {x dx:Addr} {side top:Str} {b:Int} {rest:List (Str×V)} {H H':Hp} (h:Km mg x dx side top b rest H) (c:Chg x H H'):Kn H H':=let ⟨_,e⟩:=h;Kn.chg e cI c
theorem bz {side top:Str} {k b:Int} {rest:List (Str×V)} {m:Str} (hr:Jr rest) (h:(["held_side","held_top","last_mark","mark_before","held_root"]:List Str).contains m=false):(cG side top k b rest).lookup m=none:=by
 simp only [Abf,AbO] at h;obtain ⟨h1,h2,h3,h4,h5,_⟩:=h;unfold cG;simp only [Aag,h1,h2,h3,h4];rcases hr with rfl | ⟨v,rfl⟩
 ·rfl
 ·simp only [Aag,h5,List.lookup_nil]
theorem GX {side top:Str} {k b z:Int} {rest:List (Str×V)}:cP "last_mark" (.int z) (cG side top k b rest)=cG side top z b rest:=by
 unfold cG;rw [cP,if_neg (by trivial),cP,if_neg (by trivial),cP,if_pos rfl]
theorem Wz {side top:Str} {k b:Int} {rest:List (Str×V)} (hr:Jr rest):(cG side top k b rest).length < 1000:=by
 rcases hr with rfl | ⟨v,rfl⟩
 ·exact (by decide:4 < 1000)
 ·exact (by decide:5 < 1000)
def RM (mg:Str->Option Value):Sp:=fun vs H Q _=>∃ (x dx:Addr) (side top:Str) (b:Int) (rest:List (Str×V)),vs=[.ref x]/\Jr rest/\Km mg x dx side top b rest H/\∀ k H',Chg x H H'->Km mg x dx side top b rest H'->Q (.int k) H'
theorem tO:aD ["self"] ["self"] (az jr):=⟨rfl,rfl,rfl,by trivial,rfl,by trivial,by trivial⟩
theorem cO (T:Txt K mg):HasM P w K mg base 1 "Kept" "fresh_mark" ["self"] (RM mg):=by
 walk_at "@jX 1 T.m_Kept_fresh_mark tO";obtain ⟨x,dx,side,top,b,rest,rfl,hr',⟨k,hx⟩,q⟩:=h;walk_at "=_;!}+:%)5";have cl:=T.o_Kept.cl;have na:=T.n_Kept;apply ⟨x,_,dx,_,_,rfl,hx,cl,na _ (by simp),rfl,?_⟩;apply ⟨k,1,rfl,rfl,dx,_,hx,Wz hr',?_⟩;rw [GX];have hx1:=aj (H:=H) (a:=x) (o:=.ins (aO mg "Kept") dx (cG side top (k+1) b rest));have C1:Chg x H (upd H x (.ins (aO mg "Kept") dx (cG side top (k+1) b rest))):=Chg.put (Chg.refl x H);generalize upd H x (.ins (aO mg "Kept") dx (cG side top (k+1) b rest))=H1 at hx1 C1 ⊢;walk_at "s";apply ⟨x,_,dx,_,_,rfl,hx1,cl,na _ (by simp),rfl,?_⟩;exact q _ H1 C1 ⟨_,hx1⟩
theorem WD {c:Nat} {top:Str} {R:List Int} (ht:top.cps.size<=48) (h:IsEnds (mS ⟨#[c]⟩) (CB ⟨#[c]⟩ top) (mS top) R):R=nI (LN (Tr.lf c).many top.cps.size (eT (Tr.lf c).codes top)):=
 RK (e:=eT [c] top) (by omega) (fun i j hi hj=>by
  have:=Rw (side:=⟨#[c]⟩) (top:=top) (i:=i) (j:=j) hi hj;rw [this];obtain rfl:i=0:=by omega
  rfl) h
def RN (mg:Str->Option Value):Sp:=fun vs H Q _=>∃ (x dx:Addr) (side top:Str) (b:Int) (rest:List (Str×V)) (c:Nat),vs=[.ref x,.str ⟨#[c]⟩]/\Jr rest/\Km mg x dx side top b rest H/\c∈GOOD/\Row top/\
 ∀ y H',Chg x H H'->Km mg x dx side top b rest H'->Nd mg top (.lf c) H' y->Q (.ref y) H'
theorem tQ:aD ["self","sign"] ["self","sign"] (az jt):=⟨rfl,rfl,rfl,by trivial,rfl,by trivial,by trivial⟩
theorem bh (T:Txt K mg):HasM P w K mg base 7 "Kept" "strip_node" ["self","sign"] (RN mg):=by
 have eY:=@eY P w K mg base T;have cO:=@cO P w K mg base T;have nM:=@nM P w K mg base T;have jM:=@jM P w K mg base T;walk_at "@jX 2 T.m_Kept_strip_node tQ";obtain ⟨x,dx,side,top,b,rest,c,rfl,hr',hK,hc,ht,q⟩:=h;walk_at "=_;%)~={T.o_Node}{eY}2&~R:{cO}2&},~={T.o_Board}{jM}2D$5{T.o_Board}{nM}2$}-";obtain ⟨k0,hx⟩:=id hK;have nf:∀ {z:Int},(cG side top z b rest).lookup (Str.ofString "fresh_mark")=none:=bz hr' (by trivial);apply ⟨x,dx,_,rfl,hx,nf,?_⟩;apply ⟨x,dx,side,top,b,rest,rfl,hr',hK,fun k H1 C1 K1=>?_⟩;obtain ⟨k1,hx1⟩:=id K1;apply ⟨x,_,dx,_,_,rfl,hx1,T.o_Kept.cl,T.n_Kept _ (by simp),rfl,?_⟩;rintro xb db nb ndb nxb;refine ⟨xb,db,⟨#[c]⟩,top,rfl,aj,RL hc,ht,fun H2 C2 hB=>⟨rfl,?_⟩⟩;have S2:=made nb ndb C2;walk_at "s";obtain ⟨_,_,dB,ac,am,al,aw,hBx,_⟩:=id hB;apply ⟨xb,dB,_,rfl,hBx,bdM (by trivial),?_⟩;apply ⟨xb,⟨#[c]⟩,top,rfl,hB,fun al R H3 nal S3 hE hal=>?_⟩;rw [WD ht.1 hE] at hal;apply bB rfl fun ah H4 nah S4 hah=>?_
 rintro y dy ny ndy nyd;have S24:=S2.trans (S3.trans S4);have so:Same H4 (upd (upd H4 dy (.own y)) y (.ins (aO mg "Node") dy [])):=fun b o e=>(Y7 ny ndy e).1
 refine ⟨y,dy,al,ah,k,top,.lf c,[],rfl,aj,so _ _ (S4 _ _ hal),so _ _ hah,⟨rfl,fun i v e=>by cases e⟩,fun H5 C5 hN=>⟨rfl,?_⟩⟩;have S5:=made ny ndy C5;exact q y H5 (Chg.same C1 (S24.trans S5)) (K1.same (S24.trans S5)) hN
theorem Y8 {u l:List Nat} {top:Str}:∀ i j,i < u.length->j < top.cps.size->eT u top i j=eT (u ++ l) top i j:=fun i j hi _=>by
 unfold eT;rw [Zv,Zv (l:=u ++ l),Aab hi]
theorem WF {u l:List Nat} {top:Str}:∀ i j,i < l.length->j < top.cps.size->eT l top i j=eT (u ++ l) top (u.length+i) j:=fun i j hi _=>by
 unfold eT;rw [Zv,Zv (l:=u ++ l),gV (by omega),Aa9]
def Oi (mg:Str->Option Value):Sp:=fun vs H Q _=>∃ (x dx:Addr) (side top:Str) (b:Int) (rest:List (Str×V)) (u l:Addr) (tu tl:Tr),vs=[.ref x,.ref u,.ref l]/\Jr rest/\Km mg x dx side top b rest H/\Row top/\Nd mg top tu H u/\Nd mg top tl H l/\tu.many+tl.many<=48/\
 ∀ y H',Chg x H H'->Km mg x dx side top b rest H'->Nd mg top (.nd tu tl) H' y->Q (.ref y) H'
theorem qG:aD ["self","upper","lower","lines"] ["self","upper","lower"] (az m9):=⟨rfl,rfl,rfl,by trivial,rfl,by trivial,by trivial⟩
theorem aK (T:Txt K mg):HasM P w K mg base 9 "Kept" "joined" ["self","upper","lower"] (Oi mg):=by
 have iB:=@iB P w K mg base T;have eY:=@eY P w K mg base T;have cO:=@cO P w K mg base T;walk_at "@jX 3 T.m_Kept_joined qG";obtain ⟨x,dx,side,top,b,rest,u,l,tu,tl,rfl,hr',hK,ht,hu1,hl1,hm,q⟩:=h;walk_at "=qG;!'#3^,{iB}&7*&7($0$5%)~={T.o_Node}{eY}2&~R:{cO}2&-$QD?";have lt:=ht.1;have lt':top.length=top.cps.size:=rfl;have ly:top.length<=sizeLine:=ZG ht.1 (by decide);have nf:∀ {z:Int},(cG side top z b rest).lookup (Str.ofString "fresh_mark")=none:=bz hr' (by trivial);obtain ⟨k0,hx⟩:=id hK;obtain ⟨us,⟨du,ku,au,aut,h1,h2,h3⟩,_⟩:=hu1.of;obtain ⟨ls,⟨dl,kl,al,alt,g1,g2,g3⟩,_⟩:=hl1.of;rw [CQ (Y8 (l:=tl.codes) (top:=top) |> fun h i j hi hj=>h i j (by rw [bK];exact hi) hj)] at h2;rw [CQ (WF (u:=tu.codes) (top:=top) |> fun h i j hi hj=>h i j (by rw [bK];exact hi) hj)] at g2;rw [bK] at g2;apply ⟨u,_,du,_,_,rfl,h1,T.o_Node.cl,T.n_Node _ (by simp),rfl,?_⟩;apply ⟨l,_,dl,_,_,rfl,g1,T.o_Node.cl,T.n_Node _ (by simp),rfl,?_⟩;apply ⟨x,_,dx,_,_,rfl,hx,T.o_Kept.cl,T.n_Kept _ (by simp),rfl,?_⟩;apply bL ly ?_;apply ⟨au,al,tu.many,tl.many,top.cps.size,eT (tu.codes ++ tl.codes) top,rfl,by omega,h2,g2,fun a H1 na S1 ha=>?_⟩;apply ⟨x,dx,_,rfl,S1 _ _ hx,nf,?_⟩;apply ⟨x,dx,side,top,b,rest,rfl,hr',hK.same S1,fun k H2 C2 K2=>?_⟩;apply bB rfl fun ah H3 nah S3 hah=>?_
 rintro y dy ny ndy nyd;have so:Same H3 (upd (upd H3 dy (.own y)) y (.ins (aO mg "Node") dy [])):=fun b o e=>(Y7 ny ndy e).1
 have k3:Kn H H3:=(Kn.same S1).trans (((hK.same S1).kn C2).trans (Kn.same S3));have ha3:=(((hK.same S1).kn C2).trans (Kn.same S3)) _ _ (.inr (.inl ⟨_,rfl⟩)) ha;refine ⟨y,dy,a,ah,k,top,.nd tu tl,[.ref u,.ref l],rfl,aj,so _ _ ha3,so _ _ hah,⟨rfl,fun i v e=>?_⟩,fun H5 C5 hN=>⟨rfl,?_⟩⟩
 ·match i,e with
  | 0,e=>cases e;exact ⟨u,tu,rfl,rfl,hu1.kn (k3.trans (Kn.same so))⟩
  | 1,e=>cases e;exact ⟨l,tl,rfl,rfl,hl1.kn (k3.trans (Kn.same so))⟩
  | i+2,e=>cases e
 have S5:=made ny ndy C5;exact q y H5 (Chg.same ((Chg.same (Chg.refl x _) S1).trans C2) (S3.trans S5)) (K2.same (S3.trans S5)) hN
def Y9 (mg:Str->Option Value):Sp:=fun vs H Q _=>∃ (x dx:Addr) (side top:Str) (b:Int) (rest:List (Str×V)) (ah p n l:Addr) (tp tn tl:Tr),vs=[.ref x,.ref ah,.ref l]/\Jr rest/\Km mg x dx side top b rest H/\Row top/\H ah=some (.tup [.ref p,.ref n])/\Nd mg top tp H p/\Nd mg top tn H n/\Nd mg top tl H l/\tp.many+tn.many+tl.many<=48/\
 ∀ y H',Chg x H H'->Km mg x dx side top b rest H'->Nd mg top (Tv tp tn tl) H' y->Q (.ref y) H'
theorem km:aD ["self","halves","lower","near"] ["self","halves","lower"] (az je):=⟨rfl,rfl,rfl,by trivial,rfl,by trivial,by trivial⟩
theorem ji (T:Txt K mg):HasM P w K mg base 10 "Kept" "evened_down" ["self","halves","lower"] (Y9 mg):=by
 have aK:=@aK P w K mg base T;walk_at "@jX 3 T.m_Kept_evened_down km";obtain ⟨x,dx,side,top,b,rest,ah,p,n,l,tp,tn,tl,rfl,hr',hK,ht,hah,hp,hn,hl,hm,q⟩:=h;walk_at "=km;!'#3^/*!1~*7/*7-%)4{aK}2&/*$4{aK}2&-?%)4{aK}2&4{aK}2&/*$/7-$4{aK}2&/7-?";have nj:∀ {z:Int},(cG side top z b rest).lookup (Str.ofString "joined")=none:=bz hr' (by trivial);obtain ⟨k0,hx⟩:=id hK;obtain ⟨ps,⟨dp,kp,ap,apt,p1,p2,p3⟩,_⟩:=hp.of;obtain ⟨ns,⟨dn,kn,an,ant,n1,n2,n3⟩,hKn⟩:=hn.of;have clN:=T.o_Node.cl;have naN:=T.n_Node;apply ⟨p,_,dp,_,_,rfl,p1,clN,naN _ (by simp),rfl,?_⟩;apply ⟨n,_,dn,_,_,rfl,n1,clN,naN _ (by simp),rfl,?_⟩;by_cases hc:tn.tall<=tp.tall
 ·rw [ZK (show (tn.tall:Int)<=(tp.tall:Int) by omega)]
  walk_at "s";have e1:Tv tp tn tl= .nd tp (.nd tn tl):=if_pos hc;rw [e1] at q;apply ⟨x,dx,_,rfl,hx,nj,?_⟩;apply ⟨x,dx,_,rfl,hx,nj,?_⟩;apply ⟨x,dx,side,top,b,rest,n,l,tn,tl,rfl,hr',hK,ht,hn,hl,by omega,fun y H1 C1 K1 hy=>?_⟩;apply ⟨x,dx,side,top,b,rest,p,y,tp,.nd tn tl,rfl,hr',K1,ht,hp.kn (hK.kn C1),hy,by rw [Tr.many];omega,fun z H2 C2 K2 hz=>?_⟩;exact q z H2 (C1.trans C2) K2 hz
 ·rw [ZD (show ¬ (tn.tall:Int)<=(tp.tall:Int) by omega)]
  walk_at "s"
  match tn,hc,hn,hKn,hm,q with
  | .lf c,hc,_,_,_,_=>exact absurd (AaE _) hc
  | .nd tn1 tn2,hc,hn,_,hm,q=>
   have e1:Tv tp (.nd tn1 tn2) tl= .nd (.nd tp tn1) (.nd tn2 tl):=if_neg hc;rw [e1] at q;rw [Tr.many] at hm;obtain ⟨m1,m2,⟨dn,kn,an,ant,n1,n2,n3⟩,hm1,hm2⟩:=hn;apply ⟨x,dx,_,rfl,hx,nj,?_⟩;apply ⟨x,dx,_,rfl,hx,nj,?_⟩;apply ⟨n,_,dn,_,_,rfl,n1,clN,naN _ (by simp),rfl,?_⟩;apply ⟨x,dx,side,top,b,rest,p,m1,tp,tn1,rfl,hr',hK,ht,hp,hm1,by omega,fun y H1 C1 K1 hy=>?_⟩;have k1:=hK.kn C1;obtain ⟨k0',hx1⟩:=id K1;have n1':=k1 _ _ (.inl ⟨_,_,_,_,_,_,_,rfl⟩) n1;have n3':=k1 _ _ (.inr (.inr ⟨_,rfl⟩)) n3;apply ⟨x,dx,_,rfl,hx1,nj,?_⟩;apply ⟨n,_,dn,_,_,rfl,n1',clN,naN _ (by simp),rfl,?_⟩;apply ⟨x,dx,side,top,b,rest,m2,l,tn2,tl,rfl,hr',K1,ht,hm2.kn k1,hl.kn k1,by omega,fun z H2 C2 K2 hz=>?_⟩;apply ⟨x,dx,side,top,b,rest,y,z,.nd tp tn1,.nd tn2 tl,rfl,hr',K2,ht,hy.kn (K1.kn C2),hz,by rw [Tr.many,Tr.many];omega,fun w' H3 C3 K3 hw=>?_⟩;exact q w' H3 ((C1.trans C2).trans C3) K3 hw
def Za (mg:Str->Option Value):Sp:=fun vs H Q _=>∃ (x dx:Addr) (side top:Str) (b:Int) (rest:List (Str×V)) (ah u n p:Addr) (tu tn tp:Tr),vs=[.ref x,.ref u,.ref ah]/\Jr rest/\Km mg x dx side top b rest H/\Row top/\H ah=some (.tup [.ref n,.ref p])/\Nd mg top tu H u/\Nd mg top tn H n/\Nd mg top tp H p/\tu.many+tn.many+tp.many<=48/\
 ∀ y H',Chg x H H'->Km mg x dx side top b rest H'->Nd mg top (Tw tu tn tp) H' y->Q (.ref y) H'
theorem mY:aD ["self","upper","halves","near"] ["self","upper","halves"] (az jF):=⟨rfl,rfl,rfl,by trivial,rfl,by trivial,by trivial⟩
theorem jN (T:Txt K mg):HasM P w K mg base 10 "Kept" "evened_up" ["self","upper","halves"] (Za mg):=by
 have aK:=@aK P w K mg base T;walk_at "@jX 3 T.m_Kept_evened_up mY";obtain ⟨x,dx,side,top,b,rest,ah,u,n,p,tu,tn,tp,rfl,hr',hK,ht,hah,hu1,hn,hp,hm,q⟩:=h;walk_at "=mY;!'#3^/(!1~*7/(7-%)4{aK}2&4{aK}2DL$/(%)4{aK}2&4{aK}2D$/7-$4{aK}2&/7-$/(";have nj:∀ {z:Int},(cG side top z b rest).lookup (Str.ofString "joined")=none:=bz hr' (by trivial);obtain ⟨k0,hx⟩:=id hK;obtain ⟨ps,⟨dp,kp,ap,apt,p1,p2,p3⟩,_⟩:=hp.of;obtain ⟨ns,⟨dn,kn,an,ant,n1,n2,n3⟩,hKn⟩:=hn.of;have clN:=T.o_Node.cl;have naN:=T.n_Node;apply ⟨p,_,dp,_,_,rfl,p1,clN,naN _ (by simp),rfl,?_⟩;apply ⟨n,_,dn,_,_,rfl,n1,clN,naN _ (by simp),rfl,?_⟩;by_cases hc:tn.tall<=tp.tall
 ·rw [ZK (show (tn.tall:Int)<=(tp.tall:Int) by omega)]
  walk_at "s";have e1:Tw tu tn tp= .nd (.nd tu tn) tp:=if_pos hc;rw [e1] at q;apply ⟨x,dx,_,rfl,hx,nj,?_⟩;apply ⟨x,dx,_,rfl,hx,nj,?_⟩;apply ⟨x,dx,side,top,b,rest,u,n,tu,tn,rfl,hr',hK,ht,hu1,hn,by omega,fun y H1 C1 K1 hy=>?_⟩;have hah1:=hK.kn C1 _ _ (.inr (.inr ⟨_,rfl⟩)) hah;walk_at "s";apply ⟨x,dx,side,top,b,rest,y,p,.nd tu tn,tp,rfl,hr',K1,ht,hy,hp.kn (hK.kn C1),by rw [Tr.many];omega,fun z H2 C2 K2 hz=>?_⟩;exact q z H2 (C1.trans C2) K2 hz
 ·rw [ZD (show ¬ (tn.tall:Int)<=(tp.tall:Int) by omega)]
  walk_at "s"
  match tn,hc,hn,hKn,hm,q with
  | .lf c,hc,_,_,_,_=>exact absurd (AaE _) hc
  | .nd tn1 tn2,hc,hn,_,hm,q=>
   have e1:Tw tu (.nd tn1 tn2) tp= .nd (.nd tu tn1) (.nd tn2 tp):=if_neg hc;rw [e1] at q;rw [Tr.many] at hm;obtain ⟨m1,m2,⟨dn,kn,an,ant,n1,n2,n3⟩,hm1,hm2⟩:=hn;apply ⟨x,dx,_,rfl,hx,nj,?_⟩;apply ⟨x,dx,_,rfl,hx,nj,?_⟩;apply ⟨n,_,dn,_,_,rfl,n1,clN,naN _ (by simp),rfl,?_⟩;apply ⟨x,dx,side,top,b,rest,u,m1,tu,tn1,rfl,hr',hK,ht,hu1,hm1,by omega,fun y H1 C1 K1 hy=>?_⟩;have k1:=hK.kn C1;obtain ⟨k0',hx1⟩:=id K1;have n1':=k1 _ _ (.inl ⟨_,_,_,_,_,_,_,rfl⟩) n1;have n3':=k1 _ _ (.inr (.inr ⟨_,rfl⟩)) n3;have hah1:=k1 _ _ (.inr (.inr ⟨_,rfl⟩)) hah;apply ⟨x,dx,_,rfl,hx1,nj,?_⟩;apply ⟨n,_,dn,_,_,rfl,n1',clN,naN _ (by simp),rfl,?_⟩;apply ⟨x,dx,side,top,b,rest,m2,p,tn2,tp,rfl,hr',K1,ht,hm2.kn k1,hp.kn k1,by omega,fun z H2 C2 K2 hz=>?_⟩;apply ⟨x,dx,side,top,b,rest,y,z,.nd tu tn1,.nd tn2 tp,rfl,hr',K2,ht,hy.kn (K1.kn C2),hz,by rw [Tr.many,Tr.many];omega,fun w' H3 C3 K3 hw=>?_⟩;exact q w' H3 ((C1.trans C2).trans C3) K3 hw
def spEv (mg:Str->Option Value):Sp:=fun vs H Q _=>∃ (x dx:Addr) (side top:Str) (b:Int) (rest:List (Str×V)) (u l:Addr) (tu tl:Tr),vs=[.ref x,.ref u,.ref l]/\Jr rest/\Km mg x dx side top b rest H/\Row top/\Nd mg top tu H u/\Nd mg top tl H l/\tu.many+tl.many<=48/\
 ∀ y H',Chg x H H'->Km mg x dx side top b rest H'->Nd mg top (ev tu tl) H' y->Q (.ref y) H'
theorem yw:aD ["self","upper","lower"] ["self","upper","lower"] (az ni):=⟨rfl,rfl,rfl,by trivial,rfl,by trivial,by trivial⟩
theorem d9 (T:Txt K mg):HasM P w K mg base 11 "Kept" "evened" ["self","upper","lower"] (spEv mg):=by
 have ji:=@ji P w K mg base T;have jN:=@jN P w K mg base T;have aK:=@aK P w K mg base T;walk_at "@jX 3 T.m_Kept_evened yw";obtain ⟨x,dx,side,top,b,rest,u,l,tu,tl,rfl,hr',hK,ht,hu1,hl,hm,q⟩:=h;walk_at "=_;!1s7*I7(%)4{ji}2&7*?!1s7(I7*%)4{jN}2D$7(%)4{aK}2D?";have nj:∀ {z:Int},(cG side top z b rest).lookup (Str.ofString "joined")=none:=bz hr' (by trivial);have nD:∀ {z:Int},(cG side top z b rest).lookup (Str.ofString "evened_down")=none:=bz hr' (by trivial);have nU:∀ {z:Int},(cG side top z b rest).lookup (Str.ofString "evened_up")=none:=bz hr' (by trivial);obtain ⟨k0,hx⟩:=id hK;obtain ⟨us,⟨du,ku,au,aut,u1,u2,u3⟩,_⟩:=hu1.of;obtain ⟨ls,⟨dl,kl,al,alt,l1,l2,l3⟩,_⟩:=hl.of;have clN:=T.o_Node.cl;have naN:=T.n_Node;apply ⟨u,_,du,_,_,rfl,u1,clN,naN _ (by simp),rfl,?_⟩;apply ⟨l,_,dl,_,_,rfl,l1,clN,naN _ (by simp),rfl,?_⟩;by_cases hc:tl.tall+1 < tu.tall
 ·rw [ZK (show (tl.tall:Int)+1 < (tu.tall:Int) by omega)]
  walk_at "s"
  match tu,hc,hu1,hm,q with
  | .lf c,hc,_,_,_=>exact absurd hc (AaV _)
  | .nd ta tb,hc,hu1,hm,q=>
   have e1:ev (.nd ta tb) tl=Tv ta tb tl:=if_pos hc;rw [e1] at q;rw [Tr.many] at hm;obtain ⟨m1,m2,⟨du,ku,au,aut,u1,u2,u3⟩,hm1,hm2⟩:=hu1;apply ⟨x,dx,_,rfl,hx,nD,?_⟩;apply ⟨u,_,du,_,_,rfl,u1,clN,naN _ (by simp),rfl,?_⟩;exact ⟨x,dx,side,top,b,rest,aut,m1,m2,l,ta,tb,tl,rfl,hr',hK,ht,u3,hm1,hm2,hl,by omega,q⟩
 ·rw [ZD (show ¬ (tl.tall:Int)+1 < (tu.tall:Int) by omega)]
  walk_at "s";apply ⟨l,_,dl,_,_,rfl,l1,clN,naN _ (by simp),rfl,?_⟩;apply ⟨u,_,du,_,_,rfl,u1,clN,naN _ (by simp),rfl,?_⟩;by_cases hd:tu.tall+1 < tl.tall
  ·rw [ZK (show (tu.tall:Int)+1 < (tl.tall:Int) by omega)]
   walk_at "s"
   match tl,hc,hd,hl,hm,q with
   | .lf c,_,hd,_,_,_=>exact absurd hd (AaV _)
   | .nd ta tb,hc,hd,hl,hm,q=>
    have e1:ev tu (.nd ta tb)=Tw tu ta tb:=(if_neg hc).trans (if_pos hd);rw [e1] at q;rw [Tr.many] at hm;obtain ⟨m1,m2,⟨dl,kl,al,alt,l1,l2,l3⟩,hm1,hm2⟩:=hl;apply ⟨x,dx,_,rfl,hx,nU,?_⟩;apply ⟨l,_,dl,_,_,rfl,l1,clN,naN _ (by simp),rfl,?_⟩;exact ⟨x,dx,side,top,b,rest,alt,u,m1,m2,tu,ta,tb,rfl,hr',hK,ht,l3,hu1,hm1,hm2,by omega,q⟩
  ·rw [ZD (show ¬ (tu.tall:Int)+1 < (tl.tall:Int) by omega)]
   walk_at "s";have e1:ev tu tl= .nd tu tl:=(if_neg hc).trans (if_neg hd);rw [e1] at q;apply ⟨x,dx,_,rfl,hx,nj,?_⟩;exact ⟨x,dx,side,top,b,rest,u,l,tu,tl,rfl,hr',hK,ht,hu1,hl,hm,q⟩
theorem GZ {z y:Str} (h:Row z) (hl:y.cps.size<=z.cps.size) (hm:∀ c∈y.cps.toList,c∈z.cps.toList):Row y:=⟨ZG hl h.1,fun c hc=>h.2 c (hm c hc)⟩
theorem RP {z:Str} (h:z.cps.size=1):∃ c,z=⟨#[c]⟩/\z.cps.toList=[c]:=by
 obtain ⟨⟨l⟩⟩:=z
 match l,h with
 | [c],_=>exact ⟨c,rfl,rfl⟩
def uP (mg:Str->Option Value) (d:Nat):Sp:=fun vs H Q _=>∃ (x dx:Addr) (side top:Str) (b:Int) (rest:List (Str×V)) (z:Str),vs=[.ref x,.str z]/\Jr rest/\Km mg x dx side top b rest H/\Row top/\Row z/\z.cps.size<=2 ^ d/\(z.cps.size=0->Q .non H)/\
 ∀ y H',0 < z.cps.size->Chg x H H'->Km mg x dx side top b rest H'->Nd mg top (bt d z.cps.toList) H' y->Q (.ref y) H'
def Oj (mg:Str->Option Value):Nat->Sp
 | 0=>fun _ _ _ _=>False
 | d+1=>uP mg d
theorem nO:aD ["self","side","cut"] ["self","side"] (az o8):=⟨rfl,rfl,rfl,by trivial,rfl,by trivial,by trivial⟩
theorem yL (T:Txt K mg):HasM P w K mg base 1 "Kept" "built" ["self","side"] (fun _ _ _ _=>False):=jX (k:=0) T.m_Kept_built nO (fun _ _ _ _ _ _ us hl=>L2.nY (fun _ _=>rfl) us hl) (fun _ _ _ _ h=>h.elim) (fun _ _ _ _ _ _ _ _ _ _ h=>h.elim)
theorem rN (T:Txt K mg) (d:Nat) (dW:HasM P w K mg base (9+d) "Kept" "built" ["self","side"] (Oj mg d)):HasM P w K mg base (9+d+1) "Kept" "built" ["self","side"] (uP mg d):=by
 have bh:=@bh P w K mg base T;have aK:=@aK P w K mg base T;walk_at "@jX 2 T.m_Kept_built nO";obtain ⟨x,dx,side,top,b,rest,z,rfl,hr',hK,ht,hz,hd,q0,q⟩:=h;walk_at "=nO;!1~5T*%~S!1xT08%)4{bh}H8!'#2^}.08%)4{aK}H&4{dW}H$yM*U($4{dW}H$jM*U(";have nj:∀ {z:Int},(cG side top z b rest).lookup (Str.ofString "joined")=none:=bz hr' (by trivial);have nb:∀ {z:Int},(cG side top z b rest).lookup (Str.ofString "built")=none:=bz hr' (by trivial);have ns:∀ {z:Int},(cG side top z b rest).lookup (Str.ofString "strip_node")=none:=bz hr' (by trivial);have lz:z.length<=sizeLine:=ZG hz.1 (by decide);have lz':z.length=z.cps.size:=rfl;have z48:=hz.1;obtain ⟨k0,hx⟩:=id hK;by_cases h0:z.cps.size=0
 ·obtain rfl:z=Str.ofString "":=by
   obtain ⟨⟨l⟩⟩:=z;obtain rfl:l=[]:=AaS.mp h0;rfl
  rw [ZK (rfl:V.str (Str.ofString "")=V.str (Str.ofString ""))];walk_at "s";exact q0 h0
 rw [ZD (show ¬ V.str z=V.str (Str.ofString "") from fun e=>h0 (by rw [V.str.inj e];rfl))];walk_at "s";apply bL lz ?_;by_cases h1:z.cps.size=1
 ·rw [ZK (show V.int (z.length:Int)=V.int 1 by rw [lz',h1];rfl)]
  walk_at "s";obtain ⟨c,rfl,ec⟩:=RP h1;apply ⟨x,dx,_,rfl,hx,ns,?_⟩;refine ⟨x,dx,side,top,b,rest,c,rfl,hr',hK,hz.2 c (by rw [ec];exact Aad.mpr rfl),ht,fun y H1 C1 K1 hN=>q y H1 (by omega) C1 K1 ?_⟩;rw [ec];cases d with
  | zero=>exact hN
  | succ d=>exact hN
 ·rw [ZD (show ¬ V.int (z.length:Int)=V.int 1 from fun e=>by have:=V.int.inj e;omega)]
  obtain ⟨e,rfl⟩:∃ e,d=e+1:=by
   cases d with
   | zero=>rw [Nat.pow_zero] at hd;omega
   | succ e=>exact ⟨e,rfl⟩
  walk_at "s";apply bL lz ?_;rw [show ((z.length:Nat):Int) / 2=((z.length / 2:Nat):Int) by omega];rw [Nat.pow_succ] at hd;walk_at "s";apply ⟨x,dx,_,rfl,hx,nj,?_⟩;apply ⟨x,dx,_,rfl,hx,nb,?_⟩;apply iQ lz ?_;have t1:=xT z (z.length / 2);have t2:=xU z (z.length / 2);have s1:(Txt.slice z none (some ((z.length / 2:Nat):Int))).cps.size=z.length / 2:=by rw [← ZF,t1,ZW,ZF];omega
  have s2:(Txt.slice z (some ((z.length / 2:Nat):Int)) none).cps.size=z.length - z.length / 2:=by rw [← ZF,t2,Aac,ZF];rfl
  apply ⟨x,dx,side,top,b,rest,_,rfl,hr',hK,ht,GZ hz (by omega) (fun c hc=>by rw [t1] at hc;exact Aa8 hc),by omega,fun e=>by omega,fun y H1 _ C1 K1 hy=>?_⟩;obtain ⟨k0',hx1⟩:=id K1;apply ⟨x,dx,_,rfl,hx1,nb,?_⟩;apply iQ lz ?_;apply ⟨x,dx,side,top,b,rest,_,rfl,hr',K1,ht,GZ hz (by omega) (fun c hc=>by rw [t2] at hc;exact AbP hc),by omega,fun e=>by omega,fun y2 H2 _ C2 K2 hy2=>?_⟩
  have bl:∀ {y:Str},0 < y.cps.size->y.cps.size<=2 ^ e->(bt e y.cps.toList).many=y.cps.size:=fun {y} h0 h=>by
   rw [← bK,uO e _ (fun z0=>by have:=congrArg List.length z0;rw [ZF,AaL] at this;omega) (by rw [ZF];exact h),ZF]
  have c1:=bl (y:=Txt.slice z none (some ((z.length / 2:Nat):Int))) (by omega) (by omega);have c2:=bl (y:=Txt.slice z (some ((z.length / 2:Nat):Int)) none) (by omega) (by omega);refine ⟨x,dx,side,top,b,rest,y,y2,_,_,rfl,hr',K2,ht,hy.kn (K1.kn C2),hy2,by omega,fun w' H3 C3 K3 hw=>q w' H3 (by omega) ((C1.trans C2).trans C3) K3 ?_⟩;rw [t1,t2] at hw
  have eb:bt (e+1) z.cps.toList= .nd (bt e (z.cps.toList.take (z.length / 2))) (bt e (z.cps.toList.drop (z.length / 2))):=by
   show (if z.cps.toList.length<=1 then _ else _)=_;rw [if_neg (by rw [ZF];omega),ZF];rfl
  rw [eb];exact hw
theorem Ol (T:Txt K mg):∀ d:Nat,HasM P w K mg base (10+d) "Kept" "built" ["self","side"] (uP mg d):=fun d=>by
 have key:∀ d:Nat,HasM P w K mg base (10 - 1+d+1) "Kept" "built" ["self","side"] (uP mg d):=fun d=>by
  induction d with
  | zero=>exact rN T 0 ((yL T).mono (by decide))
  | succ d ih=>exact rN T (d+1) (ih.mono (by omega))
 exact (key d).mono (by omega)
theorem dW (T:Txt K mg):HasM P w K mg base (10+6) "Kept" "built" ["self","side"] (uP mg 6):=Ol T 6
theorem G8 {c:Nat} {t:Tr} {p:Nat} (h:p<=t.many):(wp c t p).many=t.many+1:=by
 have:=bK t;rw [← bK,uL c t p h,Z8,Aap,ZW,Aac];omega
theorem G9 {c:Nat} {t:Tr} {p:Nat} (h:p < t.many):(wc c t p).many=t.many:=by
 have:=bK t;rw [← bK,uN c t p h,Z8,Aap,ZW,Aac];omega
theorem Ha {t r:Tr} {p:Nat} (h:p < t.many) (e:wo t p=some r):r.many+1=t.many:=by
 have:=bK t;rcases uM t p h with ⟨e1,_⟩ | ⟨r',e1,e2⟩
 ·rw [e] at e1;cases e1
 ·rw [e] at e1;cases e1
  rw [← bK r,e2,Z8,ZW,Aac];omega
def Om (mg:Str->Option Value) (d:Nat):Sp:=fun vs H Q _=>∃ (x dx:Addr) (side top:Str) (b:Int) (rest:List (Str×V)) (n:Addr) (t:Tr) (p c:Nat),vs=[.ref x,.ref n,.int (p:Int),.str ⟨#[c]⟩]/\Jr rest/\Km mg x dx side top b rest H/\Row top/\c∈GOOD/\Nd mg top t H n/\t.tall<=d/\p<=t.many/\t.many < 48/\
 ∀ y H',Chg x H H'->Km mg x dx side top b rest H'->Nd mg top (wp c t p) H' y->Q (.ref y) H'
def Zb (mg:Str->Option Value):Nat->Sp
 | 0=>fun _ _ _ _=>False
 | d+1=>Om mg d
theorem fU:aD ["self","node","place","sign","fresh","upper","lower"] ["self","node","place","sign"] (az j8):=⟨rfl,rfl,rfl,by trivial,rfl,by trivial,by trivial⟩
theorem vI (T:Txt K mg):HasM P w K mg base 1 "Kept" "with_put" ["self","node","place","sign"] (fun _ _ _ _=>False):=jX (k:=0) T.m_Kept_with_put fU (fun _ _ _ _ _ _ us hl=>L2.Bg (fun _ _ _ _=>rfl) us hl) (fun _ _ _ _ h=>h.elim) (fun _ _ _ _ _ _ _ _ _ _ h=>h.elim)
theorem oH (T:Txt K mg) (d:Nat) (eZ:HasM P w K mg base (11+d) "Kept" "with_put" ["self","node","place","sign"] (Zb mg d)):HasM P w K mg base (11+d+1) "Kept" "with_put" ["self","node","place","sign"] (Om mg d):=by
 have bh:=@bh P w K mg base T;have aK:=@aK P w K mg base T;have d9:=@d9 P w K mg base T;walk_at "@jX 4 T.m_Kept_with_put fU";obtain ⟨x,dx,side,top,b,rest,n,t,p,c,rfl,hr',hK,ht,hc,hn,hd,hp,hm,q⟩:=h;walk_at "=fU;!1N~)7*!'#4^4{bh}HL%)~6xT(4{aK}H&+84{aK}HD$+!'#5^/7*!'#6^/7*!1~+(7.%)4{d9}H&4{eZ}H&.&(L$9%)4{d9}H&.$4{eZ}H&9&h(7.L";have nj:∀ {z:Int},(cG side top z b rest).lookup (Str.ofString "joined")=none:=bz hr' (by trivial);have nw:∀ {z:Int},(cG side top z b rest).lookup (Str.ofString "with_put")=none:=bz hr' (by trivial);have ne:∀ {z:Int},(cG side top z b rest).lookup (Str.ofString "evened")=none:=bz hr' (by trivial);have ns:∀ {z:Int},(cG side top z b rest).lookup (Str.ofString "strip_node")=none:=bz hr' (by trivial);have clN:=T.o_Node.cl;have naN:=T.n_Node;obtain ⟨k0,hx⟩:=id hK
 match t,hn,hd,hp,hm,q with
 | .lf e,hn,hd,hp,hm,q=>
  obtain ⟨dn,kn,an,ant,n1,n2,n3⟩:=id hn;apply ⟨n,_,dn,_,_,rfl,n1,clN,naN _ (by simp),rfl,?_⟩;apply qe (b:=false) (SqT.of n3) rfl ?_;apply ⟨x,dx,_,rfl,hx,ns,?_⟩;apply ⟨x,dx,side,top,b,rest,c,rfl,hr',hK,hc,ht,fun y H1 C1 K1 hy=>?_⟩;have hn1:=hn.kn (hK.kn C1);obtain ⟨k0',hx1⟩:=id K1;by_cases h0:p=0
  ·subst h0
   rw [ZK (show V.int ((0:Nat):Int)=V.int 0 from rfl)];walk_at "s";apply ⟨x,dx,_,rfl,hx1,nj,?_⟩;exact ⟨x,dx,side,top,b,rest,y,n,.lf c,.lf e,rfl,hr',K1,ht,hy,hn1,(by show 2<=48;decide),fun y2 H2 C2 K2 h2=>q y2 H2 (C1.trans C2) K2 h2⟩
  ·rw [ZD (show ¬ V.int (p:Int)=V.int 0 from fun z=>h0 (by have:=V.int.inj z;omega))]
   walk_at "s";apply ⟨x,dx,_,rfl,hx1,nj,?_⟩;have e1:wp c (.lf e) p= .nd (.lf e) (.lf c):=if_neg h0;rw [e1] at q;exact ⟨x,dx,side,top,b,rest,n,y,.lf e,.lf c,rfl,hr',K1,ht,hn1,hy,(by show 2<=48;decide),fun y2 H2 C2 K2 h2=>q y2 H2 (C1.trans C2) K2 h2⟩
 | .nd u l,hn,hd,hp,hm,q=>
  rw [Tr.many] at hp hm;rw [Tr.tall] at hd;obtain ⟨e,rfl⟩:∃ e,d=e+1:=⟨d - 1,by omega⟩;obtain ⟨m1,m2,⟨dn,kn,an,ant,n1,n2,n3⟩,hm1,hm2⟩:=id hn;obtain ⟨us,⟨du,ku,au,aut,u1,u2,u3⟩,_⟩:=hm1.of;apply ⟨n,_,dn,_,_,rfl,n1,clN,naN _ (by simp),rfl,?_⟩;apply qe (b:=true) (SqT.of n3) rfl ?_;apply ⟨n,_,dn,_,_,rfl,n1,clN,naN _ (by simp),rfl,?_⟩;apply ⟨n,_,dn,_,_,rfl,n1,clN,naN _ (by simp),rfl,?_⟩;apply ⟨m1,_,du,_,_,rfl,u1,clN,naN _ (by simp),rfl,?_⟩;by_cases hc2:p<=u.many
  ·rw [ZK (show (p:Int)<=(u.many:Int) by omega)]
   walk_at "s";have e1:wp c (.nd u l) p=ev (wp c u p) l:=if_pos hc2;rw [e1] at q;apply ⟨x,dx,_,rfl,hx,ne,?_⟩;apply ⟨x,dx,_,rfl,hx,nw,?_⟩;apply ⟨x,dx,side,top,b,rest,m1,u,p,c,rfl,hr',hK,ht,hc,hm1,by omega,hc2,by omega,fun y H1 C1 K1 hy=>?_⟩;refine ⟨x,dx,side,top,b,rest,y,m2,_,l,rfl,hr',K1,ht,hy,hm2.kn (hK.kn C1),by rw [G8 hc2];omega,fun y2 H2 C2 K2 h2=>q y2 H2 (C1.trans C2) K2 h2⟩
  ·rw [ZD (show ¬ (p:Int)<=(u.many:Int) by omega)]
   walk_at "s";have e1:wp c (.nd u l) p=ev u (wp c l (p - u.many)):=if_neg hc2;rw [e1] at q;apply ⟨x,dx,_,rfl,hx,ne,?_⟩;apply ⟨x,dx,_,rfl,hx,nw,?_⟩;apply ⟨m1,_,du,_,_,rfl,u1,clN,naN _ (by simp),rfl,?_⟩;rw [show (p:Int) - (u.many:Int)=((p - u.many:Nat):Int) by omega];apply ⟨x,dx,side,top,b,rest,m2,l,p - u.many,c,rfl,hr',hK,ht,hc,hm2,by omega,by omega,by omega,fun y H1 C1 K1 hy=>?_⟩;refine ⟨x,dx,side,top,b,rest,m1,y,u,_,rfl,hr',K1,ht,hm1.kn (hK.kn C1),hy,by rw [G8 (by omega)];omega,fun y2 H2 C2 K2 h2=>q y2 H2 (C1.trans C2) K2 h2⟩
theorem WK (T:Txt K mg):∀ d:Nat,HasM P w K mg base (12+d) "Kept" "with_put" ["self","node","place","sign"] (Om mg d):=fun d=>by
 have key:∀ d:Nat,HasM P w K mg base (12 - 1+d+1) "Kept" "with_put" ["self","node","place","sign"] (Om mg d):=fun d=>by
  induction d with
  | zero=>exact oH T 0 ((vI T).mono (by decide))
  | succ d ih=>exact oH T (d+1) (ih.mono (by omega))
 exact (key d).mono (by omega)
theorem eZ (T:Txt K mg):HasM P w K mg base (12+48) "Kept" "with_put" ["self","node","place","sign"] (Om mg 48):=WK T 48
def Oo (mg:Str->Option Value) (d:Nat):Sp:=fun vs H Q _=>∃ (x dx:Addr) (side top:Str) (b:Int) (rest:List (Str×V)) (n:Addr) (t:Tr) (p c:Nat),vs=[.ref x,.ref n,.int (p:Int),.str ⟨#[c]⟩]/\Jr rest/\Km mg x dx side top b rest H/\Row top/\c∈GOOD/\Nd mg top t H n/\t.tall<=d/\p < t.many/\t.many<=48/\
 ∀ y H',Chg x H H'->Km mg x dx side top b rest H'->Nd mg top (wc c t p) H' y->Q (.ref y) H'
def Zc (mg:Str->Option Value):Nat->Sp
 | 0=>fun _ _ _ _=>False
 | d+1=>Oo mg d
theorem fQ:aD ["self","node","place","sign","upper","lower"] ["self","node","place","sign"] (az jf):=⟨rfl,rfl,rfl,by trivial,rfl,by trivial,by trivial⟩
theorem rE (T:Txt K mg):HasM P w K mg base 1 "Kept" "with_change" ["self","node","place","sign"] (fun _ _ _ _=>False):=jX (k:=0) T.m_Kept_with_change fQ (fun _ _ _ _ _ _ us hl=>L2.Bg (fun _ _ _ _=>rfl) us hl) (fun _ _ _ _ h=>h.elim) (fun _ _ _ _ _ _ _ _ _ _ h=>h.elim)
theorem kE (T:Txt K mg) (d:Nat) (cJ:HasM P w K mg base (9+d) "Kept" "with_change" ["self","node","place","sign"] (Zc mg d)):HasM P w K mg base (9+d+1) "Kept" "with_change" ["self","node","place","sign"] (Oo mg d):=by
 have bh:=@bh P w K mg base T;have aK:=@aK P w K mg base T;walk_at "@jX 4 T.m_Kept_with_change fQ";obtain ⟨x,dx,side,top,b,rest,n,t,p,c,rfl,hr',hK,ht,hc,hn,hd,hp,hm,q⟩:=h;walk_at "=fQ;!1N~)7*%)4{bh}HL!'#4^/7*!'#5^/7*!1~1(7+%)4{aK}H&4{cJ}H&+&(L$.%)4{aK}H&+$4{cJ}H&.&h(7+L";have nj:∀ {z:Int},(cG side top z b rest).lookup (Str.ofString "joined")=none:=bz hr' (by trivial);have nw:∀ {z:Int},(cG side top z b rest).lookup (Str.ofString "with_change")=none:=bz hr' (by trivial);have ns:∀ {z:Int},(cG side top z b rest).lookup (Str.ofString "strip_node")=none:=bz hr' (by trivial);have clN:=T.o_Node.cl;have naN:=T.n_Node;obtain ⟨k0,hx⟩:=id hK
 match t,hn,hd,hp,hm,q with
 | .lf e,hn,hd,hp,hm,q=>
  obtain ⟨dn,kn,an,ant,n1,n2,n3⟩:=id hn;apply ⟨n,_,dn,_,_,rfl,n1,clN,naN _ (by simp),rfl,?_⟩;apply qe (b:=false) (SqT.of n3) rfl ?_;apply ⟨x,dx,_,rfl,hx,ns,?_⟩;exact ⟨x,dx,side,top,b,rest,c,rfl,hr',hK,hc,ht,q⟩
 | .nd u l,hn,hd,hp,hm,q=>
  rw [Tr.many] at hp hm;rw [Tr.tall] at hd;obtain ⟨e,rfl⟩:∃ e,d=e+1:=⟨d - 1,by omega⟩;obtain ⟨m1,m2,⟨dn,kn,an,ant,n1,n2,n3⟩,hm1,hm2⟩:=id hn;obtain ⟨us,⟨du,ku,au,aut,u1,u2,u3⟩,_⟩:=hm1.of;apply ⟨n,_,dn,_,_,rfl,n1,clN,naN _ (by simp),rfl,?_⟩;apply qe (b:=true) (SqT.of n3) rfl ?_;apply ⟨n,_,dn,_,_,rfl,n1,clN,naN _ (by simp),rfl,?_⟩;apply ⟨n,_,dn,_,_,rfl,n1,clN,naN _ (by simp),rfl,?_⟩;apply ⟨m1,_,du,_,_,rfl,u1,clN,naN _ (by simp),rfl,?_⟩;by_cases hc2:p < u.many
  ·rw [ZK (show (p:Int) < (u.many:Int) by omega)]
   walk_at "s";have e1:wc c (.nd u l) p= .nd (wc c u p) l:=if_pos hc2;rw [e1] at q;apply ⟨x,dx,_,rfl,hx,nj,?_⟩;apply ⟨x,dx,_,rfl,hx,nw,?_⟩;apply ⟨x,dx,side,top,b,rest,m1,u,p,c,rfl,hr',hK,ht,hc,hm1,by omega,hc2,by omega,fun y H1 C1 K1 hy=>?_⟩;refine ⟨x,dx,side,top,b,rest,y,m2,_,l,rfl,hr',K1,ht,hy,hm2.kn (hK.kn C1),by rw [G9 hc2];omega,fun y2 H2 C2 K2 h2=>q y2 H2 (C1.trans C2) K2 h2⟩
  ·rw [ZD (show ¬ (p:Int) < (u.many:Int) by omega)]
   walk_at "s";have e1:wc c (.nd u l) p= .nd u (wc c l (p - u.many)):=if_neg hc2;rw [e1] at q;apply ⟨x,dx,_,rfl,hx,nj,?_⟩;apply ⟨x,dx,_,rfl,hx,nw,?_⟩;apply ⟨m1,_,du,_,_,rfl,u1,clN,naN _ (by simp),rfl,?_⟩;rw [show (p:Int) - (u.many:Int)=((p - u.many:Nat):Int) by omega];apply ⟨x,dx,side,top,b,rest,m2,l,p - u.many,c,rfl,hr',hK,ht,hc,hm2,by omega,by omega,by omega,fun y H1 C1 K1 hy=>?_⟩;refine ⟨x,dx,side,top,b,rest,m1,y,u,_,rfl,hr',K1,ht,hm1.kn (hK.kn C1),hy,by rw [G9 (by omega)];omega,fun y2 H2 C2 K2 h2=>q y2 H2 (C1.trans C2) K2 h2⟩
theorem Js (T:Txt K mg):∀ d:Nat,HasM P w K mg base (10+d) "Kept" "with_change" ["self","node","place","sign"] (Oo mg d):=fun d=>by
 have key:∀ d:Nat,HasM P w K mg base (10 - 1+d+1) "Kept" "with_change" ["self","node","place","sign"] (Oo mg d):=fun d=>by
  induction d with
  | zero=>exact kE T 0 ((rE T).mono (by decide))
  | succ d ih=>exact kE T (d+1) (ih.mono (by omega))
 exact (key d).mono (by omega)
theorem cJ (T:Txt K mg):HasM P w K mg base (10+48) "Kept" "with_change" ["self","node","place","sign"] (Oo mg 48):=Js T 48
def NdO' (mg:Str->Option Value) (top:Str) (H:Hp) (v:V):Option Tr->Prop
 | none=>v= .non
 | some t=>∃ y,v= .ref y/\Nd mg top t H y
def Oq (mg:Str->Option Value) (d:Nat):Sp:=fun vs H Q _=>∃ (x dx:Addr) (side top:Str) (b:Int) (rest:List (Str×V)) (n:Addr) (t:Tr) (p:Nat),vs=[.ref x,.ref n,.int (p:Int)]/\Jr rest/\Km mg x dx side top b rest H/\Row top/\Nd mg top t H n/\t.tall<=d/\p < t.many/\t.many<=48/\
 ∀ v H',Chg x H H'->Km mg x dx side top b rest H'->NdO' mg top H' v (wo t p)->Q v H'
def Zd (mg:Str->Option Value):Nat->Sp
 | 0=>fun _ _ _ _=>False
 | d+1=>Oq mg d
theorem fc:aD ["self","node","place","upper","lower","rest"] ["self","node","place"] (az mj):=⟨rfl,rfl,rfl,by trivial,rfl,by trivial,by trivial⟩
theorem ww (T:Txt K mg):HasM P w K mg base 1 "Kept" "without" ["self","node","place"] (fun _ _ _ _=>False):=jX (k:=0) T.m_Kept_without fc (fun _ _ _ _ _ _ us hl=>L2.mF (fun _ _ _=>rfl) us hl) (fun _ _ _ _ h=>h.elim) (fun _ _ _ _ _ _ _ _ _ _ h=>h.elim)
theorem pQ (T:Txt K mg) (d:Nat) (fV:HasM P w K mg base (11+d) "Kept" "without" ["self","node","place"] (Zd mg d)):HasM P w K mg base (11+d+1) "Kept" "without" ["self","node","place"] (Oq mg d):=by
 have d9:=@d9 P w K mg base T;walk_at "@jX 3 T.m_Kept_without fc";obtain ⟨x,dx,side,top,b,rest,n,t,p,rfl,hr',hK,ht,hn,hd,hp,hm,q⟩:=h;walk_at "=fc;!1N~)7*%~S!'#3^/7*!'#4^/7*!1~1(7-!'#5^4{fV}H&-?%)~6~7.+4{d9}H&.$+!'#5^4{fV}H&+$h(7-%)~6~7.-4{d9}H&-$.";have nw:∀ {z:Int},(cG side top z b rest).lookup (Str.ofString "without")=none:=bz hr' (by trivial);have ne:∀ {z:Int},(cG side top z b rest).lookup (Str.ofString "evened")=none:=bz hr' (by trivial);have clN:=T.o_Node.cl;have naN:=T.n_Node;obtain ⟨k0,hx⟩:=id hK
 match t,hn,hd,hp,hm,q with
 | .lf e,hn,hd,hp,hm,q=>
  obtain ⟨dn,kn,an,ant,n1,n2,n3⟩:=id hn;apply ⟨n,_,dn,_,_,rfl,n1,clN,naN _ (by simp),rfl,?_⟩;apply qe (b:=false) (SqT.of n3) rfl ?_;exact q .non H (Chg.refl x H) hK rfl
 | .nd u l,hn,hd,hp,hm,q=>
  rw [Tr.many] at hp hm;rw [Tr.tall] at hd;obtain ⟨e,rfl⟩:∃ e,d=e+1:=⟨d - 1,by omega⟩;obtain ⟨m1,m2,⟨dn,kn,an,ant,n1,n2,n3⟩,hm1,hm2⟩:=id hn;obtain ⟨us,⟨du,ku,au,aut,u1,u2,u3⟩,_⟩:=hm1.of;apply ⟨n,_,dn,_,_,rfl,n1,clN,naN _ (by simp),rfl,?_⟩;apply qe (b:=true) (SqT.of n3) rfl ?_;apply ⟨n,_,dn,_,_,rfl,n1,clN,naN _ (by simp),rfl,?_⟩;apply ⟨n,_,dn,_,_,rfl,n1,clN,naN _ (by simp),rfl,?_⟩;apply ⟨m1,_,du,_,_,rfl,u1,clN,naN _ (by simp),rfl,?_⟩;by_cases hc2:p < u.many
  ·rw [ZK (show (p:Int) < (u.many:Int) by omega)]
   walk_at "s";have e1:wo (.nd u l) p=(match wo u p with | none=>some l | some r=>some (ev r l)):=if_pos hc2;rw [e1] at q;apply ⟨x,dx,_,rfl,hx,nw,?_⟩;apply ⟨x,dx,side,top,b,rest,m1,u,p,rfl,hr',hK,ht,hm1,by omega,hc2,by omega,fun v H1 C1 K1 hv=>?_⟩;cases ew:wo u p with
   | none=>
    rw [ew] at q hv;obtain rfl:v= .non:=hv;try walk_at "s"
    rw [ZK (rfl:V.non=V.non)];walk_at "s";exact q _ H1 C1 K1 ⟨m2,rfl,hm2.kn (hK.kn C1)⟩
   | some r=>
    rw [ew] at q hv;obtain ⟨y,rfl,hy⟩:=hv;obtain ⟨k0',hx1⟩:=id K1;try walk_at "s"
    rw [ZD (show ¬ V.ref y=V.non from fun z=>by cases z)];walk_at "s";apply ⟨x,dx,_,rfl,hx1,ne,?_⟩;have:=Ha hc2 ew;exact ⟨x,dx,side,top,b,rest,y,m2,r,l,rfl,hr',K1,ht,hy,hm2.kn (hK.kn C1),by omega,fun y2 H2 C2 K2 h2=>q _ H2 (C1.trans C2) K2 ⟨y2,rfl,h2⟩⟩
  ·rw [ZD (show ¬ (p:Int) < (u.many:Int) by omega)]
   walk_at "s";have e1:wo (.nd u l) p=(match wo l (p - u.many) with | none=>some u | some r=>some (ev u r)):=if_neg hc2;rw [e1] at q;apply ⟨x,dx,_,rfl,hx,nw,?_⟩;apply ⟨m1,_,du,_,_,rfl,u1,clN,naN _ (by simp),rfl,?_⟩;rw [show (p:Int) - (u.many:Int)=((p - u.many:Nat):Int) by omega];apply ⟨x,dx,side,top,b,rest,m2,l,p - u.many,rfl,hr',hK,ht,hm2,by omega,by omega,by omega,fun v H1 C1 K1 hv=>?_⟩;cases ew:wo l (p - u.many) with
   | none=>
    rw [ew] at q hv;obtain rfl:v= .non:=hv;try walk_at "s"
    rw [ZK (rfl:V.non=V.non)];walk_at "s";exact q _ H1 C1 K1 ⟨m1,rfl,hm1.kn (hK.kn C1)⟩
   | some r=>
    rw [ew] at q hv;obtain ⟨y,rfl,hy⟩:=hv;obtain ⟨k0',hx1⟩:=id K1;try walk_at "s"
    rw [ZD (show ¬ V.ref y=V.non from fun z=>by cases z)];walk_at "s";apply ⟨x,dx,_,rfl,hx1,ne,?_⟩;have:=Ha (by omega) ew;exact ⟨x,dx,side,top,b,rest,m1,y,u,r,rfl,hr',K1,ht,hm1.kn (hK.kn C1),hy,by omega,fun y2 H2 C2 K2 h2=>q _ H2 (C1.trans C2) K2 ⟨y2,rfl,h2⟩⟩
theorem Ft (T:Txt K mg):∀ d:Nat,HasM P w K mg base (12+d) "Kept" "without" ["self","node","place"] (Oq mg d):=fun d=>by
 have key:∀ d:Nat,HasM P w K mg base (12 - 1+d+1) "Kept" "without" ["self","node","place"] (Oq mg d):=fun d=>by
  induction d with
  | zero=>exact pQ T 0 ((ww T).mono (by decide))
  | succ d ih=>exact pQ T (d+1) (ih.mono (by omega))
 exact (key d).mono (by omega)
theorem fV (T:Txt K mg):HasM P w K mg base (12+48) "Kept" "without" ["self","node","place"] (Oq mg 48):=Ft T 48
def RootV (mg:Str->Option Value) (top:Str) (cs:List Nat) (v:V) (H:Hp):Prop:=(cs=[]/\v= .non)\/∃ y t,v= .ref y/\t.codes=cs/\Nd mg top t H y
theorem RootV.kn {top:Str} {cs:List Nat} {v:V} {H H':Hp} (h:RootV mg top cs v H) (k:Kn H H'):RootV mg top cs v H':=by
 rcases h with h | ⟨y,t,e,ec,hn⟩
 ·exact .inl h
 ·exact .inr ⟨y,t,e,ec,hn.kn k⟩
abbrev jy (v:V):List (Str×V):=[(("held_root":Str),v)]
theorem Bb (v:V):Jr (jy v):=.inr ⟨v,rfl⟩
def Kp (mg:Str->Option Value) (H:Hp) (x:Addr) (side top:Str):Prop:=Row side/\Row top/\∃ dx b v,Km mg x dx side top b (jy v) H/\RootV mg top side.cps.toList v H
theorem oJ {side top:Str} {k b z:Int} {rest:List (Str×V)}:cP "mark_before" (.int z) (cG side top k b rest)=cG side top k z rest:=by
 unfold cG;rw [cP,if_neg (by trivial),cP,if_neg (by trivial),cP,if_neg (by trivial),cP,if_pos rfl]
theorem pG {side top:Str} {k b:Int} {v v':V}:cP "held_root" v' (cG side top k b (jy v))=cG side top k b (jy v'):=by
 unfold cG jy;rw [cP,if_neg (by trivial),cP,if_neg (by trivial),cP,if_neg (by trivial),cP,if_neg (by trivial),cP,if_pos rfl]
theorem CT {side top:Str} {k b:Int} {v':V}:cP "held_root" v' (cG side top k b [])=cG side top k b (jy v'):=by
 unfold cG jy;rw [cP,if_neg (by trivial),cP,if_neg (by trivial),cP,if_neg (by trivial),cP,if_neg (by trivial),cP]
theorem uQ {side side' top:Str} {k b:Int} {rest:List (Str×V)}:cP "held_side" (.str side') (cG side top k b rest)=cG side' top k b rest:=by
 unfold cG;rw [cP,if_pos rfl]
theorem Ot {side top top':Str} {k b:Int} {rest:List (Str×V)}:cP "held_top" (.str top') (cG side top k b rest)=cG side top' k b rest:=by
 unfold cG;rw [cP,if_neg (by trivial),cP,if_pos rfl]
theorem Chg.upd {x:Addr} {H:Hp} {o:HO}:Chg x H (upd H x o):=Chg.put (Chg.refl x H)
theorem Hb {top:Str} {z:Str} {H:Hp} {y:Addr} (hz:z.cps.size<=48) (h0:0 < z.cps.size) (h:Nd mg top (bt 6 z.cps.toList) H y):RootV mg top z.cps.toList (.ref y) H:=
 .inr ⟨y,_,rfl,uO 6 _ (fun e=>by have:=congrArg List.length e;rw [ZF,AaL] at this;omega) (by rw [ZF];omega),h⟩
theorem nil_of {z:Str} (h:z.cps.size=0):z.cps.toList=[]:=AaS.mp (by rw [ZF];exact h)
def RQ (mg:Str->Option Value):Sp:=fun vs H Q _=>∃ (x dx:Addr) (side top:Str),vs=[.ref x,.str side,.str top]/\H x=some (.ins (aO mg "Kept") dx [])/\Row side/\Row top/\∀ H',Chg x H H'->Kp mg H' x side top->Q .non H'
theorem vJ:aD ["self","side","top"] ["self","side","top"] (az j7):=⟨rfl,rfl,rfl,by trivial,rfl,by trivial,by trivial⟩
theorem cV (T:Txt K mg):HasM P w K mg base 17 "Kept" "__init__" ["self","side","top"] (RQ mg):=by
 have jl:=@jl P w K mg base T;have dW:=@dW P w K mg base T;walk_at "@jX 3 T.m_Kept___init__ vJ";obtain ⟨x,dx,side,top,rfl,hx,hs,ht,q⟩:=h;walk_at "=_;!6,{jl}D?!E*!E(!E~T!E~T%E4{dW}28";refine ⟨side,top,rfl,hs,ht,fun H1 S1=>?_⟩;have cl:=T.o_Kept.cl;have na:=T.n_Kept;have hx1:=S1 _ _ hx;have C1:Chg x H H1:=fun b o _ e=>S1 _ _ e
 walk_at "s";apply ⟨x,_,dx,_,rfl,hx1,cl,na _ (by simp),by simp,?_⟩;obtain ⟨H2,e2,hx2,M2⟩:=iW (H:=H1) (x:=x) (C:=aO mg "Kept") (dx:=dx) (fs:=[]) (f:="held_side") (y:=.str side) rfl;rw [e2];walk_at "s";apply ⟨x,_,dx,_,rfl,hx2,cl,na _ (by simp),by simp,?_⟩;obtain ⟨H3,e3,hx3,M3⟩:=iW (H:=H2) (x:=x) (C:=aO mg "Kept") (dx:=dx) (fs:=[] ++ [(Str.ofString "held_side",V.str side)]) (f:="held_top") (y:=.str top) (by show (["held_side"]:List Str).contains "held_top"=false;trivial);rw [e3];walk_at "s";apply ⟨x,_,dx,_,rfl,hx3,cl,na _ (by simp),by simp,?_⟩;obtain ⟨H4,e4,hx4,M4⟩:=iW (H:=H3) (x:=x) (C:=aO mg "Kept") (dx:=dx) (fs:=[] ++ [(Str.ofString "held_side",V.str side)] ++ [(Str.ofString "held_top",V.str top)]) (f:="last_mark") (y:=.int 0) (by show (["held_side","held_top"]:List Str).contains "last_mark"=false;trivial);rw [e4];walk_at "s";apply ⟨x,_,dx,_,rfl,hx4,cl,na _ (by simp),by simp,?_⟩;obtain ⟨H5,e5,hx5,M5⟩:=iW (H:=H4) (x:=x) (C:=aO mg "Kept") (dx:=dx) (fs:=[] ++ [(Str.ofString "held_side",V.str side)] ++ [(Str.ofString "held_top",V.str top)] ++ [(Str.ofString "last_mark",V.int 0)]) (f:="mark_before") (y:=.int 0) (by show (["held_side","held_top","last_mark"]:List Str).contains "mark_before"=false;trivial);rw [e5];have C5:=(((C1.trans M2).trans M3).trans M4).trans M5;clear e2 e3 e4 e5 hx2 hx3 hx4 M2 M3 M4 M5 C1;replace hx5:H5 x=some (.ins (aO mg "Kept") dx (cG side top 0 0 [])):=hx5;walk_at "s";have nb:(cG side top 0 0 []).lookup (Str.ofString "built")=none:=bz (.inl rfl) (by trivial);apply ⟨x,dx,_,rfl,hx5,nb,?_⟩;refine ⟨x,dx,side,top,0,[],side,rfl,.inl rfl,⟨0,hx5⟩,ht,hs,ZG hs.1 (by decide),fun h0=>?_,fun y H6 h0 C6 K6 hN=>?_⟩
 ·walk_at "s"
  apply ⟨x,_,dx,_,rfl,hx5,cl,na _ (by simp),by simp [cG],?_⟩;rw [CT];exact q _ (C5.trans Chg.upd) ⟨hs,ht,dx,0,.non,⟨0,aj⟩,.inl ⟨nil_of h0,rfl⟩⟩
 ·obtain ⟨k6,hx6⟩:=id K6
  walk_at "s";apply ⟨x,_,dx,_,rfl,hx6,cl,na _ (by simp),by simp [cG],?_⟩;rw [CT];exact q _ ((C5.trans C6).trans Chg.upd) ⟨hs,ht,dx,0,.ref y,⟨k6,aj⟩,Hb hs.1 h0 (hN.kn (Kn.chg hx6 cI Chg.upd))⟩
def RV (mg:Str->Option Value):Sp:=fun vs H Q _=>∃ (x:Addr) (side top top':Str),vs=[.ref x,.str top']/\Kp mg H x side top/\Row top'/\∀ H',Chg x H H'->Kp mg H' x side top'->Q .non H'
theorem yM:aD ["self","top"] ["self","top"] (az o9):=⟨rfl,rfl,rfl,by trivial,rfl,by trivial,by trivial⟩
theorem pH (T:Txt K mg):HasM P w K mg base 17 "Kept" "retop" ["self","top"] (RV mg):=by
 have jh:=@jh P w K mg base T;have dW:=@dW P w K mg base T;walk_at "@jX 2 T.m_Kept_retop yM";obtain ⟨x,side,top,top',rfl,⟨hs,ht,dx,b,v,⟨k,hx⟩,hR⟩,ht',q⟩:=h;walk_at "=_;!6,{jh}8!E5!E*%E4{dW}2$5";have cl:=T.o_Kept.cl;have na:=T.n_Kept;apply ⟨top',rfl,ht',fun H1 S1=>?_⟩;have hx1:=S1 _ _ hx;apply ⟨x,_,dx,_,_,rfl,hx1,cl,na _ (by simp),rfl,?_⟩;apply ⟨x,_,dx,_,rfl,hx1,cl,na _ (by simp),by simp [cG],?_⟩;rw [oJ];have hx2:=aj (H:=H1) (a:=x) (o:=.ins (aO mg "Kept") dx (cG side top k k (jy v)));have C2:Chg x H1 (upd H1 x (.ins (aO mg "Kept") dx (cG side top k k (jy v)))):=Chg.upd;generalize upd H1 x (.ins (aO mg "Kept") dx (cG side top k k (jy v)))=H2 at hx2 C2 ⊢;walk_at "s";apply ⟨x,_,dx,_,rfl,hx2,cl,na _ (by simp),by simp [cG],?_⟩;rw [Ot];have hx3:=aj (H:=H2) (a:=x) (o:=.ins (aO mg "Kept") dx (cG side top' k k (jy v)));have C3:Chg x H2 (upd H2 x (.ins (aO mg "Kept") dx (cG side top' k k (jy v)))):=Chg.upd;generalize upd H2 x (.ins (aO mg "Kept") dx (cG side top' k k (jy v)))=H3 at hx3 C3 ⊢;have U:=Chg.same (Chg.refl x H) S1 |>.trans (C2.trans C3);clear C2 C3;walk_at "s";have nb:(cG side top' k k (jy v)).lookup (Str.ofString "built")=none:=bz (Bb v) (by trivial);apply ⟨x,dx,_,rfl,hx3,nb,?_⟩;apply ⟨x,_,dx,_,_,rfl,hx3,cl,na _ (by simp),rfl,?_⟩;refine ⟨x,dx,side,top',k,jy v,side,rfl,Bb v,⟨k,hx3⟩,ht',hs,ZG hs.1 (by decide),fun h0=>?_,fun y H6 h0 C6 K6 hN=>?_⟩
 ·walk_at "s"
  apply ⟨x,_,dx,_,rfl,hx3,cl,na _ (by simp),by simp [cG],?_⟩;rw [pG];exact q _ (U.trans Chg.upd) ⟨hs,ht',dx,k,.non,⟨k,aj⟩,.inl ⟨nil_of h0,rfl⟩⟩
 ·obtain ⟨k6,hx6⟩:=id K6
  walk_at "s";apply ⟨x,_,dx,_,rfl,hx6,cl,na _ (by simp),by simp [cG],?_⟩;rw [pG];exact q _ ((U.trans C6).trans Chg.upd) ⟨hs,ht',dx,k,.ref y,⟨k6,aj⟩,Hb hs.1 h0 (hN.kn (Kn.chg hx6 cI Chg.upd))⟩
theorem wy:Zt oG "self":=by trivial
theorem vK:Zt oG "found":=by trivial
def XT (mg:Str->Option Value) (C:Str) (n:Int) (H:Hp) (E:XK):Prop:=∀ e H',Same H H'->VR H' e (aO mg C) [("found",.int n)]->E (.ref (aO mg C)) (some e) H'
def wz (side:Str) (p:Nat) (mid:Str):Str:=Txt.slice side none (some (p:Int)) ++ mid ++ Txt.slice side (some (p:Int)) none
def j9 (side:Str) (p:Nat) (mid:Str):Str:=Txt.slice side none (some (p:Int)) ++ mid ++ Txt.slice side (some (p+1:Int)) none
theorem wR (a b:Str):(a ++ b).cps.toList=a.cps.toList ++ b.cps.toList:=by show (a.cps ++ b.cps).toList=_;simp
theorem my (side:Str) (p:Nat) (c:Nat):(wz side p ⟨#[c]⟩).cps.toList=side.cps.toList.take p ++ c :: side.cps.toList.drop p:=by
 unfold wz;rw [wR,wR,xT,xU];simp
theorem jw (side:Str) (p:Nat) (mid:Str):(j9 side p mid).cps.toList=side.cps.toList.take p ++ (mid.cps.toList ++ side.cps.toList.drop (p+1)):=by
 unfold j9;rw [wR,wR,xT,BW (k:=p+1) _ (by omega)];simp
theorem CV {z:Str} (h:z.cps.toList.length<=48) (g:∀ c∈z.cps.toList,c∈GOOD):Row z:=⟨by show z.cps.size<=48;rw [← ZF];exact h,g⟩
theorem yx {side:Str} {p c:Nat} (hs:Row side) (h:side.cps.size < 48) (hp:p<=side.cps.size) (hc:c∈GOOD):Row (wz side p ⟨#[c]⟩):=by
 have hl:side.cps.toList.length=side.cps.size:=ZF;refine CV (by rw [my,Z8,Aap,ZW,Aac];omega) fun d hd=>?_
 rw [my] at hd;rcases Aaw.mp hd with h1 | h1
 ·exact hs.2 d (Aa8 h1)
 ·rcases ZQ.mp h1 with rfl | h2
  ·exact hc
  ·exact hs.2 d (AbP h2)
theorem uR {side mid:Str} {p:Nat} (hs:Row side) (hp:p < side.cps.size) (hm:mid.cps.size<=1) (hc:∀ c∈mid.cps.toList,c∈GOOD):Row (j9 side p mid):=by
 have hl:side.cps.toList.length=side.cps.size:=ZF;have hl2:mid.cps.toList.length=mid.cps.size:=ZF;have:=hs.1;have e:side.length=side.cps.size:=rfl;refine CV (by rw [jw,Z8,Z8,ZW,Aac];omega) fun d hd=>?_
 rw [jw] at hd;rcases Aaw.mp hd with h1 | h1
 ·exact hs.2 d (Aa8 h1)
 ·rcases Aaw.mp h1 with h2 | h2
  ·exact hc d h2
  ·exact hs.2 d (AbP h2)
theorem rB {top:Str} {side:Str} {H:Hp} {y:Addr} {t:Tr} (h:t.codes=side.cps.toList) (hn:Nd mg top t H y):t.many=side.cps.size:=by rw [← bK,h,ZF]
theorem uT (a b:Str):(a ++ b).length=a.length+b.length:=by show (a.cps ++ b.cps).size=_;simp;rfl
theorem fZ (z:Str) (lo hi:Option Int):(Txt.slice z lo hi).length<=z.length:=by
 have e:(Txt.slice z lo hi).cps.toList.length=(Txt.slice z lo hi).length:=ZF;have e2:z.cps.toList.length=z.length:=ZF;rw [← e,qP,ZW,Aac,e2];omega
theorem CW:aD ["self","found"] ["self","found"] (az oG):=⟨rfl,rfl,rfl,by trivial,rfl,by trivial,by trivial⟩
theorem Fv (T:Txt K mg):Xe P w K mg base 1 "TooLong" (aO mg "TooLong") ["found"]:=mkX T.x_TooLong CW (fun _ _ _ _ _ _ us hl=>L2.nY (fun _ _=>rfl) us hl) rfl fun f cdv A outer s H vs Q E hr h=>⟨_,(aA (Gs (K:=K) rfl (Lk 0 wy) (Lk 1 vK))),rd1 T.x_TooLong.c.cl.cls (T.x_TooLong.na _ (by simp)) h⟩
def WL (mg:Str->Option Value):Sp:=fun vs H Q E=>∃ (x:Addr) (side top:Str) (p c:Nat),vs=[.ref x,.int (p:Int),.str ⟨#[c]⟩]/\Kp mg H x side top/\p<=side.cps.size/\c∈GOOD/\(side.cps.size=48->XT mg "TooLong" 49 H E)/\
 (side.cps.size < 48->∀ H',Chg x H H'->Kp mg H' x (wz side p ⟨#[c]⟩) top->Q .non H')
theorem CZ:aD ["self","place","sign"] ["self","place","sign"] (az tE):=⟨rfl,rfl,rfl,by trivial,rfl,by trivial,by trivial⟩
theorem tU (T:Txt K mg):HasM P w K mg base 61 "Kept" "put" ["self","place","sign"] (WL mg):=by
 have bR:=@bR P w K mg base T;have jm:=@jm P w K mg base T;have bh:=@bh P w K mg base T;have eZ:=@eZ P w K mg base T;walk_at "@jX 3 T.m_Kept_put CZ";obtain ⟨x,side,top,p,c,rfl,⟨hs,ht,dx,b,v,⟨k,hx⟩,hR⟩,hp,hc,q0,q⟩:=h;walk_at "=_;!6~?{bR}2DA$0$5!6,{jm}?!1~*0$5~0{T.c_MOST_SIGNS}%~E~F{Fv}{T}2$I0$5!E5!~3~75%E4{bh}2?%E4{eZ}2&5D?%E==yM5U*(jM5U*";have cl:=T.o_Kept.cl;have na:=T.n_Kept;have lz:side.length<=sizeLine:=ZG hs.1 (by decide);have l48:=hs.1;have hz:20000<=sizeLine:=by decide
 have le:side.length=side.cps.size:=rfl;apply ⟨x,_,dx,_,_,rfl,hx,cl,na _ (by simp),rfl,?_⟩;apply bL lz ?_;apply Ck (by omega) (by omega) ?_;apply ⟨c,rfl,hc,?_⟩;apply ⟨x,_,dx,_,_,rfl,hx,cl,na _ (by simp),rfl,?_⟩;apply bL lz ?_;by_cases hf:side.cps.size=48
 ·rw [ZK (show (48:Int)<=(side.length:Int) by omega)]
  walk_at "s";apply ⟨x,_,dx,_,_,rfl,hx,cl,na _ (by simp),rfl,?_⟩;apply bL lz ?_;rw [show (side.length:Int)+1=49 by omega];try walk_at "s"
  exact ⟨rfl,(show 1<=sizeLine by decide),fun e H2 S2 X2=>q0 hf e H2 S2 X2⟩
 rw [ZD (show ¬ (48:Int)<=(side.length:Int) by omega)];replace q:=q (by omega);walk_at "s";apply ⟨x,_,dx,_,_,rfl,hx,cl,na _ (by simp),rfl,?_⟩;apply ⟨x,_,dx,_,rfl,hx,cl,na _ (by simp),by simp [cG],?_⟩;rw [oJ];have hx2:=aj (H:=H) (a:=x) (o:=.ins (aO mg "Kept") dx (cG side top k k (jy v)));have C2:Chg x H (upd H x (.ins (aO mg "Kept") dx (cG side top k k (jy v)))):=Chg.upd;have R2:=hR.kn (Kn.chg hx cI C2);generalize upd H x (.ins (aO mg "Kept") dx (cG side top k k (jy v)))=H2 at hx2 C2 R2 ⊢;try walk_at "s"
 apply ⟨x,_,dx,_,_,rfl,hx2,cl,na _ (by simp),rfl,?_⟩;rcases R2 with ⟨e0,rfl⟩ | ⟨n,t,rfl,et,hN⟩
 ·rw [ZK (rfl:V.non=V.non)]
  have ns:(cG side top k k (jy .non)).lookup (Str.ofString "strip_node")=none:=bz (Bb _) (by trivial);walk_at "s";apply ⟨x,dx,_,rfl,hx2,ns,?_⟩;apply ⟨x,dx,side,top,k,jy .non,c,rfl,Bb _,⟨k,hx2⟩,hc,ht,fun y H3 C3 K3 hy=>?_⟩;obtain ⟨k3,hx3⟩:=id K3;apply ⟨x,_,dx,_,rfl,hx3,cl,na _ (by simp),by simp [cG],?_⟩;rw [pG];have hx4:=aj (H:=H3) (a:=x) (o:=.ins (aO mg "Kept") dx (cG side top k3 k (jy (.ref y))));have C4:Chg x H3 (upd H3 x (.ins (aO mg "Kept") dx (cG side top k3 k (jy (.ref y))))):=Chg.upd;have N4:=hy.kn (Kn.chg hx3 cI C4);generalize upd H3 x (.ins (aO mg "Kept") dx (cG side top k3 k (jy (.ref y))))=H4 at hx4 C4 N4 ⊢;try walk_at "s"
  apply ⟨x,_,dx,_,_,rfl,hx4,cl,na _ (by simp),rfl,?_⟩;apply iQ lz ?_;apply jC (ZG (Aay (fZ _ _ _) (AaP (rC c))) (by omega)) ?_;apply ⟨x,_,dx,_,_,rfl,hx4,cl,na _ (by simp),rfl,?_⟩;apply iQ lz ?_;apply jC (by rw [uT];exact ZG (Aay (Aay (fZ _ _ _) (AaP (rC c))) (fZ _ _ _)) (by omega)) ?_;apply ⟨x,_,dx,_,rfl,hx4,cl,na _ (by simp),by simp [cG],?_⟩;rw [uQ];exact q _ (((C2.trans C3).trans C4).trans Chg.upd) ⟨yx hs (by omega) hp hc,ht,dx,k,.ref y,⟨k3,aj⟩,.inr ⟨y,_,rfl,by rw [my,e0];simp [Tr.codes],N4.kn (Kn.chg hx4 cI Chg.upd)⟩⟩
 ·rw [ZD (show ¬ V.ref n=V.non from fun z=>by cases z)]
  have nw:(cG side top k k (jy (.ref n))).lookup (Str.ofString "with_put")=none:=bz (Bb _) (by trivial);have tm:=rB et hN;have tt:=uJ t;walk_at "s";apply ⟨x,dx,_,rfl,hx2,nw,?_⟩;apply ⟨x,_,dx,_,_,rfl,hx2,cl,na _ (by simp),rfl,?_⟩;apply ⟨x,dx,side,top,k,jy (.ref n),n,t,p,c,rfl,Bb _,⟨k,hx2⟩,ht,hc,hN,by omega,by omega,by omega,fun y H3 C3 K3 hy=>?_⟩;obtain ⟨k3,hx3⟩:=id K3;apply ⟨x,_,dx,_,rfl,hx3,cl,na _ (by simp),by simp [cG],?_⟩;rw [pG];have hx4:=aj (H:=H3) (a:=x) (o:=.ins (aO mg "Kept") dx (cG side top k3 k (jy (.ref y))));have C4:Chg x H3 (upd H3 x (.ins (aO mg "Kept") dx (cG side top k3 k (jy (.ref y))))):=Chg.upd;have N4:=hy.kn (Kn.chg hx3 cI C4);generalize upd H3 x (.ins (aO mg "Kept") dx (cG side top k3 k (jy (.ref y))))=H4 at hx4 C4 N4 ⊢;try walk_at "s"
  apply ⟨x,_,dx,_,_,rfl,hx4,cl,na _ (by simp),rfl,?_⟩;apply iQ lz ?_;apply jC (ZG (Aay (fZ _ _ _) (AaP (rC c))) (by omega)) ?_;apply ⟨x,_,dx,_,_,rfl,hx4,cl,na _ (by simp),rfl,?_⟩;apply iQ lz ?_;apply jC (by rw [uT];exact ZG (Aay (Aay (fZ _ _ _) (AaP (rC c))) (fZ _ _ _)) (by omega)) ?_;apply ⟨x,_,dx,_,rfl,hx4,cl,na _ (by simp),by simp [cG],?_⟩;rw [uQ];exact q _ (((C2.trans C3).trans C4).trans Chg.upd) ⟨yx hs (by omega) hp hc,ht,dx,k,.ref y,⟨k3,aj⟩,.inr ⟨y,_,rfl,by rw [my,uL c t p (by omega),et],N4.kn (Kn.chg hx4 cI Chg.upd)⟩⟩
theorem Hc (side:Str) (p:Nat):Txt.slice side none (some (p:Int)) ++ Txt.slice side (some (p+1:Int)) none=j9 side p ⟨#[]⟩:=by
 unfold j9
 congr 1
theorem WM (side:Str) (p:Nat):(j9 side p ⟨#[]⟩).cps.toList=side.cps.toList.take p ++ side.cps.toList.drop (p+1):=by rw [jw];rfl
def RW (mg:Str->Option Value):Sp:=fun vs H Q E=>∃ (x:Addr) (side top:Str) (p:Nat),vs=[.ref x,.int (p:Int)]/\Kp mg H x side top/\p<=side.cps.size/\(p=side.cps.size->XT mg "NoPlace" p H E)/\
 (∀ c H',side.cps.toList[p]?=some c->Chg x H H'->Kp mg H' x (j9 side p ⟨#[]⟩) top->Q (.str ⟨#[c]⟩) H')
theorem uU:aD ["self","place","gone"] ["self","place"] (az qx):=⟨rfl,rfl,rfl,by trivial,rfl,by trivial,by trivial⟩
theorem qH (T:Txt K mg):HasM P w K mg base 61 "Kept" "drop" ["self","place"] (RW mg):=by
 have bR:=@bR P w K mg base T;have fV:=@fV P w K mg base T;walk_at "@jX 2 T.m_Kept_drop uU";obtain ⟨x,side,top,p,rfl,⟨hs,ht,dx,b,v,⟨k,hx⟩,hR⟩,hp,q0,q⟩:=h;walk_at "=uU;!6~?{bR}2DA$l0$5!E5!E4{fV}2&58!'#2^B5*!E=yM5U*jM5UI*%)(";have cl:=T.o_Kept.cl;have na:=T.n_Kept;have lz:side.length<=sizeLine:=ZG hs.1 (by decide);have l48:=hs.1;have hz:20000<=sizeLine:=by decide
 have le:side.length=side.cps.size:=rfl;have ll:side.cps.toList.length=side.cps.size:=ZF;apply ⟨x,_,dx,_,_,rfl,hx,cl,na _ (by simp),rfl,?_⟩;apply bL lz ?_;apply ⟨_,_,_,rfl,.inl ⟨_,rfl⟩,fun hb=>?_,fun hb e H2 S2 X2=>q0 (by unfold inB at hb;simp at hb;omega) e H2 S2 X2⟩;have hp1:p < side.cps.size:=by unfold inB at hb;simp at hb;omega
 clear q0 hb;obtain ⟨c,ec⟩:∃ c,side.cps.toList[p]?=some c:=⟨_,Zw (by omega)⟩;replace q:=fun H'=>q c H' ec
 apply ⟨x,_,dx,_,_,rfl,hx,cl,na _ (by simp),rfl,?_⟩;apply ⟨x,_,dx,_,rfl,hx,cl,na _ (by simp),by simp [cG],?_⟩;rw [oJ];have hx2:=aj (H:=H) (a:=x) (o:=.ins (aO mg "Kept") dx (cG side top k k (jy v)));have C2:Chg x H (upd H x (.ins (aO mg "Kept") dx (cG side top k k (jy v)))):=Chg.upd;have R2:=hR.kn (Kn.chg hx cI C2);generalize upd H x (.ins (aO mg "Kept") dx (cG side top k k (jy v)))=H2 at hx2 C2 R2 ⊢;try walk_at "s"
 rcases R2 with ⟨e0,_⟩ | ⟨n,t,rfl,et,hN⟩
 ·rw [e0,AaL] at ll;omega
 have nw:(cG side top k k (jy (.ref n))).lookup (Str.ofString "without")=none:=bz (Bb _) (by trivial);have tm:=rB et hN;have tt:=uJ t;apply ⟨x,dx,_,rfl,hx2,nw,?_⟩;apply ⟨x,_,dx,_,_,rfl,hx2,cl,na _ (by simp),rfl,?_⟩;apply ⟨x,dx,side,top,k,jy (.ref n),n,t,p,rfl,Bb _,⟨k,hx2⟩,ht,hN,by omega,by omega,by omega,fun v3 H3 C3 K3 hv=>?_⟩;obtain ⟨k3,hx3⟩:=id K3;apply ⟨x,_,dx,_,rfl,hx3,cl,na _ (by simp),by simp [cG],?_⟩;rw [pG];have hx4:=aj (H:=H3) (a:=x) (o:=.ins (aO mg "Kept") dx (cG side top k3 k (jy v3)));have C4:Chg x H3 (upd H3 x (.ins (aO mg "Kept") dx (cG side top k3 k (jy v3)))):=Chg.upd
 have R4:RootV mg top (j9 side p ⟨#[]⟩).cps.toList v3 (upd H3 x (.ins (aO mg "Kept") dx (cG side top k3 k (jy v3)))):=by
  rw [WM,← et];rcases uM t p (by omega) with ⟨e1,e2⟩ | ⟨r,e1,e2⟩
  ·rw [e1] at hv
   refine .inl ⟨?_,hv⟩;have h1:=bK t;exact AaS.mp (by rw [Z8,ZW,Aac];omega)
  ·rw [e1] at hv
   obtain ⟨y,rfl,hy⟩:=hv;exact .inr ⟨y,r,rfl,e2,hy.kn (Kn.chg hx3 cI Chg.upd)⟩
 generalize upd H3 x (.ins (aO mg "Kept") dx (cG side top k3 k (jy v3)))=H4 at hx4 C4 R4 ⊢;try walk_at "s"
 apply ⟨x,_,dx,_,_,rfl,hx4,cl,na _ (by simp),rfl,?_⟩;apply xF lz (cz ec) ?_;apply ⟨x,_,dx,_,_,rfl,hx4,cl,na _ (by simp),rfl,?_⟩;apply iQ lz ?_;apply ⟨x,_,dx,_,_,rfl,hx4,cl,na _ (by simp),rfl,?_⟩;apply iQ lz ?_;apply jC (ZG (Aay (fZ _ _ _) (fZ _ _ _)) (by omega)) ?_;apply ⟨x,_,dx,_,rfl,hx4,cl,na _ (by simp),by simp [cG],?_⟩;rw [uQ,Hc];try walk_at "s"
 exact q _ (((C2.trans C3).trans C4).trans Chg.upd) ⟨uR hs hp1 (AaE _) (fun d hd=>by cases hd),ht,dx,k,v3,⟨k3,aj⟩,R4.kn (Kn.chg hx4 cI Chg.upd)⟩
def Jt (mg:Str->Option Value):Sp:=fun vs H Q E=>∃ (x:Addr) (side top:Str) (p c:Nat),vs=[.ref x,.int (p:Int),.str ⟨#[c]⟩]/\Kp mg H x side top/\c∈GOOD/\p<=side.cps.size/\(p=side.cps.size->XT mg "NoPlace" p H E)/\
 (∀ d H',side.cps.toList[p]?=some d->Chg x H H'->Kp mg H' x (j9 side p ⟨#[c]⟩) top->Q (.str ⟨#[d]⟩) H')
theorem qI:aD ["self","place","sign","gone"] ["self","place","sign"] (az nG):=⟨rfl,rfl,rfl,by trivial,rfl,by trivial,by trivial⟩
theorem nP (T:Txt K mg):HasM P w K mg base 59 "Kept" "change" ["self","place","sign"] (Jt mg):=by
 have bR:=@bR P w K mg base T;have jm:=@jm P w K mg base T;have cJ:=@cJ P w K mg base T;walk_at "@jX 3 T.m_Kept_change qI";obtain ⟨x,side,top,p,c,rfl,⟨hs,ht,dx,b,v,⟨k,hx⟩,hR⟩,hc,hp,q0,q⟩:=h;walk_at "=qI;!6~?{bR}2DA$l0$5!6,{jm}?!E5!E4{cJ}2&5D?!'#3^B5*!E==yM5U*(jM5UI*%)-";have cl:=T.o_Kept.cl;have na:=T.n_Kept;have lz:side.length<=sizeLine:=ZG hs.1 (by decide);have l48:=hs.1;have hz:20000<=sizeLine:=by decide
 have le:side.length=side.cps.size:=rfl;have ll:side.cps.toList.length=side.cps.size:=ZF;apply ⟨x,_,dx,_,_,rfl,hx,cl,na _ (by simp),rfl,?_⟩;apply bL lz ?_;apply ⟨_,_,_,rfl,.inl ⟨_,rfl⟩,fun hb=>?_,fun hb e H2 S2 X2=>q0 (by unfold inB at hb;simp at hb;omega) e H2 S2 X2⟩;have hp1:p < side.cps.size:=by unfold inB at hb;simp at hb;omega
 clear q0 hb;obtain ⟨d,ec⟩:∃ d,side.cps.toList[p]?=some d:=⟨_,Zw (by omega)⟩;replace q:=fun H'=>q d H' ec
 apply ⟨c,rfl,hc,?_⟩;apply ⟨x,_,dx,_,_,rfl,hx,cl,na _ (by simp),rfl,?_⟩;apply ⟨x,_,dx,_,rfl,hx,cl,na _ (by simp),by simp [cG],?_⟩;rw [oJ];have hx2:=aj (H:=H) (a:=x) (o:=.ins (aO mg "Kept") dx (cG side top k k (jy v)));have C2:Chg x H (upd H x (.ins (aO mg "Kept") dx (cG side top k k (jy v)))):=Chg.upd;have R2:=hR.kn (Kn.chg hx cI C2);generalize upd H x (.ins (aO mg "Kept") dx (cG side top k k (jy v)))=H2 at hx2 C2 R2 ⊢;try walk_at "s"
 rcases R2 with ⟨e0,_⟩ | ⟨n,t,rfl,et,hN⟩
 ·rw [e0,AaL] at ll;omega
 have nw:(cG side top k k (jy (.ref n))).lookup (Str.ofString "with_change")=none:=bz (Bb _) (by trivial);have tm:=rB et hN;have tt:=uJ t;apply ⟨x,dx,_,rfl,hx2,nw,?_⟩;apply ⟨x,_,dx,_,_,rfl,hx2,cl,na _ (by simp),rfl,?_⟩;apply ⟨x,dx,side,top,k,jy (.ref n),n,t,p,c,rfl,Bb _,⟨k,hx2⟩,ht,hc,hN,by omega,by omega,by omega,fun y H3 C3 K3 hy=>?_⟩;obtain ⟨k3,hx3⟩:=id K3;apply ⟨x,_,dx,_,rfl,hx3,cl,na _ (by simp),by simp [cG],?_⟩;rw [pG];have hx4:=aj (H:=H3) (a:=x) (o:=.ins (aO mg "Kept") dx (cG side top k3 k (jy (.ref y))));have C4:Chg x H3 (upd H3 x (.ins (aO mg "Kept") dx (cG side top k3 k (jy (.ref y))))):=Chg.upd;have N4:=hy.kn (Kn.chg hx3 cI C4);generalize upd H3 x (.ins (aO mg "Kept") dx (cG side top k3 k (jy (.ref y))))=H4 at hx4 C4 N4 ⊢;try walk_at "s"
 apply ⟨x,_,dx,_,_,rfl,hx4,cl,na _ (by simp),rfl,?_⟩;apply xF lz (cz ec) ?_;apply ⟨x,_,dx,_,_,rfl,hx4,cl,na _ (by simp),rfl,?_⟩;apply iQ lz ?_;apply jC (ZG (Aay (fZ _ _ _) (AaP (rC c))) (by omega)) ?_;apply ⟨x,_,dx,_,_,rfl,hx4,cl,na _ (by simp),rfl,?_⟩;apply iQ lz ?_;apply jC (by rw [uT];exact ZG (Aay (Aay (fZ _ _ _) (AaP (rC c))) (fZ _ _ _)) (by omega)) ?_;apply ⟨x,_,dx,_,rfl,hx4,cl,na _ (by simp),by simp [cG],?_⟩;rw [uQ];try walk_at "s"
 exact q _ (((C2.trans C3).trans C4).trans Chg.upd) ⟨uR hs hp1 (AaP (rC c)) (fun e he=>by simp at he;rw [he];exact hc),ht,dx,k,.ref y,⟨k3,aj⟩,.inr ⟨y,_,rfl,by rw [jw,uN c t p (by omega),et];rfl,N4.kn (Kn.chg hx4 cI Chg.upd)⟩⟩
end
local macro_rules | `(tactic| walk_at "s") => `(tactic| (with_reducible repeat (first | refine mH ?_ | walk_at "6")))
local macro_rules | `(tactic| walk_at "n") => `(tactic| (with_reducible repeat (walk_at "6")))
section
variable {P:Program} {w:World} {K:W.Frag} {mg:Str->Option Value} {base:Heap}
theorem yz:(["_law_k","_law_some","_law_start","_law_step_here"]:List Str).Nodup:=by trivial
theorem Bc:(["_law_k","_law_signs_here"]:List Str).Nodup:=by trivial
def RX (K:W.Frag):Sp:=fun vs H Q _=>∃ (a:Addr) (ns:List Int) (k:Nat),vs=[.ref a,.int k]/\SqL K H a (ns.map V.int)/\∀ n,Q (.int n) H
theorem Dc:aD ["_law_script","_law_k"] ["_law_script","_law_k"] (az sY):=⟨rfl,rfl,rfl,by trivial,rfl,by trivial,by trivial⟩
theorem mz (T:Txt K mg):Has P w K mg base 1 "_law_cell" ["_law_script","_law_k"] (RX K):=by
 walk_at "@fY 2 T.d_law_cell Dc";obtain ⟨a,ns,k,rfl,hS,q⟩:=h;walk_at "=_;!1~1*0C%)B:*%}/";apply iJ hS ?_;rw [ZJ];refine ut (fun h=>?_) (fun h=>?_)
 ·have hk:k < ns.length:=by omega
  walk_at "s";apply bf hS (cz (show (ns.map V.int)[k]?=some (.int ns[k]) by rw [ZM,Zw hk];rfl)) ?_;exact q _
 ·walk_at "s"
  exact q _
def Fits (ms bs:List Int):Prop:=ms.length=bs.length/\∀ (i:Nat) (m b:Int),ms[i]?=some m->bs[i]?=some b->0<=m/\m < b
theorem Fits.push {ms bs:List Int} {k:Nat} {m b:Int} (h:Fits ms (bs.take k)) (hb:bs[k]?=some b) (h0:0<=m) (h1:m < b):Fits (ms ++ [m]) (bs.take (k+1)):=by
 have hk:k < bs.length:=(Zx.mp hb).1;have hl:ms.length=k:=by rw [h.1,ZW];omega
 refine ⟨by simp;omega,fun i m' b' e1 e2=>?_⟩;by_cases hi:i < k
 ·rw [Aab (by omega)] at e1
  rw [Abv (by omega)] at e2;exact h.2 i m' b' e1 (by rw [Abv hi];exact e2)
 ·have hi2:i < k+1:=by have:=(Zx.mp e1).1;simp at this;omega
  obtain rfl:i=k:=by omega
  rw [gV (by omega),hl,AbS] at e1;rw [Abv (by omega),hb] at e2;cases e1;cases e2;exact ⟨h0,h1⟩
def Ou (K:W.Frag):Sp:=fun vs H Q _=>∃ (n:Int) (b:Addr) (bs:List Int),vs=[.int n,.ref b]/\H b=some (.lst (bs.map V.int))/\bs.length<=1000/\(∀ x∈bs,0 < x/\x < 1073741824)/\
 ∀ (q:Addr) (ms:List Int) (H':Hp),H q=none->Same H H'->H' q=some (.lst (ms.map V.int))->Fits ms bs->Q (.ref q) H'
theorem fJ:aD ["_law_cell_here","_law_menus","_law_found","_law_left","_law_number","_law_k"] ["_law_cell_here","_law_menus"] (az qw):=⟨rfl,rfl,rfl,by trivial,rfl,by trivial,by trivial⟩
theorem bD (T:Txt K mg):Has P w K mg base 1 "_law_drawn" ["_law_cell_here","_law_menus"] (Ou K):=by
 walk_at "@fY 2 T.d_law_drawn fJ";obtain ⟨n,b,bs,rfl,hb,hlen,hbs,q⟩:=h;walk_at "=fJ;!'#2^S!'#3^:!'#4^I~8:!Jp$083#5^!'#4^~8==|++~U+.!'#4^~8I=}0+~U.%~3P~!~*:~V~$~W-!6O($~9-B*.%'#3^}1-B*.%6O($~9~X+B*.%)(";have hs:20000<=sizeLine:=by decide
 apply bB rfl fun f H1 nf S1 hf=>?_
 have hm0:=Abo n (show (2147483629:Int)≠0 by omega);have hm1:=Aa6 n (show (0:Int) < 2147483629 by omega);apply iJ (SqL.of (S1 _ _ hb)) ?_;rw [ZJ];refine ⟨_,rfl,by omega,by omega,?_⟩;rw [show ((bs.length:Int)).toNat=bs.length by omega];refine nZ (n:=bs.length) (fun k U G=>∃ (l N:Int) (ms:List Int) (x5:Option V),U=[some (.int n),some (.ref b),some (.ref f),some (.int l),some (.int N),x5]/\0<=N/\N < 2147600000/\Same H G/\G f=some (.lst (ms.map V.int))/\Fits ms (bs.take k)) ⟨n,_,[],_,rfl,by omega,by omega,S1,hf,rfl,fun i m b e=>by simp at e⟩ ?_ ?_
 ·rintro k U G hk ⟨l,N,ms,x5,rfl,hN0,hN1,s,hfG,hF⟩
  rw [Int.zero_add];have hbb:=Zw hk;obtain ⟨p0,p1⟩:=hbs bs[k] (Aat hk);have hbV:(bs.map V.int)[k]?=some (.int bs[k]):=by rw [ZM,hbb];rfl
  have hml:ms.length<=1000:=by rw [hF.1,ZW];omega
  walk_at "s";obtain ⟨M,eM⟩:∃ M,(N*N+48271*N+(k:Int)) % 2147483647=M:=⟨_,rfl⟩;have hM0:0<=M:=by rw [← eM];exact Abo _ (by omega)
  have hM1:M < 2147483647:=by rw [← eM];exact Aa6 _ (by omega)
  rw [eM];clear eM;walk_at "s";obtain ⟨M2,eM2⟩:∃ M2,(M*69621+11*(k:Int)+5) % 2147483629=M2:=⟨_,rfl⟩;have hM20:0<=M2:=by rw [← eM2];exact Abo _ (by omega)
  have hM21:M2 < 2147483629:=by rw [← eM2];exact Aa6 _ (by omega)
  rw [eM2];clear eM2
  have B1:∀ (m:Int) (x5:Option V) (l':Int),0<=m->m < bs[k]->∃ (l N:Int) (ms':List Int) (x5':Option V),[some (.int n),some (.ref b),some (.ref f),some (.int l'),some (.int M2),x5]=[some (.int n),some (.ref b),some (.ref f),some (.int l),some (.int N),x5']/\0<=N/\N < 2147600000/\Same H (upd G f (.lst (ms.map V.int ++ [V.int m])))/\upd G f (.lst (ms.map V.int ++ [V.int m])) f=some (.lst (ms'.map V.int))/\Fits ms' (bs.take (k+1)):=fun m x5 l' h0 h1=>
   ⟨l',M2,ms ++ [m],x5,rfl,hM20,by omega,Same.put s nf,by rw [ZR];exact aj,hF.push hbb h0 h1⟩
  refine ut (fun h=>?_) (fun h=>?_)
  ·clear h
   walk_at "s";refine ut (fun h=>?_) (fun h=>?_)
   ·walk_at "s"
    apply ⟨.inl ⟨rfl,_,SqL.of hfG⟩,?_⟩;apply bf (SqL.of (s _ _ hb)) (cz hbV) ?_;apply cB hfG (by rw [ZJ];omega) ?_;apply bf (SqL.of ((Same.put s nf) _ _ hb)) (cz hbV) ?_;exact B1 _ _ _ (Abo _ (by omega)) (Aa6 _ p0)
   ·walk_at "s"
    apply ⟨.inl ⟨rfl,_,SqL.of hfG⟩,?_⟩;apply bf (SqL.of (s _ _ hb)) (cz hbV) ?_;apply cB hfG (by rw [ZJ];omega) ?_;exact B1 _ _ _ (Abo _ (by omega)) (Aa6 _ p0)
  ·clear h
   walk_at "s";apply ⟨.inl ⟨rfl,_,SqL.of hfG⟩,?_⟩;apply bf (SqL.of (s _ _ hb)) (cz hbV) ?_;apply cB hfG (by rw [ZJ];omega) ?_;exact B1 _ _ _ (Abo _ (by omega)) (Aa6 _ p0)
 ·rintro U G ⟨l,N,ms,x5,rfl,_,_,s,hfG,hF⟩
  walk_at "s";rw [AaN] at hF;exact q f ms G nf s hfG hF
theorem Ov {ms:List Int} {x y z:Int} (h:Fits ms [x,y,z]):∃ a b c:Nat,ms=[(a:Int),(b:Int),(c:Int)]/\(a:Int) < x/\(b:Int) < y/\(c:Int) < z:=by
 obtain ⟨hl,h⟩:=h
 match ms,hl with
 | [a,b,c],_=>
  have h0:=h 0 a x rfl rfl;have h1:=h 1 b y rfl rfl;have h2:=h 2 c z rfl rfl;refine ⟨a.toNat,b.toNat,c.toNat,?_,by omega,by omega,by omega⟩;rw [Aae h0.1,Aae h1.1,Aae h2.1]
def SIGNS:Str:=Str.ofString "abcdefghijklmnopqrstuvwxyz."
theorem Fw {i:Nat} (h:i < 27):∃ c,SIGNS.cps.toList[i]?=some c/\c∈GOOD:=by
 have hl:SIGNS.cps.toList.length=27:=by trivial
 have ha:∀ c∈SIGNS.cps.toList,c∈GOOD:=by trivial
 exact ⟨_,Zw (by omega),ha _ (Aat (by omega))⟩
def Ow (K:W.Frag):Sp:=fun vs H Q _=>∃ n:Int,vs=[.int n]/\∀ (q:Addr) (ys:List Str) (H':Hp),H q=none->Same H H'->H' q=some (.lst (ys.map V.str))->ys≠[]->ys.length<=27->GoodS ys->Q (.ref q) H'
theorem iC:aD ["_law_cell_here","_law_some","_law_start","_law_step_here","_law_many"] ["_law_cell_here"] (az mQ):=⟨rfl,rfl,rfl,by trivial,rfl,by trivial,by trivial⟩
theorem qJ (T:Txt K mg):Has P w K mg base 2 "_law_signs" ["_law_cell_here"] (Ow K):=by
 have bD:=@bD P w K mg base T;walk_at "@fY 1 T.d_law_signs iC";obtain ⟨n,rfl,q⟩:=h;walk_at "=iC;!}2#1^!~,,{bD}F$KAAV~-G~Y#2^G~Y#3^R3#4^!'#4^BKAAAAAV+%)o<.123>Z[_law_cell_here _law_some _law_start _law_step_here _law_many]}3[_law_k _law_some _law_start _law_step_here]p$+_#0{yz}Bv#1~8=v#2|Iv#3`";have hs:20000<=sizeLine:=by decide
 apply bB rfl fun b H1 nb S1 hb=>?_
 apply ⟨n,b,[27,26,6],rfl,hb,by decide,by decide,fun r ms H2 nr S2 hr2 hF=>?_⟩;obtain ⟨u,v,m,rfl,b1,b2,b3⟩:=Ov hF;apply ⟨r,[.int u,.int v,.int m],rfl,.inr (SqL.of hr2),rfl,?_⟩;apply bB rfl fun p H3 np S3 hp=>?_
 obtain ⟨e,ee,e1,e2⟩:∃ e:Nat,([1,2,2,3,4,27]:List Nat)[m]?=some e/\1<=e/\e<=27:=by
  have hb:∀ e∈([1,2,2,3,4,27]:List Nat),1<=e/\e<=27:=by decide
  have hm:m < ([1,2,2,3,4,27]:List Nat).length:=by show m < 6;omega
  exact ⟨_,Zw hm,hb _ (Aat hm)⟩
 apply bf (SqL.of hp) (cz (show ((([1,2,2,3,4,27]:List Nat).map fun e:Nat=>V.int (e:Int)))[m]?=some (.int (e:Int)) by rw [ZM,ee];rfl)) ?_;refine ⟨_,rfl,by omega,by omega,?_⟩;rw [show ((e:Int)).toNat=e by omega];refine zp (n:=e) (fun i ys G=>G=H3/\∃ zs:List Str,ys=zs.map V.str/\zs.length=i/\GoodS zs) (by omega) ⟨rfl,[],rfl,rfl,fun y hy=>by cases hy⟩ ?_ ?_ ?_
 ·rintro i ys G ⟨_,zs,rfl,hl,_⟩
  rw [ZJ];omega
 ·rintro i ys G hi ⟨rfl,zs,rfl,hl,hg⟩
  rw [Int.zero_add];walk_at "s";apply ⟨KeepSt.set rfl,?_⟩;have g0:(0:Int)<=((u:Int)+((v:Int)+1)*(i:Int)) % 27:=Abo _ (by omega);have g1:=Aa6 ((u:Int)+((v:Int)+1)*(i:Int)) (show (0:Int) < 27 by omega);generalize ((u:Int)+((v:Int)+1)*(i:Int)) % 27=g at g0 g1 ⊢;obtain ⟨g,rfl⟩:∃ k:Nat,g=(k:Int):=⟨g.toNat,(Aae g0).symm⟩;obtain ⟨c,ec,hc⟩:=Fw (i:=g) (by omega);refine xF (by trivial) (cz ec) ⟨rfl,zs ++ [⟨#[c]⟩],by rw [ZR];rfl,by simp [hl],fun y hy=>?_⟩;rcases Aaw.mp hy with h1 | h1
  ·exact hg y h1
  ·exact ⟨c,Aad.mp h1,hc⟩
 ·rintro ys G D H4 ⟨eG,zs,rfl,hl,hg⟩ nD S4 hD
  have S13:Same H G:=by rw [eG];exact S1.trans (S2.trans ‹Same H2 H3›)
  exact q D zs H4 (Same.back S13 nD) (S13.trans S4) hD (fun z=>by rw [z] at hl;simp at hl;omega) (by omega) hg
theorem zE {ms:List Int} {x y z L:Int} {n:Nat} (h:Fits ms ([x,y,z] ++ List.replicate n L)):ms.length=n+3/\∀ (i:Nat) (m:Int),(ms.drop 3)[i]?=some m->∃ k:Nat,m=(k:Int)/\(k:Int) < L:=by
 have hl:=h.1;simp at hl;refine ⟨by omega,fun i m e=>?_⟩;rw [List.getElem?_drop] at e;have hi:=(Zx.mp e).1;obtain ⟨h0,h1⟩:=h.2 (3+i) m L e (by rw [gV (by simp),List.getElem?_replicate];simp;omega);exact ⟨m.toNat,(Aae h0).symm,by rw [Aae h0];exact h1⟩
theorem Be (n:Nat) (v:V):(List.replicate n [v]).flatten=List.replicate n v:=by
 induction n with
 | zero=>rfl
 | succ n ih=>rw [AaB,AaQ,ih,AaB];rfl
def WN (K:W.Frag):Sp:=fun vs H Q _=>∃ (n:Int) (a:Addr) (ys:List Str) (most:Nat),vs=[.int n,.ref a,.int (most:Int)]/\H a=some (.lst (ys.map V.str))/\ys≠[]/\ys.length<=27/\GoodS ys/\most<=48/\∀ (z:Str) (H':Hp),Same H H'->Row z->Q (.str z) H'
theorem mC:aD ["_law_cell_here","_law_signs_here","_law_most","_law_heads","_law_size","_law_draws"] ["_law_cell_here","_law_signs_here","_law_most"] (az qY):=⟨rfl,rfl,rfl,by trivial,rfl,by trivial,by trivial⟩
theorem jO (T:Txt K mg):Has P w K mg base 2 "_law_row" ["_law_cell_here","_law_signs_here","_law_most"] (WN K):=by
 have bD:=@bD P w K mg base T;walk_at "@fY 3 T.d_law_row mC";obtain ⟨n,a,ys,most,rfl,ha,hne,hl,hg,hm,q⟩:=h;walk_at "=mC;!'#3^,{bD}F$KAA$I(!'#4^}4}5{T.b_min}&/-?!1xT/-%'#4^/-!'#5^,{bD}F$=KAA$I(|K$0$i#1+%)~O$o<.1>Z[_law_cell_here _law_signs_here _law_most _law_heads _law_size _law_draws]}6[_law_k _law_signs_here]djM.~A_#0{Bc}Bv#1`";have hs:20000<=sizeLine:=by decide
 have hy1:0 < ys.length:=by
  cases ys with
  | nil=>exact absurd rfl hne
  | cons a b=>simp
 apply bB rfl fun b H1 nb S1 hb=>?_
 apply ⟨n,b,[8,9,(most:Int)+1],rfl,hb,by show 3<=1000;decide,by intro x hx;simp at hx;omega,fun r ms H2 nr S2 hr2 hF=>?_⟩;obtain ⟨u,v,m,rfl,b1,b2,b3⟩:=Ov hF;replace hr2:H2 r=some (.lst [.int u,.int v,.int m]):=hr2;have U2:=S1.trans S2;have ha2:=U2 _ _ ha;try walk_at "s"
 rw [show (if (most:Int) < (v:Int) then (most:Int) else (v:Int))=((if most < v then most else v:Nat):Int) by split <;> split <;> omega];obtain ⟨sz,esz,hsz⟩:∃ sz:Nat,(if most < v then most else v)=sz/\sz<=48:=⟨_,rfl,by split <;> omega⟩;rw [esz];clear esz;walk_at "s";cases hd:decide (V.int (u:Int)=V.int 7) with
 | true=>
  walk_at "s";apply bB rfl fun b2 H3 nb2 S3 hb2=>?_
  apply iJ (SqL.of (S3 _ _ ha2)) ?_;rw [ZJ];apply bB rfl fun b3 H4 nb3 S4 hb3=>?_
  apply xP hb3 (by omega) (by omega) (ZG (show [V.int (ys.length:Int)].length*((m:Int)).toNat<=1000 by simp;omega) (by decide)) fun b4 nb4=>?_
  rw [show ((m:Int)).toNat=m by omega,Be];have S5:=(Same.refl H4).upd nb4 (o:=.lst (List.replicate m (V.int (ys.length:Int))));have hb4:=aj (H:=H4) (a:=b4) (o:=.lst (List.replicate m (V.int (ys.length:Int))));generalize upd H4 b4 (.lst (List.replicate m (V.int (ys.length:Int))))=H5 at S5 hb4 ⊢;have S45:=S4.trans S5;walk_at "s";apply zU (S45 _ _ hb2) hb4 (by simp;omega) fun b6 nb6=>?_
  have e6:([.int 8,.int 9,.int ((most:Int)+1)] ++ List.replicate m (V.int (ys.length:Int)):List V)=(([8,9,(most:Int)+1] ++ List.replicate m (ys.length:Int)):List Int).map V.int:=by rw [ZR,Abh];rfl
  rw [e6];have S6:=(Same.refl H5).upd nb6 (o:=.lst ((([8,9,(most:Int)+1] ++ List.replicate m (ys.length:Int)):List Int).map V.int));have hb6:=aj (H:=H5) (a:=b6) (o:=.lst ((([8,9,(most:Int)+1] ++ List.replicate m (ys.length:Int)):List Int).map V.int));generalize upd H5 b6 (.lst ((([8,9,(most:Int)+1] ++ List.replicate m (ys.length:Int)):List Int).map V.int))=H6 at S6 hb6 ⊢;have U6:=S3.trans (S45.trans S6);walk_at "s";apply ⟨n,b6,_,rfl,hb6,by simp;omega,by intro x hx;simp at hx;omega,fun d ds H7 nd S7 hd7 hF7=>?_⟩;obtain ⟨fl,fd⟩:=zE hF7;have ha7:=S7 _ _ (U6 _ _ ha2);apply ⟨rfl,?_⟩;apply Er hd7 fun p8 H8 np8 S8 hp8=>?_
  rw [show ((3:Int))=((3:Nat):Int) from rfl,rY,← List.map_drop] at hp8;refine .inl ⟨p8,rfl,⟨_,SqL.of hp8⟩,?_⟩;refine oU (xs:=(ds.drop 3).map V.int) (fun i us G=>G=H8/\∃ zs:List Str,us=zs.map V.str/\zs.length=i/\GoodS zs) (by rw [ZJ,Aac];omega) ⟨rfl,[],rfl,rfl,fun y hy=>by cases hy⟩ ?_ ?_ ?_ ?_
  ·rintro i us G ⟨_,zs,rfl,hl8,_⟩
   rw [ZJ];omega
  ·rintro i us G ⟨rfl,_⟩
   exact SqL.of hp8
  ·rintro i us G x hx ⟨rfl,zs,rfl,hl8,hg8⟩
   rw [ZM] at hx;obtain ⟨mm,em,rfl⟩:=AbC.mp hx;obtain ⟨kk,rfl,hk⟩:=fd i mm em;have hk':kk < ys.length:=by omega
   walk_at "s";apply ⟨KeepSt.set rfl,?_⟩;apply bf (SqL.of (S8 _ _ ha7)) (cz (show (ys.map V.str)[kk]?=some (.str ys[kk]) by rw [ZM,Zw hk'];rfl)) ?_;refine ⟨rfl,zs ++ [ys[kk]],by rw [ZR];rfl,by simp [hl8],fun y hy=>?_⟩;rcases Aaw.mp hy with h1 | h1
   ·exact hg8 y h1
   ·rw [Aad.mp h1];exact hg _ (Aat hk')
  rintro us G D H9 ⟨eG,zs,rfl,hl9,hg9⟩ nD S9 hD;try walk_at "s"
  have hz9:zs.length<=48:=by rw [hl9,ZJ,Aac];omega
  have S89:Same H8 H9:=by rw [eG] at S9;exact S9
  apply Eb hD (by rw [xH hg9.ones];show zs.length+zs.length*0<=_;omega) ?_;exact q _ H9 (U2.trans (U6.trans (S7.trans (S8.trans S89)))) (NK hg9 hz9)
 | false=>
  walk_at "s";apply bB rfl fun b2 H3 nb2 S3 hb2=>?_
  apply iJ (SqL.of (S3 _ _ ha2)) ?_;rw [ZJ];apply bB rfl fun b3 H4 nb3 S4 hb3=>?_
  apply xP hb3 (by omega) (by omega) (ZG (show [V.int (ys.length:Int)].length*((sz:Int)).toNat<=1000 by simp;omega) (by decide)) fun b4 nb4=>?_
  rw [show ((sz:Int)).toNat=sz by omega,Be];have S5:=(Same.refl H4).upd nb4 (o:=.lst (List.replicate sz (V.int (ys.length:Int))));have hb4:=aj (H:=H4) (a:=b4) (o:=.lst (List.replicate sz (V.int (ys.length:Int))));generalize upd H4 b4 (.lst (List.replicate sz (V.int (ys.length:Int))))=H5 at S5 hb4 ⊢;have S45:=S4.trans S5;walk_at "s";apply zU (S45 _ _ hb2) hb4 (by simp;omega) fun b6 nb6=>?_
  have e6:([.int 8,.int 9,.int ((most:Int)+1)] ++ List.replicate sz (V.int (ys.length:Int)):List V)=(([8,9,(most:Int)+1] ++ List.replicate sz (ys.length:Int)):List Int).map V.int:=by rw [ZR,Abh];rfl
  rw [e6];have S6:=(Same.refl H5).upd nb6 (o:=.lst ((([8,9,(most:Int)+1] ++ List.replicate sz (ys.length:Int)):List Int).map V.int));have hb6:=aj (H:=H5) (a:=b6) (o:=.lst ((([8,9,(most:Int)+1] ++ List.replicate sz (ys.length:Int)):List Int).map V.int));generalize upd H5 b6 (.lst ((([8,9,(most:Int)+1] ++ List.replicate sz (ys.length:Int)):List Int).map V.int))=H6 at S6 hb6 ⊢;have U6:=S3.trans (S45.trans S6);walk_at "s";apply ⟨n,b6,_,rfl,hb6,by simp;omega,by intro x hx;simp at hx;omega,fun d ds H7 nd S7 hd7 hF7=>?_⟩;obtain ⟨fl,fd⟩:=zE hF7;have ha7:=S7 _ _ (U6 _ _ ha2);apply ⟨rfl,?_⟩;apply Er hd7 fun p8 H8 np8 S8 hp8=>?_
  rw [show ((3:Int))=((3:Nat):Int) from rfl,rY,← List.map_drop] at hp8;refine .inl ⟨p8,rfl,⟨_,SqL.of hp8⟩,?_⟩;refine oU (xs:=(ds.drop 3).map V.int) (fun i us G=>G=H8/\∃ zs:List Str,us=zs.map V.str/\zs.length=i/\GoodS zs) (by rw [ZJ,Aac];omega) ⟨rfl,[],rfl,rfl,fun y hy=>by cases hy⟩ ?_ ?_ ?_ ?_
  ·rintro i us G ⟨_,zs,rfl,hl8,_⟩
   rw [ZJ];omega
  ·rintro i us G ⟨rfl,_⟩
   exact SqL.of hp8
  ·rintro i us G x hx ⟨rfl,zs,rfl,hl8,hg8⟩
   rw [ZM] at hx;obtain ⟨mm,em,rfl⟩:=AbC.mp hx;obtain ⟨kk,rfl,hk⟩:=fd i mm em;have hk':kk < ys.length:=by omega
   walk_at "s";apply ⟨KeepSt.set rfl,?_⟩;apply bf (SqL.of (S8 _ _ ha7)) (cz (show (ys.map V.str)[kk]?=some (.str ys[kk]) by rw [ZM,Zw hk'];rfl)) ?_;refine ⟨rfl,zs ++ [ys[kk]],by rw [ZR];rfl,by simp [hl8],fun y hy=>?_⟩;rcases Aaw.mp hy with h1 | h1
   ·exact hg8 y h1
   ·rw [Aad.mp h1];exact hg _ (Aat hk')
  rintro us G D H9 ⟨eG,zs,rfl,hl9,hg9⟩ nD S9 hD;try walk_at "s"
  have hz9:zs.length<=48:=by rw [hl9,ZJ,Aac];omega
  have S89:Same H8 H9:=by rw [eG] at S9;exact S9
  apply Eb hD (by rw [xH hg9.ones];show zs.length+zs.length*0<=_;omega) ?_;exact q _ H9 (U2.trans (U6.trans (S7.trans (S8.trans S89)))) (NK hg9 hz9)
end
local macro_rules | `(tactic| walk_at "s") => `(tactic| (with_reducible repeat (first | refine mH ?_ | walk_at "5")))
local macro_rules | `(tactic| walk_at "n") => `(tactic| (with_reducible repeat (walk_at "5")))
section
variable {P:Program} {w:World} {K:W.Frag} {mg:Str->Option Value} {base:Heap}
def Tz (mg:Str->Option Value):Sp:=fun vs H Q _=>∃ (n:Addr) (top:Str) (t:Tr) (l:Nat),vs=[.ref n,.int 0,.int 0,.int (l:Int)]/\Nd mg top t H n/\t.many=l/\∀ q H',H q=none->Same H H'->H' q=some (.lst [.ref n])->Q (.ref q) H'
theorem mZ:aD ["node","begin","first","last","end","upper"] ["node","begin","first","last"] (az sX):=⟨rfl,rfl,rfl,by trivial,rfl,by trivial,by trivial⟩
theorem De (T:Txt K mg):Has P w K mg base 1 "covering" ["node","begin","first","last"] (fun _ _ _ _=>False):=fY (k:=0) T.d_covering mZ (fun _ _ _ _ _ _ us hl=>L2.Bg (fun _ _ _ _=>rfl) us hl) (fun _ _ _ _ h=>h.elim) (fun _ _ _ _ _ _ _ _ _ _ h=>h.elim)
theorem Df (T:Txt K mg) (d:Nat) (jP:Has P w K mg base (0+d) "covering" ["node","begin","first","last"] (fun _ _ _ _=>False)):Has P w K mg base (0+d+1) "covering" ["node","begin","first","last"] (Tz mg):=by
 walk_at "@fY 4 T.d_covering mZ";obtain ⟨n,top,t,l,rfl,hn,hl,q⟩:=h;walk_at "=mZ;!'#4^=*5!1Pb~++(c~+-*%)S!1P~!~+(*~$~++-%)KC!'#5^/5%)=~Z{jP}H&.D&(L~Z{jP}H&/5&=*7.&(L";obtain ⟨hs,⟨dn,kn,an,ant,n1,n2,n3⟩,_⟩:=hn.of;have mp:=qF t;apply ⟨n,_,dn,_,_,rfl,n1,T.o_Node.cl,T.n_Node _ (by simp),rfl,?_⟩;rw [hl,Int.zero_add];try walk_at "s"
 rw [ZD (show ¬ (l:Int)<=0 by omega)];walk_at "s";try rw [ZD (show ¬ (l:Int)<=0 by omega)]
 try walk_at "s"
 try rw [ZK (show (0:Int)<=0 from Int.le_refl 0)]
 try walk_at "s"
 try rw [ZK (show (l:Int)<=(l:Int) from Int.le_refl _)]
 try walk_at "s"
 apply bB rfl fun f H1 nf S1 hf=>?_
 exact q f H1 nf S1 hf
theorem jP (T:Txt K mg):Has P w K mg base (1+1) "covering" ["node","begin","first","last"] (Tz mg):=Df T 1 ((De T).mono (by decide))
theorem RZ {far:Nat} {e:Nat->Nat->Bool} (hn:far<=96):LN 0 far e=List.range far:=by rw [Oh (.inl rfl) (by omega),Nat.zero_add]
def TF (mg:Str->Option Value) (top:Str) (cs:List Nat) (us:List V) (H:Hp):Prop:=(cs=[]/\us=[])\/∃ n t,us=[.ref n]/\t.codes=cs/\Nd mg top t H n
def R0 (mg:Str->Option Value):Sp:=fun vs H Q _=>∃ (p:Addr) (top:Str) (cs:List Nat) (us:List V),vs=[.ref p,.int (top.cps.size:Int)]/\H p=some (.lst us)/\TF mg top cs us H/\cs.length+top.cps.size<=96/\
 ∀ q H',H q=none->Same H H'->H' q=some (.lst ((nI (LN cs.length top.cps.size (eT cs top))).map V.int))->Q (.ref q) H'
theorem jV:aD ["nodes","far","lines","node"] ["nodes","far"] (az o4):=⟨rfl,rfl,rfl,by trivial,rfl,by trivial,by trivial⟩
theorem pI (T:Txt K mg):Has P w K mg base 9 "laid_lines" ["nodes","far"] (R0 mg):=by
 have jG:=@jG P w K mg base T;have iB:=@iB P w K mg base T;walk_at "@fY 2 T.d_laid_lines jV";obtain ⟨p,top,cs,us,rfl,hp,hW,hm,q⟩:=h;walk_at "=jV;!1N~):%),{jG}8!'#2^~4$7/:!JdjM:~A3#3^%'#2^,{iB}&(&7-8%)(";have hz:20000<=sizeLine:=by decide
 rcases hW with ⟨rfl,rfl⟩ | ⟨n,t,rfl,rfl,hN⟩
 ·apply MN (b:=false) (SqL.of hp) rfl ?_
  refine ⟨top.cps.size,rfl,by simp at hm;omega,fun q' H' n' s h=>q q' H' n' s ?_⟩;rw [AaL,RZ (by simp at hm;omega)];exact h
 ·obtain ⟨hs,⟨dn,kn,an,ant,n1,n2,n3⟩,_⟩:=hN.of
  apply MN (b:=true) (SqL.of hp) rfl ?_;apply ⟨n,_,dn,_,_,rfl,n1,T.o_Node.cl,T.n_Node _ (by simp),rfl,?_⟩;apply wH (SqL.of n2) fun l nl=>?_
  rw [← bK] at n2 ⊢;have S1:=(Same.refl H).upd nl (o:=.lst ((nI (LN t.codes.length top.cps.size (eT t.codes top))).map V.int));have hl:=aj (H:=H) (a:=l) (o:=.lst ((nI (LN t.codes.length top.cps.size (eT t.codes top))).map V.int));generalize upd H l (.lst ((nI (LN t.codes.length top.cps.size (eT t.codes top))).map V.int))=H1 at S1 hl ⊢;walk_at "s";apply Er (S1 _ _ hp) fun p2 H2 np2 S2 hp2=>?_
  refine .inl ⟨p2,rfl,⟨_,SqL.of hp2⟩,?_⟩;refine wW (xs:=n8 [.ref n] (some 1) none) (fun i U G=>G=H2/\∃ x3,U=[some (.ref p),some (.int (top.cps.size:Int)),some (.ref l),x3]) ⟨rfl,_,rfl⟩ (fun i U G _ h=>by rw [h.1];exact SqL.of hp2) ?_ ?_
  ·rintro i v U G hv _
   rw [show (some (1:Int))=some ((1:Nat):Int) from rfl,rY] at hv;cases hv
  ·rintro U G ⟨rfl,x3,rfl⟩
   walk_at "s";exact q l G nl (S1.trans S2) (S2 _ _ hl)
def WP (mg:Str->Option Value):Sp:=fun vs H Q _=>∃ (x:Addr) (side top:Str),vs=[.ref x,.int 0,.int (side.cps.size:Int)]/\Kp mg H x side top/\∀ q us H',H q=none->Same H H'->H' q=some (.lst us)->TF mg top side.cps.toList us H'->Q (.ref q) H'
theorem pJ:aD ["self","first","last"] ["self","first","last"] (az gq):=⟨rfl,rfl,rfl,by trivial,rfl,by trivial,by trivial⟩
theorem gr (T:Txt K mg):HasM P w K mg base 5 "Kept" "covering_nodes" ["self","first","last"] (WP mg):=by
 have qC:=@qC P w K mg base T;have jP:=@jP P w K mg base T;walk_at "@jX 3 T.m_Kept_covering_nodes pJ";obtain ⟨x,side,top,rfl,⟨hs,ht,dx,b,v,⟨k,hx⟩,hR⟩,q⟩:=h;walk_at "=_;!6,{qC}D&($0$5%)~6~75S,{jP}&5AD?";have lz:side.length<=sizeLine:=ZG hs.1 (by decide);have le:side.length=side.cps.size:=rfl;have cl:=T.o_Kept.cl;have na:=T.n_Kept;apply ⟨x,_,dx,_,_,rfl,hx,cl,na _ (by simp),rfl,?_⟩;apply bL lz ?_;apply ⟨_,_,_,rfl,Int.le_refl 0,by omega,by omega,?_⟩;apply ⟨x,_,dx,_,_,rfl,hx,cl,na _ (by simp),rfl,?_⟩;rcases hR with ⟨e0,rfl⟩ | ⟨n,t,rfl,et,hN⟩
 ·rw [ZK (rfl:V.non=V.non)]
  walk_at "s";apply bB rfl fun f H1 nf S1 hf=>?_
  exact q f [] H1 nf S1 hf (.inl ⟨e0,rfl⟩)
 ·rw [ZD (show ¬ V.ref n=V.non from fun z=>by cases z)]
  walk_at "s";apply ⟨x,_,dx,_,_,rfl,hx,cl,na _ (by simp),rfl,?_⟩;exact ⟨n,top,t,side.cps.size,rfl,hN,rB et hN,fun f H1 nf S1 hf=>q f _ H1 nf S1 hf (.inr ⟨n,t,rfl,et,hN.kn (Kn.same S1)⟩)⟩
def WQ (mg:Str->Option Value):Sp:=fun vs H Q _=>∃ (x:Addr) (side top:Str),vs=[.ref x,.int 0,.int (side.cps.size:Int)]/\Kp mg H x side top/\∀ q H',H q=none->Same H H'->H' q=some (.lst ((nI (LN side.cps.size top.cps.size (eT side.cps.toList top))).map V.int))->Q (.ref q) H'
theorem wB:aD ["self","first","last"] ["self","first","last"] (az lZ):=⟨rfl,rfl,rfl,by trivial,rfl,by trivial,by trivial⟩
theorem mD (T:Txt K mg):HasM P w K mg base 10 "Kept" "between" ["self","first","last"] (WQ mg):=by
 have pI:=@pI P w K mg base T;have gr:=@gr P w K mg base T;walk_at "@jX 3 T.m_Kept_between wB";obtain ⟨x,side,top,rfl,hP,q⟩:=h;walk_at "=_;%),{pI}&4{gr}2D?$0$5";obtain ⟨hs,ht,dx,b,v,⟨k,hx⟩,hR⟩:=id hP;have h1:=hs.1;have h2:=ht.1;have e1:side.length=side.cps.size:=rfl;have e2:top.length=top.cps.size:=rfl;have ll:side.cps.toList.length=side.cps.size:=ZF;have ly:top.length<=sizeLine:=ZG ht.1 (by decide);apply ⟨x,dx,_,rfl,hx,bz (Bb _) (by trivial),?_⟩;apply ⟨x,side,top,rfl,hP,fun p us H1 np S1 hp hW=>?_⟩;apply ⟨x,_,dx,_,_,rfl,S1 _ _ hx,T.o_Kept.cl,T.n_Kept _ (by simp),rfl,?_⟩;apply bL ly ?_;refine ⟨p,top,side.cps.toList,us,rfl,hp,hW,by omega,fun f H2 nf S2 hf=>q f H2 (Same.back S1 nf) (S1.trans S2) ?_⟩;rw [ll] at hf;exact hf
def Ox (mg:Str->Option Value):Sp:=fun vs H Q _=>∃ (x:Addr) (side top:Str),vs=[.ref x]/\Kp mg H x side top/\∀ q H',H q=none->Same H H'->H' q=some (.lst ((nI (LN side.cps.size top.cps.size (eT side.cps.toList top))).map V.int))->Q (.ref q) H'
theorem yN:aD ["self"] ["self"] (az o7):=⟨rfl,rfl,rfl,by trivial,rfl,by trivial,by trivial⟩
theorem lM (T:Txt K mg):HasM P w K mg base 11 "Kept" "lines" ["self"] (Ox mg):=by
 have mD:=@mD P w K mg base T;walk_at "@jX 1 T.m_Kept_lines yN";obtain ⟨x,side,top,rfl,hP,q⟩:=h;walk_at "=_;%)4{mD}2A$0$5";obtain ⟨hs,ht,dx,b,v,⟨k,hx⟩,hR⟩:=id hP;have lz:side.length<=sizeLine:=ZG hs.1 (by decide);apply ⟨x,dx,_,rfl,hx,bz (Bb _) (by trivial),?_⟩;apply ⟨x,_,dx,_,_,rfl,hx,T.o_Kept.cl,T.n_Kept _ (by simp),rfl,?_⟩;apply bL lz ?_;exact ⟨x,side,top,rfl,hP,q⟩
def WR (mg:Str->Option Value):Sp:=fun vs H Q _=>∃ (x:Addr) (side top:Str),vs=[.ref x]/\Kp mg H x side top/\∀ y H',H y=none->Same H H'->Kp mg H' y side top->Q (.ref y) H'
theorem Hd:Row (Str.ofString ""):=⟨AaE _,fun c hc=>by cases hc⟩
theorem uV:aD ["self","other"] ["self"] (az qy):=⟨rfl,rfl,rfl,by trivial,rfl,by trivial,by trivial⟩
theorem qK (T:Txt K mg):HasM P w K mg base 19 "Kept" "twin" ["self"] (WR mg):=by
 have cV:=@cV P w K mg base T;walk_at "@jX 1 T.m_Kept_twin uV";obtain ⟨x,side,top,rfl,⟨hs,ht,dx,b,v,⟨k,hx⟩,hR⟩,q⟩:=h;walk_at "=uV;!'#1^}7{cV}2k~B!~.*5!~.*5!~.*5!~.*5!~.*5%)*";have cl:=T.o_Kept.cl;have na:=T.n_Kept;rintro y dy ny ndy nyd;refine ⟨y,dy,Str.ofString "",Str.ofString "",rfl,aj,Hd,Hd,fun H1 C1 hP=>⟨rfl,?_⟩⟩;have S1:=made ny ndy C1;obtain ⟨_,_,d1,b1,v1,⟨k1,hy⟩,_⟩:=hP;have nxy:x≠y:=fun z=>by rw [z,ny] at hx;cases hx
 have fin:∀ (G:Hp),Chg y H1 G->G y=some (.ins (aO mg "Kept") d1 (cG side top k b (jy v)))->Q (.ref y) G:=fun G c e=>by
  have S:Same H G:=fun a o ea=>c a o (fun z=>by rw [z,ny] at ea;cases ea) (S1 a o ea)
  exact q y G ny S ⟨hs,ht,d1,b,v,⟨k,e⟩,hR.kn (Kn.same S)⟩
 have hx1:=S1 _ _ hx;walk_at "s";apply ⟨x,_,dx,_,_,rfl,hx1,cl,na _ (by simp),rfl,?_⟩;apply ⟨y,_,d1,_,rfl,hy,cl,na _ (by simp),by simp [cG],?_⟩;rw [uQ];have c2:Chg y H1 (upd H1 y (.ins (aO mg "Kept") d1 (cG side (Str.ofString "") k1 b1 (jy v1)))):=Chg.upd;have e2:=aj (H:=H1) (a:=y) (o:=.ins (aO mg "Kept") d1 (cG side (Str.ofString "") k1 b1 (jy v1)));generalize upd H1 y (.ins (aO mg "Kept") d1 (cG side (Str.ofString "") k1 b1 (jy v1)))=H2 at c2 e2 ⊢;have hx2:=c2 _ _ nxy hx1;walk_at "s";apply ⟨x,_,dx,_,_,rfl,hx2,cl,na _ (by simp),rfl,?_⟩;apply ⟨y,_,d1,_,rfl,e2,cl,na _ (by simp),by simp [cG],?_⟩;rw [Ot];have c3:Chg y H2 (upd H2 y (.ins (aO mg "Kept") d1 (cG side top k1 b1 (jy v1)))):=Chg.upd;have e3:=aj (H:=H2) (a:=y) (o:=.ins (aO mg "Kept") d1 (cG side top k1 b1 (jy v1)));generalize upd H2 y (.ins (aO mg "Kept") d1 (cG side top k1 b1 (jy v1)))=H3 at c3 e3 ⊢;have hx3:=c3 _ _ nxy hx2;walk_at "s";apply ⟨x,_,dx,_,_,rfl,hx3,cl,na _ (by simp),rfl,?_⟩;apply ⟨y,_,d1,_,rfl,e3,cl,na _ (by simp),by simp [cG],?_⟩;rw [GX];have c4:Chg y H3 (upd H3 y (.ins (aO mg "Kept") d1 (cG side top k b1 (jy v1)))):=Chg.upd;have e4:=aj (H:=H3) (a:=y) (o:=.ins (aO mg "Kept") d1 (cG side top k b1 (jy v1)));generalize upd H3 y (.ins (aO mg "Kept") d1 (cG side top k b1 (jy v1)))=H4 at c4 e4 ⊢;have hx4:=c4 _ _ nxy hx3;walk_at "s";apply ⟨x,_,dx,_,_,rfl,hx4,cl,na _ (by simp),rfl,?_⟩;apply ⟨y,_,d1,_,rfl,e4,cl,na _ (by simp),by simp [cG],?_⟩;rw [oJ];have c5:Chg y H4 (upd H4 y (.ins (aO mg "Kept") d1 (cG side top k b (jy v1)))):=Chg.upd;have e5:=aj (H:=H4) (a:=y) (o:=.ins (aO mg "Kept") d1 (cG side top k b (jy v1)));generalize upd H4 y (.ins (aO mg "Kept") d1 (cG side top k b (jy v1)))=H5 at c5 e5 ⊢;have hx5:=c5 _ _ nxy hx4;walk_at "s";apply ⟨x,_,dx,_,_,rfl,hx5,cl,na _ (by simp),rfl,?_⟩;apply ⟨y,_,d1,_,rfl,e5,cl,na _ (by simp),by simp [cG],?_⟩;rw [pG];try walk_at "s"
 exact fin _ ((((c2.trans c3).trans c4).trans c5).trans Chg.upd) aj
theorem yC:(["_law_k","_law_side"]:List Str).Nodup:=by trivial
theorem WT {E ps:List Nat} {q:Nat} (h:∀ p∈ps,p+1 < q):(bN E ps).getD q 0=E.getD q 0:=by
 induction ps generalizing E with
 | nil=>rfl
 | cons p ps ih=>
  show (bN (bG E p) ps).getD q 0=_;rw [ih fun x hx=>h x (by simp [hx]),step_get (.inr (h p (by simp)))]
theorem Oz {m far i j q:Nat} {e:Nat->Nat->Bool} (hi:i < m) (hj:j<=far) (hq:m - 1 - i+far < q):(stE m far e i j).getD q 0=(stE m far e i 0).getD q 0:=by
 have:stE m far e i j=bN (stE m far e i 0) (Ww m e i j):=by
  unfold stE;rw [wK,wK];rfl
 rw [this,WT];intro p hp;obtain ⟨k,hk,rfl⟩:=Ay hp;omega
theorem WW (a b:Nat):decide (V.str ⟨#[a]⟩=V.str ⟨#[b]⟩)=decide (a=b):=by
 refine AbT.mpr ⟨fun h=>?_,fun h=>by rw [h]⟩;have:=Str.mk.inj (V.str.inj h);simpa using this
theorem Dg {L:List Nat} {x y v:Nat} (h:x < L.length):(L.set x v).getD y 0=if y=x then v else L.getD y 0:=by
 rw [Zv,List.getElem?_set];by_cases e:y=x
 ·subst e;rw [if_pos rfl,if_pos rfl,if_pos h];rfl
 ·rw [if_neg (Ne.symm e),if_neg e,← Zv]
theorem WX (n:Nat):List.replicate n (V.int 0)=(nI (List.replicate n 0)).map V.int:=by unfold nI;rw [Abh,Abh];rfl
theorem OD (n:Nat) (v:V):(List.replicate n [v]).flatten=List.replicate n v:=Be n v
def OJ (K:W.Frag):Sp:=fun vs H Q _=>∃ (side top:Str),vs=[.str side,.str top]/\side.cps.size<=48/\top.cps.size<=48/\∀ q H',H q=none->Same H H'->H' q=some (.lst ((nI (LN side.cps.size top.cps.size (eT side.cps.toList top))).map V.int))->Q (.ref q) H'
theorem dX:aD ["_law_side","_law_top","_law_fall","_law_found","_law_row_here","_law_line","_law_column","_law_kept"] ["_law_side","_law_top"] (az mR):=⟨rfl,rfl,rfl,by trivial,rfl,by trivial,by trivial⟩
theorem qL (T:Txt K mg):Has P w K mg base 1 "_law_lines" ["_law_side","_law_top"] (OJ K):=by
 walk_at "@fY 2 T.d_law_lines dX";obtain ⟨side,top,rfl,hs,ht,q⟩:=h;walk_at "=dX;!~P#2^<.0>Z[_law_side _law_top _law_fall _law_found _law_row_here _law_line _law_column _law_kept]}8[_law_k _law_side]p$08_#0{yC}=}9}:$v#1`!'#3^|KV=0$i#008!Jp$0$i#03#4^!'#5^hl0$i#0+!Jp$083#6^!'#7^B(9%1PbuTBi#0+B*9cs.a!n.e(9f%'#5^a%nhl=080$i#0+e-.f!Jp$083#6^%n9e-B(9f%)-";have hz:20000<=sizeLine:=by decide
 have em:side.length=side.cps.size:=rfl;have ef:top.length=top.cps.size:=rfl;have lz:side.length<=sizeLine:=by omega
 have ly:top.length<=sizeLine:=by omega
 apply bL ly ?_;refine ⟨_,rfl,by omega,by omega,?_⟩;rw [show ((top.length:Nat):Int).toNat=top.cps.size by omega];generalize hm:side.cps.size=m at hs em q ⊢;generalize hf:top.cps.size=far at ht ef q ⊢;refine Iz (fun k=>V.int ((m+k:Nat):Int)) (by omega) (fun i hi=>?_) fun f0 H1 nf S1 hf1=>?_
 ·walk_at "s"
  apply ⟨KeepSt.set rfl,?_⟩;apply bL lz ?_;exact ⟨rfl,Gu (by congr 1;omega)⟩
 have hf2:H1 f0=some (.lst ((nI ((List.range far).map (m+ ·))).map V.int)):=by
  rw [hf1];unfold nI;rw [AbD,AbD];rfl
 try walk_at "s"
 apply bB rfl fun z0 H2 nz0 S2 hz0=>?_
 apply bL lz ?_;apply bL ly ?_;rw [show (side.length:Int)+(top.length:Int)=((m+far:Nat):Int) by omega];apply xP hz0 (by omega) (by omega) (ZG (show [V.int 0].length*(((m+far:Nat):Int)).toNat<=1000 by simp;omega) (by decide)) fun d nd=>?_
 rw [show (((m+far:Nat):Int)).toNat=m+far by omega,OD,WX];have S3:=S1.trans (S2.trans ((Same.refl H2).upd nd (o:=.lst ((nI (List.replicate (m+far) 0)).map V.int))));have hf3:=aX nd (S2 _ _ hf2) (o:=.lst ((nI (List.replicate (m+far) 0)).map V.int));have hd3:=aj (H:=H2) (a:=d) (o:=.lst ((nI (List.replicate (m+far) 0)).map V.int));have df:d≠f0:=fun z=>by rw [z,S2 _ _ hf2] at nd;cases nd
 have nd0:=Same.back (S1.trans S2) nd;generalize upd H2 d (.lst ((nI (List.replicate (m+far) 0)).map V.int))=H3 at S3 hf3 hd3 ⊢;clear hz0 nz0;generalize hee:eT side.cps.toList top=e at q ⊢;walk_at "s";apply bL lz ?_;refine ⟨_,rfl,by omega,by omega,?_⟩;rw [show ((side.length:Nat):Int).toNat=m by omega]
 refine nZ (n:=m) (fun i U G=>Same H G/\(∃ F L,G f0=some (.lst ((nI F).map V.int))/\F.length=far/\(∀ k,k < far->F.getD k 0=(stE m far e i 0).getD (m - i+k) 0)/\G d=some (.lst ((nI L).map V.int))/\L.length=m+far/\∀ i',i' < i->L.getD ((stE m far e i 0).getD (m - 1 - i'+far) 0) 0=m - 1 - i'+far)/\∃ x4 x5 x6 x7,U=[some (.str side),some (.str top),some (.ref f0),some (.ref d),x4,x5,x6,x7])
  ⟨S3,⟨_,_,hf3,by simp,fun k hk=>?_,hd3,by simp,fun i' h=>absurd h (AaV _)⟩,_,_,_,_,rfl⟩ ?_ ?_
 ·rw [CP,Zv,ZM,Z3 hk,Zv,Z3 (by omega)]
  show m+k=m - 0+k;omega
 ·rintro i U G hi ⟨s,⟨F,L,hF,hFl,hFk,hD,hLl,hLv⟩,x4,x5,x6,x7,rfl⟩
  rw [Int.zero_add];walk_at "s";apply bL lz ?_;apply bL ly ?_;rw [show (side.length:Int) - 1 - (i:Int)=((m - 1 - i:Nat):Int) by omega];refine ⟨_,rfl,by omega,by omega,?_⟩;rw [show ((top.length:Nat):Int).toNat=far by omega]
  refine nZ (n:=far) (fun j U G=>Same H G/\G d=some (.lst ((nI L).map V.int))/\∃ F x x6 x7,G f0=some (.lst ((nI F).map V.int))/\Wx m far e i j x F/\U=[some (.str side),some (.str top),some (.ref f0),some (.ref d),some (.int (i:Int)),some (.int (x:Int)),x6,x7])
   ⟨s,hD,F,m - 1 - i,_,_,hF,Jm hi hFl hFk,rfl⟩ ?_ ?_
  ·rintro j U G2 hj ⟨s2,hD2,F2,x,y6,y7,hF2,w,rfl⟩
   rw [Int.zero_add]
   have hsi:Dy side.cps.toList (i:Int)=some (side.cps.toList.getD i 0):=cz (by
    have:i < side.cps.toList.length:=by rw [ZF];omega
    rw [Zv,Zw this];rfl)
   have htj:Dy top.cps.toList (j:Int)=some (top.cps.getD j 0):=cz (by
    have:j < top.cps.size:=by omega
    simp [Array.getD,this])
   have wl:=w.len;walk_at "s";apply bf (SqL.of hF2) (vV (k:=j) (by omega) rfl) ?_;apply xF lz hsi ?_;apply xF ly htj ?_;have eE:decide (V.str ⟨#[side.cps.toList.getD i 0]⟩=V.str ⟨#[top.cps.getD j 0]⟩)=e i j:=by rw [WW,← hee];rfl
   rw [eE];have stay:(e i j=true\/F2.getD j 0 < x)->Same H (upd G2 f0 (.lst ((nI (F2.set j x)).map V.int)))/\upd G2 f0 (.lst ((nI (F2.set j x)).map V.int)) d=some (.lst ((nI L).map V.int))/\Wx m far e i (j+1) (F2.getD j 0) (F2.set j x):=fun h=>⟨Same.put s2 nf,by rw [aC df];exact hD2,Od (by omega) hi hj w h⟩
   cases ee:e i j with
   | true=>
    obtain ⟨a1,a2,a3⟩:=stay (.inl ee);show if true=true then _ else _
    walk_at "s";apply lH hF2 (uH (p:=j) rfl (by rw [bQ];omega)) ?_;rw [ph];walk_at "s";exact ⟨a1,a2,_,_,_,_,aj,a3,rfl⟩
   | false=>
    show if false=true then _ else _
    walk_at "s";by_cases hlt:F2.getD j 0 < x
    ·obtain ⟨a1,a2,a3⟩:=stay (.inr hlt)
     rw [ZK (show ((F2.getD j 0:Nat):Int) < (x:Int) by omega)];walk_at "s";apply lH hF2 (uH (p:=j) rfl (by rw [bQ];omega)) ?_;rw [ph];walk_at "s";exact ⟨a1,a2,_,_,_,_,aj,a3,rfl⟩
    ·rw [ZD (show ¬ ((F2.getD j 0:Nat):Int) < (x:Int) by omega)]
     walk_at "s";exact ⟨s2,hD2,_,_,_,_,hF2,Oe (by omega) hi hj w ee hlt,rfl⟩
  ·rintro U G2 ⟨s2,hD2,F2,x,y6,y7,hF2,w,rfl⟩
   have hP:=rm (e:=e) (m:=m) (far:=far) (by omega) (.inl ⟨hi,ZC far⟩);have hl:=rn m far e i far
   have hxl:x < m+far:=by
    rw [w.ln];have:=hP.lt (Z0 (getD_some (B:=stE m far e i far) (i:=m - 1 - i+far) (by omega)));omega
   walk_at "s";apply bL ly ?_;apply bL lz ?_;rw [show (top.length:Int)+(side.length:Int) - 1 - (i:Int)=((m - 1 - i+far:Nat):Int) by omega];apply lH hD2 (uH (p:=x) rfl (by rw [bQ];omega)) ?_;rw [ph];try walk_at "s"
   refine ⟨Same.put s2 nd0,⟨F2,_,by rw [aC (Ne.symm df)];exact hF2,w.len,fun k hk=>?_,aj,by rw [List.length_set];exact hLl,fun i' hi'=>?_⟩,_,_,_,_,rfl⟩
   ·rw [wN,w.lo k hk,show m - (i+1)+k=m - 1 - i+k by omega]
   ·rw [wN,Dg (by omega)]
    by_cases e1:i'=i
    ·subst e1
     rw [← w.ln,if_pos rfl]
    ·rw [if_neg,Oz hi (ZC _) (by omega)]
     ·exact hLv i' (by omega)
     ·intro z
      rw [w.ln] at z;have:=sG (n:=m+far) (by have:=hP.pm;rw [hl] at this;exact this) (by omega) (by omega) z;omega
 ·rintro U G ⟨s,⟨F,L,hF,hFl,hFk,hD,hLl,hLv⟩,x4,x5,x6,x7,rfl⟩
  walk_at "s";apply bL ly ?_;refine ⟨_,rfl,by omega,by omega,?_⟩;rw [show ((top.length:Nat):Int).toNat=far by omega];have hP:=rm (e:=e) (m:=m) (far:=far) (i:=m) (j:=0) (by omega) (.inr ⟨ZC m,rfl⟩);have hl:=rn m far e m 0;have hE:LN m far e=inv (stE m far e m 0):=by unfold LN;rw [Ax]
  generalize stE m far e m 0=W at hFk hLv hP hl hE;have hpm:W.Perm (List.range (m+far)):=by have:=hP.pm;rw [hl] at this;exact this
  refine nZ (n:=far) (fun j U G=>Same H G/\G f0=some (.lst ((nI F).map V.int))/\(∃ L,G d=some (.lst ((nI L).map V.int))/\L.length=m+far/\∀ p,p < j\/far<=p/\p < m+far->L.getD (W.getD p 0) 0=p)/\∃ x6,U=[some (.str side),some (.str top),some (.ref f0),some (.ref d),x4,x5,x6,x7])
   ⟨s,hF,⟨L,hD,hLl,fun p hp=>?_⟩,_,rfl⟩ ?_ ?_
  ·have:=hLv (m - 1+far - p) (by omega)
   rw [show m - 1 - (m - 1+far - p)+far=p by omega] at this;exact this
  ·rintro j U G2 hj ⟨s2,hF2,⟨L2,hD2,hl2,hv2⟩,y6,rfl⟩
   rw [Int.zero_add];have ej:F.getD j 0=W.getD j 0:=by rw [hFk j hj,AbS,Nat.zero_add]
   have hxl:F.getD j 0 < m+far:=by
    rw [ej];have:=hP.lt (Z0 (getD_some (B:=W) (i:=j) (by omega)));omega
   walk_at "s";apply bf (SqL.of hF2) (vV (k:=j) (by omega) rfl) ?_;apply lH hD2 (uH (p:=F.getD j 0) rfl (by rw [bQ];omega)) ?_;rw [ph];try walk_at "s"
   refine ⟨Same.put s2 nd0,by rw [aC (Ne.symm df)];exact hF2,⟨_,aj,by rw [List.length_set];exact hl2,fun p hp=>?_⟩,_,rfl⟩;rw [Dg (by omega),ej];by_cases e1:p=j
   ·subst e1;rw [if_pos rfl]
   ·rw [if_neg fun z=>e1 (sG hpm (by omega) (by omega) z)]
    exact hv2 p (by omega)
  ·rintro U G2 ⟨s2,hF2,⟨L2,hD2,hl2,hv2⟩,y6,rfl⟩
   walk_at "s"
   have eL:L2=LN m far e:=by
    rw [hE];refine Abs fun x=>?_
    by_cases hx:x < m+far
    ·have hmem:x∈W:=hP.mem (by omega)
     obtain ⟨p,hp,ep⟩:=Abr.mp hmem;have ep2:W[p]?=some x:=by rw [Zw hp,ep]
     have ep3:W.getD p 0=x:=by rw [Zv,ep2];rfl
     have h1:=hv2 p (by omega);have h2:=Ag hP hp;rw [ep3] at h1 h2;rw [getD_some (by omega),getD_some (by rw [bF];omega),h1,h2]
    ·rw [Aav (by omega),Aav (by rw [bF];omega)]
   rw [eL] at hD2;exact q d G2 nd0 s2 hD2
end
local macro_rules | `(tactic| walk_at "s") => `(tactic| (with_reducible repeat (first | refine mH ?_ | walk_at "7")))
local macro_rules | `(tactic| walk_at "n") => `(tactic| (with_reducible repeat (walk_at "7")))
section
variable {P:Program} {w:World} {K:W.Frag} {mg:Str->Option Value} {base:Heap}
theorem wC:(["_law_one"]:List Str).Nodup:=by trivial
def Tw2 (x r:Addr) (H H':Hp):Prop:=∀ b o,b≠x->b≠r->H b=some o->H' b=some o
theorem Tw2.of_same {x r:Addr} {H H':Hp} (s:Same H H'):Tw2 x r H H':=fun b o _ _ e=>s b o e
theorem Tw2.trans {x r:Addr} {H H1 H2:Hp} (a:Tw2 x r H H1) (b:Tw2 x r H1 H2):Tw2 x r H H2:=fun c o n1 n2 e=>b c o n1 n2 (a c o n1 n2 e)
theorem Tw2.chg {x r:Addr} {H H':Hp} (c:Chg x H H'):Tw2 x r H H':=fun b o n _ e=>c b o n e
theorem Tw2.put {x r:Addr} {H:Hp} {o:HO}:Tw2 x r H (upd H r o):=fun b u _ n e=>by rw [aC n];exact e
theorem v4 {a b:Str}:¬ NO (.lst [.str a,.str b]):=by
 rintro (⟨_,_,_,_,_,_,_,e⟩ | ⟨L,e⟩ | ⟨_,e⟩)
 ·cases e
 ·unfold nI at e
  rw [AbD] at e
  match L,e with
  | [],e=>cases e
  | a :: L,e=>cases e
 ·cases e
theorem Kp.row {H:Hp} {x:Addr} {side top:Str} (h:Kp mg H x side top):Row side/\Row top:=⟨h.1,h.2.1⟩
theorem Kp.ne {H:Hp} {x r:Addr} {side top:Str} {us:List V} (h:Kp mg H x side top) (hr:H r=some (.lst us)):r≠x:=by
 obtain ⟨_,_,dx,b,v,⟨k,hx⟩,_⟩:=h;intro z;rw [z,hx] at hr;cases hr
theorem Kp.same {H H':Hp} {x:Addr} {side top:Str} (h:Kp mg H x side top) (s:Same H H'):Kp mg H' x side top:=by
 obtain ⟨hs,ht,dx,b,v,hK,hR⟩:=h;exact ⟨hs,ht,dx,b,v,hK.same s,hR.kn (Kn.same s)⟩
theorem Kp.put {H:Hp} {x r:Addr} {side top:Str} {a b:Str} {o:HO} (h:Kp mg H x side top) (hr:H r=some (.lst [.str a,.str b])):Kp mg (upd H r o) x side top:=by
 have ne:=h.ne hr;obtain ⟨hs,ht,dx,b,v,⟨k,hx⟩,hR⟩:=h;exact ⟨hs,ht,dx,b,v,⟨k,by rw [aC (Ne.symm ne)];exact hx⟩,hR.kn (Kn.chg hr v4 Chg.upd)⟩
def Pr (mg:Str->Option Value) (H:Hp) (x r:Addr) (side top:Str):Prop:=Kp mg H x side top/\H r=some (.lst [.str side,.str top])
theorem Pr.same {H H':Hp} {x r:Addr} {side top:Str} (h:Pr mg H x r side top) (s:Same H H'):Pr mg H' x r side top:=⟨h.1.same s,s _ _ h.2⟩
theorem Ze (n:Nat):(List.range n).map (fun _=>V.bl true)=(List.replicate n true).map V.bl:=by
 induction n with
 | zero=>rfl
 | succ n ih=>rw [AaD,ZR,ih,List.replicate_succ',ZR];rfl
theorem Ju (n:Nat):(List.replicate n true).all id=true:=by simp
def O1 (K:W.Frag):Sp:=fun vs H Q _=>∃ (l:Addr) (t:List Nat),vs=[.ref l]/\H l=some (.lst ((nI t).map V.int))/\t.length<=96/\∀ H',Same H H'->Q (.bl true) H'
theorem yO:aD ["_law_found"] ["_law_found"] (az lK):=⟨rfl,rfl,rfl,by trivial,rfl,by trivial,by trivial⟩
theorem pK (T:Txt K mg):Has P w K mg base 1 "_law_wholes" ["_law_found"] (O1 K):=by
 walk_at "@fY 1 T.d_law_wholes yO";obtain ⟨l,t,rfl,hl,ht,q⟩:=h;walk_at "=_;!1NW~&F$~Gt%)~I~J{T.b_all}$o<.>Z[_law_found]}=[_law_one]d:_#0{wC}q~_&`$}?{T.b_int}r~D~_&`$}A{T.b_bool}";have hs:20000<=sizeLine:=by decide
 apply rH (.lst hl) rfl ?_;refine .inl ⟨l,rfl,⟨_,SqL.of hl⟩,?_⟩;refine oU (xs:=(nI t).map V.int) (fun i ys G'=>G'=H/\ys=(List.range i).map fun _=>V.bl true) (by rw [bQ];omega) ⟨rfl,rfl⟩ ?_ ?_ ?_ ?_
 ·rintro i ys G' ⟨_,rfl⟩
  simp
 ·rintro i ys G' ⟨rfl,_⟩
  exact SqL.of hl
 ·rintro i ys G' x hx ⟨rfl,rfl⟩
  obtain ⟨n,_,rfl⟩:=Aam.mp (Z0 hx);walk_at "s";apply ⟨KeepSt.set rfl,?_⟩;apply rH (.int _) rfl ?_;apply rH (.int _) rfl ?_;exact ⟨rfl,Gu rfl⟩
 ·rintro ys G' D G2 ⟨rfl,rfl⟩ nD s2 hD
  rw [Ze] at hD;try walk_at "s"
  apply ⟨D,_,rfl,hD,?_⟩;rw [Ju];try walk_at "s"
  exact q _ s2
def O2 (mg:Str->Option Value):Sp:=fun vs H Q _=>∃ (x r:Addr) (side top:Str),vs=[.ref x,.ref r]/\Pr mg H x r side top/\∀ H',Same H H'->Q (.bl true) H'
theorem nQ:aD ["_law_kept","_law_rows","_law_due","_law_found"] ["_law_kept","_law_rows"] (az o6):=⟨rfl,rfl,rfl,by trivial,rfl,by trivial,by trivial⟩
theorem iD (T:Txt K mg):Has P w K mg base 12 "_law_stands" ["_law_kept","_law_rows"] (O2 mg):=by
 have qL:=@qL P w K mg base T;have lM:=@lM P w K mg base T;have pK:=@pK P w K mg base T;walk_at "@fY 2 T.d_law_stands nQ";obtain ⟨x,r,side,top,rfl,⟨hP,hr2⟩,q⟩:=h;walk_at "=nQ;!'#2^,{qL}&/*$/*!'#3^~C:{lM}2X!1PbNW,{pK}Lcu~`-(t!6O-V%)~2T~C:{lM}2X(";have hs:20000<=sizeLine:=by decide
 have h1:=hP.row.1.1;have h2:=hP.row.2.1;have e1:side.length=side.cps.size:=rfl;have e2:top.length=top.cps.size:=rfl;try walk_at "s"
 apply ⟨side,top,rfl,by omega,by omega,fun d H1 nd S1 hd=>?_⟩;have hP1:=hP.same S1;obtain ⟨_,_,dx,b,v,⟨k,hx⟩,_⟩:=id hP1;apply ⟨x,dx,_,rfl,hx,bz (Bb _) (by trivial),?_⟩;apply ⟨x,side,top,rfl,hP1,fun f H2 nf S2 hf=>?_⟩;apply ⟨f,_,rfl,hf,by rw [j6];omega,fun H3 S3=>?_⟩
 have fl:∀ {t:List Nat},∀ v∈(nI t).map V.int,jz v=true\/∃ r,v= .ref r:=fun {t} v hv=>by
  obtain ⟨n,_,rfl⟩:=Aam.mp hv;exact .inl rfl
 have hd3:=(S2.trans S3) _ _ hd;have hf3:=S3 _ _ hf;have fd:f≠d:=fun z=>by rw [z,hd] at nf;cases nf
 apply MK hf3 hd3 fl ?_;apply ⟨.inl ⟨rfl,_,SqL.of hf3⟩,?_⟩;apply cB hf3 (by rw [bQ,j6];omega) ?_;have nf0:=Same.back S1 nf;have U3:=S1.trans (S2.trans S3);have U4:=Same.put (o:=.lst ((nI (LN side.cps.size top.cps.size (eT side.cps.toList top))).map V.int ++ [V.int 0])) U3 nf0;have hd4:upd H3 f (.lst ((nI (LN side.cps.size top.cps.size (eT side.cps.toList top))).map V.int ++ [V.int 0])) d=_:=(aC (Ne.symm fd)).trans hd3;generalize upd H3 f (.lst ((nI (LN side.cps.size top.cps.size (eT side.cps.toList top))).map V.int ++ [V.int 0]))=H4 at U4 hd4 ⊢;have hP4:=hP.same U4;obtain ⟨_,_,dx,b,v,⟨k,hx⟩,_⟩:=id hP4;try walk_at "s"
 apply ⟨x,dx,_,rfl,hx,bz (Bb _) (by trivial),?_⟩;apply ⟨x,side,top,rfl,hP4,fun f2 H5 nf2 S5 hf2=>?_⟩;refine .inl (V2 (SqL.of hf2) (SqL.of (S5 _ _ hd4)) fl ?_);try walk_at "s"
 exact q H5 (U4.trans S5)
inductive Dd where
 | put (p c:Nat)
 | drop (p:Nat)
 | change (p c:Nat)
 | retop (z:Str)
def Dd.val:Dd->List V
 | .put p c=>[.str "put",.int (p:Int),.str ⟨#[c]⟩]
 | .drop p=>[.str "drop",.int (p:Int),.str (Str.ofString "")]
 | .change p c=>[.str "change",.int (p:Int),.str ⟨#[c]⟩]
 | .retop z=>[.str "retop",.int 0,.str z]
def Dd.ok (side:Str):Dd->Prop
 | .put p c=>p<=side.cps.size/\side.cps.size < 48/\c∈GOOD
 | .drop p=>p < side.cps.size
 | .change p c=>p < side.cps.size/\c∈GOOD
 | .retop z=>Row z
def Dd.side (side:Str):Dd->Str
 | .put p c=>wz side p ⟨#[c]⟩
 | .drop p=>j9 side p ⟨#[]⟩
 | .change p c=>j9 side p ⟨#[c]⟩
 | .retop _=>side
def Dd.top (top:Str):Dd->Str
 | .retop z=>z
 | _=>top
def Dd.undo (side top:Str):Dd->Dd
 | .put p _=>.drop p
 | .drop p=>.put p (side.cps.toList.getD p 0)
 | .change p _=>.change p (side.cps.toList.getD p 0)
 | .retop _=>.retop top
theorem size_of {z:Str} {l:List Nat} (h:z.cps.toList=l):z.cps.size=l.length:=by rw [← h,ZF]
theorem Jv {side:Str} {p c:Nat} (h:p<=side.cps.size):(wz side p ⟨#[c]⟩).cps.size=side.cps.size+1:=by
 have hl:side.cps.toList.length=side.cps.size:=ZF;rw [size_of (my side p c),Z8,Aap,ZW,Aac];omega
theorem zF {side mid:Str} {p:Nat} (h:p < side.cps.size):(j9 side p mid).cps.size+1=side.cps.size+mid.cps.size:=by
 have hl:side.cps.toList.length=side.cps.size:=ZF;have hm:mid.cps.toList.length=mid.cps.size:=ZF;rw [size_of (jw side p mid),Z8,Z8,ZW,Aac];omega
theorem Dh {α:Type} {l:List α} {p:Nat} {c:α} (h:l[p]?=some c):l.take p ++ c :: l.drop (p+1)=l:=by
 obtain ⟨h1,h2⟩:=Zx.mp h;rw [← h2,← Abj h1,AbH]
theorem uW {side:Str} {p:Nat} (h:p < side.cps.size):side.cps.toList[p]?=some (side.cps.toList.getD p 0):=by
 have hl:side.cps.toList.length=side.cps.size:=ZF;rw [Zv,Zw (by omega)];rfl
theorem Dd.back {side top:Str} (hs:Row side) (ht:Row top) {d:Dd} (h:d.ok side):(d.undo side top).ok (d.side side)/\(d.undo side top).side (d.side side)=side/\(d.undo side top).top (d.top top)=top/\Row (d.side side)/\Row (d.top top):=by
 have hl:side.cps.toList.length=side.cps.size:=ZF;have h48:=hs.1;have e48:side.length=side.cps.size:=rfl;have good:∀ p,p < side.cps.size->side.cps.toList.getD p 0∈GOOD:=fun p hp=>hs.2 _ (Z0 (uW hp))
 have n0:(⟨#[]⟩:Str).cps.toList=[]:=rfl;have n1:∀ c:Nat,(⟨#[c]⟩:Str).cps.toList=[c]:=fun _=>rfl
 have z0:(⟨#[]⟩:Str).cps.size=0:=rfl;have z1:∀ c:Nat,(⟨#[c]⟩:Str).cps.size=1:=fun _=>rfl
 cases d with
 | put p c=>
  obtain ⟨h1,h2,h3⟩:=h;refine ⟨?_,wM ?_,rfl,yx hs h2 h1 h3,ht⟩
  ·show p < (wz side p ⟨#[c]⟩).cps.size
   rw [Jv h1];omega
  ·show (j9 (wz side p ⟨#[c]⟩) p ⟨#[]⟩).cps.toList=_
   rw [jw,my,n0,Aba,AaJ (by rw [ZW];omega),List.take_take,Nat.min_self,Aa5,Aaa (by rw [ZW];omega),ZW,show p+1 - min p side.cps.toList.length=1 by omega,Aba];show _ ++ side.cps.toList.drop p=_;rw [AbH]
 | drop p=>
  have h1:p < side.cps.size:=h;have sz:=zF (mid:=⟨#[]⟩) h1;rw [z0] at sz;refine ⟨⟨by show p<=(j9 side p ⟨#[]⟩).cps.size;omega,by show (j9 side p ⟨#[]⟩).cps.size < 48;omega,good p h1⟩,wM ?_,rfl,uR hs h1 (AaE _) (fun c hc=>by cases hc),ht⟩;show (wz (j9 side p ⟨#[]⟩) p ⟨#[side.cps.toList.getD p 0]⟩).cps.toList=_;rw [my,jw,n0,Aba,AaJ (by rw [ZW];omega),List.take_take,Nat.min_self,Aa5,Aaa (by rw [ZW];omega),ZW,show p - min p side.cps.toList.length=0 by omega,Aba];exact Dh (uW h1)
 | change p c=>
  obtain ⟨h1,h2⟩:=h;have sz:=zF (mid:=⟨#[c]⟩) h1;rw [z1] at sz;refine ⟨⟨by show p < (j9 side p ⟨#[c]⟩).cps.size;omega,good p h1⟩,wM ?_,rfl,uR hs h1 (AaP (rC c)) (fun e he=>by rw [n1] at he;rw [Aad.mp he];exact h2),ht⟩;show (j9 (j9 side p ⟨#[c]⟩) p ⟨#[side.cps.toList.getD p 0]⟩).cps.toList=_;rw [jw,jw,n1,n1,AaJ (by rw [ZW];omega),List.take_take,Nat.min_self,Aa5,Aaa (by rw [ZW];omega),ZW,show p+1 - min p side.cps.toList.length=1 by omega,Aba];exact Dh (uW h1)
 | retop z=>exact ⟨ht,rfl,rfl,hs,h⟩
def WY (side top:Str):List Dd->Prop
 | []=>True
 | d :: ds=>d.ok side/\WY (d.side side) (d.top top) ds
def R1 (mg:Str->Option Value):Sp:=fun vs H Q _=>∃ (x r t:Addr) (side top:Str) (d:Dd),vs=[.ref x,.ref r,.ref t]/\Pr mg H x r side top/\H t=some (.tup d.val)/\d.ok side/\
 ∀ u H',Tw2 x r H H'->Pr mg H' x r (d.side side) (d.top top)->H' u=some (.tup (d.undo side top).val)->Q (.ref u) H'
theorem jo:aD ["_law_kept","_law_rows","_law_deed_here","_law_word","_law_place","_law_sign","_law_side","_law_top"] ["_law_kept","_law_rows","_law_deed_here"] (az sZ):=⟨rfl,rfl,rfl,by trivial,rfl,by trivial,by trivial⟩
theorem pL (T:Txt K mg):Has P w K mg base 62 "_law_deed" ["_law_kept","_law_rows","_law_deed_here"] (R1 mg):=by
 have tU:=@tU P w K mg base T;have qH:=@qH P w K mg base T;have nP:=@nP P w K mg base T;have pH:=@pH P w K mg base T;walk_at "@fY 3 T.d_law_deed jo";obtain ⟨x,r,t,side,top,d,rfl,⟨hP,hr2⟩,htp,hok,q⟩:=h;walk_at "=jo;!~,(~-G3#3^G3#4^R3#5^!~,*~-G3#6^R3#7^!1~5T-!6~::{tU}2X&+$.!g==yM9U+.jM9U+z*%)Qk&+~B!1~5T-!6~::{qH}2X$+!g=yM9U+jM9UI+z*%)Qk&+$B9+!1~5T-!6~::{nP}2X&+$.!g==yM9U+.jM9UI+z*%)Qk&+$B9+!6~::{pH}2X$.!g.z*%)QkA$a";have hz:20000<=sizeLine:=by decide
 have rs:=hP.row.1;have lz:side.length<=sizeLine:=ZG rs.1 (by decide);have l48:=rs.1;have le:side.length=side.cps.size:=rfl;have nr:=hP.ne hr2;obtain ⟨_,_,dx,b,v,⟨k,hx⟩,_⟩:=id hP;cases d with
 | put p c=>
  obtain ⟨h1,h2,h3⟩:=hok;apply ⟨t,[.str (Str.ofString "put"),.int (p:Int),.str ⟨#[c]⟩],rfl,.inl (SqT.of htp),rfl,?_⟩;apply ⟨r,[.str side,.str top],rfl,.inr (SqL.of hr2),rfl,?_⟩;rw [show decide (V.str (Str.ofString "put")=V.str (Str.ofString "put"))=true by trivial];walk_at "s";apply ⟨x,dx,_,rfl,hx,bz (Bb _) (by trivial),?_⟩;apply ⟨x,side,top,p,c,rfl,hP,h1,h3,fun z=>by omega,fun _ H2 C2 hP2=>?_⟩;have hr3:=C2 _ _ nr hr2;apply iQ lz ?_;apply jC (ZG (Aay (fZ _ _ _) (AaP (rC c))) (by omega)) ?_;apply iQ lz ?_;apply jC (by rw [uT];exact ZG (Aay (Aay (fZ _ _ _) (AaP (rC c))) (fZ _ _ _)) (by omega)) ?_;have T4:=(Tw2.chg (r:=r) C2).trans (Tw2.put (x:=x) (r:=r) (H:=H2) (o:=.lst [.str (wz side p ⟨#[c]⟩),.str top]));have hP4:=hP2.put (o:=.lst [.str (wz side p ⟨#[c]⟩),.str top]) hr3;have hr4:=aj (H:=H2) (a:=r) (o:=.lst [.str (wz side p ⟨#[c]⟩),.str top]);apply bB rfl fun u H5 nu S5 hu5=>?_
  exact q u H5 (T4.trans (Tw2.of_same S5)) ⟨hP4.same S5,S5 _ _ hr4⟩ hu5
 | drop p=>
  have hp1:p < side.cps.size:=hok;apply ⟨t,[.str (Str.ofString "drop"),.int (p:Int),.str (Str.ofString "")],rfl,.inl (SqT.of htp),rfl,?_⟩;apply ⟨r,[.str side,.str top],rfl,.inr (SqL.of hr2),rfl,?_⟩;rw [show decide (V.str (Str.ofString "drop")=V.str (Str.ofString "put"))=false by trivial];walk_at "s";rw [show decide (V.str (Str.ofString "drop")=V.str (Str.ofString "drop"))=true by trivial];walk_at "s";apply ⟨x,dx,_,rfl,hx,bz (Bb _) (by trivial),?_⟩;apply ⟨x,side,top,p,rfl,hP,by omega,fun z=>by omega,fun c H2 ec C2 hP2=>?_⟩;have hr3:=C2 _ _ nr hr2;obtain rfl:c=side.cps.toList.getD p 0:=Z2 (ec.symm.trans (uW hp1));apply iQ lz ?_;apply iQ lz ?_;apply jC (ZG (Aay (fZ _ _ _) (fZ _ _ _)) (by omega)) ?_;rw [Hc];try walk_at "s"
  have T4:=(Tw2.chg (r:=r) C2).trans (Tw2.put (x:=x) (r:=r) (H:=H2) (o:=.lst [.str (j9 side p ⟨#[]⟩),.str top]));have hP4:=hP2.put (o:=.lst [.str (j9 side p ⟨#[]⟩),.str top]) hr3;have hr4:=aj (H:=H2) (a:=r) (o:=.lst [.str (j9 side p ⟨#[]⟩),.str top]);apply xF lz (cz ec) ?_;apply bB rfl fun u H5 nu S5 hu5=>?_
  exact q u H5 (T4.trans (Tw2.of_same S5)) ⟨hP4.same S5,S5 _ _ hr4⟩ hu5
 | change p c=>
  obtain ⟨hp1,hc⟩:=hok;apply ⟨t,[.str (Str.ofString "change"),.int (p:Int),.str ⟨#[c]⟩],rfl,.inl (SqT.of htp),rfl,?_⟩;apply ⟨r,[.str side,.str top],rfl,.inr (SqL.of hr2),rfl,?_⟩;rw [show decide (V.str (Str.ofString "change")=V.str (Str.ofString "put"))=false by trivial];walk_at "s";rw [show decide (V.str (Str.ofString "change")=V.str (Str.ofString "drop"))=false by trivial];walk_at "s";rw [show decide (V.str (Str.ofString "change")=V.str (Str.ofString "change"))=true by trivial];walk_at "s";apply ⟨x,dx,_,rfl,hx,bz (Bb _) (by trivial),?_⟩;apply ⟨x,side,top,p,c,rfl,hP,hc,by omega,fun z=>by omega,fun e H2 ec C2 hP2=>?_⟩;have hr3:=C2 _ _ nr hr2;obtain rfl:e=side.cps.toList.getD p 0:=Z2 (ec.symm.trans (uW hp1));apply iQ lz ?_;apply jC (ZG (Aay (fZ _ _ _) (AaP (rC c))) (by omega)) ?_;apply iQ lz ?_;apply jC (by rw [uT];exact ZG (Aay (Aay (fZ _ _ _) (AaP (rC c))) (fZ _ _ _)) (by omega)) ?_;have T4:=(Tw2.chg (r:=r) C2).trans (Tw2.put (x:=x) (r:=r) (H:=H2) (o:=.lst [.str (j9 side p ⟨#[c]⟩),.str top]));have hP4:=hP2.put (o:=.lst [.str (j9 side p ⟨#[c]⟩),.str top]) hr3;have hr4:=aj (H:=H2) (a:=r) (o:=.lst [.str (j9 side p ⟨#[c]⟩),.str top]);apply xF lz (cz ec) ?_;apply bB rfl fun u H5 nu S5 hu5=>?_
  exact q u H5 (T4.trans (Tw2.of_same S5)) ⟨hP4.same S5,S5 _ _ hr4⟩ hu5
 | retop z=>
  have hz2:Row z:=hok;apply ⟨t,[.str (Str.ofString "retop"),.int 0,.str z],rfl,.inl (SqT.of htp),rfl,?_⟩;apply ⟨r,[.str side,.str top],rfl,.inr (SqL.of hr2),rfl,?_⟩;rw [show decide (V.str (Str.ofString "retop")=V.str (Str.ofString "put"))=false by trivial];walk_at "s";rw [show decide (V.str (Str.ofString "retop")=V.str (Str.ofString "drop"))=false by trivial];walk_at "s";rw [show decide (V.str (Str.ofString "retop")=V.str (Str.ofString "change"))=false by trivial];walk_at "s";apply ⟨x,dx,_,rfl,hx,bz (Bb _) (by trivial),?_⟩;apply ⟨x,side,top,z,rfl,hP,hz2,fun H2 C2 hP2=>?_⟩;have hr3:=C2 _ _ nr hr2;have T4:=(Tw2.chg (r:=r) C2).trans (Tw2.put (x:=x) (r:=r) (H:=H2) (o:=.lst [.str side,.str z]));have hP4:=hP2.put (o:=.lst [.str side,.str z]) hr3;have hr4:=aj (H:=H2) (a:=r) (o:=.lst [.str side,.str z]);try walk_at "s"
  apply bB rfl fun u H5 nu S5 hu5=>?_
  exact q u H5 (T4.trans (Tw2.of_same S5)) ⟨hP4.same S5,S5 _ _ hr4⟩ hu5
theorem Zf {ms:List Int} {x y z v w:Int} (h:Fits ms [x,y,z,v,w]):∃ a b c d e:Nat,ms=[(a:Int),(b:Int),(c:Int),(d:Int),(e:Int)]/\(a:Int) < x/\(b:Int) < y/\(c:Int) < z/\(d:Int) < v/\(e:Int) < w:=by
 obtain ⟨h1,h2⟩:=h
 match ms,h1 with
 | [a,b,c,d,e],_=>
  obtain ⟨a0,a1⟩:=h2 0 a x rfl rfl;obtain ⟨b0,b1⟩:=h2 1 b y rfl rfl;obtain ⟨c0,c1⟩:=h2 2 c z rfl rfl;obtain ⟨d0,d1⟩:=h2 3 d v rfl rfl;obtain ⟨e0,e1⟩:=h2 4 e w rfl rfl;exact ⟨a.toNat,b.toNat,c.toNat,d.toNat,e.toNat,by rw [Aae a0,Aae b0,Aae c0,Aae d0,Aae e0],by omega,by omega,by omega,by omega,by omega⟩
def O3 (K:W.Frag):Sp:=fun vs H Q _=>∃ (n:Int) (r g:Addr) (side top:Str) (ys:List Str),vs=[.int n,.ref r,.ref g]/\H r=some (.lst [.str side,.str top])/\Row side/\H g=some (.lst (ys.map V.str))/\ys≠[]/\ys.length<=27/\GoodS ys/\
 ∀ u d H',Same H H'->H' u=some (.tup (Dd.val d))->d.ok side->Q (.ref u) H'
theorem cL:aD ["_law_cell_here","_law_rows","_law_signs_here","_law_many","_law_at","_law_ask","_law_word","_law_place","_law_sign","_law_rest"] ["_law_cell_here","_law_rows","_law_signs_here"] (az o5):=⟨rfl,rfl,rfl,by trivial,rfl,by trivial,by trivial⟩
theorem pM (T:Txt K mg):Has P w K mg base 3 "_law_chosen" ["_law_cell_here","_law_rows","_law_signs_here"] (O3 K):=by
 have bD:=@bD P w K mg base T;have jO:=@jO P w K mg base T;walk_at "@fY 3 T.d_law_chosen cL";obtain ⟨n,r,g,side,top,ys,rfl,hr2,rs,hg,hne,hl,hG,q⟩:=h;walk_at "=cL;!'#3^0$/*!~,,{bD}F$KAAA&}B-$0?~-G3#4^G3#5^G3#6^G3#7^R3#8^!1PbP~!xT-~$~/9cP~!~/-~$~/9%)Qk&a$B(w!1~/9%)Qk&~9a~a~b{T.b_max}AL~B!1~/9%)Qk&~9a~a~b{T.b_max}AL$B(w!'#9^I:!1~*:~V%'#9^~X:%)QkA$,{jO}&~%#9&(V";have hz:20000<=sizeLine:=by decide
 have lz:side.length<=sizeLine:=ZG rs.1 (by decide);have l48:=rs.1;have le:side.length=side.cps.size:=rfl
 have hy1:0 < ys.length:=by
  cases ys with
  | nil=>exact absurd rfl hne
  | cons a b=>simp
 try walk_at "s"
 apply bL lz ?_;apply iJ (SqL.of hg) ?_;rw [ZJ,le];apply bB rfl fun b H1 nb S1 hb=>?_
 apply ⟨n,b,[2,2,10,1+(side.cps.size:Int),(ys.length:Int)],rfl,hb,by show 5<=1000;decide,by intro x hx;simp at hx;omega,fun e ms H2 nd S2 hd2 hF=>?_⟩;obtain ⟨a,k,w1,p,s1,rfl,b1,b2,b3,b4,b5⟩:=Zf hF;have U:=S1.trans S2;have hg2:=U _ _ hg;apply ⟨e,[.int a,.int k,.int w1,.int p,.int s1],rfl,.inr (SqL.of hd2),rfl,?_⟩;have hs1:s1 < ys.length:=by omega
 obtain ⟨c,ec,hc⟩:=hG ys[s1] (Aat hs1);have eg:(ys.map V.str)[s1]?=some (.str ⟨#[c]⟩):=by rw [ZM,Zw hs1,ec];rfl
 generalize hm:side.cps.size=m at*;by_cases m0:m=0
 ·rw [ZK (show V.int (m:Int)=V.int 0 by rw [m0];rfl)]
  walk_at "s";by_cases w8:w1 < 8
  ·rw [ZK (show (w1:Int) < 8 by omega)]
   walk_at "s";apply bf (SqL.of hg2) (cz eg) ?_;apply bB rfl fun u H3 nu S3 hu=>?_
   exact q u (.put p c) H3 (U.trans S3) hu ⟨by omega,by omega,hc⟩
  ·rw [ZD (show ¬ (w1:Int) < 8 by omega)]
   walk_at "s";rw [ZK (show (m:Int) < 48 by omega)];walk_at "s";rw [ZD (show ¬ (w1:Int) < 4 by omega)];walk_at "s";rw [ZD (show ¬ (w1:Int) < 6 by omega)];walk_at "s";rw [ZD (show ¬ (w1:Int) < 8 by omega)];walk_at "s";refine ut (fun _=>?_) (fun _=>?_)
   ·walk_at "s"
    apply ⟨_,g,ys,8,rfl,hg2,hne,hl,hG,by decide,fun z H3 S3 hz2=>?_⟩;apply bB rfl fun u H4 nu S4 hu=>?_
    exact q u (.retop z) H4 (U.trans (S3.trans S4)) hu hz2
   ·walk_at "s"
    apply ⟨_,g,ys,8,rfl,hg2,hne,hl,hG,by decide,fun z H3 S3 hz2=>?_⟩;apply bB rfl fun u H4 nu S4 hu=>?_
    exact q u (.retop z) H4 (U.trans (S3.trans S4)) hu hz2
 ·rw [ZD (show ¬ V.int (m:Int)=V.int 0 from fun z=>m0 (by have:=V.int.inj z;omega))]
  walk_at "s";by_cases w48:m < 48
  ·rw [ZK (show (m:Int) < 48 by omega)]
   walk_at "s";by_cases w4:w1 < 4
   ·rw [ZK (show (w1:Int) < 4 by omega)]
    walk_at "s";apply bf (SqL.of hg2) (cz eg) ?_;apply bB rfl fun u H3 nu S3 hu=>?_
    exact q u (.put p c) H3 (U.trans S3) hu ⟨by omega,by omega,hc⟩
   rw [ZD (show ¬ (w1:Int) < 4 by omega)];walk_at "s";by_cases w6:w1 < 6
   ·rw [ZK (show (w1:Int) < 6 by omega)]
    walk_at "s";rw [show (if (m:Int) > 1 then (m:Int) else 1)=(m:Int) by split <;> omega,show (p:Int) % (m:Int)=((p % m:Nat):Int) from rfl];apply bB rfl fun u H3 nu S3 hu=>?_
    exact q u (.drop (p % m)) H3 (U.trans S3) hu (by show p % m < side.cps.size;rw [hm];exact Nat.mod_lt _ (by omega))
   rw [ZD (show ¬ (w1:Int) < 6 by omega)];walk_at "s";by_cases w8:w1 < 8
   ·rw [ZK (show (w1:Int) < 8 by omega)]
    walk_at "s";apply bf (SqL.of hg2) (cz eg) ?_;rw [show (if (m:Int) > 1 then (m:Int) else 1)=(m:Int) by split <;> omega,show (p:Int) % (m:Int)=((p % m:Nat):Int) from rfl];apply bB rfl fun u H3 nu S3 hu=>?_
    exact q u (.change (p % m) c) H3 (U.trans S3) hu ⟨by show p % m < side.cps.size;rw [hm];exact Nat.mod_lt _ (by omega),hc⟩
   rw [ZD (show ¬ (w1:Int) < 8 by omega)];walk_at "s";refine ut (fun _=>?_) (fun _=>?_)
   ·walk_at "s"
    apply ⟨_,g,ys,8,rfl,hg2,hne,hl,hG,by decide,fun z H3 S3 hz2=>?_⟩;apply bB rfl fun u H4 nu S4 hu=>?_
    exact q u (.retop z) H4 (U.trans (S3.trans S4)) hu hz2
   ·walk_at "s"
    apply ⟨_,g,ys,8,rfl,hg2,hne,hl,hG,by decide,fun z H3 S3 hz2=>?_⟩;apply bB rfl fun u H4 nu S4 hu=>?_
    exact q u (.retop z) H4 (U.trans (S3.trans S4)) hu hz2
  ·rw [ZD (show ¬ (m:Int) < 48 by omega)]
   walk_at "s";by_cases w6:w1 < 6
   ·rw [ZK (show (w1:Int) < 6 by omega)]
    walk_at "s";rw [show (if (m:Int) > 1 then (m:Int) else 1)=(m:Int) by split <;> omega,show (p:Int) % (m:Int)=((p % m:Nat):Int) from rfl];apply bB rfl fun u H3 nu S3 hu=>?_
    exact q u (.drop (p % m)) H3 (U.trans S3) hu (by show p % m < side.cps.size;rw [hm];exact Nat.mod_lt _ (by omega))
   rw [ZD (show ¬ (w1:Int) < 6 by omega)];walk_at "s";by_cases w8:w1 < 8
   ·rw [ZK (show (w1:Int) < 8 by omega)]
    walk_at "s";apply bf (SqL.of hg2) (cz eg) ?_;rw [show (if (m:Int) > 1 then (m:Int) else 1)=(m:Int) by split <;> omega,show (p:Int) % (m:Int)=((p % m:Nat):Int) from rfl];apply bB rfl fun u H3 nu S3 hu=>?_
    exact q u (.change (p % m) c) H3 (U.trans S3) hu ⟨by show p % m < side.cps.size;rw [hm];exact Nat.mod_lt _ (by omega),hc⟩
   rw [ZD (show ¬ (w1:Int) < 8 by omega)];walk_at "s";refine ut (fun _=>?_) (fun _=>?_)
   ·walk_at "s"
    apply ⟨_,g,ys,8,rfl,hg2,hne,hl,hG,by decide,fun z H3 S3 hz2=>?_⟩;apply bB rfl fun u H4 nu S4 hu=>?_
    exact q u (.retop z) H4 (U.trans (S3.trans S4)) hu hz2
   ·walk_at "s"
    apply ⟨_,g,ys,8,rfl,hg2,hne,hl,hG,by decide,fun z H3 S3 hz2=>?_⟩;apply bB rfl fun u H4 nu S4 hu=>?_
    exact q u (.retop z) H4 (U.trans (S3.trans S4)) hu hz2
def NO1 (o:HO):Prop:=NO o/\o≠.lst []
def Kn1 (H H':Hp):Prop:=∀ b o,NO1 o->H b=some o->H' b=some o
theorem NdO.kn1 {H H':Hp} {top:Str} {t:Tr} {x:Addr} {hs:List V} (h:NdO mg top t H x hs) (k:Kn1 H H'):NdO mg top t H' x hs:=by
 obtain ⟨dx,n,al,ah,h1,h2,h3⟩:=h;refine ⟨dx,n,al,ah,k _ _ ⟨.inl ⟨_,_,_,_,_,_,_,rfl⟩,fun e=>by cases e⟩ h1,k _ _ ⟨.inr (.inl ⟨_,rfl⟩),fun e=>?_⟩ h2,k _ _ ⟨.inr (.inr ⟨_,rfl⟩),fun e=>by cases e⟩ h3⟩;have e1:=congrArg List.length (HO.lst.inj e);rw [bQ,j6,AaL] at e1;have:=qF t;omega
theorem Nd.kn1 {H H':Hp} {top:Str} (k:Kn1 H H'):∀ {t:Tr} {x:Addr},Nd mg top t H x->Nd mg top t H' x
 | .lf _,_,h=>NdO.kn1 h k
 | .nd _ _,_,h=>by
  obtain ⟨y,z,h1,h2,h3⟩:=h;exact ⟨y,z,h1.kn1 k,h2.kn1 k,h3.kn1 k⟩
theorem Kp.kn1 {H H':Hp} {x:Addr} {side top:Str} (h:Kp mg H x side top) (hx:∀ o,H x=some o->H' x=some o) (k:Kn1 H H'):Kp mg H' x side top:=by
 obtain ⟨hs,ht,dx,b,v,⟨k',e⟩,hR⟩:=h;refine ⟨hs,ht,dx,b,v,⟨k',hx _ e⟩,?_⟩;rcases hR with h | ⟨y,t,e,ec,hn⟩
 ·exact .inl h
 ·exact .inr ⟨y,t,e,ec,hn.kn1 k⟩
def Rfs (us:List V):Prop:=∀ v∈us,∃ a:Addr,v= .ref a
theorem Rfs.no {us:List V} (h:Rfs us):¬ NO1 (.lst us):=by
 rintro ⟨⟨_,_,_,_,_,_,_,e⟩ | ⟨L,e⟩ | ⟨_,e⟩,ne⟩
 ·cases e
 ·have e2:=HO.lst.inj e
  match L,us,h,e2 with
  | [],_,_,e2=>exact ne (by rw [e2];rfl)
  | a :: L,[],_,e2=>cases e2
  | a :: L,v :: us,h,e2=>
   obtain ⟨r,rfl⟩:=h v (Aak ..);cases (List.cons.inj e2).1
 ·cases e
theorem Rfs.nost {us:List V} {a b:Str} (h:Rfs us) (e:us=[.str a,.str b]):False:=by
 obtain ⟨r,z⟩:=h (.str a) (by rw [e];exact Aak ..);cases z
def Un (H:Hp) (l:Addr) (side top:Str) (n:Nat):Prop:=∃ uds:List (Addr×Dd),H l=some (.lst (uds.reverse.map fun p=>V.ref p.1))/\(∀ p∈uds,H p.1=some (.tup p.2.val))/\WY side top (uds.map Prod.snd)/\uds.length<=n
theorem Bf (uds:List (Addr×Dd)):Rfs (uds.map fun p=>V.ref p.1):=fun v hv=>by
 obtain ⟨p,_,e⟩:=Aam.mp hv;exact ⟨_,e.symm⟩
def Pu (mg:Str->Option Value) (H:Hp) (x r l:Addr) (side top:Str) (n:Nat):Prop:=Pr mg H x r side top/\Un H l side top n
def Zg (x r l:Addr) (H H':Hp):Prop:=∀ b o,b≠x->b≠r->b≠l->H b=some o->H' b=some o
theorem Pu.same {H H':Hp} {x r l:Addr} {side top:Str} {n:Nat} (h:Pu mg H x r l side top n) (s:Same H H'):Pu mg H' x r l side top n:=by
 obtain ⟨h,uds,h1,h2,h3⟩:=h;exact ⟨h.same s,uds,s _ _ h1,fun p m=>s _ _ (h2 p m),h3⟩
theorem Pr.at_ {H:Hp} {x r a:Addr} {side top:Str} {us:List V} {o:HO} (h:Pr mg H x r side top) (ha:H a=some (.lst us)) (hu:Rfs us):Pr mg (upd H a o) x r side top:=by
 obtain ⟨h,h0⟩:=h;have nx:x≠a:=Ne.symm (h.ne ha);have nr:r≠a:=fun z=>by rw [z,ha] at h0;exact hu.nost (HO.lst.inj (Z2 h0))
 exact ⟨h.kn1 (fun u e=>by rw [aC nx];exact e) (fun b u nu e=>by rw [aC (fun z=>by rw [z,ha] at e;cases e;exact hu.no nu)];exact e),by rw [aC nr];exact h0⟩
theorem Pu.set {H:Hp} {x r l a:Addr} {side top:Str} {n:Nat} {us:List V} {o:HO} (h:Pu mg H x r l side top n) (ne:l≠a) (ha:H a=some (.lst us)) (hu:Rfs us):Pu mg (upd H a o) x r l side top n:=by
 obtain ⟨h,uds,h1,h2,h3⟩:=h;refine ⟨h.at_ ha hu,uds,by rw [aC ne];exact h1,fun p m=>?_,h3⟩;rw [aC (fun z=>by have:=h2 p m;rw [z,ha] at this;cases this)];exact h2 p m
theorem Pu.three {H H':Hp} {x r l y r2 l2:Addr} {side top side' top':Str} {n m:Nat} (h:Pu mg H y r2 l2 side top n) (hx:Pu mg H x r l side' top' m) (ne:y≠x) (nr:r2≠r) (nl:l2≠l) (t:Zg x r l H H'):Pu mg H' y r2 l2 side top n:=by
 obtain ⟨⟨h,h0⟩,uds,h1,h2,h3⟩:=h;obtain ⟨⟨g,g0⟩,vds,g1,g2,g3⟩:=hx;have ny1:y≠r:=Ne.symm (h.ne g0);have ny2:y≠l:=Ne.symm (h.ne g1);have rf:=Bf uds.reverse;have rg:=Bf vds.reverse;refine ⟨⟨h.kn1 (fun u e=>t _ _ ne ny1 ny2 e) (fun b u nu e=>t _ _ (fun z=>?_) (fun z=>?_) (fun z=>?_) e),t _ _ (g.ne h0) nr (fun z=>?_) h0⟩,uds,t _ _ (g.ne h1) (fun z=>?_) nl h1,fun p m=>?_,h3⟩
 ·obtain ⟨_,_,dx,b',v',⟨k',hx'⟩,_⟩:=g
  rw [z,hx'] at e;cases e;exact cI nu.1
 ·rw [z,g0] at e;cases e;exact v4 nu.1
 ·rw [z,g1] at e;cases e;exact rg.no nu
 ·rw [z,g1] at h0;exact rg.nost (HO.lst.inj (Z2 h0))
 ·rw [z,g0] at h1;exact rf.nost (HO.lst.inj (Z2 h1)).symm
 ·have e:=h2 p m
  obtain ⟨_,_,dx,b',v',⟨k',hx'⟩,_⟩:=g;exact t _ _ (fun z=>by rw [z,hx'] at e;cases e) (fun z=>by rw [z,g0] at e;cases e) (fun z=>by rw [z,g1] at e;cases e) e
theorem Pu.mono {H:Hp} {x r l:Addr} {side top:Str} {n m:Nat} (h:Pu mg H x r l side top n) (le:n<=m):Pu mg H x r l side top m:=by
 obtain ⟨h,uds,h1,h2,h3,h4⟩:=h;exact ⟨h,uds,h1,h2,h3,ZG h4 le⟩
theorem W0 (d:Dd):∃ z:Str,Dy d.val 0=some (.str z):=by cases d <;> exact ⟨_,rfl⟩
def W2 (mg:Str->Option Value):Sp:=fun vs H Q _=>∃ (x r l g:Addr) (c:Int) (side top:Str) (ys:List Str) (n:Nat),vs=[.ref x,.ref r,.ref l,.int c,.ref g]/\Pu mg H x r l side top n/\n < 1000/\H g=some (.lst (ys.map V.str))/\ys≠[]/\ys.length<=27/\GoodS ys/\
 ∀ z s2 t2 H',Zg x r l H H'->Pu mg H' x r l s2 t2 (n+1)->Q (.str z) H'
theorem qM:aD ["_law_kept","_law_rows","_law_undone","_law_cell_here","_law_signs_here","_law_deed_here"] ["_law_kept","_law_rows","_law_undone","_law_cell_here","_law_signs_here"] (az tD):=⟨rfl,rfl,rfl,by trivial,rfl,by trivial,by trivial⟩
theorem tV (T:Txt K mg):Has P w K mg base 63 "_law_step" ["_law_kept","_law_rows","_law_undone","_law_cell_here","_law_signs_here"] (W2 mg):=by
 have pL:=@pL P w K mg base T;have bD:=@bD P w K mg base T;have pM:=@pM P w K mg base T;walk_at "@fY 5 T.d_law_step qM";obtain ⟨x,r,l,g,c,side,top,ys,n,rfl,⟨hP,uds,hl,hts,hU,hn⟩,hn1,hg,hne,hgl,hG,q⟩:=h;walk_at "=qM;!1P~!xT/,{bD}&-$KAAV~$u~`(S!'#5^}C(!6,{pL}FD$.%)/.!'#5^,{pM}&-D$+!6O($,{pL}FD$.%)/.";have hr0:=hP.2;have hz:20000<=sizeLine:=by decide
 apply bB rfl fun b H1 nb S1 hb=>?_
 apply ⟨c,b,[2,2,10],rfl,hb,by show 3<=1000;decide,by decide,fun e ms H2 nd S2 hd2 hF=>?_⟩;obtain ⟨m1,m2,w1,rfl,_,_,b3⟩:=Ov hF;have U:=S1.trans S2;have rf:=Bf uds.reverse
 have lr:l≠r:=fun z=>by
  rw [z,hr0] at hl;exact rf.nost (HO.lst.inj (Z2 hl)).symm
 have lx:=hP.1.ne hl
 have neT:∀ {G:Hp} {u:Addr} {us:List V},Pr mg G x r side top->G l=some (.lst (uds.reverse.map fun p=>V.ref p.1))->G u=some (.tup us)->u≠x/\u≠r/\u≠l:=fun {G u us} p e1 e=>by
  refine ⟨fun z=>?_,fun z=>?_,fun z=>?_⟩
  ·obtain ⟨⟨_,_,dx,b',v',⟨k',hx'⟩,_⟩,_⟩:=p
   rw [z,hx'] at e;cases e
  ·rw [z,p.2] at e;cases e
  ·rw [z,e1] at e;cases e
 have fin:∀ (u u2:Addr) (d:Dd) (G G2:Hp),Same H G->G u=some (.tup d.val)->d.ok side->Tw2 x r G G2->Pr mg G2 x r (d.side side) (d.top top)->G2 u2=some (.tup (d.undo side top).val)->upd G2 l (.lst ((uds.reverse.map fun p=>V.ref p.1) ++ [.ref u2])) u=some (.tup d.val)/\Zg x r l H (upd G2 l (.lst ((uds.reverse.map fun p=>V.ref p.1) ++ [.ref u2])))/\Pu mg (upd G2 l (.lst ((uds.reverse.map fun p=>V.ref p.1) ++ [.ref u2]))) x r l (d.side side) (d.top top) (n+1):=fun u u2 d G G2 S hu hok T hP2 hu2=>by
  have lG:=S _ _ hl;have l2:=T _ _ lx lr lG;obtain ⟨e1,e2,e3⟩:=neT (hP.same S) lG hu;have b:=d.back hP.1.row.1 hP.1.row.2 hok;refine ⟨by rw [aC e3];exact T _ _ e1 e2 hu,fun b o n1 n2 n3 e=>by rw [aC n3];exact T _ _ n1 n2 (S _ _ e),hP2.at_ l2 rf,(u2,d.undo side top) :: uds,?_,fun p m=>?_,⟨b.1,?_⟩,Nat.succ_le_succ hn⟩
  ·rw [aj,List.reverse_cons,ZR];rfl
  ·rcases ZQ.mp m with rfl | m
   ·rw [aC (fun z=>by rw [show u2=l from z,l2] at hu2;cases hu2)];exact hu2
   ·obtain ⟨f1,f2,f3⟩:=neT (hP.same S) lG (S _ _ (hts p m))
    rw [aC f3];exact T _ _ f1 f2 (S _ _ (hts p m))
  ·show WY ((d.undo side top).side (d.side side)) ((d.undo side top).top (d.top top)) (uds.map Prod.snd)
   rw [b.2.1,b.2.2.1];exact hU
 have hr2:=U _ _ hr0;have hl2:=U _ _ hl;apply bf (SqL.of hd2) rfl ?_;by_cases h9:w1=9
 ·rw [ZK (show V.int (w1:Int)=V.int 9 by rw [h9];rfl)]
  walk_at "s";apply bB rfl fun f H3 nf S3 hf=>?_
  have U3:=U.trans S3;have hl3:=U3 _ _ hl;cases uds with
  | nil=>
   apply MK hl3 hf (fun v hv=>by cases hv) ?_;apply ⟨c,r,g,side,top,ys,rfl,U3 _ _ hr0,hP.1.row.1,U3 _ _ hg,hne,hgl,hG,fun u d H4 S4 hu hok=>?_⟩;have U4:=U3.trans S4;apply ⟨.inl ⟨rfl,_,SqL.of (U4 _ _ hl)⟩,?_⟩;apply ⟨x,r,u,side,top,d,rfl,hP.same U4,hu,hok,fun u2 H5 T5 hP5 hu5=>?_⟩;obtain ⟨f1,f2,f3⟩:=fin u u2 d H4 H5 U4 hu hok T5 hP5 hu5;apply cB (T5 _ _ lx lr (U4 _ _ hl)) (Z1 (by decide:0 < 20000) hz) ?_;obtain ⟨z,ez⟩:=W0 d;apply fB (SqT.of f1) ez ?_;exact q z _ _ _ f2 f3
  | cons p rest=>
   apply Wc hl3 hf (by simp) ?_;obtain ⟨hok,hU2⟩:=hU;have er:((p :: rest).reverse.map fun p=>V.ref p.1)=(rest.reverse.map fun p=>V.ref p.1) ++ [.ref p.1]:=by rw [List.reverse_cons,ZR];rfl
   apply ⟨.inl ⟨rfl,_,SqL.of hl3⟩,?_⟩;apply ⟨l,_,.ref p.1,rfl,rfl,hl3,by rw [er];simp,?_⟩;rw [er,List.dropLast_concat];have hp3:=U3 _ _ (hts p (Aak ..));have P3:=hP.same U3;have P4:=P3.at_ (o:=.lst (rest.reverse.map fun p=>V.ref p.1)) hl3 rf;have hp4:upd H3 l (.lst (rest.reverse.map fun p=>V.ref p.1)) p.1=_:=(aC (neT P3 hl3 hp3).2.2).trans hp3;apply ⟨x,r,p.1,side,top,p.2,rfl,P4,hp4,hok,fun u H5 T5 hP5 hu5=>?_⟩;obtain ⟨z,ez⟩:=W0 p.2;apply fB (SqT.of (T5 _ _ (neT P3 hl3 hp3).1 (neT P3 hl3 hp3).2.1 hp4)) ez ?_;refine q z _ _ H5 (fun b o n1 n2 n3 e=>T5 _ _ n1 n2 (by rw [aC n3];exact U3 _ _ e)) ⟨hP5,rest,T5 _ _ lx lr aj,fun p' m=>?_,hU2,by simp at hn;omega⟩;have h':=U3 _ _ (hts p' (ZZ _ m));obtain ⟨f1,f2,f3⟩:=neT P3 hl3 h';exact T5 _ _ f1 f2 (by rw [aC f3];exact h')
 ·rw [ZD (show ¬ V.int (w1:Int)=V.int 9 from fun z=>h9 (by have:=V.int.inj z;omega))]
  walk_at "s";apply ⟨c,r,g,side,top,ys,rfl,hr2,hP.1.row.1,U _ _ hg,hne,hgl,hG,fun u d H4 S4 hu hok=>?_⟩;have U4:=U.trans S4;apply ⟨.inl ⟨rfl,_,SqL.of (U4 _ _ hl)⟩,?_⟩;apply ⟨x,r,u,side,top,d,rfl,hP.same U4,hu,hok,fun u2 H5 T5 hP5 hu5=>?_⟩;obtain ⟨f1,f2,f3⟩:=fin u u2 d H4 H5 U4 hu hok T5 hP5 hu5;apply cB (T5 _ _ lx lr (U4 _ _ hl)) (by simp;omega) ?_;obtain ⟨z,ez⟩:=W0 d;apply fB (SqT.of f1) ez ?_;exact q z _ _ _ f2 f3
theorem R3 {xs:List V} {lo hi:Option Int} {v:V} (h:v∈n8 xs lo hi):v∈xs:=by
 unfold n8 at h;exact AbP (Aa8 h)
theorem R5 {xs:List V} {lo:Option Int} {n:Nat}:(n8 xs lo (some (n:Int))).length<=n:=by
 unfold n8;rw [HT.sIx_nat,ZW];omega
theorem Zh {ms:List Int} {x y z v:Int} (h:Fits ms [x,y,z,v]):∃ a b c d:Nat,ms=[(a:Int),(b:Int),(c:Int),(d:Int)]/\(a:Int) < x/\(b:Int) < y/\(c:Int) < z/\(d:Int) < v:=by
 obtain ⟨h1,h2⟩:=h
 match ms,h1 with
 | [a,b,c,d],_=>
  obtain ⟨a0,a1⟩:=h2 0 a x rfl rfl;obtain ⟨b0,b1⟩:=h2 1 b y rfl rfl;obtain ⟨c0,c1⟩:=h2 2 c z rfl rfl;obtain ⟨d0,d1⟩:=h2 3 d v rfl rfl;exact ⟨a.toNat,b.toNat,c.toNat,d.toNat,by rw [Aae a0,Aae b0,Aae c0,Aae d0],by omega,by omega,by omega,by omega⟩
def Ks (H:Hp) (L:List Addr):Prop:=(∀ a∈L,∃ o,H a=some o)/\L.Nodup
theorem Ks.ins {H H':Hp} {A B:List Addr} {p:Addr} {o:HO} (h:Ks H (A ++ B)) (n:H p=none) (s:Same H H') (e:H' p=some o):Ks H' (A ++ p :: B):=by
 obtain ⟨h1,h2⟩:=h;refine ⟨fun a m=>?_,List.perm_middle.nodup_iff.mpr (Abm.mpr ⟨fun m=>?_,h2⟩)⟩
 ·rcases Aaw.mp m with m | m
  ·obtain ⟨u,e⟩:=h1 a (AbM _ m)
   exact ⟨u,s _ _ e⟩
  ·rcases ZQ.mp m with rfl | m
   ·exact ⟨o,e⟩
   ·obtain ⟨u,e⟩:=h1 a (Aau _ m)
    exact ⟨u,s _ _ e⟩
 ·obtain ⟨u,e⟩:=h1 p m
  rw [n] at e;cases e
theorem Ks.same {H H':Hp} {L:List Addr} (h:Ks H L) (s:Same H H'):Ks H' L:=⟨fun a m=>let ⟨o,e⟩:=h.1 a m;⟨o,s _ _ e⟩,h.2⟩
theorem Ks.upd {H:Hp} {L:List Addr} {a:Addr} {o:HO} (h:Ks H L):Ks (upd H a o) L:=⟨fun b m=>by
 by_cases e:b=a
 ·rw [e];exact ⟨o,aj⟩
 ·rw [aC e];exact h.1 b m,h.2⟩
theorem Ks.tail {H:Hp} {L:List Addr} {a:Addr} (h:Ks H (a :: L)):Ks H L:=⟨fun b m=>h.1 b (ZZ _ m),(Abm.mp h.2).2⟩
theorem Ks.ne {H:Hp} {L:List Addr} (h:Ks H L) (i j:Nat) {a b:Addr} (ha:L[i]?=some a) (hb:L[j]?=some b) (ij:i < j):a≠b:=fun z=>by
 obtain ⟨h1,e1⟩:=Zx.mp ha;obtain ⟨h2,e2⟩:=Zx.mp hb;exact Abk.mp h.2 i j h1 h2 ij (by rw [e1,e2];exact z)
structure LI (mg:Str->Option Value) (x r1 l1 hh rr uu g sl:Addr) (ys zs:List V) (k:Nat) (y r2 l2:Addr) (G:Hp):Prop where
 a:∃ s t,Pu mg G x r1 l1 s t k
 b:∃ s t,Pu mg G y r2 l2 s t k
 xy:y≠x
 ks:Ks G [l2,r2,sl,uu,l1,rr,r1,hh,g]
 h1:G hh=some (.lst [.ref x,.ref y])
 h2:G rr=some (.lst [.ref r1,.ref r2])
 h3:G uu=some (.lst [.ref l1,.ref l2])
 h4:G g=some (.lst ys)
 h5:G sl=some (.lst zs)
theorem zG (a b:Addr):Rfs [V.ref a,V.ref b]:=fun v m=>by
 rcases ZQ.mp m with rfl | m
 ·exact ⟨_,rfl⟩
 ·exact ⟨_,Aad.mp m⟩
section
variable {x r1 l1 hh rr uu g sl:Addr} {ys zs:List V} {k:Nat} {y r2 l2:Addr} {G G':Hp}
theorem LI.same (h:LI mg x r1 l1 hh rr uu g sl ys zs k y r2 l2 G) (s:Same G G'):LI mg x r1 l1 hh rr uu g sl ys zs k y r2 l2 G':=by
 obtain ⟨⟨s1,t1,P1⟩,⟨s2,t2,P2⟩,xy,ks,h1,h2,h3,h4,h5⟩:=h;exact ⟨⟨s1,t1,P1.same s⟩,⟨s2,t2,P2.same s⟩,xy,ks.same s,s _ _ h1,s _ _ h2,s _ _ h3,s _ _ h4,s _ _ h5⟩
theorem LI.step0 {s t:Str} (h:LI mg x r1 l1 hh rr uu g sl ys zs k y r2 l2 G) (T:Zg x r1 l1 G G') (P:Pu mg G' x r1 l1 s t (k+1)):LI mg x r1 l1 hh rr uu g sl ys zs (k+1) y r2 l2 G':=by
 obtain ⟨⟨s1,t1,P1⟩,⟨s2,t2,P2⟩,xy,ks,h1,h2,h3,h4,h5⟩:=h;have kp:∀ {b:Addr} {us:List V},b≠r1->b≠l1->G b=some (.lst us)->G' b=some (.lst us):=fun n1 n2 e=>T _ _ (P1.1.1.ne e) n1 n2 e
 have Q2:=P2.three P1 xy (ks.ne 1 6 rfl rfl (by decide)) (ks.ne 0 4 rfl rfl (by decide)) T;have k1:=kp (Ne.symm (ks.ne 6 7 rfl rfl (by decide))) (Ne.symm (ks.ne 4 7 rfl rfl (by decide))) h1;have k2:=kp (ks.ne 5 6 rfl rfl (by decide)) (Ne.symm (ks.ne 4 5 rfl rfl (by decide))) h2;have k3:=kp (ks.ne 3 6 rfl rfl (by decide)) (ks.ne 3 4 rfl rfl (by decide)) h3;have k4:=kp (Ne.symm (ks.ne 6 8 rfl rfl (by decide))) (Ne.symm (ks.ne 4 8 rfl rfl (by decide))) h4;have k5:=kp (ks.ne 2 6 rfl rfl (by decide)) (ks.ne 2 4 rfl rfl (by decide)) h5;obtain ⟨⟨_,a1⟩,_,a2,_⟩:=id P;obtain ⟨⟨_,b1⟩,_,b2,_⟩:=id Q2
 exact ⟨⟨s,t,P⟩,⟨s2,t2,Q2.mono (Nat.le_succ k)⟩,xy,⟨fun b m=>by
  simp only [ZQ,List.not_mem_nil,or_false] at m;rcases m with rfl | rfl | rfl | rfl | rfl | rfl | rfl | rfl | rfl <;> exact ⟨_,by assumption⟩,ks.2⟩,k1,k2,k3,k4,k5⟩
theorem LI.step1 {s t:Str} (h:LI mg x r1 l1 hh rr uu g sl ys zs k y r2 l2 G) (T:Zg y r2 l2 G G') (P:Pu mg G' y r2 l2 s t (k+1)):LI mg x r1 l1 hh rr uu g sl ys zs (k+1) y r2 l2 G':=by
 obtain ⟨⟨s1,t1,P1⟩,⟨s2,t2,P2⟩,xy,ks,h1,h2,h3,h4,h5⟩:=h;have kp:∀ {b:Addr} {us:List V},r2≠b->l2≠b->G b=some (.lst us)->G' b=some (.lst us):=fun n1 n2 e=>T _ _ (P2.1.1.ne e) (Ne.symm n1) (Ne.symm n2) e
 have Q2:=P1.three P2 (Ne.symm xy) (Ne.symm (ks.ne 1 6 rfl rfl (by decide))) (Ne.symm (ks.ne 0 4 rfl rfl (by decide))) T;have k1:=kp (ks.ne 1 7 rfl rfl (by decide)) (ks.ne 0 7 rfl rfl (by decide)) h1;have k2:=kp (ks.ne 1 5 rfl rfl (by decide)) (ks.ne 0 5 rfl rfl (by decide)) h2;have k3:=kp (ks.ne 1 3 rfl rfl (by decide)) (ks.ne 0 3 rfl rfl (by decide)) h3;have k4:=kp (ks.ne 1 8 rfl rfl (by decide)) (ks.ne 0 8 rfl rfl (by decide)) h4;have k5:=kp (ks.ne 1 2 rfl rfl (by decide)) (ks.ne 0 2 rfl rfl (by decide)) h5;obtain ⟨⟨_,a1⟩,_,a2,_⟩:=id P;obtain ⟨⟨_,b1⟩,_,b2,_⟩:=id Q2
 exact ⟨⟨s1,t1,Q2.mono (Nat.le_succ k)⟩,⟨s,t,P⟩,xy,⟨fun b m=>by
  simp only [ZQ,List.not_mem_nil,or_false] at m;rcases m with rfl | rfl | rfl | rfl | rfl | rfl | rfl | rfl | rfl <;> exact ⟨_,by assumption⟩,ks.2⟩,k1,k2,k3,k4,k5⟩
end
def TJ (K:W.Frag):Sp:=fun vs H Q _=>∃ (a:Addr) (ns:List Int),vs=[.ref a]/\SqL K H a (ns.map V.int)/\∀ H',Q (.bl true) H'
theorem jx:aD ["_law_script","_law_signs_here","_law_side","_law_top","_law_houses","_law_rows","_law_undones","_law_last","_law_cell_here","_law_at","_law_ask","_law_word","_law_twin"] ["_law_script"] (az Ce):=⟨rfl,rfl,rfl,by trivial,rfl,by trivial,by trivial⟩
theorem Xa (T:Txt K mg) {f0:Addr} {fd0:FuncData} (F0:Fun K "law" "law" Ce f0 fd0):FnOk P w K mg base HD 64 f0 fd0 ["_law_script"] (TJ K):=by
 have qJ:=@qJ P w K mg base T;have mz:=@mz P w K mg base T;have jO:=@jO P w K mg base T;have cV:=@cV P w K mg base T;have bD:=@bD P w K mg base T;have tV:=@tV P w K mg base T;have qK:=@qK P w K mg base T;have iD:=@iD P w K mg base T;refine okJ F0 jx ?_ fun f cdv A outer s H vs Q E hr h=>?_
 ·rintro vs H Q E ⟨a,ns,rfl,_⟩;rfl
 obtain ⟨a,ns,rfl,hS,q⟩:=h;have hu:=hr.units0;have hu64:=hr.units;walk_at "=jx;!'#1^,{qJ}$,{mz}FV!'#2^,{jO}&,{mz}FVDV!'#3^,{jO}&,{mz}FVDV!'#4^K&~c{cV}2X&(L$~c{cV}2X&-?!'#5^K&K&(L$K&-?!'#6^K&S$S!~d#7^!1~W=0?0L%~d#7^!Jd}DM:~AUa3#8^!~,,{bD}&w$KAAAV~-G3#9^G3#:^G3#;^R3#<^!1xT~%#<!g~C/+{qK}2Xz+!g~4$/.z.%g~4$/9z9!6,{tV}&B+~%#9&B.~%#9&B9~%#9&w8%1xT~%#:%1PbNW,{iD}&/+$/.cNW,{iD}&/+$/.t%)q,{iD}&/+$/.r,{iD}&/+$/.";have hz:20000<=sizeLine:=by decide
 apply ⟨a,ns,0,rfl,hS,fun n0=>?_⟩;apply ⟨n0,rfl,fun g ys H1 ng S1 hg hne hl hG=>?_⟩;apply ⟨a,ns,1,rfl,S1.seq hS,fun n1=>?_⟩;apply ⟨n1,g,ys,24,rfl,hg,hne,hl,hG,by decide,fun side H2 S2 hs=>?_⟩;apply ⟨a,ns,2,rfl,(S1.trans S2).seq hS,fun n2=>?_⟩;apply ⟨n2,g,ys,24,rfl,S2 _ _ hg,hne,hl,hG,by decide,fun top H3 S3 ht=>?_⟩;rintro x dx nx nd nxd;refine ⟨x,dx,side,top,rfl,aj,hs,ht,fun H4 C4 hP=>⟨rfl,?_⟩⟩;have S4:=made nx nd C4;walk_at "s";rintro y dy ny ndy nyd;refine ⟨y,dy,top,side,rfl,aj,ht,hs,fun H5 C5 hR=>⟨rfl,?_⟩⟩;have S5:=made ny ndy C5
 have nyx:y≠x:=fun z=>by
  obtain ⟨_,_,d',b',v',⟨k',e⟩,_⟩:=hP;rw [← z,ny] at e;cases e
 have k0:Ks H5 [g]:=⟨fun b m=>by rw [Aad.mp m];exact ⟨_,(S2.trans (S3.trans (S4.trans S5))) _ _ hg⟩,by simp⟩;have hg5:=(S2.trans (S3.trans (S4.trans S5))) _ _ hg;have hS5:=(S1.trans (S2.trans (S3.trans (S4.trans S5)))).seq hS;have hP5:=hP.same S5;clear hP S4 S5 C4 C5 S1 S2 S3 hg;walk_at "s";apply bB rfl fun hh H6 nh S6 hhh=>?_
 have k1:=k0.ins (A:=[]) nh S6 hhh;apply bB rfl fun r1 H7 n1' S7 hr1=>?_
 have k2:=k1.ins (A:=[]) n1' S7 hr1;apply bB rfl fun r2 H8 n2' S8 hr2=>?_
 have k3:=k2.ins (A:=[]) n2' S8 hr2;apply bB rfl fun rr H9 nr S9 hrr=>?_
 have k4:=k3.ins (A:=[r2]) nr S9 hrr;apply bB rfl fun l1 H10 n3' S10 hl1=>?_
 have k5:=k4.ins (A:=[r2]) n3' S10 hl1;apply bB rfl fun l2 H11 n4' S11 hl2=>?_
 have k6:=k5.ins (A:=[]) n4' S11 hl2;refine bB rfl fun uu H12 nu S12 huu=>?_
 walk_at "n";have k7:=k6.ins (A:=[l2,r2]) nu S12 huu;have U12:=S10.trans (S11.trans S12);have U9:=S8.trans (S9.trans U12);have U6:=S6.trans (S7.trans U9);have e1:=U12 _ _ hrr;have e2:=(S7.trans U9) _ _ hhh;have e3:=U6 _ _ hg5;have PA:Pu mg H12 x r1 l1 side top 0:=⟨⟨hP5.same U6,U9 _ _ hr1⟩,[],(S11.trans S12) _ _ hl1,(fun p m=>by cases m),trivial,ZC 0⟩;have PB:Pu mg H12 y r2 l2 top side 0:=⟨⟨hR.same U6,(S9.trans U12) _ _ hr2⟩,[],S12 _ _ hl2,(fun p m=>by cases m),trivial,ZC 0⟩;have hS12:=U6.seq hS5;clear hP5 hR S6 S7 S8 S9 S10 S11 S12 U12 U9 U6 hl1 hl2 hr1 hr2 hhh hrr hg5 nh n1' n2' nr n3' n4' nu k0 k1 k2 k3 k4 k5 k6 hS5;with_reducible refine mH ?_
 walk_at "n";with_reducible refine Mr (fun U G=>G=H12/\∃ last:Nat,last<=27/\U=[some (.ref a),some (.ref g),some (.str side),some (.str top),some (.ref hh),some (.ref rr),some (.ref uu),some (.int last),none,none,none,none,none]) ?_ ?_
 rotate_left
 ·intro N hN
  walk_at "n";refine bL (ZG hs.1 (by decide)) ?_;walk_at "n";refine bL (ZG ht.1 (by decide)) ?_;walk_at "n";refine ut (fun _=>?_) (fun _=>?_)
  ·walk_at "n"
   exact hN _ _ ⟨rfl,10,by decide,rfl⟩
  ·walk_at "n"
   exact hN _ _ ⟨rfl,27,by decide,rfl⟩
 rintro U G ⟨eG,last,h27,rfl⟩;replace eG:=eG.symm;subst eG;walk_at "s";refine .inl (Ss hS12 fun sl nsl=>?_);have S13:=(Same.refl H12).upd nsl (o:=.lst (n8 (ns.map V.int) (some 3) (some last)));have hsl:=aj (H:=H12) (a:=sl) (o:=.lst (n8 (ns.map V.int) (some 3) (some last)));have k8:=k7.ins (A:=[l2,r2]) nsl S13 hsl;generalize upd H12 sl (.lst (n8 (ns.map V.int) (some 3) (some last)))=H13 at S13 hsl k8 ⊢;have zl:=R5 (xs:=ns.map V.int) (lo:=some 3) (n:=last)
 have zi:∀ v∈n8 (ns.map V.int) (some 3) (some last),∃ c:Int,v= .int c:=fun v m=>by
  obtain ⟨c,_,e⟩:=Aam.mp (R3 m);exact ⟨c,e.symm⟩
 generalize n8 (ns.map V.int) (some 3) (some last)=zs at*;walk_at "s";refine .inl ⟨sl,rfl,⟨_,SqL.of hsl⟩,?_⟩
 refine wW (xs:=zs) (fun k U G=>∃ y r2 l2 x8 x9 x10 x11 x12,U=[some (.ref a),some (.ref g),some (.str side),some (.str top),some (.ref hh),some (.ref rr),some (.ref uu),some (.int last),x8,x9,x10,x11,x12]/\LI mg x r1 l1 hh rr uu g sl (ys.map V.str) zs k y r2 l2 G)
  ⟨y,r2,l2,_,_,_,_,_,rfl,⟨_,_,PA.same S13⟩,⟨_,_,PB.same S13⟩,nyx,k8,S13 _ _ e2,S13 _ _ e1,S13 _ _ huu,S13 _ _ e3,hsl⟩ (fun i U G _ h=>by obtain ⟨_,_,_,_,_,_,_,_,_,h⟩:=h;exact SqL.of h.h5) ?_ ?_
 ·rintro k v U G hv ⟨y,r2,l2,x8,x9,x10,x11,x12,rfl,I⟩
  obtain ⟨c,rfl⟩:=zi v (Z0 hv);have hk:=(Zx.mp hv).1;walk_at "n";try with_reducible refine mH ?_
  walk_at "n";refine bB rfl fun b G1 nb S1 hb=>?_
  walk_at "n";refine ⟨c,b,[2,2,10,6],rfl,hb,by show 4<=1000;decide,by decide,fun d ms G2 nd S2 hd hF=>?_⟩;walk_at "n";obtain ⟨m1,m2,m3,m4,rfl,b1,b2,_,b4⟩:=Zh hF;refine ⟨d,[.int m1,.int m2,.int m3,.int m4],rfl,.inr (SqL.of hd),rfl,?_⟩;walk_at "n";have I:=I.same (S1.trans S2);clear hb nb S1 S2 hd nd hF;with_reducible refine Mr (fun U G=>∃ y r2 l2,U=[some (.ref a),some (.ref g),some (.str side),some (.str top),some (.ref hh),some (.ref rr),some (.ref uu),some (.int last),some (.int c),some (.int m1),some (.int m2),some (.int m3),some (.int m4)]/\LI mg x r1 l1 hh rr uu g sl (ys.map V.str) zs k y r2 l2 G) ?_ ?_
  rotate_left
  ·intro N hN
   walk_at "n";refine ut (fun _=>?_) (fun _=>?_)
   ·obtain ⟨⟨s1,t1,P1⟩,⟨s2,t2,P2⟩,xy,ks,h1,h2,h3,h4,h5⟩:=I
    obtain ⟨_,_,dx',b',v',⟨k',hx'⟩,_⟩:=id P1.1.1;walk_at "s";apply ⟨x,dx',_,rfl,hx',bz (Bb _) (by trivial),?_⟩;apply ⟨x,s1,t1,rfl,P1.1.1,fun y' G3 ny S3 hK=>?_⟩;have xy':y'≠x:=fun z=>by rw [z,hx'] at ny;cases ny
    have uh:=ks.ne 3 7 rfl rfl (by decide);have ur:=ks.ne 3 5 rfl rfl (by decide);have ul:=ks.ne 3 4 rfl rfl (by decide);have ug:=ks.ne 3 8 rfl rfl (by decide);have lr:=ks.ne 4 5 rfl rfl (by decide);have lh:=ks.ne 4 7 rfl rfl (by decide);have rh:=ks.ne 5 7 rfl rfl (by decide);have rg:=ks.ne 5 8 rfl rfl (by decide);have hg':=ks.ne 7 8 rfl rfl (by decide);have su:=ks.ne 2 3 rfl rfl (by decide);have sr:=ks.ne 2 5 rfl rfl (by decide);have sh:=ks.ne 2 7 rfl rfl (by decide);replace P1:=P1.same S3;have PB:Pu mg G3 y' r1 l1 s1 t1 k:=⟨⟨hK,P1.1.2⟩,P1.2⟩;replace ks:=(ks.tail.tail).same S3;replace h1:=S3 _ _ h1;replace h2:=S3 _ _ h2;replace h3:=S3 _ _ h3;replace h4:=S3 _ _ h4;replace h5:=S3 _ _ h5;clear P2 hK hx' S3;apply cu h1 rfl ?_;rw [show ([V.ref x,V.ref y]:List V).set (Int.toNat 1) (V.ref y')=[V.ref x,V.ref y'] from rfl];replace P1:=P1.set (o:=.lst [.ref x,.ref y']) lh h1 (zG x y);replace PB:=PB.set (o:=.lst [.ref x,.ref y']) lh h1 (zG x y);replace ks:=ks.upd (a:=hh) (o:=.lst [.ref x,.ref y']);replace h1:=aj (H:=G3) (a:=hh) (o:=.lst [.ref x,.ref y']);replace h2:=(aC (H:=G3) (o:=.lst [.ref x,.ref y']) rh).trans h2;replace h3:=(aC (H:=G3) (o:=.lst [.ref x,.ref y']) uh).trans h3;replace h4:=(aC (H:=G3) (o:=.lst [.ref x,.ref y']) (Ne.symm hg')).trans h4;replace h5:=(aC (H:=G3) (o:=.lst [.ref x,.ref y']) sh).trans h5;generalize upd G3 hh (.lst [.ref x,.ref y'])=G4 at*;walk_at "s";apply wH (SqL.of P1.1.2) fun p np=>?_
    have S5:=(Same.refl G4).upd np (o:=.lst [.str s1,.str t1]);have hp:=aj (H:=G4) (a:=p) (o:=.lst [.str s1,.str t1]);generalize upd G4 p (.lst [.str s1,.str t1])=G5 at S5 hp ⊢;replace ks:=ks.ins (A:=[]) np S5 hp;have pr:=ks.ne 0 4 rfl rfl (by decide);have pu:=ks.ne 0 2 rfl rfl (by decide);replace P1:=P1.same S5;replace PB:=PB.same S5;replace h1:=S5 _ _ h1;replace h2:=S5 _ _ h2;replace h3:=S5 _ _ h3;replace h4:=S5 _ _ h4;replace h5:=S5 _ _ h5;clear S5 np;apply cu h2 rfl ?_;rw [show ([V.ref r1,V.ref r2]:List V).set (Int.toNat 1) (V.ref p)=[V.ref r1,V.ref p] from rfl];replace P1:=P1.set (o:=.lst [.ref r1,.ref p]) lr h2 (zG r1 r2);replace PB:=PB.set (o:=.lst [.ref r1,.ref p]) lr h2 (zG r1 r2);replace ks:=ks.upd (a:=rr) (o:=.lst [.ref r1,.ref p]);replace h2:=aj (H:=G5) (a:=rr) (o:=.lst [.ref r1,.ref p]);replace h1:=(aC (H:=G5) (o:=.lst [.ref r1,.ref p]) (Ne.symm rh)).trans h1;replace h3:=(aC (H:=G5) (o:=.lst [.ref r1,.ref p]) ur).trans h3;replace h4:=(aC (H:=G5) (o:=.lst [.ref r1,.ref p]) (Ne.symm rg)).trans h4;replace h5:=(aC (H:=G5) (o:=.lst [.ref r1,.ref p]) sr).trans h5;replace hp:=(aC (H:=G5) (o:=.lst [.ref r1,.ref p]) pr).trans hp;generalize upd G5 rr (.lst [.ref r1,.ref p])=G6 at*;walk_at "s";obtain ⟨uds,hl1,hts,hUn⟩:=id PB.2;apply wH (SqL.of hl1) fun q' nq=>?_
    have S7:=(Same.refl G6).upd nq (o:=.lst (uds.reverse.map fun p=>V.ref p.1));have hq:=aj (H:=G6) (a:=q') (o:=.lst (uds.reverse.map fun p=>V.ref p.1));generalize upd G6 q' (.lst (uds.reverse.map fun p=>V.ref p.1))=G7 at S7 hq ⊢;replace ks:=ks.ins (A:=[]) nq S7 hq;have qu:=ks.ne 0 3 rfl rfl (by decide);replace P1:=P1.same S7;replace PB:=PB.same S7;have PC:Pu mg G7 y' p q' s1 t1 k:=⟨⟨PB.1.1,S7 _ _ hp⟩,uds,hq,fun p m=>S7 _ _ (hts p m),hUn⟩;replace h1:=S7 _ _ h1;replace h2:=S7 _ _ h2;replace h3:=S7 _ _ h3;replace h4:=S7 _ _ h4;replace h5:=S7 _ _ h5;apply cu h3 rfl ?_;rw [show ([V.ref l1,V.ref l2]:List V).set (Int.toNat 1) (V.ref q')=[V.ref l1,V.ref q'] from rfl];exact hN _ _ ⟨y',p,q',rfl,⟨_,_,P1.set (Ne.symm ul) h3 (zG l1 l2)⟩,⟨_,_,PC.set qu h3 (zG l1 l2)⟩,xy',ks.upd,(aC (Ne.symm uh)).trans h1,(aC (Ne.symm ur)).trans h2,aj,(aC (Ne.symm ug)).trans h4,(aC su).trans h5⟩
   ·walk_at "n"
    exact hN _ _ ⟨y,r2,l2,rfl,I⟩
  rintro U G3 ⟨y,r2,l2,rfl,I⟩;with_reducible refine Mr (fun U G=>U=[some (.ref a),some (.ref g),some (.str side),some (.str top),some (.ref hh),some (.ref rr),some (.ref uu),some (.int last),some (.int c),some (.int m1),some (.int m2),some (.int m3),some (.int m4)]/\LI mg x r1 l1 hh rr uu g sl (ys.map V.str) zs (k+1) y r2 l2 G) ?_ ?_
  rotate_left
  ·intro N hN
   match m1,b1 with
   | 0,_=>
    obtain ⟨s1,t1,P1⟩:=I.a;walk_at "s";apply bf (SqL.of I.h1) rfl ?_;apply bf (SqL.of I.h2) rfl ?_;apply bf (SqL.of I.h3) rfl ?_;apply ⟨x,r1,l1,g,c,s1,t1,ys,k,rfl,P1,by omega,I.h4,hne,hl,hG,fun z s t G4 T P=>?_⟩;exact hN _ _ ⟨rfl,I.step0 T P⟩
   | 1,_=>
    obtain ⟨s2,t2,P2⟩:=I.b;walk_at "s";apply bf (SqL.of I.h1) rfl ?_;apply bf (SqL.of I.h2) rfl ?_;apply bf (SqL.of I.h3) rfl ?_;apply ⟨y,r2,l2,g,c,s2,t2,ys,k,rfl,P2,by omega,I.h4,hne,hl,hG,fun z s t G4 T P=>?_⟩;exact hN _ _ ⟨rfl,I.step1 T P⟩
   | m+2,hm=>omega
  rintro U G4 ⟨rfl,I⟩;walk_at "s";refine ut (fun _=>?_) (fun _=>?_)
  ·walk_at "s"
   obtain ⟨s1,t1,P1⟩:=I.a;apply bf (SqL.of I.h1) rfl ?_;apply bf (SqL.of I.h2) rfl ?_;apply ⟨x,r1,s1,t1,rfl,P1.1,fun G5 S5=>?_⟩;have I:=I.same S5;obtain ⟨s2,t2,P2⟩:=I.b;walk_at "s";apply bf (SqL.of I.h1) rfl ?_;apply bf (SqL.of I.h2) rfl ?_;apply ⟨y,r2,s2,t2,rfl,P2.1,fun G6 S6=>?_⟩;try walk_at "s"
   exact ⟨y,r2,l2,_,_,_,_,_,rfl,I.same S6⟩
  ·walk_at "s"
   exact ⟨y,r2,l2,_,_,_,_,_,rfl,I⟩
 ·rintro U G ⟨y,r2,l2,x8,x9,x10,x11,x12,rfl,I⟩
  obtain ⟨s1,t1,P1⟩:=I.a;walk_at "s";apply bf (SqL.of I.h1) rfl ?_;apply bf (SqL.of I.h2) rfl ?_;apply ⟨x,r1,s1,t1,rfl,P1.1,fun G5 S5=>?_⟩;have I:=I.same S5;obtain ⟨s2,t2,P2⟩:=I.b;walk_at "s";apply bf (SqL.of I.h1) rfl ?_;apply bf (SqL.of I.h2) rfl ?_;apply ⟨y,r2,s2,t2,rfl,P2.1,fun G6 S6=>?_⟩;try walk_at "s"
  exact q G6
end
end My
namespace PySem.W.Fast
def tw170997989496257504:=0
def tw14080057513873120382:=0
def tw10326167388927660555:=0
def tw9974609584711293242:=0
def tw17500386435497900656:=0
def tw18228432372662975372:=0
def tw1091008355674000007:=0
def tw13154060304738934531:=0
def tw7197264862341879194:=0
def tw11761971426658151513:=0
def tw63029011453380553:=0
def tw238678118487949764:=0
def tw584848299508541898:=0
def tw3744748074646935957:=0
def tw3791855248125110794:=0
def tw6892906787132112050:=0
def tw16973836357311400856:=0
def tw13073351299104062952:=0
def tw17224405334430143299:=0
def tw5189120149025374448:=0
def tw17481654018083295042:=0
def tw4454516389224261019:=0
def tw1056279777989049522:=0
def tw17148521952510671852:=0
def tw12269997720523305445:=0
def tw13397290964613939607:=0
def tw2522772641910957383:=0
def tw4254786510452766522:=0
def tw2666840989457701861:=0
def tw8195485187081099434:=0
def tw14082623668104177785:=0
def tw4591455180985996338:=0
def tw3773712872681746335:=0
def tw3357461234830314712:=0
def tw13022826205064528255:=0
def tw5973693385456140597:=0
def tw8408278115642355493:=0
def tw12496845032475543424:=0
def tw6222116433723810121:=0
def tw11601084560434829882:=0
def tw2693587925597082273:=0
def tw7994287720170156347:=0
def tw3929017243161387402:=0
def tw13028534108705397948:=0
def tw13846124326976321993:=0
def tw855940449426282957:=0
def tw7137837591840339316:=0
def tw6652800560494154771:=0
def tw18093729822359701170:=0
def tw5664100192213102202:=0
def tw11814258703870386521:=0
def tw14160191048065873531:=0
def tw13836301362698275148:=0
def tw12183134064772521606:=0
def tw16409601809304281106:=0
def tw1578772534858484368:=0
def tw12467261496680732048:=0
def tw11767576040035461585:=0
def tw9602622441333589624:=0
def tw468718976278200051:=0
def tw5700388668963892332:=0
def tw6932290447243186125:=0
def tw11875478113042265210:=0
def tw15115184621695163425:=0
def tw5051070348739976411:=0
def tw3049239101965825756:=0
def tw17745041438497455042:=0
def tw16044333055212960492:=0
def tw5956380255663959246:=0
def tw2431052663540309488:=0
def tw6524251382259928118:=0
def tw263044385853596084:=0
def tw13346670304528741520:=0
def tw953535206261365517:=0
def tw14735323295191148730:=0
def tw9821243787483055714:=0
def tw12796414351568311244:=0
def tw12459840652291502569:=0
def tw303848898376763964:=0
def tw14049390886050952240:=0
def tw4478552718625105399:=0
def tw15958901809801505323:=0
def tw10812043087276734602:=0
def tw3325311267105446226:=0
def tw15069192247654982921:=0
def tw8115272436581693049:=0
def tw16614495450726276922:=0
def tw6253389564558332768:=0
def tw18390821704331591754:=0
def tw2899540527150905111:=0
def tw2209957662818096350:=0
def tw4111903776837840988:=0
def tw16384848900271258478:=0
def tw17088463456011847064:=0
def tw11513117643828073644:=0
def tw13337501648146345969:=0
def tw6821936512115172846:=0
def tw35403134248605375:=0
def tw18175774576007702176:=0
def tw9623064183525185512:=0
def tw9967160881176947960:=0
def tw13189758666800841059:=0
def tw10446997346251413633:=0
def tw11876485587163855780:=0
def tw10257787337124923891:=0
def tw680710264789820531:=0
def tw17613451277788939088:=0
def tw4323801114514809848:=0
def tw3961013000671378346:=0
def tw6685518946645697438:=0
def tw1529609441915850578:=0
def tw12642548061850148203:=0
def tw636230577832051653:=0
def tw4771904036344563888:=0
def tw2988733292891672320:=0
def tw15806205814327528797:=0
def tw12871884301898588277:=0
def tw12679279996121946958:=0
def tw9055015154393257883:=0
def tw14646730033695245422:=0
def tw18306617406022243168:=0
def tw14609948102815018970:=0
def tw8584953585412795456:=0
def tw2747883945684085269:=0
def tw17543000985886003951:=0
def tw7344196410570544057:=0
def tw4282430869389922206:=0
def tw17803949819652768465:=0
def tw8970128605921812231:=0
def tw12980023243061378395:=0
def tw4754391839241493013:=0
def tw15071585463276981956:=0
def tw1956024930380463867:=0
def tw16950240060910604089:=0
def tw9333864938280141332:=0
def tw1998406418726854213:=0
def tw16768029096874991583:=0
def tw1440053540955407736:=0
def tw16692759604103811458:=0
def tw12557003181802465025:=0
def tw10987917912035374871:=0
def tw10140440278587883246:=0
def tw1136585718635431141:=0
def tw11650996915239469667:=0
def tw9730687530146681177:=0
def tw17285871154875089521:=0
def tw14656386502127157919:=0
def tw2089050809600953354:=0
def tw2009112884882366357:=0
def tw6479449488083420199:=0
def tw11351191577263768239:=0
def tw4253913600219481621:=0
def tw7021024560824285536:=0
def tw7901605343534442970:=0
def tw2885668942179414105:=0
def tw16738752831992703836:=0
def tw2469026340015612489:=0
def tw15768926320033987175:=0
def tw382539889779924243:=0
def tw5905153894342257720:=0
def tw14115562483746671027:=0
def tw2898347703855472890:=0
def tw10434504197885337334:=0
def tw17676473315738354869:=0
def tw15384138829915940950:=0
def tw14036972743145957190:=0
def tw11421059905266652356:=0
def tw12049735672023593489:=0
def tw11221732402225306870:=0
def tw13788856892586563530:=0
def tw18337358028190037746:=0
def tw15571455808371627630:=0
def tw10557782557375011426:=0
def tw5617783893336425252:=0
def tw9042407589032566345:=0
def tw1657276864650981724:=0
def tw1192128067271297843:=0
def tw3646102812975538376:=0
def tw17856391039597442195:=0
def tw4983426451844842976:=0
def tw11259612808208745778:=0
def tw7701017922755908881:=0
def tw2621034210626446583:=0
def tw12379010077363432328:=0
def tw10590434896023840744:=0
def tw13464386929305450057:=0
def tw14978574144430665939:=0
def tw1333989068370943999:=0
def tw18205936256612486886:=0
def tw8586682261086832630:=0
def tw1513990821929584507:=0
def tw2113430350746970308:=0
def tw11206730230202561968:=0
def tw11643511982141431644:=0
def tw945973797191744680:=0
def tw3954443561239033093:=0
def tw246949072272592814:=0
def tw16000040471805210659:=0
def tw14487851489019716735:=0
def tw2670793746348605894:=0
def tw1180410815582503168:=0
def tw638976002146732019:=0
def tw13078740577056505598:=0
def tw5742026064215456419:=0
def tw5399725985775419273:=0
def tw16195976744896505102:=0
def tw4743444367416580585:=0
def tw3325858460847770249:=0
def tw1370239525240042375:=0
def tw14292096019986609055:=0
def tw6467988752831073283:=0
def tw11009707630198964188:=0
def tw7457713232936769561:=0
def tw7151652601152777068:=0
def tw7027807616724098142:=0
def tw14930180402596037741:=0
def tw5040332920896331797:=0
def tw11657401959842500933:=0
def tw14595183612040242657:=0
def tw6702232768556465939:=0
def tw4547857129701702673:=0
def tw17372437978634564139:=0
def tw6785214258293483047:=0
def tw15997009619190894705:=0
def tw10854266015430229149:=0
def tw13175905796420791050:=0
def tw9275578699677613714:=0
def tw12617450511694476815:=0
def tw5137858709158071180:=0
def tw17706041870664193740:=0
def tw15904664252705965076:=0
def tw9164074847223720486:=0
def tw2743285442578106802:=0
def tw13029633772437168899:=0
def tw10743796463140524798:=0
def tw3095783791415645273:=0
def tw6997335343828775180:=0
def tw6722240890169072198:=0
def tw2686887976916517397:=0
def tw12405641737130474168:=0
def tw11577900151185108273:=0
def tw7711696178458542196:=0
def tw3868330603970944703:=0
def tw3543476723381755149:=0
def tw14944073948443841043:=0
def tw16937570270036136684:=0
def tw17184747775979081571:=0
def tw14328980666424657335:=0
def tw2082568485212698498:=0
def tw18163311254736284863:=0
def tw15678049165457422930:=0
def tw5513595923413688021:=0
def tw4350808969210322116:=0
def tw15350250619844241628:=0
def tw14238209026852949261:=0
def tw280196366991536366:=0
def tw18395353897795177573:=0
def tw16328281419871145156:=0
def tw16220558273142748678:=0
def tw15245018687250497784:=0
def tw13530964145730728:=0
def tw1023621637436567072:=0
def tw8710598332810809086:=0
def tw230563001071458452:=0
def tw17767921859221493684:=0
def tw16490187530943123584:=0
def tw14391534624981074040:=0
def tw5255949910112198872:=0
def tw15300838765377235777:=0
def tw4161744043901849574:=0
def tw10314918918822945189:=0
def tw2717914281948144905:=0
def tw5040705027163752075:=0
def tw10160259841860755840:=0
def tw1654127715656843930:=0
def tw6153743640810632285:=0
def tw1319185411190305555:=0
def tw2793330305829492909:=0
def tw14640466738139367451:=0
def tw10355567862222934045:=0
def tw6819063161670294886:=0
def tw2232501558416663321:=0
def tw13767177738878085286:=0
def tw15145577982890110899:=0
def tw15524488802266511328:=0
def tw4815592162313558854:=0
def tw3825367896924796335:=0
def tw6973791905957529229:=0
def tw14418034371888422722:=0
def tw1649089962435946301:=0
def tw5709339737159537042:=0
def tw4396954799983239951:=0
def tw2806467355197565632:=0
def tw1280133079404326364:=0
def tw14973724028067783944:=0
def tw11399449490078464429:=0
def tw10563563180216194533:=0
def tw11301385402797354556:=0
def tw10972243483490678843:=0
def tw8011048436634948093:=0
def tw5749144641555342623:=0
def tw12638999970391008939:=0
def tw7128505308123976586:=0
def tw14152231765954360859:=0
def tw6809809607238712323:=0
def tw11131938937869488785:=0
def tw5367634718976693738:=0
def tw14892793131296097855:=0
def tw15794104775405776722:=0
def tw11164480909391943519:=0
def tw7102565754238683361:=0
def tw3838609594328986562:=0
def tw2328127071672701803:=0
def tw5212616547804914600:=0
def tw11018310544043410369:=0
def tw11396899846138941092:=0
def tw10444145779521565944:=0
def tw3477114099318920570:=0
def tw17500107297126485115:=0
def tw8413332181609052816:=0
def tw16775238207346605933:=0
def tw12579739974088191493:=0
def tw11297235846637947791:=0
def tw10837005939026328783:=0
def tw12674970951107430385:=0
def tw13281148479514981323:=0
def tw9062604500381315985:=0
def tw7772593421404678311:=0
def tw3140845966757889079:=0
def tw909639638279797497:=0
def tw9661761095546297135:=0
def tw8606453697362187086:=0
def tw7866759781259897852:=0
def tw17639157276312399843:=0
def tw1704937566300715315:=0
def tw8579398302154375203:=0
def tw7412267407413013642:=0
def tw2251706404635459797:=0
end PySem.W.Fast
open PySem PySem.W PyProof.Rows
local macro_rules | `(tactic| walk_at "!a") => do let k:=Lean.mkIdent `KX;let g:=Lean.mkIdent `G;`(tactic| (dsimp only [L2.KOf];refine' L2.bA $k $g ?a ?l ?c ?k;(case a=>k_is);(case l=>k_is);(case c=>k_is);(case k=>k_is)))
local macro_rules | `(tactic| walk_at "!b") => do let k:=Lean.mkIdent `KX;let g:=Lean.mkIdent `G;`(tactic| (dsimp only [L2.KOf];refine' L2.iG $k $g ?a ?i ?n ?l ?c ?k;(case a=>k_is);(case i=>k_is);(case n=>first | k_is | kernel_rfl);(case l=>k_is);(case c=>k_is);(case k=>k_is)))
local macro_rules | `(tactic| walk_at "!c") => do let k:=Lean.mkIdent `KX;let g:=Lean.mkIdent `G;`(tactic| (refine' Aao $k $g ?a;(case a=>k_is)))
local macro_rules | `(tactic| walk_at "!d") => do let k:=Lean.mkIdent `KX;let g:=Lean.mkIdent `G;`(tactic| (dsimp only [L2.KOf];refine' L2.xR $k $g ?a ?b ?kp ?na ?i ?t ?l ?c ?k;(case a=>k_is);(case b=>kernel_rfl);(case kp=>k_is);(case na=>kernel_rfl);(case i=>k_is);(case t=>k_is);(case l=>k_is);(case c=>k_is);(case k=>k_is)))
local macro_rules | `(tactic| walk_at "!e") => do let k:=Lean.mkIdent `KX;let g:=Lean.mkIdent `G;`(tactic| (refine' L2.ou $k $g ?a ?h;(case a=>k_is);(case h=>exact ⟨_,by with_unfolding_all rfl⟩)))
local macro_rules | `(tactic| walk_at "!f") => do let k:=Lean.mkIdent `KX;let g:=Lean.mkIdent `G;`(tactic| (dsimp only [L2.KOf];refine' L2.Mv $k $g ?a ?b ?s ?m ?k;(case a=>k_is);(case b=>kernel_rfl);(case s=>k_is);(case m=>first | k_is | kernel_rfl);(case k=>k_is)))
local macro_rules | `(tactic| walk_at "!g") => do let k:=Lean.mkIdent `KX;let g:=Lean.mkIdent `G;`(tactic| (dsimp only [L2.KOf];refine' L2.Mw $k $g ?a ?b;(case a=>k_is);(case b=>kernel_rfl)))
set_option maxRecDepth 100000 in
set_option maxHeartbeats 0 in
theorem PySem.Challenge.cw_panethread_k57_whole_lines_as_anew_holds : PySem.Challenge.rw_panethread_k57_whole_lines_as_anew.Holds := by
 w_on;o_law;k_head;(case hw=>w_witness2)
 k_fill
 refine L2.Yg (l:=PySem.Challenge.rw_panethread_k57_whole_lines_as_anew) (st:=My.Ce) (k:=64) (x:="_law_script") (sp:=My.TJ) rfl rfl rfl ⟨rfl,by decide,by decide,rfl⟩ (fun w h Y=>PySem.W.kIn_of Y) (fun _ _ _ _ _ _ us hl=>L2.pR (fun _=>rfl) us hl) ?F (fun K H a ns hl hS=>⟨a,ns,rfl,hS,fun _=>rfl⟩)
 case F=>
  intro w mg h KX G
  have T:My.Txt (L2.KOf KX) mg:=by
   constructor;(iterate 15 walk_at "!c");(iterate 6 walk_at "!e");(iterate 40 walk_at "!a");(iterate 7 walk_at "!d");walk_at "!f";walk_at "!g";walk_at "!f";walk_at "!g";walk_at "!f";walk_at "!g";(iterate 22 walk_at "!b")
  exact ⟨T.d_law,fun base f fd F=>My.Xa T F⟩
