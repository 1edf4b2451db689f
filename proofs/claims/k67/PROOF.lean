import PyProof.Rows.All
import Wide.All
import OpenK.AllK
import Wide.FinOn
import Lean
import PyProof.EqAt
import PyProof.EqKinds
import PyProof.TupleCall
import PyProof.ReprRoads
import KE.KSortTup
import KE.KDictList
import KE.KMinKey
import PySem.Challenge.RW_panethread_k67_near_by_own_costs
noncomputable section
local macro_rules | `(tactic| trivial) => `(tactic| decide +kernel)
set_option compiler.extract_closed false
set_option Elab.async false
set_option linter.all false
set_option maxRecDepth 100000
namespace L2
@[elab_as_elim] theorem mG {p:List PySem.Value->Prop} (h:∀ a0:PySem.Value,p [a0]) (us:List PySem.Value) (hl:us.length=1):p us:=by
 rcases us with _ | ⟨a0,us0⟩
 ·cases hl
 rcases us0 with _ | ⟨b,us⟩
 ·exact h a0
 ·cases hl
@[elab_as_elim] theorem qI {p:List PySem.Value->Prop} (h:∀ a0 a1:PySem.Value,p [a0,a1]) (us:List PySem.Value) (hl:us.length=2):p us:=by
 rcases us with _ | ⟨a0,us0⟩
 ·cases hl
 rcases us0 with _ | ⟨a1,us1⟩
 ·cases hl
 rcases us1 with _ | ⟨b,us⟩
 ·exact h a0 a1
 ·cases hl
@[elab_as_elim] theorem oZ {p:List PySem.Value->Prop} (h:∀ a0 a1 a2:PySem.Value,p [a0,a1,a2]) (us:List PySem.Value) (hl:us.length=3):p us:=by
 rcases us with _ | ⟨a0,us0⟩
 ·cases hl
 rcases us0 with _ | ⟨a1,us1⟩
 ·cases hl
 rcases us1 with _ | ⟨a2,us2⟩
 ·cases hl
 rcases us2 with _ | ⟨b,us⟩
 ·exact h a0 a1 a2
 ·cases hl
@[elab_as_elim] theorem Py {p:List PySem.Value->Prop} (h:∀ a0 a1 a2 a3:PySem.Value,p [a0,a1,a2,a3]) (us:List PySem.Value) (hl:us.length=4):p us:=by
 rcases us with _ | ⟨a0,us0⟩
 ·cases hl
 rcases us0 with _ | ⟨a1,us1⟩
 ·cases hl
 rcases us1 with _ | ⟨a2,us2⟩
 ·cases hl
 rcases us2 with _ | ⟨a3,us3⟩
 ·cases hl
 rcases us3 with _ | ⟨b,us⟩
 ·exact h a0 a1 a2 a3
 ·cases hl
@[elab_as_elim] theorem Pz {p:List PySem.Value->Prop} (h:∀ a0 a1 a2 a3 a4:PySem.Value,p [a0,a1,a2,a3,a4]) (us:List PySem.Value) (hl:us.length=5):p us:=by
 rcases us with _ | ⟨a0,us0⟩
 ·cases hl
 rcases us0 with _ | ⟨a1,us1⟩
 ·cases hl
 rcases us1 with _ | ⟨a2,us2⟩
 ·cases hl
 rcases us2 with _ | ⟨a3,us3⟩
 ·cases hl
 rcases us3 with _ | ⟨a4,us4⟩
 ·cases hl
 rcases us4 with _ | ⟨b,us⟩
 ·exact h a0 a1 a2 a3 a4
 ·cases hl
theorem auto1 (h:True:=by first | exact .inl rfl | exact .inr rfl | assumption):True:=h
theorem auto2 (h:True:=by decide):True:=h
theorem auto3 (h:True:=by intro _;rfl):True:=h
theorem auto4 (h:True:=by rfl):True:=h
theorem auto5 (h:True:=by with_unfolding_all rfl):True:=h
theorem auto6 (h:True:=by trivial):True:=h
open PySem PySem.Spec PyProof.Rows
abbrev Key:=Sum Int Str
def uZ:Key->Value->Bool
 | .inl k,v=>Value.isInt k v
 | .inr x,v=>Value.isStrOf x v
def keyH (w:World):Key->Int
 | .inl k=>hashInt k
 | .inr x=>hashStr w x
theorem cW:∀ {k:Key} {v:Value},uZ k v=true->(∃ i t,k=Sum.inl i/\v=Value.int i t)\/(∃ x t,k=Sum.inr x/\v=Value.str x t)
 | .inl i,v,h=>by
  obtain ⟨t,e⟩:=Value.isInt_shape (k:=i) (v:=v) h
  exact .inl ⟨i,t,rfl,e⟩
 | .inr x,v,h=>by
  obtain ⟨t,e⟩:=Value.isStrOf_shape (x:=x) (v:=v) h
  exact .inr ⟨x,t,rfl,e⟩
theorem Cw (i:Int) (t:Tok):uZ (.inl i) (.int i t)=true:=by simp [uZ,Value.isInt]
theorem Cy (x:Str) (t:Tok):uZ (.inr x) (.str x t)=true:=by simp [uZ,Value.isStrOf]
theorem PB (a b:Int):decide ((Sum.inl a:Key)=Sum.inl b)=(a == b):=by
 by_cases e:a=b
 ·subst e;simp
 ·have h:¬ (Sum.inl a:Key)=Sum.inl b:=fun q=>e (Sum.inl.inj q)
  rw [decide_eq_false h]
  exact (beq_eq_false_iff_ne.mpr e).symm
theorem PJ (a b:Str):decide ((Sum.inr a:Key)=Sum.inr b)=decide (a=b):=by
 by_cases e:a=b
 ·subst e;simp
 ·have h:¬ (Sum.inr a:Key)=Sum.inr b:=fun q=>e (Sum.inr.inj q)
  rw [decide_eq_false h,decide_eq_false e]
theorem PK (a:Int) (b:Str):decide ((Sum.inl a:Key)=Sum.inr b)=false:=decide_eq_false (fun q=>nomatch q)
theorem PL (a:Str) (b:Int):decide ((Sum.inr a:Key)=Sum.inl b)=false:=decide_eq_false (fun q=>nomatch q)
def cX (prog:Program) (w:World):PySem.KeyKind prog w Key where
 is:=uZ
 hash:=keyH w
 inj:=fun v a b ha hb=>by
  rcases cW ha with ⟨i,t,rfl,rfl⟩ | ⟨x,t,rfl,rfl⟩
  ·rcases cW hb with ⟨j,u,rfl,e⟩ | ⟨y,u,rfl,e⟩
   ·injection e with e1 _;rw [e1]
   ·exact nomatch e
  ·rcases cW hb with ⟨j,u,rfl,e⟩ | ⟨y,u,rfl,e⟩
   ·exact nomatch e
   ·injection e with e1 _;rw [e1]
 byValue:=fun k v h=>by
  rcases cW h with ⟨i,t,rfl,rfl⟩ | ⟨x,t,rfl,rfl⟩ <;> rfl
 pyHash:=fun hv h=>by
  rcases cW hv with ⟨i,t,rfl,rfl⟩ | ⟨x,t,rfl,rfl⟩
  ·exact wpAny_pyHash_int h
  ·exact wpAny_pyHash_str h
 eqBool:=fun hu hv h=>by
  rcases cW hu with ⟨i,t,rfl,rfl⟩ | ⟨x,t,rfl,rfl⟩
  ·rcases cW hv with ⟨j,u,rfl,rfl⟩ | ⟨y,u,rfl,rfl⟩
   ·rw [PB] at h;exact wpAny_eqBool_int h
   ·rw [PK] at h;exact SeqAt.EqAt.int_str i t y u _ _ _ _ h
  ·rcases cW hv with ⟨j,u,rfl,rfl⟩ | ⟨y,u,rfl,rfl⟩
   ·rw [PL] at h;exact SeqAt.EqAt.str_int x t j u _ _ _ _ h
   ·rw [PJ] at h;exact wpAny_eqBool_str h
 «strs»:=fun k x t v h=>by
  rcases cW h with ⟨i,u,rfl,e⟩ | ⟨y,u,rfl,e⟩
  ·exact nomatch e
  ·injection e with e1 _
   subst e1
   cases v <;> rfl
theorem wY (prog:Program) (w:World) (i:Int) (t:Tok):(cX prog w).is (.inl i) (.int i t)=true:=Cw i t
theorem wZ (prog:Program) (w:World) (x:Str) (t:Tok):(cX prog w).is (.inr x) (.str x t)=true:=Cy x t
end L2
namespace L2
open PySem PySem.Spec PyProof.Rows
inductive V where
 | non | bl (b:Bool) | int (i:Int) | str (x:Str) | byt (b:Array UInt8) | flt (b:UInt64) | ref (a:Addr) | ty (n:String)
 deriving DecidableEq
def RelV:V->Value->Prop
 | .non,u=>u=Value.none
 | .bl b,u=>u=Value.bool b
 | .int i,u=>∃ t,u=Value.int i t
 | .str x,u=>∃ t,u=Value.str x t
 | .byt b,u=>∃ t,u=Value.bytes b t
 | .flt b,u=>∃ t,u=Value.float b t
 | .ref a,u=>u=Value.ref a
 | .ty n,u=>u=Value.type n
abbrev Vals:List V->List Value->Prop:=Paired RelV
theorem Vals.length {xs:List V} {us:List Value} (r:Vals xs us):xs.length=us.length:=Paired.length r
theorem Vals.get:∀ {xs:List V} {us:List Value} {i:Nat} {x:V},Vals xs us->xs[i]?=some x->∃ u,us[i]?=some u/\RelV x u
 | _,_,_,_,.nil,e=>by simp at e
 | _,_,0,_,.cons r _,e=>by simp at e;subst e;exact ⟨_,rfl,r⟩
 | _,_,i+1,x,.cons _ t,e=>by
  obtain ⟨u,h1,h2⟩:=Vals.get (i:=i) (x:=x) t (by simpa using e)
  exact ⟨u,by simpa using h1,h2⟩
theorem Vals.set {x:V} {u:Value} (r:RelV x u):∀ {xs:List V} {us:List Value} (i:Nat),Vals xs us->Vals (xs.set i x) (us.set i u)
 | _,_,_,.nil=>.nil
 | _,_,0,.cons _ t=>.cons r t
 | _,_,i+1,.cons q t=>.cons q (Vals.set r i t)
theorem Vals.append:∀ {xs ys:List V} {us ws:List Value},Vals xs us->Vals ys ws->Vals (xs ++ ys) (us ++ ws)
 | _,_,_,_,.nil,s=>s
 | _,_,_,_,.cons r t,s=>.cons r (Vals.append t s)
theorem Vals.take:∀ {xs:List V} {us:List Value} (n:Nat),Vals xs us->Vals (xs.take n) (us.take n)
 | _,_,0,_=>.nil
 | _,_,_+1,.nil=>.nil
 | _,_,n+1,.cons r t=>.cons r (Vals.take n t)
theorem Vals.drop:∀ {xs:List V} {us:List Value} (n:Nat),Vals xs us->Vals (xs.drop n) (us.drop n)
 | _,_,0,r=>r
 | _,_,_+1,.nil=>.nil
 | _,_,n+1,.cons _ t=>Vals.drop n t
def RelO:Option V->Option Value->Prop
 | some v,some u=>RelV v u
 | none,none=>True
 | _,_=>False
def KV {κ:Type}:List (κ×V)->List (κ×Value)->Prop:=Paired fun (p:κ×V) (q:κ×Value)=>p.1=q.1/\RelV p.2 q.2
def kV:Key->V
 | .inl i=>.int i
 | .inr x=>.str x
inductive HO where
 /-- a list -/
 | lst (xs:List V)
 /-- a tuple (never changes) -/
 | tup (xs:List V)
 /-- a dict whose keys are ints and texts;one whose keys are tuples of ints and texts (the empty one is both) -/
 | dK (kvs:List (Key×V)) | dT (kvs:List (List Key×V))
 /-- a set of ints:its members,its size -/
 | set (S:Int->Bool) (n:Nat)
 /-- an instance of the class at C,its dict at dx,its attributes -/
 | ins (C dx:Addr) (fs:List (Str×V))
 /-- the dict of the instance at x -/
 | own (x:Addr)
 /-- the dict of an exception -/
 | xd (fs:List (Str×V))
 /-- a bound method,f of x -/
 | met (f x:Addr)
 /-- a range object lo,lo+1,.. below hi -/
 | rng (lo hi:Int)
 /-- a thing that is known to the object (the script;a dict while a loop walks it):read,never written while it is so -/
 | frz (o:Obj) (u:HO)
 /-- a code object's table -/
 | tbl (ps:Array Value)
 /-- any other thing,by what is true of its one object (a def of one's own:SetO a S n:=HO.ext fun h=>..) -/
 | ext (φ:Heap->Prop)
abbrev Hp:=Addr->Option HO
def upd (H:Hp) (a:Addr) (o:HO):Hp:=fun b=>if b=a then some o else H b
theorem aj {H:Hp} {a:Addr} {o:HO}:upd H a o a=some o:=by unfold upd;rw [if_pos rfl]
theorem aB {H:Hp} {a b:Addr} {o:HO} (h:b≠a):upd H a o b=H b:=by unfold upd;rw [if_neg h]
theorem Uw {H:Hp} {a b:Addr} {o u:HO} (h:H a=some o) (h':H b=some u) (d:o≠u):a≠b:=by
 intro e;subst e;rw [h] at h';exact d (Option.some.inj h')
theorem jO {H:Hp} {a b:Addr} {o:HO} (h:H a=some o) (h':H b=none):a≠b:=by
 intro e;subst e;rw [h] at h';cases h'
section
variable (P:Program) (w:World)
def ObjOk (H:Hp) (h:Heap) (a:Addr):HO->Prop
 | .lst xs=>xs.length<=sizeLine/\∃ (its:List Value) (n:Nat),Vals xs its/\h.get? a=some {cls:=.type "list",data:=.seq its.toArray n}
 | .tup xs=>xs.length<=sizeLine/\∃ its:List Value,Vals xs its/\IsTup h a its.toArray
 | .dK kvs=>kvs.length<=sizeLine/\(a == sysModules)=false/\∃ vs,KV kvs vs/\h.DictOf (cX P w) a vs
 | .dT kvs=>kvs.length<=sizeLine/\(a == sysModules)=false/\∃ xs:List (List Key×Addr×Value),
   Paired (fun (p:List Key×V) (q:List Key×Addr×Value)=>p.1=q.1/\H q.2.1=some (.tup (p.1.map kV))/\RelV p.2 q.2.2) kvs xs/\
   ∃ o es ep,h.get? a=some o/\o.ExactDict/\o.data= .dict es ep/\es.toList=xs.map (entryOfKey (tupleKind (cX P w)))/\(xs.map (·.1)).Nodup
 | .set S n=>h.SetOf (intKind P w) a S n
 | .ins C dx fs=>H dx=some (.own a)/\fs.length<=1000/\dx≠a/\h.get? a=some (PySem.W.instObj C dx)/\
   ∃ mA,h.Ns1 dx mA/\(∀ f,RelO (fs.lookup f) (mA f))/\PySem.Within mA (fs.map (·.1))
 | .own _=>∃ o,h.get? a=some o
 | .xd fs=>∃ mA,h.Ns1 a mA/\∀ f,RelO (fs.lookup f) (mA f)
 | .rng lo hi=>∃ t u v,h.get? a=some {cls:=.type "range",data:=.fields #[.int lo t,.int hi u,.int 1 v]}
 | .frz o u=>h.get? a=some o/\ObjOk H h a u
 | .tbl ps=>h.get? a=some {cls:=.none,data:=.fields ps}
 | .met f x=>h.get? a=some (PySem.W.methodObj (.ref f) (.ref x))
 | .ext φ=>φ h/\(∃ o,h.get? a=some o)/\∀ h1 h2:Heap,φ h1->(∀ o,h1.get? a=some o->h2.get? a=some o)->φ h2
def HOk (H:Hp) (h:Heap):Prop:=∀ a o,H a=some o->ObjOk P w H h a o
end
section
variable {P:Program} {w:World} {H H':Hp} {h h':Heap} {a:Addr} {o:HO}
theorem ObjOk.lt (x:ObjOk P w H h a o):a < h.objs.size:=by
 cases o with
 | lst xs=>obtain ⟨_,_,_,_,e⟩:=x;exact Heap.lt_size e
 | tup xs=>obtain ⟨_,_,_,p⟩:=x;exact p.lt
 | dK kvs=>obtain ⟨_,_,_,_,o,_,_,e,_⟩:=x;exact Heap.lt_size e
 | dT kvs=>obtain ⟨_,_,_,_,o,_,_,e,_⟩:=x;exact Heap.lt_size e
 | set S n=>obtain ⟨o,_,_,_,e,_⟩:=x;exact Heap.lt_size e
 | ins C dx fs=>obtain ⟨_,_,_,e,_⟩:=x;exact Heap.lt_size e
 | own y=>obtain ⟨_,e⟩:=x;exact Heap.lt_size e
 | xd fs=>obtain ⟨_,⟨_,_,_,e,_⟩,_⟩:=x;exact Heap.lt_size e
 | rng lo hi=>obtain ⟨_,_,_,e⟩:=x;exact Heap.lt_size e
 | frz ob u=>obtain ⟨e,_⟩:=x;exact Heap.lt_size e
 | tbl ps=>exact Heap.lt_size (show h.get? a=some _ from x)
 | met f y=>exact Heap.lt_size (show h.get? a=some _ from x)
 | ext φ=>obtain ⟨_,⟨_,e⟩,_⟩:=x;exact Heap.lt_size e
theorem Paired.mapP {α β:Type} {F G:α->β->Prop}:∀ {l₁:List α} {l₂:List β},Paired F l₁ l₂->(∀ a b,F a b->G a b)->Paired G l₁ l₂
 | _,_,.nil,_=>.nil
 | _,_,.cons r t,f=>.cons (f _ _ r) (Paired.mapP t f)
theorem ObjOk.stay (x:ObjOk P w H h a o) (k:∀ b u,(b=a\/H b=some (.own a))->h.get? b=some u->h'.get? b=some u)
  (ho:∀ b,H b=some (.own a)->H' b=some (.own a)) (ht:∀ b xs,H b=some (.tup xs)->H' b=some (.tup xs)):ObjOk P w H' h' a o:=by
 induction o with
 | lst xs=>obtain ⟨z,its,n,r,e⟩:=x;exact ⟨z,its,n,r,k _ _ (.inl rfl) e⟩
 | tup xs=>obtain ⟨z,its,r,ob,e,c⟩:=x;exact ⟨z,its,r,ob,k _ _ (.inl rfl) e,c⟩
 | dK kvs=>obtain ⟨z,y,vs,r,ob,es,ep,e,c⟩:=x;exact ⟨z,y,vs,r,ob,es,ep,k _ _ (.inl rfl) e,c⟩
 | dT kvs=>
  obtain ⟨z,y,xs,r,ob,es,ep,e,c⟩:=x
  exact ⟨z,y,xs,Paired.mapP r fun p q z=>⟨z.1,ht _ _ z.2.1,z.2.2⟩,ob,es,ep,k _ _ (.inl rfl) e,c⟩
 | set S n=>obtain ⟨ob,es,ep,t,e,c⟩:=x;exact ⟨ob,es,ep,t,k _ _ (.inl rfl) e,c⟩
 | ins C dx fs=>
  obtain ⟨d,z,ne,e,mA,⟨od,es,ep,e2,c⟩,r⟩:=x
  exact ⟨ho _ d,z,ne,k _ _ (.inl rfl) e,mA,⟨od,es,ep,k _ _ (.inr d) e2,c⟩,r⟩
 | own y=>obtain ⟨ob,e⟩:=x;exact ⟨ob,k _ _ (.inl rfl) e⟩
 | xd fs=>obtain ⟨mA,⟨od,es,ep,e,c⟩,r⟩:=x;exact ⟨mA,⟨od,es,ep,k _ _ (.inl rfl) e,c⟩,r⟩
 | rng lo hi=>obtain ⟨t,u,v,e⟩:=x;exact ⟨t,u,v,k _ _ (.inl rfl) e⟩
 | frz ob u ih=>obtain ⟨e,q⟩:=x;exact ⟨k _ _ (.inl rfl) e,ih q⟩
 | tbl ps=>
  have e:h.get? a=some {cls:=.none,data:=.fields ps}:=x
  show h'.get? a=some {cls:=.none,data:=.fields ps}
  exact k a _ (.inl rfl) e
 | met f y=>
  have e:h.get? a=some (PySem.W.methodObj (.ref f) (.ref y)):=x
  show h'.get? a=some (PySem.W.methodObj (.ref f) (.ref y))
  exact k a _ (.inl rfl) e
 | ext φ=>obtain ⟨p,⟨o,e⟩,st⟩:=x;exact ⟨st _ _ p fun o q=>k _ _ (.inl rfl) q,⟨o,k _ _ (.inl rfl) e⟩,st⟩
theorem HOk.lt (x:HOk P w H h) (e:H a=some o):a < h.objs.size:=(x a o e).lt
theorem HOk.fresh (x:HOk P w H h) (e:h.objs.size<=a):H a=none:=by
 cases q:H a with
 | none=>rfl
 | some u=>exact absurd (Nat.lt_of_lt_of_le (x.lt q) e) (Nat.lt_irrefl _)
theorem HOk.kept (x:HOk P w H h) (k:∀ b u,h.get? b=some u->h'.get? b=some u):HOk P w H h':=fun a o e=>
 (x a o e).stay (fun b u _ q=>k b u q) (fun _ q=>q) fun _ _ q=>q
theorem HOk.laid (x:HOk P w H h) (k:∀ b u,h.get? b=some u->h'.get? b=some u) (hp:h.objs.size<=a) (new:ObjOk P w (upd H a o) h' a o):HOk P w (upd H a o) h':=fun b u e=>by
 have hn:=x.fresh hp
 by_cases hb:b=a
 ·subst hb;rw [aj] at e;cases e;exact new
 ·rw [aB hb] at e
  exact (x b u e).stay (fun c v _ q=>k c v q) (fun c q=>by rw [aB (jO q hn)];exact q) fun c xs q=>by rw [aB (jO q hn)];exact q
end
def Rd (H:Hp) (a:Addr) (u:HO):Prop:=H a=some u\/∃ o,H a=some (.frz o u)
theorem Rd.ok {P:Program} {w:World} {H:Hp} {h:Heap} {a:Addr} {u:HO} (r:Rd H a u) (x:HOk P w H h):ObjOk P w H h a u:=by
 rcases r with r | ⟨o,r⟩
 ·exact x a u r
 ·obtain ⟨_,q⟩:=x a _ r
  exact q
def Ux:Option HO->Prop
 | some (.lst _)=>True
 | some (.dK _)=>True
 | some (.dT _)=>True
 | some (.set _ _)=>True
 | some (.ins _ _ _)=>True
 | some (.ext _)=>True
 | _=>False
section
variable {P:Program} {w:World} {H:Hp} {h h':Heap} {x e:Addr} {o':HO}
theorem HOk.write (ok:HOk P w H h) (mu:Ux (H x)) (he:e=x\/H e=some (.own x)) (k:∀ b u,b≠e->h.get? b=some u->h'.get? b=some u) (heo:∃ u,h'.get? e=some u)
  (new:ObjOk P w (upd H x o') h' x o'):HOk P w (upd H x o') h':=fun b u q=>by
 have nown:∀ c y,H c=some (.own y)->c≠x:=fun c y r z=>by subst z;rw [r] at mu;exact mu
 have ntup:∀ c xs,H c=some (.tup xs)->c≠x:=fun c xs r z=>by subst z;rw [r] at mu;exact mu
 by_cases hb:b=x
 ·subst hb;rw [aj] at q;cases q;exact new
 ·rw [aB hb] at q
  by_cases hbe:b=e
  ·have q':H b=some (.own x):=by
    rcases he with z | z
    ·exact absurd (hbe.trans z) hb
    ·rw [hbe];exact z
   rw [q] at q';cases q'
   obtain ⟨v,hv⟩:=heo
   exact ⟨v,by rw [hbe];exact hv⟩
  ·refine (ok b u q).stay (fun c v hc r=>k c v ?_ r) (fun c r=>by rw [aB (nown c b r)];exact r) fun c xs r=>by rw [aB (ntup c xs r)];exact r
   rcases hc with rfl | hc
   ·exact hbe
   ·rintro rfl
    rcases he with z | z
    ·exact nown c b hc z
    ·rw [hc] at z;cases z;exact hb rfl
end
structure Un (fs ex:List Addr) (H H':Hp) (h h':Heap):Prop where
 keep:∀ b o,h.get? b=some o->H b=none->b ∉ fs->b ∉ ex->h'.get? b=some o
 slot:∀ b o,h.get? b=some o->H b=none->b∈fs->b ∉ ex->∃ sl,h'.get? b=some {o with slots:=sl}
 free:∀ b o,h.get? b=some o->H b=none->b ∉ ex->H' b=none
 there:∀ b o,h.get? b=some o->b ∉ ex->∃ o',h'.get? b=some o'
 tups:∀ b xs,H b=some (.tup xs)->H' b=some (.tup xs)
 frzs:∀ b o u,H b=some (.frz o u)->H' b=some (.frz o u)
 tbls:∀ b ps,H b=some (.tbl ps)->∃ more,H' b=some (.tbl (ps ++ more))
section
variable {fs fs' ex ex':List Addr} {H H1 H2:Hp} {h h1 h2 h':Heap} {a x e:Addr} {o:HO}
theorem Un.any (u:Un fs ex H H1 h h1) {b:Addr} {ob:Obj} (q:h.get? b=some ob) (n:H b=none) (hx:b ∉ ex):∃ sl,h1.get? b=some {ob with slots:=sl}:=by
 by_cases hb:b∈fs
 ·exact u.slot b ob q n hb hx
 ·exact ⟨ob.slots,u.keep b ob q n hb hx⟩
theorem Un.kept (k:∀ b u,h.get? b=some u->h'.get? b=some u):Un fs ex H H h h':=
 ⟨fun b ob q _ _ _=>k b ob q,fun b ob q _ _ _=>⟨ob.slots,k b ob q⟩,fun _ _ _ n _=>n,fun b ob q _=>⟨ob,k b ob q⟩,fun _ _ q=>q,fun _ _ _ q=>q,fun _ ps q=>⟨#[],by rw [q];simp⟩⟩
theorem Un.refl:Un fs ex H H h h:=Un.kept fun _ _ q=>q
theorem Un.laid (k:∀ b u,h.get? b=some u->h'.get? b=some u) (hp:h.objs.size<=a) (hn:H a=none):Un fs ex H (upd H a o) h h' where
 keep:=fun b u q _ _ _=>k b u q
 slot:=fun b u q _ _ _=>⟨u.slots,k b u q⟩
 free:=fun b u q n _=>by rw [aB (Nat.ne_of_lt (Nat.lt_of_lt_of_le (Heap.lt_size q) hp))];exact n
 there:=fun b u q _=>⟨u,k b u q⟩
 tups:=fun b xs q=>by rw [aB (jO q hn)];exact q
 frzs:=fun b u xs q=>by rw [aB (jO q hn)];exact q
 tbls:=fun b ps q=>⟨#[],by rw [aB (jO q hn),q];simp⟩
theorem Un.write (mu:Ux (H x)) (he:e=x\/H e=some (.own x)) (k:∀ b u,b≠e->h.get? b=some u->h'.get? b=some u) (heo:∃ u,h'.get? e=some u):Un fs ex H (upd H x o) h h':=by
 have hx:∀ b,H b=none->b≠x:=fun b n z=>by subst z;rw [n] at mu;exact mu
 have hb:∀ b,H b=none->b≠e:=fun b n z=>by
  subst z
  rcases he with r | r
  ·exact hx b n r
  ·rw [n] at r;cases r
 have hm:∀ b u,H b=some u->¬ Ux (some u)->b≠x:=fun b u q nm z=>by subst z;rw [q] at mu;exact nm mu
 refine ⟨fun b u q n _ _=>k b u (hb b n) q,fun b u q n _ _=>⟨u.slots,k b u (hb b n) q⟩,fun b u q n _=>by rw [aB (hx b n)];exact n,fun b u q _=>?_,
  fun b xs q=>by rw [aB (hm b _ q fun z=>z)];exact q,fun b u xs q=>by rw [aB (hm b _ q fun z=>z)];exact q,fun b ps q=>⟨#[],by rw [aB (hm b _ q fun z=>z),q];simp⟩⟩
 by_cases hbe:b=e
 ·subst hbe;exact heo
 ·exact ⟨u,k b u hbe q⟩
end
def JK (h:Heap) (H:Hp):List Addr:=(List.range h.objs.size).filter fun a=>(H a).isSome
def vQ (h:Heap) (H:Hp):Heap:=PySem.W.hideAll h (JK h H)
theorem Cz (h:Heap) (H:Hp):(vQ h H).objs.size=h.objs.size:=PySem.W.hideAll_size _ _
theorem Fv {h:Heap} {H:Hp} {b:Addr} {o:Obj} (e:h.get? b=some o) (n:H b=none):(vQ h H).get? b=some o:=
 PySem.W.hideAll_get _ e fun hm=>by
  have q:(H b).isSome=true:=(List.mem_filter.mp hm).2
  rw [n] at q;simp at q
theorem JN {h:Heap} {H:Hp} {b:Addr} {o:Obj} (e:(vQ h H).get? b=some o):h.get? b=some o/\H b=none:=by
 have e':h.get? b=some o:=PySem.W.of_hideAll (JK h H) e
 refine ⟨e',?_⟩
 cases q:H b with
 | none=>rfl
 | some x=>
  have hm:b∈JK h H:=List.mem_filter.mpr ⟨List.mem_range.mpr (Heap.lt_size e'),by simp [q]⟩
  have z:(vQ h H).get? b=none:=PySem.W.hideAll_none (JK h H) hm
  rw [z] at e;cases e
structure Mod (K:W.Frag) (mg:Str->Option Value) (base:Heap):Prop where
 kin:K.In base
 glob:base.Ns mainGlobals mg
 blt:∃ mb,base.Ns builtinsNs mb/\∀ x:Str,x≠"__name__"->mb x=bootBuiltins x
 nolimit:base.NoLimit
 sysm:∃ mm,base.Ns sysModules mm
structure Cx where
 prog:Program
 w:World
 K:W.Frag
 mg:Str->Option Value
 base:Heap
 A:Around
 N:List Str
 s₀:Shared
 H₀:Hp
 env:Env
 outer:List Env
 stack:List Env
 ex:List Addr
 fn:Str->Bool
 calm:Bool
 pn:List (Addr×Obj)
 xe:Value->Shared->Prop
def frs (l:List Env):List Addr:=l.filterMap (·.frame)
abbrev Cx.fs (X:Cx):List Addr:=frs X.outer
def Vis (sc:Scope) (x:Str):Prop:=sc.names.lookup x=some .local\/sc.names.lookup x=some .cell\/sc.names.lookup x=some .free
def Loc (sc:Scope) (x:Str):Prop:=sc.names.lookup x=some .local\/sc.names.lookup x=some .cell
def Look (env:Env) (h:Heap) (m:Str->Option Value) (x:Str) (u:Value):Prop:=
 (env.kindOf x=some .local/\m x=some u)\/((env.kindOf x=some .cell\/env.kindOf x=some .free)/\∃ c,env.cells.lookup x=some c/\h.IsCell c (some u))
structure Cx.Ok (X:Cx):Prop where
 mod:Mod X.K X.mg X.base
 kind:X.env.scope.kind= .function
 glob:X.env.globals=mainGlobals
 blt:X.env.builtins=builtinsNs
 above:X.s₀.heap.objs.size<=X.env.locals
 inj:∀ x y c,X.env.cells.lookup x=some c->X.env.cells.lookup y=some c->x=y
 has:∀ x,(X.env.kindOf x=some .cell\/X.env.kindOf x=some .free)->∃ c,X.env.cells.lookup x=some c
 cab:∀ x c,X.fn x=true->X.env.cells.lookup x=some c->X.s₀.heap.objs.size<=c
 hd:X.calm=true->X.A.handled=none
 frames:X.A.frames=some X.stack
 stk:X.stack=X.outer\/(X.stack=X.env :: X.outer/\X.env.frame=some X.env.locals)
 exf:∀ b∈X.ex,b≠X.env.locals/\∀ x c,X.env.cells.lookup x=some c->c≠b
 bs:∀ b o,X.base.get? b=some o->X.s₀.heap.get? b=some o/\X.H₀ b=none
 bsz:X.base.objs.size<=X.s₀.heap.objs.size
 noex:∀ b o,X.base.get? b=some o->b ∉ X.ex
 exfs:∀ b∈X.ex,b ∉ X.fs
 funs:X.s₀.heap.FunFrames X.base X.outer
 frf:∀ b∈X.fs,X.H₀ b=none
structure Inv (X:Cx) (pins:List (Addr×Obj)) (U:List (Option V)) (H:Hp) (s:Shared):Prop where
 ok:X.Ok
 os:s.os=X.s₀.os
 bare:AllBare s.gens
 base:Un X.fs X.ex X.H₀ H X.s₀.heap s.heap
 loc:∃ m,s.heap.Ns X.env.locals m/\∀ (i:Nat) (x:Str) (v:V),X.N[i]?=some x->U[i]?=some (some v)->Vis X.env.scope x->∃ u,RelV v u/\Look X.env s.heap m x u
 cell:∀ x c,X.env.cells.lookup x=some c->∃ v,s.heap.IsCell c v
 free:H X.env.locals=none
 freeC:∀ x c,X.env.cells.lookup x=some c->H c=none
 pin:∀ p∈X.pn ++ pins,s.heap.get? p.1=some p.2/\H p.1=none/\p.1≠X.env.locals/\p.1 ∉ X.fs/\∀ v,p.2.data≠.cell v
 hok:HOk X.prog X.w H s.heap
 len:U.length=X.N.length
section
variable {X:Cx} {pins:List (Addr×Obj)} {U:List (Option V)} {H H':Hp} {s:Shared} {h':Heap}
theorem Cx.Ok.nofr (ok:X.Ok) {b:Addr} {o:Obj} (e:X.base.get? b=some o):b ∉ X.fs:=fun hb=>by
 have:=(ok.funs.mem hb).1
 rw [e] at this;cases this
theorem Inv.bs (I:Inv X pins U H s):∀ b o,X.base.get? b=some o->s.heap.get? b=some o/\H b=none:=fun b o e=>
 ⟨I.base.keep b o (I.ok.bs b o e).1 (I.ok.bs b o e).2 (I.ok.nofr e) (I.ok.noex b o e),I.base.free b o (I.ok.bs b o e).1 (I.ok.bs b o e).2 (I.ok.noex b o e)⟩
theorem Inv.bk (I:Inv X pins U H s):∀ b o,X.base.get? b=some o->s.heap.get? b=some o:=fun b o e=>(I.bs b o e).1
theorem Inv.mod (I:Inv X pins U H s):Mod X.K X.mg X.base:=I.ok.mod
theorem Inv.kIn (I:Inv X pins U H s):X.K.In s.heap:=I.ok.mod.kin.keeps I.bk
theorem Inv.lt (I:Inv X pins U H s):X.env.locals < s.heap.objs.size:=let ⟨_,hn,_⟩:=I.loc;hn.lt
theorem Inv.sz (I:Inv X pins U H s):X.s₀.heap.objs.size<=s.heap.objs.size:=Nat.le_trans I.ok.above (Nat.le_of_lt I.lt)
theorem Inv.nofs (I:Inv X pins U H s) {a:Addr} (h:s.heap.objs.size<=a):a ∉ X.fs:=fun hb=>by
 obtain ⟨_,o,ho,_⟩:=I.ok.funs.mem hb
 exact absurd (Nat.lt_of_lt_of_le (Heap.lt_size ho) (Nat.le_trans I.sz h)) (Nat.lt_irrefl _)
theorem Inv.cne (I:Inv X pins U H s):∀ x c,X.env.cells.lookup x=some c->c≠X.env.locals:=fun x c e z=>by
 obtain ⟨v,o,ho,hd⟩:=I.cell x c e
 obtain ⟨m,⟨o',es,ep,ho',hd',_⟩,_⟩:=I.loc
 rw [z,ho'] at ho;cases ho;rw [hd'] at hd;cases hd
theorem Inv.funs (I:Inv X pins U H s):s.heap.FunFrames X.base X.outer:=by
 have all:∀ (l:List Env),(∀ b∈frs l,b∈X.fs)->X.s₀.heap.FunFrames X.base l->s.heap.FunFrames X.base l:=by
  intro l
  induction l with
  | nil=>intro _ _;trivial
  | cons env r ih=>
   intro hs hl
   obtain ⟨hk,⟨L,o,hf,hn,ho,hd⟩,hr⟩:=hl
   have hL:L∈X.fs:=hs L (by unfold frs;rw [List.filterMap_cons,hf];exact List.mem_cons_self)
   obtain ⟨sl,e⟩:=I.base.slot L o ho (I.ok.frf L hL) hL fun z=>I.ok.exfs L z hL
   exact ⟨hk,⟨L,_,hf,hn,e,hd⟩,ih (fun b hb=>hs b (by unfold frs;rw [List.filterMap_cons,hf];exact List.mem_cons_of_mem _ hb)) hr⟩
 exact all X.outer (fun _ hb=>hb) I.ok.funs
theorem Inv.stack (I:Inv X pins U H s):s.heap.FunFrames X.base X.stack:=by
 rcases I.ok.stk with e | ⟨e,hf⟩
 ·rw [e];exact I.funs
 ·rw [e]
  obtain ⟨m,hn,_⟩:=I.loc
  refine .cons (by rw [I.ok.kind];decide) hf hn ?_ I.funs
  exact Heap.get?_none_of_le (Nat.le_trans I.ok.bsz I.ok.above)
theorem Inv.stkSub (I:Inv X pins U H s):∀ b∈frs X.stack,b∈X.env.locals :: X.fs:=fun b hb=>by
 rcases I.ok.stk with e | ⟨e,hf⟩
 ·rw [e] at hb;exact List.mem_cons_of_mem _ hb
 ·rw [e] at hb
  unfold frs at hb
  rw [List.filterMap_cons,hf] at hb
  exact hb
theorem Inv.stkFree (I:Inv X pins U H s):∀ b∈frs X.stack,H b=none:=fun b hb=>by
 rcases List.mem_cons.mp (I.stkSub b hb) with e | hb
 ·rw [e];exact I.free
 ·obtain ⟨_,o,ho,_⟩:=I.ok.funs.mem hb
  exact I.base.free b o ho (I.ok.frf b hb) fun z=>I.ok.exfs b z hb
theorem Inv.step {g':Array GenState} {t':Nat} {d':Drawn} {ch:List Addr} (I:Inv X pins U H s)
  (hch:∀ b∈ch,(b∈X.ex\/X.s₀.heap.objs.size<=b)/\b≠X.env.locals/\(∀ x c,X.env.cells.lookup x=some c->c≠b)/\∀ p∈X.pn ++ pins,p.1≠b)
  (keep:∀ b o,b≠X.env.locals->b ∉ X.fs->b ∉ ch->s.heap.get? b=some o->H b=none->h'.get? b=some o)
  (slot:∀ b o,b≠X.env.locals->b∈X.fs->b ∉ ch->s.heap.get? b=some o->H b=none->∃ sl,h'.get? b=some {o with slots:=sl}) (free:∀ b o,b ∉ ch->s.heap.get? b=some o->H b=none->H' b=none)
  (there:∀ b o,b ∉ ch->s.heap.get? b=some o->∃ o',h'.get? b=some o')
  (tups:∀ b xs,H b=some (.tup xs)->H' b=some (.tup xs)) (frzs:∀ b o u,H b=some (.frz o u)->H' b=some (.frz o u)) (tbls:∀ b ps,H b=some (.tbl ps)->∃ more,H' b=some (.tbl (ps ++ more)))
  (ns:∀ m,s.heap.Ns X.env.locals m->h'.Ns X.env.locals m) (hok:HOk X.prog X.w H' h') (hg:AllBare g'):
  Inv X pins U H' {s with heap:=h',gens:=g',drawn:=d',toks:=t'}:=by
 have neL:∀ b o,X.s₀.heap.get? b=some o->b≠X.env.locals:=fun b o e=>Nat.ne_of_lt (Nat.lt_of_lt_of_le (Heap.lt_size e) I.ok.above)
 have neC:∀ b o,X.s₀.heap.get? b=some o->b ∉ X.ex->b ∉ ch:=fun b o e hx hb=>by
  rcases (hch b hb).1 with z | z
  ·exact hx z
  ·exact absurd (Nat.lt_of_lt_of_le (Heap.lt_size e) z) (Nat.lt_irrefl _)
 have cellK:∀ x c,X.env.cells.lookup x=some c->∀ v,s.heap.IsCell c v->h'.IsCell c v:=fun x c e v ⟨o,ho,hd⟩=>by
  have nch:c ∉ ch:=fun z=>(hch c z).2.2.1 x c e rfl
  by_cases hc:c∈X.fs
  ·obtain ⟨sl,q⟩:=slot c o (I.cne x c e) hc nch ho (I.freeC x c e)
   exact ⟨_,q,hd⟩
  ·exact ⟨o,keep c o (I.cne x c e) hc nch ho (I.freeC x c e),hd⟩
 refine ⟨I.ok,I.os,hg,⟨fun b o e n hb hx=>?_,fun b o e n hb hx=>?_,fun b o e n hx=>?_,fun b o e hx=>?_,fun b xs e=>tups b xs (I.base.tups b xs e),fun b o xs e=>frzs b o xs (I.base.frzs b o xs e),fun b ps e=>?_⟩,?_,fun x c e=>?_,?_,fun x c e=>?_,fun p hp=>?_,hok,I.len⟩
 ·exact keep b o (neL b o e) hb (neC b o e hx) (I.base.keep b o e n hb hx) (I.base.free b o e n hx)
 ·obtain ⟨sl,e1⟩:=I.base.slot b o e n hb hx
  obtain ⟨sl',e2⟩:=slot b _ (neL b o e) hb (neC b o e hx) e1 (I.base.free b o e n hx)
  exact ⟨sl',e2⟩
 ·obtain ⟨o',e1⟩:=I.base.there b o e hx
  exact free b o' (neC b o e hx) e1 (I.base.free b o e n hx)
 ·obtain ⟨o',e1⟩:=I.base.there b o e hx
  exact there b o' (neC b o e hx) e1
 ·obtain ⟨m1,e1⟩:=I.base.tbls b ps e
  obtain ⟨m2,e2⟩:=tbls b _ e1
  exact ⟨m1 ++ m2,by rw [e2,Array.append_assoc]⟩
 ·obtain ⟨m,hn,hl⟩:=I.loc
  refine ⟨m,ns m hn,fun i x v e1 e2 e3=>?_⟩
  obtain ⟨u,r,l⟩:=hl i x v e1 e2 e3
  refine ⟨u,r,?_⟩
  rcases l with l | ⟨k,c,e,z⟩
  ·exact .inl l
  ·exact .inr ⟨k,c,e,cellK x c e _ z⟩
 ·obtain ⟨v,z⟩:=I.cell x c e
  exact ⟨v,cellK x c e v z⟩
 ·obtain ⟨m,⟨o,_,_,ho,_⟩,_⟩:=I.loc
  exact free _ o (fun z=>(hch _ z).2.1 rfl) ho I.free
 ·obtain ⟨v,o,ho,hd⟩:=I.cell x c e
  exact free c o (fun z=>(hch c z).2.2.1 x c e rfl) ho (I.freeC x c e)
 ·obtain ⟨e,n,ne,nf,d⟩:=I.pin p hp
  have nch:p.1 ∉ ch:=fun z=>(hch p.1 z).2.2.2 p hp rfl
  exact ⟨keep p.1 p.2 ne nf nch e n,free p.1 p.2 nch e n,ne,nf,d⟩
theorem Inv.un {t':Nat} (I:Inv X pins U H s) (u:Un X.fs [] H H' s.heap h') (hok:HOk X.prog X.w H' h'):Inv X pins U H' {s with heap:=h',toks:=t'}:=by
 obtain ⟨m,⟨o,es,ep,ho,r⟩,_⟩:=id I.loc
 obtain ⟨sl,hL⟩:=u.any ho I.free (by simp)
 exact I.step (g':=s.gens) (d':=s.drawn) (ch:=[]) (fun _ z=>nomatch z) (fun b o _ hb _ e n=>u.keep b o e n hb (by simp)) (fun b o _ hb _ e n=>u.slot b o e n hb (by simp)) (fun b o _ e n=>u.free b o e n (by simp)) (fun b o _ e=>u.there b o e (by simp)) u.tups u.frzs u.tbls (fun m' hm=>by
  obtain ⟨o',es',ep',ho',r'⟩:=hm
  rw [ho] at ho';cases ho'
  exact ⟨_,es',ep',hL,r'⟩) hok I.bare
theorem Inv.call {g':Array GenState} {t':Nat} {d':Drawn} {ch:List Addr} (I:Inv X pins U H s) (u:Un (frs X.stack) ch H H' s.heap h') (hok:HOk X.prog X.w H' h') (hg:AllBare g')
  (hch:∀ b∈ch,(b∈X.ex\/X.s₀.heap.objs.size<=b)/\b≠X.env.locals/\(∀ x c,X.env.cells.lookup x=some c->c≠b)/\∀ p∈X.pn ++ pins,p.1≠b):
  Inv X pins U H' {s with heap:=h',gens:=g',drawn:=d',toks:=t'}:=by
 obtain ⟨m,⟨o,es,ep,ho,r⟩,_⟩:=id I.loc
 obtain ⟨sl,hL⟩:=u.any ho I.free fun z=>(hch _ z).2.1 rfl
 exact I.step (ch:=ch) hch (fun b o hL hb hc e n=>u.keep b o e n (fun z=>(List.mem_cons.mp (I.stkSub b z)).elim hL hb) hc) (fun b o _ _ hc e n=>u.any e n hc) (fun b o hc e n=>u.free b o e n hc) (fun b o hc e=>u.there b o e hc) u.tups u.frzs u.tbls (fun m' hm=>by
  obtain ⟨o',es',ep',ho',r'⟩:=hm
  rw [ho] at ho';cases ho'
  exact ⟨_,es',ep',hL,r'⟩) hok hg
theorem Inv.turned {t':Nat} {it:Addr} (I:Inv X pins U H s) (k:∀ b o,b≠it->s.heap.get? b=some o->h'.get? b=some o) (hn:H it=none) (hL:it≠X.env.locals)
  (h1:it∈X.ex\/X.s₀.heap.objs.size<=it) (h2:∀ x c,X.env.cells.lookup x=some c->c≠it) (h3:∀ p∈X.pn ++ pins,p.1≠it):Inv X pins U H {s with heap:=h',toks:=t'}:=by
 have nit:∀ b u,H b=some u->b≠it:=fun b u e z=>by rw [z,hn] at e;cases e
 refine I.step (g':=s.gens) (d':=s.drawn) (ch:=[it]) (fun b hb=>?_) (fun b o _ _ hc e _=>k b o (fun z=>hc (by simp [z])) e) (fun b o _ _ hc e _=>⟨o.slots,k b o (fun z=>hc (by simp [z])) e⟩) (fun _ _ _ _ n=>n)
  (fun b o hc e=>⟨o,k b o (fun z=>hc (by simp [z])) e⟩) (fun _ _ e=>e) (fun _ _ _ e=>e) (fun b ps e=>⟨#[],by rw [e];simp⟩) (fun m hm=>?_) (fun b u e=>?_) I.bare
 ·have e:b=it:=by simpa using hb
  subst e
  exact ⟨h1,hL,h2,h3⟩
 ·obtain ⟨o,es,ep,ho,r⟩:=hm
  exact ⟨o,es,ep,k _ o (Ne.symm hL) ho,r⟩
 ·refine (I.hok b u e).stay (fun c v hc q=>k c v ?_ q) (fun _ q=>q) fun _ _ q=>q
  rcases hc with z | z
  ·rw [z];exact nit b u e
  ·exact nit c _ z
theorem Inv.tok (I:Inv X pins U H s) (t:Nat):Inv X pins U H {s with toks:=t}:=I.un (h':=s.heap) (t':=t) Un.refl I.hok
theorem Inv.kept {t':Nat} (I:Inv X pins U H s) (k:∀ b u,s.heap.get? b=some u->h'.get? b=some u):Inv X pins U H {s with heap:=h',toks:=t'}:=I.un (Un.kept k) (I.hok.kept k)
theorem Inv.laid {a:Addr} {o:HO} {t':Nat} (I:Inv X pins U H s) (k:∀ b u,s.heap.get? b=some u->h'.get? b=some u) (hp:s.heap.objs.size<=a) (new:ObjOk X.prog X.w (upd H a o) h' a o):
  Inv X pins U (upd H a o) {s with heap:=h',toks:=t'}:=I.un (Un.laid k hp (I.hok.fresh hp)) (I.hok.laid k hp new)
theorem Inv.write {x e:Addr} {o:HO} {t':Nat} (I:Inv X pins U H s) (mu:Ux (H x)) (he:e=x\/H e=some (.own x)) (k:∀ b u,b≠e->s.heap.get? b=some u->h'.get? b=some u) (heo:∃ u,h'.get? e=some u)
  (new:ObjOk X.prog X.w (upd H x o) h' x o):Inv X pins U (upd H x o) {s with heap:=h',toks:=t'}:=I.un (Un.write mu he k heo) (I.hok.write mu he k heo new)
theorem Inv.weak {U':List (Option V)} (I:Inv X pins U H s) (hl:U'.length=U.length) (w:∀ (i:Nat) v,U'[i]?=some (some v)->U[i]?=some (some v)):Inv X pins U' H s:=
 ⟨I.ok,I.os,I.bare,I.base,let ⟨m,hn,hl'⟩:=I.loc;⟨m,hn,fun i x v e1 e2 e3=>hl' i x v e1 (w i v e2) e3⟩,I.cell,I.free,I.freeC,I.pin,I.hok,hl.trans I.len⟩
theorem Inv.pins_of {pins':List (Addr×Obj)} (I:Inv X pins U H s) (h:∀ p∈pins',s.heap.get? p.1=some p.2/\H p.1=none/\p.1≠X.env.locals/\p.1 ∉ X.fs/\∀ v,p.2.data≠.cell v):Inv X pins' U H s:=
 ⟨I.ok,I.os,I.bare,I.base,I.loc,I.cell,I.free,I.freeC,fun p hp=>(List.mem_append.mp hp).elim (fun z=>I.pin p (List.mem_append_left _ z)) (h p),I.hok,I.len⟩
theorem w5 {N:List Str} (hN:N.Nodup) {i j:Nat} {x:Str} (a:N[i]?=some x) (b:N[j]?=some x):i=j:=by
 obtain ⟨h1,e1⟩:=List.getElem?_eq_some_iff.mp a
 obtain ⟨h2,e2⟩:=List.getElem?_eq_some_iff.mp b
 exact (List.getElem_inj hN).mp (e1.trans e2.symm)
theorem u0 {M:Model} {A:Around} {E:Value->Shared->Prop} {i:Nat} {x:Str} {v:V} {u:Value} {Q:Unit->Shared->Prop} (I:Inv X pins U H s) (hN:X.N.Nodup) (hi:X.N[i]?=some x) (hx:Loc X.env.scope x) (r:RelV v u)
  (h:∀ s',Inv X pins (U.set i (some v)) H s'->(∃ a,Heap.SameBut a s.heap s'.heap/\(a=X.env.locals\/X.env.cells.lookup x=some a))->Q () s') (hf:autoParam (X.fn x=true\/X.env.scope.names.lookup x=some .local) L2.auto1._auto_1):wpAny M A (storeName X.env x u) Q E s:=by
 obtain ⟨m,hn,hl⟩:=id I.loc
 have hcls:(X.env.scope.kind == .class || (X.env.scope.kind == .module && X.env.locals != X.env.globals))=false:=by rw [I.ok.kind];rfl
 have hiU:i < U.length:=by rw [I.len];exact (List.getElem?_eq_some_iff.mp hi).1
 have cne:=I.cne
 have tracked:∀ {a:Addr} {h':Heap},(∃ o,s.heap.get? a=some o/\H a=none)->Heap.SameBut a s.heap h'->HOk X.prog X.w H h':=fun {a h'} ha hs b ob e=>by
  obtain ⟨_,_,hfree⟩:=ha
  refine (I.hok b ob e).stay (fun c w' hc q=>(hs.2 c ?_).trans q) (fun _ q=>q) fun _ _ q=>q
  rintro rfl
  rcases hc with rfl | hc
  ·rw [hfree] at e;cases e
  ·rw [hfree] at hc;cases hc
 rcases hx with hk | hk
 ·refine wpAny_storeName_local hk hn (fun h' hn' hs=>?_) hcls
  obtain ⟨oL,_,_,hoL,_⟩:=id hn
  refine h _ ⟨I.ok,I.os,I.bare,⟨fun b o e n hb hx=>?_,fun b o e n hb hx=>?_,I.base.free,fun b o e hx=>?_,I.base.tups,I.base.frzs,I.base.tbls⟩,⟨_,hn',fun j y v' e1 e2 e3=>?_⟩,fun y c e=>?_,I.free,I.freeC,fun p hp=>?_,tracked ⟨oL,hoL,I.free⟩ hs,by simpa using I.len⟩ ⟨_,hs,.inl rfl⟩
  ·exact (hs.2 b (Nat.ne_of_lt (Nat.lt_of_lt_of_le (Heap.lt_size e) I.ok.above))).trans (I.base.keep b o e n hb hx)
  ·obtain ⟨sl,e1⟩:=I.base.slot b o e n hb hx
   exact ⟨sl,(hs.2 b (Nat.ne_of_lt (Nat.lt_of_lt_of_le (Heap.lt_size e) I.ok.above))).trans e1⟩
  ·obtain ⟨o',e1⟩:=I.base.there b o e hx
   exact ⟨o',(hs.2 b (Nat.ne_of_lt (Nat.lt_of_lt_of_le (Heap.lt_size e) I.ok.above))).trans e1⟩
  ·by_cases hj:j=i
   ·subst hj
    rw [hi] at e1;cases e1
    rw [List.getElem?_set_self hiU] at e2
    cases e2
    exact ⟨u,r,.inl ⟨hk,by simp⟩⟩
   ·rw [List.getElem?_set_ne (Ne.symm hj)] at e2
    obtain ⟨u',r',q⟩:=hl j y v' e1 e2 e3
    refine ⟨u',r',?_⟩
    rcases q with ⟨k,e⟩ | ⟨k,c,e,z⟩
    ·refine .inl ⟨k,?_⟩
     have:y≠x:=fun e=>hj (w5 hN e1 (e ▸ hi))
     simp [this,e]
    ·exact .inr ⟨k,c,e,z.sameBut hs (cne y c e)⟩
  ·obtain ⟨w',z⟩:=I.cell y c e
   exact ⟨w',z.sameBut hs (cne y c e)⟩
  ·obtain ⟨e,n,ne,nf,d⟩:=I.pin p hp
   exact ⟨(hs.2 p.1 ne).trans e,n,ne,nf,d⟩
 ·have hfn:X.fn x=true:=by
   rcases hf with z | z
   ·exact z
   ·rw [z] at hk;cases hk
  obtain ⟨c,hc⟩:=I.ok.has x (.inl hk)
  obtain ⟨w',z⟩:=I.cell x c hc
  refine wpAny_storeName_cell I.ok.kind hk hc z (fun h' hc' hs=>?_)
  obtain ⟨oc,hoc,hocd⟩:=id z
  refine h {s with heap:=h'} ⟨I.ok,I.os,I.bare,⟨fun b o e n hb hx=>?_,fun b o e n hb hx=>?_,I.base.free,fun b o e hx=>?_,I.base.tups,I.base.frzs,I.base.tbls⟩,⟨m,hn.sameBut hs (Ne.symm (cne x c hc)),fun j y v' e1 e2 e3=>?_⟩,fun y c' e=>?_,I.free,I.freeC,fun p hp=>?_,tracked ⟨oc,hoc,I.freeC x c hc⟩ hs,by simpa using I.len⟩ ⟨c,hs,.inr hc⟩
  ·exact (hs.2 b (Nat.ne_of_lt (Nat.lt_of_lt_of_le (Heap.lt_size e) (I.ok.cab x c hfn hc)))).trans (I.base.keep b o e n hb hx)
  ·obtain ⟨sl,e1⟩:=I.base.slot b o e n hb hx
   exact ⟨sl,(hs.2 b (Nat.ne_of_lt (Nat.lt_of_lt_of_le (Heap.lt_size e) (I.ok.cab x c hfn hc)))).trans e1⟩
  ·obtain ⟨o',e1⟩:=I.base.there b o e hx
   exact ⟨o',(hs.2 b (Nat.ne_of_lt (Nat.lt_of_lt_of_le (Heap.lt_size e) (I.ok.cab x c hfn hc)))).trans e1⟩
  ·by_cases hj:j=i
   ·subst hj
    rw [hi] at e1;cases e1
    rw [List.getElem?_set_self hiU] at e2
    cases e2
    exact ⟨u,r,.inr ⟨.inl hk,c,hc,hc'⟩⟩
   ·rw [List.getElem?_set_ne (Ne.symm hj)] at e2
    obtain ⟨u',r',q⟩:=hl j y v' e1 e2 e3
    refine ⟨u',r',?_⟩
    rcases q with q | ⟨k,c',e,z'⟩
    ·exact .inl q
    ·refine .inr ⟨k,c',e,z'.sameBut hs ?_⟩
     rintro rfl
     exact hj (w5 hN e1 (I.ok.inj _ _ _ e hc ▸ hi))
  ·by_cases hcc:c'=c
   ·subst hcc;exact ⟨_,hc'⟩
   ·obtain ⟨w2,z2⟩:=I.cell y c' e
    exact ⟨w2,z2.sameBut hs hcc⟩
  ·obtain ⟨e,n,ne,nf,d⟩:=I.pin p hp
   refine ⟨(hs.2 p.1 ?_).trans e,n,ne,nf,d⟩
   intro q
   rw [q,hoc] at e
   have q':oc=p.2:=Option.some.inj e
   exact d w' (by rw [← q'];exact hocd)
theorem w6 {M:Model} {A:Around} {E:Value->Shared->Prop} {i:Nat} {x:Str} {v:V} {u:Value} {Q:Unit->Shared->Prop} (I:Inv X pins U H s) (hN:X.N.Nodup) (hi:X.N[i]?=some x) (hx:Loc X.env.scope x) (r:RelV v u)
  (h:∀ s',Inv X pins (U.set i (some v)) H s'->Q () s') (hf:autoParam (X.fn x=true\/X.env.scope.names.lookup x=some .local) L2.auto1._auto_1):wpAny M A (storeName X.env x u) Q E s:=
 u0 I hN hi hx r (fun s' I' _=>h s' I') hf
theorem Inv.call' {s':Shared} {ch:List Addr} (I:Inv X pins U H s) (ho:s'.os=s.os) (u:Un (frs X.stack) ch H H' s.heap s'.heap) (hok:HOk X.prog X.w H' s'.heap) (hg:AllBare s'.gens)
  (hch:∀ b∈ch,(b∈X.ex\/X.s₀.heap.objs.size<=b)/\b≠X.env.locals/\(∀ x c,X.env.cells.lookup x=some c->c≠b)/\∀ p∈X.pn ++ pins,p.1≠b):Inv X pins U H' s':=by
 obtain ⟨h',g',d',t',o'⟩:=s'
 have e:o'=s.os:=ho
 subst e
 exact I.call (g':=g') (t':=t') (d':=d') u hok hg hch
end
abbrev XK:=Value->Option Addr->Hp->Prop
abbrev St:=List (Option V)
abbrev VK:=V->Hp->Prop
abbrev TE:=St->Hp->VK->Prop
abbrev TT:=St->Hp->(Bool->Hp->Prop)->Prop
abbrev TA:=St->Hp->(List V->Hp->Prop)->Prop
structure Ends where
 nx:St->Hp->Prop
 rt:VK
 bk:St->Hp->Prop:=fun _ _=>False
 ct:St->Hp->Prop:=fun _ _=>False
abbrev TS:=Ends->St->Hp->Prop
def EP (X:Cx) (pins:List (Addr×Obj)) (U:St) (Q:VK) (u:Value) (s':Shared):Prop:=∃ v H',Inv X pins U H' s'/\RelV v u/\Q v H'
def TP (X:Cx) (pins:List (Addr×Obj)) (U:St) (Q:Bool->Hp->Prop) (b:Bool) (s':Shared):Prop:=∃ H',Inv X pins U H' s'/\Q b H'
def AP (X:Cx) (pins:List (Addr×Obj)) (U:St) (Q:List V->Hp->Prop) (us:List Value) (s':Shared):Prop:=∃ vs H',Inv X pins U H' s'/\Vals vs us/\Q vs H'
def SP (X:Cx) (pins:List (Addr×Obj)) (D:Ends) (f:Flow) (s':Shared):Prop:=
 match f with
 | .next=>∃ U' H',Inv X pins U' H' s'/\D.nx U' H'
 | .brk=>∃ U' H',Inv X pins U' H' s'/\D.bk U' H'
 | .cont=>∃ U' H',Inv X pins U' H' s'/\D.ct U' H'
 | .ret u=>∃ v U' H',Inv X pins U' H' s'/\RelV v u/\D.rt v H'
def PE (X:Cx) (e:Expr) (t:TE):Prop:=
 ∀ (pins:List (Addr×Obj)) (s:Shared) (U:St) (H:Hp) (Q:VK),Inv X pins U H s->t U H Q->wpAny (model X.prog X.w) X.A (eval e X.env) (EP X pins U Q) X.xe s
def PT (X:Cx) (e:Expr) (t:TT):Prop:=
 ∀ (pins:List (Addr×Obj)) (s:Shared) (U:St) (H:Hp) (Q:Bool->Hp->Prop),Inv X pins U H s->t U H Q->wpAny (model X.prog X.w) X.A (isTrue e X.env (eval e X.env)) (TP X pins U Q) X.xe s
def PW (X:Cx) (e:Expr) (t:TT):Prop:=
 ∀ (whole:Sem Value) (pins:List (Addr×Obj)) (s:Shared) (U:St) (H:Hp) (Q:Bool->Hp->Prop),Inv X pins U H s->t U H Q->wpAny (model X.prog X.w) X.A (isTrue e X.env whole) (TP X pins U Q) X.xe s
theorem PW.pt {X:Cx} {e:Expr} {t:TT} (h:PW X e t):PT X e t:=h _
def PA (X:Cx) (es:List Expr) (t:TA):Prop:=
 ∀ (pos:Pos) (pins:List (Addr×Obj)) (s:Shared) (U:St) (H:Hp) (Q:List V->Hp->Prop),Inv X pins U H s->t U H Q->wpAny (model X.prog X.w) X.A (spliced (backTo pos (starEach es X.env))) (AP X pins U Q) X.xe s
def PS (X:Cx) (st:Stmt) (t:TS):Prop:=
 ∀ (pins:List (Addr×Obj)) (s:Shared) (U:St) (H:Hp) (D:Ends),Inv X pins U H s->t D U H->wpAny (model X.prog X.w) X.A (exec st X.env) (SP X pins D) X.xe s
def PSs (X:Cx) (st:List Stmt) (t:TS):Prop:=
 ∀ (pins:List (Addr×Obj)) (s:Shared) (U:St) (H:Hp) (D:Ends),Inv X pins U H s->t D U H->wpAny (model X.prog X.w) X.A (execs st X.env) (SP X pins D) X.xe s
theorem fM {α:Type} {t:Sem α} {Q Q':α->Shared->Prop} {M:Model} {A:Around} {E:Value->Shared->Prop} {s:Shared} (h:wpAny M A t Q E s) (hQ:∀ a s,Q a s->Q' a s):wpAny M A t Q' E s:=wpAny_mono h hQ fun _ _ x=>x
section
variable {X:Cx}
def uK (i:Nat):TE:=fun U H Q=>∃ v,U[i]?=some (some v)/\Q v H
def tC (v:V):TE:=fun _ H Q=>Q v H
theorem vR {i:Nat} {x:Str} {pos:Pos} (hN:X.N[i]?=some x) (hv:Vis X.env.scope x) (hd:autoParam ((x == ("__debug__":Str))=false) L2.auto2._auto_1) (hcd:autoParam ((x == ("__classdict__":Str))=false) L2.auto2._auto_1):PE X (.Name x pos) (uK i):=by
 intro pins s U H Q I h
 obtain ⟨v,e,h⟩:=h
 obtain ⟨m,hn,hl⟩:=I.loc
 obtain ⟨u,r,l⟩:=hl i x v hN e hv
 have fin:EP X pins U Q u s:=⟨v,H,I,r,h⟩
 rcases l with ⟨hk,hm⟩ | ⟨hk,c,hc,hcell⟩
 ·exact wpAny_Name (wpAny_loadName_local I.ok.kind hk hn hm fin) hd
 ·rcases hk with hk | hk
  ·exact wpAny_Name (wpAny_loadName_cell I.ok.kind hk hc hcell fin) hd
  ·exact wpAny_Name (wpAny_loadName_free I.ok.kind hk hc hcell fin hcd) hd
theorem PN {i j pos}:PE X (.Constant (.int i) j pos) (tC (.int i)):=fun _ _ _ H _ I h=>wpAny_Constant_int ⟨.int i,H,I.tok _,⟨_,rfl⟩,h⟩
theorem Uy {b j pos}:PE X (.Constant (.bool b) j pos) (tC (.bl b)):=fun _ _ _ H _ I h=>Constant_bool ⟨.bl b,H,I,rfl,h⟩
theorem PP {x j pos}:PE X (.Constant (.str x) j pos) (tC (.str x)):=fun _ _ _ H _ I h=>Calls.Constant_str ⟨.str x,H,I.tok _,⟨_,rfl⟩,h⟩
def Gl (X:Cx) (x:Str):Prop:=X.env.kindOf x=some .globalImplicit
theorem vU {E:Value->Shared->Prop} {pins:List (Addr×Obj)} {s:Shared} {U:St} {H:Hp} {x:Str} {u:Value} {pos:Pos} {Q:Value->Shared->Prop} (I:Inv X pins U H s) (hg:Gl X x) (hm:X.mg x=some u) (h:Q u s)
  (hd:autoParam ((x == ("__debug__":Str))=false) L2.auto2._auto_1):wpAny (model X.prog X.w) X.A (eval (.Name x pos) X.env) Q E s:=
 Calls.Name_function_global I.ok.kind hg (Calls.loadGlobal_global (by rw [I.ok.glob];exact I.mod.glob.keeps I.bk) hm h) hd
theorem ik {E:Value->Shared->Prop} {pins:List (Addr×Obj)} {s:Shared} {U:St} {H:Hp} {x:Str} {u:Value} {pos:Pos} {Q:Value->Shared->Prop} (I:Inv X pins U H s) (hg:Gl X x) (hm:X.mg x=none) (hv:bootBuiltins x=some u) (h:Q u s)
  (hn:autoParam (x≠"__name__") L2.auto2._auto_1) (hd:autoParam ((x == ("__debug__":Str))=false) L2.auto2._auto_1):wpAny (model X.prog X.w) X.A (eval (.Name x pos) X.env) Q E s:=by
 obtain ⟨mb,h1,h2⟩:=I.mod.blt
 exact Calls.Name_function_global I.ok.kind hg (Calls.loadGlobal_builtin (by rw [I.ok.glob];exact I.mod.glob.keeps I.bk) hm (by rw [I.ok.blt];exact h1.keeps I.bk) ((h2 x hn).trans hv) h) hd
theorem Av {x:Str} {v:V} {u:Value} {pos:Pos} (hg:Gl X x) (hm:X.mg x=some u) (r:RelV v u) (hd:autoParam ((x == ("__debug__":Str))=false) L2.auto2._auto_1):PE X (.Name x pos) (tC v):=
 fun _ _ _ H _ I h=>vU I hg hm ⟨v,H,I,r,h⟩ hd
theorem JP {x:Str} {v:V} {u:Value} {pos:Pos} (hg:Gl X x) (hm:X.mg x=none) (hv:bootBuiltins x=some u) (r:RelV v u) (hn:autoParam (x≠"__name__") L2.auto2._auto_1) (hd:autoParam ((x == ("__debug__":Str))=false) L2.auto2._auto_1):PE X (.Name x pos) (tC v):=
 fun _ _ _ H _ I h=>ik I hg hm hv ⟨v,H,I,r,h⟩ hn hd
variable {a b:Expr} {ta tb:TE} {pos:Pos}
def tB (t:TE):TT:=fun U H Q=>t U H fun x H1=>∃ c,x= .bl c/\Q c H1
theorem PQ {e:Expr} {t:TE} (h:PE X e t) (he:autoParam (∀ whole,isTrue e X.env whole=(do let v ← whole;standAt e.pos;holding [v] (truthy v))) L2.auto3._auto_1):PT X e (tB t):=by
 intro pins s U H Q I hw
 refine isTrue_plain (fM (h pins s U H _ I hw) fun v s1 qq0=>?_) (he _)
 obtain ⟨x,H1,I1,r1,q1⟩:=qq0
 obtain ⟨d,rfl,q⟩:=q1
 cases r1
 exact wpAny_truthy_bool ⟨H1,I1,q⟩
variable {tA tB':TT} {rest:List Expr}
def PX (t u:TT):TT:=fun U H Q=>t U H fun c H1=>if c=true then u U H1 Q else Q false H1
def tOr (t u:TT):TT:=fun U H Q=>t U H fun c H1=>if c=true then Q true H1 else u U H1 Q
def P0 (t:TT):TT:=fun U H Q=>t U H fun c H1=>Q (!c) H1
theorem JQ (ha:PT X a tA):PW X (.BoolOp .And [a] pos) tA:=by
 intro wh pins s U H Q I h
 refine isTrue_and (fM (ha pins s U H Q I h) fun c s1 e=>?_)
 cases c with
 | true=>exact isTrue_and_nil e
 | false=>exact e
theorem Qa (ha:PT X a tA):PW X (.BoolOp .Or [a] pos) tA:=by
 intro wh pins s U H Q I h
 refine isTrue_or (fM (ha pins s U H Q I h) fun c s1 e=>?_)
 cases c with
 | false=>exact isTrue_or_nil e
 | true=>exact e
theorem Qc (ha:PT X a tA) (hb:PW X (.BoolOp .And (b :: rest) pos) tB'):PW X (.BoolOp .And (a :: b :: rest) pos) (PX tA tB'):=by
 intro wh pins s U H Q I h
 refine isTrue_and (fM (ha pins s U H _ I h) fun c s1 qq0=>?_)
 obtain ⟨H1,I1,q1⟩:=qq0
 cases c with
 | true=>exact hb wh pins s1 U H1 Q I1 q1
 | false=>exact ⟨H1,I1,q1⟩
theorem Uz (ha:PT X a tA) (hb:PW X (.BoolOp .Or (b :: rest) pos) tB'):PW X (.BoolOp .Or (a :: b :: rest) pos) (tOr tA tB'):=by
 intro wh pins s U H Q I h
 refine isTrue_or (fM (ha pins s U H _ I h) fun c s1 qq0=>?_)
 obtain ⟨H1,I1,q1⟩:=qq0
 cases c with
 | true=>exact ⟨H1,I1,q1⟩
 | false=>exact hb wh pins s1 U H1 Q I1 q1
theorem Qd (ha:PT X a tA):PT X (.UnaryOp .Not a pos) (P0 tA):=by
 intro pins s U H Q I h
 exact isTrue_not (ha pins s U H (fun c H1=>Q (!c) H1) I h)
def Fw (ta tb:TE):TE:=fun U H Q=>ta U H fun x H1=>∃ c,x= .bl c/\if c=true then tb U H1 Q else Q (.bl false) H1
def Fx (ta:TE):TE:=fun U H Q=>ta U H fun x H1=>∃ c,x= .bl c/\Q (.bl (!c)) H1
theorem Qe {op} {t:TE} (h:PE X a t):PE X (.BoolOp op [a] pos) t:=fun pins s U H Q I hw=>BoolOp_one (h pins s U H Q I hw)
theorem Qf (ha:PE X a ta) (hb:PE X (.BoolOp .And (b :: rest) pos) tb):PE X (.BoolOp .And (a :: b :: rest) pos) (Fw ta tb):=by
 intro pins s U H Q I h
 refine BoolOp_and (fM (ha pins s U H _ I h) fun v s1 qq0=>?_)
 obtain ⟨x,H1,I1,r1,q1⟩:=qq0
 obtain ⟨c,rfl,q1⟩:=q1
 cases r1
 refine wpAny_truthy_bool ?_
 cases c with
 | true=>exact hb pins s1 U H1 Q I1 q1
 | false=>exact ⟨.bl false,H1,I1,rfl,q1⟩
theorem Qg (ha:PE X a ta):PE X (.UnaryOp .Not a pos) (Fx ta):=by
 intro pins s U H Q I h
 refine UnaryOp_ (fM (ha pins s U H _ I h) fun v s1 qq0=>?_)
 obtain ⟨x,H1,I1,r1,q1⟩:=qq0
 obtain ⟨c,rfl,q1⟩:=q1
 cases r1
 exact not_of (wpAny_truthy_bool ⟨.bl (!c),H1,I1,rfl,q1⟩)
def tIf (t:TT) (ta tb:TE):TE:=fun U H Q=>t U H fun c H1=>if c=true then ta U H1 Q else tb U H1 Q
theorem Fy {c:Expr} (hc:PT X c tA) (ha:PE X a ta) (hb:PE X b tb):PE X (.IfExp c a b pos) (tIf tA ta tb):=by
 intro pins s U H Q I h
 refine wpAny_IfExp (fM (hc pins s U H _ I h) fun d s1 qq0=>?_)
 obtain ⟨H1,I1,q1⟩:=qq0
 cases d with
 | true=>exact ha pins s1 U H1 Q I1 q1
 | false=>exact hb pins s1 U H1 Q I1 q1
end
def SqL (K:W.Frag) (H:Hp) (a:Addr) (xs:List V):Prop:=
 Rd H a (.lst xs)\/
  ∃ (o:Obj) (its:Array Value) (n:Nat),K.lookup a=some o/\o.cls= .type "list"/\o.dict=none/\o.data= .seq its n/\its.size<=sizeLine/\Vals xs its.toList
def SqT (K:W.Frag) (H:Hp) (a:Addr) (xs:List V):Prop:=
 Rd H a (.tup xs)\/
  ∃ (o:Obj) (its:Array Value) (n:Nat),K.lookup a=some o/\o.cls= .type "tuple"/\o.data= .seq its n/\its.size<=sizeLine/\Vals xs its.toList
def absV:Value->Option V
 | .none=>some .non
 | .bool b=>some (.bl b)
 | .int i _=>some (.int i)
 | .str x _=>some (.str x)
 | .bytes b _=>some (.byt b)
 | .float b _=>some (.flt b)
 | .ref a=>some (.ref a)
 | .type n=>some (.ty n)
 | _=>none
theorem RelV.abs {x:V} {u:Value} (r:RelV x u):absV u=some x:=by
 cases x with
 | non=>cases r;rfl
 | bl _=>cases r;rfl
 | int _=>obtain ⟨t,rfl⟩:=r;rfl
 | str _=>obtain ⟨t,rfl⟩:=r;rfl
 | byt _=>obtain ⟨t,rfl⟩:=r;rfl
 | flt _=>obtain ⟨t,rfl⟩:=r;rfl
 | ref _=>cases r;rfl
 | ty _=>cases r;rfl
theorem RelV.inj {x y:V} {u:Value} (r:RelV x u) (q:RelV y u):x=y:=Option.some.inj (r.abs.symm.trans q.abs)
theorem Vals.inj:∀ {xs ys:List V} {us:List Value},Vals xs us->Vals ys us->xs=ys
 | _,_,_,.nil,.nil=>rfl
 | _,_,_,.cons r t,.cons r' t'=>by rw [r.inj r',Vals.inj t t']
section
variable {X:Cx} {pins:List (Addr×Obj)} {U:St} {H:Hp} {s:Shared} {a:Addr} {xs ys:List V}
theorem SqL.of {K:W.Frag} (h:H a=some (.lst xs)):SqL K H a xs:=.inl (.inl h)
theorem SqT.of {K:W.Frag} (h:H a=some (.tup xs)):SqT K H a xs:=.inl (.inl h)
theorem Inv.list (I:Inv X pins U H s) (h:SqL X.K H a xs):∃ its:List Value,Vals xs its/\PlainL s.heap a its.toArray/\xs.length<=sizeLine:=by
 rcases h with h | ⟨o,its,n,hk,hc,hd,hs,hz,r⟩
 ·obtain ⟨z,its,n,r,e⟩:=h.ok I.hok
  exact ⟨its,r,⟨_,n,e,rfl,rfl,rfl⟩,z⟩
 ·refine ⟨its.toList,r,⟨o,n,I.kIn a o hk,hc,hd,by simpa using hs⟩,?_⟩
  have e:=r.length
  simp only [Array.length_toList] at e
  omega
theorem Inv.tuple (I:Inv X pins U H s) (h:SqT X.K H a xs):∃ its:List Value,Vals xs its/\IsTup s.heap a its.toArray/\xs.length<=sizeLine:=by
 rcases h with h | ⟨o,its,n,hk,hc,hs,hz,r⟩
 ·obtain ⟨z,its,r,p⟩:=h.ok I.hok
  exact ⟨its,r,p,z⟩
 ·refine ⟨its.toList,r,⟨o,I.kIn a o hk,hc,n,by simpa using hs⟩,?_⟩
  have e:=r.length
  simp only [Array.length_toList] at e
  omega
theorem Inv.list_inj (I:Inv X pins U H s) (h:SqL X.K H a xs) (h':SqL X.K H a ys):xs=ys:=by
 obtain ⟨its,r,⟨o,n,e,_,_,d⟩,_⟩:=I.list h
 obtain ⟨its',r',⟨o',n',e',_,_,d'⟩,_⟩:=I.list h'
 rw [e] at e';cases e'
 rw [d] at d'
 injection d' with d1 _
 have:its=its':=by simpa using congrArg Array.toList d1
 subst this
 exact r.inj r'
theorem Inv.tuple_inj (I:Inv X pins U H s) (h:SqT X.K H a xs) (h':SqT X.K H a ys):xs=ys:=by
 obtain ⟨its,r,⟨o,e,_,n,d⟩,_⟩:=I.tuple h
 obtain ⟨its',r',⟨o',e',_,n',d'⟩,_⟩:=I.tuple h'
 rw [e] at e';cases e'
 rw [d] at d'
 injection d' with d1 _
 have:its=its':=by simpa using congrArg Array.toList d1
 subst this
 exact r.inj r'
end
abbrev Cx.wish (X:Cx) (E:Value->Shared->Prop):Cx:={X with xe:=E}
abbrev Cx.nox (X:Cx):Cx:=X.wish fun _ _=>False
theorem Cx.Ok.wish {X:Cx} (ok:X.Ok) (E:Value->Shared->Prop):(X.wish E).Ok:=
 ⟨ok.mod,ok.kind,ok.glob,ok.blt,ok.above,ok.inj,ok.has,ok.cab,ok.hd,ok.frames,ok.stk,ok.exf,ok.bs,ok.bsz,ok.noex,ok.exfs,ok.funs,ok.frf⟩
theorem Cx.Ok.unwish {X:Cx} {E:Value->Shared->Prop} (ok:(X.wish E).Ok):X.Ok:=
 ⟨ok.mod,ok.kind,ok.glob,ok.blt,ok.above,ok.inj,ok.has,ok.cab,ok.hd,ok.frames,ok.stk,ok.exf,ok.bs,ok.bsz,ok.noex,ok.exfs,ok.funs,ok.frf⟩
section
variable {X:Cx} {pins:List (Addr×Obj)} {U:St} {H:Hp} {s:Shared} {E:Value->Shared->Prop}
theorem Inv.wish (I:Inv X pins U H s) (E:Value->Shared->Prop):Inv (X.wish E) pins U H s:=⟨I.ok.wish E,I.os,I.bare,I.base,I.loc,I.cell,I.free,I.freeC,I.pin,I.hok,I.len⟩
theorem Inv.unwish (I:Inv (X.wish E) pins U H s):Inv X pins U H s:=⟨I.ok.unwish,I.os,I.bare,I.base,I.loc,I.cell,I.free,I.freeC,I.pin,I.hok,I.len⟩
theorem SP.unwish {D:Ends} {f:Flow} {s':Shared} (h:SP (X.wish E) pins D f s'):SP X pins D f s':=by
 cases f with
 | next=>obtain ⟨U',H',I,q⟩:=h;exact ⟨U',H',I.unwish,q⟩
 | brk=>obtain ⟨U',H',I,q⟩:=h;exact ⟨U',H',I.unwish,q⟩
 | cont=>obtain ⟨U',H',I,q⟩:=h;exact ⟨U',H',I.unwish,q⟩
 | ret u=>obtain ⟨v,U',H',I,r,q⟩:=h;exact ⟨v,U',H',I.unwish,r,q⟩
theorem PSs.nox {st:List Stmt} {t:TS} (h:PSs X.nox st t):PSs X st t:=fun pins s U H D I hw=>
 wpAny_mono (h pins s U H D (I.wish _) hw) (fun _ _ q=>q.unwish) fun _ _ z=>False.elim z
end
section
variable {X:Cx} {st:Stmt} {rest:List Stmt} {t u:TS} {e:Expr} {te:TE} {pos:Pos}
def Fz:TS:=fun D U H=>D.nx U H
def FJ (t u:TS):TS:=fun D U H=>t {D with nx:=u D} U H
theorem JR:PSs X [] Fz:=fun _ _ U H _ I h=>wpAny_execs_nil ⟨U,H,I,h⟩
theorem FN (h1:PS X st t) (h2:PSs X rest u):PSs X (st :: rest) (FJ t u):=by
 intro pins s U H D I h
 refine wpAny_execs_cons (fM (h1 pins s U H {D with nx:=u D} I h) fun f s1 q=>?_)
 cases f with
 | next=>
  obtain ⟨U',H',I',q⟩:=q
  exact h2 pins s1 U' H' D I' q
 | ret v=>exact q
 | brk=>exact q
 | cont=>exact q
theorem JV (h1:PS X st t):PSs X [st] t:=by
 intro pins s U H D I h
 refine wpAny_execs_cons (fM (h1 pins s U H D I h) fun f s1 q=>?_)
 cases f with
 | next=>exact wpAny_execs_nil q
 | ret v=>exact q
 | brk=>exact q
 | cont=>exact q
theorem Inv.quiet {pins:List (Addr×Obj)} {U:St} {H:Hp} {s:Shared} (I:Inv X pins U H s):interactive X.env=false:=by simp [interactive,I.ok.kind]
def Aw (te:TE):TS:=fun D U H=>te U H fun _ H1=>D.nx U H1
theorem JX (he:PE X e te) (hs:autoParam (swapsWith e none pos.line X.env=pure false) L2.auto4._auto_1):PS X (.Expr e pos) (Aw te):=by
 intro pins s U H D I h
 exact wpAny_Expr_any (fM (he pins s U H _ I h) fun v s1 ⟨x,H1,I1,r1,q1⟩=>⟨U,H1,I1,q1⟩) I.quiet hs
def Qh (te:TE):TS:=fun D U H=>te U H D.rt
theorem Qi (he:PE X e te):PS X (.Return (some e) pos) (Qh te):=by
 intro pins s U H D I h
 exact wpAny_Return_some (fM (he pins s U H _ I h) fun v s1 ⟨x,H1,I1,r1,q1⟩=>⟨x,U,H1,I1,r1,q1⟩)
def Qj (c:TT) (t u:TS):TS:=fun D U H=>c U H fun b H1=>if b=true then t D U H1 else u D U H1
theorem UG {c:Expr} {a b:List Stmt} {tc:TT} (hc:PT X c tc) (ha:PSs X a t) (hb:PSs X b u):PS X (.If c a b pos) (Qj tc t u):=by
 intro pins s U H D I h
 refine wpAny_If (fM (hc pins s U H _ I h) fun d s1 qq0=>?_)
 obtain ⟨H1,I1,q1⟩:=qq0
 cases d with
 | true=>exact ha pins s1 U H1 D I1 q1
 | false=>exact hb pins s1 U H1 D I1 q1
def FP:TS:=fun _ _ _=>False
theorem FQ:PS X st FP:=fun _ _ _ _ _ _ h=>h.elim
end
abbrev TG:=V->St->Hp->(St->Hp->Prop)->Prop
abbrev yN:=List V->St->Hp->(St->Hp->Prop)->Prop
def PG (X:Cx) (target:Expr) (t:TG):Prop:=
 ∀ (pins:List (Addr×Obj)) (s:Shared) (U:St) (H:Hp) (v:V) (u:Value) (Q:St->Hp->Prop),Inv X pins U H s->RelV v u->t v U H Q->
  wpAny (model X.prog X.w) X.A (assign target X.env u) (fun _ s'=>∃ U' H',Inv X pins U' H' s'/\Q U' H') X.xe s
def Uq (X:Cx) (ts:List Expr) (t:yN):Prop:=
 ∀ (pins:List (Addr×Obj)) (s:Shared) (U:St) (H:Hp) (vs:List V) (us:List Value) (Q:St->Hp->Prop),Inv X pins U H s->Vals vs us->t vs U H Q->
  wpAny (model X.prog X.w) X.A (assignInOrder ((assignEach ts X.env).map (·.2)) us) (fun _ s'=>∃ U' H',Inv X pins U' H' s'/\Q U' H') X.xe s
abbrev yU:=V->V->V->Hp->(Hp->Prop)->Prop
def JZ (X:Cx) (t:yU):Prop:=
 ∀ (pins:List (Addr×Obj)) (s:Shared) (U:St) (H:Hp) (o i v:V) (ov iv u:Value) (Q:Hp->Prop),Inv X pins U H s->RelV o ov->RelV i iv->RelV v u->t o i v H Q->
  wpAny (model X.prog X.w) X.A (setItem ov iv u) (fun _ s'=>∃ H',Inv X pins U H' s'/\Q H') X.xe s
section
variable {X:Cx} {pos:Pos}
def oM (i:Nat):TG:=fun v U H Q=>Q (U.set i (some v)) H
theorem Ax {i:Nat} {x:Str} (hN:X.N.Nodup) (hi:X.N[i]?=some x) (hx:Loc X.env.scope x) (hf:autoParam (X.fn x=true\/X.env.scope.names.lookup x=some .local) L2.auto1._auto_1):PG X (.Name x pos) (oM i):=by
 intro pins s U H v u Q I r h
 exact wpAny_assign_Name (w6 I hN hi hx r (fun s' I'=>⟨_,H,I',h⟩) hf)
def Qk:yN:=fun vs U H Q=>vs=[]/\Q U H
def FT (t:TG) (u:yN):yN:=fun vs U H Q=>∃ v r,vs=v :: r/\t v U H fun U' H'=>u r U' H' Q
theorem J7:Uq X [] Qk:=by
 intro pins s U H vs us Q I r h
 obtain ⟨e,h⟩:=h
 subst e
 cases r
 exact assignInOrder_nil ⟨U,H,I,h⟩
theorem FW {e:Expr} {es:List Expr} {t:TG} {u:yN} (h1:PG X e t) (h2:Uq X es u)
  (hs:autoParam ((assignEach (e :: es) X.env).map (·.2)=assign e X.env :: (assignEach es X.env).map (·.2)) L2.auto4._auto_1):Uq X (e :: es) (FT t u):=by
 intro pins s U H vs us Q I r h
 obtain ⟨v,vr,e1,h⟩:=h
 subst e1
 cases r with
 | cons r rr=>
  rw [hs]
  refine assignInOrder_cons (fM (h1 pins s U H _ _ _ I r h) fun _ s1 qq0=>?_)
  obtain ⟨σ1,H1,I1,q1⟩:=qq0
  exact h2 pins s1 σ1 H1 _ _ Q I1 rr q1
def J8 (K:W.Frag) (n:Nat) (t:yN):TG:=fun v U H Q=>∃ a xs,v= .ref a/\SqT K H a xs/\xs.length=n/\t xs U H Q
theorem FZ {es:List Expr} {k:Nat} {t:yN} {n:Nat} (hc:X.calm=true) (h:Uq X es t)
  (hn:autoParam ((assignEach es X.env).length=n) L2.auto4._auto_1) (hst:autoParam ((assignEach es X.env).findIdx? (·.1)=none) L2.auto4._auto_1):PG X (.Tuple es k pos) (J8 X.K n t):=by
 intro pins s U H v u Q I r hw
 obtain ⟨a,xs,e1,hq,hl,hw⟩:=hw
 subst e1
 cases r
 obtain ⟨its,rv,ht,hz⟩:=I.tuple hq
 refine assign_Tuple_tuple (I.ok.hd hc) ht (by simp [hn,← hl,rv.length]) hst fun h' hx=>?_
 have I1:Inv X pins U H {s with heap:=h'}:=I.kept (t':=s.toks) fun b o e=>hx b o (Nat.ne_of_lt (Heap.lt_size e)) e
 exact h pins _ U H xs _ Q I1 (by simpa using rv) hw
def Ql (to ti:TE) (t:yU):TG:=fun v U H Q=>to U H fun o H1=>ti U H1 fun i H2=>t o i v H2 fun H3=>Q U H3
theorem Qm {o i:Expr} {to ti:TE} {t:yU} (ho:PE X o to) (hi:PE X i ti) (hs:JZ X t)
  (ha:∀ v,assign (.Subscript o i pos) X.env v=(do
   let ov ← holding [v] (eval o X.env)
   let iv ← holding [v,ov] (eval i X.env)
   standAt pos
   holding [v,ov,iv] (setItem ov iv v)
   release [v,ov,iv] []):=by intro _;rfl):PG X (.Subscript o i pos) (Ql to ti t):=by
 intro pins s U H v u Q I r h
 rw [ha]
 refine wpAny_bind (wpAny_holding (fM (ho pins s U H _ I h) fun ov s1 qq0=>?_))
 obtain ⟨x,H1,I1,r1,q1⟩:=qq0
 refine wpAny_bind (wpAny_holding (fM (hi pins s1 U H1 _ I1 q1) fun iv s2 qq0=>?_))
 obtain ⟨y,H2,I2,r2,q2⟩:=qq0
 refine wpAny_bind (wpAny_standAt (wpAny_bind (wpAny_holding (fM (hs pins s2 U H2 x y v ov iv u _ I2 r1 r2 r q2) fun _ s3 qq0=>?_))))
 obtain ⟨H3,I3,q3⟩:=qq0
 exact wpAny_release ⟨U,H3,I3,q3⟩
def vV (te:TE) (g:TG):TS:=fun D U H=>te U H fun x H1=>g x U H1 D.nx
theorem Ga {tg e:Expr} {te:TE} {g:TG} (he:PE X e te) (hg:PG X tg g) (hs:autoParam (swapsWithSole [tg] e pos.line X.env=pure false) L2.auto4._auto_1) (hw:autoParam (swappedStores [tg] e X.env=pure none) L2.auto4._auto_1)
  (h1:autoParam ((assignEach [tg] X.env).map (·.2)=[assign tg X.env]) L2.auto4._auto_1):PS X (.Assign [tg] e pos) (vV te g):=by
 intro pins s U H D I h
 refine wpAny_Assign_stores (fM (he pins s U H _ I h) fun v s1 qq0=>?_) hs hw
 obtain ⟨x,H1,I1,r1,q1⟩:=qq0
 rw [h1]
 exact fM (hg pins s1 U H1 x v _ I1 r1 q1) fun _ s2 q=>q
theorem Gb {i:Nat} {x:Str} {e:Expr} {te:TE} {pos':Pos} (hN:X.N.Nodup) (hi:X.N[i]?=some x) (hx:Loc X.env.scope x) (he:PE X e te) (hs:autoParam (swapsWith e (some (.Name x pos')) pos.line X.env=pure false) L2.auto4._auto_1) (hf:autoParam (X.fn x=true\/X.env.scope.names.lookup x=some .local) L2.auto1._auto_1):
  PS X (.Assign [.Name x pos'] e pos) (vV te (oM i)):=by
 intro pins s U H D I h
 refine wpAny_Assign_Name (fM (he pins s U H _ I h) fun v s1 qq0=>?_) hs
 obtain ⟨y,H1,I1,r1,q1⟩:=qq0
 exact w6 I1 hN hi hx r1 (fun s2 I2=>⟨_,H1,I2,q1⟩) hf
end
structure It where
 go:Nat->Hp->Prop
 yld:Nat->Hp->V->Hp->Prop
 stop:Nat->Hp->Prop
def lA (X:Cx) (pins:List (Addr×Obj)) (H:Hp) (b:Addr):Prop:=
 H b=none/\b≠X.env.locals/\b ∉ X.fs/\(b∈X.ex\/X.s₀.heap.objs.size<=b)/\(∀ x c,X.env.cells.lookup x=some c->c≠b)/\∀ p∈X.pn ++ pins,p.1≠b
theorem Inv.fpOk {X:Cx} {pins:List (Addr×Obj)} {U:St} {H H':Hp} {s:Shared} {b:Addr} (I:Inv X pins U H s) (hb:s.heap.objs.size<=b) (hn:H' b=none):lA X pins H' b:=by
 refine ⟨hn,Nat.ne_of_gt (Nat.lt_of_lt_of_le I.lt hb),I.nofs hb,.inr (Nat.le_trans I.sz hb),fun x c e z=>?_,fun p hp z=>?_⟩
 ·obtain ⟨v,q⟩:=I.cell x c e
  exact absurd (Nat.lt_of_lt_of_le q.lt (by rw [z];exact hb)) (Nat.lt_irrefl _)
 ·exact absurd (Nat.lt_of_lt_of_le (Heap.lt_size (I.pin p hp).1) (by rw [z];exact hb)) (Nat.lt_irrefl _)
structure Turn (P:Program) (w:World) (K:W.Frag) (tg:Expr) (J:It) (fp:List Addr) (it:Addr) (tn:Nat->Heap->Prop):Prop where
 mem:it∈fp
 obj:∀ i h,tn i h->∀ b∈fp,∃ o,h.get? b=some o/\∀ v,o.data≠.cell v
 keep:∀ i h h',tn i h->(∀ b∈fp,∀ o,h.get? b=some o->h'.get? b=some o)->tn i h'
 item:∀ (X:Cx),X.prog=P->X.w=w->X.K=K->X.calm=true->∀ (i:Nat) (pins:List (Addr×Obj)) (s:Shared) (U:St) (H:Hp) (E:Value->Shared->Prop),Inv X pins U H s->(∀ b∈fp,lA X pins H b)->tn i s.heap->J.go i H->
  wpAny (model P w) X.A (pyNext (.ref it)) (fun r s1=>∃ u,r=some u/\
   wpAny (model P w) X.A (letOwnedTupleGo tg (.ref it) u) (fun _ s2=>∃ x H',Inv X pins U H' s2/\RelV x u/\J.yld i H x H'/\tn (i+1) s2.heap/\∀ b∈fp,H' b=none) E s1) E s
 done:∀ (X:Cx),X.prog=P->X.w=w->X.K=K->X.calm=true->∀ (i:Nat) (pins:List (Addr×Obj)) (s:Shared) (U:St) (H:Hp) (E:Value->Shared->Prop),Inv X pins U H s->(∀ b∈fp,lA X pins H b)->tn i s.heap->J.stop i H->
  wpAny (model P w) X.A (pyNext (.ref it)) (fun r s1=>r=none/\Inv X pins U H s1) E s
 self:∀ (A:Around) (i:Nat) (s:Shared) (Q:Value->Shared->Prop) (E:Value->Shared->Prop),tn i s.heap->Q (.ref it) s->wpAny (model P w) A (pyIter (.ref it)) Q E s
abbrev TI:=St->Hp->(It->Hp->Prop)->Prop
def PIE (X:Cx) (pins:List (Addr×Obj)) (U:St) (tg:Expr) (R:It->Hp->Prop) (itv:Value) (s2:Shared):Prop:=
 ∃ (it:Addr) (fp:List Addr) (tn:Nat->Heap->Prop) (J:It) (H':Hp),itv= .ref it/\Inv X pins U H' s2/\Turn X.prog X.w X.K tg J fp it tn/\tn 0 s2.heap/\(∀ b∈fp,lA X pins H' b)/\R J H'
def PI (X:Cx) (tg iter:Expr) (wi:TI):Prop:=
 ∀ (pins:List (Addr×Obj)) (s:Shared) (U:St) (H:Hp) (R:It->Hp->Prop),Inv X pins U H s->wi U H R->
  wpAny (model X.prog X.w) X.A (eval iter X.env) (fun v s1=>wpAny (model X.prog X.w) X.A (pyIter v) (PIE X pins U tg R) X.xe s1) X.xe s
theorem u5 {M:Model} {A:Around} {E:Value->Shared->Prop} {s:Shared} {tg:Expr} {it:Addr} {u:Value} {o:Obj} {n:String} {vs:Array Value} {Q:Unit->Shared->Prop} (ho:s.heap.get? it=some o) (hc:o.cls= .type n) (hd:o.data= .fields vs)
  (hn:["enumerate","zip","dict_itemiterator","dict_reverseitemiterator","odict_iterator","itertools.zip_longest","itertools.pairwise"].contains n=false) (hQ:Q () s):wpAny M A (letOwnedTupleGo tg (.ref it) u) Q E s:=by
 unfold letOwnedTupleGo
 cases tg <;> first
  | exact wpAny_pure hQ
  | (cases u <;> first
    | exact wpAny_pure hQ
    | (refine wpAny_bind (wpAny_load ho ?_)
       rw [hc,hd]
       show wpAny M A (if (["enumerate","zip","dict_itemiterator","dict_reverseitemiterator","odict_iterator","itertools.zip_longest","itertools.pairwise"].contains n && vs[0]? == some (rawInt _))=true then _ else _) Q E s
       rw [if_neg (by intro h;rw [hn,Bool.false_and] at h;cases h)]
       exact wpAny_pure hQ))
def Ot (K:W.Frag) (a:Addr):It:=
 ⟨fun i H=>∃ xs x,SqL K H a xs/\xs[i]?=some x,fun i H x H'=>H'=H/\∀ xs,SqL K H a xs->xs[i]?=some x,fun i H=>∃ xs,SqL K H a xs/\xs.length<=i⟩
def Ou (K:W.Frag) (a:Addr):It:=
 ⟨fun i H=>∃ xs x,SqT K H a xs/\xs[i]?=some x,fun i H x H'=>H'=H/\∀ xs,SqT K H a xs->xs[i]?=some x,fun i H=>∃ xs,SqT K H a xs/\xs.length<=i⟩
def Fo (lo:Int) (n:Nat):It:=⟨fun i _=>i < n,fun i H x H'=>H'=H/\x= .int (lo+i),fun i _=>n<=i⟩
theorem CG {P:Program} {w:World} {K:W.Frag} {tg:Expr} (a it:Addr):Turn P w K tg (Ot K a) [it] it (fun i h=>h.IsListIter it a i) where
 mem:=by simp
 obj:=fun i h st b hb=>by
  have e:b=it:=by simpa using hb
  subst e
  obtain ⟨o,e,c,d⟩:=st
  exact ⟨o,e,fun v z=>by rw [d] at z;cases z⟩
 keep:=fun i h h' st k=>st.at fun o e=>k it (by simp) o e
 item:=by
  intro X hP hw hK hc i pins s U H E I hf st hg
  subst hP hw hK
  obtain ⟨xs,x,hq,hx⟩:=hg
  obtain ⟨its,rv,p,hz⟩:=I.list hq
  obtain ⟨u,hu,ru⟩:=rv.get hx
  obtain ⟨f0,f1,f2,f3,f4,f5⟩:=hf it (by simp)
  refine wpAny_pyNext_list_item st p.isList (x:=u) (by simpa using hu) fun h' st' sb=>?_
  have I1:Inv X pins U H {s with heap:=h'}:=I.turned (t':=s.toks) (fun b o hb e=>(sb.2 b hb).trans e) f0 f1 f3 f4 f5
  obtain ⟨o,e,c,d⟩:=id st'
  exact ⟨u,rfl,u5 (s:={s with heap:=h'}) e c d (by decide) ⟨x,H,I1,ru,⟨rfl,fun ys hy=>by rw [I.list_inj hy hq];exact hx⟩,st',fun b hb=>(hf b hb).1⟩⟩
 done:=by
  intro X hP hw hK hc i pins s U H E I hf st hg
  subst hP hw hK
  obtain ⟨xs,hq,hx⟩:=hg
  obtain ⟨its,rv,p,hz⟩:=I.list hq
  obtain ⟨f0,f1,f2,f3,f4,f5⟩:=hf it (by simp)
  have hl:=rv.length
  exact wpAny_pyNext_list_end (I.ok.hd hc) st p.isList (by simp;omega) fun h' eb=>⟨rfl,I.turned (t':=s.toks) (fun b o hb e=>eb b o hb e) f0 f1 f3 f4 f5⟩
 self:=fun _ _ _ _ _ st h=>wpAny_pyIter_listiter st h
theorem yV {P:Program} {w:World} {K:W.Frag} {tg:Expr} (a it:Addr):Turn P w K tg (Ou K a) [it] it (fun i h=>h.IsTupleIter it a i) where
 mem:=by simp
 obj:=fun i h st b hb=>by
  have e:b=it:=by simpa using hb
  subst e
  obtain ⟨o,e,c,d⟩:=st
  exact ⟨o,e,fun v z=>by rw [d] at z;cases z⟩
 keep:=fun i h h' st k=>st.at fun o e=>k it (by simp) o e
 item:=by
  intro X hP hw hK hc i pins s U H E I hf st hg
  subst hP hw hK
  obtain ⟨xs,x,hq,hx⟩:=hg
  obtain ⟨its,rv,p,hz⟩:=I.tuple hq
  obtain ⟨u,hu,ru⟩:=rv.get hx
  obtain ⟨f0,f1,f2,f3,f4,f5⟩:=hf it (by simp)
  refine wpAny_pyNext_tuple_item st (show s.heap.IsTuple a its.toArray from p) (x:=u) (by simpa using hu) fun h' st' sb=>?_
  have I1:Inv X pins U H {s with heap:=h'}:=I.turned (t':=s.toks) (fun b o hb e=>(sb.2 b hb).trans e) f0 f1 f3 f4 f5
  obtain ⟨o,e,c,d⟩:=id st'
  exact ⟨u,rfl,u5 (s:={s with heap:=h'}) e c d (by decide) ⟨x,H,I1,ru,⟨rfl,fun ys hy=>by rw [I.tuple_inj hy hq];exact hx⟩,st',fun b hb=>(hf b hb).1⟩⟩
 done:=by
  intro X hP hw hK hc i pins s U H E I hf st hg
  subst hP hw hK
  obtain ⟨xs,hq,hx⟩:=hg
  obtain ⟨its,rv,p,hz⟩:=I.tuple hq
  obtain ⟨f0,f1,f2,f3,f4,f5⟩:=hf it (by simp)
  have hl:=rv.length
  exact wpAny_pyNext_tuple_end (I.ok.hd hc) st (show s.heap.IsTuple a its.toArray from p) (by simp;omega) fun h' eb=>⟨rfl,I.turned (t':=s.toks) (fun b o hb e=>eb b o hb e) f0 f1 f3 f4 f5⟩
 self:=fun _ _ _ _ _ st h=>wpAny_pyIter_tupleiter st h
theorem yW {P:Program} {w:World} {K:W.Frag} {tg:Expr} (it:Addr) (lo:Int) (n:Nat):Turn P w K tg (Fo lo n) [it] it (fun i h=>IsRangeIter h it (lo+(i:Nat)*1) ((n:Int) - (i:Nat)) 1) where
 mem:=by simp
 obj:=fun i h st b hb=>by
  have e:b=it:=by simpa using hb
  subst e
  exact ⟨_,st,fun v z=>by
   have z':Data.fields _=Data.cell v:=z
   cases z'⟩
 keep:=fun i h h' st k=>k it (by simp) _ st
 item:=by
  intro X hP hw hK hc i pins s U H E I hf st hg
  subst hP hw hK
  obtain ⟨f0,f1,f2,f3,f4,f5⟩:=hf it (by simp)
  have W:=Walks.range (prog:=X.prog) (w:=X.w) (I.ok.hd hc) it lo 1 n
  refine W.item i s _ _ hg st fun v h' tk hv st' kk=>?_
  obtain ⟨t,rfl⟩:=hv
  have I1:Inv X pins U H {s with heap:=h',toks:=tk}:=I.turned (fun b o hb e=>kk b o (by simpa using hb) e) f0 f1 f3 f4 f5
  refine ⟨_,rfl,u5 (s:={s with heap:=h',toks:=tk}) (n:="range_iterator") st' rfl rfl (by decide) ⟨.int (lo+i),H,I1,⟨t,?_⟩,⟨rfl,rfl⟩,st',fun b hb=>(hf b hb).1⟩⟩
  rw [Int.mul_one]
 done:=by
  intro X hP hw hK hc i pins s U H E I hf st hg
  subst hP hw hK
  obtain ⟨f0,f1,f2,f3,f4,f5⟩:=hf it (by simp)
  exact wpAny_pyNext_range_end (I.ok.hd hc) st (by have:n<=i:=hg;omega) fun h' eb=>⟨rfl,I.turned (t':=s.toks) (fun b o hb e=>eb b o hb e) f0 f1 f3 f4 f5⟩
 self:=fun _ _ _ _ _ st h=>wpAny_pyIter_rangeiter st h
section
variable {X:Cx} {tg:Expr}
theorem xf {pins:List (Addr×Obj)} {U:St} {H:Hp} {s:Shared} {R:It->Hp->Prop} {E:Value->Shared->Prop} {lo hi:Int} {t u v:Tok} {tk:Nat} (I:Inv X pins U H s) (h1: -(2 ^ 62)<=lo) (h2:lo < 2 ^ 62) (h3: -(2 ^ 62)<=hi) (h4:hi < 2 ^ 62)
  (q:R (Fo lo (hi - lo).toNat) H):wpAny (model X.prog X.w) X.A (pyIter (.ref s.heap.objs.size)) (PIE X pins U tg R) E {s with heap:=s.heap.push {cls:=.type "range",data:=.fields #[.int lo t,.int hi u,.int 1 v]},toks:=tk}:=by
 refine wpAny_pyIter_range (IsRange.new ..) (small_one h1 h2 h3 h4) ?_
 have I1:Inv X pins U H {s with heap:=s.heap.push {cls:=.type "range",data:=.fields #[.int lo t,.int hi u,.int 1 v]},toks:=tk}:=I.kept fun b o e=>Heap.get?_push_of_some _ e
 refine ⟨(s.heap.push {cls:=.type "range",data:=.fields #[.int lo t,.int hi u,.int 1 v]}).objs.size,[(s.heap.push {cls:=.type "range",data:=.fields #[.int lo t,.int hi u,.int 1 v]}).objs.size],_,_,H,rfl,
  I1.kept (t':=tk) fun b o e=>Heap.get?_push_of_some _ e,yW _ lo (hi - lo).toNat,?_,fun b hb=>?_,q⟩
 ·have e1:lo+((0:Nat):Int)*1=lo:=by simp
  have e2:(((hi - lo).toNat:Nat):Int) - ((0:Nat):Int)=Builtin.Range.rangeSize lo hi 1:=by rw [rangeSize_one];split <;> omega
  show IsRangeIter _ _ (lo+((0:Nat):Int)*1) ((((hi - lo).toNat:Nat):Int) - ((0:Nat):Int)) 1
  rw [e1,e2]
  exact Heap.get?_push_size _ rfl
 ·have e:b=(s.heap.push {cls:=.type "range",data:=.fields #[.int lo t,.int hi u,.int 1 v]}).objs.size:=by simpa using hb
  subst e
  exact I1.fpOk (Nat.le_refl _) (I1.hok.fresh (Nat.le_refl _))
def Gd (ta:TA):TI:=fun U H R=>ta U H fun vs H1=>∃ j:Int,vs=[.int j]/\-(2 ^ 62)<=j/\j < 2 ^ 62/\R (Fo 0 j.toNat) H1
def Ge (ta:TA):TI:=fun U H R=>ta U H fun vs H1=>∃ i j:Int,vs=[.int i,.int j]/\(-(2 ^ 62)<=i/\i < 2 ^ 62/\-(2 ^ 62)<=j/\j < 2 ^ 62)/\R (Fo i (j - i).toNat) H1
theorem CJ {a:Expr} {ta:TA} {p pos:Pos} (hg:Gl X "range") (hm:X.mg "range"=none) (ha:PA X [a] ta) (hs:autoParam (starEach [a] X.env=[(false,eval a X.env)]) L2.auto4._auto_1):PI X tg (.Call (.Name "range" p) [a] [] pos) (Gd ta):=by
 intro pins s U H R I h
 refine Call_ (ik I hg hm boot_range (PyProof.Rows.callWith_type1 (fM (ha pos pins s U H _ I h) fun us s1 ⟨vs,H1,I1,r1,q1⟩=>?_) hs rfl))
 obtain ⟨j,e,q1,q2,q⟩:=q1
 subst e
 cases r1 with
 | cons r rr=>
  cases rr
  obtain ⟨t,rfl⟩:=r
  exact call_range_1 (xf I1 (by omega) (by omega) q1 q2 (by simpa using q))
theorem CK {a b:Expr} {ta:TA} {p pos:Pos} (hg:Gl X "range") (hm:X.mg "range"=none) (ha:PA X [a,b] ta) (hs:autoParam (starEach [a,b] X.env=[(false,eval a X.env),(false,eval b X.env)]) L2.auto4._auto_1) (hs2:autoParam (starEach [b] X.env=[(false,eval b X.env)]) L2.auto4._auto_1):
  PI X tg (.Call (.Name "range" p) [a,b] [] pos) (Ge ta):=by
 intro pins s U H R I h
 refine Call_ (ik I hg hm boot_range (PyProof.Rows.callWith_type1 (fM (ha pos pins s U H _ I h) fun us s1 qq0=>?_) (by rw [hs,hs2]) (by rw [hs2];rfl)))
 obtain ⟨vs,H1,I1,r1,q1⟩:=qq0
 obtain ⟨i,j,e,⟨q1,q2,q3,q4⟩,q⟩:=q1
 subst e
 cases r1 with
 | cons r rr=>
  cases rr with
  | cons r' rr=>
   cases rr
   obtain ⟨t,rfl⟩:=r
   obtain ⟨t',rfl⟩:=r'
   exact call_range_2 (xf I1 q1 q2 q3 q4 q)
def J9 (wi:TI) (g:TG) (tb:TS):TS:=fun D U H=>wi U H fun J H1=>∃ W:Nat->Nat->St->Hp->Prop,(∃ m,W 0 m U H1)/\∀ i m U H,W i m U H->
 (J.stop i H/\D.nx U H)\/(J.go i H/\∃ N:St->Hp->Prop,(∀ U' H',N U' H'->∃ m',m' < m/\W (i+1) m' U' H')/\∀ x H',J.yld i H x H'->g x U H' fun σ2 H2=>tb {D with nx:=N,ct:=N,bk:=D.nx} σ2 H2)
def qJ (fp:List Addr) (h:Heap):List (Addr×Obj):=fp.filterMap fun b=>(h.get? b).map fun o=>(b,o)
theorem lG {fp:List Addr} {h:Heap} {b:Addr} {o:Obj} (hb:b∈fp) (e:h.get? b=some o):(b,o)∈qJ fp h:=List.mem_filterMap.mpr ⟨b,hb,by rw [e];rfl⟩
theorem CN {fp:List Addr} {h:Heap} {p:Addr×Obj} (hp:p∈qJ fp h):p.1∈fp/\h.get? p.1=some p.2:=by
 obtain ⟨b,hb,e⟩:=List.mem_filterMap.mp hp
 cases q:h.get? b with
 | none=>rw [q] at e;cases e
 | some o=>
  rw [q] at e
  have e':(b,o)=p:=Option.some.inj e
  subst e'
  exact ⟨hb,q⟩
theorem Inv.pinned {pins:List (Addr×Obj)} {U:St} {H:Hp} {s:Shared} {fp:List Addr} (I:Inv X pins U H s) (hf:∀ b∈fp,lA X pins H b) (ho:∀ b∈fp,∃ o,s.heap.get? b=some o/\∀ v,o.data≠.cell v):Inv X (pins ++ qJ fp s.heap) U H s:=
 I.pins_of fun p hp=>(List.mem_append.mp hp).elim (fun z=>I.pin p (List.mem_append_right _ z)) fun z=>by
  obtain ⟨hb,e⟩:=CN z
  obtain ⟨f0,f1,f2,_⟩:=hf p.1 hb
  obtain ⟨o,e',d⟩:=ho p.1 hb
  rw [e] at e';cases e'
  exact ⟨e,f0,f1,f2,d⟩
theorem Inv.unpinned {pins pl:List (Addr×Obj)} {U:St} {H:Hp} {s:Shared} (I:Inv X (pins ++ pl) U H s):Inv X pins U H s:=I.pins_of fun p hp=>I.pin p (List.mem_append_right _ (List.mem_append_left _ hp))
theorem Qn {iter:Expr} {body:List Stmt} {wi:TI} {g:TG} {tb:TS} {pos:Pos} (hp:PassesOwn (model X.prog X.w) X.A X.env X.xe) (hc:X.calm=true) (hi:PI X tg iter wi) (hg:PG X tg g) (hb:PSs X body tb)
  (hs:autoParam (∀ x,foldedSetIterable iter X.env x=pure x) L2.auto3._auto_1):PS X (.For tg iter body [] pos) (J9 wi g tb):=by
 intro pins s U H D I h
 refine wpAny_For (fM (hi pins s U H _ I h) fun v s1 h1=>fM h1 fun itv s2 h2=>?_) hs
 obtain ⟨it,fp,tn,J,H2,e,I2,T,st2,f2,W,⟨m0,w0⟩,turn⟩:=h2
 subst e
 have stat:∀ {H':Hp},(∀ b∈fp,H' b=none)->∀ b∈fp,lA X pins H' b:=fun hn b hb=>⟨hn b hb,(f2 b hb).2⟩
 refine codeAny_forLoop_any (fun n s'=>∃ i U' H',Inv X pins U' H' s'/\tn i s'.heap/\(∀ b∈fp,H' b=none)/\W i n U' H') ?_ m0 ⟨0,U,H2,I2,st2,fun b hb=>(f2 b hb).1,w0⟩
 rintro n s3 ⟨i,σ3,H3,I3,st3,fr3,w3⟩
 rcases turn i n σ3 H3 w3 with ⟨stop,qn⟩ | ⟨go,N,hN,step⟩
 ·refine wpAny_passesOwn hp (fM (T.done X rfl rfl rfl hc i pins s3 σ3 H3 X.xe I3 (stat fr3) st3 stop) fun r s4 qq0=>?_)
  obtain ⟨hr,I4⟩:=qq0
  subst hr
  exact wpAny_execs_nil ⟨σ3,H3,I4,qn⟩
 ·refine wpAny_passesOwn hp (fM (T.item X rfl rfl rfl hc i pins s3 σ3 H3 X.xe I3 (stat fr3) st3 go) fun r s4 qq0=>?_)
  obtain ⟨u,hr,h4⟩:=qq0
  subst hr
  refine wpAny_passesOwn hp (fM h4 fun _ s5 qq0=>?_)
  obtain ⟨x,H5,I5,r5,y5,st5,fr5⟩:=qq0
  have I5':=I5.pinned (stat fr5) (T.obj _ _ st5)
  refine wpAny_passesOwn hp (fM (hg _ s5 σ3 H5 x u _ I5' r5 (step x H5 y5)) fun _ s6 qq0=>?_)
  obtain ⟨σ6,H6,I6,q6⟩:=qq0
  refine wpAny_passesOwn hp (fM (hb _ s6 σ6 H6 _ I6 q6) fun f s7 q7=>?_)
  have again:∀ {σ7:St} {H7:Hp},Inv X (pins ++ qJ fp s5.heap) σ7 H7 s7->N σ7 H7->∃ m,m < n/\∃ i U' H',Inv X pins U' H' s7/\tn i s7.heap/\(∀ b∈fp,H' b=none)/\W i m U' H':=fun {σ7 H7} I7 n7=>by
   obtain ⟨m',hm,w7⟩:=hN σ7 H7 n7
   refine ⟨m',hm,i+1,σ7,H7,I7.unpinned,T.keep _ _ _ st5 fun b hb o e=>(I7.pin (b,o) (List.mem_append_right _ (List.mem_append_right _ (lG hb e)))).1,fun b hb=>?_,w7⟩
   obtain ⟨o,e,d⟩:=T.obj _ _ st5 b hb
   exact (I7.pin (b,o) (List.mem_append_right _ (List.mem_append_right _ (lG hb e)))).2.1
  cases f with
  | next=>obtain ⟨σ7,H7,I7,n7⟩:=q7;exact again I7 n7
  | cont=>obtain ⟨σ7,H7,I7,n7⟩:=q7;exact again I7 n7
  | brk=>obtain ⟨σ7,H7,I7,q7⟩:=q7;exact ⟨σ7,H7,I7.unpinned,q7⟩
  | ret v=>obtain ⟨x7,σ7,H7,I7,r7,q7⟩:=q7;exact ⟨x7,σ7,H7,I7.unpinned,r7,q7⟩
end
theorem tG {K:W.Frag} {a:Addr} {xs:List V} {g:TG} {tb:TS} {D:Ends} {U:St} {H:Hp} (Pv:Nat->St->Hp->Prop) (h0:Pv 0 U H) (hl:∀ i U H,i<=xs.length->Pv i U H->SqL K H a xs)
  (hs:∀ i x U H,xs[i]?=some x->Pv i U H->g x U H fun σ2 H2=>tb {D with nx:=Pv (i+1),ct:=Pv (i+1),bk:=D.nx} σ2 H2) (hd:∀ U H,Pv xs.length U H->D.nx U H):
  ∃ W:Nat->Nat->St->Hp->Prop,(∃ m,W 0 m U H)/\∀ i m U H,W i m U H->
   ((Ot K a).stop i H/\D.nx U H)\/((Ot K a).go i H/\∃ N:St->Hp->Prop,(∀ U' H',N U' H'->∃ m',m' < m/\W (i+1) m' U' H')/\∀ x H',(Ot K a).yld i H x H'->g x U H' fun σ2 H2=>tb {D with nx:=N,ct:=N,bk:=D.nx} σ2 H2):=by
 refine ⟨fun i m U H=>m=xs.length - i/\i<=xs.length/\Pv i U H,⟨xs.length,by simp,Nat.zero_le _,h0⟩,?_⟩
 rintro i m U H ⟨rfl,hi,p⟩
 have q:=hl i U H hi p
 by_cases hlt:i < xs.length
 ·refine .inr ⟨⟨xs,xs[i],q,by simp [hlt]⟩,Pv (i+1),fun U' H' p'=>⟨xs.length - (i+1),by omega,rfl,hlt,p'⟩,fun x H' y=>?_⟩
  obtain ⟨e,y⟩:=y
  subst e
  exact hs i x U _ (y xs q) p
 ·have e:i=xs.length:=by omega
  subst e
  exact .inl ⟨⟨xs,q,Nat.le_refl _⟩,hd U H p⟩
theorem Ka {K:W.Frag} {a:Addr} {xs:List V} {g:TG} {tb:TS} {D:Ends} {U:St} {H:Hp} (Pv:Nat->St->Hp->Prop) (h0:Pv 0 U H) (hl:∀ i U H,i<=xs.length->Pv i U H->SqT K H a xs)
  (hs:∀ i x U H,xs[i]?=some x->Pv i U H->g x U H fun σ2 H2=>tb {D with nx:=Pv (i+1),ct:=Pv (i+1),bk:=D.nx} σ2 H2) (hd:∀ U H,Pv xs.length U H->D.nx U H):
  ∃ W:Nat->Nat->St->Hp->Prop,(∃ m,W 0 m U H)/\∀ i m U H,W i m U H->
   ((Ou K a).stop i H/\D.nx U H)\/((Ou K a).go i H/\∃ N:St->Hp->Prop,(∀ U' H',N U' H'->∃ m',m' < m/\W (i+1) m' U' H')/\∀ x H',(Ou K a).yld i H x H'->g x U H' fun σ2 H2=>tb {D with nx:=N,ct:=N,bk:=D.nx} σ2 H2):=by
 refine ⟨fun i m U H=>m=xs.length - i/\i<=xs.length/\Pv i U H,⟨xs.length,by simp,Nat.zero_le _,h0⟩,?_⟩
 rintro i m U H ⟨rfl,hi,p⟩
 have q:=hl i U H hi p
 by_cases hlt:i < xs.length
 ·refine .inr ⟨⟨xs,xs[i],q,by simp [hlt]⟩,Pv (i+1),fun U' H' p'=>⟨xs.length - (i+1),by omega,rfl,hlt,p'⟩,fun x H' y=>?_⟩
  obtain ⟨e,y⟩:=y
  subst e
  exact hs i x U _ (y xs q) p
 ·have e:i=xs.length:=by omega
  subst e
  exact .inl ⟨⟨xs,q,Nat.le_refl _⟩,hd U H p⟩
theorem lB {lo:Int} {n:Nat} {g:TG} {tb:TS} {D:Ends} {U:St} {H:Hp} (Pv:Nat->St->Hp->Prop) (h0:Pv 0 U H)
  (hs:∀ i U H,i < n->Pv i U H->g (.int (lo+i)) U H fun σ2 H2=>tb {D with nx:=Pv (i+1),ct:=Pv (i+1),bk:=D.nx} σ2 H2) (hd:∀ U H,Pv n U H->D.nx U H):
  ∃ W:Nat->Nat->St->Hp->Prop,(∃ m,W 0 m U H)/\∀ i m U H,W i m U H->
   ((Fo lo n).stop i H/\D.nx U H)\/((Fo lo n).go i H/\∃ N:St->Hp->Prop,(∀ U' H',N U' H'->∃ m',m' < m/\W (i+1) m' U' H')/\∀ x H',(Fo lo n).yld i H x H'->g x U H' fun σ2 H2=>tb {D with nx:=N,ct:=N,bk:=D.nx} σ2 H2):=by
 refine ⟨fun i m U H=>m=n - i/\i<=n/\Pv i U H,⟨n,by simp,Nat.zero_le _,h0⟩,?_⟩
 rintro i m U H ⟨rfl,hi,p⟩
 by_cases hlt:i < n
 ·refine .inr ⟨hlt,Pv (i+1),fun U' H' p'=>⟨n - (i+1),by omega,rfl,hlt,p'⟩,fun x H' y=>?_⟩
  obtain ⟨e,y⟩:=y
  subst e y
  exact hs i U _ hlt p
 ·have e:i=n:=by omega
  subst e
  exact .inl ⟨Nat.le_refl _,hd U H p⟩
abbrev R2:=V->V->Hp->VK->Prop
def OpR (X:Cx) (f:Value->Value->Sem Value) (r:R2):Prop:=
 ∀ (pins:List (Addr×Obj)) (s:Shared) (U:St) (H:Hp) (x y:V) (v u:Value) (Q:VK),Inv X pins U H s->RelV x v->RelV y u->r x y H Q->
  wpAny (model X.prog X.w) X.A (f v u) (EP X pins U Q) X.xe s
def Yz (X:Cx) (f:Value->Sem Value) (r:V->Hp->VK->Prop):Prop:=
 ∀ (pins:List (Addr×Obj)) (s:Shared) (U:St) (H:Hp) (x:V) (v:Value) (Q:VK),Inv X pins U H s->RelV x v->r x H Q->
  wpAny (model X.prog X.w) X.A (f v) (EP X pins U Q) X.xe s
def CallR (X:Cx) (f:Value) (r:List V->Hp->VK->Prop):Prop:=
 ∀ (pins:List (Addr×Obj)) (s:Shared) (U:St) (H:Hp) (xs:List V) (us:List Value) (Q:VK),Inv X pins U H s->Vals xs us->r xs H Q->
  wpAny (model X.prog X.w) X.A (call f us) (EP X pins U Q) X.xe s
def JL (r:R2) (ta tb:TE):TE:=fun U H Q=>ta U H fun x H1=>tb U H1 fun y H2=>r x y H2 Q
def tUn (r:V->Hp->VK->Prop) (ta:TE):TE:=fun U H Q=>ta U H fun x H1=>r x H1 Q
def rI (C:Int->Int->Prop) (g:Int->Int->V):R2:=fun x y H Q=>∃ i j,x= .int i/\y= .int j/\C i j/\Q (g i j) H
def Kc (g:Int->Int->V):R2:=fun x y H Q=>∃ i j,x= .int i/\y= .int j/\Q (g i j) H
def rU (g:Int->V):V->Hp->VK->Prop:=fun x H Q=>∃ i,x= .int i/\Q (g i) H
section
variable {X:Cx} {a b c:Expr} {ta tb tc:TE} {pos:Pos}
theorem Qo (ha:PE X a ta) (hb:PE X b tb) {pins:List (Addr×Obj)} {s:Shared} {U:St} {H:Hp} {R:V->V->Hp->Prop} (I:Inv X pins U H s)
  (h:ta U H fun x H1=>tb U H1 fun y H2=>R x y H2) {Q:Value->Shared->Prop} {f:Value->Value->Sem Value}
  (hf:∀ v u s2 x y H2,Inv X pins U H2 s2->RelV x v->RelV y u->R x y H2->wpAny (model X.prog X.w) X.A (f v u) Q X.xe s2):
  wpAny (model X.prog X.w) X.A (eval a X.env) (fun v s₁=>wpAny (model X.prog X.w) X.A (eval b X.env) (fun u s₂=>wpAny (model X.prog X.w) X.A (f v u) Q X.xe s₂) X.xe s₁) X.xe s:=by
 refine fM (ha pins s U H _ I h) fun v s1 qq0=>?_
 obtain ⟨x,H1,I1,r1,q1⟩:=qq0
 refine fM (hb pins s1 U H1 _ I1 q1) fun u s2 qq0=>?_
 obtain ⟨y,H2,I2,r2,q2⟩:=qq0
 exact hf v u s2 x y H2 I2 r1 r2 q2
theorem UJ {op:Operator} {r:R2} (ho:OpR X (binaryOp op) r) (ha:PE X a ta) (hb:PE X b tb):PE X (.BinOp a op b pos) (JL r ta tb):=by
 intro pins s U H Q I h
 exact wpAny_BinOp (Qo ha hb I h fun v u s2 x y H2 I2 rx ry q=>ho pins s2 U H2 x y v u Q I2 rx ry q)
theorem UL {op:UnaryOp} {r:V->Hp->VK->Prop} (ho:Yz X (unaryOp op) r) (ha:PE X a ta):PE X (.UnaryOp op a pos) (tUn r ta):=by
 intro pins s U H Q I h
 exact UnaryOp_ (fM (ha pins s U H _ I h) fun v s1 ⟨x,H1,I1,r1,q1⟩=>ho pins s1 U H1 x v Q I1 r1 q1)
theorem YB {f:Value->Value->Sem Value} {C:Int->Int->Prop} {g:Int->Int->Int}
  (rule:∀ (i j:Int) (t u:Tok) (s:Shared) (Q:Value->Shared->Prop) (E:Value->Shared->Prop),C i j->Q (.int (g i j) s.toks) {s with toks:=s.toks+1}->wpAny (model X.prog X.w) X.A (f (.int i t) (.int j u)) Q E s):
  OpR X f (rI C fun i j=>.int (g i j)):=by
 intro pins s U H x y v u Q I rx ry h
 obtain ⟨i,j,rfl,rfl,hc,q⟩:=h
 obtain ⟨t,rfl⟩:=rx
 obtain ⟨t',rfl⟩:=ry
 exact rule i j t t' s _ _ hc ⟨.int (g i j),H,I.tok _,⟨_,rfl⟩,q⟩
theorem UT {f:Value->Value->Sem Value} {g:Int->Int->Int}
  (rule:∀ (i j:Int) (t u:Tok) (s:Shared) (Q:Value->Shared->Prop) (E:Value->Shared->Prop),Q (.int (g i j) s.toks) {s with toks:=s.toks+1}->wpAny (model X.prog X.w) X.A (f (.int i t) (.int j u)) Q E s):
  OpR X f (Kc fun i j=>.int (g i j)):=by
 intro pins s U H x y v u Q I rx ry h
 obtain ⟨i,j,rfl,rfl,q⟩:=h
 obtain ⟨t,rfl⟩:=rx
 obtain ⟨t',rfl⟩:=ry
 exact rule i j t t' s _ _ ⟨.int (g i j),H,I.tok _,⟨_,rfl⟩,q⟩
theorem Ke {f:Value->Value->Sem Value} {g:Int->Int->Bool}
  (rule:∀ (i j:Int) (t u:Tok) (s:Shared) (Q:Value->Shared->Prop) (E:Value->Shared->Prop),Q (.bool (g i j)) s->wpAny (model X.prog X.w) X.A (f (.int i t) (.int j u)) Q E s):
  OpR X f (Kc fun i j=>.bl (g i j)):=by
 intro pins s U H x y v u Q I rx ry h
 obtain ⟨i,j,rfl,rfl,q⟩:=h
 obtain ⟨t,rfl⟩:=rx
 obtain ⟨t',rfl⟩:=ry
 exact rule i j t t' s _ _ ⟨.bl (g i j),H,I,rfl,q⟩
def CPow (i j:Int):Prop:=0<=j/\j<=1000000/\i.natAbs < 2 ^ 64
def CMul (i j:Int):Prop:=(-(2 ^ 64) < i/\i < 2 ^ 64)\/(-(2 ^ 64) < j/\j < 2 ^ 64)
theorem CMul.ok {i j:Int} (h:CMul i j):IntMulOk i j:=by
 rcases h with ⟨h1,h2⟩ | ⟨h1,h2⟩
 ·exact .of_left (intBits_le_64 h1 h2)
 ·exact .of_right (intBits_le_64 h1 h2)
theorem Qp:OpR X (binaryOp .Add) (Kc fun i j=>.int (i+j)):=UT fun _ _ _ _ _ _ _ q=>add_int q
theorem jh:OpR X (binaryOp .Sub) (Kc fun i j=>.int (i - j)):=UT fun _ _ _ _ _ _ _ q=>sub_int q
theorem Qq:OpR X (binaryOp .Mult) (rI CMul fun i j=>.int (i*j)):=YB fun _ _ _ _ _ _ _ hc q=>mul_int q hc.ok
theorem qK:OpR X (binaryOp .Mod) (rI (fun _ j=>0 < j) fun i j=>.int (i % j)):=YB fun i j _ _ _ _ _ hc q=>by
 have h1:(0:Int) < j:=hc
 exact mod_int' (by omega) (by rw [Int.fmod_eq_emod_of_nonneg i (by omega)];exact q)
theorem Qs:OpR X (binaryOp .Pow) (rI CPow fun i j=>.int (i ^ j.toNat)):=YB fun _ _ _ _ _ _ _ hc q=>pow_int_small hc.1 hc.2.1 hc.2.2 q
theorem unI {f:Value->Sem Value} {g:Int->Int}
  (rule:∀ (i:Int) (t:Tok) (s:Shared) (Q:Value->Shared->Prop) (E:Value->Shared->Prop),Q (.int (g i) s.toks) {s with toks:=s.toks+1}->wpAny (model X.prog X.w) X.A (f (.int i t)) Q E s):
  Yz X f (rU fun i=>.int (g i)):=by
 intro pins s U H x v Q I rx h
 obtain ⟨i,rfl,q⟩:=h
 obtain ⟨t,rfl⟩:=rx
 exact rule i t s _ _ ⟨.int (g i),H,I.tok _,⟨_,rfl⟩,q⟩
theorem Gf:Yz X (unaryOp .USub) (rU fun i=>.int (-i)):=unI fun _ _ _ _ _ q=>neg_int q
end
def UV:V->V->Bool
 | .non,.non=>true | .non,.int _=>true | .int _,.non=>true | .non,.bl _=>true | .bl _,.non=>true | .non,.str _=>true | .str _,.non=>true
 | .int _,.int _=>true | .bl _,.bl _=>true | .str _,.str _=>true | .byt _,.byt _=>true
 | .int _,.str _=>true | .str _,.int _=>true | .bl _,.str _=>true | .str _,.bl _=>true
 | _,_=>false
def rEq:R2:=fun x y H Q=>UV x y=true/\Q (.bl (decide (x=y))) H
def rNe:R2:=fun x y H Q=>UV x y=true/\Q (.bl (!decide (x=y))) H
theorem Ay {i j:Int}:decide (V.int i=V.int j)=(i == j):=by
 rw [Bool.eq_iff_iff]
 simp
theorem Gg {i j:Bool}:decide (V.bl i=V.bl j)=(i == j):=by
 rw [Bool.eq_iff_iff]
 simp
theorem Az {i j:Str}:decide (V.str i=V.str j)=(i == j):=by
 rw [Bool.eq_iff_iff]
 simp
theorem Ba {i j:Array UInt8}:decide (V.byt i=V.byt j)=(i.toList == j.toList):=by
 rw [Bool.eq_iff_iff]
 cases i
 cases j
 simp
section
variable {X:Cx} {a b c:Expr} {ta tb tc:TE} {pos:Pos}
theorem bM {pins:List (Addr×Obj)} {U:St} {H:Hp} {s:Shared} {Q:VK} {k k':Bool} (I:Inv X pins U H s) (q:Q (.bl k) H) (e:k=k'):EP X pins U Q (.bool k') s:=by
 subst e
 exact ⟨.bl k,H,I,rfl,q⟩
theorem UW:OpR X (compareOp .Eq) rEq:=by
 intro pins s U H x y v u Q I rx ry h
 obtain ⟨hs,q⟩:=h
 cases x with
 | non=>
  cases rx
  cases y with
  | non=>cases ry;exact PySem.EqNone.eq_none_none (bM I q (by simp))
  | bl j=>cases ry;exact PySem.EqNone.eq_none_bool (bM I q (by simp))
  | int j=>obtain ⟨t',rfl⟩:=ry;exact PySem.EqNone.eq_none_int (bM I q (by simp))
  | str j=>obtain ⟨t',rfl⟩:=ry;exact PySem.EqNone.eq_none_str (bM I q (by simp))
  | _=>exact absurd (show false=true from hs) Bool.false_ne_true
 | bl i=>
  cases rx
  cases y with
  | non=>cases ry;exact PySem.EqNone.eq_bool_none (bM I q (by simp))
  | bl j=>cases ry;exact eq_bool (bM I q Gg)
  | str j=>obtain ⟨t',rfl⟩:=ry;exact PySem.EqMixed.eq_bool_str (bM I q (by simp))
  | _=>exact absurd (show false=true from hs) Bool.false_ne_true
 | int i=>
  obtain ⟨t,rfl⟩:=rx
  cases y with
  | non=>cases ry;exact PySem.EqNone.eq_int_none (bM I q (by simp))
  | int j=>obtain ⟨t',rfl⟩:=ry;exact eq_int (bM I q Ay)
  | str j=>obtain ⟨t',rfl⟩:=ry;exact PySem.EqMixed.eq_int_str (bM I q (by simp))
  | _=>exact absurd (show false=true from hs) Bool.false_ne_true
 | str i=>
  obtain ⟨t,rfl⟩:=rx
  cases y with
  | non=>cases ry;exact PySem.EqNone.eq_str_none (bM I q (by simp))
  | bl j=>cases ry;exact PySem.EqMixed.eq_str_bool (bM I q (by simp))
  | int j=>obtain ⟨t',rfl⟩:=ry;exact PySem.EqMixed.eq_str_int (bM I q (by simp))
  | str j=>obtain ⟨t',rfl⟩:=ry;exact eq_str (bM I q Az)
  | _=>exact absurd (show false=true from hs) Bool.false_ne_true
 | byt i=>
  obtain ⟨t,rfl⟩:=rx
  cases y with
  | byt j=>obtain ⟨t',rfl⟩:=ry;exact PySem.W.eq_bytes (bM I q Ba)
  | _=>exact absurd (show false=true from hs) Bool.false_ne_true
 | _=>cases y <;> exact absurd (show false=true from hs) Bool.false_ne_true
theorem U0:OpR X (compareOp .NotEq) rNe:=by
 intro pins s U H x y v u Q I rx ry h
 obtain ⟨hs,q⟩:=h
 cases x with
 | non=>
  cases rx
  cases y with
  | non=>cases ry;exact PySem.EqNone.ne_none_none (bM I q (by simp))
  | bl j=>cases ry;exact PySem.EqNone.ne_none_bool (bM I q (by simp))
  | int j=>obtain ⟨t',rfl⟩:=ry;exact PySem.EqNone.ne_none_int (bM I q (by simp))
  | str j=>obtain ⟨t',rfl⟩:=ry;exact PySem.EqNone.ne_none_str (bM I q (by simp))
  | _=>exact absurd (show false=true from hs) Bool.false_ne_true
 | bl i=>
  cases rx
  cases y with
  | non=>cases ry;exact PySem.EqNone.ne_bool_none (bM I q (by simp))
  | bl j=>cases ry;exact ne_bool (bM I q (congrArg not Gg))
  | str j=>obtain ⟨t',rfl⟩:=ry;exact PySem.EqMixed.ne_bool_str (bM I q (by simp))
  | _=>exact absurd (show false=true from hs) Bool.false_ne_true
 | int i=>
  obtain ⟨t,rfl⟩:=rx
  cases y with
  | non=>cases ry;exact PySem.EqNone.ne_int_none (bM I q (by simp))
  | int j=>obtain ⟨t',rfl⟩:=ry;exact ne_int (bM I q (congrArg not Ay))
  | str j=>obtain ⟨t',rfl⟩:=ry;exact PySem.EqMixed.ne_int_str (bM I q (by simp))
  | _=>exact absurd (show false=true from hs) Bool.false_ne_true
 | str i=>
  obtain ⟨t,rfl⟩:=rx
  cases y with
  | non=>cases ry;exact PySem.EqNone.ne_str_none (bM I q (by simp))
  | bl j=>cases ry;exact PySem.EqMixed.ne_str_bool (bM I q (by simp))
  | int j=>obtain ⟨t',rfl⟩:=ry;exact PySem.EqMixed.ne_str_int (bM I q (by simp))
  | str j=>obtain ⟨t',rfl⟩:=ry;exact ne_str (bM I q (congrArg not Az))
  | _=>exact absurd (show false=true from hs) Bool.false_ne_true
 | byt i=>
  obtain ⟨t,rfl⟩:=rx
  cases y with
  | byt j=>obtain ⟨t',rfl⟩:=ry;exact PySem.W.ne_bytes (bM I q (congrArg not Ba))
  | _=>exact absurd (show false=true from hs) Bool.false_ne_true
 | _=>cases y <;> exact absurd (show false=true from hs) Bool.false_ne_true
theorem Ov:OpR X (compareOp .Lt) (Kc fun i j=>.bl (decide (i < j))):=Ke fun _ _ _ _ _ _ _ q=>lt_int q
theorem Bb:OpR X (compareOp .LtE) (Kc fun i j=>.bl (decide (i<=j))):=Ke fun _ _ _ _ _ _ _ q=>le_int q
theorem rE:OpR X (compareOp .Gt) (Kc fun i j=>.bl (decide (j < i))):=Ke fun _ _ _ _ _ _ _ q=>gt_int q
theorem U5:OpR X (compareOp .GtE) (Kc fun i j=>.bl (decide (j<=i))):=Ke fun _ _ _ _ _ _ _ q=>ge_int q
theorem CP:OpR X (compareOp .In) (fun x y H Q=>∃ i j,x= .str i/\y= .str j/\Q (.bl (!(Builtin.Str.occurrences j i 0 j.length 1).isEmpty)) H):=by
 intro pins s U H x y v u Q I rx ry h
 obtain ⟨i,j,rfl,rfl,q⟩:=h
 obtain ⟨t,rfl⟩:=rx
 obtain ⟨t',rfl⟩:=ry
 exact in_str (bM I q rfl)
theorem OpR.or {f:Value->Value->Sem Value} {r r':R2} (h:OpR X f r) (h':OpR X f r'):OpR X f (fun x y H Q=>r x y H Q\/r' x y H Q):=by
 intro pins s U H x y v u Q I rx ry q
 rcases q with q | q
 ·exact h pins s U H x y v u Q I rx ry q
 ·exact h' pins s U H x y v u Q I rx ry q
theorem bT (b:Expr) {op:CmpOp} (h:autoParam (op≠.In) L2.auto2._auto_1) (h2:autoParam (op≠.NotIn) L2.auto2._auto_1):behindInMarks op b=false:=by
 have e1:(op == CmpOp.In)=false:=by cases op <;> first | rfl | exact absurd rfl h
 have e2:(op == CmpOp.NotIn)=false:=by cases op <;> first | rfl | exact absurd rfl h2
 cases b <;> simp [behindInMarks,e1,e2]
theorem Kf {op:CmpOp} {r:R2} (ho:OpR X (compareOp op) r) (ha:PE X a ta) (hb:PE X b tb) (hm:behindInMarks op b=false):PE X (.Compare a [op] [b] pos) (JL r ta tb):=by
 intro pins s U H Q I h
 exact wpAny_Compare1 (Qo ha hb I h fun v u s2 x y H2 I2 rx ry q=>ho pins s2 U H2 x y v u Q I2 rx ry q) hm
def Gh (t:TE):TT:=fun U H Q=>t U H fun x H'=>∃ k,x= .bl k/\Q k H'
theorem Kg {op:CmpOp} {r:R2} (ho:OpR X (compareOp op) r) (ha:PE X a ta) (hb:PE X b tb) (hm:behindInMarks op b=false):PT X (.Compare a [op] [b] pos) (Gh (JL r ta tb)):=by
 intro pins s U H Q I h
 refine wpAny_isTrue_Compare1 (fM (ha pins s U H _ I h) fun v s1 ⟨x,H1,I1,r1,q1⟩=>fM (hb pins s1 U H1 _ I1 q1) fun u s2 ⟨y,H2,I2,r2,q2⟩=>
  fM (ho pins s2 U H2 x y v u _ I2 r1 r2 q2) fun c s3 ⟨z,H3,I3,r3,k,e,q3⟩=>?_) hm
 subst e
 cases r3
 exact wpAny_truthy_bool ⟨H3,I3,q3⟩
def yX (r r':R2) (ta tb tc:TE):TE:=fun U H Q=>ta U H fun x H1=>tb U H1 fun y H2=>r x y H2 fun z H3=>∃ k,z= .bl k/\
 (if k=true then tc U H3 fun w' H4=>r' y w' H4 Q else Q (.bl false) H3)
theorem Gi {op op':CmpOp} {r r':R2} (ho:OpR X (compareOp op) r) (ho':OpR X (compareOp op') r') (ha:PE X a ta) (hb:PE X b tb) (hc:PE X c tc)
  (hm:autoParam (lastMarks [op,op'] [b,c]=false) L2.auto5._auto_1):PE X (.Compare a [op,op'] [b,c] pos) (yX r r' ta tb tc):=by
 intro pins s U H Q I h
 refine Compare_chain (fM (ha pins s U H _ I h) fun v s1 ⟨x,H1,I1,r1,q1⟩=>chain_link (fM (hb pins s1 U H1 _ I1 q1) fun u s2 ⟨y,H2,I2,r2,q2⟩=>
  fM (ho pins s2 U H2 x y v u _ I2 r1 r2 q2) fun d s3 ⟨z,H3,I3,r3,k,e,q3⟩=>?_)) hm
 subst e
 cases r3
 refine wpAny_truthy_bool ?_
 cases k with
 | false=>exact ite_ff ⟨.bl false,H3,I3,rfl,q3⟩
 | true=>exact ite_tt (chain_last (fM (hc pins s3 U H3 _ I3 q3) fun w' s4 ⟨z',H4,I4,r4,q4⟩=>ho' pins s4 U H4 y z' u w' Q I4 r2 r4 q4))
theorem tH:(sizeLine:Nat) < 2 ^ 63:=by rw [sizeLine_eq];decide
theorem yZ:OpR X (binaryOp .Add) (fun x y H Q=>∃ i j,x= .str i/\y= .str j/\i.length+j.length<=sizeLine/\Q (.str (i ++ j)) H):=by
 intro pins s U H x y v u Q I rx ry h
 obtain ⟨i,j,rfl,rfl,hz,q⟩:=h
 obtain ⟨t,rfl⟩:=rx
 obtain ⟨t',rfl⟩:=ry
 exact add_str (fun t' tk=>⟨.str (i ++ j),H,I.tok _,⟨_,rfl⟩,q⟩) hz
theorem vals1 {x:V} {us:List Value} (r:Vals [x] us):∃ u,us=[u]/\RelV x u:=by
 cases r with
 | cons r1 r2=>cases r2;exact ⟨_,rfl,r1⟩
theorem vals2 {x y:V} {us:List Value} (r:Vals [x,y] us):∃ u w',us=[u,w']/\RelV x u/\RelV y w':=by
 cases r with
 | cons r1 r2=>
  cases r2 with
  | cons r3 r4=>cases r4;exact ⟨_,_,rfl,r1,r3⟩
theorem u6 (hc:X.calm=true):CallR X (.builtin "min") (fun xs H Q=>∃ i j,xs=[.int i,.int j]/\Q (.int (if j < i then j else i)) H):=by
 intro pins s U H xs us Q I r h
 obtain ⟨i,j,rfl,q⟩:=h
 obtain ⟨u,w',rfl,⟨t,rfl⟩,⟨t',rfl⟩⟩:=vals2 r
 refine min_two_ints (I.ok.hd hc) fun h' tk k=>⟨_,H,I.kept k,?_,q⟩
 by_cases hj:j < i
 ·rw [if_pos hj,if_pos hj];exact ⟨_,rfl⟩
 ·rw [if_neg hj,if_neg hj];exact ⟨_,rfl⟩
theorem CQ:CallR X (.type "int") (fun xs H Q=>(∃ i,xs=[.int i]/\Q (.int i) H)\/∃ k,xs=[.bl k]/\Q (.int (if k then 1 else 0)) H):=by
 intro pins s U H xs us Q I r h
 rcases h with ⟨i,rfl,q⟩ | ⟨k,rfl,q⟩
 ·obtain ⟨u,rfl,t,rfl⟩:=vals1 r
  exact call_int_int ⟨.int i,H,I,⟨_,rfl⟩,q⟩
 ·obtain ⟨u,rfl,r1⟩:=vals1 r
  cases r1
  exact call_int_bool ⟨.int (if k then 1 else 0),H,I.tok _,⟨_,rfl⟩,q⟩
def U8 (K:W.Frag) (x:V) (H:Hp) (n:Nat):Prop:=
 match x with
 | .str y=>y.length<=sizeLine/\n=y.length
 | .byt y=>y.size<=sizeLine/\n=y.size
 | .ref p=>(∃ xs,SqL K H p xs/\n=xs.length)\/∃ xs,SqT K H p xs/\n=xs.length
 | _=>False
theorem Gj:CallR X (.builtin "len") (fun xs H Q=>∃ x n,xs=[x]/\U8 X.K x H n/\Q (.int n) H):=by
 intro pins s U H xs us Q I r h
 obtain ⟨x,n,rfl,e,q⟩:=h
 obtain ⟨u,rfl,rx⟩:=vals1 r
 have hl:=tH
 have hs:sizeLine=16777216:=sizeLine_eq
 cases x with
 | str y=>
  obtain ⟨t,rfl⟩:=rx
  obtain ⟨hy,e'⟩:y.length<=sizeLine/\n=y.length:=e
  subst e'
  exact len_str (by omega) ⟨.int _,H,I.tok _,⟨_,rfl⟩,q⟩
 | byt y=>
  obtain ⟨t,rfl⟩:=rx
  obtain ⟨hy,e'⟩:y.size<=sizeLine/\n=y.size:=e
  subst e'
  exact PySem.W.len_bytes (by omega) ⟨.int _,H,I.tok _,⟨_,rfl⟩,q⟩
 | ref p=>
  cases rx
  have e':(∃ xs,SqL X.K H p xs/\n=xs.length)\/∃ xs,SqT X.K H p xs/\n=xs.length:=e
  rcases e' with ⟨xs,hx,e'⟩ | ⟨xs,hx,e'⟩
  ·subst e'
   obtain ⟨its,r',pl,hz⟩:=I.list hx
   have hlen:=r'.length
   exact Calls.call_len_list pl.isList (by simp only [List.size_toArray];omega) ⟨.int xs.length,H,I.tok _,⟨_,by simp only [List.size_toArray];rw [hlen]⟩,q⟩
  ·subst e'
   obtain ⟨its,r',pl,hz⟩:=I.tuple hx
   have hlen:=r'.length
   exact len_tuple pl (by simp only [List.size_toArray];omega) ⟨.int xs.length,H,I.tok _,⟨_,by simp only [List.size_toArray];rw [hlen]⟩,q⟩
 | _=>exact (show False from e).elim
end
structure ObjM (h:Heap) (x dx C:Addr) (mA:Str->Option Value):Prop where
 obj:h.get? x=some (PySem.W.instObj C dx)
 ns:h.Ns1 dx mA
 ne:dx≠x
theorem u9 {h:Heap} {dx:Addr} {mA:Str->Option Value} (n:h.Ns1 dx mA):∃ od,h.get? dx=some od/\∀ name,PySem.W.lookIn name od=some (mA name):=by
 obtain ⟨o,es,ep,ho,hd,hk,_,hm⟩:=n
 refine ⟨o,ho,fun name=>?_⟩
 have e:=hm name
 unfold nsFind findBy at e
 rw [← Array.find?_toList] at e
 unfold PySem.W.lookIn
 rw [hd]
 dsimp only
 split
 ·rename_i y q
  rw [q] at e
  exact congrArg some e
 ·rename_i q
  rw [q] at e
  have a:es.toList.any (·.refKey)=false:=by
   rw [List.any_eq_false]
   intro y hy
   obtain ⟨z,t,hkey⟩:=hk y (Array.mem_toList_iff.mp hy)
   simp [DictEntry.refKey,hkey]
  have a':¬ es.toList.any (·.refKey)=true:=by rw [a];exact Bool.false_ne_true
  rw [if_neg a']
  exact congrArg some e
theorem ObjM.look {h:Heap} {x dx C:Addr} {mA:Str->Option Value} (I:ObjM h x dx C mA):∃ od,PySem.W.InstAt h x (PySem.W.instObj C dx) C (some od)/\∀ name,PySem.W.lookIn name od=some (mA name):=
 let ⟨od,ho,hl⟩:=u9 I.ns
 ⟨od,⟨I.obj,rfl,rfl,ho⟩,hl⟩
section
variable {prog:Program} {w:World} {A:Around} {E:Value->Shared->Prop} {s:Shared} {K:W.Frag} {x dx C f:Addr} {mA:Str->Option Value} {name:Str} {v:Value}
theorem Kh {expr:Bool} {Q:Value->Shared->Prop} (X:K.In s.heap) (I:ObjM s.heap x dx C mA) (hg:PySem.W.plainGet K C name=true) (hh:PySem.W.hasDictIn K C=true)
  (ha:PySem.W.findIn K (.ref C) name=some none) (hv:mA name=some v) (hv':PySem.W.handedIn v=true) (h:Q v {s with toks:=s.toks+1}):
  wpAny (model prog w) A (getAttr (.ref x) name expr) Q E s:=by
 obtain ⟨od,J,hl⟩:=I.look
 exact PySem.W.get_value X J (PySem.W.plainGet_of hg).1 (PySem.W.findObj_own hh ha rfl (by rw [hl,hv])) hv' h
theorem Gk {pl:Sem Bool} {Q:Value×List Value->Shared->Prop} (X:K.In s.heap) (I:ObjM s.heap x dx C mA) (hg:PySem.W.plainGet K C name=true)
  (hf:PySem.W.findIn K (.ref C) name=some (some (.ref f))) (ht:PySem.W.isFn K (.ref f)=true) (hv:mA name=none) (h:Q (.ref f,[.ref x]) s):
  wpAny (model prog w) A (getMethod (.ref x) name pl) Q E s:=by
 obtain ⟨od,J,hl⟩:=I.look
 exact PySem.W.method_fn X J (PySem.W.plainGet_of hg).1 (PySem.W.plainGet_of hg).2 hf (beq_iff_eq.mp ht) (by show (PySem.W.lookIn name od).map (·.isSome)=some false;rw [hl,hv];rfl) h
theorem Kl {ns:List Str} {Q:Unit->Shared->Prop} (X:K.In s.heap) (I:ObjM s.heap x dx C mA)
  (hs:PySem.W.findIn K (.ref C) "__setattr__"=some (some (.builtin "object.__setattr__"))) (hp:PySem.W.plainOver K C=true) (ht:PySem.W.takerIn K C name=some none) (hh:PySem.W.hasDictIn K C=true)
  (hw:PySem.Within mA ns) (hsz:ns.length<=sizeLine)
  (h:∀ h',ObjM h' x dx C (fun y=>if y=name then some v else mA y)->Heap.SameBut dx s.heap h'->Q () {s with heap:=h',toks:=s.toks+2}):
  wpAny (model prog w) A (setAttr (.ref x) name v) Q E s:=by
 obtain ⟨od,J,hl⟩:=I.look
 refine PySem.W.set_plain X J hs (PySem.W.osa_open (s:={s with toks:=s.toks+1}) (r:=none) X J hp ht fun b=>?_)
 obtain ⟨cd,hc,hd'⟩:=PySem.W.any_some hh
 have hx:s.heap.get? x=some ⟨.ref C,some dx,.plain,#[]⟩:=I.obj
 refine wpAny_bind (wpAny_pure (wpAny_bind (wpAny_bind (wpAny_loadPart hx (wpAny_bind (PySem.W.Looks.here (s:={s with toks:=s.toks+1}) (PySem.W.looks_clsIn X hc) ?_))))))
 rw [hd']
 refine wpAny_pure (a:=some dx) (wpAny_bind (wpAny_pure (wpAny_bind ?_)))
 refine wpAny_nsSet1 (s:={s with toks:=s.toks+1}) I.ns fun h' hn2 hs2=>?_
 obtain ⟨oD,esD,epD,hoD,hdD,hcD⟩:=hn2.count (PySem.Within.cons name v hw)
 refine wpAny_bind (wpAny_lookBehind hoD (by rw [hdD];exact pastItsLine_dict (Nat.le_trans hcD (by rw [List.length_cons];omega))) ?_)
 exact wpAny_pure (h _ ⟨(hs2.2 _ (Ne.symm I.ne)).trans I.obj,hn2,I.ne⟩ hs2)
theorem Gm {R:Result->Shared->Prop} {vs:List Value} {kw:List (Str×Value)} (X:K.In s.heap) (hm:PySem.W.makesIn K C=true)
  (hi:PySem.W.findIn K (.ref C) "__init__"=some (some (.ref f))) (hf:PySem.W.typeIn K (.ref f)=some (.type "function"))
  (h:codeAny (model prog w) (A.under (.builtin "type.__call__" ⟨.ref C :: vs,kw⟩)) (.call (.ref f) ⟨.ref (s.heap.objs.size+1) :: vs,kw⟩) (PySem.W.InitBack (s.heap.objs.size+1) R)
   {s with heap:=(s.heap.push PySem.W.emptyDict).push (PySem.W.instObj C s.heap.objs.size)}):
  codeAny (model prog w) A (.call (.ref C) ⟨vs,kw⟩) R s:=by
 obtain ⟨hh,g,d,t,os⟩:=s
 exact PySem.W.make_core (PySem.W.makes_of X hm) (PySem.W.looks_findIn X hi) (fun self=>PySem.W.bind_fn X self hf) (.inl rfl) h
end
def lH (f:Str) (v:V):List (Str×V)->List (Str×V)
 | []=>[(f,v)]
 | (g,x) :: r=>if g=f then (g,v) :: r else (g,x) :: lH f v r
theorem rF (f g:Str) (v:V):∀ fs:List (Str×V),(lH f v fs).lookup g=if g=f then some v else fs.lookup g
 | []=>by
  show List.lookup g [(f,v)]=_
  by_cases h:g=f
  ·have hb:(g == f)=true:=beq_iff_eq.mpr h
   simp only [List.lookup,hb,if_pos h]
  ·have hb:(g == f)=false:=beq_eq_false_iff_ne.mpr h
   simp only [List.lookup,hb,if_neg h]
 | (k,x) :: r=>by
  have ih:=rF f g v r
  rw [show lH f v ((k,x) :: r)=(if k=f then (k,v) :: r else (k,x) :: lH f v r) from rfl]
  by_cases hk:k=f
  ·rw [if_pos hk]
   by_cases h:g=k
   ·have hb:(g == k)=true:=beq_iff_eq.mpr h
    simp only [List.lookup,hb,if_pos (h.trans hk)]
   ·have hb:(g == k)=false:=beq_eq_false_iff_ne.mpr h
    simp only [List.lookup,hb,if_neg (fun e:g=f=>h (e.trans hk.symm))]
  ·rw [if_neg hk]
   by_cases h:g=k
   ·have hb:(g == k)=true:=beq_iff_eq.mpr h
    simp only [List.lookup,hb,if_neg (fun e:g=f=>hk (h.symm.trans e))]
   ·have hb:(g == k)=false:=beq_eq_false_iff_ne.mpr h
    simp only [List.lookup,hb]
    exact ih
theorem qL (f:Str) (v:V):∀ fs:List (Str×V),f∈(lH f v fs).map (·.1)/\∀ g,g∈fs.map (·.1)->g∈(lH f v fs).map (·.1)
 | []=>⟨by simp [lH],fun g h=>by simp at h⟩
 | (k,x) :: r=>by
  obtain ⟨i1,i2⟩:=qL f v r
  rw [show lH f v ((k,x) :: r)=(if k=f then (k,v) :: r else (k,x) :: lH f v r) from rfl]
  by_cases hk:k=f
  ·rw [if_pos hk]
   subst hk
   exact ⟨by simp,fun g h=>by simpa using h⟩
  ·rw [if_neg hk]
   refine ⟨?_,fun g h=>?_⟩
   ·rw [List.map_cons]
    exact List.mem_cons_of_mem _ i1
   ·rw [List.map_cons] at h ⊢
    rcases List.mem_cons.mp h with e | e
    ·exact List.mem_cons.mpr (.inl e)
    ·exact List.mem_cons_of_mem _ (i2 g e)
theorem rG (f:Str) (v:V):∀ fs:List (Str×V),(lH f v fs).length<=fs.length+1
 | []=>by simp [lH]
 | (k,x) :: r=>by
  have ih:=rG f v r
  rw [show lH f v ((k,x) :: r)=(if k=f then (k,v) :: r else (k,x) :: lH f v r) from rfl]
  by_cases hk:k=f
  ·rw [if_pos hk,List.length_cons,List.length_cons];omega
  ·rw [if_neg hk,List.length_cons,List.length_cons];omega
theorem RelO.some_of {v:V} {o:Option Value} (r:RelO (some v) o):∃ u,o=some u/\RelV v u:=by
 cases o with
 | none=>exact (show False from r).elim
 | some u=>exact ⟨u,rfl,r⟩
theorem RelO.none_of {o:Option Value} (r:RelO none o):o=none:=by
 cases o with
 | none=>rfl
 | some u=>exact (show False from r).elim
theorem CV {v:V} {u:Value} (r:RelV v u):PySem.W.handedIn u=true:=by
 cases v with
 | non=>cases (show u=Value.none from r);rfl
 | bl b=>cases (show u=Value.bool b from r);rfl
 | int i=>obtain ⟨t,e⟩:=(show ∃ t,u=Value.int i t from r);cases e;rfl
 | str x=>obtain ⟨t,e⟩:=(show ∃ t,u=Value.str x t from r);cases e;rfl
 | byt b=>obtain ⟨t,e⟩:=(show ∃ t,u=Value.bytes b t from r);cases e;rfl
 | flt b=>obtain ⟨t,e⟩:=(show ∃ t,u=Value.float b t from r);cases e;rfl
 | ref a=>cases (show u=Value.ref a from r);rfl
 | ty n=>cases (show u=Value.type n from r);rfl
section
variable {P:Program} {w:World} {H H':Hp} {h h':Heap} {a C dx:Addr} {fs fs':List (Str×V)}
theorem pM (hok:HOk P w H h) (e:H a=some (.ins C dx fs)):∃ mA,ObjM h a dx C mA/\(∀ f,RelO (fs.lookup f) (mA f))/\PySem.Within mA (fs.map (·.1))/\fs.length<=1000/\H dx=some (.own a):=by
 obtain ⟨d,z,ne,ob,mA,n,r,q⟩:=(show ObjOk P w H h a (.ins C dx fs) from hok a _ e)
 exact ⟨mA,⟨ob,n,ne⟩,r,q,z,d⟩
end
structure Cls (K:W.Frag) (C:Addr):Prop where
 pg:PySem.W.plainGet K C Str.empty=true
 hd:PySem.W.hasDictIn K C=true
 po:PySem.W.plainOver K C=true
 sa:PySem.W.findIn K (.ref C) "__setattr__"=some (some (.builtin "object.__setattr__"))
theorem Cls.get {K:W.Frag} {C:Addr} (c:Cls K C) (f:Str):PySem.W.plainGet K C f=true:=c.pg
def NoAttr (K:W.Frag) (C:Addr) (f:Str):Prop:=PySem.W.findIn K (.ref C) f=some none
theorem NoAttr.taker {K:W.Frag} {C:Addr} {f:Str} (n:NoAttr K C f):PySem.W.takerIn K C f=some none:=by
 unfold PySem.W.takerIn
 rw [show PySem.W.findIn K (.ref C) f=some none from n]
 rfl
structure Meth (K:W.Frag) (C:Addr) (m:Str) (f:Addr):Prop where
 at_:PySem.W.findIn K (.ref C) m=some (some (.ref f))
 fn:PySem.W.isFn K (.ref f)=true
 kp:PySem.W.keepIn K (.ref f)=true
section
variable {X:Cx} {pins:List (Addr×Obj)} {U:St} {H:Hp} {s:Shared} {a C dx:Addr} {fs:List (Str×V)} {f:Str} {v:V} {A:Around} {E:Value->Shared->Prop}
theorem za {b:Bool} {Q:Value->Shared->Prop} (I:Inv X pins U H s) (e:H a=some (.ins C dx fs)) (c:Cls X.K C) (n:NoAttr X.K C f) (l:fs.lookup f=some v)
  (h:∀ u s',Inv X pins U H s'->RelV v u->Q u s'):wpAny (model X.prog X.w) A (getAttr (.ref a) f b) Q E s:=by
 obtain ⟨mA,O,r,_,_,_⟩:=pM I.hok e
 obtain ⟨u,hu,ru⟩:=RelO.some_of (v:=v) (o:=mA f) (by rw [← l];exact r f)
 exact Kh I.kIn O (c.get f) c.hd n hu (CV ru) (h u _ (I.tok _) ru)
theorem tK {m:Str} {g:Addr} {pl:Sem Bool} {Q:Value×List Value->Shared->Prop} (I:Inv X pins U H s) (e:H a=some (.ins C dx fs)) (c:Cls X.K C) (k:Meth X.K C m g) (l:fs.lookup m=none)
  (h:Q (.ref g,[.ref a]) s):wpAny (model X.prog X.w) A (getMethod (.ref a) m pl) Q E s:=by
 obtain ⟨mA,O,r,_,_,_⟩:=pM I.hok e
 have hn:mA m=none:=RelO.none_of (by rw [← l];exact r m)
 exact Gk I.kIn O (c.get m) k.at_ k.fn hn h
theorem zb {y:V} {u:Value} {Q:Unit->Shared->Prop} (I:Inv X pins U H s) (e:H a=some (.ins C dx fs)) (c:Cls X.K C) (n:NoAttr X.K C f) (hl:fs.length < 1000) (ry:RelV y u)
  (h:∀ s',Inv X pins U (upd H a (.ins C dx (lH f y fs))) s'->Q () s'):wpAny (model X.prog X.w) A (setAttr (.ref a) f u) Q E s:=by
 obtain ⟨mA,O,r,wi,_,ho⟩:=pM I.hok e
 have hz:(fs.map (·.1)).length<=sizeLine:=by rw [List.length_map,sizeLine_eq];omega
 refine Kl I.kIn O c.sa c.po n.taker c.hd wi hz fun h' O' sb=>h _ ?_
 have hd:∃ o,h'.get? dx=some o:=let ⟨o,_,_,e',_⟩:=O'.ns;⟨o,e'⟩
 refine I.write (x:=a) (e:=dx) (by rw [e];exact True.intro) (.inr ho) (fun b q hb z=>(sb.2 b hb).trans z) hd ?_
 refine ⟨by rw [aB O.ne];exact ho,?_,O.ne,O'.obj,_,O'.ns,fun g=>?_,fun g hg=>?_⟩
 ·have:=rG f y fs;omega
 ·show RelO ((lH f y fs).lookup g) (if g=f then some u else mA g)
  rw [rF]
  by_cases q:g=f
  ·rw [if_pos q,if_pos q];exact ry
  ·rw [if_neg q,if_neg q];exact r g
 ·by_cases q:g=f
  ·rw [q];exact (qL f y fs).1
  ·refine (qL f y fs).2 g (wi g fun z=>hg ?_)
   show (if g=f then some u else mA g)=none
   rw [if_neg q];exact z
theorem Inv.made (I:Inv X pins U H s):Inv X pins U (upd (upd H s.heap.objs.size (.own (s.heap.objs.size+1))) (s.heap.objs.size+1) (.ins C s.heap.objs.size []))
  {s with heap:=(s.heap.push PySem.W.emptyDict).push (PySem.W.instObj C s.heap.objs.size)}:=by
 have e1:(s.heap.push PySem.W.emptyDict).get? s.heap.objs.size=some PySem.W.emptyDict:=Heap.get?_push_size s.heap rfl
 have e2:((s.heap.push PySem.W.emptyDict).push (PySem.W.instObj C s.heap.objs.size)).get? (s.heap.objs.size+1)=some (PySem.W.instObj C s.heap.objs.size):=by
  have:=Heap.get?_push_size (s.heap.push PySem.W.emptyDict) (o:=PySem.W.instObj C s.heap.objs.size) rfl
  rwa [Heap.size_push] at this
 have e3:(s.heap.push PySem.W.emptyDict).Ns s.heap.objs.size (fun _=>none):=⟨PySem.W.emptyDict,#[],_,e1,rfl,(fun e he=>absurd he (by simp)),fun _=>rfl⟩
 have I1:=I.laid (a:=s.heap.objs.size) (o:=.own (s.heap.objs.size+1)) (h':=s.heap.push PySem.W.emptyDict) (t':=s.toks) (fun b u q=>Heap.get?_push_of_some _ q) (Nat.le_refl _) ⟨_,e1⟩
 refine I1.laid (a:=s.heap.objs.size+1) (o:=.ins C s.heap.objs.size []) (t':=s.toks) (fun b u q=>Heap.get?_push_of_some _ q) (Nat.le_of_eq (Heap.size_push _ _)) ?_
 have ne:s.heap.objs.size≠s.heap.objs.size+1:=Nat.ne_of_lt (Nat.lt_succ_self _)
 refine ⟨by rw [aB ne,aj],Nat.zero_le _,ne,e2,fun _=>none,(Heap.Ns1.of_empty e3).at fun o q=>Heap.get?_push_of_some _ q,fun _=>True.intro,fun y hy=>absurd rfl hy⟩
theorem Km {prog:Program} {w:World} {env:Env} {e:Expr} {f:Str} {pos:Pos} {s:Shared} {Q:Value->Shared->Prop} (hb:attributeBase e f env (eval e env)=eval e env)
  (h:wpAny (model prog w) A (eval e env) (fun o s₁=>wpAny (model prog w) A (getAttr o f true) Q E s₁) E s):wpAny (model prog w) A (eval (.Attribute e f pos) env) Q E s:=
 Attribute_any_ h (by rw [arm_eval_Attribute,hb])
end
def Qt (K:W.Frag) (ta:TE) (f:Str):TE:=fun U H Q=>ta U H fun x H1=>∃ a C dx fs v,x= .ref a/\H1 a=some (.ins C dx fs)/\Cls K C/\NoAttr K C f/\fs.lookup f=some v/\Q v H1
def Qu (K:W.Frag) (ta tv:TE) (f:Str):TS:=fun D U H=>tv U H fun y H1=>ta U H1 fun x H2=>∃ a C dx fs,x= .ref a/\H2 a=some (.ins C dx fs)/\Cls K C/\NoAttr K C f/\fs.length < 1000/\
 D.nx U (upd H2 a (.ins C dx (lH f y fs)))
section
variable {X:Cx} {o e value:Expr} {f:Str} {pos pos' tpos:Pos} {ta tv:TE}
theorem Qv (he:PE X e ta) (hb:attributeBase e f X.env (eval e X.env)=eval e X.env):PE X (.Attribute e f pos) (Qt X.K ta f):=by
 intro pins s U H Q I h
 refine Km hb (fM (he pins s U H _ I h) fun u s1 qq0=>?_)
 obtain ⟨x,H1,I1,rx,a,C,dx,fs,v,ex,ea,c,n,l,q⟩:=qq0
 subst ex
 obtain rfl:u=Value.ref a:=rx
 exact za I1 ea c n l fun u' s2 I2 ru=>⟨v,H1,I2,ru,q⟩
theorem Qw (ha:PE X o ta) (hv:PE X value tv) (hs:swapsWith value (some (.Attribute o f pos')) pos.line X.env=pure false):PS X (.Assign [.Attribute o f pos'] value pos) (Qu X.K ta tv f):=by
 intro pins s U H D I h
 refine plainObj_wpAny_Assign_Attribute (fM (hv pins s U H _ I h) fun u s1 ⟨y,H1,I1,ry,q⟩=>fM (ha pins s1 U H1 _ I1 q) fun ov s2 qq0=>?_) hs
 obtain ⟨x,H2,I2,rx,a,C,dx,fs,ex,ea,c,n,l,q2⟩:=qq0
 subst ex
 obtain rfl:ov=Value.ref a:=rx
 exact zb I2 ea c n l ry fun s3 I3=>⟨U,_,I3,q2⟩
end
section
variable {X:Cx} {pins:List (Addr×Obj)} {U:St} {H:Hp} {s:Shared} {A:Around} {E:Value->Shared->Prop} {Q:Value->Shared->Prop} {c:Value} {b:Bool}
inductive TyOf (K:W.Frag) (H:Hp):V->Value->Prop where
 | non:TyOf K H .non (.type "NoneType")
 | bl (x:Bool):TyOf K H (.bl x) (.type "bool")
 | int (i:Int):TyOf K H (.int i) (.type "int")
 | str (x:Str):TyOf K H (.str x) (.type "str")
 | flt (x:UInt64):TyOf K H (.flt x) (.type "float")
 | lst {a:Addr} {xs:List V} (e:H a=some (.lst xs)):TyOf K H (.ref a) (.type "list")
 | frz {a:Addr} {o:Obj} {xs:List V} (e:H a=some (.frz o (.lst xs))):TyOf K H (.ref a) (.type "list")
 | tup {a:Addr} {xs:List V} (e:H a=some (.tup xs)):TyOf K H (.ref a) (.type "tuple")
 | dK {a:Addr} {kvs:List (Key×V)} (e:H a=some (.dK kvs)):TyOf K H (.ref a) (.type "dict")
 | dT {a:Addr} {kvs:List (List Key×V)} (e:H a=some (.dT kvs)):TyOf K H (.ref a) (.type "dict")
 | ins {a C dx:Addr} {fs:List (Str×V)} (e:H a=some (.ins C dx fs)) (cl:Cls K C) (ha:PySem.W.findIn K (.ref C) "__class__"=some (some (.builtin "object.__class__")))
   (hn:PySem.W.specialIn K (.builtin "object.__class__") "__get__"=some (some (.builtin "getset_descriptor.__get__"))) (htk:PySem.W.takesIn K (.builtin "object.__class__")=some true)
   (hm:PySem.W.mroIn K C (.type "object")=some true):TyOf K H (.ref a) (.ref C)
theorem CW {x:V} {u t:Value} (I:Inv X pins U H s) (rx:RelV x u) (ty:TyOf X.K H x t) (e:PySem.W.kitOne X.K t c=some b) (h:∀ tk,Q (.bool b) {s with toks:=tk}):
  wpAny (model X.prog X.w) A (call (.builtin "isinstance") [u,c]) Q E s:=by
 cases ty with
 | non=>cases (show u=Value.none from rx);exact PySem.W.kia_one PySem.W.kitx_none I.kIn True.intro e (fun z=>nomatch z) h
 | bl y=>cases (show u=Value.bool y from rx);exact PySem.W.kia_one PySem.W.kitx_bool I.kIn True.intro e (fun z=>nomatch z) h
 | int i=>obtain ⟨t,q⟩:=(show ∃ t,u=Value.int i t from rx);cases q;exact PySem.W.kia_one PySem.W.kitx_int I.kIn True.intro e (fun z=>nomatch z) h
 | str y=>obtain ⟨t,q⟩:=(show ∃ t,u=Value.str y t from rx);cases q;exact PySem.W.kia_one PySem.W.kitx_str I.kIn True.intro e (fun z=>nomatch z) h
 | flt y=>obtain ⟨t,q⟩:=(show ∃ t,u=Value.float y t from rx);cases q;exact PySem.W.kia_one PySem.W.kitx_float I.kIn True.intro e (fun z=>nomatch z) h
 | @lst a xs ea=>
  cases (show u=Value.ref a from rx)
  obtain ⟨_,_,n,_,h1⟩:=(show ObjOk X.prog X.w H s.heap a (.lst xs) from I.hok a _ ea)
  exact PySem.W.kia_one PySem.W.kitx_list I.kIn ⟨_,h1,rfl⟩ e (fun z=>nomatch z) h
 | @frz a ob xs ea=>
  cases (show u=Value.ref a from rx)
  obtain ⟨_,_,_,n,_,h1⟩:=(show ObjOk X.prog X.w H s.heap a (.frz ob (.lst xs)) from I.hok a _ ea)
  exact PySem.W.kia_one PySem.W.kitx_list I.kIn ⟨_,h1,rfl⟩ e (fun z=>nomatch z) h
 | @tup a xs ea=>
  cases (show u=Value.ref a from rx)
  obtain ⟨_,_,_,p⟩:=(show ObjOk X.prog X.w H s.heap a (.tup xs) from I.hok a _ ea)
  obtain ⟨o,h1,h2,_⟩:=p
  exact PySem.W.kia_one PySem.W.kitx_tuple I.kIn ⟨o,h1,h2⟩ e (fun z=>nomatch z) h
 | @dK a kvs ea=>
  cases (show u=Value.ref a from rx)
  obtain ⟨_,_,vs,_,p⟩:=(show ObjOk X.prog X.w H s.heap a (.dK kvs) from I.hok a _ ea)
  obtain ⟨o,es,ep,h1,h2,_⟩:=p
  exact PySem.W.kia_one PySem.W.kitx_dict I.kIn ⟨o,h1,h2.1⟩ e (fun z=>nomatch z) h
 | @dT a kvs ea=>
  cases (show u=Value.ref a from rx)
  obtain ⟨_,_,xs,_,o,es,ep,h1,h2,_⟩:=(show ObjOk X.prog X.w H s.heap a (.dT kvs) from I.hok a _ ea)
  exact PySem.W.kia_one PySem.W.kitx_dict I.kIn ⟨o,h1,h2.1⟩ e (fun z=>nomatch z) h
 | @ins a C dx fs ea cl ha hn htk hm=>
  cases (show u=Value.ref a from rx)
  obtain ⟨mA,O,_⟩:=pM I.hok ea
  obtain ⟨od,J,_⟩:=O.look
  exact PySem.W.kia_one (PySem.W.kitx_own (cl.get _) cl.hd ha hn htk hm) I.kIn J e (fun z=>nomatch z) h
end
structure Room (k:Nat) (A:Around):Prop where
 hd:A.handled=none
 dp:A.depth+3*k+5 < recursionLimit
 un:A.units+16*k+200 < cLine
 gd:A.guards=some []
theorem Room.mono {j k:Nat} {A:Around} (r:Room k A) (h:j<=k):Room j A:=⟨r.hd,by have:=r.dp;omega,by have:=r.un;omega,r.gd⟩
theorem Room.deeper {k:Nat} {A:Around} (r:Room (k+1) A) (env:Env):Room k (A.deeper env):=
 ⟨r.hd,by have:=r.dp;show A.depth+1+3*k+5 < _;omega,by have:=r.un;show A.units+3+16*k+200 < _;omega,r.gd⟩
theorem zc {A:Around} {C:Addr} {us:List Value} {kw:List (Str×Value)}:(A.under (.builtin "type.__call__" ⟨.ref C :: us,kw⟩)).depth=A.depth+1:=by
 first | rfl | simp [Around.under,Code.weight,Code.isCreation,Code.isGuard,Code.isCaller,Code.frames,Code.isFrame,guardIds]
theorem zf {A:Around} {C:Addr} {us:List Value} {kw:List (Str×Value)}:(A.under (.builtin "type.__call__" ⟨.ref C :: us,kw⟩)).units=A.units+1:=by
 first | rfl | simp [Around.under,Code.cUnits,Code.frames,Code.isFrame]
theorem xg {A:Around} {C:Addr} {us:List Value} {kw:List (Str×Value)}:(A.under (.builtin "type.__call__" ⟨.ref C :: us,kw⟩)).guards=pushGuards [] A.guards:=by
 first | rfl | simp [Around.under,Code.guards,Code.isGuard,guardIds]
theorem Room.make {k:Nat} {A:Around} (r:Room (k+1) A) (C:Addr) (us:List Value) (kw:List (Str×Value)):Room k (A.under (.builtin "type.__call__" ⟨.ref C :: us,kw⟩)):=
 ⟨r.hd,by have:=r.dp;rw [zc];omega,by have:=r.un;rw [zf];omega,(xg.trans (by rw [r.gd];rfl))⟩
theorem Room.depth {k:Nat} {A:Around} (r:Room k A):A.depth < recursionLimit:=by have:=r.dp;omega
theorem Room.units {k:Nat} {A:Around} (r:Room k A):A.units+64 < cLine:=by have:=r.un;omega
theorem Room.units0 {k:Nat} {A:Around} (r:Room k A):A.units < cLine:=by have:=r.un;omega
def Ko:TA:=fun _ H Q=>Q [] H
def Bc (ta:TE) (tr:TA):TA:=fun U H Q=>ta U H fun x H1=>tr U H1 fun xs H2=>Q (x :: xs) H2
section
variable {X:Cx} {e:Expr} {es:List Expr} {te:TE} {t:TA} {pos:Pos}
theorem Qx:PA X [] Ko:=fun _ _ _ _ H Q I h=>Calls.spliced_nil ⟨[],H,I,.nil,h⟩
theorem Kp (ha:PE X e te) (hr:PA X es t) (hs:autoParam (starEach (e :: es) X.env=(false,eval e X.env) :: starEach es X.env) L2.auto4._auto_1):PA X (e :: es) (Bc te t):=by
 intro pos pins s U H Q I h
 rw [hs]
 show wpAny _ _ (spliced ((false,eval e X.env) :: backTo pos (starEach es X.env))) _ _ s
 refine Calls.spliced_cons (fM (ha pins s U H _ I h) fun u s1 qq0=>?_)
 obtain ⟨x,H1,I1,r1,q1⟩:=qq0
 exact fM (hr pos pins s1 U H1 _ I1 q1) fun us s2 ⟨xs,H2,I2,r2,q2⟩=>⟨x :: xs,H2,I2,.cons r1 r2,q2⟩
def Kq (t:TA):TE:=fun U H Q=>t U H fun xs H1=>xs.length<=sizeLine/\∀ p,H1 p=none->Q (.ref p) (upd H1 p (.tup xs))
def Ks (t:TA):TE:=fun U H Q=>t U H fun xs H1=>xs.length<=sizeLine/\∀ p,H1 p=none->Q (.ref p) (upd H1 p (.lst xs))
theorem Qy {x1} (h:PA X es t):PE X (.Tuple es x1 pos) (Kq t):=by
 intro pins s U H Q I hq
 refine wpAny_Tuple_spliced (fM (h pos pins s U H _ I hq) fun us s1 ⟨xs,H1,I1,r,z,q⟩=>⟨by rw [← r.length];exact z,?_⟩)
 have hf:H1 s1.heap.objs.size=none:=I1.hok.fresh (Nat.le_refl _)
 refine ⟨.ref s1.heap.objs.size,upd H1 s1.heap.objs.size (.tup xs),I1.laid (t':=s1.toks) (fun b u e=>Heap.get?_push_of_some _ e) (Nat.le_refl _) ?_,rfl,q _ hf⟩
 exact ⟨z,us,r,⟨_,Heap.get?_push_size _ rfl,rfl,_,rfl⟩⟩
theorem Qz (h:PA X es t):PE X (.List es pos) (Ks t):=by
 intro pins s U H Q I hq
 refine wpAny_List_spliced (fM (h pos pins s U H _ I hq) fun us s1 ⟨xs,H1,I1,r,z,q⟩=>⟨by rw [← r.length];exact z,?_⟩)
 have hf:H1 s1.heap.objs.size=none:=I1.hok.fresh (Nat.le_refl _)
 refine ⟨.ref s1.heap.objs.size,upd H1 s1.heap.objs.size (.lst xs),I1.laid (t':=s1.toks) (fun b u e=>Heap.get?_push_of_some _ e) (Nat.le_refl _) ?_,rfl,q _ hf⟩
 exact ⟨z,us,0,r,Heap.get?_push_size _ rfl⟩
end
abbrev Sp:=List V->Hp->VK->XK->Prop
abbrev Fp:=List Env->Hp->Shared->XK->Value->Shared->Prop
structure Env0 (P:Program) (w:World) (K:W.Frag) (mg:Str->Option Value) (base:Heap) (A:Around) (outer:List Env) (s:Shared) (H:Hp):Prop where
 frames:A.frames=some outer
 mod:Mod K mg base
 bs:∀ b o,base.get? b=some o->s.heap.get? b=some o/\H b=none
 bsz:base.objs.size<=s.heap.objs.size
 funs:s.heap.FunFrames base outer
 frf:∀ b∈frs outer,H b=none
 hok:HOk P w H s.heap
 bare:AllBare s.gens
def CE (outer:List Env) (P:Program) (w:World) (H:Hp) (s:Shared) (Q:VK) (u:Value) (s':Shared):Prop:=
 ∃ v H',s'.os=s.os/\AllBare s'.gens/\Un (frs outer) [] H H' s.heap s'.heap/\HOk P w H' s'.heap/\RelV v u/\Q v H'
def CR (CX:Fp) (outer:List Env) (P:Program) (w:World) (H:Hp) (s:Shared) (Q:VK) (E:XK) (r:Result) (s':Shared):Prop:=
 match r with
 | .ok (.ret u)=>CE outer P w H s Q u s'
 | .ok _=>False
 | .error e=>CX outer H s E e s'
structure rT (P:Program) (w:World) (K:W.Frag) (mg:Str->Option Value) (base:Heap) (CX:Fp) (k:Nat) (f:Addr) (fd:FuncData) (ps:List Str) (sp:Sp):Prop where
 len:∀ vs H Q E,sp vs H Q E->vs.length=ps.length
 run:∀ (A:Around) (outer:List Env) (s:Shared) (H:Hp) (args:Args) (us:List Value) (vs:List V) (Q:VK) (E:XK),Room k A->Env0 P w K mg base A outer s H->BindsTo s fd args (ps.zip us)->Vals vs us->sp vs H Q E->
  codeAny (model P w) A (.call (.ref f) args) (CR CX outer P w H s Q E) s
theorem Env0.make {P:Program} {w:World} {K:W.Frag} {mg:Str->Option Value} {base:Heap} {A:Around} {outer:List Env} {s:Shared} {H:Hp} (e:Env0 P w K mg base A outer s H) (C:Addr) (us:List Value) (kw:List (Str×Value)):
  Env0 P w K mg base (A.under (.builtin "type.__call__" ⟨.ref C :: us,kw⟩)) outer s H:=⟨by first | exact e.frames | (simpa [Around.under,Code.envs,Code.isFrame,pushEnvs] using e.frames),e.mod,e.bs,e.bsz,e.funs,e.frf,e.hok,e.bare⟩
section
variable {X:Cx} {pins:List (Addr×Obj)} {U:St} {H:Hp} {s s':Shared}
theorem Inv.env0 (I:Inv X pins U H s):Env0 X.prog X.w X.K X.mg X.base X.A X.stack s H:=
 ⟨I.ok.frames,I.ok.mod,I.bs,Nat.le_trans I.ok.bsz I.sz,I.stack,I.stkFree,I.hok,I.bare⟩
theorem Inv.after {Q:VK} {u:Value} (I:Inv X pins U H s) (h:CE X.stack X.prog X.w H s Q u s'):EP X pins U Q u s':=by
 obtain ⟨v,H',os,bare,un,hok,r,q⟩:=h
 obtain ⟨hh,g,d,t,os'⟩:=s'
 obtain rfl:os'=s.os:=os
 exact ⟨v,H',I.call (h':=hh) (g':=g) (d':=d) (t':=t) (ch:=[]) un hok bare (fun b z=>absurd z (by simp)),r,q⟩
end
def vd (sp:Sp) (dvs:List V) (E:XK) (t:TA):TE:=fun U H Q=>t U H fun vs H1=>sp (vs ++ dvs) H1 Q E
def Binds (K:W.Frag) (fd:FuncData) (ps:List Str) (ds:List Value):Prop:=
 ∀ (s:Shared) (us:List Value),K.In s.heap->(us ++ ds).length=ps.length->BindsTo s fd ⟨us,[]⟩ (ps.zip (us ++ ds))
theorem Binds.all {K:W.Frag} {fd:FuncData} {ps:List Str} (h:∀ us:List Value,us.length=ps.length->bindArgs fd ⟨us,[]⟩=pure (ps.zip us)):Binds K fd ps []:=fun s us _ hl=>by
 rw [List.append_nil] at hl ⊢
 exact .of_eq (h us hl)
def zg (CX:Fp) (X:Cx) (E:XK):Prop:=∀ (pins:List (Addr×Obj)) (U:St) (H:Hp) (s:Shared) (e:Value) (s':Shared),Inv X pins U H s->CX X.stack H s E e s'->X.xe e s'
section
variable {X:Cx} {CX:Fp} {k:Nat} {f C:Addr} {fd:FuncData} {ps:List Str} {sp:Sp} {dvs:List V} {ds:List Value} {E:XK} {x m:Str} {p pos apos:Pos} {e o:Expr} {es:List Expr} {ta:TE} {t:TA}
theorem QB {pins:List (Addr×Obj)} {U:St} {H:Hp} {s:Shared} {Q:VK} {us:List Value} {vs:List V} (F:rT X.prog X.w X.K X.mg X.base CX k f fd ps sp) (hr:Room k X.A) (hb:Binds X.K fd ps ds) (hd:Vals dvs ds) (hx:zg CX X E)
  (I:Inv X pins U H s) (r:Vals vs us) (h:sp (vs ++ dvs) H Q E):wpAny (model X.prog X.w) X.A (call (.ref f) us) (EP X pins U Q) X.xe s:=by
 have r2:Vals (vs ++ dvs) (us ++ ds):=r.append hd
 have hl:(us ++ ds).length=ps.length:=by rw [← r2.length];exact F.len _ _ _ _ h
 refine wpAny_call (codeAny_mono (F.run X.A X.stack s H ⟨us,[]⟩ (us ++ ds) (vs ++ dvs) Q E hr I.env0 (hb s us I.kIn hl) r2 h) fun r s' hq=>?_)
 cases r with
 | error e=>exact hx pins U H s e s' I hq
 | ok fl=>
  cases fl with
  | ret u=>exact I.after hq
  | next=>exact False.elim hq
  | brk=>exact False.elim hq
  | cont=>exact False.elim hq
theorem Ku (F:rT X.prog X.w X.K X.mg X.base CX k f fd ps sp) (hr:Room k X.A) (hg:Gl X x) (hm:X.mg x=some (.ref f)) (hk:PySem.W.keepIn X.K (.ref f)=true) (hb:Binds X.K fd ps ds) (hd:Vals dvs ds) (hx:zg CX X E)
  (ha:PA X (e :: es) t) (hdb:autoParam ((x == ("__debug__":Str))=false) L2.auto2._auto_1) (he:autoParam (starEach (e :: es) X.env=(false,eval e X.env) :: starEach es X.env) L2.auto4._auto_1) (hpl:autoParam ((backTo pos (starEach es X.env)).any (·.1)=false) L2.auto4._auto_1):
  PE X (.Call (.Name x p) (e :: es) [] pos) (vd sp dvs E t):=by
 intro pins s U H Q I h
 refine wpAny_Call_Name_kw (vU I hg hm ?_ hdb)
 refine PySem.W.callWith_K (h₀:=X.base) I.ok.mod.kin hk (fM (ha pos pins s U H _ I h) fun us s1 ⟨vs,H1,I1,r,q⟩=>⟨I1.kIn,?_⟩) he hpl
 exact QB F hr hb hd hx I1 r q
end
structure aD (N P:List Str) (sc:Scope):Prop where
 kind:sc.kind= .function
 co:sc.isCoroutine=false
 gen:sc.isGenerator=false
 nd:N.Nodup
 pre:N.take P.length=P
 par:∀ x∈P,sc.names.lookup x=some .local\/sc.names.lookup x=some .cell
 nofree:∀ y∈sc.names,y.2≠.free
theorem vf {kindOf:Str->Option NameKind} {x:Str}:∀ {binds:List (Str×Value)} {m:Str->Option Value},(∀ v,(x,v) ∉ binds)->bindL kindOf binds m x=m x
 | [],_,_=>rfl
 | (n,v) :: r,m,h=>by
  unfold bindL
  rw [vf fun w hw=>h w (List.mem_cons_of_mem _ hw)]
  split
  ·have:x≠n:=by rintro rfl;exact h v List.mem_cons_self
   simp [this]
  ·rfl
theorem vg {kindOf:Str->Option NameKind} {x:Str}:∀ {binds:List (Str×Value)} {m:Str->Option Value},(∀ v,(x,v) ∉ binds)->bindC kindOf binds m x=m x
 | [],_,_=>rfl
 | (n,v) :: r,m,h=>by
  unfold bindC
  rw [vg fun w hw=>h w (List.mem_cons_of_mem _ hw)]
  split
  ·rfl
  ·have:x≠n:=by rintro rfl;exact h v List.mem_cons_self
   simp [this]
theorem vh {kindOf:Str->Option NameKind} {x:Str} {v:Value}:∀ {P:List Str} {vs:List Value} {i:Nat} {m:Str->Option Value},P.Nodup->P[i]?=some x->vs[i]?=some v->kindOf x=some .local->
  bindL kindOf (P.zip vs) m x=some v
 | [],_,_,_,_,h,_,_=>by simp at h
 | _ :: _,[],_,_,_,_,h,_=>by simp at h
 | p :: P,w :: vs,0,m,nd,h1,h2,hk=>by
  simp at h1 h2;subst h1;subst h2
  show bindL kindOf ((p,w) :: P.zip vs) m p=_
  unfold bindL
  rw [vf fun v hv=>(List.nodup_cons.mp nd).1 (List.of_mem_zip hv).1,if_pos hk]
  simp
 | p :: P,w :: vs,i+1,m,nd,h1,h2,hk=>by
  show bindL kindOf ((p,w) :: P.zip vs) m x=_
  unfold bindL
  exact vh (i:=i) (List.nodup_cons.mp nd).2 (by simpa using h1) (by simpa using h2) hk
theorem vm {kindOf:Str->Option NameKind} {x:Str} {v:Value}:∀ {P:List Str} {vs:List Value} {i:Nat} {m:Str->Option Value},P.Nodup->P[i]?=some x->vs[i]?=some v->kindOf x≠some .local->
  bindC kindOf (P.zip vs) m x=some v
 | [],_,_,_,_,h,_,_=>by simp at h
 | _ :: _,[],_,_,_,_,h,_=>by simp at h
 | p :: P,w :: vs,0,m,nd,h1,h2,hk=>by
  simp at h1 h2;subst h1;subst h2
  show bindC kindOf ((p,w) :: P.zip vs) m p=_
  unfold bindC
  rw [vg fun v hv=>(List.nodup_cons.mp nd).1 (List.of_mem_zip hv).1,if_neg hk]
  simp
 | p :: P,w :: vs,i+1,m,nd,h1,h2,hk=>by
  show bindC kindOf ((p,w) :: P.zip vs) m x=_
  unfold bindC
  exact vm (i:=i) (List.nodup_cons.mp nd).2 (by simpa using h1) (by simpa using h2) hk
def start (N:List Str) (vs:List V):St:=vs.map some ++ List.replicate (N.length - vs.length) none
def qM (CX:Fp) (P:Program) (w:World) (K:W.Frag) (mg:Str->Option Value) (base:Heap) (N:List Str) (qual:Str) (scope:Scope) (f:Addr) (cd:Value) (A:Around) (outer:List Env) (s:Shared) (H:Hp) (E:XK):Cx where
 prog:=P
 w:=w
 K:=K
 mg:=mg
 base:=base
 A:=A.deeper (envOfC qual scope s.heap.objs.size f cd)
 N:=N
 s₀:=s
 H₀:=H
 env:=envOfC qual scope s.heap.objs.size f cd
 outer:=outer
 stack:=envOfC qual scope s.heap.objs.size f cd :: outer
 ex:=[]
 calm:=true
 fn:=fun _=>true
 pn:=[]
 xe:=fun e s'=>wpAny (model P w) (A.deeper (envOfC qual scope s.heap.objs.size f cd)) (leaving (envOfC qual scope s.heap.objs.size f cd) e) (fun _ s''=>CX outer H s E e s'') (fun e' s''=>CX outer H s E e' s'') s'
theorem xj {sc:Scope} {n:Nat} {x:Str} (h:sc.names.lookup x=some .cell):∃ c,(cellsFrom n sc.names []).lookup x=some c:=by
 have q:=PySem.W.cellsFrom_some sc.names n [] (.inl h)
 exact Option.isSome_iff_exists.mp q
theorem CZ {CX:Fp} {P:Program} {w:World} {K:W.Frag} {mg:Str->Option Value} {base:Heap} {N ps:List Str} {qual:Str} {scope:Scope} {f:Addr} {cd:Value} {A:Around} {outer:List Env} {s s1:Shared} {H:Hp} {E:XK} {us:List Value} {vs:List V}
  (S:aD N ps scope) (hd:A.handled=none) (e0:Env0 P w K mg base A outer s H) (hl:vs.length=ps.length) (r:Vals vs us)
  (x:InCallC s s.heap.objs.size (bindL (envOfC qual scope s.heap.objs.size f cd).kindOf (ps.zip us) fun _=>none) (cellsFrom (s.heap.objs.size+1) scope.names []) (bindC (envOfC qual scope s.heap.objs.size f cd).kindOf (ps.zip us) fun _=>none) s1):
  Inv (qM CX P w K mg base N qual scope f cd A outer s H E) [] (start N vs) H s1:=by
 have hpl:ps.length<=N.length:=by have:=congrArg List.length S.pre;rw [List.length_take] at this;omega
 obtain ⟨h1,tk,rfl,hk⟩:=x.done
 have noA:∀ b:Addr,b ∉ (qM CX P w K mg base N qual scope f cd A outer s H E).ex:=fun b z=>absurd (show b∈([]:List Addr) from z) (by simp)
 refine ⟨⟨e0.mod,S.kind,rfl,rfl,Nat.le_refl _,fun y z c h1 h2=>?_,fun y hy=>?_,fun y c _ h=>?_,fun _=>hd,Around.frames_deeper e0.frames,.inr ⟨rfl,rfl⟩,fun b z=>absurd z (noA b),e0.bs,e0.bsz,fun b _ _=>noA b,fun b z=>absurd z (noA b),e0.funs,e0.frf⟩,
  rfl,e0.bare,Un.kept hk,⟨_,x.toInCall.ns,fun i y v h1 h2 h3=>?_⟩,fun y c h=>⟨_,x.cell y c h⟩,e0.hok.fresh (Nat.le_refl _),fun y c h=>?_,fun p hp=>absurd (show p∈([]:List (Addr×Obj)) from hp) (by simp),e0.hok.kept hk,?_⟩
 ·exact name_of_addr x.apart (PySem.mem_of_lookup h1) (PySem.mem_of_lookup h2)
 ·have hy:scope.names.lookup y=some .cell\/scope.names.lookup y=some .free:=hy
  rcases hy with hy | hy
  ·exact xj hy
  ·exact absurd rfl (S.nofree _ (PySem.mem_of_lookup hy))
 ·exact Nat.le_of_lt (x.above y c (PySem.mem_of_lookup h))
 ·have hi:i < vs.length:=by
   unfold start at h2
   by_cases hi:i < vs.length
   ·exact hi
   ·rw [List.getElem?_append_right (by simpa using hi)] at h2
    rw [List.getElem?_replicate] at h2
    split at h2 <;> cases h2
  have ha:vs[i]?=some v:=by
   unfold start at h2
   rw [List.getElem?_append_left (by simpa using hi),List.getElem?_map] at h2
   cases e:vs[i]? with
   | none=>rw [e] at h2;cases h2
   | some a=>rw [e] at h2;cases h2;rfl
  obtain ⟨u,hu,rv⟩:=r.get ha
  have hp:ps[i]?=some y:=by
   rw [← S.pre,List.getElem?_take_of_lt (by omega)];exact h1
  have ndP:ps.Nodup:=by rw [← S.pre];exact S.nd.sublist (List.take_sublist _ _)
  refine ⟨u,rv,?_⟩
  rcases S.par y (List.mem_of_getElem? hp) with k | k
  ·exact .inl ⟨k,vh ndP hp hu k⟩
  ·obtain ⟨c,e⟩:=xj (n:=s.heap.objs.size+1) k
   refine .inr ⟨.inl k,c,e,?_⟩
   have q:=x.cell y c e
   rw [vm ndP hp hu (by show scope.names.lookup y≠_;rw [k];decide)] at q
   exact q
 ·exact e0.hok.fresh (Nat.le_of_lt (x.above y c (PySem.mem_of_lookup h)))
 ·unfold start
  show _=N.length
  rw [List.length_append,List.length_map,List.length_replicate]
  omega
theorem Ow {CX:Fp} {P:Program} {w:World} {K:W.Frag} {mg:Str->Option Value} {base:Heap} {k:Nat} {f:Addr} {name qual:Str} {params:Arguments} {body:List Stmt} {scope:Scope} {dV kV doc pm cdv ct oc:Value} {an od:Option Addr}
  {osl:Array (Option Value)} {N ps:List Str} {sp:Sp} (lk:K.lookup f=some ⟨oc,od,.func (PySem.W.fnOf name qual params body scope dV kV doc pm an cdv ct),osl⟩) (hcd:PySem.W.codeIn K cdv qual=true) (S:aD N ps scope)
  (len:∀ vs H Q E,sp vs H Q E->vs.length=ps.length)
  (hbody:∀ (A:Around) (outer:List Env) (s:Shared) (H:Hp) (vs:List V) (Q:VK) (E:XK),Room k (A.deeper (envOfC qual scope s.heap.objs.size f cdv))->sp vs H Q E->
   ∃ t,PSs (qM CX P w K mg base N qual scope f cdv A outer s H E) body t/\t {nx:=fun _ H'=>Q .non H',rt:=Q} (start N vs) H):
  rT P w K mg base CX (k+1) f (PySem.W.fnOf name qual params body scope dV kV doc pm an cdv ct) ps sp:=by
 refine ⟨len,fun A outer s H args us vs Q E hr e0 hb r hsp=>?_⟩
 have hl:=len _ _ _ _ hsp
 have KX:K.In s.heap:=e0.mod.kin.keeps fun b o e=>(e0.bs b o e).1
 have lim:s.heap.NoLimit:=e0.mod.nolimit.keeps fun b o e=>(e0.bs b o e).1
 have hkind:∀ y∈ps.zip us,scope.names.lookup y.1=some .local\/(scope.names.lookup y.1=some .cell/\((cellsFrom (s.heap.objs.size+1) scope.names []).lookup y.1).isSome=true):=fun ⟨n,v⟩ hy=>by
  rcases S.par n (List.of_mem_zip hy).1 with q | q
  ·exact .inl q
  ·exact .inr ⟨q,PySem.W.cellsFrom_some _ _ _ (.inl q)⟩
 refine codeAny_call_function hr.depth (KX _ _ lk) rfl S.co S.gen rfl (PySem.W.codeRec_of KX hcd) (hb _ _ _ _ ?_)
 refine wpAny_newFunctionEnv_cells S.kind hkind fun env he s1 x=>?_
 subst he
 refine ⟨lim.keeps x.toInCall.keep,codeAny_func ?_⟩
 obtain ⟨t,ht,hq⟩:=hbody A outer s H vs Q E (hr.deeper _) hsp
 have I:Inv (qM CX P w K mg base N qual scope f cdv A outer s H E) [] (start N vs) H s1:=CZ S hr.hd e0 hl r x
 refine wpAny_mono (ht [] s1 (start N vs) H _ I hq) (fun fl s' hs=>?_) fun e s' hs=>hs
 have fin:∀ {U':St} {H':Hp} {v:V} {u:Value},Inv (qM CX P w K mg base N qual scope f cdv A outer s H E) [] U' H' s'->RelV v u->Q v H'->CE outer P w H s Q u s':=
  fun {U' H' v u} J rv q=>⟨v,H',J.os,J.bare,J.base,J.hok,rv,q⟩
 cases fl with
 | ret u=>
  obtain ⟨v,U',H',J,rv,q⟩:=hs
  exact fin J rv q
 | next=>
  obtain ⟨U',H',J,q⟩:=hs
  exact fin (v:=V.non) (u:=Value.none) J rfl q
 | brk=>
  obtain ⟨_,_,_,q⟩:=hs
  exact False.elim q
 | cont=>
  obtain ⟨_,_,_,q⟩:=hs
  exact False.elim q
section
variable {X:Cx} {x:Str} {p pos:Pos} {e:Expr} {es:List Expr} {t:TA} {id T:String} {r:List V->Hp->VK->Prop}
def QC (r:List V->Hp->VK->Prop) (t:TA):TE:=fun U H Q=>t U H fun vs H1=>r vs H1 Q
theorem Gn (hc:CallR X (.builtin id) r) (hg:Gl X x) (hm:X.mg x=none) (hv:bootBuiltins x=some (.builtin id)) (ha:PA X (e :: es) t) (hn:autoParam (x≠"__name__") L2.auto2._auto_1) (hdb:autoParam ((x == ("__debug__":Str))=false) L2.auto2._auto_1)
  (he:autoParam (starEach (e :: es) X.env=(false,eval e X.env) :: starEach es X.env) L2.auto4._auto_1) (hpl:autoParam ((backTo pos (starEach es X.env)).any (·.1)=false) L2.auto4._auto_1):PE X (.Call (.Name x p) (e :: es) [] pos) (QC r t):=by
 intro pins s U H Q I h
 refine wpAny_Call_Name_kw (ik I hg hm hv ?_ hn hdb)
 exact PyProof.Rows.callWith_builtin1 (fM (ha pos pins s U H _ I h) fun us s1 ⟨vs,H1,I1,r1,q1⟩=>hc pins s1 U H1 vs us Q I1 r1 q1) he hpl
theorem Dc (hc:CallR X (.type T) r) (hg:Gl X x) (hm:X.mg x=none) (hv:bootBuiltins x=some (.type T)) (ha:PA X (e :: es) t) (hn:autoParam (x≠"__name__") L2.auto2._auto_1) (hdb:autoParam ((x == ("__debug__":Str))=false) L2.auto2._auto_1)
  (he:autoParam (starEach (e :: es) X.env=(false,eval e X.env) :: starEach es X.env) L2.auto4._auto_1) (hpl:autoParam ((backTo pos (starEach es X.env)).any (·.1)=false) L2.auto4._auto_1):PE X (.Call (.Name x p) (e :: es) [] pos) (QC r t):=by
 intro pins s U H Q I h
 refine wpAny_Call_Name_kw (ik I hg hm hv ?_ hn hdb)
 exact PyProof.Rows.callWith_type1 (fM (ha pos pins s U H _ I h) fun us s1 ⟨vs,H1,I1,r1,q1⟩=>hc pins s1 U H1 vs us Q I1 r1 q1) he hpl
end
end L2
namespace HT
open PySem PyProof.Rows
def lexLt:List Int->List Int->Bool
 | [],[]=>false
 | [],_ :: _=>true
 | _ :: _,[]=>false
 | x :: xs,y :: ys=>if x=y then lexLt xs ys else decide (x < y)
theorem lexLt_cons (x y:Int) (xs ys:List Int):lexLt (x :: xs) (y :: ys)=if x=y then lexLt xs ys else decide (x < y):=rfl
section
open PySem.SeqAt
open PySem.AutoSeq1 (wpAny_loadPart')
open PySem.MeetsSeq PySem.MeetsSeq2 PySem.MeetsSeq3
end
section
variable {prog:Program} {w:World} {A:Around} {E:Value->Shared->Prop} {s:Shared}
def sIx (n d:Nat):Option Int->Nat
 | none=>d
 | some v=>if v < 0 then (v+(n:Int)).toNat else min v.toNat n
theorem sIx_none (n d:Nat):sIx n d none=d:=rfl
theorem sIx_nat (n d k:Nat):sIx n d (some (k:Int))=min k n:=by
 show (if (k:Int) < 0 then ((k:Int)+(n:Int)).toNat else min (k:Int).toNat n)=min k n
 rw [if_neg (by omega),Int.toNat_natCast]
theorem sIx_le (n d:Nat) (hd:d<=n) (o:Option Int):sIx n d o<=n:=by
 cases o with
 | none=>exact hd
 | some v=>
  show (if v < 0 then (v+(n:Int)).toNat else min v.toNat n)<=n
  by_cases hv:v < 0
  ·rw [if_pos hv];omega
  ·rw [if_neg hv];exact Nat.min_le_right _ _
theorem clip_eq (v:Int) (n d:Nat):(if v < 0 then max (v+(n:Int)) 0 else min v (n:Int))=((sIx n d (some v):Nat):Int):=by
 show (if v < 0 then max (v+(n:Int)) 0 else min v (n:Int))=(((if v < 0 then (v+(n:Int)).toNat else min v.toNat n):Nat):Int)
 by_cases hv:v < 0
 ·simp only [if_pos hv];omega
 ·simp only [if_neg hv];omega
theorem zj (lo hi:Option Int) (n:Nat):Builtin.Slice.sliceAdjust lo hi 1 (n:Int)=(((sIx n 0 lo:Nat):Int),((sIx n n hi:Nat):Int)):=by
 have h1:¬ ((1:Int) < 0):=by omega
 unfold Builtin.Slice.sliceAdjust
 simp only [h1,if_false]
 refine Prod.ext ?_ ?_
 ·cases lo with
  | none=>rfl
  | some v=>exact clip_eq v n 0
 ·cases hi with
  | none=>rfl
  | some v=>exact clip_eq v n n
theorem zm (i j:Nat):Builtin.Slice.slicePlaces (i:Int) (j:Int) 1=j - i:=by
 unfold Builtin.Slice.slicePlaces
 have h1:(1:Int) > 0:=by omega
 simp only [h1,if_true,Int.ediv_one]
 split <;> omega
theorem tL {v:Value} {o:Option Int} {Q:Option Int->Shared->Prop} (p:IsPart v o) (h:Q o s):wpAny (model prog w) A (Builtin.Slice.slicePartIndex v) Q E s:=by
 cases p with
 | none=>exact slicePart_none h
 | int i t=>exact slicePart_int h
theorem lC {sl:Addr} {vl vu:Value} {lo hi:Option Int} {n:Nat} {Q:Int×Int×Nat->Shared->Prop} (hs:s.heap.IsSliceOf sl vl vu .none) (pl:IsPart vl lo) (pu:IsPart vu hi)
  (h:Q (((sIx n 0 lo:Nat):Int),1,sIx n n hi - sIx n 0 lo) s):wpAny (model prog w) A (Builtin.Slice.sliceApplied (.ref sl) (pure (n:Int))) Q E s:=by
 obtain ⟨os,hos,hcs,hds⟩:=id hs
 unfold Builtin.Slice.sliceApplied Builtin.Slice.sliceFields
 refine wpAny_bind (wpAny_bind (wpAny_field hos hds (x:=vl) rfl (wpAny_bind (wpAny_field hos hds (x:=vu) rfl (wpAny_bind (wpAny_field hos hds (x:=.none) rfl (wpAny_pure ?_)))))))
 refine wpAny_bind (slicePart_none ?_)
 show wpAny _ _ (if ((1:Int) == 0)=true then _ else _) _ _ s
 rw [if_neg (by decide)]
 refine wpAny_bind (tL pl (wpAny_bind (tL pu (wpAny_bind (wpAny_pure ?_)))))
 show wpAny _ _ (match Builtin.Slice.sliceAdjust lo hi 1 (n:Int) with | (lo,hi)=>pure (lo,(1:Int),Builtin.Slice.slicePlaces lo hi 1)) _ _ s
 rw [zj lo hi n]
 show wpAny _ _ (pure (((sIx n 0 lo:Nat):Int),(1:Int),Builtin.Slice.slicePlaces ((sIx n 0 lo:Nat):Int) ((sIx n n hi:Nat):Int) 1)) _ _ s
 rw [zm]
 exact wpAny_pure h
theorem Gp (xs:Array Value) (i k:Nat):((List.range k).filterMap fun (m:Nat)=>xs[((i:Int)+(m:Int)*1).toNat]?).toArray=((xs.toList.drop i).take k).toArray:=by
 have e:(fun (m:Nat)=>xs[((i:Int)+(m:Int)*1).toNat]?)=fun m=>xs[i+m]?:=by
  funext m
  have:((i:Int)+(m:Int)*1).toNat=i+m:=by omega
  rw [this]
 rw [e]
 have:=pick_run xs i k
 rw [List.filterMap_map] at this
 have e2:((fun x=>xs[x]?) ∘ fun x=>i+x)=fun m=>xs[i+m]?:=rfl
 rw [e2] at this
 rw [this]
theorem getItem_tuple_cut {t sl:Addr} {items:Array Value} {vl vu:Value} {lo hi:Option Int} {Q:Value->Shared->Prop} (ht:IsTup s.heap t items) (hs:s.heap.IsSliceOf sl vl vu .none) (pl:IsPart vl lo) (pu:IsPart vu hi)
  (hw:¬ (sIx items.size 0 lo=0/\sIx items.size items.size hi=items.size))
  (h:Q (.ref s.heap.objs.size) {s with heap:=s.heap.push {cls:=.type "tuple",data:=.seq ((items.toList.drop (sIx items.size 0 lo)).take (sIx items.size items.size hi - sIx items.size 0 lo)).toArray}})
  (hsz:items.size<=sizeLine):wpAny (model prog w) A (getItem (.ref t) (.ref sl)) Q E s:=by
 have htake:sizeOk (.seq ((items.toList.drop (sIx items.size 0 lo)).take (sIx items.size items.size hi - sIx items.size 0 lo)).toArray):=by
  show ((items.toList.drop (sIx items.size 0 lo)).take (sIx items.size items.size hi - sIx items.size 0 lo)).toArray.size<=sizeLine
  rw [List.size_toArray,List.length_take,List.length_drop,Array.length_toList]
  omega
 have hj:sIx items.size items.size hi<=items.size:=sIx_le _ _ (Nat.le_refl _) hi
 obtain ⟨os,hos,hcs,hds⟩:=id hs
 have hTs:s.TypeIs (.ref sl) "slice":=⟨os,hos,hcs⟩
 unfold getItem
 try with_reducible refine wpAny_holding ?_
 first | refine wpAny_bind (wpAny_pure ?_) | skip
 refine wpAny_bind (wpAny_sequenceKey ht.typeIs (by decide) ?_)
 refine wpAny_bind (wpAny_callSpecial?_slot (name:=Str.ofString "__getitem__") ht.typeIs PyProof.Rows.slot_tuple_getitem
  (wpAny_call_entry PyProof.Rows.slot_tuple_getitem ht.typeIs entry_tuple_getitem ?_ (args_tuple_getitem _ _)))
 show wpAny _ _ (Builtin.Tuple.tupleItemsOf (.ref t) >>=_) _ _ s
 refine wpAny_bind (tupleItemsOf_ ht ?_)
 refine wpAny_bind (wpAny_typeOf hTs ?_)
 rw [if_pos (by decide)]
 refine wpAny_bind (lC hs pl pu ?_)
 have hno:¬ ((((sIx items.size 0 lo:Nat):Int) == 0 && (1:Int) == 1 && (sIx items.size items.size hi - sIx items.size 0 lo) == items.size)=true):=by
  intro q
  rw [Bool.and_eq_true,Bool.and_eq_true] at q
  have q1:((sIx items.size 0 lo:Nat):Int)=0:=eq_of_beq q.1.1
  have q2:sIx items.size items.size hi - sIx items.size 0 lo=items.size:=eq_of_beq q.2
  exact hw ⟨by omega,by omega⟩
 show wpAny _ _ (if (((sIx items.size 0 lo:Nat):Int) == 0 && (1:Int) == 1 && (sIx items.size items.size hi - sIx items.size 0 lo) == items.size)=true then _ else _) _ _ s
 rw [if_neg hno,Gp]
 first
  | exact wpAny_bind (m:=Builtin.Tuple.tupleExact _) (wpAny_newObj_type (wpAny_pure ⟨_,rfl,wpAny_pure h⟩) htake)
  | exact wpAny_bind (m:=Builtin.Tuple.tupleExact _) (wpAny_newObj_type (wpAny_bind (wpAny_pure (wpAny_pure ⟨_,rfl,wpAny_pure h⟩))) htake)
  | exact wpAny_bind (wpAny_bind (m:=Builtin.Tuple.tupleExact _) (wpAny_newObj_type (wpAny_pure (wpAny_pure ⟨_,rfl,wpAny_pure h⟩)) htake))
  | exact wpAny_bind (wpAny_bind (m:=Builtin.Tuple.tupleExact _) (wpAny_newObj_type (wpAny_pure ⟨_,rfl,wpAny_pure h⟩) htake))
end
end HT
namespace L2
open PySem PySem.Spec PyProof.Rows
abbrev TO:=St->Hp->(Option Int->Hp->Prop)->Prop
def PO (X:Cx) (e:Option Expr) (t:TO):Prop:=
 ∀ (pins:List (Addr×Obj)) (s:Shared) (U:St) (H:Hp) (Q:Option Int->Hp->Prop),Inv X pins U H s->t U H Q->
  wpAny (model X.prog X.w) X.A (evalPart e X.env) (fun u s'=>∃ o H',Inv X pins U H' s'/\IsPart u o/\Q o H') X.xe s
def vW:TO:=fun _ H Q=>Q none H
def Gq (t:TE):TO:=fun U H Q=>t U H fun x H1=>∃ i,x= .int i/\Q (some i) H1
theorem intsAre_of {ns:List Int}:∀ {us:List Value},Vals (ns.map V.int) us->IntsAre us ns:=by
 induction ns with
 | nil=>intro us r;rw [List.map_nil] at r;cases r;exact .nil
 | cons n ns ih=>
  intro us r
  rw [List.map_cons] at r
  cases r with
  | cons r1 r2=>
   obtain ⟨t,e⟩:=r1
   subst e
   exact .cons n t (ih r2)
section
variable {X:Cx} {e:Expr} {te:TE} {lo hi:Option Expr} {tl th:TO} {pos p2:Pos}
theorem Kv:PO X none vW:=by
 intro pins s U H Q I h
 rw [evalPart_none]
 exact wpAny_pure ⟨none,H,I,.none,h⟩
theorem Kw (h:PE X e te):PO X (some e) (Gq te):=by
 intro pins s U H Q I hw
 rw [evalPart_some]
 refine fM (h pins s U H _ I hw) fun u s1 qq0=>?_
 obtain ⟨x,H1,I1,r1,q1⟩:=qq0
 obtain ⟨i,rfl,q⟩:=q1
 obtain ⟨t,rfl⟩:=r1
 exact ⟨some i,H1,I1,.int i t,q⟩
def SlR (X:Cx) (r:V->Option Int->Option Int->Hp->VK->Prop):Prop:=
 ∀ (pins:List (Addr×Obj)) (s:Shared) (U:St) (H:Hp) (x:V) (v vl vu:Value) (lo hi:Option Int) (sl:Addr) (Q:VK),Inv X pins U H s->RelV x v->s.heap.IsSliceOf sl vl vu .none->IsPart vl lo->IsPart vu hi->r x lo hi H Q->
  ∃ T id,typeLookup (.type T) "__getitem__"=pure (some (.builtin id))/\s.TypeIs v T/\wpAny (model X.prog X.w) X.A (getItem v (.ref sl)) (EP X pins U Q) X.xe s
theorem SlR.or {r r':V->Option Int->Option Int->Hp->VK->Prop} (h:SlR X r) (h':SlR X r'):SlR X (fun x lo hi H Q=>r x lo hi H Q\/r' x lo hi H Q):=by
 intro pins s U H x v vl vu lo hi sl Q I rx hs pl pu q
 rcases q with q | q
 ·exact h pins s U H x v vl vu lo hi sl Q I rx hs pl pu q
 ·exact h' pins s U H x v vl vu lo hi sl Q I rx hs pl pu q
def tSl (r:V->Option Int->Option Int->Hp->VK->Prop) (te:TE) (tl th:TO):TE:=fun U H Q=>te U H fun x H1=>tl U H1 fun l H2=>th U H2 fun u H3=>r x l u H3 Q
theorem Gr {r:V->Option Int->Option Int->Hp->VK->Prop} (hr:SlR X r) (he:PE X e te) (hl:PO X lo tl) (hu:PO X hi th):PE X (.Subscript e (.Slice lo hi none p2) pos) (tSl r te tl th):=by
 intro pins s U H Q I h
 refine Subscript_ (fM (he pins s U H _ I h) fun v s1 qq0=>?_)
 obtain ⟨x,H1,I1,r1,q1⟩:=qq0
 refine wpAny_Slice (fM (hl pins s1 U H1 _ I1 q1) fun vl s2 ⟨l,H2,I2,pl,q2⟩=>fM (hu pins s2 U H2 _ I2 q2) fun vu s3 qq0=>?_)
 obtain ⟨u,H3,I3,pu,q3⟩:=qq0
 rw [evalPart_none]
 refine wpAny_pure ?_
 have I4:Inv X pins U H3 {s3 with heap:=s3.heap.push {cls:=.type "slice",data:=.fields #[vl,vu,.none]}}:=I3.kept (t':=s3.toks) fun b ob q=>Heap.get?_push_of_some _ q
 obtain ⟨T,id,hT,ht,hg⟩:=hr pins {s3 with heap:=s3.heap.push {cls:=.type "slice",data:=.fields #[vl,vu,.none]}} U H3 x v vl vu l u s3.heap.objs.size Q I4 r1 (Heap.IsSliceOf.new ..) pl pu q3
 show wpAny (model X.prog X.w) X.A (subscriptTail e (.Slice lo hi none p2) v (.ref s3.heap.objs.size)) (EP X pins U Q) X.xe {s3 with heap:=s3.heap.push {cls:=.type "slice",data:=.fields #[vl,vu,.none]}}
 exact tail_any (ops:=[.ref s3.heap.objs.size,v]) ht hT hg (by with_unfolding_all rfl)
def rW (xs:List V) (lo hi:Option Int):List V:=(xs.drop (HT.sIx xs.length 0 lo)).take (HT.sIx xs.length xs.length hi - HT.sIx xs.length 0 lo)
theorem rH (xs:List V) (lo hi:Option Int):(rW xs lo hi).length<=xs.length:=by
 unfold rW
 rw [List.length_take,List.length_drop]
 omega
def U9 (K:W.Frag):V->Option Int->Option Int->Hp->VK->Prop:=fun x lo hi H Q=>∃ a xs,x= .ref a/\SqT K H a xs/\
 ¬ (HT.sIx xs.length 0 lo=0/\HT.sIx xs.length xs.length hi=xs.length)/\∀ p,H p=none->Q (.ref p) (upd H p (.tup (rW xs lo hi)))
theorem QD:SlR X (U9 X.K):=by
 intro pins s U H x v vl vu lo hi sl Q I rx hs pl pu h
 obtain ⟨a,xs,rfl,hx,hw,q⟩:=h
 cases rx
 obtain ⟨its,r,ht,hz⟩:=I.tuple hx
 have hlen:its.toArray.size=xs.length:=by rw [List.size_toArray];exact r.length.symm
 refine ⟨"tuple",_,PyProof.Rows.slot_tuple_getitem.lookup,ht.typeIs,?_⟩
 refine HT.getItem_tuple_cut ht hs pl pu (by rw [hlen];exact hw) ?_ (by rw [hlen];exact hz)
 rw [hlen]
 refine ⟨.ref s.heap.objs.size,_,I.laid (t':=s.toks) (o:=.tup (rW xs lo hi)) (fun b ob q=>Heap.get?_push_of_some _ q) (Nat.le_refl _) ?_,rfl,q _ (I.hok.fresh (Nat.le_refl _))⟩
 exact ⟨Nat.le_trans (rH xs lo hi) hz,_,(r.drop (HT.sIx xs.length 0 lo)).take (HT.sIx xs.length xs.length hi - HT.sIx xs.length 0 lo),IsTup.new _ _⟩
end
def Fq (n:Nat) (i:Int):Option Nat:=if 0<=i then (if i < n then some i.toNat else none) else if -(n:Int)<=i then some (i+n).toNat else none
def wX {α:Type} (xs:List α) (i:Int):Option α:=(Fq xs.length i).bind fun j=>xs[j]?
theorem Be {n:Nat} {i:Int} {j:Nat} (h:Fq n i=some j):seqIndex? i n=some j/\j < n/\-(n:Int)<=i/\i < n:=by
 unfold Fq at h
 by_cases h0:0<=i
 ·rw [if_pos h0] at h
  by_cases h1:i < n
  ·rw [if_pos h1] at h
   have e:i.toNat=j:=Option.some.inj h
   exact ⟨by rw [seqIndex_of h0 h1,e],by omega,by omega,h1⟩
  ·rw [if_neg h1] at h;cases h
 ·rw [if_neg h0] at h
  by_cases h1: -(n:Int)<=i
  ·rw [if_pos h1] at h
   have e:(i+n).toNat=j:=Option.some.inj h
   exact ⟨by rw [seqIndex_neg (by omega) h1,e],by omega,h1,by omega⟩
  ·rw [if_neg h1] at h;cases h
theorem vX {α:Type} {xs:List α} {i:Int} {v:α} (h:wX xs i=some v):∃ j,seqIndex? i xs.length=some j/\xs[j]?=some v/\j < xs.length/\-(xs.length:Int)<=i/\i < xs.length:=by
 unfold wX at h
 cases e:Fq xs.length i with
 | none=>rw [e] at h;cases h
 | some j=>
  rw [e] at h
  obtain ⟨h1,h2,h3,h4⟩:=Be e
  exact ⟨j,h1,h,h2,h3,h4⟩
theorem cu {α:Type} {xs:List α} {j:Nat} {v:α} (h:xs[j]?=some v):wX xs (j:Int)=some v:=by
 have hj:j < xs.length:=(List.getElem?_eq_some_iff.mp h).1
 have e:Fq xs.length (j:Int)=some j:=by
  unfold Fq
  rw [if_pos (by omega),if_pos (by omega)];simp
 unfold wX;rw [e];exact h
def Bf (b:Expr):Prop:=∀ o i,subscripted b false o i=operate [o,i] (getItem o i)
def IxR (X:Cx) (r:R2):Prop:=
 ∀ (value slice:Expr) (pins:List (Addr×Obj)) (s:Shared) (U:St) (H:Hp) (x y:V) (v u:Value) (Q:VK),Inv X pins U H s->RelV x v->RelV y u->r x y H Q->
  subscripted slice false v u=operate [v,u] (getItem v u)->wpAny (model X.prog X.w) X.A (subscriptTail value slice v u) (EP X pins U Q) X.xe s
def Va (X:Cx) (id:String) (r:V->List V->Hp->VK->Prop):Prop:=
 ∀ (pins:List (Addr×Obj)) (s:Shared) (U:St) (H:Hp) (x:V) (xs:List V) (v:Value) (us:List Value) (Q:VK),Inv X pins U H s->RelV x v->Vals xs us->r x xs H Q->
  wpAny (model X.prog X.w) X.A (call (.builtin id) (v :: us)) (EP X pins U Q) X.xe s
section
variable {X:Cx} {a b:Expr} {ta tb:TE} {pos:Pos}
theorem IxR.or {r r':R2} (h:IxR X r) (h':IxR X r'):IxR X (fun x y H Q=>r x y H Q\/r' x y H Q):=by
 intro value slice pins s U H x y v u Q I rx ry q hs
 rcases q with q | q
 ·exact h value slice pins s U H x y v u Q I rx ry q hs
 ·exact h' value slice pins s U H x y v u Q I rx ry q hs
theorem Vb {r:R2} (hr:IxR X r) (ha:PE X a ta) (hb:PE X b tb) (hs:Bf b):PE X (.Subscript a b pos) (JL r ta tb):=by
 intro pins s U H Q I h
 exact Subscript_ (Qo ha hb I h fun v u s2 x y H2 I2 rx ry q=>hr a b pins s2 U H2 x y v u Q I2 rx ry q (hs _ _))
def Vc (K:W.Frag):R2:=fun x y H Q=>∃ p xs i v,x= .ref p/\y= .int i/\SqL K H p xs/\wX xs i=some v/\Q v H
def Vd (K:W.Frag):R2:=fun x y H Q=>∃ p xs i v,x= .ref p/\y= .int i/\SqT K H p xs/\wX xs i=some v/\Q v H
def Ve:R2:=fun x y H Q=>∃ z i c,x= .str z/\y= .int i/\z.length<=sizeLine/\wX z.cps.toList i=some c/\Q (.str ⟨#[c]⟩) H
theorem Ky:IxR X (Vc X.K):=by
 intro value slice pins s U H x y v u Q I rx ry h hs
 obtain ⟨p,xs,i,z,rfl,rfl,hq,he,q⟩:=h
 cases rx
 obtain ⟨t,rfl⟩:=ry
 obtain ⟨its,r,pl,hz⟩:=I.list hq
 obtain ⟨j,h1,h2,h3,h4,h5⟩:=vX he
 obtain ⟨w,ew,rw'⟩:=r.get h2
 have hl:=r.length
 have hn:=tH
 have fin:EP X pins U Q w s:=⟨z,H,I,rw',q⟩
 by_cases h0:0<=i
 ·have hj:i.toNat=j:=by
   rw [seqIndex_of h0 h5] at h1
   exact Option.some.inj h1
  exact item_listR pl.isList h0 (by omega) (by rw [hj];simpa using ew) fin hs
 ·have hj:(i+(its.toArray.size:Int)).toNat=j:=by
   rw [seqIndex_neg (by omega) h4] at h1
   rw [List.size_toArray,← hl]
   exact Option.some.inj h1
  exact subscriptTail_builtinR (x:=w) pl.isList.typeIs slot_list_getitem.lookup
   (wpAny_getItem_list_neg (Q:=fun r s'=>r=w/\EP X pins U Q r s') pl.isList (by omega) (by rw [List.size_toArray] <;> omega) (by omega) (by rw [hj];simpa using ew) ⟨rfl,fin⟩) hs
theorem QF:IxR X (Vd X.K):=by
 intro value slice pins s U H x y v u Q I rx ry h hs
 obtain ⟨p,xs,i,z,rfl,rfl,hq,he,q⟩:=h
 cases rx
 obtain ⟨t,rfl⟩:=ry
 obtain ⟨its,r,pl,hz⟩:=I.tuple hq
 obtain ⟨j,h1,h2,h3,h4,h5⟩:=vX he
 obtain ⟨w,ew,rw'⟩:=r.get h2
 have hl:=r.length
 have hn:=tH
 have fin:EP X pins U Q w s:=⟨z,H,I,rw',q⟩
 exact subscriptTail_builtinR (x:=w) pl.typeIs slot_tuple_getitem.lookup
  (getItem_tuple (j:=j) (Q:=fun r s'=>r=w/\EP X pins U Q r s') pl (by omega) (by omega) (by rw [List.size_toArray,← hl];exact h1) (by simpa using ew) ⟨rfl,fin⟩) hs
theorem QG:IxR X Ve:=by
 intro value slice pins s U H x y v u Q I rx ry h hs
 obtain ⟨z,i,c,rfl,rfl,hz,he,q⟩:=h
 obtain ⟨t,rfl⟩:=rx
 obtain ⟨t',rfl⟩:=ry
 obtain ⟨j,h1,h2,h3,h4,h5⟩:=vX he
 have hl:z.cps.toList.length=z.length:=by simp [Str.length]
 rw [hl] at h1 h4 h5
 have hn:=tH
 exact tail_any (typeIs_str s z t) slot_str_getitem.lookup (getItem_str (c:=c) (by
  have e1:decide (i < -(2 ^ 63:Int))=false:=decide_eq_false (by omega)
  have e2:decide (i>=2 ^ 63)=false:=decide_eq_false (by omega)
  rw [e1,e2,Bool.or_false]) (by rw [h1];simpa using h2) ⟨.str ⟨#[c]⟩,H,I.tok _,⟨_,rfl⟩,q⟩) hs
def QH (K:W.Frag):R2:=fun x y H Q=>Vc K x y H Q\/Vd K x y H Q\/Ve x y H Q
theorem QJ:IxR X (QH X.K):=Ky.or (QF.or QG)
theorem zp (its:List Value) (n j:Nat) (u:Value):Obj.mapSeq (·.setIfInBounds j u) {cls:=.type "list",data:=.seq its.toArray n}={cls:=.type "list",data:=.seq (its.set j u).toArray n}:=by
 simp [Obj.mapSeq]
theorem Inv.lst {pins:List (Addr×Obj)} {U:St} {H:Hp} {s:Shared} {p:Addr} {xs:List V} (I:Inv X pins U H s) (h:H p=some (.lst xs)):
  ∃ (its:List Value) (n:Nat),Vals xs its/\s.heap.get? p=some {cls:=.type "list",data:=.seq its.toArray n}/\xs.length<=sizeLine:=by
 obtain ⟨z,its,n,r,e⟩:=I.hok p _ h
 exact ⟨its,n,r,e,z⟩
theorem Inv.lstUpd {pins:List (Addr×Obj)} {U:St} {H:Hp} {s:Shared} {p:Addr} {xs ys:List V} {its its':List Value} {n n':Nat} {f:Obj->Obj} (I:Inv X pins U H s) (h:H p=some (.lst xs))
  (ho:s.heap.get? p=some {cls:=.type "list",data:=.seq its.toArray n}) (hf:f {cls:=.type "list",data:=.seq its.toArray n}={cls:=.type "list",data:=.seq its'.toArray n'}) (r:Vals ys its') (hz:ys.length<=sizeLine) (t:Nat):
  Inv X pins U (upd H p (.lst ys)) {s with heap:=s.heap.update p f,toks:=t}:=by
 have e:(s.heap.update p f).get? p=some {cls:=.type "list",data:=.seq its'.toArray n'}:=by
  rw [Heap.get?_update_self f ho (by rw [hf] <;> rfl),hf]
 refine I.write (x:=p) (e:=p) (by rw [h];trivial) (.inl rfl) (fun b u hb q=>(Heap.get?_update_other _ _ (Ne.symm hb)).trans q) ⟨_,e⟩ ?_
 exact ⟨hz,its',n',r,e⟩
def xm:V->V->V->Hp->(Hp->Prop)->Prop:=fun o i v H Q=>∃ p xs k j,o= .ref p/\i= .int k/\H p=some (.lst xs)/\Fq xs.length k=some j/\Q (upd H p (.lst (xs.set j v)))
theorem set_list:JZ X xm:=by
 intro pins s U H o i v ov iv u Q I ro ri rv h
 obtain ⟨p,xs,k,j,rfl,rfl,hp,hj,q⟩:=h
 cases ro
 obtain ⟨t,rfl⟩:=ri
 obtain ⟨its,n,r,ho,hz⟩:=I.lst hp
 obtain ⟨h1,h2,h3,h4⟩:=Be hj
 have hl:=r.length
 have hn:=tH
 have I':Inv X pins U (upd H p (.lst (xs.set j v))) {s with heap:=s.heap.update p (Obj.mapSeq (·.setIfInBounds j u))}:=
  I.lstUpd hp ho (zp its n j u) (r.set rv j) (by rw [List.length_set];exact hz) s.toks
 by_cases h0:0<=k
 ·have hk:k.toNat=j:=by
   rw [seqIndex_of h0 h4] at h1
   exact Option.some.inj h1
  exact PySem.W.ki_setAt ho h0 (by omega) (by rw [List.size_toArray,← hl];exact h4) (by rw [hk];exact ⟨_,I',q⟩)
 ·have hk:(k+(its.toArray.size:Int)).toNat=j:=by
   rw [seqIndex_neg (by omega) h3] at h1
   rw [List.size_toArray,← hl]
   exact Option.some.inj h1
  exact PySem.W.ki_setBack ho (by omega) (by rw [List.size_toArray,← hl];exact h3) (by omega) (by rw [hk];exact ⟨_,I',q⟩)
theorem vY (lo hi:Option Int) (n:Nat):(sliceBounds lo hi none n).1=((HT.sIx n 0 lo:Nat):Int)/\(sliceBounds lo hi none n).2.1=((HT.sIx n n hi:Nat):Int)/\(sliceBounds lo hi none n).2.2=1:=by
 refine ⟨?_,?_,rfl⟩
 ·cases lo with
  | none=>simp [sliceBounds,HT.sIx]
  | some i=>
   simp only [sliceBounds,HT.sIx,Option.getD_none,show (1:Int) > 0 by decide,if_true]
   by_cases h:i < 0
   ·simp only [h,if_true] <;> omega
   ·simp only [h,if_false] <;> omega
 ·cases hi with
  | none=>simp [sliceBounds,HT.sIx]
  | some i=>
   simp only [sliceBounds,HT.sIx,Option.getD_none,show (1:Int) > 0 by decide,if_true]
   by_cases h:i < 0
   ·simp only [h,if_true] <;> omega
   ·simp only [h,if_false] <;> omega
theorem uL (its:List Value) (lo hi:Option Int):slicePick its.toArray lo hi none=((its.drop (HT.sIx its.length 0 lo)).take (HT.sIx its.length its.length hi - HT.sIx its.length 0 lo)).toArray:=by
 obtain ⟨h1,h2,h3⟩:=vY lo hi its.toArray.size
 unfold slicePick
 rw [h1,h2,h3]
 simp only [sliceRange_one,pick_run,List.size_toArray] <;> rfl
def Vf (K:W.Frag):V->Option Int->Option Int->Hp->VK->Prop:=fun x lo hi H Q=>∃ a xs,x= .ref a/\SqL K H a xs/\∀ p,H p=none->Q (.ref p) (upd H p (.lst (rW xs lo hi)))
theorem Kz:SlR X (Vf X.K):=by
 intro pins s U H x v vl vu lo hi sl Q I rx hs pl pu h
 obtain ⟨a,xs,rfl,hx,q⟩:=h
 cases rx
 obtain ⟨its,r,ht,hz⟩:=I.list hx
 have hlen:=r.length
 refine ⟨"list",_,slot_list_getitem.lookup,ht.isList.typeIs,?_⟩
 refine wpAny_getItem_list_slice ht.isList hs pl pu .none (by simp) ?_ (by rw [List.size_toArray] <;> omega)
 rw [uL,← hlen]
 refine ⟨.ref s.heap.objs.size,_,I.laid (t':=s.toks) (o:=.lst (rW xs lo hi)) (fun b ob q=>Heap.get?_push_of_some _ q) (Nat.le_refl _) ?_,rfl,q _ (I.hok.fresh (Nat.le_refl _))⟩
 exact ⟨Nat.le_trans (rH xs lo hi) hz,_,0,(r.drop (HT.sIx xs.length 0 lo)).take (HT.sIx xs.length xs.length hi - HT.sIx xs.length 0 lo),Heap.get?_push_size _ rfl⟩
def jZ:V->Bool
 | .non=>true
 | .bl _=>true
 | .int _=>true
 | .str _=>true
 | _=>false
def Bg:V->V->Bool
 | .non,.non=>true
 | .bl a,.bl b=>a == b
 | .bl a,.int b=>(if a then 1 else 0) == b
 | .int a,.bl b=>a == (if b then 1 else 0)
 | .int a,.int b=>a == b
 | .str a,.str b=>a == b
 | _,_=>false
theorem vZ {A:Around} {s:Shared} {y x:V} {u v:Value} (ry:RelV y u) (rx:RelV x v) (fy:jZ y=true) (fx:jZ x=true):SeqAt.EqAt A s u v (Bg y x):=by
 cases y with
 | non=>
  cases ry
  cases x with
  | non=>cases rx;exact SeqAt.EqAt.same _
  | bl b=>cases rx;exact SeqAt.EqAt.none_bool b
  | int b=>obtain ⟨t,rfl⟩:=rx;exact SeqAt.EqAt.none_int b t
  | str b=>obtain ⟨t,rfl⟩:=rx;exact SeqAt.EqAt.none_str b t
  | _=>exact absurd (show false=true from fx) Bool.false_ne_true
 | bl a=>
  cases ry
  cases x with
  | non=>cases rx;exact SeqAt.EqAt.bool_none a
  | bl b=>cases rx;exact SeqAt.EqAt.bool_bool a b
  | int b=>obtain ⟨t,rfl⟩:=rx;exact SeqAt.EqAt.bool_int a b t
  | str b=>obtain ⟨t,rfl⟩:=rx;exact SeqAt.EqAt.bool_str a b t
  | _=>exact absurd (show false=true from fx) Bool.false_ne_true
 | int a=>
  obtain ⟨t',rfl⟩:=ry
  cases x with
  | non=>cases rx;exact SeqAt.EqAt.int_none a t'
  | bl b=>cases rx;exact SeqAt.EqAt.int_bool a t' b
  | int b=>obtain ⟨t,rfl⟩:=rx;exact SeqAt.EqAt.int_int a t' b t
  | str b=>obtain ⟨t,rfl⟩:=rx;exact SeqAt.EqAt.int_str a t' b t
  | _=>exact absurd (show false=true from fx) Bool.false_ne_true
 | str a=>
  obtain ⟨t',rfl⟩:=ry
  cases x with
  | non=>cases rx;exact SeqAt.EqAt.str_none a t'
  | bl b=>cases rx;exact SeqAt.EqAt.str_bool a t' b
  | int b=>obtain ⟨t,rfl⟩:=rx;exact SeqAt.EqAt.str_int a t' b t
  | str b=>obtain ⟨t,rfl⟩:=rx;exact SeqAt.EqAt.str_str a t' b t
  | _=>exact absurd (show false=true from fx) Bool.false_ne_true
 | _=>exact absurd (show false=true from fy) Bool.false_ne_true
def KC (x:V) (u:Value):Bool:=match u with
 | .none=>Bg .non x
 | .bool b=>Bg (.bl b) x
 | .int i _=>Bg (.int i) x
 | .str z _=>Bg (.str z) x
 | _=>false
theorem Gs {x y:V} {u:Value} (r:RelV y u) (f:jZ y=true):KC x u=Bg y x:=by
 cases y with
 | non=>cases r;rfl
 | bl b=>cases r;rfl
 | int i=>obtain ⟨t,rfl⟩:=r;rfl
 | str z=>obtain ⟨t,rfl⟩:=r;rfl
 | _=>exact absurd (show false=true from f) Bool.false_ne_true
theorem v4 {x:V}:∀ {xs:List V} {us:List Value},Vals xs us->xs.all jZ=true->us.any (KC x)=xs.any fun y=>Bg y x
 | _,_,.nil,_=>rfl
 | y :: xs,u :: us,.cons r t,f=>by
  rw [List.all_cons,Bool.and_eq_true] at f
  rw [List.any_cons,List.any_cons,Gs r f.1,v4 t f.2]
theorem tM {A:Around} {s:Shared} {x:V} {v:Value} (rx:RelV x v) (fx:jZ x=true):∀ {xs:List V} {us:List Value},Vals xs us->xs.all jZ=true->∀ u∈us,SeqAt.EqAt A s u v (KC x u)
 | _,_,.nil,_=>fun u hu=>by cases hu
 | y :: xs,u :: us,.cons r t,f=>fun u' hu=>by
  rw [List.all_cons,Bool.and_eq_true] at f
  rcases List.mem_cons.mp hu with rfl | hu
  ·rw [Gs r f.1];exact vZ r rx f.1 fx
  ·exact tM rx fx t f.2 u' hu
def inV (x:V) (xs:List V):Bool:=xs.any fun y=>Bg y x
def rIn (K:W.Frag) (neg:Bool):R2:=fun x y H Q=>∃ p xs,y= .ref p/\(SqL K H p xs\/SqT K H p xs)/\jZ x=true/\xs.all jZ=true/\Q (.bl (if neg then !inV x xs else inV x xs)) H
theorem Dd:OpR X (compareOp .In) (rIn X.K false):=by
 intro pins s U H x y v u Q I rx ry h
 obtain ⟨p,xs,rfl,hq,fx,fs,q⟩:=h
 cases ry
 rcases hq with hq | hq
 ·obtain ⟨its,r,pl,hz⟩:=I.list hq
  refine SeqAt.in_listAt (KC x) pl.isList (fun w hw=>tM rx fx r fs w (by simpa using hw)) ⟨.bl _,H,I,rfl,?_⟩
  rw [show its.toArray.any (KC x)=its.any (KC x) by simp,v4 r fs]
  exact q
 ·obtain ⟨its,r,pl,hz⟩:=I.tuple hq
  refine SeqAt.in_tupleAt (KC x) pl (fun w hw=>tM rx fx r fs w (by simpa using hw)) ⟨.bl _,H,I,rfl,?_⟩
  rw [show its.toArray.any (KC x)=its.any (KC x) by simp,v4 r fs]
  exact q
theorem CallR.or {f:Value} {r r':List V->Hp->VK->Prop} (h:CallR X f r) (h':CallR X f r'):CallR X f (fun xs H Q=>r xs H Q\/r' xs H Q):=by
 intro pins s U H xs us Q I rs q
 rcases q with q | q
 ·exact h pins s U H xs us Q I rs q
 ·exact h' pins s U H xs us Q I rs q
theorem v5:CallR X (.type "list") (fun xs H Q=>∃ p ys,xs=[.ref p]/\(SqL X.K H p ys\/SqT X.K H p ys)/\∀ l,H l=none->Q (.ref l) (upd H l (.lst ys))):=by
 intro pins s U H xs us Q I r h
 obtain ⟨p,ys,rfl,hq,q⟩:=h
 obtain ⟨u,rfl,rx⟩:=vals1 r
 cases rx
 have fin:∀ (its:List Value),Vals ys its->ys.length<=sizeLine->∀ (h':Heap) (c':Nat),(∀ b o',s.heap.get? b=some o'->h'.get? b=some o')->
   h'.get? s.heap.objs.size=some {cls:=.type "list",dict:=none,data:=.seq its.toArray c',slots:=#[]}->EP X pins U Q (.ref s.heap.objs.size) {s with heap:=h'}:=fun its r' hz h' c' kp e=>
  ⟨.ref s.heap.objs.size,_,I.laid (t':=s.toks) kp (Nat.le_refl _) (show ObjOk X.prog X.w _ h' _ (.lst ys) from ⟨hz,its,c',r',e⟩),rfl,q _ (I.hok.fresh (Nat.le_refl _))⟩
 rcases hq with hq | hq
 ·obtain ⟨its,r',pl,hz⟩:=I.list hq
  have hlen:=r'.length
  obtain ⟨o,ho,hc,n,hd⟩:=pl.isList
  exact call_list_seq p (.inl rfl) ho hc hd (fun h' c' kp e=>fin its r' hz h' c' kp e) (by simp only [List.size_toArray] <;> omega)
 ·obtain ⟨its,r',pl,hz⟩:=I.tuple hq
  have hlen:=r'.length
  obtain ⟨o,ho,hc,n,hd⟩:=pl
  exact call_list_seq p (.inr rfl) ho hc hd (fun h' c' kp e=>fin its r' hz h' c' kp e) (by simp only [List.size_toArray] <;> omega)
def tyV (K:W.Frag) (T:String) (x:V) (H:Hp):Prop:=match x with
 | .str _=>T="str"
 | .int _=>T="int"
 | .ref p=>(T="list"/\∃ xs,SqL K H p xs)\/(T="tuple"/\∃ o,K.lookup p=some o/\o.cls= .type "tuple"/\o.dict=none)\/
   (T="dict"/\((∃ kvs,H p=some (.dK kvs))\/∃ kvs,H p=some (.dT kvs)))\/(T="set"/\∃ S n,H p=some (.set S n))
 | _=>False
theorem QK {pins:List (Addr×Obj)} {U:St} {H:Hp} {s:Shared} {T:String} {x:V} {v:Value} (I:Inv X pins U H s) (r:RelV x v) (ty:tyV X.K T x H):
  s.TypeIs v T/\∀ a,v= .ref a->∃ ob,s.heap.get? a=some ob/\ob.dict=none:=by
 cases x with
 | str z=>
  obtain ⟨t,rfl⟩:=r
  cases (show T="str" from ty)
  exact ⟨typeIs_str s z t,fun _ e=>nomatch e⟩
 | int i=>
  obtain ⟨t,rfl⟩:=r
  cases (show T="int" from ty)
  exact ⟨typeIs_int s i t,fun _ e=>nomatch e⟩
 | ref p=>
  cases r
  rcases ty with ⟨rfl,xs,hq⟩ | ⟨rfl,o,hk,hc,hd⟩ | ⟨rfl,hk⟩ | ⟨rfl,S,n,hk⟩
  ·obtain ⟨its,_,pl,_⟩:=I.list hq
   refine ⟨pl.isList.typeIs,fun a e=>?_⟩
   cases e
   obtain ⟨o,n,e,c,hd,_⟩:=pl
   exact ⟨o,e,hd⟩
  ·refine ⟨⟨o,I.kIn p o hk,hc⟩,fun a e=>?_⟩
   cases e
   exact ⟨o,I.kIn _ o hk,hd⟩
  ·have z:∃ o,s.heap.get? p=some o/\o.ExactDict:=by
    rcases hk with ⟨kvs,hk⟩ | ⟨kvs,hk⟩
    ·obtain ⟨_,_,_,_,o,_,_,e,ex,_⟩:=I.hok p _ hk
     exact ⟨o,e,ex⟩
    ·obtain ⟨_,_,_,_,o,_,_,e,ex,_⟩:=I.hok p _ hk
     exact ⟨o,e,ex⟩
   obtain ⟨o,e,ex⟩:=z
   refine ⟨⟨o,e,ex.1⟩,fun a e2=>?_⟩
   cases e2
   exact ⟨o,e,ex.2.1⟩
  ·obtain ⟨o,_,_,_,e,ex,_⟩:=I.hok p _ hk
   refine ⟨⟨o,e,ex.1⟩,fun a e2=>?_⟩
   cases e2
   exact ⟨o,e,ex.2.1⟩
 | _=>exact False.elim ty
def Vg (K:W.Frag) (T:String) (r:V->List V->Hp->VK->Prop) (to:TE) (t:TA):TE:=fun U H Q=>to U H fun x H1=>tyV K T x H1/\t U H1 fun xs H2=>r x xs H2 Q
variable {o e:Expr} {es:List Expr} {to:TE} {t:TA} {name:Str} {apos cpos:Pos} {T id:String} {r:V->List V->Hp->VK->Prop}
theorem Vh (pa:PlainAttrs T) (slot:Slot T name id) (hty:typeOf (.builtin id)=pure (.type "method_descriptor")) (hm:Va X id r) (ho:PE X o to) (ha:PA X (e :: es) t)
  (hbase:autoParam (attributeBase o name X.env (eval o X.env)=eval o X.env) L2.auto4._auto_1)
  (hfew:((backTo cpos (starEach (e :: es) X.env)).all (fun x=>!x.1) && (backToKw cpos (keywordEach [] X.env)).all (fun x=>x.1.isSome)
   && decide ((e :: es).length+([]:List Keyword).length+(if ([]:List Keyword).isEmpty then 0 else 1) < 30))=true:=by rfl)
  (hline:autoParam ((apos.endLine == cpos.line)=true) L2.auto4._auto_1) (hs:autoParam (starEach (e :: es) X.env=(false,eval e X.env) :: starEach es X.env) L2.auto4._auto_1) (hplain:autoParam ((backTo cpos (starEach es X.env)).any (·.1)=false) L2.auto4._auto_1):
  PE X (.Call (.Attribute o name apos) (e :: es) [] cpos) (Vg X.K T r to t):=by
 intro pins s U H Q I h
 refine wpAny_Call_method_late hbase hfew hline rfl (fM (ho pins s U H _ I h) fun v s1 qq0=>?_)
 obtain ⟨x,H1,I1,r1,ty,q1⟩:=qq0
 obtain ⟨h1,h2⟩:=QK I1 r1 ty
 refine ⟨T,id,pa,slot,hty,h1,h2,?_⟩
 have hA:=ha cpos pins s1 U H1 _ I1 q1
 rw [hs] at hA ⊢
 refine Calls.callWith_builtin (by show (false || (backTo cpos (starEach es X.env)).any (·.1))=false;rw [hplain] <;> rfl) (Calls.evalArgs_plain ?_)
 exact fM hA fun us s2 ⟨vs,H2,I2,r2,q2⟩=>hm pins s2 U H2 x vs v us Q I2 r1 r2 q2
end
def MtM (X:Cx) (id:String) (r:V->List V->Hp->VK->Prop):Prop:=
 ∀ (pins:List (Addr×Obj)) (s:Shared) (U:St) (H:Hp) (x:V) (xs:List V) (v:Value) (us:List Value) (Q:VK),Inv X pins U H s->RelV x v->Vals xs us->r x xs H Q->
  wpAny (model X.prog X.w) X.A (call (.builtin id) (v :: us)) (EP X pins U Q) X.xe s
theorem Vals.one:∀ {x:V} {us:List Value},Vals [x] us->∃ u,us=[u]/\RelV x u
 | _,_,.cons r .nil=>⟨_,rfl,r⟩
theorem Vals.reverse {xs:List V} {us:List Value} (h:Vals xs us):Vals xs.reverse us.reverse:=by
 induction h with
 | nil=>exact .nil
 | cons r t ih=>rw [List.reverse_cons,List.reverse_cons];exact Vals.append ih (.cons r .nil)
theorem Vals.rep {xs:List V} {us:List Value} (h:Vals xs us):∀ k:Nat,Vals (List.replicate k xs).flatten (List.replicate k us).flatten
 | 0=>.nil
 | k+1=>by
  rw [List.replicate_succ,List.replicate_succ,List.flatten_cons,List.flatten_cons]
  exact Vals.append h (Vals.rep h k)
theorem foldl_rep (its:List Value):∀ (k:Nat) (acc:List Value),
  List.foldl (fun x1 x2=>x1 ++ x2) acc.toArray (List.replicate k its.toArray)=(acc ++ (List.replicate k its).flatten).toArray
 | 0,acc=>by simp
 | k+1,acc=>by
  have e:acc.toArray ++ its.toArray=(acc ++ its).toArray:=by simp
  have e2:(acc ++ its) ++ (List.replicate k its).flatten=acc ++ (List.replicate (k+1) its).flatten:=by
   rw [List.replicate_succ,List.flatten_cons,List.append_assoc]
  rw [← e2,← foldl_rep its k (acc ++ its),← e,List.replicate_succ,List.foldl_cons]
section
variable {X:Cx} {pins:List (Addr×Obj)} {U:St} {H:Hp} {s:Shared} {l b:Addr} {xs ys zs:List V}
theorem Inv.lset {its its':List Value} {n:Nat} {f:Array Value->Array Value} {t':Nat} (I:Inv X pins U H s) (hH:H l=some (.lst xs))
  (e:s.heap.get? l=some {cls:=.type "list",data:=.seq its.toArray n}) (hf:f its.toArray=its'.toArray) (hv:Vals ys its') (hz:ys.length<=sizeLine):
  Inv X pins U (upd H l (.lst ys)) {s with heap:=s.heap.update l (Obj.mapSeq f),toks:=t'}:=by
 have q:=PySem.IsL.update e f
 rw [hf] at q
 refine I.write (x:=l) (e:=l) (by rw [hH];exact trivial) (.inl rfl) (fun b' u hb hu=>(Heap.get?_update_other s.heap (Obj.mapSeq f) (Ne.symm hb)).trans hu) ⟨_,q⟩ ?_
 exact ⟨hz,its',_,hv,q⟩
theorem Inv.lnew {its:List Value} {t':Nat} (I:Inv X pins U H s) (hv:Vals ys its) (hz:ys.length<=sizeLine):
  Inv X pins U (upd H s.heap.objs.size (.lst ys)) {s with heap:=s.heap.push {cls:=.type "list",data:=.seq its.toArray},toks:=t'}:=
 I.laid (fun _ _ q=>Heap.get?_push_of_some _ q) (Nat.le_refl _) ⟨hz,its,0,hv,Heap.get?_push_size _ rfl⟩
theorem Inv.fresh (I:Inv X pins U H s):H s.heap.objs.size=none:=I.hok.fresh (Nat.le_refl _)
theorem Inv.lstM (I:Inv X pins U H s) (hH:H l=some (.lst xs)):xs.length<=sizeLine/\∃ (its:List Value) (n:Nat),Vals xs its/\xs.length=its.length/\s.heap.get? l=some {cls:=.type "list",data:=.seq its.toArray n}:=by
 obtain ⟨z,its,n,r,e⟩:=I.hok l _ hH
 exact ⟨z,its,n,r,r.length,e⟩
theorem Gu {n:Nat} (h:n<=sizeLine):Builtin.List.listTooLong n=false:=by
 unfold Builtin.List.listTooLong
 exact decide_eq_false (by omega)
end
section
variable {X:Cx}
def Bh:V->List V->Hp->VK->Prop:=fun x vs H Q=>∃ l xs y,x= .ref l/\vs=[y]/\H l=some (.lst xs)/\xs.length < sizeLine/\Q .non (upd H l (.lst (xs ++ [y])))
theorem bw:MtM X "list.append" Bh:=by
 intro pins s U H x vs v us Q I rx rv h
 obtain ⟨l,xs,y,rfl,rfl,hH,hz,q⟩:=h
 cases rx
 obtain ⟨u,rfl,ru⟩:=rv.one
 obtain ⟨z,its,n,r,hl,e⟩:=I.lstM hH
 refine call_meets F.slot_list_append ⟨_,e,rfl⟩ F.entry_list_append (F.args_list_append_2 _ _) (PySem.list_append l its.toArray n u (by rw [List.size_toArray];omega)) ⟨e,?_⟩
 refine ⟨.non,_,I.lset (its':=its ++ [u]) hH e (by simp) (r.append (.cons ru .nil)) ?_,rfl,q⟩
 rw [List.length_append,List.length_singleton]
 omega
def Vi:R2:=fun x y H Q=>∃ l b xs zs,x= .ref l/\y= .ref b/\H l=some (.lst xs)/\H b=some (.lst zs)/\xs.length+zs.length<=sizeLine/\∀ p,H p=none->Q (.ref p) (upd H p (.lst (xs ++ zs)))
theorem QL:OpR X (binaryOp .Add) Vi:=by
 intro pins s U H x y v u Q I rx ry h
 obtain ⟨l,b,xs,zs,rfl,rfl,hH,hB,hz,q⟩:=h
 cases rx
 cases ry
 obtain ⟨z,its,n,r,hl,e⟩:=I.lstM hH
 obtain ⟨z2,its2,n2,r2,hl2,e2⟩:=I.lstM hB
 refine PySem.P.add_list e e2 ?_ (by rw [List.size_toArray,List.size_toArray];omega)
 have ea:its.toArray ++ its2.toArray=(its ++ its2).toArray:=by simp
 rw [ea]
 exact ⟨.ref _,_,I.lnew (t':=s.toks) (r.append r2) (by rw [List.length_append];omega),rfl,q _ I.fresh⟩
def Vj:R2:=fun x y H Q=>∃ l k xs,x= .ref l/\y= .int k/\H l=some (.lst xs)/\-(2 ^ 63)<=k/\k < 2 ^ 63/\xs.length*k.toNat<=sizeLine/\
 ∀ p,H p=none->Q (.ref p) (upd H p (.lst (List.replicate k.toNat xs).flatten))
theorem len_rep {α:Type} (xs:List α) (k:Nat):(List.replicate k xs).flatten.length=k*xs.length:=by
 induction k with
 | zero=>simp
 | succ k ih=>rw [List.replicate_succ,List.flatten_cons,List.length_append,ih,Nat.succ_mul,Nat.add_comm]
theorem QM:OpR X (binaryOp .Mult) Vj:=by
 intro pins s U H x y v u Q I rx ry h
 obtain ⟨l,k,xs,rfl,rfl,hH,h1,h2,hz,q⟩:=h
 cases rx
 obtain ⟨t,rfl⟩:=ry
 obtain ⟨z,its,n,r,hl,e⟩:=I.lstM hH
 have hlen:its.toArray.size*k.toNat<=sizeLine:=by rw [List.size_toArray,← hl];exact hz
 have hcap:¬ its.toArray.size*k.toNat > (2 ^ 63 - 1) / 8:=by
  have:(sizeLine:Nat)<=(2 ^ 63 - 1) / 8:=by decide
  omega
 have hfit:¬ (!Builtin.List.listFitsIndex k)=true:=by
  rw [fitsIndex_both h1 h2]
  exact Bool.false_ne_true
 have hlong:¬ Builtin.List.listTooLong (its.toArray.size*k.toNat)=true:=by
  rw [Gu hlen]
  exact Bool.false_ne_true
 have hnew:List.foldl (fun x1 x2=>x1 ++ x2) #[] (List.replicate (if its.toArray.isEmpty=true then 0 else k.toNat) its.toArray)=(List.replicate k.toNat its).flatten.toArray:=by
  have f0:∀ m:Nat,List.foldl (fun x1 x2=>x1 ++ x2) #[] (List.replicate m its.toArray)=(List.replicate m its).flatten.toArray:=fun m=>by
   have:=foldl_rep its m []
   rw [List.nil_append] at this
   exact this
  rw [f0]
  cases its with
  | nil=>simp
  | cons a r'=>rw [if_neg (by simp)]
 refine wpAny_binaryOp_repeat_ref (T:="list") (U:="int") (by decide) ⟨_,e,rfl⟩ (fun s'=>typeIs_int s' k t) noFill_list_mul F.fills_int_mul F.slot_int_rmul repeat_list F.slot_int_index.lookup
  (call_meets F.slot_int_rmul (typeIs_int s k t) F.entry_int_rmul (F.args_int_rmul_2 _ _) (int___rmul___int_list k t l its.toArray n)
   ⟨e,rfl,⟨_,e,rfl⟩,call_meets F.slot_list_mul ⟨_,e,rfl⟩ F.entry_list_mul (F.args_list_mul_2 _ _) (AutoListH.list___mul___list_int_3 l its.toArray n k t hfit hcap hlong) ⟨e,?_⟩⟩)
 rw [hnew]
 exact ⟨.ref _,_,I.lnew (t':=s.toks) (r.rep k.toNat) (by rw [len_rep,Nat.mul_comm];exact hz),rfl,q _ I.fresh⟩
end
end L2
namespace Att
open PySem PySem.W PySem.Calls PyProof.Rows
theorem rY {P:Params} {h:Heap}:∀ (ns:List Int) (vs:List Value),WellAll P h vs (ns.map WData.int)->IntsAre vs ns:=by
 intro ns
 induction ns with
 | nil=>
  intro vs w
  rw [List.map_nil] at w
  cases w
  exact .nil
 | cons n ns ih=>
  intro vs w
  rw [List.map_cons] at w
  cases w with
  | cons a b=>
   cases a
   exact .cons _ _ (ih _ b)
theorem De {l:OpenLaw} {n:Nat} (hn:l.most=some n) {P:Params} {h:Heap} {args:List WData} {vals:List Value}
  (hpre:l.row.toRowW.claim.pre args=true) (hwl:WellAll P h vals args):
  ∃ a vs ns,vals=[Value.ref a]/\args=[WData.list (ns.map WData.int)]/\h.get? a=some {cls:=.type "list",data:=.seq vs.toArray}/\IntsAre vs ns/\ns.length<=n:=by
 have hsh:WShape.hasAll [] args [.list .int]=true:=(pre_splitW hpre).1
 have hc:l.pre.holds [] {args:=args}=true:=(pre_splitW hpre).2
 obtain ⟨d,r,rfl,h1,h2⟩:=hasAllW_cons hsh
 obtain rfl:=hasAllW_nil h2
 obtain ⟨xs,rfl,h3⟩:=hasW_list h1
 obtain ⟨ns,rfl⟩:=items_int h3
 have hlen:ns.length<=n:=by
  unfold OpenLaw.pre at hc
  have h4:(WTm.not (.lt (.lit (.int (n:Int))) (.len (.arg 0)))).holds [] {args:=[.list (ns.map .int)]}=true:=by
   have h4:=(holds_andW hc).1
   rw [hn] at h4
   exact h4
  have h5:=condW_of h4 (w_not (w_lt w_lit (w_len_list (w_arg rfl))))
  rw [List.length_map] at h5
  refine Nat.le_of_not_lt fun q=>?_
  have q':(n:Int) < ((ns.length:Nat):Int):=by omega
  first
   | (rw [decide_eq_true q'] at h5;exact absurd h5 (by decide))
   | (simp at h5;omega)
 cases hwl with
 | cons w1 w2=>
  cases w2
  cases w1 with
  | list ho hall=>exact ⟨_,_,ns,rfl,rfl,ho,rY ns _ hall,hlen⟩
theorem Df (l:OpenLaw) (args:List WData):l.row.toRowW.claim.post args (.bool true) args=true:=
 postW_of (r:=l.row.toRowW) (X:=(true == true))
  (show WShape.has [] (.bool true) .bool=true by first | rfl | decide | simp [WShape.has,WShape.arms,WShape.armsAll])
  (show (WTm.eq .res (.lit (.bool true))).value [] {args:=args,res:=some (.bool true),after:=args}=some (.bool (true == true)) from w_eq_bool (w_res rfl) w_lit) rfl
theorem attach_call {l:OpenLaw} {n:Nat} {q:Program} {loose:List Str} {XP:(Str->Option Value)->Heap->Prop} {YP:World->Heap->Prop} {d:DefRec}
  (hn:l.most=some n) (hdf:d.params.defaults=[])
  (call:∀ (w:World) (s₀ s₁:Shared) (mg mb:Str->Option Value) (fa:Addr) (o:Obj) (pm cd doc:Value) (a:Addr) (vs:List Value) (ns:List Int),
   Ground q loose [] XP w s₀ mg mb s₁.heap->YP w s₁.heap->
   s₁.heap.get? fa=some o->o.data= .func (docDef d.name d.params d.body d.scope pm cd doc)->s₁.heap.CodeRec cd d.name->mg d.name=some (.ref fa)->
   s₁.heap.get? a=some {cls:=.type "list",data:=.seq vs.toArray}->IntsAre vs ns->ns.length<=n->s₁.gens= #[]->
   codeAny (model l.prog w) callerA (.call (.ref fa) ⟨[.ref a],[]⟩) (fun r s'=>r= .ok (.ret (.bool true))/\OldK s₁.heap s'.heap/\s'.os=s₁.os/\AllBare s'.gens) s₁):
  WalkO q loose XP YP l.row.toRowW d [] (fun f vs=>PySem.call f vs):=by
 intro w s₀ s₁ mg mb G Y fa o pm cd doc dV kV ho hd hcd hD hmg hg args vals as hpre hlay hrd hwl hlo
 obtain rfl:dV= .none:=Dflts.none hD hdf
 obtain rfl:kV= .none:=Dflts.noKw hD
 obtain ⟨a,vs,ns,rfl,rfl,hobj,hints,hlen⟩:=De hn hpre hwl
 refine enter_call (codeAny_mono (call w s₀ s₁ mg mb fa o pm cd doc a vs ns G Y ho (fd_plain hd) hcd hmg hobj hints hlen hg) fun r s' hq=>?_)
 obtain ⟨rfl,h2,h3,h4⟩:=hq
 exact ⟨.inl ⟨.bool true,.bool true,[],rfl,fun _=>rfl,.bool true,Df l _,fun _=>⟨List.Pairwise.nil,fun _ hm=>(nomatch hm)⟩⟩,h2,h3,h4⟩
end Att
namespace L2
open PySem PySem.Spec PyProof.Rows
theorem vo:∀ {vs:List Value} {ns:List Int},IntsAre vs ns->Vals (ns.map V.int) vs
 | _,_,.nil=>.nil
 | _,_,.cons n t h=>.cons ⟨t,rfl⟩ (vo h)
def Only (H:Hp):Prop:=∀ b,H b=none\/∃ o xs,H b=some (.frz o (.lst xs))
theorem Gv {P:Program} {w:World} {K:W.Frag} {mg mb:Str->Option Value} {CX:Fp} {k:Nat} {fa a:Addr} {fd:FuncData} {x:Str} {sp:Sp} {s₁:Shared} {vs:List Value} {ns:List Int}
  (KX:K.In s₁.heap) (hns:s₁.heap.Ns mainGlobals mg) (hb:s₁.heap.Ns builtinsNs mb) (hbb:∀ x:Str,x≠"__name__"->mb x=bootBuiltins x) (hlim:s₁.heap.NoLimit) (hsm:∃ mm,s₁.heap.Ns sysModules mm) (hg:s₁.gens= #[])
  (ha:s₁.heap.get? a=some {cls:=.type "list",data:=.seq vs.toArray}) (hi:IntsAre vs ns) (hl:ns.length<=sizeLine) (hr:Room k callerA)
  (F:∀ base:Heap,K.In base->base.Ns mainGlobals mg->rT P w K mg base CX k fa fd [x] sp) (hbind:∀ (s:Shared) (u:Value),BindsTo s fd ⟨[u],[]⟩ [(x,u)])
  (hsp:∀ H:Hp,Only H->SqL K H a (ns.map V.int)->sp [.ref a] H (fun v _=>v= .bl true) fun _ _ _=>False)
  (hCX:∀ H e s',CX [] H s₁ (fun _ _ _=>False) e s'->False):
  codeAny (model P w) callerA (.call (.ref fa) ⟨[.ref a],[]⟩) (fun r s'=>r= .ok (.ret (.bool true))/\OldK s₁.heap s'.heap/\s'.os=s₁.os/\AllBare s'.gens) s₁:=by
 have rv:=vo hi
 have lenV:=hi.length
 have core:∀ H:Hp,Only H->SqL K H a (ns.map V.int)->HOk P w H s₁.heap->(∀ b,H b≠none->b=a)->(H a≠none->K.lookup a=none)->
   codeAny (model P w) callerA (.call (.ref fa) ⟨[.ref a],[]⟩) (fun r s'=>r= .ok (.ret (.bool true))/\OldK s₁.heap s'.heap/\s'.os=s₁.os/\AllBare s'.gens) s₁:=by
  intro H hO hS hok hA hK
  have base_of:∀ {b:Addr} {o:Obj},s₁.heap.get? b=some o->H b=none->(vQ s₁.heap H).get? b=some o:=fun e n=>Fv e n
  have noA:∀ {b:Addr} {o:Obj} {es:Array DictEntry} {ep:Nat},s₁.heap.get? b=some o->o.data= .dict es ep->H b=none:=fun {b o es ep} e d=>by
   cases q:H b with
   | none=>rfl
   | some u=>
    have e':b=a:=hA b (by rw [q];simp)
    subst e'
    rw [ha] at e;cases e
    have d':Data.seq vs.toArray _=Data.dict es ep:=d
    cases d'
  have nsK:∀ {b:Addr} {m:Str->Option Value},s₁.heap.Ns b m->(vQ s₁.heap H).Ns b m:=fun {b m} ⟨o,es,ep,e,d,r⟩=>⟨o,es,ep,base_of e (noA e d),d,r⟩
  have hKb:K.In (vQ s₁.heap H):=fun b o e=>base_of (KX b o e) (by
   cases q:H b with
   | none=>rfl
   | some u=>
    have e':b=a:=hA b (by rw [q];simp)
    subst e'
    rw [hK (by rw [q];simp)] at e;cases e)
  have hM:Mod K mg (vQ s₁.heap H):=⟨hKb,nsK hns,⟨mb,nsK hb,hbb⟩,(let ⟨mc,h1,h2⟩:=hlim;⟨mc,nsK h1,h2⟩),let ⟨mm,h1⟩:=hsm;⟨mm,nsK h1⟩⟩
  have e0:Env0 P w K mg (vQ s₁.heap H) callerA [] s₁ H:=⟨rfl,hM,fun b o e=>JN e,Nat.le_of_eq (Cz _ _),trivial,fun b hb=>absurd (show b∈([]:List Addr) from hb) (by simp),hok,.of_eq hg⟩
  refine codeAny_mono ((F _ hKb (nsK hns)).run callerA [] s₁ H ⟨[.ref a],[]⟩ [.ref a] [.ref a] _ _ hr e0 (hbind s₁ (.ref a)) (.cons rfl .nil) (hsp H hO hS)) fun r s' h=>?_
  cases r with
  | error e=>exact (hCX H e s' h).elim
  | ok fl=>
   cases fl with
   | next=>exact False.elim h
   | brk=>exact False.elim h
   | cont=>exact False.elim h
   | ret u=>
    obtain ⟨v,H',os,bare,un,hok',r',q⟩:=h
    have q':v= .bl true:=q
    subst q'
    obtain rfl:u=Value.bool true:=r'
    refine ⟨rfl,OldK.of_keep fun b o e=>?_,os,bare⟩
    cases q:H b with
    | none=>exact un.keep b o e q (by intro z;exact absurd (show b∈([]:List Addr) from z) (by simp)) (by simp)
    | some u=>
     rcases hO b with z | ⟨ob,xs,z⟩
     ·rw [q] at z;cases z
     ·have z2:=un.frzs b ob _ z
      obtain ⟨e1,_⟩:=hok b _ z
      obtain ⟨e2,_⟩:=hok' b _ z2
      rw [e] at e1;cases e1
      exact e2
 cases hk:K.lookup a with
 | some o=>
  have e:=KX a o hk
  rw [ha] at e
  cases e
  refine core (fun _=>none) (fun _=>.inl rfl) (.inr ⟨_,vs.toArray,_,hk,rfl,rfl,rfl,by rw [List.size_toArray,lenV];exact hl,by simpa using rv⟩) (fun b u z=>by have z':(none:Option HO)=some u:=z;cases z') (fun b z=>absurd rfl z) fun z=>absurd rfl z
 | none=>
  refine core (fun b=>if b=a then some (.frz {cls:=.type "list",data:=.seq vs.toArray} (.lst (ns.map V.int))) else none) (fun b=>?_) (.inl (.inr ⟨{cls:=.type "list",data:=.seq vs.toArray},if_pos rfl⟩)) (fun b u z=>?_) (fun b z=>?_) fun _=>hk
  ·by_cases hb:b=a
   ·exact .inr ⟨_,_,if_pos hb⟩
   ·exact .inl (if_neg hb)
  ·by_cases hb:b=a
   ·have z':=(if_pos hb).symm.trans z
    cases z'
    subst hb
    exact ⟨ha,by rw [List.length_map];exact hl,vs,_,rv,ha⟩
   ·have z':=(if_neg hb).symm.trans z
    cases z'
  ·by_cases hb:b=a
   ·exact hb
   ·exact absurd (if_neg hb) z
abbrev KOf {K:W.Frag} {h:Heap} (_:K.In h):W.Frag:=K
theorem KD {l:PySem.W.OpenLaw} {n k:Nat} {q:Program} {loose:List Str} {XP:(Str->Option Value)->Heap->Prop} {YP:World->Heap->Prop} {d:DefRec} {K:Params->W.Frag} {CX:World->Fp} {sp:World->Sp} {x:Str}
  (hn:l.most=some n) (hn2:n<=sizeLine) (hdf:d.params.defaults=[]) (hr:Room k callerA)
  (hY:∀ (w:World) (h:Heap),YP w h->(K w.params).In h)
  (F:∀ (w:World) (mg:Str->Option Value) (fa:Addr) (h:Heap),(K w.params).In h->h.Ns mainGlobals mg->mg d.name=some (.ref fa)->
   ∃ fd:FuncData,(∀ (s:Shared) (u:Value),BindsTo s fd ⟨[u],[]⟩ [(x,u)])/\
    ∀ base:Heap,(K w.params).In base->base.Ns mainGlobals mg->rT l.prog w (K w.params) mg base (CX w) k fa fd [x] (sp w))
  (hsp:∀ (w:World) (H:Hp) (a:Addr) (ns:List Int),ns.length<=n->Only H->SqL (K w.params) H a (ns.map V.int)->sp w [.ref a] H (fun v _=>v= .bl true) fun _ _ _=>False)
  (hCX:∀ (w:World) (H:Hp) (s:Shared) (e:Value) (s':Shared),CX w [] H s (fun _ _ _=>False) e s'->False) (him:importsNone q=true):
  PySem.W.WalkO q loose XP YP l.row.toRowW d [] (fun f vs=>PySem.call f vs):=by
 refine Att.attach_call hn hdf fun w s₀ s₁ mg mb fa o pm cd doc a vs ns G Y ho hd hcd hmg hobj hints hlen hg=>?_
 have KX:=hY w _ Y
 obtain ⟨fd,hb,hF⟩:=F w mg fa _ KX G.T.g hmg
 exact Gv KX G.T.g G.T.b G.T.builtins G.T.nolimit (let ⟨mm,h1,_⟩:=(G.T.seer him).mods;⟨mm,h1⟩) hg hobj hints (Nat.le_trans hlen hn2) hr hF hb (fun H hO hS=>hsp w H a ns hlen hO hS) fun H e s'=>hCX w H s₁ e s'
def iV (s:Stmt):Arguments:=match s with
 | .FunctionDef _ a _ _ _ _ _ _ _ _=>a
 | _=>{posonlyargs:=[],args:=[],vararg:=none,kwonlyargs:=[],kw_defaults:=[],kwarg:=none,defaults:=[]}
def dJ (s:Stmt):List Stmt:=match s with
 | .FunctionDef _ _ b _ _ _ _ _ _ _=>b
 | _=>[]
def az (s:Stmt):Scope:=match s with
 | .FunctionDef _ _ _ _ _ _ sc _ _ _=>sc
 | _=>{kind:=.function,names:=[],isGenerator:=false,isCoroutine:=false}
abbrev Gw:Fp:=fun _ _ _ _ _ _=>False
abbrev E0:XK:=fun _ _ _=>False
theorem Vk {X:Cx}:zg Gw X E0:=fun _ _ _ _ _ _ _ h=>h.elim
structure Fun (K:W.Frag) (x qual:Str) (st:Stmt) (f:Addr) (fd:FuncData):Prop where
 ex:∃ (oc:Value) (od:Option Addr) (kV doc pm:Value) (an:Option Addr) (cdv ct:Value) (osl:Array (Option Value)),
  fd=PySem.W.fnOf x qual (iV st) (dJ st) (az st) .none kV doc pm an cdv ct/\K.lookup f=some ⟨oc,od,.func fd,osl⟩/\PySem.W.codeIn K cdv qual=true
 kp:PySem.W.keepIn K (.ref f)=true
section
variable {P:Program} {w:World} {K:W.Frag} {mg:Str->Option Value} {base:Heap}
theorem Fun.ok {x qual:Str} {st:Stmt} {f:Addr} {fd:FuncData} {N ps:List Str} {k:Nat} {sp:Sp} (F:Fun K x qual st f fd) (S:aD N ps (az st)) (len:∀ vs H Q E,sp vs H Q E->vs.length=ps.length)
  (hbody:∀ (cdv:Value) (A:Around) (outer:List Env) (s:Shared) (H:Hp) (vs:List V) (Q:VK) (E:XK),Room k (A.deeper (envOfC qual (az st) s.heap.objs.size f cdv))->sp vs H Q E->
   ∃ t,PSs (qM Gw P w K mg base N qual (az st) f cdv A outer s H E).nox (dJ st) t/\t {nx:=fun _ H'=>Q .non H',rt:=Q} (start N vs) H):rT P w K mg base Gw (k+1) f fd ps sp:=by
 obtain ⟨oc,od,kV,doc,pm,an,cdv,ct,osl,rfl,lk,hcd⟩:=F.ex
 refine Ow lk hcd S len fun A outer s H vs Q E hr hsp=>?_
 obtain ⟨t,h,q⟩:=hbody cdv A outer s H vs Q E hr hsp
 exact ⟨t,h.nox,q⟩
theorem Fun.binds {x qual:Str} {st:Stmt} {f:Addr} {fd:FuncData} {ps:List Str} (F:Fun K x qual st f fd)
  (h:∀ (kV doc pm:Value) (an:Option Addr) (cdv ct:Value) (us:List Value),us.length=ps.length->bindArgs (PySem.W.fnOf x qual (iV st) (dJ st) (az st) .none kV doc pm an cdv ct) ⟨us,[]⟩=pure (ps.zip us)):Binds K fd ps []:=by
 obtain ⟨oc,od,kV,doc,pm,an,cdv,ct,osl,rfl,lk,hcd⟩:=F.ex
 exact .all (h kV doc pm an cdv ct)
theorem Gx {x qual:Str} {st:Stmt} {f:Addr} {oc:Value} {od an:Option Addr} {osl:Array (Option Value)} {kV doc pm cdv ct:Value} (l:K.lookup f=some ⟨oc,od,.func (PySem.W.fnOf x qual (iV st) (dJ st) (az st) .none kV doc pm an cdv ct),osl⟩)
  (c:PySem.W.codeIn K cdv qual=true) (k:PySem.W.keepIn K (.ref f)=true):Fun K x qual st f (PySem.W.fnOf x qual (iV st) (dJ st) (az st) .none kV doc pm an cdv ct):=⟨⟨oc,od,kV,doc,pm,an,cdv,ct,osl,rfl,l,c⟩,k⟩
end
theorem mH {A B:Prop} (h:B):if false=true then A else B:=by
 rw [if_neg Bool.false_ne_true]
 exact h
theorem lJ {A B:Prop} (h:A):if true=true then A else B:=by
 rw [if_pos rfl]
 exact h
def Same (H H':Hp):Prop:=∀ b o,H b=some o->H' b=some o
theorem Same.refl (H:Hp):Same H H:=fun _ _ h=>h
theorem Same.trans {H H1 H2:Hp} (a:Same H H1) (b:Same H1 H2):Same H H2:=fun c o h=>b c o (a c o h)
theorem Same.free {H H':Hp} (e:Same H H') {l:Addr} (h:H' l=Option.none):H l=Option.none:=by
 cases q:H l with
 | none=>rfl
 | some o=>
  rw [e l o q] at h
  cases h
end L2
set_option maxHeartbeats 4000000
namespace L2
open PySem PySem.Spec PyProof.Rows
def rZ (env:Env):List (Str×NameKind)->List (Str×Addr)->List (Str×Addr)
 | [],acc=>acc
 | (n,k) :: r,acc=>rZ env r (if k == .free then (match env.cells.lookup n with | some c=>(n,c) :: acc | none=>acc) else acc)
theorem tO {env:Env}:∀ {names:List (Str×NameKind)} {acc:List (Str×Addr)},(∀ x c,(x,c)∈acc->env.cells.lookup x=some c)->∀ x c,(x,c)∈rZ env names acc->env.cells.lookup x=some c
 | [],_,h,x,c,m=>h x c m
 | (n,k) :: r,acc,h,x,c,m=>by
  refine tO (names:=r) ?_ x c m
  intro y d hm
  cases hk:(k == NameKind.free) with
  | false=>rw [hk] at hm;exact h y d hm
  | true=>
   rw [hk] at hm
   simp only [if_true] at hm
   cases e:env.cells.lookup n with
   | none=>rw [e] at hm;exact h y d hm
   | some c'=>
    rw [e] at hm
    rcases List.mem_cons.mp hm with z | z
    ·cases z;exact e
    ·exact h y d z
theorem xn {env:Env}:∀ {names:List (Str×NameKind)} {acc:List (Str×Addr)} {p:Str×Addr},p∈acc->p∈rZ env names acc
 | [],_,_,h=>h
 | (n,k) :: r,acc,p,h=>by
  refine xn (names:=r) ?_
  split
  ·split
   ·exact List.mem_cons_of_mem _ h
   ·exact h
  ·exact h
theorem tQ {env:Env} {x:Str} {c:Addr} (e:env.cells.lookup x=some c):∀ {names:List (Str×NameKind)} {acc:List (Str×Addr)},(x,NameKind.free)∈names->(x,c)∈rZ env names acc
 | [],_,h=>by simp at h
 | (n,k) :: r,acc,h=>by
  rcases List.mem_cons.mp h with z | z
  ·cases z
   refine xn (names:=r) ?_
   rw [e]
   simp
  ·exact tQ e (names:=r) z
theorem uM {l:List (Str×Addr)} {x:Str} {c:Addr} (hm:(x,c)∈l) (ha:∀ d,(x,d)∈l->d=c):l.lookup x=some c:=by
 induction l with
 | nil=>simp at hm
 | cons p r ih=>
  obtain ⟨n,d⟩:=p
  by_cases e:x=n
  ·subst e
   have:d=c:=ha d (by simp)
   subst this
   simp [List.lookup_cons]
  ·have hb:(x == n)=false:=by simpa using e
   rw [List.lookup_cons,hb]
   refine ih ?_ fun d' h'=>ha d' (List.mem_cons_of_mem _ h')
   rcases List.mem_cons.mp hm with z | z
   ·cases z;exact absurd rfl e
   ·exact z
theorem xq {env:Env} {names:List (Str×NameKind)} {x:Str} {c:Addr} (e:env.cells.lookup x=some c) (h:(x,NameKind.free)∈names):(rZ env names []).lookup x=some c:=
 uM (tQ e h) fun d hd=>by
  have q:=tO (names:=names) (acc:=[]) (env:=env) (by simp) x d hd
  rw [e] at q
  exact (Option.some.inj q).symm
theorem Dg {env:Env} {names:List (Str×NameKind)} {x:Str} {c:Addr} (e:(rZ env names []).lookup x=some c):env.cells.lookup x=some c:=
 tO (names:=names) (acc:=[]) (env:=env) (by simp) x c (PySem.mem_of_lookup e)
theorem o4 {env:Env}:∀ (names:List (Str×NameKind)) (acc:List (Str×Addr)),(∀ x∈names,x.2=NameKind.free->∃ c,env.cells.lookup x.1=some c)->
  (forIn (m:=Sem) names acc fun x r=>match x with
   | (name,kind)=>if (kind == NameKind.free)=true then do let c ← cellOf env name;pure (ForInStep.yield ((name,c) :: r)) else pure (ForInStep.yield r))=pure (rZ env names acc)
 | [],acc,_=>rfl
 | (n,k) :: r,acc,h=>by
  rw [List.forIn_cons]
  cases hk:(k == NameKind.free) with
  | false=>
   simp only [hk,Bool.false_eq_true,if_false,pure_bind,rZ]
   exact o4 r acc fun x hx=>h x (List.mem_cons_of_mem _ hx)
  | true=>
   obtain ⟨c,e⟩:=h (n,k) List.mem_cons_self (by simpa using hk)
   simp only [hk,if_true,pure_bind,rZ,cellOf,e]
   exact o4 r ((n,c) :: acc) fun x hx=>h x (List.mem_cons_of_mem _ hx)
theorem oN {scope:Scope} {env:Env} (h:∀ x∈scope.names,x.2=NameKind.free->∃ c,env.cells.lookup x.1=some c):closureFor scope env=pure (rZ env scope.names []):=by
 unfold closureFor
 have:=o4 (env:=env) scope.names [] h
 simp only [this,pure_bind]
theorem vp {prog:Program} {w:World} {A:Around} {R:Result->Shared->Prop} {s:Shared} {elt target iter:Expr} {ifs:List Expr} {scope:Scope} {pos:Pos} {it acc:Value} {env:Env} (I:Nat->Shared->Prop)
  (turn:∀ n s,I n s->wpAny (model prog w) A (pyNext it) (fun r s₁=>match r with
   | none=>R (.ok .next) s₁
   | some v=>wpAny (model prog w) A (letOwnedTupleGo target it v) (fun _ s₁'=>wpAny (model prog w) A (assign target env v) (fun _ s₂=>
     wpAny (model prog w) A (forIn ifs true fun c r=>if r=true then do let ok ← isTrue c env (eval c env);pure (ForInStep.yield ok) else pure (ForInStep.yield r)) (fun ok s₃=>
      if ok=true then wpAny (model prog w) A (eval elt env) (fun x s₄=>
       wpAny (model prog w) A (call (.builtin "list.append") [acc,x]) (fun _ s₅=>∃ m,m < n/\I m s₅) (fun _ _=>False) s₄) (fun _ _=>False) s₃
      else ∃ m,m < n/\I m s₃) (fun _ _=>False) s₂) (fun _ _=>False) s₁') (fun _ _=>False) s₁) (fun _ _=>False) s)
  (n:Nat) (h:I n s):
  codeAny (model prog w) A (.compLoop (.ListComp elt [⟨target,iter,ifs,0⟩] scope pos) 0 it acc env) R s:=by
 refine codeAny_loop rfl I (fun n s hI=>?_) n h
 show wpAny _ A ((compTurn (.ListComp elt [⟨target,iter,ifs,0⟩] scope pos) 0 it acc env).onRaise (fun x=>do noteFrame x env;theTreesLotGoes x)) _ _ s
 refine wpAny_noted ?_
 rw [compTurn_list]
 refine wpAny_bind (wpAny_standAt (wpAny_bind (wpAny_mono (turn n s hI) (fun r s₁ h₁=>?_) fun _ _ h'=>h'.elim)))
 cases r with
 | none=>exact wpAny_pure h₁
 | some v=>
  refine wpAny_bind (wpAny_mono h₁ (fun _ s₁' h₁'=>?_) fun _ _ h'=>h'.elim)
  refine wpAny_bind (wpAny_mono h₁' (fun _ s₂ h₂=>wpAny_bind (wpAny_mono h₂ (fun ok s₃ h₃=>?_) fun _ _ h'=>h'.elim)) fun _ _ h'=>h'.elim)
  cases ok with
  | false=>exact wpAny_pure ⟨rfl,h₃⟩
  | true=>
   exact wpAny_bind (wpAny_bind (wpAny_mono h₃ (fun x s₄ h₄=>wpAny_bind (wpAny_mono h₄ (fun _ s₅ h₅=>wpAny_pure (wpAny_pure ⟨rfl,h₅⟩)) fun _ _ h'=>h'.elim)) fun _ _ h'=>h'.elim))
theorem c7:∀ (names:List (Str×NameKind)) (n:Nat) (acc:List (Str×Addr)),cellsFrom n names acc=cellsFrom n names [] ++ acc
 | [],_,_=>rfl
 | (x,k) :: r,n,acc=>by
  unfold cellsFrom
  split
  ·rw [c7 r (n+1) ((x,n) :: acc),c7 r (n+1) [(x,n)],List.append_assoc];rfl
  ·exact c7 r n acc
theorem pN {α:Type}:∀ {A B:List (Str×α)} {x:Str},(A ++ B).lookup x=(match A.lookup x with | some c=>some c | none=>B.lookup x)
 | [],_,_=>rfl
 | (y,c) :: A,B,x=>by
  rw [List.cons_append,List.lookup_cons,List.lookup_cons]
  cases x == y with
  | true=>rfl
  | false=>exact pN (A:=A)
theorem tU:∀ {names:List (Str×NameKind)} {n:Nat} {acc:List (Str×Addr)} {x:Str} {c:Addr},(x,c)∈cellsFrom n names acc->(x,c)∈acc\/(x,NameKind.cell)∈names
 | [],_,_,_,_,h=>.inl h
 | (y,k) :: r,n,acc,x,c,h=>by
  unfold cellsFrom at h
  split at h
  ·rename_i hk
   rcases tU h with z | z
   ·rcases List.mem_cons.mp z with z | z
    ·cases z
     have:k= .cell:=by simpa using hk
     rw [this];exact .inr List.mem_cons_self
    ·exact .inl z
   ·exact .inr (List.mem_cons_of_mem _ z)
  ·exact (tU h).imp id (List.mem_cons_of_mem _)
theorem pO {α:Type}:∀ {l:List (Str×α)} {x:Str} {c:α},(x,c)∈l->∃ d,l.lookup x=some d
 | (y,d) :: r,x,c,h=>by
  by_cases e:x=y
  ·subst e;exact ⟨d,by simp [List.lookup_cons]⟩
  ·have hb:(x == y)=false:=by simpa using e
   rw [List.lookup_cons,hb]
   rcases List.mem_cons.mp h with z | z
   ·cases z;exact absurd rfl e
   ·exact pO z
theorem pP:∀ {names:List (Str×NameKind)} {n:Nat} {acc:List (Str×Addr)} {x:Str},(x,NameKind.cell)∈names\/(∃ c,(x,c)∈acc)->∃ c,(x,c)∈cellsFrom n names acc
 | [],_,_,_,h=>h.elim (fun h=>by simp at h) id
 | (y,k) :: r,n,acc,x,h=>by
  unfold cellsFrom
  split
  ·refine pP ?_
   rcases h with h | ⟨c,h⟩
   ·rcases List.mem_cons.mp h with z | z
    ·cases z;exact .inr ⟨n,List.mem_cons_self⟩
    ·exact .inl z
   ·exact .inr ⟨c,List.mem_cons_of_mem _ h⟩
  ·rename_i hk
   refine pP ?_
   rcases h with h | h
   ·rcases List.mem_cons.mp h with z | z
    ·cases z;exact absurd (by decide) hk
    ·exact .inl z
   ·exact .inr h
def Dh (X:Cx) (scope:Scope) (C:Addr):List (Str×Addr):=cellsFrom (C+1) scope.names (rZ X.env scope.names [])
section
variable {M:Model} {A:Around} {E:Value->Shared->Prop} {s:Shared}
theorem gW {scope:Scope} {globals:Addr} {cl:List (Str×Addr)} {qual:Str} {env:Env} {Q:Env->Shared->Prop}
  (hQ:∀ h':Heap,h'.Ns s.heap.objs.size (fun _=>none)->(∀ b o,s.heap.get? b=some o->h'.get? b=some o)->CellsOk h' (s.heap.objs.size+1) (cellsFrom (s.heap.objs.size+1) scope.names [])->
   Q (newEnv scope s.heap.objs.size globals (cellsFrom (s.heap.objs.size+1) scope.names cl) qual none .none (some env) builtinsNs) {s with heap:=h',toks:=s.toks+([]:List (Str×Value)).length}):
  wpAny M A (newFunctionEnv scope globals cl [] qual none .none (some env)) Q E s:=by
 simp only [newFunctionEnv,Option.isSome_some,if_true]
 refine wpAny_bind (wpAny_alloc ?_)
 refine wpAny_bind (wpAny_layCells _ (fun name kind cells=>by cases hkc:kind == NameKind.cell <;> simp [hkc]) _ _ _ _ ?_)
 have ok:=cellsFrom_ok scope.names (s.heap.push {cls:=.type "dict",data:=.dict #[]}) (s.heap.objs.size+1) [] ⟨fun _ _ hm=>(nomatch hm),List.Pairwise.nil⟩ (by rw [Heap.size_push];exact Nat.le_refl _)
 rw [Heap.size_push] at ok
 rw [show ({s with heap:=s.heap.push {cls:=.type "dict",data:=.dict #[]}}:Shared).heap.objs.size=s.heap.objs.size+1 from Heap.size_push ..]
 exact wpAny_bind (wpAny_pure (wpAny_pure (hQ _ ((Heap.Ns.new s.heap (.type "dict")).keeps (pushCells_keeps _ _)) (fun b o e=>pushCells_keeps _ _ b o (Heap.get?_push_of_some _ e)) ok)))
end
def nP (X:Cx) (N':List Str) (scope:Scope) (C:Addr) (s₀:Shared) (H₀:Hp) (ex:List Addr):Cx:=
 {X with N:=N',s₀:=s₀,H₀:=H₀,env:=compEnvC scope (Dh X scope C) C X.env,outer:=X.stack,ex:=ex,fn:=fun x=>decide (scope.names.lookup x=some .cell),pn:=[],xe:=fun _ _=>False}
def cz (sub:List (Option Nat)) (U:St):St:=sub.map fun o=>o.bind fun j=>(U[j]?).join
structure rJ (N:List Str) (sc:Scope) (N':List Str) (scope:Scope) (sub:List (Option Nat)):Prop where
 kind:scope.kind= .function
 cel:∀ x∈scope.names,x.2= .cell->scope.names.lookup x.1=some .cell
 loc:∀ x∈scope.names,x.2= .local->scope.names.lookup x.1=some .local
 free:∀ x∈scope.names,x.2= .free->sc.names.lookup x.1=some .cell\/sc.names.lookup x.1=some .free
 len:sub.length=N'.length
 at_:∀ (i j:Nat) (x:Str),sub[i]?=some (some j)->N'[i]?=some x->N[j]?=some x/\(x,NameKind.free)∈scope.names/\scope.names.lookup x=some .free
def Gy (N:List Str) (sc:Scope) (N':List Str) (scope:Scope) (sub:List (Option Nat)):Bool:=
 decide (scope.kind= .function) && scope.names.all (fun x=>decide (x.2= .cell->scope.names.lookup x.1=some .cell)) && scope.names.all (fun x=>decide (x.2= .local->scope.names.lookup x.1=some .local)) &&
 scope.names.all (fun x=>decide (x.2= .free->sc.names.lookup x.1=some .cell\/sc.names.lookup x.1=some .free)) && decide (sub.length=N'.length) &&
 (List.range sub.length).all fun i=>match sub[i]?,N'[i]? with
  | some (some j),some x=>decide (N[j]?=some x/\(x,NameKind.free)∈scope.names/\scope.names.lookup x=some .free)
  | _,_=>true
theorem d9 {N:List Str} {sc:Scope} {N':List Str} {scope:Scope} {sub:List (Option Nat)} (h:Gy N sc N' scope sub=true):rJ N sc N' scope sub:=by
 simp only [Gy,Bool.and_eq_true,decide_eq_true_eq,List.all_eq_true] at h
 obtain ⟨⟨⟨⟨⟨h1,h2⟩,h3⟩,h4⟩,h5⟩,h6⟩:=h
 refine ⟨h1,h2,h3,h4,h5,fun i j x e1 e2=>?_⟩
 have hi:i < sub.length:=(List.getElem?_eq_some_iff.mp e1).1
 have q:=h6 i (List.mem_range.mpr hi)
 rw [e1,e2] at q
 simpa using q
def Gz:TT:=fun _ H Q=>Q true H
def xr (X:Cx) (ifs:List Expr) (t:TT):Prop:=
 ∀ (pins:List (Addr×Obj)) (s:Shared) (U:St) (H:Hp) (Q:Bool->Hp->Prop),Inv X pins U H s->t U H Q->
  wpAny (model X.prog X.w) X.A (forIn ifs true fun c r=>if r=true then do let ok ← isTrue c X.env (eval c X.env);pure (ForInStep.yield ok) else pure (ForInStep.yield r)) (TP X pins U Q) X.xe s
theorem GC {X:Cx}:xr X [] Gz:=fun _ _ _ H _ I h=>wpAny_tests_nil ⟨H,I,h⟩
def KeepSt (U U':St):Prop:=U'.length=U.length/\∀ (i:Nat) (v:V),U[i]?=some (some v)->U'[i]?=some (some v)
theorem KeepSt.set {U:St} {i:Nat} {v:V} (h:U[i]?=some none):KeepSt U (U.set i (some v)):=by
 refine ⟨by simp,fun j u e=>?_⟩
 by_cases hj:i=j
 ·subst hj;rw [h] at e;cases e
 ·rw [List.getElem?_set_ne hj];exact e
def tV (sub:List (Option Nat)) (wi:TI) (g:TG) (tt:TT) (te:TE):TE:=fun U H Q=>wi U H fun J H1=>∃ W:Nat->Nat->List V->Hp->Prop,(∃ m,W 0 m [] H1)/\∀ i m ys H,W i m ys H->
 (J.stop i H/\ys.length<=sizeLine/\∀ D,H D=none->Q (.ref D) (upd H D (.lst ys)))\/
 (J.go i H/\ys.length < sizeLine/\∃ N:List V->Hp->Prop,(∀ ys' H',N ys' H'->∃ m',m' < m/\W (i+1) m' ys' H')/\
  ∀ x H',J.yld i H x H'->g x (cz sub U) H' fun σ2 H2=>KeepSt (cz sub U) σ2/\tt σ2 H2 fun b H3=>if b=true then te σ2 H3 fun y H4=>N (ys ++ [y]) H4 else N ys H3)
theorem pQ {scope:Scope} {env:Env} {x:Str} (hx:scope.names.lookup x=some .free):(relabel scope env).names.lookup x=some .cell\/(relabel scope env).names.lookup x=some .free:=by
 have:∀ names:List (Str×NameKind),names.lookup x=some .free->
  (names.map fun (n,k)=>if (k == NameKind.free && env.scope.kind == .function && env.kindOf n == some .cell) then (n,NameKind.cell) else (n,k)).lookup x=some .cell\/
  (names.map fun (n,k)=>if (k == NameKind.free && env.scope.kind == .function && env.kindOf n == some .cell) then (n,NameKind.cell) else (n,k)).lookup x=some .free:=by
  intro names
  induction names with
  | nil=>intro h;simp at h
  | cons p r ih=>
   obtain ⟨n,k⟩:=p
   intro h
   by_cases e:x=n
   ·subst e
    have hk:k= .free:=by simpa [List.lookup_cons] using h
    subst hk
    by_cases hc:((NameKind.free == NameKind.free && env.scope.kind == .function && env.kindOf x == some .cell)=true)
    ·left;simp only [List.map_cons];rw [if_pos hc];simp [List.lookup_cons]
    ·right;simp only [List.map_cons];rw [if_neg hc];simp [List.lookup_cons]
   ·have hb:(x == n)=false:=by simpa using e
    rw [List.lookup_cons,hb] at h
    have q:=ih h
    simp only [List.map_cons]
    split <;> (rw [List.lookup_cons,hb];exact q)
 exact this scope.names hx
theorem v7 {scope:Scope} {env:Env} {x:Str} (h:(relabel scope env).names.lookup x=some .cell\/(relabel scope env).names.lookup x=some .free):(x,NameKind.cell)∈scope.names\/(x,NameKind.free)∈scope.names:=by
 have key:∀ k,(k=NameKind.cell\/k=NameKind.free)->(relabel scope env).names.lookup x=some k->(x,NameKind.cell)∈scope.names\/(x,NameKind.free)∈scope.names:=by
  intro k hk hl
  have hm:=PySem.mem_of_lookup hl
  unfold relabel at hm
  obtain ⟨⟨n,k'⟩,hm1,hm2⟩:=List.mem_map.mp hm
  dsimp only at hm2
  by_cases hc:(k' == NameKind.free && env.scope.kind == .function && env.kindOf n == some .cell)=true
  ·rw [if_pos hc] at hm2
   cases hm2
   simp only [Bool.and_eq_true,beq_iff_eq] at hc
   rw [← hc.1.1];exact .inr hm1
  ·rw [if_neg hc] at hm2
   cases hm2
   rcases hk with hk | hk
   ·subst hk;exact .inl hm1
   ·subst hk;exact .inr hm1
 rcases h with h | h
 ·exact key _ (.inl rfl) h
 ·exact key _ (.inr rfl) h
section
variable {X:Cx} {tg iter elt:Expr} {ifs:List Expr} {scope:Scope} {pos:Pos} {N':List Str} {sub:List (Option Nat)} {wi:TI} {g:TG} {tt:TT} {te:TE}
theorem vq {pins:List (Addr×Obj)} {U:St} {H:Hp} {s:Shared} {fp:List Addr} {D:Addr} {h':Heap} {tk:Nat} {N:List Str} {sc:Scope} (S:rJ N sc N' scope sub) (hN:X.N=N) (hsc:X.env.scope=sc) (I:Inv X pins U H s) (hf:∀ b∈fp,lA X pins H b) (hfo:∀ b∈fp,b < s.heap.objs.size)
  (hD:D < s.heap.objs.size) (fD:lA X pins H D) (hns:h'.Ns s.heap.objs.size fun _=>none) (hk:∀ b o,s.heap.get? b=some o->h'.get? b=some o) (hc:CellsOk h' (s.heap.objs.size+1) (cellsFrom (s.heap.objs.size+1) scope.names [])):
  Inv (nP X N' scope s.heap.objs.size s H (D :: fp)) [] (cz sub U) H {s with heap:=h',toks:=tk}:=by
 have hex:∀ b∈D :: fp,lA X pins H b/\b < s.heap.objs.size:=fun b hb=>by
  rcases List.mem_cons.mp hb with rfl | z
  ·exact ⟨fD,hD⟩
  ·exact ⟨hf b z,hfo b z⟩
 have spl:∀ {x c},(Dh X scope s.heap.objs.size).lookup x=some c->(h'.IsCell c none/\s.heap.objs.size+1<=c/\(x,c)∈cellsFrom (s.heap.objs.size+1) scope.names [])\/(X.env.cells.lookup x=some c/\∃ o,s.heap.get? c=some o):=fun {x c} h=>by
  unfold Dh at h
  rw [c7,pN] at h
  cases e:(cellsFrom (s.heap.objs.size+1) scope.names []).lookup x with
  | some d=>
   rw [e] at h
   cases h
   have m:=PySem.mem_of_lookup e
   exact .inl ⟨(hc.empty _ _ m).1,(hc.empty _ _ m).2,m⟩
  | none=>
   rw [e] at h
   have z:=Dg h
   obtain ⟨v,o,ho,_⟩:=I.cell x c z
   exact .inr ⟨z,o,ho⟩
 have fre:∀ {x c},(x,NameKind.free)∈scope.names->scope.names.lookup x=some .free->X.env.cells.lookup x=some c->(Dh X scope s.heap.objs.size).lookup x=some c:=fun {x c} h1 h2 h3=>by
  unfold Dh
  rw [c7,pN]
  cases e:(cellsFrom (s.heap.objs.size+1) scope.names []).lookup x with
  | some d=>
   rcases tU (PySem.mem_of_lookup e) with z | z
   ·cases z
   ·have:=S.cel _ z rfl
    rw [h2] at this;cases this
  | none=>exact xq h3 h1
 refine ⟨⟨I.ok.mod,S.kind,I.ok.glob,I.ok.blt,Nat.le_refl _,fun x y c h1 h2=>?_,fun x hx=>?_,fun x c hx h=>?_,I.ok.hd,I.ok.frames,.inl rfl,fun b hb=>?_,I.bs,Nat.le_trans I.ok.bsz I.sz,fun b o e hb=>?_,fun b hb=>?_,I.stack,I.stkFree⟩,
  rfl,I.bare,Un.kept hk,⟨_,hns,fun i x v h1 h2 h3=>?_⟩,fun x c h=>?_,I.hok.fresh (Nat.le_refl _),fun x c h=>?_,fun p hp=>(nomatch hp),I.hok.kept hk,?_⟩
 ·rcases spl h1 with ⟨_,l1,m1⟩ | ⟨z1,o1,q1⟩ <;> rcases spl h2 with ⟨_,l2,m2⟩ | ⟨z2,o2,q2⟩
  ·exact PySem.name_of_addr hc.apart m1 m2
  ·exact absurd (Nat.lt_of_lt_of_le (Heap.lt_size q2) (Nat.le_of_succ_le l1)) (Nat.lt_irrefl _)
  ·exact absurd (Nat.lt_of_lt_of_le (Heap.lt_size q1) (Nat.le_of_succ_le l2)) (Nat.lt_irrefl _)
  ·exact I.ok.inj x y c z1 z2
 ·rcases v7 hx with z | z
  ·obtain ⟨c,m⟩:=pP (n:=s.heap.objs.size+1) (acc:=rZ X.env scope.names []) (.inl z)
   exact pO m
  ·obtain ⟨c,e⟩:=I.ok.has x (by have:=S.free _ z rfl;rw [← hsc] at this;exact this)
   show ∃ c,(Dh X scope s.heap.objs.size).lookup x=some c
   unfold Dh
   rw [c7]
   exact pO (c:=c) (List.mem_append_right _ (tQ e z))
 ·have hx':scope.names.lookup x=some .cell:=by simpa [nP] using hx
  rcases spl h with ⟨_,l,_⟩ | ⟨z,o,q⟩
  ·exact Nat.le_of_succ_le l
  ·exfalso
   have m:(x,NameKind.cell)∈scope.names:=PySem.mem_of_lookup hx'
   obtain ⟨d,md⟩:=pP (n:=s.heap.objs.size+1) (acc:=[]) (.inl m)
   obtain ⟨d',e'⟩:=pO md
   have h:(Dh X scope s.heap.objs.size).lookup x=some c:=h
   unfold Dh at h
   rw [c7,pN,e'] at h
   cases h
   exact absurd (Nat.lt_of_lt_of_le (Heap.lt_size q) (Nat.le_of_succ_le (hc.empty _ _ (PySem.mem_of_lookup e')).2)) (Nat.lt_irrefl _)
 ·obtain ⟨⟨f0,f1,f2,f3,f4,f5⟩,hlt⟩:=hex b hb
  refine ⟨Nat.ne_of_lt hlt,fun x c h=>?_⟩
  rcases spl h with ⟨_,l,_⟩ | ⟨z,_⟩
  ·exact fun z=>absurd (Nat.lt_of_lt_of_le hlt (Nat.le_of_succ_le (z ▸ l))) (Nat.lt_irrefl _)
  ·exact f4 x c z
 ·obtain ⟨⟨f0,f1,f2,f3,f4,f5⟩,hlt⟩:=hex b hb
  rcases f3 with z | z
  ·exact I.ok.noex b o e z
  ·exact absurd (Nat.lt_of_lt_of_le (Heap.lt_size (I.ok.bs b o e).1) z) (Nat.lt_irrefl _)
 ·obtain ⟨⟨f0,f1,f2,f3,f4,f5⟩,hlt⟩:=hex b hb
  intro z
  rcases List.mem_cons.mp (I.stkSub b z) with z | z
  ·exact f1 z
  ·exact f2 z
 ·have hs:∃ j,sub[i]?=some (some j)/\U[j]?=some (some v):=by
   unfold cz at h2
   rw [List.getElem?_map] at h2
   cases e:sub[i]? with
   | none=>rw [e] at h2;cases h2
   | some o=>
    rw [e] at h2
    cases o with
    | none=>cases h2
    | some j=>
     refine ⟨j,rfl,?_⟩
     have h3:(U[j]?).join=some v:=Option.some.inj h2
     cases e2:U[j]? with
     | none=>rw [e2] at h3;cases h3
     | some z=>rw [e2] at h3;cases z with
      | none=>cases h3
      | some z=>cases h3;rfl
  obtain ⟨j,e1,e2⟩:=hs
  obtain ⟨g1,g2,g3⟩:=S.at_ i j x e1 h1
  rw [← hN] at g1
  obtain ⟨m,hn,hl⟩:=I.loc
  have hkf:X.env.kindOf x=some .cell\/X.env.kindOf x=some .free:=by have:=S.free _ g2 rfl;rw [← hsc] at this;exact this
  have hvis:Vis X.env.scope x:=by
   rcases hkf with z | z
   ·exact .inr (.inl z)
   ·exact .inr (.inr z)
  obtain ⟨u,r,l⟩:=hl j x v g1 e2 hvis
  refine ⟨u,r,.inr ⟨pQ g3,?_⟩⟩
  rcases l with ⟨k,_⟩ | ⟨_,c,e,o,ho,hd⟩
  ·have k':X.env.kindOf x=some .local:=k
   rcases hkf with z | z <;> (rw [k'] at z;cases z)
  ·exact ⟨c,fre g2 g3 e,o,hk _ _ ho,hd⟩
 ·rcases spl h with ⟨z,_⟩ | ⟨z,_⟩
  ·exact ⟨_,z⟩
  ·obtain ⟨v,o,ho,hd⟩:=I.cell x c z
   exact ⟨v,o,hk _ _ ho,hd⟩
 ·rcases spl h with ⟨_,l,_⟩ | ⟨z,_⟩
  ·exact I.hok.fresh (Nat.le_of_succ_le l)
  ·exact I.freeC x c z
 ·show (cz sub U).length=N'.length
  unfold cz
  rw [List.length_map]
  exact S.len
theorem Bj {N:List Str} {sc:Scope} (S:rJ N sc N' scope sub) (hc:X.calm=true) (hN:X.N=N) (hsc:X.env.scope=sc) (hi:PI X tg iter wi)
  (hg:∀ (C:Addr) (s₀:Shared) (H₀:Hp) (ex:List Addr),PG (nP X N' scope C s₀ H₀ ex) tg g)
  (ht:∀ (C:Addr) (s₀:Shared) (H₀:Hp) (ex:List Addr),xr (nP X N' scope C s₀ H₀ ex) ifs tt)
  (he:∀ (C:Addr) (s₀:Shared) (H₀:Hp) (ex:List Addr),PE (nP X N' scope C s₀ H₀ ex) elt te)
  (hs:autoParam (∀ x,foldedSetIterable iter X.env x=pure x) L2.auto3._auto_1):
  PE X (.ListComp elt [⟨tg,iter,ifs,0⟩] scope pos) (tV sub wi g tt te):=by
 intro pins s U H Q I h
 rw [eval_ListComp]
 have hcl:∀ x∈scope.names,x.2=NameKind.free->∃ c,X.env.cells.lookup x.1=some c:=fun x hx hk=>I.ok.has x.1 (by have:=S.free x hx hk;rw [← hsc] at this;exact this)
 refine wpAny_comprehension_free (use:=none) rfl hs (oN hcl) S.kind S.loc ?_
 refine fM (hi pins s U H _ I h) fun v s1 h1=>fM h1 fun itv s2 h2=>?_
 obtain ⟨it,fp,tn,J,H2,e,I2,T,st2,f2,W,⟨m0,w0⟩,turn⟩:=h2
 subst e
 refine wpAny_newObj_type (gW fun h₁ hns₁ hk31 hcl₁=>?_)
 dsimp only at hns₁ hk31 hcl₁ ⊢
 generalize hs3:({s2 with heap:=s2.heap.push {cls:=.type "list",dict:=none,data:=.seq ([]:List Value).toArray}}:Shared)=s3
 have e3:s2.heap.push {cls:=.type "list",dict:=none,data:=.seq ([]:List Value).toArray}=s3.heap:=by rw [← hs3]
 rw [e3] at hns₁ hk31 hcl₁ ⊢
 have hD3:s3.heap.get? s2.heap.objs.size=some {cls:=.type "list",dict:=none,data:=.seq ([]:List Value).toArray}:=by rw [← e3];exact Heap.get?_push_size _ rfl
 have I3:Inv X pins U H2 s3:=by
  rw [← hs3]
  exact I2.kept (t':=s2.toks) fun b o e=>Heap.get?_push_of_some _ e
 have k23:∀ b o,s2.heap.get? b=some o->s3.heap.get? b=some o:=fun b o e=>by rw [← e3];exact Heap.get?_push_of_some _ e
 have hsz:s3.heap.objs.size=s2.heap.objs.size+1:=by rw [← e3,Heap.size_push]
 have hDn:H2 s2.heap.objs.size=none:=I2.hok.fresh (Nat.le_refl _)
 have fD:lA X pins H2 s2.heap.objs.size:=I2.fpOk (Nat.le_refl _) hDn
 have hfo:∀ b∈fp,b < s2.heap.objs.size:=fun b hb=>let ⟨o,e,_⟩:=T.obj _ _ st2 b hb;Heap.lt_size e
 have hDfp:s2.heap.objs.size ∉ fp:=fun z=>absurd (hfo _ z) (Nat.lt_irrefl _)
 have I4:=vq (tk:=s3.toks+([]:List (Str×Value)).length) S hN hsc I3 f2 (fun b hb=>by rw [hsz];exact Nat.lt_succ_of_lt (hfo b hb)) (D:=s2.heap.objs.size) (by rw [hsz];exact Nat.lt_succ_self _) fD hns₁ hk31 hcl₁
 have stat:∀ {H':Hp} {ob:Obj},(∀ b∈fp,H' b=none)->∀ b∈fp,lA (nP X N' scope s3.heap.objs.size s3 H2 (s2.heap.objs.size :: fp)) [(s2.heap.objs.size,ob)] H' b:=fun {H' ob} hn b hb=>by
  obtain ⟨q1,q2⟩:=I4.ok.exf b (List.mem_cons_of_mem _ hb)
  refine ⟨hn b hb,q1,I4.ok.exfs b (List.mem_cons_of_mem _ hb),.inl (List.mem_cons_of_mem _ hb),q2,fun p hp z=>?_⟩
  have hp':p=(s2.heap.objs.size,ob):=by simpa [nP] using hp
  subst hp'
  have z':s2.heap.objs.size=b:=z
  exact hDfp (by rw [z'];exact hb)
 generalize hXC:nP X N' scope s3.heap.objs.size s3 H2 (s2.heap.objs.size :: fp)=XC at I4 stat
 have eP:XC.prog=X.prog:=by rw [← hXC];rfl
 have eW:XC.w=X.w:=by rw [← hXC];rfl
 have eK:XC.K=X.K:=by rw [← hXC];rfl
 have eA:XC.A=X.A:=by rw [← hXC];rfl
 have eE:XC.env=compEnvC scope (Dh X scope s3.heap.objs.size) s3.heap.objs.size X.env:=by rw [← hXC];rfl
 have eC:XC.calm=true:=by rw [← hXC];exact hc
 have eX:XC.xe=fun _ _=>False:=by rw [← hXC];rfl
 have eH:XC.H₀=H2:=by rw [← hXC];rfl
 have eS:XC.s₀=s3:=by rw [← hXC];rfl
 have eF:XC.fs=frs X.stack:=by rw [← hXC];rfl
 have eEx:XC.ex=s2.heap.objs.size :: fp:=by rw [← hXC];rfl
 have ePn:XC.pn=[]:=by rw [← hXC];rfl
 have hgC:PG XC tg g:=by rw [← hXC];exact hg _ _ _ _
 have htC:xr XC ifs tt:=by rw [← hXC];exact ht _ _ _ _
 have heC:PE XC elt te:=by rw [← hXC];exact he _ _ _ _
 have pinD:∀ {U':St} {H':Hp} {s':Shared} {ob:Obj},Inv XC [] U' H' s'->H' s2.heap.objs.size=none->s'.heap.get? s2.heap.objs.size=some ob->(∀ v,ob.data≠.cell v)->Inv XC [(s2.heap.objs.size,ob)] U' H' s':=fun {U' H' s' ob} J hn hg hd=>
  J.pins_of fun p hp=>by
   have hp':p=(s2.heap.objs.size,ob):=by simpa using hp
   subst hp'
   refine ⟨hg,hn,(J.ok.exf _ (by rw [eEx];exact List.mem_cons_self)).1,J.ok.exfs _ (by rw [eEx];exact List.mem_cons_self),hd⟩
 have loop:codeAny (model X.prog X.w) X.A (.compLoop (.ListComp elt [⟨tg,iter,ifs,0⟩] scope pos) 0 (.ref it) (.ref s2.heap.objs.size) (compEnvC scope (Dh X scope s3.heap.objs.size) s3.heap.objs.size X.env))
   (compPost (model X.prog X.w) X.A X.xe none (EP X pins U Q) (.ref s2.heap.objs.size) s3.heap.objs.size) {s3 with heap:=h₁,toks:=s3.toks+([]:List (Str×Value)).length}:=by
  refine vp (fun n s'=>∃ (i:Nat) (ys:List V) (its:List Value) (nn:Nat) (H':Hp),Inv XC [] (cz sub U) H' s'/\tn i s'.heap/\(∀ b∈fp,H' b=none)/\H' s2.heap.objs.size=none/\
   s'.heap.get? s2.heap.objs.size=some {cls:=.type "list",data:=.seq its.toArray nn}/\Vals ys its/\W i n ys H') ?_ m0
   ⟨0,[],[],_,H2,I4,T.keep _ _ _ st2 fun b _ o e=>hk31 b o (k23 b o e),fun b hb=>(f2 b hb).1,hDn,hk31 _ _ hD3,.nil,w0⟩
  rintro n s4 ⟨i,ys,its,nn,H4,J4,st4,fr4,dn4,dg4,rv4,w4⟩
  have P4:=pinD J4 dn4 dg4 (fun v z=>by cases z)
  rcases turn i n ys H4 w4 with ⟨stop,hyl,qn⟩ | ⟨go,hyl,N,hN,step⟩
  ·have hdone:=T.done XC eP eW eK eC i _ s4 _ H4 (fun _ _=>False) P4 (stat fr4) st4 stop
   rw [eA] at hdone
   refine wpAny_mono hdone (fun r s5 ⟨hr,I5⟩=>?_) fun _ _ z=>z
   subst hr
   obtain ⟨m,hn,_⟩:=id I5.loc
   have hCe:XC.env.locals=s3.heap.objs.size:=by rw [eE];rfl
   rw [hCe] at hn
   refine ⟨m,hn,fun h6 hs6=>?_⟩
   have hDg:=(I5.pin (s2.heap.objs.size,_) (by rw [ePn];exact List.mem_cons_self)).1
   have hDne:s2.heap.objs.size≠s3.heap.objs.size:=by rw [hsz];exact Nat.ne_of_lt (Nat.lt_succ_self _)
   have hHC:H4 s3.heap.objs.size=none:=by have:=I5.free;rw [hCe] at this;exact this
   have k56:∀ b o,b≠s3.heap.objs.size->s5.heap.get? b=some o->h6.get? b=some o:=fun b o hb e=>hs6.extBut b o hb e
   have un:=I5.base
   rw [eF,eEx,eH,eS] at un
   have nC:∀ b o,s3.heap.get? b=some o->b≠s3.heap.objs.size:=fun b o e=>Nat.ne_of_lt (Heap.lt_size e)
   have hok6:HOk X.prog X.w (upd H4 s2.heap.objs.size (.lst ys)) h6:=by
    have h5:=I5.hok
    rw [eP,eW] at h5
    have JK:∀ b u,H4 b=some u->b≠s3.heap.objs.size:=fun b u e z=>by rw [z,hHC] at e;cases e
    intro b u e
    by_cases hb:b=s2.heap.objs.size
    ·subst hb
     rw [aj] at e;cases e
     exact ⟨hyl,its,nn,rv4,k56 _ _ hDne hDg⟩
    ·rw [aB hb] at e
     have nD:∀ c u,H4 c=some u->c≠s2.heap.objs.size:=fun c u e z=>by rw [z,dn4] at e;cases e
     refine (h5 b u e).stay (fun c v hc' q=>k56 c v ?_ q) (fun c q=>by rw [aB (nD c _ q)];exact q) fun c xs q=>by rw [aB (nD c _ q)];exact q
     rcases hc' with z | z
     ·rw [z];exact JK b u e
     ·exact JK c _ z
   have nD2:∀ c u,H4 c=some u->c≠s2.heap.objs.size:=fun c u e z=>by rw [z,dn4] at e;cases e
   have un6:Un (frs X.stack) (s2.heap.objs.size :: fp) H2 (upd H4 s2.heap.objs.size (.lst ys)) s3.heap h6:=
    ⟨fun b o e nn' hb hx=>k56 b o (nC b o e) (un.keep b o e nn' hb hx),fun b o e nn' hb hx=>let ⟨sl,q⟩:=un.slot b o e nn' hb hx;⟨sl,k56 b _ (nC b o e) q⟩,
     fun b o e nn' hx=>by rw [aB (fun z=>hx (by rw [z];exact List.mem_cons_self))];exact un.free b o e nn' hx,
     fun b o e hx=>let ⟨o',q⟩:=un.there b o e hx;⟨o',k56 b o' (nC b o e) q⟩,
     fun b xs e=>by have q:=un.tups b xs e;rw [aB (nD2 b _ q)];exact q,
     fun b o u e=>by have q:=un.frzs b o u e;rw [aB (nD2 b _ q)];exact q,
     fun b ps e=>let ⟨more,q⟩:=un.tbls b ps e;⟨more,by rw [aB (nD2 b _ q)];exact q⟩⟩
   have I6:Inv X pins U (upd H4 s2.heap.objs.size (.lst ys)) {s5 with heap:=h6}:=by
    refine I3.call' (s':={s5 with heap:=h6}) (ch:=s2.heap.objs.size :: fp) ?_ un6 hok6 I5.bare fun b hb=>?_
    ·show s5.os=s3.os
     have:=I5.os
     rw [eS] at this
     exact this
    ·have q:lA X pins H2 b:=by
      rcases List.mem_cons.mp hb with rfl | z
      ·exact fD
      ·exact f2 b z
     obtain ⟨f0,f1,f2',f3,f4,f5⟩:=q
     exact ⟨f3,f1,f4,f5⟩
   exact ⟨.ref s2.heap.objs.size,_,I6,rfl,qn _ dn4⟩
  ·have hitem:=T.item XC eP eW eK eC i _ s4 _ H4 (fun _ _=>False) P4 (stat fr4) st4 go
   rw [eA] at hitem
   refine wpAny_mono hitem (fun r s5 ⟨u,hr,h5⟩=>?_) fun _ _ z=>z
   subst hr
   dsimp only
   refine wpAny_mono h5 (fun _ s6 ⟨x,H6,I6,r6,y6,st6,fr6⟩=>?_) fun _ _ z=>z
   have P6:=I6.pinned (stat fr6) (T.obj _ _ st6)
   rw [← eE,← eP,← eW,← eA]
   refine wpAny_mono (hgC _ s6 _ H6 x u _ P6 r6 (step x H6 y6)) (fun _ s7 ⟨σ7,H7,I7,kp7,q7⟩=>?_) fun _ _ z=>by rw [eX] at z;exact z
   refine wpAny_mono (htC _ s7 σ7 H7 _ I7 q7) (fun ok s8 ⟨H8,I8,q8⟩=>?_) fun _ _ z=>by rw [eX] at z;exact z
   have fin:∀ {H9:Hp} {s9:Shared},Inv XC ([(s2.heap.objs.size,({cls:=.type "list",data:=.seq its.toArray nn}:Obj))] ++ qJ fp s6.heap) σ7 H9 s9->Inv XC [] (cz sub U) H9 s9/\tn (i+1) s9.heap/\(∀ b∈fp,H9 b=none)/\H9 s2.heap.objs.size=none/\
     s9.heap.get? s2.heap.objs.size=some {cls:=.type "list",data:=.seq its.toArray nn}:=fun {H9 s9} J=>by
    have pD:=J.pin (s2.heap.objs.size,({cls:=.type "list",data:=.seq its.toArray nn}:Obj)) (by rw [ePn];simp)
    have pF:∀ b∈fp,∀ o,s6.heap.get? b=some o->s9.heap.get? b=some o/\H9 b=none:=fun b hb o e=>by
     have q:=J.pin (b,o) (by rw [ePn];exact List.mem_append_right _ (List.mem_append_right _ (lG hb e)))
     exact ⟨q.1,q.2.1⟩
    refine ⟨?_,T.keep _ _ _ st6 fun b hb o e=>(pF b hb o e).1,fun b hb=>?_,pD.2.1,pD.1⟩
    ·have J0:Inv XC [] σ7 H9 s9:=J.pins_of fun p hp=>nomatch hp
     exact J0.weak kp7.1.symm fun j v e=>kp7.2 j v e
    ·obtain ⟨o,e,_⟩:=T.obj _ _ st6 b hb
     exact (pF b hb o e).2
   cases ok with
   | false=>
    rw [if_neg (by simp)]
    rw [if_neg (by simp)] at q8
    obtain ⟨m',hm,w8⟩:=hN _ _ q8
    obtain ⟨a1,a2,a3,a4,a5⟩:=fin I8
    exact ⟨m',hm,i+1,ys,its,nn,H8,a1,a2,a3,a4,a5,rv4,w8⟩
   | true=>
    rw [if_pos rfl]
    rw [if_pos rfl] at q8
    refine wpAny_mono (heC _ s8 σ7 H8 _ I8 q8) (fun xv s9 ⟨y,H9,I9,r9,n9⟩=>?_) fun _ _ z=>by rw [eX] at z;exact z
    obtain ⟨m',hm,w9⟩:=hN _ _ n9
    obtain ⟨a1,a2,a3,a4,a5⟩:=fin I9
    refine wpAny_list_append_plain (items:=its.toArray) ⟨nn,a5⟩ (fun h' ⟨n',hp'⟩ sb=>?_) (by simp;rw [← rv4.length];omega)
    obtain ⟨q1,q2⟩:=I4.ok.exf s2.heap.objs.size (by rw [eEx];exact List.mem_cons_self)
    have a1':Inv XC [] (cz sub U) H9 {s9 with heap:=h'}:=a1.turned (t':=s9.toks) (fun b o hb e=>(sb.2 b hb).trans e) a4 q1 (.inl (by rw [eEx];exact List.mem_cons_self)) q2 (fun p hp=>by rw [ePn] at hp;exact nomatch hp)
    refine ⟨m',hm,i+1,ys ++ [y],its ++ [xv],n',H9,a1',T.keep _ _ _ a2 fun b hb o e=>(sb.2 b (fun z=>hDfp (by rw [← z];exact hb))).trans e,a3,a4,?_,rv4.append (.cons r9 .nil),w9⟩
    rw [hp']
    simp
 subst hs3
 exact codeAny_compStart_list loop (T.self _ 0 _ _ _ (T.keep _ _ _ st2 fun b _ o e=>hk31 b o (k23 b o e)) loop)
end
abbrev mJ (sub:List (Option Nat)) (g:TG) (tt:TT) (te:TE) (U:St) (Q:VK) (J:It) (H1:Hp):Prop:=∃ W:Nat->Nat->List V->Hp->Prop,(∃ m,W 0 m [] H1)/\∀ i m ys H,W i m ys H->
 (J.stop i H/\ys.length<=sizeLine/\∀ D,H D=none->Q (.ref D) (upd H D (.lst ys)))\/
 (J.go i H/\ys.length < sizeLine/\∃ N:List V->Hp->Prop,(∀ ys' H',N ys' H'->∃ m',m' < m/\W (i+1) m' ys' H')/\
  ∀ x H',J.yld i H x H'->g x (cz sub U) H' fun σ2 H2=>KeepSt (cz sub U) σ2/\tt σ2 H2 fun b H3=>if b=true then te σ2 H3 fun y H4=>N (ys ++ [y]) H4 else N ys H3)
theorem sS {sub:List (Option Nat)} {g:TG} {tt:TT} {te:TE} {U:St} {Q:VK} {J:It} {H:Hp} {n:Nat} (Pv:Nat->List V->Hp->Prop) (hn:n<=sizeLine) (h0:Pv 0 [] H) (hl:∀ i ys H,Pv i ys H->ys.length<=i)
  (hgo:∀ i ys H,i < n->Pv i ys H->J.go i H) (hstop:∀ ys H,Pv n ys H->J.stop n H)
  (hs:∀ i ys H x H',i < n->Pv i ys H->J.yld i H x H'->g x (cz sub U) H' fun σ2 H2=>KeepSt (cz sub U) σ2/\tt σ2 H2 fun b H3=>if b=true then te σ2 H3 fun y H4=>Pv (i+1) (ys ++ [y]) H4 else Pv (i+1) ys H3)
  (hd:∀ ys H,Pv n ys H->∀ D,H D=none->Q (.ref D) (upd H D (.lst ys))):mJ sub g tt te U Q J H:=by
 refine ⟨fun i m ys H=>m=n - i/\i<=n/\Pv i ys H,⟨n,by simp,Nat.zero_le _,h0⟩,?_⟩
 rintro i m ys H ⟨rfl,hi,p⟩
 have hl':=hl i ys H p
 by_cases hlt:i < n
 ·exact .inr ⟨hgo i ys H hlt p,by omega,fun ys' H'=>Pv (i+1) ys' H',fun ys' H' p'=>⟨n - (i+1),by omega,rfl,hlt,p'⟩,fun x H' y=>hs i ys H x H' hlt p y⟩
 ·have e:i=n:=by omega
  subst e
  exact .inl ⟨hstop ys H p,by omega,hd ys H p⟩
section
variable {κ:Type} [DecidableEq κ]
def jP (kvs:List (κ×V)) (k:κ):Option V:=(kvs.find? fun kv=>decide (kv.1=k)).map (·.2)
def putK (kvs:List (κ×V)) (k:κ) (v:V):List (κ×V):=
 if (kvs.any fun kv=>decide (kv.1=k))=true then kvs.map (fun kv=>if kv.1=k then (kv.1,v) else kv) else kvs ++ [(k,v)]
theorem xu {k:κ}:jP ([]:List (κ×V)) k=none:=rfl
theorem eG {p:κ×V} {r:List (κ×V)} {k:κ} (e:p.1=k):jP (p :: r) k=some p.2:=by simp [jP,List.find?_cons,e]
theorem eO {p:κ×V} {r:List (κ×V)} {k:κ} (e:¬ p.1=k):jP (p :: r) k=jP r k:=by simp [jP,List.find?_cons,e]
theorem pR (k:κ):∀ kvs:List (κ×V),(kvs.any fun kv=>decide (kv.1=k))=(jP kvs k).isSome
 | []=>rfl
 | p :: r=>by
  rw [List.any_cons]
  by_cases e:p.1=k
  ·simp only [eG e,decide_eq_true e,Bool.true_or,Option.isSome_some]
  ·rw [eO e,decide_eq_false e,Bool.false_or];exact pR k r
theorem xx (k j:κ) (y:V):∀ kvs:List (κ×V),jP (kvs.map fun kv=>if kv.1=k then (kv.1,y) else kv) j=(jP kvs j).map fun x=>if j=k then y else x
 | []=>rfl
 | p :: r=>by
  have ih:=xx k j y r
  rw [List.map_cons]
  by_cases h:p.1=k
  ·rw [if_pos h]
   by_cases e:p.1=j
   ·rw [eG (p:=(p.1,y)) e,eG e,Option.map_some,if_pos (e.symm.trans h)]
   ·rw [eO (p:=(p.1,y)) e,eO e,ih]
  ·rw [if_neg h]
   by_cases e:p.1=j
   ·rw [eG (p:=p) e,eG e,Option.map_some,if_neg (fun z=>h (e.trans z))]
   ·rw [eO (p:=p) e,eO e,ih]
theorem vy (k j:κ) (y:V):∀ kvs:List (κ×V),jP kvs k=none->jP (kvs ++ [(k,y)]) j=if j=k then some y else jP kvs j
 | [],_=>by
  by_cases e:k=j
  ·rw [if_pos e.symm];exact eG (p:=(k,y)) e
  ·rw [if_neg (fun z=>e z.symm)];exact eO (p:=(k,y)) e
 | p :: r,hn=>by
  rw [List.cons_append]
  have hk:¬ p.1=k:=fun z=>by rw [eG z] at hn;cases hn
  rw [eO hk] at hn
  have ih:=vy k j y r hn
  by_cases e:p.1=j
  ·rw [eG e,eG e,if_neg (fun z=>hk (e.trans z))]
  ·rw [eO e,eO e,ih]
theorem xF (kvs:List (κ×V)) (k j:κ) (y:V):jP (putK kvs k y) j=if j=k then some y else jP kvs j:=by
 unfold putK
 by_cases a:(kvs.any fun kv=>decide (kv.1=k))=true
 ·rw [if_pos a,xx]
  rw [pR] at a
  by_cases e:j=k
  ·obtain ⟨x,hx⟩:=Option.isSome_iff_exists.mp a
   rw [if_pos e,e,hx,Option.map_some,if_pos rfl]
  ·rw [if_neg e]
   cases jP kvs j with
   | none=>rfl
   | some x=>rw [Option.map_some,if_neg e]
 ·rw [if_neg a]
  refine vy k j y kvs ?_
  rw [pR] at a
  cases q:jP kvs k with
  | none=>rfl
  | some x=>rw [q] at a;exact (a rfl).elim
theorem j0 (kvs:List (κ×V)) (k:κ) (v:V):(putK kvs k v).length<=kvs.length+1:=by
 unfold putK
 split
 ·rw [List.length_map];omega
 ·rw [List.length_append,List.length_cons,List.length_nil];omega
theorem RelO.isSome_eq {o:Option V} {u:Option Value} (r:RelO o u):o.isSome=u.isSome:=by
 cases o with
 | none=>cases u with
  | none=>rfl
  | some _=>exact (show False from r).elim
 | some _=>cases u with
  | none=>exact (show False from r).elim
  | some _=>rfl
theorem KV.val {kvs:List (κ×V)} {vs:List (κ×Value)} (r:KV kvs vs) (k:κ):RelO (jP kvs k) (valueAt vs k):=by
 unfold KV at r
 induction r with
 | nil=>exact True.intro
 | @cons p q ps qs h t ih=>
  obtain ⟨h1,h2⟩:=h
  by_cases e:p.1=k
  ·have e':q.1=k:=h1.symm.trans e
   have b:valueAt (q :: qs) k=some q.2:=by simp [valueAt,List.find?_cons,e']
   rw [eG e,b];exact h2
  ·have e':¬ q.1=k:=fun z=>e (h1.trans z)
   have b:valueAt (q :: qs) k=valueAt qs k:=by simp [valueAt,List.find?_cons,e']
   rw [eO e,b];exact ih
theorem KV.any {kvs:List (κ×V)} {vs:List (κ×Value)} (r:KV kvs vs) (k:κ):(kvs.any fun kv=>decide (kv.1=k))=vs.any fun kv=>decide (kv.1=k):=by
 unfold KV at r
 induction r with
 | nil=>rfl
 | cons h t ih=>rw [List.any_cons,List.any_cons,ih,h.1]
theorem KV.repl {kvs:List (κ×V)} {vs:List (κ×Value)} (r:KV kvs vs) (k:κ) {y:V} {u:Value} (ry:RelV y u):
  KV (kvs.map fun kv=>if kv.1=k then (kv.1,y) else kv) (vs.map fun kv=>if kv.1=k then (kv.1,u) else kv):=by
 unfold KV at r ⊢
 induction r with
 | nil=>exact .nil
 | @cons p q ps qs h t ih=>
  rw [List.map_cons,List.map_cons]
  refine .cons ?_ ih
  obtain ⟨h1,h2⟩:=h
  by_cases e:p.1=k
  ·rw [if_pos e,if_pos (h1.symm.trans e)];exact ⟨h1,ry⟩
  ·rw [if_neg e,if_neg (fun z=>e (h1.trans z))];exact ⟨h1,h2⟩
theorem KV.put {kvs:List (κ×V)} {vs:List (κ×Value)} (r:KV kvs vs) (k:κ) {y:V} {u:Value} (ry:RelV y u):KV (putK kvs k y) (stored vs k u):=by
 unfold putK stored
 rw [r.any k]
 by_cases e:(vs.any fun kv=>decide (kv.1=k))=true
 ·rw [if_pos e,if_pos e];exact r.repl k ry
 ·rw [if_neg e,if_neg e];exact Paired.snoc r ⟨rfl,ry⟩
theorem KV.length {kvs:List (κ×V)} {vs:List (κ×Value)} (r:KV kvs vs):kvs.length=vs.length:=Paired.length r
end
theorem GD {P:Program} {w:World} {k:Key} {u:Value} (r:RelV (kV k) u):(cX P w).is k u=true:=by
 cases k with
 | inl i=>obtain ⟨t,e⟩:=(show ∃ t,u=Value.int i t from r);subst e;exact wY P w i t
 | inr x=>obtain ⟨t,e⟩:=(show ∃ t,u=Value.str x t from r);subst e;exact wZ P w x t
theorem vz {P:Program} {w:World}:∀ {ks:List Key} {us:List Value},Vals (ks.map kV) us->ItemsAre (cX P w) ks us
 | [],_,r=>by rw [List.map_nil] at r;cases r;exact .nil
 | k :: ks,_,r=>by
  rw [List.map_cons] at r
  cases r with
  | cons h t=>exact .cons (GD h) (vz t)
abbrev KT (H:Hp):List (List Key×V)->List (List Key×Addr×Value)->Prop:=Paired fun p q=>p.1=q.1/\H q.2.1=some (.tup (p.1.map kV))/\RelV p.2 q.2.2
theorem KT.val {H:Hp} {kvs:List (List Key×V)} {xs:List (List Key×Addr×Value)} (r:KT H kvs xs) (k:List Key):RelO (jP kvs k) ((atKey xs k).map (·.2)):=by
 induction r with
 | nil=>exact True.intro
 | @cons p q ps qs h t ih=>
  obtain ⟨h1,_,h2⟩:=h
  by_cases e:p.1=k
  ·have e':q.1=k:=h1.symm.trans e
   have b:atKey (q :: qs) k=some q.2:=by simp [atKey,List.find?_cons,e']
   rw [eG e,b];exact h2
  ·have e':¬ q.1=k:=fun z=>e (h1.trans z)
   have b:atKey (q :: qs) k=atKey qs k:=by simp [atKey,List.find?_cons,e']
   rw [eO e,b];exact ih
theorem KT.repl {H:Hp} {kvs:List (List Key×V)} {xs:List (List Key×Addr×Value)} (r:KT H kvs xs) (k:List Key) {y:V} {u:Value} (ry:RelV y u):
  KT H (kvs.map fun kv=>if kv.1=k then (kv.1,y) else kv) (xs.map (putAt k u)):=by
 induction r with
 | nil=>exact .nil
 | @cons p q ps qs h t ih=>
  rw [List.map_cons,List.map_cons]
  refine .cons ?_ ih
  obtain ⟨h1,h2,h3⟩:=h
  unfold putAt
  by_cases e:p.1=k
  ·rw [if_pos e,if_pos (h1.symm.trans e)];exact ⟨h1,h2,ry⟩
  ·rw [if_neg e,if_neg (fun z=>e (h1.trans z))];exact ⟨h1,h2,h3⟩
theorem KT.put {H:Hp} {kvs:List (List Key×V)} {xs:List (List Key×Addr×Value)} (r:KT H kvs xs) (k:List Key) {b:Addr} {y:V} {u:Value} (hb:H b=some (.tup (k.map kV))) (ry:RelV y u):
  KT H (putK kvs k y) (storedH xs k b u):=by
 have e:(kvs.any fun kv=>decide (kv.1=k))=(atKey xs k).isSome:=by
  rw [pR,(r.val k).isSome_eq,Option.isSome_map]
 unfold putK storedH
 rw [e]
 by_cases q:(atKey xs k).isSome=true
 ·rw [if_pos q,if_pos q];exact r.repl k ry
 ·rw [if_neg q,if_neg q];exact Paired.snoc r ⟨rfl,hb,ry⟩
theorem KT.keeps {H H':Hp} {kvs:List (List Key×V)} {xs:List (List Key×Addr×Value)} (r:KT H kvs xs) (ht:∀ b ys,H b=some (.tup ys)->H' b=some (.tup ys)):KT H' kvs xs:=
 Paired.mapP r fun _ _ z=>⟨z.1,ht _ _ z.2.1,z.2.2⟩
section
variable {P:Program} {w:World} {H:Hp} {h:Heap} {a:Addr}
theorem Ox {u:HO} (ok:HOk P w H h) (e:Rd H a u):ObjOk P w H h a u:=e.ok ok
theorem Oz {kvs:List (Key×V)} (ok:HOk P w H h) (e:Rd H a (.dK kvs)):kvs.length<=sizeLine/\(a == sysModules)=false/\∃ vs,KV kvs vs/\h.DictOf (cX P w) a vs:=
 show ObjOk P w H h a (.dK kvs) from Ox ok e
theorem Vl {kvs:List (Key×V)} (ok:HOk P w H h) (e:H a=some (.dK kvs)):kvs.length<=sizeLine/\(a == sysModules)=false/\∃ vs,KV kvs vs/\h.DictOf (cX P w) a vs:=Oz ok (.inl e)
theorem zq {ks:List Key} (ok:HOk P w H h) (e:H a=some (.tup (ks.map kV))):(tupleKind (cX P w)).is h ks a:=by
 obtain ⟨_,its,r,o,h1,h2,n,h3⟩:=(show ObjOk P w H h a (.tup (ks.map kV)) from ok a _ e)
 exact ⟨o,its.toArray,n,h1,h2,h3,by simpa using vz r⟩
theorem OD {kvs:List (List Key×V)} (ok:HOk P w H h) (e:Rd H a (.dT kvs)):kvs.length<=sizeLine/\(a == sysModules)=false/\
  ∃ xs,KT H kvs xs/\h.DictOfH (tupleKind (cX P w)) a xs:=by
 obtain ⟨z,y,xs,r,o,es,ep,h1,h2,h3,h4,h5⟩:=(show ObjOk P w H h a (.dT kvs) from Ox ok e)
 refine ⟨z,y,xs,r,o,es,ep,h1,h2,h3,h4,fun x hx=>?_,h5⟩
 have all:∀ {l:List (List Key×V)} {m:List (List Key×Addr×Value)},KT H l m->∀ x∈m,(tupleKind (cX P w)).is h x.1 x.2.1:=by
  intro l m q
  induction q with
  | nil=>intro x hx;exact nomatch hx
  | @cons p q ps qs hq t ih=>
   intro x hx
   rcases List.mem_cons.mp hx with e | hx
   ·subst e
    exact zq ok (by rw [← hq.1];exact hq.2.1)
   ·exact ih x hx
 exact all r x hx
theorem Vm {kvs:List (List Key×V)} (ok:HOk P w H h) (e:H a=some (.dT kvs)):kvs.length<=sizeLine/\(a == sysModules)=false/\
  ∃ xs,KT H kvs xs/\h.DictOfH (tupleKind (cX P w)) a xs:=OD ok (.inl e)
end
def DGet (H:Hp) (a:Addr) (y:V) (r:Option V):Prop:=
 (∃ kvs k,Rd H a (.dK kvs)/\y=kV k/\r=jP kvs k)\/∃ kvs k b,Rd H a (.dT kvs)/\y= .ref b/\H b=some (.tup (k.map kV))/\r=jP kvs k
def DPut (H:Hp) (a:Addr) (y v:V) (H':Hp):Prop:=
 (∃ kvs k,H a=some (.dK kvs)/\y=kV k/\kvs.length < sizeLine/\H'=upd H a (.dK (putK kvs k v)))\/
 ∃ kvs k b,H a=some (.dT kvs)/\y= .ref b/\H b=some (.tup (k.map kV))/\kvs.length < sizeLine/\H'=upd H a (.dT (putK kvs k v))
theorem DGet.k {H:Hp} {a:Addr} {kvs:List (Key×V)} {k:Key} (e:H a=some (.dK kvs)):DGet H a (kV k) (jP kvs k):=.inl ⟨kvs,k,.inl e,rfl,rfl⟩
theorem DPut.k {H:Hp} {a:Addr} {kvs:List (Key×V)} {k:Key} {v:V} (e:H a=some (.dK kvs)) (hl:kvs.length < sizeLine):DPut H a (kV k) v (upd H a (.dK (putK kvs k v))):=.inl ⟨kvs,k,e,rfl,hl,rfl⟩
section
variable {X:Cx} {pins:List (Addr×Obj)} {U:St} {H:Hp} {s:Shared} {a:Addr} {y v:V} {u r:Value} {o:Option V} {A:Around} {E:Value->Shared->Prop}
theorem Inv.big (I:Inv X pins U H s):sysModules < s.heap.objs.size:=by
 have h:mainGlobals < s.heap.objs.size:=(I.mod.glob.keeps I.bk).lt
 exact Nat.lt_trans (by decide) h
theorem d_in {Q:Value->Shared->Prop} (hu:A.units+1 < cLine) (I:Inv X pins U H s) (g:DGet H a y o) (ry:RelV y u) (h:∀ s',Inv X pins U H s'->Q (.bool o.isSome) s'):
  wpAny (model X.prog X.w) A (compareOp .In u (.ref a)) Q E s:=by
 rcases g with ⟨kvs,k,e,ey,l⟩ | ⟨kvs,k,b,e,ey,eb,l⟩
 ·subst ey
  obtain ⟨z,hd,vs,rel,dd⟩:=Oz I.hok e
  refine wpAny_in_of (GD ry) hd dd.mapOf ?_
  rw [← (rel.val k).isSome_eq,← l]
  exact h _ (I.tok _)
 ·subst ey
  cases (show u=Value.ref b from ry)
  obtain ⟨z,hd,xs,rel,dd⟩:=OD I.hok e
  refine wpAny_in_heap (tupleKind_room_in1 hu) (zq I.hok eb) hd dd ?_
  have q:=(rel.val k).isSome_eq
  rw [Option.isSome_map] at q
  rw [← q,← l]
  exact h _ (I.tok _)
theorem Bk {h':Heap} {t':Nat} {ob:HO} (I:Inv X pins U H s) (mu:Ux (H a)) (hs:Heap.SameBut a s.heap h') (he:∃ q,h'.get? a=some q) (new:ObjOk X.prog X.w (upd H a ob) h' a ob):
  Inv X pins U (upd H a ob) {s with heap:=h',toks:=t'}:=
 I.write (x:=a) (e:=a) mu (.inl rfl) (fun b q hb z=>(hs.2 b hb).trans z) he new
theorem QQ {P:Program} {w:World} {H':Hp} {h':Heap} {kvs:List (Key×V)} {vs:List (Key×Value)} (z:kvs.length<=sizeLine) (hd:(a == sysModules)=false) (rel:KV kvs vs) (dd:h'.DictOf (cX P w) a vs):
  ObjOk P w H' h' a (.dK kvs):=⟨z,hd,vs,rel,dd⟩
theorem Di {H':Hp} {Q:Unit->Shared->Prop} (hu:A.units+1 < cLine) (I:Inv X pins U H s) (g:DPut H a y v H') (ry:RelV y u) (rv:RelV v r) (h:∀ s',Inv X pins U H' s'->Q () s'):
  wpAny (model X.prog X.w) A (setItem (.ref a) u r) Q E s:=by
 rcases g with ⟨kvs,k,e,ey,l,eH⟩ | ⟨kvs,k,b,e,ey,eb,l,eH⟩
 ·subst ey eH
  obtain ⟨z,hd,vs,rel,dd⟩:=Vl I.hok e
  have hz:vs.length<=sizeLine:=by rw [← rel.length];exact z
  have hl:(putK kvs k v).length<=sizeLine:=by have:=j0 kvs k v;omega
  refine wpAny_setItem_pairs (hsz:=hz) (GD ry) dd fun h' dd' hs=>h _ ?_
  have he:∃ q,h'.get? a=some q:=let ⟨q,_,_,hq,_⟩:=dd';⟨q,hq⟩
  exact Bk I (by rw [e];exact True.intro) hs he (QQ hl hd (rel.put k rv) dd')
 ·subst ey eH
  cases (show u=Value.ref b from ry)
  obtain ⟨z,hd,xs,rel,dd⟩:=Vm I.hok e
  have hz:xs.length<=sizeLine:=by rw [← Paired.length rel];exact z
  have hl:(putK kvs k v).length<=sizeLine:=by have:=j0 kvs k v;omega
  refine wpAny_setItem_heap (hsz:=hz) (tupleKind_room_in1 hu) (zq I.hok eb) dd fun h' dd' hs=>h _ ?_
  obtain ⟨q,es,ep,hq,h2,h3,h4,_,h5⟩:=dd'
  refine Bk I (by rw [e];exact True.intro) hs ⟨q,hq⟩ ⟨hl,hd,_,(rel.put k eb rv).keeps fun c ys ec=>?_,q,es,ep,hq,h2,h3,h4,h5⟩
  rw [aB (Uw ec e (fun z=>nomatch z))]
  exact ec
end
theorem GF {P:Program} {w:World} {H:Hp} (h:Heap) (hb:sysModules < h.objs.size):ObjOk P w H (h.push {cls:=.type "dict",data:=.dict #[]}) h.objs.size (.dK []):=
 ⟨Nat.zero_le _,beq_eq_false_iff_ne.mpr (Ne.symm (Nat.ne_of_lt hb)),[],.nil,Heap.DictOf.new h⟩
def zr:TE:=fun _ H Q=>∀ p,H p=none->Q (.ref p) (upd H p (.dK []))
section
variable {X:Cx} {pos:Pos}
theorem GJ:PE X (.Dict [] [] pos) zr:=fun pins s U H Q I h=>
 wpAny_Dict_empty ⟨.ref s.heap.objs.size,_,I.laid (a:=s.heap.objs.size) (o:=.dK []) (t':=s.toks) (fun _ _ q=>Heap.get?_push_of_some _ q) (Nat.le_refl _) (GF s.heap I.big),rfl,h _ (I.hok.fresh (Nat.le_refl _))⟩
end
def KH (x:Str):It:=⟨fun i _=>i < x.cps.size,fun i H v H'=>H'=H/\∃ c,x.cps[i]?=some c/\v= .str ⟨#[c]⟩,fun i _=>i=x.cps.size⟩
theorem xG {P:Program} {w:World} {K:W.Frag} {tg:Expr} (it:Addr) (x:Str) (t:Tok) (ty:String)
  (hty:["enumerate","zip","dict_itemiterator","dict_reverseitemiterator","odict_iterator","itertools.zip_longest","itertools.pairwise"].contains ty=false)
  (W:∀ A:Around,A.handled=none->Walks P w A it [it] [it] x.cps.size (SignAt x) fun i h=>h.IsStrIter it ty x t i)
  (hself:∀ (A:Around) (i:Nat) (s:Shared) (Q:Value->Shared->Prop) (E:Value->Shared->Prop),s.heap.IsStrIter it ty x t i->Q (.ref it) s->wpAny (model P w) A (pyIter (.ref it)) Q E s):Turn P w K tg (KH x) [it] it (fun i h=>h.IsStrIter it ty x t i) where
 mem:=by simp
 obj:=fun i h st b hb=>by
  have e:b=it:=by simpa using hb
  subst e
  obtain ⟨o,e,c,d⟩:=st
  exact ⟨o,e,fun v z=>by rw [d] at z;cases z⟩
 keep:=fun i h h' st k=>by
  obtain ⟨o,e,r⟩:=st
  exact ⟨o,k it (by simp) o e,r⟩
 item:=by
  intro X hP hw hK hc i pins s U H E I hf st hg
  subst hP hw hK
  obtain ⟨f0,f1,f2,f3,f4,f5⟩:=hf it (by simp)
  refine (W X.A (I.ok.hd hc)).item i s _ _ hg st fun v h' tk hv st' kk=>?_
  obtain ⟨c,u,e1,rfl⟩:=hv
  have I1:Inv X pins U H {s with heap:=h',toks:=tk}:=I.turned (fun b o hb e=>kk b o (by simpa using hb) e) f0 f1 f3 f4 f5
  obtain ⟨o,e,cl,d⟩:=id st'
  exact ⟨_,rfl,u5 (s:={s with heap:=h',toks:=tk}) e cl d hty ⟨.str ⟨#[c]⟩,H,I1,⟨u,rfl⟩,⟨rfl,c,e1,rfl⟩,st',fun b hb=>(hf b hb).1⟩⟩
 done:=by
  intro X hP hw hK hc i pins s U H E I hf st hg
  subst hP hw hK
  obtain ⟨f0,f1,f2,f3,f4,f5⟩:=hf it (by simp)
  have hg:i=x.cps.size:=hg
  subst hg
  exact (W X.A (I.ok.hd hc)).done s _ _ st fun h' tk kk=>⟨rfl,I.turned (fun b o hb e=>kk b o (by simpa using hb) e) f0 f1 f3 f4 f5⟩
 self:=hself
section
variable {X:Cx}
theorem all_range {bs:List Bool}:(List.range bs.length).all (fun i=>bs.getD i false)=bs.all id:=by
 rw [Bool.eq_iff_iff]
 simp only [List.all_eq_true,List.mem_range]
 constructor
 ·intro h b hb
  obtain ⟨i,hi,e⟩:=List.mem_iff_getElem.mp hb
  have:=h i hi
  rw [List.getD_eq_getElem?_getD,List.getElem?_eq_getElem hi] at this
  simp only [Option.getD_some] at this
  rw [← e];exact this
 ·intro h i hi
  rw [List.getD_eq_getElem?_getD,List.getElem?_eq_getElem hi]
  exact h _ (List.getElem_mem hi)
theorem rK:∀ {bs:List Bool} {us:List Value} {i:Nat} {v:Value},Vals (bs.map V.bl) us->us[i]?=some v->v= .bool (bs.getD i false)
 | [],_,i,v,.nil,e=>by simp at e
 | b :: bs,_,0,v,.cons r t,e=>by simp at e;subst e;exact r
 | b :: bs,_,i+1,v,.cons r t,e=>by
  simp at e
  have:=rK (bs:=bs) t e
  simpa using this
def rAll:List V->Hp->VK->Prop:=fun xs H Q=>∃ (p:Addr) (bs:List Bool),xs=[.ref p]/\H p=some (.lst (bs.map V.bl))/\Q (.bl (bs.all id)) H
theorem tW (hc:X.calm=true):CallR X (.builtin "all") rAll:=by
 intro pins s U H xs us Q I r h
 obtain ⟨p,bs,rfl,hp,q⟩:=h
 obtain ⟨u,rfl,ru⟩:=vals1 r
 cases ru
 obtain ⟨hz,its,n,rv,e⟩:=I.hok p _ hp
 refine call_all_walk (wpAny_pyIter_list (items:=its.toArray) ⟨_,e,rfl,n,rfl⟩ ?_)
 refine ⟨s.heap.objs.size,_,_,_,_,_,fun i=>bs.getD i false,rfl,Walks.list (A:=X.A.in1) (I.ok.hd hc) s.heap.objs.size p (Nat.ne_of_lt (Heap.lt_size e)) its.toArray,⟨⟨_,Heap.get?_push_size _ rfl,rfl,rfl⟩,⟨_,Heap.get?_push_of_some _ e,rfl,n,rfl⟩⟩,?_,fun h' tk hk=>?_⟩
 ·intro i v s' Q' E' hv hq
  have:=rK rv (by simpa using hv)
  subst this
  exact wpAny_truthy_bool hq
 ·have hl:its.toArray.size=bs.length:=by have:=rv.length;simpa using this.symm
  rw [hl,all_range]
  refine ⟨.bl _,H,?_,rfl,q⟩
  exact I.kept fun b o e=>hk b o (by simp;exact Nat.ne_of_lt (Heap.lt_size e)) (Heap.get?_push_of_some _ e)
theorem tX:∀ {ys:List Str} {us:List Value},Vals (ys.map V.str) us->StrsAre us ys
 | [],_,.nil=>.nil
 | y :: ys,_,.cons r t=>by
  obtain ⟨k,e⟩:=(show ∃ t,_=Value.str y t from r)
  subst e
  exact .cons y k (tX t)
def rJoin:V->List V->Hp->VK->Prop:=fun x xs H Q=>∃ (sep:Str) (p:Addr) (ys:List Str),x= .str sep/\xs=[.ref p]/\H p=some (.lst (ys.map V.str))/\(ys.map (·.length)).sum+ys.length*sep.length<=16777216/\Q (.str (Txt.join sep ys)) H
theorem v8:Va X "str.join" rJoin:=by
 intro pins s U H x xs v us Q I rx r h
 obtain ⟨sep,p,ys,rfl,rfl,hp,hz,q⟩:=h
 obtain ⟨u,rfl,ru⟩:=vals1 r
 cases ru
 obtain ⟨t,rfl⟩:=rx
 obtain ⟨hz',its,n,rv,e⟩:=I.hok p _ hp
 exact join_list (items:=its.toArray) ⟨_,e,rfl,n,rfl⟩ (by simpa using tX rv) hz fun t' k=>⟨.str _,H,I.tok _,⟨_,rfl⟩,q⟩
def Vn:V->Option Int->Option Int->Hp->VK->Prop:=fun v lo hi H Q=>∃ x,v= .str x/\x.length<=sizeLine/\Q (.str (Txt.slice x lo hi)) H
theorem QR:SlR X Vn:=by
 intro pins s U H x v vl vu lo hi sl Q I rx hs pl pu h
 obtain ⟨z,rfl,hz,q⟩:=h
 obtain ⟨t,rfl⟩:=rx
 refine ⟨"str",_,F.slot_str_getitem.lookup,typeIs_str _ _ _,?_⟩
 have fin:∀ (t' k:Nat),EP X pins U Q (.str (Txt.slice z lo hi) t') {s with toks:=k}:=fun t' k=>⟨.str _,H,I.tok _,⟨_,rfl⟩,q⟩
 have sz:=Nat.le_trans (Txt.slice_le z lo hi) hz
 obtain ⟨o,ho,hc,hd⟩:=hs
 cases pl with
 | none=>
  cases pu with
  | none=>exact wpAny_getItem_str_slice (l:=none) (u:=none) (st:=none) ⟨o,ho,hc,hd⟩ rfl (post_val_or_str ⟨sz,fin⟩)
  | int j tj=>exact wpAny_getItem_str_slice (l:=none) (u:=some (j,tj)) (st:=none) ⟨o,ho,hc,hd⟩ rfl (post_val_or_str ⟨sz,fin⟩)
 | int i ti=>
  cases pu with
  | none=>exact wpAny_getItem_str_slice (l:=some (i,ti)) (u:=none) (st:=none) ⟨o,ho,hc,hd⟩ rfl (post_val_or_str ⟨sz,fin⟩)
  | int j tj=>exact wpAny_getItem_str_slice (l:=some (i,ti)) (u:=some (j,tj)) (st:=none) ⟨o,ho,hc,hd⟩ rfl (post_val_or_str ⟨sz,fin⟩)
def OJ:R2:=fun x y H Q=>∃ i n,x= .str i/\y= .int n/\MulOk i n/\Q (.str (Txt.mul i n)) H
theorem zu:OpR X (binaryOp .Mult) OJ:=by
 intro pins s U H x y v u Q I rx ry h
 obtain ⟨i,n,rfl,rfl,hk,q⟩:=h
 obtain ⟨t,rfl⟩:=rx
 obtain ⟨t',rfl⟩:=ry
 exact SB.mul hk fun t' k=>⟨.str _,H,I.tok _,⟨_,rfl⟩,q⟩
def sgn (x:Str):List V:=x.cps.toList.map fun c=>V.str ⟨#[c]⟩
theorem Dj {x:Str} {acc:Array Value} (h:ItemsOf (SignAt x) acc x.cps.size):Vals (sgn x) acc.toList:=by
 obtain ⟨h1,h2⟩:=h
 have key:∀ (l:List Nat) (a:List Value),l.length=a.length->(∀ (j:Nat) (v:Value),a[j]?=some v->∃ (c:Nat) (u:Tok),l[j]?=some c/\v=Value.str ⟨#[c]⟩ u)->Vals (l.map fun c=>V.str ⟨#[c]⟩) a:=by
  intro l
  induction l with
  | nil=>intro a hl _;cases a with
   | nil=>exact .nil
   | cons _ _=>simp at hl
  | cons c l ih=>
   intro a hl hh
   cases a with
   | nil=>simp at hl
   | cons v a=>
    obtain ⟨c',u,e1,e2⟩:=hh 0 v (by simp)
    simp at e1;subst e1
    refine .cons ⟨u,e2⟩ (ih a (by simpa using hl) fun j v' e=>?_)
    obtain ⟨c',u,e1,e2⟩:=hh (j+1) v' (by simpa using e)
    exact ⟨c',u,by simpa using e1,e2⟩
 refine key x.cps.toList acc.toList (by simp [h1]) fun j v e=>?_
 obtain ⟨c,u,e1,e2⟩:=h2 j v (by simpa using e)
 exact ⟨c,u,by simpa using e1,e2⟩
theorem xH (hc:X.calm=true):CallR X (.type "list") (fun xs H Q=>∃ x,xs=[.str x]/\x.cps.size<=sizeLine/\∀ p,H p=none->Q (.ref p) (upd H p (.lst (sgn x)))):=by
 intro pins s U H xs us Q I r h
 obtain ⟨x,rfl,hz,q⟩:=h
 obtain ⟨u,rfl,t,rfl⟩:=vals1 r
 refine call_list_str (I.ok.hd hc) x t (hn:=hz) fun h' tk acc' c' hk hS hacc=>?_
 refine ⟨.ref s.heap.objs.size,_,I.laid (o:=.lst (sgn x)) hk (Nat.le_refl _) ⟨by simp [sgn];exact hz,acc'.toList,c',Dj hacc,by simpa using hS⟩,rfl,q _ I.fresh⟩
def QS (K:W.Frag):List V->Hp->VK->Prop:=fun xs H Q=>∃ x T t b,xs=[x,.ty T]/\TyOf K H x t/\PySem.W.kitOne K t (.type T)=some b/\Q (.bl b) H
theorem GK:CallR X (.builtin "isinstance") (QS X.K):=by
 intro pins s U H xs us Q I r h
 obtain ⟨x,T,t,b,rfl,ty,e,q⟩:=h
 obtain ⟨u,v,rfl,ru,rv⟩:=vals2 r
 cases rv
 exact CW I ru ty e fun tk=>⟨.bl b,H,I.tok _,rfl,q⟩
def zx:List V->List V->Bool
 | [],[]=>true
 | x :: xs,y :: ys=>Bg x y && zx xs ys
 | _,_=>false
theorem tY:∀ (xs ys:List V),xs.length=ys.length->(List.range xs.length).all (fun j=>Bg (xs.getD j .non) (ys.getD j .non))=zx xs ys
 | [],[],_=>rfl
 | x :: xs,y :: ys,h=>by
  have ih:=tY xs ys (by simpa using h)
  rw [List.length_cons,List.range_succ_eq_map,List.all_cons,List.all_map]
  simp only [zx]
  rw [← ih]
  rfl
 | [],y :: ys,h=>by simp at h
 | x :: xs,[],h=>by simp at h
theorem xJ:∀ {xs ys:List V},xs.length≠ys.length->zx xs ys=false
 | [],[],h=>absurd rfl h
 | [],y :: ys,_=>rfl
 | x :: xs,[],_=>rfl
 | x :: xs,y :: ys,h=>by simp [zx,xJ (xs:=xs) (ys:=ys) (by simpa using h)]
def Vo (K:W.Frag) (neg:Bool):R2:=fun x y H Q=>∃ a b xs ys,x= .ref a/\y= .ref b/\SqL K H a xs/\SqL K H b ys/\xs.all jZ=true/\ys.all jZ=true/\Q (.bl (if neg then !zx xs ys else zx xs ys)) H
theorem Dk (hu:X.A.units < cLine):OpR X (compareOp .Eq) (Vo X.K false):=by
 intro pins s U H x y v u Q I rx ry h
 obtain ⟨a,b,xs,ys,rfl,rfl,ha,hb,fx,fy,q⟩:=h
 cases rx
 cases ry
 obtain ⟨its,r1,p1,z1⟩:=I.list ha
 obtain ⟨jts,r2,p2,z2⟩:=I.list hb
 have l1:its.toArray.size=xs.length:=by simpa using r1.length.symm
 have l2:jts.toArray.size=ys.length:=by simpa using r2.length.symm
 by_cases hl:xs.length=ys.length
 ·refine SeqAt.eq_listAt (e:=fun j=>Bg (xs.getD j .non) (ys.getD j .non)) p1.isList p2.isList (by rw [l1,l2];exact hl) hu (fun j h1 h2=>?_) ?_
  ·have h1':j < xs.length:=by omega
   have h2':j < ys.length:=by omega
   obtain ⟨u1,e1,q1⟩:=r1.get (List.getElem?_eq_getElem h1')
   obtain ⟨u2,e2,q2⟩:=r2.get (List.getElem?_eq_getElem h2')
   have e1':its.toArray[j]=u1:=by
    have:=List.getElem?_eq_some_iff.mp e1
    obtain ⟨_,z⟩:=this
    simpa using z
   have e2':jts.toArray[j]=u2:=by
    have:=List.getElem?_eq_some_iff.mp e2
    obtain ⟨_,z⟩:=this
    simpa using z
   rw [e1',e2']
   have g1:xs.getD j .non=xs[j]:=by rw [List.getD_eq_getElem?_getD,List.getElem?_eq_getElem h1'];rfl
   have g2:ys.getD j .non=ys[j]:=by rw [List.getD_eq_getElem?_getD,List.getElem?_eq_getElem h2'];rfl
   show SeqAt.EqAt X.A.in1 s u1 u2 (Bg (xs.getD j .non) (ys.getD j .non))
   rw [g1,g2]
   exact vZ q1 q2 (List.all_eq_true.mp fx _ (List.getElem_mem h1')) (List.all_eq_true.mp fy _ (List.getElem_mem h2'))
  ·rw [l1,tY xs ys hl]
   exact ⟨.bl _,H,I,rfl,q⟩
 ·refine SeqAt.eq_list_lengthsAt p1.isList p2.isList (by rw [l1,l2];simpa using hl) hu ?_
  rw [if_neg (by simp),xJ hl] at q
  exact ⟨.bl false,H,I,rfl,q⟩
end
def d8 (K:W.Frag) (mg:Str->Option Value) (x:Str) (st:Stmt):Prop:=∃ f fd,Fun K x x st f fd/\mg x=some (.ref f)
theorem bB {K:W.Frag} {mg:Str->Option Value} {h:Heap} (X:K.In h) (G:h.Ns mainGlobals mg) {x:Str} {st:Stmt} {f:Addr} {oc:Value} {od an:Option Addr} {osl:Array (Option Value)} {kV doc pm cdv ct:Value}
  (a:PySem.W.nsIn K mainGlobals x=some (some (.ref f)))
  (l:K.lookup f=some ⟨oc,od,.func (PySem.W.fnOf x x (iV st) (dJ st) (az st) .none kV doc pm an cdv ct),osl⟩)
  (c:PySem.W.codeIn K cdv x=true) (k:PySem.W.keepIn K (.ref f)=true):d8 K mg x st:=⟨f,_,Gx l c k,PySem.W.mg_of X G a⟩
def my (P:Program) (w:World) (K:W.Frag) (mg:Str->Option Value) (base:Heap) (k:Nat) (x:Str) (ps:List Str) (sp:Sp):Prop:=
 ∃ f fd,mg x=some (.ref f)/\PySem.W.keepIn K (.ref f)=true/\Binds K fd ps []/\rT P w K mg base Gw k f fd ps sp
section
variable {P:Program} {w:World} {K:W.Frag} {mg:Str->Option Value} {base:Heap}
theorem QT {x:Str} {st:Stmt} {N ps:List Str} {k:Nat} {sp:Sp} (D:d8 K mg x st) (S:aD N ps (az st))
  (hb:∀ (kV doc pm:Value) (an:Option Addr) (cdv ct:Value) (us:List Value),us.length=ps.length->bindArgs (PySem.W.fnOf x x (iV st) (dJ st) (az st) .none kV doc pm an cdv ct) ⟨us,[]⟩=pure (ps.zip us))
  (len:∀ vs H Q E,sp vs H Q E->vs.length=ps.length)
  (hbody:∀ (f:Addr) (cdv:Value) (A:Around) (outer:List Env) (s:Shared) (H:Hp) (vs:List V) (Q:VK) (E:XK),Room k (A.deeper (envOfC x (az st) s.heap.objs.size f cdv))->sp vs H Q E->
   ∃ t,PSs (qM Gw P w K mg base N x (az st) f cdv A outer s H E).nox (dJ st) t/\t {nx:=fun _ H'=>Q .non H',rt:=Q} (start N vs) H):my P w K mg base (k+1) x ps sp:=by
 obtain ⟨f,fd,F,hm⟩:=D
 exact ⟨f,fd,hm,F.kp,F.binds hb,F.ok S len fun cdv A outer s H vs Q E hr h=>hbody f cdv A outer s H vs Q E hr h⟩
end
section
variable {X:Cx}
theorem GP {k:Nat} {x:Str} {ps:List Str} {sp:Sp} {p pos:Pos} {e:Expr} {es:List Expr} {t:TA} (F:my X.prog X.w X.K X.mg X.base k x ps sp) (hr:Room k X.A) (hg:Gl X x)
  (ha:PA X (e :: es) t) (hdb:autoParam ((x == ("__debug__":Str))=false) L2.auto2._auto_1) (he:autoParam (starEach (e :: es) X.env=(false,eval e X.env) :: starEach es X.env) L2.auto4._auto_1) (hpl:autoParam ((backTo pos (starEach es X.env)).any (·.1)=false) L2.auto4._auto_1):
  PE X (.Call (.Name x p) (e :: es) [] pos) (vd sp [] E0 t):=by
 obtain ⟨f,fd,a,b,c,d⟩:=F
 exact Ku d hr hg a b c .nil Vk ha hdb he hpl
def Bl:R2:=fun x y H Q=>(∃ i j,x= .int i/\y= .int j/\Q (.int (i+j)) H)\/(∃ i j,x= .str i/\y= .str j/\i.length+j.length<=sizeLine/\Q (.str (i ++ j)) H)\/Vi x y H Q
theorem aU:OpR X (binaryOp .Add) Bl:=Qp.or (yZ.or QL)
def GQ:R2:=fun x y H Q=>(∃ i j,x= .int i/\y= .int j/\CMul i j/\Q (.int (i*j)) H)\/OJ x y H Q\/Vj x y H Q
theorem iW:OpR X (binaryOp .Mult) GQ:=Qq.or (zu.or QM)
theorem GR {x:Str} {z:Str} {pos:Pos} (hg:Gl X x) (hm:∃ t,X.mg x=some (.str z t)) (hd:autoParam ((x == ("__debug__":Str))=false) L2.auto2._auto_1):PE X (.Name x pos) (tC (.str z)):=
 let ⟨t,e⟩:=hm;Av hg e ⟨t,rfl⟩ hd
theorem GX {x:Str} {z:Int} {pos:Pos} (hg:Gl X x) (hm:∃ t,X.mg x=some (.int z t)) (hd:autoParam ((x == ("__debug__":Str))=false) L2.auto2._auto_1):PE X (.Name x pos) (tC (.int z)):=
 let ⟨t,e⟩:=hm;Av hg e ⟨t,rfl⟩ hd
theorem Vp {x:Str} {T:String} {pos:Pos} (hg:Gl X x) (hm:X.mg x=none) (hv:bootBuiltins x=some (.type T)) (hn:autoParam (x≠"__name__") L2.auto2._auto_1) (hd:autoParam ((x == ("__debug__":Str))=false) L2.auto2._auto_1):PE X (.Name x pos) (tC (.ty T)):=
 JP hg hm hv rfl hn hd
def KJ (K:W.Frag):R2:=fun x y H Q=>(∃ i j,x= .str i/\y= .str j/\Q (.bl (!(Builtin.Str.occurrences j i 0 j.length 1).isEmpty)) H)\/rIn K false x y H Q
theorem QV:OpR X (compareOp .In) (KJ X.K):=CP.or Dd
def QW (K:W.Frag):R2:=fun x y H Q=>rEq x y H Q\/Vo K false x y H Q
theorem QX (hu:X.A.units < cLine):OpR X (compareOp .Eq) (QW X.K):=UW.or (Dk hu)
def Vq (K:W.Frag):V->Option Int->Option Int->Hp->VK->Prop:=fun x lo hi H Q=>Vf K x lo hi H Q\/U9 K x lo hi H Q\/Vn x lo hi H Q
theorem GZ:SlR X (Vq X.K):=Kz.or (QD.or QR)
def KN (K:W.Frag) (tl:TE):TI:=fun U H R=>tl U H fun x H1=>(∃ a,x= .ref a/\(∃ xs,SqL K H1 a xs)/\R (Ot K a) H1)\/(∃ a,x= .ref a/\(∃ xs,SqT K H1 a xs)/\R (Ou K a) H1)\/(∃ z,x= .str z/\R (KH z) H1)
theorem QZ {tg l:Expr} {tl:TE} (hl:PE X l tl):PI X tg l (KN X.K tl):=by
 intro pins s U H R I h
 refine fM (hl pins s U H _ I h) fun v s1 qq0=>?_
 obtain ⟨x,H1,I1,r1,q1⟩:=qq0
 rcases q1 with ⟨a,rfl,⟨xs,hq⟩,q⟩ | ⟨a,rfl,⟨xs,hq⟩,q⟩ | ⟨z,rfl,q⟩
 ·cases r1
  obtain ⟨its,rv,p,hz⟩:=I1.list hq
  refine wpAny_pyIter_list p.isList ?_
  refine ⟨s1.heap.objs.size,[s1.heap.objs.size],_,_,H1,rfl,I1.kept (t':=s1.toks) fun b o e=>Heap.get?_push_of_some _ e,CG a _,⟨_,Heap.get?_push_size _ rfl,rfl,rfl⟩,fun b hb=>?_,q⟩
  have e:b=s1.heap.objs.size:=by simpa using hb
  subst e
  exact I1.fpOk (Nat.le_refl _) (I1.hok.fresh (Nat.le_refl _))
 ·cases r1
  obtain ⟨its,rv,p,hz⟩:=I1.tuple hq
  refine wpAny_pyIter_tuple (show s1.heap.IsTuple a its.toArray from p) ?_
  refine ⟨s1.heap.objs.size,[s1.heap.objs.size],_,_,H1,rfl,I1.kept (t':=s1.toks) fun b o e=>Heap.get?_push_of_some _ e,yV a _,⟨_,Heap.get?_push_size _ rfl,rfl,rfl⟩,fun b hb=>?_,q⟩
  have e:b=s1.heap.objs.size:=by simpa using hb
  subst e
  exact I1.fpOk (Nat.le_refl _) (I1.hok.fresh (Nat.le_refl _))
 ·obtain ⟨t,rfl⟩:=r1
  have fin:∀ (ty:String) (T:Turn X.prog X.w X.K tg (KH z) [s1.heap.objs.size] s1.heap.objs.size (fun i h=>h.IsStrIter s1.heap.objs.size ty z t i)) (o:Obj),(s1.heap.push o).IsStrIter s1.heap.objs.size ty z t 0->PIE X pins U tg R (.ref s1.heap.objs.size) {s1 with heap:=s1.heap.push o}:=
   fun ty T o st=>⟨s1.heap.objs.size,[s1.heap.objs.size],_,_,H1,rfl,I1.kept (t':=s1.toks) fun b o e=>Heap.get?_push_of_some _ e,T,st,fun b hb=>by
    have e:b=s1.heap.objs.size:=by simpa using hb
    subst e
    exact I1.fpOk (Nat.le_refl _) (I1.hok.fresh (Nat.le_refl _)),q⟩
  cases ha:z.cps.all (· < 128)
  ·exact wpAny_pyIter_wide ha (fin "str_iterator" (xG _ z t _ (by decide) (fun A' hA=>Walks.strWide hA _ z t) fun A i s Q E st h=>wpAny_pyIter_striter_wide st h) _ ⟨_,Heap.get?_push_size _ rfl,rfl,rfl⟩)
  ·exact wpAny_pyIter_ascii ha (fin "str_ascii_iterator" (xG _ z t _ (by decide) (fun A' hA=>Walks.strAscii hA _ z t) fun A i s Q E st h=>wpAny_pyIter_striter_ascii st h) _ ⟨_,Heap.get?_push_size _ rfl,rfl,rfl⟩)
end
section
variable {X:Cx} {K:W.Frag}
theorem KQ (hK:X.K=K):IxR X (QH K):=hK ▸ QJ
theorem G5 (hK:X.K=K):OpR X (compareOp .In) (KJ K):=hK ▸ QV
theorem Q0 (hK:X.K=K) (hu:X.A.units < cLine):OpR X (compareOp .Eq) (QW K):=hK ▸ QX hu
theorem KR (hK:X.K=K):SlR X (Vq K):=hK ▸ GZ
theorem KY {tg l:Expr} {tl:TE} (hK:X.K=K) (hl:PE X l tl):PI X tg l (KN K tl):=hK ▸ QZ hl
def Dl (K:W.Frag):List V->Hp->VK->Prop:=fun xs H Q=>∃ x n,xs=[x]/\U8 K x H n/\Q (.int n) H
theorem aG (hK:X.K=K):CallR X (.builtin "len") (Dl K):=hK ▸ Gj
theorem gY (hK:X.K=K):CallR X (.builtin "isinstance") (QS K):=hK ▸ GK
def G6 (K:W.Frag):List V->Hp->VK->Prop:=fun xs H Q=>(∃ p ys,xs=[.ref p]/\(SqL K H p ys\/SqT K H p ys)/\∀ l,H l=none->Q (.ref l) (upd H l (.lst ys)))\/(∃ x,xs=[.str x]/\x.cps.size<=sizeLine/\∀ p,H p=none->Q (.ref p) (upd H p (.lst (sgn x))))
theorem o5 (hK:X.K=K) (hc:X.calm=true):CallR X (.type "list") (G6 K):=hK ▸ v5.or (xH hc)
variable {o e:Expr} {es:List Expr} {to:TE} {t:TA} {name:Str} {apos cpos:Pos} {T id:String} {r:V->List V->Hp->VK->Prop}
theorem Q3 (hK:X.K=K) (pa:PlainAttrs T) (slot:Slot T name id) (hty:typeOf (.builtin id)=pure (.type "method_descriptor")) (hm:Va X id r) (ho:PE X o to) (ha:PA X (e :: es) t)
  (hbase:autoParam (attributeBase o name X.env (eval o X.env)=eval o X.env) L2.auto4._auto_1)
  (hfew:((backTo cpos (starEach (e :: es) X.env)).all (fun x=>!x.1) && (backToKw cpos (keywordEach [] X.env)).all (fun x=>x.1.isSome)
   && decide ((e :: es).length+([]:List Keyword).length+(if ([]:List Keyword).isEmpty then 0 else 1) < 30))=true:=by rfl)
  (hline:autoParam ((apos.endLine == cpos.line)=true) L2.auto4._auto_1) (hs:autoParam (starEach (e :: es) X.env=(false,eval e X.env) :: starEach es X.env) L2.auto4._auto_1) (hplain:autoParam ((backTo cpos (starEach es X.env)).any (·.1)=false) L2.auto4._auto_1):
  PE X (.Call (.Attribute o name apos) (e :: es) [] cpos) (Vg K T r to t):=by
 subst hK;exact Vh pa slot hty hm ho ha hbase hfew hline hs hplain
theorem KZ {ts:List Expr} {k:Nat} {gs:yN} {n:Nat} {pos:Pos} (hK:X.K=K) (hc:X.calm=true) (h:Uq X ts gs)
  (hn:autoParam ((assignEach ts X.env).length=n) L2.auto4._auto_1) (hst:autoParam ((assignEach ts X.env).findIdx? (·.1)=none) L2.auto4._auto_1):PG X (.Tuple ts k pos) (J8 K n gs):=by
 subst hK;exact FZ hc h hn hst
end
section
variable {X:Cx} {sc scope:Scope} {N':List Str} {C:Addr} {s₀:Shared} {H₀:Hp} {ex:List Addr} {x:Str} {pos:Pos}
theorem pvL (i:Nat) (h:sc.names.lookup x=some .local) (hN:autoParam (X.N[i]?=some x) L2.auto4._auto_1) (hsc:autoParam (X.env.scope=sc) L2.auto4._auto_1) (hd:autoParam ((x == ("__debug__":Str))=false) L2.auto6._auto_1) (hcd:autoParam ((x == ("__classdict__":Str))=false) L2.auto6._auto_1):
  PE X (.Name x pos) (uK i):=vR hN (.inl (by rw [hsc];exact h)) hd hcd
theorem pvC (i:Nat) (h:sc.names.lookup x=some .cell) (hN:autoParam (X.N[i]?=some x) L2.auto4._auto_1) (hsc:autoParam (X.env.scope=sc) L2.auto4._auto_1) (hd:autoParam ((x == ("__debug__":Str))=false) L2.auto6._auto_1) (hcd:autoParam ((x == ("__classdict__":Str))=false) L2.auto6._auto_1):
  PE X (.Name x pos) (uK i):=vR hN (.inr (.inl (by rw [hsc];exact h))) hd hcd
theorem pvBL (i:Nat) (h:scope.names.lookup x=some .local) (hN:autoParam (N'[i]?=some x) L2.auto4._auto_1) (hd:autoParam ((x == ("__debug__":Str))=false) L2.auto6._auto_1) (hcd:autoParam ((x == ("__classdict__":Str))=false) L2.auto6._auto_1):
  PE (nP X N' scope C s₀ H₀ ex) (.Name x pos) (uK i):=vR hN (.inl (lookup_relabel_local h)) hd hcd
theorem pvBF (i:Nat) (h:scope.names.lookup x=some .free) (hN:autoParam (N'[i]?=some x) L2.auto4._auto_1) (hd:autoParam ((x == ("__debug__":Str))=false) L2.auto6._auto_1) (hcd:autoParam ((x == ("__classdict__":Str))=false) L2.auto6._auto_1):
  PE (nP X N' scope C s₀ H₀ ex) (.Name x pos) (uK i):=vR hN (by
   rcases pQ (env:=X.env) h with z | z
   ·exact .inr (.inl z)
   ·exact .inr (.inr z)) hd hcd
theorem bf (h:sc.names.lookup x=some .globalImplicit) (hsc:autoParam (X.env.scope=sc) L2.auto4._auto_1):Gl X x:=by
 show X.env.scope.names.lookup x=_
 rw [hsc];exact h
theorem jl {env:Env}:∀ {names:List (Str×NameKind)} {x:Str},names.lookup x=some .globalImplicit->
  (names.map fun (n,k)=>if (k == NameKind.free && env.scope.kind == .function && env.kindOf n == some .cell) then (n,NameKind.cell) else (n,k)).lookup x=some .globalImplicit
 | [],_,h=>by simp at h
 | (n,k) :: r,x,h=>by
  have ih:=@jl env r x
  show List.lookup x ((if (k == NameKind.free && env.scope.kind == .function && env.kindOf n == some .cell)=true then (n,NameKind.cell) else (n,k)) :: _)=_
  cases hx:x == n with
  | true=>
   simp only [List.lookup_cons,hx] at h
   cases h
   simp [List.lookup_cons,hx]
  | false=>
   simp only [List.lookup_cons,hx] at h
   by_cases hc:(k == NameKind.free && env.scope.kind == .function && env.kindOf n == some .cell)=true
   ·rw [if_pos hc];simp only [List.lookup_cons,hx];exact ih h
   ·rw [if_neg hc];simp only [List.lookup_cons,hx];exact ih h
theorem O1 (h:scope.names.lookup x=some .globalImplicit):Gl (nP X N' scope C s₀ H₀ ex) x:=jl h
theorem pgB (i:Nat) (h:scope.names.lookup x=some .local) (hN:N'.Nodup) (hi:autoParam (N'[i]?=some x) L2.auto4._auto_1):PG (nP X N' scope C s₀ H₀ ex) (.Name x pos) (oM i):=
 Ax hN hi (.inl (lookup_relabel_local h)) (.inr (lookup_relabel_local h))
end
def j4:Expr->Bool
 | .ListComp ..=>false | .SetComp ..=>false | .DictComp ..=>false | _=>true
theorem xK {value:Expr} {target:Option Expr} {line:Nat} {env:Env} (h:j4 value=true):swapsWith value target line env=pure false:=by
 cases value <;> first | rfl | cases h
def pU:Expr->Bool
 | .Slice ..=>false | _=>true
theorem pix {b:Expr} (h:pU b=true):Bf b:=by
 intro o i
 cases b <;> first | rfl | cases h
def qN:Expr->Bool
 | .Set ..=>false | _=>true
theorem G7 {e:Expr} {env:Env} (h:qN e=true):∀ x,foldedSetIterable e env x=pure x:=by
 intro x
 cases e <;> first | rfl | cases h
def notStar:Expr->Bool
 | .Starred ..=>false | _=>true
theorem bV {e:Expr} {es:List Expr} {env:Env} (h:notStar e=true):starEach (e :: es) env=(false,eval e env) :: starEach es env:=by
 cases e <;> first | rfl | cases h
theorem o6 {env:Env} {pos:Pos}:∀ {es:List Expr},es.all notStar=true->(backTo pos (starEach es env)).any (·.1)=false
 | [],_=>rfl
 | e :: es,h=>by
  simp only [List.all_cons,Bool.and_eq_true] at h
  rw [bV h.1]
  show (false || (backTo pos (starEach es env)).any (·.1))=false
  rw [o6 h.2];rfl
theorem G8 {env:Env} {pos:Pos}:∀ {es:List Expr},es.all notStar=true->(backTo pos (starEach es env)).all (fun x=>!x.1)=true
 | [],_=>rfl
 | e :: es,h=>by
  simp only [List.all_cons,Bool.and_eq_true] at h
  rw [bV h.1]
  show (true && (backTo pos (starEach es env)).all (fun x=>!x.1))=true
  rw [G8 h.2];rfl
section
variable {X:Cx} {K:W.Frag} {e:Expr} {es:List Expr} {te:TE} {t:TA} {pos p:Pos}
theorem paC (ha:PE X e te) (hr:PA X es t) (h:autoParam (notStar e=true) L2.auto4._auto_1):PA X (e :: es) (Bc te t):=Kp ha hr (bV h)
theorem Vr {k:Nat} {x:Str} {ps:List Str} {sp:Sp} (F:my X.prog X.w X.K X.mg X.base k x ps sp) (hr:Room k X.A) (hg:Gl X x) (ha:PA X (e :: es) t) (hdb:(x == ("__debug__":Str))=false) (h:autoParam ((e :: es).all notStar=true) L2.auto4._auto_1):
  PE X (.Call (.Name x p) (e :: es) [] pos) (vd sp [] E0 t):=by
 simp only [List.all_cons,Bool.and_eq_true] at h
 exact GP F hr hg ha hdb (bV h.1) (o6 h.2)
theorem Vs {x:Str} {id:String} {r:List V->Hp->VK->Prop} (hc:CallR X (.builtin id) r) (hg:Gl X x) (hm:X.mg x=none) (hv:bootBuiltins x=some (.builtin id)) (ha:PA X (e :: es) t) (hn:x≠"__name__") (hdb:(x == ("__debug__":Str))=false) (h:autoParam ((e :: es).all notStar=true) L2.auto4._auto_1):
  PE X (.Call (.Name x p) (e :: es) [] pos) (QC r t):=by
 simp only [List.all_cons,Bool.and_eq_true] at h
 exact Gn hc hg hm hv ha hn hdb (bV h.1) (o6 h.2)
theorem Q4 {x:Str} {T:String} {r:List V->Hp->VK->Prop} (hc:CallR X (.type T) r) (hg:Gl X x) (hm:X.mg x=none) (hv:bootBuiltins x=some (.type T)) (ha:PA X (e :: es) t) (hn:x≠"__name__") (hdb:(x == ("__debug__":Str))=false) (h:autoParam ((e :: es).all notStar=true) L2.auto4._auto_1):
  PE X (.Call (.Name x p) (e :: es) [] pos) (QC r t):=by
 simp only [List.all_cons,Bool.and_eq_true] at h
 exact Dc hc hg hm hv ha hn hdb (bV h.1) (o6 h.2)
def sU:Expr->Bool
 | .Call ..=>false | _=>true
theorem Vt {o:Expr} {f:Str} {env:Env} {w:Sem Value} (h:sU o=true):attributeBase o f env w=w:=by
 cases o <;> first | rfl | cases h
theorem Vu {o:Expr} {to:TE} {name:Str} {apos cpos:Pos} {T id:String} {r:V->List V->Hp->VK->Prop} (hK:X.K=K) (pa:PlainAttrs T) (slot:Slot T name id) (hty:typeOf (.builtin id)=pure (.type "method_descriptor")) (hm:Va X id r) (ho:PE X o to) (ha:PA X (e :: es) t)
  (hbase:autoParam (sU o=true) L2.auto4._auto_1) (hl:autoParam (es.length < 20) L2.auto2._auto_1) (hline:autoParam ((apos.endLine == cpos.line)=true) L2.auto4._auto_1) (h:autoParam ((e :: es).all notStar=true) L2.auto4._auto_1):
  PE X (.Call (.Attribute o name apos) (e :: es) [] cpos) (Vg K T r to t):=by
 have hA:=G8 (env:=X.env) (pos:=cpos) h
 simp only [List.all_cons,Bool.and_eq_true] at h
 refine Q3 hK pa slot hty hm ho ha (Vt hbase) ?_ hline (bV h.1) (o6 h.2)
 rw [hA]
 have:(e :: es).length+([]:List Keyword).length+(if ([]:List Keyword).isEmpty then 0 else 1) < 30:=by simp;omega
 rw [decide_eq_true this];rfl
theorem Vv {i:Nat} {x:Str} {pos':Pos} (hN:X.N.Nodup) (hi:X.N[i]?=some x) (hx:Loc X.env.scope x) (he:PE X e te) (hf:X.fn x=true) (h:autoParam (j4 e=true) L2.auto4._auto_1):PS X (.Assign [.Name x pos'] e pos) (vV te (oM i)):=
 Gb hN hi hx he (xK h) (.inl hf)
theorem Q5 (he:PE X e te) (h:autoParam (j4 e=true) L2.auto4._auto_1):PS X (.Expr e pos) (Aw te):=JX he (xK h)
theorem ixE {a b:Expr} {ta tb:TE} (hK:X.K=K) (ha:PE X a ta) (hb:PE X b tb) (h:autoParam (pU b=true) L2.auto4._auto_1):PE X (.Subscript a b pos) (JL (QH K) ta tb):=Vb (KQ hK) ha hb (pix h)
theorem Vw {tg iter:Expr} {body:List Stmt} {wi:TI} {g:TG} {tb:TS} (hp:PassesOwn (model X.prog X.w) X.A X.env X.xe) (hc:X.calm=true) (hi:PI X tg iter wi) (hg:PG X tg g) (hb:PSs X body tb) (h:autoParam (qN iter=true) L2.auto4._auto_1):PS X (.For tg iter body [] pos) (J9 wi g tb):=
 Qn hp hc hi hg hb (G7 h)
end
section
variable {X:Cx} {tg iter elt:Expr} {ifs:List Expr} {scope:Scope} {pos:Pos} {N':List Str} {sub:List (Option Nat)} {wi:TI} {g:TG} {tt:TT} {te:TE} {N:List Str} {sc:Scope}
theorem Vx (S:rJ N sc N' scope sub) (hc:X.calm=true) (hN:X.N=N) (hsc:X.env.scope=sc) (hi:PI X tg iter wi)
  (hg:∀ (C:Addr) (s₀:Shared) (H₀:Hp) (ex:List Addr),PG (nP X N' scope C s₀ H₀ ex) tg g)
  (ht:∀ (C:Addr) (s₀:Shared) (H₀:Hp) (ex:List Addr),xr (nP X N' scope C s₀ H₀ ex) ifs tt)
  (he:∀ (C:Addr) (s₀:Shared) (H₀:Hp) (ex:List Addr),PE (nP X N' scope C s₀ H₀ ex) elt te) (h:autoParam (qN iter=true) L2.auto4._auto_1):
  PE X (.ListComp elt [⟨tg,iter,ifs,0⟩] scope pos) (tV sub wi g tt te):=Bj S hc hN hsc hi hg ht he (G7 h)
end
theorem bz:bootBuiltins "len"=some (.builtin "len"):=by trivial
theorem G9:bootBuiltins "min"=some (.builtin "min"):=by trivial
theorem bW:bootBuiltins "isinstance"=some (.builtin "isinstance"):=by trivial
theorem zy:bootBuiltins "all"=some (.builtin "all"):=by trivial
theorem vA:bootBuiltins "sorted"=some (.builtin "sorted"):=by trivial
theorem lK:bootBuiltins "list"=some (.type "list"):=by trivial
theorem xM:bootBuiltins "tuple"=some (.type "tuple"):=by trivial
theorem zA:bootBuiltins "int"=some (.type "int"):=by trivial
theorem Ha:bootBuiltins "str"=some (.type "str"):=by trivial
theorem pW:bootBuiltins "enumerate"=some (.type "enumerate"):=by trivial
theorem Q6:bootBuiltins "zip"=some (.type "zip"):=by trivial
theorem mK:bootBuiltins "reversed"=some (.type "reversed"):=by trivial
theorem Bm:bootBuiltins "bool"=some (.type "bool"):=by trivial
theorem qO {c A B:Prop} [Decidable c] (h1:c->A) (h2:¬ c->B):if decide c=true then A else B:=by
 by_cases h:c
 ·rw [if_pos (decide_eq_true h)];exact h1 h
 ·rw [if_neg (by rw [decide_eq_false h];exact Bool.false_ne_true)];exact h2 h
theorem v9 {α:Type} {xs:List α} {k:Int} {v:α} (h0:0<=k) (h:xs[k.toNat]?=some v):wX xs k=some v:=by
 have e:((k.toNat:Nat):Int)=k:=by omega
 rw [← e]
 exact cu h
section
variable {U:St} {H:Hp} {D:Ends} {ta tb te tc:TE} {tt tu:TT} {Q:VK} {t u:TS} {g:TG}
theorem oO (h:t {D with nx:=u D} U H):FJ t u D U H:=h
theorem fQ (h:D.nx U H):Fz D U H:=h
theorem jm (h:te U H fun x H1=>g x U H1 D.nx):vV te g D U H:=h
theorem fU {i:Nat} {v:V} {R:St->Hp->Prop} (h:R (U.set i (some v)) H):oM i v U H R:=h
theorem jn {to ti:TE} {ts:yU} {v:V} {R:St->Hp->Prop} (h:to U H fun o H1=>ti U H1 fun i H2=>ts o i v H2 fun H3=>R U H3):Ql to ti ts v U H R:=h
theorem jo (h:te U H D.rt):Qh te D U H:=h
theorem fV (h:te U H fun _ H1=>D.nx U H1):Aw te D U H:=h
theorem nQ (h:tt U H fun b H1=>if b=true then t D U H1 else u D U H1):Qj tt t u D U H:=h
theorem fW {R:Bool->Hp->Prop} (h:te U H fun x H1=>∃ k,x= .bl k/\R k H1):Gh te U H R:=h
theorem nU {R:Bool->Hp->Prop} (h:te U H fun x H1=>∃ k,x= .bl k/\R k H1):tB te U H R:=h
theorem jq {R:Bool->Hp->Prop} (h:tt U H fun c H1=>R (!c) H1):P0 tt U H R:=h
theorem jr {R:Bool->Hp->Prop} (h:tt U H fun c H1=>if c=true then tu U H1 R else R false H1):PX tt tu U H R:=h
theorem nY {R:Bool->Hp->Prop} (h:tt U H fun c H1=>if c=true then R true H1 else tu U H1 R):tOr tt tu U H R:=h
theorem fX (h:ta U H fun x H1=>∃ c,x= .bl c/\if c=true then tb U H1 Q else Q (.bl false) H1):Fw ta tb U H Q:=h
theorem fY (h:ta U H fun x H1=>∃ c,x= .bl c/\Q (.bl (!c)) H1):Fx ta U H Q:=h
theorem jt (h:tt U H fun c H1=>if c=true then ta U H1 Q else tb U H1 Q):tIf tt ta tb U H Q:=h
theorem ju {i:Nat} {v:V} (e:U[i]?=some (some v)) (h:Q v H):uK i U H Q:=⟨v,e,h⟩
theorem yO {v:V} (h:Q v H):tC v U H Q:=h
theorem nZ {r:R2} (h:ta U H fun x H1=>tb U H1 fun y H2=>r x y H2 Q):JL r ta tb U H Q:=h
theorem oh {r:V->Hp->VK->Prop} (h:ta U H fun x H1=>r x H1 Q):tUn r ta U H Q:=h
theorem ou {r:List V->Hp->VK->Prop} {a:TA} (h:a U H fun vs H1=>r vs H1 Q):QC r a U H Q:=h
theorem fZ {a:TA} {R:List V->Hp->Prop} (h:te U H fun x H1=>a U H1 fun xs H2=>R (x :: xs) H2):Bc te a U H R:=h
theorem jw {R:List V->Hp->Prop} (h:R [] H):Ko U H R:=h
theorem f9 {sp:Sp} {E:XK} {a:TA} (h:a U H fun vs H1=>sp vs H1 Q E):vd sp [] E a U H Q:=by
 unfold vd
 simpa only [List.append_nil] using h
theorem rM {a:TA} (h:a U H fun xs H1=>xs.length<=sizeLine/\∀ p,H1 p=none->Q (.ref p) (upd H1 p (.tup xs))):Kq a U H Q:=h
theorem rN {a:TA} (h:a U H fun xs H1=>xs.length<=sizeLine/\∀ p,H1 p=none->Q (.ref p) (upd H1 p (.lst xs))):Ks a U H Q:=h
theorem oA {K:W.Frag} {T:String} {r:V->List V->Hp->VK->Prop} {a:TA} (h:te U H fun x H1=>tyV K T x H1/\a U H1 fun xs H2=>r x xs H2 Q):Vg K T r te a U H Q:=h
theorem oE {r:V->Option Int->Option Int->Hp->VK->Prop} {tl th:TO} (h:te U H fun x H1=>tl U H1 fun l H2=>th U H2 fun u H3=>r x l u H3 Q):tSl r te tl th U H Q:=h
theorem jx {R:Option Int->Hp->Prop} (h:R none H):vW U H R:=h
theorem gb {R:Option Int->Hp->Prop} (h:te U H fun x H1=>∃ i,x= .int i/\R (some i) H1):Gq te U H R:=h
theorem gf {R:Bool->Hp->Prop} (h:R true H):Gz U H R:=h
theorem gj {a:TA} {R:It->Hp->Prop} (h:a U H fun vs H1=>∃ j:Int,vs=[.int j]/\-(2 ^ 62)<=j/\j < 2 ^ 62/\R (Fo 0 j.toNat) H1):Gd a U H R:=h
theorem gk {a:TA} {R:It->Hp->Prop} (h:a U H fun vs H1=>∃ i j:Int,vs=[.int i,.int j]/\(-(2 ^ 62)<=i/\i < 2 ^ 62/\-(2 ^ 62)<=j/\j < 2 ^ 62)/\R (Fo i (j - i).toNat) H1):Ge a U H R:=h
theorem gm {K:W.Frag} {R:It->Hp->Prop} (h:te U H fun x H1=>(∃ a,x= .ref a/\(∃ xs,SqL K H1 a xs)/\R (Ot K a) H1)\/(∃ a,x= .ref a/\(∃ xs,SqT K H1 a xs)/\R (Ou K a) H1)\/(∃ z,x= .str z/\R (KH z) H1)):KN K te U H R:=h
theorem gn {sub:List (Option Nat)} {wi:TI} (h:wi U H fun J H1=>mJ sub g tt te U Q J H1):tV sub wi g tt te U H Q:=h
theorem jy {wi:TI} {tbd:TS} (h:wi U H fun J H1=>∃ W:Nat->Nat->St->Hp->Prop,(∃ m,W 0 m U H1)/\∀ i m U H,W i m U H->
 (J.stop i H/\D.nx U H)\/(J.go i H/\∃ N:St->Hp->Prop,(∀ U' H',N U' H'->∃ m',m' < m/\W (i+1) m' U' H')/\∀ x H',J.yld i H x H'->g x U H' fun σ2 H2=>tbd {D with nx:=N,ct:=N,bk:=D.nx} σ2 H2)):J9 wi g tbd D U H:=h
variable {i j:Int} {x y:Str} {f:Int->Int->V} {C:Int->Int->Prop} {K:W.Frag}
theorem oF (h:Q (f i j) H):Kc f (.int i) (.int j) H Q:=⟨_,_,rfl,rfl,h⟩
theorem yP (c:C i j) (h:Q (f i j) H):rI C f (.int i) (.int j) H Q:=⟨_,_,rfl,rfl,c,h⟩
theorem gq (h:Q (.int (i+j)) H):Bl (.int i) (.int j) H Q:=.inl ⟨_,_,rfl,rfl,h⟩
theorem Hb (c:x.length+y.length<=sizeLine) (h:Q (.str (x ++ y)) H):Bl (.str x) (.str y) H Q:=.inr (.inl ⟨_,_,rfl,rfl,c,h⟩)
theorem Q7 {a b:Addr} {xs ys:List V} (ha:H a=some (.lst xs)) (hb:H b=some (.lst ys)) (c:xs.length+ys.length<=sizeLine) (h:∀ p,H p=none->Q (.ref p) (upd H p (.lst (xs ++ ys)))):Bl (.ref a) (.ref b) H Q:=
 .inr (.inr ⟨a,b,xs,ys,rfl,rfl,ha,hb,c,h⟩)
theorem gr (c:CMul i j) (h:Q (.int (i*j)) H):GQ (.int i) (.int j) H Q:=.inl ⟨_,_,rfl,rfl,c,h⟩
theorem bF {p:Addr} {xs:List V} {v:V} (s:SqL K H p xs) (e:wX xs i=some v) (h:Q v H):QH K (.ref p) (.int i) H Q:=.inl ⟨p,xs,i,v,rfl,rfl,s,e,h⟩
theorem iD {p:Addr} {xs:List V} {v:V} (s:SqT K H p xs) (e:wX xs i=some v) (h:Q v H):QH K (.ref p) (.int i) H Q:=.inr (.inl ⟨p,xs,i,v,rfl,rfl,s,e,h⟩)
theorem O2 {c:Nat} (s:x.length<=sizeLine) (e:wX x.cps.toList i=some c) (h:Q (.str ⟨#[c]⟩) H):QH K (.str x) (.int i) H Q:=.inr (.inr ⟨x,i,c,rfl,rfl,s,e,h⟩)
theorem dY {p:Addr} {xs:List V} {n:Nat} {v:V} {R:Hp->Prop} (hp:H p=some (.lst xs)) (e:Fq xs.length i=some n) (h:R (upd H p (.lst (xs.set n v)))):xm (.ref p) (.int i) v H R:=⟨p,xs,i,n,rfl,rfl,hp,e,h⟩
theorem jb (h:Q (.bl (!(Builtin.Str.occurrences y x 0 y.length 1).isEmpty)) H):KJ K (.str x) (.str y) H Q:=.inl ⟨_,_,rfl,rfl,h⟩
theorem oG {b:Bool} {R:Bool->Prop} (h:R b):∃ k,V.bl b= .bl k/\R k:=⟨b,rfl,h⟩
theorem gw {n:Int} {R:Int->Prop} (h:R n):∃ k,V.int n= .int k/\R k:=⟨n,rfl,h⟩
end
theorem Same.upd {H H':Hp} {p:Addr} {o:HO} (s:Same H H') (hn:H' p=none):Same H (upd H' p o):=fun b u e=>by
 have q:=s b u e
 rw [aB (fun z=>by rw [z,hn] at q;cases q)]
 exact q
def Chg (p:Addr) (H H':Hp):Prop:=∀ b o,b≠p->H b=some o->H' b=some o
theorem Chg.refl (p:Addr) (H:Hp):Chg p H H:=fun _ _ _ e=>e
theorem Chg.trans {p:Addr} {H H1 H2:Hp} (a:Chg p H H1) (b:Chg p H1 H2):Chg p H H2:=fun c o n e=>b c o n (a c o n e)
theorem aY {H:Hp} {q b:Addr} {o u:HO} (hq:H q=none) (hb:H b=some u):upd H q o b=some u:=by
 rw [aB (fun z=>by rw [z,hq] at hb;cases hb)];exact hb
theorem zB (sep:Str) (ys:List Str):Txt.join sep ys=Str.join sep ys:=by
 show Builtin.Str.glued sep ys=Str.join sep ys
 exact PySem.StrLaws.glued_eq_join sep ys
theorem pX (ys:List Str):(Txt.join (Str.ofString "") ys).cps.toList=(ys.map fun y=>y.cps.toList).flatten:=by
 rw [zB]
 have e0:(Str.ofString "").cps= #[]:=by trivial
 have key:∀ ys:List Str,(Str.join (Str.ofString "") ys).cps.toList=(ys.map fun y=>y.cps.toList).flatten:=by
  intro ys
  induction ys with
  | nil=>rfl
  | cons y r ih=>
   cases r with
   | nil=>simp [Str.join]
   | cons z r=>
    show ((y ++ Str.ofString "") ++ Str.join (Str.ofString "") (z :: r)).cps.toList=_
    rw [Str.cps_append,Str.cps_append,e0]
    simp only [Array.append_empty,Array.toList_append,ih,List.map_cons,List.flatten_cons]
 exact key ys
theorem Bo (x:Str):x.length=x.cps.toList.length:=by simp [Str.length]
theorem Hc {ys:List Str} (h:∀ y∈ys,y.length=1):(Txt.join (Str.ofString "") ys).length=ys.length:=by
 rw [Bo,pX]
 induction ys with
 | nil=>rfl
 | cons y r ih=>
  have h1:=h y (by simp)
  rw [Bo] at h1
  simp only [List.map_cons,List.flatten_cons,List.length_append,List.length_cons,h1]
  rw [ih fun z hz=>h z (by simp [hz])]
  omega
theorem xN {ys:List Str} (h:∀ y∈ys,y.length=1):(ys.map (·.length)).sum=ys.length:=by
 induction ys with
 | nil=>rfl
 | cons y r ih=>
  simp only [List.map_cons,List.sum_cons,List.length_cons,h y (by simp),ih fun z hz=>h z (by simp [hz])]
  omega
theorem K1 (c:Nat):(⟨#[c]⟩:Str).length=1:=by simp [Str.length]
section
variable {H:Hp} {Q:VK} {K:W.Frag}
theorem il {p:Addr} {xs:List V} (s:SqL K H p xs) (h:Q (.int xs.length) H):Dl K [V.ref p] H Q:=⟨_,_,rfl,.inl ⟨_,s,rfl⟩,h⟩
theorem tZ {p:Addr} {xs:List V} (s:SqT K H p xs) (h:Q (.int xs.length) H):Dl K [V.ref p] H Q:=⟨_,_,rfl,.inr ⟨_,s,rfl⟩,h⟩
theorem dM {z:Str} (s:z.length<=sizeLine) (h:Q (.int z.length) H):Dl K [V.str z] H Q:=⟨_,_,rfl,⟨s,rfl⟩,h⟩
theorem oH {i j:Int} {R:Int->Int->Prop} (h:R i j):∃ a b,[V.int i,V.int j]=[.int a,.int b]/\R a b:=⟨_,_,rfl,h⟩
theorem mz {x:V} {T:String} {t:Value} {b:Bool} (ty:TyOf K H x t) (e:PySem.W.kitOne K t (.type T)=some b) (h:Q (.bl b) H):QS K [x,.ty T] H Q:=⟨x,T,t,b,rfl,ty,e,h⟩
theorem zE {sep:Str} {p:Addr} {ys:List Str} (hp:H p=some (.lst (ys.map V.str))) (hz:(ys.map (·.length)).sum+ys.length*sep.length<=16777216) (h:Q (.str (Txt.join sep ys)) H):rJoin (.str sep) [.ref p] H Q:=⟨sep,p,ys,rfl,rfl,hp,hz,h⟩
theorem Vy {x:Str} {lo hi:Option Int} (hz:x.length<=sizeLine) (h:Q (.str (Txt.slice x lo hi)) H):Vq K (.str x) lo hi H Q:=.inr (.inr ⟨x,rfl,hz,h⟩)
theorem O3 {p:Addr} {xs:List V} {lo hi:Option Int} (s:SqL K H p xs) (h:∀ q,H q=none->Q (.ref q) (upd H q (.lst (rW xs lo hi)))):Vq K (.ref p) lo hi H Q:=.inl ⟨p,xs,rfl,s,h⟩
end
section
variable {U:St} {H:Hp} {Q:VK}
theorem Bp {K:W.Frag} {a:Addr} {xs:List V} (s:SqL K H a xs) (h:∀ p,H p=none->Q (.ref p) (upd H p (.lst xs))):G6 K [.ref a] H Q:=.inl ⟨a,xs,rfl,.inl s,h⟩
end
theorem TyOf.mono {K:W.Frag} {H H':Hp} {v:V} {T:String} (h:TyOf K H v (.type T)) (s:∀ b o,H b=some o->v= .ref b->H' b=some o):TyOf K H' v (.type T):=by
 generalize e:(Value.type T)=t at h
 cases h with
 | non=>exact .non
 | bl x=>exact .bl x
 | int i=>exact .int i
 | str x=>exact .str x
 | flt x=>exact .flt x
 | lst z=>exact .lst (s _ _ z rfl)
 | frz z=>exact .frz (s _ _ z rfl)
 | tup z=>exact .tup (s _ _ z rfl)
 | dK z=>exact .dK (s _ _ z rfl)
 | dT z=>exact .dT (s _ _ z rfl)
 | ins=>cases e
theorem t6 {sub:List (Option Nat)} {g:TG} {tt:TT} {te:TE} {U:St} {Q:VK} {H:Hp} {lo:Int} {n:Nat} (Pv:Nat->List V->Hp->Prop) (hn:n<=sizeLine) (h0:Pv 0 [] H) (hl:∀ i ys H,Pv i ys H->ys.length<=i)
  (hs:∀ i ys H,i < n->Pv i ys H->g (.int (lo+i)) (cz sub U) H fun σ2 H2=>KeepSt (cz sub U) σ2/\tt σ2 H2 fun b H3=>if b=true then te σ2 H3 fun y H4=>Pv (i+1) (ys ++ [y]) H4 else Pv (i+1) ys H3)
  (hd:∀ ys H,Pv n ys H->∀ D,H D=none->Q (.ref D) (upd H D (.lst ys))):mJ sub g tt te U Q (Fo lo n) H:=
 sS (n:=n) Pv hn h0 hl (fun i ys H hi _=>hi) (fun ys H _=>Nat.le_refl _) (fun i ys H x H' hi p y=>by
  obtain ⟨e1,e2⟩:=y
  subst e1 e2
  exact hs i ys _ hi p) hd
theorem xO {sub:List (Option Nat)} {g:TG} {tt:TT} {te:TE} {U:St} {Q:VK} {H:Hp} {z:Str} (Pv:Nat->List V->Hp->Prop) (hn:z.cps.size<=sizeLine) (h0:Pv 0 [] H) (hl:∀ i ys H,Pv i ys H->ys.length<=i)
  (hs:∀ i ys H c,z.cps.toList[i]?=some c->Pv i ys H->g (.str ⟨#[c]⟩) (cz sub U) H fun σ2 H2=>KeepSt (cz sub U) σ2/\tt σ2 H2 fun b H3=>if b=true then te σ2 H3 fun y H4=>Pv (i+1) (ys ++ [y]) H4 else Pv (i+1) ys H3)
  (hd:∀ ys H,Pv z.cps.size ys H->∀ D,H D=none->Q (.ref D) (upd H D (.lst ys))):mJ sub g tt te U Q (KH z) H:=
 sS (n:=z.cps.size) Pv hn h0 hl (fun i ys H hi _=>hi) (fun ys H _=>rfl) (fun i ys H x H' hi p y=>by
  obtain ⟨e1,c,e2,e3⟩:=y
  subst e1 e3
  exact hs i ys _ c (by simpa using e2) p) hd
theorem Dm {sub:List (Option Nat)} {g:TG} {tt:TT} {te:TE} {U:St} {Q:VK} {H:Hp} {K:W.Frag} {a:Addr} {xs:List V} (Pv:Nat->List V->Hp->Prop) (hn:xs.length<=sizeLine) (h0:Pv 0 [] H) (hl:∀ i ys H,Pv i ys H->ys.length<=i)
  (hq:∀ i ys H,Pv i ys H->SqL K H a xs)
  (hs:∀ i ys H x,xs[i]?=some x->Pv i ys H->g x (cz sub U) H fun σ2 H2=>KeepSt (cz sub U) σ2/\tt σ2 H2 fun b H3=>if b=true then te σ2 H3 fun y H4=>Pv (i+1) (ys ++ [y]) H4 else Pv (i+1) ys H3)
  (hd:∀ ys H,Pv xs.length ys H->∀ D,H D=none->Q (.ref D) (upd H D (.lst ys))):mJ sub g tt te U Q (Ot K a) H:=
 sS (n:=xs.length) Pv hn h0 hl (fun i ys H hi p=>⟨xs,xs[i],hq i ys H p,List.getElem?_eq_getElem hi⟩) (fun ys H p=>⟨xs,hq _ ys H p,Nat.le_refl _⟩) (fun i ys H x H' hi p y=>by
  obtain ⟨e1,e2⟩:=y
  subst e1
  exact hs i ys _ x (e2 xs (hq i ys _ p)) p) hd
structure JE (X:Cx) (e:Expr) (t:TE):Prop where
 run:PE X e t
structure JT (X:Cx) (e:Expr) (t:TT):Prop where
 run:PT X e t
structure JW (X:Cx) (e:Expr) (t:TT):Prop where
 run:PW X e t
structure JA (X:Cx) (es:List Expr) (t:TA):Prop where
 run:PA X es t
structure JS (X:Cx) (s:Stmt) (t:TS):Prop where
 run:PS X s t
structure JB (X:Cx) (s:List Stmt) (t:TS):Prop where
 run:PSs X s t
structure JI (X:Cx) (tg iter:Expr) (t:TI):Prop where
 run:PI X tg iter t
structure JG (X:Cx) (tg:Expr) (t:TG):Prop where
 run:PG X tg t
structure Vz (X:Cx) (tg:List Expr) (t:yN):Prop where
 run:Uq X tg t
structure JO (X:Cx) (e:Option Expr) (t:TO):Prop where
 run:PO X e t
structure Q8 (X:Cx) (ifs:List Expr) (t:TT):Prop where
 run:xr X ifs t
section
variable {X:Cx} {K:W.Frag} {sc scope:Scope} {N':List Str} {C:Addr} {s₀:Shared} {H₀:Hp} {ex:List Addr} {x:Str} {pos p p2 pos' apos cpos tpos:Pos} {a b c e o:Expr} {es:List Expr} {ta tb tc te to ti:TE} {t:TA} {tA tB' tt:TT} {rest:List Expr}
theorem aq (i:Nat) (h:sc.names.lookup x=some .local) (hN:autoParam (X.N[i]?=some x) L2.auto4._auto_1) (hsc:autoParam (X.env.scope=sc) L2.auto4._auto_1) (hd:autoParam ((x == ("__debug__":Str))=false) L2.auto6._auto_1) (hcd:autoParam ((x == ("__classdict__":Str))=false) L2.auto6._auto_1):JE X (.Name x pos) (uK i):=⟨pvL i h hN hsc hd hcd⟩
theorem K3 (i:Nat) (h:sc.names.lookup x=some .cell) (hN:autoParam (X.N[i]?=some x) L2.auto4._auto_1) (hsc:autoParam (X.env.scope=sc) L2.auto4._auto_1) (hd:autoParam ((x == ("__debug__":Str))=false) L2.auto6._auto_1) (hcd:autoParam ((x == ("__classdict__":Str))=false) L2.auto6._auto_1):JE X (.Name x pos) (uK i):=⟨pvC i h hN hsc hd hcd⟩
theorem mC (i:Nat) (h:scope.names.lookup x=some .local) (hN:autoParam (N'[i]?=some x) L2.auto4._auto_1) (hd:autoParam ((x == ("__debug__":Str))=false) L2.auto6._auto_1) (hcd:autoParam ((x == ("__classdict__":Str))=false) L2.auto6._auto_1):JE (nP X N' scope C s₀ H₀ ex) (.Name x pos) (uK i):=⟨pvBL i h hN hd hcd⟩
theorem oR (i:Nat) (h:scope.names.lookup x=some .free) (hN:autoParam (N'[i]?=some x) L2.auto4._auto_1) (hd:autoParam ((x == ("__debug__":Str))=false) L2.auto6._auto_1) (hcd:autoParam ((x == ("__classdict__":Str))=false) L2.auto6._auto_1):JE (nP X N' scope C s₀ H₀ ex) (.Name x pos) (uK i):=⟨pvBF i h hN hd hcd⟩
theorem aC {i j}:JE X (.Constant (.int i) j pos) (tC (.int i)):=⟨PN⟩
theorem oJ {i j}:JE X (.Constant (.bool i) j pos) (tC (.bl i)):=⟨Uy⟩
theorem Bq {i j}:JE X (.Constant (.str i) j pos) (tC (.str i)):=⟨PP⟩
theorem o7 {z:Str} (hg:Gl X x) (hm:∃ t,X.mg x=some (.str z t)) (hd:(x == ("__debug__":Str))=false):JE X (.Name x pos) (tC (.str z)):=⟨GR hg hm hd⟩
theorem wg {z:Int} (hg:Gl X x) (hm:∃ t,X.mg x=some (.int z t)) (hd:(x == ("__debug__":Str))=false):JE X (.Name x pos) (tC (.int z)):=⟨GX hg hm hd⟩
theorem uN {T:String} (hg:Gl X x) (hm:X.mg x=none) (hv:bootBuiltins x=some (.type T)) (hn:x≠"__name__") (hd:(x == ("__debug__":Str))=false):JE X (.Name x pos) (tC (.ty T)):=⟨Vp hg hm hv hn hd⟩
theorem bG {op:Operator} {r:R2} (ho:OpR X (binaryOp op) r) (ha:JE X a ta) (hb:JE X b tb):JE X (.BinOp a op b pos) (JL r ta tb):=⟨UJ ho ha.run hb.run⟩
theorem VD {op:UnaryOp} {r:V->Hp->VK->Prop} (ho:Yz X (unaryOp op) r) (ha:JE X a ta):JE X (.UnaryOp op a pos) (tUn r ta):=⟨UL ho ha.run⟩
theorem xP {op:CmpOp} {r:R2} (ho:OpR X (compareOp op) r) (ha:JE X a ta) (hb:JE X b tb) (hm:behindInMarks op b=false):JE X (.Compare a [op] [b] pos) (JL r ta tb):=⟨Kf ho ha.run hb.run hm⟩
theorem cQ {op:CmpOp} {r:R2} (ho:OpR X (compareOp op) r) (ha:JE X a ta) (hb:JE X b tb) (hm:behindInMarks op b=false):JT X (.Compare a [op] [b] pos) (Gh (JL r ta tb)):=⟨Kg ho ha.run hb.run hm⟩
theorem Br (ha:JT X a tA):JW X (.BoolOp .And [a] pos) tA:=⟨JQ ha.run⟩
theorem lL (ha:JT X a tA):JW X (.BoolOp .Or [a] pos) tA:=⟨Qa ha.run⟩
theorem Hd (ha:JT X a tA) (hb:JW X (.BoolOp .And (b :: rest) pos) tB'):JW X (.BoolOp .And (a :: b :: rest) pos) (PX tA tB'):=⟨Qc ha.run hb.run⟩
theorem oU (ha:JT X a tA) (hb:JW X (.BoolOp .Or (b :: rest) pos) tB'):JW X (.BoolOp .Or (a :: b :: rest) pos) (tOr tA tB'):=⟨Uz ha.run hb.run⟩
theorem mL (h:JW X e tt):JT X e tt:=⟨h.run.pt⟩
theorem eQ (ha:JT X a tA):JT X (.UnaryOp .Not a pos) (P0 tA):=⟨Qd ha.run⟩
def plainT:Expr->Bool
 | .BoolOp ..=>false | .UnaryOp ..=>false | .Compare ..=>false | .IfExp ..=>false | _=>true
theorem eU (h:JE X e te) (hp:autoParam (plainT e=true) L2.auto4._auto_1):JT X e (tB te):=⟨PQ h.run (by
 intro whole
 cases e <;> first | rfl | cases hp)⟩
theorem vB {op} (h:JE X a te):JE X (.BoolOp op [a] pos) te:=⟨Qe h.run⟩
theorem vC (ha:JE X a ta) (hb:JE X (.BoolOp .And (b :: rest) pos) tb):JE X (.BoolOp .And (a :: b :: rest) pos) (Fw ta tb):=⟨Qf ha.run hb.run⟩
theorem O4 (ha:JE X a ta):JE X (.UnaryOp .Not a pos) (Fx ta):=⟨Qg ha.run⟩
theorem j_if (hc:JT X c tA) (ha:JE X a ta) (hb:JE X b tb):JE X (.IfExp c a b pos) (tIf tA ta tb):=⟨Fy hc.run ha.run hb.run⟩
theorem mD {x1} (h:JA X es t):JE X (.Tuple es x1 pos) (Kq t):=⟨Qy h.run⟩
theorem dH (h:JA X es t):JE X (.List es pos) (Ks t):=⟨Qz h.run⟩
theorem ao:JA X [] Ko:=⟨Qx⟩
theorem aa (ha:JE X e te) (hr:JA X es t) (h:autoParam (notStar e=true) L2.auto4._auto_1):JA X (e :: es) (Bc te t):=⟨paC ha.run hr.run h⟩
theorem Bs:JO X none vW:=⟨Kv⟩
theorem sV (h:JE X e te):JO X (some e) (Gq te):=⟨Kw h.run⟩
theorem wj {r:V->Option Int->Option Int->Hp->VK->Prop} {lo hi:Option Expr} {tl th:TO} (hr:SlR X r) (he:JE X e te) (hl:JO X lo tl) (hu:JO X hi th):JE X (.Subscript e (.Slice lo hi none p2) pos) (tSl r te tl th):=⟨Gr hr he.run hl.run hu.run⟩
theorem dh (hK:X.K=K) (ha:JE X a ta) (hb:JE X b tb) (h:autoParam (pU b=true) L2.auto4._auto_1):JE X (.Subscript a b pos) (JL (QH K) ta tb):=⟨ixE hK ha.run hb.run h⟩
theorem aH {k:Nat} {ps:List Str} {sp:Sp} (F:my X.prog X.w X.K X.mg X.base k x ps sp) (hr:Room k X.A) (hg:Gl X x) (ha:JA X (e :: es) t) (hdb:(x == ("__debug__":Str))=false) (h:autoParam ((e :: es).all notStar=true) L2.auto4._auto_1):
  JE X (.Call (.Name x p) (e :: es) [] pos) (vd sp [] E0 t):=⟨Vr F hr hg ha.run hdb h⟩
theorem aF {id:String} {r:List V->Hp->VK->Prop} (hc:CallR X (.builtin id) r) (hg:Gl X x) (hm:X.mg x=none) (hv:bootBuiltins x=some (.builtin id)) (ha:JA X (e :: es) t) (hn:x≠"__name__") (hdb:(x == ("__debug__":Str))=false) (h:autoParam ((e :: es).all notStar=true) L2.auto4._auto_1):
  JE X (.Call (.Name x p) (e :: es) [] pos) (QC r t):=⟨Vs hc hg hm hv ha.run hn hdb h⟩
theorem pY {T:String} {r:List V->Hp->VK->Prop} (hc:CallR X (.type T) r) (hg:Gl X x) (hm:X.mg x=none) (hv:bootBuiltins x=some (.type T)) (ha:JA X (e :: es) t) (hn:x≠"__name__") (hdb:(x == ("__debug__":Str))=false) (h:autoParam ((e :: es).all notStar=true) L2.auto4._auto_1):
  JE X (.Call (.Name x p) (e :: es) [] pos) (QC r t):=⟨Q4 hc hg hm hv ha.run hn hdb h⟩
theorem cR {name:Str} {T id:String} {r:V->List V->Hp->VK->Prop} (hK:X.K=K) (pa:PlainAttrs T) (slot:Slot T name id) (hty:typeOf (.builtin id)=pure (.type "method_descriptor")) (hm:Va X id r) (ho:JE X o to) (ha:JA X (e :: es) t)
  (hbase:autoParam (sU o=true) L2.auto4._auto_1) (hl:autoParam (es.length < 20) L2.auto2._auto_1) (hline:autoParam ((apos.endLine == cpos.line)=true) L2.auto4._auto_1) (h:autoParam ((e :: es).all notStar=true) L2.auto4._auto_1):JE X (.Call (.Attribute o name apos) (e :: es) [] cpos) (Vg K T r to t):=⟨Vu hK pa slot hty hm ho.run ha.run hbase hl hline h⟩
theorem ir:Q8 X [] Gz:=⟨GC⟩
variable {tg iter elt:Expr} {ifs:List Expr} {sub:List (Option Nat)} {wi:TI} {g:TG} {N:List Str}
theorem fO {ta:TA} (hg:Gl X "range") (hm:X.mg "range"=none) (ha:JA X [a] ta) (h:autoParam (notStar a=true) L2.auto4._auto_1):JI X tg (.Call (.Name "range" p) [a] [] pos) (Gd ta):=⟨CJ hg hm ha.run (bV h)⟩
theorem vD {ta:TA} (hg:Gl X "range") (hm:X.mg "range"=none) (ha:JA X [a,b] ta) (h:autoParam (notStar a=true) L2.auto4._auto_1) (h2:autoParam (notStar b=true) L2.auto4._auto_1):JI X tg (.Call (.Name "range" p) [a,b] [] pos) (Ge ta):=⟨CK hg hm ha.run (by rw [bV h,bV h2];rfl) (by rw [bV h2];rfl)⟩
theorem lM (hK:X.K=K) (hl:JE X e te):JI X tg e (KN K te):=⟨KY hK hl.run⟩
theorem aO {i:Nat} (hN:X.N.Nodup) (hi:X.N[i]?=some x) (hx:Loc X.env.scope x) (hf:X.fn x=true):JG X (.Name x pos) (oM i):=⟨Ax hN hi hx (.inl hf)⟩
theorem t7 (i:Nat) (h:scope.names.lookup x=some .local) (hN:N'.Nodup) (hi:autoParam (N'[i]?=some x) L2.auto4._auto_1):JG (nP X N' scope C s₀ H₀ ex) (.Name x pos) (oM i):=⟨pgB i h hN hi⟩
theorem gU:Vz X [] Qk:=⟨J7⟩
theorem aW {gs:yN} (h1:JG X e g) (h2:Vz X es gs) (hs:autoParam ((assignEach (e :: es) X.env).map (·.2)=assign e X.env :: (assignEach es X.env).map (·.2)) L2.auto4._auto_1):Vz X (e :: es) (FT g gs):=⟨FW h1.run h2.run hs⟩
theorem km {ts:List Expr} {k:Nat} {gs:yN} {n:Nat} (hK:X.K=K) (hc:X.calm=true) (h:Vz X ts gs) (hn:autoParam ((assignEach ts X.env).length=n) L2.auto4._auto_1) (hst:autoParam ((assignEach ts X.env).findIdx? (·.1)=none) L2.auto4._auto_1):JG X (.Tuple ts k pos) (J8 K n gs):=⟨KZ hK hc h.run hn hst⟩
theorem zF {ts:yU} (ho:JE X a ta) (hi:JE X b tb) (hs:JZ X ts) (h:autoParam (pU b=true) L2.auto4._auto_1):JG X (.Subscript a b pos) (Ql ta tb ts):=⟨Qm ho.run hi.run hs (by
 intro v
 cases b <;> first | rfl | cases h)⟩
theorem kE (S:rJ N sc N' scope sub) (hc:X.calm=true) (hN:X.N=N) (hsc:X.env.scope=sc) (hi:JI X tg iter wi)
  (hg:∀ (C:Addr) (s₀:Shared) (H₀:Hp) (ex:List Addr),JG (nP X N' scope C s₀ H₀ ex) tg g)
  (ht:∀ (C:Addr) (s₀:Shared) (H₀:Hp) (ex:List Addr),Q8 (nP X N' scope C s₀ H₀ ex) ifs tt)
  (he:∀ (C:Addr) (s₀:Shared) (H₀:Hp) (ex:List Addr),JE (nP X N' scope C s₀ H₀ ex) elt te) (h:autoParam (qN iter=true) L2.auto4._auto_1):
  JE X (.ListComp elt [⟨tg,iter,ifs,0⟩] scope pos) (tV sub wi g tt te):=⟨Vx S hc hN hsc hi.run (fun C s₀ H₀ ex=>(hg C s₀ H₀ ex).run) (fun C s₀ H₀ ex=>(ht C s₀ H₀ ex).run) (fun C s₀ H₀ ex=>(he C s₀ H₀ ex).run) h⟩
variable {st:Stmt} {sts:List Stmt} {u v:TS}
theorem aK {i:Nat} (hN:X.N.Nodup) (hi:X.N[i]?=some x) (hx:Loc X.env.scope x) (he:JE X e te) (hf:X.fn x=true) (h:autoParam (j4 e=true) L2.auto4._auto_1):JS X (.Assign [.Name x pos'] e pos) (vV te (oM i)):=⟨Vv hN hi hx he.run hf h⟩
theorem wk {ts:yU} (he:JE X e te) (hg:JG X (.Subscript a b pos') g) (h:autoParam (j4 e=true) L2.auto4._auto_1):JS X (.Assign [.Subscript a b pos'] e pos) (vV te g):=⟨Ga he.run hg.run (by show swapsWith e (some (.Subscript a b pos')) pos.line X.env=pure false;exact xK h) (by cases e <;> rfl) rfl⟩
theorem aL (he:JE X e te):JS X (.Return (some e) pos) (Qh te):=⟨Qi he.run⟩
theorem bh (he:JE X e te) (h:autoParam (j4 e=true) L2.auto4._auto_1):JS X (.Expr e pos) (Aw te):=⟨Q5 he.run h⟩
theorem dz {sa sb:List Stmt} (hc:JT X c tt) (ha:JB X sa u) (hb:JB X sb v):JS X (.If c sa sb pos) (Qj tt u v):=⟨UG hc.run ha.run hb.run⟩
theorem dB {body:List Stmt} (hp:PassesOwn (model X.prog X.w) X.A X.env X.xe) (hc:X.calm=true) (hi:JI X tg iter wi) (hg:JG X tg g) (hb:JB X body u) (h:autoParam (qN iter=true) L2.auto4._auto_1):JS X (.For tg iter body [] pos) (J9 wi g u):=⟨Vw hp hc hi.run hg.run hb.run h⟩
theorem mO:JS X st FP:=⟨FQ⟩
theorem cF:JB X [] Fz:=⟨JR⟩
theorem aA (h:JS X st u):JB X [st] u:=⟨JV h.run⟩
theorem au (h:JS X st u) (h2:JB X sts v):JB X (st :: sts) (FJ u v):=⟨FN h.run h2.run⟩
end
section
variable {P:Program} {w:World} {K:W.Frag} {mg:Str->Option Value} {base:Heap}
theorem gB {x:Str} {st:Stmt} {N ps:List Str} {k:Nat} {sp:Sp} (D:d8 K mg x st) (S:aD N ps (az st))
  (hb:∀ (kV doc pm:Value) (an:Option Addr) (cdv ct:Value) (us:List Value),us.length=ps.length->bindArgs (PySem.W.fnOf x x (iV st) (dJ st) (az st) .none kV doc pm an cdv ct) ⟨us,[]⟩=pure (ps.zip us))
  (len:∀ vs H Q E,sp vs H Q E->vs.length=ps.length)
  (hbody:∀ (f:Addr) (cdv:Value) (A:Around) (outer:List Env) (s:Shared) (H:Hp) (vs:List V) (Q:VK) (E:XK),Room k (A.deeper (envOfC x (az st) s.heap.objs.size f cdv))->sp vs H Q E->
   ∃ t,JB (qM Gw P w K mg base N x (az st) f cdv A outer s H E).nox (dJ st) t/\t {nx:=fun _ H'=>Q .non H',rt:=Q} (start N vs) H):my P w K mg base (k+1) x ps sp:=
 QT D S hb len fun f cdv A outer s H vs Q E hr h=>let ⟨t,j,q⟩:=hbody f cdv A outer s H vs Q E hr h;⟨t,j.run,q⟩
theorem okJ {x:Str} {st:Stmt} {N ps:List Str} {k:Nat} {sp:Sp} {f:Addr} {fd:FuncData} (F:Fun K x x st f fd) (S:aD N ps (az st)) (len:∀ vs H Q E,sp vs H Q E->vs.length=ps.length)
  (hbody:∀ (f:Addr) (cdv:Value) (A:Around) (outer:List Env) (s:Shared) (H:Hp) (vs:List V) (Q:VK) (E:XK),Room k (A.deeper (envOfC x (az st) s.heap.objs.size f cdv))->sp vs H Q E->
   ∃ t,JB (qM Gw P w K mg base N x (az st) f cdv A outer s H E).nox (dJ st) t/\t {nx:=fun _ H'=>Q .non H',rt:=Q} (start N vs) H):rT P w K mg base Gw (k+1) f fd ps sp:=
 F.ok S len fun cdv A outer s H vs Q E hr h=>let ⟨t,j,q⟩:=hbody f cdv A outer s H vs Q E hr h;⟨t,j.run,q⟩
end
theorem jc {K:W.Frag} {mg:Str->Option Value} {h:Heap} (X:K.In h) (G:h.Ns mainGlobals mg) {x:Str} {v:Value} {f:Tok->Value} (a:PySem.W.nsIn K mainGlobals x=some (some v)) (e:∃ t,v=f t):∃ t,mg x=some (f t):=by
 obtain ⟨t,rfl⟩:=e
 exact ⟨t,PySem.W.mg_of X G a⟩
theorem VF {l:PySem.W.OpenLaw} {q:Program} {loose:List Str} {XP:(Str->Option Value)->Heap->Prop} {YP:World->Heap->Prop} {d:DefRec} {K:Params->W.Frag} {st:Stmt} {k:Nat} {sp:W.Frag->Sp} {x:Str}
  (hn:l.most=some 63) (hdf:d.params.defaults=[]) (hdn:d.name="law") (hk:Room k callerA) (hY:∀ (w:World) (h:Heap),YP w h->(K w.params).In h)
  (hb:∀ (kV doc pm:Value) (an:Option Addr) (cdv ct:Value) (us:List Value),us.length=[x].length->bindArgs (PySem.W.fnOf "law" "law" (iV st) (dJ st) (az st) .none kV doc pm an cdv ct) ⟨us,[]⟩=pure ([x].zip us))
  (F:∀ (w:World) (mg:Str->Option Value) (h:Heap),(K w.params).In h->h.Ns mainGlobals mg->d8 (K w.params) mg "law" st/\∀ (base:Heap) (f:Addr) (fd:FuncData),Fun (K w.params) "law" "law" st f fd->rT l.prog w (K w.params) mg base Gw k f fd [x] (sp (K w.params)))
  (hsp:∀ (K:W.Frag) (H:Hp) (a:Addr) (ns:List Int),ns.length<=63->SqL K H a (ns.map V.int)->sp K [.ref a] H (fun v _=>v= .bl true) fun _ _ _=>False) (him:autoParam (importsNone q=true) L2.auto6._auto_1):
  PySem.W.WalkO q loose XP YP l.row.toRowW d [] (fun f vs=>PySem.call f vs):=
 L2.KD (n:=63) (k:=k) (x:=x) (CX:=fun _=>Gw) (sp:=fun w=>sp (K w.params)) hn (by decide) hdf hk hY (fun w mg fa h X G e=>by
  obtain ⟨⟨f,fd,Fn,hm⟩,ok⟩:=F w mg h X G
  rw [hdn,hm] at e
  have ef:f=fa:=by injection (Option.some.inj e)
  subst ef
  refine ⟨fd,fun s u=>?_,fun base _ _=>ok base f fd Fn⟩
  obtain ⟨oc,od,kV,doc,pm,an,cdv,ct,osl,rfl,lk,hcd⟩:=Fn.ex
  exact .of_eq (hb kV doc pm an cdv ct [u] rfl)) (fun w H a ns hl _ hS=>hsp _ H a ns hl hS) (fun _ _ _ _ _ z=>z) him
def Q9 (xs:Nat->List V) (n:Nat):It:=⟨fun i _=>i < n,fun i H v H'=>∃ T,H T=none/\v= .ref T/\H'=upd H T (.tup (xs i)),fun i _=>i=n⟩
theorem Ra {P:Program} {w:World} {K:W.Frag} {elts:List Expr} {k:Nat} {pos:Pos} {it:Addr} {fp wr:List Addr} {n:Nat} {xs:Nat->List V} {Pt:Nat->Array Value->Prop} {St:Nat->Heap->Prop} {Mid:Nat->Addr->Heap->Prop}
  (W:∀ A:Around,A.handled=none->WalksT P w A it fp wr n Pt St Mid) (hxs:∀ i,(xs i).length<=sizeLine) (hPt:∀ i vals,Pt i vals->Vals (xs i) vals.toList) (hmem:it∈fp)
  (hobj:∀ i h,St i h->∀ b∈fp,∃ o,h.get? b=some o/\∀ v,o.data≠.cell v)
  (hself:∀ (A:Around) (i:Nat) (s:Shared) (Q:Value->Shared->Prop) (E:Value->Shared->Prop),St i s.heap->Q (.ref it) s->wpAny (model P w) A (pyIter (.ref it)) Q E s):
  Turn P w K (.Tuple elts k pos) (Q9 xs n) fp it St where
 mem:=hmem
 obj:=hobj
 keep:=fun i h h' st kk=>(W {} rfl).frame i h h' st kk
 item:=by
  intro X hP hw hK hc i pins s U H E I hf st hg
  subst hP hw hK
  have W':=W X.A (I.ok.hd hc)
  refine W'.item i s _ _ hg st fun T vals h' tk hPv hT isT mid kk=>?_
  refine ⟨.ref T,rfl,W'.go elts k pos i T _ _ _ mid fun h'' st'' kk2=>?_⟩
  have hTn:H T=none:=I.hok.fresh hT
  have hTw:T ∉ wr:=W'.apart i T h' mid
  have kall:∀ b o,b ∉ wr->s.heap.get? b=some o->h''.get? b=some o:=fun b o hb e=>kk2 b o hb (kk b o hb e)
  have nT:∀ b o,s.heap.get? b=some o->b≠T:=fun b o e=>Nat.ne_of_lt (Nat.lt_of_lt_of_le (Heap.lt_size e) hT)
  have nTH:∀ b u,H b=some u->b≠T:=fun b u e z=>by rw [z,hTn] at e;cases e
  have nW:∀ b u,H b=some u->b ∉ wr:=fun b u e hb=>by rw [(hf b (W'.sub b hb)).1] at e;cases e
  have isT':h''.IsTuple T vals:=by
   obtain ⟨o,ho,r⟩:=isT
   exact ⟨o,kk2 T o hTw ho,r⟩
  have hlT:∃ o,h''.get? T=some o:=let ⟨o,ho,_⟩:=isT';⟨o,ho⟩
  have I':Inv X pins U (upd H T (.tup (xs i))) {s with heap:=h'',toks:=tk}:=by
   refine I.step (g':=s.gens) (d':=s.drawn) (ch:=wr) (fun b hb=>?_) (fun b o _ _ hc e _=>kall b o hc e) (fun b o _ _ hc e _=>⟨o.slots,kall b o hc e⟩) (fun b o _ e hn=>by rw [aB (nT b o e)];exact hn)
    (fun b o hc e=>⟨o,kall b o hc e⟩) (fun b ys e=>by rw [aB (nTH b _ e)];exact e) (fun b o u e=>by rw [aB (nTH b _ e)];exact e) (fun b ps e=>⟨#[],by rw [aB (nTH b _ e),e];simp⟩) (fun m hm=>?_) (fun b u e=>?_) I.bare
   ·obtain ⟨f0,f1,f2,f3,f4,f5⟩:=hf b (W'.sub b hb)
    exact ⟨f3,f1,f4,f5⟩
   ·obtain ⟨o,es,ep,ho,r⟩:=hm
    exact ⟨o,es,ep,kall _ o (fun hb=>(hf _ (W'.sub _ hb)).2.1 rfl) ho,r⟩
   ·by_cases hb:b=T
    ·subst hb
     rw [aj] at e;cases e
     obtain ⟨o,ho,hcl,nn,hd⟩:=isT'
     exact ⟨hxs i,vals.toList,hPt i vals hPv,o,ho,hcl,nn,by simpa using hd⟩
    ·rw [aB hb] at e
     refine (I.hok b u e).stay (fun c v hc' q=>kall c v ?_ q) (fun c q=>by rw [aB (nTH c _ q)];exact q) fun c ys q=>by rw [aB (nTH c _ q)];exact q
     rcases hc' with z | z
     ·rw [z];exact nW b u e
     ·exact nW c _ z
  refine ⟨.ref T,upd H T (.tup (xs i)),I',rfl,⟨T,hTn,rfl,rfl⟩,st'',fun b hb=>?_⟩
  obtain ⟨o,e,_⟩:=hobj i _ st b hb
  rw [aB (nT b o e)]
  exact (hf b hb).1
 done:=by
  intro X hP hw hK hc i pins s U H E I hf st hg
  subst hP hw hK
  have W':=W X.A (I.ok.hd hc)
  have hg:i=n:=hg
  subst hg
  refine W'.done s _ _ st fun h' tk kk=>⟨rfl,?_⟩
  have nW:∀ b u,H b=some u->b ∉ wr:=fun b u e hb=>by rw [(hf b (W'.sub b hb)).1] at e;cases e
  refine I.step (g':=s.gens) (d':=s.drawn) (ch:=wr) (fun b hb=>?_) (fun b o _ _ hc e _=>kk b o hc e) (fun b o _ _ hc e _=>⟨o.slots,kk b o hc e⟩) (fun b o _ e hn=>hn)
    (fun b o hc e=>⟨o,kk b o hc e⟩) (fun b ys e=>e) (fun b o u e=>e) (fun b ps e=>⟨#[],by rw [e];simp⟩) (fun m hm=>?_) (fun b u e=>?_) I.bare
  ·obtain ⟨f0,f1,f2,f3,f4,f5⟩:=hf b (W'.sub b hb)
   exact ⟨f3,f1,f4,f5⟩
  ·obtain ⟨o,es,ep,ho,r⟩:=hm
   exact ⟨o,es,ep,kk _ o (fun hb=>(hf _ (W'.sub _ hb)).2.1 rfl) ho,r⟩
  ·refine (I.hok b u e).stay (fun c v hc' q=>kk c v ?_ q) (fun c q=>q) fun c ys q=>q
   rcases hc' with z | z
   ·rw [z];exact nW b u e
   ·exact nW c _ z
 self:=hself
def mF (x:Str) (i:Nat):List V:=[.int i,.str ⟨#[x.cps.getD i 0]⟩]
section
variable {prog:Program} {w:World} {A:Around} {E:Value->Shared->Prop} {s:Shared}
theorem t8 {it l:Addr} {items:Array Value} (hne:l≠it):∀ (n i:Nat) (s:Shared) (Q:List Value->Shared->Prop),s.heap.IsListIter it l i->s.heap.IsList l items->i+n<=items.size->
  (∀ h',h'.IsListIter it l (i+n)->Heap.SameBut it s.heap h'->Q ((items.toList.drop i).take n) {s with heap:=h'})->wpAny (model prog w) A (draw (.ref it) n) Q E s
 | 0,i,s,Q,hit,_,_,hQ=>by
  show wpAny _ _ (pure []) Q E s
  exact wpAny_pure (by simpa using hQ s.heap hit (Heap.SameBut.refl ..))
 | n+1,i,s,Q,hit,ht,hle,hQ=>by
  have hlt:i < items.size:=by omega
  show wpAny _ _ (pyNext (.ref it) >>=_) Q E s
  refine wpAny_bind (wpAny_pyNext_list_item hit ht (x:=items[i]) (by simp [hlt]) fun h₁ hit₁ hs₁=>?_)
  refine wpAny_bind (wpAny_holding (t8 hne n (i+1) _ _ hit₁ (ht.extBut hs₁.extBut hne) (by omega) fun h₂ hit₂ hs₂=>wpAny_pure ?_))
  have hd:items.toList.drop i=items[i] :: items.toList.drop (i+1):=by simp [List.drop_eq_getElem_cons,hlt]
  have:=hQ h₂ (by rw [show i+(n+1)=i+1+n by omega];exact hit₂) (hs₁.trans hs₂)
  rw [hd,List.take_succ_cons] at this
  exact this
theorem pZ {l:Addr} {items:Array Value} {Q:List Value->Shared->Prop} (hh:A.handled=none) (ht:s.heap.IsList l items)
  (hQ:∀ h',Heap.ExtBut s.heap.objs.size s.heap h'->Q items.toList {s with heap:=h'}):wpAny (model prog w) A (unpackItems (.ref l) items.size none) Q E s:=by
 have hlt:l≠s.heap.objs.size:=by obtain ⟨o,ho,_⟩:=ht;exact Nat.ne_of_lt (Heap.lt_size ho)
 unfold unpackItems
 refine wpAny_bind ?_
 ·unfold notIterableAtAll
  refine wpAny_bind (wpAny_specialOf ht.typeIs slot_list_iter.lookup ?_)
  refine wpAny_pure ?_
  simp only [Bool.false_eq_true,if_false]
  refine wpAny_bind (wpAny_holding (wpAny_pyIter_list ht ?_))
  refine wpAny_bind (wpAny_holding (t8 hlt items.size 0 _ _ ⟨_,Heap.get?_push_size _ rfl,rfl,rfl⟩ (let ⟨o,ho,r⟩:=ht;⟨o,Heap.get?_push_of_some _ ho,r⟩) (by omega) fun h₁ hit₁ hs₁=>?_))
  have hall:List.take items.size (List.drop 0 items.toList)=items.toList:=by
   rw [List.drop_zero];exact List.take_of_length_le (by simp)
  rw [hall]
  rw [if_neg (by simp)]
  have ht₁:h₁.IsList l items:=by
   have:(s.heap.push {cls:=.type "list_iterator",data:=.fields #[.ref l,.int 0 0]}).IsList l items:=let ⟨o,ho,r⟩:=ht;⟨o,Heap.get?_push_of_some _ ho,r⟩
   exact this.extBut hs₁.extBut hlt
  refine wpAny_bind (wpAny_holding (wpAny_pyNext_list_end hh hit₁ ht₁ (by simp) fun h₂ he₂=>?_))
  simp only [Option.isSome_none,Bool.false_eq_true,if_false]
  refine wpAny_pure (hQ h₂ fun b o hb e=>he₂ b o hb (hs₁.extBut b o hb (Heap.get?_push_of_some _ e)))
theorem o8 {env:Env} {elts:List Expr} {x1} {pos:Pos} {l:Addr} {items:Array Value} {Q:Unit->Shared->Prop} (hh:A.handled=none) (ht:s.heap.IsList l items)
  (hn:(assignEach elts env).length=items.size) (hstar:(assignEach elts env).findIdx? (·.1)=none)
  (h:∀ h',Heap.ExtBut s.heap.objs.size s.heap h'->wpAny (model prog w) A (assignInOrder ((assignEach elts env).map (·.2)) items.toList) Q E {s with heap:=h'}):
  wpAny (model prog w) A (assign (.Tuple elts x1 pos) env (.ref l)) Q E s:=by
 rw [assign_Tuple]
 refine wpAny_bind (wpAny_standAt ?_)
 unfold unpack
 rw [hn,hstar]
 exact wpAny_bind (wpAny_holding (pZ hh ht h))
end
def O5 (K:W.Frag) (n:Nat) (t:yN):TG:=fun v U H Q=>∃ a xs,v= .ref a/\(SqT K H a xs\/SqL K H a xs)/\xs.length=n/\t xs U H Q
theorem Bt {X:Cx} {K:W.Frag} {ts:List Expr} {k:Nat} {gs:yN} {n:Nat} {pos:Pos} (hK:X.K=K) (hc:X.calm=true) (h:Vz X ts gs) (hn:autoParam ((assignEach ts X.env).length=n) L2.auto4._auto_1) (hst:autoParam ((assignEach ts X.env).findIdx? (·.1)=none) L2.auto4._auto_1):JG X (.Tuple ts k pos) (O5 K n gs):=⟨by
 subst hK
 intro pins s U H v u Q I r hw
 obtain ⟨a,xs,e1,hq,hl,hw⟩:=hw
 subst e1
 cases r
 rcases hq with hq | hq
 ·exact (FZ hc h.run hn hst) pins s U H (.ref a) (.ref a) Q I (show RelV (.ref a) (Value.ref a) from rfl) ⟨a,xs,rfl,hq,hl,hw⟩
 ·obtain ⟨its,rv,ht,hz⟩:=I.list hq
  refine o8 (I.ok.hd hc) ht.isList (by simp [hn,← hl,rv.length]) hst fun h' hx=>?_
  have I1:Inv X pins U H {s with heap:=h'}:=I.kept (t':=s.toks) fun b o e=>hx b o (Nat.ne_of_lt (Heap.lt_size e)) e
  exact h.run pins _ U H xs _ Q I1 (by simpa using rv) hw⟩
theorem Bu {X:Cx} {ts:List Expr} {k:Nat} {e:Expr} {te:TE} {g:TG} {pos pos':Pos} (he:JE X e te) (hg:JG X (.Tuple ts k pos') g) (h:autoParam (j4 e=true) L2.auto4._auto_1) (h2:autoParam ((match e with | .Tuple ..=>false | _=>true)=true) L2.auto4._auto_1):JS X (.Assign [.Tuple ts k pos'] e pos) (vV te g):=
 ⟨Ga he.run hg.run (by show swapsWith e (some (.Tuple ts k pos')) pos.line X.env=pure false;exact xK h) (by cases e <;> first | rfl | cases h2) rfl⟩
def VG (K:W.Frag):R2:=fun x y H Q=>rNe x y H Q\/∃ (a b:Addr) (ns ms:List Int),x= .ref a/\y= .ref b/\SqL K H a (ns.map V.int)/\SqL K H b (ms.map V.int)/\Q (.bl (!decide (ns=ms))) H
theorem Rb {X:Cx} {K:W.Frag} (hK:X.K=K) (hu:X.A.units+64 < cLine):OpR X (compareOp .NotEq) (VG K):=by
 subst hK
 intro pins s U H x y v u Q I rx ry h
 rcases h with h | ⟨a,b,ns,ms,rfl,rfl,ha,hb,q⟩
 ·exact U0 pins s U H x y v u Q I rx ry h
 ·cases rx
  cases ry
  obtain ⟨its,r1,p1,z1⟩:=I.list ha
  obtain ⟨jts,r2,p2,z2⟩:=I.list hb
  exact PySem.W.ne_intsK p1.isList (intsAre_of r1) p2.isList (intsAre_of r2) hu ⟨.bl _,H,I,rfl,q⟩
section
variable {H:Hp} {Q:VK} {K:W.Frag} {U:St}
theorem b7 {n:Nat} {gs:yN} {p:Addr} {xs:List V} {R:St->Hp->Prop} (s:SqT K H p xs) (hl:xs.length=n) (h:gs xs U H R):J8 K n gs (.ref p) U H R:=⟨p,xs,rfl,s,hl,h⟩
theorem Bv {n:Nat} {gs:yN} {p:Addr} {xs:List V} {R:St->Hp->Prop} (s:SqL K H p xs) (hl:xs.length=n) (h:gs xs U H R):O5 K n gs (.ref p) U H R:=⟨p,xs,rfl,.inr s,hl,h⟩
theorem di {t:TG} {u:yN} {v:V} {vs:List V} {R:St->Hp->Prop} (h:t v U H fun U' H'=>u vs U' H' R):FT t u (v :: vs) U H R:=⟨v,vs,rfl,h⟩
theorem gC {R:St->Hp->Prop} (h:R U H):Qk [] U H R:=⟨rfl,h⟩
theorem bA {p:Addr} {xs:List V} {y:V} (hp:H p=some (.lst xs)) (c:xs.length < sizeLine) (h:Q .non (upd H p (.lst (xs ++ [y])))):Bh (.ref p) [y] H Q:=⟨p,xs,y,rfl,rfl,hp,c,h⟩
theorem Hf {xs:Nat->List V} {n:Nat} {g:TG} {tb:TS} {D:Ends} {H:Hp} (Pv:Nat->St->Hp->Prop) (h0:Pv 0 U H)
  (hs:∀ i U H T,i < n->Pv i U H->H T=none->g (.ref T) U (upd H T (.tup (xs i))) fun σ2 H2=>tb {D with nx:=Pv (i+1),ct:=Pv (i+1),bk:=D.nx} σ2 H2) (hd:∀ U H,Pv n U H->D.nx U H):
  ∃ W:Nat->Nat->St->Hp->Prop,(∃ m,W 0 m U H)/\∀ i m U H,W i m U H->
   ((Q9 xs n).stop i H/\D.nx U H)\/((Q9 xs n).go i H/\∃ N:St->Hp->Prop,(∀ U' H',N U' H'->∃ m',m' < m/\W (i+1) m' U' H')/\∀ x H',(Q9 xs n).yld i H x H'->g x U H' fun σ2 H2=>tb {D with nx:=N,ct:=N,bk:=D.nx} σ2 H2):=by
 refine ⟨fun i m U H=>m=n - i/\i<=n/\Pv i U H,⟨n,by simp,Nat.zero_le _,h0⟩,?_⟩
 rintro i m U H ⟨rfl,hi,p⟩
 by_cases hlt:i < n
 ·refine .inr ⟨hlt,Pv (i+1),fun U' H' p'=>⟨n - (i+1),by omega,rfl,hlt,p'⟩,fun x H' y=>?_⟩
  obtain ⟨T,hT,e1,e2⟩:=y
  subst e1 e2
  exact hs i U H T hlt p hT
 ·have e:i=n:=by omega
  subst e
  exact .inl ⟨rfl,hd U H p⟩
theorem yQ {f:Int->V} {i:Int} (h:Q (f i) H):rU f (.int i) H Q:=⟨i,rfl,h⟩
theorem zG {a:Addr} {xs:List V} {k:Int} (ha:H a=some (.lst xs)) (h0: -(2 ^ 63)<=k) (h1:k < 2 ^ 63) (hz:xs.length*k.toNat<=sizeLine) (h:∀ p,H p=none->Q (.ref p) (upd H p (.lst (List.replicate k.toNat xs).flatten))):GQ (.ref a) (.int k) H Q:=
 .inr (.inr ⟨a,k,xs,rfl,rfl,ha,h0,h1,hz,h⟩)
theorem K4 {z:Str} {g:TG} {tb:TS} {D:Ends} {H:Hp} (Pv:Nat->St->Hp->Prop) (h0:Pv 0 U H)
  (hs:∀ i U H c,z.cps.toList[i]?=some c->Pv i U H->g (.str ⟨#[c]⟩) U H fun σ2 H2=>tb {D with nx:=Pv (i+1),ct:=Pv (i+1),bk:=D.nx} σ2 H2) (hd:∀ U H,Pv z.length U H->D.nx U H):
  ∃ W:Nat->Nat->St->Hp->Prop,(∃ m,W 0 m U H)/\∀ i m U H,W i m U H->
   ((KH z).stop i H/\D.nx U H)\/((KH z).go i H/\∃ N:St->Hp->Prop,(∀ U' H',N U' H'->∃ m',m' < m/\W (i+1) m' U' H')/\∀ x H',(KH z).yld i H x H'->g x U H' fun σ2 H2=>tb {D with nx:=N,ct:=N,bk:=D.nx} σ2 H2):=by
 refine ⟨fun i m U H=>m=z.cps.size - i/\i<=z.cps.size/\Pv i U H,⟨z.cps.size,by simp,Nat.zero_le _,h0⟩,?_⟩
 rintro i m U H ⟨rfl,hi,p⟩
 by_cases hlt:i < z.cps.size
 ·refine .inr ⟨hlt,Pv (i+1),fun U' H' p'=>⟨z.cps.size - (i+1),by omega,rfl,hlt,p'⟩,fun x H' y=>?_⟩
  obtain ⟨e1,c,e2,e3⟩:=y
  subst e1 e3
  exact hs i U _ c (by simpa using e2) p
 ·have e:i=z.cps.size:=by omega
  subst e
  exact .inl ⟨rfl,hd U H p⟩
end
section
variable {X:Cx} {tg iter elt:Expr} {ifs:List Expr} {scope:Scope} {pos:Pos} {N':List Str} {sub:List (Option Nat)} {wi:TI} {g:TG} {tt:TT} {te:TE}
theorem Hg {N:List Str} {sc:Scope} {use:Option (Value->Sem Unit)} {R:Value->Shared->Prop} {p0:Pos} (S:rJ N sc N' scope sub) (hc:X.calm=true) (hN:X.N=N) (hsc:X.env.scope=sc) (hi:PI X tg iter wi)
  (hg:∀ (C:Addr) (s₀:Shared) (H₀:Hp) (ex:List Addr),PG (nP X N' scope C s₀ H₀ ex) tg g)
  (ht:∀ (C:Addr) (s₀:Shared) (H₀:Hp) (ex:List Addr),xr (nP X N' scope C s₀ H₀ ex) ifs tt)
  (he:∀ (C:Addr) (s₀:Shared) (H₀:Hp) (ex:List Addr),PE (nP X N' scope C s₀ H₀ ex) elt te)
  (hs:∀ x,foldedSetIterable iter X.env x=pure x) (pins:List (Addr×Obj)) (s:Shared) (U:St) (H:Hp) (Q:VK) (I:Inv X pins U H s) (h:tV sub wi g tt te U H Q)
  (hend:∀ (D C:Addr) (s5:Shared) (H5:Hp) (m:Str->Option Value),Inv X pins U H5 s5->lA X pins H5 C->s5.heap.Ns C m->Q (.ref D) H5->compPost (model X.prog X.w) X.A X.xe use R (.ref D) C (.ok .next) s5):
  wpAny (model X.prog X.w) X.A (comprehension (.ListComp elt [⟨tg,iter,ifs,0⟩] scope pos) scope X.env p0 (newList []) false (eval iter X.env) use) R X.xe s:=by
 have hcl:∀ x∈scope.names,x.2=NameKind.free->∃ c,X.env.cells.lookup x.1=some c:=fun x hx hk=>I.ok.has x.1 (by have:=S.free x hx hk;rw [← hsc] at this;exact this)
 refine wpAny_comprehension_free (use:=use) rfl hs (oN hcl) S.kind S.loc ?_
 refine fM (hi pins s U H _ I h) fun v s1 h1=>fM h1 fun itv s2 h2=>?_
 obtain ⟨it,fp,tn,J,H2,e,I2,T,st2,f2,W,⟨m0,w0⟩,turn⟩:=h2
 subst e
 refine wpAny_newObj_type (gW fun h₁ hns₁ hk31 hcl₁=>?_)
 dsimp only at hns₁ hk31 hcl₁ ⊢
 generalize hs3:({s2 with heap:=s2.heap.push {cls:=.type "list",dict:=none,data:=.seq ([]:List Value).toArray}}:Shared)=s3
 have e3:s2.heap.push {cls:=.type "list",dict:=none,data:=.seq ([]:List Value).toArray}=s3.heap:=by rw [← hs3]
 rw [e3] at hns₁ hk31 hcl₁ ⊢
 have hD3:s3.heap.get? s2.heap.objs.size=some {cls:=.type "list",dict:=none,data:=.seq ([]:List Value).toArray}:=by rw [← e3];exact Heap.get?_push_size _ rfl
 have I3:Inv X pins U H2 s3:=by
  rw [← hs3]
  exact I2.kept (t':=s2.toks) fun b o e=>Heap.get?_push_of_some _ e
 have k23:∀ b o,s2.heap.get? b=some o->s3.heap.get? b=some o:=fun b o e=>by rw [← e3];exact Heap.get?_push_of_some _ e
 have hsz:s3.heap.objs.size=s2.heap.objs.size+1:=by rw [← e3,Heap.size_push]
 have hDn:H2 s2.heap.objs.size=none:=I2.hok.fresh (Nat.le_refl _)
 have fD:lA X pins H2 s2.heap.objs.size:=I2.fpOk (Nat.le_refl _) hDn
 have hfo:∀ b∈fp,b < s2.heap.objs.size:=fun b hb=>let ⟨o,e,_⟩:=T.obj _ _ st2 b hb;Heap.lt_size e
 have hDfp:s2.heap.objs.size ∉ fp:=fun z=>absurd (hfo _ z) (Nat.lt_irrefl _)
 have I4:=vq (tk:=s3.toks+([]:List (Str×Value)).length) S hN hsc I3 f2 (fun b hb=>by rw [hsz];exact Nat.lt_succ_of_lt (hfo b hb)) (D:=s2.heap.objs.size) (by rw [hsz];exact Nat.lt_succ_self _) fD hns₁ hk31 hcl₁
 have stat:∀ {H':Hp} {ob:Obj},(∀ b∈fp,H' b=none)->∀ b∈fp,lA (nP X N' scope s3.heap.objs.size s3 H2 (s2.heap.objs.size :: fp)) [(s2.heap.objs.size,ob)] H' b:=fun {H' ob} hn b hb=>by
  obtain ⟨q1,q2⟩:=I4.ok.exf b (List.mem_cons_of_mem _ hb)
  refine ⟨hn b hb,q1,I4.ok.exfs b (List.mem_cons_of_mem _ hb),.inl (List.mem_cons_of_mem _ hb),q2,fun p hp z=>?_⟩
  have hp':p=(s2.heap.objs.size,ob):=by simpa [nP] using hp
  subst hp'
  have z':s2.heap.objs.size=b:=z
  exact hDfp (by rw [z'];exact hb)
 generalize hXC:nP X N' scope s3.heap.objs.size s3 H2 (s2.heap.objs.size :: fp)=XC at I4 stat
 have eP:XC.prog=X.prog:=by rw [← hXC];rfl
 have eW:XC.w=X.w:=by rw [← hXC];rfl
 have eK:XC.K=X.K:=by rw [← hXC];rfl
 have eA:XC.A=X.A:=by rw [← hXC];rfl
 have eE:XC.env=compEnvC scope (Dh X scope s3.heap.objs.size) s3.heap.objs.size X.env:=by rw [← hXC];rfl
 have eC:XC.calm=true:=by rw [← hXC];exact hc
 have eX:XC.xe=fun _ _=>False:=by rw [← hXC];rfl
 have eH:XC.H₀=H2:=by rw [← hXC];rfl
 have eS:XC.s₀=s3:=by rw [← hXC];rfl
 have eF:XC.fs=frs X.stack:=by rw [← hXC];rfl
 have eEx:XC.ex=s2.heap.objs.size :: fp:=by rw [← hXC];rfl
 have ePn:XC.pn=[]:=by rw [← hXC];rfl
 have hgC:PG XC tg g:=by rw [← hXC];exact hg _ _ _ _
 have htC:xr XC ifs tt:=by rw [← hXC];exact ht _ _ _ _
 have heC:PE XC elt te:=by rw [← hXC];exact he _ _ _ _
 have pinD:∀ {U':St} {H':Hp} {s':Shared} {ob:Obj},Inv XC [] U' H' s'->H' s2.heap.objs.size=none->s'.heap.get? s2.heap.objs.size=some ob->(∀ v,ob.data≠.cell v)->Inv XC [(s2.heap.objs.size,ob)] U' H' s':=fun {U' H' s' ob} J hn hg hd=>
  J.pins_of fun p hp=>by
   have hp':p=(s2.heap.objs.size,ob):=by simpa using hp
   subst hp'
   refine ⟨hg,hn,(J.ok.exf _ (by rw [eEx];exact List.mem_cons_self)).1,J.ok.exfs _ (by rw [eEx];exact List.mem_cons_self),hd⟩
 have loop:codeAny (model X.prog X.w) X.A (.compLoop (.ListComp elt [⟨tg,iter,ifs,0⟩] scope pos) 0 (.ref it) (.ref s2.heap.objs.size) (compEnvC scope (Dh X scope s3.heap.objs.size) s3.heap.objs.size X.env))
   (compPost (model X.prog X.w) X.A X.xe use R (.ref s2.heap.objs.size) s3.heap.objs.size) {s3 with heap:=h₁,toks:=s3.toks+([]:List (Str×Value)).length}:=by
  refine vp (fun n s'=>∃ (i:Nat) (ys:List V) (its:List Value) (nn:Nat) (H':Hp),Inv XC [] (cz sub U) H' s'/\tn i s'.heap/\(∀ b∈fp,H' b=none)/\H' s2.heap.objs.size=none/\
   s'.heap.get? s2.heap.objs.size=some {cls:=.type "list",data:=.seq its.toArray nn}/\Vals ys its/\W i n ys H') ?_ m0
   ⟨0,[],[],_,H2,I4,T.keep _ _ _ st2 fun b _ o e=>hk31 b o (k23 b o e),fun b hb=>(f2 b hb).1,hDn,hk31 _ _ hD3,.nil,w0⟩
  rintro n s4 ⟨i,ys,its,nn,H4,J4,st4,fr4,dn4,dg4,rv4,w4⟩
  have P4:=pinD J4 dn4 dg4 (fun v z=>by cases z)
  rcases turn i n ys H4 w4 with ⟨stop,hyl,qn⟩ | ⟨go,hyl,N,hN,step⟩
  ·have hdone:=T.done XC eP eW eK eC i _ s4 _ H4 (fun _ _=>False) P4 (stat fr4) st4 stop
   rw [eA] at hdone
   refine wpAny_mono hdone (fun r s5 ⟨hr,I5⟩=>?_) fun _ _ z=>z
   subst hr
   obtain ⟨m,hn,_⟩:=id I5.loc
   have hCe:XC.env.locals=s3.heap.objs.size:=by rw [eE];rfl
   rw [hCe] at hn
   have hDg:=(I5.pin (s2.heap.objs.size,_) (by rw [ePn];exact List.mem_cons_self)).1
   have hDne:s2.heap.objs.size≠s3.heap.objs.size:=by rw [hsz];exact Nat.ne_of_lt (Nat.lt_succ_self _)
   have hHC:H4 s3.heap.objs.size=none:=by have:=I5.free;rw [hCe] at this;exact this
   have k56:∀ b o,b≠s3.heap.objs.size->s5.heap.get? b=some o->s5.heap.get? b=some o:=fun b o hb e=>e
   have un:=I5.base
   rw [eF,eEx,eH,eS] at un
   have nC:∀ b o,s3.heap.get? b=some o->b≠s3.heap.objs.size:=fun b o e=>Nat.ne_of_lt (Heap.lt_size e)
   have hok6:HOk X.prog X.w (upd H4 s2.heap.objs.size (.lst ys)) s5.heap:=by
    have h5:=I5.hok
    rw [eP,eW] at h5
    have JK:∀ b u,H4 b=some u->b≠s3.heap.objs.size:=fun b u e z=>by rw [z,hHC] at e;cases e
    intro b u e
    by_cases hb:b=s2.heap.objs.size
    ·subst hb
     rw [aj] at e;cases e
     exact ⟨hyl,its,nn,rv4,k56 _ _ hDne hDg⟩
    ·rw [aB hb] at e
     have nD:∀ c u,H4 c=some u->c≠s2.heap.objs.size:=fun c u e z=>by rw [z,dn4] at e;cases e
     refine (h5 b u e).stay (fun c v hc' q=>k56 c v ?_ q) (fun c q=>by rw [aB (nD c _ q)];exact q) fun c xs q=>by rw [aB (nD c _ q)];exact q
     rcases hc' with z | z
     ·rw [z];exact JK b u e
     ·exact JK c _ z
   have nD2:∀ c u,H4 c=some u->c≠s2.heap.objs.size:=fun c u e z=>by rw [z,dn4] at e;cases e
   have un6:Un (frs X.stack) (s2.heap.objs.size :: fp) H2 (upd H4 s2.heap.objs.size (.lst ys)) s3.heap s5.heap:=
    ⟨fun b o e nn' hb hx=>k56 b o (nC b o e) (un.keep b o e nn' hb hx),fun b o e nn' hb hx=>let ⟨sl,q⟩:=un.slot b o e nn' hb hx;⟨sl,k56 b _ (nC b o e) q⟩,
     fun b o e nn' hx=>by rw [aB (fun z=>hx (by rw [z];exact List.mem_cons_self))];exact un.free b o e nn' hx,
     fun b o e hx=>let ⟨o',q⟩:=un.there b o e hx;⟨o',k56 b o' (nC b o e) q⟩,
     fun b xs e=>by have q:=un.tups b xs e;rw [aB (nD2 b _ q)];exact q,
     fun b o u e=>by have q:=un.frzs b o u e;rw [aB (nD2 b _ q)];exact q,
     fun b ps e=>let ⟨more,q⟩:=un.tbls b ps e;⟨more,by rw [aB (nD2 b _ q)];exact q⟩⟩
   have I6:Inv X pins U (upd H4 s2.heap.objs.size (.lst ys)) s5:=by
    refine I3.call' (s':=s5) (ch:=s2.heap.objs.size :: fp) ?_ un6 hok6 I5.bare fun b hb=>?_
    ·show s5.os=s3.os
     have:=I5.os
     rw [eS] at this
     exact this
    ·have q:lA X pins H2 b:=by
      rcases List.mem_cons.mp hb with rfl | z
      ·exact fD
      ·exact f2 b z
     obtain ⟨f0,f1,f2',f3,f4,f5⟩:=q
     exact ⟨f3,f1,f4,f5⟩
   have dC:upd H4 s2.heap.objs.size (.lst ys) s3.heap.objs.size=none:=by rw [aB (Ne.symm hDne)];exact hHC
   exact hend _ _ s5 _ m I6 (I3.fpOk (Nat.le_refl _) dC) hn (qn _ dn4)
  ·have hitem:=T.item XC eP eW eK eC i _ s4 _ H4 (fun _ _=>False) P4 (stat fr4) st4 go
   rw [eA] at hitem
   refine wpAny_mono hitem (fun r s5 ⟨u,hr,h5⟩=>?_) fun _ _ z=>z
   subst hr
   dsimp only
   refine wpAny_mono h5 (fun _ s6 ⟨x,H6,I6,r6,y6,st6,fr6⟩=>?_) fun _ _ z=>z
   have P6:=I6.pinned (stat fr6) (T.obj _ _ st6)
   rw [← eE,← eP,← eW,← eA]
   refine wpAny_mono (hgC _ s6 _ H6 x u _ P6 r6 (step x H6 y6)) (fun _ s7 ⟨σ7,H7,I7,kp7,q7⟩=>?_) fun _ _ z=>by rw [eX] at z;exact z
   refine wpAny_mono (htC _ s7 σ7 H7 _ I7 q7) (fun ok s8 ⟨H8,I8,q8⟩=>?_) fun _ _ z=>by rw [eX] at z;exact z
   have fin:∀ {H9:Hp} {s9:Shared},Inv XC ([(s2.heap.objs.size,({cls:=.type "list",data:=.seq its.toArray nn}:Obj))] ++ qJ fp s6.heap) σ7 H9 s9->Inv XC [] (cz sub U) H9 s9/\tn (i+1) s9.heap/\(∀ b∈fp,H9 b=none)/\H9 s2.heap.objs.size=none/\
     s9.heap.get? s2.heap.objs.size=some {cls:=.type "list",data:=.seq its.toArray nn}:=fun {H9 s9} J=>by
    have pD:=J.pin (s2.heap.objs.size,({cls:=.type "list",data:=.seq its.toArray nn}:Obj)) (by rw [ePn];simp)
    have pF:∀ b∈fp,∀ o,s6.heap.get? b=some o->s9.heap.get? b=some o/\H9 b=none:=fun b hb o e=>by
     have q:=J.pin (b,o) (by rw [ePn];exact List.mem_append_right _ (List.mem_append_right _ (lG hb e)))
     exact ⟨q.1,q.2.1⟩
    refine ⟨?_,T.keep _ _ _ st6 fun b hb o e=>(pF b hb o e).1,fun b hb=>?_,pD.2.1,pD.1⟩
    ·have J0:Inv XC [] σ7 H9 s9:=J.pins_of fun p hp=>nomatch hp
     exact J0.weak kp7.1.symm fun j v e=>kp7.2 j v e
    ·obtain ⟨o,e,_⟩:=T.obj _ _ st6 b hb
     exact (pF b hb o e).2
   cases ok with
   | false=>
    rw [if_neg (by simp)]
    rw [if_neg (by simp)] at q8
    obtain ⟨m',hm,w8⟩:=hN _ _ q8
    obtain ⟨a1,a2,a3,a4,a5⟩:=fin I8
    exact ⟨m',hm,i+1,ys,its,nn,H8,a1,a2,a3,a4,a5,rv4,w8⟩
   | true=>
    rw [if_pos rfl]
    rw [if_pos rfl] at q8
    refine wpAny_mono (heC _ s8 σ7 H8 _ I8 q8) (fun xv s9 ⟨y,H9,I9,r9,n9⟩=>?_) fun _ _ z=>by rw [eX] at z;exact z
    obtain ⟨m',hm,w9⟩:=hN _ _ n9
    obtain ⟨a1,a2,a3,a4,a5⟩:=fin I9
    refine wpAny_list_append_plain (items:=its.toArray) ⟨nn,a5⟩ (fun h' ⟨n',hp'⟩ sb=>?_) (by simp;rw [← rv4.length];omega)
    obtain ⟨q1,q2⟩:=I4.ok.exf s2.heap.objs.size (by rw [eEx];exact List.mem_cons_self)
    have a1':Inv XC [] (cz sub U) H9 {s9 with heap:=h'}:=a1.turned (t':=s9.toks) (fun b o hb e=>(sb.2 b hb).trans e) a4 q1 (.inl (by rw [eEx];exact List.mem_cons_self)) q2 (fun p hp=>by rw [ePn] at hp;exact nomatch hp)
    refine ⟨m',hm,i+1,ys ++ [y],its ++ [xv],n',H9,a1',T.keep _ _ _ a2 fun b hb o e=>(sb.2 b (fun z=>hDfp (by rw [← z];exact hb))).trans e,a3,a4,?_,rv4.append (.cons r9 .nil),w9⟩
    rw [hp']
    simp
 subst hs3
 exact codeAny_compStart_list loop (T.self _ 0 _ _ _ (T.keep _ _ _ st2 fun b _ o e=>hk31 b o (k23 b o e)) loop)
theorem zH {N:List Str} {sc:Scope} {i:Nat} {x:Str} {pos' spos:Pos} (hNd:X.N.Nodup) (hxi:X.N[i]?=some x) (hx:Loc X.env.scope x) (hf:X.fn x=true) (S:rJ N sc N' scope sub) (hc:X.calm=true) (hN:X.N=N) (hsc:X.env.scope=sc) (hi:PI X tg iter wi)
  (hg:∀ (C:Addr) (s₀:Shared) (H₀:Hp) (ex:List Addr),PG (nP X N' scope C s₀ H₀ ex) tg g)
  (ht:∀ (C:Addr) (s₀:Shared) (H₀:Hp) (ex:List Addr),xr (nP X N' scope C s₀ H₀ ex) ifs tt)
  (he:∀ (C:Addr) (s₀:Shared) (H₀:Hp) (ex:List Addr),PE (nP X N' scope C s₀ H₀ ex) elt te)
  (hs:∀ x,foldedSetIterable iter X.env x=pure x):PS X (.Assign [.Name x pos'] (.ListComp elt [⟨tg,iter,ifs,0⟩] scope pos) spos) (vV (tV sub wi g tt te) (oM i)):=by
 intro pins s U H D I h
 have hsw:∃ b,swapsWith (.ListComp elt [⟨tg,iter,ifs,0⟩] scope pos) (some (.Name x pos')) spos.line X.env=pure b:=⟨_,rfl⟩
 obtain ⟨b,hsw⟩:=hsw
 cases b with
 | false=>exact Gb hNd hxi hx (Bj S hc hN hsc hi hg ht he hs) hsw (.inl hf) pins s U H D I h
 | true=>
  rw [exec_Assign_Name_used _ _ _ _ hsw]
  refine wpAny_bind (wpAny_standAt (wpAny_bind ?_))
  show wpAny _ X.A (do let _ ← comprehension (.ListComp elt [⟨tg,iter,ifs,0⟩] scope pos) scope X.env _ (newList []) false (eval iter X.env) (some (assign (.Name x pos') X.env))) _ _ s
  refine wpAny_bind (wpAny_mono (Hg (use:=some (assign (.Name x pos') X.env)) (R:=fun _ s'=>SP X pins D .next s') S hc hN hsc hi hg ht he hs pins s U H _ I h ?_) (fun _ s' hq=>wpAny_pure (wpAny_pure hq)) fun _ _ e=>e)
  intro Da C s5 H5 m I5 fC hn q
  show wpAny _ X.A (assign (.Name x pos') X.env (.ref Da)) _ _ _
  refine wpAny_assign_Name (u0 I5 hNd hxi hx (v:=.ref Da) rfl (fun s6 I6 qq0=>?_) (.inl hf))
  obtain ⟨a,sb,ha⟩:=qq0
  obtain ⟨f0,f1,f2,f3,f4,f5⟩:=fC
  have hCa:C≠a:=fun z=>by
   rcases ha with e | e
   ·exact f1 (z.trans e)
   ·exact f4 x a e z.symm
  exact ⟨m,hn.sameBut sb hCa,fun h' hs'=>⟨_,H5,I6.turned (t':=s6.toks) (fun b o hb e=>hs'.extBut b o hb e) f0 f1 f3 f4 f5,q⟩⟩
end
section
variable {X:Cx} {tg iter elt:Expr} {ifs:List Expr} {scope:Scope} {pos:Pos} {N':List Str} {sub:List (Option Nat)} {wi:TI} {g:TG} {tt:TT} {te:TE} {N:List Str} {sc:Scope}
theorem K5 {i:Nat} {x:Str} {pos' spos:Pos} (hNd:X.N.Nodup) (hxi:X.N[i]?=some x) (hx:Loc X.env.scope x) (S:rJ N sc N' scope sub) (hc:X.calm=true) (hN:X.N=N) (hsc:X.env.scope=sc) (hi:JI X tg iter wi)
  (hg:∀ (C:Addr) (s₀:Shared) (H₀:Hp) (ex:List Addr),JG (nP X N' scope C s₀ H₀ ex) tg g)
  (ht:∀ (C:Addr) (s₀:Shared) (H₀:Hp) (ex:List Addr),Q8 (nP X N' scope C s₀ H₀ ex) ifs tt)
  (he:∀ (C:Addr) (s₀:Shared) (H₀:Hp) (ex:List Addr),JE (nP X N' scope C s₀ H₀ ex) elt te) (hf:X.fn x=true) (h:autoParam (qN iter=true) L2.auto4._auto_1):
  JS X (.Assign [.Name x pos'] (.ListComp elt [⟨tg,iter,ifs,0⟩] scope pos) spos) (vV (tV sub wi g tt te) (oM i)):=
 ⟨zH hNd hxi hx hf S hc hN hsc hi.run (fun C s₀ H₀ ex=>(hg C s₀ H₀ ex).run) (fun C s₀ H₀ ex=>(ht C s₀ H₀ ex).run) (fun C s₀ H₀ ex=>(he C s₀ H₀ ex).run) (G7 h)⟩
end
section
variable {X:Cx} {pins:List (Addr×Obj)} {U:St} {H:Hp} {s:Shared}
theorem Inv.newtup {wr:List Addr} {T:Addr} {vals:Array Value} {xs:List V} {h'':Heap} {tk:Nat} (I:Inv X pins U H s) (hf:∀ b∈wr,lA X pins H b) (hT:s.heap.objs.size<=T)
  (kall:∀ b o,b ∉ wr->s.heap.get? b=some o->h''.get? b=some o) (isT':h''.IsTuple T vals) (hv:Vals xs vals.toList) (hx:xs.length<=sizeLine):Inv X pins U (upd H T (.tup xs)) {s with heap:=h'',toks:=tk}:=by
 have hTn:H T=none:=I.hok.fresh hT
 have nT:∀ b o,s.heap.get? b=some o->b≠T:=fun b o e=>Nat.ne_of_lt (Nat.lt_of_lt_of_le (Heap.lt_size e) hT)
 have nTH:∀ b u,H b=some u->b≠T:=fun b u e z=>by rw [z,hTn] at e;cases e
 have nW:∀ b u,H b=some u->b ∉ wr:=fun b u e hb=>by rw [(hf b hb).1] at e;cases e
 refine I.step (g':=s.gens) (d':=s.drawn) (ch:=wr) (fun b hb=>?_) (fun b o _ _ hc e _=>kall b o hc e) (fun b o _ _ hc e _=>⟨o.slots,kall b o hc e⟩) (fun b o _ e hn=>by rw [aB (nT b o e)];exact hn)
  (fun b o hc e=>⟨o,kall b o hc e⟩) (fun b ys e=>by rw [aB (nTH b _ e)];exact e) (fun b o u e=>by rw [aB (nTH b _ e)];exact e) (fun b ps e=>⟨#[],by rw [aB (nTH b _ e),e];simp⟩) (fun m hm=>?_) (fun b u e=>?_) I.bare
 ·obtain ⟨f0,f1,f2,f3,f4,f5⟩:=hf b hb
  exact ⟨f3,f1,f4,f5⟩
 ·obtain ⟨o,es,ep,ho,r⟩:=hm
  exact ⟨o,es,ep,kall _ o (fun hb=>(hf _ hb).2.1 rfl) ho,r⟩
 ·by_cases hb:b=T
  ·subst hb
   rw [aj] at e;cases e
   obtain ⟨o,ho,hcl,nn,hd⟩:=isT'
   exact ⟨hx,vals.toList,hv,o,ho,hcl,nn,by simpa using hd⟩
  ·rw [aB hb] at e
   refine (I.hok b u e).stay (fun c v hc' q=>kall c v ?_ q) (fun c q=>by rw [aB (nTH c _ q)];exact q) fun c ys q=>by rw [aB (nTH c _ q)];exact q
   rcases hc' with z | z
   ·rw [z];exact nW b u e
   ·exact nW c _ z
theorem Inv.only {wr:List Addr} {h':Heap} {tk:Nat} (I:Inv X pins U H s) (hf:∀ b∈wr,lA X pins H b) (kk:∀ b o,b ∉ wr->s.heap.get? b=some o->h'.get? b=some o):Inv X pins U H {s with heap:=h',toks:=tk}:=by
 have nW:∀ b u,H b=some u->b ∉ wr:=fun b u e hb=>by rw [(hf b hb).1] at e;cases e
 refine I.step (g':=s.gens) (d':=s.drawn) (ch:=wr) (fun b hb=>?_) (fun b o _ _ hc e _=>kk b o hc e) (fun b o _ _ hc e _=>⟨o.slots,kk b o hc e⟩) (fun b o _ e hn=>hn)
   (fun b o hc e=>⟨o,kk b o hc e⟩) (fun b ys e=>e) (fun b o u e=>e) (fun b ps e=>⟨#[],by rw [e];simp⟩) (fun m hm=>?_) (fun b u e=>?_) I.bare
 ·obtain ⟨f0,f1,f2,f3,f4,f5⟩:=hf b hb
  exact ⟨f3,f1,f4,f5⟩
 ·obtain ⟨o,es,ep,ho,r⟩:=hm
  exact ⟨o,es,ep,kk _ o (fun hb=>(hf _ hb).2.1 rfl) ho,r⟩
 ·refine (I.hok b u e).stay (fun c v hc' q=>kk c v ?_ q) (fun c q=>q) fun c ys q=>q
  rcases hc' with z | z
  ·rw [z];exact nW b u e
  ·exact nW c _ z
end
def Ur (K:W.Frag) (a:Addr):It:=
 ⟨fun i H=>∃ xs x,SqL K H a xs/\xs[i]?=some x,
  fun i H v H'=>∃ T x,H T=none/\v= .ref T/\(∀ xs,SqL K H a xs->xs[i]?=some x)/\H'=upd H T (.tup [.int i,x]),
  fun i H=>∃ xs,SqL K H a xs/\xs.length<=i⟩
theorem zJ {P:Program} {w:World} {K:W.Frag} {elts:List Expr} {k:Nat} {pos:Pos} {e it a:Addr} (hne:e≠it):
  Turn P w K (.Tuple elts k pos) (Ur K a) [e,it] e (fun i h=>(∃ old,IsEnum h e it i old)/\h.IsListIter it a i) where
 mem:=by simp
 obj:=fun i h st c hc=>by
  obtain ⟨⟨old,he⟩,⟨o1,e1,c1,d1⟩⟩:=st
  simp only [List.mem_cons,List.mem_nil_iff,or_false] at hc
  rcases hc with rfl | rfl
  ·exact ⟨_,he,fun v z=>by cases z⟩
  ·exact ⟨_,e1,fun v z=>by rw [d1] at z;cases z⟩
 keep:=fun i h h' st kk=>by
  obtain ⟨⟨old,he⟩,h1⟩:=st
  exact ⟨⟨old,kk e (by simp) _ he⟩,h1.at fun o q=>kk it (by simp) o q⟩
 item:=by
  intro X hP hw hK hc i pins s U H E I hf st hg
  subst hP hw hK
  obtain ⟨⟨old,he⟩,h1⟩:=st
  obtain ⟨xs,x,hq,hx⟩:=hg
  obtain ⟨its,rv,p,_⟩:=I.list hq
  obtain ⟨u,hu,ru⟩:=rv.get hx
  refine wpAny_pyNext_enum_item he h1 p.isList (x:=u) (by simpa using hu) hne fun h' a1 a2 a3 a4 hk=>?_
  refine ⟨_,rfl,wpAny_letOwnedTupleGo_enum a1 fun h'' a1' sb=>?_⟩
  have lt:∀ {c o},s.heap.get? c=some o->s.heap.objs.size≠c:=fun e=>Nat.ne_of_gt (Heap.lt_size e)
  have lti:s.heap.objs.size≠it:=by obtain ⟨o,q,_⟩:=h1;exact lt q
  have isT:h''.IsTuple s.heap.objs.size #[.int i s.toks,u]:=⟨_,sb.extBut _ _ (lt he) a3,rfl,_,rfl⟩
  have kall:∀ b o,b ∉ [e,it]->s.heap.get? b=some o->h''.get? b=some o:=fun b o hb q=>by
   simp only [List.mem_cons,List.mem_nil_iff,or_false,not_or] at hb
   exact sb.extBut _ _ hb.1 (hk b o hb.1 hb.2 q)
  have hTn:H s.heap.objs.size=none:=I.hok.fresh (Nat.le_refl _)
  refine ⟨.ref s.heap.objs.size,_,I.newtup (tk:=s.toks+1) hf (Nat.le_refl _) kall isT (xs:=[.int i,x]) (.cons ⟨_,rfl⟩ (.cons ru .nil)) (by simp;decide),rfl,⟨_,x,hTn,rfl,fun zs hs=>by rw [I.list_inj hs hq];exact hx,rfl⟩,?_,fun b hb=>?_⟩
  ·exact ⟨⟨_,a1'⟩,a2.extBut sb.extBut (Ne.symm hne)⟩
  ·have:s.heap.objs.size≠b:=by
    simp only [List.mem_cons,List.mem_nil_iff,or_false] at hb
    rcases hb with rfl | rfl
    ·exact lt he
    ·exact lti
   rw [aB (Ne.symm this)]
   exact (hf b hb).1
 done:=by
  intro X hP hw hK hc i pins s U H E I hf st hg
  subst hP hw hK
  obtain ⟨⟨old,he⟩,h1⟩:=st
  obtain ⟨xs,hq,hx⟩:=hg
  obtain ⟨its,rv,p,_⟩:=I.list hq
  have l1:=rv.length
  refine wpAny_pyNext_enum_end (I.ok.hd hc) he h1 p.isList (by simp;omega) fun h' hk=>⟨rfl,I.only (tk:=s.toks) hf fun b o hb q=>?_⟩
  simp only [List.mem_cons,List.mem_nil_iff,or_false,not_or] at hb
  exact hk b o hb.2 q
 self:=fun _ _ _ _ _ st h=>let ⟨⟨_,he⟩,_⟩:=st;wpAny_pyIter_enum he h
theorem Dn {X:Cx} {elts:List Expr} {k:Nat} {tp:Pos} {pins:List (Addr×Obj)} {U:St} {H1:Hp} {s1:Shared} {x:Str} {t:Tok} {R:It->Hp->Prop} (hc:X.calm=true) (I1:Inv X pins U H1 s1) (q:R (Q9 (mF x) x.cps.size) H1):
  wpAny (model X.prog X.w) X.A (call (.type "enumerate") [.str x t]) (fun v s1=>wpAny (model X.prog X.w) X.A (pyIter v) (PIE X pins U (.Tuple elts k tp) R) X.xe s1) X.xe s1:=by
 refine call_enumerate_str fun h' he hit hsz hk=>?_
 have J1:Inv X pins U H1 {s1 with heap:=h'}:=I1.kept (t':=s1.toks) hk
 have ne1:s1.heap.objs.size+1≠s1.heap.objs.size:=Nat.succ_ne_self _
 have nm:s1.heap.objs.size+1 ∉ [s1.heap.objs.size]:=fun z=>ne1 (List.mem_singleton.mp z)
 have hPt:∀ (i:Nat) (vals:Array Value),(∃ t y,SignAt x i y/\vals= #[.int i t,y])->Vals (mF x i) vals.toList:=by
  rintro i vals ⟨t,y,⟨c,u,e1,rfl⟩,rfl⟩
  refine .cons ⟨t,rfl⟩ (.cons ⟨u,?_⟩ .nil)
  rw [show x.cps.getD i 0=c by simp [Array.getD_eq_getD_getElem?,e1]]
 have fin:∀ (ty:String) (Dr:∀ A:Around,A.handled=none->Draws X.prog X.w A s1.heap.objs.size [s1.heap.objs.size] x.cps.size (SignAt x) fun i h=>h.IsStrIter s1.heap.objs.size ty x t i),h'.IsStrIter s1.heap.objs.size ty x t 0->
   wpAny (model X.prog X.w) X.A (pyIter (.ref (s1.heap.objs.size+1))) (PIE X pins U (.Tuple elts k tp) R) X.xe {s1 with heap:=h'}:=by
  intro ty Dr hit'
  have W:∀ A:Around,A.handled=none->WalksT X.prog X.w A (s1.heap.objs.size+1) [s1.heap.objs.size+1,s1.heap.objs.size] [s1.heap.objs.size+1,s1.heap.objs.size] x.cps.size
    (fun i vals=>∃ t y,SignAt x i y/\vals= #[.int i t,y]) (fun i h=>(∃ old,IsEnum h (s1.heap.objs.size+1) s1.heap.objs.size i old)/\h.IsStrIter s1.heap.objs.size ty x t i)
    (fun i T h=>(∃ y,IsEnumOut h (s1.heap.objs.size+1) s1.heap.objs.size ((i:Int)+1) y T)/\h.IsStrIter s1.heap.objs.size ty x t (i+1)/\T≠s1.heap.objs.size+1/\T≠s1.heap.objs.size):=
   fun A hA=>WalksT.enumerateD (Dr A.in1 hA) (s1.heap.objs.size+1) ne1 nm (by simp)
  have hself:∀ (A:Around) (i:Nat) (s:Shared) (Q:Value->Shared->Prop) (E:Value->Shared->Prop),((∃ old,IsEnum s.heap (s1.heap.objs.size+1) s1.heap.objs.size i old)/\s.heap.IsStrIter s1.heap.objs.size ty x t i)->Q (.ref (s1.heap.objs.size+1)) s->wpAny (model X.prog X.w) A (pyIter (.ref (s1.heap.objs.size+1))) Q E s:=by
   rintro A i s Q E ⟨⟨old,he⟩,_⟩ hQ
   exact wpAny_pyIter_enum he hQ
  refine hself _ 0 _ _ _ ⟨⟨_,he⟩,hit'⟩ ?_
  refine ⟨s1.heap.objs.size+1,[s1.heap.objs.size+1,s1.heap.objs.size],_,_,H1,rfl,J1,Ra W (fun i=>by simp [mF];decide) hPt (by simp) ?_ hself,⟨⟨_,he⟩,hit'⟩,fun b hb=>?_,q⟩
  ·rintro i h ⟨⟨old,he⟩,o,ho,hcl,hd⟩ b hb
   rcases List.mem_cons.mp hb with rfl | hb
   ·exact ⟨_,he,fun v z=>by cases z⟩
   ·rw [List.mem_singleton.mp hb]
    exact ⟨o,ho,fun v z=>by rw [hd] at z;cases z⟩
  ·have hb':s1.heap.objs.size<=b:=by
    rcases List.mem_cons.mp hb with rfl | hb
    ·exact Nat.le_succ _
    ·rw [List.mem_singleton.mp hb];exact Nat.le_refl _
   exact I1.fpOk hb' (I1.hok.fresh hb')
 cases hx:x.cps.all (· < 128)
 ·exact fin "str_iterator" (fun A hA=>Draws.strWide hA _ x t) (by simpa [strIterType,hx] using hit)
 ·exact fin "str_ascii_iterator" (fun A hA=>Draws.strAscii hA _ x t) (by simpa [strIterType,hx] using hit)
def O6 (K:W.Frag) (ta:TA):TI:=fun U H R=>ta U H fun vs H1=>(∃ x:Str,vs=[.str x]/\R (Q9 (mF x) x.cps.size) H1)\/∃ a xs,vs=[.ref a]/\SqL K H1 a xs/\R (Ur K a) H1
theorem j5 {X:Cx} {K:W.Frag} {a:Expr} {ta:TA} {elts:List Expr} {k:Nat} {tp p pos:Pos} (hK:X.K=K) (hc:X.calm=true) (hg:Gl X "enumerate") (hm:X.mg "enumerate"=none) (ha:JA X [a] ta) (h:autoParam (notStar a=true) L2.auto4._auto_1):
  JI X (.Tuple elts k tp) (.Call (.Name "enumerate" p) [a] [] pos) (O6 K ta):=⟨by
 subst hK
 intro pins s U H R I hq
 refine Call_ (ik I hg hm pW (PyProof.Rows.callWith_type1 (fM (ha.run pos pins s U H _ I hq) fun us s1 qq0=>?_) (bV h) rfl))
 obtain ⟨vs,H1,I1,r1,q1⟩:=qq0
 rcases q1 with ⟨x,e,q⟩ | ⟨l,xs,e,hl,q⟩
 ·subst e
  obtain ⟨u,rfl,t,rfl⟩:=vals1 r1
  exact Dn hc I1 q
 ·subst e
  obtain ⟨u,rfl,ru⟩:=vals1 r1
  cases ru
  obtain ⟨its,rv,p1,_⟩:=I1.list hl
  refine call_enumerate_list p1.isList fun h' z1 z2 z3 hk=>?_
  have J1:Inv X pins U H1 {s1 with heap:=h'}:=I1.kept (t':=s1.toks) hk
  refine wpAny_pyIter_enum z1 ?_
  refine ⟨s1.heap.objs.size+1,_,_,_,H1,rfl,J1,zJ (Nat.succ_ne_self _),⟨⟨_,z1⟩,z2⟩,fun b hb=>?_,q⟩
  have hb':s1.heap.objs.size<=b:=by
   simp only [List.mem_cons,List.mem_nil_iff,or_false] at hb
   have key:∀ n c:Nat,(c=n+1\/c=n)->n<=c:=fun n c h=>by omega
   exact key _ _ hb
  exact I1.fpOk hb' (I1.hok.fresh hb')⟩
end L2
namespace L2
open PySem PySem.Spec PyProof.Rows PySem.SeqAt
mutual
def DR (H:Hp):PyData->V->Prop
 | .none,v=>v= .non
 | .bool b,v=>v= .bl b
 | .int n,v=>v= .int n
 | .str x,v=>v= .str x
 | .list ds,v=>∃ a vs,v= .ref a/\H a=some (.lst vs)/\DRs H ds vs
 | .tuple ds,v=>∃ a vs,v= .ref a/\H a=some (.tup vs)/\DRs H ds vs
 | .dict _,_=>False
def DRs (H:Hp):List PyData->List V->Prop
 | [],vs=>vs=[]
 | d :: ds,vs=>∃ v r,vs=v :: r/\DR H d v/\DRs H ds r
end
theorem Rc {H:Hp} {n:Int} {v:V}:DR H (.int n) v↔v= .int n:=by rw [DR]
theorem K6 {H:Hp} {ds:List PyData} {v:V}:DR H (.list ds) v↔∃ a vs,v= .ref a/\H a=some (.lst vs)/\DRs H ds vs:=by rw [DR]
theorem Hh {H:Hp} {ds:List PyData} {v:V}:DR H (.tuple ds) v↔∃ a vs,v= .ref a/\H a=some (.tup vs)/\DRs H ds vs:=by rw [DR]
theorem Bw {H:Hp} {vs:List V}:DRs H [] vs↔vs=[]:=by rw [DRs]
theorem xQ {H:Hp} {d:PyData} {ds:List PyData} {vs:List V}:DRs H (d :: ds) vs↔∃ v r,vs=v :: r/\DR H d v/\DRs H ds r:=by rw [DRs]
theorem xR {H:Hp}:∀ (ns:List Int),DRs H (ns.map PyData.int) (ns.map V.int)
 | []=>Bw.mpr rfl
 | n :: ns=>xQ.mpr ⟨_,_,rfl,Rc.mpr rfl,xR ns⟩
mutual
theorem DR.reads {P:Program} {w:World} {H:Hp} {h:Heap} (ok:HOk P w H h):∀ (d:PyData) (v:V) (u:Value),DR H d v->RelV v u->∃ as,Reads h u d as
 | .none,_,u,q,r=>by rw [DR] at q;subst q;cases r;exact ⟨_,.none⟩
 | .bool b,_,u,q,r=>by rw [DR] at q;subst q;cases r;exact ⟨_,.bool _⟩
 | .int n,_,u,q,r=>by rw [DR] at q;subst q;obtain ⟨t,rfl⟩:=r;exact ⟨_,.int _ _⟩
 | .str n,_,u,q,r=>by rw [DR] at q;subst q;obtain ⟨t,rfl⟩:=r;exact ⟨_,.str _ _⟩
 | .list ds,v,u,q,r=>by
  rw [DR] at q
  obtain ⟨a,vs,rfl,e,t⟩:=q
  cases r
  obtain ⟨_,its,n,rv,g⟩:=ok a _ e
  obtain ⟨as,ra⟩:=DRs.reads ok ds vs its t rv
  exact ⟨_,.list g rfl rfl (by simpa using ra)⟩
 | .tuple ds,v,u,q,r=>by
  rw [DR] at q
  obtain ⟨a,vs,rfl,e,t⟩:=q
  cases r
  obtain ⟨_,its,rv,g⟩:=ok a _ e
  obtain ⟨as,ra⟩:=DRs.reads ok ds vs its t rv
  obtain ⟨o,ho,hc,n,hd⟩:=g
  exact ⟨_,.tuple ho hc hd (by simpa using ra)⟩
 | .dict _,_,_,q,_=>by rw [DR] at q;exact q.elim
theorem DRs.reads {P:Program} {w:World} {H:Hp} {h:Heap} (ok:HOk P w H h):∀ (ds:List PyData) (vs:List V) (us:List Value),DRs H ds vs->Vals vs us->∃ as,ReadsAll h us ds as
 | [],_,us,q,r=>by rw [DRs] at q;subst q;cases r;exact ⟨_,.nil⟩
 | d :: ds,_,us,q,r=>by
  rw [DRs] at q
  obtain ⟨v,r',rfl,q1,q2⟩:=q
  cases r with
  | cons a b=>
   obtain ⟨as,h1⟩:=DR.reads ok d v _ q1 a
   obtain ⟨bs,h2⟩:=DRs.reads ok ds r' _ q2 b
   exact ⟨_,.cons h1 h2⟩
end
def VH:R2:=fun x y H Q=>∃ d e,DR H d x/\DR H e y/\shaped d=true/\shaped e=true/\Q (.bl (PyData.eqv d e)) H
def VJ:R2:=fun x y H Q=>∃ d e,DR H d x/\DR H e y/\shaped d=true/\shaped e=true/\Q (.bl (!PyData.eqv d e)) H
section
variable {X:Cx}
theorem Rf (hu:X.A.units+64 < cLine):OpR X (compareOp .Eq) VH:=by
 intro pins s U H x y v u Q I rx ry h
 obtain ⟨d,e,h1,h2,h3,h4,q⟩:=h
 obtain ⟨as,r1⟩:=DR.reads I.hok d x v h1 rx
 obtain ⟨bs,r2⟩:=DR.reads I.hok e y u h2 ry
 exact eq_dataH r1 r2 h3 h4 hu ⟨.bl _,H,I,rfl,q⟩
theorem Rg (hu:X.A.units+64 < cLine):OpR X (compareOp .NotEq) VJ:=by
 intro pins s U H x y v u Q I rx ry h
 obtain ⟨d,e,h1,h2,h3,h4,q⟩:=h
 obtain ⟨as,r1⟩:=DR.reads I.hok d x v h1 rx
 obtain ⟨bs,r2⟩:=DR.reads I.hok e y u h2 ry
 exact ne_dataH r1 r2 h3 h4 hu ⟨.bl _,H,I,rfl,q⟩
def Hi (K:W.Frag):R2:=fun x y H Q=>QW K x y H Q\/VH x y H Q
def K7 (K:W.Frag):R2:=fun x y H Q=>VG K x y H Q\/VJ x y H Q
theorem zK {K:W.Frag} (hK:X.K=K) (hu:X.A.units+64 < cLine):OpR X (compareOp .Eq) (Hi K):=(Q0 hK (Nat.lt_of_le_of_lt (Nat.le_add_right _ _) hu)).or (Rf hu)
theorem qP {K:W.Frag} (hK:X.K=K) (hu:X.A.units+64 < cLine):OpR X (compareOp .NotEq) (K7 K):=(Rb hK hu).or (Rg hu)
end
section
variable {H:Hp} {Q:VK} {K:W.Frag} {U:St}
theorem eV {i j:Int} (h:Q (.bl (decide (V.int i=V.int j))) H):Hi K (.int i) (.int j) H Q:=.inl (.inl ⟨rfl,h⟩)
theorem gF {i j:Str} (h:Q (.bl (decide (V.str i=V.str j))) H):Hi K (.str i) (.str j) H Q:=.inl (.inl ⟨rfl,h⟩)
theorem gG {i j:Int} (h:Q (.bl (!decide (V.int i=V.int j))) H):K7 K (.int i) (.int j) H Q:=.inl (.inl ⟨rfl,h⟩)
theorem gH {i j:Str} (h:Q (.bl (!decide (V.str i=V.str j))) H):K7 K (.str i) (.str j) H Q:=.inl (.inl ⟨rfl,h⟩)
theorem Hj {x y:V} {d:PyData} (h1:DR H d x) (h2:DR H d y) (hs:shaped d=true) (h:Q (.bl true) H):Hi K x y H Q:=
 .inr ⟨d,d,h1,h2,hs,hs,by rw [PySem.SeqAt.eqv_refl d (canLay_of_shaped hs)];exact h⟩
theorem qb {x y:V} {d:PyData} (h1:DR H d x) (h2:DR H d y) (hs:shaped d=true) (h:Q (.bl false) H):K7 K x y H Q:=
 .inr ⟨d,d,h1,h2,hs,hs,by rw [PySem.SeqAt.eqv_refl d (canLay_of_shaped hs)];exact h⟩
theorem dj {a:TA} {R:It->Hp->Prop} (h:a U H fun vs H1=>(∃ x:Str,vs=[.str x]/\R (Q9 (mF x) x.cps.size) H1)\/∃ a xs,vs=[.ref a]/\SqL K H1 a xs/\R (Ur K a) H1):O6 K a U H R:=h
theorem jM {a:Addr} {xs:List V} {g:TG} {tb:TS} {D:Ends} (Pv:Nat->St->Hp->Prop) (h0:Pv 0 U H) (hq:∀ i U H,i<=xs.length->Pv i U H->SqL K H a xs)
  (hs:∀ i U H T x,xs[i]?=some x->Pv i U H->H T=none->g (.ref T) U (upd H T (.tup [.int i,x])) fun σ2 H2=>tb {D with nx:=Pv (i+1),ct:=Pv (i+1),bk:=D.nx} σ2 H2) (hd:∀ U H,Pv xs.length U H->D.nx U H):
  ∃ W:Nat->Nat->St->Hp->Prop,(∃ m,W 0 m U H)/\∀ i m U H,W i m U H->
   ((Ur K a).stop i H/\D.nx U H)\/((Ur K a).go i H/\∃ N:St->Hp->Prop,(∀ U' H',N U' H'->∃ m',m' < m/\W (i+1) m' U' H')/\∀ x H',(Ur K a).yld i H x H'->g x U H' fun σ2 H2=>tb {D with nx:=N,ct:=N,bk:=D.nx} σ2 H2):=by
 refine ⟨fun i m U H=>m=xs.length - i/\i<=xs.length/\Pv i U H,⟨xs.length,by simp,Nat.zero_le _,h0⟩,?_⟩
 rintro i m U H ⟨rfl,hi,p⟩
 have q1:=hq i U H hi p
 by_cases hlt:i < xs.length
 ·refine .inr ⟨⟨xs,xs[i],q1,List.getElem?_eq_getElem hlt⟩,Pv (i+1),fun U' H' p'=>⟨xs.length - (i+1),by omega,rfl,hlt,p'⟩,fun x H' y=>?_⟩
  obtain ⟨T,u,hT,e1,e2,e4⟩:=y
  subst e1 e4
  exact hs i U H T u (e2 xs q1) p hT
 ·have e:i=xs.length:=by omega
  subst e
  exact .inl ⟨⟨xs,q1,Nat.le_refl _⟩,hd U H p⟩
end
end L2
namespace L2
open PySem PySem.Spec PyProof.Rows
theorem Hk:typeLookup (.type "list_reverseiterator") "__len__"=pure none:=by rw [typeLookup_type,builtinLookup_eq_fast];kernel_rfl
theorem Do:typeLookup (.type "list_reverseiterator") "__length_hint__"=pure (some (.builtin "list_reverseiterator.__length_hint__")):=by rw [typeLookup_type,builtinLookup_eq_fast];kernel_rfl
section
variable {prog:Program} {w:World} {A:Around} {E:Value->Shared->Prop} {s:Shared}
theorem Hl {it l:Addr} {i:Int} {Q:Bool->Shared->Prop} (hit:s.heap.IsRevIter it l i) (h:Q false s):wpAny (model prog w) A (Builtin.List.listLengthHint (.ref it)) Q E s:=by
 unfold Builtin.List.listLengthHint
 refine wpAny_bind (wpAny_specialOf hit.typeIs Hk ?_)
 show wpAny _ _ (specialOf (Value.ref it) (Str.ofString "__length_hint__") >>=_) _ _ _
 refine wpAny_bind (wpAny_specialOf hit.typeIs Do ?_)
 generalize hid:("list_reverseiterator.__length_hint__":String)=id0
 wp_delta
 rw [show splitId id0=some ("list_reverseiterator","__length_hint__") from by subst hid;trivial]
 subst hid
 refine wpAny_bind (wpAny_isInstance (T:="list_reverseiterator") (b:=true) hit.typeIs (by rw [isSubtype_type];kernel_rfl) ?_)
 refine wpAny_ite_split (fun hab=>absurd hab (by decide)) (fun _=>?_)
 refine wpAny_ite_split (fun _=>?_) (fun hab=>absurd (by trivial) hab)
 refine wpAny_ite_split (fun hab=>absurd hab (by trivial)) (fun _=>?_)
 exact wpAny_pure h
theorem Hm {it l:Addr} {items:Array Value} {Q:Value->Shared->Prop} (hh:A.handled=none) (hit:s.heap.IsRevIter it l ((items.size:Int) - 1)) (hl:s.heap.IsList l items) (hne:l≠it) (hn:items.size<=sizeLine)
  (hQ:∀ h' tk acc' c',(∀ b o,b≠it->s.heap.get? b=some o->h'.get? b=some o)->h'.get? s.heap.objs.size=some {cls:=.type "list",dict:=none,data:=.seq acc' c',slots:=#[]}->
   ItemsOf (fun i v=>items[items.size - 1 - i]?=some v) acc' items.size->Q (.ref s.heap.objs.size) {s with heap:=h',toks:=tk}):
  wpAny (model prog w) A (call (.type "list") [.ref it]) Q E s:=by
 refine callType_codes (Q₁:=fun obj s₁=>obj= .ref s.heap.objs.size/\s₁={s with heap:=s.heap.push {cls:=.type "list",data:=.seq #[]}}) F.called_list (F.typeCall_list_1 _) F.entry_list_init
  (code_list_new _ ⟨rfl,rfl⟩) fun obj s₁ h₁=>?_
 obtain ⟨rfl,rfl⟩:=h₁
 have iti:it < s.heap.objs.size:=by obtain ⟨o,e,_⟩:=hit;exact Heap.lt_size e
 have itl:l < s.heap.objs.size:=by obtain ⟨o,e,_⟩:=hl;exact Heap.lt_size e
 generalize hS0:s.heap.objs.size=S at iti itl hQ
 have hS:(s.heap.push {cls:=.type "list",data:=.seq #[]}).get? S=some {cls:=.type "list",data:=.seq #[]}:=by rw [← hS0];exact Heap.get?_push_size _ rfl
 have kp:∀ b o,s.heap.get? b=some o->(s.heap.push {cls:=.type "list",data:=.seq #[]}).get? b=some o:=fun b o e=>Heap.get?_push_of_some _ e
 generalize s.heap.push {cls:=.type "list",data:=.seq #[]}=h1 at hS kp
 have hit1:h1.IsRevIter it l ((items.size:Int) - 1):=hit.at fun o e=>kp it o e
 have hl1:h1.IsList l items:=hl.at fun o e=>kp l o e
 refine ⟨⟨_,hS,rfl⟩,F.args_list_init_2 _ _,?_⟩
 have nSi:S≠it:=Nat.ne_of_gt iti
 have nSl:S≠l:=Nat.ne_of_gt itl
 have hSf:S ∉ [it,l]:=by simp [nSi,nSl]
 have W:=(Walks.listRev (prog:=prog) (w:=w) (A:=A.in1.in1) hh it l hne items).toS
 show wpAny _ A.in1.in1 (do let old ← Builtin.List.listItems (.ref S);Builtin.List.listUpdate (.ref S) (fun _=>#[]);letGo old.toList.reverse;Builtin.List.listExtendWith (.ref S) (.ref it) .none) _ _ _
 unfold Builtin.List.listItems
 refine wpAny_bind (wpAny_bind (wpAny_seqItems hS rfl (wpAny_pure ?_)))
 show wpAny _ A.in1.in1 (updateSeq S (fun _=>#[]) >>=fun _=>letGo (#[]:Array Value).toList.reverse >>=fun _=>Builtin.List.listExtendWith (.ref S) (.ref it) .none) _ _ _
 refine wpAny_bind (wpAny_updateSeq hS rfl ?_)
 have hS2:=Heap.get?_update_self (Obj.mapSeq (fun _=>(#[]:Array Value))) hS rfl
 have k2:∀ b o,b≠S->h1.get? b=some o->(h1.update S (Obj.mapSeq (fun _=>(#[]:Array Value)))).get? b=some o:=fun b o hb e=>(Heap.get?_update_other _ _ (Ne.symm hb)).trans e
 generalize h1.update S (Obj.mapSeq (fun _=>(#[]:Array Value)))=h2 at hS2 k2
 have hit2:=hit1.at (h':=h2) fun o e=>k2 it o (Ne.symm nSi) e
 have hl2:=hl1.at (h':=h2) fun o e=>k2 l o (Ne.symm nSl) e
 refine wpAny_bind (wpAny_letGo ?_)
 unfold Builtin.List.listExtendWith
 refine wpAny_bind (wpAny_typeOf (T:="list_reverseiterator") (Heap.IsRevIter.typeIs (s:={s with heap:=h2}) hit2) ?_)
 have e1:Builtin.List.listSameRef (.ref S) (.ref it)=false:=by simp [Builtin.List.listSameRef,nSi]
 have e2:(Value.type "list_reverseiterator" == Value.type "list")=false:=by decide
 have e3:(Value.type "list_reverseiterator" == Value.type "tuple")=false:=by decide
 simp only [e1,e2,e3,Bool.or_false,Bool.false_eq_true,if_false]
 refine wpAny_bind (wpAny_pyIter_revIter (s:={s with heap:=h2}) hit2 ?_)
 refine wpAny_bind (wpAny_holding (Hl (s:={s with heap:=h2}) hit2 ?_))
 refine wpAny_ite_split (fun hab=>absurd hab (by trivial)) (fun _=>?_)
 refine wpAny_pure ⟨plainId_quiet F.plain_extend_loop _,?_⟩
 refine codeAny_extend_loopS W hn S hSf .none items.size 0 _ #[] _ rfl (Nat.zero_le _) ⟨Nat.zero_le _,by simpa using hit2,hl2⟩ hS2 (ItemsOf.nil _) fun s' acc' c' hm hS' hacc=>?_
 rw [Moved.eq_with hm]
 refine ⟨rfl,hQ s'.heap s'.toks acc' c' (fun b o hb e=>hm.heap b o (fun hmem=>?_) (k2 b o (fun z=>?_) (kp b o e))) hS' hacc⟩
 ·rcases List.mem_cons.mp hmem with e' | hmem
  ·exact absurd (Heap.lt_size e) (by rw [e',hS0];exact Nat.lt_irrefl _)
  ·exact hb (List.mem_singleton.mp hmem)
 ·exact absurd (Heap.lt_size e) (by rw [z,hS0];exact Nat.lt_irrefl _)
end
section
variable {X:Cx} {K:W.Frag} {a b c e:Expr} {ta tb tc te:TE} {pos p p2 p3:Pos}
theorem K8 {op op':CmpOp} {r r':R2} (ho:OpR X (compareOp op) r) (ho':OpR X (compareOp op') r') (ha:JE X a ta) (hb:JE X b tb) (hc:JE X c tc) (hm:autoParam (lastMarks [op,op'] [b,c]=false) L2.auto5._auto_1):
  JE X (.Compare a [op,op'] [b,c] pos) (yX r r' ta tb tc):=⟨Gi ho ho' ha.run hb.run hc.run hm⟩
theorem arg1 {Q:List Value->Shared->Prop} {E:Value->Shared->Prop} {s:Shared} (hs:notStar e=true) (h:wpAny (model X.prog X.w) X.A (eval e X.env) (fun u s1=>Q [u] s1) E s):wpAny (model X.prog X.w) X.A (spliced (backTo pos (starEach [e] X.env))) Q E s:=by
 rw [bV hs]
 show wpAny _ _ (spliced ((false,eval e X.env) :: backTo pos (starEach [] X.env))) _ _ s
 exact Calls.spliced_cons (wpAny_mono h (fun u s1 q=>Calls.spliced_nil q) fun _ _ z=>z)
def Hn (K:W.Frag) (ta:TE):TE:=fun U H Q=>ta U H fun x H1=>∃ l xs,x= .ref l/\SqL K H1 l xs/\∀ q,H1 q=none->Q (.ref q) (upd H1 q (.lst xs.reverse))
theorem Dp (hK:X.K=K) (hc:X.calm=true) (hg:Gl X "list") (hm:X.mg "list"=none) (hg2:Gl X "reversed") (hm2:X.mg "reversed"=none) (ha:JE X a ta) (h:autoParam (notStar a=true) L2.auto4._auto_1):
  JE X (.Call (.Name "list" p) [.Call (.Name "reversed" p2) [a] [] p3] [] pos) (Hn K ta):=⟨by
 subst hK
 intro pins s U H Q I hq
 refine wpAny_Call_Name_kw (ik I hg hm lK (PyProof.Rows.callWith_type1 (arg1 rfl (wpAny_Call_Name_kw (ik I hg2 hm2 mK (PyProof.Rows.callWith_type1 (arg1 h (fM (ha.run pins s U H _ I hq) fun u s1 qq0=>?_)) (bV h) rfl)))) rfl rfl))
 obtain ⟨x,H1,I1,rx,l,xs,ex,hx,q⟩:=qq0
 subst ex
 cases rx
 obtain ⟨its,r,ht,hz⟩:=I1.list hx
 have hlen:=r.length
 refine call_reversed_list ht.isList ?_
 have lt:l < s1.heap.objs.size:=by obtain ⟨o,ho,_⟩:=ht.isList;exact Heap.lt_size ho
 have e0:(s1.heap.push (PySem.revObj l ((its.toArray.size:Int) - 1))).get? s1.heap.objs.size=some (PySem.revObj l ((its.toArray.size:Int) - 1)):=Heap.get?_push_size _ rfl
 have k0:∀ b o,s1.heap.get? b=some o->(s1.heap.push (PySem.revObj l ((its.toArray.size:Int) - 1))).get? b=some o:=fun b o q=>Heap.get?_push_of_some _ q
 have s0:(s1.heap.push (PySem.revObj l ((its.toArray.size:Int) - 1))).objs.size=s1.heap.objs.size+1:=Heap.size_push ..
 refine Hm (it:=s1.heap.objs.size) (l:=l) (I1.ok.hd hc) ⟨_,e0,rfl,rfl⟩ (ht.isList.at fun o q=>k0 l o q) (Nat.ne_of_lt lt) (by simp;omega) fun h' tk acc' c' hk hS hacc=>?_
 have eacc:acc'.toList=its.reverse:=by
  apply List.ext_getElem?
  intro i
  have a1:acc'.size=its.length:=by have:=hacc.1;simpa using this
  by_cases hi:i < its.length
  ·have hi':i < acc'.size:=by omega
   have a2:=hacc.2 i acc'[i] (Array.getElem?_eq_getElem hi')
   rw [List.getElem?_reverse hi]
   simp at a2
   rw [a2]
   simp [hi']
  ·rw [List.getElem?_eq_none (by simp;omega),List.getElem?_eq_none (by simp;omega)]
 have rr:Vals xs.reverse acc'.toList:=by rw [eacc];exact r.reverse
 have k1:∀ b o,s1.heap.get? b=some o->h'.get? b=some o:=fun b o z=>hk b o (Nat.ne_of_lt (Heap.lt_size z)) (k0 b o z)
 have hle:s1.heap.objs.size<=(s1.heap.push (PySem.revObj l ((its.toArray.size:Int) - 1))).objs.size:=by rw [s0];exact Nat.le_succ _
 refine ⟨.ref _,_,I1.laid (t':=tk) (o:=.lst xs.reverse) k1 hle ⟨by simp;omega,acc'.toList,c',rr,by simpa using hS⟩,rfl,q _ (I1.hok.fresh hle)⟩⟩
end
def Dq (h:Heap) (T:Addr):Prop:=∃ oT ts,h.get? T=some oT/\oT.data= .fields ts/\3 < ts.size
def o9 (C:Addr) (dd:Option Addr) (vs:Array Value):Obj:={cls:=.ref C,dict:=dd,data:=.fields vs}
def K9 (l:List Env):List Addr:=l.filterMap (·.frame)
section
variable {M:Model} {A:Around} {E:Value->Shared->Prop}
theorem vG {base:Heap} {env:Env} {outer:List Env} {L x C:Addr} {dd:Option Addr} {vs:Array Value} {hd:Value} {had:Bool} {Q:Unit->Shared->Prop} {s:Shared}
  (fr:A.frames=some (env :: outer)) (ff:s.heap.FunFrames base (env :: outer)) (fL:env.frame=some L) (ex:s.heap.get? x=some (o9 C dd vs)) (sz:1 < vs.size) (nx:x ∉ K9 (env :: outer))
  (k:∀ h' T,h'.get? x=some (o9 C dd (vs.setIfInBounds 1 (.ref T)))->s.heap.objs.size<=T->Dq h' T->(∀ b o,b≠x->b ∉ K9 (env :: outer)->s.heap.get? b=some o->h'.get? b=some o)->
   (∀ b o,b≠x->s.heap.get? b=some o->∃ sl,h'.get? b=some {o with slots:=sl})->Q () {s with heap:=h'}):
  wpAny M A (do let c ← frameOf env;let pl ← entryPlaceOf L had;let t ← EntryCells.newEntry hd c .none (rawInt L) .none pl;setField (.ref x) 1 t) Q E s:=by
 refine wpAny_bind (wpAny_frameOf_fun fr ff fL fun g1 so=>?_)
 refine wpAny_bind (wpAny_entryPlaceOf fun pl isp=>?_)
 unfold EntryCells.newEntry newFields
 refine wpAny_bind (wpAny_newObj_type ?_ (isp.sizeOk5 _ _ _ _ _))
 have x1:g1.get? x=some (o9 C dd vs):=(so.2.1 x nx).trans ex
 have lts:([hd,Value.ref L,.none,rawInt L,.none] ++ (if pl.isEmpty then List.replicate 6 Value.none else pl)).toArray.size > 3:=by
  simp only [List.size_toArray,List.length_append,List.length_cons,List.length_nil];omega
 generalize ([hd,Value.ref L,.none,rawInt L,.none] ++ (if pl.isEmpty then List.replicate 6 Value.none else pl)).toArray=tv at lts
 have x2:(g1.push {cls:=.type "traceback",dict:=none,data:=.fields tv}).get? x=some (o9 C dd vs):=Heap.get?_push_of_some _ x1
 have nTx:g1.objs.size≠x:=Nat.ne_of_gt (Heap.lt_size x1)
 have t2:(g1.push {cls:=.type "traceback",dict:=none,data:=.fields tv}).get? g1.objs.size=some {cls:=.type "traceback",dict:=none,data:=.fields tv}:=Heap.get?_push_size _ rfl
 have o2:∀ b o,g1.get? b=some o->(g1.push {cls:=.type "traceback",dict:=none,data:=.fields tv}).get? b=some o:=fun b o e=>Heap.get?_push_of_some _ e
 refine wpAny_setField (vs:=vs) x2 rfl sz ?_
 have e3:=Heap.get?_update_self (Obj.mapFields (·.setIfInBounds 1 (Value.ref g1.objs.size))) x2 rfl
 have ot:∀ b,b≠x->((g1.push {cls:=.type "traceback",dict:=none,data:=.fields tv}).update x (Obj.mapFields (·.setIfInBounds 1 (Value.ref g1.objs.size)))).get? b=(g1.push {cls:=.type "traceback",dict:=none,data:=.fields tv}).get? b:=fun b hb=>Heap.get?_update_other _ _ (Ne.symm hb)
 refine k _ g1.objs.size e3 (by rw [so.1];exact Nat.le_refl _) ⟨_,tv,(ot _ nTx).trans t2,rfl,lts⟩ (fun b o hb hf e=>?_) (fun b o hb e=>?_)
 ·rw [ot b hb];exact o2 b o ((so.2.1 b hf).trans e)
 ·obtain ⟨sl,q⟩:=so.2.2 b o e
  exact ⟨sl,by rw [ot b hb];exact o2 b _ q⟩
structure Bx (fs:List Addr) (x C:Addr) (dd:Option Addr) (hd:Option Addr) (h h':Heap) (T:Addr):Prop where
 obj:∃ vs,h'.get? x=some (o9 C dd vs)/\vs[1]?=some (.ref T)/\vs[2]?=some .none
 tb:Dq h' T
 ne:T≠x
 new:h.objs.size<=T\/hd=some T
 keep:∀ b o,b≠x->some b≠hd->b ∉ fs->h.get? b=some o->h'.get? b=some o
 slot:∀ b o,b≠x->some b≠hd->h.get? b=some o->∃ sl,h'.get? b=some {o with slots:=sl}
 tail:∀ b o,hd=some b->h.get? b=some o->∃ o',h'.get? b=some o'
theorem VL {base:Heap} {env:Env} {outer:List Env} {L x C:Addr} {dd:Option Addr} {vs:Array Value} {Q:Unit->Shared->Prop} {s:Shared}
  (fr:A.frames=some (env :: outer)) (ff:s.heap.FunFrames base (env :: outer)) (fL:env.frame=some L) (ex:s.heap.get? x=some (o9 C dd vs)) (h1:vs[1]?=some .none/\vs[2]?=some .none) (nx:x ∉ K9 (env :: outer))
  (k:∀ h' T,Bx (K9 (env :: outer)) x C dd none s.heap h' T->Q () {s with heap:=h'}):wpAny M A (noteFrame (.ref x) env) Q E s:=by
 unfold noteFrame
 simp only [fL]
 refine wpAny_bind (wpAny_field ex rfl h1.1 ?_)
 rw [if_neg (by decide)]
 have sz:1 < vs.size:=(Array.getElem?_eq_some_iff.mp h1.1).1
 refine vG fr ff fL ex sz nx fun h' T a1 a2 a3 a4 a5=>k h' T ⟨⟨_,a1,by simp [sz],by rw [Array.getElem?_setIfInBounds_ne (by decide)];exact h1.2⟩,a3,?_,.inl a2,fun b o hb _ hf e=>a4 b o hb hf e,fun b o hb _ e=>a5 b o hb e,fun b o z=>by cases z⟩
 exact Nat.ne_of_gt (Nat.lt_of_lt_of_le (Heap.lt_size ex) a2)
theorem VM {base:Heap} {env:Env} {outer:List Env} {L x C T0:Addr} {dd:Option Addr} {vs:Array Value} {Q:Unit->Shared->Prop} {s:Shared}
  (fr:A.frames=some (env :: outer)) (ff:s.heap.FunFrames base (env :: outer)) (fL:env.frame=some L) (ex:s.heap.get? x=some (o9 C dd vs)) (h1:vs[1]?=some (.ref T0)/\vs[2]?=some .none) (t0:Dq s.heap T0) (ne:T0≠x) (nx:x ∉ K9 (env :: outer)) (nT:T0 ∉ K9 (env :: outer))
  (k:∀ h' T,Bx (K9 (env :: outer)) x C dd (some T0) s.heap h' T->Q () {s with heap:=h'}):wpAny M A (noteFrame (.ref x) env) Q E s:=by
 obtain ⟨oT,ts,g,d,l3⟩:=id t0
 unfold noteFrame
 simp only [fL]
 refine wpAny_bind (wpAny_field ex rfl h1.1 ?_)
 rw [if_pos (show (Value.ref T0 != Value.none)=true from by simp)]
 refine wpAny_bind (wpAny_field g d (Array.getElem?_eq_getElem l3) ?_)
 by_cases q:(ts[3] == rawInt L)=true
 ·rw [if_pos q]
  exact wpAny_pure (k _ T0 ⟨⟨vs,ex,h1⟩,t0,ne,.inr rfl,fun b o _ _ _ e=>e,fun b o _ _ e=>⟨o.slots,e⟩,fun b o _ e=>⟨o,e⟩⟩)
 ·rw [if_neg q]
  refine wpAny_bind (wpAny_setField g d l3 ?_)
  have tT:=Heap.get?_update_self (Obj.mapFields (·.setIfInBounds 3 Value.none)) g (Obj.isFreed_of_fields (Obj.data_mapFields d _))
  have ot:∀ b,b≠T0->(s.heap.update T0 (Obj.mapFields (·.setIfInBounds 3 Value.none))).get? b=s.heap.get? b:=fun b hb=>Heap.get?_update_other _ _ (Ne.symm hb)
  have sz:1 < vs.size:=(Array.getElem?_eq_some_iff.mp h1.1).1
  have ff2:(s.heap.update T0 (Obj.mapFields (·.setIfInBounds 3 Value.none))).FunFrames base (env :: outer):=ff.of_keeps fun b o hb hn=>by
   refine ⟨o,(ot b (fun z=>?_)).trans hb,rfl⟩
   rw [z,g] at hb;cases hb;exact hn _ d
  refine vG (s:={s with heap:=s.heap.update T0 (Obj.mapFields (·.setIfInBounds 3 Value.none))}) fr ff2 fL ((ot x (Ne.symm ne)).trans ex) sz nx fun h' T a1 a2 a3 a4 a5=>k h' T ⟨⟨_,a1,by simp [sz],by rw [Array.getElem?_setIfInBounds_ne (by decide)];exact h1.2⟩,a3,?_,.inl (by rw [Heap.size_update] at a2;exact a2),fun b o hb h0 hf e=>a4 b o hb hf ((ot b (fun z=>h0 (by rw [z]))).trans e),fun b o hb h0 e=>a5 b o hb ((ot b (fun z=>h0 (by rw [z]))).trans e),fun b o hb e=>?_⟩
  ·exact Nat.ne_of_gt (Nat.lt_of_lt_of_le (Heap.lt_size ex) (by rw [Heap.size_update] at a2;exact a2))
  ·cases hb
   obtain ⟨sl,z⟩:=a5 T0 _ ne tT
   exact ⟨_,z⟩
theorem VN {x C T0:Addr} {dd:Option Addr} {vs:Array Value} {Q:Unit->Shared->Prop} {s:Shared} (ex:s.heap.get? x=some (o9 C dd vs)) (h1:vs[1]?=some (.ref T0)/\vs[2]?=some .none) (t0:Dq s.heap T0) (ne:T0≠x)
  (k:∀ h',Bx [] x C dd (some T0) s.heap h' T0->Q () {s with heap:=h'}):wpAny M A (setFlight (.ref x) none) Q E s:=by
 obtain ⟨oT,ts,g,d,l3⟩:=id t0
 unfold setFlight
 refine wpAny_bind (wpAny_field ex rfl h1.1 ?_)
 rw [if_pos (show (Value.ref T0 != Value.none)=true from by simp)]
 refine wpAny_setField g d l3 (k _ ?_)
 have d2:=Obj.data_mapFields d (·.setIfInBounds 3 ((none:Option Addr).elim Value.none fun f=>rawInt f))
 have tT:=Heap.get?_update_self (Obj.mapFields (·.setIfInBounds 3 ((none:Option Addr).elim Value.none fun f=>rawInt f))) g (Obj.isFreed_of_fields d2)
 have ot:∀ b,b≠T0->(s.heap.update T0 (Obj.mapFields (·.setIfInBounds 3 ((none:Option Addr).elim Value.none fun f=>rawInt f)))).get? b=s.heap.get? b:=fun b hb=>Heap.get?_update_other _ _ (Ne.symm hb)
 exact ⟨⟨vs,(ot x (Ne.symm ne)).trans ex,h1⟩,⟨_,_,tT,d2,by simpa using l3⟩,ne,.inr rfl,fun b o _ h0 _ e=>(ot b (fun z=>h0 (by rw [z]))).trans e,fun b o _ h0 e=>⟨o.slots,(ot b (fun z=>h0 (by rw [z]))).trans e⟩,fun b o hb e=>by cases hb;exact ⟨_,tT⟩⟩
end
def VEm:List Value:=[.type "ValueError",.type "Exception",.type "BaseException",.type "object"]
def xIn (K:W.Frag) (D:Addr):Bool:=match K.lookup D with
 | some ⟨.type "type",_,.cls cd,sl⟩=>(match cd.mro,sl.toList with
  | .ref E :: bm,[_,_,_,_,some (.builtin n),_]=>E == D && n == "ValueError.__new__" && cd.hasDel == false && cd.hasDict && PySem.W.tailIn K VEm bm
  | _,_=>false)
 | _=>false
def zL (x C dx:Addr):HO:=.ext fun h=>∃ vs,h.get? x=some (o9 C (some dx) vs)/\vs[2]?=some .none
theorem La {P:Program} {w:World} {H:Hp} {h:Heap} {x C dx:Addr} {vs:Array Value} (e:h.get? x=some (o9 C (some dx) vs)) (h2:vs[2]?=some .none):ObjOk P w H h x (zL x C dx):=
 ⟨⟨vs,e,h2⟩,⟨_,e⟩,fun h1 h2 ⟨vs,e,z⟩ k=>⟨vs,k _ e,z⟩⟩
theorem Lb {P:Program} {w:World} {H:Hp} {h:Heap} {x C dx:Addr} (ok:HOk P w H h) (e:H x=some (zL x C dx)):∃ vs,h.get? x=some (o9 C (some dx) vs)/\vs[2]?=some .none:=(ok _ _ e).1
structure Head (X:Cx) (pins:List (Addr×Obj)) (H:Hp) (x C dx T:Addr) (h:Heap):Prop where
 obj:∃ vs,h.get? x=some (o9 C (some dx) vs)/\vs[1]?=some (.ref T)/\vs[2]?=some .none
 tb:Dq h T
 fp:lA X pins H T
 tr:H x=some (zL x C dx)
theorem Head.ne {X:Cx} {pins:List (Addr×Obj)} {H:Hp} {x C dx T:Addr} {h:Heap} (a:Head X pins H x C dx T h):T≠x:=fun z=>by
 have:=a.fp.1
 rw [z,a.tr] at this;cases this
def Fly (X:Cx) (pins:List (Addr×Obj)) (H:Hp) (x C dx:Addr) (h:Heap):Prop:=
 H x=some (zL x C dx)/\((∃ vs,h.get? x=some (o9 C (some dx) vs)/\vs[1]?=some .none/\vs[2]?=some .none)\/∃ T,Head X pins H x C dx T h)
section
variable {X:Cx} {pins:List (Addr×Obj)} {U:St} {H:Hp} {s:Shared} {x C dx:Addr} {h':Heap} {T:Addr} {hd:Option Addr}
theorem Inv.noted {fs:List Addr} (I:Inv X pins U H s) (hx:H x=some (zL x C dx)) (hh:∀ b,hd=some b->lA X pins H b) (hf:∀ b∈fs,b∈X.env.locals :: X.fs) (N:Bx fs x C (some dx) hd s.heap h' T):Inv X pins U H {s with heap:=h'}:=by
 obtain ⟨m,⟨oL,esL,epL,hoL,rL⟩,_⟩:=id I.loc
 have fsF:∀ b∈fs,H b=none:=fun b hb=>by
  rcases List.mem_cons.mp (hf b hb) with e | hb
  ·rw [e];exact I.free
  ·obtain ⟨_,o,ho,_⟩:=I.ok.funs.mem hb
   exact I.base.free b o ho (I.ok.frf b hb) fun z=>I.ok.exfs b z hb
 have nx:∀ b,H b=none->b≠x:=fun b n z=>by rw [z,hx] at n;cases n
 have hdF:∀ b,hd=some b->H b=none:=fun b e=>(hh b e).1
 have mem:∀ b,b ∉ hd.toList->some b≠hd:=fun b nb z=>nb (by rw [← z];simp)
 refine I.step (g':=s.gens) (d':=s.drawn) (t':=s.toks) (ch:=hd.toList) (fun b hb=>?_) (fun b o hL hb hc e n=>?_) (fun b o hL hb hc e n=>?_) (fun _ _ _ _ n=>n) (fun b o hc e=>?_) (fun _ _ e=>e) (fun _ _ _ e=>e) (fun b ps e=>⟨#[],by rw [e];simp⟩) (fun m hm=>?_) (fun b u e=>?_) I.bare
 ·have e:hd=some b:=by cases hd <;> simp_all
  obtain ⟨_,a2,_,a4,a5,a6⟩:=hh b e
  exact ⟨a4,a2,a5,a6⟩
 ·refine N.keep b o (nx b n) (mem b hc) (fun z=>?_) e
  rcases List.mem_cons.mp (hf b z) with q | q
  ·exact hL q
  ·exact hb q
 ·exact N.slot b o (nx b n) (mem b hc) e
 ·by_cases q:b=x
  ·obtain ⟨vs,z,_⟩:=N.obj
   exact ⟨_,by rw [q];exact z⟩
  ·obtain ⟨sl,z⟩:=N.slot b o q (mem b hc) e
   exact ⟨_,z⟩
 ·obtain ⟨o,es,ep,ho,r⟩:=hm
  obtain ⟨sl,z⟩:=N.slot _ o (nx _ I.free) (fun q=>(hh _ q.symm).2.1 rfl) ho
  exact ⟨_,es,ep,z,r⟩
 ·by_cases q:b=x
  ·subst q
   rw [hx] at e;cases e
   obtain ⟨vs,z,_,z2⟩:=N.obj
   exact La z z2
  ·refine (I.hok b u e).stay (fun c v hc z=>?_) (fun _ q=>q) fun _ _ q=>q
   have tc:∃ u,H c=some u:=by
    rcases hc with rfl | hc
    ·exact ⟨_,e⟩
    ·exact ⟨_,hc⟩
   obtain ⟨uc,tc⟩:=tc
   refine N.keep c v (fun zz=>?_) (fun zz=>?_) (fun zz=>?_) z
   ·rcases hc with rfl | hc
    ·exact q zz
    ·rw [zz,hx] at hc;cases hc
   ·rw [hdF c zz.symm] at tc;cases tc
   ·rw [fsF c zz] at tc;cases tc
theorem Ho {A:Around} {E:Value->Shared->Prop} {Q:Unit->Shared->Prop} (I:Inv X pins U H s) (hst:X.stack=X.env :: X.outer) (hfr:X.env.frame=some X.env.locals) (hA:A.frames=some X.stack) (F:Fly X pins H x C dx s.heap)
  (k:∀ h' T,Inv X pins U H {s with heap:=h'}->Head X pins H x C dx T h'->Q () {s with heap:=h'}):wpAny (model X.prog X.w) A (noteFrame (.ref x) X.env) Q E s:=by
 have ff:s.heap.FunFrames X.base (X.env :: X.outer):=hst ▸ I.stack
 have sub:∀ b∈K9 (X.env :: X.outer),b∈X.env.locals :: X.fs:=fun b hb=>I.stkSub b (by rw [hst];exact hb)
 have nf:∀ b u,H b=some u->b ∉ K9 (X.env :: X.outer):=fun b u e z=>by
  rw [I.stkFree b (by rw [hst];exact z)] at e;cases e
 obtain ⟨hx,⟨vs,e,h1⟩ | ⟨T0,hT⟩⟩:=F
 ·refine VL (hst ▸ hA) ff hfr e h1 (nf x _ hx) fun h' T N=>?_
  have J:=I.noted hx (fun b z=>by cases z) sub N
  refine k h' T J ⟨N.obj,N.tb,?_,hx⟩
  have zT:s.heap.objs.size<=T:=by rcases N.new with z | z;exact z;cases z
  exact I.fpOk zT (I.hok.fresh zT)
 ·obtain ⟨vs,e,h1⟩:=hT.obj
  refine VM (hst ▸ hA) ff hfr e h1 hT.tb hT.ne (nf x _ hx) (fun z=>?_) fun h' T N=>?_
  ·rcases List.mem_cons.mp (sub T0 z) with q | q
   ·exact hT.fp.2.1 q
   ·exact hT.fp.2.2.1 q
  ·have J:=I.noted hx (fun b z=>by cases z;exact hT.fp) sub N
   refine k h' T J ⟨N.obj,N.tb,?_,hx⟩
   rcases N.new with z | z
   ·exact I.fpOk z (I.hok.fresh z)
   ·cases z;exact hT.fp
theorem Hq {A:Around} {E:Value->Shared->Prop} {Q:Unit->Shared->Prop} (I:Inv X pins U H s) (F:Head X pins H x C dx T s.heap)
  (k:∀ h',Inv X pins U H {s with heap:=h'}->Head X pins H x C dx T h'->Q () {s with heap:=h'}):wpAny (model X.prog X.w) A (setFlight (.ref x) none) Q E s:=by
 obtain ⟨vs,e,h1⟩:=F.obj
 refine VN e h1 F.tb F.ne fun h' N=>?_
 exact k h' (I.noted F.tr (fun b z=>by cases z;exact F.fp) (fun b z=>absurd z (by simp)) N) ⟨N.obj,N.tb,F.fp,F.tr⟩
def Rh (P:Program) (w:World):Fp:=fun outer H s E e s'=>∃ x C dx T H',e= .ref x/\s'.os=s.os/\AllBare s'.gens/\Un (frs outer) [] H H' s.heap s'.heap/\HOk P w H' s'.heap/\H' x=some (zL x C dx)/\H' T=none/\s.heap.objs.size<=T/\
 (∃ vs,s'.heap.get? x=some (o9 C (some dx) vs)/\vs[1]?=some (.ref T)/\vs[2]?=some .none)/\Dq s'.heap T/\E (.ref C) (some x) H'
def XE (X:Cx) (pins:List (Addr×Obj)) (R:St->XK) (e:Value) (s':Shared):Prop:=∃ x C dx U H',e= .ref x/\Inv X pins U H' s'/\Fly X pins H' x C dx s'.heap/\R U (.ref C) (some x) H'
theorem By {R:St->XK} {e:Value} {s':Shared} (I:Inv X pins U H s) (c:Rh X.prog X.w X.stack H s (R U) e s'):XE X pins R e s':=by
 obtain ⟨x,C,dx,T,H',rfl,os,bare,un,hok,tx,tT,zT,ob,tb,r⟩:=c
 obtain ⟨hh,g,d,t,os'⟩:=s'
 obtain rfl:os'=s.os:=os
 have J:=I.call (h':=hh) (g':=g) (d':=d) (t':=t) (ch:=[]) un hok bare (fun b z=>absurd z (by simp))
 exact ⟨x,C,dx,U,H',rfl,J,⟨tx,.inr ⟨T,ob,tb,I.fpOk zT tT,tx⟩⟩,r⟩
def rO (X:Cx) (R:St->XK):Prop:=∀ (pins:List (Addr×Obj)) (e:Value) (s':Shared),XE X pins R e s'->X.xe e s'
end
theorem mQ {P:Program} {w:World} {K:W.Frag} {mg:Str->Option Value} {base:Heap} {N:List Str} {qual:Str} {scope:Scope} {f:Addr} {cd:Value} {A:Around} {outer:List Env} {s:Shared} {H:Hp} {E:XK}:
  rO (qM (Rh P w) P w K mg base N qual scope f cd A outer s H E) (fun _=>E):=by
 rintro pins e s' ⟨x,C,dx,U,H',he,I,F,r⟩
 subst he
 show wpAny _ _ (leaving _ _) _ _ _
 unfold leaving
 refine wpAny_bind (Ho (X:=qM (Rh P w) P w K mg base N qual scope f cd A outer s H E) I rfl rfl I.ok.frames F fun h1 T J1 F1=>?_)
 refine Hq (X:=qM (Rh P w) P w K mg base N qual scope f cd A outer s H E) J1 F1 fun h2 J2 F2=>?_
 refine ⟨x,C,dx,T,H',rfl,J2.os,J2.bare,J2.base,J2.hok,F2.tr,F2.fp.1,?_,F2.obj,F2.tb,r⟩
 rcases F2.fp.2.2.2.1 with z | z
 ·exact absurd (show T∈([]:List Addr) from z) (by simp)
 ·exact z
def VP (d:Addr) (fs:List (Str×V)):HO:=.ext fun h=>∃ mA,h.Ns1 d mA/\∀ f,RelO (fs.lookup f) (mA f)
theorem Ld {P:Program} {w:World} {H:Hp} {h:Heap} {d:Addr} {fs:List (Str×V)} (ok:HOk P w H h) (e:H d=some (VP d fs)):∃ mA,h.Ns1 d mA/\∀ f,RelO (fs.lookup f) (mA f):=(ok _ _ e).1
def jd:List Value->Bool
 | [.type a,.type b,.type c,.type d]=>a == "ValueError" && b == "Exception" && c == "BaseException" && d == "object"
 | .ref _ :: r=>jd r
 | _=>false
theorem xT {l:List Value} (e:jd l=true):(∃ a r,l= .ref a :: r/\jd r=true)\/l=VEm:=by
 unfold jd at e
 split at e
 ·simp only [Bool.and_eq_true,beq_iff_eq] at e
  obtain ⟨⟨⟨rfl,rfl⟩,rfl⟩,rfl⟩:=e
  exact .inr rfl
 ·exact .inl ⟨_,_,rfl,e⟩
 ·cases e
theorem ud:∀ (l:List Value),jd l=true->l.contains (.type "object")=true/\l.contains (.type "BaseException")=true
 | [],e=>by cases e
 | v :: r,e=>by
  rcases xT e with ⟨a,r',q,e'⟩ | q
  ·cases q
   obtain ⟨h1,h2⟩:=ud r e'
   exact ⟨by rw [List.contains_cons,h1,Bool.or_true],by rw [List.contains_cons,h2,Bool.or_true]⟩
  ·rw [q]
   decide
structure XCls (K:W.Frag) (C:Addr):Prop where
 xi:xIn K C=true
 ov:∃ cd,PySem.W.clsIn K C=some cd/\jd cd.mro=true/\cd.hasDict=true
 sa:PySem.W.findIn K (.ref C) "__setattr__"=some (some (.builtin "object.__setattr__"))
 ga:PySem.W.findIn K (.ref C) "__getattribute__"=some (some (.builtin "BaseException.__getattribute__"))
 gh:PySem.W.findIn K (.ref C) "__getattr__"=some none
theorem Le {l:List Value} (e:jd l=true):l.isEmpty=false:=by
 cases l with
 | nil=>cases e
 | cons _ _=>rfl
section
variable {prog:Program} {w:World} {A:Around} {s:Shared} {K:W.Frag} {x C:Addr} {R:Result->Shared->Prop}
theorem XCls.mro {c:Value} {b:Bool} (k:XCls K C) (h:∀ cd,PySem.W.clsIn K C=some cd->jd cd.mro=true->cd.mro.contains c=b):PySem.W.mroIn K C c=some b:=by
 obtain ⟨cd,a,o,_⟩:=k.ov
 unfold PySem.W.mroIn
 rw [a,Option.bind_some,if_neg (by rw [Le o];decide),h cd a o]
theorem XCls.isObj (k:XCls K C):PySem.W.mroIn K C (.type "object")=some true:=k.mro fun cd _ o=>(ud _ o).1
theorem XCls.isExc (k:XCls K C):PySem.W.mroIn K C (.type "BaseException")=some true:=k.mro fun cd _ o=>(ud _ o).2
end
structure YC (K:W.Frag) (C:Addr):Prop where
 cls:XCls K C
 ca:PySem.W.findIn K (.ref C) "__class__"=some (some (.builtin "object.__class__"))
 cg:PySem.W.specialIn K (.builtin "object.__class__") "__get__"=some (some (.builtin "getset_descriptor.__get__"))
 ct:PySem.W.takesIn K (.builtin "object.__class__")=some true
section
variable {prog:Program} {w:World} {A:Around} {E:Value->Shared->Prop} {s:Shared} {K:W.Frag} {x C:Addr} {ox od:Obj}
theorem Ds {Q:Option Value->Shared->Prop} (c:YC K C) (KI:K.In s.heap) (J:PySem.W.InstAt s.heap x ox C (some od)) (h:Q (some (.ref C)) {s with toks:=s.toks+1}):wpAny (model prog w) A (getAttr? (.ref x) "__class__") Q E s:=by
 obtain ⟨cd,hc,ho,hd⟩:=c.cls.ov
 have hf:PySem.W.findObj K C (some od) "__class__"=some (.bind (.builtin "getset_descriptor.__get__") (.builtin "object.__class__")):=PySem.W.findObj_data (by rw [hc];rfl) c.ca c.cg c.ct
 obtain ⟨hh,g,dr,t,os⟩:=s
 have L0:=J.type (M:=model prog w)
 have L1:=PySem.W.looks_findIn (M:=model prog w) KI c.cls.ga
 have L2:=PySem.W.looks_findIn (M:=model prog w) KI c.cls.gh
 have L3:=PySem.W.looks_find (M:=model prog w) KI J hf
 have sub:PySem.W.Looks (model prog w) hh (isInstance (.ref x) (.type "BaseException")) true:=L0.andThen (PySem.W.looks_mroIn KI c.cls.isExc)
 have hb0:(onTheHeap (Value.ref C) && Value.builtin "BaseException.__getattribute__" == Value.builtin "object.__getattribute__")=false:=by
  rw [show (Value.builtin "BaseException.__getattribute__" == Value.builtin "object.__getattribute__")=false from by trivial,Bool.and_false]
 unfold getAttr? getAttrBy? getAttrBy
 refine wpAny_bind (wpAny_mkText (wpAny_bind (wpAny_attempt (wpAny_holding (wpAny_bind (L0.at (wpAny_bind (L1.at ?_))))))))
 dsimp only
 rw [hb0,if_neg Bool.false_ne_true]
 unfold getAttrByItsOwn hookBefore
 refine wpAny_bind ?_
 rw [if_pos (show onTheHeap (Value.ref C)=true from rfl)]
 refine L2.at ?_
 refine wpAny_bind (wpAny_attempt (wpAny_holding ?_))
 unfold callGetattribute
 rw [if_neg (show ¬ ((false && onTheHeap (Value.builtin "BaseException.__getattribute__"))=true) from by decide)]
 unfold boundAndCalled
 refine wpAny_bind (wpAny_of_eq (F.attrBase_ValueError.ga.bind (.ref x)) ?_)
 refine wpAny_call (codeAny_call_builtin F.attrBase_ValueError.ga.plain F.entry_bexc_ga (@PySem.W.check_slot (model prog w) _ _ ⟨hh,g,dr,t+1,os⟩ "BaseException.__getattribute__" "BaseException" "__getattribute__" (.ref x) [.str "__class__" t] [] _ (by trivial) (by trivial) sub (F.args_bexc_ga (.ref x) (.str "__class__" t)) ?_))
 refine wpAny_bind (wpAny_pure (wpAny_bind (wpAny_pure (wpAny_bind (L0.at (wpAny_bind (L3.at ?_)))))))
 show wpAny _ _ (holding [.builtin "object.__class__"] (call (.builtin "getset_descriptor.__get__") [.builtin "object.__class__",.ref x,.ref C]) >>=ret) _ _ _
 refine wpAny_bind (wpAny_holding (wpAny_call (PySem.W.class_get (s:=⟨hh,g,dr,t+1,os⟩) KI J c.cls.isObj ?_)))
 refine wpAny_pure ?_
 show wpAny _ _ (handedOut (.ref C)) _ _ _
 rw [PySem.W.handedOut_of rfl]
 exact wpAny_pure (wpAny_pure h)
theorem Hr (c:YC K C):PySem.W.KitX K (.ref x) (.ref C) (fun h=>PySem.W.InstAt h x ox C (some od)) where
 ty:=fun _ _ _ I=>I.type
 it:=fun _ _ X _=>by
  obtain ⟨cd,hc,_⟩:=c.cls.ov
  unfold PySem.W.clsIn at hc
  split at hc
  ·rename_i a1 a2 a3 a4 ho
   intro A1 Q1 E1 s1 k q
   unfold isType loadHead
   exact wpAny_bind (wpAny_loadPart (k _ _ (X _ _ ho)) (wpAny_pure q))
  ·cases hc
 ne:=fun h tp dd its n sl X htp=>by
  obtain ⟨cd,hc,_⟩:=c.cls.ov
  refine Bool.eq_false_iff.mpr fun q=>?_
  obtain rfl:C=tp:=Value.ref.inj (beq_iff_eq.mp q)
  unfold PySem.W.clsIn at hc
  split at hc
  ·rename_i a1 a2 a3 a4 ho
   cases (X _ _ ho).symm.trans htp
  ·cases hc
 ca:=fun X I k=>Ds c X I k
end
def IsX (H:Hp) (x C:Addr) (fs:List (Str×V)):Prop:=∃ d,H x=some (zL x C d)/\H d=some (VP d fs)
def clV:V->Option Value
 | .ty T=>some (.type T)
 | .ref C=>some (.ref C)
 | _=>none
theorem Hs {v:V} {u c:Value} (e:clV v=some c) (r:RelV v u):u=c:=by
 cases v <;> first | cases e;exact r | cases e
def Ht:List V->Option (List Value)
 | []=>some []
 | v :: r=>match clV v,Ht r with
  | some c,some l=>some (c :: l)
  | _,_=>none
theorem BJ:∀ {vs:List V} {us cs:List Value},Ht vs=some cs->Vals vs us->us=cs
 | [],us,cs,e,r=>by cases r;cases e;rfl
 | v :: vs,us,cs,e,r=>by
  cases r with
  | cons r1 r2=>
   unfold Ht at e
   split at e
   ·rename_i c l h1 h2
    cases e
    rw [Hs h1 r1,BJ h2 r2]
   ·cases e
def O7 (K:W.Frag):List V->Hp->VK->Prop:=fun xs H Q=>∃ x t b,(TyOf K H x t\/∃ a C fs,x= .ref a/\IsX H a C fs/\YC K C/\t= .ref C)/\
 ((∃ v c,xs=[x,v]/\clV v=some c/\PySem.W.kitOne K t c=some b)\/(∃ p vs cs,xs=[x,.ref p]/\H p=some (.tup vs)/\Ht vs=some cs/\PySem.W.kitAny K t cs=some b))/\Q (.bl b) H
section
variable {X:Cx} {pins:List (Addr×Obj)} {U:St} {H:Hp} {s:Shared} {A:Around} {E:Value->Shared->Prop} {Q:Value->Shared->Prop} {c:Value} {b:Bool}
theorem Hu {x:V} {u t:Value} (I:Inv X pins U H s) (rx:RelV x u) (ty:TyOf X.K H x t\/∃ a C fs,x= .ref a/\IsX H a C fs/\YC X.K C/\t= .ref C):
  ∃ φ:Heap->Prop,PySem.W.KitX X.K u t φ/\φ s.heap/\u≠.builtin "__main__.__loader__#opaque":=by
 rcases ty with ty | ⟨a,C,fs,rfl,⟨d,e1,e2⟩,c,rfl⟩
 ·cases ty with
  | non=>cases (show u=Value.none from rx);exact ⟨_,PySem.W.kitx_none,True.intro,(fun z=>nomatch z)⟩
  | bl y=>cases (show u=Value.bool y from rx);exact ⟨_,PySem.W.kitx_bool,True.intro,(fun z=>nomatch z)⟩
  | int i=>obtain ⟨t,q⟩:=(show ∃ t,u=Value.int i t from rx);cases q;exact ⟨_,PySem.W.kitx_int,True.intro,(fun z=>nomatch z)⟩
  | str y=>obtain ⟨t,q⟩:=(show ∃ t,u=Value.str y t from rx);cases q;exact ⟨_,PySem.W.kitx_str,True.intro,(fun z=>nomatch z)⟩
  | flt y=>obtain ⟨t,q⟩:=(show ∃ t,u=Value.float y t from rx);cases q;exact ⟨_,PySem.W.kitx_float,True.intro,(fun z=>nomatch z)⟩
  | @lst a xs ea=>
   cases (show u=Value.ref a from rx)
   obtain ⟨_,_,n,_,h1⟩:=(show ObjOk X.prog X.w H s.heap a (.lst xs) from I.hok a _ ea)
   exact ⟨_,PySem.W.kitx_list,⟨_,h1,rfl⟩,(fun z=>nomatch z)⟩
  | @frz a ob xs ea=>
   cases (show u=Value.ref a from rx)
   obtain ⟨_,_,_,n,_,h1⟩:=(show ObjOk X.prog X.w H s.heap a (.frz ob (.lst xs)) from I.hok a _ ea)
   exact ⟨_,PySem.W.kitx_list,⟨_,h1,rfl⟩,(fun z=>nomatch z)⟩
  | @tup a xs ea=>
   cases (show u=Value.ref a from rx)
   obtain ⟨_,_,_,p⟩:=(show ObjOk X.prog X.w H s.heap a (.tup xs) from I.hok a _ ea)
   obtain ⟨o,h1,h2,_⟩:=p
   exact ⟨_,PySem.W.kitx_tuple,⟨o,h1,h2⟩,(fun z=>nomatch z)⟩
  | @dK a kvs ea=>
   cases (show u=Value.ref a from rx)
   obtain ⟨_,_,vs,_,p⟩:=(show ObjOk X.prog X.w H s.heap a (.dK kvs) from I.hok a _ ea)
   obtain ⟨o,es,ep,h1,h2,_⟩:=p
   exact ⟨_,PySem.W.kitx_dict,⟨o,h1,h2.1⟩,(fun z=>nomatch z)⟩
  | @dT a kvs ea=>
   cases (show u=Value.ref a from rx)
   obtain ⟨_,_,xs,_,o,es,ep,h1,h2,_⟩:=(show ObjOk X.prog X.w H s.heap a (.dT kvs) from I.hok a _ ea)
   exact ⟨_,PySem.W.kitx_dict,⟨o,h1,h2.1⟩,(fun z=>nomatch z)⟩
  | @ins a C dx fs ea cl ha hn htk hm=>
   cases (show u=Value.ref a from rx)
   obtain ⟨mA,O,_⟩:=pM I.hok ea
   obtain ⟨od,J,_⟩:=O.look
   exact ⟨_,PySem.W.kitx_own (cl.get _) cl.hd ha hn htk hm,J,(fun z=>nomatch z)⟩
 ·cases (show u=Value.ref a from rx)
  obtain ⟨vs,hx,_⟩:=Lb I.hok e1
  obtain ⟨mA,nA,rA⟩:=Ld I.hok e2
  obtain ⟨od,hod,lk⟩:=u9 nA
  exact ⟨_,Hr (ox:=o9 C (some d) vs) (od:=od) c,⟨hx,rfl,rfl,hod⟩,(fun z=>nomatch z)⟩
theorem Dt {K:W.Frag} (hK:X.K=K):CallR X (.builtin "isinstance") (O7 K):=by
 subst hK
 intro pins s U H xs us Q I r h
 obtain ⟨x,t,b,ty,w,q⟩:=h
 rcases w with ⟨v,c,rfl,ec,e⟩ | ⟨p,vs,cs,rfl,ep,ec,e⟩
 ·obtain ⟨u,u2,rfl,ru,rv⟩:=vals2 r
  obtain rfl:=Hs ec rv
  obtain ⟨φ,Z,hφ,hne⟩:=Hu I ru ty
  exact PySem.W.kia_one Z I.kIn hφ e hne fun tk=>⟨.bl b,H,I.tok _,rfl,q⟩
 ·obtain ⟨u,u2,rfl,ru,rv⟩:=vals2 r
  cases (show u2=Value.ref p from rv)
  obtain ⟨φ,Z,hφ,hne⟩:=Hu I ru ty
  obtain ⟨_,its,rt,o,h1,h2,n,h3⟩:=(show ObjOk X.prog X.w H s.heap p (.tup vs) from I.hok p _ ep)
  obtain rfl:=BJ ec rt
  obtain ⟨oc,odd,oda,osl⟩:=o
  dsimp only at h2 h3
  subst h2 h3
  exact PySem.W.kia_tup Z I.kIn hφ h1 e hne fun tk=>⟨.bl b,H,I.tok _,rfl,q⟩
end
theorem jz {X:Cx} (h:∀ (e:Value) (s:Shared),X.xe e s=False):rO X (fun _ _ _ _=>False):=fun _ _ _ ⟨_,_,_,_,_,_,_,_,z⟩=>z.elim
section
variable {X:Cx} {k:Nat} {f C:Addr} {fd:FuncData} {ps:List Str} {sp:Sp} {R:St->XK} {x:Str} {p pos:Pos} {e:Expr} {es:List Expr} {t:TA} {pins:List (Addr×Obj)} {U:St} {H:Hp} {s:Shared} {Q:VK} {us:List Value} {vs:List V}
theorem BK (F:rT X.prog X.w X.K X.mg X.base (Rh X.prog X.w) k f fd ps sp) (hr:Room k X.A) (hb:Binds X.K fd ps []) (hx:rO X R) (I:Inv X pins U H s) (r:Vals vs us) (h:sp vs H Q (R U)):
  wpAny (model X.prog X.w) X.A (call (.ref f) us) (EP X pins U Q) X.xe s:=by
 have hl:(us ++ []).length=ps.length:=by rw [List.append_nil,← r.length];exact F.len _ _ _ _ h
 have bd:=hb s us I.kIn hl
 rw [List.append_nil] at bd
 refine wpAny_call (codeAny_mono (F.run X.A X.stack s H ⟨us,[]⟩ us vs Q (R U) hr I.env0 bd r h) fun rr s' hq=>?_)
 cases rr with
 | error e=>exact hx pins e s' (By I hq)
 | ok fl=>
  cases fl with
  | ret u=>exact I.after hq
  | next=>exact False.elim hq
  | brk=>exact False.elim hq
  | cont=>exact False.elim hq
end
def aN (mg:Str->Option Value) (x:Str):Addr:=match mg x with
 | some (.ref a)=>a
 | _=>0
theorem wu {mg:Str->Option Value} {x:Str} {C:Addr} (h:mg x=some (.ref C)):aN mg x=C:=by unfold aN;rw [h]
def Ri (K:W.Frag) (C:Addr) (fl:List Str):Bool:=fl.all fun n=>PySem.W.findIn K (.ref C) n == some none
section
variable {U:St} {H:Hp} {D:Ends} {Q:VK} {sp:Sp} {R:St->XK} {a:TA} {K:W.Frag} {C P:Addr} {fl:List Str} {th:TH} {ts:TS} {i:Nat} {ta:TE} {f:Str}
theorem ww {x:V} {t:Value} {p:Addr} {vs:List V} {cs:List Value} {b:Bool} (ty:TyOf K H x t) (hp:H p=some (.tup vs)) (e:Ht vs=some cs) (o:PySem.W.kitAny K t cs=some b) (h:Q (.bl b) H):O7 K [x,.ref p] H Q:=
 ⟨x,t,b,.inl ty,.inr ⟨p,vs,cs,rfl,hp,e,o⟩,h⟩
end
section
variable {X:Cx} {e:Expr} {te:TE} {lo hi:Option Expr} {st:Expr} {tl th ts:TO} {pos p2:Pos}
theorem Lf:JE X (.Dict [] [] pos) zr:=⟨GJ⟩
end
section
variable {U:St} {H:Hp} {Q:VK} {te:TE}
theorem gJ (h:∀ p,H p=none->Q (.ref p) (upd H p (.dK []))):zr U H Q:=h
end
def VR (K:W.Frag) (neg:Bool):R2:=fun x y H Q=>∃ a b xs,x= .ref a/\y= .ref b/\SqL K H a xs/\SqL K H b xs/\(∀ v∈xs,jZ v=true\/∃ r,v= .ref r)/\Q (.bl (!neg)) H
theorem xU {v:V} (f:jZ v=true):Bg v v=true:=by
 cases v <;> first | (cases f;done) | rfl | (simp [Bg])
section
variable {X:Cx}
theorem Rj (hu:X.A.units < cLine):OpR X (compareOp .Eq) (VR X.K false):=by
 intro pins s U H x y v u Q I rx ry h
 obtain ⟨a,b,xs,rfl,rfl,ha,hb,fx,q⟩:=h
 cases rx
 cases ry
 obtain ⟨its,r1,p1,z1⟩:=I.list ha
 obtain ⟨jts,r2,p2,z2⟩:=I.list hb
 have l1:its.toArray.size=xs.length:=by simpa using r1.length.symm
 have l2:jts.toArray.size=xs.length:=by simpa using r2.length.symm
 refine SeqAt.eq_listAt (e:=fun _=>true) p1.isList p2.isList (by rw [l1,l2]) hu (fun j h1 h2=>?_) ?_
 ·have hj:j < xs.length:=by omega
  obtain ⟨u1,e1,q1⟩:=r1.get (List.getElem?_eq_getElem hj)
  obtain ⟨u2,e2,q2⟩:=r2.get (List.getElem?_eq_getElem hj)
  have f1:its.toArray[j]=u1:=by
   obtain ⟨_,z⟩:=List.getElem?_eq_some_iff.mp e1
   simpa using z
  have f2:jts.toArray[j]=u2:=by
   obtain ⟨_,z⟩:=List.getElem?_eq_some_iff.mp e2
   simpa using z
  rw [f1,f2]
  rcases fx _ (List.getElem_mem hj) with f | ⟨r,f⟩
  ·rw [← xU f]
   exact vZ q1 q2 f f
  ·rw [f] at q1 q2
   cases (show u1=Value.ref r from q1)
   cases (show u2=Value.ref r from q2)
   exact SeqAt.EqAt.same _
 ·have e:(List.range its.toArray.size).all (fun _=>true)=true:=by simp
  rw [e]
  exact ⟨.bl true,H,I,rfl,q⟩
def Lg (K:W.Frag):R2:=fun x y H Q=>Hi K x y H Q\/VR K false x y H Q
theorem Rk {K:W.Frag} (hK:X.K=K) (hu:X.A.units+64 < cLine):OpR X (compareOp .Eq) (Lg K):=by
 subst hK
 exact (zK rfl hu).or (Rj (Nat.lt_of_le_of_lt (Nat.le_add_right _ _) hu))
end
section
variable {H:Hp} {Q:VK} {K:W.Frag}
theorem eY {i j:Int} (h:Q (.bl (decide (V.int i=V.int j))) H):Lg K (.int i) (.int j) H Q:=.inl (eV h)
theorem Rm {a b:Addr} {xs:List V} (h1:SqL K H a xs) (h2:SqL K H b xs) (f:∀ v∈xs,jZ v=true\/∃ r,v= .ref r) (h:Q (.bl true) H):Lg K (.ref a) (.ref b) H Q:=.inr ⟨a,b,xs,rfl,rfl,h1,h2,f,h⟩
end
end L2
namespace L2
open PySem PySem.Spec PyProof.Rows
open AutoSeq1 (wpAny_loadPart')
theorem Rn:isSubtype (.type "dict") (.type "dict")=pure true:=by rw [isSubtype_type];kernel_rfl
theorem Du {prog:Program} {w:World} {A:Around} {E:Value->Shared->Prop} {s:Shared} {Q:Value->Shared->Prop} {a:Addr} {o:Obj} {e:DictEntry} {ep:Nat} {k:Key} (ho:s.heap.get? a=some o) (hc:o.cls= .type "dict") (hd:o.data= .dict #[e] ep)
  (hkey:(cX prog w).is k e.key=true) (hh:e.hash=(cX prog w).hash k) (hsm:(a == sysModules)=false) (hu:A.units < cLine) (h:Q (.bool true) s):wpAny (model prog w) A (compareOp .Eq (.ref a) (.ref a)) Q E s:=by
 show wpAny _ _ (richCompare .Eq (.ref a) (.ref a)) _ _ _
 refine wpAny_richCompare_same_room ⟨o,ho,hc⟩ ⟨o,ho,hc⟩ F.slot_dict_eq (wpAny_call (codeAny_call_builtin F.slot_dict_eq.plain F.entry_dict_eq (F.slot_dict_eq.check _ _ _ _ _ _ _ _ ⟨o,ho,hc⟩ (F.args_dict_eq_2 _ _) ?_))) hu
 have ko:KeysOf (cX prog w) #[e]:=fun x hx=>by
  simp at hx
  subst hx
  exact ⟨k,hkey,hh⟩
 have f2:=Rn
 obtain ⟨hp,g,d,tk,os⟩:=s
 have hT:(⟨hp,g,d,tk,os⟩:Shared).TypeIs (.ref a) "dict":=⟨_,ho,hc⟩
 unfold Builtin.«dict.__eq__»
 wp_walk using wpAny_loadPart' ho
 have en:∀ (Q:Array DictEntry->Shared->Prop) (E:Value->Shared->Prop),Q #[e] ⟨hp,g,d,tk,os⟩->wpAny (model prog w) A.in1 (dictEntries a) Q E ⟨hp,g,d,tk,os⟩:=fun Q E q=>by
  unfold dictEntries
  refine wpAny_bind (wpAny_loadPart ho ?_)
  simp only [hd]
  exact wpAny_pure q
 have eo:∀ (Q:Nat->Shared->Prop) (E:Value->Shared->Prop),Q ep ⟨hp,g,d,tk,os⟩->wpAny (model prog w) A.in1 (dictEpoch a) Q E ⟨hp,g,d,tk,os⟩:=fun Q E q=>by
  unfold dictEpoch
  refine wpAny_bind (wpAny_loadPart ho ?_)
  simp only [hd]
  exact wpAny_pure q
 simp only [hd]
 refine wpAny_pure ?_
 refine wpAny_bind (en _ _ ?_)
 rw [if_neg (by simp)]
 refine wpAny_bind (eo _ _ ?_)
 refine wpAny_bind ?_
 rw [Std.Legacy.Range.forIn_eq_forIn_range']
 simp only [Std.Legacy.Range.size,Nat.sub_zero,Nat.add_sub_cancel,Nat.div_one]
 show wpAny _ _ (forIn [0] _ _) _ _ _
 rw [List.forIn_cons]
 refine wpAny_bind (wpAny_bind (en _ _ ?_))
 show wpAny _ _ (holding [e.key,e.val] _ >>=_) _ _ _
 refine wpAny_bind (wpAny_holding ?_)
 refine wpAny_bind (show wpAny (model prog w) A.in1 (dictFind a e.key e.hash) _ _ _ from ?_)
 rw [hh]
 refine wpAny_dictFind_of hkey ho hd ko ?_
 have fi:(#[e]:Array DictEntry).findIdx? (fun e=>(cX prog w).is k e.key)=some 0:=by simp [hkey]
 rw [fi]
 refine wpAny_bind (en _ _ ?_)
 show wpAny _ _ (holding [e.val] (eqBool e.val e.val)) _ _ _
 refine wpAny_holding (SeqAt.EqAt.same e.val prog w _ _ ?_)
 rw [if_neg (by simp)]
 refine wpAny_bind (eo _ _ ?_)
 rw [if_neg (by simp)]
 refine wpAny_pure ?_
 show wpAny _ _ (forIn [] _ _) _ _ _
 rw [List.forIn_nil]
 refine wpAny_pure (wpAny_pure ?_)
 exact wpAny_pure ⟨(fun z=>nomatch z),h⟩
section
variable {X:Cx}
def O8 (K:W.Frag):R2:=fun x y H Q=>∃ a b xs,x= .ref a/\y= .ref b/\SqT K H a xs/\SqT K H b xs/\(∀ v∈xs,jZ v=true\/∃ r,v= .ref r)/\Q (.bl true) H
theorem Lh (hu:X.A.units < cLine):OpR X (compareOp .Eq) (O8 X.K):=by
 intro pins s U H x y v u Q I rx ry h
 obtain ⟨a,b,xs,rfl,rfl,ha,hb,fx,q⟩:=h
 cases rx
 cases ry
 obtain ⟨its,r1,p1,z1⟩:=I.tuple ha
 obtain ⟨jts,r2,p2,z2⟩:=I.tuple hb
 have l1:its.toArray.size=xs.length:=by simpa using r1.length.symm
 have l2:jts.toArray.size=xs.length:=by simpa using r2.length.symm
 refine SeqAt.eq_tupleAt (e:=fun _=>true) p1 p2 hu (fun j h1 h2=>?_) ?_
 ·have hj:j < xs.length:=by omega
  obtain ⟨u1,e1,q1⟩:=r1.get (List.getElem?_eq_getElem hj)
  obtain ⟨u2,e2,q2⟩:=r2.get (List.getElem?_eq_getElem hj)
  have f1:its.toArray[j]=u1:=by
   obtain ⟨_,z⟩:=List.getElem?_eq_some_iff.mp e1
   simpa using z
  have f2:jts.toArray[j]=u2:=by
   obtain ⟨_,z⟩:=List.getElem?_eq_some_iff.mp e2
   simpa using z
  rw [f1,f2]
  rcases fx _ (List.getElem_mem hj) with f | ⟨r,f⟩
  ·rw [← xU f]
   exact vZ q1 q2 f f
  ·rw [f] at q1 q2
   cases (show u1=Value.ref r from q1)
   cases (show u2=Value.ref r from q2)
   exact SeqAt.EqAt.same _
 ·have e:((List.range (min its.toArray.size jts.toArray.size)).all (fun _=>true) && its.toArray.size == jts.toArray.size)=true:=by rw [l1,l2];simp
  rw [e]
  exact ⟨.bl true,H,I,rfl,q⟩
def O9:R2:=fun x y H Q=>∃ a k v,x= .ref a/\y= .ref a/\H a=some (.dK [(k,v)])/\Q (.bl true) H
theorem Li (hu:X.A.units < cLine):OpR X (compareOp .Eq) O9:=by
 intro pins s U H x y v u Q I rx ry h
 obtain ⟨a,k,z,rfl,rfl,ha,q⟩:=h
 cases rx
 cases ry
 obtain ⟨_,hsm,vs,kv,o,es,ep,h1,h2,h3,h4,h5,h6⟩:=(show ObjOk X.prog X.w H s.heap a (.dK [(k,z)]) from I.hok a _ ha)
 cases kv with
 | cons a1 a2=>
  cases a2
  obtain ⟨l⟩:=es
  dsimp only at h5
  cases h5 with
  | @cons en _ _ _ p1 p2 p3=>
   cases p3
   obtain ⟨k',b1,b2⟩:=h4 en (by simp)
   exact Du (e:=en) h1 h2.1 h3 b1 b2 hsm hu ⟨.bl true,H,I,rfl,q⟩
def VV (K:W.Frag):R2:=fun x y H Q=>Lg K x y H Q\/O8 K x y H Q\/O9 x y H Q
theorem wy {K:W.Frag} (hK:X.K=K) (hu:X.A.units+64 < cLine):OpR X (compareOp .Eq) (VV K):=by
 subst hK
 exact (Rk rfl hu).or ((Lh (Nat.lt_of_le_of_lt (Nat.le_add_right _ _) hu)).or (Li (Nat.lt_of_le_of_lt (Nat.le_add_right _ _) hu)))
end
theorem Hv {sub:List (Option Nat)} {g:TG} {tt:TT} {te:TE} {U:St} {Q:VK} {H:Hp} {K:W.Frag} {a:Addr} {xs:List V} (Pv:Nat->List V->Hp->Prop) (hn:xs.length<=sizeLine) (h0:Pv 0 [] H) (hl:∀ i ys H,Pv i ys H->ys.length<=i)
  (hq:∀ i ys H,Pv i ys H->SqT K H a xs)
  (hs:∀ i ys H x,xs[i]?=some x->Pv i ys H->g x (cz sub U) H fun σ2 H2=>KeepSt (cz sub U) σ2/\tt σ2 H2 fun b H3=>if b=true then te σ2 H3 fun y H4=>Pv (i+1) (ys ++ [y]) H4 else Pv (i+1) ys H3)
  (hd:∀ ys H,Pv xs.length ys H->∀ D,H D=none->Q (.ref D) (upd H D (.lst ys))):mJ sub g tt te U Q (Ou K a) H:=
 sS (n:=xs.length) Pv hn h0 hl (fun i ys H hi p=>⟨xs,xs[i],hq i ys H p,List.getElem?_eq_getElem hi⟩) (fun ys H p=>⟨xs,hq _ ys H p,Nat.le_refl _⟩) (fun i ys H x H' hi p y=>by
  obtain ⟨rfl,e2⟩:=y
  exact hs i ys _ x (e2 xs (hq i ys _ p)) p) hd
section
variable {H:Hp} {Q:VK} {K:W.Frag}
theorem dm {U:St} {r r':R2} {ta tb tc:TE} (h:ta U H fun x H1=>tb U H1 fun y H2=>r x y H2 fun z H3=>∃ k,z= .bl k/\if k=true then tc U H3 fun w H4=>r' y w H4 Q else Q (.bl false) H3):yX r r' ta tb tc U H Q:=h
theorem gK {i j:Int} (h:Q (.bl (decide (V.int i=V.int j))) H):VV K (.int i) (.int j) H Q:=.inl (eY h)
end
end L2
namespace L2
open PySem PySem.Spec PyProof.Rows PySem.SeqAt
theorem Lj (lo hi:Option Int) (n:Nat):Builtin.Str.strSliceIndices lo hi 1 n=(List.range (HT.sIx n n hi - HT.sIx n 0 lo)).map fun k=>HT.sIx n 0 lo+k:=by
 have c:∀ (i:Int) (d:Nat),max 0 (min (if i < 0 then i+(n:Int) else i) (n:Int))=((HT.sIx n d (some i):Nat):Int):=by
  intro i d
  rw [← HT.clip_eq]
  split <;> omega
 have key:∀ a b:Nat,(List.range (if (a:Int) < (b:Int) then ((b:Int) - a+1 - 1) / 1 else 0).toNat).map (fun k:Nat=>((a:Int)+1*(k:Int)).toNat)=(List.range (b - a)).map fun k=>a+k:=by
  intro a b
  have e3:(if (a:Int) < (b:Int) then ((b:Int) - a+1 - 1) / 1 else 0).toNat=b - a:=by split <;> omega
  rw [e3]
  refine List.map_congr_left fun k _=>?_
  omega
 unfold Builtin.Str.strSliceIndices sliceRange
 simp only [show (1:Int) > 0 by decide,if_true]
 cases lo with
 | none=>
  cases hi with
  | none=>exact key 0 n
  | some j=>rw [← key,← c j n];rfl
 | some i=>
  cases hi with
  | none=>rw [← key,← c i 0];rfl
  | some j=>rw [← key,← c i 0,← c j n]
theorem Pa {α β:Type} {f:α->Option β} {g:α->β}:∀ (l:List α),(∀ k∈l,f k=some (g k))->l.filterMap f=l.map g
 | [],_=>rfl
 | k :: l,h=>by rw [List.filterMap_cons,h k (by simp),List.map_cons,Pa l fun j hj=>h j (List.mem_cons_of_mem _ hj)]
theorem Dv (l:List Nat) (a m:Nat) (h:a+m<=l.length):((List.range m).map fun k=>a+k).filterMap (fun i=>l[i]?)=(l.drop a).take m:=by
 rw [List.filterMap_map,Pa (g:=fun k=>l.getD (a+k) 0)]
 ·refine List.ext_getElem? fun i=>?_
  rw [List.getElem?_map,List.getElem?_take]
  by_cases hi:i < m
  ·rw [if_pos hi,List.getElem?_range hi,List.getElem?_drop,List.getElem?_eq_getElem (by omega)]
   simp [List.getElem?_eq_getElem (show a+i < l.length by omega)]
  ·rw [if_neg hi,List.getElem?_eq_none (by simp;omega)];rfl
 ·intro k hk
  have hk:=List.mem_range.mp hk
  show l[a+k]?=_
  rw [List.getD_eq_getElem?_getD,List.getElem?_eq_getElem (by omega)];rfl
theorem Dw (z:Str) (lo hi:Option Int):(Txt.slice z lo hi).cps.toList=(z.cps.toList.drop (HT.sIx z.length 0 lo)).take (HT.sIx z.length z.length hi - HT.sIx z.length 0 lo):=by
 have hn:z.cps.toList.length=z.length:=by simp [Str.length]
 have la:=HT.sIx_le z.length 0 (Nat.zero_le _) lo
 have lb:=HT.sIx_le z.length z.length (Nat.le_refl _) hi
 unfold Txt.slice
 rw [Lj]
 generalize HT.sIx z.length 0 lo=a at la ⊢
 generalize HT.sIx z.length z.length hi=b at lb ⊢
 split
 ·rename_i h
  simp at h
  have ha:a=0:=by
   rcases Nat.eq_zero_or_pos z.length with h0 | h0
   ·omega
   ·omega
  subst ha
  rw [List.drop_zero,List.take_of_length_le (by omega)]
 ·show List.filterMap (fun x=>z.cps[x]?) _=_
  have e:(fun x:Nat=>z.cps[x]?)=fun x=>z.cps.toList[x]?:=by funext x;simp
  rw [e]
  by_cases h:a<=b
  ·exact Dv _ a (b - a) (by omega)
  ·rw [show b - a=0 by omega];simp
theorem zM (z:Str) (k:Nat):(Txt.slice z (some (k:Int)) none).cps.toList=z.cps.toList.drop k:=by
 rw [Dw,HT.sIx_none,HT.sIx_nat]
 have hn:z.cps.toList.length=z.length:=by simp [Str.length]
 by_cases h:k<=z.length
 ·rw [Nat.min_eq_left h,List.take_of_length_le (by rw [List.length_drop];omega)]
 ·rw [Nat.min_eq_right (by omega),List.drop_eq_nil_of_le (by omega),List.drop_eq_nil_of_le (by omega)];simp
theorem zN {n:Nat}:∀ {ds:List PyData},(∀ d∈ds,d.canLay0=true/\d.depth<=n)->PyData.canLayAll0 ds=true/\PyData.depthAll ds<=n
 | [],_=>⟨rfl,by simp [PyData.depthAll]⟩
 | d :: ds,h=>by
  obtain ⟨a,b⟩:=zN fun e he=>h e (List.mem_cons_of_mem _ he)
  obtain ⟨c,e⟩:=h d (by simp)
  rw [PyData.canLayAll0,PyData.depthAll,a,c]
  exact ⟨rfl,by omega⟩
theorem Hw {n:Nat} {ds:List PyData} (h:∀ d∈ds,d.canLay0=true/\d.depth<=n):(PyData.list ds).canLay0=true/\(PyData.list ds).depth<=n+1:=by
 obtain ⟨a,b⟩:=zN h
 rw [PyData.canLay0,PyData.depth]
 exact ⟨a,by omega⟩
theorem Dy {n:Nat} {ds:List PyData} (h:∀ d∈ds,d.canLay0=true/\d.depth<=n):(PyData.tuple ds).canLay0=true/\(PyData.tuple ds).depth<=n+1:=by
 obtain ⟨a,b⟩:=zN h
 rw [PyData.canLay0,PyData.depth]
 exact ⟨a,by omega⟩
theorem Lk (s:Int):(PyData.int s).canLay0=true/\(PyData.int s).depth<=0:=by simp [PyData.canLay0,PyData.depth]
theorem zO {d:PyData} {n:Nat} (h:d.canLay0=true/\d.depth<=n) (hn:n<=64):shaped d=true:=by
 unfold shaped
 rw [h.1,decide_eq_true (by omega)];rfl
theorem jQ {xs:List V} {H:Hp} {R:Addr->Prop} (c:Nat.ble xs.length 64=true) (h:∀ p,H p=none->R p):xs.length<=sizeLine/\∀ p,H p=none->R p:=
 ⟨Nat.le_trans (Nat.le_of_ble_eq_true c) (by decide),h⟩
theorem jA {A B:Prop} (h:A):if (!false)=true then A else B:=(if_pos (show (!false)=true from rfl)).mpr h
theorem jB {A B:Prop} (h:B):if (!true)=true then A else B:=by rw [if_neg (by simp)];exact h
theorem Hy {t u:TS} {D:Ends} {U:St} {H:Hp} (M:St->Hp->Prop) (h1:∀ U H,M U H->u D U H) (h2:∀ N,(∀ U H,M U H->N U H)->t {D with nx:=N} U H):FJ t u D U H:=h2 _ h1
theorem V0 {α:Type} {xs:List α} {n:Nat} {v:α} (h:xs.length=n+1) (e:xs[n]?=some v):wX xs (-1)=some v:=by
 unfold wX Fq
 rw [h,if_neg (by omega),if_pos (by omega)]
 show xs[((-1:Int)+((n+1:Nat):Int)).toNat]?=some v
 rw [show ((-1:Int)+((n+1:Nat):Int)).toNat=n by omega];exact e
end L2
namespace L2
open PySem PySem.Spec PyProof.Rows PySem.SeqAt
open AutoSeq1 (wpAny_loadPart')
end L2
namespace L2
open PySem PySem.Spec PyProof.Rows
section
variable {X:Cx}
theorem Dz:∀ {us:List Value} {ns:List Int},IntsAre us ns->Vals (ns.map V.int) us:=by
 intro us
 induction us with
 | nil=>intro ns h;cases h;exact .nil
 | cons u us ih=>
  intro ns h
  cases h with
  | cons a b=>exact .cons ⟨_,rfl⟩ (ih (by assumption))
end
def V1 (K:W.Frag):R2:=fun x y H Q=>KJ K x y H Q\/∃ a o,y= .ref a/\DGet H a x o/\Q (.bl o.isSome) H
def Pb:yU:=fun o i v H R=>xm o i v H R\/∃ a H4,o= .ref a/\DPut H a i v H4/\R H4
def xV (n0:List V->Hp->(Int->Int->Nat->Prop)->Prop) (ta:TA):TE:=fun U H Q=>ta U H fun vs H1=>n0 vs H1 fun lo c n=>∀ q,H1 q=none->Q (.ref q) (upd H1 q (.lst ((List.range n).map fun i:Nat=>V.int (lo+(i:Int)*c))))
def rng1:List V->Hp->(Int->Int->Nat->Prop)->Prop:=fun vs _ R=>∃ n:Nat,vs=[.int n]/\n<=1000000/\R 0 1 n
theorem DG {lo c:Int} {n:Nat} {acc:Array Value} (h:ItemsOf (fun i v=>∃ t,v= .int (lo+i*c) t) acc n):Vals ((List.range n).map fun i:Nat=>V.int (lo+(i:Int)*c)) acc.toList:=by
 obtain ⟨h1,h2⟩:=h
 have key:∀ (k:Nat) (a:List Value) (b:Nat),a.length=k->(∀ (j:Nat) (v:Value),a[j]?=some v->∃ t,v= .int (lo+((b+j:Nat):Int)*c) t)->Vals ((List.range' b k).map fun i:Nat=>V.int (lo+(i:Int)*c)) a:=by
  intro k
  induction k with
  | zero=>intro a b hl _;cases a with
   | nil=>exact .nil
   | cons _ _=>simp at hl
  | succ k ih=>
   intro a b hl hh
   cases a with
   | nil=>simp at hl
   | cons v a=>
    obtain ⟨t,e⟩:=hh 0 v (by simp)
    rw [List.range'_succ,List.map_cons]
    refine .cons ⟨t,by simpa using e⟩ (ih a (b+1) (by simpa using hl) fun j v' e=>?_)
    obtain ⟨t,e⟩:=hh (j+1) v' (by simpa using e)
    exact ⟨t,by rw [e];congr 3;omega⟩
 rw [List.range_eq_range']
 refine key n acc.toList 0 (by simpa using h1) fun j v e=>?_
 obtain ⟨t,e⟩:=h2 j v (by simpa using e)
 exact ⟨t,by rw [e];congr 3;simp⟩
section
variable {X:Cx}
theorem wz {pins:List (Addr×Obj)} {U:St} {H1:Hp} {s1:Shared} {Q:VK} {E:Value->Shared->Prop} {lo hi c:Int} {t u v:Tok} {tk n:Nat} (hc:X.calm=true) (I1:Inv X pins U H1 s1) (hs:Builtin.Range.small lo hi c=true) (hn:Builtin.Range.rangeSize lo hi c=(n:Int)) (hl:n<=1000000)
  (q:∀ q,H1 q=none->Q (.ref q) (upd H1 q (.lst ((List.range n).map fun i:Nat=>V.int (lo+(i:Int)*c))))):
  wpAny (model X.prog X.w) X.A (call (.type "list") [.ref s1.heap.objs.size]) (EP X pins U Q) E {s1 with heap:=s1.heap.push {cls:=.type "range",data:=.fields #[.int lo t,.int hi u,.int c v]},toks:=tk}:=by
 have I2:Inv X pins U H1 {s1 with heap:=s1.heap.push {cls:=.type "range",data:=.fields #[.int lo t,.int hi u,.int c v]},toks:=tk}:=I1.kept fun b o e=>Heap.get?_push_of_some _ e
 refine call_list_range (n:=n) (I1.ok.hd hc) (IsRange.new ..) hs hn (by omega) fun h' tk' acc' c' hk hS hacc=>?_
 have hsl:n<=sizeLine:=Nat.le_trans hl (by decide)
 exact ⟨.ref _,_,I2.laid (t':=tk') (o:=.lst ((List.range n).map fun i:Nat=>V.int (lo+(i:Int)*c))) hk (Nat.le_refl _) ⟨by simpa using hsl,acc'.toList,c',DG hacc,by simpa using hS⟩,rfl,q _ I2.fresh⟩
theorem zP {a:Expr} {ta:TA} {p p2 p3 pos:Pos} (hc:X.calm=true) (hg:Gl X "list") (hm:X.mg "list"=none) (hg2:Gl X "range") (hm2:X.mg "range"=none) (ha:JA X [a] ta) (h:autoParam (notStar a=true) L2.auto4._auto_1):
  JE X (.Call (.Name "list" p) [.Call (.Name "range" p2) [a] [] p3] [] pos) (xV rng1 ta):=⟨by
 intro pins s U H Q I hq
 refine wpAny_Call_Name_kw (ik I hg hm lK (PyProof.Rows.callWith_type1 (arg1 rfl (wpAny_Call_Name_kw (ik I hg2 hm2 boot_range (PyProof.Rows.callWith_type1 (fM (ha.run p3 pins s U H _ I hq) fun us s1 qq0=>?_) (bV h) rfl)))) rfl rfl))
 obtain ⟨vs,H1,I1,r1,q1⟩:=qq0
 obtain ⟨n,rfl,hn,q⟩:=q1
 obtain ⟨u,rfl,t,rfl⟩:=vals1 r1
 exact call_range_1 (wz hc I1 (small_one (by omega) (by omega) (by omega) (by omega)) (by rw [rangeSize_one];split <;> omega) hn q)⟩
theorem Hz {K:W.Frag} (hK:X.K=K) (hu:X.A.units+64 < cLine):OpR X (compareOp .In) (V1 K):=(G5 hK).or (by
 intro pins s U H x y v u Q I rx ry h
 obtain ⟨a,o,rfl,g,q⟩:=h
 obtain rfl:u=Value.ref a:=ry
 exact d_in (by omega) I g rx fun s3 I3=>⟨.bl o.isSome,H,I3,rfl,q⟩)
theorem Ln (hu:X.A.units+64 < cLine):JZ X Pb:=by
 intro pins s U H o i v ov iv u Q I ro ri rv h
 rcases h with h | ⟨a,H4,rfl,g,q⟩
 ·exact set_list pins s U H o i v ov iv u Q I ro ri rv h
 ·obtain rfl:ov=Value.ref a:=ro
  exact Di (by omega) I g ri rv fun s4 I4=>⟨H4,I4,q⟩
end
section
variable {U:St} {H:Hp} {Q:VK} {K:W.Frag}
theorem kI {n0:List V->Hp->(Int->Int->Nat->Prop)->Prop} {ta:TA} (h:ta U H fun vs H1=>n0 vs H1 fun lo c n=>∀ q,H1 q=none->Q (.ref q) (upd H1 q (.lst ((List.range n).map fun i:Nat=>V.int (lo+(i:Int)*c))))):xV n0 ta U H Q:=h
theorem kJ {x y:Str} (h:Q (.bl (!(Builtin.Str.occurrences y x 0 y.length 1).isEmpty)) H):V1 K (.str x) (.str y) H Q:=.inl (jb h)
end
def V2 (i j:Int):Prop:=0 < j/\j < 1606938044258990275541962092341162602522202993782792835301376
section
variable {X:Cx}
theorem xW:OpR X (binaryOp .FloorDiv) (rI V2 fun i j=>.int (i / j)):=YB fun i j _ _ _ _ _ hc q=>by
 have h1:(0:Int) < j:=hc.1
 have h2:=hc.2
 refine floordiv_int (by omega) (by rw [Int.fdiv_eq_ediv_of_nonneg i (by omega)];exact q) (.inl (PyProof.noPylong_of_log2 ?_))
 have h3:j.natAbs.log2 < 200:=(Nat.log2_lt (by omega)).mpr (by omega)
 omega
end
end L2
namespace L2
open PySem PySem.Spec PyProof.Rows
open PySem.Sem (wp)
open PySem.AutoSeq1 (wpAny_loadPart')
end L2
namespace L2
open PySem PySem.Spec PyProof.Rows
end L2
namespace L2
open PySem PySem.Spec PyProof.Rows
open PySem.Sem (wp)
open PySem.AutoSeq1 (wpAny_loadPart')
section
variable {prog:Program} {w:World} {A:Around} {E:Value->Shared->Prop} {s:Shared}
theorem sr {it l:Addr} {i:Nat} {items:Array Value} {x:Value} {Q:Value->Shared->Prop} (hit:s.heap.IsRevIter it l (i:Int)) (hl:s.heap.IsList l items) (hx:items[i]?=some x)
  (hQ:∀ h',h'.IsRevIter it l ((i:Int) - 1)->Heap.SameBut it s.heap h'->Q x {s with heap:=h'}):wpAny (model prog w) A (Builtin.SmallTypes.nextOf (.ref it)) Q E s:=by
 obtain ⟨o,ho,hc,hd⟩:=id hit
 obtain ⟨ol,hol,_,nl,hdl⟩:=hl
 unfold Builtin.SmallTypes.nextOf
 refine wpAny_bind (wpAny_callSpecial?_slot (name:=Str.ofString "__next__") hit.typeIs F.slot_lri_next
  (wpAny_call_entry F.slot_lri_next hit.typeIs F.entry_lri_next ?_ (F.args_lri_next_1 _)))
 unfold Builtin.«list_reverseiterator.__next__»
 refine wpAny_bind (wpAny_of_eq (a:=(Value.ref it,[])) rfl ?_)
 try dsimp only
 refine wpAny_bind (wpAny_field ho hd (x:=rawInt (i:Int)) rfl ?_)
 show wpAny _ _ (if (i:Int) < 0 then _ else _) _ _ s
 rw [if_neg (by omega)]
 show wpAny _ _ (field (.ref it) 0 >>=_) _ _ s
 refine wpAny_bind (wpAny_field ho hd (x:=.ref l) rfl ?_)
 show wpAny _ _ (seqItems? (.ref l) >>=_) _ _ s
 refine wpAny_bind (wpAny_seqItems hol hdl ?_)
 simp only [Int.toNat_natCast,hx]
 refine wpAny_bind (wpAny_setField ho hd (by simp) ?_)
 first
 | refine wpAny_pure ⟨x,rfl,wpAny_pure (hQ _ ?_ (Heap.SameBut.update ..))⟩
 | refine wpAny_bind (wpAny_pure (wpAny_pure ⟨x,rfl,wpAny_pure (hQ _ ?_ (Heap.SameBut.update ..))⟩))
 exact ⟨_,Heap.get?_update_self _ ho (Obj.isFreed_of_fields (Obj.data_mapFields hd _)),(Obj.cls_mapFields ..).trans hc,by
  rw [Obj.data_mapFields hd];simp⟩
theorem mR {it l:Addr} {Q:Value->Shared->Prop} (hh:A.handled=none) (hit:s.heap.IsRevIter it l (-1))
  (hE:∀ h' e,Heap.ExtBut it s.heap h'->(∃ o,h'.get? e=some o/\o.cls= .type "StopIteration")->E (.ref e) {s with heap:=h'}):wpAny (model prog w) A (Builtin.SmallTypes.nextOf (.ref it)) Q E s:=by
 obtain ⟨o,ho,hc,hd⟩:=id hit
 unfold Builtin.SmallTypes.nextOf
 refine wpAny_bind (wpAny_callSpecial?_slot (name:=Str.ofString "__next__") hit.typeIs F.slot_lri_next
  (wpAny_call_entry F.slot_lri_next hit.typeIs F.entry_lri_next ?_ (F.args_lri_next_1 _)))
 unfold Builtin.«list_reverseiterator.__next__»
 refine wpAny_bind (wpAny_of_eq (a:=(Value.ref it,[])) rfl ?_)
 try dsimp only
 refine wpAny_bind (wpAny_field ho hd (x:=rawInt (-1)) rfl ?_)
 show wpAny _ _ (if (-1:Int) < 0 then _ else _) _ _ s
 rw [if_pos (by decide)]
 refine wpAny_bind (wpAny_rule ?_)
 first
 | show wpAny _ _ (newExc (.type "StopIteration") [] >>=_) _ _ _
 | (refine wpAny_bind ?_;show wpAny _ _ (newExc (.type "StopIteration") [] >>=_) _ _ _)
 refine wpAny_bind ?_
 simp only [newExc,newTuple]
 refine wpAny_bind (wpAny_newObj_type ?_ (by size_fits))
 refine wpAny_bind (m:=firstArgMember _ _) (wpAny_of_eq (a:=Value.none) (by first | rfl | (simp only [firstArgMember];rfl)) ?_)
 refine wpAny_newObj_type ?_ (by size_fits)
 simp only [raiseNew]
 refine wpAny_bind (wpAny_handled ?_)
 first | rw [show A.in1.handled=none from hh] | rw [hh]
 refine wpAny_bind (wpAny_pure (wpAny_throw ?_))
 exact hE _ _ (((Heap.ExtBut.refl _ _).push _).push _) ⟨_,Heap.get?_push_size _ rfl,rfl⟩
end
theorem mU (it l:Addr) (i:Int) (dct:Option Addr) (sl:Array (Option Value)):
  Meets (Builtin.«enumerate.__new__» ⟨[.type "enumerate",.ref it],[]⟩) (fun _ R s=>s.heap.get? it=some {cls:=.type "list_reverseiterator",dict:=dct,data:=.fields #[.ref l,rawInt i],slots:=sl}/\
   R (.ok (.ret (.ref s.heap.objs.size)))
    {s with heap:=s.heap.push {cls:=.type "enumerate",data:=.fields #[.none,.bool false,.ref it,rawInt 0,.none,.none]}}):=
 .of_wp fun prog w A R s h=>by
  obtain ⟨hp,g,d,tk,os⟩:=s;obtain ⟨hl,h⟩:=h
  have hsub:=sub_enumerate
  have hL:Heap.IsRevIter (Shared.heap ⟨hp,g,d,tk,os⟩) it l i:=⟨_,hl,rfl,rfl⟩
  wp_walk using wpAny_loadPart' hl
  refine wpAny_stack_any fun st=>wpAny_pure ?_
  split
  ·rename_i c _ _ _ _ _
   cases (c == Value.type "enumerate")
   ·wp_walk using wpAny_loadPart' hl,wpAny_pyIter_revIter hL
    exact ⟨_,rfl,h⟩
   ·wp_walk using wpAny_loadPart' hl,wpAny_pyIter_revIter hL
    exact ⟨_,rfl,h⟩
  ·wp_walk using wpAny_loadPart' hl,wpAny_pyIter_revIter hL
   exact ⟨_,rfl,h⟩
end L2
namespace L2
open PySem PySem.Spec PyProof.Rows
section
variable {prog:Program} {w:World} {A:Around} {E:Value->Shared->Prop} {s:Shared}
theorem ph {it l:Addr} {i:Int} {Q:Value->Shared->Prop} (hL:s.heap.IsRevIter it l i)
  (h:∀ h',IsEnum h' s.heap.objs.size it 0 .none->(∀ b o,s.heap.get? b=some o->h'.get? b=some o)->Q (.ref s.heap.objs.size) {s with heap:=h'}):
  wpAny (model prog w) A (call (.type "enumerate") [.ref it]) Q E s:=by
 obtain ⟨⟨c,dct,dt,sl⟩,hl,hc,hd⟩:=hL
 replace hc:c= .type "list_reverseiterator":=hc
 replace hd:dt= .fields #[.ref l,rawInt i]:=hd
 subst hc hd
 refine callType_new F.called_enumerate (by decide) (F.typeCall_enumerate_1 _) (F.newCall_enumerate_1 _) (fun obj=>F.args_object_init_2 obj _) F.entry_enumerate_new
  (mU it l i dct sl) ⟨hl,?_⟩
 show _/\_
 have he:IsEnum (s.heap.push {cls:=.type "enumerate",data:=.fields #[.none,.bool false,.ref it,rawInt 0,.none,.none]}) s.heap.objs.size it 0 .none:=Heap.get?_push_size _ rfl
 exact ⟨⟨_,he,rfl⟩,h _ he fun b o x=>Heap.get?_push_of_some _ x⟩
end
theorem DK {prog:Program} {w:World} {A:Around} (hh:A.handled=none) (it l:Addr) (hne:l≠it) (items:Array Value):
  Draws prog w A it [it,l] items.size (fun i v=>items[items.size - 1 - i]?=some v) (fun i h=>i<=items.size/\h.IsRevIter it l ((items.size:Int) - 1 - (i:Int))/\h.IsList l items) where
 live:=fun _ _ st=>let ⟨o,ho,_⟩:=st.2.1;⟨o,ho⟩
 frame:=fun _ _ _ x hk=>⟨x.1,x.2.1.at fun o e=>hk it (by simp) o e,x.2.2.at fun o e=>hk l (by simp) o e⟩
 item:=fun i s Q E hi x hQ=>by
  have e:(items.size:Int) - 1 - (i:Int)=((items.size - 1 - i:Nat):Int):=by omega
  have hit:=x.2.1
  rw [e] at hit
  have hx:items[items.size - 1 - i]?=some (items[items.size - 1 - i]'(by omega)):=Array.getElem?_eq_getElem (by omega)
  refine sr hit x.2.2 hx fun h' hit' hs'=>?_
  have e2:((items.size - 1 - i:Nat):Int) - 1=(items.size:Int) - 1 - ((i+1:Nat):Int):=by omega
  rw [e2] at hit'
  exact hQ _ h' s.toks hx ⟨hi,hit',x.2.2.at fun o eo=>(hs'.2 l hne).trans eo⟩ hs'
 done:=fun s Q E x hE=>by
  have e:(items.size:Int) - 1 - (items.size:Int)= -1:=by omega
  have hit:=x.2.1
  rw [e] at hit
  exact mR hh hit hE
def DN (K:W.Frag) (a:Addr) (n:Nat):It:=
 ⟨fun i H=>i < n/\∃ xs,SqL K H a xs/\xs.length=n,
  fun i H v H'=>∃ T x,H T=none/\v= .ref T/\(∀ xs,SqL K H a xs->xs[n - 1 - i]?=some x)/\H'=upd H T (.tup [.int i,x]),
  fun i _=>i=n⟩
theorem zQ {P:Program} {w:World} {K:W.Frag} {elts:List Expr} {k n:Nat} {pos:Pos} {e it a:Addr} (hne:e≠it) (hea:e≠a) (hai:a≠it):
  Turn P w K (.Tuple elts k pos) (DN K a n) [e,it] e (fun i h=>(∃ old,IsEnum h e it i old)/\i<=n/\h.IsRevIter it a ((n:Int) - 1 - (i:Int))) where
 mem:=by simp
 obj:=fun i h st c hc=>by
  obtain ⟨⟨old,he⟩,_,⟨o1,e1,c1,d1⟩⟩:=st
  simp only [List.mem_cons,List.mem_nil_iff,or_false] at hc
  rcases hc with rfl | rfl
  ·exact ⟨_,he,fun v z=>by cases z⟩
  ·exact ⟨_,e1,fun v z=>by rw [d1] at z;cases z⟩
 keep:=fun i h h' st kk=>by
  obtain ⟨⟨old,he⟩,hi,h1⟩:=st
  exact ⟨⟨old,kk e (by simp) _ he⟩,hi,h1.at fun o q=>kk it (by simp) o q⟩
 item:=by
  intro X hP hw hK hc i pins s U H E I hf st hg
  subst hP hw hK
  obtain ⟨⟨old,he⟩,hi,h1⟩:=st
  obtain ⟨hlt,xs,hq,hlen⟩:=hg
  obtain ⟨its,rv,p,_⟩:=I.list hq
  have l1:=rv.length
  have sz:its.toArray.size=n:=by rw [List.size_toArray];omega
  obtain ⟨x,hx⟩:∃ x,xs[n - 1 - i]?=some x:=⟨_,List.getElem?_eq_getElem (by omega)⟩
  obtain ⟨u,hu,ru⟩:=rv.get hx
  have h1':s.heap.IsRevIter it a ((its.toArray.size:Int) - 1 - (i:Int)):=by rw [sz];exact h1
  refine wpAny_pyNext_enum_itemD (DK (A:=X.A.in1) (I.ok.hd hc) it a hai its.toArray) he ⟨by omega,h1',p.isList⟩ (by omega) hne (by simp [hne,hea]) fun x' h' tk hx' a1 a2 a3 a4 hk=>?_
  have ex:x'=u:=by
   have h2:its[its.length - 1 - i]?=some x':=by simpa using hx'
   rw [show its.length - 1 - i=n - 1 - i by omega,hu] at h2
   exact (Option.some.inj h2).symm
  subst ex
  refine ⟨_,rfl,wpAny_letOwnedTupleGo_enum a1 fun h'' a1' sb=>?_⟩
  have lt:∀ {c o},s.heap.get? c=some o->s.heap.objs.size≠c:=fun e=>Nat.ne_of_gt (Heap.lt_size e)
  have lti:s.heap.objs.size≠it:=by obtain ⟨o,q,_⟩:=h1;exact lt q
  have isT:h''.IsTuple s.heap.objs.size #[.int i tk,x']:=⟨_,sb.extBut _ _ (lt he) a3,rfl,_,rfl⟩
  have kall:∀ b o,b ∉ [e,it]->s.heap.get? b=some o->h''.get? b=some o:=fun b o hb q=>by
   simp only [List.mem_cons,List.mem_nil_iff,or_false,not_or] at hb
   exact sb.extBut _ _ hb.1 (hk b o hb.1 hb.2 q)
  have hTn:H s.heap.objs.size=none:=I.hok.fresh (Nat.le_refl _)
  refine ⟨.ref s.heap.objs.size,_,I.newtup (tk:=tk+1) hf (Nat.le_refl _) kall isT (xs:=[.int i,x]) (.cons ⟨_,rfl⟩ (.cons ru .nil)) (by simp;decide),rfl,⟨_,x,hTn,rfl,fun zs hs=>by rw [I.list_inj hs hq];exact hx,rfl⟩,?_,fun b hb=>?_⟩
  ·refine ⟨⟨_,a1'⟩,hlt,?_⟩
   have:=a2.2.1
   rw [sz] at this
   exact this.at fun o q=>sb.extBut _ _ (Ne.symm hne) q
  ·have:s.heap.objs.size≠b:=by
    simp only [List.mem_cons,List.mem_nil_iff,or_false] at hb
    rcases hb with rfl | rfl
    ·exact lt he
    ·exact lti
   rw [aB (Ne.symm this)]
   exact (hf b hb).1
 done:=by
  intro X hP hw hK hc i pins s U H E I hf st hg
  subst hP hw hK
  obtain ⟨⟨old,he⟩,hi,h1⟩:=st
  have hin:i=n:=hg
  subst hin
  rw [show (i:Int) - 1 - (i:Int)= -1 by omega] at h1
  have ht:s.TypeIs (.ref e) "enumerate":=⟨_,he,rfl⟩
  unfold pyNext
  refine wpAny_bind (wpAny_attempt (wpAny_callSpecial?_slot (name:=Str.ofString "__next__") ht F.slot_enumerate_next
   (wpAny_call_entry F.slot_enumerate_next ht F.entry_enumerate_next ?_ (F.args_enumerate_next_1 _))))
  show wpAny _ _ (field (.ref e) 2 >>=_) _ _ _
  refine wpAny_bind (wpAny_field he rfl (x:=.ref it) rfl ?_)
  refine wpAny_bind (mR (A:=X.A.in1) (I.ok.hd hc) h1 fun h' x he' hx'=>?_)
  obtain ⟨o,ho,hc'⟩:=hx'
  refine wpAny_bind (wpAny_isInstance (T:="StopIteration") (b:=true) ⟨o,ho,hc'⟩ isSubtype_stop ?_)
  refine wpAny_pure ⟨rfl,I.only (tk:=s.toks) hf fun b o hb q=>?_⟩
  simp only [List.mem_cons,List.mem_nil_iff,or_false,not_or] at hb
  exact he' b o hb.2 q
 self:=fun _ _ _ _ _ st h=>let ⟨⟨_,he⟩,_⟩:=st;wpAny_pyIter_enum he h
def xX (K:W.Frag) (ta:TE):TI:=fun U H R=>ta U H fun x H1=>∃ l xs,x= .ref l/\SqL K H1 l xs/\R (DN K l xs.length) H1
theorem zR {X:Cx} {K:W.Frag} {a:Expr} {ta:TE} {elts:List Expr} {k:Nat} {tp p p2 p3 pos:Pos} (hK:X.K=K) (hg:Gl X "enumerate") (hm:X.mg "enumerate"=none) (hg2:Gl X "reversed") (hm2:X.mg "reversed"=none) (ha:JE X a ta) (h:autoParam (notStar a=true) L2.auto4._auto_1):
  JI X (.Tuple elts k tp) (.Call (.Name "enumerate" p) [.Call (.Name "reversed" p2) [a] [] p3] [] pos) (xX K ta):=⟨by
 subst hK
 intro pins s U H R I hq
 refine Call_ (ik I hg hm pW (PyProof.Rows.callWith_type1 (arg1 rfl (wpAny_Call_Name_kw (ik I hg2 hm2 mK (PyProof.Rows.callWith_type1 (arg1 h (fM (ha.run pins s U H _ I hq) fun u s1 qq0=>?_)) (bV h) rfl)))) rfl rfl))
 obtain ⟨x,H1,I1,rx,l,xs,ex,hx,q⟩:=qq0
 subst ex
 cases rx
 obtain ⟨its,rv,ht,hz⟩:=I1.list hx
 have hlen:=rv.length
 have lt:l < s1.heap.objs.size:=by obtain ⟨o,ho,_⟩:=ht.isList;exact Heap.lt_size ho
 refine call_reversed_list ht.isList ?_
 have e0:(s1.heap.push (PySem.revObj l ((its.toArray.size:Int) - 1))).get? s1.heap.objs.size=some (PySem.revObj l ((its.toArray.size:Int) - 1)):=Heap.get?_push_size _ rfl
 have s0:(s1.heap.push (PySem.revObj l ((its.toArray.size:Int) - 1))).objs.size=s1.heap.objs.size+1:=Heap.size_push ..
 have k0:∀ b o,s1.heap.get? b=some o->(s1.heap.push (PySem.revObj l ((its.toArray.size:Int) - 1))).get? b=some o:=fun b o q=>Heap.get?_push_of_some _ q
 refine ph (it:=s1.heap.objs.size) (l:=l) (i:=(its.toArray.size:Int) - 1) ⟨_,e0,rfl,rfl⟩ fun h' z1 hk=>?_
 have z1':IsEnum h' (s1.heap.objs.size+1) s1.heap.objs.size 0 .none:=by rw [← s0];exact z1
 have z2:h'.IsRevIter s1.heap.objs.size l ((xs.length:Int) - 1 - ((0:Nat):Int)):=⟨_,hk _ _ e0,rfl,by
  show Data.fields #[.ref l,rawInt ((its.toArray.size:Int) - 1)]=_
  rw [show ((its.toArray.size:Int) - 1)=(xs.length:Int) - 1 - ((0:Nat):Int) by rw [List.size_toArray];omega]⟩
 have J1:Inv X pins U H1 {s1 with heap:=h'}:=I1.kept (t':=s1.toks) fun b o q=>hk b o (k0 b o q)
 rw [s0]
 refine wpAny_pyIter_enum z1' ?_
 have key2:∀ n l:Nat,l < n->n+1≠l/\l≠n:=fun n l h=>⟨by omega,by omega⟩
 refine ⟨s1.heap.objs.size+1,_,_,_,H1,rfl,J1,zQ (n:=xs.length) (Nat.succ_ne_self _) (key2 _ _ lt).1 (key2 _ _ lt).2,⟨⟨_,z1'⟩,Nat.zero_le _,z2⟩,fun b hb=>?_,q⟩
 have hb':s1.heap.objs.size<=b:=by
  simp only [List.mem_cons,List.mem_nil_iff,or_false] at hb
  have key:∀ n c:Nat,(c=n+1\/c=n)->n<=c:=fun n c h=>by omega
  exact key _ _ hb
 exact I1.fpOk hb' (I1.hok.fresh hb')⟩
section
variable {K:W.Frag} {U:St} {H:Hp}
theorem jN {ta:TE} {R:It->Hp->Prop} (h:ta U H fun x H1=>∃ l xs,x= .ref l/\SqL K H1 l xs/\R (DN K l xs.length) H1):xX K ta U H R:=h
theorem DP {a:Addr} {xs:List V} {g:TG} {tb:TS} {D:Ends} (Pv:Nat->St->Hp->Prop) (h0:Pv 0 U H) (hq:∀ i U H,i<=xs.length->Pv i U H->SqL K H a xs)
  (hs:∀ i U H T x,i < xs.length->xs[xs.length - 1 - i]?=some x->Pv i U H->H T=none->g (.ref T) U (upd H T (.tup [.int i,x])) fun σ2 H2=>tb {D with nx:=Pv (i+1),ct:=Pv (i+1),bk:=D.nx} σ2 H2) (hd:∀ U H,Pv xs.length U H->D.nx U H):
  ∃ W:Nat->Nat->St->Hp->Prop,(∃ m,W 0 m U H)/\∀ i m U H,W i m U H->
   ((DN K a xs.length).stop i H/\D.nx U H)\/((DN K a xs.length).go i H/\∃ N:St->Hp->Prop,(∀ U' H',N U' H'->∃ m',m' < m/\W (i+1) m' U' H')/\∀ x H',(DN K a xs.length).yld i H x H'->g x U H' fun σ2 H2=>tb {D with nx:=N,ct:=N,bk:=D.nx} σ2 H2):=by
 refine ⟨fun i m U H=>m=xs.length - i/\i<=xs.length/\Pv i U H,⟨xs.length,by simp,Nat.zero_le _,h0⟩,?_⟩
 rintro i m U H ⟨rfl,hi,p⟩
 have q1:=hq i U H hi p
 by_cases hlt:i < xs.length
 ·refine .inr ⟨⟨hlt,xs,q1,rfl⟩,Pv (i+1),fun U' H' p'=>⟨xs.length - (i+1),by omega,rfl,hlt,p'⟩,fun x H' y=>?_⟩
  obtain ⟨T,u,hT,e1,e2,e4⟩:=y
  subst e1 e4
  exact hs i U H T u hlt (e2 xs q1) p hT
 ·have e:i=xs.length:=by omega
  subst e
  exact .inl ⟨rfl,hd U H p⟩
end
end L2
namespace L2
open PySem PySem.Spec PyProof.Rows
open PySem.Sem (wp)
end L2
namespace L2
open PySem PySem.Spec PyProof.Rows
end L2
namespace L2
open PySem PySem.Spec PyProof.Rows
open PySem.Sem (wp)
structure ue (z TI TO i1 i2:Addr) (fp1 fp2:List Addr):Prop where
 TIz:TI≠z
 TOz:TO≠z
 i1z:i1≠z
 i2z:i2≠z
 TITO:TI≠TO
 TIi1:TI≠i1
 TIi2:TI≠i2
 TOi1:TO≠i1
 TOi2:TO≠i2
 i12:i1≠i2
 f1:∀ b∈fp1,b≠z/\b≠TO/\b≠i2
 f2:∀ b∈fp2,b≠z/\b≠TO/\b≠i1
section
variable {prog:Program} {w:World} {A:Around} {E:Value->Shared->Prop} {s:Shared} {z TI TO i1 i2:Addr} {fp1 fp2:List Addr} {n1 n2 k1 k2:Nat} {P1 P2:Nat->Value->Prop} {St1 St2:Nat->Heap->Prop} {a b:Value}
theorem DQ {Q:Value->Shared->Prop} (D1:Draws prog w A i1 fp1 n1 P1 St1) (D2:Draws prog w A i2 fp2 n2 P2 St2) (D:ue z TI TO i1 i2 fp1 fp2)
  (hz:IsZip s.heap z TI TO .none) (hTI:IsPair s.heap TI (.ref i1) (.ref i2)) (hTO:IsPair s.heap TO a b) (s1:St1 k1 s.heap) (s2:St2 k2 s.heap) (l1:k1 < n1) (l2:k2 < n2)
  (hQ:∀ x y h' tk,P1 k1 x->P2 k2 y->IsZip h' z TI TO (rawInt s.heap.objs.size)->IsPair h' TO x y->St1 (k1+1) h'->St2 (k2+1) h'->IsPair h' s.heap.objs.size x y->
   (∀ c o,c≠z->c≠TO->c≠i1->c≠i2->s.heap.get? c=some o->h'.get? c=some o)->Q (.ref s.heap.objs.size) {s with heap:=h',toks:=tk}):
  wpAny (model prog w) A (Builtin.«zip.__next__» ⟨[.ref z],[]⟩) (fun fin s'=>∃ v,fin= .done (.ret v)/\Q v s') E s:=by
 have sb:∀ {x:Addr} {h h':Heap},Heap.SameBut x h h'->∀ c o,c≠x->h.get? c=some o->h'.get? c=some o:=fun g c o n e=>g.extBut _ _ n e
 show wpAny _ _ (field (.ref z) 2 >>=_) _ _ _
 refine wpAny_bind (wpAny_field hz rfl (x:=.bool false) rfl ?_)
 show wpAny _ _ (field (.ref z) 3 >>=_) _ _ _
 refine wpAny_bind (wpAny_field hz rfl (x:=.ref TI) rfl (wpAny_bind (wpAny_seqItems hTI rfl ?_)))
 show wpAny _ _ (Builtin.SmallTypes.ownedTupleIsFree (.ref z) >>=_) _ _ _
 unfold Builtin.SmallTypes.ownedTupleIsFree
 refine wpAny_bind (wpAny_bind (wpAny_field hz rfl (x:=.none) rfl (wpAny_pure ?_)))
 simp only [if_true]
 refine wpAny_bind (wpAny_rule (wpAny_bind (wpAny_field hz rfl (x:=.ref TO) rfl ?_)))
 refine wpAny_bind (wpAny_setField_rec hz (by simp) fun g1 y1 e1=>?_)
 replace y1:IsZip g1 z TI TO .ellipsis:=y1
 refine wpAny_bind ?_
 simp only [List.zipIdx_cons,List.zipIdx_nil,List.forIn_cons,List.forIn_nil]
 refine wpAny_bind (wpAny_bind (wpAny_onRaise ?_))
 show wpAny _ _ (Builtin.SmallTypes.nextOf (.ref i1) >>=_) _ _ _
 have t1:St1 k1 g1:=D1.frame _ _ _ s1 fun c hc o e=>sb e1 c o (D.f1 c hc).1 e
 have t2:St2 k2 g1:=D2.frame _ _ _ s2 fun c hc o e=>sb e1 c o (D.f2 c hc).1 e
 refine wpAny_bind (D1.item k1 _ _ _ l1 t1 fun x g2 tk px u1 e2=>wpAny_pure ?_)
 have p2:IsPair g2 TO a b:=sb e2 _ _ D.TOi1 (sb e1 _ _ D.TOz hTO)
 refine wpAny_bind (wpAny_seqItems p2 rfl (wpAny_bind (wpAny_updateSeq_pair p2 fun g3 p3 e3=>?_)))
 replace p3:IsPair g3 TO x b:=p3
 refine wpAny_bind (wpAny_letGo (wpAny_pure ?_))
 refine wpAny_bind (wpAny_bind (wpAny_onRaise ?_))
 show wpAny _ _ (Builtin.SmallTypes.nextOf (.ref i2) >>=_) _ _ _
 have t3:St2 k2 g3:=D2.frame _ _ _ t2 fun c hc o e=>sb e3 c o (D.f2 c hc).2.1 (sb e2 c o (D.f2 c hc).2.2 e)
 refine wpAny_bind (D2.item k2 _ _ _ l2 t3 fun y g4 tk2 py u2 e4=>wpAny_pure ?_)
 have p4:IsPair g4 TO x b:=sb e4 _ _ D.TOi2 p3
 refine wpAny_bind (wpAny_seqItems p4 rfl (wpAny_bind (wpAny_updateSeq_pair p4 fun g5 p5 e5=>?_)))
 replace p5:IsPair g5 TO x y:=p5
 refine wpAny_bind (wpAny_letGo (wpAny_pure (wpAny_pure ?_)))
 refine wpAny_bind (wpAny_seqItems p5 rfl (wpAny_bind (wpAny_newTuple ?_)))
 have sz:g5.objs.size=s.heap.objs.size:=by rw [e5.1,e4.1,e3.1,e2.1,e1.1]
 have z5:IsZip g5 z TI TO .ellipsis:=sb e5 _ _ D.TOz.symm (sb e4 _ _ D.i2z.symm (sb e3 _ _ D.TOz.symm (sb e2 _ _ D.i1z.symm y1)))
 have k5:∀ c o,c≠z->c≠TO->c≠i1->c≠i2->s.heap.get? c=some o->g5.get? c=some o:=fun c o c1 c2 c3 c4 e=>
  sb e5 _ _ c2 (sb e4 _ _ c4 (sb e3 _ _ c2 (sb e2 _ _ c3 (sb e1 _ _ c1 e))))
 have v1:St1 (k1+1) g5:=D1.frame _ _ _ u1 fun c hc o e=>sb e5 c o (D.f1 c hc).2.1 (sb e4 c o (D.f1 c hc).2.2 (sb e3 c o (D.f1 c hc).2.1 e))
 have v2:St2 (k2+1) g5:=D2.frame _ _ _ u2 fun c hc o e=>sb e5 c o (D.f2 c hc).2.1 e
 have zlt:z < g5.objs.size:=Heap.lt_size z5
 show wpAny _ _ (Builtin.SmallTypes.ownedTupleHandOut (.ref z) (.ref g5.objs.size) >>=_) _ _ _
 unfold Builtin.SmallTypes.ownedTupleHandOut
 have z6:IsZip (g5.push {cls:=.type "tuple",data:=.seq #[x,y]}) z TI TO .ellipsis:=Heap.get?_push_of_some _ z5
 refine wpAny_bind (wpAny_bind (wpAny_setField_rec z6 (by simp) fun g7 z7 e7=>?_))
 replace z7:IsZip g7 z TI TO (rawInt g5.objs.size):=z7
 refine wpAny_setField_rec z7 (by simp) fun g8 z8 e8=>?_
 replace z8:IsZip g8 z TI TO (rawInt g5.objs.size):=z8
 have up:∀ c o,c≠z->g5.get? c=some o->g8.get? c=some o:=fun c o c1 e=>sb e8 _ _ c1 (sb e7 _ _ c1 (Heap.get?_push_of_some _ e))
 have pT:IsPair g8 g5.objs.size x y:=sb e8 _ _ (Nat.ne_of_gt zlt) (sb e7 _ _ (Nat.ne_of_gt zlt) (Heap.get?_push_size _ rfl))
 rw [sz] at z8 pT
 refine wpAny_pure ⟨_,rfl,?_⟩
 show Q (.ref g5.objs.size) _
 rw [sz]
 exact hQ x y g8 _ px py z8 (up _ _ D.TOz p5) (D1.frame _ _ _ v1 fun c hc o e=>up c o (D.f1 c hc).1 e) (D2.frame _ _ _ v2 fun c hc o e=>up c o (D.f2 c hc).1 e) pT fun c o c1 c2 c3 c4 e=>up c o c1 (k5 c o c1 c2 c3 c4 e)
theorem HF {Q:Fin->Shared->Prop} (D1:Draws prog w A i1 fp1 n1 P1 St1) (D:ue z TI TO i1 i2 fp1 fp2)
  (hz:IsZip s.heap z TI TO .none) (hTI:IsPair s.heap TI (.ref i1) (.ref i2)) (s1:St1 n1 s.heap)
  (hE:∀ h' e,(∀ c o,c≠z->c≠i1->s.heap.get? c=some o->h'.get? c=some o)->(∃ o,h'.get? e=some o/\o.cls= .type "StopIteration")->E (.ref e) {s with heap:=h'}):
  wpAny (model prog w) A (Builtin.«zip.__next__» ⟨[.ref z],[]⟩) Q E s:=by
 have sb:∀ {x:Addr} {h h':Heap},Heap.SameBut x h h'->∀ c o,c≠x->h.get? c=some o->h'.get? c=some o:=fun g c o n e=>g.extBut _ _ n e
 show wpAny _ _ (field (.ref z) 2 >>=_) _ _ _
 refine wpAny_bind (wpAny_field hz rfl (x:=.bool false) rfl ?_)
 show wpAny _ _ (field (.ref z) 3 >>=_) _ _ _
 refine wpAny_bind (wpAny_field hz rfl (x:=.ref TI) rfl (wpAny_bind (wpAny_seqItems hTI rfl ?_)))
 show wpAny _ _ (Builtin.SmallTypes.ownedTupleIsFree (.ref z) >>=_) _ _ _
 unfold Builtin.SmallTypes.ownedTupleIsFree
 refine wpAny_bind (wpAny_bind (wpAny_field hz rfl (x:=.none) rfl (wpAny_pure ?_)))
 simp only [if_true]
 refine wpAny_bind (wpAny_rule (wpAny_bind (wpAny_field hz rfl (x:=.ref TO) rfl ?_)))
 refine wpAny_bind (wpAny_setField_rec hz (by simp) fun g1 y1 e1=>?_)
 replace y1:IsZip g1 z TI TO .ellipsis:=y1
 refine wpAny_bind ?_
 simp only [List.zipIdx_cons,List.zipIdx_nil,List.forIn_cons,List.forIn_nil]
 refine wpAny_bind (wpAny_bind (wpAny_onRaise ?_))
 show wpAny _ _ (Builtin.SmallTypes.nextOf (.ref i1) >>=_) _ _ _
 have t1:St1 n1 g1:=D1.frame _ _ _ s1 fun c hc o e=>sb e1 c o (D.f1 c hc).1 e
 refine wpAny_bind (D1.done _ _ _ t1 fun g2 e e2 he=>?_)
 obtain ⟨oe,hoe,hce⟩:=he
 have y2:IsZip g2 z TI TO .ellipsis:=e2 _ _ D.i1z.symm y1
 have hez:e≠z:=fun x=>by subst x;rw [y2] at hoe;cases hoe;simp at hce
 exact wpAny_setField_rec y2 (by simp) fun g3 _ e3=>hE g3 e (fun c o c1 c3 x=>sb e3 _ _ c1 (e2 _ _ c3 (sb e1 _ _ c1 x))) ⟨oe,sb e3 _ _ hez hoe,hce⟩
end
abbrev YD (h:Heap) (x:Str) (t:Tok):Heap:=h.push {cls:=.type (strIterType x),data:=.fields #[.str x t,.int 0 0]}
abbrev YF (h:Heap) (x:Str) (t:Tok) (l:Addr):Heap:=(YD h x t).push {cls:=.type "list_iterator",data:=.fields #[.ref l,.int 0 0]}
abbrev YG (h:Heap) (x:Str) (t:Tok) (l:Addr):Heap:=(YF h x t l).push {cls:=.type "tuple",data:=.seq #[.ref h.objs.size,.ref (YD h x t).objs.size]}
abbrev YH (h:Heap) (x:Str) (t:Tok) (l:Addr):Heap:=(YG h x t l).push {cls:=.type "tuple",data:=.seq #[.none,.none]}
abbrev Us (h:Heap) (x:Str) (t:Tok) (l:Addr):Heap:=(YH h x t l).push {cls:=.type "zip",data:=.fields #[.none,.bool false,.bool false,.ref (YF h x t l).objs.size,.ref (YG h x t l).objs.size]}
theorem su (x:Str) (t:Tok) (l2:Addr) (ys:Array Value):
  Meets (Builtin.«zip.__new__» ⟨[.type "zip",.str x t,.ref l2],[]⟩) (fun _ R s=>s.heap.IsList l2 ys/\R (.ok (.ret (.ref (YH s.heap x t l2).objs.size))) {s with heap:=Us s.heap x t l2}):=
 .of_wp fun prog w A R s h=>by
  obtain ⟨hp,g,d,tk,os⟩:=s;obtain ⟨hl2,h⟩:=h
  have hsub:=sub_zip
  have hL2:Heap.IsList (Shared.heap ⟨hp.push {cls:=.type (strIterType x),data:=.fields #[.str x t,.int 0 0]},g,d,tk,os⟩) l2 ys:=Heap.IsList.push hl2 _
  wp_walk using wpAny_pyIter_strU,wpAny_pyIter_list hL2
  exact ⟨_,rfl,h⟩
theorem zU {prog:Program} {w:World} {A:Around} {E:Value->Shared->Prop} {s:Shared} {x:Str} {t:Tok} {l:Addr} {ys:Array Value} {Q:Value->Shared->Prop} (hl:s.heap.IsList l ys)
  (h:∀ h',IsZip h' (s.heap.objs.size+4) (s.heap.objs.size+2) (s.heap.objs.size+3) .none->IsPair h' (s.heap.objs.size+2) (.ref s.heap.objs.size) (.ref (s.heap.objs.size+1))->
   IsPair h' (s.heap.objs.size+3) .none .none->h'.IsStrIter s.heap.objs.size (strIterType x) x t 0->h'.IsListIter (s.heap.objs.size+1) l 0->
   (∀ c o,s.heap.get? c=some o->h'.get? c=some o)->Q (.ref (s.heap.objs.size+4)) {s with heap:=h'}):
  wpAny (model prog w) A (call (.type "zip") [.str x t,.ref l]) Q E s:=by
 refine callType_new F.called_zip (by decide) (F.typeCall_zip_2 _ _) (F.newCall_zip_2 _ _) (fun obj=>F.args_object_init_3 obj _ _) F.entry_zip_new (su x t l ys) ⟨hl,?_⟩
 have a1:(YD s.heap x t).objs.size=s.heap.objs.size+1:=Heap.size_push ..
 have a2:(YF s.heap x t l).objs.size=s.heap.objs.size+2:=by rw [Heap.size_push,a1]
 have a3:(YG s.heap x t l).objs.size=s.heap.objs.size+3:=by rw [Heap.size_push,a2]
 have a4:(YH s.heap x t l).objs.size=s.heap.objs.size+4:=by rw [Heap.size_push,a3]
 have pu:∀ {g:Heap} {o u:Obj} {c:Addr},g.get? c=some u->(g.push o).get? c=some u:=fun e=>Heap.get?_push_of_some _ e
 have g5:(Us s.heap x t l).get? (YH s.heap x t l).objs.size=some _:=Heap.get?_push_size _ rfl
 have g4:(Us s.heap x t l).get? (YG s.heap x t l).objs.size=some _:=pu (Heap.get?_push_size _ rfl)
 have g3:(Us s.heap x t l).get? (YF s.heap x t l).objs.size=some _:=pu (pu (Heap.get?_push_size _ rfl))
 have g2:(Us s.heap x t l).get? (YD s.heap x t).objs.size=some _:=pu (pu (pu (Heap.get?_push_size _ rfl)))
 have g1:(Us s.heap x t l).get? s.heap.objs.size=some _:=pu (pu (pu (pu (Heap.get?_push_size _ rfl))))
 show _/\_
 rw [a2,a3,a4] at g5
 rw [a1,a2] at g3
 rw [a3] at g4
 rw [a1] at g2
 rw [a4]
 exact ⟨⟨_,g5,rfl⟩,h _ g5 g3 g4 ⟨_,g1,rfl,rfl⟩ ⟨_,g2,rfl,rfl⟩ fun c o e=>pu (pu (pu (pu (pu e))))⟩
def DW (K:W.Frag) (x:Str) (b:Addr):It:=
 ⟨fun i H=>i < x.cps.size/\∃ ys y,SqL K H b ys/\ys[i]?=some y,
  fun i H v H'=>∃ T y,H T=none/\v= .ref T/\(∀ ys,SqL K H b ys->ys[i]?=some y)/\H'=upd H T (.tup [.str ⟨#[x.cps.getD i 0]⟩,y]),
  fun i _=>i=x.cps.size⟩
theorem uf {P:Program} {w:World} {K:W.Frag} {elts:List Expr} {k:Nat} {pos:Pos} {z TI TO i1 i2 b:Addr} {x:Str} {t:Tok} {ty:String} (D:ue z TI TO i1 i2 [i1] [i2,b]) (hb2:b≠i2)
  (Dr:∀ A:Around,A.handled=none->Draws P w A i1 [i1] x.cps.size (fun i v=>∃ c u,x.cps[i]?=some c/\v= .str ⟨#[c]⟩ u) (fun i h=>h.IsStrIter i1 ty x t i)):
  Turn P w K (.Tuple elts k pos) (DW K x b) [z,TI,TO,i1,i2] z (fun i h=>IsZip h z TI TO .none/\IsPair h TI (.ref i1) (.ref i2)/\(∃ c d,IsPair h TO c d)/\h.IsStrIter i1 ty x t i/\h.IsListIter i2 b i) where
 mem:=by simp
 obj:=fun i h st c hc=>by
  obtain ⟨hz,hTI,⟨_,_,hTO⟩,⟨o1,e1,_,d1⟩,⟨o2,e2,_,d2⟩⟩:=st
  simp only [List.mem_cons,List.mem_nil_iff,or_false] at hc
  rcases hc with rfl | rfl | rfl | rfl | rfl
  ·exact ⟨_,hz,nofun⟩
  ·exact ⟨_,hTI,nofun⟩
  ·exact ⟨_,hTO,nofun⟩
  ·exact ⟨_,e1,fun v z=>by rw [d1] at z;cases z⟩
  ·exact ⟨_,e2,fun v z=>by rw [d2] at z;cases z⟩
 keep:=fun i h h' st kk=>by
  obtain ⟨hz,hTI,⟨_,_,hTO⟩,⟨o1,e1,r1⟩,h2⟩:=st
  exact ⟨kk z (by simp) _ hz,kk TI (by simp) _ hTI,⟨_,_,kk TO (by simp) _ hTO⟩,⟨o1,kk i1 (by simp) _ e1,r1⟩,h2.at fun o e=>kk i2 (by simp) o e⟩
 item:=by
  intro X hP hw hK hc i pins s U H E I hf st hg
  subst hP hw hK
  obtain ⟨hz,hTI,⟨c,d,hTO⟩,h1,h2⟩:=st
  obtain ⟨hlt,ys,y,hq,hy⟩:=hg
  obtain ⟨its,rv,p,_⟩:=I.list hq
  obtain ⟨u,hu,ru⟩:=rv.get hy
  have hlt2:i < its.toArray.size:=by
   have:=(List.getElem?_eq_some_iff.mp hu).1
   simpa using this
  have hT:s.TypeIs (.ref z) "zip":=⟨_,hz,rfl⟩
  have hh:X.A.in1.handled=none:=I.ok.hd hc
  unfold pyNext
  refine wpAny_bind (wpAny_attempt (wpAny_callSpecial?_slot (name:=Str.ofString "__next__") hT F.slot_zip_next (wpAny_call_entry F.slot_zip_next hT F.entry_zip_next
   (DQ (Dr X.A.in1 hh) (Draws.list hh i2 b hb2 its.toArray) D hz hTI hTO h1 ⟨h2,p.isList⟩ hlt hlt2 fun a1 a2 h' tk px py b1 b2 b3 b4 b5 hk=>wpAny_pure ?_) (F.args_zip_next_1 _))))
  obtain ⟨ch,tu,hch,rfl⟩:=px
  have eu:a2=u:=by
   have h2:its[i]?=some a2:=by simpa using py
   rw [hu] at h2
   exact (Option.some.inj h2).symm
  subst eu
  refine ⟨_,rfl,wpAny_letOwnedTupleGo_zip b1 fun h'' b1' sb=>?_⟩
  have lt:∀ {c o},s.heap.get? c=some o->s.heap.objs.size≠c:=fun e=>Nat.ne_of_gt (Heap.lt_size e)
  have isT:h''.IsTuple s.heap.objs.size #[.str ⟨#[ch]⟩ tu,a2]:=⟨_,sb.extBut _ _ (lt hz) b5,rfl,_,rfl⟩
  have kall:∀ b o,b ∉ [z,TI,TO,i1,i2]->s.heap.get? b=some o->h''.get? b=some o:=fun b o hb e=>by
   simp only [List.mem_cons,List.mem_nil_iff,or_false,not_or] at hb
   exact sb.extBut _ _ hb.1 (hk b o hb.1 hb.2.2.1 hb.2.2.2.1 hb.2.2.2.2 e)
  have hTn:H s.heap.objs.size=none:=I.hok.fresh (Nat.le_refl _)
  have ech:x.cps.getD i 0=ch:=by simp [Array.getD_eq_getD_getElem?,hch]
  refine ⟨.ref s.heap.objs.size,_,I.newtup (tk:=tk) hf (Nat.le_refl _) kall isT (xs:=[.str ⟨#[x.cps.getD i 0]⟩,y]) (.cons ⟨tu,by rw [ech]⟩ (.cons ru .nil)) (by simp;decide),rfl,⟨_,y,hTn,rfl,fun zs hs=>by rw [I.list_inj hs hq];exact hy,rfl⟩,?_,fun b hb=>?_⟩
  ·obtain ⟨o1,e1,r1⟩:=b3
   exact ⟨b1',sb.extBut _ _ D.TIz (hk _ _ D.TIz D.TITO D.TIi1 D.TIi2 hTI),⟨_,_,sb.extBut _ _ D.TOz b2⟩,⟨o1,sb.extBut _ _ D.i1z e1,r1⟩,b4.1.extBut sb.extBut D.i2z⟩
  ·have:s.heap.objs.size≠b:=by
    simp only [List.mem_cons,List.mem_nil_iff,or_false] at hb
    rcases hb with rfl | rfl | rfl | rfl | rfl
    ·exact lt hz
    ·exact lt hTI
    ·exact lt hTO
    ·obtain ⟨o,e,_⟩:=h1;exact lt e
    ·obtain ⟨o,e,_⟩:=h2;exact lt e
   rw [aB (Ne.symm this)]
   exact (hf b hb).1
 done:=by
  intro X hP hw hK hc i pins s U H E I hf st hg
  subst hP hw hK
  obtain ⟨hz,hTI,⟨c,d,hTO⟩,h1,h2⟩:=st
  have hin:i=x.cps.size:=hg
  subst hin
  have hT:s.TypeIs (.ref z) "zip":=⟨_,hz,rfl⟩
  have hh:X.A.in1.handled=none:=I.ok.hd hc
  unfold pyNext
  refine wpAny_bind (wpAny_attempt (wpAny_callSpecial?_slot (name:=Str.ofString "__next__") hT F.slot_zip_next (wpAny_call_entry F.slot_zip_next hT F.entry_zip_next
   (HF (Dr X.A.in1 hh) D hz hTI h1 fun h' e hk he=>?_) (F.args_zip_next_1 _))))
  obtain ⟨o,ho,hcl⟩:=he
  refine wpAny_bind (wpAny_isInstance (T:="StopIteration") (b:=true) ⟨o,ho,hcl⟩ isSubtype_stop ?_)
  refine wpAny_pure ⟨rfl,I.only (tk:=s.toks) hf fun b o hb e=>?_⟩
  simp only [List.mem_cons,List.mem_nil_iff,or_false,not_or] at hb
  exact hk b o hb.1 hb.2.2.2.1 e
 self:=fun _ _ _ _ _ st h=>wpAny_pyIter_zip st.1 h
def HH (K:W.Frag) (ta:TA):TI:=fun U H R=>ta U H fun vs H1=>∃ x b ys,vs=[.str x,.ref b]/\SqL K H1 b ys/\R (DW K x b) H1
theorem HJ {X:Cx} {K:W.Frag} {a b:Expr} {ta:TA} {elts:List Expr} {k:Nat} {tp p pos:Pos} (hc:X.calm=true) (hK:X.K=K) (hg:Gl X "zip") (hm:X.mg "zip"=none) (ha:JA X [a,b] ta) (h:autoParam (notStar a=true) L2.auto4._auto_1) (h2:autoParam (notStar b=true) L2.auto4._auto_1):
  JI X (.Tuple elts k tp) (.Call (.Name "zip" p) [a,b] [] pos) (HH K ta):=⟨by
 subst hK
 intro pins s U H R I hq
 refine Call_ (ik I hg hm Q6 (PyProof.Rows.callWith_type1 (fM (ha.run pos pins s U H _ I hq) fun us s1 qq0=>?_) (bV h) (by rw [bV h2];rfl)))
 obtain ⟨vs,H1,I1,r1,q1⟩:=qq0
 obtain ⟨x,l,ys,e,hl,q⟩:=q1
 subst e
 obtain ⟨u,u2,rfl,e1,e2⟩:∃ u u2,us=[u,u2]/\RelV (.str x) u/\RelV (.ref l) u2:=by
  cases r1 with
  | cons x r=>cases r with
   | cons y r=>cases r with
    | nil=>exact ⟨_,_,rfl,x,y⟩
 obtain ⟨t,rfl⟩:=e1
 cases e2
 obtain ⟨its,rv,p1,_⟩:=I1.list hl
 have lt1:l < s1.heap.objs.size:=by obtain ⟨o,ho,_⟩:=p1.isList;exact Heap.lt_size ho
 refine zU p1.isList fun h' z1 z2 z3 z4 z5 hk=>?_
 have J1:Inv X pins U H1 {s1 with heap:=h'}:=I1.kept (t':=s1.toks) hk
 have D:ue (s1.heap.objs.size+4) (s1.heap.objs.size+2) (s1.heap.objs.size+3) s1.heap.objs.size (s1.heap.objs.size+1) [s1.heap.objs.size] [s1.heap.objs.size+1,l]:=by
  have key:∀ n b:Nat,b < n->ue (n+4) (n+2) (n+3) n (n+1) [n] [n+1,b]:=fun n b h2=>by
   have k1:∀ c:Nat,c=n->c≠n+4/\c≠n+3/\c≠n+1:=fun c hc=>by omega
   have k2:∀ c:Nat,(c=n+1\/c=b)->c≠n+4/\c≠n+3/\c≠n:=fun c hc=>by omega
   refine ⟨?_,?_,?_,?_,?_,?_,?_,?_,?_,?_,fun c hc=>k1 c (List.mem_singleton.mp hc),fun c hc=>k2 c (by simpa only [List.mem_cons,List.mem_nil_iff,or_false] using hc)⟩
   all_goals (show (_:Nat)≠_;omega)
  exact key _ _ lt1
 have nb:l≠s1.heap.objs.size+1:=Nat.ne_of_lt (Nat.lt_succ_of_lt lt1)
 refine wpAny_pyIter_zip z1 ?_
 have fpk:∀ b∈[s1.heap.objs.size+4,s1.heap.objs.size+2,s1.heap.objs.size+3,s1.heap.objs.size,s1.heap.objs.size+1],s1.heap.objs.size<=b:=by
  intro b hb
  simp only [List.mem_cons,List.mem_nil_iff,or_false] at hb
  have key:∀ n c:Nat,(c=n+4\/c=n+2\/c=n+3\/c=n\/c=n+1)->n<=c:=fun n c h=>by omega
  exact key _ _ hb
 cases hx:x.cps.all (· < 128)
 ·exact ⟨s1.heap.objs.size+4,_,_,_,H1,rfl,J1,uf (ty:="str_iterator") (x:=x) (t:=t) D nb (fun A hA=>Draws.strWide hA _ x t),⟨z1,z2,⟨_,_,z3⟩,by simpa [strIterType,hx] using z4,z5⟩,fun b hb=>I1.fpOk (fpk b hb) (I1.hok.fresh (fpk b hb)),q⟩
 ·exact ⟨s1.heap.objs.size+4,_,_,_,H1,rfl,J1,uf (ty:="str_ascii_iterator") (x:=x) (t:=t) D nb (fun A hA=>Draws.strAscii hA _ x t),⟨z1,z2,⟨_,_,z3⟩,by simpa [strIterType,hx] using z4,z5⟩,fun b hb=>I1.fpOk (fpk b hb) (I1.hok.fresh (fpk b hb)),q⟩⟩
section
variable {U:St} {H:Hp} {K:W.Frag}
theorem nj {a:TA} {R:It->Hp->Prop} (h:a U H fun vs H1=>∃ x b ys,vs=[.str x,.ref b]/\SqL K H1 b ys/\R (DW K x b) H1):HH K a U H R:=h
theorem DX {x:Str} {b:Addr} {ys:List V} {g:TG} {tb:TS} {D:Ends} (Pv:Nat->St->Hp->Prop) (hl:x.cps.size=ys.length) (h0:Pv 0 U H) (hq:∀ i U H,i<=ys.length->Pv i U H->SqL K H b ys)
  (hs:∀ i U H T y,ys[i]?=some y->Pv i U H->H T=none->g (.ref T) U (upd H T (.tup [.str ⟨#[x.cps.getD i 0]⟩,y])) fun σ2 H2=>tb {D with nx:=Pv (i+1),ct:=Pv (i+1),bk:=D.nx} σ2 H2) (hd:∀ U H,Pv ys.length U H->D.nx U H):
  ∃ W:Nat->Nat->St->Hp->Prop,(∃ m,W 0 m U H)/\∀ i m U H,W i m U H->
   ((DW K x b).stop i H/\D.nx U H)\/((DW K x b).go i H/\∃ N:St->Hp->Prop,(∀ U' H',N U' H'->∃ m',m' < m/\W (i+1) m' U' H')/\∀ z H',(DW K x b).yld i H z H'->g z U H' fun σ2 H2=>tb {D with nx:=N,ct:=N,bk:=D.nx} σ2 H2):=by
 refine ⟨fun i m U H=>m=ys.length - i/\i<=ys.length/\Pv i U H,⟨ys.length,by simp,Nat.zero_le _,h0⟩,?_⟩
 rintro i m U H ⟨rfl,hi,p⟩
 have q1:=hq i U H hi p
 by_cases hlt:i < ys.length
 ·refine .inr ⟨⟨by omega,ys,ys[i],q1,List.getElem?_eq_getElem hlt⟩,Pv (i+1),fun U' H' p'=>⟨ys.length - (i+1),by omega,rfl,hlt,p'⟩,fun z H' y=>?_⟩
  obtain ⟨T,u,hT,e1,e2,e4⟩:=y
  subst e1 e4
  exact hs i U H T u (e2 ys q1) p hT
 ·have e:i=ys.length:=by omega
  subst e
  exact .inl ⟨hl.symm,hd U H p⟩
end
end L2
namespace L2
open PySem PySem.Spec PyProof.Rows
open PySem.Sem (wp)
open AutoSeq1 (wpAny_loadPart')
end L2
namespace L2
open PySem PySem.W PySem.Spec PyProof.Rows
section
variable {prog:Program} {w:World} {A:Around} {E:Value->Shared->Prop} {s:Shared}
def V3 (a:Addr) (h h':Heap):Prop:=∀ b o,b≠a->h.get? b=some o->h'.get? b=some o
theorem DY {h:Heap} {a:Addr} {f:Obj->Obj} {x y:Obj}:V3 a h (((h.update a f).push x).push y):=fun b o nb e=>by
 have e1:(h.update a f).get? b=some o:=by rw [Heap.get?_update_ne _ _ _ _ nb];exact e
 exact Heap.get?_push_of_some _ (Heap.get?_push_of_some _ e1)
theorem BL (vs:List Value):(vs.toArray.zip vs.toArray).map (·.2)=vs.toArray:=by
 apply Array.toList_inj.mp
 simp only [Array.toList_map,Array.toList_zip]
 exact List.map_snd_zip (Nat.le_refl _)
end
theorem HN:∀ a:List Int,HT.lexLt a a=false
 | []=>rfl
 | x :: xs=>by rw [HT.lexLt_cons,if_pos rfl];exact HN xs
theorem qd:∀ {a b c:List Int},HT.lexLt a b=true->HT.lexLt b c=true->HT.lexLt a c=true
 | [],[],_,h,_=>by cases h
 | [],_ :: _,[],_,h=>by cases h
 | [],_ :: _,_ :: _,_,_=>rfl
 | _ :: _,[],_,h,_=>by cases h
 | _ :: _,_ :: _,[],_,h=>by cases h
 | x :: xs,y :: ys,z :: zs,h1,h2=>by
  rw [HT.lexLt_cons] at h1 h2 ⊢
  by_cases e1:x=y
  ·rw [if_pos e1] at h1
   by_cases e2:y=z
   ·rw [if_pos e2] at h2
    rw [if_pos (by omega)];exact qd h1 h2
   ·rw [if_neg e2] at h2
    rw [if_neg (by omega),e1];exact h2
  ·rw [if_neg e1] at h1
   have h1':=of_decide_eq_true h1
   by_cases e2:y=z
   ·rw [if_neg (by omega)];exact decide_eq_true (by omega)
   ·rw [if_neg e2] at h2
    have h2':=of_decide_eq_true h2
    rw [if_neg (by omega)];exact decide_eq_true (by omega)
theorem ug:∀ {a b:List Int},HT.lexLt a b=false->HT.lexLt b a=false->a=b
 | [],[],_,_=>rfl
 | [],_ :: _,h,_=>by cases h
 | _ :: _,[],_,h=>by cases h
 | x :: xs,y :: ys,h1,h2=>by
  rw [HT.lexLt_cons] at h1 h2
  by_cases e:x=y
  ·rw [if_pos e] at h1
   rw [if_pos e.symm] at h2
   rw [e,ug h1 h2]
  ·rw [if_neg e] at h1
   rw [if_neg (fun z=>e z.symm)] at h2
   have h1':=of_decide_eq_false h1
   have h2':=of_decide_eq_false h2
   omega
section
variable {prog:Program} {w:World} {A:Around} {E:Value->Shared->Prop} {s:Shared}
theorem Ro {b fin:Bool} {Q:Bool->Shared->Prop}:∀ (n:Nat) {vs us:List Value} {ns ms:List Int},IntsAre vs ns->IntsAre us ms->fin=decide (ns.length < ms.length)->Q (HT.lexLt ns ms) s->KatLex prog w A b fin Q (vs.zip us) n s:=by
 intro n vs us ns ms h1
 induction h1 generalizing n us ms with
 | nil=>
  intro h2 hf q
  cases h2 with
  | nil=>rw [hf];exact q
  | cons y t h2=>rw [hf];exact q
 | cons x t h1 ih=>
  intro h2 hf q
  cases h2 with
  | nil=>rw [hf];exact q
  | cons y u h2=>
   rw [List.zip_cons_cons]
   refine kat_cons (wpAny_eqBool_int ?_)
   rw [HT.lexLt_cons] at q
   by_cases e:x=y
   ·rw [if_pos e] at q
    rw [show (x == y)=true by rw [e];exact beq_self_eq_true y]
    refine kat_yes (ih (n+1) h2 ?_ q)
    rw [hf]
    simp
   ·rw [if_neg e] at q
    rw [show (x == y)=false by simpa using e]
    refine kat_no ?_
    cases hb:(b && n == 0) with
    | true=>exact oneLt_int q
    | false=>exact kat_one _ _ (lt_int q)
theorem V4 {Q:Bool->Shared->Prop} {x y:Addr} {vs us:List Value} {ns ms:List Int} (hx:IsTup s.heap x vs.toArray) (hy:IsTup s.heap y us.toArray) (h1:IntsAre vs ns) (h2:IntsAre us ms) (q:Q (HT.lexLt ns ms) s):
  wpAny (model prog w) A (keyLt' (tuples' true) (.ref x) (.ref y)) Q E s:=by
 obtain ⟨ox,gx,_,n1,dx⟩:=hx
 obtain ⟨oy,gy,_,n2,dy⟩:=hy
 refine kat_lt gx dx gy dy (Ro 0 h1 h2 ?_ q)
 have l1:=h1.length
 have l2:=h2.length
 simp [l1,l2]
theorem Ea {vs:List Value} {ts:List (List Int)} {Q:SortKind->Shared->Prop} (h2:2<=vs.length) (h:∀ i,i < vs.length->∃ a its,vs[i]?=some (.ref a)/\IsTup s.heap a its.toArray/\IntsAre its (ts.getD i [])/\ts.getD i []≠[]) (q:Q (tuples' true) s):
  wpAny (model prog w) A (keyKind' vs.toArray) Q E s:=by
 have key:∀ (l:List Value),(∀ v∈l,∃ a its ns,v= .ref a/\IsTup s.heap a its.toArray/\IntsAre its ns/\ns≠[])->∃ fs:List Value,fs.length=l.length/\KatTups s.heap l fs/\∀ v∈fs,∃ n t,v=Value.int n t:=by
  intro l
  induction l with
  | nil=>exact fun _=>⟨[],rfl,KatTups.nil,fun v hv=>by cases hv⟩
  | cons v l ih=>
   intro hl
   obtain ⟨fs,lf,kf,inf⟩:=ih fun u hu=>hl u (List.mem_cons_of_mem _ hu)
   obtain ⟨a,its,ns,rfl,⟨o,go,co,n,dn⟩,hI,hne⟩:=hl v List.mem_cons_self
   cases hI with
   | nil=>exact absurd rfl hne
   | cons x t hI=>
    refine ⟨.int x t :: fs,by simp [lf],KatTups.cons go co dn (by simp) kf,fun v hv=>?_⟩
    rcases List.mem_cons.mp hv with rfl | hv
    ·exact ⟨x,t,rfl⟩
    ·exact inf v hv
 obtain ⟨fs,lf,kf,inf⟩:=key vs fun v hv=>by
  obtain ⟨i,hi,rfl⟩:=List.mem_iff_getElem.mp hv
  obtain ⟨a,its,e,it,ia,ne⟩:=h i hi
  rw [List.getElem?_eq_getElem hi] at e
  exact ⟨a,its,_,Option.some.inj e,it,ia,ne⟩
 refine kat_kind (T:=.type "int") kf (by omega) (fun v hv=>?_) rfl q
 obtain ⟨n,t,rfl⟩:=inf v hv
 exact Looks.of_pure rfl
end
end L2
namespace L2
open PySem PySem.Spec PyProof.Rows
open PySem.Sem (wp)
end L2
namespace L2
open PySem PySem.Spec PyProof.Rows
open PySem.Sem (wp)
open PySem.AutoSeq1 (wpAny_loadPart')
end L2
namespace L2
open PySem PySem.Spec PyProof.Rows
open PySem.Sem (wp)
end L2
namespace L2
open PySem PySem.Spec PyProof.Rows
def Ut (K:W.Frag) (a:Addr) (n:Nat):It:=
 ⟨fun i H=>i < n/\∃ xs,SqL K H a xs/\xs.length=n,
  fun i H v H'=>H'=H/\∀ xs,SqL K H a xs->xs[n - 1 - i]?=some v,
  fun i _=>i=n⟩
theorem HQ {P:Program} {w:World} {K:W.Frag} {tg:Expr} {n:Nat} {it a:Addr} (hai:a≠it):
  Turn P w K tg (Ut K a n) [it] it (fun i h=>i<=n/\h.IsRevIter it a ((n:Int) - 1 - (i:Int))) where
 mem:=by simp
 obj:=fun i h st c hc=>by
  obtain ⟨_,⟨o1,e1,c1,d1⟩⟩:=st
  have e:c=it:=by simpa using hc
  subst e
  exact ⟨_,e1,fun v z=>by rw [d1] at z;cases z⟩
 keep:=fun i h h' st kk=>⟨st.1,st.2.at fun o q=>kk it (by simp) o q⟩
 item:=by
  intro X hP hw hK hc i pins s U H E I hf st hg
  subst hP hw hK
  obtain ⟨hi,h1⟩:=st
  obtain ⟨hlt,xs,hq,hlen⟩:=hg
  obtain ⟨its,rv,p,_⟩:=I.list hq
  have l1:=rv.length
  obtain ⟨x,hx⟩:∃ x,xs[n - 1 - i]?=some x:=⟨_,List.getElem?_eq_getElem (by omega)⟩
  obtain ⟨u,hu,ru⟩:=rv.get hx
  obtain ⟨f0,f1,f2,f3,f4,f5⟩:=hf it (by simp)
  have e:(n:Int) - 1 - (i:Int)=((n - 1 - i:Nat):Int):=by omega
  rw [e] at h1
  refine wpAny_pyNext_rev_item h1 p.isList (x:=u) (by simpa using hu) fun h' st' sb=>?_
  have I1:Inv X pins U H {s with heap:=h'}:=I.turned (t':=s.toks) (fun b o hb e=>(sb.2 b hb).trans e) f0 f1 f3 f4 f5
  obtain ⟨o,eo,c,d⟩:=id st'
  refine ⟨u,rfl,u5 (s:={s with heap:=h'}) eo c d (by decide) ⟨x,H,I1,ru,⟨rfl,fun ys hy=>by rw [I.list_inj hy hq];exact hx⟩,⟨hlt,?_⟩,fun b hb=>(hf b hb).1⟩⟩
  have e2:((n - 1 - i:Nat):Int) - 1=(n:Int) - 1 - ((i+1:Nat):Int):=by omega
  rw [← e2]
  exact st'
 done:=by
  intro X hP hw hK hc i pins s U H E I hf st hg
  subst hP hw hK
  obtain ⟨hi,h1⟩:=st
  have hin:i=n:=hg
  subst hin
  rw [show (i:Int) - 1 - (i:Int)= -1 by omega] at h1
  obtain ⟨f0,f1,f2,f3,f4,f5⟩:=hf it (by simp)
  exact wpAny_pyNext_rev_end (I.ok.hd hc) h1 fun h' eb=>⟨rfl,I.turned (t':=s.toks) (fun b o hb e=>eb b o hb e) f0 f1 f3 f4 f5⟩
 self:=fun _ _ _ _ _ st h=>wpAny_pyIter_revIter st.2 h
structure oK (K:W.Frag) (mg:Str->Option Value) (x:Str):Prop where
 at_:mg x=some (.ref (aN mg x))
 cl:Cls K (aN mg x)
 makes:PySem.W.makesIn K (aN mg x)=true
 kp:PySem.W.keepIn K (.ref (aN mg x))=true
def clsIn (K:W.Frag) (C:Addr):Bool:=PySem.W.plainGet K C Str.empty && PySem.W.hasDictIn K C && PySem.W.plainOver K C
theorem xY {K:W.Frag} {mg:Str->Option Value} {h:Heap} (X:K.In h) (G:h.Ns mainGlobals mg) {x:Str} {C:Addr} (a:PySem.W.nsIn K mainGlobals x=some (some (.ref C))) (b:clsIn K C=true)
  (s:PySem.W.findIn K (.ref C) "__setattr__"=some (some (.builtin "object.__setattr__"))) (m:PySem.W.makesIn K C=true) (k:PySem.W.keepIn K (.ref C)=true):oK K mg x:=by
 have e0:=PySem.W.mg_of X G a
 have e:=wu e0
 unfold clsIn at b
 simp only [Bool.and_eq_true] at b
 exact ⟨by rw [e];exact e0,by rw [e];exact ⟨b.1.1,b.1.2,b.2,s⟩,by rw [e];exact m,by rw [e];exact k⟩
structure d7 (K:W.Frag) (mg:Str->Option Value) (x m qual:Str) (st:Stmt):Prop where
 ex:∃ f fd,Meth K (aN mg x) m f/\Fun K m qual st f fd
theorem je {K:W.Frag} {mg:Str->Option Value} {h:Heap} (X:K.In h) (G:h.Ns mainGlobals mg) {x m qual:Str} {C f:Addr} {st:Stmt} {oc:Value} {od an:Option Addr} {osl:Array (Option Value)} {kV doc pm cdv ct:Value}
  (a:PySem.W.nsIn K mainGlobals x=some (some (.ref C))) (i:PySem.W.findIn K (.ref C) m=some (some (.ref f))) (n:PySem.W.isFn K (.ref f)=true)
  (l:K.lookup f=some ⟨oc,od,.func (PySem.W.fnOf m qual (iV st) (dJ st) (az st) .none kV doc pm an cdv ct),osl⟩) (c:PySem.W.codeIn K cdv qual=true) (k:PySem.W.keepIn K (.ref f)=true):d7 K mg x m qual st:=by
 have e:=wu (PySem.W.mg_of X G a)
 exact ⟨f,_,by rw [e];exact ⟨i,n,k⟩,Gx l c k⟩
theorem xZ {K:W.Frag} {mg:Str->Option Value} {h:Heap} (X:K.In h) (G:h.Ns mainGlobals mg) {x:Str} {C:Addr} {fl:List Str} (a:PySem.W.nsIn K mainGlobals x=some (some (.ref C))) (b:Ri K C fl=true):∀ f∈fl,NoAttr K (aN mg x) f:=fun n hn=>by
 rw [wu (PySem.W.mg_of X G a)]
 have:=List.all_eq_true.mp b n hn
 first | exact of_decide_eq_true this | exact beq_iff_eq.mp this | simpa using this
def jf (j:Nat):Stmt->Stmt
 | .ClassDef _ _ _ ss _ _ _ _ _ _ _=>ss.getD j (.Pass ⟨0,0,0,0⟩)
 | s=>s
def jR (P:Program) (w:World) (K:W.Frag) (mg:Str->Option Value) (base:Heap) (k:Nat) (x m:Str) (ps:List Str) (sp:Sp):Prop:=
 ∃ f fd,Meth K (aN mg x) m f/\Binds K fd ps []/\rT P w K mg base (Rh P w) k f fd ps sp
section
variable {P:Program} {w:World} {K:W.Frag} {mg:Str->Option Value} {base:Heap}
theorem mV {x m qual:Str} {st:Stmt} {N ps:List Str} {k:Nat} {sp:Sp} (D:d7 K mg x m qual st) (S:aD N ps (az st))
  (hb:∀ (kV doc pm:Value) (an:Option Addr) (cdv ct:Value) (us:List Value),us.length=ps.length->bindArgs (PySem.W.fnOf m qual (iV st) (dJ st) (az st) .none kV doc pm an cdv ct) ⟨us,[]⟩=pure (ps.zip us))
  (len:∀ vs H Q E,sp vs H Q E->vs.length=ps.length)
  (hbody:∀ (f:Addr) (cdv:Value) (A:Around) (outer:List Env) (s:Shared) (H:Hp) (vs:List V) (Q:VK) (E:XK),Room k (A.deeper (envOfC qual (az st) s.heap.objs.size f cdv))->sp vs H Q E->
   ∃ t,JB (qM (Rh P w) P w K mg base N qual (az st) f cdv A outer s H E) (dJ st) t/\t {nx:=fun _ H'=>Q .non H',rt:=Q} (start N vs) H):jR P w K mg base (k+1) x m ps sp:=by
 obtain ⟨f,fd,hm,F⟩:=D.ex
 refine ⟨f,fd,hm,F.binds hb,?_⟩
 obtain ⟨oc,od,kV,doc,pm,an,cdv,ct,osl,rfl,lk,hcd⟩:=F.ex
 exact Ow lk hcd S len fun A outer s H vs Q E hr h=>let ⟨t,j,q⟩:=hbody f cdv A outer s H vs Q E hr h;⟨t,j.run,q⟩
end
def wB (C:Addr) (m:Str) (sp:Sp) (R:St->XK) (ta:TE) (t:TA):TE:=fun U H Q=>ta U H fun x H1=>∃ a dx fs,x= .ref a/\H1 a=some (.ins C dx fs)/\fs.lookup m=none/\t U H1 fun vs H2=>sp (x :: vs) H2 Q (R U)
def HR (C:Addr) (sp:Sp) (R:St->XK) (t:TA):TE:=fun U H Q=>t U H fun vs H1=>∀ x dx,H1 x=none->H1 dx=none->dx≠x->
 sp (.ref x :: vs) (upd (upd H1 dx (.own x)) x (.ins C dx [])) (fun v H2=>v= .non/\Q (.ref x) H2) (R U)
section
variable {X:Cx} {K:W.Frag} {k:Nat} {f C:Addr} {ps:List Str} {sp:Sp} {R:St->XK} {x m fn:Str} {p pos apos pos':Pos} {e o value:Expr} {es:List Expr} {ta tv:TE} {t:TA} {pins:List (Addr×Obj)} {U:St} {H:Hp} {s:Shared} {Q:VK} {us:List Value} {vs:List V}
theorem qe {pl:Sem Bool} (he:JE X o ta) (c:oK X.K X.mg x) (F:jR X.prog X.w X.K X.mg X.base k x m ps sp) (hr:Room k X.A) (hx:rO X R) (ha:JA X (e :: es) t)
  (hs:autoParam ((e :: es).all notStar=true) L2.auto4._auto_1)
  (ht:eval (.Call (.Attribute o m apos) (e :: es) [] pos) X.env=(do
   let ov ← eval o X.env
   standAt apos.atName
   let (f,first) ← holding [ov] (getMethod ov m pl)
   callWith pos f first (backTo pos (starEach (e :: es) X.env)) (backToKw pos (keywordEach [] X.env))):=by rfl):
  JE X (.Call (.Attribute o m apos) (e :: es) [] pos) (wB (aN X.mg x) m sp R ta t):=⟨by
 have h1:notStar e=true:=by simp only [List.all_cons,Bool.and_eq_true] at hs;exact hs.1
 have h2:es.all notStar=true:=by simp only [List.all_cons,Bool.and_eq_true] at hs;exact hs.2
 obtain ⟨f,fd,hm,hb,F⟩:=F
 intro pins s U H Q I h
 refine PySem.W.methodCall_KW (pl:=pl) (fM (he.run pins s U H _ I h) fun u s1 qq0=>?_) ht
 obtain ⟨x,H1,I1,rx,a,dx,fs,ex,ea,l,q⟩:=qq0
 subst ex
 obtain rfl:u=Value.ref a:=rx
 refine tK I1 ea c.cl hm l ?_
 refine PySem.W.callWith_K (first:=[.ref a]) (h₀:=X.base) I.ok.mod.kin hm.kp (fM (ha.run pos pins s1 U H1 _ I1 q) fun us s2 ⟨vs,H2,I2,r,q2⟩=>⟨I2.kIn,?_⟩) (bV h1) (o6 h2)
 exact BK (us:=.ref a :: us) (vs:=.ref a :: vs) F hr hb hx I2 (.cons rfl r) q2⟩
theorem iu {pl:Sem Bool} (he:JE X o ta) (c:oK X.K X.mg x) (F:jR X.prog X.w X.K X.mg X.base k x m ps sp) (hr:Room k X.A) (hx:rO X R)
  (ht:eval (.Call (.Attribute o m apos) [] [] pos) X.env=(do
   let ov ← eval o X.env
   standAt apos.atName
   let (f,first) ← holding [ov] (getMethod ov m pl)
   callWith pos f first (backTo pos (starEach [] X.env)) (backToKw pos (keywordEach [] X.env))):=by rfl):
  JE X (.Call (.Attribute o m apos) [] [] pos) (wB (aN X.mg x) m sp R ta Ko):=⟨by
 obtain ⟨f,fd,hm,hb,F⟩:=F
 intro pins s U H Q I h
 refine PySem.W.methodCall_KW (pl:=pl) (fM (he.run pins s U H _ I h) fun u s1 qq0=>?_) ht
 obtain ⟨x,H1,I1,rx,a,dx,fs,ex,ea,l,q⟩:=qq0
 subst ex
 obtain rfl:u=Value.ref a:=rx
 refine tK I1 ea c.cl hm l ?_
 exact PySem.W.callWith_K0 (first:=[.ref a]) I1.kIn hm.kp (BK (us:=[.ref a]) (vs:=[.ref a]) F hr hb hx I1 (.cons rfl .nil) q)⟩
theorem Eb (c:oK X.K X.mg x) (F:jR X.prog X.w X.K X.mg X.base k x "__init__" ps sp) (hr:Room (k+1) X.A) (hx:rO X R) (I:Inv X pins U H s) (r:Vals vs us)
  (h:∀ y dx,H y=none->H dx=none->dx≠y->sp (.ref y :: vs) (upd (upd H dx (.own y)) y (.ins (aN X.mg x) dx [])) (fun v H2=>v= .non/\Q (.ref y) H2) (R U)):
  wpAny (model X.prog X.w) X.A (call (.ref (aN X.mg x)) us) (EP X pins U Q) X.xe s:=by
 obtain ⟨f,fd,hm,hb,F⟩:=F
 have hq:=h (s.heap.objs.size+1) s.heap.objs.size (I.hok.fresh (Nat.le_succ _)) (I.hok.fresh (Nat.le_refl _)) (Nat.ne_of_lt (Nat.lt_succ_self _))
 have I2:=Inv.made (C:=aN X.mg x) I
 have r2:Vals (V.ref (s.heap.objs.size+1) :: vs) (Value.ref (s.heap.objs.size+1) :: us):=.cons rfl r
 have hl:((Value.ref (s.heap.objs.size+1) :: us) ++ []).length=ps.length:=by
  have e:=r2.length
  rw [F.len _ _ _ _ hq] at e
  rw [List.append_nil]
  exact e.symm
 have bd:=hb _ (Value.ref (s.heap.objs.size+1) :: us) I2.kIn hl
 rw [List.append_nil] at bd
 refine wpAny_call (Gm (f:=f) I.kIn c.makes hm.at_ (beq_iff_eq.mp hm.fn) (codeAny_mono (F.run _ X.stack _ _ ⟨Value.ref (s.heap.objs.size+1) :: us,[]⟩ (Value.ref (s.heap.objs.size+1) :: us) _ _ (R U) (hr.make (aN X.mg x) us [])
  (I2.env0.make (aN X.mg x) us []) bd r2 hq) fun r s' hq'=>?_))
 cases r with
 | error e=>exact hx pins e s' (By I2 hq')
 | ok fl=>
  cases fl with
  | ret u=>
   obtain ⟨v,H',I3,rv,ev,q3⟩:=I2.after hq'
   subst ev
   exact ⟨rv,⟨V.ref (s.heap.objs.size+1),H',I3,rfl,q3⟩⟩
  | next=>exact False.elim hq'
  | brk=>exact False.elim hq'
  | cont=>exact False.elim hq'
theorem nu (c:oK X.K X.mg x) (F:jR X.prog X.w X.K X.mg X.base k x "__init__" ps sp) (hr:Room (k+1) X.A) (hg:Gl X x) (hx:rO X R) (ha:JA X (e :: es) t) (hdb:(x == ("__debug__":Str))=false) (h:autoParam ((e :: es).all notStar=true) L2.auto4._auto_1):
  JE X (.Call (.Name x p) (e :: es) [] pos) (HR (aN X.mg x) sp R t):=⟨by
 have h1:notStar e=true:=by simp only [List.all_cons,Bool.and_eq_true] at h;exact h.1
 have h2:es.all notStar=true:=by simp only [List.all_cons,Bool.and_eq_true] at h;exact h.2
 intro pins s U H Q I h
 refine wpAny_Call_Name_kw (vU I hg c.at_ ?_ hdb)
 refine PySem.W.callWith_K (h₀:=X.base) I.ok.mod.kin c.kp (fM (ha.run pos pins s U H _ I h) fun us s1 ⟨vs,H1,I1,r,q⟩=>⟨I1.kIn,?_⟩) (bV h1) (o6 h2)
 exact Eb c F hr hx I1 r q⟩
theorem jg (hK:X.K=K) (he:JE X e ta) (h:autoParam (sU e=true) L2.auto4._auto_1):JE X (.Attribute e fn pos) (Qt K ta fn):=by
 subst hK
 exact ⟨Qv he.run (by cases e <;> first | rfl | cases h)⟩
theorem eZ (hK:X.K=K) (ha:JE X o ta) (hv:JE X value tv) (h:autoParam (j4 value=true) L2.auto4._auto_1):JS X (.Assign [.Attribute o fn pos'] value pos) (Qu K ta tv fn):=by
 subst hK
 exact ⟨Qw ha.run hv.run (xK h)⟩
end
section
variable {U:St} {H:Hp} {D:Ends} {Q:VK} {sp:Sp} {R:St->XK} {a:TA} {K:W.Frag} {C:Addr} {ta tv:TE} {f m:Str}
theorem dq (h:ta U H fun x H1=>∃ b dx fs,x= .ref b/\H1 b=some (.ins C dx fs)/\fs.lookup m=none/\a U H1 fun vs H2=>sp (x :: vs) H2 Q (R U)):wB C m sp R ta a U H Q:=h
theorem dw (h:a U H fun vs H1=>∀ x dx,H1 x=none->H1 dx=none->dx≠x->sp (.ref x :: vs) (upd (upd H1 dx (.own x)) x (.ins C dx [])) (fun v H2=>v= .non/\Q (.ref x) H2) (R U)):HR C sp R a U H Q:=h
theorem jC (h:ta U H fun x H1=>∃ a C dx fs v,x= .ref a/\H1 a=some (.ins C dx fs)/\Cls K C/\NoAttr K C f/\fs.lookup f=some v/\Q v H1):Qt K ta f U H Q:=h
theorem gM (h:tv U H fun y H1=>ta U H1 fun x H2=>∃ a C dx fs,x= .ref a/\H2 a=some (.ins C dx fs)/\Cls K C/\NoAttr K C f/\fs.length < 1000/\D.nx U (upd H2 a (.ins C dx (lH f y fs)))):Qu K ta tv f D U H:=h
end
section
variable {X:Cx} {mg:Str->Option Value} {o:Expr} {ta:TE} {t:TA} {x m:Str} {ps:List Str} {sp:Sp} {k:Nat} {R:St->XK} {e:Expr} {es:List Expr} {pos apos:Pos}
theorem yc {pl:Sem Bool} (hmg:X.mg=mg) (he:JE X o ta) (c:oK X.K X.mg x) (F:jR X.prog X.w X.K X.mg X.base k x m ps sp) (hr:Room k X.A) (hx:rO X R) (ha:JA X (e :: es) t)
  (hs:autoParam ((e :: es).all notStar=true) L2.auto4._auto_1)
  (ht:eval (.Call (.Attribute o m apos) (e :: es) [] pos) X.env=(do
   let ov ← eval o X.env
   standAt apos.atName
   let (f,first) ← holding [ov] (getMethod ov m pl)
   callWith pos f first (backTo pos (starEach (e :: es) X.env)) (backToKw pos (keywordEach [] X.env))):=by rfl):
  JE X (.Call (.Attribute o m apos) (e :: es) [] pos) (wB (aN mg x) m sp R ta t):=by
 subst hmg
 exact qe he c F hr hx ha hs ht
end
section
variable {U:St} {H:Hp} {Q:VK}
def Rp (o:HO) (n:Nat) (H:Hp) (Q:VK):Prop:=n<=sizeLine/\∀ p,H p=none->Q (.ref p) (upd H p o)
theorem mW {a:TA} (h:a U H fun xs H1=>Rp (.lst xs) xs.length H1 Q):Ks a U H Q:=h
theorem mX {a:TA} (h:a U H fun xs H1=>Rp (.tup xs) xs.length H1 Q):Kq a U H Q:=h
theorem cG {o:HO} {n:Nat} (c:Nat.ble n 64=true) (h:∀ p H',H p=none->Same H H'->H' p=some o->Q (.ref p) H'):Rp o n H Q:=
 ⟨Nat.le_trans (Nat.le_of_ble_eq_true c) (by decide),fun p np=>h p _ np ((Same.refl H).upd np) aj⟩
end
section
variable {sub:List (Option Nat)} {g:TG} {tt:TT} {te:TE} {U:St} {Q:VK} {H:Hp} {K:W.Frag} {a:Addr} {xs:List V} {lo:Int} {n:Nat} {z:Str}
theorem qQ (Pv:Nat->List V->Hp->Prop) (hn:n<=sizeLine) (h0:Pv 0 [] H) (hl:∀ i ys H,Pv i ys H->ys.length<=i)
  (hs:∀ i ys H,i < n->Pv i ys H->g (.int (lo+i)) (cz sub U) H fun σ2 H2=>KeepSt (cz sub U) σ2/\tt σ2 H2 fun b H3=>if b=true then te σ2 H3 fun y H4=>Pv (i+1) (ys ++ [y]) H4 else Pv (i+1) ys H3)
  (hd:∀ ys H D H',Pv n ys H->H D=none->Same H H'->H' D=some (.lst ys)->Q (.ref D) H'):mJ sub g tt te U Q (Fo lo n) H:=
 t6 Pv hn h0 hl hs fun ys H p D nD=>hd ys H D _ p nD ((Same.refl H).upd nD) aj
theorem zV (Pv:Nat->List V->Hp->Prop) (hn:xs.length<=sizeLine) (h0:Pv 0 [] H) (hl:∀ i ys H,Pv i ys H->ys.length<=i) (hq:∀ i ys H,Pv i ys H->SqL K H a xs)
  (hs:∀ i ys H x,xs[i]?=some x->Pv i ys H->g x (cz sub U) H fun σ2 H2=>KeepSt (cz sub U) σ2/\tt σ2 H2 fun b H3=>if b=true then te σ2 H3 fun y H4=>Pv (i+1) (ys ++ [y]) H4 else Pv (i+1) ys H3)
  (hd:∀ ys H D H',Pv xs.length ys H->H D=none->Same H H'->H' D=some (.lst ys)->Q (.ref D) H'):mJ sub g tt te U Q (Ot K a) H:=
 Dm Pv hn h0 hl hq hs fun ys H p D nD=>hd ys H D _ p nD ((Same.refl H).upd nD) aj
theorem Ec (Pv:Nat->List V->Hp->Prop) (hn:xs.length<=sizeLine) (h0:Pv 0 [] H) (hl:∀ i ys H,Pv i ys H->ys.length<=i) (hq:∀ i ys H,Pv i ys H->SqT K H a xs)
  (hs:∀ i ys H x,xs[i]?=some x->Pv i ys H->g x (cz sub U) H fun σ2 H2=>KeepSt (cz sub U) σ2/\tt σ2 H2 fun b H3=>if b=true then te σ2 H3 fun y H4=>Pv (i+1) (ys ++ [y]) H4 else Pv (i+1) ys H3)
  (hd:∀ ys H D H',Pv xs.length ys H->H D=none->Same H H'->H' D=some (.lst ys)->Q (.ref D) H'):mJ sub g tt te U Q (Ou K a) H:=
 Hv Pv hn h0 hl hq hs fun ys H p D nD=>hd ys H D _ p nD ((Same.refl H).upd nD) aj
theorem vH (Pv:Nat->List V->Hp->Prop) (hn:z.cps.size<=sizeLine) (h0:Pv 0 [] H) (hl:∀ i ys H,Pv i ys H->ys.length<=i)
  (hs:∀ i ys H c,z.cps.toList[i]?=some c->Pv i ys H->g (.str ⟨#[c]⟩) (cz sub U) H fun σ2 H2=>KeepSt (cz sub U) σ2/\tt σ2 H2 fun b H3=>if b=true then te σ2 H3 fun y H4=>Pv (i+1) (ys ++ [y]) H4 else Pv (i+1) ys H3)
  (hd:∀ ys H D H',Pv z.cps.size ys H->H D=none->Same H H'->H' D=some (.lst ys)->Q (.ref D) H'):mJ sub g tt te U Q (KH z) H:=
 xO Pv hn h0 hl hs fun ys H p D nD=>hd ys H D _ p nD ((Same.refl H).upd nD) aj
theorem nF {f:Nat->V} {i:Nat} {y:V} (h:y=f i):(List.range i).map f ++ [y]=(List.range (i+1)).map f:=by rw [h,List.range_succ,List.map_append];rfl
theorem qR (f:Nat->V) (hn:n<=sizeLine)
  (hs:∀ i,i < n->g (.int (lo+i)) (cz sub U) H fun σ2 H2=>KeepSt (cz sub U) σ2/\tt σ2 H2 fun b H3=>if b=true then te σ2 H3 fun y H4=>H4=H/\(List.range i).map f ++ [y]=(List.range (i+1)).map f else H3=H/\(List.range i).map f=(List.range (i+1)).map f)
  (hd:∀ D H',H D=none->Same H H'->H' D=some (.lst ((List.range n).map f))->Q (.ref D) H'):mJ sub g tt te U Q (Fo lo n) H:=by
 refine qQ (fun i ys H'=>H'=H/\ys=(List.range i).map f) hn ⟨rfl,rfl⟩ ?_ ?_ ?_
 ·rintro i ys H' ⟨_,rfl⟩
  simp
 ·rintro i ys H' hi ⟨rfl,rfl⟩
  exact hs i hi
 ·rintro ys H1 D H' ⟨rfl,rfl⟩ nD s e
  exact hd D H' nD s e
end
def Kr (rk:Keyed->Int) (xs:Array Keyed) (i:Nat):Int:=match xs[i]? with
 | some p=>rk p
 | none=>0
def Seg (rk:Keyed->Int) (xs:Array Keyed) (lo hi:Nat):Prop:=∀ i j,lo<=i->i<=j->j < hi->Kr rk xs i<=Kr rk xs j
def Ed (rk:Keyed->Int) (xs:Array Keyed) (lo hi:Nat):Prop:=∀ i j,lo<=i->i<=j->j < hi->Kr rk xs j<=Kr rk xs i
structure SB (a₀:Array Keyed) (kd:SortKind) (st:SortSt):Prop where
 perm:(arrOf st).Perm a₀
 kind:kindOf st=kd
 failed:failedOf st=none
def qg (M:Model) (A:Around) (E:Value->Shared->Prop) (s:Shared) (kd:SortKind) (rk:Keyed->Int) (a₀:Array Keyed):Prop:=
 ∀ (p q:Keyed) (st:SortSt) (Q:Option Bool->SortSt->Prop),p∈a₀.toList->q∈a₀.toList->kindOf st=kd->Q (some (decide (rk p < rk q))) st->wpS M A E s (lt' p q) Q st
section
variable {M:Model} {A:Around} {E:Value->Shared->Prop} {s:Shared} {kd:SortKind} {rk:Keyed->Int} {a₀:Array Keyed}
theorem mY {xs ys:Array Keyed} {i j:Nat} (h:xs[i]?=ys[j]?):Kr rk xs i=Kr rk ys j:=by unfold Kr;rw [h]
theorem cD {xs:Array Keyed} {i:Nat} {p:Keyed} (h:xs[i]?=some p):Kr rk xs i=rk p:=by unfold Kr;rw [h]
theorem SB.size {st:SortSt} (h:SB a₀ kd st):(arrOf st).size=a₀.size:=h.perm.size_eq
theorem SB.mem {st:SortSt} (h:SB a₀ kd st) {p:Keyed} (hp:p∈(arrOf st).toList):p∈a₀.toList:=(Array.perm_iff_toList_perm.mp h.perm).mem_iff.mp hp
theorem SB.at {st:SortSt} (h:SB a₀ kd st) {i:Nat} (hi:i < a₀.size):∃ p,(arrOf st)[i]?=some p/\p∈a₀.toList:=by
 have hi':i < (arrOf st).size:=by rw [h.size];exact hi
 exact ⟨(arrOf st)[i],getElem?_pos _ i hi',h.mem (by simp)⟩
theorem aM {U:Type} {xs:Array Keyed} {i:Nat} {p:Keyed} {Q:Keyed->SortSt->Prop} {st:SortSt} (h:xs[i]?=some p) (q:Q p st):wpS M A E s (elem' xs i) Q st:=by
 rw [elem'_eq,h];exact wpS_pure q
theorem qi {st:SortSt} {i j:Nat} {Q:Option Bool->SortSt->Prop} (L:qg M A E s kd rk a₀) (hB:SB a₀ kd st) (hi:i < a₀.size) (hj:j < a₀.size)
  (h:Q (some (decide (Kr rk (arrOf st) i < Kr rk (arrOf st) j))) st):wpS M A E s (ltAt' i j) Q st:=by
 obtain ⟨p,e1,m1⟩:=hB.at hi
 obtain ⟨q,e2,m2⟩:=hB.at hj
 rw [ltAt'_eq]
 refine wpS_bind (wpS_get ?_)
 refine wpS_bind (aM (U:=Unit) e1 (wpS_bind (aM (U:=Unit) e2 ?_)))
 rw [cD e1,cD e2] at h
 exact L p q st Q m1 m2 hB.kind h
theorem nG {xs:Array Keyed} {i j:Nat} (hj:j<=xs.size) (k:Nat):Kr rk (mirror xs i j ((j - i) / 2)) k=if i<=k/\k < j then Kr rk xs (i+j - 1 - k) else Kr rk xs k:=by
 have e:=getElem?_mirror_all (i:=i) hj k
 by_cases h1:i<=k/\k < j
 ·rw [if_pos h1] at e ⊢;exact mY e
 ·rw [if_neg h1] at e ⊢;exact mY e
theorem dR {xs:Array Keyed} {i j:Nat} (hj:j<=xs.size) (heq:∀ k,i<=k->k < j->Kr rk xs k=Kr rk xs (j - 1)) (k:Nat):Kr rk (mirror xs i j ((j - i) / 2)) k=Kr rk xs k:=by
 rw [nG hj]
 split
 ·rw [heq _ (by omega) (by omega),heq k (by omega) (by omega)]
 ·rfl
theorem qT {xs:Array Keyed} {src d:Nat} (hs:src < xs.size) (hd:d<=src) (k:Nat):
  Kr rk (bubble xs src d) k=if k=src - d then Kr rk xs src else if src - d < k/\k<=src then Kr rk xs (k - 1) else Kr rk xs k:=by
 have e:=getElem?_bubble hs d hd k
 by_cases h1:k=src - d
 ·rw [if_pos h1] at e ⊢;exact mY e
 ·rw [if_neg h1] at e ⊢
  by_cases h2:src - d < k/\k<=src
  ·rw [if_pos h2] at e ⊢;exact mY e
  ·rw [if_neg h2] at e ⊢;exact mY e
structure Nx (a₀:Array Keyed) (kd:SortKind) (rk:Keyed->Int) (lo:Nat) (st st':SortSt):Prop where
 sb:SB a₀ kd st'
 fr:∀ k,k < lo->Kr rk (arrOf st') k=Kr rk (arrOf st) k
 pe:pendingOf st'=pendingOf st
theorem Nx.refl {lo:Nat} {st:SortSt} (h:SB a₀ kd st):Nx a₀ kd rk lo st st:=⟨h,fun _ _=>rfl,rfl⟩
theorem Nx.trans {lo:Nat} {st st' st'':SortSt} (h:Nx a₀ kd rk lo st st') (h':Nx a₀ kd rk lo st' st''):Nx a₀ kd rk lo st st'':=⟨h'.sb,fun k hk=>(h'.fr k hk).trans (h.fr k hk),h'.pe.trans h.pe⟩
theorem Nx.mir {lo i j:Nat} {st st':SortSt} (h:Nx a₀ kd rk lo st st') (hi:lo<=i) (hj:j<=a₀.size):Nx a₀ kd rk lo st (setArr st' (mirror (arrOf st') i j ((j - i) / 2))):=
 ⟨⟨(mirror_perm _ _ _ _).trans h.sb.perm,h.sb.kind,h.sb.failed⟩,fun k hk=>by
  show Kr rk (mirror (arrOf st') i j ((j - i) / 2)) k=_
  rw [nG (by rw [h.sb.size];exact hj),if_neg (by omega)];exact h.fr k hk,h.pe⟩
theorem Nx.bub {lo src d:Nat} {st st':SortSt} (h:Nx a₀ kd rk lo st st') (hs:src < a₀.size) (hd:d<=src) (hi:lo<=src - d):Nx a₀ kd rk lo st (setArr st' (bubble (arrOf st') src d)):=
 ⟨⟨(bubble_perm _ _ _).trans h.sb.perm,h.sb.kind,h.sb.failed⟩,fun k hk=>by
  show Kr rk (bubble (arrOf st') src d) k=_
  rw [qT (by rw [h.sb.size];exact hs) hd,if_neg (by omega),if_neg (by omega)];exact h.fr k hk,h.pe⟩
theorem sW {st:SortSt} {i j:Nat} {Q:Unit->SortSt->Prop} (h:Q () (setArr st (mirror (arrOf st) i j ((j - i) / 2)))):wpS M A E s (reverseSlice' i j) Q st:=by
 rw [reverseSlice'_eq];exact wpS_modify h
def HS (lo a nrem:Nat):StateT SortSt Sem AscSt:=
 forIn [a:nrem] ((none,a):AscSt) fun _ __s=>do
  let __x ← ltAt' (lo+__s.snd) (lo+__s.snd - 1)
  match __x with
  | some smaller=>if smaller=true then pure (ForInStep.done (none,__s.snd)) else pure (ForInStep.yield (none,__s.snd+1))
  | _=>pure (ForInStep.done (some none,__s.snd))
def uh (lo n nrem:Nat):StateT SortSt Sem (Option Nat):=do
 reverseSlice' lo (lo+n)
 let __s ← HS lo n nrem
 match __s.fst with
 | some r=>pure r
 | none=>pure (some __s.snd)
def BP (lo n nrem:Nat):StateT SortSt Sem DescSt:=
 forIn [n:nrem] ((none,n,0):DescSt) fun _ __s=>do
  let __x ← ltAt' (lo+__s.snd.fst) (lo+__s.snd.fst - 1)
  match __x with
  | some smaller=>
   if smaller=true then
    if __s.snd.snd > 0 then do
     reverseSlice' (lo+__s.snd.fst - (__s.snd.snd+1)) (lo+__s.snd.fst)
     pure (ForInStep.yield (none,__s.snd.fst+1,0))
    else pure (ForInStep.yield (none,__s.snd.fst+1,0))
   else do
    let __x ← ltAt' (lo+__s.snd.fst - 1) (lo+__s.snd.fst)
    match __x with
    | some larger=>
     if larger=true then pure (ForInStep.done (none,__s.snd.fst,__s.snd.snd))
     else pure (ForInStep.yield (none,__s.snd.fst+1,__s.snd.snd+1))
    | _=>pure (ForInStep.done (some none,__s.snd.fst,__s.snd.snd))
  | _=>pure (ForInStep.done (some none,__s.snd.fst,__s.snd.snd))
def um (lo n nrem:Nat):StateT SortSt Sem (Option Nat):=do
 liftM (rule "list.sort.descending-run")
 let __s ← BP lo (n+1) nrem
 match __s.fst with
 | some r=>pure r
 | none=>
  if __s.snd.snd > 0 then do
   reverseSlice' (lo+__s.snd.fst - (__s.snd.snd+1)) (lo+__s.snd.fst)
   uh lo __s.snd.fst nrem
  else uh lo __s.snd.fst nrem
theorem Ef (lo nrem:Nat):countRun' lo nrem=(do
  let __s ← HS lo 1 nrem
  match __s.fst with
  | some r=>pure r
  | none=>
   if (__s.snd == nrem)=true then pure (some __s.snd)
   else if __s.snd > 1 then do
    let __x ← ltAt' lo (lo+__s.snd - 1)
    match __x with
    | some rose=>if rose=true then pure (some __s.snd) else do
      reverseSlice' lo (lo+__s.snd)
      um lo __s.snd nrem
    | _=>pure none
   else um lo __s.snd nrem):=by
 rw [countRun'_eq]
 unfold um uh BP HS
 dsimp only
 congr 1
 funext __s
 obtain ⟨r,n⟩:=__s
 cases r with
 | some r=>rfl
 | none=>
  dsimp only
  split
  ·rfl
  ·split
   ·congr 1
    funext x
    cases x with
    | none=>rfl
    | some rose=>
     dsimp only
     split
     ·rfl
     ·congr 1
      funext _r
      congr 1
      funext _u
      congr 1
      congr 1
      funext s2
      obtain ⟨r2,n2,q2⟩:=s2
      cases r2 with
      | some r2=>rfl
      | none=>
       dsimp only
       split
       ·congr 1
        funext _v
        (congr 1;funext _w;congr 1;(funext s3;obtain ⟨r3,n3⟩:=s3;cases r3 <;> rfl))
       ·(congr 1;funext _w;congr 1;(funext s3;obtain ⟨r3,n3⟩:=s3;cases r3 <;> rfl))
   ·congr 1
    funext _u
    congr 1
    congr 1
    funext s2
    obtain ⟨r2,n2,q2⟩:=s2
    cases r2 with
    | some r2=>rfl
    | none=>
     dsimp only
     split
     ·congr 1
      funext _v
      (congr 1;funext _w;congr 1;(funext s3;obtain ⟨r3,n3⟩:=s3;cases r3 <;> rfl))
     ·(congr 1;funext _w;congr 1;(funext s3;obtain ⟨r3,n3⟩:=s3;cases r3 <;> rfl))
theorem yd {st:SortSt} {lo a nrem:Nat} {Q:AscSt->SortSt->Prop} (L:qg M A E s kd rk a₀) (hn:lo+nrem<=a₀.size) (ha:1<=a) (han:a<=nrem) (hB:SB a₀ kd st) (hs:Seg rk (arrOf st) lo (lo+a))
  (h:∀ n,a<=n->n<=nrem->Seg rk (arrOf st) lo (lo+n)->(n=nrem\/Kr rk (arrOf st) (lo+n) < Kr rk (arrOf st) (lo+n - 1))->Q (none,n) st):
  wpS M A E s (HS lo a nrem) Q st:=by
 unfold HS
 refine wpS_forRange (I:=fun x c st'=>st'=st/\c=(none,x)/\Seg rk (arrOf st) lo (lo+x)) ?step ?fin ⟨rfl,rfl,hs⟩
 case fin=>
  rintro c st' ⟨rfl,rfl,hs'⟩
  rw [show max a nrem=nrem by omega] at hs' ⊢
  exact h nrem han (Nat.le_refl _) hs' (.inl rfl)
 case step=>
  rintro x c st' hax hxn ⟨rfl,rfl,hs'⟩
  dsimp only
  refine wpS_bind (qi L hB (by omega) (by omega) ?_)
  by_cases hless:Kr rk (arrOf st') (lo+x) < Kr rk (arrOf st') (lo+x - 1)
  ·simp only [hless,decide_true,if_true]
   exact wpS_pure (h x hax (by omega) hs' (.inr hless))
  ·simp only [hless,decide_false,Bool.false_eq_true,if_false]
   refine wpS_pure ⟨rfl,rfl,fun i j hl hij hj=>?_⟩
   by_cases hjx:j < lo+x
   ·exact hs' i j hl hij hjx
   ·have hj':j=lo+x:=by omega
    subst hj'
    by_cases hi':i=lo+x
    ·subst hi';exact Int.le_refl _
    ·exact Int.le_trans (hs' i (lo+x - 1) hl (by omega) (by omega)) (Int.not_lt.mp hless)
theorem uo {st:SortSt} {lo n nrem:Nat} {Q:Option Nat->SortSt->Prop} (L:qg M A E s kd rk a₀) (hn:lo+nrem<=a₀.size) (h1:1<=n) (hnn:n<=nrem) (hB:SB a₀ kd st)
  (hs:Ed rk (arrOf st) lo (lo+n)) (h:∀ m st',Nx a₀ kd rk lo st st'->1<=m->m<=nrem->Seg rk (arrOf st') lo (lo+m)->Q (some m) st'):
  wpS M A E s (uh lo n nrem) Q st:=by
 unfold uh
 have hsz:lo+n<=(arrOf st).size:=by rw [hB.size];omega
 refine wpS_bind (sW ?_)
 have hN:Nx a₀ kd rk lo st (setArr st (mirror (arrOf st) lo (lo+n) ((lo+n - lo) / 2))):=(Nx.refl hB).mir (Nat.le_refl _) (by omega)
 refine wpS_bind (yd L hn h1 hnn hN.sb ?_ fun m hm1 hm2 hsm _=>wpS_pure (h m _ hN (by omega) hm2 hsm))
 intro i j hl hij hj
 show Kr rk (mirror (arrOf st) lo (lo+n) ((lo+n - lo) / 2)) i<=Kr rk (mirror (arrOf st) lo (lo+n) ((lo+n - lo) / 2)) j
 rw [nG hsz,nG hsz,if_pos (by omega),if_pos (by omega)]
 exact hs _ _ (by omega) (by omega) (by omega)
theorem Eg {st:SortSt} {lo n nrem:Nat} {Q:DescSt->SortSt->Prop} (L:qg M A E s kd rk a₀) (hn:lo+nrem<=a₀.size) (h1:1<=n) (hnn:n<=nrem) (hB:SB a₀ kd st)
  (hs:Ed rk (arrOf st) lo (lo+n))
  (h:∀ m neq st',Nx a₀ kd rk lo st st'->n<=m->m<=nrem->Ed rk (arrOf st') lo (lo+m)->neq+1<=m->(∀ i,lo+m - (neq+1)<=i->i < lo+m->Kr rk (arrOf st') i=Kr rk (arrOf st') (lo+m - 1))->Q (none,m,neq) st'):
  wpS M A E s (BP lo n nrem) Q st:=by
 unfold BP
 refine wpS_forRange (I:=fun x c st'=>∃ neq,c=(none,x,neq)/\Nx a₀ kd rk lo st st'/\Ed rk (arrOf st') lo (lo+x)/\neq+1<=x/\
   (∀ i,lo+x - (neq+1)<=i->i < lo+x->Kr rk (arrOf st') i=Kr rk (arrOf st') (lo+x - 1))) ?step ?fin ⟨0,rfl,Nx.refl hB,hs,by omega,fun i h1 h2=>by congr 1;omega⟩
 case fin=>
  rintro c st' ⟨neq,rfl,hB',hs',hq,he⟩
  rw [show max n nrem=nrem by omega] at hs' hq he ⊢
  exact h nrem neq st' hB' hnn (Nat.le_refl _) hs' hq he
 case step=>
  rintro x c st' hax hxn ⟨neq,rfl,hB',hs',hq,he⟩
  dsimp only
  have hsz:lo+x<=(arrOf st').size:=by rw [hB'.sb.size];omega
  refine wpS_bind (qi L hB'.sb (by omega) (by omega) ?_)
  by_cases hless:Kr rk (arrOf st') (lo+x) < Kr rk (arrOf st') (lo+x - 1)
  ·simp only [hless,decide_true,if_true]
   have step1:∀ xs:Array Keyed,(∀ k,Kr rk xs k=Kr rk (arrOf st') k)->Ed rk xs lo (lo+(x+1)):=by
    intro xs hk i j hl hij hj
    rw [hk,hk]
    by_cases hjx:j < lo+x
    ·exact hs' i j hl hij hjx
    ·have hj':j=lo+x:=by omega
     subst hj'
     by_cases hi':i=lo+x
     ·subst hi';exact Int.le_refl _
     ·exact Int.le_trans (Int.le_of_lt hless) (hs' i (lo+x - 1) hl (by omega) (by omega))
   by_cases hneq:neq > 0
   ·rw [if_pos hneq]
    refine wpS_bind (sW (wpS_pure ⟨0,rfl,hB'.mir (by omega) (by omega),step1 _ (dR hsz he),by omega,fun i h1 h2=>by congr 1;omega⟩))
   ·rw [if_neg hneq]
    exact wpS_pure ⟨0,rfl,hB',step1 _ (fun _=>rfl),by omega,fun i h1 h2=>by congr 1;omega⟩
  ·simp only [hless,decide_false,Bool.false_eq_true,if_false]
   refine wpS_bind (qi L hB'.sb (by omega) (by omega) ?_)
   by_cases hlarger:Kr rk (arrOf st') (lo+x - 1) < Kr rk (arrOf st') (lo+x)
   ·simp only [hlarger,decide_true,if_true]
    exact wpS_pure (h x neq st' hB' hax (by omega) hs' hq he)
   ·simp only [hlarger,decide_false,Bool.false_eq_true,if_false]
    have heqx:Kr rk (arrOf st') (lo+x)=Kr rk (arrOf st') (lo+x - 1):=by omega
    refine wpS_pure ⟨neq+1,rfl,hB',fun i j hl hij hj=>?_,by omega,fun i h1 h2=>?_⟩
    ·by_cases hjx:j < lo+x
     ·exact hs' i j hl hij hjx
     ·have hj':j=lo+x:=by omega
      subst hj'
      by_cases hi':i=lo+x
      ·subst hi';exact Int.le_refl _
      ·rw [heqx];exact hs' i (lo+x - 1) hl (by omega) (by omega)
    ·rw [show lo+(x+1) - 1=lo+x by omega]
     by_cases hix:i=lo+x
     ·subst hix;rfl
     ·rw [heqx];exact he i (by omega) (by omega)
theorem uq {st:SortSt} {lo n nrem:Nat} {Q:Option Nat->SortSt->Prop} (L:qg M A E s kd rk a₀) (hn:lo+nrem<=a₀.size) (hnn:n+1<=nrem) (hB:SB a₀ kd st)
  (hs:Ed rk (arrOf st) lo (lo+(n+1))) (h:∀ m st',Nx a₀ kd rk lo st st'->1<=m->m<=nrem->Seg rk (arrOf st') lo (lo+m)->Q (some m) st'):
  wpS M A E s (um lo n nrem) Q st:=by
 unfold um
 refine wpS_bind (wpS_lift (wpAny_rule ⟨rfl,?_⟩))
 refine wpS_bind (Eg L hn (by omega) hnn hB hs fun m neq st' hB' hm1 hm2 hs' hq he=>?_)
 dsimp only
 have hsz:lo+m<=(arrOf st').size:=by rw [hB'.sb.size];omega
 by_cases hneq:neq > 0
 ·rw [if_pos hneq]
  have N2:=hB'.mir (i:=lo+m - (neq+1)) (j:=lo+m) (by omega) (by omega)
  refine wpS_bind (sW (uo L hn (by omega) hm2 N2.sb ?_ fun m' st2 N a b c=>h m' st2 (N2.trans N) a b c))
  intro i j hl hij hj
  show Kr rk (mirror (arrOf st') _ _ _) j<=Kr rk (mirror (arrOf st') _ _ _) i
  rw [dR hsz he,dR hsz he]
  exact hs' i j hl hij hj
 ·rw [if_neg hneq]
  exact uo L hn (by omega) hm2 hB'.sb hs' fun m' st2 N a b c=>h m' st2 (hB'.trans N) a b c
theorem zW {st:SortSt} {lo nrem:Nat} {Q:Option Nat->SortSt->Prop} (L:qg M A E s kd rk a₀) (hn:lo+nrem<=a₀.size) (h1:1<=nrem) (hB:SB a₀ kd st)
  (h:∀ m st',Nx a₀ kd rk lo st st'->1<=m->m<=nrem->Seg rk (arrOf st') lo (lo+m)->Q (some m) st'):
  wpS M A E s (countRun' lo nrem) Q st:=by
 rw [Ef]
 have one:∀ xs:Array Keyed,Seg rk xs lo (lo+1):=fun xs i j hl hij hj=>by
  have:i=j:=by omega
  subst this;exact Int.le_refl _
 refine wpS_bind (yd L hn (Nat.le_refl 1) h1 hB (one _) fun n hn1 hn2 hsn hor=>?_)
 dsimp only
 by_cases hnn:n=nrem
 ·rw [if_pos (by simpa using hnn)]
  exact wpS_pure (h n st (Nx.refl hB) hn1 hn2 hsn)
 ·rw [if_neg (by simpa using hnn)]
  have hlt:Kr rk (arrOf st) (lo+n) < Kr rk (arrOf st) (lo+n - 1):=hor.resolve_left hnn
  by_cases hgt:n > 1
  ·rw [if_pos hgt]
   refine wpS_bind (qi L hB (by omega) (by omega) ?_)
   by_cases hrose:Kr rk (arrOf st) lo < Kr rk (arrOf st) (lo+n - 1)
   ·simp only [hrose,decide_true,if_true]
    exact wpS_pure (h n st (Nx.refl hB) hn1 hn2 hsn)
   ·simp only [hrose,decide_false,Bool.false_eq_true,if_false]
    have hsz:lo+n<=(arrOf st).size:=by rw [hB.size];omega
    have hall:∀ k,lo<=k->k < lo+n->Kr rk (arrOf st) k=Kr rk (arrOf st) (lo+n - 1):=by
     intro k h0 hk
     have a1:=hsn lo k (by omega) h0 hk
     have a2:=hsn k (lo+n - 1) h0 (by omega) (by omega)
     omega
    have N2:=(Nx.refl (rk:=rk) (lo:=lo) hB).mir (i:=lo) (j:=lo+n) (by omega) (by omega)
    refine wpS_bind (sW (uq L hn (by omega) N2.sb ?_ fun m' st2 N a b c=>h m' st2 (N2.trans N) a b c))
    intro i j hl hij hj
    show Kr rk (mirror (arrOf st) _ _ _) j<=Kr rk (mirror (arrOf st) _ _ _) i
    rw [dR hsz hall,dR hsz hall]
    by_cases hjn:j < lo+n
    ·rw [hall i hl (by omega),hall j (by omega) hjn];exact Int.le_refl _
    ·have hj':j=lo+n:=by omega
     subst hj'
     by_cases hi':i=lo+n
     ·subst hi';exact Int.le_refl _
     ·rw [hall i hl (by omega)];exact Int.le_of_lt hlt
  ·rw [if_neg hgt]
   have hn1':n=1:=by omega
   subst hn1'
   refine uq L hn (by omega) hB ?_ h
   intro i j hl hij hj
   by_cases hi':i=j
   ·subst hi';exact Int.le_refl _
   ·have hi0:i=lo:=by omega
    have hj1:j=lo+1:=by omega
    subst hi0;subst hj1
    exact Int.le_of_lt hlt
theorem HW {st:SortSt} {lo n ok:Nat} {Q:Bool->SortSt->Prop} (L:qg M A E s kd rk a₀) (hn:lo+n<=a₀.size) (hok:ok<=n) (hB:SB a₀ kd st) (hs:Seg rk (arrOf st) lo (lo+ok))
  (h:∀ st',Nx a₀ kd rk lo st st'->Seg rk (arrOf st') lo (lo+n)->Q true st'):wpS M A E s (binarySort' lo n ok) Q st:=by
 rw [binarySort'_eq]
 refine wpS_bind (wpS_mono (wpS_forRange (I:=fun k c st'=>c=(none,())/\Nx a₀ kd rk lo st st'/\Seg rk (arrOf st') lo (lo+min k n))
  (Q:=fun c st'=>c=(none,())/\Nx a₀ kd rk lo st st'/\Seg rk (arrOf st') lo (lo+n)) ?step ?fin ?init) ?post)
 case post=>
  rintro c st' ⟨rfl,hB',hs'⟩
  exact wpS_pure (h st' hB' hs')
 case init=>
  refine ⟨rfl,Nx.refl hB,fun i j hl hij hj=>?_⟩
  by_cases h1:ok=0
  ·have:i=j:=by omega
   subst this;exact Int.le_refl _
  ·exact hs i j hl hij (by omega)
 case fin=>
  rintro c st' ⟨hc,hB',hs'⟩
  refine ⟨hc,hB',?_⟩
  rwa [show min (max (max ok 1) n) n=n by omega] at hs'
 case step=>
  rintro k c st' hak hkn ⟨rfl,hB',hs'⟩
  rw [show min k n=k by omega] at hs'
  have hk:lo+k < a₀.size:=by omega
  refine wpS_bind (wpS_mono (wpS_forRange (I:=fun x c st''=>st''=st'/\∃ l r,c=(none,l,r)/\l<=r/\r<=k/\r - l<=k - x/\
    (∀ i,i < l->Kr rk (arrOf st') (lo+i)<=Kr rk (arrOf st') (lo+k))/\(∀ i,r<=i->i < k->Kr rk (arrOf st') (lo+k) < Kr rk (arrOf st') (lo+i)))
   (Q:=fun c st''=>st''=st'/\∃ l r,c=(none,l,r)/\l<=k/\
    (∀ i,i < l->Kr rk (arrOf st') (lo+i)<=Kr rk (arrOf st') (lo+k))/\(∀ i,l<=i->i < k->Kr rk (arrOf st') (lo+k) < Kr rk (arrOf st') (lo+i))) ?istep ?ifin ?iinit) ?ipost)
  case iinit=>exact ⟨rfl,0,k,rfl,by omega,by omega,by omega,fun i hi=>by omega,fun i h1 h2=>by omega⟩
  case ifin=>
   rintro c st'' ⟨rfl,l,r,rfl,hlr,hrk,hm,hlo,hhi⟩
   have:l=r:=by omega
   subst this
   exact ⟨rfl,l,l,rfl,hrk,hlo,hhi⟩
  case istep=>
   rintro x c st'' _ hxk ⟨rfl,l,r,rfl,hlr,hrk,hm,hlo,hhi⟩
   dsimp only
   by_cases hge:l>=r
   ·rw [if_pos hge]
    have:l=r:=by omega
    subst this
    exact wpS_pure ⟨rfl,l,l,rfl,hrk,hlo,hhi⟩
   ·rw [if_neg hge]
    refine wpS_bind (qi L hB'.sb hk (by omega) ?_)
    by_cases hless:Kr rk (arrOf st'') (lo+k) < Kr rk (arrOf st'') (lo+(l+r) / 2)
    ·simp only [hless,decide_true,if_true]
     refine wpS_pure ⟨rfl,l,(l+r) / 2,rfl,by omega,by omega,by omega,hlo,fun i h1 h2=>?_⟩
     exact Int.lt_of_lt_of_le hless (hs' _ _ (by omega) (by omega) (by omega))
    ·simp only [hless,decide_false,Bool.false_eq_true,if_false]
     refine wpS_pure ⟨rfl,(l+r) / 2+1,r,rfl,by omega,by omega,by omega,fun i h1=>?_,hhi⟩
     exact Int.le_trans (hs' (lo+i) (lo+(l+r) / 2) (by omega) (by omega) (by omega)) (Int.not_lt.mp hless)
  case ipost=>
   rintro c st'' ⟨rfl,l,r,rfl,hlk,hlo,hhi⟩
   show wpS _ _ _ _ (do moveDown' (lo+k) (lo+l);pure (ForInStep.yield (none,()))) _ _
   rw [moveDown'_eq]
   refine wpS_bind (wpS_modify (wpS_pure ⟨rfl,hB'.bub hk (by omega) (by omega),?_⟩))
   rw [show min (k+1) n=k+1 by omega]
   have hks:lo+k < (arrOf st'').size:=by rw [hB'.sb.size];exact hk
   intro i j hl hij hj
   obtain ⟨i,rfl⟩:∃ i',i=lo+i':=⟨i - lo,by omega⟩
   obtain ⟨j,rfl⟩:∃ j',j=lo+j':=⟨j - lo,by omega⟩
   show Kr rk (bubble (arrOf st'') (lo+k) (lo+k - (lo+l))) (lo+i)<=Kr rk (bubble (arrOf st'') (lo+k) (lo+k - (lo+l))) (lo+j)
   rw [qT hks (by omega),qT hks (by omega),show lo+k - (lo+k - (lo+l))=lo+l by omega]
   repeat' split
   all_goals first
    | (exfalso;omega)
    | exact Int.le_refl _
    | exact hlo _ (by omega)
    | exact Int.le_of_lt (by rw [show lo+j - 1=lo+(j - 1) by omega];exact hhi _ (by omega) (by omega))
    | exact hs' _ _ (by omega) (by omega) (by omega)
end
def Lp:Bool->Keyed->Array Keyed->Nat->Nat->Nat->StateT SortSt Sem (Option Nat):=sortPriv% PySem.Builtin.gallop
def Uu (left:Bool) (key:Keyed) (arr:Array Keyed) (base i:Nat):StateT SortSt Sem (Option Bool):=do
  let x ← elem' arr (base+i)
  if left then lt' x key else return (← lt' key x).map (!·)
section
variable {M:Model} {A:Around} {E:Value->Shared->Prop} {s:Shared} {kd:SortKind} {rk:Keyed->Int} {a₀:Array Keyed}
def Eh (left:Bool) (key:Keyed) (arr:Array Keyed) (base n lo hi:Nat):StateT SortSt Sem (Option Nat):=do
 let __s ← forIn [:n] ((none,lo,hi):Option (Option Nat)×Nat×Nat) fun x __s=>
   if __s.snd.fst>=__s.snd.snd then pure (ForInStep.done (none,__s.snd.fst,__s.snd.snd))
   else do
    let __x ← Uu left key arr base (__s.snd.fst+(__s.snd.snd - __s.snd.fst) / 2)
    match __x with
     | some more=>
      if more=true then
       pure (ForInStep.yield (none,__s.snd.fst+(__s.snd.snd - __s.snd.fst) / 2+1,__s.snd.snd))
      else pure (ForInStep.yield (none,__s.snd.fst,__s.snd.fst+(__s.snd.snd - __s.snd.fst) / 2))
     | x=>pure (ForInStep.done (some none,__s.snd.fst,__s.snd.snd))
 match __s.fst with
  | some r=>pure r
  | none=>pure (some __s.snd.snd)
theorem ye {left:Bool} {key:Keyed} {arr:Array Keyed} {base n lo hi:Nat} {st:SortSt} {Q:Option Nat->SortSt->Prop} (P:Nat->Bool)
  (hP:∀ i (R:Option Bool->SortSt->Prop),i < n->R (some (P i)) st->wpS M A E s (Uu left key arr base i) R st) (hm:∀ i j,i<=j->j < n->P j=true->P i=true)
  (h1:lo<=hi) (h2:hi<=n) (hlo:∀ i,i < lo->P i=true) (hhi:∀ i,hi<=i->i < n->P i=false)
  (h:∀ k,k<=n->(∀ i,i < k->P i=true)->(∀ i,k<=i->i < n->P i=false)->Q (some k) st):wpS M A E s (Eh left key arr base n lo hi) Q st:=by
 unfold Eh
 refine wpS_bind (wpS_mono (wpS_forRange (I:=fun x c st'=>st'=st/\∃ l r,c=(none,l,r)/\l<=r/\r<=n/\r - l<=n - x/\(∀ i,i < l->P i=true)/\(∀ i,r<=i->i < n->P i=false))
   (Q:=fun c st'=>st'=st/\∃ l,c=(none,l,l)/\l<=n/\(∀ i,i < l->P i=true)/\(∀ i,l<=i->i < n->P i=false)) ?step ?fin ⟨rfl,lo,hi,rfl,h1,h2,by omega,hlo,hhi⟩) ?post)
 case fin=>
  rintro c st' ⟨rfl,l,r,rfl,a,b,d,e,f⟩
  obtain rfl:l=r:=by omega
  exact ⟨rfl,l,rfl,b,e,f⟩
 case post=>
  rintro c st' ⟨rfl,l,rfl,b,e,f⟩
  exact wpS_pure (h l b e f)
 case step=>
  rintro x c st' _ hx ⟨rfl,l,r,rfl,a,b,d,e,f⟩
  dsimp only
  by_cases hge:l>=r
  ·rw [if_pos hge]
   obtain rfl:l=r:=by omega
   exact wpS_pure ⟨rfl,l,rfl,b,e,f⟩
  ·rw [if_neg hge]
   refine wpS_bind (hP _ _ (by omega) ?_)
   dsimp only
   by_cases hb:P (l+(r - l) / 2)=true
   ·rw [if_pos hb]
    exact wpS_pure ⟨rfl,_,_,rfl,by omega,b,by omega,fun i hi=>hm i _ (by omega) (by omega) hb,f⟩
   ·rw [if_neg hb]
    refine wpS_pure ⟨rfl,_,_,rfl,by omega,by omega,by omega,e,fun i h3 h4=>?_⟩
    cases hq:P i with
    | false=>rfl
    | true=>exact absurd (hm _ _ h3 h4 hq) hb
theorem fc {left:Bool} {key:Keyed} {arr:Array Keyed} {base n hint:Nat} {st:SortSt} {Q:Option Nat->SortSt->Prop} (P:Nat->Bool) (hh:hint < n)
  (hP:∀ i (R:Option Bool->SortSt->Prop),i < n->R (some (P i)) st->wpS M A E s (Uu left key arr base i) R st) (hm:∀ i j,i<=j->j < n->P j=true->P i=true)
  (h:∀ k,k<=n->(∀ i,i < k->P i=true)->(∀ i,k<=i->i < n->P i=false)->Q (some k) st):wpS M A E s (Lp left key arr base n hint) Q st:=by
 refine wpS_bind (m:=Uu left key arr base hint) (hP hint _ hh ?_)
 dsimp only
 by_cases hr:P hint=true
 ·rw [if_pos hr]
  refine wpS_bind (wpS_mono (wpS_forRange (I:=fun x c st'=>st'=st/\∃ la of,c=(none,la,of)/\la < of/\hint+la < n/\P (hint+la)=true/\x+1<=of)
    (Q:=fun c st'=>st'=st/\∃ la of,c=(none,la,of)/\la < of/\hint+la < n/\P (hint+la)=true/\(n - hint<=of\/(hint+of < n/\P (hint+of)=false))) ?step ?fin ⟨rfl,0,1,rfl,by omega,by omega,hr,by omega⟩) ?post)
  case fin=>
   rintro c st' ⟨rfl,la,of,rfl,a,b,d,e⟩
   exact ⟨rfl,la,of,rfl,a,b,d,.inl (by omega)⟩
  case step=>
   rintro x c st' _ hx ⟨rfl,la,of,rfl,a,b,d,e⟩
   dsimp only
   by_cases hge:of>=n - hint
   ·rw [if_pos hge]
    exact wpS_pure ⟨rfl,la,of,rfl,a,b,d,.inl hge⟩
   ·rw [if_neg hge]
    refine wpS_bind (hP _ _ (by omega) ?_)
    dsimp only
    cases hq:P (hint+of) with
    | false=>
     rw [if_pos (by decide)]
     exact wpS_pure ⟨rfl,la,of,rfl,a,b,d,.inr ⟨by omega,hq⟩⟩
    | true=>
     rw [if_neg (by decide)]
     exact wpS_pure ⟨rfl,of,2*of+1,rfl,by omega,by omega,hq,by omega⟩
  case post=>
   rintro c st' ⟨rfl,la,of,rfl,a,b,d,e⟩
   dsimp only
   refine Eq.mpr (congrArg (fun m=>wpS M A E s m Q st') (?eq:_=Eh left key arr base n (hint+la+1) (hint+min of (n - hint)))) ?_
   case eq=>
    unfold Eh
    congr 1
    funext c
    obtain ⟨r,l,h⟩:=c
    cases r <;> rfl
   refine ye P hP hm (by omega) (by omega) (fun i hi=>hm i _ (by omega) b d) (fun i h3 h4=>?_) h
   rcases e with e | ⟨e1,e2⟩
   ·omega
   ·cases hq:P i with
    | false=>rfl
    | true=>
     have:=hm (hint+of) i (by omega) h4 hq
     rw [this] at e2;cases e2
 ·rw [if_neg hr]
  have hr':P hint=false:=by simpa using hr
  refine wpS_bind (wpS_mono (wpS_forRange (I:=fun x c st'=>st'=st/\∃ la of,c=(none,la,of)/\la < of/\la<=hint/\P (hint - la)=false/\x+1<=of)
    (Q:=fun c st'=>st'=st/\∃ la of,c=(none,la,of)/\la < of/\la<=hint/\P (hint - la)=false/\(hint+1<=of\/(of<=hint/\P (hint - of)=true))) ?step2 ?fin2 ⟨rfl,0,1,rfl,by omega,by omega,hr',by omega⟩) ?post2)
  case fin2=>
   rintro c st' ⟨rfl,la,of,rfl,a,b,d,e⟩
   exact ⟨rfl,la,of,rfl,a,b,d,.inl (by omega)⟩
  case step2=>
   rintro x c st' _ hx ⟨rfl,la,of,rfl,a,b,d,e⟩
   dsimp only
   by_cases hge:of>=hint+1
   ·rw [if_pos hge]
    exact wpS_pure ⟨rfl,la,of,rfl,a,b,d,.inl hge⟩
   ·rw [if_neg hge]
    refine wpS_bind (hP _ _ (by omega) ?_)
    dsimp only
    by_cases hq:P (hint - of)=true
    ·rw [if_pos hq]
     exact wpS_pure ⟨rfl,la,of,rfl,a,b,d,.inr ⟨by omega,hq⟩⟩
    ·rw [if_neg hq]
     exact wpS_pure ⟨rfl,of,2*of+1,rfl,by omega,by omega,by simpa using hq,by omega⟩
  case post2=>
   rintro c st' ⟨rfl,la,of,rfl,a,b,d,e⟩
   dsimp only
   refine Eq.mpr (congrArg (fun m=>wpS M A E s m Q st') (?eq:_=Eh left key arr base n (hint+1 - min of (hint+1)) (hint - la))) ?_
   case eq=>
    unfold Eh
    congr 1
    funext c
    obtain ⟨r,l,h⟩:=c
    cases r <;> rfl
   refine ye P hP hm (by omega) (by omega) (fun i hi=>?_) (fun i h3 h4=>?_) h
   ·rcases e with e | ⟨e1,e2⟩
    ·omega
    ·exact hm i _ (by omega) (by omega) e2
   ·cases hq:P i with
    | false=>rfl
    | true=>
     have:=hm (hint - la) i (by omega) h4 hq
     rw [this] at d;cases d
theorem j6 {left:Bool} {key:Keyed} {arr:Array Keyed} {base i:Nat} {st:SortSt} {R:Option Bool->SortSt->Prop} (L:qg M A E s kd rk a₀) (hk:key∈a₀.toList) (ha:∀ p∈arr.toList,p∈a₀.toList) (hi:base+i < arr.size) (kind:kindOf st=kd)
  (h:R (some (if left=true then decide (Kr rk arr (base+i) < rk key) else decide (Kr rk arr (base+i)<=rk key))) st):wpS M A E s (Uu left key arr base i) R st:=by
 unfold Uu
 have e:arr[base+i]?=some arr[base+i]:=getElem?_pos arr (base+i) hi
 have hm:arr[base+i]∈a₀.toList:=ha _ (by simp)
 rw [cD e] at h
 refine wpS_bind (aM (U:=Unit) e ?_)
 cases left with
 | true=>
  simp only [if_true] at h ⊢
  exact L _ _ st R hm hk kind h
 | false=>
  simp only [Bool.false_eq_true,if_false] at h ⊢
  refine wpS_bind (L _ _ st _ hk hm kind (wpS_pure ?_))
  have:(some (decide (rk key < rk arr[base+i]))).map (fun x=>!x)=some (decide (rk arr[base+i]<=rk key)):=by
   show some (!decide (rk key < rk arr[base+i]))=_
   congr 1
   rw [← decide_not]
   exact decide_eq_decide.mpr (by omega)
  rw [this];exact h
end
def Pg:Nat->StateT SortSt Sem Unit:=sortPriv% PySem.Builtin.setMinGallop
theorem HX (g:Nat):Pg g=modify fun s=>SortSt.mk' (kindOf s) (arrOf s) (pendingOf s) g (failedOf s):=rfl
def HY:Array Keyed->Array Keyed->StateT SortSt Sem (Array Keyed):=sortPriv% PySem.Builtin.mergeLo
def Ia:Array Keyed->Array Keyed->StateT SortSt Sem (Array Keyed):=sortPriv% PySem.Builtin.mergeHi
section
variable {M:Model} {A:Around} {E:Value->Shared->Prop} {s:Shared} {kd:SortKind} {rk:Keyed->Int} {a₀:Array Keyed}
abbrev nH (rk:Keyed->Int) (l:List Keyed):Prop:=l.Pairwise fun p q=>rk p<=rk q
structure Sm (st st':SortSt):Prop where
 arr:arrOf st'=arrOf st
 kind:kindOf st'=kindOf st
 failed:failedOf st'=failedOf st
 pend:pendingOf st'=pendingOf st
theorem Sm.refl (st:SortSt):Sm st st:=⟨rfl,rfl,rfl,rfl⟩
theorem Sm.trans {a b c:SortSt} (h:Sm a b) (h':Sm b c):Sm a c:=⟨h'.arr.trans h.arr,h'.kind.trans h.kind,h'.failed.trans h.failed,h'.pend.trans h.pend⟩
theorem qj {st st0:SortSt} {g:Nat} {Q:Unit->SortSt->Prop} (h0:Sm st0 st) (h:∀ st',Sm st0 st'->Q () st'):wpS M A E s (Pg g) Q st:=by
 rw [HX]
 exact wpS_modify (h _ (h0.trans ⟨rfl,rfl,rfl,rfl⟩))
structure MI (rk:Keyed->Int) (a b out:Array Keyed) (ia ib:Nat):Prop where
 ha:ia<=a.size
 hb:ib<=b.size
 so:nH rk out.toList
 le:∀ p∈out.toList,∀ q∈a.toList.drop ia ++ b.toList.drop ib,rk p<=rk q
 pm:(out.toList ++ (a.toList.drop ia ++ b.toList.drop ib)).Perm (a.toList ++ b.toList)
def Res (rk:Keyed->Int) (a b r:Array Keyed):Prop:=nH rk r.toList/\r.toList.Perm (a.toList ++ b.toList)
theorem lN {α:Type} (l:List α) (i k:Nat):l.drop i=(l.drop i).take k ++ l.drop (i+k):=by
 have e:l.drop (i+k)=(l.drop i).drop k:=by rw [List.drop_drop]
 rw [e,List.take_append_drop]
theorem ext_toList (a:Array Keyed) (i k:Nat):(a.extract i (i+k)).toList=(a.toList.drop i).take k:=by
 rw [Array.toList_extract,List.extract_eq_drop_take]
 congr 1
 omega
theorem MI.takeA {a b out:Array Keyed} {ia ib:Nat} (h:MI rk a b out ia ib) (Sa:nH rk a.toList) (k:Nat) (hk:ia+k<=a.size) (hc:∀ p∈(a.toList.drop ia).take k,∀ q∈b.toList.drop ib,rk p<=rk q):MI rk a b (out ++ a.extract ia (ia+k)) (ia+k) ib:=by
 have e:=lN a.toList ia k
 have Sd:nH rk (a.toList.drop ia):=Sa.sublist (List.drop_sublist _ _)
 rw [e] at Sd
 obtain ⟨s1,s2,s3⟩:=List.pairwise_append.mp Sd
 have tl:(out ++ a.extract ia (ia+k)).toList=out.toList ++ (a.toList.drop ia).take k:=by rw [Array.toList_append,ext_toList]
 refine ⟨hk,h.hb,?_,?_,?_⟩
 ·rw [tl]
  exact List.pairwise_append.mpr ⟨h.so,s1,fun p hp q hq=>h.le p hp q (List.mem_append_left _ (List.mem_of_mem_take hq))⟩
 ·rw [tl]
  intro p hp q hq
  rcases List.mem_append.mp hp with hp | hp
  ·refine h.le p hp q ?_
   rcases List.mem_append.mp hq with hq | hq
   ·exact List.mem_append_left _ (by rw [e];exact List.mem_append_right _ hq)
   ·exact List.mem_append_right _ hq
  ·rcases List.mem_append.mp hq with hq | hq
   ·exact s3 p hp q hq
   ·exact hc p hp q hq
 ·rw [tl]
  refine List.Perm.trans (List.Perm.of_eq ?_) h.pm
  conv=>rhs;rw [e]
  simp only [List.append_assoc]
theorem MI.takeB {a b out:Array Keyed} {ia ib:Nat} (h:MI rk a b out ia ib) (Sb:nH rk b.toList) (k:Nat) (hk:ib+k<=b.size) (hc:∀ p∈(b.toList.drop ib).take k,∀ q∈a.toList.drop ia,rk p<=rk q):MI rk a b (out ++ b.extract ib (ib+k)) ia (ib+k):=by
 have e:=lN b.toList ib k
 have Sd:nH rk (b.toList.drop ib):=Sb.sublist (List.drop_sublist _ _)
 rw [e] at Sd
 obtain ⟨s1,s2,s3⟩:=List.pairwise_append.mp Sd
 have tl:(out ++ b.extract ib (ib+k)).toList=out.toList ++ (b.toList.drop ib).take k:=by rw [Array.toList_append,ext_toList]
 refine ⟨h.ha,hk,?_,?_,?_⟩
 ·rw [tl]
  exact List.pairwise_append.mpr ⟨h.so,s1,fun p hp q hq=>h.le p hp q (List.mem_append_right _ (List.mem_of_mem_take hq))⟩
 ·rw [tl]
  intro p hp q hq
  rcases List.mem_append.mp hp with hp | hp
  ·refine h.le p hp q ?_
   rcases List.mem_append.mp hq with hq | hq
   ·exact List.mem_append_left _ hq
   ·exact List.mem_append_right _ (by rw [e];exact List.mem_append_right _ hq)
  ·rcases List.mem_append.mp hq with hq | hq
   ·exact hc p hp q hq
   ·exact s3 p hp q hq
 ·rw [tl]
  refine List.Perm.trans ?_ h.pm
  conv=>rhs;rw [e]
  rw [List.append_assoc]
  refine List.Perm.append_left _ ?_
  rw [← List.append_assoc,← List.append_assoc]
  exact List.Perm.append_right _ List.perm_append_comm
theorem ur {out a:Array Keyed} {i:Nat} {p:Keyed} (h:a[i]?=some p):out.push p=out ++ a.extract i (i+1):=by
 apply Array.ext'
 rw [Array.toList_append,ext_toList,Array.toList_push]
 congr 1
 obtain ⟨hi,e⟩:=Array.getElem?_eq_some_iff.mp h
 rw [List.drop_eq_getElem_cons (by simpa using hi)]
 simp [e]
theorem take1 {a:Array Keyed} {i:Nat} {p q:Keyed} (h:a[i]?=some p) (hq:q∈(a.toList.drop i).take 1):q=p:=by
 obtain ⟨hi,e⟩:=Array.getElem?_eq_some_iff.mp h
 rw [List.drop_eq_getElem_cons (by simpa using hi)] at hq
 simpa [e] using hq
theorem iw {a:Array Keyed} {i:Nat} {p q:Keyed} (Sa:nH rk a.toList) (h:a[i]?=some p) (hq:q∈a.toList.drop i):rk p<=rk q:=by
 obtain ⟨hi,e⟩:=Array.getElem?_eq_some_iff.mp h
 have Sd:nH rk (a.toList.drop i):=Sa.sublist (List.drop_sublist _ _)
 rw [List.drop_eq_getElem_cons (by simpa using hi)] at Sd hq
 rcases List.mem_cons.mp hq with rfl | hq
 ·simp [e]
 ·have:=(List.pairwise_cons.mp Sd).1 q hq
  simpa [e] using this
theorem wC {a:Array Keyed} {i:Nat} {q:Keyed} (hq:q∈a.toList.drop i):∃ j,i<=j/\j < a.size/\a[j]?=some q:=by
 obtain ⟨k,hk,e⟩:=List.mem_iff_getElem.mp hq
 have hk':i+k < a.size:=by simp at hk;omega
 refine ⟨i+k,by omega,hk',?_⟩
 rw [getElem?_pos a (i+k) hk',← e]
 simp
theorem sX {a:Array Keyed} {i k:Nat} {q:Keyed} (hq:q∈(a.toList.drop i).take k):∃ j,j < k/\a[i+j]?=some q:=by
 obtain ⟨j,hj,e⟩:=List.mem_iff_getElem.mp hq
 have hj':j < k/\i+j < a.size:=by simp at hj;omega
 refine ⟨j,hj'.1,?_⟩
 rw [getElem?_pos a (i+j) hj'.2,← e]
 simp
theorem MI.pushA {a b out:Array Keyed} {ia ib:Nat} {p:Keyed} (h:MI rk a b out ia ib) (Sa:nH rk a.toList) (e:a[ia]?=some p) (hc:∀ q∈b.toList.drop ib,rk p<=rk q):MI rk a b (out.push p) (ia+1) ib:=by
 rw [ur e]
 exact h.takeA Sa 1 (by have:=(Array.getElem?_eq_some_iff.mp e).1;omega) fun q hq r hr=>by rw [take1 e hq];exact hc r hr
theorem MI.pushB {a b out:Array Keyed} {ia ib:Nat} {p:Keyed} (h:MI rk a b out ia ib) (Sb:nH rk b.toList) (e:b[ib]?=some p) (hc:∀ q∈a.toList.drop ia,rk p<=rk q):MI rk a b (out.push p) ia (ib+1):=by
 rw [ur e]
 exact h.takeB Sb 1 (by have:=(Array.getElem?_eq_some_iff.mp e).1;omega) fun q hq r hr=>by rw [take1 e hq];exact hc r hr
theorem nJ (a:Array Keyed) (i:Nat):(a.extract i a.size).toList=a.toList.drop i:=by
 rw [Array.toList_extract,List.extract_eq_drop_take,List.take_of_length_le (by simp)]
theorem MI.doneB {a b out:Array Keyed} {ia ib:Nat} (h:MI rk a b out ia ib) (Sa:nH rk a.toList) (e:ib=b.size):Res rk a b (out ++ a.extract ia a.size ++ b.extract ib b.size):=by
 have hd:b.toList.drop ib=[]:=List.drop_eq_nil_of_le (by simp [e])
 unfold Res
 rw [Array.toList_append,Array.toList_append,nJ,nJ,hd,List.append_nil]
 have hp:=h.pm
 rw [hd,List.append_nil] at hp
 exact ⟨List.pairwise_append.mpr ⟨h.so,Sa.sublist (List.drop_sublist _ _),fun p hp q hq=>h.le p hp q (List.mem_append_left _ hq)⟩,hp⟩
theorem MI.doneA {a b out:Array Keyed} {ia ib:Nat} (h:MI rk a b out ia ib) (Sb:nH rk b.toList) (e:ia=a.size):Res rk a b (out ++ a.extract ia a.size ++ b.extract ib b.size):=by
 have hd:a.toList.drop ia=[]:=List.drop_eq_nil_of_le (by simp [e])
 unfold Res
 rw [Array.toList_append,Array.toList_append,nJ,nJ,hd,List.append_nil]
 have hp:=h.pm
 rw [hd,List.nil_append] at hp
 exact ⟨List.pairwise_append.mpr ⟨h.so,Sb.sublist (List.drop_sublist _ _),fun p hp q hq=>h.le p hp q (List.mem_append_right _ hq)⟩,hp⟩
theorem MI.lastA {a b out:Array Keyed} {ia ib:Nat} (h:MI rk a b out ia ib) (Sb:nH rk b.toList) (e:ia+1=a.size) (hl:∀ p,a[a.size - 1]?=some p->∀ q∈b.toList,rk q<=rk p):Res rk a b (out ++ b.extract ib b.size ++ a.extract ia a.size):=by
 unfold Res
 rw [Array.toList_append,Array.toList_append,nJ,nJ]
 have hi:ia < a.size:=by omega
 have ea:a.toList.drop ia=[a[ia]]:=by
  rw [List.drop_eq_getElem_cons (by simpa using hi),List.drop_eq_nil_of_le (by simp;omega)]
  simp
 refine ⟨?_,?_⟩
 ·refine List.pairwise_append.mpr ⟨List.pairwise_append.mpr ⟨h.so,Sb.sublist (List.drop_sublist _ _),fun p hp q hq=>h.le p hp q (List.mem_append_right _ hq)⟩,by rw [ea];exact List.pairwise_singleton _ _,fun p hp q hq=>?_⟩
  rcases List.mem_append.mp hp with hp | hp
  ·exact h.le p hp q (List.mem_append_left _ hq)
  ·rw [ea] at hq
   rw [List.mem_singleton.mp hq]
   refine hl _ ?_ p (List.mem_of_mem_drop hp)
   rw [show a.size - 1=ia by omega];exact getElem?_pos a ia hi
 ·refine List.Perm.trans ?_ h.pm
  rw [List.append_assoc]
  exact List.Perm.append_left _ List.perm_append_comm
end
end L2
set_option maxHeartbeats 8000000
namespace L2
open PySem PySem.Spec PyProof.Rows
section
variable {M:Model} {A:Around} {E:Value->Shared->Prop} {s:Shared} {kd:SortKind} {rk:Keyed->Int} {a₀:Array Keyed}
theorem aJ {U α:Type} {c:Prop} [Decidable c] {x y:StateT U Sem α} {Q:α->U->Prop} {st:U} (h1:c->wpS M A E s x Q st) (h2:¬ c->wpS M A E s y Q st):wpS M A E s (if c then x else y) Q st:=by
 split
 ·exact h1 ‹_›
 ·exact h2 ‹_›
def Go (rk:Keyed->Int) (a b:Array Keyed) (n:Nat) (r:Option (Array Keyed)) (out:Array Keyed) (ia ib:Nat):Prop:=(∃ x,r=some x/\Res rk a b x)\/(r=none/\MI rk a b out ia ib/\ib < b.size/\ia+1 < a.size/\n<=ia+ib)
theorem yf {a b:Array Keyed} {st:SortSt} {Q:Array Keyed->SortSt->Prop} (L:qg M A E s kd rk a₀) (ha:∀ p∈a.toList,p∈a₀.toList) (hb:∀ p∈b.toList,p∈a₀.toList) (Sa:nH rk a.toList) (Sb:nH rk b.toList)
  (n1:1<=a.size) (n2:1<=b.size) (hf:∀ p,b[0]?=some p->∀ q∈a.toList,rk p<=rk q) (hl:∀ p,a[a.size - 1]?=some p->∀ q∈b.toList,rk q<=rk p) (kind:kindOf st=kd)
  (h:∀ r st',Sm st st'->Res rk a b r->Q r st'):wpS M A E s (HY a b) Q st:=by
 have atA:∀ {i:Nat},i < a.size->∃ p,a[i]?=some p/\p∈a₀.toList:=fun {i} hi=>⟨a[i],getElem?_pos a i hi,ha _ (by simp)⟩
 have atB:∀ {i:Nat},i < b.size->∃ p,b[i]?=some p/\p∈a₀.toList:=fun {i} hi=>⟨b[i],getElem?_pos b i hi,hb _ (by simp)⟩
 have KA:∀ {i:Nat} {p:Keyed},a[i]?=some p->Kr rk a i=rk p:=fun e=>cD e
 have SKa:∀ i j,i<=j->j < a.size->Kr rk a i<=Kr rk a j:=fun i j hij hj=>by
  obtain ⟨p,ep,_⟩:=atA (show i < a.size by omega)
  obtain ⟨q,eq,_⟩:=atA hj
  rw [cD ep,cD eq]
  refine iw Sa ep ?_
  obtain ⟨hq,e⟩:=Array.getElem?_eq_some_iff.mp eq
  rw [← e]
  exact List.mem_iff_getElem.mpr ⟨j - i,by simp;omega,by simp [show i+(j - i)=j by omega]⟩
 have SKb:∀ i j,i<=j->j < b.size->Kr rk b i<=Kr rk b j:=fun i j hij hj=>by
  obtain ⟨p,ep,_⟩:=atB (show i < b.size by omega)
  obtain ⟨q,eq,_⟩:=atB hj
  rw [cD ep,cD eq]
  refine iw Sb ep ?_
  obtain ⟨hq,e⟩:=Array.getElem?_eq_some_iff.mp eq
  rw [← e]
  exact List.mem_iff_getElem.mpr ⟨j - i,by simp;omega,by simp [show i+(j - i)=j by omega]⟩
 refine wpS_bind (wpS_lift (wpAny_rule ⟨rfl,?_⟩))
 dsimp only
 obtain ⟨p0,e0,m0⟩:=atB (i:=0) (by omega)
 refine wpS_bind (aM (U:=Unit) e0 ?_)
 have I0:MI rk a b #[p0] 0 1:=by
  have eb:b.toList=p0 :: b.toList.drop 1:=by
   obtain ⟨hi,e⟩:=Array.getElem?_eq_some_iff.mp e0
   have:=List.drop_eq_getElem_cons (l:=b.toList) (i:=0) (by simpa using hi)
   rw [List.drop_zero] at this
   conv=>lhs;rw [this]
   simp [e]
  refine ⟨by omega,by omega,List.pairwise_singleton _ _,fun p hp q hq=>?_,?_⟩
  ·obtain rfl:p=p0:=by simpa using hp
   rcases List.mem_append.mp hq with hq | hq
   ·exact hf p e0 q (List.mem_of_mem_drop hq)
   ·exact iw Sb e0 (by rw [List.drop_zero];exact List.mem_of_mem_drop hq)
  ·show ([p0] ++ (a.toList.drop 0 ++ b.toList.drop 1)).Perm _
   rw [List.drop_zero]
   conv=>rhs;rw [eb]
   exact (List.perm_middle (a:=p0) (l₁:=a.toList) (l₂:=b.toList.drop 1)).symm
 by_cases h1:1=b.size
 ·rw [if_pos (by simpa using h1)]
  exact wpS_pure (h _ _ (Sm.refl _) (I0.doneB Sa h1))
 rw [if_neg (by simpa using h1)]
 by_cases h2:0+1=a.size
 ·rw [if_pos (by simpa using h2)]
  exact wpS_pure (h _ _ (Sm.refl _) (I0.lastA Sb h2 hl))
 rw [if_neg (by simpa using h2)]
 refine wpS_bind (wpS_get ?_)
 refine wpS_bind (wpS_mono (wpS_forRange (I:=fun x c st'=>Sm st st'/\∃ out ia ib mg,c=(none,out,ia,ib,mg)/\MI rk a b out ia ib/\ib < b.size/\ia+1 < a.size/\x+1<=ia+ib)
   (Q:=fun c st'=>Sm st st'/\∃ r,c.1=some r/\Res rk a b r) ?step ?fin ⟨Sm.refl _,_,_,_,_,rfl,I0,by omega,by omega,by omega⟩) ?post)
 case fin=>
  rintro c st' ⟨_,out,ia,ib,mg,rfl,I,x1,x2,x3⟩
  exact absurd x3 (by omega)
 case post=>
  rintro ⟨r0,c⟩ st' ⟨S,r,rfl,hr⟩
  exact wpS_pure (h r st' S hr)
 case step=>
  rintro x c st1 _ hx ⟨S1,out,ia,ib,mg,rfl,I,x1,x2,x3⟩
  dsimp only
  have kd1:kindOf st1=kd:=S1.kind.trans kind
  refine wpS_bind (wpS_mono (wpS_forRange (I:=fun y c st'=>st'=st1/\∃ out' ia' ib' ac bc,c=(none,out',ia',ib',ac,bc)/\MI rk a b out' ia' ib'/\ib' < b.size/\ia'+1 < a.size/\x+1+y<=ia'+ib')
   (Q:=fun c st'=>st'=st1/\Go rk a b (x+2) c.1 c.2.1 c.2.2.1 c.2.2.2.1) ?istep ?ifin ⟨rfl,_,_,_,_,_,rfl,I,x1,x2,by omega⟩) ?ipost)
  case ifin=>
   rintro c st' ⟨rfl,out',ia',ib',ac,bc,rfl,I',y1,y2,y3⟩
   exact ⟨rfl,.inr ⟨rfl,I',y1,y2,by show x+2<=ia'+ib';omega⟩⟩
  case istep=>
   rintro y c st' _ hy ⟨rfl,out',ia',ib',ac,bc,rfl,I',y1,y2,y3⟩
   dsimp only
   obtain ⟨pb,eb,mb⟩:=atB y1
   obtain ⟨pa,ea,ma⟩:=atA (show ia' < a.size by omega)
   refine wpS_bind (aM (U:=Unit) eb (wpS_bind (aM (U:=Unit) ea (wpS_bind (L _ _ _ _ mb ma kd1 ?_)))))
   dsimp only
   by_cases hw:rk pb < rk pa
   ·rw [if_pos (decide_eq_true hw)]
    refine wpS_bind (aM (U:=Unit) eb ?_)
    have I2:=I'.pushB Sb eb fun q hq=>Int.le_trans (Int.le_of_lt hw) (iw Sa ea hq)
    by_cases h3:ib'+1=b.size
    ·rw [if_pos (by simpa using h3)]
     exact wpS_pure ⟨rfl,.inl ⟨_,rfl,I2.doneB Sa h3⟩⟩
    ·rw [if_neg (by simpa using h3)]
     split
     ·exact wpS_pure ⟨rfl,.inr ⟨rfl,I2,by show ib'+1 < _;omega,y2,by show x+2<=ia'+(ib'+1);omega⟩⟩
     ·exact wpS_pure ⟨rfl,_,_,_,_,_,rfl,I2,by omega,y2,by omega⟩
   ·rw [if_neg (by rw [decide_eq_false hw];decide)]
    refine wpS_bind (aM (U:=Unit) ea ?_)
    have I2:=I'.pushA Sa ea fun q hq=>Int.le_trans (by omega) (iw Sb eb hq)
    by_cases h3:ia'+1+1=a.size
    ·rw [if_pos (by simpa using h3)]
     exact wpS_pure ⟨rfl,.inl ⟨_,rfl,I2.lastA Sb h3 hl⟩⟩
    ·rw [if_neg (by simpa using h3)]
     split
     ·exact wpS_pure ⟨rfl,.inr ⟨rfl,I2,y1,by show ia'+1+1 < _;omega,by show x+2<=ia'+1+ib';omega⟩⟩
     ·exact wpS_pure ⟨rfl,_,_,_,_,_,rfl,I2,y1,by omega,by omega⟩
  case ipost=>
   rintro ⟨r0,out1,ia1,ib1,ac1,bc1⟩ st' ⟨rfl,G⟩
   dsimp only at G ⊢
   rcases G with ⟨r,rfl,hr⟩ | ⟨rfl,I1,y1,y2,y3⟩
   ·exact wpS_pure ⟨S1,r,rfl,hr⟩
   dsimp only
   refine wpS_bind (wpS_lift (wpAny_rule ⟨rfl,?_⟩))
   refine wpS_bind (wpS_mono (wpS_forRange (I:=fun y c st'=>Sm st st'/\∃ out' ia' ib' mg ac bc,c=(none,out',ia',ib',mg,ac,bc)/\MI rk a b out' ia' ib'/\ib' < b.size/\ia'+1 < a.size/\x+2<=ia'+ib')
    (Q:=fun c st'=>Sm st st'/\Go rk a b (x+2) c.1 c.2.1 c.2.2.1 c.2.2.2.1) ?gstep ?gfin ⟨S1,_,_,_,_,_,_,rfl,I1,y1,y2,y3⟩) ?gpost)
   case gfin=>
    rintro c st' ⟨S2,out',ia',ib',mg',ac,bc,rfl,I',y1,y2,y3⟩
    exact ⟨S2,.inr ⟨rfl,I',y1,y2,y3⟩⟩
   case gpost=>
    rintro ⟨r0,out1,ia1,ib1,mg1,ac1,bc1⟩ st' ⟨S2,G⟩
    dsimp only at G ⊢
    rcases G with ⟨r,rfl,hr⟩ | ⟨rfl,I1,y1,y2,y3⟩
    ·exact wpS_pure ⟨S2,r,rfl,hr⟩
    dsimp only
    refine wpS_bind (qj S2 fun st2 S3=>?_)
    exact wpS_pure ⟨S3,_,_,_,_,rfl,I1,y1,y2,y3⟩
   case gstep=>
    rintro y c st' _ hy ⟨S2,out',ia',ib',mg',ac,bc,rfl,I',y1,y2,y3⟩
    dsimp only
    obtain ⟨pb,eb,mb⟩:=atB y1
    refine aJ (fun _=>?_) (fun _=>?_)
    all_goals
     refine wpS_bind (qj S2 fun st3 S3=>?_)
     have kd3:kindOf st3=kd:=S3.kind.trans kind
     refine wpS_bind (aM (U:=Unit) eb ?_)
     refine wpS_bind (fc (fun i=>decide (Kr rk a (ia'+i)<=rk pb)) (by omega) (fun i R hi r=>j6 L mb ha (by omega) kd3 (by simpa using r)) (fun i j hij hj hq=>decide_eq_true (Int.le_trans (SKa _ _ (by omega) (by omega)) (of_decide_eq_true hq))) fun k hk hk1 hk2=>?_)
     dsimp only
     have I2:=I'.takeA Sa k (by omega) fun p hp q hq=>by
      obtain ⟨j,hj,e⟩:=sX hp
      have:=of_decide_eq_true (hk1 j hj)
      rw [cD e] at this
      exact Int.le_trans this (iw Sb eb hq)
     have hgt:∀ q∈a.toList.drop (ia'+k),rk pb<=rk q:=fun q hq=>by
      obtain ⟨j,h3,h4,e⟩:=wC hq
      have:=of_decide_eq_false (hk2 (j - ia') (by omega) (by omega))
      rw [show ia'+(j - ia')=j by omega,cD e] at this
      omega
     refine aJ (fun hk0=>?_) (fun hk0=>?_)
     ·refine aJ (fun h3=>?_) (fun h3=>aJ (fun h4=>?_) (fun h4=>?_))
      ·exact wpS_pure ⟨S3,.inl ⟨_,rfl,I2.lastA Sb (by simpa using h3) hl⟩⟩
      ·exact wpS_pure ⟨S3,.inl ⟨_,rfl,I2.doneA Sb (by simpa using h4)⟩⟩
      have hi1:ia'+k+1 < a.size:=by
       have z1:¬ ia'+k+1=a.size:=by simpa using h3
       have z2:¬ ia'+k=a.size:=by simpa using h4
       omega
      have J:=I2
      have hg2:=hgt
      refine wpS_bind (aM (U:=Unit) eb ?_)
      have J2:=J.pushB Sb eb hg2
      refine aJ (fun h5=>?_) (fun h5=>?_)
      ·exact wpS_pure ⟨S3,.inl ⟨_,rfl,J2.doneB Sa (by simpa using h5)⟩⟩
      have h5':ib'+1 < b.size:=by
       have:¬ ib'+1=b.size:=by simpa using h5
       omega
      obtain ⟨pa,ea,ma⟩:=atA (Nat.lt_of_succ_lt hi1)
      refine wpS_bind (aM (U:=Unit) ea ?_)
      refine wpS_bind (fc (fun i=>decide (Kr rk b (ib'+1+i) < rk pa)) (by omega) (fun i R hi r=>j6 L ma hb (by omega) kd3 (by simpa using r)) (fun i j hij hj hq=>decide_eq_true (Int.lt_of_le_of_lt (SKb _ _ (by omega) (by omega)) (of_decide_eq_true hq))) fun k1 hk1 hk11 hk12=>?_)
      dsimp only
      have J3:=J2.takeB Sb k1 (by omega) fun p hp q hq=>by
       obtain ⟨j,hj,e⟩:=sX hp
       have:=of_decide_eq_true (hk11 j hj)
       rw [cD e] at this
       exact Int.le_trans (Int.le_of_lt this) (iw Sa ea hq)
      have hle:∀ q∈b.toList.drop (ib'+1+k1),rk pa<=rk q:=fun q hq=>by
       obtain ⟨j,h3,h4,e⟩:=wC hq
       have:=of_decide_eq_false (hk12 (j - (ib'+1)) (by omega) (by omega))
       rw [show ib'+1+(j - (ib'+1))=j by omega,cD e] at this
       omega
      refine aJ (fun hk10=>?_) (fun hk10=>?_)
      ·refine aJ (fun h6=>?_) (fun h6=>?_)
       ·exact wpS_pure ⟨S3,.inl ⟨_,rfl,J3.doneB Sa (by simpa using h6)⟩⟩
       have h6':ib'+1+k1 < b.size:=by
        have:¬ ib'+1+k1=b.size:=by simpa using h6
        omega
       refine wpS_bind (aM (U:=Unit) ea ?_)
       have J5:=J3.pushA Sa ea hle
       refine aJ (fun h7=>?_) (fun h7=>?_)
       ·exact wpS_pure ⟨S3,.inl ⟨_,rfl,J5.lastA Sb (by simpa using h7) hl⟩⟩
       have h7':=by simpa using h7
       refine aJ (fun _=>?_) (fun _=>?_)
       ·exact wpS_pure ⟨S3,.inr ⟨rfl,J5,h6',by dsimp only;omega,by dsimp only;omega⟩⟩
       ·exact wpS_pure ⟨S3,_,_,_,_,_,_,rfl,J5,h6',by omega,by omega⟩
      ·obtain rfl:k1=0:=by omega
       refine wpS_bind (aM (U:=Unit) ea ?_)
       have J5:=J2.pushA Sa ea hle
       refine aJ (fun h7=>?_) (fun h7=>?_)
       ·exact wpS_pure ⟨S3,.inl ⟨_,rfl,J5.lastA Sb (by simpa using h7) hl⟩⟩
       have h7':=by simpa using h7
       refine aJ (fun _=>?_) (fun _=>?_)
       ·exact wpS_pure ⟨S3,.inr ⟨rfl,J5,h5',by dsimp only;omega,by dsimp only;omega⟩⟩
       ·exact wpS_pure ⟨S3,_,_,_,_,_,_,rfl,J5,h5',by omega,by omega⟩
     ·obtain rfl:k=0:=by omega
      have hi1:ia'+1 < a.size:=y2
      have J:=I'
      have hg2:∀ q∈a.toList.drop ia',rk pb<=rk q:=hgt
      refine wpS_bind (aM (U:=Unit) eb ?_)
      have J2:=J.pushB Sb eb hg2
      refine aJ (fun h5=>?_) (fun h5=>?_)
      ·exact wpS_pure ⟨S3,.inl ⟨_,rfl,J2.doneB Sa (by simpa using h5)⟩⟩
      have h5':ib'+1 < b.size:=by
       have:¬ ib'+1=b.size:=by simpa using h5
       omega
      obtain ⟨pa,ea,ma⟩:=atA (Nat.lt_of_succ_lt hi1)
      refine wpS_bind (aM (U:=Unit) ea ?_)
      refine wpS_bind (fc (fun i=>decide (Kr rk b (ib'+1+i) < rk pa)) (by omega) (fun i R hi r=>j6 L ma hb (by omega) kd3 (by simpa using r)) (fun i j hij hj hq=>decide_eq_true (Int.lt_of_le_of_lt (SKb _ _ (by omega) (by omega)) (of_decide_eq_true hq))) fun k1 hk1 hk11 hk12=>?_)
      dsimp only
      have J3:=J2.takeB Sb k1 (by omega) fun p hp q hq=>by
       obtain ⟨j,hj,e⟩:=sX hp
       have:=of_decide_eq_true (hk11 j hj)
       rw [cD e] at this
       exact Int.le_trans (Int.le_of_lt this) (iw Sa ea hq)
      have hle:∀ q∈b.toList.drop (ib'+1+k1),rk pa<=rk q:=fun q hq=>by
       obtain ⟨j,h3,h4,e⟩:=wC hq
       have:=of_decide_eq_false (hk12 (j - (ib'+1)) (by omega) (by omega))
       rw [show ib'+1+(j - (ib'+1))=j by omega,cD e] at this
       omega
      refine aJ (fun hk10=>?_) (fun hk10=>?_)
      ·refine aJ (fun h6=>?_) (fun h6=>?_)
       ·exact wpS_pure ⟨S3,.inl ⟨_,rfl,J3.doneB Sa (by simpa using h6)⟩⟩
       have h6':ib'+1+k1 < b.size:=by
        have:¬ ib'+1+k1=b.size:=by simpa using h6
        omega
       refine wpS_bind (aM (U:=Unit) ea ?_)
       have J5:=J3.pushA Sa ea hle
       refine aJ (fun h7=>?_) (fun h7=>?_)
       ·exact wpS_pure ⟨S3,.inl ⟨_,rfl,J5.lastA Sb (by simpa using h7) hl⟩⟩
       have h7':=by simpa using h7
       refine aJ (fun _=>?_) (fun _=>?_)
       ·exact wpS_pure ⟨S3,.inr ⟨rfl,J5,h6',by dsimp only;omega,by dsimp only;omega⟩⟩
       ·exact wpS_pure ⟨S3,_,_,_,_,_,_,rfl,J5,h6',by omega,by omega⟩
      ·obtain rfl:k1=0:=by omega
       refine wpS_bind (aM (U:=Unit) ea ?_)
       have J5:=J2.pushA Sa ea hle
       refine aJ (fun h7=>?_) (fun h7=>?_)
       ·exact wpS_pure ⟨S3,.inl ⟨_,rfl,J5.lastA Sb (by simpa using h7) hl⟩⟩
       have h7':=by simpa using h7
       refine aJ (fun _=>?_) (fun _=>?_)
       ·exact wpS_pure ⟨S3,.inr ⟨rfl,J5,h5',by dsimp only;omega,by dsimp only;omega⟩⟩
       ·exact wpS_pure ⟨S3,_,_,_,_,_,_,rfl,J5,h5',by omega,by omega⟩
structure MH (rk:Keyed->Int) (a b out:Array Keyed) (na nb:Nat):Prop where
 ha:na<=a.size
 hb:nb<=b.size
 so:nH rk out.toList.reverse
 le:∀ p∈a.toList.take na ++ b.toList.take nb,∀ q∈out.toList,rk p<=rk q
 pm:((a.toList.take na ++ b.toList.take nb) ++ out.toList.reverse).Perm (a.toList ++ b.toList)
theorem lO {α:Type} (l:List α) {i n:Nat} (h:i<=n):l.take n=l.take i ++ (l.drop i).take (n - i):=by
 rw [List.take_drop,show i+(n - i)=n by omega]
 conv=>lhs;rw [← List.take_append_drop i (l.take n)]
 rw [List.take_take,Nat.min_eq_left h]
theorem iY (a:Array Keyed) {i n:Nat} (h:i<=n):(a.extract i n).toList=(a.toList.drop i).take (n - i):=by
 rw [Array.toList_extract,List.extract_eq_drop_take]
theorem MH.takeA {a b out:Array Keyed} {na nb:Nat} (h:MH rk a b out na nb) (Sa:nH rk a.toList) (i:Nat) (hi:i<=na) (hc:∀ q∈(a.toList.drop i).take (na - i),∀ p∈b.toList.take nb,rk p<=rk q):MH rk a b (out ++ (a.extract i na).reverse) i nb:=by
 have e:=lO a.toList hi
 have Sd:nH rk (a.toList.take na):=Sa.sublist (List.take_sublist _ _)
 rw [e] at Sd
 obtain ⟨s1,s2,s3⟩:=List.pairwise_append.mp Sd
 have tl:(out ++ (a.extract i na).reverse).toList=out.toList ++ ((a.toList.drop i).take (na - i)).reverse:=by rw [Array.toList_append,Array.toList_reverse,iY a hi]
 have rl:(out ++ (a.extract i na).reverse).toList.reverse=(a.toList.drop i).take (na - i) ++ out.toList.reverse:=by rw [tl,List.reverse_append,List.reverse_reverse]
 refine ⟨by have:=h.ha;omega,h.hb,?_,?_,?_⟩
 ·rw [rl]
  exact List.pairwise_append.mpr ⟨s2,h.so,fun p hp q hq=>h.le p (List.mem_append_left _ (by rw [e];exact List.mem_append_right _ hp)) q (List.mem_reverse.mp hq)⟩
 ·rw [tl]
  intro p hp q hq
  rcases List.mem_append.mp hq with hq | hq
  ·refine h.le p ?_ q hq
   rcases List.mem_append.mp hp with hp | hp
   ·exact List.mem_append_left _ (by rw [e];exact List.mem_append_left _ hp)
   ·exact List.mem_append_right _ hp
  ·have hq:=List.mem_reverse.mp hq
   rcases List.mem_append.mp hp with hp | hp
   ·exact s3 p hp q hq
   ·exact hc q hq p hp
 ·rw [rl]
  refine List.Perm.trans ?_ h.pm
  conv=>rhs;rw [e]
  rw [← List.append_assoc]
  refine List.Perm.append_right _ ?_
  rw [List.append_assoc,List.append_assoc]
  exact List.Perm.append_left _ List.perm_append_comm
theorem MH.takeB {a b out:Array Keyed} {na nb:Nat} (h:MH rk a b out na nb) (Sb:nH rk b.toList) (i:Nat) (hi:i<=nb) (hc:∀ q∈(b.toList.drop i).take (nb - i),∀ p∈a.toList.take na,rk p<=rk q):MH rk a b (out ++ (b.extract i nb).reverse) na i:=by
 have e:=lO b.toList hi
 have Sd:nH rk (b.toList.take nb):=Sb.sublist (List.take_sublist _ _)
 rw [e] at Sd
 obtain ⟨s1,s2,s3⟩:=List.pairwise_append.mp Sd
 have tl:(out ++ (b.extract i nb).reverse).toList=out.toList ++ ((b.toList.drop i).take (nb - i)).reverse:=by rw [Array.toList_append,Array.toList_reverse,iY b hi]
 have rl:(out ++ (b.extract i nb).reverse).toList.reverse=(b.toList.drop i).take (nb - i) ++ out.toList.reverse:=by rw [tl,List.reverse_append,List.reverse_reverse]
 refine ⟨h.ha,by have:=h.hb;omega,?_,?_,?_⟩
 ·rw [rl]
  exact List.pairwise_append.mpr ⟨s2,h.so,fun p hp q hq=>h.le p (List.mem_append_right _ (by rw [e];exact List.mem_append_right _ hp)) q (List.mem_reverse.mp hq)⟩
 ·rw [tl]
  intro p hp q hq
  rcases List.mem_append.mp hq with hq | hq
  ·refine h.le p ?_ q hq
   rcases List.mem_append.mp hp with hp | hp
   ·exact List.mem_append_left _ hp
   ·exact List.mem_append_right _ (by rw [e];exact List.mem_append_left _ hp)
  ·have hq:=List.mem_reverse.mp hq
   rcases List.mem_append.mp hp with hp | hp
   ·exact hc q hq p hp
   ·exact s3 p hp q hq
 ·rw [rl]
  refine List.Perm.trans (List.Perm.of_eq ?_) h.pm
  conv=>rhs;rw [e]
  simp only [List.append_assoc]
theorem yg {out a:Array Keyed} {n:Nat} {p:Keyed} (hn:1<=n) (h:a[n - 1]?=some p):out.push p=out ++ (a.extract (n - 1) n).reverse:=by
 rw [ur h,show n - 1+1=n by omega]
 congr 1
 apply Array.ext'
 rw [Array.toList_reverse,iY a (by omega),show n - (n - 1)=1 by omega]
 obtain ⟨hi,e⟩:=Array.getElem?_eq_some_iff.mp h
 rw [List.drop_eq_getElem_cons (by simpa using hi)]
 simp
theorem ql {a:Array Keyed} {n:Nat} {p q:Keyed} (Sa:nH rk a.toList) (hn:1<=n) (h:a[n - 1]?=some p) (hq:q∈a.toList.take n):rk q<=rk p:=by
 obtain ⟨hi,e⟩:=Array.getElem?_eq_some_iff.mp h
 obtain ⟨k,hk,ek⟩:=List.mem_iff_getElem.mp hq
 have hk':k < n/\k < a.size:=by simp at hk;omega
 have hqk:a[k]?=some q:=by rw [getElem?_pos a k hk'.2,← ek];simp
 refine iw Sa hqk ?_
 rw [← e]
 exact List.mem_iff_getElem.mpr ⟨n - 1 - k,by simp;omega,by simp [show k+(n - 1 - k)=n - 1 by omega]⟩
theorem MH.pushA {a b out:Array Keyed} {na nb:Nat} {p:Keyed} (h:MH rk a b out na nb) (Sa:nH rk a.toList) (hn:1<=na) (e:a[na - 1]?=some p) (hc:∀ q∈b.toList.take nb,rk q<=rk p):MH rk a b (out.push p) (na - 1) nb:=by
 rw [yg hn e]
 refine h.takeA Sa (na - 1) (by omega) fun q hq r hr=>?_
 rw [show na - (na - 1)=1 by omega] at hq
 rw [take1 e hq];exact hc r hr
theorem MH.pushB {a b out:Array Keyed} {na nb:Nat} {p:Keyed} (h:MH rk a b out na nb) (Sb:nH rk b.toList) (hn:1<=nb) (e:b[nb - 1]?=some p) (hc:∀ q∈a.toList.take na,rk q<=rk p):MH rk a b (out.push p) na (nb - 1):=by
 rw [yg hn e]
 refine h.takeB Sb (nb - 1) (by omega) fun q hq r hr=>?_
 rw [show nb - (nb - 1)=1 by omega] at hq
 rw [take1 e hq];exact hc r hr
theorem Ei (a:Array Keyed) (n:Nat):(a.extract 0 n).toList=a.toList.take n:=by
 rw [iY a (Nat.zero_le n),List.drop_zero,Nat.sub_zero]
theorem MH.doneA {a b out:Array Keyed} {na nb:Nat} (h:MH rk a b out na nb) (Sb:nH rk b.toList) (e:na=0):Res rk a b (a.extract 0 na ++ b.extract 0 nb ++ out.reverse):=by
 unfold Res
 rw [Array.toList_append,Array.toList_append,Ei,Ei,Array.toList_reverse]
 refine ⟨?_,h.pm⟩
 have:a.toList.take na=[]:=by rw [e];rfl
 rw [this,List.nil_append]
 exact List.pairwise_append.mpr ⟨Sb.sublist (List.take_sublist _ _),h.so,fun p hp q hq=>h.le p (List.mem_append_right _ hp) q (List.mem_reverse.mp hq)⟩
theorem MH.doneB {a b out:Array Keyed} {na nb:Nat} (h:MH rk a b out na nb) (Sa:nH rk a.toList) (e:nb=0):Res rk a b (a.extract 0 na ++ b.extract 0 nb ++ out.reverse):=by
 unfold Res
 rw [Array.toList_append,Array.toList_append,Ei,Ei,Array.toList_reverse]
 refine ⟨?_,h.pm⟩
 have:b.toList.take nb=[]:=by rw [e];rfl
 rw [this,List.append_nil]
 exact List.pairwise_append.mpr ⟨Sa.sublist (List.take_sublist _ _),h.so,fun p hp q hq=>h.le p (List.mem_append_left _ hp) q (List.mem_reverse.mp hq)⟩
theorem MH.firstB {a b out:Array Keyed} {na nb:Nat} (h:MH rk a b out na nb) (Sa:nH rk a.toList) (e:nb=1) (hf:∀ p,b[0]?=some p->∀ q∈a.toList,rk p<=rk q):Res rk a b (b.extract 0 nb ++ a.extract 0 na ++ out.reverse):=by
 unfold Res
 rw [Array.toList_append,Array.toList_append,Ei,Ei,Array.toList_reverse]
 have hi:0 < b.size:=by have:=h.hb;omega
 have eb:b.toList.take nb=[b[0]]:=by
  rw [e]
  have:=List.drop_eq_getElem_cons (l:=b.toList) (i:=0) (by simpa using hi)
  rw [List.drop_zero] at this
  rw [this];simp
 refine ⟨?_,(List.Perm.append_right _ List.perm_append_comm).trans h.pm⟩
 refine List.pairwise_append.mpr ⟨List.pairwise_append.mpr ⟨by rw [eb];exact List.pairwise_singleton _ _,Sa.sublist (List.take_sublist _ _),fun p hp q hq=>?_⟩,h.so,fun p hp q hq=>h.le p ?_ q (List.mem_reverse.mp hq)⟩
 ·rw [eb] at hp
  rw [List.mem_singleton.mp hp]
  exact hf _ (getElem?_pos b 0 hi) q (List.mem_of_mem_take hq)
 ·rcases List.mem_append.mp hp with hp | hp
  ·exact List.mem_append_right _ hp
  ·exact List.mem_append_left _ hp
theorem kO {a:Array Keyed} {i k:Nat} {q:Keyed} (hq:q∈(a.toList.drop i).take k):∃ j,i<=j/\j < i+k/\a[j]?=some q:=by
 obtain ⟨j,hj,e⟩:=sX hq
 exact ⟨i+j,by omega,by omega,e⟩
theorem zX {a:Array Keyed} {n:Nat} {q:Keyed} (hq:q∈a.toList.take n):∃ j,j < n/\a[j]?=some q:=by
 obtain ⟨k,hk,e⟩:=List.mem_iff_getElem.mp hq
 have hk':k < n/\k < a.size:=by simp at hk;omega
 exact ⟨k,hk'.1,by rw [getElem?_pos a k hk'.2,← e];simp⟩
def GoH (rk:Keyed->Int) (a b:Array Keyed) (n:Nat) (r:Option (Array Keyed)) (na nb:Nat) (out:Array Keyed):Prop:=(∃ x,r=some x/\Res rk a b x)\/(r=none/\MH rk a b out na nb/\1<=na/\2<=nb/\n+na+nb<=a.size+b.size)
theorem yh {a b:Array Keyed} {st:SortSt} {Q:Array Keyed->SortSt->Prop} (L:qg M A E s kd rk a₀) (ha:∀ p∈a.toList,p∈a₀.toList) (hb:∀ p∈b.toList,p∈a₀.toList) (Sa:nH rk a.toList) (Sb:nH rk b.toList)
  (n1:1<=a.size) (n2:1<=b.size) (hf:∀ p,b[0]?=some p->∀ q∈a.toList,rk p<=rk q) (hl:∀ p,a[a.size - 1]?=some p->∀ q∈b.toList,rk q<=rk p) (kind:kindOf st=kd)
  (h:∀ r st',Sm st st'->Res rk a b r->Q r st'):wpS M A E s (Ia a b) Q st:=by
 have atA:∀ {i:Nat},i < a.size->∃ p,a[i]?=some p/\p∈a₀.toList:=fun {i} hi=>⟨a[i],getElem?_pos a i hi,ha _ (by simp)⟩
 have atB:∀ {i:Nat},i < b.size->∃ p,b[i]?=some p/\p∈a₀.toList:=fun {i} hi=>⟨b[i],getElem?_pos b i hi,hb _ (by simp)⟩
 have KA:∀ {i:Nat} {p:Keyed},a[i]?=some p->Kr rk a i=rk p:=fun e=>cD e
 have SKa:∀ i j,i<=j->j < a.size->Kr rk a i<=Kr rk a j:=fun i j hij hj=>by
  obtain ⟨p,ep,_⟩:=atA (show i < a.size by omega)
  obtain ⟨q,eq,_⟩:=atA hj
  rw [cD ep,cD eq]
  refine iw Sa ep ?_
  obtain ⟨hq,e⟩:=Array.getElem?_eq_some_iff.mp eq
  rw [← e]
  exact List.mem_iff_getElem.mpr ⟨j - i,by simp;omega,by simp [show i+(j - i)=j by omega]⟩
 have SKb:∀ i j,i<=j->j < b.size->Kr rk b i<=Kr rk b j:=fun i j hij hj=>by
  obtain ⟨p,ep,_⟩:=atB (show i < b.size by omega)
  obtain ⟨q,eq,_⟩:=atB hj
  rw [cD ep,cD eq]
  refine iw Sb ep ?_
  obtain ⟨hq,e⟩:=Array.getElem?_eq_some_iff.mp eq
  rw [← e]
  exact List.mem_iff_getElem.mpr ⟨j - i,by simp;omega,by simp [show i+(j - i)=j by omega]⟩
 refine wpS_bind (wpS_lift (wpAny_rule ⟨rfl,?_⟩))
 dsimp only
 obtain ⟨p0,e0,m0⟩:=atA (i:=a.size - 1) (by omega)
 refine wpS_bind (aM (U:=Unit) e0 ?_)
 have I0:MH rk a b #[p0] (a.size - 1) b.size:=by
  have Z:MH rk a b #[] a.size b.size:=⟨Nat.le_refl _,Nat.le_refl _,List.Pairwise.nil,fun p _ q hq=>by simp at hq,by
   rw [List.take_of_length_le (by simp),List.take_of_length_le (by simp)];simp⟩
  exact Z.pushA Sa n1 e0 fun q hq=>hl p0 e0 q (List.mem_of_mem_take hq)
 by_cases h1:a.size - 1=0
 ·rw [if_pos (by simpa using h1)]
  exact wpS_pure (h _ _ (Sm.refl _) (I0.doneA Sb h1))
 rw [if_neg (by simpa using h1)]
 by_cases h2:b.size=1
 ·rw [if_pos (by simpa using h2)]
  exact wpS_pure (h _ _ (Sm.refl _) (I0.firstB Sa h2 hf))
 rw [if_neg (by simpa using h2)]
 refine wpS_bind (wpS_get ?_)
 refine wpS_bind (wpS_mono (wpS_forRange (I:=fun x c st'=>Sm st st'/\∃ na nb out mg,c=(none,na,nb,out,mg)/\MH rk a b out na nb/\1<=na/\2<=nb/\x+1+na+nb<=a.size+b.size)
   (Q:=fun c st'=>Sm st st'/\∃ r,c.1=some r/\Res rk a b r) ?step ?fin ⟨Sm.refl _,_,_,_,_,rfl,I0,by omega,by omega,by omega⟩) ?post)
 case fin=>
  rintro c st' ⟨_,na,nb,out,mg,rfl,I,x1,x2,x3⟩
  exact absurd x3 (by omega)
 case post=>
  rintro ⟨r0,c⟩ st' ⟨S,r,rfl,hr⟩
  exact wpS_pure (h r st' S hr)
 case step=>
  rintro x c st1 _ hx ⟨S1,na,nb,out,mg,rfl,I,x1,x2,x3⟩
  dsimp only
  have kd1:kindOf st1=kd:=S1.kind.trans kind
  refine wpS_bind (wpS_mono (wpS_forRange (I:=fun y c st'=>st'=st1/\∃ na' nb' out' ac bc,c=(none,na',nb',out',ac,bc)/\MH rk a b out' na' nb'/\1<=na'/\2<=nb'/\x+1+y+na'+nb'<=a.size+b.size)
   (Q:=fun c st'=>st'=st1/\GoH rk a b (x+2) c.1 c.2.1 c.2.2.1 c.2.2.2.1) ?istep ?ifin ⟨rfl,_,_,_,_,_,rfl,I,x1,x2,by omega⟩) ?ipost)
  case ifin=>
   rintro c st' ⟨rfl,na',nb',out',ac,bc,rfl,I',y1,y2,y3⟩
   exact ⟨rfl,.inr ⟨rfl,I',y1,y2,by dsimp only;omega⟩⟩
  case istep=>
   rintro y c st' _ hy ⟨rfl,na',nb',out',ac,bc,rfl,I',y1,y2,y3⟩
   dsimp only
   obtain ⟨pb,eb,mb⟩:=atB (i:=nb' - 1) (by have:=I'.hb;omega)
   obtain ⟨pa,ea,ma⟩:=atA (i:=na' - 1) (by have:=I'.ha;omega)
   refine wpS_bind (aM (U:=Unit) eb (wpS_bind (aM (U:=Unit) ea (wpS_bind (L _ _ _ _ mb ma kd1 ?_)))))
   dsimp only
   refine aJ (fun hw=>?_) (fun hw=>?_)
   ·have hw:=of_decide_eq_true hw
    refine wpS_bind (aM (U:=Unit) ea ?_)
    have I2:=I'.pushA Sa y1 ea fun q hq=>Int.le_trans (ql Sb (by omega) eb hq) (by omega)
    refine aJ (fun h3=>?_) (fun h3=>?_)
    ·exact wpS_pure ⟨rfl,.inl ⟨_,rfl,I2.doneA Sb (by simpa using h3)⟩⟩
    have h3':¬ na' - 1=0:=by simpa using h3
    refine aJ (fun _=>?_) (fun _=>?_)
    ·exact wpS_pure ⟨rfl,.inr ⟨rfl,I2,by dsimp only;omega,by dsimp only;omega,by dsimp only;omega⟩⟩
    ·exact wpS_pure ⟨rfl,_,_,_,_,_,rfl,I2,by omega,by omega,by omega⟩
   ·have hw:¬ rk pb < rk pa:=fun z=>hw (decide_eq_true z)
    refine wpS_bind (aM (U:=Unit) eb ?_)
    have I2:=I'.pushB Sb (by omega) eb fun q hq=>Int.le_trans (ql Sa y1 ea hq) (by omega)
    refine aJ (fun h3=>?_) (fun h3=>?_)
    ·exact wpS_pure ⟨rfl,.inl ⟨_,rfl,I2.firstB Sa (by simpa using h3) hf⟩⟩
    have h3':¬ nb' - 1=1:=by simpa using h3
    refine aJ (fun _=>?_) (fun _=>?_)
    ·exact wpS_pure ⟨rfl,.inr ⟨rfl,I2,by dsimp only;omega,by dsimp only;omega,by dsimp only;omega⟩⟩
    ·exact wpS_pure ⟨rfl,_,_,_,_,_,rfl,I2,by omega,by omega,by omega⟩
  case ipost=>
   rintro ⟨r0,na1,nb1,out1,ac1,bc1⟩ st' ⟨rfl,G⟩
   dsimp only at G ⊢
   rcases G with ⟨r,rfl,hr⟩ | ⟨rfl,I1,y1,y2,y3⟩
   ·exact wpS_pure ⟨S1,r,rfl,hr⟩
   dsimp only
   refine wpS_bind (wpS_lift (wpAny_rule ⟨rfl,?_⟩))
   refine wpS_bind (wpS_mono (wpS_forRange (I:=fun y c st'=>Sm st st'/\∃ na' nb' out' mg ac bc,c=(none,na',nb',out',mg,ac,bc)/\MH rk a b out' na' nb'/\1<=na'/\2<=nb'/\x+2+na'+nb'<=a.size+b.size)
    (Q:=fun c st'=>Sm st st'/\GoH rk a b (x+2) c.1 c.2.1 c.2.2.1 c.2.2.2.1) ?gstep ?gfin ⟨S1,_,_,_,_,_,_,rfl,I1,y1,y2,y3⟩) ?gpost)
   case gfin=>
    rintro c st' ⟨S2,na',nb',out',mg',ac,bc,rfl,I',y1,y2,y3⟩
    exact ⟨S2,.inr ⟨rfl,I',y1,y2,y3⟩⟩
   case gpost=>
    rintro ⟨r0,na1,nb1,out1,mg1,ac1,bc1⟩ st' ⟨S2,G⟩
    dsimp only at G ⊢
    rcases G with ⟨r,rfl,hr⟩ | ⟨rfl,I1,y1,y2,y3⟩
    ·exact wpS_pure ⟨S2,r,rfl,hr⟩
    dsimp only
    refine wpS_bind (qj S2 fun st2 S3=>?_)
    exact wpS_pure ⟨S3,_,_,_,_,rfl,I1,y1,y2,by omega⟩
   case gstep=>
    rintro y c st' _ hy ⟨S2,na',nb',out',mg',ac,bc,rfl,I',y1,y2,y3⟩
    dsimp only
    obtain ⟨pb,eb,mb⟩:=atB (i:=nb' - 1) (by have:=I'.hb;omega)
    have hna:=I'.ha
    have hnb:=I'.hb
    refine aJ (fun _=>?_) (fun _=>?_)
    all_goals
     refine wpS_bind (qj S2 fun st3 S3=>?_)
     have kd3:kindOf st3=kd:=S3.kind.trans kind
     refine wpS_bind (aM (U:=Unit) eb ?_)
     refine wpS_bind (fc (fun i=>decide (Kr rk a (0+i)<=rk pb)) (by omega) (fun i R hi r=>j6 L mb ha (by omega) kd3 (by simpa using r)) (fun i j hij hj hq=>decide_eq_true (Int.le_trans (SKa _ _ (by omega) (by omega)) (of_decide_eq_true hq))) fun k hk hk1 hk2=>?_)
     dsimp only
     have I2:=I'.takeA Sa k (by omega) fun q hq p hp=>by
      obtain ⟨j,h3,h4,e⟩:=kO hq
      have:=of_decide_eq_false (hk2 j (by omega) (by omega))
      rw [Nat.zero_add,cD e] at this
      exact Int.le_trans (ql Sb (by omega) eb hp) (by omega)
     have hgt:∀ q∈a.toList.take k,rk q<=rk pb:=fun q hq=>by
      obtain ⟨j,h3,e⟩:=zX hq
      have:=of_decide_eq_true (hk1 j h3)
      rw [Nat.zero_add,cD e] at this
      exact this
     refine aJ (fun hk0=>?_) (fun hk0=>?_)
     ·refine aJ (fun h3=>?_) (fun h3=>?_)
      ·exact wpS_pure ⟨S3,.inl ⟨_,rfl,I2.doneA Sb (by simpa using h3)⟩⟩
      have h3':¬ k=0:=by simpa using h3
      have hi1:1<=k:=by omega
      have J:=I2
      have hg2:=hgt
      refine wpS_bind (aM (U:=Unit) eb ?_)
      have J2:=J.pushB Sb (by omega) eb hg2
      refine aJ (fun h5=>?_) (fun h5=>?_)
      ·exact wpS_pure ⟨S3,.inl ⟨_,rfl,J2.firstB Sa (by simpa using h5) hf⟩⟩
      have h5':¬ nb' - 1=1:=by simpa using h5
      obtain ⟨pa,ea,ma⟩:=atA (i:=k - 1) (by have:=J.ha;omega)
      refine wpS_bind (aM (U:=Unit) ea ?_)
      refine wpS_bind (fc (fun i=>decide (Kr rk b (0+i) < rk pa)) (by omega) (fun i R hi r=>j6 L ma hb (by omega) kd3 (by simpa using r)) (fun i j hij hj hq=>decide_eq_true (Int.lt_of_le_of_lt (SKb _ _ (by omega) (by omega)) (of_decide_eq_true hq))) fun k1 hk1 hk11 hk12=>?_)
      dsimp only
      have J3:=J2.takeB Sb k1 (by omega) fun q hq p hp=>by
       obtain ⟨j,h3,h4,e⟩:=kO hq
       have:=of_decide_eq_false (hk12 j (by omega) (by omega))
       rw [Nat.zero_add,cD e] at this
       exact Int.le_trans (ql Sa hi1 ea hp) (by omega)
      have hle:∀ q∈b.toList.take k1,rk q<=rk pa:=fun q hq=>by
       obtain ⟨j,h3,e⟩:=zX hq
       have:=of_decide_eq_true (hk11 j h3)
       rw [Nat.zero_add,cD e] at this
       omega
      refine aJ (fun hk10=>?_) (fun hk10=>?_)
      ·refine aJ (fun h6=>?_) (fun h6=>aJ (fun h8=>?_) (fun h8=>?_))
       ·exact wpS_pure ⟨S3,.inl ⟨_,rfl,J3.firstB Sa (by simpa using h6) hf⟩⟩
       ·exact wpS_pure ⟨S3,.inl ⟨_,rfl,J3.doneB Sa (by simpa using h8)⟩⟩
       have h6':¬ k1=1:=by simpa using h6
       have h8':¬ k1=0:=by simpa using h8
       refine wpS_bind (aM (U:=Unit) ea ?_)
       have J5:=J3.pushA Sa hi1 ea hle
       refine aJ (fun h7=>?_) (fun h7=>?_)
       ·exact wpS_pure ⟨S3,.inl ⟨_,rfl,J5.doneA Sb (by simpa using h7)⟩⟩
       have h7':¬ k - 1=0:=by simpa using h7
       refine aJ (fun _=>?_) (fun _=>?_)
       ·exact wpS_pure ⟨S3,.inr ⟨rfl,J5,by dsimp only;omega,by dsimp only;omega,by dsimp only;omega⟩⟩
       ·exact wpS_pure ⟨S3,_,_,_,_,_,_,rfl,J5,by omega,by omega,by omega⟩
      ·obtain rfl:k1=nb' - 1:=by omega
       refine wpS_bind (aM (U:=Unit) ea ?_)
       have J5:=J2.pushA Sa hi1 ea hle
       refine aJ (fun h7=>?_) (fun h7=>?_)
       ·exact wpS_pure ⟨S3,.inl ⟨_,rfl,J5.doneA Sb (by simpa using h7)⟩⟩
       have h7':¬ k - 1=0:=by simpa using h7
       refine aJ (fun _=>?_) (fun _=>?_)
       ·exact wpS_pure ⟨S3,.inr ⟨rfl,J5,by dsimp only;omega,by dsimp only;omega,by dsimp only;omega⟩⟩
       ·exact wpS_pure ⟨S3,_,_,_,_,_,_,rfl,J5,by omega,by omega,by omega⟩
     ·obtain rfl:k=na':=by omega
      have hi1:1<=k:=y1
      have J:=I'
      have hg2:=hgt
      refine wpS_bind (aM (U:=Unit) eb ?_)
      have J2:=J.pushB Sb (by omega) eb hg2
      refine aJ (fun h5=>?_) (fun h5=>?_)
      ·exact wpS_pure ⟨S3,.inl ⟨_,rfl,J2.firstB Sa (by simpa using h5) hf⟩⟩
      have h5':¬ nb' - 1=1:=by simpa using h5
      obtain ⟨pa,ea,ma⟩:=atA (i:=k - 1) (by have:=J.ha;omega)
      refine wpS_bind (aM (U:=Unit) ea ?_)
      refine wpS_bind (fc (fun i=>decide (Kr rk b (0+i) < rk pa)) (by omega) (fun i R hi r=>j6 L ma hb (by omega) kd3 (by simpa using r)) (fun i j hij hj hq=>decide_eq_true (Int.lt_of_le_of_lt (SKb _ _ (by omega) (by omega)) (of_decide_eq_true hq))) fun k1 hk1 hk11 hk12=>?_)
      dsimp only
      have J3:=J2.takeB Sb k1 (by omega) fun q hq p hp=>by
       obtain ⟨j,h3,h4,e⟩:=kO hq
       have:=of_decide_eq_false (hk12 j (by omega) (by omega))
       rw [Nat.zero_add,cD e] at this
       exact Int.le_trans (ql Sa hi1 ea hp) (by omega)
      have hle:∀ q∈b.toList.take k1,rk q<=rk pa:=fun q hq=>by
       obtain ⟨j,h3,e⟩:=zX hq
       have:=of_decide_eq_true (hk11 j h3)
       rw [Nat.zero_add,cD e] at this
       omega
      refine aJ (fun hk10=>?_) (fun hk10=>?_)
      ·refine aJ (fun h6=>?_) (fun h6=>aJ (fun h8=>?_) (fun h8=>?_))
       ·exact wpS_pure ⟨S3,.inl ⟨_,rfl,J3.firstB Sa (by simpa using h6) hf⟩⟩
       ·exact wpS_pure ⟨S3,.inl ⟨_,rfl,J3.doneB Sa (by simpa using h8)⟩⟩
       have h6':¬ k1=1:=by simpa using h6
       have h8':¬ k1=0:=by simpa using h8
       refine wpS_bind (aM (U:=Unit) ea ?_)
       have J5:=J3.pushA Sa hi1 ea hle
       refine aJ (fun h7=>?_) (fun h7=>?_)
       ·exact wpS_pure ⟨S3,.inl ⟨_,rfl,J5.doneA Sb (by simpa using h7)⟩⟩
       have h7':¬ k - 1=0:=by simpa using h7
       refine aJ (fun _=>?_) (fun _=>?_)
       ·exact wpS_pure ⟨S3,.inr ⟨rfl,J5,by dsimp only;omega,by dsimp only;omega,by dsimp only;omega⟩⟩
       ·exact wpS_pure ⟨S3,_,_,_,_,_,_,rfl,J5,by omega,by omega,by omega⟩
      ·obtain rfl:k1=nb' - 1:=by omega
       refine wpS_bind (aM (U:=Unit) ea ?_)
       have J5:=J2.pushA Sa hi1 ea hle
       refine aJ (fun h7=>?_) (fun h7=>?_)
       ·exact wpS_pure ⟨S3,.inl ⟨_,rfl,J5.doneA Sb (by simpa using h7)⟩⟩
       have h7':¬ k - 1=0:=by simpa using h7
       refine aJ (fun _=>?_) (fun _=>?_)
       ·exact wpS_pure ⟨S3,.inr ⟨rfl,J5,by dsimp only;omega,by dsimp only;omega,by dsimp only;omega⟩⟩
       ·exact wpS_pure ⟨S3,_,_,_,_,_,_,rfl,J5,by omega,by omega,by omega⟩
theorem sY (xs:Array Keyed) (i:Nat):Kr rk xs i=match xs.toList[i]? with | some p=>rk p | none=>0:=by
 unfold Kr
 rw [Array.getElem?_toList]
 all_goals (cases xs[i]? <;> rfl)
theorem ut {xs:Array Keyed} {lo hi:Nat} (h:Seg rk xs lo hi):nH rk ((xs.toList.drop lo).take (hi - lo)):=by
 refine List.pairwise_iff_getElem.mpr fun i j hi' hj hij=>?_
 have hj2:j < hi - lo/\lo+j < xs.size:=by simp at hj;omega
 have:=h (lo+i) (lo+j) (by omega) (by omega) (by omega)
 rw [cD (getElem?_pos xs (lo+i) (by omega)),cD (getElem?_pos xs (lo+j) hj2.2)] at this
 simpa using this
theorem Rq {xs:Array Keyed} {P S D:List Keyed} (e:xs.toList=P ++ S ++ D) (h:nH rk S):Seg rk xs P.length (P.length+S.length):=by
 intro i j h1 h2 h3
 have at_:∀ k,P.length<=k->k < P.length+S.length->xs.toList[k]?=S[k - P.length]?:=fun k a b=>by
  rw [e,List.append_assoc,List.getElem?_append_right a,List.getElem?_append_left (by omega)]
 have hi:i - P.length < S.length:=by omega
 have hj:j - P.length < S.length:=by omega
 rw [sY,sY,at_ i h1 (by omega),at_ j (by omega) h3,List.getElem?_eq_getElem hi,List.getElem?_eq_getElem hj]
 show rk _<=rk _
 by_cases hij:i=j
 ·subst hij;exact Int.le_refl _
 ·exact List.pairwise_iff_getElem.mp h _ _ hi hj (by omega)
theorem Ib:∀ (l:List Keyed) (off n:Nat) (xs:Array Keyed),off+n+l.length<=xs.size->∀ k,((l.zipIdx n).foldl (fun a (x:Keyed×Nat)=>a.setIfInBounds (off+x.2) x.1) xs)[k]?=if off+n<=k/\k < off+n+l.length then l[k - (off+n)]? else xs[k]?
 | [],off,n,xs,h,k=>by
  rw [if_neg (by rw [List.length_nil];omega)]
  rfl
 | p :: l,off,n,xs,h,k=>by
  have hl:(p :: l).length=l.length+1:=rfl
  show ((l.zipIdx (n+1)).foldl (fun a (x:Keyed×Nat)=>a.setIfInBounds (off+x.2) x.1) (xs.setIfInBounds (off+n) p))[k]?=_
  rw [Ib l off (n+1) (xs.setIfInBounds (off+n) p) (by rw [Array.size_setIfInBounds];omega)]
  by_cases h1:k=off+n
  ·subst h1
   rw [if_neg (by omega),if_pos (by omega),Array.getElem?_setIfInBounds,if_pos rfl,if_pos (by omega),Nat.sub_self];rfl
  ·by_cases h2:off+(n+1)<=k/\k < off+(n+1)+l.length
   ·rw [if_pos h2,if_pos (by omega),show k - (off+n)=(k - (off+(n+1)))+1 by omega,List.getElem?_cons_succ]
   ·rw [if_neg h2,if_neg (by omega),Array.getElem?_setIfInBounds,if_neg (by omega)]
theorem Ie (l:List Keyed) (off:Nat) (xs:Array Keyed) (h:off+l.length<=xs.size):(l.zipIdx.foldl (fun a (x:Keyed×Nat)=>a.setIfInBounds (off+x.2) x.1) xs).toList=xs.toList.take off ++ l ++ xs.toList.drop (off+l.length):=by
 refine List.ext_getElem? fun k=>?_
 rw [Array.getElem?_toList,Ib l off 0 xs (by omega) k]
 have t1:(xs.toList.take off).length=off:=by rw [List.length_take,Array.length_toList];omega
 rw [List.append_assoc]
 by_cases h1:k < off
 ·rw [if_neg (by omega),List.getElem?_append_left (by omega),List.getElem?_take_of_lt h1,Array.getElem?_toList]
 ·rw [List.getElem?_append_right (by omega),t1]
  by_cases h2:k < off+l.length
  ·rw [if_pos ⟨by omega,by omega⟩,List.getElem?_append_left (by omega),Nat.add_zero]
  ·rw [if_neg (by omega),List.getElem?_append_right (by omega),List.getElem?_drop,show off+l.length+(k - off - l.length)=k by omega,Array.getElem?_toList]
theorem BR {xs:Array Keyed} {sa na nb:Nat} (g1:Seg rk xs sa (sa+na)) (g2:Seg rk xs (sa+na) (sa+na+nb)) (n2:1<=nb) (h:∀ i,sa<=i->i < sa+na->Kr rk xs i<=Kr rk xs (sa+na)):Seg rk xs sa (sa+na+nb):=fun i j h1 h2 h3=>by
 by_cases a:j < sa+na
 ·exact g1 i j h1 h2 a
 ·by_cases b:i < sa+na
  ·exact Int.le_trans (h i h1 b) (g2 _ _ (Nat.le_refl _) (by omega) h3)
  ·exact g2 i j (by omega) h2 h3
theorem Ej {xs m:Array Keyed} {sa na nb k n':Nat} (hsz:sa+na+nb<=xs.size) (g1:Seg rk xs sa (sa+na)) (g2:Seg rk xs (sa+na) (sa+na+nb)) (hk:k < na) (hn:n'<=nb) (n2:1<=nb)
  (hA:∀ i,i < k->Kr rk xs (sa+i)<=Kr rk xs (sa+na)) (hX:∀ i,k<=i->i < na->Kr rk xs (sa+na) < Kr rk xs (sa+i)) (hB2:∀ i,n'<=i->i < nb->Kr rk xs (sa+na - 1)<=Kr rk xs (sa+na+i))
  (hm:Res rk (xs.extract (sa+k) (sa+na)) (xs.extract (sa+na) (sa+na+n')) m):
  (m.toList.zipIdx.foldl (fun a (x:Keyed×Nat)=>a.setIfInBounds (sa+k+x.2) x.1) xs).Perm xs/\Seg rk (m.toList.zipIdx.foldl (fun a (x:Keyed×Nat)=>a.setIfInBounds (sa+k+x.2) x.1) xs) sa (sa+na+nb)/\
  ∀ i,i < sa\/sa+na+nb<=i->Kr rk (m.toList.zipIdx.foldl (fun a (x:Keyed×Nat)=>a.setIfInBounds (sa+k+x.2) x.1) xs) i=Kr rk xs i:=by
 obtain ⟨hm1,hm2⟩:=hm
 rw [iY xs (by omega),iY xs (by omega),show sa+na - (sa+k)=na - k by omega,show sa+na+n' - (sa+na)=n' by omega] at hm2
 have lt:xs.toList.length=xs.size:=by simp
 have lm:m.toList.length=na - k+n':=by
  rw [hm2.length_eq,List.length_append,List.length_take,List.length_take,List.length_drop,List.length_drop,lt];omega
 have e:=Ie m.toList (sa+k) xs (by omega)
 rw [lm,show sa+k+(na - k+n')=sa+na+n' by omega] at e
 generalize m.toList.zipIdx.foldl (fun a (x:Keyed×Nat)=>a.setIfInBounds (sa+k+x.2) x.1) xs=W at e ⊢
 have t0:xs.toList.take (sa+k)=xs.toList.take sa ++ (xs.toList.drop sa).take k:=by
  have:=lO xs.toList (i:=sa) (n:=sa+k) (by omega)
  rwa [show sa+k - sa=k by omega] at this
 have t1:xs.toList.take (sa+na)=xs.toList.take (sa+k) ++ (xs.toList.drop (sa+k)).take (na - k):=by
  have:=lO xs.toList (i:=sa+k) (n:=sa+na) (by omega)
  rwa [show sa+na - (sa+k)=na - k by omega] at this
 have t2:xs.toList.drop (sa+na)=(xs.toList.drop (sa+na)).take n' ++ xs.toList.drop (sa+na+n'):=lN _ _ _
 have t3:xs.toList.drop (sa+na+n')=(xs.toList.drop (sa+na+n')).take (nb - n') ++ xs.toList.drop (sa+na+nb):=by
  have:=lN xs.toList (sa+na+n') (nb - n')
  rwa [show sa+na+n'+(nb - n')=sa+na+nb by omega] at this
 have eW:W.toList=xs.toList.take sa ++ ((xs.toList.drop sa).take k ++ m.toList ++ (xs.toList.drop (sa+na+n')).take (nb - n')) ++ xs.toList.drop (sa+na+nb):=by
  rw [e,t0]
  conv=>lhs;rw [t3]
  simp only [List.append_assoc]
 have lP:(xs.toList.take sa).length=sa:=by rw [List.length_take,lt];omega
 have lS:((xs.toList.drop sa).take k ++ m.toList ++ (xs.toList.drop (sa+na+n')).take (nb - n')).length=na+nb:=by
  rw [List.length_append,List.length_append,lm,List.length_take,List.length_take,List.length_drop,List.length_drop,lt];omega
 have kr:∀ {i:Nat} {p:Keyed},xs[i]?=some p->Kr rk xs i=rk p:=fun e=>cD e
 have memM:∀ {q:Keyed},q∈m.toList->(∃ i,k<=i/\i < na/\xs[sa+i]?=some q)\/∃ i,i < n'/\xs[sa+na+i]?=some q:=fun {q} hq=>by
  rcases List.mem_append.mp (hm2.mem_iff.mp hq) with hq | hq
  ·obtain ⟨j,h1,h2,e⟩:=kO hq
   exact .inl ⟨j - sa,by omega,by omega,by rw [show sa+(j - sa)=j by omega];exact e⟩
  ·obtain ⟨j,h1,h2,e⟩:=kO hq
   exact .inr ⟨j - (sa+na),by omega,by rw [show sa+na+(j - (sa+na))=j by omega];exact e⟩
 refine ⟨?_,?_,?_⟩
 ·rw [Array.perm_iff_toList_perm,e]
  have ex:xs.toList=xs.toList.take (sa+k) ++ ((xs.toList.drop (sa+k)).take (na - k) ++ (xs.toList.drop (sa+na)).take n') ++ xs.toList.drop (sa+na+n'):=by
   conv=>lhs;rw [← List.take_append_drop (sa+na) xs.toList,t1,t2]
   simp only [List.append_assoc]
  conv=>rhs;rw [ex]
  exact List.Perm.append_right _ (List.Perm.append_left _ hm2)
 ·have:=Rq (rk:=rk) eW ?_
  ·rw [lP,lS,← Nat.add_assoc] at this;exact this
  have s1:nH rk ((xs.toList.drop sa).take k):=by
   have:=ut (rk:=rk) (xs:=xs) (lo:=sa) (hi:=sa+k) fun i j a b c=>g1 i j a b (by omega)
   rwa [show sa+k - sa=k by omega] at this
  have s2:nH rk ((xs.toList.drop (sa+na+n')).take (nb - n')):=by
   have:=ut (rk:=rk) (xs:=xs) (lo:=sa+na+n') (hi:=sa+na+nb) fun i j a b c=>g2 i j (by omega) b c
   rwa [show sa+na+nb - (sa+na+n')=nb - n' by omega] at this
  refine List.pairwise_append.mpr ⟨List.pairwise_append.mpr ⟨s1,hm1,fun p hp q hq=>?_⟩,s2,fun p hp q hq=>?_⟩
  ·obtain ⟨j,h1,h2,ep⟩:=kO hp
   have a1:=hA (j - sa) (by omega)
   rw [show sa+(j - sa)=j by omega,kr ep] at a1
   rcases memM hq with ⟨i,h3,h4,eq⟩ | ⟨i,h3,eq⟩
   ·have:=hX i h3 h4
    rw [kr eq] at this;omega
   ·have:=g2 (sa+na) (sa+na+i) (by omega) (by omega) (by omega)
    rw [kr eq] at this;omega
  ·obtain ⟨j,h1,h2,eq⟩:=kO hq
   rcases List.mem_append.mp hp with hp | hp
   ·obtain ⟨i,h3,h4,ep⟩:=kO hp
    have a1:=hA (i - sa) (by omega)
    rw [show sa+(i - sa)=i by omega,kr ep] at a1
    have:=g2 (sa+na) j (by omega) (by omega) (by omega)
    rw [kr eq] at this;omega
   ·rcases memM hp with ⟨i,h3,h4,ep⟩ | ⟨i,h3,ep⟩
    ·have a1:=g1 (sa+i) (sa+na - 1) (by omega) (by omega) (by omega)
     have a2:=hB2 (j - (sa+na)) (by omega) (by omega)
     rw [show sa+na+(j - (sa+na))=j by omega,kr eq] at a2
     rw [kr ep] at a1;omega
    ·have:=g2 (sa+na+i) j (by omega) (by omega) (by omega)
     rw [kr ep,kr eq] at this;exact this
 ·intro i hi
  rw [sY,sY,eW]
  rcases hi with hi | hi
  ·rw [List.append_assoc,List.getElem?_append_left (by omega),List.getElem?_take_of_lt hi]
  ·rw [List.getElem?_append_right (by rw [List.length_append,lP,lS];omega),List.length_append,lP,lS,List.getElem?_drop,show sa+na+nb+(i - (sa+(na+nb)))=i by omega]
theorem yj {st:SortSt} {i sa na nb pw pw2:Nat} {Q:Bool->SortSt->Prop} (L:qg M A E s kd rk a₀) (hB:SB a₀ kd st) (e1:(pendingOf st)[i]?=some (sa,na,pw)) (e2:(pendingOf st)[i+1]?=some (sa+na,nb,pw2)) (n1:1<=na) (n2:1<=nb)
  (hsz:sa+na+nb<=a₀.size) (g1:Seg rk (arrOf st) sa (sa+na)) (g2:Seg rk (arrOf st) (sa+na) (sa+na+nb))
  (h:∀ st',SB a₀ kd st'->pendingOf st'=((pendingOf st).setIfInBounds i (sa,na+nb,pw)).eraseIdxIfInBounds (i+1)->Seg rk (arrOf st') sa (sa+na+nb)->(∀ k,k < sa\/sa+na+nb<=k->Kr rk (arrOf st') k=Kr rk (arrOf st) k)->Q true st'):
  wpS M A E s (mergeAt' i) Q st:=by
 refine wpS_bind (wpS_get ?_)
 dsimp only
 rw [e1,e2]
 dsimp only
 have hsz':sa+na+nb<=(arrOf st).size:=by rw [hB.size];exact hsz
 refine wpS_bind (m:=set _) ?_
 show wpS M A E s (modify fun _=>setPending st (((pendingOf st).setIfInBounds i (sa,na+nb,pw)).eraseIdxIfInBounds (i+1))) _ st
 refine wpS_modify ?_
 obtain ⟨p0,ep0,m0⟩:=hB.at (i:=sa+na) (by omega)
 refine wpS_bind (aM (U:=Unit) ep0 ?_)
 have hmem:∀ p∈(arrOf st).toList,p∈a₀.toList:=fun p hp=>hB.mem hp
 have hK0:Kr rk (arrOf st) (sa+na)=rk p0:=cD ep0
 have hB1:SB a₀ kd (setPending st (((pendingOf st).setIfInBounds i (sa,na+nb,pw)).eraseIdxIfInBounds (i+1))):=⟨hB.perm,hB.kind,hB.failed⟩
 refine wpS_bind (fc (arr:=arrOf st) (fun i=>decide (Kr rk (arrOf st) (sa+i)<=rk p0)) (by omega) (fun i R hi r=>j6 L m0 hmem (by omega) hB1.kind (by simpa using r)) (fun i j hij hj hq=>decide_eq_true (Int.le_trans (g1 _ _ (by omega) (by omega) (by omega)) (of_decide_eq_true hq))) fun k hk hk1 hk2=>?_)
 dsimp only
 refine aJ (fun h3=>?_) (fun h3=>?_)
 ·have h3':na - k=0:=by simpa using h3
  refine wpS_pure (h _ hB1 rfl (BR g1 g2 n2 fun i a b=>?_) fun _ _=>rfl)
  have:=of_decide_eq_true (hk1 (i - sa) (by omega))
  rw [show sa+(i - sa)=i by omega] at this
  rw [hK0];exact this
 have h3':¬ na - k=0:=by simpa using h3
 obtain ⟨p1,ep1,m1⟩:=hB.at (i:=sa+k+(na - k) - 1) (by omega)
 refine wpS_bind (aM (U:=Unit) ep1 ?_)
 have hK1:Kr rk (arrOf st) (sa+na - 1)=rk p1:=by rw [show sa+na - 1=sa+k+(na - k) - 1 by omega];exact cD ep1
 refine wpS_bind (fc (arr:=arrOf st) (fun i=>decide (Kr rk (arrOf st) (sa+na+i) < rk p1)) (by omega) (fun i R hi r=>j6 L m1 hmem (by omega) hB1.kind (by simpa using r)) (fun i j hij hj hq=>decide_eq_true (Int.lt_of_le_of_lt (g2 _ _ (by omega) (by omega) (by omega)) (of_decide_eq_true hq))) fun n' hn' hn1 hn2=>?_)
 dsimp only
 have hB2:∀ i,n'<=i->i < nb->Kr rk (arrOf st) (sa+na - 1)<=Kr rk (arrOf st) (sa+na+i):=fun i a b=>by
  have:=of_decide_eq_false (hn2 i a b)
  rw [hK1];omega
 refine aJ (fun h4=>?_) (fun h4=>?_)
 ·have h4':n'=0:=by simpa using h4
  refine wpS_pure (h _ hB1 rfl (BR g1 g2 n2 fun i a b=>?_) fun _ _=>rfl)
  have a1:=g1 i (sa+na - 1) a (by omega) (by omega)
  have a2:=hB2 0 (by omega) (by omega)
  exact Int.le_trans a1 a2
 have h4':¬ n'=0:=by simpa using h4
 have hA:∀ i,i < k->Kr rk (arrOf st) (sa+i)<=Kr rk (arrOf st) (sa+na):=fun i hi=>by rw [hK0];exact of_decide_eq_true (hk1 i hi)
 have hX:∀ i,k<=i->i < na->Kr rk (arrOf st) (sa+na) < Kr rk (arrOf st) (sa+i):=fun i a b=>by
  have:=of_decide_eq_false (hk2 i a b)
  rw [hK0];omega
 have memX:∀ p∈((arrOf st).extract (sa+k) (sa+na)).toList,∃ j,sa+k<=j/\j < sa+na/\(arrOf st)[j]?=some p:=fun p hp=>by
  rw [iY _ (by omega)] at hp
  obtain ⟨j,a,b,c⟩:=kO hp
  exact ⟨j,a,by omega,c⟩
 have memY:∀ p∈((arrOf st).extract (sa+na) (sa+na+n')).toList,∃ j,sa+na<=j/\j < sa+na+n'/\(arrOf st)[j]?=some p:=fun p hp=>by
  rw [iY _ (by omega)] at hp
  obtain ⟨j,a,b,c⟩:=kO hp
  exact ⟨j,a,by omega,c⟩
 have fin:∀ (m:Array Keyed) (st2:SortSt),Sm (setPending st (((pendingOf st).setIfInBounds i (sa,na+nb,pw)).eraseIdxIfInBounds (i+1))) st2->Res rk ((arrOf st).extract (sa+k) (sa+na)) ((arrOf st).extract (sa+na) (sa+na+n')) m->
   wpS M A E s (do
    modify fun s=>setArr s (List.foldl (fun a (x:Keyed×Nat)=>a.setIfInBounds (sa+k+x.snd) x.fst) (arrOf s) m.toList.zipIdx)
    let __do_lift ← get
    pure (failedOf __do_lift).isNone) Q st2:=fun m st2 S R=>by
  obtain ⟨q1,q2,q3⟩:=Ej hsz' g1 g2 (by omega) hn' n2 hA hX hB2 R
  refine wpS_bind (wpS_modify (wpS_bind (wpS_get (wpS_pure ?_))))
  have ea:arrOf st2=arrOf st:=S.arr
  have ef:failedOf st2=none:=S.failed.trans hB.failed
  show Q (failedOf st2).isNone _
  rw [ef]
  refine h _ ⟨?_,S.kind.trans hB.kind,ef⟩ S.pend ?_ ?_
  ·show (List.foldl _ (arrOf st2) _).Perm a₀
   rw [ea];exact q1.trans hB.perm
  ·show Seg rk (List.foldl _ (arrOf st2) _) _ _
   rw [ea];exact q2
  ·intro k' hk'
   show Kr rk (List.foldl _ (arrOf st2) _) _=_
   rw [ea];exact q3 k' hk'
 have szX:((arrOf st).extract (sa+k) (sa+na)).size=na - k:=by rw [Array.size_extract];omega
 have szY:((arrOf st).extract (sa+na) (sa+na+n')).size=n':=by rw [Array.size_extract];omega
 have haX:∀ p∈((arrOf st).extract (sa+k) (sa+na)).toList,p∈a₀.toList:=fun p hp=>by
  obtain ⟨j,_,_,e⟩:=memX p hp
  exact hmem p (by rw [← (Array.getElem?_eq_some_iff.mp e).2];simp)
 have haY:∀ p∈((arrOf st).extract (sa+na) (sa+na+n')).toList,p∈a₀.toList:=fun p hp=>by
  obtain ⟨j,_,_,e⟩:=memY p hp
  exact hmem p (by rw [← (Array.getElem?_eq_some_iff.mp e).2];simp)
 have SX:nH rk ((arrOf st).extract (sa+k) (sa+na)).toList:=by
  rw [iY _ (by omega)]
  exact ut fun i j a b c=>g1 i j (by omega) b c
 have SY:nH rk ((arrOf st).extract (sa+na) (sa+na+n')).toList:=by
  rw [iY _ (by omega)]
  exact ut fun i j a b c=>g2 i j (by omega) b (by omega)
 have hf:∀ p,((arrOf st).extract (sa+na) (sa+na+n'))[0]?=some p->∀ q∈((arrOf st).extract (sa+k) (sa+na)).toList,rk p<=rk q:=fun p ep q hq=>by
  rw [Array.getElem?_extract,if_pos (by omega),Nat.add_zero] at ep
  obtain ⟨j,a,b,c⟩:=memX q hq
  have:=hX (j - sa) (by omega) (by omega)
  rw [show sa+(j - sa)=j by omega,cD c,cD ep] at this
  omega
 have hl:∀ p,((arrOf st).extract (sa+k) (sa+na))[((arrOf st).extract (sa+k) (sa+na)).size - 1]?=some p->∀ q∈((arrOf st).extract (sa+na) (sa+na+n')).toList,rk q<=rk p:=fun p ep q hq=>by
  rw [szX,Array.getElem?_extract,if_pos (by omega),show sa+k+(na - k - 1)=sa+k+(na - k) - 1 by omega,ep1] at ep
  have ep:p1=p:=Option.some.inj ep
  obtain ⟨j,a,b,c⟩:=memY q hq
  have:=of_decide_eq_true (hn1 (j - (sa+na)) (by omega))
  rw [show sa+na+(j - (sa+na))=j by omega,cD c] at this
  rw [← ep];omega
 refine aJ (fun _=>?_) (fun _=>?_)
 ·exact wpS_bind (yf (a:=(arrOf st).extract (sa+k) (sa+na)) (b:=(arrOf st).extract (sa+na) (sa+na+n')) L haX haY SX SY (by omega) (by omega) hf hl hB1.kind fun r st2 S R=>fin r st2 S R)
 ·exact wpS_bind (yh (a:=(arrOf st).extract (sa+k) (sa+na)) (b:=(arrOf st).extract (sa+na) (sa+na+n')) L haX haY SX SY (by omega) (by omega) hf hl hB1.kind fun r st2 S R=>fin r st2 S R)
def Runs (rk:Keyed->Int) (xs:Array Keyed):List (Nat×Nat×Nat)->Nat->Nat->Prop
 | [],s,e=>s=e
 | (st,n,_) :: l,s,e=>st=s/\1<=n/\Seg rk xs s (s+n)/\Runs rk xs l (s+n) e
theorem Runs.le {xs:Array Keyed}:∀ {l:List (Nat×Nat×Nat)} {s e:Nat},Runs rk xs l s e->s+l.length<=e
 | [],s,e,h=>Nat.le_of_eq h
 | (st,n,p) :: l,s,e,⟨_,h1,_,h2⟩=>by
  have:=Runs.le h2
  show s+(l.length+1)<=e
  omega
theorem Runs.app {xs:Array Keyed}:∀ {l:List (Nat×Nat×Nat)} {m:List (Nat×Nat×Nat)} {s e:Nat},Runs rk xs (l ++ m) s e↔∃ k,Runs rk xs l s k/\Runs rk xs m k e
 | [],m,s,e=>⟨fun h=>⟨s,rfl,h⟩,fun ⟨k,h1,h2⟩=>by
   have h1:s=k:=h1
   subst h1;exact h2⟩
 | (st,n,p) :: l,m,s,e=>⟨fun ⟨h1,h2,h3,h4⟩=>by
   obtain ⟨k,h5,h6⟩:=Runs.app.mp h4
   exact ⟨k,⟨h1,h2,h3,h5⟩,h6⟩,fun ⟨k,⟨h1,h2,h3,h4⟩,h5⟩=>⟨h1,h2,h3,Runs.app.mpr ⟨k,h4,h5⟩⟩⟩
theorem Runs.congr {xs ys:Array Keyed}:∀ {l:List (Nat×Nat×Nat)} {s e:Nat},(∀ k,s<=k->k < e->Kr rk ys k=Kr rk xs k)->Runs rk xs l s e->Runs rk ys l s e
 | [],s,e,_,h=>h
 | (st,n,p) :: l,s,e,hk,⟨h1,h2,h3,h4⟩=>by
  have hle:=Runs.le h4
  refine ⟨h1,h2,fun i j a b c=>?_,Runs.congr (fun k a b=>hk k (by omega) b) h4⟩
  rw [hk i (by omega) (by omega),hk j (by omega) (by omega)]
  exact h3 i j a b c
theorem Rr {α:Type} {l:List α} {i:Nat} (h:i+1 < l.length):∃ P a b D,l=P ++ a :: b :: D/\P.length=i:=by
 refine ⟨l.take i,l[i],l[i+1],l.drop (i+2),?_,by rw [List.length_take];omega⟩
 conv=>lhs;rw [← List.take_append_drop i l]
 rw [List.drop_eq_getElem_cons (by omega),List.drop_eq_getElem_cons h]
theorem pA {st:SortSt} {i lo:Nat} {Q:Bool->SortSt->Prop} (L:qg M A E s kd rk a₀) (hB:SB a₀ kd st) (hR:Runs rk (arrOf st) (pendingOf st).toList 0 lo) (hi:i+1 < (pendingOf st).size) (hlo:lo<=a₀.size)
  (h:∀ st',SB a₀ kd st'->Runs rk (arrOf st') (pendingOf st').toList 0 lo->(pendingOf st').size+1=(pendingOf st).size->(∀ k,lo<=k->Kr rk (arrOf st') k=Kr rk (arrOf st) k)->Q true st'):wpS M A E s (mergeAt' i) Q st:=by
 obtain ⟨P,⟨sa,na,pw⟩,⟨sb,nb,pw2⟩,D,e,hP⟩:=Rr (l:=(pendingOf st).toList) (i:=i) (by simpa using hi)
 have hR0:=hR
 rw [e] at hR
 obtain ⟨k,r1,h1,n1,g1,h2,n2,g2,r2⟩:=Runs.app.mp hR
 subst h1 h2
 have le1:=r1.le
 have le2:=r2.le
 have e1:(pendingOf st)[i]?=some (sa,na,pw):=by rw [← Array.getElem?_toList,e,List.getElem?_append_right (by omega),hP,Nat.sub_self];rfl
 have e2:(pendingOf st)[i+1]?=some (sa+na,nb,pw2):=by rw [← Array.getElem?_toList,e,List.getElem?_append_right (by omega),hP,show i+1 - i=1 by omega];rfl
 refine yj L hB e1 e2 n1 n2 (by omega) g1 g2 fun st' hB' hp hS hF=>?_
 have tl:(pendingOf st').toList=P ++ (sa,na+nb,pw) :: D:=by
  rw [hp,Array.toList_eraseIdxIfInBounds,Array.toList_setIfInBounds,e,List.set_append_right _ _ (by omega),hP,Nat.sub_self,List.set_cons_zero,List.eraseIdx_append_of_length_le (by omega),hP,show i+1 - i=1 by omega]
  rfl
 refine h st' hB' ?_ ?_ fun k hk=>hF k (.inr (by omega))
 ·rw [tl]
  refine Runs.app.mpr ⟨sa,Runs.congr (fun k a b=>hF k (.inl b)) r1,rfl,by omega,by rw [← Nat.add_assoc];exact hS,?_⟩
  rw [← Nat.add_assoc]
  exact Runs.congr (fun k a b=>hF k (.inr a)) r2
 ·have l1:=congrArg List.length tl
  have l2:=congrArg List.length e
  simp at l1 l2
  omega
theorem Runs.mod {xs:Array Keyed} {f:Nat×Nat×Nat->Nat×Nat×Nat} (hf:∀ q,(f q).1=q.1/\(f q).2.1=q.2.1):∀ {l:List (Nat×Nat×Nat)} {i s e:Nat},Runs rk xs l s e->Runs rk xs (l.modify i f) s e
 | [],i,s,e,h=>by rw [List.modify_nil];exact h
 | (st,n,p) :: l,0,s,e,⟨h1,h2,h3,h4⟩=>by
  rw [List.modify_zero_cons]
  obtain ⟨a,b⟩:=hf (st,n,p)
  generalize f (st,n,p)=q at a b
  obtain ⟨x,y,z⟩:=q
  dsimp only at a b
  subst a b
  exact ⟨h1,h2,h3,h4⟩
 | (st,n,p) :: l,i+1,s,e,⟨h1,h2,h3,h4⟩=>by
  rw [List.modify_succ_cons]
  exact ⟨h1,h2,h3,Runs.mod hf h4⟩
theorem Ek {st:SortSt} {Q:Unit->SortSt->Prop} (L:qg M A E s kd rk a₀) (hB:SB a₀ kd st) (hp:pendingOf st= #[]) (h2:2<=a₀.size)
  (h:∀ st',SB a₀ kd st'->Seg rk (arrOf st') 0 a₀.size->Q () st'):wpS M A E s sortRuns' Q st:=by
 rw [sortRuns'_eq]
 refine wpS_bind (wpS_get ?_)
 dsimp only
 generalize minRun' (arrOf st).size (arrOf st).size 0=mr
 rw [hB.size]
 refine wpS_bind (wpS_mono (wpS_forRange
  (I:=fun x c st'=>∃ lo,c=(none,lo)/\SB a₀ kd st'/\Runs rk (arrOf st') (pendingOf st').toList 0 lo/\lo<=a₀.size/\x<=lo)
  (Q:=fun c st'=>c=(none,a₀.size)/\SB a₀ kd st'/\Runs rk (arrOf st') (pendingOf st').toList 0 a₀.size) ?step ?fin ⟨0,rfl,hB,by rw [hp];rfl,by omega,by omega⟩) ?post)
 case fin=>
  rintro c st' ⟨lo,rfl,hB',hR,a,b⟩
  obtain rfl:lo=a₀.size:=by omega
  exact ⟨rfl,hB',hR⟩
 case step=>
  rintro x c st' _ hx ⟨lo,rfl,hB',hR,a,b⟩
  dsimp only
  by_cases hge:lo>=a₀.size
  ·rw [if_pos hge]
   obtain rfl:lo=a₀.size:=by omega
   exact wpS_pure ⟨rfl,hB',hR⟩
  rw [if_neg hge]
  refine wpS_bind (zW (rk:=rk) L (by omega) (by omega) hB' fun m st1 N1 m1 m2 S1=>?_)
  dsimp only
  have R1:Runs rk (arrOf st1) (pendingOf st1).toList 0 lo:=by
   rw [N1.pe]
   exact Runs.congr (fun k _ hk=>N1.fr k hk) hR
  by_cases hmr:m < mr
  ·rw [if_pos hmr]
   refine wpS_bind (wpS_lift (wpAny_rule ⟨rfl,?_⟩))
   refine wpS_bind (HW L (by omega) (by omega) N1.sb S1 fun st2 N2 S2=>?_)
   rw [if_neg (by decide)]
   have R2:Runs rk (arrOf st2) (pendingOf st2).toList 0 lo:=by
    rw [N2.pe]
    exact Runs.congr (fun k _ hk=>N2.fr k hk) R1
   have B2:=N2.sb
   have N1:1<=min (a₀.size - lo) mr:=by omega
   have LE:lo+min (a₀.size - lo) mr<=a₀.size:=by omega
   refine wpS_bind (wpS_get ?_)
   rcases hbk:(pendingOf st2).back? with _ | ⟨s1,n1,p1⟩
   ·dsimp only
    refine wpS_bind (wpS_modify (wpS_pure ⟨_,rfl,⟨B2.perm,B2.kind,B2.failed⟩,?_,LE,by omega⟩))
    show Runs rk (arrOf st2) ((pendingOf st2).push _).toList 0 _
    rw [Array.toList_push]
    exact Runs.app.mpr ⟨lo,R2,rfl,N1,S2,rfl⟩
   ·dsimp only
    refine wpS_bind (wpS_mono (wpS_forRange (I:=fun _ c st3=>c=(none,())/\SB a₀ kd st3/\Runs rk (arrOf st3) (pendingOf st3).toList 0 lo/\Seg rk (arrOf st3) lo (lo+min (a₀.size - lo) mr))
     (Q:=fun c st3=>c=(none,())/\SB a₀ kd st3/\Runs rk (arrOf st3) (pendingOf st3).toList 0 lo/\Seg rk (arrOf st3) lo (lo+min (a₀.size - lo) mr)) ?_ (fun _ _ hh=>hh) ⟨rfl,B2,R2,S2⟩) ?_)
    ·rintro y c st3 _ _ ⟨rfl,B3,R3,S3⟩
     refine wpS_bind (wpS_get ?_)
     by_cases hs1:(pendingOf st3).size > 1
     ·rw [if_pos hs1,getElem?_pos (pendingOf st3) ((pendingOf st3).size - 2) (by omega)]
      generalize (pendingOf st3)[(pendingOf st3).size - 2]=pq
      obtain ⟨q1,q2,q3⟩:=pq
      dsimp only
      refine aJ (fun _=>wpS_pure ⟨rfl,B3,R3,S3⟩) (fun _=>?_)
      refine wpS_bind (pA L B3 R3 (by omega) a fun st4 B4 R4 _ F4=>?_)
      rw [if_neg (by decide)]
      refine wpS_pure ⟨rfl,B4,R4,fun i j h5 h6 h7=>?_⟩
      rw [F4 i h5,F4 j (by omega)]
      exact S3 i j h5 h6 h7
     ·rw [if_neg hs1]
      exact wpS_pure ⟨rfl,B3,R3,S3⟩
    ·rintro c st3 ⟨rfl,B3,R3,S3⟩
     dsimp only
     refine wpS_bind (wpS_modify (wpS_bind (wpS_modify (wpS_pure ⟨_,rfl,⟨B3.perm,B3.kind,B3.failed⟩,?_,LE,by omega⟩))))
     show Runs rk (arrOf st3) (((pendingOf st3).modify _ _).push _).toList 0 _
     rw [Array.toList_push,Array.toList_modify]
     refine Runs.app.mpr ⟨lo,?_,rfl,N1,S3,rfl⟩
     refine Runs.mod ?_ R3;exact fun q=>⟨rfl,rfl⟩
  ·rw [if_neg hmr]
   obtain ⟨st2,rfl⟩:∃ st2,st1=st2:=⟨_,rfl⟩
   have R2:=R1
   have S2:=S1
   have B2:=N1.sb
   have N1:=m1
   have LE:lo+m<=a₀.size:=by omega
   refine wpS_bind (wpS_get ?_)
   rcases hbk:(pendingOf st1).back? with _ | ⟨s1,n1,p1⟩
   ·dsimp only
    refine wpS_bind (wpS_modify (wpS_pure ⟨_,rfl,⟨B2.perm,B2.kind,B2.failed⟩,?_,LE,by omega⟩))
    show Runs rk (arrOf st1) ((pendingOf st1).push _).toList 0 _
    rw [Array.toList_push]
    exact Runs.app.mpr ⟨lo,R2,rfl,N1,S2,rfl⟩
   ·dsimp only
    refine wpS_bind (wpS_mono (wpS_forRange (I:=fun _ c st3=>c=(none,())/\SB a₀ kd st3/\Runs rk (arrOf st3) (pendingOf st3).toList 0 lo/\Seg rk (arrOf st3) lo (lo+m))
     (Q:=fun c st3=>c=(none,())/\SB a₀ kd st3/\Runs rk (arrOf st3) (pendingOf st3).toList 0 lo/\Seg rk (arrOf st3) lo (lo+m)) ?_ (fun _ _ hh=>hh) ⟨rfl,B2,R2,S2⟩) ?_)
    ·rintro y c st3 _ _ ⟨rfl,B3,R3,S3⟩
     refine wpS_bind (wpS_get ?_)
     by_cases hs1:(pendingOf st3).size > 1
     ·rw [if_pos hs1,getElem?_pos (pendingOf st3) ((pendingOf st3).size - 2) (by omega)]
      generalize (pendingOf st3)[(pendingOf st3).size - 2]=pq
      obtain ⟨q1,q2,q3⟩:=pq
      dsimp only
      refine aJ (fun _=>wpS_pure ⟨rfl,B3,R3,S3⟩) (fun _=>?_)
      refine wpS_bind (pA L B3 R3 (by omega) a fun st4 B4 R4 _ F4=>?_)
      rw [if_neg (by decide)]
      refine wpS_pure ⟨rfl,B4,R4,fun i j h5 h6 h7=>?_⟩
      rw [F4 i h5,F4 j (by omega)]
      exact S3 i j h5 h6 h7
     ·rw [if_neg hs1]
      exact wpS_pure ⟨rfl,B3,R3,S3⟩
    ·rintro c st3 ⟨rfl,B3,R3,S3⟩
     dsimp only
     refine wpS_bind (wpS_modify (wpS_bind (wpS_modify (wpS_pure ⟨_,rfl,⟨B3.perm,B3.kind,B3.failed⟩,?_,LE,by omega⟩))))
     show Runs rk (arrOf st3) (((pendingOf st3).modify _ _).push _).toList 0 _
     rw [Array.toList_push,Array.toList_modify]
     refine Runs.app.mpr ⟨lo,?_,rfl,N1,S3,rfl⟩
     refine Runs.mod ?_ R3;exact fun q=>⟨rfl,rfl⟩
 case post=>
  rintro c st' ⟨rfl,hB',hR⟩
  dsimp only
  have hle:=hR.le
  refine wpS_bind (wpS_mono (wpS_forRange (I:=fun x c st3=>c=(none,())/\SB a₀ kd st3/\Runs rk (arrOf st3) (pendingOf st3).toList 0 a₀.size/\(pendingOf st3).size+x<=a₀.size)
   (Q:=fun c st3=>c=(none,())/\SB a₀ kd st3/\Runs rk (arrOf st3) (pendingOf st3).toList 0 a₀.size/\(pendingOf st3).size<=1) ?_ ?_ ⟨rfl,hB',hR,by simp at hle;omega⟩) ?_)
  ·rintro y c st3 _ hy ⟨rfl,B3,R3,P3⟩
   refine wpS_bind (wpS_get ?_)
   by_cases hs1:(pendingOf st3).size<=1
   ·rw [if_pos hs1]
    exact wpS_pure ⟨rfl,B3,R3,hs1⟩
   ·rw [if_neg hs1]
    refine wpS_bind (pA L B3 R3 ?_ (Nat.le_refl _) fun st4 B4 R4 P4 _=>?_)
    ·have gen:∀ (c:Prop) [Decidable c],(if c then (pendingOf st3).size - 2 - 1 else (pendingOf st3).size - 2)+1 < (pendingOf st3).size:=fun c _=>by split <;> omega
     exact gen _
    ·rw [if_neg (by decide)]
     exact wpS_pure ⟨rfl,B4,R4,by omega⟩
  ·rintro c st3 ⟨rfl,B3,R3,P3⟩
   exact ⟨rfl,B3,R3,by omega⟩
  ·rintro c st3 ⟨rfl,B3,R3,P3⟩
   refine wpS_pure (h st3 B3 ?_)
   have hl:(pendingOf st3).toList.length<=1:=by simpa using P3
   generalize (pendingOf st3).toList=l at hl R3
   match l,hl,R3 with
   | [],_,R3=>
    have:0=a₀.size:=R3
    omega
   | [(x,n,p)],_,⟨h5,h6,h7,h8⟩=>
    have h8:0+n=a₀.size:=h8
    rw [h8] at h7
    exact h7
end
end L2
namespace L2
open PySem PySem.W PySem.Spec PyProof.Rows
section
variable {prog:Program} {w:World} {A:Around} {E:Value->Shared->Prop} {s:Shared}
theorem jD {vs:List Value} {p:Keyed} (h:p∈(vs.toArray.zip vs.toArray).toList):p.1=p.2/\p.1∈vs:=by
 rw [Array.toList_zip] at h
 exact mem_zip_self h
theorem Ig {a:Addr} {vs:List Value} {n:Nat} {κ:SortKind} {rv:Value->Int} {P:PySem.Fin->Shared->Prop}
  (ho:s.heap.get? a=some (seqObj "list" vs.toArray n)) (few:vs.length<=100000)
  (hK:2<=vs.length->∀ (s':Shared) (R:SortKind->Shared->Prop),V3 a s.heap s'.heap->R κ s'->wpAny (model prog w) A (keyKind' vs.toArray) R E s')
  (hC:∀ (s':Shared) (x y:Value) (R:Bool->Shared->Prop) (E':Value->Shared->Prop),V3 a s.heap s'.heap->x∈vs->y∈vs->R (decide (rv x < rv y)) s'->wpAny (model prog w) A (keyLt' κ x y) R E' s')
  (h:∀ out:List Value,out.Perm vs->(out.Pairwise fun x y=>rv x<=rv y)->P (.done (.ret .none)) {s with heap:=sortedHeap s.heap a vs out.toArray}):
  wpAny (model prog w) A (Builtin.«list.sort» ⟨[.ref a],[]⟩) P E s:=by
 rw [list_sort_plain]
 refine wpAny_bind (listItems_at ho rfl (wpAny_bind (listUpdate_at ho rfl ?_)))
 obtain ⟨k,hk⟩:∃ k,(s.heap.update a (Obj.mapSeq fun _=>#[])).get? a=some (seqObj "list" #[] k):=⟨_,get?_update_seq ho (fun _=>#[])⟩
 refine wpAny_bind (seqEpoch_at hk rfl (wpAny_bind (wpAny_newTuple (wpAny_bind (wpAny_newList (wpAny_holding ?_))))))
 have hk2:=Heap.get?_push_of_some (seqObj "list" #[] 0) (Heap.get?_push_of_some (seqObj "tuple" vs.toArray 0) hk)
 have bt:=DY (h:=s.heap) (a:=a) (f:=Obj.mapSeq fun _=>#[]) (x:=seqObj "tuple" vs.toArray 0) (y:=seqObj "list" #[] 0)
 show wpAny (model prog w) A _ P E {s with heap:=(((s.heap.update a (Obj.mapSeq fun _=>#[])).push (seqObj "tuple" vs.toArray 0)).push (seqObj "list" #[] 0))}
 generalize hS:({s with heap:=(((s.heap.update a (Obj.mapSeq fun _=>#[])).push (seqObj "tuple" vs.toArray 0)).push (seqObj "list" #[] 0))}:Shared)=s2
 dsimp only
 have sz:vs.toArray.size=vs.length:=by simp
 have hs:200000<=sizeLine:=by decide
 have hk3:s2.heap.get? a=some (seqObj "list" #[] k):=by rw [← hS];exact hk2
 have bt2:V3 a s.heap s2.heap:=by rw [← hS];exact bt
 have fin:∀ out:List Value,out.Perm vs->(out.Pairwise fun x y=>rv x<=rv y)->P (.done (.ret .none)) {s2 with heap:=s2.heap.update a (Obj.mapSeq fun _=>out.toArray)}:=fun out h1 h2=>by
  rw [← hS];exact h out h1 h2
 by_cases h2:vs.toArray.size < 2
 ·rw [if_pos h2,if_pos h2]
  refine wpAny_bind (wpAny_pure ?_)
  rw [StateT.run_pure]
  refine wpAny_bind (wpAny_pure ?_)
  dsimp only
  have ez:(arrOf (SortSt.mk' general' (vs.toArray.zip vs.toArray) #[] 7 none)).map (·.2)=vs.toArray:=BL vs
  rw [ez]
  refine wpAny_bind (seqEpoch_at hk3 rfl (wpAny_bind (listUpdate_at hk3 rfl ?_ (hsz2:=by rw [sz];omega))))
  simp only [bne_self_eq_false,Bool.false_eq_true,if_false]
  refine wpAny_pure (fin vs (List.Perm.refl _) ?_)
  match vs,h2 with
  | [],_=>exact List.Pairwise.nil
  | [_],_=>exact List.pairwise_singleton _ _
  | _ :: _ :: _,h2=>simp at h2;omega
 ·rw [if_neg h2,if_neg h2]
  refine wpAny_bind (hK (by omega) _ _ bt2 ?_)
  have L:qg (model prog w) A E s2 κ (fun p=>rv p.1) (vs.toArray.zip vs.toArray):=fun p q st R hp hq hkd hr=>by
   rw [lt'_eq]
   refine wpS_bind (wpS_get ?_)
   rw [hkd]
   refine wpS_bind (wpS_lift (wpAny_attempt (hC _ _ _ _ _ bt2 (jD hp).2 (jD hq).2 ⟨rfl,?_⟩)))
   exact wpS_pure hr
  refine wpAny_bind (wpAny_mono (Ek (st:=SortSt.mk' κ (vs.toArray.zip vs.toArray) #[] 7 none) (Q:=fun _ st'=>SB (vs.toArray.zip vs.toArray) κ st'/\Seg (fun p=>rv p.1) (arrOf st') 0 (vs.toArray.zip vs.toArray).size)
   L ⟨Array.Perm.refl _,rfl,rfl⟩ rfl (by rw [Array.size_zip];omega) fun st' a1 a2=>⟨a1,a2⟩) ?_ fun _ _ e=>e)
  rintro ⟨⟨⟩,st'⟩ s' ⟨rfl,hB,hg⟩
  dsimp only
  dsimp only at hB hg
  have hp:((arrOf st').map (·.2)).toList.Perm vs:=by
   rw [Array.toList_map]
   refine ((Array.perm_iff_toList_perm.mp hB.perm).map _).trans (List.Perm.of_eq ?_)
   rw [← Array.toList_map,BL]
  have hz:(vs.toArray.zip vs.toArray).size=vs.length:=by rw [Array.size_zip];omega
  have hpw:((arrOf st').map (·.2)).toList.Pairwise fun x y=>rv x<=rv y:=by
   rw [Array.toList_map]
   have:=ut hg
   rw [Nat.sub_zero,List.drop_zero,List.take_of_length_le (by rw [Array.length_toList,hB.size];exact Nat.le_refl _)] at this
   rw [List.pairwise_map]
   refine this.imp_of_mem fun {p q} hp hq hpq=>?_
   rw [← (jD (hB.mem hp)).1,← (jD (hB.mem hq)).1]
   exact hpq
  refine wpAny_bind (seqEpoch_at hk3 rfl (wpAny_bind (listUpdate_at hk3 rfl ?_ (hsz2:=by
   have:=hp.length_eq
   rw [Array.length_toList] at this
   show ((arrOf st').map (·.2)).size<=_
   omega))))
  rw [hB.failed]
  simp only [bne_self_eq_false,Bool.false_eq_true,if_false]
  refine wpAny_pure ?_
  have:=fin _ hp hpw
  rwa [Array.toArray_toList] at this
end
theorem uv {vs:List Value} {ns:List Int} (h:IntsAre vs ns) {v:Value} (hv:v∈vs):∃ n t,v= .int n t:=h.all v hv
end L2
namespace L2
open PySem PySem.Spec PyProof.Rows
theorem vI:Manifest.owners.lookup (String.ofList ['d','e','s','r','e','v','e','r'].reverse)=some Manifest.sig_reversed:=by kernel_rfl
theorem gO:Slot "reversed" "__next__" "reversed.__next__":=
 .of (owner:="reversed") (n:="__next__") (by rw [typeLookup_type,builtinLookup_eq_fast];kernel_rfl) (by trivial) (by trivial) (by trivial)
  (by first | exact .inl (by trivial) | exact .inr (by trivial)) (by rw [isSubtype_type];kernel_rfl)
theorem mZ:entryFor table "reversed.__next__"=some Builtin.«reversed.__next__»:=entryFor_of_tree (by kernel_rfl)
theorem oV (a:Value):argsOk "reversed.__next__" ⟨[a],[]⟩:=by
 unfold argsOk;rw [signature?_of (id:="reversed.__next__") (n:=['_','_','t','x','e','n','_','_']) (o:=['d','e','s','r','e','v','e','r']) (by kernel_rfl) vI];kernel_rfl
theorem oW:Slot "reversed" "__iter__" "reversed.__iter__":=
 .of (owner:="reversed") (n:="__iter__") (by rw [typeLookup_type,builtinLookup_eq_fast];kernel_rfl) (by trivial) (by trivial) (by trivial)
  (by first | exact .inl (by trivial) | exact .inr (by trivial)) (by rw [isSubtype_type];kernel_rfl)
theorem uO (a:Value):argsOk "reversed.__iter__" ⟨[a],[]⟩:=by
 unfold argsOk;rw [signature?_of (id:="reversed.__iter__") (n:=['_','_','r','e','t','i','_','_']) (o:=['d','e','s','r','e','v','e','r']) (by kernel_rfl) vI];kernel_rfl
theorem uw:entryFor table "reversed.__iter__"=some Builtin.«dict_keyiterator.__iter__»:=
 entryFor_alias (id':="dict_keyiterator.__iter__") (by kernel_rfl) (by first | rfl | trivial | (unfold String.splitOn;simp+decide [String.splitOnAux])) (by trivial) (by kernel_rfl)
theorem qU:typeLookup (.type "tuple") "__reversed__"=pure none:=by rw [typeLookup_type,builtinLookup_eq_fast];kernel_rfl
theorem sub_tuple_dict:isSubtype (.type "tuple") (.type "dict")=pure false:=by rw [isSubtype_type];kernel_rfl
theorem uP:Slot "reversed" "__init__" "object.__init__":=
 .of (owner:="object") (n:="__init__") (by rw [typeLookup_type,builtinLookup_eq_fast];kernel_rfl) (by trivial) (by trivial) (by trivial)
  (by first | exact .inl (by trivial) | exact .inr (by trivial)) (by rw [isSubtype_type];kernel_rfl)
theorem pB:TypeCalled "reversed" "reversed.__new__" "object.__init__":=
 ⟨by trivial,F.create_reversed,⟨_,_,F.mro_reversed⟩,F.made_reversed,F.plain_reversed_new,F.sub_reversed_self,uP⟩
section
variable {prog:Program} {w:World} {A:Around} {E:Value->Shared->Prop} {s:Shared}
def pC (l:Addr) (i:Int):Obj:={cls:=.type "reversed",data:=.fields #[.ref l,rawInt i]}
def IsRvd (h:Heap) (a l:Addr) (i:Int):Prop:=∃ o,h.get? a=some o/\o.cls= .type "reversed"/\o.data= .fields #[.ref l,rawInt i]
theorem IsRvd.typeIs {a l:Addr} {i:Int} (x:IsRvd s.heap a l i):s.TypeIs (.ref a) "reversed":=let ⟨o,ho,hc,_⟩:=x;⟨o,ho,hc⟩
theorem IsRvd.at {h h':Heap} {a l:Addr} {i:Int} (x:IsRvd h a l i) (e:∀ o,h.get? a=some o->h'.get? a=some o):IsRvd h' a l i:=let ⟨o,ho,r⟩:=x;⟨o,e _ ho,r⟩
theorem Ih {l:Addr} {items:Array Value} {Q₁:Value->Shared->Prop} (hl:IsTup s.heap l items) (hz:items.size < 2 ^ 62)
  (h:∀ k,Q₁ (.ref s.heap.objs.size) {s with heap:=s.heap.push (pC l ((items.size:Int) - 1)),toks:=k}):
  codeAny (model prog w) A (.call (.builtin "reversed.__new__") ⟨[.type "reversed",.ref l],[]⟩) (wants Q₁ E) s:=by
 refine codeAny_of_tree ?_
 show wpAny _ A.in1 (do checkBuiltinCall "reversed.__new__" ⟨[.type "reversed",.ref l],[]⟩;again (.builtin "reversed.__new__" ⟨[.type "reversed",.ref l],[]⟩)) _ _ s
 refine wpAny_bind (wpAny_of_eq (F.newCall_reversed_1 _) (wpAny_pure ⟨plainId_quiet F.plain_reversed_new _,codeAny_builtin F.entry_reversed_new ?_⟩))
 rw [Around.under_plainId F.plain_reversed_new _]
 unfold Builtin.«reversed.__new__»
 refine wpAny_bind (wpAny_of_eq (newClass_reversed _) ?_)
 try dsimp only
 refine wpAny_bind (wpAny_of_eq (a:=()) (by first | rfl | kernel_rfl) ?_)
 refine wpAny_bind (wpAny_of_eq (a:=()) (by first | rfl | kernel_rfl) ?_)
 try dsimp only
 refine wpAny_bind (wpAny_specialOf hl.typeIs qU ?_)
 try dsimp only
 refine wpAny_bind ?_
 refine wpAny_bind (wpAny_isInstance hl.typeIs sub_tuple_dict ?_)
 rw [if_neg (by decide)]
 refine wpAny_bind (wpAny_specialOf hl.typeIs F.slot_tuple_getitem.lookup ?_)
 dsimp only
 rw [if_pos (by trivial)]
 refine wpAny_pure ?_
 rw [if_neg (by decide)]
 refine wpAny_bind (len_tuple hl (by omega) ?_)
 refine wpAny_bind (wpAny_of_eq (a:=some ((items.size:Nat):Int)) rfl ?_)
 dsimp only
 refine wpAny_bind ?_
 unfold Builtin.SmallTypes.newRecord
 refine wpAny_newObj_type ?_
 exact wpAny_pure (h _)
theorem Ii {l:Addr} {items:Array Value} {Q:Value->Shared->Prop} (hl:IsTup s.heap l items) (hz:items.size < 2 ^ 62)
  (h:∀ k,Q (.ref s.heap.objs.size) {s with heap:=s.heap.push (pC l ((items.size:Int) - 1)),toks:=k}):wpAny (model prog w) A (call (.type "reversed") [.ref l]) Q E s:=by
 refine callType_codes pB (F.typeCall_reversed_1 _) F.entry_object_init (Ih (Q₁:=fun obj s₁=>obj= .ref s.heap.objs.size/\∃ k,s₁={s with heap:=s.heap.push (pC l ((items.size:Int) - 1)),toks:=k}) hl hz fun k=>⟨rfl,k,rfl⟩) ?_
 rintro obj s₁ ⟨rfl,k,rfl⟩
 have hT:Shared.TypeIs {s with heap:=s.heap.push (pC l ((items.size:Int) - 1)),toks:=k} (.ref s.heap.objs.size) "reversed":=⟨_,Heap.get?_push_size _ rfl,rfl⟩
 exact ⟨hT,F.args_object_init_2 _ _,(object_init_meets pB.init.lookup pB.made (by decide)) prog w A.in1 _ _ ⟨hT,rfl,h k⟩⟩
theorem Ij {it l:Addr} {i:Nat} {items:Array Value} {x:Value} {Q:Option Value->Shared->Prop} (hit:IsRvd s.heap it l (i:Int)) (hl:IsTup s.heap l items) (hx:items[i]?=some x) (hz:items.size < 2 ^ 62)
  (hQ:∀ h' k,IsRvd h' it l ((i:Int) - 1)->Heap.SameBut it s.heap h'->Q (some x) {s with heap:=h',toks:=k}):wpAny (model prog w) A (pyNext (.ref it)) Q E s:=by
 obtain ⟨o,ho,hc,hd⟩:=id hit
 have hi:i < items.size:=(Array.getElem?_eq_some_iff.mp hx).1
 unfold pyNext
 refine wpAny_bind (wpAny_attempt (wpAny_callSpecial?_slot (name:=Str.ofString "__next__") hit.typeIs gO
  (wpAny_call_entry gO hit.typeIs mZ ?_ (oV _))))
 unfold Builtin.«reversed.__next__»
 refine wpAny_bind (wpAny_of_eq (a:=(Value.ref it,[])) rfl ?_)
 try dsimp only
 refine wpAny_bind (wpAny_field ho hd (x:=.ref l) rfl ?_)
 refine wpAny_bind (wpAny_field ho hd (x:=rawInt (i:Int)) rfl ?_)
 show wpAny _ _ (if (i:Int) < 0 then _ else _) _ _ s
 rw [if_neg (by omega)]
 refine wpAny_bind (wpAny_specialOf hl.typeIs F.slot_tuple_getitem.lookup ?_)
 rw [if_neg (by decide)]
 refine wpAny_bind (wpAny_mkInt ?_)
 refine wpAny_bind (wpAny_attempt (getItem_tuple (j:=i) hl (by omega) (by omega) ?_ hx ?_))
 ·unfold seqIndex?
  simp
  omega
 dsimp only
 refine wpAny_bind (wpAny_field (s:={s with toks:=s.toks+1}) ho hd (x:=rawInt (i:Int)) rfl ?_)
 refine wpAny_bind (wpAny_setField (s:={s with toks:=s.toks+1}) ho hd (by simp) ?_)
 refine wpAny_pure ⟨x,rfl,wpAny_pure (hQ _ _ ?_ (Heap.SameBut.update ..))⟩
 exact ⟨_,Heap.get?_update_self _ ho (Obj.isFreed_of_fields (Obj.data_mapFields hd _)),(Obj.cls_mapFields ..).trans hc,by
  rw [Obj.data_mapFields hd];simp⟩
theorem Lq {it l:Addr} {Q:Option Value->Shared->Prop} (hh:A.handled=none) (hit:IsRvd s.heap it l (-1))
  (hQ:∀ h',Heap.ExtBut it s.heap h'->Q none {s with heap:=h'}):wpAny (model prog w) A (pyNext (.ref it)) Q E s:=by
 obtain ⟨o,ho,hc,hd⟩:=id hit
 unfold pyNext
 refine wpAny_bind (wpAny_attempt (wpAny_callSpecial?_slot (name:=Str.ofString "__next__") hit.typeIs gO
  (wpAny_call_entry gO hit.typeIs mZ ?_ (oV _))))
 unfold Builtin.«reversed.__next__»
 refine wpAny_bind (wpAny_of_eq (a:=(Value.ref it,[])) rfl ?_)
 try dsimp only
 refine wpAny_bind (wpAny_field ho hd (x:=.ref l) rfl ?_)
 refine wpAny_bind (wpAny_field ho hd (x:=rawInt (-1)) rfl ?_)
 show wpAny _ _ (if (-1:Int) < 0 then _ else _) _ _ s
 rw [if_pos (by decide)]
 refine wpAny_bind (wpAny_rule ?_)
 refine wpAny_bind ?_
 refine wpAny_bind (wpAny_setField ho hd (by simp) ?_)
 have sb1:Heap.SameBut it s.heap (s.heap.update it (Obj.mapFields (·.setIfInBounds 1 (rawInt (-1))))):=Heap.SameBut.update ..
 have ho2:=Heap.get?_update_self (Obj.mapFields (·.setIfInBounds 1 (rawInt (-1)))) ho (Obj.isFreed_of_fields (Obj.data_mapFields hd _))
 refine wpAny_setField ho2 (Obj.data_mapFields hd _) (by simp) ?_
 have sb2:Heap.SameBut it (s.heap.update it (Obj.mapFields (·.setIfInBounds 1 (rawInt (-1))))) ((s.heap.update it (Obj.mapFields (·.setIfInBounds 1 (rawInt (-1))))).update it (Obj.mapFields (·.setIfInBounds 0 .none))):=Heap.SameBut.update ..
 have eb:Heap.ExtBut it s.heap ((s.heap.update it (Obj.mapFields (·.setIfInBounds 1 (rawInt (-1))))).update it (Obj.mapFields (·.setIfInBounds 0 .none))):=sb1.extBut.trans sb2.extBut
 show wpAny _ _ _ _ _ {s with heap:=((s.heap.update it (Obj.mapFields (·.setIfInBounds 1 (rawInt (-1))))).update it (Obj.mapFields (·.setIfInBounds 0 .none)))}
 generalize ((s.heap.update it (Obj.mapFields (·.setIfInBounds 1 (rawInt (-1))))).update it (Obj.mapFields (·.setIfInBounds 0 .none)))=h2 at eb ⊢
 refine wpAny_bind ?_
 show wpAny _ _ (newExc (.type "StopIteration") [] >>=_) _ _ _
 refine wpAny_bind ?_
 simp only [newExc,newTuple]
 refine wpAny_bind (wpAny_newObj_type ?_ (by size_fits))
 refine wpAny_bind (m:=firstArgMember _ _) (wpAny_of_eq (a:=Value.none) (by first | rfl | (simp only [firstArgMember];rfl)) ?_)
 refine wpAny_newObj_type ?_ (by size_fits)
 simp only [raiseNew]
 refine wpAny_bind (wpAny_handled ?_)
 first | rw [show A.in1.handled=none from hh] | rw [hh]
 refine wpAny_bind (wpAny_pure (wpAny_throw ?_))
 refine wpAny_bind (wpAny_isInstance (T:="StopIteration") (b:=true) ⟨_,Heap.get?_push_size _ rfl,rfl⟩ isSubtype_stop ?_)
 exact wpAny_pure (hQ _ ((eb.push _).push _))
theorem yl {it l:Addr} {i:Int} {Q:Value->Shared->Prop} (hit:IsRvd s.heap it l i) (h:Q (.ref it) s):wpAny (model prog w) A (pyIter (.ref it)) Q E s:=by
 refine wpAny_pyIter_slot hit.typeIs oW (wpAny_call_entry oW hit.typeIs uw ?_ (uO _))
 show wpAny _ _ (ret (.ref it)) _ _ s
 exact wpAny_pure ⟨_,rfl,"reversed",_,hit.typeIs,gO.lookup,h⟩
end
def Uv (K:W.Frag) (a:Addr) (n:Nat):It:=
 ⟨fun i H=>i < n/\n < 2 ^ 62/\∃ xs,SqT K H a xs/\xs.length=n,
  fun i H v H'=>H'=H/\∀ xs,SqT K H a xs->xs[n - 1 - i]?=some v,
  fun i _=>i=n⟩
theorem Ik {P:Program} {w:World} {K:W.Frag} {tg:Expr} {n:Nat} {it a:Addr} (hai:a≠it):
  Turn P w K tg (Uv K a n) [it] it (fun i h=>i<=n/\IsRvd h it a ((n:Int) - 1 - (i:Int))) where
 mem:=by simp
 obj:=fun i h st c hc=>by
  obtain ⟨_,⟨o1,e1,c1,d1⟩⟩:=st
  have e:c=it:=by simpa using hc
  subst e
  exact ⟨_,e1,fun v z=>by rw [d1] at z;cases z⟩
 keep:=fun i h h' st kk=>⟨st.1,st.2.at fun o q=>kk it (by simp) o q⟩
 item:=by
  intro X hP hw hK hc i pins s U H E I hf st hg
  subst hP hw hK
  obtain ⟨hi,h1⟩:=st
  obtain ⟨hlt,h62,xs,hq,hlen⟩:=hg
  obtain ⟨its,rv,p,_⟩:=I.tuple hq
  have l1:=rv.length
  obtain ⟨x,hx⟩:∃ x,xs[n - 1 - i]?=some x:=⟨_,List.getElem?_eq_getElem (by omega)⟩
  obtain ⟨u,hu,ru⟩:=rv.get hx
  obtain ⟨f0,f1,f2,f3,f4,f5⟩:=hf it (by simp)
  have e:(n:Int) - 1 - (i:Int)=((n - 1 - i:Nat):Int):=by omega
  rw [e] at h1
  refine Ij h1 p (x:=u) (by simpa using hu) (by simp;omega) fun h' k st' sb=>?_
  have I1:Inv X pins U H {s with heap:=h',toks:=k}:=I.turned (t':=k) (fun b o hb e=>(sb.2 b hb).trans e) f0 f1 f3 f4 f5
  obtain ⟨o,eo,c,d⟩:=id st'
  refine ⟨u,rfl,u5 (s:={s with heap:=h',toks:=k}) eo c d (by decide) ⟨x,H,I1,ru,⟨rfl,fun ys hy=>by rw [I.tuple_inj hy hq];exact hx⟩,⟨hlt,?_⟩,fun b hb=>(hf b hb).1⟩⟩
  have e2:((n - 1 - i:Nat):Int) - 1=(n:Int) - 1 - ((i+1:Nat):Int):=by omega
  rw [← e2]
  exact st'
 done:=by
  intro X hP hw hK hc i pins s U H E I hf st hg
  subst hP hw hK
  obtain ⟨hi,h1⟩:=st
  have hin:i=n:=hg
  subst hin
  rw [show (i:Int) - 1 - (i:Int)= -1 by omega] at h1
  obtain ⟨f0,f1,f2,f3,f4,f5⟩:=hf it (by simp)
  exact Lq (I.ok.hd hc) h1 fun h' eb=>⟨rfl,I.turned (t':=s.toks) (fun b o hb e=>eb b o hb e) f0 f1 f3 f4 f5⟩
 self:=fun _ _ _ _ _ st h=>yl st.2 h
def Ph (K:W.Frag) (ta:TE):TI:=fun U H R=>ta U H fun x H1=>(∃ l xs,x= .ref l/\SqL K H1 l xs/\R (Ut K l xs.length) H1)\/∃ l xs,x= .ref l/\SqT K H1 l xs/\xs.length < 2 ^ 62/\R (Uv K l xs.length) H1
theorem Lr {X:Cx} {K:W.Frag} {a tg:Expr} {ta:TE} {p pos:Pos} (hK:X.K=K) (hg:Gl X "reversed") (hm:X.mg "reversed"=none) (ha:JE X a ta) (h:autoParam (notStar a=true) L2.auto4._auto_1):
  JI X tg (.Call (.Name "reversed" p) [a] [] pos) (Ph K ta):=⟨by
 subst hK
 intro pins s U H R I hq
 refine Call_ (ik I hg hm mK (PyProof.Rows.callWith_type1 (arg1 h (fM (ha.run pins s U H _ I hq) fun u s1 qq0=>?_)) (bV h) rfl))
 obtain ⟨x,H1,I1,rx,hx⟩:=qq0
 rcases hx with ⟨l,xs,ex,hx,q⟩ | ⟨l,xs,ex,hx,h62,q⟩
 ·subst ex
  cases rx
  obtain ⟨its,rv,ht,hz⟩:=I1.list hx
  have hlen:=rv.length
  have lt:l < s1.heap.objs.size:=by obtain ⟨o,ho,_⟩:=ht.isList;exact Heap.lt_size ho
  refine call_reversed_list ht.isList ?_
  have e0:(s1.heap.push (PySem.revObj l ((its.toArray.size:Int) - 1))).get? s1.heap.objs.size=some (PySem.revObj l ((its.toArray.size:Int) - 1)):=Heap.get?_push_size _ rfl
  have z2:(s1.heap.push (PySem.revObj l ((its.toArray.size:Int) - 1))).IsRevIter s1.heap.objs.size l ((xs.length:Int) - 1 - ((0:Nat):Int)):=⟨_,e0,rfl,by
   show Data.fields #[.ref l,rawInt ((its.toArray.size:Int) - 1)]=_
   rw [show ((its.toArray.size:Int) - 1)=(xs.length:Int) - 1 - ((0:Nat):Int) by rw [List.size_toArray];omega]⟩
  refine wpAny_pyIter_revIter z2 ?_
  refine ⟨s1.heap.objs.size,[s1.heap.objs.size],_,_,H1,rfl,I1.kept (t':=s1.toks) fun b o q=>Heap.get?_push_of_some _ q,HQ (n:=xs.length) (Nat.ne_of_lt lt),⟨Nat.zero_le _,z2⟩,fun b hb=>?_,q⟩
  have e:b=s1.heap.objs.size:=by simpa using hb
  subst e
  exact I1.fpOk (Nat.le_refl _) (I1.hok.fresh (Nat.le_refl _))
 ·subst ex
  cases rx
  obtain ⟨its,rv,ht,hz⟩:=I1.tuple hx
  have hlen:=rv.length
  have lt:l < s1.heap.objs.size:=by obtain ⟨o,ho,_⟩:=id ht;exact Heap.lt_size ho
  refine Ii ht (by simp;omega) fun k=>?_
  have e0:(s1.heap.push (pC l ((its.toArray.size:Int) - 1))).get? s1.heap.objs.size=some (pC l ((its.toArray.size:Int) - 1)):=Heap.get?_push_size _ rfl
  have z2:IsRvd (s1.heap.push (pC l ((its.toArray.size:Int) - 1))) s1.heap.objs.size l ((xs.length:Int) - 1 - ((0:Nat):Int)):=⟨_,e0,rfl,by
   show Data.fields #[.ref l,rawInt ((its.toArray.size:Int) - 1)]=_
   rw [show ((its.toArray.size:Int) - 1)=(xs.length:Int) - 1 - ((0:Nat):Int) by rw [List.size_toArray];omega]⟩
  refine yl z2 ?_
  refine ⟨s1.heap.objs.size,[s1.heap.objs.size],_,_,H1,rfl,I1.kept (t':=k) fun b o q=>Heap.get?_push_of_some _ q,Ik (n:=xs.length) (Nat.ne_of_lt lt),⟨Nat.zero_le _,z2⟩,fun b hb=>?_,q⟩
  have e:b=s1.heap.objs.size:=by simpa using hb
  subst e
  exact I1.fpOk (Nat.le_refl _) (I1.hok.fresh (Nat.le_refl _))⟩
section
variable {K:W.Frag} {U:St} {H:Hp}
theorem Il {ta:TE} {R:It->Hp->Prop} (h:ta U H fun x H1=>(∃ l xs,x= .ref l/\SqL K H1 l xs/\R (Ut K l xs.length) H1)\/∃ l xs,x= .ref l/\SqT K H1 l xs/\xs.length < 2 ^ 62/\R (Uv K l xs.length) H1):Ph K ta U H R:=h
theorem Ls {a:Addr} {xs:List V} {g:TG} {tb:TS} {D:Ends} (Pv:Nat->St->Hp->Prop) (h0:Pv 0 U H) (hl:∀ i U H,i<=xs.length->Pv i U H->SqL K H a xs)
  (hs:∀ i x U H,i < xs.length->xs[xs.length - 1 - i]?=some x->Pv i U H->g x U H fun σ2 H2=>tb {D with nx:=Pv (i+1),ct:=Pv (i+1),bk:=D.nx} σ2 H2) (hd:∀ U H,Pv xs.length U H->D.nx U H):
  ∃ W:Nat->Nat->St->Hp->Prop,(∃ m,W 0 m U H)/\∀ i m U H,W i m U H->
   ((Ut K a xs.length).stop i H/\D.nx U H)\/((Ut K a xs.length).go i H/\∃ N:St->Hp->Prop,(∀ U' H',N U' H'->∃ m',m' < m/\W (i+1) m' U' H')/\∀ x H',(Ut K a xs.length).yld i H x H'->g x U H' fun σ2 H2=>tb {D with nx:=N,ct:=N,bk:=D.nx} σ2 H2):=by
 refine ⟨fun i m U H=>m=xs.length - i/\i<=xs.length/\Pv i U H,⟨xs.length,by simp,Nat.zero_le _,h0⟩,?_⟩
 rintro i m U H ⟨rfl,hi,p⟩
 have hq:=hl i U H hi p
 by_cases hlt:i < xs.length
 ·refine .inr ⟨⟨hlt,xs,hq,rfl⟩,Pv (i+1),fun U' H' h=>⟨xs.length - (i+1),by omega,rfl,by omega,h⟩,fun x H' y=>?_⟩
  obtain ⟨rfl,hy⟩:=y
  exact hs i x U _ hlt (hy xs hq) p
 ·obtain rfl:i=xs.length:=by omega
  exact .inl ⟨rfl,hd U H p⟩
theorem Lw {a:Addr} {xs:List V} {g:TG} {tb:TS} {D:Ends} (h62:xs.length < 2 ^ 62) (Pv:Nat->St->Hp->Prop) (h0:Pv 0 U H) (hl:∀ i U H,i<=xs.length->Pv i U H->SqT K H a xs)
  (hs:∀ i x U H,i < xs.length->xs[xs.length - 1 - i]?=some x->Pv i U H->g x U H fun σ2 H2=>tb {D with nx:=Pv (i+1),ct:=Pv (i+1),bk:=D.nx} σ2 H2) (hd:∀ U H,Pv xs.length U H->D.nx U H):
  ∃ W:Nat->Nat->St->Hp->Prop,(∃ m,W 0 m U H)/\∀ i m U H,W i m U H->
   ((Uv K a xs.length).stop i H/\D.nx U H)\/((Uv K a xs.length).go i H/\∃ N:St->Hp->Prop,(∀ U' H',N U' H'->∃ m',m' < m/\W (i+1) m' U' H')/\∀ x H',(Uv K a xs.length).yld i H x H'->g x U H' fun σ2 H2=>tb {D with nx:=N,ct:=N,bk:=D.nx} σ2 H2):=by
 refine ⟨fun i m U H=>m=xs.length - i/\i<=xs.length/\Pv i U H,⟨xs.length,by simp,Nat.zero_le _,h0⟩,?_⟩
 rintro i m U H ⟨rfl,hi,p⟩
 have hq:=hl i U H hi p
 by_cases hlt:i < xs.length
 ·refine .inr ⟨⟨hlt,h62,xs,hq,rfl⟩,Pv (i+1),fun U' H' h=>⟨xs.length - (i+1),by omega,rfl,by omega,h⟩,fun x H' y=>?_⟩
  obtain ⟨rfl,hy⟩:=y
  exact hs i x U _ hlt (hy xs hq) p
 ·obtain rfl:i=xs.length:=by omega
  exact .inl ⟨rfl,hd U H p⟩
end
end L2
namespace L2
open PySem PySem.W PySem.Spec PyProof.Rows
section
variable {prog:Program} {w:World} {A:Around} {E:Value->Shared->Prop} {s:Shared}
theorem ym {l:Addr} {vs:List Value} {Q:List Value->Shared->Prop} (hl:IsTup s.heap l vs.toArray) (hsz:vs.length<=sizeLine)
  (h:Q vs {s with heap:=(s.heap.push (seqObj "list" #[] 0)).update s.heap.objs.size (Obj.mapSeq (· ++ vs.toArray))}):
  wpAny (model prog w) A (collect (.ref l)) Q E s:=by
 obtain ⟨o,ho,hc,n,hd⟩:=id hl
 unfold collect
 refine wpAny_bind (wpAny_runValue (codeAny_builtin entry_proto_collect' ?_))
 show wpAny _ _ (do again (.builtin "list.__iadd__" ⟨[← newList [],.ref l],[]⟩)) _ _ s
 refine wpAny_bind (wpAny_newList (wpAny_pure ⟨Code.quiet_builtin _ (by trivial),codeAny_builtin entry_list_iadd' ?_⟩))
 show wpAny _ _ (Builtin.List.listExtendWith (.ref s.heap.objs.size) (.ref l) (.ref s.heap.objs.size)) _ _ {s with heap:=s.heap.push (seqObj "list" #[] 0)}
 unfold Builtin.List.listExtendWith
 have ho':(s.heap.push (seqObj "list" #[] 0)).get? l=some o:=Heap.get?_push_of_some _ ho
 refine wpAny_bind (wpAny_typeOf (T:="tuple") ⟨o,ho',hc⟩ ?_)
 have ht:(Value.type "tuple" == Value.type "tuple")=true:=by rfl
 rw [if_pos (by rw [ht];simp)]
 refine wpAny_bind (listItems_at ho' hd ?_)
 refine wpAny_bind (listItems_at (xs:=#[]) (n:=0) (Heap.get?_push_size _ rfl) rfl ?_)
 rw [if_neg (by simp)]
 refine wpAny_bind (listUpdate_at (xs:=#[]) (n:=0) (Heap.get?_push_size _ rfl) rfl ?_ (Nat.zero_le _) (by show (#[] ++ vs.toArray).size<=sizeLine+1;simp only [Array.size_append,List.size_toArray,List.length_nil];omega))
 refine wpAny_pure ?_
 show wpAny (model prog w) A (do
   let o ← load s.heap.objs.size
   match o.data with
   | .seq xs _=>pure xs.toList
   | _=>unsupported "internal:collect") Q E {s with heap:=(s.heap.push (seqObj "list" #[] 0)).update s.heap.objs.size (Obj.mapSeq (· ++ vs.toArray))}
 refine wpAny_bind (wpAny_load (get?_update_seq (Heap.get?_push_size _ rfl) _) ?_)
 show wpAny _ _ (pure ((#[]:Array Value) ++ vs.toArray).toList) Q E _
 rw [show ((#[]:Array Value) ++ vs.toArray).toList=vs by simp]
 exact wpAny_pure h
theorem rP {l:Addr} {vs:List Value} {κ:SortKind} {rv:Value->Int} {Q:Value->Shared->Prop} (hl:∀ (A':Around) (Q':List Value->Shared->Prop),Q' vs {s with heap:=(s.heap.push (seqObj "list" #[] 0)).update s.heap.objs.size (Obj.mapSeq (· ++ vs.toArray))}->wpAny (model prog w) A' (collect (.ref l)) Q' E s) (few:vs.length<=100000)
  (hK:2<=vs.length->∀ (A':Around) (s':Shared) (R:SortKind->Shared->Prop),(∀ b o,s.heap.get? b=some o->s'.heap.get? b=some o)->R κ s'->wpAny (model prog w) A' (keyKind' vs.toArray) R E s')
  (hC:∀ (A':Around) (s':Shared) (x y:Value) (R:Bool->Shared->Prop) (E':Value->Shared->Prop),(∀ b o,s.heap.get? b=some o->s'.heap.get? b=some o)->x∈vs->y∈vs->R (decide (rv x < rv y)) s'->wpAny (model prog w) A' (keyLt' κ x y) R E' s')
  (h:∀ out:List Value,out.Perm vs->(out.Pairwise fun x y=>rv x<=rv y)->Q (.ref (s.heap.objs.size+1)) {s with heap:=sortedAll s.heap vs out.toArray}):
  wpAny (model prog w) A (call (.builtin "sorted") [.ref l]) Q E s:=by
 refine Calls.call_function_entry kind_sorted plain_sorted entry_sorted (args_sorted1 _) ?_
 unfold Builtin.«sorted»
 have hs:200000<=sizeLine:=by decide
 refine wpAny_bind (m:=checkCount "sorted" 1 1 _) (wpAny_pure (wpAny_bind (hl _ _ ?_)))
 refine wpAny_bind (wpAny_newList ?_)
 have z1:((s.heap.push (seqObj "list" #[] 0)).update s.heap.objs.size (Obj.mapSeq (· ++ vs.toArray))).objs.size=s.heap.objs.size+1:=by rw [Heap.size_update,size_push']
 have old:∀ b o,s.heap.get? b=some o->(((s.heap.push (seqObj "list" #[] 0)).update s.heap.objs.size (Obj.mapSeq (· ++ vs.toArray))).push (seqObj "list" vs.toArray 0)).get? b=some o:=fun b o e=>by
  have lb:=Heap.lt_size e
  refine Heap.get?_push_of_some _ ?_
  rw [Heap.get?_update_ne _ _ _ _ (Nat.ne_of_lt lb)]
  exact Heap.get?_push_of_some _ e
 have hoL:(((s.heap.push (seqObj "list" #[] 0)).update s.heap.objs.size (Obj.mapSeq (· ++ vs.toArray))).push (seqObj "list" vs.toArray 0)).get? (s.heap.objs.size+1)=some (seqObj "list" vs.toArray 0):=
  z1 ▸ Heap.get?_push_size _ rfl
 show wpAny _ _ _ _ _ {s with heap:=(((s.heap.push (seqObj "list" #[] 0)).update s.heap.objs.size (Obj.mapSeq (· ++ vs.toArray))).push (seqObj "list" vs.toArray 0))}
 rw [z1]
 have ok:∀ {s':Shared},V3 (s.heap.objs.size+1) (((s.heap.push (seqObj "list" #[] 0)).update s.heap.objs.size (Obj.mapSeq (· ++ vs.toArray))).push (seqObj "list" vs.toArray 0)) s'.heap->∀ b o,s.heap.get? b=some o->s'.heap.get? b=some o:=fun bt b o e=>bt b o (Nat.ne_of_lt (Nat.lt_succ_of_lt (Heap.lt_size e))) (old b o e)
 refine wpAny_bind (wpAny_holding (wpAny_call_entry slot_list_sort ⟨_,hoL,rfl⟩ entry_list_sort (Ig (κ:=κ) (rv:=rv) hoL few (fun h2 s' R bt r=>hK h2 _ s' R (ok bt) r) (fun s' x y R E' bt hx hy r=>hC _ s' x y R E' (ok bt) hx hy r) fun out h1 h2=>⟨_,rfl,?_⟩) (args_list_sort _)))
 exact wpAny_pure ⟨_,rfl,h out h1 h2⟩
end
section
variable {X:Cx}
def zY:List V->Hp->VK->Prop:=fun xs H Q=>(∃ (p:Addr) (ns:List Int),xs=[.ref p]/\(H p=some (.lst (ns.map V.int))\/H p=some (.tup (ns.map V.int)))/\ns.length<=100000/\
  ∀ (q:Addr) (ms:List Int),H q=none->ms.Perm ns->ms.Pairwise (· <= ·)->Q (.ref q) (upd H q (.lst (ms.map V.int))))\/
 ∃ (p:Addr) (as:List Addr) (ct:Addr->List Int),xs=[.ref p]/\H p=some (.lst (as.map V.ref))/\as.length<=100000/\(∀ a∈as,H a=some (.tup ((ct a).map V.int))/\ct a≠[])/\
  ∀ (q:Addr) (bs:List Addr),H q=none->bs.Perm as->bs.Pairwise (fun a b=>HT.lexLt (ct b) (ct a)=false)->Q (.ref q) (upd H q (.lst (bs.map V.ref)))
theorem vJ:∀ {as:List Addr} {its:List Value},Vals (as.map V.ref) its->its=as.map Value.ref
 | [],_,h=>by cases h;rfl
 | a :: as,_,h=>by
  cases h with
  | cons h1 h2=>
   cases h1
   rw [vJ h2];rfl
theorem vK:∀ (as:List Addr),Vals (as.map V.ref) (as.map Value.ref)
 | []=>.nil
 | a :: as=>.cons rfl (vK as)
theorem El {as:List Addr} {out:List Value} (h:out.Perm (as.map Value.ref)):∃ bs:List Addr,out=bs.map Value.ref/\bs.Perm as:=by
 have key:∀ out:List Value,(∀ v∈out,∃ a,v=Value.ref a)->∃ bs:List Addr,out=bs.map Value.ref:=by
  intro out
  induction out with
  | nil=>exact fun _=>⟨[],rfl⟩
  | cons v out ih=>
   intro hv
   obtain ⟨a,rfl⟩:=hv v List.mem_cons_self
   obtain ⟨bs,rfl⟩:=ih fun u hu=>hv u (List.mem_cons_of_mem _ hu)
   exact ⟨a :: bs,rfl⟩
 obtain ⟨bs,rfl⟩:=key out fun v hv=>by
  obtain ⟨a,_,rfl⟩:=List.mem_map.mp (h.mem_iff.mp hv)
  exact ⟨a,rfl⟩
 refine ⟨bs,rfl,?_⟩
 have:=h.map (fun v=>match v with | Value.ref a=>a | _=>0)
 rwa [List.map_map,List.map_map,show ((fun v:Value=>match v with | Value.ref a=>a | _=>0) ∘ Value.ref)=id from rfl,List.map_id,List.map_id] at this
def Em (ts:List (List Int)) (t:List Int):Int:=((ts.countP fun u=>HT.lexLt u t):Nat)
theorem BV {ts:List (List Int)} {a b:List Int} (ha:a∈ts):decide (Em ts a < Em ts b)=HT.lexLt a b:=by
 unfold Em
 cases h:HT.lexLt a b with
 | true=>
  refine decide_eq_true ?_
  have key:∀ l:List (List Int),a∈l->l.countP (fun u=>HT.lexLt u a) < l.countP (fun u=>HT.lexLt u b):=by
   intro l
   induction l with
   | nil=>intro h;cases h
   | cons u l ih=>
    intro hm
    rw [List.countP_cons,List.countP_cons]
    have le:l.countP (fun u=>HT.lexLt u a)<=l.countP (fun u=>HT.lexLt u b):=List.countP_mono_left fun x _ hx=>qd hx h
    by_cases e:u=a
    ·rw [e,HN,h,if_neg (by decide),if_pos rfl]
     omega
    ·have hm':a∈l:=(List.mem_cons.mp hm).resolve_left fun z=>e z.symm
     have:=ih hm'
     by_cases c:HT.lexLt u a=true
     ·rw [if_pos c,if_pos (qd c h)];omega
     ·rw [if_neg c];split <;> omega
  have:=key ts ha
  omega
 | false=>
  refine decide_eq_false ?_
  have le:ts.countP (fun u=>HT.lexLt u b)<=ts.countP (fun u=>HT.lexLt u a):=List.countP_mono_left fun x _ hx=>by
   cases c:HT.lexLt b a with
   | true=>exact qd hx c
   | false=>rw [ug h c];exact hx
  omega
theorem zZ {prog:Program} {w:World} {A:Around} {E:Value->Shared->Prop} {s:Shared} {as:List Addr} {ct:Addr->List Int} {Q:SortKind->Shared->Prop} (h2:2<=as.length) (h:∀ a∈as,∃ its,IsTup s.heap a its.toArray/\IntsAre its (ct a)/\ct a≠[]) (q:Q (tuples' true) s):
  wpAny (model prog w) A (keyKind' (as.map Value.ref).toArray) Q E s:=by
 refine Ea (ts:=as.map ct) (by rw [List.length_map];exact h2) (fun i hi=>?_) q
 rw [List.length_map] at hi
 obtain ⟨its,it,ia,ne⟩:=h as[i] (List.getElem_mem hi)
 have e:(as.map ct).getD i []=ct as[i]:=by rw [List.getD_eq_getElem?_getD,List.getElem?_map,List.getElem?_eq_getElem hi];rfl
 rw [e]
 exact ⟨as[i],its,by rw [List.getElem?_map,List.getElem?_eq_getElem hi];rfl,it,ia,ne⟩
theorem qm:CallR X (.builtin "sorted") zY:=by
 intro pins s U H xs us Q I r h
 have hs2:200000<=sizeLine:=by decide
 rcases h with ⟨p,ns,rfl,hp,few,q⟩ | ⟨p,as,ct,rfl,hp,few,ht,q⟩
 ·obtain ⟨u,rfl,ru⟩:=vals1 r
  cases ru
  obtain ⟨its,rv,hcol⟩:∃ its:List Value,Vals (ns.map V.int) its/\∀ (A':Around) (E':Value->Shared->Prop) (Q':List Value->Shared->Prop),Q' its {s with heap:=(s.heap.push (seqObj "list" #[] 0)).update s.heap.objs.size (Obj.mapSeq (· ++ its.toArray))}->wpAny (model X.prog X.w) A' (collect (.ref p)) Q' E' s:=by
   rcases hp with hp | hp
   ·obtain ⟨hz,its,n,rv,g⟩:=I.hok p _ hp
    refine ⟨its,rv,fun A' E' Q' hq=>collect_list ⟨_,g,rfl,n,rfl⟩ hq (hsz:=?_)⟩
    rw [← rv.length];exact hz
   ·obtain ⟨hz,its,rv,g⟩:=I.hok p _ hp
    exact ⟨its,rv,fun A' E' Q' hq=>ym g (by rw [← rv.length];exact hz) hq⟩
  have hi:IntsAre its ns:=intsAre_of rv
  have hl:=rv.length
  rw [List.length_map] at hl
  refine rP (vs:=its) (κ:=oneType') (rv:=numOf) (fun A' Q' hq=>hcol A' _ Q' hq) (by omega) ?_ ?_ fun out hperm hs=>?_
  ·intro h2 A' s' R _ hr
   obtain ⟨v₁,v₂,rest,rfl⟩:∃ v₁ v₂ rest,its=v₁ :: v₂ :: rest:=by
    match its,h2 with
    | v₁ :: v₂ :: rest,_=>exact ⟨v₁,v₂,rest,rfl⟩
   rw [keyKind_ints hi]
   exact wpAny_pure hr
  ·intro A' s' x y R E' _ hx hy hr
   obtain ⟨a,t,rfl⟩:=uv hi hx
   obtain ⟨b,u,rfl⟩:=uv hi hy
   rw [keyLt'_oneType]
   exact oneLt_int hr
  ·obtain ⟨e,he⟩:=sortedAll_at s.heap its out.toArray
   have ho:IntsAre out (out.map numOf):=intsAre_map out fun v hv=>uv hi (hperm.mem_iff.mp hv)
   have hm:(out.map numOf).Perm ns:=(hperm.map _).trans (List.Perm.of_eq hi.nums)
   have hml:(out.map numOf).length=ns.length:=hm.length_eq
   exact ⟨.ref (s.heap.objs.size+1),_,I.laid (t':=s.toks) (o:=.lst ((out.map numOf).map V.int)) (fun b ob q=>sortedAll_old q) (Nat.le_succ _) ⟨by rw [List.length_map];omega,out,e,Dz ho,by simpa using he⟩,rfl,q _ _ (I.hok.fresh (Nat.le_succ _)) hm (List.pairwise_map.mpr hs)⟩
 ·obtain ⟨u,rfl,ru⟩:=vals1 r
  cases ru
  obtain ⟨hz,its,n,rv,g⟩:=I.hok p _ hp
  obtain rfl:=vJ rv
  have tup:∀ a∈as,∃ its,IsTup s.heap a its.toArray/\IntsAre its (ct a)/\ct a≠[]:=fun a ha=>by
   obtain ⟨h1,h2⟩:=ht a ha
   obtain ⟨_,it,rt,tt⟩:=I.hok a _ h1
   exact ⟨it,tt,intsAre_of rt,h2⟩
  have tupK:∀ s':Shared,(∀ b o,s.heap.get? b=some o->s'.heap.get? b=some o)->∀ a∈as,∃ its,IsTup s'.heap a its.toArray/\IntsAre its (ct a)/\ct a≠[]:=fun s' hk a ha=>by
   obtain ⟨its,⟨o,go,rr⟩,h2⟩:=tup a ha
   exact ⟨its,⟨o,hk _ _ go,rr⟩,h2⟩
  refine rP (vs:=as.map Value.ref) (κ:=tuples' true) (rv:=fun v=>match v with | .ref a=>Em (as.map ct) (ct a) | _=>0) (fun A' Q' hq=>collect_list ⟨_,g,rfl,n,rfl⟩ hq (hsz:=by rw [List.length_map];omega)) (by rw [List.length_map];omega) ?_ ?_ fun out hperm hs=>?_
  ·intro h2 A' s' R hk hr
   exact zZ (by rwa [List.length_map] at h2) (tupK s' hk) hr
  ·intro A' s' x y R E' hk hx hy hr
   obtain ⟨a,ha,rfl⟩:=List.mem_map.mp hx
   obtain ⟨b,hb,rfl⟩:=List.mem_map.mp hy
   obtain ⟨i1,t1,n1,_⟩:=tupK s' hk a ha
   obtain ⟨i2,t2,n2,_⟩:=tupK s' hk b hb
   refine V4 t1 t2 n1 n2 ?_
   rw [← BV (ts:=as.map ct) (List.mem_map.mpr ⟨a,ha,rfl⟩)]
   exact hr
  ·obtain ⟨e,he⟩:=sortedAll_at s.heap (as.map Value.ref) out.toArray
   obtain ⟨bs,rfl,hb⟩:=El hperm
   have hbl:=hb.length_eq
   refine ⟨.ref (s.heap.objs.size+1),_,I.laid (t':=s.toks) (o:=.lst (bs.map V.ref)) (fun b ob q=>sortedAll_old q) (Nat.le_succ _) ⟨by rw [List.length_map];omega,_,e,vK bs,by simpa using he⟩,rfl,q _ bs (I.hok.fresh (Nat.le_succ _)) hb ?_⟩
   rw [List.pairwise_map] at hs
   refine hs.imp_of_mem fun {a b} ha hb' hab=>?_
   have:=BV (ts:=as.map ct) (a:=ct b) (b:=ct a) (List.mem_map.mpr ⟨b,hb.mem_iff.mp hb',rfl⟩)
   rw [← this]
   exact decide_eq_false (by have:Em (as.map ct) (ct a)<=Em (as.map ct) (ct b):=hab;omega)
end
section
variable {H:Hp} {Q:VK}
theorem Im {p:Addr} {as:List Addr} (ct:Addr->List Int) (hp:H p=some (.lst (as.map V.ref))) (hn:as.length<=100000) (ht:∀ a∈as,H a=some (.tup ((ct a).map V.int))/\ct a≠[]) (h:∀ (q:Addr) (bs:List Addr) (H':Hp),H q=none->Same H H'->H' q=some (.lst (bs.map V.ref))->bs.Perm as->bs.Pairwise (fun a b=>HT.lexLt (ct b) (ct a)=false)->Q (.ref q) H'):zY [.ref p] H Q:=
 .inr ⟨p,as,ct,rfl,hp,hn,ht,fun q bs nq a b=>h q bs _ nq ((Same.refl H).upd nq) aj a b⟩
end
end L2
namespace L2
open PySem PySem.Spec PyProof.Rows
def Pj:List V->Hp->VK->Prop:=fun xs H Q=>(∃ i j,xs=[.int i,.int j]/\Q (.int (if j < i then j else i)) H)\/(∃ i j k,xs=[.int i,.int j,.int k]/\∀ M,(M=i\/M=j\/M=k)->M<=i->M<=j->M<=k->Q (.int M) H)\/
 ∃ (p:Addr) (ns:List Int),xs=[.ref p]/\H p=some (.lst (ns.map V.int))/\ns≠[]/\∀ M,M∈ns->(∀ a∈ns,M<=a)->Q (.int M) H
section
variable {X:Cx}
theorem vals3 {v1 v2 v3:V} {us:List Value} (r:Vals [v1,v2,v3] us):∃ u1 u2 u3,us=[u1,u2,u3]/\RelV v1 u1/\RelV v2 u2/\RelV v3 u3:=by
 cases r with
 | cons a r=>cases r with
  | cons b r=>cases r with
   | cons c r=>
    cases r
    exact ⟨_,_,_,rfl,a,b,c⟩
theorem En (hc:X.calm=true):CallR X (.builtin "min") Pj:=by
 intro pins s U H xs us Q I r h
 rcases h with h | ⟨i,j,k,rfl,q⟩ | ⟨p,ns,rfl,hp,hne,q⟩
 ·exact u6 hc pins s U H xs us Q I r h
 ·obtain ⟨u1,u2,u3,rfl,⟨t1,rfl⟩,⟨t2,rfl⟩,⟨t3,rfl⟩⟩:=vals3 r
  refine min_three_ints (I.ok.hd hc) fun h' tk hk=>?_
  have key:∀ (M:Int) (t:Tok),(M=i\/M=j\/M=k)->M<=i->M<=j->M<=k->EP X pins U Q (.int M t) {s with heap:=h',toks:=tk}:=fun M t h0 h1 h2 h3=>⟨.int M,H,I.kept hk,⟨t,rfl⟩,q M h0 h1 h2 h3⟩
  by_cases hba:j < i <;> by_cases hc1:k < j <;> by_cases hc2:k < i <;> simp only [hba,hc1,hc2,if_true,if_false] <;> exact key _ _ (by omega) (by omega) (by omega) (by omega)
 ·obtain ⟨u,rfl,ru⟩:=vals1 r
  cases ru
  obtain ⟨hz,its,n,rv,g⟩:=I.hok p _ hp
  have hi:IntsAre its ns:=intsAre_of rv
  have hl:=rv.length
  obtain ⟨ys,ey⟩:=hi.allInts.items
  have hn:=hi.numsOf
  have hsz:0 < ys.size:=by
   have e1:=congrArg Array.size ey
   have:0 < ns.length:=List.length_pos_iff.mpr hne
   rw [List.length_map] at hl
   simp [intItems] at e1
   omega
  have hL:s.heap.IsList p (intItems ys):=⟨_,g,rfl,n,by rw [← ey]⟩
  have en:ys.toList.map (·.1)=ns:=by rw [← nums_intItems,← ey,← hn]
  refine min_intList (I.ok.hd hc) hL hsz fun v h' tk hv hk=>?_
  obtain ⟨t,rfl⟩:=intItems_at hv
  obtain ⟨h1,h2⟩:=argBest_lt (numAt ys) (ys.size - 1)
  refine ⟨.int _,H,I.kept hk,⟨t,rfl⟩,q _ ?_ fun a ha=>?_⟩
  ·rw [← en,numAt_eq];exact getD_mem (by rw [List.length_map,Array.length_toList];omega)
  ·rw [← en] at ha
   obtain ⟨j,hj,rfl⟩:=mem_getD ha
   rw [List.length_map,Array.length_toList] at hj
   rw [← numAt_eq];exact h2 j (by omega)
end
section
variable {H:Hp} {Q:VK}
theorem Io {i j k:Int} (h:∀ M,(M=i\/M=j\/M=k)->M<=i->M<=j->M<=k->Q (.int M) H):Pj [.int i,.int j,.int k] H Q:=.inr (.inl ⟨_,_,_,rfl,h⟩)
end
end L2
namespace HT
open PySem PySem.Spec PyProof.Rows
section
variable {prog:Program} {w:World} {A:Around} {E:Value->Shared->Prop} {s:Shared}
theorem getItem_tuple_whole {t sl:Addr} {items:Array Value} {vl vu:Value} {lo hi:Option Int} {Q:Value->Shared->Prop} (ht:IsTup s.heap t items) (hs:s.heap.IsSliceOf sl vl vu .none) (pl:IsPart vl lo) (pu:IsPart vu hi)
  (hw:sIx items.size 0 lo=0/\sIx items.size items.size hi=items.size) (h:Q (.ref t) s):wpAny (model prog w) A (getItem (.ref t) (.ref sl)) Q E s:=by
 obtain ⟨os,hos,hcs,hds⟩:=id hs
 have hTs:s.TypeIs (.ref sl) "slice":=⟨os,hos,hcs⟩
 unfold getItem
 try with_reducible refine wpAny_holding ?_
 first | refine wpAny_bind (wpAny_pure ?_) | skip
 refine wpAny_bind (wpAny_sequenceKey ht.typeIs (by decide) ?_)
 refine wpAny_bind (wpAny_callSpecial?_slot (name:=Str.ofString "__getitem__") ht.typeIs PyProof.Rows.slot_tuple_getitem
  (wpAny_call_entry PyProof.Rows.slot_tuple_getitem ht.typeIs entry_tuple_getitem ?_ (args_tuple_getitem _ _)))
 show wpAny _ _ (Builtin.Tuple.tupleItemsOf (.ref t) >>=_) _ _ s
 refine wpAny_bind (tupleItemsOf_ ht ?_)
 refine wpAny_bind (wpAny_typeOf hTs ?_)
 rw [if_pos (by decide)]
 refine wpAny_bind (lC hs pl pu ?_)
 have hyes:((((sIx items.size 0 lo:Nat):Int) == 0 && (1:Int) == 1 && (sIx items.size items.size hi - sIx items.size 0 lo) == items.size)=true):=by
  rw [hw.1,hw.2];simp
 show wpAny _ _ (if (((sIx items.size 0 lo:Nat):Int) == 0 && (1:Int) == 1 && (sIx items.size items.size hi - sIx items.size 0 lo) == items.size)=true then _ else _) _ _ s
 rw [if_pos hyes]
 unfold Builtin.Tuple.tupleIsExact
 refine wpAny_bind (wpAny_bind (wpAny_typeOf ht.typeIs (wpAny_pure ?_)))
 rw [if_pos (by decide)]
 exact wpAny_bind (wpAny_rule (wpAny_pure ⟨_,rfl,wpAny_pure h⟩))
end
end HT
namespace L2
open PySem PySem.Spec PyProof.Rows
section
variable {X:Cx}
def V5 (K:W.Frag):V->Option Int->Option Int->Hp->VK->Prop:=fun x lo hi H Q=>∃ a xs,x= .ref a/\SqT K H a xs/\(HT.sIx xs.length 0 lo=0/\HT.sIx xs.length xs.length hi=xs.length)/\Q (.ref a) H
theorem Lx:SlR X (V5 X.K):=by
 intro pins s U H x v vl vu lo hi sl Q I rx hs pl pu h
 obtain ⟨a,xs,rfl,hx,hw,q⟩:=h
 cases rx
 obtain ⟨its,r,ht,hz⟩:=I.tuple hx
 have hlen:its.toArray.size=xs.length:=by rw [List.size_toArray];exact r.length.symm
 refine ⟨"tuple",_,PyProof.Rows.slot_tuple_getitem.lookup,ht.typeIs,?_⟩
 exact HT.getItem_tuple_whole ht hs pl pu (by rw [hlen];exact hw) ⟨.ref a,H,I,rfl,q⟩
def Rt (K:W.Frag):V->Option Int->Option Int->Hp->VK->Prop:=fun x lo hi H Q=>Vq K x lo hi H Q\/V5 K x lo hi H Q
theorem BW {K:W.Frag} (hK:X.K=K):SlR X (Rt K):=by
 subst hK
 exact GZ.or Lx
end
section
variable {H:Hp} {Q:VK} {K:W.Frag} {p:Addr} {xs:List V} {lo hi:Option Int}
theorem Ru {x:Str} (hz:x.length<=sizeLine) (h:Q (.str (Txt.slice x lo hi)) H):Rt K (.str x) lo hi H Q:=.inl (Vy hz h)
theorem Rv (hp:H p=some (.lst xs)) (h:∀ q H',H q=none->Same H H'->H' q=some (.lst (rW xs lo hi))->Q (.ref q) H'):Rt K (.ref p) lo hi H Q:=.inl (O3 (SqL.of hp) fun q nq=>h q _ nq ((Same.refl H).upd nq) aj)
end
theorem z9 {xs:List V} {k:Nat}:rW xs (some (k:Int)) none=xs.drop k:=by
 unfold rW
 rw [HT.sIx_none,HT.sIx_nat]
 by_cases h:k<=xs.length
 ·rw [Nat.min_eq_left h,List.take_of_length_le (by rw [List.length_drop];omega)]
 ·rw [Nat.min_eq_right (by omega),List.drop_eq_nil_of_le (by omega),List.drop_eq_nil_of_le (by omega)];simp
end L2
namespace My
open PySem L2
local macro_rules | `(tactic| walk_at "p") => `(tactic| first | exact bT _ | with_unfolding_all rfl)
local macro_rules | `(tactic| walk_at "0") => `(tactic| (first | refine nZ ?_ | refine lJ ?_ | refine mH ?_ | refine jA ?_ | refine jB ?_ | (refine' ju ?hz0 ?_; (case hz0 => with_unfolding_all rfl)) | refine yO ?_ | refine oF ?_ | refine gq ?_ | refine fZ ?_ | refine jw ?_ | refine jm ?_ | refine fU ?_ | refine jo ?_ | refine fQ ?_ | refine nQ ?_ | refine fW ?_ | refine oG ?_ | refine ou ?_ | refine f9 ?_ | refine nU ?_ | refine jq ?_ | refine jr ?_ | refine nY ?_ | refine fX ?_ | refine fY ?_ | refine jt ?_ | refine jn ?_ | refine fV ?_ | refine oh ?_ | refine rM ?_ | refine rN ?_ | refine oA ?_ | refine oE ?_ | refine jx ?_ | refine gb ?_ | refine gf ?_ | refine gj ?_ | refine gk ?_ | refine gm ?_ | refine gn ?_ | refine jy ?_ | refine yQ ?_ | refine di ?_ | refine gC ?_ | (refine' b7 (SqT.of ?hz0) ?hz1 ?_; (case hz0 => first | assumption | exact aj); (case hz1 => rfl)) | refine dm ?_ | refine gJ ?_ | refine eY ?_ | refine gK ?_ | refine oH ?_ | refine eV ?_ | refine gF ?_ | refine gG ?_ | refine gH ?_ | refine dj ?_ | refine jb ?_ | refine gw ?_ | (refine' yP ?hz0 ?_; (case hz0 => with_unfolding_all first | assumption | omega | (dsimp only <;> omega) | exact ⟨by omega, by omega⟩ | exact .inl ⟨by omega, by omega⟩ | exact .inr ⟨by omega, by omega⟩ | exact ⟨by decide, by decide, by decide⟩)) | (refine' gr ?hz0 ?_; (case hz0 => with_unfolding_all first | assumption | omega | (dsimp only <;> omega) | exact ⟨by omega, by omega⟩ | exact .inl ⟨by omega, by omega⟩ | exact .inr ⟨by omega, by omega⟩ | exact ⟨by decide, by decide, by decide⟩)) | (refine' bF (SqL.of ?hz0) ?hz1 ?_; (case hz0 => first | assumption | exact aj); (case hz1 => with_unfolding_all rfl)) | (refine' iD (SqT.of ?hz0) ?hz1 ?_; (case hz0 => first | assumption | exact aj); (case hz1 => with_unfolding_all rfl)) | (refine' dY ?hz0 ?hz1 ?_; (case hz0 => first | assumption | exact aj); (case hz1 => with_unfolding_all rfl)) | refine dq ?_ | refine dw ?_ | refine jC ?_ | refine gM ?_ | refine nj ?_ | refine jN ?_))
local macro_rules | `(tactic| walk_at "1") => `(tactic| (first | refine nZ ?_ | refine lJ ?_ | refine mH ?_ | refine jA ?_ | refine jB ?_ | (refine' ju ?hz0 ?_; (case hz0 => with_unfolding_all rfl)) | refine yO ?_ | refine oF ?_ | refine gq ?_ | refine fZ ?_ | refine jw ?_ | refine jm ?_ | refine fU ?_ | refine jo ?_ | refine fQ ?_ | refine nQ ?_ | refine fW ?_ | refine oG ?_ | refine ou ?_ | refine f9 ?_ | refine nU ?_ | refine jq ?_ | refine jr ?_ | refine nY ?_ | refine fX ?_ | refine fY ?_ | refine jt ?_ | refine jn ?_ | refine fV ?_ | refine oh ?_ | refine rM ?_ | refine rN ?_ | refine oA ?_ | refine oE ?_ | refine jx ?_ | refine gb ?_ | refine gf ?_ | refine gj ?_ | refine gk ?_ | refine gm ?_ | refine gn ?_ | refine jy ?_ | refine yQ ?_ | refine di ?_ | refine gC ?_ | (refine' b7 (SqT.of ?hz0) ?hz1 ?_; (case hz0 => first | assumption | exact aj); (case hz1 => rfl)) | refine dm ?_ | refine gJ ?_ | refine eY ?_ | refine gK ?_ | refine oH ?_ | refine eV ?_ | refine gF ?_ | refine gG ?_ | refine gH ?_ | refine dj ?_ | refine jb ?_ | refine gw ?_ | (refine' yP ?hz0 ?_; (case hz0 => with_unfolding_all first | assumption | omega | (dsimp only <;> omega) | exact ⟨by omega, by omega⟩ | exact .inl ⟨by omega, by omega⟩ | exact .inr ⟨by omega, by omega⟩ | exact ⟨by decide, by decide, by decide⟩)) | (refine' gr ?hz0 ?_; (case hz0 => with_unfolding_all first | assumption | omega | (dsimp only <;> omega) | exact ⟨by omega, by omega⟩ | exact .inl ⟨by omega, by omega⟩ | exact .inr ⟨by omega, by omega⟩ | exact ⟨by decide, by decide, by decide⟩)) | (refine' bF (SqL.of ?hz0) ?hz1 ?_; (case hz0 => first | assumption | exact aj); (case hz1 => with_unfolding_all rfl)) | (refine' iD (SqT.of ?hz0) ?hz1 ?_; (case hz0 => first | assumption | exact aj); (case hz1 => with_unfolding_all rfl)) | (refine' dY ?hz0 ?hz1 ?_; (case hz0 => first | assumption | exact aj); (case hz1 => with_unfolding_all rfl)) | refine dq ?_ | refine dw ?_ | refine jC ?_ | refine gM ?_ | refine kJ ?_ | refine kI ?_))
local macro_rules | `(tactic| walk_at "2") => `(tactic| (first | refine nZ ?_ | refine lJ ?_ | refine mH ?_ | refine jA ?_ | refine jB ?_ | (refine' ju ?hz0 ?_; (case hz0 => with_unfolding_all rfl)) | refine yO ?_ | refine oF ?_ | refine gq ?_ | refine fZ ?_ | refine jw ?_ | refine jm ?_ | refine fU ?_ | refine jo ?_ | refine fQ ?_ | refine nQ ?_ | refine fW ?_ | refine oG ?_ | refine ou ?_ | refine f9 ?_ | refine nU ?_ | refine jq ?_ | refine jr ?_ | refine nY ?_ | refine fX ?_ | refine fY ?_ | refine jt ?_ | refine jn ?_ | refine fV ?_ | refine oh ?_ | refine mX ?_ | refine mW ?_ | refine oA ?_ | refine oE ?_ | refine jx ?_ | refine gb ?_ | refine gf ?_ | refine gj ?_ | refine gk ?_ | refine gm ?_ | refine gn ?_ | refine jy ?_ | refine yQ ?_ | refine di ?_ | refine gC ?_ | (refine' b7 (SqT.of ?hz0) ?hz1 ?_; (case hz0 => first | assumption | exact aj); (case hz1 => rfl)) | refine dm ?_ | refine gJ ?_ | refine eY ?_ | refine gK ?_ | refine oH ?_ | refine eV ?_ | refine gF ?_ | refine gG ?_ | refine gH ?_ | refine dj ?_ | refine jb ?_ | refine gw ?_ | (refine' yP ?hz0 ?_; (case hz0 => with_unfolding_all first | assumption | omega | (dsimp only <;> omega) | exact ⟨by omega, by omega⟩ | exact .inl ⟨by omega, by omega⟩ | exact .inr ⟨by omega, by omega⟩ | exact ⟨by decide, by decide, by decide⟩)) | (refine' gr ?hz0 ?_; (case hz0 => with_unfolding_all first | assumption | omega | (dsimp only <;> omega) | exact ⟨by omega, by omega⟩ | exact .inl ⟨by omega, by omega⟩ | exact .inr ⟨by omega, by omega⟩ | exact ⟨by decide, by decide, by decide⟩)) | (refine' bF (SqL.of ?hz0) ?hz1 ?_; (case hz0 => first | assumption | exact aj); (case hz1 => with_unfolding_all rfl)) | (refine' iD (SqT.of ?hz0) ?hz1 ?_; (case hz0 => first | assumption | exact aj); (case hz1 => with_unfolding_all rfl)) | (refine' dY ?hz0 ?hz1 ?_; (case hz0 => first | assumption | exact aj); (case hz1 => with_unfolding_all rfl)) | refine dq ?_ | refine dw ?_ | refine jC ?_ | refine gM ?_ | refine kJ ?_ | refine kI ?_ | refine Il ?_))
local macro_rules | `(tactic| walk_at "3") => `(tactic| (first | refine nZ ?_ | refine lJ ?_ | refine mH ?_ | refine jA ?_ | refine jB ?_ | (refine' ju ?hz0 ?_; (case hz0 => with_unfolding_all rfl)) | refine yO ?_ | refine oF ?_ | refine gq ?_ | refine fZ ?_ | refine jw ?_ | refine jm ?_ | refine fU ?_ | refine jo ?_ | refine fQ ?_ | refine nQ ?_ | refine fW ?_ | refine oG ?_ | refine ou ?_ | refine f9 ?_ | refine nU ?_ | refine jq ?_ | refine jr ?_ | refine nY ?_ | refine fX ?_ | refine fY ?_ | refine jt ?_ | refine jn ?_ | refine fV ?_ | refine oh ?_ | refine mX ?_ | refine mW ?_ | refine oA ?_ | refine oE ?_ | refine jx ?_ | refine gb ?_ | refine gf ?_ | refine gj ?_ | refine gk ?_ | refine gm ?_ | refine gn ?_ | refine jy ?_ | refine yQ ?_ | refine di ?_ | refine gC ?_ | (refine' b7 (SqT.of ?hz0) ?hz1 ?_; (case hz0 => first | assumption | exact aj); (case hz1 => rfl)) | refine dm ?_ | refine gJ ?_ | refine eY ?_ | refine gK ?_ | refine oH ?_ | refine eV ?_ | refine gF ?_ | refine gG ?_ | refine gH ?_ | refine dj ?_ | refine jb ?_ | refine gw ?_ | (refine' yP ?hz0 ?_; (case hz0 => with_unfolding_all first | assumption | omega | (dsimp only <;> omega) | exact ⟨by omega, by omega⟩ | exact .inl ⟨by omega, by omega⟩ | exact .inr ⟨by omega, by omega⟩ | exact ⟨by decide, by decide, by decide⟩)) | (refine' gr ?hz0 ?_; (case hz0 => with_unfolding_all first | assumption | omega | (dsimp only <;> omega) | exact ⟨by omega, by omega⟩ | exact .inl ⟨by omega, by omega⟩ | exact .inr ⟨by omega, by omega⟩ | exact ⟨by decide, by decide, by decide⟩)) | (refine' bF (SqL.of ?hz0) ?hz1 ?_; (case hz0 => first | assumption | exact aj); (case hz1 => with_unfolding_all rfl)) | (refine' iD (SqT.of ?hz0) ?hz1 ?_; (case hz0 => first | assumption | exact aj); (case hz1 => with_unfolding_all rfl)) | (refine' dY ?hz0 ?hz1 ?_; (case hz0 => first | assumption | exact aj); (case hz1 => with_unfolding_all rfl)) | refine dq ?_ | refine dw ?_ | refine jC ?_ | refine gM ?_ | refine kJ ?_ | refine kI ?_))
local macro_rules | `(tactic| walk_at "4") => `(tactic| (first | refine nZ ?_ | refine lJ ?_ | refine mH ?_ | refine jA ?_ | refine jB ?_ | (refine' ju ?hz0 ?_; (case hz0 => with_unfolding_all rfl)) | refine yO ?_ | refine oF ?_ | refine gq ?_ | refine fZ ?_ | refine jw ?_ | refine jm ?_ | refine fU ?_ | refine jo ?_ | refine fQ ?_ | refine nQ ?_ | refine fW ?_ | refine oG ?_ | refine ou ?_ | refine f9 ?_ | refine nU ?_ | refine jq ?_ | refine jr ?_ | refine nY ?_ | refine fX ?_ | refine fY ?_ | refine jt ?_ | refine jn ?_ | refine fV ?_ | refine oh ?_ | refine mX ?_ | refine mW ?_ | refine oA ?_ | refine oE ?_ | refine jx ?_ | refine gb ?_ | refine gf ?_ | refine gj ?_ | refine gk ?_ | refine gm ?_ | refine gn ?_ | refine jy ?_ | refine yQ ?_ | refine di ?_ | refine gC ?_ | (refine' b7 (SqT.of ?hz0) ?hz1 ?_; (case hz0 => first | assumption | exact aj); (case hz1 => rfl)) | refine dm ?_ | refine gJ ?_ | refine eY ?_ | refine gK ?_ | refine oH ?_ | refine eV ?_ | refine gF ?_ | refine gG ?_ | refine gH ?_ | refine dj ?_ | refine jb ?_ | refine gw ?_ | (refine' yP ?hz0 ?_; (case hz0 => with_unfolding_all first | assumption | omega | (dsimp only <;> omega) | exact ⟨by omega, by omega⟩ | exact .inl ⟨by omega, by omega⟩ | exact .inr ⟨by omega, by omega⟩ | exact ⟨by decide, by decide, by decide⟩)) | (refine' gr ?hz0 ?_; (case hz0 => with_unfolding_all first | assumption | omega | (dsimp only <;> omega) | exact ⟨by omega, by omega⟩ | exact .inl ⟨by omega, by omega⟩ | exact .inr ⟨by omega, by omega⟩ | exact ⟨by decide, by decide, by decide⟩)) | (refine' bF (SqL.of ?hz0) ?hz1 ?_; (case hz0 => first | assumption | exact aj); (case hz1 => with_unfolding_all rfl)) | (refine' iD (SqT.of ?hz0) ?hz1 ?_; (case hz0 => first | assumption | exact aj); (case hz1 => with_unfolding_all rfl)) | (refine' dY ?hz0 ?hz1 ?_; (case hz0 => first | assumption | exact aj); (case hz1 => with_unfolding_all rfl)) | refine dq ?_ | refine dw ?_ | refine jC ?_ | refine gM ?_ | refine Io ?_ | refine kJ ?_ | refine kI ?_))
abbrev aP (d:Stmt) (x:Str):Prop:=(az d).names.lookup x=some NameKind.local
abbrev Ly (d:Stmt) (x:Str):Prop:=(az d).names.lookup x=some NameKind.cell
abbrev bR (d:Stmt) (x:Str):Prop:=(az d).names.lookup x=some NameKind.globalImplicit
def nI (cs:List Nat):List Int:=cs.map fun i:Nat=>(i:Int)
theorem Ip {E:List Nat} (hn:E.Nodup) {i x:Nat} (h:E[i]?=some x):E.idxOf x=i:=by
 obtain ⟨hi,rfl⟩:=List.getElem?_eq_some_iff.mp h
 exact hn.idxOf_getElem i hi
structure Prm (t:List Nat):Prop where
 le:t.length<=96
 pm:t.Perm (List.range t.length)
theorem Prm.nd {t:List Nat} (h:Prm t):t.Nodup:=h.pm.nodup_iff.mpr List.nodup_range
theorem Prm.lt {t:List Nat} (h:Prm t) {x:Nat} (hx:x∈t):x < t.length:=List.mem_range.mp (h.pm.mem_iff.mp hx)
def top (i:Nat):Stmt:=PySem.Challenge.pw_panethread_k67_near_by_own_costs.main.body.getD i (.Pass ⟨0,0,0,0⟩)
abbrev fj:Stmt:=top 14
abbrev fu:Stmt:=top 15
abbrev iG:Stmt:=top 16
abbrev dN:Stmt:=top 17
abbrev fB:Stmt:=top 18
abbrev gP:Stmt:=top 20
abbrev dg:Stmt:=top 21
abbrev jT:Stmt:=top 22
abbrev gZ:Stmt:=top 23
abbrev iy:Stmt:=top 24
abbrev lD:Stmt:=top 25
abbrev dW:Stmt:=top 29
abbrev aX:Stmt:=top 30
abbrev cA:Stmt:=top 31
abbrev bD:Stmt:=top 32
abbrev cV:Stmt:=top 33
abbrev aV:Stmt:=top 34
abbrev cO:Stmt:=top 35
abbrev bI:Stmt:=top 38
abbrev fG:Stmt:=top 39
abbrev cY:Stmt:=top 40
abbrev ie:Stmt:=top 45
abbrev fH:Stmt:=top 50
abbrev iH:Stmt:=top 54
abbrev b8:Stmt:=top 55
abbrev bH:Stmt:=top 56
abbrev cP:Stmt:=top 57
abbrev aZ:Stmt:=top 58
abbrev cT:Stmt:=top 59
abbrev bJ:Stmt:=top 60
abbrev bY:Stmt:=top 61
abbrev bj:Stmt:=top 62
abbrev bC:Stmt:=top 63
abbrev fJ:Stmt:=top 64
abbrev aQ:Stmt:=jf 0 (top 36)
abbrev gQ:Stmt:=jf 3 (top 36)
abbrev bN:Stmt:=jf 0 (top 42)
abbrev cI:Stmt:=jf 1 (top 42)
abbrev bK:Stmt:=jf 0 (top 44)
abbrev bL:Stmt:=jf 1 (top 44)
abbrev bx:Stmt:=jf 2 (top 44)
abbrev cU:Stmt:=jf 4 (top 44)
abbrev bO:Stmt:=jf 0 (top 47)
abbrev bu:Stmt:=jf 3 (top 47)
abbrev cj:Stmt:=jf 5 (top 47)
abbrev cB:Stmt:=jf 6 (top 47)
abbrev bQ:Stmt:=jf 0 (top 52)
abbrev jE:Stmt:=jf 1 (top 52)
abbrev j7:Stmt:=jf 2 (top 52)
abbrev jF:Stmt:=jf 3 (top 52)
abbrev iz:Stmt:=jf 4 (top 52)
local macro_rules | `(tactic| walk_at "s") => `(tactic| (with_reducible repeat (first | refine oO ?_ | walk_at "0")))
local macro_rules | `(tactic| walk_at "n") => `(tactic| (with_reducible repeat (walk_at "0")))
mutual
def gA (m:Nat) (C:Nat->Nat->Bool) (i:Nat):Nat->Nat
 | 0=>m - 1 - i
 | j+1=>if C i j=true then gD m C j i else gA m C i j
termination_by j=>i+j
def gD (m:Nat) (C:Nat->Nat->Bool) (j:Nat):Nat->Nat
 | 0=>m+j
 | i+1=>if C i j=true then gA m C i j else gD m C j i
termination_by i=>i+j
end
section
variable {m:Nat} {C:Nat->Nat->Bool}
theorem jG (i:Nat):gA m C i 0=m - 1 - i:=by rw [gA]
theorem j8 (i j:Nat):gA m C i (j+1)=if C i j=true then gD m C j i else gA m C i j:=by rw [gA]
theorem lQ (j:Nat):gD m C j 0=m+j:=by rw [gD]
theorem jH (i j:Nat):gD m C j (i+1)=if C i j=true then gA m C i j else gD m C j i:=by rw [gD]
theorem yo (i far:Nat):∀ j,j<=far->((List.range j).map (fun l=>gD m C l (i+1)) ++ gA m C i j :: (List.range' j (far - j)).map (fun l=>gD m C l i)).Perm (gA m C i 0 :: (List.range far).map (fun l=>gD m C l i))
 | 0,_=>by rw [List.range_eq_range' (n:=far)];exact List.Perm.refl _
 | j+1,h=>by
  refine List.Perm.trans ?_ (yo i far j (by omega))
  rw [List.range_succ,List.map_append,List.append_assoc,show far - j=(far - (j+1))+1 by omega,List.range'_succ,List.map_cons]
  refine List.Perm.append_left _ ?_
  show (gD m C j (i+1) :: gA m C i (j+1) :: _).Perm _
  rw [j8,jH]
  by_cases hc:C i j=true
  ·rw [if_pos hc,if_pos hc];exact List.Perm.refl _
  ·rw [if_neg hc,if_neg hc]
   exact List.Perm.swap _ _ _
theorem row_end (i far:Nat):((List.range far).map (fun l=>gD m C l (i+1)) ++ [gA m C i far]).Perm ((m - 1 - i) :: (List.range far).map (fun l=>gD m C l i)):=by
 have h:=yo (m:=m) (C:=C) i far far (Nat.le_refl _)
 rw [Nat.sub_self,jG] at h
 exact h
theorem yp (far:Nat):∀ i,((List.range i).map (fun k=>gA m C k far) ++ (List.range far).map (fun l=>gD m C l i)).Perm ((List.range i).map (fun k=>m - 1 - k) ++ (List.range far).map (fun l=>m+l))
 | 0=>by
  simp only [List.range_zero,List.map_nil,List.nil_append,lQ]
  exact List.Perm.refl _
 | i+1=>by
  have ih:=yp far i
  rw [List.range_succ,List.map_append,List.map_append,List.append_assoc,List.append_assoc]
  refine List.Perm.trans (List.Perm.append_left _ (List.perm_append_comm.trans (row_end i far))) ?_
  show ((List.range i).map _ ++ ([m - 1 - i] ++ _)).Perm _
  refine List.Perm.trans (List.perm_append_comm_assoc _ _ _) ?_
  refine List.Perm.trans ?_ (List.perm_append_comm_assoc _ _ _)
  exact List.Perm.append_left _ ih
theorem qW (far:Nat):((List.range m).map (fun k=>gA m C k far) ++ (List.range far).map (fun l=>gD m C l m)).Perm (List.range (m+far)):=by
 refine (yp far m).trans ?_
 rw [List.range_add]
 refine List.Perm.append_right _ ?_
 have e:(List.range m).map (fun k=>m - 1 - k)=(List.range m).reverse:=by
  refine List.ext_getElem (by simp) fun i h1 h2=>?_
  simp
 rw [e]
 exact List.reverse_perm _
end
def iI (z:Nat->Bool) (ab:List Int) (left:Int):Nat->List Int×Int
 | 0=>([],left)
 | j+1=>if z j=true then ((iI z ab left j).1 ++ [(iI z ab left j).2],ab.getD j 0) else ((iI z ab left j).1 ++ [ab.getD j 0],(iI z ab left j).2)
theorem yq (z:Nat->Bool) (ab:List Int) (left:Int):∀ j,(iI z ab left j).1.length=j
 | 0=>rfl
 | j+1=>by
  have ih:=yq z ab left j
  rw [iI]
  split <;> simp [ih]
def qX (m:Nat) (C:Nat->Nat->Bool) (far i:Nat):List Int:=(List.range far).map fun l=>((gD m C l i:Nat):Int)
def Eo (m:Nat) (C:Nat->Nat->Bool) (far i:Nat):List Int:=(List.range i).map fun k=>((gA m C k far:Nat):Int)
theorem Aa {m:Nat} {C:Nat->Nat->Bool} {far i j:Nat} (h:j < far):(qX m C far i).getD j 0=((gD m C j i:Nat):Int):=by
 unfold qX
 rw [List.getD_eq_getElem?_getD,List.getElem?_map,List.getElem?_range h];rfl
theorem Rw {m:Nat} {C:Nat->Nat->Bool} {far i j:Nat} (h:j < i):(Eo m C far i)[j]?=some ((gA m C j far:Nat):Int):=by
 unfold Eo
 rw [List.getElem?_map,List.getElem?_range h];rfl
theorem Lz {m:Nat} {C:Nat->Nat->Bool} {far i j:Nat} (h:j < far):(qX m C far i)[j]?=some ((gD m C j i:Nat):Int):=by
 unfold qX
 rw [List.getElem?_map,List.getElem?_range h];rfl
theorem wD {m:Nat} {C:Nat->Nat->Bool} {far i:Nat}:∀ j,j<=far->iI (C i) (qX m C far i) ((gA m C i 0:Nat):Int) j=(qX m C j (i+1),((gA m C i j:Nat):Int))
 | 0,_=>rfl
 | j+1,h=>by
  have ih:=wD (m:=m) (C:=C) (far:=far) (i:=i) j (by omega)
  rw [iI,ih,Aa (by omega),j8]
  have e:qX m C (j+1) (i+1)=qX m C j (i+1) ++ [((gD m C j (i+1):Nat):Int)]:=by unfold qX;rw [List.range_succ,List.map_append];rfl
  rw [e,jH]
  by_cases hc:C i j=true
  ·rw [if_pos hc,if_pos hc,if_pos hc]
  ·rw [if_neg hc,if_neg hc,if_neg hc]
theorem yr {m:Nat} {C:Nat->Nat->Bool} {far:Nat}:(∀ i,i < m->gA m C i far < m+far)/\∀ j,j < far->gD m C j m < m+far:=by
 have p:=qW (m:=m) (C:=C) far
 refine ⟨fun i hi=>?_,fun j hj=>?_⟩
 ·exact List.mem_range.mp (p.mem_iff.mp (List.mem_append_left _ (List.mem_map.mpr ⟨i,List.mem_range.mpr hi,rfl⟩)))
 ·exact List.mem_range.mp (p.mem_iff.mp (List.mem_append_right _ (List.mem_map.mpr ⟨j,List.mem_range.mpr hj,rfl⟩)))
theorem ux {m:Nat} {C:Nat->Nat->Bool} {far:Nat}:((List.range m).map (fun k=>gA m C k far) ++ (List.range far).map (fun l=>gD m C l m)).Nodup:=
 (qW (m:=m) (C:=C) far).nodup_iff.mpr List.nodup_range
theorem V7 {m:Nat} {C:Nat->Nat->Bool} {far i k:Nat} (hi:i < m) (hk:k < m) (h:i≠k):gA m C i far≠gA m C k far:=by
 have n:=(List.nodup_append.mp (ux (m:=m) (C:=C) (far:=far))).1
 have key:=List.pairwise_iff_getElem.mp n
 intro z
 rcases Nat.lt_or_gt_of_ne h with l | l
 ·exact key i k (by simpa using hi) (by simpa using hk) l (by simpa using z)
 ·exact key k i (by simpa using hk) (by simpa using hi) l (by simpa using z.symm)
theorem V9 {m:Nat} {C:Nat->Nat->Bool} {far i k:Nat} (hi:i < far) (hk:k < far) (h:i≠k):gD m C i m≠gD m C k m:=by
 have n:=(List.nodup_append.mp (ux (m:=m) (C:=C) (far:=far))).2.1
 have key:=List.pairwise_iff_getElem.mp n
 intro z
 rcases Nat.lt_or_gt_of_ne h with l | l
 ·exact key i k (by simpa using hi) (by simpa using hk) l (by simpa using z)
 ·exact key k i (by simpa using hk) (by simpa using hi) l (by simpa using z.symm)
theorem Wa {m:Nat} {C:Nat->Nat->Bool} {far i j:Nat} (hi:i < m) (hj:j < far):gA m C i far≠gD m C j m:=
 (List.nodup_append.mp (ux (m:=m) (C:=C) (far:=far))).2.2 _ (List.mem_map.mpr ⟨i,List.mem_range.mpr hi,rfl⟩) _ (List.mem_map.mpr ⟨j,List.mem_range.mpr hj,rfl⟩)
def pG (m:Nat) (C:Nat->Nat->Bool) (far:Nat) (R:List Int):Prop:=R.length=m+far/\(∀ j,j < far->R[gD m C j m]?=some (j:Int))/\∀ i,i < m->R[gA m C i far]?=some (((far+(m - 1 - i):Nat)):Int)
def pH:Str:=Str.ofString "abcdefghijklmnopqrstuvwxyz"
def sy (l:Str) (c:Nat):Bool:=(Builtin.Str.occurrences l ⟨#[c]⟩ 0 l.length 1).isEmpty
theorem over {H H':Hp} {r:Addr} {o:HO} (s:Same H H') (hn:H r=none):Same H (upd H' r o):=fun b u e=>by
 rw [aB (fun z=>by rw [z,hn] at e;cases e)];exact s b u e
def Thing (K:W.Frag) (H:Hp) (v:V):Prop:=(∃ z,v= .str z/\z.length<=5000)\/∃ T,TyOf K H v (.type T)/\PySem.W.kitOne K (.type T) (.type "str")=some false
def among (z l:Str):Bool:=z.cps.toList.all fun c=>!(Builtin.Str.occurrences l ⟨#[c]⟩ 0 l.length 1).isEmpty
def rQ (v:V) (l:Str) (m:Int):Bool:=match v with
 | .str z=>decide ((z.length:Int)<=m) && among z l
 | _=>false
def spIs (K:W.Frag) (l:Str) (m:Int):Sp:=fun vs H Q _=>∃ (v:V),vs=[v]/\Thing K H v/\∀ H',Same H H'->Q (.bl (rQ v l m)) H'
structure Txt (K:W.Frag) (mg:Str->Option Value):Prop where
 b_all:mg "all"=none
 b_bool:mg "bool"=none
 b_enumerate:mg "enumerate"=none
 b_int:mg "int"=none
 b_isinstance:mg "isinstance"=none
 b_len:mg "len"=none
 b_list:mg "list"=none
 b_min:mg "min"=none
 b_range:mg "range"=none
 b_reversed:mg "reversed"=none
 b_sorted:mg "sorted"=none
 b_str:mg "str"=none
 b_tuple:mg "tuple"=none
 b_zip:mg "zip"=none
 c_CROSS:∃ t,mg "CROSS"=some (.str "x" t)
 c_LETTERS:∃ t,mg "LETTERS"=some (.str "abcdefghijklmnopqrstuvwxyz" t)
 c_MOST_COST:∃ t,mg "MOST_COST"=some (.int 48 t)
 c_MOST_LETTERS:∃ t,mg "MOST_LETTERS"=some (.int 24 t)
 c_MOST_LINES:∃ t,mg "MOST_LINES"=some (.int 96 t)
 c_MOST_SIGNS:∃ t,mg "MOST_SIGNS"=some (.int 48 t)
 c_POINT:∃ t,mg "POINT"=some (.str "." t)
 c_TOUCH:∃ t,mg "TOUCH"=some (.str "o" t)
 d_is_number:d8 K mg "is_number" fj
 d_is_within:d8 K mg "is_within" fu
 d_is_span:d8 K mg "is_span" iG
 d_need_place:d8 K mg "need_place" dN
 d_need_span:d8 K mg "need_span" fB
 d_is_row:d8 K mg "is_row" gP
 d_is_plain:d8 K mg "is_plain" dg
 d_need_row:d8 K mg "need_row" jT
 d_need_rows:d8 K mg "need_rows" gZ
 d_need_plain:d8 K mg "need_plain" iy
 d_parted:d8 K mg "parted" lD
 d_lines_above:d8 K mg "lines_above" dW
 d_signs_of_row:d8 K mg "signs_of_row" aX
 d_over_row:d8 K mg "over_row" cA
 d_cells_of:d8 K mg "cells_of" bD
 d_ends_of:d8 K mg "ends_of" cV
 d_over_cells:d8 K mg "over_cells" aV
 d_ways_of:d8 K mg "ways_of" cO
 d_is_turning:d8 K mg "is_turning" bI
 d_need_turning:d8 K mg "need_turning" fG
 d_counts:d8 K mg "counts" cY
 d_asks_of:d8 K mg "asks_of" ie
 d_near:d8 K mg "near" fH
 d_law_cell:d8 K mg "_law_cell" iH
 d_law_drawn:d8 K mg "_law_drawn" b8
 d_law_letters:d8 K mg "_law_letters" bH
 d_law_row:d8 K mg "_law_row" cP
 d_law_costs:d8 K mg "_law_costs" aZ
 d_law_near:d8 K mg "_law_near" cT
 d_law_tuples:d8 K mg "_law_tuples" bJ
 d_law_listed:d8 K mg "_law_listed" bY
 d_law_watched:d8 K mg "_law_watched" bj
 d_law_stands:d8 K mg "_law_stands" bC
 d_law:d8 K mg "law" fJ
 o_Board:oK K mg "Board"
 n_Board:∀ f∈(["held_side","held_top","held_cells","held_coming","held_lines","held_ways"]:List Str),NoAttr K (aN mg "Board") f
 o_Tally:oK K mg "Tally"
 n_Tally:∀ f∈(["held_ends","held_counts"]:List Str),NoAttr K (aN mg "Tally") f
 o_Asks:oK K mg "Asks"
 n_Asks:∀ f∈(["held_tally","held_many","held_far"]:List Str),NoAttr K (aN mg "Asks") f
 o_Costs:oK K mg "Costs"
 n_Costs:∀ f∈(["held_asks","held_side","held_top"]:List Str),NoAttr K (aN mg "Costs") f
 o_Watch:oK K mg "Watch"
 n_Watch:∀ f∈(["held_near","held_rows","held_most"]:List Str),NoAttr K (aN mg "Watch") f
 m_Board___init__:d7 K mg "Board" "__init__" "Board.__init__" aQ
 m_Board_lines:d7 K mg "Board" "lines" "Board.lines" gQ
 m_Tally___init__:d7 K mg "Tally" "__init__" "Tally.__init__" bN
 m_Tally_below:d7 K mg "Tally" "below" "Tally.below" cI
 m_Asks___init__:d7 K mg "Asks" "__init__" "Asks.__init__" bK
 m_Asks_reckoned:d7 K mg "Asks" "reckoned" "Asks.reckoned" bL
 m_Asks_reckoned_stretch:d7 K mg "Asks" "reckoned_stretch" "Asks.reckoned_stretch" bx
 m_Asks_stretch:d7 K mg "Asks" "stretch" "Asks.stretch" cU
 m_Costs___init__:d7 K mg "Costs" "__init__" "Costs.__init__" bO
 m_Costs_reckoned_cost:d7 K mg "Costs" "reckoned_cost" "Costs.reckoned_cost" bu
 m_Costs_row_of:d7 K mg "Costs" "row_of" "Costs.row_of" cj
 m_Costs_rows_of:d7 K mg "Costs" "rows_of" "Costs.rows_of" cB
 m_Watch___init__:d7 K mg "Watch" "__init__" "Watch.__init__" bQ
 m_Watch_side:d7 K mg "Watch" "side" "Watch.side" jE
 m_Watch_top:d7 K mg "Watch" "top" "Watch.top" j7
 m_Watch_most:d7 K mg "Watch" "most" "Watch.most" jF
 m_Watch_told:d7 K mg "Watch" "told" "Watch.told" iz
section
variable {P:Program} {w:World} {K:W.Frag} {mg:Str->Option Value} {base:Heap}
theorem qY:(["column","many"]:List Str).Nodup:=by trivial
theorem kz00:bR dW "range":=by trivial
theorem kz01:aP dW "far":=by trivial
theorem LC:aP cA "left":=by trivial
theorem LK:aP cA "below":=by trivial
theorem Rx:aP cA "coming":=by trivial
theorem kz05:bR cA "zip":=by trivial
theorem kz06:aP cA "above":=by trivial
theorem kz07:aP cA "signs":=by trivial
theorem LQ:aP cA "line":=by trivial
theorem Wb:aP cA "sign":=by trivial
theorem kz0a:bR cA "TOUCH":=by trivial
def LR:Sp:=fun vs H Q _=>∃ m f:Nat,vs=[.int m,.int f]/\m<=48/\f<=48/\∀ D,H D=none->Q (.ref D) (upd H D (.lst (((List.range f).map fun l=>((m+l:Nat):Int)).map V.int)))
theorem uy:aD ["many","far"] ["many","far"] (az dW):=⟨rfl,rfl,rfl,by trivial,rfl,by trivial,by trivial⟩
theorem dX (T:Txt K mg):my P w K mg base 1 "lines_above" ["many","far"] LR:=by
 refine gB T.d_lines_above uy (fun _ _ _ _ _ _ us hl=>L2.qI (fun _ _=>rfl) us hl) ?_ fun f cdv A outer s H vs Q E hr h=>?_
 ·rintro vs H Q E ⟨m,f,rfl,_⟩;rfl
 obtain ⟨m,f,rfl,hm,hf,q⟩:=h
 have hu:=hr.units0
 have hu64:=hr.units
 refine ⟨_,(aA (aL (kE (sub:=[none,some 0]) (d9 (N:=["many","far"]) (sc:=az dW) (N':=["column","many"]) (by trivial)) rfl rfl rfl (fO (bf kz00) T.b_range (aa (aq 1 kz01) ao)) (fun C s₀ H₀ ex=>(t7 0 (by trivial) qY)) (fun C s₀ H₀ ex=>ir) (fun C s₀ H₀ ex=>(bG aU (oR 1 (by trivial)) (mC 0 (by trivial))))))),?_⟩
 walk_at "s"
 refine ⟨_,rfl,by omega,by omega,?_⟩
 refine t6 (n:=f) (fun i ys H'=>H'=H/\ys=((List.range i).map fun l=>((m+l:Nat):Int)).map V.int) (Nat.le_trans hf (by decide)) ⟨rfl,rfl⟩ ?_ ?_ ?_
 ·rintro i ys H' ⟨_,rfl⟩
  simp
 ·rintro i ys H' hi ⟨rfl,rfl⟩
  walk_at "s"
  refine ⟨KeepSt.set rfl,?_⟩
  walk_at "s"
  refine ⟨rfl,?_⟩
  rw [List.range_succ,List.map_append,List.map_append]
  simp
 ·rintro ys H' ⟨rfl,rfl⟩ D hD
  walk_at "s"
  exact q D hD
def PrI (H:Hp):List V->List (Int×Int)->Prop
 | [],[]=>True
 | v :: vs,(x,y) :: L=>(∃ p,v= .ref p/\H p=some (.tup [.int x,.int y]))/\PrI H vs L
 | _,_=>False
theorem PrI.imp {H H':Hp} (h:∀ p us,H p=some (.tup us)->H' p=some (.tup us)):∀ {ws:List V} {L:List (Int×Int)},PrI H ws L->PrI H' ws L
 | [],[],_=>trivial
 | v :: vs,(x,y) :: L,⟨⟨p,e,hp⟩,r⟩=>⟨⟨p,e,h _ _ hp⟩,PrI.imp h r⟩
 | [],_ :: _,z=>z.elim
 | _ :: _,[],z=>z.elim
theorem PrI.same {H H':Hp} {ws:List V} {L:List (Int×Int)} (h:PrI H ws L) (s:Same H H'):PrI H' ws L:=h.imp fun p us e=>s _ _ e
theorem PrI.upd {H:Hp} {ws us:List V} {L:List (Int×Int)} {f:Addr} {o:HO} (h:PrI H ws L) (hf:H f=some (.lst us)):PrI (upd H f o) ws L:=h.imp fun p vs e=>by rw [aB (fun z=>by rw [z,hf] at e;cases e)];exact e
theorem PrI.push {H:Hp} {p:Addr} {x y:Int} (hp:H p=some (.tup [.int x,.int y])):∀ {ws:List V} {L:List (Int×Int)},PrI H ws L->PrI H (ws ++ [.ref p]) (L ++ [(x,y)])
 | [],[],_=>⟨⟨p,rfl,hp⟩,trivial⟩
 | v :: vs,(x,y) :: L,⟨a,r⟩=>⟨a,PrI.push hp r⟩
 | [],_ :: _,z=>z.elim
 | _ :: _,[],z=>z.elim
theorem PrI.len {H:Hp}:∀ {ws:List V} {L:List (Int×Int)},PrI H ws L->ws.length=L.length
 | [],[],_=>rfl
 | v :: vs,(x,y) :: L,⟨_,r⟩=>congrArg (· +1) (PrI.len r)
 | [],_ :: _,z=>z.elim
 | _ :: _,[],z=>z.elim
theorem PrI.get {H:Hp}:∀ {ws:List V} {L:List (Int×Int)} {k:Nat} {q:Int×Int},PrI H ws L->L[k]?=some q->∃ r,ws[k]?=some (.ref r)/\H r=some (.tup [.int q.1,.int q.2])
 | v :: vs,(x,y) :: L,0,q,⟨⟨p,e,hp⟩,_⟩,h=>by
  have h':(x,y)=q:=by simpa using h
  subst h'
  exact ⟨p,by rw [e];rfl,hp⟩
 | v :: vs,(x,y) :: L,k+1,q,⟨_,r⟩,h=>by
  obtain ⟨a,h1,h2⟩:=PrI.get (k:=k) r (by simpa using h)
  exact ⟨a,by simpa using h1,h2⟩
 | [],[],k,q,_,h=>by simp at h
 | [],_ :: _,_,_,z,_=>z.elim
 | _ :: _,[],_,_,z,_=>z.elim
def yt (z:Nat->Bool) (ab:List Int) (left:Int) (n:Nat):List (Int×Int):=(List.range n).map fun j=>((iI z ab left j).2,ab.getD j 0)
theorem Ep (z:Nat->Bool) (ab:List Int) (left:Int) (n:Nat):yt z ab left (n+1)=yt z ab left n ++ [((iI z ab left n).2,ab.getD n 0)]:=by unfold yt;rw [List.range_succ,List.map_append];rfl
def uz (z:Str) (j:Nat):Bool:=decide ((⟨#[z.cps.getD j 0]⟩:Str)=Str.ofString "o")
def Ry:Sp:=fun vs H Q _=>∃ (z:Str) (left:Int) (a:Addr) (ab:List Int),vs=[.str z,.int left,.ref a]/\H a=some (.lst (ab.map V.int))/\z.cps.size=ab.length/\ab.length<=48/\
 ∀ t c b H',H b=none->H c=none->Same H H'->H' t=some (.tup [.ref c,.ref b,.int (iI (uz z) ab left ab.length).2])->H' b=some (.lst ((iI (uz z) ab left ab.length).1.map V.int))->(∃ cs,H' c=some (.lst cs)/\PrI H' cs (yt (uz z) ab left ab.length))->Q (.ref t) H'
theorem ig:aD ["signs","left","above","coming","below","sign","line"] ["signs","left","above"] (az cA):=⟨rfl,rfl,rfl,by trivial,rfl,by trivial,by trivial⟩
theorem iJ (T:Txt K mg):my P w K mg base 1 "over_row" ["signs","left","above"] Ry:=by
 refine gB T.d_over_row ig (fun _ _ _ _ _ _ us hl=>L2.oZ (fun _ _ _=>rfl) us hl) ?_ fun f cdv A outer s H vs Q E hr h=>?_
 ·rintro vs H Q E ⟨z,left,a,ab,rfl,_⟩;rfl
 obtain ⟨z,left,a,ab,rfl,ha,hz,hl,q⟩:=h
 have hu:=hr.units0
 have hu64:=hr.units
 refine ⟨_,(au (aK (i:=3) ig.nd rfl (Or.inl Rx) (dH ao) rfl) (au (aK (i:=4) ig.nd rfl (Or.inl LK) (dH ao) rfl) (au (dB PassesOwn.never rfl (HJ (K:=K) rfl rfl (bf kz05) T.b_zip (aa (aq 0 kz07) (aa (aq 2 kz06) ao))) (km (K:=K) rfl rfl (aW (aO (i:=5) ig.nd rfl (Or.inl Wb) rfl) (aW (aO (i:=6) ig.nd rfl (Or.inl LQ) rfl) gU))) (au (bh (cR (K:=K) rfl PySem.F.plainAttrs_list PySem.F.slot_list_append PySem.F.type_list_append bw (aq 3 Rx) (aa (mD (aa (aq 1 LC) (aa (aq 6 LQ) ao))) ao))) (aA (dz (cQ (zK (K:=K) rfl hu64) (aq 5 Wb) (o7 (bf kz0a) T.c_TOUCH (by trivial)) (by walk_at "p")) (au (bh (cR (K:=K) rfl PySem.F.plainAttrs_list PySem.F.slot_list_append PySem.F.type_list_append bw (aq 4 LK) (aa (aq 1 LC) ao))) (aA (aK (i:=1) ig.nd rfl (Or.inl LC) (aq 6 LQ) rfl))) (aA (bh (cR (K:=K) rfl PySem.F.plainAttrs_list PySem.F.slot_list_append PySem.F.type_list_append bw (aq 4 LK) (aa (aq 6 LQ) ao)))))))) (aA (aL (mD (aa (aq 3 Rx) (aa (aq 4 LK) (aa (aq 1 LC) ao))))))))),?_⟩
 walk_at "s"
 refine jQ rfl fun C nC=>?_
 walk_at "s"
 refine jQ rfl fun B nB=>?_
 have nBH:H B=none:=((Same.refl H).upd nC).free nB
 have nCB:C≠B:=fun z=>by rw [z,aj] at nB;cases nB
 have e0:upd (upd H C (.lst [])) B (.lst []) C=some (.lst []):=by rw [aB nCB];exact aj
 have S0:Same H (upd (upd H C (.lst [])) B (.lst [])):=((Same.refl H).upd nC).upd nB
 walk_at "s"
 refine ⟨z,a,ab.map V.int,rfl,SqL.of (S0 _ _ ha),?_⟩
 refine DX (ys:=ab.map V.int) (fun j U H'=>Same H H'/\(∃ cs,H' C=some (.lst cs)/\cs.length=j/\PrI H' cs (yt (uz z) ab left j))/\H' B=some (.lst ((iI (uz z) ab left j).1.map V.int))/\
   ∃ x5 x6,U=[some (.str z),some (.int (iI (uz z) ab left j).2),some (.ref a),some (.ref C),some (.ref B),x5,x6])
  (by rw [List.length_map];exact hz) ⟨S0,⟨[],e0,rfl,trivial⟩,aj,none,none,rfl⟩ (fun i U H' _ h=>SqL.of (h.1 _ _ ha)) ?_ ?_
 ·rintro j U H1 T0 y hy ⟨S1,⟨cs,hC,hcs,hW⟩,hB,x5,x6,rfl⟩ nT
  obtain ⟨n,hn,rfl⟩:∃ n,ab[j]?=some n/\y=V.int n:=by
   rw [List.getElem?_map] at hy
   cases e:ab[j]? with
   | none=>rw [e] at hy;cases hy
   | some n=>rw [e] at hy;exact ⟨n,rfl,(Option.some.inj hy).symm⟩
  have hj:j < ab.length:=(List.getElem?_eq_some_iff.mp hn).1
  have en:ab.getD j 0=n:=by rw [List.getD_eq_getElem?_getD,hn];rfl
  refine b7 (xs:=[.str ⟨#[z.cps.getD j 0]⟩,.int n]) (SqT.of aj) rfl ?_
  have hC2:=aY nT hC (o:=.tup [.str ⟨#[z.cps.getD j 0]⟩,.int n])
  have hB2:=aY nT hB (o:=.tup [.str ⟨#[z.cps.getD j 0]⟩,.int n])
  have hW2:=hW.same ((Same.refl H1).upd nT (o:=.tup [.str ⟨#[z.cps.getD j 0]⟩,.int n]))
  have S2:=S1.upd nT (o:=.tup [.str ⟨#[z.cps.getD j 0]⟩,.int n])
  generalize upd H1 T0 (.tup [.str ⟨#[z.cps.getD j 0]⟩,.int n])=H2 at hC2 hB2 S2 hW2 ⊢
  have hs:100<=sizeLine:=by decide
  walk_at "s"
  refine ⟨.inl ⟨rfl,_,SqL.of hC2⟩,?_⟩
  walk_at "s"
  refine jQ rfl fun p np=>?_
  have hC3:=aY np hC2 (o:=.tup [.int (iI (uz z) ab left j).2,.int n])
  have hB3:=aY np hB2 (o:=.tup [.int (iI (uz z) ab left j).2,.int n])
  have S3:=S2.upd np (o:=.tup [.int (iI (uz z) ab left j).2,.int n])
  have hW3:PrI (upd H2 p (.tup [.int (iI (uz z) ab left j).2,.int n])) (cs ++ [.ref p]) (yt (uz z) ab left (j+1)):=by
   rw [Ep,en]
   exact (hW2.same ((Same.refl H2).upd np)).push aj
  generalize upd H2 p (.tup [.int (iI (uz z) ab left j).2,.int n])=H3 at hC3 hB3 S3 hW3 ⊢
  walk_at "s"
  refine bA hC3 (by omega) ?_
  have S4:=over (o:=.lst (cs ++ [.ref p])) S3 nC
  have hC4:upd H3 C (.lst (cs ++ [.ref p])) C=some (.lst (cs ++ [.ref p])):=aj
  have hB4:upd H3 C (.lst (cs ++ [.ref p])) B=some (.lst ((iI (uz z) ab left j).1.map V.int)):=by rw [aB nCB.symm];exact hB3
  have hW4:=hW3.upd hC3 (o:=.lst (cs ++ [.ref p]))
  generalize upd H3 C (.lst (cs ++ [.ref p]))=H4 at hC4 hB4 S4 hW4 ⊢
  have hlB:((iI (uz z) ab left j).1.map V.int).length < sizeLine:=by rw [List.length_map,yq];omega
  walk_at "s"
  refine qO (fun hk=>?_) (fun hk=>?_)
  ·have hk':uz z j=true:=decide_eq_true (V.str.inj hk)
   walk_at "s"
   refine ⟨.inl ⟨rfl,_,SqL.of hB4⟩,?_⟩
   walk_at "s"
   refine bA hB4 hlB ?_
   walk_at "s"
   refine ⟨over S4 nBH,⟨cs ++ [.ref p],by rw [aB nCB];exact hC4,by simp [hcs],hW4.upd hB4⟩,?_,some (.str ⟨#[z.cps.getD j 0]⟩),some (.int n),?_⟩
   ·rw [aj,iI,if_pos hk',List.map_append];rfl
   ·rw [iI,if_pos hk',en];rfl
  ·have hk':¬ uz z j=true:=fun h=>hk (congrArg V.str (of_decide_eq_true h))
   walk_at "s"
   refine ⟨.inl ⟨rfl,_,SqL.of hB4⟩,?_⟩
   walk_at "s"
   refine bA hB4 hlB ?_
   refine ⟨over S4 nBH,⟨cs ++ [.ref p],by rw [aB nCB];exact hC4,by simp [hcs],hW4.upd hB4⟩,?_,some (.str ⟨#[z.cps.getD j 0]⟩),some (.int n),?_⟩
   ·rw [aj,iI,if_neg hk',en,List.map_append];rfl
   ·rw [iI,if_neg hk'];rfl
 ·rintro U H1 ⟨S1,⟨cs,hC,hcs,hW⟩,hB,x5,x6,rfl⟩
  rw [List.length_map] at hB hW
  walk_at "s"
  refine jQ rfl fun p np=>?_
  walk_at "s"
  rw [List.length_map]
  exact q p C B _ nBH nC (S1.upd np) aj (aY np hB) ⟨cs,aY np hC,hW.same ((Same.refl H1).upd np)⟩
theorem Ma:aP cV "ends":=by trivial
theorem Wc:bR cV "enumerate":=by trivial
theorem kz0d:bR cV "reversed":=by trivial
theorem Wd:aP cV "right":=by trivial
theorem Mf:aP cV "line":=by trivial
theorem We:aP cV "place":=by trivial
theorem Rz:bR cV "len":=by trivial
theorem RC:aP cV "below":=by trivial
theorem Wf:aP cV "column":=by trivial
def RD:Sp:=fun vs H Q _=>∃ (m far:Nat) (C:Nat->Nat->Bool) (b r:Addr),vs=[.ref b,.ref r]/\m<=48/\far<=48/\H b=some (.lst ((qX m C far m).map V.int))/\H r=some (.lst ((Eo m C far m).map V.int))/\
 ∀ e R H',H e=none->Same H H'->pG m C far R->H' e=some (.lst (R.map V.int))->Q (.ref e) H'
theorem Pk {n k:Nat} (h:k < n):Fq n (k:Int)=some k:=by
 unfold Fq
 rw [if_pos (by omega),if_pos (by omega)];rfl
theorem RG (n:Nat):(List.replicate n [V.int 0]).flatten=(List.replicate n (0:Int)).map V.int:=by
 induction n with
 | zero=>rfl
 | succ n ih=>rw [List.replicate_succ,List.flatten_cons,ih,List.replicate_succ];rfl
theorem iK:aD ["below","right","ends","column","line","place"] ["below","right"] (az cV):=⟨rfl,rfl,rfl,by trivial,rfl,by trivial,by trivial⟩
theorem qZ (T:Txt K mg):my P w K mg base 1 "ends_of" ["below","right"] RD:=by
 refine gB T.d_ends_of iK (fun _ _ _ _ _ _ us hl=>L2.qI (fun _ _=>rfl) us hl) ?_ fun f cdv A outer s H vs Q E hr h=>?_
 ·rintro vs H Q E ⟨m,far,C,b,r,rfl,_⟩;rfl
 obtain ⟨m,far,C,b,r,rfl,hm,hf,hb,hr',q⟩:=h
 have hu:=hr.units0
 have hu64:=hr.units
 refine ⟨_,(au (aK (i:=2) iK.nd rfl (Or.inl Ma) (bG iW (dH (aa aC ao)) (bG aU (aF (aG (K:=K) rfl) (bf Rz) T.b_len bz (aa (aq 0 RC) ao) (by trivial) (by trivial)) (aF (aG (K:=K) rfl) (bf Rz) T.b_len bz (aa (aq 1 Wd) ao) (by trivial) (by trivial)))) rfl) (au (dB PassesOwn.never rfl (j5 (K:=K) rfl rfl (bf Wc) T.b_enumerate (aa (aq 0 RC) ao)) (km (K:=K) rfl rfl (aW (aO (i:=3) iK.nd rfl (Or.inl Wf) rfl) (aW (aO (i:=4) iK.nd rfl (Or.inl Mf) rfl) gU))) (aA (wk (ts:=xm) (aq 3 Wf) (zF (aq 2 Ma) (aq 4 Mf) set_list)))) (au (dB PassesOwn.never rfl (zR (K:=K) rfl (bf Wc) T.b_enumerate (bf kz0d) T.b_reversed (aq 1 Wd)) (km (K:=K) rfl rfl (aW (aO (i:=5) iK.nd rfl (Or.inl We) rfl) (aW (aO (i:=4) iK.nd rfl (Or.inl Mf) rfl) gU))) (aA (wk (ts:=xm) (bG aU (aF (aG (K:=K) rfl) (bf Rz) T.b_len bz (aa (aq 0 RC) ao) (by trivial) (by trivial)) (aq 5 We)) (zF (aq 2 Ma) (aq 4 Mf) set_list)))) (aA (aL (aq 2 Ma)))))),?_⟩
 walk_at "s"
 have hs:1000<=sizeLine:=by decide
 have lb:((qX m C far m).map V.int).length=far:=by simp [qX]
 have lr:((Eo m C far m).map V.int).length=m:=by simp [Eo]
 refine ⟨by decide,fun z nz=>?_⟩
 walk_at "s"
 refine il (SqL.of (aY nz hb)) ?_
 rw [lb]
 walk_at "s"
 refine il (SqL.of (aY nz hr')) ?_
 rw [lr]
 walk_at "s"
 have eN:((far:Int)+(m:Int)).toNat=m+far:=by omega
 refine zG aj (by omega) (by omega) (by rw [eN];simp;omega) fun e ne=>?_
 rw [eN,RG]
 have neH:H e=none:=((Same.refl H).upd nz).free ne
 have S0:=((Same.refl H).upd (o:=.lst [.int 0]) nz).upd (o:=.lst ((List.replicate (m+far) (0:Int)).map V.int)) ne
 have e0:=aj (H:=upd H z (.lst [.int 0])) (a:=e) (o:=.lst ((List.replicate (m+far) (0:Int)).map V.int))
 generalize upd (upd H z (.lst [.int 0])) e (.lst ((List.replicate (m+far) (0:Int)).map V.int))=H1 at S0 e0 ⊢
 have nbe:b≠e:=fun z=>by rw [z,neH] at hb;cases hb
 have nre:r≠e:=fun z=>by rw [z,neH] at hr';cases hr'
 walk_at "s"
 refine .inr ⟨b,_,rfl,SqL.of (S0 _ _ hb),?_⟩
 refine jM (xs:=(qX m C far m).map V.int) (fun j U H'=>Same H H'/\(∃ R:List Int,H' e=some (.lst (R.map V.int))/\R.length=m+far/\∀ l,l < j->R[gD m C l m]?=some (l:Int))/\∃ x3 x4 x5,U=[some (.ref b),some (.ref r),some (.ref e),x3,x4,x5])
  ⟨S0,⟨_,e0,by simp,fun l hl=>absurd hl (by omega)⟩,none,none,none,rfl⟩ (fun i U H' _ h=>SqL.of (h.1 _ _ hb)) ?_ ?_
 ·rintro j U H2 T0 x hx ⟨S2,⟨R,hR,lR,gR⟩,x3,x4,x5,rfl⟩ nT
  have hj:j < far:=by
   have:=(List.getElem?_eq_some_iff.mp hx).1
   rw [lb] at this;exact this
  obtain rfl:x=V.int ((gD m C j m:Nat):Int):=by
   rw [List.getElem?_map,Lz hj] at hx
   exact (Option.some.inj hx).symm
  have hlt:=yr (m:=m) (C:=C) (far:=far) |>.2 j hj
  refine b7 (xs:=[.int j,.int ((gD m C j m:Nat):Int)]) (SqT.of aj) rfl ?_
  have hR2:=aY nT hR (o:=.tup [.int j,.int ((gD m C j m:Nat):Int)])
  have S3:=S2.upd nT (o:=.tup [.int j,.int ((gD m C j m:Nat):Int)])
  generalize upd H2 T0 (.tup [.int j,.int ((gD m C j m:Nat):Int)])=H3 at hR2 S3 ⊢
  walk_at "s"
  refine dY hR2 (Pk (by rw [List.length_map,lR];exact hlt)) ?_
  rw [← List.map_set]
  refine ⟨over S3 neH,⟨R.set (gD m C j m) j,aj,by simp [lR],fun l hl=>?_⟩,some (.int j),some (.int ((gD m C j m:Nat):Int)),x5,rfl⟩
  by_cases hlj:l=j
  ·subst hlj
   rw [List.getElem?_set_self (by omega)]
  ·rw [List.getElem?_set_ne (V9 (m:=m) (C:=C) (far:=far) hj (by omega) (fun z=>hlj z.symm))]
   exact gR l (by omega)
 ·rintro U H2 ⟨S2,⟨R,hR,lR,gR⟩,x3,x4,x5,rfl⟩
  rw [lb] at gR
  walk_at "s"
  refine ⟨r,(Eo m C far m).map V.int,rfl,SqL.of (S2 _ _ hr'),?_⟩
  refine DP (xs:=(Eo m C far m).map V.int) (fun j U H'=>Same H H'/\(∃ R:List Int,H' e=some (.lst (R.map V.int))/\R.length=m+far/\(∀ l,l < far->R[gD m C l m]?=some (l:Int))/\∀ l,l < j->R[gA m C (m - 1 - l) far]?=some ((far+l:Nat):Int))/\∃ x3 x4 x5,U=[some (.ref b),some (.ref r),some (.ref e),x3,x4,x5])
   ⟨S2,⟨R,hR,lR,gR,fun l hl=>absurd hl (by omega)⟩,_,_,_,rfl⟩ (fun i U H' _ h=>SqL.of (h.1 _ _ hr')) ?_ ?_
  ·rintro j U H3 T0 x hj hx ⟨S3,⟨R,hR,lR,gR,aR⟩,x3,x4,x5,rfl⟩ nT
   rw [lr] at hj hx
   obtain rfl:x=V.int ((gA m C (m - 1 - j) far:Nat):Int):=by
    rw [List.getElem?_map,Rw (by omega)] at hx
    exact (Option.some.inj hx).symm
   have hlt:=yr (m:=m) (C:=C) (far:=far) |>.1 (m - 1 - j) (by omega)
   refine b7 (xs:=[.int j,.int ((gA m C (m - 1 - j) far:Nat):Int)]) (SqT.of aj) rfl ?_
   have hR2:=aY nT hR (o:=.tup [.int j,.int ((gA m C (m - 1 - j) far:Nat):Int)])
   have S4:=S3.upd nT (o:=.tup [.int j,.int ((gA m C (m - 1 - j) far:Nat):Int)])
   generalize upd H3 T0 (.tup [.int j,.int ((gA m C (m - 1 - j) far:Nat):Int)])=H4 at hR2 S4 ⊢
   walk_at "s"
   refine il (SqL.of (S4 _ _ hb)) ?_
   rw [lb]
   walk_at "s"
   refine dY hR2 (Pk (by rw [List.length_map,lR];exact hlt)) ?_
   rw [← List.map_set]
   refine ⟨over S4 neH,⟨R.set (gA m C (m - 1 - j) far) ((far:Int)+j),aj,by simp [lR],fun l hl=>?_,fun l hl=>?_⟩,x3,some (.int ((gA m C (m - 1 - j) far:Nat):Int)),some (.int j),rfl⟩
   ·rw [List.getElem?_set_ne (Wa (m:=m) (C:=C) (far:=far) (by omega) hl)]
    exact gR l hl
   ·by_cases hlj:l=j
    ·subst hlj
     rw [List.getElem?_set_self (by omega)]
     congr 1
    ·rw [List.getElem?_set_ne (V7 (m:=m) (C:=C) (far:=far) (by omega) (by omega) (by omega))]
     exact aR l (by omega)
  ·rintro U H3 ⟨S3,⟨R,hR,lR,gR,aR⟩,x3,x4,x5,rfl⟩
   rw [lr] at aR
   walk_at "s"
   refine q e R H3 neH S3 ⟨lR,gR,fun i hi=>?_⟩ hR
   have:=aR (m - 1 - i) (by omega)
   rw [show m - 1 - (m - 1 - i)=i by omega] at this
   exact this
theorem kz0k:bR aV "ends_of":=by trivial
theorem RJ:aP aV "right":=by trivial
theorem Mg:aP aV "above":=by trivial
theorem RK:aP aV "coming":=by trivial
theorem kz0o:bR aV "enumerate":=by trivial
theorem kz0p:aP aV "cells":=by trivial
theorem Wg:aP aV "signs":=by trivial
theorem Wh:aP aV "row":=by trivial
theorem Mh:aP aV "gone":=by trivial
theorem kz0t:bR aV "over_row":=by trivial
theorem Wi:aP aV "many":=by trivial
theorem kz0v:bR aV "lines_above":=by trivial
theorem kz0w:aP aV "far":=by trivial
def cC (rows:List Str) (i:Nat):Nat->Bool:=uz (rows.getD i ⟨#[]⟩)
def yu (m:Nat) (C:Nat->Nat->Bool) (far i:Nat):List (Int×Int):=(List.range far).map fun j=>(((gA m C i j:Nat):Int),((gD m C j i:Nat):Int))
def Cmg (H:Hp) (P:Addr->Prop) (m:Nat) (C:Nat->Nat->Bool) (far:Nat) (cs:List V) (n:Nat):Prop:=cs.length=n/\∀ i,i < n->∃ c ws,cs[i]?=some (.ref c)/\P c/\H c=some (.lst ws)/\PrI H ws (yu m C far i)
theorem Cmg.imp {H H':Hp} {P P':Addr->Prop} {m:Nat} {C:Nat->Nat->Bool} {far:Nat} {cs:List V} {n:Nat} (h:Cmg H P m C far cs n) (ht:∀ p us,H p=some (.tup us)->H' p=some (.tup us)) (hl:∀ c ws,P c->H c=some (.lst ws)->H' c=some (.lst ws)) (hp:∀ c,P c->P' c):Cmg H' P' m C far cs n:=
 ⟨h.1,fun i hi=>by
  obtain ⟨c,ws,e1,e2,e3,e4⟩:=h.2 i hi
  exact ⟨c,ws,e1,hp c e2,hl c ws e2 e3,e4.imp ht⟩⟩
theorem Cmg.same {H H':Hp} {P:Addr->Prop} {m:Nat} {C:Nat->Nat->Bool} {far:Nat} {cs:List V} {n:Nat} (h:Cmg H P m C far cs n) (s:Same H H'):Cmg H' P m C far cs n:=h.imp (fun p us e=>s _ _ e) (fun c ws _ e=>s _ _ e) fun _ z=>z
theorem Cmg.push {H:Hp} {P:Addr->Prop} {m:Nat} {C:Nat->Nat->Bool} {far:Nat} {cs:List V} {n:Nat} {c:Addr} {ws:List V} (h:Cmg H P m C far cs n) (hP:P c) (hc:H c=some (.lst ws)) (hw:PrI H ws (yu m C far n)):Cmg H P m C far (cs ++ [.ref c]) (n+1):=by
 refine ⟨by rw [List.length_append,h.1];rfl,fun i hi=>?_⟩
 by_cases e:i=n
 ·subst e
  exact ⟨c,ws,by rw [List.getElem?_append_right (by rw [h.1];exact Nat.le_refl _),h.1,Nat.sub_self];rfl,hP,hc,hw⟩
 ·obtain ⟨d,us,e1,e2⟩:=h.2 i (by omega)
  exact ⟨d,us,by rw [List.getElem?_append_left (by rw [h.1];omega)];exact e1,e2⟩
theorem Cmg.upd {H:Hp} {P:Addr->Prop} {m:Nat} {C:Nat->Nat->Bool} {far:Nat} {cs us:List V} {n:Nat} {f:Addr} {o:HO} (h:Cmg H P m C far cs n) (hf:H f=some (.lst us)) (hP:∀ c,P c->c≠f):Cmg (upd H f o) P m C far cs n:=
 h.imp (fun p vs e=>by rw [aB (fun z=>by rw [z,hf] at e;cases e)];exact e) (fun c ws pc e=>by rw [aB (hP c pc)];exact e) fun _ z=>z
def Mi:Sp:=fun vs H Q _=>∃ (m far:Nat) (rows:List Str) (c:Addr),vs=[.int m,.int far,.ref c]/\H c=some (.lst (rows.map V.str))/\rows.length=m/\m<=48/\far<=48/\(∀ z∈rows,z.cps.size=far)/\
 ∀ t cm e R H',H e=none->Same H H'->H' t=some (.tup [.ref cm,.ref e])->pG m (cC rows) far R->H' e=some (.lst (R.map V.int))->(∃ cs,H' cm=some (.lst cs)/\Cmg H' (fun _=>True) m (cC rows) far cs m)->Q (.ref t) H'
theorem RL {m:Nat} {C:Nat->Nat->Bool} {far i:Nat}:yt (C i) (qX m C far i) ((gA m C i 0:Nat):Int) far=yu m C far i:=by
 unfold yt yu
 refine List.map_congr_left fun j hj=>?_
 have hj':=List.mem_range.mp hj
 rw [wD j (by omega),Aa hj']
theorem Ir {m:Nat} {C:Nat->Nat->Bool} {far:Nat}:qX m C far 0=(List.range far).map fun l=>((m+l:Nat):Int):=by
 unfold qX
 simp only [lQ]
theorem sZ {m:Nat} {C:Nat->Nat->Bool} {far i:Nat}:(qX m C far i).length=far:=by simp [qX]
theorem Mj {m:Nat} {C:Nat->Nat->Bool} {far i:Nat}:(Eo m C far i).length=i:=by simp [Eo]
theorem cJ:aD ["many","far","cells","above","coming","right","row","signs","gone"] ["many","far","cells"] (az aV):=⟨rfl,rfl,rfl,by trivial,rfl,by trivial,by trivial⟩
theorem lU (T:Txt K mg):my P w K mg base 2 "over_cells" ["many","far","cells"] Mi:=by
 have dX:=dX (P:=P) (w:=w) (base:=base) T
 have iJ:=iJ (P:=P) (w:=w) (base:=base) T
 have qZ:=qZ (P:=P) (w:=w) (base:=base) T
 refine gB T.d_over_cells cJ (fun _ _ _ _ _ _ us hl=>L2.oZ (fun _ _ _=>rfl) us hl) ?_ fun f cdv A outer s H vs Q E hr h=>?_
 ·rintro vs H Q E ⟨m,far,rows,c,rfl,_⟩;rfl
 obtain ⟨m,far,rows,c,rfl,hc,hr',hm,hf,hz,q⟩:=h
 have hu:=hr.units0
 have hu64:=hr.units
 refine ⟨_,(au (aK (i:=3) cJ.nd rfl (Or.inl Mg) (aH dX (hr.mono (by decide)) (bf kz0v) (aa (aq 0 Wi) (aa (aq 1 kz0w) ao)) (by trivial)) rfl) (au (aK (i:=4) cJ.nd rfl (Or.inl RK) (dH ao) rfl) (au (aK (i:=5) cJ.nd rfl (Or.inl RJ) (dH ao) rfl) (au (dB PassesOwn.never rfl (j5 (K:=K) rfl rfl (bf kz0o) T.b_enumerate (aa (aq 2 kz0p) ao)) (km (K:=K) rfl rfl (aW (aO (i:=6) cJ.nd rfl (Or.inl Wh) rfl) (aW (aO (i:=7) cJ.nd rfl (Or.inl Wg) rfl) gU))) (au (aK (i:=8) cJ.nd rfl (Or.inl Mh) (aH iJ (hr.mono (by decide)) (bf kz0t) (aa (aq 7 Wg) (aa (bG jh (bG jh (aq 0 Wi) aC) (aq 6 Wh)) (aa (aq 3 Mg) ao))) (by trivial)) rfl) (au (bh (cR (K:=K) rfl PySem.F.plainAttrs_list PySem.F.slot_list_append PySem.F.type_list_append bw (aq 4 RK) (aa (dh (K:=K) rfl (aq 8 Mh) aC) ao))) (au (aK (i:=3) cJ.nd rfl (Or.inl Mg) (dh (K:=K) rfl (aq 8 Mh) aC) rfl) (aA (bh (cR (K:=K) rfl PySem.F.plainAttrs_list PySem.F.slot_list_append PySem.F.type_list_append bw (aq 5 RJ) (aa (dh (K:=K) rfl (aq 8 Mh) aC) ao)))))))) (aA (aL (mD (aa (aq 4 RK) (aa (aH qZ (hr.mono (by decide)) (bf kz0k) (aa (aq 3 Mg) (aa (aq 5 RJ) ao)) (by trivial)) ao))))))))),?_⟩
 walk_at "s"
 have hs:1000<=sizeLine:=by decide
 refine ⟨m,far,rfl,hm,hf,fun A0 nA=>?_⟩
 rw [← Ir (C:=cC rows)]
 have SA:=(Same.refl H).upd nA (o:=.lst ((qX m (cC rows) far 0).map V.int))
 have eA:=aj (H:=H) (a:=A0) (o:=.lst ((qX m (cC rows) far 0).map V.int))
 generalize upd H A0 (.lst ((qX m (cC rows) far 0).map V.int))=H1 at SA eA ⊢
 walk_at "s"
 refine jQ rfl fun CM nC=>?_
 have SC:=SA.upd nC (o:=.lst [])
 have eC:=aj (H:=H1) (a:=CM) (o:=.lst [])
 have eA2:=aY nC eA (o:=.lst [])
 have nCH:=SA.free nC
 generalize upd H1 CM (.lst [])=H2 at SC eC eA2 ⊢
 walk_at "s"
 refine jQ rfl fun RT nR=>?_
 have SR:=SC.upd nR (o:=.lst [])
 have eR:=aj (H:=H2) (a:=RT) (o:=.lst [])
 have eA3:=aY nR eA2 (o:=.lst [])
 have eC3:=aY nR eC (o:=.lst [])
 have nRH:=SC.free nR
 have nCR:CM≠RT:=fun z=>by rw [z,nR] at eC;cases eC
 generalize upd H2 RT (.lst [])=H3 at SR eR eA3 eC3 ⊢
 walk_at "s"
 refine .inr ⟨c,_,rfl,SqL.of (SR _ _ hc),?_⟩
 refine jM (xs:=rows.map V.str) (fun i U H'=>Same H H'/\(∃ cs,H' CM=some (.lst cs)/\cs.length=i/\Cmg H' (fun c=>c≠CM/\c≠RT) m (cC rows) far cs i)/\H' RT=some (.lst ((Eo m (cC rows) far i).map V.int))/\
   ∃ a x6 x7 x8,H' a=some (.lst ((qX m (cC rows) far i).map V.int))/\a≠CM/\a≠RT/\U=[some (.int m),some (.int far),some (.ref c),some (.ref a),some (.ref CM),some (.ref RT),x6,x7,x8])
  ⟨SR,⟨[],eC3,rfl,rfl,fun i hi=>absurd hi (Nat.not_lt_zero _)⟩,eR,A0,none,none,none,eA3,(fun z=>by rw [z,nC] at eA;cases eA),(fun z=>by rw [z,nR] at eA2;cases eA2),rfl⟩ (fun i U H' _ h=>SqL.of (h.1 _ _ hc)) ?_ ?_
 ·rintro i U H4 T0 x hx ⟨S4,⟨cs,hC,hcs,hG⟩,hR,a,x6,x7,x8,ha,nac,nar,rfl⟩ nT
  have hi:i < rows.length:=by
   have:=(List.getElem?_eq_some_iff.mp hx).1
   simpa using this
  obtain ⟨z,hzi,rfl⟩:∃ z,rows[i]?=some z/\x=V.str z:=by
   rw [List.getElem?_map] at hx
   cases e:rows[i]? with
   | none=>rw [e] at hx;cases hx
   | some n=>rw [e] at hx;exact ⟨n,rfl,(Option.some.inj hx).symm⟩
  have ez:rows.getD i ⟨#[]⟩=z:=by rw [List.getD_eq_getElem?_getD,hzi];rfl
  refine b7 (xs:=[.int i,.str z]) (SqT.of aj) rfl ?_
  have hC5:=aY nT hC (o:=.tup [.int i,.str z])
  have hR5:=aY nT hR (o:=.tup [.int i,.str z])
  have ha5:=aY nT ha (o:=.tup [.int i,.str z])
  have S5:=S4.upd nT (o:=.tup [.int i,.str z])
  have hG5:=hG.same ((Same.refl H4).upd nT (o:=.tup [.int i,.str z]))
  generalize upd H4 T0 (.tup [.int i,.str z])=H5 at hC5 hR5 ha5 S5 hG5 ⊢
  walk_at "s"
  rw [show ((m:Int) - 1 - (i:Int))=((gA m (cC rows) i 0:Nat):Int) by rw [jG];omega]
  refine ⟨z,_,a,_,rfl,ha5,by rw [sZ];exact hz z (List.mem_of_getElem? hzi),by rw [sZ];exact hf,fun t c1 b H6 nb nc1 S6 ht hb hcc=>?_⟩
  have eC':uz z=cC rows i:=by unfold cC;rw [ez]
  rw [eC',sZ,wD far (Nat.le_refl _)] at ht hb
  rw [eC',sZ,RL] at hcc
  obtain ⟨ws,hc1,hws⟩:=hcc
  have nc1C:c1≠CM:=fun z=>by rw [z,hC5] at nc1;cases nc1
  have nc1R:c1≠RT:=fun z=>by rw [z,hR5] at nc1;cases nc1
  have hG6:=(hG5.same S6).push ⟨nc1C,nc1R⟩ hc1 hws
  have hC6:=S6 _ _ hC5
  have hR6:=S6 _ _ hR5
  have nbC:b≠CM:=fun z=>by rw [z,hC5] at nb;cases nb
  have nbR:b≠RT:=fun z=>by rw [z,hR5] at nb;cases nb
  have tC:t≠CM:=fun z=>by rw [z,hC6] at ht;cases ht
  have tR:t≠RT:=fun z=>by rw [z,hR6] at ht;cases ht
  walk_at "s"
  refine ⟨.inl ⟨rfl,_,SqL.of hC6⟩,?_⟩
  walk_at "s"
  refine bA hC6 (by omega) ?_
  have S7:=over (o:=.lst (cs ++ [.ref c1])) (S5.trans S6) nCH
  have hC7:=aj (H:=H6) (a:=CM) (o:=.lst (cs ++ [.ref c1]))
  have hR7:upd H6 CM (.lst (cs ++ [.ref c1])) RT=_:=(aB nCR.symm).trans hR6
  have ht7:upd H6 CM (.lst (cs ++ [.ref c1])) t=_:=(aB tC).trans ht
  have hb7:upd H6 CM (.lst (cs ++ [.ref c1])) b=_:=(aB nbC).trans hb
  have hG7:=hG6.upd hC6 (o:=.lst (cs ++ [.ref c1])) fun c hc=>hc.1
  generalize upd H6 CM (.lst (cs ++ [.ref c1]))=H7 at S7 hC7 hR7 ht7 hb7 hG7 ⊢
  clear ht hb
  walk_at "s"
  refine ⟨.inl ⟨rfl,_,SqL.of hR7⟩,?_⟩
  walk_at "s"
  refine bA hR7 (by rw [List.length_map,Mj];omega) ?_
  refine ⟨over S7 nRH,⟨cs ++ [.ref c1],(aB nCR).trans hC7,by simp [hcs],hG7.upd hR7 fun c hc=>hc.2⟩,?_,b,some (.int i),some (.str z),some (.ref t),(aB nbR).trans hb7,nbC,nbR,rfl⟩
  rw [aj]
  have e:Eo m (cC rows) far (i+1)=Eo m (cC rows) far i ++ [((gA m (cC rows) i far:Nat):Int)]:=by unfold Eo;rw [List.range_succ,List.map_append];rfl
  rw [e,List.map_append];rfl
 ·rintro U H4 ⟨S4,⟨cs,hC,hcs,hG⟩,hR,a,x6,x7,x8,ha,nac,nar,rfl⟩
  rw [List.length_map,hr'] at hR ha hG
  walk_at "s"
  refine ⟨m,far,cC rows,a,RT,rfl,hm,hf,ha,hR,fun e R H5 ne S5 hE hR5=>?_⟩
  walk_at "s"
  refine jQ rfl fun t nt=>?_
  walk_at "s"
  exact q t CM e R _ (S4.free ne) ((S4.trans S5).upd nt) aj hE (aY nt hR5) ⟨cs,aY nt (S5 _ _ hC),(hG.same (S5.upd nt)).imp (fun _ _ z=>z) (fun _ _ _ z=>z) fun _ _=>trivial⟩
end
def Kd (K:W.Frag) (H:Hp) (v:V):Prop:=(∃ n,v= .int n)\/(∃ b,v= .bl b)\/∃ T,TyOf K H v (.type T)/\PySem.W.kitOne K (.type T) (.type "int")=some false
theorem Kd.same {K:W.Frag} {H H':Hp} {v:V} (h:Kd K H v) (s:Same H H'):Kd K H' v:=by
 rcases h with h | h | ⟨T,a,c⟩
 ·exact .inl h
 ·exact .inr (.inl h)
 ·exact .inr (.inr ⟨T,a.mono fun b o e _=>s b o e,c⟩)
def Wj:V->Bool
 | .int _=>true
 | _=>false
def inB (v:V) (lo hi:Int):Bool:=match v with
 | .int n=>decide (lo<=n) && decide (n<=hi)
 | _=>false
section
variable {P:Program} {w:World} {K:W.Frag} {mg:Str->Option Value} {base:Heap}
theorem Same.put {H H':Hp} {p:Addr} {o:HO} (s:Same H H') (hn:H p=none):Same H (upd H' p o):=fun b u e=>by
 rw [aB (fun z=>by rw [z,hn] at e;cases e)]
 exact s b u e
theorem Same.back {H H':Hp} {p:Addr} (s:Same H H') (h:H' p=none):H p=none:=by
 cases e:H p with
 | none=>rfl
 | some o=>rw [s _ _ e] at h;cases h
theorem yw:(["sign"]:List Str).Nodup:=by trivial
theorem kz0x:bR jT "is_row":=by trivial
theorem kz0y:aP jT "thing":=by trivial
theorem Wk:bR gZ "need_row":=by trivial
theorem kz10:aP gZ "top":=by trivial
theorem kz11:aP gZ "side":=by trivial
theorem Ml:aP aX "signs":=by trivial
theorem kz13:bR aX "enumerate":=by trivial
theorem kz14:aP aX "top":=by trivial
theorem Wl:aP aX "other":=by trivial
theorem RM:aP aX "column":=by trivial
theorem Wm:aP aX "left":=by trivial
theorem Wn:aP aX "above":=by trivial
theorem kz19:aP aX "sign":=by trivial
theorem kz1a:bR aX "TOUCH":=by trivial
theorem kz1b:bR aX "CROSS":=by trivial
theorem kz1c:bR gP "all":=by trivial
theorem RN:aP gP "thing":=by trivial
theorem kz1e:bR gP "len":=by trivial
theorem kz1f:bR gP "MOST_SIGNS":=by trivial
theorem kz1g:bR gP "isinstance":=by trivial
theorem kz1h:bR gP "str":=by trivial
def LP:Str:=pH ++ Str.ofString "."
def RB (v:V):Bool:=rQ v (pH ++ Str.ofString ".") 48
def uA (z:Str):Prop:=z.length<=48/\RB (.str z)=true
theorem RP {H:Hp} {v:V} {ty:String} {l:Str} {m:Int} (h:TyOf K H v (.type ty)) (k:PySem.W.kitOne K (.type ty) (.type "str")=some false):rQ v l m=false:=by
 cases v with
 | str z=>
  cases h
  have:PySem.W.kitOne K (.type "str") (.type "str")=some true:=rfl
  rw [this] at k;cases k
 | _=>rfl
theorem Er:aD ["thing"] ["thing"] (az gP):=⟨rfl,rfl,rfl,by trivial,rfl,by trivial,by trivial⟩
theorem uB (T:Txt K mg):my P w K mg base 1 "is_row" ["thing"] (spIs K (pH ++ Str.ofString ".") 48):=by
 refine gB T.d_is_row Er (fun _ _ _ _ _ _ us hl=>L2.mG (fun _=>rfl) us hl) ?_ fun f cdv A outer s H vs Q E hr h=>?_
 ·rintro vs H Q E ⟨p,rfl,_⟩;rfl
 obtain ⟨v,rfl,hT,q⟩:=h
 have hu:=hr.units0
 have hu64:=hr.units
 refine ⟨_,(au (dz (mL (oU (eQ (eU (aF (gY (K:=K) rfl) (bf kz1g) T.b_isinstance bW (aa (aq 0 RN) (aa (uN (bf kz1h) T.b_str Ha (by trivial) (by trivial)) ao)) (by trivial) (by trivial)))) (lL (cQ rE (aF (aG (K:=K) rfl) (bf kz1e) T.b_len bz (aa (aq 0 RN) ao) (by trivial) (by trivial)) (wg (bf kz1f) T.c_MOST_SIGNS (by trivial)) (by walk_at "p"))))) (aA (aL oJ)) cF) (aA (aL (aF (tW rfl) (bf kz1c) T.b_all zy (aa (kE (sub:=[none]) (d9 (N:=["thing"]) (sc:=az gP) (N':=["sign"]) (by trivial)) rfl rfl rfl (lM (K:=K) rfl (aq 0 RN)) (fun C s₀ H₀ ex=>(t7 0 (by trivial) yw)) (fun C s₀ H₀ ex=>ir) (fun C s₀ H₀ ex=>(xP (G5 (K:=K) rfl) (mC 0 (by trivial)) (bG aU (o7 (O1 (by trivial)) T.c_LETTERS (by trivial)) (o7 (O1 (by trivial)) T.c_POINT (by trivial))) (by walk_at "p")))) ao) (by trivial) (by trivial))))),?_⟩
 walk_at "s"
 rcases hT with ⟨z,rfl,hz⟩ | ⟨ty,hty,hk⟩
 ·have hz1:z.length<=sizeLine:=Nat.le_trans hz (by decide)
  refine mz (.str z) rfl ?_
  walk_at "s"
  try with_reducible refine mH ?_
  walk_at "s"
  refine dM hz1 ?_
  walk_at "s"
  refine qO (fun h1=>?_) (fun h1=>?_)
  ·walk_at "s"
   have:rQ (.str z) (pH ++ Str.ofString ".") 48=false:=by
    unfold rQ
    dsimp only
    rw [decide_eq_false (by omega)];rfl
   have q':=q H (Same.refl H)
   rw [this] at q'
   exact q'
  ·walk_at "s"
   refine .inr (.inr ⟨z,rfl,?_⟩)
   refine xO (fun i us H'=>H'=H/\us=((z.cps.toList.take i).map fun c=>!sy (pH ++ Str.ofString ".") c).map V.bl) hz1 ⟨rfl,rfl⟩ ?_ ?_ ?_
   ·rintro i us H' ⟨rfl,rfl⟩
    simp;omega
   ·rintro i us H' c hc ⟨rfl,rfl⟩
    walk_at "s"
    refine ⟨KeepSt.set rfl,?_⟩
    walk_at "s"
    try with_reducible refine lJ ?_
    walk_at "s"
    refine Hb (Nat.le_trans (show (Str.ofString "abcdefghijklmnopqrstuvwxyz").length+(Str.ofString ".").length<=1000 by trivial) (by decide)) ?_
    walk_at "s"
    refine ⟨rfl,?_⟩
    rw [List.take_add_one,hc]
    simp [pH,sy]
   ·rintro us H' ⟨rfl,rfl⟩ D hD
    walk_at "s"
    refine ⟨D,_,rfl,aj,?_⟩
    have e1:z.cps.toList.take z.cps.size=z.cps.toList:=List.take_of_length_le (by simp)
    have e2:rQ (.str z) (pH ++ Str.ofString ".") 48=(List.map (fun c=>!sy (pH ++ Str.ofString ".") c) (z.cps.toList.take z.cps.size)).all id:=by
     unfold rQ
     dsimp only
     rw [decide_eq_true (by omega),Bool.true_and,e1,List.all_map];rfl
    have q':=q _ ((Same.refl H').upd hD (o:=.lst (List.map V.bl (List.map (fun c=>!sy (pH ++ Str.ofString ".") c) (List.take z.cps.size z.cps.toList)))))
    rw [e2] at q'
    exact q'
 ·refine mz hty hk ?_
  walk_at "s"
  try with_reducible refine lJ ?_
  walk_at "s"
  try with_reducible refine lJ ?_
  walk_at "s"
  have q':=q H (Same.refl H)
  rw [RP hty hk] at q'
  exact q'
theorem Es {H:Hp} {z:Str} (h:uA z):Thing K H (.str z):=.inl ⟨z,rfl,by have:=h.1;omega⟩
def Mm:Sp:=fun vs H Q _=>∃ z:Str,vs=[.str z]/\uA z/\∀ H',Same H H'->Q .non H'
theorem yx:aD ["thing"] ["thing"] (az jT):=⟨rfl,rfl,rfl,by trivial,rfl,by trivial,by trivial⟩
theorem lV (T:Txt K mg):my P w K mg base 3 "need_row" ["thing"] Mm:=by
 have uB:=uB (P:=P) (w:=w) (base:=base) T
 refine gB T.d_need_row yx (fun _ _ _ _ _ _ us hl=>L2.mG (fun _=>rfl) us hl) ?_ fun f cdv A outer s H vs Q E hr h=>?_
 ·rintro vs H Q E ⟨z,rfl,_⟩;rfl
 obtain ⟨z,rfl,hz,q⟩:=h
 have hu:=hr.units0
 have hu64:=hr.units
 refine ⟨_,(aA (dz (eQ (eU (aH uB (hr.mono (by decide)) (bf kz0x) (aa (aq 0 kz0y) ao) (by trivial)))) (aA mO) cF)),?_⟩
 walk_at "s"
 refine ⟨.str z,rfl,Es hz,fun H1 S1=>?_⟩
 rw [show rQ (.str z) (pH ++ Str.ofString ".") 48=true from hz.2]
 walk_at "s"
 exact q _ S1
def Iu:Sp:=fun vs H Q _=>∃ z y:Str,vs=[.str z,.str y]/\uA z/\uA y/\∀ H',Same H H'->Q .non H'
theorem wF:aD ["side","top"] ["side","top"] (az gZ):=⟨rfl,rfl,rfl,by trivial,rfl,by trivial,by trivial⟩
theorem m5 (T:Txt K mg):my P w K mg base 4 "need_rows" ["side","top"] Iu:=by
 have lV:=lV (P:=P) (w:=w) (base:=base) T
 refine gB T.d_need_rows wF (fun _ _ _ _ _ _ us hl=>L2.qI (fun _ _=>rfl) us hl) ?_ fun f cdv A outer s H vs Q E hr h=>?_
 ·rintro vs H Q E ⟨z,y,rfl,_⟩;rfl
 obtain ⟨z,y,rfl,hz,hy,q⟩:=h
 have hu:=hr.units0
 have hu64:=hr.units
 refine ⟨_,(au (bh (aH lV (hr.mono (by decide)) (bf Wk) (aa (aq 0 kz11) ao) (by trivial))) (aA (bh (aH lV (hr.mono (by decide)) (bf Wk) (aa (aq 1 kz10) ao) (by trivial))))),?_⟩
 walk_at "s"
 refine ⟨z,rfl,hz,fun H1 S1=>?_⟩
 walk_at "s"
 refine ⟨y,rfl,hy,fun H2 S2=>?_⟩
 walk_at "s"
 exact q H2 (S1.trans S2)
def Ab (c:Nat) (top:Str) (ab:List Int) (left:Int):Nat->Int
 | 0=>left
 | j+1=>if (decide (c=top.cps.getD j 0) || decide (ab.getD j 0 < Ab c top ab left j))=true then ab.getD j 0 else Ab c top ab left j
def uQ (c:Nat) (top:Str) (ab:List Int) (left:Int) (j:Nat):Bool:=decide (c=top.cps.getD j 0) || decide (ab.getD j 0 < Ab c top ab left j)
def Wo (b:Bool):Str:=if b=true then Str.ofString "o" else Str.ofString "x"
def vL (c:Nat) (top:Str) (ab:List Int) (left:Int) (j:Nat):List Str:=(List.range j).map fun k=>Wo (uQ c top ab left k)
theorem Iv {c:Nat} {top:Str} {ab:List Int} {left:Int} {j:Nat}:∀ y∈vL c top ab left j,y.length=1:=fun y hy=>by
 obtain ⟨k,_,rfl⟩:=List.mem_map.mp hy
 unfold Wo
 split <;> trivial
def Mp:Sp:=fun vs H Q _=>∃ (c:Nat) (top:Str) (left:Int) (a:Addr) (ab:List Int),vs=[.str ⟨#[c]⟩,.str top,.int left,.ref a]/\H a=some (.lst (ab.map V.int))/\top.cps.size=ab.length/\ab.length<=48/\
 ∀ H',Same H H'->Q (.str (Txt.join (Str.ofString "") (vL c top ab left ab.length))) H'
theorem dU:aD ["sign","top","left","above","signs","column","other"] ["sign","top","left","above"] (az aX):=⟨rfl,rfl,rfl,by trivial,rfl,by trivial,by trivial⟩
theorem jU (T:Txt K mg):my P w K mg base 1 "signs_of_row" ["sign","top","left","above"] Mp:=by
 refine gB T.d_signs_of_row dU (fun _ _ _ _ _ _ us hl=>L2.Py (fun _ _ _ _=>rfl) us hl) ?_ fun f cdv A outer s H vs Q E hr h=>?_
 ·rintro vs H Q E ⟨c,top,left,a,ab,rfl,_⟩;rfl
 obtain ⟨c,top,left,a,ab,rfl,ha,hz,hl,q⟩:=h
 have hu:=hr.units0
 have hu64:=hr.units
 refine ⟨_,(au (aK (i:=4) dU.nd rfl (Or.inl Ml) (dH ao) rfl) (au (dB PassesOwn.never rfl (j5 (K:=K) rfl rfl (bf kz13) T.b_enumerate (aa (aq 1 kz14) ao)) (km (K:=K) rfl rfl (aW (aO (i:=5) dU.nd rfl (Or.inl RM) rfl) (aW (aO (i:=6) dU.nd rfl (Or.inl Wl) rfl) gU))) (aA (dz (mL (oU (cQ (zK (K:=K) rfl hu64) (aq 0 kz19) (aq 6 Wl) (by walk_at "p")) (lL (cQ rE (aq 2 Wm) (dh (K:=K) rfl (aq 3 Wn) (aq 5 RM)) (by walk_at "p"))))) (au (bh (cR (K:=K) rfl PySem.F.plainAttrs_list PySem.F.slot_list_append PySem.F.type_list_append bw (aq 4 Ml) (aa (o7 (bf kz1a) T.c_TOUCH (by trivial)) ao))) (aA (aK (i:=2) dU.nd rfl (Or.inl Wm) (dh (K:=K) rfl (aq 3 Wn) (aq 5 RM)) rfl))) (aA (bh (cR (K:=K) rfl PySem.F.plainAttrs_list PySem.F.slot_list_append PySem.F.type_list_append bw (aq 4 Ml) (aa (o7 (bf kz1b) T.c_CROSS (by trivial)) ao))))))) (aA (aL (cR (K:=K) rfl PySem.F.plainAttrs_str PySem.F.slot_str_join PySem.F.type_str_join v8 Bq (aa (aq 4 Ml) ao)))))),?_⟩
 walk_at "s"
 have hs:20000<=sizeLine:=by decide
 refine jQ rfl fun S0 nS=>?_
 have e0:=aj (H:=H) (a:=S0) (o:=.lst [])
 have Sm:=(Same.refl H).upd nS (o:=.lst [])
 generalize upd H S0 (.lst [])=H1 at e0 Sm ⊢
 walk_at "s"
 refine .inl ⟨top,rfl,?_⟩
 refine Hf (fun j U H'=>Same H H'/\H' S0=some (.lst ((vL c top ab left j).map V.str))/\∃ x5 x6,U=[some (.str ⟨#[c]⟩),some (.str top),some (.int (Ab c top ab left j)),some (.ref a),some (.ref S0),x5,x6])
  ⟨Sm,e0,none,none,rfl⟩ ?_ ?_
 ·rintro j U H2 T0 hj ⟨S2,hS,x5,x6,rfl⟩ nT
  have hj':j < ab.length:=by rw [← hz];exact hj
  refine b7 (xs:=[.int j,.str ⟨#[top.cps.getD j 0]⟩]) (SqT.of aj) rfl ?_
  have hS3:=aY nT hS (o:=.tup (mF top j))
  have S3:=S2.upd nT (o:=.tup (mF top j))
  generalize upd H2 T0 (.tup (mF top j))=H3 at hS3 S3 ⊢
  have ha3:=S3 _ _ ha
  have hix:wX (ab.map V.int) (j:Int)=some (.int (ab.getD j 0)):=by
   refine cu ?_
   rw [List.getElem?_map,List.getD_eq_getElem?_getD,List.getElem?_eq_getElem hj'];rfl
  walk_at "s"
  have hlS:((vL c top ab left j).map V.str).length < sizeLine:=by unfold vL;simp;omega
  have step:(vL c top ab left (j+1)).map V.str=(vL c top ab left j).map V.str ++ [.str (Wo (uQ c top ab left j))]:=by unfold vL;rw [List.range_succ,List.map_append,List.map_append];rfl
  have stepT:uQ c top ab left j=true->Ab c top ab left (j+1)=ab.getD j 0:=fun h=>by rw [Ab];exact if_pos h
  have stepF:uQ c top ab left j=false->Ab c top ab left (j+1)=Ab c top ab left j:=fun h=>by rw [Ab];exact if_neg (fun z=>by unfold uQ at h;rw [h] at z;cases z)
  refine qO (fun hk=>?_) (fun hk=>?_)
  ·have ec:c=top.cps.getD j 0:=by
    have:=Str.mk.inj (V.str.inj hk)
    simpa using this
   have hB:uQ c top ab left j=true:=by unfold uQ;rw [decide_eq_true ec];rfl
   walk_at "s"
   refine ⟨.inl ⟨rfl,_,SqL.of hS3⟩,?_⟩
   walk_at "s"
   refine bA hS3 hlS ?_
   have S4:=over (o:=.lst ((vL c top ab left j).map V.str ++ [.str (Str.ofString "o")])) S3 nS
   have hS4:=aj (H:=H3) (a:=S0) (o:=.lst ((vL c top ab left j).map V.str ++ [.str (Str.ofString "o")]))
   generalize upd H3 S0 (.lst ((vL c top ab left j).map V.str ++ [.str (Str.ofString "o")]))=H4 at S4 hS4 ⊢
   have ha4:=S4 _ _ ha
   walk_at "s"
   refine bF (SqL.of ha4) hix ?_
   walk_at "s"
   exact ⟨S4,by rw [hS4,step,hB];rfl,some (.int j),some (.str ⟨#[top.cps.getD j 0]⟩),by rw [stepT hB];rfl⟩
  ·have ec:¬ c=top.cps.getD j 0:=fun z=>hk (by rw [z])
   walk_at "s"
   refine bF (SqL.of ha3) hix ?_
   walk_at "s"
   refine qO (fun hg=>?_) (fun hg=>?_)
   ·have hB:uQ c top ab left j=true:=by unfold uQ;rw [decide_eq_false ec,Bool.false_or];exact decide_eq_true (by omega)
    walk_at "s"
    refine ⟨.inl ⟨rfl,_,SqL.of hS3⟩,?_⟩
    walk_at "s"
    refine bA hS3 hlS ?_
    have S4:=over (o:=.lst ((vL c top ab left j).map V.str ++ [.str (Str.ofString "o")])) S3 nS
    have hS4:=aj (H:=H3) (a:=S0) (o:=.lst ((vL c top ab left j).map V.str ++ [.str (Str.ofString "o")]))
    generalize upd H3 S0 (.lst ((vL c top ab left j).map V.str ++ [.str (Str.ofString "o")]))=H4 at S4 hS4 ⊢
    have ha4:=S4 _ _ ha
    walk_at "s"
    refine bF (SqL.of ha4) hix ?_
    walk_at "s"
    exact ⟨S4,by rw [hS4,step,hB];rfl,some (.int j),some (.str ⟨#[top.cps.getD j 0]⟩),by rw [stepT hB];rfl⟩
   ·have hB:uQ c top ab left j=false:=by unfold uQ;rw [decide_eq_false ec,Bool.false_or];exact decide_eq_false (by omega)
    walk_at "s"
    refine ⟨.inl ⟨rfl,_,SqL.of hS3⟩,?_⟩
    walk_at "s"
    refine bA hS3 hlS ?_
    have S4:=over (o:=.lst ((vL c top ab left j).map V.str ++ [.str (Str.ofString "x")])) S3 nS
    have hS4:=aj (H:=H3) (a:=S0) (o:=.lst ((vL c top ab left j).map V.str ++ [.str (Str.ofString "x")]))
    generalize upd H3 S0 (.lst ((vL c top ab left j).map V.str ++ [.str (Str.ofString "x")]))=H4 at S4 hS4 ⊢
    exact ⟨S4,by rw [hS4,step,hB];rfl,some (.int j),some (.str ⟨#[top.cps.getD j 0]⟩),by rw [stepF hB];rfl⟩
 ·rintro U H2 ⟨S2,hS,x5,x6,rfl⟩
  rw [hz] at hS
  walk_at "s"
  refine ⟨rfl,?_⟩
  walk_at "s"
  have hs1:=xN (Iv (c:=c) (top:=top) (ab:=ab) (left:=left) (j:=ab.length))
  have e0:(Str.ofString "").length=0:=by trivial
  refine zE hS (by rw [hs1,e0];unfold vL;simp;omega) ?_
  exact q _ S2
end
local macro_rules | `(tactic| walk_at "s") => `(tactic| (with_reducible repeat (first | refine oO ?_ | walk_at "0")))
local macro_rules | `(tactic| walk_at "n") => `(tactic| (with_reducible repeat (walk_at "0")))
section
variable {P:Program} {w:World} {K:W.Frag} {mg:Str->Option Value} {base:Heap}
theorem RQ:aP bD "cells":=by trivial
theorem kz1j:bR bD "enumerate":=by trivial
theorem RV:aP bD "side":=by trivial
theorem Wq:aP bD "sign":=by trivial
theorem Wr:aP bD "row":=by trivial
theorem Mq:aP bD "above":=by trivial
theorem kz1o:bR bD "over_row":=by trivial
theorem RW:aP bD "left":=by trivial
theorem RX:aP bD "signs":=by trivial
theorem kz1r:bR bD "signs_of_row":=by trivial
theorem Ws:aP bD "top":=by trivial
theorem RZ:bR bD "len":=by trivial
theorem kz1u:bR bD "lines_above":=by trivial
def Iw (c:Nat) (top:Str) (ab:List Int) (left:Int) (j:Nat):Int:=if uQ c top ab left j=true then Ab c top ab left j else ab.getD j 0
def Mr (c:Nat) (top:Str) (ab:List Int) (left:Int) (n:Nat):List Int:=(List.range n).map (Iw c top ab left)
theorem Ms {c:Nat} {top:Str} {ab:List Int} {left:Int} {n:Nat}:(Mr c top ab left n).length=n:=by simp [Mr]
theorem Iz (c:Nat) (top:Str) (ab:List Int) (left:Int) (j:Nat):Ab c top ab left (j+1)=if uQ c top ab left j=true then ab.getD j 0 else Ab c top ab left j:=rfl
def Wu (b:Bool):Nat:=if b=true then 111 else 120
theorem R0 (b:Bool):(Wo b).cps.toList=[Wu b]:=by cases b <;> trivial
def yz (c:Nat) (top:Str) (ab:List Int) (left:Int) (n:Nat):Str:=⟨((List.range n).map fun k=>Wu (uQ c top ab left k)).toArray⟩
theorem Mt {a b:Str} (h:a.cps.toList=b.cps.toList):a=b:=by
 cases a;cases b
 exact congrArg Str.mk (Array.toList_inj.mp h)
theorem vM {α β:Type} (f:α->β):∀ l:List α,(l.map fun k=>[f k]).flatten=l.map f
 | []=>rfl
 | a :: l=>by rw [List.map_cons,List.flatten_cons,vM f l];rfl
theorem Et {c:Nat} {top:Str} {ab:List Int} {left:Int} {n:Nat}:Txt.join (Str.ofString "") (vL c top ab left n)=yz c top ab left n:=by
 apply Mt
 rw [pX]
 unfold vL yz
 rw [List.map_map]
 have:((fun y:Str=>y.cps.toList) ∘ fun k=>Wo (uQ c top ab left k))=fun k=>[Wu (uQ c top ab left k)]:=by
  funext k;exact R0 _
 rw [this,vM]
theorem vN {c:Nat} {top:Str} {ab:List Int} {left:Int} {n:Nat}:(yz c top ab left n).cps.size=n:=by simp [yz]
theorem BX {c:Nat} {top:Str} {ab:List Int} {left:Int} {n j:Nat} (h:j < n):(yz c top ab left n).cps.getD j 0=Wu (uQ c top ab left j):=by
 unfold yz
 simp [Array.getD,h]
theorem IK {z:Str} {j:Nat} {b:Bool} (h:z.cps.getD j 0=Wu b):uz z j=b:=by
 unfold uz
 rw [h]
 cases b <;> trivial
theorem wG {z:Str} {c:Nat} {top:Str} {ab:List Int} {left:Int} {n:Nat} (hz:∀ j,j < n->uz z j=uQ c top ab left j):∀ j,j<=n->iI (uz z) ab left j=(Mr c top ab left j,Ab c top ab left j)
 | 0,_=>rfl
 | j+1,h=>by
  have ih:=wG hz j (by omega)
  have e:Mr c top ab left (j+1)=Mr c top ab left j ++ [Iw c top ab left j]:=by unfold Mr;rw [List.range_succ,List.map_append];rfl
  rw [iI,ih,hz j (by omega),e,Iz]
  unfold Iw
  by_cases hc:uQ c top ab left j=true
  ·rw [if_pos hc,if_pos hc,if_pos hc]
  ·rw [if_neg hc,if_neg hc,if_neg hc]
def vO (m:Nat) (side top:Str):Nat->List Int
 | 0=>(List.range top.cps.size).map fun l=>((m+l:Nat):Int)
 | i+1=>Mr (side.cps.getD i 0) top (vO m side top i) ((m:Int) - 1 - i) top.cps.size
theorem nM {m:Nat} {side top:Str}:∀ i,(vO m side top i).length=top.cps.size
 | 0=>by simp [vO]
 | i+1=>by rw [vO,Ms]
def IV (m:Nat) (side top:Str) (i:Nat):Str:=yz (side.cps.getD i 0) top (vO m side top i) ((m:Int) - 1 - i) top.cps.size
def Ac (m:Nat) (side top:Str) (n:Nat):List Str:=(List.range n).map (IV m side top)
def kW (side top:Str):List Str:=Ac side.cps.size side top side.cps.size
theorem IW (m:Nat) (side top:Str) (n:Nat):Ac m side top (n+1)=Ac m side top n ++ [IV m side top n]:=by unfold Ac;rw [List.range_succ,List.map_append];rfl
theorem BZ (m:Nat) (side top:Str) (n:Nat):(Ac m side top n).length=n:=by simp [Ac]
def Mu:Sp:=fun vs H Q _=>∃ (side top:Str),vs=[.str side,.str top]/\side.cps.size<=48/\top.cps.size<=48/\
 ∀ D H',H D=none->Same H H'->H' D=some (.lst ((kW side top).map V.str))->Q (.ref D) H'
theorem dI:aD ["side","top","above","cells","row","sign","left","signs"] ["side","top"] (az bD):=⟨rfl,rfl,rfl,by trivial,rfl,by trivial,by trivial⟩
theorem pI (T:Txt K mg):my P w K mg base 2 "cells_of" ["side","top"] Mu:=by
 have dX:=dX (P:=P) (w:=w) (base:=base) T
 have jU:=jU (P:=P) (w:=w) (base:=base) T
 have iJ:=iJ (P:=P) (w:=w) (base:=base) T
 refine gB T.d_cells_of dI (fun _ _ _ _ _ _ us hl=>L2.qI (fun _ _=>rfl) us hl) ?_ fun f cdv A outer s H vs Q E hr h=>?_
 ·rintro vs H Q E ⟨side,top,rfl,_⟩;rfl
 obtain ⟨side,top,rfl,hs,ht,q⟩:=h
 have hu:=hr.units0
 have hu64:=hr.units
 refine ⟨_,(au (aK (i:=2) dI.nd rfl (Or.inl Mq) (aH dX (hr.mono (by decide)) (bf kz1u) (aa (aF (aG (K:=K) rfl) (bf RZ) T.b_len bz (aa (aq 0 RV) ao) (by trivial) (by trivial)) (aa (aF (aG (K:=K) rfl) (bf RZ) T.b_len bz (aa (aq 1 Ws) ao) (by trivial) (by trivial)) ao)) (by trivial)) rfl) (au (aK (i:=3) dI.nd rfl (Or.inl RQ) (dH ao) rfl) (au (dB PassesOwn.never rfl (j5 (K:=K) rfl rfl (bf kz1j) T.b_enumerate (aa (aq 0 RV) ao)) (km (K:=K) rfl rfl (aW (aO (i:=4) dI.nd rfl (Or.inl Wr) rfl) (aW (aO (i:=5) dI.nd rfl (Or.inl Wq) rfl) gU))) (au (aK (i:=6) dI.nd rfl (Or.inl RW) (bG jh (bG jh (aF (aG (K:=K) rfl) (bf RZ) T.b_len bz (aa (aq 0 RV) ao) (by trivial) (by trivial)) aC) (aq 4 Wr)) rfl) (au (aK (i:=7) dI.nd rfl (Or.inl RX) (aH jU (hr.mono (by decide)) (bf kz1r) (aa (aq 5 Wq) (aa (aq 1 Ws) (aa (aq 6 RW) (aa (aq 2 Mq) ao)))) (by trivial)) rfl) (au (bh (cR (K:=K) rfl PySem.F.plainAttrs_list PySem.F.slot_list_append PySem.F.type_list_append bw (aq 3 RQ) (aa (aq 7 RX) ao))) (aA (aK (i:=2) dI.nd rfl (Or.inl Mq) (dh (K:=K) rfl (aH iJ (hr.mono (by decide)) (bf kz1o) (aa (aq 7 RX) (aa (aq 6 RW) (aa (aq 2 Mq) ao))) (by trivial)) aC) rfl)))))) (aA (aL (aq 3 RQ)))))),?_⟩
 walk_at "s"
 have hz:1000<=sizeLine:=by decide
 have lz:side.length<=sizeLine:=Nat.le_trans hs (by decide)
 have ly:top.length<=sizeLine:=Nat.le_trans ht (by decide)
 refine dM lz ?_
 walk_at "s"
 refine dM ly ?_
 walk_at "s"
 refine ⟨side.cps.size,top.cps.size,rfl,hs,ht,fun A0 nA=>?_⟩
 have e0:((List.range top.cps.size).map fun l=>((side.cps.size+l:Nat):Int))=vO side.cps.size side top 0:=rfl
 rw [e0]
 have SA:=(Same.refl H).upd nA (o:=.lst ((vO side.cps.size side top 0).map V.int))
 have eA:=aj (H:=H) (a:=A0) (o:=.lst ((vO side.cps.size side top 0).map V.int))
 generalize upd H A0 (.lst ((vO side.cps.size side top 0).map V.int))=H1 at SA eA ⊢
 walk_at "s"
 refine jQ rfl fun D nD=>?_
 have SD:=SA.upd nD (o:=.lst [])
 have eD:=aj (H:=H1) (a:=D) (o:=.lst [])
 have eA2:=aY nD eA (o:=.lst [])
 have nDH:=SA.free nD
 have nAD:A0≠D:=fun z=>by rw [z,nD] at eA;cases eA
 generalize upd H1 D (.lst [])=H2 at SD eD eA2 ⊢
 walk_at "s"
 refine .inl ⟨side,rfl,?_⟩
 refine Hf (fun i U H'=>Same H H'/\H' D=some (.lst ((Ac side.cps.size side top i).map V.str))/\∃ a x4 x5 x6 x7,H' a=some (.lst ((vO side.cps.size side top i).map V.int))/\a≠D/\U=[some (.str side),some (.str top),some (.ref a),some (.ref D),x4,x5,x6,x7])
  ⟨SD,eD,A0,none,none,none,none,eA2,nAD,rfl⟩ ?_ ?_
 ·rintro i U H3 T0 hi ⟨S3,hD,a,x4,x5,x6,x7,ha,nad,rfl⟩ nT
  have hi':i < side.cps.size:=hi
  refine b7 (xs:=[.int i,.str ⟨#[side.cps.getD i 0]⟩]) (SqT.of aj) rfl ?_
  have hD4:=aY nT hD (o:=.tup (mF side i))
  have ha4:=aY nT ha (o:=.tup (mF side i))
  have S4:=S3.upd nT (o:=.tup (mF side i))
  generalize upd H3 T0 (.tup (mF side i))=H4 at hD4 ha4 S4 ⊢
  walk_at "s"
  refine dM lz ?_
  walk_at "s"
  refine ⟨_,top,_,a,_,rfl,ha4,(nM i).symm,by rw [nM];exact ht,fun H5 S5=>?_⟩
  rw [Et,nM]
  have hD5:=S5 _ _ hD4
  have ha5:=S5 _ _ ha4
  walk_at "s"
  refine ⟨.inl ⟨rfl,_,SqL.of hD5⟩,?_⟩
  walk_at "s"
  refine bA hD5 (by rw [List.length_map,BZ];omega) ?_
  have e1:(Ac side.cps.size side top i).map V.str ++ [.str (yz (side.cps.getD i 0) top (vO side.cps.size side top i) ((side.length:Int) - 1 - i) top.cps.size)]=(Ac side.cps.size side top (i+1)).map V.str:=by rw [IW,List.map_append];rfl
  rw [e1]
  have S6:=over (o:=.lst ((Ac side.cps.size side top (i+1)).map V.str)) (S4.trans S5) nDH
  have hD6:=aj (H:=H5) (a:=D) (o:=.lst ((Ac side.cps.size side top (i+1)).map V.str))
  have ha6:upd H5 D (.lst ((Ac side.cps.size side top (i+1)).map V.str)) a=_:=(aB nad).trans ha5
  generalize upd H5 D (.lst ((Ac side.cps.size side top (i+1)).map V.str))=H6 at S6 hD6 ha6 ⊢
  walk_at "s"
  refine ⟨_,_,a,_,rfl,ha6,by rw [vN,nM],by rw [nM];exact ht,fun t c1 b H7 nb _ S7 ht' hb _=>?_⟩
  rw [nM,wG (n:=top.cps.size) (fun j hj=>IK (BX hj)) _ (Nat.le_refl _)] at ht' hb
  have hD7:=S7 _ _ hD6
  have nbD:b≠D:=fun z=>by rw [z,hD6] at nb;cases nb
  walk_at "s"
  exact ⟨S6.trans S7,hD7,b,_,_,_,_,hb,nbD,rfl⟩
 ·rintro U H3 ⟨S3,hD,a,x4,x5,x6,x7,ha,nad,rfl⟩
  walk_at "s"
  exact q D H3 nDH S3 hD
def CB (side top:Str):Nat->Nat->Bool:=cC (kW side top)
theorem Eu {side top:Str} {i:Nat} (h:i < side.cps.size):(kW side top).getD i ⟨#[]⟩=IV side.cps.size side top i:=by
 unfold kW Ac
 rw [List.getD_eq_getElem?_getD,List.getElem?_map,List.getElem?_range h];rfl
theorem Ad {side top:Str} {i:Nat} (h:i < side.cps.size):CB side top i=uz (IV side.cps.size side top i):=by unfold CB cC;rw [Eu h]
theorem Pn {side top:Str} {i j:Nat} (h:i < side.cps.size) (hj:j < top.cps.size):CB side top i j=uQ (side.cps.getD i 0) top (vO side.cps.size side top i) ((side.cps.size:Int) - 1 - i) j:=by
 rw [Ad h]
 exact IK (BX hj)
theorem ag {side top:Str}:∀ i,i<=side.cps.size->vO side.cps.size side top i=qX side.cps.size (CB side top) top.cps.size i/\
  (i < side.cps.size->∀ j,j<=top.cps.size->Ab (side.cps.getD i 0) top (vO side.cps.size side top i) ((side.cps.size:Int) - 1 - i) j=((gA side.cps.size (CB side top) i j:Nat):Int)/\Mr (side.cps.getD i 0) top (vO side.cps.size side top i) ((side.cps.size:Int) - 1 - i) j=qX side.cps.size (CB side top) j (i+1))
 | 0,h=>⟨by rw [Ir];rfl,fun hi j hj=>ag_step (by rw [Ir];rfl) hi hj⟩
 | i+1,h=>by
  have ih:=(ag (side:=side) (top:=top) i (by omega)).2 (by omega) top.cps.size (Nat.le_refl _)
  have e:vO side.cps.size side top (i+1)=qX side.cps.size (CB side top) top.cps.size (i+1):=ih.2
  exact ⟨e,fun hi j hj=>ag_step e hi hj⟩
where
 ag_step {side top:Str} {i j:Nat} (e:vO side.cps.size side top i=qX side.cps.size (CB side top) top.cps.size i) (hi:i < side.cps.size) (hj:j<=top.cps.size):
   Ab (side.cps.getD i 0) top (vO side.cps.size side top i) ((side.cps.size:Int) - 1 - i) j=((gA side.cps.size (CB side top) i j:Nat):Int)/\Mr (side.cps.getD i 0) top (vO side.cps.size side top i) ((side.cps.size:Int) - 1 - i) j=qX side.cps.size (CB side top) j (i+1):=by
  have h1:=wG (z:=IV side.cps.size side top i) (c:=side.cps.getD i 0) (top:=top) (ab:=vO side.cps.size side top i) (left:=(side.cps.size:Int) - 1 - i) (n:=top.cps.size) (fun l hl=>by rw [← Ad hi];exact Pn hi hl) j hj
  have h2:=wD (m:=side.cps.size) (C:=CB side top) (far:=top.cps.size) (i:=i) j hj
  rw [← Ad hi] at h1
  rw [← e,show ((gA side.cps.size (CB side top) i 0:Nat):Int)=(side.cps.size:Int) - 1 - i by rw [jG];omega,h1] at h2
  exact ⟨congrArg Prod.snd h2,congrArg Prod.fst h2⟩
theorem Mv {side top:Str} {i j:Nat} (hi:i < side.cps.size) (hj:j < top.cps.size):CB side top i j=(decide (side.cps.getD i 0=top.cps.getD j 0) || decide (gD side.cps.size (CB side top) j i < gA side.cps.size (CB side top) i j)):=by
 rw [Pn hi hj]
 unfold uQ
 rw [((ag i (by omega)).2 hi j (by omega)).1,(ag i (by omega)).1,Aa hj]
 congr 1
 exact decide_eq_decide.mpr (by omega)
end
local macro_rules | `(tactic| walk_at "s") => `(tactic| (with_reducible repeat (first | refine oO ?_ | walk_at "0")))
local macro_rules | `(tactic| walk_at "n") => `(tactic| (with_reducible repeat (walk_at "0")))
section
variable {P:Program} {w:World} {K:W.Frag} {mg:Str->Option Value} {base:Heap}
theorem wH:(["line"]:List Str).Nodup:=by trivial
theorem Mw:aP cO "ways":=by trivial
theorem Wv:bR cO "enumerate":=by trivial
theorem kz1x:aP cO "coming":=by trivial
theorem Ww:aP cO "pairs":=by trivial
theorem R5:aP cO "row":=by trivial
theorem R6:aP cO "pair":=by trivial
theorem R7:aP cO "column":=by trivial
theorem kz22:bR cO "range":=by trivial
theorem kz23:aP cO "many":=by trivial
theorem Wx {m:Nat} {C:Nat->Nat->Bool} {far:Nat}:∀ n i j,i+j<=n->i < m->j < far->gA m C i j < m+far/\gD m C j i < m+far
 | n,0,0,_,hi,hj=>by rw [jG,lQ];omega
 | 0,0,j+1,h,_,_=>absurd h (by omega)
 | 0,i+1,j,h,_,_=>absurd h (by omega)
 | n+1,0,j+1,h,hi,hj=>by
  have ih:=Wx (m:=m) (C:=C) (far:=far) n 0 j (by omega) hi (by omega)
  refine ⟨?_,by rw [lQ];omega⟩
  rw [j8];split
  ·exact ih.2
  ·exact ih.1
 | n+1,i+1,0,h,hi,hj=>by
  have ih:=Wx (m:=m) (C:=C) (far:=far) n i 0 (by omega) (by omega) hj
  refine ⟨by rw [jG];omega,?_⟩
  rw [jH];split
  ·exact ih.1
  ·exact ih.2
 | n+1,i+1,j+1,h,hi,hj=>by
  have h1:=Wx (m:=m) (C:=C) (far:=far) n (i+1) j (by omega) hi (by omega)
  have h2:=Wx (m:=m) (C:=C) (far:=far) n i (j+1) (by omega) (by omega) hj
  refine ⟨?_,?_⟩
  ·rw [j8];split
   ·exact h1.2
   ·exact h1.1
  ·rw [jH];split
   ·exact h2.1
   ·exact h2.2
def stp (w:Nat->List (Int×Int)) (l:Nat) (q:Int×Int):Nat->List (Int×Int):=fun k=>if k=l then w k ++ [q] else w k
def Mx (m:Nat) (C:Nat->Nat->Bool) (i:Nat) (w0:Nat->List (Int×Int)):Nat->Nat->List (Int×Int)
 | 0=>w0
 | j+1=>stp (stp (Mx m C i w0 j) (gA m C i j) ((i:Int),(j:Int))) (gD m C j i) ((i:Int),(j:Int))
def Ft (m:Nat) (C:Nat->Nat->Bool) (far:Nat):Nat->Nat->List (Int×Int)
 | 0=>fun _=>[]
 | i+1=>Mx m C i (Ft m C far i) far
theorem wI (w:Nat->List (Int×Int)) (l:Nat) (q:Int×Int) (k:Nat):(stp w l q k).length<=(w k).length+1:=by
 unfold stp;split <;> simp
theorem wK {m:Nat} {C:Nat->Nat->Bool} {i:Nat} {w0:Nat->List (Int×Int)} (k:Nat):∀ j,(Mx m C i w0 j k).length<=(w0 k).length+2*j
 | 0=>by simp [Mx]
 | j+1=>by
  have ih:=wK (m:=m) (C:=C) (i:=i) (w0:=w0) k j
  have h1:=wI (stp (Mx m C i w0 j) (gA m C i j) ((i:Int),(j:Int))) (gD m C j i) ((i:Int),(j:Int)) k
  have h2:=wI (Mx m C i w0 j) (gA m C i j) ((i:Int),(j:Int)) k
  show (stp _ _ _ k).length<=_
  omega
theorem Ca {m:Nat} {C:Nat->Nat->Bool} {far:Nat} (k:Nat):∀ i,(Ft m C far i k).length<=2*(i*far)
 | 0=>by simp [Ft]
 | i+1=>by
  have ih:=Ca (m:=m) (C:=C) (far:=far) k i
  have h1:=wK (m:=m) (C:=C) (i:=i) (w0:=Ft m C far i) k far
  show (Mx m C i (Ft m C far i) far k).length<=_
  have e:(i+1)*far=i*far+far:=Nat.succ_mul i far
  omega
def Wys (H:Hp) (Pd:Addr->Prop) (refs:List V) (n:Nat) (w:Nat->List (Int×Int)):Prop:=refs.length=n/\(∀ l,l < n->∃ p ws,refs[l]?=some (.ref p)/\Pd p/\H p=some (.lst ws)/\PrI H ws (w l))/\
 ∀ (l k:Nat) (p:Addr),l≠k->refs[l]?=some (.ref p)->refs[k]?≠some (.ref p)
theorem Wys.imp {H H':Hp} {Pd Pd':Addr->Prop} {refs:List V} {n:Nat} {w:Nat->List (Int×Int)} (h:Wys H Pd refs n w) (ht:∀ p us,H p=some (.tup us)->H' p=some (.tup us)) (hl:∀ c ws,Pd c->H c=some (.lst ws)->H' c=some (.lst ws)) (hp:∀ c,Pd c->Pd' c):Wys H' Pd' refs n w:=
 ⟨h.1,fun l hl'=>by
  obtain ⟨p,ws,e1,e2,e3,e4⟩:=h.2.1 l hl'
  exact ⟨p,ws,e1,hp p e2,hl p ws e2 e3,e4.imp ht⟩,h.2.2⟩
theorem Wys.same {H H':Hp} {Pd:Addr->Prop} {refs:List V} {n:Nat} {w:Nat->List (Int×Int)} (h:Wys H Pd refs n w) (s:Same H H'):Wys H' Pd refs n w:=h.imp (fun p us e=>s _ _ e) (fun c ws _ e=>s _ _ e) fun _ z=>z
theorem Wys.new {H:Hp} {Pd:Addr->Prop} {refs:List V} {n:Nat} {w:Nat->List (Int×Int)} {p:Addr} (h:Wys H Pd refs n w) (hn:H p=none) (hP:Pd p) (hw:w n=[]):Wys (upd H p (.lst [])) Pd (refs ++ [.ref p]) (n+1) w:=by
 have s:Same H (upd H p (.lst [])):=(Same.refl H).upd hn
 obtain ⟨h1,h2,h3⟩:=h
 have ne:∀ l:Nat,refs[l]?≠some (V.ref p):=fun l e=>by
  have hl:l < n:=by rw [← h1];exact (List.getElem?_eq_some_iff.mp e).1
  obtain ⟨p',ws,e1,_,e3,_⟩:=h2 l hl
  rw [e] at e1
  cases e1
  rw [hn] at e3;cases e3
 refine ⟨by rw [List.length_append,h1];rfl,fun l hl=>?_,fun l k q hlk e1 e2=>?_⟩
 ·by_cases e:l=n
  ·subst e
   exact ⟨p,[],by rw [List.getElem?_append_right (by omega),h1,Nat.sub_self];rfl,hP,aj,by rw [hw];trivial⟩
  ·obtain ⟨p',ws,e1,e2,e3,e4⟩:=h2 l (by omega)
   exact ⟨p',ws,by rw [List.getElem?_append_left (by omega)];exact e1,e2,s _ _ e3,e4.same s⟩
 ·by_cases hl:l < refs.length
  ·rw [List.getElem?_append_left hl] at e1
   by_cases hk:k < refs.length
   ·rw [List.getElem?_append_left hk] at e2
    exact h3 l k q hlk e1 e2
   ·rw [List.getElem?_append_right (by omega)] at e2
    have:k - refs.length=0:=by
     have:=(List.getElem?_eq_some_iff.mp e2).1
     simp at this;omega
    rw [this] at e2
    cases e2
    exact ne l e1
  ·rw [List.getElem?_append_right (by omega)] at e1
   have:l - refs.length=0:=by
    have:=(List.getElem?_eq_some_iff.mp e1).1
    simp at this;omega
   rw [this] at e1
   cases e1
   by_cases hk:k < refs.length
   ·rw [List.getElem?_append_left hk] at e2
    exact ne k e2
   ·have:=(List.getElem?_eq_some_iff.mp e2).1
    simp at this;omega
theorem Wys.app {H:Hp} {Pd:Addr->Prop} {refs ws:List V} {n l:Nat} {w:Nat->List (Int×Int)} {p q:Addr} {x y:Int} (h:Wys H Pd refs n w) (hl:l < n) (hp:refs[l]?=some (.ref p)) (hw:H p=some (.lst ws)) (hq:H q=some (.tup [.int x,.int y])):
  Wys (upd H p (.lst (ws ++ [.ref q]))) Pd refs n (stp w l (x,y)):=by
 obtain ⟨h1,h2,h3⟩:=h
 have ht:∀ r us,H r=some (.tup us)->upd H p (.lst (ws ++ [.ref q])) r=some (.tup us):=fun r us e=>by rw [aB (fun z=>by rw [z,hw] at e;cases e)];exact e
 refine ⟨h1,fun k hk=>?_,h3⟩
 obtain ⟨p',us,e1,e2,e3,e4⟩:=h2 k hk
 by_cases e:k=l
 ·subst e
  rw [hp] at e1
  cases e1
  rw [hw] at e3
  cases e3
  refine ⟨p,_,hp,e2,aj,?_⟩
  unfold stp
  rw [if_pos rfl]
  exact PrI.push (ht _ _ hq) (e4.imp ht)
 ·have ne:p'≠p:=fun z=>by subst z;exact h3 k l p' e e1 hp
  refine ⟨p',us,e1,e2,by rw [aB ne];exact e3,?_⟩
  unfold stp
  rw [if_neg e]
  exact e4.imp ht
theorem Mz {m:Nat} {C:Nat->Nat->Bool} {far i j:Nat} (h:j < far):(yu m C far i)[j]?=some (((gA m C i j:Nat):Int),((gD m C j i:Nat):Int)):=by
 unfold yu
 rw [List.getElem?_map,List.getElem?_range h];rfl
theorem Ja {m:Nat} {C:Nat->Nat->Bool} {far i:Nat}:(yu m C far i).length=far:=by simp [yu]
def R8:Sp:=fun vs H Q _=>∃ (m far:Nat) (C:Nat->Nat->Bool) (cm:Addr) (cs:List V),vs=[.int ((m:Int)+(far:Int)),.ref cm]/\m<=48/\far<=48/\H cm=some (.lst cs)/\Cmg H (fun _=>True) m C far cs m/\
 ∀ aw refs H',H aw=none->Same H H'->H' aw=some (.lst refs)->Wys H' (fun p=>H p=none) refs (m+far) (Ft m C far m)->Q (.ref aw) H'
theorem iM:aD ["many","coming","ways","row","pairs","column","pair"] ["many","coming"] (az cO):=⟨rfl,rfl,rfl,by trivial,rfl,by trivial,by trivial⟩
theorem q9 (T:Txt K mg):my P w K mg base 1 "ways_of" ["many","coming"] R8:=by
 refine gB T.d_ways_of iM (fun _ _ _ _ _ _ us hl=>L2.qI (fun _ _=>rfl) us hl) ?_ fun f cdv A outer s H vs Q E hr h=>?_
 ·rintro vs H Q E ⟨m,far,C,cm,cs,rfl,_⟩;rfl
 obtain ⟨m,far,C,cm,cs,rfl,hm,hf,hcm,hG,q⟩:=h
 have hu:=hr.units0
 have hu64:=hr.units
 refine ⟨_,(au (K5 (i:=2) iM.nd rfl (Or.inl Mw) (sub:=[none]) (d9 (N:=["many","coming","ways","row","pairs","column","pair"]) (sc:=az cO) (N':=["line"]) (by trivial)) rfl rfl rfl (fO (bf kz22) T.b_range (aa (aq 0 kz23) ao)) (fun C s₀ H₀ ex=>(t7 0 (by trivial) wH)) (fun C s₀ H₀ ex=>ir) (fun C s₀ H₀ ex=>(dH ao)) rfl) (au (dB PassesOwn.never rfl (j5 (K:=K) rfl rfl (bf Wv) T.b_enumerate (aa (aq 1 kz1x) ao)) (km (K:=K) rfl rfl (aW (aO (i:=3) iM.nd rfl (Or.inl R5) rfl) (aW (aO (i:=4) iM.nd rfl (Or.inl Ww) rfl) gU))) (aA (dB PassesOwn.never rfl (j5 (K:=K) rfl rfl (bf Wv) T.b_enumerate (aa (aq 4 Ww) ao)) (km (K:=K) rfl rfl (aW (aO (i:=5) iM.nd rfl (Or.inl R7) rfl) (aW (aO (i:=6) iM.nd rfl (Or.inl R6) rfl) gU))) (au (bh (cR (K:=K) rfl PySem.F.plainAttrs_list PySem.F.slot_list_append PySem.F.type_list_append bw (dh (K:=K) rfl (aq 2 Mw) (dh (K:=K) rfl (aq 6 R6) aC)) (aa (mD (aa (aq 3 R5) (aa (aq 5 R7) ao))) ao))) (aA (bh (cR (K:=K) rfl PySem.F.plainAttrs_list PySem.F.slot_list_append PySem.F.type_list_append bw (dh (K:=K) rfl (aq 2 Mw) (dh (K:=K) rfl (aq 6 R6) aC)) (aa (mD (aa (aq 3 R5) (aa (aq 5 R7) ao))) ao)))))))) (aA (aL (aq 2 Mw))))),?_⟩
 walk_at "s"
 have hs:20000<=sizeLine:=by decide
 refine ⟨_,rfl,by omega,by omega,?_⟩
 rw [show ((m:Int)+(far:Int)).toNat=m+far by omega]
 refine t6 (n:=m+far) (fun i ys H'=>Same H H'/\Wys H' (fun p=>H p=none) ys i (fun _=>[])) (by omega) ⟨Same.refl H,rfl,(fun l hl=>absurd hl (Nat.not_lt_zero _)),fun l k p _ e=>by simp at e⟩ ?_ ?_ ?_
 ·rintro i ys H' ⟨_,h⟩
  exact Nat.le_of_eq h.1
 ·rintro i ys H' hi ⟨s,h⟩
  walk_at "s"
  refine ⟨KeepSt.set rfl,?_⟩
  walk_at "s"
  refine jQ rfl fun p np=>?_
  walk_at "s"
  exact ⟨s.upd np,h.new np (Same.back s np) rfl⟩
 ·rintro refs H1 ⟨s1,hW⟩ aw naw
  have naw0:=Same.back s1 naw
  have s2:=s1.upd naw (o:=.lst refs)
  have haw:=aj (H:=H1) (a:=aw) (o:=.lst refs)
  have hW2:Wys (upd H1 aw (.lst refs)) (fun p=>H p=none/\p≠aw) refs (m+far) (Ft m C far 0):=by
   obtain ⟨w1,w2,w3⟩:=hW
   refine ⟨w1,fun l hl=>?_,w3⟩
   obtain ⟨p,ws,e1,e2,e3,e4⟩:=w2 l hl
   exact ⟨p,ws,e1,⟨e2,fun z=>by rw [z,naw] at e3;cases e3⟩,aY naw e3,e4.same ((Same.refl H1).upd naw)⟩
  generalize upd H1 aw (.lst refs)=H2 at s2 haw hW2 ⊢
  walk_at "s"
  refine .inr ⟨cm,_,rfl,SqL.of (s2 _ _ hcm),?_⟩
  refine jM (xs:=cs) (fun i U H'=>Same H H'/\H' aw=some (.lst refs)/\Wys H' (fun p=>H p=none/\p≠aw) refs (m+far) (Ft m C far i)/\∃ x3 x4 x5 x6,U=[some (.int ((m:Int)+(far:Int))),some (.ref cm),some (.ref aw),x3,x4,x5,x6])
   ⟨s2,haw,hW2,_,_,_,_,rfl⟩ (fun i U H' _ h=>SqL.of (h.1 _ _ hcm)) ?_ ?_
  ·rintro i U H3 T0 x hx ⟨S3,h3,W3,x3,x4,x5,x6,rfl⟩ nT
   have hi:i < m:=by
    have:=(List.getElem?_eq_some_iff.mp hx).1
    rw [hG.1] at this;exact this
   obtain ⟨c,ws,e1,_,hc,hws⟩:=hG.2 i hi
   rw [hx] at e1
   cases e1
   have wl:=hws.len
   rw [Ja] at wl
   refine b7 (xs:=[.int i,.ref c]) (SqT.of aj) rfl ?_
   have S4:=S3.upd nT (o:=.tup [.int i,.ref c])
   have h4:=aY nT h3 (o:=.tup [.int i,.ref c])
   have W4:=W3.same ((Same.refl H3).upd nT (o:=.tup [.int i,.ref c]))
   generalize upd H3 T0 (.tup [.int i,.ref c])=H4 at S4 h4 W4 ⊢
   walk_at "s"
   refine .inr ⟨c,_,rfl,SqL.of (S4 _ _ hc),?_⟩
   refine jM (xs:=ws) (fun j U H'=>Same H H'/\H' aw=some (.lst refs)/\Wys H' (fun p=>H p=none/\p≠aw) refs (m+far) (Mx m C i (Ft m C far i) j)/\∃ x5 x6,U=[some (.int ((m:Int)+(far:Int))),some (.ref cm),some (.ref aw),some (.int i),some (.ref c),x5,x6])
    ⟨S4,h4,W4,_,_,rfl⟩ (fun i U H' _ h=>SqL.of (h.1 _ _ hc)) ?_ ?_
   ·rintro j U H5 T1 y hy ⟨S5,h5,W5,x5,x6,rfl⟩ nT1
    have hj:j < far:=by
     have:=(List.getElem?_eq_some_iff.mp hy).1
     omega
    obtain ⟨r,e2,hr'⟩:=hws.get (Mz (m:=m) (C:=C) (i:=i) hj)
    rw [hy] at e2
    cases e2
    obtain ⟨l1,l2⟩:=Wx (m:=m) (C:=C) (far:=far) (i+j) i j (Nat.le_refl _) hi hj
    have wA:=Ca (m:=m) (C:=C) (far:=far)
    have wJ:=wK (m:=m) (C:=C) (i:=i) (w0:=Ft m C far i)
    have him:i*far<=48*48:=Nat.mul_le_mul (by omega) hf
    refine b7 (xs:=[.int j,.ref r]) (SqT.of aj) rfl ?_
    have S6:=S5.upd nT1 (o:=.tup [.int j,.ref r])
    have h6:=aY nT1 h5 (o:=.tup [.int j,.ref r])
    have W6:=W5.same ((Same.refl H5).upd nT1 (o:=.tup [.int j,.ref r]))
    generalize upd H5 T1 (.tup [.int j,.ref r])=H6 at S6 h6 W6 ⊢
    obtain ⟨p,us,r1,⟨pn,pa⟩,hp,hpu⟩:=W6.2.1 _ l1
    have ul:=hpu.len
    have:=wA (gA m C i j) i
    have:=wJ (gA m C i j) j
    walk_at "s"
    refine iD (SqT.of (S6 _ _ hr')) rfl ?_
    walk_at "s"
    refine bF (SqL.of h6) (cu r1) ?_
    walk_at "s"
    refine ⟨.inl ⟨rfl,_,SqL.of hp⟩,?_⟩
    walk_at "s"
    refine jQ rfl fun q1 nq1=>?_
    walk_at "s"
    have S7:=S6.upd nq1 (o:=.tup [.int i,.int j])
    have h7:=aY nq1 h6 (o:=.tup [.int i,.int j])
    have W7:=W6.same ((Same.refl H6).upd nq1 (o:=.tup [.int i,.int j]))
    have hp7:=aY nq1 hp (o:=.tup [.int i,.int j])
    have hq7:=aj (H:=H6) (a:=q1) (o:=.tup [.int i,.int j])
    generalize upd H6 q1 (.tup [.int i,.int j])=H7 at S7 h7 W7 hp7 hq7 ⊢
    refine bA hp7 (by omega) ?_
    walk_at "s"
    have S8:=Same.put (o:=.lst (us ++ [.ref q1])) S7 pn
    have h8:upd H7 p (.lst (us ++ [.ref q1])) aw=_:=(aB (Ne.symm pa)).trans h7
    have W8:=W7.app l1 r1 hp7 hq7
    generalize upd H7 p (.lst (us ++ [.ref q1]))=H8 at S8 h8 W8 ⊢
    obtain ⟨p',us',r2,⟨pn',pa'⟩,hp',hpu'⟩:=W8.2.1 _ l2
    have ul':=hpu'.len
    have:=wI (Mx m C i (Ft m C far i) j) (gA m C i j) ((i:Int),(j:Int)) (gD m C j i)
    have:=wA (gD m C j i) i
    have:=wJ (gD m C j i) j
    walk_at "s"
    refine iD (SqT.of (S8 _ _ hr')) rfl ?_
    walk_at "s"
    refine bF (SqL.of h8) (cu r2) ?_
    walk_at "s"
    refine ⟨.inl ⟨rfl,_,SqL.of hp'⟩,?_⟩
    walk_at "s"
    refine jQ rfl fun q2 nq2=>?_
    walk_at "s"
    have S9:=S8.upd nq2 (o:=.tup [.int i,.int j])
    have h9:=aY nq2 h8 (o:=.tup [.int i,.int j])
    have W9:=W8.same ((Same.refl H8).upd nq2 (o:=.tup [.int i,.int j]))
    have hp9:=aY nq2 hp' (o:=.tup [.int i,.int j])
    have hq9:=aj (H:=H8) (a:=q2) (o:=.tup [.int i,.int j])
    generalize upd H8 q2 (.tup [.int i,.int j])=H9 at S9 h9 W9 hp9 hq9 ⊢
    refine bA hp9 (by omega) ?_
    walk_at "s"
    exact ⟨Same.put S9 pn',(aB (Ne.symm pa')).trans h9,W9.app l2 r2 hp9 hq9,_,_,rfl⟩
   ·rintro U H5 ⟨S5,h5,W5,x5,x6,rfl⟩
    rw [wl] at W5
    exact ⟨S5,h5,W5,_,_,_,_,rfl⟩
  ·rintro U H3 ⟨S3,h3,W3,x3,x4,x5,x6,rfl⟩
   rw [hG.1] at W3
   walk_at "s"
   exact q aw refs H3 naw0 S3 h3 (W3.imp (fun _ _ z=>z) (fun _ _ _ z=>z) fun c z=>z.1)
theorem Ae:aP aQ "self":=by trivial
theorem kz25:bR aQ "ways_of":=by trivial
theorem MF:aP aQ "gone":=by trivial
theorem MJ:bR aQ "len":=by trivial
theorem Jb:aP aQ "side":=by trivial
theorem Jc:aP aQ "top":=by trivial
theorem kz2a:bR aQ "over_cells":=by trivial
theorem kz2b:bR aQ "cells_of":=by trivial
theorem kz2c:bR aQ "need_rows":=by trivial
abbrev mS (z:Str):Nat:=z.cps.size
structure BdO (H:Hp) (side top:Str) (ac am al aw:Addr):Prop where
 cells:H ac=some (.lst ((kW side top).map V.str))
 com:∃ cs,H am=some (.lst cs)/\Cmg H (fun _=>True) (mS side) (CB side top) (mS top) cs (mS side)
 lines:∃ R,H al=some (.lst (R.map V.int))/\pG (mS side) (CB side top) (mS top) R
 ways:∃ refs,H aw=some (.lst refs)/\Wys H (fun _=>True) refs (mS side+mS top) (Ft (mS side) (CB side top) (mS top) (mS side))
def bdF (side top:Str) (ac am al aw:Addr):List (Str×V):=[("held_side",.str side),("held_top",.str top),("held_cells",.ref ac),("held_coming",.ref am),("held_lines",.ref al),("held_ways",.ref aw)]
def Bd (mg:Str->Option Value) (H:Hp) (b:Addr) (side top:Str):Prop:=uA side/\uA top/\∃ dx ac am al aw,H b=some (.ins (aN mg "Board") dx (bdF side top ac am al aw))/\BdO H side top ac am al aw
theorem Af (side top:Str):(kW side top).length=side.cps.size:=BZ _ _ _ _
theorem yC {side top:Str}:∀ z∈kW side top,z.cps.size=top.cps.size:=fun z hz=>by
 unfold kW Ac at hz
 obtain ⟨i,_,rfl⟩:=List.mem_map.mp hz
 exact vN
def MK (mg:Str->Option Value):Sp:=fun vs H Q _=>∃ (x dx:Addr) (side top:Str),vs=[.ref x,.str side,.str top]/\H x=some (.ins (aN mg "Board") dx [])/\uA side/\uA top/\∀ H',Chg x H H'->Bd mg H' x side top->Q .non H'
theorem Chg.same {x:Addr} {H H1 H2:Hp} (c:Chg x H H1) (s:Same H1 H2):Chg x H H2:=fun b o n e=>s _ _ (c b o n e)
theorem Chg.put {x:Addr} {H H1:Hp} {o:HO} (c:Chg x H H1):Chg x H (upd H1 x o):=fun b u n e=>by rw [aB n];exact c b u n e
theorem bU {f:Str} {y:V}:∀ {fs:List (Str×V)},(fs.map (·.1)).contains f=false->lH f y fs=fs ++ [(f,y)]
 | [],_=>rfl
 | (g,z) :: fs,h=>by
  simp only [List.map_cons,List.contains_cons,Bool.or_eq_false_iff] at h
  have hne:¬ g=f:=fun e=>by rw [e] at h;simp at h
  have ih:=bU (y:=y) (fs:=fs) h.2
  unfold lH
  simp [hne,ih]
theorem j9:aD ["self","side","top","gone"] ["self","side","top"] (az aQ):=⟨rfl,rfl,rfl,by trivial,rfl,by trivial,by trivial⟩
theorem iQ (T:Txt K mg):jR P w K mg base 5 "Board" "__init__" ["self","side","top"] (MK mg):=by
 have m5:=m5 (P:=P) (w:=w) (base:=base) T
 have pI:=pI (P:=P) (w:=w) (base:=base) T
 have lU:=lU (P:=P) (w:=w) (base:=base) T
 have q9:=q9 (P:=P) (w:=w) (base:=base) T
 refine mV T.m_Board___init__ j9 (fun _ _ _ _ _ _ us hl=>L2.oZ (fun _ _ _=>rfl) us hl) ?_ fun f cdv A outer s H vs Q E hr h=>?_
 ·rintro vs H Q E ⟨x,dx,side,top,rfl,_⟩;rfl
 obtain ⟨x,dx,side,top,rfl,hx,hs,ht,q'⟩:=h
 have hu:=hr.units0
 have hu64:=hr.units
 refine ⟨_,(au (bh (aH m5 (hr.mono (by decide)) (bf kz2c) (aa (aq 1 Jb) (aa (aq 2 Jc) ao)) (by trivial))) (au (eZ (K:=K) rfl (aq 0 Ae) (aq 1 Jb)) (au (eZ (K:=K) rfl (aq 0 Ae) (aq 2 Jc)) (au (eZ (K:=K) rfl (aq 0 Ae) (aH pI (hr.mono (by decide)) (bf kz2b) (aa (aq 1 Jb) (aa (aq 2 Jc) ao)) (by trivial))) (au (aK (i:=3) j9.nd rfl (Or.inl MF) (aH lU (hr.mono (by decide)) (bf kz2a) (aa (aF (aG (K:=K) rfl) (bf MJ) T.b_len bz (aa (aq 1 Jb) ao) (by trivial) (by trivial)) (aa (aF (aG (K:=K) rfl) (bf MJ) T.b_len bz (aa (aq 2 Jc) ao) (by trivial) (by trivial)) (aa (jg (K:=K) rfl (aq 0 Ae)) ao))) (by trivial)) rfl) (au (eZ (K:=K) rfl (aq 0 Ae) (dh (K:=K) rfl (aq 3 MF) aC)) (au (eZ (K:=K) rfl (aq 0 Ae) (dh (K:=K) rfl (aq 3 MF) aC)) (aA (eZ (K:=K) rfl (aq 0 Ae) (aH q9 (hr.mono (by decide)) (bf kz25) (aa (bG aU (aF (aG (K:=K) rfl) (bf MJ) T.b_len bz (aa (aq 1 Jb) ao) (by trivial) (by trivial)) (aF (aG (K:=K) rfl) (bf MJ) T.b_len bz (aa (aq 2 Jc) ao) (by trivial) (by trivial))) (aa (dh (K:=K) rfl (aq 3 MF) aC) ao)) (by trivial))))))))))),?_⟩
 walk_at "s"
 refine ⟨side,top,rfl,hs,ht,fun H1 S1=>?_⟩
 have cl:=T.o_Board.cl
 have na:=T.n_Board
 have lz:side.length<=sizeLine:=Nat.le_trans hs.1 (by decide)
 have ly:top.length<=sizeLine:=Nat.le_trans ht.1 (by decide)
 have hx1:=S1 _ _ hx
 have C1:Chg x H H1:=fun b o _ e=>S1 _ _ e
 walk_at "s"
 refine ⟨x,_,dx,_,rfl,hx1,cl,na _ (by simp),by simp,?_⟩
 walk_at "s"
 rw [bU (by show ([]:List Str).contains "held_side"=false;trivial)]
 have hx2:=aj (H:=H1) (a:=x) (o:=.ins (aN mg "Board") dx (([]:List (Str×V)) ++ ([("held_side",.str side)]:List (Str×V))))
 have C2:=Chg.put (o:=.ins (aN mg "Board") dx (([]:List (Str×V)) ++ ([("held_side",.str side)]:List (Str×V)))) C1
 generalize hG2:upd H1 x (.ins (aN mg "Board") dx (([]:List (Str×V)) ++ ([("held_side",.str side)]:List (Str×V))))=H2 at hx2 C2 ⊢
 replace hx2:H2 x=some (.ins (aN mg "Board") dx ([("held_side",.str side)]:List (Str×V))):=hx2
 walk_at "s"
 refine ⟨x,_,dx,_,rfl,hx2,cl,na _ (by simp),by simp,?_⟩
 walk_at "s"
 rw [bU (by show (["held_side"]:List Str).contains "held_top"=false;trivial)]
 have hx3:=aj (H:=H2) (a:=x) (o:=.ins (aN mg "Board") dx (([("held_side",.str side)]:List (Str×V)) ++ ([("held_top",.str top)]:List (Str×V))))
 have C3:=Chg.put (o:=.ins (aN mg "Board") dx (([("held_side",.str side)]:List (Str×V)) ++ ([("held_top",.str top)]:List (Str×V)))) C2
 generalize hG3:upd H2 x (.ins (aN mg "Board") dx (([("held_side",.str side)]:List (Str×V)) ++ ([("held_top",.str top)]:List (Str×V))))=H3 at hx3 C3 ⊢
 replace hx3:H3 x=some (.ins (aN mg "Board") dx ([("held_side",.str side),("held_top",.str top)]:List (Str×V))):=hx3
 walk_at "s"
 refine ⟨side,top,rfl,hs.1,ht.1,fun ac H4 nac S4 hac=>?_⟩
 walk_at "s"
 have hx4:=S4 _ _ hx3
 have C4:=Chg.same C3 S4
 refine ⟨x,_,dx,_,rfl,hx4,cl,na _ (by simp),by simp,?_⟩
 walk_at "s"
 rw [bU (by show (["held_side","held_top"]:List Str).contains "held_cells"=false;trivial)]
 have hx5:=aj (H:=H4) (a:=x) (o:=.ins (aN mg "Board") dx (([("held_side",.str side),("held_top",.str top)]:List (Str×V)) ++ ([("held_cells",.ref ac)]:List (Str×V))))
 have C5:=Chg.put (o:=.ins (aN mg "Board") dx (([("held_side",.str side),("held_top",.str top)]:List (Str×V)) ++ ([("held_cells",.ref ac)]:List (Str×V)))) C4
 generalize hG5:upd H4 x (.ins (aN mg "Board") dx (([("held_side",.str side),("held_top",.str top)]:List (Str×V)) ++ ([("held_cells",.ref ac)]:List (Str×V))))=H5 at hx5 C5 ⊢
 replace hx5:H5 x=some (.ins (aN mg "Board") dx ([("held_side",.str side),("held_top",.str top),("held_cells",.ref ac)]:List (Str×V))):=hx5
 have nx4:∀ {a:Addr} {us:List V},H4 a=some (.lst us)->a≠x:=fun {a us} h z=>by rw [z,hx4] at h;cases h
 have hac5:H5 ac=some (.lst ((kW side top).map V.str)):=by rw [← hG5,aB (nx4 hac)];exact hac
 walk_at "s"
 refine dM lz ?_
 walk_at "s"
 refine dM ly ?_
 walk_at "s"
 refine ⟨x,_,dx,_,_,rfl,hx5,cl,na _ (by simp),rfl,?_⟩
 walk_at "s"
 refine ⟨mS side,mS top,kW side top,ac,rfl,hac5,Af side top,hs.1,ht.1,yC,fun t am al R H6 nal S6 ht6 hE hal hcm=>?_⟩
 walk_at "s"
 obtain ⟨cs,hcm,hG⟩:=hcm
 have hx6:=S6 _ _ hx5
 have C6:=Chg.same C5 S6
 refine ⟨x,_,dx,_,rfl,hx6,cl,na _ (by simp),by simp,?_⟩
 walk_at "s"
 rw [bU (by show (["held_side","held_top","held_cells"]:List Str).contains "held_coming"=false;trivial)]
 have hx7:=aj (H:=H6) (a:=x) (o:=.ins (aN mg "Board") dx (([("held_side",.str side),("held_top",.str top),("held_cells",.ref ac)]:List (Str×V)) ++ ([("held_coming",.ref am)]:List (Str×V))))
 have C7:=Chg.put (o:=.ins (aN mg "Board") dx (([("held_side",.str side),("held_top",.str top),("held_cells",.ref ac)]:List (Str×V)) ++ ([("held_coming",.ref am)]:List (Str×V)))) C6
 generalize hG7:upd H6 x (.ins (aN mg "Board") dx (([("held_side",.str side),("held_top",.str top),("held_cells",.ref ac)]:List (Str×V)) ++ ([("held_coming",.ref am)]:List (Str×V))))=H7 at hx7 C7 ⊢
 replace hx7:H7 x=some (.ins (aN mg "Board") dx ([("held_side",.str side),("held_top",.str top),("held_cells",.ref ac),("held_coming",.ref am)]:List (Str×V))):=hx7
 have M7:Chg x H6 H7:=by rw [← hG7];exact Chg.put (Chg.refl x H6)
 have nt:t≠x:=fun z=>by rw [z,hx6] at ht6;cases ht6
 have ht7:=M7 t _ nt ht6
 walk_at "s"
 refine ⟨x,_,dx,_,rfl,hx7,cl,na _ (by simp),by simp,?_⟩
 walk_at "s"
 rw [bU (by show (["held_side","held_top","held_cells","held_coming"]:List Str).contains "held_lines"=false;trivial)]
 have hx8:=aj (H:=H7) (a:=x) (o:=.ins (aN mg "Board") dx (([("held_side",.str side),("held_top",.str top),("held_cells",.ref ac),("held_coming",.ref am)]:List (Str×V)) ++ ([("held_lines",.ref al)]:List (Str×V))))
 have C8:=Chg.put (o:=.ins (aN mg "Board") dx (([("held_side",.str side),("held_top",.str top),("held_cells",.ref ac),("held_coming",.ref am)]:List (Str×V)) ++ ([("held_lines",.ref al)]:List (Str×V)))) C7
 generalize hG8:upd H7 x (.ins (aN mg "Board") dx (([("held_side",.str side),("held_top",.str top),("held_cells",.ref ac),("held_coming",.ref am)]:List (Str×V)) ++ ([("held_lines",.ref al)]:List (Str×V))))=H8 at hx8 C8 ⊢
 replace hx8:H8 x=some (.ins (aN mg "Board") dx ([("held_side",.str side),("held_top",.str top),("held_cells",.ref ac),("held_coming",.ref am),("held_lines",.ref al)]:List (Str×V))):=hx8
 have M8:Chg x H6 H8:=M7.trans (by rw [← hG8];exact Chg.put (Chg.refl x H7))
 have nx6:∀ {a:Addr} {us:List V},H6 a=some (.lst us)->a≠x:=fun {a us} h z=>by rw [z,hx6] at h;cases h
 have nxt6:∀ {a:Addr} {us:List V},H6 a=some (.tup us)->a≠x:=fun {a us} h z=>by rw [z,hx6] at h;cases h
 have ht8:=M8 t _ nt ht6
 have hcm8:=M8 am _ (nx6 hcm) hcm
 have hG8':Cmg H8 (fun _=>True) (mS side) (CB side top) (mS top) cs (mS side):=hG.imp (fun p us e=>M8 p _ (nxt6 e) e) (fun c ws _ e=>M8 c _ (nx6 e) e) fun _ z=>z
 have hal8:=M8 al _ (nx6 hal) hal
 have hac8:=M8 ac _ (nx6 (S6 _ _ hac5)) (S6 _ _ hac5)
 walk_at "s"
 refine dM lz ?_
 walk_at "s"
 refine dM ly ?_
 walk_at "s"
 refine ⟨mS side,mS top,CB side top,am,cs,rfl,hs.1,ht.1,hcm8,hG8',fun aw refs H9 naw S9 haw hW=>?_⟩
 walk_at "s"
 have hx9:=S9 _ _ hx8
 have C9:=Chg.same C8 S9
 have nx9:∀ {a:Addr} {us:List V},H9 a=some (.lst us)->a≠x:=fun {a us} h z=>by rw [z,hx9] at h;cases h
 have nxt9:∀ {a:Addr} {us:List V},H9 a=some (.tup us)->a≠x:=fun {a us} h z=>by rw [z,hx9] at h;cases h
 refine ⟨x,_,dx,_,rfl,hx9,cl,na _ (by simp),by simp,?_⟩
 walk_at "s"
 rw [bU (by show (["held_side","held_top","held_cells","held_coming","held_lines"]:List Str).contains "held_ways"=false;trivial)]
 have hx10:=aj (H:=H9) (a:=x) (o:=.ins (aN mg "Board") dx (([("held_side",.str side),("held_top",.str top),("held_cells",.ref ac),("held_coming",.ref am),("held_lines",.ref al)]:List (Str×V)) ++ ([("held_ways",.ref aw)]:List (Str×V))))
 have C10:=Chg.put (o:=.ins (aN mg "Board") dx (([("held_side",.str side),("held_top",.str top),("held_cells",.ref ac),("held_coming",.ref am),("held_lines",.ref al)]:List (Str×V)) ++ ([("held_ways",.ref aw)]:List (Str×V)))) C9
 generalize hG10:upd H9 x (.ins (aN mg "Board") dx (([("held_side",.str side),("held_top",.str top),("held_cells",.ref ac),("held_coming",.ref am),("held_lines",.ref al)]:List (Str×V)) ++ ([("held_ways",.ref aw)]:List (Str×V))))=H10 at hx10 C10 ⊢
 replace hx10:H10 x=some (.ins (aN mg "Board") dx ([("held_side",.str side),("held_top",.str top),("held_cells",.ref ac),("held_coming",.ref am),("held_lines",.ref al),("held_ways",.ref aw)]:List (Str×V))):=hx10
 have M10:Chg x H9 H10:=by rw [← hG10];exact Chg.put (Chg.refl x H9)
 refine q' H10 C10 ⟨hs,ht,dx,ac,am,al,aw,hx10,M10 ac _ (nx9 (S9 _ _ hac8)) (S9 _ _ hac8),⟨cs,M10 am _ (nx9 (S9 _ _ hcm8)) (S9 _ _ hcm8),(hG8'.same S9).imp (fun p us e=>M10 p _ (nxt9 e) e) (fun c ws _ e=>M10 c _ (nx9 e) e) fun _ z=>z⟩,⟨R,M10 al _ (nx9 (S9 _ _ hal8)) (S9 _ _ hal8),hE⟩,refs,M10 aw _ (nx9 haw) haw,hW.imp (fun p us e=>M10 p _ (nxt9 e) e) (fun c ws _ e=>M10 c _ (nx9 e) e) fun _ _=>trivial⟩
theorem kz2d:bR gQ "list":=by trivial
theorem kz2e:aP gQ "self":=by trivial
theorem bdM {side top:Str} {ac am al aw:Addr} {m:Str} (h:(["held_side","held_top","held_cells","held_coming","held_lines","held_ways"]:List Str).contains m=false):(bdF side top ac am al aw).lookup m=none:=by
 unfold bdF
 simp only [List.contains_cons,Bool.or_eq_false_iff] at h
 obtain ⟨h1,h2,h3,h4,h5,h6,_⟩:=h
 simp only [List.lookup_cons,h1,h2,h3,h4,h5,h6,List.lookup_nil]
def MN (mg:Str->Option Value):Sp:=fun vs H Q _=>∃ (b:Addr) (side top:Str),vs=[.ref b]/\Bd mg H b side top/\∀ q R H',H q=none->Same H H'->pG (mS side) (CB side top) (mS top) R->H' q=some (.lst (R.map V.int))->Q (.ref q) H'
theorem uC:aD ["self"] ["self"] (az gQ):=⟨rfl,rfl,rfl,by trivial,rfl,by trivial,by trivial⟩
theorem kY (T:Txt K mg):jR P w K mg base 1 "Board" "lines" ["self"] (MN mg):=by
 refine mV T.m_Board_lines uC (fun _ _ _ _ _ _ us hl=>L2.mG (fun _=>rfl) us hl) ?_ fun f cdv A outer s H vs Q E hr h=>?_
 ·rintro vs H Q E ⟨b,side,top,rfl,_⟩;rfl
 obtain ⟨b,side,top,rfl,⟨hs,ht,dx,ac,am,al,aw,hb,hO⟩,q⟩:=h
 have hu:=hr.units0
 have hu64:=hr.units
 refine ⟨_,(aA (aL (pY (o5 (K:=K) rfl rfl) (bf kz2d) T.b_list lK (aa (jg (K:=K) rfl (aq 0 kz2e)) ao) (by trivial) (by trivial)))),?_⟩
 walk_at "s"
 obtain ⟨R,hR,hE⟩:=hO.lines
 refine ⟨b,_,dx,_,_,rfl,hb,T.o_Board.cl,T.n_Board _ (by simp),rfl,?_⟩
 walk_at "s"
 refine Bp (SqL.of hR) fun l nl=>?_
 walk_at "s"
 exact q l R _ nl ((Same.refl H).upd nl) hE aj
end
local macro_rules | `(tactic| walk_at "s") => `(tactic| (with_reducible repeat (first | refine oO ?_ | walk_at "1")))
local macro_rules | `(tactic| walk_at "n") => `(tactic| (with_reducible repeat (walk_at "1")))
section
variable {P:Program} {w:World} {K:W.Frag} {mg:Str->Option Value} {base:Heap}
theorem Wy:bR fj "isinstance":=by trivial
theorem kz2g:bR fj "bool":=by trivial
theorem Wz:aP fj "thing":=by trivial
theorem kz2i:bR fj "int":=by trivial
theorem kz2j:aP fu "low":=by trivial
theorem WD:aP fu "thing":=by trivial
theorem kz2l:aP fu "high":=by trivial
theorem kz2m:bR fu "is_number":=by trivial
theorem kz2n:bR dN "is_within":=by trivial
theorem kz2o:aP dN "high":=by trivial
theorem kz2p:aP dN "low":=by trivial
theorem kz2q:aP dN "thing":=by trivial
theorem WF:bR iG "is_within":=by trivial
theorem WK:aP iG "many":=by trivial
theorem WL:aP iG "begin":=by trivial
theorem kz2u:aP iG "end":=by trivial
theorem kz2v:bR fB "is_span":=by trivial
theorem kz2w:aP fB "many":=by trivial
theorem kz2x:aP fB "end":=by trivial
theorem kz2y:aP fB "begin":=by trivial
theorem R9 {H:Hp} {v:V} {T:String} (h:TyOf K H v (.type T)) (k:PySem.W.kitOne K (.type T) (.type "int")=some false):Wj v=false/\∀ lo hi,inB v lo hi=false:=by
 cases v with
 | int z=>
  cases h
  have:PySem.W.kitOne K (.type "int") (.type "int")=some true:=rfl
  rw [this] at k;cases k
 | _=>exact ⟨rfl,fun _ _=>rfl⟩
def Jd (K:W.Frag):Sp:=fun vs H Q _=>∃ v:V,vs=[v]/\Kd K H v/\Q (.bl (Wj v)) H
theorem wL:aD ["thing"] ["thing"] (az fj):=⟨rfl,rfl,rfl,by trivial,rfl,by trivial,by trivial⟩
theorem m6 (T:Txt K mg):my P w K mg base 1 "is_number" ["thing"] (Jd K):=by
 refine gB T.d_is_number wL (fun _ _ _ _ _ _ us hl=>L2.mG (fun _=>rfl) us hl) ?_ fun f cdv A outer s H vs Q E hr h=>?_
 ·rintro vs H Q E ⟨v,rfl,_⟩;rfl
 obtain ⟨v,rfl,hT,q⟩:=h
 have hu:=hr.units0
 have hu64:=hr.units
 refine ⟨_,(aA (aL (vC (aF (gY (K:=K) rfl) (bf Wy) T.b_isinstance bW (aa (aq 0 Wz) (aa (uN (bf kz2i) T.b_int zA (by trivial) (by trivial)) ao)) (by trivial) (by trivial)) (vB (O4 (aF (gY (K:=K) rfl) (bf Wy) T.b_isinstance bW (aa (aq 0 Wz) (aa (uN (bf kz2g) T.b_bool Bm (by trivial) (by trivial)) ao)) (by trivial) (by trivial))))))),?_⟩
 walk_at "s"
 rcases hT with ⟨n,rfl⟩ | ⟨b,rfl⟩ | ⟨T',hty,hk⟩
 ·refine mz (.int _) rfl ?_
  walk_at "s"
  refine mz (.int _) rfl ?_
  walk_at "s"
  exact q
 ·refine mz (.bl _) (b:=true) (by rfl) ?_
  walk_at "s"
  refine mz (.bl _) (b:=true) (by rfl) ?_
  walk_at "s"
  exact q
 ·refine mz hty hk ?_
  walk_at "s"
  rw [(R9 hty hk).1] at q
  exact q
def Je (K:W.Frag):Sp:=fun vs H Q _=>∃ (v:V) (lo hi:Int),vs=[v,.int lo,.int hi]/\Kd K H v/\Q (.bl (inB v lo hi)) H
theorem wM:aD ["thing","low","high"] ["thing","low","high"] (az fu):=⟨rfl,rfl,rfl,by trivial,rfl,by trivial,by trivial⟩
theorem cL (T:Txt K mg):my P w K mg base 2 "is_within" ["thing","low","high"] (Je K):=by
 have m6:=m6 (P:=P) (w:=w) (base:=base) T
 refine gB T.d_is_within wM (fun _ _ _ _ _ _ us hl=>L2.oZ (fun _ _ _=>rfl) us hl) ?_ fun f cdv A outer s H vs Q E hr h=>?_
 ·rintro vs H Q E ⟨v,lo,hi,rfl,_⟩;rfl
 obtain ⟨v,lo,hi,rfl,hT,q⟩:=h
 have hu:=hr.units0
 have hu64:=hr.units
 refine ⟨_,(aA (aL (vC (aH m6 (hr.mono (by decide)) (bf kz2m) (aa (aq 0 WD) ao) (by trivial)) (vB (K8 Bb Bb (aq 1 kz2j) (aq 0 WD) (aq 2 kz2l)))))),?_⟩
 walk_at "s"
 refine ⟨v,rfl,hT,?_⟩
 walk_at "s"
 cases v with
 | int n=>
  show if true=true then _ else _
  walk_at "s"
  show if decide (lo<=n)=true then _ else _
  unfold inB at q
  dsimp only at q
  by_cases h:lo<=n
  ·rw [decide_eq_true h] at q ⊢
   rw [Bool.true_and] at q
   walk_at "s"
   exact q
  ·rw [decide_eq_false h] at q ⊢
   rw [Bool.false_and] at q
   walk_at "s"
   exact q
 | _=>exact q
def Cd (K:W.Frag):Sp:=fun vs H Q _=>∃ (n lo hi:Int),vs=[.int n,.int lo,.int hi]/\lo<=n/\n<=hi/\Q .non H
theorem uR:aD ["thing","low","high"] ["thing","low","high"] (az dN):=⟨rfl,rfl,rfl,by trivial,rfl,by trivial,by trivial⟩
theorem bZ (T:Txt K mg):my P w K mg base 3 "need_place" ["thing","low","high"] (Cd K):=by
 have cL:=cL (P:=P) (w:=w) (base:=base) T
 refine gB T.d_need_place uR (fun _ _ _ _ _ _ us hl=>L2.oZ (fun _ _ _=>rfl) us hl) ?_ fun f cdv A outer s H vs Q E hr h=>?_
 ·rintro vs H Q E ⟨n,lo,hi,rfl,_⟩;rfl
 obtain ⟨n,lo,hi,rfl,h1,h2,q⟩:=h
 have hu:=hr.units0
 have hu64:=hr.units
 refine ⟨_,(aA (dz (eQ (eU (aH cL (hr.mono (by decide)) (bf kz2n) (aa (aq 0 kz2q) (aa (aq 1 kz2p) (aa (aq 2 kz2o) ao))) (by trivial)))) (aA mO) cF)),?_⟩
 walk_at "s"
 refine ⟨.int n,lo,hi,rfl,.inl ⟨_,rfl⟩,?_⟩
 walk_at "s"
 have hb:inB (.int n) lo hi=true:=by unfold inB;simp;omega
 rw [hb]
 walk_at "s"
 exact q
theorem fK (t:List Nat):((nI t).map V.int).length=t.length:=by unfold nI;rw [List.length_map,List.length_map]
theorem Pq {t:List Nat} {k:Nat} {v:V} (h:((nI t).map V.int)[k]?=some v):∃ i,t[k]?=some i/\v= .int (i:Int):=by
 unfold nI at h
 rw [List.getElem?_map,List.getElem?_map] at h
 cases e:t[k]? with
 | none=>rw [e] at h;cases h
 | some y=>rw [e] at h;exact ⟨y,rfl,(Option.some.inj h).symm⟩
def Sg (K:W.Frag):Sp:=fun vs H Q _=>∃ (b e m:Int),vs=[.int b,.int e,.int m]/\0<=b/\b<=e/\e<=m/\Q (.bl true) H
theorem Ag:aD ["begin","end","many"] ["begin","end","many"] (az iG):=⟨rfl,rfl,rfl,by trivial,rfl,by trivial,by trivial⟩
theorem rm (T:Txt K mg):my P w K mg base 3 "is_span" ["begin","end","many"] (Sg K):=by
 have cL:=cL (P:=P) (w:=w) (base:=base) T
 refine gB T.d_is_span Ag (fun _ _ _ _ _ _ us hl=>L2.oZ (fun _ _ _=>rfl) us hl) ?_ fun f cdv A outer s H vs Q E hr h=>?_
 ·rintro vs H Q E ⟨b,e,m,rfl,_⟩;rfl
 obtain ⟨b,e,m,rfl,h1,h2,h3,q⟩:=h
 have hu:=hr.units0
 have hu64:=hr.units
 refine ⟨_,(aA (aL (vC (aH cL (hr.mono (by decide)) (bf WF) (aa (aq 0 WL) (aa aC (aa (aq 2 WK) ao))) (by trivial)) (vB (aH cL (hr.mono (by decide)) (bf WF) (aa (aq 1 kz2u) (aa (aq 0 WL) (aa (aq 2 WK) ao))) (by trivial)))))),?_⟩
 walk_at "s"
 refine ⟨_,_,_,rfl,.inl ⟨_,rfl⟩,?_⟩
 walk_at "s"
 rw [show inB (.int b) 0 m=true by unfold inB;simp;omega]
 walk_at "s"
 refine ⟨_,_,_,rfl,.inl ⟨_,rfl⟩,?_⟩
 walk_at "s"
 rw [show inB (.int e) b m=true by unfold inB;simp;omega]
 exact q
def MP (K:W.Frag):Sp:=fun vs H Q _=>∃ (b e m:Int),vs=[.int b,.int e,.int m]/\0<=b/\b<=e/\e<=m/\Q .non H
theorem wN:aD ["begin","end","many"] ["begin","end","many"] (az fB):=⟨rfl,rfl,rfl,by trivial,rfl,by trivial,by trivial⟩
theorem m7 (T:Txt K mg):my P w K mg base 4 "need_span" ["begin","end","many"] (MP K):=by
 have rm:=rm (P:=P) (w:=w) (base:=base) T
 refine gB T.d_need_span wN (fun _ _ _ _ _ _ us hl=>L2.oZ (fun _ _ _=>rfl) us hl) ?_ fun f cdv A outer s H vs Q E hr h=>?_
 ·rintro vs H Q E ⟨b,e,m,rfl,_⟩;rfl
 obtain ⟨b,e,m,rfl,h1,h2,h3,q⟩:=h
 have hu:=hr.units0
 have hu64:=hr.units
 refine ⟨_,(aA (dz (eQ (eU (aH rm (hr.mono (by decide)) (bf kz2v) (aa (aq 0 kz2y) (aa (aq 1 kz2x) (aa (aq 2 kz2w) ao))) (by trivial)))) (aA mO) cF)),?_⟩
 walk_at "s"
 refine ⟨b,e,m,rfl,h1,h2,h3,?_⟩
 walk_at "s"
 exact q
theorem qp {H:Hp} {Q:VK} {E:XK} {n lo hi:Int} (h1:lo<=n) (h2:n<=hi) (h:Q .non H):Cd K [.int n,.int lo,.int hi] H Q E:=⟨n,lo,hi,rfl,h1,h2,h⟩
theorem MT:aP bI "thing":=by trivial
theorem M3:aP bI "end":=by trivial
theorem Sh:aP bI "seen":=by trivial
theorem kz32:bR bI "is_within":=by trivial
theorem WM:bR bI "len":=by trivial
theorem kz34:bR bI "MOST_LINES":=by trivial
theorem kz35:bR bI "isinstance":=by trivial
theorem kz36:bR bI "tuple":=by trivial
theorem kz37:bR bI "list":=by trivial
theorem kz38:bR fG "is_turning":=by trivial
theorem kz39:aP fG "thing":=by trivial
def Tn (H:Hp) (a:Addr) (t:List Nat):Prop:=H a=some (.lst ((nI t).map V.int))\/H a=some (.tup ((nI t).map V.int))
theorem Tn.same {H H':Hp} {a:Addr} {t:List Nat} (h:Tn H a t) (s:Same H H'):Tn H' a t:=h.imp (s _ _) (s _ _)
def M4 (us:List V):Bool:=decide (us.length<=96) && (us.all fun u=>inB u 0 ((us.length:Int) - 1)) && decide us.Nodup
theorem Ce {us:List V} (h:96 < us.length):M4 us=false:=by unfold M4;rw [decide_eq_false (by omega)];rfl
theorem Jf {us:List V} {u:V} (h:u∈us) (hb:inB u 0 ((us.length:Int) - 1)=false):M4 us=false:=by
 unfold M4
 have:(us.all fun u=>inB u 0 ((us.length:Int) - 1))=false:=List.all_eq_false.mpr ⟨u,h,by rw [hb];simp⟩
 rw [this,Bool.and_false,Bool.false_and]
theorem Jg {us:List V} {k:Nat} {u:V} (h:us[k]?=some u) (hm:u∈us.take k):M4 us=false:=by
 have:¬ us.Nodup:=fun nd=>by
  obtain ⟨i,hi,e⟩:=List.mem_iff_getElem.mp hm
  obtain ⟨hk,e2⟩:=List.getElem?_eq_some_iff.mp h
  rw [List.length_take] at hi
  rw [List.getElem_take] at e
  exact List.pairwise_iff_getElem.mp nd i k (by omega) hk (by omega) (e.trans e2.symm)
 unfold M4
 rw [decide_eq_false this,Bool.and_false]
theorem Jh {us:List V} (h:us.length<=96) (hin:∀ u∈us,inB u 0 ((us.length:Int) - 1)=true) (hnd:us.Nodup):M4 us=true:=by
 unfold M4
 rw [decide_eq_true h,decide_eq_true hnd,List.all_eq_true.mpr hin];rfl
theorem uD {us:List V} {v:V} (h:us.Nodup) (hm:v ∉ us):(us ++ [v]).Nodup:=by
 refine List.nodup_append.mpr ⟨h,by simp,fun a ha b hb=>?_⟩
 rw [List.mem_singleton.mp hb]
 exact fun z=>hm (z ▸ ha)
theorem Cg {v:V} {h:Int} (hb:inB v 0 h=true):∃ i:Nat,v= .int (i:Int)/\(i:Int)<=h:=by
 cases v with
 | int n=>
  unfold inB at hb
  simp at hb
  exact ⟨n.toNat,by rw [Int.toNat_of_nonneg hb.1],by omega⟩
 | _=>cases hb
def TnK (K:W.Frag) (H:Hp) (v:V) (b:Bool):Prop:=(∃ a us,v= .ref a/\(H a=some (.lst us)\/H a=some (.tup us))/\us.length<=10000/\(∀ u∈us,Kd K H u)/\b=M4 us)\/
 ∃ T,TyOf K H v (.type T)/\PySem.W.kitAny K (.type T) [.type "list",.type "tuple"]=some false/\b=false
theorem M5 {H:Hp} {a:Addr} {t:List Nat} (h:Tn H a t) (hP:Prm t):TnK K H (.ref a) true:=by
 have hle:=hP.le
 refine .inl ⟨a,_,rfl,h,by rw [fK];omega,fun u hu=>?_,?_⟩
 ·obtain ⟨x,_,rfl⟩:=List.mem_map.mp hu
  exact .inl ⟨x,rfl⟩
 ·refine (Jh (by rw [fK];exact hle) (fun u hu=>?_) ?_).symm
  ·obtain ⟨x,hx,rfl⟩:=List.mem_map.mp hu
   unfold nI at hx
   obtain ⟨y,hy,rfl⟩:=List.mem_map.mp hx
   have:=hP.lt hy
   rw [fK]
   unfold inB
   simp;omega
  ·unfold nI List.Nodup
   rw [List.map_map,List.pairwise_map]
   exact hP.nd.imp fun {x y} h z=>h (by have e:((x:Nat):Int)=((y:Nat):Int):=V.int.inj z;omega)
def Sq (K:W.Frag):Sp:=fun vs H Q _=>∃ (v:V) (b:Bool),vs=[v]/\TnK K H v b/\∀ H',Same H H'->Q (.bl b) H'
theorem kZ:aD ["thing","seen","end"] ["thing"] (az bI):=⟨rfl,rfl,rfl,by trivial,rfl,by trivial,by trivial⟩
theorem lW (T:Txt K mg):my P w K mg base 3 "is_turning" ["thing"] (Sq K):=by
 have cL:=cL (P:=P) (w:=w) (base:=base) T
 refine gB T.d_is_turning kZ (fun _ _ _ _ _ _ us hl=>L2.mG (fun _=>rfl) us hl) ?_ fun f cdv A outer s H vs Q E hr h=>?_
 ·rintro vs H Q E ⟨v,bb,rfl,_⟩;rfl
 obtain ⟨v,bb,rfl,h,q⟩:=h
 have hu:=hr.units0
 have hu64:=hr.units
 refine ⟨_,(au (dz (mL (oU (eQ (eU (aF (Dt (K:=K) rfl) (bf kz35) T.b_isinstance bW (aa (aq 0 MT) (aa (mD (aa (uN (bf kz37) T.b_list lK (by trivial) (by trivial)) (aa (uN (bf kz36) T.b_tuple xM (by trivial) (by trivial)) ao))) ao)) (by trivial) (by trivial)))) (lL (cQ rE (aF (aG (K:=K) rfl) (bf WM) T.b_len bz (aa (aq 0 MT) ao) (by trivial) (by trivial)) (wg (bf kz34) T.c_MOST_LINES (by trivial)) (by walk_at "p"))))) (aA (aL oJ)) cF) (au (aK (i:=1) kZ.nd rfl (Or.inl Sh) Lf rfl) (au (dB PassesOwn.never rfl (lM (K:=K) rfl (aq 0 MT)) (aO (i:=2) kZ.nd rfl (Or.inl M3) rfl) (au (dz (mL (oU (eQ (eU (aH cL (hr.mono (by decide)) (bf kz32) (aa (aq 2 M3) (aa aC (aa (bG jh (aF (aG (K:=K) rfl) (bf WM) T.b_len bz (aa (aq 0 MT) ao) (by trivial) (by trivial)) aC) ao))) (by trivial)))) (lL (cQ (Hz (K:=K) rfl hu64) (aq 2 M3) (aq 1 Sh) (by walk_at "p"))))) (aA (aL oJ)) cF) (aA (wk (ts:=Pb) oJ (zF (aq 1 Sh) (aq 2 M3) (Ln hu64)))))) (aA (aL oJ))))),?_⟩
 walk_at "s"
 have hs:20000<=sizeLine:=by decide
 rcases h with ⟨a,us,rfl,ha,hlen,hkd,rfl⟩ | ⟨T',hty,hk,rfl⟩
 ·rcases ha with ha | ha
  ·skip
   refine jQ rfl fun p np=>?_
   walk_at "s"
   have ha1:upd H p (.tup [.ty "list",.ty "tuple"]) a=some (.lst us):=aY np ha
   refine ww (.lst ha1) aj rfl (b:=true) (by rfl) ?_
   walk_at "s"
   refine il (SqL.of ha1) ?_
   walk_at "s"
   by_cases h96:96 < us.length
   ·rw [decide_eq_true (show (96:Int) < (us.length:Int) by omega)]
    rw [Ce h96] at q
    walk_at "s"
    exact q _ ((Same.refl H).upd np)
   rw [decide_eq_false (show ¬ (96:Int) < (us.length:Int) by omega)]
   walk_at "s"
   intro d nd
   have S1:Same H (upd (upd H p (.tup [.ty "list",.ty "tuple"])) d (.dK [])):=((Same.refl H).upd np).upd nd
   have hd0:upd (upd H p (.tup [.ty "list",.ty "tuple"])) d (.dK []) d=some (.dK []):=aj
   have nd':H d=none:=Same.back ((Same.refl H).upd np) nd
   generalize upd (upd H p (.tup [.ty "list",.ty "tuple"])) d (.dK [])=H1 at S1 hd0 ⊢
   walk_at "s"
   refine .inl ⟨a,rfl,⟨_,SqL.of (S1 _ _ ha)⟩,?_⟩
   refine tG (xs:=us) (fun k U H'=>∃ (kvs:List (Key×V)) (x2:Option V),U=[some (.ref a),some (.ref d),x2]/\Same H H'/\H' d=some (.dK kvs)/\kvs.length<=k/\(∀ n:Nat,jP kvs (Sum.inl (n:Int))=if V.int (n:Int)∈us.take k then some (.bl true) else none)/\(∀ u∈us.take k,inB u 0 ((us.length:Int) - 1)=true)/\(us.take k).Nodup)
    ⟨[],_,rfl,S1,hd0,by simp,fun n=>by simp [xu],by simp,by simp⟩ (fun i U H' _ h=>?_) ?_ ?_
   ·obtain ⟨_,_,_,s,_⟩:=h
    exact SqL.of (s _ _ ha)
   ·rintro k v U H' hk ⟨kvs,x2,rfl,s,hd,hkl,hv,hin,hnd⟩
    have hkt:k < us.length:=(List.getElem?_eq_some_iff.mp hk).1
    have hmem:=List.mem_of_getElem? hk
    walk_at "s"
    refine il (SqL.of (s _ _ ha)) ?_
    walk_at "s"
    refine ⟨_,_,_,rfl,(hkd v hmem).same s,?_⟩
    walk_at "s"
    cases hb:inB v 0 ((us.length:Int) - 1) with
    | false=>
     rw [Jf hmem hb] at q
     walk_at "s"
     exact q _ s
    | true=>
     obtain ⟨i,rfl,hi⟩:=Cg hb
     walk_at "s"
     refine .inr ⟨d,_,rfl,DGet.k (k:=Sum.inl (i:Int)) hd,?_⟩
     rw [hv i]
     by_cases hm:V.int (i:Int)∈us.take k
     ·rw [if_pos hm,show (some (V.bl true)).isSome=true from rfl]
      rw [Jg hk hm] at q
      walk_at "s"
      exact q _ s
     ·rw [if_neg hm,show (none:Option V).isSome=false from rfl]
      walk_at "s"
      refine .inr ⟨d,_,rfl,DPut.k (k:=Sum.inl (i:Int)) hd (by omega),?_⟩
      have tk:us.take (k+1)=us.take k ++ [V.int (i:Int)]:=by rw [List.take_add_one,hk];rfl
      refine ⟨_,_,rfl,Same.put s nd',aj,Nat.le_trans (j0 _ _ _) (by omega),fun n=>?_,fun u hu=>?_,?_⟩
      ·rw [xF,hv n,tk]
       by_cases hn:n=i
       ·subst hn;simp
       ·rw [if_neg (fun z=>hn (by have:=Sum.inl.inj z;omega))]
        have hne:¬ V.int (n:Int)=V.int (i:Int):=fun z=>hn (by have:=V.int.inj z;omega)
        simp [hne]
      ·rw [tk] at hu
       rcases List.mem_append.mp hu with h | h
       ·exact hin u h
       ·rw [List.mem_singleton.mp h];exact hb
      ·rw [tk]
       exact uD hnd hm
   ·rintro U H' ⟨kvs,x2,rfl,s,hd,_,_,hin,hnd⟩
    rw [List.take_length] at hin hnd
    rw [Jh (by omega) hin hnd] at q
    walk_at "s"
    exact q _ s
  ·skip
   refine jQ rfl fun p np=>?_
   walk_at "s"
   have ha1:upd H p (.tup [.ty "list",.ty "tuple"]) a=some (.tup us):=aY np ha
   refine ww (.tup ha1) aj rfl (b:=true) (by rfl) ?_
   walk_at "s"
   refine tZ (SqT.of ha1) ?_
   walk_at "s"
   by_cases h96:96 < us.length
   ·rw [decide_eq_true (show (96:Int) < (us.length:Int) by omega)]
    rw [Ce h96] at q
    walk_at "s"
    exact q _ ((Same.refl H).upd np)
   rw [decide_eq_false (show ¬ (96:Int) < (us.length:Int) by omega)]
   walk_at "s"
   intro d nd
   have S1:Same H (upd (upd H p (.tup [.ty "list",.ty "tuple"])) d (.dK [])):=((Same.refl H).upd np).upd nd
   have hd0:upd (upd H p (.tup [.ty "list",.ty "tuple"])) d (.dK []) d=some (.dK []):=aj
   have nd':H d=none:=Same.back ((Same.refl H).upd np) nd
   generalize upd (upd H p (.tup [.ty "list",.ty "tuple"])) d (.dK [])=H1 at S1 hd0 ⊢
   walk_at "s"
   refine .inr (.inl ⟨a,rfl,⟨_,SqT.of (S1 _ _ ha)⟩,?_⟩)
   refine Ka (xs:=us) (fun k U H'=>∃ (kvs:List (Key×V)) (x2:Option V),U=[some (.ref a),some (.ref d),x2]/\Same H H'/\H' d=some (.dK kvs)/\kvs.length<=k/\(∀ n:Nat,jP kvs (Sum.inl (n:Int))=if V.int (n:Int)∈us.take k then some (.bl true) else none)/\(∀ u∈us.take k,inB u 0 ((us.length:Int) - 1)=true)/\(us.take k).Nodup)
    ⟨[],_,rfl,S1,hd0,by simp,fun n=>by simp [xu],by simp,by simp⟩ (fun i U H' _ h=>?_) ?_ ?_
   ·obtain ⟨_,_,_,s,_⟩:=h
    exact SqT.of (s _ _ ha)
   ·rintro k v U H' hk ⟨kvs,x2,rfl,s,hd,hkl,hv,hin,hnd⟩
    have hkt:k < us.length:=(List.getElem?_eq_some_iff.mp hk).1
    have hmem:=List.mem_of_getElem? hk
    walk_at "s"
    refine tZ (SqT.of (s _ _ ha)) ?_
    walk_at "s"
    refine ⟨_,_,_,rfl,(hkd v hmem).same s,?_⟩
    walk_at "s"
    cases hb:inB v 0 ((us.length:Int) - 1) with
    | false=>
     rw [Jf hmem hb] at q
     walk_at "s"
     exact q _ s
    | true=>
     obtain ⟨i,rfl,hi⟩:=Cg hb
     walk_at "s"
     refine .inr ⟨d,_,rfl,DGet.k (k:=Sum.inl (i:Int)) hd,?_⟩
     rw [hv i]
     by_cases hm:V.int (i:Int)∈us.take k
     ·rw [if_pos hm,show (some (V.bl true)).isSome=true from rfl]
      rw [Jg hk hm] at q
      walk_at "s"
      exact q _ s
     ·rw [if_neg hm,show (none:Option V).isSome=false from rfl]
      walk_at "s"
      refine .inr ⟨d,_,rfl,DPut.k (k:=Sum.inl (i:Int)) hd (by omega),?_⟩
      have tk:us.take (k+1)=us.take k ++ [V.int (i:Int)]:=by rw [List.take_add_one,hk];rfl
      refine ⟨_,_,rfl,Same.put s nd',aj,Nat.le_trans (j0 _ _ _) (by omega),fun n=>?_,fun u hu=>?_,?_⟩
      ·rw [xF,hv n,tk]
       by_cases hn:n=i
       ·subst hn;simp
       ·rw [if_neg (fun z=>hn (by have:=Sum.inl.inj z;omega))]
        have hne:¬ V.int (n:Int)=V.int (i:Int):=fun z=>hn (by have:=V.int.inj z;omega)
        simp [hne]
      ·rw [tk] at hu
       rcases List.mem_append.mp hu with h | h
       ·exact hin u h
       ·rw [List.mem_singleton.mp h];exact hb
      ·rw [tk]
       exact uD hnd hm
   ·rintro U H' ⟨kvs,x2,rfl,s,hd,_,_,hin,hnd⟩
    rw [List.take_length] at hin hnd
    rw [Jh (by omega) hin hnd] at q
    walk_at "s"
    exact q _ s
 ·refine jQ rfl fun p np=>?_
  walk_at "s"
  refine ww (hty.mono fun b o e _=>aY np e) aj rfl hk ?_
  walk_at "s"
  exact q _ ((Same.refl H).upd np)
def M6 (K:W.Frag):Sp:=fun vs H Q _=>∃ (a:Addr) (t:List Nat),vs=[.ref a]/\Tn H a t/\Prm t/\∀ H',Same H H'->Q .non H'
theorem sE:aD ["thing"] ["thing"] (az fG):=⟨rfl,rfl,rfl,by trivial,rfl,by trivial,by trivial⟩
theorem dD (T:Txt K mg):my P w K mg base 4 "need_turning" ["thing"] (M6 K):=by
 have lW:=lW (P:=P) (w:=w) (base:=base) T
 refine gB T.d_need_turning sE (fun _ _ _ _ _ _ us hl=>L2.mG (fun _=>rfl) us hl) ?_ fun f cdv A outer s H vs Q E hr h=>?_
 ·rintro vs H Q E ⟨a,t,rfl,_⟩;rfl
 obtain ⟨a,t,rfl,ha,hP,q⟩:=h
 have hu:=hr.units0
 have hu64:=hr.units
 refine ⟨_,(aA (dz (eQ (eU (aH lW (hr.mono (by decide)) (bf kz38) (aa (aq 0 kz39) ao) (by trivial)))) (aA mO) cF)),?_⟩
 walk_at "s"
 refine ⟨.ref a,true,rfl,M5 ha hP,fun H1 S1=>?_⟩
 walk_at "s"
 walk_at "s"
 exact q H1 S1
end
local macro_rules | `(tactic| walk_at "s") => `(tactic| (with_reducible repeat (first | refine oO ?_ | walk_at "2")))
local macro_rules | `(tactic| walk_at "n") => `(tactic| (with_reducible repeat (walk_at "2")))
section
variable {P:Program} {w:World} {K:W.Frag} {mg:Str->Option Value} {base:Heap}
theorem yD:(["end","behind","line_end"]:List Str).Nodup:=by trivial
theorem kz3a:bR cY "list":=by trivial
theorem WN:bR cY "reversed":=by trivial
theorem M9:aP cY "table":=by trivial
theorem Ss:aP cY "turning":=by trivial
theorem kz3e:Ly cY "line_end":=by trivial
theorem kz3f:bR cY "range":=by trivial
theorem Su:aP cY "many":=by trivial
theorem kz3h:Ly cY "behind":=by trivial
theorem kz3i:bR cY "len":=by trivial
theorem kz3j:bR cY "need_turning":=by trivial
def Ah (t:List Nat) (b e:Nat):Nat:=(t.drop b).countP fun x=>decide (x < e)
def wO (t:List Nat) (b:Nat):List Int:=(List.range (t.length+1)).map fun e=>((Ah t b e:Nat):Int)
theorem Ai {t:List Nat} {b e:Nat} {j:Int} (hj:j=(e:Int)) (h:e<=t.length):wX ((wO t b).map V.int) j=some (.int ((Ah t b e:Nat):Int)):=by
 subst hj
 refine cu ?_
 unfold wO
 rw [List.getElem?_map,List.getElem?_map,List.getElem?_range (by omega)];rfl
theorem yE {t:List Nat} {b x:Nat} (h:t[b]?=some x) (e:Nat):Ah t b e=Ah t (b+1) e+if x < e then 1 else 0:=by
 obtain ⟨hb,hx⟩:=List.getElem?_eq_some_iff.mp h
 unfold Ah
 rw [List.drop_eq_getElem_cons hb,List.countP_cons,hx]
 by_cases c:x < e
 ·rw [if_pos (by simpa using c),if_pos c]
 ·rw [if_neg (by simpa using c),if_neg c]
theorem Nb (t:List Nat) (e:Nat):Ah t t.length e=0:=by unfold Ah;rw [List.drop_length];rfl
def CT (H:Hp) (rs:List V) (n:Nat) (f:Nat->List Int):Prop:=rs.length=n/\∀ k,k < n->∃ a,rs[k]?=some (.ref a)/\H a=some (.lst ((f k).map V.int))
theorem CT.same {H H':Hp} {rs:List V} {n:Nat} {f:Nat->List Int} (h:CT H rs n f) (s:Same H H'):CT H' rs n f:=⟨h.1,fun k hk=>by
 obtain ⟨a,e,ha⟩:=h.2 k hk
 exact ⟨a,e,s _ _ ha⟩⟩
theorem CT.push {H:Hp} {rs:List V} {n:Nat} {f:Nat->List Int} {a:Addr} (h:CT H rs n f) (ha:H a=some (.lst ((f n).map V.int))):CT H (rs ++ [.ref a]) (n+1) f:=⟨by rw [List.length_append,h.1];rfl,fun k hk=>by
 by_cases e:k=n
 ·subst e
  exact ⟨a,by rw [List.getElem?_append_right (by rw [h.1];exact Nat.le_refl _),h.1,Nat.sub_self];rfl,ha⟩
 ·obtain ⟨b,e1,hb⟩:=h.2 k (by omega)
  exact ⟨b,by rw [List.getElem?_append_left (by rw [h.1];omega)];exact e1,hb⟩⟩
theorem CT.rev {H:Hp} {rs:List V} {n:Nat} {f:Nat->List Int} (h:CT H rs n f):CT H rs.reverse n fun k=>f (n - 1 - k):=⟨by rw [List.length_reverse];exact h.1,fun k hk=>by
 obtain ⟨a,e,ha⟩:=h.2 (n - 1 - k) (by omega)
 exact ⟨a,by rw [List.getElem?_reverse (by rw [h.1];exact hk),h.1];exact e,ha⟩⟩
def Ji:Sp:=fun vs H Q _=>∃ (a:Addr) (t:List Nat),vs=[.ref a]/\Tn H a t/\Prm t/\∀ q rs H',H q=none->Same H H'->H' q=some (.lst rs)->CT H' rs (t.length+1) (wO t)->(∀ r,V.ref r∈rs->H r=none)->Q (.ref q) H'
theorem lE:aD ["turning","many","table","line_end","behind"] ["turning"] (az cY):=⟨rfl,rfl,rfl,by trivial,rfl,by trivial,by trivial⟩
theorem uE (T:Txt K mg):my P w K mg base 5 "counts" ["turning"] Ji:=by
 have dD:=dD (P:=P) (w:=w) (base:=base) T
 refine gB T.d_counts lE (fun _ _ _ _ _ _ us hl=>L2.mG (fun _=>rfl) us hl) ?_ fun f cdv A outer s H vs Q E hr h=>?_
 ·rintro vs H Q E ⟨a,t,rfl,_⟩;rfl
 obtain ⟨a,t,rfl,ha,hP,q⟩:=h
 have hu:=hr.units0
 have hu64:=hr.units
 refine ⟨_,(au (bh (aH dD (hr.mono (by decide)) (bf kz3j) (aa (aq 0 Ss) ao) (by trivial))) (au (aK (i:=1) lE.nd rfl (Or.inl Su) (aF (aG (K:=K) rfl) (bf kz3i) T.b_len bz (aa (aq 0 Ss) ao) (by trivial) (by trivial)) rfl) (au (aK (i:=2) lE.nd rfl (Or.inl M9) (dH (aa (bG iW (dH (aa aC ao)) (bG aU (aq 1 Su) aC)) ao)) rfl) (au (dB PassesOwn.never rfl (Lr (K:=K) rfl (bf WN) T.b_reversed (aq 0 Ss)) (aO (i:=3) lE.nd rfl (Or.inr kz3e) rfl) (au (aK (i:=4) lE.nd rfl (Or.inr kz3h) (dh (K:=K) rfl (aq 2 M9) (VD Gf aC)) rfl) (aA (bh (cR (K:=K) rfl PySem.F.plainAttrs_list PySem.F.slot_list_append PySem.F.type_list_append bw (aq 2 M9) (aa (kE (sub:=[none,some 4,some 3]) (d9 (N:=["turning","many","table","line_end","behind"]) (sc:=az cY) (N':=["end","behind","line_end"]) (by trivial)) rfl rfl rfl (fO (bf kz3f) T.b_range (aa (bG aU (aq 1 Su) aC) ao)) (fun C s₀ H₀ ex=>(t7 0 (by trivial) yD)) (fun C s₀ H₀ ex=>ir) (fun C s₀ H₀ ex=>(bG aU (dh (K:=K) rfl (oR 1 (by trivial)) (mC 0 (by trivial))) (j_if (cQ Ov (oR 2 (by trivial)) (mC 0 (by trivial)) (by walk_at "p")) aC aC)))) ao)))))) (aA (aL (Dp (K:=K) rfl rfl (bf kz3a) T.b_list (bf WN) T.b_reversed (aq 2 M9)))))))),?_⟩
 walk_at "s"
 have hsz:20000<=sizeLine:=by decide
 have hle:=hP.le
 refine ⟨a,t,rfl,ha,hP,fun H1 S1=>?_⟩
 walk_at "s"
 have hlen:∀ (n:Nat),n=t.length->n=t.length:=fun _ h=>h
 have step:∀ (R:V->Hp->Prop),R (.int (t.length:Int)) H1->Dl K [.ref a] H1 R:=fun R hR=>by
  rcases ha.same S1 with h | h
  ·refine il (SqL.of h) ?_
   rw [fK];exact hR
  ·refine tZ (SqT.of h) ?_
   rw [fK];exact hR
 refine step _ ?_
 walk_at "s"
 refine cG rfl fun p0 H2 _ S2 f2=>?_
 walk_at "s"
 refine zG f2 (by omega) (by omega) (by simp;omega) fun p1 np1=>?_
 have S3:=(Same.refl H2).upd np1 (o:=.lst (List.replicate ((t.length:Int)+1).toNat [V.int 0]).flatten)
 have f3:=aj (H:=H2) (a:=p1) (o:=.lst (List.replicate ((t.length:Int)+1).toNat [V.int 0]).flatten)
 generalize upd H2 p1 (.lst (List.replicate ((t.length:Int)+1).toNat [V.int 0]).flatten)=H3 at S3 f3 ⊢
 have f3':H3 p1=some (.lst ((wO t (t.length - 0)).map V.int)):=by
  rw [f3,show ((t.length:Int)+1).toNat=t.length+1 by omega]
  congr 2
  unfold wO
  rw [List.map_map]
  have:∀ n,(List.replicate n [V.int 0]).flatten=(List.range n).map fun _=>V.int 0:=fun n=>by
   induction n with
   | zero=>rfl
   | succ n ih=>rw [List.replicate_succ',List.flatten_append,ih,List.range_succ,List.map_append];rfl
  rw [this]
  refine List.map_congr_left fun e _=>?_
  show V.int 0=V.int ((Ah t (t.length - 0) e:Nat):Int)
  rw [Nat.sub_zero,Nb];rfl
 walk_at "s"
 refine cG rfl fun tb H4 ntb S4 f4=>?_
 walk_at "s"
 have U4:=S1.trans (S2.trans (S3.trans S4))
 have ntb0:H tb=none:=by
  have:=Same.back (S1.trans (S2.trans S3)) ntb
  exact this
 have C4:CT H4 [.ref p1] (0+1) fun k=>wO t (t.length - k):=⟨rfl,fun k hk=>by
  obtain rfl:k=0:=by omega
  exact ⟨p1,rfl,S4 _ _ f3'⟩⟩
 have N4:∀ r,V.ref r∈[V.ref p1]->H r=none:=fun r hr=>by
  simp only [List.mem_cons,List.mem_nil_iff,or_false] at hr
  cases hr
  exact Same.back (S1.trans S2) np1
 rcases ha with ha | ha
 ·refine .inl ⟨a,_,rfl,SqL.of (U4 _ _ ha),?_⟩
  refine Ls (xs:=(nI t).map V.int) (fun i U G=>Same H G/\(∃ rs,G tb=some (.lst rs)/\(CT G rs (i+1) fun k=>wO t (t.length - k))/\∀ r,V.ref r∈rs->H r=none)/\∃ x3 x4,U=[some (.ref a),some (.int (t.length:Int)),some (.ref tb),x3,x4])
   ⟨U4,⟨_,f4,C4,N4⟩,_,_,rfl⟩ (fun i U G _ h=>SqL.of (h.1 _ _ ha)) ?_ ?_
  ·rintro i x U G hi hx ⟨sG,⟨rs,htb,hC,hN⟩,x3,x4,rfl⟩
   rw [fK] at hi
   rw [fK] at hx
   obtain ⟨le,hle2,rfl⟩:=Pq hx
   obtain ⟨pb,epb,hpb⟩:=hC.2 i (by omega)
   have hrl:rs.length=i+1:=hC.1
   walk_at "s"
   refine bF (SqL.of htb) (V0 (n:=i) hrl epb) ?_
   walk_at "s"
   refine ⟨.inl ⟨rfl,_,SqL.of htb⟩,?_⟩
   walk_at "s"
   refine ⟨_,rfl,by omega,by omega,?_⟩
   rw [show ((t.length:Int)+1).toNat=t.length+1 by omega]
   refine qR (n:=t.length+1) (fun e=>.int ((Ah t (t.length - (i+1)) e:Nat):Int)) (by omega) ?_ ?_
   ·intro e he
    have ec:=yE (t:=t) (b:=t.length - (i+1)) (x:=le) (by rw [show t.length - (i+1)=t.length - 1 - i by omega];exact hle2) e
    rw [show t.length - (i+1)+1=t.length - i by omega] at ec
    rw [Int.zero_add]
    walk_at "s"
    refine ⟨KeepSt.set rfl,?_⟩
    walk_at "s"
    refine bF (SqL.of hpb) (Ai rfl (by omega)) ?_
    walk_at "s"
    refine qO (fun h=>?_) (fun h=>?_)
    ·walk_at "s"
     exact ⟨rfl,nF (by rw [ec,if_pos (by omega)];rfl)⟩
    ·walk_at "s"
     exact ⟨rfl,nF (by rw [ec,if_neg (by omega)];rfl)⟩
   ·intro nw G2 nnw s2 hnw
    walk_at "s"
    refine bA (s2 _ _ htb) (by omega) ?_
    walk_at "s"
    have hnw':G2 nw=some (.lst ((wO t (t.length - (i+1))).map V.int)):=by
     rw [hnw]
     unfold wO
     rw [List.map_map];rfl
    have hne:∀ {b:Addr} {xs:List V},G2 b=some (.lst xs)->True:=fun _=>trivial
    have C2:=(hC.same s2).push hnw'
    refine ⟨Same.put (sG.trans s2) ntb0,⟨_,aj,⟨C2.1,fun k hk=>?_⟩,fun r hr=>(List.mem_append.mp hr).elim (hN r) fun hr=>by
     simp only [List.mem_cons,List.mem_nil_iff,or_false] at hr
     cases hr
     exact Same.back sG nnw⟩,_,_,rfl⟩
    obtain ⟨b,e1,hb⟩:=C2.2 k hk
    refine ⟨b,e1,?_⟩
    rw [aB (fun z=>?_)]
    ·exact hb
    ·rw [z,s2 _ _ htb] at hb
     have e0:rs=(wO t (t.length - k)).map V.int:=by injection hb with hb;injection hb
     obtain ⟨a0,ea0,_⟩:=hC.2 0 (by omega)
     rw [e0,List.getElem?_map] at ea0
     cases hq:(wO t (t.length - k))[0]? with
     | none=>rw [hq] at ea0;cases ea0
     | some v=>rw [hq] at ea0;cases ea0
  ·rintro U G ⟨sG,⟨rs,htb,hC,hN⟩,x3,x4,rfl⟩
   rw [fK] at hC
   walk_at "s"
   refine ⟨_,rfl,tb,rs,rfl,SqL.of htb,fun qq nqq=>?_⟩
   have s5:=(Same.refl G).upd nqq (o:=.lst rs.reverse)
   refine q qq rs.reverse _ (Same.back sG nqq) (sG.trans s5) aj ?_ fun r hr=>hN r (List.mem_reverse.mp hr)
   have:=hC.rev.same s5
   refine ⟨this.1,fun k hk=>?_⟩
   obtain ⟨b,e1,hb⟩:=this.2 k hk
   refine ⟨b,e1,?_⟩
   rw [hb]
   show some (HO.lst (List.map V.int (wO t (t.length - (t.length+1 - 1 - k)))))=_
   rw [show t.length - (t.length+1 - 1 - k)=k by omega]
 ·refine .inr ⟨a,_,rfl,SqT.of (U4 _ _ ha),by rw [fK];omega,?_⟩
  refine Lw (xs:=(nI t).map V.int) (by rw [fK];omega) (fun i U G=>Same H G/\(∃ rs,G tb=some (.lst rs)/\(CT G rs (i+1) fun k=>wO t (t.length - k))/\∀ r,V.ref r∈rs->H r=none)/\∃ x3 x4,U=[some (.ref a),some (.int (t.length:Int)),some (.ref tb),x3,x4])
   ⟨U4,⟨_,f4,C4,N4⟩,_,_,rfl⟩ (fun i U G _ h=>SqT.of (h.1 _ _ ha)) ?_ ?_
  ·rintro i x U G hi hx ⟨sG,⟨rs,htb,hC,hN⟩,x3,x4,rfl⟩
   rw [fK] at hi
   rw [fK] at hx
   obtain ⟨le,hle2,rfl⟩:=Pq hx
   obtain ⟨pb,epb,hpb⟩:=hC.2 i (by omega)
   have hrl:rs.length=i+1:=hC.1
   walk_at "s"
   refine bF (SqL.of htb) (V0 (n:=i) hrl epb) ?_
   walk_at "s"
   refine ⟨.inl ⟨rfl,_,SqL.of htb⟩,?_⟩
   walk_at "s"
   refine ⟨_,rfl,by omega,by omega,?_⟩
   rw [show ((t.length:Int)+1).toNat=t.length+1 by omega]
   refine qR (n:=t.length+1) (fun e=>.int ((Ah t (t.length - (i+1)) e:Nat):Int)) (by omega) ?_ ?_
   ·intro e he
    have ec:=yE (t:=t) (b:=t.length - (i+1)) (x:=le) (by rw [show t.length - (i+1)=t.length - 1 - i by omega];exact hle2) e
    rw [show t.length - (i+1)+1=t.length - i by omega] at ec
    rw [Int.zero_add]
    walk_at "s"
    refine ⟨KeepSt.set rfl,?_⟩
    walk_at "s"
    refine bF (SqL.of hpb) (Ai rfl (by omega)) ?_
    walk_at "s"
    refine qO (fun h=>?_) (fun h=>?_)
    ·walk_at "s"
     exact ⟨rfl,nF (by rw [ec,if_pos (by omega)];rfl)⟩
    ·walk_at "s"
     exact ⟨rfl,nF (by rw [ec,if_neg (by omega)];rfl)⟩
   ·intro nw G2 nnw s2 hnw
    walk_at "s"
    refine bA (s2 _ _ htb) (by omega) ?_
    walk_at "s"
    have hnw':G2 nw=some (.lst ((wO t (t.length - (i+1))).map V.int)):=by
     rw [hnw]
     unfold wO
     rw [List.map_map];rfl
    have hne:∀ {b:Addr} {xs:List V},G2 b=some (.lst xs)->True:=fun _=>trivial
    have C2:=(hC.same s2).push hnw'
    refine ⟨Same.put (sG.trans s2) ntb0,⟨_,aj,⟨C2.1,fun k hk=>?_⟩,fun r hr=>(List.mem_append.mp hr).elim (hN r) fun hr=>by
     simp only [List.mem_cons,List.mem_nil_iff,or_false] at hr
     cases hr
     exact Same.back sG nnw⟩,_,_,rfl⟩
    obtain ⟨b,e1,hb⟩:=C2.2 k hk
    refine ⟨b,e1,?_⟩
    rw [aB (fun z=>?_)]
    ·exact hb
    ·rw [z,s2 _ _ htb] at hb
     have e0:rs=(wO t (t.length - k)).map V.int:=by injection hb with hb;injection hb
     obtain ⟨a0,ea0,_⟩:=hC.2 0 (by omega)
     rw [e0,List.getElem?_map] at ea0
     cases hq:(wO t (t.length - k))[0]? with
     | none=>rw [hq] at ea0;cases ea0
     | some v=>rw [hq] at ea0;cases ea0
  ·rintro U G ⟨sG,⟨rs,htb,hC,hN⟩,x3,x4,rfl⟩
   rw [fK] at hC
   walk_at "s"
   refine ⟨_,rfl,tb,rs,rfl,SqL.of htb,fun qq nqq=>?_⟩
   have s5:=(Same.refl G).upd nqq (o:=.lst rs.reverse)
   refine q qq rs.reverse _ (Same.back sG nqq) (sG.trans s5) aj ?_ fun r hr=>hN r (List.mem_reverse.mp hr)
   have:=hC.rev.same s5
   refine ⟨this.1,fun k hk=>?_⟩
   obtain ⟨b,e1,hb⟩:=this.2 k hk
   refine ⟨b,e1,?_⟩
   rw [hb]
   show some (HO.lst (List.map V.int (wO t (t.length - (t.length+1 - 1 - k)))))=_
   rw [show t.length - (t.length+1 - 1 - k)=k by omega]
end
local macro_rules | `(tactic| walk_at "s") => `(tactic| (with_reducible repeat (first | refine oO ?_ | walk_at "3")))
local macro_rules | `(tactic| walk_at "n") => `(tactic| (with_reducible repeat (walk_at "3")))
section
variable {P:Program} {w:World} {K:W.Frag} {mg:Str->Option Value} {base:Heap}
theorem WP:aP bN "self":=by trivial
theorem kz3l:bR bN "counts":=by trivial
theorem Sv:aP bN "turning":=by trivial
theorem kz3n:bR bN "list":=by trivial
theorem kz3o:bR bN "need_turning":=by trivial
theorem Sw:aP cI "self":=by trivial
theorem WQ:aP cI "begin":=by trivial
theorem WR:aP cI "end":=by trivial
theorem WT:bR cI "need_place":=by trivial
theorem WW:bR cI "len":=by trivial
def YJ (ae ac:Addr):List (Str×V):=[("held_ends",.ref ae),("held_counts",.ref ac)]
structure TyO (H:Hp) (t:List Nat) (ae ac:Addr) (rs:List V):Prop where
 ends:H ae=some (.lst ((nI t).map V.int))
 cnts:H ac=some (.lst rs)
 rows:CT H rs (t.length+1) (wO t)
theorem TyO.same {H H':Hp} {t:List Nat} {ae ac:Addr} {rs:List V} (h:TyO H t ae ac rs) (s:Same H H'):TyO H' t ae ac rs:=⟨s _ _ h.ends,s _ _ h.cnts,h.rows.same s⟩
def Ty (mg:Str->Option Value) (H:Hp) (x:Addr) (t:List Nat):Prop:=Prm t/\∃ dx ae ac rs,H x=some (.ins (aN mg "Tally") dx (YJ ae ac))/\TyO H t ae ac rs
theorem Ty.same {H H':Hp} {x:Addr} {t:List Nat} (h:Ty mg H x t) (s:Same H H'):Ty mg H' x t:=by
 obtain ⟨hP,dx,ae,ac,rs,hx,hO⟩:=h
 exact ⟨hP,dx,ae,ac,rs,s _ _ hx,hO.same s⟩
def TyD (mg:Str->Option Value) (D:Addr->Prop) (H:Hp) (x:Addr) (t:List Nat):Prop:=Prm t/\∃ dx ae ac rs,H x=some (.ins (aN mg "Tally") dx (YJ ae ac))/\TyO H t ae ac rs/\¬ D x/\¬ D ae/\¬ D ac/\∀ r,V.ref r∈rs->¬ D r
theorem TyD.ty {H:Hp} {D:Addr->Prop} {x:Addr} {t:List Nat} (h:TyD mg D H x t):Ty mg H x t:=by
 obtain ⟨hP,dx,ae,ac,rs,hx,hO,_⟩:=h
 exact ⟨hP,dx,ae,ac,rs,hx,hO⟩
theorem TyD.sub {H:Hp} {D D':Addr->Prop} {x:Addr} {t:List Nat} (h:TyD mg D H x t) (s:∀ g,D' g->D g):TyD mg D' H x t:=by
 obtain ⟨hP,dx,ae,ac,rs,hx,hO,n1,n2,n3,n4⟩:=h
 exact ⟨hP,dx,ae,ac,rs,hx,hO,fun z=>n1 (s _ z),fun z=>n2 (s _ z),fun z=>n3 (s _ z),fun r hr z=>n4 r hr (s _ z)⟩
theorem WX {D:Addr->Prop} {x g:Addr} (h:¬ D x) (hg:D g):x≠g:=fun z=>h (by rw [z];exact hg)
theorem TyD.put {H:Hp} {D:Addr->Prop} {g x:Addr} {t:List Nat} {o:HO} (h:TyD mg D H x t) (hg:D g):TyD mg D (upd H g o) x t:=by
 obtain ⟨hP,dx,ae,ac,rs,hx,hO,n1,n2,n3,n4⟩:=h
 refine ⟨hP,dx,ae,ac,rs,by rw [aB (WX n1 hg)];exact hx,⟨by rw [aB (WX n2 hg)];exact hO.ends,by rw [aB (WX n3 hg)];exact hO.cnts,hO.rows.1,fun k hk=>?_⟩,n1,n2,n3,n4⟩
 obtain ⟨b,e,hb⟩:=hO.rows.2 k hk
 exact ⟨b,e,by rw [aB (WX (n4 b (List.mem_of_getElem? e)) hg)];exact hb⟩
def Nf (mg:Str->Option Value):Sp:=fun vs H Q _=>∃ (x dx a:Addr) (t:List Nat),vs=[.ref x,.ref a]/\H x=some (.ins (aN mg "Tally") dx [])/\Tn H a t/\Prm t/\∀ H',Chg x H H'->TyD mg (fun g=>g≠x/\∃ o,H g=some o) H' x t->Q .non H'
theorem qt:aD ["self","turning"] ["self","turning"] (az bN):=⟨rfl,rfl,rfl,by trivial,rfl,by trivial,by trivial⟩
theorem iR (T:Txt K mg):jR P w K mg base 6 "Tally" "__init__" ["self","turning"] (Nf mg):=by
 have dD:=dD (P:=P) (w:=w) (base:=base) T
 have uE:=uE (P:=P) (w:=w) (base:=base) T
 refine mV T.m_Tally___init__ qt (fun _ _ _ _ _ _ us hl=>L2.qI (fun _ _=>rfl) us hl) ?_ fun f cdv A outer s H vs Q E hr h=>?_
 ·rintro vs H Q E ⟨x,dx,a,t,rfl,_⟩;rfl
 obtain ⟨x,dx,a,t,rfl,hx,ha,hP,q⟩:=h
 have hu:=hr.units0
 have hu64:=hr.units
 refine ⟨_,(au (bh (aH dD (hr.mono (by decide)) (bf kz3o) (aa (aq 1 Sv) ao) (by trivial))) (au (eZ (K:=K) rfl (aq 0 WP) (pY (o5 (K:=K) rfl rfl) (bf kz3n) T.b_list lK (aa (aq 1 Sv) ao) (by trivial) (by trivial))) (aA (eZ (K:=K) rfl (aq 0 WP) (aH uE (hr.mono (by decide)) (bf kz3l) (aa (aq 1 Sv) ao) (by trivial)))))),?_⟩
 walk_at "s"
 have hsz:20000<=sizeLine:=by decide
 have cl:=T.o_Tally.cl
 have na:=T.n_Tally
 refine ⟨a,t,rfl,ha,hP,fun H1 S1=>?_⟩
 walk_at "s"
 refine .inl ⟨a,(nI t).map V.int,rfl,(ha.same S1).imp SqL.of SqT.of,fun ae nae=>?_⟩
 have S2:=(Same.refl H1).upd nae (o:=.lst ((nI t).map V.int))
 have f2:=aj (H:=H1) (a:=ae) (o:=.lst ((nI t).map V.int))
 generalize upd H1 ae (.lst ((nI t).map V.int))=H2 at S2 f2 ⊢
 have U2:=S1.trans S2
 have hx2:=U2 _ _ hx
 have nx:∀ {G:Hp} {b:Addr} {fs:List (Str×V)} {us:List V},G x=some (.ins (aN mg "Tally") dx fs)->(G b=some (.lst us)\/G b=some (.tup us))->b≠x:=fun {G b fs us} h1 h2 z=>by
  rw [z,h1] at h2
  rcases h2 with h2 | h2 <;> cases h2
 walk_at "s"
 refine ⟨x,_,dx,_,rfl,hx2,cl,na _ (by simp),by simp,?_⟩
 walk_at "s"
 rw [bU (by show ([]:List Str).contains "held_ends"=false;trivial)]
 have hx3:=aj (H:=H2) (a:=x) (o:=.ins (aN mg "Tally") dx (([]:List (Str×V)) ++ ([("held_ends",.ref ae)]:List (Str×V))))
 have C3:Chg x H2 (upd H2 x (.ins (aN mg "Tally") dx (([]:List (Str×V)) ++ ([("held_ends",.ref ae)]:List (Str×V))))):=Chg.put (Chg.refl x H2)
 generalize upd H2 x (.ins (aN mg "Tally") dx (([]:List (Str×V)) ++ ([("held_ends",.ref ae)]:List (Str×V))))=H3 at hx3 C3 ⊢
 replace hx3:H3 x=some (.ins (aN mg "Tally") dx ([("held_ends",.ref ae)]:List (Str×V))):=hx3
 have ha2:=ha.same U2
 have ha3:Tn H3 a t:=by
  have nxa:=nx hx2 ha2
  rcases ha2 with h | h
  ·exact .inl (C3 _ _ nxa h)
  ·exact .inr (C3 _ _ nxa h)
 have f3:=C3 _ _ (nx hx2 (.inl f2)) f2
 walk_at "s"
 refine ⟨a,t,rfl,ha3,hP,fun ac rs H4 nac S4 hac hrs hfr=>?_⟩
 walk_at "s"
 have hx4:=S4 _ _ hx3
 refine ⟨x,_,dx,_,rfl,hx4,cl,na _ (by simp),by simp,?_⟩
 walk_at "s"
 rw [bU (by show (["held_ends"]:List Str).contains "held_counts"=false;trivial)]
 have hx5:=aj (H:=H4) (a:=x) (o:=.ins (aN mg "Tally") dx (([("held_ends",.ref ae)]:List (Str×V)) ++ ([("held_counts",.ref ac)]:List (Str×V))))
 have C5:Chg x H4 (upd H4 x (.ins (aN mg "Tally") dx (([("held_ends",.ref ae)]:List (Str×V)) ++ ([("held_counts",.ref ac)]:List (Str×V))))):=Chg.put (Chg.refl x H4)
 generalize upd H4 x (.ins (aN mg "Tally") dx (([("held_ends",.ref ae)]:List (Str×V)) ++ ([("held_counts",.ref ac)]:List (Str×V))))=H5 at hx5 C5 ⊢
 have hO5:TyO H5 t ae ac rs:=by
  refine ⟨?_,?_,hrs.1,fun k hk=>?_⟩
  ·exact C5 _ _ (nx hx4 (.inl (S4 _ _ f3))) (S4 _ _ f3)
  ·exact C5 _ _ (nx hx4 (.inl hac)) hac
  ·obtain ⟨b,e,hb⟩:=hrs.2 k hk
   exact ⟨b,e,C5 _ _ (nx hx4 (.inl hb)) hb⟩
 refine q H5 ?_ ⟨hP,dx,ae,ac,rs,hx5,hO5,fun z=>z.1 rfl,?_,?_,fun r hr z=>?_⟩
 ·intro b o nb e
  exact C5 b o nb (S4 _ _ (C3 b o nb (U2 _ _ e)))
 ·rintro ⟨ng,o,hg⟩
  rw [S1 _ _ hg] at nae;cases nae
 ·rintro ⟨ng,o,hg⟩
  rw [C3 _ o ng (U2 _ _ hg)] at nac;cases nac
 ·obtain ⟨ng,o,hg⟩:=z
  have:=hfr r hr
  rw [C3 _ o ng (U2 _ _ hg)] at this;cases this
theorem tyM {ae ac:Addr} {m:Str} (h:(["held_ends","held_counts"]:List Str).contains m=false):(YJ ae ac).lookup m=none:=by
 unfold YJ
 simp only [List.contains_cons,Bool.or_eq_false_iff] at h
 obtain ⟨h1,h2,_⟩:=h
 simp only [List.lookup_cons,h1,h2,List.lookup_nil]
def Jj (mg:Str->Option Value):Sp:=fun vs H Q _=>∃ (x:Addr) (t:List Nat) (b e:Nat),vs=[.ref x,.int b,.int e]/\Ty mg H x t/\b<=t.length/\e<=t.length/\Q (.int ((Ah t b e:Nat):Int)) H
theorem uF:aD ["self","begin","end"] ["self","begin","end"] (az cI):=⟨rfl,rfl,rfl,by trivial,rfl,by trivial,by trivial⟩
theorem lg (T:Txt K mg):jR P w K mg base 4 "Tally" "below" ["self","begin","end"] (Jj mg):=by
 have bZ:=bZ (P:=P) (w:=w) (base:=base) T
 refine mV T.m_Tally_below uF (fun _ _ _ _ _ _ us hl=>L2.oZ (fun _ _ _=>rfl) us hl) ?_ fun f cdv A outer s H vs Q E hr h=>?_
 ·rintro vs H Q E ⟨x,t,b,e,rfl,_⟩;rfl
 obtain ⟨x,t,b,e,rfl,⟨hP,dx,ae,ac,rs,hx,hO⟩,hb,he,q⟩:=h
 have hu:=hr.units0
 have hu64:=hr.units
 refine ⟨_,(au (bh (aH bZ (hr.mono (by decide)) (bf WT) (aa (aq 1 WQ) (aa aC (aa (aF (aG (K:=K) rfl) (bf WW) T.b_len bz (aa (jg (K:=K) rfl (aq 0 Sw)) ao) (by trivial) (by trivial)) ao))) (by trivial))) (au (bh (aH bZ (hr.mono (by decide)) (bf WT) (aa (aq 2 WR) (aa aC (aa (aF (aG (K:=K) rfl) (bf WW) T.b_len bz (aa (jg (K:=K) rfl (aq 0 Sw)) ao) (by trivial) (by trivial)) ao))) (by trivial))) (aA (aL (dh (K:=K) rfl (dh (K:=K) rfl (jg (K:=K) rfl (aq 0 Sw)) (aq 1 WQ)) (aq 2 WR)))))),?_⟩
 walk_at "s"
 have cl:=T.o_Tally.cl
 have na:=T.n_Tally
 refine ⟨x,_,dx,_,_,rfl,hx,cl,na _ (by simp),rfl,?_⟩
 walk_at "s"
 refine il (SqL.of hO.ends) ?_
 walk_at "s"
 rw [fK]
 walk_at "s"
 refine qp (by omega) (by omega) ?_
 walk_at "s"
 refine ⟨x,_,dx,_,_,rfl,hx,cl,na _ (by simp),rfl,?_⟩
 walk_at "s"
 refine il (SqL.of hO.ends) ?_
 walk_at "s"
 rw [fK]
 walk_at "s"
 refine qp (by omega) (by omega) ?_
 walk_at "s"
 refine ⟨x,_,dx,_,_,rfl,hx,cl,na _ (by simp),rfl,?_⟩
 walk_at "s"
 obtain ⟨pb,epb,hpb⟩:=hO.rows.2 b (by omega)
 refine bF (SqL.of hO.cnts) (cu epb) ?_
 walk_at "s"
 refine bF (SqL.of hpb) (Ai rfl he) ?_
 walk_at "s"
 exact q
theorem made {H1 H2:Hp} {x dx:Addr} {o o':HO} (nx:H1 x=none) (ndx:H1 dx=none) (c:Chg x (upd (upd H1 dx o) x o') H2):Same H1 H2:=fun b u e=>by
 have n1:b≠x:=fun z=>by rw [z,nx] at e;cases e
 have n2:b≠dx:=fun z=>by rw [z,ndx] at e;cases e
 exact c b u n1 (by rw [aB n1,aB n2];exact e)
theorem Jk {H1:Hp} {x dx g:Addr} {o o' u:HO} (nx:H1 x=none) (ndx:H1 dx=none) (e:H1 g=some u):upd (upd H1 dx o) x o' g=some u/\g≠x:=by
 have n1:g≠x:=fun z=>by rw [z,nx] at e;cases e
 have n2:g≠dx:=fun z=>by rw [z,ndx] at e;cases e
 exact ⟨by rw [aB n1,aB n2];exact e,n1⟩
theorem gNe {H1:Hp} {x g:Addr} {u:HO} (nx:H1 x=none) (e:H1 g=some u):g≠x:=fun z=>by rw [z,nx] at e;cases e
theorem Sx:aP bK "self":=by trivial
theorem WY:bR bK "len":=by trivial
theorem Sy:aP bK "lines":=by trivial
theorem SJ:aP bK "many":=by trivial
theorem kz3y:bR bK "need_place":=by trivial
theorem kz3z:bR bK "Tally":=by trivial
theorem W0:aP bL "end":=by trivial
theorem W2:aP bL "begin":=by trivial
theorem Xa:aP bL "self":=by trivial
theorem SM:aP bL "many":=by trivial
theorem kz44:aP bL "last":=by trivial
theorem kz45:aP bL "first":=by trivial
def YK (ty:Addr) (m f:Nat):List (Str×V):=[("held_tally",.ref ty),("held_many",.int (m:Int)),("held_far",.int (f:Int))]
theorem akM {ty:Addr} {m' f:Nat} {m:Str} (h:(["held_tally","held_many","held_far"]:List Str).contains m=false):(YK ty m' f).lookup m=none:=by
 unfold YK
 simp only [List.contains_cons,Bool.or_eq_false_iff] at h
 obtain ⟨h1,h2,h3,_⟩:=h
 simp only [List.lookup_cons,h1,h2,h3,List.lookup_nil]
def Ak (mg:Str->Option Value) (H:Hp) (x:Addr) (t:List Nat) (m f:Nat):Prop:=m+f=t.length/\∃ dx ty,H x=some (.ins (aN mg "Asks") dx (YK ty m f))/\Ty mg H ty t
theorem Ak.same {H H':Hp} {x:Addr} {t:List Nat} {m f:Nat} (h:Ak mg H x t m f) (s:Same H H'):Ak mg H' x t m f:=by
 obtain ⟨hl,dx,ty,hx,hT⟩:=h
 exact ⟨hl,dx,ty,s _ _ hx,hT.same s⟩
def AkD (mg:Str->Option Value) (D:Addr->Prop) (H:Hp) (x:Addr) (t:List Nat) (m f:Nat):Prop:=m+f=t.length/\∃ dx ty,H x=some (.ins (aN mg "Asks") dx (YK ty m f))/\TyD mg D H ty t/\¬ D x
theorem AkD.ak {H:Hp} {D:Addr->Prop} {x:Addr} {t:List Nat} {m f:Nat} (h:AkD mg D H x t m f):Ak mg H x t m f:=by
 obtain ⟨hl,dx,ty,hx,hT,_⟩:=h
 exact ⟨hl,dx,ty,hx,hT.ty⟩
theorem AkD.sub {H:Hp} {D D':Addr->Prop} {x:Addr} {t:List Nat} {m f:Nat} (h:AkD mg D H x t m f) (s:∀ g,D' g->D g):AkD mg D' H x t m f:=by
 obtain ⟨hl,dx,ty,hx,hT,n⟩:=h
 exact ⟨hl,dx,ty,hx,hT.sub s,fun z=>n (s _ z)⟩
theorem AkD.put {H:Hp} {D:Addr->Prop} {g x:Addr} {t:List Nat} {m f:Nat} {o:HO} (h:AkD mg D H x t m f) (hg:D g):AkD mg D (upd H g o) x t m f:=by
 obtain ⟨hl,dx,ty,hx,hT,n⟩:=h
 exact ⟨hl,dx,ty,by rw [aB (WX n hg)];exact hx,hT.put hg,n⟩
def Ng (mg:Str->Option Value):Sp:=fun vs H Q _=>∃ (x dx a:Addr) (t:List Nat) (m f:Nat),vs=[.ref x,.ref a,.int m]/\H x=some (.ins (aN mg "Asks") dx [])/\Tn H a t/\Prm t/\m+f=t.length/\∀ H',Chg x H H'->AkD mg (fun g=>g≠x/\∃ o,H g=some o) H' x t m f->Q .non H'
theorem rn:aD ["self","lines","many"] ["self","lines","many"] (az bK):=⟨rfl,rfl,rfl,by trivial,rfl,by trivial,by trivial⟩
theorem ji (T:Txt K mg):jR P w K mg base 8 "Asks" "__init__" ["self","lines","many"] (Ng mg):=by
 have iR:=iR (P:=P) (w:=w) (base:=base) T
 have bZ:=bZ (P:=P) (w:=w) (base:=base) T
 refine mV T.m_Asks___init__ rn (fun _ _ _ _ _ _ us hl=>L2.oZ (fun _ _ _=>rfl) us hl) ?_ fun f cdv A outer s H vs Q E hr h=>?_
 ·rintro vs H Q E ⟨x,dx,a,t,m,f',rfl,_⟩;rfl
 obtain ⟨x,dx,a,t,m,f',rfl,hx,ha,hP,hmf,q⟩:=h
 have hu:=hr.units0
 have hu64:=hr.units
 refine ⟨_,(au (eZ (K:=K) rfl (aq 0 Sx) (nu T.o_Tally iR (hr.mono (by decide)) (bf kz3z) mQ (aa (aq 1 Sy) ao) (by trivial))) (au (bh (aH bZ (hr.mono (by decide)) (bf kz3y) (aa (aq 2 SJ) (aa aC (aa (aF (aG (K:=K) rfl) (bf WY) T.b_len bz (aa (aq 1 Sy) ao) (by trivial) (by trivial)) ao))) (by trivial))) (au (eZ (K:=K) rfl (aq 0 Sx) (aq 2 SJ)) (aA (eZ (K:=K) rfl (aq 0 Sx) (bG jh (aF (aG (K:=K) rfl) (bf WY) T.b_len bz (aa (aq 1 Sy) ao) (by trivial) (by trivial)) (aq 2 SJ))))))),?_⟩
 walk_at "s"
 have hsz:20000<=sizeLine:=by decide
 have cl:=T.o_Asks.cl
 have na:=T.n_Asks
 intro ty dty nty ndty ne
 have hat:Tn (upd (upd H dty (.own ty)) ty (.ins (aN mg "Tally") dty [])) a t:=ha.imp (fun h=>(Jk nty ndty h).1) (fun h=>(Jk nty ndty h).1)
 refine ⟨ty,dty,a,t,rfl,aj,hat,hP,fun H1 c1 hT1=>⟨rfl,?_⟩⟩
 walk_at "s"
 have S1:=made nty ndty c1
 replace hT1:=hT1.sub (D':=fun g=>∃ o,H g=some o) (fun g hg=>by
  obtain ⟨o,hg⟩:=hg
  exact ⟨gNe nty hg,o,(Jk nty ndty hg).1⟩)
 clear c1
 have hx1:=S1 _ _ hx
 have ax:a≠x:=fun z=>by
  rcases ha with h | h <;> rw [z,hx] at h <;> cases h
 refine ⟨x,_,dx,_,rfl,hx1,cl,na _ (by simp),by simp,?_⟩
 walk_at "s"
 rw [bU (by show ([]:List Str).contains "held_tally"=false;trivial)]
 have hx2:=aj (H:=H1) (a:=x) (o:=.ins (aN mg "Asks") dx (([]:List (Str×V)) ++ ([("held_tally",.ref ty)]:List (Str×V))))
 have C2:Chg x H (upd H1 x (.ins (aN mg "Asks") dx (([]:List (Str×V)) ++ ([("held_tally",.ref ty)]:List (Str×V))))):=Chg.put (fun b o n e=>S1 _ _ e)
 have hT2:=hT1.put (g:=x) (o:=.ins (aN mg "Asks") dx (([]:List (Str×V)) ++ ([("held_tally",.ref ty)]:List (Str×V)))) ⟨_,hx⟩
 generalize upd H1 x (.ins (aN mg "Asks") dx (([]:List (Str×V)) ++ ([("held_tally",.ref ty)]:List (Str×V))))=H2 at hx2 C2 hT2 ⊢
 replace hx2:H2 x=some (.ins (aN mg "Asks") dx ([("held_tally",.ref ty)]:List (Str×V))):=hx2
 have ha2:Tn H2 a t:=ha.imp (C2 _ _ ax) (C2 _ _ ax)
 have len:∀ (G:Hp) (R:V->Hp->Prop),Tn G a t->R (.int (t.length:Int)) G->Dl K [.ref a] G R:=fun G R hG hR=>by
  rcases hG with h | h
  ·refine il (SqL.of h) ?_
   rw [fK];exact hR
  ·refine tZ (SqT.of h) ?_
   rw [fK];exact hR
 walk_at "s"
 refine len _ _ ha2 ?_
 walk_at "s"
 refine qp (by omega) (by omega) ?_
 walk_at "s"
 refine ⟨x,_,dx,_,rfl,hx2,cl,na _ (by simp),by simp,?_⟩
 walk_at "s"
 rw [bU (by show (["held_tally"]:List Str).contains "held_many"=false;trivial)]
 have hx3:=aj (H:=H2) (a:=x) (o:=.ins (aN mg "Asks") dx (([("held_tally",.ref ty)]:List (Str×V)) ++ ([("held_many",.int (m:Int))]:List (Str×V))))
 have C3:Chg x H (upd H2 x (.ins (aN mg "Asks") dx (([("held_tally",.ref ty)]:List (Str×V)) ++ ([("held_many",.int (m:Int))]:List (Str×V))))):=Chg.put C2
 have hT3:=hT2.put (g:=x) (o:=.ins (aN mg "Asks") dx (([("held_tally",.ref ty)]:List (Str×V)) ++ ([("held_many",.int (m:Int))]:List (Str×V)))) ⟨_,hx⟩
 generalize upd H2 x (.ins (aN mg "Asks") dx (([("held_tally",.ref ty)]:List (Str×V)) ++ ([("held_many",.int (m:Int))]:List (Str×V))))=H3 at hx3 C3 hT3 ⊢
 replace hx3:H3 x=some (.ins (aN mg "Asks") dx ([("held_tally",.ref ty),("held_many",.int (m:Int))]:List (Str×V))):=hx3
 have ha3:Tn H3 a t:=ha.imp (C3 _ _ ax) (C3 _ _ ax)
 walk_at "s"
 refine len _ _ ha3 ?_
 walk_at "s"
 refine ⟨x,_,dx,_,rfl,hx3,cl,na _ (by simp),by simp,?_⟩
 walk_at "s"
 rw [bU (by show (["held_tally","held_many"]:List Str).contains "held_far"=false;trivial),show (t.length:Int) - (m:Int)=(f':Int) by omega]
 exact q _ (Chg.put C3) ⟨hmf,dx,ty,aj,(hT3.put ⟨_,hx⟩).sub (fun g hg=>hg.2),fun z=>z.1 rfl⟩
def rk (t:List Nat) (m a b c d:Nat):Int:=(d:Int) - (c:Int) - ((Ah t (m - a+c) (m - b+d):Nat):Int)
def SN (mg:Str->Option Value):Sp:=fun vs H Q _=>∃ (x:Addr) (t:List Nat) (m f a b c d:Nat),vs=[.ref x,.int a,.int b,.int c,.int d]/\Ak mg H x t m f/\a<=m/\b<=m/\c<=f/\d<=f/\Q (.int (rk t m a b c d)) H
theorem lF:aD ["self","first","last","begin","end","many"] ["self","first","last","begin","end"] (az bL):=⟨rfl,rfl,rfl,by trivial,rfl,by trivial,by trivial⟩
theorem jj (T:Txt K mg):jR P w K mg base 5 "Asks" "reckoned" ["self","first","last","begin","end"] (SN mg):=by
 have lg:=lg (P:=P) (w:=w) (base:=base) T
 refine mV T.m_Asks_reckoned lF (fun _ _ _ _ _ _ us hl=>L2.Pz (fun _ _ _ _ _=>rfl) us hl) ?_ fun f cdv A outer s H vs Q E hr h=>?_
 ·rintro vs H Q E ⟨x,t,m,f',a,b,c,d,rfl,_⟩;rfl
 obtain ⟨x,t,m,f',a,b,c,d,rfl,⟨hl,dx,ty,hx,hT⟩,h1,h2,h3,h4,q⟩:=h
 have hu:=hr.units0
 have hu64:=hr.units
 refine ⟨_,(au (aK (i:=5) lF.nd rfl (Or.inl SM) (jg (K:=K) rfl (aq 0 Xa)) rfl) (aA (aL (bG jh (bG jh (aq 4 W0) (aq 3 W2)) (qe (jg (K:=K) rfl (aq 0 Xa)) T.o_Tally lg (hr.mono (by decide)) mQ (aa (bG aU (bG jh (aq 5 SM) (aq 1 kz45)) (aq 3 W2)) (aa (bG aU (bG jh (aq 5 SM) (aq 2 kz44)) (aq 4 W0)) ao))))))),?_⟩
 walk_at "s"
 have cl:=T.o_Asks.cl
 have na:=T.n_Asks
 refine ⟨x,_,dx,_,_,rfl,hx,cl,na _ (by simp),rfl,?_⟩
 walk_at "s"
 refine ⟨x,_,dx,_,_,rfl,hx,cl,na _ (by simp),rfl,?_⟩
 walk_at "s"
 have hT':=hT
 obtain ⟨_,dt,ae,ac,rs,ht,_⟩:=hT'
 refine ⟨ty,dt,_,rfl,ht,tyM (by trivial),?_⟩
 walk_at "s"
 rw [show (m:Int) - (a:Int)+(c:Int)=((m - a+c:Nat):Int) by omega,show (m:Int) - (b:Int)+(d:Int)=((m - b+d:Nat):Int) by omega]
 refine ⟨ty,t,m - a+c,m - b+d,rfl,hT,by omega,by omega,?_⟩
 walk_at "s"
 exact q
theorem Xb:aP bx "self":=by trivial
theorem kz47:aP bx "end":=by trivial
theorem kz48:aP bx "begin":=by trivial
theorem Xc:aP cU "self":=by trivial
theorem Xd:aP cU "end":=by trivial
theorem Xe:aP cU "begin":=by trivial
theorem kz4c:bR cU "need_span":=by trivial
def SQ (mg:Str->Option Value):Sp:=fun vs H Q _=>∃ (x:Addr) (t:List Nat) (m f c d:Nat),vs=[.ref x,.int c,.int d]/\Ak mg H x t m f/\c<=f/\d<=f/\Q (.int (rk t m 0 m c d)) H
theorem lq:aD ["self","begin","end"] ["self","begin","end"] (az bx):=⟨rfl,rfl,rfl,by trivial,rfl,by trivial,by trivial⟩
theorem dF (T:Txt K mg):jR P w K mg base 6 "Asks" "reckoned_stretch" ["self","begin","end"] (SQ mg):=by
 have jj:=jj (P:=P) (w:=w) (base:=base) T
 refine mV T.m_Asks_reckoned_stretch lq (fun _ _ _ _ _ _ us hl=>L2.oZ (fun _ _ _=>rfl) us hl) ?_ fun f cdv A outer s H vs Q E hr h=>?_
 ·rintro vs H Q E ⟨x,t,m,f',c,d,rfl,_⟩;rfl
 obtain ⟨x,t,m,f',c,d,rfl,hA,h3,h4,q⟩:=h
 have hu:=hr.units0
 have hu64:=hr.units
 refine ⟨_,(aA (aL (qe (aq 0 Xb) T.o_Asks jj (hr.mono (by decide)) mQ (aa aC (aa (jg (K:=K) rfl (aq 0 Xb)) (aa (aq 1 kz48) (aa (aq 2 kz47) ao))))))),?_⟩
 walk_at "s"
 have cl:=T.o_Asks.cl
 have na:=T.n_Asks
 obtain ⟨hl,dx,ty,hx,hT⟩:=id hA
 refine ⟨x,dx,_,rfl,hx,akM (by trivial),?_⟩
 walk_at "s"
 refine ⟨x,_,dx,_,_,rfl,hx,cl,na _ (by simp),rfl,?_⟩
 walk_at "s"
 refine ⟨x,t,m,f',0,m,c,d,rfl,hA,by omega,by omega,h3,h4,?_⟩
 walk_at "s"
 exact q
def Ew (mg:Str->Option Value):Sp:=fun vs H Q _=>∃ (x:Addr) (t:List Nat) (m f c d:Nat),vs=[.ref x,.int c,.int d]/\Ak mg H x t m f/\c<=d/\d<=f/\Q (.int (rk t m 0 m c d)) H
theorem sH:aD ["self","begin","end"] ["self","begin","end"] (az cU):=⟨rfl,rfl,rfl,by trivial,rfl,by trivial,by trivial⟩
theorem jV (T:Txt K mg):jR P w K mg base 7 "Asks" "stretch" ["self","begin","end"] (Ew mg):=by
 have m7:=m7 (P:=P) (w:=w) (base:=base) T
 have dF:=dF (P:=P) (w:=w) (base:=base) T
 refine mV T.m_Asks_stretch sH (fun _ _ _ _ _ _ us hl=>L2.oZ (fun _ _ _=>rfl) us hl) ?_ fun f cdv A outer s H vs Q E hr h=>?_
 ·rintro vs H Q E ⟨x,t,m,f',c,d,rfl,_⟩;rfl
 obtain ⟨x,t,m,f',c,d,rfl,hA,h3,h4,q⟩:=h
 have hu:=hr.units0
 have hu64:=hr.units
 refine ⟨_,(au (bh (aH m7 (hr.mono (by decide)) (bf kz4c) (aa (aq 1 Xe) (aa (aq 2 Xd) (aa (jg (K:=K) rfl (aq 0 Xc)) ao))) (by trivial))) (aA (aL (qe (aq 0 Xc) T.o_Asks dF (hr.mono (by decide)) mQ (aa (aq 1 Xe) (aa (aq 2 Xd) ao)))))),?_⟩
 walk_at "s"
 have cl:=T.o_Asks.cl
 have na:=T.n_Asks
 obtain ⟨hl,dx,ty,hx,hT⟩:=id hA
 refine ⟨x,_,dx,_,_,rfl,hx,cl,na _ (by simp),rfl,?_⟩
 walk_at "s"
 refine ⟨_,_,_,rfl,by omega,by omega,by omega,?_⟩
 walk_at "s"
 refine ⟨x,dx,_,rfl,hx,akM (by trivial),?_⟩
 walk_at "s"
 refine ⟨x,t,m,f',c,d,rfl,hA,by omega,h4,?_⟩
 walk_at "s"
 exact q
def Rule (m far:Nat) (e:Nat->Nat->Bool) (C:Nat->Nat->Bool):Prop:=∀ i j,i < m->j < far->C i j=(e i j || decide (gD m C j i < gA m C i j))
theorem qu {m:Nat} {C:Nat->Nat->Bool}:∀ n i j,i+j<=n->(i<=m->gD m C j i<=m+j)/\(i < m->gA m C i j < m+j)
 | n,0,0,_=>by rw [lQ,jG];omega
 | 0,0,j+1,h=>absurd h (by omega)
 | 0,i+1,j,h=>absurd h (by omega)
 | n+1,0,j+1,h=>by
  have h1:=qu (m:=m) (C:=C) n 0 j (by omega)
  refine ⟨fun _=>by rw [lQ];omega,fun hi=>?_⟩
  rw [j8]
  have a:=h1.1 (by omega)
  have b:=h1.2 hi
  split <;> omega
 | n+1,i+1,0,h=>by
  have h1:=qu (m:=m) (C:=C) n i 0 (by omega)
  refine ⟨fun hi=>?_,fun hi=>by rw [jG];omega⟩
  rw [jH]
  have a:=h1.1 (by omega)
  have b:=h1.2 (by omega)
  split <;> omega
 | n+1,i+1,j+1,h=>by
  have h1:=qu (m:=m) (C:=C) n (i+1) j (by omega)
  have h2:=qu (m:=m) (C:=C) n i (j+1) (by omega)
  refine ⟨fun hi=>?_,fun hi=>?_⟩
  ·rw [jH]
   have a:=h2.1 (by omega)
   have b:=h2.2 (by omega)
   split <;> omega
  ·rw [j8]
   have a:=h1.1 (by omega)
   have b:=h1.2 hi
   split <;> omega
def cn (m:Nat) (C:Nat->Nat->Bool) (i B:Nat):Nat->Nat
 | 0=>0
 | e+1=>cn m C i B e+(if B<=gD m C e i then 1 else 0)
theorem Ci {m:Nat} {C:Nat->Nat->Bool} {i B:Nat} (hB:m<=B) (hi:i < m):∀ e,cn m C (i+1) B e+(if B<=gA m C i e then 1 else 0)=cn m C i B e
 | 0=>by
  show 0+_=0
  rw [jG,if_neg (by omega)]
 | e+1=>by
  have ih:=Ci (C:=C) hB hi e
  show cn m C (i+1) B e+(if B<=gD m C e (i+1) then 1 else 0)+(if B<=gA m C i (e+1) then 1 else 0)=cn m C i B e+(if B<=gD m C e i then 1 else 0)
  rw [jH,j8]
  by_cases hC:C i e=true
  ·rw [if_pos hC,if_pos hC];omega
  ·rw [if_neg hC,if_neg hC];omega
theorem wQ {m:Nat} {C:Nat->Nat->Bool} {i b:Nat} (hi:i<=m):∀ e,e<=b->cn m C i (m+b) e=0
 | 0,_=>rfl
 | e+1,h=>by
  show cn m C i (m+b) e+_=0
  have:=(qu (m:=m) (C:=C) (i+e) i e (Nat.le_refl _)).1 hi
  rw [wQ hi e (by omega),if_neg (by omega)]
theorem yF {m:Nat} {C:Nat->Nat->Bool} {B:Nat} (b:Nat) (hB:B=m+b):∀ k,cn m C 0 B (b+k)=k
 | 0=>by rw [hB];exact wQ (by omega) b (Nat.le_refl _)
 | k+1=>by
  show cn m C 0 B (b+k)+(if B<=gD m C (b+k) 0 then 1 else 0)=k+1
  rw [yF b hB k,lQ,if_pos (by omega)]
def Nh (i j:Int):Int:=if j > i then j else i
def tb (e:Nat->Nat->Bool) (b:Nat):Nat->Nat->Int
 | 0,_=>0
 | _+1,0=>0
 | i+1,k+1=>if e i (b+k)=true then tb e b i k+1 else Nh (tb e b (i+1) k) (tb e b i (k+1))
termination_by i k=>i+k
theorem Ex (e:Nat->Nat->Bool) (b k:Nat):tb e b 0 k=0:=by rw [tb]
theorem Jl (e:Nat->Nat->Bool) (b i:Nat):tb e b i 0=0:=by cases i <;> rw [tb]
theorem Aj (e:Nat->Nat->Bool) (b i k:Nat):tb e b (i+1) (k+1)=if e i (b+k)=true then tb e b i k+1 else Nh (tb e b (i+1) k) (tb e b i (k+1)):=by rw [tb]
theorem qw {m far:Nat} {e C:Nat->Nat->Bool} (h:Rule m far e C) (b:Nat):∀ i,i<=m->∀ k,b+k<=far->tb e b i k+(cn m C i (m+b) (b+k):Nat)=k
 | 0,_,k,_=>by rw [Ex,yF b rfl];omega
 | i+1,hi,0,_=>by
  rw [Jl,wQ hi _ (by omega)];rfl
 | i+1,hi,k+1,hk=>by
  have h1:=qw h b i (by omega) k (by omega)
  have h2:=qw h b i (by omega) (k+1) hk
  have h3:=qw h b (i+1) hi k (by omega)
  have r:=h i (b+k) (by omega) (by omega)
  have kp:=Ci (m:=m) (C:=C) (i:=i) (B:=m+b) (by omega) (by omega) (b+k)
  rw [Aj]
  have e2:cn m C i (m+b) (b+(k+1))=cn m C i (m+b) (b+k)+(if m+b<=gD m C (b+k) i then 1 else 0):=rfl
  have e3:cn m C (i+1) (m+b) (b+(k+1))=cn m C (i+1) (m+b) (b+k)+(if m+b<=gD m C (b+k) (i+1) then 1 else 0):=rfl
  rw [e2] at h2
  rw [e3,jH]
  by_cases he:e i (b+k)=true
  ·rw [he,Bool.true_or] at r
   rw [if_pos he,if_pos r]
   omega
  ·have he':e i (b+k)=false:=by simpa using he
   rw [he',Bool.false_or] at r
   rw [if_neg he]
   by_cases hg:gD m C (b+k) i < gA m C i (b+k)
   ·have hC:C i (b+k)=true:=by rw [r];exact decide_eq_true hg
    rw [if_pos hC]
    unfold Nh
    by_cases c1:m+b<=gA m C i (b+k)
    ·rw [if_pos c1] at kp ⊢
     by_cases c2:m+b<=gD m C (b+k) i
     ·rw [if_pos c2] at h2
      split <;> omega
     ·rw [if_neg c2] at h2
      split <;> omega
    ·rw [if_neg c1] at kp ⊢
     rw [if_neg (by omega)] at h2
     split <;> omega
   ·have hC:¬ C i (b+k)=true:=by rw [r,decide_eq_false hg];decide
    rw [if_neg hC]
    unfold Nh
    by_cases c2:m+b<=gD m C (b+k) i
    ·rw [if_pos c2] at h2 ⊢
     by_cases c1:m+b<=gA m C i (b+k)
     ·rw [if_pos c1] at kp
      split <;> omega
     ·rw [if_neg c1] at kp
      split <;> omega
    ·rw [if_neg c2] at h2 ⊢
     rw [if_neg (by omega)] at kp
     split <;> omega
theorem yG {m:Nat} {C:Nat->Nat->Bool} {i B:Nat} (hB:m<=B+i) (hi:i < m):∀ e,cn m C (i+1) B e+(if B<=gA m C i e then 1 else 0)=cn m C i B e
 | 0=>by
  show 0+_=0
  rw [jG,if_neg (by omega)]
 | e+1=>by
  have ih:=yG (C:=C) hB hi e
  show cn m C (i+1) B e+(if B<=gD m C e (i+1) then 1 else 0)+(if B<=gA m C i (e+1) then 1 else 0)=cn m C i B e+(if B<=gD m C e i then 1 else 0)
  rw [jH,j8]
  by_cases hC:C i e=true
  ·rw [if_pos hC,if_pos hC];omega
  ·rw [if_neg hC,if_neg hC];omega
def yR (m far:Nat) (C:Nat->Nat->Bool) (p:Nat):Nat:=if p < far then gD m C p m else gA m C (m+far - 1 - p) far
theorem Jm {m far:Nat} {C:Nat->Nat->Bool} {R:List Int} (hR:pG m C far R) {p:Nat} (hp:p < m+far):R[yR m far C p]?=some (p:Int):=by
 obtain ⟨h1,h2,h3⟩:=hR
 unfold yR
 by_cases h:p < far
 ·rw [if_pos h];exact h2 p h
 ·rw [if_neg h,h3 _ (by omega)]
  congr 1
  omega
theorem Ey {m:Nat} {C:Nat->Nat->Bool} {far l:Nat} (h:l < m+far):∃ p,p < m+far/\yR m far C p=l:=by
 have:=(qW (m:=m) (C:=C) far).mem_iff.mpr (List.mem_range.mpr h)
 rcases List.mem_append.mp this with h | h
 ·obtain ⟨i,hi,e⟩:=List.mem_map.mp h
  have hi:=List.mem_range.mp hi
  refine ⟨m+far - 1 - i,by omega,?_⟩
  unfold yR
  rw [if_neg (by omega),show m+far - 1 - (m+far - 1 - i)=i by omega]
  exact e
 ·obtain ⟨i,hi,e⟩:=List.mem_map.mp h
  have hi:=List.mem_range.mp hi
  refine ⟨i,by omega,?_⟩
  unfold yR
  rw [if_pos hi];exact e
theorem Tc {m far:Nat} {C:Nat->Nat->Bool} {R:List Int} (hR:pG m C far R):R.Perm ((List.range (m+far)).map fun k=>((k:Nat):Int)):=by
 have hnd:((List.range (m+far)).map fun k=>((k:Nat):Int)).Nodup:=by
  rw [List.nodup_iff_pairwise_ne,List.pairwise_map]
  exact List.nodup_range.imp fun h e=>h (by omega)
 have at_:∀ l,l < m+far->∃ p,p < m+far/\yR m far C p=l/\R[l]?=some (p:Int):=fun l hl=>by
  obtain ⟨p,hp,e⟩:=Ey (m:=m) (C:=C) (far:=far) hl
  exact ⟨p,hp,e,by rw [← e];exact Jm hR hp⟩
 have hRn:R.Nodup:=by
  rw [List.nodup_iff_pairwise_ne,List.pairwise_iff_getElem]
  intro i j hi hj hij e
  rw [hR.1] at hi hj
  obtain ⟨p,_,e1,e2⟩:=at_ i hi
  obtain ⟨p',_,e3,e4⟩:=at_ j hj
  rw [List.getElem?_eq_getElem (by rw [hR.1];exact hi)] at e2
  rw [List.getElem?_eq_getElem (by rw [hR.1];exact hj)] at e4
  rw [e,Option.some.inj e4] at e2
  have:p'=p:=by have:=Option.some.inj e2;omega
  rw [this,e1] at e3
  omega
 refine (List.perm_ext_iff_of_nodup hRn hnd).mpr fun x=>⟨fun hx=>?_,fun hx=>?_⟩
 ·obtain ⟨l,hl,e⟩:=List.mem_iff_getElem.mp hx
  rw [hR.1] at hl
  obtain ⟨p,hp,_,e2⟩:=at_ l hl
  rw [List.getElem?_eq_getElem (by rw [hR.1];exact hl),e] at e2
  rw [Option.some.inj e2]
  exact List.mem_map.mpr ⟨p,List.mem_range.mpr hp,rfl⟩
 ·obtain ⟨p,hp,rfl⟩:=List.mem_map.mp hx
  exact List.mem_of_getElem? (Jm hR (List.mem_range.mp hp))
theorem Ni (z y:Str):Rule (mS z) (mS y) (fun i j=>decide (z.cps.getD i 0=y.cps.getD j 0)) (CB z y):=fun i j hi hj=>Mv (side:=z) (top:=y) hi hj
theorem Td {m far:Nat} {C:Nat->Nat->Bool} {R:List Int} (hR:pG m C far R) (hle:m+far<=96):∃ t:List Nat,R=nI t/\Prm t/\t.length=m+far/\∀ p,p < m+far->t[yR m far C p]?=some p:=by
 have hp:=Tc hR
 have hpos:∀ x∈R,0<=x:=fun x hx=>by
  obtain ⟨k,_,rfl⟩:=List.mem_map.mp (hp.mem_iff.mp hx)
  omega
 have e:R=nI (R.map Int.toNat):=by
  unfold nI
  rw [List.map_map]
  refine (List.map_id R).symm.trans (List.map_congr_left fun x hx=>?_)
  have:=hpos x hx
  show x=((x.toNat:Nat):Int)
  omega
 have hl:(R.map Int.toNat).length=m+far:=by rw [List.length_map,hR.1]
 refine ⟨R.map Int.toNat,e,⟨by omega,?_⟩,hl,fun p hp2=>?_⟩
 ·rw [hl]
  have:=hp.map Int.toNat
  rw [List.map_map] at this
  refine this.trans (List.Perm.of_eq ?_)
  refine (List.map_congr_left fun k _=>?_).trans (List.map_id _)
  show ((k:Nat):Int).toNat=k
  omega
 ·rw [List.getElem?_map,Jm hR hp2];rfl
def cm (m far:Nat) (C:Nat->Nat->Bool) (B:Nat):Nat->Nat
 | 0=>0
 | p+1=>cm m far C B p+(if B<=yR m far C p then 1 else 0)
theorem wR {m far:Nat} {C:Nat->Nat->Bool} {B:Nat}:∀ q,q<=far->cm m far C B q=cn m C m B q
 | 0,_=>rfl
 | q+1,h=>by
  show cm m far C B q+_=cn m C m B q+_
  rw [wR q (by omega)]
  unfold yR
  rw [if_pos (show q < far by omega)]
theorem Cj {m far:Nat} {C:Nat->Nat->Bool} {B:Nat}:∀ s,s<=m->m<=B+(m - s)->cm m far C B (far+s)=cn m C (m - s) B far
 | 0,_,_=>wR far (Nat.le_refl _)
 | s+1,h,hB=>by
  have ea:yR m far C (far+s)=gA m C (m - (s+1)) far:=by
   unfold yR
   rw [if_neg (by omega),show m+far - 1 - (far+s)=m - (s+1) by omega]
  show cm m far C B (far+s)+(if B<=yR m far C (far+s) then 1 else 0)=_
  have kp:=yG (m:=m) (C:=C) (i:=m - (s+1)) (B:=B) hB (by omega) far
  rw [show m - (s+1)+1=m - s by omega] at kp
  rw [ea,Cj s (by omega) (by omega)]
  exact kp
theorem Al {t:List Nat} (hn:t.Nodup) {l q B:Nat} (h:t[l]?=some q):(t.drop B).count q=if B<=l then 1 else 0:=by
 have hd:(t.drop B).Nodup:=hn.sublist (List.drop_sublist B t)
 by_cases hB:B<=l
 ·rw [if_pos hB]
  have hm:q∈t.drop B:=List.mem_of_getElem? (i:=l - B) (by rw [List.getElem?_drop,show B+(l - B)=l by omega];exact h)
  have h1:=List.nodup_iff_count.mp hd q
  have h2:=List.count_pos_iff.mpr hm
  omega
 ·rw [if_neg hB]
  refine List.count_eq_zero.mpr fun hm=>?_
  obtain ⟨i,hi⟩:=List.getElem?_of_mem hm
  rw [List.getElem?_drop] at hi
  have e1:=Ip hn h
  have e2:=Ip hn hi
  omega
theorem uT (u:List Nat) (q:Nat):u.countP (fun x=>decide (x < q+1))=u.countP (fun x=>decide (x < q))+u.count q:=by
 induction u with
 | nil=>rfl
 | cons x u ih=>
  rw [List.countP_cons,List.countP_cons,List.count_cons,ih]
  by_cases h1:x < q
  ·have:x < q+1:=by omega
   have:¬ x=q:=by omega
   simp [*];omega
  ·by_cases h2:x=q
   ·subst h2
    simp;omega
   ·have:¬ x < q+1:=by omega
    simp [*]
theorem Jo {m far:Nat} {C:Nat->Nat->Bool} {t:List Nat} (hn:t.Nodup) (ht:∀ p,p < m+far->t[yR m far C p]?=some p) (B:Nat):∀ q,q<=m+far->Ah t B q=cm m far C B q
 | 0,_=>by unfold Ah cm;simp
 | q+1,h=>by
  have ih:=Jo hn ht B q (by omega)
  unfold Ah at ih ⊢
  rw [uT,ih,Al hn (ht q (by omega))]
  rfl
theorem Te {m far:Nat} {e C:Nat->Nat->Bool} (h:Rule m far e C) {t:List Nat} (hn:t.Nodup) (ht:∀ p,p < m+far->t[yR m far C p]?=some p) {b c d:Nat} (hb:b<=m) (hc:c<=d) (hd:d<=far) (hw:b=m\/d=far):rk t m 0 b c d=tb e c b (d - c):=by
 unfold rk
 have h1:=qw h c b hb (d - c) (by omega)
 rw [show c+(d - c)=d by omega] at h1
 rw [Nat.sub_zero,Jo hn ht _ _ (by omega)]
 have h2:cm m far C (m+c) (m - b+d)=cn m C b (m+c) d:=by
  rcases hw with rfl | rfl
  ·rw [Nat.sub_self,Nat.zero_add];exact wR d hd
  ·rw [show m - b+d=d+(m - b) by omega,Cj (m - b) (by omega) (by omega),show m - (m - b)=b by omega]
 rw [h2]
 omega
theorem kz4d:bR ie "Asks":=by trivial
theorem kz4e:bR ie "len":=by trivial
theorem Xf:aP ie "side":=by trivial
theorem kz4g:bR ie "Board":=by trivial
theorem kz4h:aP ie "top":=by trivial
def AkB (mg:Str->Option Value) (H:Hp) (x:Addr) (z y:Str):Prop:=∃ t,Ak mg H x t (mS z) (mS y)/\Prm t/\t.length=mS z+mS y/\∀ p,p < mS z+mS y->t[yR (mS z) (mS y) (CB z y) p]?=some p
theorem AkB.same {H H':Hp} {x:Addr} {z y:Str} (h:AkB mg H x z y) (s:Same H H'):AkB mg H' x z y:=by
 obtain ⟨t,h1,h2⟩:=h
 exact ⟨t,h1.same s,h2⟩
def AkBD (mg:Str->Option Value) (D:Addr->Prop) (H:Hp) (x:Addr) (z y:Str):Prop:=∃ t,AkD mg D H x t (mS z) (mS y)/\Prm t/\t.length=mS z+mS y/\∀ p,p < mS z+mS y->t[yR (mS z) (mS y) (CB z y) p]?=some p
theorem AkBD.put {H:Hp} {D:Addr->Prop} {g x:Addr} {z y:Str} {o:HO} (h:AkBD mg D H x z y) (hg:D g):AkBD mg D (upd H g o) x z y:=by
 obtain ⟨t,a,b⟩:=h
 exact ⟨t,a.put hg,b⟩
theorem AkBD.ak {H:Hp} {D:Addr->Prop} {x:Addr} {z y:Str} (h:AkBD mg D H x z y):AkB mg H x z y:=by
 obtain ⟨t,a,b⟩:=h
 exact ⟨t,a.ak,b⟩
def Jp (mg:Str->Option Value):Sp:=fun vs H Q _=>∃ (z y:Str),vs=[.str z,.str y]/\uA z/\uA y/\∀ x H',Same H H'->AkBD mg (fun g=>∃ o,H g=some o) H' x z y->Q (.ref x) H'
theorem Am:aD ["side","top"] ["side","top"] (az ie):=⟨rfl,rfl,rfl,by trivial,rfl,by trivial,by trivial⟩
theorem rB (T:Txt K mg):my P w K mg base 10 "asks_of" ["side","top"] (Jp mg):=by
 have ji:=ji (P:=P) (w:=w) (base:=base) T
 have kY:=kY (P:=P) (w:=w) (base:=base) T
 have iQ:=iQ (P:=P) (w:=w) (base:=base) T
 refine gB T.d_asks_of Am (fun _ _ _ _ _ _ us hl=>L2.qI (fun _ _=>rfl) us hl) ?_ fun f cdv A outer s H vs Q E hr h=>?_
 ·rintro vs H Q E ⟨z,y,rfl,_⟩;rfl
 obtain ⟨z,y,rfl,rz,ry,q⟩:=h
 have hu:=hr.units0
 have hu64:=hr.units
 refine ⟨_,(aA (aL (nu T.o_Asks ji (hr.mono (by decide)) (bf kz4d) (jz fun _ _=>rfl) (aa (iu (nu T.o_Board iQ (hr.mono (by decide)) (bf kz4g) (jz fun _ _=>rfl) (aa (aq 0 Xf) (aa (aq 1 kz4h) ao)) (by trivial)) T.o_Board kY (hr.mono (by decide)) (jz fun _ _=>rfl)) (aa (aF (aG (K:=K) rfl) (bf kz4e) T.b_len bz (aa (aq 0 Xf) ao) (by trivial) (by trivial)) ao)) (by trivial)))),?_⟩
 walk_at "s"
 have hsz:20000<=sizeLine:=by decide
 have hzl:=rz.1
 have hyl:=ry.1
 have ez:z.length=mS z:=rfl
 have ey:y.length=mS y:=rfl
 have lz:z.length<=sizeLine:=by omega
 rintro b0 db0 nx nd _
 refine ⟨b0,db0,z,y,rfl,aj,rz,ry,fun H1 C B0=>⟨rfl,?_⟩⟩
 have S1:=made nx nd C
 obtain ⟨_,_,e0,_,_,_,_,hb0,hO⟩:=id B0
 clear C nx nd hO
 walk_at "s"
 refine ⟨b0,e0,_,rfl,hb0,bdM (by trivial),?_⟩
 walk_at "s"
 refine ⟨b0,z,y,rfl,B0,fun pl R H2 _ S2 hE hpl=>?_⟩
 walk_at "s"
 obtain ⟨t,rfl,hP,hl,ht⟩:=Td hE (by omega)
 refine dM lz ?_
 walk_at "s"
 rintro x dx nx nd _
 refine ⟨x,dx,pl,t,mS z,mS y,rfl,aj,.inl (Jk nx nd hpl).1,hP,hl.symm,fun H3 C3 A3=>⟨rfl,?_⟩⟩
 walk_at "s"
 exact q x _ (S1.trans (S2.trans (made nx nd C3))) ⟨t,A3.sub (fun g hg=>by
  obtain ⟨o,hg⟩:=hg
  have hg2:=(S1.trans S2) _ _ hg
  exact ⟨gNe nx hg2,o,(Jk nx nd hg2).1⟩),hP,hl,ht⟩
theorem uU:(["sign"]:List Str).Nodup:=by trivial
theorem yH:(["letter"]:List Str).Nodup:=by trivial
theorem kz4i:bR dg "all":=by trivial
theorem Tf:aP dg "thing":=by trivial
theorem kz4k:bR dg "len":=by trivial
theorem kz4l:bR dg "MOST_LETTERS":=by trivial
theorem kz4m:bR dg "isinstance":=by trivial
theorem kz4n:bR dg "str":=by trivial
theorem kz4o:bR iy "is_plain":=by trivial
theorem kz4p:aP iy "thing":=by trivial
theorem Xg:aP lD "row":=by trivial
theorem kz4r:bR lD "need_plain":=by trivial
theorem Tg:aP bO "self":=by trivial
theorem Xh:aP bO "top":=by trivial
theorem Xi:aP bO "side":=by trivial
theorem kz4v:bR bO "asks_of":=by trivial
theorem Xj:bR bO "parted":=by trivial
def Pln (z:Str):Prop:=z.length<=24/\∀ c∈z.cps.toList,97<=c/\c < 123
theorem Nj:∀ k∈List.range 26,sy pH (97+k)=false/\sy LP (97+k)=false:=by trivial
theorem Pln.ok {z:Str} (h:Pln z) {c:Nat} (hc:c∈z.cps.toList):sy pH c=false/\sy LP c=false:=by
 have:=h.2 c hc
 have k:=Nj (c - 97) (List.mem_range.mpr (by omega))
 rw [show 97+(c - 97)=c by omega] at k
 exact k
def Th:Sp:=fun vs H Q _=>∃ z:Str,vs=[.str z]/\Pln z/\∀ H',Same H H'->Q (.bl true) H'
theorem yI:aD ["thing"] ["thing"] (az dg):=⟨rfl,rfl,rfl,by trivial,rfl,by trivial,by trivial⟩
theorem pJ (T:Txt K mg):my P w K mg base 1 "is_plain" ["thing"] Th:=by
 refine gB T.d_is_plain yI (fun _ _ _ _ _ _ us hl=>L2.mG (fun _=>rfl) us hl) ?_ fun f cdv A outer s H vs Q E hr h=>?_
 ·rintro vs H Q E ⟨z,rfl,_⟩;rfl
 obtain ⟨z,rfl,hp,q⟩:=h
 have hu:=hr.units0
 have hu64:=hr.units
 refine ⟨_,(au (dz (mL (oU (eQ (eU (aF (gY (K:=K) rfl) (bf kz4m) T.b_isinstance bW (aa (aq 0 Tf) (aa (uN (bf kz4n) T.b_str Ha (by trivial) (by trivial)) ao)) (by trivial) (by trivial)))) (lL (cQ rE (aF (aG (K:=K) rfl) (bf kz4k) T.b_len bz (aa (aq 0 Tf) ao) (by trivial) (by trivial)) (wg (bf kz4l) T.c_MOST_LETTERS (by trivial)) (by walk_at "p"))))) (aA (aL oJ)) cF) (aA (aL (aF (tW rfl) (bf kz4i) T.b_all zy (aa (kE (sub:=[none]) (d9 (N:=["thing"]) (sc:=az dg) (N':=["sign"]) (by trivial)) rfl rfl rfl (lM (K:=K) rfl (aq 0 Tf)) (fun C s₀ H₀ ex=>(t7 0 (by trivial) uU)) (fun C s₀ H₀ ex=>ir) (fun C s₀ H₀ ex=>(xP (Hz (K:=K) rfl hu64) (mC 0 (by trivial)) (o7 (O1 (by trivial)) T.c_LETTERS (by trivial)) (by walk_at "p")))) ao) (by trivial) (by trivial))))),?_⟩
 walk_at "s"
 have hl:=hp.1
 have hz1:z.length<=sizeLine:=Nat.le_trans hl (by decide)
 refine mz (.str z) rfl ?_
 walk_at "s"
 refine dM hz1 ?_
 walk_at "s"
 rw [decide_eq_false (show ¬ (24:Int) < (z.length:Int) by omega)]
 walk_at "s"
 refine .inr (.inr ⟨z,rfl,?_⟩)
 refine vH (fun i us G=>G=H/\us=((z.cps.toList.take i).map fun c=>!sy pH c).map V.bl) hz1 ⟨rfl,rfl⟩ ?_ ?_ ?_
 ·rintro i us G ⟨rfl,rfl⟩
  simp;omega
 ·rintro i us G c hc ⟨rfl,rfl⟩
  walk_at "s"
  refine ⟨KeepSt.set rfl,?_⟩
  walk_at "s"
  refine ⟨rfl,?_⟩
  rw [List.take_add_one,hc]
  simp [pH,sy]
 ·rintro us G D H' ⟨rfl,rfl⟩ nD S hD
  try walk_at "s"
  refine ⟨D,_,rfl,hD,?_⟩
  have e2:(List.map (fun c=>!sy pH c) (z.cps.toList.take z.cps.size)).all id=true:=by
   rw [List.all_map,List.all_eq_true]
   intro c hc
   have:=(hp.ok (List.mem_of_mem_take hc)).1
   simp [this]
  rw [e2]
  exact q _ S
def Ti:Sp:=fun vs H Q _=>∃ z:Str,vs=[.str z]/\Pln z/\∀ H',Same H H'->Q .non H'
theorem uV:aD ["thing"] ["thing"] (az iy):=⟨rfl,rfl,rfl,by trivial,rfl,by trivial,by trivial⟩
theorem lX (T:Txt K mg):my P w K mg base 3 "need_plain" ["thing"] Ti:=by
 have pJ:=pJ (P:=P) (w:=w) (base:=base) T
 refine gB T.d_need_plain uV (fun _ _ _ _ _ _ us hl=>L2.mG (fun _=>rfl) us hl) ?_ fun f cdv A outer s H vs Q E hr h=>?_
 ·rintro vs H Q E ⟨z,rfl,_⟩;rfl
 obtain ⟨z,rfl,hp,q⟩:=h
 have hu:=hr.units0
 have hu64:=hr.units
 refine ⟨_,(aA (dz (eQ (eU (aH pJ (hr.mono (by decide)) (bf kz4o) (aa (aq 0 kz4p) ao) (by trivial)))) (aA mO) cF)),?_⟩
 walk_at "s"
 refine ⟨z,rfl,hp,fun H' S=>?_⟩
 walk_at "s"
 exact q H' S
def rR (z:Str):Str:=⟨(z.cps.toList.flatMap fun c=>[46,c]).toArray⟩
theorem tD (z:Str):(rR z).cps.toList=z.cps.toList.flatMap fun c=>[46,c]:=by unfold rR;simp
theorem Tj (l:List Nat):(l.flatMap fun c=>[46,c]).length=2*l.length:=by
 induction l with
 | nil=>rfl
 | cons c l ih=>rw [List.flatMap_cons,List.length_append,ih];simp;omega
theorem Xk (l:List Nat) (k:Nat):(l.flatMap fun c=>[46,c]).getD (2*k) 0=(if k < l.length then 46 else 0)/\(l.flatMap fun c=>[46,c]).getD (2*k+1) 0=l.getD k 0:=by
 induction l generalizing k with
 | nil=>simp
 | cons c l ih=>
  cases k with
  | zero=>simp
  | succ k=>
   have:=ih k
   rw [List.flatMap_cons,show 2*(k+1)=2*k+1+1 by omega]
   simpa using this
theorem uG (z:Str):(rR z).cps.size=2*z.cps.size:=by
 rw [← Array.length_toList,tD,Tj,Array.length_toList]
theorem Ck {z:Str} (h:Pln z):uA (rR z):=by
 have hl:(rR z).length=2*z.cps.size:=uG z
 have h1:z.cps.size<=24:=h.1
 refine ⟨by omega,?_⟩
 show (decide (((rR z).length:Int)<=48) && (rR z).cps.toList.all fun c=>!sy LP c)=true
 rw [decide_eq_true (by omega),Bool.true_and,List.all_eq_true]
 intro c hc
 rw [tD] at hc
 obtain ⟨d,hd,hc⟩:=List.mem_flatMap.mp hc
 simp only [List.mem_cons,List.mem_nil_iff,or_false] at hc
 rcases hc with rfl | rfl
 ·decide+kernel
 ·rw [(h.ok hd).2];rfl
theorem Tp (a b:Str):(a ++ b).length=a.length+b.length:=by
 show (a.cps ++ b.cps).size=_
 simp [Str.length]
def Jq:Sp:=fun vs H Q _=>∃ z:Str,vs=[.str z]/\Pln z/\∀ H',Same H H'->Q (.str (rR z)) H'
theorem Jr:∀ (l:List Nat),(Txt.join (Str.ofString "") (l.map fun c=>Str.ofString "." ++ ⟨#[c]⟩)).cps.toList=l.flatMap fun c=>[46,c]:=by
 intro l
 rw [pX,List.map_map]
 induction l with
 | nil=>rfl
 | cons c l ih=>rw [List.map_cons,List.flatten_cons,ih];rfl
theorem Nk (l:List Nat):((l.map fun c=>Str.ofString "." ++ ⟨#[c]⟩).map (·.length)).sum=2*l.length:=by
 induction l with
 | nil=>rfl
 | cons c l ih=>
  have e:(Str.ofString "." ++ ⟨#[c]⟩:Str).length=2:=by rw [Tp,K1,show (Str.ofString ".").length=1 by trivial]
  rw [List.map_cons,List.map_cons,List.sum_cons,ih,e,List.length_cons];omega
theorem Ez:aD ["row"] ["row"] (az lD):=⟨rfl,rfl,rfl,by trivial,rfl,by trivial,by trivial⟩
theorem qx (T:Txt K mg):my P w K mg base 4 "parted" ["row"] Jq:=by
 have lX:=lX (P:=P) (w:=w) (base:=base) T
 refine gB T.d_parted Ez (fun _ _ _ _ _ _ us hl=>L2.mG (fun _=>rfl) us hl) ?_ fun f cdv A outer s H vs Q E hr h=>?_
 ·rintro vs H Q E ⟨z,rfl,_⟩;rfl
 obtain ⟨z,rfl,hp,q⟩:=h
 have hu:=hr.units0
 have hu64:=hr.units
 refine ⟨_,(au (bh (aH lX (hr.mono (by decide)) (bf kz4r) (aa (aq 0 Xg) ao) (by trivial))) (aA (aL (cR (K:=K) rfl PySem.F.plainAttrs_str PySem.F.slot_str_join PySem.F.type_str_join v8 Bq (aa (kE (sub:=[none]) (d9 (N:=["row"]) (sc:=az lD) (N':=["letter"]) (by trivial)) rfl rfl rfl (lM (K:=K) rfl (aq 0 Xg)) (fun C s₀ H₀ ex=>(t7 0 (by trivial) yH)) (fun C s₀ H₀ ex=>ir) (fun C s₀ H₀ ex=>(bG aU (o7 (O1 (by trivial)) T.c_POINT (by trivial)) (mC 0 (by trivial))))) ao))))),?_⟩
 walk_at "s"
 have hs:20000<=sizeLine:=by decide
 have hl:=hp.1
 have el:z.length=z.cps.size:=rfl
 refine ⟨z,rfl,hp,fun H1 S1=>?_⟩
 walk_at "s"
 refine ⟨rfl,?_⟩
 walk_at "s"
 refine .inr (.inr ⟨z,rfl,?_⟩)
 refine vH (fun i us G=>G=H1/\us=((z.cps.toList.take i).map fun c=>Str.ofString "." ++ ⟨#[c]⟩).map V.str) (by omega) ⟨rfl,rfl⟩ ?_ ?_ ?_
 ·rintro i us G ⟨rfl,rfl⟩
  simp;omega
 ·rintro i us G c hc ⟨rfl,rfl⟩
  walk_at "s"
  refine ⟨KeepSt.set rfl,?_⟩
  walk_at "s"
  refine Hb (by rw [K1,show (Str.ofString ".").length=1 by trivial];omega) ?_
  walk_at "s"
  refine ⟨rfl,?_⟩
  rw [List.take_add_one,hc,List.map_append,List.map_append]
  rfl
 ·rintro us G D H' ⟨rfl,rfl⟩ nD S hD
  have et:z.cps.toList.take z.cps.size=z.cps.toList:=List.take_of_length_le (by simp)
  rw [et] at hD
  try walk_at "s"
  refine zE hD ?_ ?_
  walk_at "s"
  ·rw [Nk,show (Str.ofString "").length=0 by trivial,List.length_map,Array.length_toList];omega
  ·have:Txt.join (Str.ofString "") (z.cps.toList.map fun c=>Str.ofString "." ++ ⟨#[c]⟩)=rR z:=by
    have e:=Jr z.cps.toList
    rw [← tD] at e
    cases hj:Txt.join (Str.ofString "") (z.cps.toList.map fun c=>Str.ofString "." ++ ⟨#[c]⟩) with
    | mk a=>rw [hj] at e;cases hz:rR z with
     | mk b=>rw [hz] at e;congr;exact Array.ext' e
   rw [this]
   exact q _ (S1.trans S)
def csF (ak:Addr) (side top:Str):List (Str×V):=[("held_asks",.ref ak),("held_side",.str side),("held_top",.str top)]
theorem csM {ak:Addr} {side top:Str} {m:Str} (h:(["held_asks","held_side","held_top"]:List Str).contains m=false):(csF ak side top).lookup m=none:=by
 unfold csF
 simp only [List.contains_cons,List.contains_nil,Bool.or_false,Bool.or_eq_false_iff,beq_eq_false_iff_ne] at h
 obtain ⟨h1,h2,h3⟩:=h
 simp only [List.lookup,beq_eq_false_iff_ne.mpr h1,beq_eq_false_iff_ne.mpr h2,beq_eq_false_iff_ne.mpr h3]
def Cs (mg:Str->Option Value) (H:Hp) (x:Addr) (side top:Str):Prop:=Pln side/\Pln top/\∃ dx ak,H x=some (.ins (aN mg "Costs") dx (csF ak side top))/\AkB mg H ak (rR side) (rR top)
theorem Cs.same {H H':Hp} {x:Addr} {side top:Str} (h:Cs mg H x side top) (s:Same H H'):Cs mg H' x side top:=by
 obtain ⟨a,b,dx,ak,c,d⟩:=h
 exact ⟨a,b,dx,ak,s _ _ c,d.same s⟩
def Nm (mg:Str->Option Value):Sp:=fun vs H Q _=>∃ (x dx:Addr) (side top:Str),vs=[.ref x,.str side,.str top]/\H x=some (.ins (aN mg "Costs") dx [])/\Pln side/\Pln top/\∀ H',Chg x H H'->Cs mg H' x side top->Q .non H'
theorem qy:aD ["self","side","top"] ["self","side","top"] (az bO):=⟨rfl,rfl,rfl,by trivial,rfl,by trivial,by trivial⟩
theorem iT (T:Txt K mg):jR P w K mg base 11 "Costs" "__init__" ["self","side","top"] (Nm mg):=by
 have rB:=rB (P:=P) (w:=w) (base:=base) T
 have qx:=qx (P:=P) (w:=w) (base:=base) T
 refine mV T.m_Costs___init__ qy (fun _ _ _ _ _ _ us hl=>L2.oZ (fun _ _ _=>rfl) us hl) ?_ fun f cdv A outer s H vs Q E hr h=>?_
 ·rintro vs H Q E ⟨x,dx,side,top,rfl,_⟩;rfl
 obtain ⟨x,dx,side,top,rfl,hx,ps,pt,q⟩:=h
 have hu:=hr.units0
 have hu64:=hr.units
 refine ⟨_,(au (eZ (K:=K) rfl (aq 0 Tg) (aH rB (hr.mono (by decide)) (bf kz4v) (aa (aH qx (hr.mono (by decide)) (bf Xj) (aa (aq 1 Xi) ao) (by trivial)) (aa (aH qx (hr.mono (by decide)) (bf Xj) (aa (aq 2 Xh) ao) (by trivial)) ao)) (by trivial))) (au (eZ (K:=K) rfl (aq 0 Tg) (aq 1 Xi)) (aA (eZ (K:=K) rfl (aq 0 Tg) (aq 2 Xh))))),?_⟩
 walk_at "s"
 have cl:=T.o_Costs.cl
 have na:=T.n_Costs
 refine ⟨side,rfl,ps,fun H1 S1=>?_⟩
 walk_at "s"
 refine ⟨top,rfl,pt,fun H2 S2=>?_⟩
 walk_at "s"
 have U2:=S1.trans S2
 refine ⟨rR side,rR top,rfl,Ck ps,Ck pt,fun ak H3 S3 hA=>?_⟩
 walk_at "s"
 have U3:=U2.trans S3
 have dx3:(fun g=>∃ o,H2 g=some o) x:=⟨_,U2 _ _ hx⟩
 refine ⟨x,_,dx,_,rfl,U3 _ _ hx,cl,na _ (by simp),by simp,?_⟩
 walk_at "s"
 rw [bU (by show ([]:List Str).contains "held_asks"=false;trivial)]
 have hx4:=aj (H:=H3) (a:=x) (o:=.ins (aN mg "Costs") dx (([]:List (Str×V)) ++ ([("held_asks",.ref ak)]:List (Str×V))))
 have C4:Chg x H (upd H3 x (.ins (aN mg "Costs") dx (([]:List (Str×V)) ++ ([("held_asks",.ref ak)]:List (Str×V))))):=Chg.put (fun b o n e=>U3 _ _ e)
 have hA4:=hA.put (g:=x) (o:=.ins (aN mg "Costs") dx (([]:List (Str×V)) ++ ([("held_asks",.ref ak)]:List (Str×V)))) dx3
 generalize upd H3 x (.ins (aN mg "Costs") dx (([]:List (Str×V)) ++ ([("held_asks",.ref ak)]:List (Str×V))))=H4 at hx4 C4 hA4 ⊢
 walk_at "s"
 refine ⟨x,_,dx,_,rfl,hx4,cl,na _ (by simp),by simp,?_⟩
 walk_at "s"
 rw [bU (by show (["held_asks"]:List Str).contains "held_side"=false;trivial)]
 have hx5:=aj (H:=H4) (a:=x) (o:=.ins (aN mg "Costs") dx (([]:List (Str×V)) ++ ([("held_asks",.ref ak)]:List (Str×V)) ++ ([("held_side",.str side)]:List (Str×V))))
 have C5:Chg x H (upd H4 x (.ins (aN mg "Costs") dx (([]:List (Str×V)) ++ ([("held_asks",.ref ak)]:List (Str×V)) ++ ([("held_side",.str side)]:List (Str×V))))):=Chg.put C4
 have hA5:=hA4.put (g:=x) (o:=.ins (aN mg "Costs") dx (([]:List (Str×V)) ++ ([("held_asks",.ref ak)]:List (Str×V)) ++ ([("held_side",.str side)]:List (Str×V)))) dx3
 generalize upd H4 x (.ins (aN mg "Costs") dx (([]:List (Str×V)) ++ ([("held_asks",.ref ak)]:List (Str×V)) ++ ([("held_side",.str side)]:List (Str×V))))=H5 at hx5 C5 hA5 ⊢
 walk_at "s"
 refine ⟨x,_,dx,_,rfl,hx5,cl,na _ (by simp),by simp,?_⟩
 rw [bU (by show (["held_asks","held_side"]:List Str).contains "held_top"=false;trivial)]
 exact q _ (Chg.put C5) ⟨ps,pt,dx,ak,aj,(hA5.put dx3).ak⟩
theorem kz4x:bR bu "len":=by trivial
theorem Xl:aP bu "self":=by trivial
theorem Xm:aP bu "end":=by trivial
theorem Xn:aP bu "begin":=by trivial
theorem vP (e:Nat->Nat->Bool) (b:Nat):∀ n i k,i+k<=n->(tb e b i k<=tb e b i (k+1)/\tb e b i (k+1)<=tb e b i k+1)/\(tb e b i k<=tb e b (i+1) k/\tb e b (i+1) k<=tb e b i k+1)
 | 0,i,k,h=>by
  obtain rfl:i=0:=by omega
  obtain rfl:k=0:=by omega
  rw [Ex,Ex,Jl]
  omega
 | n+1,i,k,h=>by
  constructor
  ·cases i with
   | zero=>rw [Ex,Ex];omega
   | succ i=>
    obtain ⟨⟨a1,a2⟩,b1,b2⟩:=vP e b n i k (by omega)
    rw [Aj]
    split
    ·omega
    ·unfold Nh
     split <;> omega
  ·cases k with
   | zero=>rw [Jl,Jl];omega
   | succ k=>
    obtain ⟨⟨a1,a2⟩,b1,b2⟩:=vP e b n i k (by omega)
    rw [Aj]
    split
    ·omega
    ·unfold Nh
     split <;> omega
def dd (g:Nat->Nat->Bool) (b:Nat):Nat->Nat->Nat
 | 0,k=>k
 | i+1,0=>i+1
 | i+1,k+1=>min (min (dd g b i (k+1)+1) (dd g b (i+1) k+1)) (dd g b i k+if g i (b+k)=true then 0 else 1)
theorem Xo (g:Nat->Nat->Bool) (b k:Nat):dd g b 0 k=k:=by rw [dd]
theorem Tq (g:Nat->Nat->Bool) (b i:Nat):dd g b i 0=i:=by cases i <;> rw [dd]
theorem Xp (g:Nat->Nat->Bool) (b i k:Nat):dd g b (i+1) (k+1)=min (min (dd g b i (k+1)+1) (dd g b (i+1) k+1)) (dd g b i k+if g i (b+k)=true then 0 else 1):=by rw [dd]
theorem Xq {e g:Nat->Nat->Bool} {b m n:Nat} (h0:∀ i j,i < m->j < n->e (2*i) (2*j)=true) (h1:∀ i j,i < m->j < n->e (2*i+1) (2*j+1)=g i j) (h2:∀ i j,i < m->j < n->e (2*i) (2*j+1)=false) (h3:∀ i j,i < m->j < n->e (2*i+1) (2*j)=false):
  ∀ i,i<=m->∀ k,b+k<=n->(dd g b i k:Int)+tb e (2*b) (2*i) (2*k)=(i:Int)+k:=by
 intro i
 induction i with
 | zero=>intro _ k _;rw [Xo,show 2*0=0 by rfl,Ex];simp
 | succ i ih=>
  intro hi k
  induction k with
  | zero=>intro _;rw [Tq,show 2*0=0 by rfl,Jl];simp
  | succ k ihk=>
   intro hk
   have q1:=ih (by omega) k (by omega)
   have q2:=ih (by omega) (k+1) hk
   have q3:=ihk (by omega)
   have e0:e (2*i) (2*b+2*k)=true:=by rw [show 2*b+2*k=2*(b+k) by omega];exact h0 i (b+k) (by omega) (by omega)
   have e1:e (2*i+1) (2*b+(2*k+1))=g i (b+k):=by rw [show 2*b+(2*k+1)=2*(b+k)+1 by omega];exact h1 i (b+k) (by omega) (by omega)
   have e2:e (2*i) (2*b+(2*k+1))=false:=by rw [show 2*b+(2*k+1)=2*(b+k)+1 by omega];exact h2 i (b+k) (by omega) (by omega)
   have e3:e (2*i+1) (2*b+2*k)=false:=by rw [show 2*b+2*k=2*(b+k) by omega];exact h3 i (b+k) (by omega) (by omega)
   have t1:tb e (2*b) (2*i+1) (2*k+1)=tb e (2*b) (2*i) (2*k)+1:=by rw [Aj,e0,if_pos rfl]
   have t2:tb e (2*b) (2*i+1+1) (2*k+1)=Nh (tb e (2*b) (2*i+1+1) (2*k)) (tb e (2*b) (2*i+1) (2*k+1)):=by rw [Aj,e3,if_neg (by decide)]
   have t3:tb e (2*b) (2*i+1) (2*k+1+1)=Nh (tb e (2*b) (2*i+1) (2*k+1)) (tb e (2*b) (2*i) (2*k+1+1)):=by rw [Aj,e2,if_neg (by decide)]
   have t4:=Aj e (2*b) (2*i+1) (2*k+1)
   rw [e1] at t4
   have l1:=(vP e (2*b) _ (2*i) (2*k) (Nat.le_refl _)).1
   have l2:=(vP e (2*b) _ (2*i) (2*k+1) (Nat.le_refl _)).1
   have l3:=(vP e (2*b) _ (2*i) (2*k) (Nat.le_refl _)).2
   have l4:=(vP e (2*b) _ (2*i+1) (2*k) (Nat.le_refl _)).2
   rw [show 2*(i+1)=2*i+1+1 by omega] at q3 ⊢
   rw [show 2*(k+1)=2*k+1+1 by omega] at q2 ⊢
   rw [Xp]
   unfold Nh at t2 t3 t4
   cases hg:g i (b+k) with
   | true=>
    rw [hg,if_pos rfl] at t4
    rw [if_pos rfl]
    omega
   | false=>
    rw [hg,if_neg (by decide)] at t4
    rw [if_neg (by decide)]
    split at t2 <;> split at t3 <;> split at t4 <;> omega
def qz (side top:Str) (i j:Nat):Bool:=decide (side.cps.getD i 0=top.cps.getD j 0)
theorem m8 {z:Str} (k:Nat):(rR z).cps.getD (2*k) 0=(if k < z.cps.size then 46 else 0)/\(rR z).cps.getD (2*k+1) 0=z.cps.getD k 0:=by
 have h:=Xk z.cps.toList k
 rw [← tD] at h
 have g:∀ (y:Str) (i:Nat),y.cps.getD i 0=y.cps.toList.getD i 0:=fun y i=>by
  rw [List.getD_eq_getElem?_getD,Array.getElem?_toList,Array.getD_eq_getD_getElem?]
 rw [g,g,g,← Array.length_toList]
 exact h
theorem Js {z:Str} (h:Pln z) {k:Nat} (hk:k < z.cps.size):z.cps.getD k 0≠46:=by
 have:z.cps.getD k 0∈z.cps.toList:=by
  rw [show z.cps.getD k 0=z.cps[k] by simp [Array.getD,hk]]
  exact Array.mem_toList_iff.mpr (Array.getElem_mem hk)
 have:=h.2 _ this
 omega
theorem Np {side top:Str} (ps:Pln side) (pt:Pln top) {b k:Nat} (hk:b+k<=top.cps.size):(dd (qz side top) b side.cps.size k:Int)+tb (fun i j=>decide ((rR side).cps.getD i 0=(rR top).cps.getD j 0)) (2*b) (2*side.cps.size) (2*k)=(side.cps.size:Int)+k:=by
 refine Xq (m:=side.cps.size) (n:=top.cps.size) ?_ ?_ ?_ ?_ _ (Nat.le_refl _) _ hk
 ·intro i j hi hj
  rw [(m8 i).1,(m8 j).1,if_pos hi,if_pos hj];rfl
 ·intro i j hi hj
  rw [(m8 i).2,(m8 j).2];rfl
 ·intro i j hi hj
  rw [(m8 i).1,(m8 j).2,if_pos hi]
  exact decide_eq_false fun z=>Js pt hj z.symm
 ·intro i j hi hj
  rw [(m8 i).2,(m8 j).1,if_pos hj]
  exact decide_eq_false fun z=>Js ps hi z
def Nq (mg:Str->Option Value):Sp:=fun vs H Q _=>∃ (x:Addr) (side top:Str) (b k:Nat),vs=[.ref x,.int b,.int ((b+k:Nat):Int)]/\Cs mg H x side top/\b+k<=top.cps.size/\Q (.int (dd (qz side top) b side.cps.size k:Nat)) H
theorem lY:aD ["self","begin","end"] ["self","begin","end"] (az bu):=⟨rfl,rfl,rfl,by trivial,rfl,by trivial,by trivial⟩
theorem dZ (T:Txt K mg):jR P w K mg base 8 "Costs" "reckoned_cost" ["self","begin","end"] (Nq mg):=by
 have jV:=jV (P:=P) (w:=w) (base:=base) T
 refine mV T.m_Costs_reckoned_cost lY (fun _ _ _ _ _ _ us hl=>L2.oZ (fun _ _ _=>rfl) us hl) ?_ fun f cdv A outer s H vs Q E hr h=>?_
 ·rintro vs H Q E ⟨x,side,top,b,k,rfl,_⟩;rfl
 obtain ⟨x,side,top,b,k,rfl,⟨ps,pt,dx,ak,hx,hA⟩,hk,q⟩:=h
 have hu:=hr.units0
 have hu64:=hr.units
 refine ⟨_,(aA (aL (bG jh (bG jh (bG aU (aF (aG (K:=K) rfl) (bf kz4x) T.b_len bz (aa (jg (K:=K) rfl (aq 0 Xl)) ao) (by trivial) (by trivial)) (aq 2 Xm)) (aq 1 Xn)) (qe (jg (K:=K) rfl (aq 0 Xl)) T.o_Asks jV (hr.mono (by decide)) mQ (aa (bG iW aC (aq 1 Xn)) (aa (bG iW aC (aq 2 Xm)) ao)))))),?_⟩
 walk_at "s"
 have hs:20000<=sizeLine:=by decide
 have cl:=T.o_Costs.cl
 have na:=T.n_Costs
 have l1:=ps.1
 obtain ⟨t,hT,hP,hl,ht⟩:=hA
 obtain ⟨_,dk,ty,hxk,_⟩:=id hT
 refine ⟨x,_,dx,_,_,rfl,hx,cl,na _ (by simp),rfl,?_⟩
 walk_at "s"
 refine dM (by omega) ?_
 walk_at "s"
 refine ⟨x,_,dx,_,_,rfl,hx,cl,na _ (by simp),rfl,?_⟩
 walk_at "s"
 refine ⟨ak,dk,_,rfl,hxk,akM (by trivial),?_⟩
 walk_at "s"
 have e2:mS (rR top)=2*top.cps.size:=uG top
 have e1:mS (rR side)=2*side.cps.size:=uG side
 refine ⟨ak,t,mS (rR side),mS (rR top),2*b,2*(b+k),by rw [show (2:Int)*(b:Int)=((2*b:Nat):Int) by omega,show (2:Int)*((b+k:Nat):Int)=((2*(b+k):Nat):Int) by omega],hT,by omega,by omega,?_⟩
 walk_at "s"
 have hn:t.Nodup:=hP.nd
 rw [Te (Ni (rR side) (rR top)) hn ht (Nat.le_refl _) (by omega) (by omega) (.inl rfl),e1,show 2*(b+k) - 2*b=2*k by omega]
 have:=Np ps pt hk
 have es:(side.length:Int)=(side.cps.size:Int):=rfl
 rw [es,show (side.cps.size:Int)+((b+k:Nat):Int) - (b:Int) - tb (fun i j=>decide ((rR side).cps.getD i 0=(rR top).cps.getD j 0)) (2*b) (2*side.cps.size) (2*k)=((dd (qz side top) b side.cps.size k:Nat):Int) by omega]
 exact q
abbrev P3:=Nat×(Nat×Nat)
def v3 (p:P3):List V:=[.int (p.1:Int),.int (p.2.1:Int),.int (p.2.2:Int)]
def A3 (H:Hp) (v:V) (p:P3):Prop:=∃ a,v= .ref a/\H a=some (.tup (v3 p))
theorem A3.same {H H':Hp} {v:V} {p:P3} (h:A3 H v p) (s:Same H H'):A3 H' v p:=by
 obtain ⟨a,e,ha⟩:=h
 exact ⟨a,e,s _ _ ha⟩
def R3 (H:Hp) (vs:List V) (L:List P3):Prop:=vs.length=L.length/\∀ (i:Nat) (v:V) (p:P3),vs[i]?=some v->L[i]?=some p->A3 H v p
theorem R3.same {H H':Hp} {vs:List V} {L:List P3} (h:R3 H vs L) (s:Same H H'):R3 H' vs L:=⟨h.1,fun i v p e1 e2=>(h.2 i v p e1 e2).same s⟩
theorem R3.nil {H:Hp}:R3 H [] []:=⟨rfl,fun i v p e=>by simp at e⟩
theorem R3.push {H:Hp} {vs:List V} {L:List P3} {v:V} {p:P3} (h:R3 H vs L) (a:A3 H v p):R3 H (vs ++ [v]) (L ++ [p]):=by
 refine ⟨by simp [h.1],fun i u r e1 e2=>?_⟩
 by_cases hi:i < vs.length
 ·rw [List.getElem?_append_left hi] at e1
  rw [List.getElem?_append_left (by rw [← h.1];exact hi)] at e2
  exact h.2 i u r e1 e2
 ·rw [List.getElem?_append_right (by omega)] at e1
  rw [List.getElem?_append_right (by rw [← h.1];omega),← h.1] at e2
  have hz:i - vs.length=0:=by
   have:=(List.getElem?_eq_some_iff.mp e1).1
   simp at this;omega
  rw [hz] at e1 e2
  cases e1;cases e2
  exact a
theorem R3.at {H:Hp} {vs:List V} {L:List P3} (h:R3 H vs L) {i:Nat} {v:V} (e:vs[i]?=some v):∃ p,L[i]?=some p/\A3 H v p:=by
 have hi:=(List.getElem?_eq_some_iff.mp e).1
 have hj:i < L.length:=by rw [← h.1];exact hi
 exact ⟨L[i],List.getElem?_eq_getElem hj,h.2 i v _ e (List.getElem?_eq_getElem hj)⟩
def i3 (p:P3):List Int:=[(p.1:Int),(p.2.1:Int),(p.2.2:Int)]
def AT (H:Hp) (v:V) (t:List Int):Prop:=∃ a,v= .ref a/\H a=some (.tup (t.map V.int))
theorem AT.same {H H':Hp} {v:V} {t:List Int} (h:AT H v t) (s:Same H H'):AT H' v t:=by
 obtain ⟨a,e,ha⟩:=h
 exact ⟨a,e,s _ _ ha⟩
def RT (H:Hp) (vs:List V) (ts:List (List Int)):Prop:=vs.length=ts.length/\∀ (i:Nat) (v:V) (t:List Int),vs[i]?=some v->ts[i]?=some t->AT H v t
theorem RT.same {H H':Hp} {vs:List V} {L:List (List Int)} (h:RT H vs L) (s:Same H H'):RT H' vs L:=⟨h.1,fun i v p e1 e2=>(h.2 i v p e1 e2).same s⟩
theorem RT.nil {H:Hp}:RT H [] []:=⟨rfl,fun i v p e=>by simp at e⟩
theorem RT.push {H:Hp} {vs:List V} {L:List (List Int)} {v:V} {p:List Int} (h:RT H vs L) (a:AT H v p):RT H (vs ++ [v]) (L ++ [p]):=by
 refine ⟨by simp [h.1],fun i u r e1 e2=>?_⟩
 by_cases hi:i < vs.length
 ·rw [List.getElem?_append_left hi] at e1
  rw [List.getElem?_append_left (by rw [← h.1];exact hi)] at e2
  exact h.2 i u r e1 e2
 ·rw [List.getElem?_append_right (by omega)] at e1
  rw [List.getElem?_append_right (by rw [← h.1];omega),← h.1] at e2
  have hz:i - vs.length=0:=by
   have:=(List.getElem?_eq_some_iff.mp e1).1
   simp at this;omega
  rw [hz] at e1 e2
  cases e1;cases e2
  exact a
theorem RT.at {H:Hp} {vs:List V} {L:List (List Int)} (h:RT H vs L) {i:Nat} {v:V} (e:vs[i]?=some v):∃ p,L[i]?=some p/\AT H v p:=by
 have hi:=(List.getElem?_eq_some_iff.mp e).1
 have hj:i < L.length:=by rw [← h.1];exact hi
 exact ⟨L[i],List.getElem?_eq_getElem hj,h.2 i v _ e (List.getElem?_eq_getElem hj)⟩
theorem R3.rt {H:Hp} {vs:List V} {L:List P3} (h:R3 H vs L):RT H vs (L.map i3):=by
 refine ⟨by simp [h.1],fun i v t e1 e2=>?_⟩
 rw [List.getElem?_map] at e2
 cases e:L[i]? with
 | none=>rw [e] at e2;cases e2
 | some p=>
  rw [e] at e2;cases e2
  exact h.2 i v p e1 e
def Xr (ts:List (List Int)):PyData:=.list (ts.map fun t=>.tuple (t.map PyData.int))
theorem Cm {H:Hp}:∀ (ds:List PyData) (vs:List V),ds.length=vs.length->(∀ (k:Nat) (d:PyData) (v:V),ds[k]?=some d->vs[k]?=some v->DR H d v)->DRs H ds vs
 | [],[],_,_=>Bw.mpr rfl
 | [],_ :: _,h,_=>by simp at h
 | _ :: _,[],h,_=>by simp at h
 | d :: ds,v :: vs,h,g=>xQ.mpr ⟨v,vs,rfl,g 0 d v rfl rfl,Cm ds vs (by simpa using h) fun k d' v' e1 e2=>g (k+1) d' v' e1 e2⟩
theorem AT.dr {H:Hp} {v:V} {t:List Int} (h:AT H v t):DR H (.tuple (t.map PyData.int)) v:=by
 obtain ⟨a,rfl,ha⟩:=h
 exact Hh.mpr ⟨a,_,rfl,ha,xR _⟩
theorem RT.dr {H:Hp} {vs:List V} {ts:List (List Int)} {q:Addr} (h:RT H vs ts) (hq:H q=some (.lst vs)):DR H (Xr ts) (.ref q):=by
 refine K6.mpr ⟨q,vs,rfl,hq,Cm _ _ (by rw [List.length_map,h.1]) fun k d v e1 e2=>?_⟩
 obtain ⟨t,ht,hv⟩:=h.at e2
 rw [List.getElem?_map,ht] at e1
 cases e1
 exact hv.dr
theorem Tr (ts:List (List Int)):(Xr ts).canLay0=true/\(Xr ts).depth<=2:=by
 refine Hw (n:=1) fun d hd=>?_
 obtain ⟨t,_,rfl⟩:=List.mem_map.mp hd
 refine Dy (n:=0) fun e he=>?_
 obtain ⟨i,_,rfl⟩:=List.mem_map.mp he
 exact Lk i
theorem Tt {p q:P3} (h:i3 p=i3 q):p=q:=by
 unfold i3 at h
 simp only [List.cons.injEq,and_true] at h
 exact Prod.ext (by omega) (Prod.ext (by omega) (by omega))
def YL (p q:P3):Prop:=HT.lexLt (i3 q) (i3 p)=false
theorem Xu {L M:List P3} (h1:L.Pairwise YL) (h2:M.Pairwise YL) (h:L.Perm M):L=M:=
 List.Perm.eq_of_pairwise (fun a b _ _ x y=>Tt (ug (show HT.lexLt (i3 a) (i3 b)=false from y) x)) h1 h2 h
def JM (H:Hp) (a:Addr):List Int:=match H a with
 | some (.tup xs)=>xs.map fun v=>match v with | .int n=>n | _=>0
 | _=>[]
theorem An {H:Hp} {a:Addr} {t:List Int} (h:H a=some (.tup (t.map V.int))):JM H a=t:=by
 unfold JM
 rw [h]
 dsimp only
 rw [List.map_map]
 conv=>rhs;rw [← List.map_id t]
 rfl
def c3 (t:List Int):P3:=((t.getD 0 0).toNat,(t.getD 1 0).toNat,(t.getD 2 0).toNat)
theorem Cp (p:P3):c3 (i3 p)=p:=Prod.ext (by simp [c3,i3]) (Prod.ext (by simp [c3,i3]) (by simp [c3,i3]))
def YM:V->Addr
 | .ref a=>a
 | _=>0
theorem Cq {H:Hp} {Q:VK} {p:Addr} {us:List V} {W:List P3} (hp:H p=some (.lst us)) (hW:R3 H us W) (hl:W.length<=1000)
  (h:∀ (q:Addr) (ys:List V) (H':Hp) (L:List P3),H q=none->Same H H'->H' q=some (.lst ys)->R3 H' ys L->L.Perm W->L.Pairwise YL->Q (.ref q) H'):zY [.ref p] H Q:=by
 have hul:=hW.1
 have hus:us=(us.map YM).map V.ref:=by
  rw [List.map_map]
  conv=>lhs;rw [← List.map_id us]
  refine List.map_congr_left fun v hv=>?_
  obtain ⟨i,hi,e⟩:=List.mem_iff_getElem.mp hv
  obtain ⟨p,_,a,rfl,_⟩:=hW.at (i:=i) (v:=v) (by rw [List.getElem?_eq_getElem hi,e])
  rfl
 have hc:∀ a∈us.map YM,∃ p,H a=some (.tup (v3 p)):=fun a ha=>by
  obtain ⟨v,hv,rfl⟩:=List.mem_map.mp ha
  obtain ⟨i,hi,e⟩:=List.mem_iff_getElem.mp hv
  obtain ⟨p,_,a,rfl,hh⟩:=hW.at (i:=i) (v:=v) (by rw [List.getElem?_eq_getElem hi,e])
  exact ⟨p,hh⟩
 have hWm:(us.map YM).map (fun a=>c3 (JM H a))=W:=by
  refine List.ext_getElem? fun i=>?_
  rw [List.map_map,List.getElem?_map]
  cases e:us[i]? with
  | none=>
   rw [List.getElem?_eq_none_iff] at e
   rw [List.getElem?_eq_none (by omega)];rfl
  | some v=>
   obtain ⟨p,hp,a,rfl,hh⟩:=hW.at e
   rw [hp]
   show some (c3 (JM H a))=_
   rw [An (t:=i3 p) hh,Cp]
 refine Im (as:=us.map YM) (JM H) (by rw [← hus];exact hp) (by rw [List.length_map];omega) (fun a ha=>?_) fun q bs H' nq S hq pe pw=>?_
 ·obtain ⟨p,hh⟩:=hc a ha
  rw [An (t:=i3 p) hh]
  exact ⟨hh,by simp [i3]⟩
 ·have hbs:∀ a∈bs,∃ p,H a=some (.tup (v3 p))/\JM H a=i3 p:=fun a ha=>by
   obtain ⟨p,hh⟩:=hc a (pe.mem_iff.mp ha)
   exact ⟨p,hh,An (t:=i3 p) hh⟩
  refine h q (bs.map V.ref) H' (bs.map fun a=>c3 (JM H a)) nq S hq ⟨by simp,fun i v r e1 e2=>?_⟩ ?_ ?_
  ·rw [List.getElem?_map] at e1 e2
   cases e:bs[i]? with
   | none=>rw [e] at e1;cases e1
   | some a=>
    rw [e] at e1 e2
    cases e1;cases e2
    obtain ⟨p,hh,ec⟩:=hbs a (List.mem_of_getElem? e)
    exact ⟨a,rfl,S _ _ (by show H a=some (.tup (v3 (c3 (JM H a))));rw [ec,Cp];exact hh)⟩
  ·rw [← hWm];exact pe.map _
  ·rw [List.pairwise_map]
   refine pw.imp_of_mem fun {a b} ha hb hab=>?_
   obtain ⟨p,_,ep⟩:=hbs a ha
   obtain ⟨r,_,er⟩:=hbs b hb
   show HT.lexLt (i3 (c3 (JM H b))) (i3 (c3 (JM H a)))=false
   rw [ep,er,Cp,Cp,← ep,← er]
   exact hab
theorem R3.put {H:Hp} {vs:List V} {L:List P3} {g:Addr} {o:HO} (h:R3 H vs L) (hg:∀ xs,H g≠some (.tup xs)):R3 (upd H g o) vs L:=⟨h.1,fun i v p e1 e2=>by
 obtain ⟨a,rfl,ha⟩:=h.2 i v p e1 e2
 exact ⟨a,rfl,by rw [aB (fun z=>hg _ (by rw [← z];exact ha))];exact ha⟩⟩
theorem Jt {H:Hp} {g:Addr} {xs:List V} (h:H g=some (.lst xs)):∀ ys,H g≠some (.tup ys):=fun ys z=>by rw [h] at z;cases z
theorem qC:(["end","self","begin"]:List Str).Nodup:=by trivial
theorem pK:(["begin","self"]:List Str).Nodup:=by trivial
theorem kz51:bR cj "range":=by trivial
theorem kz52:bR cj "len":=by trivial
theorem kz53:Ly cj "self":=by trivial
theorem kz54:Ly cj "begin":=by trivial
theorem kz55:bR cB "range":=by trivial
theorem kz56:bR cB "len":=by trivial
theorem kz57:Ly cB "self":=by trivial
theorem kz58:bR fH "sorted":=by trivial
theorem Tu:aP fH "found":=by trivial
theorem Xv:bR fH "enumerate":=by trivial
theorem Xw:aP fH "costs":=by trivial
theorem Xx:aP fH "row":=by trivial
theorem Tv:aP fH "begin":=by trivial
theorem Tw:aP fH "cost":=by trivial
theorem Tz:aP fH "many":=by trivial
theorem Xy:aP fH "most":=by trivial
theorem kz5h:bR fH "need_place":=by trivial
theorem kz5i:bR fH "MOST_COST":=by trivial
theorem kz5j:bR fH "Costs":=by trivial
theorem kz5k:aP fH "top":=by trivial
theorem kz5l:aP fH "side":=by trivial
def m9 (side top:Str) (b:Nat):List Int:=(List.range (top.cps.size - b+1)).map fun k=>((dd (qz side top) b side.cps.size k:Nat):Int)
theorem qD (side top:Str) (b:Nat):(m9 side top b).length=top.cps.size - b+1:=by unfold m9;simp
theorem Cr {side top:Str} {b k:Nat} (h:k < top.cps.size - b+1):(m9 side top b)[k]?=some ((dd (qz side top) b side.cps.size k:Nat):Int):=by
 unfold m9;rw [List.getElem?_map,List.getElem?_range h];rfl
def TF (mg:Str->Option Value):Sp:=fun vs H Q _=>∃ (x:Addr) (side top:Str) (b:Nat),vs=[.ref x,.int b]/\Cs mg H x side top/\b<=top.cps.size/\∀ q H',H q=none->Same H H'->H' q=some (.lst ((m9 side top b).map V.int))->Q (.ref q) H'
theorem sI:aD ["self","begin"] ["self","begin"] (az cj):=⟨rfl,rfl,rfl,by trivial,rfl,by trivial,by trivial⟩
theorem jW (T:Txt K mg):jR P w K mg base 9 "Costs" "row_of" ["self","begin"] (TF mg):=by
 have dZ:=dZ (P:=P) (w:=w) (base:=base) T
 refine mV T.m_Costs_row_of sI (fun _ _ _ _ _ _ us hl=>L2.qI (fun _ _=>rfl) us hl) ?_ fun f cdv A outer s H vs Q E hr h=>?_
 ·rintro vs H Q E ⟨x,side,top,b,rfl,_⟩;rfl
 obtain ⟨x,side,top,b,rfl,hC,hb,q⟩:=h
 have hu:=hr.units0
 have hu64:=hr.units
 refine ⟨_,(aA (aL (kE (sub:=[none,some 0,some 1]) (d9 (N:=["self","begin"]) (sc:=az cj) (N':=["end","self","begin"]) (by trivial)) rfl rfl rfl (vD (bf kz51) T.b_range (aa (K3 1 kz54) (aa (bG aU (aF (aG (K:=K) rfl) (bf kz52) T.b_len bz (aa (jg (K:=K) rfl (K3 0 kz53)) ao) (by trivial) (by trivial)) aC) ao))) (fun C s₀ H₀ ex=>(t7 0 (by trivial) qC)) (fun C s₀ H₀ ex=>ir) (fun C s₀ H₀ ex=>(yc (mg:=mg) rfl (oR 1 (by trivial)) T.o_Costs dZ (hr.mono (by decide)) (jz fun _ _=>rfl) (aa (oR 2 (by trivial)) (aa (mC 0 (by trivial)) ao))))))),?_⟩
 walk_at "s"
 have hs:20000<=sizeLine:=by decide
 have cl:=T.o_Costs.cl
 have na:=T.n_Costs
 obtain ⟨ps,pt,dx,ak,hx,_⟩:=id hC
 have l2:=pt.1
 have e2:top.length=top.cps.size:=rfl
 refine ⟨x,_,dx,_,_,rfl,hx,cl,na _ (by simp),rfl,?_⟩
 walk_at "s"
 refine dM (by omega) ?_
 walk_at "s"
 rw [show ((top.length:Int)+1 - (b:Int)).toNat=top.cps.size - b+1 by omega]
 refine ⟨by omega,?_⟩
 refine qR (fun k=>V.int ((dd (qz side top) b side.cps.size k:Nat):Int)) (by omega) (fun i hi=>?_) fun D H' nD S hD=>?_
 ·walk_at "s"
  refine ⟨KeepSt.set rfl,?_⟩
  walk_at "s"
  refine ⟨x,dx,_,rfl,hx,csM (by trivial),?_⟩
  walk_at "s"
  rw [show (b:Int)+(i:Int)=((b+i:Nat):Int) by omega]
  refine ⟨x,side,top,b,i,rfl,hC,by omega,?_⟩
  walk_at "s"
  exact ⟨rfl,nF rfl⟩
 ·try walk_at "s"
  refine q D H' nD S ?_
  rw [hD]
  unfold m9
  rw [List.map_map]
  rfl
def Nr (mg:Str->Option Value):Sp:=fun vs H Q _=>∃ (x:Addr) (side top:Str),vs=[.ref x]/\Cs mg H x side top/\∀ q rs H',H q=none->Same H H'->H' q=some (.lst rs)->CT H' rs (top.cps.size+1) (m9 side top)->Q (.ref q) H'
theorem rC:aD ["self"] ["self"] (az cB):=⟨rfl,rfl,rfl,by trivial,rfl,by trivial,by trivial⟩
theorem jk (T:Txt K mg):jR P w K mg base 10 "Costs" "rows_of" ["self"] (Nr mg):=by
 have jW:=jW (P:=P) (w:=w) (base:=base) T
 refine mV T.m_Costs_rows_of rC (fun _ _ _ _ _ _ us hl=>L2.mG (fun _=>rfl) us hl) ?_ fun f cdv A outer s H vs Q E hr h=>?_
 ·rintro vs H Q E ⟨x,side,top,rfl,_⟩;rfl
 obtain ⟨x,side,top,rfl,hC,q⟩:=h
 have hu:=hr.units0
 have hu64:=hr.units
 refine ⟨_,(aA (aL (kE (sub:=[none,some 0]) (d9 (N:=["self"]) (sc:=az cB) (N':=["begin","self"]) (by trivial)) rfl rfl rfl (fO (bf kz55) T.b_range (aa (bG aU (aF (aG (K:=K) rfl) (bf kz56) T.b_len bz (aa (jg (K:=K) rfl (K3 0 kz57)) ao) (by trivial) (by trivial)) aC) ao)) (fun C s₀ H₀ ex=>(t7 0 (by trivial) pK)) (fun C s₀ H₀ ex=>ir) (fun C s₀ H₀ ex=>(yc (mg:=mg) rfl (oR 1 (by trivial)) T.o_Costs jW (hr.mono (by decide)) (jz fun _ _=>rfl) (aa (mC 0 (by trivial)) ao)))))),?_⟩
 walk_at "s"
 have hs:20000<=sizeLine:=by decide
 have cl:=T.o_Costs.cl
 have na:=T.n_Costs
 obtain ⟨ps,pt,dx,ak,hx,_⟩:=id hC
 have l2:=pt.1
 have e2:top.length=top.cps.size:=rfl
 refine ⟨x,_,dx,_,_,rfl,hx,cl,na _ (by simp),rfl,?_⟩
 walk_at "s"
 refine dM (by omega) ?_
 walk_at "s"
 refine ⟨_,rfl,by omega,by omega,?_⟩
 rw [show ((top.length:Int)+1).toNat=top.cps.size+1 by omega]
 refine qQ (fun i zs G=>Same H G/\CT G zs i (m9 side top)) (by omega) ⟨Same.refl H,rfl,fun k hk=>absurd hk (Nat.not_lt_zero _)⟩ ?_ ?_ ?_
 ·rintro i zs G ⟨_,h⟩
  rw [h.1];exact Nat.le_refl _
 ·rintro i zs G hi ⟨s,h⟩
  walk_at "s"
  refine ⟨KeepSt.set rfl,?_⟩
  walk_at "s"
  refine ⟨x,dx,_,rfl,s _ _ hx,csM (by trivial),?_⟩
  walk_at "s"
  rw [show (0:Int)+(i:Int)=(i:Int) by omega]
  refine ⟨x,side,top,i,rfl,hC.same s,by omega,fun r G2 nr S2 hr2=>?_⟩
  walk_at "s"
  exact ⟨s.trans S2,(h.same S2).push hr2⟩
 ·rintro zs G D H' ⟨s,h⟩ nD S hD
  try walk_at "s"
  exact q D zs H' (Same.back s nD) (s.trans S) hD (h.same S)
def nr (side top:Str) (most b:Nat) (n:Nat):List P3:=(List.range n).flatMap fun k=>if dd (qz side top) b side.cps.size (k+1)<=most then [(dd (qz side top) b side.cps.size (k+1),b,b+(k+1))] else []
def Ju (side top:Str) (most:Nat) (n:Nat):List P3:=(List.range n).flatMap fun b=>nr side top most b (top.cps.size - b)
theorem qF (side top:Str) (most b n:Nat):nr side top most b (n+1)=nr side top most b n ++ (if dd (qz side top) b side.cps.size (n+1)<=most then [(dd (qz side top) b side.cps.size (n+1),b,b+(n+1))] else []):=by
 unfold nr;rw [List.range_succ,List.flatMap_append];simp
theorem uH (side top:Str) (most n:Nat):Ju side top most (n+1)=Ju side top most n ++ nr side top most n (top.cps.size - n):=by
 unfold Ju;rw [List.range_succ,List.flatMap_append];simp
theorem Ao (side top:Str) (most b n:Nat):(nr side top most b n).length<=n:=by
 induction n with
 | zero=>simp [nr]
 | succ n ih=>rw [qF,List.length_append];split <;> simp <;> omega
theorem Nt (side top:Str) (most n:Nat):(Ju side top most n).length<=n*top.cps.size:=by
 induction n with
 | zero=>simp [Ju]
 | succ n ih=>
  rw [uH,List.length_append,Nat.succ_mul]
  have:=Ao side top most n (top.cps.size - n)
  omega
theorem qG {side top:Str} {most n:Nat} (h:top.cps.size<=24) (hn:n<=25):(Ju side top most n).length<=600:=by
 have:=Nt side top most n
 have:n*top.cps.size<=25*24:=Nat.mul_le_mul hn h
 omega
def NrL (H:Hp) (q:Addr) (side top:Str) (most:Nat) (L:List P3):Prop:=∃ ys,H q=some (.lst ys)/\R3 H ys L/\L.Perm (Ju side top most (top.cps.size+1))/\L.Pairwise YL
theorem NrL.same {H H':Hp} {q:Addr} {side top:Str} {most:Nat} {L:List P3} (h:NrL H q side top most L) (s:Same H H'):NrL H' q side top most L:=by
 obtain ⟨ys,a,b,c⟩:=h
 exact ⟨ys,s _ _ a,b.same s,c⟩
def Hx (p:Addr) (H:Hp):Hp:=fun b=>if b=p then none else H b
theorem tE (p:Addr) (H:Hp):Same (Hx p H) H:=fun b o e=>by
 unfold Hx at e
 split at e
 ·cases e
 ·exact e
theorem uI {p b:Addr} {H:Hp} {o:HO} (h:H b=some o) (n:b≠p):Hx p H b=some o:=by unfold Hx;rw [if_neg n];exact h
theorem TJ {p:Addr} {H H':Hp} (c:Chg p H H'):Same (Hx p H) (Hx p H'):=fun b o e=>by
 unfold Hx at e ⊢
 split at e
 ·cases e
 ·rename_i h
  rw [if_neg h];exact c b o h e
theorem Xz {p:Addr} {H H':Hp} (c:Same H H'):Same (Hx p H) (Hx p H'):=TJ fun b o _ e=>c b o e
theorem TQ {p:Addr} {H:Hp} {o:HO}:Hx p (upd H p o)=Hx p H:=by
 funext b
 unfold Hx
 by_cases h:b=p
 ·rw [if_pos h,if_pos h]
 ·rw [if_neg h,if_neg h,aB h]
theorem Pr {p b:Addr} {H:Hp} {o:HO} (h:Hx p H b=some o):b≠p:=fun z=>by rw [z] at h;unfold Hx at h;rw [if_pos rfl] at h;cases h
def TV (mg:Str->Option Value):Sp:=fun vs H Q _=>∃ (side top:Str) (most:Nat),vs=[.str side,.str top,.int most]/\Pln side/\Pln top/\most<=48/\∀ q L H',H q=none->Same H H'->NrL H' q side top most L->Q (.ref q) H'
theorem lZ:aD ["side","top","most","costs","found","begin","row","many","cost"] ["side","top","most"] (az fH):=⟨rfl,rfl,rfl,by trivial,rfl,by trivial,by trivial⟩
theorem pL (T:Txt K mg):my P w K mg base 13 "near" ["side","top","most"] (TV mg):=by
 have iT:=iT (P:=P) (w:=w) (base:=base) T
 have bZ:=bZ (P:=P) (w:=w) (base:=base) T
 have jk:=jk (P:=P) (w:=w) (base:=base) T
 refine gB T.d_near lZ (fun _ _ _ _ _ _ us hl=>L2.oZ (fun _ _ _=>rfl) us hl) ?_ fun f cdv A outer s H vs Q E hr h=>?_
 ·rintro vs H Q E ⟨side,top,most,rfl,_⟩;rfl
 obtain ⟨side,top,most,rfl,ps,pt,hm,q⟩:=h
 have hu:=hr.units0
 have hu64:=hr.units
 refine ⟨_,(au (aK (i:=3) lZ.nd rfl (Or.inl Xw) (nu T.o_Costs iT (hr.mono (by decide)) (bf kz5j) (jz fun _ _=>rfl) (aa (aq 0 kz5l) (aa (aq 1 kz5k) ao)) (by trivial)) rfl) (au (bh (aH bZ (hr.mono (by decide)) (bf kz5h) (aa (aq 2 Xy) (aa aC (aa (wg (bf kz5i) T.c_MOST_COST (by trivial)) ao))) (by trivial))) (au (aK (i:=4) lZ.nd rfl (Or.inl Tu) (dH ao) rfl) (au (dB PassesOwn.never rfl (j5 (K:=K) rfl rfl (bf Xv) T.b_enumerate (aa (iu (aq 3 Xw) T.o_Costs jk (hr.mono (by decide)) (jz fun _ _=>rfl)) ao)) (km (K:=K) rfl rfl (aW (aO (i:=5) lZ.nd rfl (Or.inl Tv) rfl) (aW (aO (i:=6) lZ.nd rfl (Or.inl Xx) rfl) gU))) (aA (dB PassesOwn.never rfl (j5 (K:=K) rfl rfl (bf Xv) T.b_enumerate (aa (aq 6 Xx) ao)) (km (K:=K) rfl rfl (aW (aO (i:=7) lZ.nd rfl (Or.inl Tz) rfl) (aW (aO (i:=8) lZ.nd rfl (Or.inl Tw) rfl) gU))) (aA (dz (mL (Hd (cQ rE (aq 7 Tz) aC (by walk_at "p")) (Br (cQ Bb (aq 8 Tw) (aq 2 Xy) (by walk_at "p"))))) (aA (bh (cR (K:=K) rfl PySem.F.plainAttrs_list PySem.F.slot_list_append PySem.F.type_list_append bw (aq 4 Tu) (aa (mD (aa (aq 8 Tw) (aa (aq 5 Tv) (aa (bG aU (aq 5 Tv) (aq 7 Tz)) ao)))) ao)))) cF))))) (aA (aL (aF qm (bf kz58) T.b_sorted vA (aa (aq 4 Tu) ao) (by trivial) (by trivial)))))))),?_⟩
 walk_at "s"
 have hs:20000<=sizeLine:=by decide
 have l2:top.cps.size<=24:=pt.1
 rintro x dx nx nd _
 refine ⟨x,dx,side,top,rfl,aj,ps,pt,fun H1 C1 hC=>⟨rfl,?_⟩⟩
 have S1:=made nx nd C1
 clear C1 nx nd
 try walk_at "s"
 refine qp (by omega) (by omega) ?_
 walk_at "s"
 refine cG rfl fun f H2 nf S2 hf=>?_
 walk_at "s"
 have hC2:=hC.same S2
 obtain ⟨_,_,dx',ak,hx,_⟩:=id hC2
 refine ⟨x,dx',_,rfl,hx,csM (by trivial),?_⟩
 walk_at "s"
 refine ⟨x,side,top,rfl,hC2,fun t rs H3 nt S3 ht hT=>?_⟩
 walk_at "s"
 have hf3:=S3 _ _ hf
 have tf:t≠f:=fun z=>by rw [z,hf] at nt;cases nt
 have ht3:Hx f H3 t=some (.lst rs):=uI ht tf
 have hT3:CT (Hx f H3) rs (top.cps.size+1) (m9 side top):=⟨hT.1,fun k hk=>by
  obtain ⟨a,e,ha⟩:=hT.2 k hk
  refine ⟨a,e,uI ha fun z=>?_⟩
  rw [z,hf3] at ha
  have:=congrArg List.length (HO.lst.inj (Option.some.inj ha))
  rw [List.length_map,qD] at this
  simp at this⟩
 have U1:Same H1 (Hx f H3):=fun b o e=>uI ((S2.trans S3) _ _ e) (fun z=>by rw [z,nf] at e;cases e)
 have hrl:rs.length=top.cps.size+1:=hT.1
 clear S2 S3 hf ht hT hC2 hx nt
 refine .inr ⟨t,_,rfl,SqL.of (tE f H3 _ _ ht3),?_⟩
 refine jM (K:=K) (xs:=rs) (fun i U G=>Same (Hx f H3) G/\(∃ ys,G f=some (.lst ys)/\R3 G ys (Ju side top most i))/\∃ x5 x6 x7 x8,U=[some (.str side),some (.str top),some (.int most),some (.ref x),some (.ref f),x5,x6,x7,x8]) ⟨tE f H3,⟨[],hf3,R3.nil⟩,_,_,_,_,rfl⟩ (fun i U G _ h=>SqL.of (h.1 _ _ ht3)) ?_ ?_
 ·rintro i U G T' v hv ⟨sG,⟨ys,hfG,hR⟩,x5,x6,x7,x8,rfl⟩ nT
  have hi:i < top.cps.size+1:=by rw [← hrl];exact (List.getElem?_eq_some_iff.mp hv).1
  obtain ⟨a,ea,ha⟩:=hT3.2 i hi
  rw [ea] at hv
  cases hv
  have S4:=(Same.refl G).upd nT (o:=.tup [.int (i:Int),.ref a])
  have hT4:=aj (H:=G) (a:=T') (o:=.tup [.int (i:Int),.ref a])
  generalize upd G T' (.tup [.int (i:Int),.ref a])=G4 at S4 hT4 ⊢
  have s4:=sG.trans S4
  refine b7 (SqT.of hT4) rfl ?_
  walk_at "s"
  refine .inr ⟨a,_,rfl,SqL.of (s4 _ _ ha),?_⟩
  refine jM (K:=K) (xs:=(m9 side top i).map V.int) (fun j U J=>Same (Hx f H3) J/\(∃ ys,J f=some (.lst ys)/\R3 J ys (Ju side top most i ++ nr side top most i (j - 1)))/\∃ x7 x8,U=[some (.str side),some (.str top),some (.int most),some (.ref x),some (.ref f),some (.int (i:Int)),some (.ref a),x7,x8])
   ⟨s4,⟨ys,S4 _ _ hfG,by rw [show nr side top most i (0 - 1)=[] from rfl,List.append_nil];exact hR.same S4⟩,_,_,rfl⟩ (fun j U J _ h=>SqL.of (h.1 _ _ ha)) ?_ ?_
  ·rintro j U J T2 v hv ⟨sJ,⟨zs,hfJ,hRJ⟩,y7,y8,rfl⟩ nT2
   have hj:j < top.cps.size - i+1:=by
    have:=(List.getElem?_eq_some_iff.mp hv).1
    rw [List.length_map,qD] at this;exact this
   rw [List.getElem?_map,Cr hj] at hv
   cases hv
   have S5:=(Same.refl J).upd nT2 (o:=.tup [.int (j:Int),.int ((dd (qz side top) i side.cps.size j:Nat):Int)])
   have hT5:=aj (H:=J) (a:=T2) (o:=.tup [.int (j:Int),.int ((dd (qz side top) i side.cps.size j:Nat):Int)])
   generalize upd J T2 (.tup [.int (j:Int),.int ((dd (qz side top) i side.cps.size j:Nat):Int)])=J5 at S5 hT5 ⊢
   have s5:=sJ.trans S5
   have hf5:=S5 _ _ hfJ
   have hR5:=hRJ.same S5
   have hzl:zs.length<=700:=by
    have e1:=hRJ.1
    rw [List.length_append] at e1
    have:=Ao side top most i (j - 1)
    have:=qG (side:=side) (most:=most) l2 (n:=i) (by omega)
    omega
   refine b7 (SqT.of hT5) rfl ?_
   walk_at "s"
   cases j with
   | zero=>
    rw [decide_eq_false (show ¬ (0:Int) < ((0:Nat):Int) by omega)]
    walk_at "s"
    exact ⟨s5,⟨zs,hf5,hR5⟩,_,_,rfl⟩
   | succ j=>
    rw [decide_eq_true (show (0:Int) < ((j+1:Nat):Int) by omega)]
    walk_at "s"
    by_cases hle:dd (qz side top) i side.cps.size (j+1)<=most
    ·rw [decide_eq_true (show ((dd (qz side top) i side.cps.size (j+1):Nat):Int)<=(most:Int) by omega)]
     walk_at "s"
     refine ⟨.inl ⟨rfl,_,SqL.of hf5⟩,?_⟩
     walk_at "s"
     refine cG rfl fun w J6 nw S6 hw=>?_
     walk_at "s"
     refine bA (S6 _ _ hf5) (by omega) ?_
     walk_at "s"
     refine ⟨fun b o e=>?_,⟨_,aj,?_⟩,_,_,rfl⟩
     ·rw [aB (Pr e)];exact S6 _ _ (s5 _ _ e)
     ·rw [show j+1+1 - 1=j+1 by omega,qF,if_pos hle,← List.append_assoc]
      refine R3.put ((hR5.same S6).push ⟨w,rfl,?_⟩) (Jt (S6 _ _ hf5))
      rw [hw]
      unfold v3
      congr 4
    ·rw [decide_eq_false (show ¬ ((dd (qz side top) i side.cps.size (j+1):Nat):Int)<=(most:Int) by omega)]
     walk_at "s"
     refine ⟨s5,⟨zs,hf5,?_⟩,_,_,rfl⟩
     rw [show j+1+1 - 1=j+1 by omega,qF,if_neg hle,List.append_nil]
     exact hR5
  ·rintro U J ⟨sJ,⟨zs,hfJ,hRJ⟩,y7,y8,rfl⟩
   refine ⟨sJ,⟨zs,hfJ,?_⟩,_,_,_,_,rfl⟩
   rw [List.length_map,qD,show top.cps.size - i+1 - 1=top.cps.size - i by omega] at hRJ
   rw [uH]
   exact hRJ
 ·rintro U G ⟨sG,⟨ys,hfG,hR⟩,x5,x6,x7,x8,rfl⟩
  rw [hrl] at hR
  walk_at "s"
  refine Cq hfG hR (Nat.le_trans (qG l2 (by omega)) (by omega)) fun r zs G2 L nr S2 hr2 hRL pe pw=>?_
  have U:=S1.trans (U1.trans sG)
  exact q r L G2 (Same.back U nr) (U.trans S2) ⟨zs,hr2,hRL,pe,pw⟩
theorem TX:aP bQ "self":=by trivial
theorem XD:aP bQ "most":=by trivial
theorem XF:aP bQ "top":=by trivial
theorem XH:aP bQ "side":=by trivial
theorem kz5q:bR bQ "near":=by trivial
theorem kz5r:aP jE "self":=by trivial
theorem kz5s:aP j7 "self":=by trivial
theorem kz5t:aP jF "self":=by trivial
theorem kz5u:bR iz "list":=by trivial
theorem kz5v:aP iz "self":=by trivial
def wtF (an ar:Addr) (most:Nat):List (Str×V):=[("held_near",.ref an),("held_rows",.ref ar),("held_most",.int (most:Int))]
theorem TY {an ar:Addr} {most:Nat} {m:Str} (h:(["held_near","held_rows","held_most"]:List Str).contains m=false):(wtF an ar most).lookup m=none:=by
 unfold wtF
 simp only [List.contains_cons,List.contains_nil,Bool.or_false,Bool.or_eq_false_iff,beq_eq_false_iff_ne] at h
 obtain ⟨h1,h2,h3⟩:=h
 simp only [List.lookup,beq_eq_false_iff_ne.mpr h1,beq_eq_false_iff_ne.mpr h2,beq_eq_false_iff_ne.mpr h3]
def Wt (mg:Str->Option Value) (H:Hp) (x:Addr) (side top:Str) (most:Nat) (L:List P3):Prop:=∃ dx an ar,H x=some (.ins (aN mg "Watch") dx (wtF an ar most))/\NrL H an side top most L/\H ar=some (.tup [.str side,.str top])
theorem Wt.same {H H':Hp} {x:Addr} {side top:Str} {most:Nat} {L:List P3} (h:Wt mg H x side top most L) (s:Same H H'):Wt mg H' x side top most L:=by
 obtain ⟨dx,an,ar,a,b,c⟩:=h
 exact ⟨dx,an,ar,s _ _ a,b.same s,s _ _ c⟩
theorem NrL.put {H:Hp} {q x C dx:Addr} {fs:List (Str×V)} {side top:Str} {most:Nat} {L:List P3} {o:HO} (h:NrL H q side top most L) (hx:H x=some (.ins C dx fs)):NrL (upd H x o) q side top most L:=by
 obtain ⟨ys,a,b,c⟩:=h
 exact ⟨ys,by rw [aB (fun z=>by rw [z,hx] at a;cases a)];exact a,R3.put b (fun xs z=>by rw [hx] at z;cases z),c⟩
def Nu (mg:Str->Option Value):Sp:=fun vs H Q _=>∃ (x dx:Addr) (side top:Str) (most:Nat),vs=[.ref x,.str side,.str top,.int most]/\H x=some (.ins (aN mg "Watch") dx [])/\Pln side/\Pln top/\most<=48/\∀ L H',Chg x H H'->Wt mg H' x side top most L->Q .non H'
theorem qH:aD ["self","side","top","most"] ["self","side","top","most"] (az bQ):=⟨rfl,rfl,rfl,by trivial,rfl,by trivial,by trivial⟩
theorem fP (T:Txt K mg):jR P w K mg base 14 "Watch" "__init__" ["self","side","top","most"] (Nu mg):=by
 have pL:=pL (P:=P) (w:=w) (base:=base) T
 refine mV T.m_Watch___init__ qH (fun _ _ _ _ _ _ us hl=>L2.Py (fun _ _ _ _=>rfl) us hl) ?_ fun f cdv A outer s H vs Q E hr h=>?_
 ·rintro vs H Q E ⟨x,dx,side,top,most,rfl,_⟩;rfl
 obtain ⟨x,dx,side,top,most,rfl,hx,ps,pt,hm,q⟩:=h
 have hu:=hr.units0
 have hu64:=hr.units
 refine ⟨_,(au (eZ (K:=K) rfl (aq 0 TX) (aH pL (hr.mono (by decide)) (bf kz5q) (aa (aq 1 XH) (aa (aq 2 XF) (aa (aq 3 XD) ao))) (by trivial))) (au (eZ (K:=K) rfl (aq 0 TX) (mD (aa (aq 1 XH) (aa (aq 2 XF) ao)))) (aA (eZ (K:=K) rfl (aq 0 TX) (aq 3 XD))))),?_⟩
 walk_at "s"
 have cl:=T.o_Watch.cl
 have na:=T.n_Watch
 refine ⟨side,top,most,rfl,ps,pt,hm,fun an L H1 nan S1 hN=>?_⟩
 walk_at "s"
 have hx1:=S1 _ _ hx
 refine ⟨x,_,dx,_,rfl,hx1,cl,na _ (by simp),by simp,?_⟩
 walk_at "s"
 rw [bU (by show ([]:List Str).contains "held_near"=false;trivial)]
 have hx2:=aj (H:=H1) (a:=x) (o:=.ins (aN mg "Watch") dx (([]:List (Str×V)) ++ ([("held_near",.ref an)]:List (Str×V))))
 have C2:Chg x H (upd H1 x (.ins (aN mg "Watch") dx (([]:List (Str×V)) ++ ([("held_near",.ref an)]:List (Str×V))))):=Chg.put (fun b o n e=>S1 _ _ e)
 have hN2:=hN.put (o:=.ins (aN mg "Watch") dx (([]:List (Str×V)) ++ ([("held_near",.ref an)]:List (Str×V)))) hx1
 generalize upd H1 x (.ins (aN mg "Watch") dx (([]:List (Str×V)) ++ ([("held_near",.ref an)]:List (Str×V))))=H2 at hx2 C2 hN2 ⊢
 walk_at "s"
 refine cG rfl fun ar H3 nar S3 har=>?_
 walk_at "s"
 have hx3:=S3 _ _ hx2
 have C3:=Chg.same C2 S3
 have hN3:=hN2.same S3
 refine ⟨x,_,dx,_,rfl,hx3,cl,na _ (by simp),by simp,?_⟩
 walk_at "s"
 rw [bU (by show (["held_near"]:List Str).contains "held_rows"=false;trivial)]
 have hx4:=aj (H:=H3) (a:=x) (o:=.ins (aN mg "Watch") dx (([]:List (Str×V)) ++ ([("held_near",.ref an)]:List (Str×V)) ++ ([("held_rows",.ref ar)]:List (Str×V))))
 have C4:Chg x H (upd H3 x (.ins (aN mg "Watch") dx (([]:List (Str×V)) ++ ([("held_near",.ref an)]:List (Str×V)) ++ ([("held_rows",.ref ar)]:List (Str×V))))):=Chg.put C3
 have hN4:=hN3.put (o:=.ins (aN mg "Watch") dx (([]:List (Str×V)) ++ ([("held_near",.ref an)]:List (Str×V)) ++ ([("held_rows",.ref ar)]:List (Str×V)))) hx3
 have har4:upd H3 x (.ins (aN mg "Watch") dx (([]:List (Str×V)) ++ ([("held_near",.ref an)]:List (Str×V)) ++ ([("held_rows",.ref ar)]:List (Str×V)))) ar=some (.tup [.str side,.str top]):=by
  rw [aB (fun z=>by rw [z,hx3] at har;cases har)];exact har
 generalize upd H3 x (.ins (aN mg "Watch") dx (([]:List (Str×V)) ++ ([("held_near",.ref an)]:List (Str×V)) ++ ([("held_rows",.ref ar)]:List (Str×V))))=H4 at hx4 C4 hN4 har4 ⊢
 walk_at "s"
 refine ⟨x,_,dx,_,rfl,hx4,cl,na _ (by simp),by simp,?_⟩
 rw [bU (by show (["held_near","held_rows"]:List Str).contains "held_most"=false;trivial)]
 refine q L _ (Chg.put C4) ⟨dx,an,ar,aj,hN4.put hx4,?_⟩
 rw [aB (fun z=>by rw [z,hx4] at har4;cases har4)];exact har4
def Nv (mg:Str->Option Value):Sp:=fun vs H Q _=>∃ (x:Addr) (side top:Str) (most:Nat) (L:List P3),vs=[.ref x]/\Wt mg H x side top most L/\Q (.str side) H
theorem uW:aD ["self"] ["self"] (az jE):=⟨rfl,rfl,rfl,by trivial,rfl,by trivial,by trivial⟩
theorem mj (T:Txt K mg):jR P w K mg base 1 "Watch" "side" ["self"] (Nv mg):=by
 refine mV T.m_Watch_side uW (fun _ _ _ _ _ _ us hl=>L2.mG (fun _=>rfl) us hl) ?_ fun f cdv A outer s H vs Q E hr h=>?_
 ·rintro vs H Q E ⟨x,side,top,most,L,rfl,_⟩;rfl
 obtain ⟨x,side,top,most,L,rfl,⟨dx,an,ar,hx,_,har⟩,q⟩:=h
 have hu:=hr.units0
 have hu64:=hr.units
 refine ⟨_,(aA (aL (dh (K:=K) rfl (jg (K:=K) rfl (aq 0 kz5r)) aC))),?_⟩
 walk_at "s"
 refine ⟨x,_,dx,_,_,rfl,hx,T.o_Watch.cl,T.n_Watch _ (by simp),rfl,?_⟩
 walk_at "s"
 exact q
def T3 (mg:Str->Option Value):Sp:=fun vs H Q _=>∃ (x:Addr) (side top:Str) (most:Nat) (L:List P3),vs=[.ref x]/\Wt mg H x side top most L/\Q (.str top) H
theorem wU:aD ["self"] ["self"] (az j7):=⟨rfl,rfl,rfl,by trivial,rfl,by trivial,by trivial⟩
theorem ni (T:Txt K mg):jR P w K mg base 1 "Watch" "top" ["self"] (T3 mg):=by
 refine mV T.m_Watch_top wU (fun _ _ _ _ _ _ us hl=>L2.mG (fun _=>rfl) us hl) ?_ fun f cdv A outer s H vs Q E hr h=>?_
 ·rintro vs H Q E ⟨x,side,top,most,L,rfl,_⟩;rfl
 obtain ⟨x,side,top,most,L,rfl,⟨dx,an,ar,hx,_,har⟩,q⟩:=h
 have hu:=hr.units0
 have hu64:=hr.units
 refine ⟨_,(aA (aL (dh (K:=K) rfl (jg (K:=K) rfl (aq 0 kz5s)) aC))),?_⟩
 walk_at "s"
 refine ⟨x,_,dx,_,_,rfl,hx,T.o_Watch.cl,T.n_Watch _ (by simp),rfl,?_⟩
 walk_at "s"
 exact q
def Ny (mg:Str->Option Value):Sp:=fun vs H Q _=>∃ (x:Addr) (side top:Str) (most:Nat) (L:List P3),vs=[.ref x]/\Wt mg H x side top most L/\Q (.int most) H
theorem uX:aD ["self"] ["self"] (az jF):=⟨rfl,rfl,rfl,by trivial,rfl,by trivial,by trivial⟩
theorem jJ (T:Txt K mg):jR P w K mg base 1 "Watch" "most" ["self"] (Ny mg):=by
 refine mV T.m_Watch_most uX (fun _ _ _ _ _ _ us hl=>L2.mG (fun _=>rfl) us hl) ?_ fun f cdv A outer s H vs Q E hr h=>?_
 ·rintro vs H Q E ⟨x,side,top,most,L,rfl,_⟩;rfl
 obtain ⟨x,side,top,most,L,rfl,⟨dx,an,ar,hx,_,har⟩,q⟩:=h
 have hu:=hr.units0
 have hu64:=hr.units
 refine ⟨_,(aA (aL (jg (K:=K) rfl (aq 0 kz5t)))),?_⟩
 walk_at "s"
 refine ⟨x,_,dx,_,_,rfl,hx,T.o_Watch.cl,T.n_Watch _ (by simp),rfl,?_⟩
 walk_at "s"
 exact q
def Nz (mg:Str->Option Value):Sp:=fun vs H Q _=>∃ (x:Addr) (side top:Str) (most:Nat) (L:List P3),vs=[.ref x]/\Wt mg H x side top most L/\∀ q H',H q=none->Same H H'->NrL H' q side top most L->Q (.ref q) H'
theorem uY:aD ["self"] ["self"] (az iz):=⟨rfl,rfl,rfl,by trivial,rfl,by trivial,by trivial⟩
theorem iB (T:Txt K mg):jR P w K mg base 1 "Watch" "told" ["self"] (Nz mg):=by
 refine mV T.m_Watch_told uY (fun _ _ _ _ _ _ us hl=>L2.mG (fun _=>rfl) us hl) ?_ fun f cdv A outer s H vs Q E hr h=>?_
 ·rintro vs H Q E ⟨x,side,top,most,L,rfl,_⟩;rfl
 obtain ⟨x,side,top,most,L,rfl,⟨dx,an,ar,hx,⟨ys,h1,h2,h3⟩,har⟩,q⟩:=h
 have hu:=hr.units0
 have hu64:=hr.units
 refine ⟨_,(aA (aL (pY (o5 (K:=K) rfl rfl) (bf kz5u) T.b_list lK (aa (jg (K:=K) rfl (aq 0 kz5v)) ao) (by trivial) (by trivial)))),?_⟩
 walk_at "s"
 refine ⟨x,_,dx,_,_,rfl,hx,T.o_Watch.cl,T.n_Watch _ (by simp),rfl,?_⟩
 walk_at "s"
 refine Bp (SqL.of h1) fun l nl=>?_
 walk_at "s"
 exact q l _ nl ((Same.refl H).upd nl) ⟨ys,aj,h2.same ((Same.refl H).upd nl),h3⟩
theorem sO:(["_law_one"]:List Str).Nodup:=by trivial
theorem rD:(["_law_k","_law_some","_law_start","_law_step"]:List Str).Nodup:=by trivial
theorem XJ:aP iH "_law_k":=by trivial
theorem kz5x:bR iH "len":=by trivial
theorem XM:aP iH "_law_script":=by trivial
theorem NB:aP b8 "_law_found":=by trivial
theorem kz60:bR b8 "range":=by trivial
theorem kz61:bR b8 "len":=by trivial
theorem NK:aP b8 "_law_menus":=by trivial
theorem EY:aP b8 "_law_k":=by trivial
theorem Jv:aP b8 "_law_left":=by trivial
theorem T4:aP b8 "_law_cell_here":=by trivial
theorem yJ:aP b8 "_law_number":=by trivial
theorem XN:aP bJ "_law_found":=by trivial
theorem NP:aP bJ "_law_row_here":=by trivial
theorem kz69:bR bJ "all":=by trivial
theorem kz6a:bR bJ "len":=by trivial
theorem kz6b:aP bJ "_law_size":=by trivial
theorem XQ:bR bJ "isinstance":=by trivial
theorem kz6d:bR bJ "tuple":=by trivial
theorem kz6e:bR bJ "list":=by trivial
theorem kz6f:bR bH "range":=by trivial
theorem NQ:aP bH "_law_many":=by trivial
theorem kz6h:bR bH "_law_drawn":=by trivial
theorem kz6i:aP bH "_law_cell_here":=by trivial
theorem kz6j:Ly bH "_law_step":=by trivial
theorem kz6k:Ly bH "_law_start":=by trivial
theorem kz6l:Ly bH "_law_some":=by trivial
theorem XR (n:Nat):(List.range n).map (fun _=>V.bl true)=(List.replicate n true).map V.bl:=by
 induction n with
 | zero=>rfl
 | succ n ih=>rw [List.range_succ,List.map_append,ih,List.replicate_succ',List.map_append];rfl
theorem Fb (n:Nat):(List.replicate n true).all id=true:=by simp
def NT (K:W.Frag):Sp:=fun vs H Q _=>∃ (a:Addr) (ns:List Int) (k:Nat),vs=[.ref a,.int k]/\SqL K H a (ns.map V.int)/\∀ n,Q (.int n) H
theorem yK:aD ["_law_script","_law_k"] ["_law_script","_law_k"] (az iH):=⟨rfl,rfl,rfl,by trivial,rfl,by trivial,by trivial⟩
theorem jX (T:Txt K mg):my P w K mg base 1 "_law_cell" ["_law_script","_law_k"] (NT K):=by
 refine gB T.d_law_cell yK (fun _ _ _ _ _ _ us hl=>L2.qI (fun _ _=>rfl) us hl) ?_ fun f cdv A outer s H vs Q E hr h=>?_
 ·rintro vs H Q E ⟨a,ns,k,rfl,_⟩;rfl
 obtain ⟨a,ns,k,rfl,hS,q⟩:=h
 have hu:=hr.units0
 have hu64:=hr.units
 refine ⟨_,(au (dz (cQ Ov (aq 1 XJ) (aF (aG (K:=K) rfl) (bf kz5x) T.b_len bz (aa (aq 0 XM) ao) (by trivial) (by trivial)) (by walk_at "p")) (aA (aL (dh (K:=K) rfl (aq 0 XM) (aq 1 XJ)))) cF) (aA (aL aC))),?_⟩
 walk_at "s"
 refine il hS ?_
 walk_at "s"
 rw [List.length_map]
 refine qO (fun h=>?_) (fun h=>?_)
 ·have hk:k < ns.length:=by omega
  walk_at "s"
  refine bF hS (cu (show (ns.map V.int)[k]?=some (.int ns[k]) by rw [List.getElem?_map,List.getElem?_eq_getElem hk];rfl)) ?_
  walk_at "s"
  exact q _
 ·walk_at "s"
  exact q _
def Fits (ms bs:List Int):Prop:=ms.length=bs.length/\∀ (i:Nat) (m b:Int),ms[i]?=some m->bs[i]?=some b->0<=m/\m < b
theorem Fits.push {ms bs:List Int} {k:Nat} {m b:Int} (h:Fits ms (bs.take k)) (hb:bs[k]?=some b) (h0:0<=m) (h1:m < b):Fits (ms ++ [m]) (bs.take (k+1)):=by
 have hk:k < bs.length:=(List.getElem?_eq_some_iff.mp hb).1
 have hl:ms.length=k:=by rw [h.1,List.length_take];omega
 refine ⟨by simp;omega,fun i m' b' e1 e2=>?_⟩
 by_cases hi:i < k
 ·rw [List.getElem?_append_left (by omega)] at e1
  rw [List.getElem?_take_of_lt (by omega)] at e2
  exact h.2 i m' b' e1 (by rw [List.getElem?_take_of_lt hi];exact e2)
 ·have hi2:i < k+1:=by have:=(List.getElem?_eq_some_iff.mp e1).1;simp at this;omega
  obtain rfl:i=k:=by omega
  rw [List.getElem?_append_right (by omega),hl,Nat.sub_self] at e1
  rw [List.getElem?_take_of_lt (by omega),hb] at e2
  cases e1;cases e2
  exact ⟨h0,h1⟩
def Jw (K:W.Frag):Sp:=fun vs H Q _=>∃ (n:Int) (b:Addr) (bs:List Int),vs=[.int n,.ref b]/\H b=some (.lst (bs.map V.int))/\bs.length<=1000/\(∀ x∈bs,0 < x/\x < 1073741824)/\
 ∀ (q:Addr) (ms:List Int) (H':Hp),H q=none->Same H H'->H' q=some (.lst (ms.map V.int))->Fits ms bs->Q (.ref q) H'
theorem cZ:aD ["_law_cell_here","_law_menus","_law_found","_law_left","_law_number","_law_k"] ["_law_cell_here","_law_menus"] (az b8):=⟨rfl,rfl,rfl,by trivial,rfl,by trivial,by trivial⟩
theorem cM (T:Txt K mg):my P w K mg base 1 "_law_drawn" ["_law_cell_here","_law_menus"] (Jw K):=by
 refine gB T.d_law_drawn cZ (fun _ _ _ _ _ _ us hl=>L2.qI (fun _ _=>rfl) us hl) ?_ fun f cdv A outer s H vs Q E hr h=>?_
 ·rintro vs H Q E ⟨n,b,bs,rfl,_⟩;rfl
 obtain ⟨n,b,bs,rfl,hb,hlen,hbs,q⟩:=h
 have hu:=hr.units0
 have hu64:=hr.units
 refine ⟨_,(au (aK (i:=2) cZ.nd rfl (Or.inl NB) (dH ao) rfl) (au (aK (i:=3) cZ.nd rfl (Or.inl Jv) (aq 0 T4) rfl) (au (aK (i:=4) cZ.nd rfl (Or.inl yJ) (bG aU (bG qK (aq 0 T4) aC) aC) rfl) (au (dB PassesOwn.never rfl (fO (bf kz60) T.b_range (aa (aF (aG (K:=K) rfl) (bf kz61) T.b_len bz (aa (aq 1 NK) ao) (by trivial) (by trivial)) ao)) (aO (i:=5) cZ.nd rfl (Or.inl EY) rfl) (au (aK (i:=4) cZ.nd rfl (Or.inl yJ) (bG qK (bG aU (bG aU (bG iW (aq 4 yJ) (aq 4 yJ)) (bG iW aC (aq 4 yJ))) (aq 5 EY)) aC) rfl) (au (aK (i:=4) cZ.nd rfl (Or.inl yJ) (bG qK (bG aU (bG aU (bG iW (aq 4 yJ) aC) (bG iW aC (aq 5 EY))) aC) aC) rfl) (aA (dz (mL (Hd (cQ U5 (aq 0 T4) (bG Qs aC aC) (by walk_at "p")) (Br (cQ rE (aq 3 Jv) aC (by walk_at "p"))))) (au (bh (cR (K:=K) rfl PySem.F.plainAttrs_list PySem.F.slot_list_append PySem.F.type_list_append bw (aq 2 NB) (aa (bG qK (aq 3 Jv) (dh (K:=K) rfl (aq 1 NK) (aq 5 EY))) ao))) (aA (aK (i:=3) cZ.nd rfl (Or.inl Jv) (bG xW (aq 3 Jv) (dh (K:=K) rfl (aq 1 NK) (aq 5 EY))) rfl))) (aA (bh (cR (K:=K) rfl PySem.F.plainAttrs_list PySem.F.slot_list_append PySem.F.type_list_append bw (aq 2 NB) (aa (bG qK (bG xW (aq 4 yJ) aC) (dh (K:=K) rfl (aq 1 NK) (aq 5 EY))) ao))))))))) (aA (aL (aq 2 NB))))))),?_⟩
 walk_at "s"
 have hs:20000<=sizeLine:=by decide
 refine cG rfl fun f H1 nf S1 hf=>?_
 walk_at "s"
 have hm0:=Int.emod_nonneg n (show (2147483629:Int)≠0 by omega)
 have hm1:=Int.emod_lt_of_pos n (show (0:Int) < 2147483629 by omega)
 refine il (SqL.of (S1 _ _ hb)) ?_
 walk_at "s"
 rw [List.length_map]
 refine ⟨_,rfl,by omega,by omega,?_⟩
 rw [show ((bs.length:Int)).toNat=bs.length by omega]
 refine lB (n:=bs.length) (fun k U G=>∃ (l N:Int) (ms:List Int) (x5:Option V),U=[some (.int n),some (.ref b),some (.ref f),some (.int l),some (.int N),x5]/\0<=N/\N < 2147600000/\Same H G/\G f=some (.lst (ms.map V.int))/\Fits ms (bs.take k)) ⟨n,_,[],_,rfl,by omega,by omega,S1,hf,rfl,fun i m b e=>by simp at e⟩ ?_ ?_
 ·rintro k U G hk ⟨l,N,ms,x5,rfl,hN0,hN1,s,hfG,hF⟩
  rw [Int.zero_add]
  have hbb:=List.getElem?_eq_getElem hk
  obtain ⟨p0,p1⟩:=hbs bs[k] (List.getElem_mem hk)
  have hbV:(bs.map V.int)[k]?=some (.int bs[k]):=by rw [List.getElem?_map,hbb];rfl
  have hml:ms.length<=1000:=by rw [hF.1,List.length_take];omega
  walk_at "s"
  obtain ⟨M,eM⟩:∃ M,(N*N+48271*N+(k:Int)) % 2147483647=M:=⟨_,rfl⟩
  have hM0:0<=M:=by rw [← eM];exact Int.emod_nonneg _ (by omega)
  have hM1:M < 2147483647:=by rw [← eM];exact Int.emod_lt_of_pos _ (by omega)
  rw [eM]
  clear eM
  walk_at "s"
  obtain ⟨M2,eM2⟩:∃ M2,(M*69621+11*(k:Int)+5) % 2147483629=M2:=⟨_,rfl⟩
  have hM20:0<=M2:=by rw [← eM2];exact Int.emod_nonneg _ (by omega)
  have hM21:M2 < 2147483629:=by rw [← eM2];exact Int.emod_lt_of_pos _ (by omega)
  rw [eM2]
  clear eM2
  have B1:∀ (m:Int) (x5:Option V) (l':Int),0<=m->m < bs[k]->∃ (l N:Int) (ms':List Int) (x5':Option V),[some (.int n),some (.ref b),some (.ref f),some (.int l'),some (.int M2),x5]=[some (.int n),some (.ref b),some (.ref f),some (.int l),some (.int N),x5']/\0<=N/\N < 2147600000/\Same H (upd G f (.lst (ms.map V.int ++ [V.int m])))/\upd G f (.lst (ms.map V.int ++ [V.int m])) f=some (.lst (ms'.map V.int))/\Fits ms' (bs.take (k+1)):=fun m x5 l' h0 h1=>
   ⟨l',M2,ms ++ [m],x5,rfl,hM20,by omega,Same.put s nf,by rw [List.map_append];exact aj,hF.push hbb h0 h1⟩
  refine qO (fun h=>?_) (fun h=>?_)
  ·clear h
   walk_at "s"
   refine qO (fun h=>?_) (fun h=>?_)
   ·walk_at "s"
    refine ⟨.inl ⟨rfl,_,SqL.of hfG⟩,?_⟩
    walk_at "s"
    refine bF (SqL.of (s _ _ hb)) (cu hbV) ?_
    walk_at "s"
    refine bA hfG (by rw [List.length_map];omega) ?_
    walk_at "s"
    refine bF (SqL.of ((Same.put s nf) _ _ hb)) (cu hbV) ?_
    walk_at "s"
    exact B1 _ _ _ (Int.emod_nonneg _ (by omega)) (Int.emod_lt_of_pos _ p0)
   ·walk_at "s"
    refine ⟨.inl ⟨rfl,_,SqL.of hfG⟩,?_⟩
    walk_at "s"
    refine bF (SqL.of (s _ _ hb)) (cu hbV) ?_
    walk_at "s"
    refine bA hfG (by rw [List.length_map];omega) ?_
    walk_at "s"
    exact B1 _ _ _ (Int.emod_nonneg _ (by omega)) (Int.emod_lt_of_pos _ p0)
  ·clear h
   walk_at "s"
   refine ⟨.inl ⟨rfl,_,SqL.of hfG⟩,?_⟩
   walk_at "s"
   refine bF (SqL.of (s _ _ hb)) (cu hbV) ?_
   walk_at "s"
   refine bA hfG (by rw [List.length_map];omega) ?_
   walk_at "s"
   exact B1 _ _ _ (Int.emod_nonneg _ (by omega)) (Int.emod_lt_of_pos _ p0)
 ·rintro U G ⟨l,N,ms,x5,rfl,_,_,s,hfG,hF⟩
  walk_at "s"
  rw [List.take_length] at hF
  exact q f ms G nf s hfG hF
def Jx (K:W.Frag):Sp:=fun vs H Q _=>∃ (a:Addr) (us:List V) (ts:List (List Int)) (k:Nat),vs=[.ref a,.int k]/\H a=some (.lst us)/\RT H us ts/\(∀ t∈ts,t.length=k)/\k<=10/\ts.length<=1000/\∀ H',Same H H'->Q (.bl true) H'
theorem oX:aD ["_law_found","_law_size","_law_row_here"] ["_law_found","_law_size"] (az bJ):=⟨rfl,rfl,rfl,by trivial,rfl,by trivial,by trivial⟩
theorem dO (T:Txt K mg):my P w K mg base 1 "_law_tuples" ["_law_found","_law_size"] (Jx K):=by
 refine gB T.d_law_tuples oX (fun _ _ _ _ _ _ us hl=>L2.qI (fun _ _=>rfl) us hl) ?_ fun f cdv A outer s H vs Q E hr h=>?_
 ·rintro vs H Q E ⟨a,us,ts,k,rfl,_⟩;rfl
 obtain ⟨a,us,ts,k,rfl,ha,hR,hk,hk2,hl,q⟩:=h
 have hu:=hr.units0
 have hu64:=hr.units
 refine ⟨_,(au (dz (eQ (eU (aF (gY (K:=K) rfl) (bf XQ) T.b_isinstance bW (aa (aq 0 XN) (aa (uN (bf kz6e) T.b_list lK (by trivial) (by trivial)) ao)) (by trivial) (by trivial)))) (aA (aL oJ)) cF) (au (dB PassesOwn.never rfl (lM (K:=K) rfl (aq 0 XN)) (aO (i:=2) oX.nd rfl (Or.inl NP) rfl) (au (dz (mL (oU (eQ (eU (aF (gY (K:=K) rfl) (bf XQ) T.b_isinstance bW (aa (aq 2 NP) (aa (uN (bf kz6d) T.b_tuple xM (by trivial) (by trivial)) ao)) (by trivial) (by trivial)))) (lL (cQ (qP (K:=K) rfl hu64) (aF (aG (K:=K) rfl) (bf kz6a) T.b_len bz (aa (aq 2 NP) ao) (by trivial) (by trivial)) (aq 1 kz6b) (by walk_at "p"))))) (aA (aL oJ)) cF) (aA (dz (eQ (eU (aF (tW rfl) (bf kz69) T.b_all zy (aa (kE (sub:=[none]) (d9 (N:=["_law_found","_law_size","_law_row_here"]) (sc:=az bJ) (N':=["_law_one"]) (by trivial)) rfl rfl rfl (lM (K:=K) rfl (aq 2 NP)) (fun C s₀ H₀ ex=>(t7 0 (by trivial) sO)) (fun C s₀ H₀ ex=>ir) (fun C s₀ H₀ ex=>(vC (aF (gY (K:=K) rfl) (O1 (by trivial)) T.b_isinstance bW (aa (mC 0 (by trivial)) (aa (uN (O1 (by trivial)) T.b_int zA (by trivial) (by trivial)) ao)) (by trivial) (by trivial)) (vB (O4 (aF (gY (K:=K) rfl) (O1 (by trivial)) T.b_isinstance bW (aa (mC 0 (by trivial)) (aa (uN (O1 (by trivial)) T.b_bool Bm (by trivial) (by trivial)) ao)) (by trivial) (by trivial))))))) ao) (by trivial) (by trivial)))) (aA (aL oJ)) cF)))) (aA (aL oJ)))),?_⟩
 walk_at "s"
 have hs:20000<=sizeLine:=by decide
 have hul:=hR.1
 refine mz (.lst ha) rfl ?_
 walk_at "s"
 refine .inl ⟨a,rfl,⟨_,SqL.of ha⟩,?_⟩
 refine tG (xs:=us) (fun i U G=>Same H G/\∃ x2,U=[some (.ref a),some (.int (k:Int)),x2]) ⟨Same.refl H,_,rfl⟩ (fun i U G _ h=>SqL.of (h.1 _ _ ha)) ?_ ?_
 ·rintro i v U G hv ⟨s,x2,rfl⟩
  obtain ⟨t,ht,b,rfl,hb⟩:=(hR.same s).at hv
  have e:=hk t (List.mem_of_getElem? ht)
  walk_at "s"
  refine mz (.tup hb) rfl ?_
  walk_at "s"
  refine tZ (SqT.of hb) ?_
  walk_at "s"
  rw [List.length_map,e,decide_eq_true rfl]
  walk_at "s"
  refine .inr (.inl ⟨b,rfl,⟨_,SqT.of hb⟩,?_⟩)
  refine Ec (xs:=t.map V.int) (fun i ys G'=>G'=G/\ys=(List.range i).map fun _=>V.bl true) (by rw [List.length_map];omega) ⟨rfl,rfl⟩ ?_ ?_ ?_ ?_
  ·rintro i ys G' ⟨_,rfl⟩
   simp
  ·rintro i ys G' ⟨rfl,_⟩
   exact SqT.of hb
  ·rintro i ys G' x hx ⟨rfl,rfl⟩
   obtain ⟨n,_,rfl⟩:=List.mem_map.mp (List.mem_of_getElem? hx)
   walk_at "s"
   refine ⟨KeepSt.set rfl,?_⟩
   walk_at "s"
   refine mz (.int _) rfl ?_
   walk_at "s"
   refine mz (.int _) rfl ?_
   walk_at "s"
   exact ⟨rfl,nF rfl⟩
  ·rintro ys G' D G2 ⟨rfl,rfl⟩ nD s2 hD
   rw [XR] at hD
   try walk_at "s"
   refine ⟨D,_,rfl,hD,?_⟩
   walk_at "s"
   rw [Fb]
   walk_at "s"
   exact ⟨s.trans s2,_,rfl⟩
 ·rintro U G ⟨s,x2,rfl⟩
  walk_at "s"
  exact q _ s
theorem yL {ms:List Int} (h:ms.length=3):∃ a b c,ms=[a,b,c]:=by
 match ms,h with
 | [a,b,c],_=>exact ⟨a,b,c,rfl⟩
theorem NZ:∀ k∈List.range 26,(Str.ofString "abcdefghijklmnopqrstuvwxyz").cps.toList[k]?=some (97+k):=by trivial
def XS (ys:List Str):Prop:=∀ y∈ys,∃ c,y=⟨#[c]⟩/\97<=c/\c < 123
def Aq (K:W.Frag):Sp:=fun vs H Q _=>∃ n:Int,vs=[.int n]/\∀ (q:Addr) (ys:List Str) H',H q=none->Same H H'->H' q=some (.lst (ys.map V.str))->0 < ys.length->ys.length<=26->XS ys->Q (.ref q) H'
theorem XX (k:Nat) (h:k < 6):∃ m:Nat,([V.int 1,.int 2,.int 2,.int 3,.int 4,.int 26]:List V)[k]?=some (.int (m:Int))/\0 < m/\m<=26:=by
 match k,h with
 | 0,_=>exact ⟨1,rfl,by omega,by omega⟩
 | 1,_=>exact ⟨2,rfl,by omega,by omega⟩
 | 2,_=>exact ⟨2,rfl,by omega,by omega⟩
 | 3,_=>exact ⟨3,rfl,by omega,by omega⟩
 | 4,_=>exact ⟨4,rfl,by omega,by omega⟩
 | 5,_=>exact ⟨26,rfl,by omega,by omega⟩
theorem dG:aD ["_law_cell_here","_law_some","_law_start","_law_step","_law_many"] ["_law_cell_here"] (az bH):=⟨rfl,rfl,rfl,by trivial,rfl,by trivial,by trivial⟩
theorem lu (T:Txt K mg):my P w K mg base 2 "_law_letters" ["_law_cell_here"] (Aq K):=by
 have cM:=cM (P:=P) (w:=w) (base:=base) T
 refine gB T.d_law_letters dG (fun _ _ _ _ _ _ us hl=>L2.mG (fun _=>rfl) us hl) ?_ fun f cdv A outer s H vs Q E hr h=>?_
 ·rintro vs H Q E ⟨n,rfl,_⟩;rfl
 obtain ⟨n,rfl,q⟩:=h
 have hu:=hr.units0
 have hu64:=hr.units
 refine ⟨_,(au (aK (i:=1) dG.nd rfl (Or.inr kz6l) Bq rfl) (au (Bu (aH cM (hr.mono (by decide)) (bf kz6h) (aa (aq 0 kz6i) (aa (dH (aa aC (aa aC (aa aC ao)))) ao)) (by trivial)) (Bt (K:=K) rfl rfl (aW (aO (i:=2) dG.nd rfl (Or.inr kz6k) rfl) (aW (aO (i:=3) dG.nd rfl (Or.inr kz6j) rfl) (aW (aO (i:=4) dG.nd rfl (Or.inl NQ) rfl) gU))))) (au (aK (i:=4) dG.nd rfl (Or.inl NQ) (dh (K:=K) rfl (dH (aa aC (aa aC (aa aC (aa aC (aa aC (aa aC ao))))))) (aq 4 NQ)) rfl) (aA (aL (kE (sub:=[none,some 1,some 2,some 3]) (d9 (N:=["_law_cell_here","_law_some","_law_start","_law_step","_law_many"]) (sc:=az bH) (N':=["_law_k","_law_some","_law_start","_law_step"]) (by trivial)) rfl rfl rfl (fO (bf kz6f) T.b_range (aa (aq 4 NQ) ao)) (fun C s₀ H₀ ex=>(t7 0 (by trivial) rD)) (fun C s₀ H₀ ex=>ir) (fun C s₀ H₀ ex=>(dh (K:=K) rfl (oR 1 (by trivial)) (bG qK (bG aU (oR 2 (by trivial)) (bG iW (bG aU (oR 3 (by trivial)) aC) (mC 0 (by trivial)))) aC))))))))),?_⟩
 walk_at "s"
 have hs:20000<=sizeLine:=by decide
 have hsl:(Str.ofString "abcdefghijklmnopqrstuvwxyz").length<=sizeLine:=Nat.le_trans (show _<=100 by trivial) (by decide)
 refine cG rfl fun p1 H1 n1 S1 h1=>?_
 walk_at "s"
 replace h1:H1 p1=some (.lst (([26,25,6]:List Int).map V.int)):=h1
 refine ⟨n,p1,_,rfl,h1,by simp,(fun x hx=>by simp only [List.mem_cons,List.mem_nil_iff,or_false] at hx;rcases hx with rfl | rfl | rfl <;> omega),fun p2 ms H2 n2 S2 h2 hF=>?_⟩
 walk_at "s"
 obtain ⟨a,b,c,rfl⟩:=yL hF.1
 have f2:=hF.2 2 c _ rfl rfl
 refine Bv (xs:=[.int a,.int b,.int c]) (SqL.of h2) rfl ?_
 walk_at "s"
 obtain ⟨cN,rfl⟩:∃ k:Nat,c=k:=⟨c.toNat,by omega⟩
 obtain ⟨m,em,m0,m1⟩:=XX cN (by omega)
 refine cG rfl fun p3 H3 n3 S3 h3=>?_
 walk_at "s"
 refine bF (SqL.of h3) (cu em) ?_
 walk_at "s"
 refine ⟨_,rfl,by omega,by omega,?_⟩
 rw [show ((m:Nat):Int).toNat=m by omega]
 have U3:=S1.trans (S2.trans S3)
 refine qQ (fun i zs G=>G=H3/\∃ ys:List Str,zs=ys.map V.str/\ys.length=i/\XS ys) (by omega) ⟨rfl,[],rfl,rfl,fun y hy=>by cases hy⟩ ?_ ?_ ?_
 ·rintro i zs G ⟨_,ys,rfl,e,_⟩
  rw [List.length_map];omega
 ·rintro i zs G hi ⟨rfl,ys,rfl,e,hg⟩
  have hd:((a+(b+1)*(0+(i:Int))) % 26).toNat∈List.range 26:=List.mem_range.mpr (by omega)
  walk_at "s"
  refine ⟨KeepSt.set rfl,?_⟩
  walk_at "s"
  refine O2 hsl (v9 (by omega) (NZ _ hd)) ?_
  walk_at "s"
  refine ⟨rfl,ys ++ [⟨#[97+((a+(b+1)*(0+(i:Int))) % 26).toNat]⟩],by rw [List.map_append];rfl,by simp;omega,fun y hy=>?_⟩
  rcases List.mem_append.mp hy with h | h
  ·exact hg y h
  ·rw [List.mem_singleton.mp h];exact ⟨_,rfl,by omega,by omega⟩
 ·rintro zs G D H' ⟨rfl,ys,rfl,e,hg⟩ nD S hD
  try walk_at "s"
  exact q D ys H' (Same.back U3 nD) (U3.trans S) hD (by omega) (by omega) hg
theorem wV:(["_law_k","_law_signs"]:List Str).Nodup:=by trivial
theorem X3:aP cP "_law_draws":=by trivial
theorem X4:bR cP "_law_drawn":=by trivial
theorem T5:aP cP "_law_most":=by trivial
theorem kz6p:bR cP "len":=by trivial
theorem kz6q:Ly cP "_law_signs":=by trivial
theorem T6:aP cP "_law_size":=by trivial
theorem X5:aP cP "_law_cell_here":=by trivial
theorem N5:aP cP "_law_heads":=by trivial
theorem kz6u:bR cP "min":=by trivial
def T7 (K:W.Frag):Sp:=fun vs H Q _=>∃ (n:Int) (a:Addr) (ys:List Str) (m:Nat),vs=[.int n,.ref a,.int m]/\H a=some (.lst (ys.map V.str))/\0 < ys.length/\ys.length<=26/\XS ys/\m<=24/\∀ z H',Same H H'->Pln z->Q (.str z) H'
theorem T8 {zs:List Str} (h:XS zs) (hl:zs.length<=24):Pln (Txt.join (Str.ofString "") zs):=by
 have h1:∀ y∈zs,y.length=1:=fun y hy=>by obtain ⟨c,rfl,_⟩:=h y hy;exact K1 c
 refine ⟨by rw [Hc h1];exact hl,fun c hc=>?_⟩
 rw [pX] at hc
 obtain ⟨l,hl1,hl2⟩:=List.mem_flatten.mp hc
 obtain ⟨y,hy,e⟩:=List.mem_map.mp hl1
 obtain ⟨d,rfl,hd⟩:=h y hy
 subst e
 simp at hl2
 subst hl2
 exact hd
theorem jY:aD ["_law_cell_here","_law_signs","_law_most","_law_heads","_law_size","_law_draws"] ["_law_cell_here","_law_signs","_law_most"] (az cP):=⟨rfl,rfl,rfl,by trivial,rfl,by trivial,by trivial⟩
theorem nO (T:Txt K mg):my P w K mg base 2 "_law_row" ["_law_cell_here","_law_signs","_law_most"] (T7 K):=by
 have cM:=cM (P:=P) (w:=w) (base:=base) T
 refine gB T.d_law_row jY (fun _ _ _ _ _ _ us hl=>L2.oZ (fun _ _ _=>rfl) us hl) ?_ fun f cdv A outer s H vs Q E hr h=>?_
 ·rintro vs H Q E ⟨n,a,ys,m,rfl,_⟩;rfl
 obtain ⟨n,a,ys,m,rfl,ha,hy0,hy1,hL,hm,q⟩:=h
 have hu:=hr.units0
 have hu64:=hr.units
 refine ⟨_,(au (aK (i:=3) jY.nd rfl (Or.inl N5) (aH cM (hr.mono (by decide)) (bf X4) (aa (aq 0 X5) (aa (dH (aa aC (aa aC (aa (bG aU (aq 2 T5) aC) ao)))) ao)) (by trivial)) rfl) (au (aK (i:=4) jY.nd rfl (Or.inl T6) (aF (u6 rfl) (bf kz6u) T.b_min G9 (aa (dh (K:=K) rfl (aq 3 N5) aC) (aa (aq 2 T5) ao)) (by trivial) (by trivial)) rfl) (au (dz (cQ (wy (K:=K) rfl hu64) (dh (K:=K) rfl (aq 3 N5) aC) aC (by walk_at "p")) (aA (aK (i:=4) jY.nd rfl (Or.inl T6) (dh (K:=K) rfl (aq 3 N5) aC) rfl)) cF) (au (aK (i:=5) jY.nd rfl (Or.inl X3) (aH cM (hr.mono (by decide)) (bf X4) (aa (aq 0 X5) (aa (bG aU (dH (aa aC (aa aC (aa (bG aU (aq 2 T5) aC) ao)))) (bG iW (dH (aa (aF (aG (K:=K) rfl) (bf kz6p) T.b_len bz (aa (K3 1 kz6q) ao) (by trivial) (by trivial)) ao)) (aq 4 T6))) ao)) (by trivial)) rfl) (aA (aL (cR (K:=K) rfl PySem.F.plainAttrs_str PySem.F.slot_str_join PySem.F.type_str_join v8 Bq (aa (kE (sub:=[none,some 1]) (d9 (N:=["_law_cell_here","_law_signs","_law_most","_law_heads","_law_size","_law_draws"]) (sc:=az cP) (N':=["_law_k","_law_signs"]) (by trivial)) rfl rfl rfl (lM (K:=K) rfl (wj (BW (K:=K) rfl) (aq 5 X3) (sV aC) Bs)) (fun C s₀ H₀ ex=>(t7 0 (by trivial) wV)) (fun C s₀ H₀ ex=>ir) (fun C s₀ H₀ ex=>(dh (K:=K) rfl (oR 1 (by trivial)) (mC 0 (by trivial))))) ao)))))))),?_⟩
 walk_at "s"
 have hs:20000<=sizeLine:=by decide
 refine cG rfl fun p1 H1 n1 S1 h1=>?_
 walk_at "s"
 replace h1:H1 p1=some (.lst (([8,9,(m:Int)+1]:List Int).map V.int)):=h1
 refine ⟨n,p1,_,rfl,h1,by simp,(fun x hx=>by simp only [List.mem_cons,List.mem_nil_iff,or_false] at hx;rcases hx with rfl | rfl | rfl <;> omega),fun p2 ms H2 n2 S2 h2 hF=>?_⟩
 walk_at "s"
 obtain ⟨a0,a1,a2,rfl⟩:=yL hF.1
 have f1:=hF.2 1 a1 _ rfl rfl
 have f2:=hF.2 2 a2 _ rfl rfl
 have h2':H2 p2=some (.lst [.int a0,.int a1,.int a2]):=h2
 have U2:=S1.trans S2
 walk_at "n"
 obtain ⟨sz,esz,ksz⟩:∃ sz:Nat,(if (m:Int) < a1 then (m:Int) else a1)=(sz:Int)/\sz<=m:=by
  by_cases h:(m:Int) < a1
  ·rw [if_pos h];exact ⟨m,rfl,Nat.le_refl _⟩
  ·rw [if_neg h];exact ⟨a1.toNat,by omega,by omega⟩
 rw [esz]
 with_reducible show FJ _ _ _ _ _
 with_reducible refine Hy (fun U H'=>H'=H2/\∃ k:Nat,k<=m/\U=[some (.int n),some (.ref a),some (.int m),some (.ref p2),some (.int k),none]) ?_ ?_
 rotate_left
 ·intro N hN
  walk_at "n"
  refine qO (fun h=>?_) (fun h=>?_)
  ·walk_at "n"
   obtain ⟨k,rfl⟩:∃ k:Nat,a2=k:=⟨a2.toNat,by omega⟩
   exact hN _ _ ⟨rfl,k,by omega,rfl⟩
  ·walk_at "n"
   exact hN _ _ ⟨rfl,sz,ksz,rfl⟩
 rintro U H' ⟨rfl,k,hk,rfl⟩
 clear h2 h2' hF n2 n1 h1 S1 S2
 have ha2:=U2 _ _ ha
 walk_at "s"
 refine cG rfl fun p3 H3 n3 S3 h3=>?_
 walk_at "s"
 refine il (SqL.of (S3 _ _ ha2)) ?_
 walk_at "s"
 rw [List.length_map]
 refine cG rfl fun p4 H4 n4 S4 h4=>?_
 walk_at "s"
 refine zG h4 (by omega) (by omega) (by simp;omega) fun p5 n5=>?_
 walk_at "s"
 rw [show (List.replicate ((k:Nat):Int).toNat [V.int (ys.length:Int)]).flatten=(List.replicate k (ys.length:Int)).map V.int by rw [show ((k:Nat):Int).toNat=k by omega,List.map_replicate,List.flatten_replicate_singleton]]
 have S5:=(Same.refl H4).upd n5 (o:=.lst ((List.replicate k (ys.length:Int)).map V.int))
 have h5:=aj (H:=H4) (a:=p5) (o:=.lst ((List.replicate k (ys.length:Int)).map V.int))
 generalize upd H4 p5 (.lst ((List.replicate k (ys.length:Int)).map V.int))=H5 at S5 h5 ⊢
 walk_at "s"
 refine Q7 ((S4.trans S5) _ _ h3) h5 (by simp;omega) fun p6 n6=>?_
 walk_at "s"
 rw [show ([V.int 8,.int 9,.int ((m:Int)+1)] ++ (List.replicate k (ys.length:Int)).map V.int)=(([8,9,(m:Int)+1] ++ List.replicate k (ys.length:Int):List Int)).map V.int by rw [List.map_append];rfl]
 have S6:=(Same.refl H5).upd n6 (o:=.lst (([8,9,(m:Int)+1] ++ List.replicate k (ys.length:Int):List Int).map V.int))
 have h6:=aj (H:=H5) (a:=p6) (o:=.lst (([8,9,(m:Int)+1] ++ List.replicate k (ys.length:Int):List Int).map V.int))
 generalize upd H5 p6 (.lst (([8,9,(m:Int)+1] ++ List.replicate k (ys.length:Int):List Int).map V.int))=H6 at S6 h6 ⊢
 walk_at "s"
 have hbs:∀ x∈([8,9,(m:Int)+1] ++ List.replicate k (ys.length:Int):List Int),0 < x/\x < 1073741824:=fun x hx=>by
  rcases List.mem_append.mp hx with h | h
  ·simp only [List.mem_cons,List.mem_nil_iff,or_false] at h
   rcases h with rfl | rfl | rfl <;> omega
  ·rw [List.eq_of_mem_replicate h];omega
 refine ⟨n,p6,_,rfl,h6,by simp;omega,hbs,fun p7 ms H7 n7 S7 h7 hF=>?_⟩
 walk_at "s"
 have U7:=U2.trans (S3.trans (S4.trans (S5.trans (S6.trans S7))))
 have hml:ms.length=k+3:=by rw [hF.1,List.length_append,List.length_replicate];show 3+k=k+3;omega
 have hms:∀ i,i < k->∃ c:Nat,ms[3+i]?=some (c:Int)/\c < ys.length:=fun i hi=>by
  obtain ⟨v,hv⟩:∃ v,ms[3+i]?=some v:=⟨_,List.getElem?_eq_getElem (by omega)⟩
  have:=hF.2 (3+i) v (ys.length:Int) hv (by rw [List.getElem?_append_right (by simp)];simp [hi])
  exact ⟨v.toNat,by rw [hv];congr 1;omega,by omega⟩
 try walk_at "s"
 refine ⟨rfl,?_⟩
 walk_at "s"
 refine Rv h7 fun p8 H8 n8 S8 h8=>?_
 walk_at "s"
 rw [show (some (3:Int))=some ((3:Nat):Int) from rfl,z9,← List.map_drop] at h8
 refine .inl ⟨p8,rfl,⟨_,SqL.of h8⟩,?_⟩
 have ha8:=(U7.trans S8) _ _ ha
 refine zV (xs:=(ms.drop 3).map V.int) (fun i us G=>G=H8/\∃ zs:List Str,us=zs.map V.str/\zs.length=i/\XS zs) (by rw [List.length_map,List.length_drop];omega) ⟨rfl,[],rfl,rfl,fun y hy=>by cases hy⟩ ?_ ?_ ?_ ?_
 ·rintro i us G ⟨_,zs,rfl,e,_⟩
  rw [List.length_map];omega
 ·rintro i us G ⟨rfl,_⟩
  exact SqL.of h8
 ·rintro i us G v hv ⟨rfl,zs,rfl,e,hg⟩
  have hi:i < k:=by have:=(List.getElem?_eq_some_iff.mp hv).1;rw [List.length_map,List.length_drop] at this;omega
  obtain ⟨c,hc,hcl⟩:=hms i hi
  rw [List.getElem?_map,List.getElem?_drop,hc] at hv
  cases hv
  obtain ⟨y,hy⟩:∃ y,ys[c]?=some y:=⟨_,List.getElem?_eq_getElem hcl⟩
  walk_at "s"
  refine ⟨KeepSt.set rfl,?_⟩
  walk_at "s"
  refine bF (SqL.of ha8) (cu (v:=.str y) (by rw [List.getElem?_map,hy];rfl)) ?_
  walk_at "s"
  refine ⟨rfl,zs ++ [y],by rw [List.map_append];rfl,by simp;omega,fun y' hy'=>?_⟩
  rcases List.mem_append.mp hy' with h | h
  ·exact hg y' h
  ·rw [List.mem_singleton.mp h];exact hL y (List.mem_of_getElem? hy)
 ·rintro us G D H9 ⟨rfl,zs,rfl,e,hg⟩ nD S9 hD
  rw [List.length_map,List.length_drop] at e
  have h1:∀ y∈zs,y.length=1:=fun y hy=>by obtain ⟨c,rfl,_⟩:=hg y hy;exact K1 c
  try walk_at "s"
  refine zE hD (by rw [xN h1,show (Str.ofString "").length=0 by trivial];omega) ?_
  walk_at "s"
  exact q _ H9 (U7.trans (S8.trans S9)) (T8 hg (by omega))
end
local macro_rules | `(tactic| walk_at "s") => `(tactic| (with_reducible repeat (first | refine oO ?_ | walk_at "4")))
local macro_rules | `(tactic| walk_at "n") => `(tactic| (with_reducible repeat (walk_at "4")))
section
variable {P:Program} {w:World} {K:W.Frag} {mg:Str->Option Value} {base:Heap}
theorem T9:aP aZ "_law_table":=by trivial
theorem Ua:bR aZ "range":=by trivial
theorem N6:bR aZ "len":=by trivial
theorem X6:aP aZ "_law_top":=by trivial
theorem X7:aP aZ "_law_begin":=by trivial
theorem Ub:aP aZ "_law_costs_here":=by trivial
theorem X8:aP aZ "_law_sign":=by trivial
theorem Fd:aP aZ "_law_row_here":=by trivial
theorem N7:aP aZ "_law_below":=by trivial
theorem N8:aP aZ "_law_side":=by trivial
theorem Jy:aP aZ "_law_k":=by trivial
theorem kz76:bR aZ "min":=by trivial
theorem kz77:bR aZ "int":=by trivial
theorem kz78:bR aZ "list":=by trivial
def yS (side top:Str) (b k n:Nat):List Int:=(List.range n).map fun p=>((dd (qz side top) b p k:Nat):Int)
theorem Cu (side top:Str) (b k n:Nat):(yS side top b k n).length=n:=by unfold yS;simp
theorem uJ {side top:Str} {b k n p:Nat} (h:p < n):((yS side top b k n).map V.int)[p]?=some (.int ((dd (qz side top) b p k:Nat):Int)):=by
 unfold yS;rw [List.getElem?_map,List.getElem?_map,List.getElem?_range h];rfl
theorem Jz (side top:Str) (b k n:Nat):(yS side top b k n).map V.int ++ [.int ((dd (qz side top) b n k:Nat):Int)]=(yS side top b k (n+1)).map V.int:=by
 unfold yS;rw [List.range_succ,List.map_append,List.map_append];rfl
def Pu (side top:Str) (b n:Nat):List Int:=(List.range n).map fun k=>((dd (qz side top) b side.cps.size k:Nat):Int)
theorem JC (side top:Str) (b n:Nat):(Pu side top b n).map V.int ++ [.int ((dd (qz side top) b side.cps.size n:Nat):Int)]=(Pu side top b (n+1)).map V.int:=by
 unfold Pu;rw [List.range_succ,List.map_append,List.map_append];rfl
theorem Oa (side top:Str) (b n:Nat):(Pu side top b n).length=n:=by unfold Pu;simp
theorem Fe {vs:List V} {n:Nat} {v:V} (hl:vs.length=n+1) (h:vs[n]?=some v):wX vs (-1)=some v:=by
 unfold wX Fq
 rw [if_neg (by omega),if_pos (by omega)]
 show vs[(-1+(vs.length:Int)).toNat]?=some v
 rw [show (-1+(vs.length:Int)).toNat=n by omega]
 exact h
theorem Ob (a b:Nat):decide (V.str ⟨#[a]⟩=V.str ⟨#[b]⟩)=decide (a=b):=by
 refine decide_eq_decide.mpr ⟨fun h=>?_,fun h=>by rw [h]⟩
 have:=Str.mk.inj (V.str.inj h)
 simpa using this
def Oc (K:W.Frag):Sp:=fun vs H Q _=>∃ (side top:Str),vs=[.str side,.str top]/\Pln side/\Pln top/\∀ q rs H',H q=none->Same H H'->H' q=some (.lst rs)->CT H' rs (top.cps.size+1) (m9 side top)->Q (.ref q) H'
theorem cH:aD ["_law_side","_law_top","_law_table","_law_begin","_law_row_here","_law_costs_here","_law_sign","_law_below","_law_k"] ["_law_side","_law_top"] (az aZ):=⟨rfl,rfl,rfl,by trivial,rfl,by trivial,by trivial⟩
theorem kh (T:Txt K mg):my P w K mg base 1 "_law_costs" ["_law_side","_law_top"] (Oc K):=by
 refine gB T.d_law_costs cH (fun _ _ _ _ _ _ us hl=>L2.qI (fun _ _=>rfl) us hl) ?_ fun f cdv A outer s H vs Q E hr h=>?_
 ·rintro vs H Q E ⟨side,top,rfl,_⟩;rfl
 obtain ⟨side,top,rfl,ps,pt,q⟩:=h
 have hu:=hr.units0
 have hu64:=hr.units
 refine ⟨_,(au (aK (i:=2) cH.nd rfl (Or.inl T9) (dH ao) rfl) (au (dB PassesOwn.never rfl (fO (bf Ua) T.b_range (aa (bG aU (aF (aG (K:=K) rfl) (bf N6) T.b_len bz (aa (aq 1 X6) ao) (by trivial) (by trivial)) aC) ao)) (aO (i:=3) cH.nd rfl (Or.inl X7) rfl) (au (aK (i:=4) cH.nd rfl (Or.inl Fd) (zP rfl (bf kz78) T.b_list (bf Ua) T.b_range (aa (bG aU (aF (aG (K:=K) rfl) (bf N6) T.b_len bz (aa (aq 0 N8) ao) (by trivial) (by trivial)) aC) ao)) rfl) (au (aK (i:=5) cH.nd rfl (Or.inl Ub) (dH (aa (aF (aG (K:=K) rfl) (bf N6) T.b_len bz (aa (aq 0 N8) ao) (by trivial) (by trivial)) ao)) rfl) (au (dB PassesOwn.never rfl (lM (K:=K) rfl (wj (BW (K:=K) rfl) (aq 1 X6) (sV (aq 3 X7)) Bs)) (aO (i:=6) cH.nd rfl (Or.inl X8) rfl) (au (aK (i:=7) cH.nd rfl (Or.inl N7) (dH (aa (bG aU (dh (K:=K) rfl (aq 4 Fd) aC) aC) ao)) rfl) (au (dB PassesOwn.never rfl (fO (bf Ua) T.b_range (aa (aF (aG (K:=K) rfl) (bf N6) T.b_len bz (aa (aq 0 N8) ao) (by trivial) (by trivial)) ao)) (aO (i:=8) cH.nd rfl (Or.inl Jy) rfl) (aA (bh (cR (K:=K) rfl PySem.F.plainAttrs_list PySem.F.slot_list_append PySem.F.type_list_append bw (aq 7 N7) (aa (aF (En rfl) (bf kz76) T.b_min G9 (aa (bG aU (dh (K:=K) rfl (aq 4 Fd) (bG aU (aq 8 Jy) aC)) aC) (aa (bG aU (dh (K:=K) rfl (aq 7 N7) (aq 8 Jy)) aC) (aa (bG aU (dh (K:=K) rfl (aq 4 Fd) (aq 8 Jy)) (pY CQ (bf kz77) T.b_int zA (aa (xP (qP (K:=K) rfl hu64) (dh (K:=K) rfl (aq 0 N8) (aq 8 Jy)) (aq 6 X8) (by walk_at "p")) ao) (by trivial) (by trivial))) ao))) (by trivial) (by trivial)) ao))))) (au (aK (i:=4) cH.nd rfl (Or.inl Fd) (aq 7 N7) rfl) (aA (bh (cR (K:=K) rfl PySem.F.plainAttrs_list PySem.F.slot_list_append PySem.F.type_list_append bw (aq 5 Ub) (aa (dh (K:=K) rfl (aq 4 Fd) (VD Gf aC)) ao)))))))) (aA (bh (cR (K:=K) rfl PySem.F.plainAttrs_list PySem.F.slot_list_append PySem.F.type_list_append bw (aq 2 T9) (aa (aq 5 Ub) ao)))))))) (aA (aL (aq 2 T9))))),?_⟩
 walk_at "s"
 have hs:20000<=sizeLine:=by decide
 have l1:side.cps.size<=24:=ps.1
 have l2:top.cps.size<=24:=pt.1
 have e1:side.length=side.cps.size:=rfl
 have e2:top.length=top.cps.size:=rfl
 refine cG rfl fun tb H1 ntb S1 htb=>?_
 walk_at "s"
 refine dM (by omega) ?_
 walk_at "s"
 refine ⟨_,rfl,by omega,by omega,?_⟩
 rw [show ((top.length:Int)+1).toNat=top.cps.size+1 by omega]
 refine lB (n:=top.cps.size+1) (fun i U G=>Same H G/\(∃ rs,G tb=some (.lst rs)/\CT (Hx tb G) rs i (m9 side top))/\∃ x3 x4 x5 x6 x7 x8,U=[some (.str side),some (.str top),some (.ref tb),x3,x4,x5,x6,x7,x8]) ⟨S1,⟨[],htb,rfl,fun k hk=>absurd hk (Nat.not_lt_zero _)⟩,_,_,_,_,_,_,rfl⟩ ?_ ?_
 ·rintro i U G hi ⟨sG,⟨rs,htG,hT⟩,x3,x4,x5,x6,x7,x8,rfl⟩
  rw [Int.zero_add]
  walk_at "s"
  refine dM (by omega) ?_
  walk_at "s"
  refine ⟨side.cps.size+1,by rw [e1];congr 2,by omega,fun r nr=>?_⟩
  have er:((List.range (side.cps.size+1)).map fun i:Nat=>V.int (0+(i:Int)*1))=(yS side top i 0 (side.cps.size+1)).map V.int:=by
   unfold yS
   rw [List.map_map]
   refine List.map_congr_left fun p _=>?_
   show V.int (0+(p:Int)*1)=V.int ((dd (qz side top) i p 0:Nat):Int)
   rw [Tq];congr 1;omega
  rw [er]
  have S2:=(Same.refl G).upd nr (o:=.lst ((yS side top i 0 (side.cps.size+1)).map V.int))
  have hr2:=aj (H:=G) (a:=r) (o:=.lst ((yS side top i 0 (side.cps.size+1)).map V.int))
  generalize upd G r (.lst ((yS side top i 0 (side.cps.size+1)).map V.int))=G2 at S2 hr2 ⊢
  walk_at "s"
  refine dM (by omega) ?_
  walk_at "s"
  refine cG rfl fun c G3 nc S3 hc=>?_
  walk_at "s"
  replace hc:G3 c=some (.lst ((Pu side top i 1).map V.int)):=by
   rw [hc];unfold Pu;simp [Tq,e1]
  refine Ru (by omega) ?_
  walk_at "s"
  have ez:=zM top i
  generalize Txt.slice top (some (i:Int)) none=z at ez ⊢
  have zl:z.length=top.cps.size - i:=by
   have:z.length=z.cps.toList.length:=by simp [Str.length]
   rw [this,ez];simp
  refine .inr (.inr ⟨z,rfl,?_⟩)
  have hr3:=S3 _ _ hr2
  refine K4 (fun j U J=>Same G2 J/\J c=some (.lst ((Pu side top i (j+1)).map V.int))/\(∃ r,J r=some (.lst ((yS side top i j (side.cps.size+1)).map V.int))/\∃ x6 x7 x8,U=[some (.str side),some (.str top),some (.ref tb),some (.int (i:Int)),some (.ref r),some (.ref c),x6,x7,x8])) ⟨S3,hc,r,hr3,_,_,_,rfl⟩ ?_ ?_
  ·rintro j U J d hd ⟨sJ,hcJ,r,hrJ,y6,y7,y8,rfl⟩
   rw [ez,List.getElem?_drop] at hd
   have hij:i+j < top.cps.size:=by simpa using (List.getElem?_eq_some_iff.mp hd).1
   have hdt:top.cps.getD (i+j) 0=d:=by
    rw [Array.getD_eq_getD_getElem?,← Array.getElem?_toList,hd];rfl
   walk_at "s"
   refine bF (SqL.of hrJ) (cu (j:=0) (uJ (by omega))) ?_
   walk_at "s"
   refine cG rfl fun b J2 nb T2 hb=>?_
   walk_at "s"
   replace hb:J2 b=some (.lst ((yS side top i (j+1) 1).map V.int)):=by
    rw [hb];unfold yS;simp [Xo]
   refine dM (by omega) ?_
   walk_at "s"
   refine ⟨_,rfl,by omega,by omega,?_⟩
   rw [show ((side.length:Nat):Int).toNat=side.cps.size by omega]
   refine lB (n:=side.cps.size) (fun k U L=>Same J L/\L b=some (.lst ((yS side top i (j+1) (k+1)).map V.int))/\∃ x8,U=[some (.str side),some (.str top),some (.ref tb),some (.int (i:Int)),some (.ref r),some (.ref c),some (.str ⟨#[d]⟩),some (.ref b),x8]) ⟨T2,hb,_,rfl⟩ ?_ ?_
   ·rintro k U L hk ⟨sL,hbL,z8,rfl⟩
    rw [Int.zero_add]
    have hsk:side.cps.toList[k]?=some (side.cps.getD k 0):=by
     rw [Array.getD_eq_getD_getElem?,← Array.getElem?_toList,List.getElem?_eq_getElem (by simpa using hk)];rfl
    have hrL:=sL _ _ hrJ
    walk_at "s"
    refine ⟨.inl ⟨rfl,_,SqL.of hbL⟩,?_⟩
    walk_at "s"
    refine bF (SqL.of hrL) (v9 (by omega) (by rw [show ((k:Int)+1).toNat=k+1 by omega];exact uJ (by omega))) ?_
    walk_at "s"
    refine bF (SqL.of hbL) (cu (uJ (by omega))) ?_
    walk_at "s"
    refine bF (SqL.of hrL) (cu (uJ (by omega))) ?_
    walk_at "s"
    refine O2 (by omega) (cu hsk) ?_
    walk_at "s"
    have hch:(!decide (V.str ⟨#[side.cps.getD k 0]⟩=V.str ⟨#[d]⟩))=!qz side top k (i+j):=by
     rw [Ob,← hdt];rfl
    rw [hch]
    refine .inr ⟨_,rfl,?_⟩
    walk_at "s"
    intro M hM m1 m2 m3
    walk_at "s"
    have eM:M=((dd (qz side top) i (k+1) (j+1):Nat):Int):=by
     rw [Xp]
     cases hb:qz side top k (i+j) with
     | true=>
      rw [hb,if_neg (by decide)] at hM m3
      rw [if_pos rfl];omega
     | false=>
      rw [hb,if_pos (show (!false)=true from rfl)] at hM m3
      rw [if_neg (by decide)];omega
    rw [eM]
    refine bA hbL (by rw [List.length_map,Cu];omega) ?_
    walk_at "s"
    rw [Jz]
    exact ⟨Same.put sL nb,aj,_,rfl⟩
   ·rintro U L ⟨sL,hbL,z8,rfl⟩
    walk_at "s"
    refine ⟨.inl ⟨rfl,_,SqL.of (sL _ _ hcJ)⟩,?_⟩
    walk_at "s"
    refine bF (SqL.of hbL) (Fe (n:=side.cps.size) (by rw [List.length_map,Cu]) (uJ (by omega))) ?_
    walk_at "s"
    refine bA (sL _ _ hcJ) (by rw [List.length_map,Oa];omega) ?_
    walk_at "s"
    rw [JC]
    have bc:b≠c:=fun z=>by rw [z,hcJ] at nb;cases nb
    exact ⟨Same.put (sJ.trans sL) nc,aj,b,by rw [aB bc];exact hbL,_,_,_,rfl⟩
  ·rintro U J ⟨sJ,hcJ,r,hrJ,y6,y7,y8,rfl⟩
   rw [show z.length=top.cps.size - i from zl] at hcJ
   walk_at "s"
   have htJ:=(S2.trans sJ) _ _ htG
   refine ⟨.inl ⟨rfl,_,SqL.of htJ⟩,?_⟩
   walk_at "s"
   refine bA htJ (by rw [hT.1];omega) ?_
   walk_at "s"
   have U:=sG.trans (S2.trans sJ)
   have ctb:c≠tb:=fun z=>by rw [z,S2 _ _ htG] at nc;cases nc
   refine ⟨Same.put U ntb,⟨_,aj,?_⟩,_,_,_,_,_,_,rfl⟩
   rw [TQ]
   refine (hT.same (Xz (S2.trans sJ))).push (uI ?_ ctb)
   rw [hcJ]
   rfl
 ·rintro U G ⟨sG,⟨rs,htG,hT⟩,x3,x4,x5,x6,x7,x8,rfl⟩
  walk_at "s"
  exact q tb rs G ntb sG htG (hT.same (tE tb G))
end
local macro_rules | `(tactic| walk_at "s") => `(tactic| (with_reducible repeat (first | refine oO ?_ | walk_at "3")))
local macro_rules | `(tactic| walk_at "n") => `(tactic| (with_reducible repeat (walk_at "3")))
section
variable {P:Program} {w:World} {K:W.Frag} {mg:Str->Option Value} {base:Heap}
theorem kz79:bR cT "sorted":=by trivial
theorem Uc:aP cT "_law_found":=by trivial
theorem Yb:bR cT "range":=by trivial
theorem Yc:bR cT "len":=by trivial
theorem Od:aP cT "_law_costs_here":=by trivial
theorem Ff:aP cT "_law_begin":=by trivial
theorem Oe:aP cT "_law_many":=by trivial
theorem kz7g:aP cT "_law_most":=by trivial
def Og (K:W.Frag):Sp:=fun vs H Q _=>∃ (t:Addr) (rs:List V) (side top:Str) (most:Nat),vs=[.ref t,.int most]/\H t=some (.lst rs)/\CT H rs (top.cps.size+1) (m9 side top)/\top.cps.size<=24/\∀ q L H',H q=none->Same H H'->NrL H' q side top most L->Q (.ref q) H'
theorem kj:aD ["_law_costs_here","_law_most","_law_found","_law_begin","_law_many"] ["_law_costs_here","_law_most"] (az cT):=⟨rfl,rfl,rfl,by trivial,rfl,by trivial,by trivial⟩
theorem mq (T:Txt K mg):my P w K mg base 1 "_law_near" ["_law_costs_here","_law_most"] (Og K):=by
 refine gB T.d_law_near kj (fun _ _ _ _ _ _ us hl=>L2.qI (fun _ _=>rfl) us hl) ?_ fun f cdv A outer s H vs Q E hr h=>?_
 ·rintro vs H Q E ⟨t,rs,side,top,most,rfl,_⟩;rfl
 obtain ⟨t,rs,side,top,most,rfl,ht,hT,l2,q⟩:=h
 have hu:=hr.units0
 have hu64:=hr.units
 refine ⟨_,(au (aK (i:=2) kj.nd rfl (Or.inl Uc) (dH ao) rfl) (au (dB PassesOwn.never rfl (fO (bf Yb) T.b_range (aa (aF (aG (K:=K) rfl) (bf Yc) T.b_len bz (aa (aq 0 Od) ao) (by trivial) (by trivial)) ao)) (aO (i:=3) kj.nd rfl (Or.inl Ff) rfl) (aA (dB PassesOwn.never rfl (vD (bf Yb) T.b_range (aa aC (aa (aF (aG (K:=K) rfl) (bf Yc) T.b_len bz (aa (dh (K:=K) rfl (aq 0 Od) (aq 3 Ff)) ao) (by trivial) (by trivial)) ao))) (aO (i:=4) kj.nd rfl (Or.inl Oe) rfl) (aA (dz (cQ Bb (dh (K:=K) rfl (dh (K:=K) rfl (aq 0 Od) (aq 3 Ff)) (aq 4 Oe)) (aq 1 kz7g) (by walk_at "p")) (aA (bh (cR (K:=K) rfl PySem.F.plainAttrs_list PySem.F.slot_list_append PySem.F.type_list_append bw (aq 2 Uc) (aa (mD (aa (dh (K:=K) rfl (dh (K:=K) rfl (aq 0 Od) (aq 3 Ff)) (aq 4 Oe)) (aa (aq 3 Ff) (aa (bG aU (aq 3 Ff) (aq 4 Oe)) ao)))) ao)))) cF))))) (aA (aL (aF qm (bf kz79) T.b_sorted vA (aa (aq 2 Uc) ao) (by trivial) (by trivial)))))),?_⟩
 walk_at "s"
 have hs:20000<=sizeLine:=by decide
 have hrl:rs.length=top.cps.size+1:=hT.1
 refine cG rfl fun f H1 nf S1 hf=>?_
 walk_at "s"
 have tf:t≠f:=fun z=>by rw [z,nf] at ht;cases ht
 have ht1:Hx f H1 t=some (.lst rs):=uI (S1 _ _ ht) tf
 have hT1:CT (Hx f H1) rs (top.cps.size+1) (m9 side top):=⟨hT.1,fun k hk=>by
  obtain ⟨a,e,ha⟩:=hT.2 k hk
  exact ⟨a,e,uI (S1 _ _ ha) fun z=>by rw [z,nf] at ha;cases ha⟩⟩
 have U1:Same H (Hx f H1):=fun b o e=>uI (S1 _ _ e) (fun z=>by rw [z,nf] at e;cases e)
 refine il (SqL.of (S1 _ _ ht)) ?_
 walk_at "s"
 rw [hrl]
 refine ⟨_,rfl,by omega,by omega,?_⟩
 rw [show ((top.cps.size+1:Nat):Int).toNat=top.cps.size+1 by omega]
 refine lB (n:=top.cps.size+1) (fun i U G=>Same (Hx f H1) G/\(∃ ys,G f=some (.lst ys)/\R3 G ys (Ju side top most i))/\∃ x3 x4,U=[some (.ref t),some (.int most),some (.ref f),x3,x4]) ⟨tE f H1,⟨[],hf,R3.nil⟩,_,_,rfl⟩ ?_ ?_
 ·rintro i U G hi ⟨sG,⟨ys,hfG,hR⟩,x3,x4,rfl⟩
  rw [Int.zero_add]
  obtain ⟨a,ea,ha⟩:=hT1.2 i hi
  walk_at "s"
  refine bF (SqL.of (sG _ _ ht1)) (cu ea) ?_
  walk_at "s"
  refine il (SqL.of (sG _ _ ha)) ?_
  walk_at "s"
  rw [List.length_map,qD]
  refine ⟨by omega,?_⟩
  rw [show (((top.cps.size - i+1:Nat):Int) - 1).toNat=top.cps.size - i by omega]
  refine lB (n:=top.cps.size - i) (fun j U J=>Same (Hx f H1) J/\(∃ ys,J f=some (.lst ys)/\R3 J ys (Ju side top most i ++ nr side top most i j))/\∃ x4,U=[some (.ref t),some (.int most),some (.ref f),some (.int (i:Int)),x4])
   ⟨sG,⟨ys,hfG,by rw [show nr side top most i 0=[] from rfl,List.append_nil];exact hR⟩,_,rfl⟩ ?_ ?_
  ·rintro j U J hj ⟨sJ,⟨zs,hfJ,hRJ⟩,y4,rfl⟩
   have hzl:zs.length<=700:=by
    have e1:=hRJ.1
    rw [List.length_append] at e1
    have:=Ao side top most i j
    have:=qG (side:=side) (most:=most) l2 (n:=i) (by omega)
    omega
   have haJ:=sJ _ _ ha
   have hat:wX ((m9 side top i).map V.int) ((1:Int)+(j:Int))=some (.int ((dd (qz side top) i side.cps.size (j+1):Nat):Int)):=v9 (by omega) (by rw [show ((1:Int)+(j:Int)).toNat=j+1 by omega,List.getElem?_map,Cr (by omega)];rfl)
   walk_at "s"
   refine bF (SqL.of (sJ _ _ ht1)) (cu ea) ?_
   walk_at "s"
   refine bF (SqL.of haJ) hat ?_
   walk_at "s"
   by_cases hle:dd (qz side top) i side.cps.size (j+1)<=most
   ·rw [decide_eq_true (show ((dd (qz side top) i side.cps.size (j+1):Nat):Int)<=(most:Int) by omega)]
    walk_at "s"
    refine ⟨.inl ⟨rfl,_,SqL.of hfJ⟩,?_⟩
    walk_at "s"
    refine bF (SqL.of (sJ _ _ ht1)) (cu ea) ?_
    walk_at "s"
    refine bF (SqL.of haJ) hat ?_
    walk_at "s"
    refine cG rfl fun w J6 nw S6 hw=>?_
    walk_at "s"
    refine bA (S6 _ _ hfJ) (by omega) ?_
    walk_at "s"
    refine ⟨fun b o e=>?_,⟨_,aj,?_⟩,_,rfl⟩
    ·rw [aB (Pr e)];exact S6 _ _ (sJ _ _ e)
    ·rw [qF,if_pos hle,← List.append_assoc]
     refine R3.put ((hRJ.same S6).push ⟨w,rfl,?_⟩) (Jt (S6 _ _ hfJ))
     rw [hw]
     unfold v3
     rw [show (i:Int)+(1+(j:Int))=((i+(j+1):Nat):Int) by omega]
   ·rw [decide_eq_false (show ¬ ((dd (qz side top) i side.cps.size (j+1):Nat):Int)<=(most:Int) by omega)]
    walk_at "s"
    refine ⟨sJ,⟨zs,hfJ,?_⟩,_,rfl⟩
    rw [qF,if_neg hle,List.append_nil]
    exact hRJ
  ·rintro U J ⟨sJ,⟨zs,hfJ,hRJ⟩,y4,rfl⟩
   refine ⟨sJ,⟨zs,hfJ,?_⟩,_,_,rfl⟩
   rw [uH]
   exact hRJ
 ·rintro U G ⟨sG,⟨ys,hfG,hR⟩,x3,x4,rfl⟩
  walk_at "s"
  refine Cq hfG hR (Nat.le_trans (qG l2 (by omega)) (by omega)) fun r zs G2 L nr S2 hr2 hRL pe pw=>?_
  have U:=U1.trans sG
  exact q r L G2 (Same.back U nr) (U.trans S2) ⟨zs,hr2,hRL,pe,pw⟩
theorem NrL.uniq {H H':Hp} {q q':Addr} {side top:Str} {most:Nat} {L L':List P3} (h:NrL H q side top most L) (h':NrL H' q' side top most L'):L=L':=by
 obtain ⟨_,_,_,a,b⟩:=h
 obtain ⟨_,_,_,c,d⟩:=h'
 exact Xu b d (a.trans c.symm)
theorem Yd:bR bY "near":=by trivial
theorem Ye:aP bY "_law_most":=by trivial
theorem Yg:aP bY "_law_top":=by trivial
theorem Yh:aP bY "_law_side":=by trivial
theorem Yi:aP bY "_law_due":=by trivial
theorem Oh:aP bY "_law_found":=by trivial
theorem kz7n:bR bY "_law_tuples":=by trivial
theorem Ar:aP bj "_law_watch":=by trivial
theorem Ud:aP bj "_law_most":=by trivial
theorem Ue:aP bj "_law_top":=by trivial
theorem Ug:aP bj "_law_side":=by trivial
theorem Yj:bR bj "_law_tuples":=by trivial
theorem Yk:aP bj "_law_due":=by trivial
theorem Yl:aP bj "_law_beside":=by trivial
theorem kz7v:aP bj "_law_other":=by trivial
theorem Oi:aP bj "_law_found":=by trivial
theorem Ym:bR bj "Watch":=by trivial
theorem Yn:bR bC "_law_watched":=by trivial
theorem Uh:aP bC "_law_other":=by trivial
theorem JD:aP bC "_law_due":=by trivial
theorem Fg:aP bC "_law_most":=by trivial
theorem Oj:aP bC "_law_top":=by trivial
theorem Ol:aP bC "_law_side":=by trivial
theorem Yo:bR bC "_law_listed":=by trivial
theorem kz85:aP bC "_law_first":=by trivial
theorem Yp:bR bC "_law_near":=by trivial
theorem Yq:aP bC "_law_costs_here":=by trivial
theorem Cv (L:List P3):∀ t∈L.map i3,t.length=3:=fun t ht=>by
 obtain ⟨p,_,rfl⟩:=List.mem_map.mp ht
 rfl
theorem NrL.few {H:Hp} {q:Addr} {side top:Str} {most:Nat} {L:List P3} (h:NrL H q side top most L) (h2:top.cps.size<=24):L.length<=600:=by
 obtain ⟨_,_,_,a,_⟩:=h
 rw [a.length_eq];exact qG h2 (by omega)
theorem NrL.dr {H:Hp} {q:Addr} {side top:Str} {most:Nat} {L:List P3} (h:NrL H q side top most L):DR H (Xr (L.map i3)) (.ref q):=by
 obtain ⟨ys,a,b,_⟩:=h
 exact RT.dr b.rt a
theorem yM (L:List P3):PySem.SeqAt.shaped (Xr (L.map i3))=true:=zO (Tr _) (by omega)
def JF (K:W.Frag):Sp:=fun vs H Q _=>∃ (side top:Str) (most:Nat) (du:Addr) (L:List P3),vs=[.str side,.str top,.int most,.ref du]/\Pln side/\Pln top/\most<=48/\NrL H du side top most L/\∀ H',Same H H'->Q (.bl true) H'
theorem oY:aD ["_law_side","_law_top","_law_most","_law_due","_law_found"] ["_law_side","_law_top","_law_most","_law_due"] (az bY):=⟨rfl,rfl,rfl,by trivial,rfl,by trivial,by trivial⟩
theorem jK (T:Txt K mg):my P w K mg base 14 "_law_listed" ["_law_side","_law_top","_law_most","_law_due"] (JF K):=by
 have pL:=pL (P:=P) (w:=w) (base:=base) T
 have dO:=dO (P:=P) (w:=w) (base:=base) T
 refine gB T.d_law_listed oY (fun _ _ _ _ _ _ us hl=>L2.Py (fun _ _ _ _=>rfl) us hl) ?_ fun f cdv A outer s H vs Q E hr h=>?_
 ·rintro vs H Q E ⟨side,top,most,du,L,rfl,_⟩;rfl
 obtain ⟨side,top,most,du,L,rfl,ps,pt,hm,hN,q⟩:=h
 have hu:=hr.units0
 have hu64:=hr.units
 refine ⟨_,(au (aK (i:=4) oY.nd rfl (Or.inl Oh) (aH pL (hr.mono (by decide)) (bf Yd) (aa (aq 0 Yh) (aa (aq 1 Yg) (aa (aq 2 Ye) ao))) (by trivial)) rfl) (au (dz (mL (oU (eQ (eU (aH dO (hr.mono (by decide)) (bf kz7n) (aa (aq 4 Oh) (aa aC ao)) (by trivial)))) (lL (cQ (qP (K:=K) rfl hu64) (aq 4 Oh) (aq 3 Yi) (by walk_at "p"))))) (aA (aL oJ)) cF) (au (bh (cR (K:=K) rfl PySem.F.plainAttrs_list PySem.F.slot_list_append PySem.F.type_list_append bw (aq 4 Oh) (aa (mD (aa aC (aa aC (aa aC ao)))) ao))) (aA (aL (xP (wy (K:=K) rfl hu64) (aH pL (hr.mono (by decide)) (bf Yd) (aa (aq 0 Yh) (aa (aq 1 Yg) (aa (aq 2 Ye) ao))) (by trivial)) (aq 3 Yi) (by walk_at "p"))))))),?_⟩
 walk_at "s"
 have hs:20000<=sizeLine:=by decide
 refine ⟨side,top,most,rfl,ps,pt,hm,fun f L1 H1 nf S1 h1=>?_⟩
 walk_at "s"
 obtain rfl:=h1.uniq hN
 obtain ⟨ys,a1,a2,_⟩:=id h1
 refine ⟨f,ys,L1.map i3,3,rfl,a1,a2.rt,Cv L1,by omega,by rw [List.length_map];have:=h1.few pt.1;omega,fun H2 S2=>?_⟩
 walk_at "s"
 have U2:=S1.trans S2
 refine qb (h1.same S2).dr (hN.same U2).dr (yM L1) ?_
 walk_at "s"
 have b1:=S2 _ _ a1
 refine ⟨.inl ⟨rfl,_,SqL.of b1⟩,?_⟩
 walk_at "s"
 refine cG rfl fun w H3 nw S3 hw=>?_
 walk_at "s"
 refine bA (S3 _ _ b1) (by rw [a2.1];have:=h1.few pt.1;omega) ?_
 walk_at "s"
 have U4:Same H (upd H3 f (.lst (ys ++ [.ref w]))):=Same.put (U2.trans S3) nf
 generalize upd H3 f (.lst (ys ++ [.ref w]))=H4 at U4 ⊢
 walk_at "s"
 refine ⟨side,top,most,rfl,ps,pt,hm,fun g L2 H5 ng S5 h5=>?_⟩
 walk_at "s"
 obtain rfl:=h5.uniq hN
 refine .inl (.inl (Hj h5.dr (hN.same (U4.trans S5)).dr (yM L2) ?_))
 walk_at "s"
 exact q H5 (U4.trans S5)
theorem Ui {H:Hp} {a:Addr} {n:Int} (h:H a=some (.tup [.int n])):RT H [.ref a] [[n]]:=by
 have:RT H ([] ++ [.ref a]) ([] ++ [[n]]):=RT.push RT.nil ⟨a,rfl,h⟩
 exact this
def Fi (K:W.Frag):Sp:=fun vs H Q _=>∃ (side top:Str) (most:Nat) (du ot:Addr) (L L':List P3),vs=[.str side,.str top,.int most,.ref du,.ref ot]/\Pln side/\Pln top/\most<=48/\NrL H du side top most L/\NrL H ot top side most L'/\∀ H',Same H H'->Q (.bl true) H'
theorem iC:aD ["_law_side","_law_top","_law_most","_law_due","_law_other","_law_watch","_law_beside","_law_found"] ["_law_side","_law_top","_law_most","_law_due","_law_other"] (az bj):=⟨rfl,rfl,rfl,by trivial,rfl,by trivial,by trivial⟩
theorem iZ (T:Txt K mg):my P w K mg base 16 "_law_watched" ["_law_side","_law_top","_law_most","_law_due","_law_other"] (Fi K):=by
 have fP:=fP (P:=P) (w:=w) (base:=base) T
 have iB:=iB (P:=P) (w:=w) (base:=base) T
 have dO:=dO (P:=P) (w:=w) (base:=base) T
 have jJ:=jJ (P:=P) (w:=w) (base:=base) T
 have mj:=mj (P:=P) (w:=w) (base:=base) T
 have ni:=ni (P:=P) (w:=w) (base:=base) T
 refine gB T.d_law_watched iC (fun _ _ _ _ _ _ us hl=>L2.Pz (fun _ _ _ _ _=>rfl) us hl) ?_ fun f cdv A outer s H vs Q E hr h=>?_
 ·rintro vs H Q E ⟨side,top,most,du,ot,L,L',rfl,_⟩;rfl
 obtain ⟨side,top,most,du,ot,L,L',rfl,ps,pt,hm,hN,hO,q⟩:=h
 have hu:=hr.units0
 have hu64:=hr.units
 refine ⟨_,(au (aK (i:=5) iC.nd rfl (Or.inl Ar) (nu T.o_Watch fP (hr.mono (by decide)) (bf Ym) (jz fun _ _=>rfl) (aa (aq 0 Ug) (aa (aq 1 Ue) (aa (aq 2 Ud) ao))) (by trivial)) rfl) (au (aK (i:=6) iC.nd rfl (Or.inl Yl) (nu T.o_Watch fP (hr.mono (by decide)) (bf Ym) (jz fun _ _=>rfl) (aa (aq 1 Ue) (aa (aq 0 Ug) (aa (aq 2 Ud) ao))) (by trivial)) rfl) (au (aK (i:=7) iC.nd rfl (Or.inl Oi) (iu (aq 5 Ar) T.o_Watch iB (hr.mono (by decide)) (jz fun _ _=>rfl)) rfl) (au (dz (mL (oU (eQ (eU (aH dO (hr.mono (by decide)) (bf Yj) (aa (aq 7 Oi) (aa aC ao)) (by trivial)))) (lL (cQ (qP (K:=K) rfl hu64) (aq 7 Oi) (aq 3 Yk) (by walk_at "p"))))) (aA (aL oJ)) cF) (au (bh (cR (K:=K) rfl PySem.F.plainAttrs_list PySem.F.slot_list_append PySem.F.type_list_append bw (aq 7 Oi) (aa (mD (aa aC (aa aC (aa aC ao)))) ao))) (au (dz (mL (oU (cQ (qP (K:=K) rfl hu64) (iu (aq 6 Yl) T.o_Watch iB (hr.mono (by decide)) (jz fun _ _=>rfl)) (aq 4 kz7v) (by walk_at "p")) (oU (cQ (qP (K:=K) rfl hu64) (iu (aq 5 Ar) T.o_Watch iB (hr.mono (by decide)) (jz fun _ _=>rfl)) (aq 3 Yk) (by walk_at "p")) (lL (eQ (eU (aH dO (hr.mono (by decide)) (bf Yj) (aa (dH (aa (mD (aa (iu (aq 5 Ar) T.o_Watch jJ (hr.mono (by decide)) (jz fun _ _=>rfl)) ao)) ao)) (aa aC ao)) (by trivial)))))))) (aA (aL oJ)) cF) (aA (aL (xP (wy (K:=K) rfl hu64) (dH (aa (iu (aq 5 Ar) T.o_Watch mj (hr.mono (by decide)) (jz fun _ _=>rfl)) (aa (iu (aq 5 Ar) T.o_Watch ni (hr.mono (by decide)) (jz fun _ _=>rfl)) (aa (iu (aq 5 Ar) T.o_Watch jJ (hr.mono (by decide)) (jz fun _ _=>rfl)) ao)))) (dH (aa (aq 0 Ug) (aa (aq 1 Ue) (aa (aq 2 Ud) ao)))) (by walk_at "p")))))))))),?_⟩
 walk_at "s"
 have hs:20000<=sizeLine:=by decide
 rintro x dx nx nd _
 refine ⟨x,dx,side,top,most,rfl,aj,ps,pt,hm,fun L1 H1 C1 w1=>⟨rfl,?_⟩⟩
 have S1:=made nx nd C1
 clear C1 nx nd
 try walk_at "s"
 rintro y dy ny ny2 _
 refine ⟨y,dy,top,side,most,rfl,aj,pt,ps,hm,fun L2 H2 C2 w2=>⟨rfl,?_⟩⟩
 have S2:=made ny ny2 C2
 clear C2 ny ny2
 have U2:=S1.trans S2
 have v1:=w1.same S2
 try walk_at "s"
 obtain ⟨dx',an,ar,hx,hNn,_⟩:=id v1
 obtain ⟨dy',an',ar',hy,hNn',_⟩:=id w2
 obtain rfl:=hNn.uniq hN
 obtain rfl:=hNn'.uniq hO
 refine ⟨x,dx',_,rfl,hx,TY (by trivial),?_⟩
 walk_at "s"
 refine ⟨x,side,top,most,L1,rfl,v1,fun f H3 nf S3 h3=>?_⟩
 walk_at "s"
 obtain ⟨ys,a1,a2,_⟩:=id h3
 refine ⟨f,ys,L1.map i3,3,rfl,a1,a2.rt,Cv L1,by omega,by rw [List.length_map];have:=h3.few pt.1;omega,fun H4 S4=>?_⟩
 walk_at "s"
 have U4:=U2.trans (S3.trans S4)
 refine qb (h3.same S4).dr (hN.same U4).dr (yM L1) ?_
 walk_at "s"
 have b1:=S4 _ _ a1
 refine ⟨.inl ⟨rfl,_,SqL.of b1⟩,?_⟩
 walk_at "s"
 refine cG rfl fun w H5 nw S5 hw=>?_
 walk_at "s"
 refine bA (S5 _ _ b1) (by rw [a2.1];have:=h3.few pt.1;omega) ?_
 walk_at "s"
 have V6:Same H2 (upd H5 f (.lst (ys ++ [.ref w]))):=Same.put (S3.trans (S4.trans S5)) nf
 generalize upd H5 f (.lst (ys ++ [.ref w]))=H6 at V6 ⊢
 have U6:=U2.trans V6
 have v6:=v1.same V6
 have y6:=w2.same V6
 walk_at "s"
 refine ⟨y,dy',_,rfl,V6 _ _ hy,TY (by trivial),?_⟩
 walk_at "s"
 refine ⟨y,top,side,most,L2,rfl,y6,fun g H7 ng S7 h7=>?_⟩
 walk_at "s"
 refine qb h7.dr (hO.same (U6.trans S7)).dr (yM L2) ?_
 walk_at "s"
 refine ⟨x,dx',_,rfl,(V6.trans S7) _ _ hx,TY (by trivial),?_⟩
 walk_at "s"
 refine ⟨x,side,top,most,L1,rfl,v6.same S7,fun g2 H8 ng2 S8 h8=>?_⟩
 walk_at "s"
 have V8:=V6.trans (S7.trans S8)
 refine qb h8.dr (hN.same (U2.trans V8)).dr (yM L1) ?_
 walk_at "s"
 refine ⟨x,dx',_,rfl,V8 _ _ hx,TY (by trivial),?_⟩
 walk_at "s"
 refine ⟨x,side,top,most,L1,rfl,v1.same V8,?_⟩
 walk_at "s"
 refine cG rfl fun w2 H9 nw2 S9 hw2=>?_
 walk_at "s"
 refine cG rfl fun w3 HA nw3 SA hw3=>?_
 walk_at "s"
 refine ⟨w3,[.ref w2],[[(most:Int)]],1,rfl,hw3,Ui (SA _ _ hw2),(fun t ht=>by rw [List.mem_singleton.mp ht];rfl),by omega,by simp,fun HB SB=>?_⟩
 walk_at "s"
 have VB:=V8.trans (S9.trans (SA.trans SB))
 refine ⟨x,dx',_,rfl,VB _ _ hx,TY (by trivial),?_⟩
 walk_at "s"
 refine ⟨x,side,top,most,L1,rfl,v1.same VB,?_⟩
 walk_at "s"
 refine ⟨x,dx',_,rfl,VB _ _ hx,TY (by trivial),?_⟩
 walk_at "s"
 refine ⟨x,side,top,most,L1,rfl,v1.same VB,?_⟩
 walk_at "s"
 refine ⟨x,dx',_,rfl,VB _ _ hx,TY (by trivial),?_⟩
 walk_at "s"
 refine ⟨x,side,top,most,L1,rfl,v1.same VB,?_⟩
 walk_at "s"
 refine cG rfl fun z1 HC n1 SC hz1=>?_
 walk_at "s"
 refine cG rfl fun z2 HD n2 SD hz2=>?_
 walk_at "s"
 refine .inl (Rm (SqL.of (SD _ _ hz1)) (SqL.of hz2) (fun v hv=>.inl (by simp only [List.mem_cons,List.mem_nil_iff,or_false] at hv;rcases hv with rfl | rfl | rfl <;> rfl)) ?_)
 walk_at "s"
 exact q HD (U2.trans (VB.trans (SC.trans SD)))
def JH (K:W.Frag):Sp:=fun vs H Q _=>∃ (side top:Str) (most:Nat) (cs t1 t2:Addr) (r1 r2:List V) (n:Int),vs=[.str side,.str top,.int most,.ref cs,.int n]/\Pln side/\Pln top/\most<=48/\H cs=some (.lst [.ref t1,.ref t2])/\H t1=some (.lst r1)/\CT H r1 (top.cps.size+1) (m9 side top)/\H t2=some (.lst r2)/\CT H r2 (side.cps.size+1) (m9 top side)/\∀ H',Same H H'->Q (.bl true) H'
theorem lw:aD ["_law_side","_law_top","_law_most","_law_costs_here","_law_first","_law_due","_law_other"] ["_law_side","_law_top","_law_most","_law_costs_here","_law_first"] (az bC):=⟨rfl,rfl,rfl,by trivial,rfl,by trivial,by trivial⟩
theorem jL (T:Txt K mg):my P w K mg base 17 "_law_stands" ["_law_side","_law_top","_law_most","_law_costs_here","_law_first"] (JH K):=by
 have mq:=mq (P:=P) (w:=w) (base:=base) T
 have iZ:=iZ (P:=P) (w:=w) (base:=base) T
 have jK:=jK (P:=P) (w:=w) (base:=base) T
 refine gB T.d_law_stands lw (fun _ _ _ _ _ _ us hl=>L2.Pz (fun _ _ _ _ _=>rfl) us hl) ?_ fun f cdv A outer s H vs Q E hr h=>?_
 ·rintro vs H Q E ⟨side,top,most,cs,t1,t2,r1,r2,n,rfl,_⟩;rfl
 obtain ⟨side,top,most,cs,t1,t2,r1,r2,n,rfl,ps,pt,hm,hcs,h1,c1,h2,c2,q⟩:=h
 have hu:=hr.units0
 have hu64:=hr.units
 refine ⟨_,(au (aK (i:=5) lw.nd rfl (Or.inl JD) (aH mq (hr.mono (by decide)) (bf Yp) (aa (dh (K:=K) rfl (aq 3 Yq) aC) (aa (aq 2 Fg) ao)) (by trivial)) rfl) (au (aK (i:=6) lw.nd rfl (Or.inl Uh) (aH mq (hr.mono (by decide)) (bf Yp) (aa (dh (K:=K) rfl (aq 3 Yq) aC) (aa (aq 2 Fg) ao)) (by trivial)) rfl) (au (dz (cQ (wy (K:=K) rfl hu64) (aq 4 kz85) aC (by walk_at "p")) (aA (aL (vC (aH iZ (hr.mono (by decide)) (bf Yn) (aa (aq 0 Ol) (aa (aq 1 Oj) (aa (aq 2 Fg) (aa (aq 5 JD) (aa (aq 6 Uh) ao))))) (by trivial)) (vB (aH jK (hr.mono (by decide)) (bf Yo) (aa (aq 0 Ol) (aa (aq 1 Oj) (aa (aq 2 Fg) (aa (aq 5 JD) ao)))) (by trivial)))))) cF) (aA (aL (vC (aH jK (hr.mono (by decide)) (bf Yo) (aa (aq 0 Ol) (aa (aq 1 Oj) (aa (aq 2 Fg) (aa (aq 5 JD) ao)))) (by trivial)) (vB (aH iZ (hr.mono (by decide)) (bf Yn) (aa (aq 0 Ol) (aa (aq 1 Oj) (aa (aq 2 Fg) (aa (aq 5 JD) (aa (aq 6 Uh) ao))))) (by trivial))))))))),?_⟩
 walk_at "s"
 refine ⟨t1,r1,side,top,most,rfl,h1,c1,pt.1,fun du L H1 nd S1 hD=>?_⟩
 walk_at "s"
 have hcs1:=S1 _ _ hcs
 try walk_at "s"
 refine ⟨t2,r2,top,side,most,rfl,S1 _ _ h2,c2.same S1,ps.1,fun ot L' H2 no S2 hO=>?_⟩
 walk_at "s"
 have U2:=S1.trans S2
 have hD2:=hD.same S2
 refine qO (fun h0=>?_) (fun h0=>?_)
 ·walk_at "s"
  refine ⟨side,top,most,du,ot,L,L',rfl,ps,pt,hm,hD2,hO,fun H3 S3=>?_⟩
  walk_at "s"
  refine ⟨side,top,most,du,L,rfl,ps,pt,hm,hD2.same S3,fun H4 S4=>?_⟩
  walk_at "s"
  exact q H4 (U2.trans (S3.trans S4))
 ·walk_at "s"
  refine ⟨side,top,most,du,L,rfl,ps,pt,hm,hD2,fun H3 S3=>?_⟩
  walk_at "s"
  refine ⟨side,top,most,du,ot,L,L',rfl,ps,pt,hm,hD2.same S3,hO.same S3,fun H4 S4=>?_⟩
  walk_at "s"
  exact q H4 (U2.trans (S3.trans S4))
theorem Uj:aP fJ "_law_last":=by trivial
theorem Om:aP fJ "_law_script":=by trivial
theorem Yr:aP fJ "_law_cell_here":=by trivial
theorem Ys:bR fJ "_law_stands":=by trivial
theorem Yt:aP fJ "_law_first":=by trivial
theorem Uk:aP fJ "_law_costs_here":=by trivial
theorem Ul:aP fJ "_law_most":=by trivial
theorem Fj:aP fJ "_law_top":=by trivial
theorem Fl:aP fJ "_law_side":=by trivial
theorem Yu:aP fJ "_law_kind":=by trivial
theorem Yv:aP fJ "_law_small":=by trivial
theorem kz8j:bR fJ "_law_drawn":=by trivial
theorem Yw:bR fJ "len":=by trivial
theorem Yx:bR fJ "_law_costs":=by trivial
theorem Yy:bR fJ "_law_row":=by trivial
theorem Um:aP fJ "_law_letters_here":=by trivial
theorem Uo:bR fJ "_law_cell":=by trivial
theorem kz8p:bR fJ "_law_letters":=by trivial
theorem wW {H H':Hp} {a:Addr} {xs:List V} (h:SqL K H a xs) (s:Same H H'):SqL K H' a xs:=by
 rcases h with (h | ⟨o,h⟩) | h
 ·exact .inl (.inl (s _ _ h))
 ·exact .inl (.inr ⟨o,s _ _ h⟩)
 ·exact .inr h
theorem Oo {ms:List Int} (h:ms.length=4):∃ a b c d,ms=[a,b,c,d]:=by
 match ms,h with
 | [a,b,c,d],_=>exact ⟨a,b,c,d,rfl⟩
theorem Oq (ns:List Int) (lo hi:Option Int):∃ ms:List Int,rW (ns.map V.int) lo hi=ms.map V.int/\ms.length<=ns.length:=by
 unfold rW
 refine ⟨_,by rw [← List.map_drop,← List.map_take],?_⟩
 rw [List.length_take,List.length_drop];omega
def Px (K:W.Frag):Sp:=fun vs H Q _=>∃ (a:Addr) (ns:List Int),vs=[.ref a]/\SqL K H a (ns.map V.int)/\ns.length<=63/\∀ H',Q (.bl true) H'
theorem iU:aD ["_law_script","_law_letters_here","_law_side","_law_top","_law_costs_here","_law_last","_law_cell_here","_law_first","_law_kind","_law_small","_law_most"] ["_law_script"] (az fJ):=⟨rfl,rfl,rfl,by trivial,rfl,by trivial,by trivial⟩
theorem Up (T:Txt K mg) {f0:Addr} {fd0:FuncData} (F0:Fun K "law" "law" fJ f0 fd0):rT P w K mg base Gw 18 f0 fd0 ["_law_script"] (Px K):=by
 have lu:=lu (P:=P) (w:=w) (base:=base) T
 have jX:=jX (P:=P) (w:=w) (base:=base) T
 have nO:=nO (P:=P) (w:=w) (base:=base) T
 have kh:=kh (P:=P) (w:=w) (base:=base) T
 have jL:=jL (P:=P) (w:=w) (base:=base) T
 have cM:=cM (P:=P) (w:=w) (base:=base) T
 refine okJ F0 iU ?_ fun f cdv A outer s H vs Q E hr h=>?_
 ·rintro vs H Q E ⟨a,ns,rfl,_⟩;rfl
 obtain ⟨a,ns,rfl,hS,hlen,q⟩:=h
 have hu:=hr.units0
 have hu64:=hr.units
 refine ⟨_,(au (aK (i:=1) iU.nd rfl (Or.inl Um) (aH lu (hr.mono (by decide)) (bf kz8p) (aa (aH jX (hr.mono (by decide)) (bf Uo) (aa (aq 0 Om) (aa aC ao)) (by trivial)) ao) (by trivial)) rfl) (au (aK (i:=2) iU.nd rfl (Or.inl Fl) (aH nO (hr.mono (by decide)) (bf Yy) (aa (aH jX (hr.mono (by decide)) (bf Uo) (aa (aq 0 Om) (aa aC ao)) (by trivial)) (aa (aq 1 Um) (aa aC ao))) (by trivial)) rfl) (au (aK (i:=3) iU.nd rfl (Or.inl Fj) (aH nO (hr.mono (by decide)) (bf Yy) (aa (aH jX (hr.mono (by decide)) (bf Uo) (aa (aq 0 Om) (aa aC ao)) (by trivial)) (aa (aq 1 Um) (aa aC ao))) (by trivial)) rfl) (au (aK (i:=4) iU.nd rfl (Or.inl Uk) (dH (aa (aH kh (hr.mono (by decide)) (bf Yx) (aa (aq 2 Fl) (aa (aq 3 Fj) ao)) (by trivial)) (aa (aH kh (hr.mono (by decide)) (bf Yx) (aa (aq 3 Fj) (aa (aq 2 Fl) ao)) (by trivial)) ao))) rfl) (au (dz (eQ (eU (aH jL (hr.mono (by decide)) (bf Ys) (aa (aq 2 Fl) (aa (aq 3 Fj) (aa aC (aa (aq 4 Uk) (aa aC ao))))) (by trivial)))) (aA (aL oJ)) cF) (au (aK (i:=5) iU.nd rfl (Or.inl Uj) aC rfl) (au (dz (cQ rE (bG aU (aF (aG (K:=K) rfl) (bf Yw) T.b_len bz (aa (aq 2 Fl) ao) (by trivial) (by trivial)) (aF (aG (K:=K) rfl) (bf Yw) T.b_len bz (aa (aq 3 Fj) ao) (by trivial) (by trivial))) aC (by walk_at "p")) (aA (aK (i:=5) iU.nd rfl (Or.inl Uj) aC rfl)) cF) (au (dB PassesOwn.never rfl (lM (K:=K) rfl (wj (KR (K:=K) rfl) (aq 0 Om) (sV aC) (sV (aq 5 Uj)))) (aO (i:=6) iU.nd rfl (Or.inl Yr) rfl) (au (Bu (aH cM (hr.mono (by decide)) (bf kz8j) (aa (aq 6 Yr) (aa (dH (aa aC (aa aC (aa aC (aa aC ao))))) ao)) (by trivial)) (Bt (K:=K) rfl rfl (aW (aO (i:=7) iU.nd rfl (Or.inl Yt) rfl) (aW (aO (i:=8) iU.nd rfl (Or.inl Yu) rfl) (aW (aO (i:=9) iU.nd rfl (Or.inl Yv) rfl) (aW (aO (i:=10) iU.nd rfl (Or.inl Ul) rfl) gU)))))) (au (dz (cQ rE (aq 8 Yu) aC (by walk_at "p")) (aA (aK (i:=10) iU.nd rfl (Or.inl Ul) (aq 9 Yv) rfl)) cF) (aA (dz (eQ (eU (aH jL (hr.mono (by decide)) (bf Ys) (aa (aq 2 Fl) (aa (aq 3 Fj) (aa (aq 10 Ul) (aa (aq 4 Uk) (aa (aq 7 Yt) ao))))) (by trivial)))) (aA (aL oJ)) cF))))) (aA (aL oJ)))))))))),?_⟩
 walk_at "s"
 have hs:20000<=sizeLine:=by decide
 refine ⟨a,ns,0,rfl,hS,fun c0=>?_⟩
 walk_at "s"
 refine ⟨c0,rfl,fun lt ys H1 n1 S1 h1 y0 y1 hL=>?_⟩
 walk_at "s"
 refine ⟨a,ns,1,rfl,wW hS S1,fun c1=>?_⟩
 walk_at "s"
 refine ⟨c1,lt,ys,24,rfl,h1,y0,y1,hL,by omega,fun side H2 S2 ps=>?_⟩
 walk_at "s"
 have U2:=S1.trans S2
 refine ⟨a,ns,2,rfl,wW hS U2,fun c2=>?_⟩
 walk_at "s"
 refine ⟨c2,lt,ys,24,rfl,S2 _ _ h1,y0,y1,hL,by omega,fun top H3 S3 pt=>?_⟩
 walk_at "s"
 refine ⟨side,top,rfl,ps,pt,fun t1 r1 H4 n4 S4 h4 k4=>?_⟩
 walk_at "s"
 refine ⟨top,side,rfl,pt,ps,fun t2 r2 H5 n5 S5 h5 k5=>?_⟩
 walk_at "s"
 refine cG rfl fun cs H6 n6 S6 h6=>?_
 walk_at "s"
 have U6:=U2.trans (S3.trans (S4.trans (S5.trans S6)))
 have h46:=(S5.trans S6) _ _ h4
 have k46:=k4.same (S5.trans S6)
 have h56:=S6 _ _ h5
 have k56:=k5.same S6
 refine ⟨side,top,2,cs,t1,t2,r1,r2,1,rfl,ps,pt,by omega,h6,h46,k46,h56,k56,fun H7 S7=>?_⟩
 walk_at "n"
 have U7:=U6.trans S7
 have h67:=S7 _ _ h6
 have h47:=S7 _ _ h46
 have k47:=k46.same S7
 have h57:=S7 _ _ h56
 have k57:=k56.same S7
 clear h6 h46 k46 h56 k56 h4 k4 h5 k5 n4 n5 n6 S1 S2 S3 S4 S5 S6 S7 U2 U6
 have l1:=ps.1
 have l2:=pt.1
 with_reducible refine oO ?_
 walk_at "n"
 with_reducible refine Hy (fun U H'=>H'=H7/\∃ l:Int,U=[some (.ref a),some (.ref lt),some (.str side),some (.str top),some (.ref cs),some (.int l),none,none,none,none,none]) ?_ ?_
 rotate_left
 ·intro N hN
  walk_at "n"
  refine dM (by omega) ?_
  walk_at "s"
  refine dM (by omega) ?_
  walk_at "s"
  refine qO (fun h=>?_) (fun h=>?_)
  ·walk_at "n"
   exact hN _ _ ⟨rfl,_,rfl⟩
  ·walk_at "n"
   exact hN _ _ ⟨rfl,_,rfl⟩
 rintro U H' ⟨rfl,l,rfl⟩
 walk_at "s"
 refine O3 (wW hS U7) fun sl nsl=>?_
 walk_at "s"
 obtain ⟨ms,ems,hml⟩:=Oq ns (some 3) (some l)
 rw [ems]
 have S8:=(Same.refl H').upd nsl (o:=.lst (ms.map V.int))
 have h8:=aj (H:=H') (a:=sl) (o:=.lst (ms.map V.int))
 generalize upd H' sl (.lst (ms.map V.int))=H8 at S8 h8 ⊢
 walk_at "s"
 refine .inl ⟨sl,rfl,⟨_,SqL.of h8⟩,?_⟩
 refine tG (xs:=ms.map V.int) (fun i U G=>Same H8 G/\∃ x6 x7 x8 x9 x10,U=[some (.ref a),some (.ref lt),some (.str side),some (.str top),some (.ref cs),some (.int l),x6,x7,x8,x9,x10]) ⟨Same.refl H8,_,_,_,_,_,rfl⟩ (fun i U G _ h=>SqL.of (h.1 _ _ h8)) ?_ ?_
 ·rintro i v U G hv ⟨s,x6,x7,x8,x9,x10,rfl⟩
  rw [List.getElem?_map] at hv
  obtain ⟨c,hc,rfl⟩:=Option.map_eq_some_iff.mp hv
  walk_at "n"
  with_reducible refine oO ?_
  walk_at "n"
  refine cG rfl fun p1 G1 n1 S1 g1=>?_
  walk_at "s"
  replace g1:G1 p1=some (.lst (([2,4,7,49]:List Int).map V.int)):=g1
  refine ⟨c,p1,_,rfl,g1,by simp,(fun x hx=>by simp only [List.mem_cons,List.mem_nil_iff,or_false] at hx;rcases hx with rfl | rfl | rfl | rfl <;> omega),fun p2 ks G2 n2 S2 g2 hF=>?_⟩
  walk_at "n"
  obtain ⟨b0,b1,b2,b3,rfl⟩:=Oo hF.1
  have f2:=hF.2 2 b2 _ rfl rfl
  have f3:=hF.2 3 b3 _ rfl rfl
  refine Bv (xs:=[.int b0,.int b1,.int b2,.int b3]) (SqL.of g2) rfl ?_
  walk_at "n"
  have W:=S8.trans (s.trans (S1.trans S2))
  with_reducible refine Hy (fun U J=>J=G2/\∃ m:Nat,m<=48/\U=[some (.ref a),some (.ref lt),some (.str side),some (.str top),some (.ref cs),some (.int l),some (.int c),some (.int b0),some (.int b1),some (.int b2),some (.int m)]) ?_ ?_
  rotate_left
  ·intro N hN
   walk_at "n"
   refine qO (fun h=>?_) (fun h=>?_)
   ·walk_at "n"
    obtain ⟨m,rfl⟩:∃ m:Nat,b2=m:=⟨b2.toNat,by omega⟩
    exact hN _ _ ⟨rfl,m,by omega,rfl⟩
   ·walk_at "n"
    obtain ⟨m,rfl⟩:∃ m:Nat,b3=m:=⟨b3.toNat,by omega⟩
    exact hN _ _ ⟨rfl,m,by omega,rfl⟩
  rintro U J ⟨rfl,m,hm,rfl⟩
  walk_at "s"
  refine ⟨side,top,m,cs,t1,t2,r1,r2,_,rfl,ps,pt,hm,W _ _ h67,W _ _ h47,k47.same W,W _ _ h57,k57.same W,fun J2 T2=>?_⟩
  walk_at "s"
  exact ⟨s.trans (S1.trans (S2.trans T2)),_,_,_,_,_,rfl⟩
 ·rintro U G ⟨s,x6,x7,x8,x9,x10,rfl⟩
  walk_at "s"
  exact q G
end
end My
namespace PySem.W.Fast
def tw8685062235571427383:=0
def tw6051379072553871730:=0
def tw16633325506126130152:=0
def tw14508515110272597638:=0
def tw16568422645536339250:=0
def tw9862394536419104345:=0
def tw14862344811109526954:=0
def tw5184315980996823972:=0
def tw670493302505936625:=0
def tw114637924232068774:=0
def tw631718635477829155:=0
def tw16129665805668653060:=0
def tw2254869613664197843:=0
def tw7768884836515478613:=0
def tw4297711295519787314:=0
def tw1906335522432276714:=0
def tw16888327471789857508:=0
def tw2792255270302001495:=0
def tw3191136113098553235:=0
def tw9206818198228145178:=0
def tw6911214483023320275:=0
def tw13162187392160604407:=0
def tw241488166343423837:=0
def tw15428102792144885030:=0
def tw1367438212547776735:=0
def tw6847222719991508965:=0
def tw8419553756164114593:=0
def tw6300055018143782290:=0
def tw8789475724255573730:=0
def tw4006128790763648315:=0
def tw18442431601952913512:=0
def tw6139489506701648722:=0
def tw12250561756727534114:=0
def tw15448808513739290341:=0
def tw2693895886323970571:=0
def tw9060102529130082218:=0
def tw1379129188087466260:=0
def tw17368773582827455319:=0
def tw4366618070423594723:=0
def tw15986201017015680756:=0
def tw16587176032172630807:=0
def tw15664938581162319196:=0
def tw16681491548555300442:=0
def tw392270765239794583:=0
def tw11889619271550609399:=0
def tw13471333182267372555:=0
def tw8094885286441338083:=0
def tw1820878192716975184:=0
def tw1558170280356183806:=0
def tw2933671878806625283:=0
def tw5019450526247589702:=0
def tw5759398374947999481:=0
def tw15439023946724243636:=0
def tw1618048109052830354:=0
def tw11194212955908732881:=0
def tw6455997545191569241:=0
def tw1947199874503820028:=0
def tw7530194343589434457:=0
def tw267447913290026434:=0
def tw16933732994964701846:=0
def tw17854881405581672034:=0
def tw13250489380249541825:=0
def tw4308507330960446863:=0
def tw990867594673186596:=0
def tw13106222684335242492:=0
def tw5773320157564050899:=0
def tw10985922492442945148:=0
def tw4710070612168296580:=0
def tw6432476084279585239:=0
def tw14487120021906779957:=0
def tw14224618376381766038:=0
def tw2766429495199964910:=0
def tw7201537570708379840:=0
def tw11662988811695166228:=0
def tw6757907136802243222:=0
def tw4949380770934799314:=0
def tw9808287186614469982:=0
def tw17420501022692145808:=0
def tw10598265329150215280:=0
def tw7821431014811707283:=0
def tw3973487144852072118:=0
def tw7148242263391052359:=0
def tw11690386662416076612:=0
def tw16580573962879834988:=0
def tw10050586766473344665:=0
def tw3582902710056656681:=0
def tw13865299522365949175:=0
def tw5090151936938318269:=0
def tw435418424128919496:=0
def tw14018375064818012720:=0
def tw4976826055290035875:=0
def tw6210365623123748514:=0
def tw9037225016595566906:=0
def tw12449486489779807281:=0
def tw8536494547066958402:=0
def tw7765734665695186841:=0
def tw8115986448243665640:=0
def tw3945873642410398432:=0
def tw15080797586393691836:=0
def tw16838277512610896013:=0
def tw8621296682132742289:=0
def tw14752899618090468890:=0
def tw3816525928782650004:=0
def tw11725493618804965883:=0
def tw117446033179872521:=0
def tw1053045216107505199:=0
def tw5904797142059166678:=0
def tw14994934488484046831:=0
def tw13740943930629099242:=0
def tw12391035671430105976:=0
def tw3620774625989302166:=0
def tw4162371179907047673:=0
def tw10278723581324559448:=0
def tw13312262993337664911:=0
def tw6921144869648556730:=0
def tw117496643795932299:=0
def tw15209999535902785382:=0
def tw7024268881143878227:=0
def tw12052481136957638238:=0
def tw3615802510482125301:=0
def tw5312167426137779568:=0
def tw13212299292620699168:=0
def tw15843007895622584063:=0
def tw3013264834593749179:=0
def tw986801631407981112:=0
def tw16852777899729165173:=0
def tw17213101573042763072:=0
def tw3454443503334433687:=0
def tw9013714518289507916:=0
def tw6647774676909748295:=0
def tw15007454605539108259:=0
def tw8424156808566981887:=0
def tw7918024398809097383:=0
def tw10550272166415045883:=0
def tw11360014026461112658:=0
def tw267805595332681158:=0
def tw8273207065973772037:=0
def tw13498675342593594158:=0
def tw3483549619917463053:=0
def tw12541718888520848047:=0
def tw11888506460416918579:=0
def tw2134108398385646660:=0
def tw17787508283234926031:=0
def tw6926256999198727454:=0
def tw10176223304059030158:=0
def tw2567733514133452528:=0
def tw17797172720150145074:=0
def tw7491846904409491235:=0
def tw9256625304305733427:=0
def tw17473697842389198230:=0
def tw16062010537709446203:=0
def tw16334910178916208435:=0
def tw10622161999025175989:=0
def tw5605501075396962272:=0
def tw13050800756785808815:=0
def tw3607621867779386489:=0
def tw4087081019549088418:=0
def tw1922617719076671467:=0
def tw17368595027003029931:=0
def tw15773807719813534372:=0
def tw8426914206680911334:=0
def tw11139457747412371297:=0
def tw6821180079077979799:=0
def tw18306336181260853377:=0
def tw9249091177845395774:=0
def tw773627076997879217:=0
def tw213598229816230985:=0
def tw14789217928174740051:=0
def tw8826288315418289537:=0
def tw7604627867920202292:=0
def tw1443688973899894569:=0
def tw1534726532853240457:=0
def tw17710562944620969917:=0
def tw13315099061943719022:=0
def tw10222985251400365824:=0
def tw16632214142285784488:=0
def tw9836807409918189514:=0
def tw17317655940741401759:=0
def tw11903503204569177291:=0
def tw6885466948637253911:=0
def tw3394867655045635007:=0
def tw17509205314528551519:=0
def tw8504664129542522169:=0
def tw12189281816649916374:=0
def tw13702841930886019462:=0
def tw4370610616474524170:=0
def tw13152487014353021352:=0
def tw8893685078648145266:=0
def tw8648413979604508788:=0
def tw16880220857761014709:=0
def tw8095241862626508999:=0
def tw2302605380053113578:=0
def tw1912009633277012988:=0
def tw8700518837267784171:=0
def tw4594623250149329938:=0
def tw8380388191975166301:=0
def tw4659316203777952430:=0
def tw4803502955271398934:=0
def tw14371914144807851502:=0
def tw10861979508624174084:=0
def tw11251649550705582474:=0
def tw5545225978998627733:=0
def tw10542748292235609346:=0
def tw4050879913413836276:=0
def tw7246757864108107193:=0
def tw17412589915532574416:=0
def tw8929669700873545809:=0
def tw3266788978257461238:=0
def tw18305209389855826679:=0
def tw7309506474414353973:=0
def tw17721165732073826660:=0
def tw760462254021906269:=0
def tw1635575722484879182:=0
def tw2253568456467122866:=0
def tw10081548143923127313:=0
def tw7939830816192808808:=0
def tw12848706467477718162:=0
def tw2990428593380239853:=0
def tw4978780493920926905:=0
def tw2762043665056287019:=0
def tw7634721231855595772:=0
def tw1023159240440938055:=0
def tw11084411019605020379:=0
def tw8836494325176199665:=0
def tw4968487063118490018:=0
def tw15047118966066884369:=0
def tw1018688288353197657:=0
def tw2190961221129318600:=0
def tw15493376079120155031:=0
def tw6837756623804402252:=0
def tw15688494291037881843:=0
def tw263376818679364098:=0
def tw7307869763350494950:=0
def tw5847775092705248452:=0
def tw7580462481290918366:=0
def tw4679644184000959377:=0
def tw6244864041359951510:=0
def tw4415585494273025569:=0
def tw10003089003771799981:=0
def tw12666139044652035841:=0
def tw10273851670835780585:=0
def tw16416491670096484895:=0
def tw3947271991298826823:=0
def tw4000413539535960611:=0
def tw7617926866053545570:=0
def tw9043799316058068479:=0
def tw4864234893899040864:=0
def tw11870173304698010756:=0
def tw11997119783853894744:=0
def tw5881538824041263201:=0
def tw12646631595859985778:=0
def tw14035663523933860220:=0
def tw12091043837724352128:=0
def tw5095742250588295317:=0
def tw10476343332942801282:=0
def tw779440544375231966:=0
def tw14758381632134747056:=0
def tw11353651334961193449:=0
def tw4847672655094789916:=0
def tw17594213358378996322:=0
def tw15564039422871085088:=0
def tw16563499494170713269:=0
def tw16171200558727660834:=0
def tw5965992086450738385:=0
def tw12574569330410647697:=0
def tw3419022964346135767:=0
def tw10617578406530646649:=0
def tw1918929622036201958:=0
def tw17483233518711226265:=0
def tw6563075464708438240:=0
def tw12343038300689069926:=0
def tw924359519096578099:=0
def tw5828095466559319822:=0
def tw5394060178372415978:=0
def tw9188256310574705460:=0
def tw14329573666343890510:=0
def tw2518275180330364883:=0
def tw1737250723510557687:=0
def tw3220406937926308985:=0
def tw450971511241352505:=0
def tw10880274900739180438:=0
def tw15427108954741065690:=0
def tw4138177994064666454:=0
def tw6485773211169613304:=0
def tw14152198172055501644:=0
def tw15809739847712561121:=0
def tw11055255882296585556:=0
def tw1718023762643253422:=0
def tw1049496727725974984:=0
def tw17505956424130159305:=0
def tw4737554804299909578:=0
def tw11516372537832384343:=0
def tw1227135834032320365:=0
def tw9221717768049092790:=0
def tw153434630822764468:=0
def tw11858021756110939120:=0
def tw13371831670626005969:=0
def tw9874280748497319293:=0
def tw15362027296643245281:=0
def tw4004420784453905308:=0
def tw8223654721321057059:=0
def tw14596868299018116501:=0
def tw5559464554209268477:=0
def tw5279850088191984803:=0
def tw3630877905063001116:=0
def tw16534980793067042669:=0
def tw9068332120093170998:=0
def tw564742517446687442:=0
def tw11446684583434445832:=0
def tw3794320536332093969:=0
def tw12874312385268498600:=0
def tw1733782951035309447:=0
def tw16603614762830363396:=0
def tw82211474270216195:=0
def tw10846308338776067983:=0
def tw12707220995264010674:=0
def tw17493496551213903194:=0
def tw5652836333535444076:=0
def tw7235314729817488873:=0
def tw14986270771115670574:=0
def tw5061953712969387161:=0
def tw16462916755060423276:=0
def tw16097255751055492058:=0
def tw2944126545736020738:=0
def tw16605991114091289905:=0
def tw12207653276747435445:=0
def tw10704319481014367247:=0
def tw17693671711852298099:=0
def tw16853156533200360234:=0
def tw416687591359606920:=0
def tw11773767939463277911:=0
def tw8877423978128948747:=0
def tw1478130577277517194:=0
def tw13328816197250787703:=0
def tw1279282660534335228:=0
def tw12127377830268961936:=0
def tw13954463704890184725:=0
def tw457510399916954434:=0
def tw17210403402240757984:=0
def tw10226700321619387811:=0
def tw3073653790893146053:=0
def tw2066205131933268471:=0
def tw5428697428407418850:=0
def tw13856927870768931351:=0
def tw4005362610784455499:=0
def tw12549861055903365840:=0
def tw7730518296606808955:=0
def tw14078562458048765663:=0
def tw9479560213000046420:=0
def tw13165888975034167247:=0
def tw14033297015199771945:=0
def tw6049397638745460638:=0
def tw2506550225613376876:=0
def tw18191582149834757236:=0
def tw8552081337365391333:=0
def tw531561972782472433:=0
def tw42126580567541031:=0
def tw8923508617562766019:=0
def tw17597030169053256460:=0
def tw16649571812551158792:=0
def tw8080810496525440549:=0
def tw3409967708103197758:=0
def tw8265353055034211668:=0
def tw11157462116141240505:=0
def tw7711355770173237822:=0
def tw9947963362827897181:=0
def tw10628537065267794682:=0
def tw5472669660937471565:=0
def tw17867377390436842041:=0
def tw11622015072710946936:=0
def tw10961300742588340906:=0
def tw169852010158172837:=0
def tw3667902584665318277:=0
def tw12912573432935439223:=0
def tw8195079608348936589:=0
def tw8762350014243629226:=0
def tw11052029097058270400:=0
def tw15468493071227164978:=0
def tw11491983732654443905:=0
def tw11826621332101760134:=0
def tw11063774090554076388:=0
def tw8151054697400251824:=0
def tw12433526397901563935:=0
def tw16796894249711174940:=0
def tw7441336487368232900:=0
def tw5522830154738673378:=0
def tw5338540772211489870:=0
def tw9836661707914182855:=0
def tw4805872258394272674:=0
def tw13445976097824488099:=0
def tw8764243685143229987:=0
def tw15035350460877432311:=0
def tw12974566912442805843:=0
def tw13393660767073018573:=0
def tw8187544151790492092:=0
def tw6130738978550177406:=0
def tw9934719759548099589:=0
def tw7825073862902845564:=0
def tw8842826098333834795:=0
def tw6437897317103064549:=0
def tw11112309852471608502:=0
def tw4949098688589344484:=0
def tw17939066357879131059:=0
def tw2995529868092813646:=0
def tw878728214382884745:=0
def tw15050269743305675337:=0
def tw3151000470658635031:=0
def tw7810754813962154633:=0
def tw9203658848731969271:=0
def tw5563932496255976972:=0
def tw11002503672601265250:=0
def tw13817699541158850657:=0
def tw51230327141464041:=0
def tw15418201421122459147:=0
def tw11431243415093099225:=0
def tw134013985001939751:=0
def tw3301104938876289486:=0
def tw1015849802983976033:=0
def tw5649420484085174905:=0
def tw5112499366335966551:=0
def tw5280971177963863570:=0
def tw16624702826057356713:=0
def tw14354666104493632510:=0
def tw6829386577185775281:=0
def tw5953835364216105633:=0
def tw330815117385020752:=0
def tw17551777858124282548:=0
def tw3679274233921011656:=0
def tw9690822039116114089:=0
def tw5069323435131101885:=0
def tw7023510150091658923:=0
def tw8894859138029719307:=0
def tw978201669487894855:=0
def tw17178224902311242230:=0
def tw4534965475756798265:=0
def tw14107720318657743216:=0
def tw14257579351524702584:=0
def tw12620021397875764817:=0
def tw10995679000239548433:=0
def tw16738717434803040648:=0
def tw10390411098873076735:=0
def tw16941587293522155051:=0
def tw2502910963089810084:=0
def tw10948991791384510613:=0
def tw14291361893577826993:=0
def tw2761358714263379071:=0
def tw11923620039721353907:=0
def tw11585087635524363647:=0
def tw8247288248088108661:=0
def tw4347385106496241403:=0
def tw7899558329139320884:=0
def tw16511921447802513307:=0
def tw10519553537232147778:=0
def tw10897570378050539622:=0
def tw900191029970250234:=0
def tw11892590815521158645:=0
def tw7387404844339501532:=0
def tw15687302895435986232:=0
def tw5120409092097705765:=0
def tw10593108349052721548:=0
def tw10203326318719458708:=0
def tw16652428880153435269:=0
def tw10325379303632987379:=0
def tw14741536593379436335:=0
def tw7010677792883300892:=0
def tw8254149562156174702:=0
def tw6392308772672771083:=0
def tw7037139536621708606:=0
def tw8072239373723583103:=0
def tw8021656299291697998:=0
def tw6973813509394184873:=0
def tw13603838976988440154:=0
def tw7149963466782919093:=0
def tw7103455282798388862:=0
def tw2833780007844258133:=0
def tw1835564565607531085:=0
def tw14810494706892893967:=0
def tw5599204020226544694:=0
def tw10609790592006446076:=0
def tw12285128645001894744:=0
def tw4613395885291146566:=0
def tw1474629256406925399:=0
def tw12938044038799712727:=0
def tw7288128354753917665:=0
def tw3969697020095145343:=0
def tw12805014542162181805:=0
def tw14654014359497208764:=0
def tw17574561644137312805:=0
def tw4067456446951474637:=0
def tw5342681871373315181:=0
def tw15946771292649478641:=0
def tw10059359544295794322:=0
def tw9450075827770495303:=0
def tw6523837674368799021:=0
def tw2282288399396882916:=0
def tw16237587023765226992:=0
def tw8428552422504850919:=0
def tw15840278023075178731:=0
def tw10110348367148494812:=0
def tw6543847068212035066:=0
def tw7259692244836025520:=0
def tw4974638321258984779:=0
def tw17442551234597003021:=0
def tw3767918605424169244:=0
def tw18151808475819045801:=0
def tw6081507619717218371:=0
def tw945882665207563218:=0
def tw7365050620778801580:=0
def tw17071691389000744192:=0
def tw10061037929816482914:=0
def tw1027030308428611703:=0
def tw9714092780097344264:=0
def tw3456828706435717332:=0
def tw1318906125345976458:=0
def tw9822282861593665031:=0
def tw5226861779079916663:=0
def tw635616893322657057:=0
def tw6624687193408690221:=0
def tw6240037068700758687:=0
def tw9626009518938748535:=0
def tw5466002418108739634:=0
def tw9028260081908141301:=0
def tw3578229849480126704:=0
def tw12190513311878483063:=0
def tw1246926445230944112:=0
def tw812858616633027651:=0
def tw4854021405328957289:=0
def tw3220010864231874983:=0
def tw6448912758444790999:=0
def tw12330555207574026625:=0
def tw16869402861000807957:=0
def tw15895033724468601074:=0
def tw426269620863812523:=0
def tw9412563787951106603:=0
def tw5211100881850121643:=0
def tw6412595892809961377:=0
def tw4820527234168812680:=0
def tw7114534633206700849:=0
def tw13092021189981282837:=0
def tw4458779044384655104:=0
def tw706428344201809541:=0
def tw2726590680936529676:=0
def tw1003854249758183631:=0
def tw7372101144818306297:=0
def tw866678514393990771:=0
def tw11406454949697592064:=0
def tw14050030532376504433:=0
def tw6185102182224217060:=0
def tw237035786312293737:=0
def tw2706323521681777868:=0
def tw3724257377818136666:=0
def tw11653149038455520963:=0
def tw2837388565223886632:=0
def tw221232028180789307:=0
def tw337849315035917870:=0
def tw6710171876254317890:=0
def tw18114820570420244123:=0
def tw7979444502752976990:=0
def tw11146404865279204950:=0
def tw3972926248167568950:=0
def tw6168323831824192029:=0
def tw8657942580719523990:=0
def tw2949401366627621579:=0
def tw919429468595480542:=0
def tw1405459186363619160:=0
def tw15943113764742768863:=0
def tw11392375777029567270:=0
def tw3443040840345070843:=0
def tw13840568426651561719:=0
def tw6455919260729231296:=0
def tw14945589208938472291:=0
def tw1850614685877801833:=0
def tw1601290789922492009:=0
def tw16765229418684074784:=0
def tw13555285713573850167:=0
def tw10770741368581304453:=0
def tw7440801572537245562:=0
def tw2130322578405297326:=0
def tw5256661154335835248:=0
def tw10480325444000743310:=0
def tw6236339334641746672:=0
def tw14928143073369286926:=0
def tw6144121106343753889:=0
def tw7780100607119674018:=0
def tw8211289862254263784:=0
def tw7992194447678419010:=0
def tw5279035279433513895:=0
def tw4043555816746798636:=0
def tw6546213111601696099:=0
def tw10552810417530006145:=0
def tw7398339454408596243:=0
def tw16112441410562384562:=0
def tw8034997289913093005:=0
def tw10130076363206252126:=0
def tw16266251726976958438:=0
def tw4829471813977282153:=0
def tw16743385355002752490:=0
def tw8140365756293685910:=0
def tw7148274540589044377:=0
def tw15340401835811284242:=0
def tw5031306349027551370:=0
def tw8182207594259292008:=0
def tw11574768120234463578:=0
def tw6042350279651330811:=0
def tw3691629180652106043:=0
def tw5275276775361604008:=0
def tw9196276056276129646:=0
def tw15385028086766495869:=0
def tw9577568386962342003:=0
def tw3415510116573401112:=0
def tw5061281166232065343:=0
def tw3151163729841131600:=0
def tw10819413651884926695:=0
def tw7829744496778713216:=0
def tw2743949208723623841:=0
def tw6871568170541335557:=0
def tw730677598265798742:=0
def tw14767132491308835933:=0
def tw8640067917447654248:=0
def tw6515891661628501510:=0
def tw12545733808761746663:=0
def tw5659159754343330476:=0
def tw2921198612467097302:=0
def tw18364183555704448375:=0
def tw12263482772123315430:=0
def tw5300483048802234458:=0
def tw17190606010534519878:=0
def tw15375720172747614690:=0
def tw13066376335884382808:=0
def tw5654100197274707962:=0
def tw5484580947227440849:=0
def tw2825651631083988637:=0
def tw9228869595977278744:=0
def tw646691343013106142:=0
def tw3689153190380713992:=0
def tw17579244983731184417:=0
def tw566576314227744169:=0
def tw5876665101369245918:=0
def tw9839752687770335636:=0
def tw17269946042796770607:=0
def tw10400811235961057606:=0
def tw9419977741522255002:=0
def tw2765684109199967824:=0
def tw17597604475749755996:=0
def tw9942310746693903041:=0
def tw4196970226237955060:=0
def tw10811524106894930527:=0
def tw3928637548542789206:=0
def tw13001755693546045535:=0
def tw4216405723841942070:=0
def tw2672744605992281726:=0
def tw542632661402345756:=0
def tw17831556899741064493:=0
def tw4116206190434412683:=0
def tw2409548297324172226:=0
def tw7241359544210384588:=0
def tw11956230925775443982:=0
def tw3953158074401683486:=0
def tw7414899077434490165:=0
def tw14997576245872547474:=0
def tw17439899444557238205:=0
def tw3897617270983868054:=0
def tw11567657062086654850:=0
def tw1589386935994020336:=0
def tw17454534021039722071:=0
def tw2835942435109860253:=0
def tw4641731272827854877:=0
def tw16370002894037668627:=0
def tw9229927639077644880:=0
def tw12983875981150631303:=0
def tw13276158542946078228:=0
def tw11785468394256347238:=0
def tw716339204270357933:=0
def tw12842343842325298625:=0
def tw8117107795142488694:=0
def tw12949630258180016047:=0
def tw10827247414764382692:=0
def tw15835091657875403727:=0
def tw13861136233100007642:=0
def tw15881700881902257110:=0
def tw4363450209667116488:=0
def tw8944830898474279674:=0
def tw11849296330490058851:=0
def tw14795264913030078803:=0
def tw3900127201814429632:=0
def tw14426746314577279031:=0
def tw18395499280228031471:=0
def tw17556176556276531178:=0
def tw3244899088236241967:=0
def tw9178397264671963426:=0
def tw15681285437659494472:=0
def tw550669514872072744:=0
def tw9033967767415665312:=0
def tw3857622813390714326:=0
def tw14411051889754257805:=0
def tw9091579159974029801:=0
def tw12118718142091251603:=0
def tw13431498573782973152:=0
def tw5004652256849155458:=0
def tw13529686913981844768:=0
def tw13753524606081482943:=0
def tw10779651850819783404:=0
def tw2654116675026815913:=0
def tw9004089376007075700:=0
def tw1540009601041735351:=0
def tw14715048741031747502:=0
def tw5733163093527162234:=0
def tw8377729796030919294:=0
def tw132329763002792322:=0
def tw4425483699065121016:=0
def tw5241849190905086860:=0
def tw7921083236459480295:=0
def tw15348615338483140182:=0
def tw16953988074168189208:=0
def tw16521921368358417117:=0
def tw18064003680336011030:=0
def tw2355660711337531168:=0
def tw16427778712369419631:=0
def tw4288993354021836944:=0
def tw633046825235539654:=0
def tw8657530982427046831:=0
def tw8754982674237758028:=0
def tw17257868053253118766:=0
def tw9880813646042699095:=0
def tw16266127332230316156:=0
def tw7499897545021864315:=0
def tw11175212546610925013:=0
def tw15520159680259501482:=0
def tw14969125094387380650:=0
def tw10316919355730824183:=0
def tw8927153361871378924:=0
def tw8102689738447927010:=0
def tw8522431464750163348:=0
def tw17750391721206251019:=0
def tw17227230074531473120:=0
def tw10697342318797261894:=0
def tw10074270038748993307:=0
def tw2544377566071517175:=0
def tw10696655886633589169:=0
def tw297547880381329745:=0
def tw6186747599015343877:=0
def tw7149650419466111464:=0
def tw4215340495740902408:=0
def tw4195736149647171574:=0
def tw923253393080972513:=0
def tw960561488729877972:=0
def tw15153472291296546620:=0
def tw5134512216786191851:=0
def tw9054986661939484453:=0
def tw8386021315746262923:=0
def tw10265634478868784267:=0
def tw17087081665196933953:=0
def tw11054877350612968788:=0
def tw2526406672268053978:=0
def tw3266084181498598568:=0
def tw10474381570656851506:=0
def tw1051879700013127104:=0
def tw638777023102234191:=0
def tw7877929235333555565:=0
def tw18335049804287462639:=0
def tw3974172376915482087:=0
def tw15867618225479930732:=0
def tw10998868450248266480:=0
def tw11715665233928932681:=0
def tw5121968245800949396:=0
def tw7914332725054080050:=0
def tw7131674954294420418:=0
def tw1797423820042134912:=0
def tw15109390656291517490:=0
def tw15949798114032281791:=0
def tw16657947356603035340:=0
def tw3525070163841834548:=0
def tw12235461089587005549:=0
def tw11331602766536869135:=0
def tw15880743622405887480:=0
def tw17475822466980828304:=0
def tw10973226946928173699:=0
def tw13717204503006209605:=0
def tw16274941807614162122:=0
def tw10572566233880432222:=0
def tw13685525757180786752:=0
def tw9623912821319446839:=0
def tw448842658855771961:=0
def tw9986064072297131339:=0
def tw14747948086748361747:=0
def tw482517668806411240:=0
def tw7388504207282181360:=0
def tw1169975673458977749:=0
def tw11200915563370001470:=0
def tw14988469893574653208:=0
def tw2530071654269159789:=0
def tw12303320879380614027:=0
def tw4222282167659823401:=0
def tw466974227181460647:=0
def tw1013860931068956235:=0
def tw4803978859464606647:=0
end PySem.W.Fast
open PySem PySem.W PyProof.Rows
set_option maxRecDepth 100000 in
set_option maxHeartbeats 0 in
theorem PySem.Challenge.cw_panethread_k67_near_by_own_costs_holds : PySem.Challenge.rw_panethread_k67_near_by_own_costs.Holds := by
 w_on;o_law;k_head;(case hw=>w_witness2)
 k_fill
 refine L2.VF (l:=PySem.Challenge.rw_panethread_k67_near_by_own_costs) (st:=My.fJ) (k:=18) (x:="_law_script") (sp:=My.Px) rfl rfl rfl ⟨rfl,by decide,by decide,rfl⟩ (fun w h Y=>PySem.W.kIn_of Y) (fun _ _ _ _ _ _ us hl=>L2.mG (fun _=>rfl) us hl) ?F (fun K H a ns hl hS=>⟨a,ns,rfl,hS,hl,fun _=>rfl⟩)
 case F=>
  intro w mg h KX G
  have b_all:mg "all"=none:=by
   refine' PySem.W.mg_none_of KX G ?a
   (case a=>k_is)
  have b_bool:mg "bool"=none:=by
   refine' PySem.W.mg_none_of KX G ?a
   (case a=>k_is)
  have b_enumerate:mg "enumerate"=none:=by
   refine' PySem.W.mg_none_of KX G ?a
   (case a=>k_is)
  have b_int:mg "int"=none:=by
   refine' PySem.W.mg_none_of KX G ?a
   (case a=>k_is)
  have b_isinstance:mg "isinstance"=none:=by
   refine' PySem.W.mg_none_of KX G ?a
   (case a=>k_is)
  have b_len:mg "len"=none:=by
   refine' PySem.W.mg_none_of KX G ?a
   (case a=>k_is)
  have b_list:mg "list"=none:=by
   refine' PySem.W.mg_none_of KX G ?a
   (case a=>k_is)
  have b_min:mg "min"=none:=by
   refine' PySem.W.mg_none_of KX G ?a
   (case a=>k_is)
  have b_range:mg "range"=none:=by
   refine' PySem.W.mg_none_of KX G ?a
   (case a=>k_is)
  have b_reversed:mg "reversed"=none:=by
   refine' PySem.W.mg_none_of KX G ?a
   (case a=>k_is)
  have b_sorted:mg "sorted"=none:=by
   refine' PySem.W.mg_none_of KX G ?a
   (case a=>k_is)
  have b_str:mg "str"=none:=by
   refine' PySem.W.mg_none_of KX G ?a
   (case a=>k_is)
  have b_tuple:mg "tuple"=none:=by
   refine' PySem.W.mg_none_of KX G ?a
   (case a=>k_is)
  have b_zip:mg "zip"=none:=by
   refine' PySem.W.mg_none_of KX G ?a
   (case a=>k_is)
  have c_CROSS:∃ t,mg "CROSS"=some (.str "x" t):=by
   refine' L2.jc KX G ?a ?h
   (case a=>k_is);(case h=>exact ⟨_,by with_unfolding_all rfl⟩)
  have c_LETTERS:∃ t,mg "LETTERS"=some (.str "abcdefghijklmnopqrstuvwxyz" t):=by
   refine' L2.jc KX G ?a ?h
   (case a=>k_is);(case h=>exact ⟨_,by with_unfolding_all rfl⟩)
  have c_MOST_COST:∃ t,mg "MOST_COST"=some (.int 48 t):=by
   refine' L2.jc KX G ?a ?h
   (case a=>k_is);(case h=>exact ⟨_,by with_unfolding_all rfl⟩)
  have c_MOST_LETTERS:∃ t,mg "MOST_LETTERS"=some (.int 24 t):=by
   refine' L2.jc KX G ?a ?h
   (case a=>k_is);(case h=>exact ⟨_,by with_unfolding_all rfl⟩)
  have c_MOST_LINES:∃ t,mg "MOST_LINES"=some (.int 96 t):=by
   refine' L2.jc KX G ?a ?h
   (case a=>k_is);(case h=>exact ⟨_,by with_unfolding_all rfl⟩)
  have c_MOST_SIGNS:∃ t,mg "MOST_SIGNS"=some (.int 48 t):=by
   refine' L2.jc KX G ?a ?h
   (case a=>k_is);(case h=>exact ⟨_,by with_unfolding_all rfl⟩)
  have c_POINT:∃ t,mg "POINT"=some (.str "." t):=by
   refine' L2.jc KX G ?a ?h
   (case a=>k_is);(case h=>exact ⟨_,by with_unfolding_all rfl⟩)
  have c_TOUCH:∃ t,mg "TOUCH"=some (.str "o" t):=by
   refine' L2.jc KX G ?a ?h
   (case a=>k_is);(case h=>exact ⟨_,by with_unfolding_all rfl⟩)
  have d_is_number:L2.d8 (L2.KOf KX) mg "is_number" My.fj:=by
   dsimp only [L2.KOf]
   refine' L2.bB KX G ?a ?l ?c ?k
   (case a=>k_is);(case l=>k_is);(case c=>k_is);(case k=>k_is)
  have d_is_within:L2.d8 (L2.KOf KX) mg "is_within" My.fu:=by
   dsimp only [L2.KOf]
   refine' L2.bB KX G ?a ?l ?c ?k
   (case a=>k_is);(case l=>k_is);(case c=>k_is);(case k=>k_is)
  have d_is_span:L2.d8 (L2.KOf KX) mg "is_span" My.iG:=by
   dsimp only [L2.KOf]
   refine' L2.bB KX G ?a ?l ?c ?k
   (case a=>k_is);(case l=>k_is);(case c=>k_is);(case k=>k_is)
  have d_need_place:L2.d8 (L2.KOf KX) mg "need_place" My.dN:=by
   dsimp only [L2.KOf]
   refine' L2.bB KX G ?a ?l ?c ?k
   (case a=>k_is);(case l=>k_is);(case c=>k_is);(case k=>k_is)
  have d_need_span:L2.d8 (L2.KOf KX) mg "need_span" My.fB:=by
   dsimp only [L2.KOf]
   refine' L2.bB KX G ?a ?l ?c ?k
   (case a=>k_is);(case l=>k_is);(case c=>k_is);(case k=>k_is)
  have d_is_row:L2.d8 (L2.KOf KX) mg "is_row" My.gP:=by
   dsimp only [L2.KOf]
   refine' L2.bB KX G ?a ?l ?c ?k
   (case a=>k_is);(case l=>k_is);(case c=>k_is);(case k=>k_is)
  have d_is_plain:L2.d8 (L2.KOf KX) mg "is_plain" My.dg:=by
   dsimp only [L2.KOf]
   refine' L2.bB KX G ?a ?l ?c ?k
   (case a=>k_is);(case l=>k_is);(case c=>k_is);(case k=>k_is)
  have d_need_row:L2.d8 (L2.KOf KX) mg "need_row" My.jT:=by
   dsimp only [L2.KOf]
   refine' L2.bB KX G ?a ?l ?c ?k
   (case a=>k_is);(case l=>k_is);(case c=>k_is);(case k=>k_is)
  have d_need_rows:L2.d8 (L2.KOf KX) mg "need_rows" My.gZ:=by
   dsimp only [L2.KOf]
   refine' L2.bB KX G ?a ?l ?c ?k
   (case a=>k_is);(case l=>k_is);(case c=>k_is);(case k=>k_is)
  have d_need_plain:L2.d8 (L2.KOf KX) mg "need_plain" My.iy:=by
   dsimp only [L2.KOf]
   refine' L2.bB KX G ?a ?l ?c ?k
   (case a=>k_is);(case l=>k_is);(case c=>k_is);(case k=>k_is)
  have d_parted:L2.d8 (L2.KOf KX) mg "parted" My.lD:=by
   dsimp only [L2.KOf]
   refine' L2.bB KX G ?a ?l ?c ?k
   (case a=>k_is);(case l=>k_is);(case c=>k_is);(case k=>k_is)
  have d_lines_above:L2.d8 (L2.KOf KX) mg "lines_above" My.dW:=by
   dsimp only [L2.KOf]
   refine' L2.bB KX G ?a ?l ?c ?k
   (case a=>k_is);(case l=>k_is);(case c=>k_is);(case k=>k_is)
  have d_signs_of_row:L2.d8 (L2.KOf KX) mg "signs_of_row" My.aX:=by
   dsimp only [L2.KOf]
   refine' L2.bB KX G ?a ?l ?c ?k
   (case a=>k_is);(case l=>k_is);(case c=>k_is);(case k=>k_is)
  have d_over_row:L2.d8 (L2.KOf KX) mg "over_row" My.cA:=by
   dsimp only [L2.KOf]
   refine' L2.bB KX G ?a ?l ?c ?k
   (case a=>k_is);(case l=>k_is);(case c=>k_is);(case k=>k_is)
  have d_cells_of:L2.d8 (L2.KOf KX) mg "cells_of" My.bD:=by
   dsimp only [L2.KOf]
   refine' L2.bB KX G ?a ?l ?c ?k
   (case a=>k_is);(case l=>k_is);(case c=>k_is);(case k=>k_is)
  have d_ends_of:L2.d8 (L2.KOf KX) mg "ends_of" My.cV:=by
   dsimp only [L2.KOf]
   refine' L2.bB KX G ?a ?l ?c ?k
   (case a=>k_is);(case l=>k_is);(case c=>k_is);(case k=>k_is)
  have d_over_cells:L2.d8 (L2.KOf KX) mg "over_cells" My.aV:=by
   dsimp only [L2.KOf]
   refine' L2.bB KX G ?a ?l ?c ?k
   (case a=>k_is);(case l=>k_is);(case c=>k_is);(case k=>k_is)
  have d_ways_of:L2.d8 (L2.KOf KX) mg "ways_of" My.cO:=by
   dsimp only [L2.KOf]
   refine' L2.bB KX G ?a ?l ?c ?k
   (case a=>k_is);(case l=>k_is);(case c=>k_is);(case k=>k_is)
  have d_is_turning:L2.d8 (L2.KOf KX) mg "is_turning" My.bI:=by
   dsimp only [L2.KOf]
   refine' L2.bB KX G ?a ?l ?c ?k
   (case a=>k_is);(case l=>k_is);(case c=>k_is);(case k=>k_is)
  have d_need_turning:L2.d8 (L2.KOf KX) mg "need_turning" My.fG:=by
   dsimp only [L2.KOf]
   refine' L2.bB KX G ?a ?l ?c ?k
   (case a=>k_is);(case l=>k_is);(case c=>k_is);(case k=>k_is)
  have d_counts:L2.d8 (L2.KOf KX) mg "counts" My.cY:=by
   dsimp only [L2.KOf]
   refine' L2.bB KX G ?a ?l ?c ?k
   (case a=>k_is);(case l=>k_is);(case c=>k_is);(case k=>k_is)
  have d_asks_of:L2.d8 (L2.KOf KX) mg "asks_of" My.ie:=by
   dsimp only [L2.KOf]
   refine' L2.bB KX G ?a ?l ?c ?k
   (case a=>k_is);(case l=>k_is);(case c=>k_is);(case k=>k_is)
  have d_near:L2.d8 (L2.KOf KX) mg "near" My.fH:=by
   dsimp only [L2.KOf]
   refine' L2.bB KX G ?a ?l ?c ?k
   (case a=>k_is);(case l=>k_is);(case c=>k_is);(case k=>k_is)
  have d_law_cell:L2.d8 (L2.KOf KX) mg "_law_cell" My.iH:=by
   dsimp only [L2.KOf]
   refine' L2.bB KX G ?a ?l ?c ?k
   (case a=>k_is);(case l=>k_is);(case c=>k_is);(case k=>k_is)
  have d_law_drawn:L2.d8 (L2.KOf KX) mg "_law_drawn" My.b8:=by
   dsimp only [L2.KOf]
   refine' L2.bB KX G ?a ?l ?c ?k
   (case a=>k_is);(case l=>k_is);(case c=>k_is);(case k=>k_is)
  have d_law_letters:L2.d8 (L2.KOf KX) mg "_law_letters" My.bH:=by
   dsimp only [L2.KOf]
   refine' L2.bB KX G ?a ?l ?c ?k
   (case a=>k_is);(case l=>k_is);(case c=>k_is);(case k=>k_is)
  have d_law_row:L2.d8 (L2.KOf KX) mg "_law_row" My.cP:=by
   dsimp only [L2.KOf]
   refine' L2.bB KX G ?a ?l ?c ?k
   (case a=>k_is);(case l=>k_is);(case c=>k_is);(case k=>k_is)
  have d_law_costs:L2.d8 (L2.KOf KX) mg "_law_costs" My.aZ:=by
   dsimp only [L2.KOf]
   refine' L2.bB KX G ?a ?l ?c ?k
   (case a=>k_is);(case l=>k_is);(case c=>k_is);(case k=>k_is)
  have d_law_near:L2.d8 (L2.KOf KX) mg "_law_near" My.cT:=by
   dsimp only [L2.KOf]
   refine' L2.bB KX G ?a ?l ?c ?k
   (case a=>k_is);(case l=>k_is);(case c=>k_is);(case k=>k_is)
  have d_law_tuples:L2.d8 (L2.KOf KX) mg "_law_tuples" My.bJ:=by
   dsimp only [L2.KOf]
   refine' L2.bB KX G ?a ?l ?c ?k
   (case a=>k_is);(case l=>k_is);(case c=>k_is);(case k=>k_is)
  have d_law_listed:L2.d8 (L2.KOf KX) mg "_law_listed" My.bY:=by
   dsimp only [L2.KOf]
   refine' L2.bB KX G ?a ?l ?c ?k
   (case a=>k_is);(case l=>k_is);(case c=>k_is);(case k=>k_is)
  have d_law_watched:L2.d8 (L2.KOf KX) mg "_law_watched" My.bj:=by
   dsimp only [L2.KOf]
   refine' L2.bB KX G ?a ?l ?c ?k
   (case a=>k_is);(case l=>k_is);(case c=>k_is);(case k=>k_is)
  have d_law_stands:L2.d8 (L2.KOf KX) mg "_law_stands" My.bC:=by
   dsimp only [L2.KOf]
   refine' L2.bB KX G ?a ?l ?c ?k
   (case a=>k_is);(case l=>k_is);(case c=>k_is);(case k=>k_is)
  have d_law:L2.d8 (L2.KOf KX) mg "law" My.fJ:=by
   dsimp only [L2.KOf]
   refine' L2.bB KX G ?a ?l ?c ?k
   (case a=>k_is);(case l=>k_is);(case c=>k_is);(case k=>k_is)
  have o_Board:L2.oK (L2.KOf KX) mg "Board":=by
   dsimp only [L2.KOf]
   refine' L2.xY KX G ?a ?b ?s ?m ?k
   (case a=>k_is);(case b=>kernel_rfl);(case s=>k_is);(case m=>first | k_is | kernel_rfl);(case k=>k_is)
  have n_Board:∀ f∈(["held_side","held_top","held_cells","held_coming","held_lines","held_ways"]:List Str),L2.NoAttr (L2.KOf KX) (L2.aN mg "Board") f:=by
   dsimp only [L2.KOf]
   refine' L2.xZ KX G ?a ?b
   (case a=>k_is);(case b=>kernel_rfl)
  have o_Tally:L2.oK (L2.KOf KX) mg "Tally":=by
   dsimp only [L2.KOf]
   refine' L2.xY KX G ?a ?b ?s ?m ?k
   (case a=>k_is);(case b=>kernel_rfl);(case s=>k_is);(case m=>first | k_is | kernel_rfl);(case k=>k_is)
  have n_Tally:∀ f∈(["held_ends","held_counts"]:List Str),L2.NoAttr (L2.KOf KX) (L2.aN mg "Tally") f:=by
   dsimp only [L2.KOf]
   refine' L2.xZ KX G ?a ?b
   (case a=>k_is);(case b=>kernel_rfl)
  have o_Asks:L2.oK (L2.KOf KX) mg "Asks":=by
   dsimp only [L2.KOf]
   refine' L2.xY KX G ?a ?b ?s ?m ?k
   (case a=>k_is);(case b=>kernel_rfl);(case s=>k_is);(case m=>first | k_is | kernel_rfl);(case k=>k_is)
  have n_Asks:∀ f∈(["held_tally","held_many","held_far"]:List Str),L2.NoAttr (L2.KOf KX) (L2.aN mg "Asks") f:=by
   dsimp only [L2.KOf]
   refine' L2.xZ KX G ?a ?b
   (case a=>k_is);(case b=>kernel_rfl)
  have o_Costs:L2.oK (L2.KOf KX) mg "Costs":=by
   dsimp only [L2.KOf]
   refine' L2.xY KX G ?a ?b ?s ?m ?k
   (case a=>k_is);(case b=>kernel_rfl);(case s=>k_is);(case m=>first | k_is | kernel_rfl);(case k=>k_is)
  have n_Costs:∀ f∈(["held_asks","held_side","held_top"]:List Str),L2.NoAttr (L2.KOf KX) (L2.aN mg "Costs") f:=by
   dsimp only [L2.KOf]
   refine' L2.xZ KX G ?a ?b
   (case a=>k_is);(case b=>kernel_rfl)
  have o_Watch:L2.oK (L2.KOf KX) mg "Watch":=by
   dsimp only [L2.KOf]
   refine' L2.xY KX G ?a ?b ?s ?m ?k
   (case a=>k_is);(case b=>kernel_rfl);(case s=>k_is);(case m=>first | k_is | kernel_rfl);(case k=>k_is)
  have n_Watch:∀ f∈(["held_near","held_rows","held_most"]:List Str),L2.NoAttr (L2.KOf KX) (L2.aN mg "Watch") f:=by
   dsimp only [L2.KOf]
   refine' L2.xZ KX G ?a ?b
   (case a=>k_is);(case b=>kernel_rfl)
  have m_Board___init__:L2.d7 (L2.KOf KX) mg "Board" "__init__" "Board.__init__" My.aQ:=by
   dsimp only [L2.KOf]
   refine' L2.je KX G ?a ?i ?n ?l ?c ?k
   (case a=>k_is);(case i=>k_is);(case n=>first | k_is | kernel_rfl);(case l=>k_is);(case c=>k_is);(case k=>k_is)
  have m_Board_lines:L2.d7 (L2.KOf KX) mg "Board" "lines" "Board.lines" My.gQ:=by
   dsimp only [L2.KOf]
   refine' L2.je KX G ?a ?i ?n ?l ?c ?k
   (case a=>k_is);(case i=>k_is);(case n=>first | k_is | kernel_rfl);(case l=>k_is);(case c=>k_is);(case k=>k_is)
  have m_Tally___init__:L2.d7 (L2.KOf KX) mg "Tally" "__init__" "Tally.__init__" My.bN:=by
   dsimp only [L2.KOf]
   refine' L2.je KX G ?a ?i ?n ?l ?c ?k
   (case a=>k_is);(case i=>k_is);(case n=>first | k_is | kernel_rfl);(case l=>k_is);(case c=>k_is);(case k=>k_is)
  have m_Tally_below:L2.d7 (L2.KOf KX) mg "Tally" "below" "Tally.below" My.cI:=by
   dsimp only [L2.KOf]
   refine' L2.je KX G ?a ?i ?n ?l ?c ?k
   (case a=>k_is);(case i=>k_is);(case n=>first | k_is | kernel_rfl);(case l=>k_is);(case c=>k_is);(case k=>k_is)
  have m_Asks___init__:L2.d7 (L2.KOf KX) mg "Asks" "__init__" "Asks.__init__" My.bK:=by
   dsimp only [L2.KOf]
   refine' L2.je KX G ?a ?i ?n ?l ?c ?k
   (case a=>k_is);(case i=>k_is);(case n=>first | k_is | kernel_rfl);(case l=>k_is);(case c=>k_is);(case k=>k_is)
  have m_Asks_reckoned:L2.d7 (L2.KOf KX) mg "Asks" "reckoned" "Asks.reckoned" My.bL:=by
   dsimp only [L2.KOf]
   refine' L2.je KX G ?a ?i ?n ?l ?c ?k
   (case a=>k_is);(case i=>k_is);(case n=>first | k_is | kernel_rfl);(case l=>k_is);(case c=>k_is);(case k=>k_is)
  have m_Asks_reckoned_stretch:L2.d7 (L2.KOf KX) mg "Asks" "reckoned_stretch" "Asks.reckoned_stretch" My.bx:=by
   dsimp only [L2.KOf]
   refine' L2.je KX G ?a ?i ?n ?l ?c ?k
   (case a=>k_is);(case i=>k_is);(case n=>first | k_is | kernel_rfl);(case l=>k_is);(case c=>k_is);(case k=>k_is)
  have m_Asks_stretch:L2.d7 (L2.KOf KX) mg "Asks" "stretch" "Asks.stretch" My.cU:=by
   dsimp only [L2.KOf]
   refine' L2.je KX G ?a ?i ?n ?l ?c ?k
   (case a=>k_is);(case i=>k_is);(case n=>first | k_is | kernel_rfl);(case l=>k_is);(case c=>k_is);(case k=>k_is)
  have m_Costs___init__:L2.d7 (L2.KOf KX) mg "Costs" "__init__" "Costs.__init__" My.bO:=by
   dsimp only [L2.KOf]
   refine' L2.je KX G ?a ?i ?n ?l ?c ?k
   (case a=>k_is);(case i=>k_is);(case n=>first | k_is | kernel_rfl);(case l=>k_is);(case c=>k_is);(case k=>k_is)
  have m_Costs_reckoned_cost:L2.d7 (L2.KOf KX) mg "Costs" "reckoned_cost" "Costs.reckoned_cost" My.bu:=by
   dsimp only [L2.KOf]
   refine' L2.je KX G ?a ?i ?n ?l ?c ?k
   (case a=>k_is);(case i=>k_is);(case n=>first | k_is | kernel_rfl);(case l=>k_is);(case c=>k_is);(case k=>k_is)
  have m_Costs_row_of:L2.d7 (L2.KOf KX) mg "Costs" "row_of" "Costs.row_of" My.cj:=by
   dsimp only [L2.KOf]
   refine' L2.je KX G ?a ?i ?n ?l ?c ?k
   (case a=>k_is);(case i=>k_is);(case n=>first | k_is | kernel_rfl);(case l=>k_is);(case c=>k_is);(case k=>k_is)
  have m_Costs_rows_of:L2.d7 (L2.KOf KX) mg "Costs" "rows_of" "Costs.rows_of" My.cB:=by
   dsimp only [L2.KOf]
   refine' L2.je KX G ?a ?i ?n ?l ?c ?k
   (case a=>k_is);(case i=>k_is);(case n=>first | k_is | kernel_rfl);(case l=>k_is);(case c=>k_is);(case k=>k_is)
  have m_Watch___init__:L2.d7 (L2.KOf KX) mg "Watch" "__init__" "Watch.__init__" My.bQ:=by
   dsimp only [L2.KOf]
   refine' L2.je KX G ?a ?i ?n ?l ?c ?k
   (case a=>k_is);(case i=>k_is);(case n=>first | k_is | kernel_rfl);(case l=>k_is);(case c=>k_is);(case k=>k_is)
  have m_Watch_side:L2.d7 (L2.KOf KX) mg "Watch" "side" "Watch.side" My.jE:=by
   dsimp only [L2.KOf]
   refine' L2.je KX G ?a ?i ?n ?l ?c ?k
   (case a=>k_is);(case i=>k_is);(case n=>first | k_is | kernel_rfl);(case l=>k_is);(case c=>k_is);(case k=>k_is)
  have m_Watch_top:L2.d7 (L2.KOf KX) mg "Watch" "top" "Watch.top" My.j7:=by
   dsimp only [L2.KOf]
   refine' L2.je KX G ?a ?i ?n ?l ?c ?k
   (case a=>k_is);(case i=>k_is);(case n=>first | k_is | kernel_rfl);(case l=>k_is);(case c=>k_is);(case k=>k_is)
  have m_Watch_most:L2.d7 (L2.KOf KX) mg "Watch" "most" "Watch.most" My.jF:=by
   dsimp only [L2.KOf]
   refine' L2.je KX G ?a ?i ?n ?l ?c ?k
   (case a=>k_is);(case i=>k_is);(case n=>first | k_is | kernel_rfl);(case l=>k_is);(case c=>k_is);(case k=>k_is)
  have m_Watch_told:L2.d7 (L2.KOf KX) mg "Watch" "told" "Watch.told" My.iz:=by
   dsimp only [L2.KOf]
   refine' L2.je KX G ?a ?i ?n ?l ?c ?k
   (case a=>k_is);(case i=>k_is);(case n=>first | k_is | kernel_rfl);(case l=>k_is);(case c=>k_is);(case k=>k_is)
  exact ⟨d_law,fun base f fd F=>My.Up ⟨b_all,b_bool,b_enumerate,b_int,b_isinstance,b_len,b_list,b_min,b_range,b_reversed,b_sorted,b_str,b_tuple,b_zip,c_CROSS,c_LETTERS,c_MOST_COST,c_MOST_LETTERS,c_MOST_LINES,c_MOST_SIGNS,c_POINT,c_TOUCH,d_is_number,d_is_within,d_is_span,d_need_place,d_need_span,d_is_row,d_is_plain,d_need_row,d_need_rows,d_need_plain,d_parted,d_lines_above,d_signs_of_row,d_over_row,d_cells_of,d_ends_of,d_over_cells,d_ways_of,d_is_turning,d_need_turning,d_counts,d_asks_of,d_near,d_law_cell,d_law_drawn,d_law_letters,d_law_row,d_law_costs,d_law_near,d_law_tuples,d_law_listed,d_law_watched,d_law_stands,d_law,o_Board,n_Board,o_Tally,n_Tally,o_Asks,n_Asks,o_Costs,n_Costs,o_Watch,n_Watch,m_Board___init__,m_Board_lines,m_Tally___init__,m_Tally_below,m_Asks___init__,m_Asks_reckoned,m_Asks_reckoned_stretch,m_Asks_stretch,m_Costs___init__,m_Costs_reckoned_cost,m_Costs_row_of,m_Costs_rows_of,m_Watch___init__,m_Watch_side,m_Watch_top,m_Watch_most,m_Watch_told⟩ F⟩
