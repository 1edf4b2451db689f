import PyProof.Rows.All
import Wide.All
import OpenK.AllK
import Wide.FinOn
import Lean
import PyProof.EqAt
import PyProof.EqKinds
import PyProof.TupleCall
import PyProof.ReprRoads
import KE.KSortTup
import KE.KDictList
import KE.KMinKey
import PySem.Challenge.RW_panethread_k52_strips_and_balanced
noncomputable section
set_option compiler.extract_closed false
set_option Elab.async false
set_option linter.all false
set_option maxRecDepth 100000
namespace L2
@[elab_as_elim] theorem jU {p:List PySem.Value→Prop} (h:∀ a0:PySem.Value,p [a0]) (us:List PySem.Value) (hl:us.length=1):p us:=by
 rcases us with _ | ⟨a0,us0⟩
 ·cases hl
 rcases us0 with _ | ⟨b,us⟩
 ·exact h a0
 ·cases hl
@[elab_as_elim] theorem ou {p:List PySem.Value→Prop} (h:∀ a0 a1:PySem.Value,p [a0,a1]) (us:List PySem.Value) (hl:us.length=2):p us:=by
 rcases us with _ | ⟨a0,us0⟩
 ·cases hl
 rcases us0 with _ | ⟨a1,us1⟩
 ·cases hl
 rcases us1 with _ | ⟨b,us⟩
 ·exact h a0 a1
 ·cases hl
@[elab_as_elim] theorem wD {p:List PySem.Value→Prop} (h:∀ a0 a1 a2:PySem.Value,p [a0,a1,a2]) (us:List PySem.Value) (hl:us.length=3):p us:=by
 rcases us with _ | ⟨a0,us0⟩
 ·cases hl
 rcases us0 with _ | ⟨a1,us1⟩
 ·cases hl
 rcases us1 with _ | ⟨a2,us2⟩
 ·cases hl
 rcases us2 with _ | ⟨b,us⟩
 ·exact h a0 a1 a2
 ·cases hl
@[elab_as_elim] theorem usN4 {p:List PySem.Value→Prop} (h:∀ a0 a1 a2 a3:PySem.Value,p [a0,a1,a2,a3]) (us:List PySem.Value) (hl:us.length=4):p us:=by
 rcases us with _ | ⟨a0,us0⟩
 ·cases hl
 rcases us0 with _ | ⟨a1,us1⟩
 ·cases hl
 rcases us1 with _ | ⟨a2,us2⟩
 ·cases hl
 rcases us2 with _ | ⟨a3,us3⟩
 ·cases hl
 rcases us3 with _ | ⟨b,us⟩
 ·exact h a0 a1 a2 a3
 ·cases hl
@[elab_as_elim] theorem usN6 {p:List PySem.Value→Prop} (h:∀ a0 a1 a2 a3 a4 a5:PySem.Value,p [a0,a1,a2,a3,a4,a5]) (us:List PySem.Value) (hl:us.length=6):p us:=by
 rcases us with _ | ⟨a0,us0⟩
 ·cases hl
 rcases us0 with _ | ⟨a1,us1⟩
 ·cases hl
 rcases us1 with _ | ⟨a2,us2⟩
 ·cases hl
 rcases us2 with _ | ⟨a3,us3⟩
 ·cases hl
 rcases us3 with _ | ⟨a4,us4⟩
 ·cases hl
 rcases us4 with _ | ⟨a5,us5⟩
 ·cases hl
 rcases us5 with _ | ⟨b,us⟩
 ·exact h a0 a1 a2 a3 a4 a5
 ·cases hl
theorem auto1 (h:True:=by first | exact .inl rfl | exact .inr rfl | assumption):True:=h
theorem auto2 (h:True:=by decide):True:=h
theorem auto3 (h:True:=by intro _;rfl):True:=h
theorem auto4 (h:True:=by rfl):True:=h
theorem auto5 (h:True:=by with_unfolding_all rfl):True:=h
theorem auto6 (h:True:=by decide+kernel):True:=h
open PySem PySem.Spec PyProof.Rows
abbrev Key:=Sum Int Str
def vB:Key→Value→Bool
 | .inl k,v=>Value.isInt k v
 | .inr x,v=>Value.isStrOf x v
def keyH (w:World):Key→Int
 | .inl k=>hashInt k
 | .inr x=>hashStr w x
theorem eZ:∀ {k:Key} {v:Value},vB k v=true→(∃ i t,k=Sum.inl i∧v=Value.int i t)∨(∃ x t,k=Sum.inr x∧v=Value.str x t)
 | .inl i,v,h=>by
  obtain ⟨t,e⟩:=Value.isInt_shape (k:=i) (v:=v) h
  exact .inl ⟨i,t,rfl,e⟩
 | .inr x,v,h=>by
  obtain ⟨t,e⟩:=Value.isStrOf_shape (x:=x) (v:=v) h
  exact .inr ⟨x,t,rfl,e⟩
theorem DG (i:Int) (t:Tok):vB (.inl i) (.int i t)=true:=by simp [vB,Value.isInt]
theorem DK (x:Str) (t:Tok):vB (.inr x) (.str x t)=true:=by simp [vB,Value.isStrOf]
theorem Q6 (a b:Int):decide ((Sum.inl a:Key)=Sum.inl b)=(a == b):=by
 by_cases e:a=b
 ·subst e;simp
 ·have h:¬ (Sum.inl a:Key)=Sum.inl b:=fun q=>e (Sum.inl.inj q)
  rw [decide_eq_false h]
  exact (beq_eq_false_iff_ne.mpr e).symm
theorem Q7 (a b:Str):decide ((Sum.inr a:Key)=Sum.inr b)=decide (a=b):=by
 by_cases e:a=b
 ·subst e;simp
 ·have h:¬ (Sum.inr a:Key)=Sum.inr b:=fun q=>e (Sum.inr.inj q)
  rw [decide_eq_false h,decide_eq_false e]
theorem Q8 (a:Int) (b:Str):decide ((Sum.inl a:Key)=Sum.inr b)=false:=decide_eq_false (fun q=>nomatch q)
theorem Q9 (a:Str) (b:Int):decide ((Sum.inr a:Key)=Sum.inl b)=false:=decide_eq_false (fun q=>nomatch q)
def dI (prog:Program) (w:World):PySem.KeyKind prog w Key where
 is:=vB
 hash:=keyH w
 inj:=fun v a b ha hb=>by
  rcases eZ ha with ⟨i,t,rfl,rfl⟩ | ⟨x,t,rfl,rfl⟩
  ·rcases eZ hb with ⟨j,u,rfl,e⟩ | ⟨y,u,rfl,e⟩
   ·injection e with e1 _;rw [e1]
   ·exact nomatch e
  ·rcases eZ hb with ⟨j,u,rfl,e⟩ | ⟨y,u,rfl,e⟩
   ·exact nomatch e
   ·injection e with e1 _;rw [e1]
 byValue:=fun k v h=>by
  rcases eZ h with ⟨i,t,rfl,rfl⟩ | ⟨x,t,rfl,rfl⟩ <;> rfl
 pyHash:=fun hv h=>by
  rcases eZ hv with ⟨i,t,rfl,rfl⟩ | ⟨x,t,rfl,rfl⟩
  ·exact wpAny_pyHash_int h
  ·exact wpAny_pyHash_str h
 eqBool:=fun hu hv h=>by
  rcases eZ hu with ⟨i,t,rfl,rfl⟩ | ⟨x,t,rfl,rfl⟩
  ·rcases eZ hv with ⟨j,u,rfl,rfl⟩ | ⟨y,u,rfl,rfl⟩
   ·rw [Q6] at h;exact wpAny_eqBool_int h
   ·rw [Q8] at h;exact SeqAt.EqAt.int_str i t y u _ _ _ _ h
  ·rcases eZ hv with ⟨j,u,rfl,rfl⟩ | ⟨y,u,rfl,rfl⟩
   ·rw [Q9] at h;exact SeqAt.EqAt.str_int x t j u _ _ _ _ h
   ·rw [Q7] at h;exact wpAny_eqBool_str h
 «strs»:=fun k x t v h=>by
  rcases eZ h with ⟨i,u,rfl,e⟩ | ⟨y,u,rfl,e⟩
  ·exact nomatch e
  ·injection e with e1 _
   subst e1
   cases v <;> rfl
theorem yo (prog:Program) (w:World) (i:Int) (t:Tok):(dI prog w).is (.inl i) (.int i t)=true:=DG i t
theorem yp (prog:Program) (w:World) (x:Str) (t:Tok):(dI prog w).is (.inr x) (.str x t)=true:=DK x t
end L2
namespace L2
open PySem PySem.Spec PyProof.Rows
inductive V where
 | non | bl (b:Bool) | int (i:Int) | str (x:Str) | byt (b:Array UInt8) | flt (b:UInt64) | ref (a:Addr) | ty (n:String)
 deriving DecidableEq
def RelV:V→Value→Prop
 | .non,u=>u=Value.none
 | .bl b,u=>u=Value.bool b
 | .int i,u=>∃ t,u=Value.int i t
 | .str x,u=>∃ t,u=Value.str x t
 | .byt b,u=>∃ t,u=Value.bytes b t
 | .flt b,u=>∃ t,u=Value.float b t
 | .ref a,u=>u=Value.ref a
 | .ty n,u=>u=Value.type n
abbrev Vals:List V→List Value→Prop:=Paired RelV
theorem Vals.length {xs:List V} {us:List Value} (r:Vals xs us):xs.length=us.length:=Paired.length r
theorem Vals.get:∀ {xs:List V} {us:List Value} {i:Nat} {x:V},Vals xs us→xs[i]?=some x→∃ u,us[i]?=some u∧RelV x u
 | _,_,_,_,.nil,e=>by simp at e
 | _,_,0,_,.cons r _,e=>by simp at e;subst e;exact ⟨_,rfl,r⟩
 | _,_,i+1,x,.cons _ t,e=>by
  obtain ⟨u,h1,h2⟩:=Vals.get (i:=i) (x:=x) t (by simpa using e)
  exact ⟨u,by simpa using h1,h2⟩
theorem Vals.set {x:V} {u:Value} (r:RelV x u):∀ {xs:List V} {us:List Value} (i:Nat),Vals xs us→Vals (xs.set i x) (us.set i u)
 | _,_,_,.nil=>.nil
 | _,_,0,.cons _ t=>.cons r t
 | _,_,i+1,.cons q t=>.cons q (Vals.set r i t)
theorem Vals.append:∀ {xs ys:List V} {us ws:List Value},Vals xs us→Vals ys ws→Vals (xs ++ ys) (us ++ ws)
 | _,_,_,_,.nil,s=>s
 | _,_,_,_,.cons r t,s=>.cons r (Vals.append t s)
theorem Vals.take:∀ {xs:List V} {us:List Value} (n:Nat),Vals xs us→Vals (xs.take n) (us.take n)
 | _,_,0,_=>.nil
 | _,_,_+1,.nil=>.nil
 | _,_,n+1,.cons r t=>.cons r (Vals.take n t)
theorem Vals.drop:∀ {xs:List V} {us:List Value} (n:Nat),Vals xs us→Vals (xs.drop n) (us.drop n)
 | _,_,0,r=>r
 | _,_,_+1,.nil=>.nil
 | _,_,n+1,.cons _ t=>Vals.drop n t
def RelO:Option V→Option Value→Prop
 | some v,some u=>RelV v u
 | none,none=>True
 | _,_=>False
def KV {κ:Type}:List (κ×V)→List (κ×Value)→Prop:=Paired fun (p:κ×V) (q:κ×Value)=>p.1=q.1∧RelV p.2 q.2
def kV:Key→V
 | .inl i=>.int i
 | .inr x=>.str x
inductive HO where
 /-- a list -/
 | lst (xs:List V)
 /-- a tuple (never changes) -/
 | tup (xs:List V)
 /-- a dict whose keys are ints and texts;one whose keys are tuples of ints and texts (the empty one is both) -/
 | dK (kvs:List (Key×V)) | dT (kvs:List (List Key×V))
 /-- a set of ints:its members,its size -/
 | set (S:Int→Bool) (n:Nat)
 /-- an instance of the class at C,its dict at dx,its attributes -/
 | ins (C dx:Addr) (fs:List (Str×V))
 /-- the dict of the instance at x -/
 | own (x:Addr)
 /-- the dict of an exception -/
 | xd (fs:List (Str×V))
 /-- a bound method,f of x -/
 | met (f x:Addr)
 /-- a range object lo,lo+1,.. below hi -/
 | rng (lo hi:Int)
 /-- a thing that is known to the object (the script;a dict while a loop walks it):read,never written while it is so -/
 | frz (o:Obj) (u:HO)
 /-- a code object's table -/
 | tbl (ps:Array Value)
 /-- any other thing,by what is true of its one object (a def of one's own:SetO a S n:=HO.ext fun h=>..) -/
 | ext (φ:Heap→Prop)
abbrev Hp:=Addr→Option HO
def upd (H:Hp) (a:Addr) (o:HO):Hp:=fun b=>if b=a then some o else H b
theorem aj {H:Hp} {a:Addr} {o:HO}:upd H a o a=some o:=by unfold upd;rw [if_pos rfl]
theorem aB {H:Hp} {a b:Addr} {o:HO} (h:b≠a):upd H a o b=H b:=by unfold upd;rw [if_neg h]
theorem Lb {H:Hp} {a:Addr} {o u:HO}:upd (upd H a o) a u=upd H a u:=by
 funext b;unfold upd;split <;> rfl
theorem Vv {H:Hp} {a b:Addr} {o u:HO} (h:H a=some o) (h':H b=some u) (d:o≠u):a≠b:=by
 intro e;subst e;rw [h] at h';exact d (Option.some.inj h')
theorem lD {H:Hp} {a b:Addr} {o:HO} (h:H a=some o) (h':H b=none):a≠b:=by
 intro e;subst e;rw [h] at h';cases h'
section
variable (P:Program) (w:World)
def ObjOk (H:Hp) (h:Heap) (a:Addr):HO→Prop
 | .lst xs=>xs.length≤sizeLine∧∃ (its:List Value) (n:Nat),Vals xs its∧h.get? a=some {cls:=.type "list",data:=.seq its.toArray n}
 | .tup xs=>xs.length≤sizeLine∧∃ its:List Value,Vals xs its∧IsTup h a its.toArray
 | .dK kvs=>kvs.length≤sizeLine∧(a == sysModules)=false∧∃ vs,KV kvs vs∧h.DictOf (dI P w) a vs
 | .dT kvs=>kvs.length≤sizeLine∧(a == sysModules)=false∧∃ xs:List (List Key×Addr×Value),
   Paired (fun (p:List Key×V) (q:List Key×Addr×Value)=>p.1=q.1∧H q.2.1=some (.tup (p.1.map kV))∧RelV p.2 q.2.2) kvs xs∧
   ∃ o es ep,h.get? a=some o∧o.ExactDict∧o.data= .dict es ep∧es.toList=xs.map (entryOfKey (tupleKind (dI P w)))∧(xs.map (·.1)).Nodup
 | .set S n=>h.SetOf (intKind P w) a S n
 | .ins C dx fs=>H dx=some (.own a)∧fs.length≤1000∧dx≠a∧h.get? a=some (PySem.W.instObj C dx)∧
   ∃ mA,h.Ns1 dx mA∧(∀ f,RelO (fs.lookup f) (mA f))∧PySem.Within mA (fs.map (·.1))
 | .own _=>∃ o,h.get? a=some o
 | .xd fs=>∃ mA,h.Ns1 a mA∧∀ f,RelO (fs.lookup f) (mA f)
 | .rng lo hi=>∃ t u v,h.get? a=some {cls:=.type "range",data:=.fields #[.int lo t,.int hi u,.int 1 v]}
 | .frz o u=>h.get? a=some o∧ObjOk H h a u
 | .tbl ps=>h.get? a=some {cls:=.none,data:=.fields ps}
 | .met f x=>h.get? a=some (PySem.W.methodObj (.ref f) (.ref x))
 | .ext φ=>φ h∧(∃ o,h.get? a=some o)∧∀ h1 h2:Heap,φ h1→(∀ o,h1.get? a=some o→h2.get? a=some o)→φ h2
def HOk (H:Hp) (h:Heap):Prop:=∀ a o,H a=some o→ObjOk P w H h a o
end
section
variable {P:Program} {w:World} {H H':Hp} {h h':Heap} {a:Addr} {o:HO}
theorem ObjOk.lt (x:ObjOk P w H h a o):a < h.objs.size:=by
 cases o with
 | lst xs=>obtain ⟨_,_,_,_,e⟩:=x;exact Heap.lt_size e
 | tup xs=>obtain ⟨_,_,_,p⟩:=x;exact p.lt
 | dK kvs=>obtain ⟨_,_,_,_,o,_,_,e,_⟩:=x;exact Heap.lt_size e
 | dT kvs=>obtain ⟨_,_,_,_,o,_,_,e,_⟩:=x;exact Heap.lt_size e
 | set S n=>obtain ⟨o,_,_,_,e,_⟩:=x;exact Heap.lt_size e
 | ins C dx fs=>obtain ⟨_,_,_,e,_⟩:=x;exact Heap.lt_size e
 | own y=>obtain ⟨_,e⟩:=x;exact Heap.lt_size e
 | xd fs=>obtain ⟨_,⟨_,_,_,e,_⟩,_⟩:=x;exact Heap.lt_size e
 | rng lo hi=>obtain ⟨_,_,_,e⟩:=x;exact Heap.lt_size e
 | frz ob u=>obtain ⟨e,_⟩:=x;exact Heap.lt_size e
 | tbl ps=>exact Heap.lt_size (show h.get? a=some _ from x)
 | met f y=>exact Heap.lt_size (show h.get? a=some _ from x)
 | ext φ=>obtain ⟨_,⟨_,e⟩,_⟩:=x;exact Heap.lt_size e
theorem Paired.mapP {α β:Type} {F G:α→β→Prop}:∀ {l₁:List α} {l₂:List β},Paired F l₁ l₂→(∀ a b,F a b→G a b)→Paired G l₁ l₂
 | _,_,.nil,_=>.nil
 | _,_,.cons r t,f=>.cons (f _ _ r) (Paired.mapP t f)
theorem ObjOk.stay (x:ObjOk P w H h a o) (k:∀ b u,(b=a∨H b=some (.own a))→h.get? b=some u→h'.get? b=some u)
  (ho:∀ b,H b=some (.own a)→H' b=some (.own a)) (ht:∀ b xs,H b=some (.tup xs)→H' b=some (.tup xs)):ObjOk P w H' h' a o:=by
 induction o with
 | lst xs=>obtain ⟨z,its,n,r,e⟩:=x;exact ⟨z,its,n,r,k _ _ (.inl rfl) e⟩
 | tup xs=>obtain ⟨z,its,r,ob,e,c⟩:=x;exact ⟨z,its,r,ob,k _ _ (.inl rfl) e,c⟩
 | dK kvs=>obtain ⟨z,y,vs,r,ob,es,ep,e,c⟩:=x;exact ⟨z,y,vs,r,ob,es,ep,k _ _ (.inl rfl) e,c⟩
 | dT kvs=>
  obtain ⟨z,y,xs,r,ob,es,ep,e,c⟩:=x
  exact ⟨z,y,xs,Paired.mapP r fun p q z=>⟨z.1,ht _ _ z.2.1,z.2.2⟩,ob,es,ep,k _ _ (.inl rfl) e,c⟩
 | set S n=>obtain ⟨ob,es,ep,t,e,c⟩:=x;exact ⟨ob,es,ep,t,k _ _ (.inl rfl) e,c⟩
 | ins C dx fs=>
  obtain ⟨d,z,ne,e,mA,⟨od,es,ep,e2,c⟩,r⟩:=x
  exact ⟨ho _ d,z,ne,k _ _ (.inl rfl) e,mA,⟨od,es,ep,k _ _ (.inr d) e2,c⟩,r⟩
 | own y=>obtain ⟨ob,e⟩:=x;exact ⟨ob,k _ _ (.inl rfl) e⟩
 | xd fs=>obtain ⟨mA,⟨od,es,ep,e,c⟩,r⟩:=x;exact ⟨mA,⟨od,es,ep,k _ _ (.inl rfl) e,c⟩,r⟩
 | rng lo hi=>obtain ⟨t,u,v,e⟩:=x;exact ⟨t,u,v,k _ _ (.inl rfl) e⟩
 | frz ob u ih=>obtain ⟨e,q⟩:=x;exact ⟨k _ _ (.inl rfl) e,ih q⟩
 | tbl ps=>
  have e:h.get? a=some {cls:=.none,data:=.fields ps}:=x
  show h'.get? a=some {cls:=.none,data:=.fields ps}
  exact k a _ (.inl rfl) e
 | met f y=>
  have e:h.get? a=some (PySem.W.methodObj (.ref f) (.ref y)):=x
  show h'.get? a=some (PySem.W.methodObj (.ref f) (.ref y))
  exact k a _ (.inl rfl) e
 | ext φ=>obtain ⟨p,⟨o,e⟩,st⟩:=x;exact ⟨st _ _ p fun o q=>k _ _ (.inl rfl) q,⟨o,k _ _ (.inl rfl) e⟩,st⟩
theorem HOk.lt (x:HOk P w H h) (e:H a=some o):a < h.objs.size:=(x a o e).lt
theorem HOk.fresh (x:HOk P w H h) (e:h.objs.size≤a):H a=none:=by
 cases q:H a with
 | none=>rfl
 | some u=>exact absurd (Nat.lt_of_lt_of_le (x.lt q) e) (Nat.lt_irrefl _)
theorem HOk.kept (x:HOk P w H h) (k:∀ b u,h.get? b=some u→h'.get? b=some u):HOk P w H h':=fun a o e=>
 (x a o e).stay (fun b u _ q=>k b u q) (fun _ q=>q) fun _ _ q=>q
theorem HOk.laid (x:HOk P w H h) (k:∀ b u,h.get? b=some u→h'.get? b=some u) (hp:h.objs.size≤a) (new:ObjOk P w (upd H a o) h' a o):HOk P w (upd H a o) h':=fun b u e=>by
 have hn:=x.fresh hp
 by_cases hb:b=a
 ·subst hb;rw [aj] at e;cases e;exact new
 ·rw [aB hb] at e
  exact (x b u e).stay (fun c v _ q=>k c v q) (fun c q=>by rw [aB (lD q hn)];exact q) fun c xs q=>by rw [aB (lD q hn)];exact q
end
def Rd (H:Hp) (a:Addr) (u:HO):Prop:=H a=some u∨∃ o,H a=some (.frz o u)
theorem Rd.ok {P:Program} {w:World} {H:Hp} {h:Heap} {a:Addr} {u:HO} (r:Rd H a u) (x:HOk P w H h):ObjOk P w H h a u:=by
 rcases r with r | ⟨o,r⟩
 ·exact x a u r
 ·obtain ⟨_,q⟩:=x a _ r
  exact q
def Vw:Option HO→Prop
 | some (.lst _)=>True
 | some (.dK _)=>True
 | some (.dT _)=>True
 | some (.set _ _)=>True
 | some (.ins _ _ _)=>True
 | some (.ext _)=>True
 | _=>False
section
variable {P:Program} {w:World} {H:Hp} {h h':Heap} {x e:Addr} {o':HO}
theorem HOk.write (ok:HOk P w H h) (mu:Vw (H x)) (he:e=x∨H e=some (.own x)) (k:∀ b u,b≠e→h.get? b=some u→h'.get? b=some u) (heo:∃ u,h'.get? e=some u)
  (new:ObjOk P w (upd H x o') h' x o'):HOk P w (upd H x o') h':=fun b u q=>by
 have nown:∀ c y,H c=some (.own y)→c≠x:=fun c y r z=>by subst z;rw [r] at mu;exact mu
 have ntup:∀ c xs,H c=some (.tup xs)→c≠x:=fun c xs r z=>by subst z;rw [r] at mu;exact mu
 by_cases hb:b=x
 ·subst hb;rw [aj] at q;cases q;exact new
 ·rw [aB hb] at q
  by_cases hbe:b=e
  ·have q':H b=some (.own x):=by
    rcases he with z | z
    ·exact absurd (hbe.trans z) hb
    ·rw [hbe];exact z
   rw [q] at q';cases q'
   obtain ⟨v,hv⟩:=heo
   exact ⟨v,by rw [hbe];exact hv⟩
  ·refine (ok b u q).stay (fun c v hc r=>k c v ?_ r) (fun c r=>by rw [aB (nown c b r)];exact r) fun c xs r=>by rw [aB (ntup c xs r)];exact r
   rcases hc with rfl | hc
   ·exact hbe
   ·rintro rfl
    rcases he with z | z
    ·exact nown c b hc z
    ·rw [hc] at z;cases z;exact hb rfl
end
structure Un (fs ex:List Addr) (H H':Hp) (h h':Heap):Prop where
 keep:∀ b o,h.get? b=some o→H b=none→b ∉ fs→b ∉ ex→h'.get? b=some o
 slot:∀ b o,h.get? b=some o→H b=none→b∈fs→b ∉ ex→∃ sl,h'.get? b=some {o with slots:=sl}
 free:∀ b o,h.get? b=some o→H b=none→b ∉ ex→H' b=none
 there:∀ b o,h.get? b=some o→b ∉ ex→∃ o',h'.get? b=some o'
 tups:∀ b xs,H b=some (.tup xs)→H' b=some (.tup xs)
 frzs:∀ b o u,H b=some (.frz o u)→H' b=some (.frz o u)
 tbls:∀ b ps,H b=some (.tbl ps)→∃ more,H' b=some (.tbl (ps ++ more))
section
variable {fs fs' ex ex':List Addr} {H H1 H2:Hp} {h h1 h2 h':Heap} {a x e:Addr} {o:HO}
theorem Un.any (u:Un fs ex H H1 h h1) {b:Addr} {ob:Obj} (q:h.get? b=some ob) (n:H b=none) (hx:b ∉ ex):∃ sl,h1.get? b=some {ob with slots:=sl}:=by
 by_cases hb:b∈fs
 ·exact u.slot b ob q n hb hx
 ·exact ⟨ob.slots,u.keep b ob q n hb hx⟩
theorem Un.kept (k:∀ b u,h.get? b=some u→h'.get? b=some u):Un fs ex H H h h':=
 ⟨fun b ob q _ _ _=>k b ob q,fun b ob q _ _ _=>⟨ob.slots,k b ob q⟩,fun _ _ _ n _=>n,fun b ob q _=>⟨ob,k b ob q⟩,fun _ _ q=>q,fun _ _ _ q=>q,fun _ ps q=>⟨#[],by rw [q];simp⟩⟩
theorem Un.refl:Un fs ex H H h h:=Un.kept fun _ _ q=>q
theorem Un.laid (k:∀ b u,h.get? b=some u→h'.get? b=some u) (hp:h.objs.size≤a) (hn:H a=none):Un fs ex H (upd H a o) h h' where
 keep:=fun b u q _ _ _=>k b u q
 slot:=fun b u q _ _ _=>⟨u.slots,k b u q⟩
 free:=fun b u q n _=>by rw [aB (Nat.ne_of_lt (Nat.lt_of_lt_of_le (Heap.lt_size q) hp))];exact n
 there:=fun b u q _=>⟨u,k b u q⟩
 tups:=fun b xs q=>by rw [aB (lD q hn)];exact q
 frzs:=fun b u xs q=>by rw [aB (lD q hn)];exact q
 tbls:=fun b ps q=>⟨#[],by rw [aB (lD q hn),q];simp⟩
theorem Un.write (mu:Vw (H x)) (he:e=x∨H e=some (.own x)) (k:∀ b u,b≠e→h.get? b=some u→h'.get? b=some u) (heo:∃ u,h'.get? e=some u):Un fs ex H (upd H x o) h h':=by
 have hx:∀ b,H b=none→b≠x:=fun b n z=>by subst z;rw [n] at mu;exact mu
 have hb:∀ b,H b=none→b≠e:=fun b n z=>by
  subst z
  rcases he with r | r
  ·exact hx b n r
  ·rw [n] at r;cases r
 have hm:∀ b u,H b=some u→¬ Vw (some u)→b≠x:=fun b u q nm z=>by subst z;rw [q] at mu;exact nm mu
 refine ⟨fun b u q n _ _=>k b u (hb b n) q,fun b u q n _ _=>⟨u.slots,k b u (hb b n) q⟩,fun b u q n _=>by rw [aB (hx b n)];exact n,fun b u q _=>?_,
  fun b xs q=>by rw [aB (hm b _ q fun z=>z)];exact q,fun b u xs q=>by rw [aB (hm b _ q fun z=>z)];exact q,fun b ps q=>⟨#[],by rw [aB (hm b _ q fun z=>z),q];simp⟩⟩
 by_cases hbe:b=e
 ·subst hbe;exact heo
 ·exact ⟨u,k b u hbe q⟩
end
def La (h:Heap) (H:Hp):List Addr:=(List.range h.objs.size).filter fun a=>(H a).isSome
def wF (h:Heap) (H:Hp):Heap:=PySem.W.hideAll h (La h H)
theorem DN (h:Heap) (H:Hp):(wF h H).objs.size=h.objs.size:=PySem.W.hideAll_size _ _
theorem Gx {h:Heap} {H:Hp} {b:Addr} {o:Obj} (e:h.get? b=some o) (n:H b=none):(wF h H).get? b=some o:=
 PySem.W.hideAll_get _ e fun hm=>by
  have q:(H b).isSome=true:=(List.mem_filter.mp hm).2
  rw [n] at q;simp at q
theorem Ld {h:Heap} {H:Hp} {b:Addr} {o:Obj} (e:(wF h H).get? b=some o):h.get? b=some o∧H b=none:=by
 have e':h.get? b=some o:=PySem.W.of_hideAll (La h H) e
 refine ⟨e',?_⟩
 cases q:H b with
 | none=>rfl
 | some x=>
  have hm:b∈La h H:=List.mem_filter.mpr ⟨List.mem_range.mpr (Heap.lt_size e'),by simp [q]⟩
  have z:(wF h H).get? b=none:=PySem.W.hideAll_none (La h H) hm
  rw [z] at e;cases e
end L2
namespace L2
open PySem PySem.Spec PyProof.Rows
structure Mod (K:PySem.W.Frag) (mg:Str→Option Value) (base:Heap):Prop where
 kin:K.In base
 glob:base.Ns mainGlobals mg
 blt:∃ mb,base.Ns builtinsNs mb∧∀ x:Str,x≠"__name__"→mb x=bootBuiltins x
 nolimit:base.NoLimit
 sysm:∃ mm,base.Ns sysModules mm
structure Cx where
 prog:Program
 w:World
 K:PySem.W.Frag
 mg:Str→Option Value
 base:Heap
 A:Around
 N:List Str
 s₀:Shared
 H₀:Hp
 env:Env
 outer:List Env
 stack:List Env
 ex:List Addr
 fn:Str→Bool
 calm:Bool
 pn:List (Addr×Obj)
 xe:Value→Shared→Prop
def frs (l:List Env):List Addr:=l.filterMap (·.frame)
abbrev Cx.fs (X:Cx):List Addr:=frs X.outer
def YK (sc:Scope) (x:Str):Prop:=sc.names.lookup x=some .local∨sc.names.lookup x=some .cell∨sc.names.lookup x=some .free
def Loc (sc:Scope) (x:Str):Prop:=sc.names.lookup x=some .local∨sc.names.lookup x=some .cell
def Look (env:Env) (h:Heap) (m:Str→Option Value) (x:Str) (u:Value):Prop:=
 (env.kindOf x=some .local∧m x=some u)∨((env.kindOf x=some .cell∨env.kindOf x=some .free)∧∃ c,env.cells.lookup x=some c∧h.IsCell c (some u))
structure Cx.Ok (X:Cx):Prop where
 mod:Mod X.K X.mg X.base
 kind:X.env.scope.kind= .function
 glob:X.env.globals=mainGlobals
 blt:X.env.builtins=builtinsNs
 above:X.s₀.heap.objs.size≤X.env.locals
 inj:∀ x y c,X.env.cells.lookup x=some c→X.env.cells.lookup y=some c→x=y
 has:∀ x,(X.env.kindOf x=some .cell∨X.env.kindOf x=some .free)→∃ c,X.env.cells.lookup x=some c
 cab:∀ x c,X.fn x=true→X.env.cells.lookup x=some c→X.s₀.heap.objs.size≤c
 hd:X.calm=true→X.A.handled=none
 frames:X.A.frames=some X.stack
 stk:X.stack=X.outer∨(X.stack=X.env :: X.outer∧X.env.frame=some X.env.locals)
 exf:∀ b∈X.ex,b≠X.env.locals∧∀ x c,X.env.cells.lookup x=some c→c≠b
 bs:∀ b o,X.base.get? b=some o→X.s₀.heap.get? b=some o∧X.H₀ b=none
 bsz:X.base.objs.size≤X.s₀.heap.objs.size
 noex:∀ b o,X.base.get? b=some o→b ∉ X.ex
 exfs:∀ b∈X.ex,b ∉ X.fs
 funs:X.s₀.heap.FunFrames X.base X.outer
 frf:∀ b∈X.fs,X.H₀ b=none
structure Inv (X:Cx) (pins:List (Addr×Obj)) (σ:List (Option V)) (H:Hp) (s:Shared):Prop where
 ok:X.Ok
 os:s.os=X.s₀.os
 bare:AllBare s.gens
 base:Un X.fs X.ex X.H₀ H X.s₀.heap s.heap
 loc:∃ m,s.heap.Ns X.env.locals m∧∀ (i:Nat) (x:Str) (v:V),X.N[i]?=some x→σ[i]?=some (some v)→YK X.env.scope x→∃ u,RelV v u∧Look X.env s.heap m x u
 cell:∀ x c,X.env.cells.lookup x=some c→∃ v,s.heap.IsCell c v
 free:H X.env.locals=none
 freeC:∀ x c,X.env.cells.lookup x=some c→H c=none
 pin:∀ p∈X.pn ++ pins,s.heap.get? p.1=some p.2∧H p.1=none∧p.1≠X.env.locals∧p.1 ∉ X.fs∧∀ v,p.2.data≠.cell v
 hok:HOk X.prog X.w H s.heap
 len:σ.length=X.N.length
section
variable {X:Cx} {pins:List (Addr×Obj)} {σ:List (Option V)} {H H':Hp} {s:Shared} {h':Heap}
theorem Cx.Ok.nofr (ok:X.Ok) {b:Addr} {o:Obj} (e:X.base.get? b=some o):b ∉ X.fs:=fun hb=>by
 have:=(ok.funs.mem hb).1
 rw [e] at this;cases this
theorem Inv.bs (I:Inv X pins σ H s):∀ b o,X.base.get? b=some o→s.heap.get? b=some o∧H b=none:=fun b o e=>
 ⟨I.base.keep b o (I.ok.bs b o e).1 (I.ok.bs b o e).2 (I.ok.nofr e) (I.ok.noex b o e),I.base.free b o (I.ok.bs b o e).1 (I.ok.bs b o e).2 (I.ok.noex b o e)⟩
theorem Inv.bk (I:Inv X pins σ H s):∀ b o,X.base.get? b=some o→s.heap.get? b=some o:=fun b o e=>(I.bs b o e).1
theorem Inv.mod (I:Inv X pins σ H s):Mod X.K X.mg X.base:=I.ok.mod
theorem Inv.kIn (I:Inv X pins σ H s):X.K.In s.heap:=I.ok.mod.kin.keeps I.bk
theorem Inv.lt (I:Inv X pins σ H s):X.env.locals < s.heap.objs.size:=let ⟨_,hn,_⟩:=I.loc;hn.lt
theorem Inv.sz (I:Inv X pins σ H s):X.s₀.heap.objs.size≤s.heap.objs.size:=Nat.le_trans I.ok.above (Nat.le_of_lt I.lt)
theorem Inv.nofs (I:Inv X pins σ H s) {a:Addr} (h:s.heap.objs.size≤a):a ∉ X.fs:=fun hb=>by
 obtain ⟨_,o,ho,_⟩:=I.ok.funs.mem hb
 exact absurd (Nat.lt_of_lt_of_le (Heap.lt_size ho) (Nat.le_trans I.sz h)) (Nat.lt_irrefl _)
theorem Inv.cne (I:Inv X pins σ H s):∀ x c,X.env.cells.lookup x=some c→c≠X.env.locals:=fun x c e z=>by
 obtain ⟨v,o,ho,hd⟩:=I.cell x c e
 obtain ⟨m,⟨o',es,ep,ho',hd',_⟩,_⟩:=I.loc
 rw [z,ho'] at ho;cases ho;rw [hd'] at hd;cases hd
theorem Inv.funs (I:Inv X pins σ H s):s.heap.FunFrames X.base X.outer:=by
 have all:∀ (l:List Env),(∀ b∈frs l,b∈X.fs)→X.s₀.heap.FunFrames X.base l→s.heap.FunFrames X.base l:=by
  intro l
  induction l with
  | nil=>intro _ _;trivial
  | cons env r ih=>
   intro hs hl
   obtain ⟨hk,⟨L,o,hf,hn,ho,hd⟩,hr⟩:=hl
   have hL:L∈X.fs:=hs L (by unfold frs;rw [List.filterMap_cons,hf];exact List.mem_cons_self)
   obtain ⟨sl,e⟩:=I.base.slot L o ho (I.ok.frf L hL) hL fun z=>I.ok.exfs L z hL
   exact ⟨hk,⟨L,_,hf,hn,e,hd⟩,ih (fun b hb=>hs b (by unfold frs;rw [List.filterMap_cons,hf];exact List.mem_cons_of_mem _ hb)) hr⟩
 exact all X.outer (fun _ hb=>hb) I.ok.funs
theorem Inv.stack (I:Inv X pins σ H s):s.heap.FunFrames X.base X.stack:=by
 rcases I.ok.stk with e | ⟨e,hf⟩
 ·rw [e];exact I.funs
 ·rw [e]
  obtain ⟨m,hn,_⟩:=I.loc
  refine .cons (by rw [I.ok.kind];decide) hf hn ?_ I.funs
  exact Heap.get?_none_of_le (Nat.le_trans I.ok.bsz I.ok.above)
theorem Inv.stkSub (I:Inv X pins σ H s):∀ b∈frs X.stack,b∈X.env.locals :: X.fs:=fun b hb=>by
 rcases I.ok.stk with e | ⟨e,hf⟩
 ·rw [e] at hb;exact List.mem_cons_of_mem _ hb
 ·rw [e] at hb
  unfold frs at hb
  rw [List.filterMap_cons,hf] at hb
  exact hb
theorem Inv.stkFree (I:Inv X pins σ H s):∀ b∈frs X.stack,H b=none:=fun b hb=>by
 rcases List.mem_cons.mp (I.stkSub b hb) with e | hb
 ·rw [e];exact I.free
 ·obtain ⟨_,o,ho,_⟩:=I.ok.funs.mem hb
  exact I.base.free b o ho (I.ok.frf b hb) fun z=>I.ok.exfs b z hb
theorem Inv.step {g':Array GenState} {t':Nat} {d':Drawn} {ch:List Addr} (I:Inv X pins σ H s)
  (hch:∀ b∈ch,(b∈X.ex∨X.s₀.heap.objs.size≤b)∧b≠X.env.locals∧(∀ x c,X.env.cells.lookup x=some c→c≠b)∧∀ p∈X.pn ++ pins,p.1≠b)
  (keep:∀ b o,b≠X.env.locals→b ∉ X.fs→b ∉ ch→s.heap.get? b=some o→H b=none→h'.get? b=some o)
  (slot:∀ b o,b≠X.env.locals→b∈X.fs→b ∉ ch→s.heap.get? b=some o→H b=none→∃ sl,h'.get? b=some {o with slots:=sl}) (free:∀ b o,b ∉ ch→s.heap.get? b=some o→H b=none→H' b=none)
  (there:∀ b o,b ∉ ch→s.heap.get? b=some o→∃ o',h'.get? b=some o')
  (tups:∀ b xs,H b=some (.tup xs)→H' b=some (.tup xs)) (frzs:∀ b o u,H b=some (.frz o u)→H' b=some (.frz o u)) (tbls:∀ b ps,H b=some (.tbl ps)→∃ more,H' b=some (.tbl (ps ++ more)))
  (ns:∀ m,s.heap.Ns X.env.locals m→h'.Ns X.env.locals m) (hok:HOk X.prog X.w H' h') (hg:AllBare g'):
  Inv X pins σ H' {s with heap:=h',gens:=g',drawn:=d',toks:=t'}:=by
 have neL:∀ b o,X.s₀.heap.get? b=some o→b≠X.env.locals:=fun b o e=>Nat.ne_of_lt (Nat.lt_of_lt_of_le (Heap.lt_size e) I.ok.above)
 have neC:∀ b o,X.s₀.heap.get? b=some o→b ∉ X.ex→b ∉ ch:=fun b o e hx hb=>by
  rcases (hch b hb).1 with z | z
  ·exact hx z
  ·exact absurd (Nat.lt_of_lt_of_le (Heap.lt_size e) z) (Nat.lt_irrefl _)
 have cellK:∀ x c,X.env.cells.lookup x=some c→∀ v,s.heap.IsCell c v→h'.IsCell c v:=fun x c e v ⟨o,ho,hd⟩=>by
  have nch:c ∉ ch:=fun z=>(hch c z).2.2.1 x c e rfl
  by_cases hc:c∈X.fs
  ·obtain ⟨sl,q⟩:=slot c o (I.cne x c e) hc nch ho (I.freeC x c e)
   exact ⟨_,q,hd⟩
  ·exact ⟨o,keep c o (I.cne x c e) hc nch ho (I.freeC x c e),hd⟩
 refine ⟨I.ok,I.os,hg,⟨fun b o e n hb hx=>?_,fun b o e n hb hx=>?_,fun b o e n hx=>?_,fun b o e hx=>?_,fun b xs e=>tups b xs (I.base.tups b xs e),fun b o xs e=>frzs b o xs (I.base.frzs b o xs e),fun b ps e=>?_⟩,?_,fun x c e=>?_,?_,fun x c e=>?_,fun p hp=>?_,hok,I.len⟩
 ·exact keep b o (neL b o e) hb (neC b o e hx) (I.base.keep b o e n hb hx) (I.base.free b o e n hx)
 ·obtain ⟨sl,e1⟩:=I.base.slot b o e n hb hx
  obtain ⟨sl',e2⟩:=slot b _ (neL b o e) hb (neC b o e hx) e1 (I.base.free b o e n hx)
  exact ⟨sl',e2⟩
 ·obtain ⟨o',e1⟩:=I.base.there b o e hx
  exact free b o' (neC b o e hx) e1 (I.base.free b o e n hx)
 ·obtain ⟨o',e1⟩:=I.base.there b o e hx
  exact there b o' (neC b o e hx) e1
 ·obtain ⟨m1,e1⟩:=I.base.tbls b ps e
  obtain ⟨m2,e2⟩:=tbls b _ e1
  exact ⟨m1 ++ m2,by rw [e2,Array.append_assoc]⟩
 ·obtain ⟨m,hn,hl⟩:=I.loc
  refine ⟨m,ns m hn,fun i x v e1 e2 e3=>?_⟩
  obtain ⟨u,r,l⟩:=hl i x v e1 e2 e3
  refine ⟨u,r,?_⟩
  rcases l with l | ⟨k,c,e,z⟩
  ·exact .inl l
  ·exact .inr ⟨k,c,e,cellK x c e _ z⟩
 ·obtain ⟨v,z⟩:=I.cell x c e
  exact ⟨v,cellK x c e v z⟩
 ·obtain ⟨m,⟨o,_,_,ho,_⟩,_⟩:=I.loc
  exact free _ o (fun z=>(hch _ z).2.1 rfl) ho I.free
 ·obtain ⟨v,o,ho,hd⟩:=I.cell x c e
  exact free c o (fun z=>(hch c z).2.2.1 x c e rfl) ho (I.freeC x c e)
 ·obtain ⟨e,n,ne,nf,d⟩:=I.pin p hp
  have nch:p.1 ∉ ch:=fun z=>(hch p.1 z).2.2.2 p hp rfl
  exact ⟨keep p.1 p.2 ne nf nch e n,free p.1 p.2 nch e n,ne,nf,d⟩
theorem Inv.un {t':Nat} (I:Inv X pins σ H s) (u:Un X.fs [] H H' s.heap h') (hok:HOk X.prog X.w H' h'):Inv X pins σ H' {s with heap:=h',toks:=t'}:=by
 obtain ⟨m,⟨o,es,ep,ho,r⟩,_⟩:=id I.loc
 obtain ⟨sl,hL⟩:=u.any ho I.free (by simp)
 exact I.step (g':=s.gens) (d':=s.drawn) (ch:=[]) (fun _ z=>nomatch z) (fun b o _ hb _ e n=>u.keep b o e n hb (by simp)) (fun b o _ hb _ e n=>u.slot b o e n hb (by simp)) (fun b o _ e n=>u.free b o e n (by simp)) (fun b o _ e=>u.there b o e (by simp)) u.tups u.frzs u.tbls (fun m' hm=>by
  obtain ⟨o',es',ep',ho',r'⟩:=hm
  rw [ho] at ho';cases ho'
  exact ⟨_,es',ep',hL,r'⟩) hok I.bare
theorem Inv.call {g':Array GenState} {t':Nat} {d':Drawn} {ch:List Addr} (I:Inv X pins σ H s) (u:Un (frs X.stack) ch H H' s.heap h') (hok:HOk X.prog X.w H' h') (hg:AllBare g')
  (hch:∀ b∈ch,(b∈X.ex∨X.s₀.heap.objs.size≤b)∧b≠X.env.locals∧(∀ x c,X.env.cells.lookup x=some c→c≠b)∧∀ p∈X.pn ++ pins,p.1≠b):
  Inv X pins σ H' {s with heap:=h',gens:=g',drawn:=d',toks:=t'}:=by
 obtain ⟨m,⟨o,es,ep,ho,r⟩,_⟩:=id I.loc
 obtain ⟨sl,hL⟩:=u.any ho I.free fun z=>(hch _ z).2.1 rfl
 exact I.step (ch:=ch) hch (fun b o hL hb hc e n=>u.keep b o e n (fun z=>(List.mem_cons.mp (I.stkSub b z)).elim hL hb) hc) (fun b o _ _ hc e n=>u.any e n hc) (fun b o hc e n=>u.free b o e n hc) (fun b o hc e=>u.there b o e hc) u.tups u.frzs u.tbls (fun m' hm=>by
  obtain ⟨o',es',ep',ho',r'⟩:=hm
  rw [ho] at ho';cases ho'
  exact ⟨_,es',ep',hL,r'⟩) hok hg
theorem Inv.turned {t':Nat} {it:Addr} (I:Inv X pins σ H s) (k:∀ b o,b≠it→s.heap.get? b=some o→h'.get? b=some o) (hn:H it=none) (hL:it≠X.env.locals)
  (h1:it∈X.ex∨X.s₀.heap.objs.size≤it) (h2:∀ x c,X.env.cells.lookup x=some c→c≠it) (h3:∀ p∈X.pn ++ pins,p.1≠it):Inv X pins σ H {s with heap:=h',toks:=t'}:=by
 have nit:∀ b u,H b=some u→b≠it:=fun b u e z=>by rw [z,hn] at e;cases e
 refine I.step (g':=s.gens) (d':=s.drawn) (ch:=[it]) (fun b hb=>?_) (fun b o _ _ hc e _=>k b o (fun z=>hc (by simp [z])) e) (fun b o _ _ hc e _=>⟨o.slots,k b o (fun z=>hc (by simp [z])) e⟩) (fun _ _ _ _ n=>n)
  (fun b o hc e=>⟨o,k b o (fun z=>hc (by simp [z])) e⟩) (fun _ _ e=>e) (fun _ _ _ e=>e) (fun b ps e=>⟨#[],by rw [e];simp⟩) (fun m hm=>?_) (fun b u e=>?_) I.bare
 ·have e:b=it:=by simpa using hb
  subst e
  exact ⟨h1,hL,h2,h3⟩
 ·obtain ⟨o,es,ep,ho,r⟩:=hm
  exact ⟨o,es,ep,k _ o (Ne.symm hL) ho,r⟩
 ·refine (I.hok b u e).stay (fun c v hc q=>k c v ?_ q) (fun _ q=>q) fun _ _ q=>q
  rcases hc with z | z
  ·rw [z];exact nit b u e
  ·exact nit c _ z
theorem Inv.tok (I:Inv X pins σ H s) (t:Nat):Inv X pins σ H {s with toks:=t}:=I.un (h':=s.heap) (t':=t) Un.refl I.hok
theorem Inv.kept {t':Nat} (I:Inv X pins σ H s) (k:∀ b u,s.heap.get? b=some u→h'.get? b=some u):Inv X pins σ H {s with heap:=h',toks:=t'}:=I.un (Un.kept k) (I.hok.kept k)
theorem Inv.laid {a:Addr} {o:HO} {t':Nat} (I:Inv X pins σ H s) (k:∀ b u,s.heap.get? b=some u→h'.get? b=some u) (hp:s.heap.objs.size≤a) (new:ObjOk X.prog X.w (upd H a o) h' a o):
  Inv X pins σ (upd H a o) {s with heap:=h',toks:=t'}:=I.un (Un.laid k hp (I.hok.fresh hp)) (I.hok.laid k hp new)
theorem Inv.write {x e:Addr} {o:HO} {t':Nat} (I:Inv X pins σ H s) (mu:Vw (H x)) (he:e=x∨H e=some (.own x)) (k:∀ b u,b≠e→s.heap.get? b=some u→h'.get? b=some u) (heo:∃ u,h'.get? e=some u)
  (new:ObjOk X.prog X.w (upd H x o) h' x o):Inv X pins σ (upd H x o) {s with heap:=h',toks:=t'}:=I.un (Un.write mu he k heo) (I.hok.write mu he k heo new)
theorem Inv.weak {σ':List (Option V)} (I:Inv X pins σ H s) (hl:σ'.length=σ.length) (w:∀ (i:Nat) v,σ'[i]?=some (some v)→σ[i]?=some (some v)):Inv X pins σ' H s:=
 ⟨I.ok,I.os,I.bare,I.base,let ⟨m,hn,hl'⟩:=I.loc;⟨m,hn,fun i x v e1 e2 e3=>hl' i x v e1 (w i v e2) e3⟩,I.cell,I.free,I.freeC,I.pin,I.hok,hl.trans I.len⟩
theorem Inv.pins_of {pins':List (Addr×Obj)} (I:Inv X pins σ H s) (h:∀ p∈pins',s.heap.get? p.1=some p.2∧H p.1=none∧p.1≠X.env.locals∧p.1 ∉ X.fs∧∀ v,p.2.data≠.cell v):Inv X pins' σ H s:=
 ⟨I.ok,I.os,I.bare,I.base,I.loc,I.cell,I.free,I.freeC,fun p hp=>(List.mem_append.mp hp).elim (fun z=>I.pin p (List.mem_append_left _ z)) (h p),I.hok,I.len⟩
theorem yq {N:List Str} (hN:N.Nodup) {i j:Nat} {x:Str} (a:N[i]?=some x) (b:N[j]?=some x):i=j:=by
 obtain ⟨h1,e1⟩:=List.getElem?_eq_some_iff.mp a
 obtain ⟨h2,e2⟩:=List.getElem?_eq_some_iff.mp b
 exact (List.getElem_inj hN).mp (e1.trans e2.symm)
theorem vC {M:Model} {A:Around} {E:Value→Shared→Prop} {i:Nat} {x:Str} {v:V} {u:Value} {Q:Unit→Shared→Prop} (I:Inv X pins σ H s) (hN:X.N.Nodup) (hi:X.N[i]?=some x) (hx:Loc X.env.scope x) (r:RelV v u)
  (h:∀ s',Inv X pins (σ.set i (some v)) H s'→(∃ a,Heap.SameBut a s.heap s'.heap∧(a=X.env.locals∨X.env.cells.lookup x=some a))→Q () s') (hf:autoParam (X.fn x=true∨X.env.scope.names.lookup x=some .local) L2.auto1._auto_1):wpAny M A (storeName X.env x u) Q E s:=by
 obtain ⟨m,hn,hl⟩:=id I.loc
 have hcls:(X.env.scope.kind == .class || (X.env.scope.kind == .module && X.env.locals != X.env.globals))=false:=by rw [I.ok.kind];rfl
 have hiσ:i < σ.length:=by rw [I.len];exact (List.getElem?_eq_some_iff.mp hi).1
 have cne:=I.cne
 have tracked:∀ {a:Addr} {h':Heap},(∃ o,s.heap.get? a=some o∧H a=none)→Heap.SameBut a s.heap h'→HOk X.prog X.w H h':=fun {a h'} ha hs b ob e=>by
  obtain ⟨_,_,hfree⟩:=ha
  refine (I.hok b ob e).stay (fun c w' hc q=>(hs.2 c ?_).trans q) (fun _ q=>q) fun _ _ q=>q
  rintro rfl
  rcases hc with rfl | hc
  ·rw [hfree] at e;cases e
  ·rw [hfree] at hc;cases hc
 rcases hx with hk | hk
 ·refine wpAny_storeName_local hk hn (fun h' hn' hs=>?_) hcls
  obtain ⟨oL,_,_,hoL,_⟩:=id hn
  refine h _ ⟨I.ok,I.os,I.bare,⟨fun b o e n hb hx=>?_,fun b o e n hb hx=>?_,I.base.free,fun b o e hx=>?_,I.base.tups,I.base.frzs,I.base.tbls⟩,⟨_,hn',fun j y v' e1 e2 e3=>?_⟩,fun y c e=>?_,I.free,I.freeC,fun p hp=>?_,tracked ⟨oL,hoL,I.free⟩ hs,by simpa using I.len⟩ ⟨_,hs,.inl rfl⟩
  ·exact (hs.2 b (Nat.ne_of_lt (Nat.lt_of_lt_of_le (Heap.lt_size e) I.ok.above))).trans (I.base.keep b o e n hb hx)
  ·obtain ⟨sl,e1⟩:=I.base.slot b o e n hb hx
   exact ⟨sl,(hs.2 b (Nat.ne_of_lt (Nat.lt_of_lt_of_le (Heap.lt_size e) I.ok.above))).trans e1⟩
  ·obtain ⟨o',e1⟩:=I.base.there b o e hx
   exact ⟨o',(hs.2 b (Nat.ne_of_lt (Nat.lt_of_lt_of_le (Heap.lt_size e) I.ok.above))).trans e1⟩
  ·by_cases hj:j=i
   ·subst hj
    rw [hi] at e1;cases e1
    rw [List.getElem?_set_self hiσ] at e2
    cases e2
    exact ⟨u,r,.inl ⟨hk,by simp⟩⟩
   ·rw [List.getElem?_set_ne (Ne.symm hj)] at e2
    obtain ⟨u',r',q⟩:=hl j y v' e1 e2 e3
    refine ⟨u',r',?_⟩
    rcases q with ⟨k,e⟩ | ⟨k,c,e,z⟩
    ·refine .inl ⟨k,?_⟩
     have:y≠x:=fun e=>hj (yq hN e1 (e ▸ hi))
     simp [this,e]
    ·exact .inr ⟨k,c,e,z.sameBut hs (cne y c e)⟩
  ·obtain ⟨w',z⟩:=I.cell y c e
   exact ⟨w',z.sameBut hs (cne y c e)⟩
  ·obtain ⟨e,n,ne,nf,d⟩:=I.pin p hp
   exact ⟨(hs.2 p.1 ne).trans e,n,ne,nf,d⟩
 ·have hfn:X.fn x=true:=by
   rcases hf with z | z
   ·exact z
   ·rw [z] at hk;cases hk
  obtain ⟨c,hc⟩:=I.ok.has x (.inl hk)
  obtain ⟨w',z⟩:=I.cell x c hc
  refine wpAny_storeName_cell I.ok.kind hk hc z (fun h' hc' hs=>?_)
  obtain ⟨oc,hoc,hocd⟩:=id z
  refine h {s with heap:=h'} ⟨I.ok,I.os,I.bare,⟨fun b o e n hb hx=>?_,fun b o e n hb hx=>?_,I.base.free,fun b o e hx=>?_,I.base.tups,I.base.frzs,I.base.tbls⟩,⟨m,hn.sameBut hs (Ne.symm (cne x c hc)),fun j y v' e1 e2 e3=>?_⟩,fun y c' e=>?_,I.free,I.freeC,fun p hp=>?_,tracked ⟨oc,hoc,I.freeC x c hc⟩ hs,by simpa using I.len⟩ ⟨c,hs,.inr hc⟩
  ·exact (hs.2 b (Nat.ne_of_lt (Nat.lt_of_lt_of_le (Heap.lt_size e) (I.ok.cab x c hfn hc)))).trans (I.base.keep b o e n hb hx)
  ·obtain ⟨sl,e1⟩:=I.base.slot b o e n hb hx
   exact ⟨sl,(hs.2 b (Nat.ne_of_lt (Nat.lt_of_lt_of_le (Heap.lt_size e) (I.ok.cab x c hfn hc)))).trans e1⟩
  ·obtain ⟨o',e1⟩:=I.base.there b o e hx
   exact ⟨o',(hs.2 b (Nat.ne_of_lt (Nat.lt_of_lt_of_le (Heap.lt_size e) (I.ok.cab x c hfn hc)))).trans e1⟩
  ·by_cases hj:j=i
   ·subst hj
    rw [hi] at e1;cases e1
    rw [List.getElem?_set_self hiσ] at e2
    cases e2
    exact ⟨u,r,.inr ⟨.inl hk,c,hc,hc'⟩⟩
   ·rw [List.getElem?_set_ne (Ne.symm hj)] at e2
    obtain ⟨u',r',q⟩:=hl j y v' e1 e2 e3
    refine ⟨u',r',?_⟩
    rcases q with q | ⟨k,c',e,z'⟩
    ·exact .inl q
    ·refine .inr ⟨k,c',e,z'.sameBut hs ?_⟩
     rintro rfl
     exact hj (yq hN e1 (I.ok.inj _ _ _ e hc ▸ hi))
  ·by_cases hcc:c'=c
   ·subst hcc;exact ⟨_,hc'⟩
   ·obtain ⟨w2,z2⟩:=I.cell y c' e
    exact ⟨w2,z2.sameBut hs hcc⟩
  ·obtain ⟨e,n,ne,nf,d⟩:=I.pin p hp
   refine ⟨(hs.2 p.1 ?_).trans e,n,ne,nf,d⟩
   intro q
   rw [q,hoc] at e
   have q':oc=p.2:=Option.some.inj e
   exact d w' (by rw [← q'];exact hocd)
theorem t6 {M:Model} {A:Around} {E:Value→Shared→Prop} {i:Nat} {x:Str} {v:V} {u:Value} {Q:Unit→Shared→Prop} (I:Inv X pins σ H s) (hN:X.N.Nodup) (hi:X.N[i]?=some x) (hx:Loc X.env.scope x) (r:RelV v u)
  (h:∀ s',Inv X pins (σ.set i (some v)) H s'→Q () s') (hf:autoParam (X.fn x=true∨X.env.scope.names.lookup x=some .local) L2.auto1._auto_1):wpAny M A (storeName X.env x u) Q E s:=
 vC I hN hi hx r (fun s' I' _=>h s' I') hf
theorem Inv.call' {s':Shared} {ch:List Addr} (I:Inv X pins σ H s) (ho:s'.os=s.os) (u:Un (frs X.stack) ch H H' s.heap s'.heap) (hok:HOk X.prog X.w H' s'.heap) (hg:AllBare s'.gens)
  (hch:∀ b∈ch,(b∈X.ex∨X.s₀.heap.objs.size≤b)∧b≠X.env.locals∧(∀ x c,X.env.cells.lookup x=some c→c≠b)∧∀ p∈X.pn ++ pins,p.1≠b):Inv X pins σ H' s':=by
 obtain ⟨h',g',d',t',o'⟩:=s'
 have e:o'=s.os:=ho
 subst e
 exact I.call (g':=g') (t':=t') (d':=d') u hok hg hch
end
abbrev XK:=Value→Option Addr→Hp→Prop
abbrev St:=List (Option V)
abbrev VK:=V→Hp→Prop
abbrev TE:=St→Hp→VK→Prop
abbrev TT:=St→Hp→(Bool→Hp→Prop)→Prop
abbrev TA:=St→Hp→(List V→Hp→Prop)→Prop
structure Ends where
 nx:St→Hp→Prop
 rt:VK
 bk:St→Hp→Prop:=fun _ _=>False
 ct:St→Hp→Prop:=fun _ _=>False
abbrev TS:=Ends→St→Hp→Prop
def EP (X:Cx) (pins:List (Addr×Obj)) (σ:St) (Q:VK) (u:Value) (s':Shared):Prop:=∃ v H',Inv X pins σ H' s'∧RelV v u∧Q v H'
def TP (X:Cx) (pins:List (Addr×Obj)) (σ:St) (Q:Bool→Hp→Prop) (b:Bool) (s':Shared):Prop:=∃ H',Inv X pins σ H' s'∧Q b H'
def AP (X:Cx) (pins:List (Addr×Obj)) (σ:St) (Q:List V→Hp→Prop) (us:List Value) (s':Shared):Prop:=∃ vs H',Inv X pins σ H' s'∧Vals vs us∧Q vs H'
def SP (X:Cx) (pins:List (Addr×Obj)) (D:Ends) (f:Flow) (s':Shared):Prop:=
 match f with
 | .next=>∃ σ' H',Inv X pins σ' H' s'∧D.nx σ' H'
 | .brk=>∃ σ' H',Inv X pins σ' H' s'∧D.bk σ' H'
 | .cont=>∃ σ' H',Inv X pins σ' H' s'∧D.ct σ' H'
 | .ret u=>∃ v σ' H',Inv X pins σ' H' s'∧RelV v u∧D.rt v H'
def PE (X:Cx) (e:Expr) (t:TE):Prop:=
 ∀ (pins:List (Addr×Obj)) (s:Shared) (σ:St) (H:Hp) (Q:VK),Inv X pins σ H s→t σ H Q→wpAny (model X.prog X.w) X.A (eval e X.env) (EP X pins σ Q) X.xe s
def PT (X:Cx) (e:Expr) (t:TT):Prop:=
 ∀ (pins:List (Addr×Obj)) (s:Shared) (σ:St) (H:Hp) (Q:Bool→Hp→Prop),Inv X pins σ H s→t σ H Q→wpAny (model X.prog X.w) X.A (isTrue e X.env (eval e X.env)) (TP X pins σ Q) X.xe s
def PW (X:Cx) (e:Expr) (t:TT):Prop:=
 ∀ (whole:Sem Value) (pins:List (Addr×Obj)) (s:Shared) (σ:St) (H:Hp) (Q:Bool→Hp→Prop),Inv X pins σ H s→t σ H Q→wpAny (model X.prog X.w) X.A (isTrue e X.env whole) (TP X pins σ Q) X.xe s
theorem PW.pt {X:Cx} {e:Expr} {t:TT} (h:PW X e t):PT X e t:=h _
def PA (X:Cx) (es:List Expr) (t:TA):Prop:=
 ∀ (pos:Pos) (pins:List (Addr×Obj)) (s:Shared) (σ:St) (H:Hp) (Q:List V→Hp→Prop),Inv X pins σ H s→t σ H Q→wpAny (model X.prog X.w) X.A (spliced (backTo pos (starEach es X.env))) (AP X pins σ Q) X.xe s
def PS (X:Cx) (st:Stmt) (t:TS):Prop:=
 ∀ (pins:List (Addr×Obj)) (s:Shared) (σ:St) (H:Hp) (D:Ends),Inv X pins σ H s→t D σ H→wpAny (model X.prog X.w) X.A (exec st X.env) (SP X pins D) X.xe s
def PSs (X:Cx) (st:List Stmt) (t:TS):Prop:=
 ∀ (pins:List (Addr×Obj)) (s:Shared) (σ:St) (H:Hp) (D:Ends),Inv X pins σ H s→t D σ H→wpAny (model X.prog X.w) X.A (execs st X.env) (SP X pins D) X.xe s
theorem fJ {α:Type} {t:Sem α} {Q Q':α→Shared→Prop} {M:Model} {A:Around} {E:Value→Shared→Prop} {s:Shared} (h:wpAny M A t Q E s) (hQ:∀ a s,Q a s→Q' a s):wpAny M A t Q' E s:=wpAny_mono h hQ fun _ _ x=>x
end L2
namespace L2
open PySem PySem.Spec PyProof.Rows
section
variable {X:Cx}
def qW (i:Nat):TE:=fun σ H Q=>∃ v,σ[i]?=some (some v)∧Q v H
def tC (v:V):TE:=fun _ H Q=>Q v H
theorem wG {i:Nat} {x:Str} {pos:Pos} (hN:X.N[i]?=some x) (hv:YK X.env.scope x) (hd:autoParam ((x == ("__debug__":Str))=false) L2.auto2._auto_1) (hcd:autoParam ((x == ("__classdict__":Str))=false) L2.auto2._auto_1):PE X (.Name x pos) (qW i):=by
 intro pins s σ H Q I h
 obtain ⟨v,e,h⟩:=h
 obtain ⟨m,hn,hl⟩:=I.loc
 obtain ⟨u,r,l⟩:=hl i x v hN e hv
 have fin:EP X pins σ Q u s:=⟨v,H,I,r,h⟩
 rcases l with ⟨hk,hm⟩ | ⟨hk,c,hc,hcell⟩
 ·exact wpAny_Name (wpAny_loadName_local I.ok.kind hk hn hm fin) hd
 ·rcases hk with hk | hk
  ·exact wpAny_Name (wpAny_loadName_cell I.ok.kind hk hc hcell fin) hd
  ·exact wpAny_Name (wpAny_loadName_free I.ok.kind hk hc hcell fin hcd) hd
theorem Ra {i j pos}:PE X (.Constant (.int i) j pos) (tC (.int i)):=fun _ _ _ H _ I h=>wpAny_Constant_int ⟨.int i,H,I.tok _,⟨_,rfl⟩,h⟩
theorem Vx {b j pos}:PE X (.Constant (.bool b) j pos) (tC (.bl b)):=fun _ _ _ H _ I h=>Constant_bool ⟨.bl b,H,I,rfl,h⟩
theorem Rb {x j pos}:PE X (.Constant (.str x) j pos) (tC (.str x)):=fun _ _ _ H _ I h=>Calls.Constant_str ⟨.str x,H,I.tok _,⟨_,rfl⟩,h⟩
def Gl (X:Cx) (x:Str):Prop:=X.env.kindOf x=some .globalImplicit
theorem qm {E:Value→Shared→Prop} {pins:List (Addr×Obj)} {s:Shared} {σ:St} {H:Hp} {x:Str} {u:Value} {pos:Pos} {Q:Value→Shared→Prop} (I:Inv X pins σ H s) (hg:Gl X x) (hm:X.mg x=some u) (h:Q u s)
  (hd:autoParam ((x == ("__debug__":Str))=false) L2.auto2._auto_1):wpAny (model X.prog X.w) X.A (eval (.Name x pos) X.env) Q E s:=
 Calls.Name_function_global I.ok.kind hg (Calls.loadGlobal_global (by rw [I.ok.glob];exact I.mod.glob.keeps I.bk) hm h) hd
theorem jz {E:Value→Shared→Prop} {pins:List (Addr×Obj)} {s:Shared} {σ:St} {H:Hp} {x:Str} {u:Value} {pos:Pos} {Q:Value→Shared→Prop} (I:Inv X pins σ H s) (hg:Gl X x) (hm:X.mg x=none) (hv:bootBuiltins x=some u) (h:Q u s)
  (hn:autoParam (x≠"__name__") L2.auto2._auto_1) (hd:autoParam ((x == ("__debug__":Str))=false) L2.auto2._auto_1):wpAny (model X.prog X.w) X.A (eval (.Name x pos) X.env) Q E s:=by
 obtain ⟨mb,h1,h2⟩:=I.mod.blt
 exact Calls.Name_function_global I.ok.kind hg (Calls.loadGlobal_builtin (by rw [I.ok.glob];exact I.mod.glob.keeps I.bk) hm (by rw [I.ok.blt];exact h1.keeps I.bk) ((h2 x hn).trans hv) h) hd
theorem wH {x:Str} {v:V} {u:Value} {pos:Pos} (hg:Gl X x) (hm:X.mg x=some u) (r:RelV v u) (hd:autoParam ((x == ("__debug__":Str))=false) L2.auto2._auto_1):PE X (.Name x pos) (tC v):=
 fun _ _ _ H _ I h=>qm I hg hm ⟨v,H,I,r,h⟩ hd
theorem Le {x:Str} {v:V} {u:Value} {pos:Pos} (hg:Gl X x) (hm:X.mg x=none) (hv:bootBuiltins x=some u) (r:RelV v u) (hn:autoParam (x≠"__name__") L2.auto2._auto_1) (hd:autoParam ((x == ("__debug__":Str))=false) L2.auto2._auto_1):PE X (.Name x pos) (tC v):=
 fun _ _ _ H _ I h=>jz I hg hm hv ⟨v,H,I,r,h⟩ hn hd
variable {a b:Expr} {ta tb:TE} {pos:Pos}
def tB (t:TE):TT:=fun σ H Q=>t σ H fun x H1=>∃ c,x= .bl c∧Q c H1
theorem Rc {e:Expr} {t:TE} (h:PE X e t) (he:autoParam (∀ whole,isTrue e X.env whole=(do let v ← whole;standAt e.pos;holding [v] (truthy v))) L2.auto3._auto_1):PT X e (tB t):=by
 intro pins s σ H Q I hw
 refine isTrue_plain (fJ (h pins s σ H _ I hw) fun v s1 qq0=>?_) (he _)
 obtain ⟨x,H1,I1,r1,q1⟩:=qq0
 obtain ⟨d,rfl,q⟩:=q1
 cases r1
 exact wpAny_truthy_bool ⟨H1,I1,q⟩
variable {tA tB':TT} {rest:List Expr}
def Lf (t u:TT):TT:=fun σ H Q=>t σ H fun c H1=>if c=true then u σ H1 Q else Q false H1
def tOr (t u:TT):TT:=fun σ H Q=>t σ H fun c H1=>if c=true then Q true H1 else u σ H1 Q
def Rf (t:TT):TT:=fun σ H Q=>t σ H fun c H1=>Q (!c) H1
theorem Lg (ha:PT X a tA):PW X (.BoolOp .And [a] pos) tA:=by
 intro wh pins s σ H Q I h
 refine isTrue_and (fJ (ha pins s σ H Q I h) fun c s1 e=>?_)
 cases c with
 | true=>exact isTrue_and_nil e
 | false=>exact e
theorem Rg (ha:PT X a tA):PW X (.BoolOp .Or [a] pos) tA:=by
 intro wh pins s σ H Q I h
 refine isTrue_or (fJ (ha pins s σ H Q I h) fun c s1 e=>?_)
 cases c with
 | false=>exact isTrue_or_nil e
 | true=>exact e
theorem Rh (ha:PT X a tA) (hb:PW X (.BoolOp .And (b :: rest) pos) tB'):PW X (.BoolOp .And (a :: b :: rest) pos) (Lf tA tB'):=by
 intro wh pins s σ H Q I h
 refine isTrue_and (fJ (ha pins s σ H _ I h) fun c s1 qq0=>?_)
 obtain ⟨H1,I1,q1⟩:=qq0
 cases c with
 | true=>exact hb wh pins s1 σ H1 Q I1 q1
 | false=>exact ⟨H1,I1,q1⟩
theorem Vy (ha:PT X a tA) (hb:PW X (.BoolOp .Or (b :: rest) pos) tB'):PW X (.BoolOp .Or (a :: b :: rest) pos) (tOr tA tB'):=by
 intro wh pins s σ H Q I h
 refine isTrue_or (fJ (ha pins s σ H _ I h) fun c s1 qq0=>?_)
 obtain ⟨H1,I1,q1⟩:=qq0
 cases c with
 | true=>exact ⟨H1,I1,q1⟩
 | false=>exact hb wh pins s1 σ H1 Q I1 q1
theorem Ri (ha:PT X a tA):PT X (.UnaryOp .Not a pos) (Rf tA):=by
 intro pins s σ H Q I h
 exact isTrue_not (ha pins s σ H (fun c H1=>Q (!c) H1) I h)
def Gy (ta tb:TE):TE:=fun σ H Q=>ta σ H fun x H1=>∃ c,x= .bl c∧if c=true then tb σ H1 Q else Q (.bl false) H1
def Rj (ta tb:TE):TE:=fun σ H Q=>ta σ H fun x H1=>∃ c,x= .bl c∧if c=true then Q (.bl true) H1 else tb σ H1 Q
def Gz (ta:TE):TE:=fun σ H Q=>ta σ H fun x H1=>∃ c,x= .bl c∧Q (.bl (!c)) H1
theorem Rk {op} {t:TE} (h:PE X a t):PE X (.BoolOp op [a] pos) t:=fun pins s σ H Q I hw=>BoolOp_one (h pins s σ H Q I hw)
theorem Rm (ha:PE X a ta) (hb:PE X (.BoolOp .And (b :: rest) pos) tb):PE X (.BoolOp .And (a :: b :: rest) pos) (Gy ta tb):=by
 intro pins s σ H Q I h
 refine BoolOp_and (fJ (ha pins s σ H _ I h) fun v s1 qq0=>?_)
 obtain ⟨x,H1,I1,r1,q1⟩:=qq0
 obtain ⟨c,rfl,q1⟩:=q1
 cases r1
 refine wpAny_truthy_bool ?_
 cases c with
 | true=>exact hb pins s1 σ H1 Q I1 q1
 | false=>exact ⟨.bl false,H1,I1,rfl,q1⟩
theorem Vz (ha:PE X a ta) (hb:PE X (.BoolOp .Or (b :: rest) pos) tb):PE X (.BoolOp .Or (a :: b :: rest) pos) (Rj ta tb):=by
 intro pins s σ H Q I h
 refine BoolOp_or (fJ (ha pins s σ H _ I h) fun v s1 qq0=>?_)
 obtain ⟨x,H1,I1,r1,q1⟩:=qq0
 obtain ⟨c,rfl,q1⟩:=q1
 cases r1
 refine wpAny_truthy_bool ?_
 cases c with
 | false=>exact hb pins s1 σ H1 Q I1 q1
 | true=>exact ⟨.bl true,H1,I1,rfl,q1⟩
theorem Rn (ha:PE X a ta):PE X (.UnaryOp .Not a pos) (Gz ta):=by
 intro pins s σ H Q I h
 refine UnaryOp_ (fJ (ha pins s σ H _ I h) fun v s1 qq0=>?_)
 obtain ⟨x,H1,I1,r1,q1⟩:=qq0
 obtain ⟨c,rfl,q1⟩:=q1
 cases r1
 exact not_of (wpAny_truthy_bool ⟨.bl (!c),H1,I1,rfl,q1⟩)
def tIf (t:TT) (ta tb:TE):TE:=fun σ H Q=>t σ H fun c H1=>if c=true then ta σ H1 Q else tb σ H1 Q
theorem GC {c:Expr} (hc:PT X c tA) (ha:PE X a ta) (hb:PE X b tb):PE X (.IfExp c a b pos) (tIf tA ta tb):=by
 intro pins s σ H Q I h
 refine wpAny_IfExp (fJ (hc pins s σ H _ I h) fun d s1 qq0=>?_)
 obtain ⟨H1,I1,q1⟩:=qq0
 cases d with
 | true=>exact ha pins s1 σ H1 Q I1 q1
 | false=>exact hb pins s1 σ H1 Q I1 q1
end
end L2
namespace L2
open PySem PySem.Spec PyProof.Rows
def SqL (K:PySem.W.Frag) (H:Hp) (a:Addr) (xs:List V):Prop:=
 Rd H a (.lst xs)∨
  ∃ (o:Obj) (its:Array Value) (n:Nat),K.lookup a=some o∧o.cls= .type "list"∧o.dict=none∧o.data= .seq its n∧its.size≤sizeLine∧Vals xs its.toList
def SqT (K:PySem.W.Frag) (H:Hp) (a:Addr) (xs:List V):Prop:=
 Rd H a (.tup xs)∨
  ∃ (o:Obj) (its:Array Value) (n:Nat),K.lookup a=some o∧o.cls= .type "tuple"∧o.data= .seq its n∧its.size≤sizeLine∧Vals xs its.toList
def absV:Value→Option V
 | .none=>some .non
 | .bool b=>some (.bl b)
 | .int i _=>some (.int i)
 | .str x _=>some (.str x)
 | .bytes b _=>some (.byt b)
 | .float b _=>some (.flt b)
 | .ref a=>some (.ref a)
 | .type n=>some (.ty n)
 | _=>none
theorem RelV.abs {x:V} {u:Value} (r:RelV x u):absV u=some x:=by
 cases x with
 | non=>cases r;rfl
 | bl _=>cases r;rfl
 | int _=>obtain ⟨t,rfl⟩:=r;rfl
 | str _=>obtain ⟨t,rfl⟩:=r;rfl
 | byt _=>obtain ⟨t,rfl⟩:=r;rfl
 | flt _=>obtain ⟨t,rfl⟩:=r;rfl
 | ref _=>cases r;rfl
 | ty _=>cases r;rfl
theorem RelV.inj {x y:V} {u:Value} (r:RelV x u) (q:RelV y u):x=y:=Option.some.inj (r.abs.symm.trans q.abs)
theorem Vals.inj:∀ {xs ys:List V} {us:List Value},Vals xs us→Vals ys us→xs=ys
 | _,_,_,.nil,.nil=>rfl
 | _,_,_,.cons r t,.cons r' t'=>by rw [r.inj r',Vals.inj t t']
section
variable {X:Cx} {pins:List (Addr×Obj)} {σ:St} {H:Hp} {s:Shared} {a:Addr} {xs ys:List V}
theorem SqL.of {K:PySem.W.Frag} (h:H a=some (.lst xs)):SqL K H a xs:=.inl (.inl h)
theorem SqT.of {K:PySem.W.Frag} (h:H a=some (.tup xs)):SqT K H a xs:=.inl (.inl h)
theorem Inv.list (I:Inv X pins σ H s) (h:SqL X.K H a xs):∃ its:List Value,Vals xs its∧PlainL s.heap a its.toArray∧xs.length≤sizeLine:=by
 rcases h with h | ⟨o,its,n,hk,hc,hd,hs,hz,r⟩
 ·obtain ⟨z,its,n,r,e⟩:=h.ok I.hok
  exact ⟨its,r,⟨_,n,e,rfl,rfl,rfl⟩,z⟩
 ·refine ⟨its.toList,r,⟨o,n,I.kIn a o hk,hc,hd,by simpa using hs⟩,?_⟩
  have e:=r.length
  simp only [Array.length_toList] at e
  omega
theorem Inv.tuple (I:Inv X pins σ H s) (h:SqT X.K H a xs):∃ its:List Value,Vals xs its∧IsTup s.heap a its.toArray∧xs.length≤sizeLine:=by
 rcases h with h | ⟨o,its,n,hk,hc,hs,hz,r⟩
 ·obtain ⟨z,its,r,p⟩:=h.ok I.hok
  exact ⟨its,r,p,z⟩
 ·refine ⟨its.toList,r,⟨o,I.kIn a o hk,hc,n,by simpa using hs⟩,?_⟩
  have e:=r.length
  simp only [Array.length_toList] at e
  omega
theorem Inv.list_inj (I:Inv X pins σ H s) (h:SqL X.K H a xs) (h':SqL X.K H a ys):xs=ys:=by
 obtain ⟨its,r,⟨o,n,e,_,_,d⟩,_⟩:=I.list h
 obtain ⟨its',r',⟨o',n',e',_,_,d'⟩,_⟩:=I.list h'
 rw [e] at e';cases e'
 rw [d] at d'
 injection d' with d1 _
 have:its=its':=by simpa using congrArg Array.toList d1
 subst this
 exact r.inj r'
theorem Inv.tuple_inj (I:Inv X pins σ H s) (h:SqT X.K H a xs) (h':SqT X.K H a ys):xs=ys:=by
 obtain ⟨its,r,⟨o,e,_,n,d⟩,_⟩:=I.tuple h
 obtain ⟨its',r',⟨o',e',_,n',d'⟩,_⟩:=I.tuple h'
 rw [e] at e';cases e'
 rw [d] at d'
 injection d' with d1 _
 have:its=its':=by simpa using congrArg Array.toList d1
 subst this
 exact r.inj r'
end
abbrev Cx.wish (X:Cx) (E:Value→Shared→Prop):Cx:={X with xe:=E}
abbrev Cx.nox (X:Cx):Cx:=X.wish fun _ _=>False
theorem Cx.Ok.wish {X:Cx} (ok:X.Ok) (E:Value→Shared→Prop):(X.wish E).Ok:=
 ⟨ok.mod,ok.kind,ok.glob,ok.blt,ok.above,ok.inj,ok.has,ok.cab,ok.hd,ok.frames,ok.stk,ok.exf,ok.bs,ok.bsz,ok.noex,ok.exfs,ok.funs,ok.frf⟩
theorem Cx.Ok.unwish {X:Cx} {E:Value→Shared→Prop} (ok:(X.wish E).Ok):X.Ok:=
 ⟨ok.mod,ok.kind,ok.glob,ok.blt,ok.above,ok.inj,ok.has,ok.cab,ok.hd,ok.frames,ok.stk,ok.exf,ok.bs,ok.bsz,ok.noex,ok.exfs,ok.funs,ok.frf⟩
section
variable {X:Cx} {pins:List (Addr×Obj)} {σ:St} {H:Hp} {s:Shared} {E:Value→Shared→Prop}
theorem Inv.wish (I:Inv X pins σ H s) (E:Value→Shared→Prop):Inv (X.wish E) pins σ H s:=⟨I.ok.wish E,I.os,I.bare,I.base,I.loc,I.cell,I.free,I.freeC,I.pin,I.hok,I.len⟩
theorem Inv.unwish (I:Inv (X.wish E) pins σ H s):Inv X pins σ H s:=⟨I.ok.unwish,I.os,I.bare,I.base,I.loc,I.cell,I.free,I.freeC,I.pin,I.hok,I.len⟩
theorem SP.unwish {D:Ends} {f:Flow} {s':Shared} (h:SP (X.wish E) pins D f s'):SP X pins D f s':=by
 cases f with
 | next=>obtain ⟨σ',H',I,q⟩:=h;exact ⟨σ',H',I.unwish,q⟩
 | brk=>obtain ⟨σ',H',I,q⟩:=h;exact ⟨σ',H',I.unwish,q⟩
 | cont=>obtain ⟨σ',H',I,q⟩:=h;exact ⟨σ',H',I.unwish,q⟩
 | ret u=>obtain ⟨v,σ',H',I,r,q⟩:=h;exact ⟨v,σ',H',I.unwish,r,q⟩
theorem PSs.nox {st:List Stmt} {t:TS} (h:PSs X.nox st t):PSs X st t:=fun pins s σ H D I hw=>
 wpAny_mono (h pins s σ H D (I.wish _) hw) (fun _ _ q=>q.unwish) fun _ _ z=>False.elim z
end
section
variable {X:Cx} {st:Stmt} {rest:List Stmt} {t u:TS} {e:Expr} {te:TE} {pos:Pos}
def GD:TS:=fun D σ H=>D.nx σ H
def Lh (t u:TS):TS:=fun D σ H=>t {D with nx:=u D} σ H
theorem Li:PSs X [] GD:=fun _ _ σ H _ I h=>wpAny_execs_nil ⟨σ,H,I,h⟩
theorem GF (h1:PS X st t) (h2:PSs X rest u):PSs X (st :: rest) (Lh t u):=by
 intro pins s σ H D I h
 refine wpAny_execs_cons (fJ (h1 pins s σ H {D with nx:=u D} I h) fun f s1 q=>?_)
 cases f with
 | next=>
  obtain ⟨σ',H',I',q⟩:=q
  exact h2 pins s1 σ' H' D I' q
 | ret v=>exact q
 | brk=>exact q
 | cont=>exact q
theorem Lj (h1:PS X st t):PSs X [st] t:=by
 intro pins s σ H D I h
 refine wpAny_execs_cons (fJ (h1 pins s σ H D I h) fun f s1 q=>?_)
 cases f with
 | next=>exact wpAny_execs_nil q
 | ret v=>exact q
 | brk=>exact q
 | cont=>exact q
theorem Inv.quiet {pins:List (Addr×Obj)} {σ:St} {H:Hp} {s:Shared} (I:Inv X pins σ H s):interactive X.env=false:=by simp [interactive,I.ok.kind]
def BZ (te:TE):TS:=fun D σ H=>te σ H fun _ H1=>D.nx σ H1
theorem Lk (he:PE X e te) (hs:autoParam (swapsWith e none pos.line X.env=pure false) L2.auto4._auto_1):PS X (.Expr e pos) (BZ te):=by
 intro pins s σ H D I h
 exact wpAny_Expr_any (fJ (he pins s σ H _ I h) fun v s1 ⟨x,H1,I1,r1,q1⟩=>⟨σ,H1,I1,q1⟩) I.quiet hs
def Ro (te:TE):TS:=fun D σ H=>te σ H D.rt
theorem Rp (he:PE X e te):PS X (.Return (some e) pos) (Ro te):=by
 intro pins s σ H D I h
 exact wpAny_Return_some (fJ (he pins s σ H _ I h) fun v s1 ⟨x,H1,I1,r1,q1⟩=>⟨x,σ,H1,I1,r1,q1⟩)
def Rq (c:TT) (t u:TS):TS:=fun D σ H=>c σ H fun b H1=>if b=true then t D σ H1 else u D σ H1
theorem VB {c:Expr} {a b:List Stmt} {tc:TT} (hc:PT X c tc) (ha:PSs X a t) (hb:PSs X b u):PS X (.If c a b pos) (Rq tc t u):=by
 intro pins s σ H D I h
 refine wpAny_If (fJ (hc pins s σ H _ I h) fun d s1 qq0=>?_)
 obtain ⟨H1,I1,q1⟩:=qq0
 cases d with
 | true=>exact ha pins s1 σ H1 D I1 q1
 | false=>exact hb pins s1 σ H1 D I1 q1
def GJ:TS:=fun _ _ _=>False
theorem GK:PS X st GJ:=fun _ _ _ _ _ _ h=>h.elim
end
abbrev TG:=V→St→Hp→(St→Hp→Prop)→Prop
abbrev z9:=List V→St→Hp→(St→Hp→Prop)→Prop
def PG (X:Cx) (target:Expr) (t:TG):Prop:=
 ∀ (pins:List (Addr×Obj)) (s:Shared) (σ:St) (H:Hp) (v:V) (u:Value) (Q:St→Hp→Prop),Inv X pins σ H s→RelV v u→t v σ H Q→
  wpAny (model X.prog X.w) X.A (assign target X.env u) (fun _ s'=>∃ σ' H',Inv X pins σ' H' s'∧Q σ' H') X.xe s
def Vq (X:Cx) (ts:List Expr) (t:z9):Prop:=
 ∀ (pins:List (Addr×Obj)) (s:Shared) (σ:St) (H:Hp) (vs:List V) (us:List Value) (Q:St→Hp→Prop),Inv X pins σ H s→Vals vs us→t vs σ H Q→
  wpAny (model X.prog X.w) X.A (assignInOrder ((assignEach ts X.env).map (·.2)) us) (fun _ s'=>∃ σ' H',Inv X pins σ' H' s'∧Q σ' H') X.xe s
abbrev Ac:=V→V→V→Hp→(Hp→Prop)→Prop
def Ln (X:Cx) (t:Ac):Prop:=
 ∀ (pins:List (Addr×Obj)) (s:Shared) (σ:St) (H:Hp) (o i v:V) (ov iv u:Value) (Q:Hp→Prop),Inv X pins σ H s→RelV o ov→RelV i iv→RelV v u→t o i v H Q→
  wpAny (model X.prog X.w) X.A (setItem ov iv u) (fun _ s'=>∃ H',Inv X pins σ H' s'∧Q H') X.xe s
abbrev TIp:=V→V→Hp→VK→Prop
def PIp (X:Cx) (op:Operator) (t:TIp):Prop:=
 ∀ (pins:List (Addr×Obj)) (s:Shared) (σ:St) (H:Hp) (x y:V) (v u:Value) (Q:VK),Inv X pins σ H s→RelV x v→RelV y u→t x y H Q→
  wpAny (model X.prog X.w) X.A (inplaceOp op v u) (EP X pins σ Q) X.xe s
section
variable {X:Cx} {pos:Pos}
def pL (i:Nat):TG:=fun v σ H Q=>Q (σ.set i (some v)) H
theorem Ca {i:Nat} {x:Str} (hN:X.N.Nodup) (hi:X.N[i]?=some x) (hx:Loc X.env.scope x) (hf:autoParam (X.fn x=true∨X.env.scope.names.lookup x=some .local) L2.auto1._auto_1):PG X (.Name x pos) (pL i):=by
 intro pins s σ H v u Q I r h
 exact wpAny_assign_Name (t6 I hN hi hx r (fun s' I'=>⟨_,H,I',h⟩) hf)
def Rr:z9:=fun vs σ H Q=>vs=[]∧Q σ H
def GQ (t:TG) (u:z9):z9:=fun vs σ H Q=>∃ v r,vs=v :: r∧t v σ H fun σ' H'=>u r σ' H' Q
theorem Lp:Vq X [] Rr:=by
 intro pins s σ H vs us Q I r h
 obtain ⟨e,h⟩:=h
 subst e
 cases r
 exact assignInOrder_nil ⟨σ,H,I,h⟩
theorem GR {e:Expr} {es:List Expr} {t:TG} {u:z9} (h1:PG X e t) (h2:Vq X es u)
  (hs:autoParam ((assignEach (e :: es) X.env).map (·.2)=assign e X.env :: (assignEach es X.env).map (·.2)) L2.auto4._auto_1):Vq X (e :: es) (GQ t u):=by
 intro pins s σ H vs us Q I r h
 obtain ⟨v,vr,e1,h⟩:=h
 subst e1
 cases r with
 | cons r rr=>
  rw [hs]
  refine assignInOrder_cons (fJ (h1 pins s σ H _ _ _ I r h) fun _ s1 qq0=>?_)
  obtain ⟨σ1,H1,I1,q1⟩:=qq0
  exact h2 pins s1 σ1 H1 _ _ Q I1 rr q1
def Lq (K:PySem.W.Frag) (n:Nat) (t:z9):TG:=fun v σ H Q=>∃ a xs,v= .ref a∧SqT K H a xs∧xs.length=n∧t xs σ H Q
theorem GX {es:List Expr} {k:Nat} {t:z9} {n:Nat} (hc:X.calm=true) (h:Vq X es t)
  (hn:autoParam ((assignEach es X.env).length=n) L2.auto4._auto_1) (hst:autoParam ((assignEach es X.env).findIdx? (·.1)=none) L2.auto4._auto_1):PG X (.Tuple es k pos) (Lq X.K n t):=by
 intro pins s σ H v u Q I r hw
 obtain ⟨a,xs,e1,hq,hl,hw⟩:=hw
 subst e1
 cases r
 obtain ⟨its,rv,ht,hz⟩:=I.tuple hq
 refine assign_Tuple_tuple (I.ok.hd hc) ht (by simp [hn,← hl,rv.length]) hst fun h' hx=>?_
 have I1:Inv X pins σ H {s with heap:=h'}:=I.kept (t':=s.toks) fun b o e=>hx b o (Nat.ne_of_lt (Heap.lt_size e)) e
 exact h pins _ σ H xs _ Q I1 (by simpa using rv) hw
def Rt (to ti:TE) (t:Ac):TG:=fun v σ H Q=>to σ H fun o H1=>ti σ H1 fun i H2=>t o i v H2 fun H3=>Q σ H3
theorem Ru {o i:Expr} {to ti:TE} {t:Ac} (ho:PE X o to) (hi:PE X i ti) (hs:Ln X t)
  (ha:∀ v,assign (.Subscript o i pos) X.env v=(do
   let ov ← holding [v] (eval o X.env)
   let iv ← holding [v,ov] (eval i X.env)
   standAt pos
   holding [v,ov,iv] (setItem ov iv v)
   release [v,ov,iv] []):=by intro _;rfl):PG X (.Subscript o i pos) (Rt to ti t):=by
 intro pins s σ H v u Q I r h
 rw [ha]
 refine wpAny_bind (wpAny_holding (fJ (ho pins s σ H _ I h) fun ov s1 qq0=>?_))
 obtain ⟨x,H1,I1,r1,q1⟩:=qq0
 refine wpAny_bind (wpAny_holding (fJ (hi pins s1 σ H1 _ I1 q1) fun iv s2 qq0=>?_))
 obtain ⟨y,H2,I2,r2,q2⟩:=qq0
 refine wpAny_bind (wpAny_standAt (wpAny_bind (wpAny_holding (fJ (hs pins s2 σ H2 x y v ov iv u _ I2 r1 r2 r q2) fun _ s3 qq0=>?_))))
 obtain ⟨H3,I3,q3⟩:=qq0
 exact wpAny_release ⟨σ,H3,I3,q3⟩
def wI (te:TE) (g:TG):TS:=fun D σ H=>te σ H fun x H1=>g x σ H1 D.nx
theorem GZ {tg e:Expr} {te:TE} {g:TG} (he:PE X e te) (hg:PG X tg g) (hs:autoParam (swapsWithSole [tg] e pos.line X.env=pure false) L2.auto4._auto_1) (hw:autoParam (swappedStores [tg] e X.env=pure none) L2.auto4._auto_1)
  (h1:autoParam ((assignEach [tg] X.env).map (·.2)=[assign tg X.env]) L2.auto4._auto_1):PS X (.Assign [tg] e pos) (wI te g):=by
 intro pins s σ H D I h
 refine wpAny_Assign_stores (fJ (he pins s σ H _ I h) fun v s1 qq0=>?_) hs hw
 obtain ⟨x,H1,I1,r1,q1⟩:=qq0
 rw [h1]
 exact fJ (hg pins s1 σ H1 x v _ I1 r1 q1) fun _ s2 q=>q
theorem G6 {i:Nat} {x:Str} {e:Expr} {te:TE} {pos':Pos} (hN:X.N.Nodup) (hi:X.N[i]?=some x) (hx:Loc X.env.scope x) (he:PE X e te) (hs:autoParam (swapsWith e (some (.Name x pos')) pos.line X.env=pure false) L2.auto4._auto_1) (hf:autoParam (X.fn x=true∨X.env.scope.names.lookup x=some .local) L2.auto1._auto_1):
  PS X (.Assign [.Name x pos'] e pos) (wI te (pL i)):=by
 intro pins s σ H D I h
 refine wpAny_Assign_Name (fJ (he pins s σ H _ I h) fun v s1 qq0=>?_) hs
 obtain ⟨y,H1,I1,r1,q1⟩:=qq0
 exact t6 I1 hN hi hx r1 (fun s2 I2=>⟨_,H1,I2,q1⟩) hf
def Rv (i:Nat) (te:TE) (ti:TIp):TS:=fun D σ H=>∃ x,σ[i]?=some (some x)∧te σ H fun y H1=>ti x y H1 fun z H2=>D.nx (σ.set i (some z)) H2
theorem Rw {i:Nat} {x:Str} {e:Expr} {te:TE} {op:Operator} {ti:TIp} {pos':Pos} (hN:X.N.Nodup) (hi:X.N[i]?=some x) (hx:Loc X.env.scope x) (he:PE X e te) (ho:PIp X op ti) (hf:autoParam (X.fn x=true∨X.env.scope.names.lookup x=some .local) L2.auto1._auto_1):
  PS X (.AugAssign (.Name x pos') op e pos) (Rv i te ti):=by
 intro pins s σ H D I h
 obtain ⟨v,e1,h⟩:=h
 obtain ⟨m,hn,hl⟩:=I.loc
 have vis:YK X.env.scope x:=by rcases hx with k | k;exact .inl k;exact .inr (.inl k)
 obtain ⟨u,r,l⟩:=hl i x v hi e1 vis
 refine wpAny_AugAssign_Name ?_
 have go:wpAny (model X.prog X.w) X.A (eval e X.env) (fun w s₂=>wpAny (model X.prog X.w) X.A (inplaceOp op u w) (fun r s₃=>wpAny (model X.prog X.w) X.A (storeName X.env x r) (fun _=>SP X pins D .next) X.xe s₃) X.xe s₂) X.xe s:=by
  refine fJ (he pins s σ H _ I h) fun w s1 qq0=>?_
  obtain ⟨y,H1,I1,r1,q1⟩:=qq0
  refine fJ (ho pins s1 σ H1 v y u w _ I1 r r1 q1) fun z s2 qq0=>?_
  obtain ⟨zv,H2,I2,r2,q2⟩:=qq0
  exact t6 I2 hN hi hx r2 (fun s3 I3=>⟨_,H2,I3,q2⟩) hf
 rcases l with ⟨hk,hm⟩ | ⟨hk,c,hc,hcell⟩
 ·exact wpAny_loadName_local I.ok.kind hk hn hm go
 ·rcases hk with hk | hk
  ·exact wpAny_loadName_cell I.ok.kind hk hc hcell go
  ·rcases hx with k | k
   ·have:X.env.scope.names.lookup x=some .free:=hk
    rw [k] at this;cases this
   ·have:X.env.scope.names.lookup x=some .free:=hk
    rw [k] at this;cases this
end
section
variable {X:Cx} {pos:Pos}
def Ad (c:TT) (tb:TS):TS:=fun D σ H=>∃ W:Nat→St→Hp→Prop,(∃ m,W m σ H)∧∀ m σ H,W m σ H→
 c σ H fun b H1=>if b=true then ∃ N:St→Hp→Prop,(∀ σ' H',N σ' H'→∃ m',m' < m∧W m' σ' H')∧tb {D with nx:=N,ct:=N,bk:=D.nx} σ H1 else D.nx σ H1
theorem G7 {c:Expr} {body:List Stmt} {tc:TT} {tb:TS} (hp:PassesOwn (model X.prog X.w) X.A X.env X.xe) (hc:PT X c tc) (hb:PSs X body tb):PS X (.While c body [] pos) (Ad tc tb):=by
 intro pins s σ H D I h
 obtain ⟨W,⟨m0,w0⟩,turn⟩:=h
 refine wpAny_While (codeAny_whileLoop (fun n s'=>∃ σ' H',Inv X pins σ' H' s'∧W n σ' H') ?_ m0 ⟨σ,H,I,w0⟩)
 rintro n s1 ⟨σ1,H1,I1,w1⟩
 refine wpAny_passesOwn hp (fJ (hc pins s1 σ1 H1 _ I1 (turn n σ1 H1 w1)) fun b s2 qq0=>?_)
 obtain ⟨H2,I2,q2⟩:=qq0
 cases b with
 | true=>
  obtain ⟨N,hN,q2⟩:=q2
  rw [if_pos rfl]
  refine wpAny_passesOwn hp (fJ (hb pins s2 σ1 H2 _ I2 q2) fun f s3 q3=>?_)
  cases f with
  | next=>
   obtain ⟨σ3,H3,I3,n3⟩:=q3
   obtain ⟨m',hm,w3⟩:=hN σ3 H3 n3
   exact ⟨m',hm,σ3,H3,I3,w3⟩
  | cont=>
   obtain ⟨σ3,H3,I3,n3⟩:=q3
   obtain ⟨m',hm,w3⟩:=hN σ3 H3 n3
   exact ⟨m',hm,σ3,H3,I3,w3⟩
  | brk=>exact q3
  | ret v=>exact q3
 | false=>
  rw [if_neg Bool.false_ne_true]
  exact wpAny_execs_nil ⟨σ1,H2,I2,q2⟩
end
structure It where
 go:Nat→Hp→Prop
 yld:Nat→Hp→V→Hp→Prop
 stop:Nat→Hp→Prop
def lU (X:Cx) (pins:List (Addr×Obj)) (H:Hp) (b:Addr):Prop:=
 H b=none∧b≠X.env.locals∧b ∉ X.fs∧(b∈X.ex∨X.s₀.heap.objs.size≤b)∧(∀ x c,X.env.cells.lookup x=some c→c≠b)∧∀ p∈X.pn ++ pins,p.1≠b
theorem Inv.fpOk {X:Cx} {pins:List (Addr×Obj)} {σ:St} {H H':Hp} {s:Shared} {b:Addr} (I:Inv X pins σ H s) (hb:s.heap.objs.size≤b) (hn:H' b=none):lU X pins H' b:=by
 refine ⟨hn,Nat.ne_of_gt (Nat.lt_of_lt_of_le I.lt hb),I.nofs hb,.inr (Nat.le_trans I.sz hb),fun x c e z=>?_,fun p hp z=>?_⟩
 ·obtain ⟨v,q⟩:=I.cell x c e
  exact absurd (Nat.lt_of_lt_of_le q.lt (by rw [z];exact hb)) (Nat.lt_irrefl _)
 ·exact absurd (Nat.lt_of_lt_of_le (Heap.lt_size (I.pin p hp).1) (by rw [z];exact hb)) (Nat.lt_irrefl _)
structure Turn (P:Program) (w:World) (K:PySem.W.Frag) (tg:Expr) (J:It) (fp:List Addr) (it:Addr) (tn:Nat→Heap→Prop):Prop where
 mem:it∈fp
 obj:∀ i h,tn i h→∀ b∈fp,∃ o,h.get? b=some o∧∀ v,o.data≠.cell v
 keep:∀ i h h',tn i h→(∀ b∈fp,∀ o,h.get? b=some o→h'.get? b=some o)→tn i h'
 item:∀ (X:Cx),X.prog=P→X.w=w→X.K=K→X.calm=true→∀ (i:Nat) (pins:List (Addr×Obj)) (s:Shared) (σ:St) (H:Hp) (E:Value→Shared→Prop),Inv X pins σ H s→(∀ b∈fp,lU X pins H b)→tn i s.heap→J.go i H→
  wpAny (model P w) X.A (pyNext (.ref it)) (fun r s1=>∃ u,r=some u∧
   wpAny (model P w) X.A (letOwnedTupleGo tg (.ref it) u) (fun _ s2=>∃ x H',Inv X pins σ H' s2∧RelV x u∧J.yld i H x H'∧tn (i+1) s2.heap∧∀ b∈fp,H' b=none) E s1) E s
 done:∀ (X:Cx),X.prog=P→X.w=w→X.K=K→X.calm=true→∀ (i:Nat) (pins:List (Addr×Obj)) (s:Shared) (σ:St) (H:Hp) (E:Value→Shared→Prop),Inv X pins σ H s→(∀ b∈fp,lU X pins H b)→tn i s.heap→J.stop i H→
  wpAny (model P w) X.A (pyNext (.ref it)) (fun r s1=>r=none∧Inv X pins σ H s1) E s
 self:∀ (A:Around) (i:Nat) (s:Shared) (Q:Value→Shared→Prop) (E:Value→Shared→Prop),tn i s.heap→Q (.ref it) s→wpAny (model P w) A (pyIter (.ref it)) Q E s
abbrev TI:=St→Hp→(It→Hp→Prop)→Prop
def PIE (X:Cx) (pins:List (Addr×Obj)) (σ:St) (tg:Expr) (R:It→Hp→Prop) (itv:Value) (s2:Shared):Prop:=
 ∃ (it:Addr) (fp:List Addr) (tn:Nat→Heap→Prop) (J:It) (H':Hp),itv= .ref it∧Inv X pins σ H' s2∧Turn X.prog X.w X.K tg J fp it tn∧tn 0 s2.heap∧(∀ b∈fp,lU X pins H' b)∧R J H'
def PI (X:Cx) (tg iter:Expr) (wi:TI):Prop:=
 ∀ (pins:List (Addr×Obj)) (s:Shared) (σ:St) (H:Hp) (R:It→Hp→Prop),Inv X pins σ H s→wi σ H R→
  wpAny (model X.prog X.w) X.A (eval iter X.env) (fun v s1=>wpAny (model X.prog X.w) X.A (pyIter v) (PIE X pins σ tg R) X.xe s1) X.xe s
theorem yr {M:Model} {A:Around} {E:Value→Shared→Prop} {s:Shared} {tg:Expr} {it:Addr} {u:Value} {o:Obj} {n:String} {vs:Array Value} {Q:Unit→Shared→Prop} (ho:s.heap.get? it=some o) (hc:o.cls= .type n) (hd:o.data= .fields vs)
  (hn:["enumerate","zip","dict_itemiterator","dict_reverseitemiterator","odict_iterator","itertools.zip_longest","itertools.pairwise"].contains n=false) (hQ:Q () s):wpAny M A (letOwnedTupleGo tg (.ref it) u) Q E s:=by
 unfold letOwnedTupleGo
 cases tg <;> first
  | exact wpAny_pure hQ
  | (cases u <;> first
    | exact wpAny_pure hQ
    | (refine wpAny_bind (wpAny_load ho ?_)
       rw [hc,hd]
       show wpAny M A (if (["enumerate","zip","dict_itemiterator","dict_reverseitemiterator","odict_iterator","itertools.zip_longest","itertools.pairwise"].contains n && vs[0]? == some (rawInt _))=true then _ else _) Q E s
       rw [if_neg (by intro h;rw [hn,Bool.false_and] at h;cases h)]
       exact wpAny_pure hQ))
def Qv (K:PySem.W.Frag) (a:Addr):It:=
 ⟨fun i H=>∃ xs x,SqL K H a xs∧xs[i]?=some x,fun i H x H'=>H'=H∧∀ xs,SqL K H a xs→xs[i]?=some x,fun i H=>∃ xs,SqL K H a xs∧xs.length≤i⟩
def Vr (K:PySem.W.Frag) (a:Addr):It:=
 ⟨fun i H=>∃ xs x,SqT K H a xs∧xs[i]?=some x,fun i H x H'=>H'=H∧∀ xs,SqT K H a xs→xs[i]?=some x,fun i H=>∃ xs,SqT K H a xs∧xs.length≤i⟩
def Gv (lo:Int) (n:Nat):It:=⟨fun i _=>i < n,fun i H x H'=>H'=H∧x= .int (lo+i),fun i _=>n≤i⟩
theorem DP {P:Program} {w:World} {K:PySem.W.Frag} {tg:Expr} (a it:Addr):Turn P w K tg (Qv K a) [it] it (fun i h=>h.IsListIter it a i) where
 mem:=by simp
 obj:=fun i h st b hb=>by
  have e:b=it:=by simpa using hb
  subst e
  obtain ⟨o,e,c,d⟩:=st
  exact ⟨o,e,fun v z=>by rw [d] at z;cases z⟩
 keep:=fun i h h' st k=>st.at fun o e=>k it (by simp) o e
 item:=by
  intro X hP hw hK hc i pins s σ H E I hf st hg
  subst hP hw hK
  obtain ⟨xs,x,hq,hx⟩:=hg
  obtain ⟨its,rv,p,hz⟩:=I.list hq
  obtain ⟨u,hu,ru⟩:=rv.get hx
  obtain ⟨f0,f1,f2,f3,f4,f5⟩:=hf it (by simp)
  refine wpAny_pyNext_list_item st p.isList (x:=u) (by simpa using hu) fun h' st' sb=>?_
  have I1:Inv X pins σ H {s with heap:=h'}:=I.turned (t':=s.toks) (fun b o hb e=>(sb.2 b hb).trans e) f0 f1 f3 f4 f5
  obtain ⟨o,e,c,d⟩:=id st'
  exact ⟨u,rfl,yr (s:={s with heap:=h'}) e c d (by decide) ⟨x,H,I1,ru,⟨rfl,fun ys hy=>by rw [I.list_inj hy hq];exact hx⟩,st',fun b hb=>(hf b hb).1⟩⟩
 done:=by
  intro X hP hw hK hc i pins s σ H E I hf st hg
  subst hP hw hK
  obtain ⟨xs,hq,hx⟩:=hg
  obtain ⟨its,rv,p,hz⟩:=I.list hq
  obtain ⟨f0,f1,f2,f3,f4,f5⟩:=hf it (by simp)
  have hl:=rv.length
  exact wpAny_pyNext_list_end (I.ok.hd hc) st p.isList (by simp;omega) fun h' eb=>⟨rfl,I.turned (t':=s.toks) (fun b o hb e=>eb b o hb e) f0 f1 f3 f4 f5⟩
 self:=fun _ _ _ _ _ st h=>wpAny_pyIter_listiter st h
theorem Ae {P:Program} {w:World} {K:PySem.W.Frag} {tg:Expr} (a it:Addr):Turn P w K tg (Vr K a) [it] it (fun i h=>h.IsTupleIter it a i) where
 mem:=by simp
 obj:=fun i h st b hb=>by
  have e:b=it:=by simpa using hb
  subst e
  obtain ⟨o,e,c,d⟩:=st
  exact ⟨o,e,fun v z=>by rw [d] at z;cases z⟩
 keep:=fun i h h' st k=>st.at fun o e=>k it (by simp) o e
 item:=by
  intro X hP hw hK hc i pins s σ H E I hf st hg
  subst hP hw hK
  obtain ⟨xs,x,hq,hx⟩:=hg
  obtain ⟨its,rv,p,hz⟩:=I.tuple hq
  obtain ⟨u,hu,ru⟩:=rv.get hx
  obtain ⟨f0,f1,f2,f3,f4,f5⟩:=hf it (by simp)
  refine wpAny_pyNext_tuple_item st (show s.heap.IsTuple a its.toArray from p) (x:=u) (by simpa using hu) fun h' st' sb=>?_
  have I1:Inv X pins σ H {s with heap:=h'}:=I.turned (t':=s.toks) (fun b o hb e=>(sb.2 b hb).trans e) f0 f1 f3 f4 f5
  obtain ⟨o,e,c,d⟩:=id st'
  exact ⟨u,rfl,yr (s:={s with heap:=h'}) e c d (by decide) ⟨x,H,I1,ru,⟨rfl,fun ys hy=>by rw [I.tuple_inj hy hq];exact hx⟩,st',fun b hb=>(hf b hb).1⟩⟩
 done:=by
  intro X hP hw hK hc i pins s σ H E I hf st hg
  subst hP hw hK
  obtain ⟨xs,hq,hx⟩:=hg
  obtain ⟨its,rv,p,hz⟩:=I.tuple hq
  obtain ⟨f0,f1,f2,f3,f4,f5⟩:=hf it (by simp)
  have hl:=rv.length
  exact wpAny_pyNext_tuple_end (I.ok.hd hc) st (show s.heap.IsTuple a its.toArray from p) (by simp;omega) fun h' eb=>⟨rfl,I.turned (t':=s.toks) (fun b o hb e=>eb b o hb e) f0 f1 f3 f4 f5⟩
 self:=fun _ _ _ _ _ st h=>wpAny_pyIter_tupleiter st h
theorem Af {P:Program} {w:World} {K:PySem.W.Frag} {tg:Expr} (it:Addr) (lo:Int) (n:Nat):Turn P w K tg (Gv lo n) [it] it (fun i h=>IsRangeIter h it (lo+(i:Nat)*1) ((n:Int) - (i:Nat)) 1) where
 mem:=by simp
 obj:=fun i h st b hb=>by
  have e:b=it:=by simpa using hb
  subst e
  exact ⟨_,st,fun v z=>by
   have z':Data.fields _=Data.cell v:=z
   cases z'⟩
 keep:=fun i h h' st k=>k it (by simp) _ st
 item:=by
  intro X hP hw hK hc i pins s σ H E I hf st hg
  subst hP hw hK
  obtain ⟨f0,f1,f2,f3,f4,f5⟩:=hf it (by simp)
  have W:=Walks.range (prog:=X.prog) (w:=X.w) (I.ok.hd hc) it lo 1 n
  refine W.item i s _ _ hg st fun v h' tk hv st' kk=>?_
  obtain ⟨t,rfl⟩:=hv
  have I1:Inv X pins σ H {s with heap:=h',toks:=tk}:=I.turned (fun b o hb e=>kk b o (by simpa using hb) e) f0 f1 f3 f4 f5
  refine ⟨_,rfl,yr (s:={s with heap:=h',toks:=tk}) (n:="range_iterator") st' rfl rfl (by decide) ⟨.int (lo+i),H,I1,⟨t,?_⟩,⟨rfl,rfl⟩,st',fun b hb=>(hf b hb).1⟩⟩
  rw [Int.mul_one]
 done:=by
  intro X hP hw hK hc i pins s σ H E I hf st hg
  subst hP hw hK
  obtain ⟨f0,f1,f2,f3,f4,f5⟩:=hf it (by simp)
  exact wpAny_pyNext_range_end (I.ok.hd hc) st (by have:n≤i:=hg;omega) fun h' eb=>⟨rfl,I.turned (t':=s.toks) (fun b o hb e=>eb b o hb e) f0 f1 f3 f4 f5⟩
 self:=fun _ _ _ _ _ st h=>wpAny_pyIter_rangeiter st h
end L2
namespace L2
open PySem PySem.Spec PyProof.Rows
section
variable {X:Cx} {tg:Expr}
theorem yt {pins:List (Addr×Obj)} {σ:St} {H:Hp} {s:Shared} {R:It→Hp→Prop} {E:Value→Shared→Prop} {lo hi:Int} {t u v:Tok} {tk:Nat} (I:Inv X pins σ H s) (h1: -(2 ^ 62)≤lo) (h2:lo < 2 ^ 62) (h3: -(2 ^ 62)≤hi) (h4:hi < 2 ^ 62)
  (q:R (Gv lo (hi - lo).toNat) H):wpAny (model X.prog X.w) X.A (pyIter (.ref s.heap.objs.size)) (PIE X pins σ tg R) E {s with heap:=s.heap.push {cls:=.type "range",data:=.fields #[.int lo t,.int hi u,.int 1 v]},toks:=tk}:=by
 refine wpAny_pyIter_range (IsRange.new ..) (small_one h1 h2 h3 h4) ?_
 have I1:Inv X pins σ H {s with heap:=s.heap.push {cls:=.type "range",data:=.fields #[.int lo t,.int hi u,.int 1 v]},toks:=tk}:=I.kept fun b o e=>Heap.get?_push_of_some _ e
 refine ⟨(s.heap.push {cls:=.type "range",data:=.fields #[.int lo t,.int hi u,.int 1 v]}).objs.size,[(s.heap.push {cls:=.type "range",data:=.fields #[.int lo t,.int hi u,.int 1 v]}).objs.size],_,_,H,rfl,
  I1.kept (t':=tk) fun b o e=>Heap.get?_push_of_some _ e,Af _ lo (hi - lo).toNat,?_,fun b hb=>?_,q⟩
 ·have e1:lo+((0:Nat):Int)*1=lo:=by simp
  have e2:(((hi - lo).toNat:Nat):Int) - ((0:Nat):Int)=Builtin.Range.rangeSize lo hi 1:=by rw [rangeSize_one];split <;> omega
  show IsRangeIter _ _ (lo+((0:Nat):Int)*1) ((((hi - lo).toNat:Nat):Int) - ((0:Nat):Int)) 1
  rw [e1,e2]
  exact Heap.get?_push_size _ rfl
 ·have e:b=(s.heap.push {cls:=.type "range",data:=.fields #[.int lo t,.int hi u,.int 1 v]}).objs.size:=by simpa using hb
  subst e
  exact I1.fpOk (Nat.le_refl _) (I1.hok.fresh (Nat.le_refl _))
def Ha (ta:TA):TI:=fun σ H R=>ta σ H fun vs H1=>∃ j:Int,vs=[.int j]∧-(2 ^ 62)≤j∧j < 2 ^ 62∧R (Gv 0 j.toNat) H1
def Hb (ta:TA):TI:=fun σ H R=>ta σ H fun vs H1=>∃ i j:Int,vs=[.int i,.int j]∧(-(2 ^ 62)≤i∧i < 2 ^ 62∧-(2 ^ 62)≤j∧j < 2 ^ 62)∧R (Gv i (j - i).toNat) H1
theorem DQ {a:Expr} {ta:TA} {p pos:Pos} (hg:Gl X "range") (hm:X.mg "range"=none) (ha:PA X [a] ta) (hs:autoParam (starEach [a] X.env=[(false,eval a X.env)]) L2.auto4._auto_1):PI X tg (.Call (.Name "range" p) [a] [] pos) (Ha ta):=by
 intro pins s σ H R I h
 refine Call_ (jz I hg hm boot_range (PyProof.Rows.callWith_type1 (fJ (ha pos pins s σ H _ I h) fun us s1 ⟨vs,H1,I1,r1,q1⟩=>?_) hs rfl))
 obtain ⟨j,e,q1,q2,q⟩:=q1
 subst e
 cases r1 with
 | cons r rr=>
  cases rr
  obtain ⟨t,rfl⟩:=r
  exact call_range_1 (yt I1 (by omega) (by omega) q1 q2 (by simpa using q))
theorem DW {a b:Expr} {ta:TA} {p pos:Pos} (hg:Gl X "range") (hm:X.mg "range"=none) (ha:PA X [a,b] ta) (hs:autoParam (starEach [a,b] X.env=[(false,eval a X.env),(false,eval b X.env)]) L2.auto4._auto_1) (hs2:autoParam (starEach [b] X.env=[(false,eval b X.env)]) L2.auto4._auto_1):
  PI X tg (.Call (.Name "range" p) [a,b] [] pos) (Hb ta):=by
 intro pins s σ H R I h
 refine Call_ (jz I hg hm boot_range (PyProof.Rows.callWith_type1 (fJ (ha pos pins s σ H _ I h) fun us s1 qq0=>?_) (by rw [hs,hs2]) (by rw [hs2];rfl)))
 obtain ⟨vs,H1,I1,r1,q1⟩:=qq0
 obtain ⟨i,j,e,⟨q1,q2,q3,q4⟩,q⟩:=q1
 subst e
 cases r1 with
 | cons r rr=>
  cases rr with
  | cons r' rr=>
   cases rr
   obtain ⟨t,rfl⟩:=r
   obtain ⟨t',rfl⟩:=r'
   exact call_range_2 (yt I1 q1 q2 q3 q4 q)
def Lr (wi:TI) (g:TG) (tb:TS):TS:=fun D σ H=>wi σ H fun J H1=>∃ W:Nat→Nat→St→Hp→Prop,(∃ m,W 0 m σ H1)∧∀ i m σ H,W i m σ H→
 (J.stop i H∧D.nx σ H)∨(J.go i H∧∃ N:St→Hp→Prop,(∀ σ' H',N σ' H'→∃ m',m' < m∧W (i+1) m' σ' H')∧∀ x H',J.yld i H x H'→g x σ H' fun σ2 H2=>tb {D with nx:=N,ct:=N,bk:=D.nx} σ2 H2)
def qX (fp:List Addr) (h:Heap):List (Addr×Obj):=fp.filterMap fun b=>(h.get? b).map fun o=>(b,o)
theorem mW {fp:List Addr} {h:Heap} {b:Addr} {o:Obj} (hb:b∈fp) (e:h.get? b=some o):(b,o)∈qX fp h:=List.mem_filterMap.mpr ⟨b,hb,by rw [e];rfl⟩
theorem DX {fp:List Addr} {h:Heap} {p:Addr×Obj} (hp:p∈qX fp h):p.1∈fp∧h.get? p.1=some p.2:=by
 obtain ⟨b,hb,e⟩:=List.mem_filterMap.mp hp
 cases q:h.get? b with
 | none=>rw [q] at e;cases e
 | some o=>
  rw [q] at e
  have e':(b,o)=p:=Option.some.inj e
  subst e'
  exact ⟨hb,q⟩
theorem Inv.pinned {pins:List (Addr×Obj)} {σ:St} {H:Hp} {s:Shared} {fp:List Addr} (I:Inv X pins σ H s) (hf:∀ b∈fp,lU X pins H b) (ho:∀ b∈fp,∃ o,s.heap.get? b=some o∧∀ v,o.data≠.cell v):Inv X (pins ++ qX fp s.heap) σ H s:=
 I.pins_of fun p hp=>(List.mem_append.mp hp).elim (fun z=>I.pin p (List.mem_append_right _ z)) fun z=>by
  obtain ⟨hb,e⟩:=DX z
  obtain ⟨f0,f1,f2,_⟩:=hf p.1 hb
  obtain ⟨o,e',d⟩:=ho p.1 hb
  rw [e] at e';cases e'
  exact ⟨e,f0,f1,f2,d⟩
theorem Inv.unpinned {pins pl:List (Addr×Obj)} {σ:St} {H:Hp} {s:Shared} (I:Inv X (pins ++ pl) σ H s):Inv X pins σ H s:=I.pins_of fun p hp=>I.pin p (List.mem_append_right _ (List.mem_append_left _ hp))
theorem Rx {iter:Expr} {body:List Stmt} {wi:TI} {g:TG} {tb:TS} {pos:Pos} (hp:PassesOwn (model X.prog X.w) X.A X.env X.xe) (hc:X.calm=true) (hi:PI X tg iter wi) (hg:PG X tg g) (hb:PSs X body tb)
  (hs:autoParam (∀ x,foldedSetIterable iter X.env x=pure x) L2.auto3._auto_1):PS X (.For tg iter body [] pos) (Lr wi g tb):=by
 intro pins s σ H D I h
 refine wpAny_For (fJ (hi pins s σ H _ I h) fun v s1 h1=>fJ h1 fun itv s2 h2=>?_) hs
 obtain ⟨it,fp,tn,J,H2,e,I2,T,st2,f2,W,⟨m0,w0⟩,turn⟩:=h2
 subst e
 have stat:∀ {H':Hp},(∀ b∈fp,H' b=none)→∀ b∈fp,lU X pins H' b:=fun hn b hb=>⟨hn b hb,(f2 b hb).2⟩
 refine codeAny_forLoop_any (fun n s'=>∃ i σ' H',Inv X pins σ' H' s'∧tn i s'.heap∧(∀ b∈fp,H' b=none)∧W i n σ' H') ?_ m0 ⟨0,σ,H2,I2,st2,fun b hb=>(f2 b hb).1,w0⟩
 rintro n s3 ⟨i,σ3,H3,I3,st3,fr3,w3⟩
 rcases turn i n σ3 H3 w3 with ⟨stop,qn⟩ | ⟨go,N,hN,step⟩
 ·refine wpAny_passesOwn hp (fJ (T.done X rfl rfl rfl hc i pins s3 σ3 H3 X.xe I3 (stat fr3) st3 stop) fun r s4 qq0=>?_)
  obtain ⟨hr,I4⟩:=qq0
  subst hr
  exact wpAny_execs_nil ⟨σ3,H3,I4,qn⟩
 ·refine wpAny_passesOwn hp (fJ (T.item X rfl rfl rfl hc i pins s3 σ3 H3 X.xe I3 (stat fr3) st3 go) fun r s4 qq0=>?_)
  obtain ⟨u,hr,h4⟩:=qq0
  subst hr
  refine wpAny_passesOwn hp (fJ h4 fun _ s5 qq0=>?_)
  obtain ⟨x,H5,I5,r5,y5,st5,fr5⟩:=qq0
  have I5':=I5.pinned (stat fr5) (T.obj _ _ st5)
  refine wpAny_passesOwn hp (fJ (hg _ s5 σ3 H5 x u _ I5' r5 (step x H5 y5)) fun _ s6 qq0=>?_)
  obtain ⟨σ6,H6,I6,q6⟩:=qq0
  refine wpAny_passesOwn hp (fJ (hb _ s6 σ6 H6 _ I6 q6) fun f s7 q7=>?_)
  have again:∀ {σ7:St} {H7:Hp},Inv X (pins ++ qX fp s5.heap) σ7 H7 s7→N σ7 H7→∃ m,m < n∧∃ i σ' H',Inv X pins σ' H' s7∧tn i s7.heap∧(∀ b∈fp,H' b=none)∧W i m σ' H':=fun {σ7 H7} I7 n7=>by
   obtain ⟨m',hm,w7⟩:=hN σ7 H7 n7
   refine ⟨m',hm,i+1,σ7,H7,I7.unpinned,T.keep _ _ _ st5 fun b hb o e=>(I7.pin (b,o) (List.mem_append_right _ (List.mem_append_right _ (mW hb e)))).1,fun b hb=>?_,w7⟩
   obtain ⟨o,e,d⟩:=T.obj _ _ st5 b hb
   exact (I7.pin (b,o) (List.mem_append_right _ (List.mem_append_right _ (mW hb e)))).2.1
  cases f with
  | next=>obtain ⟨σ7,H7,I7,n7⟩:=q7;exact again I7 n7
  | cont=>obtain ⟨σ7,H7,I7,n7⟩:=q7;exact again I7 n7
  | brk=>obtain ⟨σ7,H7,I7,q7⟩:=q7;exact ⟨σ7,H7,I7.unpinned,q7⟩
  | ret v=>obtain ⟨x7,σ7,H7,I7,r7,q7⟩:=q7;exact ⟨x7,σ7,H7,I7.unpinned,r7,q7⟩
end
theorem Hc {K:PySem.W.Frag} {a:Addr} {xs:List V} {g:TG} {tb:TS} {D:Ends} {σ:St} {H:Hp} (Pv:Nat→St→Hp→Prop) (h0:Pv 0 σ H) (hl:∀ i σ H,i≤xs.length→Pv i σ H→SqL K H a xs)
  (hs:∀ i x σ H,xs[i]?=some x→Pv i σ H→g x σ H fun σ2 H2=>tb {D with nx:=Pv (i+1),ct:=Pv (i+1),bk:=D.nx} σ2 H2) (hd:∀ σ H,Pv xs.length σ H→D.nx σ H):
  ∃ W:Nat→Nat→St→Hp→Prop,(∃ m,W 0 m σ H)∧∀ i m σ H,W i m σ H→
   ((Qv K a).stop i H∧D.nx σ H)∨((Qv K a).go i H∧∃ N:St→Hp→Prop,(∀ σ' H',N σ' H'→∃ m',m' < m∧W (i+1) m' σ' H')∧∀ x H',(Qv K a).yld i H x H'→g x σ H' fun σ2 H2=>tb {D with nx:=N,ct:=N,bk:=D.nx} σ2 H2):=by
 refine ⟨fun i m σ H=>m=xs.length - i∧i≤xs.length∧Pv i σ H,⟨xs.length,by simp,Nat.zero_le _,h0⟩,?_⟩
 rintro i m σ H ⟨rfl,hi,p⟩
 have q:=hl i σ H hi p
 by_cases hlt:i < xs.length
 ·refine .inr ⟨⟨xs,xs[i],q,by simp [hlt]⟩,Pv (i+1),fun σ' H' p'=>⟨xs.length - (i+1),by omega,rfl,hlt,p'⟩,fun x H' y=>?_⟩
  obtain ⟨e,y⟩:=y
  subst e
  exact hs i x σ _ (y xs q) p
 ·have e:i=xs.length:=by omega
  subst e
  exact .inl ⟨⟨xs,q,Nat.le_refl _⟩,hd σ H p⟩
theorem Cd {K:PySem.W.Frag} {a:Addr} {xs:List V} {g:TG} {tb:TS} {D:Ends} {σ:St} {H:Hp} (Pv:Nat→St→Hp→Prop) (h0:Pv 0 σ H) (hl:∀ i σ H,i≤xs.length→Pv i σ H→SqT K H a xs)
  (hs:∀ i x σ H,xs[i]?=some x→Pv i σ H→g x σ H fun σ2 H2=>tb {D with nx:=Pv (i+1),ct:=Pv (i+1),bk:=D.nx} σ2 H2) (hd:∀ σ H,Pv xs.length σ H→D.nx σ H):
  ∃ W:Nat→Nat→St→Hp→Prop,(∃ m,W 0 m σ H)∧∀ i m σ H,W i m σ H→
   ((Vr K a).stop i H∧D.nx σ H)∨((Vr K a).go i H∧∃ N:St→Hp→Prop,(∀ σ' H',N σ' H'→∃ m',m' < m∧W (i+1) m' σ' H')∧∀ x H',(Vr K a).yld i H x H'→g x σ H' fun σ2 H2=>tb {D with nx:=N,ct:=N,bk:=D.nx} σ2 H2):=by
 refine ⟨fun i m σ H=>m=xs.length - i∧i≤xs.length∧Pv i σ H,⟨xs.length,by simp,Nat.zero_le _,h0⟩,?_⟩
 rintro i m σ H ⟨rfl,hi,p⟩
 have q:=hl i σ H hi p
 by_cases hlt:i < xs.length
 ·refine .inr ⟨⟨xs,xs[i],q,by simp [hlt]⟩,Pv (i+1),fun σ' H' p'=>⟨xs.length - (i+1),by omega,rfl,hlt,p'⟩,fun x H' y=>?_⟩
  obtain ⟨e,y⟩:=y
  subst e
  exact hs i x σ _ (y xs q) p
 ·have e:i=xs.length:=by omega
  subst e
  exact .inl ⟨⟨xs,q,Nat.le_refl _⟩,hd σ H p⟩
theorem o8 {lo:Int} {n:Nat} {g:TG} {tb:TS} {D:Ends} {σ:St} {H:Hp} (Pv:Nat→St→Hp→Prop) (h0:Pv 0 σ H)
  (hs:∀ i σ H,i < n→Pv i σ H→g (.int (lo+i)) σ H fun σ2 H2=>tb {D with nx:=Pv (i+1),ct:=Pv (i+1),bk:=D.nx} σ2 H2) (hd:∀ σ H,Pv n σ H→D.nx σ H):
  ∃ W:Nat→Nat→St→Hp→Prop,(∃ m,W 0 m σ H)∧∀ i m σ H,W i m σ H→
   ((Gv lo n).stop i H∧D.nx σ H)∨((Gv lo n).go i H∧∃ N:St→Hp→Prop,(∀ σ' H',N σ' H'→∃ m',m' < m∧W (i+1) m' σ' H')∧∀ x H',(Gv lo n).yld i H x H'→g x σ H' fun σ2 H2=>tb {D with nx:=N,ct:=N,bk:=D.nx} σ2 H2):=by
 refine ⟨fun i m σ H=>m=n - i∧i≤n∧Pv i σ H,⟨n,by simp,Nat.zero_le _,h0⟩,?_⟩
 rintro i m σ H ⟨rfl,hi,p⟩
 by_cases hlt:i < n
 ·refine .inr ⟨hlt,Pv (i+1),fun σ' H' p'=>⟨n - (i+1),by omega,rfl,hlt,p'⟩,fun x H' y=>?_⟩
  obtain ⟨e,y⟩:=y
  subst e y
  exact hs i σ _ hlt p
 ·have e:i=n:=by omega
  subst e
  exact .inl ⟨Nat.le_refl _,hd σ H p⟩
theorem Hd {c:TT} {tb:TS} {D:Ends} {σ:St} {H:Hp} (Pv:St→Hp→Prop) (μ:St→Hp→Nat) (h0:Pv σ H)
  (hs:∀ σ H,Pv σ H→c σ H fun b H1=>if b=true then tb {D with nx:=fun σ' H'=>Pv σ' H'∧μ σ' H' < μ σ H,ct:=fun σ' H'=>Pv σ' H'∧μ σ' H' < μ σ H,bk:=D.nx} σ H1 else D.nx σ H1)
  (mono:∀ σ H Q Q',(∀ b H1,Q b H1→Q' b H1)→c σ H Q→c σ H Q'):Ad c tb D σ H:=by
 refine ⟨fun m σ H=>m=μ σ H∧Pv σ H,⟨_,rfl,h0⟩,?_⟩
 rintro m σ H ⟨rfl,p⟩
 refine mono σ H _ _ (fun b H1 q=>?_) (hs σ H p)
 cases b with
 | true=>exact ⟨_,fun σ' H' ⟨p',l⟩=>⟨_,l,rfl,p'⟩,q⟩
 | false=>exact q
end L2
namespace L2
open PySem PySem.Spec PyProof.Rows
abbrev R2:=V→V→Hp→VK→Prop
def OpR (X:Cx) (f:Value→Value→Sem Value) (r:R2):Prop:=
 ∀ (pins:List (Addr×Obj)) (s:Shared) (σ:St) (H:Hp) (x y:V) (v u:Value) (Q:VK),Inv X pins σ H s→RelV x v→RelV y u→r x y H Q→
  wpAny (model X.prog X.w) X.A (f v u) (EP X pins σ Q) X.xe s
def YL (X:Cx) (f:Value→Sem Value) (r:V→Hp→VK→Prop):Prop:=
 ∀ (pins:List (Addr×Obj)) (s:Shared) (σ:St) (H:Hp) (x:V) (v:Value) (Q:VK),Inv X pins σ H s→RelV x v→r x H Q→
  wpAny (model X.prog X.w) X.A (f v) (EP X pins σ Q) X.xe s
def CallR (X:Cx) (f:Value) (r:List V→Hp→VK→Prop):Prop:=
 ∀ (pins:List (Addr×Obj)) (s:Shared) (σ:St) (H:Hp) (xs:List V) (us:List Value) (Q:VK),Inv X pins σ H s→Vals xs us→r xs H Q→
  wpAny (model X.prog X.w) X.A (call f us) (EP X pins σ Q) X.xe s
def Hf (r:R2) (ta tb:TE):TE:=fun σ H Q=>ta σ H fun x H1=>tb σ H1 fun y H2=>r x y H2 Q
def tUn (r:V→Hp→VK→Prop) (ta:TE):TE:=fun σ H Q=>ta σ H fun x H1=>r x H1 Q
def rI (C:Int→Int→Prop) (g:Int→Int→V):R2:=fun x y H Q=>∃ i j,x= .int i∧y= .int j∧C i j∧Q (g i j) H
def Hg (g:Int→Int→V):R2:=fun x y H Q=>∃ i j,x= .int i∧y= .int j∧Q (g i j) H
def rU (g:Int→V):V→Hp→VK→Prop:=fun x H Q=>∃ i,x= .int i∧Q (g i) H
section
variable {X:Cx} {a b c:Expr} {ta tb tc:TE} {pos:Pos}
theorem Ry (ha:PE X a ta) (hb:PE X b tb) {pins:List (Addr×Obj)} {s:Shared} {σ:St} {H:Hp} {R:V→V→Hp→Prop} (I:Inv X pins σ H s)
  (h:ta σ H fun x H1=>tb σ H1 fun y H2=>R x y H2) {Q:Value→Shared→Prop} {f:Value→Value→Sem Value}
  (hf:∀ v u s2 x y H2,Inv X pins σ H2 s2→RelV x v→RelV y u→R x y H2→wpAny (model X.prog X.w) X.A (f v u) Q X.xe s2):
  wpAny (model X.prog X.w) X.A (eval a X.env) (fun v s₁=>wpAny (model X.prog X.w) X.A (eval b X.env) (fun u s₂=>wpAny (model X.prog X.w) X.A (f v u) Q X.xe s₂) X.xe s₁) X.xe s:=by
 refine fJ (ha pins s σ H _ I h) fun v s1 qq0=>?_
 obtain ⟨x,H1,I1,r1,q1⟩:=qq0
 refine fJ (hb pins s1 σ H1 _ I1 q1) fun u s2 qq0=>?_
 obtain ⟨y,H2,I2,r2,q2⟩:=qq0
 exact hf v u s2 x y H2 I2 r1 r2 q2
theorem VD {op:Operator} {r:R2} (ho:OpR X (binaryOp op) r) (ha:PE X a ta) (hb:PE X b tb):PE X (.BinOp a op b pos) (Hf r ta tb):=by
 intro pins s σ H Q I h
 exact wpAny_BinOp (Ry ha hb I h fun v u s2 x y H2 I2 rx ry q=>ho pins s2 σ H2 x y v u Q I2 rx ry q)
theorem VF {op:UnaryOp} {r:V→Hp→VK→Prop} (ho:YL X (unaryOp op) r) (ha:PE X a ta):PE X (.UnaryOp op a pos) (tUn r ta):=by
 intro pins s σ H Q I h
 exact UnaryOp_ (fJ (ha pins s σ H _ I h) fun v s1 ⟨x,H1,I1,r1,q1⟩=>ho pins s1 σ H1 x v Q I1 r1 q1)
theorem VG {f:Value→Value→Sem Value} {C:Int→Int→Prop} {g:Int→Int→Int}
  (rule:∀ (i j:Int) (t u:Tok) (s:Shared) (Q:Value→Shared→Prop) (E:Value→Shared→Prop),C i j→Q (.int (g i j) s.toks) {s with toks:=s.toks+1}→wpAny (model X.prog X.w) X.A (f (.int i t) (.int j u)) Q E s):
  OpR X f (rI C fun i j=>.int (g i j)):=by
 intro pins s σ H x y v u Q I rx ry h
 obtain ⟨i,j,rfl,rfl,hc,q⟩:=h
 obtain ⟨t,rfl⟩:=rx
 obtain ⟨t',rfl⟩:=ry
 exact rule i j t t' s _ _ hc ⟨.int (g i j),H,I.tok _,⟨_,rfl⟩,q⟩
theorem Rz {f:Value→Value→Sem Value} {g:Int→Int→Int}
  (rule:∀ (i j:Int) (t u:Tok) (s:Shared) (Q:Value→Shared→Prop) (E:Value→Shared→Prop),Q (.int (g i j) s.toks) {s with toks:=s.toks+1}→wpAny (model X.prog X.w) X.A (f (.int i t) (.int j u)) Q E s):
  OpR X f (Hg fun i j=>.int (g i j)):=by
 intro pins s σ H x y v u Q I rx ry h
 obtain ⟨i,j,rfl,rfl,q⟩:=h
 obtain ⟨t,rfl⟩:=rx
 obtain ⟨t',rfl⟩:=ry
 exact rule i j t t' s _ _ ⟨.int (g i j),H,I.tok _,⟨_,rfl⟩,q⟩
theorem Ls {f:Value→Value→Sem Value} {g:Int→Int→Bool}
  (rule:∀ (i j:Int) (t u:Tok) (s:Shared) (Q:Value→Shared→Prop) (E:Value→Shared→Prop),Q (.bool (g i j)) s→wpAny (model X.prog X.w) X.A (f (.int i t) (.int j u)) Q E s):
  OpR X f (Hg fun i j=>.bl (g i j)):=by
 intro pins s σ H x y v u Q I rx ry h
 obtain ⟨i,j,rfl,rfl,q⟩:=h
 obtain ⟨t,rfl⟩:=rx
 obtain ⟨t',rfl⟩:=ry
 exact rule i j t t' s _ _ ⟨.bl (g i j),H,I,rfl,q⟩
def CDiv (i j:Int):Prop:=0 < j∧j < 1073741824
def CPow (i j:Int):Prop:=0≤j∧j≤1000000∧i.natAbs < 2 ^ 64
def CMul (i j:Int):Prop:=(-(2 ^ 64) < i∧i < 2 ^ 64)∨(-(2 ^ 64) < j∧j < 2 ^ 64)
theorem CMul.ok {i j:Int} (h:CMul i j):IntMulOk i j:=by
 rcases h with ⟨h1,h2⟩ | ⟨h1,h2⟩
 ·exact .of_left (intBits_le_64 h1 h2)
 ·exact .of_right (intBits_le_64 h1 h2)
theorem RB:OpR X (binaryOp .Add) (Hg fun i j=>.int (i+j)):=Rz fun _ _ _ _ _ _ _ q=>add_int q
theorem kW:OpR X (binaryOp .Sub) (Hg fun i j=>.int (i - j)):=Rz fun _ _ _ _ _ _ _ q=>sub_int q
theorem RC:OpR X (binaryOp .Mult) (rI CMul fun i j=>.int (i*j)):=VG fun _ _ _ _ _ _ _ hc q=>mul_int q hc.ok
theorem Ce:OpR X (binaryOp .FloorDiv) (rI CDiv fun i j=>.int (i / j)):=VG fun i j _ _ _ _ _ hc q=>by
 have h1:(0:Int) < j:=hc.1
 have h2:j < 1073741824:=hc.2
 exact floordiv_int (by omega) (by rw [Int.fdiv_eq_ediv_of_nonneg i (by omega)];exact q) (.inl (PyProof.noPylong_small (by omega)))
theorem mX:OpR X (binaryOp .Mod) (rI (fun _ j=>0 < j) fun i j=>.int (i % j)):=VG fun i j _ _ _ _ _ hc q=>by
 have h1:(0:Int) < j:=hc
 exact mod_int' (by omega) (by rw [Int.fmod_eq_emod_of_nonneg i (by omega)];exact q)
theorem RD:OpR X (binaryOp .Pow) (rI CPow fun i j=>.int (i ^ j.toNat)):=VG fun _ _ _ _ _ _ _ hc q=>pow_int_small hc.1 hc.2.1 hc.2.2 q
theorem Lw:OpR X (inplaceOp .Sub) (Hg fun i j=>.int (i - j)):=Rz fun _ _ _ _ _ _ _ q=>isub_int q
theorem unI {f:Value→Sem Value} {g:Int→Int}
  (rule:∀ (i:Int) (t:Tok) (s:Shared) (Q:Value→Shared→Prop) (E:Value→Shared→Prop),Q (.int (g i) s.toks) {s with toks:=s.toks+1}→wpAny (model X.prog X.w) X.A (f (.int i t)) Q E s):
  YL X f (rU fun i=>.int (g i)):=by
 intro pins s σ H x v Q I rx h
 obtain ⟨i,rfl,q⟩:=h
 obtain ⟨t,rfl⟩:=rx
 exact rule i t s _ _ ⟨.int (g i),H,I.tok _,⟨_,rfl⟩,q⟩
theorem RG:YL X (unaryOp .USub) (rU fun i=>.int (-i)):=unI fun _ _ _ _ _ q=>neg_int q
end
def VH:V→V→Bool
 | .non,.non=>true | .non,.int _=>true | .int _,.non=>true | .non,.bl _=>true | .bl _,.non=>true | .non,.str _=>true | .str _,.non=>true
 | .int _,.int _=>true | .bl _,.bl _=>true | .str _,.str _=>true | .byt _,.byt _=>true
 | .int _,.str _=>true | .str _,.int _=>true | .bl _,.str _=>true | .str _,.bl _=>true
 | _,_=>false
def rEq:R2:=fun x y H Q=>VH x y=true∧Q (.bl (decide (x=y))) H
def rNe:R2:=fun x y H Q=>VH x y=true∧Q (.bl (!decide (x=y))) H
theorem Cg {i j:Int}:decide (V.int i=V.int j)=(i == j):=by
 rw [Bool.eq_iff_iff]
 simp
theorem Hh {i j:Bool}:decide (V.bl i=V.bl j)=(i == j):=by
 rw [Bool.eq_iff_iff]
 simp
theorem Ci {i j:Str}:decide (V.str i=V.str j)=(i == j):=by
 rw [Bool.eq_iff_iff]
 simp
theorem Cj {i j:Array UInt8}:decide (V.byt i=V.byt j)=(i.toList == j.toList):=by
 rw [Bool.eq_iff_iff]
 cases i
 cases j
 simp
section
variable {X:Cx} {a b c:Expr} {ta tb tc:TE} {pos:Pos}
theorem bZ {pins:List (Addr×Obj)} {σ:St} {H:Hp} {s:Shared} {Q:VK} {k k':Bool} (I:Inv X pins σ H s) (q:Q (.bl k) H) (e:k=k'):EP X pins σ Q (.bool k') s:=by
 subst e
 exact ⟨.bl k,H,I,rfl,q⟩
theorem VJ:OpR X (compareOp .Eq) rEq:=by
 intro pins s σ H x y v u Q I rx ry h
 obtain ⟨hs,q⟩:=h
 cases x with
 | non=>
  cases rx
  cases y with
  | non=>cases ry;exact PySem.EqNone.eq_none_none (bZ I q (by simp))
  | bl j=>cases ry;exact PySem.EqNone.eq_none_bool (bZ I q (by simp))
  | int j=>obtain ⟨t',rfl⟩:=ry;exact PySem.EqNone.eq_none_int (bZ I q (by simp))
  | str j=>obtain ⟨t',rfl⟩:=ry;exact PySem.EqNone.eq_none_str (bZ I q (by simp))
  | _=>exact absurd (show false=true from hs) Bool.false_ne_true
 | bl i=>
  cases rx
  cases y with
  | non=>cases ry;exact PySem.EqNone.eq_bool_none (bZ I q (by simp))
  | bl j=>cases ry;exact eq_bool (bZ I q Hh)
  | str j=>obtain ⟨t',rfl⟩:=ry;exact PySem.EqMixed.eq_bool_str (bZ I q (by simp))
  | _=>exact absurd (show false=true from hs) Bool.false_ne_true
 | int i=>
  obtain ⟨t,rfl⟩:=rx
  cases y with
  | non=>cases ry;exact PySem.EqNone.eq_int_none (bZ I q (by simp))
  | int j=>obtain ⟨t',rfl⟩:=ry;exact eq_int (bZ I q Cg)
  | str j=>obtain ⟨t',rfl⟩:=ry;exact PySem.EqMixed.eq_int_str (bZ I q (by simp))
  | _=>exact absurd (show false=true from hs) Bool.false_ne_true
 | str i=>
  obtain ⟨t,rfl⟩:=rx
  cases y with
  | non=>cases ry;exact PySem.EqNone.eq_str_none (bZ I q (by simp))
  | bl j=>cases ry;exact PySem.EqMixed.eq_str_bool (bZ I q (by simp))
  | int j=>obtain ⟨t',rfl⟩:=ry;exact PySem.EqMixed.eq_str_int (bZ I q (by simp))
  | str j=>obtain ⟨t',rfl⟩:=ry;exact eq_str (bZ I q Ci)
  | _=>exact absurd (show false=true from hs) Bool.false_ne_true
 | byt i=>
  obtain ⟨t,rfl⟩:=rx
  cases y with
  | byt j=>obtain ⟨t',rfl⟩:=ry;exact PySem.W.eq_bytes (bZ I q Cj)
  | _=>exact absurd (show false=true from hs) Bool.false_ne_true
 | _=>cases y <;> exact absurd (show false=true from hs) Bool.false_ne_true
theorem VL:OpR X (compareOp .NotEq) rNe:=by
 intro pins s σ H x y v u Q I rx ry h
 obtain ⟨hs,q⟩:=h
 cases x with
 | non=>
  cases rx
  cases y with
  | non=>cases ry;exact PySem.EqNone.ne_none_none (bZ I q (by simp))
  | bl j=>cases ry;exact PySem.EqNone.ne_none_bool (bZ I q (by simp))
  | int j=>obtain ⟨t',rfl⟩:=ry;exact PySem.EqNone.ne_none_int (bZ I q (by simp))
  | str j=>obtain ⟨t',rfl⟩:=ry;exact PySem.EqNone.ne_none_str (bZ I q (by simp))
  | _=>exact absurd (show false=true from hs) Bool.false_ne_true
 | bl i=>
  cases rx
  cases y with
  | non=>cases ry;exact PySem.EqNone.ne_bool_none (bZ I q (by simp))
  | bl j=>cases ry;exact ne_bool (bZ I q (congrArg not Hh))
  | str j=>obtain ⟨t',rfl⟩:=ry;exact PySem.EqMixed.ne_bool_str (bZ I q (by simp))
  | _=>exact absurd (show false=true from hs) Bool.false_ne_true
 | int i=>
  obtain ⟨t,rfl⟩:=rx
  cases y with
  | non=>cases ry;exact PySem.EqNone.ne_int_none (bZ I q (by simp))
  | int j=>obtain ⟨t',rfl⟩:=ry;exact ne_int (bZ I q (congrArg not Cg))
  | str j=>obtain ⟨t',rfl⟩:=ry;exact PySem.EqMixed.ne_int_str (bZ I q (by simp))
  | _=>exact absurd (show false=true from hs) Bool.false_ne_true
 | str i=>
  obtain ⟨t,rfl⟩:=rx
  cases y with
  | non=>cases ry;exact PySem.EqNone.ne_str_none (bZ I q (by simp))
  | bl j=>cases ry;exact PySem.EqMixed.ne_str_bool (bZ I q (by simp))
  | int j=>obtain ⟨t',rfl⟩:=ry;exact PySem.EqMixed.ne_str_int (bZ I q (by simp))
  | str j=>obtain ⟨t',rfl⟩:=ry;exact ne_str (bZ I q (congrArg not Ci))
  | _=>exact absurd (show false=true from hs) Bool.false_ne_true
 | byt i=>
  obtain ⟨t,rfl⟩:=rx
  cases y with
  | byt j=>obtain ⟨t',rfl⟩:=ry;exact PySem.W.ne_bytes (bZ I q (congrArg not Cj))
  | _=>exact absurd (show false=true from hs) Bool.false_ne_true
 | _=>cases y <;> exact absurd (show false=true from hs) Bool.false_ne_true
theorem Hi:OpR X (compareOp .Lt) (Hg fun i j=>.bl (decide (i < j))):=Ls fun _ _ _ _ _ _ _ q=>lt_int q
theorem Ck:OpR X (compareOp .LtE) (Hg fun i j=>.bl (decide (i≤j))):=Ls fun _ _ _ _ _ _ _ q=>le_int q
theorem t7:OpR X (compareOp .Gt) (Hg fun i j=>.bl (decide (j < i))):=Ls fun _ _ _ _ _ _ _ q=>gt_int q
theorem VM:OpR X (compareOp .GtE) (Hg fun i j=>.bl (decide (j≤i))):=Ls fun _ _ _ _ _ _ _ q=>ge_int q
theorem DY:OpR X (compareOp .In) (fun x y H Q=>∃ i j,x= .str i∧y= .str j∧Q (.bl (!(Builtin.Str.occurrences j i 0 j.length 1).isEmpty)) H):=by
 intro pins s σ H x y v u Q I rx ry h
 obtain ⟨i,j,rfl,rfl,q⟩:=h
 obtain ⟨t,rfl⟩:=rx
 obtain ⟨t',rfl⟩:=ry
 exact in_str (bZ I q rfl)
theorem OpR.or {f:Value→Value→Sem Value} {r r':R2} (h:OpR X f r) (h':OpR X f r'):OpR X f (fun x y H Q=>r x y H Q∨r' x y H Q):=by
 intro pins s σ H x y v u Q I rx ry q
 rcases q with q | q
 ·exact h pins s σ H x y v u Q I rx ry q
 ·exact h' pins s σ H x y v u Q I rx ry q
theorem aV (b:Expr) {op:CmpOp} (h:autoParam (op≠.In) L2.auto2._auto_1) (h2:autoParam (op≠.NotIn) L2.auto2._auto_1):behindInMarks op b=false:=by
 have e1:(op == CmpOp.In)=false:=by cases op <;> first | rfl | exact absurd rfl h
 have e2:(op == CmpOp.NotIn)=false:=by cases op <;> first | rfl | exact absurd rfl h2
 cases b <;> simp [behindInMarks,e1,e2]
theorem Lx {op:CmpOp} {r:R2} (ho:OpR X (compareOp op) r) (ha:PE X a ta) (hb:PE X b tb) (hm:behindInMarks op b=false):PE X (.Compare a [op] [b] pos) (Hf r ta tb):=by
 intro pins s σ H Q I h
 exact wpAny_Compare1 (Ry ha hb I h fun v u s2 x y H2 I2 rx ry q=>ho pins s2 σ H2 x y v u Q I2 rx ry q) hm
def vD (t:TE):TT:=fun σ H Q=>t σ H fun x H'=>∃ k,x= .bl k∧Q k H'
theorem Ly {op:CmpOp} {r:R2} (ho:OpR X (compareOp op) r) (ha:PE X a ta) (hb:PE X b tb) (hm:behindInMarks op b=false):PT X (.Compare a [op] [b] pos) (vD (Hf r ta tb)):=by
 intro pins s σ H Q I h
 refine wpAny_isTrue_Compare1 (fJ (ha pins s σ H _ I h) fun v s1 ⟨x,H1,I1,r1,q1⟩=>fJ (hb pins s1 σ H1 _ I1 q1) fun u s2 ⟨y,H2,I2,r2,q2⟩=>
  fJ (ho pins s2 σ H2 x y v u _ I2 r1 r2 q2) fun c s3 ⟨z,H3,I3,r3,k,e,q3⟩=>?_) hm
 subst e
 cases r3
 exact wpAny_truthy_bool ⟨H3,I3,q3⟩
def t8 (r r':R2) (ta tb tc:TE):TE:=fun σ H Q=>ta σ H fun x H1=>tb σ H1 fun y H2=>r x y H2 fun z H3=>∃ k,z= .bl k∧
 (if k=true then tc σ H3 fun w' H4=>r' y w' H4 Q else Q (.bl false) H3)
theorem Hj {op op':CmpOp} {r r':R2} (ho:OpR X (compareOp op) r) (ho':OpR X (compareOp op') r') (ha:PE X a ta) (hb:PE X b tb) (hc:PE X c tc)
  (hm:autoParam (lastMarks [op,op'] [b,c]=false) L2.auto5._auto_1):PE X (.Compare a [op,op'] [b,c] pos) (t8 r r' ta tb tc):=by
 intro pins s σ H Q I h
 refine Compare_chain (fJ (ha pins s σ H _ I h) fun v s1 ⟨x,H1,I1,r1,q1⟩=>chain_link (fJ (hb pins s1 σ H1 _ I1 q1) fun u s2 ⟨y,H2,I2,r2,q2⟩=>
  fJ (ho pins s2 σ H2 x y v u _ I2 r1 r2 q2) fun d s3 ⟨z,H3,I3,r3,k,e,q3⟩=>?_)) hm
 subst e
 cases r3
 refine wpAny_truthy_bool ?_
 cases k with
 | false=>exact ite_ff ⟨.bl false,H3,I3,rfl,q3⟩
 | true=>exact ite_tt (chain_last (fJ (hc pins s3 σ H3 _ I3 q3) fun w' s4 ⟨z',H4,I4,r4,q4⟩=>ho' pins s4 σ H4 y z' u w' Q I4 r2 r4 q4))
theorem Hk {op op':CmpOp} {r r':R2} (ho:OpR X (compareOp op) r) (ho':OpR X (compareOp op') r') (ha:PE X a ta) (hb:PE X b tb) (hc:PE X c tc)
  (hm:autoParam (lastMarks [op,op'] [b,c]=false) L2.auto5._auto_1):PT X (.Compare a [op,op'] [b,c] pos) (vD (t8 r r' ta tb tc)):=by
 intro pins s σ H Q I h
 refine isTrue_chain (fJ (ha pins s σ H _ I h) fun v s1 ⟨x,H1,I1,r1,q1⟩=>test_link (fJ (hb pins s1 σ H1 _ I1 q1) fun u s2 ⟨y,H2,I2,r2,q2⟩=>
  fJ (ho pins s2 σ H2 x y v u _ I2 r1 r2 q2) fun d s3 ⟨z,H3,I3,r3,k,e,q3⟩=>?_)) hm
 subst e
 cases r3
 refine wpAny_truthy_bool ?_
 cases k with
 | false=>
  obtain ⟨k',e',q'⟩:=q3
  cases e'
  exact ite_ff ⟨H3,I3,q'⟩
 | true=>
  refine ite_tt (test_last (fJ (hc pins s3 σ H3 _ I3 q3) fun w' s4 ⟨z',H4,I4,r4,q4⟩=>fJ (ho' pins s4 σ H4 y z' u w' _ I4 r2 r4 q4) fun d' s5 qq0=>?_))
  obtain ⟨z2,H5,I5,r5,k2,e2,q5⟩:=qq0
  subst e2
  cases r5
  exact wpAny_truthy_bool ⟨H5,I5,q5⟩
theorem ue:(sizeLine:Nat) < 2 ^ 63:=by rw [sizeLine_eq];decide
theorem Ag:OpR X (binaryOp .Add) (fun x y H Q=>∃ i j,x= .str i∧y= .str j∧i.length+j.length≤sizeLine∧Q (.str (i ++ j)) H):=by
 intro pins s σ H x y v u Q I rx ry h
 obtain ⟨i,j,rfl,rfl,hz,q⟩:=h
 obtain ⟨t,rfl⟩:=rx
 obtain ⟨t',rfl⟩:=ry
 exact add_str (fun t' tk=>⟨.str (i ++ j),H,I.tok _,⟨_,rfl⟩,q⟩) hz
theorem vals1 {x:V} {us:List Value} (r:Vals [x] us):∃ u,us=[u]∧RelV x u:=by
 cases r with
 | cons r1 r2=>cases r2;exact ⟨_,rfl,r1⟩
theorem vals2 {x y:V} {us:List Value} (r:Vals [x,y] us):∃ u w',us=[u,w']∧RelV x u∧RelV y w':=by
 cases r with
 | cons r1 r2=>
  cases r2 with
  | cons r3 r4=>cases r4;exact ⟨_,_,rfl,r1,r3⟩
theorem vG (hc:X.calm=true):CallR X (.builtin "max") (fun xs H Q=>∃ i j,xs=[.int i,.int j]∧Q (.int (if j > i then j else i)) H):=by
 intro pins s σ H xs us Q I r h
 obtain ⟨i,j,rfl,q⟩:=h
 obtain ⟨u,w',rfl,⟨t,rfl⟩,⟨t',rfl⟩⟩:=vals2 r
 refine max_two_ints (I.ok.hd hc) fun h' tk k=>⟨_,H,I.kept k,?_,q⟩
 by_cases hj:j > i
 ·rw [if_pos hj,if_pos hj];exact ⟨_,rfl⟩
 ·rw [if_neg hj,if_neg hj];exact ⟨_,rfl⟩
theorem vH (hc:X.calm=true):CallR X (.builtin "min") (fun xs H Q=>∃ i j,xs=[.int i,.int j]∧Q (.int (if j < i then j else i)) H):=by
 intro pins s σ H xs us Q I r h
 obtain ⟨i,j,rfl,q⟩:=h
 obtain ⟨u,w',rfl,⟨t,rfl⟩,⟨t',rfl⟩⟩:=vals2 r
 refine min_two_ints (I.ok.hd hc) fun h' tk k=>⟨_,H,I.kept k,?_,q⟩
 by_cases hj:j < i
 ·rw [if_pos hj,if_pos hj];exact ⟨_,rfl⟩
 ·rw [if_neg hj,if_neg hj];exact ⟨_,rfl⟩
theorem Ea:CallR X (.type "int") (fun xs H Q=>(∃ i,xs=[.int i]∧Q (.int i) H)∨∃ k,xs=[.bl k]∧Q (.int (if k then 1 else 0)) H):=by
 intro pins s σ H xs us Q I r h
 rcases h with ⟨i,rfl,q⟩ | ⟨k,rfl,q⟩
 ·obtain ⟨u,rfl,t,rfl⟩:=vals1 r
  exact call_int_int ⟨.int i,H,I,⟨_,rfl⟩,q⟩
 ·obtain ⟨u,rfl,r1⟩:=vals1 r
  cases r1
  exact call_int_bool ⟨.int (if k then 1 else 0),H,I.tok _,⟨_,rfl⟩,q⟩
def VN (K:PySem.W.Frag) (x:V) (H:Hp) (n:Nat):Prop:=
 match x with
 | .str y=>y.length≤sizeLine∧n=y.length
 | .byt y=>y.size≤sizeLine∧n=y.size
 | .ref p=>(∃ xs,SqL K H p xs∧n=xs.length)∨∃ xs,SqT K H p xs∧n=xs.length
 | _=>False
theorem Hl:CallR X (.builtin "len") (fun xs H Q=>∃ x n,xs=[x]∧VN X.K x H n∧Q (.int n) H):=by
 intro pins s σ H xs us Q I r h
 obtain ⟨x,n,rfl,e,q⟩:=h
 obtain ⟨u,rfl,rx⟩:=vals1 r
 have hl:=ue
 have hs:sizeLine=16777216:=sizeLine_eq
 cases x with
 | str y=>
  obtain ⟨t,rfl⟩:=rx
  obtain ⟨hy,e'⟩:y.length≤sizeLine∧n=y.length:=e
  subst e'
  exact len_str (by omega) ⟨.int _,H,I.tok _,⟨_,rfl⟩,q⟩
 | byt y=>
  obtain ⟨t,rfl⟩:=rx
  obtain ⟨hy,e'⟩:y.size≤sizeLine∧n=y.size:=e
  subst e'
  exact PySem.W.len_bytes (by omega) ⟨.int _,H,I.tok _,⟨_,rfl⟩,q⟩
 | ref p=>
  cases rx
  have e':(∃ xs,SqL X.K H p xs∧n=xs.length)∨∃ xs,SqT X.K H p xs∧n=xs.length:=e
  rcases e' with ⟨xs,hx,e'⟩ | ⟨xs,hx,e'⟩
  ·subst e'
   obtain ⟨its,r',pl,hz⟩:=I.list hx
   have hlen:=r'.length
   exact Calls.call_len_list pl.isList (by simp only [List.size_toArray];omega) ⟨.int xs.length,H,I.tok _,⟨_,by simp only [List.size_toArray];rw [hlen]⟩,q⟩
  ·subst e'
   obtain ⟨its,r',pl,hz⟩:=I.tuple hx
   have hlen:=r'.length
   exact len_tuple pl (by simp only [List.size_toArray];omega) ⟨.int xs.length,H,I.tok _,⟨_,by simp only [List.size_toArray];rw [hlen]⟩,q⟩
 | _=>exact (show False from e).elim
end
end L2
namespace L2
open PySem PySem.Spec PyProof.Rows
structure ObjM (h:Heap) (x dx C:Addr) (mA:Str→Option Value):Prop where
 obj:h.get? x=some (PySem.W.instObj C dx)
 ns:h.Ns1 dx mA
 ne:dx≠x
theorem vI {h:Heap} {dx:Addr} {mA:Str→Option Value} (n:h.Ns1 dx mA):∃ od,h.get? dx=some od∧∀ name,PySem.W.lookIn name od=some (mA name):=by
 obtain ⟨o,es,ep,ho,hd,hk,_,hm⟩:=n
 refine ⟨o,ho,fun name=>?_⟩
 have e:=hm name
 unfold nsFind findBy at e
 rw [← Array.find?_toList] at e
 unfold PySem.W.lookIn
 rw [hd]
 dsimp only
 split
 ·rename_i y q
  rw [q] at e
  exact congrArg some e
 ·rename_i q
  rw [q] at e
  have a:es.toList.any (·.refKey)=false:=by
   rw [List.any_eq_false]
   intro y hy
   obtain ⟨z,t,hkey⟩:=hk y (Array.mem_toList_iff.mp hy)
   simp [DictEntry.refKey,hkey]
  have a':¬ es.toList.any (·.refKey)=true:=by rw [a];exact Bool.false_ne_true
  rw [if_neg a']
  exact congrArg some e
theorem ObjM.look {h:Heap} {x dx C:Addr} {mA:Str→Option Value} (I:ObjM h x dx C mA):∃ od,PySem.W.InstAt h x (PySem.W.instObj C dx) C (some od)∧∀ name,PySem.W.lookIn name od=some (mA name):=
 let ⟨od,ho,hl⟩:=vI I.ns
 ⟨od,⟨I.obj,rfl,rfl,ho⟩,hl⟩
section
variable {prog:Program} {w:World} {A:Around} {E:Value→Shared→Prop} {s:Shared} {K:PySem.W.Frag} {x dx C f:Addr} {mA:Str→Option Value} {name:Str} {v:Value}
theorem Lz {expr:Bool} {Q:Value→Shared→Prop} (X:K.In s.heap) (I:ObjM s.heap x dx C mA) (hg:PySem.W.plainGet K C name=true) (hh:PySem.W.hasDictIn K C=true)
  (ha:PySem.W.findIn K (.ref C) name=some none) (hv:mA name=some v) (hv':PySem.W.handedIn v=true) (h:Q v {s with toks:=s.toks+1}):
  wpAny (model prog w) A (getAttr (.ref x) name expr) Q E s:=by
 obtain ⟨od,J,hl⟩:=I.look
 exact PySem.W.get_value X J (PySem.W.plainGet_of hg).1 (PySem.W.findObj_own hh ha rfl (by rw [hl,hv])) hv' h
theorem Hm {pl:Sem Bool} {Q:Value×List Value→Shared→Prop} (X:K.In s.heap) (I:ObjM s.heap x dx C mA) (hg:PySem.W.plainGet K C name=true)
  (hf:PySem.W.findIn K (.ref C) name=some (some (.ref f))) (ht:PySem.W.isFn K (.ref f)=true) (hv:mA name=none) (h:Q (.ref f,[.ref x]) s):
  wpAny (model prog w) A (getMethod (.ref x) name pl) Q E s:=by
 obtain ⟨od,J,hl⟩:=I.look
 exact PySem.W.method_fn X J (PySem.W.plainGet_of hg).1 (PySem.W.plainGet_of hg).2 hf (beq_iff_eq.mp ht) (by show (PySem.W.lookIn name od).map (·.isSome)=some false;rw [hl,hv];rfl) h
theorem LC {ns:List Str} {Q:Unit→Shared→Prop} (X:K.In s.heap) (I:ObjM s.heap x dx C mA)
  (hs:PySem.W.findIn K (.ref C) "__setattr__"=some (some (.builtin "object.__setattr__"))) (hp:PySem.W.plainOver K C=true) (ht:PySem.W.takerIn K C name=some none) (hh:PySem.W.hasDictIn K C=true)
  (hw:PySem.Within mA ns) (hsz:ns.length≤sizeLine)
  (h:∀ h',ObjM h' x dx C (fun y=>if y=name then some v else mA y)→Heap.SameBut dx s.heap h'→Q () {s with heap:=h',toks:=s.toks+2}):
  wpAny (model prog w) A (setAttr (.ref x) name v) Q E s:=by
 obtain ⟨od,J,hl⟩:=I.look
 refine PySem.W.set_plain X J hs (PySem.W.osa_open (s:={s with toks:=s.toks+1}) (r:=none) X J hp ht fun b=>?_)
 obtain ⟨cd,hc,hd'⟩:=PySem.W.any_some hh
 have hx:s.heap.get? x=some ⟨.ref C,some dx,.plain,#[]⟩:=I.obj
 refine wpAny_bind (wpAny_pure (wpAny_bind (wpAny_bind (wpAny_loadPart hx (wpAny_bind (PySem.W.Looks.here (s:={s with toks:=s.toks+1}) (PySem.W.looks_clsIn X hc) ?_))))))
 rw [hd']
 refine wpAny_pure (a:=some dx) (wpAny_bind (wpAny_pure (wpAny_bind ?_)))
 refine wpAny_nsSet1 (s:={s with toks:=s.toks+1}) I.ns fun h' hn2 hs2=>?_
 obtain ⟨oD,esD,epD,hoD,hdD,hcD⟩:=hn2.count (PySem.Within.cons name v hw)
 refine wpAny_bind (wpAny_lookBehind hoD (by rw [hdD];exact pastItsLine_dict (Nat.le_trans hcD (by rw [List.length_cons];omega))) ?_)
 exact wpAny_pure (h _ ⟨(hs2.2 _ (Ne.symm I.ne)).trans I.obj,hn2,I.ne⟩ hs2)
theorem Hn {R:Result→Shared→Prop} {vs:List Value} {kw:List (Str×Value)} (X:K.In s.heap) (hm:PySem.W.makesIn K C=true)
  (hi:PySem.W.findIn K (.ref C) "__init__"=some (some (.ref f))) (hf:PySem.W.typeIn K (.ref f)=some (.type "function"))
  (h:codeAny (model prog w) (A.under (.builtin "type.__call__" ⟨.ref C :: vs,kw⟩)) (.call (.ref f) ⟨.ref (s.heap.objs.size+1) :: vs,kw⟩) (PySem.W.InitBack (s.heap.objs.size+1) R)
   {s with heap:=(s.heap.push PySem.W.emptyDict).push (PySem.W.instObj C s.heap.objs.size)}):
  codeAny (model prog w) A (.call (.ref C) ⟨vs,kw⟩) R s:=by
 obtain ⟨hh,g,d,t,os⟩:=s
 exact PySem.W.make_core (PySem.W.makes_of X hm) (PySem.W.looks_findIn X hi) (fun self=>PySem.W.bind_fn X self hf) (.inl rfl) h
end
def lE (f:Str) (v:V):List (Str×V)→List (Str×V)
 | []=>[(f,v)]
 | (g,x) :: r=>if g=f then (g,v) :: r else (g,x) :: lE f v r
theorem oA (f g:Str) (v:V):∀ fs:List (Str×V),(lE f v fs).lookup g=if g=f then some v else fs.lookup g
 | []=>by
  show List.lookup g [(f,v)]=_
  by_cases h:g=f
  ·have hb:(g == f)=true:=beq_iff_eq.mpr h
   simp only [List.lookup,hb,if_pos h]
  ·have hb:(g == f)=false:=beq_eq_false_iff_ne.mpr h
   simp only [List.lookup,hb,if_neg h]
 | (k,x) :: r=>by
  have ih:=oA f g v r
  rw [show lE f v ((k,x) :: r)=(if k=f then (k,v) :: r else (k,x) :: lE f v r) from rfl]
  by_cases hk:k=f
  ·rw [if_pos hk]
   by_cases h:g=k
   ·have hb:(g == k)=true:=beq_iff_eq.mpr h
    simp only [List.lookup,hb,if_pos (h.trans hk)]
   ·have hb:(g == k)=false:=beq_eq_false_iff_ne.mpr h
    simp only [List.lookup,hb,if_neg (fun e:g=f=>h (e.trans hk.symm))]
  ·rw [if_neg hk]
   by_cases h:g=k
   ·have hb:(g == k)=true:=beq_iff_eq.mpr h
    simp only [List.lookup,hb,if_neg (fun e:g=f=>hk (h.symm.trans e))]
   ·have hb:(g == k)=false:=beq_eq_false_iff_ne.mpr h
    simp only [List.lookup,hb]
    exact ih
theorem qY (f:Str) (v:V):∀ fs:List (Str×V),f∈(lE f v fs).map (·.1)∧∀ g,g∈fs.map (·.1)→g∈(lE f v fs).map (·.1)
 | []=>⟨by simp [lE],fun g h=>by simp at h⟩
 | (k,x) :: r=>by
  obtain ⟨i1,i2⟩:=qY f v r
  rw [show lE f v ((k,x) :: r)=(if k=f then (k,v) :: r else (k,x) :: lE f v r) from rfl]
  by_cases hk:k=f
  ·rw [if_pos hk]
   subst hk
   exact ⟨by simp,fun g h=>by simpa using h⟩
  ·rw [if_neg hk]
   refine ⟨?_,fun g h=>?_⟩
   ·rw [List.map_cons]
    exact List.mem_cons_of_mem _ i1
   ·rw [List.map_cons] at h ⊢
    rcases List.mem_cons.mp h with e | e
    ·exact List.mem_cons.mpr (.inl e)
    ·exact List.mem_cons_of_mem _ (i2 g e)
theorem rR (f:Str) (v:V):∀ fs:List (Str×V),(lE f v fs).length≤fs.length+1
 | []=>by simp [lE]
 | (k,x) :: r=>by
  have ih:=rR f v r
  rw [show lE f v ((k,x) :: r)=(if k=f then (k,v) :: r else (k,x) :: lE f v r) from rfl]
  by_cases hk:k=f
  ·rw [if_pos hk,List.length_cons,List.length_cons];omega
  ·rw [if_neg hk,List.length_cons,List.length_cons];omega
theorem RelO.some_of {v:V} {o:Option Value} (r:RelO (some v) o):∃ u,o=some u∧RelV v u:=by
 cases o with
 | none=>exact (show False from r).elim
 | some u=>exact ⟨u,rfl,r⟩
theorem RelO.none_of {o:Option Value} (r:RelO none o):o=none:=by
 cases o with
 | none=>rfl
 | some u=>exact (show False from r).elim
theorem Eb {v:V} {u:Value} (r:RelV v u):PySem.W.handedIn u=true:=by
 cases v with
 | non=>cases (show u=Value.none from r);rfl
 | bl b=>cases (show u=Value.bool b from r);rfl
 | int i=>obtain ⟨t,e⟩:=(show ∃ t,u=Value.int i t from r);cases e;rfl
 | str x=>obtain ⟨t,e⟩:=(show ∃ t,u=Value.str x t from r);cases e;rfl
 | byt b=>obtain ⟨t,e⟩:=(show ∃ t,u=Value.bytes b t from r);cases e;rfl
 | flt b=>obtain ⟨t,e⟩:=(show ∃ t,u=Value.float b t from r);cases e;rfl
 | ref a=>cases (show u=Value.ref a from r);rfl
 | ty n=>cases (show u=Value.type n from r);rfl
section
variable {P:Program} {w:World} {H H':Hp} {h h':Heap} {a C dx:Addr} {fs fs':List (Str×V)}
theorem qp (hok:HOk P w H h) (e:H a=some (.ins C dx fs)):∃ mA,ObjM h a dx C mA∧(∀ f,RelO (fs.lookup f) (mA f))∧PySem.Within mA (fs.map (·.1))∧fs.length≤1000∧H dx=some (.own a):=by
 obtain ⟨d,z,ne,ob,mA,n,r,q⟩:=(show ObjOk P w H h a (.ins C dx fs) from hok a _ e)
 exact ⟨mA,⟨ob,n,ne⟩,r,q,z,d⟩
end
structure Cls (K:PySem.W.Frag) (C:Addr):Prop where
 pg:PySem.W.plainGet K C Str.empty=true
 hd:PySem.W.hasDictIn K C=true
 po:PySem.W.plainOver K C=true
 sa:PySem.W.findIn K (.ref C) "__setattr__"=some (some (.builtin "object.__setattr__"))
theorem Cls.get {K:PySem.W.Frag} {C:Addr} (c:Cls K C) (f:Str):PySem.W.plainGet K C f=true:=c.pg
def NoAttr (K:PySem.W.Frag) (C:Addr) (f:Str):Prop:=PySem.W.findIn K (.ref C) f=some none
theorem NoAttr.taker {K:PySem.W.Frag} {C:Addr} {f:Str} (n:NoAttr K C f):PySem.W.takerIn K C f=some none:=by
 unfold PySem.W.takerIn
 rw [show PySem.W.findIn K (.ref C) f=some none from n]
 rfl
structure Con (K:PySem.W.Frag) (C:Addr) (f:Str) (v:V) (u:Value):Prop where
 at_:PySem.W.findIn K (.ref C) f=some (some u)
 rel:RelV v u
 get:PySem.W.specialIn K u "__get__"=some none
 cp:PySem.W.copiedNames.contains f=false
structure Meth (K:PySem.W.Frag) (C:Addr) (m:Str) (f:Addr):Prop where
 at_:PySem.W.findIn K (.ref C) m=some (some (.ref f))
 fn:PySem.W.isFn K (.ref f)=true
 kp:PySem.W.keepIn K (.ref f)=true
section
variable {X:Cx} {pins:List (Addr×Obj)} {σ:St} {H:Hp} {s:Shared} {a C dx:Addr} {fs:List (Str×V)} {f:Str} {v:V} {A:Around} {E:Value→Shared→Prop}
theorem Ah {b:Bool} {Q:Value→Shared→Prop} (I:Inv X pins σ H s) (e:H a=some (.ins C dx fs)) (c:Cls X.K C) (n:NoAttr X.K C f) (l:fs.lookup f=some v)
  (h:∀ u s',Inv X pins σ H s'→RelV v u→Q u s'):wpAny (model X.prog X.w) A (getAttr (.ref a) f b) Q E s:=by
 obtain ⟨mA,O,r,_,_,_⟩:=qp I.hok e
 obtain ⟨u,hu,ru⟩:=RelO.some_of (v:=v) (o:=mA f) (by rw [← l];exact r f)
 exact Lz I.kIn O (c.get f) c.hd n hu (Eb ru) (h u _ (I.tok _) ru)
theorem Ai {m:Str} {g:Addr} {pl:Sem Bool} {Q:Value×List Value→Shared→Prop} (I:Inv X pins σ H s) (e:H a=some (.ins C dx fs)) (c:Cls X.K C) (k:Meth X.K C m g) (l:fs.lookup m=none)
  (h:Q (.ref g,[.ref a]) s):wpAny (model X.prog X.w) A (getMethod (.ref a) m pl) Q E s:=by
 obtain ⟨mA,O,r,_,_,_⟩:=qp I.hok e
 have hn:mA m=none:=RelO.none_of (by rw [← l];exact r m)
 exact Hm I.kIn O (c.get m) k.at_ k.fn hn h
theorem Aj {y:V} {u:Value} {Q:Unit→Shared→Prop} (I:Inv X pins σ H s) (e:H a=some (.ins C dx fs)) (c:Cls X.K C) (n:NoAttr X.K C f) (hl:fs.length < 1000) (ry:RelV y u)
  (h:∀ s',Inv X pins σ (upd H a (.ins C dx (lE f y fs))) s'→Q () s'):wpAny (model X.prog X.w) A (setAttr (.ref a) f u) Q E s:=by
 obtain ⟨mA,O,r,wi,_,ho⟩:=qp I.hok e
 have hz:(fs.map (·.1)).length≤sizeLine:=by rw [List.length_map,sizeLine_eq];omega
 refine LC I.kIn O c.sa c.po n.taker c.hd wi hz fun h' O' sb=>h _ ?_
 have hd:∃ o,h'.get? dx=some o:=let ⟨o,_,_,e',_⟩:=O'.ns;⟨o,e'⟩
 refine I.write (x:=a) (e:=dx) (by rw [e];exact True.intro) (.inr ho) (fun b q hb z=>(sb.2 b hb).trans z) hd ?_
 refine ⟨by rw [aB O.ne];exact ho,?_,O.ne,O'.obj,_,O'.ns,fun g=>?_,fun g hg=>?_⟩
 ·have:=rR f y fs;omega
 ·show RelO ((lE f y fs).lookup g) (if g=f then some u else mA g)
  rw [oA]
  by_cases q:g=f
  ·rw [if_pos q,if_pos q];exact ry
  ·rw [if_neg q,if_neg q];exact r g
 ·by_cases q:g=f
  ·rw [q];exact (qY f y fs).1
  ·refine (qY f y fs).2 g (wi g fun z=>hg ?_)
   show (if g=f then some u else mA g)=none
   rw [if_neg q];exact z
theorem Inv.made (I:Inv X pins σ H s):Inv X pins σ (upd (upd H s.heap.objs.size (.own (s.heap.objs.size+1))) (s.heap.objs.size+1) (.ins C s.heap.objs.size []))
  {s with heap:=(s.heap.push PySem.W.emptyDict).push (PySem.W.instObj C s.heap.objs.size)}:=by
 have e1:(s.heap.push PySem.W.emptyDict).get? s.heap.objs.size=some PySem.W.emptyDict:=Heap.get?_push_size s.heap rfl
 have e2:((s.heap.push PySem.W.emptyDict).push (PySem.W.instObj C s.heap.objs.size)).get? (s.heap.objs.size+1)=some (PySem.W.instObj C s.heap.objs.size):=by
  have:=Heap.get?_push_size (s.heap.push PySem.W.emptyDict) (o:=PySem.W.instObj C s.heap.objs.size) rfl
  rwa [Heap.size_push] at this
 have e3:(s.heap.push PySem.W.emptyDict).Ns s.heap.objs.size (fun _=>none):=⟨PySem.W.emptyDict,#[],_,e1,rfl,(fun e he=>absurd he (by simp)),fun _=>rfl⟩
 have I1:=I.laid (a:=s.heap.objs.size) (o:=.own (s.heap.objs.size+1)) (h':=s.heap.push PySem.W.emptyDict) (t':=s.toks) (fun b u q=>Heap.get?_push_of_some _ q) (Nat.le_refl _) ⟨_,e1⟩
 refine I1.laid (a:=s.heap.objs.size+1) (o:=.ins C s.heap.objs.size []) (t':=s.toks) (fun b u q=>Heap.get?_push_of_some _ q) (Nat.le_of_eq (Heap.size_push _ _)) ?_
 have ne:s.heap.objs.size≠s.heap.objs.size+1:=Nat.ne_of_lt (Nat.lt_succ_self _)
 refine ⟨by rw [aB ne,aj],Nat.zero_le _,ne,e2,fun _=>none,(Heap.Ns1.of_empty e3).at fun o q=>Heap.get?_push_of_some _ q,fun _=>True.intro,fun y hy=>absurd rfl hy⟩
theorem LK {prog:Program} {w:World} {env:Env} {e:Expr} {f:Str} {pos:Pos} {s:Shared} {Q:Value→Shared→Prop} (hb:attributeBase e f env (eval e env)=eval e env)
  (h:wpAny (model prog w) A (eval e env) (fun o s₁=>wpAny (model prog w) A (getAttr o f true) Q E s₁) E s):wpAny (model prog w) A (eval (.Attribute e f pos) env) Q E s:=
 Attribute_any_ h (by rw [arm_eval_Attribute,hb])
end
def RJ (K:PySem.W.Frag) (ta:TE) (f:Str):TE:=fun σ H Q=>ta σ H fun x H1=>∃ a C dx fs v,x= .ref a∧H1 a=some (.ins C dx fs)∧Cls K C∧NoAttr K C f∧fs.lookup f=some v∧Q v H1
def RK (K:PySem.W.Frag) (ta tv:TE) (f:Str):TS:=fun D σ H=>tv σ H fun y H1=>ta σ H1 fun x H2=>∃ a C dx fs,x= .ref a∧H2 a=some (.ins C dx fs)∧Cls K C∧NoAttr K C f∧fs.length < 1000∧
 D.nx σ (upd H2 a (.ins C dx (lE f y fs)))
section
variable {X:Cx} {o e value:Expr} {f:Str} {pos pos' tpos:Pos} {ta tv:TE}
theorem RL (he:PE X e ta) (hb:attributeBase e f X.env (eval e X.env)=eval e X.env):PE X (.Attribute e f pos) (RJ X.K ta f):=by
 intro pins s σ H Q I h
 refine LK hb (fJ (he pins s σ H _ I h) fun u s1 qq0=>?_)
 obtain ⟨x,H1,I1,rx,a,C,dx,fs,v,ex,ea,c,n,l,q⟩:=qq0
 subst ex
 obtain rfl:u=Value.ref a:=rx
 exact Ah I1 ea c n l fun u' s2 I2 ru=>⟨v,H1,I2,ru,q⟩
theorem RM (ha:PE X o ta) (hv:PE X value tv) (hs:swapsWith value (some (.Attribute o f pos')) pos.line X.env=pure false):PS X (.Assign [.Attribute o f pos'] value pos) (RK X.K ta tv f):=by
 intro pins s σ H D I h
 refine plainObj_wpAny_Assign_Attribute (fJ (hv pins s σ H _ I h) fun u s1 ⟨y,H1,I1,ry,q⟩=>fJ (ha pins s1 σ H1 _ I1 q) fun ov s2 qq0=>?_) hs
 obtain ⟨x,H2,I2,rx,a,C,dx,fs,ex,ea,c,n,l,q2⟩:=qq0
 subst ex
 obtain rfl:ov=Value.ref a:=rx
 exact Aj I2 ea c n l ry fun s3 I3=>⟨σ,_,I3,q2⟩
end
section
variable {X:Cx} {pins:List (Addr×Obj)} {σ:St} {H:Hp} {s:Shared} {A:Around} {E:Value→Shared→Prop} {Q:Value→Shared→Prop} {c:Value} {b:Bool}
inductive TyOf (K:PySem.W.Frag) (H:Hp):V→Value→Prop where
 | non:TyOf K H .non (.type "NoneType")
 | bl (x:Bool):TyOf K H (.bl x) (.type "bool")
 | int (i:Int):TyOf K H (.int i) (.type "int")
 | str (x:Str):TyOf K H (.str x) (.type "str")
 | flt (x:UInt64):TyOf K H (.flt x) (.type "float")
 | lst {a:Addr} {xs:List V} (e:H a=some (.lst xs)):TyOf K H (.ref a) (.type "list")
 | frz {a:Addr} {o:Obj} {xs:List V} (e:H a=some (.frz o (.lst xs))):TyOf K H (.ref a) (.type "list")
 | tup {a:Addr} {xs:List V} (e:H a=some (.tup xs)):TyOf K H (.ref a) (.type "tuple")
 | dK {a:Addr} {kvs:List (Key×V)} (e:H a=some (.dK kvs)):TyOf K H (.ref a) (.type "dict")
 | dT {a:Addr} {kvs:List (List Key×V)} (e:H a=some (.dT kvs)):TyOf K H (.ref a) (.type "dict")
 | ins {a C dx:Addr} {fs:List (Str×V)} (e:H a=some (.ins C dx fs)) (cl:Cls K C) (ha:PySem.W.findIn K (.ref C) "__class__"=some (some (.builtin "object.__class__")))
   (hn:PySem.W.specialIn K (.builtin "object.__class__") "__get__"=some (some (.builtin "getset_descriptor.__get__"))) (htk:PySem.W.takesIn K (.builtin "object.__class__")=some true)
   (hm:PySem.W.mroIn K C (.type "object")=some true):TyOf K H (.ref a) (.ref C)
theorem Ec {x:V} {u t:Value} (I:Inv X pins σ H s) (rx:RelV x u) (ty:TyOf X.K H x t) (e:PySem.W.kitOne X.K t c=some b) (h:∀ tk,Q (.bool b) {s with toks:=tk}):
  wpAny (model X.prog X.w) A (call (.builtin "isinstance") [u,c]) Q E s:=by
 cases ty with
 | non=>cases (show u=Value.none from rx);exact PySem.W.kia_one PySem.W.kitx_none I.kIn True.intro e (fun z=>nomatch z) h
 | bl y=>cases (show u=Value.bool y from rx);exact PySem.W.kia_one PySem.W.kitx_bool I.kIn True.intro e (fun z=>nomatch z) h
 | int i=>obtain ⟨t,q⟩:=(show ∃ t,u=Value.int i t from rx);cases q;exact PySem.W.kia_one PySem.W.kitx_int I.kIn True.intro e (fun z=>nomatch z) h
 | str y=>obtain ⟨t,q⟩:=(show ∃ t,u=Value.str y t from rx);cases q;exact PySem.W.kia_one PySem.W.kitx_str I.kIn True.intro e (fun z=>nomatch z) h
 | flt y=>obtain ⟨t,q⟩:=(show ∃ t,u=Value.float y t from rx);cases q;exact PySem.W.kia_one PySem.W.kitx_float I.kIn True.intro e (fun z=>nomatch z) h
 | @lst a xs ea=>
  cases (show u=Value.ref a from rx)
  obtain ⟨_,_,n,_,h1⟩:=(show ObjOk X.prog X.w H s.heap a (.lst xs) from I.hok a _ ea)
  exact PySem.W.kia_one PySem.W.kitx_list I.kIn ⟨_,h1,rfl⟩ e (fun z=>nomatch z) h
 | @frz a ob xs ea=>
  cases (show u=Value.ref a from rx)
  obtain ⟨_,_,_,n,_,h1⟩:=(show ObjOk X.prog X.w H s.heap a (.frz ob (.lst xs)) from I.hok a _ ea)
  exact PySem.W.kia_one PySem.W.kitx_list I.kIn ⟨_,h1,rfl⟩ e (fun z=>nomatch z) h
 | @tup a xs ea=>
  cases (show u=Value.ref a from rx)
  obtain ⟨_,_,_,p⟩:=(show ObjOk X.prog X.w H s.heap a (.tup xs) from I.hok a _ ea)
  obtain ⟨o,h1,h2,_⟩:=p
  exact PySem.W.kia_one PySem.W.kitx_tuple I.kIn ⟨o,h1,h2⟩ e (fun z=>nomatch z) h
 | @dK a kvs ea=>
  cases (show u=Value.ref a from rx)
  obtain ⟨_,_,vs,_,p⟩:=(show ObjOk X.prog X.w H s.heap a (.dK kvs) from I.hok a _ ea)
  obtain ⟨o,es,ep,h1,h2,_⟩:=p
  exact PySem.W.kia_one PySem.W.kitx_dict I.kIn ⟨o,h1,h2.1⟩ e (fun z=>nomatch z) h
 | @dT a kvs ea=>
  cases (show u=Value.ref a from rx)
  obtain ⟨_,_,xs,_,o,es,ep,h1,h2,_⟩:=(show ObjOk X.prog X.w H s.heap a (.dT kvs) from I.hok a _ ea)
  exact PySem.W.kia_one PySem.W.kitx_dict I.kIn ⟨o,h1,h2.1⟩ e (fun z=>nomatch z) h
 | @ins a C dx fs ea cl ha hn htk hm=>
  cases (show u=Value.ref a from rx)
  obtain ⟨mA,O,_⟩:=qp I.hok ea
  obtain ⟨od,J,_⟩:=O.look
  exact PySem.W.kia_one (PySem.W.kitx_own (cl.get _) cl.hd ha hn htk hm) I.kIn J e (fun z=>nomatch z) h
end
end L2
namespace L2
open PySem PySem.Spec PyProof.Rows
structure Room (k:Nat) (A:Around):Prop where
 hd:A.handled=none
 dp:A.depth+3*k+5 < recursionLimit
 un:A.units+16*k+200 < cLine
 gd:A.guards=some []
theorem Room.mono {j k:Nat} {A:Around} (r:Room k A) (h:j≤k):Room j A:=⟨r.hd,by have:=r.dp;omega,by have:=r.un;omega,r.gd⟩
theorem Room.deeper {k:Nat} {A:Around} (r:Room (k+1) A) (env:Env):Room k (A.deeper env):=
 ⟨r.hd,by have:=r.dp;show A.depth+1+3*k+5 < _;omega,by have:=r.un;show A.units+3+16*k+200 < _;omega,r.gd⟩
theorem Ak {A:Around} {C:Addr} {us:List Value} {kw:List (Str×Value)}:(A.under (.builtin "type.__call__" ⟨.ref C :: us,kw⟩)).depth=A.depth+1:=by
 first | rfl | simp [Around.under,Code.weight,Code.isCreation,Code.isGuard,Code.isCaller,Code.frames,Code.isFrame,guardIds]
theorem Al {A:Around} {C:Addr} {us:List Value} {kw:List (Str×Value)}:(A.under (.builtin "type.__call__" ⟨.ref C :: us,kw⟩)).units=A.units+1:=by
 first | rfl | simp [Around.under,Code.cUnits,Code.frames,Code.isFrame]
theorem yw {A:Around} {C:Addr} {us:List Value} {kw:List (Str×Value)}:(A.under (.builtin "type.__call__" ⟨.ref C :: us,kw⟩)).guards=pushGuards [] A.guards:=by
 first | rfl | simp [Around.under,Code.guards,Code.isGuard,guardIds]
theorem Room.make {k:Nat} {A:Around} (r:Room (k+1) A) (C:Addr) (us:List Value) (kw:List (Str×Value)):Room k (A.under (.builtin "type.__call__" ⟨.ref C :: us,kw⟩)):=
 ⟨r.hd,by have:=r.dp;rw [Ak];omega,by have:=r.un;rw [Al];omega,(yw.trans (by rw [r.gd];rfl))⟩
theorem Room.depth {k:Nat} {A:Around} (r:Room k A):A.depth < recursionLimit:=by have:=r.dp;omega
theorem Room.units {k:Nat} {A:Around} (r:Room k A):A.units+64 < cLine:=by have:=r.un;omega
theorem Room.units0 {k:Nat} {A:Around} (r:Room k A):A.units < cLine:=by have:=r.un;omega
def LQ:TA:=fun _ H Q=>Q [] H
def Cm (ta:TE) (tr:TA):TA:=fun σ H Q=>ta σ H fun x H1=>tr σ H1 fun xs H2=>Q (x :: xs) H2
section
variable {X:Cx} {e:Expr} {es:List Expr} {te:TE} {t:TA} {pos:Pos}
theorem RN:PA X [] LQ:=fun _ _ _ _ H Q I h=>Calls.spliced_nil ⟨[],H,I,.nil,h⟩
theorem LR (ha:PE X e te) (hr:PA X es t) (hs:autoParam (starEach (e :: es) X.env=(false,eval e X.env) :: starEach es X.env) L2.auto4._auto_1):PA X (e :: es) (Cm te t):=by
 intro pos pins s σ H Q I h
 rw [hs]
 show wpAny _ _ (spliced ((false,eval e X.env) :: backTo pos (starEach es X.env))) _ _ s
 refine Calls.spliced_cons (fJ (ha pins s σ H _ I h) fun u s1 qq0=>?_)
 obtain ⟨x,H1,I1,r1,q1⟩:=qq0
 exact fJ (hr pos pins s1 σ H1 _ I1 q1) fun us s2 ⟨xs,H2,I2,r2,q2⟩=>⟨x :: xs,H2,I2,.cons r1 r2,q2⟩
def Ma (t:TA):TE:=fun σ H Q=>t σ H fun xs H1=>xs.length≤sizeLine∧∀ p,H1 p=none→Q (.ref p) (upd H1 p (.tup xs))
def Mf (t:TA):TE:=fun σ H Q=>t σ H fun xs H1=>xs.length≤sizeLine∧∀ p,H1 p=none→Q (.ref p) (upd H1 p (.lst xs))
theorem RP {x1} (h:PA X es t):PE X (.Tuple es x1 pos) (Ma t):=by
 intro pins s σ H Q I hq
 refine wpAny_Tuple_spliced (fJ (h pos pins s σ H _ I hq) fun us s1 ⟨xs,H1,I1,r,z,q⟩=>⟨by rw [← r.length];exact z,?_⟩)
 have hf:H1 s1.heap.objs.size=none:=I1.hok.fresh (Nat.le_refl _)
 refine ⟨.ref s1.heap.objs.size,upd H1 s1.heap.objs.size (.tup xs),I1.laid (t':=s1.toks) (fun b u e=>Heap.get?_push_of_some _ e) (Nat.le_refl _) ?_,rfl,q _ hf⟩
 exact ⟨z,us,r,⟨_,Heap.get?_push_size _ rfl,rfl,_,rfl⟩⟩
theorem RQ (h:PA X es t):PE X (.List es pos) (Mf t):=by
 intro pins s σ H Q I hq
 refine wpAny_List_spliced (fJ (h pos pins s σ H _ I hq) fun us s1 ⟨xs,H1,I1,r,z,q⟩=>⟨by rw [← r.length];exact z,?_⟩)
 have hf:H1 s1.heap.objs.size=none:=I1.hok.fresh (Nat.le_refl _)
 refine ⟨.ref s1.heap.objs.size,upd H1 s1.heap.objs.size (.lst xs),I1.laid (t':=s1.toks) (fun b u e=>Heap.get?_push_of_some _ e) (Nat.le_refl _) ?_,rfl,q _ hf⟩
 exact ⟨z,us,0,r,Heap.get?_push_size _ rfl⟩
end
abbrev Sp:=List V→Hp→VK→XK→Prop
abbrev Ed:=List Env→Hp→Shared→XK→Value→Shared→Prop
structure Env0 (P:Program) (w:World) (K:PySem.W.Frag) (mg:Str→Option Value) (base:Heap) (A:Around) (outer:List Env) (s:Shared) (H:Hp):Prop where
 frames:A.frames=some outer
 mod:Mod K mg base
 bs:∀ b o,base.get? b=some o→s.heap.get? b=some o∧H b=none
 bsz:base.objs.size≤s.heap.objs.size
 funs:s.heap.FunFrames base outer
 frf:∀ b∈frs outer,H b=none
 hok:HOk P w H s.heap
 bare:AllBare s.gens
def CE (outer:List Env) (P:Program) (w:World) (H:Hp) (s:Shared) (Q:VK) (u:Value) (s':Shared):Prop:=
 ∃ v H',s'.os=s.os∧AllBare s'.gens∧Un (frs outer) [] H H' s.heap s'.heap∧HOk P w H' s'.heap∧RelV v u∧Q v H'
def CR (CX:Ed) (outer:List Env) (P:Program) (w:World) (H:Hp) (s:Shared) (Q:VK) (E:XK) (r:Result) (s':Shared):Prop:=
 match r with
 | .ok (.ret u)=>CE outer P w H s Q u s'
 | .ok _=>False
 | .error e=>CX outer H s E e s'
structure FnOk (P:Program) (w:World) (K:PySem.W.Frag) (mg:Str→Option Value) (base:Heap) (CX:Ed) (k:Nat) (f:Addr) (fd:FuncData) (ps:List Str) (sp:Sp):Prop where
 len:∀ vs H Q E,sp vs H Q E→vs.length=ps.length
 run:∀ (A:Around) (outer:List Env) (s:Shared) (H:Hp) (args:Args) (us:List Value) (vs:List V) (Q:VK) (E:XK),Room k A→Env0 P w K mg base A outer s H→BindsTo s fd args (ps.zip us)→Vals vs us→sp vs H Q E→
  codeAny (model P w) A (.call (.ref f) args) (CR CX outer P w H s Q E) s
theorem FnOk.mono {P:Program} {w:World} {K:PySem.W.Frag} {mg:Str→Option Value} {base:Heap} {CX:Ed} {j k:Nat} {f:Addr} {fd:FuncData} {ps:List Str} {sp:Sp} (F:FnOk P w K mg base CX j f fd ps sp) (h:j≤k):
  FnOk P w K mg base CX k f fd ps sp:=⟨F.len,fun A outer s H args us vs Q E hr=>F.run A outer s H args us vs Q E (hr.mono h)⟩
theorem Env0.make {P:Program} {w:World} {K:PySem.W.Frag} {mg:Str→Option Value} {base:Heap} {A:Around} {outer:List Env} {s:Shared} {H:Hp} (e:Env0 P w K mg base A outer s H) (C:Addr) (us:List Value) (kw:List (Str×Value)):
  Env0 P w K mg base (A.under (.builtin "type.__call__" ⟨.ref C :: us,kw⟩)) outer s H:=⟨by first | exact e.frames | (simpa [Around.under,Code.envs,Code.isFrame,pushEnvs] using e.frames),e.mod,e.bs,e.bsz,e.funs,e.frf,e.hok,e.bare⟩
section
variable {X:Cx} {pins:List (Addr×Obj)} {σ:St} {H:Hp} {s s':Shared}
theorem Inv.env0 (I:Inv X pins σ H s):Env0 X.prog X.w X.K X.mg X.base X.A X.stack s H:=
 ⟨I.ok.frames,I.ok.mod,I.bs,Nat.le_trans I.ok.bsz I.sz,I.stack,I.stkFree,I.hok,I.bare⟩
theorem Inv.after {Q:VK} {u:Value} (I:Inv X pins σ H s) (h:CE X.stack X.prog X.w H s Q u s'):EP X pins σ Q u s':=by
 obtain ⟨v,H',os,bare,un,hok,r,q⟩:=h
 obtain ⟨hh,g,d,t,os'⟩:=s'
 obtain rfl:os'=s.os:=os
 exact ⟨v,H',I.call (h':=hh) (g':=g) (d':=d) (t':=t) (ch:=[]) un hok bare (fun b z=>absurd z (by simp)),r,q⟩
end
def vJ (sp:Sp) (dvs:List V) (E:XK) (t:TA):TE:=fun σ H Q=>t σ H fun vs H1=>sp (vs ++ dvs) H1 Q E
def Binds (K:PySem.W.Frag) (fd:FuncData) (ps:List Str) (ds:List Value):Prop:=
 ∀ (s:Shared) (us:List Value),K.In s.heap→(us ++ ds).length=ps.length→BindsTo s fd ⟨us,[]⟩ (ps.zip (us ++ ds))
theorem Binds.all {K:PySem.W.Frag} {fd:FuncData} {ps:List Str} (h:∀ us:List Value,us.length=ps.length→bindArgs fd ⟨us,[]⟩=pure (ps.zip us)):Binds K fd ps []:=fun s us _ hl=>by
 rw [List.append_nil] at hl ⊢
 exact .of_eq (h us hl)
def Am (CX:Ed) (X:Cx) (E:XK):Prop:=∀ (pins:List (Addr×Obj)) (σ:St) (H:Hp) (s:Shared) (e:Value) (s':Shared),Inv X pins σ H s→CX X.stack H s E e s'→X.xe e s'
section
variable {X:Cx} {CX:Ed} {k:Nat} {f C:Addr} {fd:FuncData} {ps:List Str} {sp:Sp} {dvs:List V} {ds:List Value} {E:XK} {x m:Str} {p pos apos:Pos} {e o:Expr} {es:List Expr} {ta:TE} {t:TA}
theorem RT {pins:List (Addr×Obj)} {σ:St} {H:Hp} {s:Shared} {Q:VK} {us:List Value} {vs:List V} (F:FnOk X.prog X.w X.K X.mg X.base CX k f fd ps sp) (hr:Room k X.A) (hb:Binds X.K fd ps ds) (hd:Vals dvs ds) (hx:Am CX X E)
  (I:Inv X pins σ H s) (r:Vals vs us) (h:sp (vs ++ dvs) H Q E):wpAny (model X.prog X.w) X.A (call (.ref f) us) (EP X pins σ Q) X.xe s:=by
 have r2:Vals (vs ++ dvs) (us ++ ds):=r.append hd
 have hl:(us ++ ds).length=ps.length:=by rw [← r2.length];exact F.len _ _ _ _ h
 refine wpAny_call (codeAny_mono (F.run X.A X.stack s H ⟨us,[]⟩ (us ++ ds) (vs ++ dvs) Q E hr I.env0 (hb s us I.kIn hl) r2 h) fun r s' hq=>?_)
 cases r with
 | error e=>exact hx pins σ H s e s' I hq
 | ok fl=>
  cases fl with
  | ret u=>exact I.after hq
  | next=>exact False.elim hq
  | brk=>exact False.elim hq
  | cont=>exact False.elim hq
theorem Mg (F:FnOk X.prog X.w X.K X.mg X.base CX k f fd ps sp) (hr:Room k X.A) (hg:Gl X x) (hm:X.mg x=some (.ref f)) (hk:PySem.W.keepIn X.K (.ref f)=true) (hb:Binds X.K fd ps ds) (hd:Vals dvs ds) (hx:Am CX X E)
  (ha:PA X (e :: es) t) (hdb:autoParam ((x == ("__debug__":Str))=false) L2.auto2._auto_1) (he:autoParam (starEach (e :: es) X.env=(false,eval e X.env) :: starEach es X.env) L2.auto4._auto_1) (hpl:autoParam ((backTo pos (starEach es X.env)).any (·.1)=false) L2.auto4._auto_1):
  PE X (.Call (.Name x p) (e :: es) [] pos) (vJ sp dvs E t):=by
 intro pins s σ H Q I h
 refine wpAny_Call_Name_kw (qm I hg hm ?_ hdb)
 refine PySem.W.callWith_K (h₀:=X.base) I.ok.mod.kin hk (fJ (ha pos pins s σ H _ I h) fun us s1 ⟨vs,H1,I1,r,q⟩=>⟨I1.kIn,?_⟩) he hpl
 exact RT F hr hb hd hx I1 r q
structure Mk (K:PySem.W.Frag) (C f:Addr):Prop where
 makes:PySem.W.makesIn K C=true
 init:PySem.W.findIn K (.ref C) "__init__"=some (some (.ref f))
 fn:PySem.W.isFn K (.ref f)=true
 kp:PySem.W.keepIn K (.ref C)=true
end
section
variable {X:Cx} {CX:Ed} {k:Nat} {f C:Addr} {fd:FuncData} {ps ks:List Str} {sp:Sp} {E:XK} {x m:Str} {p pos apos kpos:Pos} {e o:Expr} {es:List Expr} {kws:List Keyword} {te ta:TE} {t tk:TA} {nm:Option Str}
structure KBinds (K:PySem.W.Frag) (fd:FuncData) (ps ks:List Str) (g:List Value→List Value→List Value) (gV:List V→List V→List V):Prop where
 to:∀ (s:Shared) (us ws:List Value),K.In s.heap→(g us ws).length=ps.length→BindsTo s fd ⟨us,ks.zip ws⟩ (ps.zip (g us ws))
 rel:∀ {vs:List V} {us:List Value} {zs:List V} {ws:List Value},Vals vs us→Vals zs ws→Vals (gV vs zs) (g us ws)
variable {g:List Value→List Value→List Value} {gV:List V→List V→List V}
end
structure aC (N P:List Str) (sc:Scope):Prop where
 kind:sc.kind= .function
 co:sc.isCoroutine=false
 gen:sc.isGenerator=false
 nd:N.Nodup
 pre:N.take P.length=P
 par:∀ x∈P,sc.names.lookup x=some .local∨sc.names.lookup x=some .cell
 nofree:∀ y∈sc.names,y.2≠.free
theorem vK {kindOf:Str→Option NameKind} {x:Str}:∀ {binds:List (Str×Value)} {m:Str→Option Value},(∀ v,(x,v) ∉ binds)→bindL kindOf binds m x=m x
 | [],_,_=>rfl
 | (n,v) :: r,m,h=>by
  unfold bindL
  rw [vK fun w hw=>h w (List.mem_cons_of_mem _ hw)]
  split
  ·have:x≠n:=by rintro rfl;exact h v List.mem_cons_self
   simp [this]
  ·rfl
theorem vL {kindOf:Str→Option NameKind} {x:Str}:∀ {binds:List (Str×Value)} {m:Str→Option Value},(∀ v,(x,v) ∉ binds)→bindC kindOf binds m x=m x
 | [],_,_=>rfl
 | (n,v) :: r,m,h=>by
  unfold bindC
  rw [vL fun w hw=>h w (List.mem_cons_of_mem _ hw)]
  split
  ·rfl
  ·have:x≠n:=by rintro rfl;exact h v List.mem_cons_self
   simp [this]
theorem vM {kindOf:Str→Option NameKind} {x:Str} {v:Value}:∀ {P:List Str} {vs:List Value} {i:Nat} {m:Str→Option Value},P.Nodup→P[i]?=some x→vs[i]?=some v→kindOf x=some .local→
  bindL kindOf (P.zip vs) m x=some v
 | [],_,_,_,_,h,_,_=>by simp at h
 | _ :: _,[],_,_,_,_,h,_=>by simp at h
 | p :: P,w :: vs,0,m,nd,h1,h2,hk=>by
  simp at h1 h2;subst h1;subst h2
  show bindL kindOf ((p,w) :: P.zip vs) m p=_
  unfold bindL
  rw [vK fun v hv=>(List.nodup_cons.mp nd).1 (List.of_mem_zip hv).1,if_pos hk]
  simp
 | p :: P,w :: vs,i+1,m,nd,h1,h2,hk=>by
  show bindL kindOf ((p,w) :: P.zip vs) m x=_
  unfold bindL
  exact vM (i:=i) (List.nodup_cons.mp nd).2 (by simpa using h1) (by simpa using h2) hk
theorem vN {kindOf:Str→Option NameKind} {x:Str} {v:Value}:∀ {P:List Str} {vs:List Value} {i:Nat} {m:Str→Option Value},P.Nodup→P[i]?=some x→vs[i]?=some v→kindOf x≠some .local→
  bindC kindOf (P.zip vs) m x=some v
 | [],_,_,_,_,h,_,_=>by simp at h
 | _ :: _,[],_,_,_,_,h,_=>by simp at h
 | p :: P,w :: vs,0,m,nd,h1,h2,hk=>by
  simp at h1 h2;subst h1;subst h2
  show bindC kindOf ((p,w) :: P.zip vs) m p=_
  unfold bindC
  rw [vL fun v hv=>(List.nodup_cons.mp nd).1 (List.of_mem_zip hv).1,if_neg hk]
  simp
 | p :: P,w :: vs,i+1,m,nd,h1,h2,hk=>by
  show bindC kindOf ((p,w) :: P.zip vs) m x=_
  unfold bindC
  exact vN (i:=i) (List.nodup_cons.mp nd).2 (by simpa using h1) (by simpa using h2) hk
def start (N:List Str) (vs:List V):St:=vs.map some ++ List.replicate (N.length - vs.length) none
def pG (CX:Ed) (P:Program) (w:World) (K:PySem.W.Frag) (mg:Str→Option Value) (base:Heap) (N:List Str) (qual:Str) (scope:Scope) (f:Addr) (cd:Value) (A:Around) (outer:List Env) (s:Shared) (H:Hp) (E:XK):Cx where
 prog:=P
 w:=w
 K:=K
 mg:=mg
 base:=base
 A:=A.deeper (envOfC qual scope s.heap.objs.size f cd)
 N:=N
 s₀:=s
 H₀:=H
 env:=envOfC qual scope s.heap.objs.size f cd
 outer:=outer
 stack:=envOfC qual scope s.heap.objs.size f cd :: outer
 ex:=[]
 calm:=true
 fn:=fun _=>true
 pn:=[]
 xe:=fun e s'=>wpAny (model P w) (A.deeper (envOfC qual scope s.heap.objs.size f cd)) (leaving (envOfC qual scope s.heap.objs.size f cd) e) (fun _ s''=>CX outer H s E e s'') (fun e' s''=>CX outer H s E e' s'') s'
theorem yx {sc:Scope} {n:Nat} {x:Str} (h:sc.names.lookup x=some .cell):∃ c,(cellsFrom n sc.names []).lookup x=some c:=by
 have q:=PySem.W.cellsFrom_some sc.names n [] (.inl h)
 exact Option.isSome_iff_exists.mp q
theorem Ef {CX:Ed} {P:Program} {w:World} {K:PySem.W.Frag} {mg:Str→Option Value} {base:Heap} {N ps:List Str} {qual:Str} {scope:Scope} {f:Addr} {cd:Value} {A:Around} {outer:List Env} {s s1:Shared} {H:Hp} {E:XK} {us:List Value} {vs:List V}
  (S:aC N ps scope) (hd:A.handled=none) (e0:Env0 P w K mg base A outer s H) (hl:vs.length=ps.length) (r:Vals vs us)
  (x:InCallC s s.heap.objs.size (bindL (envOfC qual scope s.heap.objs.size f cd).kindOf (ps.zip us) fun _=>none) (cellsFrom (s.heap.objs.size+1) scope.names []) (bindC (envOfC qual scope s.heap.objs.size f cd).kindOf (ps.zip us) fun _=>none) s1):
  Inv (pG CX P w K mg base N qual scope f cd A outer s H E) [] (start N vs) H s1:=by
 have hpl:ps.length≤N.length:=by have:=congrArg List.length S.pre;rw [List.length_take] at this;omega
 obtain ⟨h1,tk,rfl,hk⟩:=x.done
 have noA:∀ b:Addr,b ∉ (pG CX P w K mg base N qual scope f cd A outer s H E).ex:=fun b z=>absurd (show b∈([]:List Addr) from z) (by simp)
 refine ⟨⟨e0.mod,S.kind,rfl,rfl,Nat.le_refl _,fun y z c h1 h2=>?_,fun y hy=>?_,fun y c _ h=>?_,fun _=>hd,Around.frames_deeper e0.frames,.inr ⟨rfl,rfl⟩,fun b z=>absurd z (noA b),e0.bs,e0.bsz,fun b _ _=>noA b,fun b z=>absurd z (noA b),e0.funs,e0.frf⟩,
  rfl,e0.bare,Un.kept hk,⟨_,x.toInCall.ns,fun i y v h1 h2 h3=>?_⟩,fun y c h=>⟨_,x.cell y c h⟩,e0.hok.fresh (Nat.le_refl _),fun y c h=>?_,fun p hp=>absurd (show p∈([]:List (Addr×Obj)) from hp) (by simp),e0.hok.kept hk,?_⟩
 ·exact name_of_addr x.apart (PySem.mem_of_lookup h1) (PySem.mem_of_lookup h2)
 ·have hy:scope.names.lookup y=some .cell∨scope.names.lookup y=some .free:=hy
  rcases hy with hy | hy
  ·exact yx hy
  ·exact absurd rfl (S.nofree _ (PySem.mem_of_lookup hy))
 ·exact Nat.le_of_lt (x.above y c (PySem.mem_of_lookup h))
 ·have hi:i < vs.length:=by
   unfold start at h2
   by_cases hi:i < vs.length
   ·exact hi
   ·rw [List.getElem?_append_right (by simpa using hi)] at h2
    rw [List.getElem?_replicate] at h2
    split at h2 <;> cases h2
  have ha:vs[i]?=some v:=by
   unfold start at h2
   rw [List.getElem?_append_left (by simpa using hi),List.getElem?_map] at h2
   cases e:vs[i]? with
   | none=>rw [e] at h2;cases h2
   | some a=>rw [e] at h2;cases h2;rfl
  obtain ⟨u,hu,rv⟩:=r.get ha
  have hp:ps[i]?=some y:=by
   rw [← S.pre,List.getElem?_take_of_lt (by omega)];exact h1
  have ndP:ps.Nodup:=by rw [← S.pre];exact S.nd.sublist (List.take_sublist _ _)
  refine ⟨u,rv,?_⟩
  rcases S.par y (List.mem_of_getElem? hp) with k | k
  ·exact .inl ⟨k,vM ndP hp hu k⟩
  ·obtain ⟨c,e⟩:=yx (n:=s.heap.objs.size+1) k
   refine .inr ⟨.inl k,c,e,?_⟩
   have q:=x.cell y c e
   rw [vN ndP hp hu (by show scope.names.lookup y≠_;rw [k];decide)] at q
   exact q
 ·exact e0.hok.fresh (Nat.le_of_lt (x.above y c (PySem.mem_of_lookup h)))
 ·unfold start
  show _=N.length
  rw [List.length_append,List.length_map,List.length_replicate]
  omega
theorem Cp {CX:Ed} {P:Program} {w:World} {K:PySem.W.Frag} {mg:Str→Option Value} {base:Heap} {k:Nat} {f:Addr} {name qual:Str} {params:Arguments} {body:List Stmt} {scope:Scope} {dV kV doc pm cdv ct oc:Value} {an od:Option Addr}
  {osl:Array (Option Value)} {N ps:List Str} {sp:Sp} (lk:K.lookup f=some ⟨oc,od,.func (PySem.W.fnOf name qual params body scope dV kV doc pm an cdv ct),osl⟩) (hcd:PySem.W.codeIn K cdv qual=true) (S:aC N ps scope)
  (len:∀ vs H Q E,sp vs H Q E→vs.length=ps.length)
  (hbody:∀ (A:Around) (outer:List Env) (s:Shared) (H:Hp) (vs:List V) (Q:VK) (E:XK),Room k (A.deeper (envOfC qual scope s.heap.objs.size f cdv))→sp vs H Q E→
   ∃ t,PSs (pG CX P w K mg base N qual scope f cdv A outer s H E) body t∧t {nx:=fun _ H'=>Q .non H',rt:=Q} (start N vs) H):
  FnOk P w K mg base CX (k+1) f (PySem.W.fnOf name qual params body scope dV kV doc pm an cdv ct) ps sp:=by
 refine ⟨len,fun A outer s H args us vs Q E hr e0 hb r hsp=>?_⟩
 have hl:=len _ _ _ _ hsp
 have KX:K.In s.heap:=e0.mod.kin.keeps fun b o e=>(e0.bs b o e).1
 have lim:s.heap.NoLimit:=e0.mod.nolimit.keeps fun b o e=>(e0.bs b o e).1
 have hkind:∀ y∈ps.zip us,scope.names.lookup y.1=some .local∨(scope.names.lookup y.1=some .cell∧((cellsFrom (s.heap.objs.size+1) scope.names []).lookup y.1).isSome=true):=fun ⟨n,v⟩ hy=>by
  rcases S.par n (List.of_mem_zip hy).1 with q | q
  ·exact .inl q
  ·exact .inr ⟨q,PySem.W.cellsFrom_some _ _ _ (.inl q)⟩
 refine codeAny_call_function hr.depth (KX _ _ lk) rfl S.co S.gen rfl (PySem.W.codeRec_of KX hcd) (hb _ _ _ _ ?_)
 refine wpAny_newFunctionEnv_cells S.kind hkind fun env he s1 x=>?_
 subst he
 refine ⟨lim.keeps x.toInCall.keep,codeAny_func ?_⟩
 obtain ⟨t,ht,hq⟩:=hbody A outer s H vs Q E (hr.deeper _) hsp
 have I:Inv (pG CX P w K mg base N qual scope f cdv A outer s H E) [] (start N vs) H s1:=Ef S hr.hd e0 hl r x
 refine wpAny_mono (ht [] s1 (start N vs) H _ I hq) (fun fl s' hs=>?_) fun e s' hs=>hs
 have fin:∀ {σ':St} {H':Hp} {v:V} {u:Value},Inv (pG CX P w K mg base N qual scope f cdv A outer s H E) [] σ' H' s'→RelV v u→Q v H'→CE outer P w H s Q u s':=
  fun {σ' H' v u} J rv q=>⟨v,H',J.os,J.bare,J.base,J.hok,rv,q⟩
 cases fl with
 | ret u=>
  obtain ⟨v,σ',H',J,rv,q⟩:=hs
  exact fin J rv q
 | next=>
  obtain ⟨σ',H',J,q⟩:=hs
  exact fin (v:=V.non) (u:=Value.none) J rfl q
 | brk=>
  obtain ⟨_,_,_,q⟩:=hs
  exact False.elim q
 | cont=>
  obtain ⟨_,_,_,q⟩:=hs
  exact False.elim q
end L2
namespace L2
open PySem PySem.Spec PyProof.Rows
section
variable {X:Cx} {x:Str} {p pos:Pos} {e:Expr} {es:List Expr} {t:TA} {id T:String} {r:List V→Hp→VK→Prop}
def RV (r:List V→Hp→VK→Prop) (t:TA):TE:=fun σ H Q=>t σ H fun vs H1=>r vs H1 Q
theorem Ho (hc:CallR X (.builtin id) r) (hg:Gl X x) (hm:X.mg x=none) (hv:bootBuiltins x=some (.builtin id)) (ha:PA X (e :: es) t) (hn:autoParam (x≠"__name__") L2.auto2._auto_1) (hdb:autoParam ((x == ("__debug__":Str))=false) L2.auto2._auto_1)
  (he:autoParam (starEach (e :: es) X.env=(false,eval e X.env) :: starEach es X.env) L2.auto4._auto_1) (hpl:autoParam ((backTo pos (starEach es X.env)).any (·.1)=false) L2.auto4._auto_1):PE X (.Call (.Name x p) (e :: es) [] pos) (RV r t):=by
 intro pins s σ H Q I h
 refine wpAny_Call_Name_kw (jz I hg hm hv ?_ hn hdb)
 exact PyProof.Rows.callWith_builtin1 (fJ (ha pos pins s σ H _ I h) fun us s1 ⟨vs,H1,I1,r1,q1⟩=>hc pins s1 σ H1 vs us Q I1 r1 q1) he hpl
theorem Eg (hc:CallR X (.type T) r) (hg:Gl X x) (hm:X.mg x=none) (hv:bootBuiltins x=some (.type T)) (ha:PA X (e :: es) t) (hn:autoParam (x≠"__name__") L2.auto2._auto_1) (hdb:autoParam ((x == ("__debug__":Str))=false) L2.auto2._auto_1)
  (he:autoParam (starEach (e :: es) X.env=(false,eval e X.env) :: starEach es X.env) L2.auto4._auto_1) (hpl:autoParam ((backTo pos (starEach es X.env)).any (·.1)=false) L2.auto4._auto_1):PE X (.Call (.Name x p) (e :: es) [] pos) (RV r t):=by
 intro pins s σ H Q I h
 refine wpAny_Call_Name_kw (jz I hg hm hv ?_ hn hdb)
 exact PyProof.Rows.callWith_type1 (fJ (ha pos pins s σ H _ I h) fun us s1 ⟨vs,H1,I1,r1,q1⟩=>hc pins s1 σ H1 vs us Q I1 r1 q1) he hpl
end
end L2
namespace HT
open PySem PyProof.Rows
section
open PySem.SeqAt
open PySem.AutoSeq1 (wpAny_loadPart')
open PySem.MeetsSeq PySem.MeetsSeq2 PySem.MeetsSeq3
end
section
variable {prog:Program} {w:World} {A:Around} {E:Value→Shared→Prop} {s:Shared}
def sIx (n d:Nat):Option Int→Nat
 | none=>d
 | some v=>if v < 0 then (v+(n:Int)).toNat else min v.toNat n
theorem sIx_none (n d:Nat):sIx n d none=d:=rfl
theorem sIx_nat (n d k:Nat):sIx n d (some (k:Int))=min k n:=by
 show (if (k:Int) < 0 then ((k:Int)+(n:Int)).toNat else min (k:Int).toNat n)=min k n
 rw [if_neg (by omega),Int.toNat_natCast]
theorem sIx_le (n d:Nat) (hd:d≤n) (o:Option Int):sIx n d o≤n:=by
 cases o with
 | none=>exact hd
 | some v=>
  show (if v < 0 then (v+(n:Int)).toNat else min v.toNat n)≤n
  by_cases hv:v < 0
  ·rw [if_pos hv];omega
  ·rw [if_neg hv];exact Nat.min_le_right _ _
theorem clip_eq (v:Int) (n d:Nat):(if v < 0 then max (v+(n:Int)) 0 else min v (n:Int))=((sIx n d (some v):Nat):Int):=by
 show (if v < 0 then max (v+(n:Int)) 0 else min v (n:Int))=(((if v < 0 then (v+(n:Int)).toNat else min v.toNat n):Nat):Int)
 by_cases hv:v < 0
 ·simp only [if_pos hv];omega
 ·simp only [if_neg hv];omega
theorem An (lo hi:Option Int) (n:Nat):Builtin.Slice.sliceAdjust lo hi 1 (n:Int)=(((sIx n 0 lo:Nat):Int),((sIx n n hi:Nat):Int)):=by
 have h1:¬ ((1:Int) < 0):=by omega
 unfold Builtin.Slice.sliceAdjust
 simp only [h1,if_false]
 refine Prod.ext ?_ ?_
 ·cases lo with
  | none=>rfl
  | some v=>exact clip_eq v n 0
 ·cases hi with
  | none=>rfl
  | some v=>exact clip_eq v n n
theorem Ao (i j:Nat):Builtin.Slice.slicePlaces (i:Int) (j:Int) 1=j - i:=by
 unfold Builtin.Slice.slicePlaces
 have h1:(1:Int) > 0:=by omega
 simp only [h1,if_true,Int.ediv_one]
 split <;> omega
theorem uf {v:Value} {o:Option Int} {Q:Option Int→Shared→Prop} (p:IsPart v o) (h:Q o s):wpAny (model prog w) A (Builtin.Slice.slicePartIndex v) Q E s:=by
 cases p with
 | none=>exact slicePart_none h
 | int i t=>exact slicePart_int h
theorem qZ {sl:Addr} {vl vu:Value} {lo hi:Option Int} {n:Nat} {Q:Int×Int×Nat→Shared→Prop} (hs:s.heap.IsSliceOf sl vl vu .none) (pl:IsPart vl lo) (pu:IsPart vu hi)
  (h:Q (((sIx n 0 lo:Nat):Int),1,sIx n n hi - sIx n 0 lo) s):wpAny (model prog w) A (Builtin.Slice.sliceApplied (.ref sl) (pure (n:Int))) Q E s:=by
 obtain ⟨os,hos,hcs,hds⟩:=id hs
 unfold Builtin.Slice.sliceApplied Builtin.Slice.sliceFields
 refine wpAny_bind (wpAny_bind (wpAny_field hos hds (x:=vl) rfl (wpAny_bind (wpAny_field hos hds (x:=vu) rfl (wpAny_bind (wpAny_field hos hds (x:=.none) rfl (wpAny_pure ?_)))))))
 refine wpAny_bind (slicePart_none ?_)
 show wpAny _ _ (if ((1:Int) == 0)=true then _ else _) _ _ s
 rw [if_neg (by decide)]
 refine wpAny_bind (uf pl (wpAny_bind (uf pu (wpAny_bind (wpAny_pure ?_)))))
 show wpAny _ _ (match Builtin.Slice.sliceAdjust lo hi 1 (n:Int) with | (lo,hi)=>pure (lo,(1:Int),Builtin.Slice.slicePlaces lo hi 1)) _ _ s
 rw [An lo hi n]
 show wpAny _ _ (pure (((sIx n 0 lo:Nat):Int),(1:Int),Builtin.Slice.slicePlaces ((sIx n 0 lo:Nat):Int) ((sIx n n hi:Nat):Int) 1)) _ _ s
 rw [Ao]
 exact wpAny_pure h
theorem Hq (xs:Array Value) (i k:Nat):((List.range k).filterMap fun (m:Nat)=>xs[((i:Int)+(m:Int)*1).toNat]?).toArray=((xs.toList.drop i).take k).toArray:=by
 have e:(fun (m:Nat)=>xs[((i:Int)+(m:Int)*1).toNat]?)=fun m=>xs[i+m]?:=by
  funext m
  have:((i:Int)+(m:Int)*1).toNat=i+m:=by omega
  rw [this]
 rw [e]
 have:=pick_run xs i k
 rw [List.filterMap_map] at this
 have e2:((fun x=>xs[x]?) ∘ fun x=>i+x)=fun m=>xs[i+m]?:=rfl
 rw [e2] at this
 rw [this]
theorem getItem_tuple_cut {t sl:Addr} {items:Array Value} {vl vu:Value} {lo hi:Option Int} {Q:Value→Shared→Prop} (ht:IsTup s.heap t items) (hs:s.heap.IsSliceOf sl vl vu .none) (pl:IsPart vl lo) (pu:IsPart vu hi)
  (hw:¬ (sIx items.size 0 lo=0∧sIx items.size items.size hi=items.size))
  (h:Q (.ref s.heap.objs.size) {s with heap:=s.heap.push {cls:=.type "tuple",data:=.seq ((items.toList.drop (sIx items.size 0 lo)).take (sIx items.size items.size hi - sIx items.size 0 lo)).toArray}})
  (hsz:items.size≤sizeLine):wpAny (model prog w) A (getItem (.ref t) (.ref sl)) Q E s:=by
 have htake:sizeOk (.seq ((items.toList.drop (sIx items.size 0 lo)).take (sIx items.size items.size hi - sIx items.size 0 lo)).toArray):=by
  show ((items.toList.drop (sIx items.size 0 lo)).take (sIx items.size items.size hi - sIx items.size 0 lo)).toArray.size≤sizeLine
  rw [List.size_toArray,List.length_take,List.length_drop,Array.length_toList]
  omega
 have hj:sIx items.size items.size hi≤items.size:=sIx_le _ _ (Nat.le_refl _) hi
 obtain ⟨os,hos,hcs,hds⟩:=id hs
 have hTs:s.TypeIs (.ref sl) "slice":=⟨os,hos,hcs⟩
 unfold getItem
 try with_reducible refine wpAny_holding ?_
 first | refine wpAny_bind (wpAny_pure ?_) | skip
 refine wpAny_bind (wpAny_sequenceKey ht.typeIs (by decide) ?_)
 refine wpAny_bind (wpAny_callSpecial?_slot (name:=Str.ofString "__getitem__") ht.typeIs PyProof.Rows.slot_tuple_getitem
  (wpAny_call_entry PyProof.Rows.slot_tuple_getitem ht.typeIs entry_tuple_getitem ?_ (args_tuple_getitem _ _)))
 show wpAny _ _ (Builtin.Tuple.tupleItemsOf (.ref t) >>=_) _ _ s
 refine wpAny_bind (tupleItemsOf_ ht ?_)
 refine wpAny_bind (wpAny_typeOf hTs ?_)
 rw [if_pos (by decide)]
 refine wpAny_bind (qZ hs pl pu ?_)
 have hno:¬ ((((sIx items.size 0 lo:Nat):Int) == 0 && (1:Int) == 1 && (sIx items.size items.size hi - sIx items.size 0 lo) == items.size)=true):=by
  intro q
  rw [Bool.and_eq_true,Bool.and_eq_true] at q
  have q1:((sIx items.size 0 lo:Nat):Int)=0:=eq_of_beq q.1.1
  have q2:sIx items.size items.size hi - sIx items.size 0 lo=items.size:=eq_of_beq q.2
  exact hw ⟨by omega,by omega⟩
 show wpAny _ _ (if (((sIx items.size 0 lo:Nat):Int) == 0 && (1:Int) == 1 && (sIx items.size items.size hi - sIx items.size 0 lo) == items.size)=true then _ else _) _ _ s
 rw [if_neg hno,Hq]
 first
  | exact wpAny_bind (m:=Builtin.Tuple.tupleExact _) (wpAny_newObj_type (wpAny_pure ⟨_,rfl,wpAny_pure h⟩) htake)
  | exact wpAny_bind (m:=Builtin.Tuple.tupleExact _) (wpAny_newObj_type (wpAny_bind (wpAny_pure (wpAny_pure ⟨_,rfl,wpAny_pure h⟩))) htake)
  | exact wpAny_bind (wpAny_bind (m:=Builtin.Tuple.tupleExact _) (wpAny_newObj_type (wpAny_pure (wpAny_pure ⟨_,rfl,wpAny_pure h⟩)) htake))
  | exact wpAny_bind (wpAny_bind (m:=Builtin.Tuple.tupleExact _) (wpAny_newObj_type (wpAny_pure ⟨_,rfl,wpAny_pure h⟩) htake))
end
end HT
namespace L2
open PySem PySem.Spec PyProof.Rows
abbrev TO:=St→Hp→(Option Int→Hp→Prop)→Prop
def PO (X:Cx) (e:Option Expr) (t:TO):Prop:=
 ∀ (pins:List (Addr×Obj)) (s:Shared) (σ:St) (H:Hp) (Q:Option Int→Hp→Prop),Inv X pins σ H s→t σ H Q→
  wpAny (model X.prog X.w) X.A (evalPart e X.env) (fun u s'=>∃ o H',Inv X pins σ H' s'∧IsPart u o∧Q o H') X.xe s
def wJ:TO:=fun _ H Q=>Q none H
def Hr (t:TE):TO:=fun σ H Q=>t σ H fun x H1=>∃ i,x= .int i∧Q (some i) H1
theorem intsAre_of {ns:List Int}:∀ {us:List Value},Vals (ns.map V.int) us→IntsAre us ns:=by
 induction ns with
 | nil=>intro us r;rw [List.map_nil] at r;cases r;exact .nil
 | cons n ns ih=>
  intro us r
  rw [List.map_cons] at r
  cases r with
  | cons r1 r2=>
   obtain ⟨t,e⟩:=r1
   subst e
   exact .cons n t (ih r2)
section
variable {X:Cx} {e:Expr} {te:TE} {lo hi:Option Expr} {tl th:TO} {pos p2:Pos}
theorem Mh:PO X none wJ:=by
 intro pins s σ H Q I h
 rw [evalPart_none]
 exact wpAny_pure ⟨none,H,I,.none,h⟩
theorem Mi (h:PE X e te):PO X (some e) (Hr te):=by
 intro pins s σ H Q I hw
 rw [evalPart_some]
 refine fJ (h pins s σ H _ I hw) fun u s1 qq0=>?_
 obtain ⟨x,H1,I1,r1,q1⟩:=qq0
 obtain ⟨i,rfl,q⟩:=q1
 obtain ⟨t,rfl⟩:=r1
 exact ⟨some i,H1,I1,.int i t,q⟩
def SlR (X:Cx) (r:V→Option Int→Option Int→Hp→VK→Prop):Prop:=
 ∀ (pins:List (Addr×Obj)) (s:Shared) (σ:St) (H:Hp) (x:V) (v vl vu:Value) (lo hi:Option Int) (sl:Addr) (Q:VK),Inv X pins σ H s→RelV x v→s.heap.IsSliceOf sl vl vu .none→IsPart vl lo→IsPart vu hi→r x lo hi H Q→
  ∃ T id,typeLookup (.type T) "__getitem__"=pure (some (.builtin id))∧s.TypeIs v T∧wpAny (model X.prog X.w) X.A (getItem v (.ref sl)) (EP X pins σ Q) X.xe s
theorem SlR.or {r r':V→Option Int→Option Int→Hp→VK→Prop} (h:SlR X r) (h':SlR X r'):SlR X (fun x lo hi H Q=>r x lo hi H Q∨r' x lo hi H Q):=by
 intro pins s σ H x v vl vu lo hi sl Q I rx hs pl pu q
 rcases q with q | q
 ·exact h pins s σ H x v vl vu lo hi sl Q I rx hs pl pu q
 ·exact h' pins s σ H x v vl vu lo hi sl Q I rx hs pl pu q
def tSl (r:V→Option Int→Option Int→Hp→VK→Prop) (te:TE) (tl th:TO):TE:=fun σ H Q=>te σ H fun x H1=>tl σ H1 fun l H2=>th σ H2 fun u H3=>r x l u H3 Q
theorem Hs {r:V→Option Int→Option Int→Hp→VK→Prop} (hr:SlR X r) (he:PE X e te) (hl:PO X lo tl) (hu:PO X hi th):PE X (.Subscript e (.Slice lo hi none p2) pos) (tSl r te tl th):=by
 intro pins s σ H Q I h
 refine Subscript_ (fJ (he pins s σ H _ I h) fun v s1 qq0=>?_)
 obtain ⟨x,H1,I1,r1,q1⟩:=qq0
 refine wpAny_Slice (fJ (hl pins s1 σ H1 _ I1 q1) fun vl s2 ⟨l,H2,I2,pl,q2⟩=>fJ (hu pins s2 σ H2 _ I2 q2) fun vu s3 qq0=>?_)
 obtain ⟨u,H3,I3,pu,q3⟩:=qq0
 rw [evalPart_none]
 refine wpAny_pure ?_
 have I4:Inv X pins σ H3 {s3 with heap:=s3.heap.push {cls:=.type "slice",data:=.fields #[vl,vu,.none]}}:=I3.kept (t':=s3.toks) fun b ob q=>Heap.get?_push_of_some _ q
 obtain ⟨T,id,hT,ht,hg⟩:=hr pins {s3 with heap:=s3.heap.push {cls:=.type "slice",data:=.fields #[vl,vu,.none]}} σ H3 x v vl vu l u s3.heap.objs.size Q I4 r1 (Heap.IsSliceOf.new ..) pl pu q3
 show wpAny (model X.prog X.w) X.A (subscriptTail e (.Slice lo hi none p2) v (.ref s3.heap.objs.size)) (EP X pins σ Q) X.xe {s3 with heap:=s3.heap.push {cls:=.type "slice",data:=.fields #[vl,vu,.none]}}
 exact tail_any (ops:=[.ref s3.heap.objs.size,v]) ht hT hg (by with_unfolding_all rfl)
def ug (xs:List V) (lo hi:Option Int):List V:=(xs.drop (HT.sIx xs.length 0 lo)).take (HT.sIx xs.length xs.length hi - HT.sIx xs.length 0 lo)
theorem rT (xs:List V) (lo hi:Option Int):(ug xs lo hi).length≤xs.length:=by
 unfold ug
 rw [List.length_take,List.length_drop]
 omega
def VP (K:PySem.W.Frag):V→Option Int→Option Int→Hp→VK→Prop:=fun x lo hi H Q=>∃ a xs,x= .ref a∧SqT K H a xs∧
 ¬ (HT.sIx xs.length 0 lo=0∧HT.sIx xs.length xs.length hi=xs.length)∧∀ p,H p=none→Q (.ref p) (upd H p (.tup (ug xs lo hi)))
theorem RW:SlR X (VP X.K):=by
 intro pins s σ H x v vl vu lo hi sl Q I rx hs pl pu h
 obtain ⟨a,xs,rfl,hx,hw,q⟩:=h
 cases rx
 obtain ⟨its,r,ht,hz⟩:=I.tuple hx
 have hlen:its.toArray.size=xs.length:=by rw [List.size_toArray];exact r.length.symm
 refine ⟨"tuple",_,PyProof.Rows.slot_tuple_getitem.lookup,ht.typeIs,?_⟩
 refine HT.getItem_tuple_cut ht hs pl pu (by rw [hlen];exact hw) ?_ (by rw [hlen];exact hz)
 rw [hlen]
 refine ⟨.ref s.heap.objs.size,_,I.laid (t':=s.toks) (o:=.tup (ug xs lo hi)) (fun b ob q=>Heap.get?_push_of_some _ q) (Nat.le_refl _) ?_,rfl,q _ (I.hok.fresh (Nat.le_refl _))⟩
 exact ⟨Nat.le_trans (rT xs lo hi) hz,_,(r.drop (HT.sIx xs.length 0 lo)).take (HT.sIx xs.length xs.length hi - HT.sIx xs.length 0 lo),IsTup.new _ _⟩
end
end L2
namespace L2
open PySem PySem.Spec PyProof.Rows
def Ht (n:Nat) (i:Int):Option Nat:=if 0≤i then (if i < n then some i.toNat else none) else if -(n:Int)≤i then some (i+n).toNat else none
def yz {α:Type} (xs:List α) (i:Int):Option α:=(Ht xs.length i).bind fun j=>xs[j]?
theorem Cq {n:Nat} {i:Int} {j:Nat} (h:Ht n i=some j):seqIndex? i n=some j∧j < n∧-(n:Int)≤i∧i < n:=by
 unfold Ht at h
 by_cases h0:0≤i
 ·rw [if_pos h0] at h
  by_cases h1:i < n
  ·rw [if_pos h1] at h
   have e:i.toNat=j:=Option.some.inj h
   exact ⟨by rw [seqIndex_of h0 h1,e],by omega,by omega,h1⟩
  ·rw [if_neg h1] at h;cases h
 ·rw [if_neg h0] at h
  by_cases h1: -(n:Int)≤i
  ·rw [if_pos h1] at h
   have e:(i+n).toNat=j:=Option.some.inj h
   exact ⟨by rw [seqIndex_neg (by omega) h1,e],by omega,h1,by omega⟩
  ·rw [if_neg h1] at h;cases h
theorem wK {α:Type} {xs:List α} {i:Int} {v:α} (h:yz xs i=some v):∃ j,seqIndex? i xs.length=some j∧xs[j]?=some v∧j < xs.length∧-(xs.length:Int)≤i∧i < xs.length:=by
 unfold yz at h
 cases e:Ht xs.length i with
 | none=>rw [e] at h;cases h
 | some j=>
  rw [e] at h
  obtain ⟨h1,h2,h3,h4⟩:=Cq e
  exact ⟨j,h1,h,h2,h3,h4⟩
theorem lV {α:Type} {xs:List α} {j:Nat} {v:α} (h:xs[j]?=some v):yz xs (j:Int)=some v:=by
 have hj:j < xs.length:=(List.getElem?_eq_some_iff.mp h).1
 have e:Ht xs.length (j:Int)=some j:=by
  unfold Ht
  rw [if_pos (by omega),if_pos (by omega)];simp
 unfold yz;rw [e];exact h
def Cr (b:Expr):Prop:=∀ o i,subscripted b false o i=operate [o,i] (getItem o i)
def IxR (X:Cx) (r:R2):Prop:=
 ∀ (value slice:Expr) (pins:List (Addr×Obj)) (s:Shared) (σ:St) (H:Hp) (x y:V) (v u:Value) (Q:VK),Inv X pins σ H s→RelV x v→RelV y u→r x y H Q→
  subscripted slice false v u=operate [v,u] (getItem v u)→wpAny (model X.prog X.w) X.A (subscriptTail value slice v u) (EP X pins σ Q) X.xe s
def Vs (X:Cx) (id:String) (r:V→List V→Hp→VK→Prop):Prop:=
 ∀ (pins:List (Addr×Obj)) (s:Shared) (σ:St) (H:Hp) (x:V) (xs:List V) (v:Value) (us:List Value) (Q:VK),Inv X pins σ H s→RelV x v→Vals xs us→r x xs H Q→
  wpAny (model X.prog X.w) X.A (call (.builtin id) (v :: us)) (EP X pins σ Q) X.xe s
section
variable {X:Cx} {a b:Expr} {ta tb:TE} {pos:Pos}
theorem IxR.or {r r':R2} (h:IxR X r) (h':IxR X r'):IxR X (fun x y H Q=>r x y H Q∨r' x y H Q):=by
 intro value slice pins s σ H x y v u Q I rx ry q hs
 rcases q with q | q
 ·exact h value slice pins s σ H x y v u Q I rx ry q hs
 ·exact h' value slice pins s σ H x y v u Q I rx ry q hs
theorem VR {r:R2} (hr:IxR X r) (ha:PE X a ta) (hb:PE X b tb) (hs:Cr b):PE X (.Subscript a b pos) (Hf r ta tb):=by
 intro pins s σ H Q I h
 exact Subscript_ (Ry ha hb I h fun v u s2 x y H2 I2 rx ry q=>hr a b pins s2 σ H2 x y v u Q I2 rx ry q (hs _ _))
def V0 (K:PySem.W.Frag):R2:=fun x y H Q=>∃ p xs i v,x= .ref p∧y= .int i∧SqL K H p xs∧yz xs i=some v∧Q v H
def V1 (K:PySem.W.Frag):R2:=fun x y H Q=>∃ p xs i v,x= .ref p∧y= .int i∧SqT K H p xs∧yz xs i=some v∧Q v H
def V2:R2:=fun x y H Q=>∃ z i c,x= .str z∧y= .int i∧z.length≤sizeLine∧yz z.cps.toList i=some c∧Q (.str ⟨#[c]⟩) H
theorem Mj:IxR X (V0 X.K):=by
 intro value slice pins s σ H x y v u Q I rx ry h hs
 obtain ⟨p,xs,i,z,rfl,rfl,hq,he,q⟩:=h
 cases rx
 obtain ⟨t,rfl⟩:=ry
 obtain ⟨its,r,pl,hz⟩:=I.list hq
 obtain ⟨j,h1,h2,h3,h4,h5⟩:=wK he
 obtain ⟨w,ew,rw'⟩:=r.get h2
 have hl:=r.length
 have hn:=ue
 have fin:EP X pins σ Q w s:=⟨z,H,I,rw',q⟩
 by_cases h0:0≤i
 ·have hj:i.toNat=j:=by
   rw [seqIndex_of h0 h5] at h1
   exact Option.some.inj h1
  exact item_listR pl.isList h0 (by omega) (by rw [hj];simpa using ew) fin hs
 ·have hj:(i+(its.toArray.size:Int)).toNat=j:=by
   rw [seqIndex_neg (by omega) h4] at h1
   rw [List.size_toArray,← hl]
   exact Option.some.inj h1
  exact subscriptTail_builtinR (x:=w) pl.isList.typeIs slot_list_getitem.lookup
   (wpAny_getItem_list_neg (Q:=fun r s'=>r=w∧EP X pins σ Q r s') pl.isList (by omega) (by rw [List.size_toArray] <;> omega) (by omega) (by rw [hj];simpa using ew) ⟨rfl,fin⟩) hs
theorem RX:IxR X (V1 X.K):=by
 intro value slice pins s σ H x y v u Q I rx ry h hs
 obtain ⟨p,xs,i,z,rfl,rfl,hq,he,q⟩:=h
 cases rx
 obtain ⟨t,rfl⟩:=ry
 obtain ⟨its,r,pl,hz⟩:=I.tuple hq
 obtain ⟨j,h1,h2,h3,h4,h5⟩:=wK he
 obtain ⟨w,ew,rw'⟩:=r.get h2
 have hl:=r.length
 have hn:=ue
 have fin:EP X pins σ Q w s:=⟨z,H,I,rw',q⟩
 exact subscriptTail_builtinR (x:=w) pl.typeIs slot_tuple_getitem.lookup
  (getItem_tuple (j:=j) (Q:=fun r s'=>r=w∧EP X pins σ Q r s') pl (by omega) (by omega) (by rw [List.size_toArray,← hl];exact h1) (by simpa using ew) ⟨rfl,fin⟩) hs
theorem RZ:IxR X V2:=by
 intro value slice pins s σ H x y v u Q I rx ry h hs
 obtain ⟨z,i,c,rfl,rfl,hz,he,q⟩:=h
 obtain ⟨t,rfl⟩:=rx
 obtain ⟨t',rfl⟩:=ry
 obtain ⟨j,h1,h2,h3,h4,h5⟩:=wK he
 have hl:z.cps.toList.length=z.length:=by simp [Str.length]
 rw [hl] at h1 h4 h5
 have hn:=ue
 exact tail_any (typeIs_str s z t) slot_str_getitem.lookup (getItem_str (c:=c) (by
  have e1:decide (i < -(2 ^ 63:Int))=false:=decide_eq_false (by omega)
  have e2:decide (i≥2 ^ 63)=false:=decide_eq_false (by omega)
  rw [e1,e2,Bool.or_false]) (by rw [h1];simpa using h2) ⟨.str ⟨#[c]⟩,H,I.tok _,⟨_,rfl⟩,q⟩) hs
def R0 (K:PySem.W.Frag):R2:=fun x y H Q=>V0 K x y H Q∨V1 K x y H Q∨V2 x y H Q
theorem R1:IxR X (R0 X.K):=Mj.or (RX.or RZ)
theorem Aq (its:List Value) (n j:Nat) (u:Value):Obj.mapSeq (·.setIfInBounds j u) {cls:=.type "list",data:=.seq its.toArray n}={cls:=.type "list",data:=.seq (its.set j u).toArray n}:=by
 simp [Obj.mapSeq]
theorem Inv.lst {pins:List (Addr×Obj)} {σ:St} {H:Hp} {s:Shared} {p:Addr} {xs:List V} (I:Inv X pins σ H s) (h:H p=some (.lst xs)):
  ∃ (its:List Value) (n:Nat),Vals xs its∧s.heap.get? p=some {cls:=.type "list",data:=.seq its.toArray n}∧xs.length≤sizeLine:=by
 obtain ⟨z,its,n,r,e⟩:=I.hok p _ h
 exact ⟨its,n,r,e,z⟩
theorem Inv.lstUpd {pins:List (Addr×Obj)} {σ:St} {H:Hp} {s:Shared} {p:Addr} {xs ys:List V} {its its':List Value} {n n':Nat} {f:Obj→Obj} (I:Inv X pins σ H s) (h:H p=some (.lst xs))
  (ho:s.heap.get? p=some {cls:=.type "list",data:=.seq its.toArray n}) (hf:f {cls:=.type "list",data:=.seq its.toArray n}={cls:=.type "list",data:=.seq its'.toArray n'}) (r:Vals ys its') (hz:ys.length≤sizeLine) (t:Nat):
  Inv X pins σ (upd H p (.lst ys)) {s with heap:=s.heap.update p f,toks:=t}:=by
 have e:(s.heap.update p f).get? p=some {cls:=.type "list",data:=.seq its'.toArray n'}:=by
  rw [Heap.get?_update_self f ho (by rw [hf] <;> rfl),hf]
 refine I.write (x:=p) (e:=p) (by rw [h];trivial) (.inl rfl) (fun b u hb q=>(Heap.get?_update_other _ _ (Ne.symm hb)).trans q) ⟨_,e⟩ ?_
 exact ⟨hz,its',n',r,e⟩
def Hu:V→V→V→Hp→(Hp→Prop)→Prop:=fun o i v H Q=>∃ p xs k j,o= .ref p∧i= .int k∧H p=some (.lst xs)∧Ht xs.length k=some j∧Q (upd H p (.lst (xs.set j v)))
theorem set_list:Ln X Hu:=by
 intro pins s σ H o i v ov iv u Q I ro ri rv h
 obtain ⟨p,xs,k,j,rfl,rfl,hp,hj,q⟩:=h
 cases ro
 obtain ⟨t,rfl⟩:=ri
 obtain ⟨its,n,r,ho,hz⟩:=I.lst hp
 obtain ⟨h1,h2,h3,h4⟩:=Cq hj
 have hl:=r.length
 have hn:=ue
 have I':Inv X pins σ (upd H p (.lst (xs.set j v))) {s with heap:=s.heap.update p (Obj.mapSeq (·.setIfInBounds j u))}:=
  I.lstUpd hp ho (Aq its n j u) (r.set rv j) (by rw [List.length_set];exact hz) s.toks
 by_cases h0:0≤k
 ·have hk:k.toNat=j:=by
   rw [seqIndex_of h0 h4] at h1
   exact Option.some.inj h1
  exact PySem.W.ki_setAt ho h0 (by omega) (by rw [List.size_toArray,← hl];exact h4) (by rw [hk];exact ⟨_,I',q⟩)
 ·have hk:(k+(its.toArray.size:Int)).toNat=j:=by
   rw [seqIndex_neg (by omega) h3] at h1
   rw [List.size_toArray,← hl]
   exact Option.some.inj h1
  exact PySem.W.ki_setBack ho (by omega) (by rw [List.size_toArray,← hl];exact h3) (by omega) (by rw [hk];exact ⟨_,I',q⟩)
theorem wL (lo hi:Option Int) (n:Nat):(sliceBounds lo hi none n).1=((HT.sIx n 0 lo:Nat):Int)∧(sliceBounds lo hi none n).2.1=((HT.sIx n n hi:Nat):Int)∧(sliceBounds lo hi none n).2.2=1:=by
 refine ⟨?_,?_,rfl⟩
 ·cases lo with
  | none=>simp [sliceBounds,HT.sIx]
  | some i=>
   simp only [sliceBounds,HT.sIx,Option.getD_none,show (1:Int) > 0 by decide,if_true]
   by_cases h:i < 0
   ·simp only [h,if_true] <;> omega
   ·simp only [h,if_false] <;> omega
 ·cases hi with
  | none=>simp [sliceBounds,HT.sIx]
  | some i=>
   simp only [sliceBounds,HT.sIx,Option.getD_none,show (1:Int) > 0 by decide,if_true]
   by_cases h:i < 0
   ·simp only [h,if_true] <;> omega
   ·simp only [h,if_false] <;> omega
theorem uZ (its:List Value) (lo hi:Option Int):slicePick its.toArray lo hi none=((its.drop (HT.sIx its.length 0 lo)).take (HT.sIx its.length its.length hi - HT.sIx its.length 0 lo)).toArray:=by
 obtain ⟨h1,h2,h3⟩:=wL lo hi its.toArray.size
 unfold slicePick
 rw [h1,h2,h3]
 simp only [sliceRange_one,pick_run,List.size_toArray] <;> rfl
def V3 (K:PySem.W.Frag):V→Option Int→Option Int→Hp→VK→Prop:=fun x lo hi H Q=>∃ a xs,x= .ref a∧SqL K H a xs∧∀ p,H p=none→Q (.ref p) (upd H p (.lst (ug xs lo hi)))
theorem Ml:SlR X (V3 X.K):=by
 intro pins s σ H x v vl vu lo hi sl Q I rx hs pl pu h
 obtain ⟨a,xs,rfl,hx,q⟩:=h
 cases rx
 obtain ⟨its,r,ht,hz⟩:=I.list hx
 have hlen:=r.length
 refine ⟨"list",_,slot_list_getitem.lookup,ht.isList.typeIs,?_⟩
 refine wpAny_getItem_list_slice ht.isList hs pl pu .none (by simp) ?_ (by rw [List.size_toArray] <;> omega)
 rw [uZ,← hlen]
 refine ⟨.ref s.heap.objs.size,_,I.laid (t':=s.toks) (o:=.lst (ug xs lo hi)) (fun b ob q=>Heap.get?_push_of_some _ q) (Nat.le_refl _) ?_,rfl,q _ (I.hok.fresh (Nat.le_refl _))⟩
 exact ⟨Nat.le_trans (rT xs lo hi) hz,_,0,(r.drop (HT.sIx xs.length 0 lo)).take (HT.sIx xs.length xs.length hi - HT.sIx xs.length 0 lo),Heap.get?_push_size _ rfl⟩
def jl:V→Bool
 | .non=>true
 | .bl _=>true
 | .int _=>true
 | .str _=>true
 | _=>false
def Cu:V→V→Bool
 | .non,.non=>true
 | .bl a,.bl b=>a == b
 | .bl a,.int b=>(if a then 1 else 0) == b
 | .int a,.bl b=>a == (if b then 1 else 0)
 | .int a,.int b=>a == b
 | .str a,.str b=>a == b
 | _,_=>false
theorem q9 {A:Around} {s:Shared} {y x:V} {u v:Value} (ry:RelV y u) (rx:RelV x v) (fy:jl y=true) (fx:jl x=true):SeqAt.EqAt A s u v (Cu y x):=by
 cases y with
 | non=>
  cases ry
  cases x with
  | non=>cases rx;exact SeqAt.EqAt.same _
  | bl b=>cases rx;exact SeqAt.EqAt.none_bool b
  | int b=>obtain ⟨t,rfl⟩:=rx;exact SeqAt.EqAt.none_int b t
  | str b=>obtain ⟨t,rfl⟩:=rx;exact SeqAt.EqAt.none_str b t
  | _=>exact absurd (show false=true from fx) Bool.false_ne_true
 | bl a=>
  cases ry
  cases x with
  | non=>cases rx;exact SeqAt.EqAt.bool_none a
  | bl b=>cases rx;exact SeqAt.EqAt.bool_bool a b
  | int b=>obtain ⟨t,rfl⟩:=rx;exact SeqAt.EqAt.bool_int a b t
  | str b=>obtain ⟨t,rfl⟩:=rx;exact SeqAt.EqAt.bool_str a b t
  | _=>exact absurd (show false=true from fx) Bool.false_ne_true
 | int a=>
  obtain ⟨t',rfl⟩:=ry
  cases x with
  | non=>cases rx;exact SeqAt.EqAt.int_none a t'
  | bl b=>cases rx;exact SeqAt.EqAt.int_bool a t' b
  | int b=>obtain ⟨t,rfl⟩:=rx;exact SeqAt.EqAt.int_int a t' b t
  | str b=>obtain ⟨t,rfl⟩:=rx;exact SeqAt.EqAt.int_str a t' b t
  | _=>exact absurd (show false=true from fx) Bool.false_ne_true
 | str a=>
  obtain ⟨t',rfl⟩:=ry
  cases x with
  | non=>cases rx;exact SeqAt.EqAt.str_none a t'
  | bl b=>cases rx;exact SeqAt.EqAt.str_bool a t' b
  | int b=>obtain ⟨t,rfl⟩:=rx;exact SeqAt.EqAt.str_int a t' b t
  | str b=>obtain ⟨t,rfl⟩:=rx;exact SeqAt.EqAt.str_str a t' b t
  | _=>exact absurd (show false=true from fx) Bool.false_ne_true
 | _=>exact absurd (show false=true from fy) Bool.false_ne_true
def Ar (x:V) (u:Value):Bool:=match u with
 | .none=>Cu .non x
 | .bool b=>Cu (.bl b) x
 | .int i _=>Cu (.int i) x
 | .str z _=>Cu (.str z) x
 | _=>false
theorem Hv {x y:V} {u:Value} (r:RelV y u) (f:jl y=true):Ar x u=Cu y x:=by
 cases y with
 | non=>cases r;rfl
 | bl b=>cases r;rfl
 | int i=>obtain ⟨t,rfl⟩:=r;rfl
 | str z=>obtain ⟨t,rfl⟩:=r;rfl
 | _=>exact absurd (show false=true from f) Bool.false_ne_true
theorem qt {x:V}:∀ {xs:List V} {us:List Value},Vals xs us→xs.all jl=true→us.any (Ar x)=xs.any fun y=>Cu y x
 | _,_,.nil,_=>rfl
 | y :: xs,u :: us,.cons r t,f=>by
  rw [List.all_cons,Bool.and_eq_true] at f
  rw [List.any_cons,List.any_cons,Hv r f.1,qt t f.2]
theorem oE {A:Around} {s:Shared} {x:V} {v:Value} (rx:RelV x v) (fx:jl x=true):∀ {xs:List V} {us:List Value},Vals xs us→xs.all jl=true→∀ u∈us,SeqAt.EqAt A s u v (Ar x u)
 | _,_,.nil,_=>fun u hu=>by cases hu
 | y :: xs,u :: us,.cons r t,f=>fun u' hu=>by
  rw [List.all_cons,Bool.and_eq_true] at f
  rcases List.mem_cons.mp hu with rfl | hu
  ·rw [Hv r f.1];exact q9 r rx f.1 fx
  ·exact oE rx fx t f.2 u' hu
def inV (x:V) (xs:List V):Bool:=xs.any fun y=>Cu y x
def YM (K:PySem.W.Frag) (neg:Bool):R2:=fun x y H Q=>∃ p xs,y= .ref p∧(SqL K H p xs∨SqT K H p xs)∧jl x=true∧xs.all jl=true∧Q (.bl (if neg then !inV x xs else inV x xs)) H
theorem Eh:OpR X (compareOp .In) (YM X.K false):=by
 intro pins s σ H x y v u Q I rx ry h
 obtain ⟨p,xs,rfl,hq,fx,fs,q⟩:=h
 cases ry
 rcases hq with hq | hq
 ·obtain ⟨its,r,pl,hz⟩:=I.list hq
  refine SeqAt.in_listAt (Ar x) pl.isList (fun w hw=>oE rx fx r fs w (by simpa using hw)) ⟨.bl _,H,I,rfl,?_⟩
  rw [show its.toArray.any (Ar x)=its.any (Ar x) by simp,qt r fs]
  exact q
 ·obtain ⟨its,r,pl,hz⟩:=I.tuple hq
  refine SeqAt.in_tupleAt (Ar x) pl (fun w hw=>oE rx fx r fs w (by simpa using hw)) ⟨.bl _,H,I,rfl,?_⟩
  rw [show its.toArray.any (Ar x)=its.any (Ar x) by simp,qt r fs]
  exact q
theorem wM:OpR X (compareOp .NotIn) (YM X.K true):=by
 intro pins s σ H x y v u Q I rx ry h
 obtain ⟨p,xs,rfl,hq,fx,fs,q⟩:=h
 cases ry
 rcases hq with hq | hq
 ·obtain ⟨its,r,pl,hz⟩:=I.list hq
  refine SeqAt.notIn_listAt (Ar x) pl.isList (fun w hw=>oE rx fx r fs w (by simpa using hw)) ⟨.bl _,H,I,rfl,?_⟩
  rw [show its.toArray.any (Ar x)=its.any (Ar x) by simp,qt r fs]
  exact q
 ·obtain ⟨its,r,pl,hz⟩:=I.tuple hq
  refine SeqAt.notIn_tupleAt (Ar x) pl (fun w hw=>oE rx fx r fs w (by simpa using hw)) ⟨.bl _,H,I,rfl,?_⟩
  rw [show its.toArray.any (Ar x)=its.any (Ar x) by simp,qt r fs]
  exact q
theorem wN:OpR X (compareOp .NotIn) (fun x y H Q=>∃ i j,x= .str i∧y= .str j∧Q (.bl (!(!(Builtin.Str.occurrences j i 0 j.length 1).isEmpty))) H):=by
 intro pins s σ H x y v u Q I rx ry h
 obtain ⟨i,j,rfl,rfl,q⟩:=h
 obtain ⟨t,rfl⟩:=rx
 obtain ⟨t',rfl⟩:=ry
 exact notIn_str ⟨.bl _,H,I,rfl,q⟩
theorem CallR.or {f:Value} {r r':List V→Hp→VK→Prop} (h:CallR X f r) (h':CallR X f r'):CallR X f (fun xs H Q=>r xs H Q∨r' xs H Q):=by
 intro pins s σ H xs us Q I rs q
 rcases q with q | q
 ·exact h pins s σ H xs us Q I rs q
 ·exact h' pins s σ H xs us Q I rs q
theorem wO:CallR X (.type "list") (fun xs H Q=>∃ p ys,xs=[.ref p]∧(SqL X.K H p ys∨SqT X.K H p ys)∧∀ l,H l=none→Q (.ref l) (upd H l (.lst ys))):=by
 intro pins s σ H xs us Q I r h
 obtain ⟨p,ys,rfl,hq,q⟩:=h
 obtain ⟨u,rfl,rx⟩:=vals1 r
 cases rx
 have fin:∀ (its:List Value),Vals ys its→ys.length≤sizeLine→∀ (h':Heap) (c':Nat),(∀ b o',s.heap.get? b=some o'→h'.get? b=some o')→
   h'.get? s.heap.objs.size=some {cls:=.type "list",dict:=none,data:=.seq its.toArray c',slots:=#[]}→EP X pins σ Q (.ref s.heap.objs.size) {s with heap:=h'}:=fun its r' hz h' c' kp e=>
  ⟨.ref s.heap.objs.size,_,I.laid (t':=s.toks) kp (Nat.le_refl _) (show ObjOk X.prog X.w _ h' _ (.lst ys) from ⟨hz,its,c',r',e⟩),rfl,q _ (I.hok.fresh (Nat.le_refl _))⟩
 rcases hq with hq | hq
 ·obtain ⟨its,r',pl,hz⟩:=I.list hq
  have hlen:=r'.length
  obtain ⟨o,ho,hc,n,hd⟩:=pl.isList
  exact call_list_seq p (.inl rfl) ho hc hd (fun h' c' kp e=>fin its r' hz h' c' kp e) (by simp only [List.size_toArray] <;> omega)
 ·obtain ⟨its,r',pl,hz⟩:=I.tuple hq
  have hlen:=r'.length
  obtain ⟨o,ho,hc,n,hd⟩:=pl
  exact call_list_seq p (.inr rfl) ho hc hd (fun h' c' kp e=>fin its r' hz h' c' kp e) (by simp only [List.size_toArray] <;> omega)
def tyV (K:PySem.W.Frag) (T:String) (x:V) (H:Hp):Prop:=match x with
 | .str _=>T="str"
 | .int _=>T="int"
 | .ref p=>(T="list"∧∃ xs,SqL K H p xs)∨(T="tuple"∧∃ o,K.lookup p=some o∧o.cls= .type "tuple"∧o.dict=none)∨
   (T="dict"∧((∃ kvs,H p=some (.dK kvs))∨∃ kvs,H p=some (.dT kvs)))∨(T="set"∧∃ S n,H p=some (.set S n))
 | _=>False
theorem R3 {pins:List (Addr×Obj)} {σ:St} {H:Hp} {s:Shared} {T:String} {x:V} {v:Value} (I:Inv X pins σ H s) (r:RelV x v) (ty:tyV X.K T x H):
  s.TypeIs v T∧∀ a,v= .ref a→∃ ob,s.heap.get? a=some ob∧ob.dict=none:=by
 cases x with
 | str z=>
  obtain ⟨t,rfl⟩:=r
  cases (show T="str" from ty)
  exact ⟨typeIs_str s z t,fun _ e=>nomatch e⟩
 | int i=>
  obtain ⟨t,rfl⟩:=r
  cases (show T="int" from ty)
  exact ⟨typeIs_int s i t,fun _ e=>nomatch e⟩
 | ref p=>
  cases r
  rcases ty with ⟨rfl,xs,hq⟩ | ⟨rfl,o,hk,hc,hd⟩ | ⟨rfl,hk⟩ | ⟨rfl,S,n,hk⟩
  ·obtain ⟨its,_,pl,_⟩:=I.list hq
   refine ⟨pl.isList.typeIs,fun a e=>?_⟩
   cases e
   obtain ⟨o,n,e,c,hd,_⟩:=pl
   exact ⟨o,e,hd⟩
  ·refine ⟨⟨o,I.kIn p o hk,hc⟩,fun a e=>?_⟩
   cases e
   exact ⟨o,I.kIn _ o hk,hd⟩
  ·have z:∃ o,s.heap.get? p=some o∧o.ExactDict:=by
    rcases hk with ⟨kvs,hk⟩ | ⟨kvs,hk⟩
    ·obtain ⟨_,_,_,_,o,_,_,e,ex,_⟩:=I.hok p _ hk
     exact ⟨o,e,ex⟩
    ·obtain ⟨_,_,_,_,o,_,_,e,ex,_⟩:=I.hok p _ hk
     exact ⟨o,e,ex⟩
   obtain ⟨o,e,ex⟩:=z
   refine ⟨⟨o,e,ex.1⟩,fun a e2=>?_⟩
   cases e2
   exact ⟨o,e,ex.2.1⟩
  ·obtain ⟨o,_,_,_,e,ex,_⟩:=I.hok p _ hk
   refine ⟨⟨o,e,ex.1⟩,fun a e2=>?_⟩
   cases e2
   exact ⟨o,e,ex.2.1⟩
 | _=>exact False.elim ty
def V4 (K:PySem.W.Frag) (T:String) (r:V→List V→Hp→VK→Prop) (to:TE) (t:TA):TE:=fun σ H Q=>to σ H fun x H1=>tyV K T x H1∧t σ H1 fun xs H2=>r x xs H2 Q
variable {o e:Expr} {es:List Expr} {to:TE} {t:TA} {name:Str} {apos cpos:Pos} {T id:String} {r:V→List V→Hp→VK→Prop}
theorem V5 (pa:PlainAttrs T) (slot:Slot T name id) (hty:typeOf (.builtin id)=pure (.type "method_descriptor")) (hm:Vs X id r) (ho:PE X o to) (ha:PA X (e :: es) t)
  (hbase:autoParam (attributeBase o name X.env (eval o X.env)=eval o X.env) L2.auto4._auto_1)
  (hfew:((backTo cpos (starEach (e :: es) X.env)).all (fun x=>!x.1) && (backToKw cpos (keywordEach [] X.env)).all (fun x=>x.1.isSome)
   && decide ((e :: es).length+([]:List Keyword).length+(if ([]:List Keyword).isEmpty then 0 else 1) < 30))=true:=by rfl)
  (hline:autoParam ((apos.endLine == cpos.line)=true) L2.auto4._auto_1) (hs:autoParam (starEach (e :: es) X.env=(false,eval e X.env) :: starEach es X.env) L2.auto4._auto_1) (hplain:autoParam ((backTo cpos (starEach es X.env)).any (·.1)=false) L2.auto4._auto_1):
  PE X (.Call (.Attribute o name apos) (e :: es) [] cpos) (V4 X.K T r to t):=by
 intro pins s σ H Q I h
 refine wpAny_Call_method_late hbase hfew hline rfl (fJ (ho pins s σ H _ I h) fun v s1 qq0=>?_)
 obtain ⟨x,H1,I1,r1,ty,q1⟩:=qq0
 obtain ⟨h1,h2⟩:=R3 I1 r1 ty
 refine ⟨T,id,pa,slot,hty,h1,h2,?_⟩
 have hA:=ha cpos pins s1 σ H1 _ I1 q1
 rw [hs] at hA ⊢
 refine Calls.callWith_builtin (by show (false || (backTo cpos (starEach es X.env)).any (·.1))=false;rw [hplain] <;> rfl) (Calls.evalArgs_plain ?_)
 exact fJ hA fun us s2 ⟨vs,H2,I2,r2,q2⟩=>hm pins s2 σ H2 x vs v us Q I2 r1 r2 q2
end
end L2
namespace L2
open PySem PySem.Spec PyProof.Rows
def MtM (X:Cx) (id:String) (r:V→List V→Hp→VK→Prop):Prop:=
 ∀ (pins:List (Addr×Obj)) (s:Shared) (σ:St) (H:Hp) (x:V) (xs:List V) (v:Value) (us:List Value) (Q:VK),Inv X pins σ H s→RelV x v→Vals xs us→r x xs H Q→
  wpAny (model X.prog X.w) X.A (call (.builtin id) (v :: us)) (EP X pins σ Q) X.xe s
theorem Vals.one:∀ {x:V} {us:List Value},Vals [x] us→∃ u,us=[u]∧RelV x u
 | _,_,.cons r .nil=>⟨_,rfl,r⟩
theorem Vals.reverse {xs:List V} {us:List Value} (h:Vals xs us):Vals xs.reverse us.reverse:=by
 induction h with
 | nil=>exact .nil
 | cons r t ih=>rw [List.reverse_cons,List.reverse_cons];exact Vals.append ih (.cons r .nil)
theorem Vals.rep {xs:List V} {us:List Value} (h:Vals xs us):∀ k:Nat,Vals (List.replicate k xs).flatten (List.replicate k us).flatten
 | 0=>.nil
 | k+1=>by
  rw [List.replicate_succ,List.replicate_succ,List.flatten_cons,List.flatten_cons]
  exact Vals.append h (Vals.rep h k)
theorem foldl_rep (its:List Value):∀ (k:Nat) (acc:List Value),
  List.foldl (fun x1 x2=>x1 ++ x2) acc.toArray (List.replicate k its.toArray)=(acc ++ (List.replicate k its).flatten).toArray
 | 0,acc=>by simp
 | k+1,acc=>by
  have e:acc.toArray ++ its.toArray=(acc ++ its).toArray:=by simp
  have e2:(acc ++ its) ++ (List.replicate k its).flatten=acc ++ (List.replicate (k+1) its).flatten:=by
   rw [List.replicate_succ,List.flatten_cons,List.append_assoc]
  rw [← e2,← foldl_rep its k (acc ++ its),← e,List.replicate_succ,List.foldl_cons]
section
variable {X:Cx} {pins:List (Addr×Obj)} {σ:St} {H:Hp} {s:Shared} {l b:Addr} {xs ys zs:List V}
theorem Inv.lset {its its':List Value} {n:Nat} {f:Array Value→Array Value} {t':Nat} (I:Inv X pins σ H s) (hH:H l=some (.lst xs))
  (e:s.heap.get? l=some {cls:=.type "list",data:=.seq its.toArray n}) (hf:f its.toArray=its'.toArray) (hv:Vals ys its') (hz:ys.length≤sizeLine):
  Inv X pins σ (upd H l (.lst ys)) {s with heap:=s.heap.update l (Obj.mapSeq f),toks:=t'}:=by
 have q:=PySem.IsL.update e f
 rw [hf] at q
 refine I.write (x:=l) (e:=l) (by rw [hH];exact trivial) (.inl rfl) (fun b' u hb hu=>(Heap.get?_update_other s.heap (Obj.mapSeq f) (Ne.symm hb)).trans hu) ⟨_,q⟩ ?_
 exact ⟨hz,its',_,hv,q⟩
theorem Inv.lnew {its:List Value} {t':Nat} (I:Inv X pins σ H s) (hv:Vals ys its) (hz:ys.length≤sizeLine):
  Inv X pins σ (upd H s.heap.objs.size (.lst ys)) {s with heap:=s.heap.push {cls:=.type "list",data:=.seq its.toArray},toks:=t'}:=
 I.laid (fun _ _ q=>Heap.get?_push_of_some _ q) (Nat.le_refl _) ⟨hz,its,0,hv,Heap.get?_push_size _ rfl⟩
theorem Inv.fresh (I:Inv X pins σ H s):H s.heap.objs.size=none:=I.hok.fresh (Nat.le_refl _)
theorem Inv.lstM (I:Inv X pins σ H s) (hH:H l=some (.lst xs)):xs.length≤sizeLine∧∃ (its:List Value) (n:Nat),Vals xs its∧xs.length=its.length∧s.heap.get? l=some {cls:=.type "list",data:=.seq its.toArray n}:=by
 obtain ⟨z,its,n,r,e⟩:=I.hok l _ hH
 exact ⟨z,its,n,r,r.length,e⟩
theorem Hw {n:Nat} (h:n≤sizeLine):Builtin.List.listTooLong n=false:=by
 unfold Builtin.List.listTooLong
 exact decide_eq_false (by omega)
end
section
variable {X:Cx}
def Cv:V→List V→Hp→VK→Prop:=fun x vs H Q=>∃ l xs y,x= .ref l∧vs=[y]∧H l=some (.lst xs)∧xs.length < sizeLine∧Q .non (upd H l (.lst (xs ++ [y])))
theorem o9:MtM X "list.append" Cv:=by
 intro pins s σ H x vs v us Q I rx rv h
 obtain ⟨l,xs,y,rfl,rfl,hH,hz,q⟩:=h
 cases rx
 obtain ⟨u,rfl,ru⟩:=rv.one
 obtain ⟨z,its,n,r,hl,e⟩:=I.lstM hH
 refine call_meets F.slot_list_append ⟨_,e,rfl⟩ F.entry_list_append (F.args_list_append_2 _ _) (PySem.list_append l its.toArray n u (by rw [List.size_toArray];omega)) ⟨e,?_⟩
 refine ⟨.non,_,I.lset (its':=its ++ [u]) hH e (by simp) (r.append (.cons ru .nil)) ?_,rfl,q⟩
 rw [List.length_append,List.length_singleton]
 omega
def V6:R2:=fun x y H Q=>∃ l b xs zs,x= .ref l∧y= .ref b∧H l=some (.lst xs)∧H b=some (.lst zs)∧xs.length+zs.length≤sizeLine∧∀ p,H p=none→Q (.ref p) (upd H p (.lst (xs ++ zs)))
theorem R4:OpR X (binaryOp .Add) V6:=by
 intro pins s σ H x y v u Q I rx ry h
 obtain ⟨l,b,xs,zs,rfl,rfl,hH,hB,hz,q⟩:=h
 cases rx
 cases ry
 obtain ⟨z,its,n,r,hl,e⟩:=I.lstM hH
 obtain ⟨z2,its2,n2,r2,hl2,e2⟩:=I.lstM hB
 refine PySem.P.add_list e e2 ?_ (by rw [List.size_toArray,List.size_toArray];omega)
 have ea:its.toArray ++ its2.toArray=(its ++ its2).toArray:=by simp
 rw [ea]
 exact ⟨.ref _,_,I.lnew (t':=s.toks) (r.append r2) (by rw [List.length_append];omega),rfl,q _ I.fresh⟩
def V7:R2:=fun x y H Q=>∃ l k xs,x= .ref l∧y= .int k∧H l=some (.lst xs)∧-(2 ^ 63)≤k∧k < 2 ^ 63∧xs.length*k.toNat≤sizeLine∧
 ∀ p,H p=none→Q (.ref p) (upd H p (.lst (List.replicate k.toNat xs).flatten))
theorem len_rep {α:Type} (xs:List α) (k:Nat):(List.replicate k xs).flatten.length=k*xs.length:=by
 induction k with
 | zero=>simp
 | succ k ih=>rw [List.replicate_succ,List.flatten_cons,List.length_append,ih,Nat.succ_mul,Nat.add_comm]
theorem R5:OpR X (binaryOp .Mult) V7:=by
 intro pins s σ H x y v u Q I rx ry h
 obtain ⟨l,k,xs,rfl,rfl,hH,h1,h2,hz,q⟩:=h
 cases rx
 obtain ⟨t,rfl⟩:=ry
 obtain ⟨z,its,n,r,hl,e⟩:=I.lstM hH
 have hlen:its.toArray.size*k.toNat≤sizeLine:=by rw [List.size_toArray,← hl];exact hz
 have hcap:¬ its.toArray.size*k.toNat > (2 ^ 63 - 1) / 8:=by
  have:(sizeLine:Nat)≤(2 ^ 63 - 1) / 8:=by decide
  omega
 have hfit:¬ (!Builtin.List.listFitsIndex k)=true:=by
  rw [fitsIndex_both h1 h2]
  exact Bool.false_ne_true
 have hlong:¬ Builtin.List.listTooLong (its.toArray.size*k.toNat)=true:=by
  rw [Hw hlen]
  exact Bool.false_ne_true
 have hnew:List.foldl (fun x1 x2=>x1 ++ x2) #[] (List.replicate (if its.toArray.isEmpty=true then 0 else k.toNat) its.toArray)=(List.replicate k.toNat its).flatten.toArray:=by
  have f0:∀ m:Nat,List.foldl (fun x1 x2=>x1 ++ x2) #[] (List.replicate m its.toArray)=(List.replicate m its).flatten.toArray:=fun m=>by
   have:=foldl_rep its m []
   rw [List.nil_append] at this
   exact this
  rw [f0]
  cases its with
  | nil=>simp
  | cons a r'=>rw [if_neg (by simp)]
 refine wpAny_binaryOp_repeat_ref (T:="list") (U:="int") (by decide) ⟨_,e,rfl⟩ (fun s'=>typeIs_int s' k t) noFill_list_mul F.fills_int_mul F.slot_int_rmul repeat_list F.slot_int_index.lookup
  (call_meets F.slot_int_rmul (typeIs_int s k t) F.entry_int_rmul (F.args_int_rmul_2 _ _) (int___rmul___int_list k t l its.toArray n)
   ⟨e,rfl,⟨_,e,rfl⟩,call_meets F.slot_list_mul ⟨_,e,rfl⟩ F.entry_list_mul (F.args_list_mul_2 _ _) (AutoListH.list___mul___list_int_3 l its.toArray n k t hfit hcap hlong) ⟨e,?_⟩⟩)
 rw [hnew]
 exact ⟨.ref _,_,I.lnew (t':=s.toks) (r.rep k.toNat) (by rw [len_rep,Nat.mul_comm];exact hz),rfl,q _ I.fresh⟩
end
section
variable {prog:Program} {w:World} {A:Around} {E:Value→Shared→Prop} {s:Shared}
end
section
variable {X:Cx}
end
end L2
namespace Att
open PySem PySem.W PySem.Calls PyProof.Rows
theorem sY {P:Params} {h:Heap}:∀ (ns:List Int) (vs:List Value),WellAll P h vs (ns.map WData.int)→IntsAre vs ns:=by
 intro ns
 induction ns with
 | nil=>
  intro vs w
  rw [List.map_nil] at w
  cases w
  exact .nil
 | cons n ns ih=>
  intro vs w
  rw [List.map_cons] at w
  cases w with
  | cons a b=>
   cases a
   exact .cons _ _ (ih _ b)
theorem Ei {l:OpenLaw} {n:Nat} (hn:l.most=some n) {P:Params} {h:Heap} {args:List WData} {vals:List Value}
  (hpre:l.row.toRowW.claim.pre args=true) (hwl:WellAll P h vals args):
  ∃ a vs ns,vals=[Value.ref a]∧args=[WData.list (ns.map WData.int)]∧h.get? a=some {cls:=.type "list",data:=.seq vs.toArray}∧IntsAre vs ns∧ns.length≤n:=by
 have hsh:WShape.hasAll [] args [.list .int]=true:=(pre_splitW hpre).1
 have hc:l.pre.holds [] {args:=args}=true:=(pre_splitW hpre).2
 obtain ⟨d,r,rfl,h1,h2⟩:=hasAllW_cons hsh
 obtain rfl:=hasAllW_nil h2
 obtain ⟨xs,rfl,h3⟩:=hasW_list h1
 obtain ⟨ns,rfl⟩:=items_int h3
 have hlen:ns.length≤n:=by
  unfold OpenLaw.pre at hc
  have h4:(WTm.not (.lt (.lit (.int (n:Int))) (.len (.arg 0)))).holds [] {args:=[.list (ns.map .int)]}=true:=by
   have h4:=(holds_andW hc).1
   rw [hn] at h4
   exact h4
  have h5:=condW_of h4 (w_not (w_lt w_lit (w_len_list (w_arg rfl))))
  rw [List.length_map] at h5
  refine Nat.le_of_not_lt fun q=>?_
  have q':(n:Int) < ((ns.length:Nat):Int):=by omega
  first
   | (rw [decide_eq_true q'] at h5;exact absurd h5 (by decide))
   | (simp at h5;omega)
 cases hwl with
 | cons w1 w2=>
  cases w2
  cases w1 with
  | list ho hall=>exact ⟨_,_,ns,rfl,rfl,ho,sY ns _ hall,hlen⟩
theorem Ej (l:OpenLaw) (args:List WData):l.row.toRowW.claim.post args (.bool true) args=true:=
 postW_of (r:=l.row.toRowW) (X:=(true == true))
  (show WShape.has [] (.bool true) .bool=true by first | rfl | decide | simp [WShape.has,WShape.arms,WShape.armsAll])
  (show (WTm.eq .res (.lit (.bool true))).value [] {args:=args,res:=some (.bool true),after:=args}=some (.bool (true == true)) from w_eq_bool (w_res rfl) w_lit) rfl
theorem attach_call {l:OpenLaw} {n:Nat} {q:Program} {loose:List Str} {XP:(Str→Option Value)→Heap→Prop} {YP:World→Heap→Prop} {d:DefRec}
  (hn:l.most=some n) (hdf:d.params.defaults=[])
  (call:∀ (w:World) (s₀ s₁:Shared) (mg mb:Str→Option Value) (fa:Addr) (o:Obj) (pm cd doc:Value) (a:Addr) (vs:List Value) (ns:List Int),
   Ground q loose [] XP w s₀ mg mb s₁.heap→YP w s₁.heap→
   s₁.heap.get? fa=some o→o.data= .func (docDef d.name d.params d.body d.scope pm cd doc)→s₁.heap.CodeRec cd d.name→mg d.name=some (.ref fa)→
   s₁.heap.get? a=some {cls:=.type "list",data:=.seq vs.toArray}→IntsAre vs ns→ns.length≤n→s₁.gens= #[]→
   codeAny (model l.prog w) callerA (.call (.ref fa) ⟨[.ref a],[]⟩) (fun r s'=>r= .ok (.ret (.bool true))∧OldK s₁.heap s'.heap∧s'.os=s₁.os∧AllBare s'.gens) s₁):
  WalkO q loose XP YP l.row.toRowW d [] (fun f vs=>PySem.call f vs):=by
 intro w s₀ s₁ mg mb G Y fa o pm cd doc dV kV ho hd hcd hD hmg hg args vals as hpre hlay hrd hwl hlo
 obtain rfl:dV= .none:=Dflts.none hD hdf
 obtain rfl:kV= .none:=Dflts.noKw hD
 obtain ⟨a,vs,ns,rfl,rfl,hobj,hints,hlen⟩:=Ei hn hpre hwl
 refine enter_call (codeAny_mono (call w s₀ s₁ mg mb fa o pm cd doc a vs ns G Y ho (fd_plain hd) hcd hmg hobj hints hlen hg) fun r s' hq=>?_)
 obtain ⟨rfl,h2,h3,h4⟩:=hq
 exact ⟨.inl ⟨.bool true,.bool true,[],rfl,fun _=>rfl,.bool true,Ej l _,fun _=>⟨List.Pairwise.nil,fun _ hm=>(nomatch hm)⟩⟩,h2,h3,h4⟩
section
variable {prog:Program} {w:World} {A:Around} {E:Value→Shared→Prop} {s:Shared} {K:Frag}
end
end Att
namespace L2
open PySem PySem.Spec PyProof.Rows
theorem vO:∀ {vs:List Value} {ns:List Int},IntsAre vs ns→Vals (ns.map V.int) vs
 | _,_,.nil=>.nil
 | _,_,.cons n t h=>.cons ⟨t,rfl⟩ (vO h)
def Only (H:Hp):Prop:=∀ b,H b=none∨∃ o xs,H b=some (.frz o (.lst xs))
theorem Hy {P:Program} {w:World} {K:PySem.W.Frag} {mg mb:Str→Option Value} {CX:Ed} {k:Nat} {fa a:Addr} {fd:FuncData} {x:Str} {sp:Sp} {s₁:Shared} {vs:List Value} {ns:List Int}
  (KX:K.In s₁.heap) (hns:s₁.heap.Ns mainGlobals mg) (hb:s₁.heap.Ns builtinsNs mb) (hbb:∀ x:Str,x≠"__name__"→mb x=bootBuiltins x) (hlim:s₁.heap.NoLimit) (hsm:∃ mm,s₁.heap.Ns sysModules mm) (hg:s₁.gens= #[])
  (ha:s₁.heap.get? a=some {cls:=.type "list",data:=.seq vs.toArray}) (hi:IntsAre vs ns) (hl:ns.length≤sizeLine) (hr:Room k callerA)
  (F:∀ base:Heap,K.In base→base.Ns mainGlobals mg→FnOk P w K mg base CX k fa fd [x] sp) (hbind:∀ (s:Shared) (u:Value),BindsTo s fd ⟨[u],[]⟩ [(x,u)])
  (hsp:∀ H:Hp,Only H→SqL K H a (ns.map V.int)→sp [.ref a] H (fun v _=>v= .bl true) fun _ _ _=>False)
  (hCX:∀ H e s',CX [] H s₁ (fun _ _ _=>False) e s'→False):
  codeAny (model P w) callerA (.call (.ref fa) ⟨[.ref a],[]⟩) (fun r s'=>r= .ok (.ret (.bool true))∧OldK s₁.heap s'.heap∧s'.os=s₁.os∧AllBare s'.gens) s₁:=by
 have rv:=vO hi
 have lenV:=hi.length
 have core:∀ H:Hp,Only H→SqL K H a (ns.map V.int)→HOk P w H s₁.heap→(∀ b,H b≠none→b=a)→(H a≠none→K.lookup a=none)→
   codeAny (model P w) callerA (.call (.ref fa) ⟨[.ref a],[]⟩) (fun r s'=>r= .ok (.ret (.bool true))∧OldK s₁.heap s'.heap∧s'.os=s₁.os∧AllBare s'.gens) s₁:=by
  intro H hO hS hok hA hK
  have base_of:∀ {b:Addr} {o:Obj},s₁.heap.get? b=some o→H b=none→(wF s₁.heap H).get? b=some o:=fun e n=>Gx e n
  have noA:∀ {b:Addr} {o:Obj} {es:Array DictEntry} {ep:Nat},s₁.heap.get? b=some o→o.data= .dict es ep→H b=none:=fun {b o es ep} e d=>by
   cases q:H b with
   | none=>rfl
   | some u=>
    have e':b=a:=hA b (by rw [q];simp)
    subst e'
    rw [ha] at e;cases e
    have d':Data.seq vs.toArray _=Data.dict es ep:=d
    cases d'
  have nsK:∀ {b:Addr} {m:Str→Option Value},s₁.heap.Ns b m→(wF s₁.heap H).Ns b m:=fun {b m} ⟨o,es,ep,e,d,r⟩=>⟨o,es,ep,base_of e (noA e d),d,r⟩
  have hKb:K.In (wF s₁.heap H):=fun b o e=>base_of (KX b o e) (by
   cases q:H b with
   | none=>rfl
   | some u=>
    have e':b=a:=hA b (by rw [q];simp)
    subst e'
    rw [hK (by rw [q];simp)] at e;cases e)
  have hM:Mod K mg (wF s₁.heap H):=⟨hKb,nsK hns,⟨mb,nsK hb,hbb⟩,(let ⟨mc,h1,h2⟩:=hlim;⟨mc,nsK h1,h2⟩),let ⟨mm,h1⟩:=hsm;⟨mm,nsK h1⟩⟩
  have e0:Env0 P w K mg (wF s₁.heap H) callerA [] s₁ H:=⟨rfl,hM,fun b o e=>Ld e,Nat.le_of_eq (DN _ _),trivial,fun b hb=>absurd (show b∈([]:List Addr) from hb) (by simp),hok,.of_eq hg⟩
  refine codeAny_mono ((F _ hKb (nsK hns)).run callerA [] s₁ H ⟨[.ref a],[]⟩ [.ref a] [.ref a] _ _ hr e0 (hbind s₁ (.ref a)) (.cons rfl .nil) (hsp H hO hS)) fun r s' h=>?_
  cases r with
  | error e=>exact (hCX H e s' h).elim
  | ok fl=>
   cases fl with
   | next=>exact False.elim h
   | brk=>exact False.elim h
   | cont=>exact False.elim h
   | ret u=>
    obtain ⟨v,H',os,bare,un,hok',r',q⟩:=h
    have q':v= .bl true:=q
    subst q'
    obtain rfl:u=Value.bool true:=r'
    refine ⟨rfl,OldK.of_keep fun b o e=>?_,os,bare⟩
    cases q:H b with
    | none=>exact un.keep b o e q (by intro z;exact absurd (show b∈([]:List Addr) from z) (by simp)) (by simp)
    | some u=>
     rcases hO b with z | ⟨ob,xs,z⟩
     ·rw [q] at z;cases z
     ·have z2:=un.frzs b ob _ z
      obtain ⟨e1,_⟩:=hok b _ z
      obtain ⟨e2,_⟩:=hok' b _ z2
      rw [e] at e1;cases e1
      exact e2
 cases hk:K.lookup a with
 | some o=>
  have e:=KX a o hk
  rw [ha] at e
  cases e
  refine core (fun _=>none) (fun _=>.inl rfl) (.inr ⟨_,vs.toArray,_,hk,rfl,rfl,rfl,by rw [List.size_toArray,lenV];exact hl,by simpa using rv⟩) (fun b u z=>by have z':(none:Option HO)=some u:=z;cases z') (fun b z=>absurd rfl z) fun z=>absurd rfl z
 | none=>
  refine core (fun b=>if b=a then some (.frz {cls:=.type "list",data:=.seq vs.toArray} (.lst (ns.map V.int))) else none) (fun b=>?_) (.inl (.inr ⟨{cls:=.type "list",data:=.seq vs.toArray},if_pos rfl⟩)) (fun b u z=>?_) (fun b z=>?_) fun _=>hk
  ·by_cases hb:b=a
   ·exact .inr ⟨_,_,if_pos hb⟩
   ·exact .inl (if_neg hb)
  ·by_cases hb:b=a
   ·have z':=(if_pos hb).symm.trans z
    cases z'
    subst hb
    exact ⟨ha,by rw [List.length_map];exact hl,vs,_,rv,ha⟩
   ·have z':=(if_neg hb).symm.trans z
    cases z'
  ·by_cases hb:b=a
   ·exact hb
   ·exact absurd (if_neg hb) z
end L2
namespace L2
open PySem PySem.Spec PyProof.Rows
abbrev KOf {K:PySem.W.Frag} {h:Heap} (_:K.In h):PySem.W.Frag:=K
theorem Mm {l:PySem.W.OpenLaw} {n k:Nat} {q:Program} {loose:List Str} {XP:(Str→Option Value)→Heap→Prop} {YP:World→Heap→Prop} {d:DefRec} {K:Params→PySem.W.Frag} {CX:World→Ed} {sp:World→Sp} {x:Str}
  (hn:l.most=some n) (hn2:n≤sizeLine) (hdf:d.params.defaults=[]) (hr:Room k callerA)
  (hY:∀ (w:World) (h:Heap),YP w h→(K w.params).In h)
  (F:∀ (w:World) (mg:Str→Option Value) (fa:Addr) (h:Heap),(K w.params).In h→h.Ns mainGlobals mg→mg d.name=some (.ref fa)→
   ∃ fd:FuncData,(∀ (s:Shared) (u:Value),BindsTo s fd ⟨[u],[]⟩ [(x,u)])∧
    ∀ base:Heap,(K w.params).In base→base.Ns mainGlobals mg→FnOk l.prog w (K w.params) mg base (CX w) k fa fd [x] (sp w))
  (hsp:∀ (w:World) (H:Hp) (a:Addr) (ns:List Int),ns.length≤n→Only H→SqL (K w.params) H a (ns.map V.int)→sp w [.ref a] H (fun v _=>v= .bl true) fun _ _ _=>False)
  (hCX:∀ (w:World) (H:Hp) (s:Shared) (e:Value) (s':Shared),CX w [] H s (fun _ _ _=>False) e s'→False) (him:importsNone q=true):
  PySem.W.WalkO q loose XP YP l.row.toRowW d [] (fun f vs=>PySem.call f vs):=by
 refine Att.attach_call hn hdf fun w s₀ s₁ mg mb fa o pm cd doc a vs ns G Y ho hd hcd hmg hobj hints hlen hg=>?_
 have KX:=hY w _ Y
 obtain ⟨fd,hb,hF⟩:=F w mg fa _ KX G.T.g hmg
 exact Hy KX G.T.g G.T.b G.T.builtins G.T.nolimit (let ⟨mm,h1,_⟩:=(G.T.seer him).mods;⟨mm,h1⟩) hg hobj hints (Nat.le_trans hlen hn2) hr hF hb (fun H hO hS=>hsp w H a ns hlen hO hS) fun H e s'=>hCX w H s₁ e s'
end L2
namespace L2
open PySem PySem.Spec PyProof.Rows
def gw (s:Stmt):Arguments:=match s with
 | .FunctionDef _ a _ _ _ _ _ _ _ _=>a
 | _=>{posonlyargs:=[],args:=[],vararg:=none,kwonlyargs:=[],kw_defaults:=[],kwarg:=none,defaults:=[]}
def cj (s:Stmt):List Stmt:=match s with
 | .FunctionDef _ _ b _ _ _ _ _ _ _=>b
 | _=>[]
def aq (s:Stmt):Scope:=match s with
 | .FunctionDef _ _ _ _ _ _ sc _ _ _=>sc
 | _=>{kind:=.function,names:=[],isGenerator:=false,isCoroutine:=false}
abbrev Av:Ed:=fun _ _ _ _ _ _=>False
abbrev E0:XK:=fun _ _ _=>False
theorem V8 {X:Cx}:Am Av X E0:=fun _ _ _ _ _ _ _ h=>h.elim
structure Fun (K:PySem.W.Frag) (x qual:Str) (st:Stmt) (f:Addr) (fd:FuncData):Prop where
 ex:∃ (oc:Value) (od:Option Addr) (kV doc pm:Value) (an:Option Addr) (cdv ct:Value) (osl:Array (Option Value)),
  fd=PySem.W.fnOf x qual (gw st) (cj st) (aq st) .none kV doc pm an cdv ct∧K.lookup f=some ⟨oc,od,.func fd,osl⟩∧PySem.W.codeIn K cdv qual=true
 kp:PySem.W.keepIn K (.ref f)=true
section
variable {P:Program} {w:World} {K:PySem.W.Frag} {mg:Str→Option Value} {base:Heap}
theorem Fun.ok {x qual:Str} {st:Stmt} {f:Addr} {fd:FuncData} {N ps:List Str} {k:Nat} {sp:Sp} (F:Fun K x qual st f fd) (S:aC N ps (aq st)) (len:∀ vs H Q E,sp vs H Q E→vs.length=ps.length)
  (hbody:∀ (cdv:Value) (A:Around) (outer:List Env) (s:Shared) (H:Hp) (vs:List V) (Q:VK) (E:XK),Room k (A.deeper (envOfC qual (aq st) s.heap.objs.size f cdv))→sp vs H Q E→
   ∃ t,PSs (pG Av P w K mg base N qual (aq st) f cdv A outer s H E).nox (cj st) t∧t {nx:=fun _ H'=>Q .non H',rt:=Q} (start N vs) H):FnOk P w K mg base Av (k+1) f fd ps sp:=by
 obtain ⟨oc,od,kV,doc,pm,an,cdv,ct,osl,rfl,lk,hcd⟩:=F.ex
 refine Cp lk hcd S len fun A outer s H vs Q E hr hsp=>?_
 obtain ⟨t,h,q⟩:=hbody cdv A outer s H vs Q E hr hsp
 exact ⟨t,h.nox,q⟩
theorem Fun.binds {x qual:Str} {st:Stmt} {f:Addr} {fd:FuncData} {ps:List Str} (F:Fun K x qual st f fd)
  (h:∀ (kV doc pm:Value) (an:Option Addr) (cdv ct:Value) (us:List Value),us.length=ps.length→bindArgs (PySem.W.fnOf x qual (gw st) (cj st) (aq st) .none kV doc pm an cdv ct) ⟨us,[]⟩=pure (ps.zip us)):Binds K fd ps []:=by
 obtain ⟨oc,od,kV,doc,pm,an,cdv,ct,osl,rfl,lk,hcd⟩:=F.ex
 exact .all (h kV doc pm an cdv ct)
theorem uh {x qual:Str} {st:Stmt} {f:Addr} {oc:Value} {od an:Option Addr} {osl:Array (Option Value)} {kV doc pm cdv ct:Value} (l:K.lookup f=some ⟨oc,od,.func (PySem.W.fnOf x qual (gw st) (cj st) (aq st) .none kV doc pm an cdv ct),osl⟩)
  (c:PySem.W.codeIn K cdv qual=true) (k:PySem.W.keepIn K (.ref f)=true):Fun K x qual st f (PySem.W.fnOf x qual (gw st) (cj st) (aq st) .none kV doc pm an cdv ct):=⟨⟨oc,od,kV,doc,pm,an,cdv,ct,osl,rfl,l,c⟩,k⟩
end
section
variable {X:Cx}
end
theorem jy {A B:Prop} (h:B):if false=true then A else B:=by
 rw [if_neg Bool.false_ne_true]
 exact h
theorem jA {A B:Prop} (h:A):if true=true then A else B:=by
 rw [if_pos rfl]
 exact h
def Same (H H':Hp):Prop:=∀ b o,H b=some o→H' b=some o
theorem Same.refl (H:Hp):Same H H:=fun _ _ h=>h
theorem Same.trans {H H1 H2:Hp} (a:Same H H1) (b:Same H1 H2):Same H H2:=fun c o h=>b c o (a c o h)
end L2
set_option maxHeartbeats 4000000
namespace L2
open PySem PySem.Spec PyProof.Rows
def sZ (env:Env):List (Str×NameKind)→List (Str×Addr)→List (Str×Addr)
 | [],acc=>acc
 | (n,k) :: r,acc=>sZ env r (if k == .free then (match env.cells.lookup n with | some c=>(n,c) :: acc | none=>acc) else acc)
theorem um {env:Env}:∀ {names:List (Str×NameKind)} {acc:List (Str×Addr)},(∀ x c,(x,c)∈acc→env.cells.lookup x=some c)→∀ x c,(x,c)∈sZ env names acc→env.cells.lookup x=some c
 | [],_,h,x,c,m=>h x c m
 | (n,k) :: r,acc,h,x,c,m=>by
  refine um (names:=r) ?_ x c m
  intro y d hm
  cases hk:(k == NameKind.free) with
  | false=>rw [hk] at hm;exact h y d hm
  | true=>
   rw [hk] at hm
   simp only [if_true] at hm
   cases e:env.cells.lookup n with
   | none=>rw [e] at hm;exact h y d hm
   | some c'=>
    rw [e] at hm
    rcases List.mem_cons.mp hm with z | z
    ·cases z;exact e
    ·exact h y d z
theorem yC {env:Env}:∀ {names:List (Str×NameKind)} {acc:List (Str×Addr)} {p:Str×Addr},p∈acc→p∈sZ env names acc
 | [],_,_,h=>h
 | (n,k) :: r,acc,p,h=>by
  refine yC (names:=r) ?_
  split
  ·split
   ·exact List.mem_cons_of_mem _ h
   ·exact h
  ·exact h
theorem uo {env:Env} {x:Str} {c:Addr} (e:env.cells.lookup x=some c):∀ {names:List (Str×NameKind)} {acc:List (Str×Addr)},(x,NameKind.free)∈names→(x,c)∈sZ env names acc
 | [],_,h=>by simp at h
 | (n,k) :: r,acc,h=>by
  rcases List.mem_cons.mp h with z | z
  ·cases z
   refine yC (names:=r) ?_
   rw [e]
   simp
  ·exact uo e (names:=r) z
theorem u0 {l:List (Str×Addr)} {x:Str} {c:Addr} (hm:(x,c)∈l) (ha:∀ d,(x,d)∈l→d=c):l.lookup x=some c:=by
 induction l with
 | nil=>simp at hm
 | cons p r ih=>
  obtain ⟨n,d⟩:=p
  by_cases e:x=n
  ·subst e
   have:d=c:=ha d (by simp)
   subst this
   simp [List.lookup_cons]
  ·have hb:(x == n)=false:=by simpa using e
   rw [List.lookup_cons,hb]
   refine ih ?_ fun d' h'=>ha d' (List.mem_cons_of_mem _ h')
   rcases List.mem_cons.mp hm with z | z
   ·cases z;exact absurd rfl e
   ·exact z
theorem yD {env:Env} {names:List (Str×NameKind)} {x:Str} {c:Addr} (e:env.cells.lookup x=some c) (h:(x,NameKind.free)∈names):(sZ env names []).lookup x=some c:=
 u0 (uo e h) fun d hd=>by
  have q:=um (names:=names) (acc:=[]) (env:=env) (by simp) x d hd
  rw [e] at q
  exact (Option.some.inj q).symm
theorem Ek {env:Env} {names:List (Str×NameKind)} {x:Str} {c:Addr} (e:(sZ env names []).lookup x=some c):env.cells.lookup x=some c:=
 um (names:=names) (acc:=[]) (env:=env) (by simp) x c (PySem.mem_of_lookup e)
theorem pQ {env:Env}:∀ (names:List (Str×NameKind)) (acc:List (Str×Addr)),(∀ x∈names,x.2=NameKind.free→∃ c,env.cells.lookup x.1=some c)→
  (forIn (m:=Sem) names acc fun x r=>match x with
   | (name,kind)=>if (kind == NameKind.free)=true then do let c ← cellOf env name;pure (ForInStep.yield ((name,c) :: r)) else pure (ForInStep.yield r))=pure (sZ env names acc)
 | [],acc,_=>rfl
 | (n,k) :: r,acc,h=>by
  rw [List.forIn_cons]
  cases hk:(k == NameKind.free) with
  | false=>
   simp only [hk,Bool.false_eq_true,if_false,pure_bind,sZ]
   exact pQ r acc fun x hx=>h x (List.mem_cons_of_mem _ hx)
  | true=>
   obtain ⟨c,e⟩:=h (n,k) List.mem_cons_self (by simpa using hk)
   simp only [hk,if_true,pure_bind,sZ,cellOf,e]
   exact pQ r ((n,c) :: acc) fun x hx=>h x (List.mem_cons_of_mem _ hx)
theorem pM {scope:Scope} {env:Env} (h:∀ x∈scope.names,x.2=NameKind.free→∃ c,env.cells.lookup x.1=some c):closureFor scope env=pure (sZ env scope.names []):=by
 unfold closureFor
 have:=pQ (env:=env) scope.names [] h
 simp only [this,pure_bind]
theorem vP {prog:Program} {w:World} {A:Around} {R:Result→Shared→Prop} {s:Shared} {elt target iter:Expr} {ifs:List Expr} {scope:Scope} {pos:Pos} {it acc:Value} {env:Env} (I:Nat→Shared→Prop)
  (turn:∀ n s,I n s→wpAny (model prog w) A (pyNext it) (fun r s₁=>match r with
   | none=>R (.ok .next) s₁
   | some v=>wpAny (model prog w) A (letOwnedTupleGo target it v) (fun _ s₁'=>wpAny (model prog w) A (assign target env v) (fun _ s₂=>
     wpAny (model prog w) A (forIn ifs true fun c r=>if r=true then do let ok ← isTrue c env (eval c env);pure (ForInStep.yield ok) else pure (ForInStep.yield r)) (fun ok s₃=>
      if ok=true then wpAny (model prog w) A (eval elt env) (fun x s₄=>
       wpAny (model prog w) A (call (.builtin "list.append") [acc,x]) (fun _ s₅=>∃ m,m < n∧I m s₅) (fun _ _=>False) s₄) (fun _ _=>False) s₃
      else ∃ m,m < n∧I m s₃) (fun _ _=>False) s₂) (fun _ _=>False) s₁') (fun _ _=>False) s₁) (fun _ _=>False) s)
  (n:Nat) (h:I n s):
  codeAny (model prog w) A (.compLoop (.ListComp elt [⟨target,iter,ifs,0⟩] scope pos) 0 it acc env) R s:=by
 refine codeAny_loop rfl I (fun n s hI=>?_) n h
 show wpAny _ A ((compTurn (.ListComp elt [⟨target,iter,ifs,0⟩] scope pos) 0 it acc env).onRaise (fun x=>do noteFrame x env;theTreesLotGoes x)) _ _ s
 refine wpAny_noted ?_
 rw [compTurn_list]
 refine wpAny_bind (wpAny_standAt (wpAny_bind (wpAny_mono (turn n s hI) (fun r s₁ h₁=>?_) fun _ _ h'=>h'.elim)))
 cases r with
 | none=>exact wpAny_pure h₁
 | some v=>
  refine wpAny_bind (wpAny_mono h₁ (fun _ s₁' h₁'=>?_) fun _ _ h'=>h'.elim)
  refine wpAny_bind (wpAny_mono h₁' (fun _ s₂ h₂=>wpAny_bind (wpAny_mono h₂ (fun ok s₃ h₃=>?_) fun _ _ h'=>h'.elim)) fun _ _ h'=>h'.elim)
  cases ok with
  | false=>exact wpAny_pure ⟨rfl,h₃⟩
  | true=>
   exact wpAny_bind (wpAny_bind (wpAny_mono h₃ (fun x s₄ h₄=>wpAny_bind (wpAny_mono h₄ (fun _ s₅ h₅=>wpAny_pure (wpAny_pure ⟨rfl,h₅⟩)) fun _ _ h'=>h'.elim)) fun _ _ h'=>h'.elim))
end L2
namespace L2
open PySem PySem.Spec PyProof.Rows
theorem fK:∀ (names:List (Str×NameKind)) (n:Nat) (acc:List (Str×Addr)),cellsFrom n names acc=cellsFrom n names [] ++ acc
 | [],_,_=>rfl
 | (x,k) :: r,n,acc=>by
  unfold cellsFrom
  split
  ·rw [fK r (n+1) ((x,n) :: acc),fK r (n+1) [(x,n)],List.append_assoc];rfl
  ·exact fK r n acc
theorem qu {α:Type}:∀ {A B:List (Str×α)} {x:Str},(A ++ B).lookup x=(match A.lookup x with | some c=>some c | none=>B.lookup x)
 | [],_,_=>rfl
 | (y,c) :: A,B,x=>by
  rw [List.cons_append,List.lookup_cons,List.lookup_cons]
  cases x == y with
  | true=>rfl
  | false=>exact qu (A:=A)
theorem uq:∀ {names:List (Str×NameKind)} {n:Nat} {acc:List (Str×Addr)} {x:Str} {c:Addr},(x,c)∈cellsFrom n names acc→(x,c)∈acc∨(x,NameKind.cell)∈names
 | [],_,_,_,_,h=>.inl h
 | (y,k) :: r,n,acc,x,c,h=>by
  unfold cellsFrom at h
  split at h
  ·rename_i hk
   rcases uq h with z | z
   ·rcases List.mem_cons.mp z with z | z
    ·cases z
     have:k= .cell:=by simpa using hk
     rw [this];exact .inr List.mem_cons_self
    ·exact .inl z
   ·exact .inr (List.mem_cons_of_mem _ z)
  ·exact (uq h).imp id (List.mem_cons_of_mem _)
theorem qw {α:Type}:∀ {l:List (Str×α)} {x:Str} {c:α},(x,c)∈l→∃ d,l.lookup x=some d
 | (y,d) :: r,x,c,h=>by
  by_cases e:x=y
  ·subst e;exact ⟨d,by simp [List.lookup_cons]⟩
  ·have hb:(x == y)=false:=by simpa using e
   rw [List.lookup_cons,hb]
   rcases List.mem_cons.mp h with z | z
   ·cases z;exact absurd rfl e
   ·exact qw z
theorem qx:∀ {names:List (Str×NameKind)} {n:Nat} {acc:List (Str×Addr)} {x:Str},(x,NameKind.cell)∈names∨(∃ c,(x,c)∈acc)→∃ c,(x,c)∈cellsFrom n names acc
 | [],_,_,_,h=>h.elim (fun h=>by simp at h) id
 | (y,k) :: r,n,acc,x,h=>by
  unfold cellsFrom
  split
  ·refine qx ?_
   rcases h with h | ⟨c,h⟩
   ·rcases List.mem_cons.mp h with z | z
    ·cases z;exact .inr ⟨n,List.mem_cons_self⟩
    ·exact .inl z
   ·exact .inr ⟨c,List.mem_cons_of_mem _ h⟩
  ·rename_i hk
   refine qx ?_
   rcases h with h | h
   ·rcases List.mem_cons.mp h with z | z
    ·cases z;exact absurd (by decide) hk
    ·exact .inl z
   ·exact .inr h
def El (X:Cx) (scope:Scope) (C:Addr):List (Str×Addr):=cellsFrom (C+1) scope.names (sZ X.env scope.names [])
section
variable {M:Model} {A:Around} {E:Value→Shared→Prop} {s:Shared}
theorem jm {scope:Scope} {globals:Addr} {cl:List (Str×Addr)} {qual:Str} {env:Env} {Q:Env→Shared→Prop}
  (hQ:∀ h':Heap,h'.Ns s.heap.objs.size (fun _=>none)→(∀ b o,s.heap.get? b=some o→h'.get? b=some o)→CellsOk h' (s.heap.objs.size+1) (cellsFrom (s.heap.objs.size+1) scope.names [])→
   Q (newEnv scope s.heap.objs.size globals (cellsFrom (s.heap.objs.size+1) scope.names cl) qual none .none (some env) builtinsNs) {s with heap:=h',toks:=s.toks+([]:List (Str×Value)).length}):
  wpAny M A (newFunctionEnv scope globals cl [] qual none .none (some env)) Q E s:=by
 simp only [newFunctionEnv,Option.isSome_some,if_true]
 refine wpAny_bind (wpAny_alloc ?_)
 refine wpAny_bind (wpAny_layCells _ (fun name kind cells=>by cases hkc:kind == NameKind.cell <;> simp [hkc]) _ _ _ _ ?_)
 have ok:=cellsFrom_ok scope.names (s.heap.push {cls:=.type "dict",data:=.dict #[]}) (s.heap.objs.size+1) [] ⟨fun _ _ hm=>(nomatch hm),List.Pairwise.nil⟩ (by rw [Heap.size_push];exact Nat.le_refl _)
 rw [Heap.size_push] at ok
 rw [show ({s with heap:=s.heap.push {cls:=.type "dict",data:=.dict #[]}}:Shared).heap.objs.size=s.heap.objs.size+1 from Heap.size_push ..]
 exact wpAny_bind (wpAny_pure (wpAny_pure (hQ _ ((Heap.Ns.new s.heap (.type "dict")).keeps (pushCells_keeps _ _)) (fun b o e=>pushCells_keeps _ _ b o (Heap.get?_push_of_some _ e)) ok)))
end
def pH (X:Cx) (N':List Str) (scope:Scope) (C:Addr) (s₀:Shared) (H₀:Hp) (ex:List Addr):Cx:=
 {X with N:=N',s₀:=s₀,H₀:=H₀,env:=compEnvC scope (El X scope C) C X.env,outer:=X.stack,ex:=ex,fn:=fun x=>decide (scope.names.lookup x=some .cell),pn:=[],xe:=fun _ _=>False}
def eU (sub:List (Option Nat)) (σ:St):St:=sub.map fun o=>o.bind fun j=>(σ[j]?).join
structure rW (N:List Str) (sc:Scope) (N':List Str) (scope:Scope) (sub:List (Option Nat)):Prop where
 kind:scope.kind= .function
 cel:∀ x∈scope.names,x.2= .cell→scope.names.lookup x.1=some .cell
 loc:∀ x∈scope.names,x.2= .local→scope.names.lookup x.1=some .local
 free:∀ x∈scope.names,x.2= .free→sc.names.lookup x.1=some .cell∨sc.names.lookup x.1=some .free
 len:sub.length=N'.length
 at_:∀ (i j:Nat) (x:Str),sub[i]?=some (some j)→N'[i]?=some x→N[j]?=some x∧(x,NameKind.free)∈scope.names∧scope.names.lookup x=some .free
def Hz (N:List Str) (sc:Scope) (N':List Str) (scope:Scope) (sub:List (Option Nat)):Bool:=
 decide (scope.kind= .function) && scope.names.all (fun x=>decide (x.2= .cell→scope.names.lookup x.1=some .cell)) && scope.names.all (fun x=>decide (x.2= .local→scope.names.lookup x.1=some .local)) &&
 scope.names.all (fun x=>decide (x.2= .free→sc.names.lookup x.1=some .cell∨sc.names.lookup x.1=some .free)) && decide (sub.length=N'.length) &&
 (List.range sub.length).all fun i=>match sub[i]?,N'[i]? with
  | some (some j),some x=>decide (N[j]?=some x∧(x,NameKind.free)∈scope.names∧scope.names.lookup x=some .free)
  | _,_=>true
theorem gO {N:List Str} {sc:Scope} {N':List Str} {scope:Scope} {sub:List (Option Nat)} (h:Hz N sc N' scope sub=true):rW N sc N' scope sub:=by
 simp only [Hz,Bool.and_eq_true,decide_eq_true_eq,List.all_eq_true] at h
 obtain ⟨⟨⟨⟨⟨h1,h2⟩,h3⟩,h4⟩,h5⟩,h6⟩:=h
 refine ⟨h1,h2,h3,h4,h5,fun i j x e1 e2=>?_⟩
 have hi:i < sub.length:=(List.getElem?_eq_some_iff.mp e1).1
 have q:=h6 i (List.mem_range.mpr hi)
 rw [e1,e2] at q
 simpa using q
def HB:TT:=fun _ H Q=>Q true H
def wQ (X:Cx) (ifs:List Expr) (t:TT):Prop:=
 ∀ (pins:List (Addr×Obj)) (s:Shared) (σ:St) (H:Hp) (Q:Bool→Hp→Prop),Inv X pins σ H s→t σ H Q→
  wpAny (model X.prog X.w) X.A (forIn ifs true fun c r=>if r=true then do let ok ← isTrue c X.env (eval c X.env);pure (ForInStep.yield ok) else pure (ForInStep.yield r)) (TP X pins σ Q) X.xe s
theorem HD {X:Cx}:wQ X [] HB:=fun _ _ _ H _ I h=>wpAny_tests_nil ⟨H,I,h⟩
theorem HF {X:Cx} {c:Expr} {t:TT} (hc:PT X c t):wQ X [c] t:=fun pins s σ H Q I h=>wpAny_tests_one (hc pins s σ H Q I h)
def KeepSt (σ σ':St):Prop:=σ'.length=σ.length∧∀ (i:Nat) (v:V),σ[i]?=some (some v)→σ'[i]?=some (some v)
theorem KeepSt.set {σ:St} {i:Nat} {v:V} (h:σ[i]?=some none):KeepSt σ (σ.set i (some v)):=by
 refine ⟨by simp,fun j u e=>?_⟩
 by_cases hj:i=j
 ·subst hj;rw [h] at e;cases e
 ·rw [List.getElem?_set_ne hj];exact e
def ur (sub:List (Option Nat)) (wi:TI) (g:TG) (tt:TT) (te:TE):TE:=fun σ H Q=>wi σ H fun J H1=>∃ W:Nat→Nat→List V→Hp→Prop,(∃ m,W 0 m [] H1)∧∀ i m ys H,W i m ys H→
 (J.stop i H∧ys.length≤sizeLine∧∀ D,H D=none→Q (.ref D) (upd H D (.lst ys)))∨
 (J.go i H∧ys.length < sizeLine∧∃ N:List V→Hp→Prop,(∀ ys' H',N ys' H'→∃ m',m' < m∧W (i+1) m' ys' H')∧
  ∀ x H',J.yld i H x H'→g x (eU sub σ) H' fun σ2 H2=>KeepSt (eU sub σ) σ2∧tt σ2 H2 fun b H3=>if b=true then te σ2 H3 fun y H4=>N (ys ++ [y]) H4 else N ys H3)
theorem qy {scope:Scope} {env:Env} {x:Str} (hx:scope.names.lookup x=some .free):(relabel scope env).names.lookup x=some .cell∨(relabel scope env).names.lookup x=some .free:=by
 have:∀ names:List (Str×NameKind),names.lookup x=some .free→
  (names.map fun (n,k)=>if (k == NameKind.free && env.scope.kind == .function && env.kindOf n == some .cell) then (n,NameKind.cell) else (n,k)).lookup x=some .cell∨
  (names.map fun (n,k)=>if (k == NameKind.free && env.scope.kind == .function && env.kindOf n == some .cell) then (n,NameKind.cell) else (n,k)).lookup x=some .free:=by
  intro names
  induction names with
  | nil=>intro h;simp at h
  | cons p r ih=>
   obtain ⟨n,k⟩:=p
   intro h
   by_cases e:x=n
   ·subst e
    have hk:k= .free:=by simpa [List.lookup_cons] using h
    subst hk
    by_cases hc:((NameKind.free == NameKind.free && env.scope.kind == .function && env.kindOf x == some .cell)=true)
    ·left;simp only [List.map_cons];rw [if_pos hc];simp [List.lookup_cons]
    ·right;simp only [List.map_cons];rw [if_neg hc];simp [List.lookup_cons]
   ·have hb:(x == n)=false:=by simpa using e
    rw [List.lookup_cons,hb] at h
    have q:=ih h
    simp only [List.map_cons]
    split <;> (rw [List.lookup_cons,hb];exact q)
 exact this scope.names hx
theorem wR {scope:Scope} {env:Env} {x:Str} (h:(relabel scope env).names.lookup x=some .cell∨(relabel scope env).names.lookup x=some .free):(x,NameKind.cell)∈scope.names∨(x,NameKind.free)∈scope.names:=by
 have key:∀ k,(k=NameKind.cell∨k=NameKind.free)→(relabel scope env).names.lookup x=some k→(x,NameKind.cell)∈scope.names∨(x,NameKind.free)∈scope.names:=by
  intro k hk hl
  have hm:=PySem.mem_of_lookup hl
  unfold relabel at hm
  obtain ⟨⟨n,k'⟩,hm1,hm2⟩:=List.mem_map.mp hm
  dsimp only at hm2
  by_cases hc:(k' == NameKind.free && env.scope.kind == .function && env.kindOf n == some .cell)=true
  ·rw [if_pos hc] at hm2
   cases hm2
   simp only [Bool.and_eq_true,beq_iff_eq] at hc
   rw [← hc.1.1];exact .inr hm1
  ·rw [if_neg hc] at hm2
   cases hm2
   rcases hk with hk | hk
   ·subst hk;exact .inl hm1
   ·subst hk;exact .inr hm1
 rcases h with h | h
 ·exact key _ (.inl rfl) h
 ·exact key _ (.inr rfl) h
section
variable {X:Cx} {tg iter elt:Expr} {ifs:List Expr} {scope:Scope} {pos:Pos} {N':List Str} {sub:List (Option Nat)} {wi:TI} {g:TG} {tt:TT} {te:TE}
theorem vQ {pins:List (Addr×Obj)} {σ:St} {H:Hp} {s:Shared} {fp:List Addr} {D:Addr} {h':Heap} {tk:Nat} {N:List Str} {sc:Scope} (S:rW N sc N' scope sub) (hN:X.N=N) (hsc:X.env.scope=sc) (I:Inv X pins σ H s) (hf:∀ b∈fp,lU X pins H b) (hfo:∀ b∈fp,b < s.heap.objs.size)
  (hD:D < s.heap.objs.size) (fD:lU X pins H D) (hns:h'.Ns s.heap.objs.size fun _=>none) (hk:∀ b o,s.heap.get? b=some o→h'.get? b=some o) (hc:CellsOk h' (s.heap.objs.size+1) (cellsFrom (s.heap.objs.size+1) scope.names [])):
  Inv (pH X N' scope s.heap.objs.size s H (D :: fp)) [] (eU sub σ) H {s with heap:=h',toks:=tk}:=by
 have hex:∀ b∈D :: fp,lU X pins H b∧b < s.heap.objs.size:=fun b hb=>by
  rcases List.mem_cons.mp hb with rfl | z
  ·exact ⟨fD,hD⟩
  ·exact ⟨hf b z,hfo b z⟩
 have spl:∀ {x c},(El X scope s.heap.objs.size).lookup x=some c→(h'.IsCell c none∧s.heap.objs.size+1≤c∧(x,c)∈cellsFrom (s.heap.objs.size+1) scope.names [])∨(X.env.cells.lookup x=some c∧∃ o,s.heap.get? c=some o):=fun {x c} h=>by
  unfold El at h
  rw [fK,qu] at h
  cases e:(cellsFrom (s.heap.objs.size+1) scope.names []).lookup x with
  | some d=>
   rw [e] at h
   cases h
   have m:=PySem.mem_of_lookup e
   exact .inl ⟨(hc.empty _ _ m).1,(hc.empty _ _ m).2,m⟩
  | none=>
   rw [e] at h
   have z:=Ek h
   obtain ⟨v,o,ho,_⟩:=I.cell x c z
   exact .inr ⟨z,o,ho⟩
 have fre:∀ {x c},(x,NameKind.free)∈scope.names→scope.names.lookup x=some .free→X.env.cells.lookup x=some c→(El X scope s.heap.objs.size).lookup x=some c:=fun {x c} h1 h2 h3=>by
  unfold El
  rw [fK,qu]
  cases e:(cellsFrom (s.heap.objs.size+1) scope.names []).lookup x with
  | some d=>
   rcases uq (PySem.mem_of_lookup e) with z | z
   ·cases z
   ·have:=S.cel _ z rfl
    rw [h2] at this;cases this
  | none=>exact yD h3 h1
 refine ⟨⟨I.ok.mod,S.kind,I.ok.glob,I.ok.blt,Nat.le_refl _,fun x y c h1 h2=>?_,fun x hx=>?_,fun x c hx h=>?_,I.ok.hd,I.ok.frames,.inl rfl,fun b hb=>?_,I.bs,Nat.le_trans I.ok.bsz I.sz,fun b o e hb=>?_,fun b hb=>?_,I.stack,I.stkFree⟩,
  rfl,I.bare,Un.kept hk,⟨_,hns,fun i x v h1 h2 h3=>?_⟩,fun x c h=>?_,I.hok.fresh (Nat.le_refl _),fun x c h=>?_,fun p hp=>(nomatch hp),I.hok.kept hk,?_⟩
 ·rcases spl h1 with ⟨_,l1,m1⟩ | ⟨z1,o1,q1⟩ <;> rcases spl h2 with ⟨_,l2,m2⟩ | ⟨z2,o2,q2⟩
  ·exact PySem.name_of_addr hc.apart m1 m2
  ·exact absurd (Nat.lt_of_lt_of_le (Heap.lt_size q2) (Nat.le_of_succ_le l1)) (Nat.lt_irrefl _)
  ·exact absurd (Nat.lt_of_lt_of_le (Heap.lt_size q1) (Nat.le_of_succ_le l2)) (Nat.lt_irrefl _)
  ·exact I.ok.inj x y c z1 z2
 ·rcases wR hx with z | z
  ·obtain ⟨c,m⟩:=qx (n:=s.heap.objs.size+1) (acc:=sZ X.env scope.names []) (.inl z)
   exact qw m
  ·obtain ⟨c,e⟩:=I.ok.has x (by have:=S.free _ z rfl;rw [← hsc] at this;exact this)
   show ∃ c,(El X scope s.heap.objs.size).lookup x=some c
   unfold El
   rw [fK]
   exact qw (c:=c) (List.mem_append_right _ (uo e z))
 ·have hx':scope.names.lookup x=some .cell:=by simpa [pH] using hx
  rcases spl h with ⟨_,l,_⟩ | ⟨z,o,q⟩
  ·exact Nat.le_of_succ_le l
  ·exfalso
   have m:(x,NameKind.cell)∈scope.names:=PySem.mem_of_lookup hx'
   obtain ⟨d,md⟩:=qx (n:=s.heap.objs.size+1) (acc:=[]) (.inl m)
   obtain ⟨d',e'⟩:=qw md
   have h:(El X scope s.heap.objs.size).lookup x=some c:=h
   unfold El at h
   rw [fK,qu,e'] at h
   cases h
   exact absurd (Nat.lt_of_lt_of_le (Heap.lt_size q) (Nat.le_of_succ_le (hc.empty _ _ (PySem.mem_of_lookup e')).2)) (Nat.lt_irrefl _)
 ·obtain ⟨⟨f0,f1,f2,f3,f4,f5⟩,hlt⟩:=hex b hb
  refine ⟨Nat.ne_of_lt hlt,fun x c h=>?_⟩
  rcases spl h with ⟨_,l,_⟩ | ⟨z,_⟩
  ·exact fun z=>absurd (Nat.lt_of_lt_of_le hlt (Nat.le_of_succ_le (z ▸ l))) (Nat.lt_irrefl _)
  ·exact f4 x c z
 ·obtain ⟨⟨f0,f1,f2,f3,f4,f5⟩,hlt⟩:=hex b hb
  rcases f3 with z | z
  ·exact I.ok.noex b o e z
  ·exact absurd (Nat.lt_of_lt_of_le (Heap.lt_size (I.ok.bs b o e).1) z) (Nat.lt_irrefl _)
 ·obtain ⟨⟨f0,f1,f2,f3,f4,f5⟩,hlt⟩:=hex b hb
  intro z
  rcases List.mem_cons.mp (I.stkSub b z) with z | z
  ·exact f1 z
  ·exact f2 z
 ·have hs:∃ j,sub[i]?=some (some j)∧σ[j]?=some (some v):=by
   unfold eU at h2
   rw [List.getElem?_map] at h2
   cases e:sub[i]? with
   | none=>rw [e] at h2;cases h2
   | some o=>
    rw [e] at h2
    cases o with
    | none=>cases h2
    | some j=>
     refine ⟨j,rfl,?_⟩
     have h3:(σ[j]?).join=some v:=Option.some.inj h2
     cases e2:σ[j]? with
     | none=>rw [e2] at h3;cases h3
     | some z=>rw [e2] at h3;cases z with
      | none=>cases h3
      | some z=>cases h3;rfl
  obtain ⟨j,e1,e2⟩:=hs
  obtain ⟨g1,g2,g3⟩:=S.at_ i j x e1 h1
  rw [← hN] at g1
  obtain ⟨m,hn,hl⟩:=I.loc
  have hkf:X.env.kindOf x=some .cell∨X.env.kindOf x=some .free:=by have:=S.free _ g2 rfl;rw [← hsc] at this;exact this
  have hvis:YK X.env.scope x:=by
   rcases hkf with z | z
   ·exact .inr (.inl z)
   ·exact .inr (.inr z)
  obtain ⟨u,r,l⟩:=hl j x v g1 e2 hvis
  refine ⟨u,r,.inr ⟨qy g3,?_⟩⟩
  rcases l with ⟨k,_⟩ | ⟨_,c,e,o,ho,hd⟩
  ·have k':X.env.kindOf x=some .local:=k
   rcases hkf with z | z <;> (rw [k'] at z;cases z)
  ·exact ⟨c,fre g2 g3 e,o,hk _ _ ho,hd⟩
 ·rcases spl h with ⟨z,_⟩ | ⟨z,_⟩
  ·exact ⟨_,z⟩
  ·obtain ⟨v,o,ho,hd⟩:=I.cell x c z
   exact ⟨v,o,hk _ _ ho,hd⟩
 ·rcases spl h with ⟨_,l,_⟩ | ⟨z,_⟩
  ·exact I.hok.fresh (Nat.le_of_succ_le l)
  ·exact I.freeC x c z
 ·show (eU sub σ).length=N'.length
  unfold eU
  rw [List.length_map]
  exact S.len
theorem Cw {N:List Str} {sc:Scope} (S:rW N sc N' scope sub) (hc:X.calm=true) (hN:X.N=N) (hsc:X.env.scope=sc) (hi:PI X tg iter wi)
  (hg:∀ (C:Addr) (s₀:Shared) (H₀:Hp) (ex:List Addr),PG (pH X N' scope C s₀ H₀ ex) tg g)
  (ht:∀ (C:Addr) (s₀:Shared) (H₀:Hp) (ex:List Addr),wQ (pH X N' scope C s₀ H₀ ex) ifs tt)
  (he:∀ (C:Addr) (s₀:Shared) (H₀:Hp) (ex:List Addr),PE (pH X N' scope C s₀ H₀ ex) elt te)
  (hs:autoParam (∀ x,foldedSetIterable iter X.env x=pure x) L2.auto3._auto_1):
  PE X (.ListComp elt [⟨tg,iter,ifs,0⟩] scope pos) (ur sub wi g tt te):=by
 intro pins s σ H Q I h
 rw [eval_ListComp]
 have hcl:∀ x∈scope.names,x.2=NameKind.free→∃ c,X.env.cells.lookup x.1=some c:=fun x hx hk=>I.ok.has x.1 (by have:=S.free x hx hk;rw [← hsc] at this;exact this)
 refine wpAny_comprehension_free (use:=none) rfl hs (pM hcl) S.kind S.loc ?_
 refine fJ (hi pins s σ H _ I h) fun v s1 h1=>fJ h1 fun itv s2 h2=>?_
 obtain ⟨it,fp,tn,J,H2,e,I2,T,st2,f2,W,⟨m0,w0⟩,turn⟩:=h2
 subst e
 refine wpAny_newObj_type (jm fun h₁ hns₁ hk31 hcl₁=>?_)
 dsimp only at hns₁ hk31 hcl₁ ⊢
 generalize hs3:({s2 with heap:=s2.heap.push {cls:=.type "list",dict:=none,data:=.seq ([]:List Value).toArray}}:Shared)=s3
 have e3:s2.heap.push {cls:=.type "list",dict:=none,data:=.seq ([]:List Value).toArray}=s3.heap:=by rw [← hs3]
 rw [e3] at hns₁ hk31 hcl₁ ⊢
 have hD3:s3.heap.get? s2.heap.objs.size=some {cls:=.type "list",dict:=none,data:=.seq ([]:List Value).toArray}:=by rw [← e3];exact Heap.get?_push_size _ rfl
 have I3:Inv X pins σ H2 s3:=by
  rw [← hs3]
  exact I2.kept (t':=s2.toks) fun b o e=>Heap.get?_push_of_some _ e
 have k23:∀ b o,s2.heap.get? b=some o→s3.heap.get? b=some o:=fun b o e=>by rw [← e3];exact Heap.get?_push_of_some _ e
 have hsz:s3.heap.objs.size=s2.heap.objs.size+1:=by rw [← e3,Heap.size_push]
 have hDn:H2 s2.heap.objs.size=none:=I2.hok.fresh (Nat.le_refl _)
 have fD:lU X pins H2 s2.heap.objs.size:=I2.fpOk (Nat.le_refl _) hDn
 have hfo:∀ b∈fp,b < s2.heap.objs.size:=fun b hb=>let ⟨o,e,_⟩:=T.obj _ _ st2 b hb;Heap.lt_size e
 have hDfp:s2.heap.objs.size ∉ fp:=fun z=>absurd (hfo _ z) (Nat.lt_irrefl _)
 have I4:=vQ (tk:=s3.toks+([]:List (Str×Value)).length) S hN hsc I3 f2 (fun b hb=>by rw [hsz];exact Nat.lt_succ_of_lt (hfo b hb)) (D:=s2.heap.objs.size) (by rw [hsz];exact Nat.lt_succ_self _) fD hns₁ hk31 hcl₁
 have stat:∀ {H':Hp} {ob:Obj},(∀ b∈fp,H' b=none)→∀ b∈fp,lU (pH X N' scope s3.heap.objs.size s3 H2 (s2.heap.objs.size :: fp)) [(s2.heap.objs.size,ob)] H' b:=fun {H' ob} hn b hb=>by
  obtain ⟨q1,q2⟩:=I4.ok.exf b (List.mem_cons_of_mem _ hb)
  refine ⟨hn b hb,q1,I4.ok.exfs b (List.mem_cons_of_mem _ hb),.inl (List.mem_cons_of_mem _ hb),q2,fun p hp z=>?_⟩
  have hp':p=(s2.heap.objs.size,ob):=by simpa [pH] using hp
  subst hp'
  have z':s2.heap.objs.size=b:=z
  exact hDfp (by rw [z'];exact hb)
 generalize hXC:pH X N' scope s3.heap.objs.size s3 H2 (s2.heap.objs.size :: fp)=XC at I4 stat
 have eP:XC.prog=X.prog:=by rw [← hXC];rfl
 have eW:XC.w=X.w:=by rw [← hXC];rfl
 have eK:XC.K=X.K:=by rw [← hXC];rfl
 have eA:XC.A=X.A:=by rw [← hXC];rfl
 have eE:XC.env=compEnvC scope (El X scope s3.heap.objs.size) s3.heap.objs.size X.env:=by rw [← hXC];rfl
 have eC:XC.calm=true:=by rw [← hXC];exact hc
 have eX:XC.xe=fun _ _=>False:=by rw [← hXC];rfl
 have eH:XC.H₀=H2:=by rw [← hXC];rfl
 have eS:XC.s₀=s3:=by rw [← hXC];rfl
 have eF:XC.fs=frs X.stack:=by rw [← hXC];rfl
 have eEx:XC.ex=s2.heap.objs.size :: fp:=by rw [← hXC];rfl
 have ePn:XC.pn=[]:=by rw [← hXC];rfl
 have hgC:PG XC tg g:=by rw [← hXC];exact hg _ _ _ _
 have htC:wQ XC ifs tt:=by rw [← hXC];exact ht _ _ _ _
 have heC:PE XC elt te:=by rw [← hXC];exact he _ _ _ _
 have pinD:∀ {σ':St} {H':Hp} {s':Shared} {ob:Obj},Inv XC [] σ' H' s'→H' s2.heap.objs.size=none→s'.heap.get? s2.heap.objs.size=some ob→(∀ v,ob.data≠.cell v)→Inv XC [(s2.heap.objs.size,ob)] σ' H' s':=fun {σ' H' s' ob} J hn hg hd=>
  J.pins_of fun p hp=>by
   have hp':p=(s2.heap.objs.size,ob):=by simpa using hp
   subst hp'
   refine ⟨hg,hn,(J.ok.exf _ (by rw [eEx];exact List.mem_cons_self)).1,J.ok.exfs _ (by rw [eEx];exact List.mem_cons_self),hd⟩
 have loop:codeAny (model X.prog X.w) X.A (.compLoop (.ListComp elt [⟨tg,iter,ifs,0⟩] scope pos) 0 (.ref it) (.ref s2.heap.objs.size) (compEnvC scope (El X scope s3.heap.objs.size) s3.heap.objs.size X.env))
   (compPost (model X.prog X.w) X.A X.xe none (EP X pins σ Q) (.ref s2.heap.objs.size) s3.heap.objs.size) {s3 with heap:=h₁,toks:=s3.toks+([]:List (Str×Value)).length}:=by
  refine vP (fun n s'=>∃ (i:Nat) (ys:List V) (its:List Value) (nn:Nat) (H':Hp),Inv XC [] (eU sub σ) H' s'∧tn i s'.heap∧(∀ b∈fp,H' b=none)∧H' s2.heap.objs.size=none∧
   s'.heap.get? s2.heap.objs.size=some {cls:=.type "list",data:=.seq its.toArray nn}∧Vals ys its∧W i n ys H') ?_ m0
   ⟨0,[],[],_,H2,I4,T.keep _ _ _ st2 fun b _ o e=>hk31 b o (k23 b o e),fun b hb=>(f2 b hb).1,hDn,hk31 _ _ hD3,.nil,w0⟩
  rintro n s4 ⟨i,ys,its,nn,H4,J4,st4,fr4,dn4,dg4,rv4,w4⟩
  have P4:=pinD J4 dn4 dg4 (fun v z=>by cases z)
  rcases turn i n ys H4 w4 with ⟨stop,hyl,qn⟩ | ⟨go,hyl,N,hN,step⟩
  ·have hdone:=T.done XC eP eW eK eC i _ s4 _ H4 (fun _ _=>False) P4 (stat fr4) st4 stop
   rw [eA] at hdone
   refine wpAny_mono hdone (fun r s5 ⟨hr,I5⟩=>?_) fun _ _ z=>z
   subst hr
   obtain ⟨m,hn,_⟩:=id I5.loc
   have hCe:XC.env.locals=s3.heap.objs.size:=by rw [eE];rfl
   rw [hCe] at hn
   refine ⟨m,hn,fun h6 hs6=>?_⟩
   have hDg:=(I5.pin (s2.heap.objs.size,_) (by rw [ePn];exact List.mem_cons_self)).1
   have hDne:s2.heap.objs.size≠s3.heap.objs.size:=by rw [hsz];exact Nat.ne_of_lt (Nat.lt_succ_self _)
   have hHC:H4 s3.heap.objs.size=none:=by have:=I5.free;rw [hCe] at this;exact this
   have k56:∀ b o,b≠s3.heap.objs.size→s5.heap.get? b=some o→h6.get? b=some o:=fun b o hb e=>hs6.extBut b o hb e
   have un:=I5.base
   rw [eF,eEx,eH,eS] at un
   have nC:∀ b o,s3.heap.get? b=some o→b≠s3.heap.objs.size:=fun b o e=>Nat.ne_of_lt (Heap.lt_size e)
   have hok6:HOk X.prog X.w (upd H4 s2.heap.objs.size (.lst ys)) h6:=by
    have h5:=I5.hok
    rw [eP,eW] at h5
    have La:∀ b u,H4 b=some u→b≠s3.heap.objs.size:=fun b u e z=>by rw [z,hHC] at e;cases e
    intro b u e
    by_cases hb:b=s2.heap.objs.size
    ·subst hb
     rw [aj] at e;cases e
     exact ⟨hyl,its,nn,rv4,k56 _ _ hDne hDg⟩
    ·rw [aB hb] at e
     have nD:∀ c u,H4 c=some u→c≠s2.heap.objs.size:=fun c u e z=>by rw [z,dn4] at e;cases e
     refine (h5 b u e).stay (fun c v hc' q=>k56 c v ?_ q) (fun c q=>by rw [aB (nD c _ q)];exact q) fun c xs q=>by rw [aB (nD c _ q)];exact q
     rcases hc' with z | z
     ·rw [z];exact La b u e
     ·exact La c _ z
   have nD2:∀ c u,H4 c=some u→c≠s2.heap.objs.size:=fun c u e z=>by rw [z,dn4] at e;cases e
   have un6:Un (frs X.stack) (s2.heap.objs.size :: fp) H2 (upd H4 s2.heap.objs.size (.lst ys)) s3.heap h6:=
    ⟨fun b o e nn' hb hx=>k56 b o (nC b o e) (un.keep b o e nn' hb hx),fun b o e nn' hb hx=>let ⟨sl,q⟩:=un.slot b o e nn' hb hx;⟨sl,k56 b _ (nC b o e) q⟩,
     fun b o e nn' hx=>by rw [aB (fun z=>hx (by rw [z];exact List.mem_cons_self))];exact un.free b o e nn' hx,
     fun b o e hx=>let ⟨o',q⟩:=un.there b o e hx;⟨o',k56 b o' (nC b o e) q⟩,
     fun b xs e=>by have q:=un.tups b xs e;rw [aB (nD2 b _ q)];exact q,
     fun b o u e=>by have q:=un.frzs b o u e;rw [aB (nD2 b _ q)];exact q,
     fun b ps e=>let ⟨more,q⟩:=un.tbls b ps e;⟨more,by rw [aB (nD2 b _ q)];exact q⟩⟩
   have I6:Inv X pins σ (upd H4 s2.heap.objs.size (.lst ys)) {s5 with heap:=h6}:=by
    refine I3.call' (s':={s5 with heap:=h6}) (ch:=s2.heap.objs.size :: fp) ?_ un6 hok6 I5.bare fun b hb=>?_
    ·show s5.os=s3.os
     have:=I5.os
     rw [eS] at this
     exact this
    ·have q:lU X pins H2 b:=by
      rcases List.mem_cons.mp hb with rfl | z
      ·exact fD
      ·exact f2 b z
     obtain ⟨f0,f1,f2',f3,f4,f5⟩:=q
     exact ⟨f3,f1,f4,f5⟩
   exact ⟨.ref s2.heap.objs.size,_,I6,rfl,qn _ dn4⟩
  ·have hitem:=T.item XC eP eW eK eC i _ s4 _ H4 (fun _ _=>False) P4 (stat fr4) st4 go
   rw [eA] at hitem
   refine wpAny_mono hitem (fun r s5 ⟨u,hr,h5⟩=>?_) fun _ _ z=>z
   subst hr
   dsimp only
   refine wpAny_mono h5 (fun _ s6 ⟨x,H6,I6,r6,y6,st6,fr6⟩=>?_) fun _ _ z=>z
   have P6:=I6.pinned (stat fr6) (T.obj _ _ st6)
   rw [← eE,← eP,← eW,← eA]
   refine wpAny_mono (hgC _ s6 _ H6 x u _ P6 r6 (step x H6 y6)) (fun _ s7 ⟨σ7,H7,I7,kp7,q7⟩=>?_) fun _ _ z=>by rw [eX] at z;exact z
   refine wpAny_mono (htC _ s7 σ7 H7 _ I7 q7) (fun ok s8 ⟨H8,I8,q8⟩=>?_) fun _ _ z=>by rw [eX] at z;exact z
   have fin:∀ {H9:Hp} {s9:Shared},Inv XC ([(s2.heap.objs.size,({cls:=.type "list",data:=.seq its.toArray nn}:Obj))] ++ qX fp s6.heap) σ7 H9 s9→Inv XC [] (eU sub σ) H9 s9∧tn (i+1) s9.heap∧(∀ b∈fp,H9 b=none)∧H9 s2.heap.objs.size=none∧
     s9.heap.get? s2.heap.objs.size=some {cls:=.type "list",data:=.seq its.toArray nn}:=fun {H9 s9} J=>by
    have pD:=J.pin (s2.heap.objs.size,({cls:=.type "list",data:=.seq its.toArray nn}:Obj)) (by rw [ePn];simp)
    have pF:∀ b∈fp,∀ o,s6.heap.get? b=some o→s9.heap.get? b=some o∧H9 b=none:=fun b hb o e=>by
     have q:=J.pin (b,o) (by rw [ePn];exact List.mem_append_right _ (List.mem_append_right _ (mW hb e)))
     exact ⟨q.1,q.2.1⟩
    refine ⟨?_,T.keep _ _ _ st6 fun b hb o e=>(pF b hb o e).1,fun b hb=>?_,pD.2.1,pD.1⟩
    ·have J0:Inv XC [] σ7 H9 s9:=J.pins_of fun p hp=>nomatch hp
     exact J0.weak kp7.1.symm fun j v e=>kp7.2 j v e
    ·obtain ⟨o,e,_⟩:=T.obj _ _ st6 b hb
     exact (pF b hb o e).2
   cases ok with
   | false=>
    rw [if_neg (by simp)]
    rw [if_neg (by simp)] at q8
    obtain ⟨m',hm,w8⟩:=hN _ _ q8
    obtain ⟨a1,a2,a3,a4,a5⟩:=fin I8
    exact ⟨m',hm,i+1,ys,its,nn,H8,a1,a2,a3,a4,a5,rv4,w8⟩
   | true=>
    rw [if_pos rfl]
    rw [if_pos rfl] at q8
    refine wpAny_mono (heC _ s8 σ7 H8 _ I8 q8) (fun xv s9 ⟨y,H9,I9,r9,n9⟩=>?_) fun _ _ z=>by rw [eX] at z;exact z
    obtain ⟨m',hm,w9⟩:=hN _ _ n9
    obtain ⟨a1,a2,a3,a4,a5⟩:=fin I9
    refine wpAny_list_append_plain (items:=its.toArray) ⟨nn,a5⟩ (fun h' ⟨n',hp'⟩ sb=>?_) (by simp;rw [← rv4.length];omega)
    obtain ⟨q1,q2⟩:=I4.ok.exf s2.heap.objs.size (by rw [eEx];exact List.mem_cons_self)
    have a1':Inv XC [] (eU sub σ) H9 {s9 with heap:=h'}:=a1.turned (t':=s9.toks) (fun b o hb e=>(sb.2 b hb).trans e) a4 q1 (.inl (by rw [eEx];exact List.mem_cons_self)) q2 (fun p hp=>by rw [ePn] at hp;exact nomatch hp)
    refine ⟨m',hm,i+1,ys ++ [y],its ++ [xv],n',H9,a1',T.keep _ _ _ a2 fun b hb o e=>(sb.2 b (fun z=>hDfp (by rw [← z];exact hb))).trans e,a3,a4,?_,rv4.append (.cons r9 .nil),w9⟩
    rw [hp']
    simp
 subst hs3
 exact codeAny_compStart_list loop (T.self _ 0 _ _ _ (T.keep _ _ _ st2 fun b _ o e=>hk31 b o (k23 b o e)) loop)
end
abbrev qz (sub:List (Option Nat)) (g:TG) (tt:TT) (te:TE) (σ:St) (Q:VK) (J:It) (H1:Hp):Prop:=∃ W:Nat→Nat→List V→Hp→Prop,(∃ m,W 0 m [] H1)∧∀ i m ys H,W i m ys H→
 (J.stop i H∧ys.length≤sizeLine∧∀ D,H D=none→Q (.ref D) (upd H D (.lst ys)))∨
 (J.go i H∧ys.length < sizeLine∧∃ N:List V→Hp→Prop,(∀ ys' H',N ys' H'→∃ m',m' < m∧W (i+1) m' ys' H')∧
  ∀ x H',J.yld i H x H'→g x (eU sub σ) H' fun σ2 H2=>KeepSt (eU sub σ) σ2∧tt σ2 H2 fun b H3=>if b=true then te σ2 H3 fun y H4=>N (ys ++ [y]) H4 else N ys H3)
theorem wU {sub:List (Option Nat)} {g:TG} {tt:TT} {te:TE} {σ:St} {Q:VK} {J:It} {H:Hp} {n:Nat} (Pv:Nat→List V→Hp→Prop) (hn:n≤sizeLine) (h0:Pv 0 [] H) (hl:∀ i ys H,Pv i ys H→ys.length≤i)
  (hgo:∀ i ys H,i < n→Pv i ys H→J.go i H) (hstop:∀ ys H,Pv n ys H→J.stop n H)
  (hs:∀ i ys H x H',i < n→Pv i ys H→J.yld i H x H'→g x (eU sub σ) H' fun σ2 H2=>KeepSt (eU sub σ) σ2∧tt σ2 H2 fun b H3=>if b=true then te σ2 H3 fun y H4=>Pv (i+1) (ys ++ [y]) H4 else Pv (i+1) ys H3)
  (hd:∀ ys H,Pv n ys H→∀ D,H D=none→Q (.ref D) (upd H D (.lst ys))):qz sub g tt te σ Q J H:=by
 refine ⟨fun i m ys H=>m=n - i∧i≤n∧Pv i ys H,⟨n,by simp,Nat.zero_le _,h0⟩,?_⟩
 rintro i m ys H ⟨rfl,hi,p⟩
 have hl':=hl i ys H p
 by_cases hlt:i < n
 ·exact .inr ⟨hgo i ys H hlt p,by omega,fun ys' H'=>Pv (i+1) ys' H',fun ys' H' p'=>⟨n - (i+1),by omega,rfl,hlt,p'⟩,fun x H' y=>hs i ys H x H' hlt p y⟩
 ·have e:i=n:=by omega
  subst e
  exact .inl ⟨hstop ys H p,by omega,hd ys H p⟩
end L2
namespace L2
open PySem PySem.Spec PyProof.Rows
section
variable {κ:Type} [DecidableEq κ]
def jG (kvs:List (κ×V)) (k:κ):Option V:=(kvs.find? fun kv=>decide (kv.1=k)).map (·.2)
def putK (kvs:List (κ×V)) (k:κ) (v:V):List (κ×V):=
 if (kvs.any fun kv=>decide (kv.1=k))=true then kvs.map (fun kv=>if kv.1=k then (kv.1,v) else kv) else kvs ++ [(k,v)]
theorem yE {k:κ}:jG ([]:List (κ×V)) k=none:=rfl
theorem gY {p:κ×V} {r:List (κ×V)} {k:κ} (e:p.1=k):jG (p :: r) k=some p.2:=by simp [jG,List.find?_cons,e]
theorem gZ {p:κ×V} {r:List (κ×V)} {k:κ} (e:¬ p.1=k):jG (p :: r) k=jG r k:=by simp [jG,List.find?_cons,e]
theorem qC (k:κ):∀ kvs:List (κ×V),(kvs.any fun kv=>decide (kv.1=k))=(jG kvs k).isSome
 | []=>rfl
 | p :: r=>by
  rw [List.any_cons]
  by_cases e:p.1=k
  ·simp only [gY e,decide_eq_true e,Bool.true_or,Option.isSome_some]
  ·rw [gZ e,decide_eq_false e,Bool.false_or];exact qC k r
theorem yF (k j:κ) (y:V):∀ kvs:List (κ×V),jG (kvs.map fun kv=>if kv.1=k then (kv.1,y) else kv) j=(jG kvs j).map fun x=>if j=k then y else x
 | []=>rfl
 | p :: r=>by
  have ih:=yF k j y r
  rw [List.map_cons]
  by_cases h:p.1=k
  ·rw [if_pos h]
   by_cases e:p.1=j
   ·rw [gY (p:=(p.1,y)) e,gY e,Option.map_some,if_pos (e.symm.trans h)]
   ·rw [gZ (p:=(p.1,y)) e,gZ e,ih]
  ·rw [if_neg h]
   by_cases e:p.1=j
   ·rw [gY (p:=p) e,gY e,Option.map_some,if_neg (fun z=>h (e.trans z))]
   ·rw [gZ (p:=p) e,gZ e,ih]
theorem vR (k j:κ) (y:V):∀ kvs:List (κ×V),jG kvs k=none→jG (kvs ++ [(k,y)]) j=if j=k then some y else jG kvs j
 | [],_=>by
  by_cases e:k=j
  ·rw [if_pos e.symm];exact gY (p:=(k,y)) e
  ·rw [if_neg (fun z=>e z.symm)];exact gZ (p:=(k,y)) e
 | p :: r,hn=>by
  rw [List.cons_append]
  have hk:¬ p.1=k:=fun z=>by rw [gY z] at hn;cases hn
  rw [gZ hk] at hn
  have ih:=vR k j y r hn
  by_cases e:p.1=j
  ·rw [gY e,gY e,if_neg (fun z=>hk (e.trans z))]
  ·rw [gZ e,gZ e,ih]
theorem mJ (kvs:List (κ×V)) (k j:κ) (y:V):jG (putK kvs k y) j=if j=k then some y else jG kvs j:=by
 unfold putK
 by_cases a:(kvs.any fun kv=>decide (kv.1=k))=true
 ·rw [if_pos a,yF]
  rw [qC] at a
  by_cases e:j=k
  ·obtain ⟨x,hx⟩:=Option.isSome_iff_exists.mp a
   rw [if_pos e,e,hx,Option.map_some,if_pos rfl]
  ·rw [if_neg e]
   cases jG kvs j with
   | none=>rfl
   | some x=>rw [Option.map_some,if_neg e]
 ·rw [if_neg a]
  refine vR k j y kvs ?_
  rw [qC] at a
  cases q:jG kvs k with
  | none=>rfl
  | some x=>rw [q] at a;exact (a rfl).elim
theorem g8 (kvs:List (κ×V)) (k:κ) (v:V):(putK kvs k v).length≤kvs.length+1:=by
 unfold putK
 split
 ·rw [List.length_map];omega
 ·rw [List.length_append,List.length_cons,List.length_nil];omega
theorem RelO.isSome_eq {o:Option V} {u:Option Value} (r:RelO o u):o.isSome=u.isSome:=by
 cases o with
 | none=>cases u with
  | none=>rfl
  | some _=>exact (show False from r).elim
 | some _=>cases u with
  | none=>exact (show False from r).elim
  | some _=>rfl
theorem KV.val {kvs:List (κ×V)} {vs:List (κ×Value)} (r:KV kvs vs) (k:κ):RelO (jG kvs k) (valueAt vs k):=by
 unfold KV at r
 induction r with
 | nil=>exact True.intro
 | @cons p q ps qs h t ih=>
  obtain ⟨h1,h2⟩:=h
  by_cases e:p.1=k
  ·have e':q.1=k:=h1.symm.trans e
   have b:valueAt (q :: qs) k=some q.2:=by simp [valueAt,List.find?_cons,e']
   rw [gY e,b];exact h2
  ·have e':¬ q.1=k:=fun z=>e (h1.trans z)
   have b:valueAt (q :: qs) k=valueAt qs k:=by simp [valueAt,List.find?_cons,e']
   rw [gZ e,b];exact ih
theorem KV.any {kvs:List (κ×V)} {vs:List (κ×Value)} (r:KV kvs vs) (k:κ):(kvs.any fun kv=>decide (kv.1=k))=vs.any fun kv=>decide (kv.1=k):=by
 unfold KV at r
 induction r with
 | nil=>rfl
 | cons h t ih=>rw [List.any_cons,List.any_cons,ih,h.1]
theorem KV.repl {kvs:List (κ×V)} {vs:List (κ×Value)} (r:KV kvs vs) (k:κ) {y:V} {u:Value} (ry:RelV y u):
  KV (kvs.map fun kv=>if kv.1=k then (kv.1,y) else kv) (vs.map fun kv=>if kv.1=k then (kv.1,u) else kv):=by
 unfold KV at r ⊢
 induction r with
 | nil=>exact .nil
 | @cons p q ps qs h t ih=>
  rw [List.map_cons,List.map_cons]
  refine .cons ?_ ih
  obtain ⟨h1,h2⟩:=h
  by_cases e:p.1=k
  ·rw [if_pos e,if_pos (h1.symm.trans e)];exact ⟨h1,ry⟩
  ·rw [if_neg e,if_neg (fun z=>e (h1.trans z))];exact ⟨h1,h2⟩
theorem KV.put {kvs:List (κ×V)} {vs:List (κ×Value)} (r:KV kvs vs) (k:κ) {y:V} {u:Value} (ry:RelV y u):KV (putK kvs k y) (stored vs k u):=by
 unfold putK stored
 rw [r.any k]
 by_cases e:(vs.any fun kv=>decide (kv.1=k))=true
 ·rw [if_pos e,if_pos e];exact r.repl k ry
 ·rw [if_neg e,if_neg e];exact Paired.snoc r ⟨rfl,ry⟩
theorem KV.length {kvs:List (κ×V)} {vs:List (κ×Value)} (r:KV kvs vs):kvs.length=vs.length:=Paired.length r
end
theorem yG {P:Program} {w:World} {k:Key} {u:Value} (r:RelV (kV k) u):(dI P w).is k u=true:=by
 cases k with
 | inl i=>obtain ⟨t,e⟩:=(show ∃ t,u=Value.int i t from r);subst e;exact yo P w i t
 | inr x=>obtain ⟨t,e⟩:=(show ∃ t,u=Value.str x t from r);subst e;exact yp P w x t
theorem vU {P:Program} {w:World}:∀ {ks:List Key} {us:List Value},Vals (ks.map kV) us→ItemsAre (dI P w) ks us
 | [],_,r=>by rw [List.map_nil] at r;cases r;exact .nil
 | k :: ks,_,r=>by
  rw [List.map_cons] at r
  cases r with
  | cons h t=>exact .cons (yG h) (vU t)
abbrev KT (H:Hp):List (List Key×V)→List (List Key×Addr×Value)→Prop:=Paired fun p q=>p.1=q.1∧H q.2.1=some (.tup (p.1.map kV))∧RelV p.2 q.2.2
theorem KT.val {H:Hp} {kvs:List (List Key×V)} {xs:List (List Key×Addr×Value)} (r:KT H kvs xs) (k:List Key):RelO (jG kvs k) ((atKey xs k).map (·.2)):=by
 induction r with
 | nil=>exact True.intro
 | @cons p q ps qs h t ih=>
  obtain ⟨h1,_,h2⟩:=h
  by_cases e:p.1=k
  ·have e':q.1=k:=h1.symm.trans e
   have b:atKey (q :: qs) k=some q.2:=by simp [atKey,List.find?_cons,e']
   rw [gY e,b];exact h2
  ·have e':¬ q.1=k:=fun z=>e (h1.trans z)
   have b:atKey (q :: qs) k=atKey qs k:=by simp [atKey,List.find?_cons,e']
   rw [gZ e,b];exact ih
theorem KT.repl {H:Hp} {kvs:List (List Key×V)} {xs:List (List Key×Addr×Value)} (r:KT H kvs xs) (k:List Key) {y:V} {u:Value} (ry:RelV y u):
  KT H (kvs.map fun kv=>if kv.1=k then (kv.1,y) else kv) (xs.map (putAt k u)):=by
 induction r with
 | nil=>exact .nil
 | @cons p q ps qs h t ih=>
  rw [List.map_cons,List.map_cons]
  refine .cons ?_ ih
  obtain ⟨h1,h2,h3⟩:=h
  unfold putAt
  by_cases e:p.1=k
  ·rw [if_pos e,if_pos (h1.symm.trans e)];exact ⟨h1,h2,ry⟩
  ·rw [if_neg e,if_neg (fun z=>e (h1.trans z))];exact ⟨h1,h2,h3⟩
theorem KT.put {H:Hp} {kvs:List (List Key×V)} {xs:List (List Key×Addr×Value)} (r:KT H kvs xs) (k:List Key) {b:Addr} {y:V} {u:Value} (hb:H b=some (.tup (k.map kV))) (ry:RelV y u):
  KT H (putK kvs k y) (storedH xs k b u):=by
 have e:(kvs.any fun kv=>decide (kv.1=k))=(atKey xs k).isSome:=by
  rw [qC,(r.val k).isSome_eq,Option.isSome_map]
 unfold putK storedH
 rw [e]
 by_cases q:(atKey xs k).isSome=true
 ·rw [if_pos q,if_pos q];exact r.repl k ry
 ·rw [if_neg q,if_neg q];exact Paired.snoc r ⟨rfl,hb,ry⟩
theorem KT.keeps {H H':Hp} {kvs:List (List Key×V)} {xs:List (List Key×Addr×Value)} (r:KT H kvs xs) (ht:∀ b ys,H b=some (.tup ys)→H' b=some (.tup ys)):KT H' kvs xs:=
 Paired.mapP r fun _ _ z=>⟨z.1,ht _ _ z.2.1,z.2.2⟩
section
variable {P:Program} {w:World} {H:Hp} {h:Heap} {a:Addr}
theorem Qw {u:HO} (ok:HOk P w H h) (e:Rd H a u):ObjOk P w H h a u:=e.ok ok
theorem yH {kvs:List (Key×V)} (ok:HOk P w H h) (e:Rd H a (.dK kvs)):kvs.length≤sizeLine∧(a == sysModules)=false∧∃ vs,KV kvs vs∧h.DictOf (dI P w) a vs:=
 show ObjOk P w H h a (.dK kvs) from Qw ok e
theorem V9 {kvs:List (Key×V)} (ok:HOk P w H h) (e:H a=some (.dK kvs)):kvs.length≤sizeLine∧(a == sysModules)=false∧∃ vs,KV kvs vs∧h.DictOf (dI P w) a vs:=yH ok (.inl e)
theorem ut {ks:List Key} (ok:HOk P w H h) (e:H a=some (.tup (ks.map kV))):(tupleKind (dI P w)).is h ks a:=by
 obtain ⟨_,its,r,o,h1,h2,n,h3⟩:=(show ObjOk P w H h a (.tup (ks.map kV)) from ok a _ e)
 exact ⟨o,its.toArray,n,h1,h2,h3,by simpa using vU r⟩
theorem yI {kvs:List (List Key×V)} (ok:HOk P w H h) (e:Rd H a (.dT kvs)):kvs.length≤sizeLine∧(a == sysModules)=false∧
  ∃ xs,KT H kvs xs∧h.DictOfH (tupleKind (dI P w)) a xs:=by
 obtain ⟨z,y,xs,r,o,es,ep,h1,h2,h3,h4,h5⟩:=(show ObjOk P w H h a (.dT kvs) from Qw ok e)
 refine ⟨z,y,xs,r,o,es,ep,h1,h2,h3,h4,fun x hx=>?_,h5⟩
 have all:∀ {l:List (List Key×V)} {m:List (List Key×Addr×Value)},KT H l m→∀ x∈m,(tupleKind (dI P w)).is h x.1 x.2.1:=by
  intro l m q
  induction q with
  | nil=>intro x hx;exact nomatch hx
  | @cons p q ps qs hq t ih=>
   intro x hx
   rcases List.mem_cons.mp hx with e | hx
   ·subst e
    exact ut ok (by rw [← hq.1];exact hq.2.1)
   ·exact ih x hx
 exact all r x hx
theorem Wa {kvs:List (List Key×V)} (ok:HOk P w H h) (e:H a=some (.dT kvs)):kvs.length≤sizeLine∧(a == sysModules)=false∧
  ∃ xs,KT H kvs xs∧h.DictOfH (tupleKind (dI P w)) a xs:=yI ok (.inl e)
end
def DGet (H:Hp) (a:Addr) (y:V) (r:Option V):Prop:=
 (∃ kvs k,Rd H a (.dK kvs)∧y=kV k∧r=jG kvs k)∨∃ kvs k b,Rd H a (.dT kvs)∧y= .ref b∧H b=some (.tup (k.map kV))∧r=jG kvs k
def DPut (H:Hp) (a:Addr) (y v:V) (H':Hp):Prop:=
 (∃ kvs k,H a=some (.dK kvs)∧y=kV k∧kvs.length < sizeLine∧H'=upd H a (.dK (putK kvs k v)))∨
 ∃ kvs k b,H a=some (.dT kvs)∧y= .ref b∧H b=some (.tup (k.map kV))∧kvs.length < sizeLine∧H'=upd H a (.dT (putK kvs k v))
theorem DGet.k {H:Hp} {a:Addr} {kvs:List (Key×V)} {k:Key} (e:H a=some (.dK kvs)):DGet H a (kV k) (jG kvs k):=.inl ⟨kvs,k,.inl e,rfl,rfl⟩
theorem DPut.k {H:Hp} {a:Addr} {kvs:List (Key×V)} {k:Key} {v:V} (e:H a=some (.dK kvs)) (hl:kvs.length < sizeLine):DPut H a (kV k) v (upd H a (.dK (putK kvs k v))):=.inl ⟨kvs,k,e,rfl,hl,rfl⟩
section
variable {X:Cx} {pins:List (Addr×Obj)} {σ:St} {H:Hp} {s:Shared} {a:Addr} {y v:V} {u r:Value} {o:Option V} {A:Around} {E:Value→Shared→Prop}
theorem Inv.big (I:Inv X pins σ H s):sysModules < s.heap.objs.size:=by
 have h:mainGlobals < s.heap.objs.size:=(I.mod.glob.keeps I.bk).lt
 exact Nat.lt_trans (by decide) h
theorem Em {Q:Value→Shared→Prop} (hu:A.units+1 < cLine) (I:Inv X pins σ H s) (g:DGet H a y (some v)) (ry:RelV y u) (h:∀ w' s',Inv X pins σ H s'→RelV v w'→Q w' s'):
  wpAny (model X.prog X.w) A (getItem (.ref a) u) Q E s:=by
 rcases g with ⟨kvs,k,e,ey,l⟩ | ⟨kvs,k,b,e,ey,eb,l⟩
 ·subst ey
  obtain ⟨z,hd,vs,rel,dd⟩:=yH I.hok e
  obtain ⟨w',hw,rw'⟩:=RelO.some_of (v:=v) (o:=valueAt vs k) (by rw [l];exact rel.val k)
  exact wpAny_getItem_of (yG ry) dd.mapOf hw (h w' _ (I.tok _) rw')
 ·subst ey
  cases (show u=Value.ref b from ry)
  obtain ⟨z,hd,xs,rel,dd⟩:=yI I.hok e
  obtain ⟨w',hw,rw'⟩:=RelO.some_of (v:=v) (o:=(atKey xs k).map (·.2)) (by rw [l];exact rel.val k)
  obtain ⟨p,hp,hp2⟩:=Option.map_eq_some_iff.mp hw
  refine wpAny_getItem_heap (tupleKind_room_in1 hu) (ut I.hok eb) dd hp ?_
  rw [hp2]
  exact h w' _ (I.tok _) rw'
theorem d_in {Q:Value→Shared→Prop} (hu:A.units+1 < cLine) (I:Inv X pins σ H s) (g:DGet H a y o) (ry:RelV y u) (h:∀ s',Inv X pins σ H s'→Q (.bool o.isSome) s'):
  wpAny (model X.prog X.w) A (compareOp .In u (.ref a)) Q E s:=by
 rcases g with ⟨kvs,k,e,ey,l⟩ | ⟨kvs,k,b,e,ey,eb,l⟩
 ·subst ey
  obtain ⟨z,hd,vs,rel,dd⟩:=yH I.hok e
  refine wpAny_in_of (yG ry) hd dd.mapOf ?_
  rw [← (rel.val k).isSome_eq,← l]
  exact h _ (I.tok _)
 ·subst ey
  cases (show u=Value.ref b from ry)
  obtain ⟨z,hd,xs,rel,dd⟩:=yI I.hok e
  refine wpAny_in_heap (tupleKind_room_in1 hu) (ut I.hok eb) hd dd ?_
  have q:=(rel.val k).isSome_eq
  rw [Option.isSome_map] at q
  rw [← q,← l]
  exact h _ (I.tok _)
theorem Mq {Q:Value→Shared→Prop} (hu:A.units+1 < cLine) (I:Inv X pins σ H s) (g:DGet H a y o) (ry:RelV y u) (h:∀ s',Inv X pins σ H s'→Q (.bool (!o.isSome)) s'):
  wpAny (model X.prog X.w) A (compareOp .NotIn u (.ref a)) Q E s:=by
 rcases g with ⟨kvs,k,e,ey,l⟩ | ⟨kvs,k,b,e,ey,eb,l⟩
 ·subst ey
  obtain ⟨z,hd,vs,rel,dd⟩:=yH I.hok e
  refine wpAny_notIn_of (yG ry) hd dd.mapOf ?_
  rw [← (rel.val k).isSome_eq,← l]
  exact h _ (I.tok _)
 ·subst ey
  cases (show u=Value.ref b from ry)
  obtain ⟨z,hd,xs,rel,dd⟩:=yI I.hok e
  refine wpAny_notIn_heap (tupleKind_room_in1 hu) (ut I.hok eb) hd dd ?_
  have q:=(rel.val k).isSome_eq
  rw [Option.isSome_map] at q
  rw [← q,← l]
  exact h _ (I.tok _)
theorem Cy {h':Heap} {t':Nat} {ob:HO} (I:Inv X pins σ H s) (mu:Vw (H a)) (hs:Heap.SameBut a s.heap h') (he:∃ q,h'.get? a=some q) (new:ObjOk X.prog X.w (upd H a ob) h' a ob):
  Inv X pins σ (upd H a ob) {s with heap:=h',toks:=t'}:=
 I.write (x:=a) (e:=a) mu (.inl rfl) (fun b q hb z=>(hs.2 b hb).trans z) he new
theorem R6 {P:Program} {w:World} {H':Hp} {h':Heap} {kvs:List (Key×V)} {vs:List (Key×Value)} (z:kvs.length≤sizeLine) (hd:(a == sysModules)=false) (rel:KV kvs vs) (dd:h'.DictOf (dI P w) a vs):
  ObjOk P w H' h' a (.dK kvs):=⟨z,hd,vs,rel,dd⟩
theorem En {H':Hp} {Q:Unit→Shared→Prop} (hu:A.units+1 < cLine) (I:Inv X pins σ H s) (g:DPut H a y v H') (ry:RelV y u) (rv:RelV v r) (h:∀ s',Inv X pins σ H' s'→Q () s'):
  wpAny (model X.prog X.w) A (setItem (.ref a) u r) Q E s:=by
 rcases g with ⟨kvs,k,e,ey,l,eH⟩ | ⟨kvs,k,b,e,ey,eb,l,eH⟩
 ·subst ey eH
  obtain ⟨z,hd,vs,rel,dd⟩:=V9 I.hok e
  have hz:vs.length≤sizeLine:=by rw [← rel.length];exact z
  have hl:(putK kvs k v).length≤sizeLine:=by have:=g8 kvs k v;omega
  refine wpAny_setItem_pairs (hsz:=hz) (yG ry) dd fun h' dd' hs=>h _ ?_
  have he:∃ q,h'.get? a=some q:=let ⟨q,_,_,hq,_⟩:=dd';⟨q,hq⟩
  exact Cy I (by rw [e];exact True.intro) hs he (R6 hl hd (rel.put k rv) dd')
 ·subst ey eH
  cases (show u=Value.ref b from ry)
  obtain ⟨z,hd,xs,rel,dd⟩:=Wa I.hok e
  have hz:xs.length≤sizeLine:=by rw [← Paired.length rel];exact z
  have hl:(putK kvs k v).length≤sizeLine:=by have:=g8 kvs k v;omega
  refine wpAny_setItem_heap (hsz:=hz) (tupleKind_room_in1 hu) (ut I.hok eb) dd fun h' dd' hs=>h _ ?_
  obtain ⟨q,es,ep,hq,h2,h3,h4,_,h5⟩:=dd'
  refine Cy I (by rw [e];exact True.intro) hs ⟨q,hq⟩ ⟨hl,hd,_,(rel.put k eb rv).keeps fun c ys ec=>?_,q,es,ep,hq,h2,h3,h4,h5⟩
  rw [aB (Vv ec e (fun z=>nomatch z))]
  exact ec
end
section
variable {X:Cx} {pins:List (Addr×Obj)} {σ:St} {H:Hp} {s:Shared} {a:Addr} {kvs:List (Key×V)} {k:Key} {u:Value} {A:Around} {E:Value→Shared→Prop}
end
def Wb (i:Expr):Prop:=∀ ov iv,subscripted i false ov iv=operate [ov,iv] (getItem ov iv)
theorem Mr {prog:Program} {w:World} {A:Around} {E:Value→Shared→Prop} {s:Shared} {env:Env} {value slice:Expr} {pos:Pos} {T id:String} {Q:Value→Shared→Prop}
  (hl:typeLookup (.type T) "__getitem__"=pure (some (.builtin id))) (hs:Wb slice)
  (h:wpAny (model prog w) A (eval value env) (fun o s₁=>wpAny (model prog w) A (eval slice env) (fun i s₂=>s₂.TypeIs o T∧wpAny (model prog w) A (getItem o i) Q E s₂) E s₁) E s):
  wpAny (model prog w) A (eval (.Subscript value slice pos) env) Q E s:=by
 refine Subscript_ (wpAny_mono h (fun o s₁ h₁=>wpAny_mono h₁ (fun i s₂ h₂=>?_) fun _ _ x=>x) fun _ _ x=>x)
 obtain ⟨hT,h₂⟩:=h₂
 unfold subscriptTail
 refine wpAny_bind ?_
 rw [getitemInPython_of_ne hT.not_modules]
 refine wpAny_bind (wpAny_specialOf hT hl ?_)
 have fin:wpAny (model prog w) A (subscripted slice false o i) (fun r s₃=>wpAny (model prog w) A (letTemporaryGo value o r >>=fun _=>pure r) Q E s₃) E s₂:=by
  rw [hs o i]
  exact wpAny_operating (wpAny_mono h₂ (fun r s₃ h₃=>wpAny_bind (wpAny_letTemporaryGo (wpAny_pure h₃))) fun _ _ x=>x)
 first
  | exact wpAny_pure (wpAny_bind fin)
  | exact wpAny_bind (wpAny_pure (wpAny_bind fin))
  | exact wpAny_bind fin
theorem yJ {X:Cx} {pins:List (Addr×Obj)} {σ:St} {H:Hp} {s:Shared} {a:Addr} {y:V} {o:Option V} (I:Inv X pins σ H s) (g:DGet H a y o):s.TypeIs (.ref a) "dict":=by
 rcases g with ⟨kvs,k,e,_,_⟩ | ⟨kvs,k,b,e,_,_,_⟩
 ·obtain ⟨_,_,vs,_,dd⟩:=yH I.hok e
  exact dd.typeIs
 ·obtain ⟨_,_,xs,_,dd⟩:=yI I.hok e
  exact dd.typeIs
def HH (td ty:TE):TE:=fun σ H Q=>td σ H fun x H1=>ty σ H1 fun y H2=>∃ a v,x= .ref a∧DGet H2 a y (some v)∧Q v H2
section
variable {X:Cx} {o i e value:Expr} {pos pos' tpos:Pos} {td ty tv:TE}
theorem Ms (hu:X.A.units+1 < cLine) (ho:PE X o td) (hi:PE X i ty) (hs:Wb i):PE X (.Subscript o i pos) (HH td ty):=by
 intro pins s σ H Q I h
 refine Mr PySem.F.slot_dict_getitem.lookup hs (fJ (ho pins s σ H _ I h) fun u s1 ⟨x,H1,I1,rx,q1⟩=>fJ (hi pins s1 σ H1 _ I1 q1) fun iv s2 qq0=>?_)
 obtain ⟨y,H2,I2,ry,a,v,ex,g,q2⟩:=qq0
 subst ex
 obtain rfl:u=Value.ref a:=rx
 exact ⟨yJ I2 g,Em hu I2 g ry fun w' s3 I3 rw'=>⟨v,H2,I3,rw',q2⟩⟩
end
theorem HJ {P:Program} {w:World} {H:Hp} (h:Heap) (hb:sysModules < h.objs.size):ObjOk P w H (h.push {cls:=.type "dict",data:=.dict #[]}) h.objs.size (.dK []):=
 ⟨Nat.zero_le _,beq_eq_false_iff_ne.mpr (Ne.symm (Nat.ne_of_lt hb)),[],.nil,Heap.DictOf.new h⟩
def Aw:TE:=fun _ H Q=>∀ p,H p=none→Q (.ref p) (upd H p (.dK []))
section
variable {X:Cx} {pos:Pos}
theorem HN:PE X (.Dict [] [] pos) Aw:=fun pins s σ H Q I h=>
 wpAny_Dict_empty ⟨.ref s.heap.objs.size,_,I.laid (a:=s.heap.objs.size) (o:=.dK []) (t':=s.toks) (fun _ _ q=>Heap.get?_push_of_some _ q) (Nat.le_refl _) (HJ s.heap I.big),rfl,h _ (I.hok.fresh (Nat.le_refl _))⟩
end
def HQ:List (TE×TE)→St→Hp→(List (V×V)→Hp→Prop)→Prop
 | [],_,H,Q=>Q [] H
 | (tk,tv) :: r,σ,H,Q=>tk σ H fun x H1=>tv σ H1 fun y H2=>HQ r σ H2 fun ps H3=>Q ((x,y) :: ps) H3
abbrev VV:List (V×V)→List (Value×Value)→Prop:=Paired fun p q=>RelV p.1 q.1∧RelV p.2 q.2
def PPs (X:Cx) (pos:Pos) (keys:List (Option Expr)) (values:List Expr) (trs:List (TE×TE)):Prop:=
 ∀ (pins:List (Addr×Obj)) (s:Shared) (σ:St) (H:Hp) (Q:List (V×V)→Hp→Prop),Inv X pins σ H s→HQ trs σ H Q→
  wpAny (model X.prog X.w) X.A (evalPairs (pairTrees keys values X.env pos)) (fun vs s'=>∃ ps H',Inv X pins σ H' s'∧VV ps vs∧Q ps H') X.xe s
structure M1 (X:Cx) (o:Expr) (m:Str) (apos:Pos) (e:Expr) (cpos:Pos):Prop where
 base:attributeBase o m X.env (eval o X.env)=eval o X.env
 few:((backTo cpos (starEach [e] X.env)).all (fun x=>!x.1) && (backToKw cpos (keywordEach [] X.env)).all (fun x=>x.1.isSome)
  && decide (([e]:List Expr).length+([]:List Keyword).length+(if ([]:List Keyword).isEmpty then 0 else 1) < 30))=true
 line:(apos.endLine == cpos.line)=true
 trees:backTo cpos (starEach [e] X.env)=[(false,eval e X.env)]
structure M2 (X:Cx) (o:Expr) (m:Str) (apos:Pos) (e f:Expr) (cpos:Pos):Prop where
 base:attributeBase o m X.env (eval o X.env)=eval o X.env
 few:((backTo cpos (starEach [e,f] X.env)).all (fun x=>!x.1) && (backToKw cpos (keywordEach [] X.env)).all (fun x=>x.1.isSome)
  && decide (([e,f]:List Expr).length+([]:List Keyword).length+(if ([]:List Keyword).isEmpty then 0 else 1) < 30))=true
 line:(apos.endLine == cpos.line)=true
 trees:backTo cpos (starEach [e,f] X.env)=[(false,eval e X.env),(false,eval f X.env)]
section
variable {X:Cx} {pins:List (Addr×Obj)} {σ:St} {H:Hp} {s:Shared} {a:Addr} {y d:V} {u r:Value} {o:Option V} {A:Around} {E:Value→Shared→Prop}
end
section
variable {X:Cx} {o e f:Expr} {apos cpos:Pos} {td ty tx:TE}
end
section
variable {X:Cx} {pins:List (Addr×Obj)} {σ:St} {H:Hp} {s:Shared} {a:Addr} {kvs:List (Key×V)} {A:Around} {E:Value→Shared→Prop}
end
section
variable {X:Cx} {pins:List (Addr×Obj)} {σ:St} {H:Hp} {s:Shared} {a:Addr} {y:V} {u:Value} {A:Around} {E:Value→Shared→Prop}
end
end L2
namespace L2
open PySem PySem.Spec PyProof.Rows
section
variable {X:Cx}
section
variable {κ:Type} [DecidableEq κ]
end
end
end L2
namespace L2
open PySem PySem.Spec PyProof.Rows
def Mt (x:Str):It:=⟨fun i _=>i < x.cps.size,fun i H v H'=>H'=H∧∃ c,x.cps[i]?=some c∧v= .str ⟨#[c]⟩,fun i _=>i=x.cps.size⟩
theorem yK {P:Program} {w:World} {K:PySem.W.Frag} {tg:Expr} (it:Addr) (x:Str) (t:Tok) (ty:String)
  (hty:["enumerate","zip","dict_itemiterator","dict_reverseitemiterator","odict_iterator","itertools.zip_longest","itertools.pairwise"].contains ty=false)
  (W:∀ A:Around,A.handled=none→Walks P w A it [it] [it] x.cps.size (SignAt x) fun i h=>h.IsStrIter it ty x t i)
  (hself:∀ (A:Around) (i:Nat) (s:Shared) (Q:Value→Shared→Prop) (E:Value→Shared→Prop),s.heap.IsStrIter it ty x t i→Q (.ref it) s→wpAny (model P w) A (pyIter (.ref it)) Q E s):Turn P w K tg (Mt x) [it] it (fun i h=>h.IsStrIter it ty x t i) where
 mem:=by simp
 obj:=fun i h st b hb=>by
  have e:b=it:=by simpa using hb
  subst e
  obtain ⟨o,e,c,d⟩:=st
  exact ⟨o,e,fun v z=>by rw [d] at z;cases z⟩
 keep:=fun i h h' st k=>by
  obtain ⟨o,e,r⟩:=st
  exact ⟨o,k it (by simp) o e,r⟩
 item:=by
  intro X hP hw hK hc i pins s σ H E I hf st hg
  subst hP hw hK
  obtain ⟨f0,f1,f2,f3,f4,f5⟩:=hf it (by simp)
  refine (W X.A (I.ok.hd hc)).item i s _ _ hg st fun v h' tk hv st' kk=>?_
  obtain ⟨c,u,e1,rfl⟩:=hv
  have I1:Inv X pins σ H {s with heap:=h',toks:=tk}:=I.turned (fun b o hb e=>kk b o (by simpa using hb) e) f0 f1 f3 f4 f5
  obtain ⟨o,e,cl,d⟩:=id st'
  exact ⟨_,rfl,yr (s:={s with heap:=h',toks:=tk}) e cl d hty ⟨.str ⟨#[c]⟩,H,I1,⟨u,rfl⟩,⟨rfl,c,e1,rfl⟩,st',fun b hb=>(hf b hb).1⟩⟩
 done:=by
  intro X hP hw hK hc i pins s σ H E I hf st hg
  subst hP hw hK
  obtain ⟨f0,f1,f2,f3,f4,f5⟩:=hf it (by simp)
  have hg:i=x.cps.size:=hg
  subst hg
  exact (W X.A (I.ok.hd hc)).done s _ _ st fun h' tk kk=>⟨rfl,I.turned (fun b o hb e=>kk b o (by simpa using hb) e) f0 f1 f3 f4 f5⟩
 self:=hself
section
variable {X:Cx}
theorem all_range {bs:List Bool}:(List.range bs.length).all (fun i=>bs.getD i false)=bs.all id:=by
 rw [Bool.eq_iff_iff]
 simp only [List.all_eq_true,List.mem_range]
 constructor
 ·intro h b hb
  obtain ⟨i,hi,e⟩:=List.mem_iff_getElem.mp hb
  have:=h i hi
  rw [List.getD_eq_getElem?_getD,List.getElem?_eq_getElem hi] at this
  simp only [Option.getD_some] at this
  rw [← e];exact this
 ·intro h i hi
  rw [List.getD_eq_getElem?_getD,List.getElem?_eq_getElem hi]
  exact h _ (List.getElem_mem hi)
theorem rY:∀ {bs:List Bool} {us:List Value} {i:Nat} {v:Value},Vals (bs.map V.bl) us→us[i]?=some v→v= .bool (bs.getD i false)
 | [],_,i,v,.nil,e=>by simp at e
 | b :: bs,_,0,v,.cons r t,e=>by simp at e;subst e;exact r
 | b :: bs,_,i+1,v,.cons r t,e=>by
  simp at e
  have:=rY (bs:=bs) t e
  simpa using this
def rAll:List V→Hp→VK→Prop:=fun xs H Q=>∃ (p:Addr) (bs:List Bool),xs=[.ref p]∧H p=some (.lst (bs.map V.bl))∧Q (.bl (bs.all id)) H
theorem HR (hc:X.calm=true):CallR X (.builtin "all") rAll:=by
 intro pins s σ H xs us Q I r h
 obtain ⟨p,bs,rfl,hp,q⟩:=h
 obtain ⟨u,rfl,ru⟩:=vals1 r
 cases ru
 obtain ⟨hz,its,n,rv,e⟩:=I.hok p _ hp
 refine call_all_walk (wpAny_pyIter_list (items:=its.toArray) ⟨_,e,rfl,n,rfl⟩ ?_)
 refine ⟨s.heap.objs.size,_,_,_,_,_,fun i=>bs.getD i false,rfl,Walks.list (A:=X.A.in1) (I.ok.hd hc) s.heap.objs.size p (Nat.ne_of_lt (Heap.lt_size e)) its.toArray,⟨⟨_,Heap.get?_push_size _ rfl,rfl,rfl⟩,⟨_,Heap.get?_push_of_some _ e,rfl,n,rfl⟩⟩,?_,fun h' tk hk=>?_⟩
 ·intro i v s' Q' E' hv hq
  have:=rY rv (by simpa using hv)
  subst this
  exact wpAny_truthy_bool hq
 ·have hl:its.toArray.size=bs.length:=by have:=rv.length;simpa using this.symm
  rw [hl,all_range]
  refine ⟨.bl _,H,?_,rfl,q⟩
  exact I.kept fun b o e=>hk b o (by simp;exact Nat.ne_of_lt (Heap.lt_size e)) (Heap.get?_push_of_some _ e)
theorem uv:∀ {ys:List Str} {us:List Value},Vals (ys.map V.str) us→StrsAre us ys
 | [],_,.nil=>.nil
 | y :: ys,_,.cons r t=>by
  obtain ⟨k,e⟩:=(show ∃ t,_=Value.str y t from r)
  subst e
  exact .cons y k (uv t)
def rJoin:V→List V→Hp→VK→Prop:=fun x xs H Q=>∃ (sep:Str) (p:Addr) (ys:List Str),x= .str sep∧xs=[.ref p]∧H p=some (.lst (ys.map V.str))∧(ys.map (·.length)).sum+ys.length*sep.length≤16777216∧Q (.str (Txt.join sep ys)) H
theorem Mu:Vs X "str.join" rJoin:=by
 intro pins s σ H x xs v us Q I rx r h
 obtain ⟨sep,p,ys,rfl,rfl,hp,hz,q⟩:=h
 obtain ⟨u,rfl,ru⟩:=vals1 r
 cases ru
 obtain ⟨t,rfl⟩:=rx
 obtain ⟨hz',its,n,rv,e⟩:=I.hok p _ hp
 exact join_list (items:=its.toArray) ⟨_,e,rfl,n,rfl⟩ (by simpa using uv rv) hz fun t' k=>⟨.str _,H,I.tok _,⟨_,rfl⟩,q⟩
def Wc:V→Option Int→Option Int→Hp→VK→Prop:=fun v lo hi H Q=>∃ x,v= .str x∧x.length≤sizeLine∧Q (.str (Txt.slice x lo hi)) H
theorem R7:SlR X Wc:=by
 intro pins s σ H x v vl vu lo hi sl Q I rx hs pl pu h
 obtain ⟨z,rfl,hz,q⟩:=h
 obtain ⟨t,rfl⟩:=rx
 refine ⟨"str",_,F.slot_str_getitem.lookup,typeIs_str _ _ _,?_⟩
 have fin:∀ (t' k:Nat),EP X pins σ Q (.str (Txt.slice z lo hi) t') {s with toks:=k}:=fun t' k=>⟨.str _,H,I.tok _,⟨_,rfl⟩,q⟩
 have sz:=Nat.le_trans (Txt.slice_le z lo hi) hz
 obtain ⟨o,ho,hc,hd⟩:=hs
 cases pl with
 | none=>
  cases pu with
  | none=>exact wpAny_getItem_str_slice (l:=none) (u:=none) (st:=none) ⟨o,ho,hc,hd⟩ rfl (post_val_or_str ⟨sz,fin⟩)
  | int j tj=>exact wpAny_getItem_str_slice (l:=none) (u:=some (j,tj)) (st:=none) ⟨o,ho,hc,hd⟩ rfl (post_val_or_str ⟨sz,fin⟩)
 | int i ti=>
  cases pu with
  | none=>exact wpAny_getItem_str_slice (l:=some (i,ti)) (u:=none) (st:=none) ⟨o,ho,hc,hd⟩ rfl (post_val_or_str ⟨sz,fin⟩)
  | int j tj=>exact wpAny_getItem_str_slice (l:=some (i,ti)) (u:=some (j,tj)) (st:=none) ⟨o,ho,hc,hd⟩ rfl (post_val_or_str ⟨sz,fin⟩)
def Qx:R2:=fun x y H Q=>∃ i n,x= .str i∧y= .int n∧MulOk i n∧Q (.str (Txt.mul i n)) H
theorem Ax:OpR X (binaryOp .Mult) Qx:=by
 intro pins s σ H x y v u Q I rx ry h
 obtain ⟨i,n,rfl,rfl,hk,q⟩:=h
 obtain ⟨t,rfl⟩:=rx
 obtain ⟨t',rfl⟩:=ry
 exact SB.mul hk fun t' k=>⟨.str _,H,I.tok _,⟨_,rfl⟩,q⟩
def sgn (x:Str):List V:=x.cps.toList.map fun c=>V.str ⟨#[c]⟩
theorem Eo {x:Str} {acc:Array Value} (h:ItemsOf (SignAt x) acc x.cps.size):Vals (sgn x) acc.toList:=by
 obtain ⟨h1,h2⟩:=h
 have key:∀ (l:List Nat) (a:List Value),l.length=a.length→(∀ (j:Nat) (v:Value),a[j]?=some v→∃ (c:Nat) (u:Tok),l[j]?=some c∧v=Value.str ⟨#[c]⟩ u)→Vals (l.map fun c=>V.str ⟨#[c]⟩) a:=by
  intro l
  induction l with
  | nil=>intro a hl _;cases a with
   | nil=>exact .nil
   | cons _ _=>simp at hl
  | cons c l ih=>
   intro a hl hh
   cases a with
   | nil=>simp at hl
   | cons v a=>
    obtain ⟨c',u,e1,e2⟩:=hh 0 v (by simp)
    simp at e1;subst e1
    refine .cons ⟨u,e2⟩ (ih a (by simpa using hl) fun j v' e=>?_)
    obtain ⟨c',u,e1,e2⟩:=hh (j+1) v' (by simpa using e)
    exact ⟨c',u,by simpa using e1,e2⟩
 refine key x.cps.toList acc.toList (by simp [h1]) fun j v e=>?_
 obtain ⟨c,u,e1,e2⟩:=h2 j v (by simpa using e)
 exact ⟨c,u,by simpa using e1,e2⟩
theorem yL (hc:X.calm=true):CallR X (.type "list") (fun xs H Q=>∃ x,xs=[.str x]∧x.cps.size≤sizeLine∧∀ p,H p=none→Q (.ref p) (upd H p (.lst (sgn x)))):=by
 intro pins s σ H xs us Q I r h
 obtain ⟨x,rfl,hz,q⟩:=h
 obtain ⟨u,rfl,t,rfl⟩:=vals1 r
 refine call_list_str (I.ok.hd hc) x t (hn:=hz) fun h' tk acc' c' hk hS hacc=>?_
 refine ⟨.ref s.heap.objs.size,_,I.laid (o:=.lst (sgn x)) hk (Nat.le_refl _) ⟨by simp [sgn];exact hz,acc'.toList,c',Eo hacc,by simpa using hS⟩,rfl,q _ I.fresh⟩
def R8 (K:PySem.W.Frag):List V→Hp→VK→Prop:=fun xs H Q=>∃ x T t b,xs=[x,.ty T]∧TyOf K H x t∧PySem.W.kitOne K t (.type T)=some b∧Q (.bl b) H
theorem HS:CallR X (.builtin "isinstance") (R8 X.K):=by
 intro pins s σ H xs us Q I r h
 obtain ⟨x,T,t,b,rfl,ty,e,q⟩:=h
 obtain ⟨u,v,rfl,ru,rv⟩:=vals2 r
 cases rv
 exact Ec I ru ty e fun tk=>⟨.bl b,H,I.tok _,rfl,q⟩
def Ay:List V→List V→Bool
 | [],[]=>true
 | x :: xs,y :: ys=>Cu x y && Ay xs ys
 | _,_=>false
theorem uw:∀ (xs ys:List V),xs.length=ys.length→(List.range xs.length).all (fun j=>Cu (xs.getD j .non) (ys.getD j .non))=Ay xs ys
 | [],[],_=>rfl
 | x :: xs,y :: ys,h=>by
  have ih:=uw xs ys (by simpa using h)
  rw [List.length_cons,List.range_succ_eq_map,List.all_cons,List.all_map]
  simp only [Ay]
  rw [← ih]
  rfl
 | [],y :: ys,h=>by simp at h
 | x :: xs,[],h=>by simp at h
theorem yM:∀ {xs ys:List V},xs.length≠ys.length→Ay xs ys=false
 | [],[],h=>absurd rfl h
 | [],y :: ys,_=>rfl
 | x :: xs,[],_=>rfl
 | x :: xs,y :: ys,h=>by simp [Ay,yM (xs:=xs) (ys:=ys) (by simpa using h)]
def Wd (K:PySem.W.Frag) (neg:Bool):R2:=fun x y H Q=>∃ a b xs ys,x= .ref a∧y= .ref b∧SqL K H a xs∧SqL K H b ys∧xs.all jl=true∧ys.all jl=true∧Q (.bl (if neg then !Ay xs ys else Ay xs ys)) H
theorem Ep (hu:X.A.units < cLine):OpR X (compareOp .Eq) (Wd X.K false):=by
 intro pins s σ H x y v u Q I rx ry h
 obtain ⟨a,b,xs,ys,rfl,rfl,ha,hb,fx,fy,q⟩:=h
 cases rx
 cases ry
 obtain ⟨its,r1,p1,z1⟩:=I.list ha
 obtain ⟨jts,r2,p2,z2⟩:=I.list hb
 have l1:its.toArray.size=xs.length:=by simpa using r1.length.symm
 have l2:jts.toArray.size=ys.length:=by simpa using r2.length.symm
 by_cases hl:xs.length=ys.length
 ·refine SeqAt.eq_listAt (e:=fun j=>Cu (xs.getD j .non) (ys.getD j .non)) p1.isList p2.isList (by rw [l1,l2];exact hl) hu (fun j h1 h2=>?_) ?_
  ·have h1':j < xs.length:=by omega
   have h2':j < ys.length:=by omega
   obtain ⟨u1,e1,q1⟩:=r1.get (List.getElem?_eq_getElem h1')
   obtain ⟨u2,e2,q2⟩:=r2.get (List.getElem?_eq_getElem h2')
   have e1':its.toArray[j]=u1:=by
    have:=List.getElem?_eq_some_iff.mp e1
    obtain ⟨_,z⟩:=this
    simpa using z
   have e2':jts.toArray[j]=u2:=by
    have:=List.getElem?_eq_some_iff.mp e2
    obtain ⟨_,z⟩:=this
    simpa using z
   rw [e1',e2']
   have g1:xs.getD j .non=xs[j]:=by rw [List.getD_eq_getElem?_getD,List.getElem?_eq_getElem h1'];rfl
   have g2:ys.getD j .non=ys[j]:=by rw [List.getD_eq_getElem?_getD,List.getElem?_eq_getElem h2'];rfl
   show SeqAt.EqAt X.A.in1 s u1 u2 (Cu (xs.getD j .non) (ys.getD j .non))
   rw [g1,g2]
   exact q9 q1 q2 (List.all_eq_true.mp fx _ (List.getElem_mem h1')) (List.all_eq_true.mp fy _ (List.getElem_mem h2'))
  ·rw [l1,uw xs ys hl]
   exact ⟨.bl _,H,I,rfl,q⟩
 ·refine SeqAt.eq_list_lengthsAt p1.isList p2.isList (by rw [l1,l2];simpa using hl) hu ?_
  rw [if_neg (by simp),yM hl] at q
  exact ⟨.bl false,H,I,rfl,q⟩
end
end L2
namespace L2
open PySem PySem.Spec PyProof.Rows
def fO (K:PySem.W.Frag) (mg:Str→Option Value) (x:Str) (st:Stmt):Prop:=∃ f fd,Fun K x x st f fd∧mg x=some (.ref f)
theorem bf {K:PySem.W.Frag} {mg:Str→Option Value} {h:Heap} (X:K.In h) (G:h.Ns mainGlobals mg) {x:Str} {st:Stmt} {f:Addr} {oc:Value} {od an:Option Addr} {osl:Array (Option Value)} {kV doc pm cdv ct:Value}
  (a:PySem.W.nsIn K mainGlobals x=some (some (.ref f)))
  (l:K.lookup f=some ⟨oc,od,.func (PySem.W.fnOf x x (gw st) (cj st) (aq st) .none kV doc pm an cdv ct),osl⟩)
  (c:PySem.W.codeIn K cdv x=true) (k:PySem.W.keepIn K (.ref f)=true):fO K mg x st:=⟨f,_,uh l c k,PySem.W.mg_of X G a⟩
def Has (P:Program) (w:World) (K:PySem.W.Frag) (mg:Str→Option Value) (base:Heap) (k:Nat) (x:Str) (ps:List Str) (sp:Sp):Prop:=
 ∃ f fd,mg x=some (.ref f)∧PySem.W.keepIn K (.ref f)=true∧Binds K fd ps []∧FnOk P w K mg base Av k f fd ps sp
section
variable {P:Program} {w:World} {K:PySem.W.Frag} {mg:Str→Option Value} {base:Heap}
theorem Has.mono {j k:Nat} {x:Str} {ps:List Str} {sp:Sp} (h:Has P w K mg base j x ps sp) (hk:j≤k):Has P w K mg base k x ps sp:=
 let ⟨f,fd,a,b,c,d⟩:=h;⟨f,fd,a,b,c,d.mono hk⟩
theorem R9 {x:Str} {st:Stmt} {N ps:List Str} {k:Nat} {sp:Sp} (D:fO K mg x st) (S:aC N ps (aq st))
  (hb:∀ (kV doc pm:Value) (an:Option Addr) (cdv ct:Value) (us:List Value),us.length=ps.length→bindArgs (PySem.W.fnOf x x (gw st) (cj st) (aq st) .none kV doc pm an cdv ct) ⟨us,[]⟩=pure (ps.zip us))
  (len:∀ vs H Q E,sp vs H Q E→vs.length=ps.length)
  (hbody:∀ (f:Addr) (cdv:Value) (A:Around) (outer:List Env) (s:Shared) (H:Hp) (vs:List V) (Q:VK) (E:XK),Room k (A.deeper (envOfC x (aq st) s.heap.objs.size f cdv))→sp vs H Q E→
   ∃ t,PSs (pG Av P w K mg base N x (aq st) f cdv A outer s H E).nox (cj st) t∧t {nx:=fun _ H'=>Q .non H',rt:=Q} (start N vs) H):Has P w K mg base (k+1) x ps sp:=by
 obtain ⟨f,fd,F,hm⟩:=D
 exact ⟨f,fd,hm,F.kp,F.binds hb,F.ok S len fun cdv A outer s H vs Q E hr h=>hbody f cdv A outer s H vs Q E hr h⟩
end
section
variable {X:Cx}
theorem HW {k:Nat} {x:Str} {ps:List Str} {sp:Sp} {p pos:Pos} {e:Expr} {es:List Expr} {t:TA} (F:Has X.prog X.w X.K X.mg X.base k x ps sp) (hr:Room k X.A) (hg:Gl X x)
  (ha:PA X (e :: es) t) (hdb:autoParam ((x == ("__debug__":Str))=false) L2.auto2._auto_1) (he:autoParam (starEach (e :: es) X.env=(false,eval e X.env) :: starEach es X.env) L2.auto4._auto_1) (hpl:autoParam ((backTo pos (starEach es X.env)).any (·.1)=false) L2.auto4._auto_1):
  PE X (.Call (.Name x p) (e :: es) [] pos) (vJ sp [] E0 t):=by
 obtain ⟨f,fd,a,b,c,d⟩:=F
 exact Mg d hr hg a b c .nil V8 ha hdb he hpl
def yN:R2:=fun x y H Q=>(∃ i j,x= .int i∧y= .int j∧Q (.int (i+j)) H)∨(∃ i j,x= .str i∧y= .str j∧i.length+j.length≤sizeLine∧Q (.str (i ++ j)) H)∨V6 x y H Q
theorem aW:OpR X (binaryOp .Add) yN:=RB.or (Ag.or R4)
def HX:R2:=fun x y H Q=>(∃ i j,x= .int i∧y= .int j∧CMul i j∧Q (.int (i*j)) H)∨Qx x y H Q∨V7 x y H Q
theorem lW:OpR X (binaryOp .Mult) HX:=RC.or (Ax.or R5)
theorem HY {x:Str} {z:Str} {pos:Pos} (hg:Gl X x) (hm:∃ t,X.mg x=some (.str z t)) (hd:autoParam ((x == ("__debug__":Str))=false) L2.auto2._auto_1):PE X (.Name x pos) (tC (.str z)):=
 let ⟨t,e⟩:=hm;wH hg e ⟨t,rfl⟩ hd
theorem Ia {x:Str} {z:Int} {pos:Pos} (hg:Gl X x) (hm:∃ t,X.mg x=some (.int z t)) (hd:autoParam ((x == ("__debug__":Str))=false) L2.auto2._auto_1):PE X (.Name x pos) (tC (.int z)):=
 let ⟨t,e⟩:=hm;wH hg e ⟨t,rfl⟩ hd
theorem We {x:Str} {T:String} {pos:Pos} (hg:Gl X x) (hm:X.mg x=none) (hv:bootBuiltins x=some (.type T)) (hn:autoParam (x≠"__name__") L2.auto2._auto_1) (hd:autoParam ((x == ("__debug__":Str))=false) L2.auto2._auto_1):PE X (.Name x pos) (tC (.ty T)):=
 Le hg hm hv rfl hn hd
def Mv (K:PySem.W.Frag):R2:=fun x y H Q=>(∃ i j,x= .str i∧y= .str j∧Q (.bl (!(Builtin.Str.occurrences j i 0 j.length 1).isEmpty)) H)∨YM K false x y H Q
theorem Sd:OpR X (compareOp .In) (Mv X.K):=DY.or Eh
def wV (K:PySem.W.Frag):R2:=fun x y H Q=>(∃ i j,x= .str i∧y= .str j∧Q (.bl (!(!(Builtin.Str.occurrences j i 0 j.length 1).isEmpty))) H)∨YM K true x y H Q
theorem Er:OpR X (compareOp .NotIn) (wV X.K):=wN.or wM
def Sg (K:PySem.W.Frag):R2:=fun x y H Q=>rEq x y H Q∨Wd K false x y H Q
theorem Sh (hu:X.A.units < cLine):OpR X (compareOp .Eq) (Sg X.K):=VJ.or (Ep hu)
def YQ (K:PySem.W.Frag):V→Option Int→Option Int→Hp→VK→Prop:=fun x lo hi H Q=>V3 K x lo hi H Q∨VP K x lo hi H Q∨Wc x lo hi H Q
theorem Sq:SlR X (YQ X.K):=Ml.or (RW.or R7)
def Mw (K:PySem.W.Frag) (tl:TE):TI:=fun σ H R=>tl σ H fun x H1=>(∃ a,x= .ref a∧(∃ xs,SqL K H1 a xs)∧R (Qv K a) H1)∨(∃ a,x= .ref a∧(∃ xs,SqT K H1 a xs)∧R (Vr K a) H1)∨(∃ z,x= .str z∧R (Mt z) H1)
theorem Ss {tg l:Expr} {tl:TE} (hl:PE X l tl):PI X tg l (Mw X.K tl):=by
 intro pins s σ H R I h
 refine fJ (hl pins s σ H _ I h) fun v s1 qq0=>?_
 obtain ⟨x,H1,I1,r1,q1⟩:=qq0
 rcases q1 with ⟨a,rfl,⟨xs,hq⟩,q⟩ | ⟨a,rfl,⟨xs,hq⟩,q⟩ | ⟨z,rfl,q⟩
 ·cases r1
  obtain ⟨its,rv,p,hz⟩:=I1.list hq
  refine wpAny_pyIter_list p.isList ?_
  refine ⟨s1.heap.objs.size,[s1.heap.objs.size],_,_,H1,rfl,I1.kept (t':=s1.toks) fun b o e=>Heap.get?_push_of_some _ e,DP a _,⟨_,Heap.get?_push_size _ rfl,rfl,rfl⟩,fun b hb=>?_,q⟩
  have e:b=s1.heap.objs.size:=by simpa using hb
  subst e
  exact I1.fpOk (Nat.le_refl _) (I1.hok.fresh (Nat.le_refl _))
 ·cases r1
  obtain ⟨its,rv,p,hz⟩:=I1.tuple hq
  refine wpAny_pyIter_tuple (show s1.heap.IsTuple a its.toArray from p) ?_
  refine ⟨s1.heap.objs.size,[s1.heap.objs.size],_,_,H1,rfl,I1.kept (t':=s1.toks) fun b o e=>Heap.get?_push_of_some _ e,Ae a _,⟨_,Heap.get?_push_size _ rfl,rfl,rfl⟩,fun b hb=>?_,q⟩
  have e:b=s1.heap.objs.size:=by simpa using hb
  subst e
  exact I1.fpOk (Nat.le_refl _) (I1.hok.fresh (Nat.le_refl _))
 ·obtain ⟨t,rfl⟩:=r1
  have fin:∀ (ty:String) (T:Turn X.prog X.w X.K tg (Mt z) [s1.heap.objs.size] s1.heap.objs.size (fun i h=>h.IsStrIter s1.heap.objs.size ty z t i)) (o:Obj),(s1.heap.push o).IsStrIter s1.heap.objs.size ty z t 0→PIE X pins σ tg R (.ref s1.heap.objs.size) {s1 with heap:=s1.heap.push o}:=
   fun ty T o st=>⟨s1.heap.objs.size,[s1.heap.objs.size],_,_,H1,rfl,I1.kept (t':=s1.toks) fun b o e=>Heap.get?_push_of_some _ e,T,st,fun b hb=>by
    have e:b=s1.heap.objs.size:=by simpa using hb
    subst e
    exact I1.fpOk (Nat.le_refl _) (I1.hok.fresh (Nat.le_refl _)),q⟩
  cases ha:z.cps.all (· < 128)
  ·exact wpAny_pyIter_wide ha (fin "str_iterator" (yK _ z t _ (by decide) (fun A' hA=>Walks.strWide hA _ z t) fun A i s Q E st h=>wpAny_pyIter_striter_wide st h) _ ⟨_,Heap.get?_push_size _ rfl,rfl,rfl⟩)
  ·exact wpAny_pyIter_ascii ha (fin "str_ascii_iterator" (yK _ z t _ (by decide) (fun A' hA=>Walks.strAscii hA _ z t) fun A i s Q E st h=>wpAny_pyIter_striter_ascii st h) _ ⟨_,Heap.get?_push_size _ rfl,rfl,rfl⟩)
end
section
variable {X:Cx} {K:PySem.W.Frag}
theorem Mx (hK:X.K=K):IxR X (R0 K):=hK ▸ R1
theorem Az (hK:X.K=K):OpR X (compareOp .In) (Mv K):=hK ▸ Sd
theorem Es (hK:X.K=K):OpR X (compareOp .NotIn) (wV K):=hK ▸ Er
theorem Su (hK:X.K=K) (hu:X.A.units < cLine):OpR X (compareOp .Eq) (Sg K):=hK ▸ Sh hu
theorem mY (hK:X.K=K):SlR X (YQ K):=hK ▸ Sq
theorem Mz {tg l:Expr} {tl:TE} (hK:X.K=K) (hl:PE X l tl):PI X tg l (Mw K tl):=hK ▸ Ss hl
def MF (K:PySem.W.Frag):List V→Hp→VK→Prop:=fun xs H Q=>∃ x n,xs=[x]∧VN K x H n∧Q (.int n) H
theorem aJ (hK:X.K=K):CallR X (.builtin "len") (MF K):=hK ▸ Hl
theorem jn (hK:X.K=K):CallR X (.builtin "isinstance") (R8 K):=hK ▸ HS
def Ib (K:PySem.W.Frag):List V→Hp→VK→Prop:=fun xs H Q=>(∃ p ys,xs=[.ref p]∧(SqL K H p ys∨SqT K H p ys)∧∀ l,H l=none→Q (.ref l) (upd H l (.lst ys)))∨(∃ x,xs=[.str x]∧x.cps.size≤sizeLine∧∀ p,H p=none→Q (.ref p) (upd H p (.lst (sgn x))))
theorem mZ (hK:X.K=K) (hc:X.calm=true):CallR X (.type "list") (Ib K):=hK ▸ wO.or (yL hc)
variable {o e:Expr} {es:List Expr} {to:TE} {t:TA} {name:Str} {apos cpos:Pos} {T id:String} {r:V→List V→Hp→VK→Prop}
theorem Sv (hK:X.K=K) (pa:PlainAttrs T) (slot:Slot T name id) (hty:typeOf (.builtin id)=pure (.type "method_descriptor")) (hm:Vs X id r) (ho:PE X o to) (ha:PA X (e :: es) t)
  (hbase:autoParam (attributeBase o name X.env (eval o X.env)=eval o X.env) L2.auto4._auto_1)
  (hfew:((backTo cpos (starEach (e :: es) X.env)).all (fun x=>!x.1) && (backToKw cpos (keywordEach [] X.env)).all (fun x=>x.1.isSome)
   && decide ((e :: es).length+([]:List Keyword).length+(if ([]:List Keyword).isEmpty then 0 else 1) < 30))=true:=by rfl)
  (hline:autoParam ((apos.endLine == cpos.line)=true) L2.auto4._auto_1) (hs:autoParam (starEach (e :: es) X.env=(false,eval e X.env) :: starEach es X.env) L2.auto4._auto_1) (hplain:autoParam ((backTo cpos (starEach es X.env)).any (·.1)=false) L2.auto4._auto_1):
  PE X (.Call (.Attribute o name apos) (e :: es) [] cpos) (V4 K T r to t):=by
 subst hK;exact V5 pa slot hty hm ho ha hbase hfew hline hs hplain
theorem MJ {ts:List Expr} {k:Nat} {gs:z9} {n:Nat} {pos:Pos} (hK:X.K=K) (hc:X.calm=true) (h:Vq X ts gs)
  (hn:autoParam ((assignEach ts X.env).length=n) L2.auto4._auto_1) (hst:autoParam ((assignEach ts X.env).findIdx? (·.1)=none) L2.auto4._auto_1):PG X (.Tuple ts k pos) (Lq K n gs):=by
 subst hK;exact GX hc h hn hst
end
section
variable {X:Cx} {sc scope:Scope} {N':List Str} {C:Addr} {s₀:Shared} {H₀:Hp} {ex:List Addr} {x:Str} {pos:Pos}
theorem pvL (i:Nat) (h:sc.names.lookup x=some .local) (hN:autoParam (X.N[i]?=some x) L2.auto4._auto_1) (hsc:autoParam (X.env.scope=sc) L2.auto4._auto_1) (hd:autoParam ((x == ("__debug__":Str))=false) L2.auto6._auto_1) (hcd:autoParam ((x == ("__classdict__":Str))=false) L2.auto6._auto_1):
  PE X (.Name x pos) (qW i):=wG hN (.inl (by rw [hsc];exact h)) hd hcd
theorem pvC (i:Nat) (h:sc.names.lookup x=some .cell) (hN:autoParam (X.N[i]?=some x) L2.auto4._auto_1) (hsc:autoParam (X.env.scope=sc) L2.auto4._auto_1) (hd:autoParam ((x == ("__debug__":Str))=false) L2.auto6._auto_1) (hcd:autoParam ((x == ("__classdict__":Str))=false) L2.auto6._auto_1):
  PE X (.Name x pos) (qW i):=wG hN (.inr (.inl (by rw [hsc];exact h))) hd hcd
theorem pvBL (i:Nat) (h:scope.names.lookup x=some .local) (hN:autoParam (N'[i]?=some x) L2.auto4._auto_1) (hd:autoParam ((x == ("__debug__":Str))=false) L2.auto6._auto_1) (hcd:autoParam ((x == ("__classdict__":Str))=false) L2.auto6._auto_1):
  PE (pH X N' scope C s₀ H₀ ex) (.Name x pos) (qW i):=wG hN (.inl (lookup_relabel_local h)) hd hcd
theorem pvBF (i:Nat) (h:scope.names.lookup x=some .free) (hN:autoParam (N'[i]?=some x) L2.auto4._auto_1) (hd:autoParam ((x == ("__debug__":Str))=false) L2.auto6._auto_1) (hcd:autoParam ((x == ("__classdict__":Str))=false) L2.auto6._auto_1):
  PE (pH X N' scope C s₀ H₀ ex) (.Name x pos) (qW i):=wG hN (by
   rcases qy (env:=X.env) h with z | z
   ·exact .inr (.inl z)
   ·exact .inr (.inr z)) hd hcd
theorem aU (h:sc.names.lookup x=some .globalImplicit) (hsc:autoParam (X.env.scope=sc) L2.auto4._auto_1):Gl X x:=by
 show X.env.scope.names.lookup x=_
 rw [hsc];exact h
theorem lg {env:Env}:∀ {names:List (Str×NameKind)} {x:Str},names.lookup x=some .globalImplicit→
  (names.map fun (n,k)=>if (k == NameKind.free && env.scope.kind == .function && env.kindOf n == some .cell) then (n,NameKind.cell) else (n,k)).lookup x=some .globalImplicit
 | [],_,h=>by simp at h
 | (n,k) :: r,x,h=>by
  have ih:=@lg env r x
  show List.lookup x ((if (k == NameKind.free && env.scope.kind == .function && env.kindOf n == some .cell)=true then (n,NameKind.cell) else (n,k)) :: _)=_
  cases hx:x == n with
  | true=>
   simp only [List.lookup_cons,hx] at h
   cases h
   simp [List.lookup_cons,hx]
  | false=>
   simp only [List.lookup_cons,hx] at h
   by_cases hc:(k == NameKind.free && env.scope.kind == .function && env.kindOf n == some .cell)=true
   ·rw [if_pos hc];simp only [List.lookup_cons,hx];exact ih h
   ·rw [if_neg hc];simp only [List.lookup_cons,hx];exact ih h
theorem Wf (h:scope.names.lookup x=some .globalImplicit):Gl (pH X N' scope C s₀ H₀ ex) x:=lg h
theorem pgB (i:Nat) (h:scope.names.lookup x=some .local) (hN:N'.Nodup) (hi:autoParam (N'[i]?=some x) L2.auto4._auto_1):PG (pH X N' scope C s₀ H₀ ex) (.Name x pos) (pL i):=
 Ca hN hi (.inl (lookup_relabel_local h)) (.inr (lookup_relabel_local h))
end
def lq:Expr→Bool
 | .ListComp ..=>false | .SetComp ..=>false | .DictComp ..=>false | _=>true
theorem vV {value:Expr} {target:Option Expr} {line:Nat} {env:Env} (h:lq value=true):swapsWith value target line env=pure false:=by
 cases value <;> first | rfl | cases h
def oF:Expr→Bool
 | .Slice ..=>false | _=>true
theorem pix {b:Expr} (h:oF b=true):Cr b:=by
 intro o i
 cases b <;> first | rfl | cases h
def rm:Expr→Bool
 | .Set ..=>false | _=>true
theorem Ie {e:Expr} {env:Env} (h:rm e=true):∀ x,foldedSetIterable e env x=pure x:=by
 intro x
 cases e <;> first | rfl | cases h
def notStar:Expr→Bool
 | .Starred ..=>false | _=>true
theorem cA {e:Expr} {es:List Expr} {env:Env} (h:notStar e=true):starEach (e :: es) env=(false,eval e env) :: starEach es env:=by
 cases e <;> first | rfl | cases h
theorem m5 {env:Env} {pos:Pos}:∀ {es:List Expr},es.all notStar=true→(backTo pos (starEach es env)).any (·.1)=false
 | [],_=>rfl
 | e :: es,h=>by
  simp only [List.all_cons,Bool.and_eq_true] at h
  rw [cA h.1]
  show (false || (backTo pos (starEach es env)).any (·.1))=false
  rw [m5 h.2];rfl
theorem Ig {env:Env} {pos:Pos}:∀ {es:List Expr},es.all notStar=true→(backTo pos (starEach es env)).all (fun x=>!x.1)=true
 | [],_=>rfl
 | e :: es,h=>by
  simp only [List.all_cons,Bool.and_eq_true] at h
  rw [cA h.1]
  show (true && (backTo pos (starEach es env)).all (fun x=>!x.1))=true
  rw [Ig h.2];rfl
section
variable {X:Cx} {K:PySem.W.Frag} {e:Expr} {es:List Expr} {te:TE} {t:TA} {pos p:Pos}
theorem paC (ha:PE X e te) (hr:PA X es t) (h:autoParam (notStar e=true) L2.auto4._auto_1):PA X (e :: es) (Cm te t):=LR ha hr (cA h)
theorem Wg {k:Nat} {x:Str} {ps:List Str} {sp:Sp} (F:Has X.prog X.w X.K X.mg X.base k x ps sp) (hr:Room k X.A) (hg:Gl X x) (ha:PA X (e :: es) t) (hdb:(x == ("__debug__":Str))=false) (h:autoParam ((e :: es).all notStar=true) L2.auto4._auto_1):
  PE X (.Call (.Name x p) (e :: es) [] pos) (vJ sp [] E0 t):=by
 simp only [List.all_cons,Bool.and_eq_true] at h
 exact HW F hr hg ha hdb (cA h.1) (m5 h.2)
theorem Wh {x:Str} {id:String} {r:List V→Hp→VK→Prop} (hc:CallR X (.builtin id) r) (hg:Gl X x) (hm:X.mg x=none) (hv:bootBuiltins x=some (.builtin id)) (ha:PA X (e :: es) t) (hn:x≠"__name__") (hdb:(x == ("__debug__":Str))=false) (h:autoParam ((e :: es).all notStar=true) L2.auto4._auto_1):
  PE X (.Call (.Name x p) (e :: es) [] pos) (RV r t):=by
 simp only [List.all_cons,Bool.and_eq_true] at h
 exact Ho hc hg hm hv ha hn hdb (cA h.1) (m5 h.2)
theorem Sw {x:Str} {T:String} {r:List V→Hp→VK→Prop} (hc:CallR X (.type T) r) (hg:Gl X x) (hm:X.mg x=none) (hv:bootBuiltins x=some (.type T)) (ha:PA X (e :: es) t) (hn:x≠"__name__") (hdb:(x == ("__debug__":Str))=false) (h:autoParam ((e :: es).all notStar=true) L2.auto4._auto_1):
  PE X (.Call (.Name x p) (e :: es) [] pos) (RV r t):=by
 simp only [List.all_cons,Bool.and_eq_true] at h
 exact Eg hc hg hm hv ha hn hdb (cA h.1) (m5 h.2)
def tO:Expr→Bool
 | .Call ..=>false | _=>true
theorem Wi {o:Expr} {f:Str} {env:Env} {w:Sem Value} (h:tO o=true):attributeBase o f env w=w:=by
 cases o <;> first | rfl | cases h
theorem Wj {o:Expr} {to:TE} {name:Str} {apos cpos:Pos} {T id:String} {r:V→List V→Hp→VK→Prop} (hK:X.K=K) (pa:PlainAttrs T) (slot:Slot T name id) (hty:typeOf (.builtin id)=pure (.type "method_descriptor")) (hm:Vs X id r) (ho:PE X o to) (ha:PA X (e :: es) t)
  (hbase:autoParam (tO o=true) L2.auto4._auto_1) (hl:autoParam (es.length < 20) L2.auto2._auto_1) (hline:autoParam ((apos.endLine == cpos.line)=true) L2.auto4._auto_1) (h:autoParam ((e :: es).all notStar=true) L2.auto4._auto_1):
  PE X (.Call (.Attribute o name apos) (e :: es) [] cpos) (V4 K T r to t):=by
 have hA:=Ig (env:=X.env) (pos:=cpos) h
 simp only [List.all_cons,Bool.and_eq_true] at h
 refine Sv hK pa slot hty hm ho ha (Wi hbase) ?_ hline (cA h.1) (m5 h.2)
 rw [hA]
 have:(e :: es).length+([]:List Keyword).length+(if ([]:List Keyword).isEmpty then 0 else 1) < 30:=by simp;omega
 rw [decide_eq_true this];rfl
theorem Wl {i:Nat} {x:Str} {pos':Pos} (hN:X.N.Nodup) (hi:X.N[i]?=some x) (hx:Loc X.env.scope x) (he:PE X e te) (hf:X.fn x=true) (h:autoParam (lq e=true) L2.auto4._auto_1):PS X (.Assign [.Name x pos'] e pos) (wI te (pL i)):=
 G6 hN hi hx he (vV h) (.inl hf)
theorem Sy (he:PE X e te) (h:autoParam (lq e=true) L2.auto4._auto_1):PS X (.Expr e pos) (BZ te):=Lk he (vV h)
theorem ixE {a b:Expr} {ta tb:TE} (hK:X.K=K) (ha:PE X a ta) (hb:PE X b tb) (h:autoParam (oF b=true) L2.auto4._auto_1):PE X (.Subscript a b pos) (Hf (R0 K) ta tb):=VR (Mx hK) ha hb (pix h)
theorem Wm {tg iter:Expr} {body:List Stmt} {wi:TI} {g:TG} {tb:TS} (hp:PassesOwn (model X.prog X.w) X.A X.env X.xe) (hc:X.calm=true) (hi:PI X tg iter wi) (hg:PG X tg g) (hb:PSs X body tb) (h:autoParam (rm iter=true) L2.auto4._auto_1):PS X (.For tg iter body [] pos) (Lr wi g tb):=
 Rx hp hc hi hg hb (Ie h)
end
section
variable {X:Cx} {tg iter elt:Expr} {ifs:List Expr} {scope:Scope} {pos:Pos} {N':List Str} {sub:List (Option Nat)} {wi:TI} {g:TG} {tt:TT} {te:TE} {N:List Str} {sc:Scope}
theorem Wn (S:rW N sc N' scope sub) (hc:X.calm=true) (hN:X.N=N) (hsc:X.env.scope=sc) (hi:PI X tg iter wi)
  (hg:∀ (C:Addr) (s₀:Shared) (H₀:Hp) (ex:List Addr),PG (pH X N' scope C s₀ H₀ ex) tg g)
  (ht:∀ (C:Addr) (s₀:Shared) (H₀:Hp) (ex:List Addr),wQ (pH X N' scope C s₀ H₀ ex) ifs tt)
  (he:∀ (C:Addr) (s₀:Shared) (H₀:Hp) (ex:List Addr),PE (pH X N' scope C s₀ H₀ ex) elt te) (h:autoParam (rm iter=true) L2.auto4._auto_1):
  PE X (.ListComp elt [⟨tg,iter,ifs,0⟩] scope pos) (ur sub wi g tt te):=Cw S hc hN hsc hi hg ht he (Ie h)
end
theorem bC:bootBuiltins "len"=some (.builtin "len"):=by decide+kernel
theorem Ih:bootBuiltins "max"=some (.builtin "max"):=by decide+kernel
theorem Ii:bootBuiltins "min"=some (.builtin "min"):=by decide+kernel
theorem bj:bootBuiltins "isinstance"=some (.builtin "isinstance"):=by decide+kernel
theorem SJ:bootBuiltins "all"=some (.builtin "all"):=by decide+kernel
theorem j7:bootBuiltins "list"=some (.type "list"):=by decide+kernel
theorem Ij:bootBuiltins "tuple"=some (.type "tuple"):=by decide+kernel
theorem Ba:bootBuiltins "int"=some (.type "int"):=by decide+kernel
theorem Ik:bootBuiltins "str"=some (.type "str"):=by decide+kernel
theorem wW:bootBuiltins "enumerate"=some (.type "enumerate"):=by decide+kernel
theorem yO:bootBuiltins "reversed"=some (.type "reversed"):=by decide+kernel
theorem Cz:bootBuiltins "bool"=some (.type "bool"):=by decide+kernel
theorem Et {c A B:Prop} [Decidable c] (h1:c→A) (h2:¬ c→B):if decide c=true then A else B:=by
 by_cases h:c
 ·rw [if_pos (decide_eq_true h)];exact h1 h
 ·rw [if_neg (by rw [decide_eq_false h];exact Bool.false_ne_true)];exact h2 h
theorem iteB {b:Bool} {A B:Prop} (h1:b=true→A) (h2:b=false→B):if b=true then A else B:=by
 cases b with
 | true=>rw [if_pos rfl];exact h1 rfl
 | false=>rw [if_neg Bool.false_ne_true];exact h2 rfl
theorem tQ {α:Type} {xs:List α} {k:Int} {v:α} (h0:0≤k) (h:xs[k.toNat]?=some v):yz xs k=some v:=by
 have e:((k.toNat:Nat):Int)=k:=by omega
 rw [← e]
 exact lV h
end L2
namespace L2
open PySem PySem.Spec PyProof.Rows
section
variable {σ:St} {H:Hp} {D:Ends} {ta tb te tc:TE} {tt tu:TT} {Q:VK} {t u:TS} {g:TG}
theorem lH (h:t {D with nx:=u D} σ H):Lh t u D σ H:=h
theorem cQ (h:D.nx σ H):GD D σ H:=h
theorem fP (h:te σ H fun x H1=>g x σ H1 D.nx):wI te g D σ H:=h
theorem cR {i:Nat} {v:V} {R:St→Hp→Prop} (h:R (σ.set i (some v)) H):pL i v σ H R:=h
theorem fQ {to ti:TE} {ts:Ac} {v:V} {R:St→Hp→Prop} (h:to σ H fun o H1=>ti σ H1 fun i H2=>ts o i v H2 fun H3=>R σ H3):Rt to ti ts v σ H R:=h
theorem fU (h:te σ H D.rt):Ro te D σ H:=h
theorem cT (h:te σ H fun _ H1=>D.nx σ H1):BZ te D σ H:=h
theorem jH (h:tt σ H fun b H1=>if b=true then t D σ H1 else u D σ H1):Rq tt t u D σ H:=h
theorem cU {R:Bool→Hp→Prop} (h:te σ H fun x H1=>∃ k,x= .bl k∧R k H1):vD te σ H R:=h
theorem jJ {R:Bool→Hp→Prop} (h:te σ H fun x H1=>∃ k,x= .bl k∧R k H1):tB te σ H R:=h
theorem fV {R:Bool→Hp→Prop} (h:tt σ H fun c H1=>R (!c) H1):Rf tt σ H R:=h
theorem fW {R:Bool→Hp→Prop} (h:tt σ H fun c H1=>if c=true then tu σ H1 R else R false H1):Lf tt tu σ H R:=h
theorem jK {R:Bool→Hp→Prop} (h:tt σ H fun c H1=>if c=true then R true H1 else tu σ H1 R):tOr tt tu σ H R:=h
theorem cV (h:ta σ H fun x H1=>∃ c,x= .bl c∧if c=true then tb σ H1 Q else Q (.bl false) H1):Gy ta tb σ H Q:=h
theorem fX (h:ta σ H fun x H1=>∃ c,x= .bl c∧if c=true then Q (.bl true) H1 else tb σ H1 Q):Rj ta tb σ H Q:=h
theorem cW (h:ta σ H fun x H1=>∃ c,x= .bl c∧Q (.bl (!c)) H1):Gz ta σ H Q:=h
theorem fY (h:tt σ H fun c H1=>if c=true then ta σ H1 Q else tb σ H1 Q):tIf tt ta tb σ H Q:=h
theorem fZ {i:Nat} {v:V} (e:σ[i]?=some (some v)) (h:Q v H):qW i σ H Q:=⟨v,e,h⟩
theorem qR {v:V} (h:Q v H):tC v σ H Q:=h
theorem jL {r:R2} (h:ta σ H fun x H1=>tb σ H1 fun y H2=>r x y H2 Q):Hf r ta tb σ H Q:=h
theorem jM {r:V→Hp→VK→Prop} (h:ta σ H fun x H1=>r x H1 Q):tUn r ta σ H Q:=h
theorem jN {r:List V→Hp→VK→Prop} {a:TA} (h:a σ H fun vs H1=>r vs H1 Q):RV r a σ H Q:=h
theorem cX {a:TA} {R:List V→Hp→Prop} (h:te σ H fun x H1=>a σ H1 fun xs H2=>R (x :: xs) H2):Cm te a σ H R:=h
theorem f9 {R:List V→Hp→Prop} (h:R [] H):LQ σ H R:=h
theorem cY {sp:Sp} {E:XK} {a:TA} (h:a σ H fun vs H1=>sp vs H1 Q E):vJ sp [] E a σ H Q:=by
 unfold vJ
 simpa only [List.append_nil] using h
theorem vW {a:TA} (h:a σ H fun xs H1=>xs.length≤sizeLine∧∀ p,H1 p=none→Q (.ref p) (upd H1 p (.tup xs))):Ma a σ H Q:=h
theorem vX {a:TA} (h:a σ H fun xs H1=>xs.length≤sizeLine∧∀ p,H1 p=none→Q (.ref p) (upd H1 p (.lst xs))):Mf a σ H Q:=h
theorem jO {K:PySem.W.Frag} {T:String} {r:V→List V→Hp→VK→Prop} {a:TA} (h:te σ H fun x H1=>tyV K T x H1∧a σ H1 fun xs H2=>r x xs H2 Q):V4 K T r te a σ H Q:=h
theorem jP {r:V→Option Int→Option Int→Hp→VK→Prop} {tl th:TO} (h:te σ H fun x H1=>tl σ H1 fun l H2=>th σ H2 fun u H3=>r x l u H3 Q):tSl r te tl th σ H Q:=h
theorem gb {R:Option Int→Hp→Prop} (h:R none H):wJ σ H R:=h
theorem cZ {R:Option Int→Hp→Prop} (h:te σ H fun x H1=>∃ i,x= .int i∧R (some i) H1):Hr te σ H R:=h
theorem c7 {R:Bool→Hp→Prop} (h:R true H):HB σ H R:=h
theorem dg {a:TA} {R:It→Hp→Prop} (h:a σ H fun vs H1=>∃ j:Int,vs=[.int j]∧-(2 ^ 62)≤j∧j < 2 ^ 62∧R (Gv 0 j.toNat) H1):Ha a σ H R:=h
theorem dh {a:TA} {R:It→Hp→Prop} (h:a σ H fun vs H1=>∃ i j:Int,vs=[.int i,.int j]∧(-(2 ^ 62)≤i∧i < 2 ^ 62∧-(2 ^ 62)≤j∧j < 2 ^ 62)∧R (Gv i (j - i).toNat) H1):Hb a σ H R:=h
theorem di {K:PySem.W.Frag} {R:It→Hp→Prop} (h:te σ H fun x H1=>(∃ a,x= .ref a∧(∃ xs,SqL K H1 a xs)∧R (Qv K a) H1)∨(∃ a,x= .ref a∧(∃ xs,SqT K H1 a xs)∧R (Vr K a) H1)∨(∃ z,x= .str z∧R (Mt z) H1)):Mw K te σ H R:=h
theorem dj {sub:List (Option Nat)} {wi:TI} (h:wi σ H fun J H1=>qz sub g tt te σ Q J H1):ur sub wi g tt te σ H Q:=h
theorem gf {wi:TI} {tbd:TS} (h:wi σ H fun J H1=>∃ W:Nat→Nat→St→Hp→Prop,(∃ m,W 0 m σ H1)∧∀ i m σ H,W i m σ H→
 (J.stop i H∧D.nx σ H)∨(J.go i H∧∃ N:St→Hp→Prop,(∀ σ' H',N σ' H'→∃ m',m' < m∧W (i+1) m' σ' H')∧∀ x H',J.yld i H x H'→g x σ H' fun σ2 H2=>tbd {D with nx:=N,ct:=N,bk:=D.nx} σ2 H2)):Lr wi g tbd D σ H:=h
variable {i j:Int} {x y:Str} {f:Int→Int→V} {C:Int→Int→Prop} {K:PySem.W.Frag}
theorem jQ (h:Q (f i j) H):Hg f (.int i) (.int j) H Q:=⟨_,_,rfl,rfl,h⟩
theorem qT (c:C i j) (h:Q (f i j) H):rI C f (.int i) (.int j) H Q:=⟨_,_,rfl,rfl,c,h⟩
theorem dm (h:Q (.int (i+j)) H):yN (.int i) (.int j) H Q:=.inl ⟨_,_,rfl,rfl,h⟩
theorem Bb (c:x.length+y.length≤sizeLine) (h:Q (.str (x ++ y)) H):yN (.str x) (.str y) H Q:=.inr (.inl ⟨_,_,rfl,rfl,c,h⟩)
theorem wX {a b:Addr} {xs ys:List V} (ha:H a=some (.lst xs)) (hb:H b=some (.lst ys)) (c:xs.length+ys.length≤sizeLine) (h:∀ p,H p=none→Q (.ref p) (upd H p (.lst (xs ++ ys)))):yN (.ref a) (.ref b) H Q:=
 .inr (.inr ⟨a,b,xs,ys,rfl,rfl,ha,hb,c,h⟩)
theorem dq (c:CMul i j) (h:Q (.int (i*j)) H):HX (.int i) (.int j) H Q:=.inl ⟨_,_,rfl,rfl,c,h⟩
theorem cu {p:Addr} {xs:List V} {v:V} (s:SqL K H p xs) (e:yz xs i=some v) (h:Q v H):R0 K (.ref p) (.int i) H Q:=.inl ⟨p,xs,i,v,rfl,rfl,s,e,h⟩
theorem ux {c:Nat} (s:x.length≤sizeLine) (e:yz x.cps.toList i=some c) (h:Q (.str ⟨#[c]⟩) H):R0 K (.str x) (.int i) H Q:=.inr (.inr ⟨x,i,c,rfl,rfl,s,e,h⟩)
theorem cB {p:Addr} {xs:List V} {n:Nat} {v:V} {R:Hp→Prop} (hp:H p=some (.lst xs)) (e:Ht xs.length i=some n) (h:R (upd H p (.lst (xs.set n v)))):Hu (.ref p) (.int i) v H R:=⟨p,xs,i,n,rfl,rfl,hp,e,h⟩
theorem gj (h:Q (.bl (!(Builtin.Str.occurrences y x 0 y.length 1).isEmpty)) H):Mv K (.str x) (.str y) H Q:=.inl ⟨_,_,rfl,rfl,h⟩
theorem jR {b:Bool} {R:Bool→Prop} (h:R b):∃ k,V.bl b= .bl k∧R k:=⟨b,rfl,h⟩
theorem dw {n:Int} {R:Int→Prop} (h:R n):∃ k,V.int n= .int k∧R k:=⟨n,rfl,h⟩
end
theorem Same.upd {H H':Hp} {p:Addr} {o:HO} (s:Same H H') (hn:H' p=none):Same H (upd H' p o):=fun b u e=>by
 have q:=s b u e
 rw [aB (fun z=>by rw [z,hn] at q;cases q)]
 exact q
end L2
namespace L2
open PySem PySem.Spec PyProof.Rows
def Chg (p:Addr) (H H':Hp):Prop:=∀ b o,b≠p→H b=some o→H' b=some o
theorem Chg.refl (p:Addr) (H:Hp):Chg p H H:=fun _ _ _ e=>e
theorem Chg.trans {p:Addr} {H H1 H2:Hp} (a:Chg p H H1) (b:Chg p H1 H2):Chg p H H2:=fun c o n e=>b c o n (a c o n e)
theorem Chg.new {p q:Addr} {H H1:Hp} {o:HO} (a:Chg p H H1) (hn:H1 q=none):Chg p H (upd H1 q o):=fun b u n e=>by
 have z:=a b u n e
 rw [aB (fun k=>by rw [k,hn] at z;cases z)]
 exact z
theorem fj {H:Hp} {q b:Addr} {o u:HO} (hq:H q=none) (hb:H b=some u):upd H q o b=some u:=by
 rw [aB (fun z=>by rw [z,hq] at hb;cases hb)];exact hb
theorem Wo {vs:List V} {d:Int} (h0:0≤d) (h1:d < vs.length):∃ v,v∈vs∧yz vs d=some v:=by
 have hl:d.toNat < vs.length:=by omega
 exact ⟨vs[d.toNat],List.getElem_mem hl,tQ h0 (List.getElem?_eq_getElem hl)⟩
theorem Bc (sep:Str) (ys:List Str):Txt.join sep ys=Str.join sep ys:=by
 show Builtin.Str.glued sep ys=Str.join sep ys
 exact PySem.StrLaws.glued_eq_join sep ys
theorem yP (ys:List Str):(Txt.join (Str.ofString "") ys).cps.toList=(ys.map fun y=>y.cps.toList).flatten:=by
 rw [Bc]
 have e0:(Str.ofString "").cps= #[]:=by decide+kernel
 have key:∀ ys:List Str,(Str.join (Str.ofString "") ys).cps.toList=(ys.map fun y=>y.cps.toList).flatten:=by
  intro ys
  induction ys with
  | nil=>rfl
  | cons y r ih=>
   cases r with
   | nil=>simp [Str.join]
   | cons z r=>
    show ((y ++ Str.ofString "") ++ Str.join (Str.ofString "") (z :: r)).cps.toList=_
    rw [Str.cps_append,Str.cps_append,e0]
    simp only [Array.append_empty,Array.toList_append,ih,List.map_cons,List.flatten_cons]
 exact key ys
theorem CG (x:Str):x.length=x.cps.toList.length:=by simp [Str.length]
theorem yQ {ys:List Str} (h:∀ y∈ys,y.length=1):(Txt.join (Str.ofString "") ys).length=ys.length:=by
 rw [CG,yP]
 induction ys with
 | nil=>rfl
 | cons y r ih=>
  have h1:=h y (by simp)
  rw [CG] at h1
  simp only [List.map_cons,List.flatten_cons,List.length_append,List.length_cons,h1]
  rw [ih fun z hz=>h z (by simp [hz])]
  omega
theorem Il {ys:List Str} (h:∀ y∈ys,y.length=1):(ys.map (·.length)).sum=ys.length:=by
 induction ys with
 | nil=>rfl
 | cons y r ih=>
  simp only [List.map_cons,List.sum_cons,List.length_cons,h y (by simp),ih fun z hz=>h z (by simp [hz])]
  omega
theorem MK (c:Nat):(⟨#[c]⟩:Str).length=1:=by simp [Str.length]
section
variable {H:Hp} {Q:VK} {K:PySem.W.Frag}
theorem gU {p:Addr} {xs:List V} (s:SqL K H p xs) (h:Q (.int xs.length) H):MF K [V.ref p] H Q:=⟨_,_,rfl,.inl ⟨_,s,rfl⟩,h⟩
theorem Im {p:Addr} {xs:List V} (s:SqT K H p xs) (h:Q (.int xs.length) H):MF K [V.ref p] H Q:=⟨_,_,rfl,.inr ⟨_,s,rfl⟩,h⟩
theorem gG {z:Str} (s:z.length≤sizeLine) (h:Q (.int z.length) H):MF K [V.str z] H Q:=⟨_,_,rfl,⟨s,rfl⟩,h⟩
theorem jT {i j:Int} {R:Int→Int→Prop} (h:R i j):∃ a b,[V.int i,V.int j]=[.int a,.int b]∧R a b:=⟨_,_,rfl,h⟩
theorem oG {x:V} {T:String} {t:Value} {b:Bool} (ty:TyOf K H x t) (e:PySem.W.kitOne K t (.type T)=some b) (h:Q (.bl b) H):R8 K [x,.ty T] H Q:=⟨x,T,t,b,rfl,ty,e,h⟩
theorem SM {sep:Str} {p:Addr} {ys:List Str} (hp:H p=some (.lst (ys.map V.str))) (hz:(ys.map (·.length)).sum+ys.length*sep.length≤16777216) (h:Q (.str (Txt.join sep ys)) H):rJoin (.str sep) [.ref p] H Q:=⟨sep,p,ys,rfl,rfl,hp,hz,h⟩
theorem Io {x:Str} {lo hi:Option Int} (hz:x.length≤sizeLine) (h:Q (.str (Txt.slice x lo hi)) H):YQ K (.str x) lo hi H Q:=.inr (.inr ⟨x,rfl,hz,h⟩)
theorem CJ {p:Addr} {xs:List V} {lo hi:Option Int} (s:SqL K H p xs) (h:∀ q,H q=none→Q (.ref q) (upd H q (.lst (ug xs lo hi)))):YQ K (.ref p) lo hi H Q:=.inl ⟨p,xs,rfl,s,h⟩
end
section
variable {σ:St} {H:Hp} {Q:VK}
theorem tR {K:PySem.W.Frag} {a:Addr} {xs:List V} (s:SqL K H a xs) (h:∀ p,H p=none→Q (.ref p) (upd H p (.lst xs))):Ib K [.ref a] H Q:=.inl ⟨a,xs,rfl,.inl s,h⟩
end
theorem TyOf.mono {K:PySem.W.Frag} {H H':Hp} {v:V} {T:String} (h:TyOf K H v (.type T)) (s:∀ b o,H b=some o→v= .ref b→H' b=some o):TyOf K H' v (.type T):=by
 generalize e:(Value.type T)=t at h
 cases h with
 | non=>exact .non
 | bl x=>exact .bl x
 | int i=>exact .int i
 | str x=>exact .str x
 | flt x=>exact .flt x
 | lst z=>exact .lst (s _ _ z rfl)
 | frz z=>exact .frz (s _ _ z rfl)
 | tup z=>exact .tup (s _ _ z rfl)
 | dK z=>exact .dK (s _ _ z rfl)
 | dT z=>exact .dT (s _ _ z rfl)
 | ins=>cases e
theorem Ip {sub:List (Option Nat)} {g:TG} {tt:TT} {te:TE} {σ:St} {Q:VK} {H:Hp} {lo:Int} {n:Nat} (Pv:Nat→List V→Hp→Prop) (hn:n≤sizeLine) (h0:Pv 0 [] H) (hl:∀ i ys H,Pv i ys H→ys.length≤i)
  (hs:∀ i ys H,i < n→Pv i ys H→g (.int (lo+i)) (eU sub σ) H fun σ2 H2=>KeepSt (eU sub σ) σ2∧tt σ2 H2 fun b H3=>if b=true then te σ2 H3 fun y H4=>Pv (i+1) (ys ++ [y]) H4 else Pv (i+1) ys H3)
  (hd:∀ ys H,Pv n ys H→∀ D,H D=none→Q (.ref D) (upd H D (.lst ys))):qz sub g tt te σ Q (Gv lo n) H:=
 wU (n:=n) Pv hn h0 hl (fun i ys H hi _=>hi) (fun ys H _=>Nat.le_refl _) (fun i ys H x H' hi p y=>by
  obtain ⟨e1,e2⟩:=y
  subst e1 e2
  exact hs i ys _ hi p) hd
theorem yR {sub:List (Option Nat)} {g:TG} {tt:TT} {te:TE} {σ:St} {Q:VK} {H:Hp} {z:Str} (Pv:Nat→List V→Hp→Prop) (hn:z.cps.size≤sizeLine) (h0:Pv 0 [] H) (hl:∀ i ys H,Pv i ys H→ys.length≤i)
  (hs:∀ i ys H c,z.cps.toList[i]?=some c→Pv i ys H→g (.str ⟨#[c]⟩) (eU sub σ) H fun σ2 H2=>KeepSt (eU sub σ) σ2∧tt σ2 H2 fun b H3=>if b=true then te σ2 H3 fun y H4=>Pv (i+1) (ys ++ [y]) H4 else Pv (i+1) ys H3)
  (hd:∀ ys H,Pv z.cps.size ys H→∀ D,H D=none→Q (.ref D) (upd H D (.lst ys))):qz sub g tt te σ Q (Mt z) H:=
 wU (n:=z.cps.size) Pv hn h0 hl (fun i ys H hi _=>hi) (fun ys H _=>rfl) (fun i ys H x H' hi p y=>by
  obtain ⟨e1,c,e2,e3⟩:=y
  subst e1 e3
  exact hs i ys _ c (by simpa using e2) p) hd
theorem vY {sub:List (Option Nat)} {g:TG} {tt:TT} {te:TE} {σ:St} {Q:VK} {H:Hp} {K:PySem.W.Frag} {a:Addr} {xs:List V} (Pv:Nat→List V→Hp→Prop) (hn:xs.length≤sizeLine) (h0:Pv 0 [] H) (hl:∀ i ys H,Pv i ys H→ys.length≤i)
  (hq:∀ i ys H,Pv i ys H→SqL K H a xs)
  (hs:∀ i ys H x,xs[i]?=some x→Pv i ys H→g x (eU sub σ) H fun σ2 H2=>KeepSt (eU sub σ) σ2∧tt σ2 H2 fun b H3=>if b=true then te σ2 H3 fun y H4=>Pv (i+1) (ys ++ [y]) H4 else Pv (i+1) ys H3)
  (hd:∀ ys H,Pv xs.length ys H→∀ D,H D=none→Q (.ref D) (upd H D (.lst ys))):qz sub g tt te σ Q (Qv K a) H:=
 wU (n:=xs.length) Pv hn h0 hl (fun i ys H hi p=>⟨xs,xs[i],hq i ys H p,List.getElem?_eq_getElem hi⟩) (fun ys H p=>⟨xs,hq _ ys H p,Nat.le_refl _⟩) (fun i ys H x H' hi p y=>by
  obtain ⟨e1,e2⟩:=y
  subst e1
  exact hs i ys _ x (e2 xs (hq i ys _ p)) p) hd
end L2
namespace L2
open PySem PySem.Spec PyProof.Rows
structure JE (X:Cx) (e:Expr) (t:TE):Prop where
 run:PE X e t
structure JT (X:Cx) (e:Expr) (t:TT):Prop where
 run:PT X e t
structure JW (X:Cx) (e:Expr) (t:TT):Prop where
 run:PW X e t
structure JA (X:Cx) (es:List Expr) (t:TA):Prop where
 run:PA X es t
structure JS (X:Cx) (s:Stmt) (t:TS):Prop where
 run:PS X s t
structure JB (X:Cx) (s:List Stmt) (t:TS):Prop where
 run:PSs X s t
structure JI (X:Cx) (tg iter:Expr) (t:TI):Prop where
 run:PI X tg iter t
structure JG (X:Cx) (tg:Expr) (t:TG):Prop where
 run:PG X tg t
structure Wq (X:Cx) (tg:List Expr) (t:z9):Prop where
 run:Vq X tg t
structure JO (X:Cx) (e:Option Expr) (t:TO):Prop where
 run:PO X e t
structure JPs (X:Cx) (pos:Pos) (keys:List (Option Expr)) (values:List Expr) (t:List (TE×TE)):Prop where
 run:PPs X pos keys values t
structure MN (X:Cx) (ifs:List Expr) (t:TT):Prop where
 run:wQ X ifs t
section
variable {X:Cx} {K:PySem.W.Frag} {sc scope:Scope} {N':List Str} {C:Addr} {s₀:Shared} {H₀:Hp} {ex:List Addr} {x:Str} {pos p p2 pos' apos cpos tpos:Pos} {a b c e o:Expr} {es:List Expr} {ta tb tc te to ti:TE} {t:TA} {tA tB' tt:TT} {rest:List Expr}
theorem ao (i:Nat) (h:sc.names.lookup x=some .local) (hN:autoParam (X.N[i]?=some x) L2.auto4._auto_1) (hsc:autoParam (X.env.scope=sc) L2.auto4._auto_1) (hd:autoParam ((x == ("__debug__":Str))=false) L2.auto6._auto_1) (hcd:autoParam ((x == ("__classdict__":Str))=false) L2.auto6._auto_1):JE X (.Name x pos) (qW i):=⟨pvL i h hN hsc hd hcd⟩
theorem nZ (i:Nat) (h:sc.names.lookup x=some .cell) (hN:autoParam (X.N[i]?=some x) L2.auto4._auto_1) (hsc:autoParam (X.env.scope=sc) L2.auto4._auto_1) (hd:autoParam ((x == ("__debug__":Str))=false) L2.auto6._auto_1) (hcd:autoParam ((x == ("__classdict__":Str))=false) L2.auto6._auto_1):JE X (.Name x pos) (qW i):=⟨pvC i h hN hsc hd hcd⟩
theorem mK (i:Nat) (h:scope.names.lookup x=some .local) (hN:autoParam (N'[i]?=some x) L2.auto4._auto_1) (hd:autoParam ((x == ("__debug__":Str))=false) L2.auto6._auto_1) (hcd:autoParam ((x == ("__classdict__":Str))=false) L2.auto6._auto_1):JE (pH X N' scope C s₀ H₀ ex) (.Name x pos) (qW i):=⟨pvBL i h hN hd hcd⟩
theorem qD (i:Nat) (h:scope.names.lookup x=some .free) (hN:autoParam (N'[i]?=some x) L2.auto4._auto_1) (hd:autoParam ((x == ("__debug__":Str))=false) L2.auto6._auto_1) (hcd:autoParam ((x == ("__classdict__":Str))=false) L2.auto6._auto_1):JE (pH X N' scope C s₀ H₀ ex) (.Name x pos) (qW i):=⟨pvBF i h hN hd hcd⟩
theorem aH {i j}:JE X (.Constant (.int i) j pos) (tC (.int i)):=⟨Ra⟩
theorem m6 {i j}:JE X (.Constant (.bool i) j pos) (tC (.bl i)):=⟨Vx⟩
theorem gC {i j}:JE X (.Constant (.str i) j pos) (tC (.str i)):=⟨Rb⟩
theorem wY {z:Str} (hg:Gl X x) (hm:∃ t,X.mg x=some (.str z t)) (hd:(x == ("__debug__":Str))=false):JE X (.Name x pos) (tC (.str z)):=⟨HY hg hm hd⟩
theorem wZ {z:Int} (hg:Gl X x) (hm:∃ t,X.mg x=some (.int z t)) (hd:(x == ("__debug__":Str))=false):JE X (.Name x pos) (tC (.int z)):=⟨Ia hg hm hd⟩
theorem u5 {T:String} (hg:Gl X x) (hm:X.mg x=none) (hv:bootBuiltins x=some (.type T)) (hn:x≠"__name__") (hd:(x == ("__debug__":Str))=false):JE X (.Name x pos) (tC (.ty T)):=⟨We hg hm hv hn hd⟩
theorem bN {op:Operator} {r:R2} (ho:OpR X (binaryOp op) r) (ha:JE X a ta) (hb:JE X b tb):JE X (.BinOp a op b pos) (Hf r ta tb):=⟨VD ho ha.run hb.run⟩
theorem j_un {op:UnaryOp} {r:V→Hp→VK→Prop} (ho:YL X (unaryOp op) r) (ha:JE X a ta):JE X (.UnaryOp op a pos) (tUn r ta):=⟨VF ho ha.run⟩
theorem mL {op:CmpOp} {r:R2} (ho:OpR X (compareOp op) r) (ha:JE X a ta) (hb:JE X b tb) (hm:behindInMarks op b=false):JE X (.Compare a [op] [b] pos) (Hf r ta tb):=⟨Lx ho ha.run hb.run hm⟩
theorem bR {op:CmpOp} {r:R2} (ho:OpR X (compareOp op) r) (ha:JE X a ta) (hb:JE X b tb) (hm:behindInMarks op b=false):JT X (.Compare a [op] [b] pos) (vD (Hf r ta tb)):=⟨Ly ho ha.run hb.run hm⟩
theorem CK (ha:JT X a tA):JW X (.BoolOp .And [a] pos) tA:=⟨Lg ha.run⟩
theorem je (ha:JT X a tA):JW X (.BoolOp .Or [a] pos) tA:=⟨Rg ha.run⟩
theorem Ir (ha:JT X a tA) (hb:JW X (.BoolOp .And (b :: rest) pos) tB'):JW X (.BoolOp .And (a :: b :: rest) pos) (Lf tA tB'):=⟨Rh ha.run hb.run⟩
theorem lJ (ha:JT X a tA) (hb:JW X (.BoolOp .Or (b :: rest) pos) tB'):JW X (.BoolOp .Or (a :: b :: rest) pos) (tOr tA tB'):=⟨Vy ha.run hb.run⟩
theorem km (h:JW X e tt):JT X e tt:=⟨h.run.pt⟩
theorem dY (ha:JT X a tA):JT X (.UnaryOp .Not a pos) (Rf tA):=⟨Ri ha.run⟩
def plainT:Expr→Bool
 | .BoolOp ..=>false | .UnaryOp ..=>false | .Compare ..=>false | .IfExp ..=>false | _=>true
theorem dZ (h:JE X e te) (hp:autoParam (plainT e=true) L2.auto4._auto_1):JT X e (tB te):=⟨Rc h.run (by
 intro whole
 cases e <;> first | rfl | cases hp)⟩
theorem rZ {op} (h:JE X a te):JE X (.BoolOp op [a] pos) te:=⟨Rk h.run⟩
theorem sr (ha:JE X a ta) (hb:JE X (.BoolOp .And (b :: rest) pos) tb):JE X (.BoolOp .And (a :: b :: rest) pos) (Gy ta tb):=⟨Rm ha.run hb.run⟩
theorem j_or (ha:JE X a ta) (hb:JE X (.BoolOp .Or (b :: rest) pos) tb):JE X (.BoolOp .Or (a :: b :: rest) pos) (Rj ta tb):=⟨Vz ha.run hb.run⟩
theorem Qy (ha:JE X a ta):JE X (.UnaryOp .Not a pos) (Gz ta):=⟨Rn ha.run⟩
theorem j_if (hc:JT X c tA) (ha:JE X a ta) (hb:JE X b tb):JE X (.IfExp c a b pos) (tIf tA ta tb):=⟨GC hc.run ha.run hb.run⟩
theorem Iu {x1} (h:JA X es t):JE X (.Tuple es x1 pos) (Ma t):=⟨RP h.run⟩
theorem gA (h:JA X es t):JE X (.List es pos) (Mf t):=⟨RQ h.run⟩
theorem ak:JA X [] LQ:=⟨RN⟩
theorem aa (ha:JE X e te) (hr:JA X es t) (h:autoParam (notStar e=true) L2.auto4._auto_1):JA X (e :: es) (Cm te t):=⟨paC ha.run hr.run h⟩
theorem m7:JO X none wJ:=⟨Mh⟩
theorem m9 (h:JE X e te):JO X (some e) (Hr te):=⟨Mi h.run⟩
theorem ni {r:V→Option Int→Option Int→Hp→VK→Prop} {lo hi:Option Expr} {tl th:TO} (hr:SlR X r) (he:JE X e te) (hl:JO X lo tl) (hu:JO X hi th):JE X (.Subscript e (.Slice lo hi none p2) pos) (tSl r te tl th):=⟨Hs hr he.run hl.run hu.run⟩
theorem jV (hK:X.K=K) (ha:JE X a ta) (hb:JE X b tb) (h:autoParam (oF b=true) L2.auto4._auto_1):JE X (.Subscript a b pos) (Hf (R0 K) ta tb):=⟨ixE hK ha.run hb.run h⟩
theorem aF {k:Nat} {ps:List Str} {sp:Sp} (F:Has X.prog X.w X.K X.mg X.base k x ps sp) (hr:Room k X.A) (hg:Gl X x) (ha:JA X (e :: es) t) (hdb:(x == ("__debug__":Str))=false) (h:autoParam ((e :: es).all notStar=true) L2.auto4._auto_1):
  JE X (.Call (.Name x p) (e :: es) [] pos) (vJ sp [] E0 t):=⟨Wg F hr hg ha.run hdb h⟩
theorem aG {id:String} {r:List V→Hp→VK→Prop} (hc:CallR X (.builtin id) r) (hg:Gl X x) (hm:X.mg x=none) (hv:bootBuiltins x=some (.builtin id)) (ha:JA X (e :: es) t) (hn:x≠"__name__") (hdb:(x == ("__debug__":Str))=false) (h:autoParam ((e :: es).all notStar=true) L2.auto4._auto_1):
  JE X (.Call (.Name x p) (e :: es) [] pos) (RV r t):=⟨Wh hc hg hm hv ha.run hn hdb h⟩
theorem oH {T:String} {r:List V→Hp→VK→Prop} (hc:CallR X (.type T) r) (hg:Gl X x) (hm:X.mg x=none) (hv:bootBuiltins x=some (.type T)) (ha:JA X (e :: es) t) (hn:x≠"__name__") (hdb:(x == ("__debug__":Str))=false) (h:autoParam ((e :: es).all notStar=true) L2.auto4._auto_1):
  JE X (.Call (.Name x p) (e :: es) [] pos) (RV r t):=⟨Sw hc hg hm hv ha.run hn hdb h⟩
theorem rn {name:Str} {T id:String} {r:V→List V→Hp→VK→Prop} (hK:X.K=K) (pa:PlainAttrs T) (slot:Slot T name id) (hty:typeOf (.builtin id)=pure (.type "method_descriptor")) (hm:Vs X id r) (ho:JE X o to) (ha:JA X (e :: es) t)
  (hbase:autoParam (tO o=true) L2.auto4._auto_1) (hl:autoParam (es.length < 20) L2.auto2._auto_1) (hline:autoParam ((apos.endLine == cpos.line)=true) L2.auto4._auto_1) (h:autoParam ((e :: es).all notStar=true) L2.auto4._auto_1):JE X (.Call (.Attribute o name apos) (e :: es) [] cpos) (V4 K T r to t):=⟨Wj hK pa slot hty hm ho.run ha.run hbase hl hline h⟩
theorem jB:MN X [] HB:=⟨HD⟩
theorem MP (hc:JT X c tt):MN X [c] tt:=⟨HF hc.run⟩
variable {tg iter elt:Expr} {ifs:List Expr} {sub:List (Option Nat)} {wi:TI} {g:TG} {N:List Str}
theorem mO {ta:TA} (hg:Gl X "range") (hm:X.mg "range"=none) (ha:JA X [a] ta) (h:autoParam (notStar a=true) L2.auto4._auto_1):JI X tg (.Call (.Name "range" p) [a] [] pos) (Ha ta):=⟨DQ hg hm ha.run (cA h)⟩
theorem Eu {ta:TA} (hg:Gl X "range") (hm:X.mg "range"=none) (ha:JA X [a,b] ta) (h:autoParam (notStar a=true) L2.auto4._auto_1) (h2:autoParam (notStar b=true) L2.auto4._auto_1):JI X tg (.Call (.Name "range" p) [a,b] [] pos) (Hb ta):=⟨DW hg hm ha.run (by rw [cA h,cA h2];rfl) (by rw [cA h2];rfl)⟩
theorem jf (hK:X.K=K) (hl:JE X e te):JI X tg e (Mw K te):=⟨Mz hK hl.run⟩
theorem dJ {i:Nat} (hN:X.N.Nodup) (hi:X.N[i]?=some x) (hx:Loc X.env.scope x) (hf:X.fn x=true):JG X (.Name x pos) (pL i):=⟨Ca hN hi hx (.inl hf)⟩
theorem tD (i:Nat) (h:scope.names.lookup x=some .local) (hN:N'.Nodup) (hi:autoParam (N'[i]?=some x) L2.auto4._auto_1):JG (pH X N' scope C s₀ H₀ ex) (.Name x pos) (pL i):=⟨pgB i h hN hi⟩
theorem tU:Wq X [] Rr:=⟨Lp⟩
theorem iR {gs:z9} (h1:JG X e g) (h2:Wq X es gs) (hs:autoParam ((assignEach (e :: es) X.env).map (·.2)=assign e X.env :: (assignEach es X.env).map (·.2)) L2.auto4._auto_1):Wq X (e :: es) (GQ g gs):=⟨GR h1.run h2.run hs⟩
theorem Bd {ts:List Expr} {k:Nat} {gs:z9} {n:Nat} (hK:X.K=K) (hc:X.calm=true) (h:Wq X ts gs) (hn:autoParam ((assignEach ts X.env).length=n) L2.auto4._auto_1) (hst:autoParam ((assignEach ts X.env).findIdx? (·.1)=none) L2.auto4._auto_1):JG X (.Tuple ts k pos) (Lq K n gs):=⟨MJ hK hc h.run hn hst⟩
theorem mD {ts:Ac} (ho:JE X a ta) (hi:JE X b tb) (hs:Ln X ts) (h:autoParam (oF b=true) L2.auto4._auto_1):JG X (.Subscript a b pos) (Rt ta tb ts):=⟨Ru ho.run hi.run hs (by
 intro v
 cases b <;> first | rfl | cases h)⟩
theorem lK (S:rW N sc N' scope sub) (hc:X.calm=true) (hN:X.N=N) (hsc:X.env.scope=sc) (hi:JI X tg iter wi)
  (hg:∀ (C:Addr) (s₀:Shared) (H₀:Hp) (ex:List Addr),JG (pH X N' scope C s₀ H₀ ex) tg g)
  (ht:∀ (C:Addr) (s₀:Shared) (H₀:Hp) (ex:List Addr),MN (pH X N' scope C s₀ H₀ ex) ifs tt)
  (he:∀ (C:Addr) (s₀:Shared) (H₀:Hp) (ex:List Addr),JE (pH X N' scope C s₀ H₀ ex) elt te) (h:autoParam (rm iter=true) L2.auto4._auto_1):
  JE X (.ListComp elt [⟨tg,iter,ifs,0⟩] scope pos) (ur sub wi g tt te):=⟨Wn S hc hN hsc hi.run (fun C s₀ H₀ ex=>(hg C s₀ H₀ ex).run) (fun C s₀ H₀ ex=>(ht C s₀ H₀ ex).run) (fun C s₀ H₀ ex=>(he C s₀ H₀ ex).run) h⟩
variable {st:Stmt} {sts:List Stmt} {u v:TS}
theorem aP {i:Nat} (hN:X.N.Nodup) (hi:X.N[i]?=some x) (hx:Loc X.env.scope x) (he:JE X e te) (hf:X.fn x=true) (h:autoParam (lq e=true) L2.auto4._auto_1):JS X (.Assign [.Name x pos'] e pos) (wI te (pL i)):=⟨Wl hN hi hx he.run hf h⟩
theorem j8 {ts:Ac} (he:JE X e te) (hg:JG X (.Subscript a b pos') g) (h:autoParam (lq e=true) L2.auto4._auto_1):JS X (.Assign [.Subscript a b pos'] e pos) (wI te g):=⟨GZ he.run hg.run (by show swapsWith e (some (.Subscript a b pos')) pos.line X.env=pure false;exact vV h) (by cases e <;> rfl) rfl⟩
theorem aK (he:JE X e te):JS X (.Return (some e) pos) (Ro te):=⟨Rp he.run⟩
theorem bD (he:JE X e te) (h:autoParam (lq e=true) L2.auto4._auto_1):JS X (.Expr e pos) (BZ te):=⟨Sy he.run h⟩
theorem cP {sa sb:List Stmt} (hc:JT X c tt) (ha:JB X sa u) (hb:JB X sb v):JS X (.If c sa sb pos) (Rq tt u v):=⟨VB hc.run ha.run hb.run⟩
theorem jC {body:List Stmt} (hp:PassesOwn (model X.prog X.w) X.A X.env X.xe) (hc:X.calm=true) (hi:JI X tg iter wi) (hg:JG X tg g) (hb:JB X body u) (h:autoParam (rm iter=true) L2.auto4._auto_1):JS X (.For tg iter body [] pos) (Lr wi g u):=⟨Wm hp hc hi.run hg.run hb.run h⟩
theorem Iv {body:List Stmt} (hp:PassesOwn (model X.prog X.w) X.A X.env X.xe) (hc:JT X c tt) (hb:JB X body u):JS X (.While c body [] pos) (Ad tt u):=⟨G7 hp hc.run hb.run⟩
theorem kE:JS X st GJ:=⟨GK⟩
theorem bB:JB X [] GD:=⟨Li⟩
theorem aA (h:JS X st u):JB X [st] u:=⟨Lj h.run⟩
theorem az (h:JS X st u) (h2:JB X sts v):JB X (st :: sts) (Lh u v):=⟨GF h.run h2.run⟩
end
section
variable {P:Program} {w:World} {K:PySem.W.Frag} {mg:Str→Option Value} {base:Heap}
theorem gr {x:Str} {st:Stmt} {N ps:List Str} {k:Nat} {sp:Sp} (D:fO K mg x st) (S:aC N ps (aq st))
  (hb:∀ (kV doc pm:Value) (an:Option Addr) (cdv ct:Value) (us:List Value),us.length=ps.length→bindArgs (PySem.W.fnOf x x (gw st) (cj st) (aq st) .none kV doc pm an cdv ct) ⟨us,[]⟩=pure (ps.zip us))
  (len:∀ vs H Q E,sp vs H Q E→vs.length=ps.length)
  (hbody:∀ (f:Addr) (cdv:Value) (A:Around) (outer:List Env) (s:Shared) (H:Hp) (vs:List V) (Q:VK) (E:XK),Room k (A.deeper (envOfC x (aq st) s.heap.objs.size f cdv))→sp vs H Q E→
   ∃ t,JB (pG Av P w K mg base N x (aq st) f cdv A outer s H E).nox (cj st) t∧t {nx:=fun _ H'=>Q .non H',rt:=Q} (start N vs) H):Has P w K mg base (k+1) x ps sp:=
 R9 D S hb len fun f cdv A outer s H vs Q E hr h=>let ⟨t,j,q⟩:=hbody f cdv A outer s H vs Q E hr h;⟨t,j.run,q⟩
theorem okJ {x:Str} {st:Stmt} {N ps:List Str} {k:Nat} {sp:Sp} {f:Addr} {fd:FuncData} (F:Fun K x x st f fd) (S:aC N ps (aq st)) (len:∀ vs H Q E,sp vs H Q E→vs.length=ps.length)
  (hbody:∀ (f:Addr) (cdv:Value) (A:Around) (outer:List Env) (s:Shared) (H:Hp) (vs:List V) (Q:VK) (E:XK),Room k (A.deeper (envOfC x (aq st) s.heap.objs.size f cdv))→sp vs H Q E→
   ∃ t,JB (pG Av P w K mg base N x (aq st) f cdv A outer s H E).nox (cj st) t∧t {nx:=fun _ H'=>Q .non H',rt:=Q} (start N vs) H):FnOk P w K mg base Av (k+1) f fd ps sp:=
 F.ok S len fun cdv A outer s H vs Q E hr h=>let ⟨t,j,q⟩:=hbody f cdv A outer s H vs Q E hr h;⟨t,j.run,q⟩
end
theorem qF {K:PySem.W.Frag} {mg:Str→Option Value} {h:Heap} (X:K.In h) (G:h.Ns mainGlobals mg) {x:Str} {v:Value} {f:Tok→Value} (a:PySem.W.nsIn K mainGlobals x=some (some v)) (e:∃ t,v=f t):∃ t,mg x=some (f t):=by
 obtain ⟨t,rfl⟩:=e
 exact ⟨t,PySem.W.mg_of X G a⟩
theorem Wr {l:PySem.W.OpenLaw} {q:Program} {loose:List Str} {XP:(Str→Option Value)→Heap→Prop} {YP:World→Heap→Prop} {d:DefRec} {K:Params→PySem.W.Frag} {st:Stmt} {k:Nat} {sp:PySem.W.Frag→Sp} {x:Str}
  (hn:l.most=some 63) (hdf:d.params.defaults=[]) (hdn:d.name="law") (hk:Room k callerA) (hY:∀ (w:World) (h:Heap),YP w h→(K w.params).In h)
  (hb:∀ (kV doc pm:Value) (an:Option Addr) (cdv ct:Value) (us:List Value),us.length=[x].length→bindArgs (PySem.W.fnOf "law" "law" (gw st) (cj st) (aq st) .none kV doc pm an cdv ct) ⟨us,[]⟩=pure ([x].zip us))
  (F:∀ (w:World) (mg:Str→Option Value) (h:Heap),(K w.params).In h→h.Ns mainGlobals mg→fO (K w.params) mg "law" st∧∀ (base:Heap) (f:Addr) (fd:FuncData),Fun (K w.params) "law" "law" st f fd→FnOk l.prog w (K w.params) mg base Av k f fd [x] (sp (K w.params)))
  (hsp:∀ (K:PySem.W.Frag) (H:Hp) (a:Addr) (ns:List Int),ns.length≤63→SqL K H a (ns.map V.int)→sp K [.ref a] H (fun v _=>v= .bl true) fun _ _ _=>False) (him:autoParam (importsNone q=true) L2.auto6._auto_1):
  PySem.W.WalkO q loose XP YP l.row.toRowW d [] (fun f vs=>PySem.call f vs):=
 L2.Mm (n:=63) (k:=k) (x:=x) (CX:=fun _=>Av) (sp:=fun w=>sp (K w.params)) hn (by decide) hdf hk hY (fun w mg fa h X G e=>by
  obtain ⟨⟨f,fd,Fn,hm⟩,ok⟩:=F w mg h X G
  rw [hdn,hm] at e
  have ef:f=fa:=by injection (Option.some.inj e)
  subst ef
  refine ⟨fd,fun s u=>?_,fun base _ _=>ok base f fd Fn⟩
  obtain ⟨oc,od,kV,doc,pm,an,cdv,ct,osl,rfl,lk,hcd⟩:=Fn.ex
  exact .of_eq (hb kV doc pm an cdv ct [u] rfl)) (fun w H a ns hl _ hS=>hsp _ H a ns hl hS) (fun _ _ _ _ _ z=>z) him
end L2
namespace L2
open PySem PySem.Spec PyProof.Rows
def YS (xs:Nat→List V) (n:Nat):It:=⟨fun i _=>i < n,fun i H v H'=>∃ T,H T=none∧v= .ref T∧H'=upd H T (.tup (xs i)),fun i _=>i=n⟩
theorem SN {P:Program} {w:World} {K:PySem.W.Frag} {elts:List Expr} {k:Nat} {pos:Pos} {it:Addr} {fp wr:List Addr} {n:Nat} {xs:Nat→List V} {Pt:Nat→Array Value→Prop} {St:Nat→Heap→Prop} {Mid:Nat→Addr→Heap→Prop}
  (W:∀ A:Around,A.handled=none→WalksT P w A it fp wr n Pt St Mid) (hxs:∀ i,(xs i).length≤sizeLine) (hPt:∀ i vals,Pt i vals→Vals (xs i) vals.toList) (hmem:it∈fp)
  (hobj:∀ i h,St i h→∀ b∈fp,∃ o,h.get? b=some o∧∀ v,o.data≠.cell v)
  (hself:∀ (A:Around) (i:Nat) (s:Shared) (Q:Value→Shared→Prop) (E:Value→Shared→Prop),St i s.heap→Q (.ref it) s→wpAny (model P w) A (pyIter (.ref it)) Q E s):
  Turn P w K (.Tuple elts k pos) (YS xs n) fp it St where
 mem:=hmem
 obj:=hobj
 keep:=fun i h h' st kk=>(W {} rfl).frame i h h' st kk
 item:=by
  intro X hP hw hK hc i pins s σ H E I hf st hg
  subst hP hw hK
  have W':=W X.A (I.ok.hd hc)
  refine W'.item i s _ _ hg st fun T vals h' tk hPv hT isT mid kk=>?_
  refine ⟨.ref T,rfl,W'.go elts k pos i T _ _ _ mid fun h'' st'' kk2=>?_⟩
  have hTn:H T=none:=I.hok.fresh hT
  have hTw:T ∉ wr:=W'.apart i T h' mid
  have kall:∀ b o,b ∉ wr→s.heap.get? b=some o→h''.get? b=some o:=fun b o hb e=>kk2 b o hb (kk b o hb e)
  have nT:∀ b o,s.heap.get? b=some o→b≠T:=fun b o e=>Nat.ne_of_lt (Nat.lt_of_lt_of_le (Heap.lt_size e) hT)
  have nTH:∀ b u,H b=some u→b≠T:=fun b u e z=>by rw [z,hTn] at e;cases e
  have nW:∀ b u,H b=some u→b ∉ wr:=fun b u e hb=>by rw [(hf b (W'.sub b hb)).1] at e;cases e
  have isT':h''.IsTuple T vals:=by
   obtain ⟨o,ho,r⟩:=isT
   exact ⟨o,kk2 T o hTw ho,r⟩
  have hlT:∃ o,h''.get? T=some o:=let ⟨o,ho,_⟩:=isT';⟨o,ho⟩
  have I':Inv X pins σ (upd H T (.tup (xs i))) {s with heap:=h'',toks:=tk}:=by
   refine I.step (g':=s.gens) (d':=s.drawn) (ch:=wr) (fun b hb=>?_) (fun b o _ _ hc e _=>kall b o hc e) (fun b o _ _ hc e _=>⟨o.slots,kall b o hc e⟩) (fun b o _ e hn=>by rw [aB (nT b o e)];exact hn)
    (fun b o hc e=>⟨o,kall b o hc e⟩) (fun b ys e=>by rw [aB (nTH b _ e)];exact e) (fun b o u e=>by rw [aB (nTH b _ e)];exact e) (fun b ps e=>⟨#[],by rw [aB (nTH b _ e),e];simp⟩) (fun m hm=>?_) (fun b u e=>?_) I.bare
   ·obtain ⟨f0,f1,f2,f3,f4,f5⟩:=hf b (W'.sub b hb)
    exact ⟨f3,f1,f4,f5⟩
   ·obtain ⟨o,es,ep,ho,r⟩:=hm
    exact ⟨o,es,ep,kall _ o (fun hb=>(hf _ (W'.sub _ hb)).2.1 rfl) ho,r⟩
   ·by_cases hb:b=T
    ·subst hb
     rw [aj] at e;cases e
     obtain ⟨o,ho,hcl,nn,hd⟩:=isT'
     exact ⟨hxs i,vals.toList,hPt i vals hPv,o,ho,hcl,nn,by simpa using hd⟩
    ·rw [aB hb] at e
     refine (I.hok b u e).stay (fun c v hc' q=>kall c v ?_ q) (fun c q=>by rw [aB (nTH c _ q)];exact q) fun c ys q=>by rw [aB (nTH c _ q)];exact q
     rcases hc' with z | z
     ·rw [z];exact nW b u e
     ·exact nW c _ z
  refine ⟨.ref T,upd H T (.tup (xs i)),I',rfl,⟨T,hTn,rfl,rfl⟩,st'',fun b hb=>?_⟩
  obtain ⟨o,e,_⟩:=hobj i _ st b hb
  rw [aB (nT b o e)]
  exact (hf b hb).1
 done:=by
  intro X hP hw hK hc i pins s σ H E I hf st hg
  subst hP hw hK
  have W':=W X.A (I.ok.hd hc)
  have hg:i=n:=hg
  subst hg
  refine W'.done s _ _ st fun h' tk kk=>⟨rfl,?_⟩
  have nW:∀ b u,H b=some u→b ∉ wr:=fun b u e hb=>by rw [(hf b (W'.sub b hb)).1] at e;cases e
  refine I.step (g':=s.gens) (d':=s.drawn) (ch:=wr) (fun b hb=>?_) (fun b o _ _ hc e _=>kk b o hc e) (fun b o _ _ hc e _=>⟨o.slots,kk b o hc e⟩) (fun b o _ e hn=>hn)
    (fun b o hc e=>⟨o,kk b o hc e⟩) (fun b ys e=>e) (fun b o u e=>e) (fun b ps e=>⟨#[],by rw [e];simp⟩) (fun m hm=>?_) (fun b u e=>?_) I.bare
  ·obtain ⟨f0,f1,f2,f3,f4,f5⟩:=hf b (W'.sub b hb)
   exact ⟨f3,f1,f4,f5⟩
  ·obtain ⟨o,es,ep,ho,r⟩:=hm
   exact ⟨o,es,ep,kk _ o (fun hb=>(hf _ (W'.sub _ hb)).2.1 rfl) ho,r⟩
  ·refine (I.hok b u e).stay (fun c v hc' q=>kk c v ?_ q) (fun c q=>q) fun c ys q=>q
   rcases hc' with z | z
   ·rw [z];exact nW b u e
   ·exact nW c _ z
 self:=hself
def yS (x:Str) (i:Nat):List V:=[.int i,.str ⟨#[x.cps.getD i 0]⟩]
end L2
namespace L2
open PySem PySem.Spec PyProof.Rows
section
variable {prog:Program} {w:World} {A:Around} {E:Value→Shared→Prop} {s:Shared}
theorem uy {it l:Addr} {items:Array Value} (hne:l≠it):∀ (n i:Nat) (s:Shared) (Q:List Value→Shared→Prop),s.heap.IsListIter it l i→s.heap.IsList l items→i+n≤items.size→
  (∀ h',h'.IsListIter it l (i+n)→Heap.SameBut it s.heap h'→Q ((items.toList.drop i).take n) {s with heap:=h'})→wpAny (model prog w) A (draw (.ref it) n) Q E s
 | 0,i,s,Q,hit,_,_,hQ=>by
  show wpAny _ _ (pure []) Q E s
  exact wpAny_pure (by simpa using hQ s.heap hit (Heap.SameBut.refl ..))
 | n+1,i,s,Q,hit,ht,hle,hQ=>by
  have hlt:i < items.size:=by omega
  show wpAny _ _ (pyNext (.ref it) >>=_) Q E s
  refine wpAny_bind (wpAny_pyNext_list_item hit ht (x:=items[i]) (by simp [hlt]) fun h₁ hit₁ hs₁=>?_)
  refine wpAny_bind (wpAny_holding (uy hne n (i+1) _ _ hit₁ (ht.extBut hs₁.extBut hne) (by omega) fun h₂ hit₂ hs₂=>wpAny_pure ?_))
  have hd:items.toList.drop i=items[i] :: items.toList.drop (i+1):=by simp [List.drop_eq_getElem_cons,hlt]
  have:=hQ h₂ (by rw [show i+(n+1)=i+1+n by omega];exact hit₂) (hs₁.trans hs₂)
  rw [hd,List.take_succ_cons] at this
  exact this
theorem qG {l:Addr} {items:Array Value} {Q:List Value→Shared→Prop} (hh:A.handled=none) (ht:s.heap.IsList l items)
  (hQ:∀ h',Heap.ExtBut s.heap.objs.size s.heap h'→Q items.toList {s with heap:=h'}):wpAny (model prog w) A (unpackItems (.ref l) items.size none) Q E s:=by
 have hlt:l≠s.heap.objs.size:=by obtain ⟨o,ho,_⟩:=ht;exact Nat.ne_of_lt (Heap.lt_size ho)
 unfold unpackItems
 refine wpAny_bind ?_
 ·unfold notIterableAtAll
  refine wpAny_bind (wpAny_specialOf ht.typeIs slot_list_iter.lookup ?_)
  refine wpAny_pure ?_
  simp only [Bool.false_eq_true,if_false]
  refine wpAny_bind (wpAny_holding (wpAny_pyIter_list ht ?_))
  refine wpAny_bind (wpAny_holding (uy hlt items.size 0 _ _ ⟨_,Heap.get?_push_size _ rfl,rfl,rfl⟩ (let ⟨o,ho,r⟩:=ht;⟨o,Heap.get?_push_of_some _ ho,r⟩) (by omega) fun h₁ hit₁ hs₁=>?_))
  have hall:List.take items.size (List.drop 0 items.toList)=items.toList:=by
   rw [List.drop_zero];exact List.take_of_length_le (by simp)
  rw [hall]
  rw [if_neg (by simp)]
  have ht₁:h₁.IsList l items:=by
   have:(s.heap.push {cls:=.type "list_iterator",data:=.fields #[.ref l,.int 0 0]}).IsList l items:=let ⟨o,ho,r⟩:=ht;⟨o,Heap.get?_push_of_some _ ho,r⟩
   exact this.extBut hs₁.extBut hlt
  refine wpAny_bind (wpAny_holding (wpAny_pyNext_list_end hh hit₁ ht₁ (by simp) fun h₂ he₂=>?_))
  simp only [Option.isSome_none,Bool.false_eq_true,if_false]
  refine wpAny_pure (hQ h₂ fun b o hb e=>he₂ b o hb (hs₁.extBut b o hb (Heap.get?_push_of_some _ e)))
theorem pR {env:Env} {elts:List Expr} {x1} {pos:Pos} {l:Addr} {items:Array Value} {Q:Unit→Shared→Prop} (hh:A.handled=none) (ht:s.heap.IsList l items)
  (hn:(assignEach elts env).length=items.size) (hstar:(assignEach elts env).findIdx? (·.1)=none)
  (h:∀ h',Heap.ExtBut s.heap.objs.size s.heap h'→wpAny (model prog w) A (assignInOrder ((assignEach elts env).map (·.2)) items.toList) Q E {s with heap:=h'}):
  wpAny (model prog w) A (assign (.Tuple elts x1 pos) env (.ref l)) Q E s:=by
 rw [assign_Tuple]
 refine wpAny_bind (wpAny_standAt ?_)
 unfold unpack
 rw [hn,hstar]
 exact wpAny_bind (wpAny_holding (qG hh ht h))
end
def Qz (K:PySem.W.Frag) (n:Nat) (t:z9):TG:=fun v σ H Q=>∃ a xs,v= .ref a∧(SqT K H a xs∨SqL K H a xs)∧xs.length=n∧t xs σ H Q
theorem M6 {X:Cx} {K:PySem.W.Frag} {ts:List Expr} {k:Nat} {gs:z9} {n:Nat} {pos:Pos} (hK:X.K=K) (hc:X.calm=true) (h:Wq X ts gs) (hn:autoParam ((assignEach ts X.env).length=n) L2.auto4._auto_1) (hst:autoParam ((assignEach ts X.env).findIdx? (·.1)=none) L2.auto4._auto_1):JG X (.Tuple ts k pos) (Qz K n gs):=⟨by
 subst hK
 intro pins s σ H v u Q I r hw
 obtain ⟨a,xs,e1,hq,hl,hw⟩:=hw
 subst e1
 cases r
 rcases hq with hq | hq
 ·exact (GX hc h.run hn hst) pins s σ H (.ref a) (.ref a) Q I (show RelV (.ref a) (Value.ref a) from rfl) ⟨a,xs,rfl,hq,hl,hw⟩
 ·obtain ⟨its,rv,ht,hz⟩:=I.list hq
  refine pR (I.ok.hd hc) ht.isList (by simp [hn,← hl,rv.length]) hst fun h' hx=>?_
  have I1:Inv X pins σ H {s with heap:=h'}:=I.kept (t':=s.toks) fun b o e=>hx b o (Nat.ne_of_lt (Heap.lt_size e)) e
  exact h.run pins _ σ H xs _ Q I1 (by simpa using rv) hw⟩
theorem M8 {X:Cx} {ts:List Expr} {k:Nat} {e:Expr} {te:TE} {g:TG} {pos pos':Pos} (he:JE X e te) (hg:JG X (.Tuple ts k pos') g) (h:autoParam (lq e=true) L2.auto4._auto_1) (h2:autoParam ((match e with | .Tuple ..=>false | _=>true)=true) L2.auto4._auto_1):JS X (.Assign [.Tuple ts k pos'] e pos) (wI te g):=
 ⟨GZ he.run hg.run (by show swapsWith e (some (.Tuple ts k pos')) pos.line X.env=pure false;exact vV h) (by cases e <;> first | rfl | cases h2) rfl⟩
def Ws (K:PySem.W.Frag):R2:=fun x y H Q=>rNe x y H Q∨∃ (a b:Addr) (ns ms:List Int),x= .ref a∧y= .ref b∧SqL K H a (ns.map V.int)∧SqL K H b (ms.map V.int)∧Q (.bl (!decide (ns=ms))) H
theorem SQ {X:Cx} {K:PySem.W.Frag} (hK:X.K=K) (hu:X.A.units+64 < cLine):OpR X (compareOp .NotEq) (Ws K):=by
 subst hK
 intro pins s σ H x y v u Q I rx ry h
 rcases h with h | ⟨a,b,ns,ms,rfl,rfl,ha,hb,q⟩
 ·exact VL pins s σ H x y v u Q I rx ry h
 ·cases rx
  cases ry
  obtain ⟨its,r1,p1,z1⟩:=I.list ha
  obtain ⟨jts,r2,p2,z2⟩:=I.list hb
  exact PySem.W.ne_intsK p1.isList (intsAre_of r1) p2.isList (intsAre_of r2) hu ⟨.bl _,H,I,rfl,q⟩
section
variable {H:Hp} {Q:VK} {K:PySem.W.Frag} {σ:St}
theorem b7 {n:Nat} {gs:z9} {p:Addr} {xs:List V} {R:St→Hp→Prop} (s:SqT K H p xs) (hl:xs.length=n) (h:gs xs σ H R):Lq K n gs (.ref p) σ H R:=⟨p,xs,rfl,s,hl,h⟩
theorem Nb {n:Nat} {gs:z9} {p:Addr} {xs:List V} {R:St→Hp→Prop} (s:SqL K H p xs) (hl:xs.length=n) (h:gs xs σ H R):Qz K n gs (.ref p) σ H R:=⟨p,xs,rfl,.inr s,hl,h⟩
theorem bF {t:TG} {u:z9} {v:V} {vs:List V} {R:St→Hp→Prop} (h:t v σ H fun σ' H'=>u vs σ' H' R):GQ t u (v :: vs) σ H R:=⟨v,vs,rfl,h⟩
theorem dz {R:St→Hp→Prop} (h:R σ H):Rr [] σ H R:=⟨rfl,h⟩
theorem qH {p:Addr} {xs:List V} {y:V} (hp:H p=some (.lst xs)) (c:xs.length < sizeLine) (h:Q .non (upd H p (.lst (xs ++ [y])))):Cv (.ref p) [y] H Q:=⟨p,xs,y,rfl,rfl,hp,c,h⟩
theorem qU {f:Int→V} {i:Int} (h:Q (f i) H):rU f (.int i) H Q:=⟨i,rfl,h⟩
theorem Iw {a:Addr} {xs:List V} {k:Int} (ha:H a=some (.lst xs)) (h0: -(2 ^ 63)≤k) (h1:k < 2 ^ 63) (hz:xs.length*k.toNat≤sizeLine) (h:∀ p,H p=none→Q (.ref p) (upd H p (.lst (List.replicate k.toNat xs).flatten))):HX (.ref a) (.int k) H Q:=
 .inr (.inr ⟨a,k,xs,rfl,rfl,ha,h0,h1,hz,h⟩)
theorem w5 {z:Str} {g:TG} {tb:TS} {D:Ends} {H:Hp} (Pv:Nat→St→Hp→Prop) (h0:Pv 0 σ H)
  (hs:∀ i σ H c,z.cps.toList[i]?=some c→Pv i σ H→g (.str ⟨#[c]⟩) σ H fun σ2 H2=>tb {D with nx:=Pv (i+1),ct:=Pv (i+1),bk:=D.nx} σ2 H2) (hd:∀ σ H,Pv z.length σ H→D.nx σ H):
  ∃ W:Nat→Nat→St→Hp→Prop,(∃ m,W 0 m σ H)∧∀ i m σ H,W i m σ H→
   ((Mt z).stop i H∧D.nx σ H)∨((Mt z).go i H∧∃ N:St→Hp→Prop,(∀ σ' H',N σ' H'→∃ m',m' < m∧W (i+1) m' σ' H')∧∀ x H',(Mt z).yld i H x H'→g x σ H' fun σ2 H2=>tb {D with nx:=N,ct:=N,bk:=D.nx} σ2 H2):=by
 refine ⟨fun i m σ H=>m=z.cps.size - i∧i≤z.cps.size∧Pv i σ H,⟨z.cps.size,by simp,Nat.zero_le _,h0⟩,?_⟩
 rintro i m σ H ⟨rfl,hi,p⟩
 by_cases hlt:i < z.cps.size
 ·refine .inr ⟨hlt,Pv (i+1),fun σ' H' p'=>⟨z.cps.size - (i+1),by omega,rfl,hlt,p'⟩,fun x H' y=>?_⟩
  obtain ⟨e1,c,e2,e3⟩:=y
  subst e1 e3
  exact hs i σ _ c (by simpa using e2) p
 ·have e:i=z.cps.size:=by omega
  subst e
  exact .inl ⟨rfl,hd σ H p⟩
end
end L2
namespace L2
open PySem PySem.Spec PyProof.Rows
section
variable {X:Cx} {tg iter elt:Expr} {ifs:List Expr} {scope:Scope} {pos:Pos} {N':List Str} {sub:List (Option Nat)} {wi:TI} {g:TG} {tt:TT} {te:TE}
theorem Iz {N:List Str} {sc:Scope} {use:Option (Value→Sem Unit)} {R:Value→Shared→Prop} {p0:Pos} (S:rW N sc N' scope sub) (hc:X.calm=true) (hN:X.N=N) (hsc:X.env.scope=sc) (hi:PI X tg iter wi)
  (hg:∀ (C:Addr) (s₀:Shared) (H₀:Hp) (ex:List Addr),PG (pH X N' scope C s₀ H₀ ex) tg g)
  (ht:∀ (C:Addr) (s₀:Shared) (H₀:Hp) (ex:List Addr),wQ (pH X N' scope C s₀ H₀ ex) ifs tt)
  (he:∀ (C:Addr) (s₀:Shared) (H₀:Hp) (ex:List Addr),PE (pH X N' scope C s₀ H₀ ex) elt te)
  (hs:∀ x,foldedSetIterable iter X.env x=pure x) (pins:List (Addr×Obj)) (s:Shared) (σ:St) (H:Hp) (Q:VK) (I:Inv X pins σ H s) (h:ur sub wi g tt te σ H Q)
  (hend:∀ (D C:Addr) (s5:Shared) (H5:Hp) (m:Str→Option Value),Inv X pins σ H5 s5→lU X pins H5 C→s5.heap.Ns C m→Q (.ref D) H5→compPost (model X.prog X.w) X.A X.xe use R (.ref D) C (.ok .next) s5):
  wpAny (model X.prog X.w) X.A (comprehension (.ListComp elt [⟨tg,iter,ifs,0⟩] scope pos) scope X.env p0 (newList []) false (eval iter X.env) use) R X.xe s:=by
 have hcl:∀ x∈scope.names,x.2=NameKind.free→∃ c,X.env.cells.lookup x.1=some c:=fun x hx hk=>I.ok.has x.1 (by have:=S.free x hx hk;rw [← hsc] at this;exact this)
 refine wpAny_comprehension_free (use:=use) rfl hs (pM hcl) S.kind S.loc ?_
 refine fJ (hi pins s σ H _ I h) fun v s1 h1=>fJ h1 fun itv s2 h2=>?_
 obtain ⟨it,fp,tn,J,H2,e,I2,T,st2,f2,W,⟨m0,w0⟩,turn⟩:=h2
 subst e
 refine wpAny_newObj_type (jm fun h₁ hns₁ hk31 hcl₁=>?_)
 dsimp only at hns₁ hk31 hcl₁ ⊢
 generalize hs3:({s2 with heap:=s2.heap.push {cls:=.type "list",dict:=none,data:=.seq ([]:List Value).toArray}}:Shared)=s3
 have e3:s2.heap.push {cls:=.type "list",dict:=none,data:=.seq ([]:List Value).toArray}=s3.heap:=by rw [← hs3]
 rw [e3] at hns₁ hk31 hcl₁ ⊢
 have hD3:s3.heap.get? s2.heap.objs.size=some {cls:=.type "list",dict:=none,data:=.seq ([]:List Value).toArray}:=by rw [← e3];exact Heap.get?_push_size _ rfl
 have I3:Inv X pins σ H2 s3:=by
  rw [← hs3]
  exact I2.kept (t':=s2.toks) fun b o e=>Heap.get?_push_of_some _ e
 have k23:∀ b o,s2.heap.get? b=some o→s3.heap.get? b=some o:=fun b o e=>by rw [← e3];exact Heap.get?_push_of_some _ e
 have hsz:s3.heap.objs.size=s2.heap.objs.size+1:=by rw [← e3,Heap.size_push]
 have hDn:H2 s2.heap.objs.size=none:=I2.hok.fresh (Nat.le_refl _)
 have fD:lU X pins H2 s2.heap.objs.size:=I2.fpOk (Nat.le_refl _) hDn
 have hfo:∀ b∈fp,b < s2.heap.objs.size:=fun b hb=>let ⟨o,e,_⟩:=T.obj _ _ st2 b hb;Heap.lt_size e
 have hDfp:s2.heap.objs.size ∉ fp:=fun z=>absurd (hfo _ z) (Nat.lt_irrefl _)
 have I4:=vQ (tk:=s3.toks+([]:List (Str×Value)).length) S hN hsc I3 f2 (fun b hb=>by rw [hsz];exact Nat.lt_succ_of_lt (hfo b hb)) (D:=s2.heap.objs.size) (by rw [hsz];exact Nat.lt_succ_self _) fD hns₁ hk31 hcl₁
 have stat:∀ {H':Hp} {ob:Obj},(∀ b∈fp,H' b=none)→∀ b∈fp,lU (pH X N' scope s3.heap.objs.size s3 H2 (s2.heap.objs.size :: fp)) [(s2.heap.objs.size,ob)] H' b:=fun {H' ob} hn b hb=>by
  obtain ⟨q1,q2⟩:=I4.ok.exf b (List.mem_cons_of_mem _ hb)
  refine ⟨hn b hb,q1,I4.ok.exfs b (List.mem_cons_of_mem _ hb),.inl (List.mem_cons_of_mem _ hb),q2,fun p hp z=>?_⟩
  have hp':p=(s2.heap.objs.size,ob):=by simpa [pH] using hp
  subst hp'
  have z':s2.heap.objs.size=b:=z
  exact hDfp (by rw [z'];exact hb)
 generalize hXC:pH X N' scope s3.heap.objs.size s3 H2 (s2.heap.objs.size :: fp)=XC at I4 stat
 have eP:XC.prog=X.prog:=by rw [← hXC];rfl
 have eW:XC.w=X.w:=by rw [← hXC];rfl
 have eK:XC.K=X.K:=by rw [← hXC];rfl
 have eA:XC.A=X.A:=by rw [← hXC];rfl
 have eE:XC.env=compEnvC scope (El X scope s3.heap.objs.size) s3.heap.objs.size X.env:=by rw [← hXC];rfl
 have eC:XC.calm=true:=by rw [← hXC];exact hc
 have eX:XC.xe=fun _ _=>False:=by rw [← hXC];rfl
 have eH:XC.H₀=H2:=by rw [← hXC];rfl
 have eS:XC.s₀=s3:=by rw [← hXC];rfl
 have eF:XC.fs=frs X.stack:=by rw [← hXC];rfl
 have eEx:XC.ex=s2.heap.objs.size :: fp:=by rw [← hXC];rfl
 have ePn:XC.pn=[]:=by rw [← hXC];rfl
 have hgC:PG XC tg g:=by rw [← hXC];exact hg _ _ _ _
 have htC:wQ XC ifs tt:=by rw [← hXC];exact ht _ _ _ _
 have heC:PE XC elt te:=by rw [← hXC];exact he _ _ _ _
 have pinD:∀ {σ':St} {H':Hp} {s':Shared} {ob:Obj},Inv XC [] σ' H' s'→H' s2.heap.objs.size=none→s'.heap.get? s2.heap.objs.size=some ob→(∀ v,ob.data≠.cell v)→Inv XC [(s2.heap.objs.size,ob)] σ' H' s':=fun {σ' H' s' ob} J hn hg hd=>
  J.pins_of fun p hp=>by
   have hp':p=(s2.heap.objs.size,ob):=by simpa using hp
   subst hp'
   refine ⟨hg,hn,(J.ok.exf _ (by rw [eEx];exact List.mem_cons_self)).1,J.ok.exfs _ (by rw [eEx];exact List.mem_cons_self),hd⟩
 have loop:codeAny (model X.prog X.w) X.A (.compLoop (.ListComp elt [⟨tg,iter,ifs,0⟩] scope pos) 0 (.ref it) (.ref s2.heap.objs.size) (compEnvC scope (El X scope s3.heap.objs.size) s3.heap.objs.size X.env))
   (compPost (model X.prog X.w) X.A X.xe use R (.ref s2.heap.objs.size) s3.heap.objs.size) {s3 with heap:=h₁,toks:=s3.toks+([]:List (Str×Value)).length}:=by
  refine vP (fun n s'=>∃ (i:Nat) (ys:List V) (its:List Value) (nn:Nat) (H':Hp),Inv XC [] (eU sub σ) H' s'∧tn i s'.heap∧(∀ b∈fp,H' b=none)∧H' s2.heap.objs.size=none∧
   s'.heap.get? s2.heap.objs.size=some {cls:=.type "list",data:=.seq its.toArray nn}∧Vals ys its∧W i n ys H') ?_ m0
   ⟨0,[],[],_,H2,I4,T.keep _ _ _ st2 fun b _ o e=>hk31 b o (k23 b o e),fun b hb=>(f2 b hb).1,hDn,hk31 _ _ hD3,.nil,w0⟩
  rintro n s4 ⟨i,ys,its,nn,H4,J4,st4,fr4,dn4,dg4,rv4,w4⟩
  have P4:=pinD J4 dn4 dg4 (fun v z=>by cases z)
  rcases turn i n ys H4 w4 with ⟨stop,hyl,qn⟩ | ⟨go,hyl,N,hN,step⟩
  ·have hdone:=T.done XC eP eW eK eC i _ s4 _ H4 (fun _ _=>False) P4 (stat fr4) st4 stop
   rw [eA] at hdone
   refine wpAny_mono hdone (fun r s5 ⟨hr,I5⟩=>?_) fun _ _ z=>z
   subst hr
   obtain ⟨m,hn,_⟩:=id I5.loc
   have hCe:XC.env.locals=s3.heap.objs.size:=by rw [eE];rfl
   rw [hCe] at hn
   have hDg:=(I5.pin (s2.heap.objs.size,_) (by rw [ePn];exact List.mem_cons_self)).1
   have hDne:s2.heap.objs.size≠s3.heap.objs.size:=by rw [hsz];exact Nat.ne_of_lt (Nat.lt_succ_self _)
   have hHC:H4 s3.heap.objs.size=none:=by have:=I5.free;rw [hCe] at this;exact this
   have k56:∀ b o,b≠s3.heap.objs.size→s5.heap.get? b=some o→s5.heap.get? b=some o:=fun b o hb e=>e
   have un:=I5.base
   rw [eF,eEx,eH,eS] at un
   have nC:∀ b o,s3.heap.get? b=some o→b≠s3.heap.objs.size:=fun b o e=>Nat.ne_of_lt (Heap.lt_size e)
   have hok6:HOk X.prog X.w (upd H4 s2.heap.objs.size (.lst ys)) s5.heap:=by
    have h5:=I5.hok
    rw [eP,eW] at h5
    have La:∀ b u,H4 b=some u→b≠s3.heap.objs.size:=fun b u e z=>by rw [z,hHC] at e;cases e
    intro b u e
    by_cases hb:b=s2.heap.objs.size
    ·subst hb
     rw [aj] at e;cases e
     exact ⟨hyl,its,nn,rv4,k56 _ _ hDne hDg⟩
    ·rw [aB hb] at e
     have nD:∀ c u,H4 c=some u→c≠s2.heap.objs.size:=fun c u e z=>by rw [z,dn4] at e;cases e
     refine (h5 b u e).stay (fun c v hc' q=>k56 c v ?_ q) (fun c q=>by rw [aB (nD c _ q)];exact q) fun c xs q=>by rw [aB (nD c _ q)];exact q
     rcases hc' with z | z
     ·rw [z];exact La b u e
     ·exact La c _ z
   have nD2:∀ c u,H4 c=some u→c≠s2.heap.objs.size:=fun c u e z=>by rw [z,dn4] at e;cases e
   have un6:Un (frs X.stack) (s2.heap.objs.size :: fp) H2 (upd H4 s2.heap.objs.size (.lst ys)) s3.heap s5.heap:=
    ⟨fun b o e nn' hb hx=>k56 b o (nC b o e) (un.keep b o e nn' hb hx),fun b o e nn' hb hx=>let ⟨sl,q⟩:=un.slot b o e nn' hb hx;⟨sl,k56 b _ (nC b o e) q⟩,
     fun b o e nn' hx=>by rw [aB (fun z=>hx (by rw [z];exact List.mem_cons_self))];exact un.free b o e nn' hx,
     fun b o e hx=>let ⟨o',q⟩:=un.there b o e hx;⟨o',k56 b o' (nC b o e) q⟩,
     fun b xs e=>by have q:=un.tups b xs e;rw [aB (nD2 b _ q)];exact q,
     fun b o u e=>by have q:=un.frzs b o u e;rw [aB (nD2 b _ q)];exact q,
     fun b ps e=>let ⟨more,q⟩:=un.tbls b ps e;⟨more,by rw [aB (nD2 b _ q)];exact q⟩⟩
   have I6:Inv X pins σ (upd H4 s2.heap.objs.size (.lst ys)) s5:=by
    refine I3.call' (s':=s5) (ch:=s2.heap.objs.size :: fp) ?_ un6 hok6 I5.bare fun b hb=>?_
    ·show s5.os=s3.os
     have:=I5.os
     rw [eS] at this
     exact this
    ·have q:lU X pins H2 b:=by
      rcases List.mem_cons.mp hb with rfl | z
      ·exact fD
      ·exact f2 b z
     obtain ⟨f0,f1,f2',f3,f4,f5⟩:=q
     exact ⟨f3,f1,f4,f5⟩
   have dC:upd H4 s2.heap.objs.size (.lst ys) s3.heap.objs.size=none:=by rw [aB (Ne.symm hDne)];exact hHC
   exact hend _ _ s5 _ m I6 (I3.fpOk (Nat.le_refl _) dC) hn (qn _ dn4)
  ·have hitem:=T.item XC eP eW eK eC i _ s4 _ H4 (fun _ _=>False) P4 (stat fr4) st4 go
   rw [eA] at hitem
   refine wpAny_mono hitem (fun r s5 ⟨u,hr,h5⟩=>?_) fun _ _ z=>z
   subst hr
   dsimp only
   refine wpAny_mono h5 (fun _ s6 ⟨x,H6,I6,r6,y6,st6,fr6⟩=>?_) fun _ _ z=>z
   have P6:=I6.pinned (stat fr6) (T.obj _ _ st6)
   rw [← eE,← eP,← eW,← eA]
   refine wpAny_mono (hgC _ s6 _ H6 x u _ P6 r6 (step x H6 y6)) (fun _ s7 ⟨σ7,H7,I7,kp7,q7⟩=>?_) fun _ _ z=>by rw [eX] at z;exact z
   refine wpAny_mono (htC _ s7 σ7 H7 _ I7 q7) (fun ok s8 ⟨H8,I8,q8⟩=>?_) fun _ _ z=>by rw [eX] at z;exact z
   have fin:∀ {H9:Hp} {s9:Shared},Inv XC ([(s2.heap.objs.size,({cls:=.type "list",data:=.seq its.toArray nn}:Obj))] ++ qX fp s6.heap) σ7 H9 s9→Inv XC [] (eU sub σ) H9 s9∧tn (i+1) s9.heap∧(∀ b∈fp,H9 b=none)∧H9 s2.heap.objs.size=none∧
     s9.heap.get? s2.heap.objs.size=some {cls:=.type "list",data:=.seq its.toArray nn}:=fun {H9 s9} J=>by
    have pD:=J.pin (s2.heap.objs.size,({cls:=.type "list",data:=.seq its.toArray nn}:Obj)) (by rw [ePn];simp)
    have pF:∀ b∈fp,∀ o,s6.heap.get? b=some o→s9.heap.get? b=some o∧H9 b=none:=fun b hb o e=>by
     have q:=J.pin (b,o) (by rw [ePn];exact List.mem_append_right _ (List.mem_append_right _ (mW hb e)))
     exact ⟨q.1,q.2.1⟩
    refine ⟨?_,T.keep _ _ _ st6 fun b hb o e=>(pF b hb o e).1,fun b hb=>?_,pD.2.1,pD.1⟩
    ·have J0:Inv XC [] σ7 H9 s9:=J.pins_of fun p hp=>nomatch hp
     exact J0.weak kp7.1.symm fun j v e=>kp7.2 j v e
    ·obtain ⟨o,e,_⟩:=T.obj _ _ st6 b hb
     exact (pF b hb o e).2
   cases ok with
   | false=>
    rw [if_neg (by simp)]
    rw [if_neg (by simp)] at q8
    obtain ⟨m',hm,w8⟩:=hN _ _ q8
    obtain ⟨a1,a2,a3,a4,a5⟩:=fin I8
    exact ⟨m',hm,i+1,ys,its,nn,H8,a1,a2,a3,a4,a5,rv4,w8⟩
   | true=>
    rw [if_pos rfl]
    rw [if_pos rfl] at q8
    refine wpAny_mono (heC _ s8 σ7 H8 _ I8 q8) (fun xv s9 ⟨y,H9,I9,r9,n9⟩=>?_) fun _ _ z=>by rw [eX] at z;exact z
    obtain ⟨m',hm,w9⟩:=hN _ _ n9
    obtain ⟨a1,a2,a3,a4,a5⟩:=fin I9
    refine wpAny_list_append_plain (items:=its.toArray) ⟨nn,a5⟩ (fun h' ⟨n',hp'⟩ sb=>?_) (by simp;rw [← rv4.length];omega)
    obtain ⟨q1,q2⟩:=I4.ok.exf s2.heap.objs.size (by rw [eEx];exact List.mem_cons_self)
    have a1':Inv XC [] (eU sub σ) H9 {s9 with heap:=h'}:=a1.turned (t':=s9.toks) (fun b o hb e=>(sb.2 b hb).trans e) a4 q1 (.inl (by rw [eEx];exact List.mem_cons_self)) q2 (fun p hp=>by rw [ePn] at hp;exact nomatch hp)
    refine ⟨m',hm,i+1,ys ++ [y],its ++ [xv],n',H9,a1',T.keep _ _ _ a2 fun b hb o e=>(sb.2 b (fun z=>hDfp (by rw [← z];exact hb))).trans e,a3,a4,?_,rv4.append (.cons r9 .nil),w9⟩
    rw [hp']
    simp
 subst hs3
 exact codeAny_compStart_list loop (T.self _ 0 _ _ _ (T.keep _ _ _ st2 fun b _ o e=>hk31 b o (k23 b o e)) loop)
theorem Be {N:List Str} {sc:Scope} {i:Nat} {x:Str} {pos' spos:Pos} (hNd:X.N.Nodup) (hxi:X.N[i]?=some x) (hx:Loc X.env.scope x) (hf:X.fn x=true) (S:rW N sc N' scope sub) (hc:X.calm=true) (hN:X.N=N) (hsc:X.env.scope=sc) (hi:PI X tg iter wi)
  (hg:∀ (C:Addr) (s₀:Shared) (H₀:Hp) (ex:List Addr),PG (pH X N' scope C s₀ H₀ ex) tg g)
  (ht:∀ (C:Addr) (s₀:Shared) (H₀:Hp) (ex:List Addr),wQ (pH X N' scope C s₀ H₀ ex) ifs tt)
  (he:∀ (C:Addr) (s₀:Shared) (H₀:Hp) (ex:List Addr),PE (pH X N' scope C s₀ H₀ ex) elt te)
  (hs:∀ x,foldedSetIterable iter X.env x=pure x):PS X (.Assign [.Name x pos'] (.ListComp elt [⟨tg,iter,ifs,0⟩] scope pos) spos) (wI (ur sub wi g tt te) (pL i)):=by
 intro pins s σ H D I h
 have hsw:∃ b,swapsWith (.ListComp elt [⟨tg,iter,ifs,0⟩] scope pos) (some (.Name x pos')) spos.line X.env=pure b:=⟨_,rfl⟩
 obtain ⟨b,hsw⟩:=hsw
 cases b with
 | false=>exact G6 hNd hxi hx (Cw S hc hN hsc hi hg ht he hs) hsw (.inl hf) pins s σ H D I h
 | true=>
  rw [exec_Assign_Name_used _ _ _ _ hsw]
  refine wpAny_bind (wpAny_standAt (wpAny_bind ?_))
  show wpAny _ X.A (do let _ ← comprehension (.ListComp elt [⟨tg,iter,ifs,0⟩] scope pos) scope X.env _ (newList []) false (eval iter X.env) (some (assign (.Name x pos') X.env))) _ _ s
  refine wpAny_bind (wpAny_mono (Iz (use:=some (assign (.Name x pos') X.env)) (R:=fun _ s'=>SP X pins D .next s') S hc hN hsc hi hg ht he hs pins s σ H _ I h ?_) (fun _ s' hq=>wpAny_pure (wpAny_pure hq)) fun _ _ e=>e)
  intro Da C s5 H5 m I5 fC hn q
  show wpAny _ X.A (assign (.Name x pos') X.env (.ref Da)) _ _ _
  refine wpAny_assign_Name (vC I5 hNd hxi hx (v:=.ref Da) rfl (fun s6 I6 qq0=>?_) (.inl hf))
  obtain ⟨a,sb,ha⟩:=qq0
  obtain ⟨f0,f1,f2,f3,f4,f5⟩:=fC
  have hCa:C≠a:=fun z=>by
   rcases ha with e | e
   ·exact f1 (z.trans e)
   ·exact f4 x a e z.symm
  exact ⟨m,hn.sameBut sb hCa,fun h' hs'=>⟨_,H5,I6.turned (t':=s6.toks) (fun b o hb e=>hs'.extBut b o hb e) f0 f1 f3 f4 f5,q⟩⟩
end
section
variable {X:Cx} {tg iter elt:Expr} {ifs:List Expr} {scope:Scope} {pos:Pos} {N':List Str} {sub:List (Option Nat)} {wi:TI} {g:TG} {tt:TT} {te:TE} {N:List Str} {sc:Scope}
theorem Nf {i:Nat} {x:Str} {pos' spos:Pos} (hNd:X.N.Nodup) (hxi:X.N[i]?=some x) (hx:Loc X.env.scope x) (S:rW N sc N' scope sub) (hc:X.calm=true) (hN:X.N=N) (hsc:X.env.scope=sc) (hi:JI X tg iter wi)
  (hg:∀ (C:Addr) (s₀:Shared) (H₀:Hp) (ex:List Addr),JG (pH X N' scope C s₀ H₀ ex) tg g)
  (ht:∀ (C:Addr) (s₀:Shared) (H₀:Hp) (ex:List Addr),MN (pH X N' scope C s₀ H₀ ex) ifs tt)
  (he:∀ (C:Addr) (s₀:Shared) (H₀:Hp) (ex:List Addr),JE (pH X N' scope C s₀ H₀ ex) elt te) (hf:X.fn x=true) (h:autoParam (rm iter=true) L2.auto4._auto_1):
  JS X (.Assign [.Name x pos'] (.ListComp elt [⟨tg,iter,ifs,0⟩] scope pos) spos) (wI (ur sub wi g tt te) (pL i)):=
 ⟨Be hNd hxi hx hf S hc hN hsc hi.run (fun C s₀ H₀ ex=>(hg C s₀ H₀ ex).run) (fun C s₀ H₀ ex=>(ht C s₀ H₀ ex).run) (fun C s₀ H₀ ex=>(he C s₀ H₀ ex).run) (Ie h)⟩
end
end L2
namespace L2
open PySem PySem.Spec PyProof.Rows
section
variable {X:Cx} {pins:List (Addr×Obj)} {σ:St} {H:Hp} {s:Shared}
theorem Inv.newtup {wr:List Addr} {T:Addr} {vals:Array Value} {xs:List V} {h'':Heap} {tk:Nat} (I:Inv X pins σ H s) (hf:∀ b∈wr,lU X pins H b) (hT:s.heap.objs.size≤T)
  (kall:∀ b o,b ∉ wr→s.heap.get? b=some o→h''.get? b=some o) (isT':h''.IsTuple T vals) (hv:Vals xs vals.toList) (hx:xs.length≤sizeLine):Inv X pins σ (upd H T (.tup xs)) {s with heap:=h'',toks:=tk}:=by
 have hTn:H T=none:=I.hok.fresh hT
 have nT:∀ b o,s.heap.get? b=some o→b≠T:=fun b o e=>Nat.ne_of_lt (Nat.lt_of_lt_of_le (Heap.lt_size e) hT)
 have nTH:∀ b u,H b=some u→b≠T:=fun b u e z=>by rw [z,hTn] at e;cases e
 have nW:∀ b u,H b=some u→b ∉ wr:=fun b u e hb=>by rw [(hf b hb).1] at e;cases e
 refine I.step (g':=s.gens) (d':=s.drawn) (ch:=wr) (fun b hb=>?_) (fun b o _ _ hc e _=>kall b o hc e) (fun b o _ _ hc e _=>⟨o.slots,kall b o hc e⟩) (fun b o _ e hn=>by rw [aB (nT b o e)];exact hn)
  (fun b o hc e=>⟨o,kall b o hc e⟩) (fun b ys e=>by rw [aB (nTH b _ e)];exact e) (fun b o u e=>by rw [aB (nTH b _ e)];exact e) (fun b ps e=>⟨#[],by rw [aB (nTH b _ e),e];simp⟩) (fun m hm=>?_) (fun b u e=>?_) I.bare
 ·obtain ⟨f0,f1,f2,f3,f4,f5⟩:=hf b hb
  exact ⟨f3,f1,f4,f5⟩
 ·obtain ⟨o,es,ep,ho,r⟩:=hm
  exact ⟨o,es,ep,kall _ o (fun hb=>(hf _ hb).2.1 rfl) ho,r⟩
 ·by_cases hb:b=T
  ·subst hb
   rw [aj] at e;cases e
   obtain ⟨o,ho,hcl,nn,hd⟩:=isT'
   exact ⟨hx,vals.toList,hv,o,ho,hcl,nn,by simpa using hd⟩
  ·rw [aB hb] at e
   refine (I.hok b u e).stay (fun c v hc' q=>kall c v ?_ q) (fun c q=>by rw [aB (nTH c _ q)];exact q) fun c ys q=>by rw [aB (nTH c _ q)];exact q
   rcases hc' with z | z
   ·rw [z];exact nW b u e
   ·exact nW c _ z
theorem Inv.only {wr:List Addr} {h':Heap} {tk:Nat} (I:Inv X pins σ H s) (hf:∀ b∈wr,lU X pins H b) (kk:∀ b o,b ∉ wr→s.heap.get? b=some o→h'.get? b=some o):Inv X pins σ H {s with heap:=h',toks:=tk}:=by
 have nW:∀ b u,H b=some u→b ∉ wr:=fun b u e hb=>by rw [(hf b hb).1] at e;cases e
 refine I.step (g':=s.gens) (d':=s.drawn) (ch:=wr) (fun b hb=>?_) (fun b o _ _ hc e _=>kk b o hc e) (fun b o _ _ hc e _=>⟨o.slots,kk b o hc e⟩) (fun b o _ e hn=>hn)
   (fun b o hc e=>⟨o,kk b o hc e⟩) (fun b ys e=>e) (fun b o u e=>e) (fun b ps e=>⟨#[],by rw [e];simp⟩) (fun m hm=>?_) (fun b u e=>?_) I.bare
 ·obtain ⟨f0,f1,f2,f3,f4,f5⟩:=hf b hb
  exact ⟨f3,f1,f4,f5⟩
 ·obtain ⟨o,es,ep,ho,r⟩:=hm
  exact ⟨o,es,ep,kk _ o (fun hb=>(hf _ hb).2.1 rfl) ho,r⟩
 ·refine (I.hok b u e).stay (fun c v hc' q=>kk c v ?_ q) (fun c q=>q) fun c ys q=>q
  rcases hc' with z | z
  ·rw [z];exact nW b u e
  ·exact nW c _ z
end
def Vt (K:PySem.W.Frag) (a:Addr):It:=
 ⟨fun i H=>∃ xs x,SqL K H a xs∧xs[i]?=some x,
  fun i H v H'=>∃ T x,H T=none∧v= .ref T∧(∀ xs,SqL K H a xs→xs[i]?=some x)∧H'=upd H T (.tup [.int i,x]),
  fun i H=>∃ xs,SqL K H a xs∧xs.length≤i⟩
theorem Bf {P:Program} {w:World} {K:PySem.W.Frag} {elts:List Expr} {k:Nat} {pos:Pos} {e it a:Addr} (hne:e≠it):
  Turn P w K (.Tuple elts k pos) (Vt K a) [e,it] e (fun i h=>(∃ old,IsEnum h e it i old)∧h.IsListIter it a i) where
 mem:=by simp
 obj:=fun i h st c hc=>by
  obtain ⟨⟨old,he⟩,⟨o1,e1,c1,d1⟩⟩:=st
  simp only [List.mem_cons,List.mem_nil_iff,or_false] at hc
  rcases hc with rfl | rfl
  ·exact ⟨_,he,fun v z=>by cases z⟩
  ·exact ⟨_,e1,fun v z=>by rw [d1] at z;cases z⟩
 keep:=fun i h h' st kk=>by
  obtain ⟨⟨old,he⟩,h1⟩:=st
  exact ⟨⟨old,kk e (by simp) _ he⟩,h1.at fun o q=>kk it (by simp) o q⟩
 item:=by
  intro X hP hw hK hc i pins s σ H E I hf st hg
  subst hP hw hK
  obtain ⟨⟨old,he⟩,h1⟩:=st
  obtain ⟨xs,x,hq,hx⟩:=hg
  obtain ⟨its,rv,p,_⟩:=I.list hq
  obtain ⟨u,hu,ru⟩:=rv.get hx
  refine wpAny_pyNext_enum_item he h1 p.isList (x:=u) (by simpa using hu) hne fun h' a1 a2 a3 a4 hk=>?_
  refine ⟨_,rfl,wpAny_letOwnedTupleGo_enum a1 fun h'' a1' sb=>?_⟩
  have lt:∀ {c o},s.heap.get? c=some o→s.heap.objs.size≠c:=fun e=>Nat.ne_of_gt (Heap.lt_size e)
  have lti:s.heap.objs.size≠it:=by obtain ⟨o,q,_⟩:=h1;exact lt q
  have isT:h''.IsTuple s.heap.objs.size #[.int i s.toks,u]:=⟨_,sb.extBut _ _ (lt he) a3,rfl,_,rfl⟩
  have kall:∀ b o,b ∉ [e,it]→s.heap.get? b=some o→h''.get? b=some o:=fun b o hb q=>by
   simp only [List.mem_cons,List.mem_nil_iff,or_false,not_or] at hb
   exact sb.extBut _ _ hb.1 (hk b o hb.1 hb.2 q)
  have hTn:H s.heap.objs.size=none:=I.hok.fresh (Nat.le_refl _)
  refine ⟨.ref s.heap.objs.size,_,I.newtup (tk:=s.toks+1) hf (Nat.le_refl _) kall isT (xs:=[.int i,x]) (.cons ⟨_,rfl⟩ (.cons ru .nil)) (by simp;decide),rfl,⟨_,x,hTn,rfl,fun zs hs=>by rw [I.list_inj hs hq];exact hx,rfl⟩,?_,fun b hb=>?_⟩
  ·exact ⟨⟨_,a1'⟩,a2.extBut sb.extBut (Ne.symm hne)⟩
  ·have:s.heap.objs.size≠b:=by
    simp only [List.mem_cons,List.mem_nil_iff,or_false] at hb
    rcases hb with rfl | rfl
    ·exact lt he
    ·exact lti
   rw [aB (Ne.symm this)]
   exact (hf b hb).1
 done:=by
  intro X hP hw hK hc i pins s σ H E I hf st hg
  subst hP hw hK
  obtain ⟨⟨old,he⟩,h1⟩:=st
  obtain ⟨xs,hq,hx⟩:=hg
  obtain ⟨its,rv,p,_⟩:=I.list hq
  have l1:=rv.length
  refine wpAny_pyNext_enum_end (I.ok.hd hc) he h1 p.isList (by simp;omega) fun h' hk=>⟨rfl,I.only (tk:=s.toks) hf fun b o hb q=>?_⟩
  simp only [List.mem_cons,List.mem_nil_iff,or_false,not_or] at hb
  exact hk b o hb.2 q
 self:=fun _ _ _ _ _ st h=>let ⟨⟨_,he⟩,_⟩:=st;wpAny_pyIter_enum he h
theorem Ew {X:Cx} {elts:List Expr} {k:Nat} {tp:Pos} {pins:List (Addr×Obj)} {σ:St} {H1:Hp} {s1:Shared} {x:Str} {t:Tok} {R:It→Hp→Prop} (hc:X.calm=true) (I1:Inv X pins σ H1 s1) (q:R (YS (yS x) x.cps.size) H1):
  wpAny (model X.prog X.w) X.A (call (.type "enumerate") [.str x t]) (fun v s1=>wpAny (model X.prog X.w) X.A (pyIter v) (PIE X pins σ (.Tuple elts k tp) R) X.xe s1) X.xe s1:=by
 refine call_enumerate_str fun h' he hit hsz hk=>?_
 have J1:Inv X pins σ H1 {s1 with heap:=h'}:=I1.kept (t':=s1.toks) hk
 have ne1:s1.heap.objs.size+1≠s1.heap.objs.size:=Nat.succ_ne_self _
 have nm:s1.heap.objs.size+1 ∉ [s1.heap.objs.size]:=fun z=>ne1 (List.mem_singleton.mp z)
 have hPt:∀ (i:Nat) (vals:Array Value),(∃ t y,SignAt x i y∧vals= #[.int i t,y])→Vals (yS x i) vals.toList:=by
  rintro i vals ⟨t,y,⟨c,u,e1,rfl⟩,rfl⟩
  refine .cons ⟨t,rfl⟩ (.cons ⟨u,?_⟩ .nil)
  rw [show x.cps.getD i 0=c by simp [Array.getD_eq_getD_getElem?,e1]]
 have fin:∀ (ty:String) (Dr:∀ A:Around,A.handled=none→Draws X.prog X.w A s1.heap.objs.size [s1.heap.objs.size] x.cps.size (SignAt x) fun i h=>h.IsStrIter s1.heap.objs.size ty x t i),h'.IsStrIter s1.heap.objs.size ty x t 0→
   wpAny (model X.prog X.w) X.A (pyIter (.ref (s1.heap.objs.size+1))) (PIE X pins σ (.Tuple elts k tp) R) X.xe {s1 with heap:=h'}:=by
  intro ty Dr hit'
  have W:∀ A:Around,A.handled=none→WalksT X.prog X.w A (s1.heap.objs.size+1) [s1.heap.objs.size+1,s1.heap.objs.size] [s1.heap.objs.size+1,s1.heap.objs.size] x.cps.size
    (fun i vals=>∃ t y,SignAt x i y∧vals= #[.int i t,y]) (fun i h=>(∃ old,IsEnum h (s1.heap.objs.size+1) s1.heap.objs.size i old)∧h.IsStrIter s1.heap.objs.size ty x t i)
    (fun i T h=>(∃ y,IsEnumOut h (s1.heap.objs.size+1) s1.heap.objs.size ((i:Int)+1) y T)∧h.IsStrIter s1.heap.objs.size ty x t (i+1)∧T≠s1.heap.objs.size+1∧T≠s1.heap.objs.size):=
   fun A hA=>WalksT.enumerateD (Dr A.in1 hA) (s1.heap.objs.size+1) ne1 nm (by simp)
  have hself:∀ (A:Around) (i:Nat) (s:Shared) (Q:Value→Shared→Prop) (E:Value→Shared→Prop),((∃ old,IsEnum s.heap (s1.heap.objs.size+1) s1.heap.objs.size i old)∧s.heap.IsStrIter s1.heap.objs.size ty x t i)→Q (.ref (s1.heap.objs.size+1)) s→wpAny (model X.prog X.w) A (pyIter (.ref (s1.heap.objs.size+1))) Q E s:=by
   rintro A i s Q E ⟨⟨old,he⟩,_⟩ hQ
   exact wpAny_pyIter_enum he hQ
  refine hself _ 0 _ _ _ ⟨⟨_,he⟩,hit'⟩ ?_
  refine ⟨s1.heap.objs.size+1,[s1.heap.objs.size+1,s1.heap.objs.size],_,_,H1,rfl,J1,SN W (fun i=>by simp [yS];decide) hPt (by simp) ?_ hself,⟨⟨_,he⟩,hit'⟩,fun b hb=>?_,q⟩
  ·rintro i h ⟨⟨old,he⟩,o,ho,hcl,hd⟩ b hb
   rcases List.mem_cons.mp hb with rfl | hb
   ·exact ⟨_,he,fun v z=>by cases z⟩
   ·rw [List.mem_singleton.mp hb]
    exact ⟨o,ho,fun v z=>by rw [hd] at z;cases z⟩
  ·have hb':s1.heap.objs.size≤b:=by
    rcases List.mem_cons.mp hb with rfl | hb
    ·exact Nat.le_succ _
    ·rw [List.mem_singleton.mp hb];exact Nat.le_refl _
   exact I1.fpOk hb' (I1.hok.fresh hb')
 cases hx:x.cps.all (· < 128)
 ·exact fin "str_iterator" (fun A hA=>Draws.strWide hA _ x t) (by simpa [strIterType,hx] using hit)
 ·exact fin "str_ascii_iterator" (fun A hA=>Draws.strAscii hA _ x t) (by simpa [strIterType,hx] using hit)
def QB (K:PySem.W.Frag) (ta:TA):TI:=fun σ H R=>ta σ H fun vs H1=>(∃ x:Str,vs=[.str x]∧R (YS (yS x) x.cps.size) H1)∨∃ a xs,vs=[.ref a]∧SqL K H1 a xs∧R (Vt K a) H1
theorem w6 {X:Cx} {K:PySem.W.Frag} {a:Expr} {ta:TA} {elts:List Expr} {k:Nat} {tp p pos:Pos} (hK:X.K=K) (hc:X.calm=true) (hg:Gl X "enumerate") (hm:X.mg "enumerate"=none) (ha:JA X [a] ta) (h:autoParam (notStar a=true) L2.auto4._auto_1):
  JI X (.Tuple elts k tp) (.Call (.Name "enumerate" p) [a] [] pos) (QB K ta):=⟨by
 subst hK
 intro pins s σ H R I hq
 refine Call_ (jz I hg hm wW (PyProof.Rows.callWith_type1 (fJ (ha.run pos pins s σ H _ I hq) fun us s1 qq0=>?_) (cA h) rfl))
 obtain ⟨vs,H1,I1,r1,q1⟩:=qq0
 rcases q1 with ⟨x,e,q⟩ | ⟨l,xs,e,hl,q⟩
 ·subst e
  obtain ⟨u,rfl,t,rfl⟩:=vals1 r1
  exact Ew hc I1 q
 ·subst e
  obtain ⟨u,rfl,ru⟩:=vals1 r1
  cases ru
  obtain ⟨its,rv,p1,_⟩:=I1.list hl
  refine call_enumerate_list p1.isList fun h' z1 z2 z3 hk=>?_
  have J1:Inv X pins σ H1 {s1 with heap:=h'}:=I1.kept (t':=s1.toks) hk
  refine wpAny_pyIter_enum z1 ?_
  refine ⟨s1.heap.objs.size+1,_,_,_,H1,rfl,J1,Bf (Nat.succ_ne_self _),⟨⟨_,z1⟩,z2⟩,fun b hb=>?_,q⟩
  have hb':s1.heap.objs.size≤b:=by
   simp only [List.mem_cons,List.mem_nil_iff,or_false] at hb
   have key:∀ n c:Nat,(c=n+1∨c=n)→n≤c:=fun n c h=>by omega
   exact key _ _ hb
  exact I1.fpOk hb' (I1.hok.fresh hb')⟩
end L2
namespace L2
open PySem PySem.Spec PyProof.Rows PySem.SeqAt
mutual
def DR (H:Hp):PyData→V→Prop
 | .none,v=>v= .non
 | .bool b,v=>v= .bl b
 | .int n,v=>v= .int n
 | .str x,v=>v= .str x
 | .list ds,v=>∃ a vs,v= .ref a∧H a=some (.lst vs)∧DRs H ds vs
 | .tuple ds,v=>∃ a vs,v= .ref a∧H a=some (.tup vs)∧DRs H ds vs
 | .dict _,_=>False
def DRs (H:Hp):List PyData→List V→Prop
 | [],vs=>vs=[]
 | d :: ds,vs=>∃ v r,vs=v :: r∧DR H d v∧DRs H ds r
end
mutual
theorem DR.reads {P:Program} {w:World} {H:Hp} {h:Heap} (ok:HOk P w H h):∀ (d:PyData) (v:V) (u:Value),DR H d v→RelV v u→∃ as,Reads h u d as
 | .none,_,u,q,r=>by rw [DR] at q;subst q;cases r;exact ⟨_,.none⟩
 | .bool b,_,u,q,r=>by rw [DR] at q;subst q;cases r;exact ⟨_,.bool _⟩
 | .int n,_,u,q,r=>by rw [DR] at q;subst q;obtain ⟨t,rfl⟩:=r;exact ⟨_,.int _ _⟩
 | .str n,_,u,q,r=>by rw [DR] at q;subst q;obtain ⟨t,rfl⟩:=r;exact ⟨_,.str _ _⟩
 | .list ds,v,u,q,r=>by
  rw [DR] at q
  obtain ⟨a,vs,rfl,e,t⟩:=q
  cases r
  obtain ⟨_,its,n,rv,g⟩:=ok a _ e
  obtain ⟨as,ra⟩:=DRs.reads ok ds vs its t rv
  exact ⟨_,.list g rfl rfl (by simpa using ra)⟩
 | .tuple ds,v,u,q,r=>by
  rw [DR] at q
  obtain ⟨a,vs,rfl,e,t⟩:=q
  cases r
  obtain ⟨_,its,rv,g⟩:=ok a _ e
  obtain ⟨as,ra⟩:=DRs.reads ok ds vs its t rv
  obtain ⟨o,ho,hc,n,hd⟩:=g
  exact ⟨_,.tuple ho hc hd (by simpa using ra)⟩
 | .dict _,_,_,q,_=>by rw [DR] at q;exact q.elim
theorem DRs.reads {P:Program} {w:World} {H:Hp} {h:Heap} (ok:HOk P w H h):∀ (ds:List PyData) (vs:List V) (us:List Value),DRs H ds vs→Vals vs us→∃ as,ReadsAll h us ds as
 | [],_,us,q,r=>by rw [DRs] at q;subst q;cases r;exact ⟨_,.nil⟩
 | d :: ds,_,us,q,r=>by
  rw [DRs] at q
  obtain ⟨v,r',rfl,q1,q2⟩:=q
  cases r with
  | cons a b=>
   obtain ⟨as,h1⟩:=DR.reads ok d v _ q1 a
   obtain ⟨bs,h2⟩:=DRs.reads ok ds r' _ q2 b
   exact ⟨_,.cons h1 h2⟩
end
def Wt:R2:=fun x y H Q=>∃ d e,DR H d x∧DR H e y∧shaped d=true∧shaped e=true∧Q (.bl (PyData.eqv d e)) H
def Wu:R2:=fun x y H Q=>∃ d e,DR H d x∧DR H e y∧shaped d=true∧shaped e=true∧Q (.bl (!PyData.eqv d e)) H
section
variable {X:Cx}
theorem SX (hu:X.A.units+64 < cLine):OpR X (compareOp .Eq) Wt:=by
 intro pins s σ H x y v u Q I rx ry h
 obtain ⟨d,e,h1,h2,h3,h4,q⟩:=h
 obtain ⟨as,r1⟩:=DR.reads I.hok d x v h1 rx
 obtain ⟨bs,r2⟩:=DR.reads I.hok e y u h2 ry
 exact eq_dataH r1 r2 h3 h4 hu ⟨.bl _,H,I,rfl,q⟩
theorem Tc (hu:X.A.units+64 < cLine):OpR X (compareOp .NotEq) Wu:=by
 intro pins s σ H x y v u Q I rx ry h
 obtain ⟨d,e,h1,h2,h3,h4,q⟩:=h
 obtain ⟨as,r1⟩:=DR.reads I.hok d x v h1 rx
 obtain ⟨bs,r2⟩:=DR.reads I.hok e y u h2 ry
 exact ne_dataH r1 r2 h3 h4 hu ⟨.bl _,H,I,rfl,q⟩
def Ng (K:PySem.W.Frag):R2:=fun x y H Q=>Sg K x y H Q∨Wt x y H Q
def Nh (K:PySem.W.Frag):R2:=fun x y H Q=>Ws K x y H Q∨Wu x y H Q
theorem Td {K:PySem.W.Frag} (hK:X.K=K) (hu:X.A.units+64 < cLine):OpR X (compareOp .Eq) (Ng K):=(Su hK (Nat.lt_of_le_of_lt (Nat.le_add_right _ _) hu)).or (SX hu)
theorem xf {K:PySem.W.Frag} (hK:X.K=K) (hu:X.A.units+64 < cLine):OpR X (compareOp .NotEq) (Nh K):=(SQ hK hu).or (Tc hu)
end
section
variable {H:Hp} {Q:VK} {K:PySem.W.Frag} {σ:St}
theorem cC {i j:Int} (h:Q (.bl (decide (V.int i=V.int j))) H):Ng K (.int i) (.int j) H Q:=.inl (.inl ⟨rfl,h⟩)
theorem cF {i j:Str} (h:Q (.bl (decide (V.str i=V.str j))) H):Ng K (.str i) (.str j) H Q:=.inl (.inl ⟨rfl,h⟩)
theorem cG {i j:Int} (h:Q (.bl (!decide (V.int i=V.int j))) H):Nh K (.int i) (.int j) H Q:=.inl (.inl ⟨rfl,h⟩)
theorem cH {i j:Str} (h:Q (.bl (!decide (V.str i=V.str j))) H):Nh K (.str i) (.str j) H Q:=.inl (.inl ⟨rfl,h⟩)
theorem bG {a:TA} {R:It→Hp→Prop} (h:a σ H fun vs H1=>(∃ x:Str,vs=[.str x]∧R (YS (yS x) x.cps.size) H1)∨∃ a xs,vs=[.ref a]∧SqL K H1 a xs∧R (Vt K a) H1):QB K a σ H R:=h
theorem rz {a:Addr} {xs:List V} {g:TG} {tb:TS} {D:Ends} (Pv:Nat→St→Hp→Prop) (h0:Pv 0 σ H) (hq:∀ i σ H,i≤xs.length→Pv i σ H→SqL K H a xs)
  (hs:∀ i σ H T x,xs[i]?=some x→Pv i σ H→H T=none→g (.ref T) σ (upd H T (.tup [.int i,x])) fun σ2 H2=>tb {D with nx:=Pv (i+1),ct:=Pv (i+1),bk:=D.nx} σ2 H2) (hd:∀ σ H,Pv xs.length σ H→D.nx σ H):
  ∃ W:Nat→Nat→St→Hp→Prop,(∃ m,W 0 m σ H)∧∀ i m σ H,W i m σ H→
   ((Vt K a).stop i H∧D.nx σ H)∨((Vt K a).go i H∧∃ N:St→Hp→Prop,(∀ σ' H',N σ' H'→∃ m',m' < m∧W (i+1) m' σ' H')∧∀ x H',(Vt K a).yld i H x H'→g x σ H' fun σ2 H2=>tb {D with nx:=N,ct:=N,bk:=D.nx} σ2 H2):=by
 refine ⟨fun i m σ H=>m=xs.length - i∧i≤xs.length∧Pv i σ H,⟨xs.length,by simp,Nat.zero_le _,h0⟩,?_⟩
 rintro i m σ H ⟨rfl,hi,p⟩
 have q1:=hq i σ H hi p
 by_cases hlt:i < xs.length
 ·refine .inr ⟨⟨xs,xs[i],q1,List.getElem?_eq_getElem hlt⟩,Pv (i+1),fun σ' H' p'=>⟨xs.length - (i+1),by omega,rfl,hlt,p'⟩,fun x H' y=>?_⟩
  obtain ⟨T,u,hT,e1,e2,e4⟩:=y
  subst e1 e4
  exact hs i σ H T u (e2 xs q1) p hT
 ·have e:i=xs.length:=by omega
  subst e
  exact .inl ⟨⟨xs,q1,Nat.le_refl _⟩,hd σ H p⟩
end
end L2
namespace L2
open PySem PySem.Spec PyProof.Rows
theorem IK:typeLookup (.type "list_reverseiterator") "__len__"=pure none:=by rw [typeLookup_type,builtinLookup_eq_fast];kernel_rfl
theorem Ex:typeLookup (.type "list_reverseiterator") "__length_hint__"=pure (some (.builtin "list_reverseiterator.__length_hint__")):=by rw [typeLookup_type,builtinLookup_eq_fast];kernel_rfl
section
variable {prog:Program} {w:World} {A:Around} {E:Value→Shared→Prop} {s:Shared}
theorem IV {it l:Addr} {i:Int} {Q:Bool→Shared→Prop} (hit:s.heap.IsRevIter it l i) (h:Q false s):wpAny (model prog w) A (Builtin.List.listLengthHint (.ref it)) Q E s:=by
 unfold Builtin.List.listLengthHint
 refine wpAny_bind (wpAny_specialOf hit.typeIs IK ?_)
 show wpAny _ _ (specialOf (Value.ref it) (Str.ofString "__length_hint__") >>=_) _ _ _
 refine wpAny_bind (wpAny_specialOf hit.typeIs Ex ?_)
 generalize hid:("list_reverseiterator.__length_hint__":String)=id0
 wp_delta
 rw [show splitId id0=some ("list_reverseiterator","__length_hint__") from by subst hid;decide+kernel]
 subst hid
 refine wpAny_bind (wpAny_isInstance (T:="list_reverseiterator") (b:=true) hit.typeIs (by rw [isSubtype_type];kernel_rfl) ?_)
 refine wpAny_ite_split (fun hab=>absurd hab (by decide)) (fun _=>?_)
 refine wpAny_ite_split (fun _=>?_) (fun hab=>absurd (by decide+kernel) hab)
 refine wpAny_ite_split (fun hab=>absurd hab (by decide+kernel)) (fun _=>?_)
 exact wpAny_pure h
theorem IW {it l:Addr} {items:Array Value} {Q:Value→Shared→Prop} (hh:A.handled=none) (hit:s.heap.IsRevIter it l ((items.size:Int) - 1)) (hl:s.heap.IsList l items) (hne:l≠it) (hn:items.size≤sizeLine)
  (hQ:∀ h' tk acc' c',(∀ b o,b≠it→s.heap.get? b=some o→h'.get? b=some o)→h'.get? s.heap.objs.size=some {cls:=.type "list",dict:=none,data:=.seq acc' c',slots:=#[]}→
   ItemsOf (fun i v=>items[items.size - 1 - i]?=some v) acc' items.size→Q (.ref s.heap.objs.size) {s with heap:=h',toks:=tk}):
  wpAny (model prog w) A (call (.type "list") [.ref it]) Q E s:=by
 refine callType_codes (Q₁:=fun obj s₁=>obj= .ref s.heap.objs.size∧s₁={s with heap:=s.heap.push {cls:=.type "list",data:=.seq #[]}}) F.called_list (F.typeCall_list_1 _) F.entry_list_init
  (code_list_new _ ⟨rfl,rfl⟩) fun obj s₁ h₁=>?_
 obtain ⟨rfl,rfl⟩:=h₁
 have iti:it < s.heap.objs.size:=by obtain ⟨o,e,_⟩:=hit;exact Heap.lt_size e
 have itl:l < s.heap.objs.size:=by obtain ⟨o,e,_⟩:=hl;exact Heap.lt_size e
 generalize hS0:s.heap.objs.size=S at iti itl hQ
 have hS:(s.heap.push {cls:=.type "list",data:=.seq #[]}).get? S=some {cls:=.type "list",data:=.seq #[]}:=by rw [← hS0];exact Heap.get?_push_size _ rfl
 have kp:∀ b o,s.heap.get? b=some o→(s.heap.push {cls:=.type "list",data:=.seq #[]}).get? b=some o:=fun b o e=>Heap.get?_push_of_some _ e
 generalize s.heap.push {cls:=.type "list",data:=.seq #[]}=h1 at hS kp
 have hit1:h1.IsRevIter it l ((items.size:Int) - 1):=hit.at fun o e=>kp it o e
 have hl1:h1.IsList l items:=hl.at fun o e=>kp l o e
 refine ⟨⟨_,hS,rfl⟩,F.args_list_init_2 _ _,?_⟩
 have nSi:S≠it:=Nat.ne_of_gt iti
 have nSl:S≠l:=Nat.ne_of_gt itl
 have hSf:S ∉ [it,l]:=by simp [nSi,nSl]
 have W:=(Walks.listRev (prog:=prog) (w:=w) (A:=A.in1.in1) hh it l hne items).toS
 show wpAny _ A.in1.in1 (do let old ← Builtin.List.listItems (.ref S);Builtin.List.listUpdate (.ref S) (fun _=>#[]);letGo old.toList.reverse;Builtin.List.listExtendWith (.ref S) (.ref it) .none) _ _ _
 unfold Builtin.List.listItems
 refine wpAny_bind (wpAny_bind (wpAny_seqItems hS rfl (wpAny_pure ?_)))
 show wpAny _ A.in1.in1 (updateSeq S (fun _=>#[]) >>=fun _=>letGo (#[]:Array Value).toList.reverse >>=fun _=>Builtin.List.listExtendWith (.ref S) (.ref it) .none) _ _ _
 refine wpAny_bind (wpAny_updateSeq hS rfl ?_)
 have hS2:=Heap.get?_update_self (Obj.mapSeq (fun _=>(#[]:Array Value))) hS rfl
 have k2:∀ b o,b≠S→h1.get? b=some o→(h1.update S (Obj.mapSeq (fun _=>(#[]:Array Value)))).get? b=some o:=fun b o hb e=>(Heap.get?_update_other _ _ (Ne.symm hb)).trans e
 generalize h1.update S (Obj.mapSeq (fun _=>(#[]:Array Value)))=h2 at hS2 k2
 have hit2:=hit1.at (h':=h2) fun o e=>k2 it o (Ne.symm nSi) e
 have hl2:=hl1.at (h':=h2) fun o e=>k2 l o (Ne.symm nSl) e
 refine wpAny_bind (wpAny_letGo ?_)
 unfold Builtin.List.listExtendWith
 refine wpAny_bind (wpAny_typeOf (T:="list_reverseiterator") (Heap.IsRevIter.typeIs (s:={s with heap:=h2}) hit2) ?_)
 have e1:Builtin.List.listSameRef (.ref S) (.ref it)=false:=by simp [Builtin.List.listSameRef,nSi]
 have e2:(Value.type "list_reverseiterator" == Value.type "list")=false:=by decide
 have e3:(Value.type "list_reverseiterator" == Value.type "tuple")=false:=by decide
 simp only [e1,e2,e3,Bool.or_false,Bool.false_eq_true,if_false]
 refine wpAny_bind (wpAny_pyIter_revIter (s:={s with heap:=h2}) hit2 ?_)
 refine wpAny_bind (wpAny_holding (IV (s:={s with heap:=h2}) hit2 ?_))
 refine wpAny_ite_split (fun hab=>absurd hab (by decide+kernel)) (fun _=>?_)
 refine wpAny_pure ⟨plainId_quiet F.plain_extend_loop _,?_⟩
 refine codeAny_extend_loopS W hn S hSf .none items.size 0 _ #[] _ rfl (Nat.zero_le _) ⟨Nat.zero_le _,by simpa using hit2,hl2⟩ hS2 (ItemsOf.nil _) fun s' acc' c' hm hS' hacc=>?_
 rw [Moved.eq_with hm]
 refine ⟨rfl,hQ s'.heap s'.toks acc' c' (fun b o hb e=>hm.heap b o (fun hmem=>?_) (k2 b o (fun z=>?_) (kp b o e))) hS' hacc⟩
 ·rcases List.mem_cons.mp hmem with e' | hmem
  ·exact absurd (Heap.lt_size e) (by rw [e',hS0];exact Nat.lt_irrefl _)
  ·exact hb (List.mem_singleton.mp hmem)
 ·exact absurd (Heap.lt_size e) (by rw [z,hS0];exact Nat.lt_irrefl _)
end
end L2
namespace L2
open PySem PySem.Spec PyProof.Rows
section
variable {X:Cx} {K:PySem.W.Frag} {a b c e:Expr} {ta tb tc te:TE} {pos p p2 p3:Pos}
theorem Ni {op op':CmpOp} {r r':R2} (ho:OpR X (compareOp op) r) (ho':OpR X (compareOp op') r') (ha:JE X a ta) (hb:JE X b tb) (hc:JE X c tc) (hm:autoParam (lastMarks [op,op'] [b,c]=false) L2.auto5._auto_1):
  JE X (.Compare a [op,op'] [b,c] pos) (t8 r r' ta tb tc):=⟨Hj ho ho' ha.run hb.run hc.run hm⟩
theorem Ja {op op':CmpOp} {r r':R2} (ho:OpR X (compareOp op) r) (ho':OpR X (compareOp op') r') (ha:JE X a ta) (hb:JE X b tb) (hc:JE X c tc) (hm:autoParam (lastMarks [op,op'] [b,c]=false) L2.auto5._auto_1):
  JT X (.Compare a [op,op'] [b,c] pos) (vD (t8 r r' ta tb tc)):=⟨Hk ho ho' ha.run hb.run hc.run hm⟩
theorem arg1 {Q:List Value→Shared→Prop} {E:Value→Shared→Prop} {s:Shared} (hs:notStar e=true) (h:wpAny (model X.prog X.w) X.A (eval e X.env) (fun u s1=>Q [u] s1) E s):wpAny (model X.prog X.w) X.A (spliced (backTo pos (starEach [e] X.env))) Q E s:=by
 rw [cA hs]
 show wpAny _ _ (spliced ((false,eval e X.env) :: backTo pos (starEach [] X.env))) _ _ s
 exact Calls.spliced_cons (wpAny_mono h (fun u s1 q=>Calls.spliced_nil q) fun _ _ z=>z)
def Jb (K:PySem.W.Frag) (ta:TE):TE:=fun σ H Q=>ta σ H fun x H1=>∃ l xs,x= .ref l∧SqL K H1 l xs∧∀ q,H1 q=none→Q (.ref q) (upd H1 q (.lst xs.reverse))
theorem Ey (hK:X.K=K) (hc:X.calm=true) (hg:Gl X "list") (hm:X.mg "list"=none) (hg2:Gl X "reversed") (hm2:X.mg "reversed"=none) (ha:JE X a ta) (h:autoParam (notStar a=true) L2.auto4._auto_1):
  JE X (.Call (.Name "list" p) [.Call (.Name "reversed" p2) [a] [] p3] [] pos) (Jb K ta):=⟨by
 subst hK
 intro pins s σ H Q I hq
 refine wpAny_Call_Name_kw (jz I hg hm j7 (PyProof.Rows.callWith_type1 (arg1 rfl (wpAny_Call_Name_kw (jz I hg2 hm2 yO (PyProof.Rows.callWith_type1 (arg1 h (fJ (ha.run pins s σ H _ I hq) fun u s1 qq0=>?_)) (cA h) rfl)))) rfl rfl))
 obtain ⟨x,H1,I1,rx,l,xs,ex,hx,q⟩:=qq0
 subst ex
 cases rx
 obtain ⟨its,r,ht,hz⟩:=I1.list hx
 have hlen:=r.length
 refine call_reversed_list ht.isList ?_
 have lt:l < s1.heap.objs.size:=by obtain ⟨o,ho,_⟩:=ht.isList;exact Heap.lt_size ho
 have e0:(s1.heap.push (PySem.revObj l ((its.toArray.size:Int) - 1))).get? s1.heap.objs.size=some (PySem.revObj l ((its.toArray.size:Int) - 1)):=Heap.get?_push_size _ rfl
 have k0:∀ b o,s1.heap.get? b=some o→(s1.heap.push (PySem.revObj l ((its.toArray.size:Int) - 1))).get? b=some o:=fun b o q=>Heap.get?_push_of_some _ q
 have s0:(s1.heap.push (PySem.revObj l ((its.toArray.size:Int) - 1))).objs.size=s1.heap.objs.size+1:=Heap.size_push ..
 refine IW (it:=s1.heap.objs.size) (l:=l) (I1.ok.hd hc) ⟨_,e0,rfl,rfl⟩ (ht.isList.at fun o q=>k0 l o q) (Nat.ne_of_lt lt) (by simp;omega) fun h' tk acc' c' hk hS hacc=>?_
 have eacc:acc'.toList=its.reverse:=by
  apply List.ext_getElem?
  intro i
  have a1:acc'.size=its.length:=by have:=hacc.1;simpa using this
  by_cases hi:i < its.length
  ·have hi':i < acc'.size:=by omega
   have a2:=hacc.2 i acc'[i] (Array.getElem?_eq_getElem hi')
   rw [List.getElem?_reverse hi]
   simp at a2
   rw [a2]
   simp [hi']
  ·rw [List.getElem?_eq_none (by simp;omega),List.getElem?_eq_none (by simp;omega)]
 have rr:Vals xs.reverse acc'.toList:=by rw [eacc];exact r.reverse
 have k1:∀ b o,s1.heap.get? b=some o→h'.get? b=some o:=fun b o z=>hk b o (Nat.ne_of_lt (Heap.lt_size z)) (k0 b o z)
 have hle:s1.heap.objs.size≤(s1.heap.push (PySem.revObj l ((its.toArray.size:Int) - 1))).objs.size:=by rw [s0];exact Nat.le_succ _
 refine ⟨.ref _,_,I1.laid (t':=tk) (o:=.lst xs.reverse) k1 hle ⟨by simp;omega,acc'.toList,c',rr,by simpa using hS⟩,rfl,q _ (I1.hok.fresh hle)⟩⟩
end
end L2
namespace L2
open PySem PySem.Spec PyProof.Rows
def Ez (h:Heap) (T:Addr):Prop:=∃ oT ts,h.get? T=some oT∧oT.data= .fields ts∧3 < ts.size
def iK (C:Addr) (dd:Option Addr) (vs:Array Value):Obj:={cls:=.ref C,dict:=dd,data:=.fields vs}
def Nj (l:List Env):List Addr:=l.filterMap (·.frame)
section
variable {M:Model} {A:Around} {E:Value→Shared→Prop}
theorem vZ {base:Heap} {env:Env} {outer:List Env} {L x C:Addr} {dd:Option Addr} {vs:Array Value} {hd:Value} {had:Bool} {Q:Unit→Shared→Prop} {s:Shared}
  (fr:A.frames=some (env :: outer)) (ff:s.heap.FunFrames base (env :: outer)) (fL:env.frame=some L) (ex:s.heap.get? x=some (iK C dd vs)) (sz:1 < vs.size) (nx:x ∉ Nj (env :: outer))
  (k:∀ h' T,h'.get? x=some (iK C dd (vs.setIfInBounds 1 (.ref T)))→s.heap.objs.size≤T→Ez h' T→(∀ b o,b≠x→b ∉ Nj (env :: outer)→s.heap.get? b=some o→h'.get? b=some o)→
   (∀ b o,b≠x→s.heap.get? b=some o→∃ sl,h'.get? b=some {o with slots:=sl})→Q () {s with heap:=h'}):
  wpAny M A (do let c ← frameOf env;let pl ← entryPlaceOf L had;let t ← EntryCells.newEntry hd c .none (rawInt L) .none pl;setField (.ref x) 1 t) Q E s:=by
 refine wpAny_bind (wpAny_frameOf_fun fr ff fL fun g1 so=>?_)
 refine wpAny_bind (wpAny_entryPlaceOf fun pl isp=>?_)
 unfold EntryCells.newEntry newFields
 refine wpAny_bind (wpAny_newObj_type ?_ (isp.sizeOk5 _ _ _ _ _))
 have x1:g1.get? x=some (iK C dd vs):=(so.2.1 x nx).trans ex
 have lts:([hd,Value.ref L,.none,rawInt L,.none] ++ (if pl.isEmpty then List.replicate 6 Value.none else pl)).toArray.size > 3:=by
  simp only [List.size_toArray,List.length_append,List.length_cons,List.length_nil];omega
 generalize ([hd,Value.ref L,.none,rawInt L,.none] ++ (if pl.isEmpty then List.replicate 6 Value.none else pl)).toArray=tv at lts
 have x2:(g1.push {cls:=.type "traceback",dict:=none,data:=.fields tv}).get? x=some (iK C dd vs):=Heap.get?_push_of_some _ x1
 have nTx:g1.objs.size≠x:=Nat.ne_of_gt (Heap.lt_size x1)
 have t2:(g1.push {cls:=.type "traceback",dict:=none,data:=.fields tv}).get? g1.objs.size=some {cls:=.type "traceback",dict:=none,data:=.fields tv}:=Heap.get?_push_size _ rfl
 have o2:∀ b o,g1.get? b=some o→(g1.push {cls:=.type "traceback",dict:=none,data:=.fields tv}).get? b=some o:=fun b o e=>Heap.get?_push_of_some _ e
 refine wpAny_setField (vs:=vs) x2 rfl sz ?_
 have e3:=Heap.get?_update_self (Obj.mapFields (·.setIfInBounds 1 (Value.ref g1.objs.size))) x2 rfl
 have ot:∀ b,b≠x→((g1.push {cls:=.type "traceback",dict:=none,data:=.fields tv}).update x (Obj.mapFields (·.setIfInBounds 1 (Value.ref g1.objs.size)))).get? b=(g1.push {cls:=.type "traceback",dict:=none,data:=.fields tv}).get? b:=fun b hb=>Heap.get?_update_other _ _ (Ne.symm hb)
 refine k _ g1.objs.size e3 (by rw [so.1];exact Nat.le_refl _) ⟨_,tv,(ot _ nTx).trans t2,rfl,lts⟩ (fun b o hb hf e=>?_) (fun b o hb e=>?_)
 ·rw [ot b hb];exact o2 b o ((so.2.1 b hf).trans e)
 ·obtain ⟨sl,q⟩:=so.2.2 b o e
  exact ⟨sl,by rw [ot b hb];exact o2 b _ q⟩
structure CN (fs:List Addr) (x C:Addr) (dd:Option Addr) (hd:Option Addr) (h h':Heap) (T:Addr):Prop where
 obj:∃ vs,h'.get? x=some (iK C dd vs)∧vs[1]?=some (.ref T)∧vs[2]?=some .none
 tb:Ez h' T
 ne:T≠x
 new:h.objs.size≤T∨hd=some T
 keep:∀ b o,b≠x→some b≠hd→b ∉ fs→h.get? b=some o→h'.get? b=some o
 slot:∀ b o,b≠x→some b≠hd→h.get? b=some o→∃ sl,h'.get? b=some {o with slots:=sl}
 tail:∀ b o,hd=some b→h.get? b=some o→∃ o',h'.get? b=some o'
theorem Wv {base:Heap} {env:Env} {outer:List Env} {L x C:Addr} {dd:Option Addr} {vs:Array Value} {Q:Unit→Shared→Prop} {s:Shared}
  (fr:A.frames=some (env :: outer)) (ff:s.heap.FunFrames base (env :: outer)) (fL:env.frame=some L) (ex:s.heap.get? x=some (iK C dd vs)) (h1:vs[1]?=some .none∧vs[2]?=some .none) (nx:x ∉ Nj (env :: outer))
  (k:∀ h' T,CN (Nj (env :: outer)) x C dd none s.heap h' T→Q () {s with heap:=h'}):wpAny M A (noteFrame (.ref x) env) Q E s:=by
 unfold noteFrame
 simp only [fL]
 refine wpAny_bind (wpAny_field ex rfl h1.1 ?_)
 rw [if_neg (by decide)]
 have sz:1 < vs.size:=(Array.getElem?_eq_some_iff.mp h1.1).1
 refine vZ fr ff fL ex sz nx fun h' T a1 a2 a3 a4 a5=>k h' T ⟨⟨_,a1,by simp [sz],by rw [Array.getElem?_setIfInBounds_ne (by decide)];exact h1.2⟩,a3,?_,.inl a2,fun b o hb _ hf e=>a4 b o hb hf e,fun b o hb _ e=>a5 b o hb e,fun b o z=>by cases z⟩
 exact Nat.ne_of_gt (Nat.lt_of_lt_of_le (Heap.lt_size ex) a2)
theorem Ww {base:Heap} {env:Env} {outer:List Env} {L x C T0:Addr} {dd:Option Addr} {vs:Array Value} {Q:Unit→Shared→Prop} {s:Shared}
  (fr:A.frames=some (env :: outer)) (ff:s.heap.FunFrames base (env :: outer)) (fL:env.frame=some L) (ex:s.heap.get? x=some (iK C dd vs)) (h1:vs[1]?=some (.ref T0)∧vs[2]?=some .none) (t0:Ez s.heap T0) (ne:T0≠x) (nx:x ∉ Nj (env :: outer)) (nT:T0 ∉ Nj (env :: outer))
  (k:∀ h' T,CN (Nj (env :: outer)) x C dd (some T0) s.heap h' T→Q () {s with heap:=h'}):wpAny M A (noteFrame (.ref x) env) Q E s:=by
 obtain ⟨oT,ts,g,d,l3⟩:=id t0
 unfold noteFrame
 simp only [fL]
 refine wpAny_bind (wpAny_field ex rfl h1.1 ?_)
 rw [if_pos (show (Value.ref T0 != Value.none)=true from by simp)]
 refine wpAny_bind (wpAny_field g d (Array.getElem?_eq_getElem l3) ?_)
 by_cases q:(ts[3] == rawInt L)=true
 ·rw [if_pos q]
  exact wpAny_pure (k _ T0 ⟨⟨vs,ex,h1⟩,t0,ne,.inr rfl,fun b o _ _ _ e=>e,fun b o _ _ e=>⟨o.slots,e⟩,fun b o _ e=>⟨o,e⟩⟩)
 ·rw [if_neg q]
  refine wpAny_bind (wpAny_setField g d l3 ?_)
  have tT:=Heap.get?_update_self (Obj.mapFields (·.setIfInBounds 3 Value.none)) g (Obj.isFreed_of_fields (Obj.data_mapFields d _))
  have ot:∀ b,b≠T0→(s.heap.update T0 (Obj.mapFields (·.setIfInBounds 3 Value.none))).get? b=s.heap.get? b:=fun b hb=>Heap.get?_update_other _ _ (Ne.symm hb)
  have sz:1 < vs.size:=(Array.getElem?_eq_some_iff.mp h1.1).1
  have ff2:(s.heap.update T0 (Obj.mapFields (·.setIfInBounds 3 Value.none))).FunFrames base (env :: outer):=ff.of_keeps fun b o hb hn=>by
   refine ⟨o,(ot b (fun z=>?_)).trans hb,rfl⟩
   rw [z,g] at hb;cases hb;exact hn _ d
  refine vZ (s:={s with heap:=s.heap.update T0 (Obj.mapFields (·.setIfInBounds 3 Value.none))}) fr ff2 fL ((ot x (Ne.symm ne)).trans ex) sz nx fun h' T a1 a2 a3 a4 a5=>k h' T ⟨⟨_,a1,by simp [sz],by rw [Array.getElem?_setIfInBounds_ne (by decide)];exact h1.2⟩,a3,?_,.inl (by rw [Heap.size_update] at a2;exact a2),fun b o hb h0 hf e=>a4 b o hb hf ((ot b (fun z=>h0 (by rw [z]))).trans e),fun b o hb h0 e=>a5 b o hb ((ot b (fun z=>h0 (by rw [z]))).trans e),fun b o hb e=>?_⟩
  ·exact Nat.ne_of_gt (Nat.lt_of_lt_of_le (Heap.lt_size ex) (by rw [Heap.size_update] at a2;exact a2))
  ·cases hb
   obtain ⟨sl,z⟩:=a5 T0 _ ne tT
   exact ⟨_,z⟩
theorem Wx {x C T0:Addr} {dd:Option Addr} {vs:Array Value} {Q:Unit→Shared→Prop} {s:Shared} (ex:s.heap.get? x=some (iK C dd vs)) (h1:vs[1]?=some (.ref T0)∧vs[2]?=some .none) (t0:Ez s.heap T0) (ne:T0≠x)
  (k:∀ h',CN [] x C dd (some T0) s.heap h' T0→Q () {s with heap:=h'}):wpAny M A (setFlight (.ref x) none) Q E s:=by
 obtain ⟨oT,ts,g,d,l3⟩:=id t0
 unfold setFlight
 refine wpAny_bind (wpAny_field ex rfl h1.1 ?_)
 rw [if_pos (show (Value.ref T0 != Value.none)=true from by simp)]
 refine wpAny_setField g d l3 (k _ ?_)
 have d2:=Obj.data_mapFields d (·.setIfInBounds 3 ((none:Option Addr).elim Value.none fun f=>rawInt f))
 have tT:=Heap.get?_update_self (Obj.mapFields (·.setIfInBounds 3 ((none:Option Addr).elim Value.none fun f=>rawInt f))) g (Obj.isFreed_of_fields d2)
 have ot:∀ b,b≠T0→(s.heap.update T0 (Obj.mapFields (·.setIfInBounds 3 ((none:Option Addr).elim Value.none fun f=>rawInt f)))).get? b=s.heap.get? b:=fun b hb=>Heap.get?_update_other _ _ (Ne.symm hb)
 exact ⟨⟨vs,(ot x (Ne.symm ne)).trans ex,h1⟩,⟨_,_,tT,d2,by simpa using l3⟩,ne,.inr rfl,fun b o _ h0 _ e=>(ot b (fun z=>h0 (by rw [z]))).trans e,fun b o _ h0 e=>⟨o.slots,(ot b (fun z=>h0 (by rw [z]))).trans e⟩,fun b o hb e=>by cases hb;exact ⟨_,tT⟩⟩
end
end L2
namespace L2
open PySem PySem.Spec PyProof.Rows
def YT:List Value:=[.type "ValueError",.type "Exception",.type "BaseException",.type "object"]
def Vu (K:PySem.W.Frag) (D:Addr):Bool:=match K.lookup D with
 | some ⟨.type "type",_,.cls cd,sl⟩=>(match cd.mro,sl.toList with
  | .ref E :: bm,[_,_,_,_,some (.builtin n),_]=>E == D && n == "ValueError.__new__" && cd.hasDel == false && cd.hasDict && PySem.W.tailIn K YT bm
  | _,_=>false)
 | _=>false
theorem Bg {K:PySem.W.Frag} {D:Addr} (q:Vu K D=true):∃ nm qn N bs bm sn sub ab col dd k0 k1 k2 k3 k5,K.lookup D=some (excClassObj nm qn D N bs bm true sn sub ab col dd k0 k1 k2 k3 k5 "ValueError.__new__")∧∀ h,K.In h→OwnTail h YT bm:=by
 unfold Vu at q
 split at q
 ·rename_i dd cd sl ho
  split at q
  ·rename_i D' bm k0 k1 k2 k3 n k5 hm hs
   simp only [Bool.and_eq_true,beq_iff_eq] at q
   obtain ⟨⟨⟨⟨e1,e2⟩,e3⟩,e4⟩,e5⟩:=q
   subst e1 e2
   obtain ⟨nm,bs,mro,ns,qn,hd,sn,sub,ab,col,del⟩:=cd
   dsimp only at hm e3 e4
   subst hm e3 e4
   have hsl:sl= #[k0,k1,k2,k3,some (.builtin "ValueError.__new__"),k5]:=by
    obtain ⟨l⟩:=sl
    dsimp only at hs
    rw [hs]
   subst hsl
   exact ⟨nm,qn,ns,bs,bm,sn,sub,ab,col,dd,k0,k1,k2,k3,k5,ho,fun h X=>PySem.W.tail_of_in X e5⟩
  ·cases q
 ·cases q
section
variable {prog:Program} {w:World} {A:Around} {K:PySem.W.Frag} {D f:Addr} {E:Value→Shared→Prop}
theorem yU {h:Heap} {g:Array GenState} {d:Drawn} {t:Nat} {os:OsState} {us:List Value} {Q:Fin→Shared→Prop} (X:K.In h) (hx:Vu K D=true)
  (hi:PySem.W.findIn K (.ref D) "__init__"=some (some (.ref f))) (hf:PySem.W.typeIn K (.ref f)=some (.type "function")) (hl:us.length≤sizeLine)
  (k:wpAny (model prog w) A (call (.ref f) (.ref (h.objs.size+1) :: us)) (fun r s'=>r= .none∧Q (.done (.ret (.ref (h.objs.size+1)))) s') E
   ⟨(h.push {cls:=.type "tuple",data:=.seq us.toArray}).push (iK D none #[.ref h.objs.size,.none,.none,.none,.bool false,.none]),g,d,t,os⟩):
  wpAny (model prog w) A (Builtin.«type.__call__» ⟨.ref D :: us,[]⟩) Q E ⟨h,g,d,t,os⟩:=by
 obtain ⟨nm,qn,N,bs,bm,sn,sub,ab,col,dd,k0,k1,k2,k3,k5,lk0,tl⟩:=Bg hx
 have T:=tl h X
 have hD:=X _ _ lk0
 have L3:=PySem.W.looks_findIn (M:=model prog w) X hi
 have L4:=PySem.W.bind_fn (M:=model prog w) X (.ref (h.objs.size+1)) hf
 repeat (first | with_reducible refine wpAny_loadPart_at hD ?_ | with_reducible refine wpAny_madeBy_exc hD ?_ | wp_step)
 refine codeAny_call_builtin_code (Code.quiet_builtin _ F.excBase_ValueError.quiet) (wpAny_check_new_subT F.excBase_ValueError T hD (codeAny_exc_new_subT F.excBase_ValueError T hD ?_ hl))
 show wpAny _ _ _ _ _ _
 have keep:∀ b o,h.get? b=some o→((h.push {cls:=.type "tuple",data:=.seq us.toArray}).push (iK D none #[.ref h.objs.size,.none,.none,.none,.bool false,.none])).get? b=some o:=fun b o q=>Heap.get?_push_of_some _ (Heap.get?_push_of_some _ q)
 have gx:((h.push {cls:=.type "tuple",data:=.seq us.toArray}).push (iK D none #[.ref h.objs.size,.none,.none,.none,.bool false,.none])).get? (h.objs.size+1)=some (iK D none #[.ref h.objs.size,.none,.none,.none,.bool false,.none]):=by
  have:=Heap.get?_push_size (h.push {cls:=.type "tuple",data:=.seq us.toArray}) (o:=iK D none #[.ref h.objs.size,.none,.none,.none,.bool false,.none]) rfl
  rwa [Heap.size_push] at this
 have hD1:=keep _ _ hD
 have M3:=L3.keeps keep
 have M4:=L4.keeps keep
 have cD:(Value.ref D :: bm).contains (.ref D)=true:=by simp
 unfold iK at gx M3 M4 hD1 k
 unfold isInstance
 repeat (first | with_reducible refine wpAny_loadPart_at gx ?_ | (with_reducible refine wpAny_isSubtype_exc hD1 ?_;rw [cD]) | wp_step)
 show wpAny _ _ (typeLookup (.ref D) _) _ _ _
 refine M3.at ?_
 refine wpAny_holding (wpAny_bind (M4.at ?_))
 dsimp only
 refine wpAny_bind (wpAny_mono k (fun r s' hr=>?_) fun _ _ z=>z)
 obtain ⟨rfl,z⟩:=hr
 wp_walk
 exact z
theorem Te {s:Shared} {us:List Value} {Q:Value→Shared→Prop} (X:K.In s.heap) (hx:Vu K D=true)
  (hi:PySem.W.findIn K (.ref D) "__init__"=some (some (.ref f))) (hf:PySem.W.typeIn K (.ref f)=some (.type "function")) (hl:us.length≤sizeLine)
  (k:wpAny (model prog w) (A.under (.builtin "type.__call__" ⟨.ref D :: us,[]⟩)) (call (.ref f) (.ref (s.heap.objs.size+1) :: us)) (fun r s'=>r= .none∧Q (.ref (s.heap.objs.size+1)) s') E
   {s with heap:=(s.heap.push {cls:=.type "tuple",data:=.seq us.toArray}).push (iK D none #[.ref s.heap.objs.size,.none,.none,.none,.bool false,.none])}):
  wpAny (model prog w) A (call (.ref D) us) Q E s:=by
 obtain ⟨h,g,d,t,os⟩:=s
 obtain ⟨nm,qn,N,bs,bm,sn,sub,ab,col,dd,k0,k1,k2,k3,k5,lk0,tl⟩:=Bg hx
 have hD:=X _ _ lk0
 have f1:=tc_lookup
 have f2:=tc_bind (.ref D)
 have hT:(⟨h,g,d,t,os⟩:Shared).TypeIs (.ref D) "type":=⟨_,hD,rfl⟩
 refine wpAny_call (codeAny_of_tree ?_)
 show wpAny _ _ (callAny (.ref D) _) _ _ _
 repeat (any_goals (first | assumption | with_reducible refine wpAny_loadPart_at hD ?_ | wp_step))
 refine ⟨rfl,codeAny_call_builtin_at (Code.quiet_builtin _ (by decide+kernel)) entry_typeCall (wpAny_check_type_call_sub hD (yU X hx hi hf hl ?_))⟩
 exact k
end
end L2
namespace L2
open PySem PySem.Spec PyProof.Rows
def tE (x C dx:Addr):HO:=.ext fun h=>∃ vs,h.get? x=some (iK C (some dx) vs)∧vs[2]?=some .none
def lM (x C:Addr):HO:=.ext fun h=>∃ t,h.get? x=some (iK C none #[.ref t,.none,.none,.none,.bool false,.none])
theorem CP {P:Program} {w:World} {H:Hp} {h:Heap} {x C dx:Addr} {vs:Array Value} (e:h.get? x=some (iK C (some dx) vs)) (h2:vs[2]?=some .none):ObjOk P w H h x (tE x C dx):=
 ⟨⟨vs,e,h2⟩,⟨_,e⟩,fun h1 h2 ⟨vs,e,z⟩ k=>⟨vs,k _ e,z⟩⟩
theorem Nk {P:Program} {w:World} {H:Hp} {h:Heap} {x C dx:Addr} (ok:HOk P w H h) (e:H x=some (tE x C dx)):∃ vs,h.get? x=some (iK C (some dx) vs)∧vs[2]?=some .none:=(ok _ _ e).1
structure Head (X:Cx) (pins:List (Addr×Obj)) (H:Hp) (x C dx T:Addr) (h:Heap):Prop where
 obj:∃ vs,h.get? x=some (iK C (some dx) vs)∧vs[1]?=some (.ref T)∧vs[2]?=some .none
 tb:Ez h T
 fp:lU X pins H T
 tr:H x=some (tE x C dx)
theorem Head.ne {X:Cx} {pins:List (Addr×Obj)} {H:Hp} {x C dx T:Addr} {h:Heap} (a:Head X pins H x C dx T h):T≠x:=fun z=>by
 have:=a.fp.1
 rw [z,a.tr] at this;cases this
def Fly (X:Cx) (pins:List (Addr×Obj)) (H:Hp) (x C dx:Addr) (h:Heap):Prop:=
 H x=some (tE x C dx)∧((∃ vs,h.get? x=some (iK C (some dx) vs)∧vs[1]?=some .none∧vs[2]?=some .none)∨∃ T,Head X pins H x C dx T h)
section
variable {X:Cx} {pins:List (Addr×Obj)} {σ:St} {H:Hp} {s:Shared} {x C dx:Addr} {h':Heap} {T:Addr} {hd:Option Addr}
theorem Inv.noted {fs:List Addr} (I:Inv X pins σ H s) (hx:H x=some (tE x C dx)) (hh:∀ b,hd=some b→lU X pins H b) (hf:∀ b∈fs,b∈X.env.locals :: X.fs) (N:CN fs x C (some dx) hd s.heap h' T):Inv X pins σ H {s with heap:=h'}:=by
 obtain ⟨m,⟨oL,esL,epL,hoL,rL⟩,_⟩:=id I.loc
 have fsF:∀ b∈fs,H b=none:=fun b hb=>by
  rcases List.mem_cons.mp (hf b hb) with e | hb
  ·rw [e];exact I.free
  ·obtain ⟨_,o,ho,_⟩:=I.ok.funs.mem hb
   exact I.base.free b o ho (I.ok.frf b hb) fun z=>I.ok.exfs b z hb
 have nx:∀ b,H b=none→b≠x:=fun b n z=>by rw [z,hx] at n;cases n
 have hdF:∀ b,hd=some b→H b=none:=fun b e=>(hh b e).1
 have mem:∀ b,b ∉ hd.toList→some b≠hd:=fun b nb z=>nb (by rw [← z];simp)
 refine I.step (g':=s.gens) (d':=s.drawn) (t':=s.toks) (ch:=hd.toList) (fun b hb=>?_) (fun b o hL hb hc e n=>?_) (fun b o hL hb hc e n=>?_) (fun _ _ _ _ n=>n) (fun b o hc e=>?_) (fun _ _ e=>e) (fun _ _ _ e=>e) (fun b ps e=>⟨#[],by rw [e];simp⟩) (fun m hm=>?_) (fun b u e=>?_) I.bare
 ·have e:hd=some b:=by cases hd <;> simp_all
  obtain ⟨_,a2,_,a4,a5,a6⟩:=hh b e
  exact ⟨a4,a2,a5,a6⟩
 ·refine N.keep b o (nx b n) (mem b hc) (fun z=>?_) e
  rcases List.mem_cons.mp (hf b z) with q | q
  ·exact hL q
  ·exact hb q
 ·exact N.slot b o (nx b n) (mem b hc) e
 ·by_cases q:b=x
  ·obtain ⟨vs,z,_⟩:=N.obj
   exact ⟨_,by rw [q];exact z⟩
  ·obtain ⟨sl,z⟩:=N.slot b o q (mem b hc) e
   exact ⟨_,z⟩
 ·obtain ⟨o,es,ep,ho,r⟩:=hm
  obtain ⟨sl,z⟩:=N.slot _ o (nx _ I.free) (fun q=>(hh _ q.symm).2.1 rfl) ho
  exact ⟨_,es,ep,z,r⟩
 ·by_cases q:b=x
  ·subst q
   rw [hx] at e;cases e
   obtain ⟨vs,z,_,z2⟩:=N.obj
   exact CP z z2
  ·refine (I.hok b u e).stay (fun c v hc z=>?_) (fun _ q=>q) fun _ _ q=>q
   have tc:∃ u,H c=some u:=by
    rcases hc with rfl | hc
    ·exact ⟨_,e⟩
    ·exact ⟨_,hc⟩
   obtain ⟨uc,tc⟩:=tc
   refine N.keep c v (fun zz=>?_) (fun zz=>?_) (fun zz=>?_) z
   ·rcases hc with rfl | hc
    ·exact q zz
    ·rw [zz,hx] at hc;cases hc
   ·rw [hdF c zz.symm] at tc;cases tc
   ·rw [fsF c zz] at tc;cases tc
theorem Jc {A:Around} {E:Value→Shared→Prop} {Q:Unit→Shared→Prop} (I:Inv X pins σ H s) (hst:X.stack=X.env :: X.outer) (hfr:X.env.frame=some X.env.locals) (hA:A.frames=some X.stack) (F:Fly X pins H x C dx s.heap)
  (k:∀ h' T,Inv X pins σ H {s with heap:=h'}→Head X pins H x C dx T h'→Q () {s with heap:=h'}):wpAny (model X.prog X.w) A (noteFrame (.ref x) X.env) Q E s:=by
 have ff:s.heap.FunFrames X.base (X.env :: X.outer):=hst ▸ I.stack
 have sub:∀ b∈Nj (X.env :: X.outer),b∈X.env.locals :: X.fs:=fun b hb=>I.stkSub b (by rw [hst];exact hb)
 have nf:∀ b u,H b=some u→b ∉ Nj (X.env :: X.outer):=fun b u e z=>by
  rw [I.stkFree b (by rw [hst];exact z)] at e;cases e
 obtain ⟨hx,⟨vs,e,h1⟩ | ⟨T0,hT⟩⟩:=F
 ·refine Wv (hst ▸ hA) ff hfr e h1 (nf x _ hx) fun h' T N=>?_
  have J:=I.noted hx (fun b z=>by cases z) sub N
  refine k h' T J ⟨N.obj,N.tb,?_,hx⟩
  have zT:s.heap.objs.size≤T:=by rcases N.new with z | z;exact z;cases z
  exact I.fpOk zT (I.hok.fresh zT)
 ·obtain ⟨vs,e,h1⟩:=hT.obj
  refine Ww (hst ▸ hA) ff hfr e h1 hT.tb hT.ne (nf x _ hx) (fun z=>?_) fun h' T N=>?_
  ·rcases List.mem_cons.mp (sub T0 z) with q | q
   ·exact hT.fp.2.1 q
   ·exact hT.fp.2.2.1 q
  ·have J:=I.noted hx (fun b z=>by cases z;exact hT.fp) sub N
   refine k h' T J ⟨N.obj,N.tb,?_,hx⟩
   rcases N.new with z | z
   ·exact I.fpOk z (I.hok.fresh z)
   ·cases z;exact hT.fp
theorem Jd {A:Around} {E:Value→Shared→Prop} {Q:Unit→Shared→Prop} (I:Inv X pins σ H s) (F:Head X pins H x C dx T s.heap)
  (k:∀ h',Inv X pins σ H {s with heap:=h'}→Head X pins H x C dx T h'→Q () {s with heap:=h'}):wpAny (model X.prog X.w) A (setFlight (.ref x) none) Q E s:=by
 obtain ⟨vs,e,h1⟩:=F.obj
 refine Wx e h1 F.tb F.ne fun h' N=>?_
 exact k h' (I.noted F.tr (fun b z=>by cases z;exact F.fp) (fun b z=>absurd z (by simp)) N) ⟨N.obj,N.tb,F.fp,F.tr⟩
def Je (P:Program) (w:World):Ed:=fun outer H s E e s'=>∃ x C dx T H',e= .ref x∧s'.os=s.os∧AllBare s'.gens∧Un (frs outer) [] H H' s.heap s'.heap∧HOk P w H' s'.heap∧H' x=some (tE x C dx)∧H' T=none∧s.heap.objs.size≤T∧
 (∃ vs,s'.heap.get? x=some (iK C (some dx) vs)∧vs[1]?=some (.ref T)∧vs[2]?=some .none)∧Ez s'.heap T∧E (.ref C) (some x) H'
def XE (X:Cx) (pins:List (Addr×Obj)) (R:St→XK) (e:Value) (s':Shared):Prop:=∃ x C dx σ H',e= .ref x∧Inv X pins σ H' s'∧Fly X pins H' x C dx s'.heap∧R σ (.ref C) (some x) H'
theorem CQ {R:St→XK} {e:Value} {s':Shared} (I:Inv X pins σ H s) (c:Je X.prog X.w X.stack H s (R σ) e s'):XE X pins R e s':=by
 obtain ⟨x,C,dx,T,H',rfl,os,bare,un,hok,tx,tT,zT,ob,tb,r⟩:=c
 obtain ⟨hh,g,d,t,os'⟩:=s'
 obtain rfl:os'=s.os:=os
 have J:=I.call (h':=hh) (g':=g) (d':=d) (t':=t) (ch:=[]) un hok bare (fun b z=>absurd z (by simp))
 exact ⟨x,C,dx,σ,H',rfl,J,⟨tx,.inr ⟨T,ob,tb,I.fpOk zT tT,tx⟩⟩,r⟩
def oJ (X:Cx) (R:St→XK):Prop:=∀ (pins:List (Addr×Obj)) (e:Value) (s':Shared),XE X pins R e s'→X.xe e s'
end
theorem bU {P:Program} {w:World} {K:PySem.W.Frag} {mg:Str→Option Value} {base:Heap} {N:List Str} {qual:Str} {scope:Scope} {f:Addr} {cd:Value} {A:Around} {outer:List Env} {s:Shared} {H:Hp} {E:XK}:
  oJ (pG (Je P w) P w K mg base N qual scope f cd A outer s H E) (fun _=>E):=by
 rintro pins e s' ⟨x,C,dx,σ,H',he,I,F,r⟩
 subst he
 show wpAny _ _ (leaving _ _) _ _ _
 unfold leaving
 refine wpAny_bind (Jc (X:=pG (Je P w) P w K mg base N qual scope f cd A outer s H E) I rfl rfl I.ok.frames F fun h1 T J1 F1=>?_)
 refine Jd (X:=pG (Je P w) P w K mg base N qual scope f cd A outer s H E) J1 F1 fun h2 J2 F2=>?_
 refine ⟨x,C,dx,T,H',rfl,J2.os,J2.bare,J2.base,J2.hok,F2.tr,F2.fp.1,?_,F2.obj,F2.tb,r⟩
 rcases F2.fp.2.2.2.1 with z | z
 ·exact absurd (show T∈([]:List Addr) from z) (by simp)
 ·exact z
end L2
namespace L2
open PySem PySem.Spec PyProof.Rows
def nj (d:Addr) (fs:List (Str×V)):HO:=.ext fun h=>∃ mA,h.Ns1 d mA∧∀ f,RelO (fs.lookup f) (mA f)
theorem xg {P:Program} {w:World} {H:Hp} {h:Heap} {d:Addr} {fs:List (Str×V)} {mA:Str→Option Value} (n:h.Ns1 d mA) (r:∀ f,RelO (fs.lookup f) (mA f)):ObjOk P w H h d (nj d fs):=by
 refine ⟨⟨mA,n,r⟩,let ⟨o,_,_,e,_⟩:=n;⟨o,e⟩,fun h1 h2 ⟨m,n,r⟩ k=>⟨m,?_,r⟩⟩
 obtain ⟨o,es,ep,e,q⟩:=n
 exact ⟨o,es,ep,k _ e,q⟩
theorem xj {P:Program} {w:World} {H:Hp} {h:Heap} {d:Addr} {fs:List (Str×V)} (ok:HOk P w H h) (e:H d=some (nj d fs)):∃ mA,h.Ns1 d mA∧∀ f,RelO (fs.lookup f) (mA f):=(ok _ _ e).1
def jg (x C d:Addr):HO:=.ext fun h=>∃ t,h.get? x=some (iK C (some d) #[.ref t,.none,.none,.none,.bool false,.none])
theorem EY {P:Program} {w:World} {H:Hp} {h:Heap} {x C d t:Addr} (e:h.get? x=some (iK C (some d) #[.ref t,.none,.none,.none,.bool false,.none])):ObjOk P w H h x (jg x C d):=
 ⟨⟨t,e⟩,⟨_,e⟩,fun h1 h2 ⟨t,e⟩ k=>⟨t,k _ e⟩⟩
theorem rB {P:Program} {w:World} {H:Hp} {h:Heap} {x C d:Addr} (ok:HOk P w H h) (e:H x=some (jg x C d)):∃ t,h.get? x=some (iK C (some d) #[.ref t,.none,.none,.none,.bool false,.none]):=(ok _ _ e).1
def iT:List Value→Bool
 | [.type a,.type b,.type c,.type d]=>a == "ValueError" && b == "Exception" && c == "BaseException" && d == "object"
 | .ref _ :: r=>iT r
 | _=>false
theorem sy {l:List Value} (e:iT l=true):(∃ a r,l= .ref a :: r∧iT r=true)∨l=YT:=by
 unfold iT at e
 split at e
 ·simp only [Bool.and_eq_true,beq_iff_eq] at e
  obtain ⟨⟨⟨rfl,rfl⟩,rfl⟩,rfl⟩:=e
  exact .inr rfl
 ·exact .inl ⟨_,_,rfl,e⟩
 ·cases e
theorem sE (self:Value):∀ (l:List Value),iT l=true→refuseLoop self "__setattr__" l=pure ()
 | [],e=>by cases e
 | v :: r,e=>by
  rcases sy e with ⟨a,r',q,e'⟩ | q
  ·cases q
   rw [refuseLoop_ref]
   exact sE self r e'
  ·rw [q]
   exact F.store_ValueError.passes self
theorem uz:∀ (l:List Value),iT l=true→l.contains (.type "object")=true∧l.contains (.type "BaseException")=true
 | [],e=>by cases e
 | v :: r,e=>by
  rcases sy e with ⟨a,r',q,e'⟩ | q
  ·cases q
   obtain ⟨h1,h2⟩:=uz r e'
   exact ⟨by rw [List.contains_cons,h1,Bool.or_true],by rw [List.contains_cons,h2,Bool.or_true]⟩
  ·rw [q]
   decide
def Tf (K:PySem.W.Frag) (C:Addr):Bool:=Vu K C && (PySem.W.clsIn K C).any (fun cd=>iT cd.mro && cd.hasDict) && PySem.W.findIn K (.ref C) "__setattr__" == some (some (.builtin "object.__setattr__")) &&
 PySem.W.findIn K (.ref C) "__getattribute__" == some (some (.builtin "BaseException.__getattribute__")) && PySem.W.findIn K (.ref C) "__getattr__" == some none
structure XCls (K:PySem.W.Frag) (C:Addr):Prop where
 xi:Vu K C=true
 ov:∃ cd,PySem.W.clsIn K C=some cd∧iT cd.mro=true∧cd.hasDict=true
 sa:PySem.W.findIn K (.ref C) "__setattr__"=some (some (.builtin "object.__setattr__"))
 ga:PySem.W.findIn K (.ref C) "__getattribute__"=some (some (.builtin "BaseException.__getattribute__"))
 gh:PySem.W.findIn K (.ref C) "__getattr__"=some none
theorem Nm {K:PySem.W.Frag} {C:Addr} (h:Tf K C=true):XCls K C:=by
 unfold Tf at h
 simp only [Bool.and_eq_true,beq_iff_eq] at h
 obtain ⟨⟨⟨⟨h1,h2⟩,h3⟩,h4⟩,h5⟩:=h
 obtain ⟨cd,a,b⟩:=PySem.W.any_some h2
 simp only [Bool.and_eq_true] at b
 exact ⟨h1,⟨cd,a,b.1,b.2⟩,h3,h4,h5⟩
theorem Np {l:List Value} (e:iT l=true):l.isEmpty=false:=by
 cases l with
 | nil=>cases e
 | cons _ _=>rfl
section
variable {prog:Program} {w:World} {A:Around} {s:Shared} {K:PySem.W.Frag} {x C:Addr} {R:Result→Shared→Prop}
theorem XCls.mro {c:Value} {b:Bool} (k:XCls K C) (h:∀ cd,PySem.W.clsIn K C=some cd→iT cd.mro=true→cd.mro.contains c=b):PySem.W.mroIn K C c=some b:=by
 obtain ⟨cd,a,o,_⟩:=k.ov
 unfold PySem.W.mroIn
 rw [a,Option.bind_some,if_neg (by rw [Np o];decide),h cd a o]
theorem XCls.isObj (k:XCls K C):PySem.W.mroIn K C (.type "object")=some true:=k.mro fun cd _ o=>(uz _ o).1
theorem XCls.isExc (k:XCls K C):PySem.W.mroIn K C (.type "BaseException")=some true:=k.mro fun cd _ o=>(uz _ o).2
theorem QC {ox:Obj} {od:Option Obj} {name:Str} {tk:Tok} {v:Value} (X:K.In s.heap) (I:PySem.W.InstAt s.heap x ox C od) (c:XCls K C) (ht:NoAttr K C name)
  (h:wpAny (model prog w) A.in1 (Builtin.ObjectAttr.storeInOwnDict (.ref x) (.ref C) (.str name tk) name v false)
   (fun fin s'=>match fin with | .done f=>R (.ok f) s' | .again c'=>c'.quiet=true∧codeAny (model prog w) A c' R s') (fun e s'=>R (.error e) s') s):
  codeAny (model prog w) A (.call (.builtin "object.__setattr__") ⟨[.ref x,.str name tk,v],[]⟩) R s:=by
 obtain ⟨cd,hc,ho,_⟩:=c.ov
 have sub:PySem.W.Looks (model prog w) s.heap (isInstance (.ref x) (.type "object")) true:=I.type.andThen (PySem.W.looks_mroIn X c.isObj)
 refine codeAny_call_builtin F.store_object.slot.plain F.store_object.entry (@PySem.W.check_slot (model prog w) _ _ s "object.__setattr__" "object" "__setattr__" (.ref x) [.str name tk,v] [] _ F.store_object.kind F.store_object.split sub (F.store_object.args (.ref x) (.str name tk) v) ?_)
 have hm:PySem.W.Looks (model prog w) s.heap (mroOf (.ref C)) cd.mro:=(PySem.W.looks_clsIn X hc).andThen .now
 have L3:PySem.W.Looks (model prog w) s.heap (Builtin.ObjectAttr.storeTaker? none) none:=.now
 rw [PySem.W.osa_eq,refuse_eq]
 refine wpAny_bind (wpAny_bind (I.type.here (wpAny_bind (hm.here ?_))))
 rw [sE _ _ ho]
 refine wpAny_pure (wpAny_bind (I.type.here (wpAny_bind ((PySem.W.looks_findIn X ht).here (wpAny_bind (L3.here ?_))))))
 exact h
end
theorem Jf {H:Hp} {d x:Addr} {a b c:HO} (n:d≠x):upd (upd (upd H d a) x b) d c=upd (upd H x b) d c:=by
 funext y
 unfold upd
 by_cases h:y=d
 ·simp [h]
 ·simp [h]
section
variable {X:Cx} {pins:List (Addr×Obj)} {σ:St} {H:Hp} {s:Shared} {x C d:Addr} {fs:List (Str×V)} {f:Str} {v y:V} {u:Value} {A:Around} {E:Value→Shared→Prop}
theorem Wy {Q:Unit→Shared→Prop} (I:Inv X pins σ H s) (e:H x=some (lM x C)) (c:XCls X.K C) (n:NoAttr X.K C f) (ry:RelV y u)
  (h:∀ s' d,H d=none→d≠x→Inv X pins σ (upd (upd H x (jg x C d)) d (nj d [(f,y)])) s'→Q () s'):wpAny (model X.prog X.w) A (setAttr (.ref x) f u) Q E s:=by
 obtain ⟨⟨t,hx⟩,-,-⟩:ObjOk X.prog X.w H s.heap x (lM x C):=I.hok x _ e
 obtain ⟨cd,hc,ho,hd⟩:=c.ov
 have J:PySem.W.InstAt s.heap x (iK C none #[.ref t,.none,.none,.none,.bool false,.none]) C none:=⟨hx,rfl,rfl,True.intro⟩
 refine PySem.W.set_plain I.kIn J c.sa (QC (s:={s with toks:=s.toks+1}) I.kIn J c n ?_)
 refine wpAny_bind (wpAny_pure (wpAny_bind (wpAny_bind (wpAny_loadPart hx (wpAny_bind ((PySem.W.looks_clsIn (M:=model X.prog X.w) I.kIn hc).here (s:={s with toks:=s.toks+1}) ?_))))))
 rw [hd]
 have hp:s.heap.objs.size≠x:=Nat.ne_of_gt (Heap.lt_size hx)
 have hx1:(s.heap.push {cls:=.type "dict",data:=.dict #[]}).get? x=some (iK C none #[.ref t,.none,.none,.none,.bool false,.none]):=Heap.get?_push_of_some _ hx
 have d1:(s.heap.push {cls:=.type "dict",data:=.dict #[]}).get? s.heap.objs.size=some {cls:=.type "dict",data:=.dict #[]}:=Heap.get?_push_size _ rfl
 have n1:∀ {hh:Heap},hh.get? s.heap.objs.size=some {cls:=.type "dict",data:=.dict #[]}→hh.Ns1 s.heap.objs.size (fun _=>none):=fun q=>Heap.Ns1.of_empty ⟨_,#[],_,q,rfl,fun e he=>absurd he (by simp),fun _=>rfl⟩
 have I1:Inv X pins σ (upd H s.heap.objs.size (nj s.heap.objs.size [])) {s with heap:=s.heap.push {cls:=.type "dict",data:=.dict #[]},toks:=s.toks+1}:=
  I.laid (t':=s.toks+1) (fun b o q=>Heap.get?_push_of_some _ q) (Nat.le_refl _) (xg (n1 d1) fun g=>True.intro)
 refine wpAny_bind (wpAny_alloc' ?_)
 refine wpAny_bind (wpAny_update' hx1 ?_)
 have hx2:=Heap.get?_update_self (fun o:Obj=>({o with dict:=some s.heap.objs.size}:Obj)) hx1 rfl
 have ot:∀ b,b≠x→((s.heap.push {cls:=.type "dict",data:=.dict #[]}).update x fun o=>{o with dict:=some s.heap.objs.size}).get? b=(s.heap.push {cls:=.type "dict",data:=.dict #[]}).get? b:=fun b hb=>Heap.get?_update_other _ _ (Ne.symm hb)
 have e1:upd H s.heap.objs.size (nj s.heap.objs.size []) x=some (lM x C):=(aB (Ne.symm hp)).trans e
 have I2:Inv X pins σ (upd (upd H s.heap.objs.size (nj s.heap.objs.size [])) x (jg x C s.heap.objs.size)) {s with heap:=(s.heap.push {cls:=.type "dict",data:=.dict #[]}).update x fun o=>{o with dict:=some s.heap.objs.size},toks:=s.toks+1}:=
  I1.write (t':=s.toks+1) (x:=x) (e:=x) (by rw [e1];exact True.intro) (.inl rfl) (fun b o hb q=>(ot b hb).trans q) ⟨_,hx2⟩ (EY hx2)
 refine wpAny_pure (wpAny_bind (wpAny_pure (wpAny_bind ?_)))
 refine wpAny_nsSet1 (n1 ((ot _ hp).trans d1)) fun h' hn' hs=>?_
 obtain ⟨oD,esD,epD,hoD,hdD,hcD⟩:=hn'.count (PySem.Within.cons f u PySem.Within.nil)
 refine wpAny_bind (wpAny_lookBehind hoD (by rw [hdD];exact pastItsLine_dict (Nat.le_trans hcD (by rw [List.length_cons,List.length_nil,sizeLine_eq];omega))) ?_)
 refine wpAny_pure (h _ s.heap.objs.size (I.hok.fresh (Nat.le_refl _)) hp ?_)
 rw [← Jf (a:=nj s.heap.objs.size []) hp]
 refine I2.write (x:=s.heap.objs.size) (e:=s.heap.objs.size) (by rw [aB hp,aj];exact True.intro) (.inl rfl) (fun b o hb q=>(hs.2 b hb).trans q) ⟨_,hoD⟩ (xg hn' fun g=>?_)
 by_cases q:g=f
 ·have qb:(g == f)=true:=beq_iff_eq.mpr q
  simp only [List.lookup,qb,if_pos q]
  exact ry
 ·have qb:(g == f)=false:=beq_eq_false_iff_ne.mpr q
  simp only [List.lookup,qb,if_neg q]
  exact True.intro
end
end L2
namespace L2
open PySem PySem.Spec PyProof.Rows
section
variable {X:Cx} {pins:List (Addr×Obj)} {σ:St} {H:Hp} {s:Shared} {x C d:Addr} {fs:List (Str×V)} {f:Str} {v y:V} {u:Value} {A:Around} {E:Value→Shared→Prop}
theorem Nq {h:Heap} {P:Program} {w:World} (ok:HOk P w H h) (e:H x=some (jg x C d)) (e2:H d=some (nj d fs)):d≠x:=fun z=>by
 subst z
 obtain ⟨t,a⟩:=rB ok e
 obtain ⟨mA,⟨o,es,ep,b,q,_⟩,_⟩:=xj ok e2
 rw [a] at b;cases b;cases q
theorem Wz {Q:Unit→Shared→Prop} (I:Inv X pins σ H s) (e:H x=some (jg x C d)) (e2:H d=some (nj d fs)) (hl:fs.length < 1000) (c:XCls X.K C) (n:NoAttr X.K C f) (ry:RelV y u)
  (h:∀ s',Inv X pins σ (upd H d (nj d (lE f y fs))) s'→Q () s'):wpAny (model X.prog X.w) A (setAttr (.ref x) f u) Q E s:=by
 have ne:=Nq I.hok e e2
 obtain ⟨vs,hx⟩:=rB I.hok e
 obtain ⟨mA,nA,rA⟩:=xj I.hok e2
 obtain ⟨cd,hc,ho,hd⟩:=c.ov
 have J:PySem.W.InstAt s.heap x (iK C (some d) #[.ref vs,.none,.none,.none,.bool false,.none]) C (some (Classical.choose nA)):=⟨hx,rfl,rfl,let ⟨_,_,q,_⟩:=Classical.choose_spec nA;q⟩
 refine PySem.W.set_plain I.kIn J c.sa (QC (s:={s with toks:=s.toks+1}) I.kIn J c n ?_)
 refine wpAny_bind (wpAny_pure (wpAny_bind (wpAny_bind (wpAny_loadPart hx (wpAny_bind ((PySem.W.looks_clsIn (M:=model X.prog X.w) I.kIn hc).here (s:={s with toks:=s.toks+1}) ?_))))))
 rw [hd]
 refine wpAny_pure (a:=some d) (wpAny_bind (wpAny_pure (wpAny_bind ?_)))
 refine wpAny_nsSet1 (s:={s with toks:=s.toks+1}) nA fun h' hn' hs=>?_
 have wi:PySem.Within mA (fs.map (·.1)):=fun z hz=>by
  have r:=rA z
  cases q:fs.lookup z with
  | none=>rw [q] at r;exact absurd (RelO.none_of r) hz
  | some a=>exact List.mem_map.mpr ⟨(z,a),PySem.mem_of_lookup q,rfl⟩
 obtain ⟨oD,esD,epD,hoD,hdD,hcD⟩:=hn'.count (PySem.Within.cons f u wi)
 refine wpAny_bind (wpAny_lookBehind hoD (by rw [hdD];exact pastItsLine_dict (Nat.le_trans hcD (by rw [List.length_cons,List.length_map,sizeLine_eq];omega))) ?_)
 refine wpAny_pure (h _ ?_)
 refine I.write (x:=d) (e:=d) (by rw [e2];exact True.intro) (.inl rfl) (fun b o hb q=>(hs.2 b hb).trans q) ⟨_,hoD⟩ (xg hn' fun g=>?_)
 rw [oA]
 by_cases q:g=f
 ·rw [if_pos q,if_pos q];exact ry
 ·rw [if_neg q,if_neg q];exact rA g
end
end L2
namespace L2
open PySem PySem.Spec PyProof.Rows
def CT (K:PySem.W.Frag) (C:Addr):Bool:=Tf K C && PySem.W.findIn K (.ref C) "__class__" == some (some (.builtin "object.__class__")) && PySem.W.specialIn K (.builtin "object.__class__") "__get__" == some (some (.builtin "getset_descriptor.__get__")) && PySem.W.takesIn K (.builtin "object.__class__") == some true
structure QD (K:PySem.W.Frag) (C:Addr):Prop where
 cls:XCls K C
 ca:PySem.W.findIn K (.ref C) "__class__"=some (some (.builtin "object.__class__"))
 cg:PySem.W.specialIn K (.builtin "object.__class__") "__get__"=some (some (.builtin "getset_descriptor.__get__"))
 ct:PySem.W.takesIn K (.builtin "object.__class__")=some true
theorem Jg {K:PySem.W.Frag} {C:Addr} (h:CT K C=true):QD K C:=by
 unfold CT at h
 simp only [Bool.and_eq_true,beq_iff_eq] at h
 exact ⟨Nm h.1.1.1,h.1.1.2,h.1.2,h.2⟩
section
variable {prog:Program} {w:World} {A:Around} {E:Value→Shared→Prop} {s:Shared} {K:PySem.W.Frag} {x C:Addr} {ox od:Obj}
theorem Fb {Q:Option Value→Shared→Prop} (c:QD K C) (KI:K.In s.heap) (J:PySem.W.InstAt s.heap x ox C (some od)) (h:Q (some (.ref C)) {s with toks:=s.toks+1}):wpAny (model prog w) A (getAttr? (.ref x) "__class__") Q E s:=by
 obtain ⟨cd,hc,ho,hd⟩:=c.cls.ov
 have hf:PySem.W.findObj K C (some od) "__class__"=some (.bind (.builtin "getset_descriptor.__get__") (.builtin "object.__class__")):=PySem.W.findObj_data (by rw [hc];rfl) c.ca c.cg c.ct
 obtain ⟨hh,g,dr,t,os⟩:=s
 have L0:=J.type (M:=model prog w)
 have L1:=PySem.W.looks_findIn (M:=model prog w) KI c.cls.ga
 have L2:=PySem.W.looks_findIn (M:=model prog w) KI c.cls.gh
 have L3:=PySem.W.looks_find (M:=model prog w) KI J hf
 have sub:PySem.W.Looks (model prog w) hh (isInstance (.ref x) (.type "BaseException")) true:=L0.andThen (PySem.W.looks_mroIn KI c.cls.isExc)
 have hb0:(onTheHeap (Value.ref C) && Value.builtin "BaseException.__getattribute__" == Value.builtin "object.__getattribute__")=false:=by
  rw [show (Value.builtin "BaseException.__getattribute__" == Value.builtin "object.__getattribute__")=false from by decide+kernel,Bool.and_false]
 unfold getAttr? getAttrBy? getAttrBy
 refine wpAny_bind (wpAny_mkText (wpAny_bind (wpAny_attempt (wpAny_holding (wpAny_bind (L0.at (wpAny_bind (L1.at ?_))))))))
 dsimp only
 rw [hb0,if_neg Bool.false_ne_true]
 unfold getAttrByItsOwn hookBefore
 refine wpAny_bind ?_
 rw [if_pos (show onTheHeap (Value.ref C)=true from rfl)]
 refine L2.at ?_
 refine wpAny_bind (wpAny_attempt (wpAny_holding ?_))
 unfold callGetattribute
 rw [if_neg (show ¬ ((false && onTheHeap (Value.builtin "BaseException.__getattribute__"))=true) from by decide)]
 unfold boundAndCalled
 refine wpAny_bind (wpAny_of_eq (F.attrBase_ValueError.ga.bind (.ref x)) ?_)
 refine wpAny_call (codeAny_call_builtin F.attrBase_ValueError.ga.plain F.entry_bexc_ga (@PySem.W.check_slot (model prog w) _ _ ⟨hh,g,dr,t+1,os⟩ "BaseException.__getattribute__" "BaseException" "__getattribute__" (.ref x) [.str "__class__" t] [] _ (by decide+kernel) (by decide+kernel) sub (F.args_bexc_ga (.ref x) (.str "__class__" t)) ?_))
 refine wpAny_bind (wpAny_pure (wpAny_bind (wpAny_pure (wpAny_bind (L0.at (wpAny_bind (L3.at ?_)))))))
 show wpAny _ _ (holding [.builtin "object.__class__"] (call (.builtin "getset_descriptor.__get__") [.builtin "object.__class__",.ref x,.ref C]) >>=ret) _ _ _
 refine wpAny_bind (wpAny_holding (wpAny_call (PySem.W.class_get (s:=⟨hh,g,dr,t+1,os⟩) KI J c.cls.isObj ?_)))
 refine wpAny_pure ?_
 show wpAny _ _ (handedOut (.ref C)) _ _ _
 rw [PySem.W.handedOut_of rfl]
 exact wpAny_pure (wpAny_pure h)
theorem Jh (c:QD K C):PySem.W.KitX K (.ref x) (.ref C) (fun h=>PySem.W.InstAt h x ox C (some od)) where
 ty:=fun _ _ _ I=>I.type
 it:=fun _ _ X _=>by
  obtain ⟨cd,hc,_⟩:=c.cls.ov
  unfold PySem.W.clsIn at hc
  split at hc
  ·rename_i a1 a2 a3 a4 ho
   intro A1 Q1 E1 s1 k q
   unfold isType loadHead
   exact wpAny_bind (wpAny_loadPart (k _ _ (X _ _ ho)) (wpAny_pure q))
  ·cases hc
 ne:=fun h tp dd its n sl X htp=>by
  obtain ⟨cd,hc,_⟩:=c.cls.ov
  refine Bool.eq_false_iff.mpr fun q=>?_
  obtain rfl:C=tp:=Value.ref.inj (beq_iff_eq.mp q)
  unfold PySem.W.clsIn at hc
  split at hc
  ·rename_i a1 a2 a3 a4 ho
   cases (X _ _ ho).symm.trans htp
  ·cases hc
 ca:=fun X I k=>Fb c X I k
end
def YW (H:Hp) (x C:Addr) (fs:List (Str×V)):Prop:=∃ d,H x=some (tE x C d)∧H d=some (nj d fs)
def YX:V→Option Value
 | .ty T=>some (.type T)
 | .ref C=>some (.ref C)
 | _=>none
theorem Ji {v:V} {u c:Value} (e:YX v=some c) (r:RelV v u):u=c:=by
 cases v <;> first | cases e;exact r | cases e
def Jj:List V→Option (List Value)
 | []=>some []
 | v :: r=>match YX v,Jj r with
  | some c,some l=>some (c :: l)
  | _,_=>none
theorem CV:∀ {vs:List V} {us cs:List Value},Jj vs=some cs→Vals vs us→us=cs
 | [],us,cs,e,r=>by cases r;cases e;rfl
 | v :: vs,us,cs,e,r=>by
  cases r with
  | cons r1 r2=>
   unfold Jj at e
   split at e
   ·rename_i c l h1 h2
    cases e
    rw [Ji h1 r1,CV h2 r2]
   ·cases e
def CW (K:PySem.W.Frag):List V→Hp→VK→Prop:=fun xs H Q=>∃ x t b,(TyOf K H x t∨∃ a C fs,x= .ref a∧YW H a C fs∧QD K C∧t= .ref C)∧
 ((∃ v c,xs=[x,v]∧YX v=some c∧PySem.W.kitOne K t c=some b)∨(∃ p vs cs,xs=[x,.ref p]∧H p=some (.tup vs)∧Jj vs=some cs∧PySem.W.kitAny K t cs=some b))∧Q (.bl b) H
section
variable {X:Cx} {pins:List (Addr×Obj)} {σ:St} {H:Hp} {s:Shared} {A:Around} {E:Value→Shared→Prop} {Q:Value→Shared→Prop} {c:Value} {b:Bool}
theorem Jk {x:V} {u t:Value} (I:Inv X pins σ H s) (rx:RelV x u) (ty:TyOf X.K H x t∨∃ a C fs,x= .ref a∧YW H a C fs∧QD X.K C∧t= .ref C):
  ∃ φ:Heap→Prop,PySem.W.KitX X.K u t φ∧φ s.heap∧u≠.builtin "__main__.__loader__#opaque":=by
 rcases ty with ty | ⟨a,C,fs,rfl,⟨d,e1,e2⟩,c,rfl⟩
 ·cases ty with
  | non=>cases (show u=Value.none from rx);exact ⟨_,PySem.W.kitx_none,True.intro,(fun z=>nomatch z)⟩
  | bl y=>cases (show u=Value.bool y from rx);exact ⟨_,PySem.W.kitx_bool,True.intro,(fun z=>nomatch z)⟩
  | int i=>obtain ⟨t,q⟩:=(show ∃ t,u=Value.int i t from rx);cases q;exact ⟨_,PySem.W.kitx_int,True.intro,(fun z=>nomatch z)⟩
  | str y=>obtain ⟨t,q⟩:=(show ∃ t,u=Value.str y t from rx);cases q;exact ⟨_,PySem.W.kitx_str,True.intro,(fun z=>nomatch z)⟩
  | flt y=>obtain ⟨t,q⟩:=(show ∃ t,u=Value.float y t from rx);cases q;exact ⟨_,PySem.W.kitx_float,True.intro,(fun z=>nomatch z)⟩
  | @lst a xs ea=>
   cases (show u=Value.ref a from rx)
   obtain ⟨_,_,n,_,h1⟩:=(show ObjOk X.prog X.w H s.heap a (.lst xs) from I.hok a _ ea)
   exact ⟨_,PySem.W.kitx_list,⟨_,h1,rfl⟩,(fun z=>nomatch z)⟩
  | @frz a ob xs ea=>
   cases (show u=Value.ref a from rx)
   obtain ⟨_,_,_,n,_,h1⟩:=(show ObjOk X.prog X.w H s.heap a (.frz ob (.lst xs)) from I.hok a _ ea)
   exact ⟨_,PySem.W.kitx_list,⟨_,h1,rfl⟩,(fun z=>nomatch z)⟩
  | @tup a xs ea=>
   cases (show u=Value.ref a from rx)
   obtain ⟨_,_,_,p⟩:=(show ObjOk X.prog X.w H s.heap a (.tup xs) from I.hok a _ ea)
   obtain ⟨o,h1,h2,_⟩:=p
   exact ⟨_,PySem.W.kitx_tuple,⟨o,h1,h2⟩,(fun z=>nomatch z)⟩
  | @dK a kvs ea=>
   cases (show u=Value.ref a from rx)
   obtain ⟨_,_,vs,_,p⟩:=(show ObjOk X.prog X.w H s.heap a (.dK kvs) from I.hok a _ ea)
   obtain ⟨o,es,ep,h1,h2,_⟩:=p
   exact ⟨_,PySem.W.kitx_dict,⟨o,h1,h2.1⟩,(fun z=>nomatch z)⟩
  | @dT a kvs ea=>
   cases (show u=Value.ref a from rx)
   obtain ⟨_,_,xs,_,o,es,ep,h1,h2,_⟩:=(show ObjOk X.prog X.w H s.heap a (.dT kvs) from I.hok a _ ea)
   exact ⟨_,PySem.W.kitx_dict,⟨o,h1,h2.1⟩,(fun z=>nomatch z)⟩
  | @ins a C dx fs ea cl ha hn htk hm=>
   cases (show u=Value.ref a from rx)
   obtain ⟨mA,O,_⟩:=qp I.hok ea
   obtain ⟨od,J,_⟩:=O.look
   exact ⟨_,PySem.W.kitx_own (cl.get _) cl.hd ha hn htk hm,J,(fun z=>nomatch z)⟩
 ·cases (show u=Value.ref a from rx)
  obtain ⟨vs,hx,_⟩:=Nk I.hok e1
  obtain ⟨mA,nA,rA⟩:=xj I.hok e2
  obtain ⟨od,hod,lk⟩:=vI nA
  exact ⟨_,Jh (ox:=iK C (some d) vs) (od:=od) c,⟨hx,rfl,rfl,hod⟩,(fun z=>nomatch z)⟩
theorem lA {K:PySem.W.Frag} (hK:X.K=K):CallR X (.builtin "isinstance") (CW K):=by
 subst hK
 intro pins s σ H xs us Q I r h
 obtain ⟨x,t,b,ty,w,q⟩:=h
 rcases w with ⟨v,c,rfl,ec,e⟩ | ⟨p,vs,cs,rfl,ep,ec,e⟩
 ·obtain ⟨u,u2,rfl,ru,rv⟩:=vals2 r
  obtain rfl:=Ji ec rv
  obtain ⟨φ,Z,hφ,hne⟩:=Jk I ru ty
  exact PySem.W.kia_one Z I.kIn hφ e hne fun tk=>⟨.bl b,H,I.tok _,rfl,q⟩
 ·obtain ⟨u,u2,rfl,ru,rv⟩:=vals2 r
  cases (show u2=Value.ref p from rv)
  obtain ⟨φ,Z,hφ,hne⟩:=Jk I ru ty
  obtain ⟨_,its,rt,o,h1,h2,n,h3⟩:=(show ObjOk X.prog X.w H s.heap p (.tup vs) from I.hok p _ ep)
  obtain rfl:=CV ec rt
  obtain ⟨oc,odd,oda,osl⟩:=o
  dsimp only at h2 h3
  subst h2 h3
  exact PySem.W.kia_tup Z I.kIn hφ h1 e hne fun tk=>⟨.bl b,H,I.tok _,rfl,q⟩
end
end L2
namespace L2
open PySem PySem.Spec PyProof.Rows
theorem fu {X:Cx} (h:∀ (e:Value) (s:Shared),X.xe e s=False):oJ X (fun _ _ _ _=>False):=fun _ _ _ ⟨_,_,_,_,_,_,_,_,z⟩=>z.elim
section
variable {X:Cx} {k:Nat} {f C:Addr} {fd:FuncData} {ps:List Str} {sp:Sp} {R:St→XK} {x:Str} {p pos:Pos} {e:Expr} {es:List Expr} {t:TA} {pins:List (Addr×Obj)} {σ:St} {H:Hp} {s:Shared} {Q:VK} {us:List Value} {vs:List V}
theorem CZ (F:FnOk X.prog X.w X.K X.mg X.base (Je X.prog X.w) k f fd ps sp) (hr:Room k X.A) (hb:Binds X.K fd ps []) (hx:oJ X R) (I:Inv X pins σ H s) (r:Vals vs us) (h:sp vs H Q (R σ)):
  wpAny (model X.prog X.w) X.A (call (.ref f) us) (EP X pins σ Q) X.xe s:=by
 have hl:(us ++ []).length=ps.length:=by rw [List.append_nil,← r.length];exact F.len _ _ _ _ h
 have bd:=hb s us I.kIn hl
 rw [List.append_nil] at bd
 refine wpAny_call (codeAny_mono (F.run X.A X.stack s H ⟨us,[]⟩ us vs Q (R σ) hr I.env0 bd r h) fun rr s' hq=>?_)
 cases rr with
 | error e=>exact hx pins e s' (CQ I hq)
 | ok fl=>
  cases fl with
  | ret u=>exact I.after hq
  | next=>exact False.elim hq
  | brk=>exact False.elim hq
  | cont=>exact False.elim hq
def Jl (K:PySem.W.Frag) (ta tv:TE) (f:Str):TS:=fun D σ H=>tv σ H fun y H1=>ta σ H1 fun x H2=>∃ a C,x= .ref a∧XCls K C∧NoAttr K C f∧
 ((H2 a=some (lM a C)∧∀ d,H2 d=none→d≠a→D.nx σ (upd (upd H2 a (jg a C d)) d (nj d [(f,y)])))∨
  (∃ d fs,H2 a=some (jg a C d)∧H2 d=some (nj d fs)∧fs.length < 1000∧D.nx σ (upd H2 d (nj d (lE f y fs)))))
theorem Nr {o value:Expr} {ta tv:TE} {fn:Str} {pos':Pos} (ha:PE X o ta) (hv:PE X value tv) (hs:swapsWith value (some (.Attribute o fn pos')) pos.line X.env=pure false):PS X (.Assign [.Attribute o fn pos'] value pos) (Jl X.K ta tv fn):=by
 intro pins s σ H D I h
 refine plainObj_wpAny_Assign_Attribute (fJ (hv pins s σ H _ I h) fun u s1 ⟨y,H1,I1,ry,q⟩=>fJ (ha pins s1 σ H1 _ I1 q) fun ov s2 qq0=>?_) hs
 obtain ⟨x,H2,I2,rx,a,C,ex,c,n,q2⟩:=qq0
 subst ex
 obtain rfl:ov=Value.ref a:=rx
 rcases q2 with ⟨e,q2⟩ | ⟨d,fs,e,e2,hl,q2⟩
 ·exact Wy I2 e c n ry fun s3 d z1 z2 I3=>⟨σ,_,I3,q2 d z1 z2⟩
 ·exact Wz I2 e e2 hl c n ry fun s3 I3=>⟨σ,_,I3,q2⟩
def xm (C:Addr) (fl:List Str):Sp:=fun vs H Q E=>∃ x ws,vs= .ref x :: ws∧ws.length=fl.length∧H x=some (lM x C)∧∀ d,H d=none→d≠x→Q .non (upd (upd H x (jg x C d)) d (nj d (fl.zip ws)))
structure WD (P:Program) (w:World) (K:PySem.W.Frag) (mg:Str→Option Value) (base:Heap) (k:Nat) (x:Str) (C:Addr) (fl:List Str):Prop where
 at_:mg x=some (.ref C)
 cl:QD K C
 kp:PySem.W.keepIn K (.ref C)=true
 na:∀ f∈fl,NoAttr K C f
 run:∃ f fd ps,PySem.W.findIn K (.ref C) "__init__"=some (some (.ref f))∧PySem.W.typeIn K (.ref f)=some (.type "function")∧Binds K fd ps []∧FnOk P w K mg base Av k f fd ps (xm C fl)
def Jm (C:Addr) (fl:List Str) (R:St→XK) (t:TA):TS:=fun _ σ H=>t σ H fun vs H1=>vs.length=fl.length∧vs.length≤sizeLine∧∀ x H2,Same H1 H2→YW H2 x C (fl.zip vs)→R σ (.ref C) (some x) H2
theorem Tg {Q:Value→Shared→Prop} {E:Value→Shared→Prop} {fl:List Str} (M:WD X.prog X.w X.K X.mg X.base k x C fl) (hr:Room (k+1) X.A) (I:Inv X pins σ H s) (r:Vals vs us) (hl:vs.length=fl.length) (hz:vs.length≤sizeLine)
  (q:∀ a d s',H a=none→H d=none→d≠a→Inv X pins σ (upd (upd (upd H a (lM a C)) a (jg a C d)) d (nj d (fl.zip vs))) s'→Q (.ref a) s'):wpAny (model X.prog X.w) X.A (call (.ref C) us) Q E s:=by
 obtain ⟨f,fd,ps,hi,hf,hb,F⟩:=M.run
 refine Te I.kIn M.cl.cls.xi hi hf (by rw [← r.length];exact hz) ?_
 have I1:Inv X pins σ H {s with heap:=s.heap.push {cls:=.type "tuple",data:=.seq us.toArray}}:=I.kept (t':=s.toks) fun b o e=>Heap.get?_push_of_some _ e
 have sz1:(s.heap.push {cls:=.type "tuple",data:=.seq us.toArray}).objs.size=s.heap.objs.size+1:=Heap.size_push _ _
 have hfr:H (s.heap.objs.size+1)=none:=I.hok.fresh (Nat.le_succ _)
 have gx:((s.heap.push {cls:=.type "tuple",data:=.seq us.toArray}).push (iK C none #[.ref s.heap.objs.size,.none,.none,.none,.bool false,.none])).get? (s.heap.objs.size+1)=some (iK C none #[.ref s.heap.objs.size,.none,.none,.none,.bool false,.none]):=by
  rw [← sz1];exact Heap.get?_push_size _ rfl
 have I2:Inv X pins σ (upd H (s.heap.objs.size+1) (lM (s.heap.objs.size+1) C)) {s with heap:=(s.heap.push {cls:=.type "tuple",data:=.seq us.toArray}).push (iK C none #[.ref s.heap.objs.size,.none,.none,.none,.bool false,.none])}:=
  I1.laid (t':=s.toks) (fun b o e=>Heap.get?_push_of_some _ e) (by show (s.heap.push _).objs.size≤_;rw [sz1];exact Nat.le_refl _) ⟨⟨_,gx⟩,⟨_,gx⟩,fun h1 h2 ⟨t,z⟩ kk=>⟨t,kk _ z⟩⟩
 have r2:Vals (V.ref (s.heap.objs.size+1) :: vs) (Value.ref (s.heap.objs.size+1) :: us):=.cons rfl r
 have sp0:xm C fl (V.ref (s.heap.objs.size+1) :: vs) (upd H (s.heap.objs.size+1) (lM (s.heap.objs.size+1) C)) (fun v H2=>v= .non∧∃ d,H d=none∧d≠s.heap.objs.size+1∧H2=upd (upd (upd H (s.heap.objs.size+1) (lM (s.heap.objs.size+1) C)) (s.heap.objs.size+1) (jg (s.heap.objs.size+1) C d)) d (nj d (fl.zip vs))) E0:=
  ⟨_,_,rfl,hl,aj,fun d hd ne=>⟨rfl,d,by rw [aB ne] at hd;exact hd,ne,rfl⟩⟩
 have hl2:((Value.ref (s.heap.objs.size+1) :: us) ++ []).length=ps.length:=by rw [List.append_nil,← r2.length];exact F.len _ _ _ _ sp0
 have bd:=hb _ (Value.ref (s.heap.objs.size+1) :: us) I2.kIn hl2
 rw [List.append_nil] at bd
 refine wpAny_call (codeAny_mono (F.run _ X.stack _ _ ⟨Value.ref (s.heap.objs.size+1) :: us,[]⟩ (Value.ref (s.heap.objs.size+1) :: us) _ _ E0 (hr.make C us []) (I2.env0.make C us []) bd r2 sp0) fun rr s' hq=>?_)
 cases rr with
 | error e=>exact False.elim hq
 | ok fl=>
  cases fl with
  | ret u=>
   obtain ⟨v,H',I3,rv,ev,d,hd,ne,eH⟩:=I2.after hq
   subst ev
   rw [eH] at I3
   exact ⟨rv,q _ d s' hfr hd ne I3⟩
  | next=>exact False.elim hq
  | brk=>exact False.elim hq
  | cont=>exact False.elim hq
theorem thrown {env:Env} {C:Addr} {Q:Flow→Shared→Prop} {m:Sem Value} (hc:X.calm=true) (c:QD X.K C) (hx:oJ X R)
  (h:wpAny (model X.prog X.w) X.A m (fun v s1=>∃ x d H1,v= .ref x∧Inv X pins σ H1 s1∧H1 x=some (jg x C d)∧R σ (.ref C) (some x) (upd H1 x (tE x C d))) X.xe s):
  wpAny (model X.prog X.w) X.A (raiseStmt env (some m) none) Q X.xe s:=by
 obtain ⟨nm,qn,N,bs,bm,sn,sub,ab,col,dd,k0,k1,k2,k3,k5,lk0,tl⟩:=Bg c.cls.xi
 unfold raiseStmt
 refine wpAny_bind (fJ h fun v s1 qq0=>?_)
 obtain ⟨x,d,H1,ev,I1,e1,r1⟩:=qq0
 subst ev
 have KI:=I1.kIn
 obtain ⟨t,he⟩:=rB I1.hok e1
 have hh:X.A.handled=none:=I1.ok.hd hc
 have hcB:(Value.ref C :: bm).contains (.type "BaseException")=true:=by
  rw [List.contains_cons,(tl _ KI).hasType (show YT.contains (.type "BaseException")=true from by decide)];rfl
 have fin:X.xe (.ref x) s1:=by
  have I2:Inv X pins σ (upd H1 x (tE x C d)) s1:=I1.write (t':=s1.toks) (x:=x) (e:=x) (h':=s1.heap) (by rw [e1];exact True.intro) (.inl rfl) (fun b o _ z=>z) ⟨_,he⟩ (CP he rfl)
  exact hx pins _ s1 ⟨x,C,d,σ,_,rfl,I2,⟨aj,.inl ⟨_,he,rfl,rfl⟩⟩,r1⟩
 have hD:=KI _ _ lk0
 obtain ⟨hp,g,dr,tk,os⟩:=s1
 unfold iK at he
 repeat (first | with_reducible refine wpAny_loadPart_at he ?_ | with_reducible refine wpAny_loadPart_at hD ?_ | (with_reducible refine wpAny_isSubtype_exc hD ?_;rw [hcB]) | wp_step)
 exact wpAny_raiseNew_none hh fin
end
end L2
namespace L2
open PySem PySem.Spec PyProof.Rows
section
variable {X:Cx} {k:Nat} {C:Addr} {R:St→XK} {x:Str} {p cpos pos:Pos} {e:Expr} {es:List Expr} {t:TA} {fl:List Str}
theorem yV {H:Hp} {a d:Addr} {vs:List V} (ha:H a=none) (hd:H d=none) (ne:d≠a):Same H (upd (upd (upd (upd H a (lM a C)) a (jg a C d)) d (nj d (fl.zip vs))) a (tE a C d))∧
  YW (upd (upd (upd (upd H a (lM a C)) a (jg a C d)) d (nj d (fl.zip vs))) a (tE a C d)) a C (fl.zip vs):=by
 refine ⟨fun b o h=>?_,d,aj,by rw [aB ne,aj]⟩
 have na:b≠a:=fun z=>by rw [z,ha] at h;cases h
 have nd:b≠d:=fun z=>by rw [z,hd] at h;cases h
 rw [aB na,aB nd,aB na,aB na]
 exact h
theorem Jo (M:WD X.prog X.w X.K X.mg X.base k x C fl) (hr:Room (k+1) X.A) (hc:X.calm=true) (hg:Gl X x) (hx:oJ X R) (ha:PA X (e :: es) t) (hdb:(x == ("__debug__":Str))=false)
  (he:starEach (e :: es) X.env=(false,eval e X.env) :: starEach es X.env) (hpl:(backTo cpos (starEach es X.env)).any (·.1)=false):PS X (.Raise (some (.Call (.Name x p) (e :: es) [] cpos)) none pos) (Jm C fl R t):=by
 intro pins s σ H D I h
 rw [arm_exec_Raise]
 refine wpAny_bind (wpAny_standAt (thrown (pins:=pins) (σ:=σ) (C:=C) hc M.cl hx (wpAny_bind (fJ (Q:=fun v s1=>∃ x d H1,v= .ref x∧Inv X pins σ H1 s1∧H1 x=some (jg x C d)∧R σ (.ref C) (some x) (upd H1 x (tE x C d))) ?_ fun v s3 h3=>wpAny_bind (wpAny_standAt (wpAny_pure h3))))))
 refine wpAny_Call_Name_kw (qm I hg M.at_ ?_ hdb)
 refine PySem.W.callWith_K (h₀:=X.base) I.ok.mod.kin M.kp (fJ (ha cpos pins s σ H _ I h) fun us s1 ⟨vs,H1,I1,r,hl,hz,q⟩=>⟨I1.kIn,?_⟩) he hpl
 refine Tg M hr I1 r hl hz fun a d s2 z1 z2 ne I2=>⟨a,d,_,rfl,I2,?_,?_⟩
 ·rw [aB (Ne.symm ne),aj]
 ·obtain ⟨w1,w2⟩:=yV (C:=C) (fl:=fl) (vs:=vs) z1 z2 ne
  exact q a _ w1 w2
end
section
variable {X:Cx} {pins:List (Addr×Obj)} {σ σ':St} {H:Hp} {s:Shared} {h':Heap}
end
end L2
namespace L2
open PySem PySem.Spec PyProof.Rows
section
variable {X:Cx} {pins pins':List (Addr×Obj)} {σ:St} {H:Hp} {s:Shared} {x C d T:Addr} {R:St→XK} {D:Ends}
abbrev TH:=Ends→St→Addr→Addr→Hp→Prop
def PH (X:Cx) (hs:List ExceptHandler) (th:TH):Prop:=∀ (pins:List (Addr×Obj)) (s:Shared) (σ:St) (H:Hp) (D:Ends) (x C d T:Addr),Inv X pins σ H s→Head X pins H x C d T s.heap→th D σ x C H→
 wpAny (model X.prog X.w) X.A (handleBy (.ref x) X.env hs) (SP X pins D) X.xe s
variable {nm n:Str} {P:Addr} {i:Nat} {p pos:Pos} {b0:Stmt} {suite:List Stmt} {ts:TS} {th:TH} {hs:List ExceptHandler}
end
end L2
namespace L2
open PySem PySem.Spec PyProof.Rows
def aD (mg:Str→Option Value) (x:Str):Addr:=match mg x with
 | some (.ref a)=>a
 | _=>0
theorem gW {mg:Str→Option Value} {x:Str} {C:Addr} (h:mg x=some (.ref C)):aD mg x=C:=by unfold aD;rw [h]
structure Th (K:PySem.W.Frag) (mg:Str→Option Value) (x:Str):Prop where
 at_:mg x=some (.ref (aD mg x))
 cl:QD K (aD mg x)
theorem WF {K:PySem.W.Frag} {mg:Str→Option Value} {h:Heap} (X:K.In h) (G:h.Ns mainGlobals mg) {x:Str} {C:Addr} (a:PySem.W.nsIn K mainGlobals x=some (some (.ref C))) (b:CT K C=true):Th K mg x:=by
 have m:=PySem.W.mg_of X G a
 have e:=gW m
 exact ⟨by rw [e];exact m,by rw [e];exact Jg b⟩
structure pI (K:PySem.W.Frag) (mg:Str→Option Value) (x:Str) (fl:List Str) (qual:Str) (st:Stmt):Prop where
 c:Th K mg x
 kp:PySem.W.keepIn K (.ref (aD mg x))=true
 na:∀ f∈fl,NoAttr K (aD mg x) f
 ini:∃ f fd,PySem.W.findIn K (.ref (aD mg x)) "__init__"=some (some (.ref f))∧PySem.W.typeIn K (.ref f)=some (.type "function")∧Fun K "__init__" qual st f fd
def Jp (K:PySem.W.Frag) (C:Addr) (fl:List Str):Bool:=fl.all fun n=>PySem.W.findIn K (.ref C) n == some none
theorem uA {K:PySem.W.Frag} {mg:Str→Option Value} {h:Heap} (X:K.In h) (G:h.Ns mainGlobals mg) {x qual:Str} {C f:Addr} {fl:List Str} {st:Stmt} {oc:Value} {od an:Option Addr} {osl:Array (Option Value)} {kV doc pm cdv ct:Value}
  (a:PySem.W.nsIn K mainGlobals x=some (some (.ref C))) (b:CT K C=true) (kp:PySem.W.keepIn K (.ref C)=true) (na:Jp K C fl=true)
  (i:PySem.W.findIn K (.ref C) "__init__"=some (some (.ref f))) (t:PySem.W.typeIn K (.ref f)=some (.type "function"))
  (l:K.lookup f=some ⟨oc,od,.func (PySem.W.fnOf "__init__" qual (gw st) (cj st) (aq st) .none kV doc pm an cdv ct),osl⟩) (c:PySem.W.codeIn K cdv qual=true) (k:PySem.W.keepIn K (.ref f)=true):pI K mg x fl qual st:=by
 have m:=PySem.W.mg_of X G a
 have e:=gW m
 refine ⟨WF X G a b,by rw [e];exact kp,fun n hn=>?_,f,_,by rw [e];exact i,t,uh l c k⟩
 rw [e]
 have:=List.all_eq_true.mp na n hn
 exact beq_iff_eq.mp this
structure Sub (K:PySem.W.Frag) (mg:Str→Option Value) (x y:Str) (b:Bool):Prop where
 mro:PySem.W.mroIn K (aD mg x) (.ref (aD mg y))=some b
 one:PySem.W.kitOne K (.ref (aD mg x)) (.ref (aD mg y))=some b
theorem gB {K:PySem.W.Frag} {mg:Str→Option Value} {h:Heap} (X:K.In h) (G:h.Ns mainGlobals mg) {x y:Str} {C P:Addr} {r:Bool} (a:PySem.W.nsIn K mainGlobals x=some (some (.ref C))) (b:PySem.W.nsIn K mainGlobals y=some (some (.ref P)))
  (m:PySem.W.mroIn K C (.ref P)=some r) (o:PySem.W.kitOne K (.ref C) (.ref P)=some r):Sub K mg x y r:=by
 have e:=gW (PySem.W.mg_of X G a)
 have e2:=gW (PySem.W.mg_of X G b)
 exact ⟨by rw [e,e2];exact m,by rw [e,e2];exact o⟩
structure JH (X:Cx) (hs:List ExceptHandler) (th:TH):Prop where
 run:PH X hs th
section
variable {X:Cx} {K:PySem.W.Frag} {k:Nat} {x n fn:Str} {ps:List Str} {sp:Sp} {R:St→XK} {p pos cpos pos':Pos} {e o value:Expr} {es:List Expr} {t:TA} {ta tv:TE} {st:Stmt} {u ts:TS} {th:TH} {hs:List ExceptHandler} {i:Nat}
theorem yW {C:Addr} (hg:Gl X x) (hm:X.mg x=some (.ref C)) (hd:(x == ("__debug__":Str))=false):JE X (.Name x pos) (tC (.ref C)):=⟨wH hg hm rfl hd⟩
theorem Nt (hK:X.K=K) (ha:JE X o ta) (hv:JE X value tv) (h:autoParam (lq value=true) L2.auto4._auto_1):JS X (.Assign [.Attribute o fn pos'] value pos) (Jl K ta tv fn):=by
 subst hK
 exact ⟨Nr ha.run hv.run (vV h)⟩
theorem Jq {fl:List Str} (M:WD X.prog X.w X.K X.mg X.base k x (aD X.mg x) fl) (hr:Room (k+1) X.A) (hc:X.calm=true) (hg:Gl X x) (hx:oJ X R) (ha:JA X (e :: es) t) (hdb:(x == ("__debug__":Str))=false) (h:autoParam ((e :: es).all notStar=true) L2.auto4._auto_1):
  JS X (.Raise (some (.Call (.Name x p) (e :: es) [] cpos)) none pos) (Jm (aD X.mg x) fl R t):=by
 have h1:notStar e=true:=by simp only [List.all_cons,Bool.and_eq_true] at h;exact h.1
 have h2:es.all notStar=true:=by simp only [List.all_cons,Bool.and_eq_true] at h;exact h.2
 exact ⟨Jo M hr hc hg hx ha.run hdb (cA h1) (m5 h2)⟩
end
section
variable {P:Program} {w:World} {K:PySem.W.Frag} {mg:Str→Option Value} {base:Heap}
theorem mkX {x qual:Str} {st:Stmt} {N ps:List Str} {fl:List Str} {k:Nat} (D:pI K mg x fl qual st) (S:aC N ps (aq st))
  (hb:∀ (kV doc pm:Value) (an:Option Addr) (cdv ct:Value) (us:List Value),us.length=ps.length→bindArgs (PySem.W.fnOf "__init__" qual (gw st) (cj st) (aq st) .none kV doc pm an cdv ct) ⟨us,[]⟩=pure (ps.zip us))
  (hl:ps.length=fl.length+1)
  (hbody:∀ (f:Addr) (cdv:Value) (A:Around) (outer:List Env) (s:Shared) (H:Hp) (vs:List V) (Q:VK) (E:XK),Room k (A.deeper (envOfC qual (aq st) s.heap.objs.size f cdv))→xm (aD mg x) fl vs H Q E→
   ∃ t,JB (pG Av P w K mg base N qual (aq st) f cdv A outer s H E).nox (cj st) t∧t {nx:=fun _ H'=>Q .non H',rt:=Q} (start N vs) H):WD P w K mg base (k+1) x (aD mg x) fl:=by
 obtain ⟨f,fd,a,b,F⟩:=D.ini
 refine ⟨D.c.at_,D.c.cl,D.kp,D.na,f,fd,ps,a,b,F.binds hb,F.ok S (fun vs H Q E h=>?_) fun cdv A outer s H vs Q E hr h=>let ⟨t,j,q⟩:=hbody f cdv A outer s H vs Q E hr h;⟨t,j.run,q⟩⟩
 obtain ⟨y,ws,rfl,hw,_⟩:=h
 rw [List.length_cons,hw,hl]
end
end L2
namespace L2
open PySem PySem.Spec PyProof.Rows
def initOf:Stmt→Stmt
 | .ClassDef _ _ _ (s :: _) _ _ _ _ _ _ _=>s
 | s=>s
section
variable {σ:St} {H:Hp} {D:Ends} {Q:VK} {sp:Sp} {R:St→XK} {a:TA} {K:PySem.W.Frag} {C P:Addr} {fl:List Str} {th:TH} {ts:TS} {i:Nat} {ta:TE} {f:Str}
theorem uB {x v:V} {t c:Value} {b:Bool} (ty:TyOf K H x t) (e:YX v=some c) (o:PySem.W.kitOne K t c=some b) (h:Q (.bl b) H):CW K [x,v] H Q:=⟨x,t,b,.inl ty,.inl ⟨v,c,rfl,e,o⟩,h⟩
theorem xn {x:V} {t:Value} {p:Addr} {vs:List V} {cs:List Value} {b:Bool} (ty:TyOf K H x t) (hp:H p=some (.tup vs)) (e:Jj vs=some cs) (o:PySem.W.kitAny K t cs=some b) (h:Q (.bl b) H):CW K [x,.ref p] H Q:=
 ⟨x,t,b,.inl ty,.inr ⟨p,vs,cs,rfl,hp,e,o⟩,h⟩
theorem rd1 {f1 p0 p1:Str} {vs:List V} {E:XK} (c:XCls K C) (n:NoAttr K C f1) (h:xm C [f1] vs H Q E):Jl K (qW 0) (qW 1) f1 {nx:=fun _ H'=>Q .non H',rt:=Q} (start [p0,p1] vs) H:=by
 obtain ⟨x,ws,rfl,hw,hx,q⟩:=h
 match ws,hw with
 | [v],_=>exact ⟨v,rfl,.ref x,rfl,x,C,rfl,c,n,.inl ⟨hx,fun d hd ne=>q d hd ne⟩⟩
end
end L2
namespace L2
open PySem PySem.Spec PyProof.Rows
def Fd (lo c:Int) (n:Nat):It:=⟨fun i _=>i < n,fun i H x H'=>H'=H∧x= .int (lo+i*c),fun i _=>n≤i⟩
theorem Fe {P:Program} {w:World} {K:PySem.W.Frag} {tg:Expr} (it:Addr) (lo c:Int) (n:Nat):Turn P w K tg (Fd lo c n) [it] it (fun i h=>IsRangeIter h it (lo+(i:Nat)*c) ((n:Int) - (i:Nat)) c) where
 mem:=by simp
 obj:=fun i h st b hb=>by
  obtain rfl:b=it:=by simpa using hb
  exact ⟨_,st,fun v z=>by
   have z2:Data.fields _=Data.cell v:=z
   cases z2⟩
 keep:=fun i h h' st k=>k it (by simp) _ st
 item:=by
  intro X hP hw hK hc i pins s σ H E I hf st hg
  subst hP hw hK
  obtain ⟨f0,f1,f2,f3,f4,f5⟩:=hf it (by simp)
  have W:=Walks.range (prog:=X.prog) (w:=X.w) (I.ok.hd hc) it lo c n
  refine W.item i s _ _ hg st fun v h' tk hv st' kk=>?_
  obtain ⟨t,rfl⟩:=hv
  have I1:Inv X pins σ H {s with heap:=h',toks:=tk}:=I.turned (fun b o hb e=>kk b o (by simpa using hb) e) f0 f1 f3 f4 f5
  exact ⟨_,rfl,yr (s:={s with heap:=h',toks:=tk}) (n:="range_iterator") st' rfl rfl (by decide) ⟨.int (lo+i*c),H,I1,⟨t,rfl⟩,⟨rfl,rfl⟩,st',fun b hb=>(hf b hb).1⟩⟩
 done:=by
  intro X hP hw hK hc i pins s σ H E I hf st hg
  subst hP hw hK
  obtain ⟨f0,f1,f2,f3,f4,f5⟩:=hf it (by simp)
  exact wpAny_pyNext_range_end (I.ok.hd hc) st (by have:n≤i:=hg;omega) fun h' eb=>⟨rfl,I.turned (t':=s.toks) (fun b o hb e=>eb b o hb e) f0 f1 f3 f4 f5⟩
 self:=fun _ _ _ _ _ st h=>wpAny_pyIter_rangeiter st h
def Jr (ta:TA):TI:=fun σ H R=>ta σ H fun vs H1=>∃ (i j c:Int) (n:Nat),vs=[.int i,.int j,.int c]∧c≠0∧Builtin.divisionGoesByPylong (j - i) c=false∧Builtin.Range.small i j c=true∧Builtin.Range.rangeSize i j c=(n:Int)∧R (Fd i c n) H1
section
variable {X:Cx} {tg:Expr}
theorem Ff {a b c:Expr} {ta:TA} {p pos:Pos} (hg:Gl X "range") (hm:X.mg "range"=none) (ha:PA X [a,b,c] ta) (hs:starEach [a,b,c] X.env=(false,eval a X.env) :: starEach [b,c] X.env) (hs2:(backTo pos (starEach [b,c] X.env)).any (·.1)=false):
  PI X tg (.Call (.Name "range" p) [a,b,c] [] pos) (Jr ta):=by
 intro pins s σ H R I h
 refine Call_ (jz I hg hm boot_range (PyProof.Rows.callWith_type1 (fJ (ha pos pins s σ H _ I h) fun us s1 ⟨vs,H1,I1,r1,q1⟩=>?_) hs hs2))
 obtain ⟨i,j,c,n,rfl,hc,hd,hsm,hn,q⟩:=q1
 cases r1 with
 | cons r rr=>
  cases rr with
  | cons r' rr=>
   cases rr with
   | cons r'' rr=>
    cases rr
    obtain ⟨t,rfl⟩:=r
    obtain ⟨t',rfl⟩:=r'
    obtain ⟨t'',rfl⟩:=r''
    refine call_range_3 hc ?_ (.inl hd)
    refine wpAny_pyIter_range (IsRange.new ..) hsm ?_
    have I2:Inv X pins σ H1 {s1 with heap:=s1.heap.push {cls:=.type "range",data:=.fields #[.int i t,.int j t',.int c t'']}}:=I1.kept (t':=s1.toks) fun b o e=>Heap.get?_push_of_some _ e
    refine ⟨(s1.heap.push {cls:=.type "range",data:=.fields #[.int i t,.int j t',.int c t'']}).objs.size,[(s1.heap.push {cls:=.type "range",data:=.fields #[.int i t,.int j t',.int c t'']}).objs.size],_,_,H1,rfl,
     I2.kept (t':=s1.toks) fun b o e=>Heap.get?_push_of_some _ e,Fe _ i c n,?_,fun b hb=>?_,q⟩
    ·have e1:i+((0:Nat):Int)*c=i:=by simp
     have e2:(n:Int) - ((0:Nat):Int)=Builtin.Range.rangeSize i j c:=by rw [hn];simp
     show IsRangeIter _ _ (i+((0:Nat):Int)*c) ((n:Int) - ((0:Nat):Int)) c
     rw [e1,e2]
     exact Heap.get?_push_size _ rfl
    ·obtain rfl:b=(s1.heap.push {cls:=.type "range",data:=.fields #[.int i t,.int j t',.int c t'']}).objs.size:=by simpa using hb
     exact I2.fpOk (Nat.le_refl _) (I2.hok.fresh (Nat.le_refl _))
theorem v4 {a b c:Expr} {ta:TA} {p pos:Pos} (hg:Gl X "range") (hm:X.mg "range"=none) (ha:JA X [a,b,c] ta) (h:autoParam (notStar a=true) L2.auto4._auto_1) (h2:autoParam ([b,c].all notStar=true) L2.auto4._auto_1):JI X tg (.Call (.Name "range" p) [a,b,c] [] pos) (Jr ta):=
 ⟨Ff hg hm ha.run (cA h) (m5 h2)⟩
end
theorem Fg {j:Int} (h0:0≤j) (h1:j < 2 ^ 60):Builtin.Range.small 0 j 2=true:=by
 unfold Builtin.Range.small Builtin.Range.rangeSize
 simp only [Builtin.Range.rangeFitsLong,Bool.and_eq_true,Bool.or_eq_true,decide_eq_true_eq,beq_iff_eq,show (2:Int) > 0 by decide,if_true]
 split <;> omega
theorem Js {j:Nat}:Builtin.Range.rangeSize 0 j 2=((j+1) / 2:Nat):=by
 unfold Builtin.Range.rangeSize
 simp only [show (2:Int) > 0 by decide,if_true]
 split <;> omega
section
variable {σ:St} {H:Hp} {Q:VK}
theorem dB {a:TA} {R:It→Hp→Prop} (h:a σ H fun vs H1=>∃ (i j c:Int) (n:Nat),vs=[.int i,.int j,.int c]∧c≠0∧Builtin.divisionGoesByPylong (j - i) c=false∧Builtin.Range.small i j c=true∧Builtin.Range.rangeSize i j c=(n:Int)∧R (Fd i c n) H1):Jr a σ H R:=h
theorem yX {lo c:Int} {n:Nat} {g:TG} {tb:TS} {D:Ends} (Pv:Nat→St→Hp→Prop) (h0:Pv 0 σ H)
  (hs:∀ i σ H,i < n→Pv i σ H→g (.int (lo+i*c)) σ H fun σ2 H2=>tb {D with nx:=Pv (i+1),ct:=Pv (i+1),bk:=D.nx} σ2 H2) (hd:∀ σ H,Pv n σ H→D.nx σ H):
  ∃ W:Nat→Nat→St→Hp→Prop,(∃ m,W 0 m σ H)∧∀ i m σ H,W i m σ H→
   ((Fd lo c n).stop i H∧D.nx σ H)∨((Fd lo c n).go i H∧∃ N:St→Hp→Prop,(∀ σ' H',N σ' H'→∃ m',m' < m∧W (i+1) m' σ' H')∧∀ x H',(Fd lo c n).yld i H x H'→g x σ H' fun σ2 H2=>tb {D with nx:=N,ct:=N,bk:=D.nx} σ2 H2):=by
 refine ⟨fun i m σ H=>m=n - i∧i≤n∧Pv i σ H,⟨n,by simp,Nat.zero_le _,h0⟩,?_⟩
 rintro i m σ H ⟨rfl,hi,p⟩
 by_cases hlt:i < n
 ·refine .inr ⟨hlt,Pv (i+1),fun σ' H' p'=>⟨n - (i+1),by omega,rfl,hlt,p'⟩,fun x H' y=>?_⟩
  obtain ⟨rfl,rfl⟩:=y
  exact hs i σ _ hlt p
 ·obtain rfl:i=n:=by omega
  exact .inl ⟨Nat.le_refl _,hd σ H p⟩
end
section
variable {X:Cx} {e:Expr} {te:TE} {lo hi:Option Expr} {st:Expr} {tl th ts:TO} {pos p2:Pos}
theorem xq:JE X (.Dict [] [] pos) Aw:=⟨HN⟩
end
section
variable {σ:St} {H:Hp} {Q:VK} {te:TE}
theorem dD (h:∀ p,H p=none→Q (.ref p) (upd H p (.dK []))):Aw σ H Q:=h
end
def WK (K:PySem.W.Frag) (neg:Bool):R2:=fun x y H Q=>∃ a b xs,x= .ref a∧y= .ref b∧SqL K H a xs∧SqL K H b xs∧(∀ v∈xs,jl v=true∨∃ r,v= .ref r)∧Q (.bl (!neg)) H
theorem qI {v:V} (f:jl v=true):Cu v v=true:=by
 cases v <;> first | (cases f;done) | rfl | (simp [Cu])
section
variable {X:Cx}
theorem Ti (hu:X.A.units < cLine):OpR X (compareOp .Eq) (WK X.K false):=by
 intro pins s σ H x y v u Q I rx ry h
 obtain ⟨a,b,xs,rfl,rfl,ha,hb,fx,q⟩:=h
 cases rx
 cases ry
 obtain ⟨its,r1,p1,z1⟩:=I.list ha
 obtain ⟨jts,r2,p2,z2⟩:=I.list hb
 have l1:its.toArray.size=xs.length:=by simpa using r1.length.symm
 have l2:jts.toArray.size=xs.length:=by simpa using r2.length.symm
 refine SeqAt.eq_listAt (e:=fun _=>true) p1.isList p2.isList (by rw [l1,l2]) hu (fun j h1 h2=>?_) ?_
 ·have hj:j < xs.length:=by omega
  obtain ⟨u1,e1,q1⟩:=r1.get (List.getElem?_eq_getElem hj)
  obtain ⟨u2,e2,q2⟩:=r2.get (List.getElem?_eq_getElem hj)
  have f1:its.toArray[j]=u1:=by
   obtain ⟨_,z⟩:=List.getElem?_eq_some_iff.mp e1
   simpa using z
  have f2:jts.toArray[j]=u2:=by
   obtain ⟨_,z⟩:=List.getElem?_eq_some_iff.mp e2
   simpa using z
  rw [f1,f2]
  rcases fx _ (List.getElem_mem hj) with f | ⟨r,f⟩
  ·rw [← qI f]
   exact q9 q1 q2 f f
  ·rw [f] at q1 q2
   cases (show u1=Value.ref r from q1)
   cases (show u2=Value.ref r from q2)
   exact SeqAt.EqAt.same _
 ·have e:(List.range its.toArray.size).all (fun _=>true)=true:=by simp
  rw [e]
  exact ⟨.bl true,H,I,rfl,q⟩
def Jt (K:PySem.W.Frag):R2:=fun x y H Q=>Ng K x y H Q∨WK K false x y H Q
theorem Tj {K:PySem.W.Frag} (hK:X.K=K) (hu:X.A.units+64 < cLine):OpR X (compareOp .Eq) (Jt K):=by
 subst hK
 exact (Td rfl hu).or (Ti (Nat.lt_of_le_of_lt (Nat.le_add_right _ _) hu))
end
section
variable {H:Hp} {Q:VK} {K:PySem.W.Frag}
theorem cI {i j:Int} (h:Q (.bl (decide (V.int i=V.int j))) H):Jt K (.int i) (.int j) H Q:=.inl (cC h)
theorem cJ {i j:Str} (h:Q (.bl (decide (V.str i=V.str j))) H):Jt K (.str i) (.str j) H Q:=.inl (cF h)
theorem Tp {a b:Addr} {xs:List V} (h1:SqL K H a xs) (h2:SqL K H b xs) (f:∀ v∈xs,jl v=true∨∃ r,v= .ref r) (h:Q (.bl true) H):Jt K (.ref a) (.ref b) H Q:=.inr ⟨a,b,xs,rfl,rfl,h1,h2,f,h⟩
end
end L2
namespace L2
open PySem PySem.Spec PyProof.Rows
open AutoSeq1 (wpAny_loadPart')
theorem Bh:isSubtype (.type "dict") (.type "dict")=pure true:=by rw [isSubtype_type];kernel_rfl
theorem Fi {prog:Program} {w:World} {A:Around} {E:Value→Shared→Prop} {s:Shared} {Q:Value→Shared→Prop} {a:Addr} {o:Obj} {e:DictEntry} {ep:Nat} {k:Key} (ho:s.heap.get? a=some o) (hc:o.cls= .type "dict") (hd:o.data= .dict #[e] ep)
  (hkey:(dI prog w).is k e.key=true) (hh:e.hash=(dI prog w).hash k) (hsm:(a == sysModules)=false) (hu:A.units < cLine) (h:Q (.bool true) s):wpAny (model prog w) A (compareOp .Eq (.ref a) (.ref a)) Q E s:=by
 show wpAny _ _ (richCompare .Eq (.ref a) (.ref a)) _ _ _
 refine wpAny_richCompare_same_room ⟨o,ho,hc⟩ ⟨o,ho,hc⟩ F.slot_dict_eq (wpAny_call (codeAny_call_builtin F.slot_dict_eq.plain F.entry_dict_eq (F.slot_dict_eq.check _ _ _ _ _ _ _ _ ⟨o,ho,hc⟩ (F.args_dict_eq_2 _ _) ?_))) hu
 have ko:KeysOf (dI prog w) #[e]:=fun x hx=>by
  simp at hx
  subst hx
  exact ⟨k,hkey,hh⟩
 have f2:=Bh
 obtain ⟨hp,g,d,tk,os⟩:=s
 have hT:(⟨hp,g,d,tk,os⟩:Shared).TypeIs (.ref a) "dict":=⟨_,ho,hc⟩
 unfold Builtin.«dict.__eq__»
 wp_walk using wpAny_loadPart' ho
 have en:∀ (Q:Array DictEntry→Shared→Prop) (E:Value→Shared→Prop),Q #[e] ⟨hp,g,d,tk,os⟩→wpAny (model prog w) A.in1 (dictEntries a) Q E ⟨hp,g,d,tk,os⟩:=fun Q E q=>by
  unfold dictEntries
  refine wpAny_bind (wpAny_loadPart ho ?_)
  simp only [hd]
  exact wpAny_pure q
 have eo:∀ (Q:Nat→Shared→Prop) (E:Value→Shared→Prop),Q ep ⟨hp,g,d,tk,os⟩→wpAny (model prog w) A.in1 (dictEpoch a) Q E ⟨hp,g,d,tk,os⟩:=fun Q E q=>by
  unfold dictEpoch
  refine wpAny_bind (wpAny_loadPart ho ?_)
  simp only [hd]
  exact wpAny_pure q
 simp only [hd]
 refine wpAny_pure ?_
 refine wpAny_bind (en _ _ ?_)
 rw [if_neg (by simp)]
 refine wpAny_bind (eo _ _ ?_)
 refine wpAny_bind ?_
 rw [Std.Legacy.Range.forIn_eq_forIn_range']
 simp only [Std.Legacy.Range.size,Nat.sub_zero,Nat.add_sub_cancel,Nat.div_one]
 show wpAny _ _ (forIn [0] _ _) _ _ _
 rw [List.forIn_cons]
 refine wpAny_bind (wpAny_bind (en _ _ ?_))
 show wpAny _ _ (holding [e.key,e.val] _ >>=_) _ _ _
 refine wpAny_bind (wpAny_holding ?_)
 refine wpAny_bind (show wpAny (model prog w) A.in1 (dictFind a e.key e.hash) _ _ _ from ?_)
 rw [hh]
 refine wpAny_dictFind_of hkey ho hd ko ?_
 have fi:(#[e]:Array DictEntry).findIdx? (fun e=>(dI prog w).is k e.key)=some 0:=by simp [hkey]
 rw [fi]
 refine wpAny_bind (en _ _ ?_)
 show wpAny _ _ (holding [e.val] (eqBool e.val e.val)) _ _ _
 refine wpAny_holding (SeqAt.EqAt.same e.val prog w _ _ ?_)
 rw [if_neg (by simp)]
 refine wpAny_bind (eo _ _ ?_)
 rw [if_neg (by simp)]
 refine wpAny_pure ?_
 show wpAny _ _ (forIn [] _ _) _ _ _
 rw [List.forIn_nil]
 refine wpAny_pure (wpAny_pure ?_)
 exact wpAny_pure ⟨(fun z=>nomatch z),h⟩
section
variable {X:Cx}
def QF (K:PySem.W.Frag):R2:=fun x y H Q=>∃ a b xs,x= .ref a∧y= .ref b∧SqT K H a xs∧SqT K H b xs∧(∀ v∈xs,jl v=true∨∃ r,v= .ref r)∧Q (.bl true) H
theorem Nu (hu:X.A.units < cLine):OpR X (compareOp .Eq) (QF X.K):=by
 intro pins s σ H x y v u Q I rx ry h
 obtain ⟨a,b,xs,rfl,rfl,ha,hb,fx,q⟩:=h
 cases rx
 cases ry
 obtain ⟨its,r1,p1,z1⟩:=I.tuple ha
 obtain ⟨jts,r2,p2,z2⟩:=I.tuple hb
 have l1:its.toArray.size=xs.length:=by simpa using r1.length.symm
 have l2:jts.toArray.size=xs.length:=by simpa using r2.length.symm
 refine SeqAt.eq_tupleAt (e:=fun _=>true) p1 p2 hu (fun j h1 h2=>?_) ?_
 ·have hj:j < xs.length:=by omega
  obtain ⟨u1,e1,q1⟩:=r1.get (List.getElem?_eq_getElem hj)
  obtain ⟨u2,e2,q2⟩:=r2.get (List.getElem?_eq_getElem hj)
  have f1:its.toArray[j]=u1:=by
   obtain ⟨_,z⟩:=List.getElem?_eq_some_iff.mp e1
   simpa using z
  have f2:jts.toArray[j]=u2:=by
   obtain ⟨_,z⟩:=List.getElem?_eq_some_iff.mp e2
   simpa using z
  rw [f1,f2]
  rcases fx _ (List.getElem_mem hj) with f | ⟨r,f⟩
  ·rw [← qI f]
   exact q9 q1 q2 f f
  ·rw [f] at q1 q2
   cases (show u1=Value.ref r from q1)
   cases (show u2=Value.ref r from q2)
   exact SeqAt.EqAt.same _
 ·have e:((List.range (min its.toArray.size jts.toArray.size)).all (fun _=>true) && its.toArray.size == jts.toArray.size)=true:=by rw [l1,l2];simp
  rw [e]
  exact ⟨.bl true,H,I,rfl,q⟩
def QG:R2:=fun x y H Q=>∃ a k v,x= .ref a∧y= .ref a∧H a=some (.dK [(k,v)])∧Q (.bl true) H
theorem Nv (hu:X.A.units < cLine):OpR X (compareOp .Eq) QG:=by
 intro pins s σ H x y v u Q I rx ry h
 obtain ⟨a,k,z,rfl,rfl,ha,q⟩:=h
 cases rx
 cases ry
 obtain ⟨_,hsm,vs,kv,o,es,ep,h1,h2,h3,h4,h5,h6⟩:=(show ObjOk X.prog X.w H s.heap a (.dK [(k,z)]) from I.hok a _ ha)
 cases kv with
 | cons a1 a2=>
  cases a2
  obtain ⟨l⟩:=es
  dsimp only at h5
  cases h5 with
  | @cons en _ _ _ p1 p2 p3=>
   cases p3
   obtain ⟨k',b1,b2⟩:=h4 en (by simp)
   exact Fi (e:=en) h1 h2.1 h3 b1 b2 hsm hu ⟨.bl true,H,I,rfl,q⟩
def Ny (K:PySem.W.Frag):R2:=fun x y H Q=>Jt K x y H Q∨QF K x y H Q∨QG x y H Q
theorem jW {K:PySem.W.Frag} (hK:X.K=K) (hu:X.A.units+64 < cLine):OpR X (compareOp .Eq) (Ny K):=by
 subst hK
 exact (Tj rfl hu).or ((Nu (Nat.lt_of_le_of_lt (Nat.le_add_right _ _) hu)).or (Nv (Nat.lt_of_le_of_lt (Nat.le_add_right _ _) hu)))
end
section
variable {H:Hp} {Q:VK} {K:PySem.W.Frag}
theorem bH {σ:St} {r r':R2} {ta tb tc:TE} (h:ta σ H fun x H1=>tb σ H1 fun y H2=>r x y H2 fun z H3=>∃ k,z= .bl k∧if k=true then tc σ H3 fun w H4=>r' y w H4 Q else Q (.bl false) H3):t8 r r' ta tb tc σ H Q:=h
theorem cL {i j:Int} (h:Q (.bl (decide (V.int i=V.int j))) H):Ny K (.int i) (.int j) H Q:=.inl (cI h)
theorem cM {i j:Str} (h:Q (.bl (decide (V.str i=V.str j))) H):Ny K (.str i) (.str j) H Q:=.inl (cJ h)
end
end L2
namespace L2
open PySem PySem.Spec PyProof.Rows PySem.SeqAt
theorem Nz (lo hi:Option Int) (n:Nat):Builtin.Str.strSliceIndices lo hi 1 n=(List.range (HT.sIx n n hi - HT.sIx n 0 lo)).map fun k=>HT.sIx n 0 lo+k:=by
 have c:∀ (i:Int) (d:Nat),max 0 (min (if i < 0 then i+(n:Int) else i) (n:Int))=((HT.sIx n d (some i):Nat):Int):=by
  intro i d
  rw [← HT.clip_eq]
  split <;> omega
 have key:∀ a b:Nat,(List.range (if (a:Int) < (b:Int) then ((b:Int) - a+1 - 1) / 1 else 0).toNat).map (fun k:Nat=>((a:Int)+1*(k:Int)).toNat)=(List.range (b - a)).map fun k=>a+k:=by
  intro a b
  have e3:(if (a:Int) < (b:Int) then ((b:Int) - a+1 - 1) / 1 else 0).toNat=b - a:=by split <;> omega
  rw [e3]
  refine List.map_congr_left fun k _=>?_
  omega
 unfold Builtin.Str.strSliceIndices sliceRange
 simp only [show (1:Int) > 0 by decide,if_true]
 cases lo with
 | none=>
  cases hi with
  | none=>exact key 0 n
  | some j=>rw [← key,← c j n];rfl
 | some i=>
  cases hi with
  | none=>rw [← key,← c i 0];rfl
  | some j=>rw [← key,← c i 0,← c j n]
theorem QH {α β:Type} {f:α→Option β} {g:α→β}:∀ (l:List α),(∀ k∈l,f k=some (g k))→l.filterMap f=l.map g
 | [],_=>rfl
 | k :: l,h=>by rw [List.filterMap_cons,h k (by simp),List.map_cons,QH l fun j hj=>h j (List.mem_cons_of_mem _ hj)]
theorem Fj (l:List Nat) (a m:Nat) (h:a+m≤l.length):((List.range m).map fun k=>a+k).filterMap (fun i=>l[i]?)=(l.drop a).take m:=by
 rw [List.filterMap_map,QH (g:=fun k=>l.getD (a+k) 0)]
 ·refine List.ext_getElem? fun i=>?_
  rw [List.getElem?_map,List.getElem?_take]
  by_cases hi:i < m
  ·rw [if_pos hi,List.getElem?_range hi,List.getElem?_drop,List.getElem?_eq_getElem (by omega)]
   simp [List.getElem?_eq_getElem (show a+i < l.length by omega)]
  ·rw [if_neg hi,List.getElem?_eq_none (by simp;omega)];rfl
 ·intro k hk
  have hk:=List.mem_range.mp hk
  show l[a+k]?=_
  rw [List.getD_eq_getElem?_getD,List.getElem?_eq_getElem (by omega)];rfl
theorem v5 (z:Str) (lo hi:Option Int):(Txt.slice z lo hi).cps.toList=(z.cps.toList.drop (HT.sIx z.length 0 lo)).take (HT.sIx z.length z.length hi - HT.sIx z.length 0 lo):=by
 have hn:z.cps.toList.length=z.length:=by simp [Str.length]
 have la:=HT.sIx_le z.length 0 (Nat.zero_le _) lo
 have lb:=HT.sIx_le z.length z.length (Nat.le_refl _) hi
 unfold Txt.slice
 rw [Nz]
 generalize HT.sIx z.length 0 lo=a at la ⊢
 generalize HT.sIx z.length z.length hi=b at lb ⊢
 split
 ·rename_i h
  simp at h
  have ha:a=0:=by
   rcases Nat.eq_zero_or_pos z.length with h0 | h0
   ·omega
   ·omega
  subst ha
  rw [List.drop_zero,List.take_of_length_le (by omega)]
 ·show List.filterMap (fun x=>z.cps[x]?) _=_
  have e:(fun x:Nat=>z.cps[x]?)=fun x=>z.cps.toList[x]?:=by funext x;simp
  rw [e]
  by_cases h:a≤b
  ·exact Fj _ a (b - a) (by omega)
  ·rw [show b - a=0 by omega];simp
theorem yZ (z:Str) (k:Nat):(Txt.slice z none (some (k:Int))).cps.toList=z.cps.toList.take k:=by
 rw [v5,HT.sIx_none,HT.sIx_nat,List.drop_zero,Nat.sub_zero]
 have hn:z.cps.toList.length=z.length:=by simp [Str.length]
 by_cases h:k≤z.length
 ·rw [Nat.min_eq_left h]
 ·rw [Nat.min_eq_right (by omega),List.take_of_length_le (by omega),List.take_of_length_le (by omega)]
theorem Bj (z:Str) (k:Nat):(Txt.slice z (some (k:Int)) none).cps.toList=z.cps.toList.drop k:=by
 rw [v5,HT.sIx_none,HT.sIx_nat]
 have hn:z.cps.toList.length=z.length:=by simp [Str.length]
 by_cases h:k≤z.length
 ·rw [Nat.min_eq_left h,List.take_of_length_le (by rw [List.length_drop];omega)]
 ·rw [Nat.min_eq_right (by omega),List.drop_eq_nil_of_le (by omega),List.drop_eq_nil_of_le (by omega)];simp
theorem uC {xs:List V} {H:Hp} {R:Addr→Prop} (c:Nat.ble xs.length 64=true) (h:∀ p,H p=none→R p):xs.length≤sizeLine∧∀ p,H p=none→R p:=
 ⟨Nat.le_trans (Nat.le_of_ble_eq_true c) (by decide),h⟩
theorem gk {A B:Prop} (h:A):if (!false)=true then A else B:=(if_pos (show (!false)=true from rfl)).mpr h
theorem gn {A B:Prop} (h:B):if (!true)=true then A else B:=by rw [if_neg (by simp)];exact h
theorem WL {t u:TS} {D:Ends} {σ:St} {H:Hp} (M:St→Hp→Prop) (h1:∀ σ H,M σ H→u D σ H) (h2:∀ N,(∀ σ H,M σ H→N σ H)→t {D with nx:=N} σ H):Lh t u D σ H:=h2 _ h1
end L2
namespace L2
open PySem PySem.Spec PyProof.Rows PySem.SeqAt
open AutoSeq1 (wpAny_loadPart')
section
variable {X:Cx}
end
theorem Bk {prog:Program} {w:World} {A:Around} {E:Value→Shared→Prop} {s:Shared} {Q:Value→Shared→Prop} {a:Addr} {o:Obj} {e:DictEntry} {ep:Nat} {k:Key} (ho:s.heap.get? a=some o) (hc:o.cls= .type "dict") (hd:o.data= .dict #[e] ep)
  (hkey:(dI prog w).is k e.key=true) (hh:e.hash=(dI prog w).hash k) (hsm:(a == sysModules)=false) (hu:A.units < cLine) (h:Q (.bool false) s):wpAny (model prog w) A (compareOp .NotEq (.ref a) (.ref a)) Q E s:=by
 show wpAny _ _ (richCompare .NotEq (.ref a) (.ref a)) _ _ _
 refine wpAny_richCompare_same_room ⟨o,ho,hc⟩ ⟨o,ho,hc⟩ F.slot_dict_ne (wpAny_call (codeAny_call_builtin F.slot_dict_ne.plain F.entry_dict_ne (F.slot_dict_ne.check _ _ _ _ _ _ _ _ ⟨o,ho,hc⟩ (F.args_dict_ne_2 _ _) ?_))) hu
 have ko:KeysOf (dI prog w) #[e]:=fun x hx=>by
  simp at hx
  subst hx
  exact ⟨k,hkey,hh⟩
 have f2:=Bh
 obtain ⟨hp,g,d,tk,os⟩:=s
 have hT:(⟨hp,g,d,tk,os⟩:Shared).TypeIs (.ref a) "dict":=⟨_,ho,hc⟩
 unfold Builtin.«dict.__ne__»
 wp_walk using wpAny_loadPart' ho
 have en:∀ (Q:Array DictEntry→Shared→Prop) (E:Value→Shared→Prop),Q #[e] ⟨hp,g,d,tk,os⟩→wpAny (model prog w) A.in1 (dictEntries a) Q E ⟨hp,g,d,tk,os⟩:=fun Q E q=>by
  unfold dictEntries
  refine wpAny_bind (wpAny_loadPart ho ?_)
  simp only [hd]
  exact wpAny_pure q
 have eo:∀ (Q:Nat→Shared→Prop) (E:Value→Shared→Prop),Q ep ⟨hp,g,d,tk,os⟩→wpAny (model prog w) A.in1 (dictEpoch a) Q E ⟨hp,g,d,tk,os⟩:=fun Q E q=>by
  unfold dictEpoch
  refine wpAny_bind (wpAny_loadPart ho ?_)
  simp only [hd]
  exact wpAny_pure q
 simp only [hd]
 refine wpAny_pure ?_
 refine wpAny_bind (en _ _ ?_)
 rw [if_neg (by simp)]
 refine wpAny_bind (eo _ _ ?_)
 refine wpAny_bind ?_
 rw [Std.Legacy.Range.forIn_eq_forIn_range']
 simp only [Std.Legacy.Range.size,Nat.sub_zero,Nat.add_sub_cancel,Nat.div_one]
 show wpAny _ _ (forIn [0] _ _) _ _ _
 rw [List.forIn_cons]
 refine wpAny_bind (wpAny_bind (en _ _ ?_))
 show wpAny _ _ (holding [e.key,e.val] _ >>=_) _ _ _
 refine wpAny_bind (wpAny_holding ?_)
 refine wpAny_bind (show wpAny (model prog w) A.in1 (dictFind a e.key e.hash) _ _ _ from ?_)
 rw [hh]
 refine wpAny_dictFind_of hkey ho hd ko ?_
 have fi:(#[e]:Array DictEntry).findIdx? (fun e=>(dI prog w).is k e.key)=some 0:=by simp [hkey]
 rw [fi]
 refine wpAny_bind (en _ _ ?_)
 show wpAny _ _ (holding [e.val] (eqBool e.val e.val)) _ _ _
 refine wpAny_holding (SeqAt.EqAt.same e.val prog w _ _ ?_)
 rw [if_neg (by simp)]
 refine wpAny_bind (eo _ _ ?_)
 rw [if_neg (by simp)]
 refine wpAny_pure ?_
 show wpAny _ _ (forIn [] _ _) _ _ _
 rw [List.forIn_nil]
 refine wpAny_pure (wpAny_pure ?_)
 exact wpAny_pure ⟨(fun z=>nomatch z),h⟩
theorem za {prog:Program} {w:World} {A:Around} {E:Value→Shared→Prop} {s:Shared} {Q:Value→Shared→Prop} {a:Addr} {o:Obj} {ep:Nat} (ho:s.heap.get? a=some o) (hc:o.cls= .type "dict") (hd:o.data= .dict #[] ep)
  (hsm:(a == sysModules)=false) (hu:A.units < cLine) (h:Q (.bool false) s):wpAny (model prog w) A (compareOp .NotEq (.ref a) (.ref a)) Q E s:=by
 show wpAny _ _ (richCompare .NotEq (.ref a) (.ref a)) _ _ _
 refine wpAny_richCompare_same_room ⟨o,ho,hc⟩ ⟨o,ho,hc⟩ F.slot_dict_ne (wpAny_call (codeAny_call_builtin F.slot_dict_ne.plain F.entry_dict_ne (F.slot_dict_ne.check _ _ _ _ _ _ _ _ ⟨o,ho,hc⟩ (F.args_dict_ne_2 _ _) ?_))) hu
 have f2:=Bh
 obtain ⟨hp,g,d,tk,os⟩:=s
 have hT:(⟨hp,g,d,tk,os⟩:Shared).TypeIs (.ref a) "dict":=⟨_,ho,hc⟩
 unfold Builtin.«dict.__ne__»
 wp_walk using wpAny_loadPart' ho
 have en:∀ (Q:Array DictEntry→Shared→Prop) (E:Value→Shared→Prop),Q #[] ⟨hp,g,d,tk,os⟩→wpAny (model prog w) A.in1 (dictEntries a) Q E ⟨hp,g,d,tk,os⟩:=fun Q E q=>by
  unfold dictEntries
  refine wpAny_bind (wpAny_loadPart ho ?_)
  simp only [hd]
  exact wpAny_pure q
 have eo:∀ (Q:Nat→Shared→Prop) (E:Value→Shared→Prop),Q ep ⟨hp,g,d,tk,os⟩→wpAny (model prog w) A.in1 (dictEpoch a) Q E ⟨hp,g,d,tk,os⟩:=fun Q E q=>by
  unfold dictEpoch
  refine wpAny_bind (wpAny_loadPart ho ?_)
  simp only [hd]
  exact wpAny_pure q
 simp only [hd]
 refine wpAny_pure ?_
 refine wpAny_bind (en _ _ ?_)
 rw [if_neg (by simp)]
 refine wpAny_bind (eo _ _ ?_)
 refine wpAny_bind ?_
 rw [Std.Legacy.Range.forIn_eq_forIn_range']
 simp only [Std.Legacy.Range.size,Nat.sub_zero,Nat.add_sub_cancel,Nat.div_one]
 show wpAny _ _ (forIn [] _ _) _ _ _
 rw [List.forIn_nil]
 refine wpAny_pure (wpAny_pure ?_)
 exact wpAny_pure ⟨(fun z=>nomatch z),h⟩
def QJ:R2:=fun x y H Q=>∃ a kvs,x= .ref a∧y= .ref a∧H a=some (.dK kvs)∧kvs.length≤1∧Q (.bl false) H
section
variable {X:Cx}
theorem NB (hu:X.A.units < cLine):OpR X (compareOp .NotEq) QJ:=by
 intro pins s σ H x y v u Q I rx ry h
 obtain ⟨a,kvs,rfl,rfl,ha,hl,q⟩:=h
 cases rx
 cases ry
 obtain ⟨_,hsm,vs,kv,o,es,ep,h1,h2,h3,h4,h5,h6⟩:=(show ObjOk X.prog X.w H s.heap a (.dK kvs) from I.hok a _ ha)
 match kvs,hl with
 | [],_=>
  cases kv
  obtain ⟨l⟩:=es
  dsimp only at h5
  cases h5
  exact za h1 h2.1 h3 hsm hu ⟨.bl false,H,I,rfl,q⟩
 | [(k,z)],_=>
  cases kv with
  | cons a1 a2=>
   cases a2
   obtain ⟨l⟩:=es
   dsimp only at h5
   cases h5 with
   | @cons en _ _ _ p1 p2 p3=>
    cases p3
    obtain ⟨k',b1,b2⟩:=h4 en (by simp)
    exact Bk (e:=en) h1 h2.1 h3 b1 b2 hsm hu ⟨.bl false,H,I,rfl,q⟩
def NK (K:PySem.W.Frag):R2:=fun x y H Q=>Nh K x y H Q∨QJ x y H Q
theorem Tq {K:PySem.W.Frag} (hK:X.K=K) (hu:X.A.units+64 < cLine):OpR X (compareOp .NotEq) (NK K):=(xf hK hu).or (NB (Nat.lt_of_le_of_lt (Nat.le_add_right _ _) hu))
end
section
variable {H:Hp} {Q:VK} {K:PySem.W.Frag} {σ:St} {D:Ends}
theorem Tr {i j:Int} (h:Q (.bl (!decide (V.int i=V.int j))) H):NK K (.int i) (.int j) H Q:=.inl (cG h)
theorem Tt {i j:Str} (h:Q (.bl (!decide (V.str i=V.str j))) H):NK K (.str i) (.str j) H Q:=.inl (cH h)
end
end L2
namespace L2
open PySem PySem.Spec PyProof.Rows
def QK:List V→Hp→VK→Prop:=fun xs H Q=>(∃ i j,xs=[.int i,.int j]∧Q (.int (if j > i then j else i)) H)∨∃ (p:Addr) (ns:List Int),xs=[.ref p]∧H p=some (.lst (ns.map V.int))∧ns≠[]∧∀ M,M∈ns→(∀ a∈ns,a≤M)→Q (.int M) H
section
variable {X:Cx}
theorem Fl (hc:X.calm=true):CallR X (.builtin "max") QK:=by
 intro pins s σ H xs us Q I r h
 rcases h with h | ⟨p,ns,rfl,hp,hne,q⟩
 ·exact vG hc pins s σ H xs us Q I r h
 ·obtain ⟨u,rfl,ru⟩:=vals1 r
  cases ru
  obtain ⟨hz,its,n,rv,g⟩:=I.hok p _ hp
  have hi:IntsAre its ns:=intsAre_of rv
  have hl:=rv.length
  obtain ⟨ys,ey⟩:=hi.allInts.items
  have hn:=hi.numsOf
  have hsz:0 < ys.size:=by
   have e1:=congrArg Array.size ey
   have:0 < ns.length:=List.length_pos_iff.mpr hne
   rw [List.length_map] at hl
   simp [intItems] at e1
   omega
  have hL:s.heap.IsList p (intItems ys):=⟨_,g,rfl,n,by rw [← ey]⟩
  have en:ys.toList.map (·.1)=ns:=by rw [← nums_intItems,← ey,← hn]
  refine max_intList (I.ok.hd hc) hL hsz fun v h' tk hv hk=>?_
  obtain ⟨t,rfl⟩:=intItems_at hv
  obtain ⟨h1,h2⟩:=argBest_gt (numAt ys) (ys.size - 1)
  refine ⟨.int _,H,I.kept hk,⟨t,rfl⟩,q _ ?_ fun a ha=>?_⟩
  ·rw [← en,numAt_eq];exact getD_mem (by rw [List.length_map,Array.length_toList];omega)
  ·rw [← en] at ha
   obtain ⟨j,hj,rfl⟩:=mem_getD ha
   rw [List.length_map,Array.length_toList] at hj
   rw [← numAt_eq];exact h2 j (by omega)
theorem Tu {i:Nat} {x:Str} {e:Expr} {te:TE} {op:Operator} {r:R2} {pos pos':Pos} (hN:X.N.Nodup) (hi:X.N[i]?=some x) (hx:Loc X.env.scope x) (he:JE X e te) (ho:OpR X (inplaceOp op) r) (hf:X.fn x=true):
  JS X (.AugAssign (.Name x pos') op e pos) (Rv i te r):=⟨Rw hN hi hx he.run ho (.inl hf)⟩
end
section
variable {σ:St} {H:Hp} {Q:VK} {D:Ends}
theorem Dc {i:Nat} {te:TE} {r:R2} {v:V} (e:σ[i]?=some (some v)) (h:te σ H fun y H1=>r v y H1 fun z H2=>D.nx (σ.set i (some z)) H2):Rv i te r D σ H:=⟨v,e,h⟩
theorem Tv {p:Addr} {ns:List Int} (hp:H p=some (.lst (ns.map V.int))) (hn:ns≠[]) (h:∀ M,M∈ns→(∀ a∈ns,a≤M)→Q (.int M) H):QK [.ref p] H Q:=.inr ⟨p,ns,rfl,hp,hn,h⟩
end
end L2
namespace L2
open PySem PySem.Spec PyProof.Rows
def rInD (K:PySem.W.Frag):R2:=fun x y H Q=>Mv K x y H Q∨∃ a o,y= .ref a∧DGet H a x o∧Q (.bl o.isSome) H
def NP (K:PySem.W.Frag):R2:=fun x y H Q=>wV K x y H Q∨∃ a o,y= .ref a∧DGet H a x o∧Q (.bl (!o.isSome)) H
def nY:Ac:=fun o i v H R=>Hu o i v H R∨∃ a H4,o= .ref a∧DPut H a i v H4∧R H4
def uD (n0:List V→Hp→(Int→Int→Nat→Prop)→Prop) (ta:TA):TE:=fun σ H Q=>ta σ H fun vs H1=>n0 vs H1 fun lo c n=>∀ q,H1 q=none→Q (.ref q) (upd H1 q (.lst ((List.range n).map fun i:Nat=>V.int (lo+(i:Int)*c))))
def WM:List V→Hp→(Int→Int→Nat→Prop)→Prop:=fun vs _ R=>∃ n:Nat,vs=[.int n]∧n≤1000000∧R 0 1 n
theorem Fo {lo c:Int} {n:Nat} {acc:Array Value} (h:ItemsOf (fun i v=>∃ t,v= .int (lo+i*c) t) acc n):Vals ((List.range n).map fun i:Nat=>V.int (lo+(i:Int)*c)) acc.toList:=by
 obtain ⟨h1,h2⟩:=h
 have key:∀ (k:Nat) (a:List Value) (b:Nat),a.length=k→(∀ (j:Nat) (v:Value),a[j]?=some v→∃ t,v= .int (lo+((b+j:Nat):Int)*c) t)→Vals ((List.range' b k).map fun i:Nat=>V.int (lo+(i:Int)*c)) a:=by
  intro k
  induction k with
  | zero=>intro a b hl _;cases a with
   | nil=>exact .nil
   | cons _ _=>simp at hl
  | succ k ih=>
   intro a b hl hh
   cases a with
   | nil=>simp at hl
   | cons v a=>
    obtain ⟨t,e⟩:=hh 0 v (by simp)
    rw [List.range'_succ,List.map_cons]
    refine .cons ⟨t,by simpa using e⟩ (ih a (b+1) (by simpa using hl) fun j v' e=>?_)
    obtain ⟨t,e⟩:=hh (j+1) v' (by simpa using e)
    exact ⟨t,by rw [e];congr 3;omega⟩
 rw [List.range_eq_range']
 refine key n acc.toList 0 (by simpa using h1) fun j v e=>?_
 obtain ⟨t,e⟩:=h2 j v (by simpa using e)
 exact ⟨t,by rw [e];congr 3;simp⟩
section
variable {X:Cx}
theorem qJ {pins:List (Addr×Obj)} {σ:St} {H1:Hp} {s1:Shared} {Q:VK} {E:Value→Shared→Prop} {lo hi c:Int} {t u v:Tok} {tk n:Nat} (hc:X.calm=true) (I1:Inv X pins σ H1 s1) (hs:Builtin.Range.small lo hi c=true) (hn:Builtin.Range.rangeSize lo hi c=(n:Int)) (hl:n≤1000000)
  (q:∀ q,H1 q=none→Q (.ref q) (upd H1 q (.lst ((List.range n).map fun i:Nat=>V.int (lo+(i:Int)*c))))):
  wpAny (model X.prog X.w) X.A (call (.type "list") [.ref s1.heap.objs.size]) (EP X pins σ Q) E {s1 with heap:=s1.heap.push {cls:=.type "range",data:=.fields #[.int lo t,.int hi u,.int c v]},toks:=tk}:=by
 have I2:Inv X pins σ H1 {s1 with heap:=s1.heap.push {cls:=.type "range",data:=.fields #[.int lo t,.int hi u,.int c v]},toks:=tk}:=I1.kept fun b o e=>Heap.get?_push_of_some _ e
 refine call_list_range (n:=n) (I1.ok.hd hc) (IsRange.new ..) hs hn (by omega) fun h' tk' acc' c' hk hS hacc=>?_
 have hsl:n≤sizeLine:=Nat.le_trans hl (by decide)
 exact ⟨.ref _,_,I2.laid (t':=tk') (o:=.lst ((List.range n).map fun i:Nat=>V.int (lo+(i:Int)*c))) hk (Nat.le_refl _) ⟨by simpa using hsl,acc'.toList,c',Fo hacc,by simpa using hS⟩,rfl,q _ I2.fresh⟩
theorem Bl {a:Expr} {ta:TA} {p p2 p3 pos:Pos} (hc:X.calm=true) (hg:Gl X "list") (hm:X.mg "list"=none) (hg2:Gl X "range") (hm2:X.mg "range"=none) (ha:JA X [a] ta) (h:autoParam (notStar a=true) L2.auto4._auto_1):
  JE X (.Call (.Name "list" p) [.Call (.Name "range" p2) [a] [] p3] [] pos) (uD WM ta):=⟨by
 intro pins s σ H Q I hq
 refine wpAny_Call_Name_kw (jz I hg hm j7 (PyProof.Rows.callWith_type1 (arg1 rfl (wpAny_Call_Name_kw (jz I hg2 hm2 boot_range (PyProof.Rows.callWith_type1 (fJ (ha.run p3 pins s σ H _ I hq) fun us s1 qq0=>?_) (cA h) rfl)))) rfl rfl))
 obtain ⟨vs,H1,I1,r1,q1⟩:=qq0
 obtain ⟨n,rfl,hn,q⟩:=q1
 obtain ⟨u,rfl,t,rfl⟩:=vals1 r1
 exact call_range_1 (qJ hc I1 (small_one (by omega) (by omega) (by omega) (by omega)) (by rw [rangeSize_one];split <;> omega) hn q)⟩
end
section
variable {X:Cx}
theorem Ju {K:PySem.W.Frag} (hK:X.K=K) (hu:X.A.units+64 < cLine):OpR X (compareOp .In) (rInD K):=(Az hK).or (by
 intro pins s σ H x y v u Q I rx ry h
 obtain ⟨a,o,rfl,g,q⟩:=h
 obtain rfl:u=Value.ref a:=ry
 exact d_in (by omega) I g rx fun s3 I3=>⟨.bl o.isSome,H,I3,rfl,q⟩)
theorem Fp {K:PySem.W.Frag} (hK:X.K=K) (hu:X.A.units+64 < cLine):OpR X (compareOp .NotIn) (NP K):=(Es hK).or (by
 intro pins s σ H x y v u Q I rx ry h
 obtain ⟨a,o,rfl,g,q⟩:=h
 obtain rfl:u=Value.ref a:=ry
 exact Mq (by omega) I g rx fun s3 I3=>⟨.bl (!o.isSome),H,I3,rfl,q⟩)
theorem j9 (hu:X.A.units+64 < cLine):Ln X nY:=by
 intro pins s σ H o i v ov iv u Q I ro ri rv h
 rcases h with h | ⟨a,H4,rfl,g,q⟩
 ·exact set_list pins s σ H o i v ov iv u Q I ro ri rv h
 ·obtain rfl:ov=Value.ref a:=ro
  exact En (by omega) I g ri rv fun s4 I4=>⟨H4,I4,q⟩
end
section
variable {σ:St} {H:Hp} {Q:VK} {K:PySem.W.Frag}
theorem dO {n0:List V→Hp→(Int→Int→Nat→Prop)→Prop} {ta:TA} (h:ta σ H fun vs H1=>n0 vs H1 fun lo c n=>∀ q,H1 q=none→Q (.ref q) (upd H1 q (.lst ((List.range n).map fun i:Nat=>V.int (lo+(i:Int)*c))))):uD n0 ta σ H Q:=h
theorem NQ {n:Nat} {R:Int→Int→Nat→Prop} (hn:n≤1000000) (h:R 0 1 n):WM [.int n] H R:=⟨n,rfl,hn,h⟩
theorem nq {p:Addr} {xs:List V} {i:Int} {n:Nat} {v:V} {R:Hp→Prop} (hp:H p=some (.lst xs)) (e:Ht xs.length i=some n) (h:R (upd H p (.lst (xs.set n v)))):nY (.ref p) (.int i) v H R:=.inl (cB hp e h)
end
end L2
namespace L2
open PySem PySem.Spec PyProof.Rows
def WN (i j:Int):Prop:=0 < j∧j < 1606938044258990275541962092341162602522202993782792835301376
section
variable {X:Cx}
theorem zb:OpR X (binaryOp .FloorDiv) (rI WN fun i j=>.int (i / j)):=VG fun i j _ _ _ _ _ hc q=>by
 have h1:(0:Int) < j:=hc.1
 have h2:=hc.2
 refine floordiv_int (by omega) (by rw [Int.fdiv_eq_ediv_of_nonneg i (by omega)];exact q) (.inl (PyProof.noPylong_of_log2 ?_))
 have h3:j.natAbs.log2 < 200:=(Nat.log2_lt (by omega)).mpr (by omega)
 omega
end
end L2
namespace L2
open PySem PySem.Spec PyProof.Rows
open PySem.Sem (wp)
open PySem.AutoSeq1 (wpAny_loadPart')
section
variable {prog:Program} {w:World} {A:Around} {E:Value→Shared→Prop} {s:Shared}
end
end L2
namespace L2
open PySem PySem.Spec PyProof.Rows
section
variable {K:PySem.W.Frag} {σ:St} {H:Hp}
end
section
variable {X:Cx} {e:Expr} {te:TE} {lo hi:Option Expr} {st:Expr} {tl th ts:TO} {pos p2:Pos}
end
end L2
namespace L2
open PySem PySem.Spec PyProof.Rows
end L2
namespace L2
open PySem PySem.Spec PyProof.Rows
open PySem.Sem (wp)
open PySem.AutoSeq1 (wpAny_loadPart')
section
variable {prog:Program} {w:World} {A:Around} {E:Value→Shared→Prop} {s:Shared}
end
end L2
namespace L2
open PySem PySem.Spec PyProof.Rows
section
variable {prog:Program} {w:World} {A:Around} {E:Value→Shared→Prop} {s:Shared}
end
end L2
namespace L2
open PySem PySem.Spec PyProof.Rows
section
variable {K:PySem.W.Frag} {σ:St} {H:Hp}
end
end L2
namespace L2
open PySem PySem.Spec PyProof.Rows
structure Sml (d:PyData):Prop where
 sh:d.showable=true
 dp:d.depth≤58
 lv:d.leavesShort 60=true
 bk:d.bulk≤10000
end L2
namespace L2
open PySem PySem.Spec PyProof.Rows
open PySem.Sem (wp)
section
variable {X:Cx} {pos:Pos} {σ:St} {H:Hp} {Q:VK} {K:PySem.W.Frag}
end
end L2
namespace L2
open PySem PySem.Spec PyProof.Rows
end L2
namespace L2
open PySem PySem.Spec PyProof.Rows
structure QL (k:Nat) (A:Around):Prop where
 dp:A.depth+3*k+5 < recursionLimit
 un:A.units+16*k+200 < cLine
 gd:A.guards=some []
structure FnU (P:Program) (w:World) (K:PySem.W.Frag) (mg:Str→Option Value) (base:Heap) (k:Nat) (f:Addr) (fd:FuncData) (ps:List Str) (sp:Sp):Prop where
 len:∀ vs H Q E,sp vs H Q E→vs.length=ps.length
 run:∀ (A:Around) (outer:List Env) (s:Shared) (H:Hp) (args:Args) (us:List Value) (vs:List V) (Q:VK) (E:XK),QL k A→Env0 P w K mg base A outer s H→BindsTo s fd args (ps.zip us)→Vals vs us→sp vs H Q E→
  codeAny (model P w) A (.call (.ref f) args) (CR Av outer P w H s Q E) s
end L2
namespace L2
open PySem PySem.Spec PyProof.Rows
section
variable {prog:Program} {w:World} {A:Around} {E:Value→Shared→Prop} {s:Shared} {K:PySem.W.Frag} {x C:Addr} {ox:Obj} {od:Option Obj}
end
section
variable {prog:Program} {w:World} {A:Around} {K:PySem.W.Frag} {D:Addr} {E:Value→Shared→Prop}
end
structure X0 (K:PySem.W.Frag) (mg:Str→Option Value) (x:Str):Prop where
 c:Th K mg x
 ini:PySem.W.findIn K (.ref (aD mg x)) "__init__"=some (some (.builtin "ValueError.__init__"))
 kp:PySem.W.keepIn K (.ref (aD mg x))=true
section
variable {X:Cx} {x:Str} {p pos:Pos} {e:Expr} {es:List Expr} {t:TA}
end
end L2
namespace L2
open PySem PySem.Spec PyProof.Rows
open PySem.Sem (wp)
structure Tw (z TI TO i1 i2:Addr) (fp1 fp2:List Addr):Prop where
 TIz:TI≠z
 TOz:TO≠z
 i1z:i1≠z
 i2z:i2≠z
 TITO:TI≠TO
 TIi1:TI≠i1
 TIi2:TI≠i2
 TOi1:TO≠i1
 TOi2:TO≠i2
 i12:i1≠i2
 f1:∀ b∈fp1,b≠z∧b≠TO∧b≠i2
 f2:∀ b∈fp2,b≠z∧b≠TO∧b≠i1
section
variable {prog:Program} {w:World} {A:Around} {E:Value→Shared→Prop} {s:Shared} {z TI TO i1 i2:Addr} {fp1 fp2:List Addr} {n1 n2 k1 k2:Nat} {P1 P2:Nat→Value→Prop} {St1 St2:Nat→Heap→Prop} {a b:Value}
end
end L2
namespace L2
open PySem PySem.Spec PyProof.Rows
open PySem.Sem (wp)
section
variable {σ:St} {H:Hp} {K:PySem.W.Frag}
end
end L2
namespace L2
open PySem PySem.Spec PyProof.Rows
open PySem.Sem (wp)
open AutoSeq1 (wpAny_loadPart')
section
variable {X:Cx}
end
section
variable {H:Hp} {Q:VK} {K:PySem.W.Frag}
end
end L2
namespace L2
open PySem PySem.W PySem.Spec PyProof.Rows
section
variable {g:Nat→Int} {N:Nat}
end
end L2
namespace L2
open PySem PySem.W PySem.Spec PyProof.Rows
section
variable {prog:Program} {w:World} {A:Around} {E:Value→Shared→Prop} {s:Shared}
end
end L2
namespace L2
open PySem PySem.W PySem.Spec PyProof.Rows
section
variable {prog:Program} {w:World} {A:Around} {E:Value→Shared→Prop} {s:Shared}
end
section
variable {X:Cx}
end
section
variable {H:Hp} {Q:VK}
end
end L2
namespace L2
open PySem PySem.Spec PyProof.Rows
open PySem.Sem (wp)
section
variable {prog:Program} {w:World} {A:Around} {E:Value→Shared→Prop} {s:Shared} {z TI TO i1 i2:Addr} {fp1 fp2:List Addr} {n1 n2 k1 k2:Nat} {P1 P2:Nat→Value→Prop} {St1 St2:Nat→Heap→Prop} {a b f0 f1:Value}
end
end L2
namespace L2
open PySem PySem.Spec PyProof.Rows
open PySem.Sem (wp)
open PySem.AutoSeq1 (wpAny_loadPart')
section
variable {prog:Program} {w:World} {A:Around} {E:Value→Shared→Prop} {s:Shared} {z TI TO i1 i2 e:Addr} {fp1 fp2:List Addr} {n1 n2 k1 k2:Nat} {P1 P2:Nat→Value→Prop} {St1 St2:Nat→Heap→Prop} {a b f0 f1:Value}
end
structure EApart (e z TI TO i1 i2 a b:Addr):Prop where
 Z:Tw z TI TO i1 i2 [i1,a] [i2,b]
 ez:e≠z
 eTI:e≠TI
 eTO:e≠TO
 ei1:e≠i1
 ei2:e≠i2
 a1:a≠i1
 b2:b≠i2
end L2
namespace L2
open PySem PySem.Spec PyProof.Rows
open PySem.Sem (wp)
open PySem.AutoSeq1 (wpAny_loadPart')
section
variable {σ:St} {H:Hp} {K:PySem.W.Frag}
end
end L2
namespace L2
open PySem PySem.Spec PyProof.Rows
open PySem.Sem (wp)
section
variable {prog:Program} {w:World} {A:Around} {E:Value→Shared→Prop} {s:Shared}
end
structure TurnU (P:Program) (w:World) (K:PySem.W.Frag) (tg:Expr) (J:It) (fp:List Addr) (it:Addr) (tn:Nat→Heap→Prop) (xh:Addr):Prop where
 mem:it∈fp
 obj:∀ i h,tn i h→∀ b∈fp,∃ o,h.get? b=some o∧∀ v,o.data≠.cell v
 keep:∀ i h h',tn i h→(∀ b∈fp,∀ o,h.get? b=some o→h'.get? b=some o)→tn i h'
 item:∀ (X:Cx),X.prog=P→X.w=w→X.K=K→X.A.handled=some (.ref xh)→∀ (i:Nat) (pins:List (Addr×Obj)) (s:Shared) (σ:St) (H:Hp) (E:Value→Shared→Prop),Inv X pins σ H s→(∀ b∈fp,lU X pins H b)→tn i s.heap→J.go i H→
  wpAny (model P w) X.A (pyNext (.ref it)) (fun r s1=>∃ u,r=some u∧
   wpAny (model P w) X.A (letOwnedTupleGo tg (.ref it) u) (fun _ s2=>∃ x H',Inv X pins σ H' s2∧RelV x u∧J.yld i H x H'∧tn (i+1) s2.heap∧∀ b∈fp,H' b=none) E s1) E s
 done:∀ (X:Cx),X.prog=P→X.w=w→X.K=K→X.A.handled=some (.ref xh)→∀ (i:Nat) (pins:List (Addr×Obj)) (s:Shared) (σ:St) (H:Hp) (E:Value→Shared→Prop),Inv X pins σ H s→(∀ b∈fp,lU X pins H b)→tn i s.heap→J.stop i H→
  wpAny (model P w) X.A (pyNext (.ref it)) (fun r s1=>r=none∧Inv X pins σ H s1) E s
 self:∀ (A:Around) (i:Nat) (s:Shared) (Q:Value→Shared→Prop) (E:Value→Shared→Prop),tn i s.heap→Q (.ref it) s→wpAny (model P w) A (pyIter (.ref it)) Q E s
section
variable {X:Cx} {tg iter elt:Expr} {ifs:List Expr} {scope:Scope} {pos:Pos} {N':List Str} {sub:List (Option Nat)} {wi:TI} {g:TG} {tt:TT} {te:TE}
end
structure FnV (P:Program) (w:World) (K:PySem.W.Frag) (mg:Str→Option Value) (base:Heap) (k:Nat) (f:Addr) (fd:FuncData) (ps:List Str) (sp:Addr→Sp):Prop where
 len:∀ xh vs H Q E,sp xh vs H Q E→vs.length=ps.length
 run:∀ (A:Around) (outer:List Env) (s:Shared) (H:Hp) (args:Args) (us:List Value) (vs:List V) (Q:VK) (E:XK) (xh:Addr),A.handled=some (.ref xh)→QL k A→Env0 P w K mg base A outer s H→BindsTo s fd args (ps.zip us)→Vals vs us→sp xh vs H Q E→
  codeAny (model P w) A (.call (.ref f) args) (CR Av outer P w H s Q E) s
end L2
namespace L2
open PySem PySem.Spec PyProof.Rows
section
variable {X:Cx} {nm n:Str} {P:Addr} {i:Nat} {p pos:Pos} {b0:Stmt} {suite:List Stmt} {ts:Addr→TS} {th:TH} {hs:List ExceptHandler}
variable {K:PySem.W.Frag} {x:Str}
end
end L2
namespace L2
open PySem PySem.Spec PyProof.Rows
section
variable {K:PySem.W.Frag} {σ:St} {H:Hp}
end
def QM (K:PySem.W.Frag):R2:=fun x y H Q=>∃ a b xs,x= .ref a∧y= .ref b∧SqT K H a xs∧SqT K H b xs∧(∀ v∈xs,jl v=true∨∃ r,v= .ref r)∧Q (.bl false) H
section
variable {X:Cx}
theorem NT (hu:X.A.units < cLine):OpR X (compareOp .NotEq) (QM X.K):=by
 intro pins s σ H x y v u Q I rx ry h
 obtain ⟨a,b,xs,rfl,rfl,ha,hb,fx,q⟩:=h
 cases rx
 cases ry
 obtain ⟨its,r1,p1,z1⟩:=I.tuple ha
 obtain ⟨jts,r2,p2,z2⟩:=I.tuple hb
 have l1:its.toArray.size=xs.length:=by simpa using r1.length.symm
 have l2:jts.toArray.size=xs.length:=by simpa using r2.length.symm
 refine SeqAt.RcNeAt.tuples (e:=fun _=>true) p1 p2 hu (fun j h1 h2=>?_) X.prog X.w _ _ ?_
 ·have hj:j < xs.length:=by omega
  obtain ⟨u1,e1,q1⟩:=r1.get (List.getElem?_eq_getElem hj)
  obtain ⟨u2,e2,q2⟩:=r2.get (List.getElem?_eq_getElem hj)
  have f1:its.toArray[j]=u1:=by
   obtain ⟨_,z⟩:=List.getElem?_eq_some_iff.mp e1
   simpa using z
  have f2:jts.toArray[j]=u2:=by
   obtain ⟨_,z⟩:=List.getElem?_eq_some_iff.mp e2
   simpa using z
  rw [f1,f2]
  rcases fx _ (List.getElem_mem hj) with f | ⟨r,f⟩
  ·rw [← qI f]
   exact q9 q1 q2 f f
  ·rw [f] at q1 q2
   cases (show u1=Value.ref r from q1)
   cases (show u2=Value.ref r from q2)
   exact SeqAt.EqAt.same _
 ·have e:(!((List.range (min its.toArray.size jts.toArray.size)).all (fun _=>true) && its.toArray.size == jts.toArray.size))=false:=by rw [l1,l2];simp
  rw [e]
  exact ⟨.bl false,H,I,rfl,q⟩
def NZ (K:PySem.W.Frag):R2:=fun x y H Q=>NK K x y H Q∨QM K x y H Q
theorem Tz {K:PySem.W.Frag} (hK:X.K=K) (hu:X.A.units+64 < cLine):OpR X (compareOp .NotEq) (NZ K):=by
 subst hK
 exact (Tq rfl hu).or (NT (Nat.lt_of_le_of_lt (Nat.le_add_right _ _) hu))
end
section
variable {K:PySem.W.Frag} {H:Hp} {Q:VK}
theorem TF {i j:Int} (h:Q (.bl (!decide (V.int i=V.int j))) H):NZ K (.int i) (.int j) H Q:=.inl (Tr h)
theorem TJ {i j:Str} (h:Q (.bl (!decide (V.str i=V.str j))) H):NZ K (.str i) (.str j) H Q:=.inl (Tt h)
end
end L2
namespace L2
open PySem PySem.Spec PyProof.Rows
structure oh (K:PySem.W.Frag) (mg:Str→Option Value) (x:Str):Prop where
 at_:mg x=some (.ref (aD mg x))
 cl:Cls K (aD mg x)
 makes:PySem.W.makesIn K (aD mg x)=true
 kp:PySem.W.keepIn K (.ref (aD mg x))=true
def clsIn (K:PySem.W.Frag) (C:Addr):Bool:=PySem.W.plainGet K C Str.empty && PySem.W.hasDictIn K C && PySem.W.plainOver K C
theorem zc {K:PySem.W.Frag} {mg:Str→Option Value} {h:Heap} (X:K.In h) (G:h.Ns mainGlobals mg) {x:Str} {C:Addr} (a:PySem.W.nsIn K mainGlobals x=some (some (.ref C))) (b:clsIn K C=true)
  (s:PySem.W.findIn K (.ref C) "__setattr__"=some (some (.builtin "object.__setattr__"))) (m:PySem.W.makesIn K C=true) (k:PySem.W.keepIn K (.ref C)=true):oh K mg x:=by
 have e0:=PySem.W.mg_of X G a
 have e:=gW e0
 unfold clsIn at b
 simp only [Bool.and_eq_true] at b
 exact ⟨by rw [e];exact e0,by rw [e];exact ⟨b.1.1,b.1.2,b.2,s⟩,by rw [e];exact m,by rw [e];exact k⟩
structure u6 (K:PySem.W.Frag) (mg:Str→Option Value) (x m qual:Str) (st:Stmt):Prop where
 ex:∃ f fd,Meth K (aD mg x) m f∧Fun K m qual st f fd
theorem Dd {K:PySem.W.Frag} {mg:Str→Option Value} {h:Heap} (X:K.In h) (G:h.Ns mainGlobals mg) {x m qual:Str} {C f:Addr} {st:Stmt} {oc:Value} {od an:Option Addr} {osl:Array (Option Value)} {kV doc pm cdv ct:Value}
  (a:PySem.W.nsIn K mainGlobals x=some (some (.ref C))) (i:PySem.W.findIn K (.ref C) m=some (some (.ref f))) (n:PySem.W.isFn K (.ref f)=true)
  (l:K.lookup f=some ⟨oc,od,.func (PySem.W.fnOf m qual (gw st) (cj st) (aq st) .none kV doc pm an cdv ct),osl⟩) (c:PySem.W.codeIn K cdv qual=true) (k:PySem.W.keepIn K (.ref f)=true):u6 K mg x m qual st:=by
 have e:=gW (PySem.W.mg_of X G a)
 exact ⟨f,_,by rw [e];exact ⟨i,n,k⟩,uh l c k⟩
theorem zf {K:PySem.W.Frag} {mg:Str→Option Value} {h:Heap} (X:K.In h) (G:h.Ns mainGlobals mg) {x:Str} {C:Addr} {fl:List Str} (a:PySem.W.nsIn K mainGlobals x=some (some (.ref C))) (b:Jp K C fl=true):∀ f∈fl,NoAttr K (aD mg x) f:=fun n hn=>by
 rw [gW (PySem.W.mg_of X G a)]
 have:=List.all_eq_true.mp b n hn
 first | exact of_decide_eq_true this | exact beq_iff_eq.mp this | simpa using this
def oK (j:Nat):Stmt→Stmt
 | .ClassDef _ _ _ ss _ _ _ _ _ _ _=>ss.getD j (.Pass ⟨0,0,0,0⟩)
 | s=>s
def zj (P:Program) (w:World) (K:PySem.W.Frag) (mg:Str→Option Value) (base:Heap) (k:Nat) (x m:Str) (ps:List Str) (sp:Sp):Prop:=
 ∃ f fd,Meth K (aD mg x) m f∧Binds K fd ps []∧FnOk P w K mg base (Je P w) k f fd ps sp
section
variable {P:Program} {w:World} {K:PySem.W.Frag} {mg:Str→Option Value} {base:Heap}
theorem N5 {x m qual:Str} {st:Stmt} {N ps:List Str} {k:Nat} {sp:Sp} (D:u6 K mg x m qual st) (S:aC N ps (aq st))
  (hb:∀ (kV doc pm:Value) (an:Option Addr) (cdv ct:Value) (us:List Value),us.length=ps.length→bindArgs (PySem.W.fnOf m qual (gw st) (cj st) (aq st) .none kV doc pm an cdv ct) ⟨us,[]⟩=pure (ps.zip us))
  (len:∀ vs H Q E,sp vs H Q E→vs.length=ps.length)
  (hbody:∀ (f:Addr) (cdv:Value) (A:Around) (outer:List Env) (s:Shared) (H:Hp) (vs:List V) (Q:VK) (E:XK),Room k (A.deeper (envOfC qual (aq st) s.heap.objs.size f cdv))→sp vs H Q E→
   ∃ t,JB (pG (Je P w) P w K mg base N qual (aq st) f cdv A outer s H E) (cj st) t∧t {nx:=fun _ H'=>Q .non H',rt:=Q} (start N vs) H):zj P w K mg base (k+1) x m ps sp:=by
 obtain ⟨f,fd,hm,F⟩:=D.ex
 refine ⟨f,fd,hm,F.binds hb,?_⟩
 obtain ⟨oc,od,kV,doc,pm,an,cdv,ct,osl,rfl,lk,hcd⟩:=F.ex
 exact Cp lk hcd S len fun A outer s H vs Q E hr h=>let ⟨t,j,q⟩:=hbody f cdv A outer s H vs Q E hr h;⟨t,j.run,q⟩
end
def Bm (C:Addr) (sp:Sp) (R:St→XK) (t:TA):TE:=fun σ H Q=>t σ H fun vs H1=>∀ x dx,H1 x=none→H1 dx=none→dx≠x→
 sp (.ref x :: vs) (upd (upd H1 dx (.own x)) x (.ins C dx [])) (fun v H2=>v= .non∧Q (.ref x) H2) (R σ)
section
variable {X:Cx} {K:PySem.W.Frag} {k:Nat} {f C:Addr} {ps:List Str} {sp:Sp} {R:St→XK} {x m fn:Str} {p pos apos pos':Pos} {e o value:Expr} {es:List Expr} {ta tv:TE} {t:TA} {pins:List (Addr×Obj)} {σ:St} {H:Hp} {s:Shared} {Q:VK} {us:List Value} {vs:List V}
theorem Fq (c:oh X.K X.mg x) (F:zj X.prog X.w X.K X.mg X.base k x "__init__" ps sp) (hr:Room (k+1) X.A) (hx:oJ X R) (I:Inv X pins σ H s) (r:Vals vs us)
  (h:∀ y dx,H y=none→H dx=none→dx≠y→sp (.ref y :: vs) (upd (upd H dx (.own y)) y (.ins (aD X.mg x) dx [])) (fun v H2=>v= .non∧Q (.ref y) H2) (R σ)):
  wpAny (model X.prog X.w) X.A (call (.ref (aD X.mg x)) us) (EP X pins σ Q) X.xe s:=by
 obtain ⟨f,fd,hm,hb,F⟩:=F
 have hq:=h (s.heap.objs.size+1) s.heap.objs.size (I.hok.fresh (Nat.le_succ _)) (I.hok.fresh (Nat.le_refl _)) (Nat.ne_of_lt (Nat.lt_succ_self _))
 have I2:=Inv.made (C:=aD X.mg x) I
 have r2:Vals (V.ref (s.heap.objs.size+1) :: vs) (Value.ref (s.heap.objs.size+1) :: us):=.cons rfl r
 have hl:((Value.ref (s.heap.objs.size+1) :: us) ++ []).length=ps.length:=by
  have e:=r2.length
  rw [F.len _ _ _ _ hq] at e
  rw [List.append_nil]
  exact e.symm
 have bd:=hb _ (Value.ref (s.heap.objs.size+1) :: us) I2.kIn hl
 rw [List.append_nil] at bd
 refine wpAny_call (Hn (f:=f) I.kIn c.makes hm.at_ (beq_iff_eq.mp hm.fn) (codeAny_mono (F.run _ X.stack _ _ ⟨Value.ref (s.heap.objs.size+1) :: us,[]⟩ (Value.ref (s.heap.objs.size+1) :: us) _ _ (R σ) (hr.make (aD X.mg x) us [])
  (I2.env0.make (aD X.mg x) us []) bd r2 hq) fun r s' hq'=>?_))
 cases r with
 | error e=>exact hx pins e s' (CQ I2 hq')
 | ok fl=>
  cases fl with
  | ret u=>
   obtain ⟨v,H',I3,rv,ev,q3⟩:=I2.after hq'
   subst ev
   exact ⟨rv,⟨V.ref (s.heap.objs.size+1),H',I3,rfl,q3⟩⟩
  | next=>exact False.elim hq'
  | brk=>exact False.elim hq'
  | cont=>exact False.elim hq'
theorem lX (c:oh X.K X.mg x) (F:zj X.prog X.w X.K X.mg X.base k x "__init__" ps sp) (hr:Room (k+1) X.A) (hg:Gl X x) (hx:oJ X R) (ha:JA X (e :: es) t) (hdb:(x == ("__debug__":Str))=false) (h:autoParam ((e :: es).all notStar=true) L2.auto4._auto_1):
  JE X (.Call (.Name x p) (e :: es) [] pos) (Bm (aD X.mg x) sp R t):=⟨by
 have h1:notStar e=true:=by simp only [List.all_cons,Bool.and_eq_true] at h;exact h.1
 have h2:es.all notStar=true:=by simp only [List.all_cons,Bool.and_eq_true] at h;exact h.2
 intro pins s σ H Q I h
 refine wpAny_Call_Name_kw (qm I hg c.at_ ?_ hdb)
 refine PySem.W.callWith_K (h₀:=X.base) I.ok.mod.kin c.kp (fJ (ha.run pos pins s σ H _ I h) fun us s1 ⟨vs,H1,I1,r,q⟩=>⟨I1.kIn,?_⟩) (cA h1) (m5 h2)
 exact Fq c F hr hx I1 r q⟩
theorem v6 (hK:X.K=K) (he:JE X e ta) (h:autoParam (tO e=true) L2.auto4._auto_1):JE X (.Attribute e fn pos) (RJ K ta fn):=by
 subst hK
 exact ⟨RL he.run (by cases e <;> first | rfl | cases h)⟩
theorem rC (hK:X.K=K) (ha:JE X o ta) (hv:JE X value tv) (h:autoParam (lq value=true) L2.auto4._auto_1):JS X (.Assign [.Attribute o fn pos'] value pos) (RK K ta tv fn):=by
 subst hK
 exact ⟨RM ha.run hv.run (vV h)⟩
end
section
variable {σ:St} {H:Hp} {D:Ends} {Q:VK} {sp:Sp} {R:St→XK} {a:TA} {K:PySem.W.Frag} {C:Addr} {ta tv:TE} {f m:Str}
theorem bI (h:a σ H fun vs H1=>∀ x dx,H1 x=none→H1 dx=none→dx≠x→sp (.ref x :: vs) (upd (upd H1 dx (.own x)) x (.ins C dx [])) (fun v H2=>v= .non∧Q (.ref x) H2) (R σ)):Bm C sp R a σ H Q:=h
theorem gq (h:ta σ H fun x H1=>∃ a C dx fs v,x= .ref a∧H1 a=some (.ins C dx fs)∧Cls K C∧NoAttr K C f∧fs.lookup f=some v∧Q v H1):RJ K ta f σ H Q:=h
theorem dF (h:tv σ H fun y H1=>ta σ H1 fun x H2=>∃ a C dx fs,x= .ref a∧H2 a=some (.ins C dx fs)∧Cls K C∧NoAttr K C f∧fs.length < 1000∧D.nx σ (upd H2 a (.ins C dx (lE f y fs)))):RK K ta tv f D σ H:=h
end
end L2
namespace L2
open PySem PySem.Spec PyProof.Rows
section
variable {X:Cx} {mg:Str→Option Value} {o:Expr} {ta:TE} {t:TA} {x m:Str} {ps:List Str} {sp:Sp} {k:Nat} {R:St→XK} {e:Expr} {es:List Expr} {pos apos:Pos}
theorem Jv {p:Pos} (hmg:X.mg=mg) (c:oh X.K X.mg x) (F:zj X.prog X.w X.K X.mg X.base k x "__init__" ps sp) (hr:Room (k+1) X.A) (hg:Gl X x) (hx:oJ X R) (ha:JA X (e :: es) t) (hdb:(x == ("__debug__":Str))=false) (h:autoParam ((e :: es).all notStar=true) L2.auto4._auto_1):
  JE X (.Call (.Name x p) (e :: es) [] pos) (Bm (aD mg x) sp R t):=by
 subst hmg
 exact lX c F hr hg hx ha hdb h
end
end L2
namespace L2
open PySem PySem.Spec PyProof.Rows
section
variable {σ:St} {H:Hp} {Q:VK}
def TQ (o:HO) (n:Nat) (H:Hp) (Q:VK):Prop:=n≤sizeLine∧∀ p,H p=none→Q (.ref p) (upd H p o)
theorem eV {a:TA} (h:a σ H fun xs H1=>TQ (.lst xs) xs.length H1 Q):Mf a σ H Q:=h
theorem eY {a:TA} (h:a σ H fun xs H1=>TQ (.tup xs) xs.length H1 Q):Ma a σ H Q:=h
theorem dR {o:HO} {n:Nat} (c:Nat.ble n 64=true) (h:∀ p H',H p=none→Same H H'→H' p=some o→Q (.ref p) H'):TQ o n H Q:=
 ⟨Nat.le_trans (Nat.le_of_ble_eq_true c) (by decide),fun p np=>h p _ np ((Same.refl H).upd np) aj⟩
end
end L2
namespace L2
open PySem PySem.Spec PyProof.Rows
section
variable {X:Cx}
def N7:V→List V→Hp→VK→Prop:=fun x xs H Q=>∃ (z y:Str) (i:Nat) (rest:List Nat),x= .str z∧xs=[.str y]∧Builtin.Str.occurrences z y 0 z.length 1=i :: rest∧Q (.int i) H
theorem Ft:Vs X "str.index" N7:=by
 intro pins s σ H x xs v us Q I rx r h
 obtain ⟨z,y,i,rest,rfl,rfl,ho,q⟩:=h
 obtain ⟨u,rfl,t',rfl⟩:=vals1 r
 obtain ⟨t,rfl⟩:=rx
 exact SC.index ho ⟨.int _,H,I.tok _,⟨_,rfl⟩,q⟩
end
end L2
namespace L2
open PySem PySem.Spec PyProof.Rows
section
variable {sub:List (Option Nat)} {g:TG} {tt:TT} {te:TE} {σ:St} {Q:VK} {H:Hp} {K:PySem.W.Frag} {a:Addr} {xs:List V} {lo:Int} {n:Nat} {z:Str}
theorem Fv (Pv:Nat→List V→Hp→Prop) (hn:n≤sizeLine) (h0:Pv 0 [] H) (hl:∀ i ys H,Pv i ys H→ys.length≤i)
  (hs:∀ i ys H,i < n→Pv i ys H→g (.int (lo+i)) (eU sub σ) H fun σ2 H2=>KeepSt (eU sub σ) σ2∧tt σ2 H2 fun b H3=>if b=true then te σ2 H3 fun y H4=>Pv (i+1) (ys ++ [y]) H4 else Pv (i+1) ys H3)
  (hd:∀ ys H D H',Pv n ys H→H D=none→Same H H'→H' D=some (.lst ys)→Q (.ref D) H'):qz sub g tt te σ Q (Gv lo n) H:=
 Ip Pv hn h0 hl hs fun ys H p D nD=>hd ys H D _ p nD ((Same.refl H).upd nD) aj
theorem jX (Pv:Nat→List V→Hp→Prop) (hn:xs.length≤sizeLine) (h0:Pv 0 [] H) (hl:∀ i ys H,Pv i ys H→ys.length≤i) (hq:∀ i ys H,Pv i ys H→SqL K H a xs)
  (hs:∀ i ys H x,xs[i]?=some x→Pv i ys H→g x (eU sub σ) H fun σ2 H2=>KeepSt (eU sub σ) σ2∧tt σ2 H2 fun b H3=>if b=true then te σ2 H3 fun y H4=>Pv (i+1) (ys ++ [y]) H4 else Pv (i+1) ys H3)
  (hd:∀ ys H D H',Pv xs.length ys H→H D=none→Same H H'→H' D=some (.lst ys)→Q (.ref D) H'):qz sub g tt te σ Q (Qv K a) H:=
 vY Pv hn h0 hl hq hs fun ys H p D nD=>hd ys H D _ p nD ((Same.refl H).upd nD) aj
theorem v7 (Pv:Nat→List V→Hp→Prop) (hn:z.cps.size≤sizeLine) (h0:Pv 0 [] H) (hl:∀ i ys H,Pv i ys H→ys.length≤i)
  (hs:∀ i ys H c,z.cps.toList[i]?=some c→Pv i ys H→g (.str ⟨#[c]⟩) (eU sub σ) H fun σ2 H2=>KeepSt (eU sub σ) σ2∧tt σ2 H2 fun b H3=>if b=true then te σ2 H3 fun y H4=>Pv (i+1) (ys ++ [y]) H4 else Pv (i+1) ys H3)
  (hd:∀ ys H D H',Pv z.cps.size ys H→H D=none→Same H H'→H' D=some (.lst ys)→Q (.ref D) H'):qz sub g tt te σ Q (Mt z) H:=
 yR Pv hn h0 hl hs fun ys H p D nD=>hd ys H D _ p nD ((Same.refl H).upd nD) aj
theorem De {f:Nat→V} {i:Nat} {y:V} (h:y=f i):(List.range i).map f ++ [y]=(List.range (i+1)).map f:=by rw [h,List.range_succ,List.map_append];rfl
theorem v8 (f:Nat→V) (hn:n≤sizeLine)
  (hs:∀ i,i < n→g (.int (lo+i)) (eU sub σ) H fun σ2 H2=>KeepSt (eU sub σ) σ2∧tt σ2 H2 fun b H3=>if b=true then te σ2 H3 fun y H4=>H4=H∧(List.range i).map f ++ [y]=(List.range (i+1)).map f else H3=H∧(List.range i).map f=(List.range (i+1)).map f)
  (hd:∀ D H',H D=none→Same H H'→H' D=some (.lst ((List.range n).map f))→Q (.ref D) H'):qz sub g tt te σ Q (Gv lo n) H:=by
 refine Fv (fun i ys H'=>H'=H∧ys=(List.range i).map f) hn ⟨rfl,rfl⟩ ?_ ?_ ?_
 ·rintro i ys H' ⟨_,rfl⟩
  simp
 ·rintro i ys H' hi ⟨rfl,rfl⟩
  exact hs i hi
 ·rintro ys H1 D H' ⟨rfl,rfl⟩ nD s e
  exact hd D H' nD s e
end
end L2
namespace L2
open PySem PySem.Spec PyProof.Rows
def Kr (rk:Keyed→Int) (xs:Array Keyed) (i:Nat):Int:=match xs[i]? with
 | some p=>rk p
 | none=>0
structure SB (a₀:Array Keyed) (kd:SortKind) (st:SortSt):Prop where
 perm:(arrOf st).Perm a₀
 kind:kindOf st=kd
 failed:failedOf st=none
section
variable {M:Model} {A:Around} {E:Value→Shared→Prop} {s:Shared} {kd:SortKind} {rk:Keyed→Int} {a₀:Array Keyed}
structure Nx (a₀:Array Keyed) (kd:SortKind) (rk:Keyed→Int) (lo:Nat) (st st':SortSt):Prop where
 sb:SB a₀ kd st'
 fr:∀ k,k < lo→Kr rk (arrOf st') k=Kr rk (arrOf st) k
 pe:pendingOf st'=pendingOf st
end
end L2
namespace L2
open PySem PySem.Spec PyProof.Rows
section
variable {M:Model} {A:Around} {E:Value→Shared→Prop} {s:Shared} {kd:SortKind} {rk:Keyed→Int} {a₀:Array Keyed}
end
end L2
namespace L2
open PySem PySem.Spec PyProof.Rows
section
variable {M:Model} {A:Around} {E:Value→Shared→Prop} {s:Shared} {kd:SortKind} {rk:Keyed→Int} {a₀:Array Keyed}
abbrev PwL (rk:Keyed→Int) (l:List Keyed):Prop:=l.Pairwise fun p q=>rk p≤rk q
structure Sm (st st':SortSt):Prop where
 arr:arrOf st'=arrOf st
 kind:kindOf st'=kindOf st
 failed:failedOf st'=failedOf st
 pend:pendingOf st'=pendingOf st
structure MI (rk:Keyed→Int) (a b out:Array Keyed) (ia ib:Nat):Prop where
 ha:ia≤a.size
 hb:ib≤b.size
 so:PwL rk out.toList
 le:∀ p∈out.toList,∀ q∈a.toList.drop ia ++ b.toList.drop ib,rk p≤rk q
 pm:(out.toList ++ (a.toList.drop ia ++ b.toList.drop ib)).Perm (a.toList ++ b.toList)
end
end L2
set_option maxHeartbeats 8000000
namespace L2
open PySem PySem.Spec PyProof.Rows
section
variable {M:Model} {A:Around} {E:Value→Shared→Prop} {s:Shared} {kd:SortKind} {rk:Keyed→Int} {a₀:Array Keyed}
end
end L2
namespace L2
open PySem PySem.Spec PyProof.Rows
section
variable {M:Model} {A:Around} {E:Value→Shared→Prop} {s:Shared} {kd:SortKind} {rk:Keyed→Int} {a₀:Array Keyed}
structure MH (rk:Keyed→Int) (a b out:Array Keyed) (na nb:Nat):Prop where
 ha:na≤a.size
 hb:nb≤b.size
 so:PwL rk out.toList.reverse
 le:∀ p∈a.toList.take na ++ b.toList.take nb,∀ q∈out.toList,rk p≤rk q
 pm:((a.toList.take na ++ b.toList.take nb) ++ out.toList.reverse).Perm (a.toList ++ b.toList)
end
end L2
namespace L2
open PySem PySem.Spec PyProof.Rows
section
variable {M:Model} {A:Around} {E:Value→Shared→Prop} {s:Shared} {kd:SortKind} {rk:Keyed→Int} {a₀:Array Keyed}
end
end L2
namespace L2
open PySem PySem.Spec PyProof.Rows
section
variable {M:Model} {A:Around} {E:Value→Shared→Prop} {s:Shared} {kd:SortKind} {rk:Keyed→Int} {a₀:Array Keyed}
end
end L2
namespace L2
open PySem PySem.W PySem.Spec PyProof.Rows
section
variable {prog:Program} {w:World} {A:Around} {E:Value→Shared→Prop} {s:Shared}
end
section
variable {X:Cx}
end
section
variable {H:Hp} {Q:VK}
end
end L2
namespace L2
open PySem PySem.Spec PyProof.Rows
section
variable {prog:Program} {w:World} {A:Around} {E:Value→Shared→Prop} {s:Shared}
end
end L2
namespace L2
open PySem PySem.Spec PyProof.Rows
section
variable {K:PySem.W.Frag} {σ:St} {H:Hp}
end
end L2
namespace L2
open PySem PySem.W PySem.Spec PyProof.Rows
section
variable {prog:Program} {w:World} {A:Around} {E:Value→Shared→Prop} {s:Shared}
end
section
variable {X:Cx}
end
section
variable {H:Hp} {Q:VK}
end
end L2
namespace L2
open PySem PySem.Spec PyProof.Rows
end L2
namespace L2
open PySem PySem.Spec PyProof.Rows
section
variable {X:Cx}
end
section
variable {H:Hp} {Q:VK} {K:PySem.W.Frag}
end
end L2
namespace L2
open PySem PySem.Spec PyProof.Rows
section
variable {X:Cx} {N':List Str} {scope:Scope} {C:Addr} {s₀:Shared} {H₀:Hp} {ex:List Addr} {x:Str} {pos:Pos}
end
end L2
namespace L2
open PySem PySem.Spec PyProof.Rows
section
variable {X:Cx}
end
section
variable {H:Hp} {Q:VK}
end
section
variable {sub:List (Option Nat)} {g:TG} {tt:TT} {te:TE} {σ:St} {Q:VK} {H:Hp} {K:PySem.W.Frag} {a b:Addr} {xs ys:List V}
end
end L2
namespace HT
open PySem PySem.Spec PyProof.Rows
section
variable {prog:Program} {w:World} {A:Around} {E:Value→Shared→Prop} {s:Shared}
end
end HT
namespace L2
open PySem PySem.Spec PyProof.Rows
section
variable {X:Cx}
end
section
variable {H:Hp} {Q:VK} {K:PySem.W.Frag} {p:Addr} {xs:List V} {lo hi:Option Int}
end
theorem uE {xs:List V} {k:Nat}:ug xs (some (k:Int)) none=xs.drop k:=by
 unfold ug
 rw [HT.sIx_none,HT.sIx_nat]
 by_cases h:k≤xs.length
 ·rw [Nat.min_eq_left h,List.take_of_length_le (by rw [List.length_drop];omega)]
 ·rw [Nat.min_eq_right (by omega),List.drop_eq_nil_of_le (by omega),List.drop_eq_nil_of_le (by omega)];simp
theorem zm {xs:List V} {k:Nat}:ug xs none (some (k:Int))=xs.take k:=by
 unfold ug
 rw [HT.sIx_none,HT.sIx_nat,List.drop_zero,Nat.sub_zero]
 by_cases h:k≤xs.length
 ·rw [Nat.min_eq_left h]
 ·rw [Nat.min_eq_right (by omega),List.take_of_length_le (by omega),List.take_of_length_le (by omega)]
end L2
namespace L2
open PySem PySem.Spec PyProof.Rows
end L2
namespace L2
open PySem PySem.Spec PyProof.Rows
section
variable {prog:Program} {w:World} {A:Around} {E:Value→Shared→Prop} {s:Shared} {d it:Addr} {es:Array DictEntry} {ep i:Nat}
end
end L2
namespace L2
open PySem PySem.Spec PyProof.Rows
section
variable {X:Cx} {pins:List (Addr×Obj)} {σ:St} {H:Hp} {s:Shared}
end
end L2
namespace L2
open PySem PySem.Spec PyProof.Rows
section
variable {prog:Program} {w:World} {A:Around} {E:Value→Shared→Prop} {s:Shared} {d it v:Addr} {es:Array DictEntry} {ep i:Nat}
end
end L2
namespace L2
open PySem PySem.Spec PyProof.Rows
section
variable {X:Cx} {K:PySem.W.Frag} {a b e f o:Expr} {ta tb tc:TE} {pos apos cpos:Pos} {H:Hp} {Q:VK} {σ:St}
theorem Jw (hu:X.A.units+64 < cLine) (ha:JE X a ta) (hb:JE X b tb) (h:autoParam (oF b=true) L2.auto4._auto_1):JE X (.Subscript a b pos) (HH ta tb):=⟨Ms (by omega) ha.run hb.run (pix h)⟩
theorem xr (h:ta σ H fun x H1=>tb σ H1 fun y H2=>∃ a v,x= .ref a∧DGet H2 a y (some v)∧Q v H2):HH ta tb σ H Q:=h
end
end L2
namespace L2
open PySem PySem.Spec PyProof.Rows
section
variable {prog:Program} {w:World} {A:Around} {E:Value→Shared→Prop} {s:Shared} {d:Addr} {es:Array DictEntry} {ep:Nat}
end
section
variable {X:Cx} {pins:List (Addr×Obj)} {σ:St} {H:Hp} {s:Shared} {K:PySem.W.Frag}
end
section
variable {X:Cx} {pins:List (Addr×Obj)} {σ:St} {H:Hp} {s:Shared} {a b:Addr} {kvs:List (List Key×V)} {k:List Key} {z:V} {r:Value} {A:Around} {E:Value→Shared→Prop}
end
section
variable {X:Cx} {K:PySem.W.Frag} {e f o:Expr} {es:List Expr} {ta tb tc:TE} {t:TA} {pos apos cpos:Pos} {H:Hp} {Q:VK} {σ:St} {D:Ends}
end
end L2
namespace L2
open PySem PySem.Spec PyProof.Rows
structure lY (K:PySem.W.Frag) (mg:Str→Option Value) (xs:List Str) (m qual:Str) (st:Stmt):Prop where
 ex:∃ f fd,(∀ x∈xs,Meth K (aD mg x) m f)∧Fun K m qual st f fd
theorem rD {K:PySem.W.Frag} {mg:Str→Option Value} {h:Heap} (X:K.In h) (G:h.Ns mainGlobals mg) {x1 x2 x3 x4 m qual:Str} {C1 C2 C3 C4 f:Addr} {st:Stmt} {oc:Value} {od an:Option Addr} {osl:Array (Option Value)} {kV doc pm cdv ct:Value}
  (a1:PySem.W.nsIn K mainGlobals x1=some (some (.ref C1))) (a2:PySem.W.nsIn K mainGlobals x2=some (some (.ref C2))) (a3:PySem.W.nsIn K mainGlobals x3=some (some (.ref C3))) (a4:PySem.W.nsIn K mainGlobals x4=some (some (.ref C4)))
  (i1:PySem.W.findIn K (.ref C1) m=some (some (.ref f))) (i2:PySem.W.findIn K (.ref C2) m=some (some (.ref f))) (i3:PySem.W.findIn K (.ref C3) m=some (some (.ref f))) (i4:PySem.W.findIn K (.ref C4) m=some (some (.ref f)))
  (n:PySem.W.isFn K (.ref f)=true)
  (l:K.lookup f=some ⟨oc,od,.func (PySem.W.fnOf m qual (gw st) (cj st) (aq st) .none kV doc pm an cdv ct),osl⟩) (c:PySem.W.codeIn K cdv qual=true) (k:PySem.W.keepIn K (.ref f)=true):lY K mg [x1,x2,x3,x4] m qual st:=by
 have e1:=gW (PySem.W.mg_of X G a1)
 have e2:=gW (PySem.W.mg_of X G a2)
 have e3:=gW (PySem.W.mg_of X G a3)
 have e4:=gW (PySem.W.mg_of X G a4)
 refine ⟨f,_,fun x hx=>?_,uh l c k⟩
 simp only [List.mem_cons,List.mem_nil_iff,or_false] at hx
 rcases hx with rfl | rfl | rfl | rfl
 ·rw [e1];exact ⟨i1,n,k⟩
 ·rw [e2];exact ⟨i2,n,k⟩
 ·rw [e3];exact ⟨i3,n,k⟩
 ·rw [e4];exact ⟨i4,n,k⟩
def zp (P:Program) (w:World) (K:PySem.W.Frag) (mg:Str→Option Value) (base:Heap) (k:Nat) (xs:List Str) (m:Str) (ps:List Str) (sp:Sp):Prop:=
 ∃ f fd,(∀ x∈xs,Meth K (aD mg x) m f)∧Binds K fd ps []∧FnOk P w K mg base (Je P w) k f fd ps sp
section
variable {P:Program} {w:World} {K:PySem.W.Frag} {mg:Str→Option Value} {base:Heap}
theorem Fw {xs:List Str} {m qual:Str} {st:Stmt} {N ps:List Str} {k:Nat} {sp:Sp} (D:lY K mg xs m qual st) (S:aC N ps (aq st))
  (hb:∀ (kV doc pm:Value) (an:Option Addr) (cdv ct:Value) (us:List Value),us.length=ps.length→bindArgs (PySem.W.fnOf m qual (gw st) (cj st) (aq st) .none kV doc pm an cdv ct) ⟨us,[]⟩=pure (ps.zip us))
  (len:∀ vs H Q E,sp vs H Q E→vs.length=ps.length)
  (hbody:∀ (f:Addr) (cdv:Value) (A:Around) (outer:List Env) (s:Shared) (H:Hp) (vs:List V) (Q:VK) (E:XK),Room k (A.deeper (envOfC qual (aq st) s.heap.objs.size f cdv))→sp vs H Q E→
   ∃ t,JB (pG (Je P w) P w K mg base N qual (aq st) f cdv A outer s H E) (cj st) t∧t {nx:=fun _ H'=>Q .non H',rt:=Q} (start N vs) H):zp P w K mg base (k+1) xs m ps sp:=by
 obtain ⟨f,fd,hm,F⟩:=D.ex
 refine ⟨f,fd,hm,F.binds hb,?_⟩
 obtain ⟨oc,od,kV,doc,pm,an,cdv,ct,osl,rfl,lk,hcd⟩:=F.ex
 exact Cp lk hcd S len fun A outer s H vs Q E hr h=>let ⟨t,j,q⟩:=hbody f cdv A outer s H vs Q E hr h;⟨t,j.run,q⟩
end
def Jx (mg:Str→Option Value) (xs:List Str) (m:Str) (sp:Sp) (R:St→XK) (ta:TE) (t:TA):TE:=fun σ H Q=>ta σ H fun x H1=>∃ a y dx fs,x= .ref a∧y∈xs∧H1 a=some (.ins (aD mg y) dx fs)∧fs.lookup m=none∧t σ H1 fun vs H2=>sp (x :: vs) H2 Q (R σ)
def QQ (sp:Sp) (R:St→XK) (t:TA):TE:=fun σ H Q=>t σ H fun vs H1=>sp vs H1 Q (R σ)
def YZ (K:PySem.W.Frag) (mg:Str→Option Value) (xs:List Str):Prop:=∀ x∈xs,Cls K (aD mg x)
theorem N8 {K:PySem.W.Frag} {mg:Str→Option Value} {x1 x2 x3 x4:Str} (h1:oh K mg x1) (h2:oh K mg x2) (h3:oh K mg x3) (h4:oh K mg x4):YZ K mg [x1,x2,x3,x4]:=fun x hx=>by
 simp only [List.mem_cons,List.mem_nil_iff,or_false] at hx
 rcases hx with rfl | rfl | rfl | rfl
 ·exact h1.cl
 ·exact h2.cl
 ·exact h3.cl
 ·exact h4.cl
structure Df (K:PySem.W.Frag) (mg:Str→Option Value) (x m qual:Str) (st:Stmt):Prop where
 at_:mg x=some (.ref (aD mg x))
 sp:PySem.W.specialIn K (.ref (aD mg x)) "__getattribute__"=some (some (.builtin "type.__getattribute__"))
 rd:PySem.W.readsIn K (aD mg x) (.type "type")=true
 ex:∃ f fd,PySem.W.findCls K (.ref (aD mg x)) (.type "type") m=some (.val (.ref f))∧PySem.W.keepIn K (.ref f)=true∧Fun K m qual st f fd
theorem WP {K:PySem.W.Frag} {mg:Str→Option Value} {h:Heap} (X:K.In h) (G:h.Ns mainGlobals mg) {x m qual:Str} {C f:Addr} {st:Stmt} {oc:Value} {od an:Option Addr} {osl:Array (Option Value)} {kV doc pm cdv ct:Value}
  (a:PySem.W.nsIn K mainGlobals x=some (some (.ref C))) (s:PySem.W.specialIn K (.ref C) "__getattribute__"=some (some (.builtin "type.__getattribute__"))) (r:PySem.W.readsIn K C (.type "type")=true)
  (i:PySem.W.findCls K (.ref C) (.type "type") m=some (.val (.ref f)))
  (l:K.lookup f=some ⟨oc,od,.func (PySem.W.fnOf m qual (gw st) (cj st) (aq st) .none kV doc pm an cdv ct),osl⟩) (c:PySem.W.codeIn K cdv qual=true) (k:PySem.W.keepIn K (.ref f)=true):Df K mg x m qual st:=by
 have e0:=PySem.W.mg_of X G a
 have e:=gW e0
 exact ⟨by rw [e];exact e0,by rw [e];exact s,by rw [e];exact r,f,_,by rw [e];exact i,k,uh l c k⟩
def TV (P:Program) (w:World) (K:PySem.W.Frag) (mg:Str→Option Value) (base:Heap) (k:Nat) (x m:Str) (ps:List Str) (sp:Sp):Prop:=
 mg x=some (.ref (aD mg x))∧PySem.W.specialIn K (.ref (aD mg x)) "__getattribute__"=some (some (.builtin "type.__getattribute__"))∧PySem.W.readsIn K (aD mg x) (.type "type")=true∧
 ∃ f fd,PySem.W.findCls K (.ref (aD mg x)) (.type "type") m=some (.val (.ref f))∧PySem.W.keepIn K (.ref f)=true∧Binds K fd ps []∧FnOk P w K mg base (Je P w) k f fd ps sp
section
variable {P:Program} {w:World} {K:PySem.W.Frag} {mg:Str→Option Value} {base:Heap}
theorem hasC {x m qual:Str} {st:Stmt} {N ps:List Str} {k:Nat} {sp:Sp} (D:Df K mg x m qual st) (S:aC N ps (aq st))
  (hb:∀ (kV doc pm:Value) (an:Option Addr) (cdv ct:Value) (us:List Value),us.length=ps.length→bindArgs (PySem.W.fnOf m qual (gw st) (cj st) (aq st) .none kV doc pm an cdv ct) ⟨us,[]⟩=pure (ps.zip us))
  (len:∀ vs H Q E,sp vs H Q E→vs.length=ps.length)
  (hbody:∀ (f:Addr) (cdv:Value) (A:Around) (outer:List Env) (s:Shared) (H:Hp) (vs:List V) (Q:VK) (E:XK),Room k (A.deeper (envOfC qual (aq st) s.heap.objs.size f cdv))→sp vs H Q E→
   ∃ t,JB (pG (Je P w) P w K mg base N qual (aq st) f cdv A outer s H E) (cj st) t∧t {nx:=fun _ H'=>Q .non H',rt:=Q} (start N vs) H):TV P w K mg base (k+1) x m ps sp:=by
 obtain ⟨f,fd,hm,kp,F⟩:=D.ex
 refine ⟨D.at_,D.sp,D.rd,f,fd,hm,kp,F.binds hb,?_⟩
 obtain ⟨oc,od,kV,doc,pm,an,cdv,ct,osl,rfl,lk,hcd⟩:=F.ex
 exact Cp lk hcd S len fun A outer s H vs Q E hr h=>let ⟨t,j,q⟩:=hbody f cdv A outer s H vs Q E hr h;⟨t,j.run,q⟩
end
section
variable {X:Cx} {K:PySem.W.Frag} {k:Nat} {f C:Addr} {ps xs:List Str} {sp:Sp} {R:St→XK} {x m fn:Str} {p pos apos pos':Pos} {e o value:Expr} {es:List Expr} {ta tv:TE} {t:TA} {pins:List (Addr×Obj)} {σ:St} {H:Hp} {s:Shared} {Q:VK} {us:List Value} {vs:List V} {mg:Str→Option Value}
theorem aL {pl:Sem Bool} (hmg:X.mg=mg) (he:JE X o ta) (c:YZ X.K X.mg xs) (F:zp X.prog X.w X.K X.mg X.base k xs m ps sp) (hr:Room k X.A) (hx:oJ X R)
  (ht:eval (.Call (.Attribute o m apos) [] [] pos) X.env=(do
   let ov ← eval o X.env
   standAt apos.atName
   let (f,first) ← holding [ov] (getMethod ov m pl)
   callWith pos f first (backTo pos (starEach [] X.env)) (backToKw pos (keywordEach [] X.env))):=by rfl):
  JE X (.Call (.Attribute o m apos) [] [] pos) (Jx mg xs m sp R ta LQ):=⟨by
 subst hmg
 obtain ⟨f,fd,hm,hb,F⟩:=F
 intro pins s σ H Q I h
 refine PySem.W.methodCall_KW (pl:=pl) (fJ (he.run pins s σ H _ I h) fun u s1 qq0=>?_) ht
 obtain ⟨x,H1,I1,rx,a,y,dx,fs,ex,hy,ea,l,q⟩:=qq0
 subst ex
 obtain rfl:u=Value.ref a:=rx
 refine Ai I1 ea (c y hy) (hm y hy) l ?_
 exact PySem.W.callWith_K0 (first:=[.ref a]) I1.kIn (hm y hy).kp (CZ (us:=[.ref a]) (vs:=[.ref a]) F hr hb hx I1 (.cons rfl .nil) q)⟩
theorem xx {pl:Sem Bool} (F:TV X.prog X.w X.K X.mg X.base k x m ps sp) (hr:Room k X.A) (hg:Gl X x) (hx:oJ X R) (ha:JA X (e :: es) t) (hdb:(x == ("__debug__":Str))=false)
  (hs:autoParam ((e :: es).all notStar=true) L2.auto4._auto_1)
  (ht:eval (.Call (.Attribute (.Name x p) m apos) (e :: es) [] pos) X.env=(do
   let ov ← eval (.Name x p) X.env
   standAt apos.atName
   let (f,first) ← holding [ov] (getMethod ov m pl)
   callWith pos f first (backTo pos (starEach (e :: es) X.env)) (backToKw pos (keywordEach [] X.env))):=by rfl):
  JE X (.Call (.Attribute (.Name x p) m apos) (e :: es) [] pos) (QQ sp R t):=⟨by
 have h1:notStar e=true:=by simp only [List.all_cons,Bool.and_eq_true] at hs;exact hs.1
 have h2:es.all notStar=true:=by simp only [List.all_cons,Bool.and_eq_true] at hs;exact hs.2
 obtain ⟨at_,sg,rd,f,fd,fc,kp,hb,F⟩:=F
 intro pins s σ H Q I h
 refine PySem.W.methodCall_KW (pl:=pl) (qm I hg at_ ?_ hdb) ht
 refine PySem.W.method_cls I.kIn sg (PySem.W.cls_value I.kIn rd fc rfl ?_)
 have I1:=I.tok (s.toks+1)
 refine PySem.W.callWith_K (first:=[]) (h₀:=X.base) I.ok.mod.kin kp (fJ (ha.run pos pins _ σ H _ I1 h) fun us s2 ⟨vs,H2,I2,r,q2⟩=>⟨I2.kIn,?_⟩) (cA h1) (m5 h2)
 exact CZ F hr hb hx I2 r q2⟩
end
section
variable {σ:St} {H:Hp} {D:Ends} {Q:VK} {sp:Sp} {R:St→XK} {a:TA} {K:PySem.W.Frag} {xs:List Str} {mg:Str→Option Value} {ta tv:TE} {f m:Str}
theorem bJ (h:ta σ H fun x H1=>∃ b y dx fs,x= .ref b∧y∈xs∧H1 b=some (.ins (aD mg y) dx fs)∧fs.lookup m=none∧a σ H1 fun vs H2=>sp (x :: vs) H2 Q (R σ)):Jx mg xs m sp R ta a σ H Q:=h
theorem dG (h:a σ H fun vs H1=>sp vs H1 Q (R σ)):QQ sp R a σ H Q:=h
end
end L2
namespace L2
open PySem PySem.Spec PyProof.Rows
def WQ (xs:Array Value) (c:Nat):Obj:={cls:=.type "list",dict:=none,data:=.seq xs c,slots:=#[]}
section
variable {prog:Program} {w:World} {A:Around} {R:Result→Shared→Prop} {I S:Addr} {fp wr:List Addr} {n:Nat} {P:Nat→Value→Prop} {St:Nat→Heap→Prop} {d:Value} {bt:Nat→Nat→Bool}
abbrev mdl (I S:Addr) (d:Value):Code:=.builtin "max.loop" ⟨[.ref I,.none,.ref S],[(Str.ofString "default",d)]⟩
theorem Oa (W:Walks prog w A.in1 I fp wr n P St) (hcmp:CmpOf prog w A.in1 .Gt P bt) (hSf:S ∉ fp):∀ (k j:Nat) (s:Shared) (v:Value) (c:Nat),j+k+1=n→St (j+1) s.heap→P (argBest bt j) v→s.heap.get? S=some (WQ #[v,v] c)→
  (∀ v h' tk,P (argBest bt (n - 1)) v→(∀ b o,b ∉ wr→b≠S→s.heap.get? b=some o→h'.get? b=some o)→R (.ok (.ret v)) {s with heap:=h',toks:=tk})→codeAny (model prog w) A (mdl I S d) R s:=by
 have hSw:S ∉ wr:=fun h=>hSf (W.sub _ h)
 have nm:(toString "max" ++ toString ".loop":String)="max.loop":=by decide
 intro k
 induction k with
 | zero=>
  intro j s v c e hst hv hS hR
  refine codeAny_builtin F.entry_max_loop ?_
  rw [Around.under_plainId F.plain_max_loop _]
  show wpAny _ A.in1 (seqItems? (.ref S) >>=_) _ _ s
  refine wpAny_bind (wpAny_seqItems hS rfl ?_)
  show wpAny _ A.in1 (tryCatch (pyNext (.ref I)) _ >>=_) _ _ s
  have e':j+1=n:=e
  refine wpAny_bind (wpAny_tryCatch (W.done s _ _ (e' ▸ hst) fun h' tk kp=>?_))
  refine wpAny_bind (m:=updateSeq S fun _=>#[]) ?_
  refine wpAny_updateSeq (kp S _ hSw hS) rfl (wpAny_bind (wpAny_letGo (wpAny_pure (hR v _ tk ?_ fun b o n1 n2 q=>?_))))
  ·rw [← e'];exact hv
  ·exact (Heap.get?_update_other _ _ (Ne.symm n2)).trans (kp b o n1 q)
 | succ k ih=>
  intro j s v c e hst hv hS hR
  refine codeAny_builtin F.entry_max_loop ?_
  rw [Around.under_plainId F.plain_max_loop _]
  show wpAny _ A.in1 (seqItems? (.ref S) >>=_) _ _ s
  refine wpAny_bind (wpAny_seqItems hS rfl ?_)
  show wpAny _ A.in1 (tryCatch (pyNext (.ref I)) _ >>=_) _ _ s
  refine wpAny_bind (wpAny_tryCatch (W.item (j+1) s _ _ (by omega) hst fun u h' tk hu hst' kp=>?_))
  have hS':=kp S _ hSw hS
  show wpAny _ A.in1 (tryCatch (holding [u,u] (richCompare .Gt u v >>=_)) _ >>=_) _ _ _
  refine wpAny_bind (wpAny_tryCatch (wpAny_holding (wpAny_bind (hcmp (j+1) (argBest bt j) u v _ _ _ hu hv ?_))))
  refine wpAny_bind (wpAny_holding (wpAny_truthy_bool (wpAny_bind (wpAny_letGo (wpAny_pure ?_)))))
  have eb:argBest bt (j+1)=if bt (j+1) (argBest bt j) then j+1 else argBest bt j:=rfl
  cases hb:bt (j+1) (argBest bt j) with
  | true=>
   rw [hb,if_pos rfl] at eb
   rw [if_pos rfl]
   refine wpAny_bind (wpAny_updateSeq hS' rfl (wpAny_bind (wpAny_letGo ?_)))
   rw [nm]
   refine wpAny_pure ⟨plainId_quiet F.plain_max_loop _,ih (j+1) _ u _ (by omega) (W.frame _ _ _ hst' fun b hf o q=>?_) (by rw [eb];exact hu) (Heap.get?_update_self _ hS' rfl) fun v' h2 tk2 hv' k2=>hR v' h2 tk2 hv' fun b o n1 n2 q=>?_⟩
   ·exact (Heap.get?_update_other _ _ (fun z:S=b=>hSf (z ▸ hf))).trans q
   ·exact k2 b o n1 n2 ((Heap.get?_update_other _ _ (Ne.symm n2)).trans (kp b o n1 q))
  | false=>
   rw [hb,if_neg (by decide)] at eb
   rw [if_neg (by decide)]
   refine wpAny_bind (wpAny_letGo ?_)
   rw [nm]
   exact wpAny_pure ⟨plainId_quiet F.plain_max_loop _,ih (j+1) _ v c (by omega) hst' (by rw [eb];exact hv) hS' fun v' h2 tk2 hv' k2=>hR v' h2 tk2 hv' fun b o n1 n2 q=>k2 b o n1 n2 (kp b o n1 q)⟩
theorem Bo (W:Walks prog w A.in1 I fp wr n P St) (hcmp:CmpOf prog w A.in1 .Gt P bt) (hSf:S ∉ fp) {s:Shared} {c:Nat} (hst:St 0 s.heap) (hS:s.heap.get? S=some (WQ #[] c))
  (h0:n=0→∀ h' tk,(∀ b o,b ∉ wr→b≠S→s.heap.get? b=some o→h'.get? b=some o)→R (.ok (.ret d)) {s with heap:=h',toks:=tk})
  (hR:0 < n→∀ v h' tk,P (argBest bt (n - 1)) v→(∀ b o,b ∉ wr→b≠S→s.heap.get? b=some o→h'.get? b=some o)→R (.ok (.ret v)) {s with heap:=h',toks:=tk}):codeAny (model prog w) A (mdl I S d) R s:=by
 have hSw:S ∉ wr:=fun h=>hSf (W.sub _ h)
 have nm:(toString "max" ++ toString ".loop":String)="max.loop":=by decide
 refine codeAny_builtin F.entry_max_loop ?_
 rw [Around.under_plainId F.plain_max_loop _]
 show wpAny _ A.in1 (seqItems? (.ref S) >>=_) _ _ s
 refine wpAny_bind (wpAny_seqItems hS rfl ?_)
 show wpAny _ A.in1 (tryCatch (pyNext (.ref I)) _ >>=_) _ _ s
 by_cases hn:n=0
 ·refine wpAny_bind (wpAny_tryCatch (W.done s _ _ (hn ▸ hst) fun h' tk kp=>?_))
  show wpAny _ A.in1 (rule _ >>=_) _ _ _
  exact wpAny_bind (wpAny_rule (wpAny_pure (h0 hn h' tk fun b o n1 _ q=>kp b o n1 q)))
 ·refine wpAny_bind (wpAny_tryCatch (W.item 0 s _ _ (by omega) hst fun u h' tk hu hst' kp=>?_))
  have hS':=kp S _ hSw hS
  show wpAny _ A.in1 (updateSeq S (fun _=>#[u,u]) >>=_) _ _ _
  refine wpAny_bind (wpAny_updateSeq hS' rfl ?_)
  rw [nm]
  refine wpAny_pure ⟨plainId_quiet F.plain_max_loop _,Oa W hcmp hSf (n - 1) 0 _ u _ (by omega) (W.frame _ _ _ hst' fun b hf o q=>?_) hu (Heap.get?_update_self _ hS' rfl) fun v' h2 tk2 hv' k2=>hR (by omega) v' h2 tk2 hv' fun b o n1 n2 q=>?_⟩
  ·exact (Heap.get?_update_other _ _ (fun z:S=b=>hSf (z ▸ hf))).trans q
  ·exact k2 b o n1 n2 ((Heap.get?_update_other _ _ (Ne.symm n2)).trans (kp b o n1 q))
theorem Fx (a v:Value):argsOk "max" ⟨[a],[(Str.ofString "default",v)]⟩:=by unfold argsOk;kernel_rfl
theorem Fy {E:Value→Shared→Prop} {s:Shared} {x:Value} {Q:Value→Shared→Prop} (h:wpAny (model prog w) A.in1 (pyIter x) (fun it s₂=>∃ I fp wr n P St bt,it= .ref I∧Walks prog w A.in1 I fp wr n P St∧St 0 s₂.heap∧(∀ b∈fp,b < s₂.heap.objs.size)∧CmpOf prog w A.in1 .Gt P bt∧
   (n=0→∀ h' tk,(∀ b o,b ∉ wr→s₂.heap.get? b=some o→h'.get? b=some o)→Q d {s₂ with heap:=h',toks:=tk})∧
   (0 < n→∀ v h' tk,P (argBest bt (n - 1)) v→(∀ b o,b ∉ wr→s₂.heap.get? b=some o→h'.get? b=some o)→Q v {s₂ with heap:=h',toks:=tk})) E s):
  wpAny (model prog w) A (call (.builtin "max") [x] [(Str.ofString "default",d)]) Q E s:=by
 have nm:(toString "max" ++ toString ".loop":String)="max.loop":=by decide
 refine kmk_tree F.kind_max F.plain_max F.entry_max (Fx _ _) ?_
 show wpAny _ A.in1 (Builtin.Builtins.bindParams "max" ["key","default"] 0 ⟨[],[(Str.ofString "default",d)]⟩ >>=_) _ _ s
 refine wpAny_bind (wpAny_of_eq (show Builtin.Builtins.bindParams "max" ["key","default"] 0 ⟨[],[(Str.ofString "default",d)]⟩=pure [none,some d] from rfl) ?_)
 refine wpAny_bind (wpAny_pure ?_)
 refine wpAny_bind (wpAny_mono h (fun it s₂ h₂=>?_) fun _ _ e=>e)
 obtain ⟨I,fp,wr,n,P,St,bt,rfl,W,hst,hfp,hcmp,q0,q1⟩:=h₂
 refine wpAny_bind (wpAny_newObj_type ?_)
 have hSf:s₂.heap.objs.size ∉ fp:=fun hm=>Nat.lt_irrefl _ (hfp _ hm)
 rw [nm]
 have lt:∀ {b o},s₂.heap.get? b=some o→b≠s₂.heap.objs.size:=fun e=>Nat.ne_of_lt (Heap.lt_size e)
 exact wpAny_pure ⟨plainId_quiet F.plain_max_loop _,Bo W hcmp hSf (W.frame _ _ _ hst fun b _ o e=>Heap.get?_push_of_some _ e) (Heap.get?_push_size _ rfl)
  (fun hn h' tk kp=>q0 hn h' tk fun b o n1 e=>kp b o n1 (lt e) (Heap.get?_push_of_some _ e)) (fun hn v h' tk hv kp=>q1 hn v h' tk hv fun b o n1 e=>kp b o n1 (lt e) (Heap.get?_push_of_some _ e))⟩
end
def Jy:V→V→Hp→VK→Prop:=fun x y H Q=>∃ (p:Addr) (ns:List Int),x= .ref p∧H p=some (.lst (ns.map V.int))∧(ns=[]→Q y H)∧∀ M,M∈ns→(∀ a∈ns,a≤M)→Q (.int M) H
def QR (ta td:TE):TE:=fun σ H Q=>ta σ H fun x H1=>td σ H1 fun y H2=>Jy x y H2 Q
section
variable {X:Cx} {pins:List (Addr×Obj)} {σ:St} {H:Hp} {s:Shared} {Q:VK} {x:Str} {p pos kpos:Pos} {e dv:Expr} {ta td:TE}
theorem Jz {u ud:Value} {v y:V} (hc:X.calm=true) (I:Inv X pins σ H s) (rv:RelV v u) (ry:RelV y ud) (h:Jy v y H Q):
  wpAny (model X.prog X.w) X.A (call (.builtin "max") [u] [(Str.ofString "default",ud)]) (EP X pins σ Q) X.xe s:=by
 obtain ⟨p,ns,rfl,hp,q0,q1⟩:=h
 obtain rfl:u= .ref p:=rv
 obtain ⟨hz,its,n,rv,g⟩:=I.hok p _ hp
 have hi:IntsAre its ns:=intsAre_of rv
 have hl:=rv.length
 obtain ⟨ys,ey⟩:=hi.allInts.items
 have hn:=hi.numsOf
 have hL:s.heap.IsList p (intItems ys):=⟨_,g,rfl,n,by rw [← ey]⟩
 have en:ys.toList.map (·.1)=ns:=by rw [← nums_intItems,← ey,← hn]
 have el:ys.size=ns.length:=by rw [← en];simp
 have ez:(intItems ys).size=ys.size:=by simp [intItems]
 refine Fy (iter_intList hL fun s₂ e st hfp hlI=>?_)
 subst e
 refine ⟨_,_,_,_,_,_,_,rfl,Walks.list (A:=X.A.in1) (I.ok.hd hc) _ p hlI (intItems ys),st,hfp,CmpOf.ints_gt (numAt ys) (fun _ _=>intItems_at),fun h0 h' tk hk=>?_,fun h0 v h' tk hP hk=>?_⟩
 ·exact ⟨y,H,I.kept (old_kept hk),ry,q0 (List.eq_nil_of_length_eq_zero (by omega))⟩
 ·have hP':(intItems ys)[argBest (fun i j=>decide (numAt ys i > numAt ys j)) (ys.size - 1)]?=some v:=by rw [← ez];exact hP
  obtain ⟨t,rfl⟩:=intItems_at hP'
  obtain ⟨h1,h2⟩:=argBest_gt (numAt ys) (ys.size - 1)
  refine ⟨.int _,H,I.kept (old_kept hk),⟨t,rfl⟩,q1 _ ?_ fun a ha=>?_⟩
  ·rw [← en,numAt_eq];exact getD_mem (by rw [List.length_map,Array.length_toList];omega)
  ·rw [← en] at ha
   obtain ⟨j,hj,rfl⟩:=mem_getD ha
   rw [List.length_map,Array.length_toList] at hj
   rw [← numAt_eq];exact h2 j (by omega)
theorem TX (hc:X.calm=true) (hg:Gl X "max") (hm:X.mg "max"=none) (ha:JE X e ta) (hd:JE X dv td) (h:autoParam (notStar e=true) L2.auto4._auto_1):
  JE X (.Call (.Name "max" p) [e] [⟨some "default",dv,kpos⟩] pos) (QR ta td):=⟨by
 intro pins s σ H Q I hq
 refine wpAny_Call_Name_kw (jz I hg hm (show bootBuiltins "max"=some (.builtin "max") from by decide+kernel) ?_)
 refine PyProof.Rows.callWith_kw (arg1 h (fJ (ha.run pins s σ H _ I hq) fun u s1 qq0=>?_)) (by rw [cA h];rfl) (by rw [cA h];rfl)
 obtain ⟨v,H1,I1,rv,q1⟩:=qq0
 refine wpAny_evalAll_cons (wpAny_bind (fJ (hd.run pins s1 σ H1 _ I1 q1) fun ud s2 ⟨y,H2,I2,ry,q2⟩=>wpAny_bind (wpAny_standAt (wpAny_pure (wpAny_evalAll_nil ?_)))))
 exact Jz hc I2 rv ry q2⟩
end
section
variable {σ:St} {H:Hp} {Q:VK} {ta td:TE}
theorem bK (h:ta σ H fun x H1=>td σ H1 fun y H2=>Jy x y H2 Q):QR ta td σ H Q:=h
end
structure ITxt (K:PySem.W.Frag) (mg:Str→Option Value) (x:Str):Prop where
 ha:PySem.W.findIn K (.ref (aD mg x)) "__class__"=some (some (.builtin "object.__class__"))
 hn:PySem.W.specialIn K (.builtin "object.__class__") "__get__"=some (some (.builtin "getset_descriptor.__get__"))
 htk:PySem.W.takesIn K (.builtin "object.__class__")=some true
 hm:PySem.W.mroIn K (aD mg x) (.type "object")=some true
theorem Dg {K:PySem.W.Frag} {mg:Str→Option Value} {h:Heap} (X:K.In h) (G:h.Ns mainGlobals mg) {x:Str} {C:Addr} (a:PySem.W.nsIn K mainGlobals x=some (some (.ref C)))
  (b:PySem.W.findIn K (.ref C) "__class__"=some (some (.builtin "object.__class__"))) (c:PySem.W.specialIn K (.builtin "object.__class__") "__get__"=some (some (.builtin "getset_descriptor.__get__")))
  (d:PySem.W.takesIn K (.builtin "object.__class__")=some true) (e:PySem.W.mroIn K C (.type "object")=some true):ITxt K mg x:=by
 have q:=gW (PySem.W.mg_of X G a)
 exact ⟨by rw [q];exact b,c,d,by rw [q];exact e⟩
theorem ITxt.ty {K:PySem.W.Frag} {mg:Str→Option Value} {x:Str} (i:ITxt K mg x) (cl:Cls K (aD mg x)) {H:Hp} {a dx:Addr} {fs:List (Str×V)} (h:H a=some (.ins (aD mg x) dx fs)):TyOf K H (.ref a) (.ref (aD mg x)):=.ins h cl i.ha i.hn i.htk i.hm
theorem aO {K:PySem.W.Frag} {mg:Str→Option Value} {h:Heap} (X:K.In h) (G:h.Ns mainGlobals mg) {x:Str} {C:Addr} {t:Value} {r:Option Bool} (a:PySem.W.nsIn K mainGlobals x=some (some (.ref C))) (o:PySem.W.kitOne K t (.ref C)=r):PySem.W.kitOne K t (.ref (aD mg x))=r:=by
 rw [gW (PySem.W.mg_of X G a)];exact o
end L2
namespace L2
open PySem PySem.Spec PyProof.Rows
def WR:List V→Hp→(Int→Int→Nat→Prop)→Prop:=fun vs _ R=>∃ (lo:Int) (n:Nat),vs=[.int lo,.int (lo+n)]∧0≤lo∧lo≤1000000∧n≤1000000∧R lo 1 n
section
variable {X:Cx}
theorem uF {a b:Expr} {ta:TA} {p p2 p3 pos:Pos} (hc:X.calm=true) (hg:Gl X "list") (hm:X.mg "list"=none) (hg2:Gl X "range") (hm2:X.mg "range"=none) (ha:JA X [a,b] ta) (h:autoParam (notStar a=true) L2.auto4._auto_1) (h2:autoParam (notStar b=true) L2.auto4._auto_1):
  JE X (.Call (.Name "list" p) [.Call (.Name "range" p2) [a,b] [] p3] [] pos) (uD WR ta):=⟨by
 intro pins s σ H Q I hq
 refine wpAny_Call_Name_kw (jz I hg hm j7 (PyProof.Rows.callWith_type1 (arg1 rfl (wpAny_Call_Name_kw (jz I hg2 hm2 boot_range (PyProof.Rows.callWith_type1 (fJ (ha.run p3 pins s σ H _ I hq) fun us s1 qq0=>?_) (cA h) (by rw [cA h2];rfl))))) rfl rfl))
 obtain ⟨vs,H1,I1,r1,q1⟩:=qq0
 obtain ⟨lo,n,rfl,h0,h1,hn,q⟩:=q1
 obtain ⟨u,w',rfl,⟨t,rfl⟩,⟨t',rfl⟩⟩:=vals2 r1
 exact call_range_2 (qJ hc I1 (small_one (by omega) (by omega) (by omega) (by omega)) (by rw [rangeSize_one];split <;> omega) hn q)⟩
end
section
variable {H:Hp}
theorem Dh {lo hi:Int} {n:Nat} {R:Int→Int→Nat→Prop} (e:hi=lo+n) (h0:0≤lo) (h1:lo≤1000000) (hn:n≤1000000) (h:R lo 1 n):WR [.int lo,.int hi] H R:=⟨lo,n,by rw [e],h0,h1,hn,h⟩
end
end L2
namespace L2
open PySem PySem.Spec PyProof.Rows
def QS (K:PySem.W.Frag):R2:=fun x y H Q=>∃ a b xs,x= .ref a∧y= .ref b∧SqL K H a xs∧SqL K H b xs∧(∀ v∈xs,jl v=true∨∃ r,v= .ref r)∧Q (.bl false) H
section
variable {X:Cx}
theorem Ob (hu:X.A.units < cLine):OpR X (compareOp .NotEq) (QS X.K):=by
 intro pins s σ H x y v u Q I rx ry h
 obtain ⟨a,b,xs,rfl,rfl,ha,hb,fx,q⟩:=h
 cases rx
 cases ry
 obtain ⟨its,r1,p1,z1⟩:=I.list ha
 obtain ⟨jts,r2,p2,z2⟩:=I.list hb
 have l1:its.toArray.size=xs.length:=by simpa using r1.length.symm
 have l2:jts.toArray.size=xs.length:=by simpa using r2.length.symm
 refine SeqAt.RcNeAt.lists (e:=fun _=>true) p1.isList p2.isList (by rw [l1,l2]) hu (fun j h1 h2=>?_) X.prog X.w _ _ ?_
 ·have hj:j < xs.length:=by omega
  obtain ⟨u1,e1,q1⟩:=r1.get (List.getElem?_eq_getElem hj)
  obtain ⟨u2,e2,q2⟩:=r2.get (List.getElem?_eq_getElem hj)
  have f1:its.toArray[j]=u1:=by
   obtain ⟨_,z⟩:=List.getElem?_eq_some_iff.mp e1
   simpa using z
  have f2:jts.toArray[j]=u2:=by
   obtain ⟨_,z⟩:=List.getElem?_eq_some_iff.mp e2
   simpa using z
  rw [f1,f2]
  rcases fx _ (List.getElem_mem hj) with f | ⟨r,f⟩
  ·rw [← qI f]
   exact q9 q1 q2 f f
  ·rw [f] at q1 q2
   cases (show u1=Value.ref r from q1)
   cases (show u2=Value.ref r from q2)
   exact SeqAt.EqAt.same _
 ·have e:(!((List.range its.toArray.size).all (fun _=>true)))=false:=by simp
  rw [e]
  exact ⟨.bl false,H,I,rfl,q⟩
def Oc (K:PySem.W.Frag) (r:Bool):R2:=fun x y H Q=>∃ a b xs ys,x= .ref a∧y= .ref b∧SqL K H a xs∧SqL K H b ys∧xs.length≠ys.length∧Q (.bl r) H
theorem Od (hu:X.A.units < cLine):OpR X (compareOp .Eq) (Oc X.K false):=by
 intro pins s σ H x y v u Q I rx ry h
 obtain ⟨a,b,xs,ys,rfl,rfl,ha,hb,ne,q⟩:=h
 cases rx
 cases ry
 obtain ⟨its,r1,p1,z1⟩:=I.list ha
 obtain ⟨jts,r2,p2,z2⟩:=I.list hb
 have l1:its.toArray.size=xs.length:=by simpa using r1.length.symm
 have l2:jts.toArray.size=ys.length:=by simpa using r2.length.symm
 exact SeqAt.eq_list_lengthsAt p1.isList p2.isList (by rw [l1,l2];simpa using ne) hu ⟨.bl false,H,I,rfl,q⟩
theorem Oe (hu:X.A.units < cLine):OpR X (compareOp .NotEq) (Oc X.K true):=by
 intro pins s σ H x y v u Q I rx ry h
 obtain ⟨a,b,xs,ys,rfl,rfl,ha,hb,ne,q⟩:=h
 cases rx
 cases ry
 obtain ⟨its,r1,p1,z1⟩:=I.list ha
 obtain ⟨jts,r2,p2,z2⟩:=I.list hb
 have l1:its.toArray.size=xs.length:=by simpa using r1.length.symm
 have l2:jts.toArray.size=ys.length:=by simpa using r2.length.symm
 exact SeqAt.RcNeAt.lists_lengths p1.isList p2.isList (by rw [l1,l2];simpa using ne) hu X.prog X.w _ _ ⟨.bl true,H,I,rfl,q⟩
def JC (K:PySem.W.Frag):R2:=fun x y H Q=>Ny K x y H Q∨Oc K false x y H Q
theorem nG {K:PySem.W.Frag} (hK:X.K=K) (hu:X.A.units+64 < cLine):OpR X (compareOp .Eq) (JC K):=by
 subst hK
 exact (jW rfl hu).or (Od (Nat.lt_of_le_of_lt (Nat.le_add_right _ _) hu))
def Og (K:PySem.W.Frag):R2:=fun x y H Q=>NZ K x y H Q∨QS K x y H Q∨Oc K true x y H Q
theorem rE {K:PySem.W.Frag} (hK:X.K=K) (hu:X.A.units+64 < cLine):OpR X (compareOp .NotEq) (Og K):=by
 subst hK
 exact (Tz rfl hu).or ((Ob (Nat.lt_of_le_of_lt (Nat.le_add_right _ _) hu)).or (Oe (Nat.lt_of_le_of_lt (Nat.le_add_right _ _) hu)))
end
section
variable {K:PySem.W.Frag} {H:Hp} {Q:VK}
theorem rF {i j:Int} (h:Q (.bl (!decide (V.int i=V.int j))) H):Og K (.int i) (.int j) H Q:=.inl (TF h)
theorem rG {i j:Str} (h:Q (.bl (!decide (V.str i=V.str j))) H):Og K (.str i) (.str j) H Q:=.inl (TJ h)
theorem oM {i j:Int} (h:Q (.bl (decide (V.int i=V.int j))) H):JC K (.int i) (.int j) H Q:=.inl (cL h)
theorem oN {i j:Str} (h:Q (.bl (decide (V.str i=V.str j))) H):JC K (.str i) (.str j) H Q:=.inl (cM h)
theorem xF {a b:Addr} {xs:List V} (ha:H a=some (.lst xs)) (hb:H b=some (.lst xs)) (f:∀ v∈xs,jl v=true∨∃ r,v= .ref r) (h:Q (.bl true) H):JC K (.ref a) (.ref b) H Q:=.inl (.inl (Tp (SqL.of ha) (SqL.of hb) f h))
theorem TY {a b:Addr} {xs ys:List V} (ha:H a=some (.lst xs)) (hb:H b=some (.lst ys)) (f:xs.length≠ys.length) (h:Q (.bl false) H):JC K (.ref a) (.ref b) H Q:=.inr ⟨a,b,xs,ys,rfl,rfl,SqL.of ha,SqL.of hb,f,h⟩
theorem Bp {a b:Addr} {xs:List V} (ha:H a=some (.lst xs)) (hb:H b=some (.lst xs)) (f:∀ v∈xs,jl v=true∨∃ r,v= .ref r) (h:Q (.bl false) H):Og K (.ref a) (.ref b) H Q:=.inr (.inl ⟨a,b,xs,rfl,rfl,SqL.of ha,SqL.of hb,f,h⟩)
end
section
variable {X:Cx} {K:PySem.W.Frag} {o:Expr} {apos cpos:Pos} {ta:TE}
end
end L2
namespace My
open PySem L2
abbrev bz (d:Stmt) (x:Str):Prop:=(aq d).names.lookup x=some NameKind.local
abbrev QT (d:Stmt) (x:Str):Prop:=(aq d).names.lookup x=some NameKind.cell
abbrev bM (d:Stmt) (x:Str):Prop:=(aq d).names.lookup x=some NameKind.globalImplicit
def nI (cs:List Nat):List Int:=cs.map fun i:Nat=>(i:Int)
def pJ (E:List Nat) (p:Nat):Bool:=decide (E.getD p 0 < E.getD (p+1) 0)
def aM (E:List Nat) (p:Nat):List Nat:=if pJ E p=true then (E.set p (E.getD (p+1) 0)).set (p+1) (E.getD p 0) else E
def bw (E:List Nat) (ps:List Nat):List Nat:=ps.foldl aM E
theorem mQ (E ps:List Nat) (p:Nat):bw E (ps ++ [p])=aM (bw E ps) p:=by unfold bw;rw [List.foldl_append];rfl
theorem ph (E:List Nat) (p:Nat):(aM E p).length=E.length:=by unfold aM;split <;> simp
theorem kI (E ps:List Nat):(bw E ps).length=E.length:=by
 induction ps generalizing E with
 | nil=>rfl
 | cons p ps ih=>exact (ih (aM E p)).trans (ph E p)
theorem v9 {E:List Nat} {p:Nat} (h:p+1 < E.length):E=E.take p ++ E.getD p 0 :: E.getD (p+1) 0 :: E.drop (p+2)∧(E.set p (E.getD (p+1) 0)).set (p+1) (E.getD p 0)=E.take p ++ E.getD (p+1) 0 :: E.getD p 0 :: E.drop (p+2):=by
 have e1:E.getD p 0=E[p]:=by rw [List.getD_eq_getElem?_getD,List.getElem?_eq_getElem (by omega)];rfl
 have e2:E.getD (p+1) 0=E[p+1]:=by rw [List.getD_eq_getElem?_getD,List.getElem?_eq_getElem h];rfl
 have f:E=E.take p ++ E.getD p 0 :: E.getD (p+1) 0 :: E.drop (p+2):=by
  rw [e1,e2]
  conv=>lhs;rw [← List.take_append_drop p E]
  rw [List.drop_eq_getElem_cons (by omega),List.drop_eq_getElem_cons h]
 refine ⟨f,?_⟩
 generalize E.getD p 0=a at f ⊢
 generalize E.getD (p+1) 0=b at f ⊢
 have lt:(E.take p).length=p:=by rw [List.length_take];omega
 conv=>lhs;rw [f]
 rw [List.set_append_right _ _ (by omega),lt,Nat.sub_self,List.set_cons_zero,List.set_append_right _ _ (by omega),lt,show p+1 - p=1 by omega]
 rfl
theorem pU {E:List Nat} {p:Nat} (h:p+1 < E.length):(aM E p).Perm E:=by
 unfold aM
 split
 ·obtain ⟨f1,f2⟩:=v9 h
  rw [f2]
  conv=>rhs;rw [f1]
  exact (List.Perm.swap _ _ _).append_left _
 ·exact List.Perm.refl _
theorem pq {ps:List Nat}:∀ {E:List Nat},(∀ p∈ps,p+1 < E.length)→(bw E ps).Perm E:=by
 induction ps with
 | nil=>intro E _;exact List.Perm.refl _
 | cons p ps ih=>
  intro E h
  have h1:=pU (h p (by simp))
  exact (ih (E:=aM E p) fun q hq=>by rw [ph];exact h q (List.mem_cons_of_mem _ hq)).trans h1
def JD (E:List Nat) (ps:List Nat) (i:Nat):List Nat:=(List.range i).filter fun j=>pJ (bw E (ps.take j)) (ps.getD j 0)
theorem zq (E ps:List Nat) (i:Nat):JD E ps (i+1)=JD E ps i ++ (if pJ (bw E (ps.take i)) (ps.getD i 0)=true then [i] else []):=by
 unfold JD
 rw [List.range_succ,List.filter_append]
 congr 1
 by_cases h:pJ (bw E (ps.take i)) (ps.getD i 0)=true
 ·rw [if_pos h,List.filter_cons_of_pos (p:=fun j=>pJ (bw E (ps.take j)) (ps.getD j 0)) h];rfl
 ·rw [if_neg h,List.filter_cons_of_neg (p:=fun j=>pJ (bw E (ps.take j)) (ps.getD j 0)) h];rfl
theorem Oh (E ps:List Nat) (i:Nat):(JD E ps i).length≤i:=Nat.le_trans (List.length_filter_le _ _) (by simp)
theorem rH {ps:List Nat} {i:Nat} (h:i < ps.length):ps.take (i+1)=ps.take i ++ [ps.getD i 0]:=by
 rw [List.take_add_one,List.getD_eq_getElem?_getD,List.getElem?_eq_getElem h];rfl
def pW (n:Nat):List (Nat×Nat):=(List.range n).flatMap fun x=>(List.range' (x+1) (n - (x+1))).map fun y=>(x,y)
def cr (t:List Nat):Nat:=(pW t.length).countP fun p=>decide (t.getD p.2 0 < t.getD p.1 0)
theorem pX {n:Nat} {p:Nat×Nat}:p∈pW n↔p.1 < p.2∧p.2 < n:=by
 unfold pW
 simp only [List.mem_flatMap,List.mem_map,List.mem_range,List.mem_range']
 constructor
 ·rintro ⟨x,hx,y,⟨i,hi,rfl⟩,rfl⟩
  exact ⟨by show x < x+1+1*i;omega,by show x+1+1*i < n;omega⟩
 ·rintro ⟨h1,h2⟩
  exact ⟨p.1,by omega,p.2,⟨p.2 - (p.1+1),by omega,by omega⟩,rfl⟩
theorem xG (n:Nat):(pW n).Nodup:=by
 unfold pW List.Nodup
 rw [List.pairwise_flatMap]
 refine ⟨fun x _=>?_,?_⟩
 ·rw [List.pairwise_map]
  exact (List.nodup_range' (s:=x+1) (n:=n - (x+1))).imp fun h e=>h (by injection e)
 ·refine List.nodup_range.imp fun {x y} h p hp q hq e=>?_
  obtain ⟨_,_,rfl⟩:=List.mem_map.mp hp
  obtain ⟨_,_,rfl⟩:=List.mem_map.mp hq
  injection e with e1 e2
  exact h e1
theorem wg {α:Type} {P Q:α→Bool} {a:α}:∀ {l:List α},l.Nodup→a∈l→(∀ b∈l,b≠a→P b=Q b)→P a=false→Q a=true→l.countP Q=l.countP P+1
 | [],_,h,_,_,_=>by cases h
 | b :: l,hn,h,he,hP,hQ=>by
  obtain ⟨hb,hn'⟩:=List.nodup_cons.mp hn
  by_cases hab:b=a
  ·subst hab
   rw [List.countP_cons_of_pos hQ,List.countP_cons_of_neg (by rw [hP];simp)]
   congr 1
   exact List.countP_congr fun c hc=>by rw [he c (List.mem_cons_of_mem _ hc) (fun z=>hb (z ▸ hc))]
  ·have ih:=wg hn' ((List.mem_cons.mp h).resolve_left fun z=>hab z.symm) (fun c hc=>he c (List.mem_cons_of_mem _ hc)) hP hQ
   have e:=he b (by simp) hab
   cases hq:Q b with
   | true=>rw [List.countP_cons_of_pos hq,List.countP_cons_of_pos (by rw [e,hq]),ih]
   | false=>rw [List.countP_cons_of_neg (by rw [hq];simp),List.countP_cons_of_neg (by rw [e,hq];simp),ih]
def inv (E:List Nat):List Nat:=(List.range E.length).map fun x=>E.idxOf x
theorem bO (E:List Nat):(inv E).length=E.length:=by simp [inv]
theorem jY {E:List Nat} {x:Nat} (h:x < E.length):(inv E).getD x 0=E.idxOf x:=by
 unfold inv
 rw [List.getD_eq_getElem?_getD,List.getElem?_map,List.getElem?_range h];rfl
theorem iM {E:List Nat} (hn:E.Nodup) {i x:Nat} (h:E[i]?=some x):E.idxOf x=i:=by
 obtain ⟨hi,rfl⟩:=List.getElem?_eq_some_iff.mp h
 exact hn.idxOf_getElem i hi
theorem Oi {E:List Nat} {n p:Nat} (hE:E.Perm (List.range n)) (hp:p+1 < n) (hw:pJ E p=true):cr (inv (aM E p))=cr (inv E)+1:=by
 have hl:E.length=n:=by rw [hE.length_eq];simp
 have nd:E.Nodup:=hE.nodup_iff.mpr List.nodup_range
 have hlt:∀ x∈E,x < n:=fun x hx=>List.mem_range.mp (hE.mem_iff.mp hx)
 have hin:∀ x,x < n→x∈E:=fun x hx=>hE.mem_iff.mpr (List.mem_range.mpr hx)
 obtain ⟨a,ha⟩:∃ a,E[p]?=some a:=⟨_,List.getElem?_eq_getElem (by omega)⟩
 obtain ⟨b,hb⟩:∃ b,E[p+1]?=some b:=⟨_,List.getElem?_eq_getElem (by omega)⟩
 have da:E.getD p 0=a:=by rw [List.getD_eq_getElem?_getD,ha];rfl
 have db:E.getD (p+1) 0=b:=by rw [List.getD_eq_getElem?_getD,hb];rfl
 have hab:a < b:=by
  unfold pJ at hw
  rw [da,db] at hw
  exact of_decide_eq_true hw
 have eF:aM E p=(E.set p b).set (p+1) a:=by unfold aM;rw [if_pos hw,da,db]
 have fp:=pU (E:=E) (p:=p) (by omega)
 have nF:(aM E p).Nodup:=fp.nodup_iff.mpr nd
 have lF:(aM E p).length=n:=by rw [ph];exact hl
 have gF:∀ i,(aM E p)[i]?=if i=p+1 then some a else if i=p then some b else E[i]?:=fun i=>by
  rw [eF]
  by_cases h1:i=p+1
  ·subst h1
   rw [if_pos rfl,List.getElem?_set_self (by simp;omega)]
  ·rw [if_neg h1,List.getElem?_set_ne (fun z=>h1 z.symm)]
   by_cases h2:i=p
   ·subst h2
    rw [if_pos rfl,List.getElem?_set_self (by omega)]
   ·rw [if_neg h2,List.getElem?_set_ne (fun z=>h2 z.symm)]
 have ia:E.idxOf a=p:=iM nd ha
 have ib:E.idxOf b=p+1:=iM nd hb
 have ja:(aM E p).idxOf a=p+1:=iM nF (by rw [gF,if_pos rfl])
 have jb:(aM E p).idxOf b=p:=iM nF (by rw [gF,if_neg (by omega),if_pos rfl])
 have other:∀ x,x < n→x≠a→x≠b→(aM E p).idxOf x=E.idxOf x∧E.idxOf x≠p∧E.idxOf x≠p+1:=fun x hx h1 h2=>by
  obtain ⟨i,hi,e⟩:=List.mem_iff_getElem.mp (hin x hx)
  have ei:E[i]?=some x:=by rw [List.getElem?_eq_getElem hi,e]
  have n1:i≠p:=fun z=>h1 (by subst z;rw [ha] at ei;exact (Option.some.inj ei).symm)
  have n2:i≠p+1:=fun z=>h2 (by subst z;rw [hb] at ei;exact (Option.some.inj ei).symm)
  rw [iM nd ei]
  exact ⟨iM nF (by rw [gF,if_neg n2,if_neg n1,ei]),n1,n2⟩
 have han:a < n:=hlt a (List.mem_of_getElem? ha)
 have hbn:b < n:=hlt b (List.mem_of_getElem? hb)
 unfold cr
 rw [bO,bO,lF,hl]
 refine wg (a:=(a,b)) (xG n) (pX.mpr ⟨hab,hbn⟩) ?_ ?_ ?_
 ·rintro ⟨x,y⟩ hxy hne
  obtain ⟨h1,h2⟩:=pX.mp hxy
  dsimp only at h1 h2 ⊢
  have hx:x < n:=by omega
  rw [jY (by omega),jY (by omega),jY (by omega),jY (by omega)]
  congr 1
  rw [eq_iff_iff]
  by_cases xa:x=a
  ·subst xa
   have yb:y≠b:=fun z=>hne (by rw [z])
   obtain ⟨o1,o2,o3⟩:=other y h2 (by omega) yb
   rw [o1,ia,ja];omega
  ·by_cases xb:x=b
   ·subst xb
    obtain ⟨o1,o2,o3⟩:=other y h2 (by omega) (by omega)
    rw [o1,ib,jb];omega
   ·obtain ⟨q1,q2,q3⟩:=other x hx xa xb
    by_cases ya:y=a
    ·subst ya
     rw [q1,ia,ja];omega
    ·by_cases yb:y=b
     ·subst yb
      rw [q1,ib,jb];omega
     ·obtain ⟨o1,_,_⟩:=other y h2 ya yb
      rw [q1,o1]
 ·dsimp only
  rw [jY (by omega),jY (by omega),ia,ib]
  exact decide_eq_false (by omega)
 ·dsimp only
  rw [jY (by omega),jY (by omega),ja,jb]
  exact decide_eq_true (by omega)
theorem JF (n:Nat):cr (inv (List.range n))=0:=by
 unfold cr
 rw [List.countP_eq_zero]
 rintro ⟨x,y⟩ h
 rw [bO,List.length_range] at h
 obtain ⟨h1,h2⟩:=pX.mp h
 dsimp only at h1 h2 ⊢
 have e:∀ z,z < n→(List.range n).idxOf z=z:=fun z hz=>iM List.nodup_range (List.getElem?_range hz)
 rw [jY (by simpa using h2),jY (by simp;omega),e y h2,e x (by omega)]
 simp;omega
theorem JK {n:Nat} {ps:List Nat} (hp:∀ p∈ps,p+1 < n):∀ i,i≤ps.length→cr (inv (bw (List.range n) (ps.take i)))=(JD (List.range n) ps i).length
 | 0,_=>by rw [List.take_zero];exact JF n
 | i+1,h=>by
  have ih:=JK hp i (by omega)
  have hmem:ps.getD i 0∈ps:=by rw [List.getD_eq_getElem?_getD,List.getElem?_eq_getElem (by omega)];exact List.getElem_mem _
  have hpm:(bw (List.range n) (ps.take i)).Perm (List.range n):=pq fun q hq=>by simpa using hp q (List.mem_of_mem_take hq)
  rw [rH (by omega),mQ,zq]
  by_cases hw:pJ (bw (List.range n) (ps.take i)) (ps.getD i 0)=true
  ·rw [Oi hpm (hp _ hmem) hw,ih,if_pos hw];simp
  ·rw [if_neg hw,List.append_nil,← ih]
   unfold aM
   rw [if_neg hw]
structure Prm (t:List Nat):Prop where
 le:t.length≤96
 pm:t.Perm (List.range t.length)
theorem Prm.nd {t:List Nat} (h:Prm t):t.Nodup:=h.pm.nodup_iff.mpr List.nodup_range
theorem Prm.lt {t:List Nat} (h:Prm t) {x:Nat} (hx:x∈t):x < t.length:=List.mem_range.mp (h.pm.mem_iff.mp hx)
theorem Prm.mem {t:List Nat} (h:Prm t) {x:Nat} (hx:x < t.length):x∈t:=h.pm.mem_iff.mpr (List.mem_range.mpr hx)
theorem Fz {n:Nat} (h:n≤96):Prm (List.range n):=⟨by simpa using h,by simp⟩
theorem Di {n:Nat} {ps:List Nat} (h:n≤96) (hp:∀ p∈ps,p+1 < n):Prm (bw (List.range n) ps):=by
 have hl:(bw (List.range n) ps).length=n:=by rw [kI];simp
 refine ⟨by omega,?_⟩
 rw [hl]
 exact pq fun p hp'=>by simpa using hp p hp'
theorem rJ {t r:List Nat} (hP:Prm t) (hl:r.length=t.length) (h:∀ (i x:Nat),t[i]?=some x→r[x]?=some i):r=inv t:=by
 refine List.ext_getElem? fun x=>?_
 by_cases hx:x < t.length
 ·obtain ⟨i,hi,e⟩:=List.mem_iff_getElem.mp (hP.mem hx)
  have ei:t[i]?=some x:=by rw [List.getElem?_eq_getElem hi,e]
  rw [h i x ei]
  unfold inv
  rw [List.getElem?_map,List.getElem?_range hx]
  show some i=some (t.idxOf x)
  rw [iM hP.nd ei]
 ·rw [List.getElem?_eq_none (by omega),List.getElem?_eq_none (by rw [bO];omega)]
theorem lZ {E:List Nat} (h:Prm E):Prm (inv E):=by
 have hl:=bO E
 refine ⟨by rw [hl];exact h.le,?_⟩
 rw [hl]
 have nd:(inv E).Nodup:=by
  unfold inv
  unfold List.Nodup
  rw [List.pairwise_map]
  refine List.nodup_range.imp_of_mem fun {x y} hx hy ne e=>ne ?_
  have key:∀ z,z∈List.range E.length→E.getD (E.idxOf z) 0=z:=fun z hz=>by
   have hi:E.idxOf z < E.length:=List.idxOf_lt_length_iff.mpr (h.mem (List.mem_range.mp hz))
   rw [List.getD_eq_getElem?_getD,List.getElem?_eq_getElem hi]
   exact List.getElem_idxOf hi
  rw [← key x hx,← key y hy,e]
 refine (List.perm_ext_iff_of_nodup nd List.nodup_range).mpr fun x=>?_
 rw [List.mem_range]
 constructor
 ·intro hx
  unfold inv at hx
  obtain ⟨y,hy,rfl⟩:=List.mem_map.mp hx
  exact List.idxOf_lt_length_iff.mpr (h.mem (List.mem_range.mp hy))
 ·intro hx
  unfold inv
  refine List.mem_map.mpr ⟨E[x],List.mem_range.mpr (h.lt (List.getElem_mem hx)),?_⟩
  exact iM h.nd (List.getElem?_eq_getElem hx)
theorem pA {t:List Nat} (h:Prm t):inv (inv t)=t:=by
 refine (rJ (lZ h) (by rw [bO]) fun i x e=>?_).symm
 have hi:i < t.length:=by have:=(List.getElem?_eq_some_iff.mp e).1;rwa [bO] at this
 have e2:(inv t)[i]?=some (t.idxOf i):=by unfold inv;rw [List.getElem?_map,List.getElem?_range hi];rfl
 rw [e] at e2
 cases e2
 have hx:t.idxOf i < t.length:=List.idxOf_lt_length_iff.mpr (h.mem hi)
 rw [List.getElem?_eq_getElem hx]
 exact congrArg some (List.getElem_idxOf hx)
def uY (B:List Nat) (p:Nat):List Nat:=(B.set p (B.getD (p+1) 0)).set (p+1) (B.getD p 0)
theorem nH (B:List Nat) (p:Nat):(uY B p).length=B.length:=by unfold uY;simp
theorem getD_some {B:List Nat} {i:Nat} (h:i < B.length):B[i]?=some (B.getD i 0):=by rw [List.getD_eq_getElem?_getD,List.getElem?_eq_getElem h];rfl
theorem jh {B:List Nat} {p:Nat} (h:p+1 < B.length) (i:Nat):(uY B p).getD i 0=if i=p+1 then B.getD p 0 else if i=p then B.getD (p+1) 0 else B.getD i 0:=by
 unfold uY
 rw [List.getD_eq_getElem?_getD]
 by_cases h1:i=p+1
 ·subst h1
  rw [if_pos rfl,List.getElem?_set_self (by simp;omega)];rfl
 ·rw [if_neg h1,List.getElem?_set_ne (fun z=>h1 z.symm)]
  by_cases h2:i=p
  ·subst h2
   rw [if_pos rfl,List.getElem?_set_self (by omega)];rfl
  ·rw [if_neg h2,List.getElem?_set_ne (fun z=>h2 z.symm),← List.getD_eq_getElem?_getD]
theorem uG {A B:List Nat} (hl:A.length=B.length) (h:∀ i,i < A.length→A.getD i 0=B.getD i 0):A=B:=by
 refine List.ext_getElem? fun i=>?_
 by_cases hi:i < A.length
 ·rw [getD_some hi,getD_some (by omega),h i hi]
 ·rw [List.getElem?_eq_none (by omega),List.getElem?_eq_none (by omega)]
theorem Oj {B:List Nat} {p:Nat} (h:p+1 < B.length):uY (uY B p) p=B:=by
 refine uG (by rw [nH,nH]) fun i _=>?_
 rw [jh (by rw [nH];exact h),jh h,jh h,jh h]
 by_cases h1:i=p+1
 ·subst h1;simp
 ·by_cases h2:i=p
  ·subst h2;simp
  ·simp [h1,h2]
theorem uH {B:List Nat} {p:Nat} (h:pJ B p=true):aM B p=uY B p:=by unfold aM uY;rw [if_pos h]
def inn:Nat→List Nat→List Nat→List Nat×List Nat
 | 0,B,u=>(B,u)
 | p+1,B,u=>if B.getD (p+1) 0 < B.getD p 0 then inn p (uY B p) (u ++ [p]) else (B,u)
def rK (B:List Nat):Nat→List Nat×List Nat
 | 0=>(B,[])
 | k+1=>inn (k+1) (rK B k).1 (rK B k).2
def Wk:List Nat→List Nat→Prop
 | _,[]=>True
 | B,p :: us=>pJ B p=true∧Wk (aM B p) us
theorem QV:∀ {us B:List Nat} {j:Nat},Wk B us→j < us.length→pJ (bw B (us.take j)) (us.getD j 0)=true
 | p :: us,B,0,h,_=>h.1
 | p :: us,B,j+1,h,hj=>QV (us:=us) (B:=aM B p) (j:=j) h.2 (by simpa using hj)
theorem T4 {B us:List Nat} (h:Wk B us):JD B us us.length=List.range us.length:=by
 unfold JD
 rw [List.filter_eq_self]
 intro j hj
 exact QV h (List.mem_range.mp hj)
structure Sx (B0:List Nat) (n:Nat) (B u:List Nat):Prop where
 len:B.length=n
 pm:B.Perm (List.range n)
 lt:∀ p∈u,p+1 < n
 back:bw B u.reverse=B0
 wk:Wk B u.reverse
 link:∀ i,i < n→B.getD i 0=B0.getD ((bw (List.range n) u).getD i 0) 0
theorem QW {n:Nat} {u:List Nat} (h:∀ p∈u,p+1 < n):(bw (List.range n) u).Perm (List.range n):=pq fun p hp=>by simpa using h p hp
theorem rM {G:List Nat} {n i j:Nat} (h:G.Perm (List.range n)) (hi:i < n) (hj:j < n) (e:G.getD i 0=G.getD j 0):i=j:=by
 have nd:G.Nodup:=h.nodup_iff.mpr List.nodup_range
 have hl:G.length=n:=by rw [h.length_eq];simp
 have h1:=iM nd (getD_some (B:=G) (i:=i) (by omega))
 have h2:=iM nd (getD_some (B:=G) (i:=j) (by omega))
 rw [e] at h1
 omega
theorem JL {G:List Nat} {n i:Nat} (h:G.Perm (List.range n)) (hi:i < n):G.getD i 0 < n:=by
 have hl:G.length=n:=by rw [h.length_eq];simp
 exact List.mem_range.mp (h.mem_iff.mp (List.mem_of_getElem? (getD_some (by omega))))
theorem JM {B0:List Nat} {n m:Nat} (hm:m < n):∀ (p:Nat) (B u:List Nat),p≤m→Sx B0 n B u→(∀ i j,i < j→j≤m→j≠p→B.getD i 0 < B.getD j 0)→
  (bw (List.range n) u).getD p 0=m→(∀ i,i≤m→(bw (List.range n) u).getD i 0≤m)→(∀ i,m < i→i < n→(bw (List.range n) u).getD i 0=i)→
  Sx B0 n (inn p B u).1 (inn p B u).2∧(∀ i j,i < j→j≤m→(inn p B u).1.getD i 0 < (inn p B u).1.getD j 0)∧(∀ i,i≤m→(bw (List.range n) (inn p B u).2).getD i 0≤m)∧(∀ i,m < i→i < n→(bw (List.range n) (inn p B u).2).getD i 0=i)
 | 0,B,u,_,S,srt,_,gle,gid=>⟨S,fun i j h1 h2=>srt i j h1 h2 (by omega),gle,gid⟩
 | p+1,B,u,hp,S,srt,gm,gle,gid=>by
  have hB:=S.len
  have hG:=QW S.lt
  have lG:(bw (List.range n) u).length=n:=by rw [hG.length_eq];simp
  unfold inn
  by_cases hc:B.getD (p+1) 0 < B.getD p 0
  ·rw [if_pos hc]
   have hp1:p+1 < B.length:=by omega
   have w1:pJ (uY B p) p=true:=by
    unfold pJ
    rw [jh hp1,jh hp1,if_neg (by omega),if_pos rfl,if_pos rfl]
    exact decide_eq_true hc
   have w2:pJ (bw (List.range n) u) p=true:=by
    unfold pJ
    rw [gm]
    refine decide_eq_true ?_
    have h1:=gle p (by omega)
    have h2:(bw (List.range n) u).getD p 0≠m:=fun z=>by
     have:=rM hG (i:=p) (j:=p+1) (by omega) (by omega) (by rw [z,gm])
     omega
    omega
   have eG:bw (List.range n) (u ++ [p])=uY (bw (List.range n) u) p:=by rw [mQ,uH w2]
   have bk:aM (uY B p) p=B:=by rw [uH w1,Oj hp1]
   have S':Sx B0 n (uY B p) (u ++ [p]):=by
    refine ⟨by rw [nH];exact hB,?_,?_,?_,?_,?_⟩
    ·have:=pU (E:=uY B p) (p:=p) (by rw [nH];exact hp1)
     rw [bk] at this
     exact this.symm.trans S.pm
    ·intro q hq
     rcases List.mem_append.mp hq with h | h
     ·exact S.lt q h
     ·rw [List.mem_singleton.mp h];omega
    ·rw [List.reverse_append]
     show bw (aM (uY B p) p) u.reverse=B0
     rw [bk];exact S.back
    ·rw [List.reverse_append]
     show pJ (uY B p) p=true∧Wk (aM (uY B p) p) u.reverse
     rw [bk];exact ⟨w1,S.wk⟩
    ·intro i hi
     rw [eG,jh hp1,jh (by omega)]
     by_cases h1:i=p+1
     ·rw [if_pos h1,if_pos h1];exact S.link p (by omega)
     ·rw [if_neg h1,if_neg h1]
      by_cases h2:i=p
      ·rw [if_pos h2,if_pos h2];exact S.link (p+1) (by omega)
      ·rw [if_neg h2,if_neg h2];exact S.link i hi
   refine JM hm p (uY B p) (u ++ [p]) (by omega) S' (fun i j h1 h2 h3=>?_) ?_ (fun i hi=>?_) fun i h1 h2=>?_
   ·rw [jh hp1,jh hp1]
    by_cases j1:j=p+1
    ·subst j1
     rw [if_neg (show ¬ i=p+1 by omega),if_pos rfl]
     by_cases i2:i=p
     ·rw [if_pos i2];exact hc
     ·rw [if_neg i2];exact srt i p (by omega) (by omega) (by omega)
    ·rw [if_neg j1,if_neg h3]
     by_cases i1:i=p+1
     ·rw [if_pos i1];exact srt p j (by omega) h2 j1
     ·rw [if_neg i1]
      by_cases i2:i=p
      ·rw [if_pos i2];exact srt (p+1) j (by omega) h2 j1
      ·rw [if_neg i2];exact srt i j h1 h2 j1
   ·rw [eG,jh (by omega),if_neg (by omega),if_pos rfl];exact gm
   ·rw [eG,jh (by omega)]
    by_cases i1:i=p+1
    ·rw [if_pos i1];exact gle p (by omega)
    ·rw [if_neg i1]
     by_cases i2:i=p
     ·rw [if_pos i2];exact gle (p+1) hp
     ·rw [if_neg i2];exact gle i hi
   ·rw [eG,jh (by omega),if_neg (by omega),if_neg (by omega)];exact gid i h1 h2
  ·rw [if_neg hc]
   refine ⟨S,fun i j h1 h2=>?_,gle,gid⟩
   show B.getD i 0 < B.getD j 0
   by_cases hj:j=p+1
   ·subst hj
    have hne:B.getD p 0≠B.getD (p+1) 0:=fun z=>by
     have:=rM S.pm (i:=p) (j:=p+1) (by omega) (by omega) z
     omega
    by_cases hi:i=p
    ·subst hi;omega
    ·have:=srt i p (by omega) (by omega) (by omega)
     omega
   ·exact srt i j h1 h2 hj
theorem JN {B0:List Nat} {n:Nat} (hB:B0.Perm (List.range n)):∀ k,k < n→Sx B0 n (rK B0 k).1 (rK B0 k).2∧(∀ i j,i < j→j≤k→(rK B0 k).1.getD i 0 < (rK B0 k).1.getD j 0)∧(∀ i,i≤k→(bw (List.range n) (rK B0 k).2).getD i 0≤k)∧(∀ i,k < i→i < n→(bw (List.range n) (rK B0 k).2).getD i 0=i)
 | 0,h=>by
  have hl:B0.length=n:=by rw [hB.length_eq];simp
  have hr:∀ i,i < n→(List.range n).getD i 0=i:=fun i hi=>by rw [List.getD_eq_getElem?_getD,List.getElem?_range hi];rfl
  refine ⟨⟨hl,hB,(fun p hp=>by cases hp),rfl,trivial,fun i hi=>?_⟩,(fun i j h1 h2=>by omega),fun i hi=>?_,fun i _ hi=>hr i hi⟩
  ·show B0.getD i 0=B0.getD ((List.range n).getD i 0) 0
   rw [hr i hi]
  ·have:i=0:=by omega
   subst this
   show (List.range n).getD 0 0≤0
   rw [hr 0 h]
   exact Nat.le_refl _
 | k+1,h=>by
  obtain ⟨S,srt,gle,gid⟩:=JN hB k (by omega)
  show Sx B0 n (inn (k+1) (rK B0 k).1 (rK B0 k).2).1 (inn (k+1) (rK B0 k).1 (rK B0 k).2).2∧_
  refine JM h (k+1) _ _ (Nat.le_refl _) S (fun i j h1 h2 h3=>srt i j h1 (by omega)) (gid (k+1) (by omega) h) (fun i hi=>?_) fun i h1 h2=>gid i (by omega) h2
  by_cases e:i=k+1
  ·subst e;rw [gid (k+1) (by omega) h];exact Nat.le_refl _
  ·have:=gle i (by omega);omega
theorem xH {B:List Nat} {n:Nat} (hl:B.length=n) (hlt:∀ i,i < n→B.getD i 0 < n) (h:∀ i j,i < j→j < n→B.getD i 0 < B.getD j 0):B=List.range n:=by
 have mono:∀ d i,i+d < n→B.getD i 0+d≤B.getD (i+d) 0:=fun d=>by
  induction d with
  | zero=>intro i _;exact Nat.le_refl _
  | succ d ih=>
   intro i hi
   have h1:=ih i (by omega)
   have h2:=h (i+d) (i+(d+1)) (by omega) hi
   omega
 refine uG (by rw [hl];simp) fun i hi=>?_
 rw [hl] at hi
 rw [show (List.range n).getD i 0=i by rw [List.getD_eq_getElem?_getD,List.getElem?_range hi];rfl]
 have h1:=mono i 0 (by omega)
 have h2:=mono (n - 1 - i) i (by omega)
 have h3:=hlt (i+(n - 1 - i)) (by omega)
 rw [Nat.zero_add] at h1
 omega
def FJ (t:List Nat):List Nat:=(rK (inv t) (t.length - 1)).2
structure Und (t u:List Nat):Prop where
 lt:∀ p∈u,p+1 < t.length
 back:bw (List.range t.length) u.reverse=inv t
 wk:JD (List.range t.length) u.reverse u.reverse.length=List.range u.reverse.length
 fw:bw (List.range t.length) u=t
theorem Bq {t:List Nat} (h:Prm t):Und t (FJ t):=by
 have hP:=lZ h
 have hl:=bO t
 by_cases h0:t.length=0
 ·have e:t=[]:=List.length_eq_zero_iff.mp h0
  subst e
  exact ⟨(fun p hp=>by cases hp),rfl,rfl,rfl⟩
 ·have pm:(inv t).Perm (List.range t.length):=by have:=hP.pm;rwa [hl] at this
  obtain ⟨S,srt,_,_⟩:=JN pm (t.length - 1) (by omega)
  have e:(rK (inv t) (t.length - 1)).1=List.range t.length:=xH S.len (fun i hi=>JL S.pm hi) fun i j h1 h2=>srt i j h1 (by omega)
  have bk:=S.back
  have wk:=S.wk
  have lk:=S.link
  rw [e] at bk wk lk
  refine ⟨S.lt,bk,T4 wk,?_⟩
  have hG:=QW S.lt
  have lG:(bw (List.range t.length) (rK (inv t) (t.length - 1)).2).length=t.length:=by rw [hG.length_eq];simp
  refine (rJ (t:=inv t) hP (by rw [hl];exact lG) fun i x ex=>?_).trans (pA h)
  have hi:i < t.length:=by have:=(List.getElem?_eq_some_iff.mp ex).1;omega
  have dx:(inv t).getD i 0=x:=by rw [List.getD_eq_getElem?_getD,ex];rfl
  have hx:x < t.length:=by rw [← dx];exact JL pm hi
  have l1:=lk x hx
  rw [show (List.range t.length).getD x 0=x by rw [List.getD_eq_getElem?_getD,List.getElem?_range hx];rfl,← dx] at l1
  have gx:=JL hG hx
  have:=rM pm hi gx (by rw [← dx];exact l1)
  exact (getD_some (B:=bw (List.range t.length) (rK (inv t) (t.length - 1)).2) (by rw [lG];exact hx)).trans (congrArg some this.symm)
theorem pairs_len {n:Nat} (h:n≤96):(pW n).length≤6000:=by
 have key:∀ n,n < 97→((List.range n).map fun x=>n - (x+1)).sum≤6000:=by decide+kernel
 unfold pW
 rw [List.length_flatMap]
 have:=key n (by omega)
 simpa using this
theorem WT {t:List Nat} (h:t.length≤96):cr t≤6000:=Nat.le_trans List.countP_le_length (pairs_len h)
theorem Ol {t:List Nat} (h:Prm t):(FJ t).reverse.length=cr t:=by
 have U:=Bq h
 have hp:∀ p∈(FJ t).reverse,p+1 < t.length:=fun p hp=>U.lt p (List.mem_reverse.mp hp)
 have e:=JK hp (FJ t).reverse.length (Nat.le_refl _)
 rw [List.take_length,U.back,pA h,U.wk,List.length_range] at e
 exact e.symm
def cN (p x:Nat):Nat:=if p≤x then 1 else 0
def N:List Nat→Nat→Nat→Nat
 | [],_,_=>0
 | _ :: _,_,0=>0
 | x :: B,p,q+1=>cN p x+N B p q
theorem oO (B:List Nat) (p:Nat):N B p 0=0:=by cases B <;> rfl
theorem zr:∀ (L M:List Nat) (p q:Nat),N (L ++ M) p q=N L p q+N M p (q - L.length)
 | [],M,p,q=>by simp [N]
 | x :: L,M,p,0=>by simp [N,oO]
 | x :: L,M,p,q+1=>by
  rw [List.cons_append]
  show cN p x+N (L ++ M) p q=cN p x+N L p q+N M p (q+1 - (L.length+1))
  rw [zr L M p q,show q+1 - (L.length+1)=q - L.length by omega];omega
theorem xJ:∀ (L:List Nat) (p q:Nat),L.length≤q→N L p q=N L p L.length
 | [],p,q,_=>rfl
 | x :: L,p,0,h=>by simp at h
 | x :: L,p,q+1,h=>by
  show cN p x+N L p q=cN p x+N L p L.length
  rw [xJ L p q (by simpa using h)]
theorem uI:∀ {B:List Nat} {p q:Nat},q < B.length→N B p (q+1)=N B p q+cN p (B.getD q 0)
 | x :: B,p,0,_=>by
  show cN p x+N B p 0=0+cN p x
  rw [oO];omega
 | x :: B,p,q+1,h=>by
  show cN p x+N B p (q+1)=cN p x+N B p q+cN p ((x :: B).getD (q+1) 0)
  rw [uI (B:=B) (q:=q) (by simpa using h)]
  simp;omega
theorem WW {A B:List Nat} {n:Nat} (ha:A.length=n) (hb:B.length=n) (la:∀ x∈A,x < n) (lb:∀ x∈B,x < n) (h:∀ p q,p≤n→q≤n→N A p q=N B p q):A=B:=by
 refine uG (by omega) fun i hi=>?_
 have key:∀ p,p≤n→cN p (A.getD i 0)=cN p (B.getD i 0):=fun p hp=>by
  have h1:=h p (i+1) hp (by omega)
  rw [uI (by omega),uI (by omega),h p i hp (by omega)] at h1
  omega
 have ma:=la _ (List.mem_of_getElem? (getD_some (B:=A) (i:=i) (by omega)))
 have mb:=lb _ (List.mem_of_getElem? (getD_some (B:=B) (i:=i) (by omega)))
 have k1:=key (A.getD i 0) (by omega)
 have k2:=key (B.getD i 0) (by omega)
 unfold cN at k1 k2
 rw [if_pos (Nat.le_refl _)] at k1
 rw [if_pos (Nat.le_refl (B.getD i 0))] at k2
 split at k1
 ·split at k2
  ·omega
  ·cases k2
 ·cases k1
theorem JP {B:List Nat} {i:Nat} (h:i+1 < B.length) (p q:Nat):N (aM B i) p q=if q=i+1 then min (N B p i+1) (N B p (i+2)) else N B p q:=by
 obtain ⟨f1,f2⟩:=v9 h
 have e:aM B i=B.take i ++ max (B.getD i 0) (B.getD (i+1) 0) :: min (B.getD i 0) (B.getD (i+1) 0) :: B.drop (i+2):=by
  unfold aM
  split
  ·rename_i hw
   have hw':B.getD i 0 < B.getD (i+1) 0:=of_decide_eq_true hw
   rw [f2,Nat.max_eq_right (by omega),Nat.min_eq_left (by omega)]
  ·rename_i hw
   have hw':¬ B.getD i 0 < B.getD (i+1) 0:=fun z=>hw (decide_eq_true z)
   rw [Nat.max_eq_left (by omega),Nat.min_eq_right (by omega)]
   exact f1
 have lL:(B.take i).length=i:=by rw [List.length_take];omega
 generalize B.getD i 0=a at f1 e
 generalize B.getD (i+1) 0=b at f1 e
 generalize B.take i=L at f1 e lL
 generalize B.drop (i+2)=R at f1 e
 rw [e,f1,zr,zr,zr,zr,lL]
 have hc:cN p (max a b)+cN p (min a b)=cN p a+cN p b:=by unfold cN;split <;> split <;> split <;> split <;> omega
 have hm:cN p (max a b)=min 1 (cN p a+cN p b):=by unfold cN;split <;> split <;> split <;> omega
 by_cases h1:q=i+1
 ·subst h1
  rw [if_pos rfl,show i+1 - i=1 by omega,show i - i=0 by omega,show i+2 - i=2 by omega,xJ L p (i+1) (by omega),xJ L p i (by omega),xJ L p (i+2) (by omega),oO]
  show N L p L.length+(cN p (max a b)+N (min a b :: R) p 0)=min (N L p L.length+0+1) (N L p L.length+(cN p a+(cN p b+N R p 0)))
  rw [oO,oO,hm];omega
 ·rw [if_neg h1]
  congr 1
  by_cases h2:q≤i
  ·rw [show q - i=0 by omega,oO,oO]
  ·obtain ⟨k,hk⟩:∃ k,q - i=k+2:=⟨q - i - 2,by omega⟩
   rw [hk]
   show cN p (max a b)+(cN p (min a b)+N R p k)=cN p a+(cN p b+N R p k)
   omega
theorem xK (n p:Nat):∀ q,q≤n→N (List.range n) p q=q - p
 | 0,_=>by rw [oO];omega
 | q+1,h=>by
  rw [uI (by simp;omega),xK n p q (by omega),show (List.range n).getD q 0=q by rw [List.getD_eq_getElem?_getD,List.getElem?_range (by omega)];rfl]
  unfold cN
  split <;> omega
theorem Br {B:List Nat} {p:Nat} {m:Nat}:∀ d,m+d≤B.length→N B p m≤N B p (m+d)∧N B p (m+d)≤N B p m+d
 | 0,_=>⟨Nat.le_refl _,Nat.le_refl _⟩
 | d+1,h=>by
  have:=Br (B:=B) (p:=p) (m:=m) d (by omega)
  have e:=uI (B:=B) (p:=p) (q:=m+d) (by omega)
  have:cN p (B.getD (m+d) 0)≤1:=by unfold cN;split <;> omega
  rw [show m+(d+1)=m+d+1 by omega,e]
  omega
theorem T5 {B:List Nat} {p q m:Nat} (hq:q≤B.length) (hm:m≤B.length):N B p q≤N B p m+(q - m):=by
 by_cases h:m≤q
 ·have:=(Br (B:=B) (p:=p) (m:=m) (q - m) (by omega)).2
  rw [show m+(q - m)=q by omega] at this
  exact this
 ·have:=(Br (B:=B) (p:=p) (m:=q) (m - q) (by omega)).1
  rw [show q+(m - q)=m by omega] at this
  omega
def Mp (n:Nat) (A B C:List Nat):Prop:=∀ p q,p≤n→q≤n→(∀ m,m≤n→N A p q≤N B p m+N C m q)∧∃ m,m≤n∧N A p q=N B p m+N C m q
theorem Om {E:List Nat} {n:Nat} (hl:E.length=n):Mp n E E (List.range n):=fun p q hp hq=>by
 refine ⟨fun m hm=>?_,q,hq,?_⟩
 ·rw [xK n m q hq]
  exact T5 (by omega) (by omega)
 ·rw [xK n q q hq];omega
theorem Bs {E:List Nat} {n:Nat} {s:List Nat} (hl:E.length=n) (hs:∀ p∈s,p+1 < n):∀ k,k≤s.length→Mp n (bw E (s.take k)) E (bw (List.range n) (s.take k))
 | 0,_=>by rw [List.take_zero];exact Om hl
 | k+1,hk=>by
  have ih:=Bs hl hs k (by omega)
  have hi:s.getD k 0+1 < n:=hs _ (List.mem_of_getElem? (getD_some (by omega)))
  rw [rH (by omega),mQ,mQ]
  have l1:(bw E (s.take k)).length=n:=by rw [kI];exact hl
  have l2:(bw (List.range n) (s.take k)).length=n:=by rw [kI];simp
  generalize bw E (s.take k)=F at ih l1
  generalize bw (List.range n) (s.take k)=D at ih l2
  generalize s.getD k 0=i at hi
  intro p q hp hq
  rw [JP (by omega)]
  have st:∀ m,N (aM D i) m q=if q=i+1 then min (N D m i+1) (N D m (i+2)) else N D m q:=fun m=>JP (by omega) m q
  by_cases h1:q=i+1
  ·subst h1
   rw [if_pos rfl]
   obtain ⟨a1,m1,b1,c1⟩:=ih p i hp (by omega)
   obtain ⟨a2,m2,b2,c2⟩:=ih p (i+2) hp (by omega)
   refine ⟨fun m hm=>?_,?_⟩
   ·rw [st m,if_pos rfl]
    have:=a1 m hm
    have:=a2 m hm
    omega
   ·by_cases hc:N F p i+1≤N F p (i+2)
    ·refine ⟨m1,b1,?_⟩
     rw [st m1,if_pos rfl]
     have:=a2 m1 b1
     omega
    ·refine ⟨m2,b2,?_⟩
     rw [st m2,if_pos rfl]
     have:=a1 m2 b2
     omega
  ·rw [if_neg h1]
   obtain ⟨a1,m1,b1,c1⟩:=ih p q hp hq
   refine ⟨fun m hm=>?_,m1,b1,?_⟩
   ·rw [st m,if_neg h1];exact a1 m hm
   ·rw [st m1,if_neg h1];exact c1
theorem QX {n:Nat} {A A' B C:List Nat} (h:Mp n A B C) (h':Mp n A' B C) {p q:Nat} (hp:p≤n) (hq:q≤n):N A p q≤N A' p q:=by
 obtain ⟨m,hm,e⟩:=(h' p q hp hq).2
 rw [e]
 exact (h p q hp hq).1 m hm
structure Pn (n:Nat) (A:List Nat):Prop where
 len:A.length=n
 lt:∀ x∈A,x < n
theorem Prm.pn {t:List Nat} {n:Nat} (h:Prm t) (hn:t.length=n):Pn n t:=⟨hn,fun x hx=>by rw [← hn];exact h.lt hx⟩
theorem FN {n:Nat} {A A' B C:List Nat} (a:Pn n A) (a':Pn n A') (h:Mp n A B C) (h':Mp n A' B C):A=A':=
 WW a.len a'.len a.lt a'.lt fun p q hp hq=>Nat.le_antisymm (QX h h' hp hq) (QX h' h hp hq)
def lay (x y:List Nat):List Nat:=inv (bw (inv x) (FJ y).reverse)
structure Two (n:Nat) (x y:List Nat):Prop where
 px:Prm x
 py:Prm y
 lx:x.length=n
 ly:y.length=n
theorem Two.lt {n:Nat} {x y:List Nat} (h:Two n x y):∀ p∈(FJ y).reverse,p+1 < n:=fun p hp=>by
 have:=(Bq h.py).lt p (List.mem_reverse.mp hp)
 rw [h.ly] at this
 exact this
theorem JQ {E ps:List Nat} (h:Prm E) (hp:∀ p∈ps,p+1 < E.length):Prm (bw E ps):=by
 have hl:=kI E ps
 refine ⟨by rw [hl];exact h.le,?_⟩
 rw [hl]
 exact (pq hp).trans h.pm
theorem Two.run {n:Nat} {x y:List Nat} (h:Two n x y):Prm (bw (inv x) (FJ y).reverse)∧(bw (inv x) (FJ y).reverse).length=n:=
 ⟨JQ (lZ h.px) fun p hp=>by rw [bO,h.lx];exact h.lt p hp,by rw [kI,bO,h.lx]⟩
theorem Two.lay {n:Nat} {x y:List Nat} (h:Two n x y):Prm (lay x y)∧(lay x y).length=n∧Mp n (inv (lay x y)) (inv x) (inv y):=by
 obtain ⟨hP,hl⟩:=h.run
 unfold My.lay
 refine ⟨lZ hP,by rw [bO];exact hl,?_⟩
 rw [pA hP]
 have:=Bs (E:=inv x) (n:=n) (s:=(FJ y).reverse) (by rw [bO,h.lx]) h.lt (FJ y).reverse.length (Nat.le_refl _)
 rw [List.take_length] at this
 have e:=(Bq h.py).back
 rw [h.ly] at e
 rw [e] at this
 exact this
theorem FP (n:Nat) (h:n≤96):inv (List.range n)=List.range n:=
 (rJ (Fz h) rfl fun i x e=>by
  obtain ⟨hi,e⟩:=List.getElem?_eq_some_iff.mp e
  rw [List.getElem_range] at e
  rw [← e,List.getElem?_range (by simpa using hi)]).symm
def rs (m:Nat) (e:Nat→Nat→Bool) (far i:Nat):List Nat:=(List.range far).flatMap fun j=>if e i j=true then [] else [m - 1 - i+j]
def al (m far:Nat) (e:Nat→Nat→Bool) (n:Nat):List Nat:=(List.range n).flatMap fun i=>rs m e far i
def Dn (n:Nat) (ps:List Nat):List Nat:=bw (List.range n) ps
theorem kh (E a b:List Nat):bw E (a ++ b)=bw (bw E a) b:=by unfold bw;rw [List.foldl_append]
theorem oR {n:Nat} {ps:List Nat} (h:n≤96) (hp:∀ p∈ps,p+1 < n):Prm (Dn n ps):=Di h hp
theorem nJ (n:Nat) (ps:List Nat):(Dn n ps).length=n:=by unfold Dn;rw [kI];simp
theorem WX {n:Nat} {a b:List Nat} (hb:∀ p∈b,p+1 < n):Mp n (Dn n (a ++ b)) (Dn n a) (Dn n b):=by
 have:=Bs (E:=Dn n a) (n:=n) (s:=b) (nJ n a) hb b.length (Nat.le_refl _)
 rw [List.take_length] at this
 unfold Dn at this ⊢
 rw [kh]
 exact this
theorem ie {α β:Type} {f g:α→List β}:∀ {l:List α},(∀ x∈l,f x=g x)→l.flatMap f=l.flatMap g
 | [],_=>rfl
 | x :: l,h=>by rw [List.flatMap_cons,List.flatMap_cons,h x (by simp),ie fun y hy=>h y (by simp [hy])]
theorem xM {m far n:Nat} {e:Nat→Nat→Bool} {p:Nat} (hp:p∈al m far e n):∃ i j,i < n∧j < far∧p=m - 1 - i+j:=by
 unfold al rs at hp
 obtain ⟨i,hi,h⟩:=List.mem_flatMap.mp hp
 obtain ⟨j,hj,h⟩:=List.mem_flatMap.mp h
 refine ⟨i,j,List.mem_range.mp hi,List.mem_range.mp hj,?_⟩
 split at h
 ·cases h
 ·exact List.mem_singleton.mp h
theorem mR {m far:Nat} {e:Nat→Nat→Bool}:∀ p∈al m far e m,p+1 < m+far:=fun p hp=>by
 obtain ⟨i,j,hi,hj,rfl⟩:=xM hp
 omega
theorem JR {A E B:List Nat} {k p:Nat} (h:p+1 < E.length):aM (A ++ (E.map (k+ ·) ++ B)) (A.length+p)=A ++ ((aM E p).map (k+ ·) ++ B):=by
 have g:∀ i,i < E.length→(A ++ (E.map (k+ ·) ++ B)).getD (A.length+i) 0=k+E.getD i 0:=fun i hi=>by
  rw [List.getD_eq_getElem?_getD,List.getElem?_append_right (by omega),Nat.add_sub_cancel_left,List.getElem?_append_left (by simpa using hi),List.getElem?_map,getD_some hi];rfl
 have w:pJ (A ++ (E.map (k+ ·) ++ B)) (A.length+p)=pJ E p:=by
  unfold pJ
  rw [g p (by omega),Nat.add_assoc,g (p+1) h]
  exact decide_eq_decide.mpr (by omega)
 unfold aM
 rw [w]
 split
 ·rw [g p (by omega),Nat.add_assoc,g (p+1) h]
  have st:∀ (M:List Nat) (x i:Nat),i < M.length→(A ++ (M ++ B)).set (A.length+i) x=A ++ (M.set i x ++ B):=fun M x i hi=>by
   rw [List.set_append_right _ _ (by omega),Nat.add_sub_cancel_left,List.set_append_left _ _ hi]
  rw [st _ _ p (by rw [List.length_map];omega),st _ _ (p+1) (by rw [List.length_set,List.length_map];omega),List.map_set,List.map_set]
 ·rfl
theorem xN {A B:List Nat} {k:Nat}:∀ {ps E:List Nat},(∀ p∈ps,p+1 < E.length)→bw (A ++ (E.map (k+ ·) ++ B)) (ps.map (A.length+ ·))=A ++ ((bw E ps).map (k+ ·) ++ B)
 | [],_,_=>rfl
 | p :: ps,E,h=>by
  show bw (aM _ (A.length+p)) (ps.map (A.length+ ·))=_
  rw [JR (h p (by simp))]
  exact xN (ps:=ps) (E:=aM E p) fun q hq=>by rw [ph];exact h q (by simp [hq])
theorem JV {k n:Nat} {ps:List Nat} (h:∀ p∈ps,p+1 < n):Dn (k+n) (ps.map (k+ ·))=List.range k ++ (Dn n ps).map (k+ ·):=by
 have:=xN (A:=List.range k) (B:=[]) (k:=k) (ps:=ps) (E:=List.range n) (fun p hp=>by simpa using h p hp)
 rw [List.append_nil,List.append_nil,List.length_range,← List.range_add] at this
 exact this
theorem Dj {n r:Nat} {ps:List Nat} (h:∀ p∈ps,p+1 < n):Dn (n+r) ps=Dn n ps ++ (List.range r).map (n+ ·):=by
 have:=xN (A:=[]) (B:=(List.range r).map (n+ ·)) (k:=0) (ps:=ps) (E:=List.range n) (fun p hp=>by simpa using h p hp)
 have z:∀ l:List Nat,l.map (0+ ·)=l:=fun l=>by simp
 simp only [List.nil_append,List.length_nil,z] at this
 unfold Dn
 rw [List.range_add]
 exact this
theorem Dk {k:Nat} {G:List Nat} (hG:Prm G) (hk:k+G.length≤96):inv (List.range k ++ G.map (k+ ·))=List.range k ++ (inv G).map (k+ ·):=by
 have pm:Prm (List.range k ++ G.map (k+ ·)):=by
  have hl:(List.range k ++ G.map (k+ ·)).length=k+G.length:=by simp
  refine ⟨by omega,?_⟩
  rw [hl,List.range_add]
  exact List.Perm.append_left _ (hG.pm.map _)
 refine (rJ pm (by simp [bO]) fun i x e=>?_).symm
 by_cases hi:i < k
 ·rw [List.getElem?_append_left (by simpa using hi),List.getElem?_range hi] at e
  obtain rfl:i=x:=Option.some.inj e
  rw [List.getElem?_append_left (by simpa using hi),List.getElem?_range hi]
 ·rw [List.getElem?_append_right (by simp;omega),List.length_range,List.getElem?_map] at e
  obtain ⟨y,hy,rfl⟩:=Option.map_eq_some_iff.mp e
  have yl:y < G.length:=hG.lt (List.mem_of_getElem? hy)
  rw [List.getElem?_append_right (by simp),List.length_range,Nat.add_sub_cancel_left,List.getElem?_map,getD_some (by rw [bO];exact yl),jY yl,iM hG.nd hy]
  show some (k+(i - k))=some i
  rw [Nat.add_sub_cancel' (by omega)]
theorem zu {r:Nat} {G:List Nat} (hG:Prm G) (hk:G.length+r≤96):inv (G ++ (List.range r).map (G.length+ ·))=inv G ++ (List.range r).map (G.length+ ·):=by
 have pm:Prm (G ++ (List.range r).map (G.length+ ·)):=by
  have hl:(G ++ (List.range r).map (G.length+ ·)).length=G.length+r:=by simp
  refine ⟨by omega,?_⟩
  rw [hl,List.range_add]
  exact hG.pm.append_right _
 refine (rJ pm (by simp [bO]) fun i x e=>?_).symm
 by_cases hi:i < G.length
 ·rw [List.getElem?_append_left hi] at e
  have yl:x < G.length:=hG.lt (List.mem_of_getElem? e)
  rw [List.getElem?_append_left (by rw [bO];exact yl),getD_some (by rw [bO];exact yl),jY yl,iM hG.nd e]
 ·rw [List.getElem?_append_right (by omega),List.getElem?_map] at e
  obtain ⟨y,hy,rfl⟩:=Option.map_eq_some_iff.mp e
  obtain ⟨h1,h2⟩:=List.getElem?_eq_some_iff.mp hy
  rw [List.getElem_range] at h2
  rw [List.length_range] at h1
  subst h2
  rw [List.getElem?_append_right (by rw [bO];omega),bO,Nat.add_sub_cancel_left,List.getElem?_map,List.getElem?_range h1]
  show some (G.length+(i - G.length))=some i
  rw [Nat.add_sub_cancel' (by omega)]
theorem step_get {E:List Nat} {q i:Nat} (h:i < q∨q+1 < i):(aM E q).getD i 0=E.getD i 0:=by
 unfold aM
 split
 ·rw [List.getD_eq_getElem?_getD,List.getElem?_set_ne (by omega),List.getElem?_set_ne (by omega),← List.getD_eq_getElem?_getD]
 ·rfl
theorem zx {E:List Nat} {q p:Nat} (h:p+2≤q∨q+2≤p):pJ (aM E q) p=pJ E p:=by
 unfold pJ
 rw [step_get (by omega),step_get (by omega)]
theorem FQ {E:List Nat} {p q:Nat} (h:q+2≤p):aM (aM E q) p=aM (aM E p) q:=by
 have a:=zx (E:=E) (q:=q) (p:=p) (.inr h)
 have b:=zx (E:=E) (q:=p) (p:=q) (.inl h)
 have g1:=step_get (E:=E) (q:=q) (i:=p) (by omega)
 have g2:=step_get (E:=E) (q:=q) (i:=p+1) (by omega)
 have g3:=step_get (E:=E) (q:=p) (i:=q) (by omega)
 have g4:=step_get (E:=E) (q:=p) (i:=q+1) (by omega)
 rw [show aM (aM E q) p=if pJ (aM E q) p=true then ((aM E q).set p ((aM E q).getD (p+1) 0)).set (p+1) ((aM E q).getD p 0) else aM E q from rfl,
  show aM (aM E p) q=if pJ (aM E p) q=true then ((aM E p).set q ((aM E p).getD (q+1) 0)).set (q+1) ((aM E p).getD q 0) else aM E p from rfl,a,b,g1,g2,g3,g4]
 unfold aM
 by_cases h1:pJ E p=true <;> by_cases h2:pJ E q=true
 ·rw [if_pos h1,if_pos h2,if_pos h2,if_pos h1]
  rw [List.set_comm (E.getD q 0) (E.getD (p+1) 0) (by omega),List.set_comm (E.getD (q+1) 0) (E.getD (p+1) 0) (by omega),List.set_comm (E.getD q 0) (E.getD p 0) (by omega),List.set_comm (E.getD (q+1) 0) (E.getD p 0) (by omega)]
 ·rw [if_pos h1,if_neg h2,if_neg h2,if_pos h1]
 ·rw [if_neg h1,if_pos h2,if_pos h2,if_neg h1]
 ·rw [if_neg h1,if_neg h2,if_neg h2,if_neg h1]
theorem Dl:∀ {R E:List Nat} {q:Nat},(∀ p∈R,q+2≤p)→bw (aM E q) R=aM (bw E R) q
 | [],_,_,_=>rfl
 | p :: R,E,q,h=>by
  show bw (aM (aM E q) p) R=aM (bw (aM E p) R) q
  rw [FQ (h p (by simp))]
  exact Dl fun z hz=>h z (by simp [hz])
theorem zy:∀ {L R E:List Nat},(∀ p∈R,∀ q∈L,q+2≤p)→bw (bw E R) L=bw (bw E L) R
 | [],_,_,_=>rfl
 | q :: L,R,E,h=>by
  show bw (aM (bw E R) q) L=bw (bw (aM E q) L) R
  rw [← Dl fun p hp=>h p hp q (by simp)]
  exact zy fun p hp z hz=>h p hp z (by simp [hz])
def LN (m far:Nat) (e:Nat→Nat→Bool):List Nat:=inv (Dn (m+far) (al m far e m))
theorem iQ (m far:Nat) (e:Nat→Nat→Bool):(LN m far e).length=m+far:=by unfold LN;rw [bO,nJ]
theorem xO {m far:Nat} {e:Nat→Nat→Bool} (h:m+far≤96):Prm (LN m far e):=lZ (oR h mR)
theorem Oo (mu ml far:Nat) (e:Nat→Nat→Bool):al (mu+ml) far e (mu+ml)=(al mu far e mu).map (ml+ ·) ++ al ml far (fun i j=>e (mu+i) j) ml:=by
 unfold al
 rw [List.range_add,List.flatMap_append,List.flatMap_map,List.map_flatMap]
 congr 1
 ·refine ie fun i hi=>?_
  have hi:=List.mem_range.mp hi
  unfold rs
  rw [List.map_flatMap]
  refine ie fun j hj=>?_
  split
  ·rfl
  ·show [mu+ml - 1 - i+j]=[ml+(mu - 1 - i+j)];congr 1;omega
 ·refine ie fun i hi=>?_
  have hi:=List.mem_range.mp hi
  unfold rs
  refine ie fun j hj=>?_
  show (if e (mu+i) j=true then [] else [mu+ml - 1 - (mu+i)+j])=_
  rw [show mu+ml - 1 - (mu+i)+j=ml - 1 - i+j by omega]
theorem wj {n:Nat} {a b:List Nat} (h:n≤96) (ha:∀ p∈a,p+1 < n) (hb:∀ p∈b,p+1 < n):lay (inv (Dn n a)) (inv (Dn n b))=inv (Dn n (a ++ b)):=by
 have pa:=oR h ha
 have pb:=oR h hb
 have pab:Prm (Dn n (a ++ b)):=oR h fun p hp=>(List.mem_append.mp hp).elim (ha p) (hb p)
 have T:Two n (inv (Dn n a)) (inv (Dn n b)):=⟨lZ pa,lZ pb,by rw [bO,nJ],by rw [bO,nJ]⟩
 obtain ⟨p1,l1,m1⟩:=T.lay
 rw [pA pa,pA pb] at m1
 have e:=FN ((lZ p1).pn (by rw [bO];exact l1)) (pab.pn (nJ _ _)) m1 (WX hb)
 rw [← e,pA p1]
theorem JX {mu ml far:Nat} {e:Nat→Nat→Bool} (h:mu+ml+far≤96):
  lay (List.range ml ++ (LN mu far e).map (ml+ ·)) (LN ml far (fun i j=>e (mu+i) j) ++ (List.range mu).map (ml+far+ ·))=LN (mu+ml) far e:=by
 have p1:=oR (n:=mu+far) (by omega) (mR (m:=mu) (far:=far) (e:=e))
 have p2:=oR (n:=ml+far) (by omega) (mR (m:=ml) (far:=far) (e:=fun i j=>e (mu+i) j))
 have l2:=nJ (ml+far) (al ml far (fun i j=>e (mu+i) j) ml)
 have e1:List.range ml ++ (LN mu far e).map (ml+ ·)=inv (Dn (mu+ml+far) ((al mu far e mu).map (ml+ ·))):=by
  rw [show mu+ml+far=ml+(mu+far) by omega,JV mR,Dk p1 (by rw [nJ];omega)];rfl
 have e2:LN ml far (fun i j=>e (mu+i) j) ++ (List.range mu).map (ml+far+ ·)=inv (Dn (mu+ml+far) (al ml far (fun i j=>e (mu+i) j) ml)):=by
  have:=zu (r:=mu) p2 (by rw [l2];omega)
  rw [l2] at this
  rw [show mu+ml+far=(ml+far)+mu by omega,Dj mR,this];rfl
 rw [e1,e2,wj h,← Oo]
 ·rfl
 ·intro p hp
  obtain ⟨q,hq,rfl⟩:=List.mem_map.mp hp
  have:=mR q hq
  omega
 ·intro p hp
  have:=mR p hp
  omega
theorem FT (m fl fr:Nat) (e:Nat→Nat→Bool) (i:Nat):rs m e (fl+fr) i=rs m e fl i ++ (rs m (fun i j=>e i (fl+j)) fr i).map (fl+ ·):=by
 unfold rs
 rw [List.range_add,List.flatMap_append,List.flatMap_map,List.map_flatMap]
 congr 1
 refine ie fun j hj=>?_
 show (if e i (fl+j)=true then [] else [m - 1 - i+(fl+j)])=_
 split
 ·rfl
 ·show [m - 1 - i+(fl+j)]=[fl+(m - 1 - i+j)];congr 1;omega
theorem tV (m far:Nat) (e:Nat→Nat→Bool) (n:Nat):al m far e (n+1)=al m far e n ++ rs m e far n:=by
 unfold al
 rw [List.range_succ,List.flatMap_append]
 simp
theorem wu {m fl fr:Nat} {e:Nat→Nat→Bool} (E:List Nat):∀ n,n≤m→bw E (al m (fl+fr) e n)=bw E (al m fl e n ++ (al m fr (fun i j=>e i (fl+j)) n).map (fl+ ·))
 | 0,_=>rfl
 | n+1,h=>by
  rw [tV,tV,tV,FT,kh,wu E n (by omega),List.map_append,kh,kh,kh,kh,kh]
  refine congrArg (fun z=>bw z _) (zy fun p hp q hq=>?_)
  obtain ⟨p',hp',rfl⟩:=List.mem_map.mp hp
  obtain ⟨i,j,hi,hj,rfl⟩:=xM hp'
  unfold rs at hq
  obtain ⟨j',hj',hq⟩:=List.mem_flatMap.mp hq
  have hj':=List.mem_range.mp hj'
  split at hq
  ·cases hq
  ·rw [List.mem_singleton.mp hq];omega
theorem Bt {m fl fr:Nat} {e:Nat→Nat→Bool} (h:m+(fl+fr)≤96):
  lay (LN m fl e ++ (List.range fr).map (m+fl+ ·)) (List.range fl ++ (LN m fr (fun i j=>e i (fl+j))).map (fl+ ·))=LN m (fl+fr) e:=by
 have p1:=oR (n:=m+fr) (by omega) (mR (m:=m) (far:=fr) (e:=fun i j=>e i (fl+j)))
 have p2:=oR (n:=m+fl) (by omega) (mR (m:=m) (far:=fl) (e:=e))
 have l2:=nJ (m+fl) (al m fl e m)
 have e1:List.range fl ++ (LN m fr (fun i j=>e i (fl+j))).map (fl+ ·)=inv (Dn (m+(fl+fr)) ((al m fr (fun i j=>e i (fl+j)) m).map (fl+ ·))):=by
  rw [show m+(fl+fr)=fl+(m+fr) by omega,JV mR,Dk p1 (by rw [nJ];omega)];rfl
 have e2:LN m fl e ++ (List.range fr).map (m+fl+ ·)=inv (Dn (m+(fl+fr)) (al m fl e m)):=by
  have:=zu (r:=fr) p2 (by rw [l2];omega)
  rw [l2] at this
  rw [show m+(fl+fr)=(m+fl)+fr by omega,Dj mR,this];rfl
 rw [e1,e2,wj h]
 ·unfold LN Dn
  rw [wu _ m (Nat.le_refl _)]
 ·intro p hp
  have:=mR p hp
  omega
 ·intro p hp
  obtain ⟨q,hq,rfl⟩:=List.mem_map.mp hp
  have:=mR q hq
  omega
def top (i:Nat):Stmt:=PySem.Challenge.pw_panethread_k52_strips_and_balanced.main.body.getD i (.Pass ⟨0,0,0,0⟩)
abbrev ig:Stmt:=top 14
abbrev ik:Stmt:=top 15
abbrev gD:Stmt:=top 16
abbrev lB:Stmt:=top 17
abbrev gH:Stmt:=top 18
abbrev kJ:Stmt:=top 19
abbrev bY:Stmt:=top 21
abbrev ir:Stmt:=top 22
abbrev iu:Stmt:=top 23
abbrev fM:Stmt:=top 24
abbrev eN:Stmt:=top 26
abbrev cO:Stmt:=top 27
abbrev gJ:Stmt:=top 28
abbrev mF:Stmt:=top 29
abbrev iU:Stmt:=top 31
abbrev lN:Stmt:=top 32
abbrev jo:Stmt:=top 33
abbrev d7:Stmt:=top 36
abbrev kO:Stmt:=top 37
abbrev iD:Stmt:=top 38
abbrev bc:Stmt:=top 39
abbrev aQ:Stmt:=top 40
abbrev jc:Stmt:=top 45
abbrev fB:Stmt:=top 46
abbrev iw:Stmt:=top 47
abbrev dH:Stmt:=top 48
abbrev jZ:Stmt:=top 50
abbrev lC:Stmt:=top 51
abbrev dU:Stmt:=top 52
abbrev j0:Stmt:=top 53
abbrev lO:Stmt:=top 54
abbrev bT:Stmt:=top 55
abbrev bA:Stmt:=top 56
abbrev iy:Stmt:=top 57
abbrev gK:Stmt:=top 58
abbrev iV:Stmt:=top 59
abbrev fG:Stmt:=top 60
abbrev gQ:Stmt:=top 61
abbrev bL:Stmt:=top 62
abbrev bx:Stmt:=top 63
abbrev iJ:Stmt:=top 64
abbrev aX:Stmt:=oK 0 (top 35)
abbrev lr:Stmt:=oK 1 (top 35)
abbrev mj:Stmt:=oK 2 (top 35)
abbrev lu:Stmt:=oK 3 (top 35)
abbrev iW:Stmt:=oK 4 (top 35)
abbrev iY:Stmt:=oK 5 (top 35)
abbrev jD:Stmt:=oK 6 (top 35)
abbrev bh:Stmt:=oK 0 (top 41)
abbrev dW:Stmt:=oK 0 (top 42)
abbrev aR:Stmt:=oK 0 (top 43)
abbrev aN:Stmt:=oK 0 (top 44)
abbrev Dm:Stmt:=initOf (top 2)
abbrev uJ:Stmt:=initOf (top 3)
abbrev ww:Stmt:=initOf (top 4)
abbrev sH:Stmt:=initOf (top 5)
abbrev mU:Stmt:=initOf (top 6)
abbrev zA:Stmt:=initOf (top 7)
abbrev wz:Stmt:=initOf (top 8)
local macro_rules | `(tactic| walk_at "sts") => `(tactic| (with_reducible repeat (first | refine jL ?_ | refine jA ?_ | refine jy ?_ | refine gk ?_ | refine gn ?_ | (refine' fZ ?hz0 ?_; (case hz0 => with_unfolding_all rfl)) | refine qR ?_ | refine jQ ?_ | refine dm ?_ | refine cX ?_ | refine f9 ?_ | refine lH ?_ | refine fP ?_ | refine cR ?_ | refine fU ?_ | refine cQ ?_ | refine jH ?_ | refine cU ?_ | refine jR ?_ | refine jN ?_ | refine cY ?_ | refine jJ ?_ | refine fV ?_ | refine fW ?_ | refine jK ?_ | refine cV ?_ | refine fX ?_ | refine cW ?_ | refine fY ?_ | refine fQ ?_ | refine cT ?_ | refine jM ?_ | refine vW ?_ | refine vX ?_ | refine jO ?_ | refine jP ?_ | refine gb ?_ | refine cZ ?_ | refine c7 ?_ | refine dg ?_ | refine dh ?_ | refine di ?_ | refine dj ?_ | refine gf ?_ | refine qU ?_ | refine bF ?_ | refine dz ?_ | (refine' b7 (SqT.of ?hz0) ?hz1 ?_; (case hz0 => first | assumption | exact aj); (case hz1 => rfl)) | refine bH ?_ | refine dB ?_ | refine dD ?_ | refine cI ?_ | refine cJ ?_ | refine cL ?_ | refine cM ?_ | refine jT ?_ | refine cC ?_ | refine cF ?_ | refine cG ?_ | refine cH ?_ | refine bG ?_ | refine gj ?_ | refine dw ?_ | (refine' qT ?hz0 ?_; (case hz0 => with_unfolding_all first | assumption | omega | (dsimp only <;> omega) | exact ⟨by omega, by omega⟩ | exact .inl ⟨by omega, by omega⟩ | exact .inr ⟨by omega, by omega⟩ | exact ⟨by decide, by decide, by decide⟩)) | (refine' dq ?hz0 ?_; (case hz0 => with_unfolding_all first | assumption | omega | (dsimp only <;> omega) | exact ⟨by omega, by omega⟩ | exact .inl ⟨by omega, by omega⟩ | exact .inr ⟨by omega, by omega⟩ | exact ⟨by decide, by decide, by decide⟩)) | (refine' cu (SqL.of ?hz0) ?hz1 ?_; (case hz0 => first | assumption | exact aj); (case hz1 => with_unfolding_all rfl)) | (refine' cB ?hz0 ?hz1 ?_; (case hz0 => first | assumption | exact aj); (case hz1 => with_unfolding_all rfl)) | refine bI ?_ | refine gq ?_ | refine dF ?_ | refine bJ ?_ | refine dG ?_ | refine bK ?_ | refine dO ?_)))
local macro_rules | `(tactic| walk_at "stn") => `(tactic| (with_reducible repeat (first | refine jL ?_ | refine jA ?_ | refine jy ?_ | refine gk ?_ | refine gn ?_ | (refine' fZ ?hz0 ?_; (case hz0 => with_unfolding_all rfl)) | refine qR ?_ | refine jQ ?_ | refine dm ?_ | refine cX ?_ | refine f9 ?_ | refine fP ?_ | refine cR ?_ | refine fU ?_ | refine cQ ?_ | refine jH ?_ | refine cU ?_ | refine jR ?_ | refine jN ?_ | refine cY ?_ | refine jJ ?_ | refine fV ?_ | refine fW ?_ | refine jK ?_ | refine cV ?_ | refine fX ?_ | refine cW ?_ | refine fY ?_ | refine fQ ?_ | refine cT ?_ | refine jM ?_ | refine vW ?_ | refine vX ?_ | refine jO ?_ | refine jP ?_ | refine gb ?_ | refine cZ ?_ | refine c7 ?_ | refine dg ?_ | refine dh ?_ | refine di ?_ | refine dj ?_ | refine gf ?_ | refine qU ?_ | refine bF ?_ | refine dz ?_ | (refine' b7 (SqT.of ?hz0) ?hz1 ?_; (case hz0 => first | assumption | exact aj); (case hz1 => rfl)) | refine bH ?_ | refine dB ?_ | refine dD ?_ | refine cI ?_ | refine cJ ?_ | refine cL ?_ | refine cM ?_ | refine jT ?_ | refine cC ?_ | refine cF ?_ | refine cG ?_ | refine cH ?_ | refine bG ?_ | refine gj ?_ | refine dw ?_ | (refine' qT ?hz0 ?_; (case hz0 => with_unfolding_all first | assumption | omega | (dsimp only <;> omega) | exact ⟨by omega, by omega⟩ | exact .inl ⟨by omega, by omega⟩ | exact .inr ⟨by omega, by omega⟩ | exact ⟨by decide, by decide, by decide⟩)) | (refine' dq ?hz0 ?_; (case hz0 => with_unfolding_all first | assumption | omega | (dsimp only <;> omega) | exact ⟨by omega, by omega⟩ | exact .inl ⟨by omega, by omega⟩ | exact .inr ⟨by omega, by omega⟩ | exact ⟨by decide, by decide, by decide⟩)) | (refine' cu (SqL.of ?hz0) ?hz1 ?_; (case hz0 => first | assumption | exact aj); (case hz1 => with_unfolding_all rfl)) | (refine' cB ?hz0 ?hz1 ?_; (case hz0 => first | assumption | exact aj); (case hz1 => with_unfolding_all rfl)) | refine bI ?_ | refine gq ?_ | refine dF ?_ | refine bJ ?_ | refine dG ?_ | refine bK ?_ | refine dO ?_)))
structure Txt (K:PySem.W.Frag) (mg:Str→Option Value):Prop where
 b_all:mg "all"=none
 b_bool:mg "bool"=none
 b_enumerate:mg "enumerate"=none
 b_int:mg "int"=none
 b_isinstance:mg "isinstance"=none
 b_len:mg "len"=none
 b_list:mg "list"=none
 b_max:mg "max"=none
 b_min:mg "min"=none
 b_range:mg "range"=none
 b_reversed:mg "reversed"=none
 b_str:mg "str"=none
 b_tuple:mg "tuple"=none
 c_LETTERS:∃ t,mg "LETTERS"=some (.str "abcdefghijklmnopqrstuvwxyz" t)
 c_MOST_LINES:∃ t,mg "MOST_LINES"=some (.int 96 t)
 c_MOST_SIGNS:∃ t,mg "MOST_SIGNS"=some (.int 48 t)
 c_POINT:∃ t,mg "POINT"=some (.str "." t)
 d_is_number:fO K mg "is_number" ig
 d_is_within:fO K mg "is_within" ik
 d_is_letter:fO K mg "is_letter" gD
 d_is_sign:fO K mg "is_sign" lB
 d_need_place:fO K mg "need_place" gH
 d_need_sign:fO K mg "need_sign" kJ
 d_is_turning:fO K mg "is_turning" bY
 d_need_turning:fO K mg "need_turning" ir
 d_straight:fO K mg "straight" iu
 d_opposite:fO K mg "opposite" fM
 d_do_steps:fO K mg "do_steps" eN
 d_steps_of:fO K mg "steps_of" cO
 d_need_alike:fO K mg "need_alike" gJ
 d_laid:fO K mg "laid" mF
 d_is_row:fO K mg "is_row" iU
 d_need_row:fO K mg "need_row" lN
 d_need_rows:fO K mg "need_rows" jo
 d_need_pieces:fO K mg "need_pieces" d7
 d_need_same:fO K mg "need_same" kO
 d_need_short:fO K mg "need_short" iD
 d_lines_over:fO K mg "lines_over" bc
 d_lines_beside:fO K mg "lines_beside" aQ
 d_strip:fO K mg "strip" jc
 d_all_beside:fO K mg "all_beside" fB
 d_all_over:fO K mg "all_over" iw
 d_balanced:fO K mg "balanced" dH
 d_law_cell:fO K mg "_law_cell" jZ
 d_law_mix:fO K mg "_law_mix" lC
 d_law_takes:fO K mg "_law_takes" dU
 d_law_sign:fO K mg "_law_sign" j0
 d_law_base:fO K mg "_law_base" lO
 d_law_text:fO K mg "_law_text" bT
 d_law_lines:fO K mg "_law_lines" bA
 d_law_whole:fO K mg "_law_whole" iy
 d_law_list:fO K mg "_law_list" gK
 d_law_is:fO K mg "_law_is" iV
 d_law_flags:fO K mg "_law_flags" fG
 d_law_is_kind:fO K mg "_law_is_kind" gQ
 d_law_strip:fO K mg "_law_strip" bL
 d_law_balanced:fO K mg "_law_balanced" bx
 d_law:fO K mg "law" iJ
 x_NoRow:pI K mg "NoRow" ["found"] "NoRow.__init__" Dm
 x_NoLetter:pI K mg "NoLetter" ["found"] "NoLetter.__init__" uJ
 x_NoPlace:pI K mg "NoPlace" ["found"] "NoPlace.__init__" ww
 x_NoTurning:pI K mg "NoTurning" ["found"] "NoTurning.__init__" sH
 x_NoPiece:pI K mg "NoPiece" ["found"] "NoPiece.__init__" mU
 x_Unlike:pI K mg "Unlike" ["one","other"] "Unlike.__init__" zA
 x_TooLong:pI K mg "TooLong" ["found"] "TooLong.__init__" wz
 o_Piece:oh K mg "Piece"
 n_Piece:∀ f∈(["held_side","held_top","held_kind","held_lines","held_parts","held_height"]:List Str),NoAttr K (aD mg "Piece") f
 o_Blank:oh K mg "Blank"
 n_Blank:∀ f∈(["held_side","held_top","held_kind","held_lines","held_parts","held_height"]:List Str),NoAttr K (aD mg "Blank") f
 o_One:oh K mg "One"
 n_One:∀ f∈(["held_side","held_top","held_kind","held_lines","held_parts","held_height"]:List Str),NoAttr K (aD mg "One") f
 o_Over:oh K mg "Over"
 n_Over:∀ f∈(["held_side","held_top","held_kind","held_lines","held_parts","held_height"]:List Str),NoAttr K (aD mg "Over") f
 o_Beside:oh K mg "Beside"
 n_Beside:∀ f∈(["held_side","held_top","held_kind","held_lines","held_parts","held_height"]:List Str),NoAttr K (aD mg "Beside") f
 os_Piece:YZ K mg ["Blank","One","Over","Beside"]
 t_Blank:ITxt K mg "Blank"
 t_One:ITxt K mg "One"
 t_Over:ITxt K mg "Over"
 t_Beside:ITxt K mg "Beside"
 u_Blank_Piece:Sub K mg "Blank" "Piece" true
 u_Blank_Blank:Sub K mg "Blank" "Blank" true
 u_Blank_One:Sub K mg "Blank" "One" false
 u_Blank_Over:Sub K mg "Blank" "Over" false
 u_Blank_Beside:Sub K mg "Blank" "Beside" false
 u_One_Piece:Sub K mg "One" "Piece" true
 u_One_Blank:Sub K mg "One" "Blank" false
 u_One_One:Sub K mg "One" "One" true
 u_One_Over:Sub K mg "One" "Over" false
 u_One_Beside:Sub K mg "One" "Beside" false
 u_Over_Piece:Sub K mg "Over" "Piece" true
 u_Over_Blank:Sub K mg "Over" "Blank" false
 u_Over_One:Sub K mg "Over" "One" false
 u_Over_Over:Sub K mg "Over" "Over" true
 u_Over_Beside:Sub K mg "Over" "Beside" false
 u_Beside_Piece:Sub K mg "Beside" "Piece" true
 u_Beside_Blank:Sub K mg "Beside" "Blank" false
 u_Beside_One:Sub K mg "Beside" "One" false
 u_Beside_Over:Sub K mg "Beside" "Over" false
 u_Beside_Beside:Sub K mg "Beside" "Beside" true
 w_Piece_str:PySem.W.kitOne K (.type "str") (.ref (aD mg "Piece"))=some false
 w_Piece_int:PySem.W.kitOne K (.type "int") (.ref (aD mg "Piece"))=some false
 w_Piece_list:PySem.W.kitOne K (.type "list") (.ref (aD mg "Piece"))=some false
 w_Piece_tuple:PySem.W.kitOne K (.type "tuple") (.ref (aD mg "Piece"))=some false
 w_Piece_NoneType:PySem.W.kitOne K (.type "NoneType") (.ref (aD mg "Piece"))=some false
 w_Piece_bool:PySem.W.kitOne K (.type "bool") (.ref (aD mg "Piece"))=some false
 w_Piece_dict:PySem.W.kitOne K (.type "dict") (.ref (aD mg "Piece"))=some false
 w_Blank_str:PySem.W.kitOne K (.type "str") (.ref (aD mg "Blank"))=some false
 w_Blank_int:PySem.W.kitOne K (.type "int") (.ref (aD mg "Blank"))=some false
 w_Blank_list:PySem.W.kitOne K (.type "list") (.ref (aD mg "Blank"))=some false
 w_Blank_tuple:PySem.W.kitOne K (.type "tuple") (.ref (aD mg "Blank"))=some false
 w_Blank_NoneType:PySem.W.kitOne K (.type "NoneType") (.ref (aD mg "Blank"))=some false
 w_Blank_bool:PySem.W.kitOne K (.type "bool") (.ref (aD mg "Blank"))=some false
 w_Blank_dict:PySem.W.kitOne K (.type "dict") (.ref (aD mg "Blank"))=some false
 w_One_str:PySem.W.kitOne K (.type "str") (.ref (aD mg "One"))=some false
 w_One_int:PySem.W.kitOne K (.type "int") (.ref (aD mg "One"))=some false
 w_One_list:PySem.W.kitOne K (.type "list") (.ref (aD mg "One"))=some false
 w_One_tuple:PySem.W.kitOne K (.type "tuple") (.ref (aD mg "One"))=some false
 w_One_NoneType:PySem.W.kitOne K (.type "NoneType") (.ref (aD mg "One"))=some false
 w_One_bool:PySem.W.kitOne K (.type "bool") (.ref (aD mg "One"))=some false
 w_One_dict:PySem.W.kitOne K (.type "dict") (.ref (aD mg "One"))=some false
 w_Over_str:PySem.W.kitOne K (.type "str") (.ref (aD mg "Over"))=some false
 w_Over_int:PySem.W.kitOne K (.type "int") (.ref (aD mg "Over"))=some false
 w_Over_list:PySem.W.kitOne K (.type "list") (.ref (aD mg "Over"))=some false
 w_Over_tuple:PySem.W.kitOne K (.type "tuple") (.ref (aD mg "Over"))=some false
 w_Over_NoneType:PySem.W.kitOne K (.type "NoneType") (.ref (aD mg "Over"))=some false
 w_Over_bool:PySem.W.kitOne K (.type "bool") (.ref (aD mg "Over"))=some false
 w_Over_dict:PySem.W.kitOne K (.type "dict") (.ref (aD mg "Over"))=some false
 w_Beside_str:PySem.W.kitOne K (.type "str") (.ref (aD mg "Beside"))=some false
 w_Beside_int:PySem.W.kitOne K (.type "int") (.ref (aD mg "Beside"))=some false
 w_Beside_list:PySem.W.kitOne K (.type "list") (.ref (aD mg "Beside"))=some false
 w_Beside_tuple:PySem.W.kitOne K (.type "tuple") (.ref (aD mg "Beside"))=some false
 w_Beside_NoneType:PySem.W.kitOne K (.type "NoneType") (.ref (aD mg "Beside"))=some false
 w_Beside_bool:PySem.W.kitOne K (.type "bool") (.ref (aD mg "Beside"))=some false
 w_Beside_dict:PySem.W.kitOne K (.type "dict") (.ref (aD mg "Beside"))=some false
 m_Piece___init__:Df K mg "Piece" "__init__" "Piece.__init__" aX
 m_Piece_side:lY K mg ["Blank","One","Over","Beside"] "side" "Piece.side" lr
 m_Piece_top:lY K mg ["Blank","One","Over","Beside"] "top" "Piece.top" mj
 m_Piece_kind:lY K mg ["Blank","One","Over","Beside"] "kind" "Piece.kind" lu
 m_Piece_lines:lY K mg ["Blank","One","Over","Beside"] "lines" "Piece.lines" iW
 m_Piece_parts:lY K mg ["Blank","One","Over","Beside"] "parts" "Piece.parts" iY
 m_Piece_height:lY K mg ["Blank","One","Over","Beside"] "height" "Piece.height" jD
 m_Blank___init__:u6 K mg "Blank" "__init__" "Blank.__init__" bh
 m_One___init__:u6 K mg "One" "__init__" "One.__init__" dW
 m_Over___init__:u6 K mg "Over" "__init__" "Over.__init__" aR
 m_Beside___init__:u6 K mg "Beside" "__init__" "Beside.__init__" aN
def Kd (K:PySem.W.Frag) (H:Hp) (v:V):Prop:=(∃ n,v= .int n)∨(∃ b,v= .bl b)∨∃ T,TyOf K H v (.type T)∧PySem.W.kitOne K (.type T) (.type "int")=some false
theorem Kd.same {K:PySem.W.Frag} {H H':Hp} {v:V} (h:Kd K H v) (s:Same H H'):Kd K H' v:=by
 rcases h with h | h | ⟨T,a,c⟩
 ·exact .inl h
 ·exact .inr (.inl h)
 ·exact .inr (.inr ⟨T,a.mono fun b o e _=>s b o e,c⟩)
def WY:V→Bool
 | .int _=>true
 | _=>false
def inB (v:V) (lo hi:Int):Bool:=match v with
 | .int n=>decide (lo≤n) && decide (n≤hi)
 | _=>false
section
variable {P:Program} {w:World} {K:PySem.W.Frag} {mg:Str→Option Value} {base:Heap}
theorem W0:bM ig "isinstance":=by decide+kernel
theorem kz01:bM ig "bool":=by decide+kernel
theorem W2:bz ig "thing":=by decide+kernel
theorem kz03:bM ig "int":=by decide+kernel
theorem kz04:bz ik "low":=by decide+kernel
theorem W4:bz ik "thing":=by decide+kernel
theorem kz06:bz ik "high":=by decide+kernel
theorem kz07:bM ik "is_number":=by decide+kernel
theorem kz08:bM gH "is_within":=by decide+kernel
theorem kz09:bz gH "high":=by decide+kernel
theorem kz0a:bz gH "low":=by decide+kernel
theorem kz0b:bz gH "thing":=by decide+kernel
theorem tG:bz mU "self":=by decide+kernel
theorem rN:bz mU "found":=by decide+kernel
theorem Same.put {H H':Hp} {p:Addr} {o:HO} (s:Same H H') (hn:H p=none):Same H (upd H' p o):=fun b u e=>by
 rw [aB (fun z=>by rw [z,hn] at e;cases e)]
 exact s b u e
theorem Same.back {H H':Hp} {p:Addr} (s:Same H H') (h:H' p=none):H p=none:=by
 cases e:H p with
 | none=>rfl
 | some o=>rw [s _ _ e] at h;cases h
theorem T6 {H:Hp} {v:V} {T:String} (h:TyOf K H v (.type T)) (k:PySem.W.kitOne K (.type T) (.type "int")=some false):WY v=false∧∀ lo hi,inB v lo hi=false:=by
 cases v with
 | int z=>
  cases h
  have:PySem.W.kitOne K (.type "int") (.type "int")=some true:=rfl
  rw [this] at k;cases k
 | _=>exact ⟨rfl,fun _ _=>rfl⟩
theorem zB:aC ["self","found"] ["self","found"] (aq mU):=⟨rfl,rfl,rfl,by decide+kernel,rfl,by decide+kernel,by decide+kernel⟩
theorem Bu (T:Txt K mg):WD P w K mg base 1 "NoPiece" (aD mg "NoPiece") ["found"]:=mkX T.x_NoPiece zB (fun _ _ _ _ _ _ us hl=>L2.ou (fun _ _=>rfl) us hl) rfl fun f cdv A outer s H vs Q E hr h=>⟨_,(aA (Nt (K:=K) rfl (ao 0 tG) (ao 1 rN))),rd1 T.x_NoPiece.c.cl.cls (T.x_NoPiece.na _ (by simp)) h⟩
def JZ (K:PySem.W.Frag):Sp:=fun vs H Q _=>∃ v:V,vs=[v]∧Kd K H v∧Q (.bl (WY v)) H
theorem xP:aC ["thing"] ["thing"] (aq ig):=⟨rfl,rfl,rfl,by decide+kernel,rfl,by decide+kernel,by decide+kernel⟩
theorem oU (T:Txt K mg):Has P w K mg base 1 "is_number" ["thing"] (JZ K):=by
 refine gr T.d_is_number xP (fun _ _ _ _ _ _ us hl=>L2.jU (fun _=>rfl) us hl) ?_ fun f cdv A outer s H vs Q E hr h=>?_
 ·rintro vs H Q E ⟨v,rfl,_⟩;rfl
 obtain ⟨v,rfl,hT,q⟩:=h
 have hu:=hr.units0
 have hu64:=hr.units
 refine ⟨_,(aA (aK (sr (aG (jn (K:=K) rfl) (aU W0) T.b_isinstance bj (aa (ao 0 W2) (aa (u5 (aU kz03) T.b_int Ba (by decide+kernel) (by decide+kernel)) ak)) (by decide+kernel) (by decide+kernel)) (rZ (Qy (aG (jn (K:=K) rfl) (aU W0) T.b_isinstance bj (aa (ao 0 W2) (aa (u5 (aU kz01) T.b_bool Cz (by decide+kernel) (by decide+kernel)) ak)) (by decide+kernel) (by decide+kernel))))))),?_⟩
 walk_at "sts"
 rcases hT with ⟨n,rfl⟩ | ⟨b,rfl⟩ | ⟨T',hty,hk⟩
 ·refine oG (.int _) rfl ?_
  walk_at "sts"
  refine oG (.int _) rfl ?_
  walk_at "sts"
  exact q
 ·refine oG (.bl _) (b:=true) (by rfl) ?_
  walk_at "sts"
  refine oG (.bl _) (b:=true) (by rfl) ?_
  walk_at "sts"
  exact q
 ·refine oG hty hk ?_
  walk_at "sts"
  rw [(T6 hty hk).1] at q
  exact q
def J5 (K:PySem.W.Frag):Sp:=fun vs H Q _=>∃ (v:V) (lo hi:Int),vs=[v,.int lo,.int hi]∧Kd K H v∧Q (.bl (inB v lo hi)) H
theorem xQ:aC ["thing","low","high"] ["thing","low","high"] (aq ik):=⟨rfl,rfl,rfl,by decide+kernel,rfl,by decide+kernel,by decide+kernel⟩
theorem jq (T:Txt K mg):Has P w K mg base 2 "is_within" ["thing","low","high"] (J5 K):=by
 have oU:=oU (P:=P) (w:=w) (base:=base) T
 refine gr T.d_is_within xQ (fun _ _ _ _ _ _ us hl=>L2.wD (fun _ _ _=>rfl) us hl) ?_ fun f cdv A outer s H vs Q E hr h=>?_
 ·rintro vs H Q E ⟨v,lo,hi,rfl,_⟩;rfl
 obtain ⟨v,lo,hi,rfl,hT,q⟩:=h
 have hu:=hr.units0
 have hu64:=hr.units
 refine ⟨_,(aA (aK (sr (aF oU (hr.mono (by decide)) (aU kz07) (aa (ao 0 W4) ak) (by decide+kernel)) (rZ (Ni Ck Ck (ao 1 kz04) (ao 0 W4) (ao 2 kz06)))))),?_⟩
 walk_at "sts"
 refine ⟨v,rfl,hT,?_⟩
 walk_at "sts"
 cases v with
 | int n=>
  show if true=true then _ else _
  walk_at "sts"
  show if decide (lo≤n)=true then _ else _
  unfold inB at q
  dsimp only at q
  by_cases h:lo≤n
  ·rw [decide_eq_true h] at q ⊢
   rw [Bool.true_and] at q
   walk_at "sts"
   exact q
  ·rw [decide_eq_false h] at q ⊢
   rw [Bool.false_and] at q
   walk_at "sts"
   exact q
 | _=>exact q
def Oq (K:PySem.W.Frag):Sp:=fun vs H Q _=>∃ (n lo hi:Int),vs=[.int n,.int lo,.int hi]∧lo≤n∧n≤hi∧Q .non H
theorem u9:aC ["thing","low","high"] ["thing","low","high"] (aq gH):=⟨rfl,rfl,rfl,by decide+kernel,rfl,by decide+kernel,by decide+kernel⟩
theorem nM (T:Txt K mg):Has P w K mg base 3 "need_place" ["thing","low","high"] (Oq K):=by
 have jq:=jq (P:=P) (w:=w) (base:=base) T
 refine gr T.d_need_place u9 (fun _ _ _ _ _ _ us hl=>L2.wD (fun _ _ _=>rfl) us hl) ?_ fun f cdv A outer s H vs Q E hr h=>?_
 ·rintro vs H Q E ⟨n,lo,hi,rfl,_⟩;rfl
 obtain ⟨n,lo,hi,rfl,h1,h2,q⟩:=h
 have hu:=hr.units0
 have hu64:=hr.units
 refine ⟨_,(aA (cP (dY (dZ (aF jq (hr.mono (by decide)) (aU kz08) (aa (ao 0 kz0b) (aa (ao 1 kz0a) (aa (ao 2 kz09) ak))) (by decide+kernel)))) (aA kE) bB)),?_⟩
 walk_at "sts"
 refine ⟨.int n,lo,hi,rfl,.inl ⟨_,rfl⟩,?_⟩
 walk_at "sts"
 have hb:inB (.int n) lo hi=true:=by unfold inB;simp;omega
 rw [hb]
 walk_at "sts"
 exact q
theorem zE (i j:Int):decide (V.int i=V.int j)=decide (i=j):=decide_eq_decide.mpr ⟨fun h=>V.int.inj h,fun h=>by rw [h]⟩
theorem bV (t:List Nat):((nI t).map V.int).length=t.length:=by unfold nI;rw [List.length_map,List.length_map]
theorem W5 {t:List Nat} {k i:Nat} (h:t[k]?=some i):((nI t).map V.int)[k]?=some (.int (i:Int)):=by unfold nI;rw [List.getElem?_map,List.getElem?_map,h];rfl
theorem zF {t:List Nat} {k:Nat} {v:V} (h:((nI t).map V.int)[k]?=some v):∃ i,t[k]?=some i∧v= .int (i:Int):=by
 unfold nI at h
 rw [List.getElem?_map,List.getElem?_map] at h
 cases e:t[k]? with
 | none=>rw [e] at h;cases h
 | some y=>rw [e] at h;exact ⟨y,rfl,(Option.some.inj h).symm⟩
theorem sI {t:List Nat} {k:Nat} {j:Int} (hk:k < t.length) (hj:j=(k:Int)):yz ((nI t).map V.int) j=some (.int ((t.getD k 0:Nat):Int)):=by
 subst hj
 refine lV (W5 ?_)
 rw [List.getD_eq_getElem?_getD,List.getElem?_eq_getElem hk];rfl
theorem pY (t:List Nat) (k x:Nat):((nI t).map V.int).set k (.int (x:Int))=(nI (t.set k x)).map V.int:=by unfold nI;rw [List.map_set,List.map_set]
theorem tW (t:List Nat) (x:Nat):(nI t).map V.int ++ [.int (x:Int)]=(nI (t ++ [x])).map V.int:=by unfold nI;rw [List.map_append,List.map_append];rfl
theorem uK {n p:Nat} {j:Int} (hj:j=(p:Int)) (h:p < n):Ht n j=some p:=by
 subst hj
 unfold Ht
 rw [if_pos (by omega),if_pos (by omega)]
 simp
end
section
variable {P:Program} {w:World} {K:PySem.W.Frag} {mg:Str→Option Value} {base:Heap}
theorem Ot:bz bY "thing":=by decide+kernel
theorem Ou:bz bY "end":=by decide+kernel
theorem T7:bz bY "seen":=by decide+kernel
theorem kz0f:bM bY "is_within":=by decide+kernel
theorem W6:bM bY "len":=by decide+kernel
theorem kz0h:bM bY "MOST_LINES":=by decide+kernel
theorem kz0i:bM bY "isinstance":=by decide+kernel
theorem kz0j:bM bY "tuple":=by decide+kernel
theorem kz0k:bM bY "list":=by decide+kernel
theorem kz0l:bM ir "is_turning":=by decide+kernel
theorem kz0m:bz ir "thing":=by decide+kernel
theorem kz0n:bM iu "list":=by decide+kernel
theorem kz0o:bM iu "range":=by decide+kernel
theorem W7:bz iu "many":=by decide+kernel
theorem kz0q:bM iu "need_place":=by decide+kernel
theorem kz0r:bM iu "MOST_LINES":=by decide+kernel
theorem T8:bz fM "begins":=by decide+kernel
theorem kz0t:bM fM "enumerate":=by decide+kernel
theorem T9:bz fM "turning":=by decide+kernel
theorem W8:bz fM "end":=by decide+kernel
theorem W9:bz fM "begin":=by decide+kernel
theorem kz0x:bM fM "len":=by decide+kernel
theorem kz0y:bM fM "need_turning":=by decide+kernel
def Tn (H:Hp) (a:Addr) (t:List Nat):Prop:=H a=some (.lst ((nI t).map V.int))∨H a=some (.tup ((nI t).map V.int))
def Ov (us:List V):Bool:=decide (us.length≤96) && (us.all fun u=>inB u 0 ((us.length:Int) - 1)) && decide us.Nodup
theorem Do {us:List V} (h:96 < us.length):Ov us=false:=by unfold Ov;rw [decide_eq_false (by omega)];rfl
theorem J6 {us:List V} {u:V} (h:u∈us) (hb:inB u 0 ((us.length:Int) - 1)=false):Ov us=false:=by
 unfold Ov
 have:(us.all fun u=>inB u 0 ((us.length:Int) - 1))=false:=List.all_eq_false.mpr ⟨u,h,by rw [hb];simp⟩
 rw [this,Bool.and_false,Bool.false_and]
theorem J7 {us:List V} {k:Nat} {u:V} (h:us[k]?=some u) (hm:u∈us.take k):Ov us=false:=by
 have:¬ us.Nodup:=fun nd=>by
  obtain ⟨i,hi,e⟩:=List.mem_iff_getElem.mp hm
  obtain ⟨hk,e2⟩:=List.getElem?_eq_some_iff.mp h
  rw [List.length_take] at hi
  rw [List.getElem_take] at e
  exact List.pairwise_iff_getElem.mp nd i k (by omega) hk (by omega) (e.trans e2.symm)
 unfold Ov
 rw [decide_eq_false this,Bool.and_false]
theorem J8 {us:List V} (h:us.length≤96) (hin:∀ u∈us,inB u 0 ((us.length:Int) - 1)=true) (hnd:us.Nodup):Ov us=true:=by
 unfold Ov
 rw [decide_eq_true h,decide_eq_true hnd,List.all_eq_true.mpr hin];rfl
theorem uL {us:List V} {v:V} (h:us.Nodup) (hm:v ∉ us):(us ++ [v]).Nodup:=by
 refine List.nodup_append.mpr ⟨h,by simp,fun a ha b hb=>?_⟩
 rw [List.mem_singleton.mp hb]
 exact fun z=>hm (z ▸ ha)
theorem Dp {v:V} {h:Int} (hb:inB v 0 h=true):∃ i:Nat,v= .int (i:Int)∧(i:Int)≤h:=by
 cases v with
 | int n=>
  unfold inB at hb
  simp at hb
  exact ⟨n.toNat,by rw [Int.toNat_of_nonneg hb.1],by omega⟩
 | _=>cases hb
def TnK (K:PySem.W.Frag) (H:Hp) (v:V) (b:Bool):Prop:=(∃ a us,v= .ref a∧(H a=some (.lst us)∨H a=some (.tup us))∧us.length≤10000∧(∀ u∈us,Kd K H u)∧b=Ov us)∨
 ∃ T,TyOf K H v (.type T)∧PySem.W.kitAny K (.type T) [.type "list",.type "tuple"]=some false∧b=false
theorem Ow {H:Hp} {a:Addr} {t:List Nat} (h:Tn H a t) (hP:Prm t):TnK K H (.ref a) true:=by
 have hle:=hP.le
 refine .inl ⟨a,_,rfl,h,by rw [bV];omega,fun u hu=>?_,?_⟩
 ·obtain ⟨x,_,rfl⟩:=List.mem_map.mp hu
  exact .inl ⟨x,rfl⟩
 ·refine (J8 (by rw [bV];exact hle) (fun u hu=>?_) ?_).symm
  ·obtain ⟨x,hx,rfl⟩:=List.mem_map.mp hu
   unfold nI at hx
   obtain ⟨y,hy,rfl⟩:=List.mem_map.mp hx
   have:=hP.lt hy
   rw [bV]
   unfold inB
   simp;omega
  ·unfold nI List.Nodup
   rw [List.map_map,List.pairwise_map]
   exact hP.nd.imp fun {x y} h z=>h (by have e:((x:Nat):Int)=((y:Nat):Int):=V.int.inj z;omega)
def Ua (K:PySem.W.Frag):Sp:=fun vs H Q _=>∃ (v:V) (b:Bool),vs=[v]∧TnK K H v b∧∀ H',Same H H'→Q (.bl b) H'
theorem mG:aC ["thing","seen","end"] ["thing"] (aq bY):=⟨rfl,rfl,rfl,by decide+kernel,rfl,by decide+kernel,by decide+kernel⟩
theorem nO (T:Txt K mg):Has P w K mg base 3 "is_turning" ["thing"] (Ua K):=by
 have jq:=jq (P:=P) (w:=w) (base:=base) T
 refine gr T.d_is_turning mG (fun _ _ _ _ _ _ us hl=>L2.jU (fun _=>rfl) us hl) ?_ fun f cdv A outer s H vs Q E hr h=>?_
 ·rintro vs H Q E ⟨v,bb,rfl,_⟩;rfl
 obtain ⟨v,bb,rfl,h,q⟩:=h
 have hu:=hr.units0
 have hu64:=hr.units
 refine ⟨_,(az (cP (km (lJ (dY (dZ (aG (lA (K:=K) rfl) (aU kz0i) T.b_isinstance bj (aa (ao 0 Ot) (aa (Iu (aa (u5 (aU kz0k) T.b_list j7 (by decide+kernel) (by decide+kernel)) (aa (u5 (aU kz0j) T.b_tuple Ij (by decide+kernel) (by decide+kernel)) ak))) ak)) (by decide+kernel) (by decide+kernel)))) (je (bR t7 (aG (aJ (K:=K) rfl) (aU W6) T.b_len bC (aa (ao 0 Ot) ak) (by decide+kernel) (by decide+kernel)) (wZ (aU kz0h) T.c_MOST_LINES (by decide+kernel)) (by first | exact aV _ | with_unfolding_all rfl))))) (aA (aK m6)) bB) (az (aP (i:=1) mG.nd rfl (Or.inl T7) xq rfl) (az (jC PassesOwn.never rfl (jf (K:=K) rfl (ao 0 Ot)) (dJ (i:=2) mG.nd rfl (Or.inl Ou) rfl) (az (cP (km (lJ (dY (dZ (aF jq (hr.mono (by decide)) (aU kz0f) (aa (ao 2 Ou) (aa aH (aa (bN kW (aG (aJ (K:=K) rfl) (aU W6) T.b_len bC (aa (ao 0 Ot) ak) (by decide+kernel) (by decide+kernel)) aH) ak))) (by decide+kernel)))) (je (bR (Ju (K:=K) rfl hu64) (ao 2 Ou) (ao 1 T7) (by first | exact aV _ | with_unfolding_all rfl))))) (aA (aK m6)) bB) (aA (j8 (ts:=nY) m6 (mD (ao 1 T7) (ao 2 Ou) (j9 hu64)))))) (aA (aK m6))))),?_⟩
 walk_at "sts"
 have hs:20000≤sizeLine:=by decide
 rcases h with ⟨a,us,rfl,ha,hlen,hkd,rfl⟩ | ⟨T',hty,hk,rfl⟩
 ·rcases ha with ha | ha
  ·skip
   refine uC rfl fun p np=>?_
   walk_at "sts"
   have ha1:upd H p (.tup [.ty "list",.ty "tuple"]) a=some (.lst us):=fj np ha
   refine xn (.lst ha1) aj rfl (b:=true) (by rfl) ?_
   walk_at "sts"
   refine gU (SqL.of ha1) ?_
   walk_at "sts"
   by_cases h96:96 < us.length
   ·rw [decide_eq_true (show (96:Int) < (us.length:Int) by omega)]
    rw [Do h96] at q
    walk_at "sts"
    exact q _ ((Same.refl H).upd np)
   rw [decide_eq_false (show ¬ (96:Int) < (us.length:Int) by omega)]
   walk_at "sts"
   intro d nd
   have S1:Same H (upd (upd H p (.tup [.ty "list",.ty "tuple"])) d (.dK [])):=((Same.refl H).upd np).upd nd
   have hd0:upd (upd H p (.tup [.ty "list",.ty "tuple"])) d (.dK []) d=some (.dK []):=aj
   have nd':H d=none:=Same.back ((Same.refl H).upd np) nd
   generalize upd (upd H p (.tup [.ty "list",.ty "tuple"])) d (.dK [])=H1 at S1 hd0 ⊢
   walk_at "sts"
   refine .inl ⟨a,rfl,⟨_,SqL.of (S1 _ _ ha)⟩,?_⟩
   refine Hc (xs:=us) (fun k σ H'=>∃ (kvs:List (Key×V)) (x2:Option V),σ=[some (.ref a),some (.ref d),x2]∧Same H H'∧H' d=some (.dK kvs)∧kvs.length≤k∧(∀ n:Nat,jG kvs (Sum.inl (n:Int))=if V.int (n:Int)∈us.take k then some (.bl true) else none)∧(∀ u∈us.take k,inB u 0 ((us.length:Int) - 1)=true)∧(us.take k).Nodup)
    ⟨[],_,rfl,S1,hd0,by simp,fun n=>by simp [yE],by simp,by simp⟩ (fun i σ H' _ h=>?_) ?_ ?_
   ·obtain ⟨_,_,_,s,_⟩:=h
    exact SqL.of (s _ _ ha)
   ·rintro k v σ H' hk ⟨kvs,x2,rfl,s,hd,hkl,hv,hin,hnd⟩
    have hkt:k < us.length:=(List.getElem?_eq_some_iff.mp hk).1
    have hmem:=List.mem_of_getElem? hk
    walk_at "sts"
    refine gU (SqL.of (s _ _ ha)) ?_
    walk_at "sts"
    refine ⟨_,_,_,rfl,(hkd v hmem).same s,?_⟩
    walk_at "sts"
    cases hb:inB v 0 ((us.length:Int) - 1) with
    | false=>
     rw [J6 hmem hb] at q
     walk_at "sts"
     exact q _ s
    | true=>
     obtain ⟨i,rfl,hi⟩:=Dp hb
     walk_at "sts"
     refine .inr ⟨d,_,rfl,DGet.k (k:=Sum.inl (i:Int)) hd,?_⟩
     rw [hv i]
     by_cases hm:V.int (i:Int)∈us.take k
     ·rw [if_pos hm,show (some (V.bl true)).isSome=true from rfl]
      rw [J7 hk hm] at q
      walk_at "sts"
      exact q _ s
     ·rw [if_neg hm,show (none:Option V).isSome=false from rfl]
      walk_at "sts"
      refine .inr ⟨d,_,rfl,DPut.k (k:=Sum.inl (i:Int)) hd (by omega),?_⟩
      have tk:us.take (k+1)=us.take k ++ [V.int (i:Int)]:=by rw [List.take_add_one,hk];rfl
      refine ⟨_,_,rfl,Same.put s nd',aj,Nat.le_trans (g8 _ _ _) (by omega),fun n=>?_,fun u hu=>?_,?_⟩
      ·rw [mJ,hv n,tk]
       by_cases hn:n=i
       ·subst hn;simp
       ·rw [if_neg (fun z=>hn (by have:=Sum.inl.inj z;omega))]
        have hne:¬ V.int (n:Int)=V.int (i:Int):=fun z=>hn (by have:=V.int.inj z;omega)
        simp [hne]
      ·rw [tk] at hu
       rcases List.mem_append.mp hu with h | h
       ·exact hin u h
       ·rw [List.mem_singleton.mp h];exact hb
      ·rw [tk]
       exact uL hnd hm
   ·rintro σ H' ⟨kvs,x2,rfl,s,hd,_,_,hin,hnd⟩
    rw [List.take_length] at hin hnd
    rw [J8 (by omega) hin hnd] at q
    walk_at "sts"
    exact q _ s
  ·skip
   refine uC rfl fun p np=>?_
   walk_at "sts"
   have ha1:upd H p (.tup [.ty "list",.ty "tuple"]) a=some (.tup us):=fj np ha
   refine xn (.tup ha1) aj rfl (b:=true) (by rfl) ?_
   walk_at "sts"
   refine Im (SqT.of ha1) ?_
   walk_at "sts"
   by_cases h96:96 < us.length
   ·rw [decide_eq_true (show (96:Int) < (us.length:Int) by omega)]
    rw [Do h96] at q
    walk_at "sts"
    exact q _ ((Same.refl H).upd np)
   rw [decide_eq_false (show ¬ (96:Int) < (us.length:Int) by omega)]
   walk_at "sts"
   intro d nd
   have S1:Same H (upd (upd H p (.tup [.ty "list",.ty "tuple"])) d (.dK [])):=((Same.refl H).upd np).upd nd
   have hd0:upd (upd H p (.tup [.ty "list",.ty "tuple"])) d (.dK []) d=some (.dK []):=aj
   have nd':H d=none:=Same.back ((Same.refl H).upd np) nd
   generalize upd (upd H p (.tup [.ty "list",.ty "tuple"])) d (.dK [])=H1 at S1 hd0 ⊢
   walk_at "sts"
   refine .inr (.inl ⟨a,rfl,⟨_,SqT.of (S1 _ _ ha)⟩,?_⟩)
   refine Cd (xs:=us) (fun k σ H'=>∃ (kvs:List (Key×V)) (x2:Option V),σ=[some (.ref a),some (.ref d),x2]∧Same H H'∧H' d=some (.dK kvs)∧kvs.length≤k∧(∀ n:Nat,jG kvs (Sum.inl (n:Int))=if V.int (n:Int)∈us.take k then some (.bl true) else none)∧(∀ u∈us.take k,inB u 0 ((us.length:Int) - 1)=true)∧(us.take k).Nodup)
    ⟨[],_,rfl,S1,hd0,by simp,fun n=>by simp [yE],by simp,by simp⟩ (fun i σ H' _ h=>?_) ?_ ?_
   ·obtain ⟨_,_,_,s,_⟩:=h
    exact SqT.of (s _ _ ha)
   ·rintro k v σ H' hk ⟨kvs,x2,rfl,s,hd,hkl,hv,hin,hnd⟩
    have hkt:k < us.length:=(List.getElem?_eq_some_iff.mp hk).1
    have hmem:=List.mem_of_getElem? hk
    walk_at "sts"
    refine Im (SqT.of (s _ _ ha)) ?_
    walk_at "sts"
    refine ⟨_,_,_,rfl,(hkd v hmem).same s,?_⟩
    walk_at "sts"
    cases hb:inB v 0 ((us.length:Int) - 1) with
    | false=>
     rw [J6 hmem hb] at q
     walk_at "sts"
     exact q _ s
    | true=>
     obtain ⟨i,rfl,hi⟩:=Dp hb
     walk_at "sts"
     refine .inr ⟨d,_,rfl,DGet.k (k:=Sum.inl (i:Int)) hd,?_⟩
     rw [hv i]
     by_cases hm:V.int (i:Int)∈us.take k
     ·rw [if_pos hm,show (some (V.bl true)).isSome=true from rfl]
      rw [J7 hk hm] at q
      walk_at "sts"
      exact q _ s
     ·rw [if_neg hm,show (none:Option V).isSome=false from rfl]
      walk_at "sts"
      refine .inr ⟨d,_,rfl,DPut.k (k:=Sum.inl (i:Int)) hd (by omega),?_⟩
      have tk:us.take (k+1)=us.take k ++ [V.int (i:Int)]:=by rw [List.take_add_one,hk];rfl
      refine ⟨_,_,rfl,Same.put s nd',aj,Nat.le_trans (g8 _ _ _) (by omega),fun n=>?_,fun u hu=>?_,?_⟩
      ·rw [mJ,hv n,tk]
       by_cases hn:n=i
       ·subst hn;simp
       ·rw [if_neg (fun z=>hn (by have:=Sum.inl.inj z;omega))]
        have hne:¬ V.int (n:Int)=V.int (i:Int):=fun z=>hn (by have:=V.int.inj z;omega)
        simp [hne]
      ·rw [tk] at hu
       rcases List.mem_append.mp hu with h | h
       ·exact hin u h
       ·rw [List.mem_singleton.mp h];exact hb
      ·rw [tk]
       exact uL hnd hm
   ·rintro σ H' ⟨kvs,x2,rfl,s,hd,_,_,hin,hnd⟩
    rw [List.take_length] at hin hnd
    rw [J8 (by omega) hin hnd] at q
    walk_at "sts"
    exact q _ s
 ·refine uC rfl fun p np=>?_
  walk_at "sts"
  refine xn (hty.mono fun b o e _=>fj np e) aj rfl hk ?_
  walk_at "sts"
  exact q _ ((Same.refl H).upd np)
def Ox (K:PySem.W.Frag):Sp:=fun vs H Q _=>∃ (a:Addr) (t:List Nat),vs=[.ref a]∧Tn H a t∧Prm t∧∀ H',Same H H'→Q .non H'
theorem tH:aC ["thing"] ["thing"] (aq ir):=⟨rfl,rfl,rfl,by decide+kernel,rfl,by decide+kernel,by decide+kernel⟩
theorem eO (T:Txt K mg):Has P w K mg base 4 "need_turning" ["thing"] (Ox K):=by
 have nO:=nO (P:=P) (w:=w) (base:=base) T
 refine gr T.d_need_turning tH (fun _ _ _ _ _ _ us hl=>L2.jU (fun _=>rfl) us hl) ?_ fun f cdv A outer s H vs Q E hr h=>?_
 ·rintro vs H Q E ⟨a,t,rfl,_⟩;rfl
 obtain ⟨a,t,rfl,ha,hP,q⟩:=h
 have hu:=hr.units0
 have hu64:=hr.units
 refine ⟨_,(aA (cP (dY (dZ (aF nO (hr.mono (by decide)) (aU kz0l) (aa (ao 0 kz0m) ak) (by decide+kernel)))) (aA kE) bB)),?_⟩
 walk_at "sts"
 refine ⟨.ref a,true,rfl,Ow ha hP,fun H1 S1=>?_⟩
 walk_at "sts"
 walk_at "sts"
 exact q H1 S1
theorem Ub (n:Nat):((List.range n).map fun i:Nat=>V.int (0+(i:Int)*1))=(nI (List.range n)).map V.int:=by
 unfold nI
 rw [List.map_map]
 refine List.map_congr_left fun x _=>?_
 show V.int (0+(x:Int)*1)=V.int (x:Int)
 congr 1;omega
def Bv:Sp:=fun vs H Q _=>∃ n:Nat,vs=[.int n]∧n≤96∧∀ q H',H q=none→Same H H'→H' q=some (.lst ((nI (List.range n)).map V.int))→Q (.ref q) H'
theorem zG:aC ["many"] ["many"] (aq iu):=⟨rfl,rfl,rfl,by decide+kernel,rfl,by decide+kernel,by decide+kernel⟩
theorem gM (T:Txt K mg):Has P w K mg base 4 "straight" ["many"] Bv:=by
 have nM:=nM (P:=P) (w:=w) (base:=base) T
 refine gr T.d_straight zG (fun _ _ _ _ _ _ us hl=>L2.jU (fun _=>rfl) us hl) ?_ fun f cdv A outer s H vs Q E hr h=>?_
 ·rintro vs H Q E ⟨n,rfl,_⟩;rfl
 obtain ⟨n,rfl,hn,q⟩:=h
 have hu:=hr.units0
 have hu64:=hr.units
 refine ⟨_,(az (bD (aF nM (hr.mono (by decide)) (aU kz0q) (aa (ao 0 W7) (aa aH (aa (wZ (aU kz0r) T.c_MOST_LINES (by decide+kernel)) ak))) (by decide+kernel))) (aA (aK (Bl rfl (aU kz0n) T.b_list (aU kz0o) T.b_range (aa (ao 0 W7) ak))))),?_⟩
 walk_at "sts"
 refine ⟨_,_,_,rfl,by omega,by omega,?_⟩
 walk_at "sts"
 refine NQ (n:=n) (by omega) ?_
 walk_at "sts"
 intro p np
 rw [Ub]
 exact q p _ np ((Same.refl H).upd np) aj
def Xa:Sp:=fun vs H Q _=>∃ (a:Addr) (t:List Nat),vs=[.ref a]∧H a=some (.lst ((nI t).map V.int))∧Prm t∧∀ q H',H q=none→Same H H'→H' q=some (.lst ((nI (inv t)).map V.int))→Q (.ref q) H'
theorem mq:aC ["turning","begins","begin","end"] ["turning"] (aq fM):=⟨rfl,rfl,rfl,by decide+kernel,rfl,by decide+kernel,by decide+kernel⟩
theorem ji (T:Txt K mg):Has P w K mg base 5 "opposite" ["turning"] Xa:=by
 have eO:=eO (P:=P) (w:=w) (base:=base) T
 refine gr T.d_opposite mq (fun _ _ _ _ _ _ us hl=>L2.jU (fun _=>rfl) us hl) ?_ fun f cdv A outer s H vs Q E hr h=>?_
 ·rintro vs H Q E ⟨a,t,rfl,_⟩;rfl
 obtain ⟨a,t,rfl,ha,hP,q⟩:=h
 have hu:=hr.units0
 have hu64:=hr.units
 refine ⟨_,(az (bD (aF eO (hr.mono (by decide)) (aU kz0y) (aa (ao 0 T9) ak) (by decide+kernel))) (az (aP (i:=1) mq.nd rfl (Or.inl T8) (bN lW (gA (aa aH ak)) (aG (aJ (K:=K) rfl) (aU kz0x) T.b_len bC (aa (ao 0 T9) ak) (by decide+kernel) (by decide+kernel))) rfl) (az (jC PassesOwn.never rfl (w6 (K:=K) rfl rfl (aU kz0t) T.b_enumerate (aa (ao 0 T9) ak)) (Bd (K:=K) rfl rfl (iR (dJ (i:=2) mq.nd rfl (Or.inl W9) rfl) (iR (dJ (i:=3) mq.nd rfl (Or.inl W8) rfl) tU))) (aA (j8 (ts:=nY) (ao 2 W9) (mD (ao 1 T8) (ao 3 W8) (j9 hu64))))) (aA (aK (ao 1 T8)))))),?_⟩
 walk_at "sts"
 have hs:20000≤sizeLine:=by decide
 have hle:=hP.le
 refine ⟨_,t,rfl,.inl ha,hP,fun H1 S1=>?_⟩
 walk_at "sts"
 ·skip
  refine uC rfl fun p np=>?_
  walk_at "sts"
  refine gU (SqL.of (fj np (S1 _ _ ha))) ?_
  walk_at "sts"
  rw [bV]
  refine Iw (k:=(t.length:Int)) aj (by omega) (by omega) (by simp;omega) fun b nb=>?_
  walk_at "sts"
  have S2:Same H (upd (upd H1 p (.lst [.int 0])) b (.lst (List.replicate ((t.length:Int)).toNat [V.int 0]).flatten)):=(S1.upd np).upd nb
  have nb0:H b=none:=Same.back (S1.upd np) nb
  have hb0:upd (upd H1 p (.lst [.int 0])) b (.lst (List.replicate ((t.length:Int)).toNat [V.int 0]).flatten) b=some (.lst ((nI (List.replicate t.length 0)).map V.int)):=by
   rw [aj]
   congr 2
   unfold nI
   rw [List.map_replicate,List.map_replicate,show ((t.length:Int)).toNat=t.length by omega]
   generalize t.length=n
   induction n with
   | zero=>rfl
   | succ n ih=>rw [List.replicate_succ,List.flatten_cons,ih,List.replicate_succ];rfl
  generalize upd (upd H1 p (.lst [.int 0])) b (.lst (List.replicate ((t.length:Int)).toNat [V.int 0]).flatten)=H2 at S2 hb0 ⊢
  refine .inr ⟨a,_,rfl,SqL.of (S2 _ _ ha),?_⟩
  refine rz (K:=K) (xs:=(nI t).map V.int) (fun k σ H'=>∃ (r:List Nat) (x2 x3:Option V),σ=[some (.ref a),some (.ref b),x2,x3]∧Same H H'∧H' b=some (.lst ((nI r).map V.int))∧r.length=t.length∧∀ (i x:Nat),i < k→t[i]?=some x→r[x]?=some i)
   ⟨List.replicate t.length 0,_,_,rfl,S2,hb0,by simp,fun i x h=>by omega⟩ (fun i σ H' _ h=>?_) ?_ ?_
  ·obtain ⟨_,_,_,_,s,_⟩:=h
   exact SqL.of (s _ _ ha)
  ·rintro k σ H' T v hk ⟨r,x2,x3,rfl,s,hb,hrl,hr⟩ nT
   obtain ⟨i,hi,rfl⟩:=zF hk
   have hit:=hP.lt (List.mem_of_getElem? hi)
   refine b7 (SqT.of aj) rfl ?_
   walk_at "sts"
   refine nq (fj nT hb) (uK (p:=i) rfl (by rw [bV];omega)) ?_
   walk_at "sts"
   rw [pY]
   refine ⟨r.set i k,_,_,rfl,Same.put (s.upd nT) nb0,aj,by simp;omega,fun j x hj e=>?_⟩
   by_cases hjk:j=k
   ·subst hjk
    rw [hi] at e
    cases e
    rw [List.getElem?_set_self (by omega)]
   ·have hx:x≠i:=fun z=>hjk (by
     subst z
     have h1:=iM hP.nd e
     have h2:=iM hP.nd hi
     omega)
    rw [List.getElem?_set_ne (fun z=>hx z.symm)]
    exact hr j x (by omega) e
  ·rintro σ H' ⟨r,x2,x3,rfl,s,hb,hrl,hr⟩
   walk_at "sts"
   rw [bV] at hr
   have e:=rJ hP hrl fun i x h=>hr i x (List.getElem?_eq_some_iff.mp h).1 h
   rw [e] at hb
   exact q b _ nb0 s hb
end
local macro_rules | `(tactic| walk_at "sts") => `(tactic| (with_reducible repeat (first | refine jL ?_ | refine jA ?_ | refine jy ?_ | refine gk ?_ | refine gn ?_ | (refine' fZ ?hz0 ?_; (case hz0 => with_unfolding_all rfl)) | refine qR ?_ | refine jQ ?_ | refine dm ?_ | refine cX ?_ | refine f9 ?_ | refine lH ?_ | refine fP ?_ | refine cR ?_ | refine fU ?_ | refine cQ ?_ | refine jH ?_ | refine cU ?_ | refine jR ?_ | refine jN ?_ | refine cY ?_ | refine jJ ?_ | refine fV ?_ | refine fW ?_ | refine jK ?_ | refine cV ?_ | refine fX ?_ | refine cW ?_ | refine fY ?_ | refine fQ ?_ | refine cT ?_ | refine jM ?_ | refine vW ?_ | refine vX ?_ | refine jO ?_ | refine jP ?_ | refine gb ?_ | refine cZ ?_ | refine c7 ?_ | refine dg ?_ | refine dh ?_ | refine di ?_ | refine dj ?_ | refine gf ?_ | refine qU ?_ | refine bF ?_ | refine dz ?_ | (refine' b7 (SqT.of ?hz0) ?hz1 ?_; (case hz0 => first | assumption | exact aj); (case hz1 => rfl)) | refine bH ?_ | refine dB ?_ | refine dD ?_ | refine cI ?_ | refine cJ ?_ | refine cL ?_ | refine cM ?_ | refine jT ?_ | refine cC ?_ | refine cF ?_ | refine cG ?_ | refine cH ?_ | refine bG ?_ | refine gj ?_ | refine dw ?_ | (refine' qT ?hz0 ?_; (case hz0 => with_unfolding_all first | assumption | omega | (dsimp only <;> omega) | exact ⟨by omega, by omega⟩ | exact .inl ⟨by omega, by omega⟩ | exact .inr ⟨by omega, by omega⟩ | exact ⟨by decide, by decide, by decide⟩)) | (refine' dq ?hz0 ?_; (case hz0 => with_unfolding_all first | assumption | omega | (dsimp only <;> omega) | exact ⟨by omega, by omega⟩ | exact .inl ⟨by omega, by omega⟩ | exact .inr ⟨by omega, by omega⟩ | exact ⟨by decide, by decide, by decide⟩)) | (refine' cu (SqL.of ?hz0) ?hz1 ?_; (case hz0 => first | assumption | exact aj); (case hz1 => with_unfolding_all rfl)) | (refine' cB ?hz0 ?hz1 ?_; (case hz0 => first | assumption | exact aj); (case hz1 => with_unfolding_all rfl)) | refine bI ?_ | refine gq ?_ | refine dF ?_ | refine bJ ?_ | refine dG ?_ | refine bK ?_ | (refine' Dc ?hz0 ?_; (case hz0 => with_unfolding_all rfl)) | refine dO ?_)))
local macro_rules | `(tactic| walk_at "stn") => `(tactic| (with_reducible repeat (first | refine jL ?_ | refine jA ?_ | refine jy ?_ | refine gk ?_ | refine gn ?_ | (refine' fZ ?hz0 ?_; (case hz0 => with_unfolding_all rfl)) | refine qR ?_ | refine jQ ?_ | refine dm ?_ | refine cX ?_ | refine f9 ?_ | refine fP ?_ | refine cR ?_ | refine fU ?_ | refine cQ ?_ | refine jH ?_ | refine cU ?_ | refine jR ?_ | refine jN ?_ | refine cY ?_ | refine jJ ?_ | refine fV ?_ | refine fW ?_ | refine jK ?_ | refine cV ?_ | refine fX ?_ | refine cW ?_ | refine fY ?_ | refine fQ ?_ | refine cT ?_ | refine jM ?_ | refine vW ?_ | refine vX ?_ | refine jO ?_ | refine jP ?_ | refine gb ?_ | refine cZ ?_ | refine c7 ?_ | refine dg ?_ | refine dh ?_ | refine di ?_ | refine dj ?_ | refine gf ?_ | refine qU ?_ | refine bF ?_ | refine dz ?_ | (refine' b7 (SqT.of ?hz0) ?hz1 ?_; (case hz0 => first | assumption | exact aj); (case hz1 => rfl)) | refine bH ?_ | refine dB ?_ | refine dD ?_ | refine cI ?_ | refine cJ ?_ | refine cL ?_ | refine cM ?_ | refine jT ?_ | refine cC ?_ | refine cF ?_ | refine cG ?_ | refine cH ?_ | refine bG ?_ | refine gj ?_ | refine dw ?_ | (refine' qT ?hz0 ?_; (case hz0 => with_unfolding_all first | assumption | omega | (dsimp only <;> omega) | exact ⟨by omega, by omega⟩ | exact .inl ⟨by omega, by omega⟩ | exact .inr ⟨by omega, by omega⟩ | exact ⟨by decide, by decide, by decide⟩)) | (refine' dq ?hz0 ?_; (case hz0 => with_unfolding_all first | assumption | omega | (dsimp only <;> omega) | exact ⟨by omega, by omega⟩ | exact .inl ⟨by omega, by omega⟩ | exact .inr ⟨by omega, by omega⟩ | exact ⟨by decide, by decide, by decide⟩)) | (refine' cu (SqL.of ?hz0) ?hz1 ?_; (case hz0 => first | assumption | exact aj); (case hz1 => with_unfolding_all rfl)) | (refine' cB ?hz0 ?hz1 ?_; (case hz0 => first | assumption | exact aj); (case hz1 => with_unfolding_all rfl)) | refine bI ?_ | refine gq ?_ | refine dF ?_ | refine bJ ?_ | refine dG ?_ | refine bK ?_ | (refine' Dc ?hz0 ?_; (case hz0 => with_unfolding_all rfl)) | refine dO ?_)))
section
variable {P:Program} {w:World} {K:PySem.W.Frag} {mg:Str→Option Value} {base:Heap}
theorem Uc:bz eN "working":=by decide+kernel
theorem kz10:bM eN "enumerate":=by decide+kernel
theorem kz11:bz eN "steps":=by decide+kernel
theorem J9:bz eN "step":=by decide+kernel
theorem Xb:bz eN "place":=by decide+kernel
theorem Ud:bz eN "lesser":=by decide+kernel
theorem Ue:bz eN "greater":=by decide+kernel
theorem Oz:bz eN "begins":=by decide+kernel
theorem kz17:bM cO "list":=by decide+kernel
theorem kz18:bM cO "reversed":=by decide+kernel
theorem Ug:bz cO "undone":=by decide+kernel
theorem kz1a:bM cO "range":=by decide+kernel
theorem kz1b:bM cO "len":=by decide+kernel
theorem zH:bz cO "begins":=by decide+kernel
theorem Xc:bz cO "place":=by decide+kernel
theorem vd:bz cO "step":=by decide+kernel
theorem Xd:bz cO "greater":=by decide+kernel
theorem kz1g:bM cO "opposite":=by decide+kernel
theorem kz1h:bz cO "turning":=by decide+kernel
theorem Xe:bM gJ "len":=by decide+kernel
theorem Xf:bz gJ "one":=by decide+kernel
theorem Xg:bz gJ "other":=by decide+kernel
theorem Xh:bM gJ "need_turning":=by decide+kernel
theorem Xi:bM mF "opposite":=by decide+kernel
theorem Uh:bz mF "begins":=by decide+kernel
theorem kz1o:bM mF "do_steps":=by decide+kernel
theorem kz1p:bM mF "steps_of":=by decide+kernel
theorem Xj:bz mF "other":=by decide+kernel
theorem Xk:bz mF "one":=by decide+kernel
theorem kz1s:bM mF "need_alike":=by decide+kernel
def spDo (K:PySem.W.Frag):Sp:=fun vs H Q _=>∃ (bg st:Addr) (E ps:List Nat),vs=[.ref bg,.ref st]∧H bg=some (.lst ((nI E).map V.int))∧H st=some (.lst ((nI ps).map V.int))∧bg≠st∧(∀ p∈ps,p+1 < E.length)∧ps.length≤6000∧
 ∀ q H',H q=none→Chg bg H H'→H' bg=some (.lst ((nI (bw E ps)).map V.int))→H' q=some (.lst ((nI (JD E ps ps.length)).map V.int))→Q (.ref q) H'
theorem jr:aC ["begins","steps","working","place","step","lesser","greater"] ["begins","steps"] (aq eN):=⟨rfl,rfl,rfl,by decide+kernel,rfl,by decide+kernel,by decide+kernel⟩
theorem pZ (T:Txt K mg):Has P w K mg base 1 "do_steps" ["begins","steps"] (spDo K):=by
 refine gr T.d_do_steps jr (fun _ _ _ _ _ _ us hl=>L2.ou (fun _ _=>rfl) us hl) ?_ fun f cdv A outer s H vs Q E hr h=>?_
 ·rintro vs H Q E ⟨bg,st,E,ps,rfl,_⟩;rfl
 obtain ⟨bg,st,E,ps,rfl,hb,hst,hne,hp,hpl,q⟩:=h
 have hu:=hr.units0
 have hu64:=hr.units
 refine ⟨_,(az (aP (i:=2) jr.nd rfl (Or.inl Uc) (gA ak) rfl) (az (jC PassesOwn.never rfl (w6 (K:=K) rfl rfl (aU kz10) T.b_enumerate (aa (ao 1 kz11) ak)) (Bd (K:=K) rfl rfl (iR (dJ (i:=3) jr.nd rfl (Or.inl Xb) rfl) (iR (dJ (i:=4) jr.nd rfl (Or.inl J9) rfl) tU))) (az (aP (i:=5) jr.nd rfl (Or.inl Ud) (jV (K:=K) rfl (ao 0 Oz) (ao 4 J9)) rfl) (az (aP (i:=6) jr.nd rfl (Or.inl Ue) (jV (K:=K) rfl (ao 0 Oz) (bN aW (ao 4 J9) aH)) rfl) (aA (cP (bR Hi (ao 5 Ud) (ao 6 Ue) (by first | exact aV _ | with_unfolding_all rfl)) (az (j8 (ts:=nY) (ao 6 Ue) (mD (ao 0 Oz) (ao 4 J9) (j9 hu64))) (az (j8 (ts:=nY) (ao 5 Ud) (mD (ao 0 Oz) (bN aW (ao 4 J9) aH) (j9 hu64))) (aA (bD (rn (K:=K) rfl PySem.F.plainAttrs_list PySem.F.slot_list_append PySem.F.type_list_append o9 (ao 2 Uc) (aa (ao 3 Xb) ak)))))) bB))))) (aA (aK (ao 2 Uc))))),?_⟩
 walk_at "sts"
 have hs:20000≤sizeLine:=by decide
 refine uC rfl fun wk nwk=>?_
 walk_at "sts"
 have wb:wk≠bg:=fun z=>by rw [z,hb] at nwk;cases nwk
 have ws:wk≠st:=fun z=>by rw [z,hst] at nwk;cases nwk
 refine .inr ⟨st,_,rfl,SqL.of (fj nwk hst),?_⟩
 refine rz (K:=K) (xs:=(nI ps).map V.int) (fun k σ H'=>∃ (x3 x4 x5 x6:Option V),σ=[some (.ref bg),some (.ref st),some (.ref wk),x3,x4,x5,x6]∧Chg bg H H'∧H' st=some (.lst ((nI ps).map V.int))∧H' bg=some (.lst ((nI (bw E (ps.take k))).map V.int))∧H' wk=some (.lst ((nI (JD E ps k)).map V.int)))
  ⟨_,_,_,_,rfl,(Chg.refl bg H).new nwk,fj nwk hst,fj nwk hb,aj⟩ (fun i σ H' _ h=>?_) ?_ ?_
 ·obtain ⟨_,_,_,_,_,_,h,_⟩:=h
  exact SqL.of h
 ·rintro k σ H' T v hk ⟨x3,x4,x5,x6,rfl,c,hst',hb',hw'⟩ nT
  obtain ⟨p,hpk,rfl⟩:=zF hk
  have hkl:k < ps.length:=(List.getElem?_eq_some_iff.mp hpk).1
  have hpd:ps.getD k 0=p:=by rw [List.getD_eq_getElem?_getD,hpk];rfl
  have hpE:p+1 < (bw E (ps.take k)).length:=by rw [kI];exact hp p (List.mem_of_getElem? hpk)
  have tk:ps.take (k+1)=ps.take k ++ [p]:=by rw [rH hkl,hpd]
  have wsu:=zq E ps k
  rw [hpd] at wsu
  have wl:=Oh E ps k
  have c1:Chg bg H (upd H' T (.tup [.int k,.int p])):=c.new nT
  have hT:upd H' T (.tup [.int k,.int p]) T=some (.tup [.int k,.int p]):=aj
  have hst1:=fj nT (o:=.tup [.int k,.int p]) hst'
  have hb1:=fj nT (o:=.tup [.int k,.int p]) hb'
  have hw1:=fj nT (o:=.tup [.int k,.int p]) hw'
  generalize upd H' T (.tup [.int k,.int p])=H1 at c1 hT hst1 hb1 hw1 ⊢
  have eR:bw E (ps.take (k+1))=aM (bw E (ps.take k)) p:=by rw [tk,mQ]
  generalize bw E (ps.take k)=F at hpE hb1 eR wsu
  refine b7 (SqT.of hT) rfl ?_
  walk_at "sts"
  refine cu (SqL.of hb1) (sI (k:=p) (by omega) rfl) ?_
  walk_at "sts"
  refine cu (SqL.of hb1) (sI (k:=p+1) (by omega) (by omega)) ?_
  walk_at "sts"
  have ew:pJ F p=decide (((F.getD p 0:Nat):Int) < ((F.getD (p+1) 0:Nat):Int)):=by unfold pJ;exact decide_eq_decide.mpr (by omega)
  rw [← ew]
  refine iteB (fun hw=>?_) (fun hw=>?_)
  ·rw [if_pos hw] at wsu
   walk_at "sts"
   refine nq hb1 (uK (p:=p) rfl (by rw [bV];omega)) ?_
   walk_at "sts"
   rw [pY]
   refine nq aj (uK (p:=p+1) (by omega) (by rw [bV];simp;omega)) ?_
   walk_at "sts"
   rw [pY,Lb]
   have hw2:upd H1 bg (.lst ((nI ((F.set p (F.getD (p+1) 0)).set (p+1) (F.getD p 0))).map V.int)) wk=some (.lst ((nI (JD E ps k)).map V.int)):=by rw [aB wb];exact hw1
   refine ⟨.inl ⟨rfl,_,SqL.of hw2⟩,?_⟩
   walk_at "sts"
   refine qH hw2 (by rw [bV];omega) ?_
   walk_at "sts"
   rw [tW]
   refine ⟨_,_,_,_,rfl,?_,?_,?_,?_⟩
   ·intro b o nb e
    have nw:b≠wk:=fun z=>by rw [z,nwk] at e;cases e
    rw [aB nw,aB nb]
    exact c1 b o nb e
   ·rw [aB (Ne.symm ws),aB (Ne.symm hne)];exact hst1
   ·rw [aB (Ne.symm wb),aj,eR]
    unfold aM
    rw [if_pos hw]
   ·rw [aj,wsu]
  ·rw [if_neg (by rw [hw];simp),List.append_nil] at wsu
   walk_at "sts"
   refine ⟨_,_,_,_,rfl,c1,hst1,?_,?_⟩
   ·rw [hb1,eR]
    unfold aM
    rw [if_neg (by rw [hw];simp)]
   ·rw [hw1,wsu]
 ·rintro σ H' ⟨x3,x4,x5,x6,rfl,c,hst',hb',hw'⟩
  rw [bV] at hb' hw'
  rw [List.take_length] at hb'
  walk_at "sts"
  exact q wk H' nwk c hb' hw'
def MR (r:R2):Prop:=∀ x y H Q Q',(∀ v H1,Q v H1→Q' v H1)→r x y H Q→r x y H Q'
def ME (te:TE):Prop:=∀ σ H Q Q',(∀ v H1,Q v H1→Q' v H1)→te σ H Q→te σ H Q'
def MT (te:TT):Prop:=∀ σ H Q Q',(∀ v H1,Q v H1→Q' v H1)→te σ H Q→te σ H Q'
theorem QZ (g:Int→Int→V):MR (Hg g):=by
 rintro x y H Q Q' h ⟨i,j,e1,e2,q⟩
 exact ⟨i,j,e1,e2,h _ _ q⟩
theorem Q0:MR (R0 K):=by
 rintro x y H Q Q' h (⟨p,xs,i,v,a,b,c,d,q⟩ | ⟨p,xs,i,v,a,b,c,d,q⟩ | ⟨z,i,c,a,b,d,e,q⟩)
 ·exact .inl ⟨p,xs,i,v,a,b,c,d,h _ _ q⟩
 ·exact .inr (.inl ⟨p,xs,i,v,a,b,c,d,h _ _ q⟩)
 ·exact .inr (.inr ⟨z,i,c,a,b,d,e,h _ _ q⟩)
theorem OD:MR yN:=by
 rintro x y H Q Q' h (⟨i,j,a,b,q⟩ | ⟨i,j,a,b,c,q⟩ | ⟨p,q',xs,ys,a,b,c,d,e,q⟩)
 ·exact .inl ⟨i,j,a,b,h _ _ q⟩
 ·exact .inr (.inl ⟨i,j,a,b,c,h _ _ q⟩)
 ·exact .inr (.inr ⟨p,q',xs,ys,a,b,c,d,e,fun r hr=>h _ _ (q r hr)⟩)
theorem uM (i:Nat):ME (qW i):=by
 rintro σ H Q Q' h ⟨v,e,q⟩
 exact ⟨v,e,h _ _ q⟩
theorem Xl (v:V):ME (tC v):=fun σ H Q Q' h q=>h _ _ q
theorem zJ {r:R2} {ta tb:TE} (hr:MR r) (ha:ME ta) (hb:ME tb):ME (Hf r ta tb):=fun σ H Q Q' h q=>ha σ H _ _ (fun x H1 q1=>hb σ H1 _ _ (fun y H2 q2=>hr _ _ _ _ _ h q2) q1) q
theorem Dq {te:TE} (h:ME te):MT (vD te):=fun σ H Q Q' hq q=>h σ H _ _ (fun x H1 ⟨k,e,q1⟩=>⟨k,e,hq _ _ q1⟩) q
theorem Ui {t u:TT} (h:MT t) (h2:MT u):MT (Lf t u):=fun σ H Q Q' hq q=>h σ H _ _ (fun c H1 q1=>by
 cases c with
 | true=>rw [if_pos rfl] at q1 ⊢;exact h2 _ _ _ _ hq q1
 | false=>rw [if_neg Bool.false_ne_true] at q1 ⊢;exact hq _ _ q1) q
def mu4 (σ:St) (_:Hp):Nat:=match σ[4]? with
 | some (some (V.int z))=>(z+1).toNat
 | _=>0
theorem sO:∀ (p:Nat) (B u:List Nat),(inn p B u).1.length=B.length
 | 0,_,_=>rfl
 | p+1,B,u=>by
  unfold inn
  split
  ·rw [sO p,nH]
  ·rfl
theorem sS:∀ (p:Nat) (B u:List Nat),(inn p B u).2.length≤u.length+p
 | 0,_,_=>Nat.le_refl _
 | p+1,B,u=>by
  unfold inn
  split
  ·have:=sS p (uY B p) (u ++ [p])
   rw [List.length_append,List.length_singleton] at this
   omega
  ·exact Nat.le_add_right _ _
theorem sU (B:List Nat):∀ k,(rK B k).1.length=B.length
 | 0=>rfl
 | k+1=>(sO _ _ _).trans (sU B k)
theorem sV (B:List Nat):∀ k,k≤96→(rK B k).2.length≤96*k
 | 0,_=>Nat.le_refl _
 | k+1,h=>by
  have h1:=sS (k+1) (rK B k).1 (rK B k).2
  have h2:=sV B k (by omega)
  show (inn (k+1) (rK B k).1 (rK B k).2).2.length≤_
  omega
def FW:Sp:=fun vs H Q _=>∃ (a:Addr) (t:List Nat),vs=[.ref a]∧H a=some (.lst ((nI t).map V.int))∧Prm t∧∀ q H',H q=none→Same H H'→H' q=some (.lst ((nI (FJ t).reverse).map V.int))→Q (.ref q) H'
theorem iz:aC ["turning","begins","undone","place","step","greater"] ["turning"] (aq cO):=⟨rfl,rfl,rfl,by decide+kernel,rfl,by decide+kernel,by decide+kernel⟩
theorem p8 (T:Txt K mg):Has P w K mg base 6 "steps_of" ["turning"] FW:=by
 have ji:=ji (P:=P) (w:=w) (base:=base) T
 refine gr T.d_steps_of iz (fun _ _ _ _ _ _ us hl=>L2.jU (fun _=>rfl) us hl) ?_ fun f cdv A outer s H vs Q E hr h=>?_
 ·rintro vs H Q E ⟨a,t,rfl,_⟩;rfl
 obtain ⟨a,t,rfl,hT,hP,q⟩:=h
 have hu:=hr.units0
 have hu64:=hr.units
 refine ⟨_,(az (aP (i:=1) iz.nd rfl (Or.inl zH) (aF ji (hr.mono (by decide)) (aU kz1g) (aa (ao 0 kz1h) ak) (by decide+kernel)) rfl) (az (aP (i:=2) iz.nd rfl (Or.inl Ug) (gA ak) rfl) (az (jC PassesOwn.never rfl (Eu (aU kz1a) T.b_range (aa aH (aa (aG (aJ (K:=K) rfl) (aU kz1b) T.b_len bC (aa (ao 1 zH) ak) (by decide+kernel) (by decide+kernel)) ak))) (dJ (i:=3) iz.nd rfl (Or.inl Xc) rfl) (az (aP (i:=4) iz.nd rfl (Or.inl vd) (bN kW (ao 3 Xc) aH) rfl) (aA (Iv PassesOwn.never (km (Ir (bR VM (ao 4 vd) aH (by first | exact aV _ | with_unfolding_all rfl)) (CK (bR t7 (jV (K:=K) rfl (ao 1 zH) (ao 4 vd)) (jV (K:=K) rfl (ao 1 zH) (bN aW (ao 4 vd) aH)) (by first | exact aV _ | with_unfolding_all rfl))))) (az (aP (i:=5) iz.nd rfl (Or.inl Xd) (jV (K:=K) rfl (ao 1 zH) (ao 4 vd)) rfl) (az (j8 (ts:=nY) (jV (K:=K) rfl (ao 1 zH) (bN aW (ao 4 vd) aH)) (mD (ao 1 zH) (ao 4 vd) (j9 hu64))) (az (j8 (ts:=nY) (ao 5 Xd) (mD (ao 1 zH) (bN aW (ao 4 vd) aH) (j9 hu64))) (az (bD (rn (K:=K) rfl PySem.F.plainAttrs_list PySem.F.slot_list_append PySem.F.type_list_append o9 (ao 2 Ug) (aa (ao 4 vd) ak))) (aA (Tu (i:=4) iz.nd rfl (Or.inl vd) aH Lw rfl)))))))))) (aA (aK (Ey (K:=K) rfl rfl (aU kz17) T.b_list (aU kz18) T.b_reversed (ao 2 Ug))))))),?_⟩
 walk_at "sts"
 have hs:20000≤sizeLine:=by decide
 have hle:=hP.le
 have il:=bO t
 refine ⟨a,t,rfl,hT,hP,fun b H1 nb S1 hb=>?_⟩
 walk_at "sts"
 refine uC rfl fun ud nud=>?_
 walk_at "sts"
 have nud0:=Same.back S1 nud
 have bu:b≠ud:=fun z=>by rw [z,nud] at hb;cases hb
 refine gU (SqL.of (fj nud hb)) ?_
 walk_at "sts"
 rw [bV]
 refine ⟨⟨by omega,by omega,by omega,by omega⟩,?_⟩
 rw [show (((inv t).length:Int) - 1).toNat=t.length - 1 by omega]
 refine o8 (n:=t.length - 1) (fun k σ H'=>∃ (x3 x4 x5:Option V),σ=[some (.ref a),some (.ref b),some (.ref ud),x3,x4,x5]∧Same H H'∧H' b=some (.lst ((nI (rK (inv t) k).1).map V.int))∧H' ud=some (.lst ((nI (rK (inv t) k).2).map V.int)))
  ⟨_,_,_,rfl,S1.upd nud,fj nud hb,aj⟩ ?_ ?_
 ·rintro k σ H' hk ⟨x3,x4,x5,rfl,s,hb1,hu1⟩
  walk_at "sts"
  have ol:=sU (inv t) k
  have ul:=sV (inv t) k (by omega)
  refine Hd (fun σ H'=>∃ (p:Nat) (B u:List Nat) (x5:Option V),σ=[some (.ref a),some (.ref b),some (.ref ud),some (.int (1+(k:Int))),some (.int ((p:Int) - 1)),x5]∧Same H H'∧H' b=some (.lst ((nI B).map V.int))∧H' ud=some (.lst ((nI u).map V.int))∧p≤k+1∧B.length=t.length∧u.length+p≤96*k+k+1∧inn p B u=rK (inv t) (k+1)) mu4
   ⟨k+1,_,_,x5,by rw [show (((k+1:Nat):Int) - 1)=1+(k:Int) - 1 by omega];rfl,s,hb1,hu1,Nat.le_refl _,by omega,by omega,rfl⟩ ?_ ?_
  ·rintro σ H' ⟨p,B,u,x5,rfl,s,hb2,hu2,hp,hB,hul,hin⟩
   walk_at "sts"
   cases p with
   | zero=>
    rw [decide_eq_false (by omega)]
    walk_at "sts"
    exact ⟨_,_,_,rfl,s,by rw [← hin];exact hb2,by rw [← hin];exact hu2⟩
   | succ p=>
    rw [show (((p+1:Nat):Int) - 1)=(p:Int) by omega,decide_eq_true (show (0:Int)≤(p:Int) by omega)]
    walk_at "sts"
    refine cu (SqL.of hb2) (sI (k:=p) (by omega) rfl) ?_
    walk_at "sts"
    refine cu (SqL.of hb2) (sI (k:=p+1) (by omega) (by omega)) ?_
    walk_at "sts"
    refine Et (fun hc=>?_) (fun hc=>?_)
    ·have hin2:inn p (uY B p) (u ++ [p])=rK (inv t) (k+1):=by
      rw [← hin]
      conv=>rhs;unfold inn
      rw [if_pos (by omega)]
     walk_at "sts"
     refine cu (SqL.of hb2) (sI (k:=p) (by omega) rfl) ?_
     walk_at "sts"
     refine cu (SqL.of hb2) (sI (k:=p+1) (by omega) (by omega)) ?_
     walk_at "sts"
     refine nq hb2 (uK (p:=p) rfl (by rw [bV];omega)) ?_
     walk_at "sts"
     rw [pY]
     refine nq aj (uK (p:=p+1) (by omega) (by rw [bV];simp;omega)) ?_
     walk_at "sts"
     rw [pY]
     have s3:Same H (upd (upd H' b (.lst ((nI (B.set p (B.getD (p+1) 0))).map V.int))) b (.lst ((nI ((B.set p (B.getD (p+1) 0)).set (p+1) (B.getD p 0))).map V.int))):=Same.put (Same.put s nb) nb
     have hb3:upd (upd H' b (.lst ((nI (B.set p (B.getD (p+1) 0))).map V.int))) b (.lst ((nI ((B.set p (B.getD (p+1) 0)).set (p+1) (B.getD p 0))).map V.int)) b=some (.lst ((nI (uY B p)).map V.int)):=aj
     have hu3:upd (upd H' b (.lst ((nI (B.set p (B.getD (p+1) 0))).map V.int))) b (.lst ((nI ((B.set p (B.getD (p+1) 0)).set (p+1) (B.getD p 0))).map V.int)) ud=some (.lst ((nI u).map V.int)):=by rw [aB (Ne.symm bu),aB (Ne.symm bu)];exact hu2
     generalize upd (upd H' b (.lst ((nI (B.set p (B.getD (p+1) 0))).map V.int))) b (.lst ((nI ((B.set p (B.getD (p+1) 0)).set (p+1) (B.getD p 0))).map V.int))=H3 at s3 hb3 hu3 ⊢
     refine ⟨.inl ⟨rfl,_,SqL.of hu3⟩,?_⟩
     walk_at "sts"
     refine qH hu3 (by rw [bV];omega) ?_
     walk_at "sts"
     rw [tW]
     refine ⟨⟨p,uY B p,u ++ [p],_,rfl,Same.put s3 nud0,by rw [aB bu];exact hb3,aj,by omega,by rw [nH];exact hB,by simp;omega,hin2⟩,?_⟩
     show ((p:Int) - 1+1).toNat < ((p:Int)+1).toNat
     omega
    ·have hin2:(B,u)=rK (inv t) (k+1):=by
      rw [← hin]
      conv=>rhs;unfold inn
      rw [if_neg (by omega)]
     walk_at "sts"
     exact ⟨_,_,_,rfl,s,by rw [← hin2];exact hb2,by rw [← hin2];exact hu2⟩
  ·exact Ui (Dq (zJ (QZ _) (uM _) (Xl _))) (Dq (zJ (QZ _) (zJ Q0 (uM _) (uM _)) (zJ Q0 (uM _) (zJ OD (uM _) (Xl _)))))
 ·rintro σ H' ⟨x3,x4,x5,rfl,s,hb1,hu1⟩
  walk_at "sts"
  refine ⟨_,rfl,_,_,rfl,SqL.of hu1,fun r nr=>?_⟩
  refine q r _ (Same.back s nr) (s.upd nr) ?_
  rw [aj]
  unfold nI FJ
  rw [List.map_reverse,List.map_reverse]
def OJ (K:PySem.W.Frag):Sp:=fun vs H Q _=>∃ a b x y,vs=[.ref a,.ref b]∧H a=some (.lst ((nI x).map V.int))∧H b=some (.lst ((nI y).map V.int))∧Prm x∧Prm y∧x.length=y.length∧∀ H',Same H H'→Q .non H'
theorem vf:aC ["one","other"] ["one","other"] (aq gJ):=⟨rfl,rfl,rfl,by decide+kernel,rfl,by decide+kernel,by decide+kernel⟩
theorem nP (T:Txt K mg):Has P w K mg base 5 "need_alike" ["one","other"] (OJ K):=by
 have eO:=eO (P:=P) (w:=w) (base:=base) T
 refine gr T.d_need_alike vf (fun _ _ _ _ _ _ us hl=>L2.ou (fun _ _=>rfl) us hl) ?_ fun f cdv A outer s H vs Q E hr h=>?_
 ·rintro vs H Q E ⟨a,b,x,y,rfl,_⟩;rfl
 obtain ⟨a,b,x,y,rfl,ha,hb,px,py,he,q⟩:=h
 have hu:=hr.units0
 have hu64:=hr.units
 refine ⟨_,(az (bD (aF eO (hr.mono (by decide)) (aU Xh) (aa (ao 0 Xf) ak) (by decide+kernel))) (az (bD (aF eO (hr.mono (by decide)) (aU Xh) (aa (ao 1 Xg) ak) (by decide+kernel))) (aA (cP (bR (xf (K:=K) rfl hu64) (aG (aJ (K:=K) rfl) (aU Xe) T.b_len bC (aa (ao 0 Xf) ak) (by decide+kernel) (by decide+kernel)) (aG (aJ (K:=K) rfl) (aU Xe) T.b_len bC (aa (ao 1 Xg) ak) (by decide+kernel) (by decide+kernel)) (by first | exact aV _ | with_unfolding_all rfl)) (aA kE) bB)))),?_⟩
 walk_at "sts"
 refine ⟨a,x,rfl,.inl ha,px,fun H1 S1=>?_⟩
 walk_at "sts"
 refine ⟨b,y,rfl,.inl (S1 _ _ hb),py,fun H2 S2=>?_⟩
 walk_at "sts"
 have U2:=S1.trans S2
 refine gU (SqL.of (U2 _ _ ha)) ?_
 walk_at "sts"
 refine gU (SqL.of (U2 _ _ hb)) ?_
 walk_at "sts"
 rw [bV,bV,zE,decide_eq_true (show (x.length:Int)=(y.length:Int) by omega)]
 walk_at "sts"
 exact q _ U2
def Uj (K:PySem.W.Frag):Sp:=fun vs H Q _=>∃ a b x y n,vs=[.ref a,.ref b]∧H a=some (.lst ((nI x).map V.int))∧H b=some (.lst ((nI y).map V.int))∧Two n x y∧∀ q H',H q=none→Same H H'→H' q=some (.lst ((nI (lay x y)).map V.int))→Q (.ref q) H'
theorem Ds:aC ["one","other","begins"] ["one","other"] (aq mF):=⟨rfl,rfl,rfl,by decide+kernel,rfl,by decide+kernel,by decide+kernel⟩
theorem rO (T:Txt K mg):Has P w K mg base 7 "laid" ["one","other"] (Uj K):=by
 have nP:=nP (P:=P) (w:=w) (base:=base) T
 have ji:=ji (P:=P) (w:=w) (base:=base) T
 have pZ:=pZ (P:=P) (w:=w) (base:=base) T
 have p8:=p8 (P:=P) (w:=w) (base:=base) T
 refine gr T.d_laid Ds (fun _ _ _ _ _ _ us hl=>L2.ou (fun _ _=>rfl) us hl) ?_ fun f cdv A outer s H vs Q E hr h=>?_
 ·rintro vs H Q E ⟨a,b,x,y,n,rfl,_⟩;rfl
 obtain ⟨a,b,x,y,n,rfl,ha,hb,h2,q⟩:=h
 have hu:=hr.units0
 have hu64:=hr.units
 refine ⟨_,(az (bD (aF nP (hr.mono (by decide)) (aU kz1s) (aa (ao 0 Xk) (aa (ao 1 Xj) ak)) (by decide+kernel))) (az (aP (i:=2) Ds.nd rfl (Or.inl Uh) (aF ji (hr.mono (by decide)) (aU Xi) (aa (ao 0 Xk) ak) (by decide+kernel)) rfl) (az (bD (aF pZ (hr.mono (by decide)) (aU kz1o) (aa (ao 2 Uh) (aa (aF p8 (hr.mono (by decide)) (aU kz1p) (aa (ao 1 Xj) ak) (by decide+kernel)) ak)) (by decide+kernel))) (aA (aK (aF ji (hr.mono (by decide)) (aU Xi) (aa (ao 2 Uh) ak) (by decide+kernel))))))),?_⟩
 walk_at "sts"
 have cl:=WT h2.py.le
 refine ⟨a,b,x,y,rfl,ha,hb,h2.px,h2.py,by rw [h2.lx,h2.ly],fun H1 S1=>?_⟩
 walk_at "sts"
 refine ⟨a,x,rfl,S1 _ _ ha,h2.px,fun bg H2 nb S2 hb2=>?_⟩
 walk_at "sts"
 refine ⟨b,y,rfl,(S1.trans S2) _ _ hb,h2.py,fun st H3 nst S3 hst=>?_⟩
 walk_at "sts"
 have nb0:=Same.back S1 nb
 have hne:bg≠st:=fun z=>by rw [z] at hb2;rw [hb2] at nst;cases nst
 refine ⟨bg,st,inv x,(FJ y).reverse,rfl,S3 _ _ hb2,hst,hne,(fun p hp=>by rw [bO,h2.lx];exact h2.lt p hp),(by rw [Ol h2.py];exact cl),fun wk H4 nwk C4 hb4 hw4=>?_⟩
 walk_at "sts"
 have S4:Same H H4:=fun c o e=>C4 c o (fun z=>by rw [z,nb0] at e;cases e) (S3 _ _ (S2 _ _ (S1 _ _ e)))
 refine ⟨bg,_,rfl,hb4,h2.run.1,fun r H5 nr S5 hr=>?_⟩
 exact q r H5 (Same.back S4 nr) (S4.trans S5) hr
end
local macro_rules | `(tactic| walk_at "sts") => `(tactic| (with_reducible repeat (first | refine jL ?_ | refine jA ?_ | refine jy ?_ | refine gk ?_ | refine gn ?_ | (refine' fZ ?hz0 ?_; (case hz0 => with_unfolding_all rfl)) | refine qR ?_ | refine jQ ?_ | refine dm ?_ | refine cX ?_ | refine f9 ?_ | refine lH ?_ | refine fP ?_ | refine cR ?_ | refine fU ?_ | refine cQ ?_ | refine jH ?_ | refine cU ?_ | refine jR ?_ | refine jN ?_ | refine cY ?_ | refine jJ ?_ | refine fV ?_ | refine fW ?_ | refine jK ?_ | refine cV ?_ | refine fX ?_ | refine cW ?_ | refine fY ?_ | refine fQ ?_ | refine cT ?_ | refine jM ?_ | refine vW ?_ | refine vX ?_ | refine jO ?_ | refine jP ?_ | refine gb ?_ | refine cZ ?_ | refine c7 ?_ | refine dg ?_ | refine dh ?_ | refine di ?_ | refine dj ?_ | refine gf ?_ | refine qU ?_ | refine bF ?_ | refine dz ?_ | (refine' b7 (SqT.of ?hz0) ?hz1 ?_; (case hz0 => first | assumption | exact aj); (case hz1 => rfl)) | refine bH ?_ | refine dB ?_ | refine dD ?_ | refine cI ?_ | refine cJ ?_ | refine cL ?_ | refine cM ?_ | refine jT ?_ | refine cC ?_ | refine cF ?_ | refine cG ?_ | refine cH ?_ | refine bG ?_ | refine gj ?_ | refine dw ?_ | (refine' qT ?hz0 ?_; (case hz0 => with_unfolding_all first | assumption | omega | (dsimp only <;> omega) | exact ⟨by omega, by omega⟩ | exact .inl ⟨by omega, by omega⟩ | exact .inr ⟨by omega, by omega⟩ | exact ⟨by decide, by decide, by decide⟩)) | (refine' dq ?hz0 ?_; (case hz0 => with_unfolding_all first | assumption | omega | (dsimp only <;> omega) | exact ⟨by omega, by omega⟩ | exact .inl ⟨by omega, by omega⟩ | exact .inr ⟨by omega, by omega⟩ | exact ⟨by decide, by decide, by decide⟩)) | (refine' cu (SqL.of ?hz0) ?hz1 ?_; (case hz0 => first | assumption | exact aj); (case hz1 => with_unfolding_all rfl)) | (refine' cB ?hz0 ?hz1 ?_; (case hz0 => first | assumption | exact aj); (case hz1 => with_unfolding_all rfl)) | refine bI ?_ | refine gq ?_ | refine dF ?_ | refine bJ ?_ | refine dG ?_ | refine bK ?_)))
local macro_rules | `(tactic| walk_at "stn") => `(tactic| (with_reducible repeat (first | refine jL ?_ | refine jA ?_ | refine jy ?_ | refine gk ?_ | refine gn ?_ | (refine' fZ ?hz0 ?_; (case hz0 => with_unfolding_all rfl)) | refine qR ?_ | refine jQ ?_ | refine dm ?_ | refine cX ?_ | refine f9 ?_ | refine fP ?_ | refine cR ?_ | refine fU ?_ | refine cQ ?_ | refine jH ?_ | refine cU ?_ | refine jR ?_ | refine jN ?_ | refine cY ?_ | refine jJ ?_ | refine fV ?_ | refine fW ?_ | refine jK ?_ | refine cV ?_ | refine fX ?_ | refine cW ?_ | refine fY ?_ | refine fQ ?_ | refine cT ?_ | refine jM ?_ | refine vW ?_ | refine vX ?_ | refine jO ?_ | refine jP ?_ | refine gb ?_ | refine cZ ?_ | refine c7 ?_ | refine dg ?_ | refine dh ?_ | refine di ?_ | refine dj ?_ | refine gf ?_ | refine qU ?_ | refine bF ?_ | refine dz ?_ | (refine' b7 (SqT.of ?hz0) ?hz1 ?_; (case hz0 => first | assumption | exact aj); (case hz1 => rfl)) | refine bH ?_ | refine dB ?_ | refine dD ?_ | refine cI ?_ | refine cJ ?_ | refine cL ?_ | refine cM ?_ | refine jT ?_ | refine cC ?_ | refine cF ?_ | refine cG ?_ | refine cH ?_ | refine bG ?_ | refine gj ?_ | refine dw ?_ | (refine' qT ?hz0 ?_; (case hz0 => with_unfolding_all first | assumption | omega | (dsimp only <;> omega) | exact ⟨by omega, by omega⟩ | exact .inl ⟨by omega, by omega⟩ | exact .inr ⟨by omega, by omega⟩ | exact ⟨by decide, by decide, by decide⟩)) | (refine' dq ?hz0 ?_; (case hz0 => with_unfolding_all first | assumption | omega | (dsimp only <;> omega) | exact ⟨by omega, by omega⟩ | exact .inl ⟨by omega, by omega⟩ | exact .inr ⟨by omega, by omega⟩ | exact ⟨by decide, by decide, by decide⟩)) | (refine' cu (SqL.of ?hz0) ?hz1 ?_; (case hz0 => first | assumption | exact aj); (case hz1 => with_unfolding_all rfl)) | (refine' cB ?hz0 ?hz1 ?_; (case hz0 => first | assumption | exact aj); (case hz1 => with_unfolding_all rfl)) | refine bI ?_ | refine gq ?_ | refine dF ?_ | refine bJ ?_ | refine dG ?_ | refine bK ?_)))
section
variable {P:Program} {w:World} {K:PySem.W.Frag} {mg:Str→Option Value} {base:Heap}
theorem zK:(["sign"]:List Str).Nodup:=by decide+kernel
theorem Uk:bz gD "thing":=by decide+kernel
theorem kz1u:bM gD "LETTERS":=by decide+kernel
theorem kz1v:bM gD "len":=by decide+kernel
theorem kz1w:bM gD "isinstance":=by decide+kernel
theorem kz1x:bM gD "str":=by decide+kernel
theorem Xm:bz lB "thing":=by decide+kernel
theorem kz1z:bM lB "POINT":=by decide+kernel
theorem kz20:bM lB "is_letter":=by decide+kernel
theorem kz21:bM kJ "is_sign":=by decide+kernel
theorem kz22:bz kJ "thing":=by decide+kernel
theorem kz23:bM iU "all":=by decide+kernel
theorem Ul:bz iU "thing":=by decide+kernel
theorem kz25:bM iU "len":=by decide+kernel
theorem kz26:bM iU "MOST_SIGNS":=by decide+kernel
theorem kz27:bM iU "isinstance":=by decide+kernel
theorem kz28:bM iU "str":=by decide+kernel
theorem kz29:bM lN "is_row":=by decide+kernel
theorem kz2a:bz lN "thing":=by decide+kernel
theorem Xn:bM jo "need_row":=by decide+kernel
theorem kz2c:bz jo "top":=by decide+kernel
theorem kz2d:bz jo "side":=by decide+kernel
def zL:Str:=Str.ofString "abcdefghijklmnopqrstuvwxyz"
def GOOD:List Nat:=(zL ++ Str.ofString ".").cps.toList
def Row (z:Str):Prop:=z.length≤48∧∀ c∈z.cps.toList,c∈GOOD
def Bw (l:Str) (c:Nat):Bool:=(Builtin.Str.occurrences l ⟨#[c]⟩ 0 l.length 1).isEmpty
theorem O1:∀ c∈GOOD,Bw (zL ++ Str.ofString ".") c=false:=by decide+kernel
def O2:Sp:=fun vs H Q _=>∃ z:Str,vs=[.str z]∧Row z∧∀ H',Same H H'→Q (.bl true) H'
def Um:Sp:=fun vs H Q _=>∃ z:Str,vs=[.str z]∧Row z∧∀ H',Same H H'→Q .non H'
def O3:Sp:=fun vs H Q _=>∃ z y:Str,vs=[.str z,.str y]∧Row z∧Row y∧∀ H',Same H H'→Q .non H'
theorem FZ:aC ["thing"] ["thing"] (aq iU):=⟨rfl,rfl,rfl,by decide+kernel,rfl,by decide+kernel,by decide+kernel⟩
theorem uN (T:Txt K mg):Has P w K mg base 1 "is_row" ["thing"] O2:=by
 refine gr T.d_is_row FZ (fun _ _ _ _ _ _ us hl=>L2.jU (fun _=>rfl) us hl) ?_ fun f cdv A outer s H vs Q E hr h=>?_
 ·rintro vs H Q E ⟨p,rfl,_⟩;rfl
 obtain ⟨z,rfl,⟨hz,hg⟩,q⟩:=h
 have hu:=hr.units0
 have hu64:=hr.units
 refine ⟨_,(az (cP (km (lJ (dY (dZ (aG (jn (K:=K) rfl) (aU kz27) T.b_isinstance bj (aa (ao 0 Ul) (aa (u5 (aU kz28) T.b_str Ik (by decide+kernel) (by decide+kernel)) ak)) (by decide+kernel) (by decide+kernel)))) (je (bR t7 (aG (aJ (K:=K) rfl) (aU kz25) T.b_len bC (aa (ao 0 Ul) ak) (by decide+kernel) (by decide+kernel)) (wZ (aU kz26) T.c_MOST_SIGNS (by decide+kernel)) (by first | exact aV _ | with_unfolding_all rfl))))) (aA (aK m6)) bB) (aA (aK (aG (HR rfl) (aU kz23) T.b_all SJ (aa (lK (sub:=[none]) (gO (N:=["thing"]) (sc:=aq iU) (N':=["sign"]) (by decide+kernel)) rfl rfl rfl (jf (K:=K) rfl (ao 0 Ul)) (fun C s₀ H₀ ex=>(tD 0 (by decide+kernel) zK)) (fun C s₀ H₀ ex=>jB) (fun C s₀ H₀ ex=>(mL (Az (K:=K) rfl) (mK 0 (by decide+kernel)) (bN aW (wY (Wf (by decide+kernel)) T.c_LETTERS (by decide+kernel)) (wY (Wf (by decide+kernel)) T.c_POINT (by decide+kernel))) (by first | exact aV _ | with_unfolding_all rfl)))) ak) (by decide+kernel) (by decide+kernel))))),?_⟩
 walk_at "sts"
 have hz1:z.length≤sizeLine:=Nat.le_trans hz (by decide)
 refine oG (.str z) rfl ?_
 walk_at "sts"
 try with_reducible refine jy ?_
 walk_at "sts"
 refine gG hz1 ?_
 walk_at "sts"
 refine Et (fun h1=>?_) (fun h1=>?_)
 ·omega
 walk_at "sts"
 refine .inr (.inr ⟨z,rfl,?_⟩)
 refine yR (fun i us H'=>H'=H∧us=((z.cps.toList.take i).map fun c=>!Bw (zL ++ Str.ofString ".") c).map V.bl) hz1 ⟨rfl,rfl⟩ ?_ ?_ ?_
 ·rintro i us H' ⟨rfl,rfl⟩
  simp;omega
 ·rintro i us H' c hc ⟨rfl,rfl⟩
  walk_at "sts"
  refine ⟨KeepSt.set rfl,?_⟩
  walk_at "sts"
  try with_reducible refine jA ?_
  walk_at "sts"
  refine Bb (Nat.le_trans (show (Str.ofString "abcdefghijklmnopqrstuvwxyz").length+(Str.ofString ".").length≤1000 by decide+kernel) (by decide)) ?_
  walk_at "sts"
  refine ⟨rfl,?_⟩
  rw [List.take_add_one,hc]
  simp [zL,Bw]
 ·rintro us H' ⟨rfl,rfl⟩ D hD
  walk_at "sts"
  refine ⟨D,_,rfl,aj,?_⟩
  have e2:(List.map (fun c=>!Bw (zL ++ Str.ofString ".") c) (z.cps.toList.take z.cps.size)).all id=true:=by
   rw [List.all_map,List.all_eq_true]
   intro c hc
   have:=O1 c (hg c (List.mem_of_mem_take hc))
   simp [this]
  rw [e2]
  exact q _ ((Same.refl H').upd hD)
theorem zM:aC ["thing"] ["thing"] (aq lN):=⟨rfl,rfl,rfl,by decide+kernel,rfl,by decide+kernel,by decide+kernel⟩
theorem jj (T:Txt K mg):Has P w K mg base 2 "need_row" ["thing"] Um:=by
 have uN:=uN (P:=P) (w:=w) (base:=base) T
 refine gr T.d_need_row zM (fun _ _ _ _ _ _ us hl=>L2.jU (fun _=>rfl) us hl) ?_ fun f cdv A outer s H vs Q E hr h=>?_
 ·rintro vs H Q E ⟨p,rfl,_⟩;rfl
 obtain ⟨z,rfl,hz,q⟩:=h
 refine ⟨_,(aA (cP (dY (dZ (aF uN (hr.mono (by decide)) (aU kz29) (aa (ao 0 kz2a) ak) (by decide+kernel)))) (aA kE) bB)),?_⟩
 walk_at "sts"
 refine ⟨z,rfl,hz,fun H1 S1=>?_⟩
 walk_at "sts"
 try with_reducible refine jy ?_
 walk_at "sts"
 exact q _ S1
theorem xR:aC ["side","top"] ["side","top"] (aq jo):=⟨rfl,rfl,rfl,by decide+kernel,rfl,by decide+kernel,by decide+kernel⟩
theorem jt (T:Txt K mg):Has P w K mg base 3 "need_rows" ["side","top"] O3:=by
 have jj:=jj (P:=P) (w:=w) (base:=base) T
 refine gr T.d_need_rows xR (fun _ _ _ _ _ _ us hl=>L2.ou (fun _ _=>rfl) us hl) ?_ fun f cdv A outer s H vs Q E hr h=>?_
 ·rintro vs H Q E ⟨p,y,rfl,_⟩;rfl
 obtain ⟨z,y,rfl,hz,hy,q⟩:=h
 refine ⟨_,(az (bD (aF jj (hr.mono (by decide)) (aU Xn) (aa (ao 0 kz2d) ak) (by decide+kernel))) (aA (bD (aF jj (hr.mono (by decide)) (aU Xn) (aa (ao 1 kz2c) ak) (by decide+kernel))))),?_⟩
 walk_at "sts"
 refine ⟨z,rfl,hz,fun H1 S1=>?_⟩
 walk_at "sts"
 refine ⟨y,rfl,hy,fun H2 S2=>?_⟩
 exact q _ (S1.trans S2)
def Ga:Sp:=fun vs H Q _=>∃ c:Nat,vs=[.str ⟨#[c]⟩]∧Q (.bl (!Bw zL c)) H
theorem Ka:∀ c∈GOOD,Bw zL c=true→c=46:=by decide+kernel
theorem xT:aC ["thing"] ["thing"] (aq gD):=⟨rfl,rfl,rfl,by decide+kernel,rfl,by decide+kernel,by decide+kernel⟩
theorem oV (T:Txt K mg):Has P w K mg base 1 "is_letter" ["thing"] Ga:=by
 refine gr T.d_is_letter xT (fun _ _ _ _ _ _ us hl=>L2.jU (fun _=>rfl) us hl) ?_ fun f cdv A outer s H vs Q E hr h=>?_
 ·rintro vs H Q E ⟨c,rfl,_⟩;rfl
 obtain ⟨c,rfl,q⟩:=h
 have hu:=hr.units0
 have hu64:=hr.units
 refine ⟨_,(aA (aK (sr (aG (jn (K:=K) rfl) (aU kz1w) T.b_isinstance bj (aa (ao 0 Uk) (aa (u5 (aU kz1x) T.b_str Ik (by decide+kernel) (by decide+kernel)) ak)) (by decide+kernel) (by decide+kernel)) (sr (mL (jW (K:=K) rfl hu64) (aG (aJ (K:=K) rfl) (aU kz1v) T.b_len bC (aa (ao 0 Uk) ak) (by decide+kernel) (by decide+kernel)) aH (by first | exact aV _ | with_unfolding_all rfl)) (rZ (mL (Az (K:=K) rfl) (ao 0 Uk) (wY (aU kz1u) T.c_LETTERS (by decide+kernel)) (by first | exact aV _ | with_unfolding_all rfl))))))),?_⟩
 walk_at "sts"
 refine oG (.str _) rfl ?_
 walk_at "sts"
 refine gG (by rw [MK];decide) ?_
 walk_at "sts"
 rw [MK,show decide (V.int ((1:Nat):Int)=V.int 1)=true from rfl]
 walk_at "sts"
 exact q
def O4:Sp:=fun vs H Q _=>∃ c:Nat,vs=[.str ⟨#[c]⟩]∧c∈GOOD∧Q (.bl true) H
theorem Bx:aC ["thing"] ["thing"] (aq lB):=⟨rfl,rfl,rfl,by decide+kernel,rfl,by decide+kernel,by decide+kernel⟩
theorem rP (T:Txt K mg):Has P w K mg base 2 "is_sign" ["thing"] O4:=by
 have oV:=oV (P:=P) (w:=w) (base:=base) T
 refine gr T.d_is_sign Bx (fun _ _ _ _ _ _ us hl=>L2.jU (fun _=>rfl) us hl) ?_ fun f cdv A outer s H vs Q E hr h=>?_
 ·rintro vs H Q E ⟨c,rfl,_⟩;rfl
 obtain ⟨c,rfl,hc,q⟩:=h
 have hu:=hr.units0
 have hu64:=hr.units
 refine ⟨_,(aA (aK (j_or (aF oV (hr.mono (by decide)) (aU kz20) (aa (ao 0 Xm) ak) (by decide+kernel)) (rZ (mL (jW (K:=K) rfl hu64) (ao 0 Xm) (wY (aU kz1z) T.c_POINT (by decide+kernel)) (by first | exact aV _ | with_unfolding_all rfl)))))),?_⟩
 walk_at "sts"
 refine ⟨c,rfl,?_⟩
 walk_at "sts"
 cases hb:Bw zL c with
 | false=>
  show if true=true then _ else _
  walk_at "sts"
  exact q
 | true=>
  obtain rfl:=Ka c hc hb
  show if false=true then _ else _
  walk_at "sts"
  rw [show decide (V.str ⟨#[46]⟩=V.str (Str.ofString "."))=true by decide+kernel]
  exact q
def By:Sp:=fun vs H Q _=>∃ c:Nat,vs=[.str ⟨#[c]⟩]∧c∈GOOD∧Q .non H
theorem xU:aC ["thing"] ["thing"] (aq kJ):=⟨rfl,rfl,rfl,by decide+kernel,rfl,by decide+kernel,by decide+kernel⟩
theorem iB (T:Txt K mg):Has P w K mg base 3 "need_sign" ["thing"] By:=by
 have rP:=rP (P:=P) (w:=w) (base:=base) T
 refine gr T.d_need_sign xU (fun _ _ _ _ _ _ us hl=>L2.jU (fun _=>rfl) us hl) ?_ fun f cdv A outer s H vs Q E hr h=>?_
 ·rintro vs H Q E ⟨c,rfl,_⟩;rfl
 obtain ⟨c,rfl,hc,q⟩:=h
 have hu:=hr.units0
 have hu64:=hr.units
 refine ⟨_,(aA (cP (dY (dZ (aF rP (hr.mono (by decide)) (aU kz21) (aa (ao 0 kz22) ak) (by decide+kernel)))) (aA kE) bB)),?_⟩
 walk_at "sts"
 refine ⟨c,rfl,hc,?_⟩
 walk_at "sts"
 walk_at "sts"
 exact q
end
local macro_rules | `(tactic| walk_at "sts") => `(tactic| (with_reducible repeat (first | refine jL ?_ | refine jA ?_ | refine jy ?_ | refine gk ?_ | refine gn ?_ | (refine' fZ ?hz0 ?_; (case hz0 => with_unfolding_all rfl)) | refine qR ?_ | refine jQ ?_ | refine dm ?_ | refine cX ?_ | refine f9 ?_ | refine lH ?_ | refine fP ?_ | refine cR ?_ | refine fU ?_ | refine cQ ?_ | refine jH ?_ | refine cU ?_ | refine jR ?_ | refine jN ?_ | refine cY ?_ | refine jJ ?_ | refine fV ?_ | refine fW ?_ | refine jK ?_ | refine cV ?_ | refine fX ?_ | refine cW ?_ | refine fY ?_ | refine fQ ?_ | refine cT ?_ | refine jM ?_ | refine eY ?_ | refine eV ?_ | refine jO ?_ | refine jP ?_ | refine gb ?_ | refine cZ ?_ | refine c7 ?_ | refine dg ?_ | refine dh ?_ | refine di ?_ | refine dj ?_ | refine gf ?_ | refine qU ?_ | refine bF ?_ | refine dz ?_ | (refine' b7 (SqT.of ?hz0) ?hz1 ?_; (case hz0 => first | assumption | exact aj); (case hz1 => rfl)) | refine bH ?_ | refine dB ?_ | refine dD ?_ | refine cI ?_ | refine cJ ?_ | refine cL ?_ | refine cM ?_ | refine jT ?_ | refine cC ?_ | refine cF ?_ | refine cG ?_ | refine cH ?_ | refine bG ?_ | refine gj ?_ | refine dw ?_ | (refine' qT ?hz0 ?_; (case hz0 => with_unfolding_all first | assumption | omega | (dsimp only <;> omega) | exact ⟨by omega, by omega⟩ | exact .inl ⟨by omega, by omega⟩ | exact .inr ⟨by omega, by omega⟩ | exact ⟨by decide, by decide, by decide⟩)) | (refine' dq ?hz0 ?_; (case hz0 => with_unfolding_all first | assumption | omega | (dsimp only <;> omega) | exact ⟨by omega, by omega⟩ | exact .inl ⟨by omega, by omega⟩ | exact .inr ⟨by omega, by omega⟩ | exact ⟨by decide, by decide, by decide⟩)) | (refine' cu (SqL.of ?hz0) ?hz1 ?_; (case hz0 => first | assumption | exact aj); (case hz1 => with_unfolding_all rfl)) | (refine' cB ?hz0 ?hz1 ?_; (case hz0 => first | assumption | exact aj); (case hz1 => with_unfolding_all rfl)) | refine bI ?_ | refine gq ?_ | refine dF ?_ | refine bJ ?_ | refine dG ?_ | refine bK ?_ | refine dO ?_)))
local macro_rules | `(tactic| walk_at "stn") => `(tactic| (with_reducible repeat (first | refine jL ?_ | refine jA ?_ | refine jy ?_ | refine gk ?_ | refine gn ?_ | (refine' fZ ?hz0 ?_; (case hz0 => with_unfolding_all rfl)) | refine qR ?_ | refine jQ ?_ | refine dm ?_ | refine cX ?_ | refine f9 ?_ | refine fP ?_ | refine cR ?_ | refine fU ?_ | refine cQ ?_ | refine jH ?_ | refine cU ?_ | refine jR ?_ | refine jN ?_ | refine cY ?_ | refine jJ ?_ | refine fV ?_ | refine fW ?_ | refine jK ?_ | refine cV ?_ | refine fX ?_ | refine cW ?_ | refine fY ?_ | refine fQ ?_ | refine cT ?_ | refine jM ?_ | refine eY ?_ | refine eV ?_ | refine jO ?_ | refine jP ?_ | refine gb ?_ | refine cZ ?_ | refine c7 ?_ | refine dg ?_ | refine dh ?_ | refine di ?_ | refine dj ?_ | refine gf ?_ | refine qU ?_ | refine bF ?_ | refine dz ?_ | (refine' b7 (SqT.of ?hz0) ?hz1 ?_; (case hz0 => first | assumption | exact aj); (case hz1 => rfl)) | refine bH ?_ | refine dB ?_ | refine dD ?_ | refine cI ?_ | refine cJ ?_ | refine cL ?_ | refine cM ?_ | refine jT ?_ | refine cC ?_ | refine cF ?_ | refine cG ?_ | refine cH ?_ | refine bG ?_ | refine gj ?_ | refine dw ?_ | (refine' qT ?hz0 ?_; (case hz0 => with_unfolding_all first | assumption | omega | (dsimp only <;> omega) | exact ⟨by omega, by omega⟩ | exact .inl ⟨by omega, by omega⟩ | exact .inr ⟨by omega, by omega⟩ | exact ⟨by decide, by decide, by decide⟩)) | (refine' dq ?hz0 ?_; (case hz0 => with_unfolding_all first | assumption | omega | (dsimp only <;> omega) | exact ⟨by omega, by omega⟩ | exact .inl ⟨by omega, by omega⟩ | exact .inr ⟨by omega, by omega⟩ | exact ⟨by decide, by decide, by decide⟩)) | (refine' cu (SqL.of ?hz0) ?hz1 ?_; (case hz0 => first | assumption | exact aj); (case hz1 => with_unfolding_all rfl)) | (refine' cB ?hz0 ?hz1 ?_; (case hz0 => first | assumption | exact aj); (case hz1 => with_unfolding_all rfl)) | refine bI ?_ | refine gq ?_ | refine dF ?_ | refine bJ ?_ | refine dG ?_ | refine bK ?_ | refine dO ?_)))
section
variable {P:Program} {w:World} {K:PySem.W.Frag} {mg:Str→Option Value} {base:Heap}
theorem kz2e:bz lr "self":=by decide+kernel
theorem kz2f:bz mj "self":=by decide+kernel
theorem kz2g:bz lu "self":=by decide+kernel
theorem kz2h:bz jD "self":=by decide+kernel
theorem kz2i:bM iW "list":=by decide+kernel
theorem kz2j:bz iW "self":=by decide+kernel
theorem kz2k:bM iY "list":=by decide+kernel
theorem kz2l:bz iY "self":=by decide+kernel
def Hx (p:Addr) (H:Hp):Hp:=fun b=>if b=p then none else H b
theorem O5 (p:Addr) (H:Hp):Same (Hx p H) H:=fun b o e=>by
 unfold Hx at e
 split at e
 ·cases e
 ·exact e
theorem uO {p b:Addr} {H:Hp} {o:HO} (h:H b=some o) (n:b≠p):Hx p H b=some o:=by unfold Hx;rw [if_neg n];exact h
theorem Uo {p:Addr} {H H':Hp} (c:Chg p H H'):Same (Hx p H) (Hx p H'):=fun b o e=>by
 unfold Hx at e ⊢
 split at e
 ·cases e
 ·rename_i h
  rw [if_neg h];exact c b o h e
theorem Xo {p:Addr} {H H':Hp} (c:Same H H'):Same (Hx p H) (Hx p H'):=Uo fun b o _ e=>c b o e
theorem Up {p:Addr} {H:Hp} {o:HO}:Hx p (upd H p o)=Hx p H:=by
 funext b
 unfold Hx
 by_cases h:b=p
 ·rw [if_pos h,if_pos h]
 ·rw [if_neg h,if_neg h,aB h]
def Gw:List Str:=["Blank","One","Over","Beside"]
def pcF (side top kind:Str) (al ap:Addr) (h:Nat):List (Str×V):=[("held_side",.str side),("held_top",.str top),("held_kind",.str kind),("held_lines",.ref al),("held_parts",.ref ap),("held_height",.int (h:Int))]
def Pc (mg:Str→Option Value) (H:Hp) (x:Addr) (y side top kind:Str) (L:List Nat) (ps:List V) (h:Nat):Prop:=y∈Gw∧∃ dx al ap,H x=some (.ins (aD mg y) dx (pcF side top kind al ap h))∧H al=some (.lst ((nI L).map V.int))∧H ap=some (.lst ps)
theorem Pc.same {H H':Hp} {x:Addr} {y side top kind:Str} {L:List Nat} {ps:List V} {h:Nat} (p:Pc mg H x y side top kind L ps h) (s:Same H H'):Pc mg H' x y side top kind L ps h:=by
 obtain ⟨hy,dx,al,ap,a,b,c⟩:=p
 exact ⟨hy,dx,al,ap,s _ _ a,s _ _ b,s _ _ c⟩
theorem Uq (T:Txt K mg) {y:Str} (hy:y∈Gw):∀ f∈(["held_side","held_top","held_kind","held_lines","held_parts","held_height"]:List Str),NoAttr K (aD mg y) f:=by
 unfold Gw at hy
 simp only [List.mem_cons,List.mem_nil_iff,or_false] at hy
 rcases hy with rfl | rfl | rfl | rfl
 ·exact T.n_Blank
 ·exact T.n_One
 ·exact T.n_Over
 ·exact T.n_Beside
def O6 (mg:Str→Option Value):Sp:=fun vs H Q _=>∃ x y side top kind L ps h,vs=[.ref x]∧Pc mg H x y side top kind L ps h∧Q (.str side) H
theorem vg:aC ["self"] ["self"] (aq lr):=⟨rfl,rfl,rfl,by decide+kernel,rfl,by decide+kernel,by decide+kernel⟩
theorem bQ (T:Txt K mg):zp P w K mg base 1 ["Blank","One","Over","Beside"] "side" ["self"] (O6 mg):=by
 refine Fw T.m_Piece_side vg (fun _ _ _ _ _ _ us hl=>L2.jU (fun _=>rfl) us hl) ?_ fun f cdv A outer s H vs Q E hr h=>?_
 ·rintro vs H Q E ⟨x,y,side,top,kind,L,ps,h,rfl,_⟩;rfl
 obtain ⟨x,y,side,top,kind,L,ps,h,rfl,⟨hy,dx,al,ap,hx,_,_⟩,q⟩:=h
 have hu:=hr.units0
 have hu64:=hr.units
 refine ⟨_,(aA (aK (v6 (K:=K) rfl (ao 0 kz2e)))),?_⟩
 walk_at "sts"
 refine ⟨x,_,dx,_,_,rfl,hx,T.os_Piece y hy,Uq T hy _ (by simp),rfl,?_⟩
 walk_at "sts"
 exact q
def Ur (mg:Str→Option Value):Sp:=fun vs H Q _=>∃ x y side top kind L ps h,vs=[.ref x]∧Pc mg H x y side top kind L ps h∧Q (.str top) H
theorem xV:aC ["self"] ["self"] (aq mj):=⟨rfl,rfl,rfl,by decide+kernel,rfl,by decide+kernel,by decide+kernel⟩
theorem b8 (T:Txt K mg):zp P w K mg base 1 ["Blank","One","Over","Beside"] "top" ["self"] (Ur mg):=by
 refine Fw T.m_Piece_top xV (fun _ _ _ _ _ _ us hl=>L2.jU (fun _=>rfl) us hl) ?_ fun f cdv A outer s H vs Q E hr h=>?_
 ·rintro vs H Q E ⟨x,y,side,top,kind,L,ps,h,rfl,_⟩;rfl
 obtain ⟨x,y,side,top,kind,L,ps,h,rfl,⟨hy,dx,al,ap,hx,_,_⟩,q⟩:=h
 have hu:=hr.units0
 have hu64:=hr.units
 refine ⟨_,(aA (aK (v6 (K:=K) rfl (ao 0 kz2f)))),?_⟩
 walk_at "sts"
 refine ⟨x,_,dx,_,_,rfl,hx,T.os_Piece y hy,Uq T hy _ (by simp),rfl,?_⟩
 walk_at "sts"
 exact q
def O7 (mg:Str→Option Value):Sp:=fun vs H Q _=>∃ x y side top kind L ps h,vs=[.ref x]∧Pc mg H x y side top kind L ps h∧Q (.str kind) H
theorem vh:aC ["self"] ["self"] (aq lu):=⟨rfl,rfl,rfl,by decide+kernel,rfl,by decide+kernel,by decide+kernel⟩
theorem dM (T:Txt K mg):zp P w K mg base 1 ["Blank","One","Over","Beside"] "kind" ["self"] (O7 mg):=by
 refine Fw T.m_Piece_kind vh (fun _ _ _ _ _ _ us hl=>L2.jU (fun _=>rfl) us hl) ?_ fun f cdv A outer s H vs Q E hr h=>?_
 ·rintro vs H Q E ⟨x,y,side,top,kind,L,ps,h,rfl,_⟩;rfl
 obtain ⟨x,y,side,top,kind,L,ps,h,rfl,⟨hy,dx,al,ap,hx,_,_⟩,q⟩:=h
 have hu:=hr.units0
 have hu64:=hr.units
 refine ⟨_,(aA (aK (v6 (K:=K) rfl (ao 0 kz2g)))),?_⟩
 walk_at "sts"
 refine ⟨x,_,dx,_,_,rfl,hx,T.os_Piece y hy,Uq T hy _ (by simp),rfl,?_⟩
 walk_at "sts"
 exact q
def Gb (mg:Str→Option Value):Sp:=fun vs H Q _=>∃ x y side top kind L ps h,vs=[.ref x]∧Pc mg H x y side top kind L ps h∧Q (.int (h:Int)) H
theorem tK:aC ["self"] ["self"] (aq jD):=⟨rfl,rfl,rfl,by decide+kernel,rfl,by decide+kernel,by decide+kernel⟩
theorem aZ (T:Txt K mg):zp P w K mg base 1 ["Blank","One","Over","Beside"] "height" ["self"] (Gb mg):=by
 refine Fw T.m_Piece_height tK (fun _ _ _ _ _ _ us hl=>L2.jU (fun _=>rfl) us hl) ?_ fun f cdv A outer s H vs Q E hr h=>?_
 ·rintro vs H Q E ⟨x,y,side,top,kind,L,ps,h,rfl,_⟩;rfl
 obtain ⟨x,y,side,top,kind,L,ps,h,rfl,⟨hy,dx,al,ap,hx,_,_⟩,q⟩:=h
 have hu:=hr.units0
 have hu64:=hr.units
 refine ⟨_,(aA (aK (v6 (K:=K) rfl (ao 0 kz2h)))),?_⟩
 walk_at "sts"
 refine ⟨x,_,dx,_,_,rfl,hx,T.os_Piece y hy,Uq T hy _ (by simp),rfl,?_⟩
 walk_at "sts"
 exact q
def Kc (mg:Str→Option Value):Sp:=fun vs H Q _=>∃ x y side top kind L ps h,vs=[.ref x]∧Pc mg H x y side top kind L ps h∧∀ q H',H q=none→Same H H'→H' q=some (.lst ((nI L).map V.int))→Q (.ref q) H'
theorem uP:aC ["self"] ["self"] (aq iW):=⟨rfl,rfl,rfl,by decide+kernel,rfl,by decide+kernel,by decide+kernel⟩
theorem bW (T:Txt K mg):zp P w K mg base 1 ["Blank","One","Over","Beside"] "lines" ["self"] (Kc mg):=by
 refine Fw T.m_Piece_lines uP (fun _ _ _ _ _ _ us hl=>L2.jU (fun _=>rfl) us hl) ?_ fun f cdv A outer s H vs Q E hr h=>?_
 ·rintro vs H Q E ⟨x,y,side,top,kind,L,ps,h,rfl,_⟩;rfl
 obtain ⟨x,y,side,top,kind,L,ps,h,rfl,⟨hy,dx,al,ap,hx,hal,_⟩,q⟩:=h
 have hu:=hr.units0
 have hu64:=hr.units
 refine ⟨_,(aA (aK (oH (mZ (K:=K) rfl rfl) (aU kz2i) T.b_list j7 (aa (v6 (K:=K) rfl (ao 0 kz2j)) ak) (by decide+kernel) (by decide+kernel)))),?_⟩
 walk_at "sts"
 refine ⟨x,_,dx,_,_,rfl,hx,T.os_Piece y hy,Uq T hy _ (by simp),rfl,?_⟩
 walk_at "sts"
 refine tR (SqL.of hal) fun l nl=>?_
 walk_at "sts"
 exact q l _ nl ((Same.refl H).upd nl) aj
def Ke (mg:Str→Option Value):Sp:=fun vs H Q _=>∃ x y side top kind L ps h,vs=[.ref x]∧Pc mg H x y side top kind L ps h∧∀ q H',H q=none→Same H H'→H' q=some (.lst ps)→Q (.ref q) H'
theorem uQ:aC ["self"] ["self"] (aq iY):=⟨rfl,rfl,rfl,by decide+kernel,rfl,by decide+kernel,by decide+kernel⟩
theorem cz (T:Txt K mg):zp P w K mg base 1 ["Blank","One","Over","Beside"] "parts" ["self"] (Ke mg):=by
 refine Fw T.m_Piece_parts uQ (fun _ _ _ _ _ _ us hl=>L2.jU (fun _=>rfl) us hl) ?_ fun f cdv A outer s H vs Q E hr h=>?_
 ·rintro vs H Q E ⟨x,y,side,top,kind,L,ps,h,rfl,_⟩;rfl
 obtain ⟨x,y,side,top,kind,L,ps,h,rfl,⟨hy,dx,al,ap,hx,_,hap⟩,q⟩:=h
 have hu:=hr.units0
 have hu64:=hr.units
 refine ⟨_,(aA (aK (oH (mZ (K:=K) rfl rfl) (aU kz2k) T.b_list j7 (aa (v6 (K:=K) rfl (ao 0 kz2l)) ak) (by decide+kernel) (by decide+kernel)))),?_⟩
 walk_at "sts"
 refine ⟨x,_,dx,_,_,rfl,hx,T.os_Piece y hy,Uq T hy _ (by simp),rfl,?_⟩
 walk_at "sts"
 refine tR (SqL.of hap) fun l nl=>?_
 walk_at "sts"
 exact q l _ nl ((Same.refl H).upd nl) aj
end
section
variable {P:Program} {w:World} {K:PySem.W.Frag} {mg:Str→Option Value} {base:Heap}
theorem pK:(["part"]:List Str).Nodup:=by decide+kernel
theorem Gd:bz aX "self":=by decide+kernel
theorem kz2n:bM aX "max":=by decide+kernel
theorem Xp:bz aX "parts":=by decide+kernel
theorem Xq:bM aX "list":=by decide+kernel
theorem kz2q:bz aX "lines":=by decide+kernel
theorem kz2r:bz aX "kind":=by decide+kernel
theorem kz2s:bz aX "top":=by decide+kernel
theorem kz2t:bz aX "side":=by decide+kernel
theorem Chg.same {x:Addr} {H H1 H2:Hp} (c:Chg x H H1) (s:Same H1 H2):Chg x H H2:=fun b o n e=>s _ _ (c b o n e)
theorem Chg.put {x:Addr} {H H1:Hp} {o:HO} (c:Chg x H H1):Chg x H (upd H1 x o):=fun b u n e=>by rw [aB n];exact c b u n e
theorem zN {f:Str} {y:V}:∀ {fs:List (Str×V)},(fs.map (·.1)).contains f=false→lE f y fs=fs ++ [(f,y)]
 | [],_=>rfl
 | (g,z) :: fs,h=>by
  simp only [List.map_cons,List.contains_cons,Bool.or_eq_false_iff] at h
  have hne:¬ g=f:=fun e=>by rw [e] at h;simp at h
  have ih:=zN (y:=y) (fs:=fs) h.2
  unfold lE
  simp [hne,ih]
theorem mV {H:Hp} {x C dx:Addr} {fs:List (Str×V)} {f:Str} {y:V} (hf:(fs.map (·.1)).contains f=false):∃ H',upd H x (.ins C dx (lE f y fs))=H'∧H' x=some (.ins C dx (fs ++ [(f,y)]))∧Chg x H H':=
 ⟨_,rfl,by rw [aj,zN hf],Chg.put (Chg.refl x H)⟩
def PsH (mg:Str→Option Value) (H:Hp) (ps:List V) (hs:List Nat):Prop:=ps.length=hs.length∧∀ (i:Nat) (v:V) (h:Nat),ps[i]?=some v→hs[i]?=some h→∃ q y s t k L qs,v= .ref q∧Pc mg H q y s t k L qs h
theorem PsH.chg {H H':Hp} {x C dx:Addr} {ps:List V} {hs:List Nat} (p:PsH mg H ps hs) (hx:H x=some (.ins C dx [])) (c:Chg x H H'):PsH mg H' ps hs:=⟨p.1,fun i v h e1 e2=>by
 obtain ⟨q,y,s,t,k,L,qs,rfl,hy,ex,al,ap,h1,h2,h3⟩:=p.2 i v h e1 e2
 refine ⟨q,y,s,t,k,L,qs,rfl,hy,ex,al,ap,c _ _ ?_ h1,c _ _ ?_ h2,c _ _ ?_ h3⟩
 ·intro z;rw [z,hx] at h1;cases h1
 ·intro z;rw [z,hx] at h2;cases h2
 ·intro z;rw [z,hx] at h3;cases h3⟩
def uR (hs:List Nat) (h:Nat):Prop:=(hs=[]∧h=0)∨((∃ a∈hs,h=a+1)∧∀ a∈hs,a+1≤h)
def xW (mg:Str→Option Value):Sp:=fun vs H Q _=>∃ (x dx l p:Addr) (y side top kind:Str) (L:List Nat) (ps:List V) (hs:List Nat),vs=[.ref x,.str side,.str top,.str kind,.ref l,.ref p]∧y∈Gw∧H x=some (.ins (aD mg y) dx [])∧H l=some (.lst ((nI L).map V.int))∧H p=some (.lst ps)∧ps.length≤1000∧PsH mg H ps hs∧
 ∀ h H',uR hs h→Chg x H H'→Pc mg H' x y side top kind L ps h→(∀ m o,H m=some o→m≠x→Pc mg (Hx m H') x y side top kind L ps h)→Q .non H'
theorem qK:aC ["self","side","top","kind","lines","parts"] ["self","side","top","kind","lines","parts"] (aq aX):=⟨rfl,rfl,rfl,by decide+kernel,rfl,by decide+kernel,by decide+kernel⟩
theorem aY (T:Txt K mg):TV P w K mg base 2 "Piece" "__init__" ["self","side","top","kind","lines","parts"] (xW mg):=by
 have aZ:=aZ (P:=P) (w:=w) (base:=base) T
 refine hasC T.m_Piece___init__ qK (fun _ _ _ _ _ _ us hl=>L2.usN6 (fun _ _ _ _ _ _=>rfl) us hl) ?_ fun f cdv A outer s H vs Q E hr h=>?_
 ·rintro vs H Q E ⟨x,dx,l,p,y,side,top,kind,L,ps,hs,rfl,_⟩;rfl
 obtain ⟨x,dx,l,p,y,side,top,kind,L,ps,hs,rfl,hy,hx,hl,hp,hpl,hH,q⟩:=h
 have hu:=hr.units0
 have hu64:=hr.units
 refine ⟨_,(az (rC (K:=K) rfl (ao 0 Gd) (ao 1 kz2t)) (az (rC (K:=K) rfl (ao 0 Gd) (ao 2 kz2s)) (az (rC (K:=K) rfl (ao 0 Gd) (ao 3 kz2r)) (az (rC (K:=K) rfl (ao 0 Gd) (oH (mZ (K:=K) rfl rfl) (aU Xq) T.b_list j7 (aa (ao 4 kz2q) ak) (by decide+kernel) (by decide+kernel))) (az (rC (K:=K) rfl (ao 0 Gd) (oH (mZ (K:=K) rfl rfl) (aU Xq) T.b_list j7 (aa (ao 5 Xp) ak) (by decide+kernel) (by decide+kernel))) (aA (rC (K:=K) rfl (ao 0 Gd) (TX rfl (aU kz2n) T.b_max (lK (sub:=[none]) (gO (N:=["self","side","top","kind","lines","parts"]) (sc:=aq aX) (N':=["part"]) (by decide+kernel)) rfl rfl rfl (jf (K:=K) rfl (ao 5 Xp)) (fun C s₀ H₀ ex=>(tD 0 (by decide+kernel) pK)) (fun C s₀ H₀ ex=>jB) (fun C s₀ H₀ ex=>(bN aW (aL (mg:=mg) rfl (mK 0 (by decide+kernel)) T.os_Piece aZ (hr.mono (by decide)) (fu fun _ _=>rfl)) aH))) aH)))))))),?_⟩
 walk_at "sts"
 have hz:20000≤sizeLine:=by decide
 have cl:=T.os_Piece y hy
 have na:=Uq T hy
 have lx:∀ {G:Hp} {C ex:Addr} {fs:List (Str×V)} {a:Addr} {us:List V},G x=some (.ins C ex fs)→G a=some (.lst us)→a≠x:=fun h1 h2 z=>by rw [z,h1] at h2;cases h2
 refine ⟨x,_,dx,_,rfl,hx,cl,na _ (by simp),by simp,?_⟩
 walk_at "sts"
 obtain ⟨H1,e1,hx1,M1⟩:=mV (H:=H) (x:=x) (C:=aD mg y) (dx:=dx) (fs:=[]) (f:="held_side") (y:=.str side) rfl
 rw [e1]
 walk_at "sts"
 refine ⟨x,_,dx,_,rfl,hx1,cl,na _ (by simp),by simp,?_⟩
 walk_at "sts"
 obtain ⟨H2,e2,hx2,M2⟩:=mV (H:=H1) (x:=x) (C:=aD mg y) (dx:=dx) (fs:=[] ++ [(Str.ofString "held_side",V.str side)]) (f:="held_top") (y:=.str top) (by show (["held_side"]:List Str).contains "held_top"=false;decide+kernel)
 rw [e2]
 walk_at "sts"
 refine ⟨x,_,dx,_,rfl,hx2,cl,na _ (by simp),by simp,?_⟩
 walk_at "sts"
 obtain ⟨H3,e3,hx3,M3⟩:=mV (H:=H2) (x:=x) (C:=aD mg y) (dx:=dx) (fs:=[] ++ [(Str.ofString "held_side",V.str side)] ++ [(Str.ofString "held_top",V.str top)]) (f:="held_kind") (y:=.str kind) (by show (["held_side","held_top"]:List Str).contains "held_kind"=false;decide+kernel)
 rw [e3]
 have C3:=(M1.trans M2).trans M3
 have hl3:=C3 l _ (lx hx hl) hl
 walk_at "sts"
 refine tR (SqL.of hl3) fun al nal=>?_
 walk_at "sts"
 have S4:=(Same.refl H3).upd nal (o:=.lst ((nI L).map V.int))
 have hal:=aj (H:=H3) (a:=al) (o:=.lst ((nI L).map V.int))
 generalize upd H3 al (.lst ((nI L).map V.int))=H4 at S4 hal ⊢
 walk_at "sts"
 refine ⟨x,_,dx,_,rfl,S4 _ _ hx3,cl,na _ (by simp),by simp,?_⟩
 walk_at "sts"
 obtain ⟨H5,e5,hx5,M5⟩:=mV (H:=H4) (x:=x) (C:=aD mg y) (dx:=dx) (fs:=[] ++ [(Str.ofString "held_side",V.str side)] ++ [(Str.ofString "held_top",V.str top)] ++ [(Str.ofString "held_kind",V.str kind)]) (f:="held_lines") (y:=.ref al) (by show (["held_side","held_top","held_kind"]:List Str).contains "held_lines"=false;decide+kernel)
 rw [e5]
 have C5:=(Chg.same C3 S4).trans M5
 have hp5:=C5 p _ (lx hx hp) hp
 have hal5:=M5 al _ (lx (S4 _ _ hx3) hal) hal
 walk_at "sts"
 refine tR (SqL.of hp5) fun ap nap=>?_
 walk_at "sts"
 have S6:=(Same.refl H5).upd nap (o:=.lst ps)
 have hap:=aj (H:=H5) (a:=ap) (o:=.lst ps)
 generalize upd H5 ap (.lst ps)=H6 at S6 hap ⊢
 walk_at "sts"
 refine ⟨x,_,dx,_,rfl,S6 _ _ hx5,cl,na _ (by simp),by simp,?_⟩
 walk_at "sts"
 obtain ⟨H7,e7,hx7,M7⟩:=mV (H:=H6) (x:=x) (C:=aD mg y) (dx:=dx) (fs:=[] ++ [(Str.ofString "held_side",V.str side)] ++ [(Str.ofString "held_top",V.str top)] ++ [(Str.ofString "held_kind",V.str kind)] ++ [(Str.ofString "held_lines",V.ref al)]) (f:="held_parts") (y:=.ref ap) (by show (["held_side","held_top","held_kind","held_lines"]:List Str).contains "held_parts"=false;decide+kernel)
 rw [e7]
 have C7:=(Chg.same C5 S6).trans M7
 have hp7:=C7 p _ (lx hx hp) hp
 have hal7:=M7 al _ (lx (S6 _ _ hx5) (S6 _ _ hal5)) (S6 _ _ hal5)
 have hap7:=M7 ap _ (lx (S6 _ _ hx5) hap) hap
 have hH7:=hH.chg hx C7
 walk_at "sts"
 refine .inl ⟨p,rfl,⟨_,SqL.of hp7⟩,?_⟩
 have hul:=hH.1
 refine jX (xs:=ps) (fun i zs G=>G=H7∧zs=(nI ((hs.take i).map (· +1))).map V.int) (by omega) ⟨rfl,rfl⟩ ?_ ?_ ?_ ?_
 ·rintro i zs G ⟨_,rfl⟩
  rw [bV];simp;omega
 ·rintro i zs G ⟨rfl,_⟩
  exact SqL.of hp7
 ·rintro i zs G v hv ⟨rfl,rfl⟩
  have hi:i < hs.length:=by rw [← hul];exact (List.getElem?_eq_some_iff.mp hv).1
  obtain ⟨hh,eh⟩:∃ hh,hs[i]?=some hh:=⟨_,List.getElem?_eq_getElem hi⟩
  obtain ⟨r,y',s',t',k',L',qs,rfl,hP⟩:=hH7.2 i v hh hv eh
  obtain ⟨hy',ex,al',ap',h1,_,_⟩:=id hP
  walk_at "sts"
  refine ⟨KeepSt.set rfl,?_⟩
  walk_at "sts"
  refine ⟨r,y',ex,_,rfl,hy',h1,rfl,?_⟩
  walk_at "sts"
  refine ⟨r,y',s',t',k',L',qs,hh,rfl,hP,?_⟩
  walk_at "sts"
  refine ⟨rfl,?_⟩
  rw [List.take_add_one,eh,List.map_append,show ((hh:Int)+1)=((hh+1:Nat):Int) by omega,tW]
  rfl
 ·rintro zs G D H8 ⟨rfl,rfl⟩ nD S8 hD
  rw [hul,List.take_length] at hD
  try walk_at "sts"
  have C8:=Chg.same C7 S8
  have hx8:=S8 _ _ hx7
  have key:∀ h:Nat,uR hs h→Q .non (upd H8 x (.ins (aD mg y) dx (lE (Str.ofString "held_height") (.int (h:Int)) ([] ++ [(Str.ofString "held_side",V.str side)] ++ [(Str.ofString "held_top",V.str top)] ++ [(Str.ofString "held_kind",V.str kind)] ++ [(Str.ofString "held_lines",V.ref al)] ++ [(Str.ofString "held_parts",V.ref ap)])))):=fun h hh=>by
   obtain ⟨H9,e9,hx9,M9⟩:=mV (H:=H8) (x:=x) (C:=aD mg y) (dx:=dx) (fs:=([] ++ [(Str.ofString "held_side",V.str side)] ++ [(Str.ofString "held_top",V.str top)] ++ [(Str.ofString "held_kind",V.str kind)] ++ [(Str.ofString "held_lines",V.ref al)] ++ [(Str.ofString "held_parts",V.ref ap)])) (f:=Str.ofString "held_height") (y:=.int (h:Int)) (by show (["held_side","held_top","held_kind","held_lines","held_parts"]:List Str).contains "held_height"=false;decide+kernel)
   rw [e9]
   have hal9:=M9 al _ (lx hx8 (S8 _ _ hal7)) (S8 _ _ hal7)
   have hap9:=M9 ap _ (lx hx8 (S8 _ _ hap7)) (S8 _ _ hap7)
   refine q h H9 hh (C8.trans M9) ⟨hy,dx,al,ap,hx9,hal9,hap9⟩ fun m o hm nm=>⟨hy,dx,al,ap,uO hx9 (Ne.symm nm),uO hal9 ?_,uO hap9 ?_⟩
   ·intro z;rw [z,C3 m o nm hm] at nal;cases nal
   ·intro z;rw [z,C5 m o nm hm] at nap;cases nap
  refine ⟨D,_,rfl,hD,fun e=>?_,fun M hM hmx=>?_⟩
  ·have e0:hs=[]:=by
    cases hs with
    | nil=>rfl
    | cons a b=>cases e
   walk_at "sts"
   exact ⟨x,_,dx,_,rfl,hx8,cl,na _ (by simp),by simp,key 0 (.inl ⟨e0,rfl⟩)⟩
  ·unfold nI at hM hmx
   obtain ⟨a',ha',rfl⟩:=List.mem_map.mp hM
   obtain ⟨a,ha,rfl⟩:=List.mem_map.mp ha'
   walk_at "sts"
   refine ⟨x,_,dx,_,rfl,hx8,cl,na _ (by simp),by simp,key (a+1) (.inr ⟨⟨a,ha,rfl⟩,fun b hb=>?_⟩)⟩
   have:=hmx ((b+1:Nat):Int) (List.mem_map.mpr ⟨b+1,List.mem_map.mpr ⟨b,hb,rfl⟩,rfl⟩)
   omega
end
section
variable {P:Program} {w:World} {K:PySem.W.Frag} {mg:Str→Option Value} {base:Heap}
theorem tL:(["end","low"]:List Str).Nodup:=by decide+kernel
theorem kz2u:bz d7 "other":=by decide+kernel
theorem kz2v:bz d7 "one":=by decide+kernel
theorem Xr:bz d7 "thing":=by decide+kernel
theorem kz2x:bM d7 "isinstance":=by decide+kernel
theorem kz2y:bM d7 "Piece":=by decide+kernel
theorem kz2z:bz kO "one":=by decide+kernel
theorem kz30:bz kO "other":=by decide+kernel
theorem kz31:bM iD "len":=by decide+kernel
theorem kz32:bz iD "row":=by decide+kernel
theorem kz33:bM iD "MOST_SIGNS":=by decide+kernel
theorem kz34:bM bc "laid":=by decide+kernel
theorem Xu:bz bc "other":=by decide+kernel
theorem Xv:bz bc "one":=by decide+kernel
theorem Xw:bz bc "lower":=by decide+kernel
theorem kz38:bM bc "list":=by decide+kernel
theorem kz39:bM bc "range":=by decide+kernel
theorem O8:QT bc "low":=by decide+kernel
theorem O9:bz bc "far":=by decide+kernel
theorem Xx:bz bc "high":=by decide+kernel
theorem kz3d:bM bc "straight":=by decide+kernel
theorem Xy:bz bc "upper":=by decide+kernel
theorem Xz:bM bc "len":=by decide+kernel
theorem pcT (T:Txt K mg) {y:Str} (hy:y∈Gw):ITxt K mg y∧Sub K mg y "Piece" true:=by
 unfold Gw at hy
 simp only [List.mem_cons,List.mem_nil_iff,or_false] at hy
 rcases hy with rfl | rfl | rfl | rfl
 ·exact ⟨T.t_Blank,T.u_Blank_Piece⟩
 ·exact ⟨T.t_One,T.u_One_Piece⟩
 ·exact ⟨T.t_Over,T.u_Over_Piece⟩
 ·exact ⟨T.t_Beside,T.u_Beside_Piece⟩
def IsP (mg:Str→Option Value) (H:Hp) (v:V):Prop:=∃ x y s t k L ps h,v= .ref x∧Pc mg H x y s t k L ps h
theorem Pa (T:Txt K mg) {H:Hp} {v:V} {Q:VK} (h:IsP mg H v) (q:Q (.bl true) H):CW K [v,.ref (aD mg "Piece")] H Q:=by
 obtain ⟨x,y,s,t,k,L,ps,n,rfl,hy,dx,al,ap,hx,_,_⟩:=h
 exact uB ((pcT T hy).1.ty (T.os_Piece y hy) hx) rfl (pcT T hy).2.one q
def Ge (mg:Str→Option Value):Sp:=fun vs H Q _=>∃ u v,vs=[u,v]∧IsP mg H u∧IsP mg H v∧∀ H',Same H H'→Q .non H'
theorem IsP.same {H H':Hp} {v:V} (h:IsP mg H v) (s:Same H H'):IsP mg H' v:=by
 obtain ⟨x,y,a,b,c,L,ps,n,rfl,h⟩:=h
 exact ⟨x,y,a,b,c,L,ps,n,rfl,h.same s⟩
theorem oW:aC ["one","other","thing"] ["one","other"] (aq d7):=⟨rfl,rfl,rfl,by decide+kernel,rfl,by decide+kernel,by decide+kernel⟩
theorem gR (T:Txt K mg):Has P w K mg base 3 "need_pieces" ["one","other"] (Ge mg):=by
 refine gr T.d_need_pieces oW (fun _ _ _ _ _ _ us hl=>L2.ou (fun _ _=>rfl) us hl) ?_ fun f cdv A outer s H vs Q E hr h=>?_
 ·rintro vs H Q E ⟨u,v,rfl,_⟩;rfl
 obtain ⟨u,v,rfl,hu1,hv1,q⟩:=h
 have hu:=hr.units0
 have hu64:=hr.units
 refine ⟨_,(aA (jC PassesOwn.never rfl (jf (K:=K) rfl (Iu (aa (ao 0 kz2v) (aa (ao 1 kz2u) ak)))) (dJ (i:=2) oW.nd rfl (Or.inl Xr) rfl) (aA (cP (dY (dZ (aG (lA (K:=K) rfl) (aU kz2x) T.b_isinstance bj (aa (ao 2 Xr) (aa (yW (aU kz2y) T.o_Piece.at_ (by decide+kernel)) ak)) (by decide+kernel) (by decide+kernel)))) (aA kE) bB)))),?_⟩
 walk_at "sts"
 refine dR rfl fun t H1 nt S1 ht=>?_
 walk_at "sts"
 refine .inr (.inl ⟨t,rfl,⟨_,SqT.of ht⟩,?_⟩)
 refine Cd (xs:=[u,v]) (fun i σ G=>Same H1 G∧∃ x2,σ=[some u,some v,x2]) ⟨Same.refl H1,_,rfl⟩ (fun i σ G _ h=>SqT.of (h.1 _ _ ht)) ?_ ?_
 ·rintro i w σ G hw ⟨s,x2,rfl⟩
  have hP:IsP mg G w:=by
   have:=List.mem_of_getElem? hw
   simp only [List.mem_cons,List.mem_nil_iff,or_false] at this
   rcases this with rfl | rfl
   ·exact hu1.same (S1.trans s)
   ·exact hv1.same (S1.trans s)
  walk_at "sts"
  refine Pa T hP ?_
  walk_at "sts"
  exact ⟨s,_,rfl⟩
 ·rintro σ G ⟨s,x2,rfl⟩
  exact q G (S1.trans s)
def BJ:Sp:=fun vs H Q _=>∃ z:Str,vs=[.str z,.str z]∧Q .non H
theorem xX:aC ["one","other"] ["one","other"] (aq kO):=⟨rfl,rfl,rfl,by decide+kernel,rfl,by decide+kernel,by decide+kernel⟩
theorem ju (T:Txt K mg):Has P w K mg base 3 "need_same" ["one","other"] BJ:=by
 refine gr T.d_need_same xX (fun _ _ _ _ _ _ us hl=>L2.ou (fun _ _=>rfl) us hl) ?_ fun f cdv A outer s H vs Q E hr h=>?_
 ·rintro vs H Q E ⟨z,rfl,_⟩;rfl
 obtain ⟨z,rfl,q⟩:=h
 have hu:=hr.units0
 have hu64:=hr.units
 refine ⟨_,(aA (cP (bR (xf (K:=K) rfl hu64) (ao 0 kz2z) (ao 1 kz30) (by first | exact aV _ | with_unfolding_all rfl)) (aA kE) bB)),?_⟩
 walk_at "sts"
 rw [decide_eq_true (rfl:V.str z=V.str z)]
 walk_at "sts"
 exact q
def zO:Sp:=fun vs H Q _=>∃ z:Str,vs=[.str z]∧z.length≤48∧Q .non H
theorem vm:aC ["row"] ["row"] (aq iD):=⟨rfl,rfl,rfl,by decide+kernel,rfl,by decide+kernel,by decide+kernel⟩
theorem iG (T:Txt K mg):Has P w K mg base 3 "need_short" ["row"] zO:=by
 refine gr T.d_need_short vm (fun _ _ _ _ _ _ us hl=>L2.jU (fun _=>rfl) us hl) ?_ fun f cdv A outer s H vs Q E hr h=>?_
 ·rintro vs H Q E ⟨z,rfl,_⟩;rfl
 obtain ⟨z,rfl,hz,q⟩:=h
 have hu:=hr.units0
 have hu64:=hr.units
 refine ⟨_,(aA (cP (bR t7 (aG (aJ (K:=K) rfl) (aU kz31) T.b_len bC (aa (ao 0 kz32) ak) (by decide+kernel) (by decide+kernel)) (wZ (aU kz33) T.c_MOST_SIGNS (by decide+kernel)) (by first | exact aV _ | with_unfolding_all rfl)) (aA kE) bB)),?_⟩
 walk_at "sts"
 refine gG (Nat.le_trans hz (by decide)) ?_
 walk_at "sts"
 rw [decide_eq_false (show ¬ (48:Int) < (z.length:Int) by omega)]
 walk_at "sts"
 exact q
theorem xY (a b:List Nat):(nI a).map V.int ++ (nI b).map V.int=(nI (a ++ b)).map V.int:=by unfold nI;rw [List.map_append,List.map_append]
theorem jw {m far:Nat} {e:Nat→Nat→Bool}:((nI (LN m far e)).map V.int).length=m+far:=by rw [bV,iQ]
theorem Dt {k:Nat} {G:List Nat} (hG:Prm G) (hk:k+G.length≤96):Prm (List.range k ++ G.map (k+ ·)):=by
 have hl:(List.range k ++ G.map (k+ ·)).length=k+G.length:=by simp
 refine ⟨by omega,?_⟩
 rw [hl,List.range_add]
 exact List.Perm.append_left _ (hG.pm.map _)
theorem zP {r n:Nat} {G:List Nat} (hG:Prm G) (hn:G.length=n) (hk:n+r≤96):Prm (G ++ (List.range r).map (n+ ·)):=by
 subst hn
 have hl:(G ++ (List.range r).map (G.length+ ·)).length=G.length+r:=by simp
 refine ⟨by omega,?_⟩
 rw [hl,List.range_add]
 exact hG.pm.append_right _
theorem zQ (lo:Int) (k n:Nat) (e:lo=(k:Int)):((List.range n).map fun i:Nat=>V.int (lo+(i:Int)*1))=(nI ((List.range n).map (k+ ·))).map V.int:=by
 subst e
 unfold nI
 rw [List.map_map,List.map_map]
 refine List.map_congr_left fun x _=>?_
 show V.int ((k:Int)+(x:Int)*1)=V.int ((k+x:Nat):Int)
 congr 1;omega
def Pb (K:PySem.W.Frag):Sp:=fun vs H Q _=>∃ (u l:Addr) (mu ml far:Nat) (e:Nat→Nat→Bool),vs=[.ref u,.ref l,.int far]∧mu+ml+far≤96∧H u=some (.lst ((nI (LN mu far e)).map V.int))∧H l=some (.lst ((nI (LN ml far fun i j=>e (mu+i) j)).map V.int))∧
 ∀ q H',H q=none→Same H H'→H' q=some (.lst ((nI (LN (mu+ml) far e)).map V.int))→Q (.ref q) H'
theorem iZ:aC ["upper","lower","far","high","low","one","other"] ["upper","lower","far"] (aq bc):=⟨rfl,rfl,rfl,by decide+kernel,rfl,by decide+kernel,by decide+kernel⟩
theorem nQ (T:Txt K mg):Has P w K mg base 8 "lines_over" ["upper","lower","far"] (Pb K):=by
 have gM:=gM (P:=P) (w:=w) (base:=base) T
 have rO:=rO (P:=P) (w:=w) (base:=base) T
 refine gr T.d_lines_over iZ (fun _ _ _ _ _ _ us hl=>L2.wD (fun _ _ _=>rfl) us hl) ?_ fun f cdv A outer s H vs Q E hr h=>?_
 ·rintro vs H Q E ⟨u,l,mu,ml,far,e,rfl,_⟩;rfl
 obtain ⟨u,l,mu,ml,far,e,rfl,hn,hu1,hl,q⟩:=h
 have hu:=hr.units0
 have hu64:=hr.units
 refine ⟨_,(az (aP (i:=3) iZ.nd rfl (Or.inl Xx) (bN kW (aG (aJ (K:=K) rfl) (aU Xz) T.b_len bC (aa (ao 0 Xy) ak) (by decide+kernel) (by decide+kernel)) (ao 2 O9)) rfl) (az (aP (i:=4) iZ.nd rfl (Or.inr O8) (bN kW (aG (aJ (K:=K) rfl) (aU Xz) T.b_len bC (aa (ao 1 Xw) ak) (by decide+kernel) (by decide+kernel)) (ao 2 O9)) rfl) (az (aP (i:=5) iZ.nd rfl (Or.inl Xv) (bN aW (aF gM (hr.mono (by decide)) (aU kz3d) (aa (nZ 4 O8) ak) (by decide+kernel)) (lK (sub:=[none,some 4]) (gO (N:=["upper","lower","far","high","low","one","other"]) (sc:=aq bc) (N':=["end","low"]) (by decide+kernel)) rfl rfl rfl (jf (K:=K) rfl (ao 0 Xy)) (fun C s₀ H₀ ex=>(tD 0 (by decide+kernel) tL)) (fun C s₀ H₀ ex=>jB) (fun C s₀ H₀ ex=>(bN aW (qD 1 (by decide+kernel)) (mK 0 (by decide+kernel)))))) rfl) (az (aP (i:=6) iZ.nd rfl (Or.inl Xu) (bN aW (ao 1 Xw) (uF rfl (aU kz38) T.b_list (aU kz39) T.b_range (aa (bN aW (nZ 4 O8) (ao 2 O9)) (aa (bN aW (bN aW (nZ 4 O8) (ao 2 O9)) (ao 3 Xx)) ak)))) rfl) (aA (aK (aF rO (hr.mono (by decide)) (aU kz34) (aa (ao 5 Xv) (aa (ao 6 Xu) ak)) (by decide+kernel)))))))),?_⟩
 walk_at "sts"
 have hz:20000≤sizeLine:=by decide
 refine gU (SqL.of hu1) ?_
 walk_at "sts"
 rw [jw]
 walk_at "sts"
 refine gU (SqL.of hl) ?_
 walk_at "sts"
 rw [jw,show ((mu+far:Nat):Int) - (far:Int)=(mu:Int) by omega,show ((ml+far:Nat):Int) - (far:Int)=(ml:Int) by omega]
 walk_at "sts"
 refine ⟨ml,rfl,by omega,fun a H1 na S1 ha=>?_⟩
 walk_at "sts"
 refine .inl ⟨u,rfl,⟨_,SqL.of (S1 _ _ hu1)⟩,?_⟩
 refine jX (xs:=(nI (LN mu far e)).map V.int) (fun i zs G=>G=H1∧zs=(nI (((LN mu far e).take i).map (ml+ ·))).map V.int) (by rw [jw];omega) ⟨rfl,rfl⟩ ?_ ?_ ?_ ?_
 ·rintro i zs G ⟨_,rfl⟩
  rw [bV];simp;omega
 ·rintro i zs G ⟨rfl,_⟩
  exact SqL.of (S1 _ _ hu1)
 ·rintro i zs G v hv ⟨rfl,rfl⟩
  obtain ⟨a',ea,rfl⟩:=zF hv
  walk_at "sts"
  refine ⟨KeepSt.set rfl,?_⟩
  walk_at "sts"
  refine ⟨rfl,?_⟩
  rw [List.take_add_one,ea,List.map_append,show ((ml:Int)+(a':Int))=((ml+a':Nat):Int) by omega]
  unfold nI
  rw [List.map_append,List.map_append]
  rfl
 rintro zs G D H2 ⟨rfl,rfl⟩ nD S2 hD
 rw [jw,← iQ mu far e,List.take_length] at hD
 try walk_at "sts"
 refine wX (S2 _ _ ha) hD (by rw [bV,bV];simp [iQ];omega) fun o1 no1=>?_
 walk_at "sts"
 rw [xY]
 have S3:=(Same.refl H2).upd no1 (o:=.lst ((nI (List.range ml ++ (LN mu far e).map (ml+ ·))).map V.int))
 have ho1:=aj (H:=H2) (a:=o1) (o:=.lst ((nI (List.range ml ++ (LN mu far e).map (ml+ ·))).map V.int))
 generalize upd H2 o1 (.lst ((nI (List.range ml ++ (LN mu far e).map (ml+ ·))).map V.int))=H3 at S3 ho1 ⊢
 have U3:=S1.trans (S2.trans S3)
 walk_at "sts"
 refine Dh (n:=mu) (by omega) (by omega) (by omega) (by omega) fun r nr=>?_
 walk_at "sts"
 rw [zQ _ (ml+far) mu (by omega)] at ⊢
 have S4:=(Same.refl H3).upd nr (o:=.lst ((nI ((List.range mu).map (ml+far+ ·))).map V.int))
 have hr4:=aj (H:=H3) (a:=r) (o:=.lst ((nI ((List.range mu).map (ml+far+ ·))).map V.int))
 generalize upd H3 r (.lst ((nI ((List.range mu).map (ml+far+ ·))).map V.int))=H4 at S4 hr4 ⊢
 walk_at "sts"
 refine wX (S4 _ _ (U3 _ _ hl)) hr4 (by rw [bV,bV];simp [iQ];omega) fun o2 no2=>?_
 walk_at "sts"
 rw [xY]
 have S5:=(Same.refl H4).upd no2 (o:=.lst ((nI (LN ml far (fun i j=>e (mu+i) j) ++ (List.range mu).map (ml+far+ ·))).map V.int))
 have ho2:=aj (H:=H4) (a:=o2) (o:=.lst ((nI (LN ml far (fun i j=>e (mu+i) j) ++ (List.range mu).map (ml+far+ ·))).map V.int))
 generalize upd H4 o2 (.lst ((nI (LN ml far (fun i j=>e (mu+i) j) ++ (List.range mu).map (ml+far+ ·))).map V.int))=H5 at S5 ho2 ⊢
 have U5:=U3.trans (S4.trans S5)
 walk_at "sts"
 refine ⟨o1,o2,_,_,mu+ml+far,rfl,(S4.trans S5) _ _ ho1,ho2,⟨Dt (xO (by omega)) (by rw [iQ];omega),zP (xO (by omega)) (iQ _ _ _) (by omega),by simp [iQ];omega,by simp [iQ];omega⟩,fun r' H6 nr' S6 hr'=>?_⟩
 rw [JX hn] at hr'
 exact q r' H6 (Same.back U5 nr') (U5.trans S6) hr'
end
section
variable {P:Program} {w:World} {K:PySem.W.Frag} {mg:Str→Option Value} {base:Heap}
theorem qL:(["end","near"]:List Str).Nodup:=by decide+kernel
theorem kz3g:bM aQ "laid":=by decide+kernel
theorem XD:bz aQ "other":=by decide+kernel
theorem XF:bz aQ "one":=by decide+kernel
theorem kz3j:bM aQ "straight":=by decide+kernel
theorem Pg:QT aQ "near":=by decide+kernel
theorem XH:bz aQ "right":=by decide+kernel
theorem XJ:bz aQ "left":=by decide+kernel
theorem kz3n:bM aQ "list":=by decide+kernel
theorem kz3o:bM aQ "range":=by decide+kernel
theorem Ph:bz aQ "many":=by decide+kernel
theorem XM:bz aQ "far":=by decide+kernel
theorem XN:bM aQ "len":=by decide+kernel
def Gf (K:PySem.W.Frag):Sp:=fun vs H Q _=>∃ (l r:Addr) (m fl fr:Nat) (e:Nat→Nat→Bool),vs=[.ref l,.ref r,.int m]∧m+(fl+fr)≤96∧H l=some (.lst ((nI (LN m fl e)).map V.int))∧H r=some (.lst ((nI (LN m fr fun i j=>e i (fl+j))).map V.int))∧
 ∀ q H',H q=none→Same H H'→H' q=some (.lst ((nI (LN m (fl+fr) e)).map V.int))→Q (.ref q) H'
theorem gP:aC ["left","right","many","near","far","one","other"] ["left","right","many"] (aq aQ):=⟨rfl,rfl,rfl,by decide+kernel,rfl,by decide+kernel,by decide+kernel⟩
theorem lQ (T:Txt K mg):Has P w K mg base 8 "lines_beside" ["left","right","many"] (Gf K):=by
 have gM:=gM (P:=P) (w:=w) (base:=base) T
 have rO:=rO (P:=P) (w:=w) (base:=base) T
 refine gr T.d_lines_beside gP (fun _ _ _ _ _ _ us hl=>L2.wD (fun _ _ _=>rfl) us hl) ?_ fun f cdv A outer s H vs Q E hr h=>?_
 ·rintro vs H Q E ⟨l,r,m,fl,fr,e,rfl,_⟩;rfl
 obtain ⟨l,r,m,fl,fr,e,rfl,hn,hl,hr1,q⟩:=h
 have hu:=hr.units0
 have hu64:=hr.units
 refine ⟨_,(az (aP (i:=3) gP.nd rfl (Or.inr Pg) (bN kW (aG (aJ (K:=K) rfl) (aU XN) T.b_len bC (aa (ao 0 XJ) ak) (by decide+kernel) (by decide+kernel)) (ao 2 Ph)) rfl) (az (aP (i:=4) gP.nd rfl (Or.inl XM) (bN kW (aG (aJ (K:=K) rfl) (aU XN) T.b_len bC (aa (ao 1 XH) ak) (by decide+kernel) (by decide+kernel)) (ao 2 Ph)) rfl) (az (aP (i:=5) gP.nd rfl (Or.inl XF) (bN aW (ao 0 XJ) (uF rfl (aU kz3n) T.b_list (aU kz3o) T.b_range (aa (bN aW (ao 2 Ph) (nZ 3 Pg)) (aa (bN aW (bN aW (ao 2 Ph) (nZ 3 Pg)) (ao 4 XM)) ak)))) rfl) (az (aP (i:=6) gP.nd rfl (Or.inl XD) (bN aW (aF gM (hr.mono (by decide)) (aU kz3j) (aa (nZ 3 Pg) ak) (by decide+kernel)) (lK (sub:=[none,some 3]) (gO (N:=["left","right","many","near","far","one","other"]) (sc:=aq aQ) (N':=["end","near"]) (by decide+kernel)) rfl rfl rfl (jf (K:=K) rfl (ao 1 XH)) (fun C s₀ H₀ ex=>(tD 0 (by decide+kernel) qL)) (fun C s₀ H₀ ex=>jB) (fun C s₀ H₀ ex=>(bN aW (qD 1 (by decide+kernel)) (mK 0 (by decide+kernel)))))) rfl) (aA (aK (aF rO (hr.mono (by decide)) (aU kz3g) (aa (ao 5 XF) (aa (ao 6 XD) ak)) (by decide+kernel)))))))),?_⟩
 walk_at "sts"
 have hz:20000≤sizeLine:=by decide
 refine gU (SqL.of hl) ?_
 walk_at "sts"
 rw [jw]
 walk_at "sts"
 refine gU (SqL.of hr1) ?_
 walk_at "sts"
 rw [jw,show ((m+fl:Nat):Int) - (m:Int)=(fl:Int) by omega,show ((m+fr:Nat):Int) - (m:Int)=(fr:Int) by omega]
 walk_at "sts"
 refine Dh (n:=fr) (by omega) (by omega) (by omega) (by omega) fun p np=>?_
 walk_at "sts"
 rw [zQ _ (m+fl) fr (by omega)]
 have S1:=(Same.refl H).upd np (o:=.lst ((nI ((List.range fr).map (m+fl+ ·))).map V.int))
 have hp1:=aj (H:=H) (a:=p) (o:=.lst ((nI ((List.range fr).map (m+fl+ ·))).map V.int))
 generalize upd H p (.lst ((nI ((List.range fr).map (m+fl+ ·))).map V.int))=H1 at S1 hp1 ⊢
 walk_at "sts"
 refine wX (S1 _ _ hl) hp1 (by rw [bV,bV];simp [iQ];omega) fun o1 no1=>?_
 walk_at "sts"
 rw [xY]
 have S2:=(Same.refl H1).upd no1 (o:=.lst ((nI (LN m fl e ++ (List.range fr).map (m+fl+ ·))).map V.int))
 have ho1:=aj (H:=H1) (a:=o1) (o:=.lst ((nI (LN m fl e ++ (List.range fr).map (m+fl+ ·))).map V.int))
 generalize upd H1 o1 (.lst ((nI (LN m fl e ++ (List.range fr).map (m+fl+ ·))).map V.int))=H2 at S2 ho1 ⊢
 walk_at "sts"
 refine ⟨fl,rfl,by omega,fun a H3 na S3 ha=>?_⟩
 walk_at "sts"
 have U3:=S1.trans (S2.trans S3)
 refine .inl ⟨r,rfl,⟨_,SqL.of (U3 _ _ hr1)⟩,?_⟩
 refine jX (xs:=(nI (LN m fr fun i j=>e i (fl+j))).map V.int) (fun i zs G=>G=H3∧zs=(nI (((LN m fr fun i j=>e i (fl+j)).take i).map (fl+ ·))).map V.int) (by rw [jw];omega) ⟨rfl,rfl⟩ ?_ ?_ ?_ ?_
 ·rintro i zs G ⟨_,rfl⟩
  rw [bV];simp;omega
 ·rintro i zs G ⟨rfl,_⟩
  exact SqL.of (U3 _ _ hr1)
 ·rintro i zs G v hv ⟨rfl,rfl⟩
  obtain ⟨a',ea,rfl⟩:=zF hv
  walk_at "sts"
  refine ⟨KeepSt.set rfl,?_⟩
  walk_at "sts"
  refine ⟨rfl,?_⟩
  rw [List.take_add_one,ea,List.map_append,show ((fl:Int)+(a':Int))=((fl+a':Nat):Int) by omega]
  unfold nI
  rw [List.map_append,List.map_append]
  rfl
 rintro zs G D H4 ⟨rfl,rfl⟩ nD S4 hD
 rw [jw,← iQ m fr (fun i j=>e i (fl+j)),List.take_length] at hD
 try walk_at "sts"
 refine wX (S4 _ _ ha) hD (by rw [bV,bV];simp [iQ];omega) fun o2 no2=>?_
 walk_at "sts"
 rw [xY]
 have S5:=(Same.refl H4).upd no2 (o:=.lst ((nI (List.range fl ++ (LN m fr fun i j=>e i (fl+j)).map (fl+ ·))).map V.int))
 have ho2:=aj (H:=H4) (a:=o2) (o:=.lst ((nI (List.range fl ++ (LN m fr fun i j=>e i (fl+j)).map (fl+ ·))).map V.int))
 generalize upd H4 o2 (.lst ((nI (List.range fl ++ (LN m fr fun i j=>e i (fl+j)).map (fl+ ·))).map V.int))=H5 at S5 ho2 ⊢
 have U5:=U3.trans (S4.trans S5)
 walk_at "sts"
 refine ⟨o1,o2,_,_,m+(fl+fr),rfl,(S3.trans (S4.trans S5)) _ _ ho1,ho2,⟨zP (xO (by omega)) (iQ _ _ _) (by omega),Dt (xO (by omega)) (by rw [iQ];omega),by simp [iQ];omega,by simp [iQ];omega⟩,fun r' H6 nr' S6 hr'=>?_⟩
 rw [Bt hn] at hr'
 exact q r' H6 (Same.back U5 nr') (U5.trans S6) hr'
end
section
variable {P:Program} {w:World} {K:PySem.W.Frag} {mg:Str→Option Value} {base:Heap}
theorem kz3s:bM bh "Piece":=by decide+kernel
theorem kz3t:bM bh "straight":=by decide+kernel
theorem Pj:bM bh "len":=by decide+kernel
theorem Kf:bz bh "side":=by decide+kernel
theorem Kg:bz bh "top":=by decide+kernel
theorem kz3x:bz bh "self":=by decide+kernel
theorem kz3y:bM bh "NoPiece":=by decide+kernel
theorem kz3z:bM bh "need_rows":=by decide+kernel
theorem kz40:bM dW "Piece":=by decide+kernel
theorem Us:bz dW "letter":=by decide+kernel
theorem Ut:bz dW "sign":=by decide+kernel
theorem kz43:bz dW "self":=by decide+kernel
theorem XQ:bM dW "need_sign":=by decide+kernel
def Aa (side top:Str) (i j:Nat):Bool:=decide (side.cps.getD i 0=top.cps.getD j 0)
theorem Kh {m far:Nat} {e e':Nat→Nat→Bool} (h:∀ i j,i < m→j < far→e i j=e' i j):al m far e m=al m far e' m:=by
 unfold al rs
 refine ie fun i hi=>ie fun j hj=>?_
 rw [h i j (List.mem_range.mp hi) (List.mem_range.mp hj)]
theorem qM {m far:Nat} {e e':Nat→Nat→Bool} (h:∀ i j,i < m→j < far→e i j=e' i j):LN m far e=LN m far e':=by unfold LN;rw [Kh h]
theorem Kl {m far:Nat} {e:Nat→Nat→Bool} (h:m=0∨far=0) (hn:m+far≤96):LN m far e=List.range (m+far):=by
 have:al m far e m=[]:=by
  unfold al rs
  rcases h with rfl | rfl
  ·rfl
  ·simp
 unfold LN
 rw [this]
 exact FP _ hn
theorem Km (e:Nat→Nat→Bool):LN 1 1 e=if e 0 0=true then [0,1] else [1,0]:=by
 have:al 1 1 e 1=if e 0 0=true then [] else [0]:=by
  unfold al rs
  simp
 unfold LN
 rw [this]
 cases e 0 0 <;> decide+kernel
structure PG (mg:Str→Option Value) (H:Hp) (x:Addr) (y side top kind:Str) (ps:List V) (h:Nat):Prop where
 pc:Pc mg H x y side top kind (LN side.cps.size top.cps.size (Aa side top)) ps h
 rs:Row side
 rt:Row top
theorem PG.same {H H':Hp} {x:Addr} {y side top kind:Str} {ps:List V} {h:Nat} (p:PG mg H x y side top kind ps h) (s:Same H H'):PG mg H' x y side top kind ps h:=⟨p.pc.same s,p.rs,p.rt⟩
theorem tX {H:Hp}:PsH mg H [] []:=⟨rfl,fun i v h e=>by cases e⟩
theorem BK {h:Nat} (k:uR [] h):h=0:=by
 rcases k with ⟨_,e⟩ | ⟨⟨a,ha,_⟩,_⟩
 ·exact e
 ·cases ha
def Du (mg:Str→Option Value):Sp:=fun vs H Q _=>∃ (x dx:Addr) (side top:Str),vs=[.ref x,.str side,.str top]∧H x=some (.ins (aD mg "Blank") dx [])∧Row side∧Row top∧(side.cps.size=0∨top.cps.size=0)∧
 ∀ H',Chg x H H'→PG mg H' x "Blank" side top (Str.ofString "blank") [] 0→(∀ m o,H m=some o→m≠x→PG mg (Hx m H') x "Blank" side top (Str.ofString "blank") [] 0)→Q .non H'
theorem qN:aC ["self","side","top"] ["self","side","top"] (aq bh):=⟨rfl,rfl,rfl,by decide+kernel,rfl,by decide+kernel,by decide+kernel⟩
theorem d9 (T:Txt K mg):zj P w K mg base 5 "Blank" "__init__" ["self","side","top"] (Du mg):=by
 have jt:=jt (P:=P) (w:=w) (base:=base) T
 have aY:=aY (P:=P) (w:=w) (base:=base) T
 have gM:=gM (P:=P) (w:=w) (base:=base) T
 refine N5 T.m_Blank___init__ qN (fun _ _ _ _ _ _ us hl=>L2.wD (fun _ _ _=>rfl) us hl) ?_ fun f cdv A outer s H vs Q E hr h=>?_
 ·rintro vs H Q E ⟨x,dx,side,top,rfl,_⟩;rfl
 obtain ⟨x,dx,side,top,rfl,hx,rs,rt,he,q⟩:=h
 have hu:=hr.units0
 have hu64:=hr.units
 refine ⟨_,(az (bD (aF jt (hr.mono (by decide)) (aU kz3z) (aa (ao 1 Kf) (aa (ao 2 Kg) ak)) (by decide+kernel))) (az (cP (km (Ir (bR t7 (aG (aJ (K:=K) rfl) (aU Pj) T.b_len bC (aa (ao 1 Kf) ak) (by decide+kernel) (by decide+kernel)) aH (by first | exact aV _ | with_unfolding_all rfl)) (CK (bR t7 (aG (aJ (K:=K) rfl) (aU Pj) T.b_len bC (aa (ao 2 Kg) ak) (by decide+kernel) (by decide+kernel)) aH (by first | exact aV _ | with_unfolding_all rfl))))) (aA (Jq (Bu (P:=P) (w:=w) (base:=base) T) (hr.mono (by decide)) rfl (aU kz3y) bU (aa (Iu (aa (ao 1 Kf) (aa (ao 2 Kg) ak))) ak) (by decide+kernel))) bB) (aA (bD (xx aY (hr.mono (by decide)) (aU kz3s) bU (aa (ao 0 kz3x) (aa (ao 1 Kf) (aa (ao 2 Kg) (aa gC (aa (aF gM (hr.mono (by decide)) (aU kz3t) (aa (bN aW (aG (aJ (K:=K) rfl) (aU Pj) T.b_len bC (aa (ao 1 Kf) ak) (by decide+kernel) (by decide+kernel)) (aG (aJ (K:=K) rfl) (aU Pj) T.b_len bC (aa (ao 2 Kg) ak) (by decide+kernel) (by decide+kernel))) ak) (by decide+kernel)) (aa (gA ak) ak)))))) (by decide+kernel)))))),?_⟩
 walk_at "sts"
 have lz:side.length≤sizeLine:=Nat.le_trans rs.1 (by decide)
 have ly:top.length≤sizeLine:=Nat.le_trans rt.1 (by decide)
 have es:side.length=side.cps.size:=rfl
 have et:top.length=top.cps.size:=rfl
 have h1:=rs.1
 have h2:=rt.1
 refine ⟨side,top,rfl,rs,rt,fun H1 S1=>?_⟩
 walk_at "sts"
 refine gG lz ?_
 walk_at "sts"
 have fin:∀ (l p:Addr) (H2:Hp) (Q':VK),(∀ G,Q .non G→Q' .non G)→Same H1 H2→H2 l=some (.lst ((nI (List.range (side.cps.size+top.cps.size))).map V.int))→H2 p=some (.lst [])→xW mg [.ref x,.str side,.str top,.str (Str.ofString "blank"),.ref l,.ref p] H2 Q' E:=fun l p H2 Q' hQ S2 hl hp=>by
  have U:=S1.trans S2
  refine ⟨x,dx,l,p,"Blank",side,top,_,_,[],[],rfl,by unfold Gw;simp,U _ _ hx,hl,hp,by simp,tX,fun h H3 hh C3 P3 N3=>?_⟩
  obtain rfl:=BK hh
  rw [← Kl (e:=Aa side top) he (by omega)] at P3 N3
  exact hQ _ (q H3 (fun b o n e=>C3 b o n (U _ _ e)) ⟨P3,rs,rt⟩ fun m o hm nm=>⟨N3 m o (U _ _ hm) nm,rs,rt⟩)
 by_cases h0:side.cps.size=0
 ·rw [decide_eq_false (show ¬ (0:Int) < (side.length:Int) by omega)]
  walk_at "sts"
  refine gG lz ?_
  walk_at "sts"
  refine gG ly ?_
  walk_at "sts"
  refine ⟨side.cps.size+top.cps.size,by rw [es,et];congr 2,by omega,fun l H2 nl S2 hl=>?_⟩
  walk_at "sts"
  refine dR rfl fun p H3 np S3 hp=>?_
  walk_at "sts"
  exact fin l p H3 _ (fun G z=>z) (S2.trans S3) (S3 _ _ hl) hp
 ·rw [decide_eq_true (show (0:Int) < (side.length:Int) by omega)]
  walk_at "sts"
  refine gG ly ?_
  walk_at "sts"
  rw [decide_eq_false (show ¬ (0:Int) < (top.length:Int) by omega)]
  walk_at "sts"
  refine gG lz ?_
  walk_at "sts"
  refine gG ly ?_
  walk_at "sts"
  refine ⟨side.cps.size+top.cps.size,by rw [es,et];congr 2,by omega,fun l H2 nl S2 hl=>?_⟩
  walk_at "sts"
  refine dR rfl fun p H3 np S3 hp=>?_
  walk_at "sts"
  exact fin l p H3 _ (fun G z=>z) (S2.trans S3) (S3 _ _ hl) hp
def Q3 (mg:Str→Option Value):Sp:=fun vs H Q _=>∃ (x dx:Addr) (c d:Nat),vs=[.ref x,.str ⟨#[c]⟩,.str ⟨#[d]⟩]∧H x=some (.ins (aD mg "One") dx [])∧c∈GOOD∧d∈GOOD∧
 ∀ H',Chg x H H'→PG mg H' x "One" ⟨#[c]⟩ ⟨#[d]⟩ (Str.ofString "one") [] 0→(∀ m o,H m=some o→m≠x→PG mg (Hx m H') x "One" ⟨#[c]⟩ ⟨#[d]⟩ (Str.ofString "one") [] 0)→Q .non H'
theorem qO {c:Nat} (h:c∈GOOD):Row ⟨#[c]⟩:=⟨by rw [MK];decide,fun d hd=>by simp at hd;rw [hd];exact h⟩
theorem Ko (a b:Nat):decide (V.str ⟨#[a]⟩=V.str ⟨#[b]⟩)=decide (a=b):=by
 refine decide_eq_decide.mpr ⟨fun h=>?_,fun h=>by rw [h]⟩
 have:=Str.mk.inj (V.str.inj h)
 simpa using this
theorem tM:aC ["self","letter","sign"] ["self","letter","sign"] (aq dW):=⟨rfl,rfl,rfl,by decide+kernel,rfl,by decide+kernel,by decide+kernel⟩
theorem eQ (T:Txt K mg):zj P w K mg base 4 "One" "__init__" ["self","letter","sign"] (Q3 mg):=by
 have iB:=iB (P:=P) (w:=w) (base:=base) T
 have aY:=aY (P:=P) (w:=w) (base:=base) T
 refine N5 T.m_One___init__ tM (fun _ _ _ _ _ _ us hl=>L2.wD (fun _ _ _=>rfl) us hl) ?_ fun f cdv A outer s H vs Q E hr h=>?_
 ·rintro vs H Q E ⟨x,dx,c,d,rfl,_⟩;rfl
 obtain ⟨x,dx,c,d,rfl,hx,hc,hd,q⟩:=h
 have hu:=hr.units0
 have hu64:=hr.units
 refine ⟨_,(az (bD (aF iB (hr.mono (by decide)) (aU XQ) (aa (ao 1 Us) ak) (by decide+kernel))) (az (bD (aF iB (hr.mono (by decide)) (aU XQ) (aa (ao 2 Ut) ak) (by decide+kernel))) (aA (bD (xx aY (hr.mono (by decide)) (aU kz40) bU (aa (ao 0 kz43) (aa (ao 1 Us) (aa (ao 2 Ut) (aa gC (aa (j_if (bR (jW (K:=K) rfl hu64) (ao 1 Us) (ao 2 Ut) (by first | exact aV _ | with_unfolding_all rfl)) (gA (aa aH (aa aH ak))) (gA (aa aH (aa aH ak)))) (aa (gA ak) ak)))))) (by decide+kernel)))))),?_⟩
 walk_at "sts"
 refine ⟨c,rfl,hc,?_⟩
 walk_at "sts"
 refine ⟨d,rfl,hd,?_⟩
 walk_at "sts"
 have fin:∀ (l p:Addr) (H2:Hp) (Q':VK),(∀ G,Q .non G→Q' .non G)→Same H H2→H2 l=some (.lst ((nI (LN 1 1 (Aa ⟨#[c]⟩ ⟨#[d]⟩))).map V.int))→H2 p=some (.lst [])→xW mg [.ref x,.str ⟨#[c]⟩,.str ⟨#[d]⟩,.str (Str.ofString "one"),.ref l,.ref p] H2 Q' E:=fun l p H2 Q' hQ U hl hp=>by
  refine ⟨x,dx,l,p,"One",_,_,_,_,[],[],rfl,by unfold Gw;simp,U _ _ hx,hl,hp,by simp,tX,fun h H3 hh C3 P3 N3=>?_⟩
  obtain rfl:=BK hh
  exact hQ _ (q H3 (fun b o n e=>C3 b o n (U _ _ e)) ⟨P3,qO hc,qO hd⟩ fun m o hm nm=>⟨N3 m o (U _ _ hm) nm,qO hc,qO hd⟩)
 rw [Ko]
 have eE:Aa ⟨#[c]⟩ ⟨#[d]⟩ 0 0=decide (c=d):=rfl
 by_cases h:c=d
 ·rw [decide_eq_true h]
  walk_at "sts"
  refine dR rfl fun l H2 nl S2 hl=>?_
  walk_at "sts"
  refine dR rfl fun p H3 np S3 hp=>?_
  walk_at "sts"
  refine fin l p H3 _ (fun G z=>z) (S2.trans S3) ?_ hp
  rw [Km,eE,decide_eq_true h,if_pos rfl]
  exact S3 _ _ hl
 ·rw [decide_eq_false h]
  walk_at "sts"
  refine dR rfl fun l H2 nl S2 hl=>?_
  walk_at "sts"
  refine dR rfl fun p H3 np S3 hp=>?_
  walk_at "sts"
  refine fin l p H3 _ (fun G z=>z) (S2.trans S3) ?_ hp
  rw [Km,eE,decide_eq_false h,if_neg (by decide)]
  exact S3 _ _ hl
end
section
variable {P:Program} {w:World} {K:PySem.W.Frag} {mg:Str→Option Value} {base:Heap}
theorem kz45:bM aR "Piece":=by decide+kernel
theorem Kp:bz aR "lower":=by decide+kernel
theorem BL:bz aR "upper":=by decide+kernel
theorem XR:bz aR "lines":=by decide+kernel
theorem Uu:bz aR "side":=by decide+kernel
theorem kz4a:bz aR "self":=by decide+kernel
theorem kz4b:bM aR "lines_over":=by decide+kernel
theorem kz4c:bM aR "len":=by decide+kernel
theorem kz4d:bM aR "need_short":=by decide+kernel
theorem kz4e:bM aR "need_same":=by decide+kernel
theorem kz4f:bM aR "need_pieces":=by decide+kernel
theorem jd (a b:Str):(a ++ b).cps.toList=a.cps.toList ++ b.cps.toList:=by
 show (a.cps ++ b.cps).toList=_
 simp
theorem oX (a b:Str):(a ++ b).cps.size=a.cps.size+b.cps.size:=by
 rw [← Array.length_toList,jd,List.length_append,Array.length_toList,Array.length_toList]
theorem getD_list (z:Str) (i:Nat):z.cps.getD i 0=z.cps.toList.getD i 0:=by
 rw [List.getD_eq_getElem?_getD,Array.getElem?_toList,Array.getD_eq_getD_getElem?]
theorem Kq {a b:Str} {i:Nat} (h:i < a.cps.size):(a ++ b).cps.getD i 0=a.cps.getD i 0:=by
 rw [getD_list,getD_list,jd,List.getD_eq_getElem?_getD,List.getElem?_append_left (by simpa using h),List.getD_eq_getElem?_getD]
theorem Ks {a b:Str} {i:Nat}:(a ++ b).cps.getD (a.cps.size+i) 0=b.cps.getD i 0:=by
 rw [getD_list,getD_list,jd,List.getD_eq_getElem?_getD,List.getElem?_append_right (by simp),Array.length_toList,Nat.add_sub_cancel_left,List.getD_eq_getElem?_getD]
theorem tY {a b:Str} (ha:Row a) (hb:Row b) (h:(a ++ b).length≤48):Row (a ++ b):=⟨h,fun c hc=>by
 rw [jd] at hc
 exact (List.mem_append.mp hc).elim (ha.2 c) (hb.2 c)⟩
theorem PG.isP {H:Hp} {x:Addr} {y side top kind:Str} {ps:List V} {h:Nat} (p:PG mg H x y side top kind ps h):IsP mg H (.ref x):=⟨x,y,side,top,kind,_,ps,h,rfl,p.pc⟩
theorem xZ {H:Hp} {u l:Addr} {y s t k y' s' t' k':Str} {ps ps':List V} {h h':Nat} (p:PG mg H u y s t k ps h) (p':PG mg H l y' s' t' k' ps' h'):PsH mg H [.ref u,.ref l] [h,h']:=⟨rfl,fun i v n e1 e2=>by
 match i,e1,e2 with
 | 0,e1,e2=>cases e1;cases e2;exact ⟨u,y,s,t,k,_,ps,rfl,p.pc⟩
 | 1,e1,e2=>cases e1;cases e2;exact ⟨l,y',s',t',k',_,ps',rfl,p'.pc⟩
 | i+2,e1,e2=>cases e1⟩
def Dv (mg:Str→Option Value):Sp:=fun vs H Q _=>∃ (x dx u l:Addr) (yu yl su sl top ku kl:Str) (pu pl:List V) (hu hl:Nat),vs=[.ref x,.ref u,.ref l]∧H x=some (.ins (aD mg "Over") dx [])∧PG mg H u yu su top ku pu hu∧PG mg H l yl sl top kl pl hl∧(su ++ sl).length≤48∧
 ∀ h H',uR [hu,hl] h→Chg x H H'→PG mg H' x "Over" (su ++ sl) top (Str.ofString "over") [.ref u,.ref l] h→(∀ m o,H m=some o→m≠x→PG mg (Hx m H') x "Over" (su ++ sl) top (Str.ofString "over") [.ref u,.ref l] h)→Q .non H'
theorem j4:aC ["self","upper","lower","side","lines"] ["self","upper","lower"] (aq aR):=⟨rfl,rfl,rfl,by decide+kernel,rfl,by decide+kernel,by decide+kernel⟩
theorem kY (T:Txt K mg):zj P w K mg base 9 "Over" "__init__" ["self","upper","lower"] (Dv mg):=by
 have gR:=gR (P:=P) (w:=w) (base:=base) T
 have ju:=ju (P:=P) (w:=w) (base:=base) T
 have b8:=b8 (P:=P) (w:=w) (base:=base) T
 have bQ:=bQ (P:=P) (w:=w) (base:=base) T
 have iG:=iG (P:=P) (w:=w) (base:=base) T
 have nQ:=nQ (P:=P) (w:=w) (base:=base) T
 have bW:=bW (P:=P) (w:=w) (base:=base) T
 have aY:=aY (P:=P) (w:=w) (base:=base) T
 refine N5 T.m_Over___init__ j4 (fun _ _ _ _ _ _ us hl=>L2.wD (fun _ _ _=>rfl) us hl) ?_ fun f cdv A outer s H vs Q E hr h=>?_
 ·rintro vs H Q E ⟨x,dx,u,l,yu,yl,su,sl,top,ku,kl,pu,pl,nu,nl,rfl,_⟩;rfl
 obtain ⟨x,dx,u,l,yu,yl,su,sl,top,ku,kl,pu,pl,nu,nl,rfl,hx,gu,gl,hlen,q⟩:=h
 have hu:=hr.units0
 have hu64:=hr.units
 refine ⟨_,(az (bD (aF gR (hr.mono (by decide)) (aU kz4f) (aa (ao 1 BL) (aa (ao 2 Kp) ak)) (by decide+kernel))) (az (bD (aF ju (hr.mono (by decide)) (aU kz4e) (aa (aL (mg:=mg) rfl (ao 1 BL) T.os_Piece b8 (hr.mono (by decide)) bU) (aa (aL (mg:=mg) rfl (ao 2 Kp) T.os_Piece b8 (hr.mono (by decide)) bU) ak)) (by decide+kernel))) (az (aP (i:=3) j4.nd rfl (Or.inl Uu) (bN aW (aL (mg:=mg) rfl (ao 1 BL) T.os_Piece bQ (hr.mono (by decide)) bU) (aL (mg:=mg) rfl (ao 2 Kp) T.os_Piece bQ (hr.mono (by decide)) bU)) rfl) (az (bD (aF iG (hr.mono (by decide)) (aU kz4d) (aa (ao 3 Uu) ak) (by decide+kernel))) (az (aP (i:=4) j4.nd rfl (Or.inl XR) (aF nQ (hr.mono (by decide)) (aU kz4b) (aa (aL (mg:=mg) rfl (ao 1 BL) T.os_Piece bW (hr.mono (by decide)) bU) (aa (aL (mg:=mg) rfl (ao 2 Kp) T.os_Piece bW (hr.mono (by decide)) bU) (aa (aG (aJ (K:=K) rfl) (aU kz4c) T.b_len bC (aa (aL (mg:=mg) rfl (ao 1 BL) T.os_Piece b8 (hr.mono (by decide)) bU) ak) (by decide+kernel) (by decide+kernel)) ak))) (by decide+kernel)) rfl) (aA (bD (xx aY (hr.mono (by decide)) (aU kz45) bU (aa (ao 0 kz4a) (aa (ao 3 Uu) (aa (aL (mg:=mg) rfl (ao 1 BL) T.os_Piece b8 (hr.mono (by decide)) bU) (aa gC (aa (ao 4 XR) (aa (gA (aa (ao 1 BL) (aa (ao 2 Kp) ak))) ak)))))) (by decide+kernel))))))))),?_⟩
 walk_at "sts"
 have hz:20000≤sizeLine:=by decide
 have h2:top.length≤48:=gu.rt.1
 have ly:top.length≤sizeLine:=by omega
 have et:top.length=top.cps.size:=rfl
 have es:(su ++ sl).length=(su ++ sl).cps.size:=rfl
 have ec:=oX su sl
 have el:(su ++ sl).length=su.length+sl.length:=oX su sl
 refine ⟨_,_,rfl,gu.isP,gl.isP,fun H1 S1=>?_⟩
 walk_at "sts"
 have gu1:=gu.same S1
 have gl1:=gl.same S1
 obtain ⟨hyu,du,au,bu,xu,_,_⟩:=id gu1.pc
 obtain ⟨hyl,dl,al',bl,xl,_,_⟩:=id gl1.pc
 refine ⟨u,yu,du,_,rfl,hyu,xu,rfl,?_⟩
 walk_at "sts"
 refine ⟨u,yu,_,_,_,_,_,_,rfl,gu1.pc,?_⟩
 walk_at "sts"
 refine ⟨l,yl,dl,_,rfl,hyl,xl,rfl,?_⟩
 walk_at "sts"
 refine ⟨l,yl,_,_,_,_,_,_,rfl,gl1.pc,?_⟩
 walk_at "sts"
 refine ⟨top,rfl,?_⟩
 walk_at "sts"
 refine ⟨u,yu,du,_,rfl,hyu,xu,rfl,?_⟩
 walk_at "sts"
 refine ⟨u,yu,_,_,_,_,_,_,rfl,gu1.pc,?_⟩
 walk_at "sts"
 refine ⟨l,yl,dl,_,rfl,hyl,xl,rfl,?_⟩
 walk_at "sts"
 refine ⟨l,yl,_,_,_,_,_,_,rfl,gl1.pc,?_⟩
 walk_at "sts"
 refine Bb (by omega) ?_
 walk_at "sts"
 refine ⟨su ++ sl,rfl,hlen,?_⟩
 walk_at "sts"
 refine ⟨u,yu,du,_,rfl,hyu,xu,rfl,?_⟩
 walk_at "sts"
 refine ⟨u,yu,_,_,_,_,_,_,rfl,gu1.pc,fun ru H2 nru S2 hru=>?_⟩
 walk_at "sts"
 refine ⟨l,yl,dl,_,rfl,hyl,S2 _ _ xl,rfl,?_⟩
 walk_at "sts"
 refine ⟨l,yl,_,_,_,_,_,_,rfl,gl1.pc.same S2,fun rl H3 nrl S3 hrl=>?_⟩
 walk_at "sts"
 have U3:=S2.trans S3
 refine ⟨u,yu,du,_,rfl,hyu,U3 _ _ xu,rfl,?_⟩
 walk_at "sts"
 refine ⟨u,yu,_,_,_,_,_,_,rfl,gu1.pc.same U3,?_⟩
 walk_at "sts"
 refine gG ly ?_
 walk_at "sts"
 refine ⟨ru,rl,su.cps.size,sl.cps.size,top.cps.size,Aa (su ++ sl) top,rfl,by omega,?_,?_,fun rr H4 nrr S4 hrr=>?_⟩
 walk_at "sts"
 ·rw [qM (e':=Aa su top) fun i j hi hj=>by unfold Aa;rw [Kq hi]]
  exact S3 _ _ hru
 ·rw [qM (e':=Aa sl top) fun i j hi hj=>by unfold Aa;rw [Ks]]
  exact hrl
 have U4:=U3.trans S4
 walk_at "sts"
 refine ⟨u,yu,du,_,rfl,hyu,U4 _ _ xu,rfl,?_⟩
 walk_at "sts"
 refine ⟨u,yu,_,_,_,_,_,_,rfl,gu1.pc.same U4,?_⟩
 walk_at "sts"
 refine dR rfl fun pp H5 npp S5 hpp=>?_
 walk_at "sts"
 have U5:=S1.trans (U4.trans S5)
 refine ⟨x,dx,rr,pp,"Over",su ++ sl,top,_,_,_,[nu,nl],rfl,by unfold Gw;simp,U5 _ _ hx,S5 _ _ hrr,hpp,by simp,xZ (gu.same U5) (gl.same U5),fun h H6 hh C6 P6 N6=>?_⟩
 rw [← ec] at P6 N6
 exact q h H6 hh (fun b o n e=>C6 b o n (U5 _ _ e)) ⟨P6,tY gu.rs gl.rs hlen,gu.rt⟩ fun m o hm nm=>⟨N6 m o (U5 _ _ hm) nm,tY gu.rs gl.rs hlen,gu.rt⟩
end
section
variable {P:Program} {w:World} {K:PySem.W.Frag} {mg:Str→Option Value} {base:Heap}
theorem kz4g:bM aN "Piece":=by decide+kernel
theorem Ku:bz aN "right":=by decide+kernel
theorem BP:bz aN "left":=by decide+kernel
theorem XS:bz aN "lines":=by decide+kernel
theorem Uv:bz aN "top":=by decide+kernel
theorem kz4l:bz aN "self":=by decide+kernel
theorem kz4m:bM aN "lines_beside":=by decide+kernel
theorem kz4n:bM aN "len":=by decide+kernel
theorem kz4o:bM aN "need_short":=by decide+kernel
theorem kz4p:bM aN "need_same":=by decide+kernel
theorem kz4q:bM aN "need_pieces":=by decide+kernel
def wA (mg:Str→Option Value):Sp:=fun vs H Q _=>∃ (x dx u l:Addr) (yu yl side tu tl ku kl:Str) (pu pl:List V) (hu hl:Nat),vs=[.ref x,.ref u,.ref l]∧H x=some (.ins (aD mg "Beside") dx [])∧PG mg H u yu side tu ku pu hu∧PG mg H l yl side tl kl pl hl∧(tu ++ tl).length≤48∧
 ∀ h H',uR [hu,hl] h→Chg x H H'→PG mg H' x "Beside" side (tu ++ tl) (Str.ofString "beside") [.ref u,.ref l] h→(∀ m o,H m=some o→m≠x→PG mg (Hx m H') x "Beside" side (tu ++ tl) (Str.ofString "beside") [.ref u,.ref l] h)→Q .non H'
theorem jk:aC ["self","left","right","top","lines"] ["self","left","right"] (aq aN):=⟨rfl,rfl,rfl,by decide+kernel,rfl,by decide+kernel,by decide+kernel⟩
theorem dX (T:Txt K mg):zj P w K mg base 9 "Beside" "__init__" ["self","left","right"] (wA mg):=by
 have gR:=gR (P:=P) (w:=w) (base:=base) T
 have ju:=ju (P:=P) (w:=w) (base:=base) T
 have bQ:=bQ (P:=P) (w:=w) (base:=base) T
 have b8:=b8 (P:=P) (w:=w) (base:=base) T
 have iG:=iG (P:=P) (w:=w) (base:=base) T
 have lQ:=lQ (P:=P) (w:=w) (base:=base) T
 have bW:=bW (P:=P) (w:=w) (base:=base) T
 have aY:=aY (P:=P) (w:=w) (base:=base) T
 refine N5 T.m_Beside___init__ jk (fun _ _ _ _ _ _ us hl=>L2.wD (fun _ _ _=>rfl) us hl) ?_ fun f cdv A outer s H vs Q E hr h=>?_
 ·rintro vs H Q E ⟨x,dx,u,l,yu,yl,side,tu,tl,ku,kl,pu,pl,nu,nl,rfl,_⟩;rfl
 obtain ⟨x,dx,u,l,yu,yl,side,tu,tl,ku,kl,pu,pl,nu,nl,rfl,hx,gu,gl,hlen,q⟩:=h
 have hu:=hr.units0
 have hu64:=hr.units
 refine ⟨_,(az (bD (aF gR (hr.mono (by decide)) (aU kz4q) (aa (ao 1 BP) (aa (ao 2 Ku) ak)) (by decide+kernel))) (az (bD (aF ju (hr.mono (by decide)) (aU kz4p) (aa (aL (mg:=mg) rfl (ao 1 BP) T.os_Piece bQ (hr.mono (by decide)) bU) (aa (aL (mg:=mg) rfl (ao 2 Ku) T.os_Piece bQ (hr.mono (by decide)) bU) ak)) (by decide+kernel))) (az (aP (i:=3) jk.nd rfl (Or.inl Uv) (bN aW (aL (mg:=mg) rfl (ao 1 BP) T.os_Piece b8 (hr.mono (by decide)) bU) (aL (mg:=mg) rfl (ao 2 Ku) T.os_Piece b8 (hr.mono (by decide)) bU)) rfl) (az (bD (aF iG (hr.mono (by decide)) (aU kz4o) (aa (ao 3 Uv) ak) (by decide+kernel))) (az (aP (i:=4) jk.nd rfl (Or.inl XS) (aF lQ (hr.mono (by decide)) (aU kz4m) (aa (aL (mg:=mg) rfl (ao 1 BP) T.os_Piece bW (hr.mono (by decide)) bU) (aa (aL (mg:=mg) rfl (ao 2 Ku) T.os_Piece bW (hr.mono (by decide)) bU) (aa (aG (aJ (K:=K) rfl) (aU kz4n) T.b_len bC (aa (aL (mg:=mg) rfl (ao 1 BP) T.os_Piece bQ (hr.mono (by decide)) bU) ak) (by decide+kernel) (by decide+kernel)) ak))) (by decide+kernel)) rfl) (aA (bD (xx aY (hr.mono (by decide)) (aU kz4g) bU (aa (ao 0 kz4l) (aa (aL (mg:=mg) rfl (ao 1 BP) T.os_Piece bQ (hr.mono (by decide)) bU) (aa (ao 3 Uv) (aa gC (aa (ao 4 XS) (aa (gA (aa (ao 1 BP) (aa (ao 2 Ku) ak))) ak)))))) (by decide+kernel))))))))),?_⟩
 walk_at "sts"
 have hz:20000≤sizeLine:=by decide
 have h2:side.length≤48:=gu.rs.1
 have ly:side.length≤sizeLine:=by omega
 have et:side.length=side.cps.size:=rfl
 have es:(tu ++ tl).length=(tu ++ tl).cps.size:=rfl
 have ec:=oX tu tl
 have el:(tu ++ tl).length=tu.length+tl.length:=oX tu tl
 refine ⟨_,_,rfl,gu.isP,gl.isP,fun H1 S1=>?_⟩
 walk_at "sts"
 have gu1:=gu.same S1
 have gl1:=gl.same S1
 obtain ⟨hyu,du,au,bu,xu,_,_⟩:=id gu1.pc
 obtain ⟨hyl,dl,al',bl,xl,_,_⟩:=id gl1.pc
 refine ⟨u,yu,du,_,rfl,hyu,xu,rfl,?_⟩
 walk_at "sts"
 refine ⟨u,yu,_,_,_,_,_,_,rfl,gu1.pc,?_⟩
 walk_at "sts"
 refine ⟨l,yl,dl,_,rfl,hyl,xl,rfl,?_⟩
 walk_at "sts"
 refine ⟨l,yl,_,_,_,_,_,_,rfl,gl1.pc,?_⟩
 walk_at "sts"
 refine ⟨side,rfl,?_⟩
 walk_at "sts"
 refine ⟨u,yu,du,_,rfl,hyu,xu,rfl,?_⟩
 walk_at "sts"
 refine ⟨u,yu,_,_,_,_,_,_,rfl,gu1.pc,?_⟩
 walk_at "sts"
 refine ⟨l,yl,dl,_,rfl,hyl,xl,rfl,?_⟩
 walk_at "sts"
 refine ⟨l,yl,_,_,_,_,_,_,rfl,gl1.pc,?_⟩
 walk_at "sts"
 refine Bb (by omega) ?_
 walk_at "sts"
 refine ⟨tu ++ tl,rfl,hlen,?_⟩
 walk_at "sts"
 refine ⟨u,yu,du,_,rfl,hyu,xu,rfl,?_⟩
 walk_at "sts"
 refine ⟨u,yu,_,_,_,_,_,_,rfl,gu1.pc,fun ru H2 nru S2 hru=>?_⟩
 walk_at "sts"
 refine ⟨l,yl,dl,_,rfl,hyl,S2 _ _ xl,rfl,?_⟩
 walk_at "sts"
 refine ⟨l,yl,_,_,_,_,_,_,rfl,gl1.pc.same S2,fun rl H3 nrl S3 hrl=>?_⟩
 walk_at "sts"
 have U3:=S2.trans S3
 refine ⟨u,yu,du,_,rfl,hyu,U3 _ _ xu,rfl,?_⟩
 walk_at "sts"
 refine ⟨u,yu,_,_,_,_,_,_,rfl,gu1.pc.same U3,?_⟩
 walk_at "sts"
 refine gG ly ?_
 walk_at "sts"
 refine ⟨ru,rl,side.cps.size,tu.cps.size,tl.cps.size,Aa side (tu ++ tl),rfl,by omega,?_,?_,fun rr H4 nrr S4 hrr=>?_⟩
 walk_at "sts"
 ·rw [qM (e':=Aa side tu) fun i j hi hj=>by unfold Aa;rw [Kq hj]]
  exact S3 _ _ hru
 ·rw [qM (e':=Aa side tl) fun i j hi hj=>by unfold Aa;rw [Ks]]
  exact hrl
 have U4:=U3.trans S4
 walk_at "sts"
 refine ⟨u,yu,du,_,rfl,hyu,U4 _ _ xu,rfl,?_⟩
 walk_at "sts"
 refine ⟨u,yu,_,_,_,_,_,_,rfl,gu1.pc.same U4,?_⟩
 walk_at "sts"
 refine dR rfl fun pp H5 npp S5 hpp=>?_
 walk_at "sts"
 have U5:=S1.trans (U4.trans S5)
 refine ⟨x,dx,rr,pp,"Beside",side,tu ++ tl,_,_,_,[nu,nl],rfl,by unfold Gw;simp,U5 _ _ hx,S5 _ _ hrr,hpp,by simp,xZ (gu.same U5) (gl.same U5),fun h H6 hh C6 P6 N6=>?_⟩
 rw [← ec] at P6 N6
 exact q h H6 hh (fun b o n e=>C6 b o n (U5 _ _ e)) ⟨P6,gu.rs,tY gu.rt gl.rt hlen⟩ fun m o hm nm=>⟨N6 m o (U5 _ _ hm) nm,gu.rs,tY gu.rt gl.rt hlen⟩
end
section
variable {P:Program} {w:World} {K:PySem.W.Frag} {mg:Str→Option Value} {base:Heap}
theorem vo:(["_law_number"]:List Str).Nodup:=by decide+kernel
theorem Uw:bz jZ "_law_k":=by decide+kernel
theorem kz4s:bM jZ "len":=by decide+kernel
theorem XX:bz jZ "_law_script":=by decide+kernel
theorem Gg:bz lC "_law_number":=by decide+kernel
theorem X3:bz lC "_law_k":=by decide+kernel
theorem kz4w:bz lC "_law_cell_here":=by decide+kernel
theorem X4:bM iy "isinstance":=by decide+kernel
theorem kz4y:bM iy "bool":=by decide+kernel
theorem X5:bz iy "_law_thing":=by decide+kernel
theorem kz50:bM iy "int":=by decide+kernel
theorem Pk:bz dU "_law_found":=by decide+kernel
theorem kz52:bM dU "enumerate":=by decide+kernel
theorem kz53:bz dU "_law_bases":=by decide+kernel
theorem Pq:bz dU "_law_base_here":=by decide+kernel
theorem X6:bz dU "_law_k":=by decide+kernel
theorem Ux:bz dU "_law_cell_here":=by decide+kernel
theorem kz57:bM dU "_law_mix":=by decide+kernel
theorem Pr:bz dU "_law_left":=by decide+kernel
theorem X7:bM gK "len":=by decide+kernel
theorem Uy:bz gK "_law_found":=by decide+kernel
theorem X8:bz gK "_law_due":=by decide+kernel
theorem kz5c:bM gK "isinstance":=by decide+kernel
theorem kz5d:bM gK "list":=by decide+kernel
theorem yc {H H':Hp} {a:Addr} {xs:List V} (h:SqL K H a xs) (s:Same H H'):SqL K H' a xs:=by
 rcases h with (h | ⟨o,h⟩) | h
 ·exact .inl (.inl (s _ _ h))
 ·exact .inl (.inr ⟨o,s _ _ h⟩)
 ·exact .inr h
def Uz (K:PySem.W.Frag):Sp:=fun vs H Q _=>∃ (a:Addr) (ns:List Int) (k:Int),vs=[.ref a,.int k]∧SqL K H a (ns.map V.int)∧0≤k∧∀ n,Q (.int n) H
theorem zR:aC ["_law_script","_law_k"] ["_law_script","_law_k"] (aq jZ):=⟨rfl,rfl,rfl,by decide+kernel,rfl,by decide+kernel,by decide+kernel⟩
theorem lR (T:Txt K mg):Has P w K mg base 1 "_law_cell" ["_law_script","_law_k"] (Uz K):=by
 refine gr T.d_law_cell zR (fun _ _ _ _ _ _ us hl=>L2.ou (fun _ _=>rfl) us hl) ?_ fun f cdv A outer s H vs Q E hr h=>?_
 ·rintro vs H Q E ⟨a,ns,k,rfl,_⟩;rfl
 obtain ⟨a,ns,k,rfl,hS,h0,q⟩:=h
 have hu:=hr.units0
 have hu64:=hr.units
 refine ⟨_,(az (cP (bR Hi (ao 1 Uw) (aG (aJ (K:=K) rfl) (aU kz4s) T.b_len bC (aa (ao 0 XX) ak) (by decide+kernel) (by decide+kernel)) (by first | exact aV _ | with_unfolding_all rfl)) (aA (aK (jV (K:=K) rfl (ao 0 XX) (ao 1 Uw)))) bB) (aA (aK (bN aW (bN lW aH (ao 1 Uw)) aH)))),?_⟩
 walk_at "sts"
 refine ⟨_,_,rfl,.inl ⟨_,hS,rfl⟩,?_⟩
 walk_at "sts"
 refine Et (fun hk=>?_) (fun hk=>?_)
 ·rw [List.length_map] at hk
  walk_at "sts"
  refine cu hS (tQ (v:=.int (ns.getD k.toNat 0)) h0 ?_) (q _)
  rw [List.getElem?_map,List.getD_eq_getElem?_getD,List.getElem?_eq_getElem (by omega)];rfl
 ·walk_at "sts"
  exact q _
def Yb:Sp:=fun vs H Q _=>∃ n k:Int,vs=[.int n,.int k]∧∀ r,0≤r→r < 2147483587→Q (.int r) H
theorem qd:aC ["_law_cell_here","_law_k","_law_number"] ["_law_cell_here","_law_k"] (aq lC):=⟨rfl,rfl,rfl,by decide+kernel,rfl,by decide+kernel,by decide+kernel⟩
theorem j5 (T:Txt K mg):Has P w K mg base 1 "_law_mix" ["_law_cell_here","_law_k"] Yb:=by
 refine gr T.d_law_mix qd (fun _ _ _ _ _ _ us hl=>L2.ou (fun _ _=>rfl) us hl) ?_ fun f cdv A outer s H vs Q E hr h=>?_
 ·rintro vs H Q E ⟨n,k,rfl,_⟩;rfl
 obtain ⟨n,k,rfl,q⟩:=h
 have hu:=hr.units0
 have hu64:=hr.units
 refine ⟨_,(az (aP (i:=2) qd.nd rfl (Or.inl Gg) (bN mX (bN aW (bN aW (bN lW (bN mX (ao 0 kz4w) aH) aH) (bN lW aH (ao 1 X3))) aH) aH) rfl) (az (aP (i:=2) qd.nd rfl (Or.inl Gg) (bN mX (bN aW (bN aW (bN lW (ao 2 Gg) (ao 2 Gg)) (bN lW aH (ao 1 X3))) aH) aH) rfl) (aA (aK (bN mX (bN lW (ao 2 Gg) (bN aW (ao 2 Gg) aH)) aH))))),?_⟩
 walk_at "sts"
 exact q _ (by omega) (by omega)
def Pu:Sp:=fun vs H Q _=>∃ n:Int,vs=[.int n]∧Q (.bl true) H
theorem yd:aC ["_law_thing"] ["_law_thing"] (aq iy):=⟨rfl,rfl,rfl,by decide+kernel,rfl,by decide+kernel,by decide+kernel⟩
theorem jx (T:Txt K mg):Has P w K mg base 1 "_law_whole" ["_law_thing"] Pu:=by
 refine gr T.d_law_whole yd (fun _ _ _ _ _ _ us hl=>L2.jU (fun _=>rfl) us hl) ?_ fun f cdv A outer s H vs Q E hr h=>?_
 ·rintro vs H Q E ⟨n,rfl,_⟩;rfl
 obtain ⟨n,rfl,q⟩:=h
 have hu:=hr.units0
 have hu64:=hr.units
 refine ⟨_,(aA (aK (sr (aG (jn (K:=K) rfl) (aU X4) T.b_isinstance bj (aa (ao 0 X5) (aa (u5 (aU kz50) T.b_int Ba (by decide+kernel) (by decide+kernel)) ak)) (by decide+kernel) (by decide+kernel)) (rZ (Qy (aG (jn (K:=K) rfl) (aU X4) T.b_isinstance bj (aa (ao 0 X5) (aa (u5 (aU kz4y) T.b_bool Cz (by decide+kernel) (by decide+kernel)) ak)) (by decide+kernel) (by decide+kernel))))))),?_⟩
 walk_at "sts"
 refine oG (.int _) rfl ?_
 walk_at "sts"
 refine oG (.int _) rfl ?_
 walk_at "sts"
 exact q
def Fits (ms bs:List Int):Prop:=ms.length=bs.length∧∀ (i:Nat) (m b:Int),ms[i]?=some m→bs[i]?=some b→0≤m∧m < b
theorem Fits.push {ms bs:List Int} {k:Nat} {m b:Int} (h:Fits ms (bs.take k)) (hb:bs[k]?=some b) (h0:0≤m) (h1:m < b):Fits (ms ++ [m]) (bs.take (k+1)):=by
 have hk:k < bs.length:=(List.getElem?_eq_some_iff.mp hb).1
 have hl:ms.length=k:=by rw [h.1,List.length_take];omega
 refine ⟨by simp;omega,fun i m' b' e1 e2=>?_⟩
 by_cases hi:i < k
 ·rw [List.getElem?_append_left (by omega)] at e1
  rw [List.getElem?_take_of_lt (by omega)] at e2
  exact h.2 i m' b' e1 (by rw [List.getElem?_take_of_lt hi];exact e2)
 ·have hi2:i < k+1:=by have:=(List.getElem?_eq_some_iff.mp e1).1;simp at this;omega
  obtain rfl:i=k:=by omega
  rw [List.getElem?_append_right (by omega),hl,Nat.sub_self] at e1
  rw [List.getElem?_take_of_lt (by omega),hb] at e2
  cases e1;cases e2
  exact ⟨h0,h1⟩
def Px (K:PySem.W.Frag):Sp:=fun vs H Q _=>∃ (n:Int) (b:Addr) (bs:List Int),vs=[.int n,.ref b]∧H b=some (.lst (bs.map V.int))∧bs.length≤100∧(∀ x∈bs,0 < x∧x < 1606938044258990275541962092341162602522202993782792835301376)∧
 ∀ (q:Addr) (ms:List Int) (H':Hp),H q=none→Same H H'→H' q=some (.lst (ms.map V.int))→Fits ms bs→Q (.ref q) H'
theorem iH:aC ["_law_cell_here","_law_bases","_law_found","_law_left","_law_k","_law_base_here"] ["_law_cell_here","_law_bases"] (aq dU):=⟨rfl,rfl,rfl,by decide+kernel,rfl,by decide+kernel,by decide+kernel⟩
theorem my (T:Txt K mg):Has P w K mg base 2 "_law_takes" ["_law_cell_here","_law_bases"] (Px K):=by
 have j5:=j5 (P:=P) (w:=w) (base:=base) T
 refine gr T.d_law_takes iH (fun _ _ _ _ _ _ us hl=>L2.ou (fun _ _=>rfl) us hl) ?_ fun f cdv A outer s H vs Q E hr h=>?_
 ·rintro vs H Q E ⟨n,b,bs,rfl,_⟩;rfl
 obtain ⟨n,b,bs,rfl,hb,hlen,hbs,q⟩:=h
 have hu:=hr.units0
 have hu64:=hr.units
 refine ⟨_,(az (aP (i:=2) iH.nd rfl (Or.inl Pk) (gA ak) rfl) (az (aP (i:=3) iH.nd rfl (Or.inl Pr) (ao 0 Ux) rfl) (az (jC PassesOwn.never rfl (w6 (K:=K) rfl rfl (aU kz52) T.b_enumerate (aa (ao 1 kz53) ak)) (Bd (K:=K) rfl rfl (iR (dJ (i:=4) iH.nd rfl (Or.inl X6) rfl) (iR (dJ (i:=5) iH.nd rfl (Or.inl Pq) rfl) tU))) (aA (cP (bR Hi (ao 0 Ux) (bN RD aH aH) (by first | exact aV _ | with_unfolding_all rfl)) (aA (bD (rn (K:=K) rfl PySem.F.plainAttrs_list PySem.F.slot_list_append PySem.F.type_list_append o9 (ao 2 Pk) (aa (bN mX (aF j5 (hr.mono (by decide)) (aU kz57) (aa (ao 0 Ux) (aa (ao 4 X6) ak)) (by decide+kernel)) (ao 5 Pq)) ak)))) (az (bD (rn (K:=K) rfl PySem.F.plainAttrs_list PySem.F.slot_list_append PySem.F.type_list_append o9 (ao 2 Pk) (aa (bN mX (ao 3 Pr) (ao 5 Pq)) ak))) (aA (aP (i:=3) iH.nd rfl (Or.inl Pr) (bN zb (ao 3 Pr) (ao 5 Pq)) rfl)))))) (aA (aK (ao 2 Pk)))))),?_⟩
 walk_at "sts"
 have hs:1000≤sizeLine:=by decide
 refine uC rfl fun f nf=>?_
 walk_at "sts"
 refine .inr ⟨b,_,rfl,SqL.of (fj nf hb),?_⟩
 refine rz (K:=K) (xs:=bs.map V.int) (fun k σ H'=>∃ (l:Int) (ms:List Int) (x4 x5:Option V),σ=[some (.int n),some (.ref b),some (.ref f),some (.int l),x4,x5]∧Same H H'∧H' f=some (.lst (ms.map V.int))∧Fits ms (bs.take k))
  ⟨n,[],_,_,rfl,(Same.refl H).upd nf,aj,rfl,fun i m b e=>by simp at e⟩ (fun i σ H' _ h=>?_) ?_ ?_
 ·obtain ⟨_,_,_,_,_,s,_⟩:=h
  exact SqL.of (s _ _ hb)
 ·rintro k σ H' T v hk ⟨l,ms,x4,x5,rfl,s,hf,hF⟩ nT
  rw [List.getElem?_map] at hk
  obtain ⟨bb,hbb,rfl⟩:∃ y,bs[k]?=some y∧v=V.int y:=by
   cases e:bs[k]? with
   | none=>rw [e] at hk;cases hk
   | some y=>rw [e] at hk;exact ⟨y,rfl,(Option.some.inj hk).symm⟩
  obtain ⟨p0,p1⟩:=hbs bb (List.mem_of_getElem? hbb)
  have hml:ms.length≤100:=by rw [hF.1,List.length_take];omega
  have hf1:=fj nT (o:=.tup [.int k,.int bb]) hf
  have s1:=s.upd nT (o:=.tup [.int k,.int bb])
  refine b7 (SqT.of aj) rfl ?_
  walk_at "sts"
  refine Et (fun hg=>?_) (fun hg=>?_)
  ·walk_at "sts"
   refine ⟨.inl ⟨rfl,_,SqL.of hf1⟩,?_⟩
   walk_at "sts"
   refine ⟨_,_,rfl,fun r r0 r1=>?_⟩
   walk_at "sts"
   refine qH hf1 (by simp;omega) ?_
   walk_at "sts"
   refine ⟨_,ms ++ [r % bb],_,_,rfl,Same.put s1 nf,?_,hF.push hbb (Int.emod_nonneg _ (by omega)) (Int.emod_lt_of_pos _ p0)⟩
   rw [List.map_append];exact aj
  ·walk_at "sts"
   refine ⟨.inl ⟨rfl,_,SqL.of hf1⟩,?_⟩
   walk_at "sts"
   refine qH hf1 (by simp;omega) ?_
   walk_at "sts"
   refine ⟨_,ms ++ [l % bb],_,_,rfl,Same.put s1 nf,?_,hF.push hbb (Int.emod_nonneg _ (by omega)) (Int.emod_lt_of_pos _ p0)⟩
   rw [List.map_append];exact aj
 ·rintro σ H' ⟨l,ms,x4,x5,rfl,s,hf,hF⟩
  walk_at "sts"
  refine q f ms H' nf s hf ?_
  rw [List.length_map,List.take_length] at hF
  exact hF
def UG (K:PySem.W.Frag):Sp:=fun vs H Q _=>∃ (a b:Addr) (t:List Nat),vs=[.ref a,.ref b]∧H a=some (.lst ((nI t).map V.int))∧H b=some (.lst ((nI t).map V.int))∧t.length≤10000∧∀ H',Same H H'→Q (.bl true) H'
theorem zU:aC ["_law_found","_law_due"] ["_law_found","_law_due"] (aq gK):=⟨rfl,rfl,rfl,by decide+kernel,rfl,by decide+kernel,by decide+kernel⟩
theorem qe (T:Txt K mg):Has P w K mg base 2 "_law_list" ["_law_found","_law_due"] (UG K):=by
 have jx:=jx (P:=P) (w:=w) (base:=base) T
 refine gr T.d_law_list zU (fun _ _ _ _ _ _ us hl=>L2.ou (fun _ _=>rfl) us hl) ?_ fun f cdv A outer s H vs Q E hr h=>?_
 ·rintro vs H Q E ⟨a,b,t,rfl,_⟩;rfl
 obtain ⟨a,b,t,rfl,ha,hb,hl,q⟩:=h
 have hu:=hr.units0
 have hu64:=hr.units
 refine ⟨_,(az (cP (km (lJ (dY (dZ (aG (jn (K:=K) rfl) (aU kz5c) T.b_isinstance bj (aa (ao 0 Uy) (aa (u5 (aU kz5d) T.b_list j7 (by decide+kernel) (by decide+kernel)) ak)) (by decide+kernel) (by decide+kernel)))) (je (bR (xf (K:=K) rfl hu64) (ao 0 Uy) (ao 1 X8) (by first | exact aV _ | with_unfolding_all rfl))))) (aA (aK m6)) bB) (aA (aK (mL (jW (K:=K) rfl hu64) (aG (aJ (K:=K) rfl) (aU X7) T.b_len bC (aa (lK (sub:=[none]) (gO (N:=["_law_found","_law_due"]) (sc:=aq gK) (N':=["_law_number"]) (by decide+kernel)) rfl rfl rfl (jf (K:=K) rfl (ao 0 Uy)) (fun C s₀ H₀ ex=>(tD 0 (by decide+kernel) vo)) (fun C s₀ H₀ ex=>(MP (dZ (aF jx (hr.mono (by decide)) (Wf (by decide+kernel)) (aa (mK 0 (by decide+kernel)) ak) (by decide+kernel))))) (fun C s₀ H₀ ex=>(mK 0 (by decide+kernel)))) ak) (by decide+kernel) (by decide+kernel)) (aG (aJ (K:=K) rfl) (aU X7) T.b_len bC (aa (ao 1 X8) ak) (by decide+kernel) (by decide+kernel)) (by first | exact aV _ | with_unfolding_all rfl))))),?_⟩
 walk_at "sts"
 have hs:20000≤sizeLine:=by decide
 refine oG (.lst ha) rfl ?_
 walk_at "sts"
 refine .inl (.inr ⟨a,b,nI t,nI t,rfl,rfl,SqL.of ha,SqL.of hb,?_⟩)
 rw [decide_eq_true rfl]
 walk_at "sts"
 refine .inl ⟨a,rfl,⟨_,SqL.of ha⟩,?_⟩
 refine vY (xs:=(nI t).map V.int) (fun i ys H'=>H'=H∧ys.length=i) (by rw [bV];omega) ⟨rfl,rfl⟩ ?_ ?_ ?_ ?_
 ·rintro i ys H' ⟨_,h⟩
  omega
 ·rintro i ys H' ⟨rfl,_⟩
  exact SqL.of ha
 ·rintro i ys H' x hx ⟨rfl,hy⟩
  obtain ⟨n,_,rfl⟩:=zF hx
  walk_at "sts"
  refine ⟨KeepSt.set rfl,?_⟩
  walk_at "sts"
  refine ⟨_,rfl,?_⟩
  walk_at "sts"
  exact ⟨rfl,by simp;omega⟩
 ·rintro ys H' ⟨rfl,hy⟩ D hD
  walk_at "sts"
  refine gU (SqL.of aj) ?_
  walk_at "sts"
  refine gU (SqL.of (fj hD hb)) ?_
  walk_at "sts"
  rw [hy,zE,decide_eq_true rfl]
  exact q _ ((Same.refl H').upd hD)
end
section
variable {P:Program} {w:World} {K:PySem.W.Frag} {mg:Str→Option Value} {base:Heap}
def UJ (m:Nat) (e:Nat→Nat→Bool) (i j:Nat):List Nat:=(List.range j).flatMap fun j=>if e i j=true then [] else [m - 1 - i+j]
def stE (m far:Nat) (e:Nat→Nat→Bool) (i j:Nat):List Nat:=bw (List.range (m+far)) (al m far e i ++ UJ m e i j)
theorem zV (m far:Nat) (e:Nat→Nat→Bool) (i j:Nat):stE m far e i (j+1)=if e i j=true then stE m far e i j else aM (stE m far e i j) (m - 1 - i+j):=by
 unfold stE UJ
 rw [List.range_succ,List.flatMap_append,← List.append_assoc,kh]
 simp only [List.flatMap_cons,List.flatMap_nil,List.append_nil]
 split
 ·rfl
 ·rfl
theorem Dw (m far:Nat) (e:Nat→Nat→Bool) (i:Nat):stE m far e (i+1) 0=stE m far e i far:=by
 unfold stE UJ
 rw [tV]
 simp only [List.range_zero,List.flatMap_nil,List.append_nil]
 rfl
theorem Py (m far:Nat) (e:Nat→Nat→Bool):stE m far e m 0=Dn (m+far) (al m far e m):=by
 unfold stE UJ Dn
 simp
theorem Kv (m far:Nat) (e:Nat→Nat→Bool):stE m far e 0 0=List.range (m+far):=rfl
theorem ye {m i j p:Nat} {e:Nat→Nat→Bool} (h:p∈UJ m e i j):∃ k,k < j∧p=m - 1 - i+k:=by
 unfold UJ at h
 obtain ⟨k,hk,h⟩:=List.mem_flatMap.mp h
 refine ⟨k,List.mem_range.mp hk,?_⟩
 split at h
 ·cases h
 ·exact List.mem_singleton.mp h
theorem yf {m far i j:Nat} {e:Nat→Nat→Bool} (hn:m+far≤96) (hi:i < m∧j≤far∨i≤m∧j=0):Prm (stE m far e i j):=by
 refine Di hn fun p hp=>?_
 rcases List.mem_append.mp hp with h | h
 ·obtain ⟨a,b,ha,hb,rfl⟩:=xM h
  omega
 ·obtain ⟨k,hk,rfl⟩:=ye h
  omega
theorem yg (m far:Nat) (e:Nat→Nat→Bool) (i j:Nat):(stE m far e i j).length=m+far:=by unfold stE;rw [kI];simp
theorem run_get {E ps:List Nat} {q:Nat} (h:∀ p∈ps,q < p):(bw E ps).getD q 0=E.getD q 0:=by
 induction ps generalizing E with
 | nil=>rfl
 | cons p ps ih=>
  show (bw (aM E p) ps).getD q 0=_
  rw [ih fun x hx=>h x (by simp [hx]),step_get (.inl (h p (by simp)))]
theorem Pz {m far i j q:Nat} {e:Nat→Nat→Bool} (hi:i < m) (hq:q < m - 1 - i∨(q=m - 1 - i∧j=0)):(stE m far e i j).getD q 0=q:=by
 have hr:(List.range (m+far)).getD q 0=q:=by
  rw [List.getD_eq_getElem?_getD,List.getElem?_range (by omega)];rfl
 unfold stE
 rw [run_get,hr]
 intro p hp
 rcases List.mem_append.mp hp with h | h
 ·obtain ⟨a,b,ha,hb,rfl⟩:=xM h
  omega
 ·obtain ⟨k,hk,rfl⟩:=ye h
  omega
structure UL (m far:Nat) (e:Nat→Nat→Bool) (i j:Nat) (x:Nat) (F:List Nat):Prop where
 len:F.length=far
 ln:x=(stE m far e i j).getD (m - 1 - i+j) 0
 lo:∀ k,k < j→F.getD k 0=(stE m far e i j).getD (m - 1 - i+k) 0
 hi:∀ k,j≤k→k < far→F.getD k 0=(stE m far e i j).getD (m - i+k) 0
theorem Gh {m far:Nat} {e:Nat→Nat→Bool} {F:List Nat} {i:Nat} (hi:i < m) (hl:F.length=far) (hF:∀ k,k < far→F.getD k 0=(stE m far e i 0).getD (m - i+k) 0):UL m far e i 0 (m - 1 - i) F:=
 ⟨hl,by rw [Nat.add_zero,Pz hi (.inr ⟨rfl,rfl⟩)],fun k hk=>absurd hk (Nat.not_lt_zero _),fun k _ hk=>hF k hk⟩
theorem PB {E:List Nat} {p:Nat} (h:p+1 < E.length) (hw:pJ E p=true):(aM E p).getD p 0=E.getD (p+1) 0∧(aM E p).getD (p+1) 0=E.getD p 0:=by
 rw [uH hw]
 refine ⟨?_,?_⟩
 ·rw [jh h,if_neg (by omega),if_pos rfl]
 ·rw [jh h,if_pos rfl]
theorem Kw {m far:Nat} {e:Nat→Nat→Bool} {i j x:Nat} {F:List Nat} (hn:m+far≤96) (hi:i < m) (hj:j < far) (w:UL m far e i j x F) (h:e i j=true∨F.getD j 0 < x):UL m far e i (j+1) (F.getD j 0) (F.set j x):=by
 have eE:stE m far e i (j+1)=stE m far e i j:=by
  rw [zV]
  split
  ·rfl
  ·rename_i hne
   have hlt:F.getD j 0 < x:=h.resolve_left hne
   unfold aM
   rw [if_neg]
   unfold pJ
   have h1:=w.ln
   have h2:=w.hi j (Nat.le_refl _) hj
   rw [show m - 1 - i+j+1=m - i+j by omega]
   simp only [decide_eq_true_eq]
   omega
 refine ⟨by rw [List.length_set];exact w.len,?_,fun k hk=>?_,fun k hk hk2=>?_⟩
 ·rw [eE,w.hi j (Nat.le_refl _) hj,show m - 1 - i+(j+1)=m - i+j by omega]
 ·rw [eE]
  by_cases e1:k=j
  ·subst e1
   rw [List.getD_eq_getElem?_getD,List.getElem?_set_self (by rw [w.len];exact hj)]
   exact w.ln
  ·rw [List.getD_eq_getElem?_getD,List.getElem?_set_ne (fun z=>e1 z.symm),← List.getD_eq_getElem?_getD]
   exact w.lo k (by omega)
 ·rw [eE,List.getD_eq_getElem?_getD,List.getElem?_set_ne (by omega),← List.getD_eq_getElem?_getD]
  exact w.hi k (by omega) hk2
theorem Ky {m far:Nat} {e:Nat→Nat→Bool} {i j x:Nat} {F:List Nat} (hn:m+far≤96) (hi:i < m) (hj:j < far) (w:UL m far e i j x F) (h:e i j=false) (h2:¬ F.getD j 0 < x):UL m far e i (j+1) x F:=by
 have hP:=yf (e:=e) hn (.inl ⟨hi,Nat.le_of_lt hj⟩)
 have hl:=yg m far e i j
 have h3:=w.ln
 have h4:=w.hi j (Nat.le_refl _) hj
 have hne:x≠F.getD j 0:=fun z=>by
  rw [h3,h4] at z
  have:=rM (n:=m+far) (by have:=hP.pm;rw [hl] at this;exact this) (by omega) (by omega) z
  omega
 have hw:pJ (stE m far e i j) (m - 1 - i+j)=true:=by
  unfold pJ
  rw [show m - 1 - i+j+1=m - i+j by omega]
  simp only [decide_eq_true_eq]
  omega
 have eE:stE m far e i (j+1)=aM (stE m far e i j) (m - 1 - i+j):=by rw [zV,h];rfl
 obtain ⟨s1,s2⟩:=PB (by rw [hl];omega) hw
 refine ⟨w.len,?_,fun k hk=>?_,fun k hk hk2=>?_⟩
 ·rw [eE,show m - 1 - i+(j+1)=m - 1 - i+j+1 by omega,s2];exact h3
 ·rw [eE]
  by_cases e1:k=j
  ·subst e1
   rw [s1,show m - 1 - i+k+1=m - i+k by omega];exact h4
  ·rw [step_get (.inl (by omega))]
   exact w.lo k (by omega)
 ·rw [eE,step_get (.inr (by omega))]
  exact w.hi k (by omega) hk2
end
local macro_rules | `(tactic| walk_at "sts") => `(tactic| (with_reducible repeat (first | refine jL ?_ | refine jA ?_ | refine jy ?_ | refine gk ?_ | refine gn ?_ | (refine' fZ ?hz0 ?_; (case hz0 => with_unfolding_all rfl)) | refine qR ?_ | refine jQ ?_ | refine dm ?_ | refine cX ?_ | refine f9 ?_ | refine lH ?_ | refine fP ?_ | refine cR ?_ | refine fU ?_ | refine cQ ?_ | refine jH ?_ | refine cU ?_ | refine jR ?_ | refine jN ?_ | refine cY ?_ | refine jJ ?_ | refine fV ?_ | refine fW ?_ | refine jK ?_ | refine cV ?_ | refine fX ?_ | refine cW ?_ | refine fY ?_ | refine fQ ?_ | refine cT ?_ | refine jM ?_ | refine eY ?_ | refine eV ?_ | refine jO ?_ | refine jP ?_ | refine gb ?_ | refine cZ ?_ | refine c7 ?_ | refine dg ?_ | refine dh ?_ | refine di ?_ | refine dj ?_ | refine gf ?_ | refine qU ?_ | refine bF ?_ | refine dz ?_ | (refine' b7 (SqT.of ?hz0) ?hz1 ?_; (case hz0 => first | assumption | exact aj); (case hz1 => rfl)) | refine bH ?_ | refine dB ?_ | refine dD ?_ | refine cI ?_ | refine cJ ?_ | refine cL ?_ | refine cM ?_ | refine jT ?_ | refine cC ?_ | refine cF ?_ | refine cG ?_ | refine cH ?_ | refine bG ?_ | refine gj ?_ | refine dw ?_ | (refine' qT ?hz0 ?_; (case hz0 => with_unfolding_all first | assumption | omega | (dsimp only <;> omega) | exact ⟨by omega, by omega⟩ | exact .inl ⟨by omega, by omega⟩ | exact .inr ⟨by omega, by omega⟩ | exact ⟨by decide, by decide, by decide⟩)) | (refine' dq ?hz0 ?_; (case hz0 => with_unfolding_all first | assumption | omega | (dsimp only <;> omega) | exact ⟨by omega, by omega⟩ | exact .inl ⟨by omega, by omega⟩ | exact .inr ⟨by omega, by omega⟩ | exact ⟨by decide, by decide, by decide⟩)) | (refine' cu (SqL.of ?hz0) ?hz1 ?_; (case hz0 => first | assumption | exact aj); (case hz1 => with_unfolding_all rfl)) | (refine' cB ?hz0 ?hz1 ?_; (case hz0 => first | assumption | exact aj); (case hz1 => with_unfolding_all rfl)) | refine bI ?_ | refine gq ?_ | refine dF ?_ | refine xr ?_ | refine bJ ?_ | refine dG ?_ | refine bK ?_ | refine dO ?_)))
local macro_rules | `(tactic| walk_at "stn") => `(tactic| (with_reducible repeat (first | refine jL ?_ | refine jA ?_ | refine jy ?_ | refine gk ?_ | refine gn ?_ | (refine' fZ ?hz0 ?_; (case hz0 => with_unfolding_all rfl)) | refine qR ?_ | refine jQ ?_ | refine dm ?_ | refine cX ?_ | refine f9 ?_ | refine fP ?_ | refine cR ?_ | refine fU ?_ | refine cQ ?_ | refine jH ?_ | refine cU ?_ | refine jR ?_ | refine jN ?_ | refine cY ?_ | refine jJ ?_ | refine fV ?_ | refine fW ?_ | refine jK ?_ | refine cV ?_ | refine fX ?_ | refine cW ?_ | refine fY ?_ | refine fQ ?_ | refine cT ?_ | refine jM ?_ | refine eY ?_ | refine eV ?_ | refine jO ?_ | refine jP ?_ | refine gb ?_ | refine cZ ?_ | refine c7 ?_ | refine dg ?_ | refine dh ?_ | refine di ?_ | refine dj ?_ | refine gf ?_ | refine qU ?_ | refine bF ?_ | refine dz ?_ | (refine' b7 (SqT.of ?hz0) ?hz1 ?_; (case hz0 => first | assumption | exact aj); (case hz1 => rfl)) | refine bH ?_ | refine dB ?_ | refine dD ?_ | refine cI ?_ | refine cJ ?_ | refine cL ?_ | refine cM ?_ | refine jT ?_ | refine cC ?_ | refine cF ?_ | refine cG ?_ | refine cH ?_ | refine bG ?_ | refine gj ?_ | refine dw ?_ | (refine' qT ?hz0 ?_; (case hz0 => with_unfolding_all first | assumption | omega | (dsimp only <;> omega) | exact ⟨by omega, by omega⟩ | exact .inl ⟨by omega, by omega⟩ | exact .inr ⟨by omega, by omega⟩ | exact ⟨by decide, by decide, by decide⟩)) | (refine' dq ?hz0 ?_; (case hz0 => with_unfolding_all first | assumption | omega | (dsimp only <;> omega) | exact ⟨by omega, by omega⟩ | exact .inl ⟨by omega, by omega⟩ | exact .inr ⟨by omega, by omega⟩ | exact ⟨by decide, by decide, by decide⟩)) | (refine' cu (SqL.of ?hz0) ?hz1 ?_; (case hz0 => first | assumption | exact aj); (case hz1 => with_unfolding_all rfl)) | (refine' cB ?hz0 ?hz1 ?_; (case hz0 => first | assumption | exact aj); (case hz1 => with_unfolding_all rfl)) | refine bI ?_ | refine gq ?_ | refine dF ?_ | refine xr ?_ | refine bJ ?_ | refine dG ?_ | refine bK ?_ | refine dO ?_)))
section
variable {P:Program} {w:World} {K:PySem.W.Frag} {mg:Str→Option Value} {base:Heap}
theorem uT:(["_law_line","_law_goals"]:List Str).Nodup:=by decide+kernel
theorem uU:(["_law_column","_law_many"]:List Str).Nodup:=by decide+kernel
theorem Kz:bM bA "range":=by decide+kernel
theorem KC:QT bA "_law_many":=by decide+kernel
theorem Gi:bM bA "len":=by decide+kernel
theorem Gj:bz bA "_law_top":=by decide+kernel
theorem BR:bz bA "_law_column":=by decide+kernel
theorem UT:QT bA "_law_goals":=by decide+kernel
theorem PJ:bz bA "_law_falling":=by decide+kernel
theorem PK:bz bA "_law_row":=by decide+kernel
theorem KD:bz bA "_law_line":=by decide+kernel
theorem UV:bz bA "_law_above":=by decide+kernel
theorem Yc:bz bA "_law_side":=by decide+kernel
theorem UW {E ps:List Nat} {q:Nat} (h:∀ p∈ps,p+1 < q):(bw E ps).getD q 0=E.getD q 0:=by
 induction ps generalizing E with
 | nil=>rfl
 | cons p ps ih=>
  show (bw (aM E p) ps).getD q 0=_
  rw [ih fun x hx=>h x (by simp [hx]),step_get (.inr (h p (by simp)))]
theorem KH {m far i j q:Nat} {e:Nat→Nat→Bool} (hi:i < m) (hj:j≤far) (hq:m - 1 - i+far < q):(stE m far e i j).getD q 0=(stE m far e i 0).getD q 0:=by
 have:stE m far e i j=bw (stE m far e i 0) (UJ m e i j):=by
  unfold stE
  rw [kh,kh]
  rfl
 rw [this,UW]
 intro p hp
 obtain ⟨k,hk,rfl⟩:=ye hp
 omega
def KJ (K:PySem.W.Frag):Sp:=fun vs H Q _=>∃ (side top:Str),vs=[.str side,.str top]∧side.length≤48∧top.length≤48∧∀ q H',H q=none→Same H H'→H' q=some (.lst ((nI (LN side.cps.size top.cps.size (Aa side top))).map V.int))→Q (.ref q) H'
theorem dN:aC ["_law_side","_law_top","_law_many","_law_falling","_law_goals","_law_row","_law_line","_law_column","_law_above"] ["_law_side","_law_top"] (aq bA):=⟨rfl,rfl,rfl,by decide+kernel,rfl,by decide+kernel,by decide+kernel⟩
theorem oY (T:Txt K mg):Has P w K mg base 1 "_law_lines" ["_law_side","_law_top"] (KJ K):=by
 refine gr T.d_law_lines dN (fun _ _ _ _ _ _ us hl=>L2.ou (fun _ _=>rfl) us hl) ?_ fun f cdv A outer s H vs Q E hr h=>?_
 ·rintro vs H Q E ⟨side,top,rfl,_⟩;rfl
 obtain ⟨side,top,rfl,hs,ht,q⟩:=h
 have hu:=hr.units0
 have hu64:=hr.units
 refine ⟨_,(az (aP (i:=2) dN.nd rfl (Or.inr KC) (aG (aJ (K:=K) rfl) (aU Gi) T.b_len bC (aa (ao 0 Yc) ak) (by decide+kernel) (by decide+kernel)) rfl) (az (Nf (i:=3) dN.nd rfl (Or.inl PJ) (sub:=[none,some 2]) (gO (N:=["_law_side","_law_top","_law_many","_law_falling","_law_goals","_law_row","_law_line","_law_column","_law_above"]) (sc:=aq bA) (N':=["_law_column","_law_many"]) (by decide+kernel)) rfl rfl rfl (mO (aU Kz) T.b_range (aa (aG (aJ (K:=K) rfl) (aU Gi) T.b_len bC (aa (ao 1 Gj) ak) (by decide+kernel) (by decide+kernel)) ak)) (fun C s₀ H₀ ex=>(tD 0 (by decide+kernel) uU)) (fun C s₀ H₀ ex=>jB) (fun C s₀ H₀ ex=>(bN aW (qD 1 (by decide+kernel)) (mK 0 (by decide+kernel)))) rfl) (az (aP (i:=4) dN.nd rfl (Or.inr UT) xq rfl) (az (jC PassesOwn.never rfl (mO (aU Kz) T.b_range (aa (nZ 2 KC) ak)) (dJ (i:=5) dN.nd rfl (Or.inl PK) rfl) (az (aP (i:=6) dN.nd rfl (Or.inl KD) (bN kW (bN kW (nZ 2 KC) aH) (ao 5 PK)) rfl) (az (jC PassesOwn.never rfl (mO (aU Kz) T.b_range (aa (aG (aJ (K:=K) rfl) (aU Gi) T.b_len bC (aa (ao 1 Gj) ak) (by decide+kernel) (by decide+kernel)) ak)) (dJ (i:=7) dN.nd rfl (Or.inl BR) rfl) (az (aP (i:=8) dN.nd rfl (Or.inl UV) (jV (K:=K) rfl (ao 3 PJ) (ao 7 BR)) rfl) (aA (cP (km (lJ (bR (jW (K:=K) rfl hu64) (jV (K:=K) rfl (ao 0 Yc) (ao 5 PK)) (jV (K:=K) rfl (ao 1 Gj) (ao 7 BR)) (by first | exact aV _ | with_unfolding_all rfl)) (je (bR t7 (ao 6 KD) (ao 8 UV) (by first | exact aV _ | with_unfolding_all rfl))))) (az (j8 (ts:=nY) (ao 6 KD) (mD (ao 3 PJ) (ao 7 BR) (j9 hu64))) (aA (aP (i:=6) dN.nd rfl (Or.inl KD) (ao 8 UV) rfl))) bB)))) (aA (j8 (ts:=nY) (bN kW (bN kW (bN aW (aG (aJ (K:=K) rfl) (aU Gi) T.b_len bC (aa (ao 1 Gj) ak) (by decide+kernel) (by decide+kernel)) (nZ 2 KC)) aH) (ao 5 PK)) (mD (nZ 4 UT) (ao 6 KD) (j9 hu64))))))) (az (jC PassesOwn.never rfl (mO (aU Kz) T.b_range (aa (aG (aJ (K:=K) rfl) (aU Gi) T.b_len bC (aa (ao 1 Gj) ak) (by decide+kernel) (by decide+kernel)) ak)) (dJ (i:=7) dN.nd rfl (Or.inl BR) rfl) (aA (j8 (ts:=nY) (ao 7 BR) (mD (nZ 4 UT) (jV (K:=K) rfl (ao 3 PJ) (ao 7 BR)) (j9 hu64))))) (aA (aK (lK (sub:=[none,some 4]) (gO (N:=["_law_side","_law_top","_law_many","_law_falling","_law_goals","_law_row","_law_line","_law_column","_law_above"]) (sc:=aq bA) (N':=["_law_line","_law_goals"]) (by decide+kernel)) rfl rfl rfl (mO (aU Kz) T.b_range (aa (bN aW (nZ 2 KC) (aG (aJ (K:=K) rfl) (aU Gi) T.b_len bC (aa (ao 1 Gj) ak) (by decide+kernel) (by decide+kernel))) ak)) (fun C s₀ H₀ ex=>(tD 0 (by decide+kernel) uT)) (fun C s₀ H₀ ex=>jB) (fun C s₀ H₀ ex=>(Jw hu64 (qD 1 (by decide+kernel)) (mK 0 (by decide+kernel)))))))))))),?_⟩
 walk_at "sts"
 have hz:20000≤sizeLine:=by decide
 have lz:side.length≤sizeLine:=by omega
 have ly:top.length≤sizeLine:=by omega
 refine gG lz ?_
 walk_at "sts"
 refine gG ly ?_
 walk_at "sts"
 have em:side.length=side.cps.size:=rfl
 have ef:top.length=top.cps.size:=rfl
 rw [em,ef]
 rw [em] at hs
 rw [ef] at ht
 generalize hm:side.cps.size=m at hs ⊢
 generalize hf:top.cps.size=far at ht ⊢
 refine ⟨_,rfl,by omega,by omega,?_⟩
 rw [show ((far:Nat):Int).toNat=far by omega]
 refine v8 (fun k=>V.int ((m+k:Nat):Int)) (by omega) (fun i hi=>?_) fun f0 H1 nf S1 hf1=>?_
 ·walk_at "sts"
  refine ⟨KeepSt.set rfl,?_⟩
  walk_at "sts"
  exact ⟨rfl,De (by congr 1;omega)⟩
 have hf2:H1 f0=some (.lst ((nI ((List.range far).map (m+ ·))).map V.int)):=by
  rw [hf1]
  unfold nI
  rw [List.map_map,List.map_map]
  rfl
 try walk_at "sts"
 intro d nd
 have S2:=S1.trans ((Same.refl H1).upd nd (o:=.dK []))
 have hf3:=fj nd hf2 (o:=.dK [])
 have hd3:=aj (H:=H1) (a:=d) (o:=.dK [])
 have df:d≠f0:=fun z=>by rw [z,hf2] at nd;cases nd
 have nd0:=Same.back S1 nd
 generalize upd H1 d (.dK [])=H2 at S2 hf3 hd3 ⊢
 generalize hee:Aa side top=e
 walk_at "sts"
 refine ⟨_,rfl,by omega,by omega,?_⟩
 rw [show ((m:Nat):Int).toNat=m by omega]
 refine o8 (n:=m) (fun i σ G=>Same H G∧(∃ F kvs,G f0=some (.lst ((nI F).map V.int))∧F.length=far∧(∀ k,k < far→F.getD k 0=(stE m far e i 0).getD (m - i+k) 0)∧G d=some (.dK kvs)∧kvs.length≤i∧∀ i',i' < i→jG kvs (Sum.inl (((stE m far e i 0).getD (m - 1 - i'+far) 0:Nat):Int))=some (.int (((m - 1 - i'+far:Nat)):Int)))∧∃ x5 x6 x7 x8,σ=[some (.str side),some (.str top),some (.int (m:Int)),some (.ref f0),some (.ref d),x5,x6,x7,x8])
  ⟨S2,⟨_,_,hf3,by simp,fun k hk=>?_,hd3,Nat.le_refl _,fun i' h=>absurd h (Nat.not_lt_zero _)⟩,_,_,_,_,rfl⟩ ?_ ?_
 ·rw [Kv,List.getD_eq_getElem?_getD,List.getElem?_map,List.getElem?_range hk,List.getD_eq_getElem?_getD,List.getElem?_range (by omega)]
  show m+k=m - 0+k
  omega
 ·rintro i σ G hi ⟨s,⟨F,kvs,hF,hFl,hFk,hD,hkl,hkv⟩,x5,x6,x7,x8,rfl⟩
  rw [Int.zero_add]
  walk_at "sts"
  refine gG ly ?_
  walk_at "sts"
  rw [show top.length=far from hf,show (m:Int) - 1 - (i:Int)=((m - 1 - i:Nat):Int) by omega]
  refine ⟨_,rfl,by omega,by omega,?_⟩
  rw [show ((far:Nat):Int).toNat=far by omega]
  refine o8 (n:=far) (fun j σ G=>Same H G∧G d=some (.dK kvs)∧∃ F x x7 x8,G f0=some (.lst ((nI F).map V.int))∧UL m far e i j x F∧σ=[some (.str side),some (.str top),some (.int (m:Int)),some (.ref f0),some (.ref d),some (.int (i:Int)),some (.int (x:Int)),x7,x8])
   ⟨s,hD,F,m - 1 - i,_,_,hF,Gh hi hFl hFk,rfl⟩ ?_ ?_
  ·rintro j σ G2 hj ⟨s2,hD2,F2,x,y7,y8,hF2,w,rfl⟩
   rw [Int.zero_add]
   have hsi:yz side.cps.toList (i:Int)=some (side.cps.getD i 0):=lV (by
    have:i < side.cps.size:=by omega
    simp [Array.getD,this])
   have htj:yz top.cps.toList (j:Int)=some (top.cps.getD j 0):=lV (by
    have:j < top.cps.size:=by omega
    simp [Array.getD,this])
   have wl:=w.len
   walk_at "sts"
   refine cu (SqL.of hF2) (sI (k:=j) (by omega) rfl) ?_
   walk_at "sts"
   refine ux lz hsi ?_
   walk_at "sts"
   refine ux ly htj ?_
   walk_at "sts"
   have eE:decide (V.str ⟨#[side.cps.getD i 0]⟩=V.str ⟨#[top.cps.getD j 0]⟩)=e i j:=by rw [Ko,← hee];rfl
   rw [eE]
   have stay:(e i j=true∨F2.getD j 0 < x)→Same H (upd G2 f0 (.lst ((nI (F2.set j x)).map V.int)))∧upd G2 f0 (.lst ((nI (F2.set j x)).map V.int)) d=some (.dK kvs)∧UL m far e i (j+1) (F2.getD j 0) (F2.set j x):=fun h=>⟨Same.put s2 nf,by rw [aB df];exact hD2,Kw (by omega) hi hj w h⟩
   cases ee:e i j with
   | true=>
    obtain ⟨a1,a2,a3⟩:=stay (.inl ee)
    show if true=true then _ else _
    walk_at "sts"
    refine nq hF2 (uK (p:=j) rfl (by rw [bV];omega)) ?_
    walk_at "sts"
    rw [pY]
    walk_at "sts"
    exact ⟨a1,a2,_,_,_,_,aj,a3,rfl⟩
   | false=>
    show if false=true then _ else _
    walk_at "sts"
    by_cases hlt:F2.getD j 0 < x
    ·obtain ⟨a1,a2,a3⟩:=stay (.inr hlt)
     rw [decide_eq_true (show ((F2.getD j 0:Nat):Int) < (x:Int) by omega)]
     walk_at "sts"
     refine nq hF2 (uK (p:=j) rfl (by rw [bV];omega)) ?_
     walk_at "sts"
     rw [pY]
     walk_at "sts"
     exact ⟨a1,a2,_,_,_,_,aj,a3,rfl⟩
    ·rw [decide_eq_false (show ¬ ((F2.getD j 0:Nat):Int) < (x:Int) by omega)]
     walk_at "sts"
     exact ⟨s2,hD2,_,_,_,_,hF2,Ky (by omega) hi hj w ee hlt,rfl⟩
  ·rintro σ G2 ⟨s2,hD2,F2,x,y7,y8,hF2,w,rfl⟩
   walk_at "sts"
   refine gG ly ?_
   walk_at "sts"
   rw [show top.length=far from hf,show (far:Int)+(m:Int) - 1 - (i:Int)=((m - 1 - i+far:Nat):Int) by omega]
   refine .inr ⟨d,_,rfl,DPut.k (k:=Sum.inl (x:Int)) hD2 (by omega),?_⟩
   try walk_at "sts"
   have lk:=g8 kvs (Sum.inl (x:Int)) (V.int ((m - 1 - i+far:Nat):Int))
   refine ⟨Same.put s2 nd0,⟨F2,_,by rw [aB (Ne.symm df)];exact hF2,w.len,fun k hk=>?_,aj,by omega,fun i' hi'=>?_⟩,_,_,_,_,rfl⟩
   ·rw [Dw,w.lo k hk,show m - (i+1)+k=m - 1 - i+k by omega]
   ·rw [Dw,mJ]
    by_cases e1:i'=i
    ·subst e1
     rw [← w.ln,if_pos rfl]
    ·have hP:=yf (e:=e) (m:=m) (far:=far) (by omega) (.inl ⟨hi,Nat.le_refl far⟩)
     have hl:=yg m far e i far
     rw [if_neg,KH hi (Nat.le_refl _) (by omega)]
     ·exact hkv i' (by omega)
     ·intro z
      have z1:(stE m far e i far).getD (m - 1 - i'+far) 0=(stE m far e i far).getD (m - 1 - i+far) 0:=by
       rw [← w.ln]
       have:=Sum.inl.inj z
       omega
      have:=rM (n:=m+far) (by have:=hP.pm;rw [hl] at this;exact this) (by omega) (by omega) z1
      omega
 ·rintro σ G ⟨s,⟨F,kvs,hF,hFl,hFk,hD,hkl,hkv⟩,x5,x6,x7,x8,rfl⟩
  walk_at "sts"
  refine gG ly ?_
  walk_at "sts"
  rw [show top.length=far from hf]
  refine ⟨_,rfl,by omega,by omega,?_⟩
  rw [show ((far:Nat):Int).toNat=far by omega]
  have hP:=yf (e:=e) (m:=m) (far:=far) (i:=m) (j:=0) (by omega) (.inr ⟨Nat.le_refl m,rfl⟩)
  have hl:=yg m far e m 0
  have hE:LN m far e=inv (stE m far e m 0):=by unfold LN;rw [Py]
  generalize stE m far e m 0=W at hFk hkv hP hl hE
  have hpm:W.Perm (List.range (m+far)):=by have:=hP.pm;rw [hl] at this;exact this
  refine o8 (n:=far) (fun j σ G=>Same H G∧G f0=some (.lst ((nI F).map V.int))∧(∃ kvs,G d=some (.dK kvs)∧kvs.length≤m+j∧∀ p,p < j∨far≤p∧p < m+far→jG kvs (Sum.inl ((W.getD p 0:Nat):Int))=some (.int (p:Int)))∧∃ x7,σ=[some (.str side),some (.str top),some (.int (m:Int)),some (.ref f0),some (.ref d),x5,x6,x7,x8])
   ⟨s,hF,⟨kvs,hD,by omega,fun p hp=>?_⟩,_,rfl⟩ ?_ ?_
  ·have:=hkv (m - 1+far - p) (by omega)
   rw [show m - 1 - (m - 1+far - p)+far=p by omega] at this
   exact this
  ·rintro j σ G2 hj ⟨s2,hF2,⟨kv2,hD2,hl2,hv2⟩,y7,rfl⟩
   rw [Int.zero_add]
   walk_at "sts"
   refine cu (SqL.of hF2) (sI (k:=j) (by omega) rfl) ?_
   walk_at "sts"
   refine .inr ⟨d,_,rfl,DPut.k (k:=Sum.inl ((F.getD j 0:Nat):Int)) hD2 (by omega),?_⟩
   try walk_at "sts"
   have lk:=g8 kv2 (Sum.inl ((F.getD j 0:Nat):Int)) (V.int (j:Int))
   refine ⟨Same.put s2 nd0,by rw [aB (Ne.symm df)];exact hF2,⟨_,aj,by omega,fun p hp=>?_⟩,_,rfl⟩
   have ej:F.getD j 0=W.getD j 0:=by rw [hFk j hj,Nat.sub_self,Nat.zero_add]
   rw [mJ,ej]
   by_cases e1:p=j
   ·subst e1;rw [if_pos rfl]
   ·rw [if_neg]
    ·exact hv2 p (by omega)
    ·intro z
     have z1:W.getD p 0=W.getD j 0:=by have:=Sum.inl.inj z;omega
     exact e1 (rM hpm (by omega) (by omega) z1)
  ·rintro σ G2 ⟨s2,hF2,⟨kv2,hD2,hl2,hv2⟩,y7,rfl⟩
   walk_at "sts"
   refine gG ly ?_
   walk_at "sts"
   rw [show top.length=far from hf,show (m:Int)+(far:Int)=((m+far:Nat):Int) by omega]
   refine ⟨_,rfl,by omega,by omega,?_⟩
   rw [show ((m+far:Nat):Int).toNat=m+far by omega]
   refine v8 (fun k=>V.int (((inv W).getD k 0:Nat):Int)) (by omega) (fun i hi=>?_) fun r H5 nr S5 hr5=>?_
   ·have hmem:i∈W:=hP.mem (by omega)
    obtain ⟨p,hp,ep⟩:=List.mem_iff_getElem.mp hmem
    have ep2:W[p]?=some i:=by rw [List.getElem?_eq_getElem hp,ep]
    have ep3:W.getD p 0=i:=by rw [List.getD_eq_getElem?_getD,ep2];rfl
    have hv:=hv2 p (by omega)
    rw [ep3] at hv
    have hg:=DGet.k (k:=Sum.inl (i:Int)) hD2
    rw [hv] at hg
    walk_at "sts"
    refine ⟨KeepSt.set rfl,?_⟩
    walk_at "sts"
    rw [Int.zero_add]
    refine ⟨d,_,rfl,hg,?_⟩
    refine ⟨rfl,De ?_⟩
    rw [jY (by omega),iM hP.nd ep2]
   try walk_at "sts"
   refine q r H5 (Same.back s2 nr) (s2.trans S5) ?_
   rw [hee,hm,hf,hE,hr5]
   congr 2
   unfold nI
   rw [List.map_map]
   refine List.ext_getElem? fun k=>?_
   by_cases hk:k < m+far
   ·rw [List.getElem?_map,List.getElem?_range hk,List.getElem?_map,getD_some (by rw [bO];omega)]
    rfl
   ·rw [List.getElem?_eq_none (by simp;omega),List.getElem?_eq_none (by simp [bO];omega)]
end
local macro_rules | `(tactic| walk_at "sts") => `(tactic| (with_reducible repeat (first | refine jL ?_ | refine jA ?_ | refine jy ?_ | refine gk ?_ | refine gn ?_ | (refine' fZ ?hz0 ?_; (case hz0 => with_unfolding_all rfl)) | refine qR ?_ | refine jQ ?_ | refine dm ?_ | refine cX ?_ | refine f9 ?_ | refine lH ?_ | refine fP ?_ | refine cR ?_ | refine fU ?_ | refine cQ ?_ | refine jH ?_ | refine cU ?_ | refine jR ?_ | refine jN ?_ | refine cY ?_ | refine jJ ?_ | refine fV ?_ | refine fW ?_ | refine jK ?_ | refine cV ?_ | refine fX ?_ | refine cW ?_ | refine fY ?_ | refine fQ ?_ | refine cT ?_ | refine jM ?_ | refine eY ?_ | refine eV ?_ | refine jO ?_ | refine jP ?_ | refine gb ?_ | refine cZ ?_ | refine c7 ?_ | refine dg ?_ | refine dh ?_ | refine di ?_ | refine dj ?_ | refine gf ?_ | refine qU ?_ | refine bF ?_ | refine dz ?_ | (refine' b7 (SqT.of ?hz0) ?hz1 ?_; (case hz0 => first | assumption | exact aj); (case hz1 => rfl)) | refine bH ?_ | refine dB ?_ | refine dD ?_ | refine cI ?_ | refine cJ ?_ | refine cL ?_ | refine cM ?_ | refine jT ?_ | refine cC ?_ | refine cF ?_ | refine cG ?_ | refine cH ?_ | refine bG ?_ | refine gj ?_ | refine dw ?_ | (refine' qT ?hz0 ?_; (case hz0 => with_unfolding_all first | assumption | omega | (dsimp only <;> omega) | exact ⟨by omega, by omega⟩ | exact .inl ⟨by omega, by omega⟩ | exact .inr ⟨by omega, by omega⟩ | exact ⟨by decide, by decide, by decide⟩)) | (refine' dq ?hz0 ?_; (case hz0 => with_unfolding_all first | assumption | omega | (dsimp only <;> omega) | exact ⟨by omega, by omega⟩ | exact .inl ⟨by omega, by omega⟩ | exact .inr ⟨by omega, by omega⟩ | exact ⟨by decide, by decide, by decide⟩)) | (refine' cu (SqL.of ?hz0) ?hz1 ?_; (case hz0 => first | assumption | exact aj); (case hz1 => with_unfolding_all rfl)) | (refine' cB ?hz0 ?hz1 ?_; (case hz0 => first | assumption | exact aj); (case hz1 => with_unfolding_all rfl)) | refine bI ?_ | refine gq ?_ | refine dF ?_ | refine bJ ?_ | refine dG ?_ | refine bK ?_ | refine dO ?_)))
local macro_rules | `(tactic| walk_at "stn") => `(tactic| (with_reducible repeat (first | refine jL ?_ | refine jA ?_ | refine jy ?_ | refine gk ?_ | refine gn ?_ | (refine' fZ ?hz0 ?_; (case hz0 => with_unfolding_all rfl)) | refine qR ?_ | refine jQ ?_ | refine dm ?_ | refine cX ?_ | refine f9 ?_ | refine fP ?_ | refine cR ?_ | refine fU ?_ | refine cQ ?_ | refine jH ?_ | refine cU ?_ | refine jR ?_ | refine jN ?_ | refine cY ?_ | refine jJ ?_ | refine fV ?_ | refine fW ?_ | refine jK ?_ | refine cV ?_ | refine fX ?_ | refine cW ?_ | refine fY ?_ | refine fQ ?_ | refine cT ?_ | refine jM ?_ | refine eY ?_ | refine eV ?_ | refine jO ?_ | refine jP ?_ | refine gb ?_ | refine cZ ?_ | refine c7 ?_ | refine dg ?_ | refine dh ?_ | refine di ?_ | refine dj ?_ | refine gf ?_ | refine qU ?_ | refine bF ?_ | refine dz ?_ | (refine' b7 (SqT.of ?hz0) ?hz1 ?_; (case hz0 => first | assumption | exact aj); (case hz1 => rfl)) | refine bH ?_ | refine dB ?_ | refine dD ?_ | refine cI ?_ | refine cJ ?_ | refine cL ?_ | refine cM ?_ | refine jT ?_ | refine cC ?_ | refine cF ?_ | refine cG ?_ | refine cH ?_ | refine bG ?_ | refine gj ?_ | refine dw ?_ | (refine' qT ?hz0 ?_; (case hz0 => with_unfolding_all first | assumption | omega | (dsimp only <;> omega) | exact ⟨by omega, by omega⟩ | exact .inl ⟨by omega, by omega⟩ | exact .inr ⟨by omega, by omega⟩ | exact ⟨by decide, by decide, by decide⟩)) | (refine' dq ?hz0 ?_; (case hz0 => with_unfolding_all first | assumption | omega | (dsimp only <;> omega) | exact ⟨by omega, by omega⟩ | exact .inl ⟨by omega, by omega⟩ | exact .inr ⟨by omega, by omega⟩ | exact ⟨by decide, by decide, by decide⟩)) | (refine' cu (SqL.of ?hz0) ?hz1 ?_; (case hz0 => first | assumption | exact aj); (case hz1 => with_unfolding_all rfl)) | (refine' cB ?hz0 ?hz1 ?_; (case hz0 => first | assumption | exact aj); (case hz1 => with_unfolding_all rfl)) | refine bI ?_ | refine gq ?_ | refine dF ?_ | refine bJ ?_ | refine dG ?_ | refine bK ?_ | refine dO ?_)))
section
variable {P:Program} {w:World} {K:PySem.W.Frag} {mg:Str→Option Value} {base:Heap}
theorem U0:bz j0 "_law_letters":=by decide+kernel
theorem U9:bz j0 "_law_sign_here":=by decide+kernel
theorem kz5r:bz j0 "_law_base_here":=by decide+kernel
theorem Yd:bM lO "_law_mix":=by decide+kernel
theorem Ye:bz lO "_law_cell_here":=by decide+kernel
theorem BV:∀ c∈GOOD,c=46∨(97≤c∧c < 123):=by decide+kernel
theorem PL:∀ k∈List.range 26,97+k∈GOOD:=by decide+kernel
theorem PN:∀ k∈List.range 26,Builtin.Str.occurrences (Str.ofString "abcdefghijklmnopqrstuvwxyz") ⟨#[97+k]⟩ 0 (Str.ofString "abcdefghijklmnopqrstuvwxyz").length 1=[k]:=by decide+kernel
theorem PP:∀ k∈List.range 26,(Str.ofString "abcdefghijklmnopqrstuvwxyz").cps.toList[k]?=some (97+k):=by decide+kernel
def PQ:Sp:=fun vs H Q _=>∃ (c:Nat) (b:Int),vs=[.str ⟨#[c]⟩,.int b]∧c∈GOOD∧∀ d,d∈GOOD→Q (.str ⟨#[d]⟩) H
theorem sW:aC ["_law_sign_here","_law_base_here","_law_letters"] ["_law_sign_here","_law_base_here"] (aq j0):=⟨rfl,rfl,rfl,by decide+kernel,rfl,by decide+kernel,by decide+kernel⟩
theorem qg (T:Txt K mg):Has P w K mg base 1 "_law_sign" ["_law_sign_here","_law_base_here"] PQ:=by
 refine gr T.d_law_sign sW (fun _ _ _ _ _ _ us hl=>L2.ou (fun _ _=>rfl) us hl) ?_ fun f cdv A outer s H vs Q E hr h=>?_
 ·rintro vs H Q E ⟨c,b,rfl,_⟩;rfl
 obtain ⟨c,b,rfl,hcg,q⟩:=h
 have hu:=hr.units0
 have hu64:=hr.units
 refine ⟨_,(az (aP (i:=2) sW.nd rfl (Or.inl U0) gC rfl) (az (cP (bR (jW (K:=K) rfl hu64) (ao 0 U9) gC (by first | exact aV _ | with_unfolding_all rfl)) (aA (aK (ao 0 U9))) bB) (aA (aK (jV (K:=K) rfl (ao 2 U0) (bN mX (bN aW (rn (K:=K) rfl PySem.F.plainAttrs_str PySem.F.slot_str_index PySem.F.type_str_index Ft (ao 2 U0) (aa (ao 0 U9) ak)) (ao 1 kz5r)) aH)))))),?_⟩
 walk_at "sts"
 have hsl:(Str.ofString "abcdefghijklmnopqrstuvwxyz").length≤sizeLine:=Nat.le_trans (show _≤100 by decide+kernel) (by decide)
 refine Et (fun h=>?_) (fun h=>?_)
 ·walk_at "sts"
  exact q c hcg
 ·have hc46:c≠46:=fun z=>h (by rw [z];decide+kernel)
  obtain ⟨h1,h2⟩:=(BV c hcg).resolve_left hc46
  have hk:c - 97∈List.range 26:=List.mem_range.mpr (by omega)
  have hix:=PN _ hk
  rw [show 97+(c - 97)=c by omega] at hix
  walk_at "sts"
  refine ⟨rfl,?_⟩
  walk_at "sts"
  refine ⟨_,_,_,_,rfl,rfl,hix,?_⟩
  walk_at "sts"
  have hd:((((c - 97:Nat):Int)+b) % 26).toNat∈List.range 26:=List.mem_range.mpr (by omega)
  refine ux hsl (tQ (by omega) (PP _ hd)) ?_
  walk_at "sts"
  exact q _ (PL _ hd)
def PX:Sp:=fun vs H Q _=>∃ n:Int,vs=[.int n]∧∀ (b:Int) H',Same H H'→Q (.int b) H'
theorem zW:aC ["_law_cell_here"] ["_law_cell_here"] (aq lO):=⟨rfl,rfl,rfl,by decide+kernel,rfl,by decide+kernel,by decide+kernel⟩
theorem qi (T:Txt K mg):Has P w K mg base 2 "_law_base" ["_law_cell_here"] PX:=by
 have j5:=j5 (P:=P) (w:=w) (base:=base) T
 refine gr T.d_law_base zW (fun _ _ _ _ _ _ us hl=>L2.jU (fun _=>rfl) us hl) ?_ fun f cdv A outer s H vs Q E hr h=>?_
 ·rintro vs H Q E ⟨n,rfl,_⟩;rfl
 obtain ⟨n,rfl,q⟩:=h
 have hu:=hr.units0
 have hu64:=hr.units
 refine ⟨_,(aA (aK (jV (K:=K) rfl (gA (aa aH (aa (bN mX (aF j5 (hr.mono (by decide)) (aU Yd) (aa (ao 0 Ye) (aa aH ak)) (by decide+kernel)) aH) ak))) (bN mX (aF j5 (hr.mono (by decide)) (aU Yd) (aa (ao 0 Ye) (aa aH ak)) (by decide+kernel)) aH)))),?_⟩
 walk_at "sts"
 refine ⟨_,_,rfl,fun r r0 r1=>?_⟩
 walk_at "sts"
 refine dR rfl fun p H1 np S1 hp=>?_
 walk_at "sts"
 refine ⟨_,_,rfl,fun r' r0' r1'=>?_⟩
 walk_at "sts"
 obtain ⟨v,hv,ev⟩:=Wo (vs:=[V.int 0,.int (r % 26)]) (d:=r' % 2) (by omega) (by show r' % 2 < 2;omega)
 refine cu (SqL.of hp) ev ?_
 walk_at "sts"
 simp only [List.mem_cons,List.mem_nil_iff,or_false] at hv
 rcases hv with rfl | rfl
 ·exact q _ _ S1
 ·exact q _ _ S1
end
section
variable {P:Program} {w:World} {K:PySem.W.Frag} {mg:Str→Option Value} {base:Heap}
theorem kz5u:bM fB "Beside":=by decide+kernel
theorem Yg:bM fB "all_beside":=by decide+kernel
theorem Va:bz fB "cut":=by decide+kernel
theorem KN:bz fB "pieces":=by decide+kernel
theorem Yh:bM fB "len":=by decide+kernel
theorem kz5z:bM iw "Over":=by decide+kernel
theorem Yi:bM iw "all_over":=by decide+kernel
theorem Vb:bz iw "cut":=by decide+kernel
theorem KQ:bz iw "pieces":=by decide+kernel
theorem Yj:bM iw "len":=by decide+kernel
def TK (y kind:Str):Prop:=(y="Blank"∧kind=Str.ofString "blank")∨(y="One"∧kind=Str.ofString "one")∨(y="Over"∧kind=Str.ofString "over")∨(y="Beside"∧kind=Str.ofString "beside")
theorem yh {H H2:Hp} {x dx:Addr} {o1 o2:HO} (nx:H x=none) (nd:H dx=none) (c:Chg x (upd (upd H dx o1) x o2) H2):Same H H2:=fun b o e=>by
 have h1:b≠x:=fun z=>by rw [z,nx] at e;cases e
 have h2:b≠dx:=fun z=>by rw [z,nd] at e;cases e
 exact c b o h1 (by rw [aB h1,aB h2];exact e)
theorem zX {H:Hp} {x dx m:Addr} {o o1 o2:HO} (nx:H x=none) (nd:H dx=none) (hm:H m=some o):upd (upd H dx o1) x o2 m=some o∧m≠x:=by
 have h1:m≠x:=fun z=>by rw [z,nx] at hm;cases hm
 have h2:m≠dx:=fun z=>by rw [z,nd] at hm;cases hm
 exact ⟨by rw [aB h1,aB h2];exact hm,h1⟩
theorem P0 {H:Hp} {x dx:Addr} {o1 o2:HO} (nx:H x=none) (nd:H dx=none):Same H (upd (upd H dx o1) x o2):=fun b o e=>(zX nx nd e).1
theorem PsH.same {H H':Hp} {ps:List V} {hs:List Nat} (p:PsH mg H ps hs) (c:Same H H'):PsH mg H' ps hs:=⟨p.1,fun i v h e1 e2=>by
 obtain ⟨q,y,s,t,k,L,qs,rfl,z⟩:=p.2 i v h e1 e2
 exact ⟨q,y,s,t,k,L,qs,rfl,z.same c⟩⟩
def GP1 (mg:Str→Option Value) (H:Hp) (x:Addr) (side top:Str) (h:Nat):Prop:=∃ (y kind:Str) (ps:List V) (hs:List Nat),PG mg H x y side top kind ps h∧TK y kind∧PsH mg H ps hs∧uR hs h∧((ps=[]∧(kind=Str.ofString "blank"∨kind=Str.ofString "one"))∨ps.length=2)
theorem GP1.same {H H':Hp} {x:Addr} {side top:Str} {h:Nat} (p:GP1 mg H x side top h) (c:Same H H'):GP1 mg H' x side top h:=by
 obtain ⟨y,k,ps,hs,a,b,d,e,f⟩:=p
 exact ⟨y,k,ps,hs,a.same c,b,d.same c,e,f⟩
theorem GP1.blank {H:Hp} {x:Addr} {side top:Str} (p:PG mg H x "Blank" side top (Str.ofString "blank") [] 0):GP1 mg H x side top 0:=⟨_,_,_,[],p,.inl ⟨rfl,rfl⟩,tX,.inl ⟨rfl,rfl⟩,.inl ⟨rfl,.inl rfl⟩⟩
theorem GP1.one {H:Hp} {x:Addr} {side top:Str} (p:PG mg H x "One" side top (Str.ofString "one") [] 0):GP1 mg H x side top 0:=⟨_,_,_,[],p,.inr (.inl ⟨rfl,rfl⟩),tX,.inl ⟨rfl,rfl⟩,.inl ⟨rfl,.inr rfl⟩⟩
theorem GP1.two {H:Hp} {x u l:Addr} {y kind side top s1 t1 s2 t2:Str} {h hu hl:Nat} (tk:TK y kind) (p:PG mg H x y side top kind [.ref u,.ref l] h) (hh:uR [hu,hl] h) (gu:GP1 mg H u s1 t1 hu) (gl:GP1 mg H l s2 t2 hl):GP1 mg H x side top h:=by
 obtain ⟨_,_,_,_,a,_⟩:=gu
 obtain ⟨_,_,_,_,b,_⟩:=gl
 exact ⟨y,kind,_,[hu,hl],p,tk,xZ a b,hh,.inr rfl⟩
structure GP (mg:Str→Option Value) (H0 H:Hp) (x:Addr) (side top:Str) (h:Nat):Prop where
 g:GP1 mg H x side top h
 off:∀ m o,H0 m=some o→GP1 mg (Hx m H) x side top h
theorem GP.same {H0 H H':Hp} {x:Addr} {side top:Str} {h:Nat} (p:GP mg H0 H x side top h) (c:Same H H'):GP mg H0 H' x side top h:=⟨p.g.same c,fun m o hm=>(p.off m o hm).same (Xo c)⟩
theorem Gk {H:Hp} {a m:Addr} {o:HO} (hm:H m=some o) (n:H a=none):a≠m:=fun z=>by rw [z,hm] at n;cases n
theorem uV {H0 H:Hp} {side top:Str} {R:Addr→Hp→Prop} {E:XK} (S0:Same H0 H) (rs:Row side) (rt:Row top) (he:side.cps.size=0∨top.cps.size=0) (q:∀ x H',Same H H'→PG mg H' x "Blank" side top (Str.ofString "blank") [] 0→GP mg H0 H' x side top 0→R x H') (x dx:Addr) (nx:H x=none) (nd:H dx=none) (_:dx≠x):
  Du mg [.ref x,.str side,.str top] (upd (upd H dx (.own x)) x (.ins (aD mg "Blank") dx [])) (fun v H2=>v= .non∧R x H2) E:=
 ⟨x,dx,side,top,rfl,aj,rs,rt,he,fun H2 C P2 N2=>⟨rfl,q x H2 (yh nx nd C) P2 ⟨.blank P2,fun m o hm=>.blank (N2 m o (zX nx nd (S0 _ _ hm)).1 (Gk (S0 _ _ hm) nx).symm)⟩⟩⟩
theorem BW {H0 H:Hp} {c d:Nat} {R:Addr→Hp→Prop} {E:XK} (S0:Same H0 H) (hc:c∈GOOD) (hd:d∈GOOD) (q:∀ x H',Same H H'→PG mg H' x "One" ⟨#[c]⟩ ⟨#[d]⟩ (Str.ofString "one") [] 0→GP mg H0 H' x ⟨#[c]⟩ ⟨#[d]⟩ 0→R x H') (x dx:Addr) (nx:H x=none) (nd:H dx=none) (_:dx≠x):
  Q3 mg [.ref x,.str ⟨#[c]⟩,.str ⟨#[d]⟩] (upd (upd H dx (.own x)) x (.ins (aD mg "One") dx [])) (fun v H2=>v= .non∧R x H2) E:=
 ⟨x,dx,c,d,rfl,aj,hc,hd,fun H2 C P2 N2=>⟨rfl,q x H2 (yh nx nd C) P2 ⟨.one P2,fun m o hm=>.one (N2 m o (zX nx nd (S0 _ _ hm)).1 (Gk (S0 _ _ hm) nx).symm)⟩⟩⟩
theorem Qa {H0 H:Hp} {u l:Addr} {su sl top:Str} {hu hl:Nat} {R:Addr→Hp→Prop} {E:XK} (S0:Same H0 H) (gu:GP mg H0 H u su top hu) (gl:GP mg H0 H l sl top hl) (hlen:(su ++ sl).length≤48) (q:∀ x h H',Same H H'→uR [hu,hl] h→PG mg H' x "Over" (su ++ sl) top (Str.ofString "over") [.ref u,.ref l] h→GP mg H0 H' x (su ++ sl) top h→R x H') (x dx:Addr) (nx:H x=none) (nd:H dx=none) (_:dx≠x):
  Dv mg [.ref x,.ref u,.ref l] (upd (upd H dx (.own x)) x (.ins (aD mg "Over") dx [])) (fun v H2=>v= .non∧R x H2) E:=by
 obtain ⟨_,_,_,_,a,_⟩:=id gu.g
 obtain ⟨_,_,_,_,b,_⟩:=id gl.g
 refine ⟨x,dx,u,l,_,_,su,sl,top,_,_,_,_,hu,hl,rfl,aj,a.same (P0 nx nd),b.same (P0 nx nd),hlen,fun h H2 hh C P2 N2=>⟨rfl,?_⟩⟩
 have S:=yh nx nd C
 have tk:TK "Over" (Str.ofString "over"):=.inr (.inr (.inl ⟨rfl,rfl⟩))
 exact q x h H2 S hh P2 ⟨.two tk P2 hh (gu.same S).g (gl.same S).g,fun m o hm=>.two tk (N2 m o (zX nx nd (S0 _ _ hm)).1 (Gk (S0 _ _ hm) nx).symm) hh ((gu.same S).off m o hm) ((gl.same S).off m o hm)⟩
theorem wB {H0 H:Hp} {u l:Addr} {side tu tl:Str} {hu hl:Nat} {R:Addr→Hp→Prop} {E:XK} (S0:Same H0 H) (gu:GP mg H0 H u side tu hu) (gl:GP mg H0 H l side tl hl) (hlen:(tu ++ tl).length≤48) (q:∀ x h H',Same H H'→uR [hu,hl] h→PG mg H' x "Beside" side (tu ++ tl) (Str.ofString "beside") [.ref u,.ref l] h→GP mg H0 H' x side (tu ++ tl) h→R x H') (x dx:Addr) (nx:H x=none) (nd:H dx=none) (_:dx≠x):
  wA mg [.ref x,.ref u,.ref l] (upd (upd H dx (.own x)) x (.ins (aD mg "Beside") dx [])) (fun v H2=>v= .non∧R x H2) E:=by
 obtain ⟨_,_,_,_,a,_⟩:=id gu.g
 obtain ⟨_,_,_,_,b,_⟩:=id gl.g
 refine ⟨x,dx,u,l,_,_,side,tu,tl,_,_,_,_,hu,hl,rfl,aj,a.same (P0 nx nd),b.same (P0 nx nd),hlen,fun h H2 hh C P2 N2=>⟨rfl,?_⟩⟩
 have S:=yh nx nd C
 have tk:TK "Beside" (Str.ofString "beside"):=.inr (.inr (.inr ⟨rfl,rfl⟩))
 exact q x h H2 S hh P2 ⟨.two tk P2 hh (gu.same S).g (gl.same S).g,fun m o hm=>.two tk (N2 m o (zX nx nd (S0 _ _ hm)).1 (Gk (S0 _ _ hm) nx).symm) hh ((gu.same S).off m o hm) ((gl.same S).off m o hm)⟩
theorem Q4 {a b h n:Nat} (k:uR [a,b] h) (ha:a≤n) (hb:b≤n):h≤n+1:=by
 rcases k with ⟨e,_⟩ | ⟨⟨c,hc,e⟩,_⟩
 ·cases e
 ·simp only [List.mem_cons,List.mem_nil_iff,or_false] at hc
  rcases hc with rfl | rfl <;> omega
theorem kj {a b:Str} (h:a.cps.toList=b.cps.toList):a=b:=by
 cases a;cases b;congr;exact Array.ext' h
def lw:List Str→Str
 | []=>Str.ofString ""
 | s :: ss=>s ++ lw ss
theorem tZ:(Str.ofString "").cps.toList=[]:=by decide+kernel
theorem Dy (s:Str):s ++ Str.ofString ""=s:=kj (by rw [jd,tZ,List.append_nil])
theorem Qc (s:Str):Str.ofString "" ++ s=s:=kj (by rw [jd,tZ,List.nil_append])
theorem Gm (a b c:Str):a ++ b ++ c=a ++ (b ++ c):=kj (by rw [jd,jd,jd,jd,List.append_assoc])
theorem zY:∀ (a b:List Str),lw (a ++ b)=lw a ++ lw b
 | [],b=>(Qc _).symm
 | s :: a,b=>by show s ++ lw (a ++ b)=s ++ lw a ++ lw b;rw [zY a b,Gm]
def pN (z:Str):List Str:=z.cps.toList.map fun c=>⟨#[c]⟩
theorem pC (z:Str):lw (pN z)=z:=by
 refine kj ?_
 unfold pN
 induction z.cps.toList with
 | nil=>exact tZ
 | cons c l ih=>show (⟨#[c]⟩ ++ lw _:Str).cps.toList=_;rw [jd,ih];rfl
theorem len_cat (a b:Str):(a ++ b).length=a.length+b.length:=oX a b
def KR (K:PySem.W.Frag) (mg:Str→Option Value) (d:Nat):Sp:=fun vs H Q _=>∃ (p:Addr) (xs:List Addr) (side:Str) (ts:List Str) (h0:Nat) (H0:Hp),vs=[.ref p]∧Same H0 H∧H p=some (.lst (xs.map V.ref))∧xs.length=ts.length∧0 < xs.length∧xs.length≤2 ^ d∧(lw ts).length≤48∧(∀ (i:Nat) (x:Addr) (t:Str),xs[i]?=some x→ts[i]?=some t→∃ h,h≤h0∧GP mg H0 H x side t h)∧
 ∀ x h H',Same H H'→h≤h0+d→GP mg H0 H' x side (lw ts) h→Q (.ref x) H'
def Yk (K:PySem.W.Frag) (mg:Str→Option Value):Nat→Sp
 | 0=>fun _ _ _ _=>False
 | d+1=>KR K mg d
def KY (K:PySem.W.Frag) (mg:Str→Option Value) (d:Nat):Sp:=fun vs H Q _=>∃ (p:Addr) (xs:List Addr) (top:Str) (ts:List Str) (h0:Nat) (H0:Hp),vs=[.ref p]∧Same H0 H∧H p=some (.lst (xs.map V.ref))∧xs.length=ts.length∧0 < xs.length∧xs.length≤2 ^ d∧(lw ts).length≤48∧(∀ (i:Nat) (x:Addr) (t:Str),xs[i]?=some x→ts[i]?=some t→∃ h,h≤h0∧GP mg H0 H x t top h)∧
 ∀ x h H',Same H H'→h≤h0+d→GP mg H0 H' x (lw ts) top h→Q (.ref x) H'
def Yl (K:PySem.W.Frag) (mg:Str→Option Value):Nat→Sp
 | 0=>fun _ _ _ _=>False
 | d+1=>KY K mg d
theorem wC {ts:List Str} {c:Nat} (h:(lw ts).length≤48):lw ts=lw (ts.take c) ++ lw (ts.drop c)∧(lw (ts.take c)).length+(lw (ts.drop c)).length≤48:=by
 have e:lw ts=lw (ts.take c) ++ lw (ts.drop c):=by rw [← zY,List.take_append_drop]
 refine ⟨e,?_⟩
 rw [e,len_cat] at h
 exact h
theorem half {n d:Nat} (h:n≤2 ^ (d+1)):n / 2≤2 ^ d∧n - n / 2≤2 ^ d:=by
 rw [Nat.pow_succ] at h
 omega
theorem mH:aC ["pieces","cut"] ["pieces"] (aq fB):=⟨rfl,rfl,rfl,by decide+kernel,rfl,by decide+kernel,by decide+kernel⟩
theorem vp (T:Txt K mg):Has P w K mg base 1 "all_beside" ["pieces"] (fun _ _ _ _=>False):=gr (k:=0) T.d_all_beside mH (fun _ _ _ _ _ _ us hl=>L2.jU (fun _=>rfl) us hl) (fun _ _ _ _ h=>h.elim) (fun _ _ _ _ _ _ _ _ _ _ h=>h.elim)
theorem pP (T:Txt K mg) (d:Nat) (iI:Has P w K mg base (10+d) "all_beside" ["pieces"] (Yk K mg d)):Has P w K mg base (10+d+1) "all_beside" ["pieces"] (KR K mg d):=by
 have dX:=dX (P:=P) (w:=w) (base:=base) T
 refine gr T.d_all_beside mH (fun _ _ _ _ _ _ us hl=>L2.jU (fun _=>rfl) us hl) ?_ fun f cdv A outer s H vs Q E hr h=>?_
 ·rintro vs H Q E ⟨p,xs,side,ts,h0,H0,rfl,_⟩;rfl
 obtain ⟨p,xs,side,ts,h0,H0,rfl,hS0,hp,hl,h1,h2,hlen,hG,q⟩:=h
 have hu:=hr.units0
 have hu64:=hr.units
 refine ⟨_,(az (cP (bR (jW (K:=K) rfl hu64) (aG (aJ (K:=K) rfl) (aU Yh) T.b_len bC (aa (ao 0 KN) ak) (by decide+kernel) (by decide+kernel)) aH (by first | exact aV _ | with_unfolding_all rfl)) (aA (aK (jV (K:=K) rfl (ao 0 KN) aH))) bB) (az (aP (i:=1) mH.nd rfl (Or.inl Va) (bN Ce (aG (aJ (K:=K) rfl) (aU Yh) T.b_len bC (aa (ao 0 KN) ak) (by decide+kernel) (by decide+kernel)) aH) rfl) (aA (aK (lX T.o_Beside dX (hr.mono (by omega)) (aU kz5u) (fu fun _ _=>rfl) (aa (aF iI (hr.mono (by omega)) (aU Yg) (aa (ni (mY (K:=K) rfl) (ao 0 KN) m7 (m9 (ao 1 Va))) ak) (by decide+kernel)) (aa (aF iI (hr.mono (by omega)) (aU Yg) (aa (ni (mY (K:=K) rfl) (ao 0 KN) (m9 (ao 1 Va)) m7) ak) (by decide+kernel)) ak)) (by decide+kernel)))))),?_⟩
 walk_at "sts"
 have hz:20000≤sizeLine:=by decide
 refine gU (SqL.of hp) ?_
 walk_at "sts"
 rw [List.length_map]
 by_cases e1:xs.length=1
 ·rw [decide_eq_true (show V.int (xs.length:Int)=V.int 1 by rw [e1];rfl)]
  obtain ⟨x,rfl⟩:=List.length_eq_one_iff.mp e1
  obtain ⟨t,rfl⟩:=List.length_eq_one_iff.mp (hl.symm.trans e1)
  obtain ⟨h,hh,g⟩:=hG 0 x t rfl rfl
  have hp':H p=some (.lst [.ref x]):=hp
  walk_at "sts"
  refine q x h H (Same.refl H) (by omega) ?_
  rw [show lw [t]=t from Dy t]
  exact g
 ·rw [decide_eq_false (show ¬ V.int (xs.length:Int)=V.int 1 from fun z=>e1 (by have:=V.int.inj z;omega))]
  obtain ⟨e,rfl⟩:∃ e,d=e+1:=by
   cases d with
   | zero=>simp at h2;omega
   | succ e=>exact ⟨e,rfl⟩
  obtain ⟨k1,k2⟩:=half h2
  walk_at "sts"
  refine gU (SqL.of hp) ?_
  walk_at "sts"
  rw [List.length_map,show ((xs.length:Nat):Int) / 2=((xs.length / 2:Nat):Int) by omega]
  generalize hc:xs.length / 2=c at k1 k2 ⊢
  obtain ⟨c1,c2⟩:=wC (c:=c) hlen
  walk_at "sts"
  refine CJ (SqL.of hp) fun p1 np1=>?_
  walk_at "sts"
  rw [zm,← List.map_take]
  have S1:=(Same.refl H).upd np1 (o:=.lst ((xs.take c).map V.ref))
  have hp1:=aj (H:=H) (a:=p1) (o:=.lst ((xs.take c).map V.ref))
  generalize upd H p1 (.lst ((xs.take c).map V.ref))=H1 at S1 hp1 ⊢
  walk_at "sts"
  refine ⟨p1,xs.take c,side,ts.take c,h0,H0,rfl,hS0.trans S1,hp1,by simp;omega,by simp;omega,by simp;omega,by omega,(fun i x t ex et=>?_),fun x1 g1 H2 S2 l1 G1=>?_⟩
  walk_at "sts"
  ·obtain ⟨ei,ex'⟩:i < c∧xs[i]?=some x:=by
    rw [List.getElem?_take] at ex
    split at ex
    ·exact ⟨by assumption,ex⟩
    ·cases ex
   rw [List.getElem?_take_of_lt ei] at et
   obtain ⟨h,hh,g⟩:=hG i x t ex' et
   exact ⟨h,hh,g.same S1⟩
  have U2:=S1.trans S2
  try walk_at "sts"
  refine CJ (SqL.of (U2 _ _ hp)) fun p2 np2=>?_
  walk_at "sts"
  rw [uE,← List.map_drop]
  have S3:=(Same.refl H2).upd np2 (o:=.lst ((xs.drop c).map V.ref))
  have hp3:=aj (H:=H2) (a:=p2) (o:=.lst ((xs.drop c).map V.ref))
  generalize upd H2 p2 (.lst ((xs.drop c).map V.ref))=H3 at S3 hp3 ⊢
  walk_at "sts"
  refine ⟨p2,xs.drop c,side,ts.drop c,h0,H0,rfl,hS0.trans (U2.trans S3),hp3,by simp;omega,by simp;omega,by simp;omega,by omega,(fun i x t ex et=>?_),fun x2 g2 H4 S4 l2 G2=>?_⟩
  walk_at "sts"
  ·rw [List.getElem?_drop] at ex et
   obtain ⟨h,hh,g⟩:=hG _ x t ex et
   exact ⟨h,hh,g.same (U2.trans S3)⟩
  try walk_at "sts"
  refine wB (hS0.trans (U2.trans (S3.trans S4))) (G1.same (S3.trans S4)) G2 (by rw [len_cat];omega) fun x h H5 S5 hh _ g=>?_
  refine q x h H5 (U2.trans (S3.trans (S4.trans S5))) (by have:=Q4 hh l1 l2;omega) ?_
  rw [c1]
  exact g
theorem oZ:aC ["pieces","cut"] ["pieces"] (aq iw):=⟨rfl,rfl,rfl,by decide+kernel,rfl,by decide+kernel,by decide+kernel⟩
theorem zZ (T:Txt K mg):Has P w K mg base 1 "all_over" ["pieces"] (fun _ _ _ _=>False):=gr (k:=0) T.d_all_over oZ (fun _ _ _ _ _ _ us hl=>L2.jU (fun _=>rfl) us hl) (fun _ _ _ _ h=>h.elim) (fun _ _ _ _ _ _ _ _ _ _ h=>h.elim)
theorem sX (T:Txt K mg) (d:Nat) (j6:Has P w K mg base (10+d) "all_over" ["pieces"] (Yl K mg d)):Has P w K mg base (10+d+1) "all_over" ["pieces"] (KY K mg d):=by
 have kY:=kY (P:=P) (w:=w) (base:=base) T
 refine gr T.d_all_over oZ (fun _ _ _ _ _ _ us hl=>L2.jU (fun _=>rfl) us hl) ?_ fun f cdv A outer s H vs Q E hr h=>?_
 ·rintro vs H Q E ⟨p,xs,top,ts,h0,H0,rfl,_⟩;rfl
 obtain ⟨p,xs,top,ts,h0,H0,rfl,hS0,hp,hl,h1,h2,hlen,hG,q⟩:=h
 have hu:=hr.units0
 have hu64:=hr.units
 refine ⟨_,(az (cP (bR (jW (K:=K) rfl hu64) (aG (aJ (K:=K) rfl) (aU Yj) T.b_len bC (aa (ao 0 KQ) ak) (by decide+kernel) (by decide+kernel)) aH (by first | exact aV _ | with_unfolding_all rfl)) (aA (aK (jV (K:=K) rfl (ao 0 KQ) aH))) bB) (az (aP (i:=1) oZ.nd rfl (Or.inl Vb) (bN Ce (aG (aJ (K:=K) rfl) (aU Yj) T.b_len bC (aa (ao 0 KQ) ak) (by decide+kernel) (by decide+kernel)) aH) rfl) (aA (aK (lX T.o_Over kY (hr.mono (by omega)) (aU kz5z) (fu fun _ _=>rfl) (aa (aF j6 (hr.mono (by omega)) (aU Yi) (aa (ni (mY (K:=K) rfl) (ao 0 KQ) m7 (m9 (ao 1 Vb))) ak) (by decide+kernel)) (aa (aF j6 (hr.mono (by omega)) (aU Yi) (aa (ni (mY (K:=K) rfl) (ao 0 KQ) (m9 (ao 1 Vb)) m7) ak) (by decide+kernel)) ak)) (by decide+kernel)))))),?_⟩
 walk_at "sts"
 have hz:20000≤sizeLine:=by decide
 refine gU (SqL.of hp) ?_
 walk_at "sts"
 rw [List.length_map]
 by_cases e1:xs.length=1
 ·rw [decide_eq_true (show V.int (xs.length:Int)=V.int 1 by rw [e1];rfl)]
  obtain ⟨x,rfl⟩:=List.length_eq_one_iff.mp e1
  obtain ⟨t,rfl⟩:=List.length_eq_one_iff.mp (hl.symm.trans e1)
  obtain ⟨h,hh,g⟩:=hG 0 x t rfl rfl
  have hp':H p=some (.lst [.ref x]):=hp
  walk_at "sts"
  refine q x h H (Same.refl H) (by omega) ?_
  rw [show lw [t]=t from Dy t]
  exact g
 ·rw [decide_eq_false (show ¬ V.int (xs.length:Int)=V.int 1 from fun z=>e1 (by have:=V.int.inj z;omega))]
  obtain ⟨e,rfl⟩:∃ e,d=e+1:=by
   cases d with
   | zero=>simp at h2;omega
   | succ e=>exact ⟨e,rfl⟩
  obtain ⟨k1,k2⟩:=half h2
  walk_at "sts"
  refine gU (SqL.of hp) ?_
  walk_at "sts"
  rw [List.length_map,show ((xs.length:Nat):Int) / 2=((xs.length / 2:Nat):Int) by omega]
  generalize hc:xs.length / 2=c at k1 k2 ⊢
  obtain ⟨c1,c2⟩:=wC (c:=c) hlen
  walk_at "sts"
  refine CJ (SqL.of hp) fun p1 np1=>?_
  walk_at "sts"
  rw [zm,← List.map_take]
  have S1:=(Same.refl H).upd np1 (o:=.lst ((xs.take c).map V.ref))
  have hp1:=aj (H:=H) (a:=p1) (o:=.lst ((xs.take c).map V.ref))
  generalize upd H p1 (.lst ((xs.take c).map V.ref))=H1 at S1 hp1 ⊢
  walk_at "sts"
  refine ⟨p1,xs.take c,top,ts.take c,h0,H0,rfl,hS0.trans S1,hp1,by simp;omega,by simp;omega,by simp;omega,by omega,(fun i x t ex et=>?_),fun x1 g1 H2 S2 l1 G1=>?_⟩
  walk_at "sts"
  ·obtain ⟨ei,ex'⟩:i < c∧xs[i]?=some x:=by
    rw [List.getElem?_take] at ex
    split at ex
    ·exact ⟨by assumption,ex⟩
    ·cases ex
   rw [List.getElem?_take_of_lt ei] at et
   obtain ⟨h,hh,g⟩:=hG i x t ex' et
   exact ⟨h,hh,g.same S1⟩
  have U2:=S1.trans S2
  try walk_at "sts"
  refine CJ (SqL.of (U2 _ _ hp)) fun p2 np2=>?_
  walk_at "sts"
  rw [uE,← List.map_drop]
  have S3:=(Same.refl H2).upd np2 (o:=.lst ((xs.drop c).map V.ref))
  have hp3:=aj (H:=H2) (a:=p2) (o:=.lst ((xs.drop c).map V.ref))
  generalize upd H2 p2 (.lst ((xs.drop c).map V.ref))=H3 at S3 hp3 ⊢
  walk_at "sts"
  refine ⟨p2,xs.drop c,top,ts.drop c,h0,H0,rfl,hS0.trans (U2.trans S3),hp3,by simp;omega,by simp;omega,by simp;omega,by omega,(fun i x t ex et=>?_),fun x2 g2 H4 S4 l2 G2=>?_⟩
  walk_at "sts"
  ·rw [List.getElem?_drop] at ex et
   obtain ⟨h,hh,g⟩:=hG _ x t ex et
   exact ⟨h,hh,g.same (U2.trans S3)⟩
  try walk_at "sts"
  refine Qa (hS0.trans (U2.trans (S3.trans S4))) (G1.same (S3.trans S4)) G2 (by rw [len_cat];omega) fun x h H5 S5 hh _ g=>?_
  refine q x h H5 (U2.trans (S3.trans (S4.trans S5))) (by have:=Q4 hh l1 l2;omega) ?_
  rw [c1]
  exact g
theorem Gn (T:Txt K mg):∀ d:Nat,Has P w K mg base (11+d) "all_beside" ["pieces"] (KR K mg d):=fun d=>by
 have key:∀ d:Nat,Has P w K mg base (11 - 1+d+1) "all_beside" ["pieces"] (KR K mg d):=fun d=>by
  induction d with
  | zero=>exact pP T 0 ((vp T).mono (by decide))
  | succ d ih=>exact pP T (d+1) (ih.mono (by omega))
 exact (key d).mono (by omega)
theorem Qd (T:Txt K mg):∀ d:Nat,Has P w K mg base (11+d) "all_over" ["pieces"] (KY K mg d):=fun d=>by
 have key:∀ d:Nat,Has P w K mg base (11 - 1+d+1) "all_over" ["pieces"] (KY K mg d):=fun d=>by
  induction d with
  | zero=>exact sX T 0 ((zZ T).mono (by decide))
  | succ d ih=>exact sX T (d+1) (ih.mono (by omega))
 exact (key d).mono (by omega)
theorem iI (T:Txt K mg):Has P w K mg base (11+6) "all_beside" ["pieces"] (KR K mg 6):=Gn T 6
theorem j6 (T:Txt K mg):Has P w K mg base (11+6) "all_over" ["pieces"] (KY K mg 6):=Qd T 6
end
section
variable {P:Program} {w:World} {K:PySem.W.Frag} {mg:Str→Option Value} {base:Heap}
theorem Qe:bz jc "piece":=by decide+kernel
theorem KZ:bz jc "row":=by decide+kernel
theorem Ym:bz jc "sign":=by decide+kernel
theorem kz67:bM jc "Beside":=by decide+kernel
theorem Yn:bM jc "One":=by decide+kernel
theorem Qf:bz jc "letter":=by decide+kernel
theorem kz6a:bM jc "Blank":=by decide+kernel
theorem kz6b:bM jc "need_row":=by decide+kernel
theorem kz6c:bM jc "need_sign":=by decide+kernel
def Ab (row:Str) (n:Nat):Str:=⟨(row.cps.toList.take n).toArray⟩
theorem nR (row:Str) (n:Nat):(Ab row n).cps.toList=row.cps.toList.take n:=by unfold Ab;simp
def Chn (mg:Str→Option Value) (H:Hp) (c row:Str):Nat→Addr→Prop
 | 0,_=>False
 | 1,x=>PG mg H x "One" c (Ab row 1) (Str.ofString "one") [] 0
 | n+2,x=>∃ x' o d,PG mg H x "Beside" c (Ab row (n+2)) (Str.ofString "beside") [.ref x',.ref o] (n+1)∧Chn mg H c row (n+1) x'∧row.cps.toList[n+1]?=some d∧PG mg H o "One" c ⟨#[d]⟩ (Str.ofString "one") [] 0
theorem Chn.same {H H':Hp} {c row:Str} (s:Same H H'):∀ {n:Nat} {x:Addr},Chn mg H c row n x→Chn mg H' c row n x
 | 0,_,h=>h.elim
 | 1,_,h=>PG.same h s
 | n+2,_,⟨x',o,d,a,b,e,f⟩=>⟨x',o,d,a.same s,Chn.same s b,e,f.same s⟩
theorem Qg {n h:Nat} (k:uR [n,0] h):h=n+1:=by
 rcases k with ⟨e,_⟩ | ⟨⟨c,hc,e⟩,k⟩
 ·cases e
 ·have k1:=k n (by simp)
  simp only [List.mem_cons,List.mem_nil_iff,or_false] at hc
  rcases hc with rfl | rfl <;> omega
theorem Qh (row:Str):Ab row row.cps.size=row:=kj (by rw [nR,List.take_of_length_le (by simp)])
theorem z6 {row:Str} {n d:Nat} (h:row.cps.toList[n]?=some d):Ab row n ++ ⟨#[d]⟩=Ab row (n+1):=kj (by rw [jd,nR,nR,List.take_add_one,h];rfl)
def Qi (mg:Str→Option Value):Sp:=fun vs H Q _=>∃ (c:Nat) (row:Str),vs=[.str ⟨#[c]⟩,.str row]∧c∈GOOD∧Row row∧(∀ x H',Same H H'→row.cps.size=0→PG mg H' x "Blank" ⟨#[c]⟩ row (Str.ofString "blank") [] 0→GP mg H H' x ⟨#[c]⟩ row 0→Q (.ref x) H')∧∀ x H',Same H H'→0 < row.cps.size→Chn mg H' ⟨#[c]⟩ row row.cps.size x→GP mg H H' x ⟨#[c]⟩ row (row.cps.size - 1)→Q (.ref x) H'
theorem mz {z:Str}:z=Str.ofString ""↔z.cps.size=0:=⟨fun h=>by rw [h];decide+kernel,fun h=>kj (by rw [tZ];exact List.eq_nil_of_length_eq_zero (by simpa using h))⟩
theorem qP:aC ["letter","row","piece","sign"] ["letter","row"] (aq jc):=⟨rfl,rfl,rfl,by decide+kernel,rfl,by decide+kernel,by decide+kernel⟩
theorem yj (T:Txt K mg):Has P w K mg base 11 "strip" ["letter","row"] (Qi mg):=by
 have iB:=iB (P:=P) (w:=w) (base:=base) T
 have jj:=jj (P:=P) (w:=w) (base:=base) T
 have d9:=d9 (P:=P) (w:=w) (base:=base) T
 have eQ:=eQ (P:=P) (w:=w) (base:=base) T
 have dX:=dX (P:=P) (w:=w) (base:=base) T
 refine gr T.d_strip qP (fun _ _ _ _ _ _ us hl=>L2.ou (fun _ _=>rfl) us hl) ?_ fun f cdv A outer s H vs Q E hr h=>?_
 ·rintro vs H Q E ⟨c,row,rfl,_⟩;rfl
 obtain ⟨c,row,rfl,hc,hR,qB,q⟩:=h
 have hu:=hr.units0
 have hu64:=hr.units
 refine ⟨_,(az (bD (aF iB (hr.mono (by decide)) (aU kz6c) (aa (ao 0 Qf) ak) (by decide+kernel))) (az (bD (aF jj (hr.mono (by decide)) (aU kz6b) (aa (ao 1 KZ) ak) (by decide+kernel))) (az (cP (bR (jW (K:=K) rfl hu64) (ao 1 KZ) gC (by first | exact aV _ | with_unfolding_all rfl)) (aA (aK (lX T.o_Blank d9 (hr.mono (by decide)) (aU kz6a) (fu fun _ _=>rfl) (aa (ao 0 Qf) (aa (ao 1 KZ) ak)) (by decide+kernel)))) bB) (az (aP (i:=2) qP.nd rfl (Or.inl Qe) (lX T.o_One eQ (hr.mono (by decide)) (aU Yn) (fu fun _ _=>rfl) (aa (ao 0 Qf) (aa (jV (K:=K) rfl (ao 1 KZ) aH) ak)) (by decide+kernel)) rfl) (az (jC PassesOwn.never rfl (jf (K:=K) rfl (ni (mY (K:=K) rfl) (ao 1 KZ) (m9 aH) m7)) (dJ (i:=3) qP.nd rfl (Or.inl Ym) rfl) (aA (aP (i:=2) qP.nd rfl (Or.inl Qe) (lX T.o_Beside dX (hr.mono (by decide)) (aU kz67) (fu fun _ _=>rfl) (aa (ao 2 Qe) (aa (lX T.o_One eQ (hr.mono (by decide)) (aU Yn) (fu fun _ _=>rfl) (aa (ao 0 Qf) (aa (ao 3 Ym) ak)) (by decide+kernel)) ak)) (by decide+kernel)) rfl))) (aA (aK (ao 2 Qe)))))))),?_⟩
 walk_at "sts"
 have hz:20000≤sizeLine:=by decide
 have hl:=hR.1
 have el:row.length=row.cps.size:=rfl
 refine ⟨c,rfl,hc,?_⟩
 walk_at "sts"
 refine ⟨row,rfl,hR,fun H1 S1=>?_⟩
 walk_at "sts"
 by_cases h0:row.cps.size=0
 ·rw [decide_eq_true (show V.str row=V.str (Str.ofString "") by rw [mz.mpr h0])]
  walk_at "sts"
  refine uV S1 (qO hc) hR (.inr h0) fun x H2 S2 p2 g2=>?_
  exact qB x H2 (S1.trans S2) h0 p2 g2
 ·rw [decide_eq_false (show ¬ V.str row=V.str (Str.ofString "") from fun z=>h0 (mz.mp (V.str.inj z)))]
  obtain ⟨d0,e0⟩:∃ d0,row.cps.toList[0]?=some d0:=⟨_,List.getElem?_eq_getElem (by simpa using (by omega:0 < row.cps.size))⟩
  walk_at "sts"
  refine ux (by omega) (lV e0) ?_
  walk_at "sts"
  refine BW S1 hc (hR.2 d0 (List.mem_of_getElem? e0)) fun x1 H2 S2 p2 g2=>?_
  try walk_at "sts"
  refine Io (by omega) ?_
  walk_at "sts"
  have ep:Ab row 1=⟨#[d0]⟩:=kj (by rw [nR,List.take_add_one,e0];rfl)
  have hp2:Chn mg H2 ⟨#[c]⟩ row 1 x1:=by
   show PG mg H2 x1 "One" _ (Ab row 1) _ [] 0
   rw [ep];exact p2
  rw [← ep] at g2
  have es:=Bj row 1
  generalize hzz:Txt.slice row (some ((1:Nat):Int)) none=z at es
  have ez:z.length=row.cps.size - 1:=by
   have:z.length=z.cps.toList.length:=by simp [Str.length]
   rw [this,es];simp
  refine .inr (.inr ⟨z,rfl,?_⟩)
  refine w5 (fun i σ G=>Same H G∧∃ x x3,σ=[some (.str ⟨#[c]⟩),some (.str row),some (.ref x),x3]∧Chn mg G ⟨#[c]⟩ row (i+1) x∧GP mg H G x ⟨#[c]⟩ (Ab row (i+1)) i) ⟨S1.trans S2,x1,_,rfl,hp2,g2⟩ ?_ ?_
  ·rintro i σ G d hd ⟨s,x,x3,rfl,hC,hg⟩
   rw [es,List.getElem?_drop,Nat.add_comm] at hd
   walk_at "sts"
   refine BW s hc (hR.2 d (List.mem_of_getElem? hd)) fun o G1 T1 po go=>?_
   try walk_at "sts"
   have hC1:=hC.same T1
   refine wB (s.trans T1) (hg.same T1) go ?_ fun x' h G2 T2 hh p' g'=>?_
   ·rw [z6 hd]
    have:(Ab row (i+1+1)).length=(Ab row (i+1+1)).cps.toList.length:=by simp [Str.length]
    rw [this,nR,List.length_take]
    simp;omega
   obtain rfl:=Qg hh
   rw [z6 hd] at p' g'
   try walk_at "sts"
   exact ⟨s.trans (T1.trans T2),x',_,rfl,⟨x,o,d,p',hC1.same T2,hd,po.same T2⟩,g'⟩
  ·rintro σ G ⟨s,x,x3,rfl,hC,hg⟩
   walk_at "sts"
   rw [ez,Nat.sub_add_cancel (by omega)] at hC hg
   rw [Qh] at hg
   exact q x G s (by omega) hC hg
end
local macro_rules | `(tactic| walk_at "sts") => `(tactic| (with_reducible repeat (first | refine jL ?_ | refine jA ?_ | refine jy ?_ | refine gk ?_ | refine gn ?_ | (refine' fZ ?hz0 ?_; (case hz0 => with_unfolding_all rfl)) | refine qR ?_ | refine jQ ?_ | refine dm ?_ | refine cX ?_ | refine f9 ?_ | refine lH ?_ | refine fP ?_ | refine cR ?_ | refine fU ?_ | refine cQ ?_ | refine jH ?_ | refine cU ?_ | refine jR ?_ | refine jN ?_ | refine cY ?_ | refine jJ ?_ | refine fV ?_ | refine fW ?_ | refine jK ?_ | refine cV ?_ | refine fX ?_ | refine cW ?_ | refine fY ?_ | refine fQ ?_ | refine cT ?_ | refine jM ?_ | refine eY ?_ | refine eV ?_ | refine jO ?_ | refine jP ?_ | refine gb ?_ | refine cZ ?_ | refine c7 ?_ | refine dg ?_ | refine dh ?_ | refine di ?_ | refine dj ?_ | refine gf ?_ | refine qU ?_ | refine bF ?_ | refine dz ?_ | (refine' b7 (SqT.of ?hz0) ?hz1 ?_; (case hz0 => first | assumption | exact aj); (case hz1 => rfl)) | refine bH ?_ | refine dB ?_ | refine dD ?_ | refine cI ?_ | refine cJ ?_ | refine cL ?_ | refine cM ?_ | refine jT ?_ | refine cC ?_ | refine cF ?_ | refine cG ?_ | refine cH ?_ | refine bG ?_ | refine gj ?_ | refine dw ?_ | (refine' qT ?hz0 ?_; (case hz0 => with_unfolding_all first | assumption | omega | (dsimp only <;> omega) | exact ⟨by omega, by omega⟩ | exact .inl ⟨by omega, by omega⟩ | exact .inr ⟨by omega, by omega⟩ | exact ⟨by decide, by decide, by decide⟩)) | (refine' dq ?hz0 ?_; (case hz0 => with_unfolding_all first | assumption | omega | (dsimp only <;> omega) | exact ⟨by omega, by omega⟩ | exact .inl ⟨by omega, by omega⟩ | exact .inr ⟨by omega, by omega⟩ | exact ⟨by decide, by decide, by decide⟩)) | (refine' cu (SqL.of ?hz0) ?hz1 ?_; (case hz0 => first | assumption | exact aj); (case hz1 => with_unfolding_all rfl)) | (refine' cB ?hz0 ?hz1 ?_; (case hz0 => first | assumption | exact aj); (case hz1 => with_unfolding_all rfl)) | refine bI ?_ | refine gq ?_ | refine dF ?_ | refine xr ?_ | refine bJ ?_ | refine dG ?_ | refine bK ?_ | refine dO ?_)))
local macro_rules | `(tactic| walk_at "stn") => `(tactic| (with_reducible repeat (first | refine jL ?_ | refine jA ?_ | refine jy ?_ | refine gk ?_ | refine gn ?_ | (refine' fZ ?hz0 ?_; (case hz0 => with_unfolding_all rfl)) | refine qR ?_ | refine jQ ?_ | refine dm ?_ | refine cX ?_ | refine f9 ?_ | refine fP ?_ | refine cR ?_ | refine fU ?_ | refine cQ ?_ | refine jH ?_ | refine cU ?_ | refine jR ?_ | refine jN ?_ | refine cY ?_ | refine jJ ?_ | refine fV ?_ | refine fW ?_ | refine jK ?_ | refine cV ?_ | refine fX ?_ | refine cW ?_ | refine fY ?_ | refine fQ ?_ | refine cT ?_ | refine jM ?_ | refine eY ?_ | refine eV ?_ | refine jO ?_ | refine jP ?_ | refine gb ?_ | refine cZ ?_ | refine c7 ?_ | refine dg ?_ | refine dh ?_ | refine di ?_ | refine dj ?_ | refine gf ?_ | refine qU ?_ | refine bF ?_ | refine dz ?_ | (refine' b7 (SqT.of ?hz0) ?hz1 ?_; (case hz0 => first | assumption | exact aj); (case hz1 => rfl)) | refine bH ?_ | refine dB ?_ | refine dD ?_ | refine cI ?_ | refine cJ ?_ | refine cL ?_ | refine cM ?_ | refine jT ?_ | refine cC ?_ | refine cF ?_ | refine cG ?_ | refine cH ?_ | refine bG ?_ | refine gj ?_ | refine dw ?_ | (refine' qT ?hz0 ?_; (case hz0 => with_unfolding_all first | assumption | omega | (dsimp only <;> omega) | exact ⟨by omega, by omega⟩ | exact .inl ⟨by omega, by omega⟩ | exact .inr ⟨by omega, by omega⟩ | exact ⟨by decide, by decide, by decide⟩)) | (refine' dq ?hz0 ?_; (case hz0 => with_unfolding_all first | assumption | omega | (dsimp only <;> omega) | exact ⟨by omega, by omega⟩ | exact .inl ⟨by omega, by omega⟩ | exact .inr ⟨by omega, by omega⟩ | exact ⟨by decide, by decide, by decide⟩)) | (refine' cu (SqL.of ?hz0) ?hz1 ?_; (case hz0 => first | assumption | exact aj); (case hz1 => with_unfolding_all rfl)) | (refine' cB ?hz0 ?hz1 ?_; (case hz0 => first | assumption | exact aj); (case hz1 => with_unfolding_all rfl)) | refine bI ?_ | refine gq ?_ | refine dF ?_ | refine xr ?_ | refine bJ ?_ | refine dG ?_ | refine bK ?_ | refine dO ?_)))
section
variable {P:Program} {w:World} {K:PySem.W.Frag} {mg:Str→Option Value} {base:Heap}
theorem vq:(["sign","bands"]:List Str).Nodup:=by decide+kernel
theorem vy:(["other","sign"]:List Str).Nodup:=by decide+kernel
theorem kz6d:bM dH "all_over":=by decide+kernel
theorem K1:bz dH "side":=by decide+kernel
theorem Vc:QT dH "sign":=by decide+kernel
theorem Vd:QT dH "bands":=by decide+kernel
theorem kz6h:bM dH "all_beside":=by decide+kernel
theorem Qj:bz dH "top":=by decide+kernel
theorem kz6j:bM dH "Blank":=by decide+kernel
theorem kz6k:bM dH "need_rows":=by decide+kernel
theorem Pc.off {H:Hp} {x d:Addr} {y side top kind:Str} {L:List Nat} {ps:List V} {h:Nat} {kvs:List (Key×V)} (p:Pc mg H x y side top kind L ps h) (hd:H d=some (.dK kvs)):Pc mg (Hx d H) x y side top kind L ps h:=by
 obtain ⟨hy,dx,al,ap,a,b,c⟩:=p
 exact ⟨hy,dx,al,ap,uO a (fun z=>by rw [z,hd] at a;cases a),uO b (fun z=>by rw [z,hd] at b;cases b),uO c (fun z=>by rw [z,hd] at c;cases c)⟩
theorem GP1.off {H:Hp} {x d:Addr} {side top:Str} {h:Nat} {kvs:List (Key×V)} (p:GP1 mg H x side top h) (hd:H d=some (.dK kvs)):GP1 mg (Hx d H) x side top h:=by
 obtain ⟨y,k,ps,hs,a,b,c,e,f⟩:=p
 exact ⟨y,k,ps,hs,⟨a.pc.off hd,a.rs,a.rt⟩,b,⟨c.1,fun i v n e1 e2=>by
  obtain ⟨q,y',s',t',k',L,qs,rfl,z⟩:=c.2 i v n e1 e2
  exact ⟨q,y',s',t',k',L,qs,rfl,z.off hd⟩⟩,e,f⟩
theorem GP1.put {H:Hp} {x d:Addr} {side top:Str} {h:Nat} {kvs:List (Key×V)} {o:HO} (p:GP1 mg H x side top h) (hd:H d=some (.dK kvs)):GP1 mg (upd H d o) x side top h:=(p.off hd).same (by rw [← Up (o:=o)];exact O5 d _)
theorem Ve {H:Hp} {m d:Addr} {o:HO} (n:d≠m):Hx m (upd H d o)=upd (Hx m H) d o:=by
 funext b
 unfold Hx
 by_cases h:b=m
 ·rw [if_pos h,aB (by rw [h];exact n.symm),if_pos h]
 ·rw [if_neg h]
  by_cases h2:b=d
  ·rw [h2,aj,aj]
  ·rw [aB h2,aB h2,if_neg h]
theorem GP.put {H0 H:Hp} {x d:Addr} {side top:Str} {h:Nat} {kvs:List (Key×V)} {o:HO} (p:GP mg H0 H x side top h) (hd:H d=some (.dK kvs)) (n0:H0 d=none):GP mg H0 (upd H d o) x side top h:=⟨p.g.put hd,fun m o' hm=>by
 rw [Ve (Gk hm n0)]
 exact (p.off m o' hm).put (uO hd (Gk hm n0))⟩
def Yo (mg:Str→Option Value):Sp:=fun vs H Q _=>∃ (side top:Str),vs=[.str side,.str top]∧Row side∧Row top∧∀ x h H',Same H H'→h≤12→GP mg H H' x side top h→Q (.ref x) H'
theorem z7 (z:Str):(pN z).length=z.cps.size:=by unfold pN;simp
theorem Dz {z:Str} {i c:Nat} (h:z.cps.toList[i]?=some c):(pN z)[i]?=some ⟨#[c]⟩:=by unfold pN;rw [List.getElem?_map,h];rfl
theorem o6:aC ["side","top","bands","sign"] ["side","top"] (aq dH):=⟨rfl,rfl,rfl,by decide+kernel,rfl,by decide+kernel,by decide+kernel⟩
theorem qj (T:Txt K mg):Has P w K mg base 18 "balanced" ["side","top"] (Yo mg):=by
 have jt:=jt (P:=P) (w:=w) (base:=base) T
 have d9:=d9 (P:=P) (w:=w) (base:=base) T
 have iI:=iI (P:=P) (w:=w) (base:=base) T
 have eQ:=eQ (P:=P) (w:=w) (base:=base) T
 have j6:=j6 (P:=P) (w:=w) (base:=base) T
 refine gr T.d_balanced o6 (fun _ _ _ _ _ _ us hl=>L2.ou (fun _ _=>rfl) us hl) ?_ fun f cdv A outer s H vs Q E hr h=>?_
 ·rintro vs H Q E ⟨side,top,rfl,_⟩;rfl
 obtain ⟨side,top,rfl,rs,rt,q⟩:=h
 have hu:=hr.units0
 have hu64:=hr.units
 refine ⟨_,(az (bD (aF jt (hr.mono (by decide)) (aU kz6k) (aa (ao 0 K1) (aa (ao 1 Qj) ak)) (by decide+kernel))) (az (cP (km (lJ (bR (jW (K:=K) rfl hu64) (ao 0 K1) gC (by first | exact aV _ | with_unfolding_all rfl)) (je (bR (jW (K:=K) rfl hu64) (ao 1 Qj) gC (by first | exact aV _ | with_unfolding_all rfl))))) (aA (aK (lX T.o_Blank d9 (hr.mono (by decide)) (aU kz6j) (fu fun _ _=>rfl) (aa (ao 0 K1) (aa (ao 1 Qj) ak)) (by decide+kernel)))) bB) (az (aP (i:=2) o6.nd rfl (Or.inr Vd) xq rfl) (az (jC PassesOwn.never rfl (jf (K:=K) rfl (ao 0 K1)) (dJ (i:=3) o6.nd rfl (Or.inr Vc) rfl) (aA (cP (bR (Fp (K:=K) rfl hu64) (nZ 3 Vc) (nZ 2 Vd) (by first | exact aV _ | with_unfolding_all rfl)) (aA (j8 (ts:=nY) (aF iI (hr.mono (by decide)) (aU kz6h) (aa (lK (sub:=[none,some 3]) (gO (N:=["side","top","bands","sign"]) (sc:=aq dH) (N':=["other","sign"]) (by decide+kernel)) rfl rfl rfl (jf (K:=K) rfl (ao 1 Qj)) (fun C s₀ H₀ ex=>(tD 0 (by decide+kernel) vy)) (fun C s₀ H₀ ex=>jB) (fun C s₀ H₀ ex=>(Jv (mg:=mg) rfl T.o_One eQ (hr.mono (by decide)) (Wf (by decide+kernel)) (fu fun _ _=>rfl) (aa (qD 1 (by decide+kernel)) (aa (mK 0 (by decide+kernel)) ak)) (by decide+kernel)))) ak) (by decide+kernel)) (mD (nZ 2 Vd) (nZ 3 Vc) (j9 hu64)))) bB))) (aA (aK (aF j6 (hr.mono (by decide)) (aU kz6d) (aa (lK (sub:=[none,some 2]) (gO (N:=["side","top","bands","sign"]) (sc:=aq dH) (N':=["sign","bands"]) (by decide+kernel)) rfl rfl rfl (jf (K:=K) rfl (ao 0 K1)) (fun C s₀ H₀ ex=>(tD 0 (by decide+kernel) vq)) (fun C s₀ H₀ ex=>jB) (fun C s₀ H₀ ex=>(Jw hu64 (qD 1 (by decide+kernel)) (mK 0 (by decide+kernel))))) ak) (by decide+kernel)))))))),?_⟩
 walk_at "sts"
 have hz:20000≤sizeLine:=by decide
 have l1:=rs.1
 have l2:=rt.1
 have el1:side.length=side.cps.size:=rfl
 have el2:top.length=top.cps.size:=rfl
 refine ⟨side,top,rfl,rs,rt,fun H1 S1=>?_⟩
 walk_at "sts"
 by_cases h0:side.cps.size=0
 ·rw [decide_eq_true (show V.str side=V.str (Str.ofString "") by rw [mz.mpr h0])]
  show if true=true then _ else _
  walk_at "sts"
  refine uV S1 rs rt (.inl h0) fun x H2 S2 p2 g2=>?_
  exact q x 0 H2 (S1.trans S2) (by omega) g2
 rw [decide_eq_false (show ¬ V.str side=V.str (Str.ofString "") from fun z=>h0 (mz.mp (V.str.inj z)))]
 show if false=true then _ else _
 walk_at "sts"
 by_cases h1:top.cps.size=0
 ·rw [decide_eq_true (show V.str top=V.str (Str.ofString "") by rw [mz.mpr h1])]
  walk_at "sts"
  refine uV S1 rs rt (.inr h1) fun x H2 S2 p2 g2=>?_
  exact q x 0 H2 (S1.trans S2) (by omega) g2
 rw [decide_eq_false (show ¬ V.str top=V.str (Str.ofString "") from fun z=>h1 (mz.mp (V.str.inj z)))]
 walk_at "sts"
 intro d nd
 have nd0:=Same.back S1 nd
 have S2:=S1.trans ((Same.refl H1).upd nd (o:=.dK []))
 have hd2:=aj (H:=H1) (a:=d) (o:=.dK [])
 generalize upd H1 d (.dK [])=H2 at S2 hd2 ⊢
 walk_at "sts"
 refine .inr (.inr ⟨side,rfl,?_⟩)
 refine w5 (fun i σ G=>Same H G∧(∃ kvs,G d=some (.dK kvs)∧kvs.length≤i∧(∀ c v,jG kvs (Sum.inr ⟨#[c]⟩)=some v→∃ x h,v= .ref x∧h≤6∧GP mg H G x ⟨#[c]⟩ top h)∧(∀ j c,j < i→side.cps.toList[j]?=some c→∃ v,jG kvs (Sum.inr ⟨#[c]⟩)=some v))∧∃ x3,σ=[some (.str side),some (.str top),some (.ref d),x3]) ⟨S2,⟨[],hd2,Nat.le_refl _,(fun c v h=>by cases h),fun j c h=>absurd h (Nat.not_lt_zero _)⟩,_,rfl⟩ ?_ ?_
 ·rintro i σ G c hc ⟨s,⟨kvs,hd,hkl,hg,hk⟩,x3,rfl⟩
  have hi:i < side.cps.size:=by simpa using (List.getElem?_eq_some_iff.mp hc).1
  have hcg:c∈GOOD:=rs.2 c (List.mem_of_getElem? hc)
  walk_at "sts"
  refine .inr ⟨d,_,rfl,DGet.k (k:=Sum.inr ⟨#[c]⟩) hd,?_⟩
  cases hv:jG kvs (Sum.inr ⟨#[c]⟩) with
  | some v=>
   rw [show (!(some v).isSome)=false from rfl]
   walk_at "sts"
   refine ⟨s,⟨kvs,hd,by omega,hg,fun j c' hj hc'=>?_⟩,_,rfl⟩
   by_cases hji:j < i
   ·exact hk j c' hji hc'
   ·obtain rfl:j=i:=by omega
    rw [hc] at hc'
    cases hc'
    exact ⟨v,hv⟩
  | none=>
   rw [show (!(none:Option V).isSome)=true from rfl]
   walk_at "sts"
   refine .inr (.inr ⟨top,rfl,?_⟩)
   refine v7 (fun i zs J=>Same G J∧∃ xs:List Addr,zs=xs.map V.ref∧xs.length=i∧∀ (j:Nat) (x:Addr) (t:Str),xs[j]?=some x→(pN top)[j]?=some t→∃ h,h≤0∧GP mg H J x ⟨#[c]⟩ t h) (by omega) ⟨Same.refl G,[],rfl,rfl,fun j x t e=>by cases e⟩ ?_ ?_ ?_
   ·rintro i zs J ⟨_,xs,rfl,e,_⟩
    rw [List.length_map];omega
   ·rintro i zs J t ht ⟨sJ,xs,rfl,e,hx⟩
    walk_at "sts"
    refine ⟨KeepSt.set rfl,?_⟩
    walk_at "sts"
    refine BW (s.trans sJ) hcg (rt.2 t (List.mem_of_getElem? ht)) fun x J2 T2 p2 g2=>?_
    refine ⟨sJ.trans T2,xs ++ [x],by rw [List.map_append];rfl,by simp;omega,fun j x' t' e1 e2=>?_⟩
    by_cases hj:j < xs.length
    ·rw [List.getElem?_append_left hj] at e1
     obtain ⟨h,h1,h2⟩:=hx j x' t' e1 e2
     exact ⟨h,h1,h2.same T2⟩
    ·have hj2:j < xs.length+1:=by have:=(List.getElem?_eq_some_iff.mp e1).1;simpa using this
     obtain rfl:j=xs.length:=by omega
     rw [List.getElem?_append_right (by omega),Nat.sub_self] at e1
     cases e1
     subst e
     rw [Dz ht] at e2
     cases e2
     exact ⟨0,Nat.le_refl _,g2⟩
   rintro zs J D J2 ⟨sJ,xs,rfl,e,hx⟩ nD T2 hD
   try walk_at "sts"
   refine ⟨D,xs,⟨#[c]⟩,pN top,0,H,rfl,s.trans (sJ.trans T2),hD,by rw [z7];exact e,by omega,Nat.le_trans (by omega:xs.length≤48) (by decide),by rw [pC];exact l2,(fun j x t e1 e2=>by
    obtain ⟨h,h1,h2⟩:=hx j x t e1 e2
    exact ⟨h,h1,h2.same T2⟩),fun x h J3 T3 hh g3=>?_⟩
   rw [pC] at g3
   have W3:=sJ.trans (T2.trans T3)
   have hd3:=W3 _ _ hd
   try walk_at "sts"
   refine .inr ⟨d,_,rfl,DPut.k (k:=Sum.inr ⟨#[c]⟩) hd3 (by omega),?_⟩
   try walk_at "sts"
   have lk:=g8 kvs (Sum.inr ⟨#[c]⟩:Key) (V.ref x)
   refine ⟨Same.put (s.trans W3) nd0,⟨_,aj,by omega,(fun c' v hv'=>?_),fun j c' hj hc'=>?_⟩,_,rfl⟩
   ·rw [mJ] at hv'
    split at hv'
    ·rename_i e1
     cases hv'
     have:=Sum.inr.inj e1
     rw [this]
     exact ⟨x,h,rfl,by omega,g3.put hd3 nd0⟩
    ·obtain ⟨x',h',e1,e2,e3⟩:=hg c' v hv'
     exact ⟨x',h',e1,e2,(e3.same W3).put hd3 nd0⟩
   ·rw [mJ]
    split
    ·exact ⟨_,rfl⟩
    ·rename_i e1
     by_cases hji:j < i
     ·exact hk j c' hji hc'
     ·obtain rfl:j=i:=by omega
      rw [hc] at hc'
      cases hc'
      exact absurd rfl e1
 ·rintro σ G ⟨s,⟨kvs,hd,hkl,hg,hk⟩,x3,rfl⟩
  walk_at "sts"
  refine .inr (.inr ⟨side,rfl,?_⟩)
  refine v7 (fun i zs J=>J=G∧∃ xs:List Addr,zs=xs.map V.ref∧xs.length=i∧∀ (j:Nat) (x:Addr) (t:Str),xs[j]?=some x→(pN side)[j]?=some t→∃ h,h≤6∧GP mg H J x t top h) (by omega) ⟨rfl,[],rfl,rfl,fun j x t e=>by cases e⟩ ?_ ?_ ?_
  ·rintro i zs J ⟨_,xs,rfl,e,_⟩
   rw [List.length_map];omega
  ·rintro i zs J c hc ⟨rfl,xs,rfl,e,hx⟩
   have hi:i < side.cps.size:=by simpa using (List.getElem?_eq_some_iff.mp hc).1
   obtain ⟨v,hv⟩:=hk i c (by show i < side.cps.size;exact hi) hc
   obtain ⟨x,h,rfl,h6,g⟩:=hg c v hv
   have hgt:=DGet.k (k:=Sum.inr ⟨#[c]⟩) hd
   rw [hv] at hgt
   walk_at "sts"
   refine ⟨KeepSt.set rfl,?_⟩
   walk_at "sts"
   refine ⟨d,_,rfl,hgt,?_⟩
   refine ⟨rfl,xs ++ [x],by rw [List.map_append];rfl,by simp;omega,fun j x' t' e1 e2=>?_⟩
   by_cases hj:j < xs.length
   ·rw [List.getElem?_append_left hj] at e1
    exact hx j x' t' e1 e2
   ·have hj2:j < xs.length+1:=by have:=(List.getElem?_eq_some_iff.mp e1).1;simpa using this
    obtain rfl:j=xs.length:=by omega
    rw [List.getElem?_append_right (by omega),Nat.sub_self] at e1
    cases e1
    subst e
    rw [Dz hc] at e2
    cases e2
    exact ⟨h,h6,g⟩
  rintro zs J D J2 ⟨rfl,xs,rfl,e,hx⟩ nD T2 hD
  try walk_at "sts"
  refine ⟨D,xs,top,pN side,6,H,rfl,s.trans T2,hD,by rw [z7];exact e,by omega,Nat.le_trans (by omega:xs.length≤48) (by decide),by rw [pC];exact l1,(fun j x t e1 e2=>by
   obtain ⟨h,h1,h2⟩:=hx j x t e1 e2
   exact ⟨h,h1,h2.same T2⟩),fun x h J3 T3 hh g3=>?_⟩
  rw [pC] at g3
  exact q x h J3 (s.trans (T2.trans T3)) (by omega) g3
end
local macro_rules | `(tactic| walk_at "sts") => `(tactic| (with_reducible repeat (first | refine jL ?_ | refine jA ?_ | refine jy ?_ | refine gk ?_ | refine gn ?_ | (refine' fZ ?hz0 ?_; (case hz0 => with_unfolding_all rfl)) | refine qR ?_ | refine jQ ?_ | refine dm ?_ | refine cX ?_ | refine f9 ?_ | refine lH ?_ | refine fP ?_ | refine cR ?_ | refine fU ?_ | refine cQ ?_ | refine jH ?_ | refine cU ?_ | refine jR ?_ | refine jN ?_ | refine cY ?_ | refine jJ ?_ | refine fV ?_ | refine fW ?_ | refine jK ?_ | refine cV ?_ | refine fX ?_ | refine cW ?_ | refine fY ?_ | refine fQ ?_ | refine cT ?_ | refine jM ?_ | refine eY ?_ | refine eV ?_ | refine jO ?_ | refine jP ?_ | refine gb ?_ | refine cZ ?_ | refine c7 ?_ | refine dg ?_ | refine dh ?_ | refine di ?_ | refine dj ?_ | refine gf ?_ | refine qU ?_ | refine bF ?_ | refine dz ?_ | (refine' b7 (SqT.of ?hz0) ?hz1 ?_; (case hz0 => first | assumption | exact aj); (case hz1 => rfl)) | refine bH ?_ | refine dB ?_ | refine dD ?_ | refine cI ?_ | refine cJ ?_ | refine cL ?_ | refine cM ?_ | refine jT ?_ | refine cC ?_ | refine cF ?_ | refine cG ?_ | refine cH ?_ | refine bG ?_ | refine gj ?_ | refine dw ?_ | (refine' qT ?hz0 ?_; (case hz0 => with_unfolding_all first | assumption | omega | (dsimp only <;> omega) | exact ⟨by omega, by omega⟩ | exact .inl ⟨by omega, by omega⟩ | exact .inr ⟨by omega, by omega⟩ | exact ⟨by decide, by decide, by decide⟩)) | (refine' dq ?hz0 ?_; (case hz0 => with_unfolding_all first | assumption | omega | (dsimp only <;> omega) | exact ⟨by omega, by omega⟩ | exact .inl ⟨by omega, by omega⟩ | exact .inr ⟨by omega, by omega⟩ | exact ⟨by decide, by decide, by decide⟩)) | (refine' cu (SqL.of ?hz0) ?hz1 ?_; (case hz0 => first | assumption | exact aj); (case hz1 => with_unfolding_all rfl)) | (refine' cB ?hz0 ?hz1 ?_; (case hz0 => first | assumption | exact aj); (case hz1 => with_unfolding_all rfl)) | refine bI ?_ | refine gq ?_ | refine dF ?_ | refine bJ ?_ | refine dG ?_ | refine bK ?_ | refine dO ?_)))
local macro_rules | `(tactic| walk_at "stn") => `(tactic| (with_reducible repeat (first | refine jL ?_ | refine jA ?_ | refine jy ?_ | refine gk ?_ | refine gn ?_ | (refine' fZ ?hz0 ?_; (case hz0 => with_unfolding_all rfl)) | refine qR ?_ | refine jQ ?_ | refine dm ?_ | refine cX ?_ | refine f9 ?_ | refine fP ?_ | refine cR ?_ | refine fU ?_ | refine cQ ?_ | refine jH ?_ | refine cU ?_ | refine jR ?_ | refine jN ?_ | refine cY ?_ | refine jJ ?_ | refine fV ?_ | refine fW ?_ | refine jK ?_ | refine cV ?_ | refine fX ?_ | refine cW ?_ | refine fY ?_ | refine fQ ?_ | refine cT ?_ | refine jM ?_ | refine eY ?_ | refine eV ?_ | refine jO ?_ | refine jP ?_ | refine gb ?_ | refine cZ ?_ | refine c7 ?_ | refine dg ?_ | refine dh ?_ | refine di ?_ | refine dj ?_ | refine gf ?_ | refine qU ?_ | refine bF ?_ | refine dz ?_ | (refine' b7 (SqT.of ?hz0) ?hz1 ?_; (case hz0 => first | assumption | exact aj); (case hz1 => rfl)) | refine bH ?_ | refine dB ?_ | refine dD ?_ | refine cI ?_ | refine cJ ?_ | refine cL ?_ | refine cM ?_ | refine jT ?_ | refine cC ?_ | refine cF ?_ | refine cG ?_ | refine cH ?_ | refine bG ?_ | refine gj ?_ | refine dw ?_ | (refine' qT ?hz0 ?_; (case hz0 => with_unfolding_all first | assumption | omega | (dsimp only <;> omega) | exact ⟨by omega, by omega⟩ | exact .inl ⟨by omega, by omega⟩ | exact .inr ⟨by omega, by omega⟩ | exact ⟨by decide, by decide, by decide⟩)) | (refine' dq ?hz0 ?_; (case hz0 => with_unfolding_all first | assumption | omega | (dsimp only <;> omega) | exact ⟨by omega, by omega⟩ | exact .inl ⟨by omega, by omega⟩ | exact .inr ⟨by omega, by omega⟩ | exact ⟨by decide, by decide, by decide⟩)) | (refine' cu (SqL.of ?hz0) ?hz1 ?_; (case hz0 => first | assumption | exact aj); (case hz1 => with_unfolding_all rfl)) | (refine' cB ?hz0 ?hz1 ?_; (case hz0 => first | assumption | exact aj); (case hz1 => with_unfolding_all rfl)) | refine bI ?_ | refine gq ?_ | refine dF ?_ | refine bJ ?_ | refine dG ?_ | refine bK ?_ | refine dO ?_)))
section
variable {P:Program} {w:World} {K:PySem.W.Frag} {mg:Str→Option Value} {base:Heap}
theorem vz:(["_law_number","_law_signs","_law_base_here"]:List Str).Nodup:=by decide+kernel
theorem Yp:bz bT "_law_numbers":=by decide+kernel
theorem Yq:bM bT "_law_takes":=by decide+kernel
theorem kz6n:bM bT "len":=by decide+kernel
theorem Yr:QT bT "_law_signs":=by decide+kernel
theorem Vf:bz bT "_law_many":=by decide+kernel
theorem Ys:bz bT "_law_cell_here":=by decide+kernel
theorem Yt:bz bT "_law_kinds":=by decide+kernel
theorem Yu:bz bT "_law_way":=by decide+kernel
theorem Yv:bz bT "_law_some":=by decide+kernel
theorem Yw:bz bT "_law_few":=by decide+kernel
theorem Yx:bz bT "_law_most":=by decide+kernel
theorem kz6w:bM bT "min":=by decide+kernel
theorem sgn4 (k:Nat) (h:k < 4):∃ z:Str,([V.str (Str.ofString "ab"),.str (Str.ofString "abc"),.str (Str.ofString ".ab"),.str (Str.ofString "a.bz")]:List V)[k]?=some (.str z)∧0 < z.length∧z.length≤4∧∀ c∈z.cps.toList,c∈GOOD:=by
 have key:∀ z∈[Str.ofString "ab",Str.ofString "abc",Str.ofString ".ab",Str.ofString "a.bz"],0 < z.length∧z.length≤4∧∀ c∈z.cps.toList,c∈GOOD:=by decide+kernel
 match k,h with
 | 0,_=>exact ⟨_,rfl,key _ (by simp)⟩
 | 1,_=>exact ⟨_,rfl,key _ (by simp)⟩
 | 2,_=>exact ⟨_,rfl,key _ (by simp)⟩
 | 3,_=>exact ⟨_,rfl,key _ (by simp)⟩
def GoodS (ys:List Str):Prop:=∀ y∈ys,∃ c,y=⟨#[c]⟩∧c∈GOOD
theorem GoodS.ones {ys:List Str} (h:GoodS ys):∀ y∈ys,y.length=1:=fun y hy=>by
 obtain ⟨c,rfl,_⟩:=h y hy
 exact MK c
theorem Vg {zs:List Str} (h:GoodS zs) (hl:zs.length≤48):Row (Txt.join (Str.ofString "") zs):=by
 refine ⟨by rw [yQ h.ones];exact hl,fun c hc=>?_⟩
 rw [yP] at hc
 obtain ⟨l,hl1,hl2⟩:=List.mem_flatten.mp hc
 obtain ⟨y,hy,e⟩:=List.mem_map.mp hl1
 obtain ⟨d,rfl,hd⟩:=h y hy
 subst e
 simp at hl2
 subst hl2
 exact hd
theorem Qk {ms:List Int} (h:ms.length=4):∃ a b c d,ms=[a,b,c,d]:=by
 match ms,h with
 | [a,b,c,d],_=>exact ⟨a,b,c,d,rfl⟩
def Ql (K:PySem.W.Frag):Sp:=fun vs H Q _=>∃ (n b:Int) (m:Nat),vs=[.int n,.int m,.int b]∧m≤48∧∀ (z:Str) H',Same H H'→Row z→z.length≤m→Q (.str z) H'
theorem fH:aC ["_law_cell_here","_law_most","_law_base_here","_law_way","_law_few","_law_some","_law_kinds","_law_many","_law_signs","_law_numbers"] ["_law_cell_here","_law_most","_law_base_here"] (aq bT):=⟨rfl,rfl,rfl,by decide+kernel,rfl,by decide+kernel,by decide+kernel⟩
theorem nU (T:Txt K mg):Has P w K mg base 3 "_law_text" ["_law_cell_here","_law_most","_law_base_here"] (Ql K):=by
 have my:=my (P:=P) (w:=w) (base:=base) T
 have qg:=qg (P:=P) (w:=w) (base:=base) T
 refine gr T.d_law_text fH (fun _ _ _ _ _ _ us hl=>L2.wD (fun _ _ _=>rfl) us hl) ?_ fun f cdv A outer s H vs Q E hr h=>?_
 ·rintro vs H Q E ⟨n,b,m,rfl,_⟩;rfl
 obtain ⟨n,b,m,rfl,hm,q⟩:=h
 have hu:=hr.units0
 have hu64:=hr.units
 refine ⟨_,(az (M8 (aF my (hr.mono (by decide)) (aU Yq) (aa (ao 0 Ys) (aa (gA (aa aH (aa (bN aW (aG (vH rfl) (aU kz6w) T.b_min Ii (aa (ao 1 Yx) (aa aH ak)) (by decide+kernel) (by decide+kernel)) aH) (aa (bN aW (ao 1 Yx) aH) (aa aH ak))))) ak)) (by decide+kernel)) (M6 (K:=K) rfl rfl (iR (dJ (i:=3) fH.nd rfl (Or.inl Yu) rfl) (iR (dJ (i:=4) fH.nd rfl (Or.inl Yw) rfl) (iR (dJ (i:=5) fH.nd rfl (Or.inl Yv) rfl) (iR (dJ (i:=6) fH.nd rfl (Or.inl Yt) rfl) tU)))))) (az (aP (i:=7) fH.nd rfl (Or.inl Vf) (ao 4 Yw) rfl) (az (cP (bR (jW (K:=K) rfl hu64) (ao 3 Yu) aH (by first | exact aV _ | with_unfolding_all rfl)) (aA (aP (i:=7) fH.nd rfl (Or.inl Vf) (ao 5 Yv) rfl)) bB) (az (aP (i:=8) fH.nd rfl (Or.inr Yr) (jV (K:=K) rfl (gA (aa gC (aa gC (aa gC (aa gC ak))))) (ao 6 Yt)) rfl) (az (aP (i:=9) fH.nd rfl (Or.inl Yp) (aF my (hr.mono (by decide)) (aU Yq) (aa (bN zb (ao 0 Ys) aH) (aa (bN lW (gA (aa (aG (aJ (K:=K) rfl) (aU kz6n) T.b_len bC (aa (nZ 8 Yr) ak) (by decide+kernel) (by decide+kernel)) ak)) (ao 7 Vf)) ak)) (by decide+kernel)) rfl) (aA (aK (rn (K:=K) rfl PySem.F.plainAttrs_str PySem.F.slot_str_join PySem.F.type_str_join Mu gC (aa (lK (sub:=[none,some 8,some 2]) (gO (N:=["_law_cell_here","_law_most","_law_base_here","_law_way","_law_few","_law_some","_law_kinds","_law_many","_law_signs","_law_numbers"]) (sc:=aq bT) (N':=["_law_number","_law_signs","_law_base_here"]) (by decide+kernel)) rfl rfl rfl (jf (K:=K) rfl (ao 9 Yp)) (fun C s₀ H₀ ex=>(tD 0 (by decide+kernel) vz)) (fun C s₀ H₀ ex=>jB) (fun C s₀ H₀ ex=>(aF qg (hr.mono (by decide)) (Wf (by decide+kernel)) (aa (jV (K:=K) rfl (qD 1 (by decide+kernel)) (mK 0 (by decide+kernel))) (aa (qD 2 (by decide+kernel)) ak)) (by decide+kernel)))) ak))))))))),?_⟩
 walk_at "sts"
 have hs:20000≤sizeLine:=by decide
 obtain ⟨m8,e8,k8,k8'⟩:∃ m8:Nat,(if (8:Int) < (m:Int) then (8:Int) else (m:Int))=(m8:Int)∧m8≤8∧m8≤m:=by
  by_cases h:(8:Int) < (m:Int)
  ·rw [if_pos h];exact ⟨8,rfl,Nat.le_refl _,by omega⟩
  ·rw [if_neg h];exact ⟨m,rfl,by omega,Nat.le_refl _⟩
 rw [e8]
 refine dR rfl fun p1 H1 n1 S1 h1=>?_
 walk_at "sts"
 replace h1:H1 p1=some (.lst (([8,(m8:Int)+1,(m:Int)+1,4]:List Int).map V.int)):=h1
 refine ⟨n,p1,_,rfl,h1,by simp,(fun x hx=>by simp only [List.mem_cons,List.mem_nil_iff,or_false] at hx;rcases hx with rfl | rfl | rfl | rfl <;> omega),fun p2 ms H2 n2 S2 h2 hF=>?_⟩
 walk_at "sts"
 obtain ⟨wy,fw,sm,kd,rfl⟩:=Qk hF.1
 have f1:=hF.2 1 fw _ rfl rfl
 have f2:=hF.2 2 sm _ rfl rfl
 have f3:=hF.2 3 kd _ rfl rfl
 refine Nb (xs:=[.int wy,.int fw,.int sm,.int kd]) (SqL.of h2) rfl ?_
 walk_at "stn"
 have U2:=S1.trans S2
 clear h1 n1 n2 S1 S2 hF h2
 obtain ⟨fwN,rfl⟩:∃ k:Nat,fw=k:=⟨fw.toNat,by omega⟩
 obtain ⟨smN,rfl⟩:∃ k:Nat,sm=k:=⟨sm.toNat,by omega⟩
 obtain ⟨kdN,rfl⟩:∃ k:Nat,kd=k:=⟨kd.toNat,by omega⟩
 with_reducible refine lH ?_
 walk_at "stn"
 with_reducible refine WL (fun σ H'=>H'=H2∧∃ mn:Nat,mn≤m∧σ=[some (.int n),some (.int m),some (.int b),some (.int wy),some (.int fwN),some (.int smN),some (.int kdN),some (.int mn),none,none]) ?_ ?_
 rotate_left
 ·intro N hN
  walk_at "stn"
  refine Et (fun h=>?_) (fun h=>?_)
  ·walk_at "stn"
   exact hN _ _ ⟨rfl,smN,by omega,rfl⟩
  ·walk_at "stn"
   exact hN _ _ ⟨rfl,fwN,by omega,rfl⟩
 rintro σ H' ⟨rfl,mn,hmn,rfl⟩
 obtain ⟨z,ez,z0,z4,zg⟩:=sgn4 kdN (by omega)
 walk_at "sts"
 refine dR rfl fun p3 H3 n3 S3 h3=>?_
 walk_at "sts"
 refine cu (SqL.of h3) (lV ez) ?_
 walk_at "sts"
 refine gG (by omega) ?_
 walk_at "sts"
 refine dR rfl fun p4 H4 n4 S4 h4=>?_
 walk_at "sts"
 refine Iw h4 (by omega) (by omega) (by simp;omega) fun p5 n5=>?_
 walk_at "sts"
 rw [show (List.replicate ((mn:Nat):Int).toNat [V.int (z.length:Int)]).flatten=(List.replicate mn (z.length:Int)).map V.int by rw [show ((mn:Nat):Int).toNat=mn by omega,List.map_replicate,List.flatten_replicate_singleton]]
 have S5:=(Same.refl H4).upd n5 (o:=.lst ((List.replicate mn (z.length:Int)).map V.int))
 have h5:=aj (H:=H4) (a:=p5) (o:=.lst ((List.replicate mn (z.length:Int)).map V.int))
 generalize upd H4 p5 (.lst ((List.replicate mn (z.length:Int)).map V.int))=H5 at S5 h5 ⊢
 walk_at "sts"
 refine ⟨_,p5,_,rfl,h5,by simp;omega,(fun x hx=>by rw [List.eq_of_mem_replicate hx];omega),fun p6 ms H6 n6 S6 h6 hF=>?_⟩
 walk_at "sts"
 have U6:=U2.trans (S3.trans (S4.trans (S5.trans S6)))
 have hml:ms.length=mn:=by rw [hF.1,List.length_replicate]
 try walk_at "sts"
 refine ⟨rfl,?_⟩
 walk_at "sts"
 refine .inl ⟨p6,rfl,⟨_,SqL.of h6⟩,?_⟩
 refine jX (xs:=ms.map V.int) (fun i ys G=>G=H6∧∃ zs:List Str,ys=zs.map V.str∧zs.length=i∧GoodS zs) (by rw [List.length_map];omega) ⟨rfl,[],rfl,rfl,fun y hy=>by cases hy⟩ ?_ ?_ ?_ ?_
 ·rintro i ys G ⟨_,zs,rfl,e,_⟩
  rw [List.length_map];omega
 ·rintro i ys G ⟨rfl,_⟩
  exact SqL.of h6
 ·rintro i ys G v hv ⟨rfl,zs,rfl,e,hg⟩
  rw [List.getElem?_map] at hv
  obtain ⟨k,hk,rfl⟩:=Option.map_eq_some_iff.mp hv
  have hi:i < mn:=by rw [← hml];exact (List.getElem?_eq_some_iff.mp hk).1
  obtain ⟨k0,k1⟩:=hF.2 i k _ hk (List.getElem?_replicate_of_lt hi)
  have ezl:z.length=z.cps.toList.length:=by simp [Str.length]
  obtain ⟨c,hc⟩:∃ c,yz z.cps.toList k=some c:=⟨_,tQ k0 (List.getElem?_eq_getElem (by omega))⟩
  have hcg:c∈GOOD:=zg c (by
   unfold yz at hc
   obtain ⟨j,_,hj⟩:=Option.bind_eq_some_iff.mp hc
   exact List.mem_of_getElem? hj)
  walk_at "sts"
  refine ⟨KeepSt.set rfl,?_⟩
  walk_at "sts"
  refine ux (by omega) hc ?_
  walk_at "sts"
  refine ⟨c,b,rfl,hcg,fun d hd=>?_⟩
  walk_at "sts"
  refine ⟨rfl,zs ++ [⟨#[d]⟩],by rw [List.map_append];rfl,by simp;omega,fun y hy=>?_⟩
  rcases List.mem_append.mp hy with h | h
  ·exact hg y h
  ·rw [List.mem_singleton.mp h];exact ⟨d,rfl,hd⟩
 ·rintro ys G D H7 ⟨rfl,zs,rfl,e,hg⟩ nD S7 hD
  rw [List.length_map] at e
  try walk_at "sts"
  refine SM hD (by rw [Il hg.ones,show (Str.ofString "").length=0 by decide+kernel];omega) ?_
  walk_at "sts"
  exact q _ H7 (U6.trans S7) (Vg hg (by omega)) (by rw [yQ hg.ones];omega)
end
local macro_rules | `(tactic| walk_at "sts") => `(tactic| (with_reducible repeat (first | refine jL ?_ | refine jA ?_ | refine jy ?_ | refine gk ?_ | refine gn ?_ | (refine' fZ ?hz0 ?_; (case hz0 => with_unfolding_all rfl)) | refine qR ?_ | refine jQ ?_ | refine dm ?_ | refine cX ?_ | refine f9 ?_ | refine lH ?_ | refine fP ?_ | refine cR ?_ | refine fU ?_ | refine cQ ?_ | refine jH ?_ | refine cU ?_ | refine jR ?_ | refine jN ?_ | refine cY ?_ | refine jJ ?_ | refine fV ?_ | refine fW ?_ | refine jK ?_ | refine cV ?_ | refine fX ?_ | refine cW ?_ | refine fY ?_ | refine fQ ?_ | refine cT ?_ | refine jM ?_ | refine eY ?_ | refine eV ?_ | refine jO ?_ | refine jP ?_ | refine gb ?_ | refine cZ ?_ | refine c7 ?_ | refine dg ?_ | refine dh ?_ | refine di ?_ | refine dj ?_ | refine gf ?_ | refine qU ?_ | refine bF ?_ | refine dz ?_ | (refine' b7 (SqT.of ?hz0) ?hz1 ?_; (case hz0 => first | assumption | exact aj); (case hz1 => rfl)) | refine bH ?_ | refine dB ?_ | refine dD ?_ | refine cI ?_ | refine cJ ?_ | refine cL ?_ | refine cM ?_ | refine jT ?_ | refine cC ?_ | refine cF ?_ | refine cG ?_ | refine cH ?_ | refine bG ?_ | refine gj ?_ | refine dw ?_ | (refine' qT ?hz0 ?_; (case hz0 => with_unfolding_all first | assumption | omega | (dsimp only <;> omega) | exact ⟨by omega, by omega⟩ | exact .inl ⟨by omega, by omega⟩ | exact .inr ⟨by omega, by omega⟩ | exact ⟨by decide, by decide, by decide⟩)) | (refine' dq ?hz0 ?_; (case hz0 => with_unfolding_all first | assumption | omega | (dsimp only <;> omega) | exact ⟨by omega, by omega⟩ | exact .inl ⟨by omega, by omega⟩ | exact .inr ⟨by omega, by omega⟩ | exact ⟨by decide, by decide, by decide⟩)) | (refine' cu (SqL.of ?hz0) ?hz1 ?_; (case hz0 => first | assumption | exact aj); (case hz1 => with_unfolding_all rfl)) | (refine' cB ?hz0 ?hz1 ?_; (case hz0 => first | assumption | exact aj); (case hz1 => with_unfolding_all rfl)) | refine bI ?_ | refine gq ?_ | refine dF ?_ | refine bJ ?_ | refine dG ?_ | refine bK ?_ | refine dO ?_ | refine rF ?_ | refine rG ?_)))
local macro_rules | `(tactic| walk_at "stn") => `(tactic| (with_reducible repeat (first | refine jL ?_ | refine jA ?_ | refine jy ?_ | refine gk ?_ | refine gn ?_ | (refine' fZ ?hz0 ?_; (case hz0 => with_unfolding_all rfl)) | refine qR ?_ | refine jQ ?_ | refine dm ?_ | refine cX ?_ | refine f9 ?_ | refine fP ?_ | refine cR ?_ | refine fU ?_ | refine cQ ?_ | refine jH ?_ | refine cU ?_ | refine jR ?_ | refine jN ?_ | refine cY ?_ | refine jJ ?_ | refine fV ?_ | refine fW ?_ | refine jK ?_ | refine cV ?_ | refine fX ?_ | refine cW ?_ | refine fY ?_ | refine fQ ?_ | refine cT ?_ | refine jM ?_ | refine eY ?_ | refine eV ?_ | refine jO ?_ | refine jP ?_ | refine gb ?_ | refine cZ ?_ | refine c7 ?_ | refine dg ?_ | refine dh ?_ | refine di ?_ | refine dj ?_ | refine gf ?_ | refine qU ?_ | refine bF ?_ | refine dz ?_ | (refine' b7 (SqT.of ?hz0) ?hz1 ?_; (case hz0 => first | assumption | exact aj); (case hz1 => rfl)) | refine bH ?_ | refine dB ?_ | refine dD ?_ | refine cI ?_ | refine cJ ?_ | refine cL ?_ | refine cM ?_ | refine jT ?_ | refine cC ?_ | refine cF ?_ | refine cG ?_ | refine cH ?_ | refine bG ?_ | refine gj ?_ | refine dw ?_ | (refine' qT ?hz0 ?_; (case hz0 => with_unfolding_all first | assumption | omega | (dsimp only <;> omega) | exact ⟨by omega, by omega⟩ | exact .inl ⟨by omega, by omega⟩ | exact .inr ⟨by omega, by omega⟩ | exact ⟨by decide, by decide, by decide⟩)) | (refine' dq ?hz0 ?_; (case hz0 => with_unfolding_all first | assumption | omega | (dsimp only <;> omega) | exact ⟨by omega, by omega⟩ | exact .inl ⟨by omega, by omega⟩ | exact .inr ⟨by omega, by omega⟩ | exact ⟨by decide, by decide, by decide⟩)) | (refine' cu (SqL.of ?hz0) ?hz1 ?_; (case hz0 => first | assumption | exact aj); (case hz1 => with_unfolding_all rfl)) | (refine' cB ?hz0 ?hz1 ?_; (case hz0 => first | assumption | exact aj); (case hz1 => with_unfolding_all rfl)) | refine bI ?_ | refine gq ?_ | refine dF ?_ | refine bJ ?_ | refine dG ?_ | refine bK ?_ | refine dO ?_ | refine rF ?_ | refine rG ?_)))
section
variable {P:Program} {w:World} {K:PySem.W.Frag} {mg:Str→Option Value} {base:Heap}
theorem kz6x:bM iV "_law_list":=by decide+kernel
theorem kz6y:bM iV "_law_lines":=by decide+kernel
theorem Vh:bz iV "_law_rows":=by decide+kernel
theorem Gp:bz iV "_law_piece":=by decide+kernel
theorem kz71:bz iV "_law_high":=by decide+kernel
theorem kz72:bM iV "_law_whole":=by decide+kernel
theorem kz73:bz iV "_law_kind":=by decide+kernel
def spIs (K:PySem.W.Frag) (mg:Str→Option Value):Sp:=fun vs H Q _=>∃ (x r:Addr) (y side top kind:Str) (ps:List V) (h:Nat),vs=[.ref x,.ref r,.str kind,.int (h:Int)]∧PG mg H x y side top kind ps h∧H r=some (.lst [.str side,.str top])∧∀ H',Same H H'→Q (.bl true) H'
theorem Gq {l:List Str}:∀ v∈l.map V.str,jl v=true∨∃ r,v= .ref r:=fun v hv=>by
 obtain ⟨s,_,rfl⟩:=List.mem_map.mp hv
 exact .inl rfl
theorem Gr:aC ["_law_piece","_law_rows","_law_kind","_law_high"] ["_law_piece","_law_rows","_law_kind","_law_high"] (aq iV):=⟨rfl,rfl,rfl,by decide+kernel,rfl,by decide+kernel,by decide+kernel⟩
theorem jE (T:Txt K mg):Has P w K mg base 3 "_law_is" ["_law_piece","_law_rows","_law_kind","_law_high"] (spIs K mg):=by
 have dM:=dM (P:=P) (w:=w) (base:=base) T
 have bQ:=bQ (P:=P) (w:=w) (base:=base) T
 have b8:=b8 (P:=P) (w:=w) (base:=base) T
 have jx:=jx (P:=P) (w:=w) (base:=base) T
 have aZ:=aZ (P:=P) (w:=w) (base:=base) T
 have qe:=qe (P:=P) (w:=w) (base:=base) T
 have bW:=bW (P:=P) (w:=w) (base:=base) T
 have oY:=oY (P:=P) (w:=w) (base:=base) T
 refine gr T.d_law_is Gr (fun _ _ _ _ _ _ us hl=>L2.usN4 (fun _ _ _ _=>rfl) us hl) ?_ fun f cdv A outer s H vs Q E hr h=>?_
 ·rintro vs H Q E ⟨x,r,y,side,top,kind,ps,h,rfl,_⟩;rfl
 obtain ⟨x,r,y,side,top,kind,ps,h,rfl,hP,hr0,q⟩:=h
 have hu:=hr.units0
 have hu64:=hr.units
 refine ⟨_,(az (cP (km (lJ (bR (rE (K:=K) rfl hu64) (gA (aa (aL (mg:=mg) rfl (ao 0 Gp) T.os_Piece bQ (hr.mono (by decide)) (fu fun _ _=>rfl)) (aa (aL (mg:=mg) rfl (ao 0 Gp) T.os_Piece b8 (hr.mono (by decide)) (fu fun _ _=>rfl)) ak))) (ao 1 Vh) (by first | exact aV _ | with_unfolding_all rfl)) (je (bR (rE (K:=K) rfl hu64) (aL (mg:=mg) rfl (ao 0 Gp) T.os_Piece dM (hr.mono (by decide)) (fu fun _ _=>rfl)) (ao 2 kz73) (by first | exact aV _ | with_unfolding_all rfl))))) (aA (aK m6)) bB) (az (cP (km (lJ (dY (dZ (aF jx (hr.mono (by decide)) (aU kz72) (aa (aL (mg:=mg) rfl (ao 0 Gp) T.os_Piece aZ (hr.mono (by decide)) (fu fun _ _=>rfl)) ak) (by decide+kernel)))) (je (bR (rE (K:=K) rfl hu64) (aL (mg:=mg) rfl (ao 0 Gp) T.os_Piece aZ (hr.mono (by decide)) (fu fun _ _=>rfl)) (ao 3 kz71) (by first | exact aV _ | with_unfolding_all rfl))))) (aA (aK m6)) bB) (aA (aK (aF qe (hr.mono (by decide)) (aU kz6x) (aa (aL (mg:=mg) rfl (ao 0 Gp) T.os_Piece bW (hr.mono (by decide)) (fu fun _ _=>rfl)) (aa (aF oY (hr.mono (by decide)) (aU kz6y) (aa (jV (K:=K) rfl (ao 1 Vh) aH) (aa (jV (K:=K) rfl (ao 1 Vh) aH) ak)) (by decide+kernel)) ak)) (by decide+kernel)))))),?_⟩
 walk_at "sts"
 have hz:20000≤sizeLine:=by decide
 obtain ⟨hy,dx,al,ap,hx,hal,hap⟩:=id hP.pc
 have rs:=hP.rs.1
 have rt:=hP.rt.1
 refine ⟨x,y,dx,_,rfl,hy,hx,rfl,?_⟩
 walk_at "sts"
 refine ⟨x,y,_,_,_,_,_,_,rfl,hP.pc,?_⟩
 walk_at "sts"
 refine ⟨x,y,dx,_,rfl,hy,hx,rfl,?_⟩
 walk_at "sts"
 refine ⟨x,y,_,_,_,_,_,_,rfl,hP.pc,?_⟩
 walk_at "sts"
 refine dR rfl fun o1 G1 n1 S1 h1=>?_
 walk_at "sts"
 refine Bp h1 (S1 _ _ hr0) (Gq (l:=[side,top])) ?_
 walk_at "sts"
 refine ⟨x,y,dx,_,rfl,hy,S1 _ _ hx,rfl,?_⟩
 walk_at "sts"
 refine ⟨x,y,_,_,_,_,_,_,rfl,hP.pc.same S1,?_⟩
 walk_at "sts"
 rw [decide_eq_true (rfl:V.str kind=V.str kind)]
 walk_at "sts"
 refine ⟨x,y,dx,_,rfl,hy,S1 _ _ hx,rfl,?_⟩
 walk_at "sts"
 refine ⟨x,y,_,_,_,_,_,_,rfl,hP.pc.same S1,?_⟩
 walk_at "sts"
 refine ⟨_,rfl,?_⟩
 walk_at "sts"
 refine ⟨x,y,dx,_,rfl,hy,S1 _ _ hx,rfl,?_⟩
 walk_at "sts"
 refine ⟨x,y,_,_,_,_,_,_,rfl,hP.pc.same S1,?_⟩
 walk_at "sts"
 rw [decide_eq_true (rfl:V.int (h:Int)=V.int (h:Int))]
 walk_at "sts"
 refine ⟨x,y,dx,_,rfl,hy,S1 _ _ hx,rfl,?_⟩
 walk_at "sts"
 refine ⟨x,y,_,_,_,_,_,_,rfl,hP.pc.same S1,fun f2 G8 nf2 S8 hf2=>?_⟩
 walk_at "sts"
 have hr8:=S8 _ _ (S1 _ _ hr0)
 try walk_at "sts"
 refine ⟨side,top,rfl,rs,rt,fun f3 G9 nf3 S9 hf3=>?_⟩
 walk_at "sts"
 refine ⟨f2,f3,_,rfl,S9 _ _ hf2,hf3,by rw [iQ];have:side.length=side.cps.size:=rfl;have:top.length=top.cps.size:=rfl;omega,fun G10 S10=>?_⟩
 walk_at "sts"
 exact q G10 (S1.trans (S8.trans (S9.trans S10)))
end
local macro_rules | `(tactic| walk_at "sts") => `(tactic| (with_reducible repeat (first | refine jL ?_ | refine jA ?_ | refine jy ?_ | refine gk ?_ | refine gn ?_ | (refine' fZ ?hz0 ?_; (case hz0 => with_unfolding_all rfl)) | refine qR ?_ | refine jQ ?_ | refine dm ?_ | refine cX ?_ | refine f9 ?_ | refine lH ?_ | refine fP ?_ | refine cR ?_ | refine fU ?_ | refine cQ ?_ | refine jH ?_ | refine cU ?_ | refine jR ?_ | refine jN ?_ | refine cY ?_ | refine jJ ?_ | refine fV ?_ | refine fW ?_ | refine jK ?_ | refine cV ?_ | refine fX ?_ | refine cW ?_ | refine fY ?_ | refine fQ ?_ | refine cT ?_ | refine jM ?_ | refine eY ?_ | refine eV ?_ | refine jO ?_ | refine jP ?_ | refine gb ?_ | refine cZ ?_ | refine c7 ?_ | refine dg ?_ | refine dh ?_ | refine di ?_ | refine dj ?_ | refine gf ?_ | refine qU ?_ | refine bF ?_ | refine dz ?_ | (refine' b7 (SqT.of ?hz0) ?hz1 ?_; (case hz0 => first | assumption | exact aj); (case hz1 => rfl)) | refine bH ?_ | refine dB ?_ | refine dD ?_ | refine cI ?_ | refine cJ ?_ | refine cL ?_ | refine cM ?_ | refine jT ?_ | refine cC ?_ | refine cF ?_ | refine cG ?_ | refine cH ?_ | refine bG ?_ | refine gj ?_ | refine dw ?_ | (refine' qT ?hz0 ?_; (case hz0 => with_unfolding_all first | assumption | omega | (dsimp only <;> omega) | exact ⟨by omega, by omega⟩ | exact .inl ⟨by omega, by omega⟩ | exact .inr ⟨by omega, by omega⟩ | exact ⟨by decide, by decide, by decide⟩)) | (refine' dq ?hz0 ?_; (case hz0 => with_unfolding_all first | assumption | omega | (dsimp only <;> omega) | exact ⟨by omega, by omega⟩ | exact .inl ⟨by omega, by omega⟩ | exact .inr ⟨by omega, by omega⟩ | exact ⟨by decide, by decide, by decide⟩)) | (refine' cu (SqL.of ?hz0) ?hz1 ?_; (case hz0 => first | assumption | exact aj); (case hz1 => with_unfolding_all rfl)) | (refine' cB ?hz0 ?hz1 ?_; (case hz0 => first | assumption | exact aj); (case hz1 => with_unfolding_all rfl)) | refine bI ?_ | refine gq ?_ | refine dF ?_ | refine bJ ?_ | refine dG ?_ | refine bK ?_ | refine dO ?_)))
local macro_rules | `(tactic| walk_at "stn") => `(tactic| (with_reducible repeat (first | refine jL ?_ | refine jA ?_ | refine jy ?_ | refine gk ?_ | refine gn ?_ | (refine' fZ ?hz0 ?_; (case hz0 => with_unfolding_all rfl)) | refine qR ?_ | refine jQ ?_ | refine dm ?_ | refine cX ?_ | refine f9 ?_ | refine fP ?_ | refine cR ?_ | refine fU ?_ | refine cQ ?_ | refine jH ?_ | refine cU ?_ | refine jR ?_ | refine jN ?_ | refine cY ?_ | refine jJ ?_ | refine fV ?_ | refine fW ?_ | refine jK ?_ | refine cV ?_ | refine fX ?_ | refine cW ?_ | refine fY ?_ | refine fQ ?_ | refine cT ?_ | refine jM ?_ | refine eY ?_ | refine eV ?_ | refine jO ?_ | refine jP ?_ | refine gb ?_ | refine cZ ?_ | refine c7 ?_ | refine dg ?_ | refine dh ?_ | refine di ?_ | refine dj ?_ | refine gf ?_ | refine qU ?_ | refine bF ?_ | refine dz ?_ | (refine' b7 (SqT.of ?hz0) ?hz1 ?_; (case hz0 => first | assumption | exact aj); (case hz1 => rfl)) | refine bH ?_ | refine dB ?_ | refine dD ?_ | refine cI ?_ | refine cJ ?_ | refine cL ?_ | refine cM ?_ | refine jT ?_ | refine cC ?_ | refine cF ?_ | refine cG ?_ | refine cH ?_ | refine bG ?_ | refine gj ?_ | refine dw ?_ | (refine' qT ?hz0 ?_; (case hz0 => with_unfolding_all first | assumption | omega | (dsimp only <;> omega) | exact ⟨by omega, by omega⟩ | exact .inl ⟨by omega, by omega⟩ | exact .inr ⟨by omega, by omega⟩ | exact ⟨by decide, by decide, by decide⟩)) | (refine' dq ?hz0 ?_; (case hz0 => with_unfolding_all first | assumption | omega | (dsimp only <;> omega) | exact ⟨by omega, by omega⟩ | exact .inl ⟨by omega, by omega⟩ | exact .inr ⟨by omega, by omega⟩ | exact ⟨by decide, by decide, by decide⟩)) | (refine' cu (SqL.of ?hz0) ?hz1 ?_; (case hz0 => first | assumption | exact aj); (case hz1 => with_unfolding_all rfl)) | (refine' cB ?hz0 ?hz1 ?_; (case hz0 => first | assumption | exact aj); (case hz1 => with_unfolding_all rfl)) | refine bI ?_ | refine gq ?_ | refine dF ?_ | refine bJ ?_ | refine dG ?_ | refine bK ?_ | refine dO ?_)))
section
variable {P:Program} {w:World} {K:PySem.W.Frag} {mg:Str→Option Value} {base:Heap}
theorem Qm:bM fG "isinstance":=by decide+kernel
theorem kz75:bM fG "Beside":=by decide+kernel
theorem Qn:bz fG "_law_piece":=by decide+kernel
theorem kz77:bM fG "Over":=by decide+kernel
theorem kz78:bM fG "One":=by decide+kernel
theorem kz79:bM fG "Blank":=by decide+kernel
def Yy (y:Str):List V:=[.bl (decide (y="Blank")),.bl (decide (y="One")),.bl (decide (y="Over")),.bl (decide (y="Beside"))]
theorem pcS (T:Txt K mg) {y:Str} (hy:y∈Gw):PySem.W.kitOne K (.ref (aD mg y)) (.ref (aD mg "Blank"))=some (decide (y="Blank"))∧PySem.W.kitOne K (.ref (aD mg y)) (.ref (aD mg "One"))=some (decide (y="One"))∧PySem.W.kitOne K (.ref (aD mg y)) (.ref (aD mg "Over"))=some (decide (y="Over"))∧PySem.W.kitOne K (.ref (aD mg y)) (.ref (aD mg "Beside"))=some (decide (y="Beside")):=by
 unfold Gw at hy
 simp only [List.mem_cons,List.mem_nil_iff,or_false] at hy
 rcases hy with rfl | rfl | rfl | rfl
 ·exact ⟨by rw [T.u_Blank_Blank.one];decide+kernel,by rw [T.u_Blank_One.one];decide+kernel,by rw [T.u_Blank_Over.one];decide+kernel,by rw [T.u_Blank_Beside.one];decide+kernel⟩
 ·exact ⟨by rw [T.u_One_Blank.one];decide+kernel,by rw [T.u_One_One.one];decide+kernel,by rw [T.u_One_Over.one];decide+kernel,by rw [T.u_One_Beside.one];decide+kernel⟩
 ·exact ⟨by rw [T.u_Over_Blank.one];decide+kernel,by rw [T.u_Over_One.one];decide+kernel,by rw [T.u_Over_Over.one];decide+kernel,by rw [T.u_Over_Beside.one];decide+kernel⟩
 ·exact ⟨by rw [T.u_Beside_Blank.one];decide+kernel,by rw [T.u_Beside_One.one];decide+kernel,by rw [T.u_Beside_Over.one];decide+kernel,by rw [T.u_Beside_Beside.one];decide+kernel⟩
def Qo (mg:Str→Option Value):Sp:=fun vs H Q _=>∃ x y s t k L ps h,vs=[.ref x]∧Pc mg H x y s t k L ps h∧∀ q H',H q=none→Same H H'→H' q=some (.lst (Yy y))→Q (.ref q) H'
theorem ym:aC ["_law_piece"] ["_law_piece"] (aq fG):=⟨rfl,rfl,rfl,by decide+kernel,rfl,by decide+kernel,by decide+kernel⟩
theorem o7 (T:Txt K mg):Has P w K mg base 1 "_law_flags" ["_law_piece"] (Qo mg):=by
 refine gr T.d_law_flags ym (fun _ _ _ _ _ _ us hl=>L2.jU (fun _=>rfl) us hl) ?_ fun f cdv A outer s H vs Q E hr h=>?_
 ·rintro vs H Q E ⟨x,y,s,t,k,L,ps,h,rfl,_⟩;rfl
 obtain ⟨x,y,s,t,k,L,ps,h,rfl,⟨hy,dx,al,ap,hx,_,_⟩,q⟩:=h
 have hu:=hr.units0
 have hu64:=hr.units
 refine ⟨_,(aA (aK (gA (aa (aG (lA (K:=K) rfl) (aU Qm) T.b_isinstance bj (aa (ao 0 Qn) (aa (yW (aU kz79) T.o_Blank.at_ (by decide+kernel)) ak)) (by decide+kernel) (by decide+kernel)) (aa (aG (lA (K:=K) rfl) (aU Qm) T.b_isinstance bj (aa (ao 0 Qn) (aa (yW (aU kz78) T.o_One.at_ (by decide+kernel)) ak)) (by decide+kernel) (by decide+kernel)) (aa (aG (lA (K:=K) rfl) (aU Qm) T.b_isinstance bj (aa (ao 0 Qn) (aa (yW (aU kz77) T.o_Over.at_ (by decide+kernel)) ak)) (by decide+kernel) (by decide+kernel)) (aa (aG (lA (K:=K) rfl) (aU Qm) T.b_isinstance bj (aa (ao 0 Qn) (aa (yW (aU kz75) T.o_Beside.at_ (by decide+kernel)) ak)) (by decide+kernel) (by decide+kernel)) ak))))))),?_⟩
 walk_at "sts"
 have ty:=(pcT T hy).1.ty (T.os_Piece y hy) hx
 obtain ⟨s1,s2,s3,s4⟩:=pcS T hy
 refine uB ty rfl s1 ?_
 walk_at "sts"
 refine uB ty rfl s2 ?_
 walk_at "sts"
 refine uB ty rfl s3 ?_
 walk_at "sts"
 refine uB ty rfl s4 ?_
 walk_at "sts"
 refine dR rfl fun p H1 np S1 hp=>?_
 walk_at "sts"
 exact q p H1 np S1 hp
end
local macro_rules | `(tactic| walk_at "sts") => `(tactic| (with_reducible repeat (first | refine jL ?_ | refine jA ?_ | refine jy ?_ | refine gk ?_ | refine gn ?_ | (refine' fZ ?hz0 ?_; (case hz0 => with_unfolding_all rfl)) | refine qR ?_ | refine jQ ?_ | refine dm ?_ | refine cX ?_ | refine f9 ?_ | refine lH ?_ | refine fP ?_ | refine cR ?_ | refine fU ?_ | refine cQ ?_ | refine jH ?_ | refine cU ?_ | refine jR ?_ | refine jN ?_ | refine cY ?_ | refine jJ ?_ | refine fV ?_ | refine fW ?_ | refine jK ?_ | refine cV ?_ | refine fX ?_ | refine cW ?_ | refine fY ?_ | refine fQ ?_ | refine cT ?_ | refine jM ?_ | refine eY ?_ | refine eV ?_ | refine jO ?_ | refine jP ?_ | refine gb ?_ | refine cZ ?_ | refine c7 ?_ | refine dg ?_ | refine dh ?_ | refine di ?_ | refine dj ?_ | refine gf ?_ | refine qU ?_ | refine bF ?_ | refine dz ?_ | (refine' b7 (SqT.of ?hz0) ?hz1 ?_; (case hz0 => first | assumption | exact aj); (case hz1 => rfl)) | refine bH ?_ | refine dB ?_ | refine dD ?_ | refine cI ?_ | refine cJ ?_ | refine cL ?_ | refine cM ?_ | refine jT ?_ | refine cC ?_ | refine cF ?_ | refine cG ?_ | refine cH ?_ | refine bG ?_ | refine gj ?_ | refine dw ?_ | (refine' qT ?hz0 ?_; (case hz0 => with_unfolding_all first | assumption | omega | (dsimp only <;> omega) | exact ⟨by omega, by omega⟩ | exact .inl ⟨by omega, by omega⟩ | exact .inr ⟨by omega, by omega⟩ | exact ⟨by decide, by decide, by decide⟩)) | (refine' dq ?hz0 ?_; (case hz0 => with_unfolding_all first | assumption | omega | (dsimp only <;> omega) | exact ⟨by omega, by omega⟩ | exact .inl ⟨by omega, by omega⟩ | exact .inr ⟨by omega, by omega⟩ | exact ⟨by decide, by decide, by decide⟩)) | (refine' cu (SqL.of ?hz0) ?hz1 ?_; (case hz0 => first | assumption | exact aj); (case hz1 => with_unfolding_all rfl)) | (refine' cB ?hz0 ?hz1 ?_; (case hz0 => first | assumption | exact aj); (case hz1 => with_unfolding_all rfl)) | refine bI ?_ | refine gq ?_ | refine dF ?_ | refine bJ ?_ | refine dG ?_ | refine bK ?_ | refine oM ?_ | refine oN ?_ | refine dO ?_)))
local macro_rules | `(tactic| walk_at "stn") => `(tactic| (with_reducible repeat (first | refine jL ?_ | refine jA ?_ | refine jy ?_ | refine gk ?_ | refine gn ?_ | (refine' fZ ?hz0 ?_; (case hz0 => with_unfolding_all rfl)) | refine qR ?_ | refine jQ ?_ | refine dm ?_ | refine cX ?_ | refine f9 ?_ | refine fP ?_ | refine cR ?_ | refine fU ?_ | refine cQ ?_ | refine jH ?_ | refine cU ?_ | refine jR ?_ | refine jN ?_ | refine cY ?_ | refine jJ ?_ | refine fV ?_ | refine fW ?_ | refine jK ?_ | refine cV ?_ | refine fX ?_ | refine cW ?_ | refine fY ?_ | refine fQ ?_ | refine cT ?_ | refine jM ?_ | refine eY ?_ | refine eV ?_ | refine jO ?_ | refine jP ?_ | refine gb ?_ | refine cZ ?_ | refine c7 ?_ | refine dg ?_ | refine dh ?_ | refine di ?_ | refine dj ?_ | refine gf ?_ | refine qU ?_ | refine bF ?_ | refine dz ?_ | (refine' b7 (SqT.of ?hz0) ?hz1 ?_; (case hz0 => first | assumption | exact aj); (case hz1 => rfl)) | refine bH ?_ | refine dB ?_ | refine dD ?_ | refine cI ?_ | refine cJ ?_ | refine cL ?_ | refine cM ?_ | refine jT ?_ | refine cC ?_ | refine cF ?_ | refine cG ?_ | refine cH ?_ | refine bG ?_ | refine gj ?_ | refine dw ?_ | (refine' qT ?hz0 ?_; (case hz0 => with_unfolding_all first | assumption | omega | (dsimp only <;> omega) | exact ⟨by omega, by omega⟩ | exact .inl ⟨by omega, by omega⟩ | exact .inr ⟨by omega, by omega⟩ | exact ⟨by decide, by decide, by decide⟩)) | (refine' dq ?hz0 ?_; (case hz0 => with_unfolding_all first | assumption | omega | (dsimp only <;> omega) | exact ⟨by omega, by omega⟩ | exact .inl ⟨by omega, by omega⟩ | exact .inr ⟨by omega, by omega⟩ | exact ⟨by decide, by decide, by decide⟩)) | (refine' cu (SqL.of ?hz0) ?hz1 ?_; (case hz0 => first | assumption | exact aj); (case hz1 => with_unfolding_all rfl)) | (refine' cB ?hz0 ?hz1 ?_; (case hz0 => first | assumption | exact aj); (case hz1 => with_unfolding_all rfl)) | refine bI ?_ | refine gq ?_ | refine dF ?_ | refine bJ ?_ | refine dG ?_ | refine bK ?_ | refine oM ?_ | refine oN ?_ | refine dO ?_)))
section
variable {P:Program} {w:World} {K:PySem.W.Frag} {mg:Str→Option Value} {base:Heap}
theorem rQ:(["_law_word","_law_piece"]:List Str).Nodup:=by decide+kernel
theorem kz7a:bM gQ "_law_flags":=by decide+kernel
theorem kz7b:QT gQ "_law_piece":=by decide+kernel
def Yz:List Str:=["blank","one","over","beside"]
theorem Vi {y k:Str} (h:TK y k):Yy y=Yz.map fun w=>V.bl (decide (V.str k=V.str w)):=by
 rcases h with ⟨rfl,rfl⟩ | ⟨rfl,rfl⟩ | ⟨rfl,rfl⟩ | ⟨rfl,rfl⟩ <;> decide+kernel
theorem K3 {y:Str}:∀ v∈Yy y,jl v=true∨∃ r,v= .ref r:=fun v hv=>by
 unfold Yy at hv
 simp only [List.mem_cons,List.mem_nil_iff,or_false] at hv
 rcases hv with rfl | rfl | rfl | rfl <;> exact .inl rfl
def K4 (K:PySem.W.Frag) (mg:Str→Option Value):Sp:=fun vs H Q _=>∃ (x:Addr) (y s t k:Str) (ps:List V) (h:Nat),vs=[.ref x]∧PG mg H x y s t k ps h∧TK y k∧∀ H',Same H H'→Q (.bl true) H'
theorem uW:aC ["_law_piece"] ["_law_piece"] (aq gQ):=⟨rfl,rfl,rfl,by decide+kernel,rfl,by decide+kernel,by decide+kernel⟩
theorem d8 (T:Txt K mg):Has P w K mg base 2 "_law_is_kind" ["_law_piece"] (K4 K mg):=by
 have o7:=o7 (P:=P) (w:=w) (base:=base) T
 have dM:=dM (P:=P) (w:=w) (base:=base) T
 refine gr T.d_law_is_kind uW (fun _ _ _ _ _ _ us hl=>L2.jU (fun _=>rfl) us hl) ?_ fun f cdv A outer s H vs Q E hr h=>?_
 ·rintro vs H Q E ⟨x,y,s,t,k,ps,h,rfl,_⟩;rfl
 obtain ⟨x,y,s,t,k,ps,h,rfl,hP,tk,q⟩:=h
 have hu:=hr.units0
 have hu64:=hr.units
 refine ⟨_,(aA (aK (mL (nG (K:=K) rfl hu64) (aF o7 (hr.mono (by decide)) (aU kz7a) (aa (nZ 0 kz7b) ak) (by decide+kernel)) (lK (sub:=[none,some 0]) (gO (N:=["_law_piece"]) (sc:=aq gQ) (N':=["_law_word","_law_piece"]) (by decide+kernel)) rfl rfl rfl (jf (K:=K) rfl (gA (aa gC (aa gC (aa gC (aa gC ak)))))) (fun C s₀ H₀ ex=>(tD 0 (by decide+kernel) rQ)) (fun C s₀ H₀ ex=>jB) (fun C s₀ H₀ ex=>(mL (nG (K:=K) rfl hu64) (aL (mg:=mg) rfl (qD 1 (by decide+kernel)) T.os_Piece dM (hr.mono (by decide)) (fu fun _ _=>rfl)) (mK 0 (by decide+kernel)) (by first | exact aV _ | with_unfolding_all rfl)))) (by first | exact aV _ | with_unfolding_all rfl)))),?_⟩
 walk_at "sts"
 have hz:20000≤sizeLine:=by decide
 refine ⟨x,y,s,t,k,_,ps,h,rfl,hP.pc,fun o3 G3 n3 S3 h3=>?_⟩
 walk_at "sts"
 refine dR rfl fun o4 G4 n4 S4 h4=>?_
 walk_at "sts"
 refine .inl ⟨o4,rfl,⟨_,SqL.of h4⟩,?_⟩
 replace h4:G4 o4=some (.lst (Yz.map V.str)):=h4
 have U4:=S3.trans S4
 have hP4:=hP.same U4
 obtain ⟨hy,dx,al,ap,hx,_,_⟩:=id hP4.pc
 refine jX (xs:=Yz.map V.str) (fun i zs G=>G=G4∧zs=(Yz.take i).map fun w=>V.bl (decide (V.str k=V.str w))) (by show 4≤_;omega) ⟨rfl,rfl⟩ ?_ ?_ ?_ ?_
 ·rintro i zs G ⟨_,rfl⟩
  rw [List.length_map,List.length_take];have:Yz.length=4:=rfl;omega
 ·rintro i zs G ⟨rfl,_⟩
  exact SqL.of h4
 ·rintro i zs G v hv ⟨rfl,rfl⟩
  rw [List.getElem?_map] at hv
  obtain ⟨w',hw,rfl⟩:=Option.map_eq_some_iff.mp hv
  walk_at "sts"
  refine ⟨KeepSt.set rfl,?_⟩
  walk_at "sts"
  refine ⟨x,y,dx,_,rfl,hy,hx,rfl,?_⟩
  walk_at "sts"
  refine ⟨x,y,_,_,_,_,_,_,rfl,hP4.pc,?_⟩
  walk_at "sts"
  refine ⟨rfl,?_⟩
  rw [List.take_add_one,hw,List.map_append]
  rfl
 rintro zs G o5 G5 ⟨rfl,rfl⟩ n5 S5 h5
 try walk_at "sts"
 have h5':G5 o5=some (.lst (Yy y)):=by
  rw [Vi tk,h5];rfl
 refine xF ((S4.trans S5) _ _ h3) h5' K3 ?_
 walk_at "sts"
 exact q G5 (U4.trans S5)
end
local macro_rules | `(tactic| walk_at "sts") => `(tactic| (with_reducible repeat (first | refine jL ?_ | refine jA ?_ | refine jy ?_ | refine gk ?_ | refine gn ?_ | (refine' fZ ?hz0 ?_; (case hz0 => with_unfolding_all rfl)) | refine qR ?_ | refine jQ ?_ | refine dm ?_ | refine cX ?_ | refine f9 ?_ | refine lH ?_ | refine fP ?_ | refine cR ?_ | refine fU ?_ | refine cQ ?_ | refine jH ?_ | refine cU ?_ | refine jR ?_ | refine jN ?_ | refine cY ?_ | refine jJ ?_ | refine fV ?_ | refine fW ?_ | refine jK ?_ | refine cV ?_ | refine fX ?_ | refine cW ?_ | refine fY ?_ | refine fQ ?_ | refine cT ?_ | refine jM ?_ | refine eY ?_ | refine eV ?_ | refine jO ?_ | refine jP ?_ | refine gb ?_ | refine cZ ?_ | refine c7 ?_ | refine dg ?_ | refine dh ?_ | refine di ?_ | refine dj ?_ | refine gf ?_ | refine qU ?_ | refine bF ?_ | refine dz ?_ | (refine' b7 (SqT.of ?hz0) ?hz1 ?_; (case hz0 => first | assumption | exact aj); (case hz1 => rfl)) | refine bH ?_ | refine dB ?_ | refine dD ?_ | refine cI ?_ | refine cJ ?_ | refine cL ?_ | refine cM ?_ | refine jT ?_ | refine cC ?_ | refine cF ?_ | refine cG ?_ | refine cH ?_ | refine bG ?_ | refine gj ?_ | refine dw ?_ | (refine' qT ?hz0 ?_; (case hz0 => with_unfolding_all first | assumption | omega | (dsimp only <;> omega) | exact ⟨by omega, by omega⟩ | exact .inl ⟨by omega, by omega⟩ | exact .inr ⟨by omega, by omega⟩ | exact ⟨by decide, by decide, by decide⟩)) | (refine' dq ?hz0 ?_; (case hz0 => with_unfolding_all first | assumption | omega | (dsimp only <;> omega) | exact ⟨by omega, by omega⟩ | exact .inl ⟨by omega, by omega⟩ | exact .inr ⟨by omega, by omega⟩ | exact ⟨by decide, by decide, by decide⟩)) | (refine' cu (SqL.of ?hz0) ?hz1 ?_; (case hz0 => first | assumption | exact aj); (case hz1 => with_unfolding_all rfl)) | (refine' cB ?hz0 ?hz1 ?_; (case hz0 => first | assumption | exact aj); (case hz1 => with_unfolding_all rfl)) | refine bI ?_ | refine gq ?_ | refine dF ?_ | refine bJ ?_ | refine dG ?_ | refine bK ?_ | refine oM ?_ | refine oN ?_ | refine dO ?_ | refine rF ?_ | refine rG ?_)))
local macro_rules | `(tactic| walk_at "stn") => `(tactic| (with_reducible repeat (first | refine jL ?_ | refine jA ?_ | refine jy ?_ | refine gk ?_ | refine gn ?_ | (refine' fZ ?hz0 ?_; (case hz0 => with_unfolding_all rfl)) | refine qR ?_ | refine jQ ?_ | refine dm ?_ | refine cX ?_ | refine f9 ?_ | refine fP ?_ | refine cR ?_ | refine fU ?_ | refine cQ ?_ | refine jH ?_ | refine cU ?_ | refine jR ?_ | refine jN ?_ | refine cY ?_ | refine jJ ?_ | refine fV ?_ | refine fW ?_ | refine jK ?_ | refine cV ?_ | refine fX ?_ | refine cW ?_ | refine fY ?_ | refine fQ ?_ | refine cT ?_ | refine jM ?_ | refine eY ?_ | refine eV ?_ | refine jO ?_ | refine jP ?_ | refine gb ?_ | refine cZ ?_ | refine c7 ?_ | refine dg ?_ | refine dh ?_ | refine di ?_ | refine dj ?_ | refine gf ?_ | refine qU ?_ | refine bF ?_ | refine dz ?_ | (refine' b7 (SqT.of ?hz0) ?hz1 ?_; (case hz0 => first | assumption | exact aj); (case hz1 => rfl)) | refine bH ?_ | refine dB ?_ | refine dD ?_ | refine cI ?_ | refine cJ ?_ | refine cL ?_ | refine cM ?_ | refine jT ?_ | refine cC ?_ | refine cF ?_ | refine cG ?_ | refine cH ?_ | refine bG ?_ | refine gj ?_ | refine dw ?_ | (refine' qT ?hz0 ?_; (case hz0 => with_unfolding_all first | assumption | omega | (dsimp only <;> omega) | exact ⟨by omega, by omega⟩ | exact .inl ⟨by omega, by omega⟩ | exact .inr ⟨by omega, by omega⟩ | exact ⟨by decide, by decide, by decide⟩)) | (refine' dq ?hz0 ?_; (case hz0 => with_unfolding_all first | assumption | omega | (dsimp only <;> omega) | exact ⟨by omega, by omega⟩ | exact .inl ⟨by omega, by omega⟩ | exact .inr ⟨by omega, by omega⟩ | exact ⟨by decide, by decide, by decide⟩)) | (refine' cu (SqL.of ?hz0) ?hz1 ?_; (case hz0 => first | assumption | exact aj); (case hz1 => with_unfolding_all rfl)) | (refine' cB ?hz0 ?hz1 ?_; (case hz0 => first | assumption | exact aj); (case hz1 => with_unfolding_all rfl)) | refine bI ?_ | refine gq ?_ | refine dF ?_ | refine bJ ?_ | refine dG ?_ | refine bK ?_ | refine oM ?_ | refine oN ?_ | refine dO ?_ | refine rF ?_ | refine rG ?_)))
section
variable {P:Program} {w:World} {K:PySem.W.Frag} {mg:Str→Option Value} {base:Heap}
theorem vA:bz bL "_law_piece":=by decide+kernel
theorem Qp:bM bL "_law_is":=by decide+kernel
theorem BX:bz bL "_law_top":=by decide+kernel
theorem K5:bz bL "_law_letter":=by decide+kernel
theorem kz7g:bM bL "range":=by decide+kernel
theorem YB:bM bL "len":=by decide+kernel
theorem Qq:bz bL "_law_size":=by decide+kernel
theorem z8:bz bL "_law_some":=by decide+kernel
theorem Vj:bM bL "_law_is_kind":=by decide+kernel
theorem kz7l:bM bL "isinstance":=by decide+kernel
theorem kz7m:bM bL "list":=by decide+kernel
theorem kz7n:bM bL "strip":=by decide+kernel
theorem Gs (row:Str) (n:Nat):Txt.slice row none (some (n:Int))=Ab row n:=kj (by rw [yZ,nR])
theorem Chn.pg {H:Hp} {c row:Str}:∀ {n:Nat} {x:Addr},Chn mg H c row n x→∃ y k ps h,PG mg H x y c (Ab row n) k ps h∧TK y k
 | 0,_,h=>h.elim
 | 1,_,h=>⟨_,_,_,_,h,.inr (.inl ⟨rfl,rfl⟩)⟩
 | n+2,_,⟨x',o,d,a,b,e,f⟩=>⟨_,_,_,_,a,.inr (.inr (.inr ⟨rfl,rfl⟩))⟩
theorem K6 {n:Nat} (h:n≤100):Builtin.Range.small n 1 (-1)=true:=by
 unfold Builtin.Range.small Builtin.Range.rangeSize
 simp only [Builtin.Range.rangeFitsLong,Bool.and_eq_true,Bool.or_eq_true,decide_eq_true_eq,beq_iff_eq,show ¬ (-1:Int) > 0 by decide,if_false,show (-(-1:Int))=1 by decide,Int.ediv_one]
 split <;> omega
theorem Qs {n:Nat} (h:1≤n):Builtin.Range.rangeSize n 1 (-1)=((n - 1:Nat):Int):=by
 unfold Builtin.Range.rangeSize
 simp only [show ¬ (-1:Int) > 0 by decide,if_false,show (-(-1:Int))=1 by decide,Int.ediv_one]
 split <;> omega
def K7 (K:PySem.W.Frag) (mg:Str→Option Value):Sp:=fun vs H Q _=>∃ (c:Nat) (row:Str),vs=[.str ⟨#[c]⟩,.str row]∧c∈GOOD∧Row row∧∀ H',Same H H'→Q (.bl true) H'
theorem jF:aC ["_law_letter","_law_top","_law_piece","_law_size","_law_some"] ["_law_letter","_law_top"] (aq bL):=⟨rfl,rfl,rfl,by decide+kernel,rfl,by decide+kernel,by decide+kernel⟩
theorem mC (T:Txt K mg):Has P w K mg base 12 "_law_strip" ["_law_letter","_law_top"] (K7 K mg):=by
 have yj:=yj (P:=P) (w:=w) (base:=base) T
 have d8:=d8 (P:=P) (w:=w) (base:=base) T
 have jE:=jE (P:=P) (w:=w) (base:=base) T
 have cz:=cz (P:=P) (w:=w) (base:=base) T
 refine gr T.d_law_strip jF (fun _ _ _ _ _ _ us hl=>L2.ou (fun _ _=>rfl) us hl) ?_ fun f cdv A outer s H vs Q E hr h=>?_
 ·rintro vs H Q E ⟨c,row,rfl,_⟩;rfl
 obtain ⟨c,row,rfl,hc,hR,q⟩:=h
 have hu:=hr.units0
 have hu64:=hr.units
 refine ⟨_,(az (aP (i:=2) jF.nd rfl (Or.inl vA) (aF yj (hr.mono (by decide)) (aU kz7n) (aa (ao 0 K5) (aa (ao 1 BX) ak)) (by decide+kernel)) rfl) (az (cP (dY (dZ (aF d8 (hr.mono (by decide)) (aU Vj) (aa (ao 2 vA) ak) (by decide+kernel)))) (aA (aK m6)) bB) (az (cP (bR (nG (K:=K) rfl hu64) (ao 1 BX) gC (by first | exact aV _ | with_unfolding_all rfl)) (aA (aK (sr (aF jE (hr.mono (by decide)) (aU Qp) (aa (ao 2 vA) (aa (gA (aa (ao 0 K5) (aa (ao 1 BX) ak))) (aa gC (aa aH ak)))) (by decide+kernel)) (rZ (mL (nG (K:=K) rfl hu64) (aL (mg:=mg) rfl (ao 2 vA) T.os_Piece cz (hr.mono (by decide)) (fu fun _ _=>rfl)) (gA ak) (by first | exact aV _ | with_unfolding_all rfl)))))) bB) (az (jC PassesOwn.never rfl (v4 (aU kz7g) T.b_range (aa (aG (aJ (K:=K) rfl) (aU YB) T.b_len bC (aa (ao 1 BX) ak) (by decide+kernel) (by decide+kernel)) (aa aH (aa (j_un RG aH) ak)))) (dJ (i:=3) jF.nd rfl (Or.inl Qq) rfl) (az (cP (dY (dZ (aF jE (hr.mono (by decide)) (aU Qp) (aa (ao 2 vA) (aa (gA (aa (ao 0 K5) (aa (ni (mY (K:=K) rfl) (ao 1 BX) m7 (m9 (ao 3 Qq))) ak))) (aa gC (aa (bN kW (ao 3 Qq) aH) ak)))) (by decide+kernel)))) (aA (aK m6)) bB) (az (aP (i:=4) jF.nd rfl (Or.inl z8) (aL (mg:=mg) rfl (ao 2 vA) T.os_Piece cz (hr.mono (by decide)) (fu fun _ _=>rfl)) rfl) (az (cP (km (lJ (dY (dZ (aG (jn (K:=K) rfl) (aU kz7l) T.b_isinstance bj (aa (ao 4 z8) (aa (u5 (aU kz7m) T.b_list j7 (by decide+kernel) (by decide+kernel)) ak)) (by decide+kernel) (by decide+kernel)))) (je (bR (rE (K:=K) rfl hu64) (aG (aJ (K:=K) rfl) (aU YB) T.b_len bC (aa (ao 4 z8) ak) (by decide+kernel) (by decide+kernel)) aH (by first | exact aV _ | with_unfolding_all rfl))))) (aA (aK m6)) bB) (az (cP (km (lJ (dY (dZ (aF jE (hr.mono (by decide)) (aU Qp) (aa (jV (K:=K) rfl (ao 4 z8) aH) (aa (gA (aa (ao 0 K5) (aa (jV (K:=K) rfl (ao 1 BX) (bN kW (ao 3 Qq) aH)) ak))) (aa gC (aa aH ak)))) (by decide+kernel)))) (je (bR (rE (K:=K) rfl hu64) (ao 4 z8) (aL (mg:=mg) rfl (ao 2 vA) T.os_Piece cz (hr.mono (by decide)) (fu fun _ _=>rfl)) (by first | exact aV _ | with_unfolding_all rfl))))) (aA (aK m6)) bB) (az (cP (km (lJ (dY (dZ (aF d8 (hr.mono (by decide)) (aU Vj) (aa (jV (K:=K) rfl (ao 4 z8) aH) ak) (by decide+kernel)))) (je (dY (dZ (aF d8 (hr.mono (by decide)) (aU Vj) (aa (jV (K:=K) rfl (ao 4 z8) aH) ak) (by decide+kernel))))))) (aA (aK m6)) bB) (aA (aP (i:=2) jF.nd rfl (Or.inl vA) (jV (K:=K) rfl (ao 4 z8) aH) rfl)))))))) (aA (aK (sr (aF jE (hr.mono (by decide)) (aU Qp) (aa (ao 2 vA) (aa (gA (aa (ao 0 K5) (aa (jV (K:=K) rfl (ao 1 BX) aH) ak))) (aa gC (aa aH ak)))) (by decide+kernel)) (rZ (mL (nG (K:=K) rfl hu64) (aL (mg:=mg) rfl (ao 2 vA) T.os_Piece cz (hr.mono (by decide)) (fu fun _ _=>rfl)) (gA ak) (by first | exact aV _ | with_unfolding_all rfl)))))))))),?_⟩
 walk_at "sts"
 have hz:20000≤sizeLine:=by decide
 have l1:=hR.1
 have el:row.length=row.cps.size:=rfl
 refine ⟨c,row,rfl,hc,hR,?_,?_⟩
 walk_at "sts"
 ·intro x H1 S1 h0 p1 _
  walk_at "sts"
  refine ⟨x,_,_,_,_,_,_,rfl,p1,.inl ⟨rfl,rfl⟩,fun H2 S2=>?_⟩
  walk_at "sts"
  rw [decide_eq_true (show V.str row=V.str (Str.ofString "") by rw [mz.mpr h0])]
  walk_at "sts"
  refine dR rfl fun r H3 n3 S3 h3=>?_
  walk_at "sts"
  have p3:=p1.same (S2.trans S3)
  refine ⟨x,r,_,_,_,_,_,0,rfl,p3,h3,fun H4 S4=>?_⟩
  walk_at "sts"
  have p4:=p3.same S4
  obtain ⟨hy,dx,al,ap,hx,_,_⟩:=id p4.pc
  refine ⟨x,_,dx,_,rfl,hy,hx,rfl,?_⟩
  walk_at "sts"
  refine ⟨x,_,_,_,_,_,_,_,rfl,p4.pc,fun f5 H5 n5 S5 h5=>?_⟩
  walk_at "sts"
  refine dR rfl fun f6 H6 n6 S6 h6=>?_
  walk_at "sts"
  refine xF (S6 _ _ h5) h6 (fun v hv=>by cases hv) ?_
  walk_at "sts"
  exact q H6 (S1.trans (S2.trans (S3.trans (S4.trans (S5.trans S6)))))
 ·intro x H1 S1 h0 hC _
  walk_at "sts"
  obtain ⟨y,k,ps,h,pg,tk⟩:=hC.pg
  refine ⟨x,_,_,_,_,_,_,rfl,pg,tk,fun H2 S2=>?_⟩
  walk_at "sts"
  rw [decide_eq_false (show ¬ V.str row=V.str (Str.ofString "") from fun z=>by have:=mz.mp (V.str.inj z);omega)]
  walk_at "sts"
  refine gG (by omega) ?_
  walk_at "sts"
  refine ⟨(row.length:Int),1,-1,row.cps.size - 1,rfl,by decide,PyProof.noPylong_small (by decide),K6 (by omega),Qs (by omega),?_⟩
  have hC2:=hC.same S2
  have U2:=S1.trans S2
  clear hC pg
  obtain ⟨N,hN⟩:∃ N,row.cps.size=N+1:=⟨row.cps.size - 1,by omega⟩
  refine yX (fun i σ G=>Same H G∧(∃ x x4,Chn mg G ⟨#[c]⟩ row (N+1 - i) x∧∃ x3,σ=[some (.str ⟨#[c]⟩),some (.str row),some (.ref x),x3,x4])) ⟨U2,x,_,by rw [hN] at hC2;exact hC2,_,rfl⟩ ?_ ?_
  ·rintro i σ G hi ⟨s,x,x4,hC,x3,rfl⟩
   obtain ⟨m,hm⟩:∃ m,N+1 - i=m+2:=⟨N+1 - i - 2,by omega⟩
   rw [hm] at hC
   obtain ⟨x',o,d,pB,hC',hd,pO⟩:=hC
   rw [show ((row.length:Int)+(i:Int)* -1)=((m+2:Nat):Int) by omega]
   walk_at "sts"
   refine Io (by omega) ?_
   walk_at "sts"
   rw [Gs]
   refine dR rfl fun r H3 n3 S3 h3=>?_
   walk_at "sts"
   rw [show ((m+2:Nat):Int) - 1=((m+1:Nat):Int) by omega]
   refine ⟨x,r,_,_,_,_,_,m+1,rfl,pB.same S3,h3,fun H4 S4=>?_⟩
   walk_at "sts"
   have U4:=S3.trans S4
   have pB4:=pB.same U4
   obtain ⟨hy,dx,al,ap,hx,_,_⟩:=id pB4.pc
   refine ⟨x,_,dx,_,rfl,hy,hx,rfl,?_⟩
   walk_at "sts"
   refine ⟨x,_,_,_,_,_,_,_,rfl,pB4.pc,fun f5 H5 n5 S5 h5=>?_⟩
   walk_at "sts"
   refine oG (.lst h5) rfl ?_
   walk_at "sts"
   refine gU (SqL.of h5) ?_
   walk_at "sts"
   rw [decide_eq_true (show V.int ((([.ref x',.ref o]:List V).length:Nat):Int)=V.int 2 from rfl)]
   walk_at "sts"
   rw [show ((m+2:Nat):Int) - 1=((m+1:Nat):Int) by omega]
   refine ux (by omega) (lV hd) ?_
   walk_at "sts"
   refine dR rfl fun r2 H6 n6 S6 h6=>?_
   walk_at "sts"
   have U6:=U4.trans (S5.trans S6)
   refine ⟨o,r2,_,_,_,_,_,0,rfl,pO.same U6,h6,fun H7 S7=>?_⟩
   walk_at "sts"
   have U7:=U6.trans S7
   have h57:=S7 _ _ (S6 _ _ h5)
   have pB7:=pB.same U7
   refine ⟨x,_,dx,_,rfl,hy,(S5.trans (S6.trans S7)) _ _ hx,rfl,?_⟩
   walk_at "sts"
   refine ⟨x,_,_,_,_,_,_,_,rfl,pB7.pc,fun f8 H8 n8 S8 h8=>?_⟩
   walk_at "sts"
   refine Bp (S8 _ _ h57) h8 (fun v hv=>by simp only [List.mem_cons,List.mem_nil_iff,or_false] at hv;rcases hv with rfl | rfl <;> exact .inr ⟨_,rfl⟩) ?_
   walk_at "sts"
   have U8:=U7.trans S8
   have h58:=S8 _ _ h57
   try walk_at "sts"
   obtain ⟨y',k',ps',h',pg',tk'⟩:=(hC'.same U8).pg
   refine ⟨x',_,_,_,_,_,_,rfl,pg',tk',fun H9 S9=>?_⟩
   walk_at "sts"
   have h59:=S9 _ _ h58
   try walk_at "sts"
   refine ⟨o,_,_,_,_,_,_,rfl,pO.same (U8.trans S9),.inr (.inl ⟨rfl,rfl⟩),fun HA SA=>?_⟩
   walk_at "sts"
   have h5A:=SA _ _ h59
   try walk_at "sts"
   refine ⟨s.trans (U8.trans (S9.trans SA)),x',_,?_,_,rfl⟩
   rw [show N+1 - (i+1)=m+1 by omega]
   exact hC'.same (U8.trans (S9.trans SA))
  ·rintro σ G ⟨s,x,x4,hC,x3,rfl⟩
   rw [show N+1 - (row.cps.size - 1)=1 by omega] at hC
   obtain ⟨d0,e0⟩:∃ d0,row.cps.toList[0]?=some d0:=⟨_,List.getElem?_eq_getElem (by simpa using (by omega:0 < row.cps.size))⟩
   have ep:Ab row 1=⟨#[d0]⟩:=kj (by rw [nR,List.take_add_one,e0];rfl)
   have pO:PG mg G x "One" ⟨#[c]⟩ ⟨#[d0]⟩ (Str.ofString "one") [] 0:=by
    have:PG mg G x "One" ⟨#[c]⟩ (Ab row 1) (Str.ofString "one") [] 0:=hC
    rw [ep] at this;exact this
   walk_at "sts"
   refine ux (by omega) (lV e0) ?_
   walk_at "sts"
   refine dR rfl fun r H3 n3 S3 h3=>?_
   walk_at "sts"
   have p3:=pO.same S3
   refine ⟨x,r,_,_,_,_,_,0,rfl,p3,h3,fun H4 S4=>?_⟩
   walk_at "sts"
   have p4:=p3.same S4
   obtain ⟨hy,dx,al,ap,hx,_,_⟩:=id p4.pc
   refine ⟨x,_,dx,_,rfl,hy,hx,rfl,?_⟩
   walk_at "sts"
   refine ⟨x,_,_,_,_,_,_,_,rfl,p4.pc,fun f5 H5 n5 S5 h5=>?_⟩
   walk_at "sts"
   refine dR rfl fun f6 H6 n6 S6 h6=>?_
   walk_at "sts"
   refine xF (S6 _ _ h5) h6 (fun v hv=>by cases hv) ?_
   walk_at "sts"
   exact q H6 (s.trans (S3.trans (S4.trans (S5.trans S6))))
end
local macro_rules | `(tactic| walk_at "sts") => `(tactic| (with_reducible repeat (first | refine jL ?_ | refine jA ?_ | refine jy ?_ | refine gk ?_ | refine gn ?_ | (refine' fZ ?hz0 ?_; (case hz0 => with_unfolding_all rfl)) | refine qR ?_ | refine jQ ?_ | refine dm ?_ | refine cX ?_ | refine f9 ?_ | refine lH ?_ | refine fP ?_ | refine cR ?_ | refine fU ?_ | refine cQ ?_ | refine jH ?_ | refine cU ?_ | refine jR ?_ | refine jN ?_ | refine cY ?_ | refine jJ ?_ | refine fV ?_ | refine fW ?_ | refine jK ?_ | refine cV ?_ | refine fX ?_ | refine cW ?_ | refine fY ?_ | refine fQ ?_ | refine cT ?_ | refine jM ?_ | refine eY ?_ | refine eV ?_ | refine jO ?_ | refine jP ?_ | refine gb ?_ | refine cZ ?_ | refine c7 ?_ | refine dg ?_ | refine dh ?_ | refine di ?_ | refine dj ?_ | refine gf ?_ | refine qU ?_ | refine bF ?_ | refine dz ?_ | (refine' b7 (SqT.of ?hz0) ?hz1 ?_; (case hz0 => first | assumption | exact aj); (case hz1 => rfl)) | refine bH ?_ | refine dB ?_ | refine dD ?_ | refine cI ?_ | refine cJ ?_ | refine cL ?_ | refine cM ?_ | refine jT ?_ | refine cC ?_ | refine cF ?_ | refine cG ?_ | refine cH ?_ | refine bG ?_ | refine gj ?_ | refine dw ?_ | (refine' qT ?hz0 ?_; (case hz0 => with_unfolding_all first | assumption | omega | (dsimp only <;> omega) | exact ⟨by omega, by omega⟩ | exact .inl ⟨by omega, by omega⟩ | exact .inr ⟨by omega, by omega⟩ | exact ⟨by decide, by decide, by decide⟩)) | (refine' dq ?hz0 ?_; (case hz0 => with_unfolding_all first | assumption | omega | (dsimp only <;> omega) | exact ⟨by omega, by omega⟩ | exact .inl ⟨by omega, by omega⟩ | exact .inr ⟨by omega, by omega⟩ | exact ⟨by decide, by decide, by decide⟩)) | (refine' cu (SqL.of ?hz0) ?hz1 ?_; (case hz0 => first | assumption | exact aj); (case hz1 => with_unfolding_all rfl)) | (refine' cB ?hz0 ?hz1 ?_; (case hz0 => first | assumption | exact aj); (case hz1 => with_unfolding_all rfl)) | refine bI ?_ | refine gq ?_ | refine dF ?_ | refine bJ ?_ | refine dG ?_ | refine bK ?_ | refine oM ?_ | refine oN ?_ | (refine' Dc ?hz0 ?_; (case hz0 => with_unfolding_all rfl)) | refine dO ?_ | refine rF ?_ | refine rG ?_)))
local macro_rules | `(tactic| walk_at "stn") => `(tactic| (with_reducible repeat (first | refine jL ?_ | refine jA ?_ | refine jy ?_ | refine gk ?_ | refine gn ?_ | (refine' fZ ?hz0 ?_; (case hz0 => with_unfolding_all rfl)) | refine qR ?_ | refine jQ ?_ | refine dm ?_ | refine cX ?_ | refine f9 ?_ | refine fP ?_ | refine cR ?_ | refine fU ?_ | refine cQ ?_ | refine jH ?_ | refine cU ?_ | refine jR ?_ | refine jN ?_ | refine cY ?_ | refine jJ ?_ | refine fV ?_ | refine fW ?_ | refine jK ?_ | refine cV ?_ | refine fX ?_ | refine cW ?_ | refine fY ?_ | refine fQ ?_ | refine cT ?_ | refine jM ?_ | refine eY ?_ | refine eV ?_ | refine jO ?_ | refine jP ?_ | refine gb ?_ | refine cZ ?_ | refine c7 ?_ | refine dg ?_ | refine dh ?_ | refine di ?_ | refine dj ?_ | refine gf ?_ | refine qU ?_ | refine bF ?_ | refine dz ?_ | (refine' b7 (SqT.of ?hz0) ?hz1 ?_; (case hz0 => first | assumption | exact aj); (case hz1 => rfl)) | refine bH ?_ | refine dB ?_ | refine dD ?_ | refine cI ?_ | refine cJ ?_ | refine cL ?_ | refine cM ?_ | refine jT ?_ | refine cC ?_ | refine cF ?_ | refine cG ?_ | refine cH ?_ | refine bG ?_ | refine gj ?_ | refine dw ?_ | (refine' qT ?hz0 ?_; (case hz0 => with_unfolding_all first | assumption | omega | (dsimp only <;> omega) | exact ⟨by omega, by omega⟩ | exact .inl ⟨by omega, by omega⟩ | exact .inr ⟨by omega, by omega⟩ | exact ⟨by decide, by decide, by decide⟩)) | (refine' dq ?hz0 ?_; (case hz0 => with_unfolding_all first | assumption | omega | (dsimp only <;> omega) | exact ⟨by omega, by omega⟩ | exact .inl ⟨by omega, by omega⟩ | exact .inr ⟨by omega, by omega⟩ | exact ⟨by decide, by decide, by decide⟩)) | (refine' cu (SqL.of ?hz0) ?hz1 ?_; (case hz0 => first | assumption | exact aj); (case hz1 => with_unfolding_all rfl)) | (refine' cB ?hz0 ?hz1 ?_; (case hz0 => first | assumption | exact aj); (case hz1 => with_unfolding_all rfl)) | refine bI ?_ | refine gq ?_ | refine dF ?_ | refine bJ ?_ | refine dG ?_ | refine bK ?_ | refine oM ?_ | refine oN ?_ | (refine' Dc ?hz0 ?_; (case hz0 => with_unfolding_all rfl)) | refine dO ?_ | refine rF ?_ | refine rG ?_)))
section
variable {P:Program} {w:World} {K:PySem.W.Frag} {mg:Str→Option Value} {base:Heap}
theorem qQ:(["_law_part"]:List Str).Nodup:=by decide+kernel
theorem uX:bz bx "_law_piece":=by decide+kernel
theorem kz7p:bM bx "max":=by decide+kernel
theorem Qt:bz bx "_law_some":=by decide+kernel
theorem kz7r:bM bx "_law_is_kind":=by decide+kernel
theorem kz7s:bM bx "_law_is":=by decide+kernel
theorem YC:bz bx "_law_top":=by decide+kernel
theorem YD:bz bx "_law_side":=by decide+kernel
theorem kz7v:bM bx "balanced":=by decide+kernel
def Vk (K:PySem.W.Frag) (mg:Str→Option Value):Sp:=fun vs H Q _=>∃ (side top:Str),vs=[.str side,.str top]∧Row side∧Row top∧∀ H',Same H H'→Q (.bl true) H'
theorem kZ:aC ["_law_side","_law_top","_law_piece","_law_some"] ["_law_side","_law_top"] (aq bx):=⟨rfl,rfl,rfl,by decide+kernel,rfl,by decide+kernel,by decide+kernel⟩
theorem iC (T:Txt K mg):Has P w K mg base 19 "_law_balanced" ["_law_side","_law_top"] (Vk K mg):=by
 have qj:=qj (P:=P) (w:=w) (base:=base) T
 have jE:=jE (P:=P) (w:=w) (base:=base) T
 have dM:=dM (P:=P) (w:=w) (base:=base) T
 have aZ:=aZ (P:=P) (w:=w) (base:=base) T
 have cz:=cz (P:=P) (w:=w) (base:=base) T
 have d8:=d8 (P:=P) (w:=w) (base:=base) T
 refine gr T.d_law_balanced kZ (fun _ _ _ _ _ _ us hl=>L2.ou (fun _ _=>rfl) us hl) ?_ fun f cdv A outer s H vs Q E hr h=>?_
 ·rintro vs H Q E ⟨side,top,rfl,_⟩;rfl
 obtain ⟨side,top,rfl,rs,rt,q⟩:=h
 have hu:=hr.units0
 have hu64:=hr.units
 refine ⟨_,(az (aP (i:=2) kZ.nd rfl (Or.inl uX) (aF qj (hr.mono (by decide)) (aU kz7v) (aa (ao 0 YD) (aa (ao 1 YC) ak)) (by decide+kernel)) rfl) (az (cP (km (lJ (dY (dZ (aF jE (hr.mono (by decide)) (aU kz7s) (aa (ao 2 uX) (aa (gA (aa (ao 0 YD) (aa (ao 1 YC) ak))) (aa (aL (mg:=mg) rfl (ao 2 uX) T.os_Piece dM (hr.mono (by decide)) (fu fun _ _=>rfl)) (aa (aL (mg:=mg) rfl (ao 2 uX) T.os_Piece aZ (hr.mono (by decide)) (fu fun _ _=>rfl)) ak)))) (by decide+kernel)))) (je (dY (Ja Ck Ck aH (aL (mg:=mg) rfl (ao 2 uX) T.os_Piece aZ (hr.mono (by decide)) (fu fun _ _=>rfl)) aH))))) (aA (aK m6)) bB) (az (aP (i:=3) kZ.nd rfl (Or.inl Qt) (aL (mg:=mg) rfl (ao 2 uX) T.os_Piece cz (hr.mono (by decide)) (fu fun _ _=>rfl)) rfl) (az (cP (km (lJ (dY (dZ (aF d8 (hr.mono (by decide)) (aU kz7r) (aa (ao 2 uX) ak) (by decide+kernel)))) (je (bR (rE (K:=K) rfl hu64) (ao 3 Qt) (aL (mg:=mg) rfl (ao 2 uX) T.os_Piece cz (hr.mono (by decide)) (fu fun _ _=>rfl)) (by first | exact aV _ | with_unfolding_all rfl))))) (aA (aK m6)) bB) (az (cP (bR (nG (K:=K) rfl hu64) (ao 3 Qt) (gA ak) (by first | exact aV _ | with_unfolding_all rfl)) (aA (aK (sr (mL (nG (K:=K) rfl hu64) (aL (mg:=mg) rfl (ao 2 uX) T.os_Piece aZ (hr.mono (by decide)) (fu fun _ _=>rfl)) aH (by first | exact aV _ | with_unfolding_all rfl)) (rZ (mL (Ju (K:=K) rfl hu64) (aL (mg:=mg) rfl (ao 2 uX) T.os_Piece dM (hr.mono (by decide)) (fu fun _ _=>rfl)) (gA (aa gC (aa gC ak))) (by first | exact aV _ | with_unfolding_all rfl)))))) bB) (aA (aK (mL (nG (K:=K) rfl hu64) (aL (mg:=mg) rfl (ao 2 uX) T.os_Piece aZ (hr.mono (by decide)) (fu fun _ _=>rfl)) (bN aW aH (aG (Fl rfl) (aU kz7p) T.b_max Ih (aa (lK (sub:=[none]) (gO (N:=["_law_side","_law_top","_law_piece","_law_some"]) (sc:=aq bx) (N':=["_law_part"]) (by decide+kernel)) rfl rfl rfl (jf (K:=K) rfl (ao 3 Qt)) (fun C s₀ H₀ ex=>(tD 0 (by decide+kernel) qQ)) (fun C s₀ H₀ ex=>jB) (fun C s₀ H₀ ex=>(aL (mg:=mg) rfl (mK 0 (by decide+kernel)) T.os_Piece aZ (hr.mono (by decide)) (fu fun _ _=>rfl)))) ak) (by decide+kernel) (by decide+kernel))) (by first | exact aV _ | with_unfolding_all rfl))))))))),?_⟩
 walk_at "sts"
 have hz:20000≤sizeLine:=by decide
 refine ⟨side,top,rfl,rs,rt,fun x h H1 S1 h12 g1=>?_⟩
 walk_at "sts"
 obtain ⟨y,k,ps,hs,pg,tk,hps,hho,hkd⟩:=g1.g
 refine dR rfl fun r H2 n2 S2 h2=>?_
 walk_at "sts"
 have p2:=pg.same S2
 obtain ⟨hy,dx,al,ap,hx,_,_⟩:=id p2.pc
 refine ⟨x,_,dx,_,rfl,hy,hx,rfl,?_⟩
 walk_at "sts"
 refine ⟨x,_,_,_,_,_,_,_,rfl,p2.pc,?_⟩
 walk_at "sts"
 refine ⟨x,_,dx,_,rfl,hy,hx,rfl,?_⟩
 walk_at "sts"
 refine ⟨x,_,_,_,_,_,_,_,rfl,p2.pc,?_⟩
 walk_at "sts"
 refine ⟨x,r,_,_,_,_,_,h,rfl,p2,h2,fun H3 S3=>?_⟩
 walk_at "sts"
 have p3:=p2.same S3
 refine ⟨x,_,dx,_,rfl,hy,S3 _ _ hx,rfl,?_⟩
 walk_at "sts"
 refine ⟨x,_,_,_,_,_,_,_,rfl,p3.pc,?_⟩
 walk_at "sts"
 rw [decide_eq_true (show (0:Int)≤(h:Int) by omega)]
 walk_at "sts"
 rw [decide_eq_true (show (h:Int)≤12 by omega)]
 walk_at "sts"
 refine ⟨x,_,dx,_,rfl,hy,S3 _ _ hx,rfl,?_⟩
 walk_at "sts"
 refine ⟨x,_,_,_,_,_,_,_,rfl,p3.pc,fun f4 H4 n4 S4 h4=>?_⟩
 walk_at "sts"
 have p4:=p3.same S4
 refine ⟨x,_,_,_,_,_,_,rfl,p4,tk,fun H5 S5=>?_⟩
 walk_at "sts"
 have p5:=p4.same S5
 have h45:=S5 _ _ h4
 refine ⟨x,_,dx,_,rfl,hy,(S3.trans (S4.trans S5)) _ _ hx,rfl,?_⟩
 walk_at "sts"
 refine ⟨x,_,_,_,_,_,_,_,rfl,p5.pc,fun f6 H6 n6 S6 h6=>?_⟩
 walk_at "sts"
 refine Bp (S6 _ _ h45) h6 (fun v hv=>?_) ?_
 walk_at "sts"
 ·obtain ⟨i,hi⟩:=List.mem_iff_getElem?.mp hv
  have hil:i < hs.length:=by rw [← hps.1];exact (List.getElem?_eq_some_iff.mp hi).1
  obtain ⟨z,_,_,_,_,_,_,rfl,_⟩:=hps.2 i v _ hi (List.getElem?_eq_getElem hil)
  exact .inr ⟨z,rfl⟩
 have U6:=S2.trans (S3.trans (S4.trans (S5.trans S6)))
 have p6:=p5.same S6
 have h46:=S6 _ _ h45
 try walk_at "sts"
 refine dR rfl fun f7 H7 n7 S7 h7=>?_
 walk_at "sts"
 have p7:=p6.same S7
 have U7:=U6.trans S7
 have hx7:=(S3.trans (S4.trans (S5.trans (S6.trans S7)))) _ _ hx
 rcases hkd with ⟨rfl,hk⟩ | hk
 ·have e0:hs=[]:=List.eq_nil_of_length_eq_zero (by rw [← hps.1];rfl)
  subst e0
  obtain rfl:=BK hho
  refine xF (S7 _ _ h46) h7 (fun v hv=>by cases hv) ?_
  walk_at "sts"
  refine ⟨x,_,dx,_,rfl,hy,hx7,rfl,?_⟩
  walk_at "sts"
  refine ⟨x,_,_,_,_,_,_,_,rfl,p7.pc,?_⟩
  walk_at "sts"
  rw [decide_eq_true (show V.int ((0:Nat):Int)=V.int 0 from rfl)]
  walk_at "sts"
  refine ⟨x,_,dx,_,rfl,hy,hx7,rfl,?_⟩
  walk_at "sts"
  refine ⟨x,_,_,_,_,_,_,_,rfl,p7.pc,?_⟩
  walk_at "sts"
  refine dR rfl fun f8 H8 n8 S8 h8=>?_
  walk_at "sts"
  refine .inl (.inr ⟨f8,_,rfl,.inl (SqL.of h8),rfl,rfl,?_⟩)
  have e:(if false=true then !inV (.str k) [.str (Str.ofString "blank"),.str (Str.ofString "one")] else inV (.str k) [.str (Str.ofString "blank"),.str (Str.ofString "one")])=true:=by
   rcases hk with rfl | rfl <;> decide+kernel
  rw [e]
  exact q H8 (S1.trans (U7.trans S8))
 ·have hsl:hs.length=2:=by rw [← hps.1];exact hk
  refine TY (S7 _ _ h46) h7 (by rw [hk];simp) ?_
  walk_at "sts"
  refine ⟨x,_,dx,_,rfl,hy,hx7,rfl,?_⟩
  walk_at "sts"
  refine ⟨x,_,_,_,_,_,_,_,rfl,p7.pc,?_⟩
  walk_at "sts"
  have h47:=S7 _ _ h46
  have hps7:=hps.same U7
  refine .inl ⟨f4,rfl,⟨_,SqL.of h47⟩,?_⟩
  refine jX (xs:=ps) (fun i zs G=>G=H7∧zs=(nI (hs.take i)).map V.int) (by omega) ⟨rfl,rfl⟩ ?_ ?_ ?_ ?_
  ·rintro i zs G ⟨_,rfl⟩
   rw [bV,List.length_take];omega
  ·rintro i zs G ⟨rfl,_⟩
   exact SqL.of h47
  ·rintro i zs G v hv ⟨rfl,rfl⟩
   have hi:i < hs.length:=by rw [← hps.1];exact (List.getElem?_eq_some_iff.mp hv).1
   obtain ⟨hh,eh⟩:∃ hh,hs[i]?=some hh:=⟨_,List.getElem?_eq_getElem hi⟩
   obtain ⟨z,y',s',t',k',L',qs,rfl,hP⟩:=hps7.2 i v hh hv eh
   obtain ⟨hy',ex,al',ap',h1,_,_⟩:=id hP
   walk_at "sts"
   refine ⟨KeepSt.set rfl,?_⟩
   walk_at "sts"
   refine ⟨z,y',ex,_,rfl,hy',h1,rfl,?_⟩
   walk_at "sts"
   refine ⟨z,y',s',t',k',L',qs,hh,rfl,hP,?_⟩
   walk_at "sts"
   refine ⟨rfl,?_⟩
   rw [List.take_add_one,eh,tW]
   rfl
  rintro zs G D H8 ⟨rfl,rfl⟩ nD S8 hD
  rw [hps.1,List.take_length] at hD
  try walk_at "sts"
  refine Tv hD (by intro z;have:=congrArg List.length z;unfold nI at this;rw [List.length_map,hsl] at this;cases this) fun M hM hmx=>?_
  walk_at "sts"
  have eM:V.int (h:Int)=V.int (1+M):=by
   unfold nI at hM hmx
   obtain ⟨m,hm,rfl⟩:=List.mem_map.mp hM
   rcases hho with ⟨e,_⟩ | ⟨⟨b,hb,e⟩,hle⟩
   ·rw [e] at hsl;cases hsl
   ·have h1:=hmx _ (List.mem_map.mpr ⟨b,hb,rfl⟩)
    have h2:=hle m hm
    congr 1;omega
  rw [decide_eq_true eM]
  exact q H8 (S1.trans (U7.trans S8))
end
local macro_rules | `(tactic| walk_at "sts") => `(tactic| (with_reducible repeat (first | refine jL ?_ | refine jA ?_ | refine jy ?_ | refine gk ?_ | refine gn ?_ | (refine' fZ ?hz0 ?_; (case hz0 => with_unfolding_all rfl)) | refine qR ?_ | refine jQ ?_ | refine dm ?_ | refine cX ?_ | refine f9 ?_ | refine lH ?_ | refine fP ?_ | refine cR ?_ | refine fU ?_ | refine cQ ?_ | refine jH ?_ | refine cU ?_ | refine jR ?_ | refine jN ?_ | refine cY ?_ | refine jJ ?_ | refine fV ?_ | refine fW ?_ | refine jK ?_ | refine cV ?_ | refine fX ?_ | refine cW ?_ | refine fY ?_ | refine fQ ?_ | refine cT ?_ | refine jM ?_ | refine eY ?_ | refine eV ?_ | refine jO ?_ | refine jP ?_ | refine gb ?_ | refine cZ ?_ | refine c7 ?_ | refine dg ?_ | refine dh ?_ | refine di ?_ | refine dj ?_ | refine gf ?_ | refine qU ?_ | refine bF ?_ | refine dz ?_ | (refine' b7 (SqT.of ?hz0) ?hz1 ?_; (case hz0 => first | assumption | exact aj); (case hz1 => rfl)) | refine bH ?_ | refine dB ?_ | refine dD ?_ | refine cI ?_ | refine cJ ?_ | refine cL ?_ | refine cM ?_ | refine jT ?_ | refine cC ?_ | refine cF ?_ | refine cG ?_ | refine cH ?_ | refine bG ?_ | refine gj ?_ | refine dw ?_ | (refine' qT ?hz0 ?_; (case hz0 => with_unfolding_all first | assumption | omega | (dsimp only <;> omega) | exact ⟨by omega, by omega⟩ | exact .inl ⟨by omega, by omega⟩ | exact .inr ⟨by omega, by omega⟩ | exact ⟨by decide, by decide, by decide⟩)) | (refine' dq ?hz0 ?_; (case hz0 => with_unfolding_all first | assumption | omega | (dsimp only <;> omega) | exact ⟨by omega, by omega⟩ | exact .inl ⟨by omega, by omega⟩ | exact .inr ⟨by omega, by omega⟩ | exact ⟨by decide, by decide, by decide⟩)) | (refine' cu (SqL.of ?hz0) ?hz1 ?_; (case hz0 => first | assumption | exact aj); (case hz1 => with_unfolding_all rfl)) | (refine' cB ?hz0 ?hz1 ?_; (case hz0 => first | assumption | exact aj); (case hz1 => with_unfolding_all rfl)) | refine bI ?_ | refine gq ?_ | refine dF ?_ | refine bJ ?_ | refine dG ?_ | refine bK ?_ | refine oM ?_ | refine oN ?_ | refine dO ?_)))
local macro_rules | `(tactic| walk_at "stn") => `(tactic| (with_reducible repeat (first | refine jL ?_ | refine jA ?_ | refine jy ?_ | refine gk ?_ | refine gn ?_ | (refine' fZ ?hz0 ?_; (case hz0 => with_unfolding_all rfl)) | refine qR ?_ | refine jQ ?_ | refine dm ?_ | refine cX ?_ | refine f9 ?_ | refine fP ?_ | refine cR ?_ | refine fU ?_ | refine cQ ?_ | refine jH ?_ | refine cU ?_ | refine jR ?_ | refine jN ?_ | refine cY ?_ | refine jJ ?_ | refine fV ?_ | refine fW ?_ | refine jK ?_ | refine cV ?_ | refine fX ?_ | refine cW ?_ | refine fY ?_ | refine fQ ?_ | refine cT ?_ | refine jM ?_ | refine eY ?_ | refine eV ?_ | refine jO ?_ | refine jP ?_ | refine gb ?_ | refine cZ ?_ | refine c7 ?_ | refine dg ?_ | refine dh ?_ | refine di ?_ | refine dj ?_ | refine gf ?_ | refine qU ?_ | refine bF ?_ | refine dz ?_ | (refine' b7 (SqT.of ?hz0) ?hz1 ?_; (case hz0 => first | assumption | exact aj); (case hz1 => rfl)) | refine bH ?_ | refine dB ?_ | refine dD ?_ | refine cI ?_ | refine cJ ?_ | refine cL ?_ | refine cM ?_ | refine jT ?_ | refine cC ?_ | refine cF ?_ | refine cG ?_ | refine cH ?_ | refine bG ?_ | refine gj ?_ | refine dw ?_ | (refine' qT ?hz0 ?_; (case hz0 => with_unfolding_all first | assumption | omega | (dsimp only <;> omega) | exact ⟨by omega, by omega⟩ | exact .inl ⟨by omega, by omega⟩ | exact .inr ⟨by omega, by omega⟩ | exact ⟨by decide, by decide, by decide⟩)) | (refine' dq ?hz0 ?_; (case hz0 => with_unfolding_all first | assumption | omega | (dsimp only <;> omega) | exact ⟨by omega, by omega⟩ | exact .inl ⟨by omega, by omega⟩ | exact .inr ⟨by omega, by omega⟩ | exact ⟨by decide, by decide, by decide⟩)) | (refine' cu (SqL.of ?hz0) ?hz1 ?_; (case hz0 => first | assumption | exact aj); (case hz1 => with_unfolding_all rfl)) | (refine' cB ?hz0 ?hz1 ?_; (case hz0 => first | assumption | exact aj); (case hz1 => with_unfolding_all rfl)) | refine bI ?_ | refine gq ?_ | refine dF ?_ | refine bJ ?_ | refine dG ?_ | refine bK ?_ | refine oM ?_ | refine oN ?_ | refine dO ?_)))
section
variable {P:Program} {w:World} {K:PySem.W.Frag} {mg:Str→Option Value} {base:Heap}
theorem kz7w:bM iJ "range":=by decide+kernel
theorem kz7x:bM iJ "max":=by decide+kernel
theorem kz7y:bM iJ "min":=by decide+kernel
theorem kz7z:bM iJ "len":=by decide+kernel
theorem Qu:bz iJ "_law_script":=by decide+kernel
theorem K8:bz iJ "_law_k":=by decide+kernel
theorem Vl:bM iJ "_law_balanced":=by decide+kernel
theorem Gu:bz iJ "_law_top":=by decide+kernel
theorem K9:bz iJ "_law_side":=by decide+kernel
theorem YF:bM iJ "_law_strip":=by decide+kernel
theorem YG:bz iJ "_law_letter":=by decide+kernel
theorem YH:bM iJ "_law_text":=by decide+kernel
theorem Vm:bz iJ "_law_base_here":=by decide+kernel
theorem Vn:bz iJ "_law_most":=by decide+kernel
theorem Vo:bM iJ "_law_cell":=by decide+kernel
theorem kz8b:bM iJ "_law_base":=by decide+kernel
theorem kz8c:bM iJ "int":=by decide+kernel
theorem YJ (n:Nat):∃ j:Nat,(if (if (n:Int) < 24 then (n:Int) else 24) > 4 then (if (n:Int) < 24 then (n:Int) else 24) else 4)=(j:Int)∧j≤24:=by
 by_cases h:(n:Int) < 24
 ·rw [if_pos h]
  by_cases h2:(n:Int) > 4
  ·rw [if_pos h2];exact ⟨n,rfl,by omega⟩
  ·rw [if_neg h2];exact ⟨4,rfl,by omega⟩
 ·rw [if_neg h,if_pos (by decide)];exact ⟨24,rfl,by omega⟩
def Q5 (K:PySem.W.Frag):Sp:=fun vs H Q _=>∃ (a:Addr) (ns:List Int),vs=[.ref a]∧SqL K H a (ns.map V.int)∧ns.length≤63∧∀ H',Q (.bl true) H'
theorem ql:aC ["_law_script","_law_k","_law_most","_law_base_here","_law_side","_law_top","_law_letter"] ["_law_script"] (aq iJ):=⟨rfl,rfl,rfl,by decide+kernel,rfl,by decide+kernel,by decide+kernel⟩
theorem Vp (T:Txt K mg) {f0:Addr} {fd0:FuncData} (F0:Fun K "law" "law" iJ f0 fd0):FnOk P w K mg base Av 20 f0 fd0 ["_law_script"] (Q5 K):=by
 have qi:=qi (P:=P) (w:=w) (base:=base) T
 have nU:=nU (P:=P) (w:=w) (base:=base) T
 have lR:=lR (P:=P) (w:=w) (base:=base) T
 have iC:=iC (P:=P) (w:=w) (base:=base) T
 have mC:=mC (P:=P) (w:=w) (base:=base) T
 refine okJ F0 ql ?_ fun f cdv A outer s H vs Q E hr h=>?_
 ·rintro vs H Q E ⟨a,ns,rfl,_⟩;rfl
 obtain ⟨a,ns,rfl,hS,hlen,q⟩:=h
 have hu:=hr.units0
 have hu64:=hr.units
 refine ⟨_,(az (jC PassesOwn.never rfl (v4 (aU kz7w) T.b_range (aa aH (aa (aG (vG rfl) (aU kz7x) T.b_max Ih (aa aH (aa (aG (vH rfl) (aU kz7y) T.b_min Ii (aa aH (aa (aG (aJ (K:=K) rfl) (aU kz7z) T.b_len bC (aa (ao 0 Qu) ak) (by decide+kernel) (by decide+kernel)) ak)) (by decide+kernel) (by decide+kernel)) ak)) (by decide+kernel) (by decide+kernel)) (aa aH ak)))) (dJ (i:=1) ql.nd rfl (Or.inl K8) rfl) (az (aP (i:=2) ql.nd rfl (Or.inl Vn) (jV (K:=K) rfl (gA (aa aH (aa aH ak))) (oH Ea (aU kz8c) T.b_int Ba (aa (mL (nG (K:=K) rfl hu64) (ao 1 K8) aH (by first | exact aV _ | with_unfolding_all rfl)) ak) (by decide+kernel) (by decide+kernel))) rfl) (az (aP (i:=3) ql.nd rfl (Or.inl Vm) (aF qi (hr.mono (by decide)) (aU kz8b) (aa (aF lR (hr.mono (by decide)) (aU Vo) (aa (ao 0 Qu) (aa (ao 1 K8) ak)) (by decide+kernel)) ak) (by decide+kernel)) rfl) (az (aP (i:=4) ql.nd rfl (Or.inl K9) (aF nU (hr.mono (by decide)) (aU YH) (aa (aF lR (hr.mono (by decide)) (aU Vo) (aa (ao 0 Qu) (aa (ao 1 K8) ak)) (by decide+kernel)) (aa (ao 2 Vn) (aa (ao 3 Vm) ak))) (by decide+kernel)) rfl) (az (aP (i:=5) ql.nd rfl (Or.inl Gu) (aF nU (hr.mono (by decide)) (aU YH) (aa (aF lR (hr.mono (by decide)) (aU Vo) (aa (ao 0 Qu) (aa (bN aW (ao 1 K8) aH) ak)) (by decide+kernel)) (aa (ao 2 Vn) (aa (ao 3 Vm) ak))) (by decide+kernel)) rfl) (az (cP (km (lJ (dY (dZ (aF iC (hr.mono (by decide)) (aU Vl) (aa (ao 4 K9) (aa (ao 5 Gu) ak)) (by decide+kernel)))) (je (dY (dZ (aF iC (hr.mono (by decide)) (aU Vl) (aa (ao 5 Gu) (aa (ao 4 K9) ak)) (by decide+kernel))))))) (aA (aK m6)) bB) (az (jC PassesOwn.never rfl (jf (K:=K) rfl (ni (mY (K:=K) rfl) (ao 4 K9) m7 (m9 aH))) (dJ (i:=6) ql.nd rfl (Or.inl YG) rfl) (aA (cP (dY (dZ (aF mC (hr.mono (by decide)) (aU YF) (aa (ao 6 YG) (aa (ao 5 Gu) ak)) (by decide+kernel)))) (aA (aK m6)) bB))) (aA (cP (km (lJ (dY (dZ (aF mC (hr.mono (by decide)) (aU YF) (aa gC (aa (ao 5 Gu) ak)) (by decide+kernel)))) (je (dY (dZ (aF iC (hr.mono (by decide)) (aU Vl) (aa (ao 4 K9) (aa (ao 5 Gu) ak)) (by decide+kernel))))))) (aA (aK m6)) bB))))))))) (aA (aK m6))),?_⟩
 walk_at "sts"
 have hs:20000≤sizeLine:=by decide
 refine gU hS ?_
 walk_at "sts"
 rw [List.length_map]
 obtain ⟨j,ej,hj⟩:=YJ ns.length
 rw [ej]
 refine ⟨0,(j:Int),2,(j+1) / 2,rfl,by decide,PyProof.noPylong_small (by decide),Fg (by omega) (by omega),Js,?_⟩
 refine yX (fun i σ H'=>∃ (x1 x2 x3 x4 x5 x6:Option V),σ=[some (.ref a),x1,x2,x3,x4,x5,x6]∧Same H H') ⟨_,_,_,_,_,_,rfl,Same.refl _⟩ ?_ ?_
 ·rintro i σ H0 hi ⟨x1,x2,x3,x4,x5,x6,rfl,s⟩
  rw [show (0+(i:Int)*2)=((2*i:Nat):Int) by omega]
  generalize ek:((2*i:Nat):Int)=k
  have hk:0≤k:=by omega
  clear ek
  walk_at "sts"
  refine dR rfl fun p1 H1 n1 S1 h1=>?_
  walk_at "sts"
  obtain ⟨m,em,hm⟩:∃ m:Nat,yz ([.int 10,.int 36]:List V) (if decide (V.int k=V.int 0)=true then 1 else 0)=some (.int m)∧m≤36:=by
   cases decide (V.int k=V.int 0)
   ·exact ⟨10,rfl,by omega⟩
   ·exact ⟨36,rfl,by omega⟩
  refine .inr ⟨_,rfl,?_⟩
  refine cu (SqL.of h1) em ?_
  walk_at "sts"
  have s1:=s.trans S1
  refine ⟨a,ns,k,rfl,yc hS s1,hk,fun c0=>?_⟩
  walk_at "sts"
  refine ⟨c0,rfl,fun b H2 S2=>?_⟩
  walk_at "sts"
  have s2:=s1.trans S2
  refine ⟨a,ns,k,rfl,yc hS s2,hk,fun c1=>?_⟩
  walk_at "sts"
  refine ⟨c1,b,m,rfl,by omega,fun side H3 S3 rs ls=>?_⟩
  walk_at "sts"
  have s3:=s2.trans S3
  refine ⟨a,ns,k+1,rfl,yc hS s3,by omega,fun c2=>?_⟩
  walk_at "sts"
  refine ⟨c2,b,m,rfl,by omega,fun top H4 S4 rt lt=>?_⟩
  walk_at "sts"
  have s4:=s3.trans S4
  refine ⟨side,top,rfl,rs,rt,fun H5 S5=>?_⟩
  walk_at "sts"
  refine ⟨top,side,rfl,rt,rs,fun H6 S6=>?_⟩
  walk_at "sts"
  have s6:=s4.trans (S5.trans S6)
  refine Io (by omega) ?_
  walk_at "sts"
  have ec:=yZ side 2
  generalize hz2:Txt.slice side none (some ((2:Nat):Int))=z at ec
  refine .inr (.inr ⟨z,rfl,?_⟩)
  refine w5 (fun i σ G=>∃ x6,σ=[some (.ref a),some (.int k),some (.int m),some (.int b),some (.str side),some (.str top),x6]∧Same H G) ⟨_,rfl,s6⟩ ?_ ?_
  ·rintro i σ G c hc ⟨x6,rfl,sG⟩
   have hcm:c∈side.cps.toList:=by
    have:=List.mem_of_getElem? hc
    rw [ec] at this
    exact List.mem_of_mem_take this
   walk_at "sts"
   refine ⟨c,top,rfl,rs.2 c hcm,rt,fun J T1=>?_⟩
   walk_at "sts"
   exact ⟨_,rfl,sG.trans T1⟩
  ·rintro σ G ⟨x6,rfl,sG⟩
   walk_at "sts"
   refine ⟨46,top,rfl,by decide+kernel,rt,fun J T1=>?_⟩
   walk_at "sts"
   refine ⟨side,top,rfl,rs,rt,fun J2 T2=>?_⟩
   walk_at "sts"
   exact ⟨_,_,_,_,_,_,rfl,sG.trans (T1.trans T2)⟩
 ·rintro σ H0 ⟨x1,x2,x3,x4,x5,x6,rfl,s⟩
  walk_at "sts"
  exact q H0
end
end My
def PySem.W.Fast.tw11890150742580093030:Nat:=0
def PySem.W.Fast.tw2059827344712318268:Nat:=0
def PySem.W.Fast.tw10276396471764343941:Nat:=0
def PySem.W.Fast.tw16815756247561051316:Nat:=0
def PySem.W.Fast.tw18212591925967854032:Nat:=0
def PySem.W.Fast.tw6978394109487335544:Nat:=0
def PySem.W.Fast.tw3648226918211040218:Nat:=0
def PySem.W.Fast.tw8690959248854879884:Nat:=0
def PySem.W.Fast.tw10378032451794356607:Nat:=0
def PySem.W.Fast.tw3990156432728717611:Nat:=0
def PySem.W.Fast.tw2044486062643397665:Nat:=0
def PySem.W.Fast.tw12724687232909983941:Nat:=0
def PySem.W.Fast.tw15978739301577408847:Nat:=0
def PySem.W.Fast.tw13449429292888368806:Nat:=0
def PySem.W.Fast.tw14211165193964373377:Nat:=0
def PySem.W.Fast.tw7451839620754321060:Nat:=0
def PySem.W.Fast.tw6153264243712671318:Nat:=0
def PySem.W.Fast.tw4601808670062307013:Nat:=0
def PySem.W.Fast.tw8113543419889754222:Nat:=0
def PySem.W.Fast.tw16895308085905706002:Nat:=0
def PySem.W.Fast.tw4528691388900633582:Nat:=0
def PySem.W.Fast.tw7599435623272399425:Nat:=0
def PySem.W.Fast.tw5552804134368828312:Nat:=0
def PySem.W.Fast.tw1465102385647347371:Nat:=0
def PySem.W.Fast.tw12710824062828013663:Nat:=0
def PySem.W.Fast.tw7127398974266932645:Nat:=0
def PySem.W.Fast.tw16538557976718803987:Nat:=0
def PySem.W.Fast.tw4615670448729819:Nat:=0
def PySem.W.Fast.tw10078996887011345632:Nat:=0
def PySem.W.Fast.tw16328600989773487064:Nat:=0
def PySem.W.Fast.tw8708534768350367235:Nat:=0
def PySem.W.Fast.tw16874409972558119009:Nat:=0
def PySem.W.Fast.tw14347770987793221942:Nat:=0
def PySem.W.Fast.tw5181995728050300513:Nat:=0
def PySem.W.Fast.tw13748891520352690723:Nat:=0
def PySem.W.Fast.tw16468542398451366345:Nat:=0
def PySem.W.Fast.tw12500995886525711299:Nat:=0
def PySem.W.Fast.tw11990738673831765329:Nat:=0
def PySem.W.Fast.tw16543449698538732792:Nat:=0
def PySem.W.Fast.tw5074845346141080389:Nat:=0
def PySem.W.Fast.tw11232151301730738262:Nat:=0
def PySem.W.Fast.tw11404968823869568784:Nat:=0
def PySem.W.Fast.tw16579744387924664832:Nat:=0
def PySem.W.Fast.tw1404073474916836862:Nat:=0
def PySem.W.Fast.tw7928908354695937473:Nat:=0
def PySem.W.Fast.tw9906901506458066198:Nat:=0
def PySem.W.Fast.tw16151537822294311990:Nat:=0
def PySem.W.Fast.tw7581410243508814579:Nat:=0
def PySem.W.Fast.tw13836709846458904376:Nat:=0
def PySem.W.Fast.tw1725600163666282627:Nat:=0
def PySem.W.Fast.tw16211192427312699964:Nat:=0
def PySem.W.Fast.tw3151427567013392414:Nat:=0
def PySem.W.Fast.tw13882896421894842986:Nat:=0
def PySem.W.Fast.tw5928868894129207339:Nat:=0
def PySem.W.Fast.tw615337168526851888:Nat:=0
def PySem.W.Fast.tw10530786727801912597:Nat:=0
def PySem.W.Fast.tw14515839992219623941:Nat:=0
def PySem.W.Fast.tw13131438159483237589:Nat:=0
def PySem.W.Fast.tw1491686663238429476:Nat:=0
def PySem.W.Fast.tw1244553719132843902:Nat:=0
def PySem.W.Fast.tw6164097997728516350:Nat:=0
def PySem.W.Fast.tw14313056788719651155:Nat:=0
def PySem.W.Fast.tw11907847330228058541:Nat:=0
def PySem.W.Fast.tw6298921716804070616:Nat:=0
def PySem.W.Fast.tw6111519452601057781:Nat:=0
def PySem.W.Fast.tw16901083874076802922:Nat:=0
def PySem.W.Fast.tw16778297320366224335:Nat:=0
def PySem.W.Fast.tw2231831900314072908:Nat:=0
def PySem.W.Fast.tw2801886374612355237:Nat:=0
def PySem.W.Fast.tw13321833036874055858:Nat:=0
def PySem.W.Fast.tw2760681819332905841:Nat:=0
def PySem.W.Fast.tw5402199393187422534:Nat:=0
def PySem.W.Fast.tw11440232653169580041:Nat:=0
def PySem.W.Fast.tw18280564021954054020:Nat:=0
def PySem.W.Fast.tw12804846178336181636:Nat:=0
def PySem.W.Fast.tw1852230125870180841:Nat:=0
def PySem.W.Fast.tw7478196041540826084:Nat:=0
def PySem.W.Fast.tw1849392725487284075:Nat:=0
def PySem.W.Fast.tw18421705775688720857:Nat:=0
def PySem.W.Fast.tw4295180866513485958:Nat:=0
def PySem.W.Fast.tw12109047470126468897:Nat:=0
def PySem.W.Fast.tw1035622906763990272:Nat:=0
def PySem.W.Fast.tw8491131270807033810:Nat:=0
def PySem.W.Fast.tw1382604303104746968:Nat:=0
def PySem.W.Fast.tw9767454507116967661:Nat:=0
def PySem.W.Fast.tw6034679376741825635:Nat:=0
def PySem.W.Fast.tw1315796784689674988:Nat:=0
def PySem.W.Fast.tw156853315818577994:Nat:=0
def PySem.W.Fast.tw9313238153437250223:Nat:=0
def PySem.W.Fast.tw497775957934653752:Nat:=0
def PySem.W.Fast.tw5883587102213647827:Nat:=0
def PySem.W.Fast.tw5170372682901513516:Nat:=0
def PySem.W.Fast.tw12014103835687562166:Nat:=0
def PySem.W.Fast.tw4722654328853384600:Nat:=0
def PySem.W.Fast.tw7638956479134147850:Nat:=0
def PySem.W.Fast.tw15735293563226228745:Nat:=0
def PySem.W.Fast.tw5373395880685433368:Nat:=0
def PySem.W.Fast.tw10101403534383291187:Nat:=0
def PySem.W.Fast.tw3798587138896870543:Nat:=0
def PySem.W.Fast.tw7804158920419801391:Nat:=0
def PySem.W.Fast.tw6113648797806991583:Nat:=0
def PySem.W.Fast.tw6928811203934160930:Nat:=0
def PySem.W.Fast.tw9880087919903511042:Nat:=0
def PySem.W.Fast.tw14968139139154962586:Nat:=0
def PySem.W.Fast.tw5731428439575549654:Nat:=0
def PySem.W.Fast.tw13184431992897027973:Nat:=0
def PySem.W.Fast.tw15122990890345458495:Nat:=0
def PySem.W.Fast.tw4021170745041469877:Nat:=0
def PySem.W.Fast.tw10360934889973650164:Nat:=0
def PySem.W.Fast.tw5300040644876409684:Nat:=0
def PySem.W.Fast.tw10899205118443221454:Nat:=0
def PySem.W.Fast.tw10523742553629171606:Nat:=0
def PySem.W.Fast.tw17729125770313053393:Nat:=0
def PySem.W.Fast.tw15320385382159587840:Nat:=0
def PySem.W.Fast.tw6506745160555994808:Nat:=0
def PySem.W.Fast.tw15723341369354090225:Nat:=0
def PySem.W.Fast.tw14680234908236709192:Nat:=0
def PySem.W.Fast.tw2226885972015140526:Nat:=0
def PySem.W.Fast.tw15445284392811509571:Nat:=0
def PySem.W.Fast.tw7708343145170765370:Nat:=0
def PySem.W.Fast.tw15687181226650360185:Nat:=0
def PySem.W.Fast.tw7464579595954753981:Nat:=0
def PySem.W.Fast.tw2725219528512475592:Nat:=0
def PySem.W.Fast.tw2739557078842451049:Nat:=0
def PySem.W.Fast.tw4934733808296957051:Nat:=0
def PySem.W.Fast.tw11043165418666105974:Nat:=0
def PySem.W.Fast.tw9465678232935518706:Nat:=0
def PySem.W.Fast.tw2933102272958204995:Nat:=0
def PySem.W.Fast.tw12913836641107471694:Nat:=0
def PySem.W.Fast.tw10940432935788463471:Nat:=0
def PySem.W.Fast.tw9902167157828616829:Nat:=0
def PySem.W.Fast.tw6309575043469191269:Nat:=0
def PySem.W.Fast.tw1424859977435709018:Nat:=0
def PySem.W.Fast.tw14389020128186784056:Nat:=0
def PySem.W.Fast.tw1938175746810186443:Nat:=0
def PySem.W.Fast.tw18398050934472010971:Nat:=0
def PySem.W.Fast.tw5471842725374071277:Nat:=0
def PySem.W.Fast.tw3723616772822410268:Nat:=0
def PySem.W.Fast.tw11457135194849365385:Nat:=0
def PySem.W.Fast.tw10540881068893329094:Nat:=0
def PySem.W.Fast.tw222999306901473608:Nat:=0
def PySem.W.Fast.tw600560230481461437:Nat:=0
def PySem.W.Fast.tw1304618214085066941:Nat:=0
def PySem.W.Fast.tw5595206201104340261:Nat:=0
def PySem.W.Fast.tw5468458208325985108:Nat:=0
def PySem.W.Fast.tw14942753022311404875:Nat:=0
def PySem.W.Fast.tw9412590578442220900:Nat:=0
def PySem.W.Fast.tw14304126333738531669:Nat:=0
def PySem.W.Fast.tw2858004862263569485:Nat:=0
def PySem.W.Fast.tw11081882601027413625:Nat:=0
def PySem.W.Fast.tw18423522633585820341:Nat:=0
def PySem.W.Fast.tw11095531765538253504:Nat:=0
def PySem.W.Fast.tw17430210329799227803:Nat:=0
def PySem.W.Fast.tw15950999924356260377:Nat:=0
def PySem.W.Fast.tw4172531072774587886:Nat:=0
def PySem.W.Fast.tw11918149769916501412:Nat:=0
def PySem.W.Fast.tw5454073790269176798:Nat:=0
def PySem.W.Fast.tw9766415951349099738:Nat:=0
def PySem.W.Fast.tw11117439406969554647:Nat:=0
def PySem.W.Fast.tw6464283449175598509:Nat:=0
def PySem.W.Fast.tw7393935599569152301:Nat:=0
def PySem.W.Fast.tw13771066405480330170:Nat:=0
def PySem.W.Fast.tw6558351099070072836:Nat:=0
def PySem.W.Fast.tw8064178360769054397:Nat:=0
def PySem.W.Fast.tw17633712825903659701:Nat:=0
def PySem.W.Fast.tw5882319365561035158:Nat:=0
def PySem.W.Fast.tw7787628970698580060:Nat:=0
def PySem.W.Fast.tw15402476254591208382:Nat:=0
def PySem.W.Fast.tw11564595905523568607:Nat:=0
def PySem.W.Fast.tw2805756206964128243:Nat:=0
def PySem.W.Fast.tw997332059063252008:Nat:=0
def PySem.W.Fast.tw1585143400945853573:Nat:=0
def PySem.W.Fast.tw4975270837469727809:Nat:=0
def PySem.W.Fast.tw7442036220317055367:Nat:=0
def PySem.W.Fast.tw6792063669135733283:Nat:=0
def PySem.W.Fast.tw16627734287961593594:Nat:=0
def PySem.W.Fast.tw7218378345587026047:Nat:=0
def PySem.W.Fast.tw6984641024880994390:Nat:=0
def PySem.W.Fast.tw11223104087534870954:Nat:=0
def PySem.W.Fast.tw1323636909170811165:Nat:=0
def PySem.W.Fast.tw18424310695177640025:Nat:=0
def PySem.W.Fast.tw9646106958707140919:Nat:=0
def PySem.W.Fast.tw14318230219402226623:Nat:=0
def PySem.W.Fast.tw12745277936465229380:Nat:=0
def PySem.W.Fast.tw6706420154077593496:Nat:=0
def PySem.W.Fast.tw9361338275316327222:Nat:=0
def PySem.W.Fast.tw4899889070849855148:Nat:=0
def PySem.W.Fast.tw7821366679724841485:Nat:=0
def PySem.W.Fast.tw10058773492209288230:Nat:=0
def PySem.W.Fast.tw12906416272795138482:Nat:=0
def PySem.W.Fast.tw1570527428801640238:Nat:=0
def PySem.W.Fast.tw11351250929859667926:Nat:=0
def PySem.W.Fast.tw6864408038040599449:Nat:=0
def PySem.W.Fast.tw29795417312142525:Nat:=0
def PySem.W.Fast.tw8099550105315985525:Nat:=0
def PySem.W.Fast.tw9442140019537133949:Nat:=0
def PySem.W.Fast.tw7925744156306351833:Nat:=0
def PySem.W.Fast.tw6330716192715595368:Nat:=0
def PySem.W.Fast.tw9251881838267654284:Nat:=0
def PySem.W.Fast.tw7721239882067047565:Nat:=0
def PySem.W.Fast.tw1145839779537505288:Nat:=0
def PySem.W.Fast.tw7199609572854684038:Nat:=0
def PySem.W.Fast.tw18410596438458888215:Nat:=0
def PySem.W.Fast.tw2000164300278256947:Nat:=0
def PySem.W.Fast.tw7924371819151345924:Nat:=0
def PySem.W.Fast.tw6872630959239142197:Nat:=0
def PySem.W.Fast.tw12001427624591831989:Nat:=0
def PySem.W.Fast.tw13233264207992773746:Nat:=0
def PySem.W.Fast.tw2458213461077926644:Nat:=0
def PySem.W.Fast.tw6556190583470624426:Nat:=0
def PySem.W.Fast.tw18010334516464219551:Nat:=0
def PySem.W.Fast.tw12872385282494418245:Nat:=0
def PySem.W.Fast.tw10121146204774403890:Nat:=0
def PySem.W.Fast.tw15741008219204328735:Nat:=0
def PySem.W.Fast.tw17118300820835031890:Nat:=0
def PySem.W.Fast.tw12533390217215495769:Nat:=0
def PySem.W.Fast.tw4023123885149911850:Nat:=0
def PySem.W.Fast.tw15080471491607817464:Nat:=0
def PySem.W.Fast.tw16783095886281891091:Nat:=0
def PySem.W.Fast.tw9331468715469178218:Nat:=0
def PySem.W.Fast.tw6872817794627043468:Nat:=0
def PySem.W.Fast.tw2621221970832685135:Nat:=0
def PySem.W.Fast.tw7532191435712124568:Nat:=0
def PySem.W.Fast.tw11396498881607388287:Nat:=0
def PySem.W.Fast.tw11429837418699037980:Nat:=0
def PySem.W.Fast.tw2297650567497684838:Nat:=0
def PySem.W.Fast.tw1221266764270781451:Nat:=0
def PySem.W.Fast.tw14553469143066282147:Nat:=0
def PySem.W.Fast.tw13934552243079958527:Nat:=0
def PySem.W.Fast.tw11148353939092343707:Nat:=0
def PySem.W.Fast.tw10060723787919637805:Nat:=0
def PySem.W.Fast.tw15227010166390881559:Nat:=0
def PySem.W.Fast.tw9448440607752456812:Nat:=0
def PySem.W.Fast.tw5886541049316989404:Nat:=0
def PySem.W.Fast.tw40850447974772145:Nat:=0
def PySem.W.Fast.tw16842520332469838555:Nat:=0
def PySem.W.Fast.tw1220139268240362242:Nat:=0
def PySem.W.Fast.tw11425950889768847808:Nat:=0
def PySem.W.Fast.tw6525220314518393274:Nat:=0
def PySem.W.Fast.tw3905379500778160383:Nat:=0
def PySem.W.Fast.tw15494683937440001535:Nat:=0
def PySem.W.Fast.tw6043188231579780051:Nat:=0
def PySem.W.Fast.tw8170341226146385846:Nat:=0
def PySem.W.Fast.tw13760453061059374775:Nat:=0
def PySem.W.Fast.tw4222350997595867393:Nat:=0
def PySem.W.Fast.tw179529752402943438:Nat:=0
def PySem.W.Fast.tw3520225028297107958:Nat:=0
def PySem.W.Fast.tw6619871908272437662:Nat:=0
def PySem.W.Fast.tw6272645502591804280:Nat:=0
def PySem.W.Fast.tw12000236528678474544:Nat:=0
def PySem.W.Fast.tw4090565340545720905:Nat:=0
def PySem.W.Fast.tw11905903998713004829:Nat:=0
def PySem.W.Fast.tw17599595064848913856:Nat:=0
def PySem.W.Fast.tw17416857860008018761:Nat:=0
def PySem.W.Fast.tw13164490388881289921:Nat:=0
def PySem.W.Fast.tw16382691099981818047:Nat:=0
def PySem.W.Fast.tw18385807484638685733:Nat:=0
def PySem.W.Fast.tw15631686595556579536:Nat:=0
def PySem.W.Fast.tw9754715579764088260:Nat:=0
def PySem.W.Fast.tw6842270942872009128:Nat:=0
def PySem.W.Fast.tw4544580967047053116:Nat:=0
def PySem.W.Fast.tw10613122999114633179:Nat:=0
def PySem.W.Fast.tw11922159795403926293:Nat:=0
def PySem.W.Fast.tw5530835356328144508:Nat:=0
def PySem.W.Fast.tw18124698568771048447:Nat:=0
def PySem.W.Fast.tw11982999631341724350:Nat:=0
def PySem.W.Fast.tw2836932457208611261:Nat:=0
def PySem.W.Fast.tw2032910887259935947:Nat:=0
def PySem.W.Fast.tw16273891440660271034:Nat:=0
def PySem.W.Fast.tw2464255718703371812:Nat:=0
def PySem.W.Fast.tw11468321633974547218:Nat:=0
def PySem.W.Fast.tw11469182957133791572:Nat:=0
def PySem.W.Fast.tw1271148813392793371:Nat:=0
def PySem.W.Fast.tw1299523860638984269:Nat:=0
def PySem.W.Fast.tw17789630106920715111:Nat:=0
def PySem.W.Fast.tw8300996207571862705:Nat:=0
def PySem.W.Fast.tw10683768166900229953:Nat:=0
def PySem.W.Fast.tw16002004732608910683:Nat:=0
def PySem.W.Fast.tw9604732973543621067:Nat:=0
def PySem.W.Fast.tw8824394745174742898:Nat:=0
def PySem.W.Fast.tw12976339827729677633:Nat:=0
def PySem.W.Fast.tw3030647440164582686:Nat:=0
def PySem.W.Fast.tw15699440349857769131:Nat:=0
def PySem.W.Fast.tw3269937096217536447:Nat:=0
def PySem.W.Fast.tw16092737202473071100:Nat:=0
def PySem.W.Fast.tw7509669653537509926:Nat:=0
def PySem.W.Fast.tw2895071061387131057:Nat:=0
def PySem.W.Fast.tw10878048333803430745:Nat:=0
def PySem.W.Fast.tw2165160905383356714:Nat:=0
def PySem.W.Fast.tw1036108756884470994:Nat:=0
def PySem.W.Fast.tw11946292639034436639:Nat:=0
def PySem.W.Fast.tw6102224974216837015:Nat:=0
def PySem.W.Fast.tw3915842347892859737:Nat:=0
def PySem.W.Fast.tw13078006349181738797:Nat:=0
def PySem.W.Fast.tw17346554255098227948:Nat:=0
def PySem.W.Fast.tw14938684444706777924:Nat:=0
def PySem.W.Fast.tw16441572555581676270:Nat:=0
def PySem.W.Fast.tw2125694422203452865:Nat:=0
def PySem.W.Fast.tw18435688619858752613:Nat:=0
def PySem.W.Fast.tw7611097115479919579:Nat:=0
def PySem.W.Fast.tw13819979211164107441:Nat:=0
def PySem.W.Fast.tw7185964450564848260:Nat:=0
def PySem.W.Fast.tw9551069001195150501:Nat:=0
def PySem.W.Fast.tw4901176151060569769:Nat:=0
def PySem.W.Fast.tw1853785534849151064:Nat:=0
def PySem.W.Fast.tw14788992375536360416:Nat:=0
def PySem.W.Fast.tw7080686522597455687:Nat:=0
def PySem.W.Fast.tw11978707528784823320:Nat:=0
def PySem.W.Fast.tw5730062973052086939:Nat:=0
def PySem.W.Fast.tw53055756229990306:Nat:=0
def PySem.W.Fast.tw3134041822423704629:Nat:=0
def PySem.W.Fast.tw14064597303092053308:Nat:=0
def PySem.W.Fast.tw4391694968447228049:Nat:=0
def PySem.W.Fast.tw4835146648382692883:Nat:=0
def PySem.W.Fast.tw11058076757562462237:Nat:=0
def PySem.W.Fast.tw15822641892059806222:Nat:=0
def PySem.W.Fast.tw16128481317580504408:Nat:=0
def PySem.W.Fast.tw8977365798745457557:Nat:=0
def PySem.W.Fast.tw5773888071403822553:Nat:=0
def PySem.W.Fast.tw8776008828992418477:Nat:=0
def PySem.W.Fast.tw2877160134499429092:Nat:=0
def PySem.W.Fast.tw15003485613053766840:Nat:=0
def PySem.W.Fast.tw3639140816843362477:Nat:=0
def PySem.W.Fast.tw9026147244464953822:Nat:=0
def PySem.W.Fast.tw11811830509335611576:Nat:=0
def PySem.W.Fast.tw160314867063931176:Nat:=0
def PySem.W.Fast.tw15999343320501640973:Nat:=0
def PySem.W.Fast.tw2689874028724358028:Nat:=0
def PySem.W.Fast.tw13123361039502559348:Nat:=0
def PySem.W.Fast.tw11200631167983672193:Nat:=0
def PySem.W.Fast.tw12337041516030175461:Nat:=0
def PySem.W.Fast.tw6229297845329079998:Nat:=0
def PySem.W.Fast.tw14205711064052632121:Nat:=0
def PySem.W.Fast.tw9772192282501981438:Nat:=0
def PySem.W.Fast.tw13610512424538810775:Nat:=0
def PySem.W.Fast.tw7386511703947552744:Nat:=0
def PySem.W.Fast.tw16987840084695309928:Nat:=0
def PySem.W.Fast.tw11045448042823823425:Nat:=0
def PySem.W.Fast.tw15096727536704031938:Nat:=0
def PySem.W.Fast.tw7527592407669730613:Nat:=0
def PySem.W.Fast.tw5187028607397344011:Nat:=0
def PySem.W.Fast.tw14448872551201968733:Nat:=0
def PySem.W.Fast.tw10943933312694352281:Nat:=0
def PySem.W.Fast.tw10037146272106233023:Nat:=0
def PySem.W.Fast.tw3465036535442990114:Nat:=0
def PySem.W.Fast.tw13754140605033350242:Nat:=0
def PySem.W.Fast.tw11586057843881080299:Nat:=0
def PySem.W.Fast.tw4041868813398451279:Nat:=0
def PySem.W.Fast.tw608344575122853514:Nat:=0
def PySem.W.Fast.tw12067027400222989136:Nat:=0
def PySem.W.Fast.tw16278655966962657478:Nat:=0
def PySem.W.Fast.tw7478656680682043506:Nat:=0
def PySem.W.Fast.tw11940537499704101955:Nat:=0
def PySem.W.Fast.tw14808788719450574366:Nat:=0
def PySem.W.Fast.tw11068101281078938044:Nat:=0
def PySem.W.Fast.tw8083119174276324600:Nat:=0
def PySem.W.Fast.tw166937119544209626:Nat:=0
def PySem.W.Fast.tw157505592114304179:Nat:=0
def PySem.W.Fast.tw13086248827450017809:Nat:=0
def PySem.W.Fast.tw18152332465701411484:Nat:=0
def PySem.W.Fast.tw13778416093472548371:Nat:=0
def PySem.W.Fast.tw11563478147817923290:Nat:=0
def PySem.W.Fast.tw11046554021887575990:Nat:=0
def PySem.W.Fast.tw3753957763501438017:Nat:=0
def PySem.W.Fast.tw2631333529189438646:Nat:=0
def PySem.W.Fast.tw8436280115265880908:Nat:=0
def PySem.W.Fast.tw8810658618940451541:Nat:=0
def PySem.W.Fast.tw1218999160496073416:Nat:=0
def PySem.W.Fast.tw11471542418898938120:Nat:=0
def PySem.W.Fast.tw7038857719389196447:Nat:=0
def PySem.W.Fast.tw8426538064385669679:Nat:=0
def PySem.W.Fast.tw9093476888030805671:Nat:=0
def PySem.W.Fast.tw17779174677292046910:Nat:=0
def PySem.W.Fast.tw10775237728681549214:Nat:=0
def PySem.W.Fast.tw16332488540375674242:Nat:=0
def PySem.W.Fast.tw13319524239715548031:Nat:=0
def PySem.W.Fast.tw9831951108570562433:Nat:=0
def PySem.W.Fast.tw11676100055735201464:Nat:=0
def PySem.W.Fast.tw3713691947878046835:Nat:=0
def PySem.W.Fast.tw12198910984946711472:Nat:=0
def PySem.W.Fast.tw16790323157932847526:Nat:=0
def PySem.W.Fast.tw11489403022087598445:Nat:=0
def PySem.W.Fast.tw10499965601640113174:Nat:=0
def PySem.W.Fast.tw17755811528027417883:Nat:=0
def PySem.W.Fast.tw12733887854129022270:Nat:=0
def PySem.W.Fast.tw12051552320720699149:Nat:=0
def PySem.W.Fast.tw11741623270830113364:Nat:=0
def PySem.W.Fast.tw918927880160474024:Nat:=0
def PySem.W.Fast.tw727637836249847845:Nat:=0
def PySem.W.Fast.tw2709086985149315644:Nat:=0
def PySem.W.Fast.tw4964066167020939822:Nat:=0
def PySem.W.Fast.tw17230413542022640532:Nat:=0
def PySem.W.Fast.tw14848315567736926624:Nat:=0
def PySem.W.Fast.tw852173429000585371:Nat:=0
def PySem.W.Fast.tw4684703671858936678:Nat:=0
def PySem.W.Fast.tw3423350429705269602:Nat:=0
def PySem.W.Fast.tw6654169997184452082:Nat:=0
def PySem.W.Fast.tw3534762948942168491:Nat:=0
def PySem.W.Fast.tw3394431158276065607:Nat:=0
def PySem.W.Fast.tw12770184106370655371:Nat:=0
def PySem.W.Fast.tw11922435844681832400:Nat:=0
def PySem.W.Fast.tw12367126263622705048:Nat:=0
def PySem.W.Fast.tw5120063812424765803:Nat:=0
def PySem.W.Fast.tw1651320339522380467:Nat:=0
def PySem.W.Fast.tw7392553215930975114:Nat:=0
def PySem.W.Fast.tw16859415248396389222:Nat:=0
def PySem.W.Fast.tw4342895747725533664:Nat:=0
def PySem.W.Fast.tw9638859473715662111:Nat:=0
def PySem.W.Fast.tw16802237001089486825:Nat:=0
def PySem.W.Fast.tw4699889648029571677:Nat:=0
def PySem.W.Fast.tw9214616049069673274:Nat:=0
def PySem.W.Fast.tw1614654237512185303:Nat:=0
def PySem.W.Fast.tw18048483752713968980:Nat:=0
def PySem.W.Fast.tw16101521632301970251:Nat:=0
def PySem.W.Fast.tw6389545555770862214:Nat:=0
def PySem.W.Fast.tw4440935878782939636:Nat:=0
def PySem.W.Fast.tw15756340692454927552:Nat:=0
def PySem.W.Fast.tw10591735230526563751:Nat:=0
def PySem.W.Fast.tw13990218493743542490:Nat:=0
def PySem.W.Fast.tw745549980167040906:Nat:=0
def PySem.W.Fast.tw12146190161871063395:Nat:=0
def PySem.W.Fast.tw16307808475361382631:Nat:=0
def PySem.W.Fast.tw13093452811563297246:Nat:=0
def PySem.W.Fast.tw16474777822907912742:Nat:=0
def PySem.W.Fast.tw18112314099597327963:Nat:=0
def PySem.W.Fast.tw13865768576911137589:Nat:=0
def PySem.W.Fast.tw8132939600988057728:Nat:=0
def PySem.W.Fast.tw15151562421871102853:Nat:=0
def PySem.W.Fast.tw12654550707068191850:Nat:=0
def PySem.W.Fast.tw54810754474770381:Nat:=0
def PySem.W.Fast.tw407787274429398698:Nat:=0
def PySem.W.Fast.tw16697484657440013524:Nat:=0
def PySem.W.Fast.tw8709956579731569082:Nat:=0
def PySem.W.Fast.tw17770220143880751795:Nat:=0
def PySem.W.Fast.tw7594282792769168810:Nat:=0
def PySem.W.Fast.tw9911172237143418192:Nat:=0
def PySem.W.Fast.tw4852208879203572833:Nat:=0
def PySem.W.Fast.tw16865327326394951981:Nat:=0
def PySem.W.Fast.tw9488061953154741098:Nat:=0
def PySem.W.Fast.tw7069805407851204616:Nat:=0
def PySem.W.Fast.tw8884673299312478151:Nat:=0
def PySem.W.Fast.tw10370186721671217409:Nat:=0
def PySem.W.Fast.tw11083396205780813715:Nat:=0
def PySem.W.Fast.tw13925729745553995404:Nat:=0
def PySem.W.Fast.tw14574664472141171507:Nat:=0
def PySem.W.Fast.tw12519775435932074538:Nat:=0
def PySem.W.Fast.tw12402768115700602819:Nat:=0
def PySem.W.Fast.tw1590334113865780552:Nat:=0
def PySem.W.Fast.tw523227371145860839:Nat:=0
def PySem.W.Fast.tw18301174581293877156:Nat:=0
def PySem.W.Fast.tw2637581721468304492:Nat:=0
def PySem.W.Fast.tw16869345420467865200:Nat:=0
def PySem.W.Fast.tw12270114001464617635:Nat:=0
def PySem.W.Fast.tw868998580442748207:Nat:=0
def PySem.W.Fast.tw827816473248009923:Nat:=0
def PySem.W.Fast.tw15518042929487075380:Nat:=0
def PySem.W.Fast.tw3962914826681518906:Nat:=0
def PySem.W.Fast.tw14174298285506213803:Nat:=0
def PySem.W.Fast.tw9162299296643294048:Nat:=0
def PySem.W.Fast.tw2556475250361145496:Nat:=0
def PySem.W.Fast.tw855441483666489115:Nat:=0
def PySem.W.Fast.tw10079912713651800610:Nat:=0
def PySem.W.Fast.tw2693563941369185620:Nat:=0
def PySem.W.Fast.tw5955964452856529224:Nat:=0
def PySem.W.Fast.tw17966316678042066332:Nat:=0
def PySem.W.Fast.tw10579115753362038301:Nat:=0
def PySem.W.Fast.tw5289656320200609436:Nat:=0
def PySem.W.Fast.tw2054950900997488043:Nat:=0
def PySem.W.Fast.tw15558869765765039596:Nat:=0
def PySem.W.Fast.tw4139771749880903888:Nat:=0
def PySem.W.Fast.tw8689309784352242482:Nat:=0
def PySem.W.Fast.tw5633364129315528603:Nat:=0
def PySem.W.Fast.tw13562499202463147292:Nat:=0
def PySem.W.Fast.tw17038841956570191568:Nat:=0
def PySem.W.Fast.tw3405257212908498035:Nat:=0
def PySem.W.Fast.tw4858908285932941803:Nat:=0
def PySem.W.Fast.tw4934809447130987053:Nat:=0
def PySem.W.Fast.tw1328728145294822014:Nat:=0
def PySem.W.Fast.tw527460627425371725:Nat:=0
def PySem.W.Fast.tw5428650331807203405:Nat:=0
def PySem.W.Fast.tw618265161066060734:Nat:=0
def PySem.W.Fast.tw9113436709700116802:Nat:=0
def PySem.W.Fast.tw6140357085237736660:Nat:=0
def PySem.W.Fast.tw6040925162811350583:Nat:=0
def PySem.W.Fast.tw1028097765451076120:Nat:=0
def PySem.W.Fast.tw5258642148328490829:Nat:=0
def PySem.W.Fast.tw17101244340268597131:Nat:=0
def PySem.W.Fast.tw4599428184837664902:Nat:=0
def PySem.W.Fast.tw11312483428584565098:Nat:=0
def PySem.W.Fast.tw3832506430005892368:Nat:=0
def PySem.W.Fast.tw3115269083087769576:Nat:=0
def PySem.W.Fast.tw17114340243038299991:Nat:=0
def PySem.W.Fast.tw12731830757270056616:Nat:=0
def PySem.W.Fast.tw2330085512847194456:Nat:=0
def PySem.W.Fast.tw7100565748637650039:Nat:=0
def PySem.W.Fast.tw2632764820861379538:Nat:=0
def PySem.W.Fast.tw15062490839587174327:Nat:=0
def PySem.W.Fast.tw15242721630814594702:Nat:=0
def PySem.W.Fast.tw13082263895229951696:Nat:=0
def PySem.W.Fast.tw7652712600199401891:Nat:=0
def PySem.W.Fast.tw15043070500663151795:Nat:=0
def PySem.W.Fast.tw12723995931276513711:Nat:=0
def PySem.W.Fast.tw13068155681038230088:Nat:=0
def PySem.W.Fast.tw10469349155295244364:Nat:=0
def PySem.W.Fast.tw816161726781671053:Nat:=0
def PySem.W.Fast.tw2087930895542419559:Nat:=0
def PySem.W.Fast.tw13986436593376858292:Nat:=0
def PySem.W.Fast.tw518308683096410357:Nat:=0
def PySem.W.Fast.tw13928796328309906097:Nat:=0
def PySem.W.Fast.tw11364914873331052556:Nat:=0
def PySem.W.Fast.tw3893525024120404875:Nat:=0
def PySem.W.Fast.tw2678249282749486458:Nat:=0
def PySem.W.Fast.tw8791658850467651672:Nat:=0
def PySem.W.Fast.tw8617176857096946588:Nat:=0
def PySem.W.Fast.tw7255136798542313921:Nat:=0
def PySem.W.Fast.tw10607100580148262877:Nat:=0
def PySem.W.Fast.tw16018765699427958928:Nat:=0
def PySem.W.Fast.tw14182042814966387063:Nat:=0
def PySem.W.Fast.tw1646913210114334154:Nat:=0
def PySem.W.Fast.tw11165098558812288826:Nat:=0
def PySem.W.Fast.tw11594680897420005868:Nat:=0
def PySem.W.Fast.tw15131593870565028415:Nat:=0
def PySem.W.Fast.tw13479534778157282947:Nat:=0
def PySem.W.Fast.tw4647107973864106554:Nat:=0
def PySem.W.Fast.tw211033626913385901:Nat:=0
def PySem.W.Fast.tw16973161918775616080:Nat:=0
def PySem.W.Fast.tw13437879323594892899:Nat:=0
def PySem.W.Fast.tw14453142764873010745:Nat:=0
def PySem.W.Fast.tw2434044745457983137:Nat:=0
def PySem.W.Fast.tw2760982498609322720:Nat:=0
def PySem.W.Fast.tw1906385843782822450:Nat:=0
def PySem.W.Fast.tw3430808965205799890:Nat:=0
def PySem.W.Fast.tw11096924213547434125:Nat:=0
def PySem.W.Fast.tw7472814523734755385:Nat:=0
def PySem.W.Fast.tw10819567729105743137:Nat:=0
def PySem.W.Fast.tw9489640474201759663:Nat:=0
def PySem.W.Fast.tw17447629545547662468:Nat:=0
def PySem.W.Fast.tw814171612180412064:Nat:=0
def PySem.W.Fast.tw12631758940601830267:Nat:=0
def PySem.W.Fast.tw7107611565494999036:Nat:=0
def PySem.W.Fast.tw12290374744874605051:Nat:=0
def PySem.W.Fast.tw8422640819586549659:Nat:=0
def PySem.W.Fast.tw3698989746218540968:Nat:=0
def PySem.W.Fast.tw8184602750986022281:Nat:=0
def PySem.W.Fast.tw10611512200347935297:Nat:=0
def PySem.W.Fast.tw16504989325108193886:Nat:=0
def PySem.W.Fast.tw16420139149740090936:Nat:=0
def PySem.W.Fast.tw15685906909192392989:Nat:=0
def PySem.W.Fast.tw8504509917574104103:Nat:=0
def PySem.W.Fast.tw18049511479443530540:Nat:=0
def PySem.W.Fast.tw7049630927250742156:Nat:=0
def PySem.W.Fast.tw5566557846868731447:Nat:=0
def PySem.W.Fast.tw5082334403966870893:Nat:=0
open PySem PySem.W PyProof.Rows
set_option maxRecDepth 100000 in
set_option maxHeartbeats 0 in
theorem PySem.Challenge.cw_panethread_k52_strips_and_balanced_holds : PySem.Challenge.rw_panethread_k52_strips_and_balanced.Holds := by
 w_on;o_law;k_head;(case hw=>w_witness2)
 k_fill
 refine L2.Wr (l:=PySem.Challenge.rw_panethread_k52_strips_and_balanced) (st:=My.iJ) (k:=20) (x:="_law_script") (sp:=My.Q5) rfl rfl rfl ⟨rfl,by decide,by decide,rfl⟩ (fun w h Y=>PySem.W.kIn_of Y) (fun _ _ _ _ _ _ us hl=>L2.jU (fun _=>rfl) us hl) ?F (fun K H a ns hl hS=>⟨a,ns,rfl,hS,hl,fun _=>rfl⟩)
 case F=>
  intro w mg h KX G
  have b_all:mg "all"=none:=by
   refine' PySem.W.mg_none_of KX G ?a
   (case a=>k_is)
  have b_bool:mg "bool"=none:=by
   refine' PySem.W.mg_none_of KX G ?a
   (case a=>k_is)
  have b_enumerate:mg "enumerate"=none:=by
   refine' PySem.W.mg_none_of KX G ?a
   (case a=>k_is)
  have b_int:mg "int"=none:=by
   refine' PySem.W.mg_none_of KX G ?a
   (case a=>k_is)
  have b_isinstance:mg "isinstance"=none:=by
   refine' PySem.W.mg_none_of KX G ?a
   (case a=>k_is)
  have b_len:mg "len"=none:=by
   refine' PySem.W.mg_none_of KX G ?a
   (case a=>k_is)
  have b_list:mg "list"=none:=by
   refine' PySem.W.mg_none_of KX G ?a
   (case a=>k_is)
  have b_max:mg "max"=none:=by
   refine' PySem.W.mg_none_of KX G ?a
   (case a=>k_is)
  have b_min:mg "min"=none:=by
   refine' PySem.W.mg_none_of KX G ?a
   (case a=>k_is)
  have b_range:mg "range"=none:=by
   refine' PySem.W.mg_none_of KX G ?a
   (case a=>k_is)
  have b_reversed:mg "reversed"=none:=by
   refine' PySem.W.mg_none_of KX G ?a
   (case a=>k_is)
  have b_str:mg "str"=none:=by
   refine' PySem.W.mg_none_of KX G ?a
   (case a=>k_is)
  have b_tuple:mg "tuple"=none:=by
   refine' PySem.W.mg_none_of KX G ?a
   (case a=>k_is)
  have c_LETTERS:∃ t,mg "LETTERS"=some (.str "abcdefghijklmnopqrstuvwxyz" t):=by
   refine' L2.qF KX G ?a ?h
   (case a=>k_is);(case h=>exact ⟨_,by with_unfolding_all rfl⟩)
  have c_MOST_LINES:∃ t,mg "MOST_LINES"=some (.int 96 t):=by
   refine' L2.qF KX G ?a ?h
   (case a=>k_is);(case h=>exact ⟨_,by with_unfolding_all rfl⟩)
  have c_MOST_SIGNS:∃ t,mg "MOST_SIGNS"=some (.int 48 t):=by
   refine' L2.qF KX G ?a ?h
   (case a=>k_is);(case h=>exact ⟨_,by with_unfolding_all rfl⟩)
  have c_POINT:∃ t,mg "POINT"=some (.str "." t):=by
   refine' L2.qF KX G ?a ?h
   (case a=>k_is);(case h=>exact ⟨_,by with_unfolding_all rfl⟩)
  have d_is_number:L2.fO (L2.KOf KX) mg "is_number" My.ig:=by
   dsimp only [L2.KOf]
   refine' L2.bf KX G ?a ?l ?c ?k
   (case a=>k_is);(case l=>k_is);(case c=>k_is);(case k=>k_is)
  have d_is_within:L2.fO (L2.KOf KX) mg "is_within" My.ik:=by
   dsimp only [L2.KOf]
   refine' L2.bf KX G ?a ?l ?c ?k
   (case a=>k_is);(case l=>k_is);(case c=>k_is);(case k=>k_is)
  have d_is_letter:L2.fO (L2.KOf KX) mg "is_letter" My.gD:=by
   dsimp only [L2.KOf]
   refine' L2.bf KX G ?a ?l ?c ?k
   (case a=>k_is);(case l=>k_is);(case c=>k_is);(case k=>k_is)
  have d_is_sign:L2.fO (L2.KOf KX) mg "is_sign" My.lB:=by
   dsimp only [L2.KOf]
   refine' L2.bf KX G ?a ?l ?c ?k
   (case a=>k_is);(case l=>k_is);(case c=>k_is);(case k=>k_is)
  have d_need_place:L2.fO (L2.KOf KX) mg "need_place" My.gH:=by
   dsimp only [L2.KOf]
   refine' L2.bf KX G ?a ?l ?c ?k
   (case a=>k_is);(case l=>k_is);(case c=>k_is);(case k=>k_is)
  have d_need_sign:L2.fO (L2.KOf KX) mg "need_sign" My.kJ:=by
   dsimp only [L2.KOf]
   refine' L2.bf KX G ?a ?l ?c ?k
   (case a=>k_is);(case l=>k_is);(case c=>k_is);(case k=>k_is)
  have d_is_turning:L2.fO (L2.KOf KX) mg "is_turning" My.bY:=by
   dsimp only [L2.KOf]
   refine' L2.bf KX G ?a ?l ?c ?k
   (case a=>k_is);(case l=>k_is);(case c=>k_is);(case k=>k_is)
  have d_need_turning:L2.fO (L2.KOf KX) mg "need_turning" My.ir:=by
   dsimp only [L2.KOf]
   refine' L2.bf KX G ?a ?l ?c ?k
   (case a=>k_is);(case l=>k_is);(case c=>k_is);(case k=>k_is)
  have d_straight:L2.fO (L2.KOf KX) mg "straight" My.iu:=by
   dsimp only [L2.KOf]
   refine' L2.bf KX G ?a ?l ?c ?k
   (case a=>k_is);(case l=>k_is);(case c=>k_is);(case k=>k_is)
  have d_opposite:L2.fO (L2.KOf KX) mg "opposite" My.fM:=by
   dsimp only [L2.KOf]
   refine' L2.bf KX G ?a ?l ?c ?k
   (case a=>k_is);(case l=>k_is);(case c=>k_is);(case k=>k_is)
  have d_do_steps:L2.fO (L2.KOf KX) mg "do_steps" My.eN:=by
   dsimp only [L2.KOf]
   refine' L2.bf KX G ?a ?l ?c ?k
   (case a=>k_is);(case l=>k_is);(case c=>k_is);(case k=>k_is)
  have d_steps_of:L2.fO (L2.KOf KX) mg "steps_of" My.cO:=by
   dsimp only [L2.KOf]
   refine' L2.bf KX G ?a ?l ?c ?k
   (case a=>k_is);(case l=>k_is);(case c=>k_is);(case k=>k_is)
  have d_need_alike:L2.fO (L2.KOf KX) mg "need_alike" My.gJ:=by
   dsimp only [L2.KOf]
   refine' L2.bf KX G ?a ?l ?c ?k
   (case a=>k_is);(case l=>k_is);(case c=>k_is);(case k=>k_is)
  have d_laid:L2.fO (L2.KOf KX) mg "laid" My.mF:=by
   dsimp only [L2.KOf]
   refine' L2.bf KX G ?a ?l ?c ?k
   (case a=>k_is);(case l=>k_is);(case c=>k_is);(case k=>k_is)
  have d_is_row:L2.fO (L2.KOf KX) mg "is_row" My.iU:=by
   dsimp only [L2.KOf]
   refine' L2.bf KX G ?a ?l ?c ?k
   (case a=>k_is);(case l=>k_is);(case c=>k_is);(case k=>k_is)
  have d_need_row:L2.fO (L2.KOf KX) mg "need_row" My.lN:=by
   dsimp only [L2.KOf]
   refine' L2.bf KX G ?a ?l ?c ?k
   (case a=>k_is);(case l=>k_is);(case c=>k_is);(case k=>k_is)
  have d_need_rows:L2.fO (L2.KOf KX) mg "need_rows" My.jo:=by
   dsimp only [L2.KOf]
   refine' L2.bf KX G ?a ?l ?c ?k
   (case a=>k_is);(case l=>k_is);(case c=>k_is);(case k=>k_is)
  have d_need_pieces:L2.fO (L2.KOf KX) mg "need_pieces" My.d7:=by
   dsimp only [L2.KOf]
   refine' L2.bf KX G ?a ?l ?c ?k
   (case a=>k_is);(case l=>k_is);(case c=>k_is);(case k=>k_is)
  have d_need_same:L2.fO (L2.KOf KX) mg "need_same" My.kO:=by
   dsimp only [L2.KOf]
   refine' L2.bf KX G ?a ?l ?c ?k
   (case a=>k_is);(case l=>k_is);(case c=>k_is);(case k=>k_is)
  have d_need_short:L2.fO (L2.KOf KX) mg "need_short" My.iD:=by
   dsimp only [L2.KOf]
   refine' L2.bf KX G ?a ?l ?c ?k
   (case a=>k_is);(case l=>k_is);(case c=>k_is);(case k=>k_is)
  have d_lines_over:L2.fO (L2.KOf KX) mg "lines_over" My.bc:=by
   dsimp only [L2.KOf]
   refine' L2.bf KX G ?a ?l ?c ?k
   (case a=>k_is);(case l=>k_is);(case c=>k_is);(case k=>k_is)
  have d_lines_beside:L2.fO (L2.KOf KX) mg "lines_beside" My.aQ:=by
   dsimp only [L2.KOf]
   refine' L2.bf KX G ?a ?l ?c ?k
   (case a=>k_is);(case l=>k_is);(case c=>k_is);(case k=>k_is)
  have d_strip:L2.fO (L2.KOf KX) mg "strip" My.jc:=by
   dsimp only [L2.KOf]
   refine' L2.bf KX G ?a ?l ?c ?k
   (case a=>k_is);(case l=>k_is);(case c=>k_is);(case k=>k_is)
  have d_all_beside:L2.fO (L2.KOf KX) mg "all_beside" My.fB:=by
   dsimp only [L2.KOf]
   refine' L2.bf KX G ?a ?l ?c ?k
   (case a=>k_is);(case l=>k_is);(case c=>k_is);(case k=>k_is)
  have d_all_over:L2.fO (L2.KOf KX) mg "all_over" My.iw:=by
   dsimp only [L2.KOf]
   refine' L2.bf KX G ?a ?l ?c ?k
   (case a=>k_is);(case l=>k_is);(case c=>k_is);(case k=>k_is)
  have d_balanced:L2.fO (L2.KOf KX) mg "balanced" My.dH:=by
   dsimp only [L2.KOf]
   refine' L2.bf KX G ?a ?l ?c ?k
   (case a=>k_is);(case l=>k_is);(case c=>k_is);(case k=>k_is)
  have d_law_cell:L2.fO (L2.KOf KX) mg "_law_cell" My.jZ:=by
   dsimp only [L2.KOf]
   refine' L2.bf KX G ?a ?l ?c ?k
   (case a=>k_is);(case l=>k_is);(case c=>k_is);(case k=>k_is)
  have d_law_mix:L2.fO (L2.KOf KX) mg "_law_mix" My.lC:=by
   dsimp only [L2.KOf]
   refine' L2.bf KX G ?a ?l ?c ?k
   (case a=>k_is);(case l=>k_is);(case c=>k_is);(case k=>k_is)
  have d_law_takes:L2.fO (L2.KOf KX) mg "_law_takes" My.dU:=by
   dsimp only [L2.KOf]
   refine' L2.bf KX G ?a ?l ?c ?k
   (case a=>k_is);(case l=>k_is);(case c=>k_is);(case k=>k_is)
  have d_law_sign:L2.fO (L2.KOf KX) mg "_law_sign" My.j0:=by
   dsimp only [L2.KOf]
   refine' L2.bf KX G ?a ?l ?c ?k
   (case a=>k_is);(case l=>k_is);(case c=>k_is);(case k=>k_is)
  have d_law_base:L2.fO (L2.KOf KX) mg "_law_base" My.lO:=by
   dsimp only [L2.KOf]
   refine' L2.bf KX G ?a ?l ?c ?k
   (case a=>k_is);(case l=>k_is);(case c=>k_is);(case k=>k_is)
  have d_law_text:L2.fO (L2.KOf KX) mg "_law_text" My.bT:=by
   dsimp only [L2.KOf]
   refine' L2.bf KX G ?a ?l ?c ?k
   (case a=>k_is);(case l=>k_is);(case c=>k_is);(case k=>k_is)
  have d_law_lines:L2.fO (L2.KOf KX) mg "_law_lines" My.bA:=by
   dsimp only [L2.KOf]
   refine' L2.bf KX G ?a ?l ?c ?k
   (case a=>k_is);(case l=>k_is);(case c=>k_is);(case k=>k_is)
  have d_law_whole:L2.fO (L2.KOf KX) mg "_law_whole" My.iy:=by
   dsimp only [L2.KOf]
   refine' L2.bf KX G ?a ?l ?c ?k
   (case a=>k_is);(case l=>k_is);(case c=>k_is);(case k=>k_is)
  have d_law_list:L2.fO (L2.KOf KX) mg "_law_list" My.gK:=by
   dsimp only [L2.KOf]
   refine' L2.bf KX G ?a ?l ?c ?k
   (case a=>k_is);(case l=>k_is);(case c=>k_is);(case k=>k_is)
  have d_law_is:L2.fO (L2.KOf KX) mg "_law_is" My.iV:=by
   dsimp only [L2.KOf]
   refine' L2.bf KX G ?a ?l ?c ?k
   (case a=>k_is);(case l=>k_is);(case c=>k_is);(case k=>k_is)
  have d_law_flags:L2.fO (L2.KOf KX) mg "_law_flags" My.fG:=by
   dsimp only [L2.KOf]
   refine' L2.bf KX G ?a ?l ?c ?k
   (case a=>k_is);(case l=>k_is);(case c=>k_is);(case k=>k_is)
  have d_law_is_kind:L2.fO (L2.KOf KX) mg "_law_is_kind" My.gQ:=by
   dsimp only [L2.KOf]
   refine' L2.bf KX G ?a ?l ?c ?k
   (case a=>k_is);(case l=>k_is);(case c=>k_is);(case k=>k_is)
  have d_law_strip:L2.fO (L2.KOf KX) mg "_law_strip" My.bL:=by
   dsimp only [L2.KOf]
   refine' L2.bf KX G ?a ?l ?c ?k
   (case a=>k_is);(case l=>k_is);(case c=>k_is);(case k=>k_is)
  have d_law_balanced:L2.fO (L2.KOf KX) mg "_law_balanced" My.bx:=by
   dsimp only [L2.KOf]
   refine' L2.bf KX G ?a ?l ?c ?k
   (case a=>k_is);(case l=>k_is);(case c=>k_is);(case k=>k_is)
  have d_law:L2.fO (L2.KOf KX) mg "law" My.iJ:=by
   dsimp only [L2.KOf]
   refine' L2.bf KX G ?a ?l ?c ?k
   (case a=>k_is);(case l=>k_is);(case c=>k_is);(case k=>k_is)
  have x_NoRow:L2.pI (L2.KOf KX) mg "NoRow" ["found"] "NoRow.__init__" My.Dm:=by
   dsimp only [L2.KOf]
   refine' L2.uA KX G ?a ?b ?kp ?na ?i ?t ?l ?c ?k
   (case a=>k_is);(case b=>kernel_rfl);(case kp=>k_is);(case na=>kernel_rfl);(case i=>k_is);(case t=>k_is);(case l=>k_is);(case c=>k_is);(case k=>k_is)
  have x_NoLetter:L2.pI (L2.KOf KX) mg "NoLetter" ["found"] "NoLetter.__init__" My.uJ:=by
   dsimp only [L2.KOf]
   refine' L2.uA KX G ?a ?b ?kp ?na ?i ?t ?l ?c ?k
   (case a=>k_is);(case b=>kernel_rfl);(case kp=>k_is);(case na=>kernel_rfl);(case i=>k_is);(case t=>k_is);(case l=>k_is);(case c=>k_is);(case k=>k_is)
  have x_NoPlace:L2.pI (L2.KOf KX) mg "NoPlace" ["found"] "NoPlace.__init__" My.ww:=by
   dsimp only [L2.KOf]
   refine' L2.uA KX G ?a ?b ?kp ?na ?i ?t ?l ?c ?k
   (case a=>k_is);(case b=>kernel_rfl);(case kp=>k_is);(case na=>kernel_rfl);(case i=>k_is);(case t=>k_is);(case l=>k_is);(case c=>k_is);(case k=>k_is)
  have x_NoTurning:L2.pI (L2.KOf KX) mg "NoTurning" ["found"] "NoTurning.__init__" My.sH:=by
   dsimp only [L2.KOf]
   refine' L2.uA KX G ?a ?b ?kp ?na ?i ?t ?l ?c ?k
   (case a=>k_is);(case b=>kernel_rfl);(case kp=>k_is);(case na=>kernel_rfl);(case i=>k_is);(case t=>k_is);(case l=>k_is);(case c=>k_is);(case k=>k_is)
  have x_NoPiece:L2.pI (L2.KOf KX) mg "NoPiece" ["found"] "NoPiece.__init__" My.mU:=by
   dsimp only [L2.KOf]
   refine' L2.uA KX G ?a ?b ?kp ?na ?i ?t ?l ?c ?k
   (case a=>k_is);(case b=>kernel_rfl);(case kp=>k_is);(case na=>kernel_rfl);(case i=>k_is);(case t=>k_is);(case l=>k_is);(case c=>k_is);(case k=>k_is)
  have x_Unlike:L2.pI (L2.KOf KX) mg "Unlike" ["one","other"] "Unlike.__init__" My.zA:=by
   dsimp only [L2.KOf]
   refine' L2.uA KX G ?a ?b ?kp ?na ?i ?t ?l ?c ?k
   (case a=>k_is);(case b=>kernel_rfl);(case kp=>k_is);(case na=>kernel_rfl);(case i=>k_is);(case t=>k_is);(case l=>k_is);(case c=>k_is);(case k=>k_is)
  have x_TooLong:L2.pI (L2.KOf KX) mg "TooLong" ["found"] "TooLong.__init__" My.wz:=by
   dsimp only [L2.KOf]
   refine' L2.uA KX G ?a ?b ?kp ?na ?i ?t ?l ?c ?k
   (case a=>k_is);(case b=>kernel_rfl);(case kp=>k_is);(case na=>kernel_rfl);(case i=>k_is);(case t=>k_is);(case l=>k_is);(case c=>k_is);(case k=>k_is)
  have o_Piece:L2.oh (L2.KOf KX) mg "Piece":=by
   dsimp only [L2.KOf]
   refine' L2.zc KX G ?a ?b ?s ?m ?k
   (case a=>k_is);(case b=>kernel_rfl);(case s=>k_is);(case m=>first | k_is | kernel_rfl);(case k=>k_is)
  have n_Piece:∀ f∈(["held_side","held_top","held_kind","held_lines","held_parts","held_height"]:List Str),L2.NoAttr (L2.KOf KX) (L2.aD mg "Piece") f:=by
   dsimp only [L2.KOf]
   refine' L2.zf KX G ?a ?b
   (case a=>k_is);(case b=>kernel_rfl)
  have o_Blank:L2.oh (L2.KOf KX) mg "Blank":=by
   dsimp only [L2.KOf]
   refine' L2.zc KX G ?a ?b ?s ?m ?k
   (case a=>k_is);(case b=>kernel_rfl);(case s=>k_is);(case m=>first | k_is | kernel_rfl);(case k=>k_is)
  have n_Blank:∀ f∈(["held_side","held_top","held_kind","held_lines","held_parts","held_height"]:List Str),L2.NoAttr (L2.KOf KX) (L2.aD mg "Blank") f:=by
   dsimp only [L2.KOf]
   refine' L2.zf KX G ?a ?b
   (case a=>k_is);(case b=>kernel_rfl)
  have o_One:L2.oh (L2.KOf KX) mg "One":=by
   dsimp only [L2.KOf]
   refine' L2.zc KX G ?a ?b ?s ?m ?k
   (case a=>k_is);(case b=>kernel_rfl);(case s=>k_is);(case m=>first | k_is | kernel_rfl);(case k=>k_is)
  have n_One:∀ f∈(["held_side","held_top","held_kind","held_lines","held_parts","held_height"]:List Str),L2.NoAttr (L2.KOf KX) (L2.aD mg "One") f:=by
   dsimp only [L2.KOf]
   refine' L2.zf KX G ?a ?b
   (case a=>k_is);(case b=>kernel_rfl)
  have o_Over:L2.oh (L2.KOf KX) mg "Over":=by
   dsimp only [L2.KOf]
   refine' L2.zc KX G ?a ?b ?s ?m ?k
   (case a=>k_is);(case b=>kernel_rfl);(case s=>k_is);(case m=>first | k_is | kernel_rfl);(case k=>k_is)
  have n_Over:∀ f∈(["held_side","held_top","held_kind","held_lines","held_parts","held_height"]:List Str),L2.NoAttr (L2.KOf KX) (L2.aD mg "Over") f:=by
   dsimp only [L2.KOf]
   refine' L2.zf KX G ?a ?b
   (case a=>k_is);(case b=>kernel_rfl)
  have o_Beside:L2.oh (L2.KOf KX) mg "Beside":=by
   dsimp only [L2.KOf]
   refine' L2.zc KX G ?a ?b ?s ?m ?k
   (case a=>k_is);(case b=>kernel_rfl);(case s=>k_is);(case m=>first | k_is | kernel_rfl);(case k=>k_is)
  have n_Beside:∀ f∈(["held_side","held_top","held_kind","held_lines","held_parts","held_height"]:List Str),L2.NoAttr (L2.KOf KX) (L2.aD mg "Beside") f:=by
   dsimp only [L2.KOf]
   refine' L2.zf KX G ?a ?b
   (case a=>k_is);(case b=>kernel_rfl)
  have os_Piece:L2.YZ (L2.KOf KX) mg ["Blank","One","Over","Beside"]:=L2.N8 o_Blank o_One o_Over o_Beside
  have t_Blank:L2.ITxt (L2.KOf KX) mg "Blank":=by
   dsimp only [L2.KOf]
   refine' L2.Dg KX G ?a ?b ?c ?d ?e
   (case a=>k_is);(case b=>k_is);(case c=>first | k_is | kernel_rfl);(case d=>first | k_is | kernel_rfl);(case e=>first | k_is | kernel_rfl)
  have t_One:L2.ITxt (L2.KOf KX) mg "One":=by
   dsimp only [L2.KOf]
   refine' L2.Dg KX G ?a ?b ?c ?d ?e
   (case a=>k_is);(case b=>k_is);(case c=>first | k_is | kernel_rfl);(case d=>first | k_is | kernel_rfl);(case e=>first | k_is | kernel_rfl)
  have t_Over:L2.ITxt (L2.KOf KX) mg "Over":=by
   dsimp only [L2.KOf]
   refine' L2.Dg KX G ?a ?b ?c ?d ?e
   (case a=>k_is);(case b=>k_is);(case c=>first | k_is | kernel_rfl);(case d=>first | k_is | kernel_rfl);(case e=>first | k_is | kernel_rfl)
  have t_Beside:L2.ITxt (L2.KOf KX) mg "Beside":=by
   dsimp only [L2.KOf]
   refine' L2.Dg KX G ?a ?b ?c ?d ?e
   (case a=>k_is);(case b=>k_is);(case c=>first | k_is | kernel_rfl);(case d=>first | k_is | kernel_rfl);(case e=>first | k_is | kernel_rfl)
  have u_Blank_Piece:L2.Sub (L2.KOf KX) mg "Blank" "Piece" true:=by
   dsimp only [L2.KOf]
   refine' L2.gB KX G ?a ?b ?m ?o
   (case a=>k_is);(case b=>k_is);(case m=>k_is);(case o=>kernel_rfl)
  have u_Blank_Blank:L2.Sub (L2.KOf KX) mg "Blank" "Blank" true:=by
   dsimp only [L2.KOf]
   refine' L2.gB KX G ?a ?b ?m ?o
   (case a=>k_is);(case b=>k_is);(case m=>k_is);(case o=>kernel_rfl)
  have u_Blank_One:L2.Sub (L2.KOf KX) mg "Blank" "One" false:=by
   dsimp only [L2.KOf]
   refine' L2.gB KX G ?a ?b ?m ?o
   (case a=>k_is);(case b=>k_is);(case m=>k_is);(case o=>kernel_rfl)
  have u_Blank_Over:L2.Sub (L2.KOf KX) mg "Blank" "Over" false:=by
   dsimp only [L2.KOf]
   refine' L2.gB KX G ?a ?b ?m ?o
   (case a=>k_is);(case b=>k_is);(case m=>k_is);(case o=>kernel_rfl)
  have u_Blank_Beside:L2.Sub (L2.KOf KX) mg "Blank" "Beside" false:=by
   dsimp only [L2.KOf]
   refine' L2.gB KX G ?a ?b ?m ?o
   (case a=>k_is);(case b=>k_is);(case m=>k_is);(case o=>kernel_rfl)
  have u_One_Piece:L2.Sub (L2.KOf KX) mg "One" "Piece" true:=by
   dsimp only [L2.KOf]
   refine' L2.gB KX G ?a ?b ?m ?o
   (case a=>k_is);(case b=>k_is);(case m=>k_is);(case o=>kernel_rfl)
  have u_One_Blank:L2.Sub (L2.KOf KX) mg "One" "Blank" false:=by
   dsimp only [L2.KOf]
   refine' L2.gB KX G ?a ?b ?m ?o
   (case a=>k_is);(case b=>k_is);(case m=>k_is);(case o=>kernel_rfl)
  have u_One_One:L2.Sub (L2.KOf KX) mg "One" "One" true:=by
   dsimp only [L2.KOf]
   refine' L2.gB KX G ?a ?b ?m ?o
   (case a=>k_is);(case b=>k_is);(case m=>k_is);(case o=>kernel_rfl)
  have u_One_Over:L2.Sub (L2.KOf KX) mg "One" "Over" false:=by
   dsimp only [L2.KOf]
   refine' L2.gB KX G ?a ?b ?m ?o
   (case a=>k_is);(case b=>k_is);(case m=>k_is);(case o=>kernel_rfl)
  have u_One_Beside:L2.Sub (L2.KOf KX) mg "One" "Beside" false:=by
   dsimp only [L2.KOf]
   refine' L2.gB KX G ?a ?b ?m ?o
   (case a=>k_is);(case b=>k_is);(case m=>k_is);(case o=>kernel_rfl)
  have u_Over_Piece:L2.Sub (L2.KOf KX) mg "Over" "Piece" true:=by
   dsimp only [L2.KOf]
   refine' L2.gB KX G ?a ?b ?m ?o
   (case a=>k_is);(case b=>k_is);(case m=>k_is);(case o=>kernel_rfl)
  have u_Over_Blank:L2.Sub (L2.KOf KX) mg "Over" "Blank" false:=by
   dsimp only [L2.KOf]
   refine' L2.gB KX G ?a ?b ?m ?o
   (case a=>k_is);(case b=>k_is);(case m=>k_is);(case o=>kernel_rfl)
  have u_Over_One:L2.Sub (L2.KOf KX) mg "Over" "One" false:=by
   dsimp only [L2.KOf]
   refine' L2.gB KX G ?a ?b ?m ?o
   (case a=>k_is);(case b=>k_is);(case m=>k_is);(case o=>kernel_rfl)
  have u_Over_Over:L2.Sub (L2.KOf KX) mg "Over" "Over" true:=by
   dsimp only [L2.KOf]
   refine' L2.gB KX G ?a ?b ?m ?o
   (case a=>k_is);(case b=>k_is);(case m=>k_is);(case o=>kernel_rfl)
  have u_Over_Beside:L2.Sub (L2.KOf KX) mg "Over" "Beside" false:=by
   dsimp only [L2.KOf]
   refine' L2.gB KX G ?a ?b ?m ?o
   (case a=>k_is);(case b=>k_is);(case m=>k_is);(case o=>kernel_rfl)
  have u_Beside_Piece:L2.Sub (L2.KOf KX) mg "Beside" "Piece" true:=by
   dsimp only [L2.KOf]
   refine' L2.gB KX G ?a ?b ?m ?o
   (case a=>k_is);(case b=>k_is);(case m=>k_is);(case o=>kernel_rfl)
  have u_Beside_Blank:L2.Sub (L2.KOf KX) mg "Beside" "Blank" false:=by
   dsimp only [L2.KOf]
   refine' L2.gB KX G ?a ?b ?m ?o
   (case a=>k_is);(case b=>k_is);(case m=>k_is);(case o=>kernel_rfl)
  have u_Beside_One:L2.Sub (L2.KOf KX) mg "Beside" "One" false:=by
   dsimp only [L2.KOf]
   refine' L2.gB KX G ?a ?b ?m ?o
   (case a=>k_is);(case b=>k_is);(case m=>k_is);(case o=>kernel_rfl)
  have u_Beside_Over:L2.Sub (L2.KOf KX) mg "Beside" "Over" false:=by
   dsimp only [L2.KOf]
   refine' L2.gB KX G ?a ?b ?m ?o
   (case a=>k_is);(case b=>k_is);(case m=>k_is);(case o=>kernel_rfl)
  have u_Beside_Beside:L2.Sub (L2.KOf KX) mg "Beside" "Beside" true:=by
   dsimp only [L2.KOf]
   refine' L2.gB KX G ?a ?b ?m ?o
   (case a=>k_is);(case b=>k_is);(case m=>k_is);(case o=>kernel_rfl)
  have w_Piece_str:PySem.W.kitOne (L2.KOf KX) (.type "str") (.ref (L2.aD mg "Piece"))=some false:=by
   dsimp only [L2.KOf]
   refine' L2.aO KX G ?a ?o
   (case a=>k_is);(case o=>kernel_rfl)
  have w_Piece_int:PySem.W.kitOne (L2.KOf KX) (.type "int") (.ref (L2.aD mg "Piece"))=some false:=by
   dsimp only [L2.KOf]
   refine' L2.aO KX G ?a ?o
   (case a=>k_is);(case o=>kernel_rfl)
  have w_Piece_list:PySem.W.kitOne (L2.KOf KX) (.type "list") (.ref (L2.aD mg "Piece"))=some false:=by
   dsimp only [L2.KOf]
   refine' L2.aO KX G ?a ?o
   (case a=>k_is);(case o=>kernel_rfl)
  have w_Piece_tuple:PySem.W.kitOne (L2.KOf KX) (.type "tuple") (.ref (L2.aD mg "Piece"))=some false:=by
   dsimp only [L2.KOf]
   refine' L2.aO KX G ?a ?o
   (case a=>k_is);(case o=>kernel_rfl)
  have w_Piece_NoneType:PySem.W.kitOne (L2.KOf KX) (.type "NoneType") (.ref (L2.aD mg "Piece"))=some false:=by
   dsimp only [L2.KOf]
   refine' L2.aO KX G ?a ?o
   (case a=>k_is);(case o=>kernel_rfl)
  have w_Piece_bool:PySem.W.kitOne (L2.KOf KX) (.type "bool") (.ref (L2.aD mg "Piece"))=some false:=by
   dsimp only [L2.KOf]
   refine' L2.aO KX G ?a ?o
   (case a=>k_is);(case o=>kernel_rfl)
  have w_Piece_dict:PySem.W.kitOne (L2.KOf KX) (.type "dict") (.ref (L2.aD mg "Piece"))=some false:=by
   dsimp only [L2.KOf]
   refine' L2.aO KX G ?a ?o
   (case a=>k_is);(case o=>kernel_rfl)
  have w_Blank_str:PySem.W.kitOne (L2.KOf KX) (.type "str") (.ref (L2.aD mg "Blank"))=some false:=by
   dsimp only [L2.KOf]
   refine' L2.aO KX G ?a ?o
   (case a=>k_is);(case o=>kernel_rfl)
  have w_Blank_int:PySem.W.kitOne (L2.KOf KX) (.type "int") (.ref (L2.aD mg "Blank"))=some false:=by
   dsimp only [L2.KOf]
   refine' L2.aO KX G ?a ?o
   (case a=>k_is);(case o=>kernel_rfl)
  have w_Blank_list:PySem.W.kitOne (L2.KOf KX) (.type "list") (.ref (L2.aD mg "Blank"))=some false:=by
   dsimp only [L2.KOf]
   refine' L2.aO KX G ?a ?o
   (case a=>k_is);(case o=>kernel_rfl)
  have w_Blank_tuple:PySem.W.kitOne (L2.KOf KX) (.type "tuple") (.ref (L2.aD mg "Blank"))=some false:=by
   dsimp only [L2.KOf]
   refine' L2.aO KX G ?a ?o
   (case a=>k_is);(case o=>kernel_rfl)
  have w_Blank_NoneType:PySem.W.kitOne (L2.KOf KX) (.type "NoneType") (.ref (L2.aD mg "Blank"))=some false:=by
   dsimp only [L2.KOf]
   refine' L2.aO KX G ?a ?o
   (case a=>k_is);(case o=>kernel_rfl)
  have w_Blank_bool:PySem.W.kitOne (L2.KOf KX) (.type "bool") (.ref (L2.aD mg "Blank"))=some false:=by
   dsimp only [L2.KOf]
   refine' L2.aO KX G ?a ?o
   (case a=>k_is);(case o=>kernel_rfl)
  have w_Blank_dict:PySem.W.kitOne (L2.KOf KX) (.type "dict") (.ref (L2.aD mg "Blank"))=some false:=by
   dsimp only [L2.KOf]
   refine' L2.aO KX G ?a ?o
   (case a=>k_is);(case o=>kernel_rfl)
  have w_One_str:PySem.W.kitOne (L2.KOf KX) (.type "str") (.ref (L2.aD mg "One"))=some false:=by
   dsimp only [L2.KOf]
   refine' L2.aO KX G ?a ?o
   (case a=>k_is);(case o=>kernel_rfl)
  have w_One_int:PySem.W.kitOne (L2.KOf KX) (.type "int") (.ref (L2.aD mg "One"))=some false:=by
   dsimp only [L2.KOf]
   refine' L2.aO KX G ?a ?o
   (case a=>k_is);(case o=>kernel_rfl)
  have w_One_list:PySem.W.kitOne (L2.KOf KX) (.type "list") (.ref (L2.aD mg "One"))=some false:=by
   dsimp only [L2.KOf]
   refine' L2.aO KX G ?a ?o
   (case a=>k_is);(case o=>kernel_rfl)
  have w_One_tuple:PySem.W.kitOne (L2.KOf KX) (.type "tuple") (.ref (L2.aD mg "One"))=some false:=by
   dsimp only [L2.KOf]
   refine' L2.aO KX G ?a ?o
   (case a=>k_is);(case o=>kernel_rfl)
  have w_One_NoneType:PySem.W.kitOne (L2.KOf KX) (.type "NoneType") (.ref (L2.aD mg "One"))=some false:=by
   dsimp only [L2.KOf]
   refine' L2.aO KX G ?a ?o
   (case a=>k_is);(case o=>kernel_rfl)
  have w_One_bool:PySem.W.kitOne (L2.KOf KX) (.type "bool") (.ref (L2.aD mg "One"))=some false:=by
   dsimp only [L2.KOf]
   refine' L2.aO KX G ?a ?o
   (case a=>k_is);(case o=>kernel_rfl)
  have w_One_dict:PySem.W.kitOne (L2.KOf KX) (.type "dict") (.ref (L2.aD mg "One"))=some false:=by
   dsimp only [L2.KOf]
   refine' L2.aO KX G ?a ?o
   (case a=>k_is);(case o=>kernel_rfl)
  have w_Over_str:PySem.W.kitOne (L2.KOf KX) (.type "str") (.ref (L2.aD mg "Over"))=some false:=by
   dsimp only [L2.KOf]
   refine' L2.aO KX G ?a ?o
   (case a=>k_is);(case o=>kernel_rfl)
  have w_Over_int:PySem.W.kitOne (L2.KOf KX) (.type "int") (.ref (L2.aD mg "Over"))=some false:=by
   dsimp only [L2.KOf]
   refine' L2.aO KX G ?a ?o
   (case a=>k_is);(case o=>kernel_rfl)
  have w_Over_list:PySem.W.kitOne (L2.KOf KX) (.type "list") (.ref (L2.aD mg "Over"))=some false:=by
   dsimp only [L2.KOf]
   refine' L2.aO KX G ?a ?o
   (case a=>k_is);(case o=>kernel_rfl)
  have w_Over_tuple:PySem.W.kitOne (L2.KOf KX) (.type "tuple") (.ref (L2.aD mg "Over"))=some false:=by
   dsimp only [L2.KOf]
   refine' L2.aO KX G ?a ?o
   (case a=>k_is);(case o=>kernel_rfl)
  have w_Over_NoneType:PySem.W.kitOne (L2.KOf KX) (.type "NoneType") (.ref (L2.aD mg "Over"))=some false:=by
   dsimp only [L2.KOf]
   refine' L2.aO KX G ?a ?o
   (case a=>k_is);(case o=>kernel_rfl)
  have w_Over_bool:PySem.W.kitOne (L2.KOf KX) (.type "bool") (.ref (L2.aD mg "Over"))=some false:=by
   dsimp only [L2.KOf]
   refine' L2.aO KX G ?a ?o
   (case a=>k_is);(case o=>kernel_rfl)
  have w_Over_dict:PySem.W.kitOne (L2.KOf KX) (.type "dict") (.ref (L2.aD mg "Over"))=some false:=by
   dsimp only [L2.KOf]
   refine' L2.aO KX G ?a ?o
   (case a=>k_is);(case o=>kernel_rfl)
  have w_Beside_str:PySem.W.kitOne (L2.KOf KX) (.type "str") (.ref (L2.aD mg "Beside"))=some false:=by
   dsimp only [L2.KOf]
   refine' L2.aO KX G ?a ?o
   (case a=>k_is);(case o=>kernel_rfl)
  have w_Beside_int:PySem.W.kitOne (L2.KOf KX) (.type "int") (.ref (L2.aD mg "Beside"))=some false:=by
   dsimp only [L2.KOf]
   refine' L2.aO KX G ?a ?o
   (case a=>k_is);(case o=>kernel_rfl)
  have w_Beside_list:PySem.W.kitOne (L2.KOf KX) (.type "list") (.ref (L2.aD mg "Beside"))=some false:=by
   dsimp only [L2.KOf]
   refine' L2.aO KX G ?a ?o
   (case a=>k_is);(case o=>kernel_rfl)
  have w_Beside_tuple:PySem.W.kitOne (L2.KOf KX) (.type "tuple") (.ref (L2.aD mg "Beside"))=some false:=by
   dsimp only [L2.KOf]
   refine' L2.aO KX G ?a ?o
   (case a=>k_is);(case o=>kernel_rfl)
  have w_Beside_NoneType:PySem.W.kitOne (L2.KOf KX) (.type "NoneType") (.ref (L2.aD mg "Beside"))=some false:=by
   dsimp only [L2.KOf]
   refine' L2.aO KX G ?a ?o
   (case a=>k_is);(case o=>kernel_rfl)
  have w_Beside_bool:PySem.W.kitOne (L2.KOf KX) (.type "bool") (.ref (L2.aD mg "Beside"))=some false:=by
   dsimp only [L2.KOf]
   refine' L2.aO KX G ?a ?o
   (case a=>k_is);(case o=>kernel_rfl)
  have w_Beside_dict:PySem.W.kitOne (L2.KOf KX) (.type "dict") (.ref (L2.aD mg "Beside"))=some false:=by
   dsimp only [L2.KOf]
   refine' L2.aO KX G ?a ?o
   (case a=>k_is);(case o=>kernel_rfl)
  have m_Piece___init__:L2.Df (L2.KOf KX) mg "Piece" "__init__" "Piece.__init__" My.aX:=by
   dsimp only [L2.KOf]
   refine' L2.WP KX G ?a ?s ?r ?i ?l ?c ?k
   (case a=>k_is);(case s=>first | k_is | kernel_rfl);(case r=>kernel_rfl);(case i=>first | k_is | kernel_rfl);(case l=>k_is);(case c=>k_is);(case k=>k_is)
  have m_Piece_side:L2.lY (L2.KOf KX) mg ["Blank","One","Over","Beside"] "side" "Piece.side" My.lr:=by
   dsimp only [L2.KOf]
   refine' L2.rD KX G ?a1 ?a2 ?a3 ?a4 ?i1 ?i2 ?i3 ?i4 ?n ?l ?c ?k
   (case a1=>k_is);(case a2=>k_is);(case a3=>k_is);(case a4=>k_is);(case i1=>k_is);(case i2=>k_is);(case i3=>k_is);(case i4=>k_is);(case n=>first | k_is | kernel_rfl);(case l=>k_is);(case c=>k_is);(case k=>k_is)
  have m_Piece_top:L2.lY (L2.KOf KX) mg ["Blank","One","Over","Beside"] "top" "Piece.top" My.mj:=by
   dsimp only [L2.KOf]
   refine' L2.rD KX G ?a1 ?a2 ?a3 ?a4 ?i1 ?i2 ?i3 ?i4 ?n ?l ?c ?k
   (case a1=>k_is);(case a2=>k_is);(case a3=>k_is);(case a4=>k_is);(case i1=>k_is);(case i2=>k_is);(case i3=>k_is);(case i4=>k_is);(case n=>first | k_is | kernel_rfl);(case l=>k_is);(case c=>k_is);(case k=>k_is)
  have m_Piece_kind:L2.lY (L2.KOf KX) mg ["Blank","One","Over","Beside"] "kind" "Piece.kind" My.lu:=by
   dsimp only [L2.KOf]
   refine' L2.rD KX G ?a1 ?a2 ?a3 ?a4 ?i1 ?i2 ?i3 ?i4 ?n ?l ?c ?k
   (case a1=>k_is);(case a2=>k_is);(case a3=>k_is);(case a4=>k_is);(case i1=>k_is);(case i2=>k_is);(case i3=>k_is);(case i4=>k_is);(case n=>first | k_is | kernel_rfl);(case l=>k_is);(case c=>k_is);(case k=>k_is)
  have m_Piece_lines:L2.lY (L2.KOf KX) mg ["Blank","One","Over","Beside"] "lines" "Piece.lines" My.iW:=by
   dsimp only [L2.KOf]
   refine' L2.rD KX G ?a1 ?a2 ?a3 ?a4 ?i1 ?i2 ?i3 ?i4 ?n ?l ?c ?k
   (case a1=>k_is);(case a2=>k_is);(case a3=>k_is);(case a4=>k_is);(case i1=>k_is);(case i2=>k_is);(case i3=>k_is);(case i4=>k_is);(case n=>first | k_is | kernel_rfl);(case l=>k_is);(case c=>k_is);(case k=>k_is)
  have m_Piece_parts:L2.lY (L2.KOf KX) mg ["Blank","One","Over","Beside"] "parts" "Piece.parts" My.iY:=by
   dsimp only [L2.KOf]
   refine' L2.rD KX G ?a1 ?a2 ?a3 ?a4 ?i1 ?i2 ?i3 ?i4 ?n ?l ?c ?k
   (case a1=>k_is);(case a2=>k_is);(case a3=>k_is);(case a4=>k_is);(case i1=>k_is);(case i2=>k_is);(case i3=>k_is);(case i4=>k_is);(case n=>first | k_is | kernel_rfl);(case l=>k_is);(case c=>k_is);(case k=>k_is)
  have m_Piece_height:L2.lY (L2.KOf KX) mg ["Blank","One","Over","Beside"] "height" "Piece.height" My.jD:=by
   dsimp only [L2.KOf]
   refine' L2.rD KX G ?a1 ?a2 ?a3 ?a4 ?i1 ?i2 ?i3 ?i4 ?n ?l ?c ?k
   (case a1=>k_is);(case a2=>k_is);(case a3=>k_is);(case a4=>k_is);(case i1=>k_is);(case i2=>k_is);(case i3=>k_is);(case i4=>k_is);(case n=>first | k_is | kernel_rfl);(case l=>k_is);(case c=>k_is);(case k=>k_is)
  have m_Blank___init__:L2.u6 (L2.KOf KX) mg "Blank" "__init__" "Blank.__init__" My.bh:=by
   dsimp only [L2.KOf]
   refine' L2.Dd KX G ?a ?i ?n ?l ?c ?k
   (case a=>k_is);(case i=>k_is);(case n=>first | k_is | kernel_rfl);(case l=>k_is);(case c=>k_is);(case k=>k_is)
  have m_One___init__:L2.u6 (L2.KOf KX) mg "One" "__init__" "One.__init__" My.dW:=by
   dsimp only [L2.KOf]
   refine' L2.Dd KX G ?a ?i ?n ?l ?c ?k
   (case a=>k_is);(case i=>k_is);(case n=>first | k_is | kernel_rfl);(case l=>k_is);(case c=>k_is);(case k=>k_is)
  have m_Over___init__:L2.u6 (L2.KOf KX) mg "Over" "__init__" "Over.__init__" My.aR:=by
   dsimp only [L2.KOf]
   refine' L2.Dd KX G ?a ?i ?n ?l ?c ?k
   (case a=>k_is);(case i=>k_is);(case n=>first | k_is | kernel_rfl);(case l=>k_is);(case c=>k_is);(case k=>k_is)
  have m_Beside___init__:L2.u6 (L2.KOf KX) mg "Beside" "__init__" "Beside.__init__" My.aN:=by
   dsimp only [L2.KOf]
   refine' L2.Dd KX G ?a ?i ?n ?l ?c ?k
   (case a=>k_is);(case i=>k_is);(case n=>first | k_is | kernel_rfl);(case l=>k_is);(case c=>k_is);(case k=>k_is)
  exact ⟨d_law,fun base f fd F=>My.Vp ⟨b_all,b_bool,b_enumerate,b_int,b_isinstance,b_len,b_list,b_max,b_min,b_range,b_reversed,b_str,b_tuple,c_LETTERS,c_MOST_LINES,c_MOST_SIGNS,c_POINT,d_is_number,d_is_within,d_is_letter,d_is_sign,d_need_place,d_need_sign,d_is_turning,d_need_turning,d_straight,d_opposite,d_do_steps,d_steps_of,d_need_alike,d_laid,d_is_row,d_need_row,d_need_rows,d_need_pieces,d_need_same,d_need_short,d_lines_over,d_lines_beside,d_strip,d_all_beside,d_all_over,d_balanced,d_law_cell,d_law_mix,d_law_takes,d_law_sign,d_law_base,d_law_text,d_law_lines,d_law_whole,d_law_list,d_law_is,d_law_flags,d_law_is_kind,d_law_strip,d_law_balanced,d_law,x_NoRow,x_NoLetter,x_NoPlace,x_NoTurning,x_NoPiece,x_Unlike,x_TooLong,o_Piece,n_Piece,o_Blank,n_Blank,o_One,n_One,o_Over,n_Over,o_Beside,n_Beside,os_Piece,t_Blank,t_One,t_Over,t_Beside,u_Blank_Piece,u_Blank_Blank,u_Blank_One,u_Blank_Over,u_Blank_Beside,u_One_Piece,u_One_Blank,u_One_One,u_One_Over,u_One_Beside,u_Over_Piece,u_Over_Blank,u_Over_One,u_Over_Over,u_Over_Beside,u_Beside_Piece,u_Beside_Blank,u_Beside_One,u_Beside_Over,u_Beside_Beside,w_Piece_str,w_Piece_int,w_Piece_list,w_Piece_tuple,w_Piece_NoneType,w_Piece_bool,w_Piece_dict,w_Blank_str,w_Blank_int,w_Blank_list,w_Blank_tuple,w_Blank_NoneType,w_Blank_bool,w_Blank_dict,w_One_str,w_One_int,w_One_list,w_One_tuple,w_One_NoneType,w_One_bool,w_One_dict,w_Over_str,w_Over_int,w_Over_list,w_Over_tuple,w_Over_NoneType,w_Over_bool,w_Over_dict,w_Beside_str,w_Beside_int,w_Beside_list,w_Beside_tuple,w_Beside_NoneType,w_Beside_bool,w_Beside_dict,m_Piece___init__,m_Piece_side,m_Piece_top,m_Piece_kind,m_Piece_lines,m_Piece_parts,m_Piece_height,m_Blank___init__,m_One___init__,m_Over___init__,m_Beside___init__⟩ F⟩
